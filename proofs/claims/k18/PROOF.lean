import PyProof.Rows.All
import Wide.All
import OpenK.AllK
import Wide.FinOn
import Lean
import PyProof.EqAt
import PyProof.EqKinds
import PyProof.TupleCall
import PySem.Challenge.RW_fivefields_k18_moments_refused
set_option Elab.async false
set_option linter.all false
set_option maxRecDepth 100000
/-! THE HAND LAYER, for ints, bools, texts, own classes, LISTS and tuples (index, slices, in, append, pop ..), calls, loops. Paste it whole ahead of your own text; what your proof does not reach may be deleted. -/
namespace L2
open PySem PySem.Spec PyProof.Rows

/-- a key: an int or a str -/
abbrev Key := Sum Int Str
def keyIs : Key → Value → Bool
  | .inl k, v => Value.isInt k v
  | .inr x, v => Value.isStrOf x v
def keyH (w : World) : Key → Int
  | .inl k => hashInt k
  | .inr x => hashStr w x
theorem keyIs_shape : ∀ {k : Key} {v : Value}, keyIs k v = true → (∃ i t, k = Sum.inl i ∧ v = Value.int i t) ∨ (∃ x t, k = Sum.inr x ∧ v = Value.str x t)
  | .inl i, v, h => by
    obtain ⟨t, e⟩ := Value.isInt_shape (k := i) (v := v) h
    exact .inl ⟨i, t, rfl, e⟩
  | .inr x, v, h => by
    obtain ⟨t, e⟩ := Value.isStrOf_shape (x := x) (v := v) h
    exact .inr ⟨x, t, rfl, e⟩
theorem keyIs_int (i : Int) (t : Tok) : keyIs (.inl i) (.int i t) = true := by simp [keyIs, Value.isInt]
theorem keyIs_str (x : Str) (t : Tok) : keyIs (.inr x) (.str x t) = true := by simp [keyIs, Value.isStrOf]
theorem key_ll (a b : Int) : decide ((Sum.inl a : Key) = Sum.inl b) = (a == b) := by
  by_cases e : a = b
  · subst e; simp
  · have h : ¬ (Sum.inl a : Key) = Sum.inl b := fun q => e (Sum.inl.inj q)
    rw [decide_eq_false h]
    exact (beq_eq_false_iff_ne.mpr e).symm
theorem key_rr (a b : Str) : decide ((Sum.inr a : Key) = Sum.inr b) = decide (a = b) := by
  by_cases e : a = b
  · subst e; simp
  · have h : ¬ (Sum.inr a : Key) = Sum.inr b := fun q => e (Sum.inr.inj q)
    rw [decide_eq_false h, decide_eq_false e]
theorem key_lr (a : Int) (b : Str) : decide ((Sum.inl a : Key) = Sum.inr b) = false := decide_eq_false (fun q => nomatch q)
theorem key_rl (a : Str) (b : Int) : decide ((Sum.inr a : Key) = Sum.inl b) = false := decide_eq_false (fun q => nomatch q)

def mixKind (prog : Program) (w : World) : PySem.KeyKind prog w Key where
  is := keyIs
  hash := keyH w
  inj := fun v a b ha hb => by
    rcases keyIs_shape ha with ⟨i, t, rfl, rfl⟩ | ⟨x, t, rfl, rfl⟩
    · rcases keyIs_shape hb with ⟨j, u, rfl, e⟩ | ⟨y, u, rfl, e⟩
      · injection e with e1 _; rw [e1]
      · exact nomatch e
    · rcases keyIs_shape hb with ⟨j, u, rfl, e⟩ | ⟨y, u, rfl, e⟩
      · exact nomatch e
      · injection e with e1 _; rw [e1]
  byValue := fun k v h => by
    rcases keyIs_shape h with ⟨i, t, rfl, rfl⟩ | ⟨x, t, rfl, rfl⟩ <;> rfl
  pyHash := fun hv h => by
    rcases keyIs_shape hv with ⟨i, t, rfl, rfl⟩ | ⟨x, t, rfl, rfl⟩
    · exact wpAny_pyHash_int h
    · exact wpAny_pyHash_str h
  eqBool := fun hu hv h => by
    rcases keyIs_shape hu with ⟨i, t, rfl, rfl⟩ | ⟨x, t, rfl, rfl⟩
    · rcases keyIs_shape hv with ⟨j, u, rfl, rfl⟩ | ⟨y, u, rfl, rfl⟩
      · rw [key_ll] at h; exact wpAny_eqBool_int h
      · rw [key_lr] at h; exact SeqAt.EqAt.int_str i t y u _ _ _ _ h
    · rcases keyIs_shape hv with ⟨j, u, rfl, rfl⟩ | ⟨y, u, rfl, rfl⟩
      · rw [key_rl] at h; exact SeqAt.EqAt.str_int x t j u _ _ _ _ h
      · rw [key_rr] at h; exact wpAny_eqBool_str h
  «strs» := fun k x t v h => by
    rcases keyIs_shape h with ⟨i, u, rfl, e⟩ | ⟨y, u, rfl, e⟩
    · exact nomatch e
    · injection e with e1 _
      subst e1
      cases v <;> rfl

theorem mixKind_int (prog : Program) (w : World) (i : Int) (t : Tok) : (mixKind prog w).is (.inl i) (.int i t) = true := keyIs_int i t
theorem mixKind_str (prog : Program) (w : World) (x : Str) (t : Tok) : (mixKind prog w).is (.inr x) (.str x t) = true := keyIs_str x t
end L2

namespace L2
open PySem PySem.Spec PyProof.Rows

/-- a value, without the heap -/
inductive V where
  | non | bl (b : Bool) | int (i : Int) | str (x : Str) | byt (b : Array UInt8) | flt (b : UInt64) | ref (a : Addr) | ty (n : String)
  deriving DecidableEq

def RelV : V → Value → Prop
  | .non, u => u = Value.none
  | .bl b, u => u = Value.bool b
  | .int i, u => ∃ t, u = Value.int i t
  | .str x, u => ∃ t, u = Value.str x t
  | .byt b, u => ∃ t, u = Value.bytes b t
  | .flt b, u => ∃ t, u = Value.float b t
  | .ref a, u => u = Value.ref a
  | .ty n, u => u = Value.type n

abbrev Vals : List V → List Value → Prop := Paired RelV
theorem Vals.length {xs : List V} {us : List Value} (r : Vals xs us) : xs.length = us.length := Paired.length r
theorem Vals.get : ∀ {xs : List V} {us : List Value} {i : Nat} {x : V}, Vals xs us → xs[i]? = some x → ∃ u, us[i]? = some u ∧ RelV x u
  | _, _, _, _, .nil, e => by simp at e
  | _, _, 0, _, .cons r _, e => by simp at e; subst e; exact ⟨_, rfl, r⟩
  | _, _, i + 1, x, .cons _ t, e => by
    obtain ⟨u, h1, h2⟩ := Vals.get (i := i) (x := x) t (by simpa using e)
    exact ⟨u, by simpa using h1, h2⟩
theorem Vals.set {x : V} {u : Value} (r : RelV x u) : ∀ {xs : List V} {us : List Value} (i : Nat), Vals xs us → Vals (xs.set i x) (us.set i u)
  | _, _, _, .nil => .nil
  | _, _, 0, .cons _ t => .cons r t
  | _, _, i + 1, .cons q t => .cons q (Vals.set r i t)
theorem Vals.append : ∀ {xs ys : List V} {us ws : List Value}, Vals xs us → Vals ys ws → Vals (xs ++ ys) (us ++ ws)
  | _, _, _, _, .nil, s => s
  | _, _, _, _, .cons r t, s => .cons r (Vals.append t s)
theorem Vals.take : ∀ {xs : List V} {us : List Value} (n : Nat), Vals xs us → Vals (xs.take n) (us.take n)
  | _, _, 0, _ => .nil
  | _, _, _ + 1, .nil => .nil
  | _, _, n + 1, .cons r t => .cons r (Vals.take n t)
theorem Vals.drop : ∀ {xs : List V} {us : List Value} (n : Nat), Vals xs us → Vals (xs.drop n) (us.drop n)
  | _, _, 0, r => r
  | _, _, _ + 1, .nil => .nil
  | _, _, n + 1, .cons _ t => Vals.drop n t
def RelO : Option V → Option Value → Prop
  | some v, some u => RelV v u
  | none, none => True
  | _, _ => False
def KV {κ : Type} : List (κ × V) → List (κ × Value) → Prop := Paired fun (p : κ × V) (q : κ × Value) => p.1 = q.1 ∧ RelV p.2 q.2

/-- a key of a dict (00_mix): an int or a text -/
def kV : Key → V
  | .inl i => .int i
  | .inr x => .str x

/-- what stands at a tracked address -/
inductive HO where
  /-- a list -/
  | lst (xs : List V)
  /-- a tuple (never changes) -/
  | tup (xs : List V)
  /-- a dict whose keys are ints and texts; one whose keys are tuples of ints and texts (the empty one is both) -/
  | dK (kvs : List (Key × V)) | dT (kvs : List (List Key × V))
  /-- a set of ints: its members, its size -/
  | set (S : Int → Bool) (n : Nat)
  /-- an instance of the class at C, its dict at dx, its attributes -/
  | ins (C dx : Addr) (fs : List (Str × V))
  /-- the dict of the instance at x -/
  | own (x : Addr)
  /-- the dict of an exception -/
  | xd (fs : List (Str × V))
  /-- a bound method, f of x -/
  | met (f x : Addr)
  /-- a range object lo, lo + 1, .. below hi -/
  | rng (lo hi : Int)
  /-- a thing that is known to the object (the script; a dict while a loop walks it): read, never written while it is so -/
  | frz (o : Obj) (u : HO)
  /-- a code object's table -/
  | tbl (ps : Array Value)
  /-- any other thing, by what is true of its one object (a def of one's own: SetO a S n := HO.ext fun h => ..) -/
  | ext (φ : Heap → Prop)

abbrev Hp := Addr → Option HO
def upd (H : Hp) (a : Addr) (o : HO) : Hp := fun b => if b = a then some o else H b
theorem upd_same {H : Hp} {a : Addr} {o : HO} : upd H a o a = some o := by unfold upd; rw [if_pos rfl]
theorem upd_ne {H : Hp} {a b : Addr} {o : HO} (h : b ≠ a) : upd H a o b = H b := by unfold upd; rw [if_neg h]
/-- two objects of different content stand apart -/
theorem ne_of {H : Hp} {a b : Addr} {o u : HO} (h : H a = some o) (h' : H b = some u) (d : o ≠ u) : a ≠ b := by
  intro e; subst e; rw [h] at h'; exact d (Option.some.inj h')
theorem ne_of_none {H : Hp} {a b : Addr} {o : HO} (h : H a = some o) (h' : H b = none) : a ≠ b := by
  intro e; subst e; rw [h] at h'; cases h'

section
variable (P : Program) (w : World)
def ObjOk (H : Hp) (h : Heap) (a : Addr) : HO → Prop
  | .lst xs => xs.length ≤ sizeLine ∧ ∃ (its : List Value) (n : Nat), Vals xs its ∧ h.get? a = some { cls := .type "list", data := .seq its.toArray n }
  | .tup xs => xs.length ≤ sizeLine ∧ ∃ its : List Value, Vals xs its ∧ IsTup h a its.toArray
  | .dK kvs => kvs.length ≤ sizeLine ∧ (a == sysModules) = false ∧ ∃ vs, KV kvs vs ∧ h.DictOf (mixKind P w) a vs
  | .dT kvs => kvs.length ≤ sizeLine ∧ (a == sysModules) = false ∧ ∃ xs : List (List Key × Addr × Value),
      Paired (fun (p : List Key × V) (q : List Key × Addr × Value) => p.1 = q.1 ∧ H q.2.1 = some (.tup (p.1.map kV)) ∧ RelV p.2 q.2.2) kvs xs ∧
      ∃ o es ep, h.get? a = some o ∧ o.ExactDict ∧ o.data = .dict es ep ∧ es.toList = xs.map (entryOfKey (tupleKind (mixKind P w))) ∧ (xs.map (·.1)).Nodup
  | .set S n => h.SetOf (intKind P w) a S n
  | .ins C dx fs => H dx = some (.own a) ∧ fs.length ≤ 1000 ∧ dx ≠ a ∧ h.get? a = some (PySem.W.instObj C dx) ∧
      ∃ mA, h.Ns1 dx mA ∧ (∀ f, RelO (fs.lookup f) (mA f)) ∧ PySem.Within mA (fs.map (·.1))
  | .own _ => ∃ o, h.get? a = some o
  | .xd fs => ∃ mA, h.Ns1 a mA ∧ ∀ f, RelO (fs.lookup f) (mA f)
  | .rng lo hi => ∃ t u v, h.get? a = some { cls := .type "range", data := .fields #[.int lo t, .int hi u, .int 1 v] }
  | .frz o u => h.get? a = some o ∧ ObjOk H h a u
  | .tbl ps => h.get? a = some { cls := .none, data := .fields ps }
  | .met f x => h.get? a = some (PySem.W.methodObj (.ref f) (.ref x))
  | .ext φ => φ h ∧ (∃ o, h.get? a = some o) ∧ ∀ h1 h2 : Heap, φ h1 → (∀ o, h1.get? a = some o → h2.get? a = some o) → φ h2
/-- the abstract heap is held -/
def HOk (H : Hp) (h : Heap) : Prop := ∀ a o, H a = some o → ObjOk P w H h a o
end

section
variable {P : Program} {w : World} {H H' : Hp} {h h' : Heap} {a : Addr} {o : HO}
theorem ObjOk.lt (x : ObjOk P w H h a o) : a < h.objs.size := by
  cases o with
  | lst xs => obtain ⟨_, _, _, _, e⟩ := x; exact Heap.lt_size e
  | tup xs => obtain ⟨_, _, _, p⟩ := x; exact p.lt
  | dK kvs => obtain ⟨_, _, _, _, o, _, _, e, _⟩ := x; exact Heap.lt_size e
  | dT kvs => obtain ⟨_, _, _, _, o, _, _, e, _⟩ := x; exact Heap.lt_size e
  | set S n => obtain ⟨o, _, _, _, e, _⟩ := x; exact Heap.lt_size e
  | ins C dx fs => obtain ⟨_, _, _, e, _⟩ := x; exact Heap.lt_size e
  | own y => obtain ⟨_, e⟩ := x; exact Heap.lt_size e
  | xd fs => obtain ⟨_, ⟨_, _, _, e, _⟩, _⟩ := x; exact Heap.lt_size e
  | rng lo hi => obtain ⟨_, _, _, e⟩ := x; exact Heap.lt_size e
  | frz ob u => obtain ⟨e, _⟩ := x; exact Heap.lt_size e
  | tbl ps => exact Heap.lt_size (show h.get? a = some _ from x)
  | met f y => exact Heap.lt_size (show h.get? a = some _ from x)
  | ext φ => obtain ⟨_, ⟨_, e⟩, _⟩ := x; exact Heap.lt_size e
theorem Paired.mapP {α β : Type} {F G : α → β → Prop} : ∀ {l₁ : List α} {l₂ : List β}, Paired F l₁ l₂ → (∀ a b, F a b → G a b) → Paired G l₁ l₂
  | _, _, .nil, _ => .nil
  | _, _, .cons r t, f => .cons (f _ _ r) (Paired.mapP t f)
/-- what an object's description leans on: its own object, its own dict, the tuples -/
theorem ObjOk.stay (x : ObjOk P w H h a o) (k : ∀ b u, (b = a ∨ H b = some (.own a)) → h.get? b = some u → h'.get? b = some u)
    (ho : ∀ b, H b = some (.own a) → H' b = some (.own a)) (ht : ∀ b xs, H b = some (.tup xs) → H' b = some (.tup xs)) : ObjOk P w H' h' a o := by
  induction o with
  | lst xs => obtain ⟨z, its, n, r, e⟩ := x; exact ⟨z, its, n, r, k _ _ (.inl rfl) e⟩
  | tup xs => obtain ⟨z, its, r, ob, e, c⟩ := x; exact ⟨z, its, r, ob, k _ _ (.inl rfl) e, c⟩
  | dK kvs => obtain ⟨z, y, vs, r, ob, es, ep, e, c⟩ := x; exact ⟨z, y, vs, r, ob, es, ep, k _ _ (.inl rfl) e, c⟩
  | dT kvs =>
    obtain ⟨z, y, xs, r, ob, es, ep, e, c⟩ := x
    exact ⟨z, y, xs, Paired.mapP r fun p q z => ⟨z.1, ht _ _ z.2.1, z.2.2⟩, ob, es, ep, k _ _ (.inl rfl) e, c⟩
  | set S n => obtain ⟨ob, es, ep, t, e, c⟩ := x; exact ⟨ob, es, ep, t, k _ _ (.inl rfl) e, c⟩
  | ins C dx fs =>
    obtain ⟨d, z, ne, e, mA, ⟨od, es, ep, e2, c⟩, r⟩ := x
    exact ⟨ho _ d, z, ne, k _ _ (.inl rfl) e, mA, ⟨od, es, ep, k _ _ (.inr d) e2, c⟩, r⟩
  | own y => obtain ⟨ob, e⟩ := x; exact ⟨ob, k _ _ (.inl rfl) e⟩
  | xd fs => obtain ⟨mA, ⟨od, es, ep, e, c⟩, r⟩ := x; exact ⟨mA, ⟨od, es, ep, k _ _ (.inl rfl) e, c⟩, r⟩
  | rng lo hi => obtain ⟨t, u, v, e⟩ := x; exact ⟨t, u, v, k _ _ (.inl rfl) e⟩
  | frz ob u ih => obtain ⟨e, q⟩ := x; exact ⟨k _ _ (.inl rfl) e, ih q⟩
  | tbl ps =>
    have e : h.get? a = some { cls := .none, data := .fields ps } := x
    show h'.get? a = some { cls := .none, data := .fields ps }
    exact k a _ (.inl rfl) e
  | met f y =>
    have e : h.get? a = some (PySem.W.methodObj (.ref f) (.ref y)) := x
    show h'.get? a = some (PySem.W.methodObj (.ref f) (.ref y))
    exact k a _ (.inl rfl) e
  | ext φ => obtain ⟨p, ⟨o, e⟩, st⟩ := x; exact ⟨st _ _ p fun o q => k _ _ (.inl rfl) q, ⟨o, k _ _ (.inl rfl) e⟩, st⟩
theorem HOk.lt (x : HOk P w H h) (e : H a = some o) : a < h.objs.size := (x a o e).lt
theorem HOk.fresh (x : HOk P w H h) (e : h.objs.size ≤ a) : H a = none := by
  cases q : H a with
  | none => rfl
  | some u => exact absurd (Nat.lt_of_lt_of_le (x.lt q) e) (Nat.lt_irrefl _)
/-- every object of the heap is kept -/
theorem HOk.kept (x : HOk P w H h) (k : ∀ b u, h.get? b = some u → h'.get? b = some u) : HOk P w H h' := fun a o e =>
  (x a o e).stay (fun b u _ q => k b u q) (fun _ q => q) fun _ _ q => q
/-- a new object is laid and tracked -/
theorem HOk.laid (x : HOk P w H h) (k : ∀ b u, h.get? b = some u → h'.get? b = some u) (hp : h.objs.size ≤ a) (new : ObjOk P w (upd H a o) h' a o) : HOk P w (upd H a o) h' := fun b u e => by
  have hn := x.fresh hp
  by_cases hb : b = a
  · subst hb; rw [upd_same] at e; cases e; exact new
  · rw [upd_ne hb] at e
    exact (x b u e).stay (fun c v _ q => k c v q) (fun c q => by rw [upd_ne (ne_of_none q hn)]; exact q) fun c xs q => by rw [upd_ne (ne_of_none q hn)]; exact q
end

/-- what may be read as u: it is u, or a known u -/
def Rd (H : Hp) (a : Addr) (u : HO) : Prop := H a = some u ∨ ∃ o, H a = some (.frz o u)
theorem Rd.of {H : Hp} {a : Addr} {u : HO} (h : H a = some u) : Rd H a u := .inl h
theorem Rd.ok {P : Program} {w : World} {H : Hp} {h : Heap} {a : Addr} {u : HO} (r : Rd H a u) (x : HOk P w H h) : ObjOk P w H h a u := by
  rcases r with r | ⟨o, r⟩
  · exact x a u r
  · obtain ⟨_, q⟩ := x a _ r
    exact q
/-- what may be written -/
def Mut : Option HO → Prop
  | some (.lst _) => True
  | some (.dK _) => True
  | some (.dT _) => True
  | some (.set _ _) => True
  | some (.ins _ _ _) => True
  | some (.ext _) => True
  | _ => False
section
variable {P : Program} {w : World} {H : Hp} {h h' : Heap} {x e : Addr} {o' : HO}
/-- the object at e is changed: x itself, or the dict of the instance x -/
theorem HOk.write (ok : HOk P w H h) (mu : Mut (H x)) (he : e = x ∨ H e = some (.own x)) (k : ∀ b u, b ≠ e → h.get? b = some u → h'.get? b = some u) (heo : ∃ u, h'.get? e = some u)
    (new : ObjOk P w (upd H x o') h' x o') : HOk P w (upd H x o') h' := fun b u q => by
  have nown : ∀ c y, H c = some (.own y) → c ≠ x := fun c y r z => by subst z; rw [r] at mu; exact mu
  have ntup : ∀ c xs, H c = some (.tup xs) → c ≠ x := fun c xs r z => by subst z; rw [r] at mu; exact mu
  by_cases hb : b = x
  · subst hb; rw [upd_same] at q; cases q; exact new
  · rw [upd_ne hb] at q
    by_cases hbe : b = e
    · have q' : H b = some (.own x) := by
        rcases he with z | z
        · exact absurd (hbe.trans z) hb
        · rw [hbe]; exact z
      rw [q] at q'; cases q'
      obtain ⟨v, hv⟩ := heo
      exact ⟨v, by rw [hbe]; exact hv⟩
    · refine (ok b u q).stay (fun c v hc r => k c v ?_ r) (fun c r => by rw [upd_ne (nown c b r)]; exact r) fun c xs r => by rw [upd_ne (ntup c xs r)]; exact r
      rcases hc with rfl | hc
      · exact hbe
      · rintro rfl
        rcases he with z | z
        · exact nown c b hc z
        · rw [hc] at z; cases z; exact hb rfl
end

/-! ### kept unless tracked; of the frames at fs (the callers') the slots may change (an exception that passes writes there); of the records at ex (iterators) nothing is said -/
structure Un (fs ex : List Addr) (H H' : Hp) (h h' : Heap) : Prop where
  keep : ∀ b o, h.get? b = some o → H b = none → b ∉ fs → b ∉ ex → h'.get? b = some o
  slot : ∀ b o, h.get? b = some o → H b = none → b ∈ fs → b ∉ ex → ∃ sl, h'.get? b = some { o with slots := sl }
  free : ∀ b o, h.get? b = some o → H b = none → b ∉ ex → H' b = none
  there : ∀ b o, h.get? b = some o → b ∉ ex → ∃ o', h'.get? b = some o'
  tups : ∀ b xs, H b = some (.tup xs) → H' b = some (.tup xs)
  frzs : ∀ b o u, H b = some (.frz o u) → H' b = some (.frz o u)
  tbls : ∀ b ps, H b = some (.tbl ps) → ∃ more, H' b = some (.tbl (ps ++ more))
section
variable {fs fs' ex ex' : List Addr} {H H1 H2 : Hp} {h h1 h2 h' : Heap} {a x e : Addr} {o : HO}
theorem Un.any (u : Un fs ex H H1 h h1) {b : Addr} {ob : Obj} (q : h.get? b = some ob) (n : H b = none) (hx : b ∉ ex) : ∃ sl, h1.get? b = some { ob with slots := sl } := by
  by_cases hb : b ∈ fs
  · exact u.slot b ob q n hb hx
  · exact ⟨ob.slots, u.keep b ob q n hb hx⟩
theorem Un.trans (a : Un fs ex H H1 h h1) (b : Un fs ex H1 H2 h1 h2) : Un fs ex H H2 h h2 where
  keep := fun c ob q n hc hx => b.keep c ob (a.keep c ob q n hc hx) (a.free c ob q n hx) hc hx
  slot := fun c ob q n hc hx => by
    obtain ⟨sl, e1⟩ := a.slot c ob q n hc hx
    obtain ⟨sl', e2⟩ := b.slot c _ e1 (a.free c ob q n hx) hc hx
    exact ⟨sl', e2⟩
  free := fun c ob q n hx => by
    obtain ⟨o', e1⟩ := a.there c ob q hx
    exact b.free c o' e1 (a.free c ob q n hx) hx
  there := fun c ob q hx => by
    obtain ⟨o', e1⟩ := a.there c ob q hx
    exact b.there c o' e1 hx
  tups := fun c xs q => b.tups c xs (a.tups c xs q)
  frzs := fun c ob xs q => b.frzs c ob xs (a.frzs c ob xs q)
  tbls := fun c ps q => by
    obtain ⟨m1, e1⟩ := a.tbls c ps q
    obtain ⟨m2, e2⟩ := b.tbls c _ e1
    exact ⟨m1 ++ m2, by rw [e2, Array.append_assoc]⟩
theorem Un.kept (k : ∀ b u, h.get? b = some u → h'.get? b = some u) : Un fs ex H H h h' :=
  ⟨fun b ob q _ _ _ => k b ob q, fun b ob q _ _ _ => ⟨ob.slots, k b ob q⟩, fun _ _ _ n _ => n, fun b ob q _ => ⟨ob, k b ob q⟩, fun _ _ q => q, fun _ _ _ q => q, fun _ ps q => ⟨#[], by rw [q]; simp⟩⟩
theorem Un.refl : Un fs ex H H h h := Un.kept fun _ _ q => q
theorem Un.laid (k : ∀ b u, h.get? b = some u → h'.get? b = some u) (hp : h.objs.size ≤ a) (hn : H a = none) : Un fs ex H (upd H a o) h h' where
  keep := fun b u q _ _ _ => k b u q
  slot := fun b u q _ _ _ => ⟨u.slots, k b u q⟩
  free := fun b u q n _ => by rw [upd_ne (Nat.ne_of_lt (Nat.lt_of_lt_of_le (Heap.lt_size q) hp))]; exact n
  there := fun b u q _ => ⟨u, k b u q⟩
  tups := fun b xs q => by rw [upd_ne (ne_of_none q hn)]; exact q
  frzs := fun b u xs q => by rw [upd_ne (ne_of_none q hn)]; exact q
  tbls := fun b ps q => ⟨#[], by rw [upd_ne (ne_of_none q hn), q]; simp⟩
theorem Un.write (mu : Mut (H x)) (he : e = x ∨ H e = some (.own x)) (k : ∀ b u, b ≠ e → h.get? b = some u → h'.get? b = some u) (heo : ∃ u, h'.get? e = some u) : Un fs ex H (upd H x o) h h' := by
  have hx : ∀ b, H b = none → b ≠ x := fun b n z => by subst z; rw [n] at mu; exact mu
  have hb : ∀ b, H b = none → b ≠ e := fun b n z => by
    subst z
    rcases he with r | r
    · exact hx b n r
    · rw [n] at r; cases r
  have hm : ∀ b u, H b = some u → ¬ Mut (some u) → b ≠ x := fun b u q nm z => by subst z; rw [q] at mu; exact nm mu
  refine ⟨fun b u q n _ _ => k b u (hb b n) q, fun b u q n _ _ => ⟨u.slots, k b u (hb b n) q⟩, fun b u q n _ => by rw [upd_ne (hx b n)]; exact n, fun b u q _ => ?_,
    fun b xs q => by rw [upd_ne (hm b _ q fun z => z)]; exact q, fun b u xs q => by rw [upd_ne (hm b _ q fun z => z)]; exact q, fun b ps q => ⟨#[], by rw [upd_ne (hm b _ q fun z => z), q]; simp⟩⟩
  by_cases hbe : b = e
  · subst hbe; exact heo
  · exact ⟨u, k b u hbe q⟩
theorem Un.mono (u : Un fs ex H H1 h h1) (hs : ∀ b ∈ fs, b ∈ fs') (hx : ∀ b ∈ ex, b ∈ ex') : Un fs' ex' H H1 h h1 :=
  ⟨fun b ob q n hb he => u.keep b ob q n (fun z => hb (hs b z)) fun z => he (hx b z), fun _ _ q n _ he => u.any q n fun z => he (hx _ z), fun b ob q n he => u.free b ob q n fun z => he (hx b z), fun b ob q he => u.there b ob q fun z => he (hx b z), u.tups, u.frzs, u.tbls⟩
end

/-! ### the heap without what is tracked -/
def trk (h : Heap) (H : Hp) : List Addr := (List.range h.objs.size).filter fun a => (H a).isSome
def hidT (h : Heap) (H : Hp) : Heap := PySem.W.hideAll h (trk h H)
theorem hidT_size (h : Heap) (H : Hp) : (hidT h H).objs.size = h.objs.size := PySem.W.hideAll_size _ _
theorem hidT_get {h : Heap} {H : Hp} {b : Addr} {o : Obj} (e : h.get? b = some o) (n : H b = none) : (hidT h H).get? b = some o :=
  PySem.W.hideAll_get _ e fun hm => by
    have q : (H b).isSome = true := (List.mem_filter.mp hm).2
    rw [n] at q; simp at q
theorem of_hidT {h : Heap} {H : Hp} {b : Addr} {o : Obj} (e : (hidT h H).get? b = some o) : h.get? b = some o ∧ H b = none := by
  have e' : h.get? b = some o := PySem.W.of_hideAll (trk h H) e
  refine ⟨e', ?_⟩
  cases q : H b with
  | none => rfl
  | some x =>
    have hm : b ∈ trk h H := List.mem_filter.mpr ⟨List.mem_range.mpr (Heap.lt_size e'), by simp [q]⟩
    have z : (hidT h H).get? b = none := PySem.W.hideAll_none (trk h H) hm
    rw [z] at e; cases e

/-! ### OpenK's ledger, filled with every new object but one -/
def allNews (g h : Heap) (L : Addr) : List (Addr × Obj) := (List.range h.objs.size).filterMap fun a => if a = L ∨ (g.get? a).isSome = true then none else (h.get? a).map fun o => (a, o)
def rest (g h : Heap) (L d : Addr) : List (Addr × Obj) := (allNews g h L).filter fun p => decide (p.1 ≠ d)
end L2

namespace L2
open PySem PySem.Spec PyProof.Rows

/-- the module's facts, over the base: the heap at the law's entry without what is tracked there -/
structure Mod (K : PySem.W.Frag) (mg : Str → Option Value) (base : Heap) : Prop where
  kin : K.In base
  glob : base.Ns mainGlobals mg
  blt : ∃ mb, base.Ns builtinsNs mb ∧ ∀ x : Str, x ≠ "__name__" → mb x = bootBuiltins x
  nolimit : base.NoLimit

/-- the context: a def's body (or a comprehension's block) running. base: fixed through the whole law; s₀, H₀: the entry; outer: the frames whose slots others may change (a def's callers); stack: all frames that run;
   ex: iterators that were made ahead of the entry and are walked here (a comprehension's); fn: the names whose cells were made at the entry (a def: all; a comprehension's block: its own); calm: not within an except suite; pn: pins that every state bears; xe: what is wanted of an exception that leaves the code -/
structure Cx where
  prog : Program
  w : World
  K : PySem.W.Frag
  mg : Str → Option Value
  base : Heap
  A : Around
  N : List Str
  s₀ : Shared
  H₀ : Hp
  env : Env
  outer : List Env
  stack : List Env
  ex : List Addr
  fn : Str → Bool
  calm : Bool
  pn : List (Addr × Obj)
  xe : Value → Shared → Prop
/-- the callers' frames -/
def frs (l : List Env) : List Addr := l.filterMap (·.frame)
abbrev Cx.fs (X : Cx) : List Addr := frs X.outer

def Vis (sc : Scope) (x : Str) : Prop := sc.names.lookup x = some .local ∨ sc.names.lookup x = some .cell ∨ sc.names.lookup x = some .free
def Loc (sc : Scope) (x : Str) : Prop := sc.names.lookup x = some .local ∨ sc.names.lookup x = some .cell
def Look (env : Env) (h : Heap) (m : Str → Option Value) (x : Str) (u : Value) : Prop :=
  (env.kindOf x = some .local ∧ m x = some u) ∨ ((env.kindOf x = some .cell ∨ env.kindOf x = some .free) ∧ ∃ c, env.cells.lookup x = some c ∧ h.IsCell c (some u))

structure Cx.Ok (X : Cx) : Prop where
  mod : Mod X.K X.mg X.base
  kind : X.env.scope.kind = .function
  glob : X.env.globals = mainGlobals
  blt : X.env.builtins = builtinsNs
  above : X.s₀.heap.objs.size ≤ X.env.locals
  inj : ∀ x y c, X.env.cells.lookup x = some c → X.env.cells.lookup y = some c → x = y
  has : ∀ x, (X.env.kindOf x = some .cell ∨ X.env.kindOf x = some .free) → ∃ c, X.env.cells.lookup x = some c
  cab : ∀ x c, X.fn x = true → X.env.cells.lookup x = some c → X.s₀.heap.objs.size ≤ c
  hd : X.calm = true → X.A.handled = none
  frames : X.A.frames = some X.stack
  stk : X.stack = X.outer ∨ (X.stack = X.env :: X.outer ∧ X.env.frame = some X.env.locals)
  exf : ∀ b ∈ X.ex, b ≠ X.env.locals ∧ ∀ x c, X.env.cells.lookup x = some c → c ≠ b
  bs : ∀ b o, X.base.get? b = some o → X.s₀.heap.get? b = some o ∧ X.H₀ b = none
  bsz : X.base.objs.size ≤ X.s₀.heap.objs.size
  noex : ∀ b o, X.base.get? b = some o → b ∉ X.ex
  exfs : ∀ b ∈ X.ex, b ∉ X.fs
  funs : X.s₀.heap.FunFrames X.base X.outer
  frf : ∀ b ∈ X.fs, X.H₀ b = none

structure Inv (X : Cx) (pins : List (Addr × Obj)) (σ : List (Option V)) (H : Hp) (s : Shared) : Prop where
  ok : X.Ok
  os : s.os = X.s₀.os
  bare : AllBare s.gens
  base : Un X.fs X.ex X.H₀ H X.s₀.heap s.heap
  loc : ∃ m, s.heap.Ns X.env.locals m ∧ ∀ (i : Nat) (x : Str) (v : V), X.N[i]? = some x → σ[i]? = some (some v) → Vis X.env.scope x → ∃ u, RelV v u ∧ Look X.env s.heap m x u
  cell : ∀ x c, X.env.cells.lookup x = some c → ∃ v, s.heap.IsCell c v
  free : H X.env.locals = none
  freeC : ∀ x c, X.env.cells.lookup x = some c → H c = none
  pin : ∀ p ∈ X.pn ++ pins, s.heap.get? p.1 = some p.2 ∧ H p.1 = none ∧ p.1 ≠ X.env.locals ∧ p.1 ∉ X.fs ∧ ∀ v, p.2.data ≠ .cell v
  hok : HOk X.prog X.w H s.heap
  len : σ.length = X.N.length

section
variable {X : Cx} {pins : List (Addr × Obj)} {σ : List (Option V)} {H H' : Hp} {s : Shared} {h' : Heap}

theorem Cx.Ok.nofr (ok : X.Ok) {b : Addr} {o : Obj} (e : X.base.get? b = some o) : b ∉ X.fs := fun hb => by
  have := (ok.funs.mem hb).1
  rw [e] at this; cases this
theorem Inv.bs (I : Inv X pins σ H s) : ∀ b o, X.base.get? b = some o → s.heap.get? b = some o ∧ H b = none := fun b o e =>
  ⟨I.base.keep b o (I.ok.bs b o e).1 (I.ok.bs b o e).2 (I.ok.nofr e) (I.ok.noex b o e), I.base.free b o (I.ok.bs b o e).1 (I.ok.bs b o e).2 (I.ok.noex b o e)⟩
theorem Inv.bk (I : Inv X pins σ H s) : ∀ b o, X.base.get? b = some o → s.heap.get? b = some o := fun b o e => (I.bs b o e).1
theorem Inv.mod (I : Inv X pins σ H s) : Mod X.K X.mg X.base := I.ok.mod
theorem Inv.kIn (I : Inv X pins σ H s) : X.K.In s.heap := I.ok.mod.kin.keeps I.bk
theorem Inv.nolimit (I : Inv X pins σ H s) : s.heap.NoLimit := I.ok.mod.nolimit.keeps I.bk
theorem Inv.lt (I : Inv X pins σ H s) : X.env.locals < s.heap.objs.size := let ⟨_, hn, _⟩ := I.loc; hn.lt
theorem Inv.sz (I : Inv X pins σ H s) : X.s₀.heap.objs.size ≤ s.heap.objs.size := Nat.le_trans I.ok.above (Nat.le_of_lt I.lt)
theorem Inv.nofs (I : Inv X pins σ H s) {a : Addr} (h : s.heap.objs.size ≤ a) : a ∉ X.fs := fun hb => by
  obtain ⟨_, o, ho, _⟩ := I.ok.funs.mem hb
  exact absurd (Nat.lt_of_lt_of_le (Heap.lt_size ho) (Nat.le_trans I.sz h)) (Nat.lt_irrefl _)
theorem Inv.cne (I : Inv X pins σ H s) : ∀ x c, X.env.cells.lookup x = some c → c ≠ X.env.locals := fun x c e z => by
  obtain ⟨v, o, ho, hd⟩ := I.cell x c e
  obtain ⟨m, ⟨o', es, ep, ho', hd', _⟩, _⟩ := I.loc
  rw [z, ho'] at ho; cases ho; rw [hd'] at hd; cases hd
theorem Inv.funs (I : Inv X pins σ H s) : s.heap.FunFrames X.base X.outer := by
  have all : ∀ (l : List Env), (∀ b ∈ frs l, b ∈ X.fs) → X.s₀.heap.FunFrames X.base l → s.heap.FunFrames X.base l := by
    intro l
    induction l with
    | nil => intro _ _; trivial
    | cons env r ih =>
      intro hs hl
      obtain ⟨hk, ⟨L, o, hf, hn, ho, hd⟩, hr⟩ := hl
      have hL : L ∈ X.fs := hs L (by unfold frs; rw [List.filterMap_cons, hf]; exact List.mem_cons_self)
      obtain ⟨sl, e⟩ := I.base.slot L o ho (I.ok.frf L hL) hL fun z => I.ok.exfs L z hL
      exact ⟨hk, ⟨L, _, hf, hn, e, hd⟩, ih (fun b hb => hs b (by unfold frs; rw [List.filterMap_cons, hf]; exact List.mem_cons_of_mem _ hb)) hr⟩
  exact all X.outer (fun _ hb => hb) I.ok.funs

/-- the frames that run, for a call -/
theorem Inv.stack (I : Inv X pins σ H s) : s.heap.FunFrames X.base X.stack := by
  rcases I.ok.stk with e | ⟨e, hf⟩
  · rw [e]; exact I.funs
  · rw [e]
    obtain ⟨m, hn, _⟩ := I.loc
    refine .cons (by rw [I.ok.kind]; decide) hf hn ?_ I.funs
    exact Heap.get?_none_of_le (Nat.le_trans I.ok.bsz I.ok.above)
theorem Inv.stkSub (I : Inv X pins σ H s) : ∀ b ∈ frs X.stack, b ∈ X.env.locals :: X.fs := fun b hb => by
  rcases I.ok.stk with e | ⟨e, hf⟩
  · rw [e] at hb; exact List.mem_cons_of_mem _ hb
  · rw [e] at hb
    unfold frs at hb
    rw [List.filterMap_cons, hf] at hb
    exact hb
theorem Inv.stkFree (I : Inv X pins σ H s) : ∀ b ∈ frs X.stack, H b = none := fun b hb => by
  rcases List.mem_cons.mp (I.stkSub b hb) with e | hb
  · rw [e]; exact I.free
  · obtain ⟨_, o, ho, _⟩ := I.ok.funs.mem hb
    exact I.base.free b o ho (I.ok.frf b hb) fun z => I.ok.exfs b z hb

/-- THE STEP: the untracked objects but the frame and the records at ch are kept (the callers' frames up to slots), the frame's map is kept, the new abstract heap is held -/
theorem Inv.step {g' : Array GenState} {t' : Nat} {d' : Drawn} {ch : List Addr} (I : Inv X pins σ H s)
    (hch : ∀ b ∈ ch, (b ∈ X.ex ∨ X.s₀.heap.objs.size ≤ b) ∧ b ≠ X.env.locals ∧ (∀ x c, X.env.cells.lookup x = some c → c ≠ b) ∧ ∀ p ∈ X.pn ++ pins, p.1 ≠ b)
    (keep : ∀ b o, b ≠ X.env.locals → b ∉ X.fs → b ∉ ch → s.heap.get? b = some o → H b = none → h'.get? b = some o)
    (slot : ∀ b o, b ≠ X.env.locals → b ∈ X.fs → b ∉ ch → s.heap.get? b = some o → H b = none → ∃ sl, h'.get? b = some { o with slots := sl }) (free : ∀ b o, b ∉ ch → s.heap.get? b = some o → H b = none → H' b = none)
    (there : ∀ b o, b ∉ ch → s.heap.get? b = some o → ∃ o', h'.get? b = some o')
    (tups : ∀ b xs, H b = some (.tup xs) → H' b = some (.tup xs)) (frzs : ∀ b o u, H b = some (.frz o u) → H' b = some (.frz o u)) (tbls : ∀ b ps, H b = some (.tbl ps) → ∃ more, H' b = some (.tbl (ps ++ more)))
    (ns : ∀ m, s.heap.Ns X.env.locals m → h'.Ns X.env.locals m) (hok : HOk X.prog X.w H' h') (hg : AllBare g') :
    Inv X pins σ H' { s with heap := h', gens := g', drawn := d', toks := t' } := by
  have neL : ∀ b o, X.s₀.heap.get? b = some o → b ≠ X.env.locals := fun b o e => Nat.ne_of_lt (Nat.lt_of_lt_of_le (Heap.lt_size e) I.ok.above)
  have neC : ∀ b o, X.s₀.heap.get? b = some o → b ∉ X.ex → b ∉ ch := fun b o e hx hb => by
    rcases (hch b hb).1 with z | z
    · exact hx z
    · exact absurd (Nat.lt_of_lt_of_le (Heap.lt_size e) z) (Nat.lt_irrefl _)
  have cellK : ∀ x c, X.env.cells.lookup x = some c → ∀ v, s.heap.IsCell c v → h'.IsCell c v := fun x c e v ⟨o, ho, hd⟩ => by
    have nch : c ∉ ch := fun z => (hch c z).2.2.1 x c e rfl
    by_cases hc : c ∈ X.fs
    · obtain ⟨sl, q⟩ := slot c o (I.cne x c e) hc nch ho (I.freeC x c e)
      exact ⟨_, q, hd⟩
    · exact ⟨o, keep c o (I.cne x c e) hc nch ho (I.freeC x c e), hd⟩
  refine ⟨I.ok, I.os, hg, ⟨fun b o e n hb hx => ?_, fun b o e n hb hx => ?_, fun b o e n hx => ?_, fun b o e hx => ?_, fun b xs e => tups b xs (I.base.tups b xs e), fun b o xs e => frzs b o xs (I.base.frzs b o xs e), fun b ps e => ?_⟩, ?_, fun x c e => ?_, ?_, fun x c e => ?_, fun p hp => ?_, hok, I.len⟩
  · exact keep b o (neL b o e) hb (neC b o e hx) (I.base.keep b o e n hb hx) (I.base.free b o e n hx)
  · obtain ⟨sl, e1⟩ := I.base.slot b o e n hb hx
    obtain ⟨sl', e2⟩ := slot b _ (neL b o e) hb (neC b o e hx) e1 (I.base.free b o e n hx)
    exact ⟨sl', e2⟩
  · obtain ⟨o', e1⟩ := I.base.there b o e hx
    exact free b o' (neC b o e hx) e1 (I.base.free b o e n hx)
  · obtain ⟨o', e1⟩ := I.base.there b o e hx
    exact there b o' (neC b o e hx) e1
  · obtain ⟨m1, e1⟩ := I.base.tbls b ps e
    obtain ⟨m2, e2⟩ := tbls b _ e1
    exact ⟨m1 ++ m2, by rw [e2, Array.append_assoc]⟩
  · obtain ⟨m, hn, hl⟩ := I.loc
    refine ⟨m, ns m hn, fun i x v e1 e2 e3 => ?_⟩
    obtain ⟨u, r, l⟩ := hl i x v e1 e2 e3
    refine ⟨u, r, ?_⟩
    rcases l with l | ⟨k, c, e, z⟩
    · exact .inl l
    · exact .inr ⟨k, c, e, cellK x c e _ z⟩
  · obtain ⟨v, z⟩ := I.cell x c e
    exact ⟨v, cellK x c e v z⟩
  · obtain ⟨m, ⟨o, _, _, ho, _⟩, _⟩ := I.loc
    exact free _ o (fun z => (hch _ z).2.1 rfl) ho I.free
  · obtain ⟨v, o, ho, hd⟩ := I.cell x c e
    exact free c o (fun z => (hch c z).2.2.1 x c e rfl) ho (I.freeC x c e)
  · obtain ⟨e, n, ne, nf, d⟩ := I.pin p hp
    have nch : p.1 ∉ ch := fun z => (hch p.1 z).2.2.2 p hp rfl
    exact ⟨keep p.1 p.2 ne nf nch e n, free p.1 p.2 nch e n, ne, nf, d⟩
/-- .. where the frame's own object is kept too -/
theorem Inv.un {t' : Nat} (I : Inv X pins σ H s) (u : Un X.fs [] H H' s.heap h') (hok : HOk X.prog X.w H' h') : Inv X pins σ H' { s with heap := h', toks := t' } := by
  obtain ⟨m, ⟨o, es, ep, ho, r⟩, _⟩ := id I.loc
  obtain ⟨sl, hL⟩ := u.any ho I.free (by simp)
  exact I.step (g' := s.gens) (d' := s.drawn) (ch := []) (fun _ z => nomatch z) (fun b o _ hb _ e n => u.keep b o e n hb (by simp)) (fun b o _ hb _ e n => u.slot b o e n hb (by simp)) (fun b o _ e n => u.free b o e n (by simp)) (fun b o _ e => u.there b o e (by simp)) u.tups u.frzs u.tbls (fun m' hm => by
    obtain ⟨o', es', ep', ho', r'⟩ := hm
    rw [ho] at ho'; cases ho'
    exact ⟨_, es', ep', hL, r'⟩) hok I.bare
/-- behind a call (or a comprehension's block): the slots of this frame may have changed too, the records at ch may have turned -/
theorem Inv.call {g' : Array GenState} {t' : Nat} {d' : Drawn} {ch : List Addr} (I : Inv X pins σ H s) (u : Un (frs X.stack) ch H H' s.heap h') (hok : HOk X.prog X.w H' h') (hg : AllBare g')
    (hch : ∀ b ∈ ch, (b ∈ X.ex ∨ X.s₀.heap.objs.size ≤ b) ∧ b ≠ X.env.locals ∧ (∀ x c, X.env.cells.lookup x = some c → c ≠ b) ∧ ∀ p ∈ X.pn ++ pins, p.1 ≠ b) :
    Inv X pins σ H' { s with heap := h', gens := g', drawn := d', toks := t' } := by
  obtain ⟨m, ⟨o, es, ep, ho, r⟩, _⟩ := id I.loc
  obtain ⟨sl, hL⟩ := u.any ho I.free fun z => (hch _ z).2.1 rfl
  exact I.step (ch := ch) hch (fun b o hL hb hc e n => u.keep b o e n (fun z => (List.mem_cons.mp (I.stkSub b z)).elim hL hb) hc) (fun b o _ _ hc e n => u.any e n hc) (fun b o hc e n => u.free b o e n hc) (fun b o hc e => u.there b o e hc) u.tups u.frzs u.tbls (fun m' hm => by
    obtain ⟨o', es', ep', ho', r'⟩ := hm
    rw [ho] at ho'; cases ho'
    exact ⟨_, es', ep', hL, r'⟩) hok hg
/-- an untracked record of ours (an iterator) has turned -/
theorem Inv.turned {t' : Nat} {it : Addr} (I : Inv X pins σ H s) (k : ∀ b o, b ≠ it → s.heap.get? b = some o → h'.get? b = some o) (hn : H it = none) (hL : it ≠ X.env.locals)
    (h1 : it ∈ X.ex ∨ X.s₀.heap.objs.size ≤ it) (h2 : ∀ x c, X.env.cells.lookup x = some c → c ≠ it) (h3 : ∀ p ∈ X.pn ++ pins, p.1 ≠ it) : Inv X pins σ H { s with heap := h', toks := t' } := by
  have nit : ∀ b u, H b = some u → b ≠ it := fun b u e z => by rw [z, hn] at e; cases e
  refine I.step (g' := s.gens) (d' := s.drawn) (ch := [it]) (fun b hb => ?_) (fun b o _ _ hc e _ => k b o (fun z => hc (by simp [z])) e) (fun b o _ _ hc e _ => ⟨o.slots, k b o (fun z => hc (by simp [z])) e⟩) (fun _ _ _ _ n => n)
    (fun b o hc e => ⟨o, k b o (fun z => hc (by simp [z])) e⟩) (fun _ _ e => e) (fun _ _ _ e => e) (fun b ps e => ⟨#[], by rw [e]; simp⟩) (fun m hm => ?_) (fun b u e => ?_) I.bare
  · have e : b = it := by simpa using hb
    subst e
    exact ⟨h1, hL, h2, h3⟩
  · obtain ⟨o, es, ep, ho, r⟩ := hm
    exact ⟨o, es, ep, k _ o (Ne.symm hL) ho, r⟩
  · refine (I.hok b u e).stay (fun c v hc q => k c v ?_ q) (fun _ q => q) fun _ _ q => q
    rcases hc with z | z
    · rw [z]; exact nit b u e
    · exact nit c _ z
theorem Inv.tok (I : Inv X pins σ H s) (t : Nat) : Inv X pins σ H { s with toks := t } := I.un (h' := s.heap) (t' := t) Un.refl I.hok
/-- all objects kept -/
theorem Inv.kept {t' : Nat} (I : Inv X pins σ H s) (k : ∀ b u, s.heap.get? b = some u → h'.get? b = some u) : Inv X pins σ H { s with heap := h', toks := t' } := I.un (Un.kept k) (I.hok.kept k)
/-- a new object laid and tracked -/
theorem Inv.laid {a : Addr} {o : HO} {t' : Nat} (I : Inv X pins σ H s) (k : ∀ b u, s.heap.get? b = some u → h'.get? b = some u) (hp : s.heap.objs.size ≤ a) (new : ObjOk X.prog X.w (upd H a o) h' a o) :
    Inv X pins σ (upd H a o) { s with heap := h', toks := t' } := I.un (Un.laid k hp (I.hok.fresh hp)) (I.hok.laid k hp new)
/-- an object written -/
theorem Inv.write {x e : Addr} {o : HO} {t' : Nat} (I : Inv X pins σ H s) (mu : Mut (H x)) (he : e = x ∨ H e = some (.own x)) (k : ∀ b u, b ≠ e → s.heap.get? b = some u → h'.get? b = some u) (heo : ∃ u, h'.get? e = some u)
    (new : ObjOk X.prog X.w (upd H x o) h' x o) : Inv X pins σ (upd H x o) { s with heap := h', toks := t' } := I.un (Un.write mu he k heo) (I.hok.write mu he k heo new)
theorem Inv.pins_of {pins' : List (Addr × Obj)} (I : Inv X pins σ H s) (h : ∀ p ∈ pins', s.heap.get? p.1 = some p.2 ∧ H p.1 = none ∧ p.1 ≠ X.env.locals ∧ p.1 ∉ X.fs ∧ ∀ v, p.2.data ≠ .cell v) : Inv X pins' σ H s :=
  ⟨I.ok, I.os, I.bare, I.base, I.loc, I.cell, I.free, I.freeC, fun p hp => (List.mem_append.mp hp).elim (fun z => I.pin p (List.mem_append_left _ z)) (h p), I.hok, I.len⟩

theorem nodup_ix {N : List Str} (hN : N.Nodup) {i j : Nat} {x : Str} (a : N[i]? = some x) (b : N[j]? = some x) : i = j := by
  obtain ⟨h1, e1⟩ := List.getElem?_eq_some_iff.mp a
  obtain ⟨h2, e2⟩ := List.getElem?_eq_some_iff.mp b
  exact (List.getElem_inj hN).mp (e1.trans e2.symm)

/-- a name is stored; what changed -/
theorem store_ok2 {M : Model} {A : Around} {E : Value → Shared → Prop} {i : Nat} {x : Str} {v : V} {u : Value} {Q : Unit → Shared → Prop} (I : Inv X pins σ H s) (hN : X.N.Nodup) (hi : X.N[i]? = some x) (hx : Loc X.env.scope x) (r : RelV v u)
    (h : ∀ s', Inv X pins (σ.set i (some v)) H s' → (∃ a, Heap.SameBut a s.heap s'.heap ∧ (a = X.env.locals ∨ X.env.cells.lookup x = some a)) → Q () s') (hf : X.fn x = true ∨ X.env.scope.names.lookup x = some .local := by first | exact .inl rfl | exact .inr rfl | assumption) : wpAny M A (storeName X.env x u) Q E s := by
  obtain ⟨m, hn, hl⟩ := id I.loc
  have hcls : (X.env.scope.kind == .class || (X.env.scope.kind == .module && X.env.locals != X.env.globals)) = false := by rw [I.ok.kind]; rfl
  have hiσ : i < σ.length := by rw [I.len]; exact (List.getElem?_eq_some_iff.mp hi).1
  have cne := I.cne
  have tracked : ∀ {a : Addr} {h' : Heap}, (∃ o, s.heap.get? a = some o ∧ H a = none) → Heap.SameBut a s.heap h' → HOk X.prog X.w H h' := fun {a h'} ha hs b ob e => by
    obtain ⟨_, _, hfree⟩ := ha
    refine (I.hok b ob e).stay (fun c w' hc q => (hs.2 c ?_).trans q) (fun _ q => q) fun _ _ q => q
    rintro rfl
    rcases hc with rfl | hc
    · rw [hfree] at e; cases e
    · rw [hfree] at hc; cases hc
  rcases hx with hk | hk
  · refine wpAny_storeName_local hk hn (fun h' hn' hs => ?_) hcls
    obtain ⟨oL, _, _, hoL, _⟩ := id hn
    refine h _ ⟨I.ok, I.os, I.bare, ⟨fun b o e n hb hx => ?_, fun b o e n hb hx => ?_, I.base.free, fun b o e hx => ?_, I.base.tups, I.base.frzs, I.base.tbls⟩, ⟨_, hn', fun j y v' e1 e2 e3 => ?_⟩, fun y c e => ?_, I.free, I.freeC, fun p hp => ?_, tracked ⟨oL, hoL, I.free⟩ hs, by simpa using I.len⟩ ⟨_, hs, .inl rfl⟩
    · exact (hs.2 b (Nat.ne_of_lt (Nat.lt_of_lt_of_le (Heap.lt_size e) I.ok.above))).trans (I.base.keep b o e n hb hx)
    · obtain ⟨sl, e1⟩ := I.base.slot b o e n hb hx
      exact ⟨sl, (hs.2 b (Nat.ne_of_lt (Nat.lt_of_lt_of_le (Heap.lt_size e) I.ok.above))).trans e1⟩
    · obtain ⟨o', e1⟩ := I.base.there b o e hx
      exact ⟨o', (hs.2 b (Nat.ne_of_lt (Nat.lt_of_lt_of_le (Heap.lt_size e) I.ok.above))).trans e1⟩
    · by_cases hj : j = i
      · subst hj
        rw [hi] at e1; cases e1
        rw [List.getElem?_set_self hiσ] at e2
        cases e2
        exact ⟨u, r, .inl ⟨hk, by simp⟩⟩
      · rw [List.getElem?_set_ne (Ne.symm hj)] at e2
        obtain ⟨u', r', q⟩ := hl j y v' e1 e2 e3
        refine ⟨u', r', ?_⟩
        rcases q with ⟨k, e⟩ | ⟨k, c, e, z⟩
        · refine .inl ⟨k, ?_⟩
          have : y ≠ x := fun e => hj (nodup_ix hN e1 (e ▸ hi))
          simp [this, e]
        · exact .inr ⟨k, c, e, z.sameBut hs (cne y c e)⟩
    · obtain ⟨w', z⟩ := I.cell y c e
      exact ⟨w', z.sameBut hs (cne y c e)⟩
    · obtain ⟨e, n, ne, nf, d⟩ := I.pin p hp
      exact ⟨(hs.2 p.1 ne).trans e, n, ne, nf, d⟩
  · have hfn : X.fn x = true := by
      rcases hf with z | z
      · exact z
      · rw [z] at hk; cases hk
    obtain ⟨c, hc⟩ := I.ok.has x (.inl hk)
    obtain ⟨w', z⟩ := I.cell x c hc
    refine wpAny_storeName_cell I.ok.kind hk hc z (fun h' hc' hs => ?_)
    obtain ⟨oc, hoc, hocd⟩ := id z
    refine h { s with heap := h' } ⟨I.ok, I.os, I.bare, ⟨fun b o e n hb hx => ?_, fun b o e n hb hx => ?_, I.base.free, fun b o e hx => ?_, I.base.tups, I.base.frzs, I.base.tbls⟩, ⟨m, hn.sameBut hs (Ne.symm (cne x c hc)), fun j y v' e1 e2 e3 => ?_⟩, fun y c' e => ?_, I.free, I.freeC, fun p hp => ?_, tracked ⟨oc, hoc, I.freeC x c hc⟩ hs, by simpa using I.len⟩ ⟨c, hs, .inr hc⟩
    · exact (hs.2 b (Nat.ne_of_lt (Nat.lt_of_lt_of_le (Heap.lt_size e) (I.ok.cab x c hfn hc)))).trans (I.base.keep b o e n hb hx)
    · obtain ⟨sl, e1⟩ := I.base.slot b o e n hb hx
      exact ⟨sl, (hs.2 b (Nat.ne_of_lt (Nat.lt_of_lt_of_le (Heap.lt_size e) (I.ok.cab x c hfn hc)))).trans e1⟩
    · obtain ⟨o', e1⟩ := I.base.there b o e hx
      exact ⟨o', (hs.2 b (Nat.ne_of_lt (Nat.lt_of_lt_of_le (Heap.lt_size e) (I.ok.cab x c hfn hc)))).trans e1⟩
    · by_cases hj : j = i
      · subst hj
        rw [hi] at e1; cases e1
        rw [List.getElem?_set_self hiσ] at e2
        cases e2
        exact ⟨u, r, .inr ⟨.inl hk, c, hc, hc'⟩⟩
      · rw [List.getElem?_set_ne (Ne.symm hj)] at e2
        obtain ⟨u', r', q⟩ := hl j y v' e1 e2 e3
        refine ⟨u', r', ?_⟩
        rcases q with q | ⟨k, c', e, z'⟩
        · exact .inl q
        · refine .inr ⟨k, c', e, z'.sameBut hs ?_⟩
          rintro rfl
          exact hj (nodup_ix hN e1 (I.ok.inj _ _ _ e hc ▸ hi))
    · by_cases hcc : c' = c
      · subst hcc; exact ⟨_, hc'⟩
      · obtain ⟨w2, z2⟩ := I.cell y c' e
        exact ⟨w2, z2.sameBut hs hcc⟩
    · obtain ⟨e, n, ne, nf, d⟩ := I.pin p hp
      refine ⟨(hs.2 p.1 ?_).trans e, n, ne, nf, d⟩
      intro q
      rw [q, hoc] at e
      have q' : oc = p.2 := Option.some.inj e
      exact d w' (by rw [← q']; exact hocd)
theorem store_ok {M : Model} {A : Around} {E : Value → Shared → Prop} {i : Nat} {x : Str} {v : V} {u : Value} {Q : Unit → Shared → Prop} (I : Inv X pins σ H s) (hN : X.N.Nodup) (hi : X.N[i]? = some x) (hx : Loc X.env.scope x) (r : RelV v u)
    (h : ∀ s', Inv X pins (σ.set i (some v)) H s' → Q () s') (hf : X.fn x = true ∨ X.env.scope.names.lookup x = some .local := by first | exact .inl rfl | exact .inr rfl | assumption) : wpAny M A (storeName X.env x u) Q E s :=
  store_ok2 I hN hi hx r (fun s' I' _ => h s' I') hf
/-- behind a call or a block, the state as it is -/
theorem Inv.call' {s' : Shared} {ch : List Addr} (I : Inv X pins σ H s) (ho : s'.os = s.os) (u : Un (frs X.stack) ch H H' s.heap s'.heap) (hok : HOk X.prog X.w H' s'.heap) (hg : AllBare s'.gens)
    (hch : ∀ b ∈ ch, (b ∈ X.ex ∨ X.s₀.heap.objs.size ≤ b) ∧ b ≠ X.env.locals ∧ (∀ x c, X.env.cells.lookup x = some c → c ≠ b) ∧ ∀ p ∈ X.pn ++ pins, p.1 ≠ b) : Inv X pins σ H' s' := by
  obtain ⟨h', g', d', t', o'⟩ := s'
  have e : o' = s.os := ho
  subst e
  exact I.call (g' := g') (t' := t') (d' := d') u hok hg hch
end

/-! ### the judgements -/
/-- an exception: its class, its own dict's address (where it has one), the abstract heap behind it -/
abbrev XK := Value → Option Addr → Hp → Prop
abbrev St := List (Option V)
abbrev VK := V → Hp → Prop
/-- an expression's reading; a test's; an argument list's -/
abbrev TE := St → Hp → VK → Prop
abbrev TT := St → Hp → (Bool → Hp → Prop) → Prop
abbrev TA := St → Hp → (List V → Hp → Prop) → Prop
/-- what is wanted behind a statement -/
structure Ends where
  nx : St → Hp → Prop
  rt : VK
  bk : St → Hp → Prop := fun _ _ => False
  ct : St → Hp → Prop := fun _ _ => False
abbrev TS := Ends → St → Hp → Prop

def EP (X : Cx) (pins : List (Addr × Obj)) (σ : St) (Q : VK) (u : Value) (s' : Shared) : Prop := ∃ v H', Inv X pins σ H' s' ∧ RelV v u ∧ Q v H'
def TP (X : Cx) (pins : List (Addr × Obj)) (σ : St) (Q : Bool → Hp → Prop) (b : Bool) (s' : Shared) : Prop := ∃ H', Inv X pins σ H' s' ∧ Q b H'
def AP (X : Cx) (pins : List (Addr × Obj)) (σ : St) (Q : List V → Hp → Prop) (us : List Value) (s' : Shared) : Prop := ∃ vs H', Inv X pins σ H' s' ∧ Vals vs us ∧ Q vs H'
def SP (X : Cx) (pins : List (Addr × Obj)) (D : Ends) (f : Flow) (s' : Shared) : Prop :=
  match f with
  | .next => ∃ σ' H', Inv X pins σ' H' s' ∧ D.nx σ' H'
  | .brk => ∃ σ' H', Inv X pins σ' H' s' ∧ D.bk σ' H'
  | .cont => ∃ σ' H', Inv X pins σ' H' s' ∧ D.ct σ' H'
  | .ret u => ∃ v σ' H', Inv X pins σ' H' s' ∧ RelV v u ∧ D.rt v H'

def PE (X : Cx) (e : Expr) (t : TE) : Prop :=
  ∀ (pins : List (Addr × Obj)) (s : Shared) (σ : St) (H : Hp) (Q : VK), Inv X pins σ H s → t σ H Q → wpAny (model X.prog X.w) X.A (eval e X.env) (EP X pins σ Q) X.xe s
def PT (X : Cx) (e : Expr) (t : TT) : Prop :=
  ∀ (pins : List (Addr × Obj)) (s : Shared) (σ : St) (H : Hp) (Q : Bool → Hp → Prop), Inv X pins σ H s → t σ H Q → wpAny (model X.prog X.w) X.A (isTrue e X.env (eval e X.env)) (TP X pins σ Q) X.xe s
/-- a test whatever its 'whole' is (and, or) -/
def PW (X : Cx) (e : Expr) (t : TT) : Prop :=
  ∀ (whole : Sem Value) (pins : List (Addr × Obj)) (s : Shared) (σ : St) (H : Hp) (Q : Bool → Hp → Prop), Inv X pins σ H s → t σ H Q → wpAny (model X.prog X.w) X.A (isTrue e X.env whole) (TP X pins σ Q) X.xe s
theorem PW.pt {X : Cx} {e : Expr} {t : TT} (h : PW X e t) : PT X e t := h _
/-- an argument list (no star), from the left -/
def PA (X : Cx) (es : List Expr) (t : TA) : Prop :=
  ∀ (pos : Pos) (pins : List (Addr × Obj)) (s : Shared) (σ : St) (H : Hp) (Q : List V → Hp → Prop), Inv X pins σ H s → t σ H Q → wpAny (model X.prog X.w) X.A (spliced (backTo pos (starEach es X.env))) (AP X pins σ Q) X.xe s
def PS (X : Cx) (st : Stmt) (t : TS) : Prop :=
  ∀ (pins : List (Addr × Obj)) (s : Shared) (σ : St) (H : Hp) (D : Ends), Inv X pins σ H s → t D σ H → wpAny (model X.prog X.w) X.A (exec st X.env) (SP X pins D) X.xe s
def PSs (X : Cx) (st : List Stmt) (t : TS) : Prop :=
  ∀ (pins : List (Addr × Obj)) (s : Shared) (σ : St) (H : Hp) (D : Ends), Inv X pins σ H s → t D σ H → wpAny (model X.prog X.w) X.A (execs st X.env) (SP X pins D) X.xe s
/-- weaken the end -/
theorem thn {α : Type} {t : Sem α} {Q Q' : α → Shared → Prop} {M : Model} {A : Around} {E : Value → Shared → Prop} {s : Shared} (h : wpAny M A t Q E s) (hQ : ∀ a s, Q a s → Q' a s) : wpAny M A t Q' E s := wpAny_mono h hQ fun _ _ x => x
end L2

namespace L2
open PySem PySem.Spec PyProof.Rows
section
variable {X : Cx}

/-! ### names and constants -/
def tVar (i : Nat) : TE := fun σ H Q => ∃ v, σ[i]? = some (some v) ∧ Q v H
def tC (v : V) : TE := fun _ H Q => Q v H
theorem pe_var {i : Nat} {x : Str} {pos : Pos} (hN : X.N[i]? = some x) (hv : Vis X.env.scope x) (hd : (x == ("__debug__" : Str)) = false := by decide) (hcd : (x == ("__classdict__" : Str)) = false := by decide) : PE X (.Name x pos) (tVar i) := by
  intro pins s σ H Q I h
  obtain ⟨v, e, h⟩ := h
  obtain ⟨m, hn, hl⟩ := I.loc
  obtain ⟨u, r, l⟩ := hl i x v hN e hv
  have fin : EP X pins σ Q u s := ⟨v, H, I, r, h⟩
  rcases l with ⟨hk, hm⟩ | ⟨hk, c, hc, hcell⟩
  · exact wpAny_Name (wpAny_loadName_local I.ok.kind hk hn hm fin) hd
  · rcases hk with hk | hk
    · exact wpAny_Name (wpAny_loadName_cell I.ok.kind hk hc hcell fin) hd
    · exact wpAny_Name (wpAny_loadName_free I.ok.kind hk hc hcell fin hcd) hd
theorem pe_int {i j pos} : PE X (.Constant (.int i) j pos) (tC (.int i)) := fun _ _ _ H _ I h => wpAny_Constant_int ⟨.int i, H, I.tok _, ⟨_, rfl⟩, h⟩
theorem pe_bl {b j pos} : PE X (.Constant (.bool b) j pos) (tC (.bl b)) := fun _ _ _ H _ I h => Constant_bool ⟨.bl b, H, I, rfl, h⟩
theorem pe_non {j pos} : PE X (.Constant .none j pos) (tC .non) := fun _ _ _ H _ I h => Constant_none ⟨.non, H, I, rfl, h⟩
theorem pe_str {x j pos} : PE X (.Constant (.str x) j pos) (tC (.str x)) := fun _ _ _ H _ I h => Calls.Constant_str ⟨.str x, H, I.tok _, ⟨_, rfl⟩, h⟩

/-- a global name of the def -/
def Gl (X : Cx) (x : Str) : Prop := X.env.kindOf x = some .globalImplicit
theorem ld_glob {E : Value → Shared → Prop} {pins : List (Addr × Obj)} {s : Shared} {σ : St} {H : Hp} {x : Str} {u : Value} {pos : Pos} {Q : Value → Shared → Prop} (I : Inv X pins σ H s) (hg : Gl X x) (hm : X.mg x = some u) (h : Q u s)
    (hd : (x == ("__debug__" : Str)) = false := by decide) : wpAny (model X.prog X.w) X.A (eval (.Name x pos) X.env) Q E s :=
  Calls.Name_function_global I.ok.kind hg (Calls.loadGlobal_global (by rw [I.ok.glob]; exact I.mod.glob.keeps I.bk) hm h) hd
theorem ld_blt {E : Value → Shared → Prop} {pins : List (Addr × Obj)} {s : Shared} {σ : St} {H : Hp} {x : Str} {u : Value} {pos : Pos} {Q : Value → Shared → Prop} (I : Inv X pins σ H s) (hg : Gl X x) (hm : X.mg x = none) (hv : bootBuiltins x = some u) (h : Q u s)
    (hn : x ≠ "__name__" := by decide) (hd : (x == ("__debug__" : Str)) = false := by decide) : wpAny (model X.prog X.w) X.A (eval (.Name x pos) X.env) Q E s := by
  obtain ⟨mb, h1, h2⟩ := I.mod.blt
  exact Calls.Name_function_global I.ok.kind hg (Calls.loadGlobal_builtin (by rw [I.ok.glob]; exact I.mod.glob.keeps I.bk) hm (by rw [I.ok.blt]; exact h1.keeps I.bk) ((h2 x hn).trans hv) h) hd
/-- a module's constant, a class, a function, as a value -/
theorem pe_glob {x : Str} {v : V} {u : Value} {pos : Pos} (hg : Gl X x) (hm : X.mg x = some u) (r : RelV v u) (hd : (x == ("__debug__" : Str)) = false := by decide) : PE X (.Name x pos) (tC v) :=
  fun _ _ _ H _ I h => ld_glob I hg hm ⟨v, H, I, r, h⟩ hd
theorem pe_bltn {x : Str} {v : V} {u : Value} {pos : Pos} (hg : Gl X x) (hm : X.mg x = none) (hv : bootBuiltins x = some u) (r : RelV v u) (hn : x ≠ "__name__" := by decide) (hd : (x == ("__debug__" : Str)) = false := by decide) : PE X (.Name x pos) (tC v) :=
  fun _ _ _ H _ I h => ld_blt I hg hm hv ⟨v, H, I, r, h⟩ hn hd

/-! ### arithmetic -/
variable {a b : Expr} {ta tb : TE} {pos : Pos}
/-! ### comparisons -/
/-- a comparison as a value, as a test -/
def tB (t : TE) : TT := fun σ H Q => t σ H fun x H1 => ∃ c, x = .bl c ∧ Q c H1
/-- an expression whose value is a bool, as a test -/
theorem pt_val {e : Expr} {t : TE} (h : PE X e t) (he : ∀ whole, isTrue e X.env whole = (do let v ← whole; standAt e.pos; holding [v] (truthy v)) := by intro _; rfl) : PT X e (tB t) := by
  intro pins s σ H Q I hw
  refine isTrue_plain (thn (h pins s σ H _ I hw) fun v s1 ⟨x, H1, I1, r1, q1⟩ => ?_) (he _)
  obtain ⟨d, rfl, q⟩ := q1
  cases r1
  exact wpAny_truthy_bool ⟨H1, I1, q⟩

/-! ### and, or, not -/
variable {tA tB' : TT} {rest : List Expr}
def tAnd (t u : TT) : TT := fun σ H Q => t σ H fun c H1 => if c = true then u σ H1 Q else Q false H1
def tOr (t u : TT) : TT := fun σ H Q => t σ H fun c H1 => if c = true then Q true H1 else u σ H1 Q
def tNot (t : TT) : TT := fun σ H Q => t σ H fun c H1 => Q (!c) H1
theorem pw_and1 (ha : PT X a tA) : PW X (.BoolOp .And [a] pos) tA := by
  intro wh pins s σ H Q I h
  refine isTrue_and (thn (ha pins s σ H Q I h) fun c s1 e => ?_)
  cases c with
  | true => exact isTrue_and_nil e
  | false => exact e
theorem pw_or1 (ha : PT X a tA) : PW X (.BoolOp .Or [a] pos) tA := by
  intro wh pins s σ H Q I h
  refine isTrue_or (thn (ha pins s σ H Q I h) fun c s1 e => ?_)
  cases c with
  | false => exact isTrue_or_nil e
  | true => exact e
theorem pw_and (ha : PT X a tA) (hb : PW X (.BoolOp .And (b :: rest) pos) tB') : PW X (.BoolOp .And (a :: b :: rest) pos) (tAnd tA tB') := by
  intro wh pins s σ H Q I h
  refine isTrue_and (thn (ha pins s σ H _ I h) fun c s1 ⟨H1, I1, q1⟩ => ?_)
  cases c with
  | true => exact hb wh pins s1 σ H1 Q I1 q1
  | false => exact ⟨H1, I1, q1⟩
theorem pw_or (ha : PT X a tA) (hb : PW X (.BoolOp .Or (b :: rest) pos) tB') : PW X (.BoolOp .Or (a :: b :: rest) pos) (tOr tA tB') := by
  intro wh pins s σ H Q I h
  refine isTrue_or (thn (ha pins s σ H _ I h) fun c s1 ⟨H1, I1, q1⟩ => ?_)
  cases c with
  | true => exact ⟨H1, I1, q1⟩
  | false => exact hb wh pins s1 σ H1 Q I1 q1
theorem pt_not (ha : PT X a tA) : PT X (.UnaryOp .Not a pos) (tNot tA) := by
  intro pins s σ H Q I h
  exact isTrue_not (ha pins s σ H (fun c H1 => Q (!c) H1) I h)
/-- .. as values (bools) -/
def tAndV (ta tb : TE) : TE := fun σ H Q => ta σ H fun x H1 => ∃ c, x = .bl c ∧ if c = true then tb σ H1 Q else Q (.bl false) H1
def tOrV (ta tb : TE) : TE := fun σ H Q => ta σ H fun x H1 => ∃ c, x = .bl c ∧ if c = true then Q (.bl true) H1 else tb σ H1 Q
def tNotV (ta : TE) : TE := fun σ H Q => ta σ H fun x H1 => ∃ c, x = .bl c ∧ Q (.bl (!c)) H1
theorem pe_one {op} {t : TE} (h : PE X a t) : PE X (.BoolOp op [a] pos) t := fun pins s σ H Q I hw => BoolOp_one (h pins s σ H Q I hw)
theorem pe_and (ha : PE X a ta) (hb : PE X (.BoolOp .And (b :: rest) pos) tb) : PE X (.BoolOp .And (a :: b :: rest) pos) (tAndV ta tb) := by
  intro pins s σ H Q I h
  refine BoolOp_and (thn (ha pins s σ H _ I h) fun v s1 ⟨x, H1, I1, r1, q1⟩ => ?_)
  obtain ⟨c, rfl, q1⟩ := q1
  cases r1
  refine wpAny_truthy_bool ?_
  cases c with
  | true => exact hb pins s1 σ H1 Q I1 q1
  | false => exact ⟨.bl false, H1, I1, rfl, q1⟩
theorem pe_or (ha : PE X a ta) (hb : PE X (.BoolOp .Or (b :: rest) pos) tb) : PE X (.BoolOp .Or (a :: b :: rest) pos) (tOrV ta tb) := by
  intro pins s σ H Q I h
  refine BoolOp_or (thn (ha pins s σ H _ I h) fun v s1 ⟨x, H1, I1, r1, q1⟩ => ?_)
  obtain ⟨c, rfl, q1⟩ := q1
  cases r1
  refine wpAny_truthy_bool ?_
  cases c with
  | false => exact hb pins s1 σ H1 Q I1 q1
  | true => exact ⟨.bl true, H1, I1, rfl, q1⟩
theorem pe_not (ha : PE X a ta) : PE X (.UnaryOp .Not a pos) (tNotV ta) := by
  intro pins s σ H Q I h
  refine UnaryOp_ (thn (ha pins s σ H _ I h) fun v s1 ⟨x, H1, I1, r1, q1⟩ => ?_)
  obtain ⟨c, rfl, q1⟩ := q1
  cases r1
  exact not_of (wpAny_truthy_bool ⟨.bl (!c), H1, I1, rfl, q1⟩)
/-- a if t else b -/
def tIf (t : TT) (ta tb : TE) : TE := fun σ H Q => t σ H fun c H1 => if c = true then ta σ H1 Q else tb σ H1 Q
theorem pe_ifExp {c : Expr} (hc : PT X c tA) (ha : PE X a ta) (hb : PE X b tb) : PE X (.IfExp c a b pos) (tIf tA ta tb) := by
  intro pins s σ H Q I h
  refine wpAny_IfExp (thn (hc pins s σ H _ I h) fun d s1 ⟨H1, I1, q1⟩ => ?_)
  cases d with
  | true => exact ha pins s1 σ H1 Q I1 q1
  | false => exact hb pins s1 σ H1 Q I1 q1
end
end L2

namespace L2
open PySem PySem.Spec PyProof.Rows

/-! ### a list, a tuple that is read: tracked, frozen, or an object of the module -/
def SqL (K : PySem.W.Frag) (H : Hp) (a : Addr) (xs : List V) : Prop :=
  Rd H a (.lst xs) ∨
    ∃ (o : Obj) (its : Array Value) (n : Nat), K.lookup a = some o ∧ o.cls = .type "list" ∧ o.dict = none ∧ o.data = .seq its n ∧ its.size ≤ sizeLine ∧ Vals xs its.toList
def SqT (K : PySem.W.Frag) (H : Hp) (a : Addr) (xs : List V) : Prop :=
  Rd H a (.tup xs) ∨
    ∃ (o : Obj) (its : Array Value) (n : Nat), K.lookup a = some o ∧ o.cls = .type "tuple" ∧ o.data = .seq its n ∧ its.size ≤ sizeLine ∧ Vals xs its.toList
def absV : Value → Option V
  | .none => some .non
  | .bool b => some (.bl b)
  | .int i _ => some (.int i)
  | .str x _ => some (.str x)
  | .bytes b _ => some (.byt b)
  | .float b _ => some (.flt b)
  | .ref a => some (.ref a)
  | .type n => some (.ty n)
  | _ => none
theorem RelV.abs {x : V} {u : Value} (r : RelV x u) : absV u = some x := by
  cases x with
  | non => cases r; rfl
  | bl _ => cases r; rfl
  | int _ => obtain ⟨t, rfl⟩ := r; rfl
  | str _ => obtain ⟨t, rfl⟩ := r; rfl
  | byt _ => obtain ⟨t, rfl⟩ := r; rfl
  | flt _ => obtain ⟨t, rfl⟩ := r; rfl
  | ref _ => cases r; rfl
  | ty _ => cases r; rfl
theorem RelV.inj {x y : V} {u : Value} (r : RelV x u) (q : RelV y u) : x = y := Option.some.inj (r.abs.symm.trans q.abs)
theorem Vals.inj : ∀ {xs ys : List V} {us : List Value}, Vals xs us → Vals ys us → xs = ys
  | _, _, _, .nil, .nil => rfl
  | _, _, _, .cons r t, .cons r' t' => by rw [r.inj r', Vals.inj t t']
section
variable {X : Cx} {pins : List (Addr × Obj)} {σ : St} {H : Hp} {s : Shared} {a : Addr} {xs ys : List V}
theorem SqL.of {K : PySem.W.Frag} (h : H a = some (.lst xs)) : SqL K H a xs := .inl (.inl h)
theorem SqT.of {K : PySem.W.Frag} (h : H a = some (.tup xs)) : SqT K H a xs := .inl (.inl h)
theorem Inv.list (I : Inv X pins σ H s) (h : SqL X.K H a xs) : ∃ its : List Value, Vals xs its ∧ PlainL s.heap a its.toArray ∧ xs.length ≤ sizeLine := by
  rcases h with h | ⟨o, its, n, hk, hc, hd, hs, hz, r⟩
  · obtain ⟨z, its, n, r, e⟩ := h.ok I.hok
    exact ⟨its, r, ⟨_, n, e, rfl, rfl, rfl⟩, z⟩
  · refine ⟨its.toList, r, ⟨o, n, I.kIn a o hk, hc, hd, by simpa using hs⟩, ?_⟩
    have e := r.length
    simp only [Array.length_toList] at e
    omega
theorem Inv.tuple (I : Inv X pins σ H s) (h : SqT X.K H a xs) : ∃ its : List Value, Vals xs its ∧ IsTup s.heap a its.toArray ∧ xs.length ≤ sizeLine := by
  rcases h with h | ⟨o, its, n, hk, hc, hs, hz, r⟩
  · obtain ⟨z, its, r, p⟩ := h.ok I.hok
    exact ⟨its, r, p, z⟩
  · refine ⟨its.toList, r, ⟨o, I.kIn a o hk, hc, n, by simpa using hs⟩, ?_⟩
    have e := r.length
    simp only [Array.length_toList] at e
    omega
end

/-! ### another wish about exceptions -/
abbrev Cx.wish (X : Cx) (E : Value → Shared → Prop) : Cx := { X with xe := E }
/-- no exception leaves -/
abbrev Cx.nox (X : Cx) : Cx := X.wish fun _ _ => False
theorem Cx.Ok.wish {X : Cx} (ok : X.Ok) (E : Value → Shared → Prop) : (X.wish E).Ok :=
  ⟨ok.mod, ok.kind, ok.glob, ok.blt, ok.above, ok.inj, ok.has, ok.cab, ok.hd, ok.frames, ok.stk, ok.exf, ok.bs, ok.bsz, ok.noex, ok.exfs, ok.funs, ok.frf⟩
theorem Cx.Ok.unwish {X : Cx} {E : Value → Shared → Prop} (ok : (X.wish E).Ok) : X.Ok :=
  ⟨ok.mod, ok.kind, ok.glob, ok.blt, ok.above, ok.inj, ok.has, ok.cab, ok.hd, ok.frames, ok.stk, ok.exf, ok.bs, ok.bsz, ok.noex, ok.exfs, ok.funs, ok.frf⟩
section
variable {X : Cx} {pins : List (Addr × Obj)} {σ : St} {H : Hp} {s : Shared} {E : Value → Shared → Prop}
theorem Inv.wish (I : Inv X pins σ H s) (E : Value → Shared → Prop) : Inv (X.wish E) pins σ H s := ⟨I.ok.wish E, I.os, I.bare, I.base, I.loc, I.cell, I.free, I.freeC, I.pin, I.hok, I.len⟩
theorem Inv.unwish (I : Inv (X.wish E) pins σ H s) : Inv X pins σ H s := ⟨I.ok.unwish, I.os, I.bare, I.base, I.loc, I.cell, I.free, I.freeC, I.pin, I.hok, I.len⟩
theorem SP.unwish {D : Ends} {f : Flow} {s' : Shared} (h : SP (X.wish E) pins D f s') : SP X pins D f s' := by
  cases f with
  | next => obtain ⟨σ', H', I, q⟩ := h; exact ⟨σ', H', I.unwish, q⟩
  | brk => obtain ⟨σ', H', I, q⟩ := h; exact ⟨σ', H', I.unwish, q⟩
  | cont => obtain ⟨σ', H', I, q⟩ := h; exact ⟨σ', H', I.unwish, q⟩
  | ret u => obtain ⟨v, σ', H', I, r, q⟩ := h; exact ⟨v, σ', H', I.unwish, r, q⟩
theorem PE.nox {e : Expr} {t : TE} (h : PE X.nox e t) : PE X e t := fun pins s σ H Q I hw =>
  wpAny_mono (h pins s σ H Q (I.wish _) hw) (fun _ _ ⟨v, H', I', r, q⟩ => ⟨v, H', I'.unwish, r, q⟩) fun _ _ z => False.elim z
theorem PT.nox {e : Expr} {t : TT} (h : PT X.nox e t) : PT X e t := fun pins s σ H Q I hw =>
  wpAny_mono (h pins s σ H Q (I.wish _) hw) (fun _ _ ⟨H', I', q⟩ => ⟨H', I'.unwish, q⟩) fun _ _ z => False.elim z
theorem PSs.nox {st : List Stmt} {t : TS} (h : PSs X.nox st t) : PSs X st t := fun pins s σ H D I hw =>
  wpAny_mono (h pins s σ H D (I.wish _) hw) (fun _ _ q => q.unwish) fun _ _ z => False.elim z
end

/-! ### blocks and small statements -/
section
variable {X : Cx} {st : Stmt} {rest : List Stmt} {t u : TS} {e : Expr} {te : TE} {pos : Pos}
def tNext : TS := fun D σ H => D.nx σ H
def tSeq (t u : TS) : TS := fun D σ H => t { D with nx := u D } σ H
theorem pss_nil : PSs X [] tNext := fun _ _ σ H _ I h => wpAny_execs_nil ⟨σ, H, I, h⟩
theorem pss_cons (h1 : PS X st t) (h2 : PSs X rest u) : PSs X (st :: rest) (tSeq t u) := by
  intro pins s σ H D I h
  refine wpAny_execs_cons (thn (h1 pins s σ H { D with nx := u D } I h) fun f s1 q => ?_)
  cases f with
  | next =>
    obtain ⟨σ', H', I', q⟩ := q
    exact h2 pins s1 σ' H' D I' q
  | ret v => exact q
  | brk => exact q
  | cont => exact q
theorem pss_one (h1 : PS X st t) : PSs X [st] t := by
  intro pins s σ H D I h
  refine wpAny_execs_cons (thn (h1 pins s σ H D I h) fun f s1 q => ?_)
  cases f with
  | next => exact wpAny_execs_nil q
  | ret v => exact q
  | brk => exact q
  | cont => exact q
/-- in a def's body nothing is shown -/
theorem Inv.quiet {pins : List (Addr × Obj)} {σ : St} {H : Hp} {s : Shared} (I : Inv X pins σ H s) : interactive X.env = false := by simp [interactive, I.ok.kind]
def tRet (te : TE) : TS := fun D σ H => te σ H D.rt
theorem ps_ret (he : PE X e te) : PS X (.Return (some e) pos) (tRet te) := by
  intro pins s σ H D I h
  exact wpAny_Return_some (thn (he pins s σ H _ I h) fun v s1 ⟨x, H1, I1, r1, q1⟩ => ⟨x, σ, H1, I1, r1, q1⟩)
def tIfS (c : TT) (t u : TS) : TS := fun D σ H => c σ H fun b H1 => if b = true then t D σ H1 else u D σ H1
theorem ps_if {c : Expr} {a b : List Stmt} {tc : TT} (hc : PT X c tc) (ha : PSs X a t) (hb : PSs X b u) : PS X (.If c a b pos) (tIfS tc t u) := by
  intro pins s σ H D I h
  refine wpAny_If (thn (hc pins s σ H _ I h) fun d s1 ⟨H1, I1, q1⟩ => ?_)
  cases d with
  | true => exact ha pins s1 σ H1 D I1 q1
  | false => exact hb pins s1 σ H1 D I1 q1
end

/-! ### targets -/
abbrev TG := V → St → Hp → (St → Hp → Prop) → Prop
abbrev TGs := List V → St → Hp → (St → Hp → Prop) → Prop
def PG (X : Cx) (target : Expr) (t : TG) : Prop :=
  ∀ (pins : List (Addr × Obj)) (s : Shared) (σ : St) (H : Hp) (v : V) (u : Value) (Q : St → Hp → Prop), Inv X pins σ H s → RelV v u → t v σ H Q →
    wpAny (model X.prog X.w) X.A (assign target X.env u) (fun _ s' => ∃ σ' H', Inv X pins σ' H' s' ∧ Q σ' H') X.xe s
/-- several targets, one after another -/
def PGs (X : Cx) (ts : List Expr) (t : TGs) : Prop :=
  ∀ (pins : List (Addr × Obj)) (s : Shared) (σ : St) (H : Hp) (vs : List V) (us : List Value) (Q : St → Hp → Prop), Inv X pins σ H s → Vals vs us → t vs σ H Q →
    wpAny (model X.prog X.w) X.A (assignInOrder ((assignEach ts X.env).map (·.2)) us) (fun _ s' => ∃ σ' H', Inv X pins σ' H' s' ∧ Q σ' H') X.xe s
/-- o[i] = v, by values -/
abbrev TSet := V → V → V → Hp → (Hp → Prop) → Prop
def PSet (X : Cx) (t : TSet) : Prop :=
  ∀ (pins : List (Addr × Obj)) (s : Shared) (σ : St) (H : Hp) (o i v : V) (ov iv u : Value) (Q : Hp → Prop), Inv X pins σ H s → RelV o ov → RelV i iv → RelV v u → t o i v H Q →
    wpAny (model X.prog X.w) X.A (setItem ov iv u) (fun _ s' => ∃ H', Inv X pins σ H' s' ∧ Q H') X.xe s
section
variable {X : Cx} {pos : Pos}
def gName (i : Nat) : TG := fun v σ H Q => Q (σ.set i (some v)) H
theorem pg_name {i : Nat} {x : Str} (hN : X.N.Nodup) (hi : X.N[i]? = some x) (hx : Loc X.env.scope x) (hf : X.fn x = true ∨ X.env.scope.names.lookup x = some .local := by first | exact .inl rfl | exact .inr rfl | assumption) : PG X (.Name x pos) (gName i) := by
  intro pins s σ H v u Q I r h
  exact wpAny_assign_Name (store_ok I hN hi hx r (fun s' I' => ⟨_, H, I', h⟩) hf)
def gNil : TGs := fun vs σ H Q => vs = [] ∧ Q σ H
def gCons (t : TG) (u : TGs) : TGs := fun vs σ H Q => ∃ v r, vs = v :: r ∧ t v σ H fun σ' H' => u r σ' H' Q
theorem pgs_nil : PGs X [] gNil := by
  intro pins s σ H vs us Q I r h
  obtain ⟨e, h⟩ := h
  subst e
  cases r
  exact assignInOrder_nil ⟨σ, H, I, h⟩
theorem pgs_cons {e : Expr} {es : List Expr} {t : TG} {u : TGs} (h1 : PG X e t) (h2 : PGs X es u)
    (hs : (assignEach (e :: es) X.env).map (·.2) = assign e X.env :: (assignEach es X.env).map (·.2) := by rfl) : PGs X (e :: es) (gCons t u) := by
  intro pins s σ H vs us Q I r h
  obtain ⟨v, vr, e1, h⟩ := h
  subst e1
  cases r with
  | cons r rr =>
    rw [hs]
    refine assignInOrder_cons (thn (h1 pins s σ H _ _ _ I r h) fun _ s1 ⟨σ1, H1, I1, q1⟩ => ?_)
    exact h2 pins s1 σ1 H1 _ _ Q I1 rr q1
/-- (a, b, ..) = a tuple of that length -/
def gTup (K : PySem.W.Frag) (n : Nat) (t : TGs) : TG := fun v σ H Q => ∃ a xs, v = .ref a ∧ SqT K H a xs ∧ xs.length = n ∧ t xs σ H Q
theorem pg_tup {es : List Expr} {k : Nat} {t : TGs} {n : Nat} (hc : X.calm = true) (h : PGs X es t)
    (hn : (assignEach es X.env).length = n := by rfl) (hst : (assignEach es X.env).findIdx? (·.1) = none := by rfl) : PG X (.Tuple es k pos) (gTup X.K n t) := by
  intro pins s σ H v u Q I r hw
  obtain ⟨a, xs, e1, hq, hl, hw⟩ := hw
  subst e1
  cases r
  obtain ⟨its, rv, ht, hz⟩ := I.tuple hq
  refine assign_Tuple_tuple (I.ok.hd hc) ht (by simp [hn, ← hl, rv.length]) hst fun h' hx => ?_
  have I1 : Inv X pins σ H { s with heap := h' } := I.kept (t' := s.toks) fun b o e => hx b o (Nat.ne_of_lt (Heap.lt_size e)) e
  exact h pins _ σ H xs _ Q I1 (by simpa using rv) hw
/-- o[i] = .. -/
def gSub (to ti : TE) (t : TSet) : TG := fun v σ H Q => to σ H fun o H1 => ti σ H1 fun i H2 => t o i v H2 fun H3 => Q σ H3
theorem pg_sub {o i : Expr} {to ti : TE} {t : TSet} (ho : PE X o to) (hi : PE X i ti) (hs : PSet X t)
    (ha : ∀ v, assign (.Subscript o i pos) X.env v = (do
      let ov ← holding [v] (eval o X.env)
      let iv ← holding [v, ov] (eval i X.env)
      standAt pos
      holding [v, ov, iv] (setItem ov iv v)
      release [v, ov, iv] []) := by intro _; rfl) : PG X (.Subscript o i pos) (gSub to ti t) := by
  intro pins s σ H v u Q I r h
  rw [ha]
  refine wpAny_bind (wpAny_holding (thn (ho pins s σ H _ I h) fun ov s1 ⟨x, H1, I1, r1, q1⟩ => ?_))
  refine wpAny_bind (wpAny_holding (thn (hi pins s1 σ H1 _ I1 q1) fun iv s2 ⟨y, H2, I2, r2, q2⟩ => ?_))
  refine wpAny_bind (wpAny_standAt (wpAny_bind (wpAny_holding (thn (hs pins s2 σ H2 x y v ov iv u _ I2 r1 r2 r q2) fun _ s3 ⟨H3, I3, q3⟩ => ?_))))
  exact wpAny_release ⟨σ, H3, I3, q3⟩
/-- target = value -/
def tAsg (te : TE) (g : TG) : TS := fun D σ H => te σ H fun x H1 => g x σ H1 D.nx
theorem ps_asg {tg e : Expr} {te : TE} {g : TG} (he : PE X e te) (hg : PG X tg g) (hs : swapsWithSole [tg] e pos.line X.env = pure false := by rfl) (hw : swappedStores [tg] e X.env = pure none := by rfl)
    (h1 : (assignEach [tg] X.env).map (·.2) = [assign tg X.env] := by rfl) : PS X (.Assign [tg] e pos) (tAsg te g) := by
  intro pins s σ H D I h
  refine wpAny_Assign_stores (thn (he pins s σ H _ I h) fun v s1 ⟨x, H1, I1, r1, q1⟩ => ?_) hs hw
  rw [h1]
  exact thn (hg pins s1 σ H1 x v _ I1 r1 q1) fun _ s2 q => q
/-- name = value -/
theorem ps_set {i : Nat} {x : Str} {e : Expr} {te : TE} {pos' : Pos} (hN : X.N.Nodup) (hi : X.N[i]? = some x) (hx : Loc X.env.scope x) (he : PE X e te) (hs : swapsWith e (some (.Name x pos')) pos.line X.env = pure false := by rfl) (hf : X.fn x = true ∨ X.env.scope.names.lookup x = some .local := by first | exact .inl rfl | exact .inr rfl | assumption) :
    PS X (.Assign [.Name x pos'] e pos) (tAsg te (gName i)) := by
  intro pins s σ H D I h
  refine wpAny_Assign_Name (thn (he pins s σ H _ I h) fun v s1 ⟨y, H1, I1, r1, q1⟩ => ?_) hs
  exact store_ok I1 hN hi hx r1 (fun s2 I2 => ⟨_, H1, I2, q1⟩) hf
end

/-! ### while -/
section
variable {X : Cx} {pos : Pos}
end

/-! ### what a loop or a comprehension walks -/
/-- at turn i: it yields x (the heap may grow), or it stops -/
structure It where
  go : Nat → Hp → Prop
  yld : Nat → Hp → V → Hp → Prop
  stop : Nat → Hp → Prop
/-- the iterator's own objects may turn: they are not the frame's, not pinned, younger than the entry (or a comprehension's own) -/
def FpOk (X : Cx) (pins : List (Addr × Obj)) (H : Hp) (b : Addr) : Prop :=
  H b = none ∧ b ≠ X.env.locals ∧ b ∉ X.fs ∧ (b ∈ X.ex ∨ X.s₀.heap.objs.size ≤ b) ∧ (∀ x c, X.env.cells.lookup x = some c → c ≠ b) ∧ ∀ p ∈ X.pn ++ pins, p.1 ≠ b
theorem Inv.fpOk {X : Cx} {pins : List (Addr × Obj)} {σ : St} {H H' : Hp} {s : Shared} {b : Addr} (I : Inv X pins σ H s) (hb : s.heap.objs.size ≤ b) (hn : H' b = none) : FpOk X pins H' b := by
  refine ⟨hn, Nat.ne_of_gt (Nat.lt_of_lt_of_le I.lt hb), I.nofs hb, .inr (Nat.le_trans I.sz hb), fun x c e z => ?_, fun p hp z => ?_⟩
  · obtain ⟨v, q⟩ := I.cell x c e
    exact absurd (Nat.lt_of_lt_of_le q.lt (by rw [z]; exact hb)) (Nat.lt_irrefl _)
  · exact absurd (Nat.lt_of_lt_of_le (Heap.lt_size (I.pin p hp).1) (by rw [z]; exact hb)) (Nat.lt_irrefl _)
structure Turn (P : Program) (w : World) (K : PySem.W.Frag) (tg : Expr) (J : It) (fp : List Addr) (it : Addr) (tn : Nat → Heap → Prop) : Prop where
  mem : it ∈ fp
  obj : ∀ i h, tn i h → ∀ b ∈ fp, ∃ o, h.get? b = some o ∧ ∀ v, o.data ≠ .cell v
  keep : ∀ i h h', tn i h → (∀ b ∈ fp, ∀ o, h.get? b = some o → h'.get? b = some o) → tn i h'
  item : ∀ (X : Cx), X.prog = P → X.w = w → X.K = K → X.calm = true → ∀ (i : Nat) (pins : List (Addr × Obj)) (s : Shared) (σ : St) (H : Hp) (E : Value → Shared → Prop), Inv X pins σ H s → (∀ b ∈ fp, FpOk X pins H b) → tn i s.heap → J.go i H →
    wpAny (model P w) X.A (pyNext (.ref it)) (fun r s1 => ∃ u, r = some u ∧
      wpAny (model P w) X.A (letOwnedTupleGo tg (.ref it) u) (fun _ s2 => ∃ x H', Inv X pins σ H' s2 ∧ RelV x u ∧ J.yld i H x H' ∧ tn (i + 1) s2.heap ∧ ∀ b ∈ fp, H' b = none) E s1) E s
  done : ∀ (X : Cx), X.prog = P → X.w = w → X.K = K → X.calm = true → ∀ (i : Nat) (pins : List (Addr × Obj)) (s : Shared) (σ : St) (H : Hp) (E : Value → Shared → Prop), Inv X pins σ H s → (∀ b ∈ fp, FpOk X pins H b) → tn i s.heap → J.stop i H →
    wpAny (model P w) X.A (pyNext (.ref it)) (fun r s1 => r = none ∧ Inv X pins σ H s1) E s
  self : ∀ (A : Around) (i : Nat) (s : Shared) (Q : Value → Shared → Prop) (E : Value → Shared → Prop), tn i s.heap → Q (.ref it) s → wpAny (model P w) A (pyIter (.ref it)) Q E s
abbrev TI := St → Hp → (It → Hp → Prop) → Prop
/-- an iterator has come -/
def PIE (X : Cx) (pins : List (Addr × Obj)) (σ : St) (tg : Expr) (R : It → Hp → Prop) (itv : Value) (s2 : Shared) : Prop :=
  ∃ (it : Addr) (fp : List Addr) (tn : Nat → Heap → Prop) (J : It) (H' : Hp), itv = .ref it ∧ Inv X pins σ H' s2 ∧ Turn X.prog X.w X.K tg J fp it tn ∧ tn 0 s2.heap ∧ (∀ b ∈ fp, FpOk X pins H' b) ∧ R J H'
def PI (X : Cx) (tg iter : Expr) (wi : TI) : Prop :=
  ∀ (pins : List (Addr × Obj)) (s : Shared) (σ : St) (H : Hp) (R : It → Hp → Prop), Inv X pins σ H s → wi σ H R →
    wpAny (model X.prog X.w) X.A (eval iter X.env) (fun v s1 => wpAny (model X.prog X.w) X.A (pyIter v) (PIE X pins σ tg R) X.xe s1) X.xe s

/-- the step ahead of the store is nothing for an iterator that keeps no tuple -/
theorem go_of {M : Model} {A : Around} {E : Value → Shared → Prop} {s : Shared} {tg : Expr} {it : Addr} {u : Value} {o : Obj} {n : String} {vs : Array Value} {Q : Unit → Shared → Prop} (ho : s.heap.get? it = some o) (hc : o.cls = .type n) (hd : o.data = .fields vs)
    (hn : ["enumerate", "zip", "dict_itemiterator", "dict_reverseitemiterator", "odict_iterator", "itertools.zip_longest", "itertools.pairwise"].contains n = false) (hQ : Q () s) : wpAny M A (letOwnedTupleGo tg (.ref it) u) Q E s := by
  unfold letOwnedTupleGo
  cases tg <;> first
    | exact wpAny_pure hQ
    | (cases u <;> first
        | exact wpAny_pure hQ
        | (refine wpAny_bind (wpAny_load ho ?_)
           rw [hc, hd]
           show wpAny M A (if (["enumerate", "zip", "dict_itemiterator", "dict_reverseitemiterator", "odict_iterator", "itertools.zip_longest", "itertools.pairwise"].contains n && vs[0]? == some (rawInt _)) = true then _ else _) Q E s
           rw [if_neg (by intro h; rw [hn, Bool.false_and] at h; cases h)]
           exact wpAny_pure hQ))

/-- lo, lo + 1, .. (n of them) -/
def Itr (lo : Int) (n : Nat) : It := ⟨fun i _ => i < n, fun i H x H' => H' = H ∧ x = .int (lo + i), fun i _ => n ≤ i⟩
theorem turn_range {P : Program} {w : World} {K : PySem.W.Frag} {tg : Expr} (it : Addr) (lo : Int) (n : Nat) : Turn P w K tg (Itr lo n) [it] it (fun i h => IsRangeIter h it (lo + (i : Nat) * 1) ((n : Int) - (i : Nat)) 1) where
  mem := by simp
  obj := fun i h st b hb => by
    have e : b = it := by simpa using hb
    subst e
    exact ⟨_, st, fun v z => by
      have z' : Data.fields _ = Data.cell v := z
      cases z'⟩
  keep := fun i h h' st k => k it (by simp) _ st
  item := by
    intro X hP hw hK hc i pins s σ H E I hf st hg
    subst hP hw hK
    obtain ⟨f0, f1, f2, f3, f4, f5⟩ := hf it (by simp)
    have W := Walks.range (prog := X.prog) (w := X.w) (I.ok.hd hc) it lo 1 n
    refine W.item i s _ _ hg st fun v h' tk hv st' kk => ?_
    obtain ⟨t, rfl⟩ := hv
    have I1 : Inv X pins σ H { s with heap := h', toks := tk } := I.turned (fun b o hb e => kk b o (by simpa using hb) e) f0 f1 f3 f4 f5
    refine ⟨_, rfl, go_of (s := { s with heap := h', toks := tk }) (n := "range_iterator") st' rfl rfl (by decide) ⟨.int (lo + i), H, I1, ⟨t, ?_⟩, ⟨rfl, rfl⟩, st', fun b hb => (hf b hb).1⟩⟩
    rw [Int.mul_one]
  done := by
    intro X hP hw hK hc i pins s σ H E I hf st hg
    subst hP hw hK
    obtain ⟨f0, f1, f2, f3, f4, f5⟩ := hf it (by simp)
    exact wpAny_pyNext_range_end (I.ok.hd hc) st (by have : n ≤ i := hg; omega) fun h' eb => ⟨rfl, I.turned (t' := s.toks) (fun b o hb e => eb b o hb e) f0 f1 f3 f4 f5⟩
  self := fun _ _ _ _ _ st h => wpAny_pyIter_rangeiter st h
end L2

namespace L2
open PySem PySem.Spec PyProof.Rows
section
variable {X : Cx} {tg : Expr}
/-- a range object just made, walked -/
theorem range_it {pins : List (Addr × Obj)} {σ : St} {H : Hp} {s : Shared} {R : It → Hp → Prop} {E : Value → Shared → Prop} {lo hi : Int} {t u v : Tok} {tk : Nat} (I : Inv X pins σ H s) (h1 : -(2 ^ 62) ≤ lo) (h2 : lo < 2 ^ 62) (h3 : -(2 ^ 62) ≤ hi) (h4 : hi < 2 ^ 62)
    (q : R (Itr lo (hi - lo).toNat) H) : wpAny (model X.prog X.w) X.A (pyIter (.ref s.heap.objs.size)) (PIE X pins σ tg R) E { s with heap := s.heap.push { cls := .type "range", data := .fields #[.int lo t, .int hi u, .int 1 v] }, toks := tk } := by
  refine wpAny_pyIter_range (IsRange.new ..) (small_one h1 h2 h3 h4) ?_
  have I1 : Inv X pins σ H { s with heap := s.heap.push { cls := .type "range", data := .fields #[.int lo t, .int hi u, .int 1 v] }, toks := tk } := I.kept fun b o e => Heap.get?_push_of_some _ e
  refine ⟨(s.heap.push { cls := .type "range", data := .fields #[.int lo t, .int hi u, .int 1 v] }).objs.size, [(s.heap.push { cls := .type "range", data := .fields #[.int lo t, .int hi u, .int 1 v] }).objs.size], _, _, H, rfl,
    I1.kept (t' := tk) fun b o e => Heap.get?_push_of_some _ e, turn_range _ lo (hi - lo).toNat, ?_, fun b hb => ?_, q⟩
  · have e1 : lo + ((0 : Nat) : Int) * 1 = lo := by simp
    have e2 : (((hi - lo).toNat : Nat) : Int) - ((0 : Nat) : Int) = Builtin.Range.rangeSize lo hi 1 := by rw [rangeSize_one]; split <;> omega
    show IsRangeIter _ _ (lo + ((0 : Nat) : Int) * 1) ((((hi - lo).toNat : Nat) : Int) - ((0 : Nat) : Int)) 1
    rw [e1, e2]
    exact Heap.get?_push_size _ rfl
  · have e : b = (s.heap.push { cls := .type "range", data := .fields #[.int lo t, .int hi u, .int 1 v] }).objs.size := by simpa using hb
    subst e
    exact I1.fpOk (Nat.le_refl _) (I1.hok.fresh (Nat.le_refl _))
def iRng1 (ta : TA) : TI := fun σ H R => ta σ H fun vs H1 => ∃ j : Int, vs = [.int j] ∧ -(2 ^ 62) ≤ j ∧ j < 2 ^ 62 ∧ R (Itr 0 j.toNat) H1
def iRng2 (ta : TA) : TI := fun σ H R => ta σ H fun vs H1 => ∃ i j : Int, vs = [.int i, .int j] ∧ (-(2 ^ 62) ≤ i ∧ i < 2 ^ 62 ∧ -(2 ^ 62) ≤ j ∧ j < 2 ^ 62) ∧ R (Itr i (j - i).toNat) H1
theorem pi_range1 {a : Expr} {ta : TA} {p pos : Pos} (hg : Gl X "range") (hm : X.mg "range" = none) (ha : PA X [a] ta) (hs : starEach [a] X.env = [(false, eval a X.env)] := by rfl) : PI X tg (.Call (.Name "range" p) [a] [] pos) (iRng1 ta) := by
  intro pins s σ H R I h
  refine Call_ (ld_blt I hg hm boot_range (PyProof.Rows.callWith_type1 (thn (ha pos pins s σ H _ I h) fun us s1 ⟨vs, H1, I1, r1, q1⟩ => ?_) hs rfl))
  obtain ⟨j, e, q1, q2, q⟩ := q1
  subst e
  cases r1 with
  | cons r rr =>
    cases rr
    obtain ⟨t, rfl⟩ := r
    exact call_range_1 (range_it I1 (by omega) (by omega) q1 q2 (by simpa using q))
theorem pi_range2 {a b : Expr} {ta : TA} {p pos : Pos} (hg : Gl X "range") (hm : X.mg "range" = none) (ha : PA X [a, b] ta) (hs : starEach [a, b] X.env = [(false, eval a X.env), (false, eval b X.env)] := by rfl) (hs2 : starEach [b] X.env = [(false, eval b X.env)] := by rfl) :
    PI X tg (.Call (.Name "range" p) [a, b] [] pos) (iRng2 ta) := by
  intro pins s σ H R I h
  refine Call_ (ld_blt I hg hm boot_range (PyProof.Rows.callWith_type1 (thn (ha pos pins s σ H _ I h) fun us s1 ⟨vs, H1, I1, r1, q1⟩ => ?_) (by rw [hs, hs2]) (by rw [hs2]; rfl)))
  obtain ⟨i, j, e, ⟨q1, q2, q3, q4⟩, q⟩ := q1
  subst e
  cases r1 with
  | cons r rr =>
    cases rr with
    | cons r' rr =>
      cases rr
      obtain ⟨t, rfl⟩ := r
      obtain ⟨t', rfl⟩ := r'
      exact call_range_2 (range_it I1 q1 q2 q3 q4 q)

/-! ### for -/
/-- W: the invariant by the turn and a measure; N: what the body is to reach -/
def tFor (wi : TI) (g : TG) (tb : TS) : TS := fun D σ H => wi σ H fun J H1 => ∃ W : Nat → Nat → St → Hp → Prop, (∃ m, W 0 m σ H1) ∧ ∀ i m σ H, W i m σ H →
  (J.stop i H ∧ D.nx σ H) ∨ (J.go i H ∧ ∃ N : St → Hp → Prop, (∀ σ' H', N σ' H' → ∃ m', m' < m ∧ W (i + 1) m' σ' H') ∧ ∀ x H', J.yld i H x H' → g x σ H' fun σ2 H2 => tb { D with nx := N, ct := N, bk := D.nx } σ2 H2)
/-- the records at fp as they stand -/
def pinsAt (fp : List Addr) (h : Heap) : List (Addr × Obj) := fp.filterMap fun b => (h.get? b).map fun o => (b, o)
theorem mem_pinsAt {fp : List Addr} {h : Heap} {b : Addr} {o : Obj} (hb : b ∈ fp) (e : h.get? b = some o) : (b, o) ∈ pinsAt fp h := List.mem_filterMap.mpr ⟨b, hb, by rw [e]; rfl⟩
theorem of_pinsAt {fp : List Addr} {h : Heap} {p : Addr × Obj} (hp : p ∈ pinsAt fp h) : p.1 ∈ fp ∧ h.get? p.1 = some p.2 := by
  obtain ⟨b, hb, e⟩ := List.mem_filterMap.mp hp
  cases q : h.get? b with
  | none => rw [q] at e; cases e
  | some o =>
    rw [q] at e
    have e' : (b, o) = p := Option.some.inj e
    subst e'
    exact ⟨hb, q⟩
theorem Inv.pinned {pins : List (Addr × Obj)} {σ : St} {H : Hp} {s : Shared} {fp : List Addr} (I : Inv X pins σ H s) (hf : ∀ b ∈ fp, FpOk X pins H b) (ho : ∀ b ∈ fp, ∃ o, s.heap.get? b = some o ∧ ∀ v, o.data ≠ .cell v) : Inv X (pins ++ pinsAt fp s.heap) σ H s :=
  I.pins_of fun p hp => (List.mem_append.mp hp).elim (fun z => I.pin p (List.mem_append_right _ z)) fun z => by
    obtain ⟨hb, e⟩ := of_pinsAt z
    obtain ⟨f0, f1, f2, _⟩ := hf p.1 hb
    obtain ⟨o, e', d⟩ := ho p.1 hb
    rw [e] at e'; cases e'
    exact ⟨e, f0, f1, f2, d⟩
theorem Inv.unpinned {pins pl : List (Addr × Obj)} {σ : St} {H : Hp} {s : Shared} (I : Inv X (pins ++ pl) σ H s) : Inv X pins σ H s := I.pins_of fun p hp => I.pin p (List.mem_append_right _ (List.mem_append_left _ hp))
theorem ps_for {iter : Expr} {body : List Stmt} {wi : TI} {g : TG} {tb : TS} {pos : Pos} (hp : PassesOwn (model X.prog X.w) X.A X.env X.xe) (hc : X.calm = true) (hi : PI X tg iter wi) (hg : PG X tg g) (hb : PSs X body tb)
    (hs : ∀ x, foldedSetIterable iter X.env x = pure x := by intro _; rfl) : PS X (.For tg iter body [] pos) (tFor wi g tb) := by
  intro pins s σ H D I h
  refine wpAny_For (thn (hi pins s σ H _ I h) fun v s1 h1 => thn h1 fun itv s2 h2 => ?_) hs
  obtain ⟨it, fp, tn, J, H2, e, I2, T, st2, f2, W, ⟨m0, w0⟩, turn⟩ := h2
  subst e
  -- what stays true of the iterator's objects through the loop
  have stat : ∀ {H' : Hp}, (∀ b ∈ fp, H' b = none) → ∀ b ∈ fp, FpOk X pins H' b := fun hn b hb => ⟨hn b hb, (f2 b hb).2⟩
  refine codeAny_forLoop_any (fun n s' => ∃ i σ' H', Inv X pins σ' H' s' ∧ tn i s'.heap ∧ (∀ b ∈ fp, H' b = none) ∧ W i n σ' H') ?_ m0 ⟨0, σ, H2, I2, st2, fun b hb => (f2 b hb).1, w0⟩
  rintro n s3 ⟨i, σ3, H3, I3, st3, fr3, w3⟩
  rcases turn i n σ3 H3 w3 with ⟨stop, qn⟩ | ⟨go, N, hN, step⟩
  · refine wpAny_passesOwn hp (thn (T.done X rfl rfl rfl hc i pins s3 σ3 H3 X.xe I3 (stat fr3) st3 stop) fun r s4 ⟨hr, I4⟩ => ?_)
    subst hr
    exact wpAny_execs_nil ⟨σ3, H3, I4, qn⟩
  · refine wpAny_passesOwn hp (thn (T.item X rfl rfl rfl hc i pins s3 σ3 H3 X.xe I3 (stat fr3) st3 go) fun r s4 ⟨u, hr, h4⟩ => ?_)
    subst hr
    refine wpAny_passesOwn hp (thn h4 fun _ s5 ⟨x, H5, I5, r5, y5, st5, fr5⟩ => ?_)
    have I5' := I5.pinned (stat fr5) (T.obj _ _ st5)
    refine wpAny_passesOwn hp (thn (hg _ s5 σ3 H5 x u _ I5' r5 (step x H5 y5)) fun _ s6 ⟨σ6, H6, I6, q6⟩ => ?_)
    refine wpAny_passesOwn hp (thn (hb _ s6 σ6 H6 _ I6 q6) fun f s7 q7 => ?_)
    have again : ∀ {σ7 : St} {H7 : Hp}, Inv X (pins ++ pinsAt fp s5.heap) σ7 H7 s7 → N σ7 H7 → ∃ m, m < n ∧ ∃ i σ' H', Inv X pins σ' H' s7 ∧ tn i s7.heap ∧ (∀ b ∈ fp, H' b = none) ∧ W i m σ' H' := fun {σ7 H7} I7 n7 => by
      obtain ⟨m', hm, w7⟩ := hN σ7 H7 n7
      refine ⟨m', hm, i + 1, σ7, H7, I7.unpinned, T.keep _ _ _ st5 fun b hb o e => (I7.pin (b, o) (List.mem_append_right _ (List.mem_append_right _ (mem_pinsAt hb e)))).1, fun b hb => ?_, w7⟩
      obtain ⟨o, e, d⟩ := T.obj _ _ st5 b hb
      exact (I7.pin (b, o) (List.mem_append_right _ (List.mem_append_right _ (mem_pinsAt hb e)))).2.1
    cases f with
    | next => obtain ⟨σ7, H7, I7, n7⟩ := q7; exact again I7 n7
    | cont => obtain ⟨σ7, H7, I7, n7⟩ := q7; exact again I7 n7
    | brk => obtain ⟨σ7, H7, I7, q7⟩ := q7; exact ⟨σ7, H7, I7.unpinned, q7⟩
    | ret v => obtain ⟨x7, σ7, H7, I7, r7, q7⟩ := q7; exact ⟨x7, σ7, H7, I7.unpinned, r7, q7⟩
end

/-! ### the forms one uses -/
end L2

namespace L2
open PySem PySem.Spec PyProof.Rows

abbrev R2 := V → V → Hp → VK → Prop
/-- a two-place operation on values: f is binaryOp op, inplaceOp op or compareOp op -/
def OpR (X : Cx) (f : Value → Value → Sem Value) (r : R2) : Prop :=
  ∀ (pins : List (Addr × Obj)) (s : Shared) (σ : St) (H : Hp) (x y : V) (v u : Value) (Q : VK), Inv X pins σ H s → RelV x v → RelV y u → r x y H Q →
    wpAny (model X.prog X.w) X.A (f v u) (EP X pins σ Q) X.xe s
/-- a one-place operation -/
def UnR (X : Cx) (f : Value → Sem Value) (r : V → Hp → VK → Prop) : Prop :=
  ∀ (pins : List (Addr × Obj)) (s : Shared) (σ : St) (H : Hp) (x : V) (v : Value) (Q : VK), Inv X pins σ H s → RelV x v → r x H Q →
    wpAny (model X.prog X.w) X.A (f v) (EP X pins σ Q) X.xe s
/-- a call of a value that is known (a builtin, a type) with values -/
def CallR (X : Cx) (f : Value) (r : List V → Hp → VK → Prop) : Prop :=
  ∀ (pins : List (Addr × Obj)) (s : Shared) (σ : St) (H : Hp) (xs : List V) (us : List Value) (Q : VK), Inv X pins σ H s → Vals xs us → r xs H Q →
    wpAny (model X.prog X.w) X.A (call f us) (EP X pins σ Q) X.xe s
def tOp (r : R2) (ta tb : TE) : TE := fun σ H Q => ta σ H fun x H1 => tb σ H1 fun y H2 => r x y H2 Q
def tUn (r : V → Hp → VK → Prop) (ta : TE) : TE := fun σ H Q => ta σ H fun x H1 => r x H1 Q
/-- ints in, under C, and a value out -/
def rI (C : Int → Int → Prop) (g : Int → Int → V) : R2 := fun x y H Q => ∃ i j, x = .int i ∧ y = .int j ∧ C i j ∧ Q (g i j) H
def rI0 (g : Int → Int → V) : R2 := fun x y H Q => ∃ i j, x = .int i ∧ y = .int j ∧ Q (g i j) H
def rU (g : Int → V) : V → Hp → VK → Prop := fun x H Q => ∃ i, x = .int i ∧ Q (g i) H

section
variable {X : Cx} {a b c : Expr} {ta tb tc : TE} {pos : Pos}

theorem binT (ha : PE X a ta) (hb : PE X b tb) {pins : List (Addr × Obj)} {s : Shared} {σ : St} {H : Hp} {R : V → V → Hp → Prop} (I : Inv X pins σ H s)
    (h : ta σ H fun x H1 => tb σ H1 fun y H2 => R x y H2) {Q : Value → Shared → Prop} {f : Value → Value → Sem Value}
    (hf : ∀ v u s2 x y H2, Inv X pins σ H2 s2 → RelV x v → RelV y u → R x y H2 → wpAny (model X.prog X.w) X.A (f v u) Q X.xe s2) :
    wpAny (model X.prog X.w) X.A (eval a X.env) (fun v s₁ => wpAny (model X.prog X.w) X.A (eval b X.env) (fun u s₂ => wpAny (model X.prog X.w) X.A (f v u) Q X.xe s₂) X.xe s₁) X.xe s := by
  refine thn (ha pins s σ H _ I h) fun v s1 ⟨x, H1, I1, r1, q1⟩ => ?_
  refine thn (hb pins s1 σ H1 _ I1 q1) fun u s2 ⟨y, H2, I2, r2, q2⟩ => ?_
  exact hf v u s2 x y H2 I2 r1 r2 q2

theorem pe_op {op : Operator} {r : R2} (ho : OpR X (binaryOp op) r) (ha : PE X a ta) (hb : PE X b tb) : PE X (.BinOp a op b pos) (tOp r ta tb) := by
  intro pins s σ H Q I h
  exact wpAny_BinOp (binT ha hb I h fun v u s2 x y H2 I2 rx ry q => ho pins s2 σ H2 x y v u Q I2 rx ry q)
theorem pe_un {op : UnaryOp} {r : V → Hp → VK → Prop} (ho : UnR X (unaryOp op) r) (ha : PE X a ta) : PE X (.UnaryOp op a pos) (tUn r ta) := by
  intro pins s σ H Q I h
  exact UnaryOp_ (thn (ha pins s σ H _ I h) fun v s1 ⟨x, H1, I1, r1, q1⟩ => ho pins s1 σ H1 x v Q I1 r1 q1)
/-! ### ints -/
theorem opI {f : Value → Value → Sem Value} {C : Int → Int → Prop} {g : Int → Int → Int}
    (rule : ∀ (i j : Int) (t u : Tok) (s : Shared) (Q : Value → Shared → Prop) (E : Value → Shared → Prop), C i j → Q (.int (g i j) s.toks) { s with toks := s.toks + 1 } → wpAny (model X.prog X.w) X.A (f (.int i t) (.int j u)) Q E s) :
    OpR X f (rI C fun i j => .int (g i j)) := by
  intro pins s σ H x y v u Q I rx ry h
  obtain ⟨i, j, rfl, rfl, hc, q⟩ := h
  obtain ⟨t, rfl⟩ := rx
  obtain ⟨t', rfl⟩ := ry
  exact rule i j t t' s _ _ hc ⟨.int (g i j), H, I.tok _, ⟨_, rfl⟩, q⟩
theorem opI0 {f : Value → Value → Sem Value} {g : Int → Int → Int}
    (rule : ∀ (i j : Int) (t u : Tok) (s : Shared) (Q : Value → Shared → Prop) (E : Value → Shared → Prop), Q (.int (g i j) s.toks) { s with toks := s.toks + 1 } → wpAny (model X.prog X.w) X.A (f (.int i t) (.int j u)) Q E s) :
    OpR X f (rI0 fun i j => .int (g i j)) := by
  intro pins s σ H x y v u Q I rx ry h
  obtain ⟨i, j, rfl, rfl, q⟩ := h
  obtain ⟨t, rfl⟩ := rx
  obtain ⟨t', rfl⟩ := ry
  exact rule i j t t' s _ _ ⟨.int (g i j), H, I.tok _, ⟨_, rfl⟩, q⟩
theorem opB0 {f : Value → Value → Sem Value} {g : Int → Int → Bool}
    (rule : ∀ (i j : Int) (t u : Tok) (s : Shared) (Q : Value → Shared → Prop) (E : Value → Shared → Prop), Q (.bool (g i j)) s → wpAny (model X.prog X.w) X.A (f (.int i t) (.int j u)) Q E s) :
    OpR X f (rI0 fun i j => .bl (g i j)) := by
  intro pins s σ H x y v u Q I rx ry h
  obtain ⟨i, j, rfl, rfl, q⟩ := h
  obtain ⟨t, rfl⟩ := rx
  obtain ⟨t', rfl⟩ := ry
  exact rule i j t t' s _ _ ⟨.bl (g i j), H, I, rfl, q⟩

def CDiv (i j : Int) : Prop := 0 < j ∧ j < 1073741824
def CPow (i j : Int) : Prop := 0 ≤ j ∧ j ≤ 1000000 ∧ i.natAbs < 2 ^ 64
def CMul (i j : Int) : Prop := (-(2 ^ 64) < i ∧ i < 2 ^ 64) ∨ (-(2 ^ 64) < j ∧ j < 2 ^ 64)
theorem CMul.ok {i j : Int} (h : CMul i j) : IntMulOk i j := by
  rcases h with ⟨h1, h2⟩ | ⟨h1, h2⟩
  · exact .of_left (intBits_le_64 h1 h2)
  · exact .of_right (intBits_le_64 h1 h2)
theorem op_add : OpR X (binaryOp .Add) (rI0 fun i j => .int (i + j)) := opI0 fun _ _ _ _ _ _ _ q => add_int q
theorem op_sub : OpR X (binaryOp .Sub) (rI0 fun i j => .int (i - j)) := opI0 fun _ _ _ _ _ _ _ q => sub_int q
theorem op_mul : OpR X (binaryOp .Mult) (rI CMul fun i j => .int (i * j)) := opI fun _ _ _ _ _ _ _ hc q => mul_int q hc.ok
/-- // by a positive divisor -/
theorem op_fdiv : OpR X (binaryOp .FloorDiv) (rI CDiv fun i j => .int (i / j)) := opI fun i j _ _ _ _ _ hc q => by
  have h1 : (0 : Int) < j := hc.1
  have h2 : j < 1073741824 := hc.2
  exact floordiv_int (by omega) (by rw [Int.fdiv_eq_ediv_of_nonneg i (by omega)]; exact q) (.inl (PyProof.noPylong_small (by omega)))
/-- % by a positive divisor of any size -/
theorem op_mod : OpR X (binaryOp .Mod) (rI (fun _ j => 0 < j) fun i j => .int (i % j)) := opI fun i j _ _ _ _ _ hc q => by
  have h1 : (0 : Int) < j := hc
  exact mod_int' (by omega) (by rw [Int.fmod_eq_emod_of_nonneg i (by omega)]; exact q)
theorem op_pow : OpR X (binaryOp .Pow) (rI CPow fun i j => .int (i ^ j.toNat)) := opI fun _ _ _ _ _ _ _ hc q => pow_int_small hc.1 hc.2.1 hc.2.2 q
theorem unI {f : Value → Sem Value} {g : Int → Int}
    (rule : ∀ (i : Int) (t : Tok) (s : Shared) (Q : Value → Shared → Prop) (E : Value → Shared → Prop), Q (.int (g i) s.toks) { s with toks := s.toks + 1 } → wpAny (model X.prog X.w) X.A (f (.int i t)) Q E s) :
    UnR X f (rU fun i => .int (g i)) := by
  intro pins s σ H x v Q I rx h
  obtain ⟨i, rfl, q⟩ := h
  obtain ⟨t, rfl⟩ := rx
  exact rule i t s _ _ ⟨.int (g i), H, I.tok _, ⟨_, rfl⟩, q⟩
theorem un_neg : UnR X (unaryOp .USub) (rU fun i => .int (-i)) := unI fun _ _ _ _ _ q => neg_int q
/-! ### bools among ints: n += (a < b) -/
end

/-! ### comparisons -/
/-- the scalars that == tells apart as data does -/
def scal : V → V → Bool
  | .non, .non => true | .non, .int _ => true | .int _, .non => true | .non, .bl _ => true | .bl _, .non => true | .non, .str _ => true | .str _, .non => true
  | .int _, .int _ => true | .bl _, .bl _ => true | .str _, .str _ => true | .byt _, .byt _ => true
  | .int _, .str _ => true | .str _, .int _ => true | .bl _, .str _ => true | .str _, .bl _ => true
  | _, _ => false
def rEq : R2 := fun x y H Q => scal x y = true ∧ Q (.bl (decide (x = y))) H
def rNe : R2 := fun x y H Q => scal x y = true ∧ Q (.bl (!decide (x = y))) H

theorem dec_int {i j : Int} : decide (V.int i = V.int j) = (i == j) := by
  rw [Bool.eq_iff_iff]
  simp
theorem dec_bl {i j : Bool} : decide (V.bl i = V.bl j) = (i == j) := by
  rw [Bool.eq_iff_iff]
  simp
theorem dec_str {i j : Str} : decide (V.str i = V.str j) = (i == j) := by
  rw [Bool.eq_iff_iff]
  simp
theorem dec_byt {i j : Array UInt8} : decide (V.byt i = V.byt j) = (i.toList == j.toList) := by
  rw [Bool.eq_iff_iff]
  cases i
  cases j
  simp

section
variable {X : Cx} {a b c : Expr} {ta tb tc : TE} {pos : Pos}
theorem fin_bl {pins : List (Addr × Obj)} {σ : St} {H : Hp} {s : Shared} {Q : VK} {k k' : Bool} (I : Inv X pins σ H s) (q : Q (.bl k) H) (e : k = k') : EP X pins σ Q (.bool k') s := by
  subst e
  exact ⟨.bl k, H, I, rfl, q⟩
theorem op_eq : OpR X (compareOp .Eq) rEq := by
  intro pins s σ H x y v u Q I rx ry h
  obtain ⟨hs, q⟩ := h
  cases x with
  | non =>
    cases rx
    cases y with
    | non => cases ry; exact PySem.EqNone.eq_none_none (fin_bl I q (by simp))
    | bl j => cases ry; exact PySem.EqNone.eq_none_bool (fin_bl I q (by simp))
    | int j => obtain ⟨t', rfl⟩ := ry; exact PySem.EqNone.eq_none_int (fin_bl I q (by simp))
    | str j => obtain ⟨t', rfl⟩ := ry; exact PySem.EqNone.eq_none_str (fin_bl I q (by simp))
    | _ => exact absurd (show false = true from hs) Bool.false_ne_true
  | bl i =>
    cases rx
    cases y with
    | non => cases ry; exact PySem.EqNone.eq_bool_none (fin_bl I q (by simp))
    | bl j => cases ry; exact eq_bool (fin_bl I q dec_bl)
    | str j => obtain ⟨t', rfl⟩ := ry; exact PySem.EqMixed.eq_bool_str (fin_bl I q (by simp))
    | _ => exact absurd (show false = true from hs) Bool.false_ne_true
  | int i =>
    obtain ⟨t, rfl⟩ := rx
    cases y with
    | non => cases ry; exact PySem.EqNone.eq_int_none (fin_bl I q (by simp))
    | int j => obtain ⟨t', rfl⟩ := ry; exact eq_int (fin_bl I q dec_int)
    | str j => obtain ⟨t', rfl⟩ := ry; exact PySem.EqMixed.eq_int_str (fin_bl I q (by simp))
    | _ => exact absurd (show false = true from hs) Bool.false_ne_true
  | str i =>
    obtain ⟨t, rfl⟩ := rx
    cases y with
    | non => cases ry; exact PySem.EqNone.eq_str_none (fin_bl I q (by simp))
    | bl j => cases ry; exact PySem.EqMixed.eq_str_bool (fin_bl I q (by simp))
    | int j => obtain ⟨t', rfl⟩ := ry; exact PySem.EqMixed.eq_str_int (fin_bl I q (by simp))
    | str j => obtain ⟨t', rfl⟩ := ry; exact eq_str (fin_bl I q dec_str)
    | _ => exact absurd (show false = true from hs) Bool.false_ne_true
  | byt i =>
    obtain ⟨t, rfl⟩ := rx
    cases y with
    | byt j => obtain ⟨t', rfl⟩ := ry; exact PySem.W.eq_bytes (fin_bl I q dec_byt)
    | _ => exact absurd (show false = true from hs) Bool.false_ne_true
  | _ => cases y <;> exact absurd (show false = true from hs) Bool.false_ne_true
theorem op_ne : OpR X (compareOp .NotEq) rNe := by
  intro pins s σ H x y v u Q I rx ry h
  obtain ⟨hs, q⟩ := h
  cases x with
  | non =>
    cases rx
    cases y with
    | non => cases ry; exact PySem.EqNone.ne_none_none (fin_bl I q (by simp))
    | bl j => cases ry; exact PySem.EqNone.ne_none_bool (fin_bl I q (by simp))
    | int j => obtain ⟨t', rfl⟩ := ry; exact PySem.EqNone.ne_none_int (fin_bl I q (by simp))
    | str j => obtain ⟨t', rfl⟩ := ry; exact PySem.EqNone.ne_none_str (fin_bl I q (by simp))
    | _ => exact absurd (show false = true from hs) Bool.false_ne_true
  | bl i =>
    cases rx
    cases y with
    | non => cases ry; exact PySem.EqNone.ne_bool_none (fin_bl I q (by simp))
    | bl j => cases ry; exact ne_bool (fin_bl I q (congrArg not dec_bl))
    | str j => obtain ⟨t', rfl⟩ := ry; exact PySem.EqMixed.ne_bool_str (fin_bl I q (by simp))
    | _ => exact absurd (show false = true from hs) Bool.false_ne_true
  | int i =>
    obtain ⟨t, rfl⟩ := rx
    cases y with
    | non => cases ry; exact PySem.EqNone.ne_int_none (fin_bl I q (by simp))
    | int j => obtain ⟨t', rfl⟩ := ry; exact ne_int (fin_bl I q (congrArg not dec_int))
    | str j => obtain ⟨t', rfl⟩ := ry; exact PySem.EqMixed.ne_int_str (fin_bl I q (by simp))
    | _ => exact absurd (show false = true from hs) Bool.false_ne_true
  | str i =>
    obtain ⟨t, rfl⟩ := rx
    cases y with
    | non => cases ry; exact PySem.EqNone.ne_str_none (fin_bl I q (by simp))
    | bl j => cases ry; exact PySem.EqMixed.ne_str_bool (fin_bl I q (by simp))
    | int j => obtain ⟨t', rfl⟩ := ry; exact PySem.EqMixed.ne_str_int (fin_bl I q (by simp))
    | str j => obtain ⟨t', rfl⟩ := ry; exact ne_str (fin_bl I q (congrArg not dec_str))
    | _ => exact absurd (show false = true from hs) Bool.false_ne_true
  | byt i =>
    obtain ⟨t, rfl⟩ := rx
    cases y with
    | byt j => obtain ⟨t', rfl⟩ := ry; exact PySem.W.ne_bytes (fin_bl I q (congrArg not dec_byt))
    | _ => exact absurd (show false = true from hs) Bool.false_ne_true
  | _ => cases y <;> exact absurd (show false = true from hs) Bool.false_ne_true

theorem op_lt : OpR X (compareOp .Lt) (rI0 fun i j => .bl (decide (i < j))) := opB0 fun _ _ _ _ _ _ _ q => lt_int q
theorem op_le : OpR X (compareOp .LtE) (rI0 fun i j => .bl (decide (i ≤ j))) := opB0 fun _ _ _ _ _ _ _ q => le_int q
theorem op_gt : OpR X (compareOp .Gt) (rI0 fun i j => .bl (decide (j < i))) := opB0 fun _ _ _ _ _ _ _ q => gt_int q
/-- the one string within the other -/
theorem op_in_str : OpR X (compareOp .In) (fun x y H Q => ∃ i j, x = .str i ∧ y = .str j ∧ Q (.bl (!(Builtin.Str.occurrences j i 0 j.length 1).isEmpty)) H) := by
  intro pins s σ H x y v u Q I rx ry h
  obtain ⟨i, j, rfl, rfl, q⟩ := h
  obtain ⟨t, rfl⟩ := rx
  obtain ⟨t', rfl⟩ := ry
  exact in_str (fin_bl I q rfl)

/-- two rules for one operation: by cases -/
theorem OpR.or {f : Value → Value → Sem Value} {r r' : R2} (h : OpR X f r) (h' : OpR X f r') : OpR X f (fun x y H Q => r x y H Q ∨ r' x y H Q) := by
  intro pins s σ H x y v u Q I rx ry q
  rcases q with q | q
  · exact h pins s σ H x y v u Q I rx ry q
  · exact h' pins s σ H x y v u Q I rx ry q

theorem nomark (b : Expr) {op : CmpOp} (h : op ≠ .In := by decide) (h2 : op ≠ .NotIn := by decide) : behindInMarks op b = false := by
  have e1 : (op == CmpOp.In) = false := by cases op <;> first | rfl | exact absurd rfl h
  have e2 : (op == CmpOp.NotIn) = false := by cases op <;> first | rfl | exact absurd rfl h2
  cases b <;> simp [behindInMarks, e1, e2]
/-- a comparison as a value; hm: nomark b, or (for in, not in) by with_unfolding_all rfl -/
theorem pe_cmpR {op : CmpOp} {r : R2} (ho : OpR X (compareOp op) r) (ha : PE X a ta) (hb : PE X b tb) (hm : behindInMarks op b = false) : PE X (.Compare a [op] [b] pos) (tOp r ta tb) := by
  intro pins s σ H Q I h
  exact wpAny_Compare1 (binT ha hb I h fun v u s2 x y H2 I2 rx ry q => ho pins s2 σ H2 x y v u Q I2 rx ry q) hm
/-- a reading of a value as a test -/
def tTest (t : TE) : TT := fun σ H Q => t σ H fun x H' => ∃ k, x = .bl k ∧ Q k H'
theorem pt_cmpR {op : CmpOp} {r : R2} (ho : OpR X (compareOp op) r) (ha : PE X a ta) (hb : PE X b tb) (hm : behindInMarks op b = false) : PT X (.Compare a [op] [b] pos) (tTest (tOp r ta tb)) := by
  intro pins s σ H Q I h
  refine wpAny_isTrue_Compare1 (thn (ha pins s σ H _ I h) fun v s1 ⟨x, H1, I1, r1, q1⟩ => thn (hb pins s1 σ H1 _ I1 q1) fun u s2 ⟨y, H2, I2, r2, q2⟩ =>
    thn (ho pins s2 σ H2 x y v u _ I2 r1 r2 q2) fun c s3 ⟨z, H3, I3, r3, k, e, q3⟩ => ?_) hm
  subst e
  cases r3
  exact wpAny_truthy_bool ⟨H3, I3, q3⟩
/-- a op1 b op2 c -/
def tChain (r r' : R2) (ta tb tc : TE) : TE := fun σ H Q => ta σ H fun x H1 => tb σ H1 fun y H2 => r x y H2 fun z H3 => ∃ k, z = .bl k ∧
  (if k = true then tc σ H3 fun w' H4 => r' y w' H4 Q else Q (.bl false) H3)
theorem pe_chain {op op' : CmpOp} {r r' : R2} (ho : OpR X (compareOp op) r) (ho' : OpR X (compareOp op') r') (ha : PE X a ta) (hb : PE X b tb) (hc : PE X c tc)
    (hm : lastMarks [op, op'] [b, c] = false := by with_unfolding_all rfl) : PE X (.Compare a [op, op'] [b, c] pos) (tChain r r' ta tb tc) := by
  intro pins s σ H Q I h
  refine Compare_chain (thn (ha pins s σ H _ I h) fun v s1 ⟨x, H1, I1, r1, q1⟩ => chain_link (thn (hb pins s1 σ H1 _ I1 q1) fun u s2 ⟨y, H2, I2, r2, q2⟩ =>
    thn (ho pins s2 σ H2 x y v u _ I2 r1 r2 q2) fun d s3 ⟨z, H3, I3, r3, k, e, q3⟩ => ?_)) hm
  subst e
  cases r3
  refine wpAny_truthy_bool ?_
  cases k with
  | false => exact ite_ff ⟨.bl false, H3, I3, rfl, q3⟩
  | true => exact ite_tt (chain_last (thn (hc pins s3 σ H3 _ I3 q3) fun w' s4 ⟨z', H4, I4, r4, q4⟩ => ho' pins s4 σ H4 y z' u w' Q I4 r2 r4 q4))
theorem pt_chain {op op' : CmpOp} {r r' : R2} (ho : OpR X (compareOp op) r) (ho' : OpR X (compareOp op') r') (ha : PE X a ta) (hb : PE X b tb) (hc : PE X c tc)
    (hm : lastMarks [op, op'] [b, c] = false := by with_unfolding_all rfl) : PT X (.Compare a [op, op'] [b, c] pos) (tTest (tChain r r' ta tb tc)) := by
  intro pins s σ H Q I h
  refine isTrue_chain (thn (ha pins s σ H _ I h) fun v s1 ⟨x, H1, I1, r1, q1⟩ => test_link (thn (hb pins s1 σ H1 _ I1 q1) fun u s2 ⟨y, H2, I2, r2, q2⟩ =>
    thn (ho pins s2 σ H2 x y v u _ I2 r1 r2 q2) fun d s3 ⟨z, H3, I3, r3, k, e, q3⟩ => ?_)) hm
  subst e
  cases r3
  refine wpAny_truthy_bool ?_
  cases k with
  | false =>
    obtain ⟨k', e', q'⟩ := q3
    cases e'
    exact ite_ff ⟨H3, I3, q'⟩
  | true =>
    refine ite_tt (test_last (thn (hc pins s3 σ H3 _ I3 q3) fun w' s4 ⟨z', H4, I4, r4, q4⟩ => thn (ho' pins s4 σ H4 y z' u w' _ I4 r2 r4 q4) fun d' s5 ⟨z2, H5, I5, r5, k2, e2, q5⟩ => ?_))
    subst e2
    cases r5
    exact wpAny_truthy_bool ⟨H5, I5, q5⟩

/-! ### truth -/
theorem line63 : (sizeLine : Nat) < 2 ^ 63 := by rw [sizeLine_eq]; decide
/-! ### strs and bytes -/
theorem op_add_str : OpR X (binaryOp .Add) (fun x y H Q => ∃ i j, x = .str i ∧ y = .str j ∧ i.length + j.length ≤ sizeLine ∧ Q (.str (i ++ j)) H) := by
  intro pins s σ H x y v u Q I rx ry h
  obtain ⟨i, j, rfl, rfl, hz, q⟩ := h
  obtain ⟨t, rfl⟩ := rx
  obtain ⟨t', rfl⟩ := ry
  exact add_str (fun t' tk => ⟨.str (i ++ j), H, I.tok _, ⟨_, rfl⟩, q⟩) hz
/-! ### scalar builtins, by CallR -/
theorem vals1 {x : V} {us : List Value} (r : Vals [x] us) : ∃ u, us = [u] ∧ RelV x u := by
  cases r with
  | cons r1 r2 => cases r2; exact ⟨_, rfl, r1⟩
theorem vals2 {x y : V} {us : List Value} (r : Vals [x, y] us) : ∃ u w', us = [u, w'] ∧ RelV x u ∧ RelV y w' := by
  cases r with
  | cons r1 r2 =>
    cases r2 with
    | cons r3 r4 => cases r4; exact ⟨_, _, rfl, r1, r3⟩
theorem call_max2 (hc : X.calm = true) : CallR X (.builtin "max") (fun xs H Q => ∃ i j, xs = [.int i, .int j] ∧ Q (.int (if j > i then j else i)) H) := by
  intro pins s σ H xs us Q I r h
  obtain ⟨i, j, rfl, q⟩ := h
  obtain ⟨u, w', rfl, ⟨t, rfl⟩, ⟨t', rfl⟩⟩ := vals2 r
  refine max_two_ints (I.ok.hd hc) fun h' tk k => ⟨_, H, I.kept k, ?_, q⟩
  by_cases hj : j > i
  · rw [if_pos hj, if_pos hj]; exact ⟨_, rfl⟩
  · rw [if_neg hj, if_neg hj]; exact ⟨_, rfl⟩
theorem call_min2 (hc : X.calm = true) : CallR X (.builtin "min") (fun xs H Q => ∃ i j, xs = [.int i, .int j] ∧ Q (.int (if j < i then j else i)) H) := by
  intro pins s σ H xs us Q I r h
  obtain ⟨i, j, rfl, q⟩ := h
  obtain ⟨u, w', rfl, ⟨t, rfl⟩, ⟨t', rfl⟩⟩ := vals2 r
  refine min_two_ints (I.ok.hd hc) fun h' tk k => ⟨_, H, I.kept k, ?_, q⟩
  by_cases hj : j < i
  · rw [if_pos hj, if_pos hj]; exact ⟨_, rfl⟩
  · rw [if_neg hj, if_neg hj]; exact ⟨_, rfl⟩
theorem call_int1 : CallR X (.type "int") (fun xs H Q => (∃ i, xs = [.int i] ∧ Q (.int i) H) ∨ ∃ k, xs = [.bl k] ∧ Q (.int (if k then 1 else 0)) H) := by
  intro pins s σ H xs us Q I r h
  rcases h with ⟨i, rfl, q⟩ | ⟨k, rfl, q⟩
  · obtain ⟨u, rfl, t, rfl⟩ := vals1 r
    exact call_int_int ⟨.int i, H, I, ⟨_, rfl⟩, q⟩
  · obtain ⟨u, rfl, r1⟩ := vals1 r
    cases r1
    exact call_int_bool ⟨.int (if k then 1 else 0), H, I.tok _, ⟨_, rfl⟩, q⟩
theorem call_str_int : CallR X (.type "str") (fun xs H Q => ∃ i, xs = [.int i] ∧ i.natAbs.log2 < 1920 ∧ Q (.str (toString i)) H) := by
  intro pins s σ H xs us Q I r h
  obtain ⟨i, rfl, hz, q⟩ := h
  obtain ⟨u, rfl, t, rfl⟩ := vals1 r
  exact PySem.P.str_of_int hz ⟨.str _, H, I.tok _, ⟨_, rfl⟩, q⟩
end
end L2

namespace L2
open PySem PySem.Spec PyProof.Rows

/-! ### an instance, its attributes a map -/
structure ObjM (h : Heap) (x dx C : Addr) (mA : Str → Option Value) : Prop where
  obj : h.get? x = some (PySem.W.instObj C dx)
  ns : h.Ns1 dx mA
  ne : dx ≠ x

theorem lookIn_ns {h : Heap} {dx : Addr} {mA : Str → Option Value} (n : h.Ns1 dx mA) : ∃ od, h.get? dx = some od ∧ ∀ name, PySem.W.lookIn name od = some (mA name) := by
  obtain ⟨o, es, ep, ho, hd, hk, _, hm⟩ := n
  refine ⟨o, ho, fun name => ?_⟩
  have e := hm name
  unfold nsFind findBy at e
  rw [← Array.find?_toList] at e
  unfold PySem.W.lookIn
  rw [hd]
  dsimp only
  split
  · rename_i y q
    rw [q] at e
    exact congrArg some e
  · rename_i q
    rw [q] at e
    have a : es.toList.any (·.refKey) = false := by
      rw [List.any_eq_false]
      intro y hy
      obtain ⟨z, t, hkey⟩ := hk y (Array.mem_toList_iff.mp hy)
      simp [DictEntry.refKey, hkey]
    have a' : ¬ es.toList.any (·.refKey) = true := by rw [a]; exact Bool.false_ne_true
    rw [if_neg a']
    exact congrArg some e

theorem ObjM.look {h : Heap} {x dx C : Addr} {mA : Str → Option Value} (I : ObjM h x dx C mA) : ∃ od, PySem.W.InstAt h x (PySem.W.instObj C dx) C (some od) ∧ ∀ name, PySem.W.lookIn name od = some (mA name) :=
  let ⟨od, ho, hl⟩ := lookIn_ns I.ns
  ⟨od, ⟨I.obj, rfl, rfl, ho⟩, hl⟩

section
variable {prog : Program} {w : World} {A : Around} {E : Value → Shared → Prop} {s : Shared} {K : PySem.W.Frag} {x dx C f : Addr} {mA : Str → Option Value} {name : Str} {v : Value}

end

/-! ### the attributes as a list of pairs -/
theorem RelO.some_of {v : V} {o : Option Value} (r : RelO (some v) o) : ∃ u, o = some u ∧ RelV v u := by
  cases o with
  | none => exact (show False from r).elim
  | some u => exact ⟨u, rfl, r⟩
section
variable {P : Program} {w : World} {H H' : Hp} {h h' : Heap} {a C dx : Addr} {fs fs' : List (Str × V)}
end

/-! ### what of the text a class must have -/
structure Cls (K : PySem.W.Frag) (C : Addr) : Prop where
  pg : PySem.W.plainGet K C Str.empty = true
  hd : PySem.W.hasDictIn K C = true
  po : PySem.W.plainOver K C = true
  sa : PySem.W.findIn K (.ref C) "__setattr__" = some (some (.builtin "object.__setattr__"))
theorem Cls.get {K : PySem.W.Frag} {C : Addr} (c : Cls K C) (f : Str) : PySem.W.plainGet K C f = true := c.pg
/-- a constant of the class -/
structure Con (K : PySem.W.Frag) (C : Addr) (f : Str) (v : V) (u : Value) : Prop where
  at_ : PySem.W.findIn K (.ref C) f = some (some u)
  rel : RelV v u
  get : PySem.W.specialIn K u "__get__" = some none
  cp : PySem.W.copiedNames.contains f = false
/-- a method: a plain def of the class or of one above it -/
structure Meth (K : PySem.W.Frag) (C : Addr) (m : Str) (f : Addr) : Prop where
  at_ : PySem.W.findIn K (.ref C) m = some (some (.ref f))
  fn : PySem.W.isFn K (.ref f) = true
  kp : PySem.W.keepIn K (.ref f) = true

section
variable {X : Cx} {pins : List (Addr × Obj)} {σ : St} {H : Hp} {s : Shared} {a C dx : Addr} {fs : List (Str × V)} {f : Str} {v : V} {A : Around} {E : Value → Shared → Prop}

/-- a new instance, tracked, without attributes -/
theorem Inv.made (I : Inv X pins σ H s) : Inv X pins σ (upd (upd H s.heap.objs.size (.own (s.heap.objs.size + 1))) (s.heap.objs.size + 1) (.ins C s.heap.objs.size []))
    { s with heap := (s.heap.push PySem.W.emptyDict).push (PySem.W.instObj C s.heap.objs.size) } := by
  have e1 : (s.heap.push PySem.W.emptyDict).get? s.heap.objs.size = some PySem.W.emptyDict := Heap.get?_push_size s.heap rfl
  have e2 : ((s.heap.push PySem.W.emptyDict).push (PySem.W.instObj C s.heap.objs.size)).get? (s.heap.objs.size + 1) = some (PySem.W.instObj C s.heap.objs.size) := by
    have := Heap.get?_push_size (s.heap.push PySem.W.emptyDict) (o := PySem.W.instObj C s.heap.objs.size) rfl
    rwa [Heap.size_push] at this
  have e3 : (s.heap.push PySem.W.emptyDict).Ns s.heap.objs.size (fun _ => none) := ⟨PySem.W.emptyDict, #[], _, e1, rfl, (fun e he => absurd he (by simp)), fun _ => rfl⟩
  have I1 := I.laid (a := s.heap.objs.size) (o := .own (s.heap.objs.size + 1)) (h' := s.heap.push PySem.W.emptyDict) (t' := s.toks) (fun b u q => Heap.get?_push_of_some _ q) (Nat.le_refl _) ⟨_, e1⟩
  refine I1.laid (a := s.heap.objs.size + 1) (o := .ins C s.heap.objs.size []) (t' := s.toks) (fun b u q => Heap.get?_push_of_some _ q) (Nat.le_of_eq (Heap.size_push _ _)) ?_
  have ne : s.heap.objs.size ≠ s.heap.objs.size + 1 := Nat.ne_of_lt (Nat.lt_succ_self _)
  refine ⟨by rw [upd_ne ne, upd_same], Nat.zero_le _, ne, e2, fun _ => none, (Heap.Ns1.of_empty e3).at fun o q => Heap.get?_push_of_some _ q, fun _ => True.intro, fun y hy => absurd rfl hy⟩

end

/-! ### readings and rules -/
section
variable {X : Cx} {o e value : Expr} {f : Str} {pos pos' tpos : Pos} {ta tv : TE}
end

/-! ### isinstance -/
section
variable {X : Cx} {pins : List (Addr × Obj)} {σ : St} {H : Hp} {s : Shared} {A : Around} {E : Value → Shared → Prop} {Q : Value → Shared → Prop} {c : Value} {b : Bool}
/-- the type of a value, as the fragment's deciders take it; for an instance its class -/
inductive TyOf (K : PySem.W.Frag) (H : Hp) : V → Value → Prop where
  | non : TyOf K H .non (.type "NoneType")
  | bl (x : Bool) : TyOf K H (.bl x) (.type "bool")
  | int (i : Int) : TyOf K H (.int i) (.type "int")
  | str (x : Str) : TyOf K H (.str x) (.type "str")
  | flt (x : UInt64) : TyOf K H (.flt x) (.type "float")
  | lst {a : Addr} {xs : List V} (e : H a = some (.lst xs)) : TyOf K H (.ref a) (.type "list")
  | frz {a : Addr} {o : Obj} {xs : List V} (e : H a = some (.frz o (.lst xs))) : TyOf K H (.ref a) (.type "list")
  | tup {a : Addr} {xs : List V} (e : H a = some (.tup xs)) : TyOf K H (.ref a) (.type "tuple")
  | dK {a : Addr} {kvs : List (Key × V)} (e : H a = some (.dK kvs)) : TyOf K H (.ref a) (.type "dict")
  | dT {a : Addr} {kvs : List (List Key × V)} (e : H a = some (.dT kvs)) : TyOf K H (.ref a) (.type "dict")
  | ins {a C dx : Addr} {fs : List (Str × V)} (e : H a = some (.ins C dx fs)) (cl : Cls K C) (ha : PySem.W.findIn K (.ref C) "__class__" = some (some (.builtin "object.__class__")))
      (hn : PySem.W.specialIn K (.builtin "object.__class__") "__get__" = some (some (.builtin "getset_descriptor.__get__"))) (htk : PySem.W.takesIn K (.builtin "object.__class__") = some true)
      (hm : PySem.W.mroIn K C (.type "object") = some true) : TyOf K H (.ref a) (.ref C)
end
end L2

namespace L2
open PySem PySem.Spec PyProof.Rows

/-! ### room -/
structure Room (k : Nat) (A : Around) : Prop where
  hd : A.handled = none
  dp : A.depth + 3 * k + 5 < recursionLimit
  un : A.units + 16 * k + 200 < cLine
theorem Room.mono {j k : Nat} {A : Around} (r : Room k A) (h : j ≤ k) : Room j A := ⟨r.hd, by have := r.dp; omega, by have := r.un; omega⟩
theorem Room.deeper {k : Nat} {A : Around} (r : Room (k + 1) A) (env : Env) : Room k (A.deeper env) :=
  ⟨r.hd, by have := r.dp; show A.depth + 1 + 3 * k + 5 < _; omega, by have := r.un; show A.units + 3 + 16 * k + 200 < _; omega⟩
theorem Room.in1 {k : Nat} {A : Around} (r : Room (k + 1) A) : Room k A.in1 :=
  ⟨r.hd, by have := r.dp; show A.depth + 3 * k + 5 < _; omega, by have := r.un; show A.units + 1 + 16 * k + 200 < _; omega⟩
theorem Room.depth {k : Nat} {A : Around} (r : Room k A) : A.depth < recursionLimit := by have := r.dp; omega
theorem Room.units {k : Nat} {A : Around} (r : Room k A) : A.units + 64 < cLine := by have := r.un; omega
/-! ### argument lists and displays -/
def tNil : TA := fun _ H Q => Q [] H
def tCons (ta : TE) (tr : TA) : TA := fun σ H Q => ta σ H fun x H1 => tr σ H1 fun xs H2 => Q (x :: xs) H2
section
variable {X : Cx} {e : Expr} {es : List Expr} {te : TE} {t : TA} {pos : Pos}
theorem pa_nil : PA X [] tNil := fun _ _ _ _ H Q I h => Calls.spliced_nil ⟨[], H, I, .nil, h⟩
theorem pa_cons (ha : PE X e te) (hr : PA X es t) (hs : starEach (e :: es) X.env = (false, eval e X.env) :: starEach es X.env := by rfl) : PA X (e :: es) (tCons te t) := by
  intro pos pins s σ H Q I h
  rw [hs]
  show wpAny _ _ (spliced ((false, eval e X.env) :: backTo pos (starEach es X.env))) _ _ s
  refine Calls.spliced_cons (thn (ha pins s σ H _ I h) fun u s1 ⟨x, H1, I1, r1, q1⟩ => ?_)
  exact thn (hr pos pins s1 σ H1 _ I1 q1) fun us s2 ⟨xs, H2, I2, r2, q2⟩ => ⟨x :: xs, H2, I2, .cons r1 r2, q2⟩

/-- a tuple, a list of written items -/
def tTup (t : TA) : TE := fun σ H Q => t σ H fun xs H1 => xs.length ≤ sizeLine ∧ ∀ p, H1 p = none → Q (.ref p) (upd H1 p (.tup xs))
def tLst (t : TA) : TE := fun σ H Q => t σ H fun xs H1 => xs.length ≤ sizeLine ∧ ∀ p, H1 p = none → Q (.ref p) (upd H1 p (.lst xs))
theorem pe_tup {x1} (h : PA X es t) : PE X (.Tuple es x1 pos) (tTup t) := by
  intro pins s σ H Q I hq
  refine wpAny_Tuple_spliced (thn (h pos pins s σ H _ I hq) fun us s1 ⟨xs, H1, I1, r, z, q⟩ => ⟨by rw [← r.length]; exact z, ?_⟩)
  have hf : H1 s1.heap.objs.size = none := I1.hok.fresh (Nat.le_refl _)
  refine ⟨.ref s1.heap.objs.size, upd H1 s1.heap.objs.size (.tup xs), I1.laid (t' := s1.toks) (fun b u e => Heap.get?_push_of_some _ e) (Nat.le_refl _) ?_, rfl, q _ hf⟩
  exact ⟨z, us, r, ⟨_, Heap.get?_push_size _ rfl, rfl, _, rfl⟩⟩
theorem pe_lst (h : PA X es t) : PE X (.List es pos) (tLst t) := by
  intro pins s σ H Q I hq
  refine wpAny_List_spliced (thn (h pos pins s σ H _ I hq) fun us s1 ⟨xs, H1, I1, r, z, q⟩ => ⟨by rw [← r.length]; exact z, ?_⟩)
  have hf : H1 s1.heap.objs.size = none := I1.hok.fresh (Nat.le_refl _)
  refine ⟨.ref s1.heap.objs.size, upd H1 s1.heap.objs.size (.lst xs), I1.laid (t' := s1.toks) (fun b u e => Heap.get?_push_of_some _ e) (Nat.le_refl _) ?_, rfl, q _ hf⟩
  exact ⟨z, us, 0, r, Heap.get?_push_size _ rfl⟩
end

/-! ### what a def promises -/
/-- a def's promise: the bound arguments in the parameters' order, the heap, the wanted end, the wanted exception -/
abbrev Sp := List V → Hp → VK → XK → Prop
/-- how an exception lies behind a call (file 08 gives it): the callers' frames, abstract heap and state ahead of the call, the wish, the exception, the state -/
abbrev CXT := List Env → Hp → Shared → XK → Value → Shared → Prop

/-- the state at a call -/
structure Env0 (P : Program) (w : World) (K : PySem.W.Frag) (mg : Str → Option Value) (base : Heap) (A : Around) (outer : List Env) (s : Shared) (H : Hp) : Prop where
  frames : A.frames = some outer
  mod : Mod K mg base
  bs : ∀ b o, base.get? b = some o → s.heap.get? b = some o ∧ H b = none
  bsz : base.objs.size ≤ s.heap.objs.size
  funs : s.heap.FunFrames base outer
  frf : ∀ b ∈ frs outer, H b = none
  hok : HOk P w H s.heap
  bare : AllBare s.gens
/-- a call's end -/
def CE (outer : List Env) (P : Program) (w : World) (H : Hp) (s : Shared) (Q : VK) (u : Value) (s' : Shared) : Prop :=
  ∃ v H', s'.os = s.os ∧ AllBare s'.gens ∧ Un (frs outer) [] H H' s.heap s'.heap ∧ HOk P w H' s'.heap ∧ RelV v u ∧ Q v H'
def CR (CX : CXT) (outer : List Env) (P : Program) (w : World) (H : Hp) (s : Shared) (Q : VK) (E : XK) (r : Result) (s' : Shared) : Prop :=
  match r with
  | .ok (.ret u) => CE outer P w H s Q u s'
  | .ok _ => False
  | .error e => CX outer H s E e s'
structure FnOk (P : Program) (w : World) (K : PySem.W.Frag) (mg : Str → Option Value) (base : Heap) (CX : CXT) (k : Nat) (f : Addr) (fd : FuncData) (ps : List Str) (sp : Sp) : Prop where
  len : ∀ vs H Q E, sp vs H Q E → vs.length = ps.length
  run : ∀ (A : Around) (outer : List Env) (s : Shared) (H : Hp) (args : Args) (us : List Value) (vs : List V) (Q : VK) (E : XK), Room k A → Env0 P w K mg base A outer s H → BindsTo s fd args (ps.zip us) → Vals vs us → sp vs H Q E →
    codeAny (model P w) A (.call (.ref f) args) (CR CX outer P w H s Q E) s
theorem FnOk.mono {P : Program} {w : World} {K : PySem.W.Frag} {mg : Str → Option Value} {base : Heap} {CX : CXT} {j k : Nat} {f : Addr} {fd : FuncData} {ps : List Str} {sp : Sp} (F : FnOk P w K mg base CX j f fd ps sp) (h : j ≤ k) :
    FnOk P w K mg base CX k f fd ps sp := ⟨F.len, fun A outer s H args us vs Q E hr => F.run A outer s H args us vs Q E (hr.mono h)⟩
theorem Env0.in1 {P : Program} {w : World} {K : PySem.W.Frag} {mg : Str → Option Value} {base : Heap} {A : Around} {outer : List Env} {s : Shared} {H : Hp} (e : Env0 P w K mg base A outer s H) :
    Env0 P w K mg base A.in1 outer s H := ⟨e.frames, e.mod, e.bs, e.bsz, e.funs, e.frf, e.hok, e.bare⟩

section
variable {X : Cx} {pins : List (Addr × Obj)} {σ : St} {H : Hp} {s s' : Shared}
/-- from a body: what a callee wants -/
theorem Inv.env0 (I : Inv X pins σ H s) : Env0 X.prog X.w X.K X.mg X.base X.A X.stack s H :=
  ⟨I.ok.frames, I.ok.mod, I.bs, Nat.le_trans I.ok.bsz I.sz, I.stack, I.stkFree, I.hok, I.bare⟩
/-- behind a call -/
theorem Inv.after {Q : VK} {u : Value} (I : Inv X pins σ H s) (h : CE X.stack X.prog X.w H s Q u s') : EP X pins σ Q u s' := by
  obtain ⟨v, H', os, bare, un, hok, r, q⟩ := h
  obtain ⟨hh, g, d, t, os'⟩ := s'
  obtain rfl : os' = s.os := os
  exact ⟨v, H', I.call (h' := hh) (g' := g) (d' := d) (t' := t) (ch := []) un hok bare (fun b z => absurd z (by simp)), r, q⟩
end

/-! ### calls -/
/-- f(..): the written arguments, then the defaults dvs; E: what is wanted of an exception -/
def tCall (sp : Sp) (dvs : List V) (E : XK) (t : TA) : TE := fun σ H Q => t σ H fun vs H1 => sp (vs ++ dvs) H1 Q E
/-- how the parameters are bound: us the positional arguments, kw the keywords' values by name, ds the defaults that fill up -/
def Binds (K : PySem.W.Frag) (fd : FuncData) (ps : List Str) (ds : List Value) : Prop :=
  ∀ (s : Shared) (us : List Value), K.In s.heap → (us ++ ds).length = ps.length → BindsTo s fd ⟨us, []⟩ (ps.zip (us ++ ds))
/-- every parameter is given -/
theorem Binds.all {K : PySem.W.Frag} {fd : FuncData} {ps : List Str} (h : ∀ us : List Value, us.length = ps.length → bindArgs fd ⟨us, []⟩ = pure (ps.zip us)) : Binds K fd ps [] := fun s us _ hl => by
  rw [List.append_nil] at hl ⊢
  exact .of_eq (h us hl)

/-- an exception of a callee reaches what this body wants of exceptions -/
def Passes (CX : CXT) (X : Cx) (E : XK) : Prop := ∀ (pins : List (Addr × Obj)) (σ : St) (H : Hp) (s : Shared) (e : Value) (s' : Shared), Inv X pins σ H s → CX X.stack H s E e s' → X.xe e s'

section
variable {X : Cx} {CX : CXT} {k : Nat} {f C : Addr} {fd : FuncData} {ps : List Str} {sp : Sp} {dvs : List V} {ds : List Value} {E : XK} {x m : Str} {p pos apos : Pos} {e o : Expr} {es : List Expr} {ta : TE} {t : TA}

/-- the callee runs -/
theorem run_fn {pins : List (Addr × Obj)} {σ : St} {H : Hp} {s : Shared} {Q : VK} {us : List Value} {vs : List V} (F : FnOk X.prog X.w X.K X.mg X.base CX k f fd ps sp) (hr : Room k X.A) (hb : Binds X.K fd ps ds) (hd : Vals dvs ds) (hx : Passes CX X E)
    (I : Inv X pins σ H s) (r : Vals vs us) (h : sp (vs ++ dvs) H Q E) : wpAny (model X.prog X.w) X.A (call (.ref f) us) (EP X pins σ Q) X.xe s := by
  have r2 : Vals (vs ++ dvs) (us ++ ds) := r.append hd
  have hl : (us ++ ds).length = ps.length := by rw [← r2.length]; exact F.len _ _ _ _ h
  refine wpAny_call (codeAny_mono (F.run X.A X.stack s H ⟨us, []⟩ (us ++ ds) (vs ++ dvs) Q E hr I.env0 (hb s us I.kIn hl) r2 h) fun r s' hq => ?_)
  cases r with
  | error e => exact hx pins σ H s e s' I hq
  | ok fl =>
    cases fl with
    | ret u => exact I.after hq
    | next => exact False.elim hq
    | brk => exact False.elim hq
    | cont => exact False.elim hq

theorem pe_call (F : FnOk X.prog X.w X.K X.mg X.base CX k f fd ps sp) (hr : Room k X.A) (hg : Gl X x) (hm : X.mg x = some (.ref f)) (hk : PySem.W.keepIn X.K (.ref f) = true) (hb : Binds X.K fd ps ds) (hd : Vals dvs ds) (hx : Passes CX X E)
    (ha : PA X (e :: es) t) (hdb : (x == ("__debug__" : Str)) = false := by decide) (he : starEach (e :: es) X.env = (false, eval e X.env) :: starEach es X.env := by rfl) (hpl : (backTo pos (starEach es X.env)).any (·.1) = false := by rfl) :
    PE X (.Call (.Name x p) (e :: es) [] pos) (tCall sp dvs E t) := by
  intro pins s σ H Q I h
  refine wpAny_Call_Name_kw (ld_glob I hg hm ?_ hdb)
  refine PySem.W.callWith_K (h₀ := X.base) I.ok.mod.kin hk (thn (ha pos pins s σ H _ I h) fun us s1 ⟨vs, H1, I1, r, q⟩ => ⟨I1.kIn, ?_⟩) he hpl
  exact run_fn F hr hb hd hx I1 r q
/-- what a class must have to be made -/
structure Mk (K : PySem.W.Frag) (C f : Addr) : Prop where
  makes : PySem.W.makesIn K C = true
  init : PySem.W.findIn K (.ref C) "__init__" = some (some (.ref f))
  fn : PySem.W.isFn K (.ref f) = true
  kp : PySem.W.keepIn K (.ref C) = true

end

/-! ### keywords -/
section
variable {X : Cx} {CX : CXT} {k : Nat} {f C : Addr} {fd : FuncData} {ps ks : List Str} {sp : Sp} {E : XK} {x m : Str} {p pos apos kpos : Pos} {e o : Expr} {es : List Expr} {kws : List Keyword} {te ta : TE} {t tk : TA} {nm : Option Str}
/-- how a call with keywords binds: g puts the positional values us and the keywords' values ws (names ks) in the parameters' order, defaults among them -/
structure KBinds (K : PySem.W.Frag) (fd : FuncData) (ps ks : List Str) (g : List Value → List Value → List Value) (gV : List V → List V → List V) : Prop where
  to : ∀ (s : Shared) (us ws : List Value), K.In s.heap → (g us ws).length = ps.length → BindsTo s fd ⟨us, ks.zip ws⟩ (ps.zip (g us ws))
  rel : ∀ {vs : List V} {us : List Value} {zs : List V} {ws : List Value}, Vals vs us → Vals zs ws → Vals (gV vs zs) (g us ws)
variable {g : List Value → List Value → List Value} {gV : List V → List V → List V}
end

/-! ### a def's body keeps its promise -/
/-- names: the parameters first -/
structure FnScope (N P : List Str) (sc : Scope) : Prop where
  kind : sc.kind = .function
  co : sc.isCoroutine = false
  gen : sc.isGenerator = false
  nd : N.Nodup
  pre : N.take P.length = P
  par : ∀ x ∈ P, sc.names.lookup x = some .local ∨ sc.names.lookup x = some .cell
  nofree : ∀ y ∈ sc.names, y.2 ≠ .free

theorem bindL_out {kindOf : Str → Option NameKind} {x : Str} : ∀ {binds : List (Str × Value)} {m : Str → Option Value}, (∀ v, (x, v) ∉ binds) → bindL kindOf binds m x = m x
  | [], _, _ => rfl
  | (n, v) :: r, m, h => by
    unfold bindL
    rw [bindL_out fun w hw => h w (List.mem_cons_of_mem _ hw)]
    split
    · have : x ≠ n := by rintro rfl; exact h v List.mem_cons_self
      simp [this]
    · rfl
theorem bindC_out {kindOf : Str → Option NameKind} {x : Str} : ∀ {binds : List (Str × Value)} {m : Str → Option Value}, (∀ v, (x, v) ∉ binds) → bindC kindOf binds m x = m x
  | [], _, _ => rfl
  | (n, v) :: r, m, h => by
    unfold bindC
    rw [bindC_out fun w hw => h w (List.mem_cons_of_mem _ hw)]
    split
    · rfl
    · have : x ≠ n := by rintro rfl; exact h v List.mem_cons_self
      simp [this]
theorem bindL_get {kindOf : Str → Option NameKind} {x : Str} {v : Value} : ∀ {P : List Str} {vs : List Value} {i : Nat} {m : Str → Option Value}, P.Nodup → P[i]? = some x → vs[i]? = some v → kindOf x = some .local →
    bindL kindOf (P.zip vs) m x = some v
  | [], _, _, _, _, h, _, _ => by simp at h
  | _ :: _, [], _, _, _, _, h, _ => by simp at h
  | p :: P, w :: vs, 0, m, nd, h1, h2, hk => by
    simp at h1 h2; subst h1; subst h2
    show bindL kindOf ((p, w) :: P.zip vs) m p = _
    unfold bindL
    rw [bindL_out fun v hv => (List.nodup_cons.mp nd).1 (List.of_mem_zip hv).1, if_pos hk]
    simp
  | p :: P, w :: vs, i + 1, m, nd, h1, h2, hk => by
    show bindL kindOf ((p, w) :: P.zip vs) m x = _
    unfold bindL
    exact bindL_get (i := i) (List.nodup_cons.mp nd).2 (by simpa using h1) (by simpa using h2) hk
theorem bindC_get {kindOf : Str → Option NameKind} {x : Str} {v : Value} : ∀ {P : List Str} {vs : List Value} {i : Nat} {m : Str → Option Value}, P.Nodup → P[i]? = some x → vs[i]? = some v → kindOf x ≠ some .local →
    bindC kindOf (P.zip vs) m x = some v
  | [], _, _, _, _, h, _, _ => by simp at h
  | _ :: _, [], _, _, _, _, h, _ => by simp at h
  | p :: P, w :: vs, 0, m, nd, h1, h2, hk => by
    simp at h1 h2; subst h1; subst h2
    show bindC kindOf ((p, w) :: P.zip vs) m p = _
    unfold bindC
    rw [bindC_out fun v hv => (List.nodup_cons.mp nd).1 (List.of_mem_zip hv).1, if_neg hk]
    simp
  | p :: P, w :: vs, i + 1, m, nd, h1, h2, hk => by
    show bindC kindOf ((p, w) :: P.zip vs) m x = _
    unfold bindC
    exact bindC_get (i := i) (List.nodup_cons.mp nd).2 (by simpa using h1) (by simpa using h2) hk

/-- the names' values at the entry -/
def start (N : List Str) (vs : List V) : St := vs.map some ++ List.replicate (N.length - vs.length) none

/-- the context of a def's body, at its entry; an exception leaves the frame, then lies as CX says -/
def cxOf (CX : CXT) (P : Program) (w : World) (K : PySem.W.Frag) (mg : Str → Option Value) (base : Heap) (N : List Str) (qual : Str) (scope : Scope) (f : Addr) (cd : Value) (A : Around) (outer : List Env) (s : Shared) (H : Hp) (E : XK) : Cx where
  prog := P
  w := w
  K := K
  mg := mg
  base := base
  A := A.deeper (envOfC qual scope s.heap.objs.size f cd)
  N := N
  s₀ := s
  H₀ := H
  env := envOfC qual scope s.heap.objs.size f cd
  outer := outer
  stack := envOfC qual scope s.heap.objs.size f cd :: outer
  ex := []
  calm := true
  fn := fun _ => true
  pn := []
  xe := fun e s' => wpAny (model P w) (A.deeper (envOfC qual scope s.heap.objs.size f cd)) (leaving (envOfC qual scope s.heap.objs.size f cd) e) (fun _ s'' => CX outer H s E e s'') (fun e' s'' => CX outer H s E e' s'') s'

theorem cell_has {sc : Scope} {n : Nat} {x : Str} (h : sc.names.lookup x = some .cell) : ∃ c, (cellsFrom n sc.names []).lookup x = some c := by
  have q := PySem.W.cellsFrom_some sc.names n [] (.inl h)
  exact Option.isSome_iff_exists.mp q

theorem inv_start {CX : CXT} {P : Program} {w : World} {K : PySem.W.Frag} {mg : Str → Option Value} {base : Heap} {N ps : List Str} {qual : Str} {scope : Scope} {f : Addr} {cd : Value} {A : Around} {outer : List Env} {s s1 : Shared} {H : Hp} {E : XK} {us : List Value} {vs : List V}
    (S : FnScope N ps scope) (hd : A.handled = none) (e0 : Env0 P w K mg base A outer s H) (hl : vs.length = ps.length) (r : Vals vs us)
    (x : InCallC s s.heap.objs.size (bindL (envOfC qual scope s.heap.objs.size f cd).kindOf (ps.zip us) fun _ => none) (cellsFrom (s.heap.objs.size + 1) scope.names []) (bindC (envOfC qual scope s.heap.objs.size f cd).kindOf (ps.zip us) fun _ => none) s1) :
    Inv (cxOf CX P w K mg base N qual scope f cd A outer s H E) [] (start N vs) H s1 := by
  have hpl : ps.length ≤ N.length := by have := congrArg List.length S.pre; rw [List.length_take] at this; omega
  obtain ⟨h1, tk, rfl, hk⟩ := x.done
  have noA : ∀ b : Addr, b ∉ (cxOf CX P w K mg base N qual scope f cd A outer s H E).ex := fun b z => absurd (show b ∈ ([] : List Addr) from z) (by simp)
  refine ⟨⟨e0.mod, S.kind, rfl, rfl, Nat.le_refl _, fun y z c h1 h2 => ?_, fun y hy => ?_, fun y c _ h => ?_, fun _ => hd, Around.frames_deeper e0.frames, .inr ⟨rfl, rfl⟩, fun b z => absurd z (noA b), e0.bs, e0.bsz, fun b _ _ => noA b, fun b z => absurd z (noA b), e0.funs, e0.frf⟩,
    rfl, e0.bare, Un.kept hk, ⟨_, x.toInCall.ns, fun i y v h1 h2 h3 => ?_⟩, fun y c h => ⟨_, x.cell y c h⟩, e0.hok.fresh (Nat.le_refl _), fun y c h => ?_, fun p hp => absurd (show p ∈ ([] : List (Addr × Obj)) from hp) (by simp), e0.hok.kept hk, ?_⟩
  · exact name_of_addr x.apart (PySem.mem_of_lookup h1) (PySem.mem_of_lookup h2)
  · have hy : scope.names.lookup y = some .cell ∨ scope.names.lookup y = some .free := hy
    rcases hy with hy | hy
    · exact cell_has hy
    · exact absurd rfl (S.nofree _ (PySem.mem_of_lookup hy))
  · exact Nat.le_of_lt (x.above y c (PySem.mem_of_lookup h))
  · have hi : i < vs.length := by
      unfold start at h2
      by_cases hi : i < vs.length
      · exact hi
      · rw [List.getElem?_append_right (by simpa using hi)] at h2
        rw [List.getElem?_replicate] at h2
        split at h2 <;> cases h2
    have ha : vs[i]? = some v := by
      unfold start at h2
      rw [List.getElem?_append_left (by simpa using hi), List.getElem?_map] at h2
      cases e : vs[i]? with
      | none => rw [e] at h2; cases h2
      | some a => rw [e] at h2; cases h2; rfl
    obtain ⟨u, hu, rv⟩ := r.get ha
    have hp : ps[i]? = some y := by
      rw [← S.pre, List.getElem?_take_of_lt (by omega)]; exact h1
    have ndP : ps.Nodup := by rw [← S.pre]; exact S.nd.sublist (List.take_sublist _ _)
    refine ⟨u, rv, ?_⟩
    rcases S.par y (List.mem_of_getElem? hp) with k | k
    · exact .inl ⟨k, bindL_get ndP hp hu k⟩
    · obtain ⟨c, e⟩ := cell_has (n := s.heap.objs.size + 1) k
      refine .inr ⟨.inl k, c, e, ?_⟩
      have q := x.cell y c e
      rw [bindC_get ndP hp hu (by show scope.names.lookup y ≠ _; rw [k]; decide)] at q
      exact q
  · exact e0.hok.fresh (Nat.le_of_lt (x.above y c (PySem.mem_of_lookup h)))
  · unfold start
    show _ = N.length
    rw [List.length_append, List.length_map, List.length_replicate]
    omega

/-- THE RULE: a def (or a method) of the text, by its body. The body's reading t is chosen for each entry; it is run at the parameters' values -/
theorem fn_of {CX : CXT} {P : Program} {w : World} {K : PySem.W.Frag} {mg : Str → Option Value} {base : Heap} {k : Nat} {f : Addr} {name qual : Str} {params : Arguments} {body : List Stmt} {scope : Scope} {dV kV doc pm cdv ct oc : Value} {an od : Option Addr}
    {osl : Array (Option Value)} {N ps : List Str} {sp : Sp} (lk : K.lookup f = some ⟨oc, od, .func (PySem.W.fnOf name qual params body scope dV kV doc pm an cdv ct), osl⟩) (hcd : PySem.W.codeIn K cdv qual = true) (S : FnScope N ps scope)
    (len : ∀ vs H Q E, sp vs H Q E → vs.length = ps.length)
    (hbody : ∀ (A : Around) (outer : List Env) (s : Shared) (H : Hp) (vs : List V) (Q : VK) (E : XK), Room k (A.deeper (envOfC qual scope s.heap.objs.size f cdv)) → sp vs H Q E →
      ∃ t, PSs (cxOf CX P w K mg base N qual scope f cdv A outer s H E) body t ∧ t { nx := fun _ H' => Q .non H', rt := Q } (start N vs) H) :
    FnOk P w K mg base CX (k + 1) f (PySem.W.fnOf name qual params body scope dV kV doc pm an cdv ct) ps sp := by
  refine ⟨len, fun A outer s H args us vs Q E hr e0 hb r hsp => ?_⟩
  have hl := len _ _ _ _ hsp
  have KX : K.In s.heap := e0.mod.kin.keeps fun b o e => (e0.bs b o e).1
  have lim : s.heap.NoLimit := e0.mod.nolimit.keeps fun b o e => (e0.bs b o e).1
  have hkind : ∀ y ∈ ps.zip us, scope.names.lookup y.1 = some .local ∨ (scope.names.lookup y.1 = some .cell ∧ ((cellsFrom (s.heap.objs.size + 1) scope.names []).lookup y.1).isSome = true) := fun ⟨n, v⟩ hy => by
    rcases S.par n (List.of_mem_zip hy).1 with q | q
    · exact .inl q
    · exact .inr ⟨q, PySem.W.cellsFrom_some _ _ _ (.inl q)⟩
  refine codeAny_call_function hr.depth (KX _ _ lk) rfl S.co S.gen rfl (PySem.W.codeRec_of KX hcd) (hb _ _ _ _ ?_)
  refine wpAny_newFunctionEnv_cells S.kind hkind fun env he s1 x => ?_
  subst he
  refine ⟨lim.keeps x.toInCall.keep, codeAny_func ?_⟩
  obtain ⟨t, ht, hq⟩ := hbody A outer s H vs Q E (hr.deeper _) hsp
  have I : Inv (cxOf CX P w K mg base N qual scope f cdv A outer s H E) [] (start N vs) H s1 := inv_start S hr.hd e0 hl r x
  refine wpAny_mono (ht [] s1 (start N vs) H _ I hq) (fun fl s' hs => ?_) fun e s' hs => hs
  have fin : ∀ {σ' : St} {H' : Hp} {v : V} {u : Value}, Inv (cxOf CX P w K mg base N qual scope f cdv A outer s H E) [] σ' H' s' → RelV v u → Q v H' → CE outer P w H s Q u s' :=
    fun {σ' H' v u} J rv q => ⟨v, H', J.os, J.bare, J.base, J.hok, rv, q⟩
  cases fl with
  | ret u =>
    obtain ⟨v, σ', H', J, rv, q⟩ := hs
    exact fin J rv q
  | next =>
    obtain ⟨σ', H', J, q⟩ := hs
    exact fin (v := V.non) (u := Value.none) J rfl q
  | brk =>
    obtain ⟨_, _, _, q⟩ := hs
    exact False.elim q
  | cont =>
    obtain ⟨_, _, _, q⟩ := hs
    exact False.elim q
end L2

namespace L2
open PySem PySem.Spec PyProof.Rows
section
variable {X : Cx} {x : Str} {p pos : Pos} {e : Expr} {es : List Expr} {t : TA} {id T : String} {r : List V → Hp → VK → Prop}

def tCB (r : List V → Hp → VK → Prop) (t : TA) : TE := fun σ H Q => t σ H fun vs H1 => r vs H1 Q
/-- f(e, ..), f a built-in function -/
theorem pe_callB (hc : CallR X (.builtin id) r) (hg : Gl X x) (hm : X.mg x = none) (hv : bootBuiltins x = some (.builtin id)) (ha : PA X (e :: es) t) (hn : x ≠ "__name__" := by decide) (hdb : (x == ("__debug__" : Str)) = false := by decide)
    (he : starEach (e :: es) X.env = (false, eval e X.env) :: starEach es X.env := by rfl) (hpl : (backTo pos (starEach es X.env)).any (·.1) = false := by rfl) : PE X (.Call (.Name x p) (e :: es) [] pos) (tCB r t) := by
  intro pins s σ H Q I h
  refine wpAny_Call_Name_kw (ld_blt I hg hm hv ?_ hn hdb)
  exact PyProof.Rows.callWith_builtin1 (thn (ha pos pins s σ H _ I h) fun us s1 ⟨vs, H1, I1, r1, q1⟩ => hc pins s1 σ H1 vs us Q I1 r1 q1) he hpl
/-- T(e, ..), T a built-in type -/
theorem pe_callTy (hc : CallR X (.type T) r) (hg : Gl X x) (hm : X.mg x = none) (hv : bootBuiltins x = some (.type T)) (ha : PA X (e :: es) t) (hn : x ≠ "__name__" := by decide) (hdb : (x == ("__debug__" : Str)) = false := by decide)
    (he : starEach (e :: es) X.env = (false, eval e X.env) :: starEach es X.env := by rfl) (hpl : (backTo pos (starEach es X.env)).any (·.1) = false := by rfl) : PE X (.Call (.Name x p) (e :: es) [] pos) (tCB r t) := by
  intro pins s σ H Q I h
  refine wpAny_Call_Name_kw (ld_blt I hg hm hv ?_ hn hdb)
  exact PyProof.Rows.callWith_type1 (thn (ha pos pins s σ H _ I h) fun us s1 ⟨vs, H1, I1, r1, q1⟩ => hc pins s1 σ H1 vs us Q I1 r1 q1) he hpl
end
end L2

namespace HT
open PySem PyProof.Rows

section
open PySem.SeqAt
open PySem.AutoSeq1 (wpAny_loadPart')
open PySem.MeetsSeq PySem.MeetsSeq2 PySem.MeetsSeq3

end

section
variable {prog : Program} {w : World} {A : Around} {E : Value → Shared → Prop} {s : Shared}

/-! ### t[a:b], not the whole -/
/-- a slice's bound as a place among n (d where it is left out) -/
def sIx (n d : Nat) : Option Int → Nat
  | none => d
  | some v => if v < 0 then (v + (n : Int)).toNat else min v.toNat n
theorem sIx_le (n d : Nat) (hd : d ≤ n) (o : Option Int) : sIx n d o ≤ n := by
  cases o with
  | none => exact hd
  | some v =>
    show (if v < 0 then (v + (n : Int)).toNat else min v.toNat n) ≤ n
    by_cases hv : v < 0
    · rw [if_pos hv]; omega
    · rw [if_neg hv]; exact Nat.min_le_right _ _
end
end HT

namespace L2
open PySem PySem.Spec PyProof.Rows

/-! ### the parts of a slice -/
abbrev TO := St → Hp → (Option Int → Hp → Prop) → Prop
/-- a slice's part (left out, or an int) -/
def PO (X : Cx) (e : Option Expr) (t : TO) : Prop :=
  ∀ (pins : List (Addr × Obj)) (s : Shared) (σ : St) (H : Hp) (Q : Option Int → Hp → Prop), Inv X pins σ H s → t σ H Q →
    wpAny (model X.prog X.w) X.A (evalPart e X.env) (fun u s' => ∃ o H', Inv X pins σ H' s' ∧ IsPart u o ∧ Q o H') X.xe s
def tNoPart : TO := fun _ H Q => Q none H
def tPart (t : TE) : TO := fun σ H Q => t σ H fun x H1 => ∃ i, x = .int i ∧ Q (some i) H1

section
variable {X : Cx} {e : Expr} {te : TE} {lo hi : Option Expr} {tl th : TO} {pos p2 : Pos}

theorem po_none : PO X none tNoPart := by
  intro pins s σ H Q I h
  rw [evalPart_none]
  exact wpAny_pure ⟨none, H, I, .none, h⟩
theorem po_some (h : PE X e te) : PO X (some e) (tPart te) := by
  intro pins s σ H Q I hw
  rw [evalPart_some]
  refine thn (h pins s σ H _ I hw) fun u s1 ⟨x, H1, I1, r1, q1⟩ => ?_
  obtain ⟨i, rfl, q⟩ := q1
  obtain ⟨t, rfl⟩ := r1
  exact ⟨some i, H1, I1, .int i t, q⟩

/-- what a slice of a value is, by values: the slice object stands at sl -/
def SlR (X : Cx) (r : V → Option Int → Option Int → Hp → VK → Prop) : Prop :=
  ∀ (pins : List (Addr × Obj)) (s : Shared) (σ : St) (H : Hp) (x : V) (v vl vu : Value) (lo hi : Option Int) (sl : Addr) (Q : VK), Inv X pins σ H s → RelV x v → s.heap.IsSliceOf sl vl vu .none → IsPart vl lo → IsPart vu hi → r x lo hi H Q →
    ∃ T id, typeLookup (.type T) "__getitem__" = pure (some (.builtin id)) ∧ s.TypeIs v T ∧ wpAny (model X.prog X.w) X.A (getItem v (.ref sl)) (EP X pins σ Q) X.xe s
theorem SlR.or {r r' : V → Option Int → Option Int → Hp → VK → Prop} (h : SlR X r) (h' : SlR X r') : SlR X (fun x lo hi H Q => r x lo hi H Q ∨ r' x lo hi H Q) := by
  intro pins s σ H x v vl vu lo hi sl Q I rx hs pl pu q
  rcases q with q | q
  · exact h pins s σ H x v vl vu lo hi sl Q I rx hs pl pu q
  · exact h' pins s σ H x v vl vu lo hi sl Q I rx hs pl pu q
def tSl (r : V → Option Int → Option Int → Hp → VK → Prop) (te : TE) (tl th : TO) : TE := fun σ H Q => te σ H fun x H1 => tl σ H1 fun l H2 => th σ H2 fun u H3 => r x l u H3 Q
/-- a[lo:hi], any a -/
theorem pe_slice {r : V → Option Int → Option Int → Hp → VK → Prop} (hr : SlR X r) (he : PE X e te) (hl : PO X lo tl) (hu : PO X hi th) : PE X (.Subscript e (.Slice lo hi none p2) pos) (tSl r te tl th) := by
  intro pins s σ H Q I h
  refine Subscript_ (thn (he pins s σ H _ I h) fun v s1 ⟨x, H1, I1, r1, q1⟩ => ?_)
  refine wpAny_Slice (thn (hl pins s1 σ H1 _ I1 q1) fun vl s2 ⟨l, H2, I2, pl, q2⟩ => thn (hu pins s2 σ H2 _ I2 q2) fun vu s3 ⟨u, H3, I3, pu, q3⟩ => ?_)
  rw [evalPart_none]
  refine wpAny_pure ?_
  have I4 : Inv X pins σ H3 { s3 with heap := s3.heap.push { cls := .type "slice", data := .fields #[vl, vu, .none] } } := I3.kept (t' := s3.toks) fun b ob q => Heap.get?_push_of_some _ q
  obtain ⟨T, id, hT, ht, hg⟩ := hr pins { s3 with heap := s3.heap.push { cls := .type "slice", data := .fields #[vl, vu, .none] } } σ H3 x v vl vu l u s3.heap.objs.size Q I4 r1 (Heap.IsSliceOf.new ..) pl pu q3
  show wpAny (model X.prog X.w) X.A (subscriptTail e (.Slice lo hi none p2) v (.ref s3.heap.objs.size)) (EP X pins σ Q) X.xe { s3 with heap := s3.heap.push { cls := .type "slice", data := .fields #[vl, vu, .none] } }
  exact tail_any (ops := [.ref s3.heap.objs.size, v]) ht hT hg (by with_unfolding_all rfl)

/-! ### t < u, t + u -/
end
end L2

namespace L2
open PySem PySem.Spec PyProof.Rows

/-! ### places -/
/-- the place that an index of any sign means -/
def ixN (n : Nat) (i : Int) : Option Nat := if 0 ≤ i then (if i < n then some i.toNat else none) else if -(n : Int) ≤ i then some (i + n).toNat else none
def atI {α : Type} (xs : List α) (i : Int) : Option α := (ixN xs.length i).bind fun j => xs[j]?
theorem ixN_seq {n : Nat} {i : Int} {j : Nat} (h : ixN n i = some j) : seqIndex? i n = some j ∧ j < n ∧ -(n : Int) ≤ i ∧ i < n := by
  unfold ixN at h
  by_cases h0 : 0 ≤ i
  · rw [if_pos h0] at h
    by_cases h1 : i < n
    · rw [if_pos h1] at h
      have e : i.toNat = j := Option.some.inj h
      exact ⟨by rw [seqIndex_of h0 h1, e], by omega, by omega, h1⟩
    · rw [if_neg h1] at h; cases h
  · rw [if_neg h0] at h
    by_cases h1 : -(n : Int) ≤ i
    · rw [if_pos h1] at h
      have e : (i + n).toNat = j := Option.some.inj h
      exact ⟨by rw [seqIndex_neg (by omega) h1, e], by omega, h1, by omega⟩
    · rw [if_neg h1] at h; cases h
theorem atI_get {α : Type} {xs : List α} {i : Int} {v : α} (h : atI xs i = some v) : ∃ j, seqIndex? i xs.length = some j ∧ xs[j]? = some v ∧ j < xs.length ∧ -(xs.length : Int) ≤ i ∧ i < xs.length := by
  unfold atI at h
  cases e : ixN xs.length i with
  | none => rw [e] at h; cases h
  | some j =>
    rw [e] at h
    obtain ⟨h1, h2, h3, h4⟩ := ixN_seq e
    exact ⟨j, h1, h, h2, h3, h4⟩
theorem atI_nat {α : Type} {xs : List α} {j : Nat} {v : α} (h : xs[j]? = some v) : atI xs (j : Int) = some v := by
  have hj : j < xs.length := (List.getElem?_eq_some_iff.mp h).1
  have e : ixN xs.length (j : Int) = some j := by
    unfold ixN
    rw [if_pos (by omega), if_pos (by omega)]; simp
  unfold atI; rw [e]; exact h
/-! ### what may be subscripted -/
/-- what stands as an index of a plain subscript -/
def PlainIx (b : Expr) : Prop := ∀ o i, subscripted b false o i = operate [o, i] (getItem o i)
/-- a subscript by values -/
def IxR (X : Cx) (r : R2) : Prop :=
  ∀ (value slice : Expr) (pins : List (Addr × Obj)) (s : Shared) (σ : St) (H : Hp) (x y : V) (v u : Value) (Q : VK), Inv X pins σ H s → RelV x v → RelV y u → r x y H Q →
    subscripted slice false v u = operate [v, u] (getItem v u) → wpAny (model X.prog X.w) X.A (subscriptTail value slice v u) (EP X pins σ Q) X.xe s
/-- a call of a builtin's method by values: the receiver, the arguments -/
def MtR (X : Cx) (id : String) (r : V → List V → Hp → VK → Prop) : Prop :=
  ∀ (pins : List (Addr × Obj)) (s : Shared) (σ : St) (H : Hp) (x : V) (xs : List V) (v : Value) (us : List Value) (Q : VK), Inv X pins σ H s → RelV x v → Vals xs us → r x xs H Q →
    wpAny (model X.prog X.w) X.A (call (.builtin id) (v :: us)) (EP X pins σ Q) X.xe s
section
variable {X : Cx} {a b : Expr} {ta tb : TE} {pos : Pos}
theorem IxR.or {r r' : R2} (h : IxR X r) (h' : IxR X r') : IxR X (fun x y H Q => r x y H Q ∨ r' x y H Q) := by
  intro value slice pins s σ H x y v u Q I rx ry q hs
  rcases q with q | q
  · exact h value slice pins s σ H x y v u Q I rx ry q hs
  · exact h' value slice pins s σ H x y v u Q I rx ry q hs
theorem MtR.or {id : String} {r r' : V → List V → Hp → VK → Prop} (h : MtR X id r) (h' : MtR X id r') : MtR X id (fun x xs H Q => r x xs H Q ∨ r' x xs H Q) := by
  intro pins s σ H x xs v us Q I rx rs q
  rcases q with q | q
  · exact h pins s σ H x xs v us Q I rx rs q
  · exact h' pins s σ H x xs v us Q I rx rs q
/-- a[b] -/
theorem pe_ix {r : R2} (hr : IxR X r) (ha : PE X a ta) (hb : PE X b tb) (hs : PlainIx b) : PE X (.Subscript a b pos) (tOp r ta tb) := by
  intro pins s σ H Q I h
  exact Subscript_ (binT ha hb I h fun v u s2 x y H2 I2 rx ry q => hr a b pins s2 σ H2 x y v u Q I2 rx ry q (hs _ _))

def rIxL (K : PySem.W.Frag) : R2 := fun x y H Q => ∃ p xs i v, x = .ref p ∧ y = .int i ∧ SqL K H p xs ∧ atI xs i = some v ∧ Q v H
def rIxT (K : PySem.W.Frag) : R2 := fun x y H Q => ∃ p xs i v, x = .ref p ∧ y = .int i ∧ SqT K H p xs ∧ atI xs i = some v ∧ Q v H
def rIxS : R2 := fun x y H Q => ∃ z i c, x = .str z ∧ y = .int i ∧ z.length ≤ sizeLine ∧ atI z.cps.toList i = some c ∧ Q (.str ⟨#[c]⟩) H
theorem ix_list : IxR X (rIxL X.K) := by
  intro value slice pins s σ H x y v u Q I rx ry h hs
  obtain ⟨p, xs, i, z, rfl, rfl, hq, he, q⟩ := h
  cases rx
  obtain ⟨t, rfl⟩ := ry
  obtain ⟨its, r, pl, hz⟩ := I.list hq
  obtain ⟨j, h1, h2, h3, h4, h5⟩ := atI_get he
  obtain ⟨w, ew, rw'⟩ := r.get h2
  have hl := r.length
  have hn := line63
  have fin : EP X pins σ Q w s := ⟨z, H, I, rw', q⟩
  by_cases h0 : 0 ≤ i
  · have hj : i.toNat = j := by
      rw [seqIndex_of h0 h5] at h1
      exact Option.some.inj h1
    exact item_listR pl.isList h0 (by omega) (by rw [hj]; simpa using ew) fin hs
  · have hj : (i + (its.toArray.size : Int)).toNat = j := by
      rw [seqIndex_neg (by omega) h4] at h1
      rw [List.size_toArray, ← hl]
      exact Option.some.inj h1
    exact subscriptTail_builtinR (x := w) pl.isList.typeIs slot_list_getitem.lookup
      (wpAny_getItem_list_neg (Q := fun r s' => r = w ∧ EP X pins σ Q r s') pl.isList (by omega) (by rw [List.size_toArray] <;> omega) (by omega) (by rw [hj]; simpa using ew) ⟨rfl, fin⟩) hs
theorem ix_tup : IxR X (rIxT X.K) := by
  intro value slice pins s σ H x y v u Q I rx ry h hs
  obtain ⟨p, xs, i, z, rfl, rfl, hq, he, q⟩ := h
  cases rx
  obtain ⟨t, rfl⟩ := ry
  obtain ⟨its, r, pl, hz⟩ := I.tuple hq
  obtain ⟨j, h1, h2, h3, h4, h5⟩ := atI_get he
  obtain ⟨w, ew, rw'⟩ := r.get h2
  have hl := r.length
  have hn := line63
  have fin : EP X pins σ Q w s := ⟨z, H, I, rw', q⟩
  exact subscriptTail_builtinR (x := w) pl.typeIs slot_tuple_getitem.lookup
    (getItem_tuple (j := j) (Q := fun r s' => r = w ∧ EP X pins σ Q r s') pl (by omega) (by omega) (by rw [List.size_toArray, ← hl]; exact h1) (by simpa using ew) ⟨rfl, fin⟩) hs
theorem ix_str : IxR X rIxS := by
  intro value slice pins s σ H x y v u Q I rx ry h hs
  obtain ⟨z, i, c, rfl, rfl, hz, he, q⟩ := h
  obtain ⟨t, rfl⟩ := rx
  obtain ⟨t', rfl⟩ := ry
  obtain ⟨j, h1, h2, h3, h4, h5⟩ := atI_get he
  have hl : z.cps.toList.length = z.length := by simp [Str.length]
  rw [hl] at h1 h4 h5
  have hn := line63
  exact tail_any (typeIs_str s z t) slot_str_getitem.lookup (getItem_str (c := c) (by
    have e1 : decide (i < -(2 ^ 63 : Int)) = false := decide_eq_false (by omega)
    have e2 : decide (i ≥ 2 ^ 63) = false := decide_eq_false (by omega)
    rw [e1, e2, Bool.or_false]) (by rw [h1]; simpa using h2) ⟨.str ⟨#[c]⟩, H, I.tok _, ⟨_, rfl⟩, q⟩) hs
/-! ### xs[i] = v, any sign -/
/-- the list's object behind a store -/
theorem mapSeq_set (its : List Value) (n j : Nat) (u : Value) : Obj.mapSeq (·.setIfInBounds j u) { cls := .type "list", data := .seq its.toArray n } = { cls := .type "list", data := .seq (its.set j u).toArray n } := by
  simp [Obj.mapSeq]
theorem Inv.lst {pins : List (Addr × Obj)} {σ : St} {H : Hp} {s : Shared} {p : Addr} {xs : List V} (I : Inv X pins σ H s) (h : H p = some (.lst xs)) :
    ∃ (its : List Value) (n : Nat), Vals xs its ∧ s.heap.get? p = some { cls := .type "list", data := .seq its.toArray n } ∧ xs.length ≤ sizeLine := by
  obtain ⟨z, its, n, r, e⟩ := I.hok p _ h
  exact ⟨its, n, r, e, z⟩
/-- the list at p is written by an update of its object -/
theorem Inv.lstUpd {pins : List (Addr × Obj)} {σ : St} {H : Hp} {s : Shared} {p : Addr} {xs ys : List V} {its its' : List Value} {n n' : Nat} {f : Obj → Obj} (I : Inv X pins σ H s) (h : H p = some (.lst xs))
    (ho : s.heap.get? p = some { cls := .type "list", data := .seq its.toArray n }) (hf : f { cls := .type "list", data := .seq its.toArray n } = { cls := .type "list", data := .seq its'.toArray n' }) (r : Vals ys its') (hz : ys.length ≤ sizeLine) (t : Nat) :
    Inv X pins σ (upd H p (.lst ys)) { s with heap := s.heap.update p f, toks := t } := by
  have e : (s.heap.update p f).get? p = some { cls := .type "list", data := .seq its'.toArray n' } := by
    rw [Heap.get?_update_self f ho (by rw [hf] <;> rfl), hf]
  refine I.write (x := p) (e := p) (by rw [h]; trivial) (.inl rfl) (fun b u hb q => (Heap.get?_update_other _ _ (Ne.symm hb)).trans q) ⟨_, e⟩ ?_
  exact ⟨hz, its', n', r, e⟩
def rSetL : V → V → V → Hp → (Hp → Prop) → Prop := fun o i v H Q => ∃ p xs k j, o = .ref p ∧ i = .int k ∧ H p = some (.lst xs) ∧ ixN xs.length k = some j ∧ Q (upd H p (.lst (xs.set j v)))
theorem set_list : PSet X rSetL := by
  intro pins s σ H o i v ov iv u Q I ro ri rv h
  obtain ⟨p, xs, k, j, rfl, rfl, hp, hj, q⟩ := h
  cases ro
  obtain ⟨t, rfl⟩ := ri
  obtain ⟨its, n, r, ho, hz⟩ := I.lst hp
  obtain ⟨h1, h2, h3, h4⟩ := ixN_seq hj
  have hl := r.length
  have hn := line63
  have I' : Inv X pins σ (upd H p (.lst (xs.set j v))) { s with heap := s.heap.update p (Obj.mapSeq (·.setIfInBounds j u)) } :=
    I.lstUpd hp ho (mapSeq_set its n j u) (r.set rv j) (by rw [List.length_set]; exact hz) s.toks
  by_cases h0 : 0 ≤ k
  · have hk : k.toNat = j := by
      rw [seqIndex_of h0 h4] at h1
      exact Option.some.inj h1
    exact PySem.W.ki_setAt ho h0 (by omega) (by rw [List.size_toArray, ← hl]; exact h4) (by rw [hk]; exact ⟨_, I', q⟩)
  · have hk : (k + (its.toArray.size : Int)).toNat = j := by
      rw [seqIndex_neg (by omega) h3] at h1
      rw [List.size_toArray, ← hl]
      exact Option.some.inj h1
    exact PySem.W.ki_setBack ho (by omega) (by rw [List.size_toArray, ← hl]; exact h3) (by omega) (by rw [hk]; exact ⟨_, I', q⟩)

/-! ### slices -/
/-! ### in, not in: flat items -/
/-! ### len, list(x), tuple(x) of any list or tuple that is read -/
theorem call_len_seq : CallR X (.builtin "len") (fun xs H Q => ∃ p ys, xs = [.ref p] ∧ (SqL X.K H p ys ∨ SqT X.K H p ys) ∧ Q (.int ys.length) H) := by
  intro pins s σ H xs us Q I r h
  obtain ⟨p, ys, rfl, hq, q⟩ := h
  obtain ⟨u, rfl, rx⟩ := vals1 r
  cases rx
  have hn := line63
  rcases hq with hq | hq
  · obtain ⟨its, r', pl, hz⟩ := I.list hq
    have hlen := r'.length
    exact Calls.call_len_list pl.isList (by simp only [List.size_toArray] <;> omega) ⟨.int ys.length, H, I.tok _, ⟨s.toks + 1, by rw [List.size_toArray, hlen]⟩, q⟩
  · obtain ⟨its, r', pl, hz⟩ := I.tuple hq
    have hlen := r'.length
    exact len_tuple pl (by simp only [List.size_toArray] <;> omega) ⟨.int ys.length, H, I.tok _, ⟨s.toks + 1, by rw [List.size_toArray, hlen]⟩, q⟩
theorem call_len_str : CallR X (.builtin "len") (fun xs H Q => ∃ z, xs = [.str z] ∧ z.length ≤ sizeLine ∧ Q (.int z.length) H) := by
  intro pins s σ H xs us Q I r h
  obtain ⟨z, rfl, hz, q⟩ := h
  obtain ⟨u, rfl, t, rfl⟩ := vals1 r
  have hn := line63
  exact len_str (by omega) ⟨.int z.length, H, I.tok _, ⟨_, rfl⟩, q⟩
theorem CallR.or {f : Value} {r r' : List V → Hp → VK → Prop} (h : CallR X f r) (h' : CallR X f r') : CallR X f (fun xs H Q => r xs H Q ∨ r' xs H Q) := by
  intro pins s σ H xs us Q I rs q
  rcases q with q | q
  · exact h pins s σ H xs us Q I rs q
  · exact h' pins s σ H xs us Q I rs q
theorem call_list_of : CallR X (.type "list") (fun xs H Q => ∃ p ys, xs = [.ref p] ∧ (SqL X.K H p ys ∨ SqT X.K H p ys) ∧ ∀ l, H l = none → Q (.ref l) (upd H l (.lst ys))) := by
  intro pins s σ H xs us Q I r h
  obtain ⟨p, ys, rfl, hq, q⟩ := h
  obtain ⟨u, rfl, rx⟩ := vals1 r
  cases rx
  have fin : ∀ (its : List Value), Vals ys its → ys.length ≤ sizeLine → ∀ (h' : Heap) (c' : Nat), (∀ b o', s.heap.get? b = some o' → h'.get? b = some o') →
      h'.get? s.heap.objs.size = some { cls := .type "list", dict := none, data := .seq its.toArray c', slots := #[] } → EP X pins σ Q (.ref s.heap.objs.size) { s with heap := h' } := fun its r' hz h' c' kp e =>
    ⟨.ref s.heap.objs.size, _, I.laid (t' := s.toks) kp (Nat.le_refl _) (show ObjOk X.prog X.w _ h' _ (.lst ys) from ⟨hz, its, c', r', e⟩), rfl, q _ (I.hok.fresh (Nat.le_refl _))⟩
  rcases hq with hq | hq
  · obtain ⟨its, r', pl, hz⟩ := I.list hq
    have hlen := r'.length
    obtain ⟨o, ho, hc, n, hd⟩ := pl.isList
    exact call_list_seq p (.inl rfl) ho hc hd (fun h' c' kp e => fin its r' hz h' c' kp e) (by simp only [List.size_toArray] <;> omega)
  · obtain ⟨its, r', pl, hz⟩ := I.tuple hq
    have hlen := r'.length
    obtain ⟨o, ho, hc, n, hd⟩ := pl
    exact call_list_seq p (.inr rfl) ho hc hd (fun h' c' kp e => fin its r' hz h' c' kp e) (by simp only [List.size_toArray] <;> omega)
/-! ### the call of a builtin's method: o.m(..) -/
/-- the value is of that builtin type -/
def tyV (K : PySem.W.Frag) (T : String) (x : V) (H : Hp) : Prop := match x with
  | .str _ => T = "str"
  | .int _ => T = "int"
  | .ref p => (T = "list" ∧ ∃ xs, SqL K H p xs) ∨ (T = "tuple" ∧ ∃ o, K.lookup p = some o ∧ o.cls = .type "tuple" ∧ o.dict = none) ∨
      (T = "dict" ∧ ((∃ kvs, H p = some (.dK kvs)) ∨ ∃ kvs, H p = some (.dT kvs))) ∨ (T = "set" ∧ ∃ S n, H p = some (.set S n))
  | _ => False
theorem tyV_is {pins : List (Addr × Obj)} {σ : St} {H : Hp} {s : Shared} {T : String} {x : V} {v : Value} (I : Inv X pins σ H s) (r : RelV x v) (ty : tyV X.K T x H) :
    s.TypeIs v T ∧ ∀ a, v = .ref a → ∃ ob, s.heap.get? a = some ob ∧ ob.dict = none := by
  cases x with
  | str z =>
    obtain ⟨t, rfl⟩ := r
    cases (show T = "str" from ty)
    exact ⟨typeIs_str s z t, fun _ e => nomatch e⟩
  | int i =>
    obtain ⟨t, rfl⟩ := r
    cases (show T = "int" from ty)
    exact ⟨typeIs_int s i t, fun _ e => nomatch e⟩
  | ref p =>
    cases r
    rcases ty with ⟨rfl, xs, hq⟩ | ⟨rfl, o, hk, hc, hd⟩ | ⟨rfl, hk⟩ | ⟨rfl, S, n, hk⟩
    · obtain ⟨its, _, pl, _⟩ := I.list hq
      refine ⟨pl.isList.typeIs, fun a e => ?_⟩
      cases e
      obtain ⟨o, n, e, c, hd, _⟩ := pl
      exact ⟨o, e, hd⟩
    · refine ⟨⟨o, I.kIn p o hk, hc⟩, fun a e => ?_⟩
      cases e
      exact ⟨o, I.kIn _ o hk, hd⟩
    · have z : ∃ o, s.heap.get? p = some o ∧ o.ExactDict := by
        rcases hk with ⟨kvs, hk⟩ | ⟨kvs, hk⟩
        · obtain ⟨_, _, _, _, o, _, _, e, ex, _⟩ := I.hok p _ hk
          exact ⟨o, e, ex⟩
        · obtain ⟨_, _, _, _, o, _, _, e, ex, _⟩ := I.hok p _ hk
          exact ⟨o, e, ex⟩
      obtain ⟨o, e, ex⟩ := z
      refine ⟨⟨o, e, ex.1⟩, fun a e2 => ?_⟩
      cases e2
      exact ⟨o, e, ex.2.1⟩
    · obtain ⟨o, _, _, _, e, ex, _⟩ := I.hok p _ hk
      refine ⟨⟨o, e, ex.1⟩, fun a e2 => ?_⟩
      cases e2
      exact ⟨o, e, ex.2.1⟩
  | _ => exact False.elim ty
def tBM (K : PySem.W.Frag) (T : String) (r : V → List V → Hp → VK → Prop) (to : TE) (t : TA) : TE := fun σ H Q => to σ H fun x H1 => tyV K T x H1 ∧ t σ H1 fun xs H2 => r x xs H2 Q
variable {o e : Expr} {es : List Expr} {to : TE} {t : TA} {name : Str} {apos cpos : Pos} {T id : String} {r : V → List V → Hp → VK → Prop}
theorem pe_bm (pa : PlainAttrs T) (slot : Slot T name id) (hty : typeOf (.builtin id) = pure (.type "method_descriptor")) (hm : MtR X id r) (ho : PE X o to) (ha : PA X (e :: es) t)
    (hbase : attributeBase o name X.env (eval o X.env) = eval o X.env := by rfl)
    (hfew : ((backTo cpos (starEach (e :: es) X.env)).all (fun x => !x.1) && (backToKw cpos (keywordEach [] X.env)).all (fun x => x.1.isSome)
      && decide ((e :: es).length + ([] : List Keyword).length + (if ([] : List Keyword).isEmpty then 0 else 1) < 30)) = true := by rfl)
    (hline : (apos.endLine == cpos.line) = true := by rfl) (hs : starEach (e :: es) X.env = (false, eval e X.env) :: starEach es X.env := by rfl) (hplain : (backTo cpos (starEach es X.env)).any (·.1) = false := by rfl) :
    PE X (.Call (.Attribute o name apos) (e :: es) [] cpos) (tBM X.K T r to t) := by
  intro pins s σ H Q I h
  refine wpAny_Call_method_late hbase hfew hline rfl (thn (ho pins s σ H _ I h) fun v s1 ⟨x, H1, I1, r1, ty, q1⟩ => ?_)
  obtain ⟨h1, h2⟩ := tyV_is I1 r1 ty
  refine ⟨T, id, pa, slot, hty, h1, h2, ?_⟩
  have hA := ha cpos pins s1 σ H1 _ I1 q1
  rw [hs] at hA ⊢
  refine Calls.callWith_builtin (by show (false || (backTo cpos (starEach es X.env)).any (·.1)) = false; rw [hplain] <;> rfl) (Calls.evalArgs_plain ?_)
  exact thn hA fun us s2 ⟨vs, H2, I2, r2, q2⟩ => hm pins s2 σ H2 x vs v us Q I2 r1 r2 q2
/- xs.append(e), list.index on a module's tuple .. are MtR facts of 06m -/
end
end L2

namespace L2
open PySem PySem.Spec PyProof.Rows

def MtM (X : Cx) (id : String) (r : V → List V → Hp → VK → Prop) : Prop :=
  ∀ (pins : List (Addr × Obj)) (s : Shared) (σ : St) (H : Hp) (x : V) (xs : List V) (v : Value) (us : List Value) (Q : VK), Inv X pins σ H s → RelV x v → Vals xs us → r x xs H Q →
    wpAny (model X.prog X.w) X.A (call (.builtin id) (v :: us)) (EP X pins σ Q) X.xe s

/-! ### lists of values -/
theorem Vals.one : ∀ {x : V} {us : List Value}, Vals [x] us → ∃ u, us = [u] ∧ RelV x u
  | _, _, .cons r .nil => ⟨_, rfl, r⟩
theorem Vals.two : ∀ {x y : V} {us : List Value}, Vals [x, y] us → ∃ u v, us = [u, v] ∧ RelV x u ∧ RelV y v
  | _, _, _, .cons r (.cons q .nil) => ⟨_, _, rfl, r, q⟩
theorem Vals.zero : ∀ {us : List Value}, Vals [] us → us = []
  | _, .nil => rfl
theorem Vals.dropLast {xs : List V} {us : List Value} (h : Vals xs us) : Vals xs.dropLast us.dropLast := by
  induction h with
  | nil => exact .nil
  | cons r t ih =>
    cases t with
    | nil => exact .nil
    | cons q t' => exact .cons r ih
theorem Vals.reverse {xs : List V} {us : List Value} (h : Vals xs us) : Vals xs.reverse us.reverse := by
  induction h with
  | nil => exact .nil
  | cons r t ih => rw [List.reverse_cons, List.reverse_cons]; exact Vals.append ih (.cons r .nil)
section
variable {X : Cx} {pins : List (Addr × Obj)} {σ : St} {H : Hp} {s : Shared} {l b : Addr} {xs ys zs : List V}

/-! ### the two steps: a tracked list is rewritten, a new list is laid -/
theorem Inv.lset {its its' : List Value} {n : Nat} {f : Array Value → Array Value} {t' : Nat} (I : Inv X pins σ H s) (hH : H l = some (.lst xs))
    (e : s.heap.get? l = some { cls := .type "list", data := .seq its.toArray n }) (hf : f its.toArray = its'.toArray) (hv : Vals ys its') (hz : ys.length ≤ sizeLine) :
    Inv X pins σ (upd H l (.lst ys)) { s with heap := s.heap.update l (Obj.mapSeq f), toks := t' } := by
  have q := PySem.IsL.update e f
  rw [hf] at q
  refine I.write (x := l) (e := l) (by rw [hH]; exact trivial) (.inl rfl) (fun b' u hb hu => (Heap.get?_update_other s.heap (Obj.mapSeq f) (Ne.symm hb)).trans hu) ⟨_, q⟩ ?_
  exact ⟨hz, its', _, hv, q⟩
theorem Inv.lnew {its : List Value} {t' : Nat} (I : Inv X pins σ H s) (hv : Vals ys its) (hz : ys.length ≤ sizeLine) :
    Inv X pins σ (upd H s.heap.objs.size (.lst ys)) { s with heap := s.heap.push { cls := .type "list", data := .seq its.toArray }, toks := t' } :=
  I.laid (fun _ _ q => Heap.get?_push_of_some _ q) (Nat.le_refl _) ⟨hz, its, 0, hv, Heap.get?_push_size _ rfl⟩
theorem Inv.fresh (I : Inv X pins σ H s) : H s.heap.objs.size = none := I.hok.fresh (Nat.le_refl _)
theorem Inv.lstM (I : Inv X pins σ H s) (hH : H l = some (.lst xs)) : xs.length ≤ sizeLine ∧ ∃ (its : List Value) (n : Nat), Vals xs its ∧ xs.length = its.length ∧ s.heap.get? l = some { cls := .type "list", data := .seq its.toArray n } := by
  obtain ⟨z, its, n, r, e⟩ := I.hok l _ hH
  exact ⟨z, its, n, r, r.length, e⟩

end

section
variable {X : Cx}

/-! ### methods -/
def rAppend : V → List V → Hp → VK → Prop := fun x vs H Q => ∃ l xs y, x = .ref l ∧ vs = [y] ∧ H l = some (.lst xs) ∧ xs.length < sizeLine ∧ Q .non (upd H l (.lst (xs ++ [y])))
theorem mt_append : MtM X "list.append" rAppend := by
  intro pins s σ H x vs v us Q I rx rv h
  obtain ⟨l, xs, y, rfl, rfl, hH, hz, q⟩ := h
  cases rx
  obtain ⟨u, rfl, ru⟩ := rv.one
  obtain ⟨z, its, n, r, hl, e⟩ := I.lstM hH
  refine call_meets F.slot_list_append ⟨_, e, rfl⟩ F.entry_list_append (F.args_list_append_2 _ _) (PySem.list_append l its.toArray n u (by rw [List.size_toArray]; omega)) ⟨e, ?_⟩
  refine ⟨.non, _, I.lset (its' := its ++ [u]) hH e (by simp) (r.append (.cons ru .nil)) ?_, rfl, q⟩
  rw [List.length_append, List.length_singleton]
  omega

/-! ### list + list, list += list, list * int -/
/-! ### del xs[i] -/
end

/-! ### xs[a:b] = ys -/
section
variable {prog : Program} {w : World} {A : Around} {E : Value → Shared → Prop} {s : Shared}
end

section
variable {X : Cx}
end
end L2

namespace Att
open PySem PySem.W PySem.Calls PyProof.Rows

/-! ### the script -/
theorem ints_of_wellAll {P : Params} {h : Heap} : ∀ (ns : List Int) (vs : List Value), WellAll P h vs (ns.map WData.int) → IntsAre vs ns := by
  intro ns
  induction ns with
  | nil =>
    intro vs w
    rw [List.map_nil] at w
    cases w
    exact .nil
  | cons n ns ih =>
    intro vs w
    rw [List.map_cons] at w
    cases w with
    | cons a b =>
      cases a
      exact .cons _ _ (ih _ b)

theorem script_of {l : OpenLaw} {n : Nat} (hn : l.most = some n) {P : Params} {h : Heap} {args : List WData} {vals : List Value}
    (hpre : l.row.toRowW.claim.pre args = true) (hwl : WellAll P h vals args) :
    ∃ a vs ns, vals = [Value.ref a] ∧ args = [WData.list (ns.map WData.int)] ∧ h.get? a = some { cls := .type "list", data := .seq vs.toArray } ∧ IntsAre vs ns ∧ ns.length ≤ n := by
  have hsh : WShape.hasAll [] args [.list .int] = true := (pre_splitW hpre).1
  have hc : l.pre.holds [] { args := args } = true := (pre_splitW hpre).2
  obtain ⟨d, r, rfl, h1, h2⟩ := hasAllW_cons hsh
  obtain rfl := hasAllW_nil h2
  obtain ⟨xs, rfl, h3⟩ := hasW_list h1
  obtain ⟨ns, rfl⟩ := items_int h3
  have hlen : ns.length ≤ n := by
    unfold OpenLaw.pre at hc
    have h4 : (WTm.not (.lt (.lit (.int (n : Int))) (.len (.arg 0)))).holds [] { args := [.list (ns.map .int)] } = true := by
      have h4 := (holds_andW hc).1
      rw [hn] at h4
      exact h4
    have h5 := condW_of h4 (w_not (w_lt w_lit (w_len_list (w_arg rfl))))
    rw [List.length_map] at h5
    refine Nat.le_of_not_lt fun q => ?_
    have q' : (n : Int) < ((ns.length : Nat) : Int) := by omega
    first
      | (rw [decide_eq_true q'] at h5; exact absurd h5 (by decide))
      | (simp at h5; omega)
  cases hwl with
  | cons w1 w2 =>
    cases w2
    cases w1 with
    | list ho hall => exact ⟨_, _, ns, rfl, rfl, ho, ints_of_wellAll ns _ hall, hlen⟩

theorem post_true (l : OpenLaw) (args : List WData) : l.row.toRowW.claim.post args (.bool true) args = true :=
  postW_of (r := l.row.toRowW) (X := (true == true))
    (show WShape.has [] (.bool true) .bool = true by first | rfl | decide | simp [WShape.has, WShape.arms, WShape.armsAll])
    (show (WTm.eq .res (.lit (.bool true))).value [] { args := args, res := some (.bool true), after := args } = some (.bool (true == true)) from w_eq_bool (w_res rfl) w_lit) rfl

/-! ### the attachment: holds_open's last premise (the goal 'hc' behind k_head) from a wpAny of the law's body -/
/-- the same from a codeAny of the CALL (for a layer whose function contracts speak of calls) -/
theorem attach_call {l : OpenLaw} {n : Nat} {q : Program} {loose : List Str} {XP : (Str → Option Value) → Heap → Prop} {YP : World → Heap → Prop} {d : DefRec}
    (hn : l.most = some n) (hdf : d.params.defaults = [])
    (call : ∀ (w : World) (s₀ s₁ : Shared) (mg mb : Str → Option Value) (fa : Addr) (o : Obj) (pm cd doc : Value) (a : Addr) (vs : List Value) (ns : List Int),
      Ground q loose [] XP w s₀ mg mb s₁.heap → YP w s₁.heap →
      s₁.heap.get? fa = some o → o.data = .func (docDef d.name d.params d.body d.scope pm cd doc) → s₁.heap.CodeRec cd d.name → mg d.name = some (.ref fa) →
      s₁.heap.get? a = some { cls := .type "list", data := .seq vs.toArray } → IntsAre vs ns → ns.length ≤ n → s₁.gens = #[] →
      codeAny (model l.prog w) callerA (.call (.ref fa) ⟨[.ref a], []⟩) (fun r s' => r = .ok (.ret (.bool true)) ∧ OldK s₁.heap s'.heap ∧ s'.os = s₁.os ∧ AllBare s'.gens) s₁) :
    WalkO q loose XP YP l.row.toRowW d [] (fun f vs => PySem.call f vs) := by
  intro w s₀ s₁ mg mb G Y fa o pm cd doc dV kV ho hd hcd hD hmg hg args vals as hpre hlay hrd hwl hlo
  obtain rfl : dV = .none := Dflts.none hD hdf
  obtain rfl : kV = .none := Dflts.noKw hD
  obtain ⟨a, vs, ns, rfl, rfl, hobj, hints, hlen⟩ := script_of hn hpre hwl
  refine enter_call (codeAny_mono (call w s₀ s₁ mg mb fa o pm cd doc a vs ns G Y ho (fd_plain hd) hcd hmg hobj hints hlen hg) fun r s' hq => ?_)
  obtain ⟨rfl, h2, h3, h4⟩ := hq
  exact ⟨.inl ⟨.bool true, .bool true, [], rfl, fun _ => rfl, .bool true, post_true l _, fun _ => ⟨List.Pairwise.nil, fun _ hm => (nomatch hm)⟩⟩, h2, h3, h4⟩

/-! ### rules over ANY heap (no ledger) from facts about the written part K: the library's own take a ledger (News) for what they write -/
section
variable {prog : Program} {w : World} {A : Around} {E : Value → Shared → Prop} {s : Shared} {K : Frag}

/-! the whole heap as the ledger: makes every rule that writes through a ledger a rule over any heap -/
end
end Att

namespace L2
open PySem PySem.Spec PyProof.Rows

theorem vals_ints : ∀ {vs : List Value} {ns : List Int}, IntsAre vs ns → Vals (ns.map V.int) vs
  | _, _, .nil => .nil
  | _, _, .cons n t h => .cons ⟨t, rfl⟩ (vals_ints h)

/-- nothing is tracked but the script, known to the object (or it is an object of the module) -/
def Only (H : Hp) : Prop := ∀ b, H b = none ∨ ∃ o xs, H b = some (.frz o (.lst xs))

/-- THE HEAD: the law's promise, at the heap behind the top. F, the promise of the law's def, may use that base is part of the heap (so K.In base, base.Ns mainGlobals mg stand in Mod) -/
theorem law_call {P : Program} {w : World} {K : PySem.W.Frag} {mg mb : Str → Option Value} {CX : CXT} {k : Nat} {fa a : Addr} {fd : FuncData} {x : Str} {sp : Sp} {s₁ : Shared} {vs : List Value} {ns : List Int}
    (KX : K.In s₁.heap) (hns : s₁.heap.Ns mainGlobals mg) (hb : s₁.heap.Ns builtinsNs mb) (hbb : ∀ x : Str, x ≠ "__name__" → mb x = bootBuiltins x) (hlim : s₁.heap.NoLimit) (hg : s₁.gens = #[])
    (ha : s₁.heap.get? a = some { cls := .type "list", data := .seq vs.toArray }) (hi : IntsAre vs ns) (hl : ns.length ≤ sizeLine) (hr : Room k callerA)
    (F : ∀ base : Heap, K.In base → base.Ns mainGlobals mg → FnOk P w K mg base CX k fa fd [x] sp) (hbind : ∀ (s : Shared) (u : Value), BindsTo s fd ⟨[u], []⟩ [(x, u)])
    (hsp : ∀ H : Hp, Only H → SqL K H a (ns.map V.int) → sp [.ref a] H (fun v _ => v = .bl true) fun _ _ _ => False)
    (hCX : ∀ H e s', CX [] H s₁ (fun _ _ _ => False) e s' → False) :
    codeAny (model P w) callerA (.call (.ref fa) ⟨[.ref a], []⟩) (fun r s' => r = .ok (.ret (.bool true)) ∧ OldK s₁.heap s'.heap ∧ s'.os = s₁.os ∧ AllBare s'.gens) s₁ := by
  have rv := vals_ints hi
  have lenV := hi.length
  -- from an abstract heap in which nothing but the script may be tracked
  have core : ∀ H : Hp, Only H → SqL K H a (ns.map V.int) → HOk P w H s₁.heap → (∀ b, H b ≠ none → b = a) → (H a ≠ none → K.lookup a = none) →
      codeAny (model P w) callerA (.call (.ref fa) ⟨[.ref a], []⟩) (fun r s' => r = .ok (.ret (.bool true)) ∧ OldK s₁.heap s'.heap ∧ s'.os = s₁.os ∧ AllBare s'.gens) s₁ := by
    intro H hO hS hok hA hK
    have base_of : ∀ {b : Addr} {o : Obj}, s₁.heap.get? b = some o → H b = none → (hidT s₁.heap H).get? b = some o := fun e n => hidT_get e n
    have noA : ∀ {b : Addr} {o : Obj} {es : Array DictEntry} {ep : Nat}, s₁.heap.get? b = some o → o.data = .dict es ep → H b = none := fun {b o es ep} e d => by
      cases q : H b with
      | none => rfl
      | some u =>
        have e' : b = a := hA b (by rw [q]; simp)
        subst e'
        rw [ha] at e; cases e
        have d' : Data.seq vs.toArray _ = Data.dict es ep := d
        cases d'
    have nsK : ∀ {b : Addr} {m : Str → Option Value}, s₁.heap.Ns b m → (hidT s₁.heap H).Ns b m := fun {b m} ⟨o, es, ep, e, d, r⟩ => ⟨o, es, ep, base_of e (noA e d), d, r⟩
    have hKb : K.In (hidT s₁.heap H) := fun b o e => base_of (KX b o e) (by
      cases q : H b with
      | none => rfl
      | some u =>
        have e' : b = a := hA b (by rw [q]; simp)
        subst e'
        rw [hK (by rw [q]; simp)] at e; cases e)
    have hM : Mod K mg (hidT s₁.heap H) := ⟨hKb, nsK hns, ⟨mb, nsK hb, hbb⟩, let ⟨mc, h1, h2⟩ := hlim; ⟨mc, nsK h1, h2⟩⟩
    have e0 : Env0 P w K mg (hidT s₁.heap H) callerA [] s₁ H := ⟨rfl, hM, fun b o e => of_hidT e, Nat.le_of_eq (hidT_size _ _), trivial, fun b hb => absurd (show b ∈ ([] : List Addr) from hb) (by simp), hok, .of_eq hg⟩
    refine codeAny_mono ((F _ hKb (nsK hns)).run callerA [] s₁ H ⟨[.ref a], []⟩ [.ref a] [.ref a] _ _ hr e0 (hbind s₁ (.ref a)) (.cons rfl .nil) (hsp H hO hS)) fun r s' h => ?_
    cases r with
    | error e => exact (hCX H e s' h).elim
    | ok fl =>
      cases fl with
      | next => exact False.elim h
      | brk => exact False.elim h
      | cont => exact False.elim h
      | ret u =>
        obtain ⟨v, H', os, bare, un, hok', r', q⟩ := h
        have q' : v = .bl true := q
        subst q'
        obtain rfl : u = Value.bool true := r'
        refine ⟨rfl, OldK.of_keep fun b o e => ?_, os, bare⟩
        cases q : H b with
        | none => exact un.keep b o e q (by intro z; exact absurd (show b ∈ ([] : List Addr) from z) (by simp)) (by simp)
        | some u =>
          rcases hO b with z | ⟨ob, xs, z⟩
          · rw [q] at z; cases z
          · have z2 := un.frzs b ob _ z
            obtain ⟨e1, _⟩ := hok b _ z
            obtain ⟨e2, _⟩ := hok' b _ z2
            rw [e] at e1; cases e1
            exact e2
  cases hk : K.lookup a with
  | some o =>
    -- the script is one of the module's own objects
    have e := KX a o hk
    rw [ha] at e
    cases e
    refine core (fun _ => none) (fun _ => .inl rfl) (.inr ⟨_, vs.toArray, _, hk, rfl, rfl, rfl, by rw [List.size_toArray, lenV]; exact hl, by simpa using rv⟩) (fun b u z => by have z' : (none : Option HO) = some u := z; cases z') (fun b z => absurd rfl z) fun z => absurd rfl z
  | none =>
    refine core (fun b => if b = a then some (.frz { cls := .type "list", data := .seq vs.toArray } (.lst (ns.map V.int))) else none) (fun b => ?_) (.inl (.inr ⟨{ cls := .type "list", data := .seq vs.toArray }, if_pos rfl⟩)) (fun b u z => ?_) (fun b z => ?_) fun _ => hk
    · by_cases hb : b = a
      · exact .inr ⟨_, _, if_pos hb⟩
      · exact .inl (if_neg hb)
    · by_cases hb : b = a
      · have z' := (if_pos hb).symm.trans z
        cases z'
        subst hb
        exact ⟨ha, by rw [List.length_map]; exact hl, vs, _, rv, ha⟩
      · have z' := (if_neg hb).symm.trans z
        cases z'
    · by_cases hb : b = a
      · exact hb
      · exact absurd (if_neg hb) z
end L2

namespace L2
open PySem PySem.Spec PyProof.Rows

abbrev KOf {K : PySem.W.Frag} {h : Heap} (_ : K.In h) : PySem.W.Frag := K

/-- the goal that k_head leaves (case hc), from the law's promise. F gives the function object fd (K's own) once, then the promise over every base -/
theorem walk_of {l : PySem.W.OpenLaw} {n k : Nat} {q : Program} {loose : List Str} {XP : (Str → Option Value) → Heap → Prop} {YP : World → Heap → Prop} {d : DefRec} {K : Params → PySem.W.Frag} {CX : World → CXT} {sp : World → Sp} {x : Str}
    (hn : l.most = some n) (hn2 : n ≤ sizeLine) (hdf : d.params.defaults = []) (hr : Room k callerA)
    (hY : ∀ (w : World) (h : Heap), YP w h → (K w.params).In h)
    (F : ∀ (w : World) (mg : Str → Option Value) (fa : Addr) (h : Heap), (K w.params).In h → h.Ns mainGlobals mg → mg d.name = some (.ref fa) →
      ∃ fd : FuncData, (∀ (s : Shared) (u : Value), BindsTo s fd ⟨[u], []⟩ [(x, u)]) ∧
        ∀ base : Heap, (K w.params).In base → base.Ns mainGlobals mg → FnOk l.prog w (K w.params) mg base (CX w) k fa fd [x] (sp w))
    (hsp : ∀ (w : World) (H : Hp) (a : Addr) (ns : List Int), ns.length ≤ n → Only H → SqL (K w.params) H a (ns.map V.int) → sp w [.ref a] H (fun v _ => v = .bl true) fun _ _ _ => False)
    (hCX : ∀ (w : World) (H : Hp) (s : Shared) (e : Value) (s' : Shared), CX w [] H s (fun _ _ _ => False) e s' → False) :
    PySem.W.WalkO q loose XP YP l.row.toRowW d [] (fun f vs => PySem.call f vs) := by
  refine Att.attach_call hn hdf fun w s₀ s₁ mg mb fa o pm cd doc a vs ns G Y ho hd hcd hmg hobj hints hlen hg => ?_
  have KX := hY w _ Y
  obtain ⟨fd, hb, hF⟩ := F w mg fa _ KX G.T.g hmg
  exact law_call KX G.T.g G.T.b G.T.builtins G.T.nolimit hg hobj hints (Nat.le_trans hlen hn2) hr hF hb (fun H hO hS => hsp w H a ns hlen hO hS) fun H e s' => hCX w H s₁ e s'
end L2

/- THE LAST THEOREM (shape; LID, My.* are yours):
   My.Adr: a structure of the addresses that your layer names (classes, functions); My.Txt K t: a structure (Prop) of the equations over K;
   My.txt_mk : {K} {implicit addresses ..} (e1 : nsIn K mainGlobals "law" = some (some (.ref f))) (e2 : K.lookup f = some ⟨oc, od, .func (fnOf "law" "law" params body scope dV kV doc pm an cdv ct), sl⟩) (e3 : codeIn K cdv "law" = true) .. : ∃ t, My.Txt K t

set_option maxRecDepth 100000 in
set_option maxHeartbeats 0 in
theorem PySem.Challenge.cw_LID_holds : PySem.Challenge.rw_LID.Holds := by
  w_on; o_law; k_head; (case hw => w_witness2)
  k_fill
  refine L2.walk_of (l := PySem.Challenge.rw_LID) (n := 63) (k := 40) (x := "script") (CX := fun w => ..) (sp := fun _ => My.sp_law) rfl (by decide) rfl ⟨rfl, by decide, by decide⟩ (fun w h Y => PySem.W.kIn_of Y) ?F ?S ?C
  case F =>
    intro w mg fa h KX G hmg
    have T : ∃ t, My.Txt (L2.KOf KX) t := by
      dsimp only [L2.KOf]                          -- K must stand as «<heap const> w.params» for k_is
      refine' My.txt_mk ?e1 ?e2 ?e3 ..
      (case e1 => PySem.W.k_is)                    -- in the order: a name -> its address -> its object -> its parts
      (case e2 => PySem.W.k_is)
      ..
    obtain ⟨t, T⟩ := T
    have e0 := hmg.symm.trans (PySem.W.mg_of KX G T.law)
    cases e0                                       -- fa is the law's own address
    exact ⟨_, fun s u => .of_eq rfl, fun base kb nb => My.law_fn T kb nb⟩     -- if «.of_eq rfl» comes too early: refine' ⟨_, ?b, fun base kb nb => My.law_fn T kb nb⟩; exact fun s u => .of_eq rfl
  case S => exact fun w H a ns hl hO hS => ..
  case C => exact ..
(the tactic k_is has no namespace: write k_is) -/

/-! SHORT WORDS over the layer: a def of the text, its body, what a loop and a test want. -/
namespace L2
open PySem PySem.Spec PyProof.Rows

/-! ### the text by places -/
def defArgs (s : Stmt) : Arguments := match s with
  | .FunctionDef _ a _ _ _ _ _ _ _ _ => a
  | _ => { posonlyargs := [], args := [], vararg := none, kwonlyargs := [], kw_defaults := [], kwarg := none, defaults := [] }
def defBody (s : Stmt) : List Stmt := match s with
  | .FunctionDef _ _ b _ _ _ _ _ _ _ => b
  | _ => []
def defScope (s : Stmt) : Scope := match s with
  | .FunctionDef _ _ _ _ _ _ sc _ _ _ => sc
  | _ => { kind := .function, names := [], isGenerator := false, isCoroutine := false }

/-! ### no exception leaves a def -/
abbrev CX0 : CXT := fun _ _ _ _ _ _ => False
abbrev E0 : XK := fun _ _ _ => False
theorem pass0 {X : Cx} : Passes CX0 X E0 := fun _ _ _ _ _ _ _ h => h.elim

/-! ### a def (or method) of the text as it stands behind the top -/
structure Fun (K : PySem.W.Frag) (x qual : Str) (st : Stmt) (f : Addr) (fd : FuncData) : Prop where
  ex : ∃ (oc : Value) (od : Option Addr) (kV doc pm : Value) (an : Option Addr) (cdv ct : Value) (osl : Array (Option Value)),
    fd = PySem.W.fnOf x qual (defArgs st) (defBody st) (defScope st) .none kV doc pm an cdv ct ∧ K.lookup f = some ⟨oc, od, .func fd, osl⟩ ∧ PySem.W.codeIn K cdv qual = true
  kp : PySem.W.keepIn K (.ref f) = true
section
variable {P : Program} {w : World} {K : PySem.W.Frag} {mg : Str → Option Value} {base : Heap}
/-- THE RULE for a def: its body as a term of rules, and the reading of that term -/
theorem Fun.ok {x qual : Str} {st : Stmt} {f : Addr} {fd : FuncData} {N ps : List Str} {k : Nat} {sp : Sp} (F : Fun K x qual st f fd) (S : FnScope N ps (defScope st)) (len : ∀ vs H Q E, sp vs H Q E → vs.length = ps.length)
    (hbody : ∀ (cdv : Value) (A : Around) (outer : List Env) (s : Shared) (H : Hp) (vs : List V) (Q : VK) (E : XK), Room k (A.deeper (envOfC qual (defScope st) s.heap.objs.size f cdv)) → sp vs H Q E →
      ∃ t, PSs (cxOf CX0 P w K mg base N qual (defScope st) f cdv A outer s H E).nox (defBody st) t ∧ t { nx := fun _ H' => Q .non H', rt := Q } (start N vs) H) : FnOk P w K mg base CX0 (k + 1) f fd ps sp := by
  obtain ⟨oc, od, kV, doc, pm, an, cdv, ct, osl, rfl, lk, hcd⟩ := F.ex
  refine fn_of lk hcd S len fun A outer s H vs Q E hr hsp => ?_
  obtain ⟨t, h, q⟩ := hbody cdv A outer s H vs Q E hr hsp
  exact ⟨t, h.nox, q⟩
/-- how its arguments bind (no defaults): h is «fun _ _ _ _ _ _ us hl => match us, hl with | [_, _], _ => rfl», one _ a parameter -/
theorem Fun.binds {x qual : Str} {st : Stmt} {f : Addr} {fd : FuncData} {ps : List Str} (F : Fun K x qual st f fd)
    (h : ∀ (kV doc pm : Value) (an : Option Addr) (cdv ct : Value) (us : List Value), us.length = ps.length → bindArgs (PySem.W.fnOf x qual (defArgs st) (defBody st) (defScope st) .none kV doc pm an cdv ct) ⟨us, []⟩ = pure (ps.zip us)) : Binds K fd ps [] := by
  obtain ⟨oc, od, kV, doc, pm, an, cdv, ct, osl, rfl, lk, hcd⟩ := F.ex
  exact .all (h kV doc pm an cdv ct)
theorem fun_mk {x qual : Str} {st : Stmt} {f : Addr} {oc : Value} {od an : Option Addr} {osl : Array (Option Value)} {kV doc pm cdv ct : Value} (l : K.lookup f = some ⟨oc, od, .func (PySem.W.fnOf x qual (defArgs st) (defBody st) (defScope st) .none kV doc pm an cdv ct), osl⟩)
    (c : PySem.W.codeIn K cdv qual = true) (k : PySem.W.keepIn K (.ref f) = true) : Fun K x qual st f (PySem.W.fnOf x qual (defArgs st) (defBody st) (defScope st) .none kV doc pm an cdv ct) := ⟨⟨oc, od, kV, doc, pm, an, cdv, ct, osl, rfl, l, c⟩, k⟩
end
/-! ### expressions in short: the name that stands in the i-th slot -/
section
variable {X : Cx}
end

/-! ### tests -/
theorem iteF {A B : Prop} (h : B) : if false = true then A else B := by
  rw [if_neg Bool.false_ne_true]
  exact h
theorem iteT {A B : Prop} (h : A) : if true = true then A else B := by
  rw [if_pos rfl]
  exact h
theorem ite2 {c A B : Prop} [Decidable c] (h1 : c → A) (h2 : ¬ c → B) : if c then A else B := by
  by_cases h : c
  · rw [if_pos h]
    exact h1 h
  · rw [if_neg h]
    exact h2 h
/-! ### heaps -/
/-- all that was tracked is as it was -/
def Same (H H' : Hp) : Prop := ∀ b o, H b = some o → H' b = some o
theorem Same.refl (H : Hp) : Same H H := fun _ _ h => h
theorem Same.trans {H H1 H2 : Hp} (a : Same H H1) (b : Same H1 H2) : Same H H2 := fun c o h => b c o (a c o h)
theorem Same.free {H H' : Hp} (e : Same H H') {l : Addr} (h : H' l = Option.none) : H l = Option.none := by
  cases q : H l with
  | none => rfl
  | some o =>
    rw [e l o q] at h
    cases h
theorem Same.seq {K : PySem.W.Frag} {H H' : Hp} {a : Addr} {xs : List V} (e : Same H H') (h : SqL K H a xs) : SqL K H' a xs := by
  rcases h with (h | ⟨o, h⟩) | h
  · exact .inl (.inl (e _ _ h))
  · exact .inl (.inr ⟨o, e _ _ h⟩)
  · exact .inr h

end L2

namespace L2
open PySem PySem.Spec PyProof.Rows
section
variable {X : Cx}
end
/-- a def of the top with its promise -/
structure Df (P : Program) (w : World) (K : PySem.W.Frag) (mg : Str → Option Value) (base : Heap) (x : Str) (k : Nat) (ps : List Str) (sp : Sp) : Prop where
  ex : ∃ (f : Addr) (fd : FuncData), FnOk P w K mg base CX0 k f fd ps sp ∧ Binds K fd ps [] ∧ mg x = some (.ref f) ∧ PySem.W.keepIn K (.ref f) = true
/-- a def of the top as it stands -/
structure Fn (K : PySem.W.Frag) (mg : Str → Option Value) (x : Str) (st : Stmt) (ps : List Str) : Prop where
  ex : ∃ (f : Addr) (fd : FuncData), Fun K x x st f fd ∧ Binds K fd ps [] ∧ mg x = some (.ref f)
section
variable {P : Program} {w : World} {K : PySem.W.Frag} {mg : Str → Option Value} {base : Heap} {x : Str} {st : Stmt} {ps N : List Str} {k : Nat} {sp : Sp}
theorem Fn.df (F : Fn K mg x st ps) (S : FnScope N ps (defScope st)) (len : ∀ vs H Q E, sp vs H Q E → vs.length = ps.length)
    (hbody : ∀ (f : Addr) (cdv : Value) (A : Around) (outer : List Env) (s : Shared) (H : Hp) (vs : List V) (Q : VK) (E : XK), Room k (A.deeper (envOfC x (defScope st) s.heap.objs.size f cdv)) → sp vs H Q E →
      ∃ t, PSs (cxOf CX0 P w K mg base N x (defScope st) f cdv A outer s H E).nox (defBody st) t ∧ t { nx := fun _ H' => Q .non H', rt := Q } (start N vs) H) : Df P w K mg base x (k + 1) ps sp := by
  obtain ⟨f, fd, F1, hb, hm⟩ := F.ex
  exact ⟨⟨f, fd, F1.ok S len (hbody f), hb, hm, F1.kp⟩⟩
theorem fn_mk {h : Heap} {f : Addr} {oc : Value} {od an : Option Addr} {osl : Array (Option Value)} {kV doc pm cdv ct : Value} (X : K.In h) (G : h.Ns mainGlobals mg)
    (a : PySem.W.nsIn K mainGlobals x = some (some (.ref f))) (l : K.lookup f = some ⟨oc, od, .func (PySem.W.fnOf x x (defArgs st) (defBody st) (defScope st) .none kV doc pm an cdv ct), osl⟩)
    (c : PySem.W.codeIn K cdv x = true) (k : PySem.W.keepIn K (.ref f) = true)
    (hb : ∀ (kV doc pm : Value) (an : Option Addr) (cdv ct : Value) (us : List Value), us.length = ps.length → bindArgs (PySem.W.fnOf x x (defArgs st) (defBody st) (defScope st) .none kV doc pm an cdv ct) ⟨us, []⟩ = pure (ps.zip us)) : Fn K mg x st ps := by
  have F := fun_mk (st := st) l c k
  exact ⟨⟨f, _, F, F.binds (ps := ps) hb, PySem.W.mg_of X G a⟩⟩
end
section
variable {X : Cx}
theorem pe_callD {x : Str} {k k' : Nat} {ps : List Str} {sp : Sp} {e : Expr} {es : List Expr} {t : TA} {p pos : Pos} (D : Df X.prog X.w X.K X.mg X.base x k ps sp) (hr : Room k' X.A) (ha : PA X (e :: es) t) (hk : k ≤ k' := by decide) (hg : Gl X x := by rfl)
    (hdb : (x == ("__debug__" : Str)) = false := by decide) (he : starEach (e :: es) X.env = (false, eval e X.env) :: starEach es X.env := by rfl) (hpl : (backTo pos (starEach es X.env)).any (·.1) = false := by rfl) :
    PE X (.Call (.Name x p) (e :: es) [] pos) (tCall sp [] E0 t) := by
  obtain ⟨f, fd, F, hb, hm, kp⟩ := D.ex
  exact pe_call F (hr.mono hk) hg hm kp hb .nil pass0 ha hdb he hpl
end
theorem same_new {H : Hp} {p : Addr} (h : H p = none) (o : HO) : Same H (upd H p o) := fun b u q => by rw [upd_ne (ne_of_none q h)]; exact q
theorem int_eq {a b : Int} : (V.int a = V.int b) ↔ a = b := ⟨fun h => V.int.inj h, fun h => by rw [h]⟩
theorem ifI {a b : Int} {A B : Prop} (h1 : a = b → A) (h2 : ¬ a = b → B) : if decide (V.int a = V.int b) = true then A else B :=
  ite2 (fun c => h1 (int_eq.mp (of_decide_eq_true c))) (fun c => h2 fun e => c (decide_eq_true (int_eq.mpr e)))
theorem ifNI {a b : Int} {A B : Prop} (h1 : ¬ a = b → A) (h2 : a = b → B) : if (!decide (V.int a = V.int b)) = true then A else B := by
  by_cases e : a = b
  · rw [decide_eq_true (int_eq.mpr e)]; exact iteF (h2 e)
  · rw [decide_eq_false fun q => e (int_eq.mp q)]; exact iteT (h1 e)
theorem ifD {c : Prop} [Decidable c] {A B : Prop} (h1 : c → A) (h2 : ¬ c → B) : if decide c = true then A else B :=
  ite2 (fun q => h1 (of_decide_eq_true q)) (fun q => h2 fun e => q (decide_eq_true e))
theorem ifNe {a b : Int} {A B : Prop} (e : a = b) (h : B) : if (!decide (V.int a = V.int b)) = true then A else B := by
  rw [decide_eq_true (int_eq.mpr e)]; exact iteF h
def intOf : Expr → Option Int
  | .Constant (.int i) _ _ => some i
  | _ => none
def tInts (is : List Int) : TA := fun _ H Q => Q (is.map V.int) H
theorem pa_ints {X : Cx} : ∀ {es : List Expr} (is : List Int), es.map intOf = is.map some → PA X es (tInts is)
  | [], [], _ => pa_nil
  | [], _ :: _, h => by cases h
  | _ :: _, [], h => by cases h
  | e :: es, i :: is, h => by
    have h1 : intOf e = some i := (List.cons.inj h).1
    have h2 : es.map intOf = is.map some := (List.cons.inj h).2
    obtain ⟨j, pos, rfl⟩ : ∃ j pos, e = .Constant (.int i) j pos := by
      unfold intOf at h1
      split at h1
      · cases h1
        exact ⟨_, _, rfl⟩
      · cases h1
    exact pa_cons pe_int (pa_ints is h2)
end L2

namespace L2
open PySem PySem.Spec PyProof.Rows
/-! ### comprehensions [e for x in it if c]: no exception leaves them -/
structure Clos (X : Cx) (scope : Scope) (cl : List (Str × Addr)) : Prop where
  is : closureFor scope X.env = pure cl
  sub : ∀ y c, cl.lookup y = some c → X.env.cells.lookup y = some c
  has : ∀ y, scope.names.lookup y = some .free → ∃ c, cl.lookup y = some c
  nocell : ∀ y ∈ scope.names, y.2 ≠ .cell
  kind : scope.kind = .function
  names : ∀ y ∈ scope.names, y.2 = .local → scope.names.lookup y.1 = some .local
def compCx (X : Cx) (N : List Str) (scope : Scope) (cl : List (Str × Addr)) (C : Addr) (ex : List Addr) (pins : List (Addr × Obj)) (s : Shared) (H : Hp) : Cx :=
  { X with N := N, s₀ := s, H₀ := H, env := compEnvC scope cl C X.env, outer := X.stack, stack := X.stack, ex := ex, fn := fun _ => false, pn := X.pn ++ pins, xe := fun _ _ => False }
/-- the names of the block that come from outside, by their places there -/
def takes (js : List Nat) (σ : St) : St := js.map fun j => (σ[j]?).getD none
/-- the tests of a comprehension's clause, one after the other -/
def testsOf (ifs : List Expr) (env : Env) : Sem Bool :=
  forIn ifs true fun c r => if r = true then (do let ok ← isTrue c env (eval c env); pure (ForInStep.yield ok)) else pure (ForInStep.yield r)
def PF (X : Cx) (ifs : List Expr) (t : TT) : Prop :=
  ∀ (pins : List (Addr × Obj)) (s : Shared) (σ : St) (H : Hp) (Q : Bool → Hp → Prop), Inv X pins σ H s → t σ H Q →
    wpAny (model X.prog X.w) X.A (testsOf ifs X.env) (TP X pins σ Q) X.xe s
def tYes : TT := fun _ H Q => Q true H
theorem pf_nil {X : Cx} : PF X [] tYes := fun _ _ _ H _ I h => wpAny_tests_nil ⟨H, I, h⟩
/-- what the turns ask: W, the word of a turn's number, its measure and its heap -/
def Turns (J : It) (js : List Nat) (σ : St) (tt : TT) (te : TE) (Q : VK) (H1 : Hp) : Prop := ∀ D, H1 D = none → ∃ W : Nat → Nat → Hp → Prop, (∃ m, W 0 m (upd H1 D (.lst []))) ∧ ∀ i m H2, W i m H2 →
  (J.stop i H2 ∧ Q (.ref D) H2) ∨ (J.go i H2 ∧ ∀ v H3, J.yld i H2 v H3 → tt (some v :: takes js σ) H3 fun b H4 => if b = true then
    te (some v :: takes js σ) H4 fun y H5 => ∃ ys, H5 D = some (.lst ys) ∧ ys.length < sizeLine ∧ ∃ m', m' < m ∧ W (i + 1) m' (upd H5 D (.lst (ys ++ [y])))
    else ∃ m', m' < m ∧ W (i + 1) m' H4)
def tComp (wi : TI) (js : List Nat) (tt : TT) (te : TE) : TE := fun σ H Q => wi σ H fun J H1 => Turns J js σ tt te Q H1
def rlab (env : Env) (n : Str) (k : NameKind) : NameKind := if (k == NameKind.free && env.scope.kind == .function && env.kindOf n == some .cell) then .cell else k
theorem rlab_eq {env : Env} {n : Str} {k : NameKind} : (if (k == NameKind.free && env.scope.kind == .function && env.kindOf n == some .cell) then (n, NameKind.cell) else (n, k)) = (n, rlab env n k) := by
  unfold rlab
  split <;> rfl
theorem relabel_lookup {env : Env} : ∀ (names : List (Str × NameKind)) (x : Str), (relabel { kind := .function, names := names, isGenerator := false, isCoroutine := false } env).names.lookup x = (names.lookup x).map (rlab env x)
  | [], _ => rfl
  | (n, k) :: r, x => by
    have ih := relabel_lookup (env := env) r x
    unfold relabel at ih ⊢
    dsimp only at ih ⊢
    rw [List.map_cons]
    dsimp only
    rw [rlab_eq, List.lookup_cons, List.lookup_cons, ih]
    cases hx : x == n with
    | true =>
      have e : x = n := by simpa using hx
      rw [e]
      rfl
    | false => rfl
theorem relabel_look {env : Env} (scope : Scope) (x : Str) : (relabel scope env).names.lookup x = (scope.names.lookup x).map (rlab env x) := relabel_lookup scope.names x
theorem rlab_back {env : Env} {x : Str} {o : Option NameKind} (hc : o ≠ some .cell) (h : o.map (rlab env x) = some .cell ∨ o.map (rlab env x) = some .free) : o = some .free := by
  cases o with
  | none => rcases h with h | h <;> cases h
  | some k =>
    by_cases e : k = .free
    · rw [e]
    · have z : rlab env x k = k := by
        unfold rlab
        have e' : (k == NameKind.free) = false := by simpa using e
        rw [e']
        rfl
      rw [Option.map_some, z] at h
      rcases h with h | h
      · exact absurd h hc
      · exact h
theorem relabel_free {env : Env} {scope : Scope} {x : Str} (h : scope.names.lookup x = some .free) : (relabel scope env).names.lookup x = some .cell ∨ (relabel scope env).names.lookup x = some .free := by
  rw [relabel_look, h, Option.map_some]
  unfold rlab
  split
  · exact .inl rfl
  · exact .inr rfl
section
variable {X : Cx} {elt iter : Expr} {x : Str} {px pos : Pos} {ifs : List Expr} {scope : Scope} {cl : List (Str × Addr)} {N' : List Str} {js : List Nat} {tt : TT} {te : TE}
/-- the block's entry -/
theorem comp_start {pins : List (Addr × Obj)} {σ : St} {H : Hp} {s s4 : Shared} {fp : List Addr} {C : Addr} {m4 : Str → Option Value} (hcl : Clos X scope cl) (hN : js.map (fun j => X.N[j]?) = N'.map some)
    (hk : N'.all (fun y => (X.env.kindOf y == some .cell) || (X.env.kindOf y == some .free)) = true) (hf : N'.all (fun y => scope.names.lookup y == some .free) = true)
    (I : Inv X pins σ H s) (hfp : ∀ b ∈ fp, FpOk X pins H b ∧ b < s.heap.objs.size) (hC : C = s.heap.objs.size) (ho : s4.os = s.os) (hg : s4.gens = s.gens) (hkeep : ∀ b o, s.heap.get? b = some o → s4.heap.get? b = some o) (hn : s4.heap.Ns C m4) :
    Inv (compCx X (x :: N') scope cl C fp pins s H) [] (none :: takes js σ) H s4 := by
  have hne : ∀ b o, s.heap.get? b = some o → b ≠ C := fun b o e => by rw [hC]; exact Nat.ne_of_lt (Heap.lt_size e)
  refine ⟨⟨I.ok.mod, hcl.kind, I.ok.glob, I.ok.blt, Nat.le_of_eq hC.symm, fun y z c h1 h2 => I.ok.inj y z c (hcl.sub y c h1) (hcl.sub z c h2), fun y hy => hcl.has y (rlab_back (fun z => hcl.nocell _ (PySem.mem_of_lookup z) rfl) (by rw [← relabel_look]; exact hy)), fun y c h _ => (nomatch h), I.ok.hd, I.ok.frames, .inl rfl, fun b hb => ⟨?_, fun y c e => (hfp b hb).1.2.2.2.2.1 y c (hcl.sub y c e)⟩,
    I.bs, Nat.le_trans I.ok.bsz I.sz, fun b o e hb => ?_, fun b hb hz => ?_, I.stack, I.stkFree⟩, ho, by rw [hg]; exact I.bare, Un.kept hkeep, ⟨m4, hn, fun i y v h1 h2 h3 => ?_⟩, fun y c e => ?_, ?_, fun y c e => I.freeC y c (hcl.sub y c e), fun p hp => ?_, I.hok.kept hkeep, ?_⟩
  · rw [hC]; exact Nat.ne_of_lt (hfp b hb).2
  · rcases (hfp b hb).1.2.2.2.1 with z | z
    · exact I.ok.noex b o e z
    · exact absurd (Nat.lt_of_lt_of_le (Heap.lt_size e) (Nat.le_trans I.ok.bsz z)) (Nat.lt_irrefl _)
  · rcases List.mem_cons.mp (I.stkSub b hz) with z | z
    · exact (hfp b hb).1.2.1 z
    · exact (hfp b hb).1.2.2.1 z
  · match i, h1, h2 with
    | 0, _, h2 => exact nomatch h2
    | i + 1, h1, h2 =>
      have h1 : N'[i]? = some y := h1
      have h2 : (takes js σ)[i]? = some (some v) := h2
      have hy : y ∈ N' := List.mem_of_getElem? h1
      have q : (js.map (fun j => X.N[j]?))[i]? = some (some y) := by rw [hN, List.getElem?_map, h1]; rfl
      rw [List.getElem?_map] at q
      cases ej : js[i]? with
      | none => rw [ej] at q; cases q
      | some j =>
        rw [ej] at q
        have q : X.N[j]? = some y := Option.some.inj q
        unfold takes at h2
        rw [List.getElem?_map, ej] at h2
        have h2 : (σ[j]?).getD none = some v := Option.some.inj h2
        have h2 : σ[j]? = some (some v) := by
          cases e : σ[j]? with
          | none => rw [e] at h2; cases h2
          | some o => rw [e] at h2; exact congrArg some h2
        have kk := List.all_eq_true.mp hk y hy
        have kk : X.env.kindOf y = some .cell ∨ X.env.kindOf y = some .free := by simpa using kk
        have ff := List.all_eq_true.mp hf y hy
        have ff : scope.names.lookup y = some .free := by simpa using ff
        obtain ⟨m, _, hl⟩ := I.loc
        obtain ⟨u, r, l⟩ := hl j y v q h2 (by rcases kk with z | z; exact .inr (.inl z); exact .inr (.inr z))
        refine ⟨u, r, .inr ⟨relabel_free ff, ?_⟩⟩
        obtain ⟨c, hc⟩ := hcl.has y ff
        rcases l with ⟨z, _⟩ | ⟨_, c', e', cell⟩
        · rcases kk with k | k <;> (rw [k] at z; cases z)
        · rw [hcl.sub y c hc] at e'
          cases e'
          exact ⟨c, hc, cell.keeps hkeep⟩
  · obtain ⟨v, q⟩ := I.cell y c (hcl.sub y c e)
    exact ⟨v, q.keeps hkeep⟩
  · show H C = none
    rw [hC]
    exact I.hok.fresh (Nat.le_refl _)
  · have hp : p ∈ X.pn ++ pins := by
      have hp : p ∈ (X.pn ++ pins) ++ [] := hp
      rwa [List.append_nil] at hp
    obtain ⟨e, n, ne, nf, d⟩ := I.pin p hp
    refine ⟨hkeep _ _ e, n, hne _ _ e, fun z => ?_, d⟩
    rcases List.mem_cons.mp (I.stkSub p.1 z) with z | z
    · exact ne z
    · exact nf z
  · show (takes js σ).length + 1 = N'.length + 1
    have q := congrArg List.length hN
    rw [List.length_map, List.length_map] at q
    unfold takes
    rw [List.length_map, q]
end
end L2
namespace L2
open PySem PySem.Spec PyProof.Rows
theorem comp_turns {prog : Program} {w : World} {A : Around} {R : Result → Shared → Prop} {s : Shared} {elt tg iter : Expr} {ifs : List Expr} {scope : Scope} {pos : Pos} {it acc : Value} {env : Env} {EN : Value → Shared → Prop}
    (hEN : EN = notedBy (model prog w) A env fun e s' => R (.error e) s') (B : Nat → Shared → Prop)
    (turn : ∀ n s, B n s → wpAny (model prog w) A (pyNext it) (fun r s₁ => match r with
      | none => R (.ok .next) s₁
      | some v => wpAny (model prog w) A (letOwnedTupleGo tg it v) (fun _ s₂ => wpAny (model prog w) A (assign tg env v) (fun _ s₃ =>
          wpAny (model prog w) A (testsOf ifs env) (fun ok s₄ =>
            if ok = true then wpAny (model prog w) A (eval elt env) (fun z s₅ => wpAny (model prog w) A (call (.builtin "list.append") [acc, z]) (fun _ s₆ => ∃ m, m < n ∧ B m s₆) EN s₅) EN s₄
            else ∃ m, m < n ∧ B m s₄) EN s₃) EN s₂) EN s₁) EN s) (n : Nat) (h : B n s) :
    codeAny (model prog w) A (.compLoop (.ListComp elt [⟨tg, iter, ifs, 0⟩] scope pos) 0 it acc env) R s := by
  subst hEN
  refine codeAny_loop rfl B (fun n s hI => ?_) n h
  refine wpAny_noted (m := compTurn (.ListComp elt [⟨tg, iter, ifs, 0⟩] scope pos) 0 it acc env) ?_
  rw [compTurn_list]
  refine wpAny_bind (wpAny_standAt (wpAny_bind (wpAny_mono (turn n s hI) (fun r s₁ h₁ => ?_) fun _ _ z => z)))
  cases r with
  | none => exact wpAny_pure h₁
  | some v =>
    refine wpAny_bind (wpAny_mono h₁ (fun _ s₂ h₂ => ?_) fun _ _ z => z)
    refine wpAny_bind (wpAny_mono h₂ (fun _ s₃ h₃ => ?_) fun _ _ z => z)
    refine wpAny_bind (wpAny_mono h₃ (fun ok s₄ h₄ => ?_) fun _ _ z => z)
    cases ok with
    | false => exact wpAny_pure ⟨rfl, h₄⟩
    | true =>
      refine wpAny_bind (wpAny_bind (wpAny_mono h₄ (fun z s₅ h₅ => ?_) fun _ _ q => q))
      exact wpAny_bind (wpAny_mono h₅ (fun _ s₆ h₆ => wpAny_pure (wpAny_pure ⟨rfl, h₆⟩)) fun _ _ q => q)
section
variable {X : Cx} {elt iter : Expr} {x : Str} {px pos : Pos} {ifs : List Expr} {scope : Scope} {cl : List (Str × Addr)} {N' : List Str} {js : List Nat} {tt : TT} {te : TE}
/-- back from the block -/
theorem comp_end {pins : List (Addr × Obj)} {σ σ' : St} {H H' : Hp} {s s' : Shared} {fp : List Addr} {C : Addr} (I : Inv X pins σ H s) (hfp : ∀ b ∈ fp, FpOk X pins H b) (J : Inv (compCx X (x :: N') scope cl C fp pins s H) [] σ' H' s') : Inv X pins σ H' s' :=
  I.call' (ch := fp) J.os J.base J.hok J.bare fun b hb => ⟨(hfp b hb).2.2.2.1, (hfp b hb).2.1, (hfp b hb).2.2.2.2.1, (hfp b hb).2.2.2.2.2⟩
/-- the block: a new list, the turns -/
theorem comp_block {pins : List (Addr × Obj)} {σ : St} {H : Hp} {s : Shared} {Q : VK} {RR : Value → Addr → Result → Shared → Prop} {J : It} {fp : List Addr} {it : Addr} {tn : Nat → Heap → Prop}
    (hcl : Clos X scope cl) (hx : scope.names.lookup x = some .local) (hnd : (x :: N').Nodup) (hN : js.map (fun j => X.N[j]?) = N'.map some)
    (hk : N'.all (fun y => (X.env.kindOf y == some .cell) || (X.env.kindOf y == some .free)) = true) (hf : N'.all (fun y => scope.names.lookup y == some .free) = true) (hc : X.calm = true)
    (ht : ∀ (C : Addr) (ex : List Addr) (pins : List (Addr × Obj)) (s : Shared) (H : Hp), PF (compCx X (x :: N') scope cl C ex pins s H) ifs tt)
    (he : ∀ (C : Addr) (ex : List Addr) (pins : List (Addr × Obj)) (s : Shared) (H : Hp), PE (compCx X (x :: N') scope cl C ex pins s H) elt te)
    (I : Inv X pins σ H s) (T : Turn X.prog X.w X.K (.Name x px) J fp it tn) (st : tn 0 s.heap) (hfp : ∀ b ∈ fp, FpOk X pins H b)
    (q : ∀ D, H D = none → ∃ W : Nat → Nat → Hp → Prop, (∃ m, W 0 m (upd H D (.lst []))) ∧ ∀ i m H2, W i m H2 →
      (J.stop i H2 ∧ Q (.ref D) H2) ∨ (J.go i H2 ∧ ∀ v H3, J.yld i H2 v H3 → tt (some v :: takes js σ) H3 fun b H4 => if b = true then
        te (some v :: takes js σ) H4 fun y H5 => ∃ ys, H5 D = some (.lst ys) ∧ ys.length < sizeLine ∧ ∃ m', m' < m ∧ W (i + 1) m' (upd H5 D (.lst (ys ++ [y])))
        else ∃ m', m' < m ∧ W (i + 1) m' H4))
    (hRR : ∀ (D C : Addr) (s' : Shared) (H' : Hp) (m : Str → Option Value), Inv X pins σ H' s' → H' C = none → C ≠ X.env.locals → X.s₀.heap.objs.size ≤ C → (∀ y c, X.env.cells.lookup y = some c → c ≠ C) → (∀ p ∈ X.pn ++ pins, p.1 ≠ C) → s'.heap.Ns C m → Q (.ref D) H' → RR (.ref D) C (.ok .next) s') :
    wpAny (model X.prog X.w) X.A (newList []) (fun acc s₃ => wpAny (model X.prog X.w) X.A (newFunctionEnv scope X.env.globals cl [] X.env.qual none .none (some X.env)) (fun cenv s₄ =>
      codeAny (model X.prog X.w) X.A (.compStart (.ListComp elt [⟨.Name x px, iter, ifs, 0⟩] scope pos) 0 (.ref it) acc { cenv with scope := relabel scope X.env }) (RR acc cenv.locals) s₄) X.xe s₃) X.xe s := by
  refine wpAny_newObj_type ?_
  have hD : H s.heap.objs.size = none := I.hok.fresh (Nat.le_refl _)
  have I3 : Inv X pins σ (upd H s.heap.objs.size (.lst [])) { s with heap := s.heap.push { cls := .type "list", dict := none, data := .seq ([] : List Value).toArray } } := I.lnew (its := []) (t' := s.toks) .nil (Nat.zero_le _)
  have hfp3 : ∀ b ∈ fp, FpOk X pins (upd H s.heap.objs.size (.lst [])) b ∧ b < (s.heap.push { cls := .type "list", dict := none, data := .seq ([] : List Value).toArray }).objs.size := fun b hb => by
    obtain ⟨o, ho, _⟩ := T.obj 0 _ st b hb
    have hlt := Heap.lt_size ho
    obtain ⟨f0, f1⟩ := hfp b hb
    exact ⟨⟨by rw [upd_ne (Nat.ne_of_lt hlt)]; exact f0, f1⟩, by rw [Heap.size_push]; exact Nat.lt_succ_of_lt hlt⟩
  have st3 : tn 0 (s.heap.push { cls := .type "list", dict := none, data := .seq ([] : List Value).toArray }) := T.keep _ _ _ st fun b _ o e => Heap.get?_push_of_some _ e
  obtain ⟨W, ⟨m0, w0⟩, turn⟩ := q s.heap.objs.size hD
  generalize hs3 : ({ s with heap := s.heap.push { cls := .type "list", dict := none, data := .seq ([] : List Value).toArray } } : Shared) = s3 at I3 ⊢
  have hh3 : s.heap.push { cls := .type "list", dict := none, data := .seq ([] : List Value).toArray } = s3.heap := by rw [← hs3]
  rw [hh3] at hfp3 st3
  generalize s.heap.objs.size = D at I3 hfp3 w0 turn hD ⊢
  generalize upd H D (.lst []) = H3 at I3 hfp3 w0
  refine wpAny_newFunctionEnv hcl.nocell (by intro y hy; simp at hy) (fun h₁ hns₁ hsb₁ => ?_) hcl.kind
  have hkeep : ∀ b o, s3.heap.get? b = some o → h₁.get? b = some o := fun b o e => hsb₁.extBut b o (Nat.ne_of_lt (Heap.lt_size e)) (Heap.get?_push_of_some _ e)
  have J4 : Inv (compCx X (x :: N') scope cl s3.heap.objs.size fp pins s3 H3) [] (none :: takes js σ) H3 { s3 with heap := h₁, toks := s3.toks + ([] : List (Str × Value)).length } :=
    comp_start hcl hN hk hf I3 hfp3 rfl rfl rfl hkeep hns₁
  have st4 : tn 0 h₁ := T.keep _ _ _ st3 fun b _ o e => hkeep b o e
  have cell' : ∀ {s' : Shared} {σ' : St} {H' : Hp}, Inv (compCx X (x :: N') scope cl s3.heap.objs.size fp pins s3 H3) [] σ' H' s' → Q (.ref D) H' → RR (.ref D) s3.heap.objs.size (.ok .next) s' := fun {s' σ' H'} J hq => by
    obtain ⟨m, hn, _⟩ := J.loc
    refine hRR D _ s' H' m (comp_end I3 (fun b hb => (hfp3 b hb).1) J) J.free (Nat.ne_of_gt I3.lt) I3.sz (fun y c e z => ?_) (fun p hp z => ?_) hn hq
    · obtain ⟨v, k⟩ := I3.cell y c e
      exact absurd k.lt (by rw [z]; exact Nat.lt_irrefl _)
    · exact absurd (Heap.lt_size (I3.pin p hp).1) (by rw [z]; exact Nat.lt_irrefl _)
  have fpX : ∀ {H' : Hp}, (∀ b ∈ fp, H' b = none) → ∀ b ∈ fp, FpOk (compCx X (x :: N') scope cl s3.heap.objs.size fp pins s3 H3) [] H' b := fun {H'} hn b hb => by
    obtain ⟨⟨f0, f1, f2, f3, f4, f5⟩, flt⟩ := hfp3 b hb
    refine ⟨hn b hb, Nat.ne_of_lt flt, fun z => ?_, .inl hb, fun y c e => f4 y c (hcl.sub y c e), fun p hp => ?_⟩
    · rcases List.mem_cons.mp (I3.stkSub b z) with z | z
      · exact f1 z
      · exact f2 z
    · have hp : p ∈ (X.pn ++ pins) ++ [] := hp
      rw [List.append_nil] at hp
      exact f5 p hp
  have loop : ∀ s₄ : Shared, s₄ = { s3 with heap := h₁, toks := s3.toks + ([] : List (Str × Value)).length } →
      codeAny (model X.prog X.w) X.A (.compLoop (.ListComp elt [⟨.Name x px, iter, ifs, 0⟩] scope pos) 0 (.ref it) (.ref D) (compEnvC scope cl s3.heap.objs.size X.env)) (RR (.ref D) s3.heap.objs.size) s₄ := by
    rintro s₄ rfl
    refine comp_turns rfl (fun n s' => ∃ i σ0 H', Inv (compCx X (x :: N') scope cl s3.heap.objs.size fp pins s3 H3) [] (σ0 :: takes js σ) H' s' ∧ tn i s'.heap ∧ (∀ b ∈ fp, H' b = none) ∧ W i n H') ?_ m0 ⟨0, none, H3, J4, st4, fun b hb => (hfp3 b hb).1.1, w0⟩
    rintro n s5 ⟨i, σ0, H5, J5, st5, fr5, w5⟩
    rcases turn i n H5 w5 with ⟨stop, qn⟩ | ⟨go, step⟩
    · refine wpAny_mono (T.done (compCx X (x :: N') scope cl s3.heap.objs.size fp pins s3 H3) rfl rfl rfl hc i [] s5 _ H5 (fun _ _ => False) J5 (fpX fr5) st5 stop) (fun r s6 ⟨hr, J6⟩ => ?_) fun _ _ z => z.elim
      subst hr
      exact cell' J6 qn
    · refine wpAny_mono (T.item (compCx X (x :: N') scope cl s3.heap.objs.size fp pins s3 H3) rfl rfl rfl hc i [] s5 _ H5 (fun _ _ => False) J5 (fpX fr5) st5 go) (fun r s6 ⟨u, hr, h6⟩ => ?_) fun _ _ z => z.elim
      subst hr
      refine wpAny_mono h6 (fun _ s6' h6' => ?_) fun _ _ z => z.elim
      obtain ⟨v, H6, J6, r6, y6, st6, fr6⟩ := h6'
      clear h6
      have J6' := J6.pinned (fpX fr6) (T.obj _ _ st6)
      show wpAny _ _ (assign (.Name x px) _ u) _ _ _
      refine wpAny_assign_Name (store_ok (i := 0) J6' hnd rfl (.inl (lookup_relabel_local hx)) r6 (fun s7 J7 => ?_) (.inr (lookup_relabel_local hx)))
      have J7 : Inv (compCx X (x :: N') scope cl s3.heap.objs.size fp pins s3 H3) ([] ++ pinsAt fp s6'.heap) (some v :: takes js σ) H6 s7 := J7
      have again : ∀ {σ8 : St} {H8 : Hp} {s8 : Shared}, Inv (compCx X (x :: N') scope cl s3.heap.objs.size fp pins s3 H3) ([] ++ pinsAt fp s6'.heap) σ8 H8 s8 → tn (i + 1) s8.heap ∧ ∀ b ∈ fp, H8 b = none := fun {σ8 H8 s8} J8 => by
        refine ⟨T.keep _ _ _ st6 fun b hb o e => (J8.pin (b, o) (List.mem_append_right _ (List.mem_append_right _ (mem_pinsAt hb e)))).1, fun b hb => ?_⟩
        obtain ⟨o, e, d⟩ := T.obj _ _ st6 b hb
        exact (J8.pin (b, o) (List.mem_append_right _ (List.mem_append_right _ (mem_pinsAt hb e)))).2.1
      refine wpAny_mono (ht _ _ _ _ _ _ s7 _ H6 _ J7 (step v H6 y6)) (fun ok s8 ⟨H8, J8, q8⟩ => ?_) fun _ _ z => z.elim
      cases ok with
      | false =>
        obtain ⟨m', hm, w8⟩ := (show ∃ m', m' < n ∧ W (i + 1) m' H8 from q8)
        obtain ⟨a1, a2⟩ := again J8
        exact ⟨m', hm, i + 1, some v, H8, J8.unpinned, a1, a2, w8⟩
      | true =>
        refine wpAny_mono (he _ _ _ _ _ _ s8 _ H8 _ J8 q8) (fun y s9 ⟨z, H9, J9, r9, ys, hys, hlen, m', hm, w9⟩ => ?_) fun _ _ z => z.elim
        refine wpAny_mono (mt_append (X := compCx X (x :: N') scope cl s3.heap.objs.size fp pins s3 H3) _ s9 _ H9 (.ref D) [z] (.ref D) [y] (fun _ H10 => H10 = upd H9 D (.lst (ys ++ [z]))) J9 rfl (.cons r9 .nil) ⟨D, ys, z, rfl, rfl, hys, hlen, rfl⟩) (fun _ s10 ⟨_, H10, J10, _, e10⟩ => ?_) fun _ _ z => z.elim
        subst e10
        obtain ⟨a1, a2⟩ := again J10
        exact ⟨m', hm, i + 1, some v, _, J10.unpinned, a1, a2, w9⟩
  exact codeAny_compStart_list (loop _ rfl) (T.self _ 0 _ _ _ st4 (loop _ rfl))
theorem pe_comp {wi : TI} (hcl : Clos X scope cl) (hx : scope.names.lookup x = some .local) (hnd : (x :: N').Nodup) (hN : js.map (fun j => X.N[j]?) = N'.map some)
    (hk : N'.all (fun y => (X.env.kindOf y == some .cell) || (X.env.kindOf y == some .free)) = true) (hf : N'.all (fun y => scope.names.lookup y == some .free) = true) (hc : X.calm = true)
    (hi : PI X (.Name x px) iter wi)
    (ht : ∀ (C : Addr) (ex : List Addr) (pins : List (Addr × Obj)) (s : Shared) (H : Hp), PF (compCx X (x :: N') scope cl C ex pins s H) ifs tt)
    (he : ∀ (C : Addr) (ex : List Addr) (pins : List (Addr × Obj)) (s : Shared) (H : Hp), PE (compCx X (x :: N') scope cl C ex pins s H) elt te)
    (hs : ∀ x, foldedSetIterable iter X.env x = pure x := by intro _; rfl) :
    PE X (.ListComp elt [⟨.Name x px, iter, ifs, 0⟩] scope pos) (tComp wi js tt te) := by
  intro pins s σ H Q I h
  rw [eval_ListComp]
  refine wpAny_comprehension_free (use := none) rfl hs hcl.is hcl.kind hcl.names (thn (hi pins s σ H _ I h) fun xv s₁ h₁ => thn h₁ fun itv s₂ h₂ => ?_)
  obtain ⟨it, fp, tn, J, H2, rfl, I2, T, st, hfp, q⟩ := h₂
  refine comp_block (RR := fun acc C => compPost (model X.prog X.w) X.A X.xe none (EP X pins σ Q) acc C) hcl hx hnd hN hk hf hc ht he I2 T st hfp q ?_
  intro D C s' H' m I' hC0 hCL hCs hCc hCp hn hq
  refine ⟨m, hn, fun h' sb => ⟨.ref D, H', ?_, rfl, hq⟩⟩
  exact I'.turned (t' := s'.toks) (fun b o hb e => (sb.2 b hb).trans e) hC0 hCL (.inr hCs) hCc hCp
end
end L2
namespace L2
open PySem PySem.Spec PyProof.Rows
theorem closure_go (env : Env) : ∀ (names : List (Str × NameKind)) (acc : List (Str × Addr)), names.all (fun y => y.2 != .free || (env.cells.lookup y.1).isSome) = true →
    ∃ cl : List (Str × Addr), (forIn (m := Sem) names acc fun x r => (do
      let (name, kind) := x
      if kind == .free then do let c ← cellOf env name; pure (ForInStep.yield ((name, c) :: r)) else pure (ForInStep.yield r))) = (pure cl : Sem _) ∧
      (∀ y c, cl.lookup y = some c → env.cells.lookup y = some c ∨ acc.lookup y = some c) ∧ (∀ y, (∃ c, acc.lookup y = some c) → ∃ c, cl.lookup y = some c) ∧ (∀ y, (y, NameKind.free) ∈ names → ∃ c, cl.lookup y = some c)
  | [], acc, _ => ⟨acc, rfl, fun _ _ h => .inr h, fun _ h => h, fun _ h => nomatch h⟩
  | (n, k) :: r, acc, h => by
    rw [List.all_cons, Bool.and_eq_true] at h
    by_cases hk : k = .free
    · subst hk
      have h1 : (env.cells.lookup n).isSome = true := by simpa using h.1
      obtain ⟨c, hc⟩ := Option.isSome_iff_exists.mp h1
      obtain ⟨cl, e, p1, p2, p3⟩ := closure_go env r ((n, c) :: acc) h.2
      refine ⟨cl, ?_, fun y c' hy => ?_, fun y hy => ?_, fun y hy => ?_⟩
      · rw [← e]
        have q : cellOf env n = (pure c : Sem Addr) := by unfold cellOf; rw [hc]
        rw [List.forIn_cons]
        dsimp only
        rw [if_pos (show (NameKind.free == NameKind.free) = true from rfl), q]
        rfl
      · rcases p1 y c' hy with z | z
        · exact .inl z
        · rw [List.lookup_cons] at z
          cases hyn : y == n with
          | true =>
            rw [hyn] at z
            have e1 : y = n := by simpa using hyn
            have e2 : c = c' := by simpa using z
            rw [e1, ← e2]
            exact .inl hc
          | false =>
            rw [hyn] at z
            exact .inr z
      · refine p2 y ?_
        rw [List.lookup_cons]
        cases hyn : y == n with
        | true => exact ⟨c, rfl⟩
        | false => exact hy
      · rcases List.mem_cons.mp hy with z | z
        · refine p2 y ⟨c, ?_⟩
          have e1 : y = n := (Prod.mk.inj z).1
          rw [e1, List.lookup_cons]
          simp
        · exact p3 y z
    · obtain ⟨cl, e, p1, p2, p3⟩ := closure_go env r acc h.2
      have hk' : (k == NameKind.free) = false := by simpa using hk
      refine ⟨cl, ?_, p1, p2, fun y hy => ?_⟩
      · rw [← e]
        rw [List.forIn_cons]
        dsimp only
        rw [if_neg (by rw [hk']; exact Bool.false_ne_true)]
        rfl
      · rcases List.mem_cons.mp hy with z | z
        · exact absurd (Prod.mk.inj z).2.symm hk
        · exact p3 y z
theorem clos_of {X : Cx} {scope : Scope} (h : scope.names.all (fun y => y.2 != .free || (X.env.cells.lookup y.1).isSome) = true) (h2 : scope.names.all (fun y => y.2 != .cell) = true) (h3 : scope.kind = .function)
    (h4 : scope.names.all (fun y => y.2 != .local || scope.names.lookup y.1 == some .local) = true) : ∃ cl, Clos X scope cl := by
  obtain ⟨cl, e, p1, p2, p3⟩ := closure_go X.env scope.names [] h
  refine ⟨cl, ?_, fun y c hy => ?_, fun y hy => p3 y (PySem.mem_of_lookup hy), fun y hy => by simpa using List.all_eq_true.mp h2 y hy, h3, fun y hy hl => ?_⟩
  · unfold closureFor
    exact Eq.trans (congrArg (fun t : Sem (List (Str × Addr)) => t >>= fun r => (pure r : Sem (List (Str × Addr)))) e) rfl
  · rcases p1 y c hy with z | z
    · exact z
    · simp at z
  · have q := List.all_eq_true.mp h4 y hy
    simpa [hl] using q
section
variable {js : List Nat} {σ : St} {tt : TT} {te : TE} {Q : VK} {H1 : Hp}
theorem comp_range {lo : Int} {n : Nat} (R : Nat → List V → Prop) (hn : n ≤ sizeLine) (h0 : R 0 [])
    (hs : ∀ (i : Nat) (l : List V) (D : Addr) (H2 : Hp) (E : V → Hp → Prop) (F : Hp → Prop), i < n → R i l → H1 D = none → Same H1 H2 → H2 D = some (.lst l) → (∀ y H5, Same H2 H5 → R (i + 1) (l ++ [y]) → E y H5) → (∀ H4, Same H2 H4 → R (i + 1) l → F H4) →
      tt (some (.int (lo + i)) :: takes js σ) H2 fun b H4 => if b = true then te (some (.int (lo + i)) :: takes js σ) H4 E else F H4)
    (hd : ∀ (D : Addr) (H2 : Hp) (l : List V), R n l → H1 D = none → Same H1 H2 → H2 D = some (.lst l) → Q (.ref D) H2) : Turns (Itr lo n) js σ tt te Q H1 := by
  intro D hD
  refine ⟨fun i m H2 => m = n - i ∧ i ≤ n ∧ Same H1 H2 ∧ ∃ l, H2 D = some (.lst l) ∧ l.length ≤ i ∧ R i l, ⟨n, by simp, Nat.zero_le _, same_new hD _, [], upd_same, Nat.le_refl _, h0⟩, ?_⟩
  rintro i m H2 ⟨rfl, hi, s2, l, h2, hll, hR⟩
  by_cases hlt : i < n
  · refine .inr ⟨hlt, fun v H3 y => ?_⟩
    obtain ⟨e, ev⟩ := y
    subst e ev
    refine hs i l D _ _ _ hlt hR hD s2 h2 (fun z H5 s5 r5 => ?_) (fun H4 s4 r4 => ?_)
    · refine ⟨l, s5 _ _ h2, Nat.lt_of_le_of_lt hll (Nat.lt_of_lt_of_le hlt hn), n - (i + 1), by omega, rfl, hlt, fun b o hb => ?_, l ++ [z], upd_same, by rw [List.length_append, List.length_singleton]; omega, r5⟩
      rw [upd_ne (ne_of_none hb hD)]
      exact s5 _ _ (s2 _ _ hb)
    · exact ⟨n - (i + 1), by omega, rfl, hlt, s2.trans s4, l, s4 _ _ h2, by omega, r4⟩
  · have e : i = n := by omega
    subst e
    exact .inl ⟨Nat.le_refl _, hd D H2 l hR hD s2 h2⟩
end
end L2

namespace L2
open PySem PySem.Spec PyProof.Rows
/-! ### the rules, each behind a wall: a term of them is put together without a look into what they say -/
structure E (X : Cx) (e : Expr) (t : TE) : Prop where
  h : PE X e t
structure T (X : Cx) (e : Expr) (t : TT) : Prop where
  h : PT X e t
structure TW (X : Cx) (e : Expr) (t : TT) : Prop where
  h : PW X e t
structure As (X : Cx) (es : List Expr) (t : TA) : Prop where
  h : PA X es t
structure S (X : Cx) (st : Stmt) (t : TS) : Prop where
  h : PS X st t
structure Ss (X : Cx) (sts : List Stmt) (t : TS) : Prop where
  h : PSs X sts t
structure Il (X : Cx) (tg iter : Expr) (wi : TI) : Prop where
  h : PI X tg iter wi
structure Gt (X : Cx) (tg : Expr) (t : TG) : Prop where
  h : PG X tg t
structure Gts (X : Cx) (ts : List Expr) (t : TGs) : Prop where
  h : PGs X ts t
structure Fs (X : Cx) (ifs : List Expr) (t : TT) : Prop where
  h : PF X ifs t
structure Op2 (X : Cx) (f : Value → Value → Sem Value) (r : R2) : Prop where
  h : OpR X f r
structure Op1 (X : Cx) (f : Value → Sem Value) (r : V → Hp → VK → Prop) : Prop where
  h : UnR X f r
structure Cl1 (X : Cx) (f : Value) (r : List V → Hp → VK → Prop) : Prop where
  h : CallR X f r
structure Ixs (X : Cx) (r : R2) : Prop where
  h : IxR X r
section
variable {X : Cx} {a b c e : Expr} {pos p : Pos} {ta tb tc te : TE} {t u : TT} {rest es : List Expr} {tA : TA} {op op' : CmpOp} {r r' : R2} {x : Str}
theorem v_ (i : Nat) (hN : X.N[i]? = some x := by rfl) (hv : Vis X.env.scope x := by first | exact Or.inl rfl | exact Or.inr (Or.inl rfl) | exact Or.inr (Or.inr rfl)) (hd : (x == ("__debug__" : Str)) = false := by decide) (hcd : (x == ("__classdict__" : Str)) = false := by decide) :
    E X (.Name x pos) (tVar i) := ⟨pe_var hN hv hd hcd⟩
theorem eI {i j} : E X (.Constant (.int i) j pos) (tC (.int i)) := ⟨pe_int⟩
theorem eB {k j} : E X (.Constant (.bool k) j pos) (tC (.bl k)) := ⟨pe_bl⟩
theorem eN {j} : E X (.Constant .none j pos) (tC .non) := ⟨pe_non⟩
theorem eGl {v : V} {w' : Value} (hm : X.mg x = some w') (q : RelV v w') (hg : Gl X x := by rfl) (hd : (x == ("__debug__" : Str)) = false := by decide) : E X (.Name x pos) (tC v) := ⟨pe_glob hg hm q hd⟩
theorem eTy {n : String} (hm : X.mg x = none) (hv : bootBuiltins x = some (.type n)) (hg : Gl X x := by rfl) (hn : x ≠ "__name__" := by decide) (hd : (x == ("__debug__" : Str)) = false := by decide) : E X (.Name x pos) (tC (.ty n)) := ⟨pe_bltn hg hm hv rfl hn hd⟩
theorem eOp {o : Operator} (ho : Op2 X (binaryOp o) r) (ha : E X a ta) (hb : E X b tb) : E X (.BinOp a o b pos) (tOp r ta tb) := ⟨pe_op ho.h ha.h hb.h⟩
theorem eUn {o : UnaryOp} {r1 : V → Hp → VK → Prop} (ho : Op1 X (unaryOp o) r1) (ha : E X a ta) : E X (.UnaryOp o a pos) (tUn r1 ta) := ⟨pe_un ho.h ha.h⟩
theorem eCmp (ho : Op2 X (compareOp op) r) (ha : E X a ta) (hb : E X b tb) (hm : behindInMarks op b = false := by first | exact nomark _ | rfl) : E X (.Compare a [op] [b] pos) (tOp r ta tb) := ⟨pe_cmpR ho.h ha.h hb.h hm⟩
theorem eCh (ho : Op2 X (compareOp op) r) (ho' : Op2 X (compareOp op') r') (ha : E X a ta) (hb : E X b tb) (hc : E X c tc) (hm : lastMarks [op, op'] [b, c] = false := by with_unfolding_all rfl) : E X (.Compare a [op, op'] [b, c] pos) (tChain r r' ta tb tc) := ⟨pe_chain ho.h ho'.h ha.h hb.h hc.h hm⟩
theorem tCh (ho : Op2 X (compareOp op) r) (ho' : Op2 X (compareOp op') r') (ha : E X a ta) (hb : E X b tb) (hc : E X c tc) (hm : lastMarks [op, op'] [b, c] = false := by with_unfolding_all rfl) : T X (.Compare a [op, op'] [b, c] pos) (tTest (tChain r r' ta tb tc)) := ⟨pt_chain ho.h ho'.h ha.h hb.h hc.h hm⟩
theorem eOne {o} (ha : E X a ta) : E X (.BoolOp o [a] pos) ta := ⟨pe_one ha.h⟩
theorem eAnd (ha : E X a ta) (hb : E X (.BoolOp .And (b :: rest) pos) tb) : E X (.BoolOp .And (a :: b :: rest) pos) (tAndV ta tb) := ⟨pe_and ha.h hb.h⟩
theorem eOr (ha : E X a ta) (hb : E X (.BoolOp .Or (b :: rest) pos) tb) : E X (.BoolOp .Or (a :: b :: rest) pos) (tOrV ta tb) := ⟨pe_or ha.h hb.h⟩
theorem eNot (ha : E X a ta) : E X (.UnaryOp .Not a pos) (tNotV ta) := ⟨pe_not ha.h⟩
theorem eIf (hc : T X c t) (ha : E X a ta) (hb : E X b tb) : E X (.IfExp c a b pos) (tIf t ta tb) := ⟨pe_ifExp hc.h ha.h hb.h⟩
theorem tCm (ho : Op2 X (compareOp op) r) (ha : E X a ta) (hb : E X b tb) (hm : behindInMarks op b = false := by first | exact nomark _ | rfl) : T X (.Compare a [op] [b] pos) (tTest (tOp r ta tb)) := ⟨pt_cmpR ho.h ha.h hb.h hm⟩
theorem tNo (ha : T X a t) : T X (.UnaryOp .Not a pos) (tNot t) := ⟨pt_not ha.h⟩
theorem tVa (ha : E X e te) (he : ∀ whole, isTrue e X.env whole = (do let v ← whole; standAt e.pos; holding [v] (truthy v)) := by intro _; rfl) : T X e (L2.tB te) := ⟨pt_val ha.h he⟩
theorem wAnd1 (ha : T X a t) : TW X (.BoolOp .And [a] pos) t := ⟨pw_and1 ha.h⟩
theorem wOr1 (ha : T X a t) : TW X (.BoolOp .Or [a] pos) t := ⟨pw_or1 ha.h⟩
theorem wAnd (ha : T X a t) (hb : TW X (.BoolOp .And (b :: rest) pos) u) : TW X (.BoolOp .And (a :: b :: rest) pos) (tAnd t u) := ⟨pw_and ha.h hb.h⟩
theorem wOr (ha : T X a t) (hb : TW X (.BoolOp .Or (b :: rest) pos) u) : TW X (.BoolOp .Or (a :: b :: rest) pos) (tOr t u) := ⟨pw_or ha.h hb.h⟩
theorem tW (ha : TW X e t) : T X e t := ⟨ha.h.pt⟩
theorem aN : As X [] tNil := ⟨pa_nil⟩
theorem aC (ha : E X e te) (hr : As X es tA) (hs : starEach (e :: es) X.env = (false, eval e X.env) :: starEach es X.env := by rfl) : As X (e :: es) (tCons te tA) := ⟨pa_cons ha.h hr.h hs⟩
theorem aInts (is : List Int) (h : es.map intOf = is.map some := by rfl) : As X es (tInts is) := ⟨pa_ints is h⟩
theorem eLst (ha : As X es tA) : E X (.List es pos) (tLst tA) := ⟨pe_lst ha.h⟩
theorem eTup {k} (ha : As X es tA) : E X (.Tuple es k pos) (tTup tA) := ⟨pe_tup ha.h⟩
theorem eIx (hr : Ixs X r) (ha : E X a ta) (hb : E X b tb) (hs : PlainIx b := by intro _ _; rfl) : E X (.Subscript a b pos) (tOp r ta tb) := ⟨pe_ix hr.h ha.h hb.h hs⟩
theorem eD {k k' : Nat} {ps : List Str} {sp : Sp} (D : Df X.prog X.w X.K X.mg X.base x k ps sp) (hr : Room k' X.A) (ha : As X (e :: es) tA) (hk : k ≤ k' := by decide) (hg : Gl X x := by rfl)
    (hdb : (x == ("__debug__" : Str)) = false := by decide) (he : starEach (e :: es) X.env = (false, eval e X.env) :: starEach es X.env := by rfl) (hpl : (backTo pos (starEach es X.env)).any (·.1) = false := by rfl) :
    E X (.Call (.Name x p) (e :: es) [] pos) (tCall sp [] E0 tA) := ⟨pe_callD D hr ha.h hk hg hdb he hpl⟩
theorem eCB {id : String} {rc : List V → Hp → VK → Prop} (hc : Cl1 X (.builtin id) rc) (hm : X.mg x = none) (hv : bootBuiltins x = some (.builtin id)) (ha : As X (e :: es) tA) (hg : Gl X x := by rfl) (hn : x ≠ "__name__" := by decide) (hdb : (x == ("__debug__" : Str)) = false := by decide)
    (he : starEach (e :: es) X.env = (false, eval e X.env) :: starEach es X.env := by rfl) (hpl : (backTo pos (starEach es X.env)).any (·.1) = false := by rfl) : E X (.Call (.Name x p) (e :: es) [] pos) (tCB rc tA) := ⟨pe_callB hc.h hg hm hv ha.h hn hdb he hpl⟩
theorem eCT {n : String} {rc : List V → Hp → VK → Prop} (hc : Cl1 X (.type n) rc) (hm : X.mg x = none) (hv : bootBuiltins x = some (.type n)) (ha : As X (e :: es) tA) (hg : Gl X x := by rfl) (hn : x ≠ "__name__" := by decide) (hdb : (x == ("__debug__" : Str)) = false := by decide)
    (he : starEach (e :: es) X.env = (false, eval e X.env) :: starEach es X.env := by rfl) (hpl : (backTo pos (starEach es X.env)).any (·.1) = false := by rfl) : E X (.Call (.Name x p) (e :: es) [] pos) (tCB rc tA) := ⟨pe_callTy hc.h hg hm hv ha.h hn hdb he hpl⟩
end
section
variable {X : Cx}
theorem oAdd : Op2 X (binaryOp .Add) (rI0 fun i j => .int (i + j)) := ⟨op_add⟩
theorem oSub : Op2 X (binaryOp .Sub) (rI0 fun i j => .int (i - j)) := ⟨op_sub⟩
theorem oMul : Op2 X (binaryOp .Mult) (rI CMul fun i j => .int (i * j)) := ⟨op_mul⟩
theorem oDiv : Op2 X (binaryOp .FloorDiv) (rI CDiv fun i j => .int (i / j)) := ⟨op_fdiv⟩
theorem oMod : Op2 X (binaryOp .Mod) (rI (fun _ j => 0 < j) fun i j => .int (i % j)) := ⟨op_mod⟩
theorem oPow : Op2 X (binaryOp .Pow) (rI CPow fun i j => .int (i ^ j.toNat)) := ⟨op_pow⟩
theorem oEq : Op2 X (compareOp .Eq) rEq := ⟨op_eq⟩
theorem oNe : Op2 X (compareOp .NotEq) rNe := ⟨op_ne⟩
theorem oLt : Op2 X (compareOp .Lt) (rI0 fun i j => .bl (decide (i < j))) := ⟨op_lt⟩
theorem oLe : Op2 X (compareOp .LtE) (rI0 fun i j => .bl (decide (i ≤ j))) := ⟨op_le⟩
theorem oGt : Op2 X (compareOp .Gt) (rI0 fun i j => .bl (decide (j < i))) := ⟨op_gt⟩
theorem xL : Ixs X (rIxL X.K) := ⟨ix_list⟩
theorem xT : Ixs X (rIxT X.K) := ⟨ix_tup⟩
theorem cLen : Cl1 X (.builtin "len") (fun xs H Q => ∃ p ys, xs = [.ref p] ∧ (SqL X.K H p ys ∨ SqT X.K H p ys) ∧ Q (.int ys.length) H) := ⟨call_len_seq⟩
theorem cMax (hc : X.calm = true := by rfl) : Cl1 X (.builtin "max") (fun xs H Q => ∃ i j, xs = [.int i, .int j] ∧ Q (.int (if j > i then j else i)) H) := ⟨call_max2 hc⟩
theorem cMin (hc : X.calm = true := by rfl) : Cl1 X (.builtin "min") (fun xs H Q => ∃ i j, xs = [.int i, .int j] ∧ Q (.int (if j < i then j else i)) H) := ⟨call_min2 hc⟩
theorem cInt : Cl1 X (.type "int") (fun xs H Q => (∃ i, xs = [.int i] ∧ Q (.int i) H) ∨ ∃ k, xs = [.bl k] ∧ Q (.int (if k then 1 else 0)) H) := ⟨call_int1⟩
end
section
variable {X : Cx} {e c iter tg : Expr} {te : TE} {tt : TT} {tA : TA} {wi : TI} {g : TG} {t u tb : TS} {st : Stmt} {rest body ba bb : List Stmt} {pos pos' p : Pos} {x : Str} {a1 a2 : Expr}
theorem ssN : Ss X [] tNext := ⟨pss_nil⟩
theorem ssC (h1 : S X st t) (h2 : Ss X rest u) : Ss X (st :: rest) (tSeq t u) := ⟨pss_cons h1.h h2.h⟩
theorem ss1 (h1 : S X st t) : Ss X [st] t := ⟨pss_one h1.h⟩
theorem sRet (he : E X e te) : S X (.Return (some e) pos) (tRet te) := ⟨ps_ret he.h⟩
theorem sIf (hc : T X c tt) (ha : Ss X ba t) (hb : Ss X bb u) : S X (.If c ba bb pos) (tIfS tt t u) := ⟨ps_if hc.h ha.h hb.h⟩
theorem sSet (i : Nat) (he : E X e te) (hN : X.N.Nodup) (hi : X.N[i]? = some x := by rfl) (hx : Loc X.env.scope x := by first | exact Or.inl rfl | exact Or.inr rfl) (hs : swapsWith e (some (.Name x pos')) pos.line X.env = pure false := by rfl)
    (hf : X.fn x = true ∨ X.env.scope.names.lookup x = some .local := by first | exact .inl rfl | exact .inr rfl) : S X (.Assign [.Name x pos'] e pos) (tAsg te (gName i)) := ⟨ps_set hN hi hx he.h hs hf⟩
theorem gN (i : Nat) (hN : X.N.Nodup) (hi : X.N[i]? = some x := by rfl) (hx : Loc X.env.scope x := by first | exact Or.inl rfl | exact Or.inr rfl) (hf : X.fn x = true ∨ X.env.scope.names.lookup x = some .local := by first | exact .inl rfl | exact .inr rfl) : Gt X (.Name x pos) (gName i) := ⟨pg_name hN hi hx hf⟩
theorem sFor (hi : Il X tg iter wi) (hg : Gt X tg g) (hb : Ss X body tb) (hp : PassesOwn (model X.prog X.w) X.A X.env X.xe) (hc : X.calm = true := by rfl) (hs : ∀ x, foldedSetIterable iter X.env x = pure x := by intro _; rfl) : S X (.For tg iter body [] pos) (tFor wi g tb) := ⟨ps_for hp hc hi.h hg.h hb.h hs⟩
theorem iR1 (hm : X.mg "range" = none) (ha : As X [a1] tA) (hg : Gl X "range" := by rfl) (hs : starEach [a1] X.env = [(false, eval a1 X.env)] := by rfl) : Il X tg (.Call (.Name "range" p) [a1] [] pos) (iRng1 tA) := ⟨pi_range1 hg hm ha.h hs⟩
theorem iR2 (hm : X.mg "range" = none) (ha : As X [a1, a2] tA) (hg : Gl X "range" := by rfl) (hs : starEach [a1, a2] X.env = [(false, eval a1 X.env), (false, eval a2 X.env)] := by rfl) (hs2 : starEach [a2] X.env = [(false, eval a2 X.env)] := by rfl) :
    Il X tg (.Call (.Name "range" p) [a1, a2] [] pos) (iRng2 tA) := ⟨pi_range2 hg hm ha.h hs hs2⟩
end
section
variable {P : Program} {w : World} {K : PySem.W.Frag} {mg : Str → Option Value} {base : Heap} {x : Str} {st : Stmt} {ps N : List Str} {k : Nat} {sp : Sp}
theorem Fn.dfs (F : Fn K mg x st ps) (S' : FnScope N ps (defScope st)) (len : ∀ vs H Q E, sp vs H Q E → vs.length = ps.length)
    (hbody : ∀ (f : Addr) (cdv : Value) (A : Around) (outer : List Env) (s : Shared) (H : Hp) (vs : List V) (Q : VK) (E : XK), Room k (A.deeper (envOfC x (defScope st) s.heap.objs.size f cdv)) → sp vs H Q E →
      ∃ t, Ss (cxOf CX0 P w K mg base N x (defScope st) f cdv A outer s H E).nox (defBody st) t ∧ t { nx := fun _ H' => Q .non H', rt := Q } (start N vs) H) : Df P w K mg base x (k + 1) ps sp :=
  F.df S' len fun f cdv A outer s H vs Q E hr h => by
    obtain ⟨t, h1, h2⟩ := hbody f cdv A outer s H vs Q E hr h
    exact ⟨t, h1.h, h2⟩
theorem Fun.oks {f : Addr} {fd : FuncData} (F : Fun K x x st f fd) (S' : FnScope N ps (defScope st)) (len : ∀ vs H Q E, sp vs H Q E → vs.length = ps.length)
    (hbody : ∀ (cdv : Value) (A : Around) (outer : List Env) (s : Shared) (H : Hp) (vs : List V) (Q : VK) (E : XK), Room k (A.deeper (envOfC x (defScope st) s.heap.objs.size f cdv)) → sp vs H Q E →
      ∃ t, Ss (cxOf CX0 P w K mg base N x (defScope st) f cdv A outer s H E).nox (defBody st) t ∧ t { nx := fun _ H' => Q .non H', rt := Q } (start N vs) H) : FnOk P w K mg base CX0 (k + 1) f fd ps sp :=
  F.ok S' len fun cdv A outer s H vs Q E hr h => by
    obtain ⟨t, h1, h2⟩ := hbody cdv A outer s H vs Q E hr h
    exact ⟨t, h1.h, h2⟩
end
end L2

namespace L2
open PySem PySem.Spec PyProof.Rows PySem.SeqAt
theorem ints_of_vals : ∀ {is : List Int} {us : List Value}, Vals (is.map V.int) us → IntsAre us is
  | [], _, .nil => .nil
  | _ :: _, _, .cons ⟨_, rfl⟩ r => .cons _ _ (ints_of_vals r)
section
variable {X : Cx}
theorem call_sumI (hc : X.calm = true) : CallR X (.builtin "sum") (fun xs H Q => ∃ (p : Addr) (is : List Int), xs = [.ref p] ∧ SqL X.K H p (is.map V.int) ∧ Q (.int is.sum) H) := by
  intro pins s σ H xs us Q I r h
  obtain ⟨p, is, rfl, hq, q⟩ := h
  obtain ⟨u, rfl, r1⟩ := vals1 r
  cases r1
  obtain ⟨its, rv, pl, hz⟩ := I.list hq
  have hi := ints_of_vals rv
  obtain ⟨ys, hy⟩ := hi.allInts.items
  have hl : s.heap.IsList p (intItems ys) := by rw [← hy]; exact pl.isList
  refine sum_intListG (I.ok.hd hc) hl fun h' tk t' hk => ?_
  have e1 : is = ys.toList.map (·.1) := by
    rw [← nums_intItems, ← hy]
    exact hi.numsOf.symm
  have e2 : preSum (numAt ys) ys.size = is.sum := by
    rw [preSum_eq, List.take_of_length_le (by simp), e1]
  rw [e2]
  exact ⟨.int is.sum, H, I.kept hk, ⟨_, rfl⟩, q⟩
end
section
variable {X : Cx} {elt iter : Expr} {x y : Str} {px py pos spos : Pos} {ifs : List Expr} {scope : Scope} {wi : TI} {tt : TT} {te : TE}
theorem eComp (N' : List Str) (js : List Nat) (hi : Il X (.Name x px) iter wi)
    (ht : ∀ (cl : List (Str × Addr)) (C : Addr) (ex : List Addr) (pins : List (Addr × Obj)) (s : Shared) (H : Hp), Fs (compCx X (x :: N') scope cl C ex pins s H) ifs tt)
    (he : ∀ (cl : List (Str × Addr)) (C : Addr) (ex : List Addr) (pins : List (Addr × Obj)) (s : Shared) (H : Hp), E (compCx X (x :: N') scope cl C ex pins s H) elt te)
    (hcl : ∃ cl, Clos X scope cl := by exact clos_of rfl rfl rfl rfl) (hx : scope.names.lookup x = some .local := by rfl) (hnd : (x :: N').Nodup := by decide +kernel) (hN : js.map (fun j => X.N[j]?) = N'.map some := by rfl)
    (hk : N'.all (fun y => (X.env.kindOf y == some .cell) || (X.env.kindOf y == some .free)) = true := by rfl) (hf : N'.all (fun y => scope.names.lookup y == some .free) = true := by rfl) (hc : X.calm = true := by rfl)
    (hs : ∀ x, foldedSetIterable iter X.env x = pure x := by intro _; rfl) : E X (.ListComp elt [⟨.Name x px, iter, ifs, 0⟩] scope pos) (tComp wi js tt te) := by
  obtain ⟨cl, hcl⟩ := hcl
  exact ⟨pe_comp hcl hx hnd hN hk hf hc hi.h (fun C ex pins s H => (ht cl C ex pins s H).h) (fun C ex pins s H => (he cl C ex pins s H).h) hs⟩
/-- y = [..]: the stores are exchanged -/
theorem sComp (i : Nat) (N' : List Str) (js : List Nat) (hi : Il X (.Name x px) iter wi)
    (ht : ∀ (cl : List (Str × Addr)) (C : Addr) (ex : List Addr) (pins : List (Addr × Obj)) (s : Shared) (H : Hp), Fs (compCx X (x :: N') scope cl C ex pins s H) ifs tt)
    (he : ∀ (cl : List (Str × Addr)) (C : Addr) (ex : List Addr) (pins : List (Addr × Obj)) (s : Shared) (H : Hp), E (compCx X (x :: N') scope cl C ex pins s H) elt te)
    (hXN : X.N.Nodup) (hsw : swapsWith (.ListComp elt [⟨.Name x px, iter, ifs, 0⟩] scope pos) (some (.Name y py)) spos.line X.env = pure true := by rfl)
    (hiN : X.N[i]? = some y := by rfl) (hy : X.env.scope.names.lookup y = some .local := by rfl)
    (hcl : ∃ cl, Clos X scope cl := by exact clos_of rfl rfl rfl rfl) (hx : scope.names.lookup x = some .local := by rfl) (hnd : (x :: N').Nodup := by decide +kernel) (hN : js.map (fun j => X.N[j]?) = N'.map some := by rfl)
    (hk : N'.all (fun y => (X.env.kindOf y == some .cell) || (X.env.kindOf y == some .free)) = true := by rfl) (hf : N'.all (fun y => scope.names.lookup y == some .free) = true := by rfl) (hc : X.calm = true := by rfl)
    (hs : ∀ x, foldedSetIterable iter X.env x = pure x := by intro _; rfl) : S X (.Assign [.Name y py] (.ListComp elt [⟨.Name x px, iter, ifs, 0⟩] scope pos) spos) (tAsg (tComp wi js tt te) (gName i)) := by
  obtain ⟨cl, hcl⟩ := hcl
  refine ⟨fun pins s σ H D I h => ?_⟩
  rw [exec_Assign_Name_used _ _ _ _ hsw]
  refine wpAny_bind (wpAny_standAt (wpAny_bind ?_))
  show wpAny _ X.A (do let _ ← comprehension (.ListComp elt [⟨.Name x px, iter, ifs, 0⟩] scope pos) scope X.env _ (newList []) false (eval iter X.env) (some (assign (.Name y py) X.env))) _ _ s
  refine wpAny_bind (wpAny_mono (wpAny_comprehension_free (use := some (assign (.Name y py) X.env)) (Q := fun _ s' => SP X pins D .next s') rfl hs hcl.is hcl.kind hcl.names ?_) (fun _ s' hq => wpAny_pure (wpAny_pure hq)) fun _ _ z => z)
  refine thn (hi.h pins s σ H _ I h) fun xv s₁ h₁ => thn h₁ fun itv s₂ h₂ => ?_
  obtain ⟨it, fp, tn, J, H2, rfl, I2, T, st, hfp, q⟩ := h₂
  refine comp_block (Q := fun v H' => D.nx (σ.set i (some v)) H') (RR := fun acc C => compPost (model X.prog X.w) X.A X.xe (some (assign (.Name y py) X.env)) (fun _ s' => SP X pins D .next s') acc C) hcl hx hnd hN hk hf hc (fun C ex pins s H => (ht cl C ex pins s H).h) (fun C ex pins s H => (he cl C ex pins s H).h) I2 T st hfp q ?_
  intro D' C s' H' m I' hC0 hCL hCs hCc hCp hn hq
  show wpAny _ _ (assign (.Name y py) X.env (.ref D')) _ _ s'
  refine wpAny_assign_Name (store_ok2 I' hXN hiN (.inl hy) (v := .ref D') rfl (fun s3 I3 sb3 => ?_) (.inr hy))
  obtain ⟨a3, sb3, e3⟩ := sb3
  have hCa : C ≠ a3 := by
    rcases e3 with e3 | e3
    · rw [e3]; exact hCL
    · exact fun z => hCc y a3 e3 z.symm
  refine ⟨m, hn.sameBut sb3 hCa, fun h' sb => ⟨σ.set i (some (.ref D')), H', ?_, hq⟩⟩
  exact I3.turned (t' := s3.toks) (fun b o hb e => (sb.2 b hb).trans e) hC0 hCL (.inr hCs) hCc hCp
theorem fsN : Fs X [] tYes := ⟨pf_nil⟩
theorem cSum (hc : X.calm = true := by rfl) : Cl1 X (.builtin "sum") (fun xs H Q => ∃ (p : Addr) (is : List Int), xs = [.ref p] ∧ SqL X.K H p (is.map V.int) ∧ Q (.int is.sum) H) := ⟨call_sumI hc⟩
theorem gTu {es : List Expr} {k n : Nat} {t : TGs} (h : Gts X es t) (hc : X.calm = true := by rfl) (hn : (assignEach es X.env).length = n := by rfl) (hst : (assignEach es X.env).findIdx? (·.1) = none := by rfl) : Gt X (.Tuple es k pos) (gTup X.K n t) := ⟨pg_tup hc h.h hn hst⟩
theorem gsN : Gts X [] gNil := ⟨pgs_nil⟩
theorem gsC {e : Expr} {es : List Expr} {t : TG} {u : TGs} (h1 : Gt X e t) (h2 : Gts X es u) (hs : (assignEach (e :: es) X.env).map (·.2) = assign e X.env :: (assignEach es X.env).map (·.2) := by rfl) : Gts X (e :: es) (gCons t u) := ⟨pgs_cons h1.h h2.h hs⟩
theorem sAsg {tg e : Expr} {g : TG} (he : E X e te) (hg : Gt X tg g) (hs : swapsWithSole [tg] e pos.line X.env = pure false := by rfl) (hw : swappedStores [tg] e X.env = pure none := by rfl)
    (h1 : (assignEach [tg] X.env).map (·.2) = [assign tg X.env] := by rfl) : S X (.Assign [tg] e pos) (tAsg te g) := ⟨ps_asg he.h hg.h hs hw h1⟩
end
end L2
namespace L2
open PySem PySem.Spec PyProof.Rows
section
variable {js : List Nat} {σ : St} {tt : TT} {te : TE} {Q : VK} {H1 : Hp}
/-- a list of ints, whichever -/
def IntsR (i : Nat) (l : List V) : Prop := ∃ zs : List Int, l = zs.map V.int ∧ zs.length ≤ i
theorem IntsR.nil : IntsR 0 [] := ⟨[], rfl, Nat.le_refl _⟩
theorem IntsR.one {i : Nat} {l : List V} (h : IntsR i l) (z : Int) : IntsR (i + 1) (l ++ [.int z]) := by
  obtain ⟨zs, rfl, hl⟩ := h
  exact ⟨zs ++ [z], by rw [List.map_append]; rfl, by rw [List.length_append, List.length_singleton]; omega⟩
theorem Same.tup {K : PySem.W.Frag} {H H' : Hp} {a : Addr} {xs : List V} (e : Same H H') (h : SqT K H a xs) : SqT K H' a xs := by
  rcases h with (h | ⟨o, h⟩) | h
  · exact .inl (.inl (e _ _ h))
  · exact .inl (.inr ⟨o, e _ _ h⟩)
  · exact .inr h
/-- the list of a function's values at 0 .. n - 1 -/
theorem mapR_succ {α : Type} (f : Nat → α) (n : Nat) : (List.range (n + 1)).map f = (List.range n).map f ++ [f n] := by rw [List.range_succ, List.map_append]; rfl
theorem oNeg {X : Cx} : Op1 X (unaryOp .USub) (rU fun i => .int (-i)) := ⟨un_neg⟩
end
end L2

namespace L2
open PySem PySem.Spec PyProof.Rows
/-! ### a, b = a list; xs.append(e); turns over a tuple -/
section
variable {prog : Program} {w : World} {A : Around} {E : Value → Shared → Prop} {s : Shared}
end
section
variable {X : Cx} {pos : Pos}
end
section
variable {js : List Nat} {σ : St} {tt : TT} {te : TE} {Q : VK} {H1 : Hp}
end
/-- digits and their sizes -/
def Digs (ds ss : List Int) : Prop := Paired (fun d z : Int => 0 ≤ d ∧ d < z) ds ss
theorem Digs.snoc {ds ss : List Int} {d z : Int} (h : Digs ds ss) (h0 : 0 ≤ d) (h1 : d < z) : Digs (ds ++ [d]) (ss ++ [z]) := Paired.snoc h ⟨h0, h1⟩
theorem Digs.len {ds ss : List Int} (h : Digs ds ss) : ds.length = ss.length := Paired.length h
theorem Digs.two {ds : List Int} {a b : Int} (h : Digs ds [a, b]) : ∃ x y : Int, ds = [x, y] ∧ (0 ≤ x ∧ x < a) ∧ 0 ≤ y ∧ y < b := by
  cases h with
  | cons h1 r => cases r with | cons h2 r => cases r; exact ⟨_, _, rfl, h1, h2⟩
end L2
namespace L2
open PySem PySem.Spec PyProof.Rows
theorem same_upd {H H2 : Hp} {p : Addr} {o : HO} (hn : H p = none) (s : Same H H2) : Same H (upd H2 p o) := fun b u h => by
  rw [upd_ne (ne_of_none h hn)]
  exact s b u h
end L2

namespace L2
open PySem PySem.Spec PyProof.Rows
/-! ### own classes: C(..), C() without __init__, o.m(..), o.f, o.f = e -/
structure FnM (K : PySem.W.Frag) (C : Addr) (m qual : Str) (st : Stmt) (ps : List Str) : Prop where
  ex : ∃ (f : Addr) (fd : FuncData), Fun K m qual st f fd ∧ Binds K fd ps [] ∧ Meth K C m f
structure DfM (P : Program) (w : World) (K : PySem.W.Frag) (mg : Str → Option Value) (base : Heap) (C : Addr) (m : Str) (k : Nat) (ps : List Str) (sp : Sp) : Prop where
  ex : ∃ (f : Addr) (fd : FuncData), FnOk P w K mg base CX0 k f fd ps sp ∧ Binds K fd ps [] ∧ Meth K C m f
/-- a class by its name: as it is made -/
structure Cd (K : PySem.W.Frag) (mg : Str → Option Value) (x : Str) (C : Addr) : Prop where
  at_ : mg x = some (.ref C)
  cl : Cls K C
  makes : PySem.W.makesIn K C = true
  kp : PySem.W.keepIn K (.ref C) = true
section
variable {P : Program} {w : World} {K : PySem.W.Frag} {mg : Str → Option Value} {base : Heap} {m qual : Str} {st : Stmt} {ps N : List Str} {k : Nat} {sp : Sp} {C : Addr}
theorem FnM.dfs (F : FnM K C m qual st ps) (S' : FnScope N ps (defScope st)) (len : ∀ vs H Q E, sp vs H Q E → vs.length = ps.length)
    (hbody : ∀ (f : Addr) (cdv : Value) (A : Around) (outer : List Env) (s : Shared) (H : Hp) (vs : List V) (Q : VK) (E : XK), Room k (A.deeper (envOfC qual (defScope st) s.heap.objs.size f cdv)) → sp vs H Q E →
      ∃ t, Ss (cxOf CX0 P w K mg base N qual (defScope st) f cdv A outer s H E).nox (defBody st) t ∧ t { nx := fun _ H' => Q .non H', rt := Q } (start N vs) H) : DfM P w K mg base C m (k + 1) ps sp := by
  obtain ⟨f, fd, F1, hb, hm⟩ := F.ex
  refine ⟨⟨f, fd, F1.ok S' len fun cdv A outer s H vs Q E hr h => ?_, hb, hm⟩⟩
  obtain ⟨t, h1, h2⟩ := hbody f cdv A outer s H vs Q E hr h
  exact ⟨t, h1.h, h2⟩
end
section
variable {X : Cx} {x m : Str} {C : Addr} {k k' : Nat} {ps : List Str} {sp : Sp} {e o value : Expr} {es : List Expr} {ta tv : TE} {t : TA} {p pos apos pos' : Pos} {f : Str}
end
end L2
namespace L2
open PySem PySem.Spec PyProof.Rows
/-! ### slices of lists -/
structure Po (X : Cx) (o : Option Expr) (t : TO) : Prop where
  h : PO X o t
structure Sls (X : Cx) (r : V → Option Int → Option Int → Hp → VK → Prop) : Prop where
  h : SlR X r
section
variable {X : Cx} {e : Expr} {te : TE} {lo hi : Option Expr} {tl th : TO} {pos p2 : Pos}
theorem poN : Po X none tNoPart := ⟨po_none⟩
theorem poS (h : E X e te) : Po X (some e) (tPart te) := ⟨po_some h.h⟩
theorem eSl {r : V → Option Int → Option Int → Hp → VK → Prop} (hr : Sls X r) (he : E X e te) (hl : Po X lo tl) (hu : Po X hi th) : E X (.Subscript e (.Slice lo hi none p2) pos) (tSl r te tl th) := ⟨pe_slice hr.h he.h hl.h hu.h⟩
end
end L2
namespace L2
open PySem PySem.Spec PyProof.Rows
/-! ### a method with defaults -/
structure FunD (K : PySem.W.Frag) (x qual : Str) (st : Stmt) (f : Addr) (fd : FuncData) : Prop where
  ex : ∃ (oc : Value) (od : Option Addr) (dV kV doc pm : Value) (an : Option Addr) (cdv ct : Value) (osl : Array (Option Value)),
    fd = PySem.W.fnOf x qual (defArgs st) (defBody st) (defScope st) dV kV doc pm an cdv ct ∧ K.lookup f = some ⟨oc, od, .func fd, osl⟩ ∧ PySem.W.codeIn K cdv qual = true
  kp : PySem.W.keepIn K (.ref f) = true
structure FnMD (K : PySem.W.Frag) (C : Addr) (m qual : Str) (st : Stmt) (ps : List Str) (dvs : List V) : Prop where
  ex : ∃ (f : Addr) (fd : FuncData) (ds : List Value), FunD K m qual st f fd ∧ Binds K fd ps [] ∧ Vals dvs ds ∧ Binds K fd ps ds ∧ Meth K C m f
structure DfMD (P : Program) (w : World) (K : PySem.W.Frag) (mg : Str → Option Value) (base : Heap) (C : Addr) (m : Str) (k : Nat) (ps : List Str) (sp : Sp) (dvs : List V) : Prop where
  ex : ∃ (f : Addr) (fd : FuncData) (ds : List Value), FnOk P w K mg base CX0 k f fd ps sp ∧ Binds K fd ps [] ∧ Vals dvs ds ∧ Binds K fd ps ds ∧ Meth K C m f
section
variable {P : Program} {w : World} {K : PySem.W.Frag} {mg : Str → Option Value} {base : Heap} {m qual : Str} {st : Stmt} {ps N : List Str} {k : Nat} {sp : Sp} {C : Addr} {dvs : List V}
theorem FnMD.dfs (F : FnMD K C m qual st ps dvs) (S' : FnScope N ps (defScope st)) (len : ∀ vs H Q E, sp vs H Q E → vs.length = ps.length)
    (hbody : ∀ (f : Addr) (cdv : Value) (A : Around) (outer : List Env) (s : Shared) (H : Hp) (vs : List V) (Q : VK) (E : XK), Room k (A.deeper (envOfC qual (defScope st) s.heap.objs.size f cdv)) → sp vs H Q E →
      ∃ t, Ss (cxOf CX0 P w K mg base N qual (defScope st) f cdv A outer s H E).nox (defBody st) t ∧ t { nx := fun _ H' => Q .non H', rt := Q } (start N vs) H) : DfMD P w K mg base C m (k + 1) ps sp dvs := by
  obtain ⟨f, fd, ds, F1, hb, hv, hbd, hm⟩ := F.ex
  refine ⟨⟨f, fd, ds, ?_, hb, hv, hbd, hm⟩⟩
  obtain ⟨oc, od, dV, kV, doc, pm, an, cdv, ct, osl, rfl, lk, hcd⟩ := F1.ex
  refine fn_of lk hcd S' len fun A outer s H vs Q E hr hsp => ?_
  obtain ⟨t, h, q⟩ := hbody f cdv A outer s H vs Q E hr hsp
  exact ⟨t, h.h.nox, q⟩
end
section
variable {X : Cx} {x : Str} {C : Addr} {k k' : Nat} {ps : List Str} {sp : Sp} {p pos : Pos} {dvs : List V}
end
end L2
namespace L2
open PySem PySem.Spec PyProof.Rows
end L2

namespace L2
open PySem PyProof.Rows
/-! ### masks: whole numbers as sets -/
def cntR (p : Nat → Bool) : Nat → Nat
  | 0 => 0
  | n + 1 => cntR p n + (if p n = true then 2 ^ n else 0)
@[irreducible] def cnt (p : Nat → Bool) (n : Nat) : Nat := cntR p n
/-- is the number in the mask? -/
def tb (m : Int) (i : Nat) : Bool := m.toNat.testBit i
/-- the mask of the numbers below n that p tells -/
@[irreducible] def mk_ (p : Nat → Bool) (n : Nat) : Int := (cnt p n : Nat)
/-! ### lists of the numbers of a set -/
def fltR (p : Nat → Bool) (lo : Int) : Nat → List Int
  | 0 => []
  | n + 1 => fltR p lo n ++ (if p n = true then [lo + (n : Int)] else [])
@[irreducible] def flt (p : Nat → Bool) (lo : Int) (n : Nat) : List Int := fltR p lo n
end L2
namespace L2
open PySem PyProof.Rows
end L2

namespace L2
open PySem PySem.Spec PyProof.Rows
/-! ### ranges of any length and step -/
def Its (lo st : Int) (n : Nat) : It := ⟨fun i _ => i < n, fun i H x H' => H' = H ∧ x = .int (lo + i * st), fun i _ => n ≤ i⟩
theorem turn_rangeS {P : Program} {w : World} {K : PySem.W.Frag} {tg : Expr} (it : Addr) (lo st : Int) (n : Nat) : Turn P w K tg (Its lo st n) [it] it (fun i h => IsRangeIter h it (lo + (i : Nat) * st) ((n : Int) - (i : Nat)) st) where
  mem := by simp
  obj := fun i h st b hb => by
    have e : b = it := by simpa using hb
    subst e
    exact ⟨_, st, fun v z => by
      have z' : Data.fields _ = Data.cell v := z
      cases z'⟩
  keep := fun i h h' st k => k it (by simp) _ st
  item := by
    intro X hP hw hK hc i pins s σ H E I hf hst hg
    subst hP hw hK
    obtain ⟨f0, f1, f2, f3, f4, f5⟩ := hf it (by simp)
    have W := Walks.range (prog := X.prog) (w := X.w) (I.ok.hd hc) it lo st n
    refine W.item i s _ _ hg hst fun v h' tk hv st' kk => ?_
    obtain ⟨t, rfl⟩ := hv
    have I1 : Inv X pins σ H { s with heap := h', toks := tk } := I.turned (fun b o hb e => kk b o (by simpa using hb) e) f0 f1 f3 f4 f5
    exact ⟨_, rfl, go_of (s := { s with heap := h', toks := tk }) (n := "range_iterator") st' rfl rfl (by decide) ⟨.int (lo + i * st), H, I1, ⟨t, rfl⟩, ⟨rfl, rfl⟩, st', fun b hb => (hf b hb).1⟩⟩
  done := by
    intro X hP hw hK hc i pins s σ H E I hf st hg
    subst hP hw hK
    obtain ⟨f0, f1, f2, f3, f4, f5⟩ := hf it (by simp)
    exact wpAny_pyNext_range_end (I.ok.hd hc) st (by have : n ≤ i := hg; omega) fun h' eb => ⟨rfl, I.turned (t' := s.toks) (fun b o hb e => eb b o hb e) f0 f1 f3 f4 f5⟩
  self := fun _ _ _ _ _ st h => wpAny_pyIter_rangeiter st h
theorem turn_longS {P : Program} {w : World} {K : PySem.W.Frag} {tg : Expr} (it : Addr) (lo st : Int) (n : Nat) : Turn P w K tg (Its lo st n) [it] it (fun i h => IsLongIter h it (lo + (i : Nat) * st) ((n : Int) - (i : Nat)) st) where
  mem := by simp
  obj := fun i h st b hb => by
    have e : b = it := by simpa using hb
    subst e
    exact ⟨_, st, fun v z => by
      have z' : Data.fields _ = Data.cell v := z
      cases z'⟩
  keep := fun i h h' st k => k it (by simp) _ st
  item := by
    intro X hP hw hK hc i pins s σ H E I hf hst hg
    subst hP hw hK
    obtain ⟨f0, f1, f2, f3, f4, f5⟩ := hf it (by simp)
    have W := Walks.longrange (prog := X.prog) (w := X.w) (I.ok.hd hc) it lo st n
    refine W.item i s _ _ hg hst fun v h' tk hv st' kk => ?_
    obtain ⟨t, rfl⟩ := hv
    have I1 : Inv X pins σ H { s with heap := h', toks := tk } := I.turned (fun b o hb e => kk b o (by simpa using hb) e) f0 f1 f3 f4 f5
    exact ⟨_, rfl, go_of (s := { s with heap := h', toks := tk }) (n := "longrange_iterator") st' rfl rfl (by decide) ⟨.int (lo + i * st), H, I1, ⟨t, rfl⟩, ⟨rfl, rfl⟩, st', fun b hb => (hf b hb).1⟩⟩
  done := by
    intro X hP hw hK hc i pins s σ H E I hf st hg
    subst hP hw hK
    obtain ⟨f0, f1, f2, f3, f4, f5⟩ := hf it (by simp)
    exact wpAny_pyNext_long_end (I.ok.hd hc) st (by have : n ≤ i := hg; omega) fun h' eb => ⟨rfl, I.turned (t' := s.toks) (fun b o hb e => eb b o hb e) f0 f1 f3 f4 f5⟩
  self := fun _ _ _ _ _ st h => wpAny_pyIter_longiter st h
section
variable {X : Cx} {tg : Expr}
theorem range_itS {pins : List (Addr × Obj)} {σ : St} {H : Hp} {s : Shared} {R : It → Hp → Prop} {E : Value → Shared → Prop} {lo hi st : Int} {n : Nat} {t u v : Tok} {tk : Nat} (I : Inv X pins σ H s) (hn : Builtin.Range.rangeSize lo hi st = (n : Int))
    (q : R (Its lo st n) H) : wpAny (model X.prog X.w) X.A (pyIter (.ref s.heap.objs.size)) (PIE X pins σ tg R) E { s with heap := s.heap.push { cls := .type "range", data := .fields #[.int lo t, .int hi u, .int st v] }, toks := tk } := by
  have I1 : Inv X pins σ H { s with heap := s.heap.push { cls := .type "range", data := .fields #[.int lo t, .int hi u, .int st v] }, toks := tk } := I.kept fun b o e => Heap.get?_push_of_some _ e
  have e1 : lo + ((0 : Nat) : Int) * st = lo := by simp
  have e2 : ((n : Nat) : Int) - ((0 : Nat) : Int) = Builtin.Range.rangeSize lo hi st := by rw [hn]; simp
  by_cases hsm : Builtin.Range.small lo hi st = true
  · refine wpAny_pyIter_range (IsRange.new ..) hsm ?_
    refine ⟨(s.heap.push { cls := .type "range", data := .fields #[.int lo t, .int hi u, .int st v] }).objs.size, [(s.heap.push { cls := .type "range", data := .fields #[.int lo t, .int hi u, .int st v] }).objs.size], _, _, H, rfl,
      I1.kept (t' := tk) fun b o e => Heap.get?_push_of_some _ e, turn_rangeS _ lo st n, ?_, fun b hb => ?_, q⟩
    · show IsRangeIter _ _ (lo + ((0 : Nat) : Int) * st) (((n : Nat) : Int) - ((0 : Nat) : Int)) st
      rw [e1, e2]
      exact Heap.get?_push_size _ rfl
    · have e : b = (s.heap.push { cls := .type "range", data := .fields #[.int lo t, .int hi u, .int st v] }).objs.size := by simpa using hb
      subst e
      exact I1.fpOk (Nat.le_refl _) (I1.hok.fresh (Nat.le_refl _))
  · refine wpAny_pyIter_longrange (IsRange.new ..) (by simpa using hsm) ?_
    refine ⟨(s.heap.push { cls := .type "range", data := .fields #[.int lo t, .int hi u, .int st v] }).objs.size, [(s.heap.push { cls := .type "range", data := .fields #[.int lo t, .int hi u, .int st v] }).objs.size], _, _, H, rfl,
      I1.kept (t' := tk) fun b o e => Heap.get?_push_of_some _ e, turn_longS _ lo st n, ?_, fun b hb => ?_, q⟩
    · show IsLongIter _ _ (lo + ((0 : Nat) : Int) * st) (((n : Nat) : Int) - ((0 : Nat) : Int)) st
      rw [e1, e2]
      exact Heap.get?_push_size _ rfl
    · have e : b = (s.heap.push { cls := .type "range", data := .fields #[.int lo t, .int hi u, .int st v] }).objs.size := by simpa using hb
      subst e
      exact I1.fpOk (Nat.le_refl _) (I1.hok.fresh (Nat.le_refl _))
theorem size_nn {a b c : Int} (hc : 0 < c) : 0 ≤ Builtin.Range.rangeSize a b c := by
  unfold Builtin.Range.rangeSize
  rw [if_pos hc]
  split
  · have : 0 ≤ (b - a - 1) / c := Int.ediv_nonneg (by omega) (by omega)
    omega
  · exact Int.le_refl 0
def iRng3 (ta : TA) : TI := fun σ H R => ta σ H fun vs H1 => ∃ i j c : Int, vs = [.int i, .int j, .int c] ∧ (0 < c ∧ c < 1073741824) ∧ R (Its i c (Builtin.Range.rangeSize i j c).toNat) H1
theorem pi_range3 {a b c : Expr} {ta : TA} {p pos : Pos} (hg : Gl X "range") (hm : X.mg "range" = none) (ha : PA X [a, b, c] ta) (hs : starEach [a, b, c] X.env = [(false, eval a X.env), (false, eval b X.env), (false, eval c X.env)] := by rfl) (hs2 : starEach [b, c] X.env = [(false, eval b X.env), (false, eval c X.env)] := by rfl) :
    PI X tg (.Call (.Name "range" p) [a, b, c] [] pos) (iRng3 ta) := by
  intro pins s σ H R I h
  refine Call_ (ld_blt I hg hm boot_range (PyProof.Rows.callWith_type1 (thn (ha pos pins s σ H _ I h) fun us s1 ⟨vs, H1, I1, r1, q1⟩ => ?_) (by rw [hs, hs2]) (by rw [hs2]; rfl)))
  obtain ⟨i, j, k, e, ⟨k0, k1⟩, q⟩ := q1
  subst e
  cases r1 with
  | cons r rr =>
    cases rr with
    | cons r' rr =>
      cases rr with
      | cons r'' rr =>
        cases rr
        obtain ⟨t, rfl⟩ := r
        obtain ⟨t', rfl⟩ := r'
        obtain ⟨t'', rfl⟩ := r''
        have hz := size_nn (a := i) (b := j) k0
        exact call_range_3 (Int.ne_of_gt k0) (range_itS I1 (n := (Builtin.Range.rangeSize i j k).toNat) (by omega) q) (.inl (PyProof.noPylong_small (by omega)))
theorem iR3 {a b c : Expr} {ta : TA} {p pos : Pos} (hm : X.mg "range" = none) (ha : As X [a, b, c] ta) (hg : Gl X "range" := by rfl) (hs : starEach [a, b, c] X.env = [(false, eval a X.env), (false, eval b X.env), (false, eval c X.env)] := by rfl) (hs2 : starEach [b, c] X.env = [(false, eval b X.env), (false, eval c X.env)] := by rfl) :
    Il X tg (.Call (.Name "range" p) [a, b, c] [] pos) (iRng3 ta) := ⟨pi_range3 hg hm ha.h hs hs2⟩
end
theorem for_rangeS {lo st : Int} {n : Nat} {g : TG} {tb : TS} {D : Ends} {σ : St} {H : Hp} (Pv : Nat → St → Hp → Prop) (h0 : Pv 0 σ H)
    (hs : ∀ i σ H, i < n → Pv i σ H → g (.int (lo + i * st)) σ H fun σ2 H2 => tb { D with nx := Pv (i + 1), ct := Pv (i + 1), bk := D.nx } σ2 H2) (hd : ∀ σ H, Pv n σ H → D.nx σ H) :
    ∃ W : Nat → Nat → St → Hp → Prop, (∃ m, W 0 m σ H) ∧ ∀ i m σ H, W i m σ H →
      ((Its lo st n).stop i H ∧ D.nx σ H) ∨ ((Its lo st n).go i H ∧ ∃ N : St → Hp → Prop, (∀ σ' H', N σ' H' → ∃ m', m' < m ∧ W (i + 1) m' σ' H') ∧ ∀ x H', (Its lo st n).yld i H x H' → g x σ H' fun σ2 H2 => tb { D with nx := N, ct := N, bk := D.nx } σ2 H2) := by
  refine ⟨fun i m σ H => m = n - i ∧ i ≤ n ∧ Pv i σ H, ⟨n, by simp, Nat.zero_le _, h0⟩, ?_⟩
  rintro i m σ H ⟨rfl, hi, p⟩
  by_cases hlt : i < n
  · refine .inr ⟨hlt, Pv (i + 1), fun σ' H' p' => ⟨n - (i + 1), by omega, rfl, hlt, p'⟩, fun x H' y => ?_⟩
    obtain ⟨e, y⟩ := y
    subst e y
    exact hs i σ _ hlt p
  · have e : i = n := by omega
    subst e
    exact .inl ⟨Nat.le_refl _, hd σ H p⟩
/-! ### a range as a thing; list(range(..)) -/
section
variable {X : Cx}
/-! ### bit_length -/
theorem cLst : Cl1 X (.type "list") (fun xs H Q => ∃ p ys, xs = [.ref p] ∧ (SqL X.K H p ys ∨ SqT X.K H p ys) ∧ ∀ l, H l = none → Q (.ref l) (upd H l (.lst ys))) := ⟨call_list_of⟩
end
end L2
namespace L2
open PySem PySem.Spec PyProof.Rows
/-! ### comprehensions whose items lie on the heap -/
theorem Same.none {H H' : Hp} {D : Addr} (s : Same H H') (h : H' D = none) : H D = none := by
  cases e : H D with
  | none => rfl
  | some o => exact absurd (h.symm.trans (s _ _ e)) (by simp)
def Keep (H H' : Hp) : Prop := ∀ b o, (∀ xs, o ≠ .lst xs) → H b = some o → H' b = some o
theorem Same.keep {H H' : Hp} (s : Same H H') : Keep H H' := fun b o _ h => s b o h
theorem Keep.trans {H H1 H2 : Hp} (a : Keep H H1) (b : Keep H1 H2) : Keep H H2 := fun c o n h => b c o n (a c o n h)
theorem Keep.tup {H H' : Hp} (k : Keep H H') {b : Addr} {xs : List V} (h : H b = some (.tup xs)) : H' b = some (.tup xs) := k b _ (fun _ z => nomatch z) h
theorem Keep.ins {H H' : Hp} (k : Keep H H') {b C dx : Addr} {fs : List (Str × V)} (h : H b = some (.ins C dx fs)) : H' b = some (.ins C dx fs) := k b _ (fun _ z => nomatch z) h
section
variable {js : List Nat} {σ : St} {tt : TT} {te : TE} {Q : VK} {H1 : Hp}
end
end L2
namespace L2
open PySem PySem.Spec PyProof.Rows
/-! ### the rules that name K, for blocks of comprehensions -/
section
variable {X : Cx} {K : PySem.W.Frag}
end
end L2

namespace L2
open PySem PySem.Spec PyProof.Rows
/-! ### isinstance of plain values -/
inductive Kd where
  | int | bool | str | non | list | tuple | dict
def Kd.nm : Kd → String
  | .int => "int" | .bool => "bool" | .str => "str" | .non => "NoneType" | .list => "list" | .tuple => "tuple" | .dict => "dict"
def Kd.isa : Kd → Kd → Bool
  | .int, .int => true | .bool, .int => true | .bool, .bool => true | .str, .str => true | .list, .list => true | .tuple, .tuple => true | .dict, .dict => true | _, _ => false
def KindV (K : PySem.W.Frag) (H : Hp) : V → Kd → Prop
  | .int _, k => k = .int
  | .bl _, k => k = .bool
  | .str _, k => k = .str
  | .non, k => k = .non
  | .ref a, k => (k = .list ∧ ∃ xs, SqL K H a xs) ∨ (k = .tuple ∧ ∃ xs, SqT K H a xs) ∨ (k = .dict ∧ ∃ kvs, H a = some (.dK kvs))
  | _, _ => False
theorem cIs {X : Cx} : Cl1 X (.builtin "isinstance") (fun xs H Q => ∃ (v : V) (n k : Kd), xs = [v, .ty n.nm] ∧ n.nm ≠ "NoneType" ∧ KindV X.K H v k ∧ Q (.bl (Kd.isa k n)) H) := by
  refine ⟨fun pins s σ H xs us Q I r h => ?_⟩
  obtain ⟨v, n, k, rfl, hn, hk, q⟩ := h
  obtain ⟨u, w', rfl, r1, r2⟩ := vals2 r
  cases r2
  have fin : ∀ tk, EP X pins σ Q (.bool (Kd.isa k n)) { s with toks := tk } := fun tk => ⟨.bl _, H, I.tok _, rfl, q⟩
  have fin0 : EP X pins σ Q (.bool (Kd.isa k n)) s := ⟨.bl _, H, I, rfl, q⟩
  cases v with
  | int i =>
    obtain ⟨t, rfl⟩ := r1
    cases (show k = Kd.int from hk)
    cases n with
    | int => exact PySem.IsiPair.int_int fin0
    | bool => exact PySem.IsiPair.int_bool (fin _)
    | str => exact PySem.IsiPair.int_str (fin _)
    | list => exact PySem.IsiPair.int_list (fin _)
    | tuple => exact PySem.IsiPair.int_tuple (fin _)
    | dict => exact PySem.IsiPair.int_dict (fin _)
    | non => exact absurd rfl hn
  | bl b =>
    cases r1
    cases (show k = Kd.bool from hk)
    cases n with
    | int => exact PySem.IsiPair.bool_int fin0
    | bool => exact PySem.IsiPair.bool_bool fin0
    | str => exact PySem.IsiPair.bool_str (fin _)
    | list => exact PySem.IsiPair.bool_list (fin _)
    | tuple => exact PySem.IsiPair.bool_tuple (fin _)
    | dict => exact PySem.IsiPair.bool_dict (fin _)
    | non => exact absurd rfl hn
  | str x =>
    obtain ⟨t, rfl⟩ := r1
    cases (show k = Kd.str from hk)
    cases n with
    | int => exact PySem.IsiPair.str_int (fin _)
    | bool => exact PySem.IsiPair.str_bool (fin _)
    | str => exact PySem.IsiPair.str_str fin0
    | list => exact PySem.IsiPair.str_list (fin _)
    | tuple => exact PySem.IsiPair.str_tuple (fin _)
    | dict => exact PySem.IsiPair.str_dict (fin _)
    | non => exact absurd rfl hn
  | non =>
    cases r1
    cases (show k = Kd.non from hk)
    cases n with
    | int => exact PySem.IsiPair.NoneType_int (fin _)
    | bool => exact PySem.IsiPair.NoneType_bool (fin _)
    | str => exact PySem.IsiPair.NoneType_str (fin _)
    | list => exact PySem.IsiPair.NoneType_list (fin _)
    | tuple => exact PySem.IsiPair.NoneType_tuple (fin _)
    | dict => exact PySem.IsiPair.NoneType_dict (fin _)
    | non => exact absurd rfl hn
  | ref a =>
    cases r1
    rcases hk with ⟨rfl, ys, hq⟩ | ⟨rfl, ys, hq⟩ | ⟨rfl, kvs, hq⟩
    · obtain ⟨its, rv, pl, _⟩ := I.list hq
      obtain ⟨o, ho, hc, _⟩ := pl.isList
      cases n with
      | int => exact PySem.IsiPair.list_int ho hc (fin _)
      | bool => exact PySem.IsiPair.list_bool ho hc (fin _)
      | str => exact PySem.IsiPair.list_str ho hc (fin _)
      | list => exact PySem.IsiPair.list_list ho hc fin0
      | tuple => exact PySem.IsiPair.list_tuple ho hc (fin _)
      | dict => exact PySem.IsiPair.list_dict ho hc (fin _)
      | non => exact absurd rfl hn
    · obtain ⟨its, rv, ⟨o, ho, hc, _⟩, _⟩ := I.tuple hq
      cases n with
      | int => exact PySem.IsiPair.tuple_int ho hc (fin _)
      | bool => exact PySem.IsiPair.tuple_bool ho hc (fin _)
      | str => exact PySem.IsiPair.tuple_str ho hc (fin _)
      | list => exact PySem.IsiPair.tuple_list ho hc (fin _)
      | tuple => exact PySem.IsiPair.tuple_tuple ho hc fin0
      | dict => exact PySem.IsiPair.tuple_dict ho hc (fin _)
      | non => exact absurd rfl hn
    · obtain ⟨_, _, _, _, o, _, _, ho, ex, _⟩ := I.hok a _ hq
      cases n with
      | int => exact PySem.IsiPair.dict_int ho ex.1 (fin _)
      | bool => exact PySem.IsiPair.dict_bool ho ex.1 (fin _)
      | str => exact PySem.IsiPair.dict_str ho ex.1 (fin _)
      | list => exact PySem.IsiPair.dict_list ho ex.1 (fin _)
      | tuple => exact PySem.IsiPair.dict_tuple ho ex.1 (fin _)
      | dict => exact PySem.IsiPair.dict_dict ho ex.1 fin0
      | non => exact absurd rfl hn
  | byt b => exact False.elim hk
  | flt b => exact False.elim hk
  | ty n => exact False.elim hk
end L2

namespace L2
open PySem PySem.Spec PyProof.Rows PySem.Builtin PySem.Builtin.Str
/-! ### texts as lists of their signs -/
abbrev Tx (l : List Nat) : Str := ⟨l.toArray⟩
theorem Tx_inj {a b : List Nat} : Tx a = Tx b ↔ a = b := ⟨fun h => by
  have : (Tx a).cps.toList = (Tx b).cps.toList := by rw [h]
  simpa using this, fun h => by rw [h]⟩
theorem Tx_of (x : Str) : Tx x.cps.toList = x := by cases x; simp
theorem Tx_len (a : List Nat) : (Tx a).length = a.length := by simp [Str.length]
/-! ### walking a text -/
def Itx (x : Str) : It := ⟨fun i _ => i < x.cps.size, fun i H v H' => H' = H ∧ ∃ c, x.cps[i]? = some c ∧ v = .str ⟨#[c]⟩, fun i _ => i = x.cps.size⟩
theorem turn_strA {P : Program} {w : World} {K : PySem.W.Frag} {tg : Expr} (x : Str) (t : Tok) (it : Addr) : Turn P w K tg (Itx x) [it] it (fun i h => h.IsStrIter it "str_ascii_iterator" x t i) where
  mem := by simp
  obj := fun i h st b hb => by
    have e : b = it := by simpa using hb
    subst e
    obtain ⟨o, e, c, d⟩ := st
    exact ⟨o, e, fun v z => by rw [d] at z; cases z⟩
  keep := fun i h h' st k => by
    obtain ⟨o, e, r⟩ := st
    exact ⟨o, k it (by simp) o e, r⟩
  item := by
    intro X hP hw hK hc i pins s σ H E I hf st hg
    subst hP hw hK
    obtain ⟨f0, f1, f2, f3, f4, f5⟩ := hf it (by simp)
    have hg : i < x.cps.size := hg
    refine wpAny_pyNext_ascii_item st (c := x.cps[i]) (by simp [hg]) fun h' st' sb => ?_
    have I1 : Inv X pins σ H { s with heap := h', toks := s.toks + 1 } := I.turned (fun b o hb e => sb.extBut b o hb e) f0 f1 f3 f4 f5
    obtain ⟨o, e, c, d⟩ := id st'
    exact ⟨_, rfl, go_of (s := { s with heap := h', toks := s.toks + 1 }) e c d (by decide) ⟨.str ⟨#[x.cps[i]]⟩, H, I1, ⟨_, rfl⟩, ⟨rfl, x.cps[i], by simp [hg], rfl⟩, st', fun b hb => (hf b hb).1⟩⟩
  done := by
    intro X hP hw hK hc i pins s σ H E I hf st hg
    subst hP hw hK
    obtain ⟨f0, f1, f2, f3, f4, f5⟩ := hf it (by simp)
    have hg : i = x.cps.size := hg
    exact wpAny_pyNext_ascii_end (I.ok.hd hc) st (by simp [hg]) fun h' eb => ⟨rfl, I.turned (t' := s.toks) (fun b o hb e => eb b o hb e) f0 f1 f3 f4 f5⟩
  self := fun _ _ _ _ _ st h => wpAny_pyIter_striter_ascii st h
theorem turn_strW {P : Program} {w : World} {K : PySem.W.Frag} {tg : Expr} (x : Str) (t : Tok) (it : Addr) : Turn P w K tg (Itx x) [it] it (fun i h => h.IsStrIter it "str_iterator" x t i) where
  mem := by simp
  obj := fun i h st b hb => by
    have e : b = it := by simpa using hb
    subst e
    obtain ⟨o, e, c, d⟩ := st
    exact ⟨o, e, fun v z => by rw [d] at z; cases z⟩
  keep := fun i h h' st k => by
    obtain ⟨o, e, r⟩ := st
    exact ⟨o, k it (by simp) o e, r⟩
  item := by
    intro X hP hw hK hc i pins s σ H E I hf st hg
    subst hP hw hK
    obtain ⟨f0, f1, f2, f3, f4, f5⟩ := hf it (by simp)
    have hg : i < x.cps.size := hg
    refine wpAny_pyNext_wide_item st (c := x.cps[i]) (by simp [hg]) fun h' st' sb => ?_
    have I1 : Inv X pins σ H { s with heap := h', toks := s.toks + 1 } := I.turned (fun b o hb e => sb.extBut b o hb e) f0 f1 f3 f4 f5
    obtain ⟨o, e, c, d⟩ := id st'
    exact ⟨_, rfl, go_of (s := { s with heap := h', toks := s.toks + 1 }) e c d (by decide) ⟨.str ⟨#[x.cps[i]]⟩, H, I1, ⟨_, rfl⟩, ⟨rfl, x.cps[i], by simp [hg], rfl⟩, st', fun b hb => (hf b hb).1⟩⟩
  done := by
    intro X hP hw hK hc i pins s σ H E I hf st hg
    subst hP hw hK
    obtain ⟨f0, f1, f2, f3, f4, f5⟩ := hf it (by simp)
    have hg : i = x.cps.size := hg
    exact wpAny_pyNext_wide_end (I.ok.hd hc) st (by simp [hg]) fun h' eb => ⟨rfl, I.turned (t' := s.toks) (fun b o hb e => eb b o hb e) f0 f1 f3 f4 f5⟩
  self := fun _ _ _ _ _ st h => wpAny_pyIter_striter_wide st h
section
variable {X : Cx} {tg : Expr}
def iTxt (tl : TE) : TI := fun σ H R => tl σ H fun x H1 => ∃ z, x = .str z ∧ R (Itx z) H1
theorem iX {l : Expr} {tl : TE} (hl : E X l tl) : Il X tg l (iTxt tl) := by
  refine ⟨fun pins s σ H R I h => ?_⟩
  refine thn (hl.h pins s σ H _ I h) fun u s1 ⟨x, H1, I1, r1, q1⟩ => ?_
  obtain ⟨z, rfl, q⟩ := q1
  obtain ⟨t, rfl⟩ := r1
  have fp : ∀ b ∈ [s1.heap.objs.size], FpOk X pins H1 b := fun b hb => by
    have e : b = s1.heap.objs.size := by simpa using hb
    subst e
    exact I1.fpOk (Nat.le_refl _) (I1.hok.fresh (Nat.le_refl _))
  cases ha : z.cps.all (· < 128)
  · exact wpAny_pyIter_wide ha ⟨s1.heap.objs.size, [s1.heap.objs.size], _, _, H1, rfl, I1.kept (t' := s1.toks) fun b o e => Heap.get?_push_of_some _ e, turn_strW z t _, ⟨_, Heap.get?_push_size _ rfl, rfl, rfl⟩, fp, q⟩
  · exact wpAny_pyIter_ascii ha ⟨s1.heap.objs.size, [s1.heap.objs.size], _, _, H1, rfl, I1.kept (t' := s1.toks) fun b o e => Heap.get?_push_of_some _ e, turn_strA z t _, ⟨_, Heap.get?_push_size _ rfl, rfl, rfl⟩, fp, q⟩
end
section
variable {js : List Nat} {σ : St} {tt : TT} {te : TE} {Q : VK} {H1 : Hp}
theorem comp_txt {xs : List Nat} (R : Nat → List V → Prop) (hn : xs.length ≤ sizeLine) (h0 : R 0 [])
    (hs : ∀ (i : Nat) (c : Nat) (l : List V) (D : Addr) (H2 : Hp) (E : V → Hp → Prop) (F : Hp → Prop), xs[i]? = some c → R i l → H1 D = none → Same H1 H2 → H2 D = some (.lst l) → (∀ y H5, Same H2 H5 → R (i + 1) (l ++ [y]) → E y H5) → (∀ H4, Same H2 H4 → R (i + 1) l → F H4) →
      tt (some (.str (Tx [c])) :: takes js σ) H2 fun b H4 => if b = true then te (some (.str (Tx [c])) :: takes js σ) H4 E else F H4)
    (hd : ∀ (D : Addr) (H2 : Hp) (l : List V), R xs.length l → H1 D = none → Same H1 H2 → H2 D = some (.lst l) → Q (.ref D) H2) : Turns (Itx (Tx xs)) js σ tt te Q H1 := by
  intro D hD
  have hz : (Tx xs).cps.size = xs.length := by simp
  refine ⟨fun i m H2 => m = xs.length - i ∧ i ≤ xs.length ∧ Same H1 H2 ∧ ∃ l, H2 D = some (.lst l) ∧ l.length ≤ i ∧ R i l, ⟨xs.length, by simp, Nat.zero_le _, same_new hD _, [], upd_same, Nat.le_refl _, h0⟩, ?_⟩
  rintro i m H2 ⟨rfl, hi, s2, l, h2, hll, hR⟩
  by_cases hlt : i < xs.length
  · refine .inr ⟨show i < (Tx xs).cps.size by rw [hz]; exact hlt, fun v H3 y => ?_⟩
    obtain ⟨e, c, ec, ev⟩ := y
    subst e ev
    refine hs i c l D _ _ _ (by simpa using ec) hR hD s2 h2 (fun z H5 s5 r5 => ?_) (fun H4 s4 r4 => ?_)
    · refine ⟨l, s5 _ _ h2, Nat.lt_of_le_of_lt hll (Nat.lt_of_lt_of_le hlt hn), xs.length - (i + 1), by omega, rfl, hlt, fun b o hb => ?_, l ++ [z], upd_same, by rw [List.length_append, List.length_singleton]; omega, r5⟩
      rw [upd_ne (ne_of_none hb hD)]
      exact s5 _ _ (s2 _ _ hb)
    · exact ⟨xs.length - (i + 1), by omega, rfl, hlt, s2.trans s4, l, s4 _ _ h2, by omega, r4⟩
  · have e : i = xs.length := by omega
    subst e
    exact .inl ⟨show xs.length = (Tx xs).cps.size by rw [hz], hd D H2 l hR hD s2 h2⟩
end
/-! ### all, any of a list of truths -/
section
variable {X : Cx}
theorem truth_bools {prog : Program} {w : World} {A : Around} {its : Array Value} {bs : List Bool} (r : Vals (bs.map V.bl) its.toList) : TruthOf prog w A (fun i v => its[i]? = some v) (fun i => bs.getD i false) := by
  intro i v s Q E hv hq
  have hv' : its.toList[i]? = some v := by rw [Array.getElem?_toList]; exact hv
  have hi : i < bs.length := by
    have h1 := r.length
    rw [List.length_map] at h1
    rcases Nat.lt_or_ge i its.toList.length with z | z
    · omega
    · rw [List.getElem?_eq_none z] at hv'; cases hv'
  obtain ⟨u, hu, ru⟩ := r.get (i := i) (x := V.bl bs[i]) (by rw [List.getElem?_map, List.getElem?_eq_getElem hi]; rfl)
  rw [hv'] at hu
  cases hu
  cases ru
  have e : bs.getD i false = bs[i] := by simp [List.getD, List.getElem?_eq_getElem hi]
  have hq : Q (bs.getD i false) s := hq
  rw [e] at hq
  exact wpAny_truthy_bool hq
theorem range_all (bs : List Bool) : (List.range bs.length).all (fun i => bs.getD i false) = bs.all id := by
  rw [Bool.eq_iff_iff, List.all_eq_true, List.all_eq_true]
  refine ⟨fun h b hb => ?_, fun h i hi => ?_⟩
  · obtain ⟨i, hi, e⟩ := List.getElem_of_mem hb
    have := h i (List.mem_range.mpr hi)
    rw [show bs.getD i false = bs[i] by simp [List.getD, List.getElem?_eq_getElem hi], e] at this
    exact this
  · have hi := List.mem_range.mp hi
    rw [show bs.getD i false = bs[i] by simp [List.getD, List.getElem?_eq_getElem hi]]
    exact h _ (List.getElem_mem hi)
theorem cAll (hc : X.calm = true := by rfl) : Cl1 X (.builtin "all") (fun xs H Q => ∃ (p : Addr) (bs : List Bool), xs = [.ref p] ∧ SqL X.K H p (bs.map V.bl) ∧ Q (.bl (bs.all id)) H) := by
  refine ⟨fun pins s σ H xs us Q I r h => ?_⟩
  obtain ⟨p, bs, rfl, hq, q⟩ := h
  obtain ⟨u, rfl, r1⟩ := vals1 r
  cases r1
  obtain ⟨its, rv, pl, hz⟩ := I.list hq
  have hne : p ≠ s.heap.objs.size := by
    obtain ⟨o, ho, _⟩ := pl.isList
    exact Nat.ne_of_lt (Heap.lt_size ho)
  refine call_all_walk (wpAny_pyIter_list pl.isList ⟨s.heap.objs.size, [s.heap.objs.size, p], [s.heap.objs.size], its.toArray.size, (fun i v => its.toArray[i]? = some v), (fun i h => h.IsListIter s.heap.objs.size p i ∧ h.IsList p its.toArray), (fun i => bs.getD i false), rfl, Walks.list (prog := X.prog) (w := X.w) (A := X.A.in1) (I.ok.hd hc) _ p hne its.toArray, ⟨⟨_, Heap.get?_push_size _ rfl, rfl, rfl⟩, pl.isList.push _⟩, truth_bools (by simpa using rv), fun h' tk hk => ?_⟩)
  have hl := rv.length
  rw [List.length_map] at hl
  have e : its.toArray.size = bs.length := by rw [List.size_toArray]; omega
  rw [e, range_all]
  exact ⟨.bl _, H, I.kept fun b o eb => hk b o (by simpa using Nat.ne_of_lt (Heap.lt_size eb)) (Heap.get?_push_of_some _ eb), rfl, q⟩
end
end L2

namespace L2
open PySem PySem.Spec PyProof.Rows PySem.Builtin PySem.Builtin.Str
/-! ### x in text, text.split(sign) -/
section
variable {prog : Program} {w : World} {A : Around} {E : Value → Shared → Prop} {s : Shared} {x y : Str} {t u : Tok} {Q : Value → Shared → Prop}
end
section
variable {X : Cx}
theorem oInX : Op2 X (compareOp .In) (fun x y H Q => ∃ (c : Nat) (l : List Nat), x = .str (Tx [c]) ∧ y = .str (Tx l) ∧ Q (.bl (decide (c ∈ l))) H) := by
  refine ⟨fun pins s σ H x y v u Q I rx ry h => ?_⟩
  obtain ⟨c, l, rfl, rfl, q⟩ := h
  refine op_in_str pins s σ H _ _ v u Q I rx ry ⟨_, _, rfl, rfl, ?_⟩
  rw [show (!(occurrences (Tx l) (Tx [c]) 0 (Tx l).length 1).isEmpty) = decide (c ∈ (Tx l).cps.toList) from StrLaws.found_one (Tx l) c]
  exact q
/-! ### str(int), int(text), len(text), +, texts by their signs -/
theorem cLenX : Cl1 X (.builtin "len") (fun xs H Q => ∃ l : List Nat, xs = [.str (Tx l)] ∧ l.length ≤ sizeLine ∧ Q (.int l.length) H) := by
  refine ⟨fun pins s σ H xs us Q I r h => ?_⟩
  obtain ⟨l, rfl, hz, q⟩ := h
  refine call_len_str pins s σ H _ us Q I r ⟨Tx l, rfl, by rw [Tx_len]; exact hz, ?_⟩
  rw [Tx_len]
  exact q
theorem oAddX : Op2 X (binaryOp .Add) (fun x y H Q => ∃ a b : List Nat, x = .str (Tx a) ∧ y = .str (Tx b) ∧ a.length + b.length ≤ sizeLine ∧ Q (.str (Tx (a ++ b))) H) := by
  refine ⟨fun pins s σ H x y v u Q I rx ry h => ?_⟩
  obtain ⟨a, b, rfl, rfl, hz, q⟩ := h
  refine op_add_str pins s σ H _ _ v u Q I rx ry ⟨_, _, rfl, rfl, by rw [Tx_len, Tx_len]; exact hz, ?_⟩
  have e : Tx a ++ Tx b = Tx (a ++ b) := by show Str.mk _ = Str.mk _; simp
  rw [e]
  exact q
theorem xX : Ixs X (fun x y H Q => ∃ (l : List Nat) (i : Int) (c : Nat), x = .str (Tx l) ∧ y = .int i ∧ l.length ≤ sizeLine ∧ atI l i = some c ∧ Q (.str (Tx [c])) H) := by
  refine ⟨fun value slice pins s σ H x y v u Q I rx ry h hs => ?_⟩
  obtain ⟨l, i, c, rfl, rfl, hz, ha, q⟩ := h
  exact ix_str value slice pins s σ H _ _ v u Q I rx ry ⟨Tx l, i, c, rfl, rfl, by rw [Tx_len]; exact hz, by simpa using ha, q⟩ hs
end
end L2

namespace L2
open PySem PySem.Spec PyProof.Rows PySem.Builtin PySem.Builtin.Str
/-! ### enumerate(list), its pairs taken apart at once -/
section
variable {X : Cx} {pins : List (Addr × Obj)} {σ : St} {H : Hp} {s : Shared} {h' : Heap}
end
section
variable {X : Cx} {es : List Expr} {kk : Nat} {tpos : Pos}
end
/-! ### numbers as texts -/
def num (m : Nat) : List Nat := (Nat.toDigits 10 m).map Char.toNat
section
variable {X : Cx}
theorem cIntX : Cl1 X (.type "int") (fun xs H Q => ∃ l : List Nat, xs = [.str (Tx l)] ∧ PySem.NumText.AllDigits l ∧ l ≠ [] ∧ l.length ≤ 640 ∧ Q (.int ((PySem.NumText.digitsVal l : Nat) : Int)) H) := by
  refine ⟨fun pins s σ H xs us Q I r h => ?_⟩
  obtain ⟨l, rfl, h1, h2, h3, q⟩ := h
  obtain ⟨u, rfl, t, rfl⟩ := vals1 r
  refine PySem.W.KIN.call_text (PySem.intText_digits (x := Tx l) (by simpa using h1) (by simpa using h2) (by rw [Tx_len]; omega)) (by rw [Tx_len]; exact h3) ?_
  exact ⟨.int _, H, I.tok _, ⟨_, rfl⟩, by simpa using q⟩
theorem cStrI : Cl1 X (.type "str") (fun xs H Q => ∃ n : Nat, xs = [.int n] ∧ n < 10 ^ 500 ∧ Q (.str (Tx (num n))) H) := by
  refine ⟨fun pins s σ H xs us Q I r h => ?_⟩
  obtain ⟨n, rfl, hn, q⟩ := h
  refine call_str_int pins s σ H _ us Q I r ⟨(n : Int), rfl, ?_, ?_⟩
  · by_cases h0 : n = 0
    · subst h0; decide
    · have : n < 2 ^ 1900 := Nat.lt_of_lt_of_le hn (by decide +kernel)
      have := (Nat.log2_lt h0).mpr this
      show (n : Int).natAbs.log2 < 1920
      simp only [Int.natAbs_natCast]
      omega
  · have e : PySem.Str.ofString (toString (n : Int)) = Tx (num n) := by
      rw [← Tx_of (PySem.Str.ofString (toString (n : Int)))]
      exact congrArg (fun z => Tx z) (PySem.W.KIN.signs_num n)
    show Q (.str (PySem.Str.ofString (toString (n : Int)))) H
    rw [e]
    exact q
end
end L2

namespace L2
open PySem PySem.Spec PyProof.Rows PySem.Builtin PySem.Builtin.Str
theorem ifT {b : Bool} {A B : Prop} (e : b = true) (h : A) : if b = true then A else B := by rw [if_pos e]; exact h
theorem ifF {b : Bool} {A B : Prop} (e : b = false) (h : B) : if b = true then A else B := by rw [if_neg (by rw [e]; exact Bool.false_ne_true)]; exact h
theorem if2 {b : Bool} {A B : Prop} (h1 : b = true → A) (h2 : b = false → B) : if b = true then A else B := by
  cases b
  · exact ifF rfl (h2 rfl)
  · exact ifT rfl (h1 rfl)
theorem decX (a b : List Nat) : decide (V.str (Tx a) = V.str (Tx b)) = decide (a = b) := decide_eq_decide.mpr ⟨fun h => Tx_inj.mp (V.str.inj h), fun h => by rw [h]⟩
section
variable {X : Cx} {pos : Pos}
theorem eSx {z : Str} {j} (l : List Nat) (h : z = Tx l := by decide +kernel) : E X (.Constant (.str z) j pos) (tC (.str (Tx l))) := by
  subst h
  exact ⟨pe_str⟩
end
/-! ### the texts of fields -/
def isDig (c : Nat) : Bool := decide (48 ≤ c) && decide (c ≤ 57)
def figs : List Nat := [48, 49, 50, 51, 52, 53, 54, 55, 56, 57]
theorem mem_figs (c : Nat) : decide (c ∈ figs) = isDig c := by
  unfold figs isDig
  rw [Bool.eq_iff_iff, decide_eq_true_eq, Bool.and_eq_true, decide_eq_true_eq, decide_eq_true_eq]
  simp
  omega
def allF (l : List Nat) : Bool := !decide (l = []) && l.all isDig
def isW (l : List Nat) : Bool := allF l && (decide (l = [48]) || !decide (l.headD 0 = 48))
@[irreducible] def rngL (a b s : Int) : List Int := (List.range (Builtin.Range.rangeSize a (b + 1) s).toNat).map fun i : Nat => a + (i : Int) * s
theorem isW_digits {l : List Nat} (h : isW l = true) : PySem.NumText.AllDigits l ∧ l ≠ [] := by
  unfold isW allF at h
  rw [Bool.and_eq_true, Bool.and_eq_true] at h
  refine ⟨fun c hc => ?_, fun e => ?_⟩
  · have := List.all_eq_true.mp h.1.2 c hc
    unfold isDig at this
    rw [Bool.and_eq_true] at this
    exact ⟨of_decide_eq_true this.1, of_decide_eq_true this.2⟩
  · rw [decide_eq_true e] at h
    exact absurd h.1.1 (by decide)
/-! ranges: what they tell -/
end L2
namespace L2
open PySem PySem.Spec PyProof.Rows PySem.Builtin PySem.Builtin.Str
/-! numbers below 100 -/
end L2

namespace L2
open PySem PySem.Spec PyProof.Rows PySem.Builtin PySem.Builtin.Str
/-! ### join; a list + a list -/
theorem strs_are : ∀ {ws : List (List Nat)} {vs : List Value}, Vals (ws.map fun q => V.str (Tx q)) vs → StrsAre vs (ws.map Tx)
  | [], [], _ => .nil
  | [], _ :: _, h => nomatch h
  | _ :: _, [], h => nomatch h
  | w :: r, v :: vs, .cons h t => by
    obtain ⟨k, rfl⟩ := h
    exact .cons (Tx w) k (strs_are t)
section
variable {X : Cx}
theorem oAddL : Op2 X (binaryOp .Add) (fun x y H Q => ∃ (a b : Addr) (xs ys : List V), x = .ref a ∧ y = .ref b ∧ SqL X.K H a xs ∧ SqL X.K H b ys ∧ xs.length + ys.length ≤ sizeLine ∧ ∀ p, H p = none → Q (.ref p) (upd H p (.lst (xs ++ ys)))) := by
  refine ⟨fun pins s σ H x y v u Q I rx ry h => ?_⟩
  obtain ⟨a, b, xs, ys, rfl, rfl, ha, hb, hz, q⟩ := h
  cases rx
  cases ry
  obtain ⟨i1, r1, p1, z1⟩ := I.list ha
  obtain ⟨i2, r2, p2, z2⟩ := I.list hb
  obtain ⟨⟨cls, dd, data, sl⟩, ho, hc, n, hd⟩ := p1.isList
  obtain ⟨⟨cls2, dd2, data2, sl2⟩, ho2, hc2, n2, hd2⟩ := p2.isList
  simp only at hc hd hc2 hd2
  subst hc hd hc2 hd2
  have l1 := r1.length
  have l2 := r2.length
  refine concat_meets ⟨_, ho, rfl⟩ ⟨_, ho2, rfl⟩ noFill_list_add seq_list_add PySem.F.slot_list_add PySem.F.entry_list_add (PySem.F.args_list_add_2 _ _) (list_addW a b _ _ n n2 dd dd2 sl sl2 (by simp only [List.size_toArray]; omega)) ⟨ho, ho2, ?_⟩
  refine ⟨.ref s.heap.objs.size, upd H s.heap.objs.size (.lst (xs ++ ys)), I.laid (t' := s.toks) (fun b u e => Heap.get?_push_of_some _ e) (Nat.le_refl _) ?_, rfl, q _ (I.hok.fresh (Nat.le_refl _))⟩
  exact ⟨by rw [List.length_append]; exact hz, i1 ++ i2, 0, r1.append r2, by simpa using Heap.get?_push_size _ rfl⟩
end
end L2

namespace L2
open PySem PySem.Spec PyProof.Rows
/-! ### comprehensions with any target -/
section
variable {X : Cx} {elt iter tg : Expr} {xs : List Str} {y : Str} {py pos spos : Pos} {ifs : List Expr} {scope : Scope} {cl : List (Str × Addr)} {N' : List Str} {js : List Nat} {tt : TT} {te : TE} {g : TG} {wi : TI}
end
end L2

namespace L2
open PySem PySem.Spec PyProof.Rows
section
variable {js : List Nat} {σ : St} {tt : TT} {te : TE} {Q : VK} {H1 : Hp}
end
/-! ### f-strings of numbers, texts and plain pieces -/
abbrev TF := List Nat → TE
def PFm (X : Cx) (vs : List Expr) (t : TF) : Prop :=
  ∀ (pins : List (Addr × Obj)) (s : Shared) (σ : St) (H : Hp) (out : List Nat) (Q : VK), Inv X pins σ H s → out.length ≤ sizeLine → t out σ H Q →
    wpAny (model X.prog X.w) X.A (joinParts (Tx out) (evalEach vs X.env)) (EP X pins σ Q) X.xe s
structure Fm (X : Cx) (vs : List Expr) (t : TF) : Prop where
  h : PFm X vs t
theorem Tx_add (a b : List Nat) : Tx a ++ Tx b = Tx (a ++ b) := by show Str.mk _ = Str.mk _; simp
section
variable {X : Cx}
end
end L2

namespace L2
open PySem PySem.Spec PyProof.Rows
/-! ### comprehensions whose block has cells -/
structure Clos3 (X : Cx) (scope : Scope) (cl : List (Str × Addr)) : Prop where
  is : closureFor scope X.env = pure cl
  sub : ∀ y c, cl.lookup y = some c → X.env.cells.lookup y = some c
  has : ∀ y, scope.names.lookup y = some .free → ∃ c, cl.lookup y = some c
  uniq : ∀ y, (y, NameKind.cell) ∈ scope.names → scope.names.lookup y = some .cell
  kind : scope.kind = .function
  names : ∀ y ∈ scope.names, y.2 = .local → scope.names.lookup y.1 = some .local
def HasC (scope : Scope) (cl : List (Str × Addr)) : Prop := ∀ y, (scope.names.lookup y = some .cell ∨ scope.names.lookup y = some .free) → ∃ c, cl.lookup y = some c
structure NewC (scope : Scope) (cl cl' : List (Str × Addr)) (C : Addr) (h : Heap) : Prop where
  has : HasC scope cl'
  old : ∀ y c, cl'.lookup y = some c → (scope.names.lookup y ≠ some .cell ∧ cl.lookup y = some c) ∨ (scope.names.lookup y = some .cell ∧ C < c ∧ h.IsCell c none)
  back : ∀ y c, scope.names.lookup y ≠ some .cell → cl.lookup y = some c → cl'.lookup y = some c
  apart : ∀ y z c, scope.names.lookup y = some .cell → scope.names.lookup z = some .cell → cl'.lookup y = some c → cl'.lookup z = some c → y = z
section
variable {X : Cx} {elt iter tg : Expr} {xs : List Str} {y : Str} {py pos spos : Pos} {ifs : List Expr} {scope : Scope} {cl : List (Str × Addr)} {N' : List Str} {js : List Nat} {tt : TT} {te : TE} {g : TG} {wi : TI}
end
end L2

namespace L2
open PySem PySem.Spec PyProof.Rows PySem.SeqAt
/-! ### a list of pairs of numbers, compared with a list of nothing; rules that name K -/
section
variable {X : Cx}
end
end L2

namespace L2
open PySem PySem.Spec PyProof.Rows
/-! ### stations of an exception in flight that leave its object alone but for the traceback -/
/-- what is not touched by a new traceback -/
def Kn (f : Obj → Prop) : Prop := ∀ (o : Obj) (vs : Array Value) (x : Value), o.data = .fields vs → f o → f (Obj.mapFields (·.setIfInBounds 1 x) o)
/-- an exception at e with a traceback whose newest entry is marked by fl -/
def Trc (f : Obj → Prop) (fl : Value) (B h : Heap) (e : Addr) : Prop := ∃ (o : Obj) (vs : Array Value) (T : Addr) (oT : Obj) (ts : Array Value),
  (h.get? e = some o ∧ o.data = .fields vs ∧ vs[1]? = some (.ref T) ∧ f o) ∧ (h.get? T = some oT ∧ oT.data = .fields ts ∧ ts[3]? = some fl) ∧ B.get? T = none ∧ T ≠ e
structure Fg (f : Obj → Prop) (fl : Value) (B : Heap) (l : List Env) (e : Addr) (h : Heap) : Prop where
  st : B.StaysIn h
  nb : B.get? e = none
  ff : h.FunFrames B l
  tr : Trc f fl B h e
/-- what was no record stays, but for its slots, when records are changed -/
theorem norec {h : Heap} {T : Addr} {oT : Obj} {ts : Array Value} (hT : h.get? T = some oT) (hd : oT.data = .fields ts) {b : Addr} {o : Obj} (e : h.get? b = some o) (n : ∀ vs, o.data ≠ .fields vs) : b ≠ T := fun z => by
  subst z
  cases hT.symm.trans e
  exact n ts hd
section
variable {M : Model} {A : Around} {E : Value → Shared → Prop} {s : Shared} {f : Obj → Prop} {B : Heap} {env : Env} {outer l : List Env} {L e : Addr} {fl : Value} {Q : Unit → Shared → Prop}
theorem fg_entry {o : Obj} {vs : Array Value} {head : Value} {had : Bool} (kn : Kn f) (hA : A.frames = some (env :: outer)) (hL : env.frame = some L) (ff : s.heap.FunFrames B (env :: outer)) (st : B.StaysIn s.heap) (nb : B.get? e = none)
    (he : s.heap.get? e = some o) (hd : o.data = .fields vs) (sz : 1 < vs.size) (ho : f o) (k : ∀ h', Fg f (rawInt L) B (env :: outer) e h' → s.heap.UpToSlots h' → Q () { s with heap := h' }) :
    wpAny M A (do let a ← frameOf env; let pl ← entryPlaceOf L had; let b ← EntryCells.newEntry head a .none (rawInt L) .none pl; setField (.ref e) 1 b) Q E s := by
  have out : e ∉ (env :: outer).filterMap (·.frame) := fun z => by
    obtain ⟨_, o', q, nf⟩ := ff.mem z
    cases he.symm.trans q
    exact nf vs hd
  refine wpAny_bind (wpAny_frameOf_fun hA ff hL fun g sl => wpAny_bind (wpAny_entryPlaceOf fun pl pok => ?_))
  unfold EntryCells.newEntry newFields
  refine wpAny_bind (wpAny_newObj_type ?_ (pok.sizeOk5 _ _ _ _ _))
  have t3 : ([head, Value.ref L, .none, rawInt L, .none] ++ (if pl.isEmpty then List.replicate 6 Value.none else pl)).toArray[3]? = some (rawInt L) := by
    rw [List.getElem?_toArray]
    rfl
  generalize ([head, Value.ref L, .none, rawInt L, .none] ++ (if pl.isEmpty then List.replicate 6 Value.none else pl)).toArray = ts at t3
  have e1 : g.get? e = some o := (sl.2.1 e out).trans he
  have st1 : B.StaysIn g := fun b ob q => (sl.2.1 b fun z => by rw [(ff.mem z).1] at q; cases q).trans (st b ob q)
  have e2 := Heap.get?_push_of_some (h := g) { cls := .type "traceback", data := .fields ts } e1
  have far : g.objs.size ≠ e := Nat.ne_of_gt (Heap.lt_size e1)
  have dat := Obj.data_mapFields hd (·.setIfInBounds 1 (Value.ref g.objs.size))
  have e3 := Heap.get?_update_self (Obj.mapFields (·.setIfInBounds 1 (Value.ref g.objs.size))) e2 (Obj.isFreed_of_fields dat)
  have k1 : ∀ b ob, b ≠ e → g.get? b = some ob → ((g.push { cls := .type "traceback", data := .fields ts }).update e (Obj.mapFields (·.setIfInBounds 1 (Value.ref g.objs.size)))).get? b = some ob := fun b ob n q =>
    (Heap.get?_update_other _ _ (Ne.symm n)).trans (Heap.get?_push_of_some _ q)
  refine wpAny_setField e2 hd sz (k _ ⟨fun b ob q => k1 b ob (fun z => by rw [z, nb] at q; cases q) (st1 b ob q), nb, ff.of_keeps fun b ob q n => ?_, ?_⟩ fun b ob q n => ?_)
  · obtain ⟨x, q1⟩ := sl.2.2 b ob q
    exact ⟨_, k1 b _ (norec he hd q n) q1, rfl⟩
  · exact ⟨_, _, g.objs.size, _, ts, ⟨e3, dat, by simp [sz], kn o vs _ hd ho⟩, ⟨(Heap.get?_update_other _ _ (Ne.symm far)).trans (Heap.get?_push_size g rfl), rfl, t3⟩, st1.fresh, far⟩
  · obtain ⟨x, q1⟩ := sl.2.2 b ob q
    exact ⟨x, k1 b _ (norec he hd q n) q1⟩
/-- the first entry -/
theorem fg_first {o : Obj} {vs : Array Value} (kn : Kn f) (hA : A.frames = some (env :: outer)) (hL : env.frame = some L) (ff : s.heap.FunFrames B (env :: outer)) (st : B.StaysIn s.heap) (nb : B.get? e = none)
    (he : s.heap.get? e = some o) (hd : o.data = .fields vs) (h1 : vs[1]? = some .none) (ho : f o) (k : ∀ h', Fg f (rawInt L) B (env :: outer) e h' → s.heap.UpToSlots h' → Q () { s with heap := h' }) : wpAny M A (noteFrame (.ref e) env) Q E s := by
  unfold noteFrame
  simp only [hL]
  refine wpAny_bind (wpAny_field he hd h1 ?_)
  rw [if_neg (by decide)]
  exact fg_entry kn hA hL ff st nb he hd (Array.getElem?_eq_some_iff.mp h1).1 ho k
/-- the mark of the newest entry is set -/
theorem fg_mark (v : Option Addr) (F : Fg f fl B l e s.heap) (k : ∀ h', Fg f (v.elim .none fun q => rawInt q) B l e h' → s.heap.UpToSlots h' → Q () { s with heap := h' }) : wpAny M A (setFlight (.ref e) v) Q E s := by
  obtain ⟨o, vs, T, oT, ts, ⟨he, hd, h1, ho⟩, ⟨hT, dT, h3⟩, nT, ne⟩ := F.tr
  have s3 : 3 < ts.size := (Array.getElem?_eq_some_iff.mp h3).1
  have oth : ∀ b, b ≠ T → (s.heap.update T (Obj.mapFields (·.setIfInBounds 3 (v.elim Value.none fun q => rawInt q)))).get? b = s.heap.get? b := fun b n => Heap.get?_update_other _ _ n.symm
  unfold setFlight
  refine wpAny_bind (wpAny_field he hd h1 ?_)
  rw [if_pos (by simp)]
  refine wpAny_setField hT dT s3 (k _ ⟨fun b ob q => (oth b fun z => by rw [z, nT] at q; cases q).trans (F.st b ob q), F.nb, F.ff.of_keeps fun b ob q n => ⟨ob, (oth b (norec hT dT q n)).trans q, rfl⟩, ?_⟩ fun b ob q n => ⟨ob.slots, (oth b (norec hT dT q n)).trans q⟩)
  exact ⟨o, vs, T, _, _, ⟨(oth e ne.symm).trans he, hd, h1, ho⟩, ⟨Heap.get?_update_self _ hT (Obj.isFreed_of_fields (Obj.data_mapFields dT _)), Obj.data_mapFields dT _, by simp [s3]⟩, nT, ne⟩
/-- a further entry -/
theorem fg_next (kn : Kn f) (hA : A.frames = some (env :: outer)) (hL : env.frame = some L) (F : Fg f .none B (env :: outer) e s.heap) (k : ∀ h', Fg f (rawInt L) B (env :: outer) e h' → s.heap.UpToSlots h' → Q () { s with heap := h' }) :
    wpAny M A (noteFrame (.ref e) env) Q E s := by
  obtain ⟨o, vs, T, oT, ts, ⟨he, hd, h1, ho⟩, ⟨hT, dT, h3⟩, nT, ne⟩ := F.tr
  have oth : ∀ b, b ≠ T → (s.heap.update T (Obj.mapFields (·.setIfInBounds 3 Value.none))).get? b = s.heap.get? b := fun b n => Heap.get?_update_other _ _ n.symm
  unfold noteFrame
  simp only [hL]
  refine wpAny_bind (wpAny_field he hd h1 ?_)
  rw [if_pos (by simp)]
  refine wpAny_bind (wpAny_field hT dT h3 ?_)
  rw [if_neg (by simp [rawInt])]
  refine wpAny_bind (wpAny_setField hT dT (Array.getElem?_eq_some_iff.mp h3).1 ?_)
  refine fg_entry kn hA hL (F.ff.of_keeps fun b ob q n => ⟨ob, (oth b (norec hT dT q n)).trans q, rfl⟩) (fun b ob q => (oth b fun z => by rw [z, nT] at q; cases q).trans (F.st b ob q)) F.nb ((oth e ne.symm).trans he) hd (Array.getElem?_eq_some_iff.mp h1).1 ho fun h' F' up => k h' F' fun b ob q n => up b ob ((oth b (norec hT dT q n)).trans q) n
/-- the entry is there already -/
theorem fg_again (hL : env.frame = some L) (F : Fg f (rawInt L) B l e s.heap) (k : Q () s) : wpAny M A (noteFrame (.ref e) env) Q E s := by
  obtain ⟨o, vs, T, oT, ts, ⟨he, hd, h1, ho⟩, ⟨hT, dT, h3⟩, nT, ne⟩ := F.tr
  unfold noteFrame
  simp only [hL]
  refine wpAny_bind (wpAny_field he hd h1 ?_)
  rw [if_pos (by simp)]
  refine wpAny_bind (wpAny_field hT dT h3 ?_)
  rw [if_pos (by simp)]
  exact wpAny_pure k
theorem Fg.out {h : Heap} (F : Fg f fl B (env :: outer) e h) : Fg f fl B outer e h := ⟨F.st, F.nb, F.ff.2.2, F.tr⟩
theorem fg_leaves (kn : Kn f) (hA : A.frames = some (env :: outer)) (hL : env.frame = some L) (F : Fg f .none B (env :: outer) e s.heap) (k : ∀ h', Fg f .none B outer e h' → s.heap.UpToSlots h' → Q () { s with heap := h' }) : wpAny M A (leaving env (.ref e)) Q E s :=
  wpAny_bind (fg_next kn hA hL F fun _ F1 u1 => fg_mark none F1 fun h2 F2 u2 => k h2 F2.out (u1.trans u2))
theorem fg_leaves1 {o : Obj} {vs : Array Value} (kn : Kn f) (hA : A.frames = some (env :: outer)) (hL : env.frame = some L) (ff : s.heap.FunFrames B (env :: outer)) (st : B.StaysIn s.heap) (nb : B.get? e = none)
    (he : s.heap.get? e = some o) (hd : o.data = .fields vs) (h1 : vs[1]? = some .none) (ho : f o) (k : ∀ h', Fg f .none B outer e h' → s.heap.UpToSlots h' → Q () { s with heap := h' }) : wpAny M A (leaving env (.ref e)) Q E s :=
  wpAny_bind (fg_first kn hA hL ff st nb he hd h1 ho fun _ F1 u1 => fg_mark none F1 fun h2 F2 u2 => k h2 F2.out (u1.trans u2))
theorem fg_leavesH (hL : env.frame = some L) (F : Fg f (rawInt L) B (env :: outer) e s.heap) (k : ∀ h', Fg f .none B outer e h' → s.heap.UpToSlots h' → Q () { s with heap := h' }) : wpAny M A (leaving env (.ref e)) Q E s :=
  wpAny_bind (fg_again hL F (fg_mark none F fun h2 F2 u2 => k h2 F2.out u2))
end
end L2

namespace L2
open PySem PySem.Spec PyProof.Rows
/-! ### exceptions: how one lies behind a call -/
theorem ObjOk.at {P : Program} {w : World} {H : Hp} {h : Heap} {a : Addr} {o : HO} (x : ObjOk P w H h a o) : ∃ ob, h.get? a = some ob := by
  induction o with
  | lst xs => obtain ⟨_, _, _, _, e⟩ := x; exact ⟨_, e⟩
  | tup xs => obtain ⟨_, _, _, ob, e, _⟩ := x; exact ⟨_, e⟩
  | dK kvs => obtain ⟨_, _, _, _, ob, _, _, e, _⟩ := x; exact ⟨_, e⟩
  | dT kvs => obtain ⟨_, _, _, _, ob, _, _, e, _⟩ := x; exact ⟨_, e⟩
  | set S n => obtain ⟨ob, _, _, _, e, _⟩ := x; exact ⟨_, e⟩
  | ins C dx fs => obtain ⟨_, _, _, e, _⟩ := x; exact ⟨_, e⟩
  | own y => exact x
  | xd fs => obtain ⟨_, ⟨ob, _, _, e, _⟩, _⟩ := x; exact ⟨_, e⟩
  | rng lo hi => obtain ⟨_, _, _, e⟩ := x; exact ⟨_, e⟩
  | frz ob u ih => exact ⟨_, x.1⟩
  | tbl ps => exact ⟨_, x⟩
  | met f y => exact ⟨_, x⟩
  | ext φ => exact x.2.1
/-- the object of an exception: its class, its dict, and (b) that it came up in no except suite -/
def Ex (C : Addr) (d : Option Addr) (b : Bool) (o : Obj) : Prop := o.cls = .ref C ∧ o.dict = d ∧ ∃ vs, o.data = .fields vs ∧ (b = true → vs[2]? = some .none)
theorem kn_ex (C : Addr) (d : Option Addr) (b : Bool) : Kn (Ex C d b) := fun o vs x hd ⟨h1, h2, ws, h3, h4⟩ => by
  cases hd.symm.trans h3
  refine ⟨(Obj.cls_mapFields _ _).trans h1, ?_, _, Obj.data_mapFields hd _, fun z => ?_⟩
  · rw [← h2]
    obtain ⟨c, dd, dt, sl⟩ := o
    cases hd
    rfl
  · rw [Array.getElem?_setIfInBounds_ne (by decide)]
    exact h4 z
/-- how a class is told of an exception: as it is, or marked where the exception came up in an except suite -/
def wc (C : Addr) : Value := .int C 0
def cv (C : Addr) : Bool → Value
  | true => .ref C
  | false => wc C
theorem cv_ref {C C' : Addr} {b : Bool} (h : cv C b = .ref C') : C = C' ∧ b = true := by
  cases b with
  | true => cases h; exact ⟨rfl, rfl⟩
  | false => cases h
theorem cv_wc {C C' : Addr} {b : Bool} (h : cv C b = wc C') : C = C' ∧ b = false := by
  cases b with
  | true => cases h
  | false =>
    have e : (C : Int) = C' := (Value.int.inj h).1
    exact ⟨Int.ofNat.inj e, rfl⟩
/-- an exception in flight: at a; neither it nor its traceback is tracked, both are newer than g -/
def Fly (g h : Heap) (H : Hp) (a C : Addr) (d : Option Addr) (b : Bool) : Prop :=
  H a = none ∧ g.get? a = none ∧ ∃ (o : Obj) (vs : Array Value) (T : Addr) (oT : Obj) (ts : Array Value), (h.get? a = some o ∧ o.data = .fields vs ∧ vs[1]? = some (.ref T) ∧ Ex C d b o) ∧
    (h.get? T = some oT ∧ oT.data = .fields ts ∧ ts[3]? = some .none) ∧ (H T = none ∧ g.get? T = none) ∧ T ≠ a
def CX1 (P : Program) (w : World) : CXT := fun outer H s E e s' =>
  ∃ a C d b H', e = .ref a ∧ s'.os = s.os ∧ AllBare s'.gens ∧ Un (frs outer) [] H H' s.heap s'.heap ∧ HOk P w H' s'.heap ∧ Fly s.heap s'.heap H' a C d b ∧ E (cv C b) d H'
theorem fly_on {P : Program} {w : World} {fs : List Addr} {l : List Env} {H0 H : Hp} {g h1 h2 : Heap} {hid : List Addr} {a C : Addr} {d : Option Addr} {b0 : Bool} (u : Un fs [] H0 H g h1) (hok : HOk P w H h1) (frf : ∀ b ∈ fs, H b = none)
    (ff : ∀ b ∈ fs, ∃ o, h1.get? b = some o ∧ ∀ vs, o.data ≠ .fields vs) (hh : ∀ b ∈ hid, b ∈ fs ∨ (H b = none ∧ g.get? b = none)) (fl : Fg (Ex C d b0) .none (PySem.W.hideAll h1 hid) l a h2) (up : h1.UpToSlots h2)
    (hga : g.get? a = none) (Ha : H a = none) : Un fs [] H0 H g h2 ∧ HOk P w H h2 ∧ Fly g h2 H a C d b0 := by
  have keep : ∀ b o, h1.get? b = some o → b ∉ hid → h2.get? b = some o := fun b o e n => fl.st b o (PySem.W.hideAll_get _ e n)
  have nofr : ∀ b o vs, b ∈ fs → h2.get? b = some o → o.data ≠ .fields vs := fun b o vs hb e => by
    obtain ⟨o1, e1, nf⟩ := ff b hb
    obtain ⟨sl, e2⟩ := up b o1 e1 nf
    rw [e] at e2
    cases e2
    exact nf vs
  have slots : ∀ b o, b ∈ fs → h1.get? b = some o → ∃ sl, h2.get? b = some { o with slots := sl } := fun b o hb e => by
    obtain ⟨o1, e1, nf⟩ := ff b hb
    rw [e] at e1
    cases e1
    exact up b o e nf
  have nhid : ∀ b o, b ∉ fs → g.get? b = some o → b ∉ hid := fun b o nb e hb => by
    rcases hh b hb with z | ⟨_, z⟩
    · exact nb z
    · rw [e] at z; cases z
  have thid : ∀ b o, H b = some o → b ∉ hid := fun b o e hb => by
    rcases hh b hb with z | ⟨z, _⟩
    · rw [frf b z] at e; cases e
    · rw [e] at z; cases z
  refine ⟨⟨fun b o e n hb hx => keep b o (u.keep b o e n hb hx) (nhid b o hb e), fun b o e n hb hx => ?_, u.free, fun b o e hx => ?_, u.tups, u.frzs, u.tbls⟩, fun b ob e => ?_, Ha, hga, ?_⟩
  · obtain ⟨sl, e1⟩ := u.slot b o e n hb hx
    obtain ⟨sl', e2⟩ := slots b _ hb e1
    exact ⟨sl', e2⟩
  · obtain ⟨o', e1⟩ := u.there b o e hx
    by_cases hb : b ∈ fs
    · obtain ⟨sl, e2⟩ := slots b _ hb e1
      exact ⟨_, e2⟩
    · exact ⟨o', keep b o' e1 (nhid b o hb e)⟩
  · refine (hok b ob e).stay (fun c v hc q => keep c v q ?_) (fun _ q => q) fun _ _ q => q
    rcases hc with z | z
    · rw [z]; exact thid b ob e
    · exact thid c _ z
  · obtain ⟨o, vs, T, oT, ts, ho, hT, hnT, hTe⟩ := fl.tr
    have nT : T ∉ fs := fun z => nofr T oT ts z hT.1 hT.2.1
    refine ⟨o, vs, T, oT, ts, ho, hT, ⟨?_, ?_⟩, hTe⟩
    · cases q : H T with
      | none => rfl
      | some o =>
        obtain ⟨ob, e⟩ := (hok T o q).at
        have := PySem.W.hideAll_get _ e (thid T o q)
        rw [hnT] at this; cases this
    · cases q : g.get? T with
      | none => rfl
      | some o =>
        obtain ⟨ob, e⟩ := u.there T o q (by simp)
        have := PySem.W.hideAll_get _ e (nhid T o nT q)
        rw [hnT] at this; cases this
theorem Fly.flying {bs g h : Heap} {H : Hp} {a C : Addr} {d : Option Addr} {b : Bool} {l : List Env} (f : Fly g h H a C d b) (ff : h.FunFrames bs l) : ∃ T, (H T = none ∧ g.get? T = none) ∧ Fg (Ex C d b) .none (PySem.W.hideAll h (frs l ++ [a, T])) l a h := by
  obtain ⟨_, _, o, vs, T, oT, ts, ho, hT, fT, nT⟩ := f
  exact ⟨T, fT, fun b o e => PySem.W.of_hideAll _ e, PySem.W.hideAll_none _ (by simp), PySem.W.funFrames_hide ff fun env he b hb => List.mem_append_left _ (List.mem_filterMap.mpr ⟨env, he, hb⟩), o, vs, T, oT, ts, ho, hT, PySem.W.hideAll_none _ (by simp), nT⟩
theorem funf {bs h : Heap} {l : List Env} (ff : h.FunFrames bs l) : ∀ b ∈ frs l, ∃ o, h.get? b = some o ∧ ∀ vs, o.data ≠ .fields vs := fun b hb => (ff.mem hb).2
section
variable {P : Program} {w : World} {K : PySem.W.Frag} {mg : Str → Option Value} {base : Heap} {N : List Str} {qual : Str} {scope : Scope} {f : Addr} {cd : Value} {A : Around} {outer : List Env} {s0 : Shared} {H0 : Hp} {E : XK}
theorem hid_stack {pins : List (Addr × Obj)} {σ : St} {H : Hp} {s : Shared} (I : Inv (cxOf (CX1 P w) P w K mg base N qual scope f cd A outer s0 H0 E) pins σ H s) : ∀ b ∈ frs (cxOf (CX1 P w) P w K mg base N qual scope f cd A outer s0 H0 E).stack, b ∈ frs outer ∨ (H b = none ∧ s0.heap.get? b = none) := fun b hb => by
  have hb : b ∈ frs (envOfC qual scope s0.heap.objs.size f cd :: outer) := hb
  have q : b = s0.heap.objs.size ∨ b ∈ frs outer := by
    obtain ⟨env, he, hf⟩ := List.mem_filterMap.mp hb
    rcases List.mem_cons.mp he with rfl | he
    · exact .inl (Option.some.inj hf).symm
    · exact .inr (List.mem_filterMap.mpr ⟨env, he, hf⟩)
  rcases q with rfl | q
  · exact .inr ⟨I.free, Heap.get?_none_of_le (Nat.le_refl _)⟩
  · exact .inl q
theorem Inv.gone {X : Cx} {pins : List (Addr × Obj)} {σ : St} {H : Hp} {s : Shared} (I : Inv X pins σ H s) (hx : X.ex = []) {b : Addr} (e : s.heap.get? b = none) : X.s₀.heap.get? b = none := by
  cases q : X.s₀.heap.get? b with
  | none => rfl
  | some o =>
    obtain ⟨o', z⟩ := I.base.there b o q (by rw [hx]; simp)
    rw [e] at z; cases z
/-- an exception of a callee passes -/
theorem pass1 : Passes (CX1 P w) (cxOf (CX1 P w) P w K mg base N qual scope f cd A outer s0 H0 E) E := by
  intro pins σ H s e s' I h
  obtain ⟨a, C, d, b, H', rfl, os, bare, un, hok, fly, q⟩ := h
  have I' : Inv (cxOf (CX1 P w) P w K mg base N qual scope f cd A outer s0 H0 E) pins σ H' s' := I.call' os un hok bare (fun _ z => nomatch z)
  obtain ⟨T, hT, fl⟩ := fly.flying I'.stack
  refine fg_leaves (L := s0.heap.objs.size) (kn_ex C d b) I.ok.frames rfl fl fun h2 fl2 up => ?_
  obtain ⟨u2, hok2, fly2⟩ := fly_on (fs := frs outer) I'.base I'.hok (fun b hb => I'.stkFree b (by
      obtain ⟨env, he, hf⟩ := List.mem_filterMap.mp hb
      exact List.mem_filterMap.mpr ⟨env, List.mem_cons_of_mem _ he, hf⟩)) (funf I'.funs) (fun b hb => by
    rcases List.mem_append.mp hb with z | z
    · exact hid_stack I' b z
    · rcases List.mem_cons.mp z with rfl | z
      · exact .inr ⟨fly.1, I.gone rfl fly.2.1⟩
      · obtain rfl : b = T := by simpa using z
        exact .inr ⟨hT.1, I.gone rfl hT.2⟩) fl2 up (I.gone rfl fly.2.1) fly.1
  exact ⟨a, C, d, b, H', rfl, I'.os, I'.bare, u2, hok2, fly2, q⟩
/-- one that was made here leaves -/
theorem made1 {pins : List (Addr × Obj)} {σ : St} {H : Hp} {s : Shared} {a C : Addr} {d : Option Addr} {b : Bool} {o : Obj} {vs : Array Value} (I : Inv (cxOf (CX1 P w) P w K mg base N qual scope f cd A outer s0 H0 E) pins σ H s) (Ha : H a = none) (ga : s0.heap.get? a = none)
    (ho : s.heap.get? a = some o) (hd : o.data = .fields vs) (h1 : vs[1]? = some .none) (hx : Ex C d b o) (q : E (cv C b) d H) : (cxOf (CX1 P w) P w K mg base N qual scope f cd A outer s0 H0 E).xe (.ref a) s := by
  refine fg_leaves1 (B := PySem.W.hideAll s.heap (frs (envOfC qual scope s0.heap.objs.size f cd :: outer) ++ [a])) (L := s0.heap.objs.size) (kn_ex C d b) I.ok.frames rfl (PySem.W.funFrames_hide I.stack fun env he b hb => List.mem_append_left _ (List.mem_filterMap.mpr ⟨env, he, hb⟩)) (fun b o e => PySem.W.of_hideAll _ e) (PySem.W.hideAll_none _ (by simp)) ho hd h1 hx fun h2 fl2 up => ?_
  obtain ⟨u2, hok2, fly2⟩ := fly_on (fs := frs outer) I.base I.hok (fun b hb => I.stkFree b (by
      obtain ⟨env, he, hf⟩ := List.mem_filterMap.mp hb
      exact List.mem_filterMap.mpr ⟨env, List.mem_cons_of_mem _ he, hf⟩)) (funf I.funs) (fun b hb => by
    rcases List.mem_append.mp hb with z | z
    · exact hid_stack I b z
    · obtain rfl : b = a := by simpa using z
      exact .inr ⟨Ha, ga⟩) fl2 up ga Ha
  exact ⟨a, C, d, b, H, rfl, I.os, I.bare, u2, hok2, fly2, q⟩
end
end L2

namespace L2
open PySem PySem.Spec PyProof.Rows
/-! ### raise of an own class under ValueError -/
abbrev vmro : List Value := [.type "ValueError", .type "Exception", .type "BaseException", .type "object"]
structure Xc (K : PySem.W.Frag) (mg : Str → Option Value) (x : Str) (C : Addr) : Prop where
  m : mg x = some (.ref C)
  n : PySem.W.nsIn K mainGlobals x = some (some (.ref C))
  q : PySem.W.excIn K C vmro "ValueError.__new__" = true
/-- the names that are bound at all, as the loose ones of the library's reading of the top -/
theorem Mod.top {K : PySem.W.Frag} {mg : Str → Option Value} {base : Heap} (m : Mod K mg base) (p : Program) : ∃ loose mb, PySem.W.TopRead p loose mg mb base := by
  obtain ⟨mb, b1, b2⟩ := m.blt
  obtain ⟨o, es, ep, ho, hd, hk, hf⟩ := id m.glob
  refine ⟨es.toList.filterMap fun e => match e.key with | .str y _ => some y | _ => none, mb, m.glob, b1, m.nolimit, b2, fun x _ hx _ _ _ => ?_⟩
  rw [← hf]
  have none_ : es.find? (fun e => e.key.isStr x) = none := by
    rw [Array.find?_eq_none]
    intro e he hs
    obtain ⟨y, t, ek⟩ := hk e he
    refine hx (List.mem_filterMap.mpr ⟨e, by simpa using he, ?_⟩)
    rw [ek] at hs ⊢
    have : y = x := by simpa [Value.isStr] using hs
    rw [this]
  show (es.find? fun e => e.key.isStr x).map (·.val) = none
  rw [none_]
  rfl
theorem Xc.own {K : PySem.W.Frag} {mg : Str → Option Value} {base : Heap} {x : Str} {C : Addr} (c : Xc K mg x C) (m : Mod K mg base) (p : Program) : OwnCls x C vmro "ValueError.__new__" mg base := by
  obtain ⟨loose, mb, T⟩ := m.top p
  exact PySem.W.own_of_in m.kin T c.n c.q
def tRaise (C : Addr) (E : XK) (t : TA) : TS := fun _ σ H => t σ H fun vs H1 => vs.length ≤ sizeLine ∧ E (.ref C) none H1
/-- what is made here may leave so -/
def Made (X : Cx) (E : XK) : Prop := ∀ (pins : List (Addr × Obj)) (σ : St) (H : Hp) (s : Shared) (a C : Addr) (d : Option Addr) (b : Bool) (o : Obj) (vs : Array Value), Inv X pins σ H s → H a = none → X.s₀.heap.get? a = none → s.heap.get? a = some o → o.data = .fields vs → vs[1]? = some .none → Ex C d b o → E (cv C b) d H → X.xe (.ref a) s
theorem Inv.newX {X : Cx} {pins : List (Addr × Obj)} {σ : St} {H : Hp} {s : Shared} {a : Addr} (I : Inv X pins σ H s) (hx : X.ex = []) (e : s.heap.get? a = none) : H a = none ∧ X.s₀.heap.get? a = none := by
  refine ⟨?_, I.gone hx e⟩
  cases q : H a with
  | none => rfl
  | some o =>
    obtain ⟨ob, z⟩ := (I.hok a o q).at
    rw [e] at z; cases z
section
variable {X : Cx} {E : XK} {x : Str} {C : Addr} {e : Expr} {es : List Expr} {t : TA} {np cpos pos : Pos}
theorem ps_raise (hM : Made X E) (c : Xc X.K X.mg x C) (ha : PA X (e :: es) t) (hex : X.ex = [] := by rfl) (hc : X.calm = true := by rfl) (hg : Gl X x := by rfl) (hdb : (x == ("__debug__" : Str)) = false := by decide)
    (he : starEach (e :: es) X.env = (false, eval e X.env) :: starEach es X.env := by rfl) (hpl : (backTo cpos (starEach es X.env)).any (·.1) = false := by rfl) :
    PS X (.Raise (some (.Call (.Name x np) (e :: es) [] cpos)) none pos) (tRaise C E t) := by
  intro pins s σ H D I h
  obtain ⟨tl, N, _, _, _, _, _, _, _, _, _, _, _, _, _, _, mN, hC, hN, no, T⟩ := (c.own I.ok.mod X.prog).obj
  have pl : (backTo cpos (starEach (e :: es) X.env)).any (·.1) = false := by
    rw [he]
    exact hpl
  refine' wpAny_Raise_call_subT (N := N) (bm := tl) (mN := mN) PySem.F.excBase_ValueError (T.hasType (by decide)) (I.ok.hd hc) pl no (ld_glob I hg c.m ⟨rfl, ?main⟩ hdb)
  case main =>
    have hw := ha cpos pins s σ H _ I h
    rw [he] at hw ⊢
    exact Calls.evalArgs_plain (thn hw fun us s2 ⟨vs, H2, I2, r, hz, q⟩ => ⟨rfl, by rw [← r.length]; exact hz, I2.bk _ _ hC, hN.keeps I2.bk, T.keeps I2.bk, fun h' a mk => by
      obtain ⟨t0, there, _, _⟩ := mk.there
      obtain ⟨Ha, ga⟩ := I2.newX hex mk.new
      exact hM pins σ H2 { s2 with heap := h' } a C none true _ _ (I2.kept (t' := s2.toks) mk.keeps) Ha ga there rfl rfl ⟨rfl, rfl, _, rfl, fun _ => rfl⟩ q⟩)
end
section
variable {P : Program} {w : World} {K : PySem.W.Frag} {mg : Str → Option Value} {base : Heap} {N : List Str} {qual : Str} {scope : Scope} {f : Addr} {cd : Value} {A : Around} {outer : List Env} {s0 : Shared} {H0 : Hp} {E : XK}
theorem madeC : Made (cxOf (CX1 P w) P w K mg base N qual scope f cd A outer s0 H0 E) E := fun _ _ _ _ _ _ _ _ _ _ I h1 h2 h3 h4 h5 h6 q => made1 I h1 h2 h3 h4 h5 h6 q
end
theorem pass10 {X : Cx} {P : Program} {w : World} : Passes (CX1 P w) X E0 := fun _ _ _ _ _ _ _ ⟨_, _, _, _, _, _, _, _, _, _, _, q⟩ => q.elim
/-- a def of the top that may raise -/
structure Df1 (P : Program) (w : World) (K : PySem.W.Frag) (mg : Str → Option Value) (base : Heap) (x : Str) (k : Nat) (ps : List Str) (sp : Sp) : Prop where
  ex : ∃ (f : Addr) (fd : FuncData), FnOk P w K mg base (CX1 P w) k f fd ps sp ∧ Binds K fd ps [] ∧ mg x = some (.ref f) ∧ PySem.W.keepIn K (.ref f) = true
section
variable {P : Program} {w : World} {K : PySem.W.Frag} {mg : Str → Option Value} {base : Heap} {x : Str} {st : Stmt} {ps N : List Str} {k : Nat} {sp : Sp}
theorem Fn.dfs1 (F : Fn K mg x st ps) (S' : FnScope N ps (defScope st)) (len : ∀ vs H Q E, sp vs H Q E → vs.length = ps.length)
    (hbody : ∀ (f : Addr) (cdv : Value) (A : Around) (outer : List Env) (s : Shared) (H : Hp) (vs : List V) (Q : VK) (E : XK), Room k (A.deeper (envOfC x (defScope st) s.heap.objs.size f cdv)) → sp vs H Q E →
      ∃ t, Ss (cxOf (CX1 P w) P w K mg base N x (defScope st) f cdv A outer s H E) (defBody st) t ∧ t { nx := fun _ H' => Q .non H', rt := Q } (start N vs) H) : Df1 P w K mg base x (k + 1) ps sp := by
  obtain ⟨f, fd, F1, hb, hm⟩ := F.ex
  have kp := F1.kp
  obtain ⟨oc, od, kV, doc, pm, an, cdv, ct, osl, rfl, lk, hcd⟩ := F1.ex
  refine ⟨⟨f, _, fn_of lk hcd S' len fun A outer s H vs Q E hr hsp => ?_, hb, hm, kp⟩⟩
  obtain ⟨t, h, q⟩ := hbody f cdv A outer s H vs Q E hr hsp
  exact ⟨t, h.h, q⟩
end
/-! ### a call that may raise, within a try -/
def XP (X : Cx) (pins : List (Addr × Obj)) (σ : St) (E : XK) (e : Value) (s' : Shared) : Prop := ∃ s1 H1, Inv X pins σ H1 s1 ∧ CX1 X.prog X.w X.stack H1 s1 E e s'
abbrev TX := St → Hp → VK → XK → Prop
structure Px (X : Cx) (e : Expr) (t : TX) : Prop where
  h : ∀ (pins : List (Addr × Obj)) (s : Shared) (σ : St) (H : Hp) (Q : VK) (E : XK), Inv X pins σ H s → t σ H Q E → wpAny (model X.prog X.w) X.A (eval e X.env) (EP X pins σ Q) (XP X pins σ E) s
abbrev TB := Ends → St → Hp → XK → Prop
structure Pb (X : Cx) (body : List Stmt) (t : TB) : Prop where
  h : ∀ (pins : List (Addr × Obj)) (s : Shared) (σ : St) (H : Hp) (D : Ends) (E : XK), Inv X pins σ H s → t D σ H E → wpAny (model X.prog X.w) X.A (execs body X.env) (SP X pins D) (XP X pins σ E) s
def xCall (sp : Sp) (t : TA) : TX := fun σ H Q E => t σ H fun vs H1 => sp vs H1 Q E
section
variable {X : Cx} {k k' : Nat} {ps : List Str} {sp : Sp} {x : Str} {e : Expr} {es : List Expr} {tA : TA} {p pos : Pos} {t : TX}
theorem xD (D : Df1 X.prog X.w X.K X.mg X.base x k ps sp) (hr : Room k' X.A) (ha : As X.nox (e :: es) tA) (hk : k ≤ k' := by decide) (hg : Gl X x := by rfl) (hdb : (x == ("__debug__" : Str)) = false := by decide)
    (he : starEach (e :: es) X.env = (false, eval e X.env) :: starEach es X.env := by rfl) (hpl : (backTo pos (starEach es X.env)).any (·.1) = false := by rfl) : Px X (.Call (.Name x p) (e :: es) [] pos) (xCall sp tA) := by
  obtain ⟨f, fd, F, hb, hm, kp⟩ := D.ex
  refine ⟨fun pins s σ H Q E I h => ?_⟩
  refine wpAny_Call_Name_kw (ld_glob I hg hm ?_ hdb)
  refine PySem.W.callWith_K (h₀ := X.base) I.ok.mod.kin kp (wpAny_mono (ha.h pos pins s σ H _ (I.wish _) h) (fun us s1 ⟨vs, H1, I1', r, q⟩ => ?_) fun _ _ z => False.elim z) he hpl
  have I1 : Inv X pins σ H1 s1 := I1'.unwish
  refine ⟨I1.kIn, ?_⟩
  have hl : us.length = ps.length := by rw [← r.length]; exact F.len _ _ _ _ q
  have hbd := hb s1 us I1.kIn (by rw [List.append_nil]; exact hl)
  rw [List.append_nil] at hbd
  refine wpAny_call (codeAny_mono (F.run X.A X.stack s1 H1 ⟨us, []⟩ us vs Q E (hr.mono hk) I1.env0 hbd r q) fun rr s' hq => ?_)
  cases rr with
  | error e => exact ⟨s1, H1, I1, hq⟩
  | ok fl =>
    cases fl with
    | ret u => exact I1.after hq
    | next => exact False.elim hq
    | brk => exact False.elim hq
    | cont => exact False.elim hq
def bExp (t : TX) : TB := fun D σ H E => t σ H (fun _ H' => D.nx σ H') E
theorem bE (h : Px X e t) (hs : swapsWith e none pos.line X.env = pure false := by rfl) : Pb X [.Expr e pos] (bExp t) := by
  refine ⟨fun pins s σ H D E I hw => ?_⟩
  refine wpAny_execs_cons (wpAny_mono (wpAny_Expr_any (thn (h.h pins s σ H _ E I hw) fun v s1 ⟨y, H1, I1, r1, q1⟩ => (show SP X pins D .next s1 from ⟨σ, H1, I1, q1⟩)) I.quiet hs) (fun f s1 q => ?_) fun _ _ z => z)
  cases f with
  | next => exact wpAny_execs_nil q
  | ret v => exact q
  | brk => exact q
  | cont => exact q
def bRet (t : TX) : TB := fun D σ H E => t σ H D.rt E
theorem bR (h : Px X e t) : Pb X [.Return (some e) pos] (bRet t) := by
  refine ⟨fun pins s σ H D E I hw => ?_⟩
  refine wpAny_execs_cons (wpAny_mono (wpAny_Return_some (thn (h.h pins s σ H _ E I hw) fun v s1 ⟨y, H1, I1, r1, q1⟩ => (show SP X pins D (.ret v) s1 from ⟨y, σ, H1, I1, r1, q1⟩))) (fun f s1 q => ?_) fun _ _ z => z)
  cases f with
  | next => exact wpAny_execs_nil q
  | ret v => exact q
  | brk => exact q
  | cont => exact q
end
/-! ### the except suite -/
abbrev Cx.hnd (X : Cx) (a : Addr) : Cx := { X with A := X.A.mark (some (.ref a)), calm := false, xe := fun _ _ => False }
/-- the same, of a suite that may raise -/
abbrev Cx.hnx (X : Cx) (a : Addr) : Cx := { X with A := X.A.mark (some (.ref a)), calm := false, xe := notedBy (model X.prog X.w) (X.A.mark (some (.ref a))) X.env (cameBackBy (model X.prog X.w) X.A X.env X.xe) }
section
variable {X : Cx} {pins : List (Addr × Obj)} {σ : St} {H : Hp} {s : Shared}
theorem Inv.hnd (I : Inv X pins σ H s) (a : Addr) : Inv (X.hnd a) pins σ H s :=
  ⟨⟨I.ok.mod, I.ok.kind, I.ok.glob, I.ok.blt, I.ok.above, I.ok.inj, I.ok.has, I.ok.cab, (fun z => nomatch z), I.ok.frames, I.ok.stk, I.ok.exf, I.ok.bs, I.ok.bsz, I.ok.noex, I.ok.exfs, I.ok.funs, I.ok.frf⟩, I.os, I.bare, I.base, I.loc, I.cell, I.free, I.freeC, I.pin, I.hok, I.len⟩
theorem Inv.hnx (I : Inv X pins σ H s) (a : Addr) : Inv (X.hnx a) pins σ H s :=
  ⟨⟨I.ok.mod, I.ok.kind, I.ok.glob, I.ok.blt, I.ok.above, I.ok.inj, I.ok.has, I.ok.cab, (fun z => nomatch z), I.ok.frames, I.ok.stk, I.ok.exf, I.ok.bs, I.ok.bsz, I.ok.noex, I.ok.exfs, I.ok.funs, I.ok.frf⟩, I.os, I.bare, I.base, I.loc, I.cell, I.free, I.freeC, I.pin, I.hok, I.len⟩
theorem Inv.unhnd {a : Addr} (I : Inv (X.hnd a) pins σ H s) (ok : X.Ok) : Inv X pins σ H s := ⟨ok, I.os, I.bare, I.base, I.loc, I.cell, I.free, I.freeC, I.pin, I.hok, I.len⟩
theorem Inv.unhnx {a : Addr} (I : Inv (X.hnx a) pins σ H s) (ok : X.Ok) : Inv X pins σ H s := ⟨ok, I.os, I.bare, I.base, I.loc, I.cell, I.free, I.freeC, I.pin, I.hok, I.len⟩
theorem Inv.lost {h' : Heap} {m' : Str → Option Value} {t : Nat} (I : Inv X pins σ H s) (hn : h'.Ns X.env.locals m') (hs : Heap.SameBut X.env.locals s.heap h') : Inv X pins (List.replicate X.N.length none) H { s with heap := h', toks := t } := by
  obtain ⟨m, ⟨oL, _, _, hoL, _⟩, _⟩ := id I.loc
  have nl : ∀ b o, X.s₀.heap.get? b = some o → b ≠ X.env.locals := fun b o e => Nat.ne_of_lt (Nat.lt_of_lt_of_le (Heap.lt_size e) I.ok.above)
  refine ⟨I.ok, I.os, I.bare, ⟨fun b o e n hb hx => (hs.2 b (nl b o e)).trans (I.base.keep b o e n hb hx), fun b o e n hb hx => ?_, I.base.free, fun b o e hx => ?_, I.base.tups, I.base.frzs, I.base.tbls⟩, ⟨m', hn, fun j y v' e1 e2 e3 => ?_⟩, fun y c e => ?_, I.free, I.freeC, fun p hp => ?_, fun b ob e => ?_, by rw [List.length_replicate]⟩
  · obtain ⟨sl, e1⟩ := I.base.slot b o e n hb hx
    exact ⟨sl, (hs.2 b (nl b o e)).trans e1⟩
  · obtain ⟨o', e1⟩ := I.base.there b o e hx
    exact ⟨o', (hs.2 b (nl b o e)).trans e1⟩
  · rw [List.getElem?_replicate] at e2
    split at e2
    · cases e2
    · cases e2
  · obtain ⟨w', z⟩ := I.cell y c e
    exact ⟨w', z.sameBut hs (I.cne y c e)⟩
  · obtain ⟨e, n, ne, nf, d⟩ := I.pin p hp
    exact ⟨(hs.2 p.1 ne).trans e, n, ne, nf, d⟩
  · refine (I.hok b ob e).stay (fun c w' hc q => (hs.2 c ?_).trans q) (fun _ q => q) fun _ _ q => q
    rintro rfl
    rcases hc with rfl | hc
    · rw [I.free] at e; cases e
    · rw [I.free] at hc; cases hc
end
/-- an exception that was caught -/
def xo (a C : Addr) (d : Option Addr) (b : Bool) : HO := .ext fun h => ∃ o, h.get? a = some o ∧ Ex C d b o
theorem fly_got {P : Program} {w : World} {fs : List Addr} {H0 H : Hp} {g h : Heap} {a C : Addr} {d : Option Addr} {b0 : Bool} (u : Un fs [] H0 H g h) (hok : HOk P w H h) (f : Fly g h H a C d b0) : Un fs [] H0 (upd H a (xo a C d b0)) g h ∧ HOk P w (upd H a (xo a C d b0)) h := by
  obtain ⟨Ha, ga, oe, vs, T, oT, ts, ⟨he, hd, _, hx⟩, _⟩ := f
  have ne : ∀ b o, H b = some o → b ≠ a := fun b o e z => by rw [z, Ha] at e; cases e
  have same : ∀ b o, H b = some o → upd H a (xo a C d b0) b = some o := fun b o e => by rw [upd_ne (ne b o e)]; exact e
  refine ⟨⟨u.keep, u.slot, fun b o e n hx => ?_, u.there, fun b xs e => same _ _ (u.tups b xs e), fun b o v e => same _ _ (u.frzs b o v e), fun b ps e => ?_⟩, fun b o e => ?_⟩
  · rw [upd_ne (fun z => by rw [z, ga] at e; cases e)]
    exact u.free b o e n hx
  · obtain ⟨more, z⟩ := u.tbls b ps e
    exact ⟨more, same _ _ z⟩
  · by_cases hb : b = a
    · subst hb
      rw [upd_same] at e
      cases e
      exact ⟨⟨oe, he, hx⟩, ⟨oe, he⟩, fun h1 h2 ⟨o, e, r⟩ k => ⟨o, k o e, r⟩⟩
    · rw [upd_ne hb] at e
      exact (hok b o e).stay (fun _ _ _ q => q) (fun c q => same _ _ q) fun c xs q => same _ _ q
theorem exc_matches {M : Model} {A : Around} {E : Value → Shared → Prop} {s : Shared} {K : PySem.W.Frag} {C CF a : Addr} {oe : Obj} {b : Bool} {Q : Bool → Shared → Prop} (X : K.In s.heap) (e : PySem.W.kitCls K (.ref C) (.ref CF) = some b)
    (eB : PySem.W.subIn K (.ref CF) (.type "BaseException") = some true) (he : s.heap.get? a = some oe) (hc : oe.cls = .ref C) (hq : Q b s) : wpAny M A (excMatches (.ref a) (.ref CF)) Q E s := by
  obtain ⟨h, g, d, t, os⟩ := s
  obtain ⟨hty, his, hsub⟩ := PySem.W.kit_cls (M := M) X e
  have hB := PySem.W.looks_subIn (M := M) X eB
  have L0 : PySem.W.Looks M h (typeOf (.ref a)) (.ref C) := hc ▸ (PySem.W.Looks.ld he).andThen .now
  have f := tc_notTuple
  unfold excMatches isExcClass isInstance
  repeat lk
  cases b <;> repeat lk
  all_goals exact hq
end L2
namespace L2
open PySem PySem.Spec PyProof.Rows
/-! ### try: a call; except C as n: a suite that ends with return -/
def tTryAs (ok : Addr → Prop) (i : Nat) (tb : TB) (th : Addr → TS) : TS := fun D σ H => ∃ E : XK, tb D σ H E ∧ ∀ C d b H', E (cv C b) d H' → ok C ∧ ∀ a, H' a = none → th a { nx := fun _ _ => False, rt := D.rt } (σ.set i (some (.ref a))) (upd H' a (xo a C d b))
section
variable {X : Cx} {body suite : List Stmt} {b0 : Stmt} {tb : TB} {th : Addr → TS} {cx n : Str} {np hpos pos : Pos} {CF : Addr}
theorem ps_tryAs (i : Nat) (hm : X.mg cx = some (.ref CF)) (hB : PySem.W.subIn X.K (.ref CF) (.type "BaseException") = some true) (hb : Pb X body tb) (hs : ∀ a, Ss (X.hnd a) (b0 :: suite) (th a)) (hN : X.N.Nodup)
    (hi : X.N[i]? = some n := by rfl) (hl : X.env.kindOf n = some .local := by rfl) (hst : X.stack = X.env :: X.outer := by rfl) (hfr : X.env.frame = some X.env.locals := by rfl) (hg : Gl X cx := by rfl) (hdb : (cx == ("__debug__" : Str)) = false := by decide) :
    PS X (.Try body [.ExceptHandler (some (.Name cx np)) (some n) (b0 :: suite) hpos] [] [] pos) (tTryAs (fun C => PySem.W.kitCls X.K (.ref C) (.ref CF) = some true) i tb th) := by
  intro pins s σ H D I ⟨E, hw, hh⟩
  refine wpAny_Try_except (wpAny_mono (hb.h pins s σ H D E I hw) (fun f s1 q => ?_) fun e s1 hx => ?_)
  · cases f with
    | next => exact wpAny_execs_nil q
    | ret v => exact q
    | brk => exact q
    | cont => exact q
  obtain ⟨s0, H0, I0, a, C, d, bb, H', rfl, os, bare, un, hok, fly, qE⟩ := hx
  obtain ⟨hC, hh⟩ := hh C d bb H' qE
  have I1 : Inv X pins σ H' s1 := I0.call' os un hok bare (fun _ z => nomatch z)
  obtain ⟨T, hT, fl⟩ := fly.flying I1.stack
  have hid : ∀ b ∈ frs X.stack ++ [a, T], b ∈ frs X.stack ∨ (H' b = none ∧ s0.heap.get? b = none) := fun b hb => by
    rcases List.mem_append.mp hb with z | z
    · exact .inl z
    · rcases List.mem_cons.mp z with rfl | z
      · exact .inr ⟨fly.1, fly.2.1⟩
      · obtain rfl : b = T := by simpa using z
        exact .inr hT
  have frames : X.A.frames = some (X.env :: X.outer) := by rw [I.ok.frames, hst]
  have fl' := fl
  rw [hst] at fl'
  refine fg_next (kn_ex C d bb) frames hfr (hst ▸ fl) fun h4 held4 sm4 => ?_
  refine fg_mark none held4 fun h5 fl5 sm5 => ?_
  obtain ⟨u5, hok5, fly5⟩ := fly_on (fs := frs X.stack) un hok I1.stkFree (funf I1.stack) (by rw [hst] at hid ⊢; exact hid) fl5 (sm4.trans sm5) fly.2.1 fly.1
  have I5 : Inv X pins σ H' { s1 with heap := h5 } := I0.call' os u5 hok5 bare (fun _ z => nomatch z)
  refine wpAny_handleBy_cons (codeAny_handlers_test ?_) (by intro q; cases q)
  have J5 := I5.hnd a
  refine ld_glob (X := X.hnd a) J5 hg hm ?_ hdb
  obtain ⟨_, _, oe, vs5, _, _, _, ⟨he5, _, _, hc5, _⟩, _⟩ := fly5
  refine exc_matches J5.kIn hC hB he5 hc5 ?_
  refine codeAny_handlers_suite_as ?_
  refine fg_mark none fl5 fun h6 fl6 sm6 => ?_
  obtain ⟨u6, hok6, fly6⟩ := fly_on (fs := frs X.stack) un hok I1.stkFree (funf I1.stack) (by rw [hst] at hid ⊢; exact hid) fl6 ((sm4.trans sm5).trans sm6) fly.2.1 fly.1
  obtain ⟨u7, hok7⟩ := fly_got u6 hok6 fly6
  have I7 : Inv X pins σ (upd H' a (xo a C d bb)) { s1 with heap := h6 } := I0.call' os u7 hok7 bare (fun _ z => nomatch z)
  refine store_ok (X := X.hnd a) (I7.hnd a) hN hi (.inl hl) (show RelV (.ref a) (.ref a) from rfl) (fun s8 I8 => ?_) (.inr hl)
  refine wpAny_mono ((hs a).h pins s8 _ _ _ I8 (hh a fly.1)) (fun f s9 q => ?_) fun _ _ z => False.elim z
  cases f with
  | next => obtain ⟨_, _, _, q⟩ := q; exact False.elim q
  | brk => obtain ⟨_, _, _, q⟩ := q; exact False.elim q
  | cont => obtain ⟨_, _, _, q⟩ := q; exact False.elim q
  | ret u =>
    obtain ⟨v, σ', H3, I9, r, q⟩ := q
    have I9' : Inv X pins σ' H3 s9 := I9.unhnd I.ok
    obtain ⟨m9, hn9, _⟩ := I9'.loc
    refine wpAny_nameGoes hl hn9 (by rw [I.ok.kind]; rfl) fun h' m' hn' hs' => ?_
    exact ⟨v, _, H3, I9'.lost hn' hs', r, q⟩
theorem sTryAs (i : Nat) (hm : X.mg cx = some (.ref CF)) (hB : PySem.W.subIn X.K (.ref CF) (.type "BaseException") = some true) (hb : Pb X body tb) (hs : ∀ a, Ss (X.hnd a) (b0 :: suite) (th a)) (hN : X.N.Nodup)
    (hi : X.N[i]? = some n := by rfl) (hl : X.env.kindOf n = some .local := by rfl) (hst : X.stack = X.env :: X.outer := by rfl) (hfr : X.env.frame = some X.env.locals := by rfl) (hg : Gl X cx := by rfl) (hdb : (cx == ("__debug__" : Str)) = false := by decide) :
    S X (.Try body [.ExceptHandler (some (.Name cx np)) (some n) (b0 :: suite) hpos] [] [] pos) (tTryAs (fun C => PySem.W.kitCls X.K (.ref C) (.ref CF) = some true) i tb th) := ⟨ps_tryAs i hm hB hb hs hN hi hl hst hfr hg hdb⟩
end
section
variable {X : Cx} {E : XK} {x : Str} {C : Addr} {e : Expr} {es : List Expr} {tA : TA} {np cpos pos p : Pos} {k k' : Nat} {ps : List Str} {sp : Sp}
theorem sRz (hM : Made X E) (c : Xc X.K X.mg x C) (ha : As X (e :: es) tA) (hex : X.ex = [] := by rfl) (hc : X.calm = true := by rfl) (hg : Gl X x := by rfl) (hdb : (x == ("__debug__" : Str)) = false := by decide)
    (he : starEach (e :: es) X.env = (false, eval e X.env) :: starEach es X.env := by rfl) (hpl : (backTo cpos (starEach es X.env)).any (·.1) = false := by rfl) :
    S X (.Raise (some (.Call (.Name x np) (e :: es) [] cpos)) none pos) (tRaise C E tA) := ⟨ps_raise hM c ha.h hex hc hg hdb he hpl⟩
theorem eD1 (D : Df1 X.prog X.w X.K X.mg X.base x k ps sp) (hr : Room k' X.A) (hp : Passes (CX1 X.prog X.w) X E) (ha : As X (e :: es) tA) (hk : k ≤ k' := by decide) (hg : Gl X x := by rfl)
    (hdb : (x == ("__debug__" : Str)) = false := by decide) (he : starEach (e :: es) X.env = (false, eval e X.env) :: starEach es X.env := by rfl) (hpl : (backTo pos (starEach es X.env)).any (·.1) = false := by rfl) :
    L2.E X (.Call (.Name x p) (e :: es) [] pos) (tCall sp [] E tA) := by
  obtain ⟨f, fd, F, hb, hm, kp⟩ := D.ex
  exact ⟨pe_call F (hr.mono hk) hg hm kp hb .nil hp ha.h hdb he hpl⟩
end
/-! ### isinstance of what was caught -/
structure XF (K : PySem.W.Frag) (C : Addr) : Prop where
  cls : (PySem.W.clsIn K C).isSome = true
  ga : PySem.W.findIn K (.ref C) "__getattribute__" = some (some (.builtin "BaseException.__getattribute__"))
  nga : PySem.W.findIn K (.ref C) "__getattr__" = some none
  ca : PySem.W.findIn K (.ref C) "__class__" = some (some (.builtin "object.__class__"))
  cg : PySem.W.specialIn K (.builtin "object.__class__") "__get__" = some (some (.builtin "getset_descriptor.__get__"))
  ct : PySem.W.takesIn K (.builtin "object.__class__") = some true
  mo : PySem.W.mroIn K C (.type "object") = some true
  mb : PySem.W.mroIn K C (.type "BaseException") = some true
def AtC (a C : Addr) (h : Heap) : Prop := ∃ o vs, h.get? a = some o ∧ o.cls = .ref C ∧ o.data = .fields vs
theorem AtC.of {a C : Addr} {d : Option Addr} {b : Bool} {h : Heap} (x : ∃ o, h.get? a = some o ∧ Ex C d b o) : AtC a C h := by
  obtain ⟨o, e, h1, _, vs, h2, _⟩ := x
  exact ⟨o, vs, e, h1, h2⟩
theorem AtC.ty {M : Model} {a C : Addr} {h : Heap} (x : AtC a C h) : PySem.W.Looks M h (typeOf (.ref a)) (.ref C) := by
  obtain ⟨o, vs, h1, h2, _⟩ := x
  exact h2 ▸ (PySem.W.Looks.ld h1).andThen .now
end L2
namespace L2
open PySem PySem.Spec PyProof.Rows
section
open PySem.W
variable {prog : Program} {w : World} {A : Around} {E : Value → Shared → Prop} {s : Shared} {K : PySem.W.Frag} {a C : Addr}
open Builtin Builtin.ObjectAttr Builtin.Getset_descriptor in
theorem exc_class_get {tp : Value} {R : Result → Shared → Prop} (F : XF K C) (X : K.In s.heap) (I : AtC a C s.heap) (h : R (.ok (.ret (.ref C))) s) :
    codeAny (model prog w) A (.call (.builtin "getset_descriptor.__get__") ⟨[.builtin "object.__class__", .ref a, tp], []⟩) R s := by
  obtain ⟨hh, g, dr, t, os⟩ := s
  have ofC := I.ty (M := model prog w)
  have obj := PySem.W.looks_mroIn (M := model prog w) X F.mo
  have gs := KF.slot_gs
  refine codeAny_call_builtin gs.plain KF.entry_gs (gs.check _ _ _ _ _ _ _ _ KF.type_class (KF.args_gs _ _ _) ?_)
  simp only [Builtin.«getset_descriptor.__get__», descrGet, dga_obj]
  refine wpAny_bind (wpAny_pure ?_)
  simp only [descrGetter, descrCheckInstance, descrNameAndClass, isInstance, KF.owner_class]
  repeat lk
  constructor
  · exact Code.quiet_builtin _ (by decide +kernel)
  · apply codeAny_builtin KF.entry_class
    simp only [Builtin.«object.__class__», shownTypeOf]
    repeat lk
    exact h
theorem exc_ga_check {M : Model} {nameV : Value} {Q : Unit → Shared → Prop} (F : XF K C) (X : K.In s.heap) (I : AtC a C s.heap) (hq : Q () s) : wpAny M A (checkBuiltinCall "BaseException.__getattribute__" ⟨[.ref a, nameV], []⟩) Q E s := by
  obtain ⟨hh, g, d, t, os⟩ := s
  have L0 := I.ty (M := M)
  have L1 := PySem.W.looks_mroIn (M := M) X F.mb
  have hk : builtinKind "BaseException.__getattribute__" = some .slot := by decide +kernel
  have hsplit : splitId "BaseException.__getattribute__" = some ("BaseException", "__getattribute__") := by decide +kernel
  have ha := PySem.F.args_bexc_ga (.ref a) nameV
  simp only [checkBuiltinCall, hk, hsplit]
  refine wpAny_bind ?_
  unfold isInstance
  repeat (first | lk | wp_step)
  exact hq
open Builtin Builtin.ObjectAttr in
theorem exc_find {M : Model} {h : Heap} (F : XF K C) (X : K.In h) : Looks M h (Builtin.ObjectAttr.find (.ref a) (.ref C) "__class__") (.bind (.builtin "getset_descriptor.__get__") (.builtin "object.__class__")) := by
  have L1 := PySem.W.looks_findIn (M := M) X F.ca
  have L2 : Looks M h (getOf (some (.builtin "object.__class__"))) (some (.builtin "getset_descriptor.__get__")) := PySem.W.looks_specialIn X F.cg
  have L3 := PySem.W.looks_takesIn (M := M) X F.ct
  intro A Q E s k q
  unfold Builtin.ObjectAttr.find
  refine wpAny_bind (L1 A _ E s k ?_)
  refine wpAny_bind (L2 A _ E s k ?_)
  refine wpAny_bind (wpAny_bind (L3 A _ E s k ?_))
  simp only [if_true]
  refine wpAny_pure ?_
  exact wpAny_bind (wpAny_rule (wpAny_pure q))
theorem exc_class_attr {Q : Option Value → Shared → Prop} (F : XF K C) (X : K.In s.heap) (I : AtC a C s.heap) (h : Q (some (.ref C)) { s with toks := s.toks + 1 }) : wpAny (model prog w) A (getAttr? (.ref a) "__class__") Q E s := by
  obtain ⟨hh, g, d, t, os⟩ := s
  have L0 := I.ty (M := model prog w)
  have L1 := PySem.W.looks_findIn (M := model prog w) X F.ga
  have L2 := PySem.W.looks_findIn (M := model prog w) X F.nga
  have f3 := PySem.F.attr_ValueError.ga.bind (.ref a)
  unfold getAttr? getAttrBy? getAttrBy
  refine wpAny_bind (wpAny_mkText (wpAny_bind (wpAny_attempt (wpAny_holding ?_))))
  refine wpAny_bind (L0.at ?_)
  refine wpAny_bind (L1.at ?_)
  show wpAny _ _ (getAttrByItsOwn _ _ _ _ _ _) _ _ _
  unfold getAttrByItsOwn
  repeat (first | assumption | with_reducible refine Looks.at (by assumption) ?_ | wp_step)
  refine codeAny_call_builtin PySem.F.attr_ValueError.ga.plain PySem.F.entry_bexc_ga (exc_ga_check F X I ?_)
  have L4 := exc_find (a := a) (M := model prog w) F X
  unfold Builtin.«object.__getattribute__»
  repeat (first | assumption | with_reducible refine Looks.at (by assumption) ?_ | wp_step)
  refine exc_class_get F X I ?_
  exact wpAny_pure (wpAny_of_eq (PySem.W.handedOut_of rfl) (wpAny_pure h))
theorem kitx_exc (F : XF K C) : KitX K (.ref a) (.ref C) (AtC a C) where
  ty := fun _ _ _ I => I.ty
  it := fun _ _ X _ => by
    obtain ⟨cdD, hcD⟩ := Option.isSome_iff_exists.mp F.cls
    unfold clsIn at hcD
    split at hcD
    · next ho =>
      intro A' Q' E' s' k q
      unfold isType loadHead
      exact wpAny_bind (wpAny_loadPart (k _ _ (X _ _ ho)) (wpAny_pure q))
    · cases hcD
  ne := fun h tp dd its n sl X htp => by
    obtain ⟨cdD, hcD⟩ := Option.isSome_iff_exists.mp F.cls
    refine Bool.eq_false_iff.mpr fun q => ?_
    obtain rfl : C = tp := Value.ref.inj (beq_iff_eq.mp q)
    unfold clsIn at hcD
    split at hcD
    · next ho =>
      have z := (X _ _ ho).symm.trans htp
      cases z
    · cases hcD
  ca := fun X I k => exc_class_attr F X I k
end
/-- isinstance(e, C) of what was caught, C an own class or a type -/
theorem cXi {X : Cx} : Cl1 X (.builtin "isinstance") (fun xs H Q => ∃ (a C C' : Addr) (d : Option Addr) (b0 b : Bool), xs = [.ref a, .ref C'] ∧ H a = some (xo a C d b0) ∧ XF X.K C ∧ PySem.W.kitOne X.K (.ref C) (.ref C') = some b ∧ Q (.bl b) H) := by
  refine ⟨fun pins s σ H xs us Q I r h => ?_⟩
  obtain ⟨a, C, C', d, b0, b, rfl, ha, F, e, q⟩ := h
  obtain ⟨u, w', rfl, r1, r2⟩ := vals2 r
  cases r1
  cases r2
  exact PySem.W.kia_one (kitx_exc F) I.kIn (AtC.of (I.hok a _ ha).1) e (fun z => nomatch z) fun tk => ⟨.bl b, H, I.tok _, rfl, q⟩
theorem cXy {X : Cx} : Cl1 X (.builtin "isinstance") (fun xs H Q => ∃ (a C : Addr) (T : String) (d : Option Addr) (b0 b : Bool), xs = [.ref a, .ty T] ∧ H a = some (xo a C d b0) ∧ XF X.K C ∧ PySem.W.kitOne X.K (.ref C) (.type T) = some b ∧ Q (.bl b) H) := by
  refine ⟨fun pins s σ H xs us Q I r h => ?_⟩
  obtain ⟨a, C, T, d, b0, b, rfl, ha, F, e, q⟩ := h
  obtain ⟨u, w', rfl, r1, r2⟩ := vals2 r
  cases r1
  cases r2
  exact PySem.W.kia_one (kitx_exc F) I.kIn (AtC.of (I.hok a _ ha).1) e (fun z => nomatch z) fun tk => ⟨.bl b, H, I.tok _, rfl, q⟩
theorem vals_refs : ∀ {Cs : List Addr} {us : List Value}, Vals (Cs.map V.ref) us → us = Cs.map Value.ref
  | [], _, .nil => rfl
  | c :: Cs, _, .cons h r => by
    cases h
    rw [vals_refs r]
    rfl
theorem cXt {X : Cx} : Cl1 X (.builtin "isinstance") (fun xs H Q => ∃ (a C tp : Addr) (Cs : List Addr) (d : Option Addr) (b0 b : Bool), xs = [.ref a, .ref tp] ∧ H a = some (xo a C d b0) ∧ XF X.K C ∧ SqT X.K H tp (Cs.map V.ref) ∧ PySem.W.kitAny X.K (.ref C) (Cs.map Value.ref) = some b ∧ Q (.bl b) H) := by
  refine ⟨fun pins s σ H xs us Q I r h => ?_⟩
  obtain ⟨a, C, tp, Cs, d, b0, b, rfl, ha, F, hS, e, q⟩ := h
  obtain ⟨u, w', rfl, r1, r2⟩ := vals2 r
  cases r1
  cases r2
  obtain ⟨its, rv, ⟨o, ho, hc, n, hd⟩, _⟩ := I.tuple hS
  obtain ⟨oc, od, oda, osl⟩ := o
  cases hc
  cases hd
  rw [← vals_refs rv] at e
  exact PySem.W.kia_tup (kitx_exc F) I.kIn (AtC.of (I.hok a _ ha).1) ho e (fun z => nomatch z) fun tk => ⟨.bl b, H, I.tok _, rfl, q⟩
end L2
namespace L2
open PySem PySem.Spec PyProof.Rows
/-! ### try: a call; except C: a suite that ends with return -/
def tTry0 (ok : Addr → Prop) (tb : TB) (th : Addr → TS) : TS := fun D σ H => ∃ E : XK, tb D σ H E ∧ ∀ C d b H', E (cv C b) d H' → ok C ∧ ∀ a, H' a = none → th a { nx := fun _ _ => False, rt := D.rt } σ (upd H' a (xo a C d b))
section
variable {X : Cx} {body suite : List Stmt} {b0 : Stmt} {tb : TB} {th : Addr → TS} {cx : Str} {np hpos pos : Pos} {CF : Addr}
theorem sTry0 (hm : X.mg cx = some (.ref CF)) (hB : PySem.W.subIn X.K (.ref CF) (.type "BaseException") = some true) (hb : Pb X body tb) (hs : ∀ a, Ss (X.hnx a) (b0 :: suite) (th a))
    (hst : X.stack = X.env :: X.outer := by rfl) (hfr : X.env.frame = some X.env.locals := by rfl) (hg : Gl X cx := by rfl) (hdb : (cx == ("__debug__" : Str)) = false := by decide) :
    S X (.Try body [.ExceptHandler (some (.Name cx np)) none (b0 :: suite) hpos] [] [] pos) (tTry0 (fun C => PySem.W.kitCls X.K (.ref C) (.ref CF) = some true) tb th) := by
  refine ⟨fun pins s σ H D I ⟨E, hw, hh⟩ => ?_⟩
  refine wpAny_Try_except (wpAny_mono (hb.h pins s σ H D E I hw) (fun f s1 q => ?_) fun e s1 hx => ?_)
  · cases f with
    | next => exact wpAny_execs_nil q
    | ret v => exact q
    | brk => exact q
    | cont => exact q
  obtain ⟨s0, H0, I0, a, C, d, bb, H', rfl, os, bare, un, hok, fly, qE⟩ := hx
  obtain ⟨hC, hh⟩ := hh C d bb H' qE
  have I1 : Inv X pins σ H' s1 := I0.call' os un hok bare (fun _ z => nomatch z)
  obtain ⟨T, hT, fl⟩ := fly.flying I1.stack
  have hid : ∀ b ∈ frs X.stack ++ [a, T], b ∈ frs X.stack ∨ (H' b = none ∧ s0.heap.get? b = none) := fun b hb => by
    rcases List.mem_append.mp hb with z | z
    · exact .inl z
    · rcases List.mem_cons.mp z with rfl | z
      · exact .inr ⟨fly.1, fly.2.1⟩
      · obtain rfl : b = T := by simpa using z
        exact .inr hT
  have frames : X.A.frames = some (X.env :: X.outer) := by rw [I.ok.frames, hst]
  refine fg_next (kn_ex C d bb) frames hfr (hst ▸ fl) fun h4 held4 sm4 => ?_
  refine fg_mark none held4 fun h5 fl5 sm5 => ?_
  obtain ⟨u5, hok5, fly5⟩ := fly_on (fs := frs X.stack) un hok I1.stkFree (funf I1.stack) (by rw [hst] at hid ⊢; exact hid) fl5 (sm4.trans sm5) fly.2.1 fly.1
  have I5 : Inv X pins σ H' { s1 with heap := h5 } := I0.call' os u5 hok5 bare (fun _ z => nomatch z)
  refine wpAny_handleBy_cons (codeAny_handlers_test ?_) (by intro q; cases q)
  have J5 := I5.hnx a
  refine ld_glob (X := X.hnx a) J5 hg hm ?_ hdb
  obtain ⟨_, _, oe, vs5, _, _, _, ⟨he5, _, _, hc5, _⟩, _⟩ := fly5
  refine exc_matches J5.kIn hC hB he5 hc5 ?_
  refine codeAny_handlers_suite ?_
  refine fg_mark none fl5 fun h6 fl6 sm6 => ?_
  obtain ⟨u6, hok6, fly6⟩ := fly_on (fs := frs X.stack) un hok I1.stkFree (funf I1.stack) (by rw [hst] at hid ⊢; exact hid) fl6 ((sm4.trans sm5).trans sm6) fly.2.1 fly.1
  obtain ⟨u7, hok7⟩ := fly_got u6 hok6 fly6
  have I7 : Inv X pins σ (upd H' a (xo a C d bb)) { s1 with heap := h6 } := I0.call' os u7 hok7 bare (fun _ z => nomatch z)
  refine wpAny_mono ((hs a).h pins _ _ _ _ (I7.hnx a) (hh a fly.1)) (fun f s9 q => ?_) fun _ _ z => z
  cases f with
  | next => obtain ⟨_, _, _, q⟩ := q; exact False.elim q
  | brk => obtain ⟨_, _, _, q⟩ := q; exact False.elim q
  | cont => obtain ⟨_, _, _, q⟩ := q; exact False.elim q
  | ret u =>
    obtain ⟨v, σ', H3, I9, r, q⟩ := q
    exact ⟨v, σ', H3, I9.unhnx I.ok, r, q⟩
end
end L2

namespace L2
open PySem PySem.Spec PyProof.Rows
/-! ### raise .. from None within an except suite -/
theorem entry_unchain : entryFor table "proto.unchain" = some Builtin.«proto.unchain» := entryFor_of_tree (by kernel_rfl)
theorem plain_unchain : plainId "proto.unchain" = true := by decide +kernel
/-- an exception that was just made -/
def PX (e C : Addr) (d : Option Addr) (h : Heap) : Prop := ∃ (vs : Array Value) (sl : Array (Option Value)), h.get? e = some ⟨.ref C, d, .fields vs, sl⟩ ∧ vs[1]? = some .none ∧ 4 < vs.size
section
variable {prog : Program} {w : World} {A : Around} {E : Value → Shared → Prop} {s : Shared} {e C a : Addr} {d : Option Addr}
theorem px_set {M : Model} {i : Nat} {x : Value} {Q : Unit → Shared → Prop} (h : PX e C d s.heap) (hi : i ≤ 4) (h1 : i ≠ 1) (k : ∀ h', Heap.SameBut e s.heap h' → PX e C d h' → Q () { s with heap := h' }) : wpAny M A (setField (.ref e) i x) Q E s := by
  obtain ⟨vs, sl, he, hn, hz⟩ := h
  refine wpAny_setField he rfl (by omega) (k _ (Heap.SameBut.update _ _ _) ⟨vs.setIfInBounds i x, sl, Heap.get?_update_self (Obj.mapFields (·.setIfInBounds i x)) he rfl, ?_, ?_⟩)
  · rw [Array.getElem?_setIfInBounds_ne h1]
    exact hn
  · rw [Array.size_setIfInBounds]
    exact hz
theorem unchain0 {v : Value} {oa : Obj} {va : Array Value} {Q : Value → Shared → Prop} (ho : s.heap.get? a = some oa) (hd : oa.data = .fields va) (h2 : va[2]? = some .none) (q : Q .none s) :
    wpAny (model prog w) A (runValue (.builtin "proto.unchain" ⟨[v, .ref a, .ref a, .bool false], []⟩)) Q E s := by
  refine wpAny_runValue (codeAny_builtin entry_unchain ?_)
  rw [Around.under_plainId plain_unchain _]
  unfold Builtin.«proto.unchain»
  refine wpAny_bind (wpAny_field ho hd h2 ?_)
  rw [if_pos (by decide)]
  exact wpAny_pure q
theorem raise_within {β : Type} {Q : β → Shared → Prop} {oa : Obj} {va : Array Value} (h : PX e C d s.heap) (hh : A.handled = some (.ref a)) (ne : a ≠ e) (ho : s.heap.get? a = some oa) (hd : oa.data = .fields va) (h2 : va[2]? = some .none)
    (k : ∀ h', Heap.SameBut e s.heap h' → PX e C d h' → E (.ref e) { s with heap := h' }) : wpAny (model prog w) A (raiseNew (.ref e) : Sem β) Q E s := by
  unfold raiseNew
  refine wpAny_bind (wpAny_handled ?_)
  rw [hh]
  dsimp only
  rw [if_pos (by simp [ne])]
  refine wpAny_bind (wpAny_holding (unchain0 ho hd h2 ?_))
  refine wpAny_bind (px_set (i := 2) h (by decide) (by decide) fun h' sb px => ?_)
  exact wpAny_throw (k h' sb px)
end
/-- a class of exceptions of one's own -/
def IsXC (C : Addr) (h : Heap) : Prop := ∃ nm q N bs bm hdct sn sub ab col dd k0 k1 k2 k3 k5 newId, h.get? C = some (excClassObj nm q C N bs bm hdct sn sub ab col dd k0 k1 k2 k3 k5 newId) ∧ bm.contains (.type "BaseException") = true
section
variable {prog : Program} {w : World} {A : Around} {E : Value → Shared → Prop} {s : Shared} {env : Env} {e C a : Addr} {d : Option Addr}
theorem raiseStmt_within {x c : Sem Value} {Q : Flow → Shared → Prop} (hh : A.handled = some (.ref a)) (hc : ∀ (s1 : Shared) (R : Value → Shared → Prop), R .none s1 → wpAny (model prog w) A c R E s1)
    (h : wpAny (model prog w) A x (fun v s₁ => ∃ e d oa va, v = .ref e ∧ IsXC C s₁.heap ∧ PX e C d s₁.heap ∧ e ≠ C ∧ a ≠ e ∧ s₁.heap.get? a = some oa ∧ oa.data = .fields va ∧ va[2]? = some .none ∧
      ∀ h', Heap.SameBut e s₁.heap h' → PX e C d h' → E (.ref e) { s₁ with heap := h' }) E s) :
    wpAny (model prog w) A (raiseStmt env (some x) (some c)) Q E s := by
  unfold raiseStmt
  refine wpAny_bind (wpAny_mono h (fun v s1 h1 => ?_) fun _ _ z => z)
  obtain ⟨e, d, oa, va, rfl, ⟨nm, q, N, bs, bm, hdct, sn, sub, ab, col, dd, k0, k1, k2, k3, k5, newId, hC, hB⟩, px, neC, nea, ho, hd, h2, k⟩ := h1
  have inB : (Value.ref C :: bm).contains (.type "BaseException") = true := by rw [List.contains_cons, hB, Bool.or_true]
  refine wpAny_bind (wpAny_holding (hc _ _ (wpAny_bind (wpAny_pure ?_))))
  obtain ⟨hp, g, dr, tk, os⟩ := s1
  obtain ⟨vs, sl, he, hn, hz⟩ := id px
  refine wpAny_bind (wpAny_holding ?_)
  generalize hsf : setField = sf
  unfold excFromValue isExcClass isInstance
  repeat (first | with_reducible refine wpAny_loadPart_at he ?_ | with_reducible refine wpAny_loadPart_at hC ?_ | (with_reducible refine wpAny_isSubtype_exc hC ?_; rw [inB]) | wp_step)
  subst hsf
  refine px_set px (by decide) (by decide) fun h3 b3 px3 => ?_
  refine wpAny_bind (px_set px3 (by decide) (by decide) fun h4 b4 px4 => ?_)
  have b34 := b3.trans b4
  have hC4 : h4.get? C = some (excClassObj nm q C N bs bm hdct sn sub ab col dd k0 k1 k2 k3 k5 newId) := (b34.2 C neC.symm).trans hC
  have ho4 : h4.get? a = some oa := (b34.2 a nea).trans ho
  obtain ⟨vs4, sl4, he4, hn4, hz4⟩ := id px4
  generalize hsf : @setFlight = sf
  generalize hrn : @raiseNew = rn
  unfold raisedInstance
  repeat (first | with_reducible refine wpAny_loadPart_at he4 ?_ | with_reducible refine wpAny_loadPart_at hC4 ?_ | wp_step)
  subst hsf
  subst hrn
  unfold setFlight
  refine wpAny_bind (wpAny_field he4 rfl hn4 ?_)
  rw [if_neg (by decide)]
  refine wpAny_pure ?_
  exact raise_within px4 hh nea ho4 hd h2 fun h5 b5 px5 => k h5 (b34.trans b5) px5
end
end L2
namespace L2
open PySem PySem.Spec PyProof.Rows
def tRaiseF (a C : Addr) (E : XK) (t : TA) : TS := fun _ σ H => t σ H fun vs H1 => vs.length ≤ sizeLine ∧ (∃ C' d', H1 a = some (xo a C' d' true)) ∧ E (wc C) none H1
/-- what is made in an except suite may leave so -/
def MadeH (X : Cx) (a : Addr) (E : XK) : Prop := ∀ (pins : List (Addr × Obj)) (σ : St) (H : Hp) (s : Shared) (e C : Addr) (d : Option Addr) (b : Bool) (o : Obj) (vs : Array Value), Inv (X.hnx a) pins σ H s → H e = none → X.s₀.heap.get? e = none → s.heap.get? e = some o → o.data = .fields vs → vs[1]? = some .none → Ex C d b o → E (cv C b) d H → (X.hnx a).xe (.ref e) s
section
variable {P : Program} {w : World} {K : PySem.W.Frag} {mg : Str → Option Value} {base : Heap} {N : List Str} {qual : Str} {scope : Scope} {f : Addr} {cd : Value} {A : Around} {outer : List Env} {s0 : Shared} {H0 : Hp} {E : XK}
theorem hid_stackH {pins : List (Addr × Obj)} {σ : St} {H : Hp} {s : Shared} {a' : Addr} (I : Inv ((cxOf (CX1 P w) P w K mg base N qual scope f cd A outer s0 H0 E).hnx a') pins σ H s) : ∀ b ∈ frs (envOfC qual scope s0.heap.objs.size f cd :: outer), b ∈ frs outer ∨ (H b = none ∧ s0.heap.get? b = none) := fun b hb => by
  have q : b = s0.heap.objs.size ∨ b ∈ frs outer := by
    obtain ⟨env, he, hf⟩ := List.mem_filterMap.mp hb
    rcases List.mem_cons.mp he with rfl | he
    · exact .inl (Option.some.inj hf).symm
    · exact .inr (List.mem_filterMap.mpr ⟨env, he, hf⟩)
  rcases q with rfl | q
  · exact .inr ⟨I.free, Heap.get?_none_of_le (Nat.le_refl _)⟩
  · exact .inl q
/-- one that was made here in an except suite -/
theorem made1h {pins : List (Addr × Obj)} {σ : St} {H : Hp} {s : Shared} {a C : Addr} {d : Option Addr} {b : Bool} {o : Obj} {vs : Array Value} {a' : Addr} (I : Inv ((cxOf (CX1 P w) P w K mg base N qual scope f cd A outer s0 H0 E).hnx a') pins σ H s) (Ha : H a = none) (ga : s0.heap.get? a = none)
    (ho : s.heap.get? a = some o) (hd : o.data = .fields vs) (h1 : vs[1]? = some .none) (hx : Ex C d b o) (q : E (cv C b) d H) :
    ((cxOf (CX1 P w) P w K mg base N qual scope f cd A outer s0 H0 E).hnx a').xe (.ref a) s := by
  refine fg_first (B := PySem.W.hideAll s.heap (frs (envOfC qual scope s0.heap.objs.size f cd :: outer) ++ [a])) (L := s0.heap.objs.size) (kn_ex C d b) I.ok.frames rfl (PySem.W.funFrames_hide I.stack fun env he b hb => List.mem_append_left _ (List.mem_filterMap.mpr ⟨env, he, hb⟩)) (fun b o e => PySem.W.of_hideAll _ e) (PySem.W.hideAll_none _ (by simp)) ho hd h1 hx fun h2 fl2 up => ?_
  obtain ⟨o2, vs2, T2, oT2, ts2, ⟨he2, hd2, h12, _⟩, _⟩ := fl2.tr
  refine wpAny_bind (wpAny_field he2 hd2 h12 ?_)
  rw [if_neg (by simp)]
  refine fg_mark (some s0.heap.objs.size) fl2 fun h3 fl3 up3 => ?_
  refine fg_leavesH (L := s0.heap.objs.size) rfl fl3 fun h4 fl4 up4 => ?_
  obtain ⟨u2, hok2, fly2⟩ := fly_on (fs := frs outer) I.base I.hok (fun b hb => I.stkFree b (by
      obtain ⟨env, he, hf⟩ := List.mem_filterMap.mp hb
      exact List.mem_filterMap.mpr ⟨env, List.mem_cons_of_mem _ he, hf⟩)) (funf I.funs) (fun b hb => by
    rcases List.mem_append.mp hb with z | z
    · exact hid_stackH I b z
    · obtain rfl : b = a := by simpa using z
      exact .inr ⟨Ha, ga⟩) fl4 ((up.trans up3).trans up4) ga Ha
  exact ⟨a, C, d, b, H, rfl, I.os, I.bare, u2, hok2, fly2, q⟩
theorem madeH {a : Addr} : MadeH (cxOf (CX1 P w) P w K mg base N qual scope f cd A outer s0 H0 E) a E := fun _ _ _ _ _ _ _ _ _ _ I h1 h2 h3 h4 h5 h6 q => made1h I h1 h2 h3 h4 h5 h6 q
end
section
variable {X : Cx} {E : XK} {x : Str} {C a : Addr} {e : Expr} {es : List Expr} {t : TA} {np cpos pos p2 : Pos} {j : Nat}
theorem sRzF (hM : MadeH X a E) (c : Xc X.K X.mg x C) (ha : As (X.hnx a) (e :: es) t) (hex : X.ex = [] := by rfl) (hg : Gl X x := by rfl) (hdb : (x == ("__debug__" : Str)) = false := by decide)
    (he : starEach (e :: es) X.env = (false, eval e X.env) :: starEach es X.env := by rfl) (hpl : (backTo cpos (starEach es X.env)).any (·.1) = false := by rfl) :
    S (X.hnx a) (.Raise (some (.Call (.Name x np) (e :: es) [] cpos)) (some (.Constant .none j p2)) pos) (tRaiseF a C E t) := by
  refine ⟨fun pins s σ H D I h => ?_⟩
  obtain ⟨tl, N, _, _, _, _, _, _, _, _, _, _, _, _, _, _, mN, hC, hN, no, T⟩ := (c.own I.ok.mod X.prog).obj
  have pl : (backTo cpos (starEach (e :: es) X.env)).any (·.1) = false := by
    rw [he]
    exact hpl
  have hh : (X.A.mark (some (.ref a))).handled = some (.ref a) := rfl
  rw [arm_exec_Raise]
  simp only [evalOpt, Option.map]
  refine wpAny_bind (wpAny_standAt (raiseStmt_within (C := C) (a := a) hh (fun s1 R q => wpAny_bind (Constant_none (wpAny_bind (wpAny_standAt (wpAny_pure q))))) ?_))
  refine wpAny_bind (wpAny_mono (wpAny_Call_ofName (ld_glob I hg c.m ?_ hdb)) (fun v s3 h3 => wpAny_bind (wpAny_standAt (wpAny_pure h3))) fun _ _ z => z)
  unfold callWith
  have hw := ha.h cpos pins s σ H _ I h
  rw [he] at hw ⊢
  refine wpAny_bind (wpAny_holding (Calls.evalArgs_plain (thn hw fun us s2 ⟨vs, H2, I2, r, hz, ⟨C', d', ha2⟩, q⟩ => wpAny_bind (wpAny_standAt ?_))))
  obtain ⟨oa, hoa, _, _, va, hda, hva⟩ := (I2.hok a _ ha2).1
  obtain ⟨hp, g, dr, tk, os⟩ := s2
  have pl' : (backTo cpos ((false, eval e X.env) :: starEach es X.env)).any (·.1) = false := by
    rw [← he]
    exact pl
  have hC2 := I2.bk _ _ hC
  simp only [pl']
  refine wpAny_bind (wpAny_keeperOf_exc hC2 ?_)
  refine wpAny_bind (wpAny_call_exc_subT (hrest := by rw [List.nil_append, ← r.length]; exact hz) PySem.F.excBase_ValueError (T.keeps I2.bk) hC2 (hN.keeps I2.bk) no fun h' n mk => wpAny_bind (wpAny_holding (wpAny_point (wpAny_pure ?_))))
  obtain ⟨t0, there, _, _⟩ := mk.there
  obtain ⟨Hn, gn⟩ := I2.newX hex mk.new
  have neC : n ≠ C := fun z => by rw [z] at mk; exact absurd hC2 (by rw [mk.new]; exact fun z => nomatch z)
  have nea : a ≠ n := fun z => by rw [z, Hn] at ha2; cases ha2
  refine ⟨n, none, oa, va, rfl, ⟨_, _, _, _, _, _, _, _, _, _, _, _, _, _, _, _, _, mk.keeps _ _ hC2, T.hasType (by decide)⟩, ⟨_, _, there, rfl, (show 4 < 6 by decide)⟩, neC, nea, mk.keeps _ _ hoa, hda, hva rfl, fun h3 b3 ⟨vs3, sl3, e3, n3, z3⟩ => ?_⟩
  have I3 : Inv (X.hnx a) pins σ H2 ⟨h3, g, dr, tk, os⟩ := I2.kept (t' := tk) fun b o q => (b3.2 b fun z => by rw [z, mk.new] at q; cases q).trans (mk.keeps b o q)
  exact hM pins σ H2 _ n C none false _ vs3 I3 Hn gn e3 rfl n3 ⟨rfl, rfl, vs3, rfl, fun z => nomatch z⟩ q
end
end L2

namespace L2
open PySem PySem.Spec PyProof.Rows
theorem boot_ValueError : bootBuiltins "ValueError" = some (.type "ValueError") := by decide +kernel
/-- {} -/
def tDi : TE := fun _ H Q => ∀ p, H p = none → Q (.ref p) (upd H p (.dK []))
section
variable {X : Cx} {pos : Pos} {o i : Expr} {to ti : TE}
theorem Inv.bigM {pins : List (Addr × Obj)} {σ : St} {H : Hp} {s : Shared} (I : Inv X pins σ H s) : sysModules < s.heap.objs.size := by
  have h : mainGlobals < s.heap.objs.size := (I.mod.glob.keeps I.bk).lt
  exact Nat.lt_trans (by decide) h
theorem eDi : E X (.Dict [] [] pos) tDi := ⟨fun pins s σ H Q I h => wpAny_Dict_empty ⟨.ref s.heap.objs.size, _, I.laid (a := s.heap.objs.size) (o := .dK []) (t' := s.toks) (fun _ _ q => Heap.get?_push_of_some _ q) (Nat.le_refl _)
  ⟨Nat.zero_le _, beq_eq_false_iff_ne.mpr (Ne.symm (Nat.ne_of_lt I.bigM)), [], .nil, Heap.DictOf.new s.heap⟩, rfl, h _ (I.hok.fresh (Nat.le_refl _))⟩⟩
theorem gSb (ho : E X o to) (hi : E X i ti) (ha : ∀ v, assign (.Subscript o i pos) X.env v = (do
      let ov ← holding [v] (eval o X.env)
      let iv ← holding [v, ov] (eval i X.env)
      standAt pos
      holding [v, ov, iv] (setItem ov iv v)
      release [v, ov, iv] []) := by intro _; rfl) : Gt X (.Subscript o i pos) (gSub to ti rSetL) := ⟨pg_sub ho.h hi.h set_list ha⟩
end
/-! ### whether a thing of some kind is a whole number -/
def Kd.wh : Kd → Bool
  | .int => true
  | _ => false
theorem kind_int {K : PySem.W.Frag} {H : Hp} {v : V} {k : Kd} (h : KindV K H v k) (w : k.wh = true) : ∃ i : Int, v = .int i := by
  cases k with
  | int =>
    cases v with
    | int i => exact ⟨i, rfl⟩
    | ref a => rcases h with ⟨h, _⟩ | ⟨h, _⟩ | ⟨h, _⟩ <;> cases h
    | bl b => cases h
    | str x => cases h
    | non => cases h
    | byt b => cases h
    | flt b => cases h
    | ty n => cases h
  | _ => cases w
theorem kind_not {K : PySem.W.Frag} {H : Hp} {i : Int} {k : Kd} (h : KindV K H (.int i) k) : k.wh = true := by cases h; rfl
theorem KindV.same {K : PySem.W.Frag} {H H' : Hp} {v : V} {k : Kd} (h : KindV K H v k) (s : Same H H') : KindV K H' v k := by
  cases v with
  | ref a =>
    rcases h with ⟨e, xs, h⟩ | ⟨e, xs, h⟩ | ⟨e, xs, h⟩
    · exact .inl ⟨e, xs, s.seq h⟩
    · refine .inr (.inl ⟨e, xs, ?_⟩)
      rcases h with (h | ⟨o, h⟩) | h
      · exact .inl (.inl (s _ _ h))
      · exact .inl (.inr ⟨o, s _ _ h⟩)
      · exact .inr h
    · exact .inr (.inr ⟨e, xs, s _ _ h⟩)
  | int i => exact h
  | bl b => exact h
  | str x => exact h
  | non => exact h
  | byt b => exact h
  | flt b => exact h
  | ty n => exact h
end L2

namespace L2
open PySem PySem.Spec PyProof.Rows
section
variable {X : Cx}
end
section
variable {js : List Nat} {σ : St} {tt : TT} {te : TE} {Q : VK} {H1 : Hp}
end
end L2

namespace L2
open PySem PySem.Spec PyProof.Rows
/-! ### slices of texts -/
def cutN (l : List Nat) (lo hi : Option Int) : List Nat := (l.drop (HT.sIx l.length 0 lo)).take (HT.sIx l.length l.length hi - HT.sIx l.length 0 lo)
theorem clip0 (v : Option Int) (n d : Nat) : (match v with | none => (d : Int) | some i => max 0 (min (if i < 0 then i + (n : Int) else i) (n : Int))) = ((HT.sIx n d v : Nat) : Int) := by
  cases v with
  | none => rfl
  | some i =>
    show max 0 (min (if i < 0 then i + (n : Int) else i) (n : Int)) = (((if i < 0 then (i + (n : Int)).toNat else min i.toNat n) : Nat) : Int)
    by_cases h : i < 0
    · rw [if_pos h, if_pos h]; omega
    · rw [if_neg h, if_neg h]; omega
theorem idx_is (lo hi : Option Int) (n : Nat) : Builtin.Str.strSliceIndices lo hi 1 n = sliceRange ((HT.sIx n 0 lo : Nat) : Int) ((HT.sIx n n hi : Nat) : Int) 1 := by
  unfold Builtin.Str.strSliceIndices
  simp only [show ((1 : Int) > 0) = True from by simp, if_true]
  rw [← clip0 lo n 0, ← clip0 hi n n]
  cases lo <;> cases hi <;> rfl
theorem range_is (a b : Nat) : sliceRange (a : Int) (b : Int) 1 = (List.range (b - a)).map fun k => a + k := by
  rcases Nat.lt_or_ge a b with c | c
  · have up : (a : Int) < b := by omega
    have many : (((b : Int) - a + 1 - 1) / 1).toNat = b - a := by rw [Int.ediv_one]; omega
    have e : ∀ k : Nat, ((a : Int) + 1 * (k : Int)).toNat = a + k := fun k => by omega
    simp only [sliceRange, gt_iff_lt, Int.one_pos, if_true, up, many, e]
  · have no : ¬ ((a : Int) < b) := by omega
    have z : b - a = 0 := by omega
    simp only [sliceRange, gt_iff_lt, Int.one_pos, if_true, no, if_false, z, List.range_zero, List.map_nil]
    rfl
theorem picks_cut (l : List Nat) (n a : Nat) : ((List.range n).map fun k => a + k).filterMap (fun i => (Tx l).cps[i]?) = (l.drop a).take n := by
  rw [List.filterMap_map]
  induction n with
  | zero => rw [List.take_zero]; rfl
  | succ n ih =>
    have one : [n].filterMap ((fun i => (Tx l).cps[i]?) ∘ fun k => a + k) = (l[a + n]?).toList := by
      show List.filterMap _ [n] = _
      cases e : l[a + n]? <;> simp [e]
    rw [List.range_succ, List.filterMap_append, ih, one, List.take_add_one, List.getElem?_drop]
theorem cut_is (l : List Nat) (lo hi : Option Int) : (Builtin.Str.strSliceIndices lo hi 1 l.length).filterMap (fun i => (Tx l).cps[i]?) = cutN l lo hi := by
  rw [idx_is, range_is, picks_cut]
  rfl
theorem cut_whole (l : List Nat) (lo hi : Option Int) (h : (Builtin.Str.strSliceIndices lo hi 1 l.length).length = l.length) : cutN l lo hi = l := by
  rw [idx_is, range_is, List.length_map, List.length_range] at h
  have h1 := HT.sIx_le l.length l.length (Nat.le_refl _) hi
  have e1 : HT.sIx l.length 0 lo = 0 ∨ l.length = 0 := by omega
  unfold cutN
  rcases e1 with e | e
  · rw [e]
    have : HT.sIx l.length l.length hi = l.length := by omega
    rw [this]
    simp
  · have : l = [] := List.eq_nil_of_length_eq_zero e
    subst this
    simp
theorem cutN_len (l : List Nat) (lo hi : Option Int) : (cutN l lo hi).length ≤ l.length := by
  unfold cutN
  rw [List.length_take, List.length_drop]
  omega
section
variable {X : Cx}
def rSlX : V → Option Int → Option Int → Hp → VK → Prop := fun x lo hi H Q => ∃ l : List Nat, x = .str (Tx l) ∧ l.length ≤ sizeLine ∧ Q (.str (Tx (cutN l lo hi))) H
theorem slX : Sls X rSlX := by
  refine ⟨fun pins s σ H x v vl vu lo hi sl Q I rx hs pl pu h => ?_⟩
  obtain ⟨l, rfl, hz, q⟩ := h
  obtain ⟨t, rfl⟩ := rx
  refine ⟨"str", _, PySem.F.slot_str_getitem.lookup, typeIs_str _ _ _, ?_⟩
  obtain ⟨o, ho, hc, hd⟩ := hs
  have fin : ∀ (a b : Option (Int × Tok)), o.data = .fields #[partValue a, partValue b, .none] → a.map (·.1) = lo → b.map (·.1) = hi → wpAny (model X.prog X.w) X.A (getItem (.str (Tx l) t) (.ref sl)) (EP X pins σ Q) X.xe s := fun a b hd ea eb => by
    refine wpAny_getItem_str_slice (l := a) (u := b) (st := none) ⟨o, ho, hc, hd⟩ rfl ?_
    have ep : slicePicked (Tx l) a b none = Builtin.Str.strSliceIndices lo hi 1 l.length := by unfold slicePicked; rw [ea, eb, Tx_len]; rfl
    unfold sliceMade
    rw [ep]
    split
    · next hw =>
      have hw2 : (Builtin.Str.strSliceIndices lo hi 1 l.length).length = l.length := by
        have := (Bool.and_eq_true_iff.mp hw).2
        rw [Tx_len] at this
        exact beq_iff_eq.mp this
      show EP X pins σ Q _ s
      rw [cut_whole l lo hi hw2] at q
      exact ⟨.str (Tx l), H, I, ⟨t, rfl⟩, q⟩
    · rw [cut_is]
      exact ⟨by rw [Tx_len]; exact Nat.le_trans (cutN_len l lo hi) hz, ⟨.str (Tx (cutN l lo hi)), H, I.tok _, ⟨_, rfl⟩, q⟩⟩
  cases pl with
  | none =>
    cases pu with
    | none => exact fin none none hd rfl rfl
    | int j tj => exact fin none (some (j, tj)) hd rfl rfl
  | int i ti =>
    cases pu with
    | none => exact fin (some (i, ti)) none hd rfl rfl
    | int j tj => exact fin (some (i, ti)) (some (j, tj)) hd rfl rfl
/-! ### zfill(2), startswith -/
def two (n : Nat) : List Nat := (num (100 + n)).drop 1
def rSw : V → List V → Hp → VK → Prop := fun x vs H Q => ∃ (l : List Nat) (c : Nat), x = .str (Tx l) ∧ vs = [.str (Tx [c])] ∧ Q (.bl (decide (l.head? = some c))) H
theorem sw_is (l : List Nat) (c : Nat) : (decide (0 + (Tx [c]).length ≤ (Tx l).length) && Builtin.Str.subAt (Tx l) (Tx [c]) 0) = decide (l.head? = some c) := by
  rw [Tx_len, Tx_len]
  cases l with
  | nil => simp
  | cons x r =>
    have e : (Tx (x :: r)).cps.extract 0 (0 + (Tx [c]).length) = #[x] := by
      show (x :: r).toArray.extract 0 1 = #[x]
      simp
    unfold Builtin.Str.subAt
    rw [e]
    have e2 : decide (0 + [c].length ≤ (x :: r).length) = true := by simp
    rw [e2, Bool.true_and]
    show (#[x] == #[c]) = decide (some x = some c)
    by_cases h : x = c
    · subst h; simp
    · have h2 : ¬ some x = some c := fun z => h (Option.some.inj z)
      rw [decide_eq_false h2]
      exact beq_eq_false_iff_ne.mpr fun z => h (by simpa using z)
theorem mt_sw : MtR X "str.startswith" rSw := by
  intro pins s σ H x xs v us Q I rx rv h
  obtain ⟨l, c, rfl, rfl, q⟩ := h
  obtain ⟨u, rfl, r1⟩ := vals1 rv
  obtain ⟨t', rfl⟩ := r1
  obtain ⟨t, rfl⟩ := rx
  refine call_gives PySem.F.slot_str_startswith (typeIs_str _ _ _) PySem.F.entry_str_startswith (PySem.F.args_str_startswith_2 _ _) (gives_str_startswith (Tx l) (Tx [c]) t t') ?_
  rw [sw_is]
  exact ⟨.bl _, H, I, rfl, q⟩
theorem eSw {o e : Expr} {to te : TE} {apos cpos : Pos} (ho : E X o to) (he : E X e te) (hbase : attributeBase o "startswith" X.env (eval o X.env) = eval o X.env := by rfl)
    (hfew : ((backTo cpos (starEach [e] X.env)).all (fun x => !x.1) && (backToKw cpos (keywordEach [] X.env)).all (fun x => x.1.isSome) && decide (([e] : List Expr).length + ([] : List Keyword).length + (if ([] : List Keyword).isEmpty then 0 else 1) < 30)) = true := by rfl)
    (hline : (apos.endLine == cpos.line) = true := by rfl) (hs : starEach [e] X.env = (false, eval e X.env) :: starEach [] X.env := by rfl) (hplain : (backTo cpos (starEach [] X.env)).any (·.1) = false := by rfl) :
    E X (.Call (.Attribute o "startswith" apos) [e] [] cpos) (tBM X.K "str" rSw to (tCons te tNil)) :=
  ⟨pe_bm PySem.F.plainAttrs_str PySem.F.slot_str_startswith PySem.F.type_str_startswith mt_sw ho.h (pa_cons he.h pa_nil hs) hbase hfew hline hs hplain⟩
/-! ### numbers below 0 -/
theorem num_all (m : Nat) : PySem.NumText.AllDigits (num m) := fun c hc => by
  obtain ⟨ch, hch, e⟩ := List.mem_map.mp hc
  have r := digit_range (Nat.isDigit_of_mem_toDigits (by decide) (by decide) hch)
  rw [← e]
  exact r
theorem num_val (m : Nat) : PySem.NumText.digitsVal (num m) = m := PySem.W.KIN.val_back m
theorem num_nn (m : Nat) : num m ≠ [] := fun e => Nat.toDigits_ne_nil (List.map_eq_nil_iff.mp e)
def numZ : Int → List Nat
  | .ofNat n => num n
  | .negSucc n => 45 :: num (n + 1)
theorem numZ_is (z : Int) : PySem.Str.ofString (toString z) = Tx (numZ z) := by
  rw [← Tx_of (PySem.Str.ofString (toString z))]
  congr 1
  cases z with
  | ofNat n => exact PySem.W.KIN.signs_num n
  | negSucc n =>
    rw [signs_ofString]
    have e : (toString (Int.negSucc n)).toList = '-' :: (toString ((n + 1 : Nat) : Int)).toList := by
      show ("-" ++ toString (n + 1)).toList = '-' :: (toString (n + 1)).toList
      rw [String.toList_append]
      rfl
    rw [e, List.map_cons]
    have := PySem.W.KIN.signs_num (n + 1)
    rw [signs_ofString] at this
    rw [this]
    rfl
theorem cStrZ : Cl1 X (.type "str") (fun xs H Q => ∃ z : Int, xs = [.int z] ∧ (-(10 ^ 500) < z ∧ z < 10 ^ 500) ∧ Q (.str (Tx (numZ z))) H) := by
  refine ⟨fun pins s σ H xs us Q I r h => ?_⟩
  obtain ⟨z, rfl, hz, q⟩ := h
  refine call_str_int pins s σ H _ us Q I r ⟨z, rfl, ?_, ?_⟩
  · have hn : z.natAbs < 10 ^ 500 := by
      have e : ((10 ^ 500 : Nat) : Int) = (10 : Int) ^ 500 := by norm_cast
      omega
    by_cases h0 : z.natAbs = 0
    · rw [h0]; decide
    · have : z.natAbs < 2 ^ 1900 := Nat.lt_of_lt_of_le hn (by decide +kernel)
      have := (Nat.log2_lt h0).mpr this
      omega
  · show Q (.str (PySem.Str.ofString (toString z))) H
    rw [numZ_is]
    exact q
/-- int of a text with a sign, or without -/
theorem cIntZ : Cl1 X (.type "int") (fun xs H Q => ∃ z : Int, xs = [.str (Tx (numZ z))] ∧ (numZ z).length ≤ 640 ∧ Q (.int z) H) := by
  refine ⟨fun pins s σ H xs us Q I r h => ?_⟩
  obtain ⟨z, rfl, hl, q⟩ := h
  obtain ⟨u, rfl, t, rfl⟩ := vals1 r
  have hz : PySem.intText? (Tx (numZ z)) = some z := by
    cases z with
    | ofNat n =>
      have := PySem.intText_digits (x := Tx (num n)) (by simpa using num_all n) (by simpa using num_nn n) (by rw [Tx_len]; show (num n).length ≤ 4300; have h2 : (num n).length ≤ 640 := hl; omega)
      rw [show (Tx (numZ (Int.ofNat n))) = Tx (num n) from rfl, this]
      simp only [List.toList_toArray]
      rw [num_val]
      rfl
    | negSucc n =>
      have := PySem.intText_neg (x := Tx (45 :: num (n + 1))) (cs := num (n + 1)) (by simp) (num_all _) (num_nn _) (by rw [Tx_len]; have h2 : (45 :: num (n + 1)).length ≤ 640 := hl; omega)
      rw [show (Tx (numZ (Int.negSucc n))) = Tx (45 :: num (n + 1)) from rfl, this, num_val]
      rfl
  refine PySem.W.KIN.call_text hz (by rw [Tx_len]; exact hl) ?_
  exact ⟨.int z, H, I.tok _, ⟨_, rfl⟩, q⟩
end
end L2

namespace L2
open PySem PySem.Spec PyProof.Rows
/-! ### ''.join(reversed(l)) -/
section
variable {prog : Program} {w : World} {A : Around} {E : Value → Shared → Prop} {s : Shared} {I : Addr} {fp wr : List Addr} {G : Array GenState → Array GenState → Prop} {n : Nat} {P : Nat → Value → Prop} {St : Nat → Shared → Prop}
end
section
variable {X : Cx} {o e : Expr} {to te : TE} {p rpos apos cpos : Pos}
end
end L2

namespace L2
open PySem PySem.Spec PyProof.Rows
/-! ### the figures of a number -/
theorem num_lt10 {n : Nat} (h : n < 10) : num n = [48 + n] := by
  have : ∀ n : Nat, n < 10 → num n = [48 + n] := by decide +kernel
  exact this n h
theorem num_ge10 {n : Nat} (h : 10 ≤ n) : num n = num (n / 10) ++ [48 + n % 10] := by
  have hm : n % 10 < 10 := Nat.mod_lt n (by decide)
  have t : Nat.toDigits 10 (n / 10) ++ Nat.toDigits 10 (n % 10) = Nat.toDigits 10 (10 * (n / 10) + n % 10) := Nat.toDigits_append_toDigits (by decide) (by omega) hm
  rw [Nat.div_add_mod] at t
  unfold num
  rw [← t, List.map_append]
  have := num_lt10 hm
  unfold num at this
  rw [this]
theorem num_len (k : Nat) : ∀ n : Nat, (num n).length ≤ k + 1 ↔ n < 10 ^ (k + 1) := by
  induction k with
  | zero =>
    intro n
    by_cases h : n < 10
    · rw [num_lt10 h]; simp; omega
    · rw [num_ge10 (by omega), List.length_append]
      have : (num (n / 10)).length ≠ 0 := fun e => num_nn _ (List.eq_nil_of_length_eq_zero e)
      have e : (10 : Nat) ^ (0 + 1) = 10 := rfl
      rw [e]
      simp only [List.length_cons, List.length_nil]
      omega
  | succ k ih =>
    intro n
    have h2 : 10 ^ (k + 1 + 1) = 10 * 10 ^ (k + 1) := by rw [Nat.pow_succ, Nat.mul_comm]
    have h0 : 0 < 10 ^ (k + 1) := Nat.pow_pos (by decide)
    by_cases h : n < 10
    · rw [num_lt10 h]
      simp
      omega
    · rw [num_ge10 (by omega), List.length_append]
      have := ih (n / 10)
      simp only [List.length_cons, List.length_nil]
      omega
theorem num_head {n : Nat} (h : 0 < n) : (num n).headD 0 ≠ 48 := by
  induction n using Nat.strongRecOn with
  | _ n ih =>
    by_cases h10 : n < 10
    · rw [num_lt10 h10]
      show 48 + n ≠ 48
      omega
    · rw [num_ge10 (by omega)]
      have := ih (n / 10) (by omega) (by omega)
      cases e : num (n / 10) with
      | nil => exact absurd e (num_nn _)
      | cons x r =>
        rw [e] at this
        exact this
theorem num_digs (n : Nat) : (num n).all isDig = true := List.all_eq_true.mpr fun c hc => by
  obtain ⟨h1, h2⟩ := num_all n c hc
  unfold isDig
  rw [decide_eq_true h1, decide_eq_true h2]
  rfl
theorem num_isW (n : Nat) : isW (num n) = true := by
  unfold isW allF
  rw [num_digs, decide_eq_false (num_nn n)]
  by_cases h : n = 0
  · subst h; decide
  · rw [decide_eq_false (num_head (by omega))]
    simp
theorem num_no45 (n : Nat) : decide ((num n).head? = some 45) = false := decide_eq_false fun e => by
  have hm : 45 ∈ num n := by
    cases q : num n with
    | nil => rw [q] at e; cases e
    | cons x r => rw [q] at e; cases e; exact .head _
  have := num_all n 45 hm
  omega
theorem two_is {n : Nat} (h : n < 100) : two n = [48 + n / 10, 48 + n % 10] := by
  have : ∀ n : Nat, n < 100 → two n = [48 + n / 10, 48 + n % 10] := by decide +kernel
  exact this n h
theorem two_dig {n : Nat} (h : n < 100) : isDig (48 + n / 10) = true ∧ isDig (48 + n % 10) = true := by
  unfold isDig
  constructor
  · rw [decide_eq_true (by omega), decide_eq_true (by omega)]; rfl
  · rw [decide_eq_true (by omega), decide_eq_true (by omega)]; rfl
theorem two_val {n : Nat} (h : n < 100) : PySem.NumText.digitsVal [48 + n / 10, 48 + n % 10] = n := by
  show (0 * 10 + (48 + n / 10 - 48)) * 10 + (48 + n % 10 - 48) = n
  omega
theorem two_all {n : Nat} (h : n < 100) : PySem.NumText.AllDigits [48 + n / 10, 48 + n % 10] := fun c hc => by
  simp only [List.mem_cons, List.not_mem_nil, or_false] at hc
  rcases hc with rfl | rfl
  · omega
  · omega
theorem numZ_abs (y : Int) : (numZ y).length ≤ (num y.natAbs).length + 1 := by
  cases y with
  | ofNat n => show (num n).length ≤ (num n).length + 1; omega
  | negSucc n => show (45 :: num (n + 1)).length ≤ (num (n + 1)).length + 1; simp
/-! ### the texts of moments -/
def mtail (m d h mi : Nat) : List Nat := [45, 48 + m / 10, 48 + m % 10, 45, 48 + d / 10, 48 + d % 10, 32, 48 + h / 10, 48 + h % 10, 58, 48 + mi / 10, 48 + mi % 10]
def mtx (y : Int) (m d h mi : Nat) : List Nat := numZ y ++ mtail m d h mi
theorem cut_head (a t : List Nat) (h : t.length = 12) : cutN (a ++ t) none (some (-12)) = a := by
  have e1 : HT.sIx (a ++ t).length 0 none = 0 := rfl
  have e2 : HT.sIx (a ++ t).length (a ++ t).length (some (-12)) = a.length := by
    show (if (-12 : Int) < 0 then ((-12 : Int) + ((a ++ t).length : Int)).toNat else min (-12 : Int).toNat (a ++ t).length) = _
    rw [if_pos (by decide), List.length_append, h]
    omega
  unfold cutN
  rw [e1, e2, List.drop_zero, Nat.sub_zero, List.take_left']
  rfl
theorem cut_tail (a t : List Nat) (h : t.length = 12) : cutN (a ++ t) (some (-12)) none = t := by
  have e1 : HT.sIx (a ++ t).length 0 (some (-12)) = a.length := by
    show (if (-12 : Int) < 0 then ((-12 : Int) + ((a ++ t).length : Int)).toNat else min (-12 : Int).toNat (a ++ t).length) = _
    rw [if_pos (by decide), List.length_append, h]
    omega
  have e2 : HT.sIx (a ++ t).length (a ++ t).length none = (a ++ t).length := rfl
  unfold cutN
  rw [e1, e2, List.drop_left' rfl]
  refine List.take_of_length_le ?_
  rw [List.length_append]
  omega
theorem cut_one (c : Nat) (l : List Nat) : cutN (c :: l) (some 1) none = l := by
  unfold cutN HT.sIx
  simp
end L2

namespace L2
open PySem PySem.Spec PyProof.Rows
/-! ### one of two readings; ''.join(list) -/
theorem join0_is : ∀ ws : List (List Nat), (Str.join (Tx []) (ws.map Tx)).cps.toList = ws.flatten
  | [] => rfl
  | [w] => by simp [Str.join]
  | w :: w2 :: ws => by
    have ih := join0_is (w2 :: ws)
    show ((Tx w ++ Tx []) ++ Str.join (Tx []) ((w2 :: ws).map Tx)).cps.toList = _
    rw [← Tx_of (Str.join (Tx []) ((w2 :: ws).map Tx)), ih, Tx_add, Tx_add, List.append_nil, List.flatten_cons]
    simp
section
variable {X : Cx}
def rJoin0 (K : PySem.W.Frag) : V → List V → Hp → VK → Prop := fun x vs H Q => ∃ (p : Addr) (ws : List (List Nat)), x = .str (Tx []) ∧ vs = [.ref p] ∧ SqL K H p (ws.map fun q => V.str (Tx q)) ∧ (ws.map (·.length)).sum + ws.length ≤ 1000000 ∧ Q (.str (Tx ws.flatten)) H
theorem mt_join0 : MtR X "str.join" (rJoin0 X.K) := by
  intro pins s σ H x xs v us Q I rx rv h
  obtain ⟨p, ws, rfl, rfl, hq, hz, q⟩ := h
  obtain ⟨u, rfl, r1⟩ := vals1 rv
  cases r1
  obtain ⟨t, rfl⟩ := rx
  obtain ⟨its, rv2, pl, _⟩ := I.list hq
  have hw : ((ws.map Tx).map (·.length)).sum + (ws.map Tx).length ≤ 1048576 := by
    rw [List.map_map, List.length_map, show ws.map ((fun x : Str => x.length) ∘ Tx) = ws.map (·.length) from List.map_congr_left fun a _ => Tx_len a]
    omega
  refine join_listW pl.isList (ys := ws.map Tx) (by simpa using strs_are rv2) (by rw [Tx_len]; decide) hw fun t' k => ?_
  have e : Txt.join (Tx []) (ws.map Tx) = Tx ws.flatten := by
    rw [show Txt.join (Tx []) (ws.map Tx) = Str.join (Tx []) (ws.map Tx) from StrLaws.glued_eq_join _ _, ← Tx_of (Str.join (Tx []) (ws.map Tx)), join0_is ws]
  exact ⟨.str (Tx ws.flatten), H, I.kept (t' := k) fun _ _ e => e, ⟨t', by rw [e]⟩, q⟩
end
end L2

namespace L2
open PySem PySem.Spec PyProof.Rows

/-! ### lists of pairs as tables -/
section
variable {κ : Type} [DecidableEq κ]
def valV (kvs : List (κ × V)) (k : κ) : Option V := (kvs.find? fun kv => decide (kv.1 = k)).map (·.2)
/-- in its place, or at the end -/
def putK (kvs : List (κ × V)) (k : κ) (v : V) : List (κ × V) :=
  if (kvs.any fun kv => decide (kv.1 = k)) = true then kvs.map (fun kv => if kv.1 = k then (kv.1, v) else kv) else kvs ++ [(k, v)]
def dropK (kvs : List (κ × V)) (k : κ) : List (κ × V) := kvs.filter fun kv => decide (kv.1 ≠ k)

theorem valV_pos {p : κ × V} {r : List (κ × V)} {k : κ} (e : p.1 = k) : valV (p :: r) k = some p.2 := by simp [valV, List.find?_cons, e]
theorem valV_neg {p : κ × V} {r : List (κ × V)} {k : κ} (e : ¬ p.1 = k) : valV (p :: r) k = valV r k := by simp [valV, List.find?_cons, e]
theorem valV_any (k : κ) : ∀ kvs : List (κ × V), (kvs.any fun kv => decide (kv.1 = k)) = (valV kvs k).isSome
  | [] => rfl
  | p :: r => by
    rw [List.any_cons]
    by_cases e : p.1 = k
    · simp only [valV_pos e, decide_eq_true e, Bool.true_or, Option.isSome_some]
    · rw [valV_neg e, decide_eq_false e, Bool.false_or]; exact valV_any k r
theorem length_putK (kvs : List (κ × V)) (k : κ) (v : V) : (putK kvs k v).length ≤ kvs.length + 1 := by
  unfold putK
  split
  · rw [List.length_map]; omega
  · rw [List.length_append, List.length_cons, List.length_nil]; omega
theorem RelO.isSome_eq {o : Option V} {u : Option Value} (r : RelO o u) : o.isSome = u.isSome := by
  cases o with
  | none => cases u with
    | none => rfl
    | some _ => exact (show False from r).elim
  | some _ => cases u with
    | none => exact (show False from r).elim
    | some _ => rfl
theorem RelO.getD {o : Option V} {u : Option Value} {d : V} {d' : Value} (r : RelO o u) (rd : RelV d d') : RelV (o.getD d) (u.getD d') := by
  cases o with
  | none => cases u with
    | none => exact rd
    | some _ => exact (show False from r).elim
  | some _ => cases u with
    | none => exact (show False from r).elim
    | some _ => exact r

/-- raw tables of the same keys -/
theorem KV.val {kvs : List (κ × V)} {vs : List (κ × Value)} (r : KV kvs vs) (k : κ) : RelO (valV kvs k) (valueAt vs k) := by
  unfold KV at r
  induction r with
  | nil => exact True.intro
  | @cons p q ps qs h t ih =>
    obtain ⟨h1, h2⟩ := h
    by_cases e : p.1 = k
    · have e' : q.1 = k := h1.symm.trans e
      have b : valueAt (q :: qs) k = some q.2 := by simp [valueAt, List.find?_cons, e']
      rw [valV_pos e, b]; exact h2
    · have e' : ¬ q.1 = k := fun z => e (h1.trans z)
      have b : valueAt (q :: qs) k = valueAt qs k := by simp [valueAt, List.find?_cons, e']
      rw [valV_neg e, b]; exact ih
theorem KV.any {kvs : List (κ × V)} {vs : List (κ × Value)} (r : KV kvs vs) (k : κ) : (kvs.any fun kv => decide (kv.1 = k)) = vs.any fun kv => decide (kv.1 = k) := by
  unfold KV at r
  induction r with
  | nil => rfl
  | cons h t ih => rw [List.any_cons, List.any_cons, ih, h.1]
theorem KV.repl {kvs : List (κ × V)} {vs : List (κ × Value)} (r : KV kvs vs) (k : κ) {y : V} {u : Value} (ry : RelV y u) :
    KV (kvs.map fun kv => if kv.1 = k then (kv.1, y) else kv) (vs.map fun kv => if kv.1 = k then (kv.1, u) else kv) := by
  unfold KV at r ⊢
  induction r with
  | nil => exact .nil
  | @cons p q ps qs h t ih =>
    rw [List.map_cons, List.map_cons]
    refine .cons ?_ ih
    obtain ⟨h1, h2⟩ := h
    by_cases e : p.1 = k
    · rw [if_pos e, if_pos (h1.symm.trans e)]; exact ⟨h1, ry⟩
    · rw [if_neg e, if_neg (fun z => e (h1.trans z))]; exact ⟨h1, h2⟩
theorem KV.put {kvs : List (κ × V)} {vs : List (κ × Value)} (r : KV kvs vs) (k : κ) {y : V} {u : Value} (ry : RelV y u) : KV (putK kvs k y) (stored vs k u) := by
  unfold putK stored
  rw [r.any k]
  by_cases e : (vs.any fun kv => decide (kv.1 = k)) = true
  · rw [if_pos e, if_pos e]; exact r.repl k ry
  · rw [if_neg e, if_neg e]; exact Paired.snoc r ⟨rfl, ry⟩
theorem KV.drop {kvs : List (κ × V)} {vs : List (κ × Value)} (r : KV kvs vs) (k : κ) : KV (dropK kvs k) (without vs k) := by
  unfold KV at r ⊢
  unfold dropK without
  induction r with
  | nil => exact .nil
  | @cons p q ps qs h t ih =>
    obtain ⟨h1, h2⟩ := h
    rw [List.filter_cons, List.filter_cons]
    by_cases e : p.1 = k
    · have a : ¬ decide (p.1 ≠ k) = true := by simp [e]
      have b : ¬ decide (q.1 ≠ k) = true := by simp [h1.symm.trans e]
      rw [if_neg a, if_neg b]; exact ih
    · have e' : ¬ q.1 = k := fun z => e (h1.trans z)
      have a : decide (p.1 ≠ k) = true := by simp [e]
      have b : decide (q.1 ≠ k) = true := by simp [e']
      rw [if_pos a, if_pos b]; exact .cons ⟨h1, h2⟩ ih
theorem KV.keys {kvs : List (κ × V)} {vs : List (κ × Value)} (r : KV kvs vs) : kvs.map (·.1) = vs.map (·.1) := by
  unfold KV at r
  induction r with
  | nil => rfl
  | cons h t ih => rw [List.map_cons, List.map_cons, ih, h.1]
theorem KV.length {kvs : List (κ × V)} {vs : List (κ × Value)} (r : KV kvs vs) : kvs.length = vs.length := Paired.length r
end


/-! ### a tracked dict, its keys ints and texts or tuples of these -/
theorem kV_is {P : Program} {w : World} {k : Key} {u : Value} (r : RelV (kV k) u) : (mixKind P w).is k u = true := by
  cases k with
  | inl i => obtain ⟨t, e⟩ := (show ∃ t, u = Value.int i t from r); subst e; exact mixKind_int P w i t
  | inr x => obtain ⟨t, e⟩ := (show ∃ t, u = Value.str x t from r); subst e; exact mixKind_str P w x t
theorem items_are {P : Program} {w : World} : ∀ {ks : List Key} {us : List Value}, Vals (ks.map kV) us → ItemsAre (mixKind P w) ks us
  | [], _, r => by rw [List.map_nil] at r; cases r; exact .nil
  | k :: ks, _, r => by
    rw [List.map_cons] at r
    cases r with
    | cons h t => exact .cons (kV_is h) (items_are t)

/-- raw entries of a dict with tuple keys -/
abbrev KT (H : Hp) : List (List Key × V) → List (List Key × Addr × Value) → Prop := Paired fun p q => p.1 = q.1 ∧ H q.2.1 = some (.tup (p.1.map kV)) ∧ RelV p.2 q.2.2
theorem KT.val {H : Hp} {kvs : List (List Key × V)} {xs : List (List Key × Addr × Value)} (r : KT H kvs xs) (k : List Key) : RelO (valV kvs k) ((atKey xs k).map (·.2)) := by
  induction r with
  | nil => exact True.intro
  | @cons p q ps qs h t ih =>
    obtain ⟨h1, _, h2⟩ := h
    by_cases e : p.1 = k
    · have e' : q.1 = k := h1.symm.trans e
      have b : atKey (q :: qs) k = some q.2 := by simp [atKey, List.find?_cons, e']
      rw [valV_pos e, b]; exact h2
    · have e' : ¬ q.1 = k := fun z => e (h1.trans z)
      have b : atKey (q :: qs) k = atKey qs k := by simp [atKey, List.find?_cons, e']
      rw [valV_neg e, b]; exact ih
theorem KT.repl {H : Hp} {kvs : List (List Key × V)} {xs : List (List Key × Addr × Value)} (r : KT H kvs xs) (k : List Key) {y : V} {u : Value} (ry : RelV y u) :
    KT H (kvs.map fun kv => if kv.1 = k then (kv.1, y) else kv) (xs.map (putAt k u)) := by
  induction r with
  | nil => exact .nil
  | @cons p q ps qs h t ih =>
    rw [List.map_cons, List.map_cons]
    refine .cons ?_ ih
    obtain ⟨h1, h2, h3⟩ := h
    unfold putAt
    by_cases e : p.1 = k
    · rw [if_pos e, if_pos (h1.symm.trans e)]; exact ⟨h1, h2, ry⟩
    · rw [if_neg e, if_neg (fun z => e (h1.trans z))]; exact ⟨h1, h2, h3⟩
theorem KT.put {H : Hp} {kvs : List (List Key × V)} {xs : List (List Key × Addr × Value)} (r : KT H kvs xs) (k : List Key) {b : Addr} {y : V} {u : Value} (hb : H b = some (.tup (k.map kV))) (ry : RelV y u) :
    KT H (putK kvs k y) (storedH xs k b u) := by
  have e : (kvs.any fun kv => decide (kv.1 = k)) = (atKey xs k).isSome := by
    rw [valV_any, (r.val k).isSome_eq, Option.isSome_map]
  unfold putK storedH
  rw [e]
  by_cases q : (atKey xs k).isSome = true
  · rw [if_pos q, if_pos q]; exact r.repl k ry
  · rw [if_neg q, if_neg q]; exact Paired.snoc r ⟨rfl, hb, ry⟩
theorem KT.keeps {H H' : Hp} {kvs : List (List Key × V)} {xs : List (List Key × Addr × Value)} (r : KT H kvs xs) (ht : ∀ b ys, H b = some (.tup ys) → H' b = some (.tup ys)) : KT H' kvs xs :=
  Paired.mapP r fun _ _ z => ⟨z.1, ht _ _ z.2.1, z.2.2⟩

section
variable {P : Program} {w : World} {H : Hp} {h : Heap} {a : Addr}
theorem rd_of {u : HO} (ok : HOk P w H h) (e : Rd H a u) : ObjOk P w H h a u := e.ok ok
theorem dk_rd {kvs : List (Key × V)} (ok : HOk P w H h) (e : Rd H a (.dK kvs)) : kvs.length ≤ sizeLine ∧ (a == sysModules) = false ∧ ∃ vs, KV kvs vs ∧ h.DictOf (mixKind P w) a vs :=
  show ObjOk P w H h a (.dK kvs) from rd_of ok e
theorem dk_of {kvs : List (Key × V)} (ok : HOk P w H h) (e : H a = some (.dK kvs)) : kvs.length ≤ sizeLine ∧ (a == sysModules) = false ∧ ∃ vs, KV kvs vs ∧ h.DictOf (mixKind P w) a vs := dk_rd ok (.inl e)
/-- a tracked tuple of ints and texts is a key -/
theorem key_of {ks : List Key} (ok : HOk P w H h) (e : H a = some (.tup (ks.map kV))) : (tupleKind (mixKind P w)).is h ks a := by
  obtain ⟨_, its, r, o, h1, h2, n, h3⟩ := (show ObjOk P w H h a (.tup (ks.map kV)) from ok a _ e)
  exact ⟨o, its.toArray, n, h1, h2, h3, by simpa using items_are r⟩
theorem dt_rd {kvs : List (List Key × V)} (ok : HOk P w H h) (e : Rd H a (.dT kvs)) : kvs.length ≤ sizeLine ∧ (a == sysModules) = false ∧
    ∃ xs, KT H kvs xs ∧ h.DictOfH (tupleKind (mixKind P w)) a xs := by
  obtain ⟨z, y, xs, r, o, es, ep, h1, h2, h3, h4, h5⟩ := (show ObjOk P w H h a (.dT kvs) from rd_of ok e)
  refine ⟨z, y, xs, r, o, es, ep, h1, h2, h3, h4, fun x hx => ?_, h5⟩
  have all : ∀ {l : List (List Key × V)} {m : List (List Key × Addr × Value)}, KT H l m → ∀ x ∈ m, (tupleKind (mixKind P w)).is h x.1 x.2.1 := by
    intro l m q
    induction q with
    | nil => intro x hx; exact nomatch hx
    | @cons p q ps qs hq t ih =>
      intro x hx
      rcases List.mem_cons.mp hx with e | hx
      · subst e
        exact key_of ok (by rw [← hq.1]; exact hq.2.1)
      · exact ih x hx
  exact all r x hx
end

/-- what the dict at a holds at the key y -/
def DGet (H : Hp) (a : Addr) (y : V) (r : Option V) : Prop :=
  (∃ kvs k, Rd H a (.dK kvs) ∧ y = kV k ∧ r = valV kvs k) ∨ ∃ kvs k b, Rd H a (.dT kvs) ∧ y = .ref b ∧ H b = some (.tup (k.map kV)) ∧ r = valV kvs k
/-- the heap behind a[y] = v -/
def DPut (H : Hp) (a : Addr) (y v : V) (H' : Hp) : Prop :=
  (∃ kvs k, H a = some (.dK kvs) ∧ y = kV k ∧ kvs.length < sizeLine ∧ H' = upd H a (.dK (putK kvs k v))) ∨
  ∃ kvs k b, H a = some (.dT kvs) ∧ y = .ref b ∧ H b = some (.tup (k.map kV)) ∧ kvs.length < sizeLine ∧ H' = upd H a (.dT (putK kvs k v))
theorem DGet.k {H : Hp} {a : Addr} {kvs : List (Key × V)} {k : Key} (e : H a = some (.dK kvs)) : DGet H a (kV k) (valV kvs k) := .inl ⟨kvs, k, .inl e, rfl, rfl⟩
theorem DGet.t {H : Hp} {a b : Addr} {kvs : List (List Key × V)} {k : List Key} (e : H a = some (.dT kvs)) (eb : H b = some (.tup (k.map kV))) : DGet H a (.ref b) (valV kvs k) := .inr ⟨kvs, k, b, .inl e, rfl, eb, rfl⟩
theorem DPut.k {H : Hp} {a : Addr} {kvs : List (Key × V)} {k : Key} {v : V} (e : H a = some (.dK kvs)) (hl : kvs.length < sizeLine) : DPut H a (kV k) v (upd H a (.dK (putK kvs k v))) := .inl ⟨kvs, k, e, rfl, hl, rfl⟩
theorem DPut.t {H : Hp} {a b : Addr} {kvs : List (List Key × V)} {k : List Key} {v : V} (e : H a = some (.dT kvs)) (eb : H b = some (.tup (k.map kV))) (hl : kvs.length < sizeLine) :
    DPut H a (.ref b) v (upd H a (.dT (putK kvs k v))) := .inr ⟨kvs, k, b, e, rfl, eb, hl, rfl⟩


section
variable {X : Cx} {pins : List (Addr × Obj)} {σ : St} {H : Hp} {s : Shared} {a : Addr} {y v : V} {u r : Value} {o : Option V} {A : Around} {E : Value → Shared → Prop}

theorem Inv.big (I : Inv X pins σ H s) : sysModules < s.heap.objs.size := by
  have h : mainGlobals < s.heap.objs.size := (I.mod.glob.keeps I.bk).lt
  exact Nat.lt_trans (by decide) h

/-- d[y], there -/
theorem d_getItem {Q : Value → Shared → Prop} (hu : A.units + 1 < cLine) (I : Inv X pins σ H s) (g : DGet H a y (some v)) (ry : RelV y u) (h : ∀ w' s', Inv X pins σ H s' → RelV v w' → Q w' s') :
    wpAny (model X.prog X.w) A (getItem (.ref a) u) Q E s := by
  rcases g with ⟨kvs, k, e, ey, l⟩ | ⟨kvs, k, b, e, ey, eb, l⟩
  · subst ey
    obtain ⟨z, hd, vs, rel, dd⟩ := dk_rd I.hok e
    obtain ⟨w', hw, rw'⟩ := RelO.some_of (v := v) (o := valueAt vs k) (by rw [l]; exact rel.val k)
    exact wpAny_getItem_of (kV_is ry) dd.mapOf hw (h w' _ (I.tok _) rw')
  · subst ey
    cases (show u = Value.ref b from ry)
    obtain ⟨z, hd, xs, rel, dd⟩ := dt_rd I.hok e
    obtain ⟨w', hw, rw'⟩ := RelO.some_of (v := v) (o := (atKey xs k).map (·.2)) (by rw [l]; exact rel.val k)
    obtain ⟨p, hp, hp2⟩ := Option.map_eq_some_iff.mp hw
    refine wpAny_getItem_heap (tupleKind_room_in1 hu) (key_of I.hok eb) dd hp ?_
    rw [hp2]
    exact h w' _ (I.tok _) rw'
/-- a dict's object is replaced -/
theorem d_write {h' : Heap} {t' : Nat} {ob : HO} (I : Inv X pins σ H s) (mu : Mut (H a)) (hs : Heap.SameBut a s.heap h') (he : ∃ q, h'.get? a = some q) (new : ObjOk X.prog X.w (upd H a ob) h' a ob) :
    Inv X pins σ (upd H a ob) { s with heap := h', toks := t' } :=
  I.write (x := a) (e := a) mu (.inl rfl) (fun b q hb z => (hs.2 b hb).trans z) he new
theorem dk_new {P : Program} {w : World} {H' : Hp} {h' : Heap} {kvs : List (Key × V)} {vs : List (Key × Value)} (z : kvs.length ≤ sizeLine) (hd : (a == sysModules) = false) (rel : KV kvs vs) (dd : h'.DictOf (mixKind P w) a vs) :
    ObjOk P w H' h' a (.dK kvs) := ⟨z, hd, vs, rel, dd⟩
end

section
variable {X : Cx} {pins : List (Addr × Obj)} {σ : St} {H : Hp} {s : Shared} {a : Addr} {kvs : List (Key × V)} {k : Key} {u : Value} {A : Around} {E : Value → Shared → Prop}
end


/-! ### readings and rules -/
/-- the element of a subscription, not a slice -/
def NoSl (i : Expr) : Prop := ∀ ov iv, subscripted i false ov iv = operate [ov, iv] (getItem ov iv)
theorem subD_of {prog : Program} {w : World} {A : Around} {E : Value → Shared → Prop} {s : Shared} {env : Env} {value slice : Expr} {pos : Pos} {T id : String} {Q : Value → Shared → Prop}
    (hl : typeLookup (.type T) "__getitem__" = pure (some (.builtin id))) (hs : NoSl slice)
    (h : wpAny (model prog w) A (eval value env) (fun o s₁ => wpAny (model prog w) A (eval slice env) (fun i s₂ => s₂.TypeIs o T ∧ wpAny (model prog w) A (getItem o i) Q E s₂) E s₁) E s) :
    wpAny (model prog w) A (eval (.Subscript value slice pos) env) Q E s := by
  refine Subscript_ (wpAny_mono h (fun o s₁ h₁ => wpAny_mono h₁ (fun i s₂ h₂ => ?_) fun _ _ x => x) fun _ _ x => x)
  obtain ⟨hT, h₂⟩ := h₂
  unfold subscriptTail
  refine wpAny_bind ?_
  rw [getitemInPython_of_ne hT.not_modules]
  refine wpAny_bind (wpAny_specialOf hT hl ?_)
  have fin : wpAny (model prog w) A (subscripted slice false o i) (fun r s₃ => wpAny (model prog w) A (letTemporaryGo value o r >>= fun _ => pure r) Q E s₃) E s₂ := by
    rw [hs o i]
    exact wpAny_operating (wpAny_mono h₂ (fun r s₃ h₃ => wpAny_bind (wpAny_letTemporaryGo (wpAny_pure h₃))) fun _ _ x => x)
  first
    | exact wpAny_pure (wpAny_bind fin)
    | exact wpAny_bind (wpAny_pure (wpAny_bind fin))
    | exact wpAny_bind fin

theorem dict_typeIs {X : Cx} {pins : List (Addr × Obj)} {σ : St} {H : Hp} {s : Shared} {a : Addr} {y : V} {o : Option V} (I : Inv X pins σ H s) (g : DGet H a y o) : s.TypeIs (.ref a) "dict" := by
  rcases g with ⟨kvs, k, e, _, _⟩ | ⟨kvs, k, b, e, _, _, _⟩
  · obtain ⟨_, _, vs, _, dd⟩ := dk_rd I.hok e
    exact dd.typeIs
  · obtain ⟨_, _, xs, _, dd⟩ := dt_rd I.hok e
    exact dd.typeIs
/-- d[y] -/
def tDGet (td ty : TE) : TE := fun σ H Q => td σ H fun x H1 => ty σ H1 fun y H2 => ∃ a v, x = .ref a ∧ DGet H2 a y (some v) ∧ Q v H2
section
variable {X : Cx} {o i e value : Expr} {pos pos' tpos : Pos} {td ty tv : TE}
theorem pe_dget (hu : X.A.units + 1 < cLine) (ho : PE X o td) (hi : PE X i ty) (hs : NoSl i) : PE X (.Subscript o i pos) (tDGet td ty) := by
  intro pins s σ H Q I h
  refine subD_of PySem.F.slot_dict_getitem.lookup hs (thn (ho pins s σ H _ I h) fun u s1 ⟨x, H1, I1, rx, q1⟩ => thn (hi pins s1 σ H1 _ I1 q1) fun iv s2 ⟨y, H2, I2, ry, a, v, ex, g, q2⟩ => ?_)
  subst ex
  obtain rfl : u = Value.ref a := rx
  exact ⟨dict_typeIs I2 g, d_getItem hu I2 g ry fun w' s3 I3 rw' => ⟨v, H2, I3, rw', q2⟩⟩
end


/-! ### displays -/
theorem dk_empty {P : Program} {w : World} {H : Hp} (h : Heap) (hb : sysModules < h.objs.size) : ObjOk P w H (h.push { cls := .type "dict", data := .dict #[] }) h.objs.size (.dK []) :=
  ⟨Nat.zero_le _, beq_eq_false_iff_ne.mpr (Ne.symm (Nat.ne_of_lt hb)), [], .nil, Heap.DictOf.new h⟩
section
variable {X : Cx} {pos : Pos}
end

/-- the pairs of a display, from the left -/
def tPairs : List (TE × TE) → St → Hp → (List (V × V) → Hp → Prop) → Prop
  | [], _, H, Q => Q [] H
  | (tk, tv) :: r, σ, H, Q => tk σ H fun x H1 => tv σ H1 fun y H2 => tPairs r σ H2 fun ps H3 => Q ((x, y) :: ps) H3
abbrev VV : List (V × V) → List (Value × Value) → Prop := Paired fun p q => RelV p.1 q.1 ∧ RelV p.2 q.2
def PPs (X : Cx) (pos : Pos) (keys : List (Option Expr)) (values : List Expr) (trs : List (TE × TE)) : Prop :=
  ∀ (pins : List (Addr × Obj)) (s : Shared) (σ : St) (H : Hp) (Q : List (V × V) → Hp → Prop), Inv X pins σ H s → tPairs trs σ H Q →
    wpAny (model X.prog X.w) X.A (evalPairs (pairTrees keys values X.env pos)) (fun vs s' => ∃ ps H', Inv X pins σ H' s' ∧ VV ps vs ∧ Q ps H') X.xe s
theorem pps_nil {X : Cx} {pos : Pos} : PPs X pos [] [] [] := fun pins s σ H Q I h => pairTrees_nil_walk ⟨[], H, I, .nil, h⟩
theorem pps_cons {X : Cx} {pos : Pos} {k v : Expr} {ks : List (Option Expr)} {vs : List Expr} {tk tv : TE} {trs : List (TE × TE)} (hk : PE X k tk) (hv : PE X v tv) (hr : PPs X pos ks vs trs) :
    PPs X pos (some k :: ks) (v :: vs) ((tk, tv) :: trs) := fun pins s σ H Q I h =>
  pairTrees_cons_walk (thn (hk pins s σ H _ I h) fun u s1 ⟨x, H1, I1, rx, q1⟩ => thn (hv pins s1 σ H1 _ I1 q1) fun w2 s2 ⟨y, H2, I2, ry, q2⟩ =>
    thn (hr pins s2 σ H2 _ I2 q2) fun ws s3 ⟨ps, H3, I3, rel, q3⟩ => ⟨(x, y) :: ps, H3, I3, .cons ⟨rx, ry⟩ rel, q3⟩)

def mergeK (kvs more : List (Key × V)) : List (Key × V) := more.foldl (fun acc kv => putK acc kv.1 kv.2) kvs
theorem KV.merge : ∀ {more : List (Key × V)} {rs : List (Key × Value)} {kvs : List (Key × V)} {vs : List (Key × Value)}, KV more rs → KV kvs vs → KV (mergeK kvs more) (merged vs rs) := by
  intro more rs kvs vs r
  unfold KV at r
  induction r generalizing kvs vs with
  | nil => intro q; exact q
  | @cons p q ps qs h t ih =>
    intro r0
    have e : KV (putK kvs p.1 p.2) (stored vs q.1 q.2) := by
      have := r0.put p.1 h.2
      rw [← h.1]; exact this
    exact ih e
theorem length_mergeK : ∀ (more kvs : List (Key × V)), (mergeK kvs more).length ≤ kvs.length + more.length
  | [], kvs => by show kvs.length ≤ kvs.length + 0; omega
  | p :: r, kvs => by
    have h1 := length_mergeK r (putK kvs p.1 p.2)
    have h2 := length_putK kvs p.1 p.2
    show (mergeK (putK kvs p.1 p.2) r).length ≤ _
    rw [List.length_cons]; omega
theorem carries_of {P : Program} {w : World} : ∀ {kvs : List (Key × V)} {ws : List (Value × Value)}, VV (kvs.map fun kv => (kV kv.1, kv.2)) ws → ∃ rs, Carries (mixKind P w) ws rs ∧ KV kvs rs
  | [], _, r => by rw [List.map_nil] at r; cases r; exact ⟨[], True.intro, .nil⟩
  | p :: kvs, _, r => by
    rw [List.map_cons] at r
    cases r with
    | @cons a b as bs h t =>
      obtain ⟨rs, c, q⟩ := carries_of (P := P) (w := w) t
      obtain ⟨b1, b2⟩ := b
      exact ⟨(p.1, b2) :: rs, ⟨kV_is h.1, rfl, c⟩, .cons ⟨rfl, h.2⟩ q⟩
/-- {k: v, ..} with keys ints and texts; the new dict stands empty while the pairs are made -/
def tDisp (trs : List (TE × TE)) : TE := fun σ H Q => ∀ p, H p = none → tPairs trs σ (upd H p (.dK [])) fun ps H2 => H2 p = some (.dK []) ∧ ∃ kvs : List (Key × V), ps = kvs.map (fun kv => (kV kv.1, kv.2)) ∧ kvs.length ≤ 15 ∧ Q (.ref p) (upd H2 p (.dK (mergeK [] kvs)))
theorem pe_disp {X : Cx} {pos : Pos} {keys : List (Option Expr)} {values : List Expr} {trs : List (TE × TE)} (h : PPs X pos keys values trs) (hall : keys.all (·.isSome) = true) (hl : keys.length = values.length) (h0 : keys ≠ [])
    (h15 : keys.length ≤ 15) : PE X (.Dict keys values pos) (tDisp trs) := by
  intro pins s σ H Q I q
  have hn := I.hok.fresh (Nat.le_refl s.heap.objs.size)
  have I1 := I.laid (a := s.heap.objs.size) (o := .dK []) (h' := s.heap.push { cls := .type "dict", data := .dict #[] }) (t' := s.toks) (fun _ _ q => Heap.get?_push_of_some _ q) (Nat.le_refl _) (dk_empty s.heap I.big)
  refine wpAny_Dict_walk (knd := mixKind X.prog X.w) hall hl h0 h15 (thn (h pins _ σ _ _ I1 (q _ hn)) fun ws s2 ⟨ps, H2, I2, rel, e, kvs, ep, lk, q2⟩ => ?_)
  subst ep
  obtain ⟨rs, c, rk⟩ := carries_of (P := X.prog) (w := X.w) rel
  obtain ⟨z, hd, vs0, r0, dd⟩ := dk_of I2.hok e
  cases r0
  refine ⟨rs, c, dd, fun h' dd' hs => ⟨.ref s.heap.objs.size, _, ?_, rfl, q2⟩⟩
  have hz : (mergeK [] kvs).length ≤ sizeLine := by
    have h1 := length_mergeK kvs []
    rw [List.length_nil] at h1
    rw [sizeLine_eq]; omega
  have he : ∃ q, h'.get? s.heap.objs.size = some q := let ⟨q, _, _, hq, _⟩ := dd'; ⟨q, hq⟩
  exact d_write I2 (by rw [e]; exact True.intro) hs he (dk_new hz hd (rk.merge .nil) dd')


/-! ### methods -/
/-- a method call o.m(e) of a built-in, with one argument: what must be seen of the text -/
structure M1 (X : Cx) (o : Expr) (m : Str) (apos : Pos) (e : Expr) (cpos : Pos) : Prop where
  base : attributeBase o m X.env (eval o X.env) = eval o X.env
  few : ((backTo cpos (starEach [e] X.env)).all (fun x => !x.1) && (backToKw cpos (keywordEach [] X.env)).all (fun x => x.1.isSome)
    && decide (([e] : List Expr).length + ([] : List Keyword).length + (if ([] : List Keyword).isEmpty then 0 else 1) < 30)) = true
  line : (apos.endLine == cpos.line) = true
  trees : backTo cpos (starEach [e] X.env) = [(false, eval e X.env)]
structure M2 (X : Cx) (o : Expr) (m : Str) (apos : Pos) (e f : Expr) (cpos : Pos) : Prop where
  base : attributeBase o m X.env (eval o X.env) = eval o X.env
  few : ((backTo cpos (starEach [e, f] X.env)).all (fun x => !x.1) && (backToKw cpos (keywordEach [] X.env)).all (fun x => x.1.isSome)
    && decide (([e, f] : List Expr).length + ([] : List Keyword).length + (if ([] : List Keyword).isEmpty then 0 else 1) < 30)) = true
  line : (apos.endLine == cpos.line) = true
  trees : backTo cpos (starEach [e, f] X.env) = [(false, eval e X.env), (false, eval f X.env)]

section
variable {X : Cx} {pins : List (Addr × Obj)} {σ : St} {H : Hp} {s : Shared} {a : Addr} {y d : V} {u r : Value} {o : Option V} {A : Around} {E : Value → Shared → Prop}
end

section
variable {X : Cx} {o e f : Expr} {apos cpos : Pos} {td ty tx : TE}
end

/-! ### dict(d): a copy -/
section
variable {X : Cx} {pins : List (Addr × Obj)} {σ : St} {H : Hp} {s : Shared} {a : Addr} {kvs : List (Key × V)} {A : Around} {E : Value → Shared → Prop}
end


section
variable {X : Cx} {pins : List (Addr × Obj)} {σ : St} {H : Hp} {s : Shared} {a : Addr} {y : V} {u : Value} {A : Around} {E : Value → Shared → Prop}
end
end L2

namespace L2
open PySem PySem.Spec PyProof.Rows
/-! ### dicts, behind the wall; text * n, list * n -/
structure Prs (X : Cx) (pos : Pos) (keys : List (Option Expr)) (values : List Expr) (trs : List (TE × TE)) : Prop where
  h : PPs X pos keys values trs
section
variable {X : Cx} {k : Nat} {o i kx vx : Expr} {td ty tk tv : TE} {pos : Pos} {keys : List (Option Expr)} {values : List Expr} {trs : List (TE × TE)}
theorem room_units {A : Around} (hr : Room k A) : A.units + 1 < cLine := by have := hr.un; omega
theorem eDg (hr : Room k X.A) (ho : E X o td) (hi : E X i ty) (hs : NoSl i := by intro _ _; rfl) : E X (.Subscript o i pos) (tDGet td ty) := ⟨pe_dget (room_units hr) ho.h hi.h hs⟩
theorem prN : Prs X pos [] [] [] := ⟨pps_nil⟩
theorem prC (hk : E X kx tk) (hv : E X vx tv) (hr : Prs X pos keys values trs) : Prs X pos (some kx :: keys) (vx :: values) ((tk, tv) :: trs) := ⟨pps_cons hk.h hv.h hr.h⟩
theorem eDisp (h : Prs X pos keys values trs) (ha : keys.all (·.isSome) = true := by rfl) (hl : keys.length = values.length := by rfl) (h0 : keys ≠ [] := by exact fun z => nomatch z) (h15 : keys.length ≤ 15 := by decide) : E X (.Dict keys values pos) (tDisp trs) := ⟨pe_disp h.h ha hl h0 h15⟩
theorem fold_flat : ∀ (n : Nat) (l : List Nat) (acc : Array Nat), ((List.replicate n l.toArray).foldl (· ++ ·) acc).toList = acc.toList ++ (List.replicate n l).flatten
  | 0, l, acc => by simp
  | n + 1, l, acc => by
    rw [List.replicate_succ, List.foldl_cons, fold_flat n l, List.replicate_succ, List.flatten_cons]
    simp
theorem mulX_is (l : List Nat) (n : Nat) : Txt.mul (Tx l) n = Tx (List.replicate n l).flatten := by
  unfold Txt.mul
  by_cases h1 : (n : Int) < 1
  · obtain rfl : n = 0 := by omega
    rw [if_pos h1]
    rfl
  · rw [if_neg h1]
    by_cases h2 : ((n : Int) == 1 || (Tx l).length == 0) = true
    · rw [if_pos h2]
      rcases Bool.or_eq_true _ _ ▸ h2 with h | h
      · have : n = 1 := by have := beq_iff_eq.mp h; omega
        subst this
        simp
      · have hl : l.length = 0 := by have := beq_iff_eq.mp h; rwa [Tx_len] at this
        rw [List.length_eq_zero_iff.mp hl]
        have : (List.replicate n ([] : List Nat)).flatten = [] := by simp
        rw [this]
    · rw [if_neg h2]
      show (⟨_⟩ : Str) = ⟨_⟩
      congr 1
      apply Array.toList_inj.mp
      rw [Int.toNat_natCast]
      have := fold_flat n l #[]
      simpa using this
theorem oMulX : Op2 X (binaryOp .Mult) (fun x y H Q => ∃ (l : List Nat) (n : Nat), x = .str (Tx l) ∧ y = .int n ∧ l.length * n ≤ 100000 ∧ n ≤ 100000 ∧ Q (.str (Tx (List.replicate n l).flatten)) H) := by
  refine ⟨fun pins s σ H x y v u Q I rx ry h => ?_⟩
  obtain ⟨l, n, rfl, rfl, hz, hn, q⟩ := h
  obtain ⟨t, rfl⟩ := rx
  obtain ⟨t2, rfl⟩ := ry
  refine SB.mul ⟨?_, fun h1 h2 => ?_, fun h1 h2 => ?_⟩ fun t' k => ⟨.str (Tx (List.replicate n l).flatten), H, I.tok _, ⟨t', by rw [mulX_is]⟩, q⟩
  · have a : ¬ (n : Int) < -(2 ^ 63) := by omega
    have b : ¬ (n : Int) ≥ 2 ^ 63 := by omega
    rw [decide_eq_false a, decide_eq_false b]
    rfl
  · rw [Tx_len]
    intro z
    have hn0 : 0 < n := by omega
    have h3 : (l.length : Int) * (n : Int) ≤ 100000 := by
      have : ((l.length * n : Nat) : Int) ≤ ((100000 : Nat) : Int) := Int.ofNat_le.mpr hz
      rwa [Int.natCast_mul] at this
    have h4 : ((2 ^ 63 - 1 : Int) / n) < l.length := z
    have h5 := Int.lt_ediv_add_one_mul_self (2 ^ 63 - 1 : Int) (show (0 : Int) < n by omega)
    have h6 := Int.mul_le_mul_of_nonneg_right (show (2 ^ 63 - 1 : Int) / n + 1 ≤ l.length by omega) (show (0 : Int) ≤ n by omega)
    omega
  · rw [Tx_len, Int.toNat_natCast]
    exact decide_eq_false (by rw [sizeLine_eq]; omega)
theorem eJoin0 {e : Expr} {to te : TE} {apos cpos : Pos} (ho : E X o to) (he : E X e te) (hbase : attributeBase o "join" X.env (eval o X.env) = eval o X.env := by rfl)
    (hfew : ((backTo cpos (starEach [e] X.env)).all (fun x => !x.1) && (backToKw cpos (keywordEach [] X.env)).all (fun x => x.1.isSome) && decide (([e] : List Expr).length + ([] : List Keyword).length + (if ([] : List Keyword).isEmpty then 0 else 1) < 30)) = true := by rfl)
    (hline : (apos.endLine == cpos.line) = true := by rfl) (hs : starEach [e] X.env = (false, eval e X.env) :: starEach [] X.env := by rfl) (hplain : (backTo cpos (starEach [] X.env)).any (·.1) = false := by rfl) :
    E X (.Call (.Attribute o "join" apos) [e] [] cpos) (tBM X.K "str" (rJoin0 X.K) to (tCons te tNil)) :=
  ⟨pe_bm PySem.F.plainAttrs_str PySem.F.slot_str_join PySem.F.type_str_join mt_join0 ho.h (pa_cons he.h pa_nil hs) hbase hfew hline hs hplain⟩
end
end L2

namespace K18
open PySem PySem.Spec PyProof.Rows L2
def top (i : Nat) : Stmt := PySem.Challenge.pw_fivefields_k18_moments_refused.main.body.getD i (.Pass ⟨0, 0, 0, 0⟩)
abbrev s_is_whole : Stmt := top 11
abbrev s_is_long : Stmt := top 14
abbrev s_multiples_before : Stmt := top 15
abbrev s_days_before : Stmt := top 16
abbrev s_last_of : Stmt := top 17
abbrev s_is_date : Stmt := top 18
abbrev s_day_of : Stmt := top 19
abbrev s_all_figures : Stmt := top 22
abbrev s_is_written : Stmt := top 23
abbrev s_moment_of : Stmt := top 29
abbrev s_is_shown_year : Stmt := top 30
abbrev s_is_shown_tail : Stmt := top 31
abbrev s_read_day : Stmt := top 32
abbrev s_read_moment : Stmt := top 33
abbrev s__law_cell_at : Stmt := top 35
abbrev s__law_whole : Stmt := top 36
abbrev s__law_long : Stmt := top 37
abbrev s__law_last : Stmt := top 38
abbrev s__law_two : Stmt := top 39
abbrev s__law_parts : Stmt := top 40
abbrev s__law_bad_number : Stmt := top 41
abbrev s__law_bad : Stmt := top 42
abbrev s__law_spoilt : Stmt := top 43
abbrev s__law_refused : Stmt := top 44
abbrev s_law : Stmt := top 45

def isLong (y : Int) : Bool := decide (y % 4 = 0) && (!decide (y % 100 = 0) || decide (y % 400 = 0))
def mb (y s : Int) : Int := (y + s - 1) / s
def db (y : Int) : Int := 365 * y + (mb y 4 - mb y 100 + mb y 400)
def lasts : List Int := [31, 28, 31, 30, 31, 30, 31, 31, 30, 31, 30, 31]
def longI (y : Int) : Int := if isLong y = true then 1 else 0
def lastOf (y m : Int) : Int := if m = 2 then 28 + longI y else lasts.getD (m - 1).toNat 0
theorem isLong_iff (y : Int) : isLong y = true ↔ (y % 4 = 0 ∧ (y % 100 ≠ 0 ∨ y % 400 = 0)) := by
  unfold isLong
  simp
theorem isLong_t {y : Int} (h : y % 4 = 0 ∧ (y % 100 ≠ 0 ∨ y % 400 = 0)) : isLong y = true := (isLong_iff y).mpr h
theorem isLong_f {y : Int} (h : ¬ (y % 4 = 0 ∧ (y % 100 ≠ 0 ∨ y % 400 = 0))) : isLong y = false := by
  cases e : isLong y
  · rfl
  · exact absurd ((isLong_iff y).mp e) h
theorem longI_01 (y : Int) : 0 ≤ longI y ∧ longI y ≤ 1 := by
  unfold longI
  split <;> omega
theorem lasts_at {m : Int} (h1 : 1 ≤ m) (h2 : m ≤ 12) : atI (lasts.map V.int) (m - 1) = some (V.int (lasts.getD (m - 1).toNat 0)) := by
  have hk : (m - 1).toNat < 12 := by omega
  have e : m - 1 = (((m - 1).toNat : Nat) : Int) := by omega
  rw [e]
  refine atI_nat ?_
  rw [Int.toNat_natCast]
  generalize (m - 1).toNat = j at hk
  match j, hk with
  | 0, _ | 1, _ | 2, _ | 3, _ | 4, _ | 5, _ | 6, _ | 7, _ | 8, _ | 9, _ | 10, _ | 11, _ => rfl
  | n + 12, h => exact absurd h (by omega)
/-- the days of a year's first n months -/
def ahN (y : Int) : Nat → Int
  | 0 => 0
  | n + 1 => ahN y n + lastOf y ((n : Int) + 1)
def ahead (y m : Int) : Int := ahN y (m - 1).toNat
theorem lastOf_ge {y m : Int} (h1 : 1 ≤ m) (h2 : m ≤ 12) : 28 ≤ lastOf y m := by
  have hl := longI_01 y
  unfold lastOf
  split
  · omega
  · have hk : (m - 1).toNat < 12 := by omega
    generalize (m - 1).toNat = j at hk
    match j, hk with
    | 0, _ | 1, _ | 2, _ | 3, _ | 4, _ | 5, _ | 6, _ | 7, _ | 8, _ | 9, _ | 10, _ | 11, _ => decide
    | n + 12, h => exact absurd h (by omega)
theorem ahN_sum (y : Int) : ∀ n : Nat, ((List.range n).map fun i : Nat => lastOf y (1 + (i : Int))).sum = ahN y n
  | 0 => rfl
  | n + 1 => by
    rw [mapR_succ, List.sum_append, ahN_sum y n]
    show ahN y n + (lastOf y (1 + (n : Int)) + 0) = ahN y n + lastOf y ((n : Int) + 1)
    rw [Int.add_comm 1 (n : Int), Int.add_zero]

theorem at_mem {xs : List V} {i : Int} (h0 : 0 ≤ i) (h1 : i < xs.length) : ∃ v, atI xs i = some v ∧ v ∈ xs := by
  have hk : i.toNat < xs.length := by omega
  have e : i = ((i.toNat : Nat) : Int) := by omega
  refine ⟨xs[i.toNat], ?_, List.getElem_mem hk⟩
  have z : atI xs ((i.toNat : Nat) : Int) = some xs[i.toNat] := atI_nat (List.getElem?_eq_getElem hk)
  rw [← e] at z
  exact z
theorem ixN_of {n : Nat} {i : Int} (h0 : 0 ≤ i) (h1 : i < n) : ixN n i = some i.toNat := by unfold ixN; rw [if_pos h0, if_pos h1]
theorem kind_put {K : PySem.W.Frag} {H : Hp} {v : V} {k : Kd} {l : Addr} {o : HO} (h : KindV K H v k) (ne : v ≠ .ref l) : KindV K (upd H l o) v k := by
  cases v with
  | ref a =>
    have na : a ≠ l := fun z => ne (by rw [z])
    rcases h with ⟨e, xs, h⟩ | ⟨e, xs, h⟩ | ⟨e, xs, h⟩
    · refine .inl ⟨e, xs, ?_⟩
      rcases h with (h | ⟨o, h⟩) | h
      · exact .inl (.inl (by rw [upd_ne na]; exact h))
      · exact .inl (.inr ⟨o, by rw [upd_ne na]; exact h⟩)
      · exact .inr h
    · refine .inr (.inl ⟨e, xs, ?_⟩)
      rcases h with (h | ⟨o, h⟩) | h
      · exact .inl (.inl (by rw [upd_ne na]; exact h))
      · exact .inl (.inr ⟨o, by rw [upd_ne na]; exact h⟩)
      · exact .inr h
    · exact .inr (.inr ⟨e, xs, by rw [upd_ne na]; exact h⟩)
  | int i => exact h
  | bl b => exact h
  | str x => exact h
  | non => exact h
  | byt b => exact h
  | flt b => exact h
  | ty n => exact h
/-- a new thing that is no whole number -/
def Odd (K : PySem.W.Frag) (H0 H : Hp) (v : V) : Prop := ∃ k, KindV K H v k ∧ k.wh = false ∧ ∀ a, v = .ref a → H0 a = none
theorem Odd.no {K : PySem.W.Frag} {H0 H : Hp} {v : V} (h : Odd K H0 H v) (i : Int) : v ≠ .int i := fun e => by
  obtain ⟨k, h1, h2, _⟩ := h
  subst e
  rw [kind_not h1] at h2
  cases h2
def AllK (K : PySem.W.Frag) (H : Hp) (xs : List V) : Prop := ∀ v ∈ xs, ∃ k, KindV K H v k
theorem AllK.put {K : PySem.W.Frag} {H : Hp} {xs : List V} {l : Addr} {o : HO} {i : Nat} {v : V} {k : Kd} (h : AllK K H xs) (hx : ∀ u ∈ xs, u ≠ .ref l) (hv : KindV K H v k) (nv : v ≠ .ref l) : AllK K (upd H l o) (xs.set i v) := fun u hu => by
  rcases List.mem_or_eq_of_mem_set hu with z | rfl
  · obtain ⟨k', hk⟩ := h u z
    exact ⟨k', kind_put hk (hx u z)⟩
  · exact ⟨k, kind_put hv nv⟩
theorem AllK.same {K : PySem.W.Frag} {H H' : Hp} {xs : List V} (h : AllK K H xs) (s : Same H H') : AllK K H' xs := fun u hu => by
  obtain ⟨k, hk⟩ := h u hu
  exact ⟨k, hk.same s⟩
def Ok3 (y m k : Int) : Prop := (1 ≤ m ∧ m ≤ 12) ∧ 1 ≤ k ∧ k ≤ lastOf y m
def dnum (y m k : Int) : Int := db y + ahead y m + k - 1
def G3 (xs : List V) : Prop := ∃ y m k : Int, xs = [.int y, .int m, .int k] ∧ (1 ≤ m ∧ m ≤ 12) ∧ 1 ≤ k ∧ k ≤ lastOf y m
def G3t (xs : List V) : Prop := ∃ x y z : Int, xs = [.int x, .int y, .int z] ∧ (0 ≤ y ∧ y ≤ 23) ∧ 0 ≤ z ∧ z ≤ 59
theorem lastOf_le {y m : Int} (h1 : 1 ≤ m) (h2 : m ≤ 12) : lastOf y m ≤ 31 := by
  have hl := longI_01 y
  unfold lastOf
  split
  · omega
  · have hk : (m - 1).toNat < 12 := by omega
    generalize (m - 1).toNat = j at hk
    match j, hk with
    | 0, _ | 1, _ | 2, _ | 3, _ | 4, _ | 5, _ | 6, _ | 7, _ | 8, _ | 9, _ | 10, _ | 11, _ => decide
    | n + 12, h => exact absurd h (by omega)
theorem len61 {n : Nat} (h : n < 10 ^ 60) : (num n).length ≤ 60 := (num_len 59 n).mpr h
theorem lenZ {y : Int} (h : y.natAbs < 10 ^ 60) : (numZ y).length ≤ 61 := by
  have h1 := numZ_abs y
  have h2 := len61 h
  omega
theorem big60 {n : Nat} (h : n < 10 ^ 60) : n < 10 ^ 500 := Nat.lt_of_lt_of_le h (Nat.pow_le_pow_right (by decide) (by decide))
theorem cut_drop1 (l : List Nat) : cutN l (some 1) none = l.drop 1 := by
  cases l with
  | nil => rfl
  | cons c r => exact cut_one c r

/-! the texts of moments, read from behind -/
def Dg (c : Nat) : Prop := 48 ≤ c ∧ c ≤ 57
def G0 (m k : Nat) (r : List Nat) : Prop := ∃ y : Int, r.reverse = numZ y ∧ y.natAbs < 10 ^ 50 ∧ (k : Int) ≤ lastOf y m
def Gm (k : Nat) (r : List Nat) : Prop := ∃ a b r', r = a :: b :: 45 :: r' ∧ Dg a ∧ Dg b ∧ 529 ≤ 10 * b + a ∧ 10 * b + a ≤ 540 ∧ G0 (10 * b + a - 528) k r'
def Gk (r : List Nat) : Prop := ∃ a b r', r = a :: b :: 45 :: r' ∧ Dg a ∧ Dg b ∧ 529 ≤ 10 * b + a ∧ 10 * b + a ≤ 559 ∧ Gm (10 * b + a - 528) r'
def Gh (r : List Nat) : Prop := ∃ a b r', r = a :: b :: 32 :: r' ∧ Dg a ∧ Dg b ∧ 528 ≤ 10 * b + a ∧ 10 * b + a ≤ 551 ∧ Gk r'
def Gi (r : List Nat) : Prop := ∃ a b r', r = a :: b :: 58 :: r' ∧ Dg a ∧ Dg b ∧ 528 ≤ 10 * b + a ∧ 10 * b + a ≤ 587 ∧ Gh r'
def GoodT (t : List Nat) (y : Int) (m k h i : Nat) : Prop := t = mtx y m k h i ∧ Ok3 y m k ∧ (h ≤ 23 ∧ i ≤ 59) ∧ y.natAbs < 10 ^ 50
theorem good_rev {t : List Nat} {y : Int} {m k h i : Nat} (g : GoodT t y m k h i) : Gi t.reverse := by
  obtain ⟨rfl, ok, ⟨h1, h2⟩, hy⟩ := g
  obtain ⟨⟨m1, m2⟩, k1, k2⟩ := id ok
  have k3 := lastOf_le (y := y) m1 m2
  have dg : ∀ n : Nat, n < 100 → Dg (48 + n % 10) ∧ Dg (48 + n / 10) ∧ 10 * (48 + n / 10) + (48 + n % 10) = 528 + n := fun n hn => by
    unfold Dg
    omega
  have d1 := dg i (by omega)
  have d2 := dg h (by omega)
  have d3 := dg k (by omega)
  have d4 := dg m (by omega)
  refine ⟨48 + i % 10, 48 + i / 10, [48 + h % 10, 48 + h / 10, 32, 48 + k % 10, 48 + k / 10, 45, 48 + m % 10, 48 + m / 10, 45] ++ (numZ y).reverse, ?_, d1.1, d1.2.1, by omega, by omega, ?_⟩
  · unfold mtx mtail
    rw [List.reverse_append]
    rfl
  refine ⟨48 + h % 10, 48 + h / 10, [48 + k % 10, 48 + k / 10, 45, 48 + m % 10, 48 + m / 10, 45] ++ (numZ y).reverse, rfl, d2.1, d2.2.1, by omega, by omega, ?_⟩
  refine ⟨48 + k % 10, 48 + k / 10, [48 + m % 10, 48 + m / 10, 45] ++ (numZ y).reverse, rfl, d3.1, d3.2.1, by omega, by omega, ?_⟩
  refine ⟨48 + m % 10, 48 + m / 10, (numZ y).reverse, rfl, d4.1, d4.2.1, by omega, by omega, ?_⟩
  rw [d4.2.2, d3.2.2, Nat.add_sub_cancel_left, Nat.add_sub_cancel_left]
  exact ⟨y, List.reverse_reverse _, hy, k2⟩
/-- the text of a year -/
theorem num_dg {n c : Nat} (h : c ∈ num n) : Dg c := by
  have := List.all_eq_true.mp (num_digs n) c h
  unfold isDig at this
  rw [Bool.and_eq_true] at this
  exact ⟨of_decide_eq_true this.1, of_decide_eq_true this.2⟩
theorem numZ_cases (y : Int) : (∃ n, numZ y = num n ∧ y.natAbs = n) ∨ ∃ n, numZ y = 45 :: num (n + 1) ∧ y.natAbs = n + 1 := by
  cases y with
  | ofNat n => exact .inl ⟨n, rfl, rfl⟩
  | negSucc n => exact .inr ⟨n, rfl, rfl⟩
theorem numZ_ne (y : Int) : numZ y ≠ [] := fun e => by
  rcases numZ_cases y with ⟨n, h, _⟩ | ⟨n, h, _⟩
  · exact num_nn n (h.symm.trans e)
  · rw [h] at e; cases e
theorem numZ_mem {y : Int} {c : Nat} (h : c ∈ numZ y) : Dg c ∨ c = 45 := by
  rcases numZ_cases y with ⟨n, e, _⟩ | ⟨n, e, _⟩
  · rw [e] at h; exact .inl (num_dg h)
  · rw [e] at h
    rcases List.mem_cons.mp h with z | z
    · exact .inr z
    · exact .inl (num_dg z)
theorem numZ_tail {y : Int} {c d : Nat} {r : List Nat} (h : numZ y = c :: r) (hd : d ∈ r) : Dg d := by
  rcases numZ_cases y with ⟨n, e, _⟩ | ⟨n, e, _⟩
  · exact num_dg (n := n) (by rw [← e, h]; exact List.mem_cons_of_mem _ hd)
  · rw [e] at h
    cases h
    exact num_dg hd
/-- a stroke stands at the head alone -/
theorem numZ_45 {y : Int} {l r : List Nat} (h : (numZ y).reverse = l ++ 45 :: r) : r = [] := by
  have e : numZ y = r.reverse ++ 45 :: l.reverse := by
    rw [← List.reverse_reverse (numZ y), h]
    simp
  cases q : r.reverse with
  | nil => exact List.reverse_eq_nil_iff.mp q
  | cons c r' =>
    rw [q] at e
    have := numZ_tail (c := c) (d := 45) (r := r' ++ 45 :: l.reverse) e (by simp)
    exact absurd this (by unfold Dg; decide)
theorem G0_nil {m k : Nat} : ¬ G0 m k [] := fun ⟨y, h, _⟩ => numZ_ne y h.symm
theorem numZ_last {y : Int} {c : Nat} {r : List Nat} (h : (numZ y).reverse = c :: r) : Dg c := by
  have e : numZ y = r.reverse ++ [c] := by rw [← List.reverse_reverse (numZ y), h]; simp
  rcases numZ_cases y with ⟨n, q, _⟩ | ⟨n, q, _⟩
  · exact num_dg (n := n) (by rw [← q, e]; simp)
  · rw [q] at e
    cases hr : r.reverse with
    | nil =>
      rw [hr] at e
      have : num (n + 1) = [] := (List.cons.inj e).2
      exact absurd this (num_nn _)
    | cons d r' =>
      rw [hr] at e
      have : num (n + 1) = r' ++ [c] := (List.cons.inj e).2
      exact num_dg (n := n + 1) (by rw [this]; simp)
/-- the year's end read as a month -/
theorem Gm_year {y : Int} {k : Nat} : ¬ Gm k (numZ y).reverse := fun ⟨a, b, r', e, _, _, _, _, g⟩ => by
  have := numZ_45 (l := [a, b]) (r := r') e
  rw [this] at g
  exact G0_nil g
def badY (Y : List Nat) : List (List Nat) := [48 :: Y, 43 :: Y, [45, 48], [], [120], Y ++ [32], List.replicate 51 49, 45 :: List.replicate 51 49, [50, 48, 50, 52, 46], [50, 95, 48, 50, 52]]
theorem no_mem {y : Int} {l : List Nat} {c : Nat} (hc : c ∈ l) (h1 : ¬ Dg c) (h2 : c ≠ 45) : l ≠ numZ y := fun e => by
  rw [e] at hc
  rcases numZ_mem hc with z | z
  · exact h1 z
  · exact h2 z
theorem badY_no {y y' : Int} {w : List Nat} (hw : w ∈ badY (numZ y)) (hy : y'.natAbs < 10 ^ 50) : w ≠ numZ y' := by
  simp only [badY, List.mem_cons, List.not_mem_nil, or_false] at hw
  rcases hw with rfl | rfl | rfl | rfl | rfl | rfl | rfl | rfl | rfl | rfl
  · intro e
    rcases numZ_cases y' with ⟨n, q, _⟩ | ⟨n, q, _⟩
    · rw [q] at e
      cases n with
      | zero =>
        have : numZ y = [] := (List.cons.inj (e.trans (show num 0 = [48] from rfl))).2
        exact numZ_ne y this
      | succ n =>
        have := num_head (n := n + 1) (by omega)
        rw [← e] at this
        exact this rfl
    · rw [q] at e
      exact absurd (List.cons.inj e).1 (by decide)
  · exact no_mem (c := 43) (by simp) (by unfold Dg; decide) (by decide)
  · intro e
    rcases numZ_cases y' with ⟨n, q, _⟩ | ⟨n, q, _⟩
    · have : Dg 45 := num_dg (n := n) (by rw [← q, ← e]; simp)
      exact absurd this (by unfold Dg; decide)
    · rw [q] at e
      have := num_head (n := n + 1) (by omega)
      rw [← (List.cons.inj e).2] at this
      exact this rfl
  · exact fun e => numZ_ne y' e.symm
  · exact no_mem (c := 120) (by simp) (by unfold Dg; decide) (by decide)
  · exact no_mem (c := 32) (by simp) (by unfold Dg; decide) (by decide)
  · intro e
    rcases numZ_cases y' with ⟨n, q, hn⟩ | ⟨n, q, hn⟩
    · have h1 := (num_len 49 n).mpr (by rw [← hn]; exact hy)
      rw [← q, ← e, List.length_replicate] at h1
      omega
    · rw [q] at e
      exact absurd (List.cons.inj e).1 (by decide)
  · intro e
    rcases numZ_cases y' with ⟨n, q, hn⟩ | ⟨n, q, hn⟩
    · have : Dg 45 := num_dg (n := n) (by rw [← q, ← e]; simp)
      exact absurd this (by unfold Dg; decide)
    · rw [q] at e
      have h1 := (num_len 49 (n + 1)).mpr (by rw [← hn]; exact hy)
      rw [← (List.cons.inj e).2, List.length_replicate] at h1
      omega
  · exact no_mem (c := 46) (by simp) (by unfold Dg; decide) (by decide)
  · exact no_mem (c := 95) (by simp) (by unfold Dg; decide) (by decide)
theorem G0_bad {y : Int} {m k : Nat} {w : List Nat} (hw : w ∈ badY (numZ y)) : ¬ G0 m k w.reverse := fun ⟨y', h, hy, _⟩ => badY_no hw hy (by rw [← h, List.reverse_reverse])
def badN (out : List Nat) : List (List Nat) := [out, [57, 57], [55], [48, 48, 55], [120, 49], [32, 55], [45, 49], [], [49, 46], [55, 32], [43, 55]]
def sep1 : List (List Nat) := [[47], [], [46], [43]]
def sep5 : List (List Nat) := [[84], [], [32, 32], [95]]
def sep7 : List (List Nat) := [[46], [], [32], [58, 58]]
/-- a part that is no number: what is left to look at -/
theorem num_bad {w out X r' : List Nat} {a b c hi : Nat} (hw : w ∈ badN out) (ho : out = [] ∨ ∃ p q, out = [p, q]) (e : w.reverse ++ X = a :: b :: c :: r') (ha : Dg a) (hb : Dg b) (hv : 10 * b + a ≤ hi) (hh : hi ≤ 600) (hc : c = 45 ∨ c = 32 ∨ c = 58) :
    (∃ p q, w = out ∧ out = [p, q] ∧ a = q ∧ b = p ∧ X = c :: r') ∨ (∃ d, X = d :: c :: r' ∧ Dg d) ∨ (∃ d d', X = d :: d' :: c :: r' ∧ Dg d ∧ Dg d') := by
  simp only [badN, List.mem_cons, List.not_mem_nil, or_false] at hw
  unfold Dg at ha hb ⊢
  rcases hw with rfl | rfl | rfl | rfl | rfl | rfl | rfl | rfl | rfl | rfl | rfl
  · rcases ho with rfl | ⟨p, q, rfl⟩
    · exact .inr (.inr ⟨a, b, e, ha, hb⟩)
    · simp at e
      exact .inl ⟨p, q, rfl, rfl, e.1.symm, e.2.1.symm, e.2.2⟩
  · simp at e; omega
  · simp at e; exact .inr (.inl ⟨b, e.2, hb⟩)
  · simp at e; omega
  · simp at e; omega
  · simp at e; omega
  · simp at e; omega
  · exact .inr (.inr ⟨a, b, e, ha, hb⟩)
  · simp at e; omega
  · simp at e; omega
  · simp at e; omega

theorem numZ_inj {y y' : Int} (h : numZ y = numZ y') : y = y' := by
  have nd : ∀ {a b : Nat}, num a = num b → a = b := fun {a b} e => by rw [← num_val a, ← num_val b, e]
  have n45 : ¬ Dg 45 := by unfold Dg; decide
  cases y with
  | ofNat a =>
    cases y' with
    | ofNat b => rw [nd (show num a = num b from h)]
    | negSucc b => exact absurd (num_dg (n := a) (show 45 ∈ num a by rw [show num a = 45 :: num (b + 1) from h]; simp)) n45
  | negSucc a =>
    cases y' with
    | ofNat b => exact absurd (num_dg (n := b) (show 45 ∈ num b by rw [← show 45 :: num (a + 1) = num b from h]; simp)) n45
    | negSucc b =>
      have := nd (List.cons.inj (show 45 :: num (a + 1) = 45 :: num (b + 1) from h)).2
      have e : a = b := by omega
      rw [e]
/-- a part as it was, or a bad one -/
def Pt (u : Nat) (good : List Nat) (bad : List (List Nat)) (w : List Nat) : Prop := (u = 0 ∧ w = good) ∨ (u = 1 ∧ w ∈ bad)
def dd (n : Nat) : List Nat := [48 + n / 10, 48 + n % 10]
theorem dd_dg {n : Nat} (h : n < 100) : Dg (48 + n % 10) ∧ Dg (48 + n / 10) ∧ 10 * (48 + n / 10) + (48 + n % 10) = 528 + n := by unfold Dg; omega
theorem not_dg : ¬ Dg 45 ∧ ¬ Dg 32 ∧ ¬ Dg 58 ∧ ¬ Dg 47 ∧ ¬ Dg 46 ∧ ¬ Dg 43 ∧ ¬ Dg 84 ∧ ¬ Dg 95 := by unfold Dg; decide
section
variable {y : Int} {m k h i last : Nat} {u0 u1 u2 u3 u4 u5 u6 u7 u8 : Nat} {p0 p1 p2 p3 p4 p5 p6 p7 p8 o2 o4 o6 o8 : List Nat}
theorem st0 {m' k' : Nat} (h0 : Pt u0 (numZ y) (badY (numZ y)) p0) (g : G0 m' k' p0.reverse) : u0 = 0 ∧ (k' : Int) ≤ lastOf y m' := by
  rcases h0 with ⟨h0, rfl⟩ | ⟨_, hw⟩
  · obtain ⟨y', e, _, hk⟩ := g
    rw [List.reverse_reverse] at e
    rw [numZ_inj e]
    exact ⟨h0, hk⟩
  · exact absurd g (G0_bad hw)
theorem st1 {m' k' : Nat} {r : List Nat} (h0 : Pt u0 (numZ y) (badY (numZ y)) p0) (h1 : Pt u1 [45] sep1 p1) (e : p1.reverse ++ p0.reverse = 45 :: r) (g : G0 m' k' r) : u1 = 0 ∧ u0 = 0 ∧ (k' : Int) ≤ lastOf y m' := by
  rcases h1 with ⟨h1, rfl⟩ | ⟨_, hw⟩
  · obtain rfl : p0.reverse = r := by simpa using e
    exact ⟨h1, st0 h0 g⟩
  · exfalso
    simp only [sep1, List.mem_cons, List.not_mem_nil, or_false] at hw
    rcases hw with rfl | rfl | rfl | rfl
    · simp at e
    · have e : p0.reverse = 45 :: r := e
      rcases h0 with ⟨_, rfl⟩ | ⟨_, hw⟩
      · exact not_dg.1 (numZ_last e)
      · simp only [badY, List.mem_cons, List.not_mem_nil, or_false] at hw
        have yr : ∀ c : Nat, (c :: numZ y).reverse = 45 :: r → False := fun c z => by
          rw [List.reverse_cons] at z
          cases q : (numZ y).reverse with
          | nil => exact numZ_ne y (List.reverse_eq_nil_iff.mp q)
          | cons d t =>
            rw [q] at z
            have : d = 45 := (List.cons.inj z).1
            subst this
            exact not_dg.1 (numZ_last q)
        rcases hw with rfl | rfl | rfl | rfl | rfl | rfl | rfl | rfl | rfl | rfl
        · exact yr _ e
        · exact yr _ e
        · simp at e
        · simp at e
        · simp at e
        · simp at e
        · rw [List.reverse_replicate] at e; simp [List.replicate] at e
        · rw [List.reverse_cons, List.reverse_replicate] at e; simp [List.replicate] at e
        · simp at e
        · simp at e
    · simp at e
    · simp at e
theorem st2 {k' : Nat} (hm : m < 100) (ho : o2 = [49, 51] ∨ o2 = [48, 48]) (h0 : Pt u0 (numZ y) (badY (numZ y)) p0) (h1 : Pt u1 [45] sep1 p1) (h2 : Pt u2 (dd m) (badN o2) p2) (hu : u2 + u1 + u0 ≤ 2)
    (g : Gm k' (p2.reverse ++ (p1.reverse ++ p0.reverse))) : u2 = 0 ∧ u1 = 0 ∧ u0 = 0 ∧ (k' : Int) ≤ lastOf y m := by
  obtain ⟨a, b, r, e, da, db, lo, hi, g⟩ := g
  rcases h2 with ⟨h2, rfl⟩ | ⟨h2, hw⟩
  · have e' : a = 48 + m % 10 ∧ b = 48 + m / 10 ∧ p1.reverse ++ p0.reverse = 45 :: r := by
      have : (48 + m % 10) :: (48 + m / 10) :: (p1.reverse ++ p0.reverse) = a :: b :: 45 :: r := e
      simp only [List.cons.injEq] at this
      exact ⟨this.1.symm, this.2.1.symm, this.2.2⟩
    obtain ⟨rfl, rfl, e'⟩ := e'
    rw [(dd_dg hm).2.2, Nat.add_sub_cancel_left] at g
    exact ⟨h2, st1 h0 h1 e' g⟩
  · exfalso
    rcases num_bad hw (.inr (by rcases ho with rfl | rfl <;> exact ⟨_, _, rfl⟩)) e da db hi (by decide) (.inl rfl) with ⟨p, q, rfl, eo, rfl, rfl, _⟩ | ⟨d, ex, hd⟩ | ⟨d, d', ex, hd, hd'⟩
    · rcases ho with rfl | rfl
      · cases eo; omega
      · cases eo; omega
    · rcases h1 with ⟨_, rfl⟩ | ⟨h1, hs⟩
      · simp at ex; rw [← ex.1] at hd; exact not_dg.1 hd
      · simp only [sep1, List.mem_cons, List.not_mem_nil, or_false] at hs
        rcases hs with rfl | rfl | rfl | rfl
        · simp at ex; rw [← ex.1] at hd; exact not_dg.2.2.2.1 hd
        · rcases h0 with ⟨_, rfl⟩ | ⟨h0, _⟩
          · rw [numZ_45 (l := [d]) ex] at g
            exact G0_nil g
          · omega
        · simp at ex; rw [← ex.1] at hd; exact not_dg.2.2.2.2.1 hd
        · simp at ex; rw [← ex.1] at hd; exact not_dg.2.2.2.2.2.1 hd
    · rcases h1 with ⟨_, rfl⟩ | ⟨h1, hs⟩
      · simp at ex; rw [← ex.1] at hd; exact not_dg.1 hd
      · simp only [sep1, List.mem_cons, List.not_mem_nil, or_false] at hs
        rcases hs with rfl | rfl | rfl | rfl
        · simp at ex; rw [← ex.1] at hd; exact not_dg.2.2.2.1 hd
        · rcases h0 with ⟨_, rfl⟩ | ⟨h0, _⟩
          · rw [numZ_45 (l := [d, d']) ex] at g
            exact G0_nil g
          · omega
        · simp at ex; rw [← ex.1] at hd; exact not_dg.2.2.2.2.1 hd
        · simp at ex; rw [← ex.1] at hd; exact not_dg.2.2.2.2.2.1 hd
theorem dd_rev (n : Nat) (X : List Nat) : (dd n).reverse ++ X = (48 + n % 10) :: (48 + n / 10) :: X := rfl
theorem num_head_bad {w out X r : List Nat} {c : Nat} (hw : w ∈ badN out) (ho : ∃ p q, out = [p, q] ∧ Dg q) (e : w.reverse ++ X = c :: r) (hc : c = 45 ∨ c = 32 ∨ c = 58) : (w = [] ∧ X = c :: r) ∨ (c = 32 ∧ r = 55 :: X) := by
  obtain ⟨p, q, rfl, hq⟩ := ho
  simp only [badN, List.mem_cons, List.not_mem_nil, or_false] at hw
  unfold Dg at hq
  rcases hw with rfl | rfl | rfl | rfl | rfl | rfl | rfl | rfl | rfl | rfl | rfl
  · simp at e; omega
  · simp at e; omega
  · simp at e; omega
  · simp at e; omega
  · simp at e; omega
  · simp at e; omega
  · simp at e; omega
  · exact .inl ⟨rfl, e⟩
  · simp at e; omega
  · simp at e; exact .inr ⟨by omega, e.2.symm⟩
  · simp at e; omega
theorem st3 {k' : Nat} {r : List Nat} (hm : m < 100) (ho : o2 = [49, 51] ∨ o2 = [48, 48]) (h0 : Pt u0 (numZ y) (badY (numZ y)) p0) (h1 : Pt u1 [45] sep1 p1) (h2 : Pt u2 (dd m) (badN o2) p2) (h3 : Pt u3 [45] sep1 p3) (hu : u3 + u2 + u1 + u0 ≤ 2)
    (e : p3.reverse ++ (p2.reverse ++ (p1.reverse ++ p0.reverse)) = 45 :: r) (g : Gm k' r) : u3 = 0 ∧ u2 = 0 ∧ u1 = 0 ∧ u0 = 0 ∧ (k' : Int) ≤ lastOf y m := by
  rcases h3 with ⟨h3, rfl⟩ | ⟨h3, hs⟩
  · obtain rfl : p2.reverse ++ (p1.reverse ++ p0.reverse) = r := by simpa using e
    exact ⟨h3, st2 hm ho h0 h1 h2 (by omega) g⟩
  · exfalso
    simp only [sep1, List.mem_cons, List.not_mem_nil, or_false] at hs
    rcases hs with rfl | rfl | rfl | rfl
    · simp at e
    · have e : p2.reverse ++ (p1.reverse ++ p0.reverse) = 45 :: r := e
      rcases h2 with ⟨_, rfl⟩ | ⟨h2, hw⟩
      · rw [dd_rev] at e
        have := (List.cons.inj e).1
        omega
      · rcases num_head_bad hw (by rcases ho with rfl | rfl <;> exact ⟨_, _, rfl, by unfold Dg; decide⟩) e (.inl rfl) with ⟨_, ex⟩ | ⟨z, _⟩
        · rcases h1 with ⟨_, rfl⟩ | ⟨h1, _⟩
          · rcases h0 with ⟨_, rfl⟩ | ⟨h0, _⟩
            · obtain rfl : (numZ y).reverse = r := by simpa using ex
              exact Gm_year g
            · omega
          · omega
        · cases z
    · simp at e
    · simp at e
theorem st4 (hm : m < 100) (hk : k < 100) (hl : last < 99) (hlast : (last : Int) = lastOf y m) (ho : o2 = [49, 51] ∨ o2 = [48, 48]) (ho4 : o4 = dd (last + 1) ∨ o4 = [48, 48]) (h0 : Pt u0 (numZ y) (badY (numZ y)) p0) (h1 : Pt u1 [45] sep1 p1) (h2 : Pt u2 (dd m) (badN o2) p2) (h3 : Pt u3 [45] sep1 p3)
    (h4 : Pt u4 (dd k) (badN o4) p4) (hu : u4 + u3 + u2 + u1 + u0 ≤ 2) (g : Gk (p4.reverse ++ (p3.reverse ++ (p2.reverse ++ (p1.reverse ++ p0.reverse))))) : u4 = 0 ∧ u3 = 0 ∧ u2 = 0 ∧ u1 = 0 ∧ u0 = 0 := by
  obtain ⟨a, b, r, e, da, db, lo, hi, g⟩ := g
  rcases h4 with ⟨h4, rfl⟩ | ⟨h4, hw⟩
  · rw [dd_rev] at e
    simp only [List.cons.injEq] at e
    obtain ⟨rfl, rfl, e⟩ := e
    rw [(dd_dg hk).2.2, Nat.add_sub_cancel_left] at g
    obtain ⟨a3, a2, a1, a0, _⟩ := st3 hm ho h0 h1 h2 h3 (by omega) e g
    exact ⟨h4, a3, a2, a1, a0⟩
  · exfalso
    rcases num_bad hw (.inr (by rcases ho4 with rfl | rfl <;> exact ⟨_, _, rfl⟩)) e da db hi (by decide) (.inl rfl) with ⟨p, q, rfl, eo, rfl, rfl, ex⟩ | ⟨d, ex, hd⟩ | ⟨d, d', ex, hd, hd'⟩
    · rcases ho4 with rfl | rfl
      · cases eo
        rw [(dd_dg (show last + 1 < 100 by omega)).2.2, Nat.add_sub_cancel_left] at g
        obtain ⟨_, _, _, _, z⟩ := st3 hm ho h0 h1 h2 h3 (by omega) ex g
        omega
      · cases eo; omega
    · rcases h3 with ⟨_, rfl⟩ | ⟨h3, hs⟩
      · simp at ex; rw [← ex.1] at hd; exact not_dg.1 hd
      · simp only [sep1, List.mem_cons, List.not_mem_nil, or_false] at hs
        rcases hs with rfl | rfl | rfl | rfl
        · simp at ex; rw [← ex.1] at hd; exact not_dg.2.2.2.1 hd
        · rcases h2 with ⟨_, rfl⟩ | ⟨h2, _⟩
          · have ex : (dd m).reverse ++ (p1.reverse ++ p0.reverse) = d :: 45 :: r := ex
            rw [dd_rev] at ex
            have := (List.cons.inj (List.cons.inj ex).2).1
            omega
          · omega
        · simp at ex; rw [← ex.1] at hd; exact not_dg.2.2.2.2.1 hd
        · simp at ex; rw [← ex.1] at hd; exact not_dg.2.2.2.2.2.1 hd
    · rcases h3 with ⟨_, rfl⟩ | ⟨h3, hs⟩
      · simp at ex; rw [← ex.1] at hd; exact not_dg.1 hd
      · simp only [sep1, List.mem_cons, List.not_mem_nil, or_false] at hs
        rcases hs with rfl | rfl | rfl | rfl
        · simp at ex; rw [← ex.1] at hd; exact not_dg.2.2.2.1 hd
        · rcases h2 with ⟨_, rfl⟩ | ⟨h2, _⟩
          · rcases h1 with ⟨_, rfl⟩ | ⟨h1, _⟩
            · rcases h0 with ⟨_, rfl⟩ | ⟨h0, _⟩
              · have ex : (dd m).reverse ++ ([45].reverse ++ (numZ y).reverse) = d :: d' :: 45 :: r := ex
                rw [dd_rev] at ex
                obtain rfl : (numZ y).reverse = r := (List.cons.inj (List.cons.inj (List.cons.inj ex).2).2).2
                exact Gm_year g
              · omega
            · omega
          · omega
        · simp at ex; rw [← ex.1] at hd; exact not_dg.2.2.2.2.1 hd
        · simp at ex; rw [← ex.1] at hd; exact not_dg.2.2.2.2.2.1 hd
theorem st5 {r : List Nat} (hm : m < 100) (hk : k < 100) (hl : last < 99) (hlast : (last : Int) = lastOf y m) (ho : o2 = [49, 51] ∨ o2 = [48, 48]) (ho4 : o4 = dd (last + 1) ∨ o4 = [48, 48]) (h0 : Pt u0 (numZ y) (badY (numZ y)) p0) (h1 : Pt u1 [45] sep1 p1) (h2 : Pt u2 (dd m) (badN o2) p2) (h3 : Pt u3 [45] sep1 p3)
    (h4 : Pt u4 (dd k) (badN o4) p4) (h5 : Pt u5 [32] sep5 p5) (hu : u5 + u4 + u3 + u2 + u1 + u0 ≤ 2) (e : p5.reverse ++ (p4.reverse ++ (p3.reverse ++ (p2.reverse ++ (p1.reverse ++ p0.reverse)))) = 32 :: r) (g : Gk r) : u5 = 0 ∧ u4 = 0 ∧ u3 = 0 ∧ u2 = 0 ∧ u1 = 0 ∧ u0 = 0 := by
  rcases h5 with ⟨h5, rfl⟩ | ⟨h5, hs⟩
  · obtain rfl : p4.reverse ++ (p3.reverse ++ (p2.reverse ++ (p1.reverse ++ p0.reverse))) = r := by simpa using e
    exact ⟨h5, st4 hm hk hl hlast ho ho4 h0 h1 h2 h3 h4 (by omega) g⟩
  · exfalso
    simp only [sep5, List.mem_cons, List.not_mem_nil, or_false] at hs
    rcases hs with rfl | rfl | rfl | rfl
    · simp at e
    · have e : p4.reverse ++ (p3.reverse ++ (p2.reverse ++ (p1.reverse ++ p0.reverse))) = 32 :: r := e
      rcases h4 with ⟨_, rfl⟩ | ⟨h4, hw⟩
      · rw [dd_rev] at e
        have := (List.cons.inj e).1
        omega
      · rcases h3 with ⟨_, rfl⟩ | ⟨h3, _⟩
        · rcases num_head_bad hw (by rcases ho4 with rfl | rfl; (exact ⟨_, _, rfl, (dd_dg (by omega)).1⟩); (exact ⟨_, _, rfl, by unfold Dg; decide⟩)) e (.inr (.inl rfl)) with ⟨_, ex⟩ | ⟨_, ex⟩
          · simp at ex
          · obtain ⟨a, b, r2, e2, _, db, _⟩ := g
            rw [ex] at e2
            have := (List.cons.inj (List.cons.inj (show 55 :: 45 :: (p2.reverse ++ (p1.reverse ++ p0.reverse)) = a :: b :: 45 :: r2 from e2)).2).1
            rw [← this] at db
            exact not_dg.1 db
        · omega
    · have : 32 :: (p4.reverse ++ (p3.reverse ++ (p2.reverse ++ (p1.reverse ++ p0.reverse)))) = r := (List.cons.inj e).2
      obtain ⟨a, b, r2, e2, da, _⟩ := g
      rw [← this] at e2
      rw [← (List.cons.inj e2).1] at da
      exact not_dg.2.1 da
    · simp at e
theorem st6 (hm : m < 100) (hk : k < 100) (hh : h < 100) (hl : last < 99) (hlast : (last : Int) = lastOf y m) (ho : o2 = [49, 51] ∨ o2 = [48, 48]) (ho4 : o4 = dd (last + 1) ∨ o4 = [48, 48]) (ho6 : o6 = [50, 52] ∨ o6 = [54, 48]) (h0 : Pt u0 (numZ y) (badY (numZ y)) p0) (h1 : Pt u1 [45] sep1 p1) (h2 : Pt u2 (dd m) (badN o2) p2) (h3 : Pt u3 [45] sep1 p3)
    (h4 : Pt u4 (dd k) (badN o4) p4) (h5 : Pt u5 [32] sep5 p5) (h6 : Pt u6 (dd h) (badN o6) p6) (hu : u6 + u5 + u4 + u3 + u2 + u1 + u0 ≤ 2) (g : Gh (p6.reverse ++ (p5.reverse ++ (p4.reverse ++ (p3.reverse ++ (p2.reverse ++ (p1.reverse ++ p0.reverse))))))) :
    u6 = 0 ∧ u5 = 0 ∧ u4 = 0 ∧ u3 = 0 ∧ u2 = 0 ∧ u1 = 0 ∧ u0 = 0 := by
  obtain ⟨a, b, r, e, da, db, lo, hi, g⟩ := g
  rcases h6 with ⟨h6, rfl⟩ | ⟨h6, hw⟩
  · rw [dd_rev] at e
    simp only [List.cons.injEq] at e
    obtain ⟨rfl, rfl, e⟩ := e
    exact ⟨h6, st5 hm hk hl hlast ho ho4 h0 h1 h2 h3 h4 h5 (by omega) e g⟩
  · exfalso
    have left : ∀ d t, p5.reverse ++ (p4.reverse ++ (p3.reverse ++ (p2.reverse ++ (p1.reverse ++ p0.reverse)))) = d :: t → Dg d → ∃ X, t = (48 + k / 10) :: 45 :: X := fun d t ex hd => by
      rcases h5 with ⟨_, rfl⟩ | ⟨h5, hs⟩
      · simp at ex; rw [← ex.1] at hd; exact absurd hd not_dg.2.1
      · simp only [sep5, List.mem_cons, List.not_mem_nil, or_false] at hs
        rcases hs with rfl | rfl | rfl | rfl
        · simp at ex; rw [← ex.1] at hd; exact absurd hd not_dg.2.2.2.2.2.2.1
        · rcases h4 with ⟨_, rfl⟩ | ⟨h4, _⟩
          · rcases h3 with ⟨_, rfl⟩ | ⟨h3, _⟩
            · exact ⟨_, (List.cons.inj (show (48 + k % 10) :: (48 + k / 10) :: 45 :: (p2.reverse ++ (p1.reverse ++ p0.reverse)) = d :: t from ex)).2.symm⟩
            · omega
          · omega
        · simp at ex; rw [← ex.1] at hd; exact absurd hd not_dg.2.1
        · simp at ex; rw [← ex.1] at hd; exact absurd hd not_dg.2.2.2.2.2.2.2
    rcases num_bad hw (.inr (by rcases ho6 with rfl | rfl <;> exact ⟨_, _, rfl⟩)) e da db hi (by decide) (.inr (.inl rfl)) with ⟨p, q, rfl, eo, rfl, rfl, ex⟩ | ⟨d, ex, hd⟩ | ⟨d, d', ex, hd, hd'⟩
    · rcases ho6 with rfl | rfl
      · cases eo; omega
      · cases eo; omega
    · obtain ⟨X, z⟩ := left _ _ ex hd
      have := (List.cons.inj z).1
      omega
    · obtain ⟨X, z⟩ := left _ _ ex hd
      have := (List.cons.inj (List.cons.inj z).2).1
      omega
theorem st7 {r : List Nat} (hm : m < 100) (hk : k < 100) (hh : h < 100) (hl : last < 99) (hlast : (last : Int) = lastOf y m) (ho : o2 = [49, 51] ∨ o2 = [48, 48]) (ho4 : o4 = dd (last + 1) ∨ o4 = [48, 48]) (ho6 : o6 = [50, 52] ∨ o6 = [54, 48]) (h0 : Pt u0 (numZ y) (badY (numZ y)) p0) (h1 : Pt u1 [45] sep1 p1) (h2 : Pt u2 (dd m) (badN o2) p2) (h3 : Pt u3 [45] sep1 p3)
    (h4 : Pt u4 (dd k) (badN o4) p4) (h5 : Pt u5 [32] sep5 p5) (h6 : Pt u6 (dd h) (badN o6) p6) (h7 : Pt u7 [58] sep7 p7) (hu : u7 + u6 + u5 + u4 + u3 + u2 + u1 + u0 ≤ 2) (e : p7.reverse ++ (p6.reverse ++ (p5.reverse ++ (p4.reverse ++ (p3.reverse ++ (p2.reverse ++ (p1.reverse ++ p0.reverse)))))) = 58 :: r) (g : Gh r) :
    u7 = 0 ∧ u6 = 0 ∧ u5 = 0 ∧ u4 = 0 ∧ u3 = 0 ∧ u2 = 0 ∧ u1 = 0 ∧ u0 = 0 := by
  rcases h7 with ⟨h7, rfl⟩ | ⟨h7, hs⟩
  · obtain rfl : p6.reverse ++ (p5.reverse ++ (p4.reverse ++ (p3.reverse ++ (p2.reverse ++ (p1.reverse ++ p0.reverse))))) = r := by simpa using e
    exact ⟨h7, st6 hm hk hh hl hlast ho ho4 ho6 h0 h1 h2 h3 h4 h5 h6 (by omega) g⟩
  · exfalso
    simp only [sep7, List.mem_cons, List.not_mem_nil, or_false] at hs
    rcases hs with rfl | rfl | rfl | rfl
    · simp at e
    · have e : p6.reverse ++ (p5.reverse ++ (p4.reverse ++ (p3.reverse ++ (p2.reverse ++ (p1.reverse ++ p0.reverse))))) = 58 :: r := e
      rcases h6 with ⟨_, rfl⟩ | ⟨h6, hw⟩
      · rw [dd_rev] at e
        have := (List.cons.inj e).1
        omega
      · rcases h5 with ⟨_, rfl⟩ | ⟨h5, _⟩
        · rcases num_head_bad hw (by rcases ho6 with rfl | rfl <;> exact ⟨_, _, rfl, by unfold Dg; decide⟩) e (.inr (.inr rfl)) with ⟨_, ex⟩ | ⟨z, _⟩
          · simp at ex
          · cases z
        · omega
    · simp at e
    · have : 58 :: (p6.reverse ++ (p5.reverse ++ (p4.reverse ++ (p3.reverse ++ (p2.reverse ++ (p1.reverse ++ p0.reverse)))))) = r := (List.cons.inj e).2
      obtain ⟨a, b, r2, e2, da, _⟩ := g
      rw [← this] at e2
      rw [← (List.cons.inj e2).1] at da
      exact not_dg.2.2.1 da
theorem st8 (hm : m < 100) (hk : k < 100) (hh : h < 100) (hi : i < 100) (hl : last < 99) (hlast : (last : Int) = lastOf y m) (ho : o2 = [49, 51] ∨ o2 = [48, 48]) (ho4 : o4 = dd (last + 1) ∨ o4 = [48, 48]) (ho6 : o6 = [50, 52] ∨ o6 = [54, 48]) (ho8 : o8 = [54, 48] ∨ o8 = [54, 49]) (h0 : Pt u0 (numZ y) (badY (numZ y)) p0) (h1 : Pt u1 [45] sep1 p1)
    (h2 : Pt u2 (dd m) (badN o2) p2) (h3 : Pt u3 [45] sep1 p3) (h4 : Pt u4 (dd k) (badN o4) p4) (h5 : Pt u5 [32] sep5 p5) (h6 : Pt u6 (dd h) (badN o6) p6) (h7 : Pt u7 [58] sep7 p7) (h8 : Pt u8 (dd i) (badN o8) p8) (hu : u8 + u7 + u6 + u5 + u4 + u3 + u2 + u1 + u0 ≤ 2)
    (g : Gi (p8.reverse ++ (p7.reverse ++ (p6.reverse ++ (p5.reverse ++ (p4.reverse ++ (p3.reverse ++ (p2.reverse ++ (p1.reverse ++ p0.reverse))))))))) : u8 + u7 + u6 + u5 + u4 + u3 + u2 + u1 + u0 = 0 := by
  obtain ⟨a, b, r, e, da, db, lo, hi', g⟩ := g
  rcases h8 with ⟨h8, rfl⟩ | ⟨h8, hw⟩
  · rw [dd_rev] at e
    simp only [List.cons.injEq] at e
    obtain ⟨rfl, rfl, e⟩ := e
    have := st7 hm hk hh hl hlast ho ho4 ho6 h0 h1 h2 h3 h4 h5 h6 h7 (by omega) e g
    omega
  · exfalso
    have left : ∀ d t, p7.reverse ++ (p6.reverse ++ (p5.reverse ++ (p4.reverse ++ (p3.reverse ++ (p2.reverse ++ (p1.reverse ++ p0.reverse)))))) = d :: t → Dg d → ∃ X, t = (48 + h / 10) :: 32 :: X := fun d t ex hd => by
      rcases h7 with ⟨_, rfl⟩ | ⟨h7, hs⟩
      · simp at ex; rw [← ex.1] at hd; exact absurd hd not_dg.2.2.1
      · simp only [sep7, List.mem_cons, List.not_mem_nil, or_false] at hs
        rcases hs with rfl | rfl | rfl | rfl
        · simp at ex; rw [← ex.1] at hd; exact absurd hd not_dg.2.2.2.2.1
        · rcases h6 with ⟨_, rfl⟩ | ⟨h6, _⟩
          · rcases h5 with ⟨_, rfl⟩ | ⟨h5, _⟩
            · exact ⟨_, (List.cons.inj (show (48 + h % 10) :: (48 + h / 10) :: 32 :: (p4.reverse ++ (p3.reverse ++ (p2.reverse ++ (p1.reverse ++ p0.reverse)))) = d :: t from ex)).2.symm⟩
            · omega
          · omega
        · simp at ex; rw [← ex.1] at hd; exact absurd hd not_dg.2.1
        · simp at ex; rw [← ex.1] at hd; exact absurd hd not_dg.2.2.1
    rcases num_bad hw (.inr (by rcases ho8 with rfl | rfl <;> exact ⟨_, _, rfl⟩)) e da db hi' (by decide) (.inr (.inr rfl)) with ⟨p, q, rfl, eo, rfl, rfl, ex⟩ | ⟨d, ex, hd⟩ | ⟨d, d', ex, hd, hd'⟩
    · rcases ho8 with rfl | rfl
      · cases eo; omega
      · cases eo; omega
    · obtain ⟨X, z⟩ := left _ _ ex hd
      have := (List.cons.inj z).1
      omega
    · obtain ⟨X, z⟩ := left _ _ ex hd
      have := (List.cons.inj (List.cons.inj z).2).1
      omega
end

def tailB (l : List Nat) : Bool := match l with
  | [a, b, c, d, e, f, g, h, i, j, k, o] => decide ([a, d, g, j] = [45, 45, 32, 58]) && allF [b, c, e, f, h, i, k, o]
  | _ => false
theorem tailB_len {l : List Nat} (h : l.length ≠ 12) : tailB l = false := by
  unfold tailB
  split
  · exact absurd rfl h
  · rfl
theorem dg_two {b c : Nat} (hb : isDig b = true) (hc : isDig c = true) : ∃ n : Nat, n < 100 ∧ b = 48 + n / 10 ∧ c = 48 + n % 10 := by
  unfold isDig at hb hc
  rw [Bool.and_eq_true] at hb hc
  have b1 := of_decide_eq_true hb.1
  have b2 := of_decide_eq_true hb.2
  have c1 := of_decide_eq_true hc.1
  have c2 := of_decide_eq_true hc.2
  exact ⟨10 * (b - 48) + (c - 48), by omega, by omega, by omega⟩
theorem tailB_is {l : List Nat} (h : tailB l = true) : ∃ m k h i : Nat, (m < 100 ∧ k < 100 ∧ h < 100 ∧ i < 100) ∧ l = mtail m k h i := by
  unfold tailB at h
  split at h
  · next a b c d e f g h' i j k o =>
    rw [Bool.and_eq_true] at h
    have e1 := of_decide_eq_true h.1
    simp only [List.cons.injEq, and_true] at e1
    obtain ⟨rfl, rfl, rfl, rfl⟩ := e1
    have h2 := h.2
    unfold allF at h2
    simp only [List.all_cons, List.all_nil, Bool.and_true, Bool.and_eq_true] at h2
    obtain ⟨_, q1, q2, q3, q4, q5, q6, q7, q8⟩ := h2
    obtain ⟨m, hm, rfl, rfl⟩ := dg_two q1 q2
    obtain ⟨k', hk, rfl, rfl⟩ := dg_two q3 q4
    obtain ⟨hh, hhh, rfl, rfl⟩ := dg_two q5 q6
    obtain ⟨ii, hi, rfl, rfl⟩ := dg_two q7 q8
    exact ⟨m, k', hh, ii, ⟨hm, hk, hhh, hi⟩, rfl⟩
  · cases h
theorem tailB_mt {m k h i : Nat} (hb : m < 100 ∧ k < 100 ∧ h < 100 ∧ i < 100) : tailB (mtail m k h i) = true := by
  show (decide ([45, 45, 32, 58] = [45, 45, 32, 58]) && allF [48 + m / 10, 48 + m % 10, 48 + k / 10, 48 + k % 10, 48 + h / 10, 48 + h % 10, 48 + i / 10, 48 + i % 10]) = true
  rw [decide_eq_true rfl]
  unfold allF
  simp [two_dig hb.1, two_dig hb.2.1, two_dig hb.2.2.1, two_dig hb.2.2.2]
def bare (l : List Nat) : List Nat := if l.head? = some 45 then l.drop 1 else l
def yearB (l : List Nat) : Bool := decide ((bare l).length ≤ 50) && (isW (bare l) && !decide (l = [45, 48]))
theorem isW_num : ∀ (n : Nat) (l : List Nat), l.length = n → isW l = true → l = num (PySem.NumText.digitsVal l)
  | 0, l, hn, h => by
    rw [List.length_eq_zero_iff.mp hn] at h
    cases h
  | n + 1, l, hn, h => by
    obtain ⟨dg, ne⟩ := isW_digits h
    obtain ⟨l', c, rfl⟩ : ∃ l' c, l = l' ++ [c] := ⟨l.dropLast, l.getLast ne, (List.dropLast_concat_getLast ne).symm⟩
    have hc := dg c (by simp)
    rw [PySem.NumText.digitsVal_snoc]
    cases l' with
    | nil =>
      show [c] = num (0 * 10 + (c - 48))
      rw [num_lt10 (by omega)]
      congr 1
      omega
    | cons d r =>
      have hd := dg d (by simp)
      have hd2 : d ≠ 48 := fun e => by
        unfold isW at h
        rw [Bool.and_eq_true, Bool.or_eq_true] at h
        rcases h.2 with z | z
        · have := of_decide_eq_true z
          simp at this
        · rw [e] at z
          simp at z
      have hw : isW (d :: r) = true := by
        unfold isW allF
        rw [Bool.and_eq_true, Bool.or_eq_true, Bool.and_eq_true]
        refine ⟨⟨by simp, List.all_eq_true.mpr fun x hx => ?_⟩, .inr (by simp [hd2])⟩
        have := dg x (List.mem_append_left _ hx)
        unfold isDig
        rw [decide_eq_true this.1, decide_eq_true this.2]
        rfl
      have ih := isW_num n (d :: r) (by simpa using hn) hw
      have pos := PySem.NumText.digitsVal_pos (c := d) (cs := r) (by omega)
      rw [num_ge10 (by omega), show (PySem.NumText.digitsVal (d :: r) * 10 + (c - 48)) / 10 = PySem.NumText.digitsVal (d :: r) by omega, ← ih, show 48 + (PySem.NumText.digitsVal (d :: r) * 10 + (c - 48)) % 10 = c by omega]
theorem yearB_is {l : List Nat} (h : yearB l = true) : ∃ y : Int, l = numZ y ∧ y.natAbs < 10 ^ 50 := by
  unfold yearB at h
  rw [Bool.and_eq_true, Bool.and_eq_true] at h
  obtain ⟨h1, h2, h3⟩ := h
  have h1 := of_decide_eq_true h1
  have e := isW_num _ (bare l) rfl h2
  have hn : PySem.NumText.digitsVal (bare l) < 10 ^ 50 := (num_len 49 _).mp (by rw [← e]; exact h1)
  by_cases c : l.head? = some 45
  · obtain ⟨r, rfl⟩ : ∃ r, l = 45 :: r := by
      cases l with
      | nil => cases c
      | cons x r => cases c; exact ⟨r, rfl⟩
    have eb : bare (45 :: r) = r := by unfold bare; rw [if_pos c]; rfl
    rw [eb] at e hn
    cases q : PySem.NumText.digitsVal r with
    | zero =>
      rw [q] at e
      rw [show num 0 = [48] from rfl] at e
      rw [e] at h3
      cases h3
    | succ n =>
      rw [q] at e hn
      exact ⟨Int.negSucc n, by rw [e]; rfl, hn⟩
  · have eb : bare l = l := by unfold bare; rw [if_neg c]
    rw [eb] at e hn
    exact ⟨Int.ofNat (PySem.NumText.digitsVal l), e, hn⟩
theorem yearB_nz {y : Int} (h : y.natAbs < 10 ^ 50) : yearB (numZ y) = true := by
  have main : ∀ n : Nat, n < 10 ^ 50 → bare (numZ y) = num n → numZ y ≠ [45, 48] → yearB (numZ y) = true := fun n hn e ne => by
    unfold yearB
    rw [e, num_isW, decide_eq_true ((num_len 49 n).mpr hn), decide_eq_false ne]
    rfl
  cases y with
  | ofNat n =>
    refine main n h ?_ fun z => ?_
    · show (if (num n).head? = some 45 then (num n).drop 1 else num n) = _
      rw [if_neg (of_decide_eq_false (num_no45 n))]
    · have := num_no45 n
      rw [show num n = [45, 48] from z] at this
      exact absurd this (by decide)
  | negSucc n =>
    refine main (n + 1) h ?_ fun z => ?_
    · show (if (45 :: num (n + 1)).head? = some 45 then (45 :: num (n + 1)).drop 1 else _) = _
      rw [if_pos (show (45 :: num (n + 1)).head? = some 45 from rfl)]
      rfl
    · have := num_head (n := n + 1) (by omega)
      rw [(List.cons.inj (show 45 :: num (n + 1) = [45, 48] from z)).2] at this
      exact this rfl
theorem mtx_inj {y y' : Int} {m k h i m' k' h' i' : Nat} (hb : m < 100 ∧ k < 100 ∧ h < 100 ∧ i < 100) (hb' : m' < 100 ∧ k' < 100 ∧ h' < 100 ∧ i' < 100) (e : mtx y m k h i = mtx y' m' k' h' i') : y = y' ∧ m = m' ∧ k = k' ∧ h = h' ∧ i = i' := by
  obtain ⟨e1, e2⟩ := List.append_inj' (show numZ y ++ mtail m k h i = numZ y' ++ mtail m' k' h' i' from e) rfl
  unfold mtail at e2
  simp only [List.cons.injEq, and_true, true_and] at e2
  exact ⟨numZ_inj e1, by omega, by omega, by omega, by omega⟩
theorem good_100 {t : List Nat} {y : Int} {m k h i : Nat} (g : GoodT t y m k h i) : m < 100 ∧ k < 100 ∧ h < 100 ∧ i < 100 := by
  obtain ⟨_, ok, hb, _⟩ := g
  obtain ⟨⟨m1, m2⟩, k1, k2⟩ := id ok
  have k3 := lastOf_le (y := y) m1 m2
  omega
theorem cut12 (t : List Nat) (h : 12 ≤ t.length) : ∃ a b, t = a ++ b ∧ b.length = 12 ∧ cutN t none (some (-12)) = a ∧ cutN t (some (-12)) none = b := by
  have e : t = t.take (t.length - 12) ++ t.drop (t.length - 12) := (List.take_append_drop _ _).symm
  have hl : (t.drop (t.length - 12)).length = 12 := by rw [List.length_drop]; omega
  refine ⟨_, _, e, hl, ?_, ?_⟩
  · have := cut_head (t.take (t.length - 12)) _ hl
    rwa [← e] at this
  · have := cut_tail (t.take (t.length - 12)) _ hl
    rwa [← e] at this
/-- the parts of a text, and how each may be spoilt -/
def prt (y : Int) (m k h i : Nat) : List (List Nat) := [numZ y, [45], dd m, [45], dd k, [32], dd h, [58], dd i]
def badAt (y : Int) (last : Nat) (j : Nat) (w : List Nat) : Prop := match j with
  | 0 => w ∈ badY (numZ y)
  | 1 => w ∈ sep1
  | 2 => w ∈ badN [49, 51] ∨ w ∈ badN [48, 48]
  | 3 => w ∈ sep1
  | 4 => w ∈ badN (dd (last + 1)) ∨ w ∈ badN [48, 48]
  | 5 => w ∈ sep5
  | 6 => w ∈ badN [50, 52] ∨ w ∈ badN [54, 48]
  | 7 => w ∈ sep7
  | _ => w ∈ badN [54, 48] ∨ w ∈ badN [54, 49]
theorem rev9 (p0 p1 p2 p3 p4 p5 p6 p7 p8 : List Nat) : ([p0, p1, p2, p3, p4, p5, p6, p7, p8].flatten).reverse = p8.reverse ++ (p7.reverse ++ (p6.reverse ++ (p5.reverse ++ (p4.reverse ++ (p3.reverse ++ (p2.reverse ++ (p1.reverse ++ p0.reverse))))))) := by
  simp
theorem pick2 {w : List Nat} {a b : List Nat} (h : w ∈ badN a ∨ w ∈ badN b) : ∃ o, (o = a ∨ o = b) ∧ w ∈ badN o := by
  rcases h with h | h
  · exact ⟨a, .inl rfl, h⟩
  · exact ⟨b, .inr rfl, h⟩
/-- one or two parts spoilt: no text of a moment -/
theorem spoilt_no {y : Int} {m k h i last : Nat} (hm : m < 100) (hk : k < 100) (hh : h < 100) (hi : i < 100) (hl : last < 99) (hlast : (last : Int) = lastOf y m) (U : Nat → Nat) (P : Nat → List Nat)
    (hP : ∀ j, j < 9 → (U j = 0 ∧ P j = (prt y m k h i).getD j []) ∨ (U j = 1 ∧ badAt y last j (P j))) (hs : 1 ≤ U 8 + U 7 + U 6 + U 5 + U 4 + U 3 + U 2 + U 1 + U 0) (hs2 : U 8 + U 7 + U 6 + U 5 + U 4 + U 3 + U 2 + U 1 + U 0 ≤ 2)
    {y' : Int} {m' k' h' i' : Nat} : ¬ GoodT [P 0, P 1, P 2, P 3, P 4, P 5, P 6, P 7, P 8].flatten y' m' k' h' i' := fun g => by
  have gi := good_rev g
  rw [rev9] at gi
  have q0 := hP 0 (by decide)
  have q1 := hP 1 (by decide)
  have q3 := hP 3 (by decide)
  have q5 := hP 5 (by decide)
  have q7 := hP 7 (by decide)
  have num2 : ∀ (j : Nat) (g a b : List Nat), ((U j = 0 ∧ P j = g) ∨ (U j = 1 ∧ (P j ∈ badN a ∨ P j ∈ badN b))) → ∃ o, (o = a ∨ o = b) ∧ Pt (U j) g (badN o) (P j) := fun j g a b z => by
    rcases z with z | ⟨z1, z2⟩
    · exact ⟨a, .inl rfl, .inl z⟩
    · obtain ⟨o, ho, hw⟩ := pick2 z2
      exact ⟨o, ho, .inr ⟨z1, hw⟩⟩
  obtain ⟨o2, ho2, q2⟩ := num2 2 (dd m) _ _ (hP 2 (by decide))
  obtain ⟨o4, ho4, q4⟩ := num2 4 (dd k) _ _ (hP 4 (by decide))
  obtain ⟨o6, ho6, q6⟩ := num2 6 (dd h) _ _ (hP 6 (by decide))
  obtain ⟨o8, ho8, q8⟩ := num2 8 (dd i) _ _ (hP 8 (by decide))
  have := st8 hm hk hh hi hl hlast ho2 ho4 ho6 ho8 q0 q1 q2 q3 q4 q5 q6 q7 q8 hs2 gi
  omega
/-- the right text with signs about it -/
theorem about_no {y : Int} {m k h i : Nat} (hb : m < 100 ∧ k < 100 ∧ h < 100 ∧ i < 100) {t w : List Nat} (ht : t = mtx y m k h i) (hw : w ∈ [32 :: t, t ++ [32], t ++ [90], cutN t none (some (-1)), cutN t (some 1) (some 2) ++ [32] ++ t, 45 :: t ++ [45], [], t ++ [10], 10 :: t, t ++ [9]])
    {y' : Int} {m' k' h' i' : Nat} : ¬ GoodT w y' m' k' h' i' := fun g => by
  have gi := good_rev g
  have hd : ∀ {c : Nat} {r : List Nat}, Gi (c :: r) → Dg c := fun ⟨a, b, r', e, da, _⟩ => by rw [(List.cons.inj e).1]; exact da
  have hd2 : ∀ {c d : Nat} {r : List Nat}, Gi (c :: d :: r) → Dg d := fun ⟨a, b, r', e, _, db, _⟩ => by rw [(List.cons.inj (List.cons.inj e).2).1]; exact db
  have pre : ∀ (x : List Nat) (c : Nat), c ∈ x → ¬ Dg c → c ≠ 45 → w = x ++ t → False := fun x c hc n1 n2 ew => by
    obtain ⟨ew', _, _, _⟩ := g
    rw [ew, ht] at ew'
    have e1 := (List.append_inj' (show (x ++ numZ y) ++ mtail m k h i = numZ y' ++ mtail m' k' h' i' by rw [List.append_assoc]; exact ew') rfl).1
    exact no_mem (c := c) (l := x ++ numZ y) (List.mem_append_left _ hc) n1 n2 e1
  simp only [List.mem_cons, List.not_mem_nil, or_false] at hw
  rcases hw with rfl | rfl | rfl | rfl | rfl | rfl | rfl | rfl | rfl | rfl
  · exact pre [32] 32 (by simp) (by unfold Dg; decide) (by decide) rfl
  · rw [List.reverse_append] at gi; exact absurd (hd gi) (by unfold Dg; decide)
  · rw [List.reverse_append] at gi; exact absurd (hd gi) (by unfold Dg; decide)
  · have e : cutN t none (some (-1)) = t.dropLast := by
      unfold cutN
      show (t.drop 0).take ((if (-1 : Int) < 0 then ((-1 : Int) + (t.length : Int)).toNat else min (-1 : Int).toNat t.length) - 0) = _
      rw [if_pos (by decide), List.drop_zero, List.dropLast_eq_take]
      congr 1
      omega
    have e2 : t.dropLast.reverse = (48 + i / 10) :: 58 :: ([45, 48 + m / 10, 48 + m % 10, 45, 48 + k / 10, 48 + k % 10, 32, 48 + h / 10, 48 + h % 10].reverse ++ (numZ y).reverse) := by
      rw [ht]
      unfold mtx mtail
      rw [List.dropLast_append_of_ne_nil (by simp), List.reverse_append]
      rfl
    rw [e, e2] at gi
    exact absurd (hd2 gi) (by unfold Dg; decide)
  · exact pre (cutN t (some 1) (some 2) ++ [32]) 32 (by simp) (by unfold Dg; decide) (by decide) rfl
  · rw [List.reverse_append] at gi; exact absurd (hd gi) (by unfold Dg; decide)
  · exact absurd gi fun ⟨a, b, r', e, _⟩ => by cases e
  · rw [List.reverse_append] at gi; exact absurd (hd gi) (by unfold Dg; decide)
  · exact pre [10] 10 (by simp) (by unfold Dg; decide) (by decide) rfl
  · rw [List.reverse_append] at gi; exact absurd (hd gi) (by unfold Dg; decide)

theorem q20 : (10 : Int) ^ (20 : Int).toNat = 100000000000000000000 := by decide +kernel
theorem p20 : (10 : Nat) ^ 50 = 100000000000000000000000000000000000000000000000000 := by decide +kernel
def sV (w : List Nat) : V := .str (Tx w)
theorem lt60 {n : Nat} (h : n < 10 ^ 50) : n < 10 ^ 60 := Nat.lt_of_lt_of_le h (Nat.pow_le_pow_right (by decide) (by decide))
theorem good_len {t : List Nat} {y : Int} {m k h i : Nat} (h0 : y.natAbs < 10 ^ 50) : (mtx y m k h i).length ≤ 73 := by
  have := lenZ (lt60 h0)
  unfold mtx
  rw [List.length_append]
  show (numZ y).length + 12 ≤ 73
  omega
theorem dd_two {n : Nat} (h : n < 100) : two n = dd n := two_is h
theorem prt_flat (y : Int) (m k h i : Nat) : (prt y m k h i).flatten = mtx y m k h i := by
  unfold prt mtx mtail dd
  simp
theorem at_map {ws : List (List Nat)} {i : Int} {n : Nat} (hn : ws.length = n) (h0 : 0 ≤ i) (h1 : i < n) : ∃ w, w ∈ ws ∧ atI (ws.map sV) i = some (V.str (Tx w)) := by
  obtain ⟨v, hv, hm⟩ := at_mem (xs := ws.map sV) (i := i) h0 (by rw [List.length_map, hn]; exact h1)
  obtain ⟨w, hw, rfl⟩ := List.mem_map.mp hm
  exact ⟨w, hw, hv⟩
theorem getD_set9 (l : List (List Nat)) (j n : Nat) (w : List Nat) (hj : j < l.length) : (l.set j w).getD n [] = if n = j then w else l.getD n [] := by
  rw [List.getD_eq_getElem?_getD, List.getElem?_set, List.getD_eq_getElem?_getD]
  by_cases c : j = n
  · subst c
    rw [if_pos rfl, if_pos hj, if_pos rfl]
    rfl
  · rw [if_neg c, if_neg (fun z => c z.symm)]
theorem nine (l : List (List Nat)) (h : l.length = 9) : l = [l.getD 0 [], l.getD 1 [], l.getD 2 [], l.getD 3 [], l.getD 4 [], l.getD 5 [], l.getD 6 [], l.getD 7 [], l.getD 8 []] := by
  match l, h with
  | [a, b, c, d, e, f, g, i, j], _ => rfl
theorem one9 : ∀ j, j < 9 → ((if 8 = j then 1 else 0) + (if 7 = j then 1 else 0) + (if 6 = j then 1 else 0) + (if 5 = j then 1 else 0) + (if 4 = j then 1 else 0) + (if 3 = j then 1 else 0) + (if 2 = j then 1 else 0) + (if 1 = j then 1 else 0) + (if 0 = j then 1 else 0) : Nat) = 1 := by decide
theorem two9 : ∀ j, j < 9 → ∀ j', j' < 9 → j ≠ j' → ((if 8 = j' then 1 else if 8 = j then 1 else 0) + (if 7 = j' then 1 else if 7 = j then 1 else 0) + (if 6 = j' then 1 else if 6 = j then 1 else 0) + (if 5 = j' then 1 else if 5 = j then 1 else 0) + (if 4 = j' then 1 else if 4 = j then 1 else 0) + (if 3 = j' then 1 else if 3 = j then 1 else 0) + (if 2 = j' then 1 else if 2 = j then 1 else 0) + (if 1 = j' then 1 else if 1 = j then 1 else 0) + (if 0 = j' then 1 else if 0 = j then 1 else 0) : Nat) = 2 := by decide
section
variable {y : Int} {m k h i last : Nat}
structure Day (y : Int) (m k h i last : Nat) : Prop where
  ok : Ok3 y m k
  hb : h ≤ 23 ∧ i ≤ 59
  hy : y.natAbs < 10 ^ 50
  hl : (last : Int) = lastOf y m
theorem Day.lt (d : Day y m k h i last) : m < 100 ∧ k < 100 ∧ h < 100 ∧ i < 100 ∧ last < 99 := by
  obtain ⟨⟨m1, m2⟩, k1, k2⟩ := id d.ok
  have k3 := lastOf_le (y := y) m1 m2
  have := d.hb
  have := d.hl
  omega
theorem spoil1 (d : Day y m k h i last) {j : Nat} {w : List Nat} (hj : j < 9) (hw : badAt y last j w) {y' : Int} {m' k' h' i' : Nat} : ¬ GoodT ((prt y m k h i).set j w).flatten y' m' k' h' i' := by
  obtain ⟨l1, l2, l3, l4, l5⟩ := d.lt
  rw [nine ((prt y m k h i).set j w) (by rw [List.length_set]; rfl)]
  refine spoilt_no l1 l2 l3 l4 l5 d.hl (fun n => if n = j then 1 else 0) (fun n => ((prt y m k h i).set j w).getD n []) (fun n hn => ?_) (Nat.le_of_eq (one9 j hj).symm) (by rw [one9 j hj]; decide)
  rw [getD_set9 _ _ _ _ (show j < 9 from hj)]
  by_cases c : n = j
  · subst c
    rw [if_pos rfl, if_pos rfl]
    exact .inr ⟨rfl, hw⟩
  · rw [if_neg c, if_neg c]
    exact .inl ⟨rfl, rfl⟩
theorem spoil2 (d : Day y m k h i last) {j j2 : Nat} {w w2 : List Nat} (hj : j < 9) (hj2 : j2 < 9) (ne : j ≠ j2) (hw : badAt y last j w) (hw2 : badAt y last j2 w2) {y' : Int} {m' k' h' i' : Nat} : ¬ GoodT (((prt y m k h i).set j w).set j2 w2).flatten y' m' k' h' i' := by
  obtain ⟨l1, l2, l3, l4, l5⟩ := d.lt
  rw [nine (((prt y m k h i).set j w).set j2 w2) (by rw [List.length_set, List.length_set]; rfl)]
  refine spoilt_no l1 l2 l3 l4 l5 d.hl (fun n => if n = j2 then 1 else if n = j then 1 else 0) (fun n => (((prt y m k h i).set j w).set j2 w2).getD n []) (fun n hn => ?_) (by rw [two9 j hj j2 hj2 ne]; decide) (Nat.le_of_eq (two9 j hj j2 hj2 ne))
  rw [getD_set9 _ _ _ _ (by rw [List.length_set]; exact hj2), getD_set9 _ _ _ _ (show j < 9 from hj)]
  by_cases c2 : n = j2
  · subst c2
    rw [if_pos rfl, if_pos rfl]
    exact .inr ⟨rfl, hw2⟩
  · rw [if_neg c2, if_neg c2]
    by_cases c : n = j
    · subst c
      rw [if_pos rfl, if_pos rfl]
      exact .inr ⟨rfl, hw⟩
    · rw [if_neg c, if_neg c]
      exact .inl ⟨rfl, rfl⟩
theorem sum_le : ∀ ws : List (List Nat), (∀ p ∈ ws, p.length ≤ 70) → (ws.map (·.length)).sum ≤ 70 * ws.length ∧ ws.flatten.length = (ws.map (·.length)).sum
  | [], _ => ⟨Nat.le_refl _, rfl⟩
  | p :: ws, hp => by
    have h1 := hp p (by simp)
    obtain ⟨h2, h3⟩ := sum_le ws fun q hq => hp q (List.mem_cons_of_mem _ hq)
    rw [List.map_cons, List.sum_cons, List.flatten_cons, List.length_append, List.length_cons]
    omega
theorem prt_len (hy : y.natAbs < 10 ^ 50) : ∀ p ∈ prt y m k h i, p.length ≤ 70 := fun p hp => by
  have := lenZ (lt60 hy)
  simp only [prt, List.mem_cons, List.not_mem_nil, or_false] at hp
  rcases hp with rfl | rfl | rfl | rfl | rfl | rfl | rfl | rfl | rfl
  · omega
  all_goals (first | (show 1 ≤ 70; decide) | (show 2 ≤ 70; decide))
theorem badN_len {out w : List Nat} (ho : out.length ≤ 2) (hw : w ∈ badN out) : w.length ≤ 70 := by
  simp only [badN, List.mem_cons, List.not_mem_nil, or_false] at hw
  rcases hw with rfl | rfl | rfl | rfl | rfl | rfl | rfl | rfl | rfl | rfl | rfl
  · omega
  all_goals decide
theorem badAt_len {j : Nat} {w : List Nat} (hy : y.natAbs < 10 ^ 50) (hj : j < 9) (hw : badAt y last j w) : w.length ≤ 70 := by
  have hz := lenZ (lt60 hy)
  match j, hj, hw with
  | 0, _, hw =>
    simp only [badAt, badY, List.mem_cons, List.not_mem_nil, or_false] at hw
    rcases hw with rfl | rfl | rfl | rfl | rfl | rfl | rfl | rfl | rfl | rfl
    · rw [List.length_cons]; omega
    · rw [List.length_cons]; omega
    · decide
    · decide
    · decide
    · rw [List.length_append]; show (numZ y).length + 1 ≤ 70; omega
    · rw [List.length_replicate]; decide
    · rw [List.length_cons, List.length_replicate]; decide
    · decide
    · decide
  | 1, _, hw => simp only [badAt, sep1, List.mem_cons, List.not_mem_nil, or_false] at hw; rcases hw with rfl | rfl | rfl | rfl <;> decide
  | 2, _, hw => rcases hw with hw | hw <;> exact badN_len (by decide) hw
  | 3, _, hw => simp only [badAt, sep1, List.mem_cons, List.not_mem_nil, or_false] at hw; rcases hw with rfl | rfl | rfl | rfl <;> decide
  | 4, _, hw => rcases hw with hw | hw <;> (refine badN_len ?_ hw; exact Nat.le_refl 2)
  | 5, _, hw => simp only [badAt, sep5, List.mem_cons, List.not_mem_nil, or_false] at hw; rcases hw with rfl | rfl | rfl | rfl <;> decide
  | 6, _, hw => rcases hw with hw | hw <;> exact badN_len (by decide) hw
  | 7, _, hw => simp only [badAt, sep7, List.mem_cons, List.not_mem_nil, or_false] at hw; rcases hw with rfl | rfl | rfl | rfl <;> decide
  | 8, _, hw => rcases hw with hw | hw <;> exact badN_len (by decide) hw
  | n + 9, hj, _ => exact absurd hj (by omega)
theorem set_len {ws : List (List Nat)} {j : Nat} {w : List Nat} (h : ∀ p ∈ ws, p.length ≤ 70) (hw : w.length ≤ 70) : ∀ p ∈ ws.set j w, p.length ≤ 70 := fun p hp => by
  rcases List.mem_or_eq_of_mem_set hp with z | rfl
  · exact h p z
  · exact hw
end
/-- a thing that is no text of a moment -/
def Refd (K : PySem.W.Frag) (H : Hp) (v : V) : Prop := (∃ kd, KindV K H v kd ∧ kd ≠ .str) ∨ ∃ t : List Nat, v = .str (Tx t) ∧ t.length ≤ 900 ∧ ∀ (y : Int) (m k h i : Nat), ¬ GoodT t y m k h i
def sp_is_whole (K : PySem.W.Frag) : Sp := fun vs H Q _ => ∃ (v : V) (k : Kd), vs = [v] ∧ KindV K H v k ∧ Q (.bl k.wh) H
def sp_is_long (K : PySem.W.Frag) : Sp := fun vs H Q _ => ∃ y : Int, vs = [.int y] ∧ Q (.bl (isLong y)) H
def sp_multiples_before (K : PySem.W.Frag) : Sp := fun vs H Q _ => ∃ y z : Int, vs = [.int y, .int z] ∧ (0 < z ∧ z < 1073741824) ∧ Q (.int (mb y z)) H
def sp_days_before (K : PySem.W.Frag) : Sp := fun vs H Q _ => ∃ y : Int, vs = [.int y] ∧ Q (.int (db y)) H
def sp_last_of (K : PySem.W.Frag) : Sp := fun vs H Q _ => ∃ y m : Int, vs = [.int y, .int m] ∧ (1 ≤ m ∧ m ≤ 12) ∧ Q (.int (lastOf y m)) H
def sp_is_date (K : PySem.W.Frag) : Sp := fun vs H Q _ => ∃ (a b c : V) (ka kb kc : Kd), vs = [a, b, c] ∧ KindV K H a ka ∧ KindV K H b kb ∧ KindV K H c kc ∧ (G3 [a, b, c] → Q (.bl true) H) ∧ (¬ G3 [a, b, c] → Q (.bl false) H)
def sp_day_of (K : PySem.W.Frag) (C_NoDay : Addr) : Sp := fun vs H Q E => ∃ (a b c : V) (ka kb kc : Kd), vs = [a, b, c] ∧ KindV K H a ka ∧ KindV K H b kb ∧ KindV K H c kc ∧ (¬ G3 [a, b, c] → E (.ref C_NoDay) none H) ∧ (∀ y m k : Int, [a, b, c] = [V.int y, .int m, .int k] → (1 ≤ m ∧ m ≤ 12) → (1 ≤ k ∧ k ≤ lastOf y m) → ∀ H', Same H H' → Q (.int (db y + ahead y m + k - 1)) H')
def sp_all_figures (K : PySem.W.Frag) : Sp := fun vs H Q _ => ∃ l : List Nat, vs = [.str (Tx l)] ∧ l.length ≤ 2000 ∧ ∀ H', Same H H' → Q (.bl (allF l)) H'
def sp_is_written (K : PySem.W.Frag) : Sp := fun vs H Q _ => ∃ l : List Nat, vs = [.str (Tx l)] ∧ l.length ≤ 2000 ∧ ∀ H', Same H H' → Q (.bl (isW l)) H'
def sp_moment_of (K : PySem.W.Frag) (C_NoMoment : Addr) : Sp := fun vs H Q E => ∃ (a b c : V) (ka kb kc : Kd), vs = [a, b, c] ∧ KindV K H a ka ∧ KindV K H b kb ∧ KindV K H c kc ∧ (¬ G3t [a, b, c] → E (.ref C_NoMoment) none H) ∧ (∀ x y z : Int, [a, b, c] = [V.int x, .int y, .int z] → (0 ≤ y ∧ y ≤ 23) → 0 ≤ z ∧ z ≤ 59 → Q (.int (1440 * x + 60 * y + z)) H)
def sp_is_shown_year (K : PySem.W.Frag) : Sp := fun vs H Q _ => ∃ l : List Nat, vs = [.str (Tx l)] ∧ l.length ≤ 1000 ∧ ∀ H', Same H H' → Q (.bl (yearB l)) H'
def sp_is_shown_tail (K : PySem.W.Frag) : Sp := fun vs H Q _ => ∃ l : List Nat, vs = [.str (Tx l)] ∧ l.length ≤ 1000 ∧ ∀ H', Same H H' → Q (.bl (tailB l)) H'
def sp_read_day (K : PySem.W.Frag) (C_NoMoment : Addr) : Sp := fun vs H Q E => ∃ (y : Int) (m k : Nat), vs = [.str (Tx (numZ y)), .str (Tx [48 + m / 10, 48 + m % 10]), .str (Tx [48 + k / 10, 48 + k % 10])] ∧ (m < 100 ∧ k < 100) ∧ y.natAbs < 10 ^ 60 ∧ (Ok3 y m k → ∀ H', Same H H' → Q (.int (dnum y m k)) H') ∧ (¬ Ok3 y m k → ∀ H', Same H H' → E (wc C_NoMoment) none H')
def sp_read_moment (K : PySem.W.Frag) (C_NoMoment : Addr) : Sp := fun vs H Q E => ∃ v : V, vs = [v] ∧ ((∃ kd, KindV K H v kd ∧ kd ≠ .str ∧ E (.ref C_NoMoment) none H) ∨ ∃ t : List Nat, v = .str (Tx t) ∧ t.length ≤ 900 ∧ (∀ (y : Int) (m k h i : Nat), GoodT t y m k h i → ∀ H', Same H H' → Q (.int (1440 * dnum y m k + 60 * h + i)) H') ∧ ((∀ (y : Int) (m k h i : Nat), ¬ GoodT t y m k h i) → ∀ v H', (v = .ref C_NoMoment ∨ v = wc C_NoMoment) → Same H H' → E v none H'))
def sp__law_cell_at (K : PySem.W.Frag) : Sp := fun vs H Q _ => ∃ (a : Addr) (k : Int), vs = [.ref a, .int k] ∧ (∃ ns : List Int, SqL K H a (ns.map V.int)) ∧ 0 ≤ k ∧ ∀ c : Int, Q (.int c) H
def sp__law_whole (K : PySem.W.Frag) : Sp := fun vs H Q _ => ∃ (v : V) (k : Kd), vs = [v] ∧ KindV K H v k ∧ Q (.bl k.wh) H
def sp__law_long (K : PySem.W.Frag) : Sp := fun vs H Q _ => ∃ y : Int, vs = [.int y] ∧ Q (.bl (isLong y)) H
def sp__law_last (K : PySem.W.Frag) : Sp := fun vs H Q _ => ∃ y m : Int, vs = [.int y, .int m] ∧ (1 ≤ m ∧ m ≤ 12) ∧ ∀ H', Same H H' → Q (.int (lastOf y m)) H'
def sp__law_two (K : PySem.W.Frag) : Sp := fun vs H Q _ => ∃ n : Nat, vs = [.int n] ∧ n < 100 ∧ Q (.str (Tx (two n))) H
def sp__law_parts (K : PySem.W.Frag) : Sp := fun vs H Q _ => ∃ one other : Int, vs = [.int one, .int other] ∧ ∀ (y : Int) (m k h i last : Nat) (p pl : Addr) (H' : Hp), Day y m k h i last → Same H H' → H' p = some (.tup [.ref pl, .int last]) → H' pl = some (.lst ((prt y m k h i).map sV)) → Q (.ref p) H'
def sp__law_bad_number (K : PySem.W.Frag) : Sp := fun vs H Q _ => ∃ (c : Int) (out : List Nat), vs = [.int c, .str (Tx out)] ∧ ∀ (w : List Nat) (H' : Hp), Same H H' → w ∈ badN out → Q (.str (Tx w)) H'
def sp__law_bad (K : PySem.W.Frag) : Sp := fun vs H Q _ => ∃ (pl : Addr) (y : Int) (m k h i last j : Nat) (c : Int), vs = [.ref pl, .int last, .int j, .int c] ∧ SqL K H pl ((prt y m k h i).map sV) ∧ y.natAbs < 10 ^ 50 ∧ last < 99 ∧ 10 ≤ last ∧ j < 9 ∧ ∀ (w : List Nat) (H' : Hp), Same H H' → badAt y last j w → Q (.str (Tx w)) H'
def sp__law_spoilt (K : PySem.W.Frag) : Sp := fun vs H Q _ => ∃ (pl : Addr) (y : Int) (m k h i last : Nat) (c : Int), vs = [.ref pl, .int last, .int c] ∧ SqL K H pl ((prt y m k h i).map sV) ∧ Day y m k h i last ∧ ∀ (v : V) (H' : Hp), Same H H' → Refd K H' v → Q v H'
def sp__law_refused (K : PySem.W.Frag) : Sp := fun vs H Q _ => ∃ v : V, vs = [v] ∧ Refd K H v ∧ ∀ H', Same H H' → Q (.bl true) H'
def sp_law (K : PySem.W.Frag) : Sp := fun vs H Q _ => ∃ (a : Addr) (ns : List Int), vs = [.ref a] ∧ SqL K H a (ns.map V.int) ∧ ns.length ≤ 63 ∧ ∀ H', Q (.bl true) H'
section
variable {P : Program} {w : World} {K : PySem.W.Frag} {mg : Str → Option Value} {base : Heap}
theorem sc_is_whole : FnScope ["thing"] ["thing"] (defScope s_is_whole) := ⟨rfl, rfl, rfl, by decide +kernel, rfl, by decide +kernel, by decide +kernel⟩
set_option maxHeartbeats 4000000 in
theorem ok_is_whole (F : Fn K mg "is_whole" s_is_whole ["thing"]) (z_int : mg "int" = none) (z_isinstance : mg "isinstance" = none) (z_bool : mg "bool" = none) : Df P w K mg base "is_whole" 1 ["thing"] (sp_is_whole K) := by
  refine F.dfs sc_is_whole (fun vs H Q E h => ?_) (fun f cdv A outer s H vs Q E hr h => ?_)
  · obtain ⟨v, k, rfl, hk, q⟩ := h
    rfl
  obtain ⟨v, k, rfl, hk, q⟩ := h
  refine ⟨_, (ss1 (sRet (eAnd (eCB cIs z_isinstance PyProof.Rows.boot_isinstance (aC (v_ 0) (aC (eTy z_int PyProof.Rows.boot_int) aN))) (eOne (eNot (eCB cIs z_isinstance PyProof.Rows.boot_isinstance (aC (v_ 0) (aC (eTy z_bool PyProof.Rows.boot_bool) aN)))))))), ?_⟩
  refine ⟨_, rfl, v, .int, k, rfl, (by decide), hk, _, rfl, ?_⟩
  cases k with
  | int => exact iteT ⟨_, rfl, v, .bool, .int, rfl, (by decide), hk, _, rfl, q⟩
  | bool => exact iteT ⟨_, rfl, v, .bool, .bool, rfl, (by decide), hk, _, rfl, q⟩
  | str => exact iteF q
  | non => exact iteF q
  | list => exact iteF q
  | tuple => exact iteF q
  | dict => exact iteF q
theorem sc_is_long : FnScope ["year"] ["year"] (defScope s_is_long) := ⟨rfl, rfl, rfl, by decide +kernel, rfl, by decide +kernel, by decide +kernel⟩
set_option maxHeartbeats 4000000 in
theorem ok_is_long (F : Fn K mg "is_long" s_is_long ["year"])  : Df P w K mg base "is_long" 1 ["year"] (sp_is_long K) := by
  refine F.dfs sc_is_long (fun vs H Q E h => ?_) (fun f cdv A outer s H vs Q E hr h => ?_)
  · obtain ⟨y, rfl, q⟩ := h
    rfl
  obtain ⟨y, rfl, q⟩ := h
  refine ⟨_, (ss1 (sRet (eAnd (eCmp oEq (eOp oMod (v_ 0) eI) eI) (eOne (eOr (eCmp oNe (eOp oMod (v_ 0) eI) eI) (eOne (eCmp oEq (eOp oMod (v_ 0) eI) eI))))))), ?_⟩
  refine ⟨_, rfl, _, _, rfl, rfl, (by show (0 : Int) < 4; decide), rfl, _, rfl, ?_⟩
  refine ifI (fun c1 => ?_) (fun c1 => ?_)
  · refine ⟨_, rfl, _, _, rfl, rfl, (by show (0 : Int) < 100; decide), rfl, _, rfl, ?_⟩
    refine ifNI (fun c2 => ?_) (fun c2 => ?_)
    · rw [isLong_t ⟨c1, .inl c2⟩] at q
      exact q
    · refine ⟨_, rfl, _, _, rfl, rfl, (by show (0 : Int) < 400; decide), rfl, ?_⟩
      by_cases c3 : y % 400 = 0
      · rw [isLong_t ⟨c1, .inr c3⟩] at q
        show Q (.bl (decide (V.int (y % 400) = V.int 0))) H
        rw [decide_eq_true (int_eq.mpr c3)]
        exact q
      · rw [isLong_f (by omega)] at q
        show Q (.bl (decide (V.int (y % 400) = V.int 0))) H
        rw [decide_eq_false fun e => c3 (int_eq.mp e)]
        exact q
  · rw [isLong_f (by omega)] at q
    exact q
theorem sc_multiples_before : FnScope ["year", "step"] ["year", "step"] (defScope s_multiples_before) := ⟨rfl, rfl, rfl, by decide +kernel, rfl, by decide +kernel, by decide +kernel⟩
set_option maxHeartbeats 4000000 in
theorem ok_multiples_before (F : Fn K mg "multiples_before" s_multiples_before ["year", "step"])  : Df P w K mg base "multiples_before" 1 ["year", "step"] (sp_multiples_before K) := by
  refine F.dfs sc_multiples_before (fun vs H Q E h => ?_) (fun f cdv A outer s H vs Q E hr h => ?_)
  · obtain ⟨y, z, rfl, hz, q⟩ := h
    rfl
  obtain ⟨y, z, rfl, hz, q⟩ := h
  refine ⟨_, (ss1 (sRet (eOp oDiv (eOp oSub (eOp oAdd (v_ 0) (v_ 1)) eI) (v_ 1)))), ?_⟩
  refine ⟨_, rfl, _, rfl, _, _, rfl, rfl, _, _, rfl, rfl, _, rfl, _, _, rfl, rfl, hz, ?_⟩
  exact q
theorem sc_days_before : FnScope ["year", "longs"] ["year"] (defScope s_days_before) := ⟨rfl, rfl, rfl, by decide +kernel, rfl, by decide +kernel, by decide +kernel⟩
set_option maxHeartbeats 4000000 in
theorem ok_days_before (F : Fn K mg "days_before" s_days_before ["year"]) (D_multiples_before : Df P w K mg base "multiples_before" 1 ["year", "step"] (sp_multiples_before K)) : Df P w K mg base "days_before" 2 ["year"] (sp_days_before K) := by
  refine F.dfs sc_days_before (fun vs H Q E h => ?_) (fun f cdv A outer s H vs Q E hr h => ?_)
  · obtain ⟨y, rfl, q⟩ := h
    rfl
  obtain ⟨y, rfl, q⟩ := h
  refine ⟨_, (ssC (sSet 1 (eOp oAdd (eOp oSub (eD D_multiples_before hr (aC (v_ 0) (aC eI aN))) (eD D_multiples_before hr (aC (v_ 0) (aC eI aN)))) (eD D_multiples_before hr (aC (v_ 0) (aC eI aN)))) sc_days_before.nd)
      (ss1 (sRet (eOp oAdd (eOp oMul eI (v_ 0)) (v_ 1))))), ?_⟩
  refine ⟨_, rfl, _, _, rfl, ⟨by decide, by decide⟩, _, rfl, _, _, rfl, ⟨by decide, by decide⟩, _, _, rfl, rfl, _, rfl, _, _, rfl, ⟨by decide, by decide⟩, _, _, rfl, rfl, ?_⟩
  refine ⟨_, rfl, _, _, rfl, rfl, .inl ⟨by decide, by decide⟩, _, rfl, _, _, rfl, rfl, ?_⟩
  exact q
theorem sc_last_of : FnScope ["year", "month"] ["year", "month"] (defScope s_last_of) := ⟨rfl, rfl, rfl, by decide +kernel, rfl, by decide +kernel, by decide +kernel⟩
set_option maxHeartbeats 4000000 in
theorem ok_last_of (F : Fn K mg "last_of" s_last_of ["year", "month"]) (D_is_long : Df P w K mg base "is_long" 1 ["year"] (sp_is_long K)) {a_MONTH_LASTS : Addr} (m_MONTH_LASTS : mg "MONTH_LASTS" = some (.ref a_MONTH_LASTS)) (q_MONTH_LASTS : ∀ H, SqT K H a_MONTH_LASTS (([31, 28, 31, 30, 31, 30, 31, 31, 30, 31, 30, 31] : List Int).map V.int)) : Df P w K mg base "last_of" 2 ["year", "month"] (sp_last_of K) := by
  refine F.dfs sc_last_of (fun vs H Q E h => ?_) (fun f cdv A outer s H vs Q E hr h => ?_)
  · obtain ⟨y, m, rfl, ⟨h1, h2⟩, q⟩ := h
    rfl
  obtain ⟨y, m, rfl, ⟨h1, h2⟩, q⟩ := h
  refine ⟨_, (ssC (sIf (tW (wAnd (tCm oEq (v_ 1) eI) (wAnd1 (tVa (eD D_is_long hr (aC (v_ 0) aN)))))) (ss1 (sRet eI)) ssN)
      (ss1 (sRet (eIx xT (eGl (v := .ref a_MONTH_LASTS) m_MONTH_LASTS rfl) (eOp oSub (v_ 1) eI))))), ?_⟩
  refine ⟨_, rfl, rfl, _, rfl, ?_⟩
  refine ifI (fun c1 => ?_) (fun c1 => ?_)
  · refine ⟨_, rfl, _, rfl, _, rfl, ?_⟩
    by_cases c2 : isLong y = true
    · have e : lastOf y m = 29 := by unfold lastOf longI; rw [if_pos c1, if_pos c2]; rfl
      rw [e] at q
      show if isLong y = true then _ else _
      rw [if_pos c2]
      exact q
    · have e : lastOf y m = lasts.getD (m - 1).toNat 0 := by unfold lastOf longI; rw [if_pos c1, if_neg c2, c1]; rfl
      rw [e] at q
      show if isLong y = true then _ else _
      rw [if_neg c2]
      refine ⟨_, rfl, _, _, rfl, rfl, a_MONTH_LASTS, _, _, _, rfl, rfl, q_MONTH_LASTS H, lasts_at h1 h2, ?_⟩
      exact q
  · have e : lastOf y m = lasts.getD (m - 1).toNat 0 := by unfold lastOf; rw [if_neg c1]
    rw [e] at q
    refine iteF ?_
    refine ⟨_, rfl, _, _, rfl, rfl, a_MONTH_LASTS, _, _, _, rfl, rfl, q_MONTH_LASTS H, lasts_at h1 h2, ?_⟩
    exact q
theorem sc_is_date : FnScope ["year", "month", "day"] ["year", "month", "day"] (defScope s_is_date) := ⟨rfl, rfl, rfl, by decide +kernel, rfl, by decide +kernel, by decide +kernel⟩
set_option maxHeartbeats 4000000 in
theorem ok_is_date (F : Fn K mg "is_date" s_is_date ["year", "month", "day"]) (D_is_whole : Df P w K mg base "is_whole" 1 ["thing"] (sp_is_whole K)) (D_last_of : Df P w K mg base "last_of" 2 ["year", "month"] (sp_last_of K)) : Df P w K mg base "is_date" 3 ["year", "month", "day"] (sp_is_date K) := by
  refine F.dfs sc_is_date (fun vs H Q E h => ?_) (fun f cdv A outer s H vs Q E hr h => ?_)
  · obtain ⟨a, b, c, ka, kb, kc, rfl, ha, hb, hc, qt, qf⟩ := h
    rfl
  obtain ⟨a, b, c, ka, kb, kc, rfl, ha, hb, hc, qt, qf⟩ := h
  refine ⟨_, (ssC (sIf (tNo (tW (wAnd (tVa (eD D_is_whole hr (aC (v_ 0) aN))) (wAnd (tVa (eD D_is_whole hr (aC (v_ 1) aN))) (wAnd1 (tVa (eD D_is_whole hr (aC (v_ 2) aN)))))))) (ss1 (sRet eB)) ssN)
      (ss1 (sRet (eAnd (eCh oLe oLe eI (v_ 1) eI) (eOne (eCh oLe oLe eI (v_ 2) (eD D_last_of hr (aC (v_ 0) (aC (v_ 1) aN))))))))), ?_⟩
  refine ⟨_, rfl, a, ka, rfl, ha, _, rfl, ite2 (fun ca => ?_) (fun ca => ?_)⟩
  · refine ⟨_, rfl, b, kb, rfl, hb, _, rfl, ite2 (fun cb => ?_) (fun cb => ?_)⟩
    · refine ⟨_, rfl, c, kc, rfl, hc, _, rfl, ?_⟩
      cases cc : kc.wh with
      | true =>
        refine iteF ?_
        obtain ⟨y, rfl⟩ := kind_int ha ca
        obtain ⟨m, rfl⟩ := kind_int hb cb
        obtain ⟨k, rfl⟩ := kind_int hc cc
        refine ⟨_, rfl, _, _, rfl, rfl, _, rfl, ifD (fun c1 => ⟨_, _, rfl, rfl, _, rfl, ?_⟩) (fun c1 => ?_)⟩
        · by_cases c2 : m ≤ 12
          · rw [decide_eq_true c2]
            refine iteT ⟨_, rfl, _, _, rfl, rfl, _, rfl, ifD (fun c3 => ⟨_, rfl, _, rfl, _, _, rfl, ⟨c1, c2⟩, _, _, rfl, rfl, ?_⟩) (fun c3 => ?_)⟩
            · show Q (.bl (decide (k ≤ lastOf y m))) H
              by_cases c4 : k ≤ lastOf y m
              · rw [decide_eq_true c4]
                exact qt ⟨y, m, k, rfl, ⟨c1, c2⟩, c3, c4⟩
              · rw [decide_eq_false c4]
                exact qf fun ⟨_, _, _, e, _, _, q⟩ => by cases e; exact c4 q
            · exact qf fun ⟨_, _, _, e, _, q, _⟩ => by cases e; exact c3 q
          · rw [decide_eq_false c2]
            exact iteF (qf fun ⟨_, _, _, e, q, _⟩ => by cases e; exact c2 q.2)
        · exact ⟨_, rfl, iteF (qf fun ⟨_, _, _, e, q, _⟩ => by cases e; exact c1 q.1)⟩
      | false => exact iteT (qf fun ⟨_, _, _, e, _⟩ => by cases e; rw [kind_not hc] at cc; cases cc)
    · exact iteT (qf fun ⟨_, _, _, e, _⟩ => by cases e; exact cb (kind_not hb))
  · exact iteT (qf fun ⟨_, _, _, e, _⟩ => by cases e; exact ca (kind_not ha))
theorem sc_day_of : FnScope ["year", "month", "day", "ahead"] ["year", "month", "day"] (defScope s_day_of) := ⟨rfl, rfl, rfl, by decide +kernel, rfl, by decide +kernel, by decide +kernel⟩
set_option maxHeartbeats 4000000 in
theorem ok_day_of (F : Fn K mg "day_of" s_day_of ["year", "month", "day"]) {C_NoDay : Addr} (m_NoDay : mg "NoDay" = some (.ref C_NoDay)) (xc_NoDay : Xc K mg "NoDay" C_NoDay) (D_is_date : Df P w K mg base "is_date" 3 ["year", "month", "day"] (sp_is_date K)) (D_last_of : Df P w K mg base "last_of" 2 ["year", "month"] (sp_last_of K)) (D_days_before : Df P w K mg base "days_before" 2 ["year"] (sp_days_before K)) (z_range : mg "range" = none) (z_sum : mg "sum" = none) : Df1 P w K mg base "day_of" 4 ["year", "month", "day"] (sp_day_of K C_NoDay) := by
  refine F.dfs1 sc_day_of (fun vs H Q E h => ?_) (fun f cdv A outer s H vs Q E hr h => ?_)
  · obtain ⟨a, b, c, ka, kb, kc, rfl, ha, hb, hc, hE, hQ⟩ := h
    rfl
  obtain ⟨a, b, c, ka, kb, kc, rfl, ha, hb, hc, hE, hQ⟩ := h
  refine ⟨_, (ssC (sIf (tNo (tVa (eD D_is_date hr (aC (v_ 0) (aC (v_ 1) (aC (v_ 2) aN)))))) (ss1 (sRz madeC xc_NoDay (aC (eSx [110, 111, 32, 115, 117, 99, 104, 32, 100, 97, 116, 101]) aN))) ssN)
      (ssC (sSet 3 (eCB cSum z_sum PyProof.Rows.boot_sum (aC (eComp ["year"] [0] (iR2 z_range (aC eI (aC (v_ 1) aN))) (fun _ _ _ _ _ _ => fsN) (fun _ _ _ _ _ _ => (eD D_last_of hr (aC (v_ 1) (aC (v_ 0) aN))))) aN)) sc_day_of.nd)
      (ss1 (sRet (eOp oSub (eOp oAdd (eOp oAdd (eD D_days_before hr (aC (v_ 0) aN)) (v_ 3)) (v_ 2)) eI))))), ?_⟩
  refine ⟨_, rfl, _, rfl, _, rfl, a, b, c, ka, kb, kc, rfl, ha, hb, hc, fun hg => ⟨_, rfl, iteF ?_⟩, fun hg => ⟨_, rfl, iteT ⟨(by show 1 ≤ sizeLine; decide), hE hg⟩⟩⟩
  obtain ⟨y, m, k, e, ⟨hm1, hm2⟩, hk⟩ := hg
  obtain ⟨rfl, rfl, rfl⟩ : a = .int y ∧ b = .int m ∧ c = .int k := by cases e; exact ⟨rfl, rfl, rfl⟩
  have q := hQ y m k rfl ⟨hm1, hm2⟩ hk
  refine ⟨_, rfl, _, _, rfl, ⟨by decide, by decide, by omega, by omega⟩, comp_range (fun i l => l = (List.range i).map fun i : Nat => V.int (lastOf y (1 + (i : Int)))) (by show (m - 1).toNat ≤ sizeLine; rw [sizeLine_eq]; omega) rfl ?_ ?_⟩
  · intro i l D H2 E' F' hi hR hD s2 hl hE hF
    subst hR
    exact ⟨_, rfl, _, rfl, _, _, rfl, ⟨by omega, by omega⟩, hE _ _ (Same.refl _) (mapR_succ _ _).symm⟩
  · intro D H2 l hR hD s2 hl
    subst hR
    refine ⟨D, (List.range (m - 1).toNat).map fun i : Nat => lastOf y (1 + (i : Int)), rfl, SqL.of (by rw [hl, List.map_map]; rfl), ?_⟩
    refine ⟨_, rfl, _, rfl, _, rfl, _, _, rfl, rfl, _, rfl, _, _, rfl, rfl, _, _, rfl, rfl, ?_⟩
    have e : ((List.range (m - 1).toNat).map fun i : Nat => lastOf y (1 + (i : Int))).sum = ahead y m := ahN_sum y _
    rw [e]
    exact q _ s2
theorem sc_all_figures : FnScope ["text"] ["text"] (defScope s_all_figures) := ⟨rfl, rfl, rfl, by decide +kernel, rfl, by decide +kernel, by decide +kernel⟩
set_option maxHeartbeats 4000000 in
theorem ok_all_figures (F : Fn K mg "all_figures" s_all_figures ["text"]) {t_FIGURES : Tok} (m_FIGURES : mg "FIGURES" = some (.str (Tx [48, 49, 50, 51, 52, 53, 54, 55, 56, 57]) t_FIGURES)) (z_all : mg "all" = none) : Df P w K mg base "all_figures" 1 ["text"] (sp_all_figures K) := by
  refine F.dfs sc_all_figures (fun vs H Q E h => ?_) (fun f cdv A outer s H vs Q E hr h => ?_)
  · obtain ⟨l, rfl, hl, q⟩ := h
    rfl
  obtain ⟨l, rfl, hl, q⟩ := h
  refine ⟨_, (ss1 (sRet (eAnd (eCmp oNe (v_ 0) (eSx [])) (eOne (eCB cAll z_all boot_all (aC (eComp [] [] (iX (v_ 0)) (fun _ _ _ _ _ _ => fsN) (fun _ _ _ _ _ _ => (eCmp oInX (v_ 0) (eGl (v := .str (Tx [48, 49, 50, 51, 52, 53, 54, 55, 56, 57])) m_FIGURES ⟨_, rfl⟩)))) aN)))))), ?_⟩
  refine ⟨_, rfl, rfl, _, rfl, ?_⟩
  rw [decX l []]
  by_cases c : l = []
  · rw [decide_eq_true c]
    have e : allF l = false := by unfold allF; rw [decide_eq_true c]; rfl
    rw [e] at q
    exact iteF (q H (Same.refl H))
  · rw [decide_eq_false c]
    have e : allF l = l.all isDig := by unfold allF; rw [decide_eq_false c]; rfl
    rw [e] at q
    refine iteT ⟨_, rfl, Tx l, rfl, comp_txt (xs := l) (fun i z => z = ((l.take i).map isDig).map V.bl) (by rw [sizeLine_eq]; omega) rfl ?_ ?_⟩
    · intro i ch z D H2 E' F' hv hR hD s2 hz hE hF
      subst hR
      refine ⟨_, rfl, ch, figs, rfl, rfl, ?_⟩
      rw [mem_figs]
      exact hE _ _ (Same.refl _) (by rw [List.take_succ, hv, List.map_append, List.map_append]; rfl)
    · intro D H2 z hR hD s2 hz
      subst hR
      rw [List.take_length] at hz
      refine ⟨D, l.map isDig, rfl, SqL.of hz, ?_⟩
      rw [List.all_map]
      exact q H2 s2
theorem sc_is_written : FnScope ["text"] ["text"] (defScope s_is_written) := ⟨rfl, rfl, rfl, by decide +kernel, rfl, by decide +kernel, by decide +kernel⟩
set_option maxHeartbeats 4000000 in
theorem ok_is_written (F : Fn K mg "is_written" s_is_written ["text"]) (D_all_figures : Df P w K mg base "all_figures" 1 ["text"] (sp_all_figures K)) : Df P w K mg base "is_written" 2 ["text"] (sp_is_written K) := by
  refine F.dfs sc_is_written (fun vs H Q E h => ?_) (fun f cdv A outer s H vs Q E hr h => ?_)
  · obtain ⟨l, rfl, hl, q⟩ := h
    rfl
  obtain ⟨l, rfl, hl, q⟩ := h
  refine ⟨_, (ss1 (sRet (eAnd (eD D_all_figures hr (aC (v_ 0) aN)) (eOne (eOr (eCmp oEq (v_ 0) (eSx [48])) (eOne (eCmp oNe (eIx xX (v_ 0) eI) (eSx [48])))))))), ?_⟩
  refine ⟨_, rfl, l, rfl, hl, fun H1 s1 => ⟨_, rfl, ?_⟩⟩
  refine if2 (fun c => ?_) (fun c => ?_)
  · have hne : l ≠ [] := fun e => by
      unfold allF at c
      rw [decide_eq_true e] at c
      exact absurd (show false = true from c) Bool.false_ne_true
    refine ⟨_, rfl, rfl, _, rfl, ?_⟩
    rw [decX l [48]]
    by_cases c2 : l = [48]
    · rw [decide_eq_true c2]
      have e : isW l = true := by unfold isW; rw [c, decide_eq_true c2]; rfl
      rw [e] at q
      exact iteT (q H1 s1)
    · rw [decide_eq_false c2]
      obtain ⟨x, r, rfl⟩ : ∃ x r, l = x :: r := by
        cases l with
        | nil => exact absurd rfl hne
        | cons x r => exact ⟨x, r, rfl⟩
      refine iteF ⟨_, rfl, x :: r, 0, x, rfl, rfl, (by rw [sizeLine_eq]; omega), (show atI (x :: r) ((0 : Nat) : Int) = some x from atI_nat rfl), rfl, ?_⟩
      rw [decX [x] [48]]
      have e : isW (x :: r) = !decide ([x] = [48]) := by
        unfold isW
        rw [c, decide_eq_false c2]
        show (!decide (x = 48)) = _
        rw [decide_eq_decide.mpr (show x = 48 ↔ [x] = [48] by simp)]
      rw [e] at q
      exact q H1 s1
  · have e : isW l = false := by unfold isW; rw [c]; rfl
    rw [e] at q
    exact q H1 s1
theorem sc_moment_of : FnScope ["day", "hour", "minute"] ["day", "hour", "minute"] (defScope s_moment_of) := ⟨rfl, rfl, rfl, by decide +kernel, rfl, by decide +kernel, by decide +kernel⟩
set_option maxHeartbeats 4000000 in
theorem ok_moment_of (F : Fn K mg "moment_of" s_moment_of ["day", "hour", "minute"]) {C_NoMoment : Addr} (m_NoMoment : mg "NoMoment" = some (.ref C_NoMoment)) (xc_NoMoment : Xc K mg "NoMoment" C_NoMoment) (D_is_whole : Df P w K mg base "is_whole" 1 ["thing"] (sp_is_whole K)) {t_DAY_MINUTES : Tok} (m_DAY_MINUTES : mg "DAY_MINUTES" = some (.int 1440 t_DAY_MINUTES)) {t_HOUR_MINUTES : Tok} (m_HOUR_MINUTES : mg "HOUR_MINUTES" = some (.int 60 t_HOUR_MINUTES)) : Df1 P w K mg base "moment_of" 2 ["day", "hour", "minute"] (sp_moment_of K C_NoMoment) := by
  refine F.dfs1 sc_moment_of (fun vs H Q E h => ?_) (fun f cdv A outer s H vs Q E hr h => ?_)
  · obtain ⟨a, b, c, ka, kb, kc, rfl, ha, hb, hc, hE, hQ⟩ := h
    rfl
  obtain ⟨a, b, c, ka, kb, kc, rfl, ha, hb, hc, hE, hQ⟩ := h
  refine ⟨_, (ssC (sIf (tNo (tW (wAnd (tVa (eD D_is_whole hr (aC (v_ 0) aN))) (wAnd (tVa (eD D_is_whole hr (aC (v_ 1) aN))) (wAnd1 (tVa (eD D_is_whole hr (aC (v_ 2) aN)))))))) (ss1 (sRz madeC xc_NoMoment (aC (eSx [110, 111, 32, 119, 104, 111, 108, 101, 32, 110, 117, 109, 98, 101, 114]) aN))) ssN)
      (ssC (sIf (tNo (tW (wAnd (tCh oLe oLe eI (v_ 1) eI) (wAnd1 (tCh oLe oLe eI (v_ 2) eI))))) (ss1 (sRz madeC xc_NoMoment (aC (eSx [110, 111, 32, 115, 117, 99, 104, 32, 116, 105, 109, 101, 32, 111, 102, 32, 97, 32, 100, 97, 121]) aN))) ssN)
      (ss1 (sRet (eOp oAdd (eOp oAdd (eOp oMul (eGl (v := .int 1440) m_DAY_MINUTES ⟨_, rfl⟩) (v_ 0)) (eOp oMul (eGl (v := .int 60) m_HOUR_MINUTES ⟨_, rfl⟩) (v_ 1))) (v_ 2)))))), ?_⟩
  refine ⟨_, rfl, a, ka, rfl, ha, _, rfl, ite2 (fun ca => ?_) (fun ca => ?_)⟩
  · refine ⟨_, rfl, b, kb, rfl, hb, _, rfl, ite2 (fun cb => ?_) (fun cb => ?_)⟩
    · refine ⟨_, rfl, c, kc, rfl, hc, _, rfl, ?_⟩
      cases cc : kc.wh with
      | true =>
        refine iteF ?_
        obtain ⟨x, rfl⟩ := kind_int ha ca
        obtain ⟨y, rfl⟩ := kind_int hb cb
        obtain ⟨z, rfl⟩ := kind_int hc cc
        refine ⟨_, rfl, _, _, rfl, rfl, _, rfl, ifD (fun c1 => ⟨_, _, rfl, rfl, _, rfl, ifD (fun c2 => ⟨_, rfl, _, _, rfl, rfl, _, rfl, ifD (fun c3 => ⟨_, _, rfl, rfl, _, rfl, ?_⟩) (fun c3 => ?_)⟩) (fun c2 => ?_)⟩) (fun c1 => ?_)⟩
        · by_cases c4 : z ≤ 59
          · rw [decide_eq_true c4]
            refine iteF ?_
            refine ⟨_, rfl, _, _, rfl, rfl, .inl ⟨by decide, by decide⟩, _, rfl, _, _, rfl, rfl, .inl ⟨by decide, by decide⟩, _, _, rfl, rfl, _, rfl, _, _, rfl, rfl, ?_⟩
            exact hQ x y z rfl ⟨c1, c2⟩ ⟨c3, c4⟩
          · rw [decide_eq_false c4]
            exact iteT ⟨(by show 1 ≤ sizeLine; decide), hE fun ⟨_, _, _, e, _, _, q⟩ => by cases e; exact c4 q⟩
        · exact ⟨_, rfl, iteT ⟨(by show 1 ≤ sizeLine; decide), hE fun ⟨_, _, _, e, _, q, _⟩ => by cases e; exact c3 q⟩⟩
        · exact iteT ⟨(by show 1 ≤ sizeLine; decide), hE fun ⟨_, _, _, e, q, _⟩ => by cases e; exact c2 q.2⟩
        · exact ⟨_, rfl, iteF (iteT ⟨(by show 1 ≤ sizeLine; decide), hE fun ⟨_, _, _, e, q, _⟩ => by cases e; exact c1 q.1⟩)⟩
      | false => exact iteT ⟨(by show 1 ≤ sizeLine; decide), hE fun ⟨_, _, _, e, _⟩ => by cases e; rw [kind_not hc] at cc; cases cc⟩
    · exact iteT ⟨(by show 1 ≤ sizeLine; decide), hE fun ⟨_, _, _, e, _⟩ => by cases e; exact cb (kind_not hb)⟩
  · exact iteT ⟨(by show 1 ≤ sizeLine; decide), hE fun ⟨_, _, _, e, _⟩ => by cases e; exact ca (kind_not ha)⟩
theorem sc_is_shown_year : FnScope ["text", "bare"] ["text"] (defScope s_is_shown_year) := ⟨rfl, rfl, rfl, by decide +kernel, rfl, by decide +kernel, by decide +kernel⟩
set_option maxHeartbeats 4000000 in
theorem ok_is_shown_year (F : Fn K mg "is_shown_year" s_is_shown_year ["text"]) (D_is_written : Df P w K mg base "is_written" 2 ["text"] (sp_is_written K)) {t_MOST_YEAR_FIGURES : Tok} (m_MOST_YEAR_FIGURES : mg "MOST_YEAR_FIGURES" = some (.int 50 t_MOST_YEAR_FIGURES)) (z_len : mg "len" = none) : Df P w K mg base "is_shown_year" 3 ["text"] (sp_is_shown_year K) := by
  refine F.dfs sc_is_shown_year (fun vs H Q E h => ?_) (fun f cdv A outer s H vs Q E hr h => ?_)
  · obtain ⟨l, rfl, hl, q⟩ := h
    rfl
  obtain ⟨l, rfl, hl, q⟩ := h
  refine ⟨_, (ssC (sSet 1 (eIf (tVa (eSw (v_ 0) (eSx [45]))) (eSl slX (v_ 0) (poS eI) poN) (v_ 0)) sc_is_shown_year.nd)
      (ss1 (sRet (eAnd (eCmp oLe (eCB cLenX z_len PySem.boot_len (aC (v_ 1) aN)) (eGl (v := .int 50) m_MOST_YEAR_FIGURES ⟨_, rfl⟩)) (eAnd (eD D_is_written hr (aC (v_ 1) aN)) (eOne (eCmp oNe (v_ 0) (eSx [45, 48])))))))), ?_⟩
  have hb : (bare l).length ≤ l.length := by
    unfold bare
    split
    · rw [List.length_drop]; omega
    · exact Nat.le_refl _
  have q : ∀ H', Same H H' → Q (.bl (decide ((bare l).length ≤ 50) && (isW (bare l) && !decide (l = [45, 48])))) H' := q
  refine ⟨_, rfl, rfl, l, 45, rfl, rfl, _, rfl, ?_⟩
  by_cases c0 : l.head? = some 45
  · rw [decide_eq_true c0]
    refine iteT ⟨_, rfl, _, rfl, l, rfl, (by rw [sizeLine_eq]; omega), ?_⟩
    have eb : cutN l (some 1) none = bare l := by
      unfold bare
      rw [if_pos c0]
      exact cut_drop1 l
    rw [eb]
    refine ⟨_, rfl, bare l, rfl, (by rw [sizeLine_eq]; omega), _, _, rfl, rfl, _, rfl, ?_⟩
    by_cases c : (bare l).length ≤ 50
    · rw [decide_eq_true (show ((((bare l).length : Nat)) : Int) ≤ 50 by omega)]
      refine iteT ⟨_, rfl, bare l, rfl, (by omega), fun H1 s1 => ⟨_, rfl, ?_⟩⟩
      cases cw : isW (bare l) with
      | true =>
        refine iteT ⟨_, rfl, rfl, ?_⟩
        have q1 := q H1 s1
        rw [decide_eq_true c, cw] at q1
        show Q (.bl (!decide (V.str (Tx l) = V.str (Tx [45, 48])))) H1
        rw [decX]
        exact q1
      | false =>
        have q1 := q H1 s1
        rw [decide_eq_true c, cw] at q1
        exact iteF q1
    · rw [decide_eq_false (show ¬ ((((bare l).length : Nat)) : Int) ≤ 50 by omega)]
      have q1 := q H (Same.refl H)
      rw [decide_eq_false c] at q1
      exact iteF q1
  · rw [decide_eq_false c0]
    refine iteF ⟨_, rfl, ?_⟩
    have eb : bare l = l := by
      unfold bare
      rw [if_neg c0]
    rw [eb] at q
    refine ⟨_, rfl, l, rfl, (by rw [sizeLine_eq]; omega), _, _, rfl, rfl, _, rfl, ?_⟩
    by_cases c : (l).length ≤ 50
    · rw [decide_eq_true (show ((((l).length : Nat)) : Int) ≤ 50 by omega)]
      refine iteT ⟨_, rfl, l, rfl, (by omega), fun H1 s1 => ⟨_, rfl, ?_⟩⟩
      cases cw : isW (l) with
      | true =>
        refine iteT ⟨_, rfl, rfl, ?_⟩
        have q1 := q H1 s1
        rw [decide_eq_true c, cw] at q1
        show Q (.bl (!decide (V.str (Tx l) = V.str (Tx [45, 48])))) H1
        rw [decX]
        exact q1
      | false =>
        have q1 := q H1 s1
        rw [decide_eq_true c, cw] at q1
        exact iteF q1
    · rw [decide_eq_false (show ¬ ((((l).length : Nat)) : Int) ≤ 50 by omega)]
      have q1 := q H (Same.refl H)
      rw [decide_eq_false c] at q1
      exact iteF q1
theorem sc_is_shown_tail : FnScope ["tail", "between", "within"] ["tail"] (defScope s_is_shown_tail) := ⟨rfl, rfl, rfl, by decide +kernel, rfl, by decide +kernel, by decide +kernel⟩
set_option maxHeartbeats 4000000 in
theorem ok_is_shown_tail (F : Fn K mg "is_shown_tail" s_is_shown_tail ["tail"]) (D_all_figures : Df P w K mg base "all_figures" 1 ["text"] (sp_all_figures K)) {t_TAIL_SIGNS : Tok} (m_TAIL_SIGNS : mg "TAIL_SIGNS" = some (.int 12 t_TAIL_SIGNS)) (z_len : mg "len" = none) : Df P w K mg base "is_shown_tail" 2 ["tail"] (sp_is_shown_tail K) := by
  refine F.dfs sc_is_shown_tail (fun vs H Q E h => ?_) (fun f cdv A outer s H vs Q E hr h => ?_)
  · obtain ⟨l, rfl, hl, q⟩ := h
    rfl
  obtain ⟨l, rfl, hl, q⟩ := h
  refine ⟨_, (ssC (sIf (tCm oNe (eCB cLenX z_len PySem.boot_len (aC (v_ 0) aN)) (eGl (v := .int 12) m_TAIL_SIGNS ⟨_, rfl⟩)) (ss1 (sRet eB)) ssN)
      (ssC (sSet 1 (eOp oAddX (eOp oAddX (eOp oAddX (eIx xX (v_ 0) eI) (eIx xX (v_ 0) eI)) (eIx xX (v_ 0) eI)) (eIx xX (v_ 0) eI)) sc_is_shown_tail.nd)
      (ssC (sSet 2 (eOp oAddX (eOp oAddX (eOp oAddX (eSl slX (v_ 0) (poS eI) (poS eI)) (eSl slX (v_ 0) (poS eI) (poS eI))) (eSl slX (v_ 0) (poS eI) (poS eI))) (eSl slX (v_ 0) (poS eI) (poS eI))) sc_is_shown_tail.nd)
      (ss1 (sRet (eAnd (eCmp oEq (v_ 1) (eSx [45, 45, 32, 58])) (eOne (eD D_all_figures hr (aC (v_ 2) aN))))))))), ?_⟩
  refine ⟨_, rfl, l, rfl, (by rw [sizeLine_eq]; omega), rfl, _, rfl, ifNI (fun c0 => ?_) (fun c0 => ?_)⟩
  · rw [tailB_len (fun z => c0 (by rw [z]; rfl))] at q
    exact q H (Same.refl H)
  obtain ⟨a, b, c, d, e, f, g, h, i, j, k, o, rfl⟩ : ∃ a b c d e f g h i j k o, l = [a, b, c, d, e, f, g, h, i, j, k, o] := by
    match l, (show l.length = 12 by omega) with
    | [a, b, c, d, e, f, g, h, i, j, k, o], _ => exact ⟨a, b, c, d, e, f, g, h, i, j, k, o, rfl⟩
  refine ⟨_, rfl, [a, b, c, d, e, f, g, h, i, j, k, o], 0, a, rfl, rfl, (by show 12 ≤ sizeLine; decide), rfl, _, rfl, [a, b, c, d, e, f, g, h, i, j, k, o], 3, d, rfl, rfl, (by show 12 ≤ sizeLine; decide), rfl, _, _, rfl, rfl, (by show 2 ≤ sizeLine; decide), _, rfl, [a, b, c, d, e, f, g, h, i, j, k, o], 6, g, rfl, rfl, (by show 12 ≤ sizeLine; decide), rfl, _, _, rfl, rfl, (by show 3 ≤ sizeLine; decide), _, rfl, [a, b, c, d, e, f, g, h, i, j, k, o], 9, j, rfl, rfl, (by show 12 ≤ sizeLine; decide), rfl, _, _, rfl, rfl, (by show 4 ≤ sizeLine; decide), ?_⟩
  refine ⟨_, rfl, _, rfl, _, rfl, [a, b, c, d, e, f, g, h, i, j, k, o], rfl, (by show 12 ≤ sizeLine; decide), _, rfl, _, rfl, _, rfl, [a, b, c, d, e, f, g, h, i, j, k, o], rfl, (by show 12 ≤ sizeLine; decide), _, _, rfl, rfl, (by show 4 ≤ sizeLine; decide), _, rfl, _, rfl, _, rfl, [a, b, c, d, e, f, g, h, i, j, k, o], rfl, (by show 12 ≤ sizeLine; decide), _, _, rfl, rfl, (by show 6 ≤ sizeLine; decide), _, rfl, _, rfl, _, rfl, [a, b, c, d, e, f, g, h, i, j, k, o], rfl, (by show 12 ≤ sizeLine; decide), _, _, rfl, rfl, (by show 8 ≤ sizeLine; decide), ?_⟩
  refine ⟨_, rfl, rfl, _, rfl, ?_⟩
  have eq : tailB [a, b, c, d, e, f, g, h, i, j, k, o] = (decide ([a, d, g, j] = [45, 45, 32, 58]) && allF [b, c, e, f, h, i, k, o]) := rfl
  rw [eq] at q
  show if decide (V.str (Tx [a, d, g, j]) = V.str (Tx [45, 45, 32, 58])) = true then _ else _
  rw [decX]
  cases cb : decide ([a, d, g, j] = [45, 45, 32, 58]) with
  | true =>
    rw [cb] at q
    refine iteT ⟨_, rfl, [b, c, e, f, h, i, k, o], rfl, (by show 8 ≤ 2000; decide), fun H1 s1 => ?_⟩
    exact q H1 s1
  | false =>
    rw [cb] at q
    exact iteF (q H (Same.refl H))
theorem sc_read_day : FnScope ["year", "month", "day"] ["year", "month", "day"] (defScope s_read_day) := ⟨rfl, rfl, rfl, by decide +kernel, rfl, by decide +kernel, by decide +kernel⟩
set_option maxHeartbeats 4000000 in
theorem ok_read_day (F : Fn K mg "read_day" s_read_day ["year", "month", "day"]) {C_NoDay : Addr} (m_NoDay : mg "NoDay" = some (.ref C_NoDay)) {C_NoMoment : Addr} (m_NoMoment : mg "NoMoment" = some (.ref C_NoMoment)) (xb_NoDay : PySem.W.subIn K (.ref C_NoDay) (.type "BaseException") = some true) (xc_NoMoment : Xc K mg "NoMoment" C_NoMoment) (xk_NoDay_NoDay : PySem.W.kitCls K (.ref C_NoDay) (.ref C_NoDay) = some true) (D_day_of : Df1 P w K mg base "day_of" 4 ["year", "month", "day"] (sp_day_of K C_NoDay)) (z_int : mg "int" = none) : Df1 P w K mg base "read_day" 5 ["year", "month", "day"] (sp_read_day K C_NoMoment) := by
  refine F.dfs1 sc_read_day (fun vs H Q E h => ?_) (fun f cdv A outer s H vs Q E hr h => ?_)
  · obtain ⟨y, m, k, rfl, hb, hy, hQ, hE⟩ := h
    rfl
  obtain ⟨y, m, k, rfl, hb, hy, hQ, hE⟩ := h
  refine ⟨_, (ss1 (sTry0 m_NoDay xb_NoDay (bR (xD D_day_of hr (aC (eCT cIntZ z_int PyProof.Rows.boot_int (aC (v_ 0) aN)) (aC (eCT cIntX z_int PyProof.Rows.boot_int (aC (v_ 1) aN)) (aC (eCT cIntX z_int PyProof.Rows.boot_int (aC (v_ 2) aN)) aN))))) (fun _ => (ss1 (sRzF madeH xc_NoMoment (aC (eSx [116, 104, 101, 114, 101, 32, 105, 115, 32, 110, 111, 32, 115, 117, 99, 104, 32, 100, 97, 116, 101]) aN)))))), ?_⟩
  refine ⟨fun v d H' => v = .ref C_NoDay ∧ ¬ Ok3 y m k ∧ H' = H, ?_, fun C d b H' ⟨hC, hn, hH⟩ => ?_⟩
  · refine ⟨_, rfl, y, rfl, (by have := lenZ hy; omega), _, rfl, _, rfl, two_all hb.1, (fun z => nomatch z), (by show 2 ≤ 640; decide), _, rfl, _, rfl, two_all hb.2, (fun z => nomatch z), (by show 2 ≤ 640; decide), ?_⟩
    rw [two_val hb.1, two_val hb.2]
    refine ⟨_, _, _, .int, .int, .int, rfl, rfl, rfl, rfl, fun n => ⟨rfl, fun ok => n ⟨y, m, k, rfl, ok.1, ok.2⟩, rfl⟩, fun y' m' k' e h1 h2 H1 s1 => ?_⟩
    obtain ⟨rfl, rfl, rfl⟩ : y = y' ∧ (m : Int) = m' ∧ (k : Int) = k' := by cases e; exact ⟨rfl, rfl, rfl⟩
    exact hQ ⟨h1, h2⟩ H1 s1
  · obtain ⟨rfl, rfl⟩ := cv_ref hC
    subst hH
    refine ⟨xk_NoDay_NoDay, fun a ha => ?_⟩
    exact ⟨(by show 1 ≤ sizeLine; decide), ⟨_, _, upd_same⟩, hE hn _ (same_new ha _)⟩
theorem sc_read_moment : FnScope ["text", "year", "tail"] ["text"] (defScope s_read_moment) := ⟨rfl, rfl, rfl, by decide +kernel, rfl, by decide +kernel, by decide +kernel⟩
set_option maxHeartbeats 4000000 in
theorem ok_read_moment (F : Fn K mg "read_moment" s_read_moment ["text"]) {C_NoMoment : Addr} (m_NoMoment : mg "NoMoment" = some (.ref C_NoMoment)) (xc_NoMoment : Xc K mg "NoMoment" C_NoMoment) (D_is_shown_tail : Df P w K mg base "is_shown_tail" 2 ["tail"] (sp_is_shown_tail K)) (D_is_shown_year : Df P w K mg base "is_shown_year" 3 ["text"] (sp_is_shown_year K)) (D_read_day : Df1 P w K mg base "read_day" 5 ["year", "month", "day"] (sp_read_day K C_NoMoment)) (D_moment_of : Df1 P w K mg base "moment_of" 2 ["day", "hour", "minute"] (sp_moment_of K C_NoMoment)) {t_TAIL_SIGNS : Tok} (m_TAIL_SIGNS : mg "TAIL_SIGNS" = some (.int 12 t_TAIL_SIGNS)) (z_str : mg "str" = none) (z_isinstance : mg "isinstance" = none) (z_int : mg "int" = none) : Df1 P w K mg base "read_moment" 6 ["text"] (sp_read_moment K C_NoMoment) := by
  refine F.dfs1 sc_read_moment (fun vs H Q E h => ?_) (fun f cdv A outer s H vs Q E hr h => ?_)
  · obtain ⟨v, rfl, hv⟩ := h
    rfl
  obtain ⟨v, rfl, hv⟩ := h
  refine ⟨_, (ssC (sIf (tNo (tVa (eCB cIs z_isinstance PyProof.Rows.boot_isinstance (aC (v_ 0) (aC (eTy z_str PyProof.Rows.boot_str) aN))))) (ss1 (sRz madeC xc_NoMoment (aC (eSx [110, 111, 32, 116, 101, 120, 116]) aN))) ssN)
      (ssC (sSet 1 (eSl slX (v_ 0) poN (poS (eUn oNeg (eGl (v := .int 12) m_TAIL_SIGNS ⟨_, rfl⟩)))) sc_read_moment.nd)
      (ssC (sSet 2 (eSl slX (v_ 0) (poS (eUn oNeg (eGl (v := .int 12) m_TAIL_SIGNS ⟨_, rfl⟩))) poN) sc_read_moment.nd)
      (ssC (sIf (tNo (tW (wAnd (tVa (eD D_is_shown_tail hr (aC (v_ 2) aN))) (wAnd1 (tVa (eD D_is_shown_year hr (aC (v_ 1) aN))))))) (ss1 (sRz madeC xc_NoMoment (aC (eSx [110, 111, 32, 116, 101, 120, 116, 32, 111, 102, 32, 97, 32, 109, 111, 109, 101, 110, 116]) aN))) ssN)
      (ss1 (sRet (eD1 D_moment_of hr pass1 (aC (eD1 D_read_day hr pass1 (aC (v_ 1) (aC (eSl slX (v_ 2) (poS eI) (poS eI)) (aC (eSl slX (v_ 2) (poS eI) (poS eI)) aN)))) (aC (eCT cIntX z_int PyProof.Rows.boot_int (aC (eSl slX (v_ 2) (poS eI) (poS eI)) aN)) (aC (eCT cIntX z_int PyProof.Rows.boot_int (aC (eSl slX (v_ 2) (poS eI) (poS eI)) aN)) aN)))))))))), ?_⟩
  rcases hv with ⟨kd, hk, ns, hE⟩ | ⟨t, rfl, hl, hQ, hE⟩
  · refine ⟨_, rfl, v, .str, kd, rfl, (by decide), hk, _, rfl, ?_⟩
    have e : Kd.isa kd .str = false := by cases kd <;> first | rfl | exact absurd rfl ns
    rw [e]
    exact iteT ⟨(by show 1 ≤ sizeLine; decide), hE⟩
  refine ⟨_, rfl, _, .str, .str, rfl, (by decide), rfl, _, rfl, ifF rfl ?_⟩
  refine ⟨_, rfl, _, rfl, _, rfl, t, rfl, (by rw [sizeLine_eq]; omega), ?_⟩
  refine ⟨_, rfl, _, rfl, _, rfl, t, rfl, (by rw [sizeLine_eq]; omega), ?_⟩
  have l1 := cutN_len t none (some (-12))
  have l2 := cutN_len t (some (-12)) none
  refine ⟨_, rfl, cutN t (some (-12)) none, rfl, (by omega), fun H1 s1 => ⟨_, rfl, ?_⟩⟩
  cases ct : tailB (cutN t (some (-12)) none) with
  | false =>
    refine iteF (iteT ⟨(by show 1 ≤ sizeLine; decide), hE (fun y m k h i g => ?_) _ H1 (.inl rfl) s1⟩)
    have hb := good_100 g
    rw [g.1, show cutN (mtx y m k h i) (some (-12)) none = mtail m k h i from cut_tail _ _ rfl, tailB_mt hb] at ct
    cases ct
  | true =>
  refine iteT ⟨_, rfl, cutN t none (some (-12)), rfl, (by omega), fun H2 s2 => ⟨_, rfl, ?_⟩⟩
  cases cy : yearB (cutN t none (some (-12))) with
  | false =>
    refine iteT ⟨(by show 1 ≤ sizeLine; decide), hE (fun y m k h i g => ?_) _ H2 (.inl rfl) (s1.trans s2)⟩
    rw [g.1, show cutN (mtx y m k h i) none (some (-12)) = numZ y from cut_head _ _ rfl, yearB_nz g.2.2.2] at cy
    cases cy
  | true =>
  refine iteF ?_
  have l12 : 12 ≤ t.length := by
    refine Nat.le_of_not_lt fun z => ?_
    rw [tailB_len (by omega)] at ct
    cases ct
  obtain ⟨A0, B0, et, lB, eA, eB⟩ := cut12 t l12
  rw [eA] at cy ⊢
  rw [eB] at ct ⊢
  obtain ⟨y, rfl, hy⟩ := yearB_is cy
  obtain ⟨m, k, h, i, hb, rfl⟩ := tailB_is ct
  have et : t = mtx y m k h i := et
  have uniq : ∀ {y' : Int} {m' k' h' i' : Nat}, GoodT t y' m' k' h' i' → Ok3 y m k ∧ (h ≤ 23 ∧ i ≤ 59) := fun {y' m' k' h' i'} g => by
    obtain ⟨rfl, rfl, rfl, rfl, rfl⟩ := mtx_inj hb (good_100 g) (et.symm.trans g.1)
    exact ⟨g.2.1, g.2.2.1⟩
  refine ⟨_, rfl, _, rfl, _, rfl, _, rfl, mtail m k h i, rfl, (by show 12 ≤ sizeLine; decide), _, rfl, _, rfl, _, rfl, mtail m k h i, rfl, (by show 12 ≤ sizeLine; decide), y, m, k, rfl, ⟨hb.1, hb.2.1⟩, lt60 hy, fun ok H3 s3 => ?_, fun nok H3 s3 => hE (fun y' m' k' h' i' g => nok (uniq g).1) _ H3 (.inr rfl) ((s1.trans s2).trans s3)⟩
  refine ⟨_, rfl, _, rfl, _, rfl, mtail m k h i, rfl, (by show 12 ≤ sizeLine; decide), [48 + h / 10, 48 + h % 10], rfl, two_all hb.2.2.1, (fun z => nomatch z), (by show 2 ≤ 640; decide), _, rfl, _, rfl, _, rfl, mtail m k h i, rfl, (by show 12 ≤ sizeLine; decide), [48 + i / 10, 48 + i % 10], rfl, two_all hb.2.2.2, (fun z => nomatch z), (by show 2 ≤ 640; decide), ?_⟩
  rw [two_val hb.2.2.1, two_val hb.2.2.2]
  refine ⟨_, _, _, .int, .int, .int, rfl, rfl, rfl, rfl, fun n => hE (fun y' m' k' h' i' g => n ⟨_, _, _, rfl, ⟨by omega, by have := (uniq g).2; omega⟩, by omega, by have := (uniq g).2; omega⟩) _ H3 (.inl rfl) ((s1.trans s2).trans s3), fun x' y' z' e h1 h2 => ?_⟩
  obtain ⟨rfl, rfl, rfl⟩ : dnum y m k = x' ∧ (h : Int) = y' ∧ (i : Int) = z' := by cases e; exact ⟨rfl, rfl, rfl⟩
  exact hQ y m k h i ⟨et, ok, ⟨by omega, by omega⟩, hy⟩ H3 ((s1.trans s2).trans s3)
theorem sc__law_cell_at : FnScope ["_law_script", "_law_k"] ["_law_script", "_law_k"] (defScope s__law_cell_at) := ⟨rfl, rfl, rfl, by decide +kernel, rfl, by decide +kernel, by decide +kernel⟩
set_option maxHeartbeats 4000000 in
theorem ok__law_cell_at (F : Fn K mg "_law_cell_at" s__law_cell_at ["_law_script", "_law_k"]) (z_len : mg "len" = none) : Df P w K mg base "_law_cell_at" 1 ["_law_script", "_law_k"] (sp__law_cell_at K) := by
  refine F.dfs sc__law_cell_at (fun vs H Q E h => ?_) (fun f cdv A outer s H vs Q E hr h => ?_)
  · obtain ⟨a, k, rfl, ⟨ns, hS⟩, h0, q⟩ := h
    rfl
  obtain ⟨a, k, rfl, ⟨ns, hS⟩, h0, q⟩ := h
  refine ⟨_, (ssC (sIf (tCm oLt (v_ 1) (eCB cLen z_len PySem.boot_len (aC (v_ 0) aN))) (ss1 (sRet (eIx xL (v_ 0) (v_ 1)))) ssN)
      (ss1 (sRet eI))), ?_⟩
  refine ⟨_, rfl, _, rfl, a, _, rfl, .inl hS, _, _, rfl, rfl, _, rfl, ?_⟩
  refine ifD (fun c => ?_) (fun c => ?_)
  · rw [List.length_map] at c
    have hk : k.toNat < ns.length := by omega
    have ek : k = ((k.toNat : Nat) : Int) := by omega
    have e : atI (ns.map V.int) k = some (.int ns[k.toNat]) := by
      have z : atI (ns.map V.int) ((k.toNat : Nat) : Int) = some (.int ns[k.toNat]) := atI_nat (by rw [List.getElem?_map, List.getElem?_eq_getElem hk]; rfl)
      rw [← ek] at z
      exact z
    refine ⟨_, rfl, _, rfl, a, _, _, _, rfl, rfl, hS, e, ?_⟩
    exact q _
  · exact q 0
theorem sc__law_whole : FnScope ["_law_found"] ["_law_found"] (defScope s__law_whole) := ⟨rfl, rfl, rfl, by decide +kernel, rfl, by decide +kernel, by decide +kernel⟩
set_option maxHeartbeats 4000000 in
theorem ok__law_whole (F : Fn K mg "_law_whole" s__law_whole ["_law_found"]) (z_int : mg "int" = none) (z_isinstance : mg "isinstance" = none) (z_bool : mg "bool" = none) : Df P w K mg base "_law_whole" 1 ["_law_found"] (sp__law_whole K) := by
  refine F.dfs sc__law_whole (fun vs H Q E h => ?_) (fun f cdv A outer s H vs Q E hr h => ?_)
  · obtain ⟨v, k, rfl, hk, q⟩ := h
    rfl
  obtain ⟨v, k, rfl, hk, q⟩ := h
  refine ⟨_, (ss1 (sRet (eAnd (eCB cIs z_isinstance PyProof.Rows.boot_isinstance (aC (v_ 0) (aC (eTy z_int PyProof.Rows.boot_int) aN))) (eOne (eNot (eCB cIs z_isinstance PyProof.Rows.boot_isinstance (aC (v_ 0) (aC (eTy z_bool PyProof.Rows.boot_bool) aN)))))))), ?_⟩
  refine ⟨_, rfl, v, .int, k, rfl, (by decide), hk, _, rfl, ?_⟩
  cases k with
  | int => exact iteT ⟨_, rfl, v, .bool, .int, rfl, (by decide), hk, _, rfl, q⟩
  | bool => exact iteT ⟨_, rfl, v, .bool, .bool, rfl, (by decide), hk, _, rfl, q⟩
  | str => exact iteF q
  | non => exact iteF q
  | list => exact iteF q
  | tuple => exact iteF q
  | dict => exact iteF q
theorem sc__law_long : FnScope ["_law_year"] ["_law_year"] (defScope s__law_long) := ⟨rfl, rfl, rfl, by decide +kernel, rfl, by decide +kernel, by decide +kernel⟩
set_option maxHeartbeats 4000000 in
theorem ok__law_long (F : Fn K mg "_law_long" s__law_long ["_law_year"])  : Df P w K mg base "_law_long" 1 ["_law_year"] (sp__law_long K) := by
  refine F.dfs sc__law_long (fun vs H Q E h => ?_) (fun f cdv A outer s H vs Q E hr h => ?_)
  · obtain ⟨y, rfl, q⟩ := h
    rfl
  obtain ⟨y, rfl, q⟩ := h
  refine ⟨_, (ss1 (sRet (eAnd (eCmp oEq (eOp oMod (v_ 0) eI) eI) (eOne (eOr (eCmp oNe (eOp oMod (v_ 0) eI) eI) (eOne (eCmp oEq (eOp oMod (v_ 0) eI) eI))))))), ?_⟩
  refine ⟨_, rfl, _, _, rfl, rfl, (by show (0 : Int) < 4; decide), rfl, _, rfl, ?_⟩
  refine ifI (fun c1 => ?_) (fun c1 => ?_)
  · refine ⟨_, rfl, _, _, rfl, rfl, (by show (0 : Int) < 100; decide), rfl, _, rfl, ?_⟩
    refine ifNI (fun c2 => ?_) (fun c2 => ?_)
    · rw [isLong_t ⟨c1, .inl c2⟩] at q
      exact q
    · refine ⟨_, rfl, _, _, rfl, rfl, (by show (0 : Int) < 400; decide), rfl, ?_⟩
      by_cases c3 : y % 400 = 0
      · rw [isLong_t ⟨c1, .inr c3⟩] at q
        show Q (.bl (decide (V.int (y % 400) = V.int 0))) H
        rw [decide_eq_true (int_eq.mpr c3)]
        exact q
      · rw [isLong_f (by omega)] at q
        show Q (.bl (decide (V.int (y % 400) = V.int 0))) H
        rw [decide_eq_false fun e => c3 (int_eq.mp e)]
        exact q
  · rw [isLong_f (by omega)] at q
    exact q
theorem sc__law_last : FnScope ["_law_year", "_law_month"] ["_law_year", "_law_month"] (defScope s__law_last) := ⟨rfl, rfl, rfl, by decide +kernel, rfl, by decide +kernel, by decide +kernel⟩
set_option maxHeartbeats 4000000 in
theorem ok__law_last (F : Fn K mg "_law_last" s__law_last ["_law_year", "_law_month"]) (D__law_long : Df P w K mg base "_law_long" 1 ["_law_year"] (sp__law_long K)) (z_int : mg "int" = none) : Df P w K mg base "_law_last" 2 ["_law_year", "_law_month"] (sp__law_last K) := by
  refine F.dfs sc__law_last (fun vs H Q E h => ?_) (fun f cdv A outer s H vs Q E hr h => ?_)
  · obtain ⟨y, m, rfl, ⟨h1, h2⟩, q⟩ := h
    rfl
  obtain ⟨y, m, rfl, ⟨h1, h2⟩, q⟩ := h
  refine ⟨_, (ssC (sIf (tCm oEq (v_ 1) eI) (ss1 (sRet (eOp oAdd eI (eCT cInt z_int PyProof.Rows.boot_int (aC (eD D__law_long hr (aC (v_ 0) aN)) aN))))) ssN)
      (ss1 (sRet (eIx xL (eLst (aInts [31, 28, 31, 30, 31, 30, 31, 31, 30, 31, 30, 31])) (eOp oSub (v_ 1) eI))))), ?_⟩
  refine ⟨_, rfl, rfl, _, rfl, ?_⟩
  refine ifI (fun c1 => ?_) (fun c1 => ?_)
  · have e : lastOf y m = 28 + longI y := by unfold lastOf; rw [if_pos c1]
    rw [e] at q
    refine ⟨_, rfl, _, rfl, .inr ⟨_, rfl, _, _, rfl, rfl, ?_⟩⟩
    exact q H (Same.refl H)
  · have e : lastOf y m = lasts.getD (m - 1).toNat 0 := by unfold lastOf; rw [if_neg c1]
    rw [e] at q
    refine ⟨(by show 12 ≤ sizeLine; decide), fun p hp => ?_⟩
    refine ⟨_, rfl, _, _, rfl, rfl, p, lasts.map V.int, _, _, rfl, rfl, SqL.of upd_same, lasts_at h1 h2, ?_⟩
    exact q _ (same_new hp _)
theorem sc__law_two : FnScope ["_law_number"] ["_law_number"] (defScope s__law_two) := ⟨rfl, rfl, rfl, by decide +kernel, rfl, by decide +kernel, by decide +kernel⟩
set_option maxHeartbeats 4000000 in
theorem ok__law_two (F : Fn K mg "_law_two" s__law_two ["_law_number"]) (z_str : mg "str" = none) : Df P w K mg base "_law_two" 1 ["_law_number"] (sp__law_two K) := by
  refine F.dfs sc__law_two (fun vs H Q E h => ?_) (fun f cdv A outer s H vs Q E hr h => ?_)
  · obtain ⟨n, rfl, hn, q⟩ := h
    rfl
  obtain ⟨n, rfl, hn, q⟩ := h
  refine ⟨_, (ss1 (sRet (eSl slX (eCT cStrI z_str PyProof.Rows.boot_str (aC (eOp oAdd eI (v_ 0)) aN)) (poS eI) poN))), ?_⟩
  refine ⟨_, rfl, _, _, rfl, rfl, 100 + n, (by rw [Int.natCast_add]; rfl), Nat.lt_of_lt_of_le (show 100 + n < 200 by omega) (by decide +kernel), _, rfl, num (100 + n), rfl, ?_, ?_⟩
  · have := (num_len 2 (100 + n)).mpr (by show 100 + n < 1000; omega)
    rw [sizeLine_eq]
    omega
  · rw [cut_drop1]
    exact q
theorem sc__law_parts : FnScope ["_law_one", "_law_other", "_law_year", "_law_month", "_law_day", "_law_hour", "_law_minute", "_law_head"] ["_law_one", "_law_other"] (defScope s__law_parts) := ⟨rfl, rfl, rfl, by decide +kernel, rfl, by decide +kernel, by decide +kernel⟩
set_option maxHeartbeats 4000000 in
theorem ok__law_parts (F : Fn K mg "_law_parts" s__law_parts ["_law_one", "_law_other"]) (D__law_last : Df P w K mg base "_law_last" 2 ["_law_year", "_law_month"] (sp__law_last K)) (D__law_two : Df P w K mg base "_law_two" 1 ["_law_number"] (sp__law_two K)) (z_str : mg "str" = none) : Df P w K mg base "_law_parts" 3 ["_law_one", "_law_other"] (sp__law_parts K) := by
  refine F.dfs sc__law_parts (fun vs H Q E h => ?_) (fun f cdv A outer s H vs Q E hr h => ?_)
  · obtain ⟨one, other, rfl, q⟩ := h
    rfl
  obtain ⟨one, other, rfl, q⟩ := h
  refine ⟨_, (ssC (sSet 2 (eOp oSub (eOp oMod (v_ 0) (eIx xL (eLst (aC eI (aC (eOp oAdd (eOp oMul eI (eOp oPow eI eI)) eI) aN))) (eOp oMod (eOp oDiv (v_ 0) eI) eI))) (eIx xL (eLst (aC eI (aC (eOp oPow eI eI) aN))) (eOp oMod (eOp oDiv (v_ 0) eI) eI))) sc__law_parts.nd)
      (ssC (sSet 3 (eOp oAdd eI (eOp oMod (v_ 1) eI)) sc__law_parts.nd)
      (ssC (sSet 4 (eOp oAdd eI (eOp oMod (eOp oDiv (v_ 1) eI) (eD D__law_last hr (aC (v_ 2) (aC (v_ 3) aN))))) sc__law_parts.nd)
      (ssC (sSet 5 (eOp oMod (eOp oDiv (v_ 1) eI) eI) sc__law_parts.nd)
      (ssC (sSet 6 (eOp oMod (eOp oDiv (v_ 1) eI) eI) sc__law_parts.nd)
      (ssC (sSet 7 (eLst (aC (eCT cStrZ z_str PyProof.Rows.boot_str (aC (v_ 2) aN)) (aC (eSx [45]) (aC (eD D__law_two hr (aC (v_ 3) aN)) (aC (eSx [45]) (aC (eD D__law_two hr (aC (v_ 4) aN)) aN)))))) sc__law_parts.nd)
      (ss1 (sRet (eTup (aC (eOp oAddL (v_ 7) (eLst (aC (eSx [32]) (aC (eD D__law_two hr (aC (v_ 5) aN)) (aC (eSx [58]) (aC (eD D__law_two hr (aC (v_ 6) aN)) aN)))))) (aC (eD D__law_last hr (aC (v_ 2) (aC (v_ 3) aN))) aN))))))))))), ?_⟩
  have hzw : ∃ z w : Int, atI [V.int 3001, .int (2 * 10 ^ (20 : Int).toNat + 1)] (one / 7 % 2) = some (.int z) ∧ atI [V.int 500, .int (10 ^ (20 : Int).toNat)] (one / 7 % 2) = some (.int w) ∧ 0 < z ∧ z ≤ 200000000000000000001 ∧ 0 ≤ w ∧ w ≤ 100000000000000000000 := by
    rcases (show one / 7 % 2 = 0 ∨ one / 7 % 2 = 1 by omega) with e | e
    · rw [e]
      exact ⟨3001, 500, rfl, rfl, by decide, by decide, by decide, by decide⟩
    · rw [e]
      refine ⟨_, _, rfl, rfl, ?_⟩
      rw [q20]
      decide
  obtain ⟨z, w, hz, hw, z0, z1, w0, w1⟩ := hzw
  refine ⟨_, rfl, _, _, rfl, rfl, ⟨by decide, by decide, by decide⟩, _, _, rfl, rfl, .inl ⟨by decide, by decide⟩, _, _, rfl, rfl, (by show 2 ≤ sizeLine; decide), fun p1 hp1 => ⟨_, rfl, _, _, rfl, rfl, ⟨by decide, by decide⟩, _, _, rfl, rfl, (by show (0 : Int) < 2; decide), p1, _, _, _, rfl, rfl, SqL.of upd_same, hz, _, _, rfl, rfl, z0, ?_⟩⟩
  refine ⟨_, _, rfl, rfl, ⟨by decide, by decide, by decide⟩, (by show 2 ≤ sizeLine; decide), fun p2 hp2 => ⟨_, rfl, _, _, rfl, rfl, ⟨by decide, by decide⟩, _, _, rfl, rfl, (by show (0 : Int) < 2; decide), p2, _, _, _, rfl, rfl, SqL.of upd_same, hw, _, _, rfl, rfl, ?_⟩⟩
  have s2 := (same_new hp1 (.lst [V.int 3001, .int (2 * 10 ^ (20 : Int).toNat + 1)])).trans (same_new hp2 (.lst [V.int 500, .int (10 ^ (20 : Int).toNat)]))
  generalize upd (upd H p1 (.lst [V.int 3001, .int (2 * 10 ^ (20 : Int).toNat + 1)])) p2 (.lst [V.int 500, .int (10 ^ (20 : Int).toNat)]) = H2 at s2
  have hy : (one % z - w).natAbs < 10 ^ 50 := by
    have a := Int.emod_nonneg one (show z ≠ 0 by omega)
    have b := Int.emod_lt_of_pos one z0
    rw [p20]
    omega
  dsimp only
  generalize one % z - w = y at hy
  refine ⟨_, rfl, _, _, rfl, rfl, (by show (0 : Int) < 12; decide), _, _, rfl, rfl, ?_⟩
  have hm : 1 ≤ 1 + other % 12 ∧ 1 + other % 12 ≤ 12 := by omega
  dsimp only
  generalize 1 + other % 12 = m at hm
  obtain ⟨m, rfl⟩ := Int.eq_ofNat_of_zero_le (show 0 ≤ m by omega)
  have h28 := lastOf_ge (y := y) hm.1 hm.2
  have h31 := lastOf_le (y := y) hm.1 hm.2
  refine ⟨_, rfl, _, _, rfl, rfl, ⟨by decide, by decide⟩, _, rfl, _, rfl, _, _, rfl, hm, fun H3 s3 => ⟨_, _, rfl, rfl, (by omega), _, _, rfl, rfl, ?_⟩⟩
  have hk : 1 ≤ 1 + other / 12 % lastOf y m ∧ 1 + other / 12 % lastOf y m ≤ lastOf y m := by
    have h1 := Int.emod_nonneg (other / 12) (show lastOf y m ≠ 0 by omega)
    have h2 := Int.emod_lt_of_pos (other / 12) (show 0 < lastOf y m by omega)
    omega
  dsimp only
  generalize 1 + other / 12 % lastOf y m = k at hk
  obtain ⟨k, rfl⟩ := Int.eq_ofNat_of_zero_le (show 0 ≤ k by omega)
  refine ⟨_, rfl, _, _, rfl, rfl, ⟨by decide, by decide⟩, _, _, rfl, rfl, (by show (0 : Int) < 24; decide), ?_⟩
  refine ⟨_, rfl, _, _, rfl, rfl, ⟨by decide, by decide⟩, _, _, rfl, rfl, (by show (0 : Int) < 60; decide), ?_⟩
  have hh : 0 ≤ other / 372 % 24 ∧ other / 372 % 24 ≤ 23 := by omega
  have hi : 0 ≤ other / 8928 % 60 ∧ other / 8928 % 60 ≤ 59 := by omega
  dsimp only
  generalize other / 372 % 24 = h at hh
  generalize other / 8928 % 60 = i at hi
  obtain ⟨h, rfl⟩ := Int.eq_ofNat_of_zero_le hh.1
  obtain ⟨i, rfl⟩ := Int.eq_ofNat_of_zero_le hi.1
  obtain ⟨last, hlast⟩ := Int.eq_ofNat_of_zero_le (show 0 ≤ lastOf y m by omega)
  have hyb : -(10 ^ 500) < y ∧ y < 10 ^ 500 := by
    have h500 := big60 (lt60 hy)
    have e : ((10 ^ 500 : Nat) : Int) = (10 : Int) ^ 500 := by norm_cast
    omega
  refine ⟨_, rfl, y, rfl, hyb, _, rfl, m, rfl, (by omega), _, rfl, k, rfl, (by omega), (by show 5 ≤ sizeLine; decide), fun ph hph => ?_⟩
  refine ⟨_, rfl, _, rfl, h, rfl, (by omega), _, rfl, i, rfl, (by omega), (by show 4 ≤ sizeLine; decide), fun p4 hp4 => ⟨ph, p4, _, _, rfl, rfl, SqL.of (same_new hp4 _ _ _ upd_same), SqL.of upd_same, (by show 9 ≤ sizeLine; decide), fun pl hpl => ?_⟩⟩
  refine ⟨_, rfl, _, rfl, _, _, rfl, hm, fun H5 s5 => ⟨(by show 2 ≤ sizeLine; decide), fun p hp => ?_⟩⟩
  rw [hlast]
  refine q y m k h i last p pl _ ⟨⟨hm, hk⟩, ⟨by omega, by omega⟩, hy, hlast.symm⟩ (((((s2.trans s3).trans (same_new hph _)).trans (same_new hp4 _)).trans ((same_new hpl _).trans s5)).trans (same_new hp _)) upd_same (same_new hp _ _ _ (s5 _ _ ?_))
  rw [upd_same]
  unfold prt
  rw [← dd_two (show m < 100 by omega), ← dd_two (show k < 100 by omega), ← dd_two (show h < 100 by omega), ← dd_two (show i < 100 by omega)]
  rfl
theorem sc__law_bad_number : FnScope ["_law_cell", "_law_out"] ["_law_cell", "_law_out"] (defScope s__law_bad_number) := ⟨rfl, rfl, rfl, by decide +kernel, rfl, by decide +kernel, by decide +kernel⟩
set_option maxHeartbeats 4000000 in
theorem ok__law_bad_number (F : Fn K mg "_law_bad_number" s__law_bad_number ["_law_cell", "_law_out"])  : Df P w K mg base "_law_bad_number" 1 ["_law_cell", "_law_out"] (sp__law_bad_number K) := by
  refine F.dfs sc__law_bad_number (fun vs H Q E h => ?_) (fun f cdv A outer s H vs Q E hr h => ?_)
  · obtain ⟨c, out, rfl, q⟩ := h
    rfl
  obtain ⟨c, out, rfl, q⟩ := h
  refine ⟨_, (ss1 (sRet (eIx xL (eLst (aC (v_ 1) (aC (eSx [57, 57]) (aC (eSx [55]) (aC (eSx [48, 48, 55]) (aC (eSx [120, 49]) (aC (eSx [32, 55]) (aC (eSx [45, 49]) (aC (eSx []) (aC (eSx [49, 46]) (aC (eSx [55, 32]) (aC (eSx [43, 55]) aN)))))))))))) (eOp oMod (v_ 0) eI)))), ?_⟩
  refine ⟨_, rfl, (by show 11 ≤ sizeLine; decide), fun p hp => ?_⟩
  obtain ⟨w, hw, ha⟩ := at_map (ws := badN out) (n := 11) rfl (i := c % 11) (by omega) (by show c % 11 < 11; omega)
  exact ⟨_, rfl, _, _, rfl, rfl, (by show (0 : Int) < 11; decide), p, (badN out).map sV, _, _, rfl, rfl, SqL.of upd_same, ha, q w _ (same_new hp _) hw⟩
theorem sc__law_bad : FnScope ["_law_parts_here", "_law_last_here", "_law_at", "_law_cell", "_law_some", "_law_outs"] ["_law_parts_here", "_law_last_here", "_law_at", "_law_cell"] (defScope s__law_bad) := ⟨rfl, rfl, rfl, by decide +kernel, rfl, by decide +kernel, by decide +kernel⟩
set_option maxHeartbeats 4000000 in
theorem ok__law_bad (F : Fn K mg "_law_bad" s__law_bad ["_law_parts_here", "_law_last_here", "_law_at", "_law_cell"]) (D__law_bad_number : Df P w K mg base "_law_bad_number" 1 ["_law_cell", "_law_out"] (sp__law_bad_number K)) (z_max : mg "max" = none) (z_str : mg "str" = none) : Df P w K mg base "_law_bad" 2 ["_law_parts_here", "_law_last_here", "_law_at", "_law_cell"] (sp__law_bad K) := by
  refine F.dfs sc__law_bad (fun vs H Q E h => ?_) (fun f cdv A outer s H vs Q E hr h => ?_)
  · obtain ⟨pl, y, m, k, h, i, last, j, c, rfl, hS, hy, hl, hl2, hj, q⟩ := h
    rfl
  obtain ⟨pl, y, m, k, h, i, last, j, c, rfl, hS, hy, hl, hl2, hj, q⟩ := h
  refine ⟨_, (ssC (sIf (tCm oEq (v_ 2) eI) (ssC (sSet 4 (eLst (aC (eOp oAddX (eSx [48]) (eIx xL (v_ 0) eI)) (aC (eOp oAddX (eSx [43]) (eIx xL (v_ 0) eI)) (aC (eSx [45, 48]) (aC (eSx []) (aC (eSx [120]) (aC (eOp oAddX (eIx xL (v_ 0) eI) (eSx [32])) (aC (eOp oMulX (eSx [49]) eI) (aC (eOp oAddX (eSx [45]) (eOp oMulX (eSx [49]) eI)) (aC (eSx [50, 48, 50, 52, 46]) aN)))))))))) sc__law_bad.nd)
      (ss1 (sRet (eIx xL (eOp oAddL (v_ 4) (eLst (aC (eSx [50, 95, 48, 50, 52]) aN))) (eOp oMod (v_ 3) eI))))) ssN)
      (ssC (sIf (tCm oEq (eOp oMod (v_ 2) eI) eI) (ss1 (sRet (eIx xL (eIx xL (eLst (aC (eLst (aC (eSx [47]) (aC (eSx []) (aC (eSx [46]) (aC (eSx [43]) aN))))) (aC (eLst (aC (eSx [84]) (aC (eSx []) (aC (eSx [32, 32]) (aC (eSx [95]) aN))))) (aC (eLst (aC (eSx [46]) (aC (eSx []) (aC (eSx [32]) (aC (eSx [58, 58]) aN))))) aN)))) (eCB cMax z_max PyProof.Rows.boot_max (aC eI (aC (eOp oSub (eOp oDiv (v_ 2) eI) eI) aN)))) (eOp oMod (v_ 3) eI)))) ssN)
      (ssC (sSet 5 (eDisp (prC eI (eLst (aC (eSx [49, 51]) (aC (eSx [48, 48]) aN))) (prC eI (eLst (aC (eCT cStrI z_str PyProof.Rows.boot_str (aC (eOp oAdd (v_ 1) eI) aN)) (aC (eSx [48, 48]) aN))) (prC eI (eLst (aC (eSx [50, 52]) (aC (eSx [54, 48]) aN))) (prC eI (eLst (aC (eSx [54, 48]) (aC (eSx [54, 49]) aN))) prN))))) sc__law_bad.nd)
      (ss1 (sRet (eD D__law_bad_number hr (aC (eOp oDiv (v_ 3) eI) (aC (eIx xL (eDg hr (v_ 5) (v_ 2)) (eOp oMod (v_ 3) eI)) aN)))))))), ?_⟩
  have hz := lenZ (lt60 hy)
  refine ⟨_, rfl, rfl, _, rfl, ifI (fun c0 => ?_) (fun c0 => ?_)⟩
  · obtain rfl : j = 0 := by omega
    refine ⟨_, rfl, pl, _, 0, _, rfl, rfl, hS, rfl, [48], numZ y, rfl, rfl, (by rw [sizeLine_eq]; show 1 + (numZ y).length ≤ _; omega), _, rfl, pl, _, 0, _, rfl, rfl, hS, rfl, [43], numZ y, rfl, rfl, (by rw [sizeLine_eq]; show 1 + (numZ y).length ≤ _; omega), _, rfl, pl, _, 0, _, rfl, rfl, hS, rfl, numZ y, [32], rfl, rfl, (by rw [sizeLine_eq]; show (numZ y).length + 1 ≤ _; omega), [49], 51, rfl, rfl, (by decide), (by decide), [49], 51, rfl, rfl, (by decide), (by decide), [45], (List.replicate 51 [49]).flatten, rfl, rfl, (by decide), (by show 9 ≤ sizeLine; decide), fun p1 hp1 => ?_⟩
    refine ⟨_, rfl, (by show 1 ≤ sizeLine; decide), fun p2 hp2 => ⟨p1, p2, _, _, rfl, rfl, SqL.of (same_new hp2 _ _ _ upd_same), SqL.of upd_same, (by show 10 ≤ sizeLine; decide), fun p3 hp3 => ?_⟩⟩
    obtain ⟨w, hw, ha⟩ := at_map (ws := badY (numZ y)) (n := 10) rfl (i := c % 10) (by omega) (by show c % 10 < 10; omega)
    exact ⟨_, rfl, _, _, rfl, rfl, (by show (0 : Int) < 10; decide), p3, (badY (numZ y)).map sV, _, _, rfl, rfl, SqL.of upd_same, ha, q w _ (((same_new hp1 _).trans (same_new hp2 _)).trans (same_new hp3 _)) hw⟩
  refine ⟨_, rfl, _, _, rfl, rfl, (by show (0 : Int) < 2; decide), rfl, _, rfl, ifI (fun c1 => ?_) (fun c1 => ?_)⟩
  · refine ⟨(by show 4 ≤ sizeLine; decide), fun l1 h1 => ⟨(by show 4 ≤ sizeLine; decide), fun l2 h2 => ⟨(by show 4 ≤ sizeLine; decide), fun l3 h3 => ⟨(by show 3 ≤ sizeLine; decide), fun po hpo => ?_⟩⟩⟩⟩
    have s1 := same_new h1 (.lst (sep1.map sV))
    have s2 := same_new h2 (.lst (sep5.map sV))
    have s3 := same_new h3 (.lst (sep7.map sV))
    have s4 := same_new hpo (.lst [.ref l1, .ref l2, .ref l3])
    have sA := ((s1.trans s2).trans s3).trans s4
    have e1 := s4 _ _ (s3 _ _ (s2 _ _ (upd_same (H := H) (a := l1) (o := .lst (sep1.map sV)))))
    have e2 := s4 _ _ (s3 _ _ (upd_same (a := l2) (o := .lst (sep5.map sV))))
    have e3 := s4 _ _ (upd_same (a := l3) (o := .lst (sep7.map sV)))
    have fin : ∀ (lx : Addr) (ws : List (List Nat)), ws.length = 4 → (upd (upd (upd (upd H l1 (.lst (sep1.map sV))) l2 (.lst (sep5.map sV))) l3 (.lst (sep7.map sV))) po (.lst [.ref l1, .ref l2, .ref l3])) lx = some (.lst (ws.map sV)) → ∃ w, w ∈ ws ∧ atI (ws.map sV) (c % 4) = some (V.str (Tx w)) := fun lx ws hn _ => at_map hn (by omega) (by show c % 4 < 4; omega)
    have hj4 : j = 1 ∨ j = 3 ∨ j = 5 ∨ j = 7 := by omega
    rcases hj4 with rfl | rfl | rfl | rfl
    · obtain ⟨w, hw, ha⟩ := fin l1 sep1 rfl e1
      exact ⟨_, rfl, _, _, rfl, rfl, ⟨by decide, by decide⟩, _, _, rfl, rfl, _, _, rfl, po, _, _, _, rfl, rfl, SqL.of upd_same, rfl, _, rfl, _, _, rfl, rfl, (by show (0 : Int) < 4; decide), l1, sep1.map sV, _, _, rfl, rfl, SqL.of e1, ha, q w _ sA hw⟩
    · obtain ⟨w, hw, ha⟩ := fin l1 sep1 rfl e1
      exact ⟨_, rfl, _, _, rfl, rfl, ⟨by decide, by decide⟩, _, _, rfl, rfl, _, _, rfl, po, _, _, _, rfl, rfl, SqL.of upd_same, rfl, _, rfl, _, _, rfl, rfl, (by show (0 : Int) < 4; decide), l1, sep1.map sV, _, _, rfl, rfl, SqL.of e1, ha, q w _ sA hw⟩
    · obtain ⟨w, hw, ha⟩ := fin l2 sep5 rfl e2
      exact ⟨_, rfl, _, _, rfl, rfl, ⟨by decide, by decide⟩, _, _, rfl, rfl, _, _, rfl, po, _, _, _, rfl, rfl, SqL.of upd_same, rfl, _, rfl, _, _, rfl, rfl, (by show (0 : Int) < 4; decide), l2, sep5.map sV, _, _, rfl, rfl, SqL.of e2, ha, q w _ sA hw⟩
    · obtain ⟨w, hw, ha⟩ := fin l3 sep7 rfl e3
      exact ⟨_, rfl, _, _, rfl, rfl, ⟨by decide, by decide⟩, _, _, rfl, rfl, _, _, rfl, po, _, _, _, rfl, rfl, SqL.of upd_same, rfl, _, rfl, _, _, rfl, rfl, (by show (0 : Int) < 4; decide), l3, sep7.map sV, _, _, rfl, rfl, SqL.of e3, ha, q w _ sA hw⟩
  intro pd hpd
  refine ⟨(by show 2 ≤ sizeLine; decide), fun l1 h1 => ⟨_, rfl, _, _, rfl, rfl, last + 1, (by rw [Int.natCast_add]; rfl), Nat.lt_of_lt_of_le (show last + 1 < 200 by omega) (by decide +kernel), (by show 2 ≤ sizeLine; decide), fun l2 h2 => ⟨(by show 2 ≤ sizeLine; decide), fun l3 h3 => ⟨(by show 2 ≤ sizeLine; decide), fun l4 h4 => ?_⟩⟩⟩⟩
  have num_dd : num (last + 1) = dd (last + 1) := by
    rw [num_ge10 (by omega), num_lt10 (show (last + 1) / 10 < 10 by omega)]
    rfl
  rw [num_dd] at h3 h4 ⊢
  have s0 := same_new hpd (.dK [])
  have s1 := same_new h1 (.lst (([[49, 51], [48, 48]] : List (List Nat)).map sV))
  have s2 := same_new h2 (.lst (([dd (last + 1), [48, 48]] : List (List Nat)).map sV))
  have s3 := same_new h3 (.lst (([[50, 52], [54, 48]] : List (List Nat)).map sV))
  have s4 := same_new h4 (.lst (([[54, 48], [54, 49]] : List (List Nat)).map sV))
  have e1 := s4 _ _ (s3 _ _ (s2 _ _ (upd_same (H := upd H pd (.dK [])) (a := l1) (o := .lst (([[49, 51], [48, 48]] : List (List Nat)).map sV)))))
  have e2 := s4 _ _ (s3 _ _ (upd_same (a := l2) (o := .lst (([dd (last + 1), [48, 48]] : List (List Nat)).map sV))))
  have e3 := s4 _ _ (upd_same (a := l3) (o := .lst (([[50, 52], [54, 48]] : List (List Nat)).map sV)))
  have e4 := upd_same (H := upd (upd (upd (upd H pd (.dK [])) l1 (.lst (([[49, 51], [48, 48]] : List (List Nat)).map sV))) l2 (.lst (([dd (last + 1), [48, 48]] : List (List Nat)).map sV))) l3 (.lst (([[50, 52], [54, 48]] : List (List Nat)).map sV))) (a := l4) (o := .lst (([[54, 48], [54, 49]] : List (List Nat)).map sV))
  have ed := s4 _ _ (s3 _ _ (s2 _ _ (s1 _ _ (upd_same (H := H) (a := pd) (o := .dK [])))))
  have sA := (((s0.trans s1).trans s2).trans s3).trans s4
  refine ⟨ed, [(Sum.inl 2, .ref l1), (Sum.inl 4, .ref l2), (Sum.inl 6, .ref l3), (Sum.inl 8, .ref l4)], rfl, (by show 4 ≤ 15; decide), ?_⟩
  have n1 := ne_of e1 ed (by intro z; cases z)
  have n2 := ne_of e2 ed (by intro z; cases z)
  have n3 := ne_of e3 ed (by intro z; cases z)
  have n4 := ne_of e4 ed (by intro z; cases z)
  have sB : Same H (upd (upd (upd (upd (upd (upd H pd (.dK [])) l1 (.lst (([[49, 51], [48, 48]] : List (List Nat)).map sV))) l2 (.lst (([dd (last + 1), [48, 48]] : List (List Nat)).map sV))) l3 (.lst (([[50, 52], [54, 48]] : List (List Nat)).map sV))) l4 (.lst (([[54, 48], [54, 49]] : List (List Nat)).map sV))) pd (.dK (mergeK [] [(Sum.inl 2, .ref l1), (Sum.inl 4, .ref l2), (Sum.inl 6, .ref l3), (Sum.inl 8, .ref l4)]))) := same_upd hpd sA
  have hj4 : j = 2 ∨ j = 4 ∨ j = 6 ∨ j = 8 := by omega
  rcases hj4 with rfl | rfl | rfl | rfl
  · obtain ⟨o, ho, ha⟩ := at_map (ws := [[49, 51], [48, 48]]) (n := 2) rfl (i := c % 2) (by omega) (by show c % 2 < 2; omega)
    refine ⟨_, rfl, _, _, rfl, rfl, ⟨by decide, by decide⟩, _, rfl, _, rfl, pd, .ref l1, rfl, DGet.k (k := Sum.inl 2) upd_same, _, rfl, _, _, rfl, rfl, (by show (0 : Int) < 2; decide), l1, ([[49, 51], [48, 48]] : List (List Nat)).map sV, _, _, rfl, rfl, SqL.of (by rw [upd_ne n1]; exact e1), ha, _, o, rfl, fun w H' s' hw => q w H' (sB.trans s') ?_⟩
    simp only [List.mem_cons, List.not_mem_nil, or_false] at ho
    rcases ho with rfl | rfl
    · exact .inl hw
    · exact .inr hw
  · obtain ⟨o, ho, ha⟩ := at_map (ws := [dd (last + 1), [48, 48]]) (n := 2) rfl (i := c % 2) (by omega) (by show c % 2 < 2; omega)
    refine ⟨_, rfl, _, _, rfl, rfl, ⟨by decide, by decide⟩, _, rfl, _, rfl, pd, .ref l2, rfl, DGet.k (k := Sum.inl 4) upd_same, _, rfl, _, _, rfl, rfl, (by show (0 : Int) < 2; decide), l2, ([dd (last + 1), [48, 48]] : List (List Nat)).map sV, _, _, rfl, rfl, SqL.of (by rw [upd_ne n2]; exact e2), ha, _, o, rfl, fun w H' s' hw => q w H' (sB.trans s') ?_⟩
    simp only [List.mem_cons, List.not_mem_nil, or_false] at ho
    rcases ho with rfl | rfl
    · exact .inl hw
    · exact .inr hw
  · obtain ⟨o, ho, ha⟩ := at_map (ws := [[50, 52], [54, 48]]) (n := 2) rfl (i := c % 2) (by omega) (by show c % 2 < 2; omega)
    refine ⟨_, rfl, _, _, rfl, rfl, ⟨by decide, by decide⟩, _, rfl, _, rfl, pd, .ref l3, rfl, DGet.k (k := Sum.inl 6) upd_same, _, rfl, _, _, rfl, rfl, (by show (0 : Int) < 2; decide), l3, ([[50, 52], [54, 48]] : List (List Nat)).map sV, _, _, rfl, rfl, SqL.of (by rw [upd_ne n3]; exact e3), ha, _, o, rfl, fun w H' s' hw => q w H' (sB.trans s') ?_⟩
    simp only [List.mem_cons, List.not_mem_nil, or_false] at ho
    rcases ho with rfl | rfl
    · exact .inl hw
    · exact .inr hw
  · obtain ⟨o, ho, ha⟩ := at_map (ws := [[54, 48], [54, 49]]) (n := 2) rfl (i := c % 2) (by omega) (by show c % 2 < 2; omega)
    refine ⟨_, rfl, _, _, rfl, rfl, ⟨by decide, by decide⟩, _, rfl, _, rfl, pd, .ref l4, rfl, DGet.k (k := Sum.inl 8) upd_same, _, rfl, _, _, rfl, rfl, (by show (0 : Int) < 2; decide), l4, ([[54, 48], [54, 49]] : List (List Nat)).map sV, _, _, rfl, rfl, SqL.of (by rw [upd_ne n4]; exact e4), ha, _, o, rfl, fun w H' s' hw => q w H' (sB.trans s') ?_⟩
    simp only [List.mem_cons, List.not_mem_nil, or_false] at ho
    rcases ho with rfl | rfl
    · exact .inl hw
    · exact .inr hw
theorem sc__law_spoilt : FnScope ["_law_parts_here", "_law_last_here", "_law_cell", "_law_way", "_law_text", "_law_some", "_law_spoilt_here", "_law_at", "_law_other"] ["_law_parts_here", "_law_last_here", "_law_cell"] (defScope s__law_spoilt) := ⟨rfl, rfl, rfl, by decide +kernel, rfl, by decide +kernel, by decide +kernel⟩
set_option maxHeartbeats 4000000 in
theorem ok__law_spoilt (F : Fn K mg "_law_spoilt" s__law_spoilt ["_law_parts_here", "_law_last_here", "_law_cell"]) (D__law_bad : Df P w K mg base "_law_bad" 2 ["_law_parts_here", "_law_last_here", "_law_at", "_law_cell"] (sp__law_bad K)) (z_list : mg "list" = none) : Df P w K mg base "_law_spoilt" 3 ["_law_parts_here", "_law_last_here", "_law_cell"] (sp__law_spoilt K) := by
  refine F.dfs sc__law_spoilt (fun vs H Q E h => ?_) (fun f cdv A outer s H vs Q E hr h => ?_)
  · obtain ⟨pl, y, m, k, h, i, last, c, rfl, hS, dy, q⟩ := h
    rfl
  obtain ⟨pl, y, m, k, h, i, last, c, rfl, hS, dy, q⟩ := h
  refine ⟨_, (ssC (sSet 3 (eOp oMod (v_ 2) eI) sc__law_spoilt.nd)
      (ssC (sSet 2 (eOp oDiv (v_ 2) eI) sc__law_spoilt.nd)
      (ssC (sSet 4 (eJoin0 (eSx []) (v_ 0)) sc__law_spoilt.nd)
      (ssC (sIf (tCm oEq (v_ 3) eI) (ss1 (sRet (eIx xL (eLst (aC eN (aC eI (aC eB (aC (eLst (aC (v_ 4) aN)) (aC (eTup (aC (v_ 4) aN)) (aC eDi aN))))))) (eOp oMod (v_ 2) eI)))) ssN)
      (ssC (sIf (tCm oEq (v_ 3) eI) (ssC (sSet 5 (eLst (aC (eOp oAddX (eSx [32]) (v_ 4)) (aC (eOp oAddX (v_ 4) (eSx [32])) (aC (eOp oAddX (v_ 4) (eSx [90])) (aC (eSl slX (v_ 4) poN (poS (eUn oNeg eI))) (aC (eOp oAddX (eOp oAddX (eSl slX (v_ 4) (poS eI) (poS eI)) (eSx [32])) (v_ 4)) (aC (eOp oAddX (eOp oAddX (eSx [45]) (v_ 4)) (eSx [45])) (aC (eSx []) aN)))))))) sc__law_spoilt.nd)
      (ss1 (sRet (eIx xL (eOp oAddL (v_ 5) (eLst (aC (eOp oAddX (v_ 4) (eSx [10])) (aC (eOp oAddX (eSx [10]) (v_ 4)) (aC (eOp oAddX (v_ 4) (eSx [9])) aN))))) (eOp oMod (v_ 2) eI))))) ssN)
      (ssC (sSet 6 (eCT cLst z_list PyProof.Rows.boot_list (aC (v_ 0) aN)) sc__law_spoilt.nd)
      (ssC (sSet 7 (eOp oMod (v_ 2) eI) sc__law_spoilt.nd)
      (ssC (sAsg (eD D__law_bad hr (aC (v_ 0) (aC (v_ 1) (aC (v_ 7) (aC (eOp oDiv (v_ 2) eI) aN))))) (gSb (v_ 6) (v_ 7)))
      (ssC (sIf (tCm oGt (v_ 3) eI) (ssC (sSet 8 (eOp oMod (eOp oAdd (eOp oAdd (v_ 7) eI) (eOp oMod (eOp oDiv (v_ 2) eI) eI)) eI) sc__law_spoilt.nd)
      (ss1 (sAsg (eD D__law_bad hr (aC (v_ 0) (aC (v_ 1) (aC (v_ 8) (aC (eOp oDiv (v_ 2) eI) aN))))) (gSb (v_ 6) (v_ 8))))) ssN)
      (ss1 (sRet (eJoin0 (eSx []) (v_ 6))))))))))))), ?_⟩
  have hlt := dy.lt
  have hpl := prt_len (m := m) (k := k) (h := h) (i := i) dy.hy
  refine ⟨_, rfl, _, _, rfl, rfl, (by show (0 : Int) < 7; decide), ?_⟩
  refine ⟨_, rfl, _, _, rfl, rfl, ⟨by decide, by decide⟩, ?_⟩
  refine ⟨rfl, _, rfl, pl, prt y m k h i, rfl, rfl, hS, (by have := (sum_le _ hpl).1; rw [show (prt y m k h i).length = 9 from rfl] at this ⊢; omega), ?_⟩
  rw [prt_flat]
  have hT : (mtx y m k h i).length ≤ 73 := good_len (t := []) dy.hy
  dsimp only
  generalize eT : mtx y m k h i = T at hT
  refine ⟨_, rfl, rfl, _, rfl, ifI (fun c0 => ?_) (fun c0 => ?_)⟩
  · refine ⟨_, rfl, (by show 1 ≤ sizeLine; decide), fun l1 h1 => ⟨_, rfl, (by show 1 ≤ sizeLine; decide), fun l2 h2 => fun l3 h3 => ⟨(by show 6 ≤ sizeLine; decide), fun p hp => ?_⟩⟩⟩
    have n12 : l1 ≠ l2 := ne_of_none upd_same h2
    have n13 : l1 ≠ l3 := ne_of_none (by rw [upd_ne n12]; exact upd_same) h3
    have n23 : l2 ≠ l3 := ne_of_none upd_same h3
    have n1p : l1 ≠ p := ne_of_none (by rw [upd_ne n13, upd_ne n12]; exact upd_same) hp
    have n2p : l2 ≠ p := ne_of_none (by rw [upd_ne n23]; exact upd_same) hp
    have n3p : l3 ≠ p := ne_of_none upd_same hp
    have s4 := (((same_new h1 (.lst [.str (Tx T)])).trans (same_new h2 (.tup [.str (Tx T)]))).trans (same_new h3 (.dK []))).trans (same_new hp (.lst [.non, .int 5, .bl true, .ref l1, .ref l2, .ref l3]))
    obtain ⟨v, hv, hm⟩ := at_mem (xs := [V.non, .int 5, .bl true, .ref l1, .ref l2, .ref l3]) (i := c / 7 % 6) (Int.emod_nonneg _ (by decide)) (by show c / 7 % 6 < 6; omega)
    refine ⟨_, rfl, _, _, rfl, rfl, (by show (0 : Int) < 6; decide), p, _, _, v, rfl, rfl, SqL.of upd_same, hv, q v _ s4 (.inl ?_)⟩
    simp only [List.mem_cons, List.not_mem_nil, or_false] at hm
    rcases hm with rfl | rfl | rfl | rfl | rfl | rfl
    · exact ⟨.non, rfl, fun z => nomatch z⟩
    · exact ⟨.int, rfl, fun z => nomatch z⟩
    · exact ⟨.bool, rfl, fun z => nomatch z⟩
    · exact ⟨.list, .inl ⟨rfl, [.str (Tx T)], SqL.of (by rw [upd_ne n1p, upd_ne n13, upd_ne n12]; exact upd_same)⟩, fun z => nomatch z⟩
    · exact ⟨.tuple, .inr (.inl ⟨rfl, [.str (Tx T)], SqT.of (by rw [upd_ne n2p, upd_ne n23]; exact upd_same)⟩), fun z => nomatch z⟩
    · exact ⟨.dict, .inr (.inr ⟨rfl, [], by rw [upd_ne n3p]; exact upd_same⟩), fun z => nomatch z⟩
  refine ⟨_, rfl, rfl, _, rfl, ifI (fun c1 => ?_) (fun c1 => ?_)⟩
  · have lc1 := cutN_len T none (some (-1))
    have lc2 := cutN_len T (some 1) (some 2)
    refine ⟨_, rfl, [32], T, rfl, rfl, (by rw [sizeLine_eq]; show 1 + T.length ≤ _; omega), _, rfl, T, [32], rfl, rfl, (by rw [sizeLine_eq]; show T.length + 1 ≤ _; omega), _, rfl, T, [90], rfl, rfl, (by rw [sizeLine_eq]; show T.length + 1 ≤ _; omega), _, rfl, _, rfl, _, rfl, T, rfl, (by rw [sizeLine_eq]; omega), _, rfl, _, rfl, _, rfl, T, rfl, (by rw [sizeLine_eq]; omega), cutN T (some 1) (some 2), [32], rfl, rfl, (by rw [sizeLine_eq]; show (cutN T (some 1) (some 2)).length + 1 ≤ _; omega), _, rfl, cutN T (some 1) (some 2) ++ [32], T, rfl, rfl, (by rw [sizeLine_eq, List.length_append]; show (cutN T (some 1) (some 2)).length + 1 + T.length ≤ _; omega), _, rfl, [45], T, rfl, rfl, (by rw [sizeLine_eq]; show 1 + T.length ≤ _; omega), [45] ++ T, [45], rfl, rfl, (by rw [sizeLine_eq]; show T.length + 1 + 1 ≤ _; omega), (by show 7 ≤ sizeLine; decide), fun p1 hp1 => ?_⟩
    refine ⟨_, rfl, _, rfl, T, [10], rfl, rfl, (by rw [sizeLine_eq]; show T.length + 1 ≤ _; omega), _, rfl, [10], T, rfl, rfl, (by rw [sizeLine_eq]; show 1 + T.length ≤ _; omega), _, rfl, T, [9], rfl, rfl, (by rw [sizeLine_eq]; show T.length + 1 ≤ _; omega), (by show 3 ≤ sizeLine; decide), fun p2 hp2 => ⟨p1, p2, _, _, rfl, rfl, SqL.of (same_new hp2 _ _ _ upd_same), SqL.of upd_same, (by show 10 ≤ sizeLine; decide), fun p3 hp3 => ?_⟩⟩
    obtain ⟨w, hw, ha⟩ := at_map (ws := [32 :: T, T ++ [32], T ++ [90], cutN T none (some (-1)), cutN T (some 1) (some 2) ++ [32] ++ T, 45 :: T ++ [45], [], T ++ [10], 10 :: T, T ++ [9]]) (n := 10) rfl (i := c / 7 % 10) (by omega) (by show c / 7 % 10 < 10; omega)
    refine ⟨_, rfl, _, _, rfl, rfl, (by show (0 : Int) < 10; decide), p3, _, _, _, rfl, rfl, SqL.of upd_same, ha, q _ _ (((same_new hp1 _).trans (same_new hp2 _)).trans (same_new hp3 _)) (.inr ⟨w, rfl, ?_, fun y' m' k' h' i' => about_no ⟨hlt.1, hlt.2.1, hlt.2.2.1, hlt.2.2.2.1⟩ eT.symm hw⟩)⟩
    simp only [List.mem_cons, List.not_mem_nil, or_false] at hw
    rcases hw with rfl | rfl | rfl | rfl | rfl | rfl | rfl | rfl | rfl | rfl
    all_goals
      (try simp only [List.length_append, List.length_cons, List.length_nil])
      omega
  refine ⟨_, rfl, pl, _, rfl, .inl hS, fun q0 hq0 => ?_⟩
  have sq := same_new hq0 (.lst ((prt y m k h i).map sV))
  refine ⟨_, rfl, _, _, rfl, rfl, (by show (0 : Int) < 9; decide), ?_⟩
  have hj : 0 ≤ c / 7 % 9 ∧ c / 7 % 9 < 9 := by omega
  dsimp only
  generalize c / 7 % 9 = j at hj
  obtain ⟨j, rfl⟩ := Int.eq_ofNat_of_zero_le hj.1
  refine ⟨_, rfl, _, rfl, _, rfl, _, rfl, _, _, rfl, rfl, ⟨by decide, by decide⟩, pl, y, m, k, h, i, last, j, _, rfl, sq.seq hS, dy.hy, hlt.2.2.2.2, (by have := lastOf_ge (y := y) dy.ok.1.1 dy.ok.1.2; have := dy.hl; omega), (by omega), fun w1 H1 s1 hw1 => ?_⟩
  have e1 : H1 q0 = some (.lst ((prt y m k h i).map sV)) := s1 _ _ upd_same
  refine ⟨_, rfl, _, rfl, q0, _, _, _, rfl, rfl, e1, ixN_of hj.1 (by rw [List.length_map]; exact hj.2), ?_⟩
  rw [Int.toNat_natCast, show ((prt y m k h i).map sV).set j (.str (Tx w1)) = ((prt y m k h i).set j w1).map sV by rw [List.map_set]; rfl]
  have sA : Same H (upd H1 q0 (.lst (((prt y m k h i).set j w1).map sV))) := same_upd hq0 (sq.trans s1)
  have lw1 := badAt_len dy.hy (show j < 9 by omega) hw1
  have l9 := set_len (j := j) hpl lw1
  refine ⟨_, rfl, _, _, rfl, rfl, _, rfl, ifD (fun c4 => ?_) (fun c4 => ?_)⟩
  · refine ⟨_, rfl, _, _, rfl, rfl, _, rfl, _, _, rfl, rfl, ⟨by decide, by decide⟩, _, _, rfl, rfl, (by show (0 : Int) < 8; decide), _, _, rfl, rfl, _, _, rfl, rfl, (by show (0 : Int) < 9; decide), ?_⟩
    have hj2 : 0 ≤ ((j : Int) + 1 + c / 7 / 180 % 8) % 9 ∧ ((j : Int) + 1 + c / 7 / 180 % 8) % 9 < 9 ∧ ((j : Int) + 1 + c / 7 / 180 % 8) % 9 ≠ j := by omega
    dsimp only
    generalize ((j : Int) + 1 + c / 7 / 180 % 8) % 9 = j2 at hj2
    obtain ⟨j2, rfl⟩ := Int.eq_ofNat_of_zero_le hj2.1
    have ne : j ≠ j2 := fun z => hj2.2.2 (by rw [z])
    refine ⟨_, rfl, _, rfl, _, rfl, _, rfl, _, _, rfl, rfl, ⟨by decide, by decide⟩, pl, y, m, k, h, i, last, j2, _, rfl, sA.seq hS, dy.hy, hlt.2.2.2.2, (by have := lastOf_ge (y := y) dy.ok.1.1 dy.ok.1.2; have := dy.hl; omega), (by omega), fun w2 H2 s2 hw2 => ?_⟩
    have e2 : H2 q0 = some (.lst (((prt y m k h i).set j w1).map sV)) := s2 _ _ upd_same
    refine ⟨_, rfl, _, rfl, q0, _, _, _, rfl, rfl, e2, ixN_of hj2.1 (by rw [List.length_map, List.length_set]; exact hj2.2.1), ?_⟩
    rw [Int.toNat_natCast, show (((prt y m k h i).set j w1).map sV).set j2 (.str (Tx w2)) = (((prt y m k h i).set j w1).set j2 w2).map sV by rw [List.map_set (l := (prt y m k h i).set j w1)]; rfl]
    have lw2 := badAt_len dy.hy (show j2 < 9 by omega) hw2
    have l10 := set_len (j := j2) l9 lw2
    have sm := sum_le _ l10
    rw [List.length_set, List.length_set, show (prt y m k h i).length = 9 from rfl] at sm
    refine ⟨rfl, _, rfl, q0, ((prt y m k h i).set j w1).set j2 w2, rfl, rfl, SqL.of upd_same, (by rw [List.length_set, List.length_set, show (prt y m k h i).length = 9 from rfl]; omega), ?_⟩
    exact q _ _ (same_upd hq0 (sA.trans s2)) (.inr ⟨_, rfl, (by omega), fun _ _ _ _ _ => spoil2 dy (by omega) (by omega) ne hw1 hw2⟩)
  · have sm := sum_le _ l9
    rw [List.length_set, show (prt y m k h i).length = 9 from rfl] at sm
    refine ⟨rfl, _, rfl, q0, (prt y m k h i).set j w1, rfl, rfl, SqL.of upd_same, (by rw [List.length_set, show (prt y m k h i).length = 9 from rfl]; omega), ?_⟩
    exact q _ _ sA (.inr ⟨_, rfl, (by omega), fun _ _ _ _ _ => spoil1 dy (by omega) hw1⟩)
theorem sc__law_refused : FnScope ["_law_thing", "e"] ["_law_thing"] (defScope s__law_refused) := ⟨rfl, rfl, rfl, by decide +kernel, rfl, by decide +kernel, by decide +kernel⟩
set_option maxHeartbeats 4000000 in
theorem ok__law_refused (F : Fn K mg "_law_refused" s__law_refused ["_law_thing"]) {C_FieldError : Addr} (m_FieldError : mg "FieldError" = some (.ref C_FieldError)) {C_NoMoment : Addr} (m_NoMoment : mg "NoMoment" = some (.ref C_NoMoment)) {C_NoDay : Addr} (m_NoDay : mg "NoDay" = some (.ref C_NoDay)) {C_NoField : Addr} (m_NoField : mg "NoField" = some (.ref C_NoField)) {C_NoRow : Addr} (m_NoRow : mg "NoRow" = some (.ref C_NoRow)) {C_NoBook : Addr} (m_NoBook : mg "NoBook" = some (.ref C_NoBook)) {C_NoClock : Addr} (m_NoClock : mg "NoClock" = some (.ref C_NoClock)) {C_NoName : Addr} (m_NoName : mg "NoName" = some (.ref C_NoName)) {C_NoWord : Addr} (m_NoWord : mg "NoWord" = some (.ref C_NoWord)) (xb_FieldError : PySem.W.subIn K (.ref C_FieldError) (.type "BaseException") = some true) (xf_NoMoment : XF K C_NoMoment) (xk_NoMoment_FieldError : PySem.W.kitCls K (.ref C_NoMoment) (.ref C_FieldError) = some true) (xi_NoMoment : PySem.W.kitOne K (.ref C_NoMoment) (.ref C_NoMoment) = some true) (xv_NoMoment : PySem.W.kitOne K (.ref C_NoMoment) (.type "ValueError") = some true) (xt_NoMoment : PySem.W.kitAny K (.ref C_NoMoment) ([C_NoDay, C_NoField, C_NoRow, C_NoBook, C_NoClock, C_NoName, C_NoWord].map Value.ref) = some false) (D_read_moment : Df1 P w K mg base "read_moment" 6 ["text"] (sp_read_moment K C_NoMoment)) (z_isinstance : mg "isinstance" = none) (z_ValueError : mg "ValueError" = none) : Df P w K mg base "_law_refused" 7 ["_law_thing"] (sp__law_refused K) := by
  refine F.dfs sc__law_refused (fun vs H Q E h => ?_) (fun f cdv A outer s H vs Q E hr h => ?_)
  · obtain ⟨v, rfl, hv, q⟩ := h
    rfl
  obtain ⟨v, rfl, hv, q⟩ := h
  refine ⟨_, (ssC (sTryAs 1 m_FieldError xb_FieldError (bE (xD D_read_moment hr (aC (v_ 0) aN))) (fun _ => (ssC (sIf (tW (wOr (tNo (tVa (eCB cXi z_isinstance PyProof.Rows.boot_isinstance (aC (v_ 1) (aC (eGl (v := .ref C_NoMoment) m_NoMoment rfl) aN))))) (wOr1 (tNo (tVa (eCB cXy z_isinstance PyProof.Rows.boot_isinstance (aC (v_ 1) (aC (eTy z_ValueError boot_ValueError) aN)))))))) (ss1 (sRet eB)) ssN)
      (ss1 (sRet (eNot (eCB cXt z_isinstance PyProof.Rows.boot_isinstance (aC (v_ 1) (aC (eTup (aC (eGl (v := .ref C_NoDay) m_NoDay rfl) (aC (eGl (v := .ref C_NoField) m_NoField rfl) (aC (eGl (v := .ref C_NoRow) m_NoRow rfl) (aC (eGl (v := .ref C_NoBook) m_NoBook rfl) (aC (eGl (v := .ref C_NoClock) m_NoClock rfl) (aC (eGl (v := .ref C_NoName) m_NoName rfl) (aC (eGl (v := .ref C_NoWord) m_NoWord rfl) aN)))))))) aN)))))))) sc__law_refused.nd)
      (ss1 (sRet eB))), ?_⟩
  refine ⟨fun e _ H' => (e = .ref C_NoMoment ∨ e = wc C_NoMoment) ∧ Same H H', ?_, fun C d b H' ⟨hC, s0⟩ => ?_⟩
  · refine ⟨_, rfl, v, rfl, ?_⟩
    rcases hv with ⟨kd, hk, ns⟩ | ⟨t, rfl, hl, no⟩
    · exact .inl ⟨kd, hk, ns, .inl rfl, Same.refl _⟩
    · exact .inr ⟨t, rfl, hl, fun y m k h i g => absurd g (no y m k h i), fun _ e H' he s' => ⟨he, s'⟩⟩
  · obtain rfl : C = C_NoMoment := by
      rcases hC with z | z
      · exact (cv_ref z).1
      · exact (cv_wc z).1
    refine ⟨xk_NoMoment_FieldError, fun a ha => ?_⟩
    have sa := s0.trans (same_new ha (xo a C d b))
    refine ⟨_, rfl, a, C, C, d, b, true, rfl, upd_same, xf_NoMoment, xi_NoMoment, _, rfl, iteF ⟨_, rfl, a, C, "ValueError", d, b, true, rfl, upd_same, xf_NoMoment, xv_NoMoment, _, rfl, iteF ?_⟩⟩
    refine ⟨_, rfl, (by show 7 ≤ sizeLine; decide), fun tp htp => ⟨a, C, tp, [C_NoDay, C_NoField, C_NoRow, C_NoBook, C_NoClock, C_NoName, C_NoWord], d, b, false, rfl, same_new htp _ _ _ upd_same, xf_NoMoment, SqT.of upd_same, xt_NoMoment, _, rfl, q _ (sa.trans (same_new htp _))⟩⟩
theorem sc_law : FnScope ["_law_script", "_law_k", "_law_cells", "_law_parts_here", "_law_last_here", "_law_text", "_law_there"] ["_law_script"] (defScope s_law) := ⟨rfl, rfl, rfl, by decide +kernel, rfl, by decide +kernel, by decide +kernel⟩
set_option maxHeartbeats 4000000 in
theorem ok_law {fL : Addr} {fdL : FuncData} (F : Fun K "law" "law" s_law fL fdL) {C_NoMoment : Addr} (m_NoMoment : mg "NoMoment" = some (.ref C_NoMoment)) (D__law_cell_at : Df P w K mg base "_law_cell_at" 1 ["_law_script", "_law_k"] (sp__law_cell_at K)) (D__law_parts : Df P w K mg base "_law_parts" 3 ["_law_one", "_law_other"] (sp__law_parts K)) (D_read_moment : Df1 P w K mg base "read_moment" 6 ["text"] (sp_read_moment K C_NoMoment)) (D__law_whole : Df P w K mg base "_law_whole" 1 ["_law_found"] (sp__law_whole K)) (D__law_spoilt : Df P w K mg base "_law_spoilt" 3 ["_law_parts_here", "_law_last_here", "_law_cell"] (sp__law_spoilt K)) (D__law_refused : Df P w K mg base "_law_refused" 7 ["_law_thing"] (sp__law_refused K)) (z_range : mg "range" = none) (z_len : mg "len" = none) (z_min : mg "min" = none) (z_max : mg "max" = none) : FnOk P w K mg base CX0 8 fL fdL ["_law_script"] (sp_law K) := by
  refine F.oks sc_law (fun vs H Q E h => ?_) (fun cdv A outer s H vs Q E hr h => ?_)
  · obtain ⟨a, ns, rfl, hS, hlen, q⟩ := h
    rfl
  obtain ⟨a, ns, rfl, hS, hlen, q⟩ := h
  refine ⟨_, (ssC (sFor (iR3 z_range (aC eI (aC (eCB cMax z_max PyProof.Rows.boot_max (aC eI (aC (eCB cMin z_min PyProof.Rows.boot_min (aC eI (aC (eCB cLen z_len PySem.boot_len (aC (v_ 0) aN)) aN))) aN))) (aC eI aN)))) (gN 1 sc_law.nd) (ssC (sComp 2 ["_law_script", "_law_k"] [0, 1] (iR1 z_range (aC eI aN)) (fun _ _ _ _ _ _ => fsN) (fun _ _ _ _ _ _ => (eD D__law_cell_at hr (aC (v_ 1) (aC (eOp oAdd (v_ 2) (v_ 0)) aN)))) sc_law.nd)
      (ssC (sAsg (eD D__law_parts hr (aC (eIx xL (v_ 2) eI) (aC (eIx xL (v_ 2) eI) aN))) (gTu (gsC (gN 3 sc_law.nd) (gsC (gN 4 sc_law.nd) gsN))))
      (ssC (sSet 5 (eJoin0 (eSx []) (v_ 3)) sc_law.nd)
      (ssC (sSet 6 (eD1 D_read_moment hr pass10 (aC (v_ 5) aN)) sc_law.nd)
      (ssC (sIf (tW (wOr (tNo (tVa (eD D__law_whole hr (aC (v_ 6) aN)))) (wOr1 (tNo (tVa (eD D__law_refused hr (aC (eD D__law_spoilt hr (aC (v_ 3) (aC (v_ 4) (aC (eIx xL (v_ 2) eI) aN)))) aN))))))) (ss1 (sRet eB)) ssN)
      (ss1 (sIf (tCm oNe (eD1 D_read_moment hr pass10 (aC (v_ 5) aN)) (v_ 6)) (ss1 (sRet eB)) ssN))))))) PassesOwn.never)
      (ss1 (sRet eB))), ?_⟩
  refine ⟨_, rfl, a, _, rfl, .inl hS, _, _, rfl, _, _, rfl, _, _, _, rfl, ⟨by decide, by decide⟩, for_rangeS (fun i σ H2 => ∃ u1 u2 u3 u4 u5 u6 : Option V, σ = [some (.ref a), u1, u2, u3, u4, u5, u6] ∧ Same H H2) ⟨_, _, _, _, _, _, rfl, Same.refl _⟩ ?_ ?_⟩
  case refine_2 =>
    rintro σ H2 ⟨u1, u2, u3, u4, u5, u6, rfl, s2⟩
    exact q _
  rintro i0 σ H2 hi0 ⟨u1, u2, u3, u4, u5, u6, rfl, s2⟩
  refine ⟨3, rfl, by decide, by decide, comp_range (fun i l => ∃ cs : List Int, l = cs.map V.int ∧ cs.length = i) (by show 3 ≤ sizeLine; decide) ⟨[], rfl, rfl⟩ ?_ ?_⟩
  · rintro i l D H3 E' F' hi ⟨cs, rfl, hcs⟩ hD s3 hl hE hF
    refine ⟨_, rfl, _, rfl, _, rfl, _, _, rfl, rfl, a, _, rfl, ⟨ns, (s2.trans s3).seq hS⟩, (by omega), fun c => hE _ _ (Same.refl _) ⟨cs ++ [c], by rw [List.map_append]; rfl, by rw [List.length_append, hcs]; rfl⟩⟩
  rintro D H3 l ⟨cs, rfl, hcs⟩ hD s3 hl
  obtain ⟨c1, c2, c3, rfl⟩ : ∃ c1 c2 c3, cs = [c1, c2, c3] := by
    match cs, hcs with
    | [c1, c2, c3], _ => exact ⟨c1, c2, c3, rfl⟩
  have hl3 : H3 D = some (.lst [.int c1, .int c2, .int c3]) := hl
  have sA := s2.trans s3
  refine ⟨_, rfl, D, _, 0, _, rfl, rfl, SqL.of hl3, rfl, _, rfl, D, _, 1, _, rfl, rfl, SqL.of hl3, rfl, c1, c2, rfl, fun y m k h i last p pl H4 dy s4 hp hpl => ⟨p, _, rfl, SqT.of hp, rfl, _, _, rfl, _, _, rfl, rfl, ?_⟩⟩
  have hpn := prt_len (m := m) (k := k) (h := h) (i := i) dy.hy
  have hT : (mtx y m k h i).length ≤ 73 := good_len (t := []) dy.hy
  have good : GoodT (mtx y m k h i) y m k h i := ⟨rfl, dy.ok, dy.hb, dy.hy⟩
  have lt := dy.lt
  refine ⟨rfl, _, rfl, pl, prt y m k h i, rfl, rfl, SqL.of hpl, (by have := (sum_le _ hpn).1; rw [show (prt y m k h i).length = 9 from rfl] at this ⊢; omega), ?_⟩
  rw [prt_flat]
  have uniq : ∀ {y' : Int} {m' k' h' i' : Nat}, GoodT (mtx y m k h i) y' m' k' h' i' → 1440 * dnum y' m' k' + 60 * (h' : Int) + i' = 1440 * dnum y m k + 60 * (h : Int) + i := fun {y' m' k' h' i'} g => by
    obtain ⟨rfl, rfl, rfl, rfl, rfl⟩ := mtx_inj ⟨lt.1, lt.2.1, lt.2.2.1, lt.2.2.2.1⟩ (good_100 g) g.1
    rfl
  refine ⟨_, rfl, _, rfl, .inr ⟨mtx y m k h i, rfl, (by omega), fun y' m' k' h' i' g H5 s5 => ?_, fun no => absurd good (no y m k h i)⟩⟩
  rw [uniq g]
  have sB := (sA.trans s4).trans s5
  refine ⟨_, rfl, .int _, .int, rfl, rfl, _, rfl, iteF ?_⟩
  refine ⟨_, rfl, _, rfl, _, rfl, D, _, 2, _, rfl, rfl, SqL.of ((s4.trans s5) _ _ hl3), rfl, pl, y, m, k, h, i, last, c3, rfl, SqL.of (s5 _ _ hpl), dy, fun v H6 s6 hv => ⟨v, rfl, hv, fun H7 s7 => ⟨_, rfl, iteF ?_⟩⟩⟩
  have sC := (sB.trans s6).trans s7
  refine ⟨_, rfl, _, rfl, .inr ⟨mtx y m k h i, rfl, (by omega), fun y' m' k' h' i' g H8 s8 => ?_, fun no => absurd good (no y m k h i)⟩⟩
  rw [uniq g]
  exact ⟨_, rfl, rfl, _, rfl, ifNe rfl ⟨_, _, _, _, _, _, rfl, sC.trans s8⟩⟩
end
theorem all_mk {l : PySem.W.OpenLaw} {w : World} {K : PySem.W.Frag} {h : Heap} {mg : Str → Option Value} {fa : Addr} (X : K.In h) (G : h.Ns mainGlobals mg) (hfa : mg "law" = some (.ref fa))
    {f1 f2 f3 f4 f5 f6 f7 f8 f9 f10 f11 f12 f13 f14 f15 f16 f17 f18 f19 f20 f21 f22 f23 f24 f25 a_MONTH_LASTS C_NoDay C_NoMoment C_FieldError C_NoField C_NoRow C_NoBook C_NoClock C_NoName C_NoWord : Addr} {od1 an1 od2 an2 od3 an3 od4 an4 od5 an5 od6 an6 od7 an7 od8 an8 od9 an9 od10 an10 od11 an11 od12 an12 od13 an13 od14 an14 od15 an15 od16 an16 od17 an17 od18 an18 od19 an19 od20 an20 od21 an21 od22 an22 od23 an23 od24 an24 od25 an25 od_MONTH_LASTS : Option Addr} {sl1 sl2 sl3 sl4 sl5 sl6 sl7 sl8 sl9 sl10 sl11 sl12 sl13 sl14 sl15 sl16 sl17 sl18 sl19 sl20 sl21 sl22 sl23 sl24 sl25 sl_MONTH_LASTS : Array (Option Value)} {oc1 kV1 dc1 pm1 cd1 ct1 oc2 kV2 dc2 pm2 cd2 ct2 oc3 kV3 dc3 pm3 cd3 ct3 oc4 kV4 dc4 pm4 cd4 ct4 oc5 kV5 dc5 pm5 cd5 ct5 oc6 kV6 dc6 pm6 cd6 ct6 oc7 kV7 dc7 pm7 cd7 ct7 oc8 kV8 dc8 pm8 cd8 ct8 oc9 kV9 dc9 pm9 cd9 ct9 oc10 kV10 dc10 pm10 cd10 ct10 oc11 kV11 dc11 pm11 cd11 ct11 oc12 kV12 dc12 pm12 cd12 ct12 oc13 kV13 dc13 pm13 cd13 ct13 oc14 kV14 dc14 pm14 cd14 ct14 oc15 kV15 dc15 pm15 cd15 ct15 oc16 kV16 dc16 pm16 cd16 ct16 oc17 kV17 dc17 pm17 cd17 ct17 oc18 kV18 dc18 pm18 cd18 ct18 oc19 kV19 dc19 pm19 cd19 ct19 oc20 kV20 dc20 pm20 cd20 ct20 oc21 kV21 dc21 pm21 cd21 ct21 oc22 kV22 dc22 pm22 cd22 ct22 oc23 kV23 dc23 pm23 cd23 ct23 oc24 kV24 dc24 pm24 cd24 ct24 oc25 kV25 dc25 pm25 cd25 ct25 : Value} {t_MONTH_LASTS_0 t_MONTH_LASTS_1 t_MONTH_LASTS_2 t_MONTH_LASTS_3 t_MONTH_LASTS_4 t_MONTH_LASTS_5 t_MONTH_LASTS_6 t_MONTH_LASTS_7 t_MONTH_LASTS_8 t_MONTH_LASTS_9 t_MONTH_LASTS_10 t_MONTH_LASTS_11 t_FIGURES t_DAY_MINUTES t_HOUR_MINUTES t_MOST_YEAR_FIGURES t_TAIL_SIGNS : Tok} {n_MONTH_LASTS : Nat}
    (aX_NoDay : PySem.W.nsIn K mainGlobals "NoDay" = some (some (.ref C_NoDay)))
    (aX_NoMoment : PySem.W.nsIn K mainGlobals "NoMoment" = some (some (.ref C_NoMoment)))
    (aX_FieldError : PySem.W.nsIn K mainGlobals "FieldError" = some (some (.ref C_FieldError)))
    (aX_NoField : PySem.W.nsIn K mainGlobals "NoField" = some (some (.ref C_NoField)))
    (aX_NoRow : PySem.W.nsIn K mainGlobals "NoRow" = some (some (.ref C_NoRow)))
    (aX_NoBook : PySem.W.nsIn K mainGlobals "NoBook" = some (some (.ref C_NoBook)))
    (aX_NoClock : PySem.W.nsIn K mainGlobals "NoClock" = some (some (.ref C_NoClock)))
    (aX_NoName : PySem.W.nsIn K mainGlobals "NoName" = some (some (.ref C_NoName)))
    (aX_NoWord : PySem.W.nsIn K mainGlobals "NoWord" = some (some (.ref C_NoWord)))
    (qx_NoDay : PySem.W.excIn K C_NoDay vmro "ValueError.__new__" = true)
    (qx_NoMoment : PySem.W.excIn K C_NoMoment vmro "ValueError.__new__" = true)
    (rb_NoDay : PySem.W.subIn K (.ref C_NoDay) (.type "BaseException") = some true)
    (rk_NoDay_NoDay : PySem.W.kitCls K (.ref C_NoDay) (.ref C_NoDay) = some true)
    (rb_FieldError : PySem.W.subIn K (.ref C_FieldError) (.type "BaseException") = some true)
    (f0_NoMoment : (PySem.W.clsIn K C_NoMoment).isSome = true)
    (f1_NoMoment : PySem.W.findIn K (.ref C_NoMoment) "__getattribute__" = some (some (.builtin "BaseException.__getattribute__")))
    (f2_NoMoment : PySem.W.findIn K (.ref C_NoMoment) "__getattr__" = some none)
    (f3_NoMoment : PySem.W.findIn K (.ref C_NoMoment) "__class__" = some (some (.builtin "object.__class__")))
    (f4_NoMoment : PySem.W.specialIn K (.builtin "object.__class__") "__get__" = some (some (.builtin "getset_descriptor.__get__")))
    (f5_NoMoment : PySem.W.takesIn K (.builtin "object.__class__") = some true)
    (f6_NoMoment : PySem.W.mroIn K C_NoMoment (.type "object") = some true)
    (f7_NoMoment : PySem.W.mroIn K C_NoMoment (.type "BaseException") = some true)
    (rk_NoMoment_FieldError : PySem.W.kitCls K (.ref C_NoMoment) (.ref C_FieldError) = some true)
    (ri_NoMoment : PySem.W.kitOne K (.ref C_NoMoment) (.ref C_NoMoment) = some true)
    (rv_NoMoment : PySem.W.kitOne K (.ref C_NoMoment) (.type "ValueError") = some true)
    (rt_NoMoment : PySem.W.kitAny K (.ref C_NoMoment) ([C_NoDay, C_NoField, C_NoRow, C_NoBook, C_NoClock, C_NoName, C_NoWord].map Value.ref) = some false)
    (a1 : PySem.W.nsIn K mainGlobals "is_whole" = some (some (.ref f1))) (l1 : K.lookup f1 = some ⟨oc1, od1, .func (PySem.W.fnOf "is_whole" "is_whole" (defArgs s_is_whole) (defBody s_is_whole) (defScope s_is_whole) .none kV1 dc1 pm1 an1 cd1 ct1), sl1⟩) (c1 : PySem.W.codeIn K cd1 "is_whole" = true) (k1 : PySem.W.keepIn K (.ref f1) = true)
    (a2 : PySem.W.nsIn K mainGlobals "is_long" = some (some (.ref f2))) (l2 : K.lookup f2 = some ⟨oc2, od2, .func (PySem.W.fnOf "is_long" "is_long" (defArgs s_is_long) (defBody s_is_long) (defScope s_is_long) .none kV2 dc2 pm2 an2 cd2 ct2), sl2⟩) (c2 : PySem.W.codeIn K cd2 "is_long" = true) (k2 : PySem.W.keepIn K (.ref f2) = true)
    (a3 : PySem.W.nsIn K mainGlobals "multiples_before" = some (some (.ref f3))) (l3 : K.lookup f3 = some ⟨oc3, od3, .func (PySem.W.fnOf "multiples_before" "multiples_before" (defArgs s_multiples_before) (defBody s_multiples_before) (defScope s_multiples_before) .none kV3 dc3 pm3 an3 cd3 ct3), sl3⟩) (c3 : PySem.W.codeIn K cd3 "multiples_before" = true) (k3 : PySem.W.keepIn K (.ref f3) = true)
    (a4 : PySem.W.nsIn K mainGlobals "days_before" = some (some (.ref f4))) (l4 : K.lookup f4 = some ⟨oc4, od4, .func (PySem.W.fnOf "days_before" "days_before" (defArgs s_days_before) (defBody s_days_before) (defScope s_days_before) .none kV4 dc4 pm4 an4 cd4 ct4), sl4⟩) (c4 : PySem.W.codeIn K cd4 "days_before" = true) (k4 : PySem.W.keepIn K (.ref f4) = true)
    (a5 : PySem.W.nsIn K mainGlobals "last_of" = some (some (.ref f5))) (l5 : K.lookup f5 = some ⟨oc5, od5, .func (PySem.W.fnOf "last_of" "last_of" (defArgs s_last_of) (defBody s_last_of) (defScope s_last_of) .none kV5 dc5 pm5 an5 cd5 ct5), sl5⟩) (c5 : PySem.W.codeIn K cd5 "last_of" = true) (k5 : PySem.W.keepIn K (.ref f5) = true)
    (a6 : PySem.W.nsIn K mainGlobals "is_date" = some (some (.ref f6))) (l6 : K.lookup f6 = some ⟨oc6, od6, .func (PySem.W.fnOf "is_date" "is_date" (defArgs s_is_date) (defBody s_is_date) (defScope s_is_date) .none kV6 dc6 pm6 an6 cd6 ct6), sl6⟩) (c6 : PySem.W.codeIn K cd6 "is_date" = true) (k6 : PySem.W.keepIn K (.ref f6) = true)
    (a7 : PySem.W.nsIn K mainGlobals "day_of" = some (some (.ref f7))) (l7 : K.lookup f7 = some ⟨oc7, od7, .func (PySem.W.fnOf "day_of" "day_of" (defArgs s_day_of) (defBody s_day_of) (defScope s_day_of) .none kV7 dc7 pm7 an7 cd7 ct7), sl7⟩) (c7 : PySem.W.codeIn K cd7 "day_of" = true) (k7 : PySem.W.keepIn K (.ref f7) = true)
    (a8 : PySem.W.nsIn K mainGlobals "all_figures" = some (some (.ref f8))) (l8 : K.lookup f8 = some ⟨oc8, od8, .func (PySem.W.fnOf "all_figures" "all_figures" (defArgs s_all_figures) (defBody s_all_figures) (defScope s_all_figures) .none kV8 dc8 pm8 an8 cd8 ct8), sl8⟩) (c8 : PySem.W.codeIn K cd8 "all_figures" = true) (k8 : PySem.W.keepIn K (.ref f8) = true)
    (a9 : PySem.W.nsIn K mainGlobals "is_written" = some (some (.ref f9))) (l9 : K.lookup f9 = some ⟨oc9, od9, .func (PySem.W.fnOf "is_written" "is_written" (defArgs s_is_written) (defBody s_is_written) (defScope s_is_written) .none kV9 dc9 pm9 an9 cd9 ct9), sl9⟩) (c9 : PySem.W.codeIn K cd9 "is_written" = true) (k9 : PySem.W.keepIn K (.ref f9) = true)
    (a10 : PySem.W.nsIn K mainGlobals "moment_of" = some (some (.ref f10))) (l10 : K.lookup f10 = some ⟨oc10, od10, .func (PySem.W.fnOf "moment_of" "moment_of" (defArgs s_moment_of) (defBody s_moment_of) (defScope s_moment_of) .none kV10 dc10 pm10 an10 cd10 ct10), sl10⟩) (c10 : PySem.W.codeIn K cd10 "moment_of" = true) (k10 : PySem.W.keepIn K (.ref f10) = true)
    (a11 : PySem.W.nsIn K mainGlobals "is_shown_year" = some (some (.ref f11))) (l11 : K.lookup f11 = some ⟨oc11, od11, .func (PySem.W.fnOf "is_shown_year" "is_shown_year" (defArgs s_is_shown_year) (defBody s_is_shown_year) (defScope s_is_shown_year) .none kV11 dc11 pm11 an11 cd11 ct11), sl11⟩) (c11 : PySem.W.codeIn K cd11 "is_shown_year" = true) (k11 : PySem.W.keepIn K (.ref f11) = true)
    (a12 : PySem.W.nsIn K mainGlobals "is_shown_tail" = some (some (.ref f12))) (l12 : K.lookup f12 = some ⟨oc12, od12, .func (PySem.W.fnOf "is_shown_tail" "is_shown_tail" (defArgs s_is_shown_tail) (defBody s_is_shown_tail) (defScope s_is_shown_tail) .none kV12 dc12 pm12 an12 cd12 ct12), sl12⟩) (c12 : PySem.W.codeIn K cd12 "is_shown_tail" = true) (k12 : PySem.W.keepIn K (.ref f12) = true)
    (a13 : PySem.W.nsIn K mainGlobals "read_day" = some (some (.ref f13))) (l13 : K.lookup f13 = some ⟨oc13, od13, .func (PySem.W.fnOf "read_day" "read_day" (defArgs s_read_day) (defBody s_read_day) (defScope s_read_day) .none kV13 dc13 pm13 an13 cd13 ct13), sl13⟩) (c13 : PySem.W.codeIn K cd13 "read_day" = true) (k13 : PySem.W.keepIn K (.ref f13) = true)
    (a14 : PySem.W.nsIn K mainGlobals "read_moment" = some (some (.ref f14))) (l14 : K.lookup f14 = some ⟨oc14, od14, .func (PySem.W.fnOf "read_moment" "read_moment" (defArgs s_read_moment) (defBody s_read_moment) (defScope s_read_moment) .none kV14 dc14 pm14 an14 cd14 ct14), sl14⟩) (c14 : PySem.W.codeIn K cd14 "read_moment" = true) (k14 : PySem.W.keepIn K (.ref f14) = true)
    (a15 : PySem.W.nsIn K mainGlobals "_law_cell_at" = some (some (.ref f15))) (l15 : K.lookup f15 = some ⟨oc15, od15, .func (PySem.W.fnOf "_law_cell_at" "_law_cell_at" (defArgs s__law_cell_at) (defBody s__law_cell_at) (defScope s__law_cell_at) .none kV15 dc15 pm15 an15 cd15 ct15), sl15⟩) (c15 : PySem.W.codeIn K cd15 "_law_cell_at" = true) (k15 : PySem.W.keepIn K (.ref f15) = true)
    (a16 : PySem.W.nsIn K mainGlobals "_law_whole" = some (some (.ref f16))) (l16 : K.lookup f16 = some ⟨oc16, od16, .func (PySem.W.fnOf "_law_whole" "_law_whole" (defArgs s__law_whole) (defBody s__law_whole) (defScope s__law_whole) .none kV16 dc16 pm16 an16 cd16 ct16), sl16⟩) (c16 : PySem.W.codeIn K cd16 "_law_whole" = true) (k16 : PySem.W.keepIn K (.ref f16) = true)
    (a17 : PySem.W.nsIn K mainGlobals "_law_long" = some (some (.ref f17))) (l17 : K.lookup f17 = some ⟨oc17, od17, .func (PySem.W.fnOf "_law_long" "_law_long" (defArgs s__law_long) (defBody s__law_long) (defScope s__law_long) .none kV17 dc17 pm17 an17 cd17 ct17), sl17⟩) (c17 : PySem.W.codeIn K cd17 "_law_long" = true) (k17 : PySem.W.keepIn K (.ref f17) = true)
    (a18 : PySem.W.nsIn K mainGlobals "_law_last" = some (some (.ref f18))) (l18 : K.lookup f18 = some ⟨oc18, od18, .func (PySem.W.fnOf "_law_last" "_law_last" (defArgs s__law_last) (defBody s__law_last) (defScope s__law_last) .none kV18 dc18 pm18 an18 cd18 ct18), sl18⟩) (c18 : PySem.W.codeIn K cd18 "_law_last" = true) (k18 : PySem.W.keepIn K (.ref f18) = true)
    (a19 : PySem.W.nsIn K mainGlobals "_law_two" = some (some (.ref f19))) (l19 : K.lookup f19 = some ⟨oc19, od19, .func (PySem.W.fnOf "_law_two" "_law_two" (defArgs s__law_two) (defBody s__law_two) (defScope s__law_two) .none kV19 dc19 pm19 an19 cd19 ct19), sl19⟩) (c19 : PySem.W.codeIn K cd19 "_law_two" = true) (k19 : PySem.W.keepIn K (.ref f19) = true)
    (a20 : PySem.W.nsIn K mainGlobals "_law_parts" = some (some (.ref f20))) (l20 : K.lookup f20 = some ⟨oc20, od20, .func (PySem.W.fnOf "_law_parts" "_law_parts" (defArgs s__law_parts) (defBody s__law_parts) (defScope s__law_parts) .none kV20 dc20 pm20 an20 cd20 ct20), sl20⟩) (c20 : PySem.W.codeIn K cd20 "_law_parts" = true) (k20 : PySem.W.keepIn K (.ref f20) = true)
    (a21 : PySem.W.nsIn K mainGlobals "_law_bad_number" = some (some (.ref f21))) (l21 : K.lookup f21 = some ⟨oc21, od21, .func (PySem.W.fnOf "_law_bad_number" "_law_bad_number" (defArgs s__law_bad_number) (defBody s__law_bad_number) (defScope s__law_bad_number) .none kV21 dc21 pm21 an21 cd21 ct21), sl21⟩) (c21 : PySem.W.codeIn K cd21 "_law_bad_number" = true) (k21 : PySem.W.keepIn K (.ref f21) = true)
    (a22 : PySem.W.nsIn K mainGlobals "_law_bad" = some (some (.ref f22))) (l22 : K.lookup f22 = some ⟨oc22, od22, .func (PySem.W.fnOf "_law_bad" "_law_bad" (defArgs s__law_bad) (defBody s__law_bad) (defScope s__law_bad) .none kV22 dc22 pm22 an22 cd22 ct22), sl22⟩) (c22 : PySem.W.codeIn K cd22 "_law_bad" = true) (k22 : PySem.W.keepIn K (.ref f22) = true)
    (a23 : PySem.W.nsIn K mainGlobals "_law_spoilt" = some (some (.ref f23))) (l23 : K.lookup f23 = some ⟨oc23, od23, .func (PySem.W.fnOf "_law_spoilt" "_law_spoilt" (defArgs s__law_spoilt) (defBody s__law_spoilt) (defScope s__law_spoilt) .none kV23 dc23 pm23 an23 cd23 ct23), sl23⟩) (c23 : PySem.W.codeIn K cd23 "_law_spoilt" = true) (k23 : PySem.W.keepIn K (.ref f23) = true)
    (a24 : PySem.W.nsIn K mainGlobals "_law_refused" = some (some (.ref f24))) (l24 : K.lookup f24 = some ⟨oc24, od24, .func (PySem.W.fnOf "_law_refused" "_law_refused" (defArgs s__law_refused) (defBody s__law_refused) (defScope s__law_refused) .none kV24 dc24 pm24 an24 cd24 ct24), sl24⟩) (c24 : PySem.W.codeIn K cd24 "_law_refused" = true) (k24 : PySem.W.keepIn K (.ref f24) = true)
    (a25 : PySem.W.nsIn K mainGlobals "law" = some (some (.ref f25))) (l25 : K.lookup f25 = some ⟨oc25, od25, .func (PySem.W.fnOf "law" "law" (defArgs s_law) (defBody s_law) (defScope s_law) .none kV25 dc25 pm25 an25 cd25 ct25), sl25⟩) (c25 : PySem.W.codeIn K cd25 "law" = true) (k25 : PySem.W.keepIn K (.ref f25) = true)
    (g_MONTH_LASTS : PySem.W.nsIn K mainGlobals "MONTH_LASTS" = some (some (.ref a_MONTH_LASTS))) (l_MONTH_LASTS : K.lookup a_MONTH_LASTS = some ⟨.type "tuple", od_MONTH_LASTS, .seq #[.int 31 t_MONTH_LASTS_0, .int 28 t_MONTH_LASTS_1, .int 31 t_MONTH_LASTS_2, .int 30 t_MONTH_LASTS_3, .int 31 t_MONTH_LASTS_4, .int 30 t_MONTH_LASTS_5, .int 31 t_MONTH_LASTS_6, .int 31 t_MONTH_LASTS_7, .int 30 t_MONTH_LASTS_8, .int 31 t_MONTH_LASTS_9, .int 30 t_MONTH_LASTS_10, .int 31 t_MONTH_LASTS_11] n_MONTH_LASTS, sl_MONTH_LASTS⟩)
    (g_FIGURES : PySem.W.nsIn K mainGlobals "FIGURES" = some (some (.str "0123456789" t_FIGURES)))
    (g_DAY_MINUTES : PySem.W.nsIn K mainGlobals "DAY_MINUTES" = some (some (.int 1440 t_DAY_MINUTES)))
    (g_HOUR_MINUTES : PySem.W.nsIn K mainGlobals "HOUR_MINUTES" = some (some (.int 60 t_HOUR_MINUTES)))
    (g_MOST_YEAR_FIGURES : PySem.W.nsIn K mainGlobals "MOST_YEAR_FIGURES" = some (some (.int 50 t_MOST_YEAR_FIGURES)))
    (g_TAIL_SIGNS : PySem.W.nsIn K mainGlobals "TAIL_SIGNS" = some (some (.int 12 t_TAIL_SIGNS)))
    (y_int : PySem.W.nsIn K mainGlobals "int" = some none)
    (y_isinstance : PySem.W.nsIn K mainGlobals "isinstance" = some none)
    (y_bool : PySem.W.nsIn K mainGlobals "bool" = some none)
    (y_range : PySem.W.nsIn K mainGlobals "range" = some none)
    (y_sum : PySem.W.nsIn K mainGlobals "sum" = some none)
    (y_all : PySem.W.nsIn K mainGlobals "all" = some none)
    (y_len : PySem.W.nsIn K mainGlobals "len" = some none)
    (y_str : PySem.W.nsIn K mainGlobals "str" = some none)
    (y_max : PySem.W.nsIn K mainGlobals "max" = some none)
    (y_list : PySem.W.nsIn K mainGlobals "list" = some none)
    (y_ValueError : PySem.W.nsIn K mainGlobals "ValueError" = some none)
    (y_min : PySem.W.nsIn K mainGlobals "min" = some none) :
    ∃ fd : FuncData, (∀ (s : Shared) (v : Value), BindsTo s fd ⟨[v], []⟩ [("_law_script", v)]) ∧ ∀ base : Heap, K.In base → base.Ns mainGlobals mg → FnOk l.prog w K mg base CX0 8 fa fd ["_law_script"] (sp_law K) := by
  have e := hfa.symm.trans (PySem.W.mg_of X G a25)
  cases e
  have F1 : Fn K mg "is_whole" s_is_whole ["thing"] := fn_mk X G a1 l1 c1 k1 fun _ _ _ _ _ _ us hl => match us, hl with | [_], _ => rfl
  have F2 : Fn K mg "is_long" s_is_long ["year"] := fn_mk X G a2 l2 c2 k2 fun _ _ _ _ _ _ us hl => match us, hl with | [_], _ => rfl
  have F3 : Fn K mg "multiples_before" s_multiples_before ["year", "step"] := fn_mk X G a3 l3 c3 k3 fun _ _ _ _ _ _ us hl => match us, hl with | [_, _], _ => rfl
  have F4 : Fn K mg "days_before" s_days_before ["year"] := fn_mk X G a4 l4 c4 k4 fun _ _ _ _ _ _ us hl => match us, hl with | [_], _ => rfl
  have F5 : Fn K mg "last_of" s_last_of ["year", "month"] := fn_mk X G a5 l5 c5 k5 fun _ _ _ _ _ _ us hl => match us, hl with | [_, _], _ => rfl
  have F6 : Fn K mg "is_date" s_is_date ["year", "month", "day"] := fn_mk X G a6 l6 c6 k6 fun _ _ _ _ _ _ us hl => match us, hl with | [_, _, _], _ => rfl
  have F7 : Fn K mg "day_of" s_day_of ["year", "month", "day"] := fn_mk X G a7 l7 c7 k7 fun _ _ _ _ _ _ us hl => match us, hl with | [_, _, _], _ => rfl
  have F8 : Fn K mg "all_figures" s_all_figures ["text"] := fn_mk X G a8 l8 c8 k8 fun _ _ _ _ _ _ us hl => match us, hl with | [_], _ => rfl
  have F9 : Fn K mg "is_written" s_is_written ["text"] := fn_mk X G a9 l9 c9 k9 fun _ _ _ _ _ _ us hl => match us, hl with | [_], _ => rfl
  have F10 : Fn K mg "moment_of" s_moment_of ["day", "hour", "minute"] := fn_mk X G a10 l10 c10 k10 fun _ _ _ _ _ _ us hl => match us, hl with | [_, _, _], _ => rfl
  have F11 : Fn K mg "is_shown_year" s_is_shown_year ["text"] := fn_mk X G a11 l11 c11 k11 fun _ _ _ _ _ _ us hl => match us, hl with | [_], _ => rfl
  have F12 : Fn K mg "is_shown_tail" s_is_shown_tail ["tail"] := fn_mk X G a12 l12 c12 k12 fun _ _ _ _ _ _ us hl => match us, hl with | [_], _ => rfl
  have F13 : Fn K mg "read_day" s_read_day ["year", "month", "day"] := fn_mk X G a13 l13 c13 k13 fun _ _ _ _ _ _ us hl => match us, hl with | [_, _, _], _ => rfl
  have F14 : Fn K mg "read_moment" s_read_moment ["text"] := fn_mk X G a14 l14 c14 k14 fun _ _ _ _ _ _ us hl => match us, hl with | [_], _ => rfl
  have F15 : Fn K mg "_law_cell_at" s__law_cell_at ["_law_script", "_law_k"] := fn_mk X G a15 l15 c15 k15 fun _ _ _ _ _ _ us hl => match us, hl with | [_, _], _ => rfl
  have F16 : Fn K mg "_law_whole" s__law_whole ["_law_found"] := fn_mk X G a16 l16 c16 k16 fun _ _ _ _ _ _ us hl => match us, hl with | [_], _ => rfl
  have F17 : Fn K mg "_law_long" s__law_long ["_law_year"] := fn_mk X G a17 l17 c17 k17 fun _ _ _ _ _ _ us hl => match us, hl with | [_], _ => rfl
  have F18 : Fn K mg "_law_last" s__law_last ["_law_year", "_law_month"] := fn_mk X G a18 l18 c18 k18 fun _ _ _ _ _ _ us hl => match us, hl with | [_, _], _ => rfl
  have F19 : Fn K mg "_law_two" s__law_two ["_law_number"] := fn_mk X G a19 l19 c19 k19 fun _ _ _ _ _ _ us hl => match us, hl with | [_], _ => rfl
  have F20 : Fn K mg "_law_parts" s__law_parts ["_law_one", "_law_other"] := fn_mk X G a20 l20 c20 k20 fun _ _ _ _ _ _ us hl => match us, hl with | [_, _], _ => rfl
  have F21 : Fn K mg "_law_bad_number" s__law_bad_number ["_law_cell", "_law_out"] := fn_mk X G a21 l21 c21 k21 fun _ _ _ _ _ _ us hl => match us, hl with | [_, _], _ => rfl
  have F22 : Fn K mg "_law_bad" s__law_bad ["_law_parts_here", "_law_last_here", "_law_at", "_law_cell"] := fn_mk X G a22 l22 c22 k22 fun _ _ _ _ _ _ us hl => match us, hl with | [_, _, _, _], _ => rfl
  have F23 : Fn K mg "_law_spoilt" s__law_spoilt ["_law_parts_here", "_law_last_here", "_law_cell"] := fn_mk X G a23 l23 c23 k23 fun _ _ _ _ _ _ us hl => match us, hl with | [_, _, _], _ => rfl
  have F24 : Fn K mg "_law_refused" s__law_refused ["_law_thing"] := fn_mk X G a24 l24 c24 k24 fun _ _ _ _ _ _ us hl => match us, hl with | [_], _ => rfl
  have F25 := fun_mk (st := s_law) l25 c25 k25
  have m_NoDay : mg "NoDay" = some (.ref C_NoDay) := PySem.W.mg_of X G aX_NoDay
  have m_NoMoment : mg "NoMoment" = some (.ref C_NoMoment) := PySem.W.mg_of X G aX_NoMoment
  have m_FieldError : mg "FieldError" = some (.ref C_FieldError) := PySem.W.mg_of X G aX_FieldError
  have m_NoField : mg "NoField" = some (.ref C_NoField) := PySem.W.mg_of X G aX_NoField
  have m_NoRow : mg "NoRow" = some (.ref C_NoRow) := PySem.W.mg_of X G aX_NoRow
  have m_NoBook : mg "NoBook" = some (.ref C_NoBook) := PySem.W.mg_of X G aX_NoBook
  have m_NoClock : mg "NoClock" = some (.ref C_NoClock) := PySem.W.mg_of X G aX_NoClock
  have m_NoName : mg "NoName" = some (.ref C_NoName) := PySem.W.mg_of X G aX_NoName
  have m_NoWord : mg "NoWord" = some (.ref C_NoWord) := PySem.W.mg_of X G aX_NoWord
  have xc_NoDay : Xc K mg "NoDay" C_NoDay := ⟨m_NoDay, aX_NoDay, qx_NoDay⟩
  have xc_NoMoment : Xc K mg "NoMoment" C_NoMoment := ⟨m_NoMoment, aX_NoMoment, qx_NoMoment⟩
  have xb_NoDay : PySem.W.subIn K (.ref C_NoDay) (.type "BaseException") = some true := rb_NoDay
  have xk_NoDay_NoDay : PySem.W.kitCls K (.ref C_NoDay) (.ref C_NoDay) = some true := rk_NoDay_NoDay
  have xb_FieldError : PySem.W.subIn K (.ref C_FieldError) (.type "BaseException") = some true := rb_FieldError
  have xf_NoMoment : XF K C_NoMoment := ⟨f0_NoMoment, f1_NoMoment, f2_NoMoment, f3_NoMoment, f4_NoMoment, f5_NoMoment, f6_NoMoment, f7_NoMoment⟩
  have xk_NoMoment_FieldError : PySem.W.kitCls K (.ref C_NoMoment) (.ref C_FieldError) = some true := rk_NoMoment_FieldError
  have xi_NoMoment : PySem.W.kitOne K (.ref C_NoMoment) (.ref C_NoMoment) = some true := ri_NoMoment
  have xv_NoMoment : PySem.W.kitOne K (.ref C_NoMoment) (.type "ValueError") = some true := rv_NoMoment
  have xt_NoMoment : PySem.W.kitAny K (.ref C_NoMoment) ([C_NoDay, C_NoField, C_NoRow, C_NoBook, C_NoClock, C_NoName, C_NoWord].map Value.ref) = some false := rt_NoMoment
  have z_int : mg "int" = none := PySem.W.mg_none_of X G y_int
  have z_isinstance : mg "isinstance" = none := PySem.W.mg_none_of X G y_isinstance
  have z_bool : mg "bool" = none := PySem.W.mg_none_of X G y_bool
  have z_range : mg "range" = none := PySem.W.mg_none_of X G y_range
  have z_sum : mg "sum" = none := PySem.W.mg_none_of X G y_sum
  have z_all : mg "all" = none := PySem.W.mg_none_of X G y_all
  have z_len : mg "len" = none := PySem.W.mg_none_of X G y_len
  have z_str : mg "str" = none := PySem.W.mg_none_of X G y_str
  have z_max : mg "max" = none := PySem.W.mg_none_of X G y_max
  have z_list : mg "list" = none := PySem.W.mg_none_of X G y_list
  have z_ValueError : mg "ValueError" = none := PySem.W.mg_none_of X G y_ValueError
  have z_min : mg "min" = none := PySem.W.mg_none_of X G y_min
  have m_MONTH_LASTS := PySem.W.mg_of X G g_MONTH_LASTS
  have q_MONTH_LASTS : ∀ H, SqT K H a_MONTH_LASTS (([31, 28, 31, 30, 31, 30, 31, 31, 30, 31, 30, 31] : List Int).map V.int) := fun H => .inr ⟨_, _, _, l_MONTH_LASTS, rfl, rfl, (by show 12 ≤ sizeLine; decide), (.cons ⟨_, rfl⟩ (.cons ⟨_, rfl⟩ (.cons ⟨_, rfl⟩ (.cons ⟨_, rfl⟩ (.cons ⟨_, rfl⟩ (.cons ⟨_, rfl⟩ (.cons ⟨_, rfl⟩ (.cons ⟨_, rfl⟩ (.cons ⟨_, rfl⟩ (.cons ⟨_, rfl⟩ (.cons ⟨_, rfl⟩ (.cons ⟨_, rfl⟩ .nil))))))))))))⟩
  have m_FIGURES := PySem.W.mg_of X G g_FIGURES
  rw [show (PySem.Str.ofString "0123456789" : PySem.Str) = Tx [48, 49, 50, 51, 52, 53, 54, 55, 56, 57] by decide +kernel] at m_FIGURES
  have m_DAY_MINUTES := PySem.W.mg_of X G g_DAY_MINUTES
  have m_HOUR_MINUTES := PySem.W.mg_of X G g_HOUR_MINUTES
  have m_MOST_YEAR_FIGURES := PySem.W.mg_of X G g_MOST_YEAR_FIGURES
  have m_TAIL_SIGNS := PySem.W.mg_of X G g_TAIL_SIGNS
  refine ⟨PySem.W.fnOf "law" "law" (defArgs s_law) (defBody s_law) (defScope s_law) .none kV25 dc25 pm25 an25 cd25 ct25, fun s v => .of_eq rfl, fun base _ _ => ?_⟩
  have D_is_whole := ok_is_whole (P := l.prog) (w := w) (base := base) F1 z_int z_isinstance z_bool
  have D_is_long := ok_is_long (P := l.prog) (w := w) (base := base) F2 
  have D_multiples_before := ok_multiples_before (P := l.prog) (w := w) (base := base) F3 
  have D_days_before := ok_days_before (P := l.prog) (w := w) (base := base) F4 D_multiples_before
  have D_last_of := ok_last_of (P := l.prog) (w := w) (base := base) F5 D_is_long m_MONTH_LASTS q_MONTH_LASTS
  have D_is_date := ok_is_date (P := l.prog) (w := w) (base := base) F6 D_is_whole D_last_of
  have D_day_of := ok_day_of (P := l.prog) (w := w) (base := base) F7 m_NoDay xc_NoDay D_is_date D_last_of D_days_before z_range z_sum
  have D_all_figures := ok_all_figures (P := l.prog) (w := w) (base := base) F8 m_FIGURES z_all
  have D_is_written := ok_is_written (P := l.prog) (w := w) (base := base) F9 D_all_figures
  have D_moment_of := ok_moment_of (P := l.prog) (w := w) (base := base) F10 m_NoMoment xc_NoMoment D_is_whole m_DAY_MINUTES m_HOUR_MINUTES
  have D_is_shown_year := ok_is_shown_year (P := l.prog) (w := w) (base := base) F11 D_is_written m_MOST_YEAR_FIGURES z_len
  have D_is_shown_tail := ok_is_shown_tail (P := l.prog) (w := w) (base := base) F12 D_all_figures m_TAIL_SIGNS z_len
  have D_read_day := ok_read_day (P := l.prog) (w := w) (base := base) F13 m_NoDay m_NoMoment xb_NoDay xc_NoMoment xk_NoDay_NoDay D_day_of z_int
  have D_read_moment := ok_read_moment (P := l.prog) (w := w) (base := base) F14 m_NoMoment xc_NoMoment D_is_shown_tail D_is_shown_year D_read_day D_moment_of m_TAIL_SIGNS z_str z_isinstance z_int
  have D__law_cell_at := ok__law_cell_at (P := l.prog) (w := w) (base := base) F15 z_len
  have D__law_whole := ok__law_whole (P := l.prog) (w := w) (base := base) F16 z_int z_isinstance z_bool
  have D__law_long := ok__law_long (P := l.prog) (w := w) (base := base) F17 
  have D__law_last := ok__law_last (P := l.prog) (w := w) (base := base) F18 D__law_long z_int
  have D__law_two := ok__law_two (P := l.prog) (w := w) (base := base) F19 z_str
  have D__law_parts := ok__law_parts (P := l.prog) (w := w) (base := base) F20 D__law_last D__law_two z_str
  have D__law_bad_number := ok__law_bad_number (P := l.prog) (w := w) (base := base) F21 
  have D__law_bad := ok__law_bad (P := l.prog) (w := w) (base := base) F22 D__law_bad_number z_max z_str
  have D__law_spoilt := ok__law_spoilt (P := l.prog) (w := w) (base := base) F23 D__law_bad z_list
  have D__law_refused := ok__law_refused (P := l.prog) (w := w) (base := base) F24 m_FieldError m_NoMoment m_NoDay m_NoField m_NoRow m_NoBook m_NoClock m_NoName m_NoWord xb_FieldError xf_NoMoment xk_NoMoment_FieldError xi_NoMoment xv_NoMoment xt_NoMoment D_read_moment z_isinstance z_ValueError
  exact ok_law F25 m_NoMoment D__law_cell_at D__law_parts D_read_moment D__law_whole D__law_spoilt D__law_refused z_range z_len z_min z_max
theorem walk {l : PySem.W.OpenLaw} {q : Program} {loose : List Str} {XP : (Str → Option Value) → Heap → Prop} {YP : World → Heap → Prop} {d : DefRec} {K : Params → PySem.W.Frag} (hn : l.most = some 63) (hdf : d.params.defaults = [])
    (hY : ∀ (w : World) (h : Heap), YP w h → (K w.params).In h)
    (F : ∀ (w : World) (mg : Str → Option Value) (fa : Addr) (h : Heap), (K w.params).In h → h.Ns mainGlobals mg → mg d.name = some (.ref fa) →
      ∃ fd : FuncData, (∀ (s : Shared) (u : Value), BindsTo s fd ⟨[u], []⟩ [("_law_script", u)]) ∧ ∀ base : Heap, (K w.params).In base → base.Ns mainGlobals mg → FnOk l.prog w (K w.params) mg base CX0 8 fa fd ["_law_script"] (sp_law (K w.params))) :
    PySem.W.WalkO q loose XP YP l.row.toRowW d [] (fun f vs => PySem.call f vs) :=
  L2.walk_of (n := 63) (k := 8) (x := "_law_script") (CX := fun _ => CX0) (sp := fun w => sp_law (K w.params)) hn (by decide) hdf ⟨rfl, by decide, by decide⟩ hY F (fun _ _ a ns hl _ hS => ⟨a, ns, rfl, hS, hl, fun _ => rfl⟩) fun _ _ _ _ _ z => z
end K18
open PySem PySem.W PyProof.Rows
set_option maxRecDepth 100000 in
set_option maxHeartbeats 0 in
theorem PySem.Challenge.cw_fivefields_k18_moments_refused_holds : PySem.Challenge.rw_fivefields_k18_moments_refused.Holds := by
  w_on; o_law; k_head; (case hw => w_witness2)
  k_fill
  refine K18.walk (l := PySem.Challenge.rw_fivefields_k18_moments_refused) rfl rfl (fun w h Y => PySem.W.kIn_of Y) ?F
  case F =>
    intro w mg fa h KX G hmg
    refine' K18.all_mk KX G hmg ?aX_NoDay ?aX_NoMoment ?aX_FieldError ?aX_NoField ?aX_NoRow ?aX_NoBook ?aX_NoClock ?aX_NoName ?aX_NoWord ?qx_NoDay ?qx_NoMoment ?rb_NoDay ?rk_NoDay_NoDay ?rb_FieldError ?f0_NoMoment ?f1_NoMoment ?f2_NoMoment ?f3_NoMoment ?f4_NoMoment ?f5_NoMoment ?f6_NoMoment ?f7_NoMoment ?rk_NoMoment_FieldError ?ri_NoMoment ?rv_NoMoment ?rt_NoMoment ?a1 ?l1 ?c1 ?k1 ?a2 ?l2 ?c2 ?k2 ?a3 ?l3 ?c3 ?k3 ?a4 ?l4 ?c4 ?k4 ?a5 ?l5 ?c5 ?k5 ?a6 ?l6 ?c6 ?k6 ?a7 ?l7 ?c7 ?k7 ?a8 ?l8 ?c8 ?k8 ?a9 ?l9 ?c9 ?k9 ?a10 ?l10 ?c10 ?k10 ?a11 ?l11 ?c11 ?k11 ?a12 ?l12 ?c12 ?k12 ?a13 ?l13 ?c13 ?k13 ?a14 ?l14 ?c14 ?k14 ?a15 ?l15 ?c15 ?k15 ?a16 ?l16 ?c16 ?k16 ?a17 ?l17 ?c17 ?k17 ?a18 ?l18 ?c18 ?k18 ?a19 ?l19 ?c19 ?k19 ?a20 ?l20 ?c20 ?k20 ?a21 ?l21 ?c21 ?k21 ?a22 ?l22 ?c22 ?k22 ?a23 ?l23 ?c23 ?k23 ?a24 ?l24 ?c24 ?k24 ?a25 ?l25 ?c25 ?k25 ?g_MONTH_LASTS ?l_MONTH_LASTS ?g_FIGURES ?g_DAY_MINUTES ?g_HOUR_MINUTES ?g_MOST_YEAR_FIGURES ?g_TAIL_SIGNS ?y_int ?y_isinstance ?y_bool ?y_range ?y_sum ?y_all ?y_len ?y_str ?y_max ?y_list ?y_ValueError ?y_min
    (case aX_NoDay => k_is)
    (case aX_NoMoment => k_is)
    (case aX_FieldError => k_is)
    (case aX_NoField => k_is)
    (case aX_NoRow => k_is)
    (case aX_NoBook => k_is)
    (case aX_NoClock => k_is)
    (case aX_NoName => k_is)
    (case aX_NoWord => k_is)
    (case qx_NoDay => kernel_rfl)
    (case qx_NoMoment => kernel_rfl)
    (case rb_NoDay => k_is)
    (case rk_NoDay_NoDay => kernel_rfl)
    (case rb_FieldError => k_is)
    (case f0_NoMoment => kernel_rfl)
    (case f1_NoMoment => k_is)
    (case f2_NoMoment => k_is)
    (case f3_NoMoment => k_is)
    (case f4_NoMoment => k_is)
    (case f5_NoMoment => k_is)
    (case f6_NoMoment => k_is)
    (case f7_NoMoment => k_is)
    (case rk_NoMoment_FieldError => kernel_rfl)
    (case ri_NoMoment => kernel_rfl)
    (case rv_NoMoment => kernel_rfl)
    (case rt_NoMoment => kernel_rfl)
    (case a1 => k_is)
    (case l1 => k_is)
    (case c1 => k_is)
    (case k1 => k_is)
    (case a2 => k_is)
    (case l2 => k_is)
    (case c2 => k_is)
    (case k2 => k_is)
    (case a3 => k_is)
    (case l3 => k_is)
    (case c3 => k_is)
    (case k3 => k_is)
    (case a4 => k_is)
    (case l4 => k_is)
    (case c4 => k_is)
    (case k4 => k_is)
    (case a5 => k_is)
    (case l5 => k_is)
    (case c5 => k_is)
    (case k5 => k_is)
    (case a6 => k_is)
    (case l6 => k_is)
    (case c6 => k_is)
    (case k6 => k_is)
    (case a7 => k_is)
    (case l7 => k_is)
    (case c7 => k_is)
    (case k7 => k_is)
    (case a8 => k_is)
    (case l8 => k_is)
    (case c8 => k_is)
    (case k8 => k_is)
    (case a9 => k_is)
    (case l9 => k_is)
    (case c9 => k_is)
    (case k9 => k_is)
    (case a10 => k_is)
    (case l10 => k_is)
    (case c10 => k_is)
    (case k10 => k_is)
    (case a11 => k_is)
    (case l11 => k_is)
    (case c11 => k_is)
    (case k11 => k_is)
    (case a12 => k_is)
    (case l12 => k_is)
    (case c12 => k_is)
    (case k12 => k_is)
    (case a13 => k_is)
    (case l13 => k_is)
    (case c13 => k_is)
    (case k13 => k_is)
    (case a14 => k_is)
    (case l14 => k_is)
    (case c14 => k_is)
    (case k14 => k_is)
    (case a15 => k_is)
    (case l15 => k_is)
    (case c15 => k_is)
    (case k15 => k_is)
    (case a16 => k_is)
    (case l16 => k_is)
    (case c16 => k_is)
    (case k16 => k_is)
    (case a17 => k_is)
    (case l17 => k_is)
    (case c17 => k_is)
    (case k17 => k_is)
    (case a18 => k_is)
    (case l18 => k_is)
    (case c18 => k_is)
    (case k18 => k_is)
    (case a19 => k_is)
    (case l19 => k_is)
    (case c19 => k_is)
    (case k19 => k_is)
    (case a20 => k_is)
    (case l20 => k_is)
    (case c20 => k_is)
    (case k20 => k_is)
    (case a21 => k_is)
    (case l21 => k_is)
    (case c21 => k_is)
    (case k21 => k_is)
    (case a22 => k_is)
    (case l22 => k_is)
    (case c22 => k_is)
    (case k22 => k_is)
    (case a23 => k_is)
    (case l23 => k_is)
    (case c23 => k_is)
    (case k23 => k_is)
    (case a24 => k_is)
    (case l24 => k_is)
    (case c24 => k_is)
    (case k24 => k_is)
    (case a25 => k_is)
    (case l25 => k_is)
    (case c25 => k_is)
    (case k25 => k_is)
    (case g_MONTH_LASTS => k_is)
    (case l_MONTH_LASTS => k_is)
    (case g_FIGURES => k_is)
    (case g_DAY_MINUTES => k_is)
    (case g_HOUR_MINUTES => k_is)
    (case g_MOST_YEAR_FIGURES => k_is)
    (case g_TAIL_SIGNS => k_is)
    (case y_int => k_is)
    (case y_isinstance => k_is)
    (case y_bool => k_is)
    (case y_range => k_is)
    (case y_sum => k_is)
    (case y_all => k_is)
    (case y_len => k_is)
    (case y_str => k_is)
    (case y_max => k_is)
    (case y_list => k_is)
    (case y_ValueError => k_is)
    (case y_min => k_is)


