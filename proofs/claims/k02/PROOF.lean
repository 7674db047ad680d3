import PyProof.Rows.All
import Wide.All
import OpenK.AllK
import Wide.FinOn
import Lean
import PyProof.EqAt
import PyProof.EqKinds
import PyProof.TupleCall
import PySem.Challenge.RW_lanescribe_k02_kinds_alike_and_shown
-- CHANGE: your row's module here, as the last of these rows
set_option Elab.async false
set_option linter.all false
set_option maxRecDepth 100000
/-! THE HAND LAYER, for ints, bools, texts, own classes, LISTS and tuples (index, slices, in, append, pop ..), calls, loops. Paste it whole ahead of your own text; what your proof does not reach may be deleted. -/
namespace L2
open PySem PySem.Spec PyProof.Rows

/-- a key: an int or a str -/
abbrev Key := Sum Int Str
def keyIs : Key → Value → Bool
  | .inl k, v => Value.isInt k v
  | .inr x, v => Value.isStrOf x v
def keyH (w : World) : Key → Int
  | .inl k => hashInt k
  | .inr x => hashStr w x
theorem keyIs_shape : ∀ {k : Key} {v : Value}, keyIs k v = true → (∃ i t, k = Sum.inl i ∧ v = Value.int i t) ∨ (∃ x t, k = Sum.inr x ∧ v = Value.str x t)
  | .inl i, v, h => by
    obtain ⟨t, e⟩ := Value.isInt_shape (k := i) (v := v) h
    exact .inl ⟨i, t, rfl, e⟩
  | .inr x, v, h => by
    obtain ⟨t, e⟩ := Value.isStrOf_shape (x := x) (v := v) h
    exact .inr ⟨x, t, rfl, e⟩
theorem keyIs_int (i : Int) (t : Tok) : keyIs (.inl i) (.int i t) = true := by simp [keyIs, Value.isInt]
theorem keyIs_str (x : Str) (t : Tok) : keyIs (.inr x) (.str x t) = true := by simp [keyIs, Value.isStrOf]
theorem key_ll (a b : Int) : decide ((Sum.inl a : Key) = Sum.inl b) = (a == b) := by
  by_cases e : a = b
  · subst e; simp
  · have h : ¬ (Sum.inl a : Key) = Sum.inl b := fun q => e (Sum.inl.inj q)
    rw [decide_eq_false h]
    exact (beq_eq_false_iff_ne.mpr e).symm
theorem key_rr (a b : Str) : decide ((Sum.inr a : Key) = Sum.inr b) = decide (a = b) := by
  by_cases e : a = b
  · subst e; simp
  · have h : ¬ (Sum.inr a : Key) = Sum.inr b := fun q => e (Sum.inr.inj q)
    rw [decide_eq_false h, decide_eq_false e]
theorem key_lr (a : Int) (b : Str) : decide ((Sum.inl a : Key) = Sum.inr b) = false := decide_eq_false (fun q => nomatch q)
theorem key_rl (a : Str) (b : Int) : decide ((Sum.inr a : Key) = Sum.inl b) = false := decide_eq_false (fun q => nomatch q)

def mixKind (prog : Program) (w : World) : PySem.KeyKind prog w Key where
  is := keyIs
  hash := keyH w
  inj := fun v a b ha hb => by
    rcases keyIs_shape ha with ⟨i, t, rfl, rfl⟩ | ⟨x, t, rfl, rfl⟩
    · rcases keyIs_shape hb with ⟨j, u, rfl, e⟩ | ⟨y, u, rfl, e⟩
      · injection e with e1 _; rw [e1]
      · exact nomatch e
    · rcases keyIs_shape hb with ⟨j, u, rfl, e⟩ | ⟨y, u, rfl, e⟩
      · exact nomatch e
      · injection e with e1 _; rw [e1]
  byValue := fun k v h => by
    rcases keyIs_shape h with ⟨i, t, rfl, rfl⟩ | ⟨x, t, rfl, rfl⟩ <;> rfl
  pyHash := fun hv h => by
    rcases keyIs_shape hv with ⟨i, t, rfl, rfl⟩ | ⟨x, t, rfl, rfl⟩
    · exact wpAny_pyHash_int h
    · exact wpAny_pyHash_str h
  eqBool := fun hu hv h => by
    rcases keyIs_shape hu with ⟨i, t, rfl, rfl⟩ | ⟨x, t, rfl, rfl⟩
    · rcases keyIs_shape hv with ⟨j, u, rfl, rfl⟩ | ⟨y, u, rfl, rfl⟩
      · rw [key_ll] at h; exact wpAny_eqBool_int h
      · rw [key_lr] at h; exact SeqAt.EqAt.int_str i t y u _ _ _ _ h
    · rcases keyIs_shape hv with ⟨j, u, rfl, rfl⟩ | ⟨y, u, rfl, rfl⟩
      · rw [key_rl] at h; exact SeqAt.EqAt.str_int x t j u _ _ _ _ h
      · rw [key_rr] at h; exact wpAny_eqBool_str h
  «strs» := fun k x t v h => by
    rcases keyIs_shape h with ⟨i, u, rfl, e⟩ | ⟨y, u, rfl, e⟩
    · exact nomatch e
    · injection e with e1 _
      subst e1
      cases v <;> rfl

theorem mixKind_int (prog : Program) (w : World) (i : Int) (t : Tok) : (mixKind prog w).is (.inl i) (.int i t) = true := keyIs_int i t
theorem mixKind_str (prog : Program) (w : World) (x : Str) (t : Tok) : (mixKind prog w).is (.inr x) (.str x t) = true := keyIs_str x t
end L2

namespace L2
open PySem PySem.Spec PyProof.Rows

/-- a value, without the heap -/
inductive V where
  | non | bl (b : Bool) | int (i : Int) | str (x : Str) | byt (b : Array UInt8) | flt (b : UInt64) | ref (a : Addr) | ty (n : String)
  deriving DecidableEq

def RelV : V → Value → Prop
  | .non, u => u = Value.none
  | .bl b, u => u = Value.bool b
  | .int i, u => ∃ t, u = Value.int i t
  | .str x, u => ∃ t, u = Value.str x t
  | .byt b, u => ∃ t, u = Value.bytes b t
  | .flt b, u => ∃ t, u = Value.float b t
  | .ref a, u => u = Value.ref a
  | .ty n, u => u = Value.type n

abbrev Vals : List V → List Value → Prop := Paired RelV
theorem Vals.length {xs : List V} {us : List Value} (r : Vals xs us) : xs.length = us.length := Paired.length r
theorem Vals.get : ∀ {xs : List V} {us : List Value} {i : Nat} {x : V}, Vals xs us → xs[i]? = some x → ∃ u, us[i]? = some u ∧ RelV x u
  | _, _, _, _, .nil, e => by simp at e
  | _, _, 0, _, .cons r _, e => by simp at e; subst e; exact ⟨_, rfl, r⟩
  | _, _, i + 1, x, .cons _ t, e => by
    obtain ⟨u, h1, h2⟩ := Vals.get (i := i) (x := x) t (by simpa using e)
    exact ⟨u, by simpa using h1, h2⟩
theorem Vals.append : ∀ {xs ys : List V} {us ws : List Value}, Vals xs us → Vals ys ws → Vals (xs ++ ys) (us ++ ws)
  | _, _, _, _, .nil, s => s
  | _, _, _, _, .cons r t, s => .cons r (Vals.append t s)
theorem Vals.take : ∀ {xs : List V} {us : List Value} (n : Nat), Vals xs us → Vals (xs.take n) (us.take n)
  | _, _, 0, _ => .nil
  | _, _, _ + 1, .nil => .nil
  | _, _, n + 1, .cons r t => .cons r (Vals.take n t)
theorem Vals.drop : ∀ {xs : List V} {us : List Value} (n : Nat), Vals xs us → Vals (xs.drop n) (us.drop n)
  | _, _, 0, r => r
  | _, _, _ + 1, .nil => .nil
  | _, _, n + 1, .cons _ t => Vals.drop n t
def RelO : Option V → Option Value → Prop
  | some v, some u => RelV v u
  | none, none => True
  | _, _ => False
def KV {κ : Type} : List (κ × V) → List (κ × Value) → Prop := Paired fun (p : κ × V) (q : κ × Value) => p.1 = q.1 ∧ RelV p.2 q.2

/-- a key of a dict (00_mix): an int or a text -/
def kV : Key → V
  | .inl i => .int i
  | .inr x => .str x

/-- what stands at a tracked address -/
inductive HO where
  /-- a list -/
  | lst (xs : List V)
  /-- a tuple (never changes) -/
  | tup (xs : List V)
  /-- a dict whose keys are ints and texts; one whose keys are tuples of ints and texts (the empty one is both) -/
  | dK (kvs : List (Key × V)) | dT (kvs : List (List Key × V))
  /-- a set of ints: its members, its size -/
  | set (S : Int → Bool) (n : Nat)
  /-- an instance of the class at C, its dict at dx, its attributes -/
  | ins (C dx : Addr) (fs : List (Str × V))
  /-- the dict of the instance at x -/
  | own (x : Addr)
  /-- the dict of an exception -/
  | xd (fs : List (Str × V))
  /-- a bound method, f of x -/
  | met (f x : Addr)
  /-- a range object lo, lo + 1, .. below hi -/
  | rng (lo hi : Int)
  /-- a thing that is known to the object (the script; a dict while a loop walks it): read, never written while it is so -/
  | frz (o : Obj) (u : HO)
  /-- a code object's table -/
  | tbl (ps : Array Value)
  /-- any other thing, by what is true of its one object (a def of one's own: SetO a S n := HO.ext fun h => ..) -/
  | ext (φ : Heap → Prop)

abbrev Hp := Addr → Option HO
def upd (H : Hp) (a : Addr) (o : HO) : Hp := fun b => if b = a then some o else H b
theorem upd_same {H : Hp} {a : Addr} {o : HO} : upd H a o a = some o := by unfold upd; rw [if_pos rfl]
theorem upd_ne {H : Hp} {a b : Addr} {o : HO} (h : b ≠ a) : upd H a o b = H b := by unfold upd; rw [if_neg h]
/-- two objects of different content stand apart -/
theorem ne_of {H : Hp} {a b : Addr} {o u : HO} (h : H a = some o) (h' : H b = some u) (d : o ≠ u) : a ≠ b := by
  intro e; subst e; rw [h] at h'; exact d (Option.some.inj h')
theorem ne_of_none {H : Hp} {a b : Addr} {o : HO} (h : H a = some o) (h' : H b = none) : a ≠ b := by
  intro e; subst e; rw [h] at h'; cases h'

section
variable (P : Program) (w : World)
def ObjOk (H : Hp) (h : Heap) (a : Addr) : HO → Prop
  | .lst xs => xs.length ≤ sizeLine ∧ ∃ (its : List Value) (n : Nat), Vals xs its ∧ h.get? a = some { cls := .type "list", data := .seq its.toArray n }
  | .tup xs => xs.length ≤ sizeLine ∧ ∃ its : List Value, Vals xs its ∧ IsTup h a its.toArray
  | .dK kvs => kvs.length ≤ sizeLine ∧ (a == sysModules) = false ∧ ∃ vs, KV kvs vs ∧ h.DictOf (mixKind P w) a vs
  | .dT kvs => kvs.length ≤ sizeLine ∧ (a == sysModules) = false ∧ ∃ xs : List (List Key × Addr × Value),
      Paired (fun (p : List Key × V) (q : List Key × Addr × Value) => p.1 = q.1 ∧ H q.2.1 = some (.tup (p.1.map kV)) ∧ RelV p.2 q.2.2) kvs xs ∧
      ∃ o es ep, h.get? a = some o ∧ o.ExactDict ∧ o.data = .dict es ep ∧ es.toList = xs.map (entryOfKey (tupleKind (mixKind P w))) ∧ (xs.map (·.1)).Nodup
  | .set S n => h.SetOf (intKind P w) a S n
  | .ins C dx fs => H dx = some (.own a) ∧ fs.length ≤ 1000 ∧ dx ≠ a ∧ h.get? a = some (PySem.W.instObj C dx) ∧
      ∃ mA, h.Ns1 dx mA ∧ (∀ f, RelO (fs.lookup f) (mA f)) ∧ PySem.Within mA (fs.map (·.1))
  | .own _ => ∃ o, h.get? a = some o
  | .xd fs => ∃ mA, h.Ns1 a mA ∧ ∀ f, RelO (fs.lookup f) (mA f)
  | .rng lo hi => ∃ t u v, h.get? a = some { cls := .type "range", data := .fields #[.int lo t, .int hi u, .int 1 v] }
  | .frz o u => h.get? a = some o ∧ ObjOk H h a u
  | .tbl ps => h.get? a = some { cls := .none, data := .fields ps }
  | .met f x => h.get? a = some (PySem.W.methodObj (.ref f) (.ref x))
  | .ext φ => φ h ∧ (∃ o, h.get? a = some o) ∧ ∀ h1 h2 : Heap, φ h1 → (∀ o, h1.get? a = some o → h2.get? a = some o) → φ h2
/-- the abstract heap is held -/
def HOk (H : Hp) (h : Heap) : Prop := ∀ a o, H a = some o → ObjOk P w H h a o
end

section
variable {P : Program} {w : World} {H H' : Hp} {h h' : Heap} {a : Addr} {o : HO}
theorem ObjOk.lt (x : ObjOk P w H h a o) : a < h.objs.size := by
  cases o with
  | lst xs => obtain ⟨_, _, _, _, e⟩ := x; exact Heap.lt_size e
  | tup xs => obtain ⟨_, _, _, p⟩ := x; exact p.lt
  | dK kvs => obtain ⟨_, _, _, _, o, _, _, e, _⟩ := x; exact Heap.lt_size e
  | dT kvs => obtain ⟨_, _, _, _, o, _, _, e, _⟩ := x; exact Heap.lt_size e
  | set S n => obtain ⟨o, _, _, _, e, _⟩ := x; exact Heap.lt_size e
  | ins C dx fs => obtain ⟨_, _, _, e, _⟩ := x; exact Heap.lt_size e
  | own y => obtain ⟨_, e⟩ := x; exact Heap.lt_size e
  | xd fs => obtain ⟨_, ⟨_, _, _, e, _⟩, _⟩ := x; exact Heap.lt_size e
  | rng lo hi => obtain ⟨_, _, _, e⟩ := x; exact Heap.lt_size e
  | frz ob u => obtain ⟨e, _⟩ := x; exact Heap.lt_size e
  | tbl ps => exact Heap.lt_size (show h.get? a = some _ from x)
  | met f y => exact Heap.lt_size (show h.get? a = some _ from x)
  | ext φ => obtain ⟨_, ⟨_, e⟩, _⟩ := x; exact Heap.lt_size e
theorem Paired.mapP {α β : Type} {F G : α → β → Prop} : ∀ {l₁ : List α} {l₂ : List β}, Paired F l₁ l₂ → (∀ a b, F a b → G a b) → Paired G l₁ l₂
  | _, _, .nil, _ => .nil
  | _, _, .cons r t, f => .cons (f _ _ r) (Paired.mapP t f)
/-- what an object's description leans on: its own object, its own dict, the tuples -/
theorem ObjOk.stay (x : ObjOk P w H h a o) (k : ∀ b u, (b = a ∨ H b = some (.own a)) → h.get? b = some u → h'.get? b = some u)
    (ho : ∀ b, H b = some (.own a) → H' b = some (.own a)) (ht : ∀ b xs, H b = some (.tup xs) → H' b = some (.tup xs)) : ObjOk P w H' h' a o := by
  induction o with
  | lst xs => obtain ⟨z, its, n, r, e⟩ := x; exact ⟨z, its, n, r, k _ _ (.inl rfl) e⟩
  | tup xs => obtain ⟨z, its, r, ob, e, c⟩ := x; exact ⟨z, its, r, ob, k _ _ (.inl rfl) e, c⟩
  | dK kvs => obtain ⟨z, y, vs, r, ob, es, ep, e, c⟩ := x; exact ⟨z, y, vs, r, ob, es, ep, k _ _ (.inl rfl) e, c⟩
  | dT kvs =>
    obtain ⟨z, y, xs, r, ob, es, ep, e, c⟩ := x
    exact ⟨z, y, xs, Paired.mapP r fun p q z => ⟨z.1, ht _ _ z.2.1, z.2.2⟩, ob, es, ep, k _ _ (.inl rfl) e, c⟩
  | set S n => obtain ⟨ob, es, ep, t, e, c⟩ := x; exact ⟨ob, es, ep, t, k _ _ (.inl rfl) e, c⟩
  | ins C dx fs =>
    obtain ⟨d, z, ne, e, mA, ⟨od, es, ep, e2, c⟩, r⟩ := x
    exact ⟨ho _ d, z, ne, k _ _ (.inl rfl) e, mA, ⟨od, es, ep, k _ _ (.inr d) e2, c⟩, r⟩
  | own y => obtain ⟨ob, e⟩ := x; exact ⟨ob, k _ _ (.inl rfl) e⟩
  | xd fs => obtain ⟨mA, ⟨od, es, ep, e, c⟩, r⟩ := x; exact ⟨mA, ⟨od, es, ep, k _ _ (.inl rfl) e, c⟩, r⟩
  | rng lo hi => obtain ⟨t, u, v, e⟩ := x; exact ⟨t, u, v, k _ _ (.inl rfl) e⟩
  | frz ob u ih => obtain ⟨e, q⟩ := x; exact ⟨k _ _ (.inl rfl) e, ih q⟩
  | tbl ps =>
    have e : h.get? a = some { cls := .none, data := .fields ps } := x
    show h'.get? a = some { cls := .none, data := .fields ps }
    exact k a _ (.inl rfl) e
  | met f y =>
    have e : h.get? a = some (PySem.W.methodObj (.ref f) (.ref y)) := x
    show h'.get? a = some (PySem.W.methodObj (.ref f) (.ref y))
    exact k a _ (.inl rfl) e
  | ext φ => obtain ⟨p, ⟨o, e⟩, st⟩ := x; exact ⟨st _ _ p fun o q => k _ _ (.inl rfl) q, ⟨o, k _ _ (.inl rfl) e⟩, st⟩
theorem HOk.lt (x : HOk P w H h) (e : H a = some o) : a < h.objs.size := (x a o e).lt
theorem HOk.fresh (x : HOk P w H h) (e : h.objs.size ≤ a) : H a = none := by
  cases q : H a with
  | none => rfl
  | some u => exact absurd (Nat.lt_of_lt_of_le (x.lt q) e) (Nat.lt_irrefl _)
/-- every object of the heap is kept -/
theorem HOk.kept (x : HOk P w H h) (k : ∀ b u, h.get? b = some u → h'.get? b = some u) : HOk P w H h' := fun a o e =>
  (x a o e).stay (fun b u _ q => k b u q) (fun _ q => q) fun _ _ q => q
/-- a new object is laid and tracked -/
theorem HOk.laid (x : HOk P w H h) (k : ∀ b u, h.get? b = some u → h'.get? b = some u) (hp : h.objs.size ≤ a) (new : ObjOk P w (upd H a o) h' a o) : HOk P w (upd H a o) h' := fun b u e => by
  have hn := x.fresh hp
  by_cases hb : b = a
  · subst hb; rw [upd_same] at e; cases e; exact new
  · rw [upd_ne hb] at e
    exact (x b u e).stay (fun c v _ q => k c v q) (fun c q => by rw [upd_ne (ne_of_none q hn)]; exact q) fun c xs q => by rw [upd_ne (ne_of_none q hn)]; exact q
end

/-- what may be read as u: it is u, or a known u -/
def Rd (H : Hp) (a : Addr) (u : HO) : Prop := H a = some u ∨ ∃ o, H a = some (.frz o u)
theorem Rd.ok {P : Program} {w : World} {H : Hp} {h : Heap} {a : Addr} {u : HO} (r : Rd H a u) (x : HOk P w H h) : ObjOk P w H h a u := by
  rcases r with r | ⟨o, r⟩
  · exact x a u r
  · obtain ⟨_, q⟩ := x a _ r
    exact q
/-- what may be written -/
def Mut : Option HO → Prop
  | some (.lst _) => True
  | some (.dK _) => True
  | some (.dT _) => True
  | some (.set _ _) => True
  | some (.ins _ _ _) => True
  | some (.ext _) => True
  | _ => False
section
variable {P : Program} {w : World} {H : Hp} {h h' : Heap} {x e : Addr} {o' : HO}
/-- the object at e is changed: x itself, or the dict of the instance x -/
theorem HOk.write (ok : HOk P w H h) (mu : Mut (H x)) (he : e = x ∨ H e = some (.own x)) (k : ∀ b u, b ≠ e → h.get? b = some u → h'.get? b = some u) (heo : ∃ u, h'.get? e = some u)
    (new : ObjOk P w (upd H x o') h' x o') : HOk P w (upd H x o') h' := fun b u q => by
  have nown : ∀ c y, H c = some (.own y) → c ≠ x := fun c y r z => by subst z; rw [r] at mu; exact mu
  have ntup : ∀ c xs, H c = some (.tup xs) → c ≠ x := fun c xs r z => by subst z; rw [r] at mu; exact mu
  by_cases hb : b = x
  · subst hb; rw [upd_same] at q; cases q; exact new
  · rw [upd_ne hb] at q
    by_cases hbe : b = e
    · have q' : H b = some (.own x) := by
        rcases he with z | z
        · exact absurd (hbe.trans z) hb
        · rw [hbe]; exact z
      rw [q] at q'; cases q'
      obtain ⟨v, hv⟩ := heo
      exact ⟨v, by rw [hbe]; exact hv⟩
    · refine (ok b u q).stay (fun c v hc r => k c v ?_ r) (fun c r => by rw [upd_ne (nown c b r)]; exact r) fun c xs r => by rw [upd_ne (ntup c xs r)]; exact r
      rcases hc with rfl | hc
      · exact hbe
      · rintro rfl
        rcases he with z | z
        · exact nown c b hc z
        · rw [hc] at z; cases z; exact hb rfl
end

/-! ### kept unless tracked; of the frames at fs (the callers') the slots may change (an exception that passes writes there); of the records at ex (iterators) nothing is said -/
structure Un (fs ex : List Addr) (H H' : Hp) (h h' : Heap) : Prop where
  keep : ∀ b o, h.get? b = some o → H b = none → b ∉ fs → b ∉ ex → h'.get? b = some o
  slot : ∀ b o, h.get? b = some o → H b = none → b ∈ fs → b ∉ ex → ∃ sl, h'.get? b = some { o with slots := sl }
  free : ∀ b o, h.get? b = some o → H b = none → b ∉ ex → H' b = none
  there : ∀ b o, h.get? b = some o → b ∉ ex → ∃ o', h'.get? b = some o'
  tups : ∀ b xs, H b = some (.tup xs) → H' b = some (.tup xs)
  frzs : ∀ b o u, H b = some (.frz o u) → H' b = some (.frz o u)
  tbls : ∀ b ps, H b = some (.tbl ps) → ∃ more, H' b = some (.tbl (ps ++ more))
section
variable {fs fs' ex ex' : List Addr} {H H1 H2 : Hp} {h h1 h2 h' : Heap} {a x e : Addr} {o : HO}
theorem Un.any (u : Un fs ex H H1 h h1) {b : Addr} {ob : Obj} (q : h.get? b = some ob) (n : H b = none) (hx : b ∉ ex) : ∃ sl, h1.get? b = some { ob with slots := sl } := by
  by_cases hb : b ∈ fs
  · exact u.slot b ob q n hb hx
  · exact ⟨ob.slots, u.keep b ob q n hb hx⟩
theorem Un.kept (k : ∀ b u, h.get? b = some u → h'.get? b = some u) : Un fs ex H H h h' :=
  ⟨fun b ob q _ _ _ => k b ob q, fun b ob q _ _ _ => ⟨ob.slots, k b ob q⟩, fun _ _ _ n _ => n, fun b ob q _ => ⟨ob, k b ob q⟩, fun _ _ q => q, fun _ _ _ q => q, fun _ ps q => ⟨#[], by rw [q]; simp⟩⟩
theorem Un.refl : Un fs ex H H h h := Un.kept fun _ _ q => q
theorem Un.laid (k : ∀ b u, h.get? b = some u → h'.get? b = some u) (hp : h.objs.size ≤ a) (hn : H a = none) : Un fs ex H (upd H a o) h h' where
  keep := fun b u q _ _ _ => k b u q
  slot := fun b u q _ _ _ => ⟨u.slots, k b u q⟩
  free := fun b u q n _ => by rw [upd_ne (Nat.ne_of_lt (Nat.lt_of_lt_of_le (Heap.lt_size q) hp))]; exact n
  there := fun b u q _ => ⟨u, k b u q⟩
  tups := fun b xs q => by rw [upd_ne (ne_of_none q hn)]; exact q
  frzs := fun b u xs q => by rw [upd_ne (ne_of_none q hn)]; exact q
  tbls := fun b ps q => ⟨#[], by rw [upd_ne (ne_of_none q hn), q]; simp⟩
theorem Un.write (mu : Mut (H x)) (he : e = x ∨ H e = some (.own x)) (k : ∀ b u, b ≠ e → h.get? b = some u → h'.get? b = some u) (heo : ∃ u, h'.get? e = some u) : Un fs ex H (upd H x o) h h' := by
  have hx : ∀ b, H b = none → b ≠ x := fun b n z => by subst z; rw [n] at mu; exact mu
  have hb : ∀ b, H b = none → b ≠ e := fun b n z => by
    subst z
    rcases he with r | r
    · exact hx b n r
    · rw [n] at r; cases r
  have hm : ∀ b u, H b = some u → ¬ Mut (some u) → b ≠ x := fun b u q nm z => by subst z; rw [q] at mu; exact nm mu
  refine ⟨fun b u q n _ _ => k b u (hb b n) q, fun b u q n _ _ => ⟨u.slots, k b u (hb b n) q⟩, fun b u q n _ => by rw [upd_ne (hx b n)]; exact n, fun b u q _ => ?_,
    fun b xs q => by rw [upd_ne (hm b _ q fun z => z)]; exact q, fun b u xs q => by rw [upd_ne (hm b _ q fun z => z)]; exact q, fun b ps q => ⟨#[], by rw [upd_ne (hm b _ q fun z => z), q]; simp⟩⟩
  by_cases hbe : b = e
  · subst hbe; exact heo
  · exact ⟨u, k b u hbe q⟩
end

/-! ### the heap without what is tracked -/
def trk (h : Heap) (H : Hp) : List Addr := (List.range h.objs.size).filter fun a => (H a).isSome
def hidT (h : Heap) (H : Hp) : Heap := PySem.W.hideAll h (trk h H)
theorem hidT_size (h : Heap) (H : Hp) : (hidT h H).objs.size = h.objs.size := PySem.W.hideAll_size _ _
theorem hidT_get {h : Heap} {H : Hp} {b : Addr} {o : Obj} (e : h.get? b = some o) (n : H b = none) : (hidT h H).get? b = some o :=
  PySem.W.hideAll_get _ e fun hm => by
    have q : (H b).isSome = true := (List.mem_filter.mp hm).2
    rw [n] at q; simp at q
theorem of_hidT {h : Heap} {H : Hp} {b : Addr} {o : Obj} (e : (hidT h H).get? b = some o) : h.get? b = some o ∧ H b = none := by
  have e' : h.get? b = some o := PySem.W.of_hideAll (trk h H) e
  refine ⟨e', ?_⟩
  cases q : H b with
  | none => rfl
  | some x =>
    have hm : b ∈ trk h H := List.mem_filter.mpr ⟨List.mem_range.mpr (Heap.lt_size e'), by simp [q]⟩
    have z : (hidT h H).get? b = none := PySem.W.hideAll_none (trk h H) hm
    rw [z] at e; cases e

/-! ### OpenK's ledger, filled with every new object but one -/
end L2

namespace L2
open PySem PySem.Spec PyProof.Rows

/-- the module's facts, over the base: the heap at the law's entry without what is tracked there -/
structure Mod (K : PySem.W.Frag) (mg : Str → Option Value) (base : Heap) : Prop where
  kin : K.In base
  glob : base.Ns mainGlobals mg
  blt : ∃ mb, base.Ns builtinsNs mb ∧ ∀ x : Str, x ≠ "__name__" → mb x = bootBuiltins x
  nolimit : base.NoLimit

/-- the context: a def's body (or a comprehension's block) running. base: fixed through the whole law; s₀, H₀: the entry; outer: the frames whose slots others may change (a def's callers); stack: all frames that run;
   ex: iterators that were made ahead of the entry and are walked here (a comprehension's); fn: the names whose cells were made at the entry (a def: all; a comprehension's block: its own); calm: not within an except suite; pn: pins that every state bears; xe: what is wanted of an exception that leaves the code -/
structure Cx where
  prog : Program
  w : World
  K : PySem.W.Frag
  mg : Str → Option Value
  base : Heap
  A : Around
  N : List Str
  s₀ : Shared
  H₀ : Hp
  env : Env
  outer : List Env
  stack : List Env
  ex : List Addr
  fn : Str → Bool
  calm : Bool
  pn : List (Addr × Obj)
  xe : Value → Shared → Prop
/-- the callers' frames -/
def frs (l : List Env) : List Addr := l.filterMap (·.frame)
abbrev Cx.fs (X : Cx) : List Addr := frs X.outer

def Vis (sc : Scope) (x : Str) : Prop := sc.names.lookup x = some .local ∨ sc.names.lookup x = some .cell ∨ sc.names.lookup x = some .free
def Loc (sc : Scope) (x : Str) : Prop := sc.names.lookup x = some .local ∨ sc.names.lookup x = some .cell
def Look (env : Env) (h : Heap) (m : Str → Option Value) (x : Str) (u : Value) : Prop :=
  (env.kindOf x = some .local ∧ m x = some u) ∨ ((env.kindOf x = some .cell ∨ env.kindOf x = some .free) ∧ ∃ c, env.cells.lookup x = some c ∧ h.IsCell c (some u))

structure Cx.Ok (X : Cx) : Prop where
  mod : Mod X.K X.mg X.base
  kind : X.env.scope.kind = .function
  glob : X.env.globals = mainGlobals
  blt : X.env.builtins = builtinsNs
  above : X.s₀.heap.objs.size ≤ X.env.locals
  inj : ∀ x y c, X.env.cells.lookup x = some c → X.env.cells.lookup y = some c → x = y
  has : ∀ x, (X.env.kindOf x = some .cell ∨ X.env.kindOf x = some .free) → ∃ c, X.env.cells.lookup x = some c
  cab : ∀ x c, X.fn x = true → X.env.cells.lookup x = some c → X.s₀.heap.objs.size ≤ c
  hd : X.calm = true → X.A.handled = none
  frames : X.A.frames = some X.stack
  stk : X.stack = X.outer ∨ (X.stack = X.env :: X.outer ∧ X.env.frame = some X.env.locals)
  exf : ∀ b ∈ X.ex, b ≠ X.env.locals ∧ ∀ x c, X.env.cells.lookup x = some c → c ≠ b
  bs : ∀ b o, X.base.get? b = some o → X.s₀.heap.get? b = some o ∧ X.H₀ b = none
  bsz : X.base.objs.size ≤ X.s₀.heap.objs.size
  noex : ∀ b o, X.base.get? b = some o → b ∉ X.ex
  exfs : ∀ b ∈ X.ex, b ∉ X.fs
  funs : X.s₀.heap.FunFrames X.base X.outer
  frf : ∀ b ∈ X.fs, X.H₀ b = none

structure Inv (X : Cx) (pins : List (Addr × Obj)) (σ : List (Option V)) (H : Hp) (s : Shared) : Prop where
  ok : X.Ok
  os : s.os = X.s₀.os
  bare : AllBare s.gens
  base : Un X.fs X.ex X.H₀ H X.s₀.heap s.heap
  loc : ∃ m, s.heap.Ns X.env.locals m ∧ ∀ (i : Nat) (x : Str) (v : V), X.N[i]? = some x → σ[i]? = some (some v) → Vis X.env.scope x → ∃ u, RelV v u ∧ Look X.env s.heap m x u
  cell : ∀ x c, X.env.cells.lookup x = some c → ∃ v, s.heap.IsCell c v
  free : H X.env.locals = none
  freeC : ∀ x c, X.env.cells.lookup x = some c → H c = none
  pin : ∀ p ∈ X.pn ++ pins, s.heap.get? p.1 = some p.2 ∧ H p.1 = none ∧ p.1 ≠ X.env.locals ∧ p.1 ∉ X.fs ∧ ∀ v, p.2.data ≠ .cell v
  hok : HOk X.prog X.w H s.heap
  len : σ.length = X.N.length

section
variable {X : Cx} {pins : List (Addr × Obj)} {σ : List (Option V)} {H H' : Hp} {s : Shared} {h' : Heap}

theorem Cx.Ok.nofr (ok : X.Ok) {b : Addr} {o : Obj} (e : X.base.get? b = some o) : b ∉ X.fs := fun hb => by
  have := (ok.funs.mem hb).1
  rw [e] at this; cases this
theorem Inv.bs (I : Inv X pins σ H s) : ∀ b o, X.base.get? b = some o → s.heap.get? b = some o ∧ H b = none := fun b o e =>
  ⟨I.base.keep b o (I.ok.bs b o e).1 (I.ok.bs b o e).2 (I.ok.nofr e) (I.ok.noex b o e), I.base.free b o (I.ok.bs b o e).1 (I.ok.bs b o e).2 (I.ok.noex b o e)⟩
theorem Inv.bk (I : Inv X pins σ H s) : ∀ b o, X.base.get? b = some o → s.heap.get? b = some o := fun b o e => (I.bs b o e).1
theorem Inv.mod (I : Inv X pins σ H s) : Mod X.K X.mg X.base := I.ok.mod
theorem Inv.kIn (I : Inv X pins σ H s) : X.K.In s.heap := I.ok.mod.kin.keeps I.bk
/-- the frame over the base: for OpenK's rules (K.In X.base is I.mod.kin) -/
theorem Inv.fr (I : Inv X pins σ H s) : ∃ m, Fr X.base X.env.locals s.heap m :=
  let ⟨m, hn, _⟩ := I.loc
  ⟨m, hn, I.bk, Nat.le_trans I.ok.bsz I.ok.above⟩
theorem Inv.lt (I : Inv X pins σ H s) : X.env.locals < s.heap.objs.size := let ⟨_, hn, _⟩ := I.loc; hn.lt
theorem Inv.sz (I : Inv X pins σ H s) : X.s₀.heap.objs.size ≤ s.heap.objs.size := Nat.le_trans I.ok.above (Nat.le_of_lt I.lt)
theorem Inv.nofs (I : Inv X pins σ H s) {a : Addr} (h : s.heap.objs.size ≤ a) : a ∉ X.fs := fun hb => by
  obtain ⟨_, o, ho, _⟩ := I.ok.funs.mem hb
  exact absurd (Nat.lt_of_lt_of_le (Heap.lt_size ho) (Nat.le_trans I.sz h)) (Nat.lt_irrefl _)
theorem Inv.cne (I : Inv X pins σ H s) : ∀ x c, X.env.cells.lookup x = some c → c ≠ X.env.locals := fun x c e z => by
  obtain ⟨v, o, ho, hd⟩ := I.cell x c e
  obtain ⟨m, ⟨o', es, ep, ho', hd', _⟩, _⟩ := I.loc
  rw [z, ho'] at ho; cases ho; rw [hd'] at hd; cases hd
theorem Inv.funs (I : Inv X pins σ H s) : s.heap.FunFrames X.base X.outer := by
  have all : ∀ (l : List Env), (∀ b ∈ frs l, b ∈ X.fs) → X.s₀.heap.FunFrames X.base l → s.heap.FunFrames X.base l := by
    intro l
    induction l with
    | nil => intro _ _; trivial
    | cons env r ih =>
      intro hs hl
      obtain ⟨hk, ⟨L, o, hf, hn, ho, hd⟩, hr⟩ := hl
      have hL : L ∈ X.fs := hs L (by unfold frs; rw [List.filterMap_cons, hf]; exact List.mem_cons_self)
      obtain ⟨sl, e⟩ := I.base.slot L o ho (I.ok.frf L hL) hL fun z => I.ok.exfs L z hL
      exact ⟨hk, ⟨L, _, hf, hn, e, hd⟩, ih (fun b hb => hs b (by unfold frs; rw [List.filterMap_cons, hf]; exact List.mem_cons_of_mem _ hb)) hr⟩
  exact all X.outer (fun _ hb => hb) I.ok.funs

/-- the frames that run, for a call -/
theorem Inv.stack (I : Inv X pins σ H s) : s.heap.FunFrames X.base X.stack := by
  rcases I.ok.stk with e | ⟨e, hf⟩
  · rw [e]; exact I.funs
  · rw [e]
    obtain ⟨m, hn, _⟩ := I.loc
    refine .cons (by rw [I.ok.kind]; decide) hf hn ?_ I.funs
    exact Heap.get?_none_of_le (Nat.le_trans I.ok.bsz I.ok.above)
theorem Inv.stkSub (I : Inv X pins σ H s) : ∀ b ∈ frs X.stack, b ∈ X.env.locals :: X.fs := fun b hb => by
  rcases I.ok.stk with e | ⟨e, hf⟩
  · rw [e] at hb; exact List.mem_cons_of_mem _ hb
  · rw [e] at hb
    unfold frs at hb
    rw [List.filterMap_cons, hf] at hb
    exact hb
theorem Inv.stkFree (I : Inv X pins σ H s) : ∀ b ∈ frs X.stack, H b = none := fun b hb => by
  rcases List.mem_cons.mp (I.stkSub b hb) with e | hb
  · rw [e]; exact I.free
  · obtain ⟨_, o, ho, _⟩ := I.ok.funs.mem hb
    exact I.base.free b o ho (I.ok.frf b hb) fun z => I.ok.exfs b z hb

/-- THE STEP: the untracked objects but the frame and the records at ch are kept (the callers' frames up to slots), the frame's map is kept, the new abstract heap is held -/
theorem Inv.step {g' : Array GenState} {t' : Nat} {d' : Drawn} {ch : List Addr} (I : Inv X pins σ H s)
    (hch : ∀ b ∈ ch, (b ∈ X.ex ∨ X.s₀.heap.objs.size ≤ b) ∧ b ≠ X.env.locals ∧ (∀ x c, X.env.cells.lookup x = some c → c ≠ b) ∧ ∀ p ∈ X.pn ++ pins, p.1 ≠ b)
    (keep : ∀ b o, b ≠ X.env.locals → b ∉ X.fs → b ∉ ch → s.heap.get? b = some o → H b = none → h'.get? b = some o)
    (slot : ∀ b o, b ≠ X.env.locals → b ∈ X.fs → b ∉ ch → s.heap.get? b = some o → H b = none → ∃ sl, h'.get? b = some { o with slots := sl }) (free : ∀ b o, b ∉ ch → s.heap.get? b = some o → H b = none → H' b = none)
    (there : ∀ b o, b ∉ ch → s.heap.get? b = some o → ∃ o', h'.get? b = some o')
    (tups : ∀ b xs, H b = some (.tup xs) → H' b = some (.tup xs)) (frzs : ∀ b o u, H b = some (.frz o u) → H' b = some (.frz o u)) (tbls : ∀ b ps, H b = some (.tbl ps) → ∃ more, H' b = some (.tbl (ps ++ more)))
    (ns : ∀ m, s.heap.Ns X.env.locals m → h'.Ns X.env.locals m) (hok : HOk X.prog X.w H' h') (hg : AllBare g') :
    Inv X pins σ H' { s with heap := h', gens := g', drawn := d', toks := t' } := by
  have neL : ∀ b o, X.s₀.heap.get? b = some o → b ≠ X.env.locals := fun b o e => Nat.ne_of_lt (Nat.lt_of_lt_of_le (Heap.lt_size e) I.ok.above)
  have neC : ∀ b o, X.s₀.heap.get? b = some o → b ∉ X.ex → b ∉ ch := fun b o e hx hb => by
    rcases (hch b hb).1 with z | z
    · exact hx z
    · exact absurd (Nat.lt_of_lt_of_le (Heap.lt_size e) z) (Nat.lt_irrefl _)
  have cellK : ∀ x c, X.env.cells.lookup x = some c → ∀ v, s.heap.IsCell c v → h'.IsCell c v := fun x c e v ⟨o, ho, hd⟩ => by
    have nch : c ∉ ch := fun z => (hch c z).2.2.1 x c e rfl
    by_cases hc : c ∈ X.fs
    · obtain ⟨sl, q⟩ := slot c o (I.cne x c e) hc nch ho (I.freeC x c e)
      exact ⟨_, q, hd⟩
    · exact ⟨o, keep c o (I.cne x c e) hc nch ho (I.freeC x c e), hd⟩
  refine ⟨I.ok, I.os, hg, ⟨fun b o e n hb hx => ?_, fun b o e n hb hx => ?_, fun b o e n hx => ?_, fun b o e hx => ?_, fun b xs e => tups b xs (I.base.tups b xs e), fun b o xs e => frzs b o xs (I.base.frzs b o xs e), fun b ps e => ?_⟩, ?_, fun x c e => ?_, ?_, fun x c e => ?_, fun p hp => ?_, hok, I.len⟩
  · exact keep b o (neL b o e) hb (neC b o e hx) (I.base.keep b o e n hb hx) (I.base.free b o e n hx)
  · obtain ⟨sl, e1⟩ := I.base.slot b o e n hb hx
    obtain ⟨sl', e2⟩ := slot b _ (neL b o e) hb (neC b o e hx) e1 (I.base.free b o e n hx)
    exact ⟨sl', e2⟩
  · obtain ⟨o', e1⟩ := I.base.there b o e hx
    exact free b o' (neC b o e hx) e1 (I.base.free b o e n hx)
  · obtain ⟨o', e1⟩ := I.base.there b o e hx
    exact there b o' (neC b o e hx) e1
  · obtain ⟨m1, e1⟩ := I.base.tbls b ps e
    obtain ⟨m2, e2⟩ := tbls b _ e1
    exact ⟨m1 ++ m2, by rw [e2, Array.append_assoc]⟩
  · obtain ⟨m, hn, hl⟩ := I.loc
    refine ⟨m, ns m hn, fun i x v e1 e2 e3 => ?_⟩
    obtain ⟨u, r, l⟩ := hl i x v e1 e2 e3
    refine ⟨u, r, ?_⟩
    rcases l with l | ⟨k, c, e, z⟩
    · exact .inl l
    · exact .inr ⟨k, c, e, cellK x c e _ z⟩
  · obtain ⟨v, z⟩ := I.cell x c e
    exact ⟨v, cellK x c e v z⟩
  · obtain ⟨m, ⟨o, _, _, ho, _⟩, _⟩ := I.loc
    exact free _ o (fun z => (hch _ z).2.1 rfl) ho I.free
  · obtain ⟨v, o, ho, hd⟩ := I.cell x c e
    exact free c o (fun z => (hch c z).2.2.1 x c e rfl) ho (I.freeC x c e)
  · obtain ⟨e, n, ne, nf, d⟩ := I.pin p hp
    have nch : p.1 ∉ ch := fun z => (hch p.1 z).2.2.2 p hp rfl
    exact ⟨keep p.1 p.2 ne nf nch e n, free p.1 p.2 nch e n, ne, nf, d⟩
/-- .. where the frame's own object is kept too -/
theorem Inv.un {t' : Nat} (I : Inv X pins σ H s) (u : Un X.fs [] H H' s.heap h') (hok : HOk X.prog X.w H' h') : Inv X pins σ H' { s with heap := h', toks := t' } := by
  obtain ⟨m, ⟨o, es, ep, ho, r⟩, _⟩ := id I.loc
  obtain ⟨sl, hL⟩ := u.any ho I.free (by simp)
  exact I.step (g' := s.gens) (d' := s.drawn) (ch := []) (fun _ z => nomatch z) (fun b o _ hb _ e n => u.keep b o e n hb (by simp)) (fun b o _ hb _ e n => u.slot b o e n hb (by simp)) (fun b o _ e n => u.free b o e n (by simp)) (fun b o _ e => u.there b o e (by simp)) u.tups u.frzs u.tbls (fun m' hm => by
    obtain ⟨o', es', ep', ho', r'⟩ := hm
    rw [ho] at ho'; cases ho'
    exact ⟨_, es', ep', hL, r'⟩) hok I.bare
/-- behind a call (or a comprehension's block): the slots of this frame may have changed too, the records at ch may have turned -/
theorem Inv.call {g' : Array GenState} {t' : Nat} {d' : Drawn} {ch : List Addr} (I : Inv X pins σ H s) (u : Un (frs X.stack) ch H H' s.heap h') (hok : HOk X.prog X.w H' h') (hg : AllBare g')
    (hch : ∀ b ∈ ch, (b ∈ X.ex ∨ X.s₀.heap.objs.size ≤ b) ∧ b ≠ X.env.locals ∧ (∀ x c, X.env.cells.lookup x = some c → c ≠ b) ∧ ∀ p ∈ X.pn ++ pins, p.1 ≠ b) :
    Inv X pins σ H' { s with heap := h', gens := g', drawn := d', toks := t' } := by
  obtain ⟨m, ⟨o, es, ep, ho, r⟩, _⟩ := id I.loc
  obtain ⟨sl, hL⟩ := u.any ho I.free fun z => (hch _ z).2.1 rfl
  exact I.step (ch := ch) hch (fun b o hL hb hc e n => u.keep b o e n (fun z => (List.mem_cons.mp (I.stkSub b z)).elim hL hb) hc) (fun b o _ _ hc e n => u.any e n hc) (fun b o hc e n => u.free b o e n hc) (fun b o hc e => u.there b o e hc) u.tups u.frzs u.tbls (fun m' hm => by
    obtain ⟨o', es', ep', ho', r'⟩ := hm
    rw [ho] at ho'; cases ho'
    exact ⟨_, es', ep', hL, r'⟩) hok hg
/-- an untracked record of ours (an iterator) has turned -/
theorem Inv.turned {t' : Nat} {it : Addr} (I : Inv X pins σ H s) (k : ∀ b o, b ≠ it → s.heap.get? b = some o → h'.get? b = some o) (hn : H it = none) (hL : it ≠ X.env.locals)
    (h1 : it ∈ X.ex ∨ X.s₀.heap.objs.size ≤ it) (h2 : ∀ x c, X.env.cells.lookup x = some c → c ≠ it) (h3 : ∀ p ∈ X.pn ++ pins, p.1 ≠ it) : Inv X pins σ H { s with heap := h', toks := t' } := by
  have nit : ∀ b u, H b = some u → b ≠ it := fun b u e z => by rw [z, hn] at e; cases e
  refine I.step (g' := s.gens) (d' := s.drawn) (ch := [it]) (fun b hb => ?_) (fun b o _ _ hc e _ => k b o (fun z => hc (by simp [z])) e) (fun b o _ _ hc e _ => ⟨o.slots, k b o (fun z => hc (by simp [z])) e⟩) (fun _ _ _ _ n => n)
    (fun b o hc e => ⟨o, k b o (fun z => hc (by simp [z])) e⟩) (fun _ _ e => e) (fun _ _ _ e => e) (fun b ps e => ⟨#[], by rw [e]; simp⟩) (fun m hm => ?_) (fun b u e => ?_) I.bare
  · have e : b = it := by simpa using hb
    subst e
    exact ⟨h1, hL, h2, h3⟩
  · obtain ⟨o, es, ep, ho, r⟩ := hm
    exact ⟨o, es, ep, k _ o (Ne.symm hL) ho, r⟩
  · refine (I.hok b u e).stay (fun c v hc q => k c v ?_ q) (fun _ q => q) fun _ _ q => q
    rcases hc with z | z
    · rw [z]; exact nit b u e
    · exact nit c _ z
theorem Inv.tok (I : Inv X pins σ H s) (t : Nat) : Inv X pins σ H { s with toks := t } := I.un (h' := s.heap) (t' := t) Un.refl I.hok
/-- all objects kept -/
theorem Inv.kept {t' : Nat} (I : Inv X pins σ H s) (k : ∀ b u, s.heap.get? b = some u → h'.get? b = some u) : Inv X pins σ H { s with heap := h', toks := t' } := I.un (Un.kept k) (I.hok.kept k)
/-- a new object laid and tracked -/
theorem Inv.laid {a : Addr} {o : HO} {t' : Nat} (I : Inv X pins σ H s) (k : ∀ b u, s.heap.get? b = some u → h'.get? b = some u) (hp : s.heap.objs.size ≤ a) (new : ObjOk X.prog X.w (upd H a o) h' a o) :
    Inv X pins σ (upd H a o) { s with heap := h', toks := t' } := I.un (Un.laid k hp (I.hok.fresh hp)) (I.hok.laid k hp new)
/-- an object written -/
theorem Inv.write {x e : Addr} {o : HO} {t' : Nat} (I : Inv X pins σ H s) (mu : Mut (H x)) (he : e = x ∨ H e = some (.own x)) (k : ∀ b u, b ≠ e → s.heap.get? b = some u → h'.get? b = some u) (heo : ∃ u, h'.get? e = some u)
    (new : ObjOk X.prog X.w (upd H x o) h' x o) : Inv X pins σ (upd H x o) { s with heap := h', toks := t' } := I.un (Un.write mu he k heo) (I.hok.write mu he k heo new)
theorem Inv.pins_of {pins' : List (Addr × Obj)} (I : Inv X pins σ H s) (h : ∀ p ∈ pins', s.heap.get? p.1 = some p.2 ∧ H p.1 = none ∧ p.1 ≠ X.env.locals ∧ p.1 ∉ X.fs ∧ ∀ v, p.2.data ≠ .cell v) : Inv X pins' σ H s :=
  ⟨I.ok, I.os, I.bare, I.base, I.loc, I.cell, I.free, I.freeC, fun p hp => (List.mem_append.mp hp).elim (fun z => I.pin p (List.mem_append_left _ z)) (h p), I.hok, I.len⟩

theorem nodup_ix {N : List Str} (hN : N.Nodup) {i j : Nat} {x : Str} (a : N[i]? = some x) (b : N[j]? = some x) : i = j := by
  obtain ⟨h1, e1⟩ := List.getElem?_eq_some_iff.mp a
  obtain ⟨h2, e2⟩ := List.getElem?_eq_some_iff.mp b
  exact (List.getElem_inj hN).mp (e1.trans e2.symm)

/-- a name is stored; what changed -/
theorem store_ok2 {M : Model} {A : Around} {E : Value → Shared → Prop} {i : Nat} {x : Str} {v : V} {u : Value} {Q : Unit → Shared → Prop} (I : Inv X pins σ H s) (hN : X.N.Nodup) (hi : X.N[i]? = some x) (hx : Loc X.env.scope x) (r : RelV v u)
    (h : ∀ s', Inv X pins (σ.set i (some v)) H s' → (∃ a, Heap.SameBut a s.heap s'.heap ∧ (a = X.env.locals ∨ X.env.cells.lookup x = some a)) → Q () s') (hf : X.fn x = true ∨ X.env.scope.names.lookup x = some .local := by first | exact .inl rfl | exact .inr rfl | assumption) : wpAny M A (storeName X.env x u) Q E s := by
  obtain ⟨m, hn, hl⟩ := id I.loc
  have hcls : (X.env.scope.kind == .class || (X.env.scope.kind == .module && X.env.locals != X.env.globals)) = false := by rw [I.ok.kind]; rfl
  have hiσ : i < σ.length := by rw [I.len]; exact (List.getElem?_eq_some_iff.mp hi).1
  have cne := I.cne
  have tracked : ∀ {a : Addr} {h' : Heap}, (∃ o, s.heap.get? a = some o ∧ H a = none) → Heap.SameBut a s.heap h' → HOk X.prog X.w H h' := fun {a h'} ha hs b ob e => by
    obtain ⟨_, _, hfree⟩ := ha
    refine (I.hok b ob e).stay (fun c w' hc q => (hs.2 c ?_).trans q) (fun _ q => q) fun _ _ q => q
    rintro rfl
    rcases hc with rfl | hc
    · rw [hfree] at e; cases e
    · rw [hfree] at hc; cases hc
  rcases hx with hk | hk
  · refine wpAny_storeName_local hk hn (fun h' hn' hs => ?_) hcls
    obtain ⟨oL, _, _, hoL, _⟩ := id hn
    refine h _ ⟨I.ok, I.os, I.bare, ⟨fun b o e n hb hx => ?_, fun b o e n hb hx => ?_, I.base.free, fun b o e hx => ?_, I.base.tups, I.base.frzs, I.base.tbls⟩, ⟨_, hn', fun j y v' e1 e2 e3 => ?_⟩, fun y c e => ?_, I.free, I.freeC, fun p hp => ?_, tracked ⟨oL, hoL, I.free⟩ hs, by simpa using I.len⟩ ⟨_, hs, .inl rfl⟩
    · exact (hs.2 b (Nat.ne_of_lt (Nat.lt_of_lt_of_le (Heap.lt_size e) I.ok.above))).trans (I.base.keep b o e n hb hx)
    · obtain ⟨sl, e1⟩ := I.base.slot b o e n hb hx
      exact ⟨sl, (hs.2 b (Nat.ne_of_lt (Nat.lt_of_lt_of_le (Heap.lt_size e) I.ok.above))).trans e1⟩
    · obtain ⟨o', e1⟩ := I.base.there b o e hx
      exact ⟨o', (hs.2 b (Nat.ne_of_lt (Nat.lt_of_lt_of_le (Heap.lt_size e) I.ok.above))).trans e1⟩
    · by_cases hj : j = i
      · subst hj
        rw [hi] at e1; cases e1
        rw [List.getElem?_set_self hiσ] at e2
        cases e2
        exact ⟨u, r, .inl ⟨hk, by simp⟩⟩
      · rw [List.getElem?_set_ne (Ne.symm hj)] at e2
        obtain ⟨u', r', q⟩ := hl j y v' e1 e2 e3
        refine ⟨u', r', ?_⟩
        rcases q with ⟨k, e⟩ | ⟨k, c, e, z⟩
        · refine .inl ⟨k, ?_⟩
          have : y ≠ x := fun e => hj (nodup_ix hN e1 (e ▸ hi))
          simp [this, e]
        · exact .inr ⟨k, c, e, z.sameBut hs (cne y c e)⟩
    · obtain ⟨w', z⟩ := I.cell y c e
      exact ⟨w', z.sameBut hs (cne y c e)⟩
    · obtain ⟨e, n, ne, nf, d⟩ := I.pin p hp
      exact ⟨(hs.2 p.1 ne).trans e, n, ne, nf, d⟩
  · have hfn : X.fn x = true := by
      rcases hf with z | z
      · exact z
      · rw [z] at hk; cases hk
    obtain ⟨c, hc⟩ := I.ok.has x (.inl hk)
    obtain ⟨w', z⟩ := I.cell x c hc
    refine wpAny_storeName_cell I.ok.kind hk hc z (fun h' hc' hs => ?_)
    obtain ⟨oc, hoc, hocd⟩ := id z
    refine h { s with heap := h' } ⟨I.ok, I.os, I.bare, ⟨fun b o e n hb hx => ?_, fun b o e n hb hx => ?_, I.base.free, fun b o e hx => ?_, I.base.tups, I.base.frzs, I.base.tbls⟩, ⟨m, hn.sameBut hs (Ne.symm (cne x c hc)), fun j y v' e1 e2 e3 => ?_⟩, fun y c' e => ?_, I.free, I.freeC, fun p hp => ?_, tracked ⟨oc, hoc, I.freeC x c hc⟩ hs, by simpa using I.len⟩ ⟨c, hs, .inr hc⟩
    · exact (hs.2 b (Nat.ne_of_lt (Nat.lt_of_lt_of_le (Heap.lt_size e) (I.ok.cab x c hfn hc)))).trans (I.base.keep b o e n hb hx)
    · obtain ⟨sl, e1⟩ := I.base.slot b o e n hb hx
      exact ⟨sl, (hs.2 b (Nat.ne_of_lt (Nat.lt_of_lt_of_le (Heap.lt_size e) (I.ok.cab x c hfn hc)))).trans e1⟩
    · obtain ⟨o', e1⟩ := I.base.there b o e hx
      exact ⟨o', (hs.2 b (Nat.ne_of_lt (Nat.lt_of_lt_of_le (Heap.lt_size e) (I.ok.cab x c hfn hc)))).trans e1⟩
    · by_cases hj : j = i
      · subst hj
        rw [hi] at e1; cases e1
        rw [List.getElem?_set_self hiσ] at e2
        cases e2
        exact ⟨u, r, .inr ⟨.inl hk, c, hc, hc'⟩⟩
      · rw [List.getElem?_set_ne (Ne.symm hj)] at e2
        obtain ⟨u', r', q⟩ := hl j y v' e1 e2 e3
        refine ⟨u', r', ?_⟩
        rcases q with q | ⟨k, c', e, z'⟩
        · exact .inl q
        · refine .inr ⟨k, c', e, z'.sameBut hs ?_⟩
          rintro rfl
          exact hj (nodup_ix hN e1 (I.ok.inj _ _ _ e hc ▸ hi))
    · by_cases hcc : c' = c
      · subst hcc; exact ⟨_, hc'⟩
      · obtain ⟨w2, z2⟩ := I.cell y c' e
        exact ⟨w2, z2.sameBut hs hcc⟩
    · obtain ⟨e, n, ne, nf, d⟩ := I.pin p hp
      refine ⟨(hs.2 p.1 ?_).trans e, n, ne, nf, d⟩
      intro q
      rw [q, hoc] at e
      have q' : oc = p.2 := Option.some.inj e
      exact d w' (by rw [← q']; exact hocd)
theorem store_ok {M : Model} {A : Around} {E : Value → Shared → Prop} {i : Nat} {x : Str} {v : V} {u : Value} {Q : Unit → Shared → Prop} (I : Inv X pins σ H s) (hN : X.N.Nodup) (hi : X.N[i]? = some x) (hx : Loc X.env.scope x) (r : RelV v u)
    (h : ∀ s', Inv X pins (σ.set i (some v)) H s' → Q () s') (hf : X.fn x = true ∨ X.env.scope.names.lookup x = some .local := by first | exact .inl rfl | exact .inr rfl | assumption) : wpAny M A (storeName X.env x u) Q E s :=
  store_ok2 I hN hi hx r (fun s' I' _ => h s' I') hf
/-- behind a call or a block, the state as it is -/
theorem Inv.call' {s' : Shared} {ch : List Addr} (I : Inv X pins σ H s) (ho : s'.os = s.os) (u : Un (frs X.stack) ch H H' s.heap s'.heap) (hok : HOk X.prog X.w H' s'.heap) (hg : AllBare s'.gens)
    (hch : ∀ b ∈ ch, (b ∈ X.ex ∨ X.s₀.heap.objs.size ≤ b) ∧ b ≠ X.env.locals ∧ (∀ x c, X.env.cells.lookup x = some c → c ≠ b) ∧ ∀ p ∈ X.pn ++ pins, p.1 ≠ b) : Inv X pins σ H' s' := by
  obtain ⟨h', g', d', t', o'⟩ := s'
  have e : o' = s.os := ho
  subst e
  exact I.call (g' := g') (t' := t') (d' := d') u hok hg hch
end

/-! ### the judgements -/
/-- an exception: its class, its own dict's address (where it has one), the abstract heap behind it -/
abbrev XK := Value → Option Addr → Hp → Prop
abbrev St := List (Option V)
abbrev VK := V → Hp → Prop
/-- an expression's reading; a test's; an argument list's -/
abbrev TE := St → Hp → VK → Prop
abbrev TT := St → Hp → (Bool → Hp → Prop) → Prop
abbrev TA := St → Hp → (List V → Hp → Prop) → Prop
/-- what is wanted behind a statement -/
structure Ends where
  nx : St → Hp → Prop
  rt : VK
  bk : St → Hp → Prop := fun _ _ => False
  ct : St → Hp → Prop := fun _ _ => False
abbrev TS := Ends → St → Hp → Prop

def EP (X : Cx) (pins : List (Addr × Obj)) (σ : St) (Q : VK) (u : Value) (s' : Shared) : Prop := ∃ v H', Inv X pins σ H' s' ∧ RelV v u ∧ Q v H'
def TP (X : Cx) (pins : List (Addr × Obj)) (σ : St) (Q : Bool → Hp → Prop) (b : Bool) (s' : Shared) : Prop := ∃ H', Inv X pins σ H' s' ∧ Q b H'
def AP (X : Cx) (pins : List (Addr × Obj)) (σ : St) (Q : List V → Hp → Prop) (us : List Value) (s' : Shared) : Prop := ∃ vs H', Inv X pins σ H' s' ∧ Vals vs us ∧ Q vs H'
def SP (X : Cx) (pins : List (Addr × Obj)) (D : Ends) (f : Flow) (s' : Shared) : Prop :=
  match f with
  | .next => ∃ σ' H', Inv X pins σ' H' s' ∧ D.nx σ' H'
  | .brk => ∃ σ' H', Inv X pins σ' H' s' ∧ D.bk σ' H'
  | .cont => ∃ σ' H', Inv X pins σ' H' s' ∧ D.ct σ' H'
  | .ret u => ∃ v σ' H', Inv X pins σ' H' s' ∧ RelV v u ∧ D.rt v H'

def PE (X : Cx) (e : Expr) (t : TE) : Prop :=
  ∀ (pins : List (Addr × Obj)) (s : Shared) (σ : St) (H : Hp) (Q : VK), Inv X pins σ H s → t σ H Q → wpAny (model X.prog X.w) X.A (eval e X.env) (EP X pins σ Q) X.xe s
def PT (X : Cx) (e : Expr) (t : TT) : Prop :=
  ∀ (pins : List (Addr × Obj)) (s : Shared) (σ : St) (H : Hp) (Q : Bool → Hp → Prop), Inv X pins σ H s → t σ H Q → wpAny (model X.prog X.w) X.A (isTrue e X.env (eval e X.env)) (TP X pins σ Q) X.xe s
/-- a test whatever its 'whole' is (and, or) -/
def PW (X : Cx) (e : Expr) (t : TT) : Prop :=
  ∀ (whole : Sem Value) (pins : List (Addr × Obj)) (s : Shared) (σ : St) (H : Hp) (Q : Bool → Hp → Prop), Inv X pins σ H s → t σ H Q → wpAny (model X.prog X.w) X.A (isTrue e X.env whole) (TP X pins σ Q) X.xe s
theorem PW.pt {X : Cx} {e : Expr} {t : TT} (h : PW X e t) : PT X e t := h _
/-- an argument list (no star), from the left -/
def PA (X : Cx) (es : List Expr) (t : TA) : Prop :=
  ∀ (pos : Pos) (pins : List (Addr × Obj)) (s : Shared) (σ : St) (H : Hp) (Q : List V → Hp → Prop), Inv X pins σ H s → t σ H Q → wpAny (model X.prog X.w) X.A (spliced (backTo pos (starEach es X.env))) (AP X pins σ Q) X.xe s
def PS (X : Cx) (st : Stmt) (t : TS) : Prop :=
  ∀ (pins : List (Addr × Obj)) (s : Shared) (σ : St) (H : Hp) (D : Ends), Inv X pins σ H s → t D σ H → wpAny (model X.prog X.w) X.A (exec st X.env) (SP X pins D) X.xe s
def PSs (X : Cx) (st : List Stmt) (t : TS) : Prop :=
  ∀ (pins : List (Addr × Obj)) (s : Shared) (σ : St) (H : Hp) (D : Ends), Inv X pins σ H s → t D σ H → wpAny (model X.prog X.w) X.A (execs st X.env) (SP X pins D) X.xe s
/-- weaken the end -/
theorem thn {α : Type} {t : Sem α} {Q Q' : α → Shared → Prop} {M : Model} {A : Around} {E : Value → Shared → Prop} {s : Shared} (h : wpAny M A t Q E s) (hQ : ∀ a s, Q a s → Q' a s) : wpAny M A t Q' E s := wpAny_mono h hQ fun _ _ x => x
end L2

namespace L2
open PySem PySem.Spec PyProof.Rows
section
variable {X : Cx}

/-- two expressions in a row -/
theorem bin {a b : Expr} {ta tb : TE} (ha : PE X a ta) (hb : PE X b tb) {pins : List (Addr × Obj)} {s : Shared} {σ : St} {H : Hp} {R : V → V → Hp → Prop} (I : Inv X pins σ H s) (h : ta σ H fun x H1 => tb σ H1 fun y H2 => R x y H2)
    {α : Type} {Q : α → Shared → Prop} {f : Value → Value → Sem α}
    (hf : ∀ v u s2 x y H2, Inv X pins σ H2 s2 → RelV x v → RelV y u → R x y H2 → wpAny (model X.prog X.w) X.A (f v u) Q X.xe s2) :
    wpAny (model X.prog X.w) X.A (eval a X.env) (fun v s₁ => wpAny (model X.prog X.w) X.A (eval b X.env) (fun u s₂ => wpAny (model X.prog X.w) X.A (f v u) Q X.xe s₂) X.xe s₁) X.xe s := by
  refine thn (ha pins s σ H _ I h) fun v s1 ⟨x, H1, I1, r1, q1⟩ => ?_
  refine thn (hb pins s1 σ H1 _ I1 q1) fun u s2 ⟨y, H2, I2, r2, q2⟩ => ?_
  exact hf v u s2 x y H2 I2 r1 r2 q2

/-! ### names and constants -/
def tVar (i : Nat) : TE := fun σ H Q => ∃ v, σ[i]? = some (some v) ∧ Q v H
def tC (v : V) : TE := fun _ H Q => Q v H
theorem pe_var {i : Nat} {x : Str} {pos : Pos} (hN : X.N[i]? = some x) (hv : Vis X.env.scope x) (hd : (x == ("__debug__" : Str)) = false := by decide) (hcd : (x == ("__classdict__" : Str)) = false := by decide) : PE X (.Name x pos) (tVar i) := by
  intro pins s σ H Q I h
  obtain ⟨v, e, h⟩ := h
  obtain ⟨m, hn, hl⟩ := I.loc
  obtain ⟨u, r, l⟩ := hl i x v hN e hv
  have fin : EP X pins σ Q u s := ⟨v, H, I, r, h⟩
  rcases l with ⟨hk, hm⟩ | ⟨hk, c, hc, hcell⟩
  · exact wpAny_Name (wpAny_loadName_local I.ok.kind hk hn hm fin) hd
  · rcases hk with hk | hk
    · exact wpAny_Name (wpAny_loadName_cell I.ok.kind hk hc hcell fin) hd
    · exact wpAny_Name (wpAny_loadName_free I.ok.kind hk hc hcell fin hcd) hd
theorem pe_int {i j pos} : PE X (.Constant (.int i) j pos) (tC (.int i)) := fun _ _ _ H _ I h => wpAny_Constant_int ⟨.int i, H, I.tok _, ⟨_, rfl⟩, h⟩
theorem pe_bl {b j pos} : PE X (.Constant (.bool b) j pos) (tC (.bl b)) := fun _ _ _ H _ I h => Constant_bool ⟨.bl b, H, I, rfl, h⟩
theorem pe_non {j pos} : PE X (.Constant .none j pos) (tC .non) := fun _ _ _ H _ I h => Constant_none ⟨.non, H, I, rfl, h⟩
theorem pe_str {x j pos} : PE X (.Constant (.str x) j pos) (tC (.str x)) := fun _ _ _ H _ I h => Calls.Constant_str ⟨.str x, H, I.tok _, ⟨_, rfl⟩, h⟩

/-- a global name of the def -/
def Gl (X : Cx) (x : Str) : Prop := X.env.kindOf x = some .globalImplicit
theorem ld_glob {E : Value → Shared → Prop} {pins : List (Addr × Obj)} {s : Shared} {σ : St} {H : Hp} {x : Str} {u : Value} {pos : Pos} {Q : Value → Shared → Prop} (I : Inv X pins σ H s) (hg : Gl X x) (hm : X.mg x = some u) (h : Q u s)
    (hd : (x == ("__debug__" : Str)) = false := by decide) : wpAny (model X.prog X.w) X.A (eval (.Name x pos) X.env) Q E s :=
  Calls.Name_function_global I.ok.kind hg (Calls.loadGlobal_global (by rw [I.ok.glob]; exact I.mod.glob.keeps I.bk) hm h) hd
theorem ld_blt {E : Value → Shared → Prop} {pins : List (Addr × Obj)} {s : Shared} {σ : St} {H : Hp} {x : Str} {u : Value} {pos : Pos} {Q : Value → Shared → Prop} (I : Inv X pins σ H s) (hg : Gl X x) (hm : X.mg x = none) (hv : bootBuiltins x = some u) (h : Q u s)
    (hn : x ≠ "__name__" := by decide) (hd : (x == ("__debug__" : Str)) = false := by decide) : wpAny (model X.prog X.w) X.A (eval (.Name x pos) X.env) Q E s := by
  obtain ⟨mb, h1, h2⟩ := I.mod.blt
  exact Calls.Name_function_global I.ok.kind hg (Calls.loadGlobal_builtin (by rw [I.ok.glob]; exact I.mod.glob.keeps I.bk) hm (by rw [I.ok.blt]; exact h1.keeps I.bk) ((h2 x hn).trans hv) h) hd
/-- a module's constant, a class, a function, as a value -/
theorem pe_glob {x : Str} {v : V} {u : Value} {pos : Pos} (hg : Gl X x) (hm : X.mg x = some u) (r : RelV v u) (hd : (x == ("__debug__" : Str)) = false := by decide) : PE X (.Name x pos) (tC v) :=
  fun _ _ _ H _ I h => ld_glob I hg hm ⟨v, H, I, r, h⟩ hd
theorem pe_bltn {x : Str} {v : V} {u : Value} {pos : Pos} (hg : Gl X x) (hm : X.mg x = none) (hv : bootBuiltins x = some u) (r : RelV v u) (hn : x ≠ "__name__" := by decide) (hd : (x == ("__debug__" : Str)) = false := by decide) : PE X (.Name x pos) (tC v) :=
  fun _ _ _ H _ I h => ld_blt I hg hm hv ⟨v, H, I, r, h⟩ hn hd

/-! ### arithmetic -/
variable {a b : Expr} {ta tb : TE} {pos : Pos}
/-! ### comparisons -/
def PC (X : Cx) (op : CmpOp) (a b : Expr) (t : TE) : Prop :=
  ∀ (pins : List (Addr × Obj)) (s : Shared) (σ : St) (H : Hp) (Q : VK), Inv X pins σ H s → t σ H Q →
    wpAny (model X.prog X.w) X.A (eval a X.env) (fun v s₁ => wpAny (model X.prog X.w) X.A (eval b X.env) (fun u s₂ => wpAny (model X.prog X.w) X.A (compareOp op v u) (EP X pins σ Q) X.xe s₂) X.xe s₁) X.xe s
/-- a comparison as a value, as a test -/
def tB (t : TE) : TT := fun σ H Q => t σ H fun x H1 => ∃ c, x = .bl c ∧ Q c H1
theorem pt_cmp {op : CmpOp} {t : TE} (h : PC X op a b t) (h1 : behindInMarks op b = false := by first | exact nobehind _ (by decide) (by decide) | rfl) : PT X (.Compare a [op] [b] pos) (tB t) := by
  intro pins s σ H Q I hw
  refine wpAny_isTrue_Compare1 (thn (h pins s σ H _ I hw) fun v s1 h1 => thn h1 fun u s2 h2 => thn h2 fun c s3 ⟨x, H1, I1, r1, q1⟩ => ?_) h1
  obtain ⟨d, rfl, q⟩ := q1
  cases r1
  exact wpAny_truthy_bool ⟨H1, I1, q⟩
/-- an expression whose value is a bool, as a test -/
theorem pt_val {e : Expr} {t : TE} (h : PE X e t) (he : ∀ whole, isTrue e X.env whole = (do let v ← whole; standAt e.pos; holding [v] (truthy v)) := by intro _; rfl) : PT X e (tB t) := by
  intro pins s σ H Q I hw
  refine isTrue_plain (thn (h pins s σ H _ I hw) fun v s1 ⟨x, H1, I1, r1, q1⟩ => ?_) (he _)
  obtain ⟨d, rfl, q⟩ := q1
  cases r1
  exact wpAny_truthy_bool ⟨H1, I1, q⟩

/-! ### and, or, not -/
variable {tA tB' : TT} {rest : List Expr}
def tAnd (t u : TT) : TT := fun σ H Q => t σ H fun c H1 => if c = true then u σ H1 Q else Q false H1
def tOr (t u : TT) : TT := fun σ H Q => t σ H fun c H1 => if c = true then Q true H1 else u σ H1 Q
def tNot (t : TT) : TT := fun σ H Q => t σ H fun c H1 => Q (!c) H1
theorem pw_and1 (ha : PT X a tA) : PW X (.BoolOp .And [a] pos) tA := by
  intro wh pins s σ H Q I h
  refine isTrue_and (thn (ha pins s σ H Q I h) fun c s1 e => ?_)
  cases c with
  | true => exact isTrue_and_nil e
  | false => exact e
theorem pw_or1 (ha : PT X a tA) : PW X (.BoolOp .Or [a] pos) tA := by
  intro wh pins s σ H Q I h
  refine isTrue_or (thn (ha pins s σ H Q I h) fun c s1 e => ?_)
  cases c with
  | false => exact isTrue_or_nil e
  | true => exact e
theorem pw_and (ha : PT X a tA) (hb : PW X (.BoolOp .And (b :: rest) pos) tB') : PW X (.BoolOp .And (a :: b :: rest) pos) (tAnd tA tB') := by
  intro wh pins s σ H Q I h
  refine isTrue_and (thn (ha pins s σ H _ I h) fun c s1 ⟨H1, I1, q1⟩ => ?_)
  cases c with
  | true => exact hb wh pins s1 σ H1 Q I1 q1
  | false => exact ⟨H1, I1, q1⟩
theorem pw_or (ha : PT X a tA) (hb : PW X (.BoolOp .Or (b :: rest) pos) tB') : PW X (.BoolOp .Or (a :: b :: rest) pos) (tOr tA tB') := by
  intro wh pins s σ H Q I h
  refine isTrue_or (thn (ha pins s σ H _ I h) fun c s1 ⟨H1, I1, q1⟩ => ?_)
  cases c with
  | true => exact ⟨H1, I1, q1⟩
  | false => exact hb wh pins s1 σ H1 Q I1 q1
theorem pt_not (ha : PT X a tA) : PT X (.UnaryOp .Not a pos) (tNot tA) := by
  intro pins s σ H Q I h
  exact isTrue_not (ha pins s σ H (fun c H1 => Q (!c) H1) I h)
/-- .. as values (bools) -/
def tAndV (ta tb : TE) : TE := fun σ H Q => ta σ H fun x H1 => ∃ c, x = .bl c ∧ if c = true then tb σ H1 Q else Q (.bl false) H1
def tNotV (ta : TE) : TE := fun σ H Q => ta σ H fun x H1 => ∃ c, x = .bl c ∧ Q (.bl (!c)) H1
theorem pe_one {op} {t : TE} (h : PE X a t) : PE X (.BoolOp op [a] pos) t := fun pins s σ H Q I hw => BoolOp_one (h pins s σ H Q I hw)
theorem pe_and (ha : PE X a ta) (hb : PE X (.BoolOp .And (b :: rest) pos) tb) : PE X (.BoolOp .And (a :: b :: rest) pos) (tAndV ta tb) := by
  intro pins s σ H Q I h
  refine BoolOp_and (thn (ha pins s σ H _ I h) fun v s1 ⟨x, H1, I1, r1, q1⟩ => ?_)
  obtain ⟨c, rfl, q1⟩ := q1
  cases r1
  refine wpAny_truthy_bool ?_
  cases c with
  | true => exact hb pins s1 σ H1 Q I1 q1
  | false => exact ⟨.bl false, H1, I1, rfl, q1⟩
theorem pe_not (ha : PE X a ta) : PE X (.UnaryOp .Not a pos) (tNotV ta) := by
  intro pins s σ H Q I h
  refine UnaryOp_ (thn (ha pins s σ H _ I h) fun v s1 ⟨x, H1, I1, r1, q1⟩ => ?_)
  obtain ⟨c, rfl, q1⟩ := q1
  cases r1
  exact not_of (wpAny_truthy_bool ⟨.bl (!c), H1, I1, rfl, q1⟩)
/-- a if t else b -/
def tIf (t : TT) (ta tb : TE) : TE := fun σ H Q => t σ H fun c H1 => if c = true then ta σ H1 Q else tb σ H1 Q
theorem pe_ifExp {c : Expr} (hc : PT X c tA) (ha : PE X a ta) (hb : PE X b tb) : PE X (.IfExp c a b pos) (tIf tA ta tb) := by
  intro pins s σ H Q I h
  refine wpAny_IfExp (thn (hc pins s σ H _ I h) fun d s1 ⟨H1, I1, q1⟩ => ?_)
  cases d with
  | true => exact ha pins s1 σ H1 Q I1 q1
  | false => exact hb pins s1 σ H1 Q I1 q1
end
end L2

namespace L2
open PySem PySem.Spec PyProof.Rows

/-! ### a list, a tuple that is read: tracked, frozen, or an object of the module -/
def SqL (K : PySem.W.Frag) (H : Hp) (a : Addr) (xs : List V) : Prop :=
  Rd H a (.lst xs) ∨
    ∃ (o : Obj) (its : Array Value) (n : Nat), K.lookup a = some o ∧ o.cls = .type "list" ∧ o.dict = none ∧ o.data = .seq its n ∧ its.size ≤ sizeLine ∧ Vals xs its.toList
def SqT (K : PySem.W.Frag) (H : Hp) (a : Addr) (xs : List V) : Prop :=
  Rd H a (.tup xs) ∨
    ∃ (o : Obj) (its : Array Value) (n : Nat), K.lookup a = some o ∧ o.cls = .type "tuple" ∧ o.data = .seq its n ∧ its.size ≤ sizeLine ∧ Vals xs its.toList
def absV : Value → Option V
  | .none => some .non
  | .bool b => some (.bl b)
  | .int i _ => some (.int i)
  | .str x _ => some (.str x)
  | .bytes b _ => some (.byt b)
  | .float b _ => some (.flt b)
  | .ref a => some (.ref a)
  | .type n => some (.ty n)
  | _ => none
theorem RelV.abs {x : V} {u : Value} (r : RelV x u) : absV u = some x := by
  cases x with
  | non => cases r; rfl
  | bl _ => cases r; rfl
  | int _ => obtain ⟨t, rfl⟩ := r; rfl
  | str _ => obtain ⟨t, rfl⟩ := r; rfl
  | byt _ => obtain ⟨t, rfl⟩ := r; rfl
  | flt _ => obtain ⟨t, rfl⟩ := r; rfl
  | ref _ => cases r; rfl
  | ty _ => cases r; rfl
theorem RelV.inj {x y : V} {u : Value} (r : RelV x u) (q : RelV y u) : x = y := Option.some.inj (r.abs.symm.trans q.abs)
theorem Vals.inj : ∀ {xs ys : List V} {us : List Value}, Vals xs us → Vals ys us → xs = ys
  | _, _, _, .nil, .nil => rfl
  | _, _, _, .cons r t, .cons r' t' => by rw [r.inj r', Vals.inj t t']
section
variable {X : Cx} {pins : List (Addr × Obj)} {σ : St} {H : Hp} {s : Shared} {a : Addr} {xs ys : List V}
theorem SqL.of {K : PySem.W.Frag} (h : H a = some (.lst xs)) : SqL K H a xs := .inl (.inl h)
theorem SqT.of {K : PySem.W.Frag} (h : H a = some (.tup xs)) : SqT K H a xs := .inl (.inl h)
theorem Inv.list (I : Inv X pins σ H s) (h : SqL X.K H a xs) : ∃ its : List Value, Vals xs its ∧ PlainL s.heap a its.toArray ∧ xs.length ≤ sizeLine := by
  rcases h with h | ⟨o, its, n, hk, hc, hd, hs, hz, r⟩
  · obtain ⟨z, its, n, r, e⟩ := h.ok I.hok
    exact ⟨its, r, ⟨_, n, e, rfl, rfl, rfl⟩, z⟩
  · refine ⟨its.toList, r, ⟨o, n, I.kIn a o hk, hc, hd, by simpa using hs⟩, ?_⟩
    have e := r.length
    simp only [Array.length_toList] at e
    omega
theorem Inv.tuple (I : Inv X pins σ H s) (h : SqT X.K H a xs) : ∃ its : List Value, Vals xs its ∧ IsTup s.heap a its.toArray ∧ xs.length ≤ sizeLine := by
  rcases h with h | ⟨o, its, n, hk, hc, hs, hz, r⟩
  · obtain ⟨z, its, r, p⟩ := h.ok I.hok
    exact ⟨its, r, p, z⟩
  · refine ⟨its.toList, r, ⟨o, I.kIn a o hk, hc, n, by simpa using hs⟩, ?_⟩
    have e := r.length
    simp only [Array.length_toList] at e
    omega
theorem Inv.list_inj (I : Inv X pins σ H s) (h : SqL X.K H a xs) (h' : SqL X.K H a ys) : xs = ys := by
  obtain ⟨its, r, ⟨o, n, e, _, _, d⟩, _⟩ := I.list h
  obtain ⟨its', r', ⟨o', n', e', _, _, d'⟩, _⟩ := I.list h'
  rw [e] at e'; cases e'
  rw [d] at d'
  injection d' with d1 _
  have : its = its' := by simpa using congrArg Array.toList d1
  subst this
  exact r.inj r'
theorem Inv.tuple_inj (I : Inv X pins σ H s) (h : SqT X.K H a xs) (h' : SqT X.K H a ys) : xs = ys := by
  obtain ⟨its, r, ⟨o, e, _, n, d⟩, _⟩ := I.tuple h
  obtain ⟨its', r', ⟨o', e', _, n', d'⟩, _⟩ := I.tuple h'
  rw [e] at e'; cases e'
  rw [d] at d'
  injection d' with d1 _
  have : its = its' := by simpa using congrArg Array.toList d1
  subst this
  exact r.inj r'
end

/-! ### another wish about exceptions -/
abbrev Cx.wish (X : Cx) (E : Value → Shared → Prop) : Cx := { X with xe := E }
/-- no exception leaves -/
abbrev Cx.nox (X : Cx) : Cx := X.wish fun _ _ => False
theorem Cx.Ok.wish {X : Cx} (ok : X.Ok) (E : Value → Shared → Prop) : (X.wish E).Ok :=
  ⟨ok.mod, ok.kind, ok.glob, ok.blt, ok.above, ok.inj, ok.has, ok.cab, ok.hd, ok.frames, ok.stk, ok.exf, ok.bs, ok.bsz, ok.noex, ok.exfs, ok.funs, ok.frf⟩
theorem Cx.Ok.unwish {X : Cx} {E : Value → Shared → Prop} (ok : (X.wish E).Ok) : X.Ok :=
  ⟨ok.mod, ok.kind, ok.glob, ok.blt, ok.above, ok.inj, ok.has, ok.cab, ok.hd, ok.frames, ok.stk, ok.exf, ok.bs, ok.bsz, ok.noex, ok.exfs, ok.funs, ok.frf⟩
section
variable {X : Cx} {pins : List (Addr × Obj)} {σ : St} {H : Hp} {s : Shared} {E : Value → Shared → Prop}
theorem Inv.wish (I : Inv X pins σ H s) (E : Value → Shared → Prop) : Inv (X.wish E) pins σ H s := ⟨I.ok.wish E, I.os, I.bare, I.base, I.loc, I.cell, I.free, I.freeC, I.pin, I.hok, I.len⟩
theorem Inv.unwish (I : Inv (X.wish E) pins σ H s) : Inv X pins σ H s := ⟨I.ok.unwish, I.os, I.bare, I.base, I.loc, I.cell, I.free, I.freeC, I.pin, I.hok, I.len⟩
theorem SP.unwish {D : Ends} {f : Flow} {s' : Shared} (h : SP (X.wish E) pins D f s') : SP X pins D f s' := by
  cases f with
  | next => obtain ⟨σ', H', I, q⟩ := h; exact ⟨σ', H', I.unwish, q⟩
  | brk => obtain ⟨σ', H', I, q⟩ := h; exact ⟨σ', H', I.unwish, q⟩
  | cont => obtain ⟨σ', H', I, q⟩ := h; exact ⟨σ', H', I.unwish, q⟩
  | ret u => obtain ⟨v, σ', H', I, r, q⟩ := h; exact ⟨v, σ', H', I.unwish, r, q⟩
theorem PSs.nox {st : List Stmt} {t : TS} (h : PSs X.nox st t) : PSs X st t := fun pins s σ H D I hw =>
  wpAny_mono (h pins s σ H D (I.wish _) hw) (fun _ _ q => q.unwish) fun _ _ z => False.elim z
end

/-! ### blocks and small statements -/
section
variable {X : Cx} {st : Stmt} {rest : List Stmt} {t u : TS} {e : Expr} {te : TE} {pos : Pos}
def tNext : TS := fun D σ H => D.nx σ H
def tSeq (t u : TS) : TS := fun D σ H => t { D with nx := u D } σ H
theorem pss_nil : PSs X [] tNext := fun _ _ σ H _ I h => wpAny_execs_nil ⟨σ, H, I, h⟩
theorem pss_cons (h1 : PS X st t) (h2 : PSs X rest u) : PSs X (st :: rest) (tSeq t u) := by
  intro pins s σ H D I h
  refine wpAny_execs_cons (thn (h1 pins s σ H { D with nx := u D } I h) fun f s1 q => ?_)
  cases f with
  | next =>
    obtain ⟨σ', H', I', q⟩ := q
    exact h2 pins s1 σ' H' D I' q
  | ret v => exact q
  | brk => exact q
  | cont => exact q
theorem pss_one (h1 : PS X st t) : PSs X [st] t := by
  intro pins s σ H D I h
  refine wpAny_execs_cons (thn (h1 pins s σ H D I h) fun f s1 q => ?_)
  cases f with
  | next => exact wpAny_execs_nil q
  | ret v => exact q
  | brk => exact q
  | cont => exact q
/-- in a def's body nothing is shown -/
theorem Inv.quiet {pins : List (Addr × Obj)} {σ : St} {H : Hp} {s : Shared} (I : Inv X pins σ H s) : interactive X.env = false := by simp [interactive, I.ok.kind]
/-- an expression whose value is dropped -/
def tDrop (te : TE) : TS := fun D σ H => te σ H fun _ H1 => D.nx σ H1
theorem ps_expr (he : PE X e te) (hs : swapsWith e none pos.line X.env = pure false := by rfl) : PS X (.Expr e pos) (tDrop te) := by
  intro pins s σ H D I h
  exact wpAny_Expr_any (thn (he pins s σ H _ I h) fun v s1 ⟨x, H1, I1, r1, q1⟩ => ⟨σ, H1, I1, q1⟩) I.quiet hs
def tRet (te : TE) : TS := fun D σ H => te σ H D.rt
theorem ps_ret (he : PE X e te) : PS X (.Return (some e) pos) (tRet te) := by
  intro pins s σ H D I h
  exact wpAny_Return_some (thn (he pins s σ H _ I h) fun v s1 ⟨x, H1, I1, r1, q1⟩ => ⟨x, σ, H1, I1, r1, q1⟩)
def tIfS (c : TT) (t u : TS) : TS := fun D σ H => c σ H fun b H1 => if b = true then t D σ H1 else u D σ H1
theorem ps_if {c : Expr} {a b : List Stmt} {tc : TT} (hc : PT X c tc) (ha : PSs X a t) (hb : PSs X b u) : PS X (.If c a b pos) (tIfS tc t u) := by
  intro pins s σ H D I h
  refine wpAny_If (thn (hc pins s σ H _ I h) fun d s1 ⟨H1, I1, q1⟩ => ?_)
  cases d with
  | true => exact ha pins s1 σ H1 D I1 q1
  | false => exact hb pins s1 σ H1 D I1 q1
/-- code that the proof never comes to -/
def tNever : TS := fun _ _ _ => False
theorem ps_never : PS X st tNever := fun _ _ _ _ _ _ h => h.elim
end

/-! ### targets -/
abbrev TG := V → St → Hp → (St → Hp → Prop) → Prop
abbrev TGs := List V → St → Hp → (St → Hp → Prop) → Prop
def PG (X : Cx) (target : Expr) (t : TG) : Prop :=
  ∀ (pins : List (Addr × Obj)) (s : Shared) (σ : St) (H : Hp) (v : V) (u : Value) (Q : St → Hp → Prop), Inv X pins σ H s → RelV v u → t v σ H Q →
    wpAny (model X.prog X.w) X.A (assign target X.env u) (fun _ s' => ∃ σ' H', Inv X pins σ' H' s' ∧ Q σ' H') X.xe s
/-- several targets, one after another -/
def PGs (X : Cx) (ts : List Expr) (t : TGs) : Prop :=
  ∀ (pins : List (Addr × Obj)) (s : Shared) (σ : St) (H : Hp) (vs : List V) (us : List Value) (Q : St → Hp → Prop), Inv X pins σ H s → Vals vs us → t vs σ H Q →
    wpAny (model X.prog X.w) X.A (assignInOrder ((assignEach ts X.env).map (·.2)) us) (fun _ s' => ∃ σ' H', Inv X pins σ' H' s' ∧ Q σ' H') X.xe s
section
variable {X : Cx} {pos : Pos}
def gName (i : Nat) : TG := fun v σ H Q => Q (σ.set i (some v)) H
theorem pg_name {i : Nat} {x : Str} (hN : X.N.Nodup) (hi : X.N[i]? = some x) (hx : Loc X.env.scope x) (hf : X.fn x = true ∨ X.env.scope.names.lookup x = some .local := by first | exact .inl rfl | exact .inr rfl | assumption) : PG X (.Name x pos) (gName i) := by
  intro pins s σ H v u Q I r h
  exact wpAny_assign_Name (store_ok I hN hi hx r (fun s' I' => ⟨_, H, I', h⟩) hf)
def gNil : TGs := fun vs σ H Q => vs = [] ∧ Q σ H
def gCons (t : TG) (u : TGs) : TGs := fun vs σ H Q => ∃ v r, vs = v :: r ∧ t v σ H fun σ' H' => u r σ' H' Q
theorem pgs_nil : PGs X [] gNil := by
  intro pins s σ H vs us Q I r h
  obtain ⟨e, h⟩ := h
  subst e
  cases r
  exact assignInOrder_nil ⟨σ, H, I, h⟩
theorem pgs_cons {e : Expr} {es : List Expr} {t : TG} {u : TGs} (h1 : PG X e t) (h2 : PGs X es u)
    (hs : (assignEach (e :: es) X.env).map (·.2) = assign e X.env :: (assignEach es X.env).map (·.2) := by rfl) : PGs X (e :: es) (gCons t u) := by
  intro pins s σ H vs us Q I r h
  obtain ⟨v, vr, e1, h⟩ := h
  subst e1
  cases r with
  | cons r rr =>
    rw [hs]
    refine assignInOrder_cons (thn (h1 pins s σ H _ _ _ I r h) fun _ s1 ⟨σ1, H1, I1, q1⟩ => ?_)
    exact h2 pins s1 σ1 H1 _ _ Q I1 rr q1
/-- (a, b, ..) = a tuple of that length -/
def gTup (K : PySem.W.Frag) (n : Nat) (t : TGs) : TG := fun v σ H Q => ∃ a xs, v = .ref a ∧ SqT K H a xs ∧ xs.length = n ∧ t xs σ H Q
theorem pg_tup {es : List Expr} {k : Nat} {t : TGs} {n : Nat} (hc : X.calm = true) (h : PGs X es t)
    (hn : (assignEach es X.env).length = n := by rfl) (hst : (assignEach es X.env).findIdx? (·.1) = none := by rfl) : PG X (.Tuple es k pos) (gTup X.K n t) := by
  intro pins s σ H v u Q I r hw
  obtain ⟨a, xs, e1, hq, hl, hw⟩ := hw
  subst e1
  cases r
  obtain ⟨its, rv, ht, hz⟩ := I.tuple hq
  refine assign_Tuple_tuple (I.ok.hd hc) ht (by simp [hn, ← hl, rv.length]) hst fun h' hx => ?_
  have I1 : Inv X pins σ H { s with heap := h' } := I.kept (t' := s.toks) fun b o e => hx b o (Nat.ne_of_lt (Heap.lt_size e)) e
  exact h pins _ σ H xs _ Q I1 (by simpa using rv) hw
/-- target = value -/
def tAsg (te : TE) (g : TG) : TS := fun D σ H => te σ H fun x H1 => g x σ H1 D.nx
theorem ps_asg {tg e : Expr} {te : TE} {g : TG} (he : PE X e te) (hg : PG X tg g) (hs : swapsWithSole [tg] e pos.line X.env = pure false := by rfl) (hw : swappedStores [tg] e X.env = pure none := by rfl)
    (h1 : (assignEach [tg] X.env).map (·.2) = [assign tg X.env] := by rfl) : PS X (.Assign [tg] e pos) (tAsg te g) := by
  intro pins s σ H D I h
  refine wpAny_Assign_stores (thn (he pins s σ H _ I h) fun v s1 ⟨x, H1, I1, r1, q1⟩ => ?_) hs hw
  rw [h1]
  exact thn (hg pins s1 σ H1 x v _ I1 r1 q1) fun _ s2 q => q
/-- name = value -/
theorem ps_set {i : Nat} {x : Str} {e : Expr} {te : TE} {pos' : Pos} (hN : X.N.Nodup) (hi : X.N[i]? = some x) (hx : Loc X.env.scope x) (he : PE X e te) (hs : swapsWith e (some (.Name x pos')) pos.line X.env = pure false := by rfl) (hf : X.fn x = true ∨ X.env.scope.names.lookup x = some .local := by first | exact .inl rfl | exact .inr rfl | assumption) :
    PS X (.Assign [.Name x pos'] e pos) (tAsg te (gName i)) := by
  intro pins s σ H D I h
  refine wpAny_Assign_Name (thn (he pins s σ H _ I h) fun v s1 ⟨y, H1, I1, r1, q1⟩ => ?_) hs
  exact store_ok I1 hN hi hx r1 (fun s2 I2 => ⟨_, H1, I2, q1⟩) hf
end

/-! ### while -/
section
variable {X : Cx} {pos : Pos}
end

/-! ### what a loop or a comprehension walks -/
/-- at turn i: it yields x (the heap may grow), or it stops -/
structure It where
  go : Nat → Hp → Prop
  yld : Nat → Hp → V → Hp → Prop
  stop : Nat → Hp → Prop
/-- the iterator's own objects may turn: they are not the frame's, not pinned, younger than the entry (or a comprehension's own) -/
def FpOk (X : Cx) (pins : List (Addr × Obj)) (H : Hp) (b : Addr) : Prop :=
  H b = none ∧ b ≠ X.env.locals ∧ b ∉ X.fs ∧ (b ∈ X.ex ∨ X.s₀.heap.objs.size ≤ b) ∧ (∀ x c, X.env.cells.lookup x = some c → c ≠ b) ∧ ∀ p ∈ X.pn ++ pins, p.1 ≠ b
theorem Inv.fpOk {X : Cx} {pins : List (Addr × Obj)} {σ : St} {H H' : Hp} {s : Shared} {b : Addr} (I : Inv X pins σ H s) (hb : s.heap.objs.size ≤ b) (hn : H' b = none) : FpOk X pins H' b := by
  refine ⟨hn, Nat.ne_of_gt (Nat.lt_of_lt_of_le I.lt hb), I.nofs hb, .inr (Nat.le_trans I.sz hb), fun x c e z => ?_, fun p hp z => ?_⟩
  · obtain ⟨v, q⟩ := I.cell x c e
    exact absurd (Nat.lt_of_lt_of_le q.lt (by rw [z]; exact hb)) (Nat.lt_irrefl _)
  · exact absurd (Nat.lt_of_lt_of_le (Heap.lt_size (I.pin p hp).1) (by rw [z]; exact hb)) (Nat.lt_irrefl _)
structure Turn (P : Program) (w : World) (K : PySem.W.Frag) (tg : Expr) (J : It) (fp : List Addr) (it : Addr) (tn : Nat → Heap → Prop) : Prop where
  mem : it ∈ fp
  obj : ∀ i h, tn i h → ∀ b ∈ fp, ∃ o, h.get? b = some o ∧ ∀ v, o.data ≠ .cell v
  keep : ∀ i h h', tn i h → (∀ b ∈ fp, ∀ o, h.get? b = some o → h'.get? b = some o) → tn i h'
  item : ∀ (X : Cx), X.prog = P → X.w = w → X.K = K → X.calm = true → ∀ (i : Nat) (pins : List (Addr × Obj)) (s : Shared) (σ : St) (H : Hp) (E : Value → Shared → Prop), Inv X pins σ H s → (∀ b ∈ fp, FpOk X pins H b) → tn i s.heap → J.go i H →
    wpAny (model P w) X.A (pyNext (.ref it)) (fun r s1 => ∃ u, r = some u ∧
      wpAny (model P w) X.A (letOwnedTupleGo tg (.ref it) u) (fun _ s2 => ∃ x H', Inv X pins σ H' s2 ∧ RelV x u ∧ J.yld i H x H' ∧ tn (i + 1) s2.heap ∧ ∀ b ∈ fp, H' b = none) E s1) E s
  done : ∀ (X : Cx), X.prog = P → X.w = w → X.K = K → X.calm = true → ∀ (i : Nat) (pins : List (Addr × Obj)) (s : Shared) (σ : St) (H : Hp) (E : Value → Shared → Prop), Inv X pins σ H s → (∀ b ∈ fp, FpOk X pins H b) → tn i s.heap → J.stop i H →
    wpAny (model P w) X.A (pyNext (.ref it)) (fun r s1 => r = none ∧ Inv X pins σ H s1) E s
  self : ∀ (A : Around) (i : Nat) (s : Shared) (Q : Value → Shared → Prop) (E : Value → Shared → Prop), tn i s.heap → Q (.ref it) s → wpAny (model P w) A (pyIter (.ref it)) Q E s
abbrev TI := St → Hp → (It → Hp → Prop) → Prop
/-- an iterator has come -/
def PIE (X : Cx) (pins : List (Addr × Obj)) (σ : St) (tg : Expr) (R : It → Hp → Prop) (itv : Value) (s2 : Shared) : Prop :=
  ∃ (it : Addr) (fp : List Addr) (tn : Nat → Heap → Prop) (J : It) (H' : Hp), itv = .ref it ∧ Inv X pins σ H' s2 ∧ Turn X.prog X.w X.K tg J fp it tn ∧ tn 0 s2.heap ∧ (∀ b ∈ fp, FpOk X pins H' b) ∧ R J H'
def PI (X : Cx) (tg iter : Expr) (wi : TI) : Prop :=
  ∀ (pins : List (Addr × Obj)) (s : Shared) (σ : St) (H : Hp) (R : It → Hp → Prop), Inv X pins σ H s → wi σ H R →
    wpAny (model X.prog X.w) X.A (eval iter X.env) (fun v s1 => wpAny (model X.prog X.w) X.A (pyIter v) (PIE X pins σ tg R) X.xe s1) X.xe s

/-- the step ahead of the store is nothing for an iterator that keeps no tuple -/
theorem go_of {M : Model} {A : Around} {E : Value → Shared → Prop} {s : Shared} {tg : Expr} {it : Addr} {u : Value} {o : Obj} {n : String} {vs : Array Value} {Q : Unit → Shared → Prop} (ho : s.heap.get? it = some o) (hc : o.cls = .type n) (hd : o.data = .fields vs)
    (hn : ["enumerate", "zip", "dict_itemiterator", "dict_reverseitemiterator", "odict_iterator", "itertools.zip_longest", "itertools.pairwise"].contains n = false) (hQ : Q () s) : wpAny M A (letOwnedTupleGo tg (.ref it) u) Q E s := by
  unfold letOwnedTupleGo
  cases tg <;> first
    | exact wpAny_pure hQ
    | (cases u <;> first
        | exact wpAny_pure hQ
        | (refine wpAny_bind (wpAny_load ho ?_)
           rw [hc, hd]
           show wpAny M A (if (["enumerate", "zip", "dict_itemiterator", "dict_reverseitemiterator", "odict_iterator", "itertools.zip_longest", "itertools.pairwise"].contains n && vs[0]? == some (rawInt _)) = true then _ else _) Q E s
           rw [if_neg (by intro h; rw [hn, Bool.false_and] at h; cases h)]
           exact wpAny_pure hQ))

/-- the list at a, as it stands at each turn (a loop may append to it) -/
def Itl (K : PySem.W.Frag) (a : Addr) : It :=
  ⟨fun i H => ∃ xs x, SqL K H a xs ∧ xs[i]? = some x, fun i H x H' => H' = H ∧ ∀ xs, SqL K H a xs → xs[i]? = some x, fun i H => ∃ xs, SqL K H a xs ∧ xs.length ≤ i⟩
def Itt (K : PySem.W.Frag) (a : Addr) : It :=
  ⟨fun i H => ∃ xs x, SqT K H a xs ∧ xs[i]? = some x, fun i H x H' => H' = H ∧ ∀ xs, SqT K H a xs → xs[i]? = some x, fun i H => ∃ xs, SqT K H a xs ∧ xs.length ≤ i⟩
/-- lo, lo + 1, .. (n of them) -/
def Itr (lo : Int) (n : Nat) : It := ⟨fun i _ => i < n, fun i H x H' => H' = H ∧ x = .int (lo + i), fun i _ => n ≤ i⟩
theorem turn_list {P : Program} {w : World} {K : PySem.W.Frag} {tg : Expr} (a it : Addr) : Turn P w K tg (Itl K a) [it] it (fun i h => h.IsListIter it a i) where
  mem := by simp
  obj := fun i h st b hb => by
    have e : b = it := by simpa using hb
    subst e
    obtain ⟨o, e, c, d⟩ := st
    exact ⟨o, e, fun v z => by rw [d] at z; cases z⟩
  keep := fun i h h' st k => st.at fun o e => k it (by simp) o e
  item := by
    intro X hP hw hK hc i pins s σ H E I hf st hg
    subst hP hw hK
    obtain ⟨xs, x, hq, hx⟩ := hg
    obtain ⟨its, rv, p, hz⟩ := I.list hq
    obtain ⟨u, hu, ru⟩ := rv.get hx
    obtain ⟨f0, f1, f2, f3, f4, f5⟩ := hf it (by simp)
    refine wpAny_pyNext_list_item st p.isList (x := u) (by simpa using hu) fun h' st' sb => ?_
    have I1 : Inv X pins σ H { s with heap := h' } := I.turned (t' := s.toks) (fun b o hb e => (sb.2 b hb).trans e) f0 f1 f3 f4 f5
    obtain ⟨o, e, c, d⟩ := id st'
    exact ⟨u, rfl, go_of (s := { s with heap := h' }) e c d (by decide) ⟨x, H, I1, ru, ⟨rfl, fun ys hy => by rw [I.list_inj hy hq]; exact hx⟩, st', fun b hb => (hf b hb).1⟩⟩
  done := by
    intro X hP hw hK hc i pins s σ H E I hf st hg
    subst hP hw hK
    obtain ⟨xs, hq, hx⟩ := hg
    obtain ⟨its, rv, p, hz⟩ := I.list hq
    obtain ⟨f0, f1, f2, f3, f4, f5⟩ := hf it (by simp)
    have hl := rv.length
    exact wpAny_pyNext_list_end (I.ok.hd hc) st p.isList (by simp; omega) fun h' eb => ⟨rfl, I.turned (t' := s.toks) (fun b o hb e => eb b o hb e) f0 f1 f3 f4 f5⟩
  self := fun _ _ _ _ _ st h => wpAny_pyIter_listiter st h
theorem turn_tuple {P : Program} {w : World} {K : PySem.W.Frag} {tg : Expr} (a it : Addr) : Turn P w K tg (Itt K a) [it] it (fun i h => h.IsTupleIter it a i) where
  mem := by simp
  obj := fun i h st b hb => by
    have e : b = it := by simpa using hb
    subst e
    obtain ⟨o, e, c, d⟩ := st
    exact ⟨o, e, fun v z => by rw [d] at z; cases z⟩
  keep := fun i h h' st k => st.at fun o e => k it (by simp) o e
  item := by
    intro X hP hw hK hc i pins s σ H E I hf st hg
    subst hP hw hK
    obtain ⟨xs, x, hq, hx⟩ := hg
    obtain ⟨its, rv, p, hz⟩ := I.tuple hq
    obtain ⟨u, hu, ru⟩ := rv.get hx
    obtain ⟨f0, f1, f2, f3, f4, f5⟩ := hf it (by simp)
    refine wpAny_pyNext_tuple_item st (show s.heap.IsTuple a its.toArray from p) (x := u) (by simpa using hu) fun h' st' sb => ?_
    have I1 : Inv X pins σ H { s with heap := h' } := I.turned (t' := s.toks) (fun b o hb e => (sb.2 b hb).trans e) f0 f1 f3 f4 f5
    obtain ⟨o, e, c, d⟩ := id st'
    exact ⟨u, rfl, go_of (s := { s with heap := h' }) e c d (by decide) ⟨x, H, I1, ru, ⟨rfl, fun ys hy => by rw [I.tuple_inj hy hq]; exact hx⟩, st', fun b hb => (hf b hb).1⟩⟩
  done := by
    intro X hP hw hK hc i pins s σ H E I hf st hg
    subst hP hw hK
    obtain ⟨xs, hq, hx⟩ := hg
    obtain ⟨its, rv, p, hz⟩ := I.tuple hq
    obtain ⟨f0, f1, f2, f3, f4, f5⟩ := hf it (by simp)
    have hl := rv.length
    exact wpAny_pyNext_tuple_end (I.ok.hd hc) st (show s.heap.IsTuple a its.toArray from p) (by simp; omega) fun h' eb => ⟨rfl, I.turned (t' := s.toks) (fun b o hb e => eb b o hb e) f0 f1 f3 f4 f5⟩
  self := fun _ _ _ _ _ st h => wpAny_pyIter_tupleiter st h
theorem turn_range {P : Program} {w : World} {K : PySem.W.Frag} {tg : Expr} (it : Addr) (lo : Int) (n : Nat) : Turn P w K tg (Itr lo n) [it] it (fun i h => IsRangeIter h it (lo + (i : Nat) * 1) ((n : Int) - (i : Nat)) 1) where
  mem := by simp
  obj := fun i h st b hb => by
    have e : b = it := by simpa using hb
    subst e
    exact ⟨_, st, fun v z => by
      have z' : Data.fields _ = Data.cell v := z
      cases z'⟩
  keep := fun i h h' st k => k it (by simp) _ st
  item := by
    intro X hP hw hK hc i pins s σ H E I hf st hg
    subst hP hw hK
    obtain ⟨f0, f1, f2, f3, f4, f5⟩ := hf it (by simp)
    have W := Walks.range (prog := X.prog) (w := X.w) (I.ok.hd hc) it lo 1 n
    refine W.item i s _ _ hg st fun v h' tk hv st' kk => ?_
    obtain ⟨t, rfl⟩ := hv
    have I1 : Inv X pins σ H { s with heap := h', toks := tk } := I.turned (fun b o hb e => kk b o (by simpa using hb) e) f0 f1 f3 f4 f5
    refine ⟨_, rfl, go_of (s := { s with heap := h', toks := tk }) (n := "range_iterator") st' rfl rfl (by decide) ⟨.int (lo + i), H, I1, ⟨t, ?_⟩, ⟨rfl, rfl⟩, st', fun b hb => (hf b hb).1⟩⟩
    rw [Int.mul_one]
  done := by
    intro X hP hw hK hc i pins s σ H E I hf st hg
    subst hP hw hK
    obtain ⟨f0, f1, f2, f3, f4, f5⟩ := hf it (by simp)
    exact wpAny_pyNext_range_end (I.ok.hd hc) st (by have : n ≤ i := hg; omega) fun h' eb => ⟨rfl, I.turned (t' := s.toks) (fun b o hb e => eb b o hb e) f0 f1 f3 f4 f5⟩
  self := fun _ _ _ _ _ st h => wpAny_pyIter_rangeiter st h
end L2

namespace L2
open PySem PySem.Spec PyProof.Rows
section
variable {X : Cx} {tg : Expr}
def iList (K : PySem.W.Frag) (tl : TE) : TI := fun σ H R => tl σ H fun x H1 => ∃ a, x = .ref a ∧ (∃ xs, SqL K H1 a xs) ∧ R (Itl K a) H1
def iTup (K : PySem.W.Frag) (tl : TE) : TI := fun σ H R => tl σ H fun x H1 => ∃ a, x = .ref a ∧ (∃ xs, SqT K H1 a xs) ∧ R (Itt K a) H1
theorem pi_list {l : Expr} {tl : TE} (hl : PE X l tl) : PI X tg l (iList X.K tl) := by
  intro pins s σ H R I h
  refine thn (hl pins s σ H _ I h) fun v s1 ⟨x, H1, I1, r1, q1⟩ => ?_
  obtain ⟨a, e, ⟨xs, hq⟩, q⟩ := q1
  subst e
  cases r1
  obtain ⟨its, rv, p, hz⟩ := I1.list hq
  refine wpAny_pyIter_list p.isList ?_
  refine ⟨s1.heap.objs.size, [s1.heap.objs.size], _, _, H1, rfl, I1.kept (t' := s1.toks) fun b o e => Heap.get?_push_of_some _ e, turn_list a _, ⟨_, Heap.get?_push_size _ rfl, rfl, rfl⟩, fun b hb => ?_, q⟩
  have e : b = s1.heap.objs.size := by simpa using hb
  subst e
  exact I1.fpOk (Nat.le_refl _) (I1.hok.fresh (Nat.le_refl _))
theorem pi_tup {l : Expr} {tl : TE} (hl : PE X l tl) : PI X tg l (iTup X.K tl) := by
  intro pins s σ H R I h
  refine thn (hl pins s σ H _ I h) fun v s1 ⟨x, H1, I1, r1, q1⟩ => ?_
  obtain ⟨a, e, ⟨xs, hq⟩, q⟩ := q1
  subst e
  cases r1
  obtain ⟨its, rv, p, hz⟩ := I1.tuple hq
  refine wpAny_pyIter_tuple (show s1.heap.IsTuple a its.toArray from p) ?_
  refine ⟨s1.heap.objs.size, [s1.heap.objs.size], _, _, H1, rfl, I1.kept (t' := s1.toks) fun b o e => Heap.get?_push_of_some _ e, turn_tuple a _, ⟨_, Heap.get?_push_size _ rfl, rfl, rfl⟩, fun b hb => ?_, q⟩
  have e : b = s1.heap.objs.size := by simpa using hb
  subst e
  exact I1.fpOk (Nat.le_refl _) (I1.hok.fresh (Nat.le_refl _))
/-- a range object just made, walked -/
theorem range_it {pins : List (Addr × Obj)} {σ : St} {H : Hp} {s : Shared} {R : It → Hp → Prop} {E : Value → Shared → Prop} {lo hi : Int} {t u v : Tok} {tk : Nat} (I : Inv X pins σ H s) (h1 : -(2 ^ 62) ≤ lo) (h2 : lo < 2 ^ 62) (h3 : -(2 ^ 62) ≤ hi) (h4 : hi < 2 ^ 62)
    (q : R (Itr lo (hi - lo).toNat) H) : wpAny (model X.prog X.w) X.A (pyIter (.ref s.heap.objs.size)) (PIE X pins σ tg R) E { s with heap := s.heap.push { cls := .type "range", data := .fields #[.int lo t, .int hi u, .int 1 v] }, toks := tk } := by
  refine wpAny_pyIter_range (IsRange.new ..) (small_one h1 h2 h3 h4) ?_
  have I1 : Inv X pins σ H { s with heap := s.heap.push { cls := .type "range", data := .fields #[.int lo t, .int hi u, .int 1 v] }, toks := tk } := I.kept fun b o e => Heap.get?_push_of_some _ e
  refine ⟨(s.heap.push { cls := .type "range", data := .fields #[.int lo t, .int hi u, .int 1 v] }).objs.size, [(s.heap.push { cls := .type "range", data := .fields #[.int lo t, .int hi u, .int 1 v] }).objs.size], _, _, H, rfl,
    I1.kept (t' := tk) fun b o e => Heap.get?_push_of_some _ e, turn_range _ lo (hi - lo).toNat, ?_, fun b hb => ?_, q⟩
  · have e1 : lo + ((0 : Nat) : Int) * 1 = lo := by simp
    have e2 : (((hi - lo).toNat : Nat) : Int) - ((0 : Nat) : Int) = Builtin.Range.rangeSize lo hi 1 := by rw [rangeSize_one]; split <;> omega
    show IsRangeIter _ _ (lo + ((0 : Nat) : Int) * 1) ((((hi - lo).toNat : Nat) : Int) - ((0 : Nat) : Int)) 1
    rw [e1, e2]
    exact Heap.get?_push_size _ rfl
  · have e : b = (s.heap.push { cls := .type "range", data := .fields #[.int lo t, .int hi u, .int 1 v] }).objs.size := by simpa using hb
    subst e
    exact I1.fpOk (Nat.le_refl _) (I1.hok.fresh (Nat.le_refl _))
def iRng1 (ta : TA) : TI := fun σ H R => ta σ H fun vs H1 => ∃ j : Int, vs = [.int j] ∧ -(2 ^ 62) ≤ j ∧ j < 2 ^ 62 ∧ R (Itr 0 j.toNat) H1
theorem pi_range1 {a : Expr} {ta : TA} {p pos : Pos} (hg : Gl X "range") (hm : X.mg "range" = none) (ha : PA X [a] ta) (hs : starEach [a] X.env = [(false, eval a X.env)] := by rfl) : PI X tg (.Call (.Name "range" p) [a] [] pos) (iRng1 ta) := by
  intro pins s σ H R I h
  refine Call_ (ld_blt I hg hm boot_range (PyProof.Rows.callWith_type1 (thn (ha pos pins s σ H _ I h) fun us s1 ⟨vs, H1, I1, r1, q1⟩ => ?_) hs rfl))
  obtain ⟨j, e, q1, q2, q⟩ := q1
  subst e
  cases r1 with
  | cons r rr =>
    cases rr
    obtain ⟨t, rfl⟩ := r
    exact call_range_1 (range_it I1 (by omega) (by omega) q1 q2 (by simpa using q))
/-! ### for -/
/-- W: the invariant by the turn and a measure; N: what the body is to reach -/
def tFor (wi : TI) (g : TG) (tb : TS) : TS := fun D σ H => wi σ H fun J H1 => ∃ W : Nat → Nat → St → Hp → Prop, (∃ m, W 0 m σ H1) ∧ ∀ i m σ H, W i m σ H →
  (J.stop i H ∧ D.nx σ H) ∨ (J.go i H ∧ ∃ N : St → Hp → Prop, (∀ σ' H', N σ' H' → ∃ m', m' < m ∧ W (i + 1) m' σ' H') ∧ ∀ x H', J.yld i H x H' → g x σ H' fun σ2 H2 => tb { D with nx := N, ct := N, bk := D.nx } σ2 H2)
/-- the records at fp as they stand -/
def pinsAt (fp : List Addr) (h : Heap) : List (Addr × Obj) := fp.filterMap fun b => (h.get? b).map fun o => (b, o)
theorem mem_pinsAt {fp : List Addr} {h : Heap} {b : Addr} {o : Obj} (hb : b ∈ fp) (e : h.get? b = some o) : (b, o) ∈ pinsAt fp h := List.mem_filterMap.mpr ⟨b, hb, by rw [e]; rfl⟩
theorem of_pinsAt {fp : List Addr} {h : Heap} {p : Addr × Obj} (hp : p ∈ pinsAt fp h) : p.1 ∈ fp ∧ h.get? p.1 = some p.2 := by
  obtain ⟨b, hb, e⟩ := List.mem_filterMap.mp hp
  cases q : h.get? b with
  | none => rw [q] at e; cases e
  | some o =>
    rw [q] at e
    have e' : (b, o) = p := Option.some.inj e
    subst e'
    exact ⟨hb, q⟩
theorem Inv.pinned {pins : List (Addr × Obj)} {σ : St} {H : Hp} {s : Shared} {fp : List Addr} (I : Inv X pins σ H s) (hf : ∀ b ∈ fp, FpOk X pins H b) (ho : ∀ b ∈ fp, ∃ o, s.heap.get? b = some o ∧ ∀ v, o.data ≠ .cell v) : Inv X (pins ++ pinsAt fp s.heap) σ H s :=
  I.pins_of fun p hp => (List.mem_append.mp hp).elim (fun z => I.pin p (List.mem_append_right _ z)) fun z => by
    obtain ⟨hb, e⟩ := of_pinsAt z
    obtain ⟨f0, f1, f2, _⟩ := hf p.1 hb
    obtain ⟨o, e', d⟩ := ho p.1 hb
    rw [e] at e'; cases e'
    exact ⟨e, f0, f1, f2, d⟩
theorem Inv.unpinned {pins pl : List (Addr × Obj)} {σ : St} {H : Hp} {s : Shared} (I : Inv X (pins ++ pl) σ H s) : Inv X pins σ H s := I.pins_of fun p hp => I.pin p (List.mem_append_right _ (List.mem_append_left _ hp))
theorem ps_for {iter : Expr} {body : List Stmt} {wi : TI} {g : TG} {tb : TS} {pos : Pos} (hp : PassesOwn (model X.prog X.w) X.A X.env X.xe) (hc : X.calm = true) (hi : PI X tg iter wi) (hg : PG X tg g) (hb : PSs X body tb)
    (hs : ∀ x, foldedSetIterable iter X.env x = pure x := by intro _; rfl) : PS X (.For tg iter body [] pos) (tFor wi g tb) := by
  intro pins s σ H D I h
  refine wpAny_For (thn (hi pins s σ H _ I h) fun v s1 h1 => thn h1 fun itv s2 h2 => ?_) hs
  obtain ⟨it, fp, tn, J, H2, e, I2, T, st2, f2, W, ⟨m0, w0⟩, turn⟩ := h2
  subst e
  -- what stays true of the iterator's objects through the loop
  have stat : ∀ {H' : Hp}, (∀ b ∈ fp, H' b = none) → ∀ b ∈ fp, FpOk X pins H' b := fun hn b hb => ⟨hn b hb, (f2 b hb).2⟩
  refine codeAny_forLoop_any (fun n s' => ∃ i σ' H', Inv X pins σ' H' s' ∧ tn i s'.heap ∧ (∀ b ∈ fp, H' b = none) ∧ W i n σ' H') ?_ m0 ⟨0, σ, H2, I2, st2, fun b hb => (f2 b hb).1, w0⟩
  rintro n s3 ⟨i, σ3, H3, I3, st3, fr3, w3⟩
  rcases turn i n σ3 H3 w3 with ⟨stop, qn⟩ | ⟨go, N, hN, step⟩
  · refine wpAny_passesOwn hp (thn (T.done X rfl rfl rfl hc i pins s3 σ3 H3 X.xe I3 (stat fr3) st3 stop) fun r s4 ⟨hr, I4⟩ => ?_)
    subst hr
    exact wpAny_execs_nil ⟨σ3, H3, I4, qn⟩
  · refine wpAny_passesOwn hp (thn (T.item X rfl rfl rfl hc i pins s3 σ3 H3 X.xe I3 (stat fr3) st3 go) fun r s4 ⟨u, hr, h4⟩ => ?_)
    subst hr
    refine wpAny_passesOwn hp (thn h4 fun _ s5 ⟨x, H5, I5, r5, y5, st5, fr5⟩ => ?_)
    have I5' := I5.pinned (stat fr5) (T.obj _ _ st5)
    refine wpAny_passesOwn hp (thn (hg _ s5 σ3 H5 x u _ I5' r5 (step x H5 y5)) fun _ s6 ⟨σ6, H6, I6, q6⟩ => ?_)
    refine wpAny_passesOwn hp (thn (hb _ s6 σ6 H6 _ I6 q6) fun f s7 q7 => ?_)
    have again : ∀ {σ7 : St} {H7 : Hp}, Inv X (pins ++ pinsAt fp s5.heap) σ7 H7 s7 → N σ7 H7 → ∃ m, m < n ∧ ∃ i σ' H', Inv X pins σ' H' s7 ∧ tn i s7.heap ∧ (∀ b ∈ fp, H' b = none) ∧ W i m σ' H' := fun {σ7 H7} I7 n7 => by
      obtain ⟨m', hm, w7⟩ := hN σ7 H7 n7
      refine ⟨m', hm, i + 1, σ7, H7, I7.unpinned, T.keep _ _ _ st5 fun b hb o e => (I7.pin (b, o) (List.mem_append_right _ (List.mem_append_right _ (mem_pinsAt hb e)))).1, fun b hb => ?_, w7⟩
      obtain ⟨o, e, d⟩ := T.obj _ _ st5 b hb
      exact (I7.pin (b, o) (List.mem_append_right _ (List.mem_append_right _ (mem_pinsAt hb e)))).2.1
    cases f with
    | next => obtain ⟨σ7, H7, I7, n7⟩ := q7; exact again I7 n7
    | cont => obtain ⟨σ7, H7, I7, n7⟩ := q7; exact again I7 n7
    | brk => obtain ⟨σ7, H7, I7, q7⟩ := q7; exact ⟨σ7, H7, I7.unpinned, q7⟩
    | ret v => obtain ⟨x7, σ7, H7, I7, r7, q7⟩ := q7; exact ⟨x7, σ7, H7, I7.unpinned, r7, q7⟩
end

/-! ### the forms one uses -/
/-- over a list that the body leaves as it is -/
theorem for_list {K : PySem.W.Frag} {a : Addr} {xs : List V} {g : TG} {tb : TS} {D : Ends} {σ : St} {H : Hp} (Pv : Nat → St → Hp → Prop) (h0 : Pv 0 σ H) (hl : ∀ i σ H, i ≤ xs.length → Pv i σ H → SqL K H a xs)
    (hs : ∀ i x σ H, xs[i]? = some x → Pv i σ H → g x σ H fun σ2 H2 => tb { D with nx := Pv (i + 1), ct := Pv (i + 1), bk := D.nx } σ2 H2) (hd : ∀ σ H, Pv xs.length σ H → D.nx σ H) :
    ∃ W : Nat → Nat → St → Hp → Prop, (∃ m, W 0 m σ H) ∧ ∀ i m σ H, W i m σ H →
      ((Itl K a).stop i H ∧ D.nx σ H) ∨ ((Itl K a).go i H ∧ ∃ N : St → Hp → Prop, (∀ σ' H', N σ' H' → ∃ m', m' < m ∧ W (i + 1) m' σ' H') ∧ ∀ x H', (Itl K a).yld i H x H' → g x σ H' fun σ2 H2 => tb { D with nx := N, ct := N, bk := D.nx } σ2 H2) := by
  refine ⟨fun i m σ H => m = xs.length - i ∧ i ≤ xs.length ∧ Pv i σ H, ⟨xs.length, by simp, Nat.zero_le _, h0⟩, ?_⟩
  rintro i m σ H ⟨rfl, hi, p⟩
  have q := hl i σ H hi p
  by_cases hlt : i < xs.length
  · refine .inr ⟨⟨xs, xs[i], q, by simp [hlt]⟩, Pv (i + 1), fun σ' H' p' => ⟨xs.length - (i + 1), by omega, rfl, hlt, p'⟩, fun x H' y => ?_⟩
    obtain ⟨e, y⟩ := y
    subst e
    exact hs i x σ _ (y xs q) p
  · have e : i = xs.length := by omega
    subst e
    exact .inl ⟨⟨xs, q, Nat.le_refl _⟩, hd σ H p⟩
theorem for_tup {K : PySem.W.Frag} {a : Addr} {xs : List V} {g : TG} {tb : TS} {D : Ends} {σ : St} {H : Hp} (Pv : Nat → St → Hp → Prop) (h0 : Pv 0 σ H) (hl : ∀ i σ H, i ≤ xs.length → Pv i σ H → SqT K H a xs)
    (hs : ∀ i x σ H, xs[i]? = some x → Pv i σ H → g x σ H fun σ2 H2 => tb { D with nx := Pv (i + 1), ct := Pv (i + 1), bk := D.nx } σ2 H2) (hd : ∀ σ H, Pv xs.length σ H → D.nx σ H) :
    ∃ W : Nat → Nat → St → Hp → Prop, (∃ m, W 0 m σ H) ∧ ∀ i m σ H, W i m σ H →
      ((Itt K a).stop i H ∧ D.nx σ H) ∨ ((Itt K a).go i H ∧ ∃ N : St → Hp → Prop, (∀ σ' H', N σ' H' → ∃ m', m' < m ∧ W (i + 1) m' σ' H') ∧ ∀ x H', (Itt K a).yld i H x H' → g x σ H' fun σ2 H2 => tb { D with nx := N, ct := N, bk := D.nx } σ2 H2) := by
  refine ⟨fun i m σ H => m = xs.length - i ∧ i ≤ xs.length ∧ Pv i σ H, ⟨xs.length, by simp, Nat.zero_le _, h0⟩, ?_⟩
  rintro i m σ H ⟨rfl, hi, p⟩
  have q := hl i σ H hi p
  by_cases hlt : i < xs.length
  · refine .inr ⟨⟨xs, xs[i], q, by simp [hlt]⟩, Pv (i + 1), fun σ' H' p' => ⟨xs.length - (i + 1), by omega, rfl, hlt, p'⟩, fun x H' y => ?_⟩
    obtain ⟨e, y⟩ := y
    subst e
    exact hs i x σ _ (y xs q) p
  · have e : i = xs.length := by omega
    subst e
    exact .inl ⟨⟨xs, q, Nat.le_refl _⟩, hd σ H p⟩
theorem for_range {lo : Int} {n : Nat} {g : TG} {tb : TS} {D : Ends} {σ : St} {H : Hp} (Pv : Nat → St → Hp → Prop) (h0 : Pv 0 σ H)
    (hs : ∀ i σ H, i < n → Pv i σ H → g (.int (lo + i)) σ H fun σ2 H2 => tb { D with nx := Pv (i + 1), ct := Pv (i + 1), bk := D.nx } σ2 H2) (hd : ∀ σ H, Pv n σ H → D.nx σ H) :
    ∃ W : Nat → Nat → St → Hp → Prop, (∃ m, W 0 m σ H) ∧ ∀ i m σ H, W i m σ H →
      ((Itr lo n).stop i H ∧ D.nx σ H) ∨ ((Itr lo n).go i H ∧ ∃ N : St → Hp → Prop, (∀ σ' H', N σ' H' → ∃ m', m' < m ∧ W (i + 1) m' σ' H') ∧ ∀ x H', (Itr lo n).yld i H x H' → g x σ H' fun σ2 H2 => tb { D with nx := N, ct := N, bk := D.nx } σ2 H2) := by
  refine ⟨fun i m σ H => m = n - i ∧ i ≤ n ∧ Pv i σ H, ⟨n, by simp, Nat.zero_le _, h0⟩, ?_⟩
  rintro i m σ H ⟨rfl, hi, p⟩
  by_cases hlt : i < n
  · refine .inr ⟨hlt, Pv (i + 1), fun σ' H' p' => ⟨n - (i + 1), by omega, rfl, hlt, p'⟩, fun x H' y => ?_⟩
    obtain ⟨e, y⟩ := y
    subst e y
    exact hs i σ _ hlt p
  · have e : i = n := by omega
    subst e
    exact .inl ⟨Nat.le_refl _, hd σ H p⟩
end L2

namespace L2
open PySem PySem.Spec PyProof.Rows

abbrev R2 := V → V → Hp → VK → Prop
/-- a two-place operation on values: f is binaryOp op, inplaceOp op or compareOp op -/
def OpR (X : Cx) (f : Value → Value → Sem Value) (r : R2) : Prop :=
  ∀ (pins : List (Addr × Obj)) (s : Shared) (σ : St) (H : Hp) (x y : V) (v u : Value) (Q : VK), Inv X pins σ H s → RelV x v → RelV y u → r x y H Q →
    wpAny (model X.prog X.w) X.A (f v u) (EP X pins σ Q) X.xe s
/-- a one-place operation -/
def UnR (X : Cx) (f : Value → Sem Value) (r : V → Hp → VK → Prop) : Prop :=
  ∀ (pins : List (Addr × Obj)) (s : Shared) (σ : St) (H : Hp) (x : V) (v : Value) (Q : VK), Inv X pins σ H s → RelV x v → r x H Q →
    wpAny (model X.prog X.w) X.A (f v) (EP X pins σ Q) X.xe s
/-- a call of a value that is known (a builtin, a type) with values -/
def CallR (X : Cx) (f : Value) (r : List V → Hp → VK → Prop) : Prop :=
  ∀ (pins : List (Addr × Obj)) (s : Shared) (σ : St) (H : Hp) (xs : List V) (us : List Value) (Q : VK), Inv X pins σ H s → Vals xs us → r xs H Q →
    wpAny (model X.prog X.w) X.A (call f us) (EP X pins σ Q) X.xe s
def tOp (r : R2) (ta tb : TE) : TE := fun σ H Q => ta σ H fun x H1 => tb σ H1 fun y H2 => r x y H2 Q
def tUn (r : V → Hp → VK → Prop) (ta : TE) : TE := fun σ H Q => ta σ H fun x H1 => r x H1 Q
/-- ints in, under C, and a value out -/
def rI (C : Int → Int → Prop) (g : Int → Int → V) : R2 := fun x y H Q => ∃ i j, x = .int i ∧ y = .int j ∧ C i j ∧ Q (g i j) H
def rI0 (g : Int → Int → V) : R2 := fun x y H Q => ∃ i j, x = .int i ∧ y = .int j ∧ Q (g i j) H
def rU (g : Int → V) : V → Hp → VK → Prop := fun x H Q => ∃ i, x = .int i ∧ Q (g i) H

section
variable {X : Cx} {a b c : Expr} {ta tb tc : TE} {pos : Pos}

theorem binT (ha : PE X a ta) (hb : PE X b tb) {pins : List (Addr × Obj)} {s : Shared} {σ : St} {H : Hp} {R : V → V → Hp → Prop} (I : Inv X pins σ H s)
    (h : ta σ H fun x H1 => tb σ H1 fun y H2 => R x y H2) {Q : Value → Shared → Prop} {f : Value → Value → Sem Value}
    (hf : ∀ v u s2 x y H2, Inv X pins σ H2 s2 → RelV x v → RelV y u → R x y H2 → wpAny (model X.prog X.w) X.A (f v u) Q X.xe s2) :
    wpAny (model X.prog X.w) X.A (eval a X.env) (fun v s₁ => wpAny (model X.prog X.w) X.A (eval b X.env) (fun u s₂ => wpAny (model X.prog X.w) X.A (f v u) Q X.xe s₂) X.xe s₁) X.xe s := by
  refine thn (ha pins s σ H _ I h) fun v s1 ⟨x, H1, I1, r1, q1⟩ => ?_
  refine thn (hb pins s1 σ H1 _ I1 q1) fun u s2 ⟨y, H2, I2, r2, q2⟩ => ?_
  exact hf v u s2 x y H2 I2 r1 r2 q2

theorem pe_op {op : Operator} {r : R2} (ho : OpR X (binaryOp op) r) (ha : PE X a ta) (hb : PE X b tb) : PE X (.BinOp a op b pos) (tOp r ta tb) := by
  intro pins s σ H Q I h
  exact wpAny_BinOp (binT ha hb I h fun v u s2 x y H2 I2 rx ry q => ho pins s2 σ H2 x y v u Q I2 rx ry q)
theorem pe_un {op : UnaryOp} {r : V → Hp → VK → Prop} (ho : UnR X (unaryOp op) r) (ha : PE X a ta) : PE X (.UnaryOp op a pos) (tUn r ta) := by
  intro pins s σ H Q I h
  exact UnaryOp_ (thn (ha pins s σ H _ I h) fun v s1 ⟨x, H1, I1, r1, q1⟩ => ho pins s1 σ H1 x v Q I1 r1 q1)
/-! ### ints -/
theorem opI {f : Value → Value → Sem Value} {C : Int → Int → Prop} {g : Int → Int → Int}
    (rule : ∀ (i j : Int) (t u : Tok) (s : Shared) (Q : Value → Shared → Prop) (E : Value → Shared → Prop), C i j → Q (.int (g i j) s.toks) { s with toks := s.toks + 1 } → wpAny (model X.prog X.w) X.A (f (.int i t) (.int j u)) Q E s) :
    OpR X f (rI C fun i j => .int (g i j)) := by
  intro pins s σ H x y v u Q I rx ry h
  obtain ⟨i, j, rfl, rfl, hc, q⟩ := h
  obtain ⟨t, rfl⟩ := rx
  obtain ⟨t', rfl⟩ := ry
  exact rule i j t t' s _ _ hc ⟨.int (g i j), H, I.tok _, ⟨_, rfl⟩, q⟩
theorem opI0 {f : Value → Value → Sem Value} {g : Int → Int → Int}
    (rule : ∀ (i j : Int) (t u : Tok) (s : Shared) (Q : Value → Shared → Prop) (E : Value → Shared → Prop), Q (.int (g i j) s.toks) { s with toks := s.toks + 1 } → wpAny (model X.prog X.w) X.A (f (.int i t) (.int j u)) Q E s) :
    OpR X f (rI0 fun i j => .int (g i j)) := by
  intro pins s σ H x y v u Q I rx ry h
  obtain ⟨i, j, rfl, rfl, q⟩ := h
  obtain ⟨t, rfl⟩ := rx
  obtain ⟨t', rfl⟩ := ry
  exact rule i j t t' s _ _ ⟨.int (g i j), H, I.tok _, ⟨_, rfl⟩, q⟩
theorem opB0 {f : Value → Value → Sem Value} {g : Int → Int → Bool}
    (rule : ∀ (i j : Int) (t u : Tok) (s : Shared) (Q : Value → Shared → Prop) (E : Value → Shared → Prop), Q (.bool (g i j)) s → wpAny (model X.prog X.w) X.A (f (.int i t) (.int j u)) Q E s) :
    OpR X f (rI0 fun i j => .bl (g i j)) := by
  intro pins s σ H x y v u Q I rx ry h
  obtain ⟨i, j, rfl, rfl, q⟩ := h
  obtain ⟨t, rfl⟩ := rx
  obtain ⟨t', rfl⟩ := ry
  exact rule i j t t' s _ _ ⟨.bl (g i j), H, I, rfl, q⟩

def CDiv (i j : Int) : Prop := 0 < j ∧ j < 1073741824
def CPow (i j : Int) : Prop := 0 ≤ j ∧ j ≤ 1000000 ∧ i.natAbs < 2 ^ 64
def CMul (i j : Int) : Prop := (-(2 ^ 64) < i ∧ i < 2 ^ 64) ∨ (-(2 ^ 64) < j ∧ j < 2 ^ 64)
theorem CMul.ok {i j : Int} (h : CMul i j) : IntMulOk i j := by
  rcases h with ⟨h1, h2⟩ | ⟨h1, h2⟩
  · exact .of_left (intBits_le_64 h1 h2)
  · exact .of_right (intBits_le_64 h1 h2)
theorem op_add : OpR X (binaryOp .Add) (rI0 fun i j => .int (i + j)) := opI0 fun _ _ _ _ _ _ _ q => add_int q
theorem op_sub : OpR X (binaryOp .Sub) (rI0 fun i j => .int (i - j)) := opI0 fun _ _ _ _ _ _ _ q => sub_int q
theorem op_mul : OpR X (binaryOp .Mult) (rI CMul fun i j => .int (i * j)) := opI fun _ _ _ _ _ _ _ hc q => mul_int q hc.ok
/-- // by a positive divisor -/
theorem op_fdiv : OpR X (binaryOp .FloorDiv) (rI CDiv fun i j => .int (i / j)) := opI fun i j _ _ _ _ _ hc q => by
  have h1 : (0 : Int) < j := hc.1
  have h2 : j < 1073741824 := hc.2
  exact floordiv_int (by omega) (by rw [Int.fdiv_eq_ediv_of_nonneg i (by omega)]; exact q) (.inl (PyProof.noPylong_small (by omega)))
/-- % by a positive divisor of any size -/
theorem op_mod : OpR X (binaryOp .Mod) (rI (fun _ j => 0 < j) fun i j => .int (i % j)) := opI fun i j _ _ _ _ _ hc q => by
  have h1 : (0 : Int) < j := hc
  exact mod_int' (by omega) (by rw [Int.fmod_eq_emod_of_nonneg i (by omega)]; exact q)
theorem op_pow : OpR X (binaryOp .Pow) (rI CPow fun i j => .int (i ^ j.toNat)) := opI fun _ _ _ _ _ _ _ hc q => pow_int_small hc.1 hc.2.1 hc.2.2 q
theorem unI {f : Value → Sem Value} {g : Int → Int}
    (rule : ∀ (i : Int) (t : Tok) (s : Shared) (Q : Value → Shared → Prop) (E : Value → Shared → Prop), Q (.int (g i) s.toks) { s with toks := s.toks + 1 } → wpAny (model X.prog X.w) X.A (f (.int i t)) Q E s) :
    UnR X f (rU fun i => .int (g i)) := by
  intro pins s σ H x v Q I rx h
  obtain ⟨i, rfl, q⟩ := h
  obtain ⟨t, rfl⟩ := rx
  exact rule i t s _ _ ⟨.int (g i), H, I.tok _, ⟨_, rfl⟩, q⟩
theorem un_neg : UnR X (unaryOp .USub) (rU fun i => .int (-i)) := unI fun _ _ _ _ _ q => neg_int q
/-! ### bools among ints: n += (a < b) -/
end

/-! ### comparisons -/
/-- the scalars that == tells apart as data does -/
def scal : V → V → Bool
  | .non, .non => true | .non, .int _ => true | .int _, .non => true | .non, .bl _ => true | .bl _, .non => true | .non, .str _ => true | .str _, .non => true
  | .int _, .int _ => true | .bl _, .bl _ => true | .str _, .str _ => true | .byt _, .byt _ => true
  | .int _, .str _ => true | .str _, .int _ => true | .bl _, .str _ => true | .str _, .bl _ => true
  | _, _ => false
def rEq : R2 := fun x y H Q => scal x y = true ∧ Q (.bl (decide (x = y))) H
def rNe : R2 := fun x y H Q => scal x y = true ∧ Q (.bl (!decide (x = y))) H

theorem dec_int {i j : Int} : decide (V.int i = V.int j) = (i == j) := by
  rw [Bool.eq_iff_iff]
  simp
theorem dec_bl {i j : Bool} : decide (V.bl i = V.bl j) = (i == j) := by
  rw [Bool.eq_iff_iff]
  simp
theorem dec_str {i j : Str} : decide (V.str i = V.str j) = (i == j) := by
  rw [Bool.eq_iff_iff]
  simp
theorem dec_byt {i j : Array UInt8} : decide (V.byt i = V.byt j) = (i.toList == j.toList) := by
  rw [Bool.eq_iff_iff]
  cases i
  cases j
  simp

section
variable {X : Cx} {a b c : Expr} {ta tb tc : TE} {pos : Pos}
theorem fin_bl {pins : List (Addr × Obj)} {σ : St} {H : Hp} {s : Shared} {Q : VK} {k k' : Bool} (I : Inv X pins σ H s) (q : Q (.bl k) H) (e : k = k') : EP X pins σ Q (.bool k') s := by
  subst e
  exact ⟨.bl k, H, I, rfl, q⟩
theorem op_eq : OpR X (compareOp .Eq) rEq := by
  intro pins s σ H x y v u Q I rx ry h
  obtain ⟨hs, q⟩ := h
  cases x with
  | non =>
    cases rx
    cases y with
    | non => cases ry; exact PySem.EqNone.eq_none_none (fin_bl I q (by simp))
    | bl j => cases ry; exact PySem.EqNone.eq_none_bool (fin_bl I q (by simp))
    | int j => obtain ⟨t', rfl⟩ := ry; exact PySem.EqNone.eq_none_int (fin_bl I q (by simp))
    | str j => obtain ⟨t', rfl⟩ := ry; exact PySem.EqNone.eq_none_str (fin_bl I q (by simp))
    | _ => exact absurd (show false = true from hs) Bool.false_ne_true
  | bl i =>
    cases rx
    cases y with
    | non => cases ry; exact PySem.EqNone.eq_bool_none (fin_bl I q (by simp))
    | bl j => cases ry; exact eq_bool (fin_bl I q dec_bl)
    | str j => obtain ⟨t', rfl⟩ := ry; exact PySem.EqMixed.eq_bool_str (fin_bl I q (by simp))
    | _ => exact absurd (show false = true from hs) Bool.false_ne_true
  | int i =>
    obtain ⟨t, rfl⟩ := rx
    cases y with
    | non => cases ry; exact PySem.EqNone.eq_int_none (fin_bl I q (by simp))
    | int j => obtain ⟨t', rfl⟩ := ry; exact eq_int (fin_bl I q dec_int)
    | str j => obtain ⟨t', rfl⟩ := ry; exact PySem.EqMixed.eq_int_str (fin_bl I q (by simp))
    | _ => exact absurd (show false = true from hs) Bool.false_ne_true
  | str i =>
    obtain ⟨t, rfl⟩ := rx
    cases y with
    | non => cases ry; exact PySem.EqNone.eq_str_none (fin_bl I q (by simp))
    | bl j => cases ry; exact PySem.EqMixed.eq_str_bool (fin_bl I q (by simp))
    | int j => obtain ⟨t', rfl⟩ := ry; exact PySem.EqMixed.eq_str_int (fin_bl I q (by simp))
    | str j => obtain ⟨t', rfl⟩ := ry; exact eq_str (fin_bl I q dec_str)
    | _ => exact absurd (show false = true from hs) Bool.false_ne_true
  | byt i =>
    obtain ⟨t, rfl⟩ := rx
    cases y with
    | byt j => obtain ⟨t', rfl⟩ := ry; exact PySem.W.eq_bytes (fin_bl I q dec_byt)
    | _ => exact absurd (show false = true from hs) Bool.false_ne_true
  | _ => cases y <;> exact absurd (show false = true from hs) Bool.false_ne_true
theorem op_ne : OpR X (compareOp .NotEq) rNe := by
  intro pins s σ H x y v u Q I rx ry h
  obtain ⟨hs, q⟩ := h
  cases x with
  | non =>
    cases rx
    cases y with
    | non => cases ry; exact PySem.EqNone.ne_none_none (fin_bl I q (by simp))
    | bl j => cases ry; exact PySem.EqNone.ne_none_bool (fin_bl I q (by simp))
    | int j => obtain ⟨t', rfl⟩ := ry; exact PySem.EqNone.ne_none_int (fin_bl I q (by simp))
    | str j => obtain ⟨t', rfl⟩ := ry; exact PySem.EqNone.ne_none_str (fin_bl I q (by simp))
    | _ => exact absurd (show false = true from hs) Bool.false_ne_true
  | bl i =>
    cases rx
    cases y with
    | non => cases ry; exact PySem.EqNone.ne_bool_none (fin_bl I q (by simp))
    | bl j => cases ry; exact ne_bool (fin_bl I q (congrArg not dec_bl))
    | str j => obtain ⟨t', rfl⟩ := ry; exact PySem.EqMixed.ne_bool_str (fin_bl I q (by simp))
    | _ => exact absurd (show false = true from hs) Bool.false_ne_true
  | int i =>
    obtain ⟨t, rfl⟩ := rx
    cases y with
    | non => cases ry; exact PySem.EqNone.ne_int_none (fin_bl I q (by simp))
    | int j => obtain ⟨t', rfl⟩ := ry; exact ne_int (fin_bl I q (congrArg not dec_int))
    | str j => obtain ⟨t', rfl⟩ := ry; exact PySem.EqMixed.ne_int_str (fin_bl I q (by simp))
    | _ => exact absurd (show false = true from hs) Bool.false_ne_true
  | str i =>
    obtain ⟨t, rfl⟩ := rx
    cases y with
    | non => cases ry; exact PySem.EqNone.ne_str_none (fin_bl I q (by simp))
    | bl j => cases ry; exact PySem.EqMixed.ne_str_bool (fin_bl I q (by simp))
    | int j => obtain ⟨t', rfl⟩ := ry; exact PySem.EqMixed.ne_str_int (fin_bl I q (by simp))
    | str j => obtain ⟨t', rfl⟩ := ry; exact ne_str (fin_bl I q (congrArg not dec_str))
    | _ => exact absurd (show false = true from hs) Bool.false_ne_true
  | byt i =>
    obtain ⟨t, rfl⟩ := rx
    cases y with
    | byt j => obtain ⟨t', rfl⟩ := ry; exact PySem.W.ne_bytes (fin_bl I q (congrArg not dec_byt))
    | _ => exact absurd (show false = true from hs) Bool.false_ne_true
  | _ => cases y <;> exact absurd (show false = true from hs) Bool.false_ne_true

theorem op_lt : OpR X (compareOp .Lt) (rI0 fun i j => .bl (decide (i < j))) := opB0 fun _ _ _ _ _ _ _ q => lt_int q
theorem op_le : OpR X (compareOp .LtE) (rI0 fun i j => .bl (decide (i ≤ j))) := opB0 fun _ _ _ _ _ _ _ q => le_int q
theorem op_gt : OpR X (compareOp .Gt) (rI0 fun i j => .bl (decide (j < i))) := opB0 fun _ _ _ _ _ _ _ q => gt_int q
theorem op_ge : OpR X (compareOp .GtE) (rI0 fun i j => .bl (decide (j ≤ i))) := opB0 fun _ _ _ _ _ _ _ q => ge_int q
/-- is None, is not None: the right side a value none -/
theorem op_isN : OpR X (compareOp .Is) (fun x y H Q => y = .non ∧ Q (.bl (decide (x = .non))) H) := by
  intro pins s σ H x y v u Q I rx ry h
  obtain ⟨rfl, q⟩ := h
  cases ry
  refine is_none_gen (fin_bl I q ?_)
  cases x <;> first
    | (cases rx; rfl)
    | (obtain ⟨t, rfl⟩ := rx; rfl)
theorem nomark (b : Expr) {op : CmpOp} (h : op ≠ .In := by decide) (h2 : op ≠ .NotIn := by decide) : behindInMarks op b = false := by
  have e1 : (op == CmpOp.In) = false := by cases op <;> first | rfl | exact absurd rfl h
  have e2 : (op == CmpOp.NotIn) = false := by cases op <;> first | rfl | exact absurd rfl h2
  cases b <;> simp [behindInMarks, e1, e2]
/-- a comparison as a value; hm: nomark b, or (for in, not in) by with_unfolding_all rfl -/
theorem pe_cmpR {op : CmpOp} {r : R2} (ho : OpR X (compareOp op) r) (ha : PE X a ta) (hb : PE X b tb) (hm : behindInMarks op b = false) : PE X (.Compare a [op] [b] pos) (tOp r ta tb) := by
  intro pins s σ H Q I h
  exact wpAny_Compare1 (binT ha hb I h fun v u s2 x y H2 I2 rx ry q => ho pins s2 σ H2 x y v u Q I2 rx ry q) hm
/-- a reading of a value as a test -/
def tTest (t : TE) : TT := fun σ H Q => t σ H fun x H' => ∃ k, x = .bl k ∧ Q k H'
theorem pt_cmpR {op : CmpOp} {r : R2} (ho : OpR X (compareOp op) r) (ha : PE X a ta) (hb : PE X b tb) (hm : behindInMarks op b = false) : PT X (.Compare a [op] [b] pos) (tTest (tOp r ta tb)) := by
  intro pins s σ H Q I h
  refine wpAny_isTrue_Compare1 (thn (ha pins s σ H _ I h) fun v s1 ⟨x, H1, I1, r1, q1⟩ => thn (hb pins s1 σ H1 _ I1 q1) fun u s2 ⟨y, H2, I2, r2, q2⟩ =>
    thn (ho pins s2 σ H2 x y v u _ I2 r1 r2 q2) fun c s3 ⟨z, H3, I3, r3, k, e, q3⟩ => ?_) hm
  subst e
  cases r3
  exact wpAny_truthy_bool ⟨H3, I3, q3⟩
/-! ### truth -/
theorem line63 : (sizeLine : Nat) < 2 ^ 63 := by rw [sizeLine_eq]; decide
/-! ### strs and bytes -/
theorem op_add_str : OpR X (binaryOp .Add) (fun x y H Q => ∃ i j, x = .str i ∧ y = .str j ∧ i.length + j.length ≤ sizeLine ∧ Q (.str (i ++ j)) H) := by
  intro pins s σ H x y v u Q I rx ry h
  obtain ⟨i, j, rfl, rfl, hz, q⟩ := h
  obtain ⟨t, rfl⟩ := rx
  obtain ⟨t', rfl⟩ := ry
  exact add_str (fun t' tk => ⟨.str (i ++ j), H, I.tok _, ⟨_, rfl⟩, q⟩) hz
/-! ### scalar builtins, by CallR -/
theorem vals1 {x : V} {us : List Value} (r : Vals [x] us) : ∃ u, us = [u] ∧ RelV x u := by
  cases r with
  | cons r1 r2 => cases r2; exact ⟨_, rfl, r1⟩
theorem vals2 {x y : V} {us : List Value} (r : Vals [x, y] us) : ∃ u w', us = [u, w'] ∧ RelV x u ∧ RelV y w' := by
  cases r with
  | cons r1 r2 =>
    cases r2 with
    | cons r3 r4 => cases r4; exact ⟨_, _, rfl, r1, r3⟩
theorem call_min2 (hc : X.calm = true) : CallR X (.builtin "min") (fun xs H Q => ∃ i j, xs = [.int i, .int j] ∧ Q (.int (if j < i then j else i)) H) := by
  intro pins s σ H xs us Q I r h
  obtain ⟨i, j, rfl, q⟩ := h
  obtain ⟨u, w', rfl, ⟨t, rfl⟩, ⟨t', rfl⟩⟩ := vals2 r
  refine min_two_ints (I.ok.hd hc) fun h' tk k => ⟨_, H, I.kept k, ?_, q⟩
  by_cases hj : j < i
  · rw [if_pos hj, if_pos hj]; exact ⟨_, rfl⟩
  · rw [if_neg hj, if_neg hj]; exact ⟨_, rfl⟩
theorem call_str_int : CallR X (.type "str") (fun xs H Q => ∃ i, xs = [.int i] ∧ i.natAbs.log2 < 1920 ∧ Q (.str (toString i)) H) := by
  intro pins s σ H xs us Q I r h
  obtain ⟨i, rfl, hz, q⟩ := h
  obtain ⟨u, rfl, t, rfl⟩ := vals1 r
  exact PySem.P.str_of_int hz ⟨.str _, H, I.tok _, ⟨_, rfl⟩, q⟩
end
end L2

namespace L2
open PySem PySem.Spec PyProof.Rows

/-! ### an instance, its attributes a map -/
structure ObjM (h : Heap) (x dx C : Addr) (mA : Str → Option Value) : Prop where
  obj : h.get? x = some (PySem.W.instObj C dx)
  ns : h.Ns1 dx mA
  ne : dx ≠ x

theorem lookIn_ns {h : Heap} {dx : Addr} {mA : Str → Option Value} (n : h.Ns1 dx mA) : ∃ od, h.get? dx = some od ∧ ∀ name, PySem.W.lookIn name od = some (mA name) := by
  obtain ⟨o, es, ep, ho, hd, hk, _, hm⟩ := n
  refine ⟨o, ho, fun name => ?_⟩
  have e := hm name
  unfold nsFind findBy at e
  rw [← Array.find?_toList] at e
  unfold PySem.W.lookIn
  rw [hd]
  dsimp only
  split
  · rename_i y q
    rw [q] at e
    exact congrArg some e
  · rename_i q
    rw [q] at e
    have a : es.toList.any (·.refKey) = false := by
      rw [List.any_eq_false]
      intro y hy
      obtain ⟨z, t, hkey⟩ := hk y (Array.mem_toList_iff.mp hy)
      simp [DictEntry.refKey, hkey]
    have a' : ¬ es.toList.any (·.refKey) = true := by rw [a]; exact Bool.false_ne_true
    rw [if_neg a']
    exact congrArg some e

theorem ObjM.look {h : Heap} {x dx C : Addr} {mA : Str → Option Value} (I : ObjM h x dx C mA) : ∃ od, PySem.W.InstAt h x (PySem.W.instObj C dx) C (some od) ∧ ∀ name, PySem.W.lookIn name od = some (mA name) :=
  let ⟨od, ho, hl⟩ := lookIn_ns I.ns
  ⟨od, ⟨I.obj, rfl, rfl, ho⟩, hl⟩

section
variable {prog : Program} {w : World} {A : Around} {E : Value → Shared → Prop} {s : Shared} {K : PySem.W.Frag} {x dx C f : Addr} {mA : Str → Option Value} {name : Str} {v : Value}

theorem get_map {expr : Bool} {Q : Value → Shared → Prop} (X : K.In s.heap) (I : ObjM s.heap x dx C mA) (hg : PySem.W.plainGet K C name = true) (hh : PySem.W.hasDictIn K C = true)
    (ha : PySem.W.findIn K (.ref C) name = some none) (hv : mA name = some v) (hv' : PySem.W.handedIn v = true) (h : Q v { s with toks := s.toks + 1 }) :
    wpAny (model prog w) A (getAttr (.ref x) name expr) Q E s := by
  obtain ⟨od, J, hl⟩ := I.look
  exact PySem.W.get_value X J (PySem.W.plainGet_of hg).1 (PySem.W.findObj_own hh ha rfl (by rw [hl, hv])) hv' h

theorem get_meth {pl : Sem Bool} {Q : Value × List Value → Shared → Prop} (X : K.In s.heap) (I : ObjM s.heap x dx C mA) (hg : PySem.W.plainGet K C name = true)
    (hf : PySem.W.findIn K (.ref C) name = some (some (.ref f))) (ht : PySem.W.isFn K (.ref f) = true) (hv : mA name = none) (h : Q (.ref f, [.ref x]) s) :
    wpAny (model prog w) A (getMethod (.ref x) name pl) Q E s := by
  obtain ⟨od, J, hl⟩ := I.look
  exact PySem.W.method_fn X J (PySem.W.plainGet_of hg).1 (PySem.W.plainGet_of hg).2 hf (beq_iff_eq.mp ht) (by show (PySem.W.lookIn name od).map (·.isSome) = some false; rw [hl, hv]; rfl) h

theorem set_map {ns : List Str} {Q : Unit → Shared → Prop} (X : K.In s.heap) (I : ObjM s.heap x dx C mA)
    (hs : PySem.W.findIn K (.ref C) "__setattr__" = some (some (.builtin "object.__setattr__"))) (hp : PySem.W.plainOver K C = true) (ht : PySem.W.takerIn K C name = some none) (hh : PySem.W.hasDictIn K C = true)
    (hw : PySem.Within mA ns) (hsz : ns.length ≤ sizeLine)
    (h : ∀ h', ObjM h' x dx C (fun y => if y = name then some v else mA y) → Heap.SameBut dx s.heap h' → Q () { s with heap := h', toks := s.toks + 2 }) :
    wpAny (model prog w) A (setAttr (.ref x) name v) Q E s := by
  obtain ⟨od, J, hl⟩ := I.look
  refine PySem.W.set_plain X J hs (PySem.W.osa_open (s := { s with toks := s.toks + 1 }) (r := none) X J hp ht fun b => ?_)
  obtain ⟨cd, hc, hd'⟩ := PySem.W.any_some hh
  have hx : s.heap.get? x = some ⟨.ref C, some dx, .plain, #[]⟩ := I.obj
  refine wpAny_bind (wpAny_pure (wpAny_bind (wpAny_bind (wpAny_loadPart hx (wpAny_bind (PySem.W.Looks.here (s := { s with toks := s.toks + 1 }) (PySem.W.looks_clsIn X hc) ?_))))))
  rw [hd']
  refine wpAny_pure (a := some dx) (wpAny_bind (wpAny_pure (wpAny_bind ?_)))
  refine wpAny_nsSet1 (s := { s with toks := s.toks + 1 }) I.ns fun h' hn2 hs2 => ?_
  obtain ⟨oD, esD, epD, hoD, hdD, hcD⟩ := hn2.count (PySem.Within.cons name v hw)
  refine wpAny_bind (wpAny_lookBehind hoD (by rw [hdD]; exact pastItsLine_dict (Nat.le_trans hcD (by rw [List.length_cons]; omega))) ?_)
  exact wpAny_pure (h _ ⟨(hs2.2 _ (Ne.symm I.ne)).trans I.obj, hn2, I.ne⟩ hs2)

/-- C(..): the dict at the heap's end, the instance behind it; then its __init__ -/
theorem make_map {R : Result → Shared → Prop} {vs : List Value} {kw : List (Str × Value)} (X : K.In s.heap) (hm : PySem.W.makesIn K C = true)
    (hi : PySem.W.findIn K (.ref C) "__init__" = some (some (.ref f))) (hf : PySem.W.typeIn K (.ref f) = some (.type "function"))
    (h : codeAny (model prog w) (A.under (.builtin "type.__call__" ⟨.ref C :: vs, kw⟩)) (.call (.ref f) ⟨.ref (s.heap.objs.size + 1) :: vs, kw⟩) (PySem.W.InitBack (s.heap.objs.size + 1) R)
      { s with heap := (s.heap.push PySem.W.emptyDict).push (PySem.W.instObj C s.heap.objs.size) }) :
    codeAny (model prog w) A (.call (.ref C) ⟨vs, kw⟩) R s := by
  obtain ⟨hh, g, d, t, os⟩ := s
  exact PySem.W.make_core (PySem.W.makes_of X hm) (PySem.W.looks_findIn X hi) (fun self => PySem.W.bind_fn X self hf) (.inl rfl) h
end

/-! ### the attributes as a list of pairs -/
def putF (f : Str) (v : V) : List (Str × V) → List (Str × V)
  | [] => [(f, v)]
  | (g, x) :: r => if g = f then (g, v) :: r else (g, x) :: putF f v r
theorem lookup_putF (f g : Str) (v : V) : ∀ fs : List (Str × V), (putF f v fs).lookup g = if g = f then some v else fs.lookup g
  | [] => by
    show List.lookup g [(f, v)] = _
    by_cases h : g = f
    · have hb : (g == f) = true := beq_iff_eq.mpr h
      simp only [List.lookup, hb, if_pos h]
    · have hb : (g == f) = false := beq_eq_false_iff_ne.mpr h
      simp only [List.lookup, hb, if_neg h]
  | (k, x) :: r => by
    have ih := lookup_putF f g v r
    rw [show putF f v ((k, x) :: r) = (if k = f then (k, v) :: r else (k, x) :: putF f v r) from rfl]
    by_cases hk : k = f
    · rw [if_pos hk]
      by_cases h : g = k
      · have hb : (g == k) = true := beq_iff_eq.mpr h
        simp only [List.lookup, hb, if_pos (h.trans hk)]
      · have hb : (g == k) = false := beq_eq_false_iff_ne.mpr h
        simp only [List.lookup, hb, if_neg (fun e : g = f => h (e.trans hk.symm))]
    · rw [if_neg hk]
      by_cases h : g = k
      · have hb : (g == k) = true := beq_iff_eq.mpr h
        simp only [List.lookup, hb, if_neg (fun e : g = f => hk (h.symm.trans e))]
      · have hb : (g == k) = false := beq_eq_false_iff_ne.mpr h
        simp only [List.lookup, hb]
        exact ih
theorem keys_putF (f : Str) (v : V) : ∀ fs : List (Str × V), f ∈ (putF f v fs).map (·.1) ∧ ∀ g, g ∈ fs.map (·.1) → g ∈ (putF f v fs).map (·.1)
  | [] => ⟨by simp [putF], fun g h => by simp at h⟩
  | (k, x) :: r => by
    obtain ⟨i1, i2⟩ := keys_putF f v r
    rw [show putF f v ((k, x) :: r) = (if k = f then (k, v) :: r else (k, x) :: putF f v r) from rfl]
    by_cases hk : k = f
    · rw [if_pos hk]
      subst hk
      exact ⟨by simp, fun g h => by simpa using h⟩
    · rw [if_neg hk]
      refine ⟨?_, fun g h => ?_⟩
      · rw [List.map_cons]
        exact List.mem_cons_of_mem _ i1
      · rw [List.map_cons] at h ⊢
        rcases List.mem_cons.mp h with e | e
        · exact List.mem_cons.mpr (.inl e)
        · exact List.mem_cons_of_mem _ (i2 g e)
theorem length_putF (f : Str) (v : V) : ∀ fs : List (Str × V), (putF f v fs).length ≤ fs.length + 1
  | [] => by simp [putF]
  | (k, x) :: r => by
    have ih := length_putF f v r
    rw [show putF f v ((k, x) :: r) = (if k = f then (k, v) :: r else (k, x) :: putF f v r) from rfl]
    by_cases hk : k = f
    · rw [if_pos hk, List.length_cons, List.length_cons]; omega
    · rw [if_neg hk, List.length_cons, List.length_cons]; omega

theorem RelO.some_of {v : V} {o : Option Value} (r : RelO (some v) o) : ∃ u, o = some u ∧ RelV v u := by
  cases o with
  | none => exact (show False from r).elim
  | some u => exact ⟨u, rfl, r⟩
theorem RelO.none_of {o : Option Value} (r : RelO none o) : o = none := by
  cases o with
  | none => rfl
  | some u => exact (show False from r).elim
theorem handed_of {v : V} {u : Value} (r : RelV v u) : PySem.W.handedIn u = true := by
  cases v with
  | non => cases (show u = Value.none from r); rfl
  | bl b => cases (show u = Value.bool b from r); rfl
  | int i => obtain ⟨t, e⟩ := (show ∃ t, u = Value.int i t from r); cases e; rfl
  | str x => obtain ⟨t, e⟩ := (show ∃ t, u = Value.str x t from r); cases e; rfl
  | byt b => obtain ⟨t, e⟩ := (show ∃ t, u = Value.bytes b t from r); cases e; rfl
  | flt b => obtain ⟨t, e⟩ := (show ∃ t, u = Value.float b t from r); cases e; rfl
  | ref a => cases (show u = Value.ref a from r); rfl
  | ty n => cases (show u = Value.type n from r); rfl

section
variable {P : Program} {w : World} {H H' : Hp} {h h' : Heap} {a C dx : Addr} {fs fs' : List (Str × V)}
theorem ins_get (hok : HOk P w H h) (e : H a = some (.ins C dx fs)) : ∃ mA, ObjM h a dx C mA ∧ (∀ f, RelO (fs.lookup f) (mA f)) ∧ PySem.Within mA (fs.map (·.1)) ∧ fs.length ≤ 1000 ∧ H dx = some (.own a) := by
  obtain ⟨d, z, ne, ob, mA, n, r, q⟩ := (show ObjOk P w H h a (.ins C dx fs) from hok a _ e)
  exact ⟨mA, ⟨ob, n, ne⟩, r, q, z, d⟩
end

/-! ### what of the text a class must have -/
structure Cls (K : PySem.W.Frag) (C : Addr) : Prop where
  pg : PySem.W.plainGet K C Str.empty = true
  hd : PySem.W.hasDictIn K C = true
  po : PySem.W.plainOver K C = true
  sa : PySem.W.findIn K (.ref C) "__setattr__" = some (some (.builtin "object.__setattr__"))
theorem Cls.get {K : PySem.W.Frag} {C : Addr} (c : Cls K C) (f : Str) : PySem.W.plainGet K C f = true := c.pg
/-- no class of it has the name -/
def NoAttr (K : PySem.W.Frag) (C : Addr) (f : Str) : Prop := PySem.W.findIn K (.ref C) f = some none
theorem NoAttr.taker {K : PySem.W.Frag} {C : Addr} {f : Str} (n : NoAttr K C f) : PySem.W.takerIn K C f = some none := by
  unfold PySem.W.takerIn
  rw [show PySem.W.findIn K (.ref C) f = some none from n]
  rfl
/-- a method: a plain def of the class or of one above it -/
structure Meth (K : PySem.W.Frag) (C : Addr) (m : Str) (f : Addr) : Prop where
  at_ : PySem.W.findIn K (.ref C) m = some (some (.ref f))
  fn : PySem.W.isFn K (.ref f) = true
  kp : PySem.W.keepIn K (.ref f) = true

section
variable {X : Cx} {pins : List (Addr × Obj)} {σ : St} {H : Hp} {s : Shared} {a C dx : Addr} {fs : List (Str × V)} {f : Str} {v : V} {A : Around} {E : Value → Shared → Prop}

theorem getattr_ok {b : Bool} {Q : Value → Shared → Prop} (I : Inv X pins σ H s) (e : H a = some (.ins C dx fs)) (c : Cls X.K C) (n : NoAttr X.K C f) (l : fs.lookup f = some v)
    (h : ∀ u s', Inv X pins σ H s' → RelV v u → Q u s') : wpAny (model X.prog X.w) A (getAttr (.ref a) f b) Q E s := by
  obtain ⟨mA, O, r, _, _, _⟩ := ins_get I.hok e
  obtain ⟨u, hu, ru⟩ := RelO.some_of (v := v) (o := mA f) (by rw [← l]; exact r f)
  exact get_map I.kIn O (c.get f) c.hd n hu (handed_of ru) (h u _ (I.tok _) ru)

theorem getmeth_ok {m : Str} {g : Addr} {pl : Sem Bool} {Q : Value × List Value → Shared → Prop} (I : Inv X pins σ H s) (e : H a = some (.ins C dx fs)) (c : Cls X.K C) (k : Meth X.K C m g) (l : fs.lookup m = none)
    (h : Q (.ref g, [.ref a]) s) : wpAny (model X.prog X.w) A (getMethod (.ref a) m pl) Q E s := by
  obtain ⟨mA, O, r, _, _, _⟩ := ins_get I.hok e
  have hn : mA m = none := RelO.none_of (by rw [← l]; exact r m)
  exact get_meth I.kIn O (c.get m) k.at_ k.fn hn h

theorem setattr_ok {y : V} {u : Value} {Q : Unit → Shared → Prop} (I : Inv X pins σ H s) (e : H a = some (.ins C dx fs)) (c : Cls X.K C) (n : NoAttr X.K C f) (hl : fs.length < 1000) (ry : RelV y u)
    (h : ∀ s', Inv X pins σ (upd H a (.ins C dx (putF f y fs))) s' → Q () s') : wpAny (model X.prog X.w) A (setAttr (.ref a) f u) Q E s := by
  obtain ⟨mA, O, r, wi, _, ho⟩ := ins_get I.hok e
  have hz : (fs.map (·.1)).length ≤ sizeLine := by rw [List.length_map, sizeLine_eq]; omega
  refine set_map I.kIn O c.sa c.po n.taker c.hd wi hz fun h' O' sb => h _ ?_
  have hd : ∃ o, h'.get? dx = some o := let ⟨o, _, _, e', _⟩ := O'.ns; ⟨o, e'⟩
  refine I.write (x := a) (e := dx) (by rw [e]; exact True.intro) (.inr ho) (fun b q hb z => (sb.2 b hb).trans z) hd ?_
  refine ⟨by rw [upd_ne O.ne]; exact ho, ?_, O.ne, O'.obj, _, O'.ns, fun g => ?_, fun g hg => ?_⟩
  · have := length_putF f y fs; omega
  · show RelO ((putF f y fs).lookup g) (if g = f then some u else mA g)
    rw [lookup_putF]
    by_cases q : g = f
    · rw [if_pos q, if_pos q]; exact ry
    · rw [if_neg q, if_neg q]; exact r g
  · by_cases q : g = f
    · rw [q]; exact (keys_putF f y fs).1
    · refine (keys_putF f y fs).2 g (wi g fun z => hg ?_)
      show (if g = f then some u else mA g) = none
      rw [if_neg q]; exact z

/-- a new instance, tracked, without attributes -/
theorem Inv.made (I : Inv X pins σ H s) : Inv X pins σ (upd (upd H s.heap.objs.size (.own (s.heap.objs.size + 1))) (s.heap.objs.size + 1) (.ins C s.heap.objs.size []))
    { s with heap := (s.heap.push PySem.W.emptyDict).push (PySem.W.instObj C s.heap.objs.size) } := by
  have e1 : (s.heap.push PySem.W.emptyDict).get? s.heap.objs.size = some PySem.W.emptyDict := Heap.get?_push_size s.heap rfl
  have e2 : ((s.heap.push PySem.W.emptyDict).push (PySem.W.instObj C s.heap.objs.size)).get? (s.heap.objs.size + 1) = some (PySem.W.instObj C s.heap.objs.size) := by
    have := Heap.get?_push_size (s.heap.push PySem.W.emptyDict) (o := PySem.W.instObj C s.heap.objs.size) rfl
    rwa [Heap.size_push] at this
  have e3 : (s.heap.push PySem.W.emptyDict).Ns s.heap.objs.size (fun _ => none) := ⟨PySem.W.emptyDict, #[], _, e1, rfl, (fun e he => absurd he (by simp)), fun _ => rfl⟩
  have I1 := I.laid (a := s.heap.objs.size) (o := .own (s.heap.objs.size + 1)) (h' := s.heap.push PySem.W.emptyDict) (t' := s.toks) (fun b u q => Heap.get?_push_of_some _ q) (Nat.le_refl _) ⟨_, e1⟩
  refine I1.laid (a := s.heap.objs.size + 1) (o := .ins C s.heap.objs.size []) (t' := s.toks) (fun b u q => Heap.get?_push_of_some _ q) (Nat.le_of_eq (Heap.size_push _ _)) ?_
  have ne : s.heap.objs.size ≠ s.heap.objs.size + 1 := Nat.ne_of_lt (Nat.lt_succ_self _)
  refine ⟨by rw [upd_ne ne, upd_same], Nat.zero_le _, ne, e2, fun _ => none, (Heap.Ns1.of_empty e3).at fun o q => Heap.get?_push_of_some _ q, fun _ => True.intro, fun y hy => absurd rfl hy⟩

/-- e.f where nothing but the object is asked: through attributeBase (super) and the last hold -/
theorem attr_of {prog : Program} {w : World} {env : Env} {e : Expr} {f : Str} {pos : Pos} {s : Shared} {Q : Value → Shared → Prop} (hb : attributeBase e f env (eval e env) = eval e env)
    (h : wpAny (model prog w) A (eval e env) (fun o s₁ => wpAny (model prog w) A (getAttr o f true) Q E s₁) E s) : wpAny (model prog w) A (eval (.Attribute e f pos) env) Q E s :=
  Attribute_any_ h (by rw [arm_eval_Attribute, hb])
end

/-! ### readings and rules -/
/-- e.f, an attribute of the instance -/
def tFld (K : PySem.W.Frag) (ta : TE) (f : Str) : TE := fun σ H Q => ta σ H fun x H1 => ∃ a C dx fs v, x = .ref a ∧ H1 a = some (.ins C dx fs) ∧ Cls K C ∧ NoAttr K C f ∧ fs.lookup f = some v ∧ Q v H1
/-- e.f = value -/
def sFld (K : PySem.W.Frag) (ta tv : TE) (f : Str) : TS := fun D σ H => tv σ H fun y H1 => ta σ H1 fun x H2 => ∃ a C dx fs, x = .ref a ∧ H2 a = some (.ins C dx fs) ∧ Cls K C ∧ NoAttr K C f ∧ fs.length < 1000 ∧
  D.nx σ (upd H2 a (.ins C dx (putF f y fs)))
section
variable {X : Cx} {o e value : Expr} {f : Str} {pos pos' tpos : Pos} {ta tv : TE}
theorem pe_fld (he : PE X e ta) (hb : attributeBase e f X.env (eval e X.env) = eval e X.env) : PE X (.Attribute e f pos) (tFld X.K ta f) := by
  intro pins s σ H Q I h
  refine attr_of hb (thn (he pins s σ H _ I h) fun u s1 ⟨x, H1, I1, rx, a, C, dx, fs, v, ex, ea, c, n, l, q⟩ => ?_)
  subst ex
  obtain rfl : u = Value.ref a := rx
  exact getattr_ok I1 ea c n l fun u' s2 I2 ru => ⟨v, H1, I2, ru, q⟩
theorem ps_fld (ha : PE X o ta) (hv : PE X value tv) (hs : swapsWith value (some (.Attribute o f pos')) pos.line X.env = pure false) : PS X (.Assign [.Attribute o f pos'] value pos) (sFld X.K ta tv f) := by
  intro pins s σ H D I h
  refine plainObj_wpAny_Assign_Attribute (thn (hv pins s σ H _ I h) fun u s1 ⟨y, H1, I1, ry, q⟩ => thn (ha pins s1 σ H1 _ I1 q) fun ov s2 ⟨x, H2, I2, rx, a, C, dx, fs, ex, ea, c, n, l, q2⟩ => ?_) hs
  subst ex
  obtain rfl : ov = Value.ref a := rx
  exact setattr_ok I2 ea c n l ry fun s3 I3 => ⟨σ, _, I3, q2⟩
/-- what is between an instance and its method: the tree of a method call -/
theorem methcall_of {pl : Sem Bool} {m : Str} {apos : Pos} {args : List Expr} {pins : List (Addr × Obj)} {s : Shared} {σ : St} {H : Hp} {Q : Value → Shared → Prop} {te : TE} (he : PE X e te) (I : Inv X pins σ H s)
    (h : te σ H fun x H1 => ∃ a C dx fs g, x = .ref a ∧ H1 a = some (.ins C dx fs) ∧ Cls X.K C ∧ Meth X.K C m g ∧ fs.lookup m = none ∧
      ∀ s1, Inv X pins σ H1 s1 → wpAny (model X.prog X.w) X.A (callWith pos (.ref g) [.ref a] (backTo pos (starEach args X.env)) (backToKw pos (keywordEach [] X.env))) Q X.xe s1)
    (ht : eval (.Call (.Attribute e m apos) args [] pos) X.env = (do
      let ov ← eval e X.env
      standAt apos.atName
      let (f, first) ← holding [ov] (getMethod ov m pl)
      callWith pos f first (backTo pos (starEach args X.env)) (backToKw pos (keywordEach [] X.env)))) :
    wpAny (model X.prog X.w) X.A (eval (.Call (.Attribute e m apos) args [] pos) X.env) Q X.xe s := by
  refine PySem.W.methodCall_KW (pl := pl) (thn (he pins s σ H _ I h) fun u s1 ⟨x, H1, I1, rx, a, C, dx, fs, g, ex, ea, c, k, l, q⟩ => ?_) ht
  subst ex
  obtain rfl : u = Value.ref a := rx
  exact getmeth_ok I1 ea c k l (q s1 I1)
end

/-! ### isinstance -/
section
variable {X : Cx} {pins : List (Addr × Obj)} {σ : St} {H : Hp} {s : Shared} {A : Around} {E : Value → Shared → Prop} {Q : Value → Shared → Prop} {c : Value} {b : Bool}
end
end L2

namespace L2
open PySem PySem.Spec PyProof.Rows

/-! ### room -/
structure Room (k : Nat) (A : Around) : Prop where
  hd : A.handled = none
  dp : A.depth + 3 * k + 5 < recursionLimit
  un : A.units + 16 * k + 200 < cLine
  gd : A.guards = some []
theorem Room.mono {j k : Nat} {A : Around} (r : Room k A) (h : j ≤ k) : Room j A := ⟨r.hd, by have := r.dp; omega, by have := r.un; omega, r.gd⟩
theorem Room.deeper {k : Nat} {A : Around} (r : Room (k + 1) A) (env : Env) : Room k (A.deeper env) :=
  ⟨r.hd, by have := r.dp; show A.depth + 1 + 3 * k + 5 < _; omega, by have := r.un; show A.units + 3 + 16 * k + 200 < _; omega, r.gd⟩
theorem Room.in1 {k : Nat} {A : Around} (r : Room (k + 1) A) : Room k A.in1 :=
  ⟨r.hd, by have := r.dp; show A.depth + 3 * k + 5 < _; omega, by have := r.un; show A.units + 1 + 16 * k + 200 < _; omega, r.gd⟩
theorem make_depth {A : Around} {C : Addr} {us : List Value} {kw : List (Str × Value)} : (A.under (.builtin "type.__call__" ⟨.ref C :: us, kw⟩)).depth = A.depth + 1 := by
  first | rfl | simp [Around.under, Code.weight, Code.isCreation, Code.isGuard, Code.isCaller, Code.frames, Code.isFrame, guardIds]
theorem make_units {A : Around} {C : Addr} {us : List Value} {kw : List (Str × Value)} : (A.under (.builtin "type.__call__" ⟨.ref C :: us, kw⟩)).units = A.units + 1 := by
  first | rfl | simp [Around.under, Code.cUnits, Code.frames, Code.isFrame]
theorem Room.make {k : Nat} {A : Around} (r : Room (k + 1) A) (C : Addr) (us : List Value) (kw : List (Str × Value)) : Room k (A.under (.builtin "type.__call__" ⟨.ref C :: us, kw⟩)) :=
  ⟨r.hd, by have := r.dp; rw [make_depth]; omega, by have := r.un; rw [make_units]; omega, by have := r.gd; first | exact this | (simpa [Around.under] using this)⟩
theorem Room.depth {k : Nat} {A : Around} (r : Room k A) : A.depth < recursionLimit := by have := r.dp; omega
theorem Room.units {k : Nat} {A : Around} (r : Room k A) : A.units + 64 < cLine := by have := r.un; omega
theorem Room.units0 {k : Nat} {A : Around} (r : Room k A) : A.units < cLine := by have := r.un; omega

/-! ### argument lists and displays -/
def tNil : TA := fun _ H Q => Q [] H
def tCons (ta : TE) (tr : TA) : TA := fun σ H Q => ta σ H fun x H1 => tr σ H1 fun xs H2 => Q (x :: xs) H2
section
variable {X : Cx} {e : Expr} {es : List Expr} {te : TE} {t : TA} {pos : Pos}
theorem pa_nil : PA X [] tNil := fun _ _ _ _ H Q I h => Calls.spliced_nil ⟨[], H, I, .nil, h⟩
theorem pa_cons (ha : PE X e te) (hr : PA X es t) (hs : starEach (e :: es) X.env = (false, eval e X.env) :: starEach es X.env := by rfl) : PA X (e :: es) (tCons te t) := by
  intro pos pins s σ H Q I h
  rw [hs]
  show wpAny _ _ (spliced ((false, eval e X.env) :: backTo pos (starEach es X.env))) _ _ s
  refine Calls.spliced_cons (thn (ha pins s σ H _ I h) fun u s1 ⟨x, H1, I1, r1, q1⟩ => ?_)
  exact thn (hr pos pins s1 σ H1 _ I1 q1) fun us s2 ⟨xs, H2, I2, r2, q2⟩ => ⟨x :: xs, H2, I2, .cons r1 r2, q2⟩

/-- a tuple, a list of written items -/
def tTup (t : TA) : TE := fun σ H Q => t σ H fun xs H1 => xs.length ≤ sizeLine ∧ ∀ p, H1 p = none → Q (.ref p) (upd H1 p (.tup xs))
def tLst (t : TA) : TE := fun σ H Q => t σ H fun xs H1 => xs.length ≤ sizeLine ∧ ∀ p, H1 p = none → Q (.ref p) (upd H1 p (.lst xs))
theorem pe_tup {x1} (h : PA X es t) : PE X (.Tuple es x1 pos) (tTup t) := by
  intro pins s σ H Q I hq
  refine wpAny_Tuple_spliced (thn (h pos pins s σ H _ I hq) fun us s1 ⟨xs, H1, I1, r, z, q⟩ => ⟨by rw [← r.length]; exact z, ?_⟩)
  have hf : H1 s1.heap.objs.size = none := I1.hok.fresh (Nat.le_refl _)
  refine ⟨.ref s1.heap.objs.size, upd H1 s1.heap.objs.size (.tup xs), I1.laid (t' := s1.toks) (fun b u e => Heap.get?_push_of_some _ e) (Nat.le_refl _) ?_, rfl, q _ hf⟩
  exact ⟨z, us, r, ⟨_, Heap.get?_push_size _ rfl, rfl, _, rfl⟩⟩
theorem pe_lst (h : PA X es t) : PE X (.List es pos) (tLst t) := by
  intro pins s σ H Q I hq
  refine wpAny_List_spliced (thn (h pos pins s σ H _ I hq) fun us s1 ⟨xs, H1, I1, r, z, q⟩ => ⟨by rw [← r.length]; exact z, ?_⟩)
  have hf : H1 s1.heap.objs.size = none := I1.hok.fresh (Nat.le_refl _)
  refine ⟨.ref s1.heap.objs.size, upd H1 s1.heap.objs.size (.lst xs), I1.laid (t' := s1.toks) (fun b u e => Heap.get?_push_of_some _ e) (Nat.le_refl _) ?_, rfl, q _ hf⟩
  exact ⟨z, us, 0, r, Heap.get?_push_size _ rfl⟩
end

/-! ### what a def promises -/
/-- a def's promise: the bound arguments in the parameters' order, the heap, the wanted end, the wanted exception -/
abbrev Sp := List V → Hp → VK → XK → Prop
/-- how an exception lies behind a call (file 08 gives it): the callers' frames, abstract heap and state ahead of the call, the wish, the exception, the state -/
abbrev CXT := List Env → Hp → Shared → XK → Value → Shared → Prop

/-- the state at a call -/
structure Env0 (P : Program) (w : World) (K : PySem.W.Frag) (mg : Str → Option Value) (base : Heap) (A : Around) (outer : List Env) (s : Shared) (H : Hp) : Prop where
  frames : A.frames = some outer
  mod : Mod K mg base
  bs : ∀ b o, base.get? b = some o → s.heap.get? b = some o ∧ H b = none
  bsz : base.objs.size ≤ s.heap.objs.size
  funs : s.heap.FunFrames base outer
  frf : ∀ b ∈ frs outer, H b = none
  hok : HOk P w H s.heap
  bare : AllBare s.gens
/-- a call's end -/
def CE (outer : List Env) (P : Program) (w : World) (H : Hp) (s : Shared) (Q : VK) (u : Value) (s' : Shared) : Prop :=
  ∃ v H', s'.os = s.os ∧ AllBare s'.gens ∧ Un (frs outer) [] H H' s.heap s'.heap ∧ HOk P w H' s'.heap ∧ RelV v u ∧ Q v H'
def CR (CX : CXT) (outer : List Env) (P : Program) (w : World) (H : Hp) (s : Shared) (Q : VK) (E : XK) (r : Result) (s' : Shared) : Prop :=
  match r with
  | .ok (.ret u) => CE outer P w H s Q u s'
  | .ok _ => False
  | .error e => CX outer H s E e s'
structure FnOk (P : Program) (w : World) (K : PySem.W.Frag) (mg : Str → Option Value) (base : Heap) (CX : CXT) (k : Nat) (f : Addr) (fd : FuncData) (ps : List Str) (sp : Sp) : Prop where
  len : ∀ vs H Q E, sp vs H Q E → vs.length = ps.length
  run : ∀ (A : Around) (outer : List Env) (s : Shared) (H : Hp) (args : Args) (us : List Value) (vs : List V) (Q : VK) (E : XK), Room k A → Env0 P w K mg base A outer s H → BindsTo s fd args (ps.zip us) → Vals vs us → sp vs H Q E →
    codeAny (model P w) A (.call (.ref f) args) (CR CX outer P w H s Q E) s
theorem Env0.make {P : Program} {w : World} {K : PySem.W.Frag} {mg : Str → Option Value} {base : Heap} {A : Around} {outer : List Env} {s : Shared} {H : Hp} (e : Env0 P w K mg base A outer s H) (C : Addr) (us : List Value) (kw : List (Str × Value)) :
    Env0 P w K mg base (A.under (.builtin "type.__call__" ⟨.ref C :: us, kw⟩)) outer s H := ⟨by first | exact e.frames | (simpa [Around.under, Code.envs, Code.isFrame, pushEnvs] using e.frames), e.mod, e.bs, e.bsz, e.funs, e.frf, e.hok, e.bare⟩
section
variable {X : Cx} {pins : List (Addr × Obj)} {σ : St} {H : Hp} {s s' : Shared}
/-- from a body: what a callee wants -/
theorem Inv.env0 (I : Inv X pins σ H s) : Env0 X.prog X.w X.K X.mg X.base X.A X.stack s H :=
  ⟨I.ok.frames, I.ok.mod, I.bs, Nat.le_trans I.ok.bsz I.sz, I.stack, I.stkFree, I.hok, I.bare⟩
/-- behind a call -/
theorem Inv.after {Q : VK} {u : Value} (I : Inv X pins σ H s) (h : CE X.stack X.prog X.w H s Q u s') : EP X pins σ Q u s' := by
  obtain ⟨v, H', os, bare, un, hok, r, q⟩ := h
  obtain ⟨hh, g, d, t, os'⟩ := s'
  obtain rfl : os' = s.os := os
  exact ⟨v, H', I.call (h' := hh) (g' := g) (d' := d) (t' := t) (ch := []) un hok bare (fun b z => absurd z (by simp)), r, q⟩
end

/-! ### calls -/
/-- f(..): the written arguments, then the defaults dvs; E: what is wanted of an exception -/
def tCall (sp : Sp) (dvs : List V) (E : XK) (t : TA) : TE := fun σ H Q => t σ H fun vs H1 => sp (vs ++ dvs) H1 Q E
/-- o.m(..) of an instance of the class at C -/
def tMeth (C : Addr) (m : Str) (sp : Sp) (dvs : List V) (E : XK) (ta : TE) (t : TA) : TE := fun σ H Q => ta σ H fun x H1 => ∃ a dx fs, x = .ref a ∧ H1 a = some (.ins C dx fs) ∧ fs.lookup m = none ∧
  t σ H1 fun vs H2 => sp (x :: (vs ++ dvs)) H2 Q E
/-- C(..): a new instance and its dict, then __init__ -/
def tMake (C : Addr) (sp : Sp) (dvs : List V) (E : XK) (t : TA) : TE := fun σ H Q => t σ H fun vs H1 => ∀ x dx, H1 x = none → H1 dx = none → dx ≠ x →
  sp (.ref x :: (vs ++ dvs)) (upd (upd H1 dx (.own x)) x (.ins C dx [])) (fun v H2 => v = .non ∧ Q (.ref x) H2) E

/-- how the parameters are bound: us the positional arguments, kw the keywords' values by name, ds the defaults that fill up -/
def Binds (K : PySem.W.Frag) (fd : FuncData) (ps : List Str) (ds : List Value) : Prop :=
  ∀ (s : Shared) (us : List Value), K.In s.heap → (us ++ ds).length = ps.length → BindsTo s fd ⟨us, []⟩ (ps.zip (us ++ ds))
/-- every parameter is given -/
theorem Binds.all {K : PySem.W.Frag} {fd : FuncData} {ps : List Str} (h : ∀ us : List Value, us.length = ps.length → bindArgs fd ⟨us, []⟩ = pure (ps.zip us)) : Binds K fd ps [] := fun s us _ hl => by
  rw [List.append_nil] at hl ⊢
  exact .of_eq (h us hl)

/-- an exception of a callee reaches what this body wants of exceptions -/
def Passes (CX : CXT) (X : Cx) (E : XK) : Prop := ∀ (pins : List (Addr × Obj)) (σ : St) (H : Hp) (s : Shared) (e : Value) (s' : Shared), Inv X pins σ H s → CX X.stack H s E e s' → X.xe e s'

section
variable {X : Cx} {CX : CXT} {k : Nat} {f C : Addr} {fd : FuncData} {ps : List Str} {sp : Sp} {dvs : List V} {ds : List Value} {E : XK} {x m : Str} {p pos apos : Pos} {e o : Expr} {es : List Expr} {ta : TE} {t : TA}

/-- the callee runs -/
theorem run_fn {pins : List (Addr × Obj)} {σ : St} {H : Hp} {s : Shared} {Q : VK} {us : List Value} {vs : List V} (F : FnOk X.prog X.w X.K X.mg X.base CX k f fd ps sp) (hr : Room k X.A) (hb : Binds X.K fd ps ds) (hd : Vals dvs ds) (hx : Passes CX X E)
    (I : Inv X pins σ H s) (r : Vals vs us) (h : sp (vs ++ dvs) H Q E) : wpAny (model X.prog X.w) X.A (call (.ref f) us) (EP X pins σ Q) X.xe s := by
  have r2 : Vals (vs ++ dvs) (us ++ ds) := r.append hd
  have hl : (us ++ ds).length = ps.length := by rw [← r2.length]; exact F.len _ _ _ _ h
  refine wpAny_call (codeAny_mono (F.run X.A X.stack s H ⟨us, []⟩ (us ++ ds) (vs ++ dvs) Q E hr I.env0 (hb s us I.kIn hl) r2 h) fun r s' hq => ?_)
  cases r with
  | error e => exact hx pins σ H s e s' I hq
  | ok fl =>
    cases fl with
    | ret u => exact I.after hq
    | next => exact False.elim hq
    | brk => exact False.elim hq
    | cont => exact False.elim hq

theorem pe_call (F : FnOk X.prog X.w X.K X.mg X.base CX k f fd ps sp) (hr : Room k X.A) (hg : Gl X x) (hm : X.mg x = some (.ref f)) (hk : PySem.W.keepIn X.K (.ref f) = true) (hb : Binds X.K fd ps ds) (hd : Vals dvs ds) (hx : Passes CX X E)
    (ha : PA X (e :: es) t) (hdb : (x == ("__debug__" : Str)) = false := by decide) (he : starEach (e :: es) X.env = (false, eval e X.env) :: starEach es X.env := by rfl) (hpl : (backTo pos (starEach es X.env)).any (·.1) = false := by rfl) :
    PE X (.Call (.Name x p) (e :: es) [] pos) (tCall sp dvs E t) := by
  intro pins s σ H Q I h
  refine wpAny_Call_Name_kw (ld_glob I hg hm ?_ hdb)
  refine PySem.W.callWith_K (h₀ := X.base) I.ok.mod.kin hk (thn (ha pos pins s σ H _ I h) fun us s1 ⟨vs, H1, I1, r, q⟩ => ⟨I1.kIn, ?_⟩) he hpl
  exact run_fn F hr hb hd hx I1 r q
/-- o.m(e, ..) -/
theorem pe_meth {pl : Sem Bool} (he : PE X o ta) (c : Cls X.K C) (hm : Meth X.K C m f) (F : FnOk X.prog X.w X.K X.mg X.base CX k f fd ps sp) (hr : Room k X.A) (hb : Binds X.K fd ps ds) (hd : Vals dvs ds) (hx : Passes CX X E) (ha : PA X (e :: es) t)
    (hst : starEach (e :: es) X.env = (false, eval e X.env) :: starEach es X.env := by rfl) (hpl : (backTo pos (starEach es X.env)).any (·.1) = false := by rfl)
    (ht : eval (.Call (.Attribute o m apos) (e :: es) [] pos) X.env = (do
      let ov ← eval o X.env
      standAt apos.atName
      let (f, first) ← holding [ov] (getMethod ov m pl)
      callWith pos f first (backTo pos (starEach (e :: es) X.env)) (backToKw pos (keywordEach [] X.env))) := by rfl) :
    PE X (.Call (.Attribute o m apos) (e :: es) [] pos) (tMeth C m sp dvs E ta t) := by
  intro pins s σ H Q I h
  refine PySem.W.methodCall_KW (pl := pl) (thn (he pins s σ H _ I h) fun u s1 ⟨x, H1, I1, rx, a, dx, fs, ex, ea, l, q⟩ => ?_) ht
  subst ex
  obtain rfl : u = Value.ref a := rx
  refine getmeth_ok I1 ea c hm l ?_
  refine PySem.W.callWith_K (first := [.ref a]) (h₀ := X.base) I.ok.mod.kin hm.kp (thn (ha pos pins s1 σ H1 _ I1 q) fun us s2 ⟨vs, H2, I2, r, q2⟩ => ⟨I2.kIn, ?_⟩) hst hpl
  exact run_fn (us := .ref a :: us) (vs := .ref a :: vs) F hr hb hd hx I2 (.cons rfl r) q2
/-- o.m() -/
theorem pe_meth0 {pl : Sem Bool} (he : PE X o ta) (c : Cls X.K C) (hm : Meth X.K C m f) (F : FnOk X.prog X.w X.K X.mg X.base CX k f fd ps sp) (hr : Room k X.A) (hb : Binds X.K fd ps ds) (hd : Vals dvs ds) (hx : Passes CX X E)
    (ht : eval (.Call (.Attribute o m apos) [] [] pos) X.env = (do
      let ov ← eval o X.env
      standAt apos.atName
      let (f, first) ← holding [ov] (getMethod ov m pl)
      callWith pos f first (backTo pos (starEach [] X.env)) (backToKw pos (keywordEach [] X.env))) := by rfl) :
    PE X (.Call (.Attribute o m apos) [] [] pos) (tMeth C m sp dvs E ta tNil) := by
  intro pins s σ H Q I h
  refine PySem.W.methodCall_KW (pl := pl) (thn (he pins s σ H _ I h) fun u s1 ⟨x, H1, I1, rx, a, dx, fs, ex, ea, l, q⟩ => ?_) ht
  subst ex
  obtain rfl : u = Value.ref a := rx
  refine getmeth_ok I1 ea c hm l ?_
  exact PySem.W.callWith_K0 (first := [.ref a]) I1.kIn hm.kp (run_fn (us := [.ref a]) (vs := [.ref a]) F hr hb hd hx I1 (.cons rfl .nil) q)

/-- what a class must have to be made -/
structure Mk (K : PySem.W.Frag) (C f : Addr) : Prop where
  makes : PySem.W.makesIn K C = true
  init : PySem.W.findIn K (.ref C) "__init__" = some (some (.ref f))
  fn : PySem.W.isFn K (.ref f) = true
  kp : PySem.W.keepIn K (.ref C) = true

theorem run_make {pins : List (Addr × Obj)} {σ : St} {H : Hp} {s : Shared} {Q : VK} {us : List Value} {vs : List V} (M : Mk X.K C f) (F : FnOk X.prog X.w X.K X.mg X.base CX k f fd ps sp) (hr : Room (k + 1) X.A) (hb : Binds X.K fd ps ds) (hd : Vals dvs ds)
    (hx : Passes CX X E) (I : Inv X pins σ H s) (r : Vals vs us)
    (h : ∀ x dx, H x = none → H dx = none → dx ≠ x → sp (.ref x :: (vs ++ dvs)) (upd (upd H dx (.own x)) x (.ins C dx [])) (fun v H2 => v = .non ∧ Q (.ref x) H2) E) :
    wpAny (model X.prog X.w) X.A (call (.ref C) us) (EP X pins σ Q) X.xe s := by
  have hq := h (s.heap.objs.size + 1) s.heap.objs.size (I.hok.fresh (Nat.le_succ _)) (I.hok.fresh (Nat.le_refl _)) (Nat.ne_of_lt (Nat.lt_succ_self _))
  have I2 := Inv.made (C := C) I
  have r2 : Vals (V.ref (s.heap.objs.size + 1) :: (vs ++ dvs)) (Value.ref (s.heap.objs.size + 1) :: (us ++ ds)) := .cons rfl (r.append hd)
  have hl : (Value.ref (s.heap.objs.size + 1) :: us ++ ds).length = ps.length := by
    have e := r2.length
    rw [F.len _ _ _ _ hq] at e
    exact e.symm
  refine wpAny_call (make_map (f := f) I.kIn M.makes M.init (beq_iff_eq.mp M.fn) (codeAny_mono (F.run _ X.stack _ _ ⟨Value.ref (s.heap.objs.size + 1) :: us, []⟩ (Value.ref (s.heap.objs.size + 1) :: (us ++ ds)) _ _ E (hr.make C us [])
    (I2.env0.make C us []) (hb _ (Value.ref (s.heap.objs.size + 1) :: us) I2.kIn hl) r2 hq) fun r s' hq' => ?_))
  cases r with
  | error e => exact hx pins σ _ _ e s' I2 hq'
  | ok fl =>
    cases fl with
    | ret u =>
      obtain ⟨v, H', I3, rv, ev, q3⟩ := I2.after hq'
      subst ev
      exact ⟨rv, ⟨V.ref (s.heap.objs.size + 1), H', I3, rfl, q3⟩⟩
    | next => exact False.elim hq'
    | brk => exact False.elim hq'
    | cont => exact False.elim hq'
theorem pe_make (M : Mk X.K C f) (F : FnOk X.prog X.w X.K X.mg X.base CX k f fd ps sp) (hr : Room (k + 1) X.A) (hg : Gl X x) (hm : X.mg x = some (.ref C)) (hb : Binds X.K fd ps ds) (hd : Vals dvs ds) (hx : Passes CX X E)
    (ha : PA X (e :: es) t) (hdb : (x == ("__debug__" : Str)) = false := by decide) (he : starEach (e :: es) X.env = (false, eval e X.env) :: starEach es X.env := by rfl) (hpl : (backTo pos (starEach es X.env)).any (·.1) = false := by rfl) :
    PE X (.Call (.Name x p) (e :: es) [] pos) (tMake C sp dvs E t) := by
  intro pins s σ H Q I h
  refine wpAny_Call_Name_kw (ld_glob I hg hm ?_ hdb)
  refine PySem.W.callWith_K (h₀ := X.base) I.ok.mod.kin M.kp (thn (ha pos pins s σ H _ I h) fun us s1 ⟨vs, H1, I1, r, q⟩ => ⟨I1.kIn, ?_⟩) he hpl
  exact run_make M F hr hb hd hx I1 r q
end

/-! ### keywords -/
section
variable {X : Cx} {CX : CXT} {k : Nat} {f C : Addr} {fd : FuncData} {ps ks : List Str} {sp : Sp} {E : XK} {x m : Str} {p pos apos kpos : Pos} {e o : Expr} {es : List Expr} {kws : List Keyword} {te ta : TE} {t tk : TA} {nm : Option Str}
variable {g : List Value → List Value → List Value} {gV : List V → List V → List V}
end

/-! ### a def's body keeps its promise -/
/-- names: the parameters first -/
structure FnScope (N P : List Str) (sc : Scope) : Prop where
  kind : sc.kind = .function
  co : sc.isCoroutine = false
  gen : sc.isGenerator = false
  nd : N.Nodup
  pre : N.take P.length = P
  par : ∀ x ∈ P, sc.names.lookup x = some .local ∨ sc.names.lookup x = some .cell
  nofree : ∀ y ∈ sc.names, y.2 ≠ .free

theorem bindL_out {kindOf : Str → Option NameKind} {x : Str} : ∀ {binds : List (Str × Value)} {m : Str → Option Value}, (∀ v, (x, v) ∉ binds) → bindL kindOf binds m x = m x
  | [], _, _ => rfl
  | (n, v) :: r, m, h => by
    unfold bindL
    rw [bindL_out fun w hw => h w (List.mem_cons_of_mem _ hw)]
    split
    · have : x ≠ n := by rintro rfl; exact h v List.mem_cons_self
      simp [this]
    · rfl
theorem bindC_out {kindOf : Str → Option NameKind} {x : Str} : ∀ {binds : List (Str × Value)} {m : Str → Option Value}, (∀ v, (x, v) ∉ binds) → bindC kindOf binds m x = m x
  | [], _, _ => rfl
  | (n, v) :: r, m, h => by
    unfold bindC
    rw [bindC_out fun w hw => h w (List.mem_cons_of_mem _ hw)]
    split
    · rfl
    · have : x ≠ n := by rintro rfl; exact h v List.mem_cons_self
      simp [this]
theorem bindL_get {kindOf : Str → Option NameKind} {x : Str} {v : Value} : ∀ {P : List Str} {vs : List Value} {i : Nat} {m : Str → Option Value}, P.Nodup → P[i]? = some x → vs[i]? = some v → kindOf x = some .local →
    bindL kindOf (P.zip vs) m x = some v
  | [], _, _, _, _, h, _, _ => by simp at h
  | _ :: _, [], _, _, _, _, h, _ => by simp at h
  | p :: P, w :: vs, 0, m, nd, h1, h2, hk => by
    simp at h1 h2; subst h1; subst h2
    show bindL kindOf ((p, w) :: P.zip vs) m p = _
    unfold bindL
    rw [bindL_out fun v hv => (List.nodup_cons.mp nd).1 (List.of_mem_zip hv).1, if_pos hk]
    simp
  | p :: P, w :: vs, i + 1, m, nd, h1, h2, hk => by
    show bindL kindOf ((p, w) :: P.zip vs) m x = _
    unfold bindL
    exact bindL_get (i := i) (List.nodup_cons.mp nd).2 (by simpa using h1) (by simpa using h2) hk
theorem bindC_get {kindOf : Str → Option NameKind} {x : Str} {v : Value} : ∀ {P : List Str} {vs : List Value} {i : Nat} {m : Str → Option Value}, P.Nodup → P[i]? = some x → vs[i]? = some v → kindOf x ≠ some .local →
    bindC kindOf (P.zip vs) m x = some v
  | [], _, _, _, _, h, _, _ => by simp at h
  | _ :: _, [], _, _, _, _, h, _ => by simp at h
  | p :: P, w :: vs, 0, m, nd, h1, h2, hk => by
    simp at h1 h2; subst h1; subst h2
    show bindC kindOf ((p, w) :: P.zip vs) m p = _
    unfold bindC
    rw [bindC_out fun v hv => (List.nodup_cons.mp nd).1 (List.of_mem_zip hv).1, if_neg hk]
    simp
  | p :: P, w :: vs, i + 1, m, nd, h1, h2, hk => by
    show bindC kindOf ((p, w) :: P.zip vs) m x = _
    unfold bindC
    exact bindC_get (i := i) (List.nodup_cons.mp nd).2 (by simpa using h1) (by simpa using h2) hk

/-- the names' values at the entry -/
def start (N : List Str) (vs : List V) : St := vs.map some ++ List.replicate (N.length - vs.length) none

/-- the context of a def's body, at its entry; an exception leaves the frame, then lies as CX says -/
def cxOf (CX : CXT) (P : Program) (w : World) (K : PySem.W.Frag) (mg : Str → Option Value) (base : Heap) (N : List Str) (qual : Str) (scope : Scope) (f : Addr) (cd : Value) (A : Around) (outer : List Env) (s : Shared) (H : Hp) (E : XK) : Cx where
  prog := P
  w := w
  K := K
  mg := mg
  base := base
  A := A.deeper (envOfC qual scope s.heap.objs.size f cd)
  N := N
  s₀ := s
  H₀ := H
  env := envOfC qual scope s.heap.objs.size f cd
  outer := outer
  stack := envOfC qual scope s.heap.objs.size f cd :: outer
  ex := []
  calm := true
  fn := fun _ => true
  pn := []
  xe := fun e s' => wpAny (model P w) (A.deeper (envOfC qual scope s.heap.objs.size f cd)) (leaving (envOfC qual scope s.heap.objs.size f cd) e) (fun _ s'' => CX outer H s E e s'') (fun e' s'' => CX outer H s E e' s'') s'

theorem cell_has {sc : Scope} {n : Nat} {x : Str} (h : sc.names.lookup x = some .cell) : ∃ c, (cellsFrom n sc.names []).lookup x = some c := by
  have q := PySem.W.cellsFrom_some sc.names n [] (.inl h)
  exact Option.isSome_iff_exists.mp q

theorem inv_start {CX : CXT} {P : Program} {w : World} {K : PySem.W.Frag} {mg : Str → Option Value} {base : Heap} {N ps : List Str} {qual : Str} {scope : Scope} {f : Addr} {cd : Value} {A : Around} {outer : List Env} {s s1 : Shared} {H : Hp} {E : XK} {us : List Value} {vs : List V}
    (S : FnScope N ps scope) (hd : A.handled = none) (e0 : Env0 P w K mg base A outer s H) (hl : vs.length = ps.length) (r : Vals vs us)
    (x : InCallC s s.heap.objs.size (bindL (envOfC qual scope s.heap.objs.size f cd).kindOf (ps.zip us) fun _ => none) (cellsFrom (s.heap.objs.size + 1) scope.names []) (bindC (envOfC qual scope s.heap.objs.size f cd).kindOf (ps.zip us) fun _ => none) s1) :
    Inv (cxOf CX P w K mg base N qual scope f cd A outer s H E) [] (start N vs) H s1 := by
  have hpl : ps.length ≤ N.length := by have := congrArg List.length S.pre; rw [List.length_take] at this; omega
  obtain ⟨h1, tk, rfl, hk⟩ := x.done
  have noA : ∀ b : Addr, b ∉ (cxOf CX P w K mg base N qual scope f cd A outer s H E).ex := fun b z => absurd (show b ∈ ([] : List Addr) from z) (by simp)
  refine ⟨⟨e0.mod, S.kind, rfl, rfl, Nat.le_refl _, fun y z c h1 h2 => ?_, fun y hy => ?_, fun y c _ h => ?_, fun _ => hd, Around.frames_deeper e0.frames, .inr ⟨rfl, rfl⟩, fun b z => absurd z (noA b), e0.bs, e0.bsz, fun b _ _ => noA b, fun b z => absurd z (noA b), e0.funs, e0.frf⟩,
    rfl, e0.bare, Un.kept hk, ⟨_, x.toInCall.ns, fun i y v h1 h2 h3 => ?_⟩, fun y c h => ⟨_, x.cell y c h⟩, e0.hok.fresh (Nat.le_refl _), fun y c h => ?_, fun p hp => absurd (show p ∈ ([] : List (Addr × Obj)) from hp) (by simp), e0.hok.kept hk, ?_⟩
  · exact name_of_addr x.apart (PySem.mem_of_lookup h1) (PySem.mem_of_lookup h2)
  · have hy : scope.names.lookup y = some .cell ∨ scope.names.lookup y = some .free := hy
    rcases hy with hy | hy
    · exact cell_has hy
    · exact absurd rfl (S.nofree _ (PySem.mem_of_lookup hy))
  · exact Nat.le_of_lt (x.above y c (PySem.mem_of_lookup h))
  · have hi : i < vs.length := by
      unfold start at h2
      by_cases hi : i < vs.length
      · exact hi
      · rw [List.getElem?_append_right (by simpa using hi)] at h2
        rw [List.getElem?_replicate] at h2
        split at h2 <;> cases h2
    have ha : vs[i]? = some v := by
      unfold start at h2
      rw [List.getElem?_append_left (by simpa using hi), List.getElem?_map] at h2
      cases e : vs[i]? with
      | none => rw [e] at h2; cases h2
      | some a => rw [e] at h2; cases h2; rfl
    obtain ⟨u, hu, rv⟩ := r.get ha
    have hp : ps[i]? = some y := by
      rw [← S.pre, List.getElem?_take_of_lt (by omega)]; exact h1
    have ndP : ps.Nodup := by rw [← S.pre]; exact S.nd.sublist (List.take_sublist _ _)
    refine ⟨u, rv, ?_⟩
    rcases S.par y (List.mem_of_getElem? hp) with k | k
    · exact .inl ⟨k, bindL_get ndP hp hu k⟩
    · obtain ⟨c, e⟩ := cell_has (n := s.heap.objs.size + 1) k
      refine .inr ⟨.inl k, c, e, ?_⟩
      have q := x.cell y c e
      rw [bindC_get ndP hp hu (by show scope.names.lookup y ≠ _; rw [k]; decide)] at q
      exact q
  · exact e0.hok.fresh (Nat.le_of_lt (x.above y c (PySem.mem_of_lookup h)))
  · unfold start
    show _ = N.length
    rw [List.length_append, List.length_map, List.length_replicate]
    omega

/-- THE RULE: a def (or a method) of the text, by its body. The body's reading t is chosen for each entry; it is run at the parameters' values -/
theorem fn_of {CX : CXT} {P : Program} {w : World} {K : PySem.W.Frag} {mg : Str → Option Value} {base : Heap} {k : Nat} {f : Addr} {name qual : Str} {params : Arguments} {body : List Stmt} {scope : Scope} {dV kV doc pm cdv ct oc : Value} {an od : Option Addr}
    {osl : Array (Option Value)} {N ps : List Str} {sp : Sp} (lk : K.lookup f = some ⟨oc, od, .func (PySem.W.fnOf name qual params body scope dV kV doc pm an cdv ct), osl⟩) (hcd : PySem.W.codeIn K cdv qual = true) (S : FnScope N ps scope)
    (len : ∀ vs H Q E, sp vs H Q E → vs.length = ps.length)
    (hbody : ∀ (A : Around) (outer : List Env) (s : Shared) (H : Hp) (vs : List V) (Q : VK) (E : XK), Room k (A.deeper (envOfC qual scope s.heap.objs.size f cdv)) → sp vs H Q E →
      ∃ t, PSs (cxOf CX P w K mg base N qual scope f cdv A outer s H E) body t ∧ t { nx := fun _ H' => Q .non H', rt := Q } (start N vs) H) :
    FnOk P w K mg base CX (k + 1) f (PySem.W.fnOf name qual params body scope dV kV doc pm an cdv ct) ps sp := by
  refine ⟨len, fun A outer s H args us vs Q E hr e0 hb r hsp => ?_⟩
  have hl := len _ _ _ _ hsp
  have KX : K.In s.heap := e0.mod.kin.keeps fun b o e => (e0.bs b o e).1
  have lim : s.heap.NoLimit := e0.mod.nolimit.keeps fun b o e => (e0.bs b o e).1
  have hkind : ∀ y ∈ ps.zip us, scope.names.lookup y.1 = some .local ∨ (scope.names.lookup y.1 = some .cell ∧ ((cellsFrom (s.heap.objs.size + 1) scope.names []).lookup y.1).isSome = true) := fun ⟨n, v⟩ hy => by
    rcases S.par n (List.of_mem_zip hy).1 with q | q
    · exact .inl q
    · exact .inr ⟨q, PySem.W.cellsFrom_some _ _ _ (.inl q)⟩
  refine codeAny_call_function hr.depth (KX _ _ lk) rfl S.co S.gen rfl (PySem.W.codeRec_of KX hcd) (hb _ _ _ _ ?_)
  refine wpAny_newFunctionEnv_cells S.kind hkind fun env he s1 x => ?_
  subst he
  refine ⟨lim.keeps x.toInCall.keep, codeAny_func ?_⟩
  obtain ⟨t, ht, hq⟩ := hbody A outer s H vs Q E (hr.deeper _) hsp
  have I : Inv (cxOf CX P w K mg base N qual scope f cdv A outer s H E) [] (start N vs) H s1 := inv_start S hr.hd e0 hl r x
  refine wpAny_mono (ht [] s1 (start N vs) H _ I hq) (fun fl s' hs => ?_) fun e s' hs => hs
  have fin : ∀ {σ' : St} {H' : Hp} {v : V} {u : Value}, Inv (cxOf CX P w K mg base N qual scope f cdv A outer s H E) [] σ' H' s' → RelV v u → Q v H' → CE outer P w H s Q u s' :=
    fun {σ' H' v u} J rv q => ⟨v, H', J.os, J.bare, J.base, J.hok, rv, q⟩
  cases fl with
  | ret u =>
    obtain ⟨v, σ', H', J, rv, q⟩ := hs
    exact fin J rv q
  | next =>
    obtain ⟨σ', H', J, q⟩ := hs
    exact fin (v := V.non) (u := Value.none) J rfl q
  | brk =>
    obtain ⟨_, _, _, q⟩ := hs
    exact False.elim q
  | cont =>
    obtain ⟨_, _, _, q⟩ := hs
    exact False.elim q
end L2

namespace L2
open PySem PySem.Spec PyProof.Rows
section
variable {X : Cx} {x : Str} {p pos : Pos} {e : Expr} {es : List Expr} {t : TA} {id T : String} {r : List V → Hp → VK → Prop}

def tCB (r : List V → Hp → VK → Prop) (t : TA) : TE := fun σ H Q => t σ H fun vs H1 => r vs H1 Q
/-- f(e, ..), f a built-in function -/
theorem pe_callB (hc : CallR X (.builtin id) r) (hg : Gl X x) (hm : X.mg x = none) (hv : bootBuiltins x = some (.builtin id)) (ha : PA X (e :: es) t) (hn : x ≠ "__name__" := by decide) (hdb : (x == ("__debug__" : Str)) = false := by decide)
    (he : starEach (e :: es) X.env = (false, eval e X.env) :: starEach es X.env := by rfl) (hpl : (backTo pos (starEach es X.env)).any (·.1) = false := by rfl) : PE X (.Call (.Name x p) (e :: es) [] pos) (tCB r t) := by
  intro pins s σ H Q I h
  refine wpAny_Call_Name_kw (ld_blt I hg hm hv ?_ hn hdb)
  exact PyProof.Rows.callWith_builtin1 (thn (ha pos pins s σ H _ I h) fun us s1 ⟨vs, H1, I1, r1, q1⟩ => hc pins s1 σ H1 vs us Q I1 r1 q1) he hpl
/-- T(e, ..), T a built-in type -/
theorem pe_callTy (hc : CallR X (.type T) r) (hg : Gl X x) (hm : X.mg x = none) (hv : bootBuiltins x = some (.type T)) (ha : PA X (e :: es) t) (hn : x ≠ "__name__" := by decide) (hdb : (x == ("__debug__" : Str)) = false := by decide)
    (he : starEach (e :: es) X.env = (false, eval e X.env) :: starEach es X.env := by rfl) (hpl : (backTo pos (starEach es X.env)).any (·.1) = false := by rfl) : PE X (.Call (.Name x p) (e :: es) [] pos) (tCB r t) := by
  intro pins s σ H Q I h
  refine wpAny_Call_Name_kw (ld_blt I hg hm hv ?_ hn hdb)
  exact PyProof.Rows.callWith_type1 (thn (ha pos pins s σ H _ I h) fun us s1 ⟨vs, H1, I1, r1, q1⟩ => hc pins s1 σ H1 vs us Q I1 r1 q1) he hpl
end
end L2

namespace HT
open PySem PyProof.Rows

section
open PySem.SeqAt
open PySem.AutoSeq1 (wpAny_loadPart')
open PySem.MeetsSeq PySem.MeetsSeq2 PySem.MeetsSeq3

end

section
variable {prog : Program} {w : World} {A : Around} {E : Value → Shared → Prop} {s : Shared}

/-- t + u, t not empty -/
theorem cat_tup {t b : Addr} {vs ws : List Value} {Q : Value → Shared → Prop} (ht : IsTup s.heap t vs.toArray) (hb : IsTup s.heap b ws.toArray) (hv : vs ≠ [])
    (h1 : ws = [] → Q (.ref t) s) (h2 : ws ≠ [] → Q (.ref s.heap.objs.size) { s with heap := s.heap.push { cls := .type "tuple", data := .seq (vs ++ ws).toArray } })
    (hsz : vs.length + ws.length ≤ sizeLine) : wpAny (model prog w) A (binaryOp .Add (.ref t) (.ref b)) Q E s := by
  obtain ⟨⟨cls, dd, data, sl⟩, ho, hc, n, hd⟩ := id ht
  obtain ⟨⟨cls2, dd2, data2, sl2⟩, ho2, hc2, n2, hd2⟩ := id hb
  simp only at hc hd hc2 hd2
  subst hc hd hc2 hd2
  have e : vs.toArray ++ ws.toArray = (vs ++ ws).toArray := by simp
  by_cases hw : ws = []
  · exact concat_meets ⟨_, ho, rfl⟩ ⟨_, ho2, rfl⟩ noFill_tuple_add seq_tuple_add PySem.F.slot_tuple_add PySem.F.entry_tuple_add (PySem.F.args_tuple_add_2 _ _)
      (tuple_addW1 t b vs.toArray ws.toArray n n2 dd dd2 sl sl2 (by simpa using hv) (by simp [hw])) ⟨ho, ho2, h1 hw⟩
  · refine concat_meets ⟨_, ho, rfl⟩ ⟨_, ho2, rfl⟩ noFill_tuple_add seq_tuple_add PySem.F.slot_tuple_add PySem.F.entry_tuple_add (PySem.F.args_tuple_add_2 _ _)
      (tuple_addW2 t b vs.toArray ws.toArray n n2 dd dd2 sl sl2 (by simpa using hv) (by simpa using hw) (by rw [List.size_toArray, List.size_toArray]; exact hsz)) ⟨ho, ho2, ?_⟩
    rw [e]
    exact h2 hw

/-! ### t[a:b], not the whole -/
/-- a slice's bound as a place among n (d where it is left out) -/
def sIx (n d : Nat) : Option Int → Nat
  | none => d
  | some v => if v < 0 then (v + (n : Int)).toNat else min v.toNat n
theorem sIx_none (n d : Nat) : sIx n d none = d := rfl
theorem sIx_nat (n d k : Nat) : sIx n d (some (k : Int)) = min k n := by
  show (if (k : Int) < 0 then ((k : Int) + (n : Int)).toNat else min (k : Int).toNat n) = min k n
  rw [if_neg (by omega), Int.toNat_natCast]
theorem sIx_le (n d : Nat) (hd : d ≤ n) (o : Option Int) : sIx n d o ≤ n := by
  cases o with
  | none => exact hd
  | some v =>
    show (if v < 0 then (v + (n : Int)).toNat else min v.toNat n) ≤ n
    by_cases hv : v < 0
    · rw [if_pos hv]; omega
    · rw [if_neg hv]; exact Nat.min_le_right _ _
theorem clip_eq (v : Int) (n d : Nat) : (if v < 0 then max (v + (n : Int)) 0 else min v (n : Int)) = ((sIx n d (some v) : Nat) : Int) := by
  show (if v < 0 then max (v + (n : Int)) 0 else min v (n : Int)) = (((if v < 0 then (v + (n : Int)).toNat else min v.toNat n) : Nat) : Int)
  by_cases hv : v < 0
  · simp only [if_pos hv]; omega
  · simp only [if_neg hv]; omega
theorem adjust_gen (lo hi : Option Int) (n : Nat) : Builtin.Slice.sliceAdjust lo hi 1 (n : Int) = (((sIx n 0 lo : Nat) : Int), ((sIx n n hi : Nat) : Int)) := by
  have h1 : ¬ ((1 : Int) < 0) := by omega
  unfold Builtin.Slice.sliceAdjust
  simp only [h1, if_false]
  refine Prod.ext ?_ ?_
  · cases lo with
    | none => rfl
    | some v => exact clip_eq v n 0
  · cases hi with
    | none => rfl
    | some v => exact clip_eq v n n
theorem places_gen (i j : Nat) : Builtin.Slice.slicePlaces (i : Int) (j : Int) 1 = j - i := by
  unfold Builtin.Slice.slicePlaces
  have h1 : (1 : Int) > 0 := by omega
  simp only [h1, if_true, Int.ediv_one]
  split <;> omega
theorem slicePart_ {v : Value} {o : Option Int} {Q : Option Int → Shared → Prop} (p : IsPart v o) (h : Q o s) : wpAny (model prog w) A (Builtin.Slice.slicePartIndex v) Q E s := by
  cases p with
  | none => exact slicePart_none h
  | int i t => exact slicePart_int h
theorem sliceApplied_gen {sl : Addr} {vl vu : Value} {lo hi : Option Int} {n : Nat} {Q : Int × Int × Nat → Shared → Prop} (hs : s.heap.IsSliceOf sl vl vu .none) (pl : IsPart vl lo) (pu : IsPart vu hi)
    (h : Q (((sIx n 0 lo : Nat) : Int), 1, sIx n n hi - sIx n 0 lo) s) : wpAny (model prog w) A (Builtin.Slice.sliceApplied (.ref sl) (pure (n : Int))) Q E s := by
  obtain ⟨os, hos, hcs, hds⟩ := id hs
  unfold Builtin.Slice.sliceApplied Builtin.Slice.sliceFields
  refine wpAny_bind (wpAny_bind (wpAny_field hos hds (x := vl) rfl (wpAny_bind (wpAny_field hos hds (x := vu) rfl (wpAny_bind (wpAny_field hos hds (x := .none) rfl (wpAny_pure ?_)))))))
  refine wpAny_bind (slicePart_none ?_)
  show wpAny _ _ (if ((1 : Int) == 0) = true then _ else _) _ _ s
  rw [if_neg (by decide)]
  refine wpAny_bind (slicePart_ pl (wpAny_bind (slicePart_ pu (wpAny_bind (wpAny_pure ?_)))))
  show wpAny _ _ (match Builtin.Slice.sliceAdjust lo hi 1 (n : Int) with | (lo, hi) => pure (lo, (1 : Int), Builtin.Slice.slicePlaces lo hi 1)) _ _ s
  rw [adjust_gen lo hi n]
  show wpAny _ _ (pure (((sIx n 0 lo : Nat) : Int), (1 : Int), Builtin.Slice.slicePlaces ((sIx n 0 lo : Nat) : Int) ((sIx n n hi : Nat) : Int) 1)) _ _ s
  rw [places_gen]
  exact wpAny_pure h
theorem pick_gen (xs : Array Value) (i k : Nat) : ((List.range k).filterMap fun (m : Nat) => xs[((i : Int) + (m : Int) * 1).toNat]?).toArray = ((xs.toList.drop i).take k).toArray := by
  have e : (fun (m : Nat) => xs[((i : Int) + (m : Int) * 1).toNat]?) = fun m => xs[i + m]? := by
    funext m
    have : ((i : Int) + (m : Int) * 1).toNat = i + m := by omega
    rw [this]
  rw [e]
  have := pick_run xs i k
  rw [List.filterMap_map] at this
  have e2 : ((fun x => xs[x]?) ∘ fun x => i + x) = fun m => xs[i + m]? := rfl
  rw [e2] at this
  rw [this]

theorem getItem_tuple_cut {t sl : Addr} {items : Array Value} {vl vu : Value} {lo hi : Option Int} {Q : Value → Shared → Prop} (ht : IsTup s.heap t items) (hs : s.heap.IsSliceOf sl vl vu .none) (pl : IsPart vl lo) (pu : IsPart vu hi)
    (hw : ¬ (sIx items.size 0 lo = 0 ∧ sIx items.size items.size hi = items.size))
    (h : Q (.ref s.heap.objs.size) { s with heap := s.heap.push { cls := .type "tuple", data := .seq ((items.toList.drop (sIx items.size 0 lo)).take (sIx items.size items.size hi - sIx items.size 0 lo)).toArray } })
    (hsz : items.size ≤ sizeLine) : wpAny (model prog w) A (getItem (.ref t) (.ref sl)) Q E s := by
  have htake : sizeOk (.seq ((items.toList.drop (sIx items.size 0 lo)).take (sIx items.size items.size hi - sIx items.size 0 lo)).toArray) := by
    show ((items.toList.drop (sIx items.size 0 lo)).take (sIx items.size items.size hi - sIx items.size 0 lo)).toArray.size ≤ sizeLine
    rw [List.size_toArray, List.length_take, List.length_drop, Array.length_toList]
    omega
  have hj : sIx items.size items.size hi ≤ items.size := sIx_le _ _ (Nat.le_refl _) hi
  obtain ⟨os, hos, hcs, hds⟩ := id hs
  have hTs : s.TypeIs (.ref sl) "slice" := ⟨os, hos, hcs⟩
  unfold getItem
  try with_reducible refine wpAny_holding ?_
  first | refine wpAny_bind (wpAny_pure ?_) | skip
  refine wpAny_bind (wpAny_sequenceKey ht.typeIs (by decide) ?_)
  refine wpAny_bind (wpAny_callSpecial?_slot (name := Str.ofString "__getitem__") ht.typeIs PyProof.Rows.slot_tuple_getitem
    (wpAny_call_entry PyProof.Rows.slot_tuple_getitem ht.typeIs entry_tuple_getitem ?_ (args_tuple_getitem _ _)))
  show wpAny _ _ (Builtin.Tuple.tupleItemsOf (.ref t) >>= _) _ _ s
  refine wpAny_bind (tupleItemsOf_ ht ?_)
  refine wpAny_bind (wpAny_typeOf hTs ?_)
  rw [if_pos (by decide)]
  refine wpAny_bind (sliceApplied_gen hs pl pu ?_)
  have hno : ¬ ((((sIx items.size 0 lo : Nat) : Int) == 0 && (1 : Int) == 1 && (sIx items.size items.size hi - sIx items.size 0 lo) == items.size) = true) := by
    intro q
    rw [Bool.and_eq_true, Bool.and_eq_true] at q
    have q1 : ((sIx items.size 0 lo : Nat) : Int) = 0 := eq_of_beq q.1.1
    have q2 : sIx items.size items.size hi - sIx items.size 0 lo = items.size := eq_of_beq q.2
    exact hw ⟨by omega, by omega⟩
  show wpAny _ _ (if (((sIx items.size 0 lo : Nat) : Int) == 0 && (1 : Int) == 1 && (sIx items.size items.size hi - sIx items.size 0 lo) == items.size) = true then _ else _) _ _ s
  rw [if_neg hno, pick_gen]
  first
    | exact wpAny_bind (m := Builtin.Tuple.tupleExact _) (wpAny_newObj_type (wpAny_pure ⟨_, rfl, wpAny_pure h⟩) htake)
    | exact wpAny_bind (m := Builtin.Tuple.tupleExact _) (wpAny_newObj_type (wpAny_bind (wpAny_pure (wpAny_pure ⟨_, rfl, wpAny_pure h⟩))) htake)
    | exact wpAny_bind (wpAny_bind (m := Builtin.Tuple.tupleExact _) (wpAny_newObj_type (wpAny_pure (wpAny_pure ⟨_, rfl, wpAny_pure h⟩)) htake))
    | exact wpAny_bind (wpAny_bind (m := Builtin.Tuple.tupleExact _) (wpAny_newObj_type (wpAny_pure ⟨_, rfl, wpAny_pure h⟩) htake))
end
end HT

namespace L2
open PySem PySem.Spec PyProof.Rows

/-! ### the parts of a slice -/
abbrev TO := St → Hp → (Option Int → Hp → Prop) → Prop
/-- a slice's part (left out, or an int) -/
def PO (X : Cx) (e : Option Expr) (t : TO) : Prop :=
  ∀ (pins : List (Addr × Obj)) (s : Shared) (σ : St) (H : Hp) (Q : Option Int → Hp → Prop), Inv X pins σ H s → t σ H Q →
    wpAny (model X.prog X.w) X.A (evalPart e X.env) (fun u s' => ∃ o H', Inv X pins σ H' s' ∧ IsPart u o ∧ Q o H') X.xe s
def tNoPart : TO := fun _ H Q => Q none H
def tPart (t : TE) : TO := fun σ H Q => t σ H fun x H1 => ∃ i, x = .int i ∧ Q (some i) H1

section
variable {X : Cx} {e : Expr} {te : TE} {lo hi : Option Expr} {tl th : TO} {pos p2 : Pos}

theorem po_none : PO X none tNoPart := by
  intro pins s σ H Q I h
  rw [evalPart_none]
  exact wpAny_pure ⟨none, H, I, .none, h⟩
theorem po_some (h : PE X e te) : PO X (some e) (tPart te) := by
  intro pins s σ H Q I hw
  rw [evalPart_some]
  refine thn (h pins s σ H _ I hw) fun u s1 ⟨x, H1, I1, r1, q1⟩ => ?_
  obtain ⟨i, rfl, q⟩ := q1
  obtain ⟨t, rfl⟩ := r1
  exact ⟨some i, H1, I1, .int i t, q⟩

/-- what a slice of a value is, by values: the slice object stands at sl -/
def SlR (X : Cx) (r : V → Option Int → Option Int → Hp → VK → Prop) : Prop :=
  ∀ (pins : List (Addr × Obj)) (s : Shared) (σ : St) (H : Hp) (x : V) (v vl vu : Value) (lo hi : Option Int) (sl : Addr) (Q : VK), Inv X pins σ H s → RelV x v → s.heap.IsSliceOf sl vl vu .none → IsPart vl lo → IsPart vu hi → r x lo hi H Q →
    ∃ T id, typeLookup (.type T) "__getitem__" = pure (some (.builtin id)) ∧ s.TypeIs v T ∧ wpAny (model X.prog X.w) X.A (getItem v (.ref sl)) (EP X pins σ Q) X.xe s
def tSl (r : V → Option Int → Option Int → Hp → VK → Prop) (te : TE) (tl th : TO) : TE := fun σ H Q => te σ H fun x H1 => tl σ H1 fun l H2 => th σ H2 fun u H3 => r x l u H3 Q
/-- a[lo:hi], any a -/
theorem pe_slice {r : V → Option Int → Option Int → Hp → VK → Prop} (hr : SlR X r) (he : PE X e te) (hl : PO X lo tl) (hu : PO X hi th) : PE X (.Subscript e (.Slice lo hi none p2) pos) (tSl r te tl th) := by
  intro pins s σ H Q I h
  refine Subscript_ (thn (he pins s σ H _ I h) fun v s1 ⟨x, H1, I1, r1, q1⟩ => ?_)
  refine wpAny_Slice (thn (hl pins s1 σ H1 _ I1 q1) fun vl s2 ⟨l, H2, I2, pl, q2⟩ => thn (hu pins s2 σ H2 _ I2 q2) fun vu s3 ⟨u, H3, I3, pu, q3⟩ => ?_)
  rw [evalPart_none]
  refine wpAny_pure ?_
  have I4 : Inv X pins σ H3 { s3 with heap := s3.heap.push { cls := .type "slice", data := .fields #[vl, vu, .none] } } := I3.kept (t' := s3.toks) fun b ob q => Heap.get?_push_of_some _ q
  obtain ⟨T, id, hT, ht, hg⟩ := hr pins { s3 with heap := s3.heap.push { cls := .type "slice", data := .fields #[vl, vu, .none] } } σ H3 x v vl vu l u s3.heap.objs.size Q I4 r1 (Heap.IsSliceOf.new ..) pl pu q3
  show wpAny (model X.prog X.w) X.A (subscriptTail e (.Slice lo hi none p2) v (.ref s3.heap.objs.size)) (EP X pins σ Q) X.xe { s3 with heap := s3.heap.push { cls := .type "slice", data := .fields #[vl, vu, .none] } }
  exact tail_any (ops := [.ref s3.heap.objs.size, v]) ht hT hg (by with_unfolding_all rfl)

/-- the items of xs[lo:hi] -/
def cutV (xs : List V) (lo hi : Option Int) : List V := (xs.drop (HT.sIx xs.length 0 lo)).take (HT.sIx xs.length xs.length hi - HT.sIx xs.length 0 lo)
theorem cutV_length (xs : List V) (lo hi : Option Int) : (cutV xs lo hi).length ≤ xs.length := by
  unfold cutV
  rw [List.length_take, List.length_drop]
  omega
/-- t[lo:hi], not the whole of it (the whole would be t itself) -/
def rSlT (K : PySem.W.Frag) : V → Option Int → Option Int → Hp → VK → Prop := fun x lo hi H Q => ∃ a xs, x = .ref a ∧ SqT K H a xs ∧
  ¬ (HT.sIx xs.length 0 lo = 0 ∧ HT.sIx xs.length xs.length hi = xs.length) ∧ ∀ p, H p = none → Q (.ref p) (upd H p (.tup (cutV xs lo hi)))
theorem sl_tup : SlR X (rSlT X.K) := by
  intro pins s σ H x v vl vu lo hi sl Q I rx hs pl pu h
  obtain ⟨a, xs, rfl, hx, hw, q⟩ := h
  cases rx
  obtain ⟨its, r, ht, hz⟩ := I.tuple hx
  have hlen : its.toArray.size = xs.length := by rw [List.size_toArray]; exact r.length.symm
  refine ⟨"tuple", _, PyProof.Rows.slot_tuple_getitem.lookup, ht.typeIs, ?_⟩
  refine HT.getItem_tuple_cut ht hs pl pu (by rw [hlen]; exact hw) ?_ (by rw [hlen]; exact hz)
  rw [hlen]
  refine ⟨.ref s.heap.objs.size, _, I.laid (t' := s.toks) (o := .tup (cutV xs lo hi)) (fun b ob q => Heap.get?_push_of_some _ q) (Nat.le_refl _) ?_, rfl, q _ (I.hok.fresh (Nat.le_refl _))⟩
  exact ⟨Nat.le_trans (cutV_length xs lo hi) hz, _, (r.drop (HT.sIx xs.length 0 lo)).take (HT.sIx xs.length xs.length hi - HT.sIx xs.length 0 lo), IsTup.new _ _⟩

/-! ### t < u, t + u -/
/-- t + u, t not empty: u empty gives t itself -/
def rCatT (K : PySem.W.Frag) : R2 := fun x y H Q => ∃ a b xs ys, x = .ref a ∧ y = .ref b ∧ SqT K H a xs ∧ SqT K H b ys ∧ xs ≠ [] ∧ xs.length + ys.length ≤ sizeLine ∧
  (ys = [] → Q (.ref a) H) ∧ (ys ≠ [] → ∀ p, H p = none → Q (.ref p) (upd H p (.tup (xs ++ ys))))
theorem Vals.nil_iff {xs : List V} {us : List Value} (r : Vals xs us) : us = [] ↔ xs = [] := by
  cases r with
  | nil => simp
  | cons _ _ => simp
theorem op_catT : OpR X (binaryOp .Add) (rCatT X.K) := by
  intro pins s σ H x y v u Q I rx ry h
  obtain ⟨a, b, xs, ys, rfl, rfl, ha, hb, hx, hz, q1, q2⟩ := h
  cases rx
  cases ry
  obtain ⟨its, r1, p1, _⟩ := I.tuple ha
  obtain ⟨its2, r2, p2, _⟩ := I.tuple hb
  refine HT.cat_tup p1 p2 (fun z => hx (r1.nil_iff.mp z)) (fun z => ⟨.ref a, H, I, rfl, q1 (r2.nil_iff.mp z)⟩) (fun z => ?_) (by rw [← r1.length, ← r2.length]; exact hz)
  refine ⟨.ref s.heap.objs.size, _, I.laid (t' := s.toks) (o := .tup (xs ++ ys)) (fun b ob q => Heap.get?_push_of_some _ q) (Nat.le_refl _) ?_, rfl, q2 (fun w => z (r2.nil_iff.mpr w)) _ (I.hok.fresh (Nat.le_refl _))⟩
  exact ⟨by rw [List.length_append]; exact hz, _, r1.append r2, IsTup.new _ _⟩
end
end L2

namespace L2
open PySem PySem.Spec PyProof.Rows

/-! ### places -/
/-- the place that an index of any sign means -/
def ixN (n : Nat) (i : Int) : Option Nat := if 0 ≤ i then (if i < n then some i.toNat else none) else if -(n : Int) ≤ i then some (i + n).toNat else none
def atI {α : Type} (xs : List α) (i : Int) : Option α := (ixN xs.length i).bind fun j => xs[j]?
theorem ixN_seq {n : Nat} {i : Int} {j : Nat} (h : ixN n i = some j) : seqIndex? i n = some j ∧ j < n ∧ -(n : Int) ≤ i ∧ i < n := by
  unfold ixN at h
  by_cases h0 : 0 ≤ i
  · rw [if_pos h0] at h
    by_cases h1 : i < n
    · rw [if_pos h1] at h
      have e : i.toNat = j := Option.some.inj h
      exact ⟨by rw [seqIndex_of h0 h1, e], by omega, by omega, h1⟩
    · rw [if_neg h1] at h; cases h
  · rw [if_neg h0] at h
    by_cases h1 : -(n : Int) ≤ i
    · rw [if_pos h1] at h
      have e : (i + n).toNat = j := Option.some.inj h
      exact ⟨by rw [seqIndex_neg (by omega) h1, e], by omega, h1, by omega⟩
    · rw [if_neg h1] at h; cases h
theorem atI_get {α : Type} {xs : List α} {i : Int} {v : α} (h : atI xs i = some v) : ∃ j, seqIndex? i xs.length = some j ∧ xs[j]? = some v ∧ j < xs.length ∧ -(xs.length : Int) ≤ i ∧ i < xs.length := by
  unfold atI at h
  cases e : ixN xs.length i with
  | none => rw [e] at h; cases h
  | some j =>
    rw [e] at h
    obtain ⟨h1, h2, h3, h4⟩ := ixN_seq e
    exact ⟨j, h1, h, h2, h3, h4⟩
theorem atI_nat {α : Type} {xs : List α} {j : Nat} {v : α} (h : xs[j]? = some v) : atI xs (j : Int) = some v := by
  have hj : j < xs.length := (List.getElem?_eq_some_iff.mp h).1
  have e : ixN xs.length (j : Int) = some j := by
    unfold ixN
    rw [if_pos (by omega), if_pos (by omega)]; simp
  unfold atI; rw [e]; exact h
theorem atI_last {α : Type} (xs : List α) (v : α) : atI (xs ++ [v]) (-1) = some v := by
  have hl : (xs ++ [v]).length = xs.length + 1 := by simp
  have e : ixN (xs ++ [v]).length (-1) = some xs.length := by
    unfold ixN
    rw [hl, if_neg (by decide), if_pos (by omega)]
    congr 1
    omega
  unfold atI
  rw [e]
  show (xs ++ [v])[xs.length]? = some v
  simp

/-! ### what may be subscripted -/
/-- what stands as an index of a plain subscript -/
def PlainIx (b : Expr) : Prop := ∀ o i, subscripted b false o i = operate [o, i] (getItem o i)
/-- a subscript by values -/
def IxR (X : Cx) (r : R2) : Prop :=
  ∀ (value slice : Expr) (pins : List (Addr × Obj)) (s : Shared) (σ : St) (H : Hp) (x y : V) (v u : Value) (Q : VK), Inv X pins σ H s → RelV x v → RelV y u → r x y H Q →
    subscripted slice false v u = operate [v, u] (getItem v u) → wpAny (model X.prog X.w) X.A (subscriptTail value slice v u) (EP X pins σ Q) X.xe s
/-- a call of a builtin's method by values: the receiver, the arguments -/
def MtR (X : Cx) (id : String) (r : V → List V → Hp → VK → Prop) : Prop :=
  ∀ (pins : List (Addr × Obj)) (s : Shared) (σ : St) (H : Hp) (x : V) (xs : List V) (v : Value) (us : List Value) (Q : VK), Inv X pins σ H s → RelV x v → Vals xs us → r x xs H Q →
    wpAny (model X.prog X.w) X.A (call (.builtin id) (v :: us)) (EP X pins σ Q) X.xe s
section
variable {X : Cx} {a b : Expr} {ta tb : TE} {pos : Pos}
theorem IxR.or {r r' : R2} (h : IxR X r) (h' : IxR X r') : IxR X (fun x y H Q => r x y H Q ∨ r' x y H Q) := by
  intro value slice pins s σ H x y v u Q I rx ry q hs
  rcases q with q | q
  · exact h value slice pins s σ H x y v u Q I rx ry q hs
  · exact h' value slice pins s σ H x y v u Q I rx ry q hs
/-- a[b] -/
theorem pe_ix {r : R2} (hr : IxR X r) (ha : PE X a ta) (hb : PE X b tb) (hs : PlainIx b) : PE X (.Subscript a b pos) (tOp r ta tb) := by
  intro pins s σ H Q I h
  exact Subscript_ (binT ha hb I h fun v u s2 x y H2 I2 rx ry q => hr a b pins s2 σ H2 x y v u Q I2 rx ry q (hs _ _))

def rIxL (K : PySem.W.Frag) : R2 := fun x y H Q => ∃ p xs i v, x = .ref p ∧ y = .int i ∧ SqL K H p xs ∧ atI xs i = some v ∧ Q v H
def rIxT (K : PySem.W.Frag) : R2 := fun x y H Q => ∃ p xs i v, x = .ref p ∧ y = .int i ∧ SqT K H p xs ∧ atI xs i = some v ∧ Q v H
def rIxS : R2 := fun x y H Q => ∃ z i c, x = .str z ∧ y = .int i ∧ z.length ≤ sizeLine ∧ atI z.cps.toList i = some c ∧ Q (.str ⟨#[c]⟩) H
theorem ix_list : IxR X (rIxL X.K) := by
  intro value slice pins s σ H x y v u Q I rx ry h hs
  obtain ⟨p, xs, i, z, rfl, rfl, hq, he, q⟩ := h
  cases rx
  obtain ⟨t, rfl⟩ := ry
  obtain ⟨its, r, pl, hz⟩ := I.list hq
  obtain ⟨j, h1, h2, h3, h4, h5⟩ := atI_get he
  obtain ⟨w, ew, rw'⟩ := r.get h2
  have hl := r.length
  have hn := line63
  have fin : EP X pins σ Q w s := ⟨z, H, I, rw', q⟩
  by_cases h0 : 0 ≤ i
  · have hj : i.toNat = j := by
      rw [seqIndex_of h0 h5] at h1
      exact Option.some.inj h1
    exact item_listR pl.isList h0 (by omega) (by rw [hj]; simpa using ew) fin hs
  · have hj : (i + (its.toArray.size : Int)).toNat = j := by
      rw [seqIndex_neg (by omega) h4] at h1
      rw [List.size_toArray, ← hl]
      exact Option.some.inj h1
    exact subscriptTail_builtinR (x := w) pl.isList.typeIs slot_list_getitem.lookup
      (wpAny_getItem_list_neg (Q := fun r s' => r = w ∧ EP X pins σ Q r s') pl.isList (by omega) (by rw [List.size_toArray] <;> omega) (by omega) (by rw [hj]; simpa using ew) ⟨rfl, fin⟩) hs
theorem ix_tup : IxR X (rIxT X.K) := by
  intro value slice pins s σ H x y v u Q I rx ry h hs
  obtain ⟨p, xs, i, z, rfl, rfl, hq, he, q⟩ := h
  cases rx
  obtain ⟨t, rfl⟩ := ry
  obtain ⟨its, r, pl, hz⟩ := I.tuple hq
  obtain ⟨j, h1, h2, h3, h4, h5⟩ := atI_get he
  obtain ⟨w, ew, rw'⟩ := r.get h2
  have hl := r.length
  have hn := line63
  have fin : EP X pins σ Q w s := ⟨z, H, I, rw', q⟩
  exact subscriptTail_builtinR (x := w) pl.typeIs slot_tuple_getitem.lookup
    (getItem_tuple (j := j) (Q := fun r s' => r = w ∧ EP X pins σ Q r s') pl (by omega) (by omega) (by rw [List.size_toArray, ← hl]; exact h1) (by simpa using ew) ⟨rfl, fin⟩) hs
theorem ix_str : IxR X rIxS := by
  intro value slice pins s σ H x y v u Q I rx ry h hs
  obtain ⟨z, i, c, rfl, rfl, hz, he, q⟩ := h
  obtain ⟨t, rfl⟩ := rx
  obtain ⟨t', rfl⟩ := ry
  obtain ⟨j, h1, h2, h3, h4, h5⟩ := atI_get he
  have hl : z.cps.toList.length = z.length := by simp [Str.length]
  rw [hl] at h1 h4 h5
  have hn := line63
  exact tail_any (typeIs_str s z t) slot_str_getitem.lookup (getItem_str (c := c) (by
    have e1 : decide (i < -(2 ^ 63 : Int)) = false := decide_eq_false (by omega)
    have e2 : decide (i ≥ 2 ^ 63) = false := decide_eq_false (by omega)
    rw [e1, e2, Bool.or_false]) (by rw [h1]; simpa using h2) ⟨.str ⟨#[c]⟩, H, I.tok _, ⟨_, rfl⟩, q⟩) hs
/-- list, tuple or str -/
def rIx (K : PySem.W.Frag) : R2 := fun x y H Q => rIxL K x y H Q ∨ rIxT K x y H Q ∨ rIxS x y H Q
theorem ix_seq : IxR X (rIx X.K) := ix_list.or (ix_tup.or ix_str)

/-! ### xs[i] = v, any sign -/
/-! ### slices -/
theorem slice_bounds (lo hi : Option Int) (n : Nat) : (sliceBounds lo hi none n).1 = ((HT.sIx n 0 lo : Nat) : Int) ∧ (sliceBounds lo hi none n).2.1 = ((HT.sIx n n hi : Nat) : Int) ∧ (sliceBounds lo hi none n).2.2 = 1 := by
  refine ⟨?_, ?_, rfl⟩
  · cases lo with
    | none => simp [sliceBounds, HT.sIx]
    | some i =>
      simp only [sliceBounds, HT.sIx, Option.getD_none, show (1 : Int) > 0 by decide, if_true]
      by_cases h : i < 0
      · simp only [h, if_true] <;> omega
      · simp only [h, if_false] <;> omega
  · cases hi with
    | none => simp [sliceBounds, HT.sIx]
    | some i =>
      simp only [sliceBounds, HT.sIx, Option.getD_none, show (1 : Int) > 0 by decide, if_true]
      by_cases h : i < 0
      · simp only [h, if_true] <;> omega
      · simp only [h, if_false] <;> omega
theorem slicePick_cut (its : List Value) (lo hi : Option Int) : slicePick its.toArray lo hi none = ((its.drop (HT.sIx its.length 0 lo)).take (HT.sIx its.length its.length hi - HT.sIx its.length 0 lo)).toArray := by
  obtain ⟨h1, h2, h3⟩ := slice_bounds lo hi its.toArray.size
  unfold slicePick
  rw [h1, h2, h3]
  simp only [sliceRange_one, pick_run, List.size_toArray] <;> rfl
/-- xs[lo:hi] of a list: a new list -/
def rSlL (K : PySem.W.Frag) : V → Option Int → Option Int → Hp → VK → Prop := fun x lo hi H Q => ∃ a xs, x = .ref a ∧ SqL K H a xs ∧ ∀ p, H p = none → Q (.ref p) (upd H p (.lst (cutV xs lo hi)))
theorem sl_list : SlR X (rSlL X.K) := by
  intro pins s σ H x v vl vu lo hi sl Q I rx hs pl pu h
  obtain ⟨a, xs, rfl, hx, q⟩ := h
  cases rx
  obtain ⟨its, r, ht, hz⟩ := I.list hx
  have hlen := r.length
  refine ⟨"list", _, slot_list_getitem.lookup, ht.isList.typeIs, ?_⟩
  refine wpAny_getItem_list_slice ht.isList hs pl pu .none (by simp) ?_ (by rw [List.size_toArray] <;> omega)
  rw [slicePick_cut, ← hlen]
  refine ⟨.ref s.heap.objs.size, _, I.laid (t' := s.toks) (o := .lst (cutV xs lo hi)) (fun b ob q => Heap.get?_push_of_some _ q) (Nat.le_refl _) ?_, rfl, q _ (I.hok.fresh (Nat.le_refl _))⟩
  exact ⟨Nat.le_trans (cutV_length xs lo hi) hz, _, 0, (r.drop (HT.sIx xs.length 0 lo)).take (HT.sIx xs.length xs.length hi - HT.sIx xs.length 0 lo), Heap.get?_push_size _ rfl⟩

/-! ### in, not in: flat items -/
def flatV : V → Bool
  | .non => true
  | .bl _ => true
  | .int _ => true
  | .str _ => true
  | _ => false
/-- == of flat values -/
def eqV : V → V → Bool
  | .non, .non => true
  | .bl a, .bl b => a == b
  | .bl a, .int b => (if a then 1 else 0) == b
  | .int a, .bl b => a == (if b then 1 else 0)
  | .int a, .int b => a == b
  | .str a, .str b => a == b
  | _, _ => false
theorem eqAt_V {A : Around} {s : Shared} {y x : V} {u v : Value} (ry : RelV y u) (rx : RelV x v) (fy : flatV y = true) (fx : flatV x = true) : SeqAt.EqAt A s u v (eqV y x) := by
  cases y with
  | non =>
    cases ry
    cases x with
    | non => cases rx; exact SeqAt.EqAt.same _
    | bl b => cases rx; exact SeqAt.EqAt.none_bool b
    | int b => obtain ⟨t, rfl⟩ := rx; exact SeqAt.EqAt.none_int b t
    | str b => obtain ⟨t, rfl⟩ := rx; exact SeqAt.EqAt.none_str b t
    | _ => exact absurd (show false = true from fx) Bool.false_ne_true
  | bl a =>
    cases ry
    cases x with
    | non => cases rx; exact SeqAt.EqAt.bool_none a
    | bl b => cases rx; exact SeqAt.EqAt.bool_bool a b
    | int b => obtain ⟨t, rfl⟩ := rx; exact SeqAt.EqAt.bool_int a b t
    | str b => obtain ⟨t, rfl⟩ := rx; exact SeqAt.EqAt.bool_str a b t
    | _ => exact absurd (show false = true from fx) Bool.false_ne_true
  | int a =>
    obtain ⟨t', rfl⟩ := ry
    cases x with
    | non => cases rx; exact SeqAt.EqAt.int_none a t'
    | bl b => cases rx; exact SeqAt.EqAt.int_bool a t' b
    | int b => obtain ⟨t, rfl⟩ := rx; exact SeqAt.EqAt.int_int a t' b t
    | str b => obtain ⟨t, rfl⟩ := rx; exact SeqAt.EqAt.int_str a t' b t
    | _ => exact absurd (show false = true from fx) Bool.false_ne_true
  | str a =>
    obtain ⟨t', rfl⟩ := ry
    cases x with
    | non => cases rx; exact SeqAt.EqAt.str_none a t'
    | bl b => cases rx; exact SeqAt.EqAt.str_bool a t' b
    | int b => obtain ⟨t, rfl⟩ := rx; exact SeqAt.EqAt.str_int a t' b t
    | str b => obtain ⟨t, rfl⟩ := rx; exact SeqAt.EqAt.str_str a t' b t
    | _ => exact absurd (show false = true from fx) Bool.false_ne_true
  | _ => exact absurd (show false = true from fy) Bool.false_ne_true
/-- the items' answers, read off the values (a value's own answer does not lean on its token) -/
def eqU (x : V) (u : Value) : Bool := match u with
  | .none => eqV .non x
  | .bool b => eqV (.bl b) x
  | .int i _ => eqV (.int i) x
  | .str z _ => eqV (.str z) x
  | _ => false
theorem eqU_of {x y : V} {u : Value} (r : RelV y u) (f : flatV y = true) : eqU x u = eqV y x := by
  cases y with
  | non => cases r; rfl
  | bl b => cases r; rfl
  | int i => obtain ⟨t, rfl⟩ := r; rfl
  | str z => obtain ⟨t, rfl⟩ := r; rfl
  | _ => exact absurd (show false = true from f) Bool.false_ne_true
theorem any_eqU {x : V} : ∀ {xs : List V} {us : List Value}, Vals xs us → xs.all flatV = true → us.any (eqU x) = xs.any fun y => eqV y x
  | _, _, .nil, _ => rfl
  | y :: xs, u :: us, .cons r t, f => by
    rw [List.all_cons, Bool.and_eq_true] at f
    rw [List.any_cons, List.any_cons, eqU_of r f.1, any_eqU t f.2]
theorem mem_eqAt {A : Around} {s : Shared} {x : V} {v : Value} (rx : RelV x v) (fx : flatV x = true) : ∀ {xs : List V} {us : List Value}, Vals xs us → xs.all flatV = true → ∀ u ∈ us, SeqAt.EqAt A s u v (eqU x u)
  | _, _, .nil, _ => fun u hu => by cases hu
  | y :: xs, u :: us, .cons r t, f => fun u' hu => by
    rw [List.all_cons, Bool.and_eq_true] at f
    rcases List.mem_cons.mp hu with rfl | hu
    · rw [eqU_of r f.1]; exact eqAt_V r rx f.1 fx
    · exact mem_eqAt rx fx t f.2 u' hu
def inV (x : V) (xs : List V) : Bool := xs.any fun y => eqV y x
/-- x in a list or tuple of flat items -/
def rIn (K : PySem.W.Frag) (neg : Bool) : R2 := fun x y H Q => ∃ p xs, y = .ref p ∧ (SqL K H p xs ∨ SqT K H p xs) ∧ flatV x = true ∧ xs.all flatV = true ∧ Q (.bl (if neg then !inV x xs else inV x xs)) H
theorem op_in_seq : OpR X (compareOp .In) (rIn X.K false) := by
  intro pins s σ H x y v u Q I rx ry h
  obtain ⟨p, xs, rfl, hq, fx, fs, q⟩ := h
  cases ry
  rcases hq with hq | hq
  · obtain ⟨its, r, pl, hz⟩ := I.list hq
    refine SeqAt.in_listAt (eqU x) pl.isList (fun w hw => mem_eqAt rx fx r fs w (by simpa using hw)) ⟨.bl _, H, I, rfl, ?_⟩
    rw [show its.toArray.any (eqU x) = its.any (eqU x) by simp, any_eqU r fs]
    exact q
  · obtain ⟨its, r, pl, hz⟩ := I.tuple hq
    refine SeqAt.in_tupleAt (eqU x) pl (fun w hw => mem_eqAt rx fx r fs w (by simpa using hw)) ⟨.bl _, H, I, rfl, ?_⟩
    rw [show its.toArray.any (eqU x) = its.any (eqU x) by simp, any_eqU r fs]
    exact q
/-! ### len, list(x), tuple(x) of any list or tuple that is read -/
theorem call_len_seq : CallR X (.builtin "len") (fun xs H Q => ∃ p ys, xs = [.ref p] ∧ (SqL X.K H p ys ∨ SqT X.K H p ys) ∧ Q (.int ys.length) H) := by
  intro pins s σ H xs us Q I r h
  obtain ⟨p, ys, rfl, hq, q⟩ := h
  obtain ⟨u, rfl, rx⟩ := vals1 r
  cases rx
  have hn := line63
  rcases hq with hq | hq
  · obtain ⟨its, r', pl, hz⟩ := I.list hq
    have hlen := r'.length
    exact Calls.call_len_list pl.isList (by simp only [List.size_toArray] <;> omega) ⟨.int ys.length, H, I.tok _, ⟨s.toks + 1, by rw [List.size_toArray, hlen]⟩, q⟩
  · obtain ⟨its, r', pl, hz⟩ := I.tuple hq
    have hlen := r'.length
    exact len_tuple pl (by simp only [List.size_toArray] <;> omega) ⟨.int ys.length, H, I.tok _, ⟨s.toks + 1, by rw [List.size_toArray, hlen]⟩, q⟩
theorem call_len_str : CallR X (.builtin "len") (fun xs H Q => ∃ z, xs = [.str z] ∧ z.length ≤ sizeLine ∧ Q (.int z.length) H) := by
  intro pins s σ H xs us Q I r h
  obtain ⟨z, rfl, hz, q⟩ := h
  obtain ⟨u, rfl, t, rfl⟩ := vals1 r
  have hn := line63
  exact len_str (by omega) ⟨.int z.length, H, I.tok _, ⟨_, rfl⟩, q⟩
theorem call_list_of : CallR X (.type "list") (fun xs H Q => ∃ p ys, xs = [.ref p] ∧ (SqL X.K H p ys ∨ SqT X.K H p ys) ∧ ∀ l, H l = none → Q (.ref l) (upd H l (.lst ys))) := by
  intro pins s σ H xs us Q I r h
  obtain ⟨p, ys, rfl, hq, q⟩ := h
  obtain ⟨u, rfl, rx⟩ := vals1 r
  cases rx
  have fin : ∀ (its : List Value), Vals ys its → ys.length ≤ sizeLine → ∀ (h' : Heap) (c' : Nat), (∀ b o', s.heap.get? b = some o' → h'.get? b = some o') →
      h'.get? s.heap.objs.size = some { cls := .type "list", dict := none, data := .seq its.toArray c', slots := #[] } → EP X pins σ Q (.ref s.heap.objs.size) { s with heap := h' } := fun its r' hz h' c' kp e =>
    ⟨.ref s.heap.objs.size, _, I.laid (t' := s.toks) kp (Nat.le_refl _) (show ObjOk X.prog X.w _ h' _ (.lst ys) from ⟨hz, its, c', r', e⟩), rfl, q _ (I.hok.fresh (Nat.le_refl _))⟩
  rcases hq with hq | hq
  · obtain ⟨its, r', pl, hz⟩ := I.list hq
    have hlen := r'.length
    obtain ⟨o, ho, hc, n, hd⟩ := pl.isList
    exact call_list_seq p (.inl rfl) ho hc hd (fun h' c' kp e => fin its r' hz h' c' kp e) (by simp only [List.size_toArray] <;> omega)
  · obtain ⟨its, r', pl, hz⟩ := I.tuple hq
    have hlen := r'.length
    obtain ⟨o, ho, hc, n, hd⟩ := pl
    exact call_list_seq p (.inr rfl) ho hc hd (fun h' c' kp e => fin its r' hz h' c' kp e) (by simp only [List.size_toArray] <;> omega)
theorem call_tuple_of : CallR X (.type "tuple") (fun xs H Q => ∃ p ys, xs = [.ref p] ∧ ((SqL X.K H p ys ∧ ∀ l, H l = none → Q (.ref l) (upd H l (.tup ys))) ∨ (SqT X.K H p ys ∧ Q (.ref p) H))) := by
  intro pins s σ H xs us Q I r h
  obtain ⟨p, ys, rfl, h⟩ := h
  obtain ⟨u, rfl, rx⟩ := vals1 r
  cases rx
  rcases h with ⟨hq, q⟩ | ⟨hq, q⟩
  · obtain ⟨its, r', pl, hz⟩ := I.list hq
    have hlen := r'.length
    refine call_tuple_list pl.isList (fun h' kp => ?_) (by simp only [List.size_toArray] <;> omega)
    have I1 : Inv X pins σ H { s with heap := h' } := I.kept (t' := s.toks) kp
    have I2 : Inv X pins σ (upd H h'.objs.size (.tup ys)) { s with heap := h'.push { cls := .type "tuple", data := .seq its.toArray } } :=
      I1.laid (t' := s.toks) (fun b o e => Heap.get?_push_of_some _ e) (Nat.le_refl _) (show ObjOk X.prog X.w _ _ _ (.tup ys) from ⟨hz, its, r', IsTup.new _ _⟩)
    exact ⟨.ref h'.objs.size, _, I2, rfl, q _ (I1.hok.fresh (Nat.le_refl _))⟩
  · obtain ⟨its, r', pl, hz⟩ := I.tuple hq
    exact call_tuple_same pl ⟨.ref p, H, I, rfl, q⟩

/-! ### the call of a builtin's method: o.m(..) -/
/-- the value is of that builtin type -/
def tyV (K : PySem.W.Frag) (T : String) (x : V) (H : Hp) : Prop := match x with
  | .str _ => T = "str"
  | .int _ => T = "int"
  | .ref p => (T = "list" ∧ ∃ xs, SqL K H p xs) ∨ (T = "tuple" ∧ ∃ o, K.lookup p = some o ∧ o.cls = .type "tuple" ∧ o.dict = none) ∨
      (T = "dict" ∧ ((∃ kvs, H p = some (.dK kvs)) ∨ ∃ kvs, H p = some (.dT kvs))) ∨ (T = "set" ∧ ∃ S n, H p = some (.set S n))
  | _ => False
theorem tyV_is {pins : List (Addr × Obj)} {σ : St} {H : Hp} {s : Shared} {T : String} {x : V} {v : Value} (I : Inv X pins σ H s) (r : RelV x v) (ty : tyV X.K T x H) :
    s.TypeIs v T ∧ ∀ a, v = .ref a → ∃ ob, s.heap.get? a = some ob ∧ ob.dict = none := by
  cases x with
  | str z =>
    obtain ⟨t, rfl⟩ := r
    cases (show T = "str" from ty)
    exact ⟨typeIs_str s z t, fun _ e => nomatch e⟩
  | int i =>
    obtain ⟨t, rfl⟩ := r
    cases (show T = "int" from ty)
    exact ⟨typeIs_int s i t, fun _ e => nomatch e⟩
  | ref p =>
    cases r
    rcases ty with ⟨rfl, xs, hq⟩ | ⟨rfl, o, hk, hc, hd⟩ | ⟨rfl, hk⟩ | ⟨rfl, S, n, hk⟩
    · obtain ⟨its, _, pl, _⟩ := I.list hq
      refine ⟨pl.isList.typeIs, fun a e => ?_⟩
      cases e
      obtain ⟨o, n, e, c, hd, _⟩ := pl
      exact ⟨o, e, hd⟩
    · refine ⟨⟨o, I.kIn p o hk, hc⟩, fun a e => ?_⟩
      cases e
      exact ⟨o, I.kIn _ o hk, hd⟩
    · have z : ∃ o, s.heap.get? p = some o ∧ o.ExactDict := by
        rcases hk with ⟨kvs, hk⟩ | ⟨kvs, hk⟩
        · obtain ⟨_, _, _, _, o, _, _, e, ex, _⟩ := I.hok p _ hk
          exact ⟨o, e, ex⟩
        · obtain ⟨_, _, _, _, o, _, _, e, ex, _⟩ := I.hok p _ hk
          exact ⟨o, e, ex⟩
      obtain ⟨o, e, ex⟩ := z
      refine ⟨⟨o, e, ex.1⟩, fun a e2 => ?_⟩
      cases e2
      exact ⟨o, e, ex.2.1⟩
    · obtain ⟨o, _, _, _, e, ex, _⟩ := I.hok p _ hk
      refine ⟨⟨o, e, ex.1⟩, fun a e2 => ?_⟩
      cases e2
      exact ⟨o, e, ex.2.1⟩
  | _ => exact False.elim ty
def tBM0 (K : PySem.W.Frag) (T : String) (r : V → List V → Hp → VK → Prop) (to : TE) : TE := fun σ H Q => to σ H fun x H1 => tyV K T x H1 ∧ r x [] H1 Q
def tBM (K : PySem.W.Frag) (T : String) (r : V → List V → Hp → VK → Prop) (to : TE) (t : TA) : TE := fun σ H Q => to σ H fun x H1 => tyV K T x H1 ∧ t σ H1 fun xs H2 => r x xs H2 Q
variable {o e : Expr} {es : List Expr} {to : TE} {t : TA} {name : Str} {apos cpos : Pos} {T id : String} {r : V → List V → Hp → VK → Prop}
theorem pe_bm0 (pa : PlainAttrs T) (slot : Slot T name id) (hty : typeOf (.builtin id) = pure (.type "method_descriptor")) (hm : MtR X id r) (ho : PE X o to)
    (hbase : attributeBase o name X.env (eval o X.env) = eval o X.env := by rfl) (hline : (apos.endLine == cpos.line) = true := by rfl) : PE X (.Call (.Attribute o name apos) [] [] cpos) (tBM0 X.K T r to) := by
  intro pins s σ H Q I h
  refine wpAny_Call_method0_late hbase hline (thn (ho pins s σ H _ I h) fun v s1 ⟨x, H1, I1, r1, ty, q1⟩ => ?_)
  obtain ⟨h1, h2⟩ := tyV_is I1 r1 ty
  exact ⟨T, id, pa, slot, hty, h1, h2, Calls.callWith_builtin rfl (PySem.evalArgs_none (hm pins s1 σ H1 x [] v [] Q I1 r1 .nil q1))⟩
theorem pe_bm (pa : PlainAttrs T) (slot : Slot T name id) (hty : typeOf (.builtin id) = pure (.type "method_descriptor")) (hm : MtR X id r) (ho : PE X o to) (ha : PA X (e :: es) t)
    (hbase : attributeBase o name X.env (eval o X.env) = eval o X.env := by rfl)
    (hfew : ((backTo cpos (starEach (e :: es) X.env)).all (fun x => !x.1) && (backToKw cpos (keywordEach [] X.env)).all (fun x => x.1.isSome)
      && decide ((e :: es).length + ([] : List Keyword).length + (if ([] : List Keyword).isEmpty then 0 else 1) < 30)) = true := by rfl)
    (hline : (apos.endLine == cpos.line) = true := by rfl) (hs : starEach (e :: es) X.env = (false, eval e X.env) :: starEach es X.env := by rfl) (hplain : (backTo cpos (starEach es X.env)).any (·.1) = false := by rfl) :
    PE X (.Call (.Attribute o name apos) (e :: es) [] cpos) (tBM X.K T r to t) := by
  intro pins s σ H Q I h
  refine wpAny_Call_method_late hbase hfew hline rfl (thn (ho pins s σ H _ I h) fun v s1 ⟨x, H1, I1, r1, ty, q1⟩ => ?_)
  obtain ⟨h1, h2⟩ := tyV_is I1 r1 ty
  refine ⟨T, id, pa, slot, hty, h1, h2, ?_⟩
  have hA := ha cpos pins s1 σ H1 _ I1 q1
  rw [hs] at hA ⊢
  refine Calls.callWith_builtin (by show (false || (backTo cpos (starEach es X.env)).any (·.1)) = false; rw [hplain] <;> rfl) (Calls.evalArgs_plain ?_)
  exact thn hA fun us s2 ⟨vs, H2, I2, r2, q2⟩ => hm pins s2 σ H2 x vs v us Q I2 r1 r2 q2
/- xs.append(e), list.index on a module's tuple .. are MtR facts of 06m -/
end
end L2

namespace L2
open PySem PySem.Spec PyProof.Rows

def MtM (X : Cx) (id : String) (r : V → List V → Hp → VK → Prop) : Prop :=
  ∀ (pins : List (Addr × Obj)) (s : Shared) (σ : St) (H : Hp) (x : V) (xs : List V) (v : Value) (us : List Value) (Q : VK), Inv X pins σ H s → RelV x v → Vals xs us → r x xs H Q →
    wpAny (model X.prog X.w) X.A (call (.builtin id) (v :: us)) (EP X pins σ Q) X.xe s

/-! ### lists of values -/
theorem Vals.one : ∀ {x : V} {us : List Value}, Vals [x] us → ∃ u, us = [u] ∧ RelV x u
  | _, _, .cons r .nil => ⟨_, rfl, r⟩
section
variable {X : Cx} {pins : List (Addr × Obj)} {σ : St} {H : Hp} {s : Shared} {l b : Addr} {xs ys zs : List V}

/-! ### the two steps: a tracked list is rewritten, a new list is laid -/
theorem Inv.lset {its its' : List Value} {n : Nat} {f : Array Value → Array Value} {t' : Nat} (I : Inv X pins σ H s) (hH : H l = some (.lst xs))
    (e : s.heap.get? l = some { cls := .type "list", data := .seq its.toArray n }) (hf : f its.toArray = its'.toArray) (hv : Vals ys its') (hz : ys.length ≤ sizeLine) :
    Inv X pins σ (upd H l (.lst ys)) { s with heap := s.heap.update l (Obj.mapSeq f), toks := t' } := by
  have q := PySem.IsL.update e f
  rw [hf] at q
  refine I.write (x := l) (e := l) (by rw [hH]; exact trivial) (.inl rfl) (fun b' u hb hu => (Heap.get?_update_other s.heap (Obj.mapSeq f) (Ne.symm hb)).trans hu) ⟨_, q⟩ ?_
  exact ⟨hz, its', _, hv, q⟩
theorem Inv.lnew {its : List Value} {t' : Nat} (I : Inv X pins σ H s) (hv : Vals ys its) (hz : ys.length ≤ sizeLine) :
    Inv X pins σ (upd H s.heap.objs.size (.lst ys)) { s with heap := s.heap.push { cls := .type "list", data := .seq its.toArray }, toks := t' } :=
  I.laid (fun _ _ q => Heap.get?_push_of_some _ q) (Nat.le_refl _) ⟨hz, its, 0, hv, Heap.get?_push_size _ rfl⟩
theorem Inv.fresh (I : Inv X pins σ H s) : H s.heap.objs.size = none := I.hok.fresh (Nat.le_refl _)
theorem Inv.lstM (I : Inv X pins σ H s) (hH : H l = some (.lst xs)) : xs.length ≤ sizeLine ∧ ∃ (its : List Value) (n : Nat), Vals xs its ∧ xs.length = its.length ∧ s.heap.get? l = some { cls := .type "list", data := .seq its.toArray n } := by
  obtain ⟨z, its, n, r, e⟩ := I.hok l _ hH
  exact ⟨z, its, n, r, r.length, e⟩

theorem notLongL {n : Nat} (h : n ≤ sizeLine) : Builtin.List.listTooLong n = false := by
  unfold Builtin.List.listTooLong
  exact decide_eq_false (by omega)
end

section
variable {X : Cx}

/-! ### methods -/
def rAppend : V → List V → Hp → VK → Prop := fun x vs H Q => ∃ l xs y, x = .ref l ∧ vs = [y] ∧ H l = some (.lst xs) ∧ xs.length < sizeLine ∧ Q .non (upd H l (.lst (xs ++ [y])))
theorem mt_append : MtM X "list.append" rAppend := by
  intro pins s σ H x vs v us Q I rx rv h
  obtain ⟨l, xs, y, rfl, rfl, hH, hz, q⟩ := h
  cases rx
  obtain ⟨u, rfl, ru⟩ := rv.one
  obtain ⟨z, its, n, r, hl, e⟩ := I.lstM hH
  refine call_meets F.slot_list_append ⟨_, e, rfl⟩ F.entry_list_append (F.args_list_append_2 _ _) (PySem.list_append l its.toArray n u (by rw [List.size_toArray]; omega)) ⟨e, ?_⟩
  refine ⟨.non, _, I.lset (its' := its ++ [u]) hH e (by simp) (r.append (.cons ru .nil)) ?_, rfl, q⟩
  rw [List.length_append, List.length_singleton]
  omega

def rExtend : V → List V → Hp → VK → Prop := fun x vs H Q => ∃ l b xs zs, x = .ref l ∧ vs = [.ref b] ∧ H l = some (.lst xs) ∧ H b = some (.lst zs) ∧ xs.length + zs.length ≤ sizeLine ∧ Q .non (upd H l (.lst (xs ++ zs)))
theorem mt_extend : MtM X "list.extend" rExtend := by
  intro pins s σ H x vs v us Q I rx rv h
  obtain ⟨l, b, xs, zs, rfl, rfl, hH, hB, hz, q⟩ := h
  cases rx
  obtain ⟨u, rfl, ru⟩ := rv.one
  cases ru
  obtain ⟨z, its, n, r, hl, e⟩ := I.lstM hH
  obtain ⟨z2, its2, n2, r2, hl2, e2⟩ := I.lstM hB
  have hsz : its.toArray.size + its2.toArray.size ≤ sizeLine := by rw [List.size_toArray, List.size_toArray]; omega
  have hlong : ¬ (!its.toArray.isEmpty && Builtin.List.listTooLong (its.toArray.size + its2.toArray.size)) = true := by
    rw [notLongL hsz, Bool.and_false]
    exact Bool.false_ne_true
  refine call_meets F.slot_list_extend ⟨_, e, rfl⟩ F.entry_list_extend (F.args_list_extend_2 _ _)
    (AutoSeq1.list_extend_list_list_0 l its.toArray n b its2.toArray n2 hlong (by rw [List.size_toArray]; omega) (by omega)) ⟨e, e2, ?_⟩
  refine ⟨.non, _, I.lset (its' := its ++ its2) hH e (by simp) (r.append r2) ?_, rfl, q⟩
  rw [List.length_append]
  omega

/-! ### list + list, list += list, list * int -/
def rCat : R2 := fun x y H Q => ∃ l b xs zs, x = .ref l ∧ y = .ref b ∧ H l = some (.lst xs) ∧ H b = some (.lst zs) ∧ xs.length + zs.length ≤ sizeLine ∧ ∀ p, H p = none → Q (.ref p) (upd H p (.lst (xs ++ zs)))
theorem op_cat : OpR X (binaryOp .Add) rCat := by
  intro pins s σ H x y v u Q I rx ry h
  obtain ⟨l, b, xs, zs, rfl, rfl, hH, hB, hz, q⟩ := h
  cases rx
  cases ry
  obtain ⟨z, its, n, r, hl, e⟩ := I.lstM hH
  obtain ⟨z2, its2, n2, r2, hl2, e2⟩ := I.lstM hB
  refine PySem.P.add_list e e2 ?_ (by rw [List.size_toArray, List.size_toArray]; omega)
  have ea : its.toArray ++ its2.toArray = (its ++ its2).toArray := by simp
  rw [ea]
  exact ⟨.ref _, _, I.lnew (t' := s.toks) (r.append r2) (by rw [List.length_append]; omega), rfl, q _ I.fresh⟩
/-! ### del xs[i] -/
end

/-! ### xs[a:b] = ys -/
section
variable {prog : Program} {w : World} {A : Around} {E : Value → Shared → Prop} {s : Shared}
end

section
variable {X : Cx}
end
end L2

namespace L2
open PySem PySem.Spec PyProof.Rows

/-! ### lists of pairs as tables -/
section
variable {κ : Type} [DecidableEq κ]
def valV (kvs : List (κ × V)) (k : κ) : Option V := (kvs.find? fun kv => decide (kv.1 = k)).map (·.2)
/-- in its place, or at the end -/
def putK (kvs : List (κ × V)) (k : κ) (v : V) : List (κ × V) :=
  if (kvs.any fun kv => decide (kv.1 = k)) = true then kvs.map (fun kv => if kv.1 = k then (kv.1, v) else kv) else kvs ++ [(k, v)]
theorem valV_pos {p : κ × V} {r : List (κ × V)} {k : κ} (e : p.1 = k) : valV (p :: r) k = some p.2 := by simp [valV, List.find?_cons, e]
theorem valV_neg {p : κ × V} {r : List (κ × V)} {k : κ} (e : ¬ p.1 = k) : valV (p :: r) k = valV r k := by simp [valV, List.find?_cons, e]
theorem valV_any (k : κ) : ∀ kvs : List (κ × V), (kvs.any fun kv => decide (kv.1 = k)) = (valV kvs k).isSome
  | [] => rfl
  | p :: r => by
    rw [List.any_cons]
    by_cases e : p.1 = k
    · simp only [valV_pos e, decide_eq_true e, Bool.true_or, Option.isSome_some]
    · rw [valV_neg e, decide_eq_false e, Bool.false_or]; exact valV_any k r
theorem length_putK (kvs : List (κ × V)) (k : κ) (v : V) : (putK kvs k v).length ≤ kvs.length + 1 := by
  unfold putK
  split
  · rw [List.length_map]; omega
  · rw [List.length_append, List.length_cons, List.length_nil]; omega
theorem RelO.isSome_eq {o : Option V} {u : Option Value} (r : RelO o u) : o.isSome = u.isSome := by
  cases o with
  | none => cases u with
    | none => rfl
    | some _ => exact (show False from r).elim
  | some _ => cases u with
    | none => exact (show False from r).elim
    | some _ => rfl
/-- raw tables of the same keys -/
theorem KV.val {kvs : List (κ × V)} {vs : List (κ × Value)} (r : KV kvs vs) (k : κ) : RelO (valV kvs k) (valueAt vs k) := by
  unfold KV at r
  induction r with
  | nil => exact True.intro
  | @cons p q ps qs h t ih =>
    obtain ⟨h1, h2⟩ := h
    by_cases e : p.1 = k
    · have e' : q.1 = k := h1.symm.trans e
      have b : valueAt (q :: qs) k = some q.2 := by simp [valueAt, List.find?_cons, e']
      rw [valV_pos e, b]; exact h2
    · have e' : ¬ q.1 = k := fun z => e (h1.trans z)
      have b : valueAt (q :: qs) k = valueAt qs k := by simp [valueAt, List.find?_cons, e']
      rw [valV_neg e, b]; exact ih
theorem KV.any {kvs : List (κ × V)} {vs : List (κ × Value)} (r : KV kvs vs) (k : κ) : (kvs.any fun kv => decide (kv.1 = k)) = vs.any fun kv => decide (kv.1 = k) := by
  unfold KV at r
  induction r with
  | nil => rfl
  | cons h t ih => rw [List.any_cons, List.any_cons, ih, h.1]
theorem KV.repl {kvs : List (κ × V)} {vs : List (κ × Value)} (r : KV kvs vs) (k : κ) {y : V} {u : Value} (ry : RelV y u) :
    KV (kvs.map fun kv => if kv.1 = k then (kv.1, y) else kv) (vs.map fun kv => if kv.1 = k then (kv.1, u) else kv) := by
  unfold KV at r ⊢
  induction r with
  | nil => exact .nil
  | @cons p q ps qs h t ih =>
    rw [List.map_cons, List.map_cons]
    refine .cons ?_ ih
    obtain ⟨h1, h2⟩ := h
    by_cases e : p.1 = k
    · rw [if_pos e, if_pos (h1.symm.trans e)]; exact ⟨h1, ry⟩
    · rw [if_neg e, if_neg (fun z => e (h1.trans z))]; exact ⟨h1, h2⟩
theorem KV.put {kvs : List (κ × V)} {vs : List (κ × Value)} (r : KV kvs vs) (k : κ) {y : V} {u : Value} (ry : RelV y u) : KV (putK kvs k y) (stored vs k u) := by
  unfold putK stored
  rw [r.any k]
  by_cases e : (vs.any fun kv => decide (kv.1 = k)) = true
  · rw [if_pos e, if_pos e]; exact r.repl k ry
  · rw [if_neg e, if_neg e]; exact Paired.snoc r ⟨rfl, ry⟩
theorem KV.length {kvs : List (κ × V)} {vs : List (κ × Value)} (r : KV kvs vs) : kvs.length = vs.length := Paired.length r
end


/-! ### a tracked dict, its keys ints and texts or tuples of these -/
theorem kV_is {P : Program} {w : World} {k : Key} {u : Value} (r : RelV (kV k) u) : (mixKind P w).is k u = true := by
  cases k with
  | inl i => obtain ⟨t, e⟩ := (show ∃ t, u = Value.int i t from r); subst e; exact mixKind_int P w i t
  | inr x => obtain ⟨t, e⟩ := (show ∃ t, u = Value.str x t from r); subst e; exact mixKind_str P w x t
theorem items_are {P : Program} {w : World} : ∀ {ks : List Key} {us : List Value}, Vals (ks.map kV) us → ItemsAre (mixKind P w) ks us
  | [], _, r => by rw [List.map_nil] at r; cases r; exact .nil
  | k :: ks, _, r => by
    rw [List.map_cons] at r
    cases r with
    | cons h t => exact .cons (kV_is h) (items_are t)

/-- raw entries of a dict with tuple keys -/
abbrev KT (H : Hp) : List (List Key × V) → List (List Key × Addr × Value) → Prop := Paired fun p q => p.1 = q.1 ∧ H q.2.1 = some (.tup (p.1.map kV)) ∧ RelV p.2 q.2.2
theorem KT.val {H : Hp} {kvs : List (List Key × V)} {xs : List (List Key × Addr × Value)} (r : KT H kvs xs) (k : List Key) : RelO (valV kvs k) ((atKey xs k).map (·.2)) := by
  induction r with
  | nil => exact True.intro
  | @cons p q ps qs h t ih =>
    obtain ⟨h1, _, h2⟩ := h
    by_cases e : p.1 = k
    · have e' : q.1 = k := h1.symm.trans e
      have b : atKey (q :: qs) k = some q.2 := by simp [atKey, List.find?_cons, e']
      rw [valV_pos e, b]; exact h2
    · have e' : ¬ q.1 = k := fun z => e (h1.trans z)
      have b : atKey (q :: qs) k = atKey qs k := by simp [atKey, List.find?_cons, e']
      rw [valV_neg e, b]; exact ih
theorem KT.repl {H : Hp} {kvs : List (List Key × V)} {xs : List (List Key × Addr × Value)} (r : KT H kvs xs) (k : List Key) {y : V} {u : Value} (ry : RelV y u) :
    KT H (kvs.map fun kv => if kv.1 = k then (kv.1, y) else kv) (xs.map (putAt k u)) := by
  induction r with
  | nil => exact .nil
  | @cons p q ps qs h t ih =>
    rw [List.map_cons, List.map_cons]
    refine .cons ?_ ih
    obtain ⟨h1, h2, h3⟩ := h
    unfold putAt
    by_cases e : p.1 = k
    · rw [if_pos e, if_pos (h1.symm.trans e)]; exact ⟨h1, h2, ry⟩
    · rw [if_neg e, if_neg (fun z => e (h1.trans z))]; exact ⟨h1, h2, h3⟩
theorem KT.put {H : Hp} {kvs : List (List Key × V)} {xs : List (List Key × Addr × Value)} (r : KT H kvs xs) (k : List Key) {b : Addr} {y : V} {u : Value} (hb : H b = some (.tup (k.map kV))) (ry : RelV y u) :
    KT H (putK kvs k y) (storedH xs k b u) := by
  have e : (kvs.any fun kv => decide (kv.1 = k)) = (atKey xs k).isSome := by
    rw [valV_any, (r.val k).isSome_eq, Option.isSome_map]
  unfold putK storedH
  rw [e]
  by_cases q : (atKey xs k).isSome = true
  · rw [if_pos q, if_pos q]; exact r.repl k ry
  · rw [if_neg q, if_neg q]; exact Paired.snoc r ⟨rfl, hb, ry⟩
theorem KT.keeps {H H' : Hp} {kvs : List (List Key × V)} {xs : List (List Key × Addr × Value)} (r : KT H kvs xs) (ht : ∀ b ys, H b = some (.tup ys) → H' b = some (.tup ys)) : KT H' kvs xs :=
  Paired.mapP r fun _ _ z => ⟨z.1, ht _ _ z.2.1, z.2.2⟩

section
variable {P : Program} {w : World} {H : Hp} {h : Heap} {a : Addr}
theorem rd_of {u : HO} (ok : HOk P w H h) (e : Rd H a u) : ObjOk P w H h a u := e.ok ok
theorem dk_rd {kvs : List (Key × V)} (ok : HOk P w H h) (e : Rd H a (.dK kvs)) : kvs.length ≤ sizeLine ∧ (a == sysModules) = false ∧ ∃ vs, KV kvs vs ∧ h.DictOf (mixKind P w) a vs :=
  show ObjOk P w H h a (.dK kvs) from rd_of ok e
theorem dk_of {kvs : List (Key × V)} (ok : HOk P w H h) (e : H a = some (.dK kvs)) : kvs.length ≤ sizeLine ∧ (a == sysModules) = false ∧ ∃ vs, KV kvs vs ∧ h.DictOf (mixKind P w) a vs := dk_rd ok (.inl e)
/-- a tracked tuple of ints and texts is a key -/
theorem key_of {ks : List Key} (ok : HOk P w H h) (e : H a = some (.tup (ks.map kV))) : (tupleKind (mixKind P w)).is h ks a := by
  obtain ⟨_, its, r, o, h1, h2, n, h3⟩ := (show ObjOk P w H h a (.tup (ks.map kV)) from ok a _ e)
  exact ⟨o, its.toArray, n, h1, h2, h3, by simpa using items_are r⟩
theorem dt_rd {kvs : List (List Key × V)} (ok : HOk P w H h) (e : Rd H a (.dT kvs)) : kvs.length ≤ sizeLine ∧ (a == sysModules) = false ∧
    ∃ xs, KT H kvs xs ∧ h.DictOfH (tupleKind (mixKind P w)) a xs := by
  obtain ⟨z, y, xs, r, o, es, ep, h1, h2, h3, h4, h5⟩ := (show ObjOk P w H h a (.dT kvs) from rd_of ok e)
  refine ⟨z, y, xs, r, o, es, ep, h1, h2, h3, h4, fun x hx => ?_, h5⟩
  have all : ∀ {l : List (List Key × V)} {m : List (List Key × Addr × Value)}, KT H l m → ∀ x ∈ m, (tupleKind (mixKind P w)).is h x.1 x.2.1 := by
    intro l m q
    induction q with
    | nil => intro x hx; exact nomatch hx
    | @cons p q ps qs hq t ih =>
      intro x hx
      rcases List.mem_cons.mp hx with e | hx
      · subst e
        exact key_of ok (by rw [← hq.1]; exact hq.2.1)
      · exact ih x hx
  exact all r x hx
theorem dt_of {kvs : List (List Key × V)} (ok : HOk P w H h) (e : H a = some (.dT kvs)) : kvs.length ≤ sizeLine ∧ (a == sysModules) = false ∧
    ∃ xs, KT H kvs xs ∧ h.DictOfH (tupleKind (mixKind P w)) a xs := dt_rd ok (.inl e)
end

/-- what the dict at a holds at the key y -/
def DGet (H : Hp) (a : Addr) (y : V) (r : Option V) : Prop :=
  (∃ kvs k, Rd H a (.dK kvs) ∧ y = kV k ∧ r = valV kvs k) ∨ ∃ kvs k b, Rd H a (.dT kvs) ∧ y = .ref b ∧ H b = some (.tup (k.map kV)) ∧ r = valV kvs k
/-- the heap behind a[y] = v -/
def DPut (H : Hp) (a : Addr) (y v : V) (H' : Hp) : Prop :=
  (∃ kvs k, H a = some (.dK kvs) ∧ y = kV k ∧ kvs.length < sizeLine ∧ H' = upd H a (.dK (putK kvs k v))) ∨
  ∃ kvs k b, H a = some (.dT kvs) ∧ y = .ref b ∧ H b = some (.tup (k.map kV)) ∧ kvs.length < sizeLine ∧ H' = upd H a (.dT (putK kvs k v))
theorem DGet.k {H : Hp} {a : Addr} {kvs : List (Key × V)} {k : Key} (e : H a = some (.dK kvs)) : DGet H a (kV k) (valV kvs k) := .inl ⟨kvs, k, .inl e, rfl, rfl⟩
theorem DPut.k {H : Hp} {a : Addr} {kvs : List (Key × V)} {k : Key} {v : V} (e : H a = some (.dK kvs)) (hl : kvs.length < sizeLine) : DPut H a (kV k) v (upd H a (.dK (putK kvs k v))) := .inl ⟨kvs, k, e, rfl, hl, rfl⟩
section
variable {X : Cx} {pins : List (Addr × Obj)} {σ : St} {H : Hp} {s : Shared} {a : Addr} {y v : V} {u r : Value} {o : Option V} {A : Around} {E : Value → Shared → Prop}

theorem Inv.big (I : Inv X pins σ H s) : sysModules < s.heap.objs.size := by
  have h : mainGlobals < s.heap.objs.size := (I.mod.glob.keeps I.bk).lt
  exact Nat.lt_trans (by decide) h

/-- d[y], there -/
theorem d_getItem {Q : Value → Shared → Prop} (hu : A.units + 1 < cLine) (I : Inv X pins σ H s) (g : DGet H a y (some v)) (ry : RelV y u) (h : ∀ w' s', Inv X pins σ H s' → RelV v w' → Q w' s') :
    wpAny (model X.prog X.w) A (getItem (.ref a) u) Q E s := by
  rcases g with ⟨kvs, k, e, ey, l⟩ | ⟨kvs, k, b, e, ey, eb, l⟩
  · subst ey
    obtain ⟨z, hd, vs, rel, dd⟩ := dk_rd I.hok e
    obtain ⟨w', hw, rw'⟩ := RelO.some_of (v := v) (o := valueAt vs k) (by rw [l]; exact rel.val k)
    exact wpAny_getItem_of (kV_is ry) dd.mapOf hw (h w' _ (I.tok _) rw')
  · subst ey
    cases (show u = Value.ref b from ry)
    obtain ⟨z, hd, xs, rel, dd⟩ := dt_rd I.hok e
    obtain ⟨w', hw, rw'⟩ := RelO.some_of (v := v) (o := (atKey xs k).map (·.2)) (by rw [l]; exact rel.val k)
    obtain ⟨p, hp, hp2⟩ := Option.map_eq_some_iff.mp hw
    refine wpAny_getItem_heap (tupleKind_room_in1 hu) (key_of I.hok eb) dd hp ?_
    rw [hp2]
    exact h w' _ (I.tok _) rw'
/-- a dict's object is replaced -/
theorem d_write {h' : Heap} {t' : Nat} {ob : HO} (I : Inv X pins σ H s) (mu : Mut (H a)) (hs : Heap.SameBut a s.heap h') (he : ∃ q, h'.get? a = some q) (new : ObjOk X.prog X.w (upd H a ob) h' a ob) :
    Inv X pins σ (upd H a ob) { s with heap := h', toks := t' } :=
  I.write (x := a) (e := a) mu (.inl rfl) (fun b q hb z => (hs.2 b hb).trans z) he new
theorem dk_new {P : Program} {w : World} {H' : Hp} {h' : Heap} {kvs : List (Key × V)} {vs : List (Key × Value)} (z : kvs.length ≤ sizeLine) (hd : (a == sysModules) = false) (rel : KV kvs vs) (dd : h'.DictOf (mixKind P w) a vs) :
    ObjOk P w H' h' a (.dK kvs) := ⟨z, hd, vs, rel, dd⟩
/-- d[y] = v -/
theorem d_setItem {H' : Hp} {Q : Unit → Shared → Prop} (hu : A.units + 1 < cLine) (I : Inv X pins σ H s) (g : DPut H a y v H') (ry : RelV y u) (rv : RelV v r) (h : ∀ s', Inv X pins σ H' s' → Q () s') :
    wpAny (model X.prog X.w) A (setItem (.ref a) u r) Q E s := by
  rcases g with ⟨kvs, k, e, ey, l, eH⟩ | ⟨kvs, k, b, e, ey, eb, l, eH⟩
  · subst ey eH
    obtain ⟨z, hd, vs, rel, dd⟩ := dk_of I.hok e
    have hz : vs.length ≤ sizeLine := by rw [← rel.length]; exact z
    have hl : (putK kvs k v).length ≤ sizeLine := by have := length_putK kvs k v; omega
    refine wpAny_setItem_pairs (hsz := hz) (kV_is ry) dd fun h' dd' hs => h _ ?_
    have he : ∃ q, h'.get? a = some q := let ⟨q, _, _, hq, _⟩ := dd'; ⟨q, hq⟩
    exact d_write I (by rw [e]; exact True.intro) hs he (dk_new hl hd (rel.put k rv) dd')
  · subst ey eH
    cases (show u = Value.ref b from ry)
    obtain ⟨z, hd, xs, rel, dd⟩ := dt_of I.hok e
    have hz : xs.length ≤ sizeLine := by rw [← Paired.length rel]; exact z
    have hl : (putK kvs k v).length ≤ sizeLine := by have := length_putK kvs k v; omega
    refine wpAny_setItem_heap (hsz := hz) (tupleKind_room_in1 hu) (key_of I.hok eb) dd fun h' dd' hs => h _ ?_
    obtain ⟨q, es, ep, hq, h2, h3, h4, _, h5⟩ := dd'
    refine d_write I (by rw [e]; exact True.intro) hs ⟨q, hq⟩ ⟨hl, hd, _, (rel.put k eb rv).keeps fun c ys ec => ?_, q, es, ep, hq, h2, h3, h4, h5⟩
    rw [upd_ne (ne_of ec e (fun z => nomatch z))]
    exact ec
end

section
variable {X : Cx} {pins : List (Addr × Obj)} {σ : St} {H : Hp} {s : Shared} {a : Addr} {kvs : List (Key × V)} {k : Key} {u : Value} {A : Around} {E : Value → Shared → Prop}
end


/-! ### readings and rules -/
/-- the element of a subscription, not a slice -/
def NoSl (i : Expr) : Prop := ∀ ov iv, subscripted i false ov iv = operate [ov, iv] (getItem ov iv)
theorem subD_of {prog : Program} {w : World} {A : Around} {E : Value → Shared → Prop} {s : Shared} {env : Env} {value slice : Expr} {pos : Pos} {T id : String} {Q : Value → Shared → Prop}
    (hl : typeLookup (.type T) "__getitem__" = pure (some (.builtin id))) (hs : NoSl slice)
    (h : wpAny (model prog w) A (eval value env) (fun o s₁ => wpAny (model prog w) A (eval slice env) (fun i s₂ => s₂.TypeIs o T ∧ wpAny (model prog w) A (getItem o i) Q E s₂) E s₁) E s) :
    wpAny (model prog w) A (eval (.Subscript value slice pos) env) Q E s := by
  refine Subscript_ (wpAny_mono h (fun o s₁ h₁ => wpAny_mono h₁ (fun i s₂ h₂ => ?_) fun _ _ x => x) fun _ _ x => x)
  obtain ⟨hT, h₂⟩ := h₂
  unfold subscriptTail
  refine wpAny_bind ?_
  rw [getitemInPython_of_ne hT.not_modules]
  refine wpAny_bind (wpAny_specialOf hT hl ?_)
  have fin : wpAny (model prog w) A (subscripted slice false o i) (fun r s₃ => wpAny (model prog w) A (letTemporaryGo value o r >>= fun _ => pure r) Q E s₃) E s₂ := by
    rw [hs o i]
    exact wpAny_operating (wpAny_mono h₂ (fun r s₃ h₃ => wpAny_bind (wpAny_letTemporaryGo (wpAny_pure h₃))) fun _ _ x => x)
  first
    | exact wpAny_pure (wpAny_bind fin)
    | exact wpAny_bind (wpAny_pure (wpAny_bind fin))
    | exact wpAny_bind fin

theorem dict_typeIs {X : Cx} {pins : List (Addr × Obj)} {σ : St} {H : Hp} {s : Shared} {a : Addr} {y : V} {o : Option V} (I : Inv X pins σ H s) (g : DGet H a y o) : s.TypeIs (.ref a) "dict" := by
  rcases g with ⟨kvs, k, e, _, _⟩ | ⟨kvs, k, b, e, _, _, _⟩
  · obtain ⟨_, _, vs, _, dd⟩ := dk_rd I.hok e
    exact dd.typeIs
  · obtain ⟨_, _, xs, _, dd⟩ := dt_rd I.hok e
    exact dd.typeIs
/-- d[y] -/
def tDGet (td ty : TE) : TE := fun σ H Q => td σ H fun x H1 => ty σ H1 fun y H2 => ∃ a v, x = .ref a ∧ DGet H2 a y (some v) ∧ Q v H2
/-- d[y] = v -/
def sDPut (td ty tv : TE) : TS := fun D σ H => tv σ H fun v H1 => td σ H1 fun x H2 => ty σ H2 fun y H3 => ∃ a H4, x = .ref a ∧ DPut H3 a y v H4 ∧ D.nx σ H4
section
variable {X : Cx} {o i e value : Expr} {pos pos' tpos : Pos} {td ty tv : TE}
theorem pe_dget (hu : X.A.units + 1 < cLine) (ho : PE X o td) (hi : PE X i ty) (hs : NoSl i) : PE X (.Subscript o i pos) (tDGet td ty) := by
  intro pins s σ H Q I h
  refine subD_of PySem.F.slot_dict_getitem.lookup hs (thn (ho pins s σ H _ I h) fun u s1 ⟨x, H1, I1, rx, q1⟩ => thn (hi pins s1 σ H1 _ I1 q1) fun iv s2 ⟨y, H2, I2, ry, a, v, ex, g, q2⟩ => ?_)
  subst ex
  obtain rfl : u = Value.ref a := rx
  exact ⟨dict_typeIs I2 g, d_getItem hu I2 g ry fun w' s3 I3 rw' => ⟨v, H2, I3, rw', q2⟩⟩
theorem ps_dput (hu : X.A.units + 1 < cLine) (ho : PE X o td) (hi : PE X i ty) (hv : PE X value tv) (hs : swapsWith value (some (.Subscript o i pos')) pos.line X.env = pure false) :
    PS X (.Assign [.Subscript o i pos'] value pos) (sDPut td ty tv) := by
  intro pins s σ H D I h
  refine wpAny_Assign_Subscript (thn (hv pins s σ H _ I h) fun r s1 ⟨v, H1, I1, rv, q1⟩ => thn (ho pins s1 σ H1 _ I1 q1) fun u s2 ⟨x, H2, I2, rx, q2⟩ => thn (hi pins s2 σ H2 _ I2 q2) fun iv s3 ⟨y, H3, I3, ry, a, H4, ex, g, q3⟩ => ?_) hs
  subst ex
  obtain rfl : u = Value.ref a := rx
  exact d_setItem hu I3 g ry rv fun s4 I4 => ⟨σ, H4, I4, q3⟩
end


/-! ### displays -/
theorem dk_empty {P : Program} {w : World} {H : Hp} (h : Heap) (hb : sysModules < h.objs.size) : ObjOk P w H (h.push { cls := .type "dict", data := .dict #[] }) h.objs.size (.dK []) :=
  ⟨Nat.zero_le _, beq_eq_false_iff_ne.mpr (Ne.symm (Nat.ne_of_lt hb)), [], .nil, Heap.DictOf.new h⟩
section
variable {X : Cx} {pos : Pos}
end

/-- the pairs of a display, from the left -/
def tPairs : List (TE × TE) → St → Hp → (List (V × V) → Hp → Prop) → Prop
  | [], _, H, Q => Q [] H
  | (tk, tv) :: r, σ, H, Q => tk σ H fun x H1 => tv σ H1 fun y H2 => tPairs r σ H2 fun ps H3 => Q ((x, y) :: ps) H3
abbrev VV : List (V × V) → List (Value × Value) → Prop := Paired fun p q => RelV p.1 q.1 ∧ RelV p.2 q.2
def PPs (X : Cx) (pos : Pos) (keys : List (Option Expr)) (values : List Expr) (trs : List (TE × TE)) : Prop :=
  ∀ (pins : List (Addr × Obj)) (s : Shared) (σ : St) (H : Hp) (Q : List (V × V) → Hp → Prop), Inv X pins σ H s → tPairs trs σ H Q →
    wpAny (model X.prog X.w) X.A (evalPairs (pairTrees keys values X.env pos)) (fun vs s' => ∃ ps H', Inv X pins σ H' s' ∧ VV ps vs ∧ Q ps H') X.xe s
theorem pps_nil {X : Cx} {pos : Pos} : PPs X pos [] [] [] := fun pins s σ H Q I h => pairTrees_nil_walk ⟨[], H, I, .nil, h⟩
theorem pps_cons {X : Cx} {pos : Pos} {k v : Expr} {ks : List (Option Expr)} {vs : List Expr} {tk tv : TE} {trs : List (TE × TE)} (hk : PE X k tk) (hv : PE X v tv) (hr : PPs X pos ks vs trs) :
    PPs X pos (some k :: ks) (v :: vs) ((tk, tv) :: trs) := fun pins s σ H Q I h =>
  pairTrees_cons_walk (thn (hk pins s σ H _ I h) fun u s1 ⟨x, H1, I1, rx, q1⟩ => thn (hv pins s1 σ H1 _ I1 q1) fun w2 s2 ⟨y, H2, I2, ry, q2⟩ =>
    thn (hr pins s2 σ H2 _ I2 q2) fun ws s3 ⟨ps, H3, I3, rel, q3⟩ => ⟨(x, y) :: ps, H3, I3, .cons ⟨rx, ry⟩ rel, q3⟩)

def mergeK (kvs more : List (Key × V)) : List (Key × V) := more.foldl (fun acc kv => putK acc kv.1 kv.2) kvs
theorem KV.merge : ∀ {more : List (Key × V)} {rs : List (Key × Value)} {kvs : List (Key × V)} {vs : List (Key × Value)}, KV more rs → KV kvs vs → KV (mergeK kvs more) (merged vs rs) := by
  intro more rs kvs vs r
  unfold KV at r
  induction r generalizing kvs vs with
  | nil => intro q; exact q
  | @cons p q ps qs h t ih =>
    intro r0
    have e : KV (putK kvs p.1 p.2) (stored vs q.1 q.2) := by
      have := r0.put p.1 h.2
      rw [← h.1]; exact this
    exact ih e
theorem length_mergeK : ∀ (more kvs : List (Key × V)), (mergeK kvs more).length ≤ kvs.length + more.length
  | [], kvs => by show kvs.length ≤ kvs.length + 0; omega
  | p :: r, kvs => by
    have h1 := length_mergeK r (putK kvs p.1 p.2)
    have h2 := length_putK kvs p.1 p.2
    show (mergeK (putK kvs p.1 p.2) r).length ≤ _
    rw [List.length_cons]; omega
theorem carries_of {P : Program} {w : World} : ∀ {kvs : List (Key × V)} {ws : List (Value × Value)}, VV (kvs.map fun kv => (kV kv.1, kv.2)) ws → ∃ rs, Carries (mixKind P w) ws rs ∧ KV kvs rs
  | [], _, r => by rw [List.map_nil] at r; cases r; exact ⟨[], True.intro, .nil⟩
  | p :: kvs, _, r => by
    rw [List.map_cons] at r
    cases r with
    | @cons a b as bs h t =>
      obtain ⟨rs, c, q⟩ := carries_of (P := P) (w := w) t
      obtain ⟨b1, b2⟩ := b
      exact ⟨(p.1, b2) :: rs, ⟨kV_is h.1, rfl, c⟩, .cons ⟨rfl, h.2⟩ q⟩
/-- {k: v, ..} with keys ints and texts; the new dict stands empty while the pairs are made -/
def tDisp (trs : List (TE × TE)) : TE := fun σ H Q => ∀ p, H p = none → tPairs trs σ (upd H p (.dK [])) fun ps H2 => H2 p = some (.dK []) ∧ ∃ kvs : List (Key × V), ps = kvs.map (fun kv => (kV kv.1, kv.2)) ∧ kvs.length ≤ 15 ∧ Q (.ref p) (upd H2 p (.dK (mergeK [] kvs)))
theorem pe_disp {X : Cx} {pos : Pos} {keys : List (Option Expr)} {values : List Expr} {trs : List (TE × TE)} (h : PPs X pos keys values trs) (hall : keys.all (·.isSome) = true) (hl : keys.length = values.length) (h0 : keys ≠ [])
    (h15 : keys.length ≤ 15) : PE X (.Dict keys values pos) (tDisp trs) := by
  intro pins s σ H Q I q
  have hn := I.hok.fresh (Nat.le_refl s.heap.objs.size)
  have I1 := I.laid (a := s.heap.objs.size) (o := .dK []) (h' := s.heap.push { cls := .type "dict", data := .dict #[] }) (t' := s.toks) (fun _ _ q => Heap.get?_push_of_some _ q) (Nat.le_refl _) (dk_empty s.heap I.big)
  refine wpAny_Dict_walk (knd := mixKind X.prog X.w) hall hl h0 h15 (thn (h pins _ σ _ _ I1 (q _ hn)) fun ws s2 ⟨ps, H2, I2, rel, e, kvs, ep, lk, q2⟩ => ?_)
  subst ep
  obtain ⟨rs, c, rk⟩ := carries_of (P := X.prog) (w := X.w) rel
  obtain ⟨z, hd, vs0, r0, dd⟩ := dk_of I2.hok e
  cases r0
  refine ⟨rs, c, dd, fun h' dd' hs => ⟨.ref s.heap.objs.size, _, ?_, rfl, q2⟩⟩
  have hz : (mergeK [] kvs).length ≤ sizeLine := by
    have h1 := length_mergeK kvs []
    rw [List.length_nil] at h1
    rw [sizeLine_eq]; omega
  have he : ∃ q, h'.get? s.heap.objs.size = some q := let ⟨q, _, _, hq, _⟩ := dd'; ⟨q, hq⟩
  exact d_write I2 (by rw [e]; exact True.intro) hs he (dk_new hz hd (rk.merge .nil) dd')


/-! ### methods -/
section
variable {X : Cx} {pins : List (Addr × Obj)} {σ : St} {H : Hp} {s : Shared} {a : Addr} {y d : V} {u r : Value} {o : Option V} {A : Around} {E : Value → Shared → Prop}
end

section
variable {X : Cx} {o e f : Expr} {apos cpos : Pos} {td ty tx : TE}
end

/-! ### dict(d): a copy -/
section
variable {X : Cx} {pins : List (Addr × Obj)} {σ : St} {H : Hp} {s : Shared} {a : Addr} {kvs : List (Key × V)} {A : Around} {E : Value → Shared → Prop}
end


section
variable {X : Cx} {pins : List (Addr × Obj)} {σ : St} {H : Hp} {s : Shared} {a : Addr} {y : V} {u : Value} {A : Around} {E : Value → Shared → Prop}
end
end L2

namespace Att
open PySem PySem.W PySem.Calls PyProof.Rows

/-! ### the script -/
theorem ints_of_wellAll {P : Params} {h : Heap} : ∀ (ns : List Int) (vs : List Value), WellAll P h vs (ns.map WData.int) → IntsAre vs ns := by
  intro ns
  induction ns with
  | nil =>
    intro vs w
    rw [List.map_nil] at w
    cases w
    exact .nil
  | cons n ns ih =>
    intro vs w
    rw [List.map_cons] at w
    cases w with
    | cons a b =>
      cases a
      exact .cons _ _ (ih _ b)

theorem script_of {l : OpenLaw} {n : Nat} (hn : l.most = some n) {P : Params} {h : Heap} {args : List WData} {vals : List Value}
    (hpre : l.row.toRowW.claim.pre args = true) (hwl : WellAll P h vals args) :
    ∃ a vs ns, vals = [Value.ref a] ∧ args = [WData.list (ns.map WData.int)] ∧ h.get? a = some { cls := .type "list", data := .seq vs.toArray } ∧ IntsAre vs ns ∧ ns.length ≤ n := by
  have hsh : WShape.hasAll [] args [.list .int] = true := (pre_splitW hpre).1
  have hc : l.pre.holds [] { args := args } = true := (pre_splitW hpre).2
  obtain ⟨d, r, rfl, h1, h2⟩ := hasAllW_cons hsh
  obtain rfl := hasAllW_nil h2
  obtain ⟨xs, rfl, h3⟩ := hasW_list h1
  obtain ⟨ns, rfl⟩ := items_int h3
  have hlen : ns.length ≤ n := by
    unfold OpenLaw.pre at hc
    have h4 : (WTm.not (.lt (.lit (.int (n : Int))) (.len (.arg 0)))).holds [] { args := [.list (ns.map .int)] } = true := by
      have h4 := (holds_andW hc).1
      rw [hn] at h4
      exact h4
    have h5 := condW_of h4 (w_not (w_lt w_lit (w_len_list (w_arg rfl))))
    rw [List.length_map] at h5
    refine Nat.le_of_not_lt fun q => ?_
    have q' : (n : Int) < ((ns.length : Nat) : Int) := by omega
    first
      | (rw [decide_eq_true q'] at h5; exact absurd h5 (by decide))
      | (simp at h5; omega)
  cases hwl with
  | cons w1 w2 =>
    cases w2
    cases w1 with
    | list ho hall => exact ⟨_, _, ns, rfl, rfl, ho, ints_of_wellAll ns _ hall, hlen⟩

theorem post_true (l : OpenLaw) (args : List WData) : l.row.toRowW.claim.post args (.bool true) args = true :=
  postW_of (r := l.row.toRowW) (X := (true == true))
    (show WShape.has [] (.bool true) .bool = true by first | rfl | decide | simp [WShape.has, WShape.arms, WShape.armsAll])
    (show (WTm.eq .res (.lit (.bool true))).value [] { args := args, res := some (.bool true), after := args } = some (.bool (true == true)) from w_eq_bool (w_res rfl) w_lit) rfl

/-! ### the attachment: holds_open's last premise (the goal 'hc' behind k_head) from a wpAny of the law's body -/
/-- the same from a codeAny of the CALL (for a layer whose function contracts speak of calls) -/
theorem attach_call {l : OpenLaw} {n : Nat} {q : Program} {loose : List Str} {XP : (Str → Option Value) → Heap → Prop} {YP : World → Heap → Prop} {d : DefRec}
    (hn : l.most = some n) (hdf : d.params.defaults = [])
    (call : ∀ (w : World) (s₀ s₁ : Shared) (mg mb : Str → Option Value) (fa : Addr) (o : Obj) (pm cd doc : Value) (a : Addr) (vs : List Value) (ns : List Int),
      Ground q loose [] XP w s₀ mg mb s₁.heap → YP w s₁.heap →
      s₁.heap.get? fa = some o → o.data = .func (docDef d.name d.params d.body d.scope pm cd doc) → s₁.heap.CodeRec cd d.name → mg d.name = some (.ref fa) →
      s₁.heap.get? a = some { cls := .type "list", data := .seq vs.toArray } → IntsAre vs ns → ns.length ≤ n → s₁.gens = #[] →
      codeAny (model l.prog w) callerA (.call (.ref fa) ⟨[.ref a], []⟩) (fun r s' => r = .ok (.ret (.bool true)) ∧ OldK s₁.heap s'.heap ∧ s'.os = s₁.os ∧ AllBare s'.gens) s₁) :
    WalkO q loose XP YP l.row.toRowW d [] (fun f vs => PySem.call f vs) := by
  intro w s₀ s₁ mg mb G Y fa o pm cd doc dV kV ho hd hcd hD hmg hg args vals as hpre hlay hrd hwl hlo
  obtain rfl : dV = .none := Dflts.none hD hdf
  obtain rfl : kV = .none := Dflts.noKw hD
  obtain ⟨a, vs, ns, rfl, rfl, hobj, hints, hlen⟩ := script_of hn hpre hwl
  refine enter_call (codeAny_mono (call w s₀ s₁ mg mb fa o pm cd doc a vs ns G Y ho (fd_plain hd) hcd hmg hobj hints hlen hg) fun r s' hq => ?_)
  obtain ⟨rfl, h2, h3, h4⟩ := hq
  exact ⟨.inl ⟨.bool true, .bool true, [], rfl, fun _ => rfl, .bool true, post_true l _, fun _ => ⟨List.Pairwise.nil, fun _ hm => (nomatch hm)⟩⟩, h2, h3, h4⟩

/-! ### rules over ANY heap (no ledger) from facts about the written part K: the library's own take a ledger (News) for what they write -/
section
variable {prog : Program} {w : World} {A : Around} {E : Value → Shared → Prop} {s : Shared} {K : Frag}

/-! the whole heap as the ledger: makes every rule that writes through a ledger a rule over any heap -/
end
end Att

namespace L2
open PySem PySem.Spec PyProof.Rows

theorem vals_ints : ∀ {vs : List Value} {ns : List Int}, IntsAre vs ns → Vals (ns.map V.int) vs
  | _, _, .nil => .nil
  | _, _, .cons n t h => .cons ⟨t, rfl⟩ (vals_ints h)

/-- nothing is tracked but the script, known to the object (or it is an object of the module) -/
def Only (H : Hp) : Prop := ∀ b, H b = none ∨ ∃ o xs, H b = some (.frz o (.lst xs))

/-- THE HEAD: the law's promise, at the heap behind the top. F, the promise of the law's def, may use that base is part of the heap (so K.In base, base.Ns mainGlobals mg stand in Mod) -/
theorem law_call {P : Program} {w : World} {K : PySem.W.Frag} {mg mb : Str → Option Value} {CX : CXT} {k : Nat} {fa a : Addr} {fd : FuncData} {x : Str} {sp : Sp} {s₁ : Shared} {vs : List Value} {ns : List Int}
    (KX : K.In s₁.heap) (hns : s₁.heap.Ns mainGlobals mg) (hb : s₁.heap.Ns builtinsNs mb) (hbb : ∀ x : Str, x ≠ "__name__" → mb x = bootBuiltins x) (hlim : s₁.heap.NoLimit) (hg : s₁.gens = #[])
    (ha : s₁.heap.get? a = some { cls := .type "list", data := .seq vs.toArray }) (hi : IntsAre vs ns) (hl : ns.length ≤ sizeLine) (hr : Room k callerA)
    (F : ∀ base : Heap, K.In base → base.Ns mainGlobals mg → FnOk P w K mg base CX k fa fd [x] sp) (hbind : ∀ (s : Shared) (u : Value), BindsTo s fd ⟨[u], []⟩ [(x, u)])
    (hsp : ∀ H : Hp, Only H → SqL K H a (ns.map V.int) → sp [.ref a] H (fun v _ => v = .bl true) fun _ _ _ => False)
    (hCX : ∀ H e s', CX [] H s₁ (fun _ _ _ => False) e s' → False) :
    codeAny (model P w) callerA (.call (.ref fa) ⟨[.ref a], []⟩) (fun r s' => r = .ok (.ret (.bool true)) ∧ OldK s₁.heap s'.heap ∧ s'.os = s₁.os ∧ AllBare s'.gens) s₁ := by
  have rv := vals_ints hi
  have lenV := hi.length
  -- from an abstract heap in which nothing but the script may be tracked
  have core : ∀ H : Hp, Only H → SqL K H a (ns.map V.int) → HOk P w H s₁.heap → (∀ b, H b ≠ none → b = a) → (H a ≠ none → K.lookup a = none) →
      codeAny (model P w) callerA (.call (.ref fa) ⟨[.ref a], []⟩) (fun r s' => r = .ok (.ret (.bool true)) ∧ OldK s₁.heap s'.heap ∧ s'.os = s₁.os ∧ AllBare s'.gens) s₁ := by
    intro H hO hS hok hA hK
    have base_of : ∀ {b : Addr} {o : Obj}, s₁.heap.get? b = some o → H b = none → (hidT s₁.heap H).get? b = some o := fun e n => hidT_get e n
    have noA : ∀ {b : Addr} {o : Obj} {es : Array DictEntry} {ep : Nat}, s₁.heap.get? b = some o → o.data = .dict es ep → H b = none := fun {b o es ep} e d => by
      cases q : H b with
      | none => rfl
      | some u =>
        have e' : b = a := hA b (by rw [q]; simp)
        subst e'
        rw [ha] at e; cases e
        have d' : Data.seq vs.toArray _ = Data.dict es ep := d
        cases d'
    have nsK : ∀ {b : Addr} {m : Str → Option Value}, s₁.heap.Ns b m → (hidT s₁.heap H).Ns b m := fun {b m} ⟨o, es, ep, e, d, r⟩ => ⟨o, es, ep, base_of e (noA e d), d, r⟩
    have hKb : K.In (hidT s₁.heap H) := fun b o e => base_of (KX b o e) (by
      cases q : H b with
      | none => rfl
      | some u =>
        have e' : b = a := hA b (by rw [q]; simp)
        subst e'
        rw [hK (by rw [q]; simp)] at e; cases e)
    have hM : Mod K mg (hidT s₁.heap H) := ⟨hKb, nsK hns, ⟨mb, nsK hb, hbb⟩, let ⟨mc, h1, h2⟩ := hlim; ⟨mc, nsK h1, h2⟩⟩
    have e0 : Env0 P w K mg (hidT s₁.heap H) callerA [] s₁ H := ⟨rfl, hM, fun b o e => of_hidT e, Nat.le_of_eq (hidT_size _ _), trivial, fun b hb => absurd (show b ∈ ([] : List Addr) from hb) (by simp), hok, .of_eq hg⟩
    refine codeAny_mono ((F _ hKb (nsK hns)).run callerA [] s₁ H ⟨[.ref a], []⟩ [.ref a] [.ref a] _ _ hr e0 (hbind s₁ (.ref a)) (.cons rfl .nil) (hsp H hO hS)) fun r s' h => ?_
    cases r with
    | error e => exact (hCX H e s' h).elim
    | ok fl =>
      cases fl with
      | next => exact False.elim h
      | brk => exact False.elim h
      | cont => exact False.elim h
      | ret u =>
        obtain ⟨v, H', os, bare, un, hok', r', q⟩ := h
        have q' : v = .bl true := q
        subst q'
        obtain rfl : u = Value.bool true := r'
        refine ⟨rfl, OldK.of_keep fun b o e => ?_, os, bare⟩
        cases q : H b with
        | none => exact un.keep b o e q (by intro z; exact absurd (show b ∈ ([] : List Addr) from z) (by simp)) (by simp)
        | some u =>
          rcases hO b with z | ⟨ob, xs, z⟩
          · rw [q] at z; cases z
          · have z2 := un.frzs b ob _ z
            obtain ⟨e1, _⟩ := hok b _ z
            obtain ⟨e2, _⟩ := hok' b _ z2
            rw [e] at e1; cases e1
            exact e2
  cases hk : K.lookup a with
  | some o =>
    -- the script is one of the module's own objects
    have e := KX a o hk
    rw [ha] at e
    cases e
    refine core (fun _ => none) (fun _ => .inl rfl) (.inr ⟨_, vs.toArray, _, hk, rfl, rfl, rfl, by rw [List.size_toArray, lenV]; exact hl, by simpa using rv⟩) (fun b u z => by have z' : (none : Option HO) = some u := z; cases z') (fun b z => absurd rfl z) fun z => absurd rfl z
  | none =>
    refine core (fun b => if b = a then some (.frz { cls := .type "list", data := .seq vs.toArray } (.lst (ns.map V.int))) else none) (fun b => ?_) (.inl (.inr ⟨{ cls := .type "list", data := .seq vs.toArray }, if_pos rfl⟩)) (fun b u z => ?_) (fun b z => ?_) fun _ => hk
    · by_cases hb : b = a
      · exact .inr ⟨_, _, if_pos hb⟩
      · exact .inl (if_neg hb)
    · by_cases hb : b = a
      · have z' := (if_pos hb).symm.trans z
        cases z'
        subst hb
        exact ⟨ha, by rw [List.length_map]; exact hl, vs, _, rv, ha⟩
      · have z' := (if_neg hb).symm.trans z
        cases z'
    · by_cases hb : b = a
      · exact hb
      · exact absurd (if_neg hb) z
end L2

namespace L2
open PySem PySem.Spec PyProof.Rows

/-- the goal that k_head leaves (case hc), from the law's promise. F gives the function object fd (K's own) once, then the promise over every base -/
theorem walk_of {l : PySem.W.OpenLaw} {n k : Nat} {q : Program} {loose : List Str} {XP : (Str → Option Value) → Heap → Prop} {YP : World → Heap → Prop} {d : DefRec} {K : Params → PySem.W.Frag} {CX : World → CXT} {sp : World → Sp} {x : Str}
    (hn : l.most = some n) (hn2 : n ≤ sizeLine) (hdf : d.params.defaults = []) (hr : Room k callerA)
    (hY : ∀ (w : World) (h : Heap), YP w h → (K w.params).In h)
    (F : ∀ (w : World) (mg : Str → Option Value) (fa : Addr) (h : Heap), (K w.params).In h → h.Ns mainGlobals mg → mg d.name = some (.ref fa) →
      ∃ fd : FuncData, (∀ (s : Shared) (u : Value), BindsTo s fd ⟨[u], []⟩ [(x, u)]) ∧
        ∀ base : Heap, (K w.params).In base → base.Ns mainGlobals mg → FnOk l.prog w (K w.params) mg base (CX w) k fa fd [x] (sp w))
    (hsp : ∀ (w : World) (H : Hp) (a : Addr) (ns : List Int), ns.length ≤ n → Only H → SqL (K w.params) H a (ns.map V.int) → sp w [.ref a] H (fun v _ => v = .bl true) fun _ _ _ => False)
    (hCX : ∀ (w : World) (H : Hp) (s : Shared) (e : Value) (s' : Shared), CX w [] H s (fun _ _ _ => False) e s' → False) :
    PySem.W.WalkO q loose XP YP l.row.toRowW d [] (fun f vs => PySem.call f vs) := by
  refine Att.attach_call hn hdf fun w s₀ s₁ mg mb fa o pm cd doc a vs ns G Y ho hd hcd hmg hobj hints hlen hg => ?_
  have KX := hY w _ Y
  obtain ⟨fd, hb, hF⟩ := F w mg fa _ KX G.T.g hmg
  exact law_call KX G.T.g G.T.b G.T.builtins G.T.nolimit hg hobj hints (Nat.le_trans hlen hn2) hr hF hb (fun H hO hS => hsp w H a ns hlen hO hS) fun H e s' => hCX w H s₁ e s'
end L2

/- THE LAST THEOREM (shape; LID, My.* are yours):
   My.Adr: a structure of the addresses that your layer names (classes, functions); My.Txt K t: a structure (Prop) of the equations over K;
   My.txt_mk : {K} {implicit addresses ..} (e1 : nsIn K mainGlobals "law" = some (some (.ref f))) (e2 : K.lookup f = some ⟨oc, od, .func (fnOf "law" "law" params body scope dV kV doc pm an cdv ct), sl⟩) (e3 : codeIn K cdv "law" = true) .. : ∃ t, My.Txt K t

set_option maxRecDepth 100000 in
set_option maxHeartbeats 0 in
theorem PySem.Challenge.cw_LID_holds : PySem.Challenge.rw_LID.Holds := by
  w_on; o_law; k_head; (case hw => w_witness2)
  k_fill
  refine L2.walk_of (l := PySem.Challenge.rw_LID) (n := 63) (k := 40) (x := "script") (CX := fun w => ..) (sp := fun _ => My.sp_law) rfl (by decide) rfl ⟨rfl, by decide, by decide⟩ (fun w h Y => PySem.W.kIn_of Y) ?F ?S ?C
  case F =>
    intro w mg fa h KX G hmg
    have T : ∃ t, My.Txt (L2.KOf KX) t := by
      dsimp only [L2.KOf]                          -- K must stand as «<heap const> w.params» for k_is
      refine' My.txt_mk ?e1 ?e2 ?e3 ..
      (case e1 => PySem.W.k_is)                    -- in the order: a name -> its address -> its object -> its parts
      (case e2 => PySem.W.k_is)
      ..
    obtain ⟨t, T⟩ := T
    have e0 := hmg.symm.trans (PySem.W.mg_of KX G T.law)
    cases e0                                       -- fa is the law's own address
    exact ⟨_, fun s u => .of_eq rfl, fun base kb nb => My.law_fn T kb nb⟩     -- if «.of_eq rfl» comes too early: refine' ⟨_, ?b, fun base kb nb => My.law_fn T kb nb⟩; exact fun s u => .of_eq rfl
  case S => exact fun w H a ns hl hO hS => ..
  case C => exact ..
(the tactic k_is has no namespace: write k_is) -/

/-! SHORT WORDS over the layer: a def of the text, its body, what a loop and a test want. -/
namespace L2
open PySem PySem.Spec PyProof.Rows

/-! ### the text by places -/
/-- the j-th statement of a class's body -/
def inClass (s : Stmt) (j : Nat) : Stmt := match s with
  | .ClassDef _ _ _ body _ _ _ _ _ _ _ => body.getD j (.Pass ⟨0, 0, 0, 0⟩)
  | _ => .Pass ⟨0, 0, 0, 0⟩
def defArgs (s : Stmt) : Arguments := match s with
  | .FunctionDef _ a _ _ _ _ _ _ _ _ => a
  | _ => { posonlyargs := [], args := [], vararg := none, kwonlyargs := [], kw_defaults := [], kwarg := none, defaults := [] }
def defBody (s : Stmt) : List Stmt := match s with
  | .FunctionDef _ _ b _ _ _ _ _ _ _ => b
  | _ => []
def defScope (s : Stmt) : Scope := match s with
  | .FunctionDef _ _ _ _ _ _ sc _ _ _ => sc
  | _ => { kind := .function, names := [], isGenerator := false, isCoroutine := false }

/-! ### no exception leaves a def -/
abbrev CX0 : CXT := fun _ _ _ _ _ _ => False
abbrev E0 : XK := fun _ _ _ => False
theorem pass0 {X : Cx} : Passes CX0 X E0 := fun _ _ _ _ _ _ _ h => h.elim

/-! ### a def (or method) of the text as it stands behind the top -/
structure Fun (K : PySem.W.Frag) (x qual : Str) (st : Stmt) (f : Addr) (fd : FuncData) : Prop where
  ex : ∃ (oc : Value) (od : Option Addr) (kV doc pm : Value) (an : Option Addr) (cdv ct : Value) (osl : Array (Option Value)),
    fd = PySem.W.fnOf x qual (defArgs st) (defBody st) (defScope st) .none kV doc pm an cdv ct ∧ K.lookup f = some ⟨oc, od, .func fd, osl⟩ ∧ PySem.W.codeIn K cdv qual = true
  kp : PySem.W.keepIn K (.ref f) = true
section
variable {P : Program} {w : World} {K : PySem.W.Frag} {mg : Str → Option Value} {base : Heap}
/-- THE RULE for a def: its body as a term of rules, and the reading of that term -/
theorem Fun.ok {x qual : Str} {st : Stmt} {f : Addr} {fd : FuncData} {N ps : List Str} {k : Nat} {sp : Sp} (F : Fun K x qual st f fd) (S : FnScope N ps (defScope st)) (len : ∀ vs H Q E, sp vs H Q E → vs.length = ps.length)
    (hbody : ∀ (cdv : Value) (A : Around) (outer : List Env) (s : Shared) (H : Hp) (vs : List V) (Q : VK) (E : XK), Room k (A.deeper (envOfC qual (defScope st) s.heap.objs.size f cdv)) → sp vs H Q E →
      ∃ t, PSs (cxOf CX0 P w K mg base N qual (defScope st) f cdv A outer s H E).nox (defBody st) t ∧ t { nx := fun _ H' => Q .non H', rt := Q } (start N vs) H) : FnOk P w K mg base CX0 (k + 1) f fd ps sp := by
  obtain ⟨oc, od, kV, doc, pm, an, cdv, ct, osl, rfl, lk, hcd⟩ := F.ex
  refine fn_of lk hcd S len fun A outer s H vs Q E hr hsp => ?_
  obtain ⟨t, h, q⟩ := hbody cdv A outer s H vs Q E hr hsp
  exact ⟨t, h.nox, q⟩
/-- how its arguments bind (no defaults): h is «fun _ _ _ _ _ _ us hl => match us, hl with | [_, _], _ => rfl», one _ a parameter -/
theorem Fun.binds {x qual : Str} {st : Stmt} {f : Addr} {fd : FuncData} {ps : List Str} (F : Fun K x qual st f fd)
    (h : ∀ (kV doc pm : Value) (an : Option Addr) (cdv ct : Value) (us : List Value), us.length = ps.length → bindArgs (PySem.W.fnOf x qual (defArgs st) (defBody st) (defScope st) .none kV doc pm an cdv ct) ⟨us, []⟩ = pure (ps.zip us)) : Binds K fd ps [] := by
  obtain ⟨oc, od, kV, doc, pm, an, cdv, ct, osl, rfl, lk, hcd⟩ := F.ex
  exact .all (h kV doc pm an cdv ct)
theorem fun_mk {x qual : Str} {st : Stmt} {f : Addr} {oc : Value} {od an : Option Addr} {osl : Array (Option Value)} {kV doc pm cdv ct : Value} (l : K.lookup f = some ⟨oc, od, .func (PySem.W.fnOf x qual (defArgs st) (defBody st) (defScope st) .none kV doc pm an cdv ct), osl⟩)
    (c : PySem.W.codeIn K cdv qual = true) (k : PySem.W.keepIn K (.ref f) = true) : Fun K x qual st f (PySem.W.fnOf x qual (defArgs st) (defBody st) (defScope st) .none kV doc pm an cdv ct) := ⟨⟨oc, od, kV, doc, pm, an, cdv, ct, osl, rfl, l, c⟩, k⟩
end
theorem hu_of {A : Around} {k : Nat} (hr : Room k A) : A.units + 1 < cLine := Nat.lt_of_le_of_lt (Nat.add_le_add_left (by decide : 1 ≤ 64) _) hr.units
theorem small1000 {n : Nat} (h : n ≤ 1000) : n < sizeLine := Nat.lt_of_le_of_lt h (by decide)

/-! ### expressions in short: the name that stands in the i-th slot -/
section
variable {X : Cx}
theorem pv (i : Nat) {x : Str} {pos : Pos} (hN : X.N[i]? = some x := by rfl) (hv : Vis X.env.scope x := by first | exact Or.inl rfl | exact Or.inr (Or.inl rfl) | exact Or.inr (Or.inr rfl)) (hd : (x == ("__debug__" : Str)) = false := by decide)
    (hcd : (x == ("__classdict__" : Str)) = false := by decide) : PE X (.Name x pos) (tVar i) := pe_var hN hv hd hcd
end

/-! ### tests -/
theorem ite2 {c A B : Prop} [Decidable c] (h1 : c → A) (h2 : ¬ c → B) : if c then A else B := by
  by_cases h : c
  · rw [if_pos h]
    exact h1 h
  · rw [if_neg h]
    exact h2 h
/-! ### heaps -/
/-- all that was tracked is as it was -/
def Same (H H' : Hp) : Prop := ∀ b o, H b = some o → H' b = some o
theorem Same.refl (H : Hp) : Same H H := fun _ _ h => h
theorem Same.trans {H H1 H2 : Hp} (a : Same H H1) (b : Same H1 H2) : Same H H2 := fun c o h => b c o (a c o h)
theorem Same.free {H H' : Hp} (e : Same H H') {l : Addr} (h : H' l = Option.none) : H l = Option.none := by
  cases q : H l with
  | none => rfl
  | some o =>
    rw [e l o q] at h
    cases h
theorem Same.seq {K : PySem.W.Frag} {H H' : Hp} {a : Addr} {xs : List V} (e : Same H H') (h : SqL K H a xs) : SqL K H' a xs := by
  rcases h with (h | ⟨o, h⟩) | h
  · exact .inl (.inl (e _ _ h))
  · exact .inl (.inr ⟨o, e _ _ h⟩)
  · exact .inr h

end L2
namespace L2
open PySem PySem.Spec PyProof.Rows
section
variable {X : Cx}
end
/-! ### a dict's pairs: keys that differ -/
section
variable {κ : Type} [DecidableEq κ]
theorem nd_snoc : ∀ {l : List κ} {k : κ}, l.Nodup → ¬ k ∈ l → (l ++ [k]).Nodup
  | [], k, _, _ => by simp
  | a :: r, k, h, hk => by
    obtain ⟨h1, h2⟩ := List.nodup_cons.mp h
    show (a :: (r ++ [k])).Nodup
    refine List.nodup_cons.mpr ⟨fun m => ?_, nd_snoc h2 fun m => hk (List.mem_cons.mpr (Or.inr m))⟩
    rcases List.mem_append.mp m with q | q
    · exact h1 q
    · exact hk (List.mem_cons.mpr (Or.inl (List.mem_singleton.mp q).symm))
end
end L2

set_option Elab.async false
set_option linter.all false
set_option maxRecDepth 100000
set_option maxHeartbeats 4000000
namespace L2
open PySem PySem.Spec PyProof.Rows

/-! ### comprehensions -/
theorem closure_ok {env : Env} (scope : Scope) (h : ∀ y ∈ scope.names, y.2 = .free → ∃ c, env.cells.lookup y.1 = some c) :
    ∃ cl, closureFor scope env = pure cl ∧ (∀ x c, cl.lookup x = some c → env.cells.lookup x = some c) ∧ ∀ x, (x, NameKind.free) ∈ scope.names → ∃ c, cl.lookup x = some c := by
  have go : ∀ (names : List (Str × NameKind)) (acc : List (Str × Addr)), (∀ y ∈ names, y.2 = .free → ∃ c, env.cells.lookup y.1 = some c) → (∀ x c, acc.lookup x = some c → env.cells.lookup x = some c) →
      ∃ cl, (forIn names acc fun x cs => (match x with
        | (name, kind) => if kind == NameKind.free then (do let c ← cellOf env name; pure (ForInStep.yield ((name, c) :: cs))) else pure (ForInStep.yield cs) : Sem (ForInStep (List (Str × Addr))))) = pure cl ∧
        (∀ x c, cl.lookup x = some c → env.cells.lookup x = some c) ∧ (∀ x, (x, NameKind.free) ∈ names ∨ (∃ c, acc.lookup x = some c) → ∃ c, cl.lookup x = some c) := by
    intro names
    induction names with
    | nil => intro acc _ ha; exact ⟨acc, rfl, ha, fun x z => z.elim (fun q => nomatch q) id⟩
    | cons y r ih =>
      intro acc hy ha
      obtain ⟨n, k⟩ := y
      by_cases hk : k = .free
      · subst hk
        obtain ⟨c, hc⟩ := hy (n, .free) List.mem_cons_self rfl
        obtain ⟨cl, e, h1, h2⟩ := ih ((n, c) :: acc) (fun z hz => hy z (List.mem_cons_of_mem _ hz)) (fun x c' hx => by
          rw [List.lookup_cons] at hx
          by_cases q : x == n
          · rw [q] at hx
            cases hx
            rw [beq_iff_eq.mp q]; exact hc
          · rw [Bool.not_eq_true] at q
            rw [q] at hx
            exact ha x c' hx)
        refine ⟨cl, ?_, h1, fun x z => h2 x ?_⟩
        · rw [List.forIn_cons]
          simp only [beq_self_eq_true, if_true, cellOf, hc]
          exact e
        · have aux : ∀ x, (∃ c', acc.lookup x = some c') → ∃ c', ((n, c) :: acc).lookup x = some c' := fun x ⟨c', z⟩ => by
            rw [List.lookup_cons]
            by_cases q : x == n
            · rw [q]; exact ⟨_, rfl⟩
            · rw [Bool.not_eq_true] at q
              rw [q]; exact ⟨c', z⟩
          rcases z with z | z
          · rcases List.mem_cons.mp z with z | z
            · cases z
              exact .inr ⟨c, by rw [List.lookup_cons, beq_self_eq_true]⟩
            · exact .inl z
          · exact .inr (aux x z)
      · have hb : (k == NameKind.free) = false := by simpa using hk
        obtain ⟨cl, e, h1, h2⟩ := ih acc (fun z hz => hy z (List.mem_cons_of_mem _ hz)) ha
        refine ⟨cl, ?_, h1, fun x z => h2 x ?_⟩
        · rw [List.forIn_cons]
          simp only [hb, Bool.false_eq_true, if_false]
          exact e
        · rcases z with z | z
          · rcases List.mem_cons.mp z with z | z
            · cases z
              exact absurd rfl hk
            · exact .inl z
          · exact .inr z
  obtain ⟨cl, e, h1, h2⟩ := go scope.names [] h (fun x c z => by simp at z)
  refine ⟨cl, ?_, h1, fun x z => h2 x (.inl z)⟩
  unfold closureFor
  exact (congrArg (fun (m : Sem (List (Str × Addr))) => m >>= fun cs => pure cs) e).trans rfl

/-- the context of a comprehension's block -/
def cxComp (X : Cx) (scope : Scope) (N' : List Str) (cl : List (Str × Addr)) (C : Addr) (s₀ : Shared) (H₀ : Hp) (ex : List Addr) : Cx where
  prog := X.prog
  w := X.w
  K := X.K
  mg := X.mg
  base := X.base
  A := X.A
  N := N'
  s₀ := s₀
  H₀ := H₀
  env := compEnvC scope cl C X.env
  outer := X.stack
  stack := X.stack
  ex := ex
  fn := fun _ => false
  calm := X.calm
  pn := []
  xe := fun _ _ => False

/-- the block's slots at its start: its own names, then what it sees of the frame -/
def compSt (k : Nat) (js : List Nat) (σ : St) : St := List.replicate k none ++ js.map fun j => (σ[j]?).join
theorem compSt_len (k : Nat) (js : List Nat) (σ : St) : (compSt k js σ).length = k + js.length := by simp [compSt]

/-- how a comprehension's scope lies over a frame's: own names first, then names js of the frame -/
structure CompScope (X : Cx) (scope : Scope) (own : List Str) (js : List Nat) (N' : List Str) : Prop where
  kind : scope.kind = .function
  nocell : ∀ y ∈ scope.names, y.2 ≠ .cell
  names : ∀ y ∈ scope.names, y.2 = .local → scope.names.lookup y.1 = some .local
  free : ∀ y ∈ scope.names, y.2 = .free → X.env.kindOf y.1 = some .cell ∨ X.env.kindOf y.1 = some .free
  nm : N' = own ++ js.map fun j => X.N.getD j Str.empty
  fr : ∀ j ∈ js, j < X.N.length ∧ (X.N.getD j Str.empty, NameKind.free) ∈ scope.names ∧ ∀ k, (X.N.getD j Str.empty, k) ∈ scope.names → k = .free
theorem lookup_mem_free {names : List (Str × NameKind)} {x : Str} (h : (x, NameKind.free) ∈ names) (u : ∀ k, (x, k) ∈ names → k = .free) : names.lookup x = some .free := by
  induction names with
  | nil => cases h
  | cons y r ih =>
    obtain ⟨n, k⟩ := y
    rw [List.lookup_cons]
    by_cases q : x == n
    · rw [q]
      have e : x = n := beq_iff_eq.mp q
      subst e
      rw [u k List.mem_cons_self]
    · rw [Bool.not_eq_true] at q
      rw [q]
      refine ih ?_ fun k hk => u k (List.mem_cons_of_mem _ hk)
      rcases List.mem_cons.mp h with z | z
      · cases z
        rw [beq_self_eq_true] at q; cases q
      · exact z
theorem relabel_mem {scope : Scope} {env : Env} {x : Str} {k : NameKind} (h : (x, k) ∈ (relabel scope env).names) (hk : k = .cell ∨ k = .free) (hc : ∀ y ∈ scope.names, y.2 ≠ .cell) : (x, NameKind.free) ∈ scope.names := by
  unfold relabel at h
  obtain ⟨⟨n, k'⟩, hm, e⟩ := List.mem_map.mp h
  dsimp only at e
  by_cases q : (k' == NameKind.free && env.scope.kind == .function && env.kindOf n == some .cell) = true
  · rw [if_pos q] at e
    cases e
    rw [Bool.and_eq_true, Bool.and_eq_true] at q
    have : k' = .free := by simpa using q.1.1
    rw [← this]; exact hm
  · rw [if_neg q] at e
    cases e
    rcases hk with z | z
    · exact absurd z (hc _ hm)
    · rw [← z]; exact hm
theorem lookup_relabel_free {env : Env} {x : Str} : ∀ {names : List (Str × NameKind)}, names.lookup x = some .free →
    (names.map fun (n, k) => if (k == NameKind.free && env.scope.kind == .function && env.kindOf n == some .cell) then (n, NameKind.cell) else (n, k)).lookup x = some .cell ∨
    (names.map fun (n, k) => if (k == NameKind.free && env.scope.kind == .function && env.kindOf n == some .cell) then (n, NameKind.cell) else (n, k)).lookup x = some .free
  | [], h => by simp at h
  | (n, k) :: r, h => by
    have ih := @lookup_relabel_free env x r
    rw [List.lookup_cons] at h
    rw [List.map_cons]
    dsimp only
    by_cases q : x == n
    · rw [q] at h
      cases h
      by_cases c : (NameKind.free == NameKind.free && env.scope.kind == .function && env.kindOf n == some .cell) = true
      · rw [if_pos c, List.lookup_cons, q]; exact .inl rfl
      · rw [if_neg c, List.lookup_cons, q]; exact .inr rfl
    · rw [Bool.not_eq_true] at q
      rw [q] at h
      by_cases c : (k == NameKind.free && env.scope.kind == .function && env.kindOf n == some .cell) = true
      · rw [if_pos c, List.lookup_cons, q]; exact ih h
      · rw [if_neg c, List.lookup_cons, q]; exact ih h

section
variable {X : Cx} {pins : List (Addr × Obj)} {σ : St} {H : Hp} {s : Shared}
/-- the block's invariant at its start -/
theorem Inv.comp {scope : Scope} {own : List Str} {js : List Nat} {N' : List Str} {cl : List (Str × Addr)} {C : Addr} {h₁ : Heap} {tk : Nat} {fp : List Addr} {m : Str → Option Value} (S : CompScope X scope own js N') (I : Inv X pins σ H s)
    (hc1 : ∀ x c, cl.lookup x = some c → X.env.cells.lookup x = some c) (hc2 : ∀ x, (x, NameKind.free) ∈ scope.names → ∃ c, cl.lookup x = some c) (hC : s.heap.objs.size ≤ C) (hns : h₁.Ns C m) (hk : ∀ b o, s.heap.get? b = some o → h₁.get? b = some o)
    (hf : ∀ b ∈ fp, FpOk X pins H b ∧ b < s.heap.objs.size) (hHC : H C = none) (hfree : ∀ b o, s.heap.get? b = some o → b ≠ C) :
    Inv (cxComp X scope N' cl C s H fp) [] (compSt own.length js σ) H { s with heap := h₁, toks := tk } := by
  have ltx : ∀ b o, X.s₀.heap.get? b = some o → b ∉ X.ex → b ∉ fp := fun b o e hx hb => by
    rcases (hf b hb).1.2.2.2.1 with z | z
    · exact hx z
    · exact absurd (Nat.lt_of_lt_of_le (Heap.lt_size e) z) (Nat.lt_irrefl _)
  refine ⟨⟨I.ok.mod, S.kind, I.ok.glob, I.ok.blt, hC, fun x y c h1 h2 => I.ok.inj x y c (hc1 x c h1) (hc1 y c h2), fun x hx => ?_, fun x c z => (nomatch z), I.ok.hd, I.ok.frames, .inl rfl, fun b hb => ⟨Nat.ne_of_lt (Nat.lt_of_lt_of_le (hf b hb).2 hC), fun x c e => (hf b hb).1.2.2.2.2.1 x c (hc1 x c e)⟩, I.bs, Nat.le_trans I.ok.bsz I.sz, fun b o e => ltx b o (I.ok.bs b o e).1 (I.ok.noex b o e), fun b hb z => ?_, I.stack, I.stkFree⟩,
    rfl, I.bare, Un.kept hk, ⟨m, hns, fun i x v e1 e2 e3 => ?_⟩, fun x c e => ?_, hHC, fun x c e => I.freeC x c (hc1 x c e), fun p hp => absurd (show p ∈ ([] : List (Addr × Obj)) from hp) (by simp), I.hok.kept hk, ?_⟩
  · have hx' : (relabel scope X.env).names.lookup x = some .cell ∨ (relabel scope X.env).names.lookup x = some .free := hx
    rcases hx' with z | z
    · exact hc2 x (relabel_mem (PySem.mem_of_lookup z) (.inl rfl) S.nocell)
    · exact hc2 x (relabel_mem (PySem.mem_of_lookup z) (.inr rfl) S.nocell)
  · obtain ⟨_, f1, f2, _⟩ := (hf b hb).1
    rcases List.mem_cons.mp (I.stkSub b z) with q | q
    · exact f1 q
    · exact f2 q
  · -- a name that the block sees
    unfold compSt at e2
    by_cases hi : i < own.length
    · rw [List.getElem?_append_left (by simpa using hi), List.getElem?_replicate] at e2
      split at e2 <;> cases e2
    · rw [List.getElem?_append_right (by simpa using hi), List.length_replicate, List.getElem?_map] at e2
      cases ej : js[i - own.length]? with
      | none => rw [ej] at e2; cases e2
      | some j =>
        rw [ej] at e2
        have e2' : (σ[j]?).join = some v := by simpa using e2
        have hσ : σ[j]? = some (some v) := by
          cases q : σ[j]? with
          | none => rw [q] at e2'; cases e2'
          | some o => rw [q] at e2'; exact congrArg some e2'
        have hj := S.fr j (List.mem_of_getElem? ej)
        have hx : x = X.N.getD j Str.empty := by
          have e1' : N'[i]? = some x := e1
          rw [S.nm, List.getElem?_append_right (by omega), List.getElem?_map, ej] at e1'
          exact (Option.some.inj e1').symm
        have hN : X.N[j]? = some x := by
          rw [hx, List.getD_eq_getElem?_getD, List.getElem?_eq_getElem hj.1]; rfl
        have hfr : scope.names.lookup x = some .free := by rw [hx]; exact lookup_mem_free hj.2.1 hj.2.2
        have hkx := S.free (x, .free) (by rw [hx]; exact hj.2.1) rfl
        have hvis : Vis X.env.scope x := hkx.elim (fun z => .inr (.inl z)) fun z => .inr (.inr z)
        obtain ⟨mX, hnX, hlX⟩ := I.loc
        obtain ⟨u, r, l⟩ := hlX j x v hN hσ hvis
        refine ⟨u, r, .inr ⟨lookup_relabel_free hfr, ?_⟩⟩
        rcases l with ⟨z, _⟩ | ⟨_, c, hc, hcell⟩
        · rcases hkx with q | q
          · have := q.symm.trans z; cases this
          · have := q.symm.trans z; cases this
        · obtain ⟨c', hc'⟩ := hc2 x (by rw [hx]; exact hj.2.1)
          have : c' = c := Option.some.inj ((hc1 x c' hc').symm.trans hc)
          subst this
          obtain ⟨o, ho, hd⟩ := hcell
          exact ⟨c', hc', o, hk _ _ ho, hd⟩
  · obtain ⟨v, o, ho, hd⟩ := I.cell x c (hc1 x c e)
    exact ⟨v, o, hk _ _ ho, hd⟩
  · rw [compSt_len]
    show _ = N'.length
    rw [S.nm]; simp
end
end L2

set_option Elab.async false
set_option linter.all false
set_option maxRecDepth 100000
set_option maxHeartbeats 4000000
namespace L2
open PySem PySem.Spec PyProof.Rows

/-- the tests of a comprehension -/
def PIfs (Y : Cx) (ifs : List Expr) (t : TT) : Prop :=
  ∀ (pins : List (Addr × Obj)) (s : Shared) (σ : St) (H : Hp) (Q : Bool → Hp → Prop), Inv Y pins σ H s → t σ H Q →
    wpAny (model Y.prog Y.w) Y.A (forIn ifs true fun c r => if r = true then do let ok ← isTrue c Y.env (eval c Y.env); pure (ForInStep.yield ok) else pure (ForInStep.yield r)) (TP Y pins σ Q) Y.xe s
def tYes : TT := fun _ H Q => Q true H
theorem pifs_nil {Y : Cx} : PIfs Y [] tYes := fun _ _ _ H _ I h => wpAny_tests_nil ⟨H, I, h⟩
abbrev accObj (us : List Value) (k : Nat) : Obj := { cls := .type "list", data := .seq us.toArray k }

/-- what a turn of the block does: W by the turn, a measure, what has been gathered, the block's slots, the heap -/
def CTurn (J : It) (g : TG) (tt : TT) (te : TE) (F : List V → Hp → Prop) (W : Nat → Nat → List V → St → Hp → Prop) : Prop :=
  ∀ i m ys σ H, W i m ys σ H → (J.stop i H ∧ F ys H) ∨ (J.go i H ∧ ys.length < sizeLine ∧ ∀ x H1, J.yld i H x H1 → g x σ H1 fun σ2 H2 => tt σ2 H2 fun b H3 =>
    if b = true then te σ2 H3 fun y H4 => ∃ m', m' < m ∧ W (i + 1) m' (ys ++ [y]) σ2 H4 else ∃ m', m' < m ∧ W (i + 1) m' ys σ2 H3)

theorem comp_loop {X : Cx} {scope : Scope} {N' : List Str} {cl : List (Str × Addr)} {C acc it : Addr} {s₂ : Shared} {H₂ : Hp} {fp : List Addr} {tn : Nat → Heap → Prop} {J : It} {g : TG} {tt : TT} {te : TE} {F : List V → Hp → Prop}
    {elt tg iter : Expr} {ifs : List Expr} {pos : Pos} {R : Result → Shared → Prop} (W : Nat → Nat → List V → St → Hp → Prop) (turn : CTurn J g tt te F W) (T : Turn X.prog X.w X.K tg J fp it tn)
    (hg : PG (cxComp X scope N' cl C s₂ H₂ fp) tg g) (hc : PIfs (cxComp X scope N' cl C s₂ H₂ fp) ifs tt) (he : PE (cxComp X scope N' cl C s₂ H₂ fp) elt te) (hcalm : X.calm = true)
    (hfp : ∀ b ∈ fp, b ≠ C ∧ b ∉ frs X.stack ∧ (∀ x c, cl.lookup x = some c → c ≠ b) ∧ b ≠ acc) (hacc : acc ≠ C ∧ acc ∉ frs X.stack ∧ (∀ x c, cl.lookup x = some c → c ≠ acc) ∧ s₂.heap.objs.size ≤ acc)
    (hR : ∀ s' σ' H' ys us k, Inv (cxComp X scope N' cl C s₂ H₂ fp) [(acc, accObj us k)] σ' H' s' → Vals ys us → F ys H' → R (.ok .next) s')
    {s : Shared} {σ : St} {H : Hp} {m : Nat} (I : Inv (cxComp X scope N' cl C s₂ H₂ fp) [(acc, accObj [] 0)] σ H s) (st : tn 0 s.heap) (fr : ∀ b ∈ fp, H b = none) (w0 : W 0 m [] σ H) :
    codeAny (model X.prog X.w) X.A (.compLoop (.ListComp elt [⟨tg, iter, ifs, 0⟩] scope pos) 0 (.ref it) (.ref acc) (compEnvC scope cl C X.env)) R s := by
  refine codeAny_loop rfl (fun n s' => ∃ i ys us k σ' H', Vals ys us ∧ Inv (cxComp X scope N' cl C s₂ H₂ fp) [(acc, accObj us k)] σ' H' s' ∧ tn i s'.heap ∧ (∀ b ∈ fp, H' b = none) ∧ W i n ys σ' H') (fun n s3 hI => ?_) m ⟨0, [], [], 0, σ, H, .nil, I, st, fr, w0⟩
  obtain ⟨i, ys, us, k, σ3, H3, rv, I3, st3, fr3, w3⟩ := hI
  show wpAny _ X.A ((compTurn (.ListComp elt [⟨tg, iter, ifs, 0⟩] scope pos) 0 (.ref it) (.ref acc) (compEnvC scope cl C X.env)).onRaise (fun x => do noteFrame x (compEnvC scope cl C X.env); theTreesLotGoes x)) _ _ s3
  refine wpAny_noted ?_
  rw [compTurn_list]
  have fpk : ∀ {pins : List (Addr × Obj)} {H' : Hp}, (∀ p ∈ pins, p.1 = acc ∨ p.1 ∈ ([] : List Addr)) → (∀ b ∈ fp, H' b = none) → ∀ b ∈ fp, FpOk (cxComp X scope N' cl C s₂ H₂ fp) pins H' b := fun hp hn b hb =>
    ⟨hn b hb, (hfp b hb).1, (hfp b hb).2.1, .inl hb, (hfp b hb).2.2.1, fun p hp' => by
      have hp'' : p ∈ ([] : List (Addr × Obj)) ++ _ := hp'
      rcases hp p (by simpa using hp'') with z | z
      · rw [z]; exact Ne.symm (hfp b hb).2.2.2
      · exact (nomatch z)⟩
  have fp1 := fpk (pins := [(acc, accObj us k)]) (fun p hp => .inl (by simp at hp; rw [hp])) fr3
  refine wpAny_bind (wpAny_standAt (wpAny_bind ?_))
  rcases turn i n ys σ3 H3 w3 with ⟨stop, qn⟩ | ⟨go, hz, step⟩
  · refine wpAny_mono (T.done (cxComp X scope N' cl C s₂ H₂ fp) rfl rfl rfl hcalm i _ s3 σ3 H3 (fun _ _ => False) I3 fp1 st3 stop) (fun r s4 ⟨hr, I4⟩ => ?_) (fun _ _ z => z.elim)
    subst hr
    exact wpAny_pure (hR s4 σ3 H3 ys us k I4 rv qn)
  · refine wpAny_mono (T.item (cxComp X scope N' cl C s₂ H₂ fp) rfl rfl rfl hcalm i _ s3 σ3 H3 (fun _ _ => False) I3 fp1 st3 go) (fun r s4 ⟨u, hr, h4⟩ => ?_) (fun _ _ z => z.elim)
    subst hr
    refine wpAny_bind (wpAny_mono h4 (fun _ s5 ⟨x, H5, I5, r5, y5, st5, fr5⟩ => ?_) (fun _ _ z => z.elim))
    have fp5 := fpk (pins := [(acc, accObj us k)]) (fun p hp => .inl (by simp at hp; rw [hp])) fr5
    have I5' := I5.pinned fp5 (T.obj _ _ st5)
    refine wpAny_bind (wpAny_mono (hg _ s5 σ3 H5 x u _ I5' r5 (step x H5 y5)) (fun _ s6 ⟨σ6, H6, I6, q6⟩ => ?_) (fun _ _ z => z.elim))
    refine wpAny_bind (wpAny_mono (hc _ s6 σ6 H6 _ I6 q6) (fun ok s7 ⟨H7, I7, q7⟩ => ?_) (fun _ _ z => z.elim))
    have again : ∀ {s8 : Shared} {σ8 : St} {H8 : Hp} {us8 : List Value} {k8 : Nat} {ys8 : List V}, Inv (cxComp X scope N' cl C s₂ H₂ fp) ([(acc, accObj us k)] ++ pinsAt fp s5.heap) σ8 H8 s8 → tn (i + 1) s8.heap ∧ ∀ b ∈ fp, H8 b = none := fun {s8 σ8 H8 us8 k8 ys8} I8 =>
      ⟨T.keep _ _ _ st5 fun b hb o e => (I8.pin (b, o) (List.mem_append_right _ (List.mem_append_right _ (mem_pinsAt hb e)))).1, fun b hb => by
        obtain ⟨o, e, d⟩ := T.obj _ _ st5 b hb
        exact (I8.pin (b, o) (List.mem_append_right _ (List.mem_append_right _ (mem_pinsAt hb e)))).2.1⟩
    cases ok with
    | false =>
      rw [if_neg Bool.false_ne_true] at q7
      obtain ⟨m', hm, w7⟩ := q7
      obtain ⟨t1, t2⟩ := again (us8 := us) (k8 := k) (ys8 := ys) I7
      exact wpAny_pure ⟨rfl, m', hm, i + 1, ys, us, k, σ6, H7, rv, I7.unpinned, t1, t2, w7⟩
    | true =>
      rw [if_pos rfl] at q7
      refine wpAny_bind (wpAny_bind (wpAny_mono (he _ s7 σ6 H7 _ I7 q7) (fun y s8 ⟨yv, H8, I8, r8, m', hm, w8⟩ => ?_) (fun _ _ z => z.elim)))
      obtain ⟨t1, t2⟩ := again (us8 := us) (k8 := k) (ys8 := ys) I8
      obtain ⟨e8, n8, l8, f8, d8⟩ := I8.pin (acc, accObj us k) (List.mem_append_right _ (List.mem_append_left _ List.mem_cons_self))
      have hlen := rv.length
      have hz' : us.toArray.size ≤ sizeLine := by rw [List.size_toArray]; omega
      refine wpAny_bind (call_meets PySem.F.slot_list_append ⟨_, e8, rfl⟩ PySem.F.entry_list_append (PySem.F.args_list_append_2 _ _) (PySem.list_append acc us.toArray k y hz') ⟨e8, ?_⟩)
      have q := PySem.IsL.update e8 (fun z => z.push y)
      have I9 : Inv (cxComp X scope N' cl C s₂ H₂ fp) [] σ6 H8 s8 := I8.pins_of fun p hp => (nomatch hp)
      have I10 := I9.turned (t' := s8.toks) (it := acc) (h' := s8.heap.update acc (Obj.mapSeq fun z => z.push y)) (fun b o hb e => (Heap.get?_update_other s8.heap _ (Ne.symm hb)).trans e) n8 hacc.1 (.inr hacc.2.2.2) hacc.2.2.1 (fun p hp => (nomatch hp))
      have e' : (us.toArray.push y) = (us ++ [y]).toArray := by simp
      rw [e'] at q
      obtain ⟨k9, ek⟩ : ∃ k9, k9 = (if ((us ++ [y]).toArray.size == us.toArray.size) = true then k else k + 1) := ⟨_, rfl⟩
      rw [← ek] at q
      have I11 := I10.pins_of (pins' := [(acc, accObj (us ++ [y]) k9)]) fun p hp => by
        obtain rfl : p = (acc, accObj (us ++ [y]) k9) := by simpa using hp
        exact ⟨q, n8, hacc.1, hacc.2.1, fun v z => by cases z⟩
      refine wpAny_pure (wpAny_pure ⟨rfl, m', hm, i + 1, ys ++ [yv], us ++ [y], k9, σ6, H8, rv.append (.cons r8 .nil), I11, T.keep _ _ _ t1 fun b hb o e => ?_, t2, w8⟩)
      exact (Heap.get?_update_other s8.heap _ (hfp b hb).2.2.2.symm).trans e

/-- [elt for tg in iter if ..]: the reading; k: how many own names, js: what is seen of the frame -/
def tComp (wi : TI) (g : TG) (tt : TT) (te : TE) (k : Nat) (js : List Nat) : TE := fun σ H Q => wi σ H fun J H1 => ∃ W : Nat → Nat → List V → St → Hp → Prop, (∃ m, W 0 m [] (compSt k js σ) H1) ∧
  CTurn J g tt te (fun ys H2 => ys.length ≤ sizeLine ∧ ∀ p, H2 p = none → Q (.ref p) (upd H2 p (.lst ys))) W

section
variable {X : Cx} {scope : Scope} {own : List Str} {js : List Nat} {N' : List Str} {wi : TI} {g : TG} {tt : TT} {te : TE} {elt tg iter : Expr} {ifs : List Expr} {pos : Pos}
/-- the block runs; behind it all is as the frame wants it, the block's own names still there -/
theorem comp_run {pins : List (Addr × Obj)} {σ : St} {H : Hp} {s : Shared} {it : Addr} {fp : List Addr} {tn : Nat → Heap → Prop} {J : It} {cl : List (Str × Addr)} {F : List V → Hp → Prop} {E : Value → Shared → Prop} {RR : Value → Addr → Result → Shared → Prop}
    (S : CompScope X scope own js N') (hcalm : X.calm = true) (hg : ∀ cl C s₀ H₀ ex, PG (cxComp X scope N' cl C s₀ H₀ ex) tg g) (hc : ∀ cl C s₀ H₀ ex, PIfs (cxComp X scope N' cl C s₀ H₀ ex) ifs tt) (he : ∀ cl C s₀ H₀ ex, PE (cxComp X scope N' cl C s₀ H₀ ex) elt te)
    (hc1 : ∀ x c, cl.lookup x = some c → X.env.cells.lookup x = some c) (hc2 : ∀ x, (x, NameKind.free) ∈ scope.names → ∃ c, cl.lookup x = some c)
    (I : Inv X pins σ H s) (T : Turn X.prog X.w X.K tg J fp it tn) (st : tn 0 s.heap) (hf : ∀ b ∈ fp, FpOk X pins H b) (W : Nat → Nat → List V → St → Hp → Prop) {m0 : Nat} (w0 : W 0 m0 [] (compSt own.length js σ) H) (turn : CTurn J g tt te F W)
    (hF : ∀ ys H', F ys H' → ys.length ≤ sizeLine)
    (fin : ∀ acc C H' ys s' m, Inv X pins σ (upd H' acc (.lst ys)) s' → H' acc = none → s'.heap.Ns C m → (upd H' acc (.lst ys)) C = none → C ≠ X.env.locals → X.s₀.heap.objs.size ≤ C → (∀ x c, X.env.cells.lookup x = some c → c ≠ C) → (∀ p ∈ X.pn ++ pins, p.1 ≠ C) → F ys H' → RR (.ref acc) C (.ok .next) s') :
    wpAny (model X.prog X.w) X.A (newList []) (fun acc s₃ => wpAny (model X.prog X.w) X.A (newFunctionEnv scope X.env.globals cl [] X.env.qual none .none (some X.env)) (fun cenv s₄ =>
      codeAny (model X.prog X.w) X.A (.compStart (.ListComp elt [⟨tg, iter, ifs, 0⟩] scope pos) 0 (.ref it) acc { cenv with scope := relabel scope X.env }) (RR acc cenv.locals) s₄) E s₃) E s := by
  refine wpAny_newObj_type (wpAny_newFunctionEnv S.nocell (by intro y hy; simp at hy) (fun h₁ hns₁ hsb₁ => ?_) S.kind)
  dsimp only at hns₁ hsb₁ ⊢
  generalize hH2 : s.heap.push { cls := .type "list", dict := none, data := .seq ([] : List Value).toArray } = H2 at hns₁ hsb₁ ⊢
  have hC : H2.objs.size = s.heap.objs.size + 1 := by rw [← hH2, Heap.size_push]
  have hDC : s.heap.objs.size ≠ H2.objs.size := by rw [hC]; exact Nat.ne_of_lt (Nat.lt_succ_self _)
  have hCle : s.heap.objs.size ≤ H2.objs.size := by rw [hC]; exact Nat.le_succ _
  have below : ∀ b, b < s.heap.objs.size → b ≠ H2.objs.size ∧ b ≠ s.heap.objs.size := fun b hb => ⟨by rw [hC]; exact Nat.ne_of_lt (Nat.lt_succ_of_lt hb), Nat.ne_of_lt hb⟩
  have old : ∀ b o, s.heap.get? b = some o → h₁.get? b = some o := fun b o e => hsb₁.extBut b o (below b (Heap.lt_size e)).1 (Heap.get?_push_of_some _ (hH2 ▸ Heap.get?_push_of_some _ e))
  have hacc : h₁.get? s.heap.objs.size = some (accObj [] 0) := hsb₁.extBut _ _ hDC (Heap.get?_push_of_some _ (hH2 ▸ Heap.get?_push_size _ rfl))
  generalize hCn : H2.objs.size = C at *
  generalize hAn : s.heap.objs.size = acc at *
  have cellLt : ∀ x c, X.env.cells.lookup x = some c → c < acc := fun x c e => by
    obtain ⟨v, q⟩ := I.cell x c e
    rw [← hAn]; exact q.lt
  have pinLt : ∀ p ∈ X.pn ++ pins, p.1 < acc := fun p hp => by rw [← hAn]; exact Heap.lt_size (I.pin p hp).1
  have stkLt : ∀ b ∈ frs X.stack, b < acc := fun b hb => by
    obtain ⟨_, o, ho, _⟩ := I.stack.mem hb
    rw [← hAn]; exact Heap.lt_size ho
  have fpLt : ∀ b ∈ fp, b < acc := fun b hb => by
    obtain ⟨o, e, _⟩ := T.obj _ _ st b hb
    rw [← hAn]; exact Heap.lt_size e
  have hHC : H C = none := I.hok.fresh (by rw [hAn]; exact hCle)
  have hHA : H acc = none := I.hok.fresh (by rw [hAn]; exact Nat.le_refl _)
  have I1 : Inv (cxComp X scope N' cl C s H fp) [] (compSt own.length js σ) H { s with heap := h₁, toks := s.toks + ([] : List (Str × Value)).length } :=
    Inv.comp S I hc1 hc2 (by rw [hAn]; exact hCle) hns₁ old (fun b hb => ⟨hf b hb, by rw [hAn]; exact fpLt b hb⟩) hHC fun b o e => (below b (by rw [← hAn]; exact Heap.lt_size e)).1
  have I2 : Inv (cxComp X scope N' cl C s H fp) [(acc, accObj [] 0)] (compSt own.length js σ) H { s with heap := h₁, toks := s.toks + ([] : List (Str × Value)).length } := I1.pins_of fun p hp => by
    obtain rfl : p = (acc, accObj [] 0) := by simpa using hp
    exact ⟨hacc, hHA, hDC, fun z => absurd (stkLt acc z) (Nat.lt_irrefl _), fun v z => by cases z⟩
  have st1 : tn 0 h₁ := T.keep _ _ _ st fun b hb o e => old b o e
  have loop : ∀ s₃ : Shared, s₃ = { s with heap := h₁, toks := s.toks + ([] : List (Str × Value)).length } →
      codeAny (model X.prog X.w) X.A (.compLoop (.ListComp elt [⟨tg, iter, ifs, 0⟩] scope pos) 0 (.ref it) (.ref acc) (compEnvC scope cl C X.env)) (RR (.ref acc) C) s₃ := by
    rintro s₃ rfl
    refine comp_loop W turn T (hg _ _ _ _ _) (hc _ _ _ _ _) (he _ _ _ _ _) hcalm
      (fun b hb => ⟨(below b (fpLt b hb)).1, fun z => ?_, fun x c e z => (hf b hb).2.2.2.2.1 x c (hc1 x c e) z, (below b (fpLt b hb)).2⟩)
      ⟨hDC, fun z => absurd (stkLt acc z) (Nat.lt_irrefl _), fun x c e z => absurd (cellLt x c (hc1 x c e)) (by rw [z]; exact Nat.lt_irrefl _), by rw [hAn]; exact Nat.le_refl _⟩ ?_ I2 st1 (fun b hb => (hf b hb).1) w0
    · rcases List.mem_cons.mp (I.stkSub b z) with q | q
      · exact (hf b hb).2.1 q
      · exact (hf b hb).2.2.1 q
    · intro s' σ' H' ys us k J' rv q
      obtain ⟨e', n', l', f', d'⟩ := J'.pin (acc, accObj us k) (List.mem_append_right _ List.mem_cons_self)
      have n'' : H' acc = none := n'
      obtain ⟨m, hm, _⟩ := J'.loc
      have oldLt : ∀ b o, s.heap.get? b = some o → b < acc := fun b o e => by rw [← hAn]; exact Heap.lt_size e
      have neA : ∀ b o, s.heap.get? b = some o → b ≠ acc := fun b o e => Nat.ne_of_lt (oldLt b o e)
      have un : Un (frs X.stack) fp H (upd H' acc (.lst ys)) s.heap s'.heap := ⟨J'.base.keep, J'.base.slot, fun b o e n hx => by rw [upd_ne (neA b o e)]; exact J'.base.free b o e n hx, J'.base.there,
        fun b xs e => by
          have z := J'.base.tups b xs e
          rw [upd_ne (ne_of_none z n'')]; exact z,
        fun b o u e => by
          have z := J'.base.frzs b o u e
          rw [upd_ne (ne_of_none z n'')]; exact z,
        fun b ps e => by
          obtain ⟨more, z⟩ := J'.base.tbls b ps e
          exact ⟨more, by rw [upd_ne (ne_of_none z n'')]; exact z⟩⟩
      have hok : HOk X.prog X.w (upd H' acc (.lst ys)) s'.heap := fun b u e => by
        by_cases hb : b = acc
        · subst hb
          rw [upd_same] at e; cases e
          exact ⟨hF _ _ q, us, k, rv, e'⟩
        · rw [upd_ne hb] at e
          exact (J'.hok b u e).stay (fun c v _ z => z) (fun c z => by rw [upd_ne (ne_of_none z n'')]; exact z) fun c xs z => by rw [upd_ne (ne_of_none z n'')]; exact z
      have IX : Inv X pins σ (upd H' acc (.lst ys)) s' := I.call' J'.os un hok J'.bare fun b hb => ⟨(hf b hb).2.2.2.1, (hf b hb).2.1, (hf b hb).2.2.2.2.1, (hf b hb).2.2.2.2.2⟩
      refine fin acc C H' ys s' m IX n'' hm ?_ ?_ ?_ ?_ ?_ q
      · rw [upd_ne (Ne.symm hDC)]; exact J'.free
      · exact Nat.ne_of_gt (Nat.lt_of_lt_of_le I.lt (by rw [hAn]; exact hCle))
      · exact Nat.le_trans I.sz (by rw [hAn]; exact hCle)
      · exact fun x c e z => absurd (Nat.lt_of_lt_of_le (cellLt x c e) hCle) (by rw [z]; exact Nat.lt_irrefl _)
      · exact fun p hp z => absurd (Nat.lt_of_lt_of_le (pinLt p hp) hCle) (by rw [z]; exact Nat.lt_irrefl _)
  exact codeAny_compStart_list (loop _ rfl) (T.self _ 0 _ _ _ st1 (loop _ rfl))

theorem pe_comp (S : CompScope X scope own js N') (hcalm : X.calm = true) (hi : PI X tg iter wi) (hg : ∀ cl C s₀ H₀ ex, PG (cxComp X scope N' cl C s₀ H₀ ex) tg g) (hc : ∀ cl C s₀ H₀ ex, PIfs (cxComp X scope N' cl C s₀ H₀ ex) ifs tt)
    (he : ∀ cl C s₀ H₀ ex, PE (cxComp X scope N' cl C s₀ H₀ ex) elt te) (hs : ∀ x, foldedSetIterable iter X.env x = pure x := by intro _; rfl) : PE X (.ListComp elt [⟨tg, iter, ifs, 0⟩] scope pos) (tComp wi g tt te own.length js) := by
  intro pins s σ H Q I h
  obtain ⟨cl, hcl, hc1, hc2⟩ := closure_ok (env := X.env) scope fun y hy hk => I.ok.has y.1 (S.free y hy hk)
  rw [eval_ListComp]
  refine wpAny_comprehension_free (use := none) rfl hs hcl S.kind S.names (thn (hi pins s σ H _ I h) fun v s1 h1 => thn h1 fun itv s2 h2 => ?_)
  obtain ⟨it, fp, tn, J, H2, e, I2, T, st2, f2, W, ⟨m0, w0⟩, turn⟩ := h2
  subst e
  refine comp_run (RR := fun acc C => compPost (model X.prog X.w) X.A X.xe none (EP X pins σ Q) acc C) S hcalm hg hc he hc1 hc2 I2 T st2 f2 W w0 turn (fun ys H' q => q.1) ?_
  intro acc C H' ys s' m IX na hm hCn hL hz hcn hpn q
  refine ⟨m, hm, fun h' hs' => ⟨.ref acc, _, ?_, rfl, q.2 acc na⟩⟩
  exact IX.turned (t' := s'.toks) (it := C) (fun b o hb e => (hs'.2 b hb).trans e) hCn hL (.inr hz) hcn hpn

/-- x = [elt for ..], x a local name, on one row -/
theorem ps_setComp {i : Nat} {x : Str} {pos' spos : Pos} (S : CompScope X scope own js N') (hcalm : X.calm = true) (hN : X.N.Nodup) (hx : X.N[i]? = some x) (hk : X.env.scope.names.lookup x = some .local) (hi : PI X tg iter wi) (hg : ∀ cl C s₀ H₀ ex, PG (cxComp X scope N' cl C s₀ H₀ ex) tg g) (hc : ∀ cl C s₀ H₀ ex, PIfs (cxComp X scope N' cl C s₀ H₀ ex) ifs tt)
    (he : ∀ cl C s₀ H₀ ex, PE (cxComp X scope N' cl C s₀ H₀ ex) elt te) (hsw : swapsWith (.ListComp elt [⟨tg, iter, ifs, 0⟩] scope pos) (some (.Name x pos')) spos.line X.env = pure true := by rfl) (hs : ∀ x, foldedSetIterable iter X.env x = pure x := by intro _; rfl) :
    PS X (.Assign [.Name x pos'] (.ListComp elt [⟨tg, iter, ifs, 0⟩] scope pos) spos) (tAsg (tComp wi g tt te own.length js) (gName i)) := by
  intro pins s σ H D I h
  obtain ⟨cl, hcl, hc1, hc2⟩ := closure_ok (env := X.env) scope fun y hy hk => I.ok.has y.1 (S.free y hy hk)
  rw [exec_Assign_Name_used _ _ _ _ hsw]
  refine wpAny_bind (wpAny_standAt (wpAny_bind ?_))
  show wpAny _ X.A (do let _ ← comprehension (.ListComp elt [⟨tg, iter, ifs, 0⟩] scope pos) scope X.env _ (newList []) false (eval iter X.env) (some (assign (.Name x pos') X.env))) _ _ s
  refine wpAny_bind (wpAny_mono (wpAny_comprehension_free (use := some (assign (.Name x pos') X.env)) (Q := fun _ s' => SP X pins D .next s') rfl hs hcl S.kind S.names
    (thn (hi pins s σ H _ I h) fun v s1 h1 => thn h1 fun itv s2 h2 => ?_)) (fun _ s' hq => wpAny_pure (wpAny_pure hq)) fun _ _ e => e)
  obtain ⟨it, fp, tn, J, H2, e, I2, T, st2, f2, W, ⟨m0, w0⟩, turn⟩ := h2
  subst e
  refine comp_run (RR := fun acc C => compPost (model X.prog X.w) X.A X.xe (some (assign (.Name x pos') X.env)) (fun _ s' => SP X pins D .next s') acc C) S hcalm hg hc he hc1 hc2 I2 T st2 f2 W w0 turn (fun ys H' q => q.1) ?_
  intro acc C H' ys s' m IX na hm hCn hL hz hcn hpn q
  show wpAny _ X.A (assign (.Name x pos') X.env (.ref acc)) _ _ s'
  refine wpAny_assign_Name (store_ok2 IX hN hx (.inl hk) (v := .ref acc) rfl (fun s'' I'' hsb => ?_) (.inr hk))
  obtain ⟨a, hsb, ha⟩ := hsb
  have haC : C ≠ a := by
    rcases ha with z | z
    · rw [z]; exact hL
    · exact fun q => hcn x a z q.symm
  refine ⟨m, hm.sameBut hsb haC, fun h' hs' => ⟨_, _, ?_, q.2 acc na⟩⟩
  exact I''.turned (t' := s''.toks) (it := C) (fun b o hb e => (hs'.2 b hb).trans e) hCn hL (.inr hz) hcn hpn
end
end L2

set_option Elab.async false
set_option linter.all false
set_option maxRecDepth 100000
set_option maxHeartbeats 4000000
namespace L2
open PySem PySem.Spec PyProof.Rows
section
variable {X : Cx}
/-! ### operations on any of the kinds, by one rule -/
/-- // by a number below 2 ^ 128 -/
def CDivW (i j : Int) : Prop := 0 < j ∧ j < 340282366920938463463374607431768211456
theorem op_fdivW : OpR X (binaryOp .FloorDiv) (rI CDivW fun i j => .int (i / j)) := opI fun i j _ _ _ _ _ hc q => by
  rw [← Int.fdiv_eq_ediv_of_nonneg i (Int.le_of_lt hc.1)] at q
  have h1 : (0 : Int) < j := hc.1
  have h2 : j < 340282366920938463463374607431768211456 := hc.2
  have hb : j.natAbs < 340282366920938463463374607431768211456 := by omega
  have he : (2 : Nat) ^ 128 = 340282366920938463463374607431768211456 := by decide +kernel
  have hl : j.natAbs.log2 < 128 := (Nat.log2_lt (by omega)).mpr (Nat.lt_of_lt_of_eq hb he.symm)
  exact floordiv_int (by have := hc.1; omega) q (.inl (PyProof.noPylong_of_log2 (by omega)))
/-! ### the forms of comprehensions that one uses -/
theorem comp_range {lo : Int} {n : Nat} {g : TG} {te : TE} {F : List V → Hp → Prop} {σ0 : St} {H0 : Hp} (Pv : Nat → List V → St → Hp → Prop) (hn : n ≤ sizeLine) (h0 : Pv 0 [] σ0 H0)
    (hs : ∀ i ys σ H, i < n → ys.length = i → Pv i ys σ H → ∀ N : List V → St → Hp → Prop, (∀ ys' σ' H', ys'.length = i + 1 → Pv (i + 1) ys' σ' H' → N ys' σ' H') → g (.int (lo + i)) σ H fun σ2 H2 => te σ2 H2 fun y H3 => N (ys ++ [y]) σ2 H3)
    (hd : ∀ ys σ H, ys.length = n → Pv n ys σ H → F ys H) :
    ∃ W : Nat → Nat → List V → St → Hp → Prop, (∃ m, W 0 m [] σ0 H0) ∧ CTurn (Itr lo n) g tYes te F W := by
  refine ⟨fun i m ys σ H => m = n - i ∧ i ≤ n ∧ ys.length = i ∧ Pv i ys σ H, ⟨n, by simp, Nat.zero_le _, rfl, h0⟩, ?_⟩
  rintro i m ys σ H ⟨rfl, hi, hl, p⟩
  by_cases hlt : i < n
  · refine .inr ⟨hlt, by omega, fun x H' y => ?_⟩
    obtain ⟨e, y⟩ := y
    subst e y
    exact hs i ys σ _ hlt hl p (fun ys' σ' H' => ∃ m', m' < n - i ∧ m' = n - (i + 1) ∧ i + 1 ≤ n ∧ ys'.length = i + 1 ∧ Pv (i + 1) ys' σ' H') fun ys' σ' H' hl' q => ⟨n - (i + 1), by omega, rfl, hlt, hl', q⟩
  · have e : i = n := by omega
    subst e
    exact .inl ⟨Nat.le_refl _, hd ys σ H hl p⟩
theorem comp_list {K : PySem.W.Frag} {a : Addr} {xs : List V} {g : TG} {te : TE} {F : List V → Hp → Prop} {σ0 : St} {H0 : Hp} (Pv : Nat → List V → St → Hp → Prop) (hn : xs.length ≤ sizeLine) (h0 : Pv 0 [] σ0 H0) (hq : ∀ i ys σ H, i ≤ xs.length → Pv i ys σ H → SqL K H a xs)
    (hs : ∀ i x ys σ H, xs[i]? = some x → ys.length = i → Pv i ys σ H → ∀ N : List V → St → Hp → Prop, (∀ ys' σ' H', ys'.length = i + 1 → Pv (i + 1) ys' σ' H' → N ys' σ' H') → g x σ H fun σ2 H2 => te σ2 H2 fun y H3 => N (ys ++ [y]) σ2 H3)
    (hd : ∀ ys σ H, ys.length = xs.length → Pv xs.length ys σ H → F ys H) :
    ∃ W : Nat → Nat → List V → St → Hp → Prop, (∃ m, W 0 m [] σ0 H0) ∧ CTurn (Itl K a) g tYes te F W := by
  refine ⟨fun i m ys σ H => m = xs.length - i ∧ i ≤ xs.length ∧ ys.length = i ∧ Pv i ys σ H, ⟨xs.length, by simp, Nat.zero_le _, rfl, h0⟩, ?_⟩
  rintro i m ys σ H ⟨rfl, hi, hl, p⟩
  have q := hq i ys σ H hi p
  by_cases hlt : i < xs.length
  · refine .inr ⟨⟨xs, xs[i], q, by simp [hlt]⟩, by omega, fun x H' y => ?_⟩
    obtain ⟨e, y⟩ := y
    subst e
    exact hs i x ys σ _ (y xs q) hl p (fun ys' σ' H' => ∃ m', m' < xs.length - i ∧ m' = xs.length - (i + 1) ∧ i + 1 ≤ xs.length ∧ ys'.length = i + 1 ∧ Pv (i + 1) ys' σ' H') fun ys' σ' H' hl' q => ⟨xs.length - (i + 1), by omega, rfl, hlt, hl', q⟩
  · have e : i = xs.length := by omega
    subst e
    exact .inl ⟨⟨xs, q, Nat.le_refl _⟩, hd ys σ H hl p⟩
theorem comp_tup {K : PySem.W.Frag} {a : Addr} {xs : List V} {g : TG} {te : TE} {F : List V → Hp → Prop} {σ0 : St} {H0 : Hp} (Pv : Nat → List V → St → Hp → Prop) (hn : xs.length ≤ sizeLine) (h0 : Pv 0 [] σ0 H0) (hq : ∀ i ys σ H, i ≤ xs.length → Pv i ys σ H → SqT K H a xs)
    (hs : ∀ i x ys σ H, xs[i]? = some x → ys.length = i → Pv i ys σ H → ∀ N : List V → St → Hp → Prop, (∀ ys' σ' H', ys'.length = i + 1 → Pv (i + 1) ys' σ' H' → N ys' σ' H') → g x σ H fun σ2 H2 => te σ2 H2 fun y H3 => N (ys ++ [y]) σ2 H3)
    (hd : ∀ ys σ H, ys.length = xs.length → Pv xs.length ys σ H → F ys H) :
    ∃ W : Nat → Nat → List V → St → Hp → Prop, (∃ m, W 0 m [] σ0 H0) ∧ CTurn (Itt K a) g tYes te F W := by
  refine ⟨fun i m ys σ H => m = xs.length - i ∧ i ≤ xs.length ∧ ys.length = i ∧ Pv i ys σ H, ⟨xs.length, by simp, Nat.zero_le _, rfl, h0⟩, ?_⟩
  rintro i m ys σ H ⟨rfl, hi, hl, p⟩
  have q := hq i ys σ H hi p
  by_cases hlt : i < xs.length
  · refine .inr ⟨⟨xs, xs[i], q, by simp [hlt]⟩, by omega, fun x H' y => ?_⟩
    obtain ⟨e, y⟩ := y
    subst e
    exact hs i x ys σ _ (y xs q) hl p (fun ys' σ' H' => ∃ m', m' < xs.length - i ∧ m' = xs.length - (i + 1) ∧ i + 1 ≤ xs.length ∧ ys'.length = i + 1 ∧ Pv (i + 1) ys' σ' H') fun ys' σ' H' hl' q => ⟨xs.length - (i + 1), by omega, rfl, hlt, hl', q⟩
  · have e : i = xs.length := by omega
    subst e
    exact .inl ⟨⟨xs, q, Nat.le_refl _⟩, hd ys σ H hl p⟩
/-- a def of the module: its address, its object, how it binds -/
structure Def (K : PySem.W.Frag) (mg : Str → Option Value) (x : Str) (st : Stmt) (ps : List Str) (f : Addr) (fd : FuncData) : Prop where
  F : Fun K x x st f fd
  mg : mg x = some (.ref f)
  b : Binds K fd ps []
/-- all that was tracked is as it was, but the object at p -/
def But (p : Addr) (H H' : Hp) : Prop := ∀ b o, H b = some o → b ≠ p → H' b = some o
theorem But.refl {p : Addr} {H : Hp} : But p H H := fun _ _ h _ => h
theorem But.trans {p : Addr} {H H1 H2 : Hp} (a : But p H H1) (b : But p H1 H2) : But p H H2 := fun c o h hc => b c o (a c o h hc) hc
theorem But.upd {p : Addr} {H : Hp} {o : HO} : But p H (upd H p o) := fun b u h hb => by rw [upd_ne hb]; exact h
theorem But.new {p q : Addr} {H : Hp} {o : HO} (h : H q = none) : But p H (L2.upd H q o) := fun b u e _ => by rw [upd_ne (ne_of_none e h)]; exact e
end
/-- between two statements: what holds there -/
theorem seq_by {t u : TS} {D : Ends} {σ : St} {H : Hp} (M : St → Hp → Prop) (h2 : ∀ σ' H', M σ' H' → u D σ' H') (h1 : ∀ N : St → Hp → Prop, (∀ σ' H', M σ' H' → N σ' H') → t { D with nx := N } σ H) : tSeq t u D σ H := h1 (u D) h2
theorem Same.new {H : Hp} {q : Addr} {o : HO} (h : H q = none) : Same H (upd H q o) := fun b u e => by rw [upd_ne (ne_of_none e h)]; exact e
theorem Same.tup {K : PySem.W.Frag} {H H' : Hp} {a : Addr} {xs : List V} (e : Same H H') (h : SqT K H a xs) : SqT K H' a xs := by
  rcases h with (h | ⟨o, h⟩) | h
  · exact .inl (.inl (e _ _ h))
  · exact .inl (.inr ⟨o, e _ _ h⟩)
  · exact .inr h
theorem bt_len : bootBuiltins "len" = some (.builtin "len") := by decide +kernel
theorem bt_list : bootBuiltins "list" = some (.type "list") := by decide +kernel
theorem bt_tuple : bootBuiltins "tuple" = some (.type "tuple") := by decide +kernel
theorem bt_str : bootBuiltins "str" = some (.type "str") := by decide +kernel
theorem bt_int : bootBuiltins "int" = some (.type "int") := by decide +kernel
theorem bt_bool : bootBuiltins "bool" = some (.type "bool") := by decide +kernel
theorem bt_min : bootBuiltins "min" = some (.builtin "min") := by decide +kernel
theorem bt_repr : bootBuiltins "repr" = some (.builtin "repr") := by decide +kernel
theorem bt_all : bootBuiltins "all" = some (.builtin "all") := by decide +kernel
theorem bt_any : bootBuiltins "any" = some (.builtin "any") := by decide +kernel
theorem bt_isinstance : bootBuiltins "isinstance" = some (.builtin "isinstance") := by decide +kernel
end L2

set_option Elab.async false
set_option linter.all false
set_option maxRecDepth 100000
set_option maxHeartbeats 4000000
namespace L2
open PySem PySem.Spec PyProof.Rows PySem.SeqAt

/-! ### data: what a value stands for -/
mutual
inductive Rep (K : PySem.W.Frag) (H : Hp) : V → PyData → Prop
  | non : Rep K H .non .none
  | bl (b : Bool) : Rep K H (.bl b) (.bool b)
  | int (i : Int) : Rep K H (.int i) (.int i)
  | str (x : Str) : Rep K H (.str x) (.str x)
  | tup {a : Addr} {xs : List V} {ds : List PyData} : SqT K H a xs → Reps K H xs ds → Rep K H (.ref a) (.tuple ds)
  | lst {a : Addr} {xs : List V} {ds : List PyData} : SqL K H a xs → Reps K H xs ds → Rep K H (.ref a) (.list ds)
inductive Reps (K : PySem.W.Frag) (H : Hp) : List V → List PyData → Prop
  | nil : Reps K H [] []
  | cons {x : V} {d : PyData} {xs : List V} {ds : List PyData} : Rep K H x d → Reps K H xs ds → Reps K H (x :: xs) (d :: ds)
end
section
variable {K : PySem.W.Frag} {H H' : Hp}
theorem Reps.length : ∀ {xs : List V} {ds : List PyData}, Reps K H xs ds → xs.length = ds.length
  | _, _, .nil => rfl
  | _, _, .cons _ t => by rw [List.length_cons, List.length_cons, Reps.length t]
mutual
theorem Rep.map (f1 : ∀ a xs, SqT K H a xs → SqT K H' a xs) (f2 : ∀ a xs, SqL K H a xs → SqL K H' a xs) : ∀ {v : V} {d : PyData}, Rep K H v d → Rep K H' v d
  | _, _, .non => .non
  | _, _, .bl b => .bl b
  | _, _, .int i => .int i
  | _, _, .str x => .str x
  | _, _, .tup h r => .tup (f1 _ _ h) (Reps.map f1 f2 r)
  | _, _, .lst h r => .lst (f2 _ _ h) (Reps.map f1 f2 r)
theorem Reps.map (f1 : ∀ a xs, SqT K H a xs → SqT K H' a xs) (f2 : ∀ a xs, SqL K H a xs → SqL K H' a xs) : ∀ {v : List V} {d : List PyData}, Reps K H v d → Reps K H' v d
  | _, _, .nil => .nil
  | _, _, .cons h r => .cons (Rep.map f1 f2 h) (Reps.map f1 f2 r)
end
theorem Rep.same {v : V} {d : PyData} (h : Rep K H v d) (e : Same H H') : Rep K H' v d := h.map (fun _ _ z => e.tup z) (fun _ _ z => e.seq z)
theorem But.seq {p a : Addr} {xs : List V} {kvs : List (Key × V)} (e : But p H H') (hp : H p = some (.dK kvs)) (h : SqL K H a xs) : SqL K H' a xs := by
  rcases h with (h | ⟨o, h⟩) | h
  · exact .inl (.inl (e _ _ h (ne_of h hp (by intro z; cases z))))
  · exact .inl (.inr ⟨o, e _ _ h (ne_of h hp (by intro z; cases z))⟩)
  · exact .inr h
theorem Reps.get' : ∀ {xs : List V} {ds : List PyData} {i : Nat} {x : V}, Reps K H xs ds → xs[i]? = some x → ∃ d, ds[i]? = some d ∧ Rep K H x d
  | _, _, _, _, .nil, e => by simp at e
  | _, _, 0, _, .cons r _, e => by simp at e; subst e; exact ⟨_, rfl, r⟩
  | _, _, i + 1, d, .cons _ t, e => by
    obtain ⟨u, h1, h2⟩ := Reps.get' (i := i) (x := d) t (by simpa using e)
    exact ⟨u, by simpa using h1, h2⟩
end

section
variable {X : Cx} {pins : List (Addr × Obj)} {σ : St} {H : Hp} {s : Shared}
mutual
theorem Inv.reads (I : Inv X pins σ H s) : ∀ {v : V} {d : PyData} {u : Value}, Rep X.K H v d → RelV v u → ∃ as, Reads s.heap u d as
  | _, _, u, .non, r => by cases (show u = Value.none from r); exact ⟨[], .none⟩
  | _, _, u, .bl b, r => by cases (show u = Value.bool b from r); exact ⟨[], .bool b⟩
  | _, _, u, .int i, r => by obtain ⟨t, rfl⟩ := r; exact ⟨[], .int i t⟩
  | _, _, u, .str x, r => by obtain ⟨t, rfl⟩ := r; exact ⟨[], .str x t⟩
  | _, _, u, .tup h rs, r => by
    cases (show u = Value.ref _ from r)
    obtain ⟨its, rv, ⟨o, e, c, n, hd⟩, _⟩ := I.tuple h
    obtain ⟨as, ra⟩ := Inv.readsAll I rs rv
    exact ⟨as, .tuple e c hd (by simpa using ra)⟩
  | _, _, u, .lst h rs, r => by
    cases (show u = Value.ref _ from r)
    obtain ⟨its, rv, ⟨o, n, e, c, _, hd⟩, _⟩ := I.list h
    obtain ⟨as, ra⟩ := Inv.readsAll I rs rv
    exact ⟨_, .list e c hd (by simpa using ra)⟩
theorem Inv.readsAll (I : Inv X pins σ H s) : ∀ {vs : List V} {ds : List PyData} {us : List Value}, Reps X.K H vs ds → Vals vs us → ∃ as, ReadsAll s.heap us ds as
  | _, _, _, .nil, .nil => ⟨[], .nil⟩
  | _, _, _, .cons h hs, .cons r rs => by
    obtain ⟨as, a⟩ := Inv.reads I h r
    obtain ⟨bs, b⟩ := Inv.readsAll I hs rs
    exact ⟨as ++ bs, .cons a b⟩
end
end

/-! ### == of data -/
mutual
def pdEq : PyData → PyData → Bool
  | .none, .none => true
  | .bool a, .bool b => a == b
  | .bool a, .int b => (if a then 1 else 0) == b
  | .int a, .bool b => a == (if b then 1 else 0)
  | .int a, .int b => a == b
  | .str a, .str b => a == b
  | .tuple a, .tuple b => pdEqs a b
  | .list a, .list b => pdEqs a b
  | _, _ => false
def pdEqs : List PyData → List PyData → Bool
  | [], [] => true
  | a :: r, b :: t => pdEq a b && pdEqs r t
  | _, _ => false
end
theorem pdEqs_iff : ∀ (ds es : List PyData), pdEqs ds es = ((List.range (min ds.length es.length)).all (fun j => pdEq (ds.getD j .none) (es.getD j .none)) && ds.length == es.length)
  | [], [] => by simp [pdEqs]
  | [], _ :: _ => by simp [pdEqs]
  | _ :: _, [] => by simp [pdEqs]
  | a :: r, b :: t => by
    rw [pdEqs, pdEqs_iff r t, List.length_cons, List.length_cons, Nat.succ_min_succ, List.range_succ_eq_map, List.all_cons, List.all_map]
    simp only [List.getD_cons_zero, Bool.and_assoc]
    congr 1
    have e : (r.length + 1 == t.length + 1) = (r.length == t.length) := by
      rw [Bool.eq_iff_iff]; simp
    rw [e]
    congr 1
end L2

set_option Elab.async false
set_option linter.all false
set_option maxRecDepth 100000
set_option maxHeartbeats 4000000
namespace L2
open PySem PySem.Spec PyProof.Rows PySem.SeqAt

mutual
def pdDep : PyData → Nat
  | .tuple xs => pdDeps xs + 1
  | .list xs => pdDeps xs + 1
  | _ => 0
def pdDeps : List PyData → Nat
  | [] => 0
  | d :: r => max (pdDep d) (pdDeps r)
end
section
variable {X : Cx} {pins : List (Addr × Obj)} {σ : St} {H : Hp} {s : Shared}
mutual
/-- one value, one datum -/
theorem Rep.fn (I : Inv X pins σ H s) : ∀ {v : V} {d e : PyData} {u : Value}, Rep X.K H v d → Rep X.K H v e → RelV v u → d = e ∧ pdEq d d = true
  | _, _, _, _, .non, .non, _ => ⟨rfl, rfl⟩
  | _, _, _, _, .bl b, .bl _, _ => ⟨rfl, by simp [pdEq]⟩
  | _, _, _, _, .int i, .int _, _ => ⟨rfl, by simp [pdEq]⟩
  | _, _, _, _, .str x, .str _, _ => ⟨rfl, by simp [pdEq]⟩
  | _, _, _, _, .tup h1 r1, .tup h2 r2, r => by
    have e := I.tuple_inj h1 h2
    subst e
    obtain ⟨its, rv, _, _⟩ := I.tuple h1
    obtain ⟨e, q⟩ := Reps.fn I r1 r2 rv
    exact ⟨by rw [e], q⟩
  | _, _, _, _, .lst h1 r1, .lst h2 r2, r => by
    have e := I.list_inj h1 h2
    subst e
    obtain ⟨its, rv, _, _⟩ := I.list h1
    obtain ⟨e, q⟩ := Reps.fn I r1 r2 rv
    exact ⟨by rw [e], q⟩
  | _, _, _, _, .tup h1 _, .lst h2 _, r => by
    obtain ⟨_, _, ⟨o, e1, c1, _⟩, _⟩ := I.tuple h1
    obtain ⟨_, _, ⟨o', n, e2, c2, _⟩, _⟩ := I.list h2
    rw [e1] at e2; cases e2
    rw [c1] at c2; injection c2 with z; exact absurd z (by decide)
  | _, _, _, _, .lst h2 _, .tup h1 _, r => by
    obtain ⟨_, _, ⟨o, e1, c1, _⟩, _⟩ := I.tuple h1
    obtain ⟨_, _, ⟨o', n, e2, c2, _⟩, _⟩ := I.list h2
    rw [e1] at e2; cases e2
    rw [c1] at c2; injection c2 with z; exact absurd z (by decide)
theorem Reps.fn (I : Inv X pins σ H s) : ∀ {v : List V} {d e : List PyData} {u : List Value}, Reps X.K H v d → Reps X.K H v e → Vals v u → d = e ∧ pdEqs d d = true
  | _, _, _, _, .nil, .nil, _ => ⟨rfl, rfl⟩
  | _, _, _, _, .cons a b, .cons c d, .cons r rs => by
    obtain ⟨e1, q1⟩ := Rep.fn I a c r
    obtain ⟨e2, q2⟩ := Reps.fn I b d rs
    exact ⟨by rw [e1, e2], by simp [pdEqs, q1, q2]⟩
end
theorem allEq {vs ws : List V} {ds es : List PyData} {us xs : List Value} {A : Around} (rs1 : Reps X.K H vs ds) (rs2 : Reps X.K H ws es) (rv1 : Vals vs us) (rv2 : Vals ws xs) :
    ((List.range (min us.toArray.size xs.toArray.size)).all (fun j => pdEq (ds.getD j .none) (es.getD j .none)) && us.toArray.size == xs.toArray.size) = pdEqs ds es := by
  rw [pdEqs_iff, List.size_toArray, List.size_toArray, ← rv1.length, ← rv2.length, rs1.length, rs2.length]
theorem rcT {l b : Addr} {vs ws : List V} {ds es : List PyData} {us xs : List Value} {A : Around} (rs1 : Reps X.K H vs ds) (rs2 : Reps X.K H ws es) (rv1 : Vals vs us) (rv2 : Vals ws xs) (p1 : IsTup s.heap l us.toArray) (p2 : IsTup s.heap b xs.toArray) (hu : A.units < cLine)
    (he : ∀ j (h1 : j < us.length) (h2 : j < xs.length), EqAt A.in1 s us[j] xs[j] (pdEq (ds.getD j .none) (es.getD j .none))) : RcAt A s (.ref l) (.ref b) (pdEq (.tuple ds) (.tuple es)) := by
  show RcAt A s (.ref l) (.ref b) (pdEqs ds es)
  rw [← allEq (A := A) rs1 rs2 rv1 rv2]
  exact RcAt.tuples (show s.heap.IsTuple l us.toArray from p1) (show s.heap.IsTuple b xs.toArray from p2) hu fun j h1 h2 => by simpa using he j (by simpa using h1) (by simpa using h2)
theorem rcL {l b : Addr} {vs ws : List V} {ds es : List PyData} {us xs : List Value} {A : Around} (rs1 : Reps X.K H vs ds) (rs2 : Reps X.K H ws es) (rv1 : Vals vs us) (rv2 : Vals ws xs) (p1 : s.heap.IsList l us.toArray) (p2 : s.heap.IsList b xs.toArray) (hu : A.units < cLine)
    (he : ∀ j (h1 : j < us.length) (h2 : j < xs.length), EqAt A.in1 s us[j] xs[j] (pdEq (ds.getD j .none) (es.getD j .none))) : RcAt A s (.ref l) (.ref b) (pdEq (.list ds) (.list es)) := by
  show RcAt A s (.ref l) (.ref b) (pdEqs ds es)
  have q := allEq (A := A) rs1 rs2 rv1 rv2
  by_cases hz : us.toArray.size = xs.toArray.size
  · rw [← q, hz, Nat.min_self, beq_self_eq_true, Bool.and_true, ← hz]
    exact RcAt.lists p1 p2 hz hu fun j h1 h2 => by simpa using he j (by simpa using h1) (by simpa using h2)
  · have e : pdEqs ds es = false := by
      rw [← q]
      have : (us.toArray.size == xs.toArray.size) = false := by simpa using hz
      rw [this, Bool.and_false]
    rw [e]
    exact RcAt.lists_lengths p1 p2 (by simpa using hz) hu
theorem eqT (I : Inv X pins σ H s) {l b : Addr} {vs ws : List V} {ds es : List PyData} {us xs : List Value} {A : Around} (h1 : SqT X.K H l vs) (h2 : SqT X.K H b ws) (rs1 : Reps X.K H vs ds) (rs2 : Reps X.K H ws es) (rv1 : Vals vs us) (rv2 : Vals ws xs) (p1 : IsTup s.heap l us.toArray) (p2 : IsTup s.heap b xs.toArray) (hu : A.units < cLine)
    (he : ∀ j (h1 : j < us.length) (h2 : j < xs.length), EqAt A.in1 s us[j] xs[j] (pdEq (ds.getD j .none) (es.getD j .none))) : EqAt A s (.ref l) (.ref b) (pdEq (.tuple ds) (.tuple es)) := by
  by_cases hlb : l = b
  · subst hlb
    obtain ⟨e, q⟩ := Rep.fn I (.tup h1 rs1) (.tup h2 rs2) (u := .ref l) rfl
    rw [← e, q]
    exact EqAt.same _
  · exact EqAt.of_refs hlb (rcT rs1 rs2 rv1 rv2 p1 p2 hu he)
theorem eqL (I : Inv X pins σ H s) {l b : Addr} {vs ws : List V} {ds es : List PyData} {us xs : List Value} {A : Around} (h1 : SqL X.K H l vs) (h2 : SqL X.K H b ws) (rs1 : Reps X.K H vs ds) (rs2 : Reps X.K H ws es) (rv1 : Vals vs us) (rv2 : Vals ws xs) (p1 : s.heap.IsList l us.toArray) (p2 : s.heap.IsList b xs.toArray) (hu : A.units < cLine)
    (he : ∀ j (h1 : j < us.length) (h2 : j < xs.length), EqAt A.in1 s us[j] xs[j] (pdEq (ds.getD j .none) (es.getD j .none))) : EqAt A s (.ref l) (.ref b) (pdEq (.list ds) (.list es)) := by
  by_cases hlb : l = b
  · subst hlb
    obtain ⟨e, q⟩ := Rep.fn I (.lst h1 rs1) (.lst h2 rs2) (u := .ref l) rfl
    rw [← e, q]
    exact EqAt.same _
  · exact EqAt.of_refs hlb (rcL rs1 rs2 rv1 rv2 p1 p2 hu he)
theorem hu00 {A : Around} {n : Nat} (h : A.units + n < cLine) : A.units < cLine := by omega
theorem hu0 {A : Around} {n : Nat} (h : A.units + (n + 1) < cLine) : A.units < cLine := by omega
theorem hu1 {A : Around} {n : Nat} (h : A.units + (n + 1) < cLine) : A.in1.units + n < cLine := by show A.units + 1 + n < cLine; omega
mutual
theorem eq_at (I : Inv X pins σ H s) : ∀ {v w : V} {d e : PyData} {u x : Value} {A : Around}, Rep X.K H v d → Rep X.K H w e → RelV v u → RelV w x → A.units + pdDep d < cLine → EqAt A s u x (pdEq d e)
  | _, _, _, _, u, x, A, .non, .non, r1, r2, hu => by
    cases (show u = Value.none from r1)
    cases (show x = Value.none from r2)
    exact EqAt.same _
  | _, _, _, _, u, x, A, .non, .bl b2, r1, r2, hu => by
    cases (show u = Value.none from r1)
    cases (show x = Value.bool b2 from r2)
    exact EqAt.none_bool b2
  | _, _, _, _, u, x, A, .non, .int i2, r1, r2, hu => by
    cases (show u = Value.none from r1)
    obtain ⟨t2, e2⟩ := (show ∃ t, x = Value.int i2 t from r2); subst e2
    exact EqAt.none_int i2 t2
  | _, _, _, _, u, x, A, .non, .str y2, r1, r2, hu => by
    cases (show u = Value.none from r1)
    obtain ⟨t2, e2⟩ := (show ∃ t, x = Value.str y2 t from r2); subst e2
    exact EqAt.none_str y2 t2
  | _, _, _, _, u, x, A, .non, .lst h2 rs2, r1, r2, hu => by
    cases (show u = Value.none from r1)
    cases (show x = Value.ref _ from r2); obtain ⟨its2, rv2, p2, _⟩ := I.list h2
    exact EqAt.none_list p2.isList (hu00 hu)
  | _, _, _, _, u, x, A, .non, .tup h2 rs2, r1, r2, hu => by
    cases (show u = Value.none from r1)
    cases (show x = Value.ref _ from r2); obtain ⟨its2, rv2, p2, _⟩ := I.tuple h2
    exact EqAt.none_tuple p2 (hu00 hu)
  | _, _, _, _, u, x, A, .bl b1, .non, r1, r2, hu => by
    cases (show u = Value.bool b1 from r1)
    cases (show x = Value.none from r2)
    exact EqAt.bool_none b1
  | _, _, _, _, u, x, A, .bl b1, .bl b2, r1, r2, hu => by
    cases (show u = Value.bool b1 from r1)
    cases (show x = Value.bool b2 from r2)
    exact EqAt.bool_bool b1 b2
  | _, _, _, _, u, x, A, .bl b1, .int i2, r1, r2, hu => by
    cases (show u = Value.bool b1 from r1)
    obtain ⟨t2, e2⟩ := (show ∃ t, x = Value.int i2 t from r2); subst e2
    exact EqAt.bool_int b1 i2 t2
  | _, _, _, _, u, x, A, .bl b1, .str y2, r1, r2, hu => by
    cases (show u = Value.bool b1 from r1)
    obtain ⟨t2, e2⟩ := (show ∃ t, x = Value.str y2 t from r2); subst e2
    exact EqAt.bool_str b1 y2 t2
  | _, _, _, _, u, x, A, .bl b1, .lst h2 rs2, r1, r2, hu => by
    cases (show u = Value.bool b1 from r1)
    cases (show x = Value.ref _ from r2); obtain ⟨its2, rv2, p2, _⟩ := I.list h2
    exact EqAt.bool_list b1 p2.isList (hu00 hu)
  | _, _, _, _, u, x, A, .bl b1, .tup h2 rs2, r1, r2, hu => by
    cases (show u = Value.bool b1 from r1)
    cases (show x = Value.ref _ from r2); obtain ⟨its2, rv2, p2, _⟩ := I.tuple h2
    exact EqAt.bool_tuple b1 p2 (hu00 hu)
  | _, _, _, _, u, x, A, .int i1, .non, r1, r2, hu => by
    obtain ⟨t1, e1⟩ := (show ∃ t, u = Value.int i1 t from r1); subst e1
    cases (show x = Value.none from r2)
    exact EqAt.int_none i1 t1
  | _, _, _, _, u, x, A, .int i1, .bl b2, r1, r2, hu => by
    obtain ⟨t1, e1⟩ := (show ∃ t, u = Value.int i1 t from r1); subst e1
    cases (show x = Value.bool b2 from r2)
    exact EqAt.int_bool i1 t1 b2
  | _, _, _, _, u, x, A, .int i1, .int i2, r1, r2, hu => by
    obtain ⟨t1, e1⟩ := (show ∃ t, u = Value.int i1 t from r1); subst e1
    obtain ⟨t2, e2⟩ := (show ∃ t, x = Value.int i2 t from r2); subst e2
    exact EqAt.int_int i1 t1 i2 t2
  | _, _, _, _, u, x, A, .int i1, .str y2, r1, r2, hu => by
    obtain ⟨t1, e1⟩ := (show ∃ t, u = Value.int i1 t from r1); subst e1
    obtain ⟨t2, e2⟩ := (show ∃ t, x = Value.str y2 t from r2); subst e2
    exact EqAt.int_str i1 t1 y2 t2
  | _, _, _, _, u, x, A, .int i1, .lst h2 rs2, r1, r2, hu => by
    obtain ⟨t1, e1⟩ := (show ∃ t, u = Value.int i1 t from r1); subst e1
    cases (show x = Value.ref _ from r2); obtain ⟨its2, rv2, p2, _⟩ := I.list h2
    exact EqAt.int_list i1 t1 p2.isList (hu00 hu)
  | _, _, _, _, u, x, A, .int i1, .tup h2 rs2, r1, r2, hu => by
    obtain ⟨t1, e1⟩ := (show ∃ t, u = Value.int i1 t from r1); subst e1
    cases (show x = Value.ref _ from r2); obtain ⟨its2, rv2, p2, _⟩ := I.tuple h2
    exact EqAt.int_tuple i1 t1 p2 (hu00 hu)
  | _, _, _, _, u, x, A, .str y1, .non, r1, r2, hu => by
    obtain ⟨t1, e1⟩ := (show ∃ t, u = Value.str y1 t from r1); subst e1
    cases (show x = Value.none from r2)
    exact EqAt.str_none y1 t1
  | _, _, _, _, u, x, A, .str y1, .bl b2, r1, r2, hu => by
    obtain ⟨t1, e1⟩ := (show ∃ t, u = Value.str y1 t from r1); subst e1
    cases (show x = Value.bool b2 from r2)
    exact EqAt.str_bool y1 t1 b2
  | _, _, _, _, u, x, A, .str y1, .int i2, r1, r2, hu => by
    obtain ⟨t1, e1⟩ := (show ∃ t, u = Value.str y1 t from r1); subst e1
    obtain ⟨t2, e2⟩ := (show ∃ t, x = Value.int i2 t from r2); subst e2
    exact EqAt.str_int y1 t1 i2 t2
  | _, _, _, _, u, x, A, .str y1, .str y2, r1, r2, hu => by
    obtain ⟨t1, e1⟩ := (show ∃ t, u = Value.str y1 t from r1); subst e1
    obtain ⟨t2, e2⟩ := (show ∃ t, x = Value.str y2 t from r2); subst e2
    exact EqAt.str_str y1 t1 y2 t2
  | _, _, _, _, u, x, A, .str y1, .lst h2 rs2, r1, r2, hu => by
    obtain ⟨t1, e1⟩ := (show ∃ t, u = Value.str y1 t from r1); subst e1
    cases (show x = Value.ref _ from r2); obtain ⟨its2, rv2, p2, _⟩ := I.list h2
    exact EqAt.str_list y1 t1 p2.isList (hu00 hu)
  | _, _, _, _, u, x, A, .str y1, .tup h2 rs2, r1, r2, hu => by
    obtain ⟨t1, e1⟩ := (show ∃ t, u = Value.str y1 t from r1); subst e1
    cases (show x = Value.ref _ from r2); obtain ⟨its2, rv2, p2, _⟩ := I.tuple h2
    exact EqAt.str_tuple y1 t1 p2 (hu00 hu)
  | _, _, _, _, u, x, A, .lst h1 rs1, .non, r1, r2, hu => by
    cases (show u = Value.ref _ from r1); obtain ⟨its1, rv1, p1, _⟩ := I.list h1
    cases (show x = Value.none from r2)
    exact EqAt.list_none p1.isList (hu00 hu)
  | _, _, _, _, u, x, A, .lst h1 rs1, .bl b2, r1, r2, hu => by
    cases (show u = Value.ref _ from r1); obtain ⟨its1, rv1, p1, _⟩ := I.list h1
    cases (show x = Value.bool b2 from r2)
    exact EqAt.list_bool b2 p1.isList (hu00 hu)
  | _, _, _, _, u, x, A, .lst h1 rs1, .int i2, r1, r2, hu => by
    cases (show u = Value.ref _ from r1); obtain ⟨its1, rv1, p1, _⟩ := I.list h1
    obtain ⟨t2, e2⟩ := (show ∃ t, x = Value.int i2 t from r2); subst e2
    exact EqAt.list_int i2 t2 p1.isList (hu00 hu)
  | _, _, _, _, u, x, A, .lst h1 rs1, .str y2, r1, r2, hu => by
    cases (show u = Value.ref _ from r1); obtain ⟨its1, rv1, p1, _⟩ := I.list h1
    obtain ⟨t2, e2⟩ := (show ∃ t, x = Value.str y2 t from r2); subst e2
    exact EqAt.list_str y2 t2 p1.isList (hu00 hu)
  | _, _, _, _, u, x, A, .lst h1 rs1, .lst h2 rs2, r1, r2, hu => by
    cases (show u = Value.ref _ from r1); obtain ⟨its1, rv1, p1, _⟩ := I.list h1
    cases (show x = Value.ref _ from r2); obtain ⟨its2, rv2, p2, _⟩ := I.list h2
    exact eqL I h1 h2 rs1 rs2 rv1 rv2 p1.isList p2.isList (hu0 hu) (eqs_at I rs1 rs2 rv1 rv2 (hu1 hu))
  | _, _, _, _, u, x, A, .lst h1 rs1, .tup h2 rs2, r1, r2, hu => by
    cases (show u = Value.ref _ from r1); obtain ⟨its1, rv1, p1, _⟩ := I.list h1
    cases (show x = Value.ref _ from r2); obtain ⟨its2, rv2, p2, _⟩ := I.tuple h2
    exact EqAt.list_tuple p1.isList p2 (hu00 hu)
  | _, _, _, _, u, x, A, .tup h1 rs1, .non, r1, r2, hu => by
    cases (show u = Value.ref _ from r1); obtain ⟨its1, rv1, p1, _⟩ := I.tuple h1
    cases (show x = Value.none from r2)
    exact EqAt.tuple_none p1 (hu00 hu)
  | _, _, _, _, u, x, A, .tup h1 rs1, .bl b2, r1, r2, hu => by
    cases (show u = Value.ref _ from r1); obtain ⟨its1, rv1, p1, _⟩ := I.tuple h1
    cases (show x = Value.bool b2 from r2)
    exact EqAt.tuple_bool b2 p1 (hu00 hu)
  | _, _, _, _, u, x, A, .tup h1 rs1, .int i2, r1, r2, hu => by
    cases (show u = Value.ref _ from r1); obtain ⟨its1, rv1, p1, _⟩ := I.tuple h1
    obtain ⟨t2, e2⟩ := (show ∃ t, x = Value.int i2 t from r2); subst e2
    exact EqAt.tuple_int i2 t2 p1 (hu00 hu)
  | _, _, _, _, u, x, A, .tup h1 rs1, .str y2, r1, r2, hu => by
    cases (show u = Value.ref _ from r1); obtain ⟨its1, rv1, p1, _⟩ := I.tuple h1
    obtain ⟨t2, e2⟩ := (show ∃ t, x = Value.str y2 t from r2); subst e2
    exact EqAt.tuple_str y2 t2 p1 (hu00 hu)
  | _, _, _, _, u, x, A, .tup h1 rs1, .lst h2 rs2, r1, r2, hu => by
    cases (show u = Value.ref _ from r1); obtain ⟨its1, rv1, p1, _⟩ := I.tuple h1
    cases (show x = Value.ref _ from r2); obtain ⟨its2, rv2, p2, _⟩ := I.list h2
    exact EqAt.tuple_list p1 p2.isList (hu00 hu)
  | _, _, _, _, u, x, A, .tup h1 rs1, .tup h2 rs2, r1, r2, hu => by
    cases (show u = Value.ref _ from r1); obtain ⟨its1, rv1, p1, _⟩ := I.tuple h1
    cases (show x = Value.ref _ from r2); obtain ⟨its2, rv2, p2, _⟩ := I.tuple h2
    exact eqT I h1 h2 rs1 rs2 rv1 rv2 p1 p2 (hu0 hu) (eqs_at I rs1 rs2 rv1 rv2 (hu1 hu))
theorem eqs_at (I : Inv X pins σ H s) : ∀ {vs ws : List V} {ds es : List PyData} {us xs : List Value} {A : Around}, Reps X.K H vs ds → Reps X.K H ws es → Vals vs us → Vals ws xs → A.units + pdDeps ds < cLine →
    ∀ j (h1 : j < us.length) (h2 : j < xs.length), EqAt A s us[j] xs[j] (pdEq (ds.getD j .none) (es.getD j .none))
  | _, _, _, _, _, _, _, .nil, _, .nil, _, _, j, h1, _ => absurd h1 (Nat.not_lt_zero _)
  | _, _, _, _, _, _, _, .cons _ _, .nil, .cons _ _, .nil, _, j, _, h2 => absurd h2 (Nat.not_lt_zero _)
  | _, _, _, _, _, _, _, .cons a b, .cons c d, .cons r rs, .cons t ts, hu, 0, _, _ => eq_at I a c r t (by simp only [pdDeps] at hu; simp only [List.getD_cons_zero]; omega)
  | _, _, _, _, _, _, _, .cons a b, .cons c d, .cons r rs, .cons t ts, hu, j + 1, h1, h2 => eqs_at I b d rs ts (by simp only [pdDeps] at hu; omega) j (by simpa using h1) (by simpa using h2)
end
theorem rc_at (I : Inv X pins σ H s) : ∀ {v w : V} {d e : PyData} {u x : Value} {A : Around}, Rep X.K H v d → Rep X.K H w e → RelV v u → RelV w x → A.units + pdDep d < cLine → RcAt A s u x (pdEq d e)
  | _, _, _, _, u, x, A, .non, .non, r1, r2, hu => by
    cases (show u = Value.none from r1)
    cases (show x = Value.none from r2)
    exact RcAt.none_none
  | _, _, _, _, u, x, A, .non, .bl b2, r1, r2, hu => by
    cases (show u = Value.none from r1)
    cases (show x = Value.bool b2 from r2)
    exact RcAt.none_bool b2
  | _, _, _, _, u, x, A, .non, .int i2, r1, r2, hu => by
    cases (show u = Value.none from r1)
    obtain ⟨t2, e2⟩ := (show ∃ t, x = Value.int i2 t from r2); subst e2
    exact RcAt.none_int i2 t2
  | _, _, _, _, u, x, A, .non, .str y2, r1, r2, hu => by
    cases (show u = Value.none from r1)
    obtain ⟨t2, e2⟩ := (show ∃ t, x = Value.str y2 t from r2); subst e2
    exact RcAt.none_str y2 t2
  | _, _, _, _, u, x, A, .non, .lst h2 rs2, r1, r2, hu => by
    cases (show u = Value.none from r1)
    cases (show x = Value.ref _ from r2); obtain ⟨its2, rv2, p2, _⟩ := I.list h2
    exact RcAt.none_list p2.isList (hu00 hu)
  | _, _, _, _, u, x, A, .non, .tup h2 rs2, r1, r2, hu => by
    cases (show u = Value.none from r1)
    cases (show x = Value.ref _ from r2); obtain ⟨its2, rv2, p2, _⟩ := I.tuple h2
    exact RcAt.none_tuple p2 (hu00 hu)
  | _, _, _, _, u, x, A, .bl b1, .non, r1, r2, hu => by
    cases (show u = Value.bool b1 from r1)
    cases (show x = Value.none from r2)
    exact RcAt.bool_none b1
  | _, _, _, _, u, x, A, .bl b1, .bl b2, r1, r2, hu => by
    cases (show u = Value.bool b1 from r1)
    cases (show x = Value.bool b2 from r2)
    exact RcAt.bool_bool b1 b2
  | _, _, _, _, u, x, A, .bl b1, .int i2, r1, r2, hu => by
    cases (show u = Value.bool b1 from r1)
    obtain ⟨t2, e2⟩ := (show ∃ t, x = Value.int i2 t from r2); subst e2
    exact RcAt.bool_int b1 i2 t2
  | _, _, _, _, u, x, A, .bl b1, .str y2, r1, r2, hu => by
    cases (show u = Value.bool b1 from r1)
    obtain ⟨t2, e2⟩ := (show ∃ t, x = Value.str y2 t from r2); subst e2
    exact RcAt.bool_str b1 y2 t2
  | _, _, _, _, u, x, A, .bl b1, .lst h2 rs2, r1, r2, hu => by
    cases (show u = Value.bool b1 from r1)
    cases (show x = Value.ref _ from r2); obtain ⟨its2, rv2, p2, _⟩ := I.list h2
    exact RcAt.bool_list b1 p2.isList (hu00 hu)
  | _, _, _, _, u, x, A, .bl b1, .tup h2 rs2, r1, r2, hu => by
    cases (show u = Value.bool b1 from r1)
    cases (show x = Value.ref _ from r2); obtain ⟨its2, rv2, p2, _⟩ := I.tuple h2
    exact RcAt.bool_tuple b1 p2 (hu00 hu)
  | _, _, _, _, u, x, A, .int i1, .non, r1, r2, hu => by
    obtain ⟨t1, e1⟩ := (show ∃ t, u = Value.int i1 t from r1); subst e1
    cases (show x = Value.none from r2)
    exact RcAt.int_none i1 t1
  | _, _, _, _, u, x, A, .int i1, .bl b2, r1, r2, hu => by
    obtain ⟨t1, e1⟩ := (show ∃ t, u = Value.int i1 t from r1); subst e1
    cases (show x = Value.bool b2 from r2)
    exact RcAt.int_bool i1 t1 b2
  | _, _, _, _, u, x, A, .int i1, .int i2, r1, r2, hu => by
    obtain ⟨t1, e1⟩ := (show ∃ t, u = Value.int i1 t from r1); subst e1
    obtain ⟨t2, e2⟩ := (show ∃ t, x = Value.int i2 t from r2); subst e2
    exact RcAt.int_int i1 t1 i2 t2
  | _, _, _, _, u, x, A, .int i1, .str y2, r1, r2, hu => by
    obtain ⟨t1, e1⟩ := (show ∃ t, u = Value.int i1 t from r1); subst e1
    obtain ⟨t2, e2⟩ := (show ∃ t, x = Value.str y2 t from r2); subst e2
    exact RcAt.int_str i1 t1 y2 t2
  | _, _, _, _, u, x, A, .int i1, .lst h2 rs2, r1, r2, hu => by
    obtain ⟨t1, e1⟩ := (show ∃ t, u = Value.int i1 t from r1); subst e1
    cases (show x = Value.ref _ from r2); obtain ⟨its2, rv2, p2, _⟩ := I.list h2
    exact RcAt.int_list i1 t1 p2.isList (hu00 hu)
  | _, _, _, _, u, x, A, .int i1, .tup h2 rs2, r1, r2, hu => by
    obtain ⟨t1, e1⟩ := (show ∃ t, u = Value.int i1 t from r1); subst e1
    cases (show x = Value.ref _ from r2); obtain ⟨its2, rv2, p2, _⟩ := I.tuple h2
    exact RcAt.int_tuple i1 t1 p2 (hu00 hu)
  | _, _, _, _, u, x, A, .str y1, .non, r1, r2, hu => by
    obtain ⟨t1, e1⟩ := (show ∃ t, u = Value.str y1 t from r1); subst e1
    cases (show x = Value.none from r2)
    exact RcAt.str_none y1 t1
  | _, _, _, _, u, x, A, .str y1, .bl b2, r1, r2, hu => by
    obtain ⟨t1, e1⟩ := (show ∃ t, u = Value.str y1 t from r1); subst e1
    cases (show x = Value.bool b2 from r2)
    exact RcAt.str_bool y1 t1 b2
  | _, _, _, _, u, x, A, .str y1, .int i2, r1, r2, hu => by
    obtain ⟨t1, e1⟩ := (show ∃ t, u = Value.str y1 t from r1); subst e1
    obtain ⟨t2, e2⟩ := (show ∃ t, x = Value.int i2 t from r2); subst e2
    exact RcAt.str_int y1 t1 i2 t2
  | _, _, _, _, u, x, A, .str y1, .str y2, r1, r2, hu => by
    obtain ⟨t1, e1⟩ := (show ∃ t, u = Value.str y1 t from r1); subst e1
    obtain ⟨t2, e2⟩ := (show ∃ t, x = Value.str y2 t from r2); subst e2
    exact RcAt.str_str y1 t1 y2 t2
  | _, _, _, _, u, x, A, .str y1, .lst h2 rs2, r1, r2, hu => by
    obtain ⟨t1, e1⟩ := (show ∃ t, u = Value.str y1 t from r1); subst e1
    cases (show x = Value.ref _ from r2); obtain ⟨its2, rv2, p2, _⟩ := I.list h2
    exact RcAt.str_list y1 t1 p2.isList (hu00 hu)
  | _, _, _, _, u, x, A, .str y1, .tup h2 rs2, r1, r2, hu => by
    obtain ⟨t1, e1⟩ := (show ∃ t, u = Value.str y1 t from r1); subst e1
    cases (show x = Value.ref _ from r2); obtain ⟨its2, rv2, p2, _⟩ := I.tuple h2
    exact RcAt.str_tuple y1 t1 p2 (hu00 hu)
  | _, _, _, _, u, x, A, .lst h1 rs1, .non, r1, r2, hu => by
    cases (show u = Value.ref _ from r1); obtain ⟨its1, rv1, p1, _⟩ := I.list h1
    cases (show x = Value.none from r2)
    exact RcAt.list_none p1.isList (hu00 hu)
  | _, _, _, _, u, x, A, .lst h1 rs1, .bl b2, r1, r2, hu => by
    cases (show u = Value.ref _ from r1); obtain ⟨its1, rv1, p1, _⟩ := I.list h1
    cases (show x = Value.bool b2 from r2)
    exact RcAt.list_bool b2 p1.isList (hu00 hu)
  | _, _, _, _, u, x, A, .lst h1 rs1, .int i2, r1, r2, hu => by
    cases (show u = Value.ref _ from r1); obtain ⟨its1, rv1, p1, _⟩ := I.list h1
    obtain ⟨t2, e2⟩ := (show ∃ t, x = Value.int i2 t from r2); subst e2
    exact RcAt.list_int i2 t2 p1.isList (hu00 hu)
  | _, _, _, _, u, x, A, .lst h1 rs1, .str y2, r1, r2, hu => by
    cases (show u = Value.ref _ from r1); obtain ⟨its1, rv1, p1, _⟩ := I.list h1
    obtain ⟨t2, e2⟩ := (show ∃ t, x = Value.str y2 t from r2); subst e2
    exact RcAt.list_str y2 t2 p1.isList (hu00 hu)
  | _, _, _, _, u, x, A, .lst h1 rs1, .lst h2 rs2, r1, r2, hu => by
    cases (show u = Value.ref _ from r1); obtain ⟨its1, rv1, p1, _⟩ := I.list h1
    cases (show x = Value.ref _ from r2); obtain ⟨its2, rv2, p2, _⟩ := I.list h2
    exact rcL rs1 rs2 rv1 rv2 p1.isList p2.isList (hu0 hu) (eqs_at I rs1 rs2 rv1 rv2 (hu1 hu))
  | _, _, _, _, u, x, A, .lst h1 rs1, .tup h2 rs2, r1, r2, hu => by
    cases (show u = Value.ref _ from r1); obtain ⟨its1, rv1, p1, _⟩ := I.list h1
    cases (show x = Value.ref _ from r2); obtain ⟨its2, rv2, p2, _⟩ := I.tuple h2
    exact RcAt.list_tuple p1.isList p2 (hu00 hu)
  | _, _, _, _, u, x, A, .tup h1 rs1, .non, r1, r2, hu => by
    cases (show u = Value.ref _ from r1); obtain ⟨its1, rv1, p1, _⟩ := I.tuple h1
    cases (show x = Value.none from r2)
    exact RcAt.tuple_none p1 (hu00 hu)
  | _, _, _, _, u, x, A, .tup h1 rs1, .bl b2, r1, r2, hu => by
    cases (show u = Value.ref _ from r1); obtain ⟨its1, rv1, p1, _⟩ := I.tuple h1
    cases (show x = Value.bool b2 from r2)
    exact RcAt.tuple_bool b2 p1 (hu00 hu)
  | _, _, _, _, u, x, A, .tup h1 rs1, .int i2, r1, r2, hu => by
    cases (show u = Value.ref _ from r1); obtain ⟨its1, rv1, p1, _⟩ := I.tuple h1
    obtain ⟨t2, e2⟩ := (show ∃ t, x = Value.int i2 t from r2); subst e2
    exact RcAt.tuple_int i2 t2 p1 (hu00 hu)
  | _, _, _, _, u, x, A, .tup h1 rs1, .str y2, r1, r2, hu => by
    cases (show u = Value.ref _ from r1); obtain ⟨its1, rv1, p1, _⟩ := I.tuple h1
    obtain ⟨t2, e2⟩ := (show ∃ t, x = Value.str y2 t from r2); subst e2
    exact RcAt.tuple_str y2 t2 p1 (hu00 hu)
  | _, _, _, _, u, x, A, .tup h1 rs1, .lst h2 rs2, r1, r2, hu => by
    cases (show u = Value.ref _ from r1); obtain ⟨its1, rv1, p1, _⟩ := I.tuple h1
    cases (show x = Value.ref _ from r2); obtain ⟨its2, rv2, p2, _⟩ := I.list h2
    exact RcAt.tuple_list p1 p2.isList (hu00 hu)
  | _, _, _, _, u, x, A, .tup h1 rs1, .tup h2 rs2, r1, r2, hu => by
    cases (show u = Value.ref _ from r1); obtain ⟨its1, rv1, p1, _⟩ := I.tuple h1
    cases (show x = Value.ref _ from r2); obtain ⟨its2, rv2, p2, _⟩ := I.tuple h2
    exact rcT rs1 rs2 rv1 rv2 p1 p2 (hu0 hu) (eqs_at I rs1 rs2 rv1 rv2 (hu1 hu))
end
end L2

set_option Elab.async false
set_option linter.all false
set_option maxRecDepth 100000
set_option maxHeartbeats 4000000
namespace L2
open PySem PySem.Spec PyProof.Rows PySem.SeqAt
section
variable {X : Cx}
/-! ### == and != of data -/
def rEqD (K : PySem.W.Frag) : R2 := fun x y H Q => ∃ d e, Rep K H x d ∧ Rep K H y e ∧ pdDep d ≤ 60 ∧ Q (.bl (pdEq d e)) H
theorem op_eqD (hu : X.A.units + 64 < cLine) : OpR X (compareOp .Eq) (rEqD X.K) := by
  intro pins s σ H x y v u Q I rx ry h
  obtain ⟨d, e, h1, h2, hd, q⟩ := h
  exact rc_at I h1 h2 rx ry (by omega) _ _ _ _ ⟨.bl _, H, I, rfl, q⟩
def rNeT (K : PySem.W.Frag) : R2 := fun x y H Q => ∃ d e, Rep K H x (.tuple d) ∧ Rep K H y (.tuple e) ∧ pdDeps d ≤ 60 ∧ Q (.bl (!pdEqs d e)) H
theorem op_neT (hu : X.A.units + 64 < cLine) : OpR X (compareOp .NotEq) (rNeT X.K) := by
  intro pins s σ H x y v u Q I rx ry h
  obtain ⟨d, e, h1, h2, hd, q⟩ := h
  cases h1 with
  | tup g1 rs1 =>
    cases h2 with
    | tup g2 rs2 =>
      cases (show v = Value.ref _ from rx)
      cases (show u = Value.ref _ from ry)
      obtain ⟨its1, rv1, p1, _⟩ := I.tuple g1
      obtain ⟨its2, rv2, p2, _⟩ := I.tuple g2
      have hz := allEq (X := X) (H := H) (A := X.A) rs1 rs2 rv1 rv2
      have hw := RcNeAt.tuples (A := X.A) (show s.heap.IsTuple _ its1.toArray from p1) (show s.heap.IsTuple _ its2.toArray from p2) (by omega)
        (e := fun j => pdEq (d.getD j .none) (e.getD j .none)) (fun j h1 h2 => by simpa using eqs_at I rs1 rs2 rv1 rv2 (A := X.A.in1) (by show X.A.units + 1 + _ < _; omega) j (by simpa using h1) (by simpa using h2))
      rw [hz] at hw
      exact hw _ _ _ _ ⟨.bl _, H, I, rfl, q⟩
theorem pdDep_le {e : PyData} : ∀ {es : List PyData}, e ∈ es → pdDep e ≤ pdDeps es
  | _ :: _, .head _ => by simp only [pdDeps]; omega
  | _ :: r, .tail _ h => by have := pdDep_le h; simp only [pdDeps]; omega
/-! ### isinstance -/
def tyD : PyData → String
  | .none => "NoneType"
  | .bool _ => "bool"
  | .int _ => "int"
  | .str _ => "str"
  | .list _ => "list"
  | .tuple _ => "tuple"
  | .dict _ => "dict"
theorem isD {pins : List (Addr × Obj)} {σ : St} {H : Hp} {s : Shared} {A : Around} {E : Value → Shared → Prop} {Q : Value → Shared → Prop} {v : V} {d : PyData} {u c : Value} {b : Bool} (I : Inv X pins σ H s) (r : Rep X.K H v d) (rv : RelV v u)
    (e : PySem.W.kitOne X.K (.type (tyD d)) c = some b) (h : ∀ tk, Q (.bool b) { s with toks := tk }) : wpAny (model X.prog X.w) A (call (.builtin "isinstance") [u, c]) Q E s := by
  cases r with
  | non => cases (show u = Value.none from rv); exact PySem.W.kia_one PySem.W.kitx_none I.kIn True.intro e (fun z => nomatch z) h
  | bl y => cases (show u = Value.bool y from rv); exact PySem.W.kia_one PySem.W.kitx_bool I.kIn True.intro e (fun z => nomatch z) h
  | int i => obtain ⟨t, q⟩ := (show ∃ t, u = Value.int i t from rv); cases q; exact PySem.W.kia_one PySem.W.kitx_int I.kIn True.intro e (fun z => nomatch z) h
  | str y => obtain ⟨t, q⟩ := (show ∃ t, u = Value.str y t from rv); cases q; exact PySem.W.kia_one PySem.W.kitx_str I.kIn True.intro e (fun z => nomatch z) h
  | tup g _ =>
    cases (show u = Value.ref _ from rv)
    obtain ⟨_, _, ⟨o, h1, h2, _⟩, _⟩ := I.tuple g
    exact PySem.W.kia_one PySem.W.kitx_tuple I.kIn ⟨o, h1, h2⟩ e (fun z => nomatch z) h
  | lst g _ =>
    cases (show u = Value.ref _ from rv)
    obtain ⟨_, _, ⟨o, n, h1, h2, _⟩, _⟩ := I.list g
    exact PySem.W.kia_one PySem.W.kitx_list I.kIn ⟨o, h1, h2⟩ e (fun z => nomatch z) h
theorem isD2 {pins : List (Addr × Obj)} {σ : St} {H : Hp} {s : Shared} {A : Around} {E : Value → Shared → Prop} {Q : Value → Shared → Prop} {v : V} {d : PyData} {u : Value} {tp : Addr} {dd : Option Addr} {its : List Value} {n : Nat} {sl : Array (Option Value)} {b : Bool} (I : Inv X pins σ H s) (r : Rep X.K H v d) (rv : RelV v u)
    (htp : s.heap.get? tp = some ⟨.type "tuple", dd, .seq its.toArray n, sl⟩) (e : PySem.W.kitAny X.K (.type (tyD d)) its = some b) (h : ∀ tk, Q (.bool b) { s with toks := tk }) : wpAny (model X.prog X.w) A (call (.builtin "isinstance") [u, .ref tp]) Q E s := by
  cases r with
  | non => cases (show u = Value.none from rv); exact PySem.W.kia_tup PySem.W.kitx_none I.kIn True.intro htp e (fun z => nomatch z) h
  | bl y => cases (show u = Value.bool y from rv); exact PySem.W.kia_tup PySem.W.kitx_bool I.kIn True.intro htp e (fun z => nomatch z) h
  | int i => obtain ⟨t, q⟩ := (show ∃ t, u = Value.int i t from rv); cases q; exact PySem.W.kia_tup PySem.W.kitx_int I.kIn True.intro htp e (fun z => nomatch z) h
  | str y => obtain ⟨t, q⟩ := (show ∃ t, u = Value.str y t from rv); cases q; exact PySem.W.kia_tup PySem.W.kitx_str I.kIn True.intro htp e (fun z => nomatch z) h
  | tup g _ =>
    cases (show u = Value.ref _ from rv)
    obtain ⟨_, _, ⟨o, h1, h2, _⟩, _⟩ := I.tuple g
    exact PySem.W.kia_tup PySem.W.kitx_tuple I.kIn ⟨o, h1, h2⟩ htp e (fun z => nomatch z) h
  | lst g _ =>
    cases (show u = Value.ref _ from rv)
    obtain ⟨_, _, ⟨o, n, h1, h2, _⟩, _⟩ := I.list g
    exact PySem.W.kia_tup PySem.W.kitx_list I.kIn ⟨o, h1, h2⟩ htp e (fun z => nomatch z) h
/-- isinstance(x, T), T a built-in type -/
def rIsT (K : PySem.W.Frag) : List V → Hp → VK → Prop := fun xs H Q => ∃ x n d b, xs = [x, .ty n] ∧ Rep K H x d ∧ PySem.W.kitOne K (.type (tyD d)) (.type n) = some b ∧ Q (.bl b) H
theorem call_isT : CallR X (.builtin "isinstance") (rIsT X.K) := by
  intro pins s σ H xs us Q I r h
  obtain ⟨x, n, d, b, rfl, hr, e, q⟩ := h
  cases r with
  | cons r1 r =>
    cases r with
    | cons r2 r =>
      cases r
      cases (show _ = Value.type n from r2)
      exact isD I hr r1 e fun tk => ⟨.bl b, H, I.tok tk, rfl, q⟩
/-- isinstance(x, (T, U)) -/
def rIsT2 (K : PySem.W.Frag) : List V → Hp → VK → Prop := fun xs H Q => ∃ x a n m d b, xs = [x, .ref a] ∧ H a = some (.tup [.ty n, .ty m]) ∧ Rep K H x d ∧ PySem.W.kitAny K (.type (tyD d)) [.type n, .type m] = some b ∧ Q (.bl b) H
theorem call_isT2 : CallR X (.builtin "isinstance") (rIsT2 X.K) := by
  intro pins s σ H xs us Q I r h
  obtain ⟨x, a, n, m, d, b, rfl, ha, hr, e, q⟩ := h
  cases r with
  | cons r1 r =>
    cases r with
    | cons r2 r =>
      cases r
      cases (show _ = Value.ref a from r2)
      obtain ⟨z, its, rv, o, h1, h2, k, h3⟩ := (show ObjOk X.prog X.w H s.heap a (.tup [.ty n, .ty m]) from I.hok a _ ha)
      obtain ⟨cls, dd, data, sl⟩ := o
      simp only at h2 h3
      subst h2 h3
      cases rv with
      | cons g1 rv =>
        cases rv with
        | cons g2 rv =>
          cases rv
          cases (show _ = Value.type n from g1)
          cases (show _ = Value.type m from g2)
          exact isD2 I hr r1 h1 e fun tk => ⟨.bl b, H, I.tok tk, rfl, q⟩
/-! ### all, any of a list of bools -/
theorem bools_of {xs : List V} {us : List Value} : ∀ {bs : List Bool}, xs = bs.map V.bl → Vals xs us → us = bs.map Value.bool := by
  intro bs e r
  induction bs generalizing xs us with
  | nil => subst e; cases r; rfl
  | cons b t ih =>
    subst e
    cases r with
    | cons r1 r => rw [List.map_cons, ih rfl r, (show _ = Value.bool b from r1)]
theorem range_all (bs : List Bool) : (List.range bs.length).all (fun i => bs.getD i false) = bs.all id := by
  induction bs with
  | nil => rfl
  | cons b t ih => rw [List.length_cons, List.range_succ_eq_map, List.all_cons, List.all_map, List.all_cons, ← ih]; rfl
theorem range_any (bs : List Bool) : (List.range bs.length).any (fun i => bs.getD i false) = bs.any id := by
  induction bs with
  | nil => rfl
  | cons b t ih => rw [List.length_cons, List.range_succ_eq_map, List.any_cons, List.any_map, List.any_cons, ← ih]; rfl
theorem truth_bools {P : Program} {w : World} {A : Around} {bs : List Bool} : TruthOf P w A (fun i v => ((bs.map Value.bool).toArray)[i]? = some v) fun i => bs.getD i false := fun i v s Q E hP hQ => by
  dsimp only at hP hQ
  rw [List.getElem?_toArray, List.getElem?_map] at hP
  cases e : bs[i]? with
  | none => rw [e] at hP; cases hP
  | some b =>
    rw [e] at hP
    cases hP
    rw [List.getD_eq_getElem?_getD, e] at hQ
    exact wpAny_pure hQ
def rAllB (K : PySem.W.Frag) (f : List Bool → Bool) : List V → Hp → VK → Prop := fun xs H Q => ∃ a bs, xs = [.ref a] ∧ SqL K H a (bs.map V.bl) ∧ Q (.bl (f bs)) H
theorem call_allB (hh : X.calm = true) : CallR X (.builtin "all") (rAllB X.K fun bs => bs.all id) := by
  intro pins s σ H xs us Q I r h
  obtain ⟨a, bs, rfl, hq, q⟩ := h
  cases r with
  | cons r1 r =>
    cases r
    cases (show _ = Value.ref a from r1)
    obtain ⟨its, rv, p, hz⟩ := I.list hq
    have e := bools_of rfl rv
    subst e
    refine PySem.call_all_walk (wpAny_pyIter_list p.isList ?_)
    have hne : a ≠ s.heap.objs.size := (by obtain ⟨o, ho, _⟩ := p.isList; exact Nat.ne_of_lt (Heap.lt_size ho))
    refine ⟨s.heap.objs.size, _, _, _, _, _, _, rfl, Walks.list (A := X.A.in1) (I.ok.hd hh) s.heap.objs.size a hne (bs.map Value.bool).toArray, ⟨⟨_, Heap.get?_push_size _ rfl, rfl, rfl⟩, ?_⟩, truth_bools, fun h' tk hk => ?_⟩
    · obtain ⟨o, ho, hc, n, hd⟩ := p.isList
      exact ⟨o, Heap.get?_push_of_some _ ho, hc, n, hd⟩
    · rw [List.size_toArray, List.length_map, range_all]
      exact ⟨.bl _, H, I.kept fun b o e => hk b o (by simp; exact Nat.ne_of_lt (Heap.lt_size e)) (Heap.get?_push_of_some _ e), rfl, q⟩
theorem call_anyB (hh : X.calm = true) : CallR X (.builtin "any") (rAllB X.K fun bs => bs.any id) := by
  intro pins s σ H xs us Q I r h
  obtain ⟨a, bs, rfl, hq, q⟩ := h
  cases r with
  | cons r1 r =>
    cases r
    cases (show _ = Value.ref a from r1)
    obtain ⟨its, rv, p, hz⟩ := I.list hq
    have e := bools_of rfl rv
    subst e
    refine PySem.call_any_walk (wpAny_pyIter_list p.isList ?_)
    have hne : a ≠ s.heap.objs.size := (by obtain ⟨o, ho, _⟩ := p.isList; exact Nat.ne_of_lt (Heap.lt_size ho))
    refine ⟨s.heap.objs.size, _, _, _, _, _, _, rfl, Walks.list (A := X.A.in1) (I.ok.hd hh) s.heap.objs.size a hne (bs.map Value.bool).toArray, ⟨⟨_, Heap.get?_push_size _ rfl, rfl, rfl⟩, ?_⟩, truth_bools, fun h' tk hk => ?_⟩
    · obtain ⟨o, ho, hc, n, hd⟩ := p.isList
      exact ⟨o, Heap.get?_push_of_some _ ho, hc, n, hd⟩
    · rw [List.size_toArray, List.length_map, range_any]
      exact ⟨.bl _, H, I.kept fun b o e => hk b o (by simp; exact Nat.ne_of_lt (Heap.lt_size e)) (Heap.get?_push_of_some _ e), rfl, q⟩
/-! ### texts -/
theorem strs_of {us : List Value} : ∀ {ys : List Str}, Vals (ys.map V.str) us → StrsAre us ys := by
  intro ys
  induction ys generalizing us with
  | nil => intro r; cases r; exact .nil
  | cons y t ih =>
    intro r
    cases r with
    | cons r1 r =>
      obtain ⟨tk, e⟩ := (show ∃ t, _ = Value.str y t from r1)
      subst e
      exact .cons _ _ (ih r)
def rJoin (K : PySem.W.Frag) : V → List V → Hp → VK → Prop := fun x vs H Q => ∃ z a ys, x = .str z ∧ vs = [.ref a] ∧ SqL K H a (ys.map V.str) ∧ (ys.map (·.length)).sum + ys.length * z.length ≤ 16777216 ∧ Q (.str (Txt.join z ys)) H
theorem mt_join : MtR X "str.join" (rJoin X.K) := by
  intro pins s σ H x vs v us Q I rx rv h
  obtain ⟨z, a, ys, rfl, rfl, hq, hl, q⟩ := h
  obtain ⟨t, e⟩ := (show ∃ t, v = Value.str z t from rx)
  subst e
  cases rv with
  | cons r1 r =>
    cases r
    cases (show _ = Value.ref a from r1)
    obtain ⟨its, rs, p, hz⟩ := I.list hq
    exact join_list p.isList (by simpa using strs_of rs) hl fun t' k => ⟨.str _, H, I.tok k, ⟨t', rfl⟩, q⟩
def rS0 (f : Str → Bool) : V → List V → Hp → VK → Prop := fun x vs H Q => ∃ z, x = .str z ∧ vs = [] ∧ Q (.bl (f z)) H
theorem mt_isascii : MtR X "str.isascii" (rS0 fun x => x.cps.all (· < 128)) := by
  intro pins s σ H x vs v us Q I rx rv h
  obtain ⟨z, rfl, rfl, q⟩ := h
  obtain ⟨t, e⟩ := (show ∃ t, v = Value.str z t from rx)
  subst e
  cases rv
  exact call_gives PySem.F.slot_str_isascii (typeIs_str _ _ _) PySem.F.entry_str_isascii (PySem.F.args_str_isascii_1 _) (gives_str_isascii z t) ⟨.bl _, H, I, rfl, q⟩
theorem mt_isalpha : MtR X "str.isalpha" (rS0 fun x => x.length > 0 && x.cps.all Unicode.isAlpha) := by
  intro pins s σ H x vs v us Q I rx rv h
  obtain ⟨z, rfl, rfl, q⟩ := h
  obtain ⟨t, e⟩ := (show ∃ t, v = Value.str z t from rx)
  subst e
  cases rv
  exact call_gives PySem.F.slot_str_isalpha (typeIs_str _ _ _) PySem.F.entry_str_isalpha (PySem.F.args_str_isalpha_1 _) (gives_str_isalpha z t) ⟨.bl _, H, I, rfl, q⟩
theorem mt_islower : MtR X "str.islower" (rS0 fun x => x.cps.any Unicode.isLower && !x.cps.any fun c => Unicode.isUpper c || Unicode.isTitle c) := by
  intro pins s σ H x vs v us Q I rx rv h
  obtain ⟨z, rfl, rfl, q⟩ := h
  obtain ⟨t, e⟩ := (show ∃ t, v = Value.str z t from rx)
  subst e
  cases rv
  exact call_gives PySem.F.slot_str_islower (typeIs_str _ _ _) PySem.F.entry_str_islower (PySem.F.args_str_islower_1 _) (gives_str_islower z t) ⟨.bl _, H, I, rfl, q⟩
end
/-- how a comprehension's scope lies over a def's: to be decided -/
structure CompS (osc : Scope) (N : List Str) (scope : Scope) (own : List Str) (js : List Nat) (N' : List Str) : Prop where
  kind : scope.kind = .function
  nocell : ∀ y ∈ scope.names, y.2 ≠ .cell
  names : ∀ y ∈ scope.names, y.2 = .local → scope.names.lookup y.1 = some .local
  free : ∀ y ∈ scope.names, y.2 = .free → osc.names.lookup y.1 = some .cell ∨ osc.names.lookup y.1 = some .free
  nm : N' = own ++ js.map fun j => N.getD j Str.empty
  fr : ∀ j ∈ js, j < N.length ∧ (N.getD j Str.empty, NameKind.free) ∈ scope.names ∧ ∀ y ∈ scope.names, y.1 = N.getD j Str.empty → y.2 = .free
theorem CompScope.of {X : Cx} {osc scope : Scope} {N own N' : List Str} {js : List Nat} (h1 : X.env.scope = osc) (h2 : X.N = N) (h : CompS osc N scope own js N') : CompScope X scope own js N' := by
  subst h1 h2
  exact ⟨h.kind, h.nocell, h.names, h.free, h.nm, fun j hj => ⟨(h.fr j hj).1, (h.fr j hj).2.1, fun k hk => (h.fr j hj).2.2 _ hk rfl⟩⟩
mutual
def pdMax : PyData → Nat
  | .tuple xs => max xs.length (pdMaxs xs)
  | .list xs => max xs.length (pdMaxs xs)
  | _ => 0
def pdMaxs : List PyData → Nat
  | [] => 0
  | d :: r => max (pdMax d) (pdMaxs r)
end
theorem pdMax_le {e : PyData} : ∀ {es : List PyData}, e ∈ es → pdMax e ≤ pdMaxs es
  | _ :: _, .head _ => by simp only [pdMaxs]; omega
  | _ :: r, .tail _ h => by have := pdMax_le h; simp only [pdMaxs]; omega
theorem pe_ty {X : Cx} {x : Str} {n : String} {pos : Pos} (hg : Gl X x) (hm : X.mg x = none) (hv : bootBuiltins x = some (.type n)) (hn : x ≠ "__name__" := by decide) (hd : (x == ("__debug__" : Str)) = false := by decide) : PE X (.Name x pos) (tC (.ty n)) := pe_bltn (v := .ty n) hg hm hv rfl hn hd
theorem ifT {c : Bool} {A B : Prop} (h : c = true) (q : A) : if c = true then A else B := by rw [if_pos h]; exact q
theorem ifF {c : Bool} {A B : Prop} (h : c = false) (q : B) : if c = true then A else B := by rw [if_neg (by rw [h]; exact Bool.false_ne_true)]; exact q
section
variable {X : Cx} {a b c d : Expr} {ta tb tc td : TE} {pos : Pos}
/-- a op b op' c op'' d, as a test -/
def tChain3 (r r' r'' : R2) (ta tb tc td : TE) : TE := fun σ H Q => ta σ H fun x H1 => tb σ H1 fun y H2 => r x y H2 fun z H3 => ∃ k, z = .bl k ∧
  (if k = true then tc σ H3 fun w' H4 => r' y w' H4 fun z' H5 => ∃ k', z' = .bl k' ∧ (if k' = true then td σ H5 fun v' H6 => r'' w' v' H6 Q else Q (.bl false) H5) else Q (.bl false) H3)
theorem pt_chain3 {op op' op'' : CmpOp} {r r' r'' : R2} (ho : OpR X (compareOp op) r) (ho' : OpR X (compareOp op') r') (ho'' : OpR X (compareOp op'') r'') (ha : PE X a ta) (hb : PE X b tb) (hc : PE X c tc) (hd : PE X d td)
    (hm : lastMarks [op, op', op''] [b, c, d] = false := by with_unfolding_all rfl) : PT X (.Compare a [op, op', op''] [b, c, d] pos) (tTest (tChain3 r r' r'' ta tb tc td)) := by
  intro pins s σ H Q I h
  refine isTrue_chain (thn (ha pins s σ H _ I h) fun v s1 ⟨x, H1, I1, r1, q1⟩ => test_link (thn (hb pins s1 σ H1 _ I1 q1) fun u s2 ⟨y, H2, I2, r2, q2⟩ =>
    thn (ho pins s2 σ H2 x y v u _ I2 r1 r2 q2) fun d' s3 ⟨z, H3, I3, r3, k, e, q3⟩ => ?_)) hm
  subst e
  cases r3
  refine wpAny_truthy_bool ?_
  cases k with
  | false =>
    obtain ⟨k', e', q'⟩ := q3
    cases e'
    exact ite_ff ⟨H3, I3, q'⟩
  | true =>
    refine ite_tt (test_link (thn (hc pins s3 σ H3 _ I3 q3) fun w' s4 ⟨z', H4, I4, r4, q4⟩ => thn (ho' pins s4 σ H4 y z' u w' _ I4 r2 r4 q4) fun d'' s5 ⟨z2, H5, I5, r5, k2, e2, q5⟩ => ?_))
    subst e2
    cases r5
    refine wpAny_truthy_bool ?_
    cases k2 with
    | false =>
      obtain ⟨k', e', q'⟩ := q5
      cases e'
      exact ite_ff ⟨H5, I5, q'⟩
    | true =>
      refine ite_tt (test_last (thn (hd pins s5 σ H5 _ I5 q5) fun w2 s6 ⟨z3, H6, I6, r6, q6⟩ => thn (ho'' pins s6 σ H6 z' z3 w' w2 _ I6 r4 r6 q6) fun d3 s7 ⟨z4, H7, I7, r7, k3, e3, q7⟩ => ?_))
      subst e3
      cases r7
      exact wpAny_truthy_bool ⟨H7, I7, q7⟩
end
end L2

set_option Elab.async false
set_option linter.all false
set_option maxRecDepth 100000
set_option maxHeartbeats 4000000
namespace L2
open PySem PySem.Spec PyProof.Rows PySem.SeqAt
/-! ### f-strings -/
abbrev TF := Str → St → Hp → VK → Prop
def PF (X : Cx) (es : List Expr) (t : TF) : Prop :=
  ∀ (out : Str) (pins : List (Addr × Obj)) (s : Shared) (σ : St) (H : Hp) (Q : VK), Inv X pins σ H s → t out σ H Q → wpAny (model X.prog X.w) X.A (joinParts out (evalEach es X.env)) (EP X pins σ Q) X.xe s
/-- what a field shows: a text itself, an int's figures -/
def FmtV (x : V) (y : Str) : Prop := (x = .str y ∧ y.length ≤ sizeLine) ∨ ∃ i : Int, x = .int i ∧ i.natAbs.log2 < 1920 ∧ y = Str.ofString (toString i)
section
variable {X : Cx} {es : List Expr} {t : TF} {e : Expr} {te : TE} {pos : Pos}
theorem pf_nil : PF X [] (fun out _ H Q => out.length ≤ sizeLine ∧ Q (.str out) H) := fun out pins s σ H Q I h => joinParts_nil ⟨.str out, H, I.tok _, ⟨_, rfl⟩, h.2⟩ h.1
theorem pf_txt {x : Str} {j : Nat} (hr : PF X es t) (hs : evalEach (.Constant (.str x) j pos :: es) X.env = eval (.Constant (.str x) j pos) X.env :: evalEach es X.env := by rfl) :
    PF X (.Constant (.str x) j pos :: es) (fun out σ H Q => (out ++ x).length ≤ sizeLine ∧ t (out ++ x) σ H Q) := by
  intro out pins s σ H Q I h
  rw [hs]
  exact joinParts_cons (Calls.Constant_str ⟨h.1, hr (out ++ x) pins _ σ H Q (I.tok _) h.2⟩)
theorem pf_val (he : PE X e te) (hr : PF X es t) (hs : evalEach (.FormattedValue e (-1) none pos :: es) X.env = eval (.FormattedValue e (-1) none pos) X.env :: evalEach es X.env := by rfl) :
    PF X (.FormattedValue e (-1) none pos :: es) (fun out σ H Q => te σ H fun x H1 => ∃ y, FmtV x y ∧ (out ++ y).length ≤ sizeLine ∧ t (out ++ y) σ H1 Q) := by
  intro out pins s σ H Q I h
  rw [hs]
  refine joinParts_cons (FormattedValue_plain (thn (he pins s σ H _ I h) fun v s1 ⟨x, H1, I1, r1, y, fm, hl, q⟩ => ?_))
  rcases fm with ⟨rfl, hy⟩ | ⟨i, rfl, hi, rfl⟩
  · obtain ⟨tk, rfl⟩ := r1
    exact formatField_str (fun t' tk => ⟨hl, hr _ pins _ σ H1 Q (I1.tok tk) q⟩) hy
  · obtain ⟨tk, rfl⟩ := r1
    exact formatField_int_small hi ⟨hl, hr _ pins _ σ H1 Q (I1.tok _) q⟩
def tFstr (t : TF) : TE := fun σ H Q => t Str.empty σ H Q
theorem pe_fstr {e1 e2 : Expr} (h : PF X (e1 :: e2 :: es) t) (hs : evalEach (e1 :: e2 :: es) X.env = eval e1 X.env :: eval e2 X.env :: evalEach es X.env := by rfl) : PE X (.JoinedStr (e1 :: e2 :: es) pos) (tFstr t) := by
  intro pins s σ H Q I hw
  refine JoinedStr_many ?_
  rw [← hs]
  exact h _ pins s σ H Q I hw
end
end L2

set_option Elab.async false
set_option linter.all false
set_option maxRecDepth 100000
set_option maxHeartbeats 4000000
namespace L2
open PySem PySem.Spec PyProof.Rows PySem.SeqAt
section
variable {X : Cx} {CX : CXT} {k : Nat} {f C : Addr} {fd : FuncData} {ps : List Str} {sp : Sp} {E : XK}
/-- a callee runs, somewhat deeper in C -/
theorem run_fnA {A' : Around} {pins : List (Addr × Obj)} {σ : St} {H : Hp} {s : Shared} {Q : VK} {us : List Value} {vs : List V} (F : FnOk X.prog X.w X.K X.mg X.base CX k f fd ps sp) (hr : Room k A') (hfr : A'.frames = X.A.frames) (hb : Binds X.K fd ps []) (hx : Passes CX X E)
    (I : Inv X pins σ H s) (r : Vals vs us) (h : sp vs H Q E) : wpAny (model X.prog X.w) A' (call (.ref f) us) (EP X pins σ Q) X.xe s := by
  have hl : us.length = ps.length := r.length.symm.trans (F.len _ _ _ _ h)
  have hb' := hb s us I.kIn (by rw [List.append_nil]; exact hl)
  rw [List.append_nil] at hb'
  have e0 := I.env0
  refine wpAny_call (codeAny_mono (F.run A' X.stack s H ⟨us, []⟩ us vs Q E hr ⟨hfr.trans e0.frames, e0.mod, e0.bs, e0.bsz, e0.funs, e0.frf, e0.hok, e0.bare⟩ hb' r h) fun z s' hq => ?_)
  match z, hq with
  | .error e, hq => exact hx pins σ H s e s' I hq
  | .ok (.ret u), hq => exact I.after hq
/-- a special method of the class: an own def -/
structure SpM (X : Cx) (CX : CXT) (E : XK) (C : Addr) (name : Str) (k : Nat) (f : Addr) (fd : FuncData) (ps : List Str) (sp : Sp) : Prop where
  at_ : PySem.W.findIn X.K (.ref C) name = some (some (.ref f))
  fn : PySem.W.isFn X.K (.ref f) = true
  ok : FnOk X.prog X.w X.K X.mg X.base CX k f fd ps sp
  b : Binds X.K fd ps []
  ps : Passes CX X E
theorem Inv.inst {pins : List (Addr × Obj)} {σ : St} {H : Hp} {s : Shared} {a dx : Addr} {fs : List (Str × V)} (I : Inv X pins σ H s) (e : H a = some (.ins C dx fs)) : ∃ od, PySem.W.InstAt s.heap a (PySem.W.instObj C dx) C (some od) := by
  obtain ⟨mA, O, _⟩ := ins_get I.hok e
  obtain ⟨od, J, _⟩ := O.look
  exact ⟨od, J⟩
theorem len_back {pins : List (Addr × Obj)} {σ : St} {Q : VK} {v : Value} {s' : Shared} (h : EP X pins σ (fun v H' => ∃ n : Nat, v = .int n ∧ n < 1000000 ∧ Q (.int n) H') v s') : PySem.W.LenBack (EP X pins σ Q) v s' := by
  obtain ⟨y, H', I, r, n, rfl, hn, q⟩ := h
  obtain ⟨t, rfl⟩ := r
  exact ⟨⟨Int.natCast_nonneg _, by omega⟩, ⟨.int n, H', I.tok _, ⟨_, rfl⟩, q⟩⟩
theorem str_back {pins : List (Addr × Obj)} {σ : St} {Q : VK} {v : Value} {s' : Shared} (h : EP X pins σ (fun v H' => ∃ z : Str, v = .str z ∧ Q (.str z) H') v s') : PySem.W.StrBack (EP X pins σ Q) v s' := by
  obtain ⟨y, H', I, r, z, rfl, q⟩ := h
  obtain ⟨t, rfl⟩ := r
  exact ⟨.str z, H', I, ⟨_, rfl⟩, q⟩
theorem cmp_back {pins : List (Addr × Obj)} {σ : St} {Q : VK} {v : Value} {s' : Shared} (h : EP X pins σ (fun v H' => ∃ z : Bool, v = .bl z ∧ Q (.bl z) H') v s') : PySem.W.CmpBack (EP X pins σ Q) v s' := by
  obtain ⟨y, H', I, r, z, rfl, q⟩ := h
  cases (show v = Value.bool z from r)
  exact ⟨.bl z, H', I, rfl, q⟩
/-- len of an instance -/
def rLenI (C : Addr) (sp : Sp) (E : XK) : List V → Hp → VK → Prop := fun xs H Q => ∃ a dx fs, xs = [.ref a] ∧ H a = some (.ins C dx fs) ∧ sp [.ref a] H (fun v H' => ∃ n : Nat, v = .int n ∧ n < 1000000 ∧ Q (.int n) H') E
theorem call_lenI (S : SpM X CX E C "__len__" k f fd ps sp) (hr : Room (k + 1) X.A) : CallR X (.builtin "len") (rLenI C sp E) := by
  intro pins s σ H xs us Q I r h
  obtain ⟨a, dx, fs, rfl, ha, q⟩ := h
  obtain ⟨u, rfl, e⟩ := vals1 r
  cases (show u = Value.ref a from e)
  obtain ⟨od, J⟩ := I.inst ha
  obtain ⟨m, F⟩ := I.fr
  exact PySem.W.len_K F I.ok.mod.kin J S.at_ S.fn (thn (run_fnA (us := [.ref a]) (vs := [.ref a]) S.ok hr.in1 rfl S.b S.ps I (.cons rfl .nil) q) fun _ _ => len_back)
/-- repr of an instance -/
def rStrI (C : Addr) (sp : Sp) (E : XK) : List V → Hp → VK → Prop := fun xs H Q => ∃ a dx fs, xs = [.ref a] ∧ H a = some (.ins C dx fs) ∧ sp [.ref a] H (fun v H' => ∃ z : Str, v = .str z ∧ Q (.str z) H') E
theorem call_reprI (S : SpM X CX E C "__repr__" k f fd ps sp) (hr : Room (k + 1) X.A) : CallR X (.builtin "repr") (rStrI C sp E) := by
  intro pins s σ H xs us Q I r h
  obtain ⟨a, dx, fs, rfl, ha, q⟩ := h
  obtain ⟨u, rfl, e⟩ := vals1 r
  cases (show u = Value.ref a from e)
  obtain ⟨od, J⟩ := I.inst ha
  obtain ⟨m, F⟩ := I.fr
  exact PySem.W.repr_K hr.in1.units0 F I.ok.mod.kin J S.at_ S.fn (thn (run_fnA (us := [.ref a]) (vs := [.ref a]) S.ok hr.in1 rfl S.b S.ps I (.cons rfl .nil) q) fun _ _ => str_back)
theorem call_strI (S : SpM X CX E C "__str__" k f fd ps sp) (hr : Room (k + 2) X.A) : CallR X (.type "str") (rStrI C sp E) := by
  intro pins s σ H xs us Q I r h
  obtain ⟨a, dx, fs, rfl, ha, q⟩ := h
  obtain ⟨u, rfl, e⟩ := vals1 r
  cases (show u = Value.ref a from e)
  obtain ⟨od, J⟩ := I.inst ha
  exact PySem.W.kso_call hr.in1.in1.units0 I.kIn J S.at_ S.fn (thn (run_fnA (us := [.ref a]) (vs := [.ref a]) S.ok hr.in1.in1 rfl S.b S.ps I (.cons rfl .nil) q) fun _ _ => str_back)
/-- == of an instance and any value whose type is known -/
def TyV (K : PySem.W.Frag) (H : Hp) (v : V) (t : Value) : Prop := (∃ d, Rep K H v d ∧ t = .type (tyD d)) ∨ ∃ a C dx fs, v = .ref a ∧ H a = some (.ins C dx fs) ∧ t = .ref C
theorem TyV.looks {pins : List (Addr × Obj)} {σ : St} {H : Hp} {s : Shared} {v : V} {u t : Value} (I : Inv X pins σ H s) (h : TyV X.K H v t) (r : RelV v u) : PySem.W.Looks (model X.prog X.w) s.heap (typeOf u) t := by
  rcases h with ⟨d, hd, rfl⟩ | ⟨a, C, dx, fs, rfl, ha, rfl⟩
  · cases hd with
    | non => cases (show u = Value.none from r); exact .of_pure rfl
    | bl y => cases (show u = Value.bool y from r); exact .of_pure rfl
    | int i => obtain ⟨t, rfl⟩ := r; exact .of_pure rfl
    | str y => obtain ⟨t, rfl⟩ := r; exact .of_pure rfl
    | tup g _ =>
      cases (show u = Value.ref _ from r)
      obtain ⟨_, _, ⟨o, h1, h2, _⟩, _⟩ := I.tuple g
      show PySem.W.Looks _ _ _ (Value.type "tuple")
      rw [← h2]
      exact (PySem.W.Looks.ld h1).andThen .now
    | lst g _ =>
      cases (show u = Value.ref _ from r)
      obtain ⟨_, _, ⟨o, n, h1, h2, _⟩, _⟩ := I.list g
      show PySem.W.Looks _ _ _ (Value.type "list")
      rw [← h2]
      exact (PySem.W.Looks.ld h1).andThen .now
  · cases (show u = Value.ref a from r)
    obtain ⟨od, J⟩ := I.inst ha
    exact J.type
def rEqI (K : PySem.W.Frag) (C : Addr) (sp : Sp) (E : XK) : R2 := fun x y H Q => ∃ a dx fs t, x = .ref a ∧ H a = some (.ins C dx fs) ∧ TyV K H y t ∧ PySem.W.notFirst K C t = true ∧ sp [.ref a, y] H (fun v H' => ∃ z : Bool, v = .bl z ∧ Q (.bl z) H') E
theorem rc_I {A' : Around} {pins : List (Addr × Obj)} {σ : St} {H : Hp} {s : Shared} {Q : VK} {x y : V} {v u : Value} (S : SpM X CX E C "__eq__" k f fd ps sp) (hr : Room k A') (hfr : A'.frames = X.A.frames) (I : Inv X pins σ H s) (rx : RelV x v) (ry : RelV y u) (h : rEqI X.K C sp E x y H Q) :
    wpAny (model X.prog X.w) A' (richCompare .Eq v u) (EP X pins σ Q) X.xe s := by
  obtain ⟨a, dx, fs, t, rfl, ha, ht, hn, q⟩ := h
  cases (show v = Value.ref a from rx)
  obtain ⟨od, J⟩ := I.inst ha
  obtain ⟨m, F⟩ := I.fr
  exact PySem.W.cmp_K hr.units0 F I.ok.mod.kin J (ht.looks I ry) hn S.at_ S.fn (thn (run_fnA (us := [.ref a, u]) (vs := [.ref a, y]) S.ok hr hfr S.b S.ps I (.cons rfl (.cons ry .nil)) q) fun _ _ => cmp_back)
theorem op_eqI (S : SpM X CX E C "__eq__" k f fd ps sp) (hr : Room k X.A) : OpR X (compareOp .Eq) (rEqI X.K C sp E) := fun pins s σ H x y v u Q I rx ry h => rc_I S hr rfl I rx ry h
/-- != of an instance whose class has __eq__ alone -/
theorem ifB {M : Model} {A : Around} {Er : Value → Shared → Prop} {s : Shared} {K : PySem.W.Frag} {x : Addr} {ox : Obj} {od : Option Obj} {name : Str} {id : String} {args : List Value} {Q : Option Value → Shared → Prop} (Xk : K.In s.heap) (J : PySem.W.InstAt s.heap x ox C od)
    (hs : PySem.W.findIn K (.ref C) name = some (some (.builtin id))) (hb : ∀ self, bindSpecial (.builtin id) self = pure (.builtin id, [self])) (h : wpAny M A (call (.builtin id) (.ref x :: args)) (fun v => Q (some v)) Er s) : wpAny M A (callSpecialIfBound? (.ref x) name args) Q Er s := by
  unfold callSpecialIfBound? bindSpecialIfBound?
  have fin : wpAny M A (do let v ← call (.builtin id) ([.ref x] ++ args); pure (some v)) Q Er s := wpAny_bind (wpAny_mono h (fun _ _ z => wpAny_pure z) fun _ _ z => z)
  refine wpAny_holding (wpAny_bind (wpAny_bind (wpAny_bind (J.type.here ((PySem.W.looks_findIn Xk hs).here (wpAny_bind (wpAny_askSetting (wpAny_ite ?_))))))))
  split
  · exact wpAny_bind ((PySem.W.Looks.of_pure (hb _)).here (wpAny_pure fin))
  · exact wpAny_tryCatch (wpAny_bind ((PySem.W.Looks.of_pure (hb _)).here (wpAny_pure fin)))
def rNeI (K : PySem.W.Frag) (C : Addr) (sp : Sp) (E : XK) : R2 := fun x y H Q => ∃ a dx fs t, x = .ref a ∧ H a = some (.ins C dx fs) ∧ TyV K H y t ∧ PySem.W.notFirst K C t = true ∧ sp [.ref a, y] H (fun v H' => ∃ z : Bool, v = .bl z ∧ Q (.bl (!z)) H') E
theorem ne_try {A : Around} {pins : List (Addr × Obj)} {σ : St} {H : Hp} {s : Shared} {Q : VK} {y : V} {u : Value} {a dx : Addr} {fs : List (Str × V)} (S : SpM X CX E C "__eq__" k f fd ps sp) (hn : PySem.W.findIn X.K (.ref C) "__ne__" = some (some (.builtin "object.__ne__"))) (hm : PySem.W.mroIn X.K C (.type "object") = some true)
    (hr : Room (k + 1) A) (hfr : A.frames = X.A.frames) (I : Inv X pins σ H s) (ha : H a = some (.ins C dx fs)) (ry : RelV y u) (h : sp [.ref a, y] H (fun v H' => ∃ z : Bool, v = .bl z ∧ Q (.bl (!z)) H') E) :
    wpAny (model X.prog X.w) A (tryCompare (.ref a) "__ne__" u) (fun r s' => ∃ v, r = some v ∧ EP X pins σ Q v s') X.xe s := by
  obtain ⟨od, J⟩ := I.inst ha
  have run := run_fnA (A' := A.in1) (us := [.ref a, u]) (vs := [.ref a, y]) S.ok hr.in1 hfr S.b S.ps I (.cons rfl (.cons ry .nil)) h
  unfold tryCompare
  refine wpAny_bind (ifB I.kIn J hn PySem.F.cmp_object.ne.bind ?_)
  refine wpAny_call (codeAny_call_builtin PySem.F.cmp_object.ne.plain PySem.F.cmpEntry_ne (PySem.W.check_slot PySem.F.cmpKind_ne PySem.F.cmpSplit_ne (J.type.andThen (PySem.W.looks_mroIn I.kIn hm)) (PySem.F.cmpArgs_ne _ _) ?_))
  unfold Builtin.«object.__ne__»
  refine wpAny_bind (m := slotArgs "__ne__" 1 _) (wpAny_pure ?_)
  refine wpAny_bind (m := cRoomFor _ _) (wpAny_cRoomFor hr.in1.units0 ?_)
  refine wpAny_bind (m := callSpecialIfBound? (.ref a) (Str.ofString "__eq__") _) (PySem.W.ifBound_K I.kIn J S.at_ S.fn (wpAny_mono run (fun r s' hr' => ?_) fun _ _ z => z))
  obtain ⟨_, H', I', r', z, rfl, q⟩ := hr'
  cases (show r = Value.bool z from r')
  refine wpAny_bind (wpAny_truthy_bool ?_)
  exact wpAny_pure (wpAny_pure ⟨_, rfl, .bl (!z), H', I', rfl, q⟩)
theorem op_neI (S : SpM X CX E C "__eq__" k f fd ps sp) (hn : PySem.W.findIn X.K (.ref C) "__ne__" = some (some (.builtin "object.__ne__"))) (hm : PySem.W.mroIn X.K C (.type "object") = some true) (hr : Room (k + 1) X.A) : OpR X (compareOp .NotEq) (rNeI X.K C sp E) := by
  intro pins s σ H x y v u Q I rx ry h
  obtain ⟨a, dx, fs, t, rfl, ha, ht, hf, q⟩ := h
  cases (show v = Value.ref a from rx)
  obtain ⟨od, J⟩ := I.inst ha
  have one := ne_try S hn hm hr rfl I ha ry q
  refine PySem.W.cmp_ofNotEq ?_
  unfold richCompare
  simp only [oneThing_ref]
  refine wpAny_holding (wpAny_bind (wpAny_cRoomFor hr.units0 (wpAny_bind (J.type.here (wpAny_bind ((ht.looks I ry).here ?_))))))
  split
  · rename_i g
    have e : PySem.W.subIn X.K t (.ref C) = some false := by
      rcases Bool.or_eq_true_iff.mp hf with e | e
      · rw [beq_iff_eq.mp e] at g; simp at g
      · exact beq_iff_eq.mp e
    refine wpAny_bind ((PySem.W.looks_subIn I.kIn e).here ?_)
    simp only [Bool.false_eq_true, if_false]
    refine wpAny_bind (thn one fun r s' z => ?_)
    obtain ⟨v, rfl, hq⟩ := z
    exact wpAny_pure hq
  · refine wpAny_bind (wpAny_pure ?_)
    simp only [Bool.false_eq_true, if_false]
    refine wpAny_bind (thn one fun r s' z => ?_)
    obtain ⟨v, rfl, hq⟩ := z
    exact wpAny_pure hq
end
end L2

set_option Elab.async false
set_option linter.all false
set_option maxRecDepth 100000
set_option maxHeartbeats 4000000
namespace HT
open PySem PySem.Spec PyProof.Rows
section
variable {prog : Program} {w : World} {A : Around} {E : Value → Shared → Prop} {s : Shared}
/-- () + t is t -/
theorem cat_nil {t b : Addr} {ws : List Value} {Q : Value → Shared → Prop} (ht : IsTup s.heap t #[]) (hb : IsTup s.heap b ws.toArray) (h : Q (.ref b) s) : wpAny (model prog w) A (binaryOp .Add (.ref t) (.ref b)) Q E s := by
  obtain ⟨⟨_, dd, _, sl⟩, ho, rfl, n, rfl⟩ := id ht
  obtain ⟨⟨_, dd2, _, sl2⟩, ho2, rfl, n2, rfl⟩ := id hb
  exact concat_meets ⟨_, ho, rfl⟩ ⟨_, ho2, rfl⟩ noFill_tuple_add seq_tuple_add PySem.F.slot_tuple_add PySem.F.entry_tuple_add (PySem.F.args_tuple_add_2 _ _) (tuple_addW0 t b #[] ws.toArray n n2 dd dd2 sl sl2 rfl) ⟨ho, ho2, h⟩
/-- a slice of a tuple, by what the slice comes to -/
theorem tup_slice {t sl : Addr} {items : Array Value} {a b c : Value} {lo step : Int} {n : Nat} {Q : Value → Shared → Prop} (ht : IsTup s.heap t items) (hs : s.heap.IsSliceOf sl a b c)
    (ha : ∀ (A' : Around) (Q' : Int × Int × Nat → Shared → Prop) (E' : Value → Shared → Prop), Q' (lo, step, n) s → wpAny (model prog w) A' (Builtin.Slice.sliceApplied (.ref sl) (pure (items.size : Int))) Q' E' s)
    (h1 : (lo == 0 && step == 1 && n == items.size) = true → Q (.ref t) s)
    (h2 : ¬ (lo == 0 && step == 1 && n == items.size) = true → ((List.range n).filterMap fun (k : Nat) => items[(lo + (k : Int) * step).toNat]?).length ≤ sizeLine ∧
      Q (.ref s.heap.objs.size) { s with heap := s.heap.push { cls := .type "tuple", data := .seq ((List.range n).filterMap fun (k : Nat) => items[(lo + (k : Int) * step).toNat]?).toArray } }) :
    wpAny (model prog w) A (getItem (.ref t) (.ref sl)) Q E s := by
  obtain ⟨so, hso, hsc, hsd⟩ := id hs
  have hty : s.TypeIs (.ref sl) "slice" := ⟨so, hso, hsc⟩
  obtain ⟨to, hto, htc, nt, htd⟩ := id ht
  unfold getItem
  try with_reducible refine wpAny_holding ?_
  first | refine wpAny_bind (wpAny_pure ?_) | skip
  refine wpAny_bind (wpAny_sequenceKey ht.typeIs (by decide) (wpAny_bind (wpAny_callSpecial?_slot (name := Str.ofString "__getitem__") ht.typeIs PyProof.Rows.slot_tuple_getitem (wpAny_call_entry PyProof.Rows.slot_tuple_getitem ht.typeIs entry_tuple_getitem ?_ (args_tuple_getitem _ _)))))
  show wpAny _ _ (Builtin.Tuple.tupleItemsOf (.ref t) >>= _) _ _ s
  refine wpAny_bind (tupleItemsOf_ ht (wpAny_bind (wpAny_typeOf hty ?_)))
  rw [if_pos (by decide)]
  refine wpAny_bind (ha _ _ _ ?_)
  show wpAny _ _ (if (lo == 0 && step == 1 && n == items.size) = true then _ else _) _ _ s
  by_cases hw : (lo == 0 && step == 1 && n == items.size) = true
  · rw [if_pos hw]
    have hx : wpAny (model prog w) A.in1 (Builtin.Tuple.tupleIsExact (.ref t)) (fun b s' => b = true ∧ s' = s) E s := by
      unfold Builtin.Tuple.tupleIsExact
      refine wpAny_bind (wpAny_typeOf_ref hto ?_)
      rw [htc]
      exact wpAny_pure ⟨rfl, rfl⟩
    first
      | refine wpAny_bind (wpAny_mono hx (fun b s' h' => ?_) fun _ _ z => z)
      | refine wpAny_bind (wpAny_bind (wpAny_mono hx (fun b s' h' => ?_) fun _ _ z => z))
    obtain ⟨rfl, rfl⟩ := h'
    rw [if_pos rfl]
    first
      | exact wpAny_bind (wpAny_rule (wpAny_pure ⟨_, rfl, wpAny_pure (h1 hw)⟩))
      | exact wpAny_bind (wpAny_rule (wpAny_bind (wpAny_pure (wpAny_pure ⟨_, rfl, wpAny_pure (h1 hw)⟩))))
  · rw [if_neg hw]
    obtain ⟨hz, hq⟩ := h2 hw
    have hok : sizeOk (.seq ((List.range n).filterMap fun (k : Nat) => items[(lo + (k : Int) * step).toNat]?).toArray) := by
      show (_ : Array Value).size ≤ sizeLine
      rw [List.size_toArray]; exact hz
    first
      | exact wpAny_bind (m := Builtin.Tuple.tupleExact _) (wpAny_newObj_type (wpAny_pure ⟨_, rfl, wpAny_pure hq⟩) hok)
      | exact wpAny_bind (m := Builtin.Tuple.tupleExact _) (wpAny_newObj_type (wpAny_bind (wpAny_pure (wpAny_pure ⟨_, rfl, wpAny_pure hq⟩))) hok)
      | exact wpAny_bind (wpAny_bind (m := Builtin.Tuple.tupleExact _) (wpAny_newObj_type (wpAny_pure (wpAny_pure ⟨_, rfl, wpAny_pure hq⟩)) hok))
theorem rev_applied {sl : Addr} {n : Nat} {t : Tok} {Q : Int × Int × Nat → Shared → Prop} (hs : s.heap.IsSliceOf sl .none .none (.int (-1) t)) (h : Q ((n : Int) - 1, -1, n) s) : wpAny (model prog w) A (Builtin.Slice.sliceApplied (.ref sl) (pure (n : Int))) Q E s := by
  obtain ⟨so, hso, hsc, hsd⟩ := id hs
  unfold Builtin.Slice.sliceApplied Builtin.Slice.sliceFields
  refine wpAny_bind (wpAny_bind (wpAny_field hso hsd (x := .none) rfl (wpAny_bind (wpAny_field hso hsd (x := .none) rfl (wpAny_bind (wpAny_field hso hsd (x := .int (-1) t) rfl (wpAny_pure ?_)))))))
  refine wpAny_bind (slicePart_int ?_)
  show wpAny _ _ (if ((-1 : Int) == 0) = true then _ else _) _ _ s
  rw [if_neg (by decide)]
  refine wpAny_bind (slicePart_none (wpAny_bind (slicePart_none (wpAny_bind (wpAny_pure ?_)))))
  have e : Builtin.Slice.sliceAdjust none none (-1) (n : Int) = ((n : Int) - 1, -1) := rfl
  have p : Builtin.Slice.slicePlaces ((n : Int) - 1) (-1) (-1) = n := by
    unfold Builtin.Slice.slicePlaces
    rw [if_neg (by decide), show (- -1 : Int) = 1 by decide]
    split <;> omega
  show wpAny _ _ (match Builtin.Slice.sliceAdjust none none (-1) (n : Int) with | (lo, hi) => pure (lo, (-1 : Int), Builtin.Slice.slicePlaces lo hi (-1))) _ _ s
  rw [e]
  show wpAny _ _ (pure ((n : Int) - 1, (-1 : Int), Builtin.Slice.slicePlaces ((n : Int) - 1) (-1) (-1))) _ _ s
  rw [p]
  exact wpAny_pure h
theorem _root_.List.filterMap_congr' {α β : Type} {f g : α → Option β} : ∀ {l : List α}, (∀ x ∈ l, f x = g x) → l.filterMap f = l.filterMap g
  | [], _ => rfl
  | a :: r, h => by rw [List.filterMap_cons, List.filterMap_cons, h a (by simp), List.filterMap_congr' (l := r) fun x hx => h x (by simp [hx])]
theorem rev_pick (xs : List Value) : ((List.range xs.length).filterMap fun (k : Nat) => xs.toArray[(((xs.length : Nat) : Int) - 1 + (k : Int) * -1).toNat]?) = xs.reverse := by
  have e : (List.range xs.length).filterMap (fun (k : Nat) => xs.toArray[(((xs.length : Nat) : Int) - 1 + (k : Int) * -1).toNat]?) = ((List.range xs.length).map fun k => xs.length - 1 - k).filterMap (xs.toArray[·]?) := by
    rw [List.filterMap_map]
    refine List.filterMap_congr' fun k hk => ?_
    have := List.mem_range.mp hk
    have q : ((xs.length : Int) - 1 + (k : Int) * -1).toNat = xs.length - 1 - k := by omega
    rw [q]; rfl
  rw [e, PySem.W.krv_range, List.filterMap_reverse]
  have := PySem.W.krv_all xs.toArray
  rw [List.size_toArray] at this
  rw [this]
end
end HT
namespace L2
open PySem PySem.Spec PyProof.Rows PySem.SeqAt
section
variable {X : Cx}
/-- t + u, any -/
def rCatA (K : PySem.W.Frag) : R2 := fun x y H Q => ∃ a b xs ys, x = .ref a ∧ y = .ref b ∧ SqT K H a xs ∧ SqT K H b ys ∧ xs.length + ys.length ≤ sizeLine ∧ (xs = [] → Q (.ref b) H) ∧ (ys = [] → Q (.ref a) H) ∧ ∀ p, H p = none → Q (.ref p) (upd H p (.tup (xs ++ ys)))
theorem op_catA : OpR X (binaryOp .Add) (rCatA X.K) := by
  intro pins s σ H x y v u Q I rx ry h
  obtain ⟨a, b, xs, ys, rfl, rfl, ha, hb, hz, q0, q1, q2⟩ := h
  by_cases hx : xs = []
  · subst hx
    cases (show v = Value.ref a from rx)
    cases (show u = Value.ref b from ry)
    obtain ⟨its, r1, p1, _⟩ := I.tuple ha
    obtain ⟨its2, r2, p2, _⟩ := I.tuple hb
    cases r1
    exact HT.cat_nil p1 p2 ⟨.ref b, H, I, rfl, q0 rfl⟩
  · refine op_catT pins s σ H _ _ v u Q I rx ry ⟨a, b, xs, ys, rfl, rfl, ha, hb, hx, hz, q1, fun _ => q2⟩
/-- t[lo:hi], the whole too -/
def rSlW (K : PySem.W.Frag) : V → Option Int → Option Int → Hp → VK → Prop := fun x lo hi H Q => ∃ a xs, x = .ref a ∧ SqT K H a xs ∧ (cutV xs lo hi = xs → Q (.ref a) H) ∧ ∀ p, H p = none → Q (.ref p) (upd H p (.tup (cutV xs lo hi)))
theorem sl_tupW : SlR X (rSlW X.K) := by
  intro pins s σ H x v vl vu lo hi sl Q I rx hs pl pu h
  obtain ⟨a, xs, rfl, hx, q1, q2⟩ := h
  by_cases hw : HT.sIx xs.length 0 lo = 0 ∧ HT.sIx xs.length xs.length hi = xs.length
  · cases (show v = Value.ref a from rx)
    obtain ⟨its, r, ht, hz⟩ := I.tuple hx
    have hlen : its.toArray.size = xs.length := by rw [List.size_toArray]; exact r.length.symm
    refine ⟨"tuple", _, PyProof.Rows.slot_tuple_getitem.lookup, ht.typeIs, ?_⟩
    have e : cutV xs lo hi = xs := by
      unfold cutV
      rw [hw.1, hw.2, List.drop_zero, Nat.sub_zero, List.take_length]
    refine HT.tup_slice ht hs (fun A' Q' E' q' => HT.sliceApplied_gen hs pl pu q') (fun _ => ⟨.ref a, H, I, rfl, q1 e⟩) fun hn => (hn ?_).elim
    rw [hlen, hw.1, hw.2]
    simp
  · exact sl_tup pins s σ H _ v vl vu lo hi sl Q I rx hs pl pu ⟨a, xs, rfl, hx, hw, q2⟩
/-- t[::-1] -/
def tRev (K : PySem.W.Frag) (te : TE) : TE := fun σ H Q => te σ H fun x H1 => ∃ a xs, x = .ref a ∧ SqT K H1 a xs ∧ ∀ p, H1 p = none → Q (.ref p) (upd H1 p (.tup xs.reverse))
theorem pe_rev {e o : Expr} {te : TE} {pos p2 : Pos} (he : PE X e te) (ho : PE X o (tC (.int (-1)))) {ops : Value → Value → List Value} (hop : ∀ v i, subscripted (.Slice none none (some o) p2) false v i = operate (ops v i) (getItem v i)) : PE X (.Subscript e (.Slice none none (some o) p2) pos) (tRev X.K te) := by
  intro pins s σ H Q I h
  refine Subscript_ (thn (he pins s σ H _ I h) fun v s1 ⟨x, H1, I1, r1, q1⟩ => ?_)
  obtain ⟨a, xs, rfl, hx, q⟩ := q1
  cases (show v = Value.ref a from r1)
  refine wpAny_Slice ?_
  rw [evalPart_none]
  refine wpAny_pure (wpAny_pure ?_)
  rw [evalPart_some]
  refine thn (ho pins s1 σ H1 (fun v H' => v = .int (-1) ∧ H' = H1) I1 ⟨rfl, rfl⟩) fun u s3 ⟨x3, H3, I3, r3, e3, e4⟩ => ?_
  subst e3 e4
  obtain ⟨t, rfl⟩ := r3
  have I4 : Inv X pins σ H3 { s3 with heap := s3.heap.push { cls := .type "slice", data := .fields #[.none, .none, .int (-1) t] } } := I3.kept (t' := s3.toks) fun b ob q => Heap.get?_push_of_some _ q
  obtain ⟨its, r, ht, hz⟩ := I4.tuple hx
  have hlen : its.toArray.size = its.length := List.size_toArray ..
  show wpAny (model X.prog X.w) X.A (subscriptTail e (.Slice none none (some o) p2) (.ref a) (.ref s3.heap.objs.size)) (EP X pins σ Q) X.xe { s3 with heap := s3.heap.push { cls := .type "slice", data := .fields #[.none, .none, .int (-1) t] } }
  refine tail_any ht.typeIs PyProof.Rows.slot_tuple_getitem.lookup ?_ (hop _ _)
  have hs : (s3.heap.push { cls := .type "slice", data := .fields #[.none, .none, .int (-1) t] }).IsSliceOf s3.heap.objs.size .none .none (.int (-1) t) := Heap.IsSliceOf.new ..
  refine HT.tup_slice (s := { s3 with heap := s3.heap.push { cls := .type "slice", data := .fields #[.none, .none, .int (-1) t] } }) ht hs (fun A' Q' E' q' => HT.rev_applied hs q') (fun hw => ?_) fun hnw => ?_
  · rw [Bool.and_eq_true, Bool.and_eq_true] at hw
    cases hw.1.2
  · rw [hlen, HT.rev_pick]
    have hl := r.length
    refine ⟨by rw [List.length_reverse]; omega, ?_⟩
    refine ⟨.ref _, _, I4.laid (t' := s3.toks) (o := .tup xs.reverse) (fun b ob q => Heap.get?_push_of_some _ q) (Nat.le_refl _) ?_, rfl, q _ (I4.hok.fresh (Nat.le_refl _))⟩
    refine ⟨by rw [List.length_reverse]; exact hz, _, ?_, IsTup.new _ _⟩
    clear q hx ht hlen hl hz hnw
    induction r with
    | nil => exact .nil
    | cons r1 r ih => rw [List.reverse_cons, List.reverse_cons]; exact Vals.append ih (.cons r1 .nil)
end
end L2

set_option Elab.async false
set_option linter.all false
set_option maxRecDepth 100000
set_option maxHeartbeats 4000000
namespace L2
open PySem PySem.Spec PyProof.Rows PySem.SeqAt
/-! ### repr of data -/
theorem piled_le {k : Nat} : ∀ {ts : List Str}, (∀ t ∈ ts, t.length ≤ k) → piled ts ≤ ts.length * (k + 2)
  | [], _ => by simp [piled]
  | t :: r, h => by
    have h1 := h t (by simp)
    have h2 := piled_le (ts := r) (fun x hx => h x (by simp [hx]))
    have e : piled (t :: r) = t.length + 2 + piled r := by simp [piled]
    rw [e, List.length_cons, Nat.succ_mul]
    omega
theorem tt_le {k : Nat} {ts : List Str} (h : ∀ t ∈ ts, t.length ≤ k) : (tupleText ts).length ≤ ts.length * (k + 2) + 3 := by
  have h1 := piled_le h
  have h2 : (Str.join ", " ts).length ≤ piled ts := by
    by_cases e : ts = []
    · subst e; exact Nat.zero_le _
    · have := join_length_add ts e; omega
  have e1 : ((("(" : String) : Str)).length = 1 := rfl
  unfold tupleText
  rw [strLen_append, strLen_append, e1]
  split
  · have e2 : ((((",)" : String)) : Str)).length = 2 := rfl
    rw [e2]; omega
  · have e2 : ((((")" : String)) : Str)).length = 1 := rfl
    rw [e2]; omega
structure ShowD (d : PyData) : Prop where
  sh : d.showable = true
  nd : d.hasDict = false
  dp : d.depth ≤ 40
  sz : d.shown.length ≤ sizeLine
section
variable {X : Cx}
def onRef : V → Bool
  | .ref _ => true
  | .str _ => true
  | _ => false
def rReprD (K : PySem.W.Frag) : List V → Hp → VK → Prop := fun xs H Q => ∃ x d, xs = [x] ∧ onRef x = true ∧ Rep K H x d ∧ ShowD d ∧ Q (.str d.shown) H
theorem call_reprD (hu : X.A.units + 64 < cLine) (hg : X.A.guards = some []) : CallR X (.builtin "repr") (rReprD X.K) := by
  intro pins s σ H xs us Q I r h
  obtain ⟨x, d, rfl, ho, hr, sd, q⟩ := h
  obtain ⟨u, rfl, e⟩ := vals1 r
  have dp := sd.dp
  match x, ho, hr, e with
  | .ref a, _, hr, e =>
    cases (show u = Value.ref a from e)
    obtain ⟨as, rd⟩ := I.reads hr rfl
    exact repr_of_reads' rd sd.sh (PyData.noDict_hsm sd.nd) hg (by omega) (fun _ _ z => z) (fun h' t tk hk => ⟨.str d.shown, H, I.kept hk, ⟨_, rfl⟩, q⟩) sd.sz
  | .str z, _, hr, e =>
    obtain ⟨t, rfl⟩ := e
    cases hr
    exact P.repr_of_str ⟨.str (reprText z), H, I.tok _, ⟨_, rfl⟩, q⟩ sd.sz
theorem pyrepr {A' : Around} {pins : List (Addr × Obj)} {σ : St} {H : Hp} {s : Shared} {Q : VK} {x : V} {u : Value} {d : PyData} {E : Value → Shared → Prop} (hu : A'.units + 64 < cLine) (hg : A'.guards = some []) (I : Inv X pins σ H s) (e : RelV x u) (ho : onRef x = true) (hr : Rep X.K H x d) (sd : ShowD d) (q : Q (.str d.shown) H) :
    wpAny (model X.prog X.w) A' (pyReprObj u) (EP X pins σ Q) E s := by
  have dp := sd.dp
  match x, ho, hr, e with
  | .ref a, _, hr, e =>
    cases (show u = Value.ref a from e)
    obtain ⟨as, rd⟩ := I.reads hr rfl
    exact pyReprObj_of_reads rd sd.sh (PyData.noDict_hsm sd.nd) hg (by omega) (fun _ _ z => z) (fun h' t tk hk => ⟨.str d.shown, H, I.kept hk, ⟨_, rfl⟩, q⟩) sd.sz
  | .str z, _, hr, e =>
    obtain ⟨t, rfl⟩ := e
    cases hr
    exact wpAny_pyReprObj_str ⟨.str (reprText z), H, I.tok _, ⟨_, rfl⟩, q⟩ sd.sz
theorem pf_repr {es : List Expr} {t : TF} {e : Expr} {te : TE} {pos : Pos} (hu : X.A.units + 64 < cLine) (hg : X.A.guards = some []) (he : PE X e te) (hr : PF X es t) (hs : evalEach (.FormattedValue e 114 none pos :: es) X.env = eval (.FormattedValue e 114 none pos) X.env :: evalEach es X.env := by rfl) :
    PF X (.FormattedValue e 114 none pos :: es) (fun out σ H Q => te σ H fun x H1 => ∃ d, onRef x = true ∧ Rep X.K H1 x d ∧ ShowD d ∧ (out ++ d.shown).length ≤ sizeLine ∧ t (out ++ d.shown) σ H1 Q) := by
  intro out pins s σ H Q I h
  rw [hs]
  refine joinParts_cons (wpAny_FormattedValue_repr (thn (he pins s σ H _ I h) fun v s1 ⟨x, H1, I1, r1, d, ho, hd, sd, hl, q⟩ => ?_))
  refine thn (pyrepr (Q := fun y H2 => y = .str d.shown ∧ H2 = H1) hu hg I1 r1 ho hd sd ⟨rfl, rfl⟩) fun v2 s2 ⟨y, H2, I2, r2, e1, e2⟩ => ?_
  subst e1 e2
  obtain ⟨tk, rfl⟩ := r2
  exact formatField_str (fun t' tk => ⟨hl, hr _ pins _ σ H2 Q (I2.tok tk) q⟩) sd.sz
/-! ### isinstance of an own class -/
structure OwnIs (K : PySem.W.Frag) (C : Addr) : Prop where
  at_ : PySem.W.findIn K (.ref C) "__class__" = some (some (.builtin "object.__class__"))
  sp : PySem.W.specialIn K (.builtin "object.__class__") "__get__" = some (some (.builtin "getset_descriptor.__get__"))
  tk : PySem.W.takesIn K (.builtin "object.__class__") = some true
  mr : PySem.W.mroIn K C (.type "object") = some true
/-- isinstance(x, C), C an own class -/
def rIsC (K : PySem.W.Frag) : List V → Hp → VK → Prop := fun xs H Q => ∃ x C b, xs = [x, .ref C] ∧ ((∃ d, Rep K H x d ∧ PySem.W.kitOne K (.type (tyD d)) (.ref C) = some b) ∨ ∃ a D dx fs, x = .ref a ∧ H a = some (.ins D dx fs) ∧ Cls K D ∧ OwnIs K D ∧ PySem.W.kitOne K (.ref D) (.ref C) = some b) ∧ Q (.bl b) H
theorem call_isC : CallR X (.builtin "isinstance") (rIsC X.K) := by
  intro pins s σ H xs us Q I r h
  obtain ⟨x, C, b, rfl, hx, q⟩ := h
  cases r with
  | cons r1 r =>
    cases r with
    | cons r2 r =>
      cases r
      cases (show _ = Value.ref C from r2)
      rcases hx with ⟨d, hd, e⟩ | ⟨a, D, dx, fs, rfl, ha, c, o, e⟩
      · exact isD I hd r1 e fun tk => ⟨.bl b, H, I.tok tk, rfl, q⟩
      · cases (show _ = Value.ref a from r1)
        obtain ⟨od, J⟩ := I.inst ha
        exact PySem.W.kia_one (PySem.W.kitx_own (c.get _) c.hd o.at_ o.sp o.tk o.mr) I.kIn J e (fun z => nomatch z) fun tk => ⟨.bl b, H, I.tok tk, rfl, q⟩
/-! ### x in [y], y an instance -/
theorem one_loop {prog : Program} {w : World} {A : Around} {R : Result → Shared → Prop} {s : Shared} {l : Addr} {y x : Value} {n : Nat} {its : Array Value} (hl : s.heap.get? l = some { cls := .type "list", data := .seq its n }) (h0 : its[Int.toNat 0]? = some y) (h1 : its[Int.toNat (0 + 1)]? = none)
    (h : wpAny (model prog w) A.in1 (eqBool y x) (fun b s' => (∃ n', s'.heap.get? l = some { cls := .type "list", data := .seq its n' }) ∧ R (.ok (.ret (.bool b))) s') (fun e s' => R (.error e) s') s) :
    wpAny (model prog w) A.in1 (Builtin.«list.__contains__» ⟨[.ref l, x], []⟩) (fun fin s' => match fin with | .done f => R (.ok f) s' | .again c' => c'.quiet = true ∧ codeAny (model prog w) A c' R s') (fun e s' => R (.error e) s') s := by
  obtain ⟨hp, g, d, tk, os⟩ := s
  wp_walk using AutoSeq1.wpAny_loadPart' hl
  refine ⟨plainId_quiet MeetsSeq.plain_contains_loop _, codeAny_builtin MeetsSeq.entry_contains_loop ?_⟩
  rw [Around.under_plainId MeetsSeq.plain_contains_loop _]
  wp_walk using AutoSeq1.wpAny_loadPart' hl
  rw [h0]
  refine wpAny_bind (wpAny_mono h (fun b s' hb => ?_) fun _ _ z => z)
  obtain ⟨⟨n', hl'⟩, hr⟩ := hb
  obtain ⟨hp', g', d', tk', os'⟩ := s'
  cases b with
  | true =>
    wp_walk
    exact hr
  | false =>
    wp_walk
    refine ⟨plainId_quiet MeetsSeq.plain_contains_loop _, codeAny_builtin MeetsSeq.entry_contains_loop ?_⟩
    rw [Around.under_plainId MeetsSeq.plain_contains_loop _]
    wp_walk using AutoSeq1.wpAny_loadPart' hl'
    rw [h1]
    wp_walk
    exact hr
end
section
variable {X : Cx} {CX : CXT} {k : Nat} {f C : Addr} {fd : FuncData} {ps : List Str} {sp : Sp} {E : XK}
theorem eqB_ne {prog : Program} {w : World} {A : Around} {Q : Bool → Shared → Prop} {E' : Value → Shared → Prop} {s : Shared} {y x : Addr} (hne : y ≠ x) (h : wpAny (model prog w) A (richCompare .Eq (.ref y) (.ref x)) (fun r s' => ∃ b, r = .bool b ∧ Q b s') E' s) : wpAny (model prog w) A (eqBool (.ref y) (.ref x)) Q E' s := by
  unfold eqBool
  refine wpAny_holding ?_
  rw [if_neg (show ¬ ((Value.ref y == Value.ref x) = true) by simp [hne])]
  refine wpAny_bind (wpAny_mono h (fun r s' z => ?_) fun _ _ z => z)
  obtain ⟨b, rfl, q⟩ := z
  exact wpAny_truthy_bool q
/-- x in [y], both instances, y of the class with __eq__ -/
def rInI (K : PySem.W.Frag) (C : Addr) (sp : Sp) (E : XK) : R2 := fun x z H Q => ∃ a b l, x = .ref a ∧ z = .ref l ∧ H l = some (.lst [.ref b]) ∧ b ≠ a ∧ rEqI K C sp E (.ref b) (.ref a) H (fun v H' => (∃ z : Bool, v = .bl z) ∧ H' l = H l ∧ Q v H')
theorem op_inI (S : SpM X CX E C "__eq__" k f fd ps sp) (hr : Room (k + 1) X.A) : OpR X (compareOp .In) (rInI X.K C sp E) := by
  intro pins s σ H x z v u Q I rx rz h
  obtain ⟨a, b, l, rfl, rfl, hl, hne, q⟩ := h
  cases (show v = Value.ref a from rx)
  cases (show u = Value.ref l from rz)
  obtain ⟨_, its, n, rv, hg⟩ := (show ObjOk X.prog X.w H s.heap l (.lst [.ref b]) from I.hok l _ hl)
  obtain ⟨w', rfl, e⟩ := vals1 rv
  cases (show w' = Value.ref b from e)
  have hT : s.TypeIs (.ref l) "list" := ⟨_, hg, rfl⟩
  have rq := rc_I (A' := X.A.in1) S hr.in1 rfl I (show RelV (.ref b) (.ref b) from rfl) (show RelV (.ref a) (.ref a) from rfl) q
  show wpAny _ _ (do return Value.bool (← contains (.ref l) (.ref a))) _ _ s
  refine wpAny_bind (wpAny_contains_slot hT PySem.F.slot_list_contains ?_)
  have key : wpAny (model X.prog X.w) X.A.in1 (eqBool (.ref b) (.ref a)) (fun z s' => (∃ n', s'.heap.get? l = some { cls := .type "list", data := .seq #[.ref b] n' }) ∧ ∃ H', Inv X pins σ H' s' ∧ Q (.bl z) H') X.xe s := by
    refine eqB_ne hne (thn rq fun r s' ⟨y, H', I', r', ⟨z, e1⟩, e2, q'⟩ => ?_)
    subst e1
    cases (show r = Value.bool z from r')
    rw [hl] at e2
    obtain ⟨_, its', n', rv', hg'⟩ := (show ObjOk X.prog X.w H' s'.heap l (.lst [.ref b]) from I'.hok l _ e2)
    obtain ⟨w', rfl, e⟩ := vals1 rv'
    cases (show w' = Value.ref b from e)
    exact ⟨z, rfl, ⟨n', hg'⟩, H', I', q'⟩
  refine wpAny_call (codeAny_call_builtin PySem.F.slot_list_contains.plain PySem.F.entry_list_contains (PySem.F.slot_list_contains.check _ _ _ _ _ _ _ _ hT (PySem.F.args_list_contains_2 _ _) (one_loop hg rfl rfl (wpAny_mono key (fun z s' hz => ?_) fun _ _ z => z))))
  obtain ⟨hg', H', I', q'⟩ := hz
  refine ⟨hg', ?_⟩
  exact wpAny_truthy_bool (wpAny_pure ⟨.bl z, H', I', rfl, q'⟩)
/-! ### bool of an instance with __len__ -/
theorem len_body {prog : Program} {w : World} {A : Around} {Er : Value → Shared → Prop} {s : Shared} {K : PySem.W.Frag} {x : Addr} {ox : Obj} {od : Option Obj} {Q : Value → Shared → Prop} (Xk : K.In s.heap) (J : PySem.W.InstAt s.heap x ox C od) (hs : PySem.W.findIn K (.ref C) "__len__" = some (some (.ref f)))
    (hf : PySem.W.isFn K (.ref f) = true) (h : wpAny (model prog w) A (call (.ref f) [.ref x]) (PySem.W.LenBack Q) Er s) : wpAny (model prog w) A (Builtin.«len» ⟨[.ref x], []⟩) (fun fin s' => ∃ r, fin = .done (.ret r) ∧ Q r s') Er s := by
  unfold Builtin.«len»
  refine wpAny_bind (m := oneArg "len" _) (wpAny_pure (wpAny_bind (m := callSpecial? (.ref x) (Str.ofString "__len__")) (PySem.W.special_fn Xk J hs (beq_iff_eq.mp hf) (wpAny_mono h (fun r s' hr => ?_) fun _ _ y => y))))
  match r, hr with
  | .int n u, ⟨⟨h0, h1⟩, hq⟩ =>
    refine wpAny_bind (wpAny_holding (wpAny_pure (wpAny_bind (wpAny_letGo ?_))))
    show wpAny _ _ (if n < 0 then _ else _) _ _ _
    rw [if_neg (by omega)]
    show wpAny _ _ (if n ≥ 2 ^ 63 then _ else _) _ _ _
    rw [if_neg (by omega)]
    exact wpAny_bind (wpAny_mkInt (wpAny_pure ⟨_, rfl, hq⟩))
def rBoolI (C : Addr) (sp : Sp) (E : XK) : List V → Hp → VK → Prop := fun xs H Q => ∃ a dx fs, xs = [.ref a] ∧ H a = some (.ins C dx fs) ∧ sp [.ref a] H (fun v H' => ∃ n : Nat, v = .int n ∧ n < 1000000 ∧ Q (.bl (n != 0)) H') E
theorem truthy_I {A : Around} {pins : List (Addr × Obj)} {σ : St} {H : Hp} {s : Shared} {Q : VK} {a dx : Addr} {fs : List (Str × V)} (S : SpM X CX E C "__len__" k f fd ps sp) (hnb : PySem.W.findIn X.K (.ref C) "__bool__" = some none) (hr : Room (k + 1) A) (hfr : A.frames = X.A.frames) (I : Inv X pins σ H s) (ha : H a = some (.ins C dx fs))
    (q : sp [.ref a] H (fun v H' => ∃ n : Nat, v = .int n ∧ n < 1000000 ∧ Q (.bl (n != 0)) H') E) : wpAny (model X.prog X.w) A (truthy (.ref a)) (fun b s' => EP X pins σ Q (.bool b) s') X.xe s := by
  obtain ⟨od, J⟩ := I.inst ha
  have run := run_fnA (A' := A.in1) (us := [.ref a]) (vs := [.ref a]) S.ok hr.in1 hfr S.b S.ps I (.cons rfl .nil) q
  have key : wpAny (model X.prog X.w) A (runValue (.builtin "len" ⟨[.ref a], []⟩)) (fun r s' => ∃ (n : Nat) (t : Tok), r = .int n t ∧ EP X pins σ Q (.bool ((n : Int) != 0)) s') X.xe s := by
    refine wpAny_runValue (codeAny_builtin entry_len ?_)
    rw [Around.under_plainId plain_len _]
    refine wpAny_mono (len_body (Q := fun r s' => ∃ (n : Nat) (t : Tok), r = .int n t ∧ EP X pins σ Q (.bool ((n : Int) != 0)) s') I.kIn J S.at_ S.fn (wpAny_mono run (fun r s' hr => ?_) fun _ _ z => z)) (fun fin s' h' => by obtain ⟨r, rfl, hq⟩ := h'; exact hq) fun _ _ e => e
    obtain ⟨_, H', I', r', n, rfl, hn, q'⟩ := hr
    obtain ⟨t, rfl⟩ := r'
    refine ⟨⟨Int.natCast_nonneg _, by omega⟩, n, _, rfl, .bl (n != 0), H', I'.tok _, ?_, q'⟩
    show Value.bool ((n : Int) != 0) = Value.bool (n != 0)
    congr 1
    rw [Bool.eq_iff_iff]; simp
  unfold truthy
  refine wpAny_bind (m := callSpecial? (.ref a) (Str.ofString "__bool__")) (wpAny_bind (wpAny_bind (J.type.here ((PySem.W.looks_findIn I.kIn hnb).here (wpAny_pure ?_)))))
  refine wpAny_bind (wpAny_bind (J.type.here ((PySem.W.looks_findIn I.kIn S.at_).here ?_)))
  refine wpAny_bind (wpAny_mono key (fun r s' hr => ?_) fun _ _ z => z)
  obtain ⟨n, t, rfl, q'⟩ := hr
  exact wpAny_pure q'
theorem call_boolI (S : SpM X CX E C "__len__" k f fd ps sp) (hnb : PySem.W.findIn X.K (.ref C) "__bool__" = some none) (hr : Room (k + 3) X.A) : CallR X (.type "bool") (rBoolI C sp E) := by
  intro pins s σ H xs us Q I r h
  obtain ⟨a, dx, fs, rfl, ha, q⟩ := h
  obtain ⟨u, rfl, e⟩ := vals1 r
  cases (show u = Value.ref a from e)
  have g : MeetsIn X.prog X.w (Builtin.«bool.__new__» ⟨[.type "bool", .ref a], []⟩) (fun A R s => wpAny (model X.prog X.w) A.in1 (truthy (.ref a)) (fun b s' => R (.ok (.ret (.bool b))) s') (fun e s' => R (.error e) s') s) :=
    MeetsIn.of_wp fun A R s hs => by
      obtain ⟨hp, g, d, tk, os⟩ := s
      have f1 := F.conv_sub_bool
      have hs' : wpAny (model X.prog X.w) A.in1 (truthy (.ref a)) (fun b s' => wpAny (model X.prog X.w) A.in1 (ret (.bool b)) (fun fin s' => ∃ v, fin = .done (.ret v) ∧ R (.ok (.ret v)) s') (fun e s' => R (.error e) s') s') (fun e s' => R (.error e) s') ⟨hp, g, d, tk, os⟩ :=
        wpAny_mono hs (fun b s' hb => wpAny_pure ⟨_, rfl, hb⟩) fun _ _ z => z
      repeat (any_goals (first | assumption | (with_reducible exact hs') | wp_step))
  exact callType_newIn F.called_bool F.newNe_bool (F.typeCall_bool_1 _) (F.newCall_bool_1 _) (fun obj => F.args_object_init_2 obj _) F.entry_bool_new g (thn (truthy_I (A := X.A.in1.in1) S hnb hr.in1.in1 rfl I ha q) fun b s' z => ⟨rfl, z⟩)
end
end L2

set_option Elab.async false
set_option linter.all false
set_option maxRecDepth 100000
set_option maxHeartbeats 4000000
namespace L2
open PySem PySem.Spec PyProof.Rows PySem.SeqAt
section
variable {X : Cx} {pins : List (Addr × Obj)} {σ : St} {H : Hp} {s : Shared} {h' : Heap}
/-- an iterator's records turn, and an object is laid -/
theorem Inv.turnLaid {a : Addr} {o : HO} {t' : Nat} {fp : List Addr} (I : Inv X pins σ H s) (k : ∀ b u, b ∉ fp → s.heap.get? b = some u → h'.get? b = some u) (ke : ∀ b ∈ fp, ∃ u, h'.get? b = some u) (hf : ∀ b ∈ fp, FpOk X pins H b) (hp : s.heap.objs.size ≤ a) (new : ObjOk X.prog X.w (upd H a o) h' a o) :
    Inv X pins σ (upd H a o) { s with heap := h', toks := t' } := by
  have hn : H a = none := I.hok.fresh hp
  have off : ∀ b u, H b = some u → b ∉ fp := fun b u e z => by rw [(hf b z).1] at e; cases e
  have up : ∀ b u, H b = some u → (upd H a o) b = some u := fun b u e => by rw [upd_ne (ne_of_none e hn)]; exact e
  refine I.step (g' := s.gens) (d' := s.drawn) (ch := fp) (fun b hb => ?_) (fun b u _ _ hc e _ => k b u hc e) (fun b u _ _ hc e _ => ⟨u.slots, k b u hc e⟩) (fun b u _ e n => ?_) (fun b u hc e => ⟨u, k b u hc e⟩) (fun b xs e => up b _ e) (fun b u z e => up b _ e) (fun b ps e => ⟨#[], by rw [up b _ e]; simp⟩) (fun m hm => ?_) (fun b u e => ?_) I.bare
  · obtain ⟨_, f1, _, f3, f4, f5⟩ := hf b hb
    exact ⟨f3, f1, f4, f5⟩
  · rw [upd_ne (Nat.ne_of_lt (Nat.lt_of_lt_of_le (Heap.lt_size e) hp))]; exact n
  · obtain ⟨u, es, ep, ho, r⟩ := hm
    exact ⟨u, es, ep, k _ u (fun z => (hf _ z).2.1 rfl) ho, r⟩
  · by_cases hb : b = a
    · subst hb; rw [upd_same] at e; cases e; exact new
    · rw [upd_ne hb] at e
      refine (I.hok b u e).stay (fun c v hc q => k c v ?_ q) (fun c q => up c _ q) fun c xs q => up c _ q
      rcases hc with rfl | z
      · exact off _ u e
      · exact off c _ z
/-! ### enumerate of a tuple -/
theorem next_tup {prog : Program} {w : World} {A : Around} {E : Value → Shared → Prop} {s : Shared} {it l : Addr} {i : Nat} {items : Array Value} {x : Value} {Q : Value → Shared → Prop} (hit : s.heap.IsTupleIter it l i) (hl : s.heap.IsTuple l items) (hx : items[i]? = some x)
    (hQ : ∀ g, g.IsTupleIter it l (i + 1) → Heap.SameBut it s.heap g → Q x { s with heap := g }) : wpAny (model prog w) A (Builtin.SmallTypes.nextOf (.ref it)) Q E s := by
  obtain ⟨o, ho, hc, hd⟩ := id hit
  obtain ⟨ol, hol, _, nl, hdl⟩ := hl
  unfold Builtin.SmallTypes.nextOf
  refine wpAny_bind (wpAny_callSpecial?_slot (name := Str.ofString "__next__") hit.typeIs F.slot_tuple_iterator_next (wpAny_call_entry F.slot_tuple_iterator_next hit.typeIs F.entry_tuple_iterator_next ?_ (F.args_tuple_iterator_next_1 _)))
  show wpAny _ _ (field (.ref it) 0 >>= _) _ _ s
  refine wpAny_bind (wpAny_field ho hd (x := .ref l) rfl ?_)
  show wpAny _ _ (if (Value.ref l == Value.none) = true then _ else _) _ _ s
  rw [if_neg (show ¬ ((Value.ref l == Value.none) = true) from nofun)]
  show wpAny _ _ (field (.ref it) 1 >>= _) _ _ s
  refine wpAny_bind (wpAny_field ho hd (x := .int i 0) rfl ?_)
  show wpAny _ _ (seqItems? (.ref l) >>= _) _ _ s
  refine wpAny_bind (wpAny_seqItems hol hdl ?_)
  simp only [Int.toNat_natCast, hx]
  refine wpAny_bind (wpAny_setField ho hd (by simp) (wpAny_pure ⟨x, rfl, wpAny_pure (hQ _ ⟨_, Heap.get?_update_self _ ho (Obj.isFreed_of_fields (Obj.data_mapFields hd _)), (Obj.cls_mapFields ..).trans hc, by rw [Obj.data_mapFields hd]; simp [rawInt]⟩ (Heap.SameBut.update ..))⟩))
theorem next_tupE {prog : Program} {w : World} {A : Around} {E : Value → Shared → Prop} {s : Shared} {it l : Addr} {i : Nat} {items : Array Value} {Q : Value → Shared → Prop} (hh : A.handled = none) (hit : s.heap.IsTupleIter it l i) (hl : s.heap.IsTuple l items) (hx : items[i]? = none)
    (hE : ∀ g e, Heap.ExtBut it s.heap g → (∃ o, g.get? e = some o ∧ o.cls = .type "StopIteration") → E (.ref e) { s with heap := g }) : wpAny (model prog w) A (Builtin.SmallTypes.nextOf (.ref it)) Q E s := by
  obtain ⟨o, ho, hc, hd⟩ := id hit
  obtain ⟨ol, hol, _, nl, hdl⟩ := hl
  unfold Builtin.SmallTypes.nextOf
  refine wpAny_bind (wpAny_callSpecial?_slot (name := Str.ofString "__next__") hit.typeIs F.slot_tuple_iterator_next (wpAny_call_entry F.slot_tuple_iterator_next hit.typeIs F.entry_tuple_iterator_next ?_ (F.args_tuple_iterator_next_1 _)))
  show wpAny _ _ (field (.ref it) 0 >>= _) _ _ s
  refine wpAny_bind (wpAny_field ho hd (x := .ref l) rfl ?_)
  show wpAny _ _ (if (Value.ref l == Value.none) = true then _ else _) _ _ s
  rw [if_neg (show ¬ ((Value.ref l == Value.none) = true) from nofun)]
  show wpAny _ _ (field (.ref it) 1 >>= _) _ _ s
  refine wpAny_bind (wpAny_field ho hd (x := .int i 0) rfl ?_)
  show wpAny _ _ (seqItems? (.ref l) >>= _) _ _ s
  refine wpAny_bind (wpAny_seqItems hol hdl ?_)
  simp only [Int.toNat_natCast, hx]
  refine wpAny_bind (wpAny_rule (wpAny_bind (wpAny_setField ho hd (by simp) ?_)))
  show wpAny _ _ (newExc (.type "StopIteration") [] >>= _) _ _ _
  refine wpAny_bind ?_
  simp only [newExc, newTuple]
  refine wpAny_bind (wpAny_newObj_type ?_ (by size_fits))
  refine wpAny_bind (m := firstArgMember _ _) (wpAny_of_eq (a := Value.none) (by first | rfl | (simp only [firstArgMember]; rfl)) (wpAny_newObj_type ?_ (by size_fits)))
  simp only [raiseNew]
  refine wpAny_bind (wpAny_handled ?_)
  first | rw [show A.in1.handled = none from hh] | rw [hh]
  exact wpAny_bind (wpAny_pure (wpAny_throw (hE _ _ (((Heap.SameBut.update ..).extBut.push _).push _) ⟨_, Heap.get?_push_size _ rfl, rfl⟩)))
theorem drawsT {prog : Program} {w : World} {A : Around} (hh : A.handled = none) (it l : Addr) (hne : l ≠ it) (items : Array Value) : Draws prog w A it [it, l] items.size (fun i v => items[i]? = some v) (fun i h => h.IsTupleIter it l i ∧ h.IsTuple l items) where
  live := fun _ _ st => let ⟨o, ho, _⟩ := st.1; ⟨o, ho⟩
  frame := fun _ _ _ st hk => ⟨st.1.at fun o e => hk it (by simp) o e, let ⟨o, e, r⟩ := st.2; ⟨o, hk l (by simp) o e, r⟩⟩
  item := fun i s Q E hi st hQ => next_tup st.1 st.2 (x := items[i]) (by simp [hi]) fun g g1 g2 => hQ _ g s.toks (by simp [hi]) ⟨g1, let ⟨o, e, r⟩ := st.2; ⟨o, (g2.2 l hne).trans e, r⟩⟩ g2
  done := fun s Q E st hE => next_tupE hh st.1 st.2 (by simp) hE
theorem new_enumT (l : Addr) (items : Array Value) (n : Nat) (dct : Option Addr) (sl : Array (Option Value)) :
    Meets (Builtin.«enumerate.__new__» ⟨[.type "enumerate", .ref l], []⟩) (fun _ R s => s.heap.get? l = some { cls := .type "tuple", dict := dct, data := .seq items n, slots := sl } ∧
      R (.ok (.ret (.ref (s.heap.push { cls := .type "tuple_iterator", data := .fields #[.ref l, .int 0 0] }).objs.size)))
        { s with heap := (s.heap.push { cls := .type "tuple_iterator", data := .fields #[.ref l, .int 0 0] }).push { cls := .type "enumerate", data := .fields #[.none, .bool false, .ref s.heap.objs.size, rawInt 0, .none, .none] } }) :=
  .of_wp fun prog w A R s h => by
    obtain ⟨hp, g, d, tk, os⟩ := s
    obtain ⟨hl, h⟩ := h
    have hsub := sub_enumerate
    have hL : Heap.IsTuple (Shared.heap ⟨hp, g, d, tk, os⟩) l items := ⟨_, hl, rfl, n, rfl⟩
    wp_walk using AutoSeq1.wpAny_loadPart' hl
    refine wpAny_stack_any fun st => wpAny_pure ?_
    split
    · rename_i c _ _ _ _ _
      cases (c == Value.type "enumerate") <;> (wp_walk using AutoSeq1.wpAny_loadPart' hl, wpAny_pyIter_tuple hL; exact ⟨_, rfl, h⟩)
    · wp_walk using AutoSeq1.wpAny_loadPart' hl, wpAny_pyIter_tuple hL
      exact ⟨_, rfl, h⟩
theorem call_enumT {prog : Program} {w : World} {A : Around} {E : Value → Shared → Prop} {s : Shared} {l : Addr} {items : Array Value} {Q : Value → Shared → Prop} (hL : s.heap.IsTuple l items)
    (h : ∀ g, IsEnum g (s.heap.objs.size + 1) s.heap.objs.size 0 .none → g.IsTupleIter s.heap.objs.size l 0 → (∀ b o, s.heap.get? b = some o → g.get? b = some o) → Q (.ref (s.heap.objs.size + 1)) { s with heap := g }) : wpAny (model prog w) A (call (.type "enumerate") [.ref l]) Q E s := by
  obtain ⟨⟨_, dd, _, sl⟩, ho, rfl, n, rfl⟩ := id hL
  refine callType_new F.called_enumerate (by decide) (F.typeCall_enumerate_1 _) (F.newCall_enumerate_1 _) (fun obj => F.args_object_init_2 obj _) F.entry_enumerate_new (new_enumT l items n dd sl) ⟨ho, ?_⟩
  have hz : (s.heap.push { cls := .type "tuple_iterator", data := .fields #[.ref l, .int 0 0] }).objs.size = s.heap.objs.size + 1 := Heap.size_push ..
  have he := Heap.get?_push_size (s.heap.push { cls := .type "tuple_iterator", data := .fields #[.ref l, .int 0 0] }) (o := { cls := .type "enumerate", data := .fields #[.none, .bool false, .ref s.heap.objs.size, rawInt 0, .none, .none] }) rfl
  rw [hz] at he
  show _ ∧ _
  rw [hz]
  exact ⟨⟨_, he, rfl⟩, h _ he ⟨_, Heap.get?_push_of_some _ (Heap.get?_push_size _ rfl), rfl, rfl⟩ fun b o x => Heap.get?_push_of_some _ (Heap.get?_push_of_some _ x)⟩
/-- (0, t[0]), (1, t[1]), .. -/
def Ite (K : PySem.W.Frag) (a : Addr) : It :=
  ⟨fun i H => ∃ xs x, SqT K H a xs ∧ xs[i]? = some x, fun i H v H' => ∃ p x, H p = none ∧ v = .ref p ∧ (∀ xs, SqT K H a xs → xs[i]? = some x) ∧ H' = upd H p (.tup [.int i, x]), fun i H => ∃ xs, SqT K H a xs ∧ xs.length ≤ i⟩
theorem turn_enumT {P : Program} {w : World} {K : PySem.W.Frag} {elts : List Expr} {k1} {pos : Pos} (a e it : Addr) (hei : e ≠ it) : Turn P w K (.Tuple elts k1 pos) (Ite K a) [e, it] e (fun i h => (∃ old, IsEnum h e it i old) ∧ h.IsTupleIter it a i) where
  mem := by simp
  obj := fun i h st b hb => by
    obtain ⟨⟨old, h1⟩, o, h2, _, h3⟩ := st
    rcases List.mem_cons.mp hb with rfl | hb
    · exact ⟨_, h1, fun v z => by cases (show Data.fields _ = Data.cell v from z)⟩
    · cases List.mem_singleton.mp hb
      exact ⟨o, h2, fun v z => by rw [h3] at z; cases z⟩
  keep := fun i h h' st k => ⟨let ⟨old, h1⟩ := st.1; ⟨old, k e (by simp) _ h1⟩, st.2.at fun o z => k it (by simp) o z⟩
  item := by
    intro X hP hw hK hc i pins s σ H E I hf st hg
    subst hP hw hK
    obtain ⟨xs, x, hq, hx⟩ := hg
    obtain ⟨its, rv, p, hz⟩ := I.tuple hq
    obtain ⟨u, hu, ru⟩ := rv.get hx
    obtain ⟨⟨old, he⟩, ht⟩ := st
    have hit : s.heap.IsTuple a its.toArray := p
    have han : a ≠ it := by
      rintro rfl
      obtain ⟨o1, h1, h2, _⟩ := id hit
      obtain ⟨o2, h3, h4, _⟩ := id ht
      rw [h1] at h3; cases h3
      rw [h2] at h4; exact absurd (Value.type.inj h4) (by decide)
    have hae : a ≠ e := by
      rintro rfl
      obtain ⟨o1, h1, h2, _⟩ := id hit
      rw [he] at h1; cases h1
      exact absurd (Value.type.inj h2) (by decide)
    have D := drawsT (prog := X.prog) (w := X.w) (A := X.A.in1) (I.ok.hd hc) it a han its.toArray
    have hlt : i < its.toArray.size := by
      have := (List.getElem?_eq_some_iff.mp hx).1
      have hl := rv.length
      rw [List.size_toArray]; omega
    refine wpAny_pyNext_enum_itemD D he ⟨ht, hit⟩ hlt hei (by simp [hei, Ne.symm hae]) fun y g tk hy ho hst' htup hsz hk => ?_
    have e1 : y = u := by
      have : its.toArray[i]? = some u := by simpa using hu
      rw [this] at hy; exact (Option.some.inj hy).symm
    subst e1
    refine ⟨_, rfl, ?_⟩
    have helt : e < s.heap.objs.size := Heap.lt_size he
    have hilt : it < s.heap.objs.size := let ⟨o, z, _⟩ := ht; Heap.lt_size z
    have I1 : Inv X pins σ (upd H s.heap.objs.size (.tup [.int i, x])) { s with heap := g, toks := tk + 1 } := by
      refine I.turnLaid (fp := [e, it]) (fun b o hb z => hk b o (fun q => hb (by simp [q])) (fun q => hb (by simp [q])) z) (fun b hb => ?_) hf (Nat.le_refl _) ?_
      · rcases List.mem_cons.mp hb with rfl | hb
        · exact ⟨_, ho⟩
        · cases List.mem_singleton.mp hb
          exact let ⟨o, z, _⟩ := hst'.1; ⟨o, z⟩
      · exact ⟨by show 2 ≤ sizeLine; decide, [.int i tk, y], .cons ⟨_, rfl⟩ (.cons ru .nil), ⟨_, htup, rfl, _, rfl⟩⟩
    have hno : ∀ b ∈ [e, it], (upd H s.heap.objs.size (.tup [.int i, x])) b = none := fun b hb => by
      have hbl : b < s.heap.objs.size := by
        rcases List.mem_cons.mp hb with rfl | hb
        · exact helt
        · cases List.mem_singleton.mp hb; exact hilt
      rw [upd_ne (Nat.ne_of_lt hbl)]
      exact (hf b hb).1
    refine wpAny_letOwnedTupleGo_enum ho fun g2 he2 hs2 => ?_
    obtain ⟨f0, f1, f2, f3, f4, f5⟩ := hf e (by simp)
    refine ⟨.ref s.heap.objs.size, _, I1.turned (t' := tk + 1) (fun b o hb z => (hs2.2 b hb).trans z) (hno e (by simp)) f1 f3 f4 f5, rfl, ⟨s.heap.objs.size, x, I.hok.fresh (Nat.le_refl _), rfl, fun ys hy => by rw [I.tuple_inj hy hq]; exact hx, rfl⟩, ⟨⟨_, by simpa using he2⟩, ?_⟩, hno⟩
    exact hst'.1.at fun o z => (hs2.2 it (Ne.symm hei)).trans z
  done := by
    intro X hP hw hK hc i pins s σ H E I hf st hg
    subst hP hw hK
    obtain ⟨xs, hq, hx⟩ := hg
    obtain ⟨its, rv, p, hz⟩ := I.tuple hq
    obtain ⟨⟨old, he⟩, ht⟩ := st
    obtain ⟨f0, f1, f2, f3, f4, f5⟩ := hf it (by simp)
    have hl := rv.length
    have hT : s.TypeIs (.ref e) "enumerate" := ⟨_, he, rfl⟩
    unfold pyNext
    refine wpAny_bind (wpAny_attempt (wpAny_callSpecial?_slot (name := Str.ofString "__next__") hT F.slot_enumerate_next (wpAny_call_entry F.slot_enumerate_next hT F.entry_enumerate_next ?_ (F.args_enumerate_next_1 _))))
    show wpAny _ _ (field (.ref e) 2 >>= _) _ _ _
    refine wpAny_bind (wpAny_field he rfl (x := .ref it) rfl (wpAny_bind (next_tupE (A := X.A.in1) (I.ok.hd hc) ht (show s.heap.IsTuple a its.toArray from p) (by simp; omega) fun g x ex hx' => ?_)))
    obtain ⟨o, ho, hcl⟩ := hx'
    exact wpAny_bind (wpAny_isInstance (T := "StopIteration") (b := true) ⟨o, ho, hcl⟩ isSubtype_stop (wpAny_pure ⟨rfl, I.turned (t' := s.toks) (fun b o hb e => ex b o hb e) f0 f1 f3 f4 f5⟩))
  self := fun _ _ _ _ _ st h => let ⟨_, he⟩ := st.1; wpAny_pyIter_enum he h
def iEnum (K : PySem.W.Frag) (ta : TA) : TI := fun σ H R => ta σ H fun vs H1 => ∃ a, vs = [.ref a] ∧ (∃ xs, SqT K H1 a xs) ∧ R (Ite K a) H1
theorem pi_enumT {elts : List Expr} {k1} {pt : Pos} {a : Expr} {ta : TA} {p pos : Pos} (hg : Gl X "enumerate") (hm : X.mg "enumerate" = none) (hv : bootBuiltins "enumerate" = some (.type "enumerate")) (ha : PA X [a] ta) (hs : starEach [a] X.env = [(false, eval a X.env)] := by rfl) : PI X (.Tuple elts k1 pt) (.Call (.Name "enumerate" p) [a] [] pos) (iEnum X.K ta) := by
  intro pins s σ H R I h
  refine Call_ (ld_blt I hg hm hv (PyProof.Rows.callWith_type1 (thn (ha pos pins s σ H _ I h) fun us s1 ⟨vs, H1, I1, r1, q1⟩ => ?_) hs rfl))
  obtain ⟨l, rfl, ⟨xs, hq⟩, q⟩ := q1
  obtain ⟨u, rfl, e⟩ := vals1 r1
  cases (show u = Value.ref l from e)
  obtain ⟨its, rv, hp, hz⟩ := I1.tuple hq
  refine call_enumT (show s1.heap.IsTuple l its.toArray from hp) fun g he hi hk => wpAny_pyIter_enum he ?_
  refine ⟨s1.heap.objs.size + 1, [s1.heap.objs.size + 1, s1.heap.objs.size], _, _, H1, rfl, I1.kept (t' := s1.toks) hk, turn_enumT l _ s1.heap.objs.size (Nat.succ_ne_self _), ⟨⟨_, he⟩, hi⟩, fun b hb => ?_, q⟩
  rcases List.mem_cons.mp hb with rfl | hb
  · exact I1.fpOk (Nat.le_succ _) (I1.hok.fresh (Nat.le_succ _))
  · cases List.mem_singleton.mp hb
    exact I1.fpOk (Nat.le_refl _) (I1.hok.fresh (Nat.le_refl _))
theorem for_enumT {K : PySem.W.Frag} {a : Addr} {xs : List V} {g : TG} {tb : TS} {D : Ends} {σ : St} {H : Hp} (Pv : Nat → St → Hp → Prop) (h0 : Pv 0 σ H) (hl : ∀ i σ H, i ≤ xs.length → Pv i σ H → SqT K H a xs)
    (hs : ∀ i x σ H p, xs[i]? = some x → Pv i σ H → H p = none → g (.ref p) σ (upd H p (.tup [.int i, x])) fun σ2 H2 => tb { D with nx := Pv (i + 1), ct := Pv (i + 1), bk := D.nx } σ2 H2)
    (hd : ∀ σ H, Pv xs.length σ H → D.nx σ H) :
    ∃ W : Nat → Nat → St → Hp → Prop, (∃ m, W 0 m σ H) ∧ ∀ i m σ H, W i m σ H → ((Ite K a).stop i H ∧ D.nx σ H) ∨ ((Ite K a).go i H ∧ ∃ N : St → Hp → Prop, (∀ σ' H', N σ' H' → ∃ m', m' < m ∧ W (i + 1) m' σ' H') ∧ ∀ x H', (Ite K a).yld i H x H' → g x σ H' fun σ2 H2 => tb { D with nx := N, ct := N, bk := D.nx } σ2 H2) := by
  refine ⟨fun i m σ H => m = xs.length - i ∧ i ≤ xs.length ∧ Pv i σ H, ⟨xs.length, by simp, Nat.zero_le _, h0⟩, ?_⟩
  rintro i m σ H ⟨rfl, hi, p⟩
  have q := hl i σ H hi p
  by_cases hlt : i < xs.length
  · refine .inr ⟨⟨xs, xs[i], q, by simp [hlt]⟩, Pv (i + 1), fun σ' H' z => ⟨xs.length - (i + 1), by omega, rfl, hlt, z⟩, ?_⟩
    rintro x H' ⟨p', y, hn, rfl, hy, rfl⟩
    exact hs i y σ H p' (hy xs q) p hn
  · have e : i = xs.length := by omega
    subst e
    exact .inl ⟨⟨xs, q, Nat.le_refl _⟩, hd σ H p⟩
theorem bt_enumerate : bootBuiltins "enumerate" = some (.type "enumerate") := by decide +kernel
/-! ### list.index of texts -/
def rIndex (K : PySem.W.Frag) : V → List V → Hp → VK → Prop := fun x vs H Q => ∃ (a : Addr) (y : Str) (ys : List Str), x = .ref a ∧ vs = [.str y] ∧ SqL K H a (ys.map V.str) ∧ y ∈ ys ∧ Q (.int (ys.idxOf y)) H
theorem mt_index (hu : X.A.units + 64 < cLine) : MtR X "list.index" (rIndex X.K) := by
  intro pins s σ H x vs v us Q I rx rv h
  obtain ⟨a, y, ys, rfl, rfl, hq, hy, q⟩ := h
  cases (show v = Value.ref a from rx)
  obtain ⟨u, rfl, t, rfl⟩ := vals1 rv
  obtain ⟨its, rs, p, hz⟩ := I.list hq
  obtain ⟨⟨_, dd, _, sl⟩, ho, rfl, n, rfl⟩ := id p.isList
  have hlen := rs.length
  rw [List.length_map] at hlen hz
  have hj : ys.idxOf y < ys.length := List.idxOf_lt_length_iff.mpr hy
  have hn := line63
  let e : Value → Bool := fun z => match z with | .str b _ => b == y | _ => false
  have at_ : ∀ i (hi : i < its.length), ∃ b t', its[i] = .str b t' ∧ ys[i]? = some b := fun i hi => by
    obtain ⟨b, hb⟩ : ∃ b, ys[i]? = some b := ⟨ys[i], by rw [List.getElem?_eq_getElem]⟩
    obtain ⟨w', hw, t', rfl⟩ := rs.get (i := i) (x := .str b) (by rw [List.getElem?_map, hb]; rfl)
    rw [List.getElem?_eq_getElem hi] at hw
    exact ⟨b, t', Option.some.inj hw, hb⟩
  refine call_meets PySem.F.slot_list_index ⟨_, ho, rfl⟩ PySem.F.entry_list_index (PySem.F.args_list_index_2 _ _) (list_indexAt a its.toArray n dd sl (.str y t) e (ys.idxOf y) (by rw [List.size_toArray]; omega) (by omega) ?_ ?_) ⟨ho, fun z hz' => ?_, ⟨.int (ys.idxOf y : Nat), H, I.tok _, ⟨_, rfl⟩, q⟩⟩
  · obtain ⟨b, t', e1, e2⟩ := at_ (ys.idxOf y) (by omega)
    show e its[ys.idxOf y] = true
    rw [e1]
    rw [List.getElem?_eq_getElem hj, List.getElem_idxOf] at e2
    cases e2
    show (y == y) = true
    simp
  · intro m hm hlt
    have hm' : m < its.length := by simpa using hm
    obtain ⟨b, t', e1, e2⟩ := at_ m hm'
    show e its[m] = false
    rw [e1]
    show (b == y) = false
    rw [List.getElem?_eq_getElem (by omega)] at e2
    have := Option.some.inj e2
    rw [← this]
    exact List.not_of_lt_findIdx (p := (· == y)) (xs := ys) hlt
  · obtain ⟨i, hi, e1⟩ := Array.getElem_of_mem hz'
    have hi' : i < its.length := by simpa using hi
    obtain ⟨b, t', e2, _⟩ := at_ i hi'
    have e3 : z = .str b t' := by rw [← e1]; simpa using e2
    rw [e3]
    have := eq_at (A := X.A.in1) I (v := .str b) (w := .str y) (d := .str b) (e := .str y) (u := .str b t') (x := .str y t) (.str b) (.str y) ⟨_, rfl⟩ ⟨_, rfl⟩ (by show X.A.units + 1 + 0 < cLine; omega)
    have ee : pdEq (.str b) (.str y) = (b == y) := by simp [pdEq]
    rw [ee] at this
    exact this
end
end L2

set_option Elab.async false
set_option linter.all false
set_option maxRecDepth 100000
set_option maxHeartbeats 4000000
namespace Cm
open PySem L2
def top (i : Nat) : Stmt := PySem.Challenge.pw_lanescribe_k02_kinds_alike_and_shown.main.body.getD i (.Pass ⟨0, 0, 0, 0⟩)
/-! ### the drawer: cells, at, rest, seed -/
def drK (c : Addr) (a r s : Int) : List (Key × V) := [(.inr "cells", .ref c), (.inr "at", .int a), (.inr "rest", .int r), (.inr "seed", .int s)]
theorem pat {c : Addr} {a r s x : Int} : putK (drK c a r s) (.inr "at") (.int x) = drK c x r s := by rfl
theorem prest {c : Addr} {a r s x : Int} : putK (drK c a r s) (.inr "rest") (.int x) = drK c a x s := by rfl
theorem pseed {c : Addr} {a r s x : Int} : putK (drK c a r s) (.inr "seed") (.int x) = drK c a r x := by rfl
theorem gcells {H : Hp} {p c : Addr} {a r s : Int} (h : H p = some (.dK (drK c a r s))) : DGet H p (.str "cells") (some (.ref c)) := DGet.k (k := Sum.inr "cells") h
theorem gat {H : Hp} {p c : Addr} {a r s : Int} (h : H p = some (.dK (drK c a r s))) : DGet H p (.str "at") (some (.int a)) := DGet.k (k := Sum.inr "at") h
theorem grest {H : Hp} {p c : Addr} {a r s : Int} (h : H p = some (.dK (drK c a r s))) : DGet H p (.str "rest") (some (.int r)) := DGet.k (k := Sum.inr "rest") h
theorem gseed {H : Hp} {p c : Addr} {a r s : Int} (h : H p = some (.dK (drK c a r s))) : DGet H p (.str "seed") (some (.int s)) := DGet.k (k := Sum.inr "seed") h
abbrev Big : Int := 2305843009213693951
structure Dr (H : Hp) (p c : Addr) : Prop where
  ex : ∃ (ns : List Int) (a r s : Int), H p = some (.dK (drK c a r s)) ∧ H c = some (.lst (ns.map V.int)) ∧ ns.length ≤ 63 ∧ 0 ≤ a ∧ a ≤ ns.length ∧ 0 ≤ r ∧ 0 ≤ s ∧ s < Big
/-- but the drawer's dict, all is as it was -/
theorem Dr.mono {H H' : Hp} {p c : Addr} (d : Dr H p c) (h : Same H H') : Dr H' p c := by
  obtain ⟨ns, a, r, s, h1, h2, k⟩ := d.ex
  exact ⟨ns, a, r, s, h _ _ h1, h _ _ h2, k⟩
theorem Dr.ne {H : Hp} {p c q : Addr} {o : HO} (d : Dr H p c) (h : H q = some o) (hd : ∀ kvs, o ≠ .dK kvs) : q ≠ p := by
  obtain ⟨ns, a, r, s, h1, _⟩ := d.ex
  exact ne_of h h1 (hd _)
/-- another object than the drawer's own two is rewritten -/
theorem Dr.put {H : Hp} {p c q : Addr} {o : HO} (d : Dr H p c) (h1 : q ≠ p) (h2 : q ≠ c) : Dr (upd H q o) p c := by
  obtain ⟨ns, a, r, s, e1, e2, k⟩ := d.ex
  exact ⟨ns, a, r, s, by rw [upd_ne h1.symm]; exact e1, by rw [upd_ne h2.symm]; exact e2, k⟩
theorem Dr.cell {H : Hp} {p c : Addr} (d : Dr H p c) : ∃ xs, H c = some (.lst xs) := by
  obtain ⟨ns, a, r, s, e1, e2, k⟩ := d.ex
  exact ⟨_, e2⟩
theorem Dr.neN {H : Hp} {p c q : Addr} (d : Dr H p c) (h : H q = none) : p ≠ q := by
  obtain ⟨ns, a, r, s, h1, _⟩ := d.ex
  exact ne_of_none h1 h

structure Txt (K : PySem.W.Frag) (mg : Str → Option Value) : Prop where
  len : mg "len" = none
  range : mg "range" = none
  list : mg "list" = none
  tuple : mg "tuple" = none
  str : mg "str" = none
  bool : mg "bool" = none
  int : mg "int" = none
  min : mg "min" = none
  repr : mg "repr" = none
  all : mg "all" = none
  any : mg "any" = none
  isinstance : mg "isinstance" = none
section
variable {P : Program} {w : World} {K : PySem.W.Frag} {mg : Str → Option Value} {base : Heap}

/-! ### _law_begin -/
def spBegin (K : PySem.W.Frag) : Sp := fun vs H Q _ => ∃ (a : Addr) (ns : List Int), vs = [.ref a] ∧ SqL K H a (ns.map V.int) ∧ ns.length ≤ 63 ∧ ∀ (p c : Addr) (H' : Hp), Dr H' p c → Same H H' → H p = none → Q (.ref p) H'
theorem scB : FnScope ["_law_script", "_law_seed", "_law_cell"] ["_law_script"] (defScope (top 17)) := ⟨rfl, rfl, rfl, by decide +kernel, rfl, by decide +kernel, by decide +kernel⟩
theorem ok_begin {f : Addr} {fd : FuncData} (F : Fun K "_law_begin" "_law_begin" (top 17) f fd) (T : Txt K mg) : FnOk P w K mg base CX0 1 f fd ["_law_script"] (spBegin K) := by
  refine F.ok scB (fun vs H Q E h => ?_) (fun cdv A outer s H vs Q E hr h => ?_)
  · obtain ⟨a, ns, rfl, _⟩ := h
    rfl
  · obtain ⟨a, ns, rfl, hS, hlen, k⟩ := h
    refine ⟨_, (pss_cons (ps_set (i := 1) scB.nd rfl (Or.inl rfl) pe_int)
      (pss_cons (ps_for PassesOwn.never rfl (pi_list (pe_slice sl_list (pv 0) po_none (po_some pe_int))) (pg_name (i := 2) scB.nd rfl (Or.inl rfl))
        (pss_one (ps_set (i := 1) scB.nd rfl (Or.inl rfl) (pe_op op_mod (pe_op op_add (pe_op op_add (pe_op op_mul (pv 1) pe_int) (pe_op op_mul (pv 2) pe_int)) pe_int) pe_int))))
      (pss_one (ps_ret (pe_disp (pps_cons pe_str (pe_callTy call_list_of (by rfl) T.list bt_list (pa_cons (pe_slice sl_list (pv 0) po_none (po_some pe_int)) pa_nil)) (pps_cons pe_str pe_int (pps_cons pe_str pe_int (pps_cons pe_str (pv 1) pps_nil)))) rfl rfl (List.cons_ne_nil _ _) (by show 4 ≤ 15; decide)))))), ?_⟩
    have hcut : cutV (ns.map V.int) none (some 63) = ns.map V.int := by
      show ((ns.map V.int).drop (HT.sIx _ 0 none)).take (HT.sIx _ _ (some ((63 : Nat) : Int)) - HT.sIx _ 0 none) = _
      rw [HT.sIx_none, HT.sIx_nat, List.drop_zero, Nat.sub_zero, List.take_of_length_le]
      rw [List.length_map]; omega
    refine ⟨_, rfl, _, rfl, a, _, rfl, hS, fun q hq => ⟨q, rfl, ⟨_, SqL.of upd_same⟩, ?_⟩⟩
    rw [hcut]
    have hS' : ∀ o, SqL K (upd H q o) a (ns.map V.int) := fun o => (show Same H (upd H q o) from fun b u e => by rw [upd_ne (ne_of_none e hq)]; exact e).seq hS
    refine for_list (K := K) (a := q) (xs := ns.map V.int) (fun i σ H2 => ∃ (z : Int) (v : Option V), σ = [some (.ref a), some (.int z), v] ∧ 0 ≤ z ∧ z < Big ∧ H2 = upd H q (.lst (ns.map V.int)))
      ⟨20011, none, rfl, by decide, by decide, rfl⟩ (fun i σ H2 _ ⟨_, _, _, _, _, e⟩ => by rw [e]; exact SqL.of upd_same) ?_ ?_
    · rintro i y σ H2 hi ⟨z, v, rfl, h0, h1, rfl⟩
      obtain ⟨n, -, rfl⟩ := List.mem_map.mp (List.mem_of_getElem? hi)
      refine ⟨_, rfl, _, _, rfl, rfl, .inl ⟨by omega, by simp only [Big] at h1; omega⟩, _, rfl, _, _, rfl, rfl, .inr ⟨by decide, by decide⟩, _, _, rfl, rfl, _, _, rfl, rfl, _, _, rfl, rfl, (by show (0 : Int) < 2305843009213693951; decide), ?_⟩
      exact ⟨_, _, rfl, Int.emod_nonneg _ (by decide), Int.emod_lt_of_pos _ (by decide), rfl⟩
    · rintro σ H2 ⟨z, v, rfl, h0, h1, rfl⟩
      intro p hp
      have s1 : Same H (upd (upd H q (.lst (ns.map V.int))) p (.dK [])) := (Same.new hq).trans (Same.new hp)
      refine ⟨_, rfl, _, rfl, a, _, rfl, s1.seq hS, fun q2 hq2 => ⟨q2, _, rfl, .inl (SqL.of upd_same), fun l hl => ⟨_, rfl, ?_, drK l 0 0 z, rfl, by show 4 ≤ 15; decide, ?_⟩⟩⟩
      · exact (Same.new hl) _ _ ((Same.new hq2) _ _ upd_same)
      · rw [hcut]
        have hpl : (upd (upd (upd (upd H q (.lst (ns.map V.int))) p (.dK [])) q2 (.lst (ns.map V.int))) l (.lst (ns.map V.int))) p = some (.dK []) := (Same.new (by rw [hcut] at hl; exact hl)) _ _ ((Same.new hq2) _ _ upd_same)
        have hlp : l ≠ p := ne_of upd_same hpl (by intro z; cases z)
        refine k p l _ ⟨ns, 0, 0, z, upd_same, by rw [upd_ne hlp]; exact upd_same, hlen, by decide, by omega, by decide, h0, h1⟩ ?_ ((Same.new hq).free hp)
        intro b u e
        have e1 := ((Same.new (q := l) (o := .lst (ns.map V.int)) (by rw [hcut] at hl; exact hl)) _ _ ((Same.new hq2) _ _ (s1 b u e)))
        rw [upd_ne (ne_of_none ((Same.new hq) b u e) hp)]
        exact e1

/-! ### _law_pick -/
def spPick : Sp := fun vs H Q _ => ∃ (p c : Addr) (m : Int), vs = [.ref p, .int m] ∧ Dr H p c ∧ 0 < m ∧ m < 340282366920938463463374607431768211456 ∧ ∀ (r : Int) (H' : Hp), 0 ≤ r → r < m → Dr H' p c → But p H H' → Q (.int r) H'
theorem scP : FnScope ["_law_d", "_law_many", "_law_cell", "_law_digit", "_law_one"] ["_law_d", "_law_many"] (defScope (top 18)) := ⟨rfl, rfl, rfl, by decide +kernel, rfl, by decide +kernel, by decide +kernel⟩
theorem ok_pick {f : Addr} {fd : FuncData} (F : Fun K "_law_pick" "_law_pick" (top 18) f fd) (T : Txt K mg) : FnOk P w K mg base CX0 1 f fd ["_law_d", "_law_many"] spPick := by
  refine F.ok scP (fun vs H Q E h => ?_) (fun cdv A outer s H vs Q E hr h => ?_)
  · obtain ⟨p, c, m, rfl, _⟩ := h
    rfl
  · obtain ⟨p, c, m, rfl, D, m0, m1, k⟩ := h
    have hu := hu_of hr
    refine ⟨_, (pss_cons
  (ps_if (PW.pt (pw_and (pt_cmpR op_eq (pe_dget hu (pv 0) pe_str (fun _ _ => rfl)) pe_int (nomark _)) (pw_and1 (pt_cmpR op_lt (pe_dget hu (pv 0) pe_str (fun _ _ => rfl)) (pe_callB call_len_seq (by rfl) T.len bt_len (pa_cons (pe_dget hu (pv 0) pe_str (fun _ _ => rfl)) pa_nil)) (nomark _))))) (pss_cons
  (ps_set (i := 2) scP.nd rfl (Or.inl rfl) (pe_ix ix_list (pe_dget hu (pv 0) pe_str (fun _ _ => rfl)) (pe_dget hu (pv 0) pe_str (fun _ _ => rfl)) (fun _ _ => rfl)))
  (pss_cons
  (ps_dput hu (pv 0) pe_str (pe_op op_add (pe_dget hu (pv 0) pe_str (fun _ _ => rfl)) pe_int) rfl)
  (pss_one
  (ps_if (pt_cmpR op_ge (pv 2) (pe_op op_pow pe_int pe_int) (nomark _)) (pss_one
  (ps_dput hu (pv 0) pe_str (pv 2) rfl)) (pss_one
  (ps_dput hu (pv 0) pe_str (pe_op op_mod (pe_op op_add (pe_op op_add (pe_op op_mul (pe_dget hu (pv 0) pe_str (fun _ _ => rfl)) pe_int) (pe_op op_mul (pv 2) pe_int)) pe_int) pe_int) rfl)))))) pss_nil)
  (pss_cons
  (ps_if (pt_cmpR op_gt (pe_dget hu (pv 0) pe_str (fun _ _ => rfl)) pe_int (nomark _)) (pss_cons
  (ps_set (i := 3) scP.nd rfl (Or.inl rfl) (pe_op op_mod (pe_dget hu (pv 0) pe_str (fun _ _ => rfl)) (pv 1)))
  (pss_cons
  (ps_dput hu (pv 0) pe_str (pe_op op_fdivW (pe_dget hu (pv 0) pe_str (fun _ _ => rfl)) (pv 1)) rfl)
  (pss_one
  (ps_ret (pv 3))))) pss_nil)
  (pss_cons
  (ps_set (i := 4) scP.nd rfl (Or.inl rfl) (pe_op op_mod (pe_op op_mul (pe_dget hu (pv 0) pe_str (fun _ _ => rfl)) (pe_dget hu (pv 0) pe_str (fun _ _ => rfl))) pe_int))
  (pss_cons
  (ps_dput hu (pv 0) pe_str (pe_op op_mod (pe_op op_add (pe_op op_add (pe_op op_mul (pv 4) pe_int) (pe_op op_mul (pe_dget hu (pv 0) pe_str (fun _ _ => rfl)) pe_int)) pe_int) pe_int) rfl)
  (pss_one
  (ps_ret (pe_op op_mod (pe_op op_fdiv (pe_dget hu (pv 0) pe_str (fun _ _ => rfl)) pe_int) (pv 1)))))))), ?_⟩
    obtain ⟨ns, a, r, sd, h1, h2, hl, a0, a1, r0, s0, s1⟩ := D.ex
    have npc : c ≠ p := ne_of h2 h1 (by intro z; cases z)
    have small : ∀ {x y z : Int}, (drK c x y z).length < sizeLine := fun {x y z} => small1000 (by show 4 ≤ 1000; decide)
    -- behind the first if: the drawer again, cells and place moved on
    refine seq_by (fun σ' H' => ∃ (a' r' sd' : Int) (v : Option V), σ' = [some (.ref p), some (.int m), v, none, none] ∧ H' p = some (.dK (drK c a' r' sd')) ∧ But p H H' ∧ 0 ≤ a' ∧ a' ≤ ns.length ∧ 0 ≤ r' ∧ 0 ≤ sd' ∧ sd' < Big) ?_ ?_
    · rintro σ' H1 ⟨a', r', sd', v, rfl, e1, bt, b0, b1, c0, d0, d1⟩
      have hc1 : ∀ o, (upd H1 p o) c = some (.lst (ns.map V.int)) := fun o => by rw [upd_ne npc]; exact bt c _ h2 npc
      refine ⟨_, rfl, p, _, rfl, grest e1, _, _, rfl, rfl, _, rfl, ?_⟩
      refine ite2 (fun hpos => ?_) (fun _ => ?_)
      · refine ⟨_, rfl, p, _, rfl, grest e1, _, rfl, _, _, rfl, rfl, m0, ?_⟩
        refine ⟨_, rfl, p, _, rfl, grest e1, _, rfl, _, _, rfl, rfl, ⟨m0, m1⟩, _, rfl, p, _, rfl, DPut.k (k := Sum.inr "rest") e1 small, _, rfl, ?_⟩
        rw [prest]
        exact k _ _ (Int.emod_nonneg _ (by omega)) (Int.emod_lt_of_pos _ m0) ⟨ns, a', r' / m, sd', upd_same, hc1 _, hl, b0, b1, Int.ediv_nonneg c0 (by omega), d0, d1⟩ (bt.trans But.upd)
      · have sq : CMul sd' sd' := .inl ⟨by omega, by simp only [Big] at d1; omega⟩
        refine ⟨_, rfl, p, _, rfl, gseed e1, _, rfl, p, _, rfl, gseed e1, _, _, rfl, rfl, sq, _, _, rfl, rfl, (by show (0 : Int) < 2305843009213693951; decide), ?_⟩
        have u0 := Int.emod_nonneg (sd' * sd') (show (2305843009213693951 : Int) ≠ 0 by decide)
        have u1 := Int.emod_lt_of_pos (sd' * sd') (show (0 : Int) < 2305843009213693951 by decide)
        refine ⟨_, rfl, _, _, rfl, rfl, .inr ⟨by decide, by decide⟩, _, rfl, p, _, rfl, gseed e1, _, _, rfl, rfl, .inr ⟨by decide, by decide⟩, _, _, rfl, rfl, _, _, rfl, rfl, _, _, rfl, rfl, (by show (0 : Int) < 2305843009213693951; decide), _, rfl, p, _, rfl, DPut.k (k := Sum.inr "seed") e1 small, ?_⟩
        rw [pseed]
        generalize hsd : (sd' * sd' % 2305843009213693951 * 7 + sd' * 40503 + 12345) % 2305843009213693951 = sn
        have v0 : 0 ≤ sn := hsd ▸ Int.emod_nonneg _ (by decide)
        have v1 : sn < Big := hsd ▸ Int.emod_lt_of_pos _ (by decide)
        refine ⟨_, rfl, p, _, rfl, gseed upd_same, _, _, rfl, rfl, ⟨by decide, by decide⟩, _, rfl, _, _, rfl, rfl, m0, ?_⟩
        exact k _ _ (Int.emod_nonneg _ (by omega)) (Int.emod_lt_of_pos _ m0) ⟨ns, a', r', sn, upd_same, hc1 _, hl, b0, b1, c0, v0, v1⟩ (bt.trans But.upd)
    · intro N hN
      refine ⟨_, rfl, p, _, rfl, grest h1, rfl, _, rfl, ?_⟩
      refine ite2 (fun hz => ?_) (fun _ => ?_)
      · refine ⟨_, rfl, p, _, rfl, gat h1, _, rfl, p, _, rfl, gcells h1, c, _, rfl, .inl (SqL.of h2), _, _, rfl, rfl, _, rfl, ?_⟩
        rw [List.length_map]
        refine ite2 (fun hlt => ?_) (fun _ => ?_)
        · have hlt : a < ns.length := of_decide_eq_true hlt
          obtain ⟨z, hz'⟩ : ∃ z, ns[a.toNat]? = some z := ⟨_, List.getElem?_eq_getElem (by omega)⟩
          have hat : atI (ns.map V.int) a = some (.int z) := by
            have e : (a : Int) = ((a.toNat : Nat) : Int) := by omega
            rw [e]
            refine atI_nat ?_
            rw [List.getElem?_map, hz']; rfl
          refine ⟨_, rfl, p, _, rfl, gcells h1, _, rfl, p, _, rfl, gat h1, c, _, _, _, rfl, rfl, SqL.of h2, hat, ?_⟩
          refine ⟨_, rfl, p, _, rfl, gat h1, _, _, rfl, rfl, _, rfl, p, _, rfl, DPut.k (k := Sum.inr "at") h1 small, ?_⟩
          rw [pat]
          refine ⟨_, rfl, _, _, rfl, rfl, ⟨by decide, by decide, by decide⟩, _, _, rfl, rfl, _, rfl, ?_⟩
          refine ite2 (fun hge => ?_) (fun _ => ?_)
          · refine ⟨_, rfl, _, rfl, p, _, rfl, DPut.k (k := Sum.inr "rest") upd_same small, ?_⟩
            rw [prest]
            have hge : (10 : Int) ^ 18 ≤ z := of_decide_eq_true hge
            exact hN _ _ ⟨a + 1, z, sd, _, rfl, upd_same, But.upd.trans But.upd, by omega, by omega, by omega, s0, s1⟩
          · refine ⟨_, rfl, p, _, rfl, gseed upd_same, _, _, rfl, rfl, .inr ⟨by decide, by decide⟩, _, rfl, _, _, rfl, rfl, .inr ⟨by decide, by decide⟩, _, _, rfl, rfl, _, _, rfl, rfl, _, _, rfl, rfl, (by show (0 : Int) < 2305843009213693951; decide), _, rfl, p, _, rfl, DPut.k (k := Sum.inr "seed") upd_same small, ?_⟩
            rw [pseed]
            exact hN _ _ ⟨a + 1, r, _, _, rfl, upd_same, But.upd.trans But.upd, by omega, by omega, r0, Int.emod_nonneg _ (by decide), Int.emod_lt_of_pos _ (by decide)⟩
        · exact hN _ _ ⟨a, r, sd, _, rfl, h1, But.refl, a0, a1, r0, s0, s1⟩
      · exact hN _ _ ⟨a, r, sd, _, rfl, h1, But.refl, a0, a1, r0, s0, s1⟩
end
end Cm

set_option Elab.async false
set_option linter.all false
set_option maxRecDepth 100000
set_option maxHeartbeats 4000000
namespace Cm
open PySem L2
section
variable {P : Program} {w : World} {K : PySem.W.Frag} {mg : Str → Option Value} {base : Heap}
theorem Dr.dk {H : Hp} {p c : Addr} (d : Dr H p c) : ∃ kvs, H p = some (.dK kvs) := by
  obtain ⟨ns, a, r, s, h1, _⟩ := d.ex
  exact ⟨_, h1⟩
theorem Dr.seq {H H' : Hp} {p c a : Addr} {xs : List V} (d : Dr H p c) (e : But p H H') (h : SqL K H a xs) : SqL K H' a xs := let ⟨_, hp⟩ := d.dk; e.seq hp h
/-- a new object beside -/
theorem Dr.new {H : Hp} {p c q : Addr} {o : HO} (d : Dr H p c) (h : H q = none) : Dr (upd H q o) p c := d.mono (Same.new h)

/-! ### _law_of -/
def spOf (K : PySem.W.Frag) : Sp := fun vs H Q _ => ∃ (p c q : Addr) (xs : List V), vs = [.ref p, .ref q] ∧ Dr H p c ∧ SqL K H q xs ∧ xs ≠ [] ∧ xs.length ≤ 1000 ∧ ∀ (x : V) (H' : Hp), x ∈ xs → Dr H' p c → But p H H' → Q x H'
theorem scO : FnScope ["_law_d", "_law_things"] ["_law_d", "_law_things"] (defScope (top 19)) := ⟨rfl, rfl, rfl, by decide +kernel, rfl, by decide +kernel, by decide +kernel⟩
theorem ok_of {f fP : Addr} {fd fdP : FuncData} (F : Fun K "_law_of" "_law_of" (top 19) f fd) (T : Txt K mg) (DP : Def K mg "_law_pick" (top 18) ["_law_d", "_law_many"] fP fdP) : FnOk P w K mg base CX0 2 f fd ["_law_d", "_law_things"] (spOf K) := by
  have GP : FnOk P w K mg base CX0 1 fP fdP ["_law_d", "_law_many"] spPick := ok_pick DP.F T
  refine F.ok scO (fun vs H Q E h => ?_) (fun cdv A outer s H vs Q E hr h => ?_)
  · obtain ⟨p, c, q, xs, rfl, _⟩ := h
    rfl
  · obtain ⟨p, c, q, xs, rfl, D, hq, hne, hl, k⟩ := h
    refine ⟨_, (pss_one (ps_ret (pe_ix ix_list (pv 1) (pe_call GP hr rfl DP.mg DP.F.kp DP.b .nil pass0 (pa_cons (pv 0) (pa_cons (pe_callB call_len_seq (by rfl) T.len bt_len (pa_cons (pv 1) pa_nil)) pa_nil))) (fun _ _ => rfl)))), ?_⟩
    have hpos : 0 < xs.length := List.length_pos_iff.mpr hne
    refine ⟨_, rfl, _, rfl, _, rfl, q, xs, rfl, (.inl hq), p, c, _, rfl, D, by omega, by omega, fun r H' r0 r1 D' bt => ?_⟩
    obtain ⟨j, rfl⟩ := Int.eq_ofNat_of_zero_le r0
    have hx : j < xs.length := by omega
    exact ⟨q, xs, _, xs[j], rfl, rfl, D.seq bt hq, atI_nat (List.getElem?_eq_getElem hx), k _ _ (List.getElem_mem hx) D' bt⟩

/-! ### _law_same -/
def spS (K : PySem.W.Frag) : Nat → Sp
  | 0 => fun _ _ _ _ => False
  | n + 1 => fun vs H Q _ => ∃ (x y : V) (d e : PyData), vs = [x, y] ∧ Rep K H x d ∧ Rep K H y e ∧ pdDep e ≤ n ∧ pdMax e ≤ 1000 ∧ pdDep d ≤ 60 ∧ ∀ (b : Bool) (H' : Hp), (b = true ↔ d = e) → Same H H' → Q (.bl b) H'
theorem scS : FnScope ["_law_found", "_law_due"] ["_law_found", "_law_due"] (defScope (top 20)) := ⟨rfl, rfl, rfl, by decide +kernel, rfl, by decide +kernel, by decide +kernel⟩
theorem ok_same {f : Addr} {fd : FuncData} (DS : Def K mg "_law_same" (top 20) ["_law_found", "_law_due"] f fd) (T : Txt K mg) (n : Nat) : FnOk P w K mg base CX0 n f fd ["_law_found", "_law_due"] (spS K n) := by
  refine Nat.rec (motive := fun n => FnOk P w K mg base CX0 n f fd ["_law_found", "_law_due"] (spS K n)) ⟨fun _ _ _ _ h => h.elim, fun _ _ _ _ _ _ _ _ _ _ _ _ _ h => h.elim⟩ (fun n GS => ?_) n
  refine DS.F.ok scS (fun vs H Q E h => ?_) (fun cdv A outer s H vs Q E hr h => ?_)
  · obtain ⟨x, y, d, e, rfl, _⟩ := h
    rfl
  · obtain ⟨x, y, d, e, rfl, hx, hy, hn, hm, hd, k⟩ := h
    refine ⟨_, (pss_cons
  (ps_if (pt_cmpR op_isN (pv 1) pe_non (nomark _)) (pss_one
  (ps_ret (pe_cmpR op_isN (pv 0) pe_non (nomark _)))) pss_nil)
  (pss_cons
  (ps_if (PW.pt (pw_or (pt_val (pe_callB call_isT (by rfl) T.isinstance bt_isinstance (pa_cons (pv 1) (pa_cons (pe_ty rfl T.bool bt_bool) pa_nil)))) (pw_or1 (pt_val (pe_callB call_isT (by rfl) T.isinstance bt_isinstance (pa_cons (pv 0) (pa_cons (pe_ty rfl T.bool bt_bool) pa_nil))))))) (pss_one
  (ps_ret (pe_and (pe_callB call_isT (by rfl) T.isinstance bt_isinstance (pa_cons (pv 1) (pa_cons (pe_ty rfl T.bool bt_bool) pa_nil))) (pe_and (pe_callB call_isT (by rfl) T.isinstance bt_isinstance (pa_cons (pv 0) (pa_cons (pe_ty rfl T.bool bt_bool) pa_nil))) (pe_one (pe_cmpR op_eq (pv 0) (pv 1) (nomark _))))))) pss_nil)
  (pss_cons
  (ps_if (pt_val (pe_callB call_isT2 (by rfl) T.isinstance bt_isinstance (pa_cons (pv 1) (pa_cons (pe_tup (pa_cons (pe_ty rfl T.int bt_int) (pa_cons (pe_ty rfl T.str bt_str) pa_nil))) pa_nil)))) (pss_one
  (ps_ret (pe_and (pe_callB call_isT2 (by rfl) T.isinstance bt_isinstance (pa_cons (pv 0) (pa_cons (pe_tup (pa_cons (pe_ty rfl T.int bt_int) (pa_cons (pe_ty rfl T.str bt_str) pa_nil))) pa_nil))) (pe_and (pe_cmpR op_eq (pe_callB call_isT (by rfl) T.isinstance bt_isinstance (pa_cons (pv 0) (pa_cons (pe_ty rfl T.int bt_int) pa_nil))) (pe_callB call_isT (by rfl) T.isinstance bt_isinstance (pa_cons (pv 1) (pa_cons (pe_ty rfl T.int bt_int) pa_nil))) (nomark _)) (pe_one (pe_cmpR (op_eqD hr.units) (pv 0) (pv 1) (nomark _))))))) pss_nil)
  (pss_cons
  (ps_if (PW.pt (pw_or (pt_cmpR op_ne (pe_callB call_isT (by rfl) T.isinstance bt_isinstance (pa_cons (pv 1) (pa_cons (pe_ty rfl T.list bt_list) pa_nil))) (pe_callB call_isT (by rfl) T.isinstance bt_isinstance (pa_cons (pv 0) (pa_cons (pe_ty rfl T.list bt_list) pa_nil))) (nomark _)) (pw_or1 (pt_cmpR op_ne (pe_callB call_isT (by rfl) T.isinstance bt_isinstance (pa_cons (pv 1) (pa_cons (pe_ty rfl T.tuple bt_tuple) pa_nil))) (pe_callB call_isT (by rfl) T.isinstance bt_isinstance (pa_cons (pv 0) (pa_cons (pe_ty rfl T.tuple bt_tuple) pa_nil))) (nomark _))))) (pss_one
  (ps_ret pe_bl)) pss_nil)
  (pss_one
  (ps_ret (pe_and (pe_cmpR op_eq (pe_callB call_len_seq (by rfl) T.len bt_len (pa_cons (pv 0) pa_nil)) (pe_callB call_len_seq (by rfl) T.len bt_len (pa_cons (pv 1) pa_nil)) (nomark _)) (pe_one (pe_callB (call_allB rfl) (by rfl) T.all bt_all (pa_cons (pe_comp (own := ["_law_k"]) (js := [0, 1]) (N' := ["_law_k", "_law_found", "_law_due"]) (CompScope.of (osc := defScope (top 20)) (N := ["_law_found", "_law_due"]) rfl rfl ⟨rfl, by decide +kernel, by decide +kernel, by decide +kernel, rfl, by decide +kernel⟩) rfl (pi_range1 rfl T.range (pa_cons (pe_callB call_len_seq (by rfl) T.len bt_len (pa_cons (pv 1) pa_nil)) pa_nil)) (fun _ _ _ _ _ => (pg_name (i := 0) (show List.Nodup (["_law_k", "_law_found", "_law_due"] : List Str) by decide +kernel) rfl (Or.inl rfl) (Or.inr rfl))) (fun _ _ _ _ _ => pifs_nil) (fun _ _ _ _ _ => (pe_call GS hr rfl DS.mg DS.F.kp DS.b .nil pass0 (pa_cons (pe_ix (r := rIx K) ix_seq (pv 1) (pv 0) (fun _ _ => rfl)) (pa_cons (pe_ix (r := rIx K) ix_seq (pv 2) (pv 0) (fun _ _ => rfl)) pa_nil))))) pa_nil)))))))))), ?_⟩
    have fin : ∀ (b : Bool) (H' : Hp), (b = true ↔ d = e) → Same H H' → Q (.bl b) H' := k
    cases hy with
    | non =>
      refine ⟨_, rfl, rfl, _, rfl, ifT rfl ?_⟩
      refine ⟨_, rfl, rfl, ?_⟩
      refine fin _ _ ?_ (Same.refl _)
      cases hx <;> simp
    | bl b2 =>
      refine ⟨_, rfl, rfl, _, rfl, ifF rfl ?_⟩
      refine ⟨_, rfl, _, _, _, _, rfl, (.bl b2), rfl, _, rfl, ifT rfl (ifT rfl ?_)⟩
      refine ⟨_, rfl, _, _, _, _, rfl, (.bl b2), rfl, _, rfl, ifT rfl ?_⟩
      cases hx with
      | bl b1 => exact ⟨_, rfl, _, _, _, _, rfl, (.bl b1), rfl, _, rfl, ifT rfl ⟨_, rfl, _, rfl, rfl, fin _ _ (by simp) (Same.refl _)⟩⟩
      | non => exact ⟨_, rfl, _, _, _, _, rfl, .non, rfl, _, rfl, ifF rfl (fin _ _ (by simp) (Same.refl _))⟩
      | int i => exact ⟨_, rfl, _, _, _, _, rfl, (.int i), rfl, _, rfl, ifF rfl (fin _ _ (by simp) (Same.refl _))⟩
      | str z => exact ⟨_, rfl, _, _, _, _, rfl, (.str z), rfl, _, rfl, ifF rfl (fin _ _ (by simp) (Same.refl _))⟩
      | tup g rs => exact ⟨_, rfl, _, _, _, _, rfl, (.tup g rs), rfl, _, rfl, ifF rfl (fin _ _ (by simp) (Same.refl _))⟩
      | lst g rs => exact ⟨_, rfl, _, _, _, _, rfl, (.lst g rs), rfl, _, rfl, ifF rfl (fin _ _ (by simp) (Same.refl _))⟩
    | int i2 =>
      refine ⟨_, rfl, rfl, _, rfl, ifF rfl ?_⟩
      refine ⟨_, rfl, _, _, _, _, rfl, (.int i2), rfl, _, rfl, ifF rfl ?_⟩
      cases hx with
      | non =>
        refine ⟨_, rfl, _, _, _, _, rfl, .non, rfl, _, rfl, ifF rfl ?_⟩
        refine ⟨_, rfl, (show 2 ≤ sizeLine by decide), fun p hp => ⟨_, p, _, _, _, _, rfl, upd_same, Rep.same (.int i2) (Same.new hp), rfl, _, rfl, ifT rfl ?_⟩⟩
        have s1 : Same H (upd H p (.tup [.ty "int", .ty "str"])) := Same.new hp
        refine ⟨_, rfl, (show 2 ≤ sizeLine by decide), fun p2 hp2 => ⟨_, p2, _, _, _, _, rfl, upd_same, Rep.same (Rep.same .non s1) (Same.new hp2), rfl, _, rfl, ifF rfl (fin _ _ (by simp) (s1.trans (Same.new hp2)))⟩⟩
      | bl b1 =>
        refine ⟨_, rfl, _, _, _, _, rfl, (.bl b1), rfl, _, rfl, ifT rfl ?_⟩
        exact ⟨_, rfl, _, _, _, _, rfl, (.int i2), rfl, _, rfl, ifF rfl (fin _ _ (by simp) (Same.refl _))⟩
      | int i1 =>
        refine ⟨_, rfl, _, _, _, _, rfl, (.int i1), rfl, _, rfl, ifF rfl ?_⟩
        refine ⟨_, rfl, (show 2 ≤ sizeLine by decide), fun p hp => ⟨_, p, _, _, _, _, rfl, upd_same, Rep.same (.int i2) (Same.new hp), rfl, _, rfl, ifT rfl ?_⟩⟩
        have s1 : Same H (upd H p (.tup [.ty "int", .ty "str"])) := Same.new hp
        refine ⟨_, rfl, (show 2 ≤ sizeLine by decide), fun p2 hp2 => ⟨_, p2, _, _, _, _, rfl, upd_same, Rep.same (Rep.same (.int i1) s1) (Same.new hp2), rfl, _, rfl, ifT rfl ?_⟩⟩
        have s2 : Same H (upd (upd H p (.tup [.ty "int", .ty "str"])) p2 (.tup [.ty "int", .ty "str"])) := s1.trans (Same.new hp2)
        refine ⟨_, rfl, _, _, _, _, rfl, (Rep.same (.int i1) s2), rfl, _, rfl, _, _, _, _, rfl, (Rep.same (.int i2) s2), rfl, rfl, _, rfl, ?_⟩
        exact ifT rfl ⟨_, rfl, _, rfl, _, _, Rep.same (.int i1) s2, Rep.same (.int i2) s2, Nat.zero_le _, fin _ _ (by simp [pdEq]) s2⟩
      | str z1 =>
        refine ⟨_, rfl, _, _, _, _, rfl, (.str z1), rfl, _, rfl, ifF rfl ?_⟩
        refine ⟨_, rfl, (show 2 ≤ sizeLine by decide), fun p hp => ⟨_, p, _, _, _, _, rfl, upd_same, Rep.same (.int i2) (Same.new hp), rfl, _, rfl, ifT rfl ?_⟩⟩
        have s1 : Same H (upd H p (.tup [.ty "int", .ty "str"])) := Same.new hp
        refine ⟨_, rfl, (show 2 ≤ sizeLine by decide), fun p2 hp2 => ⟨_, p2, _, _, _, _, rfl, upd_same, Rep.same (Rep.same (.str z1) s1) (Same.new hp2), rfl, _, rfl, ifT rfl ?_⟩⟩
        have s2 : Same H (upd (upd H p (.tup [.ty "int", .ty "str"])) p2 (.tup [.ty "int", .ty "str"])) := s1.trans (Same.new hp2)
        refine ⟨_, rfl, _, _, _, _, rfl, (Rep.same (.str z1) s2), rfl, _, rfl, _, _, _, _, rfl, (Rep.same (.int i2) s2), rfl, rfl, _, rfl, ?_⟩
        exact ifF rfl (fin _ _ (by simp) s2)
      | tup g rs =>
        refine ⟨_, rfl, _, _, _, _, rfl, (.tup g rs), rfl, _, rfl, ifF rfl ?_⟩
        refine ⟨_, rfl, (show 2 ≤ sizeLine by decide), fun p hp => ⟨_, p, _, _, _, _, rfl, upd_same, Rep.same (.int i2) (Same.new hp), rfl, _, rfl, ifT rfl ?_⟩⟩
        have s1 : Same H (upd H p (.tup [.ty "int", .ty "str"])) := Same.new hp
        refine ⟨_, rfl, (show 2 ≤ sizeLine by decide), fun p2 hp2 => ⟨_, p2, _, _, _, _, rfl, upd_same, Rep.same (Rep.same (.tup g rs) s1) (Same.new hp2), rfl, _, rfl, ifF rfl (fin _ _ (by simp) (s1.trans (Same.new hp2)))⟩⟩
      | lst g rs =>
        refine ⟨_, rfl, _, _, _, _, rfl, (.lst g rs), rfl, _, rfl, ifF rfl ?_⟩
        refine ⟨_, rfl, (show 2 ≤ sizeLine by decide), fun p hp => ⟨_, p, _, _, _, _, rfl, upd_same, Rep.same (.int i2) (Same.new hp), rfl, _, rfl, ifT rfl ?_⟩⟩
        have s1 : Same H (upd H p (.tup [.ty "int", .ty "str"])) := Same.new hp
        refine ⟨_, rfl, (show 2 ≤ sizeLine by decide), fun p2 hp2 => ⟨_, p2, _, _, _, _, rfl, upd_same, Rep.same (Rep.same (.lst g rs) s1) (Same.new hp2), rfl, _, rfl, ifF rfl (fin _ _ (by simp) (s1.trans (Same.new hp2)))⟩⟩
    | str z2 =>
      refine ⟨_, rfl, rfl, _, rfl, ifF rfl ?_⟩
      refine ⟨_, rfl, _, _, _, _, rfl, (.str z2), rfl, _, rfl, ifF rfl ?_⟩
      cases hx with
      | non =>
        refine ⟨_, rfl, _, _, _, _, rfl, .non, rfl, _, rfl, ifF rfl ?_⟩
        refine ⟨_, rfl, (show 2 ≤ sizeLine by decide), fun p hp => ⟨_, p, _, _, _, _, rfl, upd_same, Rep.same (.str z2) (Same.new hp), rfl, _, rfl, ifT rfl ?_⟩⟩
        have s1 : Same H (upd H p (.tup [.ty "int", .ty "str"])) := Same.new hp
        refine ⟨_, rfl, (show 2 ≤ sizeLine by decide), fun p2 hp2 => ⟨_, p2, _, _, _, _, rfl, upd_same, Rep.same (Rep.same .non s1) (Same.new hp2), rfl, _, rfl, ifF rfl (fin _ _ (by simp) (s1.trans (Same.new hp2)))⟩⟩
      | bl b1 =>
        refine ⟨_, rfl, _, _, _, _, rfl, (.bl b1), rfl, _, rfl, ifT rfl ?_⟩
        exact ⟨_, rfl, _, _, _, _, rfl, (.str z2), rfl, _, rfl, ifF rfl (fin _ _ (by simp) (Same.refl _))⟩
      | int i1 =>
        refine ⟨_, rfl, _, _, _, _, rfl, (.int i1), rfl, _, rfl, ifF rfl ?_⟩
        refine ⟨_, rfl, (show 2 ≤ sizeLine by decide), fun p hp => ⟨_, p, _, _, _, _, rfl, upd_same, Rep.same (.str z2) (Same.new hp), rfl, _, rfl, ifT rfl ?_⟩⟩
        have s1 : Same H (upd H p (.tup [.ty "int", .ty "str"])) := Same.new hp
        refine ⟨_, rfl, (show 2 ≤ sizeLine by decide), fun p2 hp2 => ⟨_, p2, _, _, _, _, rfl, upd_same, Rep.same (Rep.same (.int i1) s1) (Same.new hp2), rfl, _, rfl, ifT rfl ?_⟩⟩
        have s2 : Same H (upd (upd H p (.tup [.ty "int", .ty "str"])) p2 (.tup [.ty "int", .ty "str"])) := s1.trans (Same.new hp2)
        refine ⟨_, rfl, _, _, _, _, rfl, (Rep.same (.int i1) s2), rfl, _, rfl, _, _, _, _, rfl, (Rep.same (.str z2) s2), rfl, rfl, _, rfl, ?_⟩
        exact ifF rfl (fin _ _ (by simp) s2)
      | str z1 =>
        refine ⟨_, rfl, _, _, _, _, rfl, (.str z1), rfl, _, rfl, ifF rfl ?_⟩
        refine ⟨_, rfl, (show 2 ≤ sizeLine by decide), fun p hp => ⟨_, p, _, _, _, _, rfl, upd_same, Rep.same (.str z2) (Same.new hp), rfl, _, rfl, ifT rfl ?_⟩⟩
        have s1 : Same H (upd H p (.tup [.ty "int", .ty "str"])) := Same.new hp
        refine ⟨_, rfl, (show 2 ≤ sizeLine by decide), fun p2 hp2 => ⟨_, p2, _, _, _, _, rfl, upd_same, Rep.same (Rep.same (.str z1) s1) (Same.new hp2), rfl, _, rfl, ifT rfl ?_⟩⟩
        have s2 : Same H (upd (upd H p (.tup [.ty "int", .ty "str"])) p2 (.tup [.ty "int", .ty "str"])) := s1.trans (Same.new hp2)
        refine ⟨_, rfl, _, _, _, _, rfl, (Rep.same (.str z1) s2), rfl, _, rfl, _, _, _, _, rfl, (Rep.same (.str z2) s2), rfl, rfl, _, rfl, ?_⟩
        exact ifT rfl ⟨_, rfl, _, rfl, _, _, Rep.same (.str z1) s2, Rep.same (.str z2) s2, Nat.zero_le _, fin _ _ (by simp [pdEq]) s2⟩
      | tup g rs =>
        refine ⟨_, rfl, _, _, _, _, rfl, (.tup g rs), rfl, _, rfl, ifF rfl ?_⟩
        refine ⟨_, rfl, (show 2 ≤ sizeLine by decide), fun p hp => ⟨_, p, _, _, _, _, rfl, upd_same, Rep.same (.str z2) (Same.new hp), rfl, _, rfl, ifT rfl ?_⟩⟩
        have s1 : Same H (upd H p (.tup [.ty "int", .ty "str"])) := Same.new hp
        refine ⟨_, rfl, (show 2 ≤ sizeLine by decide), fun p2 hp2 => ⟨_, p2, _, _, _, _, rfl, upd_same, Rep.same (Rep.same (.tup g rs) s1) (Same.new hp2), rfl, _, rfl, ifF rfl (fin _ _ (by simp) (s1.trans (Same.new hp2)))⟩⟩
      | lst g rs =>
        refine ⟨_, rfl, _, _, _, _, rfl, (.lst g rs), rfl, _, rfl, ifF rfl ?_⟩
        refine ⟨_, rfl, (show 2 ≤ sizeLine by decide), fun p hp => ⟨_, p, _, _, _, _, rfl, upd_same, Rep.same (.str z2) (Same.new hp), rfl, _, rfl, ifT rfl ?_⟩⟩
        have s1 : Same H (upd H p (.tup [.ty "int", .ty "str"])) := Same.new hp
        refine ⟨_, rfl, (show 2 ≤ sizeLine by decide), fun p2 hp2 => ⟨_, p2, _, _, _, _, rfl, upd_same, Rep.same (Rep.same (.lst g rs) s1) (Same.new hp2), rfl, _, rfl, ifF rfl (fin _ _ (by simp) (s1.trans (Same.new hp2)))⟩⟩
    | tup g2 rs2 =>
      refine ⟨_, rfl, rfl, _, rfl, ifF rfl ?_⟩
      refine ⟨_, rfl, _, _, _, _, rfl, (.tup g2 rs2), rfl, _, rfl, ifF rfl ?_⟩
      cases hx with
      | non =>
        refine ⟨_, rfl, _, _, _, _, rfl, .non, rfl, _, rfl, ifF rfl ?_⟩
        refine ⟨_, rfl, (show 2 ≤ sizeLine by decide), fun p hp => ⟨_, p, _, _, _, _, rfl, upd_same, Rep.same (.tup g2 rs2) (Same.new hp), rfl, _, rfl, ifF rfl ?_⟩⟩
        have s1 : Same H (upd H p (.tup [.ty "int", .ty "str"])) := Same.new hp
        refine ⟨_, rfl, _, _, _, _, rfl, (Rep.same (.tup g2 rs2) s1), rfl, _, rfl, _, _, _, _, rfl, (Rep.same .non s1), rfl, rfl, _, rfl, ifF rfl ?_⟩
        refine ⟨_, rfl, _, _, _, _, rfl, (Rep.same (.tup g2 rs2) s1), rfl, _, rfl, _, _, _, _, rfl, (Rep.same .non s1), rfl, rfl, _, rfl, ifT rfl ?_⟩
        exact fin _ _ (by simp) s1
      | bl b1 =>
        refine ⟨_, rfl, _, _, _, _, rfl, (.bl b1), rfl, _, rfl, ifT rfl ?_⟩
        exact ⟨_, rfl, _, _, _, _, rfl, (.tup g2 rs2), rfl, _, rfl, ifF rfl (fin _ _ (by simp) (Same.refl _))⟩
      | int i1 =>
        refine ⟨_, rfl, _, _, _, _, rfl, (.int i1), rfl, _, rfl, ifF rfl ?_⟩
        refine ⟨_, rfl, (show 2 ≤ sizeLine by decide), fun p hp => ⟨_, p, _, _, _, _, rfl, upd_same, Rep.same (.tup g2 rs2) (Same.new hp), rfl, _, rfl, ifF rfl ?_⟩⟩
        have s1 : Same H (upd H p (.tup [.ty "int", .ty "str"])) := Same.new hp
        refine ⟨_, rfl, _, _, _, _, rfl, (Rep.same (.tup g2 rs2) s1), rfl, _, rfl, _, _, _, _, rfl, (Rep.same (.int i1) s1), rfl, rfl, _, rfl, ifF rfl ?_⟩
        refine ⟨_, rfl, _, _, _, _, rfl, (Rep.same (.tup g2 rs2) s1), rfl, _, rfl, _, _, _, _, rfl, (Rep.same (.int i1) s1), rfl, rfl, _, rfl, ifT rfl ?_⟩
        exact fin _ _ (by simp) s1
      | str z1 =>
        refine ⟨_, rfl, _, _, _, _, rfl, (.str z1), rfl, _, rfl, ifF rfl ?_⟩
        refine ⟨_, rfl, (show 2 ≤ sizeLine by decide), fun p hp => ⟨_, p, _, _, _, _, rfl, upd_same, Rep.same (.tup g2 rs2) (Same.new hp), rfl, _, rfl, ifF rfl ?_⟩⟩
        have s1 : Same H (upd H p (.tup [.ty "int", .ty "str"])) := Same.new hp
        refine ⟨_, rfl, _, _, _, _, rfl, (Rep.same (.tup g2 rs2) s1), rfl, _, rfl, _, _, _, _, rfl, (Rep.same (.str z1) s1), rfl, rfl, _, rfl, ifF rfl ?_⟩
        refine ⟨_, rfl, _, _, _, _, rfl, (Rep.same (.tup g2 rs2) s1), rfl, _, rfl, _, _, _, _, rfl, (Rep.same (.str z1) s1), rfl, rfl, _, rfl, ifT rfl ?_⟩
        exact fin _ _ (by simp) s1
      | tup g rs =>
        refine ⟨_, rfl, _, _, _, _, rfl, (.tup g rs), rfl, _, rfl, ifF rfl ?_⟩
        refine ⟨_, rfl, (show 2 ≤ sizeLine by decide), fun p hp => ⟨_, p, _, _, _, _, rfl, upd_same, Rep.same (.tup g2 rs2) (Same.new hp), rfl, _, rfl, ifF rfl ?_⟩⟩
        have s1 : Same H (upd H p (.tup [.ty "int", .ty "str"])) := Same.new hp
        refine ⟨_, rfl, _, _, _, _, rfl, (Rep.same (.tup g2 rs2) s1), rfl, _, rfl, _, _, _, _, rfl, (Rep.same (.tup g rs) s1), rfl, rfl, _, rfl, ifF rfl ?_⟩
        refine ⟨_, rfl, _, _, _, _, rfl, (Rep.same (.tup g2 rs2) s1), rfl, _, rfl, _, _, _, _, rfl, (Rep.same (.tup g rs) s1), rfl, rfl, _, rfl, ifF rfl ?_⟩
        rename_i a1 xs1 ds1
        refine ⟨_, rfl, _, _, rfl, .inr (s1.tup g), _, rfl, _, _, rfl, .inr (s1.tup g2), rfl, _, rfl, ?_⟩
        have l1 := rs.length
        have l2 := rs2.length
        rename_i a2 xs2 ds2
        have hm' : xs2.length ≤ 1000 := by simp only [pdMax] at hm; omega
        by_cases hl : xs1.length = xs2.length
        · refine ifT (by rw [hl]; simp) ?_
          obtain ⟨n, rfl⟩ : ∃ n', n = n' + 1 := ⟨n - 1, by simp only [pdDep] at hn; omega⟩
          refine ⟨_, rfl, _, _, rfl, .inr (s1.tup g2), _, rfl, by omega, by omega, ?_⟩
          refine comp_range (n := xs2.length) (fun i ys σ' H' => ∃ (bs : List Bool) (v : Option V), ys = bs.map V.bl ∧ σ' = [v, some _, some _] ∧ Same (upd H p (.tup [.ty "int", .ty "str"])) H' ∧ ∀ j, j < i → (bs[j]? = some true ↔ ds1[j]? = ds2[j]?)) (by exact Nat.le_trans hm' (by decide)) ⟨[], none, rfl, rfl, Same.refl _, fun j hj => absurd hj (Nat.not_lt_zero _)⟩ ?_ ?_
          · rintro i ys σ' H' hi hys ⟨bs, v, rfl, rfl, s2, hb⟩ N hN
            rw [List.length_map] at hys
            obtain ⟨d1, e1, r1⟩ := rs.get' (i := i) (x := xs1[i]) (List.getElem?_eq_getElem (by omega))
            obtain ⟨d2, e2, r2⟩ := rs2.get' (i := i) (x := xs2[i]) (List.getElem?_eq_getElem hi)
            have m2 := List.mem_of_getElem? e2
            have m1 := List.mem_of_getElem? e1
            have q1 := pdDep_le m2
            have q2 := pdMax_le m2
            have q3 := pdDep_le m1
            have at1 : atI xs1 (0 + (i : Int)) = some xs1[i] := by rw [Int.zero_add]; exact atI_nat (List.getElem?_eq_getElem (by omega))
            have at2 : atI xs2 (0 + (i : Int)) = some xs2[i] := by rw [Int.zero_add]; exact atI_nat (List.getElem?_eq_getElem hi)
            refine ⟨_, rfl, _, rfl, .inr (.inl ⟨_, _, _, _, rfl, rfl, (s1.trans s2).tup g, at1, ?_⟩)⟩
            refine ⟨_, rfl, _, rfl, .inr (.inl ⟨_, _, _, _, rfl, rfl, (s1.trans s2).tup g2, at2, ?_⟩)⟩
            refine ⟨_, _, d1, d2, rfl, r1.same (s1.trans s2), r2.same (s1.trans s2), ?_, ?_, ?_, fun b H'' hbd s3 => ?_⟩
            · simp only [pdDep] at hn; omega
            · simp only [pdMax] at hm; omega
            · simp only [pdDep] at hd; omega
            refine hN _ _ _ (by simp [hys]) ⟨bs ++ [b], _, by simp, rfl, s2.trans s3, fun j hj => ?_⟩
            by_cases hji : j < i
            · rw [List.getElem?_append_left (by omega)]
              exact hb j hji
            · have : j = i := by omega
              subst this
              rw [List.getElem?_append_right (by omega), hys, Nat.sub_self, e1, e2]
              simpa using hbd
          · rintro ys σ' H' hys ⟨bs, v, rfl, rfl, s2, hb⟩
            rw [List.length_map] at hys
            refine ⟨by rw [List.length_map, hys]; exact Nat.le_trans hm' (by decide), fun q hq => ⟨q, bs, rfl, SqL.of upd_same, fin _ _ ?_ ((s1.trans s2).trans (Same.new hq))⟩⟩
            have hall : (bs.all id = true) ↔ ∀ j, j < bs.length → bs[j]? = some true := by
              rw [List.all_eq_true]
              constructor
              · intro h j hj
                rw [List.getElem?_eq_getElem hj]
                exact congrArg some (h _ (List.getElem_mem hj))
              · intro h b hb'
                obtain ⟨j, hj, e⟩ := List.getElem_of_mem hb'
                have := h j hj
                rw [List.getElem?_eq_getElem hj, e] at this
                exact Option.some.inj this
            rw [hall]
            constructor
            · intro h
              have : ds1 = ds2 := List.ext_getElem? fun j => by
                by_cases hj : j < xs2.length
                · exact (hb j hj).mp (h j (by omega))
                · rw [List.getElem?_eq_none (by omega), List.getElem?_eq_none (by omega)]
              rw [this]
            · intro h j hj
              have h' : ds1 = ds2 := by injection h
              exact (hb j (by omega)).mpr (by rw [h'])
        · refine ifF (by simp; omega) (fin _ _ ?_ s1)
          constructor
          · intro z; cases z
          · intro z
            have h' : ds1 = ds2 := by injection z
            rw [h'] at l1
            exact absurd (l1.trans l2.symm) hl
      | lst g rs =>
        refine ⟨_, rfl, _, _, _, _, rfl, (.lst g rs), rfl, _, rfl, ifF rfl ?_⟩
        refine ⟨_, rfl, (show 2 ≤ sizeLine by decide), fun p hp => ⟨_, p, _, _, _, _, rfl, upd_same, Rep.same (.tup g2 rs2) (Same.new hp), rfl, _, rfl, ifF rfl ?_⟩⟩
        have s1 : Same H (upd H p (.tup [.ty "int", .ty "str"])) := Same.new hp
        refine ⟨_, rfl, _, _, _, _, rfl, (Rep.same (.tup g2 rs2) s1), rfl, _, rfl, _, _, _, _, rfl, (Rep.same (.lst g rs) s1), rfl, rfl, _, rfl, ifT rfl ?_⟩
        exact fin _ _ (by simp) s1
    | lst g2 rs2 =>
      refine ⟨_, rfl, rfl, _, rfl, ifF rfl ?_⟩
      refine ⟨_, rfl, _, _, _, _, rfl, (.lst g2 rs2), rfl, _, rfl, ifF rfl ?_⟩
      cases hx with
      | non =>
        refine ⟨_, rfl, _, _, _, _, rfl, .non, rfl, _, rfl, ifF rfl ?_⟩
        refine ⟨_, rfl, (show 2 ≤ sizeLine by decide), fun p hp => ⟨_, p, _, _, _, _, rfl, upd_same, Rep.same (.lst g2 rs2) (Same.new hp), rfl, _, rfl, ifF rfl ?_⟩⟩
        have s1 : Same H (upd H p (.tup [.ty "int", .ty "str"])) := Same.new hp
        refine ⟨_, rfl, _, _, _, _, rfl, (Rep.same (.lst g2 rs2) s1), rfl, _, rfl, _, _, _, _, rfl, (Rep.same .non s1), rfl, rfl, _, rfl, ifT rfl ?_⟩
        exact fin _ _ (by simp) s1
      | bl b1 =>
        refine ⟨_, rfl, _, _, _, _, rfl, (.bl b1), rfl, _, rfl, ifT rfl ?_⟩
        exact ⟨_, rfl, _, _, _, _, rfl, (.lst g2 rs2), rfl, _, rfl, ifF rfl (fin _ _ (by simp) (Same.refl _))⟩
      | int i1 =>
        refine ⟨_, rfl, _, _, _, _, rfl, (.int i1), rfl, _, rfl, ifF rfl ?_⟩
        refine ⟨_, rfl, (show 2 ≤ sizeLine by decide), fun p hp => ⟨_, p, _, _, _, _, rfl, upd_same, Rep.same (.lst g2 rs2) (Same.new hp), rfl, _, rfl, ifF rfl ?_⟩⟩
        have s1 : Same H (upd H p (.tup [.ty "int", .ty "str"])) := Same.new hp
        refine ⟨_, rfl, _, _, _, _, rfl, (Rep.same (.lst g2 rs2) s1), rfl, _, rfl, _, _, _, _, rfl, (Rep.same (.int i1) s1), rfl, rfl, _, rfl, ifT rfl ?_⟩
        exact fin _ _ (by simp) s1
      | str z1 =>
        refine ⟨_, rfl, _, _, _, _, rfl, (.str z1), rfl, _, rfl, ifF rfl ?_⟩
        refine ⟨_, rfl, (show 2 ≤ sizeLine by decide), fun p hp => ⟨_, p, _, _, _, _, rfl, upd_same, Rep.same (.lst g2 rs2) (Same.new hp), rfl, _, rfl, ifF rfl ?_⟩⟩
        have s1 : Same H (upd H p (.tup [.ty "int", .ty "str"])) := Same.new hp
        refine ⟨_, rfl, _, _, _, _, rfl, (Rep.same (.lst g2 rs2) s1), rfl, _, rfl, _, _, _, _, rfl, (Rep.same (.str z1) s1), rfl, rfl, _, rfl, ifT rfl ?_⟩
        exact fin _ _ (by simp) s1
      | tup g rs =>
        refine ⟨_, rfl, _, _, _, _, rfl, (.tup g rs), rfl, _, rfl, ifF rfl ?_⟩
        refine ⟨_, rfl, (show 2 ≤ sizeLine by decide), fun p hp => ⟨_, p, _, _, _, _, rfl, upd_same, Rep.same (.lst g2 rs2) (Same.new hp), rfl, _, rfl, ifF rfl ?_⟩⟩
        have s1 : Same H (upd H p (.tup [.ty "int", .ty "str"])) := Same.new hp
        refine ⟨_, rfl, _, _, _, _, rfl, (Rep.same (.lst g2 rs2) s1), rfl, _, rfl, _, _, _, _, rfl, (Rep.same (.tup g rs) s1), rfl, rfl, _, rfl, ifT rfl ?_⟩
        exact fin _ _ (by simp) s1
      | lst g rs =>
        refine ⟨_, rfl, _, _, _, _, rfl, (.lst g rs), rfl, _, rfl, ifF rfl ?_⟩
        refine ⟨_, rfl, (show 2 ≤ sizeLine by decide), fun p hp => ⟨_, p, _, _, _, _, rfl, upd_same, Rep.same (.lst g2 rs2) (Same.new hp), rfl, _, rfl, ifF rfl ?_⟩⟩
        have s1 : Same H (upd H p (.tup [.ty "int", .ty "str"])) := Same.new hp
        refine ⟨_, rfl, _, _, _, _, rfl, (Rep.same (.lst g2 rs2) s1), rfl, _, rfl, _, _, _, _, rfl, (Rep.same (.lst g rs) s1), rfl, rfl, _, rfl, ifF rfl ?_⟩
        refine ⟨_, rfl, _, _, _, _, rfl, (Rep.same (.lst g2 rs2) s1), rfl, _, rfl, _, _, _, _, rfl, (Rep.same (.lst g rs) s1), rfl, rfl, _, rfl, ifF rfl ?_⟩
        rename_i a1 xs1 ds1
        refine ⟨_, rfl, _, _, rfl, .inl (s1.seq g), _, rfl, _, _, rfl, .inl (s1.seq g2), rfl, _, rfl, ?_⟩
        have l1 := rs.length
        have l2 := rs2.length
        rename_i a2 xs2 ds2
        have hm' : xs2.length ≤ 1000 := by simp only [pdMax] at hm; omega
        by_cases hl : xs1.length = xs2.length
        · refine ifT (by rw [hl]; simp) ?_
          obtain ⟨n, rfl⟩ : ∃ n', n = n' + 1 := ⟨n - 1, by simp only [pdDep] at hn; omega⟩
          refine ⟨_, rfl, _, _, rfl, .inl (s1.seq g2), _, rfl, by omega, by omega, ?_⟩
          refine comp_range (n := xs2.length) (fun i ys σ' H' => ∃ (bs : List Bool) (v : Option V), ys = bs.map V.bl ∧ σ' = [v, some _, some _] ∧ Same (upd H p (.tup [.ty "int", .ty "str"])) H' ∧ ∀ j, j < i → (bs[j]? = some true ↔ ds1[j]? = ds2[j]?)) (by exact Nat.le_trans hm' (by decide)) ⟨[], none, rfl, rfl, Same.refl _, fun j hj => absurd hj (Nat.not_lt_zero _)⟩ ?_ ?_
          · rintro i ys σ' H' hi hys ⟨bs, v, rfl, rfl, s2, hb⟩ N hN
            rw [List.length_map] at hys
            obtain ⟨d1, e1, r1⟩ := rs.get' (i := i) (x := xs1[i]) (List.getElem?_eq_getElem (by omega))
            obtain ⟨d2, e2, r2⟩ := rs2.get' (i := i) (x := xs2[i]) (List.getElem?_eq_getElem hi)
            have m2 := List.mem_of_getElem? e2
            have m1 := List.mem_of_getElem? e1
            have q1 := pdDep_le m2
            have q2 := pdMax_le m2
            have q3 := pdDep_le m1
            have at1 : atI xs1 (0 + (i : Int)) = some xs1[i] := by rw [Int.zero_add]; exact atI_nat (List.getElem?_eq_getElem (by omega))
            have at2 : atI xs2 (0 + (i : Int)) = some xs2[i] := by rw [Int.zero_add]; exact atI_nat (List.getElem?_eq_getElem hi)
            refine ⟨_, rfl, _, rfl, .inl ⟨_, _, _, _, rfl, rfl, (s1.trans s2).seq g, at1, ?_⟩⟩
            refine ⟨_, rfl, _, rfl, .inl ⟨_, _, _, _, rfl, rfl, (s1.trans s2).seq g2, at2, ?_⟩⟩
            refine ⟨_, _, d1, d2, rfl, r1.same (s1.trans s2), r2.same (s1.trans s2), ?_, ?_, ?_, fun b H'' hbd s3 => ?_⟩
            · simp only [pdDep] at hn; omega
            · simp only [pdMax] at hm; omega
            · simp only [pdDep] at hd; omega
            refine hN _ _ _ (by simp [hys]) ⟨bs ++ [b], _, by simp, rfl, s2.trans s3, fun j hj => ?_⟩
            by_cases hji : j < i
            · rw [List.getElem?_append_left (by omega)]
              exact hb j hji
            · have : j = i := by omega
              subst this
              rw [List.getElem?_append_right (by omega), hys, Nat.sub_self, e1, e2]
              simpa using hbd
          · rintro ys σ' H' hys ⟨bs, v, rfl, rfl, s2, hb⟩
            rw [List.length_map] at hys
            refine ⟨by rw [List.length_map, hys]; exact Nat.le_trans hm' (by decide), fun q hq => ⟨q, bs, rfl, SqL.of upd_same, fin _ _ ?_ ((s1.trans s2).trans (Same.new hq))⟩⟩
            have hall : (bs.all id = true) ↔ ∀ j, j < bs.length → bs[j]? = some true := by
              rw [List.all_eq_true]
              constructor
              · intro h j hj
                rw [List.getElem?_eq_getElem hj]
                exact congrArg some (h _ (List.getElem_mem hj))
              · intro h b hb'
                obtain ⟨j, hj, e⟩ := List.getElem_of_mem hb'
                have := h j hj
                rw [List.getElem?_eq_getElem hj, e] at this
                exact Option.some.inj this
            rw [hall]
            constructor
            · intro h
              have : ds1 = ds2 := List.ext_getElem? fun j => by
                by_cases hj : j < xs2.length
                · exact (hb j hj).mp (h j (by omega))
                · rw [List.getElem?_eq_none (by omega), List.getElem?_eq_none (by omega)]
              rw [this]
            · intro h j hj
              have h' : ds1 = ds2 := by injection h
              exact (hb j (by omega)).mpr (by rw [h'])
        · refine ifF (by simp; omega) (fin _ _ ?_ s1)
          constructor
          · intro z; cases z
          · intro z
            have h' : ds1 = ds2 := by injection z
            rw [h'] at l1
            exact absurd (l1.trans l2.symm) hl
end
end Cm

set_option Elab.async false
set_option linter.all false
set_option maxRecDepth 100000
set_option maxHeartbeats 4000000
namespace Cm
open PySem L2
/-- letters a to z alone -/
def Lc (x : Str) : Prop := ∀ c ∈ x.cps.toList, 97 ≤ c ∧ c ≤ 122
structure Nm (x : Str) : Prop where
  lo : 1 ≤ x.length
  hi : x.length ≤ 8
  lc : Lc x
theorem Lc.app {x y : Str} (a : Lc x) (b : Lc y) : Lc (x ++ y) := fun c hc => by
  rw [Str.cps_append, Array.toList_append, List.mem_append] at hc
  exact hc.elim (a c) (b c)
theorem join_cps (sep : Str) (hs : sep.cps.toList = []) : ∀ ys : List Str, (Str.join sep ys).cps.toList = (ys.map (·.cps.toList)).flatten
  | [] => rfl
  | [x] => by show x.cps.toList = _; simp
  | x :: y :: r => by
    show (x ++ sep ++ Str.join sep (y :: r)).cps.toList = _
    rw [Str.cps_append, Array.toList_append, Str.cps_append, Array.toList_append, hs, List.append_nil, join_cps sep hs (y :: r), List.map_cons (l := y :: r), List.flatten_cons]
theorem txt_join (sep : Str) (ys : List Str) : PySem.Txt.join sep ys = Str.join sep ys := by
  show PySem.Builtin.Str.glued sep ys = _
  rw [PySem.StrLaws.glued_eq_join]
theorem len_cps (x : Str) : x.length = x.cps.toList.length := by simp [Str.length]
section
variable {P : Program} {w : World} {K : PySem.W.Frag} {mg : Str → Option Value} {base : Heap}
/-! ### _law_word -/
def spWord : Sp := fun vs H Q _ => ∃ (p dc : Addr), vs = [.ref p] ∧ Dr H p dc ∧ ∀ (x : Str) (H' : Hp), Nm x → Dr H' p dc → But p H H' → Q (.str x) H'
theorem scW : FnScope ["_law_d", "_law_letters", "_law_first", "_law_size", "_law_some"] ["_law_d"] (defScope (top 21)) := ⟨rfl, rfl, rfl, by decide +kernel, rfl, by decide +kernel, by decide +kernel⟩
theorem letters_at {i : Int} {c : Nat} (h : atI ("abcdefghijklmnopqrstuvwxyz" : Str).cps.toList i = some c) : 97 ≤ c ∧ c ≤ 122 := by
  have : c ∈ ("abcdefghijklmnopqrstuvwxyz" : Str).cps.toList := by
    unfold atI at h
    obtain ⟨j, _, e⟩ := Option.bind_eq_some_iff.mp h
    exact List.mem_of_getElem? e
  have all : ∀ c ∈ ("abcdefghijklmnopqrstuvwxyz" : Str).cps.toList, 97 ≤ c ∧ c ≤ 122 := by decide +kernel
  exact all c this
theorem ok_word {f fP fO : Addr} {fd fdP fdO : FuncData} (F : Fun K "_law_word" "_law_word" (top 21) f fd) (T : Txt K mg) (DP : Def K mg "_law_pick" (top 18) ["_law_d", "_law_many"] fP fdP) (DO : Def K mg "_law_of" (top 19) ["_law_d", "_law_things"] fO fdO) :
    FnOk P w K mg base CX0 3 f fd ["_law_d"] spWord := by
  have GP : FnOk P w K mg base CX0 1 fP fdP ["_law_d", "_law_many"] spPick := ok_pick DP.F T
  have GO : FnOk P w K mg base CX0 2 fO fdO ["_law_d", "_law_things"] (spOf K) := ok_of DO.F T DP
  refine F.ok scW (fun vs H Q E h => ?_) (fun cdv A outer s H vs Q E hr h => ?_)
  · obtain ⟨p, dc, rfl, _⟩ := h
    rfl
  · obtain ⟨p, dc, rfl, D, k⟩ := h
    have hr1 : Room 1 _ := hr.mono (by decide)
    refine ⟨_, (pss_cons
  (ps_set (i := 1) scW.nd rfl (Or.inr rfl) pe_str)
  (pss_cons
  (ps_set (i := 2) scW.nd rfl (Or.inl rfl) (pe_call GO hr rfl DO.mg DO.F.kp DO.b .nil pass0 (pa_cons (pv 0) (pa_cons (pe_lst (pa_cons pe_str (pa_cons pe_str (pa_cons pe_str (pa_cons pe_str (pa_cons pe_str pa_nil)))))) pa_nil))))
  (pss_cons
  (ps_set (i := 3) scW.nd rfl (Or.inl rfl) (pe_op op_add pe_int (pe_call GP hr1 rfl DP.mg DP.F.kp DP.b .nil pass0 (pa_cons (pv 0) (pa_cons (pe_op op_sub pe_int (pe_callB call_len_str (by rfl) T.len bt_len (pa_cons (pv 2) pa_nil))) pa_nil)))))
  (pss_cons
  (ps_set (i := 4) scW.nd rfl (Or.inl rfl) (pe_bm PySem.F.plainAttrs_str PySem.F.slot_str_join PySem.F.type_str_join mt_join pe_str (pa_cons (pe_comp (own := ["_law_k"]) (js := [1, 0]) (N' := ["_law_k", "_law_letters", "_law_d"]) (CompScope.of (osc := defScope (top 21)) (N := ["_law_d", "_law_letters", "_law_first", "_law_size", "_law_some"]) rfl rfl ⟨rfl, by decide +kernel, by decide +kernel, by decide +kernel, rfl, by decide +kernel⟩) rfl (pi_range1 rfl T.range (pa_cons (pv 3) pa_nil)) (fun _ _ _ _ _ => (pg_name (i := 0) (show List.Nodup (["_law_k", "_law_letters", "_law_d"] : List Str) by decide +kernel) rfl (Or.inl rfl) (Or.inr rfl))) (fun _ _ _ _ _ => pifs_nil) (fun _ _ _ _ _ => (pe_ix (r := rIxS) ix_str (pv 1) (pe_call GP hr1 rfl DP.mg DP.F.kp DP.b .nil pass0 (pa_cons (pv 2) (pa_cons pe_int pa_nil))) (fun _ _ => rfl)))) pa_nil)))
  (pss_one
  (ps_ret (pe_ix ix_list (pe_lst (pa_cons (pe_op op_add_str (pv 2) (pv 4)) (pa_cons (pe_op op_add_str (pv 4) (pv 2)) pa_nil))) (pe_call GP hr1 rfl DP.mg DP.F.kp DP.b .nil pass0 (pa_cons (pv 0) (pa_cons pe_int pa_nil))) (fun _ _ => rfl)))))))), ?_⟩
    -- first = of(..)
    refine ⟨_, rfl, (show 5 ≤ sizeLine by decide), fun q hq => ?_⟩
    refine ⟨p, dc, q, _, rfl, D.new hq, SqL.of upd_same, by simp, by simp, fun x H1 hx D1 b1 => ?_⟩
    obtain ⟨z, rfl, hz, lz⟩ : ∃ z : Str, x = .str z ∧ z.length ≤ 7 ∧ Lc z := by
      simp only [List.mem_cons, List.not_mem_nil, or_false] at hx
      rcases hx with rfl | rfl | rfl | rfl | rfl
      all_goals exact ⟨_, rfl, by decide +kernel, by unfold Lc; decide +kernel⟩
    -- size = 1 + pick(8 - len(first))
    refine ⟨_, rfl, _, rfl, z, rfl, Nat.le_trans hz (by decide), _, _, rfl, rfl, p, dc, _, rfl, D1, by omega, by omega, fun r H2 r0 r1 D2 b2 => ?_⟩
    refine ⟨_, _, rfl, rfl, ?_⟩
    -- some = ''.join(..)
    refine ⟨rfl, _, rfl, _, rfl, by omega, by omega, ?_⟩
    refine comp_range (n := (1 + r).toNat) (fun i ys σ' H' => ∃ (cs : List Str) (v : Option V), ys = cs.map V.str ∧ σ' = [v, some (.str "abcdefghijklmnopqrstuvwxyz"), some (.ref p)] ∧ Dr H' p dc ∧ But p H2 H' ∧ ∀ c ∈ cs, c.length = 1 ∧ Lc c) (Nat.le_trans (show (1 + r).toNat ≤ 8 by omega) (by decide)) ⟨[], none, rfl, rfl, D2, But.refl, fun _ h => nomatch h⟩ ?_ ?_
    · rintro i ys σ' H' hi hys ⟨cs, v, rfl, rfl, D3, b3, hc⟩ N hN
      refine ⟨_, rfl, _, rfl, p, dc, _, rfl, D3, by decide, by decide, fun r' H4 r0' r1' D4 b4 => ?_⟩
      obtain ⟨j, rfl⟩ := Int.eq_ofNat_of_zero_le r0'
      obtain ⟨c, hcj⟩ : ∃ c, ("abcdefghijklmnopqrstuvwxyz" : Str).cps.toList[j]? = some c := ⟨_, List.getElem?_eq_getElem (by show j < 26; omega)⟩
      have hat : atI ("abcdefghijklmnopqrstuvwxyz" : Str).cps.toList (j : Int) = some c := atI_nat hcj
      refine ⟨_, _, c, rfl, rfl, (show 26 ≤ sizeLine by decide), hat, ?_⟩
      refine hN _ _ _ (by simpa using hys) ⟨cs ++ [⟨#[c]⟩], _, by simp, rfl, D4, b3.trans b4, fun c' hc' => ?_⟩
      rcases List.mem_append.mp hc' with hc' | hc'
      · exact hc c' hc'
      · obtain rfl : c' = ⟨#[c]⟩ := by simpa using hc'
        refine ⟨rfl, fun x hx => ?_⟩
        obtain rfl : x = c := by simpa using hx
        exact letters_at hat
    · rintro ys σ' H' hys ⟨cs, v, rfl, rfl, D3, b3, hc⟩
      rw [List.length_map] at hys
      refine ⟨by rw [List.length_map, hys]; exact Nat.le_trans (show (1 + r).toNat ≤ 8 by omega) (by decide), fun q2 hq2 => ?_⟩
      have hsum : (cs.map (·.length)).sum = cs.length := by
        clear hys
        induction cs with
        | nil => rfl
        | cons c t ih => rw [List.map_cons, List.sum_cons, ih fun d hd => hc d (List.mem_cons_of_mem _ hd), (hc c List.mem_cons_self).1, List.length_cons, Nat.add_comm]
      refine ⟨_, q2, cs, rfl, rfl, SqL.of upd_same, by rw [hsum, show (Str.ofString "").length = 0 from rfl]; omega, ?_⟩
      rw [txt_join]
      have jl : (Str.join (Str.ofString "") cs).length = cs.length := by
        rw [len_cps, join_cps _ rfl, List.length_flatten, List.map_map, ← hsum]
        congr 1
      have jc : Lc (Str.join (Str.ofString "") cs) := fun x hx => by
        rw [join_cps _ rfl] at hx
        obtain ⟨l, hl, hxl⟩ := List.mem_flatten.mp hx
        obtain ⟨c, hcm, rfl⟩ := List.mem_map.mp hl
        exact (hc c hcm).2 x hxl
      generalize Str.join (Str.ofString "") cs = js at jl jc
      -- return [first + some, some + first][pick(2)]
      have hj8 : js.length + z.length ≤ 8 ∧ 1 ≤ js.length := by omega
      refine ⟨_, rfl, _, rfl, _, _, rfl, rfl, Nat.le_trans (show z.length + js.length ≤ 8 by omega) (by decide), _, rfl, _, rfl, _, _, rfl, rfl, Nat.le_trans (show js.length + z.length ≤ 8 by omega) (by decide), (show 2 ≤ sizeLine by decide), fun q3 hq3 => ?_⟩
      have D4 : Dr _ p dc := (D3.new (o := .lst (cs.map V.str)) hq2).new (o := .lst [.str (z ++ js), .str (js ++ z)]) hq3
      refine ⟨_, rfl, p, dc, _, rfl, D4, by decide, by decide, fun r' H5 r0' r1' D5 b5 => ?_⟩
      have nm1 : Nm (z ++ js) := ⟨by rw [Str.length_append]; omega, by rw [Str.length_append]; omega, lz.app jc⟩
      have nm2 : Nm (js ++ z) := ⟨by rw [Str.length_append]; omega, by rw [Str.length_append]; omega, jc.app lz⟩
      have bt : But p H H5 := ((((But.new hq).trans b1).trans b2).trans b3).trans (((But.new hq2).trans (But.new hq3)).trans b5)
      have hq5 : SqL K H5 q3 [.str (z ++ js), .str (js ++ z)] := D4.seq b5 (SqL.of upd_same)
      by_cases h0 : r' = 0
      · subst h0
        exact ⟨_, _, _, _, rfl, rfl, hq5, rfl, k _ _ nm1 D5 bt⟩
      · obtain rfl : r' = 1 := by omega
        exact ⟨_, _, _, _, rfl, rfl, hq5, rfl, k _ _ nm2 D5 bt⟩

/-! ### _law_words: names, no two alike -/
def spWords (K : PySem.W.Frag) : Sp := fun vs H Q _ => ∃ (p dc : Addr) (m : Int), vs = [.ref p, .int m] ∧ Dr H p dc ∧ 0 ≤ m ∧ m ≤ 60 ∧ ∀ (q : Addr) (ys : List Str) (H' : Hp), H' q = some (.lst (ys.map V.str)) → H q = none → (ys.length : Int) = m → (∀ y ∈ ys, Nm y) → ys.Nodup → Dr H' p dc → But p H H' → Q (.ref q) H'
theorem scWs : FnScope ["_law_d", "_law_many", "_law_found", "_law_k", "_law_word_here", "_law_step"] ["_law_d", "_law_many"] (defScope (top 22)) := ⟨rfl, rfl, rfl, by decide +kernel, rfl, by decide +kernel, by decide +kernel⟩
/-- the words that are tried where a word stands already -/
def wd (t : Nat) : Str := ⟨#[97 + t % 8, 113 + t / 8 % 8]⟩
theorem wd_nm (t : Nat) : Nm (wd t) := ⟨by show 1 ≤ 2; decide, by show 2 ≤ 8; decide, fun c hc => by
  have : c = 97 + t % 8 ∨ c = 113 + t / 8 % 8 := by simpa [wd] using hc
  omega⟩
theorem wd_inj {k s s' : Nat} (h : wd (k + s) = wd (k + s')) (h1 : s < 64) (h2 : s' < 64) : s = s' := by
  have e : (#[97 + (k + s) % 8, 113 + (k + s) / 8 % 8] : Array Nat) = #[97 + (k + s') % 8, 113 + (k + s') / 8 % 8] := congrArg Str.cps h
  have e1 : 97 + (k + s) % 8 = 97 + (k + s') % 8 ∧ 113 + (k + s) / 8 % 8 = 113 + (k + s') / 8 % 8 := by simpa using congrArg Array.toList e
  omega
theorem sub_len {α : Type} [DecidableEq α] : ∀ {l ys : List α}, l.Nodup → (∀ x ∈ l, x ∈ ys) → l.length ≤ ys.length
  | [], _, _, _ => Nat.zero_le _
  | a :: l, ys, nd, hs => by
    obtain ⟨n1, n2⟩ := List.nodup_cons.mp nd
    have ha := hs a List.mem_cons_self
    have q := sub_len (ys := ys.erase a) n2 fun x hx => (List.mem_erase_of_ne (by intro z; exact n1 (z ▸ hx))).mpr (hs x (List.mem_cons_of_mem _ hx))
    rw [List.length_erase_of_mem ha] at q
    have := List.length_pos_of_mem ha
    rw [List.length_cons]; omega
theorem nd_map {α β : Type} {f : α → β} : ∀ {l : List α}, l.Nodup → (∀ a ∈ l, ∀ b ∈ l, f a = f b → a = b) → (l.map f).Nodup
  | [], _, _ => List.nodup_nil
  | a :: l, nd, h => by
    obtain ⟨n1, n2⟩ := List.nodup_cons.mp nd
    rw [List.map_cons]
    refine List.nodup_cons.mpr ⟨fun m => ?_, nd_map n2 fun x hx y hy => h x (List.mem_cons_of_mem _ hx) y (List.mem_cons_of_mem _ hy)⟩
    obtain ⟨b, hb, e⟩ := List.mem_map.mp m
    exact n1 (h b (List.mem_cons_of_mem _ hb) a List.mem_cons_self e ▸ hb)
theorem wd_new {k : Nat} {ys : List Str} (hl : ys.length < 64) (h : ∀ s, s < 64 → wd (k + s) ∈ ys) : False := by
  have nd : ((List.range 64).map fun s => wd (k + s)).Nodup := nd_map List.nodup_range fun a ha b hb e => wd_inj e (List.mem_range.mp ha) (List.mem_range.mp hb)
  have q := sub_len nd fun x hx => by
    obtain ⟨s, hs, rfl⟩ := List.mem_map.mp hx
    exact h s (List.mem_range.mp hs)
  rw [List.length_map, List.length_range] at q
  omega
theorem ok_words {f fP fO fW : Addr} {fd fdP fdO fdW : FuncData} (F : Fun K "_law_words" "_law_words" (top 22) f fd) (T : Txt K mg) (DP : Def K mg "_law_pick" (top 18) ["_law_d", "_law_many"] fP fdP) (DO : Def K mg "_law_of" (top 19) ["_law_d", "_law_things"] fO fdO)
    (DW : Def K mg "_law_word" (top 21) ["_law_d"] fW fdW) : FnOk P w K mg base CX0 4 f fd ["_law_d", "_law_many"] (spWords K) := by
  have GW : FnOk P w K mg base CX0 3 fW fdW ["_law_d"] spWord := ok_word DW.F T DP DO
  refine F.ok scWs (fun vs H Q E h => ?_) (fun cdv A outer s H vs Q E hr h => ?_)
  · obtain ⟨p, dc, m, rfl, _⟩ := h
    rfl
  · obtain ⟨p, dc, m, rfl, D, m0, m1, k⟩ := h
    refine ⟨_, (pss_cons
  (ps_set (i := 2) scWs.nd rfl (Or.inl rfl) (pe_lst pa_nil))
  (pss_cons
  (ps_for PassesOwn.never rfl (pi_range1 rfl T.range (pa_cons (pv 1) pa_nil)) (pg_name (i := 3) scWs.nd rfl (Or.inl rfl)) (pss_cons
  (ps_set (i := 4) scWs.nd rfl (Or.inl rfl) (pe_call GW hr rfl DW.mg DW.F.kp DW.b .nil pass0 (pa_cons (pv 0) pa_nil)))
  (pss_cons
  (ps_for PassesOwn.never rfl (pi_range1 rfl T.range (pa_cons pe_int pa_nil)) (pg_name (i := 5) scWs.nd rfl (Or.inl rfl)) (pss_one
  (ps_if (pt_cmpR op_in_seq (pv 4) (pv 2) rfl) (pss_one
  (ps_set (i := 4) scWs.nd rfl (Or.inl rfl) (pe_op op_add_str (pe_ix ix_str pe_str (pe_op op_mod (pe_op op_add (pv 3) (pv 5)) pe_int) (fun _ _ => rfl)) (pe_ix ix_str pe_str (pe_op op_mod (pe_op op_fdiv (pe_op op_add (pv 3) (pv 5)) pe_int) pe_int) (fun _ _ => rfl))))) pss_nil)))
  (pss_one
  (ps_expr (pe_bm PySem.F.plainAttrs_list PySem.F.slot_list_append PySem.F.type_list_append mt_append (pv 2) (pa_cons (pv 4) pa_nil)))))))
  (pss_one
  (ps_ret (pv 2))))), ?_⟩
    refine ⟨(show 0 ≤ sizeLine by decide), fun q hq => ?_⟩
    refine ⟨_, rfl, m, rfl, by omega, by omega, ?_⟩
    refine for_range (n := m.toNat) (fun i σ H1 => ∃ (ys : List Str) (a b c : Option V), σ = [some (.ref p), some (.int m), some (.ref q), a, b, c] ∧ H1 q = some (.lst (ys.map V.str)) ∧ ys.length = i ∧ (∀ y ∈ ys, Nm y) ∧ ys.Nodup ∧ Dr H1 p dc ∧ But p H H1)
      ⟨[], none, none, none, rfl, upd_same, rfl, (fun _ h => by cases h), List.nodup_nil, D.new hq, But.new hq⟩ ?_ ?_
    · rintro i σ H1 hi ⟨ys, a, b, c, rfl, e1, hl, hy, nd, D1, b1⟩
      refine ⟨_, rfl, p, dc, rfl, D1, fun x H2 nx D2 b2 => ?_⟩
      have e2 : H2 q = some (.lst (ys.map V.str)) := b2 q _ e1 (D1.ne e1 (by intro kvs z; cases z))
      refine ⟨_, rfl, by decide, by decide, ?_⟩
      refine for_range (n := 64) (fun j σ H3 => ∃ (z : Str) (c : Option V), σ = [some (.ref p), some (.int m), some (.ref q), some (.int (0 + (i : Int))), some (.str z), c] ∧ Nm z ∧ H3 = H2 ∧ (z ∉ ys ∨ ∀ s, s < j → wd (i + s) ∈ ys)) ⟨x, _, rfl, nx, rfl, .inr fun s hs => absurd hs (Nat.not_lt_zero _)⟩ ?_ ?_
      · rintro j σ H3 hj ⟨z, c, rfl, nz, rfl, hz⟩
        refine ⟨_, rfl, _, rfl, q, _, rfl, .inl (SqL.of e2), rfl, ?_, _, rfl, ?_⟩
        · rw [List.all_eq_true]
          intro v hv
          obtain ⟨y, _, rfl⟩ := List.mem_map.mp hv
          rfl
        · have hin : inV (.str z) (ys.map V.str) = true ↔ z ∈ ys := by
            unfold inV
            rw [List.any_map, List.any_eq_true]
            constructor
            · rintro ⟨y, hy1, hy2⟩
              have : y = z := by simpa [eqV] using hy2
              exact this ▸ hy1
            · intro hz'
              exact ⟨z, hz', by simp [eqV]⟩
          refine ite2 (fun hc => ?_) (fun hc => ⟨z, _, rfl, nz, rfl, .inl fun hz' => hc (hin.mpr hz')⟩)
          have hz1 := hin.mp hc
          have hz2 : ∀ s, s < j → wd (i + s) ∈ ys := hz.elim (fun n => absurd hz1 n) id
          have u1 : (0 + (i : Int) + (0 + (j : Int))) % 8 = (((i + j) % 8 : Nat) : Int) := by omega
          have u2 : (0 + (i : Int) + (0 + (j : Int))) / 8 % 8 = (((i + j) / 8 % 8 : Nat) : Int) := by omega
          have h1 : ("abcdefgh" : Str).cps.toList[(i + j) % 8]? = some (97 + (i + j) % 8) := by
            have := Nat.mod_lt (i + j) (show 0 < 8 by decide)
            generalize (i + j) % 8 = m8 at this
            revert m8; decide +kernel
          have h2 : ("qrstuvwx" : Str).cps.toList[(i + j) / 8 % 8]? = some (113 + (i + j) / 8 % 8) := by
            have := Nat.mod_lt ((i + j) / 8) (show 0 < 8 by decide)
            generalize (i + j) / 8 % 8 = m8 at this
            revert m8; decide +kernel
          refine ⟨_, rfl, _, rfl, _, _, rfl, rfl, _, _, rfl, rfl, (by show (0 : Int) < 8; decide), _, _, _, rfl, rfl, (show 8 ≤ sizeLine by decide), (by rw [u1]; exact atI_nat h1), ?_⟩
          refine ⟨_, rfl, _, rfl, _, _, rfl, rfl, _, _, rfl, rfl, ⟨by decide, by decide⟩, _, _, rfl, rfl, (by show (0 : Int) < 8; decide), _, _, _, rfl, rfl, (show 8 ≤ sizeLine by decide), (by rw [u2]; exact atI_nat h2), ?_⟩
          refine ⟨_, _, rfl, rfl, (show 1 + 1 ≤ sizeLine by decide), wd (i + j), _, rfl, wd_nm _, rfl, ?_⟩
          by_cases hw : wd (i + j) ∈ ys
          · refine .inr fun s hs => ?_
            by_cases hsj : s = j
            · rw [hsj]; exact hw
            · exact hz2 s (by omega)
          · exact .inl hw
      · rintro σ H3 ⟨z, c, rfl, nz, rfl, hz⟩
        have znew : z ∉ ys := hz.elim id fun h => (wd_new (by omega) h).elim
        refine ⟨_, rfl, .inl ⟨rfl, _, SqL.of e2⟩, _, rfl, q, _, _, rfl, rfl, e2, by rw [List.length_map]; exact small1000 (by omega), ?_⟩
        have nqc : q ≠ dc := by
          obtain ⟨xs, e⟩ := D.cell
          exact (ne_of_none e hq).symm
        have nqp : q ≠ p := D2.ne e2 (by intro kvs z; cases z)
        refine ⟨ys ++ [z], _, _, _, rfl, by rw [upd_same]; simp, by simp [hl], fun y hy' => (List.mem_append.mp hy').elim (hy y) (fun h => by rw [List.mem_singleton.mp h]; exact nz), nd_snoc nd znew, D2.put nqp nqc, fun b o e hb => ?_⟩
        rw [upd_ne (ne_of_none e hq)]
        exact (b1.trans b2) b o e hb
    · rintro σ H1 ⟨ys, a, b, c, rfl, e1, hl, hy, nd, D1, b1⟩
      exact ⟨_, rfl, k q ys H1 e1 hq (by omega) hy nd D1 b1⟩
end
end Cm

set_option Elab.async false
set_option linter.all false
set_option maxRecDepth 100000
set_option maxHeartbeats 4000000
namespace Cm
open PySem L2
abbrev Fld := Str × Int × Int
structure FldOk (f : Fld) : Prop where
  nm : Nm f.1
  lo : -999999 ≤ f.2.1
  le : f.2.1 ≤ f.2.2
  hi : f.2.2 ≤ 999999
def fD (f : Fld) : PyData := .tuple [.str f.1, .int f.2.1, .int f.2.2]
def fsD (fs : List Fld) : PyData := .tuple (fs.map fD)
/-- tuples stay -/
def TK (H H' : Hp) : Prop := ∀ b xs, H b = some (.tup xs) → H' b = some (.tup xs)
theorem TK.trans {H H1 H2 : Hp} (a : TK H H1) (b : TK H1 H2) : TK H H2 := fun c xs h => b c xs (a c xs h)
theorem TK.but {H H' : Hp} {p dc : Addr} (d : Dr H p dc) (b : But p H H') : TK H H' := fun c xs h => b c _ h (d.ne h (by intro kvs z; cases z))
theorem TK.lst {H : Hp} {q : Addr} {xs : List V} {o : HO} (h : H q = some (.lst xs)) : TK H (upd H q o) := fun c ys e => by rw [upd_ne (ne_of e h (by intro z; cases z))]; exact e
theorem TK.new {H : Hp} {q : Addr} {o : HO} (h : H q = none) : TK H (upd H q o) := fun c ys e => by rw [upd_ne (ne_of_none e h)]; exact e
def FldAt (H : Hp) (x : V) (f : Fld) : Prop := ∃ b, x = .ref b ∧ H b = some (.tup [.str f.1, .int f.2.1, .int f.2.2])
theorem FldAt.tk {H H' : Hp} {x : V} {f : Fld} (h : FldAt H x f) (k : TK H H') : FldAt H' x f := let ⟨b, e, q⟩ := h; ⟨b, e, k _ _ q⟩
theorem flds_tk {H H' : Hp} : ∀ {xs : List V} {fs : List Fld}, Paired (FldAt H) xs fs → TK H H' → Paired (FldAt H') xs fs
  | _, _, .nil, _ => .nil
  | _, _, .cons r t, k => .cons (r.tk k) (flds_tk t k)
theorem flds_reps {K : PySem.W.Frag} {H : Hp} : ∀ {xs : List V} {fs : List Fld}, Paired (FldAt H) xs fs → Reps K H xs (fs.map fD)
  | _, _, .nil => .nil
  | _, _, .cons r t => by
    obtain ⟨b, rfl, h⟩ := r
    exact .cons (.tup (SqT.of h) (.cons (.str _) (.cons (.int _) (.cons (.int _) .nil)))) (flds_reps t)
section
variable {P : Program} {w : World} {K : PySem.W.Frag} {mg : Str → Option Value} {base : Heap}
/-! ### _law_bound -/
def spBound : Sp := fun vs H Q _ => ∃ (p dc : Addr), vs = [.ref p] ∧ Dr H p dc ∧ ∀ (z : Int) (H' : Hp), -999999 ≤ z → z ≤ 999999 → Dr H' p dc → But p H H' → Q (.int z) H'
theorem scBd : FnScope ["_law_d", "_law_near"] ["_law_d"] (defScope (top 23)) := ⟨rfl, rfl, rfl, by decide +kernel, rfl, by decide +kernel, by decide +kernel⟩
theorem ok_bound {f fP fO : Addr} {fd fdP fdO : FuncData} (F : Fun K "_law_bound" "_law_bound" (top 23) f fd) (T : Txt K mg) (DP : Def K mg "_law_pick" (top 18) ["_law_d", "_law_many"] fP fdP) (DO : Def K mg "_law_of" (top 19) ["_law_d", "_law_things"] fO fdO) :
    FnOk P w K mg base CX0 3 f fd ["_law_d"] spBound := by
  have GP : FnOk P w K mg base CX0 1 fP fdP ["_law_d", "_law_many"] spPick := ok_pick DP.F T
  have GO : FnOk P w K mg base CX0 2 fO fdO ["_law_d", "_law_things"] (spOf K) := ok_of DO.F T DP
  refine F.ok scBd (fun vs H Q E h => ?_) (fun cdv A outer s H vs Q E hr h => ?_)
  · obtain ⟨p, dc, rfl, _⟩ := h
    rfl
  · obtain ⟨p, dc, rfl, D, k⟩ := h
    have hr1 : Room 1 _ := hr.mono (by decide)
    refine ⟨_, (pss_cons
  (ps_set (i := 1) scBd.nd rfl (Or.inl rfl) (pe_lst (pa_cons pe_int (pa_cons pe_int (pa_cons pe_int (pa_cons (pe_call GP hr1 rfl DP.mg DP.F.kp DP.b .nil pass0 (pa_cons (pv 0) (pa_cons pe_int pa_nil))) (pa_cons (pe_op op_sub (pe_call GP hr1 rfl DP.mg DP.F.kp DP.b .nil pass0 (pa_cons (pv 0) (pa_cons pe_int pa_nil))) pe_int) pa_nil)))))))
  (pss_one
  (ps_ret (pe_call GO hr rfl DO.mg DO.F.kp DO.b .nil pass0 (pa_cons (pv 0) (pa_cons (pe_op op_cat (pv 1) (pe_lst (pa_cons pe_int (pa_cons (pe_un un_neg pe_int) (pa_cons (pe_op op_sub (pe_call GP hr1 rfl DP.mg DP.F.kp DP.b .nil pass0 (pa_cons (pv 0) (pa_cons pe_int pa_nil))) pe_int) pa_nil))))) pa_nil)))))), ?_⟩
    refine ⟨_, rfl, p, dc, _, rfl, D, by decide, by decide, fun r1 H1 a1 b1 D1 t1 => ?_⟩
    refine ⟨_, rfl, p, dc, _, rfl, D1, by decide, by decide, fun r2 H2 a2 b2 D2 t2 => ⟨_, _, rfl, rfl, (show 5 ≤ sizeLine by decide), fun q1 h1 => ?_⟩⟩
    have D2' := D2.new (o := .lst [.int 0, .int 0, .int 5, .int r1, .int (r2 - 20)]) h1
    refine ⟨_, rfl, _, rfl, _, rfl, _, rfl, p, dc, _, rfl, D2', by decide, by decide, fun r3 H3 a3 b3 D3 t3 => ⟨_, _, rfl, rfl, (show 3 ≤ sizeLine by decide), fun q2 h2 => ?_⟩⟩
    have e1 : H3 q1 = some (.lst [.int 0, .int 0, .int 5, .int r1, .int (r2 - 20)]) := t3 q1 _ upd_same (D2'.ne upd_same (by intro kvs z; cases z))
    refine ⟨q1, q2, _, _, rfl, rfl, (Same.new h2) _ _ e1, upd_same, (show 5 + 3 ≤ sizeLine by decide), fun q3 h3 => ?_⟩
    have D4 := (D3.new (o := .lst [.int 999999, .int (-999999), .int (r3 - 999999)]) h2)
    refine ⟨p, dc, q3, _, rfl, D4.new h3, SqL.of upd_same, by simp, by simp, fun x H5 hx D5 t5 => ?_⟩
    obtain ⟨z, rfl, z0, z1⟩ : ∃ z : Int, x = .int z ∧ -999999 ≤ z ∧ z ≤ 999999 := by
      simp only [List.cons_append, List.nil_append, List.mem_cons, List.not_mem_nil, or_false] at hx
      rcases hx with rfl | rfl | rfl | rfl | rfl | rfl | rfl | rfl
      all_goals exact ⟨_, rfl, by omega, by omega⟩
    exact k z H5 z0 z1 D5 (((t1.trans t2).trans (But.new h1)).trans (((t3.trans (But.new h2)).trans (But.new h3)).trans t5))

/-! ### _law_fields -/
def spFields (K : PySem.W.Frag) : Sp := fun vs H Q _ => ∃ (p dc : Addr) (m : Int), vs = [.ref p, .int m] ∧ Dr H p dc ∧ 0 ≤ m ∧ m ≤ 60 ∧ ∀ (a : Addr) (xs : List V) (fs : List Fld) (H' : Hp), H' a = some (.tup xs) → Paired (FldAt H') xs fs → (fs.length : Int) = m → (∀ f ∈ fs, FldOk f) → (fs.map (·.1)).Nodup → H a = none → Dr H' p dc → But p H H' → Q (.ref a) H'
theorem scFs : FnScope ["_law_d", "_law_many", "_law_names", "_law_found", "_law_title", "_law_low", "_law_high"] ["_law_d", "_law_many"] (defScope (top 24)) := ⟨rfl, rfl, rfl, by decide +kernel, rfl, by decide +kernel, by decide +kernel⟩
theorem ok_fields {f fP fO fW fWs fB : Addr} {fd fdP fdO fdW fdWs fdB : FuncData} (F : Fun K "_law_fields" "_law_fields" (top 24) f fd) (T : Txt K mg) (DP : Def K mg "_law_pick" (top 18) ["_law_d", "_law_many"] fP fdP) (DO : Def K mg "_law_of" (top 19) ["_law_d", "_law_things"] fO fdO)
    (DW : Def K mg "_law_word" (top 21) ["_law_d"] fW fdW) (DWs : Def K mg "_law_words" (top 22) ["_law_d", "_law_many"] fWs fdWs) (DB : Def K mg "_law_bound" (top 23) ["_law_d"] fB fdB) : FnOk P w K mg base CX0 5 f fd ["_law_d", "_law_many"] (spFields K) := by
  have GP : FnOk P w K mg base CX0 1 fP fdP ["_law_d", "_law_many"] spPick := ok_pick DP.F T
  have GO : FnOk P w K mg base CX0 2 fO fdO ["_law_d", "_law_things"] (spOf K) := ok_of DO.F T DP
  have GWs : FnOk P w K mg base CX0 4 fWs fdWs ["_law_d", "_law_many"] (spWords K) := ok_words DWs.F T DP DO DW
  have GB : FnOk P w K mg base CX0 3 fB fdB ["_law_d"] spBound := ok_bound DB.F T DP DO
  refine F.ok scFs (fun vs H Q E h => ?_) (fun cdv A outer s H vs Q E hr h => ?_)
  · obtain ⟨p, dc, m, rfl, _⟩ := h
    rfl
  · obtain ⟨p, dc, m, rfl, D, m0, m1, k⟩ := h
    have hr1 : Room 1 _ := hr.mono (by decide)
    have hr2 : Room 2 _ := hr.mono (by decide)
    have hr3 : Room 3 _ := hr.mono (by decide)
    refine ⟨_, (pss_cons
  (ps_set (i := 2) scFs.nd rfl (Or.inl rfl) (pe_call GWs hr rfl DWs.mg DWs.F.kp DWs.b .nil pass0 (pa_cons (pv 0) (pa_cons (pv 1) pa_nil))))
  (pss_cons
  (ps_set (i := 3) scFs.nd rfl (Or.inl rfl) (pe_lst pa_nil))
  (pss_cons
  (ps_for PassesOwn.never rfl (pi_list (pv 2)) (pg_name (i := 4) scFs.nd rfl (Or.inl rfl)) (pss_cons
  (ps_set (i := 5) scFs.nd rfl (Or.inl rfl) (pe_call GB hr3 rfl DB.mg DB.F.kp DB.b .nil pass0 (pa_cons (pv 0) pa_nil)))
  (pss_cons
  (ps_set (i := 6) scFs.nd rfl (Or.inl rfl) (pe_callB (call_min2 rfl) (by rfl) T.min bt_min (pa_cons pe_int (pa_cons (pe_op op_add (pv 5) (pe_call GO hr2 rfl DO.mg DO.F.kp DO.b .nil pass0 (pa_cons (pv 0) (pa_cons (pe_lst (pa_cons pe_int (pa_cons pe_int (pa_cons pe_int (pa_cons pe_int (pa_cons (pe_call GP hr1 rfl DP.mg DP.F.kp DP.b .nil pass0 (pa_cons (pv 0) (pa_cons pe_int pa_nil))) pa_nil)))))) pa_nil)))) pa_nil))))
  (pss_one
  (ps_expr (pe_bm PySem.F.plainAttrs_list PySem.F.slot_list_append PySem.F.type_list_append mt_append (pv 3) (pa_cons (pe_tup (pa_cons (pv 4) (pa_cons (pv 5) (pa_cons (pv 6) pa_nil)))) pa_nil)))))))
  (pss_one
  (ps_ret (pe_callTy call_tuple_of (by rfl) T.tuple bt_tuple (pa_cons (pv 3) pa_nil))))))), ?_⟩
    refine ⟨_, rfl, _, rfl, p, dc, m, rfl, D, m0, m1, fun q ys H1 e1 hq hl hy nd D1 t1 => ?_⟩
    refine ⟨(show 0 ≤ sizeLine by decide), fun q2 h2 => ?_⟩
    have D1' := D1.new (o := .lst []) h2
    have e1' : (upd H1 q2 (.lst [])) q = some (.lst (ys.map V.str)) := (Same.new h2) _ _ e1
    have nq : q2 ≠ q := (ne_of_none e1 h2).symm
    have hq2 : H q2 = none := by
      cases e : H q2 with
      | none => rfl
      | some o => rw [t1 q2 o e (D1.neN h2).symm] at h2; cases h2
    have nq2c : q2 ≠ dc := by
      obtain ⟨xs, e⟩ := D1.cell
      exact (ne_of_none e h2).symm
    refine ⟨_, rfl, q, rfl, ⟨_, SqL.of e1'⟩, for_list (K := K) (a := q) (xs := ys.map V.str) (fun i σ H2 => ∃ (xs : List V) (fs : List Fld) (a b c : Option V), σ = [some (.ref p), some (.int m), some (.ref q), some (.ref q2), a, b, c] ∧ H2 q = some (.lst (ys.map V.str)) ∧ H2 q2 = some (.lst xs) ∧ Paired (FldAt H2) xs fs ∧ fs.map (·.1) = ys.take i ∧ (∀ f ∈ fs, FldOk f) ∧ Dr H2 p dc ∧ But p H H2)
      ⟨[], [], none, none, none, rfl, e1', upd_same, .nil, by simp, (fun _ h => by cases h), D1', t1.trans (But.new h2)⟩ (fun i σ H2 _ ⟨_, _, _, _, _, _, e, _⟩ => SqL.of e) ?_ ?_⟩
    · rintro i y σ H2 hi ⟨xs, fs, a, b, c, rfl, g1, g2, pf, hm, hf, D2, t2⟩
      rw [List.getElem?_map] at hi
      obtain ⟨n, hn, rfl⟩ := Option.map_eq_some_iff.mp hi
      have hil : i < ys.length := (List.getElem?_eq_some_iff.mp hn).1
      refine ⟨_, rfl, p, dc, rfl, D2, fun lo H3 l0 l1 D3 t3 => ?_⟩
      have np : ∀ {b : Addr} {ws : List V} {H' : Hp}, Dr H' p dc → H' b = some (.lst ws) → b ≠ p := fun d e => d.ne e (by intro kvs z; cases z)
      refine ⟨_, rfl, _, rfl, _, rfl, p, dc, _, rfl, D3, by decide, by decide, fun r H4 r0 r1 D4 t4 => ⟨(show 5 ≤ sizeLine by decide), fun q3 h3 => ?_⟩⟩
      have D4' := D4.new (o := .lst [.int 0, .int 1, .int 3, .int 9, .int r]) h3
      refine ⟨p, dc, q3, _, rfl, D4', SqL.of upd_same, by simp, by simp, fun x H5 hx D5 t5 => ?_⟩
      obtain ⟨z, rfl, z0⟩ : ∃ z : Int, x = .int z ∧ 0 ≤ z := by
        simp only [List.mem_cons, List.not_mem_nil, or_false] at hx
        rcases hx with rfl | rfl | rfl | rfl | rfl
        all_goals exact ⟨_, rfl, by omega⟩
      refine ⟨_, _, rfl, rfl, _, _, rfl, ?_⟩
      have t35 : But p H2 H5 := ((t3.trans t4).trans (But.new h3)).trans t5
      have g1' : H5 q = some (.lst (ys.map V.str)) := t35 q _ g1 (np D2 g1)
      have g2' : H5 q2 = some (.lst xs) := t35 q2 _ g2 (np D2 g2)
      have k5 : TK H2 H5 := TK.but D2 t35
      refine ⟨_, rfl, .inl ⟨rfl, _, SqL.of g2'⟩, _, rfl, _, rfl, _, rfl, (show 3 ≤ sizeLine by decide), fun q4 h4 => ?_⟩
      have g2'' : ∀ o, (upd H5 q4 o) q2 = some (.lst xs) := fun o => (Same.new h4) _ _ g2'
      have hlen : fs.length = i := by
        have := congrArg List.length hm
        rw [List.length_map, List.length_take] at this
        omega
      have pl := Paired.length pf
      refine ⟨q2, xs, _, rfl, rfl, g2'' _, small1000 (by omega), ?_⟩
      generalize hhi : (if lo + z < 999999 then lo + z else 999999) = hi'
      have h1 : lo ≤ hi' ∧ hi' ≤ 999999 := by rw [← hhi]; split <;> omega
      refine ⟨xs ++ [.ref q4], fs ++ [(n, lo, hi')], _, _, _, rfl, ?_, upd_same, ?_, ?_, ?_, ?_, ?_⟩
      · rw [upd_ne nq.symm]; exact (Same.new h4) _ _ g1'
      · refine Paired.snoc (flds_tk pf (k5.trans ((TK.new h4).trans (TK.lst (g2'' _))))) ⟨q4, rfl, ?_⟩
        exact (TK.lst (g2'' _)) _ _ upd_same
      · rw [List.map_append, hm, List.take_add_one, hn]; rfl
      · intro f hf'
        rcases List.mem_append.mp hf' with hf' | hf'
        · exact hf f hf'
        · obtain rfl : f = (n, lo, hi') := by simpa using hf'
          exact ⟨hy n (List.mem_of_getElem? hn), l0, h1.1, h1.2⟩
      · exact (D5.new h4).put (np (D5.new (o := .tup [.str n, .int lo, .int hi']) h4) (g2'' _)) nq2c
      · intro b o e hb
        rw [upd_ne (ne_of_none e hq2)]
        exact (Same.new h4) _ _ ((t2.trans t35) b o e hb)
    · rintro σ H2 ⟨xs, fs, a, b, c, rfl, g1, g2, pf, hm, hf, D2, t2⟩
      rw [List.length_map, List.take_length] at hm
      refine ⟨_, rfl, q2, xs, rfl, .inl ⟨SqL.of g2, fun l hn => ?_⟩⟩
      refine k l xs fs _ upd_same (flds_tk pf (TK.new hn)) ?_ hf (by rw [hm]; exact nd) ?_ (D2.new hn) (t2.trans (But.new hn))
      · rw [← List.length_map (f := (·.1)), hm]; exact hl
      · cases e : H l with
        | none => rfl
        | some o => rw [t2 l o e (D2.neN hn).symm] at hn; cases hn
end
end Cm

set_option Elab.async false
set_option linter.all false
set_option maxRecDepth 100000
set_option maxHeartbeats 4000000
namespace Cm
open PySem L2
/-! ### names -/
theorem uni : ∀ c < 128, Unicode.isAlpha c = (decide (65 ≤ c ∧ c ≤ 90) || decide (97 ≤ c ∧ c ≤ 122)) ∧ Unicode.isLower c = decide (97 ≤ c ∧ c ≤ 122) ∧ Unicode.isUpper c = decide (65 ≤ c ∧ c ≤ 90) ∧ Unicode.isTitle c = false := by decide +kernel
def nameB (x : Str) : Bool := decide (x.length ≤ 8) && (x.cps.all (· < 128) && ((x.length > 0 && x.cps.all Unicode.isAlpha) && (x.cps.any Unicode.isLower && !x.cps.any fun c => Unicode.isUpper c || Unicode.isTitle c)))
theorem nameB_iff (x : Str) : nameB x = true ↔ Nm x := by
  unfold nameB
  simp only [Bool.and_eq_true, decide_eq_true_eq, Bool.not_eq_true', ← Array.all_toList, ← Array.any_toList, List.all_eq_true, List.any_eq_true, List.any_eq_false]
  constructor
  · rintro ⟨h8, ha, ⟨h0, hal⟩, ⟨c0, hc0, hl0⟩, hu⟩
    refine ⟨h0, h8, fun c hc => ?_⟩
    have c1 : c < 128 := ha c hc
    obtain ⟨u1, u2, u3, u4⟩ := uni c c1
    have a1 := hal c hc
    have a2 := hu c hc
    rw [u1] at a1
    rw [u3, u4] at a2
    simp at a1 a2
    omega
  · rintro ⟨h0, h8, lc⟩
    have cc : ∀ c ∈ x.cps.toList, c < 128 ∧ 97 ≤ c ∧ c ≤ 122 := fun c hc => ⟨by have := lc c hc; omega, lc c hc⟩
    refine ⟨h8, fun c hc => (cc c hc).1, ⟨h0, fun c hc => ?_⟩, ?_, fun c hc => ?_⟩
    · rw [(uni c (cc c hc).1).1]; simp [(cc c hc).2]
    · rw [len_cps] at h0
      obtain ⟨c, hc⟩ := List.exists_mem_of_length_pos (show 0 < x.cps.toList.length by omega)
      exact ⟨c, hc, by rw [(uni c (cc c hc).1).2.1]; simp [(cc c hc).2]⟩
    · rw [(uni c (cc c hc).1).2.2.1, (uni c (cc c hc).1).2.2.2]
      have := (cc c hc).2
      simp; omega
structure TxtK (mg : Str → Option Value) : Prop where
  ml : ∃ t, mg "MOST_LETTERS" = some (.int 8 t)
  mf : ∃ t, mg "MOST_FIELDS" = some (.int 4 t)
  lim : ∃ t, mg "LIMIT" = some (.int 999999 t)
section
variable {P : Program} {w : World} {K : PySem.W.Frag} {mg : Str → Option Value} {base : Heap}
def spIsName : Sp := fun vs H Q _ => ∃ x : Str, vs = [.str x] ∧ x.length ≤ sizeLine ∧ Q (.bl (nameB x)) H
theorem scIN : FnScope ["text"] ["text"] (defScope (top 11)) := ⟨rfl, rfl, rfl, by decide +kernel, rfl, by decide +kernel, by decide +kernel⟩
theorem ok_isname {f : Addr} {fd : FuncData} (F : Fun K "is_name" "is_name" (top 11) f fd) (T : Txt K mg) (TK : TxtK mg) : FnOk P w K mg base CX0 1 f fd ["text"] spIsName := by
  refine F.ok scIN (fun vs H Q E h => ?_) (fun cdv A outer s H vs Q E hr h => ?_)
  · obtain ⟨x, rfl, _⟩ := h
    rfl
  · obtain ⟨x, rfl, hl, k⟩ := h
    obtain ⟨t8, m8⟩ := TK.ml
    refine ⟨_, (pss_one
  (ps_ret (pe_and (pe_cmpR op_le (pe_callB call_len_str (by rfl) T.len bt_len (pa_cons (pv 0) pa_nil)) (pe_glob (v := .int 8) rfl m8 ⟨_, rfl⟩) (nomark _)) (pe_and (pe_bm0 PySem.F.plainAttrs_str PySem.F.slot_str_isascii PySem.F.type_str_isascii mt_isascii (pv 0)) (pe_and (pe_bm0 PySem.F.plainAttrs_str PySem.F.slot_str_isalpha PySem.F.type_str_isalpha mt_isalpha (pv 0)) (pe_one (pe_bm0 PySem.F.plainAttrs_str PySem.F.slot_str_islower PySem.F.type_str_islower mt_islower (pv 0)))))))), ?_⟩
    refine ⟨_, rfl, x, rfl, hl, _, _, rfl, rfl, _, rfl, ?_⟩
    unfold nameB at k
    by_cases h8 : x.length ≤ 8
    · refine ifT (by simp; omega) ⟨_, rfl, rfl, x, rfl, rfl, _, rfl, ?_⟩
      rw [decide_eq_true h8, Bool.true_and] at k
      cases h1 : x.cps.all (· < 128) with
      | false => rw [h1] at k; exact ifF h1 k
      | true =>
        rw [h1, Bool.true_and] at k
        refine ifT h1 ⟨_, rfl, rfl, x, rfl, rfl, _, rfl, ?_⟩
        cases h2 : (x.length > 0 && x.cps.all Unicode.isAlpha) with
        | false => rw [h2] at k; exact ifF h2 k
        | true =>
          rw [h2, Bool.true_and] at k
          exact ifT h2 ⟨_, rfl, rfl, x, rfl, rfl, k⟩
    · refine ifF (by simp; omega) ?_
      rw [decide_eq_false h8, Bool.false_and] at k
      exact k
/-! ### need_name, need_fields: of what is in order -/
def spNeedName : Sp := fun vs H Q _ => ∃ x : Str, vs = [.str x] ∧ Nm x ∧ Q .non H
theorem scNN : FnScope ["text"] ["text"] (defScope (top 12)) := ⟨rfl, rfl, rfl, by decide +kernel, rfl, by decide +kernel, by decide +kernel⟩
theorem ok_needname {f fI : Addr} {fd fdI : FuncData} (F : Fun K "need_name" "need_name" (top 12) f fd) (T : Txt K mg) (TK : TxtK mg) (DI : Def K mg "is_name" (top 11) ["text"] fI fdI) : FnOk P w K mg base CX0 2 f fd ["text"] spNeedName := by
  have GI : FnOk P w K mg base CX0 1 fI fdI ["text"] spIsName := ok_isname DI.F T TK
  refine F.ok scNN (fun vs H Q E h => ?_) (fun cdv A outer s H vs Q E hr h => ?_)
  · obtain ⟨x, rfl, _⟩ := h
    rfl
  · obtain ⟨x, rfl, nm, k⟩ := h
    refine ⟨_, (pss_one (ps_if (pt_not (pt_val (pe_call GI hr rfl DI.mg DI.F.kp DI.b .nil pass0 (pa_cons (pv 0) pa_nil)))) (pss_one ps_never) pss_nil)), ?_⟩
    refine ⟨_, rfl, x, rfl, Nat.le_trans nm.hi (by decide), _, rfl, ?_⟩
    rw [(nameB_iff x).mpr nm]
    exact ifF rfl k
def spNeedFields : Sp := fun vs H Q _ => ∃ (a : Addr) (xs : List V) (fs : List Fld), vs = [.ref a] ∧ H a = some (.tup xs) ∧ Paired (FldAt H) xs fs ∧ fs.length ≤ 60 ∧ (∀ f ∈ fs, FldOk f) ∧ (fs.map (·.1)).Nodup ∧ ∀ H', Same H H' → Q .non H'
theorem paired_at {α β : Type} {F : α → β → Prop} : ∀ {xs : List α} {ys : List β} {i : Nat} {x : α}, Paired F xs ys → xs[i]? = some x → ∃ y, ys[i]? = some y ∧ F x y
  | _, _, _, _, .nil, e => by simp at e
  | _, _, 0, _, .cons r _, e => by simp at e; subst e; exact ⟨_, rfl, r⟩
  | _, _, i + 1, x, .cons _ t, e => by
    obtain ⟨y, h1, h2⟩ := paired_at (i := i) (x := x) t (by simpa using e)
    exact ⟨y, by simpa using h1, h2⟩
theorem scNF : FnScope ["fields", "seen", "name", "low", "high"] ["fields"] (defScope (top 13)) := ⟨rfl, rfl, rfl, by decide +kernel, rfl, by decide +kernel, by decide +kernel⟩
theorem ok_needfields {f fI fN : Addr} {fd fdI fdN : FuncData} (F : Fun K "need_fields" "need_fields" (top 13) f fd) (T : Txt K mg) (TK' : TxtK mg) (DI : Def K mg "is_name" (top 11) ["text"] fI fdI) (DN : Def K mg "need_name" (top 12) ["text"] fN fdN) : FnOk P w K mg base CX0 3 f fd ["fields"] spNeedFields := by
  have GN : FnOk P w K mg base CX0 2 fN fdN ["text"] spNeedName := ok_needname DN.F T TK' DI
  refine F.ok scNF (fun vs H Q E h => ?_) (fun cdv A outer s H vs Q E hr h => ?_)
  · obtain ⟨a, xs, fs, rfl, _⟩ := h
    rfl
  · obtain ⟨a, xs, fs, rfl, ha, pf, hl, hf, nd, k⟩ := h
    obtain ⟨tl, ml⟩ := TK'.lim
    refine ⟨_, (pss_cons
  (ps_set (i := 1) scNF.nd rfl (Or.inl rfl) (pe_lst pa_nil))
  (pss_one
  (ps_for PassesOwn.never rfl (pi_tup (pv 0)) (pg_tup rfl (pgs_cons (pg_name (i := 2) scNF.nd rfl (Or.inl rfl)) (pgs_cons (pg_name (i := 3) scNF.nd rfl (Or.inl rfl)) (pgs_cons (pg_name (i := 4) scNF.nd rfl (Or.inl rfl)) pgs_nil))))
    (pss_cons (ps_expr (pe_call GN hr rfl DN.mg DN.F.kp DN.b .nil pass0 (pa_cons (pv 2) pa_nil)))
    (pss_cons (ps_if (pt_cmpR op_in_seq (pv 2) (pv 1) rfl) (pss_one ps_never) pss_nil)
    (pss_cons (ps_if (pt_not (pt_chain3 op_le op_le op_le (pe_un un_neg (pe_glob (v := .int 999999) rfl ml ⟨_, rfl⟩)) (pv 3) (pv 4) (pe_glob (v := .int 999999) rfl ml ⟨_, rfl⟩))) (pss_one ps_never) pss_nil)
    (pss_one (ps_expr (pe_bm PySem.F.plainAttrs_list PySem.F.slot_list_append PySem.F.type_list_append mt_append (pv 1) (pa_cons (pv 2) pa_nil)))))))))), ?_⟩
    refine ⟨(show 0 ≤ sizeLine by decide), fun q hq => ?_⟩
    have pl := Paired.length pf
    have ha' : ∀ {H' : Hp}, Same H H' → H' a = some (.tup xs) := fun e => e _ _ ha
    refine ⟨_, rfl, a, rfl, ⟨_, SqT.of (ha' (Same.new hq))⟩, for_tup (K := K) (a := a) (xs := xs) (fun i σ H1 => ∃ (b c d : Option V), σ = [some (.ref a), some (.ref q), b, c, d] ∧ H1 q = some (.lst (((fs.map (·.1)).take i).map V.str)) ∧ Same H H1)
      ⟨none, none, none, rfl, by rw [upd_same]; simp, Same.new hq⟩ (fun i σ H1 _ ⟨_, _, _, _, _, e⟩ => SqT.of (ha' e)) ?_ ?_⟩
    · rintro i x σ H1 hi ⟨b, c, d, rfl, e1, s1⟩
      obtain ⟨⟨n, lo, hi'⟩, hfi, b', rfl, hb⟩ := paired_at pf hi
      have fo := hf _ (List.mem_of_getElem? hfi)
      have hil : i < fs.length := (List.getElem?_eq_some_iff.mp hfi).1
      refine ⟨b', _, rfl, SqT.of (s1 _ _ hb), rfl, _, _, rfl, _, _, rfl, _, _, rfl, rfl, ?_⟩
      refine ⟨_, rfl, n, rfl, fo.nm, ?_⟩
      have hnot : n ∉ (fs.map (·.1)).take i := by
        intro hm
        have h1 : (fs.map (·.1))[i]? = some n := by rw [List.getElem?_map, hfi]; rfl
        obtain ⟨j, hj, e⟩ := List.getElem_of_mem hm
        rw [List.length_take] at hj
        rw [List.getElem_take] at e
        have h2 : (fs.map (·.1))[j]? = some n := by rw [List.getElem?_eq_getElem (by omega), e]
        have := nodup_ix nd h1 h2
        omega
      refine ⟨_, rfl, _, rfl, q, _, rfl, .inl (SqL.of e1), rfl, ?_, _, rfl, ?_⟩
      · rw [List.all_eq_true]
        intro v hv
        obtain ⟨y, _, rfl⟩ := List.mem_map.mp hv
        rfl
      refine ifF ?_ ?_
      · show inV (.str n) _ = false
        unfold inV
        rw [List.any_map, List.any_eq_false]
        intro y hy hy2
        have : y = n := by simpa [eqV] using hy2
        exact hnot (this ▸ hy)
      have f1 := fo.lo
      have f2 := fo.le
      have f3 := fo.hi
      refine ⟨_, rfl, _, rfl, _, _, rfl, rfl, _, rfl, ifT (by simpa using f1) ?_⟩
      refine ⟨_, rfl, _, _, rfl, rfl, _, rfl, ifT (by simpa using f2) ?_⟩
      refine ⟨_, _, rfl, rfl, _, rfl, ifF (by simpa using f3) ?_⟩
      have lt : ((fs.map (·.1)).take i).length ≤ 60 := by rw [List.length_take, List.length_map]; omega
      refine ⟨_, rfl, .inl ⟨rfl, _, SqL.of e1⟩, _, rfl, q, _, _, rfl, rfl, e1, by rw [List.length_map]; exact small1000 (by omega), ?_⟩
      refine ⟨_, _, _, rfl, ?_, fun c o e => by rw [upd_ne (ne_of_none e hq)]; exact s1 c o e⟩
      rw [upd_same, List.take_add_one, List.getElem?_map, hfi]
      simp
    · rintro σ H1 ⟨b, c, d, rfl, e1, s1⟩
      exact k H1 s1
end
end Cm

set_option Elab.async false
set_option linter.all false
set_option maxRecDepth 100000
set_option maxHeartbeats 4000000
namespace Cm
open PySem L2
/-! ### a def with defaults -/
structure FunD (K : PySem.W.Frag) (x qual : Str) (st : Stmt) (dV : Value) (f : Addr) (fd : FuncData) : Prop where
  ex : ∃ (oc : Value) (od : Option Addr) (kV doc pm : Value) (an : Option Addr) (cdv ct : Value) (osl : Array (Option Value)),
    fd = PySem.W.fnOf x qual (defArgs st) (defBody st) (defScope st) dV kV doc pm an cdv ct ∧ K.lookup f = some ⟨oc, od, .func fd, osl⟩ ∧ PySem.W.codeIn K cdv qual = true
  kp : PySem.W.keepIn K (.ref f) = true
section
variable {P : Program} {w : World} {K : PySem.W.Frag} {mg : Str → Option Value} {base : Heap}
theorem FunD.ok {x qual : Str} {st : Stmt} {dV : Value} {f : Addr} {fd : FuncData} {N ps : List Str} {k : Nat} {sp : Sp} (F : FunD K x qual st dV f fd) (S : FnScope N ps (defScope st)) (len : ∀ vs H Q E, sp vs H Q E → vs.length = ps.length)
    (hbody : ∀ (cdv : Value) (A : Around) (outer : List Env) (s : Shared) (H : Hp) (vs : List V) (Q : VK) (E : XK), Room k (A.deeper (PyProof.Rows.envOfC qual (defScope st) s.heap.objs.size f cdv)) → sp vs H Q E →
      ∃ t, PSs (cxOf CX0 P w K mg base N qual (defScope st) f cdv A outer s H E).nox (defBody st) t ∧ t { nx := fun _ H' => Q .non H', rt := Q } (L2.start N vs) H) : FnOk P w K mg base CX0 (k + 1) f fd ps sp := by
  obtain ⟨oc, od, kV, doc, pm, an, cdv, ct, osl, rfl, lk, hcd⟩ := F.ex
  refine fn_of lk hcd S len fun A outer s H vs Q E hr hsp => ?_
  obtain ⟨t, h, q⟩ := hbody cdv A outer s H vs Q E hr hsp
  exact ⟨t, h.nox, q⟩
/-- how its arguments bind, its defaults a tuple of the module -/
theorem FunD.binds {x qual : Str} {st : Stmt} {f T : Addr} {fd : FuncData} {ps : List Str} {ds : List Value} {oT : Obj} {items : Array Value} {n : Nat} (F : FunD K x qual st (.ref T) f fd) (hT : K.lookup T = some oT) (hd : oT.data = .seq items n)
    (h : ∀ (kV doc pm : Value) (an : Option Addr) (cdv ct : Value) (s : Shared) (us : List Value), s.heap.get? T = some oT → (us ++ ds).length = ps.length → BindsTo s (PySem.W.fnOf x qual (defArgs st) (defBody st) (defScope st) (.ref T) kV doc pm an cdv ct) ⟨us, []⟩ (ps.zip (us ++ ds))) : Binds K fd ps ds := by
  obtain ⟨oc, od, kV, doc, pm, an, cdv, ct, osl, rfl, lk, hcd⟩ := F.ex
  exact fun s us X hl => h kV doc pm an cdv ct s us (X _ _ hT) hl
/-! ### Kind -/
abbrev sInit : Stmt := inClass (top 15) 0
theorem bindInit {T : Addr} {oT : Obj} {d0 : Value} {n : Nat} (hd : oT.data = .seq #[d0] n) (kV doc pm : Value) (an : Option Addr) (cdv ct : Value) (s : Shared) (us : List Value) (hT : s.heap.get? T = some oT) (h : (us ++ []).length = (["self", "name", "fields"] : List Str).length) :
    BindsTo s (PySem.W.fnOf "__init__" "Kind.__init__" (defArgs sInit) (defBody sInit) (defScope sInit) (.ref T) kV doc pm an cdv ct) ⟨us, []⟩ ((["self", "name", "fields"] : List Str).zip (us ++ [])) := by
  rw [List.append_nil] at h ⊢
  match us, h with
  | [a, b, c], _ => exact BindsTo.of_defaults rfl hT hd rfl rfl
/-- what the walk asks of the class -/
structure KCls (K : PySem.W.Frag) (mg : Str → Option Value) (C : Addr) : Prop where
  cl : Cls K C
  nN : NoAttr K C "name"
  nF : NoAttr K C "fields"
  mg : mg "Kind" = some (.ref C)
theorem nf : ¬ (("name" : Str) = "fields") := by decide +kernel
def kf (n : Str) (a : Addr) : List (Str × V) := putF "fields" (.ref a) (putF "name" (.str n) [])
theorem kf_name (n : Str) (a : Addr) : (kf n a).lookup ("name" : Str) = some (.str n) := by
  unfold kf
  rw [lookup_putF, if_neg nf, lookup_putF, if_pos rfl]
theorem kf_fields (n : Str) (a : Addr) : (kf n a).lookup ("fields" : Str) = some (.ref a) := by
  unfold kf
  rw [lookup_putF, if_pos rfl]
theorem kf_no (n : Str) (a : Addr) {m : Str} (h1 : ¬ m = "fields") (h2 : ¬ m = "name") : (kf n a).lookup m = none := by
  unfold kf
  rw [lookup_putF, if_neg h1, lookup_putF, if_neg h2]
  rfl
/-- a Kind stands at o -/
structure KindAt (C : Addr) (H : Hp) (o : Addr) (n : Str) (a : Addr) (fs : List Fld) : Prop where
  ob : ∃ dx, H o = some (.ins C dx (kf n a))
  tp : ∃ xs, H a = some (.tup xs) ∧ Paired (FldAt H) xs fs
def spInit (C : Addr) : Sp := fun vs H Q _ => ∃ (o dx a : Addr) (n : Str) (xs : List V) (fs : List Fld), vs = [.ref o, .str n, .ref a] ∧ H o = some (.ins C dx []) ∧ Nm n ∧ H a = some (.tup xs) ∧ Paired (FldAt H) xs fs ∧ fs.length ≤ 4 ∧ (∀ f ∈ fs, FldOk f) ∧ (fs.map (·.1)).Nodup ∧
  ∀ H', KindAt C H' o n a fs → (∀ b u, H b = some u → b ≠ o → H' b = some u) → Q .non H'
theorem scKI : FnScope ["self", "name", "fields"] ["self", "name", "fields"] (defScope sInit) := ⟨rfl, rfl, rfl, by decide +kernel, rfl, by decide +kernel, by decide +kernel⟩
theorem ok_init {C f fI fN fF : Addr} {fd fdI fdN fdF : FuncData} {dV : Value} (F : FunD K "__init__" "Kind.__init__" sInit dV f fd) (T : Txt K mg) (TK' : TxtK mg) (KC : KCls K mg C) (DI : Def K mg "is_name" (top 11) ["text"] fI fdI) (DN : Def K mg "need_name" (top 12) ["text"] fN fdN)
    (DF : Def K mg "need_fields" (top 13) ["fields"] fF fdF) : FnOk P w K mg base CX0 4 f fd ["self", "name", "fields"] (spInit C) := by
  have GN : FnOk P w K mg base CX0 2 fN fdN ["text"] spNeedName := ok_needname DN.F T TK' DI
  have GF : FnOk P w K mg base CX0 3 fF fdF ["fields"] spNeedFields := ok_needfields DF.F T TK' DI DN
  refine F.ok scKI (fun vs H Q E h => ?_) (fun cdv A outer s H vs Q E hr h => ?_)
  · obtain ⟨o, dx, a, n, xs, fs, rfl, _⟩ := h
    rfl
  · obtain ⟨o, dx, a, n, xs, fs, rfl, ho, hn, ha, pf, hl, hf, nd, k⟩ := h
    obtain ⟨tf, mf⟩ := TK'.mf
    have hr2 : Room 2 _ := hr.mono (by decide)
    have pl := Paired.length pf
    refine ⟨_, (pss_cons
  (ps_expr (pe_call GN hr2 rfl DN.mg DN.F.kp DN.b .nil pass0 (pa_cons (pv 1) pa_nil)))
  (pss_cons
  (ps_if (pt_cmpR op_gt (pe_callB call_len_seq (by rfl) T.len bt_len (pa_cons (pv 2) pa_nil)) (pe_glob (v := .int 4) rfl mf ⟨_, rfl⟩) (nomark _)) (pss_one ps_never) pss_nil)
  (pss_cons
  (ps_expr (pe_call GF hr rfl DF.mg DF.F.kp DF.b .nil pass0 (pa_cons (pv 2) pa_nil)))
  (pss_cons
  (ps_fld (pv 0) (pv 1) rfl)
  (pss_one
  (ps_fld (pv 0) (pe_callTy call_tuple_of (by rfl) T.tuple bt_tuple (pa_cons (pv 2) pa_nil)) rfl)))))), ?_⟩
    refine ⟨_, rfl, n, rfl, hn, ?_⟩
    refine ⟨_, rfl, a, xs, rfl, .inr (SqT.of ha), _, _, rfl, rfl, _, rfl, ifF (by simp; omega) ?_⟩
    refine ⟨_, rfl, a, xs, fs, rfl, ha, pf, by omega, hf, nd, fun H1 s1 => ?_⟩
    refine ⟨_, rfl, _, rfl, o, C, dx, [], rfl, s1 _ _ ho, KC.cl, KC.nN, (show 0 < 1000 by decide), ?_⟩
    have nao : a ≠ o := ne_of ha ho (by intro z; cases z)
    have ha1 : ∀ u, (upd H1 o u) a = some (.tup xs) := fun u => by rw [upd_ne nao]; exact s1 _ _ ha
    refine ⟨_, rfl, a, xs, rfl, .inr ⟨SqT.of (ha1 _), ?_⟩⟩
    refine ⟨_, rfl, o, C, dx, _, rfl, upd_same, KC.cl, KC.nF, (show 1 < 1000 by decide), ?_⟩
    have keep : ∀ b u, H b = some u → b ≠ o → (upd (upd H1 o (.ins C dx (putF "name" (.str n) []))) o (.ins C dx (kf n a))) b = some u := fun b u e hb => by
      rw [upd_ne hb, upd_ne hb]; exact s1 _ _ e
    refine k _ ⟨⟨dx, upd_same⟩, xs, keep a _ ha nao, flds_tk pf fun b ys e => keep b _ e (ne_of e ho (by intro z; cases z))⟩ keep
end
end Cm

set_option Elab.async false
set_option linter.all false
set_option maxRecDepth 100000
set_option maxHeartbeats 4000000
namespace Cm
open PySem L2
theorem KindAt.same {C o a : Addr} {n : Str} {fs : List Fld} {H H' : Hp} (h : KindAt C H o n a fs) (e : Same H H') : KindAt C H' o n a fs := by
  obtain ⟨⟨dx, h1⟩, xs, h2, h3⟩ := h
  exact ⟨⟨dx, e _ _ h1⟩, xs, e _ _ h2, flds_tk h3 fun b ys z => e _ _ z⟩
def gFld (K : PySem.W.Frag) : TG := gTup K 3 (gCons (gName 0) (gCons (gName 1) (gCons (gName 2) gNil)))
theorem comp_flds {K : PySem.W.Frag} {H : Hp} {a : Addr} {xs : List V} {fs : List Fld} {te : TE} {F : List V → Hp → Prop} {σ0 : St} (ha : H a = some (.tup xs)) (pf : Paired (FldAt H) xs fs) (hl : fs.length ≤ 60) (h0 : σ0 = [none, none, none]) (out : Fld → V)
    (hte : ∀ f ∈ fs, ∀ Q : VK, Q (out f) H → te [some (.str f.1), some (.int f.2.1), some (.int f.2.2)] H Q) (hF : F (fs.map out) H) :
    ∃ W : Nat → Nat → List V → St → Hp → Prop, (∃ m, W 0 m [] σ0 H) ∧ CTurn (Itt K a) (gFld K) tYes te F W := by
  have pl := Paired.length pf
  refine comp_tup (xs := xs) (fun i ys σ H' => ys = (fs.take i).map out ∧ (∃ u v w, σ = [u, v, w]) ∧ H' = H) (Nat.le_trans (by omega) (show 60 ≤ sizeLine by decide)) ⟨by simp, ⟨_, _, _, h0⟩, rfl⟩ ?_ ?_ ?_
  · rintro i ys σ H' _ ⟨_, _, rfl⟩
    exact SqT.of ha
  · rintro i x ys σ H' hx hys ⟨rfl, ⟨u, v, w, rfl⟩, rfl⟩ N hN
    obtain ⟨f, hf, b, rfl, hb⟩ := paired_at pf hx
    refine ⟨b, _, rfl, SqT.of hb, rfl, _, _, rfl, _, _, rfl, _, _, rfl, rfl, ?_⟩
    refine hte f (List.mem_of_getElem? hf) _ (hN _ _ _ (by simpa using hys) ⟨?_, ⟨_, _, _, rfl⟩, rfl⟩)
    rw [List.take_add_one, hf]
    simp
  · rintro ys σ H' hys ⟨rfl, _, rfl⟩
    rw [List.take_of_length_le (by omega)]
    exact hF
/-! ### the texts -/
def fldT (f : Fld) : Str := ((((f.1 ++ (" " : Str)) ++ Str.ofString (toString f.2.1)) ++ (".." : Str)) ++ Str.ofString (toString f.2.2))
def boundsT (fs : List Fld) : Str := Txt.join (", " : Str) (fs.map fldT)
theorem num_len {i : Int} (h1 : -999999 ≤ i) (h2 : i ≤ 999999) : (Str.ofString (toString i)).length ≤ 8 ∧ i.natAbs.log2 < 1920 := by
  constructor
  · have := int_text_length_le10 (a := i) (k := 6) (by decide) (by omega)
    have e : (Str.ofString (toString i)).length = (toString i).length := ofString_length _
    omega
  · have h3 : i.natAbs < 2 ^ 20 := by omega
    by_cases h0 : i.natAbs = 0
    · rw [h0]; decide
    · exact Nat.lt_trans ((Nat.log2_lt h0).mpr h3) (by decide)
theorem fldT_len {f : Fld} (h : FldOk f) : (fldT f).length ≤ 40 := by
  have h1 := (num_len h.lo (Int.le_trans h.le h.hi)).1
  have h2 := (num_len (Int.le_trans h.lo h.le) h.hi).1
  have h3 := h.nm.hi
  have e1 : ((" " : Str)).length = 1 := rfl
  have e2 : ((".." : Str)).length = 2 := rfl
  unfold fldT
  simp only [Str.length_append, e1, e2]
  omega
theorem boundsT_len {fs : List Fld} (hl : fs.length ≤ 4) (h : ∀ f ∈ fs, FldOk f) : (boundsT fs).length ≤ 1000 := by
  unfold boundsT
  rw [txt_join]
  by_cases e : fs.map fldT = []
  · rw [e]; decide
  · have h1 := join_length_add _ e
    have h2 := piled_le (ts := fs.map fldT) (k := 40) (fun t ht => by obtain ⟨f, hf, rfl⟩ := List.mem_map.mp ht; exact fldT_len (h f hf))
    rw [List.length_map] at h2
    have : fs.length * (40 + 2) ≤ 4 * 42 := Nat.mul_le_mul_right _ hl
    omega
def strT (n : Str) (fs : List Fld) : Str := ((n ++ ("(" : Str)) ++ boundsT fs) ++ (")" : Str)
def reprT (n : Str) (fs : List Fld) : Str := (((("Kind(" : Str) ++ reprText n) ++ (", " : Str)) ++ (fsD fs).shown) ++ (")" : Str)
theorem rt_len {n : Str} (h : Nm n) : (reprText n).length ≤ 82 := by
  have h1 := StrLaws.reprText_len n (fun c hc => Nat.lt_of_le_of_lt (h.lc c hc).2 (by decide))
  have := h.hi
  omega
theorem fD_len {f : Fld} (h : FldOk f) : (fD f).shown.length ≤ 300 := by
  have h1 := (num_len h.lo (Int.le_trans h.le h.hi)).1
  have h2 := (num_len (Int.le_trans h.lo h.le) h.hi).1
  have h3 := rt_len h.nm
  have := tt_le (k := 82) (ts := [reprText f.1, Str.ofString (toString f.2.1), Str.ofString (toString f.2.2)]) (fun t ht => by
    simp only [List.mem_cons, List.not_mem_nil, or_false] at ht
    rcases ht with rfl | rfl | rfl <;> omega)
  exact Nat.le_trans this (show 3 * 84 + 3 ≤ 300 by decide)
theorem shownAll_map (ds : List PyData) : PyData.shownAll ds = ds.map PyData.shown := by
  induction ds with
  | nil => rfl
  | cons d r ih => rw [PyData.shownAll, ih, List.map_cons]
theorem fsD_len {fs : List Fld} (hl : fs.length ≤ 4) (h : ∀ f ∈ fs, FldOk f) : (fsD fs).shown.length ≤ 2000 := by
  show (tupleText (PyData.shownAll (fs.map fD))).length ≤ 2000
  rw [shownAll_map, List.map_map]
  have := tt_le (k := 300) (ts := fs.map (PyData.shown ∘ fD)) (fun t ht => by obtain ⟨f, hf, rfl⟩ := List.mem_map.mp ht; exact fD_len (h f hf))
  rw [List.length_map] at this
  have : fs.length * (300 + 2) ≤ 4 * 302 := Nat.mul_le_mul_right _ hl
  omega
theorem showN {n : Str} (h : Nm n) : ShowD (.str n) := ⟨rfl, rfl, by simp [PyData.depth], Nat.le_trans (rt_len h) (by decide)⟩
theorem fd_show {f : Fld} (h : FldOk f) : (fD f).showable = true ∧ (fD f).hasDict = false := by
  have h1 := (num_len h.lo (Int.le_trans h.le h.hi)).2
  have h2 := (num_len (Int.le_trans h.lo h.le) h.hi).2
  constructor
  · simp [fD, PyData.showable, PyData.showableAll, h1, h2]
  · simp [fD, PyData.hasDict, PyData.hasDictAll]
theorem showFs {fs : List Fld} (hl : fs.length ≤ 4) (h : ∀ f ∈ fs, FldOk f) : ShowD (fsD fs) := by
  refine ⟨?_, ?_, ?_, Nat.le_trans (fsD_len hl h) (by decide)⟩
  · show PyData.showableAll (fs.map fD) = true
    clear hl
    induction fs with
    | nil => rfl
    | cons f r ih => rw [List.map_cons, PyData.showableAll, (fd_show (h f (by simp))).1, ih fun g hg => h g (by simp [hg])]; rfl
  · show PyData.hasDictAll (fs.map fD) = false
    clear hl
    induction fs with
    | nil => rfl
    | cons f r ih => rw [List.map_cons, PyData.hasDictAll, (fd_show (h f (by simp))).2, ih fun g hg => h g (by simp [hg])]; rfl
  · have : PyData.depthAll (fs.map fD) ≤ 10 := by
      clear hl h
      induction fs with
      | nil => simp [PyData.depthAll]
      | cons f r ih =>
        rw [List.map_cons, PyData.depthAll]
        have : (fD f).depth ≤ 10 := by simp [fD, PyData.depth, PyData.depthAll]
        omega
    simp only [fsD, PyData.depth]
    omega
section
variable {P : Program} {w : World} {K : PySem.W.Frag} {mg : Str → Option Value} {base : Heap}
/-! ### bounds_text -/
def spBounds : Sp := fun vs H Q _ => ∃ (a : Addr) (xs : List V) (fs : List Fld), vs = [.ref a] ∧ H a = some (.tup xs) ∧ Paired (FldAt H) xs fs ∧ fs.length ≤ 4 ∧ (∀ f ∈ fs, FldOk f) ∧ ∀ H', Same H H' → Q (.str (boundsT fs)) H'
theorem scBT : FnScope ["fields"] ["fields"] (defScope (top 14)) := ⟨rfl, rfl, rfl, by decide +kernel, rfl, by decide +kernel, by decide +kernel⟩
theorem nd3 : List.Nodup (["name", "low", "high"] : List Str) := by decide +kernel
theorem ok_bounds {f : Addr} {fd : FuncData} (F : Fun K "bounds_text" "bounds_text" (top 14) f fd) (T : Txt K mg) : FnOk P w K mg base CX0 1 f fd ["fields"] spBounds := by
  refine F.ok scBT (fun vs H Q E h => ?_) (fun cdv A outer s H vs Q E hr h => ?_)
  · obtain ⟨a, xs, fs, rfl, _⟩ := h
    rfl
  · obtain ⟨a, xs, fs, rfl, ha, pf, hl, hf, k⟩ := h
    refine ⟨_, (pss_one
  (ps_ret (pe_bm PySem.F.plainAttrs_str PySem.F.slot_str_join PySem.F.type_str_join mt_join pe_str (pa_cons (pe_comp (g := gFld K) (own := ["name", "low", "high"]) (js := []) (N' := ["name", "low", "high"]) (CompScope.of (osc := defScope (top 14)) (N := ["fields"]) rfl rfl ⟨rfl, by decide +kernel, by decide +kernel, by decide +kernel, rfl, by decide +kernel⟩) rfl (pi_tup (pv 0)) (fun _ _ _ _ _ => (pg_tup rfl (pgs_cons (pg_name (i := 0) nd3 rfl (Or.inl rfl) (Or.inr rfl)) (pgs_cons (pg_name (i := 1) nd3 rfl (Or.inl rfl) (Or.inr rfl)) (pgs_cons (pg_name (i := 2) nd3 rfl (Or.inl rfl) (Or.inr rfl)) pgs_nil))))) (fun _ _ _ _ _ => pifs_nil) (fun _ _ _ _ _ => (pe_fstr (pf_val (pv 0) (pf_txt (pf_val (pv 1) (pf_txt (pf_val (pv 2) pf_nil)))))))) pa_nil)))), ?_⟩
    refine ⟨rfl, _, rfl, a, rfl, ⟨xs, SqT.of ha⟩, comp_flds ha pf (by omega) rfl (fun f => .str (fldT f)) (fun f hfm Q q => ?_) ?_⟩
    · have fo := hf f hfm
      have l1 := num_len fo.lo (Int.le_trans fo.le fo.hi)
      have l2 := num_len (Int.le_trans fo.lo fo.le) fo.hi
      have l3 := fo.nm.hi
      have l4 := fldT_len fo
      have big : 40 ≤ sizeLine := by decide
      have e1 : ((" " : Str)).length = 1 := rfl
      have e2 : ((".." : Str)).length = 2 := rfl
      refine ⟨_, rfl, f.1, .inl ⟨rfl, by omega⟩, ?_, ?_, _, rfl, _, .inr ⟨_, rfl, l1.2, rfl⟩, ?_, ?_, _, rfl, _, .inr ⟨_, rfl, l2.2, rfl⟩, ?_, ?_, ?_⟩
      all_goals (try rw [Str.empty_append])
      all_goals (try (first | omega | (simp only [Str.length_append, e1, e2]; omega)))
      exact q
    · have hl60 : fs.length ≤ sizeLine := Nat.le_trans hl (by decide)
      refine ⟨by rw [List.length_map]; exact hl60, fun q hq => ?_⟩
      have hsum : ((fs.map fldT).map (·.length)).sum ≤ fs.length * 40 := by
        clear hl60 pf ha k hl
        induction fs with
        | nil => simp
        | cons f r ih =>
          rw [List.map_cons, List.map_cons, List.sum_cons, List.length_cons, Nat.succ_mul]
          have := fldT_len (hf f (by simp))
          have := ih fun g hg => hf g (by simp [hg])
          omega
      have e1 : (", " : Str).length = 2 := rfl
      refine ⟨_, q, fs.map fldT, rfl, rfl, SqL.of (by rw [upd_same, List.map_map]; rfl), ?_, k _ (Same.new hq)⟩
      rw [List.length_map, e1]
      have : fs.length * 40 ≤ 4 * 40 := Nat.mul_le_mul_right _ hl
      omega
/-! ### Kind's methods -/
abbrev kM (j : Nat) : Stmt := inClass (top 15) j
def spLowest (C : Addr) : Sp := fun vs H Q _ => ∃ (o a : Addr) (n : Str) (fs : List Fld), vs = [.ref o] ∧ KindAt C H o n a fs ∧ fs.length ≤ 4 ∧ ∀ p H', H' p = some (.tup (fs.map fun f => .int f.2.1)) → Same H H' → Q (.ref p) H'
theorem scL : FnScope ["self"] ["self"] (defScope (kM 1)) := ⟨rfl, rfl, rfl, by decide +kernel, rfl, by decide +kernel, by decide +kernel⟩
theorem ok_lowest {C f : Addr} {fd : FuncData} (F : Fun K "lowest" "Kind.lowest" (kM 1) f fd) (T : Txt K mg) (KC : KCls K mg C) : FnOk P w K mg base CX0 1 f fd ["self"] (spLowest C) := by
  refine F.ok scL (fun vs H Q E h => ?_) (fun cdv A outer s H vs Q E hr h => ?_)
  · obtain ⟨o, a, n, fs, rfl, _⟩ := h
    rfl
  · obtain ⟨o, a, n, fs, rfl, ⟨⟨dx, ho⟩, xs, ha, pf⟩, hl, k⟩ := h
    refine ⟨_, (pss_one
  (ps_ret (pe_callTy call_tuple_of (by rfl) T.tuple bt_tuple (pa_cons (pe_comp (g := gFld K) (own := ["name", "low", "high"]) (js := []) (N' := ["name", "low", "high"]) (CompScope.of (osc := defScope (kM 1)) (N := ["self"]) rfl rfl ⟨rfl, by decide +kernel, by decide +kernel, by decide +kernel, rfl, by decide +kernel⟩) rfl (pi_tup (pe_fld (pv 0) rfl)) (fun _ _ _ _ _ => (pg_tup rfl (pgs_cons (pg_name (i := 0) nd3 rfl (Or.inl rfl) (Or.inr rfl)) (pgs_cons (pg_name (i := 1) nd3 rfl (Or.inl rfl) (Or.inr rfl)) (pgs_cons (pg_name (i := 2) nd3 rfl (Or.inl rfl) (Or.inr rfl)) pgs_nil))))) (fun _ _ _ _ _ => pifs_nil) (fun _ _ _ _ _ => (pv 1))) pa_nil)))), ?_⟩
    refine ⟨_, rfl, o, C, dx, _, _, rfl, ho, KC.cl, KC.nF, kf_fields n a, a, rfl, ⟨xs, SqT.of ha⟩, comp_flds ha pf (by omega) rfl (fun f => .int f.2.1) (fun f _ Q q => ⟨_, rfl, q⟩) ?_⟩
    refine ⟨by rw [List.length_map]; exact Nat.le_trans hl (by decide), fun q hq => ?_⟩
    exact ⟨q, _, rfl, .inl ⟨SqL.of upd_same, fun l hn => k l _ upd_same ((Same.new hq).trans (Same.new hn))⟩⟩
def spCells (C : Addr) : Sp := fun vs H Q _ => ∃ (o a : Addr) (n : Str) (fs : List Fld), vs = [.ref o] ∧ KindAt C H o n a fs ∧ Q (.int (1 + fs.length)) H
theorem scCe : FnScope ["self"] ["self"] (defScope (kM 2)) := ⟨rfl, rfl, rfl, by decide +kernel, rfl, by decide +kernel, by decide +kernel⟩
theorem ok_cells {C f : Addr} {fd : FuncData} (F : Fun K "cells" "Kind.cells" (kM 2) f fd) (T : Txt K mg) (KC : KCls K mg C) : FnOk P w K mg base CX0 1 f fd ["self"] (spCells C) := by
  refine F.ok scCe (fun vs H Q E h => ?_) (fun cdv A outer s H vs Q E hr h => ?_)
  · obtain ⟨o, a, n, fs, rfl, _⟩ := h
    rfl
  · obtain ⟨o, a, n, fs, rfl, ⟨⟨dx, ho⟩, xs, ha, pf⟩, k⟩ := h
    refine ⟨_, (pss_one (ps_ret (pe_op op_add pe_int (pe_callB call_len_seq (by rfl) T.len bt_len (pa_cons (pe_fld (pv 0) rfl) pa_nil))))), ?_⟩
    refine ⟨_, rfl, o, C, dx, _, _, rfl, ho, KC.cl, KC.nF, kf_fields n a, a, xs, rfl, .inr (SqT.of ha), _, _, rfl, rfl, ?_⟩
    rw [Paired.length pf]
    exact k
def spLen (C : Addr) : Sp := fun vs H Q _ => ∃ (o a : Addr) (n : Str) (fs : List Fld), vs = [.ref o] ∧ KindAt C H o n a fs ∧ Q (.int fs.length) H
theorem scLen : FnScope ["self"] ["self"] (defScope (kM 6)) := ⟨rfl, rfl, rfl, by decide +kernel, rfl, by decide +kernel, by decide +kernel⟩
theorem ok_len {C f : Addr} {fd : FuncData} (F : Fun K "__len__" "Kind.__len__" (kM 6) f fd) (T : Txt K mg) (KC : KCls K mg C) : FnOk P w K mg base CX0 1 f fd ["self"] (spLen C) := by
  refine F.ok scLen (fun vs H Q E h => ?_) (fun cdv A outer s H vs Q E hr h => ?_)
  · obtain ⟨o, a, n, fs, rfl, _⟩ := h
    rfl
  · obtain ⟨o, a, n, fs, rfl, ⟨⟨dx, ho⟩, xs, ha, pf⟩, k⟩ := h
    refine ⟨_, (pss_one (ps_ret (pe_callB call_len_seq (by rfl) T.len bt_len (pa_cons (pe_fld (pv 0) rfl) pa_nil)))), ?_⟩
    refine ⟨_, rfl, o, C, dx, _, _, rfl, ho, KC.cl, KC.nF, kf_fields n a, a, xs, rfl, .inr (SqT.of ha), ?_⟩
    rw [Paired.length pf]
    exact k
end
end Cm

set_option Elab.async false
set_option linter.all false
set_option maxRecDepth 100000
set_option maxHeartbeats 4000000
namespace Cm
open PySem L2
theorem pdEq_fld (f g : Fld) : pdEq (fD f) (fD g) = decide (f = g) := by
  obtain ⟨a, b, c⟩ := f
  obtain ⟨a', b', c'⟩ := g
  simp only [fD, pdEq, pdEqs, Bool.and_true, Prod.mk.injEq, Bool.decide_and]
  congr 1
theorem pdEqs_fld : ∀ (fs gs : List Fld), pdEqs (fs.map fD) (gs.map fD) = decide (fs = gs)
  | [], [] => rfl
  | [], _ :: _ => by simp [pdEqs]
  | _ :: _, [] => by simp [pdEqs]
  | f :: r, g :: t => by
    rw [List.map_cons, List.map_cons, pdEqs, pdEq_fld, pdEqs_fld r t]
    simp
theorem dep_fs (fs : List Fld) : pdDeps (fs.map fD) ≤ 10 := by
  induction fs with
  | nil => simp [pdDeps]
  | cons f r ih =>
    rw [List.map_cons]
    have : pdDep (fD f) ≤ 10 := by simp [fD, pdDep, pdDeps]
    simp only [pdDeps]
    omega
section
variable {P : Program} {w : World} {K : PySem.W.Frag} {mg : Str → Option Value} {base : Heap}
/-! ### place_of -/
def placeV (fs : List Fld) (x : Str) : V := if x ∈ fs.map (·.1) then .int ((fs.map (·.1)).idxOf x : Nat) else .non
def spPlace (C : Addr) : Sp := fun vs H Q _ => ∃ (o a : Addr) (n x : Str) (fs : List Fld), vs = [.ref o, .str x] ∧ KindAt C H o n a fs ∧ fs.length ≤ 4 ∧ ∀ H', Same H H' → Q (placeV fs x) H'
theorem scPl : FnScope ["self", "field", "at", "name", "low", "high"] ["self", "field"] (defScope (kM 3)) := ⟨rfl, rfl, rfl, by decide +kernel, rfl, by decide +kernel, by decide +kernel⟩
theorem ok_place {C f : Addr} {fd : FuncData} (F : Fun K "place_of" "Kind.place_of" (kM 3) f fd) (T : Txt K mg) (hen : mg "enumerate" = none) (KC : KCls K mg C) : FnOk P w K mg base CX0 1 f fd ["self", "field"] (spPlace C) := by
  refine F.ok scPl (fun vs H Q E h => ?_) (fun cdv A outer s H vs Q E hr h => ?_)
  · obtain ⟨o, a, n, x, fs, rfl, _⟩ := h
    rfl
  · obtain ⟨o, a, n, x, fs, rfl, ⟨⟨dx, ho⟩, xs, ha, pf⟩, hl, k⟩ := h
    have pl := Paired.length pf
    refine ⟨_, (pss_cons
  (ps_for PassesOwn.never rfl (pi_enumT rfl hen bt_enumerate (pa_cons (pe_fld (pv 0) rfl) pa_nil)) (pg_tup rfl (pgs_cons (pg_name (i := 2) scPl.nd rfl (Or.inl rfl)) (pgs_cons (pg_tup rfl (pgs_cons (pg_name (i := 3) scPl.nd rfl (Or.inl rfl)) (pgs_cons (pg_name (i := 4) scPl.nd rfl (Or.inl rfl)) (pgs_cons (pg_name (i := 5) scPl.nd rfl (Or.inl rfl)) pgs_nil)))) pgs_nil))) (pss_one
  (ps_if (pt_cmpR op_eq (pv 3) (pv 1) (nomark _)) (pss_one
  (ps_ret (pv 2))) pss_nil)))
  (pss_one
  (ps_ret pe_non))), ?_⟩
    refine ⟨_, rfl, o, C, dx, _, _, rfl, ho, KC.cl, KC.nF, kf_fields n a, a, rfl, ⟨xs, SqT.of ha⟩, for_enumT (K := K) (a := a) (xs := xs) (fun i σ H1 => (∃ u1 u2 u3 u4, σ = [some (.ref o), some (.str x), u1, u2, u3, u4]) ∧ Same H H1 ∧ x ∉ (fs.map (·.1)).take i) ⟨⟨none, none, none, none, rfl⟩, Same.refl _, by simp⟩ (fun i σ H1 _ z => SqT.of (z.2.1 _ _ ha)) ?_ ?_⟩
    · rintro i y σ H1 p hy ⟨⟨u1, u2, u3, u4, rfl⟩, s1, hn⟩ hp
      obtain ⟨⟨m, lo, hi⟩, hfi, b, rfl, hb⟩ := paired_at pf hy
      have s2 : Same H (upd H1 p (.tup [.int i, .ref b])) := s1.trans (Same.new hp)
      refine ⟨p, _, rfl, SqT.of upd_same, rfl, _, _, rfl, _, _, rfl, b, _, rfl, SqT.of (s2 _ _ hb), rfl, _, _, rfl, _, _, rfl, _, _, rfl, rfl, rfl, ?_⟩
      refine ⟨_, rfl, _, rfl, rfl, _, rfl, ?_⟩
      have hmi : (fs.map (·.1))[i]? = some m := by rw [List.getElem?_map, hfi]; rfl
      by_cases e : m = x
      · subst e
        refine ifT (by simp) ⟨_, rfl, ?_⟩
        have hmem : m ∈ fs.map (·.1) := List.mem_of_getElem? hmi
        have hix : (fs.map (·.1)).idxOf m = i := by
          have hil := (List.getElem?_eq_some_iff.mp hmi).1
          have hgt : ¬ (fs.map (·.1)).idxOf m < i := fun z => hn (by
            rw [List.mem_iff_getElem?]
            refine ⟨(fs.map (·.1)).idxOf m, ?_⟩
            rw [List.getElem?_take, if_pos z, List.getElem?_eq_getElem (by omega), List.getElem_idxOf])
          have hlt : ¬ i < (fs.map (·.1)).idxOf m := fun z => by
            have := List.not_of_lt_findIdx (p := (· == m)) (xs := fs.map (·.1)) z
            rw [(List.getElem?_eq_some_iff.mp hmi).2] at this
            simp at this
          omega
        have := k _ s2
        unfold placeV at this
        rw [if_pos hmem, hix] at this
        exact this
      · refine ifF (by simp [e]) ⟨⟨_, _, _, _, rfl⟩, s2, ?_⟩
        rw [List.take_add_one, hmi]
        simp only [Option.toList_some, List.mem_append, List.mem_singleton, not_or]
        exact ⟨hn, fun z => e z.symm⟩
    · rintro σ H1 ⟨⟨u1, u2, u3, u4, rfl⟩, s1, hn⟩
      have := k _ s1
      unfold placeV at this
      rw [List.take_of_length_le (by rw [List.length_map]; omega)] at hn
      rw [if_neg hn] at this
      exact this
/-! ### __eq__ -/
def spEq (K : PySem.W.Frag) (C : Addr) : Sp := fun vs H Q _ => ∃ (o a : Addr) (n : Str) (fs : List Fld) (y : V), vs = [.ref o, y] ∧ KindAt C H o n a fs ∧
  ((∃ d, Rep K H y d ∧ PySem.W.kitOne K (.type (tyD d)) (.ref C) = some false ∧ Q (.bl false) H) ∨ ∃ (o2 a2 : Addr) (n2 : Str) (fs2 : List Fld), y = .ref o2 ∧ KindAt C H o2 n2 a2 fs2 ∧ Q (.bl (decide (n = n2 ∧ fs = fs2))) H)
theorem scEq : FnScope ["self", "other"] ["self", "other"] (defScope (kM 5)) := ⟨rfl, rfl, rfl, by decide +kernel, rfl, by decide +kernel, by decide +kernel⟩
theorem ok_eq {C f : Addr} {fd : FuncData} (F : Fun K "__eq__" "Kind.__eq__" (kM 5) f fd) (T : Txt K mg) (KC : KCls K mg C) (OI : OwnIs K C) (h1 : PySem.W.kitOne K (.ref C) (.ref C) = some true) : FnOk P w K mg base CX0 1 f fd ["self", "other"] (spEq K C) := by
  refine F.ok scEq (fun vs H Q E h => ?_) (fun cdv A outer s H vs Q E hr h => ?_)
  · obtain ⟨o, a, n, fs, y, rfl, _⟩ := h
    rfl
  · obtain ⟨o, a, n, fs, y, rfl, ⟨⟨dx, ho⟩, xs, ha, pf⟩, hy⟩ := h
    refine ⟨_, (pss_one
  (ps_ret (pe_and (pe_callB call_isC (by rfl) T.isinstance bt_isinstance (pa_cons (pv 1) (pa_cons (pe_glob (v := .ref C) rfl KC.mg rfl) pa_nil))) (pe_and (pe_cmpR op_eq (pe_fld (pv 0) rfl) (pe_fld (pv 1) rfl) (nomark _)) (pe_one (pe_cmpR (op_eqD hr.units) (pe_fld (pv 0) rfl) (pe_fld (pv 1) rfl) (nomark _))))))), ?_⟩
    rcases hy with ⟨d, hd, hk, q⟩ | ⟨o2, a2, n2, fs2, rfl, ⟨⟨dx2, ho2⟩, xs2, ha2, pf2⟩, q⟩
    · exact ⟨_, rfl, y, C, false, rfl, .inl ⟨d, hd, hk⟩, _, rfl, ifF rfl q⟩
    · refine ⟨_, rfl, _, C, true, rfl, .inr ⟨o2, C, dx2, _, rfl, ho2, KC.cl, OI, h1⟩, _, rfl, ifT rfl ?_⟩
      refine ⟨_, rfl, o, C, dx, _, _, rfl, ho, KC.cl, KC.nN, kf_name n a, _, rfl, o2, C, dx2, _, _, rfl, ho2, KC.cl, KC.nN, kf_name n2 a2, rfl, _, rfl, ?_⟩
      by_cases e : n = n2
      · subst e
        refine ifT (by simp) ?_
        refine ⟨_, rfl, o, C, dx, _, _, rfl, ho, KC.cl, KC.nF, kf_fields n a, _, rfl, o2, C, dx2, _, _, rfl, ho2, KC.cl, KC.nF, kf_fields n a2, fsD fs, fsD fs2, .tup (SqT.of ha) (flds_reps pf), .tup (SqT.of ha2) (flds_reps pf2), ?_, ?_⟩
        · have := dep_fs fs
          simp only [fsD, pdDep]; omega
        · have e2 : pdEq (fsD fs) (fsD fs2) = decide (n = n ∧ fs = fs2) := by
            show pdEqs (fs.map fD) (fs2.map fD) = _
            rw [pdEqs_fld]; simp
          rw [e2]
          exact q
      · refine ifF (by simp [e]) ?_
        have e2 : decide (n = n2 ∧ fs = fs2) = false := by simp [e]
        rw [e2] at q
        exact q
/-! ### __str__, __repr__ -/
def spStr (C : Addr) : Sp := fun vs H Q _ => ∃ (o a : Addr) (n : Str) (fs : List Fld), vs = [.ref o] ∧ KindAt C H o n a fs ∧ Nm n ∧ fs.length ≤ 4 ∧ (∀ f ∈ fs, FldOk f) ∧ ∀ H', Same H H' → Q (.str (strT n fs)) H'
theorem scStr : FnScope ["self"] ["self"] (defScope (kM 7)) := ⟨rfl, rfl, rfl, by decide +kernel, rfl, by decide +kernel, by decide +kernel⟩
theorem ok_str {C f fB : Addr} {fd fdB : FuncData} (F : Fun K "__str__" "Kind.__str__" (kM 7) f fd) (T : Txt K mg) (KC : KCls K mg C) (DB : Def K mg "bounds_text" (top 14) ["fields"] fB fdB) : FnOk P w K mg base CX0 2 f fd ["self"] (spStr C) := by
  have GB : FnOk P w K mg base CX0 1 fB fdB ["fields"] spBounds := ok_bounds DB.F T
  refine F.ok scStr (fun vs H Q E h => ?_) (fun cdv A outer s H vs Q E hr h => ?_)
  · obtain ⟨o, a, n, fs, rfl, _⟩ := h
    rfl
  · obtain ⟨o, a, n, fs, rfl, ⟨⟨dx, ho⟩, xs, ha, pf⟩, hn, hl, hf, k⟩ := h
    refine ⟨_, (pss_one
  (ps_ret (pe_fstr (pf_val (pe_fld (pv 0) rfl) (pf_txt (pf_val (pe_call GB hr rfl DB.mg DB.F.kp DB.b .nil pass0 (pa_cons (pe_fld (pv 0) rfl) pa_nil)) (pf_txt pf_nil))))))), ?_⟩
    have l1 := hn.hi
    have l2 := boundsT_len hl hf
    have e1 : (("(" : Str)).length = 1 := rfl
    have e2 : ((")" : Str)).length = 1 := rfl
    have big : 2000 ≤ sizeLine := by decide
    refine ⟨_, rfl, o, C, dx, _, _, rfl, ho, KC.cl, KC.nN, kf_name n a, n, .inl ⟨rfl, by omega⟩, ?_, ?_, _, rfl, o, C, dx, _, _, rfl, ho, KC.cl, KC.nF, kf_fields n a, a, xs, fs, rfl, ha, pf, hl, hf, fun H1 s1 => ⟨boundsT fs, .inl ⟨rfl, by omega⟩, ?_, ?_, ?_, ?_⟩⟩
    all_goals (try rw [Str.empty_append])
    all_goals (try (first | omega | (simp only [Str.length_append, e1, e2]; omega)))
    exact k _ s1
def spRepr (C : Addr) : Sp := fun vs H Q _ => ∃ (o a : Addr) (n : Str) (fs : List Fld), vs = [.ref o] ∧ KindAt C H o n a fs ∧ Nm n ∧ fs.length ≤ 4 ∧ (∀ f ∈ fs, FldOk f) ∧ Q (.str (reprT n fs)) H
theorem scRe : FnScope ["self"] ["self"] (defScope (kM 8)) := ⟨rfl, rfl, rfl, by decide +kernel, rfl, by decide +kernel, by decide +kernel⟩
theorem ok_repr {C f : Addr} {fd : FuncData} (F : Fun K "__repr__" "Kind.__repr__" (kM 8) f fd) (T : Txt K mg) (KC : KCls K mg C) : FnOk P w K mg base CX0 1 f fd ["self"] (spRepr C) := by
  refine F.ok scRe (fun vs H Q E h => ?_) (fun cdv A outer s H vs Q E hr h => ?_)
  · obtain ⟨o, a, n, fs, rfl, _⟩ := h
    rfl
  · obtain ⟨o, a, n, fs, rfl, ⟨⟨dx, ho⟩, xs, ha, pf⟩, hn, hl, hf, k⟩ := h
    refine ⟨_, (pss_one
  (ps_ret (pe_fstr (pf_txt (pf_repr hr.units hr.gd (pe_fld (pv 0) rfl) (pf_txt (pf_repr hr.units hr.gd (pe_fld (pv 0) rfl) (pf_txt pf_nil)))))))), ?_⟩
    have l1 := rt_len hn
    have l2 := fsD_len hl hf
    have e0 : (("Kind(" : Str)).length = 5 := rfl
    have e1 : ((", " : Str)).length = 2 := rfl
    have e2 : ((")" : Str)).length = 1 := rfl
    have big : 3000 ≤ sizeLine := by decide
    have e3 : (PyData.str n).shown = reprText n := rfl
    refine ⟨?_, _, rfl, o, C, dx, _, _, rfl, ho, KC.cl, KC.nN, kf_name n a, .str n, rfl, .str n, showN hn, ?_, ?_, _, rfl, o, C, dx, _, _, rfl, ho, KC.cl, KC.nF, kf_fields n a, fsD fs, rfl, .tup (SqT.of ha) (flds_reps pf), showFs hl hf, ?_, ?_, ?_, ?_⟩
    all_goals (try rw [e3])
    all_goals (try rw [Str.empty_append])
    all_goals (try (first | omega | (simp only [Str.length_append, e0, e1, e2]; omega)))
    exact k
end
end Cm

set_option Elab.async false
set_option linter.all false
set_option maxRecDepth 100000
set_option maxHeartbeats 4000000
namespace Cm
open PySem L2
theorem pr_app {α β : Type} {F : α → β → Prop} : ∀ {xs us : List α} {ys vs : List β}, Paired F xs ys → Paired F us vs → Paired F (xs ++ us) (ys ++ vs)
  | _, _, _, _, .nil, s => s
  | _, _, _, _, .cons r t, s => .cons r (pr_app t s)
theorem pr_take {α β : Type} {F : α → β → Prop} : ∀ {xs : List α} {ys : List β} (n : Nat), Paired F xs ys → Paired F (xs.take n) (ys.take n)
  | _, _, 0, _ => .nil
  | _, _, _ + 1, .nil => .nil
  | _, _, n + 1, .cons r t => .cons r (pr_take n t)
theorem pr_drop {α β : Type} {F : α → β → Prop} : ∀ {xs : List α} {ys : List β} (n : Nat), Paired F xs ys → Paired F (xs.drop n) (ys.drop n)
  | _, _, 0, r => r
  | _, _, _ + 1, .nil => .nil
  | _, _, n + 1, .cons _ t => pr_drop n t
theorem pr_rev {α β : Type} {F : α → β → Prop} : ∀ {xs : List α} {ys : List β}, Paired F xs ys → Paired F xs.reverse ys.reverse
  | _, _, .nil => .nil
  | _, _, .cons r t => by rw [List.reverse_cons, List.reverse_cons]; exact pr_app (pr_rev t) (.cons r .nil)
/-- a method of the class -/
structure MD (K : PySem.W.Frag) (C : Addr) (m qual : Str) (st : Stmt) (ps : List Str) (f : Addr) (fd : FuncData) : Prop where
  M : Meth K C m f
  F : Fun K m qual st f fd
  b : Binds K fd ps []
theorem placeV_at {fs : List Fld} (nd : (fs.map (·.1)).Nodup) {i : Nat} {m : Str} (h : (fs.map (·.1))[i]? = some m) : placeV fs m = .int (i : Nat) := by
  unfold placeV
  have hm : m ∈ fs.map (·.1) := List.mem_of_getElem? h
  rw [if_pos hm]
  have h2 : (fs.map (·.1))[(fs.map (·.1)).idxOf m]? = some m := by rw [List.getElem?_eq_getElem (List.idxOf_lt_length_iff.mpr hm), List.getElem_idxOf]
  rw [nodup_ix nd h2 h]
theorem ndT : List.Nodup (["_law_title", "_law_low", "_law_high"] : List Str) := by decide +kernel
section
variable {P : Program} {w : World} {K : PySem.W.Frag} {mg : Str → Option Value} {base : Heap}
/-! ### _law_told_of -/
def spTold (C : Addr) : Sp := fun vs H Q _ => ∃ (o a b : Addr) (n : Str) (fs : List Fld) (xs : List V), vs = [.ref o, .ref b] ∧ KindAt C H o n a fs ∧ H b = some (.tup xs) ∧ Paired (FldAt H) xs fs ∧ fs.length ≤ 4 ∧ (∀ f ∈ fs, FldOk f) ∧ (fs.map (·.1)).Nodup ∧ ∀ H', Same H H' → Q (.bl true) H'
theorem scTo : FnScope ["_law_kind", "_law_fields_here", "_law_names", "_law_at"] ["_law_kind", "_law_fields_here"] (defScope (top 25)) := ⟨rfl, rfl, rfl, by decide +kernel, rfl, by decide +kernel, by decide +kernel⟩
theorem reps_lo {H : Hp} (fs : List Fld) : Reps K H (fs.map fun f => V.int f.2.1) (fs.map fun f => PyData.int f.2.1) := by
  induction fs with
  | nil => exact .nil
  | cons f r ih => exact .cons (.int _) ih
theorem lo_dep (fs : List Fld) : pdDeps (fs.map fun f => PyData.int f.2.1) = 0 ∧ pdMaxs (fs.map fun f => PyData.int f.2.1) = 0 := by
  induction fs with
  | nil => exact ⟨rfl, rfl⟩
  | cons f r ih => rw [List.map_cons, pdDeps, pdMaxs, ih.1, ih.2]; exact ⟨rfl, rfl⟩
theorem ok_told {C f fS fL fC fP : Addr} {fd fdS fdL fdC fdP : FuncData} (F : Fun K "_law_told_of" "_law_told_of" (top 25) f fd) (T : Txt K mg) (hen : mg "enumerate" = none) (KC : KCls K mg C) (DS : Def K mg "_law_same" (top 20) ["_law_found", "_law_due"] fS fdS)
    (ML : MD K C "lowest" "Kind.lowest" (kM 1) ["self"] fL fdL) (MC : MD K C "cells" "Kind.cells" (kM 2) ["self"] fC fdC) (MP : MD K C "place_of" "Kind.place_of" (kM 3) ["self", "field"] fP fdP) : FnOk P w K mg base CX0 6 f fd ["_law_kind", "_law_fields_here"] (spTold C) := by
  have GS : FnOk P w K mg base CX0 5 fS fdS ["_law_found", "_law_due"] (spS K 5) := ok_same DS T 5
  have GL : FnOk P w K mg base CX0 1 fL fdL ["self"] (spLowest C) := ok_lowest ML.F T KC
  have GC : FnOk P w K mg base CX0 1 fC fdC ["self"] (spCells C) := ok_cells MC.F T KC
  have GP : FnOk P w K mg base CX0 1 fP fdP ["self", "field"] (spPlace C) := ok_place MP.F T hen KC
  refine F.ok scTo (fun vs H Q E h => ?_) (fun cdv A outer s H vs Q E hr h => ?_)
  · obtain ⟨o, a, b, n, fs, xs, rfl, _⟩ := h
    rfl
  · obtain ⟨o, a, b, n, fs, xs, rfl, ka, hb, pf, hl, hf, nd, k⟩ := h
    have hr1 : Room 1 _ := hr.mono (by decide)
    have ka' := ka
    obtain ⟨⟨dx, ho⟩, xs', ha, pf'⟩ := ka'
    refine ⟨_, (pss_cons
  (ps_if (pt_not (pt_val (pe_call GS hr rfl DS.mg DS.F.kp DS.b .nil pass0 (pa_cons (pe_meth0 (pv 0) KC.cl ML.M GL hr1 ML.b .nil pass0) (pa_cons (pe_callTy call_tuple_of (by rfl) T.tuple bt_tuple (pa_cons (pe_comp (g := gFld K) (own := ["_law_title", "_law_low", "_law_high"]) (js := []) (N' := ["_law_title", "_law_low", "_law_high"]) (CompScope.of (osc := defScope (top 25)) (N := ["_law_kind", "_law_fields_here", "_law_names", "_law_at"]) rfl rfl ⟨rfl, by decide +kernel, by decide +kernel, by decide +kernel, rfl, by decide +kernel⟩) rfl (pi_tup (pv 1)) (fun _ _ _ _ _ => (pg_tup rfl (pgs_cons (pg_name (i := 0) ndT rfl (Or.inl rfl) (Or.inr rfl)) (pgs_cons (pg_name (i := 1) ndT rfl (Or.inl rfl) (Or.inr rfl)) (pgs_cons (pg_name (i := 2) ndT rfl (Or.inl rfl) (Or.inr rfl)) pgs_nil))))) (fun _ _ _ _ _ => pifs_nil) (fun _ _ _ _ _ => (pv 1))) pa_nil)) pa_nil))))) (pss_one ps_never) pss_nil)
  (pss_cons
  (ps_if (pt_not (pt_val (pe_call GS hr rfl DS.mg DS.F.kp DS.b .nil pass0 (pa_cons (pe_meth0 (pv 0) KC.cl MC.M GC hr1 MC.b .nil pass0) (pa_cons (pe_op op_add pe_int (pe_callB call_len_seq (by rfl) T.len bt_len (pa_cons (pv 1) pa_nil))) pa_nil))))) (pss_one ps_never) pss_nil)
  (pss_cons
  (ps_setComp (g := gFld K) (i := 2) (own := ["_law_title", "_law_low", "_law_high"]) (js := []) (N' := ["_law_title", "_law_low", "_law_high"]) (CompScope.of (osc := defScope (top 25)) (N := ["_law_kind", "_law_fields_here", "_law_names", "_law_at"]) rfl rfl ⟨rfl, by decide +kernel, by decide +kernel, by decide +kernel, rfl, by decide +kernel⟩) rfl scTo.nd rfl rfl (pi_tup (pv 1)) (fun _ _ _ _ _ => (pg_tup rfl (pgs_cons (pg_name (i := 0) ndT rfl (Or.inl rfl) (Or.inr rfl)) (pgs_cons (pg_name (i := 1) ndT rfl (Or.inl rfl) (Or.inr rfl)) (pgs_cons (pg_name (i := 2) ndT rfl (Or.inl rfl) (Or.inr rfl)) pgs_nil))))) (fun _ _ _ _ _ => pifs_nil) (fun _ _ _ _ _ => (pv 0)))
  (pss_cons
  (ps_for PassesOwn.never rfl (pi_range1 rfl T.range (pa_cons (pe_callB call_len_seq (by rfl) T.len bt_len (pa_cons (pv 2) pa_nil)) pa_nil)) (pg_name (i := 3) scTo.nd rfl (Or.inl rfl)) (pss_one
  (ps_if (pt_not (pt_val (pe_call GS hr rfl DS.mg DS.F.kp DS.b .nil pass0 (pa_cons (pe_meth (pv 0) KC.cl MP.M GP hr1 MP.b .nil pass0 (pa_cons (pe_ix ix_list (pv 2) (pv 3) (fun _ _ => rfl)) pa_nil)) (pa_cons (pv 3) pa_nil))))) (pss_one ps_never) pss_nil)))
  (pss_one
  (ps_ret (pe_call GS hr rfl DS.mg DS.F.kp DS.b .nil pass0 (pa_cons (pe_meth (pv 0) KC.cl MP.M GP hr1 MP.b .nil pass0 (pa_cons pe_str pa_nil)) (pa_cons pe_non pa_nil))))))))), ?_⟩
    have hl60 : fs.length ≤ sizeLine := Nat.le_trans hl (by decide)
    -- lowest
    refine ⟨_, rfl, o, dx, _, rfl, ho, kf_no n a (by decide) (by decide), o, a, n, fs, rfl, ka, hl, fun p1 H1 hp1 s1 => ?_⟩
    refine ⟨_, rfl, b, rfl, ⟨xs, SqT.of (s1 _ _ hb)⟩, comp_flds (s1 _ _ hb) (flds_tk pf fun _ _ z => s1 _ _ z) (by omega) rfl (fun f => .int f.2.1) (fun f _ Q q => ⟨_, rfl, q⟩) ⟨by rw [List.length_map]; exact hl60, fun q hq => ⟨q, _, rfl, .inl ⟨SqL.of upd_same, fun l hn => ?_⟩⟩⟩⟩
    have s3 : Same H1 (upd (upd H1 q (.lst (fs.map fun f => V.int f.2.1))) l (.tup (fs.map fun f => V.int f.2.1))) := (Same.new hq).trans (Same.new hn)
    have ld := lo_dep fs
    refine ⟨_, _, .tuple (fs.map fun f => PyData.int f.2.1), .tuple (fs.map fun f => PyData.int f.2.1), rfl, .tup (SqT.of (s3 _ _ hp1)) (reps_lo fs), .tup (SqT.of upd_same) (reps_lo fs), by simp only [pdDep, ld.1]; decide, by simp only [pdMax, ld.2, List.length_map]; omega, by simp only [pdDep, ld.1]; decide, fun bb H4 hbb s4 => ⟨bb, rfl, ?_⟩⟩
    rw [hbb.mpr rfl]
    refine ifF rfl ?_
    have S4 : Same H H4 := s1.trans (s3.trans s4)
    clear s3 hbb
    -- cells
    refine ⟨_, rfl, o, dx, _, rfl, S4 _ _ ho, kf_no n a (by decide) (by decide), o, a, n, fs, rfl, ka.same S4, ?_⟩
    refine ⟨_, rfl, b, xs, rfl, .inr (SqT.of (S4 _ _ hb)), _, _, rfl, rfl, ?_⟩
    have pl := Paired.length pf
    refine ⟨_, _, .int (1 + fs.length), .int (1 + xs.length), rfl, .int _, .int _, by simp [pdDep], by simp [pdMax], by simp [pdDep], fun bb H5 hbb s5 => ⟨bb, rfl, ?_⟩⟩
    rw [hbb.mpr (by rw [pl])]
    refine ifF rfl ?_
    have S5 : Same H H5 := S4.trans s5
    clear hbb s5 s4 S4
    -- names
    refine ⟨_, rfl, b, rfl, ⟨xs, SqT.of (S5 _ _ hb)⟩, comp_flds (S5 _ _ hb) (flds_tk pf fun _ _ z => S5 _ _ z) (by omega) rfl (fun f => .str f.1) (fun f _ Q q => ⟨_, rfl, q⟩) ⟨by rw [List.length_map]; exact hl60, fun q2 hq2 => ?_⟩⟩
    have S6 : Same H (upd H5 q2 (.lst (fs.map fun f => V.str f.1))) := S5.trans (Same.new hq2)
    refine ⟨_, rfl, q2, _, rfl, .inl (SqL.of upd_same), _, rfl, by rw [List.length_map]; omega, by rw [List.length_map]; omega, ?_⟩
    rw [List.length_map]
    refine for_range (n := fs.length) (fun i σ H' => (∃ u, σ = [some (.ref o), some (.ref b), some (.ref q2), u]) ∧ Same H H' ∧ H' q2 = some (.lst (fs.map fun f => V.str f.1))) ⟨⟨none, rfl⟩, S6, upd_same⟩ ?_ ?_
    · rintro i σ H' hi ⟨⟨u, rfl⟩, sH, hq⟩
      obtain ⟨m, hm⟩ : ∃ m, (fs.map (·.1))[i]? = some m := ⟨_, List.getElem?_eq_getElem (by rw [List.length_map]; exact hi)⟩
      have hat : (fs.map fun f => V.str f.1)[i]? = some (.str m) := by
        rw [List.getElem?_map] at hm ⊢
        cases e : fs[i]? with
        | none => rw [e] at hm; cases hm
        | some g => rw [e] at hm; cases hm; rfl
      refine ⟨_, rfl, o, dx, _, rfl, sH _ _ ho, kf_no n a (by decide) (by decide), _, rfl, _, rfl, q2, _, _, _, rfl, rfl, SqL.of hq, (by rw [Int.zero_add]; exact atI_nat hat), o, a, n, m, fs, rfl, ka.same sH, hl, fun H7 s7 => ?_⟩
      rw [placeV_at nd hm]
      refine ⟨_, rfl, _, _, .int i, .int (0 + i), rfl, .int _, .int _, by simp [pdDep], by simp [pdMax], by simp [pdDep], fun bb H8 hbb s8 => ⟨bb, rfl, ?_⟩⟩
      rw [hbb.mpr (by rw [Int.zero_add])]
      exact ifF rfl ⟨⟨_, rfl⟩, sH.trans (s7.trans s8), s8 _ _ (s7 _ _ hq)⟩
    · rintro σ H' ⟨⟨u, rfl⟩, sH, hq⟩
      refine ⟨_, rfl, o, dx, _, rfl, sH _ _ ho, kf_no n a (by decide) (by decide), o, a, n, _, fs, rfl, ka.same sH, hl, fun H7 s7 => ?_⟩
      have hno : placeV fs (Str.ofString "") = .non := by
        unfold placeV
        rw [if_neg]
        intro z
        obtain ⟨g, hg, e⟩ := List.mem_map.mp z
        have h1 := (hf g hg).nm.lo
        rw [e] at h1
        exact absurd h1 (by decide)
      rw [hno]
      refine ⟨_, _, .none, .none, rfl, .non, .non, by simp [pdDep], by simp [pdMax], by simp [pdDep], fun bb H8 hbb s8 => ?_⟩
      rw [hbb.mpr rfl]
      exact k _ (sH.trans (s7.trans s8))
/-! ### _law_kind_shown -/
def spShown : Sp := fun vs H Q _ => ∃ (n : Str) (a : Addr) (fs : List Fld) (xs : List V), vs = [.str n, .ref a] ∧ Nm n ∧ H a = some (.tup xs) ∧ Paired (FldAt H) xs fs ∧ fs.length ≤ 4 ∧ (∀ f ∈ fs, FldOk f) ∧ ∀ q H', H' q = some (.lst [.str (reprT n fs), .str (strT n fs)]) → Same H H' → Q (.ref q) H'
theorem scSh : FnScope ["_law_some", "_law_fields_here", "_law_inner"] ["_law_some", "_law_fields_here"] (defScope (top 27)) := ⟨rfl, rfl, rfl, by decide +kernel, rfl, by decide +kernel, by decide +kernel⟩
theorem ok_shown {f : Addr} {fd : FuncData} (F : Fun K "_law_kind_shown" "_law_kind_shown" (top 27) f fd) (T : Txt K mg) : FnOk P w K mg base CX0 1 f fd ["_law_some", "_law_fields_here"] spShown := by
  refine F.ok scSh (fun vs H Q E h => ?_) (fun cdv A outer s H vs Q E hr h => ?_)
  · obtain ⟨n, a, fs, xs, rfl, _⟩ := h
    rfl
  · obtain ⟨n, a, fs, xs, rfl, hn, ha, pf, hl, hf, k⟩ := h
    refine ⟨_, (pss_cons
  (ps_set (i := 2) scSh.nd rfl (Or.inl rfl) (pe_bm PySem.F.plainAttrs_str PySem.F.slot_str_join PySem.F.type_str_join mt_join pe_str (pa_cons (pe_comp (g := gFld K) (own := ["_law_title", "_law_low", "_law_high"]) (js := []) (N' := ["_law_title", "_law_low", "_law_high"]) (CompScope.of (osc := defScope (top 27)) (N := ["_law_some", "_law_fields_here", "_law_inner"]) rfl rfl ⟨rfl, by decide +kernel, by decide +kernel, by decide +kernel, rfl, by decide +kernel⟩) rfl (pi_tup (pv 1)) (fun _ _ _ _ _ => (pg_tup rfl (pgs_cons (pg_name (i := 0) ndT rfl (Or.inl rfl) (Or.inr rfl)) (pgs_cons (pg_name (i := 1) ndT rfl (Or.inl rfl) (Or.inr rfl)) (pgs_cons (pg_name (i := 2) ndT rfl (Or.inl rfl) (Or.inr rfl)) pgs_nil))))) (fun _ _ _ _ _ => pifs_nil) (fun _ _ _ _ _ => (pe_op op_add_str (pe_op op_add_str (pe_op op_add_str (pe_op op_add_str (pv 0) pe_str) (pe_callTy call_str_int (by rfl) T.str bt_str (pa_cons (pv 1) pa_nil))) pe_str) (pe_callTy call_str_int (by rfl) T.str bt_str (pa_cons (pv 2) pa_nil))))) pa_nil)))
  (pss_one
  (ps_ret (pe_lst (pa_cons (pe_op op_add_str (pe_op op_add_str (pe_op op_add_str (pe_op op_add_str pe_str (pe_callB (call_reprD hr.units hr.gd) (by rfl) T.repr bt_repr (pa_cons (pv 0) pa_nil))) pe_str) (pe_callB (call_reprD hr.units hr.gd) (by rfl) T.repr bt_repr (pa_cons (pv 1) pa_nil))) pe_str) (pa_cons (pe_op op_add_str (pe_op op_add_str (pe_op op_add_str (pv 0) pe_str) (pv 2)) pe_str) pa_nil)))))), ?_⟩
    have big : 4000 ≤ sizeLine := by decide
    refine ⟨rfl, _, rfl, a, rfl, ⟨xs, SqT.of ha⟩, comp_flds ha pf (by omega) rfl (fun f => .str (fldT f)) (fun f hfm Q q => ?_) ⟨by rw [List.length_map]; omega, fun q hq => ?_⟩⟩
    · have fo := hf f hfm
      have l1 := num_len fo.lo (Int.le_trans fo.le fo.hi)
      have l2 := num_len (Int.le_trans fo.lo fo.le) fo.hi
      have l3 := fo.nm.hi
      have e1 : ((" " : Str)).length = 1 := rfl
      have e2 : ((".." : Str)).length = 2 := rfl
      refine ⟨_, rfl, _, _, rfl, rfl, ?_, _, rfl, _, rfl, l1.2, _, _, rfl, rfl, ?_, _, _, rfl, rfl, ?_, _, rfl, _, rfl, l2.2, _, _, rfl, rfl, ?_, q⟩
      all_goals (simp only [Str.length_append, e1, e2]; omega)
    · have hsum : ((fs.map fldT).map (·.length)).sum ≤ fs.length * 40 := by
        clear pf ha k hl hq
        induction fs with
        | nil => simp
        | cons f r ih =>
          rw [List.map_cons, List.map_cons, List.sum_cons, List.length_cons, Nat.succ_mul]
          have := fldT_len (hf f (by simp))
          have := ih fun g hg => hf g (by simp [hg])
          omega
      have e1 : (", " : Str).length = 2 := rfl
      have l1 := rt_len hn
      have l2 := fsD_len hl hf
      have l3 := boundsT_len hl hf
      have l4 := hn.hi
      have e0 : (("Kind(" : Str)).length = 5 := rfl
      have e2 : ((")" : Str)).length = 1 := rfl
      have e3 : (("(" : Str)).length = 1 := rfl
      have e4 : (PyData.str n).shown = reprText n := rfl
      have s1 : Same H (upd H q (.lst (fs.map fun f => V.str (fldT f)))) := Same.new hq
      refine ⟨_, q, fs.map fldT, rfl, rfl, SqL.of (by rw [upd_same, List.map_map]; rfl), ?_, ?_⟩
      · rw [List.length_map, e1]
        have : fs.length * 40 ≤ 4 * 40 := Nat.mul_le_mul_right _ hl
        omega
      refine ⟨_, rfl, _, .str n, rfl, rfl, .str n, showN hn, _, _, rfl, rfl, ?_, _, _, rfl, rfl, ?_, _, rfl, _, fsD fs, rfl, rfl, .tup (SqT.of (s1 _ _ ha)) (flds_reps (flds_tk pf fun _ _ z => s1 _ _ z)), showFs hl hf, _, _, rfl, rfl, ?_, _, _, rfl, rfl, ?_, _, rfl, _, _, rfl, rfl, ?_, _, rfl, _, _, rfl, rfl, ?_, _, _, rfl, rfl, ?_, (show 2 ≤ sizeLine by decide), fun q2 hq2 => k q2 _ upd_same (s1.trans (Same.new hq2))⟩
      all_goals (try rw [e4])
      all_goals (simp only [Str.length_append, e0, e1, e2, e3]; first | omega | (have e9 : (Txt.join (", " : Str) (fs.map fldT)).length ≤ 1000 := l3; omega))
end
end Cm

set_option Elab.async false
set_option linter.all false
set_option maxRecDepth 100000
set_option maxHeartbeats 4000000
namespace Cm
open PySem L2
/-- a tuple of fields that are in order -/
structure FsAt (H : Hp) (a : Addr) (fs : List Fld) : Prop where
  tp : ∃ xs, H a = some (.tup xs) ∧ Paired (FldAt H) xs fs
  ln : fs.length ≤ 4
  ok : ∀ f ∈ fs, FldOk f
  nd : (fs.map (·.1)).Nodup
theorem FsAt.tk {H H' : Hp} {a : Addr} {fs : List Fld} (h : FsAt H a fs) (k : TK H H') : FsAt H' a fs := by
  obtain ⟨xs, h1, h2⟩ := h.tp
  exact ⟨⟨xs, k _ _ h1, flds_tk h2 k⟩, h.ln, h.ok, h.nd⟩
theorem nd_rev {fs : List Fld} (h : (fs.map (·.1)).Nodup) : (fs.reverse.map (·.1)).Nodup := by
  rw [List.map_reverse]
  show List.Pairwise _ _
  rw [List.pairwise_reverse]
  exact h.imp fun z => Ne.symm z
theorem cut_drop1 (xs : List V) : cutV xs (some 1) none = xs.drop 1 := by
  show (xs.drop (HT.sIx xs.length 0 (some ((1 : Nat) : Int)))).take (HT.sIx xs.length xs.length none - HT.sIx xs.length 0 (some ((1 : Nat) : Int))) = _
  rw [HT.sIx_nat, HT.sIx_none]
  cases xs with
  | nil => rfl
  | cons x r =>
    have e : min 1 (x :: r).length = 1 := by rw [List.length_cons]; omega
    rw [e, List.take_of_length_le (by rw [List.length_drop]; exact Nat.le_refl _)]
theorem cut_but1 (xs : List V) : cutV xs none (some (-1)) = xs.take (xs.length - 1) := by
  show (xs.drop (HT.sIx xs.length 0 none)).take (HT.sIx xs.length xs.length (some (-1)) - HT.sIx xs.length 0 none) = _
  have e : HT.sIx xs.length xs.length (some (-1)) = xs.length - 1 := by
    show (if (-1 : Int) < 0 then ((-1 : Int) + (xs.length : Int)).toNat else min (-1 : Int).toNat xs.length) = _
    rw [if_pos (by decide)]
    omega
  rw [HT.sIx_none, e, List.drop_zero, Nat.sub_zero]
theorem last_eq {α : Type} {xs : List α} {y : α} (h : xs[xs.length - 1]? = some y) : xs = xs.take (xs.length - 1) ++ [y] := by
  have hlt := (List.getElem?_eq_some_iff.mp h).1
  have e := List.take_add_one (l := xs) (i := xs.length - 1)
  rw [h, show xs.length - 1 + 1 = xs.length by omega, List.take_length] at e
  exact e
theorem pe_neg1 {X : Cx} {j : Nat} {p1 p2 : Pos} : PE X (.UnaryOp .USub (.Constant (.int 1) j p1) p2) (tC (.int (-1))) := fun pins s σ H Q I h => pe_un un_neg pe_int pins s σ H Q I ⟨1, rfl, h⟩
section
variable {P : Program} {w : World} {K : PySem.W.Frag} {mg : Str → Option Value} {base : Heap}
def spOther : Sp := fun vs H Q _ => ∃ (p dc a : Addr) (n : Str) (fs : List Fld), vs = [.ref p, .str n, .ref a] ∧ Dr H p dc ∧ Nm n ∧ FsAt H a fs ∧
  ∀ (t a2 : Addr) (n2 : Str) (fs2 : List Fld) (H' : Hp), H' t = some (.tup [.str n2, .ref a2]) → Nm n2 → FsAt H' a2 fs2 → Dr H' p dc → But p H H' → Q (.ref t) H'
theorem scOK : FnScope ["_law_d", "_law_some", "_law_fields_here", "_law_way", "_law_first", "_law_low", "_law_high"] ["_law_d", "_law_some", "_law_fields_here"] (defScope (top 26)) := ⟨rfl, rfl, rfl, by decide +kernel, rfl, by decide +kernel, by decide +kernel⟩
theorem ok_other {f fP fO fW : Addr} {fd fdP fdO fdW : FuncData} (F : Fun K "_law_other_kind" "_law_other_kind" (top 26) f fd) (T : Txt K mg) (DP : Def K mg "_law_pick" (top 18) ["_law_d", "_law_many"] fP fdP) (DO : Def K mg "_law_of" (top 19) ["_law_d", "_law_things"] fO fdO)
    (DW : Def K mg "_law_word" (top 21) ["_law_d"] fW fdW) : FnOk P w K mg base CX0 4 f fd ["_law_d", "_law_some", "_law_fields_here"] spOther := by
  have GP : FnOk P w K mg base CX0 1 fP fdP ["_law_d", "_law_many"] spPick := ok_pick DP.F T
  have GW : FnOk P w K mg base CX0 3 fW fdW ["_law_d"] spWord := ok_word DW.F T DP DO
  refine F.ok scOK (fun vs H Q E h => ?_) (fun cdv A outer s H vs Q E hr h => ?_)
  · obtain ⟨p, dc, a, n, fs, rfl, _⟩ := h
    rfl
  · obtain ⟨p, dc, a, n, fs, rfl, D, hn, fa, k⟩ := h
    have hr1 : Room 1 _ := hr.mono (by decide)
    refine ⟨_, (pss_cons
  (ps_set (i := 3) scOK.nd rfl (Or.inl rfl) (pe_call GP hr1 rfl DP.mg DP.F.kp DP.b .nil pass0 (pa_cons (pv 0) (pa_cons pe_int pa_nil))))
  (pss_cons
  (ps_if (pt_cmpR op_eq (pv 3) pe_int (nomark _)) (pss_one
  (ps_ret (pe_tup (pa_cons (pe_call GW hr rfl DW.mg DW.F.kp DW.b .nil pass0 (pa_cons (pv 0) pa_nil)) (pa_cons (pv 2) pa_nil))))) pss_nil)
  (pss_cons
  (ps_if (pt_cmpR op_eq (pv 3) pe_int (nomark _)) (pss_one
  (ps_ret (pe_tup (pa_cons (pv 1) (pa_cons (pe_rev (pv 2) (pe_neg1) (fun _ _ => by with_unfolding_all rfl)) pa_nil))))) pss_nil)
  (pss_cons
  (ps_if (PW.pt (pw_and (pt_cmpR op_eq (pv 3) pe_int (nomark _)) (pw_and1 (pt_cmpR (op_neT hr.units) (pv 2) (pe_tup pa_nil) (nomark _))))) (pss_cons
  (ps_asg (pe_ix ix_tup (pv 2) (pe_un un_neg pe_int) (fun _ _ => rfl)) (pg_tup rfl (pgs_cons (pg_name (i := 4) scOK.nd rfl (Or.inl rfl)) (pgs_cons (pg_name (i := 5) scOK.nd rfl (Or.inl rfl)) (pgs_cons (pg_name (i := 6) scOK.nd rfl (Or.inl rfl)) pgs_nil)))))
  (pss_one
  (ps_ret (pe_tup (pa_cons (pv 1) (pa_cons (pe_op op_catA (pe_slice sl_tupW (pv 2) po_none (po_some (pe_un un_neg pe_int))) (pe_tup (pa_cons (pe_tup (pa_cons (pv 4) (pa_cons (pv 5) (pa_cons (pe_callB (call_min2 rfl) (by rfl) T.min bt_min (pa_cons pe_int (pa_cons (pe_op op_add (pv 6) pe_int) pa_nil))) pa_nil)))) pa_nil))) pa_nil)))))) pss_nil)
  (pss_cons
  (ps_if (pt_cmpR op_eq (pv 3) pe_int (nomark _)) (pss_one
  (ps_ret (pe_tup (pa_cons (pv 1) (pa_cons (pe_slice sl_tupW (pv 2) (po_some pe_int) po_none) pa_nil))))) pss_nil)
  (pss_one
  (ps_ret (pe_tup (pa_cons (pv 1) (pa_cons (pv 2) pa_nil)))))))))), ?_⟩
    refine ⟨_, rfl, p, dc, _, rfl, D, by decide, by decide, fun r H1 r0 r1 D1 b1 => ?_⟩
    have fa1 : FsAt H1 a fs := fa.tk (TK.but D b1)
    obtain ⟨xs, ha, pf⟩ := fa1.tp
    have pl := Paired.length pf
    have z2 : 2 ≤ sizeLine := by decide
    have nw : ∀ {q : Addr} {o : HO} {H' : Hp}, H' q = none → TK H' (upd H' q o) := fun h => TK.new h
    refine ⟨_, rfl, rfl, _, rfl, ?_⟩
    by_cases h0 : r = 0
    · refine ifT (by simp [h0]) ⟨_, rfl, p, dc, rfl, D1, fun m H2 nm D2 b2 => ⟨_, rfl, z2, fun t ht => ?_⟩⟩
      exact k t a m fs _ upd_same nm ((fa1.tk (TK.but D1 b2)).tk (TK.new ht)) (D2.new ht) ((b1.trans b2).trans (But.new ht))
    refine ifF (by simp [h0]) ⟨_, rfl, rfl, _, rfl, ?_⟩
    by_cases h1 : r = 1
    · refine ifT (by simp [h1]) ⟨_, rfl, _, rfl, a, xs, rfl, SqT.of ha, fun q hq => ⟨z2, fun t ht => ?_⟩⟩
      have k2 : TK H1 (upd (upd H1 q (.tup xs.reverse)) t (.tup [.str n, .ref q])) := (TK.new hq).trans (TK.new ht)
      refine k t q n fs.reverse _ upd_same hn ⟨⟨xs.reverse, ?_, flds_tk (pr_rev pf) k2⟩, by rw [List.length_reverse]; exact fa.ln, fun f hf => fa.ok f (List.mem_reverse.mp hf), nd_rev fa.nd⟩ ((D1.new hq).new ht) (b1.trans ((But.new hq).trans (But.new ht)))
      exact TK.new ht _ _ upd_same
    refine ifF (by simp [h1]) ⟨_, rfl, rfl, _, rfl, ?_⟩
    by_cases h2 : r = 2
    · refine ifT (by simp [h2]) ⟨_, rfl, (show 0 ≤ sizeLine by decide), fun e0 he0 => ?_⟩
      have ke : TK H1 (upd H1 e0 (.tup [])) := TK.new he0
      have ha' := ke _ _ ha
      have pf' := flds_tk pf ke
      refine ⟨fs.map fD, [], .tup (SqT.of ha') (flds_reps pf'), .tup (SqT.of upd_same) .nil, Nat.le_trans (dep_fs fs) (by decide), _, rfl, ?_⟩
      by_cases hfs : fs = []
      · subst hfs
        refine ifF rfl ?_
        refine ⟨_, rfl, rfl, _, rfl, ifF (by subst h2; decide) ?_⟩
        refine ⟨_, rfl, _, rfl, z2, fun t ht => ?_⟩
        exact k t a n [] _ upd_same hn ((fa1.tk ke).tk (TK.new ht)) ((D1.new he0).new ht) (b1.trans ((But.new he0).trans (But.new ht)))
      · have hx : xs ≠ [] := fun z => hfs (List.length_eq_zero_iff.mp (by rw [← pl, z]; rfl))
        refine ifT (by cases fs with | nil => exact absurd rfl hfs | cons f r => rfl) ?_
        have hpos : 0 < xs.length := List.length_pos_iff.mpr hx
        obtain ⟨y, hy⟩ : ∃ y, xs[xs.length - 1]? = some y := ⟨_, List.getElem?_eq_getElem (by omega)⟩
        obtain ⟨⟨m, lo, hi⟩, hfi, b, rfl, hb⟩ := paired_at pf' hy
        have hat : atI xs (-1) = some (.ref b) := by
          rw [last_eq hy]
          exact atI_last _ _
        refine ⟨_, rfl, _, rfl, a, xs, _, _, rfl, rfl, SqT.of ha', hat, b, _, rfl, SqT.of hb, rfl, _, _, rfl, _, _, rfl, _, _, rfl, rfl, ?_⟩
        have fo := fa.ok _ (List.mem_of_getElem? hfi)
        refine ⟨_, rfl, _, rfl, _, rfl, _, rfl, a, xs, rfl, SqT.of ha', (fun z => ?_), fun q hq => ?_⟩
        · exfalso
          rw [cut_but1] at z
          have := congrArg List.length z
          rw [List.length_take] at this
          omega
        rw [cut_but1]
        have kq := ke.trans (TK.new (o := .tup (xs.take (xs.length - 1))) hq)
        refine ⟨_, rfl, _, rfl, _, rfl, _, _, rfl, rfl, _, _, rfl, (show 3 ≤ sizeLine by decide), fun u hu => ⟨(show 1 ≤ sizeLine by decide), fun v hv => ?_⟩⟩
        dsimp only at hv ⊢
        generalize hmin : (if hi + 1 < 999999 then hi + 1 else (999999 : Int)) = hi2 at hv ⊢
        have kv := kq.trans ((TK.new (o := .tup [.str m, .int lo, .int hi2]) hu).trans (TK.new (o := .tup [.ref u]) hv))
        have c2 : FldOk (m, lo, hi2) := ⟨fo.nm, fo.lo, by have := fo.le; have := fo.hi; simp only at *; rw [← hmin]; split <;> omega, by rw [← hmin]; show (if hi + 1 < 999999 then hi + 1 else (999999 : Int)) ≤ 999999; split <;> omega⟩
        have hfs2 : fs.take (fs.length - 1) ++ [(m, lo, hi)] = fs := (last_eq (by rw [← pl]; exact hfi)).symm
        have pf2 : ∀ H', TK (upd (upd (upd (upd H1 e0 (.tup [])) q (.tup (xs.take (xs.length - 1)))) u (.tup [.str m, .int lo, .int hi2])) v (.tup [.ref u])) H' → Paired (FldAt H') (xs.take (xs.length - 1) ++ [.ref u]) (fs.take (fs.length - 1) ++ [(m, lo, hi2)]) := fun H' kk => by
          rw [← pl]
          exact pr_app (flds_tk (pr_take _ pf) (kv.trans kk)) (.cons ⟨u, rfl, kk _ _ (TK.new hv _ _ upd_same)⟩ .nil)
        have ok2 : ∀ f ∈ fs.take (fs.length - 1) ++ [(m, lo, hi2)], FldOk f := fun f hf => by
          rcases List.mem_append.mp hf with hf | hf
          · exact fa.ok f (List.mem_of_mem_take hf)
          · cases List.mem_singleton.mp hf; exact c2
        have nd2 : ((fs.take (fs.length - 1) ++ [(m, lo, hi2)]).map (·.1)).Nodup := by
          have := fa.nd
          rw [← hfs2, List.map_append] at this
          rw [List.map_append]
          exact this
        have ln2 : (fs.take (fs.length - 1) ++ [(m, lo, hi2)]).length ≤ 4 := by
          have := fa.ln
          rw [List.length_append, List.length_take]
          have : 0 < fs.length := by omega
          simp only [List.length_singleton]
          omega
        have Dv : Dr _ p dc := (((D1.new (o := .tup []) he0).new (o := .tup (xs.take (xs.length - 1))) hq).new (o := .tup [.str m, .int lo, .int hi2]) hu).new (o := .tup [.ref u]) hv
        have bv := b1.trans ((But.new (p := p) (o := .tup []) he0).trans ((But.new (o := .tup (xs.take (xs.length - 1))) hq).trans ((But.new (o := .tup [.str m, .int lo, .int hi2]) hu).trans (But.new (o := .tup [.ref u]) hv))))
        refine ⟨q, v, _, _, rfl, rfl, SqT.of ((TK.new hu).trans (TK.new hv) _ _ upd_same), SqT.of upd_same, ?_, fun hnil => ?_, (fun z => by simp at z), fun w hw => ⟨z2, fun t ht => ?_⟩⟩
        · rw [List.length_take, List.length_singleton]
          have := fa.ln
          exact Nat.le_trans (show _ ≤ 10 by omega) (by decide)
        · refine ⟨z2, fun t ht => ?_⟩
          have hk := pf2 _ (TK.new (o := .tup [.str n, .ref v]) ht)
          have e9 : xs.take (xs.length - 1) ++ [V.ref u] = [V.ref u] := by rw [hnil]; rfl
          rw [e9] at hk
          exact k t v n _ _ upd_same hn ⟨⟨_, TK.new ht _ _ upd_same, hk⟩, ln2, ok2, nd2⟩ (Dv.new ht) (bv.trans (But.new ht))
        · have kk := (TK.new (o := .tup (xs.take (xs.length - 1) ++ [.ref u])) hw).trans (TK.new (o := .tup [.str n, .ref w]) ht)
          exact k t w n _ _ upd_same hn ⟨⟨_, TK.new ht _ _ upd_same, pf2 _ kk⟩, ln2, ok2, nd2⟩ ((Dv.new hw).new ht) (bv.trans ((But.new hw).trans (But.new ht)))
    refine ifF (by simp [h2]) ⟨_, rfl, rfl, _, rfl, ?_⟩
    by_cases h3 : r = 3
    · refine ifT (by simp [h3]) ⟨_, rfl, _, rfl, _, rfl, a, xs, rfl, SqT.of ha, fun _ => ⟨z2, fun t ht => ?_⟩, fun q hq => ⟨z2, fun t ht => ?_⟩⟩
      · exact k t a n fs _ upd_same hn (fa1.tk (TK.new ht)) (D1.new ht) (b1.trans (But.new ht))
      · rw [cut_drop1] at ht ⊢
        have k2 : TK H1 (upd (upd H1 q (.tup (xs.drop 1))) t (.tup [.str n, .ref q])) := (TK.new hq).trans (TK.new ht)
        refine k t q n (fs.drop 1) _ upd_same hn ⟨⟨xs.drop 1, TK.new ht _ _ upd_same, flds_tk (pr_drop 1 pf) k2⟩, by have := fa.ln; rw [List.length_drop]; omega, fun f hf => fa.ok f (List.mem_of_mem_drop hf), ?_⟩ ((D1.new hq).new ht) (b1.trans ((But.new hq).trans (But.new ht)))
        rw [List.map_drop]
        exact fa.nd.sublist (List.drop_sublist 1 _)
    · refine ifF (by simp [h3]) ⟨_, rfl, _, rfl, z2, fun t ht => ?_⟩
      exact k t a n fs _ upd_same hn (fa1.tk (TK.new ht)) (D1.new ht) (b1.trans (But.new ht))
end
end Cm

set_option Elab.async false
set_option linter.all false
set_option maxRecDepth 100000
set_option maxHeartbeats 8000000
namespace Cm
open PySem L2
structure KTy (K : PySem.W.Frag) (C : Addr) (T : String) : Prop where
  kit : PySem.W.kitOne K (.type T) (.ref C) = some false
  nf : PySem.W.notFirst K C (.type T) = true
structure KFacts (K : PySem.W.Frag) (C : Addr) : Prop where
  ne : PySem.W.findIn K (.ref C) "__ne__" = some (some (.builtin "object.__ne__"))
  nb : PySem.W.findIn K (.ref C) "__bool__" = some none
  oi : OwnIs K C
  k1 : PySem.W.kitOne K (.ref C) (.ref C) = some true
  nf : PySem.W.notFirst K C (.ref C) = true
  tT : KTy K C "tuple"
  tS : KTy K C "str"
  tN : KTy K C "NoneType"
  tI : KTy K C "int"
  tL : KTy K C "list"
theorem KindAt.but {C o a p dc : Addr} {n : Str} {fs : List Fld} {H H' : Hp} (h : KindAt C H o n a fs) (D : Dr H p dc) (b : But p H H') : KindAt C H' o n a fs := by
  obtain ⟨⟨dx, h1⟩, xs, h2, h3⟩ := h
  exact ⟨⟨dx, b _ _ h1 (D.ne h1 (by intro kvs z; cases z))⟩, xs, TK.but D b _ _ h2, flds_tk h3 (TK.but D b)⟩
theorem make_same {H H' : Hp} {x dx C : Addr} (nx : H x = none) (ndx : H dx = none) (kp : ∀ b u, (upd (upd H dx (.own x)) x (.ins C dx [])) b = some u → b ≠ x → H' b = some u) : Same H H' := fun b u e => kp b u (by rw [upd_ne (ne_of_none e nx), upd_ne (ne_of_none e ndx)]; exact e) (ne_of_none e nx)
abbrev E0 : XK := fun _ _ _ => True
def Bl4 (b : Bool) : List PyData := [.bool b, .bool b, .bool (!b), .bool b]
section
variable {P : Program} {w : World} {K : PySem.W.Frag} {mg : Str → Option Value} {base : Heap}
def spLaw (K : PySem.W.Frag) : Sp := fun vs H Q _ => ∃ (a : Addr) (ns : List Int), vs = [.ref a] ∧ SqL K H a (ns.map V.int) ∧ ns.length ≤ 63 ∧ ∀ H', Q (.bl true) H'
theorem alike_eq (n n2 : Str) (fs fs2 : List Fld) : pdEq (.tuple [.str n2, fsD fs2]) (.tuple [.str n, fsD fs]) = decide (n = n2 ∧ fs = fs2) := by
  have e : pdEq (.tuple [.str n2, fsD fs2]) (.tuple [.str n, fsD fs]) = ((n2 == n) && (pdEqs (fs2.map fD) (fs.map fD) && true)) := by simp [pdEq, pdEqs, fsD]
  rw [e, pdEqs_fld, Bool.and_true, Bool.eq_iff_iff]
  simp only [Bool.and_eq_true, beq_iff_eq, decide_eq_true_eq]
  exact ⟨fun h => ⟨h.1.symm, h.2.symm⟩, fun h => ⟨h.1.symm, h.2.symm⟩⟩
theorem truth_eq (fs : List Fld) : (fs.length != 0) = !pdEqs (fs.map fD) [] := by
  cases fs with
  | nil => rfl
  | cons f r => rfl
/-- == of two Kinds, read -/
theorem eq_read {C o1 o2 a1 a2 : Addr} {n1 n2 : Str} {fs1 fs2 : List Fld} {H : Hp} {Q : VK} (KF : KFacts K C) (k1 : KindAt C H o1 n1 a1 fs1) (k2 : KindAt C H o2 n2 a2 fs2) (q : Q (.bl (decide (n1 = n2 ∧ fs1 = fs2))) H) : rEqI K C (spEq K C) E0 (.ref o1) (.ref o2) H Q := by
  obtain ⟨dx1, h1⟩ := k1.ob
  obtain ⟨dx2, h2⟩ := k2.ob
  exact ⟨o1, dx1, _, .ref C, rfl, h1, .inr ⟨o2, C, dx2, _, rfl, h2, rfl⟩, KF.nf, o1, a1, n1, fs1, .ref o2, rfl, k1, .inr ⟨o2, a2, n2, fs2, rfl, k2, _, rfl, q⟩⟩
theorem ne_read {C o1 o2 a1 a2 : Addr} {n1 n2 : Str} {fs1 fs2 : List Fld} {H : Hp} {Q : VK} (KF : KFacts K C) (k1 : KindAt C H o1 n1 a1 fs1) (k2 : KindAt C H o2 n2 a2 fs2) (q : Q (.bl (!decide (n1 = n2 ∧ fs1 = fs2))) H) : rNeI K C (spEq K C) E0 (.ref o1) (.ref o2) H Q := by
  obtain ⟨dx1, h1⟩ := k1.ob
  obtain ⟨dx2, h2⟩ := k2.ob
  exact ⟨o1, dx1, _, .ref C, rfl, h1, .inr ⟨o2, C, dx2, _, rfl, h2, rfl⟩, KF.nf, o1, a1, n1, fs1, .ref o2, rfl, k1, .inr ⟨o2, a2, n2, fs2, rfl, k2, _, rfl, q⟩⟩
theorem odd_read {C o1 a1 : Addr} {n1 : Str} {fs1 : List Fld} {H : Hp} {Q : VK} {y : V} {d : PyData} (kt : KTy K C (tyD d)) (k1 : KindAt C H o1 n1 a1 fs1) (hy : Rep K H y d) (q : Q (.bl false) H) : rEqI K C (spEq K C) E0 (.ref o1) y H Q := by
  obtain ⟨dx1, h1⟩ := k1.ob
  exact ⟨o1, dx1, _, _, rfl, h1, .inl ⟨d, hy, rfl⟩, kt.nf, o1, a1, n1, fs1, y, rfl, k1, .inl ⟨d, hy, kt.kit, _, rfl, q⟩⟩
theorem scLaw : FnScope ["_law_script", "_law_d", "_law_turn", "_law_some", "_law_fields_here", "_law_one", "_law_other", "_law_two", "_law_alike", "_law_due", "_law_strange", "_law_names"] ["_law_script"] (defScope (top 28)) := ⟨rfl, rfl, rfl, by decide +kernel, rfl, by decide +kernel, by decide +kernel⟩
theorem ndO : List.Nodup (["_law_odd", "_law_one"] : List Str) := by decide +kernel
theorem ok_law {C f fB fP fO fW fWs fBd fF fS fK fSh fTo fI fN fNF fIn fLo fCe fPl fE fLe fSt fRe fBT : Addr} {fd fdB fdP fdO fdW fdWs fdBd fdF fdS fdK fdSh fdTo fdI fdN fdNF fdIn fdLo fdCe fdPl fdE fdLe fdSt fdRe fdBT : FuncData} {dV : Value}
    (F : Fun K "law" "law" (top 28) f fd) (T : Txt K mg) (hen : mg "enumerate" = none) (TK' : TxtK mg) (KC : KCls K mg C) (KF : KFacts K C) (MK : Mk K C fIn)
    (DB : Def K mg "_law_begin" (top 17) ["_law_script"] fB fdB) (DP : Def K mg "_law_pick" (top 18) ["_law_d", "_law_many"] fP fdP) (DO : Def K mg "_law_of" (top 19) ["_law_d", "_law_things"] fO fdO)
    (DW : Def K mg "_law_word" (top 21) ["_law_d"] fW fdW) (DWs : Def K mg "_law_words" (top 22) ["_law_d", "_law_many"] fWs fdWs) (DBd : Def K mg "_law_bound" (top 23) ["_law_d"] fBd fdBd)
    (DF : Def K mg "_law_fields" (top 24) ["_law_d", "_law_many"] fF fdF) (DS : Def K mg "_law_same" (top 20) ["_law_found", "_law_due"] fS fdS) (DK : Def K mg "_law_other_kind" (top 26) ["_law_d", "_law_some", "_law_fields_here"] fK fdK)
    (DSh : Def K mg "_law_kind_shown" (top 27) ["_law_some", "_law_fields_here"] fSh fdSh) (DTo : Def K mg "_law_told_of" (top 25) ["_law_kind", "_law_fields_here"] fTo fdTo)
    (DI : Def K mg "is_name" (top 11) ["text"] fI fdI) (DN : Def K mg "need_name" (top 12) ["text"] fN fdN) (DNF : Def K mg "need_fields" (top 13) ["fields"] fNF fdNF) (DBT : Def K mg "bounds_text" (top 14) ["fields"] fBT fdBT)
    (FIn : FunD K "__init__" "Kind.__init__" sInit dV fIn fdIn) (bIn : Binds K fdIn ["self", "name", "fields"] [])
    (ML : MD K C "lowest" "Kind.lowest" (kM 1) ["self"] fLo fdLo) (MC : MD K C "cells" "Kind.cells" (kM 2) ["self"] fCe fdCe) (MP : MD K C "place_of" "Kind.place_of" (kM 3) ["self", "field"] fPl fdPl)
    (ME : MD K C "__eq__" "Kind.__eq__" (kM 5) ["self", "other"] fE fdE) (MLe : MD K C "__len__" "Kind.__len__" (kM 6) ["self"] fLe fdLe) (MS : MD K C "__str__" "Kind.__str__" (kM 7) ["self"] fSt fdSt) (MR : MD K C "__repr__" "Kind.__repr__" (kM 8) ["self"] fRe fdRe) :
    FnOk P w K mg base CX0 8 f fd ["_law_script"] (spLaw K) := by
  have GB : FnOk P w K mg base CX0 1 fB fdB ["_law_script"] (spBegin K) := ok_begin DB.F T
  have GP : FnOk P w K mg base CX0 1 fP fdP ["_law_d", "_law_many"] spPick := ok_pick DP.F T
  have GW : FnOk P w K mg base CX0 3 fW fdW ["_law_d"] spWord := ok_word DW.F T DP DO
  have GF : FnOk P w K mg base CX0 5 fF fdF ["_law_d", "_law_many"] (spFields K) := ok_fields DF.F T DP DO DW DWs DBd
  have GS : FnOk P w K mg base CX0 5 fS fdS ["_law_found", "_law_due"] (spS K 5) := ok_same DS T 5
  have GK : FnOk P w K mg base CX0 4 fK fdK ["_law_d", "_law_some", "_law_fields_here"] spOther := ok_other DK.F T DP DO DW
  have GSh : FnOk P w K mg base CX0 1 fSh fdSh ["_law_some", "_law_fields_here"] spShown := ok_shown DSh.F T
  have GTo : FnOk P w K mg base CX0 6 fTo fdTo ["_law_kind", "_law_fields_here"] (spTold C) := ok_told DTo.F T hen KC DS ML MC MP
  have GI : FnOk P w K mg base CX0 4 fIn fdIn ["self", "name", "fields"] (spInit C) := ok_init FIn T TK' KC DI DN DNF
  have GPl : FnOk P w K mg base CX0 1 fPl fdPl ["self", "field"] (spPlace C) := ok_place MP.F T hen KC
  have GE : FnOk P w K mg base CX0 1 fE fdE ["self", "other"] (spEq K C) := ok_eq ME.F T KC KF.oi KF.k1
  have GLe : FnOk P w K mg base CX0 1 fLe fdLe ["self"] (spLen C) := ok_len MLe.F T KC
  have GSt : FnOk P w K mg base CX0 2 fSt fdSt ["self"] (spStr C) := ok_str MS.F T KC DBT
  have GRe : FnOk P w K mg base CX0 1 fRe fdRe ["self"] (spRepr C) := ok_repr MR.F T KC
  refine F.ok scLaw (fun vs H Q E h => ?_) (fun cdv A outer s H vs Q E hr h => ?_)
  · obtain ⟨a, ns, rfl, _⟩ := h
    rfl
  · obtain ⟨sa, ns, rfl, hS, hlen, k⟩ := h
    have hr1 : Room 1 _ := hr.mono (by decide)
    have hr2 : Room 2 _ := hr.mono (by decide)
    have hr3 : Room 3 _ := hr.mono (by decide)
    have hr4 : Room 4 _ := hr.mono (by decide)
    have hr5 : Room 5 _ := hr.mono (by decide)
    have hr6 : Room 6 _ := hr.mono (by decide)
    refine ⟨_, (pss_cons
  (ps_set (i := 1) scLaw.nd rfl (Or.inl rfl) (pe_call GB hr1 rfl DB.mg DB.F.kp DB.b .nil pass0 (pa_cons (pv 0) pa_nil)))
  (pss_cons
  (ps_for PassesOwn.never rfl (pi_range1 rfl T.range (pa_cons pe_int pa_nil)) (pg_name (i := 2) scLaw.nd rfl (Or.inl rfl)) (pss_cons
  (ps_set (i := 3) scLaw.nd rfl (Or.inl rfl) (pe_call GW hr3 rfl DW.mg DW.F.kp DW.b .nil pass0 (pa_cons (pv 1) pa_nil)))
  (pss_cons
  (ps_set (i := 4) scLaw.nd rfl (Or.inl rfl) (pe_call GF hr5 rfl DF.mg DF.F.kp DF.b .nil pass0 (pa_cons (pv 1) (pa_cons (pe_call GP hr1 rfl DP.mg DP.F.kp DP.b .nil pass0 (pa_cons (pv 1) (pa_cons pe_int pa_nil))) pa_nil))))
  (pss_cons
  (ps_set (i := 5) scLaw.nd rfl (Or.inr rfl) (pe_make MK GI hr5 rfl KC.mg bIn .nil pass0 (pa_cons (pv 3) (pa_cons (pv 4) pa_nil))))
  (pss_cons
  (ps_set (i := 6) scLaw.nd rfl (Or.inl rfl) (pe_call GK hr4 rfl DK.mg DK.F.kp DK.b .nil pass0 (pa_cons (pv 1) (pa_cons (pv 3) (pa_cons (pv 4) pa_nil)))))
  (pss_cons
  (ps_set (i := 7) scLaw.nd rfl (Or.inl rfl) (pe_make MK GI hr5 rfl KC.mg bIn .nil pass0 (pa_cons (pe_ix ix_tup (pv 6) pe_int (fun _ _ => rfl)) (pa_cons (pe_ix ix_tup (pv 6) pe_int (fun _ _ => rfl)) pa_nil))))
  (pss_cons
  (ps_set (i := 8) scLaw.nd rfl (Or.inl rfl) (pe_cmpR (op_eqD hr.units) (pv 6) (pe_tup (pa_cons (pv 3) (pa_cons (pv 4) pa_nil))) (nomark _)))
  (pss_cons
  (ps_if (pt_not (pt_val (pe_call GS hr5 rfl DS.mg DS.F.kp DS.b .nil pass0 (pa_cons (pe_lst (pa_cons (pe_cmpR (op_eqI (E := E0) ⟨ME.M.at_, ME.M.fn, GE, ME.b, pass0⟩ hr1) (pv 5) (pv 7) (nomark _)) (pa_cons (pe_cmpR (op_eqI (E := E0) ⟨ME.M.at_, ME.M.fn, GE, ME.b, pass0⟩ hr1) (pv 7) (pv 5) (nomark _)) (pa_cons (pe_cmpR (op_neI (E := E0) ⟨ME.M.at_, ME.M.fn, GE, ME.b, pass0⟩ KF.ne KF.oi.mr hr2) (pv 5) (pv 7) (nomark _)) (pa_cons (pe_cmpR (op_inI (E := E0) ⟨ME.M.at_, ME.M.fn, GE, ME.b, pass0⟩ hr2) (pv 5) (pe_lst (pa_cons (pv 7) pa_nil)) rfl) pa_nil))))) (pa_cons (pe_lst (pa_cons (pv 8) (pa_cons (pv 8) (pa_cons (pe_not (pv 8)) (pa_cons (pv 8) pa_nil))))) pa_nil))))) (pss_one ps_never) pss_nil)
  (pss_cons
  (ps_set (i := 9) scLaw.nd rfl (Or.inl rfl) (pe_op op_cat (pe_call GSh hr1 rfl DSh.mg DSh.F.kp DSh.b .nil pass0 (pa_cons (pv 3) (pa_cons (pv 4) pa_nil))) (pe_lst (pa_cons (pe_callB call_len_seq (by rfl) T.len bt_len (pa_cons (pv 4) pa_nil)) (pa_cons (pe_cmpR (op_neT hr.units) (pv 4) (pe_tup pa_nil) (nomark _)) pa_nil)))))
  (pss_cons
  (ps_if (pt_not (pt_val (pe_call GS hr5 rfl DS.mg DS.F.kp DS.b .nil pass0 (pa_cons (pe_lst (pa_cons (pe_callB (call_reprI (E := E0) ⟨MR.M.at_, MR.M.fn, GRe, MR.b, pass0⟩ hr2) (by rfl) T.repr bt_repr (pa_cons (pv 5) pa_nil)) (pa_cons (pe_callTy (call_strI (E := E0) ⟨MS.M.at_, MS.M.fn, GSt, MS.b, pass0⟩ hr4) (by rfl) T.str bt_str (pa_cons (pv 5) pa_nil)) (pa_cons (pe_callB (call_lenI (E := E0) ⟨MLe.M.at_, MLe.M.fn, GLe, MLe.b, pass0⟩ hr2) (by rfl) T.len bt_len (pa_cons (pv 5) pa_nil)) (pa_cons (pe_callTy (call_boolI (E := E0) ⟨MLe.M.at_, MLe.M.fn, GLe, MLe.b, pass0⟩ KF.nb hr4) (by rfl) T.bool bt_bool (pa_cons (pv 5) pa_nil)) pa_nil))))) (pa_cons (pv 9) pa_nil))))) (pss_one ps_never) pss_nil)
  (pss_cons
  (ps_if (pt_val (pe_callB (call_anyB rfl) (by rfl) T.any bt_any (pa_cons (pe_comp (own := ["_law_odd"]) (js := [5]) (N' := ["_law_odd", "_law_one"]) (CompScope.of (osc := defScope (top 28)) (N := ["_law_script", "_law_d", "_law_turn", "_law_some", "_law_fields_here", "_law_one", "_law_other", "_law_two", "_law_alike", "_law_due", "_law_strange", "_law_names"]) rfl rfl ⟨rfl, by decide +kernel, by decide +kernel, by decide +kernel, rfl, by decide +kernel⟩) rfl (pi_tup (pe_tup (pa_cons (pe_tup (pa_cons (pv 3) (pa_cons (pv 4) pa_nil))) (pa_cons (pv 3) (pa_cons pe_non (pa_cons pe_int (pa_cons (pe_lst pa_nil) (pa_cons (pe_callB (call_reprI (E := E0) ⟨MR.M.at_, MR.M.fn, GRe, MR.b, pass0⟩ hr2) (by rfl) T.repr bt_repr (pa_cons (pv 5) pa_nil)) pa_nil)))))))) (fun _ _ _ _ _ => (pg_name (i := 0) ndO rfl (Or.inl rfl) (Or.inr rfl))) (fun _ _ _ _ _ => pifs_nil) (fun _ _ _ _ _ => (pe_cmpR (r := rEqI K C (spEq K C) E0) (op_eqI (E := E0) ⟨ME.M.at_, ME.M.fn, GE, ME.b, pass0⟩ hr1) (pv 1) (pv 0) (nomark _)))) pa_nil))) (pss_one ps_never) pss_nil)
  (pss_cons
  (ps_set (i := 10) scLaw.nd rfl (Or.inl rfl) (pe_call GW hr3 rfl DW.mg DW.F.kp DW.b .nil pass0 (pa_cons (pv 1) pa_nil)))
  (pss_cons
  (ps_setComp (g := gFld K) (i := 11) (own := ["_law_title", "_law_low", "_law_high"]) (js := []) (N' := ["_law_title", "_law_low", "_law_high"]) (CompScope.of (osc := defScope (top 28)) (N := ["_law_script", "_law_d", "_law_turn", "_law_some", "_law_fields_here", "_law_one", "_law_other", "_law_two", "_law_alike", "_law_due", "_law_strange", "_law_names"]) rfl rfl ⟨rfl, by decide +kernel, by decide +kernel, by decide +kernel, rfl, by decide +kernel⟩) rfl scLaw.nd rfl rfl (pi_tup (pv 4)) (fun _ _ _ _ _ => (pg_tup rfl (pgs_cons (pg_name (i := 0) ndT rfl (Or.inl rfl) (Or.inr rfl)) (pgs_cons (pg_name (i := 1) ndT rfl (Or.inl rfl) (Or.inr rfl)) (pgs_cons (pg_name (i := 2) ndT rfl (Or.inl rfl) (Or.inr rfl)) pgs_nil))))) (fun _ _ _ _ _ => pifs_nil) (fun _ _ _ _ _ => (pv 0)))
  (pss_cons
  (ps_set (i := 9) scLaw.nd rfl (Or.inl rfl) (pe_ifExp (pt_cmpR op_in_seq (pv 10) (pv 11) rfl) (pe_bm PySem.F.plainAttrs_list PySem.F.slot_list_index PySem.F.type_list_index (mt_index hr.units) (pv 11) (pa_cons (pv 10) pa_nil)) pe_non))
  (pss_one
  (ps_if (PW.pt (pw_or (pt_not (pt_val (pe_call GS hr5 rfl DS.mg DS.F.kp DS.b .nil pass0 (pa_cons (pe_meth (pv 5) KC.cl MP.M GPl hr1 MP.b .nil pass0 (pa_cons (pv 10) pa_nil)) (pa_cons (pv 9) pa_nil))))) (pw_or1 (pt_not (pt_val (pe_call GTo hr6 rfl DTo.mg DTo.F.kp DTo.b .nil pass0 (pa_cons (pv 5) (pa_cons (pv 4) pa_nil)))))))) (pss_one ps_never) pss_nil))))))))))))))))
  (pss_one
  (ps_ret pe_bl)))), ?_⟩
    refine ⟨_, rfl, sa, ns, rfl, hS, hlen, fun p dc H0 D0 s0 _ => ?_⟩
    refine ⟨3, rfl, by decide, by decide, for_range (n := 3) (fun i σ H' => (∃ u2 u3 u4 u5 u6 u7 u8 u9 u10 u11, σ = [some (.ref sa), some (.ref p), u2, u3, u4, u5, u6, u7, u8, u9, u10, u11]) ∧ Dr H' p dc) ⟨⟨none, none, none, none, none, none, none, none, none, none, rfl⟩, D0⟩ ?_ ?_⟩
    · rintro i σ H1 hi ⟨⟨u2, u3, u4, u5, u6, u7, u8, u9, u10, u11, rfl⟩, D1⟩
      have z0 : 0 ≤ sizeLine := Nat.zero_le _
      have z2 : 2 ≤ sizeLine := by decide
      have z4 : 4 ≤ sizeLine := by decide
      have z6 : 6 ≤ sizeLine := by decide
      -- some, fields_here
      refine ⟨_, rfl, p, dc, rfl, D1, fun n H2 hn D2 b2 => ?_⟩
      refine ⟨_, rfl, _, rfl, p, dc, _, rfl, D2, by decide, by decide, fun r H3 r0 r1 D3 b3 => ?_⟩
      refine ⟨p, dc, r, rfl, D3, r0, by omega, fun a xs fs H4 ha pf hfl hok nd hna D4 b4 => ?_⟩
      have hl : fs.length ≤ 4 := by omega
      -- one
      refine ⟨_, rfl, _, rfl, fun x dx nx ndx nex => ?_⟩
      have sm : Same H4 (upd (upd H4 dx (.own x)) x (.ins C dx [])) := fun b u e => by rw [upd_ne (ne_of_none e nx), upd_ne (ne_of_none e ndx)]; exact e
      refine ⟨x, dx, a, n, xs, fs, rfl, upd_same, hn, sm _ _ ha, flds_tk pf (fun _ _ z => sm _ _ z), hl, hok, nd, fun H5 ka kp => ⟨rfl, ?_⟩⟩
      have S5 : Same H4 H5 := make_same nx ndx kp
      have D5 := D4.mono S5
      have fa5 : FsAt H5 a fs := ⟨⟨xs, S5 _ _ ha, flds_tk pf fun _ _ z => S5 _ _ z⟩, hl, hok, nd⟩
      clear kp sm S5
      -- other
      refine ⟨_, rfl, _, rfl, _, rfl, p, dc, a, n, fs, rfl, D5, hn, fa5, fun t a2 n2 fs2 H6 ht nm2 fa2 D6 b6 => ?_⟩
      have ka6 := ka.but D5 b6
      have fa6 := fa5.tk (TK.but D5 b6)
      obtain ⟨xs2, ha2, pf2⟩ := fa2.tp
      -- two
      refine ⟨_, rfl, t, _, _, .str n2, rfl, rfl, SqT.of ht, atI_nat (j := 0) rfl, _, rfl, t, _, _, .ref a2, rfl, rfl, SqT.of ht, atI_nat (j := 1) rfl, fun y dy ny ndy ney => ?_⟩
      have sm2 : Same H6 (upd (upd H6 dy (.own y)) y (.ins C dy [])) := fun b u e => by rw [upd_ne (ne_of_none e ny), upd_ne (ne_of_none e ndy)]; exact e
      refine ⟨y, dy, a2, n2, xs2, fs2, rfl, upd_same, nm2, sm2 _ _ ha2, flds_tk pf2 (fun _ _ z => sm2 _ _ z), fa2.ln, fa2.ok, fa2.nd, fun H7 kb kp2 => ⟨rfl, ?_⟩⟩
      have S7 : Same H6 H7 := make_same ny ndy kp2
      have hyx : y ≠ x := fun e => by
        obtain ⟨d6, h6⟩ := ka6.ob
        rw [e, h6] at ny
        cases ny
      have ka7 := ka6.same S7
      have fa7 := fa6.tk (fun _ _ z => S7 _ _ z)
      have fb7 := fa2.tk (fun _ _ z => S7 _ _ z)
      have D7 := D6.mono S7
      have ht7 := S7 _ _ ht
      clear kp2 sm2 S7 ha2 pf2
      obtain ⟨xs2, ha2, pf2⟩ := fb7.tp
      obtain ⟨xs', ha7, pf7⟩ := fa7.tp
      -- alike
      refine ⟨_, rfl, _, rfl, _, rfl, z2, fun q hq => ?_⟩
      have S8 : Same H7 (upd H7 q (.tup [.str n, .ref a])) := Same.new hq
      refine ⟨.tuple [.str n2, fsD fs2], .tuple [.str n, fsD fs], .tup (SqT.of (S8 _ _ ht7)) (.cons (.str _) (.cons (.tup (SqT.of (S8 _ _ ha2)) (flds_reps (flds_tk pf2 fun _ _ z => S8 _ _ z))) .nil)), .tup (SqT.of upd_same) (.cons (.str _) (.cons (.tup (SqT.of (S8 _ _ ha7)) (flds_reps (flds_tk pf7 fun _ _ z => S8 _ _ z))) .nil)), ?_, ?_⟩
      · have := dep_fs fs2
        simp only [pdDep, pdDeps, fsD]
        omega
      rw [alike_eq]
      have e' : decide (n2 = n ∧ fs2 = fs) = decide (n = n2 ∧ fs = fs2) := by
        rw [Bool.eq_iff_iff]
        simp only [decide_eq_true_eq]
        exact ⟨fun h => ⟨h.1.symm, h.2.symm⟩, fun h => ⟨h.1.symm, h.2.symm⟩⟩
      have ka8 := ka7.same S8
      have kb8 := kb.same S8
      have fa8 := fa7.tk (fun _ _ z => S8 _ _ z)
      have D8 := D7.mono S8
      generalize (upd H7 q (.tup [.str n, .ref a])) = H8 at S8 ka8 kb8 fa8 D8 ⊢
      clear S8 fa7 fb7 D7 ka7 ht7 ha2 pf2 ha7 pf7 xs' hq
      -- the first test
      refine ⟨_, rfl, _, rfl, eq_read KF ka8 kb8 ⟨_, rfl, _, rfl, eq_read KF kb8 ka8 ⟨_, rfl, _, rfl, ne_read KF ka8 kb8 ⟨_, rfl, _, rfl, (show 1 ≤ sizeLine by decide), fun l1 hl1 => ⟨x, y, l1, rfl, rfl, upd_same, hyx, eq_read KF (kb8.same (Same.new hl1)) (ka8.same (Same.new hl1)) ⟨⟨_, rfl⟩, rfl, z4, fun l4 hl4 => ?_⟩⟩⟩⟩⟩⟩
      refine ⟨_, rfl, _, rfl, _, rfl, _, rfl, _, rfl, z4, fun l5 hl5 => ?_⟩
      refine ⟨.ref l4, .ref l5, .list (Bl4 (decide (n = n2 ∧ fs = fs2))), .list (Bl4 (decide (n = n2 ∧ fs = fs2))), rfl, .lst (SqL.of (Same.new hl5 _ _ (by rw [upd_same, e']))) (.cons (.bl _) (.cons (.bl _) (.cons (.bl _) (.cons (.bl _) .nil)))), .lst (SqL.of upd_same) (.cons (.bl _) (.cons (.bl _) (.cons (.bl _) (.cons (.bl _) .nil)))), by simp [pdDep, pdDeps, Bl4], by simp [pdMax, pdMaxs, Bl4], by simp [pdDep, pdDeps, Bl4], fun bb H9 hbb s9 => ⟨bb, rfl, ?_⟩⟩
      rw [hbb.mpr rfl]
      refine ifF rfl ?_
      have S9 : Same H8 H9 := (Same.new hl1).trans ((Same.new hl4).trans ((Same.new hl5).trans s9))
      have ka9 := ka8.same S9
      have fa9 := fa8.tk (fun _ _ z => S9 _ _ z)
      have D9 := D8.mono S9
      clear s9 S9 hbb hl1 hl4 hl5 ka8 kb8 fa8 D8
      obtain ⟨xs9, ha9, pf9⟩ := fa9.tp
      -- due
      refine ⟨_, rfl, _, rfl, n, a, fs, xs9, rfl, hn, ha9, pf9, hl, hok, fun q2 H10 hq2 s10 => ?_⟩
      refine ⟨_, rfl, a, xs9, rfl, .inr (SqT.of (s10 _ _ ha9)), _, rfl, z0, fun e0 he0 => ?_⟩
      have S11 : Same H9 (upd H10 e0 (.tup [])) := s10.trans (Same.new he0)
      refine ⟨fs.map fD, [], .tup (SqT.of (S11 _ _ ha9)) (flds_reps (flds_tk pf9 fun _ _ z => S11 _ _ z)), .tup (SqT.of upd_same) .nil, Nat.le_trans (dep_fs fs) (by decide), z2, fun l6 hl6 => ?_⟩
      refine ⟨q2, l6, _, _, rfl, rfl, Same.new hl6 _ _ (Same.new he0 _ _ hq2), upd_same, z4, fun l7 hl7 => ?_⟩
      have S13 := S11.trans ((Same.new (o := .lst [.int xs9.length, .bl (!pdEqs (fs.map fD) [])]) hl6).trans (Same.new (o := .lst ([.str (reprT n fs), .str (strT n fs)] ++ [.int xs9.length, .bl (!pdEqs (fs.map fD) [])])) hl7))
      have ka13 := ka9.same S13
      have fa13 := fa9.tk (fun _ _ z => S13 _ _ z)
      have D13 := D9.mono S13
      have hd13 : (upd (upd (upd H10 e0 (.tup [])) l6 (.lst [.int xs9.length, .bl (!pdEqs (fs.map fD) [])])) l7 (.lst ([.str (reprT n fs), .str (strT n fs)] ++ [.int xs9.length, .bl (!pdEqs (fs.map fD) [])]))) l7 = some (.lst ([.str (reprT n fs), .str (strT n fs)] ++ [.int xs9.length, .bl (!pdEqs (fs.map fD) [])])) := upd_same
      have pl9 := Paired.length pf9
      generalize (upd (upd (upd H10 e0 (.tup [])) l6 (.lst [.int xs9.length, .bl (!pdEqs (fs.map fD) [])])) l7 (.lst ([.str (reprT n fs), .str (strT n fs)] ++ [.int xs9.length, .bl (!pdEqs (fs.map fD) [])]))) = H13 at S13 ka13 fa13 D13 hd13 ⊢
      clear S13 S11 s10 hq2 he0 hl6 hl7 ka9 fa9 D9 ha9 pf9
      obtain ⟨dx13, ho13⟩ := ka13.ob
      -- the second test
      refine ⟨_, rfl, x, dx13, _, rfl, ho13, x, a, n, fs, rfl, ka13, hn, hl, hok, _, rfl, _, rfl, x, dx13, _, rfl, ho13, x, a, n, fs, rfl, ka13, hn, hl, hok, fun H14 s14 => ⟨_, rfl, ?_⟩⟩
      refine ⟨_, rfl, x, dx13, _, rfl, s14 _ _ ho13, x, a, n, fs, rfl, ka13.same s14, fs.length, rfl, by omega, _, rfl, x, dx13, _, rfl, s14 _ _ ho13, x, a, n, fs, rfl, ka13.same s14, fs.length, rfl, by omega, z4, fun l8 hl8 => ?_⟩
      refine ⟨_, rfl, .ref l8, .ref l7, .list [.str (reprT n fs), .str (strT n fs), .int fs.length, .bool (fs.length != 0)], .list [.str (reprT n fs), .str (strT n fs), .int xs9.length, .bool (!pdEqs (fs.map fD) [])], rfl, .lst (SqL.of upd_same) (.cons (.str _) (.cons (.str _) (.cons (.int _) (.cons (.bl _) .nil)))), .lst (SqL.of (Same.new hl8 _ _ (s14 _ _ hd13))) (.cons (.str _) (.cons (.str _) (.cons (.int _) (.cons (.bl _) .nil)))), by simp [pdDep, pdDeps], by simp [pdMax, pdMaxs], by simp [pdDep, pdDeps], fun bb H15 hbb s15 => ⟨bb, rfl, ?_⟩⟩
      rw [hbb.mpr (by rw [pl9, truth_eq])]
      refine ifF rfl ?_
      have S15 : Same H13 H15 := s14.trans ((Same.new hl8).trans s15)
      have ka15 := ka13.same S15
      have fa15 := fa13.tk (fun _ _ z => S15 _ _ z)
      have D15 := D13.mono S15
      clear S15 s15 s14 hl8 hbb ka13 fa13 D13 hd13 ho13 pl9
      obtain ⟨xs15, ha15, pf15⟩ := fa15.tp
      -- other things
      refine ⟨_, rfl, _, rfl, z2, fun t1 ht1 => ⟨_, rfl, z0, fun l0 hl0 => ?_⟩⟩
      have S17 : Same H15 (upd (upd H15 t1 (.tup [.str n, .ref a])) l0 (.lst [])) := (Same.new ht1).trans (Same.new hl0)
      have ka17 := ka15.same S17
      obtain ⟨dx17, ho17⟩ := ka17.ob
      refine ⟨_, rfl, x, dx17, _, rfl, ho17, x, a, n, fs, rfl, ka17, hn, hl, hok, _, rfl, z6, fun t2 ht2 => ?_⟩
      have S18 := S17.trans (Same.new (o := .tup [.ref t1, .str n, .non, .int 0, .ref l0, .str (reprT n fs)]) ht2)
      have ka18 := ka15.same S18
      have D18 := D15.mono S18
      have fa18 := fa15.tk (fun _ _ z => S18 _ _ z)
      have all6 : ∀ v ∈ ([.ref t1, .str n, .non, .int 0, .ref l0, .str (reprT n fs)] : List V), ∃ d, Rep K (upd (upd (upd H15 t1 (.tup [.str n, .ref a])) l0 (.lst [])) t2 (.tup [.ref t1, .str n, .non, .int 0, .ref l0, .str (reprT n fs)])) v d ∧ KTy K C (tyD d) := by
        intro v hv
        simp only [List.mem_cons, List.not_mem_nil, or_false] at hv
        rcases hv with rfl | rfl | rfl | rfl | rfl | rfl
        · exact ⟨.tuple [.str n, fsD fs], .tup (SqT.of (Same.new ht2 _ _ (Same.new hl0 _ _ upd_same))) (.cons (.str _) (.cons (.tup (SqT.of (S18 _ _ ha15)) (flds_reps (flds_tk pf15 fun _ _ z => S18 _ _ z))) .nil)), KF.tT⟩
        · exact ⟨.str n, .str _, KF.tS⟩
        · exact ⟨.none, .non, KF.tN⟩
        · exact ⟨.int 0, .int _, KF.tI⟩
        · exact ⟨.list [], .lst (SqL.of (Same.new ht2 _ _ upd_same)) .nil, KF.tL⟩
        · exact ⟨.str (reprT n fs), .str _, KF.tS⟩
      have ht2' : (upd (upd (upd H15 t1 (.tup [.str n, .ref a])) l0 (.lst [])) t2 (.tup [.ref t1, .str n, .non, .int 0, .ref l0, .str (reprT n fs)])) t2 = some (.tup [.ref t1, .str n, .non, .int 0, .ref l0, .str (reprT n fs)]) := upd_same
      generalize (upd (upd (upd H15 t1 (.tup [.str n, .ref a])) l0 (.lst [])) t2 (.tup [.ref t1, .str n, .non, .int 0, .ref l0, .str (reprT n fs)])) = H18 at S18 ka18 D18 fa18 all6 ht2' ⊢
      refine ⟨t2, rfl, ⟨_, SqT.of ht2'⟩, comp_tup (xs := [.ref t1, .str n, .non, .int 0, .ref l0, .str (reprT n fs)]) (fun i ys σ H' => ys = (List.replicate i false).map V.bl ∧ (∃ u, σ = [u, some (.ref x)]) ∧ H' = H18) z6 ⟨rfl, ⟨_, rfl⟩, rfl⟩ (fun i ys σ H' _ z => by rw [z.2.2]; exact SqT.of ht2') ?_ ?_⟩
      · rintro i v ys σ H' hv hys ⟨rfl, ⟨u, rfl⟩, rfl⟩ N hN
        obtain ⟨d, hd, kt⟩ := all6 v (List.mem_of_getElem? hv)
        refine ⟨_, rfl, _, rfl, odd_read kt ka18 hd (hN _ _ _ (by simpa using hys) ⟨?_, ⟨_, rfl⟩, rfl⟩)⟩
        rw [List.replicate_succ', List.map_append]
        rfl
      rintro ys σ H' hys ⟨rfl, _, rfl⟩
      refine ⟨z6, fun l9 hl9 => ⟨l9, List.replicate 6 false, rfl, SqL.of upd_same, _, rfl, ifF rfl ?_⟩⟩
      have ka19 := ka18.same (Same.new (o := .lst ((List.replicate 6 false).map V.bl)) hl9)
      have D19 := D18.mono (Same.new (o := .lst ((List.replicate 6 false).map V.bl)) hl9)
      have fa19 := fa18.tk (TK.new (o := .lst ((List.replicate 6 false).map V.bl)) hl9)
      clear ka18 D18 fa18 S18 S17 all6 ht2' ka17 ho17 ka15 fa15 D15 ha15 pf15
      -- strange
      refine ⟨_, rfl, p, dc, rfl, D19, fun sg H20 hsg D20 b20 => ?_⟩
      have ka20 := ka19.but D19 b20
      have fa20 := fa19.tk (TK.but D19 b20)
      obtain ⟨xs20, ha20, pf20⟩ := fa20.tp
      refine ⟨_, rfl, a, rfl, ⟨xs20, SqT.of ha20⟩, comp_flds ha20 pf20 (by omega) rfl (fun f => .str f.1) (fun f _ Q q => ⟨_, rfl, q⟩) ⟨by rw [List.length_map]; omega, fun l10 hl10 => ?_⟩⟩
      have S21 : Same H20 (upd H20 l10 (.lst (fs.map fun f => V.str f.1))) := Same.new hl10
      have ka21 := ka20.same S21
      have D21 := D20.mono S21
      have ha21 := S21 _ _ ha20
      have pf21 : Paired (FldAt (upd H20 l10 (.lst (fs.map fun f => V.str f.1)))) xs20 fs := flds_tk pf20 fun _ _ z => S21 _ _ z
      have hq21 : (upd H20 l10 (.lst (fs.map fun f => V.str f.1))) l10 = some (.lst ((fs.map (·.1)).map V.str)) := by rw [upd_same, List.map_map]; rfl
      generalize (upd H20 l10 (.lst (fs.map fun f => V.str f.1))) = H21 at S21 ka21 D21 ha21 pf21 hq21 ⊢
      clear S21 ka20 D20 fa20 ha20 pf20 ka19 D19 fa19
      obtain ⟨dx21, ho21⟩ := ka21.ob
      refine ⟨_, rfl, _, rfl, l10, _, rfl, .inl (SqL.of hq21), rfl, ?_, _, rfl, ?_⟩
      · rw [List.all_eq_true]
        intro v hv
        obtain ⟨y', _, rfl⟩ := List.mem_map.mp hv
        rfl
      have hinV : inV (.str sg) ((fs.map (·.1)).map V.str) = decide (sg ∈ fs.map (·.1)) := by
        unfold inV
        rw [List.any_map, Bool.eq_iff_iff, List.any_eq_true, decide_eq_true_eq]
        constructor
        · rintro ⟨z, hz, e⟩
          have : z = sg := by simpa [eqV] using e
          exact this ▸ hz
        · intro hz
          exact ⟨sg, hz, by simp [eqV]⟩
      by_cases hm : sg ∈ fs.map (·.1)
      · refine ifT (by show inV _ _ = true; rw [hinV]; exact decide_eq_true hm) ⟨_, rfl, .inl ⟨rfl, _, SqL.of hq21⟩, _, rfl, l10, sg, fs.map (·.1), rfl, rfl, SqL.of hq21, hm, ?_⟩
        have hpv : placeV fs sg = .int ((fs.map (·.1)).idxOf sg : Nat) := if_pos hm
        refine ⟨_, rfl, x, dx21, _, rfl, ho21, kf_no n a (by decide) (by decide), _, rfl, x, a, n, sg, fs, rfl, ka21, hl, fun H22 s22 => ?_⟩
        rw [hpv]
        refine ⟨_, rfl, _, _, .int ((fs.map (·.1)).idxOf sg : Nat), .int ((fs.map (·.1)).idxOf sg : Nat), rfl, .int _, .int _, by simp [pdDep], by simp [pdMax], by simp [pdDep], fun bb H23 hbb s23 => ⟨bb, rfl, ?_⟩⟩
        rw [hbb.mpr rfl]
        have S23 := s22.trans s23
        refine ifF rfl ⟨_, rfl, _, rfl, x, a, a, n, fs, xs20, rfl, ka21.same S23, S23 _ _ ha21, flds_tk pf21 fun _ _ z => S23 _ _ z, hl, hok, nd, fun H24 s24 => ⟨true, rfl, ifF rfl ⟨⟨_, _, _, _, _, _, _, _, _, _, rfl⟩, D21.mono (S23.trans s24)⟩⟩⟩
      · refine ifF (by show inV _ _ = false; rw [hinV]; exact decide_eq_false hm) ?_
        have hpv : placeV fs sg = .non := if_neg hm
        refine ⟨_, rfl, x, dx21, _, rfl, ho21, kf_no n a (by decide) (by decide), _, rfl, x, a, n, sg, fs, rfl, ka21, hl, fun H22 s22 => ?_⟩
        rw [hpv]
        refine ⟨_, rfl, _, _, .none, .none, rfl, .non, .non, by simp [pdDep], by simp [pdMax], by simp [pdDep], fun bb H23 hbb s23 => ⟨bb, rfl, ?_⟩⟩
        rw [hbb.mpr rfl]
        have S23 := s22.trans s23
        refine ifF rfl ⟨_, rfl, _, rfl, x, a, a, n, fs, xs20, rfl, ka21.same S23, S23 _ _ ha21, flds_tk pf21 fun _ _ z => S23 _ _ z, hl, hok, nd, fun H24 s24 => ⟨true, rfl, ifF rfl ⟨⟨_, _, _, _, _, _, _, _, _, _, rfl⟩, D21.mono (S23.trans s24)⟩⟩⟩
    · rintro σ H' ⟨⟨u2, u3, u4, u5, u6, u7, u8, u9, u10, u11, rfl⟩, D1⟩
      exact k _
end
end Cm

set_option Elab.async false
set_option linter.all false
set_option maxRecDepth 100000
set_option maxHeartbeats 8000000
namespace Cm
open PySem L2
/-! ### what the top has written -/
theorem all_mk {l : PySem.W.OpenLaw} {w : World} {K : PySem.W.Frag} {h : Heap} {mg : Str → Option Value} {fa C Td fB fP fO fW fWs fBd fF fS fK fSh fTo fI fN fNF fBT fLa fLo fCe fPl fE fLe fSt fRe fIn : Addr} (X : K.In h) (G : h.Ns mainGlobals mg) (hfa : mg "law" = some (.ref fa))
    {odT odB anB odP anP odO anO odW anW odWs anWs odBd anBd odF anF odS anS odK anK odSh anSh odTo anTo odI anI odN anN odNF anNF odBT anBT odLa anLa odLo anLo odCe anCe odPl anPl odE anE odLe anLe odSt anSt odRe anRe odIn anIn : Option Addr} {slT slB slP slO slW slWs slBd slF slS slK slSh slTo slI slN slNF slBT slLa slLo slCe slPl slE slLe slSt slRe slIn : Array (Option Value)} {t1 t2 t3 : Tok} {nT : Nat} {d0 ocT ocB kVB dcB pmB cdB ctB ocP kVP dcP pmP cdP ctP ocO kVO dcO pmO cdO ctO ocW kVW dcW pmW cdW ctW ocWs kVWs dcWs pmWs cdWs ctWs ocBd kVBd dcBd pmBd cdBd ctBd ocF kVF dcF pmF cdF ctF ocS kVS dcS pmS cdS ctS ocK kVK dcK pmK cdK ctK ocSh kVSh dcSh pmSh cdSh ctSh ocTo kVTo dcTo pmTo cdTo ctTo ocI kVI dcI pmI cdI ctI ocN kVN dcN pmN cdN ctN ocNF kVNF dcNF pmNF cdNF ctNF ocBT kVBT dcBT pmBT cdBT ctBT ocLa kVLa dcLa pmLa cdLa ctLa ocLo kVLo dcLo pmLo cdLo ctLo ocCe kVCe dcCe pmCe cdCe ctCe ocPl kVPl dcPl pmPl cdPl ctPl ocE kVE dcE pmE cdE ctE ocLe kVLe dcLe pmLe cdLe ctLe ocSt kVSt dcSt pmSt cdSt ctSt ocRe kVRe dcRe pmRe cdRe ctRe ocIn kVIn dcIn pmIn cdIn ctIn : Value}
    (aC : PySem.W.nsIn K mainGlobals "Kind" = some (some (.ref C)))
    (aB : PySem.W.nsIn K mainGlobals "_law_begin" = some (some (.ref fB)))
    (lB : K.lookup fB = some ⟨ocB, odB, .func (PySem.W.fnOf "_law_begin" "_law_begin" (defArgs (top 17)) (defBody (top 17)) (defScope (top 17)) .none kVB dcB pmB anB cdB ctB), slB⟩)
    (cB : PySem.W.codeIn K cdB "_law_begin" = true)
    (kB : PySem.W.keepIn K (.ref fB) = true)
    (aP : PySem.W.nsIn K mainGlobals "_law_pick" = some (some (.ref fP)))
    (lP : K.lookup fP = some ⟨ocP, odP, .func (PySem.W.fnOf "_law_pick" "_law_pick" (defArgs (top 18)) (defBody (top 18)) (defScope (top 18)) .none kVP dcP pmP anP cdP ctP), slP⟩)
    (cP : PySem.W.codeIn K cdP "_law_pick" = true)
    (kP : PySem.W.keepIn K (.ref fP) = true)
    (aO : PySem.W.nsIn K mainGlobals "_law_of" = some (some (.ref fO)))
    (lO : K.lookup fO = some ⟨ocO, odO, .func (PySem.W.fnOf "_law_of" "_law_of" (defArgs (top 19)) (defBody (top 19)) (defScope (top 19)) .none kVO dcO pmO anO cdO ctO), slO⟩)
    (cO : PySem.W.codeIn K cdO "_law_of" = true)
    (kO : PySem.W.keepIn K (.ref fO) = true)
    (aW : PySem.W.nsIn K mainGlobals "_law_word" = some (some (.ref fW)))
    (lW : K.lookup fW = some ⟨ocW, odW, .func (PySem.W.fnOf "_law_word" "_law_word" (defArgs (top 21)) (defBody (top 21)) (defScope (top 21)) .none kVW dcW pmW anW cdW ctW), slW⟩)
    (cW : PySem.W.codeIn K cdW "_law_word" = true)
    (kW : PySem.W.keepIn K (.ref fW) = true)
    (aWs : PySem.W.nsIn K mainGlobals "_law_words" = some (some (.ref fWs)))
    (lWs : K.lookup fWs = some ⟨ocWs, odWs, .func (PySem.W.fnOf "_law_words" "_law_words" (defArgs (top 22)) (defBody (top 22)) (defScope (top 22)) .none kVWs dcWs pmWs anWs cdWs ctWs), slWs⟩)
    (cWs : PySem.W.codeIn K cdWs "_law_words" = true)
    (kWs : PySem.W.keepIn K (.ref fWs) = true)
    (aBd : PySem.W.nsIn K mainGlobals "_law_bound" = some (some (.ref fBd)))
    (lBd : K.lookup fBd = some ⟨ocBd, odBd, .func (PySem.W.fnOf "_law_bound" "_law_bound" (defArgs (top 23)) (defBody (top 23)) (defScope (top 23)) .none kVBd dcBd pmBd anBd cdBd ctBd), slBd⟩)
    (cBd : PySem.W.codeIn K cdBd "_law_bound" = true)
    (kBd : PySem.W.keepIn K (.ref fBd) = true)
    (aF : PySem.W.nsIn K mainGlobals "_law_fields" = some (some (.ref fF)))
    (lF : K.lookup fF = some ⟨ocF, odF, .func (PySem.W.fnOf "_law_fields" "_law_fields" (defArgs (top 24)) (defBody (top 24)) (defScope (top 24)) .none kVF dcF pmF anF cdF ctF), slF⟩)
    (cF : PySem.W.codeIn K cdF "_law_fields" = true)
    (kF : PySem.W.keepIn K (.ref fF) = true)
    (aS : PySem.W.nsIn K mainGlobals "_law_same" = some (some (.ref fS)))
    (lS : K.lookup fS = some ⟨ocS, odS, .func (PySem.W.fnOf "_law_same" "_law_same" (defArgs (top 20)) (defBody (top 20)) (defScope (top 20)) .none kVS dcS pmS anS cdS ctS), slS⟩)
    (cS : PySem.W.codeIn K cdS "_law_same" = true)
    (kS : PySem.W.keepIn K (.ref fS) = true)
    (aK : PySem.W.nsIn K mainGlobals "_law_other_kind" = some (some (.ref fK)))
    (lK : K.lookup fK = some ⟨ocK, odK, .func (PySem.W.fnOf "_law_other_kind" "_law_other_kind" (defArgs (top 26)) (defBody (top 26)) (defScope (top 26)) .none kVK dcK pmK anK cdK ctK), slK⟩)
    (cK : PySem.W.codeIn K cdK "_law_other_kind" = true)
    (kK : PySem.W.keepIn K (.ref fK) = true)
    (aSh : PySem.W.nsIn K mainGlobals "_law_kind_shown" = some (some (.ref fSh)))
    (lSh : K.lookup fSh = some ⟨ocSh, odSh, .func (PySem.W.fnOf "_law_kind_shown" "_law_kind_shown" (defArgs (top 27)) (defBody (top 27)) (defScope (top 27)) .none kVSh dcSh pmSh anSh cdSh ctSh), slSh⟩)
    (cSh : PySem.W.codeIn K cdSh "_law_kind_shown" = true)
    (kSh : PySem.W.keepIn K (.ref fSh) = true)
    (aTo : PySem.W.nsIn K mainGlobals "_law_told_of" = some (some (.ref fTo)))
    (lTo : K.lookup fTo = some ⟨ocTo, odTo, .func (PySem.W.fnOf "_law_told_of" "_law_told_of" (defArgs (top 25)) (defBody (top 25)) (defScope (top 25)) .none kVTo dcTo pmTo anTo cdTo ctTo), slTo⟩)
    (cTo : PySem.W.codeIn K cdTo "_law_told_of" = true)
    (kTo : PySem.W.keepIn K (.ref fTo) = true)
    (aI : PySem.W.nsIn K mainGlobals "is_name" = some (some (.ref fI)))
    (lI : K.lookup fI = some ⟨ocI, odI, .func (PySem.W.fnOf "is_name" "is_name" (defArgs (top 11)) (defBody (top 11)) (defScope (top 11)) .none kVI dcI pmI anI cdI ctI), slI⟩)
    (cI : PySem.W.codeIn K cdI "is_name" = true)
    (kI : PySem.W.keepIn K (.ref fI) = true)
    (aN : PySem.W.nsIn K mainGlobals "need_name" = some (some (.ref fN)))
    (lN : K.lookup fN = some ⟨ocN, odN, .func (PySem.W.fnOf "need_name" "need_name" (defArgs (top 12)) (defBody (top 12)) (defScope (top 12)) .none kVN dcN pmN anN cdN ctN), slN⟩)
    (cN : PySem.W.codeIn K cdN "need_name" = true)
    (kN : PySem.W.keepIn K (.ref fN) = true)
    (aNF : PySem.W.nsIn K mainGlobals "need_fields" = some (some (.ref fNF)))
    (lNF : K.lookup fNF = some ⟨ocNF, odNF, .func (PySem.W.fnOf "need_fields" "need_fields" (defArgs (top 13)) (defBody (top 13)) (defScope (top 13)) .none kVNF dcNF pmNF anNF cdNF ctNF), slNF⟩)
    (cNF : PySem.W.codeIn K cdNF "need_fields" = true)
    (kNF : PySem.W.keepIn K (.ref fNF) = true)
    (aBT : PySem.W.nsIn K mainGlobals "bounds_text" = some (some (.ref fBT)))
    (lBT : K.lookup fBT = some ⟨ocBT, odBT, .func (PySem.W.fnOf "bounds_text" "bounds_text" (defArgs (top 14)) (defBody (top 14)) (defScope (top 14)) .none kVBT dcBT pmBT anBT cdBT ctBT), slBT⟩)
    (cBT : PySem.W.codeIn K cdBT "bounds_text" = true)
    (kBT : PySem.W.keepIn K (.ref fBT) = true)
    (aLa : PySem.W.nsIn K mainGlobals "law" = some (some (.ref fLa)))
    (lLa : K.lookup fLa = some ⟨ocLa, odLa, .func (PySem.W.fnOf "law" "law" (defArgs (top 28)) (defBody (top 28)) (defScope (top 28)) .none kVLa dcLa pmLa anLa cdLa ctLa), slLa⟩)
    (cLa : PySem.W.codeIn K cdLa "law" = true)
    (kLa : PySem.W.keepIn K (.ref fLa) = true)
    (aLo : PySem.W.findIn K (.ref C) "lowest" = some (some (.ref fLo)))
    (iLo : PySem.W.isFn K (.ref fLo) = true)
    (lLo : K.lookup fLo = some ⟨ocLo, odLo, .func (PySem.W.fnOf "lowest" "Kind.lowest" (defArgs (kM 1)) (defBody (kM 1)) (defScope (kM 1)) .none kVLo dcLo pmLo anLo cdLo ctLo), slLo⟩)
    (cLo : PySem.W.codeIn K cdLo "Kind.lowest" = true)
    (kLo : PySem.W.keepIn K (.ref fLo) = true)
    (aCe : PySem.W.findIn K (.ref C) "cells" = some (some (.ref fCe)))
    (iCe : PySem.W.isFn K (.ref fCe) = true)
    (lCe : K.lookup fCe = some ⟨ocCe, odCe, .func (PySem.W.fnOf "cells" "Kind.cells" (defArgs (kM 2)) (defBody (kM 2)) (defScope (kM 2)) .none kVCe dcCe pmCe anCe cdCe ctCe), slCe⟩)
    (cCe : PySem.W.codeIn K cdCe "Kind.cells" = true)
    (kCe : PySem.W.keepIn K (.ref fCe) = true)
    (aPl : PySem.W.findIn K (.ref C) "place_of" = some (some (.ref fPl)))
    (iPl : PySem.W.isFn K (.ref fPl) = true)
    (lPl : K.lookup fPl = some ⟨ocPl, odPl, .func (PySem.W.fnOf "place_of" "Kind.place_of" (defArgs (kM 3)) (defBody (kM 3)) (defScope (kM 3)) .none kVPl dcPl pmPl anPl cdPl ctPl), slPl⟩)
    (cPl : PySem.W.codeIn K cdPl "Kind.place_of" = true)
    (kPl : PySem.W.keepIn K (.ref fPl) = true)
    (aE : PySem.W.findIn K (.ref C) "__eq__" = some (some (.ref fE)))
    (iE : PySem.W.isFn K (.ref fE) = true)
    (lE : K.lookup fE = some ⟨ocE, odE, .func (PySem.W.fnOf "__eq__" "Kind.__eq__" (defArgs (kM 5)) (defBody (kM 5)) (defScope (kM 5)) .none kVE dcE pmE anE cdE ctE), slE⟩)
    (cE : PySem.W.codeIn K cdE "Kind.__eq__" = true)
    (kE : PySem.W.keepIn K (.ref fE) = true)
    (aLe : PySem.W.findIn K (.ref C) "__len__" = some (some (.ref fLe)))
    (iLe : PySem.W.isFn K (.ref fLe) = true)
    (lLe : K.lookup fLe = some ⟨ocLe, odLe, .func (PySem.W.fnOf "__len__" "Kind.__len__" (defArgs (kM 6)) (defBody (kM 6)) (defScope (kM 6)) .none kVLe dcLe pmLe anLe cdLe ctLe), slLe⟩)
    (cLe : PySem.W.codeIn K cdLe "Kind.__len__" = true)
    (kLe : PySem.W.keepIn K (.ref fLe) = true)
    (aSt : PySem.W.findIn K (.ref C) "__str__" = some (some (.ref fSt)))
    (iSt : PySem.W.isFn K (.ref fSt) = true)
    (lSt : K.lookup fSt = some ⟨ocSt, odSt, .func (PySem.W.fnOf "__str__" "Kind.__str__" (defArgs (kM 7)) (defBody (kM 7)) (defScope (kM 7)) .none kVSt dcSt pmSt anSt cdSt ctSt), slSt⟩)
    (cSt : PySem.W.codeIn K cdSt "Kind.__str__" = true)
    (kSt : PySem.W.keepIn K (.ref fSt) = true)
    (aRe : PySem.W.findIn K (.ref C) "__repr__" = some (some (.ref fRe)))
    (iRe : PySem.W.isFn K (.ref fRe) = true)
    (lRe : K.lookup fRe = some ⟨ocRe, odRe, .func (PySem.W.fnOf "__repr__" "Kind.__repr__" (defArgs (kM 8)) (defBody (kM 8)) (defScope (kM 8)) .none kVRe dcRe pmRe anRe cdRe ctRe), slRe⟩)
    (cRe : PySem.W.codeIn K cdRe "Kind.__repr__" = true)
    (kRe : PySem.W.keepIn K (.ref fRe) = true)
    (aIn : PySem.W.findIn K (.ref C) "__init__" = some (some (.ref fIn)))
    (iIn : PySem.W.isFn K (.ref fIn) = true)
    (lIn : K.lookup fIn = some ⟨ocIn, odIn, .func (PySem.W.fnOf "__init__" "Kind.__init__" (defArgs sInit) (defBody sInit) (defScope sInit) (.ref Td) kVIn dcIn pmIn anIn cdIn ctIn), slIn⟩)
    (cIn : PySem.W.codeIn K cdIn "Kind.__init__" = true)
    (kIn : PySem.W.keepIn K (.ref fIn) = true)
    (lTd : K.lookup Td = some ⟨ocT, odT, .seq #[d0] nT, slT⟩)
    (pg : PySem.W.plainGet K C Str.empty = true)
    (hd : PySem.W.hasDictIn K C = true)
    (po : PySem.W.plainOver K C = true)
    (sa : PySem.W.findIn K (.ref C) "__setattr__" = some (some (.builtin "object.__setattr__")))
    (mk : PySem.W.makesIn K C = true)
    (kc : PySem.W.keepIn K (.ref C) = true)
    (nN : PySem.W.findIn K (.ref C) "name" = some none)
    (nF : PySem.W.findIn K (.ref C) "fields" = some none)
    (z_len : PySem.W.nsIn K mainGlobals "len" = some none)
    (z_range : PySem.W.nsIn K mainGlobals "range" = some none)
    (z_list : PySem.W.nsIn K mainGlobals "list" = some none)
    (z_tuple : PySem.W.nsIn K mainGlobals "tuple" = some none)
    (z_str : PySem.W.nsIn K mainGlobals "str" = some none)
    (z_bool : PySem.W.nsIn K mainGlobals "bool" = some none)
    (z_int : PySem.W.nsIn K mainGlobals "int" = some none)
    (z_min : PySem.W.nsIn K mainGlobals "min" = some none)
    (z_repr : PySem.W.nsIn K mainGlobals "repr" = some none)
    (z_all : PySem.W.nsIn K mainGlobals "all" = some none)
    (z_any : PySem.W.nsIn K mainGlobals "any" = some none)
    (z_isinstance : PySem.W.nsIn K mainGlobals "isinstance" = some none)
    (z_enumerate : PySem.W.nsIn K mainGlobals "enumerate" = some none)
    (m1 : PySem.W.nsIn K mainGlobals "MOST_LETTERS" = some (some (.int 8 t1)))
    (m2 : PySem.W.nsIn K mainGlobals "MOST_FIELDS" = some (some (.int 4 t2)))
    (m3 : PySem.W.nsIn K mainGlobals "LIMIT" = some (some (.int 999999 t3)))
    (q1 : PySem.W.findIn K (.ref C) "__ne__" = some (some (.builtin "object.__ne__")))
    (q2 : PySem.W.findIn K (.ref C) "__bool__" = some none)
    (q3 : PySem.W.findIn K (.ref C) "__class__" = some (some (.builtin "object.__class__")))
    (q4 : PySem.W.specialIn K (.builtin "object.__class__") "__get__" = some (some (.builtin "getset_descriptor.__get__")))
    (q5 : PySem.W.takesIn K (.builtin "object.__class__") = some true)
    (q6 : PySem.W.mroIn K C (.type "object") = some true)
    (q7 : PySem.W.kitOne K (.ref C) (.ref C) = some true)
    (q8 : PySem.W.notFirst K C (.ref C) = true)
    (k_tuple : PySem.W.kitOne K (.type "tuple") (.ref C) = some false)
    (n_tuple : PySem.W.notFirst K C (.type "tuple") = true)
    (k_str : PySem.W.kitOne K (.type "str") (.ref C) = some false)
    (n_str : PySem.W.notFirst K C (.type "str") = true)
    (k_NoneType : PySem.W.kitOne K (.type "NoneType") (.ref C) = some false)
    (n_NoneType : PySem.W.notFirst K C (.type "NoneType") = true)
    (k_int : PySem.W.kitOne K (.type "int") (.ref C) = some false)
    (n_int : PySem.W.notFirst K C (.type "int") = true)
    (k_list : PySem.W.kitOne K (.type "list") (.ref C) = some false)
    (n_list : PySem.W.notFirst K C (.type "list") = true) :
    ∃ fd : FuncData, (∀ (s : Shared) (v : Value), BindsTo s fd ⟨[v], []⟩ [("_law_script", v)]) ∧ ∀ base : Heap, K.In base → base.Ns mainGlobals mg → FnOk l.prog w K mg base CX0 8 fa fd ["_law_script"] (spLaw K) := by
  have e := hfa.symm.trans (PySem.W.mg_of X G aLa)
  cases e
  have T : Txt K mg := ⟨PySem.W.mg_none_of X G z_len, PySem.W.mg_none_of X G z_range, PySem.W.mg_none_of X G z_list, PySem.W.mg_none_of X G z_tuple, PySem.W.mg_none_of X G z_str, PySem.W.mg_none_of X G z_bool, PySem.W.mg_none_of X G z_int, PySem.W.mg_none_of X G z_min, PySem.W.mg_none_of X G z_repr, PySem.W.mg_none_of X G z_all, PySem.W.mg_none_of X G z_any, PySem.W.mg_none_of X G z_isinstance⟩
  have hen := PySem.W.mg_none_of X G z_enumerate
  have TK' : TxtK mg := ⟨⟨_, PySem.W.mg_of X G m1⟩, ⟨_, PySem.W.mg_of X G m2⟩, ⟨_, PySem.W.mg_of X G m3⟩⟩
  have KC : KCls K mg C := ⟨⟨pg, hd, po, sa⟩, nN, nF, PySem.W.mg_of X G aC⟩
  have KF : KFacts K C := ⟨q1, q2, ⟨q3, q4, q5, q6⟩, q7, q8, ⟨k_tuple, n_tuple⟩, ⟨k_str, n_str⟩, ⟨k_NoneType, n_NoneType⟩, ⟨k_int, n_int⟩, ⟨k_list, n_list⟩⟩
  have FB := fun_mk (st := top 17) lB cB kB
  have bB := FB.binds (ps := ["_law_script"]) fun _ _ _ _ _ _ us hl => match us, hl with | [_], _ => rfl
  have FP := fun_mk (st := top 18) lP cP kP
  have bP := FP.binds (ps := ["_law_d", "_law_many"]) fun _ _ _ _ _ _ us hl => match us, hl with | [_, _], _ => rfl
  have FO := fun_mk (st := top 19) lO cO kO
  have bO := FO.binds (ps := ["_law_d", "_law_things"]) fun _ _ _ _ _ _ us hl => match us, hl with | [_, _], _ => rfl
  have FW := fun_mk (st := top 21) lW cW kW
  have bW := FW.binds (ps := ["_law_d"]) fun _ _ _ _ _ _ us hl => match us, hl with | [_], _ => rfl
  have FWs := fun_mk (st := top 22) lWs cWs kWs
  have bWs := FWs.binds (ps := ["_law_d", "_law_many"]) fun _ _ _ _ _ _ us hl => match us, hl with | [_, _], _ => rfl
  have FBd := fun_mk (st := top 23) lBd cBd kBd
  have bBd := FBd.binds (ps := ["_law_d"]) fun _ _ _ _ _ _ us hl => match us, hl with | [_], _ => rfl
  have FF := fun_mk (st := top 24) lF cF kF
  have bF := FF.binds (ps := ["_law_d", "_law_many"]) fun _ _ _ _ _ _ us hl => match us, hl with | [_, _], _ => rfl
  have FS := fun_mk (st := top 20) lS cS kS
  have bS := FS.binds (ps := ["_law_found", "_law_due"]) fun _ _ _ _ _ _ us hl => match us, hl with | [_, _], _ => rfl
  have FK := fun_mk (st := top 26) lK cK kK
  have bK := FK.binds (ps := ["_law_d", "_law_some", "_law_fields_here"]) fun _ _ _ _ _ _ us hl => match us, hl with | [_, _, _], _ => rfl
  have FSh := fun_mk (st := top 27) lSh cSh kSh
  have bSh := FSh.binds (ps := ["_law_some", "_law_fields_here"]) fun _ _ _ _ _ _ us hl => match us, hl with | [_, _], _ => rfl
  have FTo := fun_mk (st := top 25) lTo cTo kTo
  have bTo := FTo.binds (ps := ["_law_kind", "_law_fields_here"]) fun _ _ _ _ _ _ us hl => match us, hl with | [_, _], _ => rfl
  have FI := fun_mk (st := top 11) lI cI kI
  have bI := FI.binds (ps := ["text"]) fun _ _ _ _ _ _ us hl => match us, hl with | [_], _ => rfl
  have FN := fun_mk (st := top 12) lN cN kN
  have bN := FN.binds (ps := ["text"]) fun _ _ _ _ _ _ us hl => match us, hl with | [_], _ => rfl
  have FNF := fun_mk (st := top 13) lNF cNF kNF
  have bNF := FNF.binds (ps := ["fields"]) fun _ _ _ _ _ _ us hl => match us, hl with | [_], _ => rfl
  have FBT := fun_mk (st := top 14) lBT cBT kBT
  have bBT := FBT.binds (ps := ["fields"]) fun _ _ _ _ _ _ us hl => match us, hl with | [_], _ => rfl
  have FLa := fun_mk (st := top 28) lLa cLa kLa
  have FLo := fun_mk (st := kM 1) lLo cLo kLo
  have bLo := FLo.binds (ps := ["self"]) fun _ _ _ _ _ _ us hl => match us, hl with | [_], _ => rfl
  have FCe := fun_mk (st := kM 2) lCe cCe kCe
  have bCe := FCe.binds (ps := ["self"]) fun _ _ _ _ _ _ us hl => match us, hl with | [_], _ => rfl
  have FPl := fun_mk (st := kM 3) lPl cPl kPl
  have bPl := FPl.binds (ps := ["self", "field"]) fun _ _ _ _ _ _ us hl => match us, hl with | [_, _], _ => rfl
  have FE := fun_mk (st := kM 5) lE cE kE
  have bE := FE.binds (ps := ["self", "other"]) fun _ _ _ _ _ _ us hl => match us, hl with | [_, _], _ => rfl
  have FLe := fun_mk (st := kM 6) lLe cLe kLe
  have bLe := FLe.binds (ps := ["self"]) fun _ _ _ _ _ _ us hl => match us, hl with | [_], _ => rfl
  have FSt := fun_mk (st := kM 7) lSt cSt kSt
  have bSt := FSt.binds (ps := ["self"]) fun _ _ _ _ _ _ us hl => match us, hl with | [_], _ => rfl
  have FRe := fun_mk (st := kM 8) lRe cRe kRe
  have bRe := FRe.binds (ps := ["self"]) fun _ _ _ _ _ _ us hl => match us, hl with | [_], _ => rfl
  have FIn : FunD K "__init__" "Kind.__init__" sInit (.ref Td) fIn (PySem.W.fnOf "__init__" "Kind.__init__" (defArgs sInit) (defBody sInit) (defScope sInit) (.ref Td) kVIn dcIn pmIn anIn cdIn ctIn) := ⟨⟨_, _, _, _, _, _, _, _, _, rfl, lIn, cIn⟩, kIn⟩
  have bIn := FIn.binds (ps := ["self", "name", "fields"]) (ds := []) lTd rfl fun kV doc pm an cdv ct s us hT hl => bindInit rfl kV doc pm an cdv ct s us hT hl
  exact ⟨PySem.W.fnOf "law" "law" (defArgs (top 28)) (defBody (top 28)) (defScope (top 28)) .none kVLa dcLa pmLa anLa cdLa ctLa, fun s v => .of_eq rfl, fun base _ _ => ok_law FLa T hen TK' KC KF ⟨mk, aIn, iIn, kc⟩ ⟨FB, PySem.W.mg_of X G aB, bB⟩ ⟨FP, PySem.W.mg_of X G aP, bP⟩ ⟨FO, PySem.W.mg_of X G aO, bO⟩ ⟨FW, PySem.W.mg_of X G aW, bW⟩ ⟨FWs, PySem.W.mg_of X G aWs, bWs⟩ ⟨FBd, PySem.W.mg_of X G aBd, bBd⟩ ⟨FF, PySem.W.mg_of X G aF, bF⟩ ⟨FS, PySem.W.mg_of X G aS, bS⟩ ⟨FK, PySem.W.mg_of X G aK, bK⟩ ⟨FSh, PySem.W.mg_of X G aSh, bSh⟩ ⟨FTo, PySem.W.mg_of X G aTo, bTo⟩ ⟨FI, PySem.W.mg_of X G aI, bI⟩ ⟨FN, PySem.W.mg_of X G aN, bN⟩ ⟨FNF, PySem.W.mg_of X G aNF, bNF⟩ ⟨FBT, PySem.W.mg_of X G aBT, bBT⟩ FIn bIn ⟨⟨aLo, iLo, kLo⟩, FLo, bLo⟩ ⟨⟨aCe, iCe, kCe⟩, FCe, bCe⟩ ⟨⟨aPl, iPl, kPl⟩, FPl, bPl⟩ ⟨⟨aE, iE, kE⟩, FE, bE⟩ ⟨⟨aLe, iLe, kLe⟩, FLe, bLe⟩ ⟨⟨aSt, iSt, kSt⟩, FSt, bSt⟩ ⟨⟨aRe, iRe, kRe⟩, FRe, bRe⟩⟩
theorem walk {l : PySem.W.OpenLaw} {q : Program} {loose : List Str} {XP : (Str → Option Value) → Heap → Prop} {YP : World → Heap → Prop} {d : DefRec} {K : Params → PySem.W.Frag} (hn : l.most = some 63) (hdf : d.params.defaults = [])
    (hY : ∀ (w : World) (h : Heap), YP w h → (K w.params).In h)
    (F : ∀ (w : World) (mg : Str → Option Value) (fa : Addr) (h : Heap), (K w.params).In h → h.Ns mainGlobals mg → mg d.name = some (.ref fa) →
      ∃ fd : FuncData, (∀ (s : Shared) (u : Value), BindsTo s fd ⟨[u], []⟩ [("_law_script", u)]) ∧ ∀ base : Heap, (K w.params).In base → base.Ns mainGlobals mg → FnOk l.prog w (K w.params) mg base CX0 8 fa fd ["_law_script"] (spLaw (K w.params))) :
    PySem.W.WalkO q loose XP YP l.row.toRowW d [] (fun f vs => PySem.call f vs) :=
  L2.walk_of (n := 63) (k := 8) (x := "_law_script") (CX := fun _ => CX0) (sp := fun w => spLaw (K w.params)) hn (by decide) hdf ⟨rfl, by decide, by decide, rfl⟩ hY F (fun _ _ a ns hl _ hS => ⟨a, ns, rfl, hS, hl, fun _ => rfl⟩) fun _ _ _ _ _ z => z
end Cm
open PySem PySem.W PyProof.Rows
set_option maxRecDepth 100000 in
set_option maxHeartbeats 0 in
theorem PySem.Challenge.cw_lanescribe_k02_kinds_alike_and_shown_holds : PySem.Challenge.rw_lanescribe_k02_kinds_alike_and_shown.Holds := by
  w_on; o_law; k_head; (case hw => w_witness2)
  k_fill
  refine Cm.walk (l := PySem.Challenge.rw_lanescribe_k02_kinds_alike_and_shown) rfl rfl (fun w h Y => PySem.W.kIn_of Y) ?F
  case F =>
    intro w mg fa h KX G hmg
    refine' Cm.all_mk KX G hmg ?aC ?aB ?lB ?cB ?kB ?aP ?lP ?cP ?kP ?aO ?lO ?cO ?kO ?aW ?lW ?cW ?kW ?aWs ?lWs ?cWs ?kWs ?aBd ?lBd ?cBd ?kBd ?aF ?lF ?cF ?kF ?aS ?lS ?cS ?kS ?aK ?lK ?cK ?kK ?aSh ?lSh ?cSh ?kSh ?aTo ?lTo ?cTo ?kTo ?aI ?lI ?cI ?kI ?aN ?lN ?cN ?kN ?aNF ?lNF ?cNF ?kNF ?aBT ?lBT ?cBT ?kBT ?aLa ?lLa ?cLa ?kLa ?aLo ?iLo ?lLo ?cLo ?kLo ?aCe ?iCe ?lCe ?cCe ?kCe ?aPl ?iPl ?lPl ?cPl ?kPl ?aE ?iE ?lE ?cE ?kE ?aLe ?iLe ?lLe ?cLe ?kLe ?aSt ?iSt ?lSt ?cSt ?kSt ?aRe ?iRe ?lRe ?cRe ?kRe ?aIn ?iIn ?lIn ?cIn ?kIn ?lTd ?pg ?hd ?po ?sa ?mk ?kc ?nN ?nF ?z_len ?z_range ?z_list ?z_tuple ?z_str ?z_bool ?z_int ?z_min ?z_repr ?z_all ?z_any ?z_isinstance ?z_enumerate ?m1 ?m2 ?m3 ?q1 ?q2 ?q3 ?q4 ?q5 ?q6 ?q7 ?q8 ?k_tuple ?n_tuple ?k_str ?n_str ?k_NoneType ?n_NoneType ?k_int ?n_int ?k_list ?n_list
    (case aC => k_is)
    (case aB => k_is)
    (case lB => k_is)
    (case cB => k_is)
    (case kB => k_is)
    (case aP => k_is)
    (case lP => k_is)
    (case cP => k_is)
    (case kP => k_is)
    (case aO => k_is)
    (case lO => k_is)
    (case cO => k_is)
    (case kO => k_is)
    (case aW => k_is)
    (case lW => k_is)
    (case cW => k_is)
    (case kW => k_is)
    (case aWs => k_is)
    (case lWs => k_is)
    (case cWs => k_is)
    (case kWs => k_is)
    (case aBd => k_is)
    (case lBd => k_is)
    (case cBd => k_is)
    (case kBd => k_is)
    (case aF => k_is)
    (case lF => k_is)
    (case cF => k_is)
    (case kF => k_is)
    (case aS => k_is)
    (case lS => k_is)
    (case cS => k_is)
    (case kS => k_is)
    (case aK => k_is)
    (case lK => k_is)
    (case cK => k_is)
    (case kK => k_is)
    (case aSh => k_is)
    (case lSh => k_is)
    (case cSh => k_is)
    (case kSh => k_is)
    (case aTo => k_is)
    (case lTo => k_is)
    (case cTo => k_is)
    (case kTo => k_is)
    (case aI => k_is)
    (case lI => k_is)
    (case cI => k_is)
    (case kI => k_is)
    (case aN => k_is)
    (case lN => k_is)
    (case cN => k_is)
    (case kN => k_is)
    (case aNF => k_is)
    (case lNF => k_is)
    (case cNF => k_is)
    (case kNF => k_is)
    (case aBT => k_is)
    (case lBT => k_is)
    (case cBT => k_is)
    (case kBT => k_is)
    (case aLa => k_is)
    (case lLa => k_is)
    (case cLa => k_is)
    (case kLa => k_is)
    (case aLo => k_is)
    (case iLo => k_is)
    (case lLo => k_is)
    (case cLo => k_is)
    (case kLo => k_is)
    (case aCe => k_is)
    (case iCe => k_is)
    (case lCe => k_is)
    (case cCe => k_is)
    (case kCe => k_is)
    (case aPl => k_is)
    (case iPl => k_is)
    (case lPl => k_is)
    (case cPl => k_is)
    (case kPl => k_is)
    (case aE => k_is)
    (case iE => k_is)
    (case lE => k_is)
    (case cE => k_is)
    (case kE => k_is)
    (case aLe => k_is)
    (case iLe => k_is)
    (case lLe => k_is)
    (case cLe => k_is)
    (case kLe => k_is)
    (case aSt => k_is)
    (case iSt => k_is)
    (case lSt => k_is)
    (case cSt => k_is)
    (case kSt => k_is)
    (case aRe => k_is)
    (case iRe => k_is)
    (case lRe => k_is)
    (case cRe => k_is)
    (case kRe => k_is)
    (case aIn => k_is)
    (case iIn => k_is)
    (case lIn => k_is)
    (case cIn => k_is)
    (case kIn => k_is)
    (case lTd => k_is)
    (case pg => k_is)
    (case hd => k_is)
    (case po => k_is)
    (case sa => k_is)
    (case mk => k_is)
    (case kc => k_is)
    (case nN => k_is)
    (case nF => k_is)
    (case z_len => k_is)
    (case z_range => k_is)
    (case z_list => k_is)
    (case z_tuple => k_is)
    (case z_str => k_is)
    (case z_bool => k_is)
    (case z_int => k_is)
    (case z_min => k_is)
    (case z_repr => k_is)
    (case z_all => k_is)
    (case z_any => k_is)
    (case z_isinstance => k_is)
    (case z_enumerate => k_is)
    (case m1 => k_is)
    (case m2 => k_is)
    (case m3 => k_is)
    (case q1 => k_is)
    (case q2 => k_is)
    (case q3 => k_is)
    (case q4 => k_is)
    (case q5 => k_is)
    (case q6 => k_is)
    (case q7 => kit_is)
    (case q8 => k_is)
    (case k_tuple => kit_is)
    (case n_tuple => k_is)
    (case k_str => kit_is)
    (case n_str => k_is)
    (case k_NoneType => kit_is)
    (case n_NoneType => k_is)
    (case k_int => kit_is)
    (case n_int => k_is)
    (case k_list => kit_is)
    (case n_list => k_is)

