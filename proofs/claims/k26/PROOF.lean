import PyProof.Rows.All
import Wide.All
import OpenK.AllK
import Wide.FinOn
import Lean
import PyProof.EqAt
import PyProof.EqKinds
import PyProof.TupleCall
import PyProof.StationsW
import PyProof.ExcBaseAll.ValueError
import PyProof.InstStoreFacts
import PyProof.RulesAs
import PyProof.RulesDel
import KE.KLam
import PyProof.ExcArgsOwn
import PyProof.AutoListH
import PyProof.StrWalks
import PyProof.StrBlockH
import KE.KNestM
import PyProof.WalkInts
import PyProof.SeqI3
import PySem.Challenge.RW_lanescribe_k26_clocks_refused
-- CHANGE: your row's module here, as the last of these rows
set_option Elab.async false
set_option linter.all false
set_option maxRecDepth 100000
/-! THE HAND LAYER, for ints, bools, texts, own classes, LISTS and tuples (index, slices, in, append, pop ..), calls, loops. Paste it whole ahead of your own text; what your proof does not reach may be deleted. -/
namespace L2
open PySem PySem.Spec PyProof.Rows

/-- a key: an int or a str -/
abbrev Key := Sum Int Str
def keyIs : Key → Value → Bool
  | .inl k, v => Value.isInt k v
  | .inr x, v => Value.isStrOf x v
def keyH (w : World) : Key → Int
  | .inl k => hashInt k
  | .inr x => hashStr w x
theorem keyIs_shape : ∀ {k : Key} {v : Value}, keyIs k v = true → (∃ i t, k = Sum.inl i ∧ v = Value.int i t) ∨ (∃ x t, k = Sum.inr x ∧ v = Value.str x t)
  | .inl i, v, h => by
    obtain ⟨t, e⟩ := Value.isInt_shape (k := i) (v := v) h
    exact .inl ⟨i, t, rfl, e⟩
  | .inr x, v, h => by
    obtain ⟨t, e⟩ := Value.isStrOf_shape (x := x) (v := v) h
    exact .inr ⟨x, t, rfl, e⟩
theorem keyIs_int (i : Int) (t : Tok) : keyIs (.inl i) (.int i t) = true := by simp [keyIs, Value.isInt]
theorem keyIs_str (x : Str) (t : Tok) : keyIs (.inr x) (.str x t) = true := by simp [keyIs, Value.isStrOf]
theorem key_ll (a b : Int) : decide ((Sum.inl a : Key) = Sum.inl b) = (a == b) := by
  by_cases e : a = b
  · subst e; simp
  · have h : ¬ (Sum.inl a : Key) = Sum.inl b := fun q => e (Sum.inl.inj q)
    rw [decide_eq_false h]
    exact (beq_eq_false_iff_ne.mpr e).symm
theorem key_rr (a b : Str) : decide ((Sum.inr a : Key) = Sum.inr b) = decide (a = b) := by
  by_cases e : a = b
  · subst e; simp
  · have h : ¬ (Sum.inr a : Key) = Sum.inr b := fun q => e (Sum.inr.inj q)
    rw [decide_eq_false h, decide_eq_false e]
theorem key_lr (a : Int) (b : Str) : decide ((Sum.inl a : Key) = Sum.inr b) = false := decide_eq_false (fun q => nomatch q)
theorem key_rl (a : Str) (b : Int) : decide ((Sum.inr a : Key) = Sum.inl b) = false := decide_eq_false (fun q => nomatch q)

def mixKind (prog : Program) (w : World) : PySem.KeyKind prog w Key where
  is := keyIs
  hash := keyH w
  inj := fun v a b ha hb => by
    rcases keyIs_shape ha with ⟨i, t, rfl, rfl⟩ | ⟨x, t, rfl, rfl⟩
    · rcases keyIs_shape hb with ⟨j, u, rfl, e⟩ | ⟨y, u, rfl, e⟩
      · injection e with e1 _; rw [e1]
      · exact nomatch e
    · rcases keyIs_shape hb with ⟨j, u, rfl, e⟩ | ⟨y, u, rfl, e⟩
      · exact nomatch e
      · injection e with e1 _; rw [e1]
  byValue := fun k v h => by
    rcases keyIs_shape h with ⟨i, t, rfl, rfl⟩ | ⟨x, t, rfl, rfl⟩ <;> rfl
  pyHash := fun hv h => by
    rcases keyIs_shape hv with ⟨i, t, rfl, rfl⟩ | ⟨x, t, rfl, rfl⟩
    · exact wpAny_pyHash_int h
    · exact wpAny_pyHash_str h
  eqBool := fun hu hv h => by
    rcases keyIs_shape hu with ⟨i, t, rfl, rfl⟩ | ⟨x, t, rfl, rfl⟩
    · rcases keyIs_shape hv with ⟨j, u, rfl, rfl⟩ | ⟨y, u, rfl, rfl⟩
      · rw [key_ll] at h; exact wpAny_eqBool_int h
      · rw [key_lr] at h; exact SeqAt.EqAt.int_str i t y u _ _ _ _ h
    · rcases keyIs_shape hv with ⟨j, u, rfl, rfl⟩ | ⟨y, u, rfl, rfl⟩
      · rw [key_rl] at h; exact SeqAt.EqAt.str_int x t j u _ _ _ _ h
      · rw [key_rr] at h; exact wpAny_eqBool_str h
  «strs» := fun k x t v h => by
    rcases keyIs_shape h with ⟨i, u, rfl, e⟩ | ⟨y, u, rfl, e⟩
    · exact nomatch e
    · injection e with e1 _
      subst e1
      cases v <;> rfl

theorem mixKind_int (prog : Program) (w : World) (i : Int) (t : Tok) : (mixKind prog w).is (.inl i) (.int i t) = true := keyIs_int i t
theorem mixKind_str (prog : Program) (w : World) (x : Str) (t : Tok) : (mixKind prog w).is (.inr x) (.str x t) = true := keyIs_str x t
end L2

namespace L2
open PySem PySem.Spec PyProof.Rows

/-- a value, without the heap -/
inductive V where
  | non | bl (b : Bool) | int (i : Int) | str (x : Str) | byt (b : Array UInt8) | flt (b : UInt64) | ref (a : Addr) | ty (n : String)
  deriving DecidableEq

def RelV : V → Value → Prop
  | .non, u => u = Value.none
  | .bl b, u => u = Value.bool b
  | .int i, u => ∃ t, u = Value.int i t
  | .str x, u => ∃ t, u = Value.str x t
  | .byt b, u => ∃ t, u = Value.bytes b t
  | .flt b, u => ∃ t, u = Value.float b t
  | .ref a, u => u = Value.ref a
  | .ty n, u => u = Value.type n

abbrev Vals : List V → List Value → Prop := Paired RelV
theorem Vals.length {xs : List V} {us : List Value} (r : Vals xs us) : xs.length = us.length := Paired.length r
theorem Vals.get : ∀ {xs : List V} {us : List Value} {i : Nat} {x : V}, Vals xs us → xs[i]? = some x → ∃ u, us[i]? = some u ∧ RelV x u
  | _, _, _, _, .nil, e => by simp at e
  | _, _, 0, _, .cons r _, e => by simp at e; subst e; exact ⟨_, rfl, r⟩
  | _, _, i + 1, x, .cons _ t, e => by
    obtain ⟨u, h1, h2⟩ := Vals.get (i := i) (x := x) t (by simpa using e)
    exact ⟨u, by simpa using h1, h2⟩
theorem Vals.append : ∀ {xs ys : List V} {us ws : List Value}, Vals xs us → Vals ys ws → Vals (xs ++ ys) (us ++ ws)
  | _, _, _, _, .nil, s => s
  | _, _, _, _, .cons r t, s => .cons r (Vals.append t s)
theorem Vals.take : ∀ {xs : List V} {us : List Value} (n : Nat), Vals xs us → Vals (xs.take n) (us.take n)
  | _, _, 0, _ => .nil
  | _, _, _ + 1, .nil => .nil
  | _, _, n + 1, .cons r t => .cons r (Vals.take n t)
theorem Vals.drop : ∀ {xs : List V} {us : List Value} (n : Nat), Vals xs us → Vals (xs.drop n) (us.drop n)
  | _, _, 0, r => r
  | _, _, _ + 1, .nil => .nil
  | _, _, n + 1, .cons _ t => Vals.drop n t
def RelO : Option V → Option Value → Prop
  | some v, some u => RelV v u
  | none, none => True
  | _, _ => False
def KV {κ : Type} : List (κ × V) → List (κ × Value) → Prop := Paired fun (p : κ × V) (q : κ × Value) => p.1 = q.1 ∧ RelV p.2 q.2

/-- a key of a dict (00_mix): an int or a text -/
def kV : Key → V
  | .inl i => .int i
  | .inr x => .str x

/-- what stands at a tracked address -/
inductive HO where
  /-- a list -/
  | lst (xs : List V)
  /-- a tuple (never changes) -/
  | tup (xs : List V)
  /-- a dict whose keys are ints and texts; one whose keys are tuples of ints and texts (the empty one is both) -/
  | dK (kvs : List (Key × V)) | dT (kvs : List (List Key × V))
  /-- a set of ints: its members, its size -/
  | set (S : Int → Bool) (n : Nat)
  /-- an instance of the class at C, its dict at dx, its attributes -/
  | ins (C dx : Addr) (fs : List (Str × V))
  /-- the dict of the instance at x -/
  | own (x : Addr)
  /-- the dict of an exception -/
  | xd (fs : List (Str × V))
  /-- a bound method, f of x -/
  | met (f x : Addr)
  /-- a range object lo, lo + 1, .. below hi -/
  | rng (lo hi : Int)
  /-- a thing that is known to the object (the script; a dict while a loop walks it): read, never written while it is so -/
  | frz (o : Obj) (u : HO)
  /-- a code object's table -/
  | tbl (ps : Array Value)
  /-- any other thing, by what is true of its one object (a def of one's own: SetO a S n := HO.ext fun h => ..) -/
  | ext (φ : Heap → Prop)

abbrev Hp := Addr → Option HO
def upd (H : Hp) (a : Addr) (o : HO) : Hp := fun b => if b = a then some o else H b
theorem upd_same {H : Hp} {a : Addr} {o : HO} : upd H a o a = some o := by unfold upd; rw [if_pos rfl]
theorem upd_ne {H : Hp} {a b : Addr} {o : HO} (h : b ≠ a) : upd H a o b = H b := by unfold upd; rw [if_neg h]
theorem upd_upd {H : Hp} {a : Addr} {o u : HO} : upd (upd H a o) a u = upd H a u := by
  funext b; unfold upd; split <;> rfl
/-- two objects of different content stand apart -/
theorem ne_of {H : Hp} {a b : Addr} {o u : HO} (h : H a = some o) (h' : H b = some u) (d : o ≠ u) : a ≠ b := by
  intro e; subst e; rw [h] at h'; exact d (Option.some.inj h')
theorem ne_of_none {H : Hp} {a b : Addr} {o : HO} (h : H a = some o) (h' : H b = none) : a ≠ b := by
  intro e; subst e; rw [h] at h'; cases h'

section
variable (P : Program) (w : World)
def ObjOk (H : Hp) (h : Heap) (a : Addr) : HO → Prop
  | .lst xs => xs.length ≤ sizeLine ∧ ∃ (its : List Value) (n : Nat), Vals xs its ∧ h.get? a = some { cls := .type "list", data := .seq its.toArray n }
  | .tup xs => xs.length ≤ sizeLine ∧ ∃ its : List Value, Vals xs its ∧ IsTup h a its.toArray
  | .dK kvs => kvs.length ≤ sizeLine ∧ (a == sysModules) = false ∧ ∃ vs, KV kvs vs ∧ h.DictOf (mixKind P w) a vs
  | .dT kvs => kvs.length ≤ sizeLine ∧ (a == sysModules) = false ∧ ∃ xs : List (List Key × Addr × Value),
      Paired (fun (p : List Key × V) (q : List Key × Addr × Value) => p.1 = q.1 ∧ H q.2.1 = some (.tup (p.1.map kV)) ∧ RelV p.2 q.2.2) kvs xs ∧
      ∃ o es ep, h.get? a = some o ∧ o.ExactDict ∧ o.data = .dict es ep ∧ es.toList = xs.map (entryOfKey (tupleKind (mixKind P w))) ∧ (xs.map (·.1)).Nodup
  | .set S n => h.SetOf (intKind P w) a S n
  | .ins C dx fs => H dx = some (.own a) ∧ fs.length ≤ 1000 ∧ dx ≠ a ∧ h.get? a = some (PySem.W.instObj C dx) ∧
      ∃ mA, h.Ns1 dx mA ∧ (∀ f, RelO (fs.lookup f) (mA f)) ∧ PySem.Within mA (fs.map (·.1))
  | .own _ => ∃ o, h.get? a = some o
  | .xd fs => ∃ mA, h.Ns1 a mA ∧ ∀ f, RelO (fs.lookup f) (mA f)
  | .rng lo hi => ∃ t u v, h.get? a = some { cls := .type "range", data := .fields #[.int lo t, .int hi u, .int 1 v] }
  | .frz o u => h.get? a = some o ∧ ObjOk H h a u
  | .tbl ps => h.get? a = some { cls := .none, data := .fields ps }
  | .met f x => h.get? a = some (PySem.W.methodObj (.ref f) (.ref x))
  | .ext φ => φ h ∧ (∃ o, h.get? a = some o) ∧ ∀ h1 h2 : Heap, φ h1 → (∀ o, h1.get? a = some o → h2.get? a = some o) → φ h2
/-- the abstract heap is held -/
def HOk (H : Hp) (h : Heap) : Prop := ∀ a o, H a = some o → ObjOk P w H h a o
end

section
variable {P : Program} {w : World} {H H' : Hp} {h h' : Heap} {a : Addr} {o : HO}
theorem ObjOk.lt (x : ObjOk P w H h a o) : a < h.objs.size := by
  cases o with
  | lst xs => obtain ⟨_, _, _, _, e⟩ := x; exact Heap.lt_size e
  | tup xs => obtain ⟨_, _, _, p⟩ := x; exact p.lt
  | dK kvs => obtain ⟨_, _, _, _, o, _, _, e, _⟩ := x; exact Heap.lt_size e
  | dT kvs => obtain ⟨_, _, _, _, o, _, _, e, _⟩ := x; exact Heap.lt_size e
  | set S n => obtain ⟨o, _, _, _, e, _⟩ := x; exact Heap.lt_size e
  | ins C dx fs => obtain ⟨_, _, _, e, _⟩ := x; exact Heap.lt_size e
  | own y => obtain ⟨_, e⟩ := x; exact Heap.lt_size e
  | xd fs => obtain ⟨_, ⟨_, _, _, e, _⟩, _⟩ := x; exact Heap.lt_size e
  | rng lo hi => obtain ⟨_, _, _, e⟩ := x; exact Heap.lt_size e
  | frz ob u => obtain ⟨e, _⟩ := x; exact Heap.lt_size e
  | tbl ps => exact Heap.lt_size (show h.get? a = some _ from x)
  | met f y => exact Heap.lt_size (show h.get? a = some _ from x)
  | ext φ => obtain ⟨_, ⟨_, e⟩, _⟩ := x; exact Heap.lt_size e
theorem Paired.mapP {α β : Type} {F G : α → β → Prop} : ∀ {l₁ : List α} {l₂ : List β}, Paired F l₁ l₂ → (∀ a b, F a b → G a b) → Paired G l₁ l₂
  | _, _, .nil, _ => .nil
  | _, _, .cons r t, f => .cons (f _ _ r) (Paired.mapP t f)
/-- what an object's description leans on: its own object, its own dict, the tuples -/
theorem ObjOk.stay (x : ObjOk P w H h a o) (k : ∀ b u, (b = a ∨ H b = some (.own a)) → h.get? b = some u → h'.get? b = some u)
    (ho : ∀ b, H b = some (.own a) → H' b = some (.own a)) (ht : ∀ b xs, H b = some (.tup xs) → H' b = some (.tup xs)) : ObjOk P w H' h' a o := by
  induction o with
  | lst xs => obtain ⟨z, its, n, r, e⟩ := x; exact ⟨z, its, n, r, k _ _ (.inl rfl) e⟩
  | tup xs => obtain ⟨z, its, r, ob, e, c⟩ := x; exact ⟨z, its, r, ob, k _ _ (.inl rfl) e, c⟩
  | dK kvs => obtain ⟨z, y, vs, r, ob, es, ep, e, c⟩ := x; exact ⟨z, y, vs, r, ob, es, ep, k _ _ (.inl rfl) e, c⟩
  | dT kvs =>
    obtain ⟨z, y, xs, r, ob, es, ep, e, c⟩ := x
    exact ⟨z, y, xs, Paired.mapP r fun p q z => ⟨z.1, ht _ _ z.2.1, z.2.2⟩, ob, es, ep, k _ _ (.inl rfl) e, c⟩
  | set S n => obtain ⟨ob, es, ep, t, e, c⟩ := x; exact ⟨ob, es, ep, t, k _ _ (.inl rfl) e, c⟩
  | ins C dx fs =>
    obtain ⟨d, z, ne, e, mA, ⟨od, es, ep, e2, c⟩, r⟩ := x
    exact ⟨ho _ d, z, ne, k _ _ (.inl rfl) e, mA, ⟨od, es, ep, k _ _ (.inr d) e2, c⟩, r⟩
  | own y => obtain ⟨ob, e⟩ := x; exact ⟨ob, k _ _ (.inl rfl) e⟩
  | xd fs => obtain ⟨mA, ⟨od, es, ep, e, c⟩, r⟩ := x; exact ⟨mA, ⟨od, es, ep, k _ _ (.inl rfl) e, c⟩, r⟩
  | rng lo hi => obtain ⟨t, u, v, e⟩ := x; exact ⟨t, u, v, k _ _ (.inl rfl) e⟩
  | frz ob u ih => obtain ⟨e, q⟩ := x; exact ⟨k _ _ (.inl rfl) e, ih q⟩
  | tbl ps =>
    have e : h.get? a = some { cls := .none, data := .fields ps } := x
    show h'.get? a = some { cls := .none, data := .fields ps }
    exact k a _ (.inl rfl) e
  | met f y =>
    have e : h.get? a = some (PySem.W.methodObj (.ref f) (.ref y)) := x
    show h'.get? a = some (PySem.W.methodObj (.ref f) (.ref y))
    exact k a _ (.inl rfl) e
  | ext φ => obtain ⟨p, ⟨o, e⟩, st⟩ := x; exact ⟨st _ _ p fun o q => k _ _ (.inl rfl) q, ⟨o, k _ _ (.inl rfl) e⟩, st⟩
theorem HOk.lt (x : HOk P w H h) (e : H a = some o) : a < h.objs.size := (x a o e).lt
theorem HOk.fresh (x : HOk P w H h) (e : h.objs.size ≤ a) : H a = none := by
  cases q : H a with
  | none => rfl
  | some u => exact absurd (Nat.lt_of_lt_of_le (x.lt q) e) (Nat.lt_irrefl _)
/-- every object of the heap is kept -/
theorem HOk.kept (x : HOk P w H h) (k : ∀ b u, h.get? b = some u → h'.get? b = some u) : HOk P w H h' := fun a o e =>
  (x a o e).stay (fun b u _ q => k b u q) (fun _ q => q) fun _ _ q => q
/-- a new object is laid and tracked -/
theorem HOk.laid (x : HOk P w H h) (k : ∀ b u, h.get? b = some u → h'.get? b = some u) (hp : h.objs.size ≤ a) (new : ObjOk P w (upd H a o) h' a o) : HOk P w (upd H a o) h' := fun b u e => by
  have hn := x.fresh hp
  by_cases hb : b = a
  · subst hb; rw [upd_same] at e; cases e; exact new
  · rw [upd_ne hb] at e
    exact (x b u e).stay (fun c v _ q => k c v q) (fun c q => by rw [upd_ne (ne_of_none q hn)]; exact q) fun c xs q => by rw [upd_ne (ne_of_none q hn)]; exact q
end

/-- what may be read as u: it is u, or a known u -/
def Rd (H : Hp) (a : Addr) (u : HO) : Prop := H a = some u ∨ ∃ o, H a = some (.frz o u)
theorem Rd.ok {P : Program} {w : World} {H : Hp} {h : Heap} {a : Addr} {u : HO} (r : Rd H a u) (x : HOk P w H h) : ObjOk P w H h a u := by
  rcases r with r | ⟨o, r⟩
  · exact x a u r
  · obtain ⟨_, q⟩ := x a _ r
    exact q
/-- what may be written -/
def Mut : Option HO → Prop
  | some (.lst _) => True
  | some (.dK _) => True
  | some (.dT _) => True
  | some (.set _ _) => True
  | some (.ins _ _ _) => True
  | some (.ext _) => True
  | _ => False
section
variable {P : Program} {w : World} {H : Hp} {h h' : Heap} {x e : Addr} {o' : HO}
/-- the object at e is changed: x itself, or the dict of the instance x -/
theorem HOk.write (ok : HOk P w H h) (mu : Mut (H x)) (he : e = x ∨ H e = some (.own x)) (k : ∀ b u, b ≠ e → h.get? b = some u → h'.get? b = some u) (heo : ∃ u, h'.get? e = some u)
    (new : ObjOk P w (upd H x o') h' x o') : HOk P w (upd H x o') h' := fun b u q => by
  have nown : ∀ c y, H c = some (.own y) → c ≠ x := fun c y r z => by subst z; rw [r] at mu; exact mu
  have ntup : ∀ c xs, H c = some (.tup xs) → c ≠ x := fun c xs r z => by subst z; rw [r] at mu; exact mu
  by_cases hb : b = x
  · subst hb; rw [upd_same] at q; cases q; exact new
  · rw [upd_ne hb] at q
    by_cases hbe : b = e
    · have q' : H b = some (.own x) := by
        rcases he with z | z
        · exact absurd (hbe.trans z) hb
        · rw [hbe]; exact z
      rw [q] at q'; cases q'
      obtain ⟨v, hv⟩ := heo
      exact ⟨v, by rw [hbe]; exact hv⟩
    · refine (ok b u q).stay (fun c v hc r => k c v ?_ r) (fun c r => by rw [upd_ne (nown c b r)]; exact r) fun c xs r => by rw [upd_ne (ntup c xs r)]; exact r
      rcases hc with rfl | hc
      · exact hbe
      · rintro rfl
        rcases he with z | z
        · exact nown c b hc z
        · rw [hc] at z; cases z; exact hb rfl
end

/-! ### kept unless tracked; of the frames at fs (the callers') the slots may change (an exception that passes writes there); of the records at ex (iterators) nothing is said -/
structure Un (fs ex : List Addr) (H H' : Hp) (h h' : Heap) : Prop where
  keep : ∀ b o, h.get? b = some o → H b = none → b ∉ fs → b ∉ ex → h'.get? b = some o
  slot : ∀ b o, h.get? b = some o → H b = none → b ∈ fs → b ∉ ex → ∃ sl, h'.get? b = some { o with slots := sl }
  free : ∀ b o, h.get? b = some o → H b = none → b ∉ ex → H' b = none
  there : ∀ b o, h.get? b = some o → b ∉ ex → ∃ o', h'.get? b = some o'
  tups : ∀ b xs, H b = some (.tup xs) → H' b = some (.tup xs)
  frzs : ∀ b o u, H b = some (.frz o u) → H' b = some (.frz o u)
  tbls : ∀ b ps, H b = some (.tbl ps) → ∃ more, H' b = some (.tbl (ps ++ more))
section
variable {fs fs' ex ex' : List Addr} {H H1 H2 : Hp} {h h1 h2 h' : Heap} {a x e : Addr} {o : HO}
theorem Un.any (u : Un fs ex H H1 h h1) {b : Addr} {ob : Obj} (q : h.get? b = some ob) (n : H b = none) (hx : b ∉ ex) : ∃ sl, h1.get? b = some { ob with slots := sl } := by
  by_cases hb : b ∈ fs
  · exact u.slot b ob q n hb hx
  · exact ⟨ob.slots, u.keep b ob q n hb hx⟩
theorem Un.kept (k : ∀ b u, h.get? b = some u → h'.get? b = some u) : Un fs ex H H h h' :=
  ⟨fun b ob q _ _ _ => k b ob q, fun b ob q _ _ _ => ⟨ob.slots, k b ob q⟩, fun _ _ _ n _ => n, fun b ob q _ => ⟨ob, k b ob q⟩, fun _ _ q => q, fun _ _ _ q => q, fun _ ps q => ⟨#[], by rw [q]; simp⟩⟩
theorem Un.refl : Un fs ex H H h h := Un.kept fun _ _ q => q
theorem Un.laid (k : ∀ b u, h.get? b = some u → h'.get? b = some u) (hp : h.objs.size ≤ a) (hn : H a = none) : Un fs ex H (upd H a o) h h' where
  keep := fun b u q _ _ _ => k b u q
  slot := fun b u q _ _ _ => ⟨u.slots, k b u q⟩
  free := fun b u q n _ => by rw [upd_ne (Nat.ne_of_lt (Nat.lt_of_lt_of_le (Heap.lt_size q) hp))]; exact n
  there := fun b u q _ => ⟨u, k b u q⟩
  tups := fun b xs q => by rw [upd_ne (ne_of_none q hn)]; exact q
  frzs := fun b u xs q => by rw [upd_ne (ne_of_none q hn)]; exact q
  tbls := fun b ps q => ⟨#[], by rw [upd_ne (ne_of_none q hn), q]; simp⟩
theorem Un.write (mu : Mut (H x)) (he : e = x ∨ H e = some (.own x)) (k : ∀ b u, b ≠ e → h.get? b = some u → h'.get? b = some u) (heo : ∃ u, h'.get? e = some u) : Un fs ex H (upd H x o) h h' := by
  have hx : ∀ b, H b = none → b ≠ x := fun b n z => by subst z; rw [n] at mu; exact mu
  have hb : ∀ b, H b = none → b ≠ e := fun b n z => by
    subst z
    rcases he with r | r
    · exact hx b n r
    · rw [n] at r; cases r
  have hm : ∀ b u, H b = some u → ¬ Mut (some u) → b ≠ x := fun b u q nm z => by subst z; rw [q] at mu; exact nm mu
  refine ⟨fun b u q n _ _ => k b u (hb b n) q, fun b u q n _ _ => ⟨u.slots, k b u (hb b n) q⟩, fun b u q n _ => by rw [upd_ne (hx b n)]; exact n, fun b u q _ => ?_,
    fun b xs q => by rw [upd_ne (hm b _ q fun z => z)]; exact q, fun b u xs q => by rw [upd_ne (hm b _ q fun z => z)]; exact q, fun b ps q => ⟨#[], by rw [upd_ne (hm b _ q fun z => z), q]; simp⟩⟩
  by_cases hbe : b = e
  · subst hbe; exact heo
  · exact ⟨u, k b u hbe q⟩
end

/-! ### the heap without what is tracked -/
def trk (h : Heap) (H : Hp) : List Addr := (List.range h.objs.size).filter fun a => (H a).isSome
def hidT (h : Heap) (H : Hp) : Heap := PySem.W.hideAll h (trk h H)
theorem hidT_size (h : Heap) (H : Hp) : (hidT h H).objs.size = h.objs.size := PySem.W.hideAll_size _ _
theorem hidT_get {h : Heap} {H : Hp} {b : Addr} {o : Obj} (e : h.get? b = some o) (n : H b = none) : (hidT h H).get? b = some o :=
  PySem.W.hideAll_get _ e fun hm => by
    have q : (H b).isSome = true := (List.mem_filter.mp hm).2
    rw [n] at q; simp at q
theorem of_hidT {h : Heap} {H : Hp} {b : Addr} {o : Obj} (e : (hidT h H).get? b = some o) : h.get? b = some o ∧ H b = none := by
  have e' : h.get? b = some o := PySem.W.of_hideAll (trk h H) e
  refine ⟨e', ?_⟩
  cases q : H b with
  | none => rfl
  | some x =>
    have hm : b ∈ trk h H := List.mem_filter.mpr ⟨List.mem_range.mpr (Heap.lt_size e'), by simp [q]⟩
    have z : (hidT h H).get? b = none := PySem.W.hideAll_none (trk h H) hm
    rw [z] at e; cases e

/-! ### OpenK's ledger, filled with every new object but one -/
end L2

namespace L2
open PySem PySem.Spec PyProof.Rows

/-- the module's facts, over the base: the heap at the law's entry without what is tracked there -/
structure Mod (K : PySem.W.Frag) (mg : Str → Option Value) (base : Heap) : Prop where
  kin : K.In base
  glob : base.Ns mainGlobals mg
  blt : ∃ mb, base.Ns builtinsNs mb ∧ ∀ x : Str, x ≠ "__name__" → mb x = bootBuiltins x
  nolimit : base.NoLimit

/-- the context: a def's body (or a comprehension's block) running. base: fixed through the whole law; s₀, H₀: the entry; outer: the frames whose slots others may change (a def's callers); stack: all frames that run;
   ex: iterators that were made ahead of the entry and are walked here (a comprehension's); fn: the names whose cells were made at the entry (a def: all; a comprehension's block: its own); calm: not within an except suite; pn: pins that every state bears; xe: what is wanted of an exception that leaves the code -/
structure Cx where
  prog : Program
  w : World
  K : PySem.W.Frag
  mg : Str → Option Value
  base : Heap
  A : Around
  N : List Str
  s₀ : Shared
  H₀ : Hp
  env : Env
  outer : List Env
  stack : List Env
  ex : List Addr
  fn : Str → Bool
  calm : Bool
  pn : List (Addr × Obj)
  xe : Value → Shared → Prop
/-- the callers' frames -/
def frs (l : List Env) : List Addr := l.filterMap (·.frame)
abbrev Cx.fs (X : Cx) : List Addr := frs X.outer

def Vis (sc : Scope) (x : Str) : Prop := sc.names.lookup x = some .local ∨ sc.names.lookup x = some .cell ∨ sc.names.lookup x = some .free
def Loc (sc : Scope) (x : Str) : Prop := sc.names.lookup x = some .local ∨ sc.names.lookup x = some .cell
def Look (env : Env) (h : Heap) (m : Str → Option Value) (x : Str) (u : Value) : Prop :=
  (env.kindOf x = some .local ∧ m x = some u) ∨ ((env.kindOf x = some .cell ∨ env.kindOf x = some .free) ∧ ∃ c, env.cells.lookup x = some c ∧ h.IsCell c (some u))

structure Cx.Ok (X : Cx) : Prop where
  mod : Mod X.K X.mg X.base
  kind : X.env.scope.kind = .function
  glob : X.env.globals = mainGlobals
  blt : X.env.builtins = builtinsNs
  above : X.s₀.heap.objs.size ≤ X.env.locals
  inj : ∀ x y c, X.env.cells.lookup x = some c → X.env.cells.lookup y = some c → x = y
  has : ∀ x, (X.env.kindOf x = some .cell ∨ X.env.kindOf x = some .free) → ∃ c, X.env.cells.lookup x = some c
  cab : ∀ x c, X.fn x = true → X.env.cells.lookup x = some c → X.s₀.heap.objs.size ≤ c
  hd : X.calm = true → X.A.handled = none
  frames : X.A.frames = some X.stack
  stk : X.stack = X.outer ∨ (X.stack = X.env :: X.outer ∧ X.env.frame = some X.env.locals)
  exf : ∀ b ∈ X.ex, b ≠ X.env.locals ∧ ∀ x c, X.env.cells.lookup x = some c → c ≠ b
  bs : ∀ b o, X.base.get? b = some o → X.s₀.heap.get? b = some o ∧ X.H₀ b = none
  bsz : X.base.objs.size ≤ X.s₀.heap.objs.size
  noex : ∀ b o, X.base.get? b = some o → b ∉ X.ex
  exfs : ∀ b ∈ X.ex, b ∉ X.fs
  funs : X.s₀.heap.FunFrames X.base X.outer
  frf : ∀ b ∈ X.fs, X.H₀ b = none

structure Inv (X : Cx) (pins : List (Addr × Obj)) (σ : List (Option V)) (H : Hp) (s : Shared) : Prop where
  ok : X.Ok
  os : s.os = X.s₀.os
  bare : AllBare s.gens
  base : Un X.fs X.ex X.H₀ H X.s₀.heap s.heap
  loc : ∃ m, s.heap.Ns X.env.locals m ∧ ∀ (i : Nat) (x : Str) (v : V), X.N[i]? = some x → σ[i]? = some (some v) → Vis X.env.scope x → ∃ u, RelV v u ∧ Look X.env s.heap m x u
  cell : ∀ x c, X.env.cells.lookup x = some c → ∃ v, s.heap.IsCell c v
  free : H X.env.locals = none
  freeC : ∀ x c, X.env.cells.lookup x = some c → H c = none
  pin : ∀ p ∈ X.pn ++ pins, s.heap.get? p.1 = some p.2 ∧ H p.1 = none ∧ p.1 ≠ X.env.locals ∧ p.1 ∉ X.fs ∧ ∀ v, p.2.data ≠ .cell v
  hok : HOk X.prog X.w H s.heap
  len : σ.length = X.N.length

section
variable {X : Cx} {pins : List (Addr × Obj)} {σ : List (Option V)} {H H' : Hp} {s : Shared} {h' : Heap}

theorem Cx.Ok.nofr (ok : X.Ok) {b : Addr} {o : Obj} (e : X.base.get? b = some o) : b ∉ X.fs := fun hb => by
  have := (ok.funs.mem hb).1
  rw [e] at this; cases this
theorem Inv.bs (I : Inv X pins σ H s) : ∀ b o, X.base.get? b = some o → s.heap.get? b = some o ∧ H b = none := fun b o e =>
  ⟨I.base.keep b o (I.ok.bs b o e).1 (I.ok.bs b o e).2 (I.ok.nofr e) (I.ok.noex b o e), I.base.free b o (I.ok.bs b o e).1 (I.ok.bs b o e).2 (I.ok.noex b o e)⟩
theorem Inv.bk (I : Inv X pins σ H s) : ∀ b o, X.base.get? b = some o → s.heap.get? b = some o := fun b o e => (I.bs b o e).1
theorem Inv.mod (I : Inv X pins σ H s) : Mod X.K X.mg X.base := I.ok.mod
theorem Inv.kIn (I : Inv X pins σ H s) : X.K.In s.heap := I.ok.mod.kin.keeps I.bk
/-- the frame over the base: for OpenK's rules (K.In X.base is I.mod.kin) -/
theorem Inv.fr (I : Inv X pins σ H s) : ∃ m, Fr X.base X.env.locals s.heap m :=
  let ⟨m, hn, _⟩ := I.loc
  ⟨m, hn, I.bk, Nat.le_trans I.ok.bsz I.ok.above⟩
theorem Inv.lt (I : Inv X pins σ H s) : X.env.locals < s.heap.objs.size := let ⟨_, hn, _⟩ := I.loc; hn.lt
theorem Inv.sz (I : Inv X pins σ H s) : X.s₀.heap.objs.size ≤ s.heap.objs.size := Nat.le_trans I.ok.above (Nat.le_of_lt I.lt)
theorem Inv.nofs (I : Inv X pins σ H s) {a : Addr} (h : s.heap.objs.size ≤ a) : a ∉ X.fs := fun hb => by
  obtain ⟨_, o, ho, _⟩ := I.ok.funs.mem hb
  exact absurd (Nat.lt_of_lt_of_le (Heap.lt_size ho) (Nat.le_trans I.sz h)) (Nat.lt_irrefl _)
theorem Inv.cne (I : Inv X pins σ H s) : ∀ x c, X.env.cells.lookup x = some c → c ≠ X.env.locals := fun x c e z => by
  obtain ⟨v, o, ho, hd⟩ := I.cell x c e
  obtain ⟨m, ⟨o', es, ep, ho', hd', _⟩, _⟩ := I.loc
  rw [z, ho'] at ho; cases ho; rw [hd'] at hd; cases hd
theorem Inv.funs (I : Inv X pins σ H s) : s.heap.FunFrames X.base X.outer := by
  have all : ∀ (l : List Env), (∀ b ∈ frs l, b ∈ X.fs) → X.s₀.heap.FunFrames X.base l → s.heap.FunFrames X.base l := by
    intro l
    induction l with
    | nil => intro _ _; trivial
    | cons env r ih =>
      intro hs hl
      obtain ⟨hk, ⟨L, o, hf, hn, ho, hd⟩, hr⟩ := hl
      have hL : L ∈ X.fs := hs L (by unfold frs; rw [List.filterMap_cons, hf]; exact List.mem_cons_self)
      obtain ⟨sl, e⟩ := I.base.slot L o ho (I.ok.frf L hL) hL fun z => I.ok.exfs L z hL
      exact ⟨hk, ⟨L, _, hf, hn, e, hd⟩, ih (fun b hb => hs b (by unfold frs; rw [List.filterMap_cons, hf]; exact List.mem_cons_of_mem _ hb)) hr⟩
  exact all X.outer (fun _ hb => hb) I.ok.funs

/-- the frames that run, for a call -/
theorem Inv.stack (I : Inv X pins σ H s) : s.heap.FunFrames X.base X.stack := by
  rcases I.ok.stk with e | ⟨e, hf⟩
  · rw [e]; exact I.funs
  · rw [e]
    obtain ⟨m, hn, _⟩ := I.loc
    refine .cons (by rw [I.ok.kind]; decide) hf hn ?_ I.funs
    exact Heap.get?_none_of_le (Nat.le_trans I.ok.bsz I.ok.above)
theorem Inv.stkSub (I : Inv X pins σ H s) : ∀ b ∈ frs X.stack, b ∈ X.env.locals :: X.fs := fun b hb => by
  rcases I.ok.stk with e | ⟨e, hf⟩
  · rw [e] at hb; exact List.mem_cons_of_mem _ hb
  · rw [e] at hb
    unfold frs at hb
    rw [List.filterMap_cons, hf] at hb
    exact hb
theorem Inv.stkFree (I : Inv X pins σ H s) : ∀ b ∈ frs X.stack, H b = none := fun b hb => by
  rcases List.mem_cons.mp (I.stkSub b hb) with e | hb
  · rw [e]; exact I.free
  · obtain ⟨_, o, ho, _⟩ := I.ok.funs.mem hb
    exact I.base.free b o ho (I.ok.frf b hb) fun z => I.ok.exfs b z hb

/-- THE STEP: the untracked objects but the frame and the records at ch are kept (the callers' frames up to slots), the frame's map is kept, the new abstract heap is held -/
theorem Inv.step {g' : Array GenState} {t' : Nat} {d' : Drawn} {ch : List Addr} (I : Inv X pins σ H s)
    (hch : ∀ b ∈ ch, (b ∈ X.ex ∨ X.s₀.heap.objs.size ≤ b) ∧ b ≠ X.env.locals ∧ (∀ x c, X.env.cells.lookup x = some c → c ≠ b) ∧ ∀ p ∈ X.pn ++ pins, p.1 ≠ b)
    (keep : ∀ b o, b ≠ X.env.locals → b ∉ X.fs → b ∉ ch → s.heap.get? b = some o → H b = none → h'.get? b = some o)
    (slot : ∀ b o, b ≠ X.env.locals → b ∈ X.fs → b ∉ ch → s.heap.get? b = some o → H b = none → ∃ sl, h'.get? b = some { o with slots := sl }) (free : ∀ b o, b ∉ ch → s.heap.get? b = some o → H b = none → H' b = none)
    (there : ∀ b o, b ∉ ch → s.heap.get? b = some o → ∃ o', h'.get? b = some o')
    (tups : ∀ b xs, H b = some (.tup xs) → H' b = some (.tup xs)) (frzs : ∀ b o u, H b = some (.frz o u) → H' b = some (.frz o u)) (tbls : ∀ b ps, H b = some (.tbl ps) → ∃ more, H' b = some (.tbl (ps ++ more)))
    (ns : ∀ m, s.heap.Ns X.env.locals m → h'.Ns X.env.locals m) (hok : HOk X.prog X.w H' h') (hg : AllBare g') :
    Inv X pins σ H' { s with heap := h', gens := g', drawn := d', toks := t' } := by
  have neL : ∀ b o, X.s₀.heap.get? b = some o → b ≠ X.env.locals := fun b o e => Nat.ne_of_lt (Nat.lt_of_lt_of_le (Heap.lt_size e) I.ok.above)
  have neC : ∀ b o, X.s₀.heap.get? b = some o → b ∉ X.ex → b ∉ ch := fun b o e hx hb => by
    rcases (hch b hb).1 with z | z
    · exact hx z
    · exact absurd (Nat.lt_of_lt_of_le (Heap.lt_size e) z) (Nat.lt_irrefl _)
  have cellK : ∀ x c, X.env.cells.lookup x = some c → ∀ v, s.heap.IsCell c v → h'.IsCell c v := fun x c e v ⟨o, ho, hd⟩ => by
    have nch : c ∉ ch := fun z => (hch c z).2.2.1 x c e rfl
    by_cases hc : c ∈ X.fs
    · obtain ⟨sl, q⟩ := slot c o (I.cne x c e) hc nch ho (I.freeC x c e)
      exact ⟨_, q, hd⟩
    · exact ⟨o, keep c o (I.cne x c e) hc nch ho (I.freeC x c e), hd⟩
  refine ⟨I.ok, I.os, hg, ⟨fun b o e n hb hx => ?_, fun b o e n hb hx => ?_, fun b o e n hx => ?_, fun b o e hx => ?_, fun b xs e => tups b xs (I.base.tups b xs e), fun b o xs e => frzs b o xs (I.base.frzs b o xs e), fun b ps e => ?_⟩, ?_, fun x c e => ?_, ?_, fun x c e => ?_, fun p hp => ?_, hok, I.len⟩
  · exact keep b o (neL b o e) hb (neC b o e hx) (I.base.keep b o e n hb hx) (I.base.free b o e n hx)
  · obtain ⟨sl, e1⟩ := I.base.slot b o e n hb hx
    obtain ⟨sl', e2⟩ := slot b _ (neL b o e) hb (neC b o e hx) e1 (I.base.free b o e n hx)
    exact ⟨sl', e2⟩
  · obtain ⟨o', e1⟩ := I.base.there b o e hx
    exact free b o' (neC b o e hx) e1 (I.base.free b o e n hx)
  · obtain ⟨o', e1⟩ := I.base.there b o e hx
    exact there b o' (neC b o e hx) e1
  · obtain ⟨m1, e1⟩ := I.base.tbls b ps e
    obtain ⟨m2, e2⟩ := tbls b _ e1
    exact ⟨m1 ++ m2, by rw [e2, Array.append_assoc]⟩
  · obtain ⟨m, hn, hl⟩ := I.loc
    refine ⟨m, ns m hn, fun i x v e1 e2 e3 => ?_⟩
    obtain ⟨u, r, l⟩ := hl i x v e1 e2 e3
    refine ⟨u, r, ?_⟩
    rcases l with l | ⟨k, c, e, z⟩
    · exact .inl l
    · exact .inr ⟨k, c, e, cellK x c e _ z⟩
  · obtain ⟨v, z⟩ := I.cell x c e
    exact ⟨v, cellK x c e v z⟩
  · obtain ⟨m, ⟨o, _, _, ho, _⟩, _⟩ := I.loc
    exact free _ o (fun z => (hch _ z).2.1 rfl) ho I.free
  · obtain ⟨v, o, ho, hd⟩ := I.cell x c e
    exact free c o (fun z => (hch c z).2.2.1 x c e rfl) ho (I.freeC x c e)
  · obtain ⟨e, n, ne, nf, d⟩ := I.pin p hp
    have nch : p.1 ∉ ch := fun z => (hch p.1 z).2.2.2 p hp rfl
    exact ⟨keep p.1 p.2 ne nf nch e n, free p.1 p.2 nch e n, ne, nf, d⟩
/-- .. where the frame's own object is kept too -/
theorem Inv.un {t' : Nat} (I : Inv X pins σ H s) (u : Un X.fs [] H H' s.heap h') (hok : HOk X.prog X.w H' h') : Inv X pins σ H' { s with heap := h', toks := t' } := by
  obtain ⟨m, ⟨o, es, ep, ho, r⟩, _⟩ := id I.loc
  obtain ⟨sl, hL⟩ := u.any ho I.free (by simp)
  exact I.step (g' := s.gens) (d' := s.drawn) (ch := []) (fun _ z => nomatch z) (fun b o _ hb _ e n => u.keep b o e n hb (by simp)) (fun b o _ hb _ e n => u.slot b o e n hb (by simp)) (fun b o _ e n => u.free b o e n (by simp)) (fun b o _ e => u.there b o e (by simp)) u.tups u.frzs u.tbls (fun m' hm => by
    obtain ⟨o', es', ep', ho', r'⟩ := hm
    rw [ho] at ho'; cases ho'
    exact ⟨_, es', ep', hL, r'⟩) hok I.bare
/-- behind a call (or a comprehension's block): the slots of this frame may have changed too, the records at ch may have turned -/
theorem Inv.call {g' : Array GenState} {t' : Nat} {d' : Drawn} {ch : List Addr} (I : Inv X pins σ H s) (u : Un (frs X.stack) ch H H' s.heap h') (hok : HOk X.prog X.w H' h') (hg : AllBare g')
    (hch : ∀ b ∈ ch, (b ∈ X.ex ∨ X.s₀.heap.objs.size ≤ b) ∧ b ≠ X.env.locals ∧ (∀ x c, X.env.cells.lookup x = some c → c ≠ b) ∧ ∀ p ∈ X.pn ++ pins, p.1 ≠ b) :
    Inv X pins σ H' { s with heap := h', gens := g', drawn := d', toks := t' } := by
  obtain ⟨m, ⟨o, es, ep, ho, r⟩, _⟩ := id I.loc
  obtain ⟨sl, hL⟩ := u.any ho I.free fun z => (hch _ z).2.1 rfl
  exact I.step (ch := ch) hch (fun b o hL hb hc e n => u.keep b o e n (fun z => (List.mem_cons.mp (I.stkSub b z)).elim hL hb) hc) (fun b o _ _ hc e n => u.any e n hc) (fun b o hc e n => u.free b o e n hc) (fun b o hc e => u.there b o e hc) u.tups u.frzs u.tbls (fun m' hm => by
    obtain ⟨o', es', ep', ho', r'⟩ := hm
    rw [ho] at ho'; cases ho'
    exact ⟨_, es', ep', hL, r'⟩) hok hg
/-- an untracked record of ours (an iterator) has turned -/
theorem Inv.turned {t' : Nat} {it : Addr} (I : Inv X pins σ H s) (k : ∀ b o, b ≠ it → s.heap.get? b = some o → h'.get? b = some o) (hn : H it = none) (hL : it ≠ X.env.locals)
    (h1 : it ∈ X.ex ∨ X.s₀.heap.objs.size ≤ it) (h2 : ∀ x c, X.env.cells.lookup x = some c → c ≠ it) (h3 : ∀ p ∈ X.pn ++ pins, p.1 ≠ it) : Inv X pins σ H { s with heap := h', toks := t' } := by
  have nit : ∀ b u, H b = some u → b ≠ it := fun b u e z => by rw [z, hn] at e; cases e
  refine I.step (g' := s.gens) (d' := s.drawn) (ch := [it]) (fun b hb => ?_) (fun b o _ _ hc e _ => k b o (fun z => hc (by simp [z])) e) (fun b o _ _ hc e _ => ⟨o.slots, k b o (fun z => hc (by simp [z])) e⟩) (fun _ _ _ _ n => n)
    (fun b o hc e => ⟨o, k b o (fun z => hc (by simp [z])) e⟩) (fun _ _ e => e) (fun _ _ _ e => e) (fun b ps e => ⟨#[], by rw [e]; simp⟩) (fun m hm => ?_) (fun b u e => ?_) I.bare
  · have e : b = it := by simpa using hb
    subst e
    exact ⟨h1, hL, h2, h3⟩
  · obtain ⟨o, es, ep, ho, r⟩ := hm
    exact ⟨o, es, ep, k _ o (Ne.symm hL) ho, r⟩
  · refine (I.hok b u e).stay (fun c v hc q => k c v ?_ q) (fun _ q => q) fun _ _ q => q
    rcases hc with z | z
    · rw [z]; exact nit b u e
    · exact nit c _ z
theorem Inv.tok (I : Inv X pins σ H s) (t : Nat) : Inv X pins σ H { s with toks := t } := I.un (h' := s.heap) (t' := t) Un.refl I.hok
/-- all objects kept -/
theorem Inv.kept {t' : Nat} (I : Inv X pins σ H s) (k : ∀ b u, s.heap.get? b = some u → h'.get? b = some u) : Inv X pins σ H { s with heap := h', toks := t' } := I.un (Un.kept k) (I.hok.kept k)
/-- a new object laid and tracked -/
theorem Inv.laid {a : Addr} {o : HO} {t' : Nat} (I : Inv X pins σ H s) (k : ∀ b u, s.heap.get? b = some u → h'.get? b = some u) (hp : s.heap.objs.size ≤ a) (new : ObjOk X.prog X.w (upd H a o) h' a o) :
    Inv X pins σ (upd H a o) { s with heap := h', toks := t' } := I.un (Un.laid k hp (I.hok.fresh hp)) (I.hok.laid k hp new)
/-- an object written -/
theorem Inv.write {x e : Addr} {o : HO} {t' : Nat} (I : Inv X pins σ H s) (mu : Mut (H x)) (he : e = x ∨ H e = some (.own x)) (k : ∀ b u, b ≠ e → s.heap.get? b = some u → h'.get? b = some u) (heo : ∃ u, h'.get? e = some u)
    (new : ObjOk X.prog X.w (upd H x o) h' x o) : Inv X pins σ (upd H x o) { s with heap := h', toks := t' } := I.un (Un.write mu he k heo) (I.hok.write mu he k heo new)
theorem Inv.pins_of {pins' : List (Addr × Obj)} (I : Inv X pins σ H s) (h : ∀ p ∈ pins', s.heap.get? p.1 = some p.2 ∧ H p.1 = none ∧ p.1 ≠ X.env.locals ∧ p.1 ∉ X.fs ∧ ∀ v, p.2.data ≠ .cell v) : Inv X pins' σ H s :=
  ⟨I.ok, I.os, I.bare, I.base, I.loc, I.cell, I.free, I.freeC, fun p hp => (List.mem_append.mp hp).elim (fun z => I.pin p (List.mem_append_left _ z)) (h p), I.hok, I.len⟩

theorem nodup_ix {N : List Str} (hN : N.Nodup) {i j : Nat} {x : Str} (a : N[i]? = some x) (b : N[j]? = some x) : i = j := by
  obtain ⟨h1, e1⟩ := List.getElem?_eq_some_iff.mp a
  obtain ⟨h2, e2⟩ := List.getElem?_eq_some_iff.mp b
  exact (List.getElem_inj hN).mp (e1.trans e2.symm)

/-- a name is stored; what changed -/
theorem store_ok2 {M : Model} {A : Around} {E : Value → Shared → Prop} {i : Nat} {x : Str} {v : V} {u : Value} {Q : Unit → Shared → Prop} (I : Inv X pins σ H s) (hN : X.N.Nodup) (hi : X.N[i]? = some x) (hx : Loc X.env.scope x) (r : RelV v u)
    (h : ∀ s', Inv X pins (σ.set i (some v)) H s' → (∃ a, Heap.SameBut a s.heap s'.heap ∧ (a = X.env.locals ∨ X.env.cells.lookup x = some a)) → Q () s') (hf : X.fn x = true ∨ X.env.scope.names.lookup x = some .local := by first | exact .inl rfl | exact .inr rfl | assumption) : wpAny M A (storeName X.env x u) Q E s := by
  obtain ⟨m, hn, hl⟩ := id I.loc
  have hcls : (X.env.scope.kind == .class || (X.env.scope.kind == .module && X.env.locals != X.env.globals)) = false := by rw [I.ok.kind]; rfl
  have hiσ : i < σ.length := by rw [I.len]; exact (List.getElem?_eq_some_iff.mp hi).1
  have cne := I.cne
  have tracked : ∀ {a : Addr} {h' : Heap}, (∃ o, s.heap.get? a = some o ∧ H a = none) → Heap.SameBut a s.heap h' → HOk X.prog X.w H h' := fun {a h'} ha hs b ob e => by
    obtain ⟨_, _, hfree⟩ := ha
    refine (I.hok b ob e).stay (fun c w' hc q => (hs.2 c ?_).trans q) (fun _ q => q) fun _ _ q => q
    rintro rfl
    rcases hc with rfl | hc
    · rw [hfree] at e; cases e
    · rw [hfree] at hc; cases hc
  rcases hx with hk | hk
  · refine wpAny_storeName_local hk hn (fun h' hn' hs => ?_) hcls
    obtain ⟨oL, _, _, hoL, _⟩ := id hn
    refine h _ ⟨I.ok, I.os, I.bare, ⟨fun b o e n hb hx => ?_, fun b o e n hb hx => ?_, I.base.free, fun b o e hx => ?_, I.base.tups, I.base.frzs, I.base.tbls⟩, ⟨_, hn', fun j y v' e1 e2 e3 => ?_⟩, fun y c e => ?_, I.free, I.freeC, fun p hp => ?_, tracked ⟨oL, hoL, I.free⟩ hs, by simpa using I.len⟩ ⟨_, hs, .inl rfl⟩
    · exact (hs.2 b (Nat.ne_of_lt (Nat.lt_of_lt_of_le (Heap.lt_size e) I.ok.above))).trans (I.base.keep b o e n hb hx)
    · obtain ⟨sl, e1⟩ := I.base.slot b o e n hb hx
      exact ⟨sl, (hs.2 b (Nat.ne_of_lt (Nat.lt_of_lt_of_le (Heap.lt_size e) I.ok.above))).trans e1⟩
    · obtain ⟨o', e1⟩ := I.base.there b o e hx
      exact ⟨o', (hs.2 b (Nat.ne_of_lt (Nat.lt_of_lt_of_le (Heap.lt_size e) I.ok.above))).trans e1⟩
    · by_cases hj : j = i
      · subst hj
        rw [hi] at e1; cases e1
        rw [List.getElem?_set_self hiσ] at e2
        cases e2
        exact ⟨u, r, .inl ⟨hk, by simp⟩⟩
      · rw [List.getElem?_set_ne (Ne.symm hj)] at e2
        obtain ⟨u', r', q⟩ := hl j y v' e1 e2 e3
        refine ⟨u', r', ?_⟩
        rcases q with ⟨k, e⟩ | ⟨k, c, e, z⟩
        · refine .inl ⟨k, ?_⟩
          have : y ≠ x := fun e => hj (nodup_ix hN e1 (e ▸ hi))
          simp [this, e]
        · exact .inr ⟨k, c, e, z.sameBut hs (cne y c e)⟩
    · obtain ⟨w', z⟩ := I.cell y c e
      exact ⟨w', z.sameBut hs (cne y c e)⟩
    · obtain ⟨e, n, ne, nf, d⟩ := I.pin p hp
      exact ⟨(hs.2 p.1 ne).trans e, n, ne, nf, d⟩
  · have hfn : X.fn x = true := by
      rcases hf with z | z
      · exact z
      · rw [z] at hk; cases hk
    obtain ⟨c, hc⟩ := I.ok.has x (.inl hk)
    obtain ⟨w', z⟩ := I.cell x c hc
    refine wpAny_storeName_cell I.ok.kind hk hc z (fun h' hc' hs => ?_)
    obtain ⟨oc, hoc, hocd⟩ := id z
    refine h { s with heap := h' } ⟨I.ok, I.os, I.bare, ⟨fun b o e n hb hx => ?_, fun b o e n hb hx => ?_, I.base.free, fun b o e hx => ?_, I.base.tups, I.base.frzs, I.base.tbls⟩, ⟨m, hn.sameBut hs (Ne.symm (cne x c hc)), fun j y v' e1 e2 e3 => ?_⟩, fun y c' e => ?_, I.free, I.freeC, fun p hp => ?_, tracked ⟨oc, hoc, I.freeC x c hc⟩ hs, by simpa using I.len⟩ ⟨c, hs, .inr hc⟩
    · exact (hs.2 b (Nat.ne_of_lt (Nat.lt_of_lt_of_le (Heap.lt_size e) (I.ok.cab x c hfn hc)))).trans (I.base.keep b o e n hb hx)
    · obtain ⟨sl, e1⟩ := I.base.slot b o e n hb hx
      exact ⟨sl, (hs.2 b (Nat.ne_of_lt (Nat.lt_of_lt_of_le (Heap.lt_size e) (I.ok.cab x c hfn hc)))).trans e1⟩
    · obtain ⟨o', e1⟩ := I.base.there b o e hx
      exact ⟨o', (hs.2 b (Nat.ne_of_lt (Nat.lt_of_lt_of_le (Heap.lt_size e) (I.ok.cab x c hfn hc)))).trans e1⟩
    · by_cases hj : j = i
      · subst hj
        rw [hi] at e1; cases e1
        rw [List.getElem?_set_self hiσ] at e2
        cases e2
        exact ⟨u, r, .inr ⟨.inl hk, c, hc, hc'⟩⟩
      · rw [List.getElem?_set_ne (Ne.symm hj)] at e2
        obtain ⟨u', r', q⟩ := hl j y v' e1 e2 e3
        refine ⟨u', r', ?_⟩
        rcases q with q | ⟨k, c', e, z'⟩
        · exact .inl q
        · refine .inr ⟨k, c', e, z'.sameBut hs ?_⟩
          rintro rfl
          exact hj (nodup_ix hN e1 (I.ok.inj _ _ _ e hc ▸ hi))
    · by_cases hcc : c' = c
      · subst hcc; exact ⟨_, hc'⟩
      · obtain ⟨w2, z2⟩ := I.cell y c' e
        exact ⟨w2, z2.sameBut hs hcc⟩
    · obtain ⟨e, n, ne, nf, d⟩ := I.pin p hp
      refine ⟨(hs.2 p.1 ?_).trans e, n, ne, nf, d⟩
      intro q
      rw [q, hoc] at e
      have q' : oc = p.2 := Option.some.inj e
      exact d w' (by rw [← q']; exact hocd)
theorem store_ok {M : Model} {A : Around} {E : Value → Shared → Prop} {i : Nat} {x : Str} {v : V} {u : Value} {Q : Unit → Shared → Prop} (I : Inv X pins σ H s) (hN : X.N.Nodup) (hi : X.N[i]? = some x) (hx : Loc X.env.scope x) (r : RelV v u)
    (h : ∀ s', Inv X pins (σ.set i (some v)) H s' → Q () s') (hf : X.fn x = true ∨ X.env.scope.names.lookup x = some .local := by first | exact .inl rfl | exact .inr rfl | assumption) : wpAny M A (storeName X.env x u) Q E s :=
  store_ok2 I hN hi hx r (fun s' I' _ => h s' I') hf
/-- behind a call or a block, the state as it is -/
theorem Inv.call' {s' : Shared} {ch : List Addr} (I : Inv X pins σ H s) (ho : s'.os = s.os) (u : Un (frs X.stack) ch H H' s.heap s'.heap) (hok : HOk X.prog X.w H' s'.heap) (hg : AllBare s'.gens)
    (hch : ∀ b ∈ ch, (b ∈ X.ex ∨ X.s₀.heap.objs.size ≤ b) ∧ b ≠ X.env.locals ∧ (∀ x c, X.env.cells.lookup x = some c → c ≠ b) ∧ ∀ p ∈ X.pn ++ pins, p.1 ≠ b) : Inv X pins σ H' s' := by
  obtain ⟨h', g', d', t', o'⟩ := s'
  have e : o' = s.os := ho
  subst e
  exact I.call (g' := g') (t' := t') (d' := d') u hok hg hch
end

/-! ### the judgements -/
/-- an exception: its class, its own dict's address (where it has one), the abstract heap behind it -/
abbrev XK := Value → Option Addr → Hp → Prop
abbrev St := List (Option V)
abbrev VK := V → Hp → Prop
/-- an expression's reading; a test's; an argument list's -/
abbrev TE := St → Hp → VK → Prop
abbrev TT := St → Hp → (Bool → Hp → Prop) → Prop
abbrev TA := St → Hp → (List V → Hp → Prop) → Prop
/-- what is wanted behind a statement -/
structure Ends where
  nx : St → Hp → Prop
  rt : VK
  bk : St → Hp → Prop := fun _ _ => False
  ct : St → Hp → Prop := fun _ _ => False
abbrev TS := Ends → St → Hp → Prop

def EP (X : Cx) (pins : List (Addr × Obj)) (σ : St) (Q : VK) (u : Value) (s' : Shared) : Prop := ∃ v H', Inv X pins σ H' s' ∧ RelV v u ∧ Q v H'
def TP (X : Cx) (pins : List (Addr × Obj)) (σ : St) (Q : Bool → Hp → Prop) (b : Bool) (s' : Shared) : Prop := ∃ H', Inv X pins σ H' s' ∧ Q b H'
def AP (X : Cx) (pins : List (Addr × Obj)) (σ : St) (Q : List V → Hp → Prop) (us : List Value) (s' : Shared) : Prop := ∃ vs H', Inv X pins σ H' s' ∧ Vals vs us ∧ Q vs H'
def SP (X : Cx) (pins : List (Addr × Obj)) (D : Ends) (f : Flow) (s' : Shared) : Prop :=
  match f with
  | .next => ∃ σ' H', Inv X pins σ' H' s' ∧ D.nx σ' H'
  | .brk => ∃ σ' H', Inv X pins σ' H' s' ∧ D.bk σ' H'
  | .cont => ∃ σ' H', Inv X pins σ' H' s' ∧ D.ct σ' H'
  | .ret u => ∃ v σ' H', Inv X pins σ' H' s' ∧ RelV v u ∧ D.rt v H'

def PE (X : Cx) (e : Expr) (t : TE) : Prop :=
  ∀ (pins : List (Addr × Obj)) (s : Shared) (σ : St) (H : Hp) (Q : VK), Inv X pins σ H s → t σ H Q → wpAny (model X.prog X.w) X.A (eval e X.env) (EP X pins σ Q) X.xe s
def PT (X : Cx) (e : Expr) (t : TT) : Prop :=
  ∀ (pins : List (Addr × Obj)) (s : Shared) (σ : St) (H : Hp) (Q : Bool → Hp → Prop), Inv X pins σ H s → t σ H Q → wpAny (model X.prog X.w) X.A (isTrue e X.env (eval e X.env)) (TP X pins σ Q) X.xe s
/-- a test whatever its 'whole' is (and, or) -/
def PW (X : Cx) (e : Expr) (t : TT) : Prop :=
  ∀ (whole : Sem Value) (pins : List (Addr × Obj)) (s : Shared) (σ : St) (H : Hp) (Q : Bool → Hp → Prop), Inv X pins σ H s → t σ H Q → wpAny (model X.prog X.w) X.A (isTrue e X.env whole) (TP X pins σ Q) X.xe s
theorem PW.pt {X : Cx} {e : Expr} {t : TT} (h : PW X e t) : PT X e t := h _
/-- an argument list (no star), from the left -/
def PA (X : Cx) (es : List Expr) (t : TA) : Prop :=
  ∀ (pos : Pos) (pins : List (Addr × Obj)) (s : Shared) (σ : St) (H : Hp) (Q : List V → Hp → Prop), Inv X pins σ H s → t σ H Q → wpAny (model X.prog X.w) X.A (spliced (backTo pos (starEach es X.env))) (AP X pins σ Q) X.xe s
def PS (X : Cx) (st : Stmt) (t : TS) : Prop :=
  ∀ (pins : List (Addr × Obj)) (s : Shared) (σ : St) (H : Hp) (D : Ends), Inv X pins σ H s → t D σ H → wpAny (model X.prog X.w) X.A (exec st X.env) (SP X pins D) X.xe s
def PSs (X : Cx) (st : List Stmt) (t : TS) : Prop :=
  ∀ (pins : List (Addr × Obj)) (s : Shared) (σ : St) (H : Hp) (D : Ends), Inv X pins σ H s → t D σ H → wpAny (model X.prog X.w) X.A (execs st X.env) (SP X pins D) X.xe s
/-- weaken the end -/
theorem thn {α : Type} {t : Sem α} {Q Q' : α → Shared → Prop} {M : Model} {A : Around} {E : Value → Shared → Prop} {s : Shared} (h : wpAny M A t Q E s) (hQ : ∀ a s, Q a s → Q' a s) : wpAny M A t Q' E s := wpAny_mono h hQ fun _ _ x => x
end L2

namespace L2
open PySem PySem.Spec PyProof.Rows
section
variable {X : Cx}

/-- two expressions in a row -/
theorem bin {a b : Expr} {ta tb : TE} (ha : PE X a ta) (hb : PE X b tb) {pins : List (Addr × Obj)} {s : Shared} {σ : St} {H : Hp} {R : V → V → Hp → Prop} (I : Inv X pins σ H s) (h : ta σ H fun x H1 => tb σ H1 fun y H2 => R x y H2)
    {α : Type} {Q : α → Shared → Prop} {f : Value → Value → Sem α}
    (hf : ∀ v u s2 x y H2, Inv X pins σ H2 s2 → RelV x v → RelV y u → R x y H2 → wpAny (model X.prog X.w) X.A (f v u) Q X.xe s2) :
    wpAny (model X.prog X.w) X.A (eval a X.env) (fun v s₁ => wpAny (model X.prog X.w) X.A (eval b X.env) (fun u s₂ => wpAny (model X.prog X.w) X.A (f v u) Q X.xe s₂) X.xe s₁) X.xe s := by
  refine thn (ha pins s σ H _ I h) fun v s1 ⟨x, H1, I1, r1, q1⟩ => ?_
  refine thn (hb pins s1 σ H1 _ I1 q1) fun u s2 ⟨y, H2, I2, r2, q2⟩ => ?_
  exact hf v u s2 x y H2 I2 r1 r2 q2

/-! ### names and constants -/
def tVar (i : Nat) : TE := fun σ H Q => ∃ v, σ[i]? = some (some v) ∧ Q v H
def tC (v : V) : TE := fun _ H Q => Q v H
theorem pe_var {i : Nat} {x : Str} {pos : Pos} (hN : X.N[i]? = some x) (hv : Vis X.env.scope x) (hd : (x == ("__debug__" : Str)) = false := by decide) (hcd : (x == ("__classdict__" : Str)) = false := by decide) : PE X (.Name x pos) (tVar i) := by
  intro pins s σ H Q I h
  obtain ⟨v, e, h⟩ := h
  obtain ⟨m, hn, hl⟩ := I.loc
  obtain ⟨u, r, l⟩ := hl i x v hN e hv
  have fin : EP X pins σ Q u s := ⟨v, H, I, r, h⟩
  rcases l with ⟨hk, hm⟩ | ⟨hk, c, hc, hcell⟩
  · exact wpAny_Name (wpAny_loadName_local I.ok.kind hk hn hm fin) hd
  · rcases hk with hk | hk
    · exact wpAny_Name (wpAny_loadName_cell I.ok.kind hk hc hcell fin) hd
    · exact wpAny_Name (wpAny_loadName_free I.ok.kind hk hc hcell fin hcd) hd
theorem pe_int {i j pos} : PE X (.Constant (.int i) j pos) (tC (.int i)) := fun _ _ _ H _ I h => wpAny_Constant_int ⟨.int i, H, I.tok _, ⟨_, rfl⟩, h⟩
theorem pe_bl {b j pos} : PE X (.Constant (.bool b) j pos) (tC (.bl b)) := fun _ _ _ H _ I h => Constant_bool ⟨.bl b, H, I, rfl, h⟩
theorem pe_non {j pos} : PE X (.Constant .none j pos) (tC .non) := fun _ _ _ H _ I h => Constant_none ⟨.non, H, I, rfl, h⟩
theorem pe_str {x j pos} : PE X (.Constant (.str x) j pos) (tC (.str x)) := fun _ _ _ H _ I h => Calls.Constant_str ⟨.str x, H, I.tok _, ⟨_, rfl⟩, h⟩

/-- a global name of the def -/
def Gl (X : Cx) (x : Str) : Prop := X.env.kindOf x = some .globalImplicit
theorem ld_glob {E : Value → Shared → Prop} {pins : List (Addr × Obj)} {s : Shared} {σ : St} {H : Hp} {x : Str} {u : Value} {pos : Pos} {Q : Value → Shared → Prop} (I : Inv X pins σ H s) (hg : Gl X x) (hm : X.mg x = some u) (h : Q u s)
    (hd : (x == ("__debug__" : Str)) = false := by decide) : wpAny (model X.prog X.w) X.A (eval (.Name x pos) X.env) Q E s :=
  Calls.Name_function_global I.ok.kind hg (Calls.loadGlobal_global (by rw [I.ok.glob]; exact I.mod.glob.keeps I.bk) hm h) hd
theorem ld_blt {E : Value → Shared → Prop} {pins : List (Addr × Obj)} {s : Shared} {σ : St} {H : Hp} {x : Str} {u : Value} {pos : Pos} {Q : Value → Shared → Prop} (I : Inv X pins σ H s) (hg : Gl X x) (hm : X.mg x = none) (hv : bootBuiltins x = some u) (h : Q u s)
    (hn : x ≠ "__name__" := by decide) (hd : (x == ("__debug__" : Str)) = false := by decide) : wpAny (model X.prog X.w) X.A (eval (.Name x pos) X.env) Q E s := by
  obtain ⟨mb, h1, h2⟩ := I.mod.blt
  exact Calls.Name_function_global I.ok.kind hg (Calls.loadGlobal_builtin (by rw [I.ok.glob]; exact I.mod.glob.keeps I.bk) hm (by rw [I.ok.blt]; exact h1.keeps I.bk) ((h2 x hn).trans hv) h) hd
/-- a module's constant, a class, a function, as a value -/
theorem pe_glob {x : Str} {v : V} {u : Value} {pos : Pos} (hg : Gl X x) (hm : X.mg x = some u) (r : RelV v u) (hd : (x == ("__debug__" : Str)) = false := by decide) : PE X (.Name x pos) (tC v) :=
  fun _ _ _ H _ I h => ld_glob I hg hm ⟨v, H, I, r, h⟩ hd
/-! ### arithmetic -/
variable {a b : Expr} {ta tb : TE} {pos : Pos}
/-! ### comparisons -/
def PC (X : Cx) (op : CmpOp) (a b : Expr) (t : TE) : Prop :=
  ∀ (pins : List (Addr × Obj)) (s : Shared) (σ : St) (H : Hp) (Q : VK), Inv X pins σ H s → t σ H Q →
    wpAny (model X.prog X.w) X.A (eval a X.env) (fun v s₁ => wpAny (model X.prog X.w) X.A (eval b X.env) (fun u s₂ => wpAny (model X.prog X.w) X.A (compareOp op v u) (EP X pins σ Q) X.xe s₂) X.xe s₁) X.xe s
/-- a comparison as a value, as a test -/
def tB (t : TE) : TT := fun σ H Q => t σ H fun x H1 => ∃ c, x = .bl c ∧ Q c H1
theorem pt_cmp {op : CmpOp} {t : TE} (h : PC X op a b t) (h1 : behindInMarks op b = false := by first | exact nobehind _ (by decide) (by decide) | rfl) : PT X (.Compare a [op] [b] pos) (tB t) := by
  intro pins s σ H Q I hw
  refine wpAny_isTrue_Compare1 (thn (h pins s σ H _ I hw) fun v s1 h1 => thn h1 fun u s2 h2 => thn h2 fun c s3 ⟨x, H1, I1, r1, q1⟩ => ?_) h1
  obtain ⟨d, rfl, q⟩ := q1
  cases r1
  exact wpAny_truthy_bool ⟨H1, I1, q⟩
/-- an expression whose value is a bool, as a test -/
theorem pt_val {e : Expr} {t : TE} (h : PE X e t) (he : ∀ whole, isTrue e X.env whole = (do let v ← whole; standAt e.pos; holding [v] (truthy v)) := by intro _; rfl) : PT X e (tB t) := by
  intro pins s σ H Q I hw
  refine isTrue_plain (thn (h pins s σ H _ I hw) fun v s1 ⟨x, H1, I1, r1, q1⟩ => ?_) (he _)
  obtain ⟨d, rfl, q⟩ := q1
  cases r1
  exact wpAny_truthy_bool ⟨H1, I1, q⟩

/-! ### and, or, not -/
variable {tA tB' : TT} {rest : List Expr}
def tAnd (t u : TT) : TT := fun σ H Q => t σ H fun c H1 => if c = true then u σ H1 Q else Q false H1
def tOr (t u : TT) : TT := fun σ H Q => t σ H fun c H1 => if c = true then Q true H1 else u σ H1 Q
def tNot (t : TT) : TT := fun σ H Q => t σ H fun c H1 => Q (!c) H1
theorem pw_and1 (ha : PT X a tA) : PW X (.BoolOp .And [a] pos) tA := by
  intro wh pins s σ H Q I h
  refine isTrue_and (thn (ha pins s σ H Q I h) fun c s1 e => ?_)
  cases c with
  | true => exact isTrue_and_nil e
  | false => exact e
theorem pw_or1 (ha : PT X a tA) : PW X (.BoolOp .Or [a] pos) tA := by
  intro wh pins s σ H Q I h
  refine isTrue_or (thn (ha pins s σ H Q I h) fun c s1 e => ?_)
  cases c with
  | false => exact isTrue_or_nil e
  | true => exact e
theorem pw_and (ha : PT X a tA) (hb : PW X (.BoolOp .And (b :: rest) pos) tB') : PW X (.BoolOp .And (a :: b :: rest) pos) (tAnd tA tB') := by
  intro wh pins s σ H Q I h
  refine isTrue_and (thn (ha pins s σ H _ I h) fun c s1 ⟨H1, I1, q1⟩ => ?_)
  cases c with
  | true => exact hb wh pins s1 σ H1 Q I1 q1
  | false => exact ⟨H1, I1, q1⟩
theorem pw_or (ha : PT X a tA) (hb : PW X (.BoolOp .Or (b :: rest) pos) tB') : PW X (.BoolOp .Or (a :: b :: rest) pos) (tOr tA tB') := by
  intro wh pins s σ H Q I h
  refine isTrue_or (thn (ha pins s σ H _ I h) fun c s1 ⟨H1, I1, q1⟩ => ?_)
  cases c with
  | true => exact ⟨H1, I1, q1⟩
  | false => exact hb wh pins s1 σ H1 Q I1 q1
theorem pt_not (ha : PT X a tA) : PT X (.UnaryOp .Not a pos) (tNot tA) := by
  intro pins s σ H Q I h
  exact isTrue_not (ha pins s σ H (fun c H1 => Q (!c) H1) I h)
/-- .. as values (bools) -/
def tAndV (ta tb : TE) : TE := fun σ H Q => ta σ H fun x H1 => ∃ c, x = .bl c ∧ if c = true then tb σ H1 Q else Q (.bl false) H1
theorem pe_one {op} {t : TE} (h : PE X a t) : PE X (.BoolOp op [a] pos) t := fun pins s σ H Q I hw => BoolOp_one (h pins s σ H Q I hw)
theorem pe_and (ha : PE X a ta) (hb : PE X (.BoolOp .And (b :: rest) pos) tb) : PE X (.BoolOp .And (a :: b :: rest) pos) (tAndV ta tb) := by
  intro pins s σ H Q I h
  refine BoolOp_and (thn (ha pins s σ H _ I h) fun v s1 ⟨x, H1, I1, r1, q1⟩ => ?_)
  obtain ⟨c, rfl, q1⟩ := q1
  cases r1
  refine wpAny_truthy_bool ?_
  cases c with
  | true => exact hb pins s1 σ H1 Q I1 q1
  | false => exact ⟨.bl false, H1, I1, rfl, q1⟩
/-- a if t else b -/
def tIf (t : TT) (ta tb : TE) : TE := fun σ H Q => t σ H fun c H1 => if c = true then ta σ H1 Q else tb σ H1 Q
theorem pe_ifExp {c : Expr} (hc : PT X c tA) (ha : PE X a ta) (hb : PE X b tb) : PE X (.IfExp c a b pos) (tIf tA ta tb) := by
  intro pins s σ H Q I h
  refine wpAny_IfExp (thn (hc pins s σ H _ I h) fun d s1 ⟨H1, I1, q1⟩ => ?_)
  cases d with
  | true => exact ha pins s1 σ H1 Q I1 q1
  | false => exact hb pins s1 σ H1 Q I1 q1
end
end L2

namespace L2
open PySem PySem.Spec PyProof.Rows

/-! ### a list, a tuple that is read: tracked, frozen, or an object of the module -/
def SqL (K : PySem.W.Frag) (H : Hp) (a : Addr) (xs : List V) : Prop :=
  Rd H a (.lst xs) ∨
    ∃ (o : Obj) (its : Array Value) (n : Nat), K.lookup a = some o ∧ o.cls = .type "list" ∧ o.dict = none ∧ o.data = .seq its n ∧ its.size ≤ sizeLine ∧ Vals xs its.toList
def SqT (K : PySem.W.Frag) (H : Hp) (a : Addr) (xs : List V) : Prop :=
  Rd H a (.tup xs) ∨
    ∃ (o : Obj) (its : Array Value) (n : Nat), K.lookup a = some o ∧ o.cls = .type "tuple" ∧ o.data = .seq its n ∧ its.size ≤ sizeLine ∧ Vals xs its.toList
def absV : Value → Option V
  | .none => some .non
  | .bool b => some (.bl b)
  | .int i _ => some (.int i)
  | .str x _ => some (.str x)
  | .bytes b _ => some (.byt b)
  | .float b _ => some (.flt b)
  | .ref a => some (.ref a)
  | .type n => some (.ty n)
  | _ => none
theorem RelV.abs {x : V} {u : Value} (r : RelV x u) : absV u = some x := by
  cases x with
  | non => cases r; rfl
  | bl _ => cases r; rfl
  | int _ => obtain ⟨t, rfl⟩ := r; rfl
  | str _ => obtain ⟨t, rfl⟩ := r; rfl
  | byt _ => obtain ⟨t, rfl⟩ := r; rfl
  | flt _ => obtain ⟨t, rfl⟩ := r; rfl
  | ref _ => cases r; rfl
  | ty _ => cases r; rfl
theorem RelV.inj {x y : V} {u : Value} (r : RelV x u) (q : RelV y u) : x = y := Option.some.inj (r.abs.symm.trans q.abs)
theorem Vals.inj : ∀ {xs ys : List V} {us : List Value}, Vals xs us → Vals ys us → xs = ys
  | _, _, _, .nil, .nil => rfl
  | _, _, _, .cons r t, .cons r' t' => by rw [r.inj r', Vals.inj t t']
section
variable {X : Cx} {pins : List (Addr × Obj)} {σ : St} {H : Hp} {s : Shared} {a : Addr} {xs ys : List V}
theorem SqL.of {K : PySem.W.Frag} (h : H a = some (.lst xs)) : SqL K H a xs := .inl (.inl h)
theorem SqT.of {K : PySem.W.Frag} (h : H a = some (.tup xs)) : SqT K H a xs := .inl (.inl h)
theorem Inv.list (I : Inv X pins σ H s) (h : SqL X.K H a xs) : ∃ its : List Value, Vals xs its ∧ PlainL s.heap a its.toArray ∧ xs.length ≤ sizeLine := by
  rcases h with h | ⟨o, its, n, hk, hc, hd, hs, hz, r⟩
  · obtain ⟨z, its, n, r, e⟩ := h.ok I.hok
    exact ⟨its, r, ⟨_, n, e, rfl, rfl, rfl⟩, z⟩
  · refine ⟨its.toList, r, ⟨o, n, I.kIn a o hk, hc, hd, by simpa using hs⟩, ?_⟩
    have e := r.length
    simp only [Array.length_toList] at e
    omega
theorem Inv.tuple (I : Inv X pins σ H s) (h : SqT X.K H a xs) : ∃ its : List Value, Vals xs its ∧ IsTup s.heap a its.toArray ∧ xs.length ≤ sizeLine := by
  rcases h with h | ⟨o, its, n, hk, hc, hs, hz, r⟩
  · obtain ⟨z, its, r, p⟩ := h.ok I.hok
    exact ⟨its, r, p, z⟩
  · refine ⟨its.toList, r, ⟨o, I.kIn a o hk, hc, n, by simpa using hs⟩, ?_⟩
    have e := r.length
    simp only [Array.length_toList] at e
    omega
theorem Inv.list_inj (I : Inv X pins σ H s) (h : SqL X.K H a xs) (h' : SqL X.K H a ys) : xs = ys := by
  obtain ⟨its, r, ⟨o, n, e, _, _, d⟩, _⟩ := I.list h
  obtain ⟨its', r', ⟨o', n', e', _, _, d'⟩, _⟩ := I.list h'
  rw [e] at e'; cases e'
  rw [d] at d'
  injection d' with d1 _
  have : its = its' := by simpa using congrArg Array.toList d1
  subst this
  exact r.inj r'
theorem Inv.tuple_inj (I : Inv X pins σ H s) (h : SqT X.K H a xs) (h' : SqT X.K H a ys) : xs = ys := by
  obtain ⟨its, r, ⟨o, e, _, n, d⟩, _⟩ := I.tuple h
  obtain ⟨its', r', ⟨o', e', _, n', d'⟩, _⟩ := I.tuple h'
  rw [e] at e'; cases e'
  rw [d] at d'
  injection d' with d1 _
  have : its = its' := by simpa using congrArg Array.toList d1
  subst this
  exact r.inj r'
end

/-! ### another wish about exceptions -/
abbrev Cx.wish (X : Cx) (E : Value → Shared → Prop) : Cx := { X with xe := E }
/-- no exception leaves -/
abbrev Cx.nox (X : Cx) : Cx := X.wish fun _ _ => False
theorem Cx.Ok.wish {X : Cx} (ok : X.Ok) (E : Value → Shared → Prop) : (X.wish E).Ok :=
  ⟨ok.mod, ok.kind, ok.glob, ok.blt, ok.above, ok.inj, ok.has, ok.cab, ok.hd, ok.frames, ok.stk, ok.exf, ok.bs, ok.bsz, ok.noex, ok.exfs, ok.funs, ok.frf⟩
theorem Cx.Ok.unwish {X : Cx} {E : Value → Shared → Prop} (ok : (X.wish E).Ok) : X.Ok :=
  ⟨ok.mod, ok.kind, ok.glob, ok.blt, ok.above, ok.inj, ok.has, ok.cab, ok.hd, ok.frames, ok.stk, ok.exf, ok.bs, ok.bsz, ok.noex, ok.exfs, ok.funs, ok.frf⟩
section
variable {X : Cx} {pins : List (Addr × Obj)} {σ : St} {H : Hp} {s : Shared} {E : Value → Shared → Prop}
theorem Inv.wish (I : Inv X pins σ H s) (E : Value → Shared → Prop) : Inv (X.wish E) pins σ H s := ⟨I.ok.wish E, I.os, I.bare, I.base, I.loc, I.cell, I.free, I.freeC, I.pin, I.hok, I.len⟩
theorem Inv.unwish (I : Inv (X.wish E) pins σ H s) : Inv X pins σ H s := ⟨I.ok.unwish, I.os, I.bare, I.base, I.loc, I.cell, I.free, I.freeC, I.pin, I.hok, I.len⟩
theorem SP.unwish {D : Ends} {f : Flow} {s' : Shared} (h : SP (X.wish E) pins D f s') : SP X pins D f s' := by
  cases f with
  | next => obtain ⟨σ', H', I, q⟩ := h; exact ⟨σ', H', I.unwish, q⟩
  | brk => obtain ⟨σ', H', I, q⟩ := h; exact ⟨σ', H', I.unwish, q⟩
  | cont => obtain ⟨σ', H', I, q⟩ := h; exact ⟨σ', H', I.unwish, q⟩
  | ret u => obtain ⟨v, σ', H', I, r, q⟩ := h; exact ⟨v, σ', H', I.unwish, r, q⟩
theorem PSs.nox {st : List Stmt} {t : TS} (h : PSs X.nox st t) : PSs X st t := fun pins s σ H D I hw =>
  wpAny_mono (h pins s σ H D (I.wish _) hw) (fun _ _ q => q.unwish) fun _ _ z => False.elim z
end

/-! ### blocks and small statements -/
section
variable {X : Cx} {st : Stmt} {rest : List Stmt} {t u : TS} {e : Expr} {te : TE} {pos : Pos}
def tNext : TS := fun D σ H => D.nx σ H
def tSeq (t u : TS) : TS := fun D σ H => t { D with nx := u D } σ H
theorem pss_nil : PSs X [] tNext := fun _ _ σ H _ I h => wpAny_execs_nil ⟨σ, H, I, h⟩
theorem pss_cons (h1 : PS X st t) (h2 : PSs X rest u) : PSs X (st :: rest) (tSeq t u) := by
  intro pins s σ H D I h
  refine wpAny_execs_cons (thn (h1 pins s σ H { D with nx := u D } I h) fun f s1 q => ?_)
  cases f with
  | next =>
    obtain ⟨σ', H', I', q⟩ := q
    exact h2 pins s1 σ' H' D I' q
  | ret v => exact q
  | brk => exact q
  | cont => exact q
theorem pss_one (h1 : PS X st t) : PSs X [st] t := by
  intro pins s σ H D I h
  refine wpAny_execs_cons (thn (h1 pins s σ H D I h) fun f s1 q => ?_)
  cases f with
  | next => exact wpAny_execs_nil q
  | ret v => exact q
  | brk => exact q
  | cont => exact q
def tBreak : TS := fun D σ H => D.bk σ H
theorem ps_break : PS X (.Break pos) tBreak := fun _ _ σ H _ I h => wpAny_Break ⟨σ, H, I, h⟩
/-- in a def's body nothing is shown -/
theorem Inv.quiet {pins : List (Addr × Obj)} {σ : St} {H : Hp} {s : Shared} (I : Inv X pins σ H s) : interactive X.env = false := by simp [interactive, I.ok.kind]
/-- an expression whose value is dropped -/
def tDrop (te : TE) : TS := fun D σ H => te σ H fun _ H1 => D.nx σ H1
theorem ps_expr (he : PE X e te) (hs : swapsWith e none pos.line X.env = pure false := by rfl) : PS X (.Expr e pos) (tDrop te) := by
  intro pins s σ H D I h
  exact wpAny_Expr_any (thn (he pins s σ H _ I h) fun v s1 ⟨x, H1, I1, r1, q1⟩ => ⟨σ, H1, I1, q1⟩) I.quiet hs
def tRet (te : TE) : TS := fun D σ H => te σ H D.rt
theorem ps_ret (he : PE X e te) : PS X (.Return (some e) pos) (tRet te) := by
  intro pins s σ H D I h
  exact wpAny_Return_some (thn (he pins s σ H _ I h) fun v s1 ⟨x, H1, I1, r1, q1⟩ => ⟨x, σ, H1, I1, r1, q1⟩)
def tIfS (c : TT) (t u : TS) : TS := fun D σ H => c σ H fun b H1 => if b = true then t D σ H1 else u D σ H1
theorem ps_if {c : Expr} {a b : List Stmt} {tc : TT} (hc : PT X c tc) (ha : PSs X a t) (hb : PSs X b u) : PS X (.If c a b pos) (tIfS tc t u) := by
  intro pins s σ H D I h
  refine wpAny_If (thn (hc pins s σ H _ I h) fun d s1 ⟨H1, I1, q1⟩ => ?_)
  cases d with
  | true => exact ha pins s1 σ H1 D I1 q1
  | false => exact hb pins s1 σ H1 D I1 q1
/-- code that the proof never comes to -/
def tNever : TS := fun _ _ _ => False
theorem ps_never : PS X st tNever := fun _ _ _ _ _ _ h => h.elim
end

/-! ### targets -/
abbrev TG := V → St → Hp → (St → Hp → Prop) → Prop
abbrev TGs := List V → St → Hp → (St → Hp → Prop) → Prop
def PG (X : Cx) (target : Expr) (t : TG) : Prop :=
  ∀ (pins : List (Addr × Obj)) (s : Shared) (σ : St) (H : Hp) (v : V) (u : Value) (Q : St → Hp → Prop), Inv X pins σ H s → RelV v u → t v σ H Q →
    wpAny (model X.prog X.w) X.A (assign target X.env u) (fun _ s' => ∃ σ' H', Inv X pins σ' H' s' ∧ Q σ' H') X.xe s
/-- several targets, one after another -/
def PGs (X : Cx) (ts : List Expr) (t : TGs) : Prop :=
  ∀ (pins : List (Addr × Obj)) (s : Shared) (σ : St) (H : Hp) (vs : List V) (us : List Value) (Q : St → Hp → Prop), Inv X pins σ H s → Vals vs us → t vs σ H Q →
    wpAny (model X.prog X.w) X.A (assignInOrder ((assignEach ts X.env).map (·.2)) us) (fun _ s' => ∃ σ' H', Inv X pins σ' H' s' ∧ Q σ' H') X.xe s
section
variable {X : Cx} {pos : Pos}
def gName (i : Nat) : TG := fun v σ H Q => Q (σ.set i (some v)) H
theorem pg_name {i : Nat} {x : Str} (hN : X.N.Nodup) (hi : X.N[i]? = some x) (hx : Loc X.env.scope x) (hf : X.fn x = true ∨ X.env.scope.names.lookup x = some .local := by first | exact .inl rfl | exact .inr rfl | assumption) : PG X (.Name x pos) (gName i) := by
  intro pins s σ H v u Q I r h
  exact wpAny_assign_Name (store_ok I hN hi hx r (fun s' I' => ⟨_, H, I', h⟩) hf)
def gNil : TGs := fun vs σ H Q => vs = [] ∧ Q σ H
def gCons (t : TG) (u : TGs) : TGs := fun vs σ H Q => ∃ v r, vs = v :: r ∧ t v σ H fun σ' H' => u r σ' H' Q
theorem pgs_nil : PGs X [] gNil := by
  intro pins s σ H vs us Q I r h
  obtain ⟨e, h⟩ := h
  subst e
  cases r
  exact assignInOrder_nil ⟨σ, H, I, h⟩
theorem pgs_cons {e : Expr} {es : List Expr} {t : TG} {u : TGs} (h1 : PG X e t) (h2 : PGs X es u)
    (hs : (assignEach (e :: es) X.env).map (·.2) = assign e X.env :: (assignEach es X.env).map (·.2) := by rfl) : PGs X (e :: es) (gCons t u) := by
  intro pins s σ H vs us Q I r h
  obtain ⟨v, vr, e1, h⟩ := h
  subst e1
  cases r with
  | cons r rr =>
    rw [hs]
    refine assignInOrder_cons (thn (h1 pins s σ H _ _ _ I r h) fun _ s1 ⟨σ1, H1, I1, q1⟩ => ?_)
    exact h2 pins s1 σ1 H1 _ _ Q I1 rr q1
/-- (a, b, ..) = a tuple of that length -/
def gTup (K : PySem.W.Frag) (n : Nat) (t : TGs) : TG := fun v σ H Q => ∃ a xs, v = .ref a ∧ SqT K H a xs ∧ xs.length = n ∧ t xs σ H Q
theorem pg_tup {es : List Expr} {k : Nat} {t : TGs} {n : Nat} (hc : X.calm = true) (h : PGs X es t)
    (hn : (assignEach es X.env).length = n := by rfl) (hst : (assignEach es X.env).findIdx? (·.1) = none := by rfl) : PG X (.Tuple es k pos) (gTup X.K n t) := by
  intro pins s σ H v u Q I r hw
  obtain ⟨a, xs, e1, hq, hl, hw⟩ := hw
  subst e1
  cases r
  obtain ⟨its, rv, ht, hz⟩ := I.tuple hq
  refine assign_Tuple_tuple (I.ok.hd hc) ht (by simp [hn, ← hl, rv.length]) hst fun h' hx => ?_
  have I1 : Inv X pins σ H { s with heap := h' } := I.kept (t' := s.toks) fun b o e => hx b o (Nat.ne_of_lt (Heap.lt_size e)) e
  exact h pins _ σ H xs _ Q I1 (by simpa using rv) hw
/-- target = value -/
def tAsg (te : TE) (g : TG) : TS := fun D σ H => te σ H fun x H1 => g x σ H1 D.nx
theorem ps_asg {tg e : Expr} {te : TE} {g : TG} (he : PE X e te) (hg : PG X tg g) (hs : swapsWithSole [tg] e pos.line X.env = pure false := by rfl) (hw : swappedStores [tg] e X.env = pure none := by rfl)
    (h1 : (assignEach [tg] X.env).map (·.2) = [assign tg X.env] := by rfl) : PS X (.Assign [tg] e pos) (tAsg te g) := by
  intro pins s σ H D I h
  refine wpAny_Assign_stores (thn (he pins s σ H _ I h) fun v s1 ⟨x, H1, I1, r1, q1⟩ => ?_) hs hw
  rw [h1]
  exact thn (hg pins s1 σ H1 x v _ I1 r1 q1) fun _ s2 q => q
/-- name = value -/
theorem ps_set {i : Nat} {x : Str} {e : Expr} {te : TE} {pos' : Pos} (hN : X.N.Nodup) (hi : X.N[i]? = some x) (hx : Loc X.env.scope x) (he : PE X e te) (hs : swapsWith e (some (.Name x pos')) pos.line X.env = pure false := by rfl) (hf : X.fn x = true ∨ X.env.scope.names.lookup x = some .local := by first | exact .inl rfl | exact .inr rfl | assumption) :
    PS X (.Assign [.Name x pos'] e pos) (tAsg te (gName i)) := by
  intro pins s σ H D I h
  refine wpAny_Assign_Name (thn (he pins s σ H _ I h) fun v s1 ⟨y, H1, I1, r1, q1⟩ => ?_) hs
  exact store_ok I1 hN hi hx r1 (fun s2 I2 => ⟨_, H1, I2, q1⟩) hf
end

/-! ### while -/
section
variable {X : Cx} {pos : Pos}
/-- the invariant W with its measure -/
def tWhile (c : TT) (tb : TS) : TS := fun D σ H => ∃ W : Nat → St → Hp → Prop, (∃ m, W m σ H) ∧ ∀ m σ H, W m σ H →
  c σ H fun b H1 => if b = true then ∃ N : St → Hp → Prop, (∀ σ' H', N σ' H' → ∃ m', m' < m ∧ W m' σ' H') ∧ tb { D with nx := N, ct := N, bk := D.nx } σ H1 else D.nx σ H1
theorem ps_while {c : Expr} {body : List Stmt} {tc : TT} {tb : TS} (hp : PassesOwn (model X.prog X.w) X.A X.env X.xe) (hc : PT X c tc) (hb : PSs X body tb) : PS X (.While c body [] pos) (tWhile tc tb) := by
  intro pins s σ H D I h
  obtain ⟨W, ⟨m0, w0⟩, turn⟩ := h
  refine wpAny_While (codeAny_whileLoop (fun n s' => ∃ σ' H', Inv X pins σ' H' s' ∧ W n σ' H') ?_ m0 ⟨σ, H, I, w0⟩)
  rintro n s1 ⟨σ1, H1, I1, w1⟩
  refine wpAny_passesOwn hp (thn (hc pins s1 σ1 H1 _ I1 (turn n σ1 H1 w1)) fun b s2 ⟨H2, I2, q2⟩ => ?_)
  cases b with
  | true =>
    obtain ⟨N, hN, q2⟩ := q2
    rw [if_pos rfl]
    refine wpAny_passesOwn hp (thn (hb pins s2 σ1 H2 _ I2 q2) fun f s3 q3 => ?_)
    cases f with
    | next =>
      obtain ⟨σ3, H3, I3, n3⟩ := q3
      obtain ⟨m', hm, w3⟩ := hN σ3 H3 n3
      exact ⟨m', hm, σ3, H3, I3, w3⟩
    | cont =>
      obtain ⟨σ3, H3, I3, n3⟩ := q3
      obtain ⟨m', hm, w3⟩ := hN σ3 H3 n3
      exact ⟨m', hm, σ3, H3, I3, w3⟩
    | brk => exact q3
    | ret v => exact q3
  | false =>
    rw [if_neg Bool.false_ne_true]
    exact wpAny_execs_nil ⟨σ1, H2, I2, q2⟩
end

/-! ### what a loop or a comprehension walks -/
/-- at turn i: it yields x (the heap may grow), or it stops -/
structure It where
  go : Nat → Hp → Prop
  yld : Nat → Hp → V → Hp → Prop
  stop : Nat → Hp → Prop
/-- the iterator's own objects may turn: they are not the frame's, not pinned, younger than the entry (or a comprehension's own) -/
def FpOk (X : Cx) (pins : List (Addr × Obj)) (H : Hp) (b : Addr) : Prop :=
  H b = none ∧ b ≠ X.env.locals ∧ b ∉ X.fs ∧ (b ∈ X.ex ∨ X.s₀.heap.objs.size ≤ b) ∧ (∀ x c, X.env.cells.lookup x = some c → c ≠ b) ∧ ∀ p ∈ X.pn ++ pins, p.1 ≠ b
theorem Inv.fpOk {X : Cx} {pins : List (Addr × Obj)} {σ : St} {H H' : Hp} {s : Shared} {b : Addr} (I : Inv X pins σ H s) (hb : s.heap.objs.size ≤ b) (hn : H' b = none) : FpOk X pins H' b := by
  refine ⟨hn, Nat.ne_of_gt (Nat.lt_of_lt_of_le I.lt hb), I.nofs hb, .inr (Nat.le_trans I.sz hb), fun x c e z => ?_, fun p hp z => ?_⟩
  · obtain ⟨v, q⟩ := I.cell x c e
    exact absurd (Nat.lt_of_lt_of_le q.lt (by rw [z]; exact hb)) (Nat.lt_irrefl _)
  · exact absurd (Nat.lt_of_lt_of_le (Heap.lt_size (I.pin p hp).1) (by rw [z]; exact hb)) (Nat.lt_irrefl _)
structure Turn (P : Program) (w : World) (K : PySem.W.Frag) (tg : Expr) (J : It) (fp : List Addr) (it : Addr) (tn : Nat → Heap → Prop) : Prop where
  mem : it ∈ fp
  obj : ∀ i h, tn i h → ∀ b ∈ fp, ∃ o, h.get? b = some o ∧ ∀ v, o.data ≠ .cell v
  keep : ∀ i h h', tn i h → (∀ b ∈ fp, ∀ o, h.get? b = some o → h'.get? b = some o) → tn i h'
  item : ∀ (X : Cx), X.prog = P → X.w = w → X.K = K → X.calm = true → ∀ (i : Nat) (pins : List (Addr × Obj)) (s : Shared) (σ : St) (H : Hp) (E : Value → Shared → Prop), Inv X pins σ H s → (∀ b ∈ fp, FpOk X pins H b) → tn i s.heap → J.go i H →
    wpAny (model P w) X.A (pyNext (.ref it)) (fun r s1 => ∃ u, r = some u ∧
      wpAny (model P w) X.A (letOwnedTupleGo tg (.ref it) u) (fun _ s2 => ∃ x H', Inv X pins σ H' s2 ∧ RelV x u ∧ J.yld i H x H' ∧ tn (i + 1) s2.heap ∧ ∀ b ∈ fp, H' b = none) E s1) E s
  done : ∀ (X : Cx), X.prog = P → X.w = w → X.K = K → X.calm = true → ∀ (i : Nat) (pins : List (Addr × Obj)) (s : Shared) (σ : St) (H : Hp) (E : Value → Shared → Prop), Inv X pins σ H s → (∀ b ∈ fp, FpOk X pins H b) → tn i s.heap → J.stop i H →
    wpAny (model P w) X.A (pyNext (.ref it)) (fun r s1 => r = none ∧ Inv X pins σ H s1) E s
  self : ∀ (A : Around) (i : Nat) (s : Shared) (Q : Value → Shared → Prop) (E : Value → Shared → Prop), tn i s.heap → Q (.ref it) s → wpAny (model P w) A (pyIter (.ref it)) Q E s
abbrev TI := St → Hp → (It → Hp → Prop) → Prop
/-- an iterator has come -/
def PIE (X : Cx) (pins : List (Addr × Obj)) (σ : St) (tg : Expr) (R : It → Hp → Prop) (itv : Value) (s2 : Shared) : Prop :=
  ∃ (it : Addr) (fp : List Addr) (tn : Nat → Heap → Prop) (J : It) (H' : Hp), itv = .ref it ∧ Inv X pins σ H' s2 ∧ Turn X.prog X.w X.K tg J fp it tn ∧ tn 0 s2.heap ∧ (∀ b ∈ fp, FpOk X pins H' b) ∧ R J H'
def PI (X : Cx) (tg iter : Expr) (wi : TI) : Prop :=
  ∀ (pins : List (Addr × Obj)) (s : Shared) (σ : St) (H : Hp) (R : It → Hp → Prop), Inv X pins σ H s → wi σ H R →
    wpAny (model X.prog X.w) X.A (eval iter X.env) (fun v s1 => wpAny (model X.prog X.w) X.A (pyIter v) (PIE X pins σ tg R) X.xe s1) X.xe s

/-- the step ahead of the store is nothing for an iterator that keeps no tuple -/
theorem go_of {M : Model} {A : Around} {E : Value → Shared → Prop} {s : Shared} {tg : Expr} {it : Addr} {u : Value} {o : Obj} {n : String} {vs : Array Value} {Q : Unit → Shared → Prop} (ho : s.heap.get? it = some o) (hc : o.cls = .type n) (hd : o.data = .fields vs)
    (hn : ["enumerate", "zip", "dict_itemiterator", "dict_reverseitemiterator", "odict_iterator", "itertools.zip_longest", "itertools.pairwise"].contains n = false) (hQ : Q () s) : wpAny M A (letOwnedTupleGo tg (.ref it) u) Q E s := by
  unfold letOwnedTupleGo
  cases tg <;> first
    | exact wpAny_pure hQ
    | (cases u <;> first
        | exact wpAny_pure hQ
        | (refine wpAny_bind (wpAny_load ho ?_)
           rw [hc, hd]
           show wpAny M A (if (["enumerate", "zip", "dict_itemiterator", "dict_reverseitemiterator", "odict_iterator", "itertools.zip_longest", "itertools.pairwise"].contains n && vs[0]? == some (rawInt _)) = true then _ else _) Q E s
           rw [if_neg (by intro h; rw [hn, Bool.false_and] at h; cases h)]
           exact wpAny_pure hQ))

/-- the list at a, as it stands at each turn (a loop may append to it) -/
def Itl (K : PySem.W.Frag) (a : Addr) : It :=
  ⟨fun i H => ∃ xs x, SqL K H a xs ∧ xs[i]? = some x, fun i H x H' => H' = H ∧ ∀ xs, SqL K H a xs → xs[i]? = some x, fun i H => ∃ xs, SqL K H a xs ∧ xs.length ≤ i⟩
/-- lo, lo + 1, .. (n of them) -/
def Itr (lo : Int) (n : Nat) : It := ⟨fun i _ => i < n, fun i H x H' => H' = H ∧ x = .int (lo + i), fun i _ => n ≤ i⟩
theorem turn_list {P : Program} {w : World} {K : PySem.W.Frag} {tg : Expr} (a it : Addr) : Turn P w K tg (Itl K a) [it] it (fun i h => h.IsListIter it a i) where
  mem := by simp
  obj := fun i h st b hb => by
    have e : b = it := by simpa using hb
    subst e
    obtain ⟨o, e, c, d⟩ := st
    exact ⟨o, e, fun v z => by rw [d] at z; cases z⟩
  keep := fun i h h' st k => st.at fun o e => k it (by simp) o e
  item := by
    intro X hP hw hK hc i pins s σ H E I hf st hg
    subst hP hw hK
    obtain ⟨xs, x, hq, hx⟩ := hg
    obtain ⟨its, rv, p, hz⟩ := I.list hq
    obtain ⟨u, hu, ru⟩ := rv.get hx
    obtain ⟨f0, f1, f2, f3, f4, f5⟩ := hf it (by simp)
    refine wpAny_pyNext_list_item st p.isList (x := u) (by simpa using hu) fun h' st' sb => ?_
    have I1 : Inv X pins σ H { s with heap := h' } := I.turned (t' := s.toks) (fun b o hb e => (sb.2 b hb).trans e) f0 f1 f3 f4 f5
    obtain ⟨o, e, c, d⟩ := id st'
    exact ⟨u, rfl, go_of (s := { s with heap := h' }) e c d (by decide) ⟨x, H, I1, ru, ⟨rfl, fun ys hy => by rw [I.list_inj hy hq]; exact hx⟩, st', fun b hb => (hf b hb).1⟩⟩
  done := by
    intro X hP hw hK hc i pins s σ H E I hf st hg
    subst hP hw hK
    obtain ⟨xs, hq, hx⟩ := hg
    obtain ⟨its, rv, p, hz⟩ := I.list hq
    obtain ⟨f0, f1, f2, f3, f4, f5⟩ := hf it (by simp)
    have hl := rv.length
    exact wpAny_pyNext_list_end (I.ok.hd hc) st p.isList (by simp; omega) fun h' eb => ⟨rfl, I.turned (t' := s.toks) (fun b o hb e => eb b o hb e) f0 f1 f3 f4 f5⟩
  self := fun _ _ _ _ _ st h => wpAny_pyIter_listiter st h
theorem turn_range {P : Program} {w : World} {K : PySem.W.Frag} {tg : Expr} (it : Addr) (lo : Int) (n : Nat) : Turn P w K tg (Itr lo n) [it] it (fun i h => IsRangeIter h it (lo + (i : Nat) * 1) ((n : Int) - (i : Nat)) 1) where
  mem := by simp
  obj := fun i h st b hb => by
    have e : b = it := by simpa using hb
    subst e
    exact ⟨_, st, fun v z => by
      have z' : Data.fields _ = Data.cell v := z
      cases z'⟩
  keep := fun i h h' st k => k it (by simp) _ st
  item := by
    intro X hP hw hK hc i pins s σ H E I hf st hg
    subst hP hw hK
    obtain ⟨f0, f1, f2, f3, f4, f5⟩ := hf it (by simp)
    have W := Walks.range (prog := X.prog) (w := X.w) (I.ok.hd hc) it lo 1 n
    refine W.item i s _ _ hg st fun v h' tk hv st' kk => ?_
    obtain ⟨t, rfl⟩ := hv
    have I1 : Inv X pins σ H { s with heap := h', toks := tk } := I.turned (fun b o hb e => kk b o (by simpa using hb) e) f0 f1 f3 f4 f5
    refine ⟨_, rfl, go_of (s := { s with heap := h', toks := tk }) (n := "range_iterator") st' rfl rfl (by decide) ⟨.int (lo + i), H, I1, ⟨t, ?_⟩, ⟨rfl, rfl⟩, st', fun b hb => (hf b hb).1⟩⟩
    rw [Int.mul_one]
  done := by
    intro X hP hw hK hc i pins s σ H E I hf st hg
    subst hP hw hK
    obtain ⟨f0, f1, f2, f3, f4, f5⟩ := hf it (by simp)
    exact wpAny_pyNext_range_end (I.ok.hd hc) st (by have : n ≤ i := hg; omega) fun h' eb => ⟨rfl, I.turned (t' := s.toks) (fun b o hb e => eb b o hb e) f0 f1 f3 f4 f5⟩
  self := fun _ _ _ _ _ st h => wpAny_pyIter_rangeiter st h
end L2

namespace L2
open PySem PySem.Spec PyProof.Rows
section
variable {X : Cx} {tg : Expr}
def iList (K : PySem.W.Frag) (tl : TE) : TI := fun σ H R => tl σ H fun x H1 => ∃ a, x = .ref a ∧ (∃ xs, SqL K H1 a xs) ∧ R (Itl K a) H1
theorem pi_list {l : Expr} {tl : TE} (hl : PE X l tl) : PI X tg l (iList X.K tl) := by
  intro pins s σ H R I h
  refine thn (hl pins s σ H _ I h) fun v s1 ⟨x, H1, I1, r1, q1⟩ => ?_
  obtain ⟨a, e, ⟨xs, hq⟩, q⟩ := q1
  subst e
  cases r1
  obtain ⟨its, rv, p, hz⟩ := I1.list hq
  refine wpAny_pyIter_list p.isList ?_
  refine ⟨s1.heap.objs.size, [s1.heap.objs.size], _, _, H1, rfl, I1.kept (t' := s1.toks) fun b o e => Heap.get?_push_of_some _ e, turn_list a _, ⟨_, Heap.get?_push_size _ rfl, rfl, rfl⟩, fun b hb => ?_, q⟩
  have e : b = s1.heap.objs.size := by simpa using hb
  subst e
  exact I1.fpOk (Nat.le_refl _) (I1.hok.fresh (Nat.le_refl _))
/-- a range object just made, walked -/
theorem range_it {pins : List (Addr × Obj)} {σ : St} {H : Hp} {s : Shared} {R : It → Hp → Prop} {E : Value → Shared → Prop} {lo hi : Int} {t u v : Tok} {tk : Nat} (I : Inv X pins σ H s) (h1 : -(2 ^ 62) ≤ lo) (h2 : lo < 2 ^ 62) (h3 : -(2 ^ 62) ≤ hi) (h4 : hi < 2 ^ 62)
    (q : R (Itr lo (hi - lo).toNat) H) : wpAny (model X.prog X.w) X.A (pyIter (.ref s.heap.objs.size)) (PIE X pins σ tg R) E { s with heap := s.heap.push { cls := .type "range", data := .fields #[.int lo t, .int hi u, .int 1 v] }, toks := tk } := by
  refine wpAny_pyIter_range (IsRange.new ..) (small_one h1 h2 h3 h4) ?_
  have I1 : Inv X pins σ H { s with heap := s.heap.push { cls := .type "range", data := .fields #[.int lo t, .int hi u, .int 1 v] }, toks := tk } := I.kept fun b o e => Heap.get?_push_of_some _ e
  refine ⟨(s.heap.push { cls := .type "range", data := .fields #[.int lo t, .int hi u, .int 1 v] }).objs.size, [(s.heap.push { cls := .type "range", data := .fields #[.int lo t, .int hi u, .int 1 v] }).objs.size], _, _, H, rfl,
    I1.kept (t' := tk) fun b o e => Heap.get?_push_of_some _ e, turn_range _ lo (hi - lo).toNat, ?_, fun b hb => ?_, q⟩
  · have e1 : lo + ((0 : Nat) : Int) * 1 = lo := by simp
    have e2 : (((hi - lo).toNat : Nat) : Int) - ((0 : Nat) : Int) = Builtin.Range.rangeSize lo hi 1 := by rw [rangeSize_one]; split <;> omega
    show IsRangeIter _ _ (lo + ((0 : Nat) : Int) * 1) ((((hi - lo).toNat : Nat) : Int) - ((0 : Nat) : Int)) 1
    rw [e1, e2]
    exact Heap.get?_push_size _ rfl
  · have e : b = (s.heap.push { cls := .type "range", data := .fields #[.int lo t, .int hi u, .int 1 v] }).objs.size := by simpa using hb
    subst e
    exact I1.fpOk (Nat.le_refl _) (I1.hok.fresh (Nat.le_refl _))
def iRng1 (ta : TA) : TI := fun σ H R => ta σ H fun vs H1 => ∃ j : Int, vs = [.int j] ∧ -(2 ^ 62) ≤ j ∧ j < 2 ^ 62 ∧ R (Itr 0 j.toNat) H1
def iRng2 (ta : TA) : TI := fun σ H R => ta σ H fun vs H1 => ∃ i j : Int, vs = [.int i, .int j] ∧ (-(2 ^ 62) ≤ i ∧ i < 2 ^ 62 ∧ -(2 ^ 62) ≤ j ∧ j < 2 ^ 62) ∧ R (Itr i (j - i).toNat) H1
theorem pi_range1 {a : Expr} {ta : TA} {p pos : Pos} (hg : Gl X "range") (hm : X.mg "range" = none) (ha : PA X [a] ta) (hs : starEach [a] X.env = [(false, eval a X.env)] := by rfl) : PI X tg (.Call (.Name "range" p) [a] [] pos) (iRng1 ta) := by
  intro pins s σ H R I h
  refine Call_ (ld_blt I hg hm boot_range (PyProof.Rows.callWith_type1 (thn (ha pos pins s σ H _ I h) fun us s1 ⟨vs, H1, I1, r1, q1⟩ => ?_) hs rfl))
  obtain ⟨j, e, q1, q2, q⟩ := q1
  subst e
  cases r1 with
  | cons r rr =>
    cases rr
    obtain ⟨t, rfl⟩ := r
    exact call_range_1 (range_it I1 (by omega) (by omega) q1 q2 (by simpa using q))
theorem pi_range2 {a b : Expr} {ta : TA} {p pos : Pos} (hg : Gl X "range") (hm : X.mg "range" = none) (ha : PA X [a, b] ta) (hs : starEach [a, b] X.env = [(false, eval a X.env), (false, eval b X.env)] := by rfl) (hs2 : starEach [b] X.env = [(false, eval b X.env)] := by rfl) :
    PI X tg (.Call (.Name "range" p) [a, b] [] pos) (iRng2 ta) := by
  intro pins s σ H R I h
  refine Call_ (ld_blt I hg hm boot_range (PyProof.Rows.callWith_type1 (thn (ha pos pins s σ H _ I h) fun us s1 ⟨vs, H1, I1, r1, q1⟩ => ?_) (by rw [hs, hs2]) (by rw [hs2]; rfl)))
  obtain ⟨i, j, e, ⟨q1, q2, q3, q4⟩, q⟩ := q1
  subst e
  cases r1 with
  | cons r rr =>
    cases rr with
    | cons r' rr =>
      cases rr
      obtain ⟨t, rfl⟩ := r
      obtain ⟨t', rfl⟩ := r'
      exact call_range_2 (range_it I1 q1 q2 q3 q4 q)

/-! ### for -/
/-- W: the invariant by the turn and a measure; N: what the body is to reach -/
def tFor (wi : TI) (g : TG) (tb : TS) : TS := fun D σ H => wi σ H fun J H1 => ∃ W : Nat → Nat → St → Hp → Prop, (∃ m, W 0 m σ H1) ∧ ∀ i m σ H, W i m σ H →
  (J.stop i H ∧ D.nx σ H) ∨ (J.go i H ∧ ∃ N : St → Hp → Prop, (∀ σ' H', N σ' H' → ∃ m', m' < m ∧ W (i + 1) m' σ' H') ∧ ∀ x H', J.yld i H x H' → g x σ H' fun σ2 H2 => tb { D with nx := N, ct := N, bk := D.nx } σ2 H2)
/-- the records at fp as they stand -/
def pinsAt (fp : List Addr) (h : Heap) : List (Addr × Obj) := fp.filterMap fun b => (h.get? b).map fun o => (b, o)
theorem mem_pinsAt {fp : List Addr} {h : Heap} {b : Addr} {o : Obj} (hb : b ∈ fp) (e : h.get? b = some o) : (b, o) ∈ pinsAt fp h := List.mem_filterMap.mpr ⟨b, hb, by rw [e]; rfl⟩
theorem of_pinsAt {fp : List Addr} {h : Heap} {p : Addr × Obj} (hp : p ∈ pinsAt fp h) : p.1 ∈ fp ∧ h.get? p.1 = some p.2 := by
  obtain ⟨b, hb, e⟩ := List.mem_filterMap.mp hp
  cases q : h.get? b with
  | none => rw [q] at e; cases e
  | some o =>
    rw [q] at e
    have e' : (b, o) = p := Option.some.inj e
    subst e'
    exact ⟨hb, q⟩
theorem Inv.pinned {pins : List (Addr × Obj)} {σ : St} {H : Hp} {s : Shared} {fp : List Addr} (I : Inv X pins σ H s) (hf : ∀ b ∈ fp, FpOk X pins H b) (ho : ∀ b ∈ fp, ∃ o, s.heap.get? b = some o ∧ ∀ v, o.data ≠ .cell v) : Inv X (pins ++ pinsAt fp s.heap) σ H s :=
  I.pins_of fun p hp => (List.mem_append.mp hp).elim (fun z => I.pin p (List.mem_append_right _ z)) fun z => by
    obtain ⟨hb, e⟩ := of_pinsAt z
    obtain ⟨f0, f1, f2, _⟩ := hf p.1 hb
    obtain ⟨o, e', d⟩ := ho p.1 hb
    rw [e] at e'; cases e'
    exact ⟨e, f0, f1, f2, d⟩
theorem Inv.unpinned {pins pl : List (Addr × Obj)} {σ : St} {H : Hp} {s : Shared} (I : Inv X (pins ++ pl) σ H s) : Inv X pins σ H s := I.pins_of fun p hp => I.pin p (List.mem_append_right _ (List.mem_append_left _ hp))
theorem ps_for {iter : Expr} {body : List Stmt} {wi : TI} {g : TG} {tb : TS} {pos : Pos} (hp : PassesOwn (model X.prog X.w) X.A X.env X.xe) (hc : X.calm = true) (hi : PI X tg iter wi) (hg : PG X tg g) (hb : PSs X body tb)
    (hs : ∀ x, foldedSetIterable iter X.env x = pure x := by intro _; rfl) : PS X (.For tg iter body [] pos) (tFor wi g tb) := by
  intro pins s σ H D I h
  refine wpAny_For (thn (hi pins s σ H _ I h) fun v s1 h1 => thn h1 fun itv s2 h2 => ?_) hs
  obtain ⟨it, fp, tn, J, H2, e, I2, T, st2, f2, W, ⟨m0, w0⟩, turn⟩ := h2
  subst e
  -- what stays true of the iterator's objects through the loop
  have stat : ∀ {H' : Hp}, (∀ b ∈ fp, H' b = none) → ∀ b ∈ fp, FpOk X pins H' b := fun hn b hb => ⟨hn b hb, (f2 b hb).2⟩
  refine codeAny_forLoop_any (fun n s' => ∃ i σ' H', Inv X pins σ' H' s' ∧ tn i s'.heap ∧ (∀ b ∈ fp, H' b = none) ∧ W i n σ' H') ?_ m0 ⟨0, σ, H2, I2, st2, fun b hb => (f2 b hb).1, w0⟩
  rintro n s3 ⟨i, σ3, H3, I3, st3, fr3, w3⟩
  rcases turn i n σ3 H3 w3 with ⟨stop, qn⟩ | ⟨go, N, hN, step⟩
  · refine wpAny_passesOwn hp (thn (T.done X rfl rfl rfl hc i pins s3 σ3 H3 X.xe I3 (stat fr3) st3 stop) fun r s4 ⟨hr, I4⟩ => ?_)
    subst hr
    exact wpAny_execs_nil ⟨σ3, H3, I4, qn⟩
  · refine wpAny_passesOwn hp (thn (T.item X rfl rfl rfl hc i pins s3 σ3 H3 X.xe I3 (stat fr3) st3 go) fun r s4 ⟨u, hr, h4⟩ => ?_)
    subst hr
    refine wpAny_passesOwn hp (thn h4 fun _ s5 ⟨x, H5, I5, r5, y5, st5, fr5⟩ => ?_)
    have I5' := I5.pinned (stat fr5) (T.obj _ _ st5)
    refine wpAny_passesOwn hp (thn (hg _ s5 σ3 H5 x u _ I5' r5 (step x H5 y5)) fun _ s6 ⟨σ6, H6, I6, q6⟩ => ?_)
    refine wpAny_passesOwn hp (thn (hb _ s6 σ6 H6 _ I6 q6) fun f s7 q7 => ?_)
    have again : ∀ {σ7 : St} {H7 : Hp}, Inv X (pins ++ pinsAt fp s5.heap) σ7 H7 s7 → N σ7 H7 → ∃ m, m < n ∧ ∃ i σ' H', Inv X pins σ' H' s7 ∧ tn i s7.heap ∧ (∀ b ∈ fp, H' b = none) ∧ W i m σ' H' := fun {σ7 H7} I7 n7 => by
      obtain ⟨m', hm, w7⟩ := hN σ7 H7 n7
      refine ⟨m', hm, i + 1, σ7, H7, I7.unpinned, T.keep _ _ _ st5 fun b hb o e => (I7.pin (b, o) (List.mem_append_right _ (List.mem_append_right _ (mem_pinsAt hb e)))).1, fun b hb => ?_, w7⟩
      obtain ⟨o, e, d⟩ := T.obj _ _ st5 b hb
      exact (I7.pin (b, o) (List.mem_append_right _ (List.mem_append_right _ (mem_pinsAt hb e)))).2.1
    cases f with
    | next => obtain ⟨σ7, H7, I7, n7⟩ := q7; exact again I7 n7
    | cont => obtain ⟨σ7, H7, I7, n7⟩ := q7; exact again I7 n7
    | brk => obtain ⟨σ7, H7, I7, q7⟩ := q7; exact ⟨σ7, H7, I7.unpinned, q7⟩
    | ret v => obtain ⟨x7, σ7, H7, I7, r7, q7⟩ := q7; exact ⟨x7, σ7, H7, I7.unpinned, r7, q7⟩
end

/-! ### the forms one uses -/
/-- over a list that the body leaves as it is -/
theorem for_list {K : PySem.W.Frag} {a : Addr} {xs : List V} {g : TG} {tb : TS} {D : Ends} {σ : St} {H : Hp} (Pv : Nat → St → Hp → Prop) (h0 : Pv 0 σ H) (hl : ∀ i σ H, i ≤ xs.length → Pv i σ H → SqL K H a xs)
    (hs : ∀ i x σ H, xs[i]? = some x → Pv i σ H → g x σ H fun σ2 H2 => tb { D with nx := Pv (i + 1), ct := Pv (i + 1), bk := D.nx } σ2 H2) (hd : ∀ σ H, Pv xs.length σ H → D.nx σ H) :
    ∃ W : Nat → Nat → St → Hp → Prop, (∃ m, W 0 m σ H) ∧ ∀ i m σ H, W i m σ H →
      ((Itl K a).stop i H ∧ D.nx σ H) ∨ ((Itl K a).go i H ∧ ∃ N : St → Hp → Prop, (∀ σ' H', N σ' H' → ∃ m', m' < m ∧ W (i + 1) m' σ' H') ∧ ∀ x H', (Itl K a).yld i H x H' → g x σ H' fun σ2 H2 => tb { D with nx := N, ct := N, bk := D.nx } σ2 H2) := by
  refine ⟨fun i m σ H => m = xs.length - i ∧ i ≤ xs.length ∧ Pv i σ H, ⟨xs.length, by simp, Nat.zero_le _, h0⟩, ?_⟩
  rintro i m σ H ⟨rfl, hi, p⟩
  have q := hl i σ H hi p
  by_cases hlt : i < xs.length
  · refine .inr ⟨⟨xs, xs[i], q, by simp [hlt]⟩, Pv (i + 1), fun σ' H' p' => ⟨xs.length - (i + 1), by omega, rfl, hlt, p'⟩, fun x H' y => ?_⟩
    obtain ⟨e, y⟩ := y
    subst e
    exact hs i x σ _ (y xs q) p
  · have e : i = xs.length := by omega
    subst e
    exact .inl ⟨⟨xs, q, Nat.le_refl _⟩, hd σ H p⟩
theorem for_range {lo : Int} {n : Nat} {g : TG} {tb : TS} {D : Ends} {σ : St} {H : Hp} (Pv : Nat → St → Hp → Prop) (h0 : Pv 0 σ H)
    (hs : ∀ i σ H, i < n → Pv i σ H → g (.int (lo + i)) σ H fun σ2 H2 => tb { D with nx := Pv (i + 1), ct := Pv (i + 1), bk := D.nx } σ2 H2) (hd : ∀ σ H, Pv n σ H → D.nx σ H) :
    ∃ W : Nat → Nat → St → Hp → Prop, (∃ m, W 0 m σ H) ∧ ∀ i m σ H, W i m σ H →
      ((Itr lo n).stop i H ∧ D.nx σ H) ∨ ((Itr lo n).go i H ∧ ∃ N : St → Hp → Prop, (∀ σ' H', N σ' H' → ∃ m', m' < m ∧ W (i + 1) m' σ' H') ∧ ∀ x H', (Itr lo n).yld i H x H' → g x σ H' fun σ2 H2 => tb { D with nx := N, ct := N, bk := D.nx } σ2 H2) := by
  refine ⟨fun i m σ H => m = n - i ∧ i ≤ n ∧ Pv i σ H, ⟨n, by simp, Nat.zero_le _, h0⟩, ?_⟩
  rintro i m σ H ⟨rfl, hi, p⟩
  by_cases hlt : i < n
  · refine .inr ⟨hlt, Pv (i + 1), fun σ' H' p' => ⟨n - (i + 1), by omega, rfl, hlt, p'⟩, fun x H' y => ?_⟩
    obtain ⟨e, y⟩ := y
    subst e y
    exact hs i σ _ hlt p
  · have e : i = n := by omega
    subst e
    exact .inl ⟨Nat.le_refl _, hd σ H p⟩
/-- while, by a word and a measure of the state -/
theorem while_by {c : TT} {tb : TS} {D : Ends} {σ : St} {H : Hp} (Pv : St → Hp → Prop) (μ : St → Hp → Nat) (h0 : Pv σ H)
    (hs : ∀ σ H, Pv σ H → c σ H fun b H1 => if b = true then tb { D with nx := fun σ' H' => Pv σ' H' ∧ μ σ' H' < μ σ H, ct := fun σ' H' => Pv σ' H' ∧ μ σ' H' < μ σ H, bk := D.nx } σ H1 else D.nx σ H1)
    (mono : ∀ σ H Q Q', (∀ b H1, Q b H1 → Q' b H1) → c σ H Q → c σ H Q') : tWhile c tb D σ H := by
  refine ⟨fun m σ H => m = μ σ H ∧ Pv σ H, ⟨_, rfl, h0⟩, ?_⟩
  rintro m σ H ⟨rfl, p⟩
  refine mono σ H _ _ (fun b H1 q => ?_) (hs σ H p)
  cases b with
  | true => exact ⟨_, fun σ' H' ⟨p', l⟩ => ⟨_, l, rfl, p'⟩, q⟩
  | false => exact q
end L2

namespace L2
open PySem PySem.Spec PyProof.Rows

abbrev R2 := V → V → Hp → VK → Prop
/-- a two-place operation on values: f is binaryOp op, inplaceOp op or compareOp op -/
def OpR (X : Cx) (f : Value → Value → Sem Value) (r : R2) : Prop :=
  ∀ (pins : List (Addr × Obj)) (s : Shared) (σ : St) (H : Hp) (x y : V) (v u : Value) (Q : VK), Inv X pins σ H s → RelV x v → RelV y u → r x y H Q →
    wpAny (model X.prog X.w) X.A (f v u) (EP X pins σ Q) X.xe s
/-- a one-place operation -/
def UnR (X : Cx) (f : Value → Sem Value) (r : V → Hp → VK → Prop) : Prop :=
  ∀ (pins : List (Addr × Obj)) (s : Shared) (σ : St) (H : Hp) (x : V) (v : Value) (Q : VK), Inv X pins σ H s → RelV x v → r x H Q →
    wpAny (model X.prog X.w) X.A (f v) (EP X pins σ Q) X.xe s
/-- a call of a value that is known (a builtin, a type) with values -/
def CallR (X : Cx) (f : Value) (r : List V → Hp → VK → Prop) : Prop :=
  ∀ (pins : List (Addr × Obj)) (s : Shared) (σ : St) (H : Hp) (xs : List V) (us : List Value) (Q : VK), Inv X pins σ H s → Vals xs us → r xs H Q →
    wpAny (model X.prog X.w) X.A (call f us) (EP X pins σ Q) X.xe s
def tOp (r : R2) (ta tb : TE) : TE := fun σ H Q => ta σ H fun x H1 => tb σ H1 fun y H2 => r x y H2 Q
def tUn (r : V → Hp → VK → Prop) (ta : TE) : TE := fun σ H Q => ta σ H fun x H1 => r x H1 Q
/-- ints in, under C, and a value out -/
def rI (C : Int → Int → Prop) (g : Int → Int → V) : R2 := fun x y H Q => ∃ i j, x = .int i ∧ y = .int j ∧ C i j ∧ Q (g i j) H
def rI0 (g : Int → Int → V) : R2 := fun x y H Q => ∃ i j, x = .int i ∧ y = .int j ∧ Q (g i j) H
def rU (g : Int → V) : V → Hp → VK → Prop := fun x H Q => ∃ i, x = .int i ∧ Q (g i) H

section
variable {X : Cx} {a b c : Expr} {ta tb tc : TE} {pos : Pos}

theorem binT (ha : PE X a ta) (hb : PE X b tb) {pins : List (Addr × Obj)} {s : Shared} {σ : St} {H : Hp} {R : V → V → Hp → Prop} (I : Inv X pins σ H s)
    (h : ta σ H fun x H1 => tb σ H1 fun y H2 => R x y H2) {Q : Value → Shared → Prop} {f : Value → Value → Sem Value}
    (hf : ∀ v u s2 x y H2, Inv X pins σ H2 s2 → RelV x v → RelV y u → R x y H2 → wpAny (model X.prog X.w) X.A (f v u) Q X.xe s2) :
    wpAny (model X.prog X.w) X.A (eval a X.env) (fun v s₁ => wpAny (model X.prog X.w) X.A (eval b X.env) (fun u s₂ => wpAny (model X.prog X.w) X.A (f v u) Q X.xe s₂) X.xe s₁) X.xe s := by
  refine thn (ha pins s σ H _ I h) fun v s1 ⟨x, H1, I1, r1, q1⟩ => ?_
  refine thn (hb pins s1 σ H1 _ I1 q1) fun u s2 ⟨y, H2, I2, r2, q2⟩ => ?_
  exact hf v u s2 x y H2 I2 r1 r2 q2

theorem pe_op {op : Operator} {r : R2} (ho : OpR X (binaryOp op) r) (ha : PE X a ta) (hb : PE X b tb) : PE X (.BinOp a op b pos) (tOp r ta tb) := by
  intro pins s σ H Q I h
  exact wpAny_BinOp (binT ha hb I h fun v u s2 x y H2 I2 rx ry q => ho pins s2 σ H2 x y v u Q I2 rx ry q)
theorem pe_un {op : UnaryOp} {r : V → Hp → VK → Prop} (ho : UnR X (unaryOp op) r) (ha : PE X a ta) : PE X (.UnaryOp op a pos) (tUn r ta) := by
  intro pins s σ H Q I h
  exact UnaryOp_ (thn (ha pins s σ H _ I h) fun v s1 ⟨x, H1, I1, r1, q1⟩ => ho pins s1 σ H1 x v Q I1 r1 q1)
/-! ### ints -/
theorem opI {f : Value → Value → Sem Value} {C : Int → Int → Prop} {g : Int → Int → Int}
    (rule : ∀ (i j : Int) (t u : Tok) (s : Shared) (Q : Value → Shared → Prop) (E : Value → Shared → Prop), C i j → Q (.int (g i j) s.toks) { s with toks := s.toks + 1 } → wpAny (model X.prog X.w) X.A (f (.int i t) (.int j u)) Q E s) :
    OpR X f (rI C fun i j => .int (g i j)) := by
  intro pins s σ H x y v u Q I rx ry h
  obtain ⟨i, j, rfl, rfl, hc, q⟩ := h
  obtain ⟨t, rfl⟩ := rx
  obtain ⟨t', rfl⟩ := ry
  exact rule i j t t' s _ _ hc ⟨.int (g i j), H, I.tok _, ⟨_, rfl⟩, q⟩
theorem opI0 {f : Value → Value → Sem Value} {g : Int → Int → Int}
    (rule : ∀ (i j : Int) (t u : Tok) (s : Shared) (Q : Value → Shared → Prop) (E : Value → Shared → Prop), Q (.int (g i j) s.toks) { s with toks := s.toks + 1 } → wpAny (model X.prog X.w) X.A (f (.int i t) (.int j u)) Q E s) :
    OpR X f (rI0 fun i j => .int (g i j)) := by
  intro pins s σ H x y v u Q I rx ry h
  obtain ⟨i, j, rfl, rfl, q⟩ := h
  obtain ⟨t, rfl⟩ := rx
  obtain ⟨t', rfl⟩ := ry
  exact rule i j t t' s _ _ ⟨.int (g i j), H, I.tok _, ⟨_, rfl⟩, q⟩
theorem opB0 {f : Value → Value → Sem Value} {g : Int → Int → Bool}
    (rule : ∀ (i j : Int) (t u : Tok) (s : Shared) (Q : Value → Shared → Prop) (E : Value → Shared → Prop), Q (.bool (g i j)) s → wpAny (model X.prog X.w) X.A (f (.int i t) (.int j u)) Q E s) :
    OpR X f (rI0 fun i j => .bl (g i j)) := by
  intro pins s σ H x y v u Q I rx ry h
  obtain ⟨i, j, rfl, rfl, q⟩ := h
  obtain ⟨t, rfl⟩ := rx
  obtain ⟨t', rfl⟩ := ry
  exact rule i j t t' s _ _ ⟨.bl (g i j), H, I, rfl, q⟩

def CDiv (i j : Int) : Prop := 0 < j ∧ j < 1073741824
def CPow (i j : Int) : Prop := 0 ≤ j ∧ j ≤ 1000000 ∧ i.natAbs < 2 ^ 64
def CMul (i j : Int) : Prop := (-(2 ^ 64) < i ∧ i < 2 ^ 64) ∨ (-(2 ^ 64) < j ∧ j < 2 ^ 64)
theorem CMul.ok {i j : Int} (h : CMul i j) : IntMulOk i j := by
  rcases h with ⟨h1, h2⟩ | ⟨h1, h2⟩
  · exact .of_left (intBits_le_64 h1 h2)
  · exact .of_right (intBits_le_64 h1 h2)
theorem op_add : OpR X (binaryOp .Add) (rI0 fun i j => .int (i + j)) := opI0 fun _ _ _ _ _ _ _ q => add_int q
theorem op_sub : OpR X (binaryOp .Sub) (rI0 fun i j => .int (i - j)) := opI0 fun _ _ _ _ _ _ _ q => sub_int q
theorem op_mul : OpR X (binaryOp .Mult) (rI CMul fun i j => .int (i * j)) := opI fun _ _ _ _ _ _ _ hc q => mul_int q hc.ok
/-- // by a positive divisor -/
theorem op_fdiv : OpR X (binaryOp .FloorDiv) (rI CDiv fun i j => .int (i / j)) := opI fun i j _ _ _ _ _ hc q => by
  have h1 : (0 : Int) < j := hc.1
  have h2 : j < 1073741824 := hc.2
  exact floordiv_int (by omega) (by rw [Int.fdiv_eq_ediv_of_nonneg i (by omega)]; exact q) (.inl (PyProof.noPylong_small (by omega)))
/-- % by a positive divisor of any size -/
theorem op_mod : OpR X (binaryOp .Mod) (rI (fun _ j => 0 < j) fun i j => .int (i % j)) := opI fun i j _ _ _ _ _ hc q => by
  have h1 : (0 : Int) < j := hc
  exact mod_int' (by omega) (by rw [Int.fmod_eq_emod_of_nonneg i (by omega)]; exact q)
theorem op_pow : OpR X (binaryOp .Pow) (rI CPow fun i j => .int (i ^ j.toNat)) := opI fun _ _ _ _ _ _ _ hc q => pow_int_small hc.1 hc.2.1 hc.2.2 q
theorem unI {f : Value → Sem Value} {g : Int → Int}
    (rule : ∀ (i : Int) (t : Tok) (s : Shared) (Q : Value → Shared → Prop) (E : Value → Shared → Prop), Q (.int (g i) s.toks) { s with toks := s.toks + 1 } → wpAny (model X.prog X.w) X.A (f (.int i t)) Q E s) :
    UnR X f (rU fun i => .int (g i)) := by
  intro pins s σ H x v Q I rx h
  obtain ⟨i, rfl, q⟩ := h
  obtain ⟨t, rfl⟩ := rx
  exact rule i t s _ _ ⟨.int (g i), H, I.tok _, ⟨_, rfl⟩, q⟩
theorem un_neg : UnR X (unaryOp .USub) (rU fun i => .int (-i)) := unI fun _ _ _ _ _ q => neg_int q
/-! ### bools among ints: n += (a < b) -/
end

/-! ### comparisons -/
/-- the scalars that == tells apart as data does -/
def scal : V → V → Bool
  | .non, .non => true | .non, .int _ => true | .int _, .non => true | .non, .bl _ => true | .bl _, .non => true | .non, .str _ => true | .str _, .non => true
  | .int _, .int _ => true | .bl _, .bl _ => true | .str _, .str _ => true | .byt _, .byt _ => true
  | .int _, .str _ => true | .str _, .int _ => true | .bl _, .str _ => true | .str _, .bl _ => true
  | _, _ => false
def rEq : R2 := fun x y H Q => scal x y = true ∧ Q (.bl (decide (x = y))) H
def rNe : R2 := fun x y H Q => scal x y = true ∧ Q (.bl (!decide (x = y))) H

theorem dec_int {i j : Int} : decide (V.int i = V.int j) = (i == j) := by
  rw [Bool.eq_iff_iff]
  simp
theorem dec_bl {i j : Bool} : decide (V.bl i = V.bl j) = (i == j) := by
  rw [Bool.eq_iff_iff]
  simp
theorem dec_str {i j : Str} : decide (V.str i = V.str j) = (i == j) := by
  rw [Bool.eq_iff_iff]
  simp
theorem dec_byt {i j : Array UInt8} : decide (V.byt i = V.byt j) = (i.toList == j.toList) := by
  rw [Bool.eq_iff_iff]
  cases i
  cases j
  simp

section
variable {X : Cx} {a b c : Expr} {ta tb tc : TE} {pos : Pos}
theorem fin_bl {pins : List (Addr × Obj)} {σ : St} {H : Hp} {s : Shared} {Q : VK} {k k' : Bool} (I : Inv X pins σ H s) (q : Q (.bl k) H) (e : k = k') : EP X pins σ Q (.bool k') s := by
  subst e
  exact ⟨.bl k, H, I, rfl, q⟩
theorem op_eq : OpR X (compareOp .Eq) rEq := by
  intro pins s σ H x y v u Q I rx ry h
  obtain ⟨hs, q⟩ := h
  cases x with
  | non =>
    cases rx
    cases y with
    | non => cases ry; exact PySem.EqNone.eq_none_none (fin_bl I q (by simp))
    | bl j => cases ry; exact PySem.EqNone.eq_none_bool (fin_bl I q (by simp))
    | int j => obtain ⟨t', rfl⟩ := ry; exact PySem.EqNone.eq_none_int (fin_bl I q (by simp))
    | str j => obtain ⟨t', rfl⟩ := ry; exact PySem.EqNone.eq_none_str (fin_bl I q (by simp))
    | _ => exact absurd (show false = true from hs) Bool.false_ne_true
  | bl i =>
    cases rx
    cases y with
    | non => cases ry; exact PySem.EqNone.eq_bool_none (fin_bl I q (by simp))
    | bl j => cases ry; exact eq_bool (fin_bl I q dec_bl)
    | str j => obtain ⟨t', rfl⟩ := ry; exact PySem.EqMixed.eq_bool_str (fin_bl I q (by simp))
    | _ => exact absurd (show false = true from hs) Bool.false_ne_true
  | int i =>
    obtain ⟨t, rfl⟩ := rx
    cases y with
    | non => cases ry; exact PySem.EqNone.eq_int_none (fin_bl I q (by simp))
    | int j => obtain ⟨t', rfl⟩ := ry; exact eq_int (fin_bl I q dec_int)
    | str j => obtain ⟨t', rfl⟩ := ry; exact PySem.EqMixed.eq_int_str (fin_bl I q (by simp))
    | _ => exact absurd (show false = true from hs) Bool.false_ne_true
  | str i =>
    obtain ⟨t, rfl⟩ := rx
    cases y with
    | non => cases ry; exact PySem.EqNone.eq_str_none (fin_bl I q (by simp))
    | bl j => cases ry; exact PySem.EqMixed.eq_str_bool (fin_bl I q (by simp))
    | int j => obtain ⟨t', rfl⟩ := ry; exact PySem.EqMixed.eq_str_int (fin_bl I q (by simp))
    | str j => obtain ⟨t', rfl⟩ := ry; exact eq_str (fin_bl I q dec_str)
    | _ => exact absurd (show false = true from hs) Bool.false_ne_true
  | byt i =>
    obtain ⟨t, rfl⟩ := rx
    cases y with
    | byt j => obtain ⟨t', rfl⟩ := ry; exact PySem.W.eq_bytes (fin_bl I q dec_byt)
    | _ => exact absurd (show false = true from hs) Bool.false_ne_true
  | _ => cases y <;> exact absurd (show false = true from hs) Bool.false_ne_true
theorem op_ne : OpR X (compareOp .NotEq) rNe := by
  intro pins s σ H x y v u Q I rx ry h
  obtain ⟨hs, q⟩ := h
  cases x with
  | non =>
    cases rx
    cases y with
    | non => cases ry; exact PySem.EqNone.ne_none_none (fin_bl I q (by simp))
    | bl j => cases ry; exact PySem.EqNone.ne_none_bool (fin_bl I q (by simp))
    | int j => obtain ⟨t', rfl⟩ := ry; exact PySem.EqNone.ne_none_int (fin_bl I q (by simp))
    | str j => obtain ⟨t', rfl⟩ := ry; exact PySem.EqNone.ne_none_str (fin_bl I q (by simp))
    | _ => exact absurd (show false = true from hs) Bool.false_ne_true
  | bl i =>
    cases rx
    cases y with
    | non => cases ry; exact PySem.EqNone.ne_bool_none (fin_bl I q (by simp))
    | bl j => cases ry; exact ne_bool (fin_bl I q (congrArg not dec_bl))
    | str j => obtain ⟨t', rfl⟩ := ry; exact PySem.EqMixed.ne_bool_str (fin_bl I q (by simp))
    | _ => exact absurd (show false = true from hs) Bool.false_ne_true
  | int i =>
    obtain ⟨t, rfl⟩ := rx
    cases y with
    | non => cases ry; exact PySem.EqNone.ne_int_none (fin_bl I q (by simp))
    | int j => obtain ⟨t', rfl⟩ := ry; exact ne_int (fin_bl I q (congrArg not dec_int))
    | str j => obtain ⟨t', rfl⟩ := ry; exact PySem.EqMixed.ne_int_str (fin_bl I q (by simp))
    | _ => exact absurd (show false = true from hs) Bool.false_ne_true
  | str i =>
    obtain ⟨t, rfl⟩ := rx
    cases y with
    | non => cases ry; exact PySem.EqNone.ne_str_none (fin_bl I q (by simp))
    | bl j => cases ry; exact PySem.EqMixed.ne_str_bool (fin_bl I q (by simp))
    | int j => obtain ⟨t', rfl⟩ := ry; exact PySem.EqMixed.ne_str_int (fin_bl I q (by simp))
    | str j => obtain ⟨t', rfl⟩ := ry; exact ne_str (fin_bl I q (congrArg not dec_str))
    | _ => exact absurd (show false = true from hs) Bool.false_ne_true
  | byt i =>
    obtain ⟨t, rfl⟩ := rx
    cases y with
    | byt j => obtain ⟨t', rfl⟩ := ry; exact PySem.W.ne_bytes (fin_bl I q (congrArg not dec_byt))
    | _ => exact absurd (show false = true from hs) Bool.false_ne_true
  | _ => cases y <;> exact absurd (show false = true from hs) Bool.false_ne_true

theorem op_lt : OpR X (compareOp .Lt) (rI0 fun i j => .bl (decide (i < j))) := opB0 fun _ _ _ _ _ _ _ q => lt_int q
theorem op_le : OpR X (compareOp .LtE) (rI0 fun i j => .bl (decide (i ≤ j))) := opB0 fun _ _ _ _ _ _ _ q => le_int q
theorem op_gt : OpR X (compareOp .Gt) (rI0 fun i j => .bl (decide (j < i))) := opB0 fun _ _ _ _ _ _ _ q => gt_int q
theorem op_ge : OpR X (compareOp .GtE) (rI0 fun i j => .bl (decide (j ≤ i))) := opB0 fun _ _ _ _ _ _ _ q => ge_int q
/-- is None, is not None: the right side a value none -/
theorem op_isN : OpR X (compareOp .Is) (fun x y H Q => y = .non ∧ Q (.bl (decide (x = .non))) H) := by
  intro pins s σ H x y v u Q I rx ry h
  obtain ⟨rfl, q⟩ := h
  cases ry
  refine is_none_gen (fin_bl I q ?_)
  cases x <;> first
    | (cases rx; rfl)
    | (obtain ⟨t, rfl⟩ := rx; rfl)
theorem nomark (b : Expr) {op : CmpOp} (h : op ≠ .In := by decide) (h2 : op ≠ .NotIn := by decide) : behindInMarks op b = false := by
  have e1 : (op == CmpOp.In) = false := by cases op <;> first | rfl | exact absurd rfl h
  have e2 : (op == CmpOp.NotIn) = false := by cases op <;> first | rfl | exact absurd rfl h2
  cases b <;> simp [behindInMarks, e1, e2]
/-- a comparison as a value; hm: nomark b, or (for in, not in) by with_unfolding_all rfl -/
theorem pe_cmpR {op : CmpOp} {r : R2} (ho : OpR X (compareOp op) r) (ha : PE X a ta) (hb : PE X b tb) (hm : behindInMarks op b = false) : PE X (.Compare a [op] [b] pos) (tOp r ta tb) := by
  intro pins s σ H Q I h
  exact wpAny_Compare1 (binT ha hb I h fun v u s2 x y H2 I2 rx ry q => ho pins s2 σ H2 x y v u Q I2 rx ry q) hm
/-- a reading of a value as a test -/
def tTest (t : TE) : TT := fun σ H Q => t σ H fun x H' => ∃ k, x = .bl k ∧ Q k H'
theorem pt_cmpR {op : CmpOp} {r : R2} (ho : OpR X (compareOp op) r) (ha : PE X a ta) (hb : PE X b tb) (hm : behindInMarks op b = false) : PT X (.Compare a [op] [b] pos) (tTest (tOp r ta tb)) := by
  intro pins s σ H Q I h
  refine wpAny_isTrue_Compare1 (thn (ha pins s σ H _ I h) fun v s1 ⟨x, H1, I1, r1, q1⟩ => thn (hb pins s1 σ H1 _ I1 q1) fun u s2 ⟨y, H2, I2, r2, q2⟩ =>
    thn (ho pins s2 σ H2 x y v u _ I2 r1 r2 q2) fun c s3 ⟨z, H3, I3, r3, k, e, q3⟩ => ?_) hm
  subst e
  cases r3
  exact wpAny_truthy_bool ⟨H3, I3, q3⟩
/-- a op1 b op2 c -/
def tChain (r r' : R2) (ta tb tc : TE) : TE := fun σ H Q => ta σ H fun x H1 => tb σ H1 fun y H2 => r x y H2 fun z H3 => ∃ k, z = .bl k ∧
  (if k = true then tc σ H3 fun w' H4 => r' y w' H4 Q else Q (.bl false) H3)
theorem pe_chain {op op' : CmpOp} {r r' : R2} (ho : OpR X (compareOp op) r) (ho' : OpR X (compareOp op') r') (ha : PE X a ta) (hb : PE X b tb) (hc : PE X c tc)
    (hm : lastMarks [op, op'] [b, c] = false := by with_unfolding_all rfl) : PE X (.Compare a [op, op'] [b, c] pos) (tChain r r' ta tb tc) := by
  intro pins s σ H Q I h
  refine Compare_chain (thn (ha pins s σ H _ I h) fun v s1 ⟨x, H1, I1, r1, q1⟩ => chain_link (thn (hb pins s1 σ H1 _ I1 q1) fun u s2 ⟨y, H2, I2, r2, q2⟩ =>
    thn (ho pins s2 σ H2 x y v u _ I2 r1 r2 q2) fun d s3 ⟨z, H3, I3, r3, k, e, q3⟩ => ?_)) hm
  subst e
  cases r3
  refine wpAny_truthy_bool ?_
  cases k with
  | false => exact ite_ff ⟨.bl false, H3, I3, rfl, q3⟩
  | true => exact ite_tt (chain_last (thn (hc pins s3 σ H3 _ I3 q3) fun w' s4 ⟨z', H4, I4, r4, q4⟩ => ho' pins s4 σ H4 y z' u w' Q I4 r2 r4 q4))
theorem pt_chain {op op' : CmpOp} {r r' : R2} (ho : OpR X (compareOp op) r) (ho' : OpR X (compareOp op') r') (ha : PE X a ta) (hb : PE X b tb) (hc : PE X c tc)
    (hm : lastMarks [op, op'] [b, c] = false := by with_unfolding_all rfl) : PT X (.Compare a [op, op'] [b, c] pos) (tTest (tChain r r' ta tb tc)) := by
  intro pins s σ H Q I h
  refine isTrue_chain (thn (ha pins s σ H _ I h) fun v s1 ⟨x, H1, I1, r1, q1⟩ => test_link (thn (hb pins s1 σ H1 _ I1 q1) fun u s2 ⟨y, H2, I2, r2, q2⟩ =>
    thn (ho pins s2 σ H2 x y v u _ I2 r1 r2 q2) fun d s3 ⟨z, H3, I3, r3, k, e, q3⟩ => ?_)) hm
  subst e
  cases r3
  refine wpAny_truthy_bool ?_
  cases k with
  | false =>
    obtain ⟨k', e', q'⟩ := q3
    cases e'
    exact ite_ff ⟨H3, I3, q'⟩
  | true =>
    refine ite_tt (test_last (thn (hc pins s3 σ H3 _ I3 q3) fun w' s4 ⟨z', H4, I4, r4, q4⟩ => thn (ho' pins s4 σ H4 y z' u w' _ I4 r2 r4 q4) fun d' s5 ⟨z2, H5, I5, r5, k2, e2, q5⟩ => ?_))
    subst e2
    cases r5
    exact wpAny_truthy_bool ⟨H5, I5, q5⟩

/-! ### truth -/
theorem line63 : (sizeLine : Nat) < 2 ^ 63 := by rw [sizeLine_eq]; decide
/-! ### strs and bytes -/
theorem op_add_str : OpR X (binaryOp .Add) (fun x y H Q => ∃ i j, x = .str i ∧ y = .str j ∧ i.length + j.length ≤ sizeLine ∧ Q (.str (i ++ j)) H) := by
  intro pins s σ H x y v u Q I rx ry h
  obtain ⟨i, j, rfl, rfl, hz, q⟩ := h
  obtain ⟨t, rfl⟩ := rx
  obtain ⟨t', rfl⟩ := ry
  exact add_str (fun t' tk => ⟨.str (i ++ j), H, I.tok _, ⟨_, rfl⟩, q⟩) hz
/-! ### scalar builtins, by CallR -/
theorem vals1 {x : V} {us : List Value} (r : Vals [x] us) : ∃ u, us = [u] ∧ RelV x u := by
  cases r with
  | cons r1 r2 => cases r2; exact ⟨_, rfl, r1⟩
theorem vals2 {x y : V} {us : List Value} (r : Vals [x, y] us) : ∃ u w', us = [u, w'] ∧ RelV x u ∧ RelV y w' := by
  cases r with
  | cons r1 r2 =>
    cases r2 with
    | cons r3 r4 => cases r4; exact ⟨_, _, rfl, r1, r3⟩
theorem call_max2 (hc : X.calm = true) : CallR X (.builtin "max") (fun xs H Q => ∃ i j, xs = [.int i, .int j] ∧ Q (.int (if j > i then j else i)) H) := by
  intro pins s σ H xs us Q I r h
  obtain ⟨i, j, rfl, q⟩ := h
  obtain ⟨u, w', rfl, ⟨t, rfl⟩, ⟨t', rfl⟩⟩ := vals2 r
  refine max_two_ints (I.ok.hd hc) fun h' tk k => ⟨_, H, I.kept k, ?_, q⟩
  by_cases hj : j > i
  · rw [if_pos hj, if_pos hj]; exact ⟨_, rfl⟩
  · rw [if_neg hj, if_neg hj]; exact ⟨_, rfl⟩
theorem call_min2 (hc : X.calm = true) : CallR X (.builtin "min") (fun xs H Q => ∃ i j, xs = [.int i, .int j] ∧ Q (.int (if j < i then j else i)) H) := by
  intro pins s σ H xs us Q I r h
  obtain ⟨i, j, rfl, q⟩ := h
  obtain ⟨u, w', rfl, ⟨t, rfl⟩, ⟨t', rfl⟩⟩ := vals2 r
  refine min_two_ints (I.ok.hd hc) fun h' tk k => ⟨_, H, I.kept k, ?_, q⟩
  by_cases hj : j < i
  · rw [if_pos hj, if_pos hj]; exact ⟨_, rfl⟩
  · rw [if_neg hj, if_neg hj]; exact ⟨_, rfl⟩
theorem call_str_int : CallR X (.type "str") (fun xs H Q => ∃ i, xs = [.int i] ∧ i.natAbs.log2 < 1920 ∧ Q (.str (toString i)) H) := by
  intro pins s σ H xs us Q I r h
  obtain ⟨i, rfl, hz, q⟩ := h
  obtain ⟨u, rfl, t, rfl⟩ := vals1 r
  exact PySem.P.str_of_int hz ⟨.str _, H, I.tok _, ⟨_, rfl⟩, q⟩
end
end L2

namespace L2
open PySem PySem.Spec PyProof.Rows

/-! ### an instance, its attributes a map -/
theorem lookIn_ns {h : Heap} {dx : Addr} {mA : Str → Option Value} (n : h.Ns1 dx mA) : ∃ od, h.get? dx = some od ∧ ∀ name, PySem.W.lookIn name od = some (mA name) := by
  obtain ⟨o, es, ep, ho, hd, hk, _, hm⟩ := n
  refine ⟨o, ho, fun name => ?_⟩
  have e := hm name
  unfold nsFind findBy at e
  rw [← Array.find?_toList] at e
  unfold PySem.W.lookIn
  rw [hd]
  dsimp only
  split
  · rename_i y q
    rw [q] at e
    exact congrArg some e
  · rename_i q
    rw [q] at e
    have a : es.toList.any (·.refKey) = false := by
      rw [List.any_eq_false]
      intro y hy
      obtain ⟨z, t, hkey⟩ := hk y (Array.mem_toList_iff.mp hy)
      simp [DictEntry.refKey, hkey]
    have a' : ¬ es.toList.any (·.refKey) = true := by rw [a]; exact Bool.false_ne_true
    rw [if_neg a']
    exact congrArg some e

section
variable {prog : Program} {w : World} {A : Around} {E : Value → Shared → Prop} {s : Shared} {K : PySem.W.Frag} {x dx C f : Addr} {mA : Str → Option Value} {name : Str} {v : Value}

end

/-! ### the attributes as a list of pairs -/
def putF (f : Str) (v : V) : List (Str × V) → List (Str × V)
  | [] => [(f, v)]
  | (g, x) :: r => if g = f then (g, v) :: r else (g, x) :: putF f v r
theorem lookup_putF (f g : Str) (v : V) : ∀ fs : List (Str × V), (putF f v fs).lookup g = if g = f then some v else fs.lookup g
  | [] => by
    show List.lookup g [(f, v)] = _
    by_cases h : g = f
    · have hb : (g == f) = true := beq_iff_eq.mpr h
      simp only [List.lookup, hb, if_pos h]
    · have hb : (g == f) = false := beq_eq_false_iff_ne.mpr h
      simp only [List.lookup, hb, if_neg h]
  | (k, x) :: r => by
    have ih := lookup_putF f g v r
    rw [show putF f v ((k, x) :: r) = (if k = f then (k, v) :: r else (k, x) :: putF f v r) from rfl]
    by_cases hk : k = f
    · rw [if_pos hk]
      by_cases h : g = k
      · have hb : (g == k) = true := beq_iff_eq.mpr h
        simp only [List.lookup, hb, if_pos (h.trans hk)]
      · have hb : (g == k) = false := beq_eq_false_iff_ne.mpr h
        simp only [List.lookup, hb, if_neg (fun e : g = f => h (e.trans hk.symm))]
    · rw [if_neg hk]
      by_cases h : g = k
      · have hb : (g == k) = true := beq_iff_eq.mpr h
        simp only [List.lookup, hb, if_neg (fun e : g = f => hk (h.symm.trans e))]
      · have hb : (g == k) = false := beq_eq_false_iff_ne.mpr h
        simp only [List.lookup, hb]
        exact ih
theorem keys_putF (f : Str) (v : V) : ∀ fs : List (Str × V), f ∈ (putF f v fs).map (·.1) ∧ ∀ g, g ∈ fs.map (·.1) → g ∈ (putF f v fs).map (·.1)
  | [] => ⟨by simp [putF], fun g h => by simp at h⟩
  | (k, x) :: r => by
    obtain ⟨i1, i2⟩ := keys_putF f v r
    rw [show putF f v ((k, x) :: r) = (if k = f then (k, v) :: r else (k, x) :: putF f v r) from rfl]
    by_cases hk : k = f
    · rw [if_pos hk]
      subst hk
      exact ⟨by simp, fun g h => by simpa using h⟩
    · rw [if_neg hk]
      refine ⟨?_, fun g h => ?_⟩
      · rw [List.map_cons]
        exact List.mem_cons_of_mem _ i1
      · rw [List.map_cons] at h ⊢
        rcases List.mem_cons.mp h with e | e
        · exact List.mem_cons.mpr (.inl e)
        · exact List.mem_cons_of_mem _ (i2 g e)
theorem RelO.some_of {v : V} {o : Option Value} (r : RelO (some v) o) : ∃ u, o = some u ∧ RelV v u := by
  cases o with
  | none => exact (show False from r).elim
  | some u => exact ⟨u, rfl, r⟩
theorem handed_of {v : V} {u : Value} (r : RelV v u) : PySem.W.handedIn u = true := by
  cases v with
  | non => cases (show u = Value.none from r); rfl
  | bl b => cases (show u = Value.bool b from r); rfl
  | int i => obtain ⟨t, e⟩ := (show ∃ t, u = Value.int i t from r); cases e; rfl
  | str x => obtain ⟨t, e⟩ := (show ∃ t, u = Value.str x t from r); cases e; rfl
  | byt b => obtain ⟨t, e⟩ := (show ∃ t, u = Value.bytes b t from r); cases e; rfl
  | flt b => obtain ⟨t, e⟩ := (show ∃ t, u = Value.float b t from r); cases e; rfl
  | ref a => cases (show u = Value.ref a from r); rfl
  | ty n => cases (show u = Value.type n from r); rfl

section
variable {P : Program} {w : World} {H H' : Hp} {h h' : Heap} {a C dx : Addr} {fs fs' : List (Str × V)}
end

/-! ### what of the text a class must have -/
section
variable {X : Cx} {pins : List (Addr × Obj)} {σ : St} {H : Hp} {s : Shared} {a C dx : Addr} {fs : List (Str × V)} {f : Str} {v : V} {A : Around} {E : Value → Shared → Prop}

/-- e.f where nothing but the object is asked: through attributeBase (super) and the last hold -/
theorem attr_of {prog : Program} {w : World} {env : Env} {e : Expr} {f : Str} {pos : Pos} {s : Shared} {Q : Value → Shared → Prop} (hb : attributeBase e f env (eval e env) = eval e env)
    (h : wpAny (model prog w) A (eval e env) (fun o s₁ => wpAny (model prog w) A (getAttr o f true) Q E s₁) E s) : wpAny (model prog w) A (eval (.Attribute e f pos) env) Q E s :=
  Attribute_any_ h (by rw [arm_eval_Attribute, hb])
end

/-! ### readings and rules -/
section
variable {X : Cx} {o e value : Expr} {f : Str} {pos pos' tpos : Pos} {ta tv : TE}
end

/-! ### isinstance -/
section
variable {X : Cx} {pins : List (Addr × Obj)} {σ : St} {H : Hp} {s : Shared} {A : Around} {E : Value → Shared → Prop} {Q : Value → Shared → Prop} {c : Value} {b : Bool}
end
end L2

namespace L2
open PySem PySem.Spec PyProof.Rows

/-! ### room -/
structure Room (k : Nat) (A : Around) : Prop where
  hd : A.handled = none
  dp : A.depth + 3 * k + 5 < recursionLimit
  un : A.units + 16 * k + 200 < cLine
  gd : A.guards = some []
theorem Room.mono {j k : Nat} {A : Around} (r : Room k A) (h : j ≤ k) : Room j A := ⟨r.hd, by have := r.dp; omega, by have := r.un; omega, r.gd⟩
theorem Room.deeper {k : Nat} {A : Around} (r : Room (k + 1) A) (env : Env) : Room k (A.deeper env) :=
  ⟨r.hd, by have := r.dp; show A.depth + 1 + 3 * k + 5 < _; omega, by have := r.un; show A.units + 3 + 16 * k + 200 < _; omega, r.gd⟩
theorem make_depth {A : Around} {C : Addr} {us : List Value} {kw : List (Str × Value)} : (A.under (.builtin "type.__call__" ⟨.ref C :: us, kw⟩)).depth = A.depth + 1 := by
  first | rfl | simp [Around.under, Code.weight, Code.isCreation, Code.isGuard, Code.isCaller, Code.frames, Code.isFrame, guardIds]
theorem make_units {A : Around} {C : Addr} {us : List Value} {kw : List (Str × Value)} : (A.under (.builtin "type.__call__" ⟨.ref C :: us, kw⟩)).units = A.units + 1 := by
  first | rfl | simp [Around.under, Code.cUnits, Code.frames, Code.isFrame]
theorem Room.make {k : Nat} {A : Around} (r : Room (k + 1) A) (C : Addr) (us : List Value) (kw : List (Str × Value)) : Room k (A.under (.builtin "type.__call__" ⟨.ref C :: us, kw⟩)) :=
  ⟨r.hd, by have := r.dp; rw [make_depth]; omega, by have := r.un; rw [make_units]; omega, by have := r.gd; first | exact this | (simpa [Around.under] using this)⟩
theorem Room.depth {k : Nat} {A : Around} (r : Room k A) : A.depth < recursionLimit := by have := r.dp; omega
theorem Room.units {k : Nat} {A : Around} (r : Room k A) : A.units + 64 < cLine := by have := r.un; omega
/-! ### argument lists and displays -/
def tNil : TA := fun _ H Q => Q [] H
def tCons (ta : TE) (tr : TA) : TA := fun σ H Q => ta σ H fun x H1 => tr σ H1 fun xs H2 => Q (x :: xs) H2
section
variable {X : Cx} {e : Expr} {es : List Expr} {te : TE} {t : TA} {pos : Pos}
theorem pa_nil : PA X [] tNil := fun _ _ _ _ H Q I h => Calls.spliced_nil ⟨[], H, I, .nil, h⟩
theorem pa_cons (ha : PE X e te) (hr : PA X es t) (hs : starEach (e :: es) X.env = (false, eval e X.env) :: starEach es X.env := by rfl) : PA X (e :: es) (tCons te t) := by
  intro pos pins s σ H Q I h
  rw [hs]
  show wpAny _ _ (spliced ((false, eval e X.env) :: backTo pos (starEach es X.env))) _ _ s
  refine Calls.spliced_cons (thn (ha pins s σ H _ I h) fun u s1 ⟨x, H1, I1, r1, q1⟩ => ?_)
  exact thn (hr pos pins s1 σ H1 _ I1 q1) fun us s2 ⟨xs, H2, I2, r2, q2⟩ => ⟨x :: xs, H2, I2, .cons r1 r2, q2⟩

/-- a tuple, a list of written items -/
def tTup (t : TA) : TE := fun σ H Q => t σ H fun xs H1 => xs.length ≤ sizeLine ∧ ∀ p, H1 p = none → Q (.ref p) (upd H1 p (.tup xs))
def tLst (t : TA) : TE := fun σ H Q => t σ H fun xs H1 => xs.length ≤ sizeLine ∧ ∀ p, H1 p = none → Q (.ref p) (upd H1 p (.lst xs))
theorem pe_tup {x1} (h : PA X es t) : PE X (.Tuple es x1 pos) (tTup t) := by
  intro pins s σ H Q I hq
  refine wpAny_Tuple_spliced (thn (h pos pins s σ H _ I hq) fun us s1 ⟨xs, H1, I1, r, z, q⟩ => ⟨by rw [← r.length]; exact z, ?_⟩)
  have hf : H1 s1.heap.objs.size = none := I1.hok.fresh (Nat.le_refl _)
  refine ⟨.ref s1.heap.objs.size, upd H1 s1.heap.objs.size (.tup xs), I1.laid (t' := s1.toks) (fun b u e => Heap.get?_push_of_some _ e) (Nat.le_refl _) ?_, rfl, q _ hf⟩
  exact ⟨z, us, r, ⟨_, Heap.get?_push_size _ rfl, rfl, _, rfl⟩⟩
theorem pe_lst (h : PA X es t) : PE X (.List es pos) (tLst t) := by
  intro pins s σ H Q I hq
  refine wpAny_List_spliced (thn (h pos pins s σ H _ I hq) fun us s1 ⟨xs, H1, I1, r, z, q⟩ => ⟨by rw [← r.length]; exact z, ?_⟩)
  have hf : H1 s1.heap.objs.size = none := I1.hok.fresh (Nat.le_refl _)
  refine ⟨.ref s1.heap.objs.size, upd H1 s1.heap.objs.size (.lst xs), I1.laid (t' := s1.toks) (fun b u e => Heap.get?_push_of_some _ e) (Nat.le_refl _) ?_, rfl, q _ hf⟩
  exact ⟨z, us, 0, r, Heap.get?_push_size _ rfl⟩
end

/-! ### what a def promises -/
/-- a def's promise: the bound arguments in the parameters' order, the heap, the wanted end, the wanted exception -/
abbrev Sp := List V → Hp → VK → XK → Prop
/-- how an exception lies behind a call (file 08 gives it): the callers' frames, abstract heap and state ahead of the call, the wish, the exception, the state -/
abbrev CXT := List Env → Hp → Shared → XK → Value → Shared → Prop

/-- the state at a call -/
structure Env0 (P : Program) (w : World) (K : PySem.W.Frag) (mg : Str → Option Value) (base : Heap) (A : Around) (outer : List Env) (s : Shared) (H : Hp) : Prop where
  frames : A.frames = some outer
  mod : Mod K mg base
  bs : ∀ b o, base.get? b = some o → s.heap.get? b = some o ∧ H b = none
  bsz : base.objs.size ≤ s.heap.objs.size
  funs : s.heap.FunFrames base outer
  frf : ∀ b ∈ frs outer, H b = none
  hok : HOk P w H s.heap
  bare : AllBare s.gens
/-- a call's end -/
def CE (outer : List Env) (P : Program) (w : World) (H : Hp) (s : Shared) (Q : VK) (u : Value) (s' : Shared) : Prop :=
  ∃ v H', s'.os = s.os ∧ AllBare s'.gens ∧ Un (frs outer) [] H H' s.heap s'.heap ∧ HOk P w H' s'.heap ∧ RelV v u ∧ Q v H'
def CR (CX : CXT) (outer : List Env) (P : Program) (w : World) (H : Hp) (s : Shared) (Q : VK) (E : XK) (r : Result) (s' : Shared) : Prop :=
  match r with
  | .ok (.ret u) => CE outer P w H s Q u s'
  | .ok _ => False
  | .error e => CX outer H s E e s'
structure FnOk (P : Program) (w : World) (K : PySem.W.Frag) (mg : Str → Option Value) (base : Heap) (CX : CXT) (k : Nat) (f : Addr) (fd : FuncData) (ps : List Str) (sp : Sp) : Prop where
  len : ∀ vs H Q E, sp vs H Q E → vs.length = ps.length
  run : ∀ (A : Around) (outer : List Env) (s : Shared) (H : Hp) (args : Args) (us : List Value) (vs : List V) (Q : VK) (E : XK), Room k A → Env0 P w K mg base A outer s H → BindsTo s fd args (ps.zip us) → Vals vs us → sp vs H Q E →
    codeAny (model P w) A (.call (.ref f) args) (CR CX outer P w H s Q E) s
theorem Env0.make {P : Program} {w : World} {K : PySem.W.Frag} {mg : Str → Option Value} {base : Heap} {A : Around} {outer : List Env} {s : Shared} {H : Hp} (e : Env0 P w K mg base A outer s H) (C : Addr) (us : List Value) (kw : List (Str × Value)) :
    Env0 P w K mg base (A.under (.builtin "type.__call__" ⟨.ref C :: us, kw⟩)) outer s H := ⟨by first | exact e.frames | (simpa [Around.under, Code.envs, Code.isFrame, pushEnvs] using e.frames), e.mod, e.bs, e.bsz, e.funs, e.frf, e.hok, e.bare⟩
section
variable {X : Cx} {pins : List (Addr × Obj)} {σ : St} {H : Hp} {s s' : Shared}
/-- from a body: what a callee wants -/
theorem Inv.env0 (I : Inv X pins σ H s) : Env0 X.prog X.w X.K X.mg X.base X.A X.stack s H :=
  ⟨I.ok.frames, I.ok.mod, I.bs, Nat.le_trans I.ok.bsz I.sz, I.stack, I.stkFree, I.hok, I.bare⟩
/-- behind a call -/
theorem Inv.after {Q : VK} {u : Value} (I : Inv X pins σ H s) (h : CE X.stack X.prog X.w H s Q u s') : EP X pins σ Q u s' := by
  obtain ⟨v, H', os, bare, un, hok, r, q⟩ := h
  obtain ⟨hh, g, d, t, os'⟩ := s'
  obtain rfl : os' = s.os := os
  exact ⟨v, H', I.call (h' := hh) (g' := g) (d' := d) (t' := t) (ch := []) un hok bare (fun b z => absurd z (by simp)), r, q⟩
end

/-! ### calls -/
/-- f(..): the written arguments, then the defaults dvs; E: what is wanted of an exception -/
def tCall (sp : Sp) (dvs : List V) (E : XK) (t : TA) : TE := fun σ H Q => t σ H fun vs H1 => sp (vs ++ dvs) H1 Q E
/-- how the parameters are bound: us the positional arguments, kw the keywords' values by name, ds the defaults that fill up -/
def Binds (K : PySem.W.Frag) (fd : FuncData) (ps : List Str) (ds : List Value) : Prop :=
  ∀ (s : Shared) (us : List Value), K.In s.heap → (us ++ ds).length = ps.length → BindsTo s fd ⟨us, []⟩ (ps.zip (us ++ ds))
/-- every parameter is given -/
theorem Binds.all {K : PySem.W.Frag} {fd : FuncData} {ps : List Str} (h : ∀ us : List Value, us.length = ps.length → bindArgs fd ⟨us, []⟩ = pure (ps.zip us)) : Binds K fd ps [] := fun s us _ hl => by
  rw [List.append_nil] at hl ⊢
  exact .of_eq (h us hl)

/-- an exception of a callee reaches what this body wants of exceptions -/
def Passes (CX : CXT) (X : Cx) (E : XK) : Prop := ∀ (pins : List (Addr × Obj)) (σ : St) (H : Hp) (s : Shared) (e : Value) (s' : Shared), Inv X pins σ H s → CX X.stack H s E e s' → X.xe e s'

section
variable {X : Cx} {CX : CXT} {k : Nat} {f C : Addr} {fd : FuncData} {ps : List Str} {sp : Sp} {dvs : List V} {ds : List Value} {E : XK} {x m : Str} {p pos apos : Pos} {e o : Expr} {es : List Expr} {ta : TE} {t : TA}

/-- the callee runs -/
theorem run_fn {pins : List (Addr × Obj)} {σ : St} {H : Hp} {s : Shared} {Q : VK} {us : List Value} {vs : List V} (F : FnOk X.prog X.w X.K X.mg X.base CX k f fd ps sp) (hr : Room k X.A) (hb : Binds X.K fd ps ds) (hd : Vals dvs ds) (hx : Passes CX X E)
    (I : Inv X pins σ H s) (r : Vals vs us) (h : sp (vs ++ dvs) H Q E) : wpAny (model X.prog X.w) X.A (call (.ref f) us) (EP X pins σ Q) X.xe s := by
  have r2 : Vals (vs ++ dvs) (us ++ ds) := r.append hd
  have hl : (us ++ ds).length = ps.length := by rw [← r2.length]; exact F.len _ _ _ _ h
  refine wpAny_call (codeAny_mono (F.run X.A X.stack s H ⟨us, []⟩ (us ++ ds) (vs ++ dvs) Q E hr I.env0 (hb s us I.kIn hl) r2 h) fun r s' hq => ?_)
  cases r with
  | error e => exact hx pins σ H s e s' I hq
  | ok fl =>
    cases fl with
    | ret u => exact I.after hq
    | next => exact False.elim hq
    | brk => exact False.elim hq
    | cont => exact False.elim hq

theorem pe_call (F : FnOk X.prog X.w X.K X.mg X.base CX k f fd ps sp) (hr : Room k X.A) (hg : Gl X x) (hm : X.mg x = some (.ref f)) (hk : PySem.W.keepIn X.K (.ref f) = true) (hb : Binds X.K fd ps ds) (hd : Vals dvs ds) (hx : Passes CX X E)
    (ha : PA X (e :: es) t) (hdb : (x == ("__debug__" : Str)) = false := by decide) (he : starEach (e :: es) X.env = (false, eval e X.env) :: starEach es X.env := by rfl) (hpl : (backTo pos (starEach es X.env)).any (·.1) = false := by rfl) :
    PE X (.Call (.Name x p) (e :: es) [] pos) (tCall sp dvs E t) := by
  intro pins s σ H Q I h
  refine wpAny_Call_Name_kw (ld_glob I hg hm ?_ hdb)
  refine PySem.W.callWith_K (h₀ := X.base) I.ok.mod.kin hk (thn (ha pos pins s σ H _ I h) fun us s1 ⟨vs, H1, I1, r, q⟩ => ⟨I1.kIn, ?_⟩) he hpl
  exact run_fn F hr hb hd hx I1 r q
end

/-! ### keywords -/
/-- the values of the keywords, from the left -/
def PK (X : Cx) (kws : List Keyword) (t : TA) : Prop :=
  ∀ (pos : Pos) (pins : List (Addr × Obj)) (s : Shared) (σ : St) (H : Hp) (Q : List V → Hp → Prop), Inv X pins σ H s → t σ H Q → wpAny (model X.prog X.w) X.A (evalAll ((backToKw pos (keywordEach kws X.env)).map (·.2))) (AP X pins σ Q) X.xe s
section
variable {X : Cx} {CX : CXT} {k : Nat} {f C : Addr} {fd : FuncData} {ps ks : List Str} {sp : Sp} {E : XK} {x m : Str} {p pos apos kpos : Pos} {e o : Expr} {es : List Expr} {kws : List Keyword} {te ta : TE} {t tk : TA} {nm : Option Str}
theorem pk_nil : PK X [] tNil := fun _ _ _ _ H Q I h => wpAny_evalAll_nil ⟨[], H, I, .nil, h⟩
theorem pk_cons (ha : PE X e te) (hr : PK X kws t) : PK X (⟨nm, e, kpos⟩ :: kws) (tCons te t) := by
  intro pos pins s σ H Q I h
  show wpAny _ _ (evalAll ((do let v ← eval e X.env; standAt pos; pure v) :: (backToKw pos (keywordEach kws X.env)).map (·.2))) _ _ s
  refine wpAny_evalAll_cons (wpAny_bind (thn (ha pins s σ H _ I h) fun u s1 ⟨x, H1, I1, r1, q1⟩ => wpAny_bind (wpAny_standAt (wpAny_pure ?_))))
  exact thn (hr pos pins s1 σ H1 _ I1 q1) fun us s2 ⟨xs, H2, I2, r2, q2⟩ => ⟨x :: xs, H2, I2, .cons r1 r2, q2⟩

/-- how a call with keywords binds: g puts the positional values us and the keywords' values ws (names ks) in the parameters' order, defaults among them -/
structure KBinds (K : PySem.W.Frag) (fd : FuncData) (ps ks : List Str) (g : List Value → List Value → List Value) (gV : List V → List V → List V) : Prop where
  to : ∀ (s : Shared) (us ws : List Value), K.In s.heap → (g us ws).length = ps.length → BindsTo s fd ⟨us, ks.zip ws⟩ (ps.zip (g us ws))
  rel : ∀ {vs : List V} {us : List Value} {zs : List V} {ws : List Value}, Vals vs us → Vals zs ws → Vals (gV vs zs) (g us ws)
def tCallK (sp : Sp) (gV : List V → List V → List V) (E : XK) (t tk : TA) : TE := fun σ H Q => t σ H fun vs H1 => tk σ H1 fun zs H2 => sp (gV vs zs) H2 Q E
variable {g : List Value → List Value → List Value} {gV : List V → List V → List V}
theorem run_fnk {pins : List (Addr × Obj)} {σ : St} {H : Hp} {s : Shared} {Q : VK} {us ws : List Value} {vs zs : List V} (F : FnOk X.prog X.w X.K X.mg X.base CX k f fd ps sp) (hr : Room k X.A) (hb : KBinds X.K fd ps ks g gV) (hx : Passes CX X E)
    (I : Inv X pins σ H s) (r : Vals vs us) (rz : Vals zs ws) (h : sp (gV vs zs) H Q E) : wpAny (model X.prog X.w) X.A (call (.ref f) us (ks.zip ws)) (EP X pins σ Q) X.xe s := by
  have r2 := hb.rel r rz
  have hl : (g us ws).length = ps.length := by rw [← r2.length]; exact F.len _ _ _ _ h
  refine wpAny_call (codeAny_mono (F.run X.A X.stack s H ⟨us, ks.zip ws⟩ (g us ws) (gV vs zs) Q E hr I.env0 (hb.to s us ws I.kIn hl) r2 h) fun r s' hq => ?_)
  cases r with
  | error e => exact hx pins σ H s e s' I hq
  | ok fl =>
    cases fl with
    | ret u => exact I.after hq
    | next => exact False.elim hq
    | brk => exact False.elim hq
    | cont => exact False.elim hq
/-- f(e, .., k = v, ..) -/
theorem pe_callK (F : FnOk X.prog X.w X.K X.mg X.base CX k f fd ps sp) (hr : Room k X.A) (hg : Gl X x) (hm : X.mg x = some (.ref f)) (hk : PySem.W.keepIn X.K (.ref f) = true) (hb : KBinds X.K fd ps ks g gV) (hx : Passes CX X E)
    (ha : PA X (e :: es) t) (hkw : PK X kws tk) (hall : (backToKw pos (keywordEach kws X.env)).all (·.1.isSome) = true := by rfl) (hks : (backToKw pos (keywordEach kws X.env)).filterMap (·.1) = ks := by rfl)
    (hdb : (x == ("__debug__" : Str)) = false := by decide) (he : starEach (e :: es) X.env = (false, eval e X.env) :: starEach es X.env := by rfl)
    (hpl : ((backTo pos (starEach (e :: es) X.env)).any (·.1) || (backToKw pos (keywordEach kws X.env)).any (·.1.isNone)) = false := by rfl) :
    PE X (.Call (.Name x p) (e :: es) kws pos) (tCallK sp gV E t tk) := by
  intro pins s σ H Q I h
  refine wpAny_Call_Name_kw (ld_glob I hg hm ?_ hdb)
  refine PySem.W.callWith_KW (h₀ := X.base) I.ok.mod.kin hk hall (thn (ha pos pins s σ H _ I h) fun us s1 ⟨vs, H1, I1, r, q⟩ => ?_) hpl he
  refine thn (hkw pos pins s1 σ H1 _ I1 q) fun ws s2 ⟨zs, H2, I2, rz, q2⟩ => ⟨I2.kIn, ?_⟩
  rw [hks]
  exact run_fnk F hr hb hx I2 r rz q2
end

/-! ### a def's body keeps its promise -/
/-- names: the parameters first -/
structure FnScope (N P : List Str) (sc : Scope) : Prop where
  kind : sc.kind = .function
  co : sc.isCoroutine = false
  gen : sc.isGenerator = false
  nd : N.Nodup
  pre : N.take P.length = P
  par : ∀ x ∈ P, sc.names.lookup x = some .local ∨ sc.names.lookup x = some .cell
  nofree : ∀ y ∈ sc.names, y.2 ≠ .free

theorem bindL_out {kindOf : Str → Option NameKind} {x : Str} : ∀ {binds : List (Str × Value)} {m : Str → Option Value}, (∀ v, (x, v) ∉ binds) → bindL kindOf binds m x = m x
  | [], _, _ => rfl
  | (n, v) :: r, m, h => by
    unfold bindL
    rw [bindL_out fun w hw => h w (List.mem_cons_of_mem _ hw)]
    split
    · have : x ≠ n := by rintro rfl; exact h v List.mem_cons_self
      simp [this]
    · rfl
theorem bindC_out {kindOf : Str → Option NameKind} {x : Str} : ∀ {binds : List (Str × Value)} {m : Str → Option Value}, (∀ v, (x, v) ∉ binds) → bindC kindOf binds m x = m x
  | [], _, _ => rfl
  | (n, v) :: r, m, h => by
    unfold bindC
    rw [bindC_out fun w hw => h w (List.mem_cons_of_mem _ hw)]
    split
    · rfl
    · have : x ≠ n := by rintro rfl; exact h v List.mem_cons_self
      simp [this]
theorem bindL_get {kindOf : Str → Option NameKind} {x : Str} {v : Value} : ∀ {P : List Str} {vs : List Value} {i : Nat} {m : Str → Option Value}, P.Nodup → P[i]? = some x → vs[i]? = some v → kindOf x = some .local →
    bindL kindOf (P.zip vs) m x = some v
  | [], _, _, _, _, h, _, _ => by simp at h
  | _ :: _, [], _, _, _, _, h, _ => by simp at h
  | p :: P, w :: vs, 0, m, nd, h1, h2, hk => by
    simp at h1 h2; subst h1; subst h2
    show bindL kindOf ((p, w) :: P.zip vs) m p = _
    unfold bindL
    rw [bindL_out fun v hv => (List.nodup_cons.mp nd).1 (List.of_mem_zip hv).1, if_pos hk]
    simp
  | p :: P, w :: vs, i + 1, m, nd, h1, h2, hk => by
    show bindL kindOf ((p, w) :: P.zip vs) m x = _
    unfold bindL
    exact bindL_get (i := i) (List.nodup_cons.mp nd).2 (by simpa using h1) (by simpa using h2) hk
theorem bindC_get {kindOf : Str → Option NameKind} {x : Str} {v : Value} : ∀ {P : List Str} {vs : List Value} {i : Nat} {m : Str → Option Value}, P.Nodup → P[i]? = some x → vs[i]? = some v → kindOf x ≠ some .local →
    bindC kindOf (P.zip vs) m x = some v
  | [], _, _, _, _, h, _, _ => by simp at h
  | _ :: _, [], _, _, _, _, h, _ => by simp at h
  | p :: P, w :: vs, 0, m, nd, h1, h2, hk => by
    simp at h1 h2; subst h1; subst h2
    show bindC kindOf ((p, w) :: P.zip vs) m p = _
    unfold bindC
    rw [bindC_out fun v hv => (List.nodup_cons.mp nd).1 (List.of_mem_zip hv).1, if_neg hk]
    simp
  | p :: P, w :: vs, i + 1, m, nd, h1, h2, hk => by
    show bindC kindOf ((p, w) :: P.zip vs) m x = _
    unfold bindC
    exact bindC_get (i := i) (List.nodup_cons.mp nd).2 (by simpa using h1) (by simpa using h2) hk

/-- the names' values at the entry -/
def start (N : List Str) (vs : List V) : St := vs.map some ++ List.replicate (N.length - vs.length) none

/-- the context of a def's body, at its entry; an exception leaves the frame, then lies as CX says -/
def cxOf (CX : CXT) (P : Program) (w : World) (K : PySem.W.Frag) (mg : Str → Option Value) (base : Heap) (N : List Str) (qual : Str) (scope : Scope) (f : Addr) (cd : Value) (A : Around) (outer : List Env) (s : Shared) (H : Hp) (E : XK) : Cx where
  prog := P
  w := w
  K := K
  mg := mg
  base := base
  A := A.deeper (envOfC qual scope s.heap.objs.size f cd)
  N := N
  s₀ := s
  H₀ := H
  env := envOfC qual scope s.heap.objs.size f cd
  outer := outer
  stack := envOfC qual scope s.heap.objs.size f cd :: outer
  ex := []
  calm := true
  fn := fun _ => true
  pn := []
  xe := fun e s' => wpAny (model P w) (A.deeper (envOfC qual scope s.heap.objs.size f cd)) (leaving (envOfC qual scope s.heap.objs.size f cd) e) (fun _ s'' => CX outer H s E e s'') (fun e' s'' => CX outer H s E e' s'') s'

theorem cell_has {sc : Scope} {n : Nat} {x : Str} (h : sc.names.lookup x = some .cell) : ∃ c, (cellsFrom n sc.names []).lookup x = some c := by
  have q := PySem.W.cellsFrom_some sc.names n [] (.inl h)
  exact Option.isSome_iff_exists.mp q

theorem inv_start {CX : CXT} {P : Program} {w : World} {K : PySem.W.Frag} {mg : Str → Option Value} {base : Heap} {N ps : List Str} {qual : Str} {scope : Scope} {f : Addr} {cd : Value} {A : Around} {outer : List Env} {s s1 : Shared} {H : Hp} {E : XK} {us : List Value} {vs : List V}
    (S : FnScope N ps scope) (hd : A.handled = none) (e0 : Env0 P w K mg base A outer s H) (hl : vs.length = ps.length) (r : Vals vs us)
    (x : InCallC s s.heap.objs.size (bindL (envOfC qual scope s.heap.objs.size f cd).kindOf (ps.zip us) fun _ => none) (cellsFrom (s.heap.objs.size + 1) scope.names []) (bindC (envOfC qual scope s.heap.objs.size f cd).kindOf (ps.zip us) fun _ => none) s1) :
    Inv (cxOf CX P w K mg base N qual scope f cd A outer s H E) [] (start N vs) H s1 := by
  have hpl : ps.length ≤ N.length := by have := congrArg List.length S.pre; rw [List.length_take] at this; omega
  obtain ⟨h1, tk, rfl, hk⟩ := x.done
  have noA : ∀ b : Addr, b ∉ (cxOf CX P w K mg base N qual scope f cd A outer s H E).ex := fun b z => absurd (show b ∈ ([] : List Addr) from z) (by simp)
  refine ⟨⟨e0.mod, S.kind, rfl, rfl, Nat.le_refl _, fun y z c h1 h2 => ?_, fun y hy => ?_, fun y c _ h => ?_, fun _ => hd, Around.frames_deeper e0.frames, .inr ⟨rfl, rfl⟩, fun b z => absurd z (noA b), e0.bs, e0.bsz, fun b _ _ => noA b, fun b z => absurd z (noA b), e0.funs, e0.frf⟩,
    rfl, e0.bare, Un.kept hk, ⟨_, x.toInCall.ns, fun i y v h1 h2 h3 => ?_⟩, fun y c h => ⟨_, x.cell y c h⟩, e0.hok.fresh (Nat.le_refl _), fun y c h => ?_, fun p hp => absurd (show p ∈ ([] : List (Addr × Obj)) from hp) (by simp), e0.hok.kept hk, ?_⟩
  · exact name_of_addr x.apart (PySem.mem_of_lookup h1) (PySem.mem_of_lookup h2)
  · have hy : scope.names.lookup y = some .cell ∨ scope.names.lookup y = some .free := hy
    rcases hy with hy | hy
    · exact cell_has hy
    · exact absurd rfl (S.nofree _ (PySem.mem_of_lookup hy))
  · exact Nat.le_of_lt (x.above y c (PySem.mem_of_lookup h))
  · have hi : i < vs.length := by
      unfold start at h2
      by_cases hi : i < vs.length
      · exact hi
      · rw [List.getElem?_append_right (by simpa using hi)] at h2
        rw [List.getElem?_replicate] at h2
        split at h2 <;> cases h2
    have ha : vs[i]? = some v := by
      unfold start at h2
      rw [List.getElem?_append_left (by simpa using hi), List.getElem?_map] at h2
      cases e : vs[i]? with
      | none => rw [e] at h2; cases h2
      | some a => rw [e] at h2; cases h2; rfl
    obtain ⟨u, hu, rv⟩ := r.get ha
    have hp : ps[i]? = some y := by
      rw [← S.pre, List.getElem?_take_of_lt (by omega)]; exact h1
    have ndP : ps.Nodup := by rw [← S.pre]; exact S.nd.sublist (List.take_sublist _ _)
    refine ⟨u, rv, ?_⟩
    rcases S.par y (List.mem_of_getElem? hp) with k | k
    · exact .inl ⟨k, bindL_get ndP hp hu k⟩
    · obtain ⟨c, e⟩ := cell_has (n := s.heap.objs.size + 1) k
      refine .inr ⟨.inl k, c, e, ?_⟩
      have q := x.cell y c e
      rw [bindC_get ndP hp hu (by show scope.names.lookup y ≠ _; rw [k]; decide)] at q
      exact q
  · exact e0.hok.fresh (Nat.le_of_lt (x.above y c (PySem.mem_of_lookup h)))
  · unfold start
    show _ = N.length
    rw [List.length_append, List.length_map, List.length_replicate]
    omega

/-- THE RULE: a def (or a method) of the text, by its body. The body's reading t is chosen for each entry; it is run at the parameters' values -/
theorem fn_of {CX : CXT} {P : Program} {w : World} {K : PySem.W.Frag} {mg : Str → Option Value} {base : Heap} {k : Nat} {f : Addr} {name qual : Str} {params : Arguments} {body : List Stmt} {scope : Scope} {dV kV doc pm cdv ct oc : Value} {an od : Option Addr}
    {osl : Array (Option Value)} {N ps : List Str} {sp : Sp} (lk : K.lookup f = some ⟨oc, od, .func (PySem.W.fnOf name qual params body scope dV kV doc pm an cdv ct), osl⟩) (hcd : PySem.W.codeIn K cdv qual = true) (S : FnScope N ps scope)
    (len : ∀ vs H Q E, sp vs H Q E → vs.length = ps.length)
    (hbody : ∀ (A : Around) (outer : List Env) (s : Shared) (H : Hp) (vs : List V) (Q : VK) (E : XK), Room k (A.deeper (envOfC qual scope s.heap.objs.size f cdv)) → sp vs H Q E →
      ∃ t, PSs (cxOf CX P w K mg base N qual scope f cdv A outer s H E) body t ∧ t { nx := fun _ H' => Q .non H', rt := Q } (start N vs) H) :
    FnOk P w K mg base CX (k + 1) f (PySem.W.fnOf name qual params body scope dV kV doc pm an cdv ct) ps sp := by
  refine ⟨len, fun A outer s H args us vs Q E hr e0 hb r hsp => ?_⟩
  have hl := len _ _ _ _ hsp
  have KX : K.In s.heap := e0.mod.kin.keeps fun b o e => (e0.bs b o e).1
  have lim : s.heap.NoLimit := e0.mod.nolimit.keeps fun b o e => (e0.bs b o e).1
  have hkind : ∀ y ∈ ps.zip us, scope.names.lookup y.1 = some .local ∨ (scope.names.lookup y.1 = some .cell ∧ ((cellsFrom (s.heap.objs.size + 1) scope.names []).lookup y.1).isSome = true) := fun ⟨n, v⟩ hy => by
    rcases S.par n (List.of_mem_zip hy).1 with q | q
    · exact .inl q
    · exact .inr ⟨q, PySem.W.cellsFrom_some _ _ _ (.inl q)⟩
  refine codeAny_call_function hr.depth (KX _ _ lk) rfl S.co S.gen rfl (PySem.W.codeRec_of KX hcd) (hb _ _ _ _ ?_)
  refine wpAny_newFunctionEnv_cells S.kind hkind fun env he s1 x => ?_
  subst he
  refine ⟨lim.keeps x.toInCall.keep, codeAny_func ?_⟩
  obtain ⟨t, ht, hq⟩ := hbody A outer s H vs Q E (hr.deeper _) hsp
  have I : Inv (cxOf CX P w K mg base N qual scope f cdv A outer s H E) [] (start N vs) H s1 := inv_start S hr.hd e0 hl r x
  refine wpAny_mono (ht [] s1 (start N vs) H _ I hq) (fun fl s' hs => ?_) fun e s' hs => hs
  have fin : ∀ {σ' : St} {H' : Hp} {v : V} {u : Value}, Inv (cxOf CX P w K mg base N qual scope f cdv A outer s H E) [] σ' H' s' → RelV v u → Q v H' → CE outer P w H s Q u s' :=
    fun {σ' H' v u} J rv q => ⟨v, H', J.os, J.bare, J.base, J.hok, rv, q⟩
  cases fl with
  | ret u =>
    obtain ⟨v, σ', H', J, rv, q⟩ := hs
    exact fin J rv q
  | next =>
    obtain ⟨σ', H', J, q⟩ := hs
    exact fin (v := V.non) (u := Value.none) J rfl q
  | brk =>
    obtain ⟨_, _, _, q⟩ := hs
    exact False.elim q
  | cont =>
    obtain ⟨_, _, _, q⟩ := hs
    exact False.elim q
end L2

namespace L2
open PySem PySem.Spec PyProof.Rows
section
variable {X : Cx} {x : Str} {p pos : Pos} {e : Expr} {es : List Expr} {t : TA} {id T : String} {r : List V → Hp → VK → Prop}

def tCB (r : List V → Hp → VK → Prop) (t : TA) : TE := fun σ H Q => t σ H fun vs H1 => r vs H1 Q
/-- f(e, ..), f a built-in function -/
theorem pe_callB (hc : CallR X (.builtin id) r) (hg : Gl X x) (hm : X.mg x = none) (hv : bootBuiltins x = some (.builtin id)) (ha : PA X (e :: es) t) (hn : x ≠ "__name__" := by decide) (hdb : (x == ("__debug__" : Str)) = false := by decide)
    (he : starEach (e :: es) X.env = (false, eval e X.env) :: starEach es X.env := by rfl) (hpl : (backTo pos (starEach es X.env)).any (·.1) = false := by rfl) : PE X (.Call (.Name x p) (e :: es) [] pos) (tCB r t) := by
  intro pins s σ H Q I h
  refine wpAny_Call_Name_kw (ld_blt I hg hm hv ?_ hn hdb)
  exact PyProof.Rows.callWith_builtin1 (thn (ha pos pins s σ H _ I h) fun us s1 ⟨vs, H1, I1, r1, q1⟩ => hc pins s1 σ H1 vs us Q I1 r1 q1) he hpl
/-- T(e, ..), T a built-in type -/
theorem pe_callTy (hc : CallR X (.type T) r) (hg : Gl X x) (hm : X.mg x = none) (hv : bootBuiltins x = some (.type T)) (ha : PA X (e :: es) t) (hn : x ≠ "__name__" := by decide) (hdb : (x == ("__debug__" : Str)) = false := by decide)
    (he : starEach (e :: es) X.env = (false, eval e X.env) :: starEach es X.env := by rfl) (hpl : (backTo pos (starEach es X.env)).any (·.1) = false := by rfl) : PE X (.Call (.Name x p) (e :: es) [] pos) (tCB r t) := by
  intro pins s σ H Q I h
  refine wpAny_Call_Name_kw (ld_blt I hg hm hv ?_ hn hdb)
  exact PyProof.Rows.callWith_type1 (thn (ha pos pins s σ H _ I h) fun us s1 ⟨vs, H1, I1, r1, q1⟩ => hc pins s1 σ H1 vs us Q I1 r1 q1) he hpl
end
end L2

namespace HT
open PySem PyProof.Rows

section
open PySem.SeqAt
open PySem.AutoSeq1 (wpAny_loadPart')
open PySem.MeetsSeq PySem.MeetsSeq2 PySem.MeetsSeq3

end

section
variable {prog : Program} {w : World} {A : Around} {E : Value → Shared → Prop} {s : Shared}

/-! ### t[a:b], not the whole -/
/-- a slice's bound as a place among n (d where it is left out) -/
def sIx (n d : Nat) : Option Int → Nat
  | none => d
  | some v => if v < 0 then (v + (n : Int)).toNat else min v.toNat n
theorem sIx_none (n d : Nat) : sIx n d none = d := rfl
theorem sIx_nat (n d k : Nat) : sIx n d (some (k : Int)) = min k n := by
  show (if (k : Int) < 0 then ((k : Int) + (n : Int)).toNat else min (k : Int).toNat n) = min k n
  rw [if_neg (by omega), Int.toNat_natCast]
end
end HT

namespace L2
open PySem PySem.Spec PyProof.Rows

/-! ### the parts of a slice -/
abbrev TO := St → Hp → (Option Int → Hp → Prop) → Prop
/-- a slice's part (left out, or an int) -/
def PO (X : Cx) (e : Option Expr) (t : TO) : Prop :=
  ∀ (pins : List (Addr × Obj)) (s : Shared) (σ : St) (H : Hp) (Q : Option Int → Hp → Prop), Inv X pins σ H s → t σ H Q →
    wpAny (model X.prog X.w) X.A (evalPart e X.env) (fun u s' => ∃ o H', Inv X pins σ H' s' ∧ IsPart u o ∧ Q o H') X.xe s
def tNoPart : TO := fun _ H Q => Q none H
def tPart (t : TE) : TO := fun σ H Q => t σ H fun x H1 => ∃ i, x = .int i ∧ Q (some i) H1

section
variable {X : Cx} {e : Expr} {te : TE} {lo hi : Option Expr} {tl th : TO} {pos p2 : Pos}

theorem po_none : PO X none tNoPart := by
  intro pins s σ H Q I h
  rw [evalPart_none]
  exact wpAny_pure ⟨none, H, I, .none, h⟩
theorem po_some (h : PE X e te) : PO X (some e) (tPart te) := by
  intro pins s σ H Q I hw
  rw [evalPart_some]
  refine thn (h pins s σ H _ I hw) fun u s1 ⟨x, H1, I1, r1, q1⟩ => ?_
  obtain ⟨i, rfl, q⟩ := q1
  obtain ⟨t, rfl⟩ := r1
  exact ⟨some i, H1, I1, .int i t, q⟩

/-- what a slice of a value is, by values: the slice object stands at sl -/
def SlR (X : Cx) (r : V → Option Int → Option Int → Hp → VK → Prop) : Prop :=
  ∀ (pins : List (Addr × Obj)) (s : Shared) (σ : St) (H : Hp) (x : V) (v vl vu : Value) (lo hi : Option Int) (sl : Addr) (Q : VK), Inv X pins σ H s → RelV x v → s.heap.IsSliceOf sl vl vu .none → IsPart vl lo → IsPart vu hi → r x lo hi H Q →
    ∃ T id, typeLookup (.type T) "__getitem__" = pure (some (.builtin id)) ∧ s.TypeIs v T ∧ wpAny (model X.prog X.w) X.A (getItem v (.ref sl)) (EP X pins σ Q) X.xe s
def tSl (r : V → Option Int → Option Int → Hp → VK → Prop) (te : TE) (tl th : TO) : TE := fun σ H Q => te σ H fun x H1 => tl σ H1 fun l H2 => th σ H2 fun u H3 => r x l u H3 Q
/-- a[lo:hi], any a -/
theorem pe_slice {r : V → Option Int → Option Int → Hp → VK → Prop} (hr : SlR X r) (he : PE X e te) (hl : PO X lo tl) (hu : PO X hi th) : PE X (.Subscript e (.Slice lo hi none p2) pos) (tSl r te tl th) := by
  intro pins s σ H Q I h
  refine Subscript_ (thn (he pins s σ H _ I h) fun v s1 ⟨x, H1, I1, r1, q1⟩ => ?_)
  refine wpAny_Slice (thn (hl pins s1 σ H1 _ I1 q1) fun vl s2 ⟨l, H2, I2, pl, q2⟩ => thn (hu pins s2 σ H2 _ I2 q2) fun vu s3 ⟨u, H3, I3, pu, q3⟩ => ?_)
  rw [evalPart_none]
  refine wpAny_pure ?_
  have I4 : Inv X pins σ H3 { s3 with heap := s3.heap.push { cls := .type "slice", data := .fields #[vl, vu, .none] } } := I3.kept (t' := s3.toks) fun b ob q => Heap.get?_push_of_some _ q
  obtain ⟨T, id, hT, ht, hg⟩ := hr pins { s3 with heap := s3.heap.push { cls := .type "slice", data := .fields #[vl, vu, .none] } } σ H3 x v vl vu l u s3.heap.objs.size Q I4 r1 (Heap.IsSliceOf.new ..) pl pu q3
  show wpAny (model X.prog X.w) X.A (subscriptTail e (.Slice lo hi none p2) v (.ref s3.heap.objs.size)) (EP X pins σ Q) X.xe { s3 with heap := s3.heap.push { cls := .type "slice", data := .fields #[vl, vu, .none] } }
  exact tail_any (ops := [.ref s3.heap.objs.size, v]) ht hT hg (by with_unfolding_all rfl)

/-- the items of xs[lo:hi] -/
def cutV (xs : List V) (lo hi : Option Int) : List V := (xs.drop (HT.sIx xs.length 0 lo)).take (HT.sIx xs.length xs.length hi - HT.sIx xs.length 0 lo)
theorem cutV_length (xs : List V) (lo hi : Option Int) : (cutV xs lo hi).length ≤ xs.length := by
  unfold cutV
  rw [List.length_take, List.length_drop]
  omega
/-! ### t < u, t + u -/
end
end L2

namespace L2
open PySem PySem.Spec PyProof.Rows

/-! ### places -/
/-- the place that an index of any sign means -/
def ixN (n : Nat) (i : Int) : Option Nat := if 0 ≤ i then (if i < n then some i.toNat else none) else if -(n : Int) ≤ i then some (i + n).toNat else none
def atI {α : Type} (xs : List α) (i : Int) : Option α := (ixN xs.length i).bind fun j => xs[j]?
theorem ixN_seq {n : Nat} {i : Int} {j : Nat} (h : ixN n i = some j) : seqIndex? i n = some j ∧ j < n ∧ -(n : Int) ≤ i ∧ i < n := by
  unfold ixN at h
  by_cases h0 : 0 ≤ i
  · rw [if_pos h0] at h
    by_cases h1 : i < n
    · rw [if_pos h1] at h
      have e : i.toNat = j := Option.some.inj h
      exact ⟨by rw [seqIndex_of h0 h1, e], by omega, by omega, h1⟩
    · rw [if_neg h1] at h; cases h
  · rw [if_neg h0] at h
    by_cases h1 : -(n : Int) ≤ i
    · rw [if_pos h1] at h
      have e : (i + n).toNat = j := Option.some.inj h
      exact ⟨by rw [seqIndex_neg (by omega) h1, e], by omega, h1, by omega⟩
    · rw [if_neg h1] at h; cases h
theorem atI_get {α : Type} {xs : List α} {i : Int} {v : α} (h : atI xs i = some v) : ∃ j, seqIndex? i xs.length = some j ∧ xs[j]? = some v ∧ j < xs.length ∧ -(xs.length : Int) ≤ i ∧ i < xs.length := by
  unfold atI at h
  cases e : ixN xs.length i with
  | none => rw [e] at h; cases h
  | some j =>
    rw [e] at h
    obtain ⟨h1, h2, h3, h4⟩ := ixN_seq e
    exact ⟨j, h1, h, h2, h3, h4⟩
theorem atI_nat {α : Type} {xs : List α} {j : Nat} {v : α} (h : xs[j]? = some v) : atI xs (j : Int) = some v := by
  have hj : j < xs.length := (List.getElem?_eq_some_iff.mp h).1
  have e : ixN xs.length (j : Int) = some j := by
    unfold ixN
    rw [if_pos (by omega), if_pos (by omega)]; simp
  unfold atI; rw [e]; exact h
/-! ### what may be subscripted -/
/-- what stands as an index of a plain subscript -/
def PlainIx (b : Expr) : Prop := ∀ o i, subscripted b false o i = operate [o, i] (getItem o i)
/-- a subscript by values -/
def IxR (X : Cx) (r : R2) : Prop :=
  ∀ (value slice : Expr) (pins : List (Addr × Obj)) (s : Shared) (σ : St) (H : Hp) (x y : V) (v u : Value) (Q : VK), Inv X pins σ H s → RelV x v → RelV y u → r x y H Q →
    subscripted slice false v u = operate [v, u] (getItem v u) → wpAny (model X.prog X.w) X.A (subscriptTail value slice v u) (EP X pins σ Q) X.xe s
/-- a call of a builtin's method by values: the receiver, the arguments -/
def MtR (X : Cx) (id : String) (r : V → List V → Hp → VK → Prop) : Prop :=
  ∀ (pins : List (Addr × Obj)) (s : Shared) (σ : St) (H : Hp) (x : V) (xs : List V) (v : Value) (us : List Value) (Q : VK), Inv X pins σ H s → RelV x v → Vals xs us → r x xs H Q →
    wpAny (model X.prog X.w) X.A (call (.builtin id) (v :: us)) (EP X pins σ Q) X.xe s
section
variable {X : Cx} {a b : Expr} {ta tb : TE} {pos : Pos}
theorem IxR.or {r r' : R2} (h : IxR X r) (h' : IxR X r') : IxR X (fun x y H Q => r x y H Q ∨ r' x y H Q) := by
  intro value slice pins s σ H x y v u Q I rx ry q hs
  rcases q with q | q
  · exact h value slice pins s σ H x y v u Q I rx ry q hs
  · exact h' value slice pins s σ H x y v u Q I rx ry q hs
/-- a[b] -/
theorem pe_ix {r : R2} (hr : IxR X r) (ha : PE X a ta) (hb : PE X b tb) (hs : PlainIx b) : PE X (.Subscript a b pos) (tOp r ta tb) := by
  intro pins s σ H Q I h
  exact Subscript_ (binT ha hb I h fun v u s2 x y H2 I2 rx ry q => hr a b pins s2 σ H2 x y v u Q I2 rx ry q (hs _ _))

def rIxL (K : PySem.W.Frag) : R2 := fun x y H Q => ∃ p xs i v, x = .ref p ∧ y = .int i ∧ SqL K H p xs ∧ atI xs i = some v ∧ Q v H
def rIxT (K : PySem.W.Frag) : R2 := fun x y H Q => ∃ p xs i v, x = .ref p ∧ y = .int i ∧ SqT K H p xs ∧ atI xs i = some v ∧ Q v H
def rIxS : R2 := fun x y H Q => ∃ z i c, x = .str z ∧ y = .int i ∧ z.length ≤ sizeLine ∧ atI z.cps.toList i = some c ∧ Q (.str ⟨#[c]⟩) H
theorem ix_list : IxR X (rIxL X.K) := by
  intro value slice pins s σ H x y v u Q I rx ry h hs
  obtain ⟨p, xs, i, z, rfl, rfl, hq, he, q⟩ := h
  cases rx
  obtain ⟨t, rfl⟩ := ry
  obtain ⟨its, r, pl, hz⟩ := I.list hq
  obtain ⟨j, h1, h2, h3, h4, h5⟩ := atI_get he
  obtain ⟨w, ew, rw'⟩ := r.get h2
  have hl := r.length
  have hn := line63
  have fin : EP X pins σ Q w s := ⟨z, H, I, rw', q⟩
  by_cases h0 : 0 ≤ i
  · have hj : i.toNat = j := by
      rw [seqIndex_of h0 h5] at h1
      exact Option.some.inj h1
    exact item_listR pl.isList h0 (by omega) (by rw [hj]; simpa using ew) fin hs
  · have hj : (i + (its.toArray.size : Int)).toNat = j := by
      rw [seqIndex_neg (by omega) h4] at h1
      rw [List.size_toArray, ← hl]
      exact Option.some.inj h1
    exact subscriptTail_builtinR (x := w) pl.isList.typeIs slot_list_getitem.lookup
      (wpAny_getItem_list_neg (Q := fun r s' => r = w ∧ EP X pins σ Q r s') pl.isList (by omega) (by rw [List.size_toArray] <;> omega) (by omega) (by rw [hj]; simpa using ew) ⟨rfl, fin⟩) hs
theorem ix_tup : IxR X (rIxT X.K) := by
  intro value slice pins s σ H x y v u Q I rx ry h hs
  obtain ⟨p, xs, i, z, rfl, rfl, hq, he, q⟩ := h
  cases rx
  obtain ⟨t, rfl⟩ := ry
  obtain ⟨its, r, pl, hz⟩ := I.tuple hq
  obtain ⟨j, h1, h2, h3, h4, h5⟩ := atI_get he
  obtain ⟨w, ew, rw'⟩ := r.get h2
  have hl := r.length
  have hn := line63
  have fin : EP X pins σ Q w s := ⟨z, H, I, rw', q⟩
  exact subscriptTail_builtinR (x := w) pl.typeIs slot_tuple_getitem.lookup
    (getItem_tuple (j := j) (Q := fun r s' => r = w ∧ EP X pins σ Q r s') pl (by omega) (by omega) (by rw [List.size_toArray, ← hl]; exact h1) (by simpa using ew) ⟨rfl, fin⟩) hs
theorem ix_str : IxR X rIxS := by
  intro value slice pins s σ H x y v u Q I rx ry h hs
  obtain ⟨z, i, c, rfl, rfl, hz, he, q⟩ := h
  obtain ⟨t, rfl⟩ := rx
  obtain ⟨t', rfl⟩ := ry
  obtain ⟨j, h1, h2, h3, h4, h5⟩ := atI_get he
  have hl : z.cps.toList.length = z.length := by simp [Str.length]
  rw [hl] at h1 h4 h5
  have hn := line63
  exact tail_any (typeIs_str s z t) slot_str_getitem.lookup (getItem_str (c := c) (by
    have e1 : decide (i < -(2 ^ 63 : Int)) = false := decide_eq_false (by omega)
    have e2 : decide (i ≥ 2 ^ 63) = false := decide_eq_false (by omega)
    rw [e1, e2, Bool.or_false]) (by rw [h1]; simpa using h2) ⟨.str ⟨#[c]⟩, H, I.tok _, ⟨_, rfl⟩, q⟩) hs
/-- list, tuple or str -/
def rIx (K : PySem.W.Frag) : R2 := fun x y H Q => rIxL K x y H Q ∨ rIxT K x y H Q ∨ rIxS x y H Q
theorem ix_seq : IxR X (rIx X.K) := ix_list.or (ix_tup.or ix_str)

/-! ### xs[i] = v, any sign -/
/-! ### slices -/
theorem slice_bounds (lo hi : Option Int) (n : Nat) : (sliceBounds lo hi none n).1 = ((HT.sIx n 0 lo : Nat) : Int) ∧ (sliceBounds lo hi none n).2.1 = ((HT.sIx n n hi : Nat) : Int) ∧ (sliceBounds lo hi none n).2.2 = 1 := by
  refine ⟨?_, ?_, rfl⟩
  · cases lo with
    | none => simp [sliceBounds, HT.sIx]
    | some i =>
      simp only [sliceBounds, HT.sIx, Option.getD_none, show (1 : Int) > 0 by decide, if_true]
      by_cases h : i < 0
      · simp only [h, if_true] <;> omega
      · simp only [h, if_false] <;> omega
  · cases hi with
    | none => simp [sliceBounds, HT.sIx]
    | some i =>
      simp only [sliceBounds, HT.sIx, Option.getD_none, show (1 : Int) > 0 by decide, if_true]
      by_cases h : i < 0
      · simp only [h, if_true] <;> omega
      · simp only [h, if_false] <;> omega
theorem slicePick_cut (its : List Value) (lo hi : Option Int) : slicePick its.toArray lo hi none = ((its.drop (HT.sIx its.length 0 lo)).take (HT.sIx its.length its.length hi - HT.sIx its.length 0 lo)).toArray := by
  obtain ⟨h1, h2, h3⟩ := slice_bounds lo hi its.toArray.size
  unfold slicePick
  rw [h1, h2, h3]
  simp only [sliceRange_one, pick_run, List.size_toArray] <;> rfl
/-- xs[lo:hi] of a list: a new list -/
def rSlL (K : PySem.W.Frag) : V → Option Int → Option Int → Hp → VK → Prop := fun x lo hi H Q => ∃ a xs, x = .ref a ∧ SqL K H a xs ∧ ∀ p, H p = none → Q (.ref p) (upd H p (.lst (cutV xs lo hi)))
theorem sl_list : SlR X (rSlL X.K) := by
  intro pins s σ H x v vl vu lo hi sl Q I rx hs pl pu h
  obtain ⟨a, xs, rfl, hx, q⟩ := h
  cases rx
  obtain ⟨its, r, ht, hz⟩ := I.list hx
  have hlen := r.length
  refine ⟨"list", _, slot_list_getitem.lookup, ht.isList.typeIs, ?_⟩
  refine wpAny_getItem_list_slice ht.isList hs pl pu .none (by simp) ?_ (by rw [List.size_toArray] <;> omega)
  rw [slicePick_cut, ← hlen]
  refine ⟨.ref s.heap.objs.size, _, I.laid (t' := s.toks) (o := .lst (cutV xs lo hi)) (fun b ob q => Heap.get?_push_of_some _ q) (Nat.le_refl _) ?_, rfl, q _ (I.hok.fresh (Nat.le_refl _))⟩
  exact ⟨Nat.le_trans (cutV_length xs lo hi) hz, _, 0, (r.drop (HT.sIx xs.length 0 lo)).take (HT.sIx xs.length xs.length hi - HT.sIx xs.length 0 lo), Heap.get?_push_size _ rfl⟩

/-! ### in, not in: flat items -/
/-! ### len, list(x), tuple(x) of any list or tuple that is read -/
theorem call_len_seq : CallR X (.builtin "len") (fun xs H Q => ∃ p ys, xs = [.ref p] ∧ (SqL X.K H p ys ∨ SqT X.K H p ys) ∧ Q (.int ys.length) H) := by
  intro pins s σ H xs us Q I r h
  obtain ⟨p, ys, rfl, hq, q⟩ := h
  obtain ⟨u, rfl, rx⟩ := vals1 r
  cases rx
  have hn := line63
  rcases hq with hq | hq
  · obtain ⟨its, r', pl, hz⟩ := I.list hq
    have hlen := r'.length
    exact Calls.call_len_list pl.isList (by simp only [List.size_toArray] <;> omega) ⟨.int ys.length, H, I.tok _, ⟨s.toks + 1, by rw [List.size_toArray, hlen]⟩, q⟩
  · obtain ⟨its, r', pl, hz⟩ := I.tuple hq
    have hlen := r'.length
    exact len_tuple pl (by simp only [List.size_toArray] <;> omega) ⟨.int ys.length, H, I.tok _, ⟨s.toks + 1, by rw [List.size_toArray, hlen]⟩, q⟩
theorem call_list_of : CallR X (.type "list") (fun xs H Q => ∃ p ys, xs = [.ref p] ∧ (SqL X.K H p ys ∨ SqT X.K H p ys) ∧ ∀ l, H l = none → Q (.ref l) (upd H l (.lst ys))) := by
  intro pins s σ H xs us Q I r h
  obtain ⟨p, ys, rfl, hq, q⟩ := h
  obtain ⟨u, rfl, rx⟩ := vals1 r
  cases rx
  have fin : ∀ (its : List Value), Vals ys its → ys.length ≤ sizeLine → ∀ (h' : Heap) (c' : Nat), (∀ b o', s.heap.get? b = some o' → h'.get? b = some o') →
      h'.get? s.heap.objs.size = some { cls := .type "list", dict := none, data := .seq its.toArray c', slots := #[] } → EP X pins σ Q (.ref s.heap.objs.size) { s with heap := h' } := fun its r' hz h' c' kp e =>
    ⟨.ref s.heap.objs.size, _, I.laid (t' := s.toks) kp (Nat.le_refl _) (show ObjOk X.prog X.w _ h' _ (.lst ys) from ⟨hz, its, c', r', e⟩), rfl, q _ (I.hok.fresh (Nat.le_refl _))⟩
  rcases hq with hq | hq
  · obtain ⟨its, r', pl, hz⟩ := I.list hq
    have hlen := r'.length
    obtain ⟨o, ho, hc, n, hd⟩ := pl.isList
    exact call_list_seq p (.inl rfl) ho hc hd (fun h' c' kp e => fin its r' hz h' c' kp e) (by simp only [List.size_toArray] <;> omega)
  · obtain ⟨its, r', pl, hz⟩ := I.tuple hq
    have hlen := r'.length
    obtain ⟨o, ho, hc, n, hd⟩ := pl
    exact call_list_seq p (.inr rfl) ho hc hd (fun h' c' kp e => fin its r' hz h' c' kp e) (by simp only [List.size_toArray] <;> omega)
/-! ### the call of a builtin's method: o.m(..) -/
/-- the value is of that builtin type -/
def tyV (K : PySem.W.Frag) (T : String) (x : V) (H : Hp) : Prop := match x with
  | .str _ => T = "str"
  | .int _ => T = "int"
  | .ref p => (T = "list" ∧ ∃ xs, SqL K H p xs) ∨ (T = "tuple" ∧ ∃ o, K.lookup p = some o ∧ o.cls = .type "tuple" ∧ o.dict = none) ∨
      (T = "dict" ∧ ((∃ kvs, H p = some (.dK kvs)) ∨ ∃ kvs, H p = some (.dT kvs))) ∨ (T = "set" ∧ ∃ S n, H p = some (.set S n))
  | _ => False
theorem tyV_is {pins : List (Addr × Obj)} {σ : St} {H : Hp} {s : Shared} {T : String} {x : V} {v : Value} (I : Inv X pins σ H s) (r : RelV x v) (ty : tyV X.K T x H) :
    s.TypeIs v T ∧ ∀ a, v = .ref a → ∃ ob, s.heap.get? a = some ob ∧ ob.dict = none := by
  cases x with
  | str z =>
    obtain ⟨t, rfl⟩ := r
    cases (show T = "str" from ty)
    exact ⟨typeIs_str s z t, fun _ e => nomatch e⟩
  | int i =>
    obtain ⟨t, rfl⟩ := r
    cases (show T = "int" from ty)
    exact ⟨typeIs_int s i t, fun _ e => nomatch e⟩
  | ref p =>
    cases r
    rcases ty with ⟨rfl, xs, hq⟩ | ⟨rfl, o, hk, hc, hd⟩ | ⟨rfl, hk⟩ | ⟨rfl, S, n, hk⟩
    · obtain ⟨its, _, pl, _⟩ := I.list hq
      refine ⟨pl.isList.typeIs, fun a e => ?_⟩
      cases e
      obtain ⟨o, n, e, c, hd, _⟩ := pl
      exact ⟨o, e, hd⟩
    · refine ⟨⟨o, I.kIn p o hk, hc⟩, fun a e => ?_⟩
      cases e
      exact ⟨o, I.kIn _ o hk, hd⟩
    · have z : ∃ o, s.heap.get? p = some o ∧ o.ExactDict := by
        rcases hk with ⟨kvs, hk⟩ | ⟨kvs, hk⟩
        · obtain ⟨_, _, _, _, o, _, _, e, ex, _⟩ := I.hok p _ hk
          exact ⟨o, e, ex⟩
        · obtain ⟨_, _, _, _, o, _, _, e, ex, _⟩ := I.hok p _ hk
          exact ⟨o, e, ex⟩
      obtain ⟨o, e, ex⟩ := z
      refine ⟨⟨o, e, ex.1⟩, fun a e2 => ?_⟩
      cases e2
      exact ⟨o, e, ex.2.1⟩
    · obtain ⟨o, _, _, _, e, ex, _⟩ := I.hok p _ hk
      refine ⟨⟨o, e, ex.1⟩, fun a e2 => ?_⟩
      cases e2
      exact ⟨o, e, ex.2.1⟩
  | _ => exact False.elim ty
def tBM (K : PySem.W.Frag) (T : String) (r : V → List V → Hp → VK → Prop) (to : TE) (t : TA) : TE := fun σ H Q => to σ H fun x H1 => tyV K T x H1 ∧ t σ H1 fun xs H2 => r x xs H2 Q
variable {o e : Expr} {es : List Expr} {to : TE} {t : TA} {name : Str} {apos cpos : Pos} {T id : String} {r : V → List V → Hp → VK → Prop}
theorem pe_bm (pa : PlainAttrs T) (slot : Slot T name id) (hty : typeOf (.builtin id) = pure (.type "method_descriptor")) (hm : MtR X id r) (ho : PE X o to) (ha : PA X (e :: es) t)
    (hbase : attributeBase o name X.env (eval o X.env) = eval o X.env := by rfl)
    (hfew : ((backTo cpos (starEach (e :: es) X.env)).all (fun x => !x.1) && (backToKw cpos (keywordEach [] X.env)).all (fun x => x.1.isSome)
      && decide ((e :: es).length + ([] : List Keyword).length + (if ([] : List Keyword).isEmpty then 0 else 1) < 30)) = true := by rfl)
    (hline : (apos.endLine == cpos.line) = true := by rfl) (hs : starEach (e :: es) X.env = (false, eval e X.env) :: starEach es X.env := by rfl) (hplain : (backTo cpos (starEach es X.env)).any (·.1) = false := by rfl) :
    PE X (.Call (.Attribute o name apos) (e :: es) [] cpos) (tBM X.K T r to t) := by
  intro pins s σ H Q I h
  refine wpAny_Call_method_late hbase hfew hline rfl (thn (ho pins s σ H _ I h) fun v s1 ⟨x, H1, I1, r1, ty, q1⟩ => ?_)
  obtain ⟨h1, h2⟩ := tyV_is I1 r1 ty
  refine ⟨T, id, pa, slot, hty, h1, h2, ?_⟩
  have hA := ha cpos pins s1 σ H1 _ I1 q1
  rw [hs] at hA ⊢
  refine Calls.callWith_builtin (by show (false || (backTo cpos (starEach es X.env)).any (·.1)) = false; rw [hplain] <;> rfl) (Calls.evalArgs_plain ?_)
  exact thn hA fun us s2 ⟨vs, H2, I2, r2, q2⟩ => hm pins s2 σ H2 x vs v us Q I2 r1 r2 q2
/- xs.append(e), list.index on a module's tuple .. are MtR facts of 06m -/
end
end L2

namespace L2
open PySem PySem.Spec PyProof.Rows

def MtM (X : Cx) (id : String) (r : V → List V → Hp → VK → Prop) : Prop :=
  ∀ (pins : List (Addr × Obj)) (s : Shared) (σ : St) (H : Hp) (x : V) (xs : List V) (v : Value) (us : List Value) (Q : VK), Inv X pins σ H s → RelV x v → Vals xs us → r x xs H Q →
    wpAny (model X.prog X.w) X.A (call (.builtin id) (v :: us)) (EP X pins σ Q) X.xe s

/-! ### lists of values -/
theorem Vals.one : ∀ {x : V} {us : List Value}, Vals [x] us → ∃ u, us = [u] ∧ RelV x u
  | _, _, .cons r .nil => ⟨_, rfl, r⟩
section
variable {X : Cx} {pins : List (Addr × Obj)} {σ : St} {H : Hp} {s : Shared} {l b : Addr} {xs ys zs : List V}

/-! ### the two steps: a tracked list is rewritten, a new list is laid -/
theorem Inv.lset {its its' : List Value} {n : Nat} {f : Array Value → Array Value} {t' : Nat} (I : Inv X pins σ H s) (hH : H l = some (.lst xs))
    (e : s.heap.get? l = some { cls := .type "list", data := .seq its.toArray n }) (hf : f its.toArray = its'.toArray) (hv : Vals ys its') (hz : ys.length ≤ sizeLine) :
    Inv X pins σ (upd H l (.lst ys)) { s with heap := s.heap.update l (Obj.mapSeq f), toks := t' } := by
  have q := PySem.IsL.update e f
  rw [hf] at q
  refine I.write (x := l) (e := l) (by rw [hH]; exact trivial) (.inl rfl) (fun b' u hb hu => (Heap.get?_update_other s.heap (Obj.mapSeq f) (Ne.symm hb)).trans hu) ⟨_, q⟩ ?_
  exact ⟨hz, its', _, hv, q⟩
theorem Inv.lnew {its : List Value} {t' : Nat} (I : Inv X pins σ H s) (hv : Vals ys its) (hz : ys.length ≤ sizeLine) :
    Inv X pins σ (upd H s.heap.objs.size (.lst ys)) { s with heap := s.heap.push { cls := .type "list", data := .seq its.toArray }, toks := t' } :=
  I.laid (fun _ _ q => Heap.get?_push_of_some _ q) (Nat.le_refl _) ⟨hz, its, 0, hv, Heap.get?_push_size _ rfl⟩
theorem Inv.fresh (I : Inv X pins σ H s) : H s.heap.objs.size = none := I.hok.fresh (Nat.le_refl _)
theorem Inv.lstM (I : Inv X pins σ H s) (hH : H l = some (.lst xs)) : xs.length ≤ sizeLine ∧ ∃ (its : List Value) (n : Nat), Vals xs its ∧ xs.length = its.length ∧ s.heap.get? l = some { cls := .type "list", data := .seq its.toArray n } := by
  obtain ⟨z, its, n, r, e⟩ := I.hok l _ hH
  exact ⟨z, its, n, r, r.length, e⟩

theorem notLongL {n : Nat} (h : n ≤ sizeLine) : Builtin.List.listTooLong n = false := by
  unfold Builtin.List.listTooLong
  exact decide_eq_false (by omega)
end

section
variable {X : Cx}

/-! ### methods -/
def rAppend : V → List V → Hp → VK → Prop := fun x vs H Q => ∃ l xs y, x = .ref l ∧ vs = [y] ∧ H l = some (.lst xs) ∧ xs.length < sizeLine ∧ Q .non (upd H l (.lst (xs ++ [y])))
theorem mt_append : MtM X "list.append" rAppend := by
  intro pins s σ H x vs v us Q I rx rv h
  obtain ⟨l, xs, y, rfl, rfl, hH, hz, q⟩ := h
  cases rx
  obtain ⟨u, rfl, ru⟩ := rv.one
  obtain ⟨z, its, n, r, hl, e⟩ := I.lstM hH
  refine call_meets F.slot_list_append ⟨_, e, rfl⟩ F.entry_list_append (F.args_list_append_2 _ _) (PySem.list_append l its.toArray n u (by rw [List.size_toArray]; omega)) ⟨e, ?_⟩
  refine ⟨.non, _, I.lset (its' := its ++ [u]) hH e (by simp) (r.append (.cons ru .nil)) ?_, rfl, q⟩
  rw [List.length_append, List.length_singleton]
  omega

def rExtend : V → List V → Hp → VK → Prop := fun x vs H Q => ∃ l b xs zs, x = .ref l ∧ vs = [.ref b] ∧ H l = some (.lst xs) ∧ H b = some (.lst zs) ∧ xs.length + zs.length ≤ sizeLine ∧ Q .non (upd H l (.lst (xs ++ zs)))
theorem mt_extend : MtM X "list.extend" rExtend := by
  intro pins s σ H x vs v us Q I rx rv h
  obtain ⟨l, b, xs, zs, rfl, rfl, hH, hB, hz, q⟩ := h
  cases rx
  obtain ⟨u, rfl, ru⟩ := rv.one
  cases ru
  obtain ⟨z, its, n, r, hl, e⟩ := I.lstM hH
  obtain ⟨z2, its2, n2, r2, hl2, e2⟩ := I.lstM hB
  have hsz : its.toArray.size + its2.toArray.size ≤ sizeLine := by rw [List.size_toArray, List.size_toArray]; omega
  have hlong : ¬ (!its.toArray.isEmpty && Builtin.List.listTooLong (its.toArray.size + its2.toArray.size)) = true := by
    rw [notLongL hsz, Bool.and_false]
    exact Bool.false_ne_true
  refine call_meets F.slot_list_extend ⟨_, e, rfl⟩ F.entry_list_extend (F.args_list_extend_2 _ _)
    (AutoSeq1.list_extend_list_list_0 l its.toArray n b its2.toArray n2 hlong (by rw [List.size_toArray]; omega) (by omega)) ⟨e, e2, ?_⟩
  refine ⟨.non, _, I.lset (its' := its ++ its2) hH e (by simp) (r.append r2) ?_, rfl, q⟩
  rw [List.length_append]
  omega

/-! ### list + list, list += list, list * int -/
def rCat : R2 := fun x y H Q => ∃ l b xs zs, x = .ref l ∧ y = .ref b ∧ H l = some (.lst xs) ∧ H b = some (.lst zs) ∧ xs.length + zs.length ≤ sizeLine ∧ ∀ p, H p = none → Q (.ref p) (upd H p (.lst (xs ++ zs)))
theorem op_cat : OpR X (binaryOp .Add) rCat := by
  intro pins s σ H x y v u Q I rx ry h
  obtain ⟨l, b, xs, zs, rfl, rfl, hH, hB, hz, q⟩ := h
  cases rx
  cases ry
  obtain ⟨z, its, n, r, hl, e⟩ := I.lstM hH
  obtain ⟨z2, its2, n2, r2, hl2, e2⟩ := I.lstM hB
  refine PySem.P.add_list e e2 ?_ (by rw [List.size_toArray, List.size_toArray]; omega)
  have ea : its.toArray ++ its2.toArray = (its ++ its2).toArray := by simp
  rw [ea]
  exact ⟨.ref _, _, I.lnew (t' := s.toks) (r.append r2) (by rw [List.length_append]; omega), rfl, q _ I.fresh⟩
/-! ### del xs[i] -/
end

/-! ### xs[a:b] = ys -/
section
variable {prog : Program} {w : World} {A : Around} {E : Value → Shared → Prop} {s : Shared}
end

section
variable {X : Cx}
end
end L2

namespace L2
open PySem PySem.Spec PyProof.Rows

/-! ### lists of pairs as tables -/
section
variable {κ : Type} [DecidableEq κ]
def valV (kvs : List (κ × V)) (k : κ) : Option V := (kvs.find? fun kv => decide (kv.1 = k)).map (·.2)
/-- in its place, or at the end -/
def putK (kvs : List (κ × V)) (k : κ) (v : V) : List (κ × V) :=
  if (kvs.any fun kv => decide (kv.1 = k)) = true then kvs.map (fun kv => if kv.1 = k then (kv.1, v) else kv) else kvs ++ [(k, v)]
theorem valV_pos {p : κ × V} {r : List (κ × V)} {k : κ} (e : p.1 = k) : valV (p :: r) k = some p.2 := by simp [valV, List.find?_cons, e]
theorem valV_neg {p : κ × V} {r : List (κ × V)} {k : κ} (e : ¬ p.1 = k) : valV (p :: r) k = valV r k := by simp [valV, List.find?_cons, e]
theorem valV_any (k : κ) : ∀ kvs : List (κ × V), (kvs.any fun kv => decide (kv.1 = k)) = (valV kvs k).isSome
  | [] => rfl
  | p :: r => by
    rw [List.any_cons]
    by_cases e : p.1 = k
    · simp only [valV_pos e, decide_eq_true e, Bool.true_or, Option.isSome_some]
    · rw [valV_neg e, decide_eq_false e, Bool.false_or]; exact valV_any k r
theorem valV_map (k j : κ) (y : V) : ∀ kvs : List (κ × V), valV (kvs.map fun kv => if kv.1 = k then (kv.1, y) else kv) j = (valV kvs j).map fun x => if j = k then y else x
  | [] => rfl
  | p :: r => by
    have ih := valV_map k j y r
    rw [List.map_cons]
    by_cases h : p.1 = k
    · rw [if_pos h]
      by_cases e : p.1 = j
      · rw [valV_pos (p := (p.1, y)) e, valV_pos e, Option.map_some, if_pos (e.symm.trans h)]
      · rw [valV_neg (p := (p.1, y)) e, valV_neg e, ih]
    · rw [if_neg h]
      by_cases e : p.1 = j
      · rw [valV_pos (p := p) e, valV_pos e, Option.map_some, if_neg (fun z => h (e.trans z))]
      · rw [valV_neg (p := p) e, valV_neg e, ih]
theorem valV_snoc (k j : κ) (y : V) : ∀ kvs : List (κ × V), valV kvs k = none → valV (kvs ++ [(k, y)]) j = if j = k then some y else valV kvs j
  | [], _ => by
    by_cases e : k = j
    · rw [if_pos e.symm]; exact valV_pos (p := (k, y)) e
    · rw [if_neg (fun z => e z.symm)]; exact valV_neg (p := (k, y)) e
  | p :: r, hn => by
    rw [List.cons_append]
    have hk : ¬ p.1 = k := fun z => by rw [valV_pos z] at hn; cases hn
    rw [valV_neg hk] at hn
    have ih := valV_snoc k j y r hn
    by_cases e : p.1 = j
    · rw [valV_pos e, valV_pos e, if_neg (fun z => hk (e.trans z))]
    · rw [valV_neg e, valV_neg e, ih]
theorem valV_put (kvs : List (κ × V)) (k j : κ) (y : V) : valV (putK kvs k y) j = if j = k then some y else valV kvs j := by
  unfold putK
  by_cases a : (kvs.any fun kv => decide (kv.1 = k)) = true
  · rw [if_pos a, valV_map]
    rw [valV_any] at a
    by_cases e : j = k
    · obtain ⟨x, hx⟩ := Option.isSome_iff_exists.mp a
      rw [if_pos e, e, hx, Option.map_some, if_pos rfl]
    · rw [if_neg e]
      cases valV kvs j with
      | none => rfl
      | some x => rw [Option.map_some, if_neg e]
  · rw [if_neg a]
    refine valV_snoc k j y kvs ?_
    rw [valV_any] at a
    cases q : valV kvs k with
    | none => rfl
    | some x => rw [q] at a; exact (a rfl).elim
theorem length_putK (kvs : List (κ × V)) (k : κ) (v : V) : (putK kvs k v).length ≤ kvs.length + 1 := by
  unfold putK
  split
  · rw [List.length_map]; omega
  · rw [List.length_append, List.length_cons, List.length_nil]; omega
theorem putK_new {kvs : List (κ × V)} {k : κ} (v : V) (h : valV kvs k = none) : putK kvs k v = kvs ++ [(k, v)] := by
  unfold putK
  rw [valV_any, h]
  exact if_neg (by decide)

theorem RelO.isSome_eq {o : Option V} {u : Option Value} (r : RelO o u) : o.isSome = u.isSome := by
  cases o with
  | none => cases u with
    | none => rfl
    | some _ => exact (show False from r).elim
  | some _ => cases u with
    | none => exact (show False from r).elim
    | some _ => rfl
/-- raw tables of the same keys -/
theorem KV.val {kvs : List (κ × V)} {vs : List (κ × Value)} (r : KV kvs vs) (k : κ) : RelO (valV kvs k) (valueAt vs k) := by
  unfold KV at r
  induction r with
  | nil => exact True.intro
  | @cons p q ps qs h t ih =>
    obtain ⟨h1, h2⟩ := h
    by_cases e : p.1 = k
    · have e' : q.1 = k := h1.symm.trans e
      have b : valueAt (q :: qs) k = some q.2 := by simp [valueAt, List.find?_cons, e']
      rw [valV_pos e, b]; exact h2
    · have e' : ¬ q.1 = k := fun z => e (h1.trans z)
      have b : valueAt (q :: qs) k = valueAt qs k := by simp [valueAt, List.find?_cons, e']
      rw [valV_neg e, b]; exact ih
theorem KV.any {kvs : List (κ × V)} {vs : List (κ × Value)} (r : KV kvs vs) (k : κ) : (kvs.any fun kv => decide (kv.1 = k)) = vs.any fun kv => decide (kv.1 = k) := by
  unfold KV at r
  induction r with
  | nil => rfl
  | cons h t ih => rw [List.any_cons, List.any_cons, ih, h.1]
theorem KV.repl {kvs : List (κ × V)} {vs : List (κ × Value)} (r : KV kvs vs) (k : κ) {y : V} {u : Value} (ry : RelV y u) :
    KV (kvs.map fun kv => if kv.1 = k then (kv.1, y) else kv) (vs.map fun kv => if kv.1 = k then (kv.1, u) else kv) := by
  unfold KV at r ⊢
  induction r with
  | nil => exact .nil
  | @cons p q ps qs h t ih =>
    rw [List.map_cons, List.map_cons]
    refine .cons ?_ ih
    obtain ⟨h1, h2⟩ := h
    by_cases e : p.1 = k
    · rw [if_pos e, if_pos (h1.symm.trans e)]; exact ⟨h1, ry⟩
    · rw [if_neg e, if_neg (fun z => e (h1.trans z))]; exact ⟨h1, h2⟩
theorem KV.put {kvs : List (κ × V)} {vs : List (κ × Value)} (r : KV kvs vs) (k : κ) {y : V} {u : Value} (ry : RelV y u) : KV (putK kvs k y) (stored vs k u) := by
  unfold putK stored
  rw [r.any k]
  by_cases e : (vs.any fun kv => decide (kv.1 = k)) = true
  · rw [if_pos e, if_pos e]; exact r.repl k ry
  · rw [if_neg e, if_neg e]; exact Paired.snoc r ⟨rfl, ry⟩
theorem KV.length {kvs : List (κ × V)} {vs : List (κ × Value)} (r : KV kvs vs) : kvs.length = vs.length := Paired.length r
end


/-! ### a tracked dict, its keys ints and texts or tuples of these -/
theorem kV_is {P : Program} {w : World} {k : Key} {u : Value} (r : RelV (kV k) u) : (mixKind P w).is k u = true := by
  cases k with
  | inl i => obtain ⟨t, e⟩ := (show ∃ t, u = Value.int i t from r); subst e; exact mixKind_int P w i t
  | inr x => obtain ⟨t, e⟩ := (show ∃ t, u = Value.str x t from r); subst e; exact mixKind_str P w x t
theorem items_are {P : Program} {w : World} : ∀ {ks : List Key} {us : List Value}, Vals (ks.map kV) us → ItemsAre (mixKind P w) ks us
  | [], _, r => by rw [List.map_nil] at r; cases r; exact .nil
  | k :: ks, _, r => by
    rw [List.map_cons] at r
    cases r with
    | cons h t => exact .cons (kV_is h) (items_are t)

/-- raw entries of a dict with tuple keys -/
abbrev KT (H : Hp) : List (List Key × V) → List (List Key × Addr × Value) → Prop := Paired fun p q => p.1 = q.1 ∧ H q.2.1 = some (.tup (p.1.map kV)) ∧ RelV p.2 q.2.2
theorem KT.val {H : Hp} {kvs : List (List Key × V)} {xs : List (List Key × Addr × Value)} (r : KT H kvs xs) (k : List Key) : RelO (valV kvs k) ((atKey xs k).map (·.2)) := by
  induction r with
  | nil => exact True.intro
  | @cons p q ps qs h t ih =>
    obtain ⟨h1, _, h2⟩ := h
    by_cases e : p.1 = k
    · have e' : q.1 = k := h1.symm.trans e
      have b : atKey (q :: qs) k = some q.2 := by simp [atKey, List.find?_cons, e']
      rw [valV_pos e, b]; exact h2
    · have e' : ¬ q.1 = k := fun z => e (h1.trans z)
      have b : atKey (q :: qs) k = atKey qs k := by simp [atKey, List.find?_cons, e']
      rw [valV_neg e, b]; exact ih
theorem KT.repl {H : Hp} {kvs : List (List Key × V)} {xs : List (List Key × Addr × Value)} (r : KT H kvs xs) (k : List Key) {y : V} {u : Value} (ry : RelV y u) :
    KT H (kvs.map fun kv => if kv.1 = k then (kv.1, y) else kv) (xs.map (putAt k u)) := by
  induction r with
  | nil => exact .nil
  | @cons p q ps qs h t ih =>
    rw [List.map_cons, List.map_cons]
    refine .cons ?_ ih
    obtain ⟨h1, h2, h3⟩ := h
    unfold putAt
    by_cases e : p.1 = k
    · rw [if_pos e, if_pos (h1.symm.trans e)]; exact ⟨h1, h2, ry⟩
    · rw [if_neg e, if_neg (fun z => e (h1.trans z))]; exact ⟨h1, h2, h3⟩
theorem KT.put {H : Hp} {kvs : List (List Key × V)} {xs : List (List Key × Addr × Value)} (r : KT H kvs xs) (k : List Key) {b : Addr} {y : V} {u : Value} (hb : H b = some (.tup (k.map kV))) (ry : RelV y u) :
    KT H (putK kvs k y) (storedH xs k b u) := by
  have e : (kvs.any fun kv => decide (kv.1 = k)) = (atKey xs k).isSome := by
    rw [valV_any, (r.val k).isSome_eq, Option.isSome_map]
  unfold putK storedH
  rw [e]
  by_cases q : (atKey xs k).isSome = true
  · rw [if_pos q, if_pos q]; exact r.repl k ry
  · rw [if_neg q, if_neg q]; exact Paired.snoc r ⟨rfl, hb, ry⟩
theorem KT.keeps {H H' : Hp} {kvs : List (List Key × V)} {xs : List (List Key × Addr × Value)} (r : KT H kvs xs) (ht : ∀ b ys, H b = some (.tup ys) → H' b = some (.tup ys)) : KT H' kvs xs :=
  Paired.mapP r fun _ _ z => ⟨z.1, ht _ _ z.2.1, z.2.2⟩

section
variable {P : Program} {w : World} {H : Hp} {h : Heap} {a : Addr}
theorem rd_of {u : HO} (ok : HOk P w H h) (e : Rd H a u) : ObjOk P w H h a u := e.ok ok
theorem dk_rd {kvs : List (Key × V)} (ok : HOk P w H h) (e : Rd H a (.dK kvs)) : kvs.length ≤ sizeLine ∧ (a == sysModules) = false ∧ ∃ vs, KV kvs vs ∧ h.DictOf (mixKind P w) a vs :=
  show ObjOk P w H h a (.dK kvs) from rd_of ok e
theorem dk_of {kvs : List (Key × V)} (ok : HOk P w H h) (e : H a = some (.dK kvs)) : kvs.length ≤ sizeLine ∧ (a == sysModules) = false ∧ ∃ vs, KV kvs vs ∧ h.DictOf (mixKind P w) a vs := dk_rd ok (.inl e)
/-- a tracked tuple of ints and texts is a key -/
theorem key_of {ks : List Key} (ok : HOk P w H h) (e : H a = some (.tup (ks.map kV))) : (tupleKind (mixKind P w)).is h ks a := by
  obtain ⟨_, its, r, o, h1, h2, n, h3⟩ := (show ObjOk P w H h a (.tup (ks.map kV)) from ok a _ e)
  exact ⟨o, its.toArray, n, h1, h2, h3, by simpa using items_are r⟩
theorem dt_rd {kvs : List (List Key × V)} (ok : HOk P w H h) (e : Rd H a (.dT kvs)) : kvs.length ≤ sizeLine ∧ (a == sysModules) = false ∧
    ∃ xs, KT H kvs xs ∧ h.DictOfH (tupleKind (mixKind P w)) a xs := by
  obtain ⟨z, y, xs, r, o, es, ep, h1, h2, h3, h4, h5⟩ := (show ObjOk P w H h a (.dT kvs) from rd_of ok e)
  refine ⟨z, y, xs, r, o, es, ep, h1, h2, h3, h4, fun x hx => ?_, h5⟩
  have all : ∀ {l : List (List Key × V)} {m : List (List Key × Addr × Value)}, KT H l m → ∀ x ∈ m, (tupleKind (mixKind P w)).is h x.1 x.2.1 := by
    intro l m q
    induction q with
    | nil => intro x hx; exact nomatch hx
    | @cons p q ps qs hq t ih =>
      intro x hx
      rcases List.mem_cons.mp hx with e | hx
      · subst e
        exact key_of ok (by rw [← hq.1]; exact hq.2.1)
      · exact ih x hx
  exact all r x hx
theorem dt_of {kvs : List (List Key × V)} (ok : HOk P w H h) (e : H a = some (.dT kvs)) : kvs.length ≤ sizeLine ∧ (a == sysModules) = false ∧
    ∃ xs, KT H kvs xs ∧ h.DictOfH (tupleKind (mixKind P w)) a xs := dt_rd ok (.inl e)
end

/-- what the dict at a holds at the key y -/
def DGet (H : Hp) (a : Addr) (y : V) (r : Option V) : Prop :=
  (∃ kvs k, Rd H a (.dK kvs) ∧ y = kV k ∧ r = valV kvs k) ∨ ∃ kvs k b, Rd H a (.dT kvs) ∧ y = .ref b ∧ H b = some (.tup (k.map kV)) ∧ r = valV kvs k
/-- the heap behind a[y] = v -/
def DPut (H : Hp) (a : Addr) (y v : V) (H' : Hp) : Prop :=
  (∃ kvs k, H a = some (.dK kvs) ∧ y = kV k ∧ kvs.length < sizeLine ∧ H' = upd H a (.dK (putK kvs k v))) ∨
  ∃ kvs k b, H a = some (.dT kvs) ∧ y = .ref b ∧ H b = some (.tup (k.map kV)) ∧ kvs.length < sizeLine ∧ H' = upd H a (.dT (putK kvs k v))
theorem DGet.k {H : Hp} {a : Addr} {kvs : List (Key × V)} {k : Key} (e : H a = some (.dK kvs)) : DGet H a (kV k) (valV kvs k) := .inl ⟨kvs, k, .inl e, rfl, rfl⟩
theorem DPut.k {H : Hp} {a : Addr} {kvs : List (Key × V)} {k : Key} {v : V} (e : H a = some (.dK kvs)) (hl : kvs.length < sizeLine) : DPut H a (kV k) v (upd H a (.dK (putK kvs k v))) := .inl ⟨kvs, k, e, rfl, hl, rfl⟩
section
variable {X : Cx} {pins : List (Addr × Obj)} {σ : St} {H : Hp} {s : Shared} {a : Addr} {y v : V} {u r : Value} {o : Option V} {A : Around} {E : Value → Shared → Prop}

theorem Inv.big (I : Inv X pins σ H s) : sysModules < s.heap.objs.size := by
  have h : mainGlobals < s.heap.objs.size := (I.mod.glob.keeps I.bk).lt
  exact Nat.lt_trans (by decide) h

/-- d[y], there -/
theorem d_getItem {Q : Value → Shared → Prop} (hu : A.units + 1 < cLine) (I : Inv X pins σ H s) (g : DGet H a y (some v)) (ry : RelV y u) (h : ∀ w' s', Inv X pins σ H s' → RelV v w' → Q w' s') :
    wpAny (model X.prog X.w) A (getItem (.ref a) u) Q E s := by
  rcases g with ⟨kvs, k, e, ey, l⟩ | ⟨kvs, k, b, e, ey, eb, l⟩
  · subst ey
    obtain ⟨z, hd, vs, rel, dd⟩ := dk_rd I.hok e
    obtain ⟨w', hw, rw'⟩ := RelO.some_of (v := v) (o := valueAt vs k) (by rw [l]; exact rel.val k)
    exact wpAny_getItem_of (kV_is ry) dd.mapOf hw (h w' _ (I.tok _) rw')
  · subst ey
    cases (show u = Value.ref b from ry)
    obtain ⟨z, hd, xs, rel, dd⟩ := dt_rd I.hok e
    obtain ⟨w', hw, rw'⟩ := RelO.some_of (v := v) (o := (atKey xs k).map (·.2)) (by rw [l]; exact rel.val k)
    obtain ⟨p, hp, hp2⟩ := Option.map_eq_some_iff.mp hw
    refine wpAny_getItem_heap (tupleKind_room_in1 hu) (key_of I.hok eb) dd hp ?_
    rw [hp2]
    exact h w' _ (I.tok _) rw'
/-- a dict's object is replaced -/
theorem d_write {h' : Heap} {t' : Nat} {ob : HO} (I : Inv X pins σ H s) (mu : Mut (H a)) (hs : Heap.SameBut a s.heap h') (he : ∃ q, h'.get? a = some q) (new : ObjOk X.prog X.w (upd H a ob) h' a ob) :
    Inv X pins σ (upd H a ob) { s with heap := h', toks := t' } :=
  I.write (x := a) (e := a) mu (.inl rfl) (fun b q hb z => (hs.2 b hb).trans z) he new
theorem dk_new {P : Program} {w : World} {H' : Hp} {h' : Heap} {kvs : List (Key × V)} {vs : List (Key × Value)} (z : kvs.length ≤ sizeLine) (hd : (a == sysModules) = false) (rel : KV kvs vs) (dd : h'.DictOf (mixKind P w) a vs) :
    ObjOk P w H' h' a (.dK kvs) := ⟨z, hd, vs, rel, dd⟩
/-- d[y] = v -/
theorem d_setItem {H' : Hp} {Q : Unit → Shared → Prop} (hu : A.units + 1 < cLine) (I : Inv X pins σ H s) (g : DPut H a y v H') (ry : RelV y u) (rv : RelV v r) (h : ∀ s', Inv X pins σ H' s' → Q () s') :
    wpAny (model X.prog X.w) A (setItem (.ref a) u r) Q E s := by
  rcases g with ⟨kvs, k, e, ey, l, eH⟩ | ⟨kvs, k, b, e, ey, eb, l, eH⟩
  · subst ey eH
    obtain ⟨z, hd, vs, rel, dd⟩ := dk_of I.hok e
    have hz : vs.length ≤ sizeLine := by rw [← rel.length]; exact z
    have hl : (putK kvs k v).length ≤ sizeLine := by have := length_putK kvs k v; omega
    refine wpAny_setItem_pairs (hsz := hz) (kV_is ry) dd fun h' dd' hs => h _ ?_
    have he : ∃ q, h'.get? a = some q := let ⟨q, _, _, hq, _⟩ := dd'; ⟨q, hq⟩
    exact d_write I (by rw [e]; exact True.intro) hs he (dk_new hl hd (rel.put k rv) dd')
  · subst ey eH
    cases (show u = Value.ref b from ry)
    obtain ⟨z, hd, xs, rel, dd⟩ := dt_of I.hok e
    have hz : xs.length ≤ sizeLine := by rw [← Paired.length rel]; exact z
    have hl : (putK kvs k v).length ≤ sizeLine := by have := length_putK kvs k v; omega
    refine wpAny_setItem_heap (hsz := hz) (tupleKind_room_in1 hu) (key_of I.hok eb) dd fun h' dd' hs => h _ ?_
    obtain ⟨q, es, ep, hq, h2, h3, h4, _, h5⟩ := dd'
    refine d_write I (by rw [e]; exact True.intro) hs ⟨q, hq⟩ ⟨hl, hd, _, (rel.put k eb rv).keeps fun c ys ec => ?_, q, es, ep, hq, h2, h3, h4, h5⟩
    rw [upd_ne (ne_of ec e (fun z => nomatch z))]
    exact ec
end

section
variable {X : Cx} {pins : List (Addr × Obj)} {σ : St} {H : Hp} {s : Shared} {a : Addr} {kvs : List (Key × V)} {k : Key} {u : Value} {A : Around} {E : Value → Shared → Prop}
/-- len(d) -/
theorem d_len {Q : Value → Shared → Prop} (I : Inv X pins σ H s) (e : Rd H a (.dK kvs)) (h : ∀ t s', Inv X pins σ H s' → Q (.int kvs.length t) s') : wpAny (model X.prog X.w) A (call (.builtin "len") [.ref a]) Q E s := by
  obtain ⟨z, hd, vs, rel, dd⟩ := dk_rd I.hok e
  refine call_len_dict hd dd (by rw [← rel.length]; rw [sizeLine_eq] at z; omega) ?_
  rw [← rel.length]
  exact h _ _ (I.tok _)
end


/-! ### readings and rules -/
/-- the element of a subscription, not a slice -/
def NoSl (i : Expr) : Prop := ∀ ov iv, subscripted i false ov iv = operate [ov, iv] (getItem ov iv)
theorem subD_of {prog : Program} {w : World} {A : Around} {E : Value → Shared → Prop} {s : Shared} {env : Env} {value slice : Expr} {pos : Pos} {T id : String} {Q : Value → Shared → Prop}
    (hl : typeLookup (.type T) "__getitem__" = pure (some (.builtin id))) (hs : NoSl slice)
    (h : wpAny (model prog w) A (eval value env) (fun o s₁ => wpAny (model prog w) A (eval slice env) (fun i s₂ => s₂.TypeIs o T ∧ wpAny (model prog w) A (getItem o i) Q E s₂) E s₁) E s) :
    wpAny (model prog w) A (eval (.Subscript value slice pos) env) Q E s := by
  refine Subscript_ (wpAny_mono h (fun o s₁ h₁ => wpAny_mono h₁ (fun i s₂ h₂ => ?_) fun _ _ x => x) fun _ _ x => x)
  obtain ⟨hT, h₂⟩ := h₂
  unfold subscriptTail
  refine wpAny_bind ?_
  rw [getitemInPython_of_ne hT.not_modules]
  refine wpAny_bind (wpAny_specialOf hT hl ?_)
  have fin : wpAny (model prog w) A (subscripted slice false o i) (fun r s₃ => wpAny (model prog w) A (letTemporaryGo value o r >>= fun _ => pure r) Q E s₃) E s₂ := by
    rw [hs o i]
    exact wpAny_operating (wpAny_mono h₂ (fun r s₃ h₃ => wpAny_bind (wpAny_letTemporaryGo (wpAny_pure h₃))) fun _ _ x => x)
  first
    | exact wpAny_pure (wpAny_bind fin)
    | exact wpAny_bind (wpAny_pure (wpAny_bind fin))
    | exact wpAny_bind fin

theorem dict_typeIs {X : Cx} {pins : List (Addr × Obj)} {σ : St} {H : Hp} {s : Shared} {a : Addr} {y : V} {o : Option V} (I : Inv X pins σ H s) (g : DGet H a y o) : s.TypeIs (.ref a) "dict" := by
  rcases g with ⟨kvs, k, e, _, _⟩ | ⟨kvs, k, b, e, _, _, _⟩
  · obtain ⟨_, _, vs, _, dd⟩ := dk_rd I.hok e
    exact dd.typeIs
  · obtain ⟨_, _, xs, _, dd⟩ := dt_rd I.hok e
    exact dd.typeIs
/-- d[y] -/
def tDGet (td ty : TE) : TE := fun σ H Q => td σ H fun x H1 => ty σ H1 fun y H2 => ∃ a v, x = .ref a ∧ DGet H2 a y (some v) ∧ Q v H2
/-- d[y] = v -/
def sDPut (td ty tv : TE) : TS := fun D σ H => tv σ H fun v H1 => td σ H1 fun x H2 => ty σ H2 fun y H3 => ∃ a H4, x = .ref a ∧ DPut H3 a y v H4 ∧ D.nx σ H4
section
variable {X : Cx} {o i e value : Expr} {pos pos' tpos : Pos} {td ty tv : TE}
theorem pe_dget (hu : X.A.units + 1 < cLine) (ho : PE X o td) (hi : PE X i ty) (hs : NoSl i) : PE X (.Subscript o i pos) (tDGet td ty) := by
  intro pins s σ H Q I h
  refine subD_of PySem.F.slot_dict_getitem.lookup hs (thn (ho pins s σ H _ I h) fun u s1 ⟨x, H1, I1, rx, q1⟩ => thn (hi pins s1 σ H1 _ I1 q1) fun iv s2 ⟨y, H2, I2, ry, a, v, ex, g, q2⟩ => ?_)
  subst ex
  obtain rfl : u = Value.ref a := rx
  exact ⟨dict_typeIs I2 g, d_getItem hu I2 g ry fun w' s3 I3 rw' => ⟨v, H2, I3, rw', q2⟩⟩
theorem ps_dput (hu : X.A.units + 1 < cLine) (ho : PE X o td) (hi : PE X i ty) (hv : PE X value tv) (hs : swapsWith value (some (.Subscript o i pos')) pos.line X.env = pure false) :
    PS X (.Assign [.Subscript o i pos'] value pos) (sDPut td ty tv) := by
  intro pins s σ H D I h
  refine wpAny_Assign_Subscript (thn (hv pins s σ H _ I h) fun r s1 ⟨v, H1, I1, rv, q1⟩ => thn (ho pins s1 σ H1 _ I1 q1) fun u s2 ⟨x, H2, I2, rx, q2⟩ => thn (hi pins s2 σ H2 _ I2 q2) fun iv s3 ⟨y, H3, I3, ry, a, H4, ex, g, q3⟩ => ?_) hs
  subst ex
  obtain rfl : u = Value.ref a := rx
  exact d_setItem hu I3 g ry rv fun s4 I4 => ⟨σ, H4, I4, q3⟩
end


/-! ### displays -/
theorem dk_empty {P : Program} {w : World} {H : Hp} (h : Heap) (hb : sysModules < h.objs.size) : ObjOk P w H (h.push { cls := .type "dict", data := .dict #[] }) h.objs.size (.dK []) :=
  ⟨Nat.zero_le _, beq_eq_false_iff_ne.mpr (Ne.symm (Nat.ne_of_lt hb)), [], .nil, Heap.DictOf.new h⟩
/-- {}, to be a dict of the kind that is wanted -/
def tDNewK : TE := fun _ H Q => ∀ p, H p = none → Q (.ref p) (upd H p (.dK []))
section
variable {X : Cx} {pos : Pos}
theorem pe_dnewK : PE X (.Dict [] [] pos) tDNewK := fun pins s σ H Q I h =>
  wpAny_Dict_empty ⟨.ref s.heap.objs.size, _, I.laid (a := s.heap.objs.size) (o := .dK []) (t' := s.toks) (fun _ _ q => Heap.get?_push_of_some _ q) (Nat.le_refl _) (dk_empty s.heap I.big), rfl, h _ (I.hok.fresh (Nat.le_refl _))⟩
end

/-- the pairs of a display, from the left -/
def tPairs : List (TE × TE) → St → Hp → (List (V × V) → Hp → Prop) → Prop
  | [], _, H, Q => Q [] H
  | (tk, tv) :: r, σ, H, Q => tk σ H fun x H1 => tv σ H1 fun y H2 => tPairs r σ H2 fun ps H3 => Q ((x, y) :: ps) H3
abbrev VV : List (V × V) → List (Value × Value) → Prop := Paired fun p q => RelV p.1 q.1 ∧ RelV p.2 q.2
def PPs (X : Cx) (pos : Pos) (keys : List (Option Expr)) (values : List Expr) (trs : List (TE × TE)) : Prop :=
  ∀ (pins : List (Addr × Obj)) (s : Shared) (σ : St) (H : Hp) (Q : List (V × V) → Hp → Prop), Inv X pins σ H s → tPairs trs σ H Q →
    wpAny (model X.prog X.w) X.A (evalPairs (pairTrees keys values X.env pos)) (fun vs s' => ∃ ps H', Inv X pins σ H' s' ∧ VV ps vs ∧ Q ps H') X.xe s
theorem pps_nil {X : Cx} {pos : Pos} : PPs X pos [] [] [] := fun pins s σ H Q I h => pairTrees_nil_walk ⟨[], H, I, .nil, h⟩
theorem pps_cons {X : Cx} {pos : Pos} {k v : Expr} {ks : List (Option Expr)} {vs : List Expr} {tk tv : TE} {trs : List (TE × TE)} (hk : PE X k tk) (hv : PE X v tv) (hr : PPs X pos ks vs trs) :
    PPs X pos (some k :: ks) (v :: vs) ((tk, tv) :: trs) := fun pins s σ H Q I h =>
  pairTrees_cons_walk (thn (hk pins s σ H _ I h) fun u s1 ⟨x, H1, I1, rx, q1⟩ => thn (hv pins s1 σ H1 _ I1 q1) fun w2 s2 ⟨y, H2, I2, ry, q2⟩ =>
    thn (hr pins s2 σ H2 _ I2 q2) fun ws s3 ⟨ps, H3, I3, rel, q3⟩ => ⟨(x, y) :: ps, H3, I3, .cons ⟨rx, ry⟩ rel, q3⟩)

def mergeK (kvs more : List (Key × V)) : List (Key × V) := more.foldl (fun acc kv => putK acc kv.1 kv.2) kvs
theorem KV.merge : ∀ {more : List (Key × V)} {rs : List (Key × Value)} {kvs : List (Key × V)} {vs : List (Key × Value)}, KV more rs → KV kvs vs → KV (mergeK kvs more) (merged vs rs) := by
  intro more rs kvs vs r
  unfold KV at r
  induction r generalizing kvs vs with
  | nil => intro q; exact q
  | @cons p q ps qs h t ih =>
    intro r0
    have e : KV (putK kvs p.1 p.2) (stored vs q.1 q.2) := by
      have := r0.put p.1 h.2
      rw [← h.1]; exact this
    exact ih e
theorem length_mergeK : ∀ (more kvs : List (Key × V)), (mergeK kvs more).length ≤ kvs.length + more.length
  | [], kvs => by show kvs.length ≤ kvs.length + 0; omega
  | p :: r, kvs => by
    have h1 := length_mergeK r (putK kvs p.1 p.2)
    have h2 := length_putK kvs p.1 p.2
    show (mergeK (putK kvs p.1 p.2) r).length ≤ _
    rw [List.length_cons]; omega
theorem carries_of {P : Program} {w : World} : ∀ {kvs : List (Key × V)} {ws : List (Value × Value)}, VV (kvs.map fun kv => (kV kv.1, kv.2)) ws → ∃ rs, Carries (mixKind P w) ws rs ∧ KV kvs rs
  | [], _, r => by rw [List.map_nil] at r; cases r; exact ⟨[], True.intro, .nil⟩
  | p :: kvs, _, r => by
    rw [List.map_cons] at r
    cases r with
    | @cons a b as bs h t =>
      obtain ⟨rs, c, q⟩ := carries_of (P := P) (w := w) t
      obtain ⟨b1, b2⟩ := b
      exact ⟨(p.1, b2) :: rs, ⟨kV_is h.1, rfl, c⟩, .cons ⟨rfl, h.2⟩ q⟩
/-- {k: v, ..} with keys ints and texts; the new dict stands empty while the pairs are made -/
def tDisp (trs : List (TE × TE)) : TE := fun σ H Q => ∀ p, H p = none → tPairs trs σ (upd H p (.dK [])) fun ps H2 => H2 p = some (.dK []) ∧ ∃ kvs : List (Key × V), ps = kvs.map (fun kv => (kV kv.1, kv.2)) ∧ kvs.length ≤ 15 ∧ Q (.ref p) (upd H2 p (.dK (mergeK [] kvs)))
theorem pe_disp {X : Cx} {pos : Pos} {keys : List (Option Expr)} {values : List Expr} {trs : List (TE × TE)} (h : PPs X pos keys values trs) (hall : keys.all (·.isSome) = true) (hl : keys.length = values.length) (h0 : keys ≠ [])
    (h15 : keys.length ≤ 15) : PE X (.Dict keys values pos) (tDisp trs) := by
  intro pins s σ H Q I q
  have hn := I.hok.fresh (Nat.le_refl s.heap.objs.size)
  have I1 := I.laid (a := s.heap.objs.size) (o := .dK []) (h' := s.heap.push { cls := .type "dict", data := .dict #[] }) (t' := s.toks) (fun _ _ q => Heap.get?_push_of_some _ q) (Nat.le_refl _) (dk_empty s.heap I.big)
  refine wpAny_Dict_walk (knd := mixKind X.prog X.w) hall hl h0 h15 (thn (h pins _ σ _ _ I1 (q _ hn)) fun ws s2 ⟨ps, H2, I2, rel, e, kvs, ep, lk, q2⟩ => ?_)
  subst ep
  obtain ⟨rs, c, rk⟩ := carries_of (P := X.prog) (w := X.w) rel
  obtain ⟨z, hd, vs0, r0, dd⟩ := dk_of I2.hok e
  cases r0
  refine ⟨rs, c, dd, fun h' dd' hs => ⟨.ref s.heap.objs.size, _, ?_, rfl, q2⟩⟩
  have hz : (mergeK [] kvs).length ≤ sizeLine := by
    have h1 := length_mergeK kvs []
    rw [List.length_nil] at h1
    rw [sizeLine_eq]; omega
  have he : ∃ q, h'.get? s.heap.objs.size = some q := let ⟨q, _, _, hq, _⟩ := dd'; ⟨q, hq⟩
  exact d_write I2 (by rw [e]; exact True.intro) hs he (dk_new hz hd (rk.merge .nil) dd')


/-! ### methods -/
section
variable {X : Cx} {pins : List (Addr × Obj)} {σ : St} {H : Hp} {s : Shared} {a : Addr} {y d : V} {u r : Value} {o : Option V} {A : Around} {E : Value → Shared → Prop}
end

section
variable {X : Cx} {o e f : Expr} {apos cpos : Pos} {td ty tx : TE}
end

/-! ### dict(d): a copy -/
section
variable {X : Cx} {pins : List (Addr × Obj)} {σ : St} {H : Hp} {s : Shared} {a : Addr} {kvs : List (Key × V)} {A : Around} {E : Value → Shared → Prop}
end


section
variable {X : Cx} {pins : List (Addr × Obj)} {σ : St} {H : Hp} {s : Shared} {a : Addr} {y : V} {u : Value} {A : Around} {E : Value → Shared → Prop}
end
end L2

namespace Att
open PySem PySem.W PySem.Calls PyProof.Rows

/-! ### the script -/
theorem ints_of_wellAll {P : Params} {h : Heap} : ∀ (ns : List Int) (vs : List Value), WellAll P h vs (ns.map WData.int) → IntsAre vs ns := by
  intro ns
  induction ns with
  | nil =>
    intro vs w
    rw [List.map_nil] at w
    cases w
    exact .nil
  | cons n ns ih =>
    intro vs w
    rw [List.map_cons] at w
    cases w with
    | cons a b =>
      cases a
      exact .cons _ _ (ih _ b)

theorem script_of {l : OpenLaw} {n : Nat} (hn : l.most = some n) {P : Params} {h : Heap} {args : List WData} {vals : List Value}
    (hpre : l.row.toRowW.claim.pre args = true) (hwl : WellAll P h vals args) :
    ∃ a vs ns, vals = [Value.ref a] ∧ args = [WData.list (ns.map WData.int)] ∧ h.get? a = some { cls := .type "list", data := .seq vs.toArray } ∧ IntsAre vs ns ∧ ns.length ≤ n := by
  have hsh : WShape.hasAll [] args [.list .int] = true := (pre_splitW hpre).1
  have hc : l.pre.holds [] { args := args } = true := (pre_splitW hpre).2
  obtain ⟨d, r, rfl, h1, h2⟩ := hasAllW_cons hsh
  obtain rfl := hasAllW_nil h2
  obtain ⟨xs, rfl, h3⟩ := hasW_list h1
  obtain ⟨ns, rfl⟩ := items_int h3
  have hlen : ns.length ≤ n := by
    unfold OpenLaw.pre at hc
    have h4 : (WTm.not (.lt (.lit (.int (n : Int))) (.len (.arg 0)))).holds [] { args := [.list (ns.map .int)] } = true := by
      have h4 := (holds_andW hc).1
      rw [hn] at h4
      exact h4
    have h5 := condW_of h4 (w_not (w_lt w_lit (w_len_list (w_arg rfl))))
    rw [List.length_map] at h5
    refine Nat.le_of_not_lt fun q => ?_
    have q' : (n : Int) < ((ns.length : Nat) : Int) := by omega
    first
      | (rw [decide_eq_true q'] at h5; exact absurd h5 (by decide))
      | (simp at h5; omega)
  cases hwl with
  | cons w1 w2 =>
    cases w2
    cases w1 with
    | list ho hall => exact ⟨_, _, ns, rfl, rfl, ho, ints_of_wellAll ns _ hall, hlen⟩

theorem post_true (l : OpenLaw) (args : List WData) : l.row.toRowW.claim.post args (.bool true) args = true :=
  postW_of (r := l.row.toRowW) (X := (true == true))
    (show WShape.has [] (.bool true) .bool = true by first | rfl | decide | simp [WShape.has, WShape.arms, WShape.armsAll])
    (show (WTm.eq .res (.lit (.bool true))).value [] { args := args, res := some (.bool true), after := args } = some (.bool (true == true)) from w_eq_bool (w_res rfl) w_lit) rfl

/-! ### the attachment: holds_open's last premise (the goal 'hc' behind k_head) from a wpAny of the law's body -/
/-- the same from a codeAny of the CALL (for a layer whose function contracts speak of calls) -/
theorem attach_call {l : OpenLaw} {n : Nat} {q : Program} {loose : List Str} {XP : (Str → Option Value) → Heap → Prop} {YP : World → Heap → Prop} {d : DefRec}
    (hn : l.most = some n) (hdf : d.params.defaults = [])
    (call : ∀ (w : World) (s₀ s₁ : Shared) (mg mb : Str → Option Value) (fa : Addr) (o : Obj) (pm cd doc : Value) (a : Addr) (vs : List Value) (ns : List Int),
      Ground q loose [] XP w s₀ mg mb s₁.heap → YP w s₁.heap →
      s₁.heap.get? fa = some o → o.data = .func (docDef d.name d.params d.body d.scope pm cd doc) → s₁.heap.CodeRec cd d.name → mg d.name = some (.ref fa) →
      s₁.heap.get? a = some { cls := .type "list", data := .seq vs.toArray } → IntsAre vs ns → ns.length ≤ n → s₁.gens = #[] →
      codeAny (model l.prog w) callerA (.call (.ref fa) ⟨[.ref a], []⟩) (fun r s' => r = .ok (.ret (.bool true)) ∧ OldK s₁.heap s'.heap ∧ s'.os = s₁.os ∧ AllBare s'.gens) s₁) :
    WalkO q loose XP YP l.row.toRowW d [] (fun f vs => PySem.call f vs) := by
  intro w s₀ s₁ mg mb G Y fa o pm cd doc dV kV ho hd hcd hD hmg hg args vals as hpre hlay hrd hwl hlo
  obtain rfl : dV = .none := Dflts.none hD hdf
  obtain rfl : kV = .none := Dflts.noKw hD
  obtain ⟨a, vs, ns, rfl, rfl, hobj, hints, hlen⟩ := script_of hn hpre hwl
  refine enter_call (codeAny_mono (call w s₀ s₁ mg mb fa o pm cd doc a vs ns G Y ho (fd_plain hd) hcd hmg hobj hints hlen hg) fun r s' hq => ?_)
  obtain ⟨rfl, h2, h3, h4⟩ := hq
  exact ⟨.inl ⟨.bool true, .bool true, [], rfl, fun _ => rfl, .bool true, post_true l _, fun _ => ⟨List.Pairwise.nil, fun _ hm => (nomatch hm)⟩⟩, h2, h3, h4⟩

/-! ### rules over ANY heap (no ledger) from facts about the written part K: the library's own take a ledger (News) for what they write -/
section
variable {prog : Program} {w : World} {A : Around} {E : Value → Shared → Prop} {s : Shared} {K : Frag}

/-! the whole heap as the ledger: makes every rule that writes through a ledger a rule over any heap -/
end
end Att

namespace L2
open PySem PySem.Spec PyProof.Rows

theorem vals_ints : ∀ {vs : List Value} {ns : List Int}, IntsAre vs ns → Vals (ns.map V.int) vs
  | _, _, .nil => .nil
  | _, _, .cons n t h => .cons ⟨t, rfl⟩ (vals_ints h)

end L2

namespace L2
open PySem PySem.Spec PyProof.Rows

end L2

/- THE LAST THEOREM (shape; LID, My.* are yours):
   My.Adr: a structure of the addresses that your layer names (classes, functions); My.Txt K t: a structure (Prop) of the equations over K;
   My.txt_mk : {K} {implicit addresses ..} (e1 : nsIn K mainGlobals "law" = some (some (.ref f))) (e2 : K.lookup f = some ⟨oc, od, .func (fnOf "law" "law" params body scope dV kV doc pm an cdv ct), sl⟩) (e3 : codeIn K cdv "law" = true) .. : ∃ t, My.Txt K t

set_option maxRecDepth 100000 in
set_option maxHeartbeats 0 in
theorem PySem.Challenge.cw_LID_holds : PySem.Challenge.rw_LID.Holds := by
  w_on; o_law; k_head; (case hw => w_witness2)
  k_fill
  refine L2.walk_of (l := PySem.Challenge.rw_LID) (n := 63) (k := 40) (x := "script") (CX := fun w => ..) (sp := fun _ => My.sp_law) rfl (by decide) rfl ⟨rfl, by decide, by decide⟩ (fun w h Y => PySem.W.kIn_of Y) ?F ?S ?C
  case F =>
    intro w mg fa h KX G hmg
    have T : ∃ t, My.Txt (L2.KOf KX) t := by
      dsimp only [L2.KOf]                          -- K must stand as «<heap const> w.params» for k_is
      refine' My.txt_mk ?e1 ?e2 ?e3 ..
      (case e1 => PySem.W.k_is)                    -- in the order: a name -> its address -> its object -> its parts
      (case e2 => PySem.W.k_is)
      ..
    obtain ⟨t, T⟩ := T
    have e0 := hmg.symm.trans (PySem.W.mg_of KX G T.law)
    cases e0                                       -- fa is the law's own address
    exact ⟨_, fun s u => .of_eq rfl, fun base kb nb => My.law_fn T kb nb⟩     -- if «.of_eq rfl» comes too early: refine' ⟨_, ?b, fun base kb nb => My.law_fn T kb nb⟩; exact fun s u => .of_eq rfl
  case S => exact fun w H a ns hl hO hS => ..
  case C => exact ..
(the tactic k_is has no namespace: write k_is) -/

/-! SHORT WORDS over the layer: a def of the text, its body, what a loop and a test want. -/
namespace L2
open PySem PySem.Spec PyProof.Rows

/-! ### the text by places -/
/-- the j-th statement of a class's body -/
def inClass (s : Stmt) (j : Nat) : Stmt := match s with
  | .ClassDef _ _ _ body _ _ _ _ _ _ _ => body.getD j (.Pass ⟨0, 0, 0, 0⟩)
  | _ => .Pass ⟨0, 0, 0, 0⟩
def defArgs (s : Stmt) : Arguments := match s with
  | .FunctionDef _ a _ _ _ _ _ _ _ _ => a
  | _ => { posonlyargs := [], args := [], vararg := none, kwonlyargs := [], kw_defaults := [], kwarg := none, defaults := [] }
def defBody (s : Stmt) : List Stmt := match s with
  | .FunctionDef _ _ b _ _ _ _ _ _ _ => b
  | _ => []
def defScope (s : Stmt) : Scope := match s with
  | .FunctionDef _ _ _ _ _ _ sc _ _ _ => sc
  | _ => { kind := .function, names := [], isGenerator := false, isCoroutine := false }

/-! ### no exception leaves a def -/
abbrev CX0 : CXT := fun _ _ _ _ _ _ => False
abbrev E0 : XK := fun _ _ _ => False
theorem pass0 {X : Cx} : Passes CX0 X E0 := fun _ _ _ _ _ _ _ h => h.elim

/-! ### a def (or method) of the text as it stands behind the top -/
structure Fun (K : PySem.W.Frag) (x qual : Str) (st : Stmt) (f : Addr) (fd : FuncData) : Prop where
  ex : ∃ (oc : Value) (od : Option Addr) (kV doc pm : Value) (an : Option Addr) (cdv ct : Value) (osl : Array (Option Value)),
    fd = PySem.W.fnOf x qual (defArgs st) (defBody st) (defScope st) .none kV doc pm an cdv ct ∧ K.lookup f = some ⟨oc, od, .func fd, osl⟩ ∧ PySem.W.codeIn K cdv qual = true
  kp : PySem.W.keepIn K (.ref f) = true
section
variable {P : Program} {w : World} {K : PySem.W.Frag} {mg : Str → Option Value} {base : Heap}
/-- THE RULE for a def: its body as a term of rules, and the reading of that term -/
theorem Fun.ok {x qual : Str} {st : Stmt} {f : Addr} {fd : FuncData} {N ps : List Str} {k : Nat} {sp : Sp} (F : Fun K x qual st f fd) (S : FnScope N ps (defScope st)) (len : ∀ vs H Q E, sp vs H Q E → vs.length = ps.length)
    (hbody : ∀ (cdv : Value) (A : Around) (outer : List Env) (s : Shared) (H : Hp) (vs : List V) (Q : VK) (E : XK), Room k (A.deeper (envOfC qual (defScope st) s.heap.objs.size f cdv)) → sp vs H Q E →
      ∃ t, PSs (cxOf CX0 P w K mg base N qual (defScope st) f cdv A outer s H E).nox (defBody st) t ∧ t { nx := fun _ H' => Q .non H', rt := Q } (start N vs) H) : FnOk P w K mg base CX0 (k + 1) f fd ps sp := by
  obtain ⟨oc, od, kV, doc, pm, an, cdv, ct, osl, rfl, lk, hcd⟩ := F.ex
  refine fn_of lk hcd S len fun A outer s H vs Q E hr hsp => ?_
  obtain ⟨t, h, q⟩ := hbody cdv A outer s H vs Q E hr hsp
  exact ⟨t, h.nox, q⟩
/-- how its arguments bind (no defaults): h is «fun _ _ _ _ _ _ us hl => match us, hl with | [_, _], _ => rfl», one _ a parameter -/
theorem Fun.binds {x qual : Str} {st : Stmt} {f : Addr} {fd : FuncData} {ps : List Str} (F : Fun K x qual st f fd)
    (h : ∀ (kV doc pm : Value) (an : Option Addr) (cdv ct : Value) (us : List Value), us.length = ps.length → bindArgs (PySem.W.fnOf x qual (defArgs st) (defBody st) (defScope st) .none kV doc pm an cdv ct) ⟨us, []⟩ = pure (ps.zip us)) : Binds K fd ps [] := by
  obtain ⟨oc, od, kV, doc, pm, an, cdv, ct, osl, rfl, lk, hcd⟩ := F.ex
  exact .all (h kV doc pm an cdv ct)
theorem fun_mk {x qual : Str} {st : Stmt} {f : Addr} {oc : Value} {od an : Option Addr} {osl : Array (Option Value)} {kV doc pm cdv ct : Value} (l : K.lookup f = some ⟨oc, od, .func (PySem.W.fnOf x qual (defArgs st) (defBody st) (defScope st) .none kV doc pm an cdv ct), osl⟩)
    (c : PySem.W.codeIn K cdv qual = true) (k : PySem.W.keepIn K (.ref f) = true) : Fun K x qual st f (PySem.W.fnOf x qual (defArgs st) (defBody st) (defScope st) .none kV doc pm an cdv ct) := ⟨⟨oc, od, kV, doc, pm, an, cdv, ct, osl, rfl, l, c⟩, k⟩
end
theorem hu_of {A : Around} {k : Nat} (hr : Room k A) : A.units + 1 < cLine := Nat.lt_of_le_of_lt (Nat.add_le_add_left (by decide : 1 ≤ 64) _) hr.units
theorem small1000 {n : Nat} (h : n ≤ 1000) : n < sizeLine := Nat.lt_of_le_of_lt h (by decide)

/-! ### expressions in short: the name that stands in the i-th slot -/
section
variable {X : Cx}
theorem pv (i : Nat) {x : Str} {pos : Pos} (hN : X.N[i]? = some x := by rfl) (hv : Vis X.env.scope x := by first | exact Or.inl rfl | exact Or.inr (Or.inl rfl) | exact Or.inr (Or.inr rfl)) (hd : (x == ("__debug__" : Str)) = false := by decide)
    (hcd : (x == ("__classdict__" : Str)) = false := by decide) : PE X (.Name x pos) (tVar i) := pe_var hN hv hd hcd
end

/-! ### tests -/
theorem ite2 {c A B : Prop} [Decidable c] (h1 : c → A) (h2 : ¬ c → B) : if c then A else B := by
  by_cases h : c
  · rw [if_pos h]
    exact h1 h
  · rw [if_neg h]
    exact h2 h
/-! ### heaps -/
/-- all that was tracked is as it was -/
def Same (H H' : Hp) : Prop := ∀ b o, H b = some o → H' b = some o
theorem Same.refl (H : Hp) : Same H H := fun _ _ h => h
theorem Same.trans {H H1 H2 : Hp} (a : Same H H1) (b : Same H1 H2) : Same H H2 := fun c o h => b c o (a c o h)
theorem Same.free {H H' : Hp} (e : Same H H') {l : Addr} (h : H' l = Option.none) : H l = Option.none := by
  cases q : H l with
  | none => rfl
  | some o =>
    rw [e l o q] at h
    cases h
theorem Same.seq {K : PySem.W.Frag} {H H' : Hp} {a : Addr} {xs : List V} (e : Same H H') (h : SqL K H a xs) : SqL K H' a xs := by
  rcases h with (h | ⟨o, h⟩) | h
  · exact .inl (.inl (e _ _ h))
  · exact .inl (.inr ⟨o, e _ _ h⟩)
  · exact .inr h

end L2
namespace L2
open PySem PySem.Spec PyProof.Rows
section
variable {X : Cx}
/-- len of a dict -/
theorem call_lenD : CallR X (.builtin "len") (fun xs H Q => ∃ a kvs, xs = [V.ref a] ∧ H a = some (.dK kvs) ∧ Q (.int kvs.length) H) := by
  intro pins s σ H xs us Q I r h
  obtain ⟨a, kvs, rfl, ha, q⟩ := h
  obtain ⟨u, rfl, ru⟩ := vals1 r
  cases ru
  exact d_len I (.inl ha) fun t s' I' => ⟨.int kvs.length, H, I', ⟨t, rfl⟩, q⟩
end
/-! ### a dict's pairs: keys that differ -/
section
variable {κ : Type} [DecidableEq κ]
end
end L2

set_option Elab.async false
set_option linter.all false
set_option maxRecDepth 100000
set_option maxHeartbeats 4000000
namespace L2
open PySem PySem.Spec PyProof.Rows

/-! ### comprehensions -/
theorem closure_ok {env : Env} (scope : Scope) (h : ∀ y ∈ scope.names, y.2 = .free → ∃ c, env.cells.lookup y.1 = some c) :
    ∃ cl, closureFor scope env = pure cl ∧ (∀ x c, cl.lookup x = some c → env.cells.lookup x = some c) ∧ ∀ x, (x, NameKind.free) ∈ scope.names → ∃ c, cl.lookup x = some c := by
  have go : ∀ (names : List (Str × NameKind)) (acc : List (Str × Addr)), (∀ y ∈ names, y.2 = .free → ∃ c, env.cells.lookup y.1 = some c) → (∀ x c, acc.lookup x = some c → env.cells.lookup x = some c) →
      ∃ cl, (forIn names acc fun x cs => (match x with
        | (name, kind) => if kind == NameKind.free then (do let c ← cellOf env name; pure (ForInStep.yield ((name, c) :: cs))) else pure (ForInStep.yield cs) : Sem (ForInStep (List (Str × Addr))))) = pure cl ∧
        (∀ x c, cl.lookup x = some c → env.cells.lookup x = some c) ∧ (∀ x, (x, NameKind.free) ∈ names ∨ (∃ c, acc.lookup x = some c) → ∃ c, cl.lookup x = some c) := by
    intro names
    induction names with
    | nil => intro acc _ ha; exact ⟨acc, rfl, ha, fun x z => z.elim (fun q => nomatch q) id⟩
    | cons y r ih =>
      intro acc hy ha
      obtain ⟨n, k⟩ := y
      by_cases hk : k = .free
      · subst hk
        obtain ⟨c, hc⟩ := hy (n, .free) List.mem_cons_self rfl
        obtain ⟨cl, e, h1, h2⟩ := ih ((n, c) :: acc) (fun z hz => hy z (List.mem_cons_of_mem _ hz)) (fun x c' hx => by
          rw [List.lookup_cons] at hx
          by_cases q : x == n
          · rw [q] at hx
            cases hx
            rw [beq_iff_eq.mp q]; exact hc
          · rw [Bool.not_eq_true] at q
            rw [q] at hx
            exact ha x c' hx)
        refine ⟨cl, ?_, h1, fun x z => h2 x ?_⟩
        · rw [List.forIn_cons]
          simp only [beq_self_eq_true, if_true, cellOf, hc]
          exact e
        · have aux : ∀ x, (∃ c', acc.lookup x = some c') → ∃ c', ((n, c) :: acc).lookup x = some c' := fun x ⟨c', z⟩ => by
            rw [List.lookup_cons]
            by_cases q : x == n
            · rw [q]; exact ⟨_, rfl⟩
            · rw [Bool.not_eq_true] at q
              rw [q]; exact ⟨c', z⟩
          rcases z with z | z
          · rcases List.mem_cons.mp z with z | z
            · cases z
              exact .inr ⟨c, by rw [List.lookup_cons, beq_self_eq_true]⟩
            · exact .inl z
          · exact .inr (aux x z)
      · have hb : (k == NameKind.free) = false := by simpa using hk
        obtain ⟨cl, e, h1, h2⟩ := ih acc (fun z hz => hy z (List.mem_cons_of_mem _ hz)) ha
        refine ⟨cl, ?_, h1, fun x z => h2 x ?_⟩
        · rw [List.forIn_cons]
          simp only [hb, Bool.false_eq_true, if_false]
          exact e
        · rcases z with z | z
          · rcases List.mem_cons.mp z with z | z
            · cases z
              exact absurd rfl hk
            · exact .inl z
          · exact .inr z
  obtain ⟨cl, e, h1, h2⟩ := go scope.names [] h (fun x c z => by simp at z)
  refine ⟨cl, ?_, h1, fun x z => h2 x (.inl z)⟩
  unfold closureFor
  exact (congrArg (fun (m : Sem (List (Str × Addr))) => m >>= fun cs => pure cs) e).trans rfl

/-- the context of a comprehension's block -/
def cxComp (X : Cx) (scope : Scope) (N' : List Str) (cl : List (Str × Addr)) (C : Addr) (s₀ : Shared) (H₀ : Hp) (ex : List Addr) : Cx where
  prog := X.prog
  w := X.w
  K := X.K
  mg := X.mg
  base := X.base
  A := X.A
  N := N'
  s₀ := s₀
  H₀ := H₀
  env := compEnvC scope cl C X.env
  outer := X.stack
  stack := X.stack
  ex := ex
  fn := fun _ => false
  calm := X.calm
  pn := []
  xe := fun _ _ => False

/-- the block's slots at its start: its own names, then what it sees of the frame -/
def compSt (k : Nat) (js : List Nat) (σ : St) : St := List.replicate k none ++ js.map fun j => (σ[j]?).join
theorem compSt_len (k : Nat) (js : List Nat) (σ : St) : (compSt k js σ).length = k + js.length := by simp [compSt]

/-- how a comprehension's scope lies over a frame's: own names first, then names js of the frame -/
structure CompScope (X : Cx) (scope : Scope) (own : List Str) (js : List Nat) (N' : List Str) : Prop where
  kind : scope.kind = .function
  nocell : ∀ y ∈ scope.names, y.2 ≠ .cell
  names : ∀ y ∈ scope.names, y.2 = .local → scope.names.lookup y.1 = some .local
  free : ∀ y ∈ scope.names, y.2 = .free → X.env.kindOf y.1 = some .cell ∨ X.env.kindOf y.1 = some .free
  nm : N' = own ++ js.map fun j => X.N.getD j Str.empty
  fr : ∀ j ∈ js, j < X.N.length ∧ (X.N.getD j Str.empty, NameKind.free) ∈ scope.names ∧ ∀ k, (X.N.getD j Str.empty, k) ∈ scope.names → k = .free
theorem lookup_mem_free {names : List (Str × NameKind)} {x : Str} (h : (x, NameKind.free) ∈ names) (u : ∀ k, (x, k) ∈ names → k = .free) : names.lookup x = some .free := by
  induction names with
  | nil => cases h
  | cons y r ih =>
    obtain ⟨n, k⟩ := y
    rw [List.lookup_cons]
    by_cases q : x == n
    · rw [q]
      have e : x = n := beq_iff_eq.mp q
      subst e
      rw [u k List.mem_cons_self]
    · rw [Bool.not_eq_true] at q
      rw [q]
      refine ih ?_ fun k hk => u k (List.mem_cons_of_mem _ hk)
      rcases List.mem_cons.mp h with z | z
      · cases z
        rw [beq_self_eq_true] at q; cases q
      · exact z
theorem relabel_mem {scope : Scope} {env : Env} {x : Str} {k : NameKind} (h : (x, k) ∈ (relabel scope env).names) (hk : k = .cell ∨ k = .free) (hc : ∀ y ∈ scope.names, y.2 ≠ .cell) : (x, NameKind.free) ∈ scope.names := by
  unfold relabel at h
  obtain ⟨⟨n, k'⟩, hm, e⟩ := List.mem_map.mp h
  dsimp only at e
  by_cases q : (k' == NameKind.free && env.scope.kind == .function && env.kindOf n == some .cell) = true
  · rw [if_pos q] at e
    cases e
    rw [Bool.and_eq_true, Bool.and_eq_true] at q
    have : k' = .free := by simpa using q.1.1
    rw [← this]; exact hm
  · rw [if_neg q] at e
    cases e
    rcases hk with z | z
    · exact absurd z (hc _ hm)
    · rw [← z]; exact hm
theorem lookup_relabel_free {env : Env} {x : Str} : ∀ {names : List (Str × NameKind)}, names.lookup x = some .free →
    (names.map fun (n, k) => if (k == NameKind.free && env.scope.kind == .function && env.kindOf n == some .cell) then (n, NameKind.cell) else (n, k)).lookup x = some .cell ∨
    (names.map fun (n, k) => if (k == NameKind.free && env.scope.kind == .function && env.kindOf n == some .cell) then (n, NameKind.cell) else (n, k)).lookup x = some .free
  | [], h => by simp at h
  | (n, k) :: r, h => by
    have ih := @lookup_relabel_free env x r
    rw [List.lookup_cons] at h
    rw [List.map_cons]
    dsimp only
    by_cases q : x == n
    · rw [q] at h
      cases h
      by_cases c : (NameKind.free == NameKind.free && env.scope.kind == .function && env.kindOf n == some .cell) = true
      · rw [if_pos c, List.lookup_cons, q]; exact .inl rfl
      · rw [if_neg c, List.lookup_cons, q]; exact .inr rfl
    · rw [Bool.not_eq_true] at q
      rw [q] at h
      by_cases c : (k == NameKind.free && env.scope.kind == .function && env.kindOf n == some .cell) = true
      · rw [if_pos c, List.lookup_cons, q]; exact ih h
      · rw [if_neg c, List.lookup_cons, q]; exact ih h

section
variable {X : Cx} {pins : List (Addr × Obj)} {σ : St} {H : Hp} {s : Shared}
/-- the block's invariant at its start -/
theorem Inv.comp {scope : Scope} {own : List Str} {js : List Nat} {N' : List Str} {cl : List (Str × Addr)} {C : Addr} {h₁ : Heap} {tk : Nat} {fp : List Addr} {m : Str → Option Value} (S : CompScope X scope own js N') (I : Inv X pins σ H s)
    (hc1 : ∀ x c, cl.lookup x = some c → X.env.cells.lookup x = some c) (hc2 : ∀ x, (x, NameKind.free) ∈ scope.names → ∃ c, cl.lookup x = some c) (hC : s.heap.objs.size ≤ C) (hns : h₁.Ns C m) (hk : ∀ b o, s.heap.get? b = some o → h₁.get? b = some o)
    (hf : ∀ b ∈ fp, FpOk X pins H b ∧ b < s.heap.objs.size) (hHC : H C = none) (hfree : ∀ b o, s.heap.get? b = some o → b ≠ C) :
    Inv (cxComp X scope N' cl C s H fp) [] (compSt own.length js σ) H { s with heap := h₁, toks := tk } := by
  have ltx : ∀ b o, X.s₀.heap.get? b = some o → b ∉ X.ex → b ∉ fp := fun b o e hx hb => by
    rcases (hf b hb).1.2.2.2.1 with z | z
    · exact hx z
    · exact absurd (Nat.lt_of_lt_of_le (Heap.lt_size e) z) (Nat.lt_irrefl _)
  refine ⟨⟨I.ok.mod, S.kind, I.ok.glob, I.ok.blt, hC, fun x y c h1 h2 => I.ok.inj x y c (hc1 x c h1) (hc1 y c h2), fun x hx => ?_, fun x c z => (nomatch z), I.ok.hd, I.ok.frames, .inl rfl, fun b hb => ⟨Nat.ne_of_lt (Nat.lt_of_lt_of_le (hf b hb).2 hC), fun x c e => (hf b hb).1.2.2.2.2.1 x c (hc1 x c e)⟩, I.bs, Nat.le_trans I.ok.bsz I.sz, fun b o e => ltx b o (I.ok.bs b o e).1 (I.ok.noex b o e), fun b hb z => ?_, I.stack, I.stkFree⟩,
    rfl, I.bare, Un.kept hk, ⟨m, hns, fun i x v e1 e2 e3 => ?_⟩, fun x c e => ?_, hHC, fun x c e => I.freeC x c (hc1 x c e), fun p hp => absurd (show p ∈ ([] : List (Addr × Obj)) from hp) (by simp), I.hok.kept hk, ?_⟩
  · have hx' : (relabel scope X.env).names.lookup x = some .cell ∨ (relabel scope X.env).names.lookup x = some .free := hx
    rcases hx' with z | z
    · exact hc2 x (relabel_mem (PySem.mem_of_lookup z) (.inl rfl) S.nocell)
    · exact hc2 x (relabel_mem (PySem.mem_of_lookup z) (.inr rfl) S.nocell)
  · obtain ⟨_, f1, f2, _⟩ := (hf b hb).1
    rcases List.mem_cons.mp (I.stkSub b z) with q | q
    · exact f1 q
    · exact f2 q
  · -- a name that the block sees
    unfold compSt at e2
    by_cases hi : i < own.length
    · rw [List.getElem?_append_left (by simpa using hi), List.getElem?_replicate] at e2
      split at e2 <;> cases e2
    · rw [List.getElem?_append_right (by simpa using hi), List.length_replicate, List.getElem?_map] at e2
      cases ej : js[i - own.length]? with
      | none => rw [ej] at e2; cases e2
      | some j =>
        rw [ej] at e2
        have e2' : (σ[j]?).join = some v := by simpa using e2
        have hσ : σ[j]? = some (some v) := by
          cases q : σ[j]? with
          | none => rw [q] at e2'; cases e2'
          | some o => rw [q] at e2'; exact congrArg some e2'
        have hj := S.fr j (List.mem_of_getElem? ej)
        have hx : x = X.N.getD j Str.empty := by
          have e1' : N'[i]? = some x := e1
          rw [S.nm, List.getElem?_append_right (by omega), List.getElem?_map, ej] at e1'
          exact (Option.some.inj e1').symm
        have hN : X.N[j]? = some x := by
          rw [hx, List.getD_eq_getElem?_getD, List.getElem?_eq_getElem hj.1]; rfl
        have hfr : scope.names.lookup x = some .free := by rw [hx]; exact lookup_mem_free hj.2.1 hj.2.2
        have hkx := S.free (x, .free) (by rw [hx]; exact hj.2.1) rfl
        have hvis : Vis X.env.scope x := hkx.elim (fun z => .inr (.inl z)) fun z => .inr (.inr z)
        obtain ⟨mX, hnX, hlX⟩ := I.loc
        obtain ⟨u, r, l⟩ := hlX j x v hN hσ hvis
        refine ⟨u, r, .inr ⟨lookup_relabel_free hfr, ?_⟩⟩
        rcases l with ⟨z, _⟩ | ⟨_, c, hc, hcell⟩
        · rcases hkx with q | q
          · have := q.symm.trans z; cases this
          · have := q.symm.trans z; cases this
        · obtain ⟨c', hc'⟩ := hc2 x (by rw [hx]; exact hj.2.1)
          have : c' = c := Option.some.inj ((hc1 x c' hc').symm.trans hc)
          subst this
          obtain ⟨o, ho, hd⟩ := hcell
          exact ⟨c', hc', o, hk _ _ ho, hd⟩
  · obtain ⟨v, o, ho, hd⟩ := I.cell x c (hc1 x c e)
    exact ⟨v, o, hk _ _ ho, hd⟩
  · rw [compSt_len]
    show _ = N'.length
    rw [S.nm]; simp
end
end L2

set_option Elab.async false
set_option linter.all false
set_option maxRecDepth 100000
set_option maxHeartbeats 4000000
namespace L2
open PySem PySem.Spec PyProof.Rows

/-- the tests of a comprehension -/
def PIfs (Y : Cx) (ifs : List Expr) (t : TT) : Prop :=
  ∀ (pins : List (Addr × Obj)) (s : Shared) (σ : St) (H : Hp) (Q : Bool → Hp → Prop), Inv Y pins σ H s → t σ H Q →
    wpAny (model Y.prog Y.w) Y.A (forIn ifs true fun c r => if r = true then do let ok ← isTrue c Y.env (eval c Y.env); pure (ForInStep.yield ok) else pure (ForInStep.yield r)) (TP Y pins σ Q) Y.xe s
def tYes : TT := fun _ H Q => Q true H
theorem pifs_nil {Y : Cx} : PIfs Y [] tYes := fun _ _ _ H _ I h => wpAny_tests_nil ⟨H, I, h⟩
abbrev accObj (us : List Value) (k : Nat) : Obj := { cls := .type "list", data := .seq us.toArray k }

/-- what a turn of the block does: W by the turn, a measure, what has been gathered, the block's slots, the heap -/
def CTurn (J : It) (g : TG) (tt : TT) (te : TE) (F : List V → Hp → Prop) (W : Nat → Nat → List V → St → Hp → Prop) : Prop :=
  ∀ i m ys σ H, W i m ys σ H → (J.stop i H ∧ F ys H) ∨ (J.go i H ∧ ys.length < sizeLine ∧ ∀ x H1, J.yld i H x H1 → g x σ H1 fun σ2 H2 => tt σ2 H2 fun b H3 =>
    if b = true then te σ2 H3 fun y H4 => ∃ m', m' < m ∧ W (i + 1) m' (ys ++ [y]) σ2 H4 else ∃ m', m' < m ∧ W (i + 1) m' ys σ2 H3)

theorem comp_loop {X : Cx} {scope : Scope} {N' : List Str} {cl : List (Str × Addr)} {C acc it : Addr} {s₂ : Shared} {H₂ : Hp} {fp : List Addr} {tn : Nat → Heap → Prop} {J : It} {g : TG} {tt : TT} {te : TE} {F : List V → Hp → Prop}
    {elt tg iter : Expr} {ifs : List Expr} {pos : Pos} {R : Result → Shared → Prop} (W : Nat → Nat → List V → St → Hp → Prop) (turn : CTurn J g tt te F W) (T : Turn X.prog X.w X.K tg J fp it tn)
    (hg : PG (cxComp X scope N' cl C s₂ H₂ fp) tg g) (hc : PIfs (cxComp X scope N' cl C s₂ H₂ fp) ifs tt) (he : PE (cxComp X scope N' cl C s₂ H₂ fp) elt te) (hcalm : X.calm = true)
    (hfp : ∀ b ∈ fp, b ≠ C ∧ b ∉ frs X.stack ∧ (∀ x c, cl.lookup x = some c → c ≠ b) ∧ b ≠ acc) (hacc : acc ≠ C ∧ acc ∉ frs X.stack ∧ (∀ x c, cl.lookup x = some c → c ≠ acc) ∧ s₂.heap.objs.size ≤ acc)
    (hR : ∀ s' σ' H' ys us k, Inv (cxComp X scope N' cl C s₂ H₂ fp) [(acc, accObj us k)] σ' H' s' → Vals ys us → F ys H' → R (.ok .next) s')
    {s : Shared} {σ : St} {H : Hp} {m : Nat} (I : Inv (cxComp X scope N' cl C s₂ H₂ fp) [(acc, accObj [] 0)] σ H s) (st : tn 0 s.heap) (fr : ∀ b ∈ fp, H b = none) (w0 : W 0 m [] σ H) :
    codeAny (model X.prog X.w) X.A (.compLoop (.ListComp elt [⟨tg, iter, ifs, 0⟩] scope pos) 0 (.ref it) (.ref acc) (compEnvC scope cl C X.env)) R s := by
  refine codeAny_loop rfl (fun n s' => ∃ i ys us k σ' H', Vals ys us ∧ Inv (cxComp X scope N' cl C s₂ H₂ fp) [(acc, accObj us k)] σ' H' s' ∧ tn i s'.heap ∧ (∀ b ∈ fp, H' b = none) ∧ W i n ys σ' H') (fun n s3 hI => ?_) m ⟨0, [], [], 0, σ, H, .nil, I, st, fr, w0⟩
  obtain ⟨i, ys, us, k, σ3, H3, rv, I3, st3, fr3, w3⟩ := hI
  show wpAny _ X.A ((compTurn (.ListComp elt [⟨tg, iter, ifs, 0⟩] scope pos) 0 (.ref it) (.ref acc) (compEnvC scope cl C X.env)).onRaise (fun x => do noteFrame x (compEnvC scope cl C X.env); theTreesLotGoes x)) _ _ s3
  refine wpAny_noted ?_
  rw [compTurn_list]
  have fpk : ∀ {pins : List (Addr × Obj)} {H' : Hp}, (∀ p ∈ pins, p.1 = acc ∨ p.1 ∈ ([] : List Addr)) → (∀ b ∈ fp, H' b = none) → ∀ b ∈ fp, FpOk (cxComp X scope N' cl C s₂ H₂ fp) pins H' b := fun hp hn b hb =>
    ⟨hn b hb, (hfp b hb).1, (hfp b hb).2.1, .inl hb, (hfp b hb).2.2.1, fun p hp' => by
      have hp'' : p ∈ ([] : List (Addr × Obj)) ++ _ := hp'
      rcases hp p (by simpa using hp'') with z | z
      · rw [z]; exact Ne.symm (hfp b hb).2.2.2
      · exact (nomatch z)⟩
  have fp1 := fpk (pins := [(acc, accObj us k)]) (fun p hp => .inl (by simp at hp; rw [hp])) fr3
  refine wpAny_bind (wpAny_standAt (wpAny_bind ?_))
  rcases turn i n ys σ3 H3 w3 with ⟨stop, qn⟩ | ⟨go, hz, step⟩
  · refine wpAny_mono (T.done (cxComp X scope N' cl C s₂ H₂ fp) rfl rfl rfl hcalm i _ s3 σ3 H3 (fun _ _ => False) I3 fp1 st3 stop) (fun r s4 ⟨hr, I4⟩ => ?_) (fun _ _ z => z.elim)
    subst hr
    exact wpAny_pure (hR s4 σ3 H3 ys us k I4 rv qn)
  · refine wpAny_mono (T.item (cxComp X scope N' cl C s₂ H₂ fp) rfl rfl rfl hcalm i _ s3 σ3 H3 (fun _ _ => False) I3 fp1 st3 go) (fun r s4 ⟨u, hr, h4⟩ => ?_) (fun _ _ z => z.elim)
    subst hr
    refine wpAny_bind (wpAny_mono h4 (fun _ s5 ⟨x, H5, I5, r5, y5, st5, fr5⟩ => ?_) (fun _ _ z => z.elim))
    have fp5 := fpk (pins := [(acc, accObj us k)]) (fun p hp => .inl (by simp at hp; rw [hp])) fr5
    have I5' := I5.pinned fp5 (T.obj _ _ st5)
    refine wpAny_bind (wpAny_mono (hg _ s5 σ3 H5 x u _ I5' r5 (step x H5 y5)) (fun _ s6 ⟨σ6, H6, I6, q6⟩ => ?_) (fun _ _ z => z.elim))
    refine wpAny_bind (wpAny_mono (hc _ s6 σ6 H6 _ I6 q6) (fun ok s7 ⟨H7, I7, q7⟩ => ?_) (fun _ _ z => z.elim))
    have again : ∀ {s8 : Shared} {σ8 : St} {H8 : Hp} {us8 : List Value} {k8 : Nat} {ys8 : List V}, Inv (cxComp X scope N' cl C s₂ H₂ fp) ([(acc, accObj us k)] ++ pinsAt fp s5.heap) σ8 H8 s8 → tn (i + 1) s8.heap ∧ ∀ b ∈ fp, H8 b = none := fun {s8 σ8 H8 us8 k8 ys8} I8 =>
      ⟨T.keep _ _ _ st5 fun b hb o e => (I8.pin (b, o) (List.mem_append_right _ (List.mem_append_right _ (mem_pinsAt hb e)))).1, fun b hb => by
        obtain ⟨o, e, d⟩ := T.obj _ _ st5 b hb
        exact (I8.pin (b, o) (List.mem_append_right _ (List.mem_append_right _ (mem_pinsAt hb e)))).2.1⟩
    cases ok with
    | false =>
      rw [if_neg Bool.false_ne_true] at q7
      obtain ⟨m', hm, w7⟩ := q7
      obtain ⟨t1, t2⟩ := again (us8 := us) (k8 := k) (ys8 := ys) I7
      exact wpAny_pure ⟨rfl, m', hm, i + 1, ys, us, k, σ6, H7, rv, I7.unpinned, t1, t2, w7⟩
    | true =>
      rw [if_pos rfl] at q7
      refine wpAny_bind (wpAny_bind (wpAny_mono (he _ s7 σ6 H7 _ I7 q7) (fun y s8 ⟨yv, H8, I8, r8, m', hm, w8⟩ => ?_) (fun _ _ z => z.elim)))
      obtain ⟨t1, t2⟩ := again (us8 := us) (k8 := k) (ys8 := ys) I8
      obtain ⟨e8, n8, l8, f8, d8⟩ := I8.pin (acc, accObj us k) (List.mem_append_right _ (List.mem_append_left _ List.mem_cons_self))
      have hlen := rv.length
      have hz' : us.toArray.size ≤ sizeLine := by rw [List.size_toArray]; omega
      refine wpAny_bind (call_meets PySem.F.slot_list_append ⟨_, e8, rfl⟩ PySem.F.entry_list_append (PySem.F.args_list_append_2 _ _) (PySem.list_append acc us.toArray k y hz') ⟨e8, ?_⟩)
      have q := PySem.IsL.update e8 (fun z => z.push y)
      have I9 : Inv (cxComp X scope N' cl C s₂ H₂ fp) [] σ6 H8 s8 := I8.pins_of fun p hp => (nomatch hp)
      have I10 := I9.turned (t' := s8.toks) (it := acc) (h' := s8.heap.update acc (Obj.mapSeq fun z => z.push y)) (fun b o hb e => (Heap.get?_update_other s8.heap _ (Ne.symm hb)).trans e) n8 hacc.1 (.inr hacc.2.2.2) hacc.2.2.1 (fun p hp => (nomatch hp))
      have e' : (us.toArray.push y) = (us ++ [y]).toArray := by simp
      rw [e'] at q
      obtain ⟨k9, ek⟩ : ∃ k9, k9 = (if ((us ++ [y]).toArray.size == us.toArray.size) = true then k else k + 1) := ⟨_, rfl⟩
      rw [← ek] at q
      have I11 := I10.pins_of (pins' := [(acc, accObj (us ++ [y]) k9)]) fun p hp => by
        obtain rfl : p = (acc, accObj (us ++ [y]) k9) := by simpa using hp
        exact ⟨q, n8, hacc.1, hacc.2.1, fun v z => by cases z⟩
      refine wpAny_pure (wpAny_pure ⟨rfl, m', hm, i + 1, ys ++ [yv], us ++ [y], k9, σ6, H8, rv.append (.cons r8 .nil), I11, T.keep _ _ _ t1 fun b hb o e => ?_, t2, w8⟩)
      exact (Heap.get?_update_other s8.heap _ (hfp b hb).2.2.2.symm).trans e

/-- [elt for tg in iter if ..]: the reading; k: how many own names, js: what is seen of the frame -/
def tComp (wi : TI) (g : TG) (tt : TT) (te : TE) (k : Nat) (js : List Nat) : TE := fun σ H Q => wi σ H fun J H1 => ∃ W : Nat → Nat → List V → St → Hp → Prop, (∃ m, W 0 m [] (compSt k js σ) H1) ∧
  CTurn J g tt te (fun ys H2 => ys.length ≤ sizeLine ∧ ∀ p, H2 p = none → Q (.ref p) (upd H2 p (.lst ys))) W

section
variable {X : Cx} {scope : Scope} {own : List Str} {js : List Nat} {N' : List Str} {wi : TI} {g : TG} {tt : TT} {te : TE} {elt tg iter : Expr} {ifs : List Expr} {pos : Pos}
/-- the block runs; behind it all is as the frame wants it, the block's own names still there -/
theorem comp_run {pins : List (Addr × Obj)} {σ : St} {H : Hp} {s : Shared} {it : Addr} {fp : List Addr} {tn : Nat → Heap → Prop} {J : It} {cl : List (Str × Addr)} {F : List V → Hp → Prop} {E : Value → Shared → Prop} {RR : Value → Addr → Result → Shared → Prop}
    (S : CompScope X scope own js N') (hcalm : X.calm = true) (hg : ∀ cl C s₀ H₀ ex, PG (cxComp X scope N' cl C s₀ H₀ ex) tg g) (hc : ∀ cl C s₀ H₀ ex, PIfs (cxComp X scope N' cl C s₀ H₀ ex) ifs tt) (he : ∀ cl C s₀ H₀ ex, PE (cxComp X scope N' cl C s₀ H₀ ex) elt te)
    (hc1 : ∀ x c, cl.lookup x = some c → X.env.cells.lookup x = some c) (hc2 : ∀ x, (x, NameKind.free) ∈ scope.names → ∃ c, cl.lookup x = some c)
    (I : Inv X pins σ H s) (T : Turn X.prog X.w X.K tg J fp it tn) (st : tn 0 s.heap) (hf : ∀ b ∈ fp, FpOk X pins H b) (W : Nat → Nat → List V → St → Hp → Prop) {m0 : Nat} (w0 : W 0 m0 [] (compSt own.length js σ) H) (turn : CTurn J g tt te F W)
    (hF : ∀ ys H', F ys H' → ys.length ≤ sizeLine)
    (fin : ∀ acc C H' ys s' m, Inv X pins σ (upd H' acc (.lst ys)) s' → H' acc = none → s'.heap.Ns C m → (upd H' acc (.lst ys)) C = none → C ≠ X.env.locals → X.s₀.heap.objs.size ≤ C → (∀ x c, X.env.cells.lookup x = some c → c ≠ C) → (∀ p ∈ X.pn ++ pins, p.1 ≠ C) → F ys H' → RR (.ref acc) C (.ok .next) s') :
    wpAny (model X.prog X.w) X.A (newList []) (fun acc s₃ => wpAny (model X.prog X.w) X.A (newFunctionEnv scope X.env.globals cl [] X.env.qual none .none (some X.env)) (fun cenv s₄ =>
      codeAny (model X.prog X.w) X.A (.compStart (.ListComp elt [⟨tg, iter, ifs, 0⟩] scope pos) 0 (.ref it) acc { cenv with scope := relabel scope X.env }) (RR acc cenv.locals) s₄) E s₃) E s := by
  refine wpAny_newObj_type (wpAny_newFunctionEnv S.nocell (by intro y hy; simp at hy) (fun h₁ hns₁ hsb₁ => ?_) S.kind)
  dsimp only at hns₁ hsb₁ ⊢
  generalize hH2 : s.heap.push { cls := .type "list", dict := none, data := .seq ([] : List Value).toArray } = H2 at hns₁ hsb₁ ⊢
  have hC : H2.objs.size = s.heap.objs.size + 1 := by rw [← hH2, Heap.size_push]
  have hDC : s.heap.objs.size ≠ H2.objs.size := by rw [hC]; exact Nat.ne_of_lt (Nat.lt_succ_self _)
  have hCle : s.heap.objs.size ≤ H2.objs.size := by rw [hC]; exact Nat.le_succ _
  have below : ∀ b, b < s.heap.objs.size → b ≠ H2.objs.size ∧ b ≠ s.heap.objs.size := fun b hb => ⟨by rw [hC]; exact Nat.ne_of_lt (Nat.lt_succ_of_lt hb), Nat.ne_of_lt hb⟩
  have old : ∀ b o, s.heap.get? b = some o → h₁.get? b = some o := fun b o e => hsb₁.extBut b o (below b (Heap.lt_size e)).1 (Heap.get?_push_of_some _ (hH2 ▸ Heap.get?_push_of_some _ e))
  have hacc : h₁.get? s.heap.objs.size = some (accObj [] 0) := hsb₁.extBut _ _ hDC (Heap.get?_push_of_some _ (hH2 ▸ Heap.get?_push_size _ rfl))
  generalize hCn : H2.objs.size = C at *
  generalize hAn : s.heap.objs.size = acc at *
  have cellLt : ∀ x c, X.env.cells.lookup x = some c → c < acc := fun x c e => by
    obtain ⟨v, q⟩ := I.cell x c e
    rw [← hAn]; exact q.lt
  have pinLt : ∀ p ∈ X.pn ++ pins, p.1 < acc := fun p hp => by rw [← hAn]; exact Heap.lt_size (I.pin p hp).1
  have stkLt : ∀ b ∈ frs X.stack, b < acc := fun b hb => by
    obtain ⟨_, o, ho, _⟩ := I.stack.mem hb
    rw [← hAn]; exact Heap.lt_size ho
  have fpLt : ∀ b ∈ fp, b < acc := fun b hb => by
    obtain ⟨o, e, _⟩ := T.obj _ _ st b hb
    rw [← hAn]; exact Heap.lt_size e
  have hHC : H C = none := I.hok.fresh (by rw [hAn]; exact hCle)
  have hHA : H acc = none := I.hok.fresh (by rw [hAn]; exact Nat.le_refl _)
  have I1 : Inv (cxComp X scope N' cl C s H fp) [] (compSt own.length js σ) H { s with heap := h₁, toks := s.toks + ([] : List (Str × Value)).length } :=
    Inv.comp S I hc1 hc2 (by rw [hAn]; exact hCle) hns₁ old (fun b hb => ⟨hf b hb, by rw [hAn]; exact fpLt b hb⟩) hHC fun b o e => (below b (by rw [← hAn]; exact Heap.lt_size e)).1
  have I2 : Inv (cxComp X scope N' cl C s H fp) [(acc, accObj [] 0)] (compSt own.length js σ) H { s with heap := h₁, toks := s.toks + ([] : List (Str × Value)).length } := I1.pins_of fun p hp => by
    obtain rfl : p = (acc, accObj [] 0) := by simpa using hp
    exact ⟨hacc, hHA, hDC, fun z => absurd (stkLt acc z) (Nat.lt_irrefl _), fun v z => by cases z⟩
  have st1 : tn 0 h₁ := T.keep _ _ _ st fun b hb o e => old b o e
  have loop : ∀ s₃ : Shared, s₃ = { s with heap := h₁, toks := s.toks + ([] : List (Str × Value)).length } →
      codeAny (model X.prog X.w) X.A (.compLoop (.ListComp elt [⟨tg, iter, ifs, 0⟩] scope pos) 0 (.ref it) (.ref acc) (compEnvC scope cl C X.env)) (RR (.ref acc) C) s₃ := by
    rintro s₃ rfl
    refine comp_loop W turn T (hg _ _ _ _ _) (hc _ _ _ _ _) (he _ _ _ _ _) hcalm
      (fun b hb => ⟨(below b (fpLt b hb)).1, fun z => ?_, fun x c e z => (hf b hb).2.2.2.2.1 x c (hc1 x c e) z, (below b (fpLt b hb)).2⟩)
      ⟨hDC, fun z => absurd (stkLt acc z) (Nat.lt_irrefl _), fun x c e z => absurd (cellLt x c (hc1 x c e)) (by rw [z]; exact Nat.lt_irrefl _), by rw [hAn]; exact Nat.le_refl _⟩ ?_ I2 st1 (fun b hb => (hf b hb).1) w0
    · rcases List.mem_cons.mp (I.stkSub b z) with q | q
      · exact (hf b hb).2.1 q
      · exact (hf b hb).2.2.1 q
    · intro s' σ' H' ys us k J' rv q
      obtain ⟨e', n', l', f', d'⟩ := J'.pin (acc, accObj us k) (List.mem_append_right _ List.mem_cons_self)
      have n'' : H' acc = none := n'
      obtain ⟨m, hm, _⟩ := J'.loc
      have oldLt : ∀ b o, s.heap.get? b = some o → b < acc := fun b o e => by rw [← hAn]; exact Heap.lt_size e
      have neA : ∀ b o, s.heap.get? b = some o → b ≠ acc := fun b o e => Nat.ne_of_lt (oldLt b o e)
      have un : Un (frs X.stack) fp H (upd H' acc (.lst ys)) s.heap s'.heap := ⟨J'.base.keep, J'.base.slot, fun b o e n hx => by rw [upd_ne (neA b o e)]; exact J'.base.free b o e n hx, J'.base.there,
        fun b xs e => by
          have z := J'.base.tups b xs e
          rw [upd_ne (ne_of_none z n'')]; exact z,
        fun b o u e => by
          have z := J'.base.frzs b o u e
          rw [upd_ne (ne_of_none z n'')]; exact z,
        fun b ps e => by
          obtain ⟨more, z⟩ := J'.base.tbls b ps e
          exact ⟨more, by rw [upd_ne (ne_of_none z n'')]; exact z⟩⟩
      have hok : HOk X.prog X.w (upd H' acc (.lst ys)) s'.heap := fun b u e => by
        by_cases hb : b = acc
        · subst hb
          rw [upd_same] at e; cases e
          exact ⟨hF _ _ q, us, k, rv, e'⟩
        · rw [upd_ne hb] at e
          exact (J'.hok b u e).stay (fun c v _ z => z) (fun c z => by rw [upd_ne (ne_of_none z n'')]; exact z) fun c xs z => by rw [upd_ne (ne_of_none z n'')]; exact z
      have IX : Inv X pins σ (upd H' acc (.lst ys)) s' := I.call' J'.os un hok J'.bare fun b hb => ⟨(hf b hb).2.2.2.1, (hf b hb).2.1, (hf b hb).2.2.2.2.1, (hf b hb).2.2.2.2.2⟩
      refine fin acc C H' ys s' m IX n'' hm ?_ ?_ ?_ ?_ ?_ q
      · rw [upd_ne (Ne.symm hDC)]; exact J'.free
      · exact Nat.ne_of_gt (Nat.lt_of_lt_of_le I.lt (by rw [hAn]; exact hCle))
      · exact Nat.le_trans I.sz (by rw [hAn]; exact hCle)
      · exact fun x c e z => absurd (Nat.lt_of_lt_of_le (cellLt x c e) hCle) (by rw [z]; exact Nat.lt_irrefl _)
      · exact fun p hp z => absurd (Nat.lt_of_lt_of_le (pinLt p hp) hCle) (by rw [z]; exact Nat.lt_irrefl _)
  exact codeAny_compStart_list (loop _ rfl) (T.self _ 0 _ _ _ st1 (loop _ rfl))

theorem pe_comp (S : CompScope X scope own js N') (hcalm : X.calm = true) (hi : PI X tg iter wi) (hg : ∀ cl C s₀ H₀ ex, PG (cxComp X scope N' cl C s₀ H₀ ex) tg g) (hc : ∀ cl C s₀ H₀ ex, PIfs (cxComp X scope N' cl C s₀ H₀ ex) ifs tt)
    (he : ∀ cl C s₀ H₀ ex, PE (cxComp X scope N' cl C s₀ H₀ ex) elt te) (hs : ∀ x, foldedSetIterable iter X.env x = pure x := by intro _; rfl) : PE X (.ListComp elt [⟨tg, iter, ifs, 0⟩] scope pos) (tComp wi g tt te own.length js) := by
  intro pins s σ H Q I h
  obtain ⟨cl, hcl, hc1, hc2⟩ := closure_ok (env := X.env) scope fun y hy hk => I.ok.has y.1 (S.free y hy hk)
  rw [eval_ListComp]
  refine wpAny_comprehension_free (use := none) rfl hs hcl S.kind S.names (thn (hi pins s σ H _ I h) fun v s1 h1 => thn h1 fun itv s2 h2 => ?_)
  obtain ⟨it, fp, tn, J, H2, e, I2, T, st2, f2, W, ⟨m0, w0⟩, turn⟩ := h2
  subst e
  refine comp_run (RR := fun acc C => compPost (model X.prog X.w) X.A X.xe none (EP X pins σ Q) acc C) S hcalm hg hc he hc1 hc2 I2 T st2 f2 W w0 turn (fun ys H' q => q.1) ?_
  intro acc C H' ys s' m IX na hm hCn hL hz hcn hpn q
  refine ⟨m, hm, fun h' hs' => ⟨.ref acc, _, ?_, rfl, q.2 acc na⟩⟩
  exact IX.turned (t' := s'.toks) (it := C) (fun b o hb e => (hs'.2 b hb).trans e) hCn hL (.inr hz) hcn hpn

/-- x = [elt for ..], x a local name, on one row -/
theorem ps_setComp {i : Nat} {x : Str} {pos' spos : Pos} (S : CompScope X scope own js N') (hcalm : X.calm = true) (hN : X.N.Nodup) (hx : X.N[i]? = some x) (hk : X.env.scope.names.lookup x = some .local) (hi : PI X tg iter wi) (hg : ∀ cl C s₀ H₀ ex, PG (cxComp X scope N' cl C s₀ H₀ ex) tg g) (hc : ∀ cl C s₀ H₀ ex, PIfs (cxComp X scope N' cl C s₀ H₀ ex) ifs tt)
    (he : ∀ cl C s₀ H₀ ex, PE (cxComp X scope N' cl C s₀ H₀ ex) elt te) (hsw : swapsWith (.ListComp elt [⟨tg, iter, ifs, 0⟩] scope pos) (some (.Name x pos')) spos.line X.env = pure true := by rfl) (hs : ∀ x, foldedSetIterable iter X.env x = pure x := by intro _; rfl) :
    PS X (.Assign [.Name x pos'] (.ListComp elt [⟨tg, iter, ifs, 0⟩] scope pos) spos) (tAsg (tComp wi g tt te own.length js) (gName i)) := by
  intro pins s σ H D I h
  obtain ⟨cl, hcl, hc1, hc2⟩ := closure_ok (env := X.env) scope fun y hy hk => I.ok.has y.1 (S.free y hy hk)
  rw [exec_Assign_Name_used _ _ _ _ hsw]
  refine wpAny_bind (wpAny_standAt (wpAny_bind ?_))
  show wpAny _ X.A (do let _ ← comprehension (.ListComp elt [⟨tg, iter, ifs, 0⟩] scope pos) scope X.env _ (newList []) false (eval iter X.env) (some (assign (.Name x pos') X.env))) _ _ s
  refine wpAny_bind (wpAny_mono (wpAny_comprehension_free (use := some (assign (.Name x pos') X.env)) (Q := fun _ s' => SP X pins D .next s') rfl hs hcl S.kind S.names
    (thn (hi pins s σ H _ I h) fun v s1 h1 => thn h1 fun itv s2 h2 => ?_)) (fun _ s' hq => wpAny_pure (wpAny_pure hq)) fun _ _ e => e)
  obtain ⟨it, fp, tn, J, H2, e, I2, T, st2, f2, W, ⟨m0, w0⟩, turn⟩ := h2
  subst e
  refine comp_run (RR := fun acc C => compPost (model X.prog X.w) X.A X.xe (some (assign (.Name x pos') X.env)) (fun _ s' => SP X pins D .next s') acc C) S hcalm hg hc he hc1 hc2 I2 T st2 f2 W w0 turn (fun ys H' q => q.1) ?_
  intro acc C H' ys s' m IX na hm hCn hL hz hcn hpn q
  show wpAny _ X.A (assign (.Name x pos') X.env (.ref acc)) _ _ s'
  refine wpAny_assign_Name (store_ok2 IX hN hx (.inl hk) (v := .ref acc) rfl (fun s'' I'' hsb => ?_) (.inr hk))
  obtain ⟨a, hsb, ha⟩ := hsb
  have haC : C ≠ a := by
    rcases ha with z | z
    · rw [z]; exact hL
    · exact fun q => hcn x a z q.symm
  refine ⟨m, hm.sameBut hsb haC, fun h' hs' => ⟨_, _, ?_, q.2 acc na⟩⟩
  exact I''.turned (t' := s''.toks) (it := C) (fun b o hb e => (hs'.2 b hb).trans e) hCn hL (.inr hz) hcn hpn
end
end L2

set_option Elab.async false
set_option linter.all false
set_option maxRecDepth 100000
set_option maxHeartbeats 4000000
namespace L2
open PySem PySem.Spec PyProof.Rows
section
variable {X : Cx}
/-! ### operations on any of the kinds, by one rule -/
/-- // by a number below 2 ^ 128 -/
def CDivW (i j : Int) : Prop := 0 < j ∧ j < 340282366920938463463374607431768211456
theorem op_fdivW : OpR X (binaryOp .FloorDiv) (rI CDivW fun i j => .int (i / j)) := opI fun i j _ _ _ _ _ hc q => by
  rw [← Int.fdiv_eq_ediv_of_nonneg i (Int.le_of_lt hc.1)] at q
  have h1 : (0 : Int) < j := hc.1
  have h2 : j < 340282366920938463463374607431768211456 := hc.2
  have hb : j.natAbs < 340282366920938463463374607431768211456 := by omega
  have he : (2 : Nat) ^ 128 = 340282366920938463463374607431768211456 := by decide +kernel
  have hl : j.natAbs.log2 < 128 := (Nat.log2_lt (by omega)).mpr (Nat.lt_of_lt_of_eq hb he.symm)
  exact floordiv_int (by have := hc.1; omega) q (.inl (PyProof.noPylong_of_log2 (by omega)))
/-! ### the forms of comprehensions that one uses -/
theorem comp_range {lo : Int} {n : Nat} {g : TG} {te : TE} {F : List V → Hp → Prop} {σ0 : St} {H0 : Hp} (Pv : Nat → List V → St → Hp → Prop) (hn : n ≤ sizeLine) (h0 : Pv 0 [] σ0 H0)
    (hs : ∀ i ys σ H, i < n → ys.length = i → Pv i ys σ H → ∀ N : List V → St → Hp → Prop, (∀ ys' σ' H', ys'.length = i + 1 → Pv (i + 1) ys' σ' H' → N ys' σ' H') → g (.int (lo + i)) σ H fun σ2 H2 => te σ2 H2 fun y H3 => N (ys ++ [y]) σ2 H3)
    (hd : ∀ ys σ H, ys.length = n → Pv n ys σ H → F ys H) :
    ∃ W : Nat → Nat → List V → St → Hp → Prop, (∃ m, W 0 m [] σ0 H0) ∧ CTurn (Itr lo n) g tYes te F W := by
  refine ⟨fun i m ys σ H => m = n - i ∧ i ≤ n ∧ ys.length = i ∧ Pv i ys σ H, ⟨n, by simp, Nat.zero_le _, rfl, h0⟩, ?_⟩
  rintro i m ys σ H ⟨rfl, hi, hl, p⟩
  by_cases hlt : i < n
  · refine .inr ⟨hlt, by omega, fun x H' y => ?_⟩
    obtain ⟨e, y⟩ := y
    subst e y
    exact hs i ys σ _ hlt hl p (fun ys' σ' H' => ∃ m', m' < n - i ∧ m' = n - (i + 1) ∧ i + 1 ≤ n ∧ ys'.length = i + 1 ∧ Pv (i + 1) ys' σ' H') fun ys' σ' H' hl' q => ⟨n - (i + 1), by omega, rfl, hlt, hl', q⟩
  · have e : i = n := by omega
    subst e
    exact .inl ⟨Nat.le_refl _, hd ys σ H hl p⟩
theorem comp_list {K : PySem.W.Frag} {a : Addr} {xs : List V} {g : TG} {te : TE} {F : List V → Hp → Prop} {σ0 : St} {H0 : Hp} (Pv : Nat → List V → St → Hp → Prop) (hn : xs.length ≤ sizeLine) (h0 : Pv 0 [] σ0 H0) (hq : ∀ i ys σ H, i ≤ xs.length → Pv i ys σ H → SqL K H a xs)
    (hs : ∀ i x ys σ H, xs[i]? = some x → ys.length = i → Pv i ys σ H → ∀ N : List V → St → Hp → Prop, (∀ ys' σ' H', ys'.length = i + 1 → Pv (i + 1) ys' σ' H' → N ys' σ' H') → g x σ H fun σ2 H2 => te σ2 H2 fun y H3 => N (ys ++ [y]) σ2 H3)
    (hd : ∀ ys σ H, ys.length = xs.length → Pv xs.length ys σ H → F ys H) :
    ∃ W : Nat → Nat → List V → St → Hp → Prop, (∃ m, W 0 m [] σ0 H0) ∧ CTurn (Itl K a) g tYes te F W := by
  refine ⟨fun i m ys σ H => m = xs.length - i ∧ i ≤ xs.length ∧ ys.length = i ∧ Pv i ys σ H, ⟨xs.length, by simp, Nat.zero_le _, rfl, h0⟩, ?_⟩
  rintro i m ys σ H ⟨rfl, hi, hl, p⟩
  have q := hq i ys σ H hi p
  by_cases hlt : i < xs.length
  · refine .inr ⟨⟨xs, xs[i], q, by simp [hlt]⟩, by omega, fun x H' y => ?_⟩
    obtain ⟨e, y⟩ := y
    subst e
    exact hs i x ys σ _ (y xs q) hl p (fun ys' σ' H' => ∃ m', m' < xs.length - i ∧ m' = xs.length - (i + 1) ∧ i + 1 ≤ xs.length ∧ ys'.length = i + 1 ∧ Pv (i + 1) ys' σ' H') fun ys' σ' H' hl' q => ⟨xs.length - (i + 1), by omega, rfl, hlt, hl', q⟩
  · have e : i = xs.length := by omega
    subst e
    exact .inl ⟨⟨xs, q, Nat.le_refl _⟩, hd ys σ H hl p⟩
/-- a def of the module: its address, its object, how it binds -/
structure Def (K : PySem.W.Frag) (mg : Str → Option Value) (x : Str) (st : Stmt) (ps : List Str) (f : Addr) (fd : FuncData) : Prop where
  F : Fun K x x st f fd
  mg : mg x = some (.ref f)
  b : Binds K fd ps []
/-- all that was tracked is as it was, but the object at p -/
def But (p : Addr) (H H' : Hp) : Prop := ∀ b o, H b = some o → b ≠ p → H' b = some o
theorem But.refl {p : Addr} {H : Hp} : But p H H := fun _ _ h _ => h
theorem But.trans {p : Addr} {H H1 H2 : Hp} (a : But p H H1) (b : But p H1 H2) : But p H H2 := fun c o h hc => b c o (a c o h hc) hc
theorem But.upd {p : Addr} {H : Hp} {o : HO} : But p H (upd H p o) := fun b u h hb => by rw [upd_ne hb]; exact h
theorem But.new {p q : Addr} {H : Hp} {o : HO} (h : H q = none) : But p H (L2.upd H q o) := fun b u e _ => by rw [upd_ne (ne_of_none e h)]; exact e
end
/-- between two statements: what holds there -/
theorem seq_by {t u : TS} {D : Ends} {σ : St} {H : Hp} (M : St → Hp → Prop) (h2 : ∀ σ' H', M σ' H' → u D σ' H') (h1 : ∀ N : St → Hp → Prop, (∀ σ' H', M σ' H' → N σ' H') → t { D with nx := N } σ H) : tSeq t u D σ H := h1 (u D) h2
theorem Same.new {H : Hp} {q : Addr} {o : HO} (h : H q = none) : Same H (upd H q o) := fun b u e => by rw [upd_ne (ne_of_none e h)]; exact e
theorem bt_len : bootBuiltins "len" = some (.builtin "len") := by decide +kernel
theorem bt_list : bootBuiltins "list" = some (.type "list") := by decide +kernel
theorem bt_str : bootBuiltins "str" = some (.type "str") := by decide +kernel
theorem bt_min : bootBuiltins "min" = some (.builtin "min") := by decide +kernel
theorem bt_max : bootBuiltins "max" = some (.builtin "max") := by decide +kernel
theorem bt_all : bootBuiltins "all" = some (.builtin "all") := by decide +kernel
end L2

set_option Elab.async false
set_option linter.all false
set_option maxRecDepth 100000
set_option maxHeartbeats 4000000
namespace L2
open PySem PySem.Spec PyProof.Rows PySem.SeqAt

/-! ### data: what a value stands for -/
mutual
inductive Rep (K : PySem.W.Frag) (H : Hp) : V → PyData → Prop
  | non : Rep K H .non .none
  | bl (b : Bool) : Rep K H (.bl b) (.bool b)
  | int (i : Int) : Rep K H (.int i) (.int i)
  | str (x : Str) : Rep K H (.str x) (.str x)
  | tup {a : Addr} {xs : List V} {ds : List PyData} : SqT K H a xs → Reps K H xs ds → Rep K H (.ref a) (.tuple ds)
  | lst {a : Addr} {xs : List V} {ds : List PyData} : SqL K H a xs → Reps K H xs ds → Rep K H (.ref a) (.list ds)
inductive Reps (K : PySem.W.Frag) (H : Hp) : List V → List PyData → Prop
  | nil : Reps K H [] []
  | cons {x : V} {d : PyData} {xs : List V} {ds : List PyData} : Rep K H x d → Reps K H xs ds → Reps K H (x :: xs) (d :: ds)
end
section
variable {K : PySem.W.Frag} {H H' : Hp}
theorem Reps.length : ∀ {xs : List V} {ds : List PyData}, Reps K H xs ds → xs.length = ds.length
  | _, _, .nil => rfl
  | _, _, .cons _ t => by rw [List.length_cons, List.length_cons, Reps.length t]
theorem But.seq {p a : Addr} {xs : List V} {kvs : List (Key × V)} (e : But p H H') (hp : H p = some (.dK kvs)) (h : SqL K H a xs) : SqL K H' a xs := by
  rcases h with (h | ⟨o, h⟩) | h
  · exact .inl (.inl (e _ _ h (ne_of h hp (by intro z; cases z))))
  · exact .inl (.inr ⟨o, e _ _ h (ne_of h hp (by intro z; cases z))⟩)
  · exact .inr h
end

section
variable {X : Cx} {pins : List (Addr × Obj)} {σ : St} {H : Hp} {s : Shared}
end

/-! ### == of data -/
mutual
def pdEq : PyData → PyData → Bool
  | .none, .none => true
  | .bool a, .bool b => a == b
  | .bool a, .int b => (if a then 1 else 0) == b
  | .int a, .bool b => a == (if b then 1 else 0)
  | .int a, .int b => a == b
  | .str a, .str b => a == b
  | .tuple a, .tuple b => pdEqs a b
  | .list a, .list b => pdEqs a b
  | _, _ => false
def pdEqs : List PyData → List PyData → Bool
  | [], [] => true
  | a :: r, b :: t => pdEq a b && pdEqs r t
  | _, _ => false
end
theorem pdEqs_iff : ∀ (ds es : List PyData), pdEqs ds es = ((List.range (min ds.length es.length)).all (fun j => pdEq (ds.getD j .none) (es.getD j .none)) && ds.length == es.length)
  | [], [] => by simp [pdEqs]
  | [], _ :: _ => by simp [pdEqs]
  | _ :: _, [] => by simp [pdEqs]
  | a :: r, b :: t => by
    rw [pdEqs, pdEqs_iff r t, List.length_cons, List.length_cons, Nat.succ_min_succ, List.range_succ_eq_map, List.all_cons, List.all_map]
    simp only [List.getD_cons_zero, Bool.and_assoc]
    congr 1
    have e : (r.length + 1 == t.length + 1) = (r.length == t.length) := by
      rw [Bool.eq_iff_iff]; simp
    rw [e]
    congr 1
end L2

set_option Elab.async false
set_option linter.all false
set_option maxRecDepth 100000
set_option maxHeartbeats 4000000
namespace L2
open PySem PySem.Spec PyProof.Rows PySem.SeqAt

mutual
def pdDep : PyData → Nat
  | .tuple xs => pdDeps xs + 1
  | .list xs => pdDeps xs + 1
  | _ => 0
def pdDeps : List PyData → Nat
  | [] => 0
  | d :: r => max (pdDep d) (pdDeps r)
end
section
variable {X : Cx} {pins : List (Addr × Obj)} {σ : St} {H : Hp} {s : Shared}
mutual
/-- one value, one datum -/
theorem Rep.fn (I : Inv X pins σ H s) : ∀ {v : V} {d e : PyData} {u : Value}, Rep X.K H v d → Rep X.K H v e → RelV v u → d = e ∧ pdEq d d = true
  | _, _, _, _, .non, .non, _ => ⟨rfl, rfl⟩
  | _, _, _, _, .bl b, .bl _, _ => ⟨rfl, by simp [pdEq]⟩
  | _, _, _, _, .int i, .int _, _ => ⟨rfl, by simp [pdEq]⟩
  | _, _, _, _, .str x, .str _, _ => ⟨rfl, by simp [pdEq]⟩
  | _, _, _, _, .tup h1 r1, .tup h2 r2, r => by
    have e := I.tuple_inj h1 h2
    subst e
    obtain ⟨its, rv, _, _⟩ := I.tuple h1
    obtain ⟨e, q⟩ := Reps.fn I r1 r2 rv
    exact ⟨by rw [e], q⟩
  | _, _, _, _, .lst h1 r1, .lst h2 r2, r => by
    have e := I.list_inj h1 h2
    subst e
    obtain ⟨its, rv, _, _⟩ := I.list h1
    obtain ⟨e, q⟩ := Reps.fn I r1 r2 rv
    exact ⟨by rw [e], q⟩
  | _, _, _, _, .tup h1 _, .lst h2 _, r => by
    obtain ⟨_, _, ⟨o, e1, c1, _⟩, _⟩ := I.tuple h1
    obtain ⟨_, _, ⟨o', n, e2, c2, _⟩, _⟩ := I.list h2
    rw [e1] at e2; cases e2
    rw [c1] at c2; injection c2 with z; exact absurd z (by decide)
  | _, _, _, _, .lst h2 _, .tup h1 _, r => by
    obtain ⟨_, _, ⟨o, e1, c1, _⟩, _⟩ := I.tuple h1
    obtain ⟨_, _, ⟨o', n, e2, c2, _⟩, _⟩ := I.list h2
    rw [e1] at e2; cases e2
    rw [c1] at c2; injection c2 with z; exact absurd z (by decide)
theorem Reps.fn (I : Inv X pins σ H s) : ∀ {v : List V} {d e : List PyData} {u : List Value}, Reps X.K H v d → Reps X.K H v e → Vals v u → d = e ∧ pdEqs d d = true
  | _, _, _, _, .nil, .nil, _ => ⟨rfl, rfl⟩
  | _, _, _, _, .cons a b, .cons c d, .cons r rs => by
    obtain ⟨e1, q1⟩ := Rep.fn I a c r
    obtain ⟨e2, q2⟩ := Reps.fn I b d rs
    exact ⟨by rw [e1, e2], by simp [pdEqs, q1, q2]⟩
end
theorem allEq {vs ws : List V} {ds es : List PyData} {us xs : List Value} {A : Around} (rs1 : Reps X.K H vs ds) (rs2 : Reps X.K H ws es) (rv1 : Vals vs us) (rv2 : Vals ws xs) :
    ((List.range (min us.toArray.size xs.toArray.size)).all (fun j => pdEq (ds.getD j .none) (es.getD j .none)) && us.toArray.size == xs.toArray.size) = pdEqs ds es := by
  rw [pdEqs_iff, List.size_toArray, List.size_toArray, ← rv1.length, ← rv2.length, rs1.length, rs2.length]
theorem rcT {l b : Addr} {vs ws : List V} {ds es : List PyData} {us xs : List Value} {A : Around} (rs1 : Reps X.K H vs ds) (rs2 : Reps X.K H ws es) (rv1 : Vals vs us) (rv2 : Vals ws xs) (p1 : IsTup s.heap l us.toArray) (p2 : IsTup s.heap b xs.toArray) (hu : A.units < cLine)
    (he : ∀ j (h1 : j < us.length) (h2 : j < xs.length), EqAt A.in1 s us[j] xs[j] (pdEq (ds.getD j .none) (es.getD j .none))) : RcAt A s (.ref l) (.ref b) (pdEq (.tuple ds) (.tuple es)) := by
  show RcAt A s (.ref l) (.ref b) (pdEqs ds es)
  rw [← allEq (A := A) rs1 rs2 rv1 rv2]
  exact RcAt.tuples (show s.heap.IsTuple l us.toArray from p1) (show s.heap.IsTuple b xs.toArray from p2) hu fun j h1 h2 => by simpa using he j (by simpa using h1) (by simpa using h2)
theorem rcL {l b : Addr} {vs ws : List V} {ds es : List PyData} {us xs : List Value} {A : Around} (rs1 : Reps X.K H vs ds) (rs2 : Reps X.K H ws es) (rv1 : Vals vs us) (rv2 : Vals ws xs) (p1 : s.heap.IsList l us.toArray) (p2 : s.heap.IsList b xs.toArray) (hu : A.units < cLine)
    (he : ∀ j (h1 : j < us.length) (h2 : j < xs.length), EqAt A.in1 s us[j] xs[j] (pdEq (ds.getD j .none) (es.getD j .none))) : RcAt A s (.ref l) (.ref b) (pdEq (.list ds) (.list es)) := by
  show RcAt A s (.ref l) (.ref b) (pdEqs ds es)
  have q := allEq (A := A) rs1 rs2 rv1 rv2
  by_cases hz : us.toArray.size = xs.toArray.size
  · rw [← q, hz, Nat.min_self, beq_self_eq_true, Bool.and_true, ← hz]
    exact RcAt.lists p1 p2 hz hu fun j h1 h2 => by simpa using he j (by simpa using h1) (by simpa using h2)
  · have e : pdEqs ds es = false := by
      rw [← q]
      have : (us.toArray.size == xs.toArray.size) = false := by simpa using hz
      rw [this, Bool.and_false]
    rw [e]
    exact RcAt.lists_lengths p1 p2 (by simpa using hz) hu
theorem eqT (I : Inv X pins σ H s) {l b : Addr} {vs ws : List V} {ds es : List PyData} {us xs : List Value} {A : Around} (h1 : SqT X.K H l vs) (h2 : SqT X.K H b ws) (rs1 : Reps X.K H vs ds) (rs2 : Reps X.K H ws es) (rv1 : Vals vs us) (rv2 : Vals ws xs) (p1 : IsTup s.heap l us.toArray) (p2 : IsTup s.heap b xs.toArray) (hu : A.units < cLine)
    (he : ∀ j (h1 : j < us.length) (h2 : j < xs.length), EqAt A.in1 s us[j] xs[j] (pdEq (ds.getD j .none) (es.getD j .none))) : EqAt A s (.ref l) (.ref b) (pdEq (.tuple ds) (.tuple es)) := by
  by_cases hlb : l = b
  · subst hlb
    obtain ⟨e, q⟩ := Rep.fn I (.tup h1 rs1) (.tup h2 rs2) (u := .ref l) rfl
    rw [← e, q]
    exact EqAt.same _
  · exact EqAt.of_refs hlb (rcT rs1 rs2 rv1 rv2 p1 p2 hu he)
theorem eqL (I : Inv X pins σ H s) {l b : Addr} {vs ws : List V} {ds es : List PyData} {us xs : List Value} {A : Around} (h1 : SqL X.K H l vs) (h2 : SqL X.K H b ws) (rs1 : Reps X.K H vs ds) (rs2 : Reps X.K H ws es) (rv1 : Vals vs us) (rv2 : Vals ws xs) (p1 : s.heap.IsList l us.toArray) (p2 : s.heap.IsList b xs.toArray) (hu : A.units < cLine)
    (he : ∀ j (h1 : j < us.length) (h2 : j < xs.length), EqAt A.in1 s us[j] xs[j] (pdEq (ds.getD j .none) (es.getD j .none))) : EqAt A s (.ref l) (.ref b) (pdEq (.list ds) (.list es)) := by
  by_cases hlb : l = b
  · subst hlb
    obtain ⟨e, q⟩ := Rep.fn I (.lst h1 rs1) (.lst h2 rs2) (u := .ref l) rfl
    rw [← e, q]
    exact EqAt.same _
  · exact EqAt.of_refs hlb (rcL rs1 rs2 rv1 rv2 p1 p2 hu he)
theorem hu00 {A : Around} {n : Nat} (h : A.units + n < cLine) : A.units < cLine := by omega
theorem hu0 {A : Around} {n : Nat} (h : A.units + (n + 1) < cLine) : A.units < cLine := by omega
theorem hu1 {A : Around} {n : Nat} (h : A.units + (n + 1) < cLine) : A.in1.units + n < cLine := by show A.units + 1 + n < cLine; omega
mutual
theorem eq_at (I : Inv X pins σ H s) : ∀ {v w : V} {d e : PyData} {u x : Value} {A : Around}, Rep X.K H v d → Rep X.K H w e → RelV v u → RelV w x → A.units + pdDep d < cLine → EqAt A s u x (pdEq d e)
  | _, _, _, _, u, x, A, .non, .non, r1, r2, hu => by
    cases (show u = Value.none from r1)
    cases (show x = Value.none from r2)
    exact EqAt.same _
  | _, _, _, _, u, x, A, .non, .bl b2, r1, r2, hu => by
    cases (show u = Value.none from r1)
    cases (show x = Value.bool b2 from r2)
    exact EqAt.none_bool b2
  | _, _, _, _, u, x, A, .non, .int i2, r1, r2, hu => by
    cases (show u = Value.none from r1)
    obtain ⟨t2, e2⟩ := (show ∃ t, x = Value.int i2 t from r2); subst e2
    exact EqAt.none_int i2 t2
  | _, _, _, _, u, x, A, .non, .str y2, r1, r2, hu => by
    cases (show u = Value.none from r1)
    obtain ⟨t2, e2⟩ := (show ∃ t, x = Value.str y2 t from r2); subst e2
    exact EqAt.none_str y2 t2
  | _, _, _, _, u, x, A, .non, .lst h2 rs2, r1, r2, hu => by
    cases (show u = Value.none from r1)
    cases (show x = Value.ref _ from r2); obtain ⟨its2, rv2, p2, _⟩ := I.list h2
    exact EqAt.none_list p2.isList (hu00 hu)
  | _, _, _, _, u, x, A, .non, .tup h2 rs2, r1, r2, hu => by
    cases (show u = Value.none from r1)
    cases (show x = Value.ref _ from r2); obtain ⟨its2, rv2, p2, _⟩ := I.tuple h2
    exact EqAt.none_tuple p2 (hu00 hu)
  | _, _, _, _, u, x, A, .bl b1, .non, r1, r2, hu => by
    cases (show u = Value.bool b1 from r1)
    cases (show x = Value.none from r2)
    exact EqAt.bool_none b1
  | _, _, _, _, u, x, A, .bl b1, .bl b2, r1, r2, hu => by
    cases (show u = Value.bool b1 from r1)
    cases (show x = Value.bool b2 from r2)
    exact EqAt.bool_bool b1 b2
  | _, _, _, _, u, x, A, .bl b1, .int i2, r1, r2, hu => by
    cases (show u = Value.bool b1 from r1)
    obtain ⟨t2, e2⟩ := (show ∃ t, x = Value.int i2 t from r2); subst e2
    exact EqAt.bool_int b1 i2 t2
  | _, _, _, _, u, x, A, .bl b1, .str y2, r1, r2, hu => by
    cases (show u = Value.bool b1 from r1)
    obtain ⟨t2, e2⟩ := (show ∃ t, x = Value.str y2 t from r2); subst e2
    exact EqAt.bool_str b1 y2 t2
  | _, _, _, _, u, x, A, .bl b1, .lst h2 rs2, r1, r2, hu => by
    cases (show u = Value.bool b1 from r1)
    cases (show x = Value.ref _ from r2); obtain ⟨its2, rv2, p2, _⟩ := I.list h2
    exact EqAt.bool_list b1 p2.isList (hu00 hu)
  | _, _, _, _, u, x, A, .bl b1, .tup h2 rs2, r1, r2, hu => by
    cases (show u = Value.bool b1 from r1)
    cases (show x = Value.ref _ from r2); obtain ⟨its2, rv2, p2, _⟩ := I.tuple h2
    exact EqAt.bool_tuple b1 p2 (hu00 hu)
  | _, _, _, _, u, x, A, .int i1, .non, r1, r2, hu => by
    obtain ⟨t1, e1⟩ := (show ∃ t, u = Value.int i1 t from r1); subst e1
    cases (show x = Value.none from r2)
    exact EqAt.int_none i1 t1
  | _, _, _, _, u, x, A, .int i1, .bl b2, r1, r2, hu => by
    obtain ⟨t1, e1⟩ := (show ∃ t, u = Value.int i1 t from r1); subst e1
    cases (show x = Value.bool b2 from r2)
    exact EqAt.int_bool i1 t1 b2
  | _, _, _, _, u, x, A, .int i1, .int i2, r1, r2, hu => by
    obtain ⟨t1, e1⟩ := (show ∃ t, u = Value.int i1 t from r1); subst e1
    obtain ⟨t2, e2⟩ := (show ∃ t, x = Value.int i2 t from r2); subst e2
    exact EqAt.int_int i1 t1 i2 t2
  | _, _, _, _, u, x, A, .int i1, .str y2, r1, r2, hu => by
    obtain ⟨t1, e1⟩ := (show ∃ t, u = Value.int i1 t from r1); subst e1
    obtain ⟨t2, e2⟩ := (show ∃ t, x = Value.str y2 t from r2); subst e2
    exact EqAt.int_str i1 t1 y2 t2
  | _, _, _, _, u, x, A, .int i1, .lst h2 rs2, r1, r2, hu => by
    obtain ⟨t1, e1⟩ := (show ∃ t, u = Value.int i1 t from r1); subst e1
    cases (show x = Value.ref _ from r2); obtain ⟨its2, rv2, p2, _⟩ := I.list h2
    exact EqAt.int_list i1 t1 p2.isList (hu00 hu)
  | _, _, _, _, u, x, A, .int i1, .tup h2 rs2, r1, r2, hu => by
    obtain ⟨t1, e1⟩ := (show ∃ t, u = Value.int i1 t from r1); subst e1
    cases (show x = Value.ref _ from r2); obtain ⟨its2, rv2, p2, _⟩ := I.tuple h2
    exact EqAt.int_tuple i1 t1 p2 (hu00 hu)
  | _, _, _, _, u, x, A, .str y1, .non, r1, r2, hu => by
    obtain ⟨t1, e1⟩ := (show ∃ t, u = Value.str y1 t from r1); subst e1
    cases (show x = Value.none from r2)
    exact EqAt.str_none y1 t1
  | _, _, _, _, u, x, A, .str y1, .bl b2, r1, r2, hu => by
    obtain ⟨t1, e1⟩ := (show ∃ t, u = Value.str y1 t from r1); subst e1
    cases (show x = Value.bool b2 from r2)
    exact EqAt.str_bool y1 t1 b2
  | _, _, _, _, u, x, A, .str y1, .int i2, r1, r2, hu => by
    obtain ⟨t1, e1⟩ := (show ∃ t, u = Value.str y1 t from r1); subst e1
    obtain ⟨t2, e2⟩ := (show ∃ t, x = Value.int i2 t from r2); subst e2
    exact EqAt.str_int y1 t1 i2 t2
  | _, _, _, _, u, x, A, .str y1, .str y2, r1, r2, hu => by
    obtain ⟨t1, e1⟩ := (show ∃ t, u = Value.str y1 t from r1); subst e1
    obtain ⟨t2, e2⟩ := (show ∃ t, x = Value.str y2 t from r2); subst e2
    exact EqAt.str_str y1 t1 y2 t2
  | _, _, _, _, u, x, A, .str y1, .lst h2 rs2, r1, r2, hu => by
    obtain ⟨t1, e1⟩ := (show ∃ t, u = Value.str y1 t from r1); subst e1
    cases (show x = Value.ref _ from r2); obtain ⟨its2, rv2, p2, _⟩ := I.list h2
    exact EqAt.str_list y1 t1 p2.isList (hu00 hu)
  | _, _, _, _, u, x, A, .str y1, .tup h2 rs2, r1, r2, hu => by
    obtain ⟨t1, e1⟩ := (show ∃ t, u = Value.str y1 t from r1); subst e1
    cases (show x = Value.ref _ from r2); obtain ⟨its2, rv2, p2, _⟩ := I.tuple h2
    exact EqAt.str_tuple y1 t1 p2 (hu00 hu)
  | _, _, _, _, u, x, A, .lst h1 rs1, .non, r1, r2, hu => by
    cases (show u = Value.ref _ from r1); obtain ⟨its1, rv1, p1, _⟩ := I.list h1
    cases (show x = Value.none from r2)
    exact EqAt.list_none p1.isList (hu00 hu)
  | _, _, _, _, u, x, A, .lst h1 rs1, .bl b2, r1, r2, hu => by
    cases (show u = Value.ref _ from r1); obtain ⟨its1, rv1, p1, _⟩ := I.list h1
    cases (show x = Value.bool b2 from r2)
    exact EqAt.list_bool b2 p1.isList (hu00 hu)
  | _, _, _, _, u, x, A, .lst h1 rs1, .int i2, r1, r2, hu => by
    cases (show u = Value.ref _ from r1); obtain ⟨its1, rv1, p1, _⟩ := I.list h1
    obtain ⟨t2, e2⟩ := (show ∃ t, x = Value.int i2 t from r2); subst e2
    exact EqAt.list_int i2 t2 p1.isList (hu00 hu)
  | _, _, _, _, u, x, A, .lst h1 rs1, .str y2, r1, r2, hu => by
    cases (show u = Value.ref _ from r1); obtain ⟨its1, rv1, p1, _⟩ := I.list h1
    obtain ⟨t2, e2⟩ := (show ∃ t, x = Value.str y2 t from r2); subst e2
    exact EqAt.list_str y2 t2 p1.isList (hu00 hu)
  | _, _, _, _, u, x, A, .lst h1 rs1, .lst h2 rs2, r1, r2, hu => by
    cases (show u = Value.ref _ from r1); obtain ⟨its1, rv1, p1, _⟩ := I.list h1
    cases (show x = Value.ref _ from r2); obtain ⟨its2, rv2, p2, _⟩ := I.list h2
    exact eqL I h1 h2 rs1 rs2 rv1 rv2 p1.isList p2.isList (hu0 hu) (eqs_at I rs1 rs2 rv1 rv2 (hu1 hu))
  | _, _, _, _, u, x, A, .lst h1 rs1, .tup h2 rs2, r1, r2, hu => by
    cases (show u = Value.ref _ from r1); obtain ⟨its1, rv1, p1, _⟩ := I.list h1
    cases (show x = Value.ref _ from r2); obtain ⟨its2, rv2, p2, _⟩ := I.tuple h2
    exact EqAt.list_tuple p1.isList p2 (hu00 hu)
  | _, _, _, _, u, x, A, .tup h1 rs1, .non, r1, r2, hu => by
    cases (show u = Value.ref _ from r1); obtain ⟨its1, rv1, p1, _⟩ := I.tuple h1
    cases (show x = Value.none from r2)
    exact EqAt.tuple_none p1 (hu00 hu)
  | _, _, _, _, u, x, A, .tup h1 rs1, .bl b2, r1, r2, hu => by
    cases (show u = Value.ref _ from r1); obtain ⟨its1, rv1, p1, _⟩ := I.tuple h1
    cases (show x = Value.bool b2 from r2)
    exact EqAt.tuple_bool b2 p1 (hu00 hu)
  | _, _, _, _, u, x, A, .tup h1 rs1, .int i2, r1, r2, hu => by
    cases (show u = Value.ref _ from r1); obtain ⟨its1, rv1, p1, _⟩ := I.tuple h1
    obtain ⟨t2, e2⟩ := (show ∃ t, x = Value.int i2 t from r2); subst e2
    exact EqAt.tuple_int i2 t2 p1 (hu00 hu)
  | _, _, _, _, u, x, A, .tup h1 rs1, .str y2, r1, r2, hu => by
    cases (show u = Value.ref _ from r1); obtain ⟨its1, rv1, p1, _⟩ := I.tuple h1
    obtain ⟨t2, e2⟩ := (show ∃ t, x = Value.str y2 t from r2); subst e2
    exact EqAt.tuple_str y2 t2 p1 (hu00 hu)
  | _, _, _, _, u, x, A, .tup h1 rs1, .lst h2 rs2, r1, r2, hu => by
    cases (show u = Value.ref _ from r1); obtain ⟨its1, rv1, p1, _⟩ := I.tuple h1
    cases (show x = Value.ref _ from r2); obtain ⟨its2, rv2, p2, _⟩ := I.list h2
    exact EqAt.tuple_list p1 p2.isList (hu00 hu)
  | _, _, _, _, u, x, A, .tup h1 rs1, .tup h2 rs2, r1, r2, hu => by
    cases (show u = Value.ref _ from r1); obtain ⟨its1, rv1, p1, _⟩ := I.tuple h1
    cases (show x = Value.ref _ from r2); obtain ⟨its2, rv2, p2, _⟩ := I.tuple h2
    exact eqT I h1 h2 rs1 rs2 rv1 rv2 p1 p2 (hu0 hu) (eqs_at I rs1 rs2 rv1 rv2 (hu1 hu))
theorem eqs_at (I : Inv X pins σ H s) : ∀ {vs ws : List V} {ds es : List PyData} {us xs : List Value} {A : Around}, Reps X.K H vs ds → Reps X.K H ws es → Vals vs us → Vals ws xs → A.units + pdDeps ds < cLine →
    ∀ j (h1 : j < us.length) (h2 : j < xs.length), EqAt A s us[j] xs[j] (pdEq (ds.getD j .none) (es.getD j .none))
  | _, _, _, _, _, _, _, .nil, _, .nil, _, _, j, h1, _ => absurd h1 (Nat.not_lt_zero _)
  | _, _, _, _, _, _, _, .cons _ _, .nil, .cons _ _, .nil, _, j, _, h2 => absurd h2 (Nat.not_lt_zero _)
  | _, _, _, _, _, _, _, .cons a b, .cons c d, .cons r rs, .cons t ts, hu, 0, _, _ => eq_at I a c r t (by simp only [pdDeps] at hu; simp only [List.getD_cons_zero]; omega)
  | _, _, _, _, _, _, _, .cons a b, .cons c d, .cons r rs, .cons t ts, hu, j + 1, h1, h2 => eqs_at I b d rs ts (by simp only [pdDeps] at hu; omega) j (by simpa using h1) (by simpa using h2)
end
end
end L2

set_option Elab.async false
set_option linter.all false
set_option maxRecDepth 100000
set_option maxHeartbeats 4000000
namespace L2
open PySem PySem.Spec PyProof.Rows PySem.SeqAt
section
variable {X : Cx}
/-! ### == and != of data -/
/-! ### isinstance -/
/-! ### all, any of a list of bools -/
theorem bools_of {xs : List V} {us : List Value} : ∀ {bs : List Bool}, xs = bs.map V.bl → Vals xs us → us = bs.map Value.bool := by
  intro bs e r
  induction bs generalizing xs us with
  | nil => subst e; cases r; rfl
  | cons b t ih =>
    subst e
    cases r with
    | cons r1 r => rw [List.map_cons, ih rfl r, (show _ = Value.bool b from r1)]
theorem range_all (bs : List Bool) : (List.range bs.length).all (fun i => bs.getD i false) = bs.all id := by
  induction bs with
  | nil => rfl
  | cons b t ih => rw [List.length_cons, List.range_succ_eq_map, List.all_cons, List.all_map, List.all_cons, ← ih]; rfl
theorem truth_bools {P : Program} {w : World} {A : Around} {bs : List Bool} : TruthOf P w A (fun i v => ((bs.map Value.bool).toArray)[i]? = some v) fun i => bs.getD i false := fun i v s Q E hP hQ => by
  dsimp only at hP hQ
  rw [List.getElem?_toArray, List.getElem?_map] at hP
  cases e : bs[i]? with
  | none => rw [e] at hP; cases hP
  | some b =>
    rw [e] at hP
    cases hP
    rw [List.getD_eq_getElem?_getD, e] at hQ
    exact wpAny_pure hQ
def rAllB (K : PySem.W.Frag) (f : List Bool → Bool) : List V → Hp → VK → Prop := fun xs H Q => ∃ a bs, xs = [.ref a] ∧ SqL K H a (bs.map V.bl) ∧ Q (.bl (f bs)) H
theorem call_allB (hh : X.calm = true) : CallR X (.builtin "all") (rAllB X.K fun bs => bs.all id) := by
  intro pins s σ H xs us Q I r h
  obtain ⟨a, bs, rfl, hq, q⟩ := h
  cases r with
  | cons r1 r =>
    cases r
    cases (show _ = Value.ref a from r1)
    obtain ⟨its, rv, p, hz⟩ := I.list hq
    have e := bools_of rfl rv
    subst e
    refine PySem.call_all_walk (wpAny_pyIter_list p.isList ?_)
    have hne : a ≠ s.heap.objs.size := (by obtain ⟨o, ho, _⟩ := p.isList; exact Nat.ne_of_lt (Heap.lt_size ho))
    refine ⟨s.heap.objs.size, _, _, _, _, _, _, rfl, Walks.list (A := X.A.in1) (I.ok.hd hh) s.heap.objs.size a hne (bs.map Value.bool).toArray, ⟨⟨_, Heap.get?_push_size _ rfl, rfl, rfl⟩, ?_⟩, truth_bools, fun h' tk hk => ?_⟩
    · obtain ⟨o, ho, hc, n, hd⟩ := p.isList
      exact ⟨o, Heap.get?_push_of_some _ ho, hc, n, hd⟩
    · rw [List.size_toArray, List.length_map, range_all]
      exact ⟨.bl _, H, I.kept fun b o e => hk b o (by simp; exact Nat.ne_of_lt (Heap.lt_size e)) (Heap.get?_push_of_some _ e), rfl, q⟩
/-! ### texts -/
end
/-- how a comprehension's scope lies over a def's: to be decided -/
structure CompS (osc : Scope) (N : List Str) (scope : Scope) (own : List Str) (js : List Nat) (N' : List Str) : Prop where
  kind : scope.kind = .function
  nocell : ∀ y ∈ scope.names, y.2 ≠ .cell
  names : ∀ y ∈ scope.names, y.2 = .local → scope.names.lookup y.1 = some .local
  free : ∀ y ∈ scope.names, y.2 = .free → osc.names.lookup y.1 = some .cell ∨ osc.names.lookup y.1 = some .free
  nm : N' = own ++ js.map fun j => N.getD j Str.empty
  fr : ∀ j ∈ js, j < N.length ∧ (N.getD j Str.empty, NameKind.free) ∈ scope.names ∧ ∀ y ∈ scope.names, y.1 = N.getD j Str.empty → y.2 = .free
theorem CompScope.of {X : Cx} {osc scope : Scope} {N own N' : List Str} {js : List Nat} (h1 : X.env.scope = osc) (h2 : X.N = N) (h : CompS osc N scope own js N') : CompScope X scope own js N' := by
  subst h1 h2
  exact ⟨h.kind, h.nocell, h.names, h.free, h.nm, fun j hj => ⟨(h.fr j hj).1, (h.fr j hj).2.1, fun k hk => (h.fr j hj).2.2 _ hk rfl⟩⟩
theorem ifT {c : Bool} {A B : Prop} (h : c = true) (q : A) : if c = true then A else B := by rw [if_pos h]; exact q
theorem ifF {c : Bool} {A B : Prop} (h : c = false) (q : B) : if c = true then A else B := by rw [if_neg (by rw [h]; exact Bool.false_ne_true)]; exact q
section
variable {X : Cx} {a b c d : Expr} {ta tb tc td : TE} {pos : Pos}
end
end L2

set_option Elab.async false
set_option linter.all false
set_option maxRecDepth 100000
set_option maxHeartbeats 4000000
namespace L2
open PySem PySem.Spec PyProof.Rows PySem.SeqAt
/-! ### f-strings -/
abbrev TF := Str → St → Hp → VK → Prop
def PF (X : Cx) (es : List Expr) (t : TF) : Prop :=
  ∀ (out : Str) (pins : List (Addr × Obj)) (s : Shared) (σ : St) (H : Hp) (Q : VK), Inv X pins σ H s → t out σ H Q → wpAny (model X.prog X.w) X.A (joinParts out (evalEach es X.env)) (EP X pins σ Q) X.xe s
/-- what a field shows: a text itself, an int's figures -/
def FmtV (x : V) (y : Str) : Prop := (x = .str y ∧ y.length ≤ sizeLine) ∨ ∃ i : Int, x = .int i ∧ i.natAbs.log2 < 1920 ∧ y = Str.ofString (toString i)
section
variable {X : Cx} {es : List Expr} {t : TF} {e : Expr} {te : TE} {pos : Pos}
theorem pf_nil : PF X [] (fun out _ H Q => out.length ≤ sizeLine ∧ Q (.str out) H) := fun out pins s σ H Q I h => joinParts_nil ⟨.str out, H, I.tok _, ⟨_, rfl⟩, h.2⟩ h.1
theorem pf_txt {x : Str} {j : Nat} (hr : PF X es t) (hs : evalEach (.Constant (.str x) j pos :: es) X.env = eval (.Constant (.str x) j pos) X.env :: evalEach es X.env := by rfl) :
    PF X (.Constant (.str x) j pos :: es) (fun out σ H Q => (out ++ x).length ≤ sizeLine ∧ t (out ++ x) σ H Q) := by
  intro out pins s σ H Q I h
  rw [hs]
  exact joinParts_cons (Calls.Constant_str ⟨h.1, hr (out ++ x) pins _ σ H Q (I.tok _) h.2⟩)
theorem pf_val (he : PE X e te) (hr : PF X es t) (hs : evalEach (.FormattedValue e (-1) none pos :: es) X.env = eval (.FormattedValue e (-1) none pos) X.env :: evalEach es X.env := by rfl) :
    PF X (.FormattedValue e (-1) none pos :: es) (fun out σ H Q => te σ H fun x H1 => ∃ y, FmtV x y ∧ (out ++ y).length ≤ sizeLine ∧ t (out ++ y) σ H1 Q) := by
  intro out pins s σ H Q I h
  rw [hs]
  refine joinParts_cons (FormattedValue_plain (thn (he pins s σ H _ I h) fun v s1 ⟨x, H1, I1, r1, y, fm, hl, q⟩ => ?_))
  rcases fm with ⟨rfl, hy⟩ | ⟨i, rfl, hi, rfl⟩
  · obtain ⟨tk, rfl⟩ := r1
    exact formatField_str (fun t' tk => ⟨hl, hr _ pins _ σ H1 Q (I1.tok tk) q⟩) hy
  · obtain ⟨tk, rfl⟩ := r1
    exact formatField_int_small hi ⟨hl, hr _ pins _ σ H1 Q (I1.tok _) q⟩
def tFstr (t : TF) : TE := fun σ H Q => t Str.empty σ H Q
theorem pe_fstr {e1 e2 : Expr} (h : PF X (e1 :: e2 :: es) t) (hs : evalEach (e1 :: e2 :: es) X.env = eval e1 X.env :: eval e2 X.env :: evalEach es X.env := by rfl) : PE X (.JoinedStr (e1 :: e2 :: es) pos) (tFstr t) := by
  intro pins s σ H Q I hw
  refine JoinedStr_many ?_
  rw [← hs]
  exact h _ pins s σ H Q I hw
end
end L2

set_option Elab.async false
set_option linter.all false
set_option maxRecDepth 100000
set_option maxHeartbeats 4000000
namespace L2
open PySem PySem.Spec PyProof.Rows PySem.SeqAt
section
variable {X : Cx} {CX : CXT} {k : Nat} {f C : Addr} {fd : FuncData} {ps : List Str} {sp : Sp} {E : XK}
end
end L2

set_option Elab.async false
set_option linter.all false
set_option maxRecDepth 100000
set_option maxHeartbeats 4000000
namespace HT
open PySem PySem.Spec PyProof.Rows
section
variable {prog : Program} {w : World} {A : Around} {E : Value → Shared → Prop} {s : Shared}
end
end HT
namespace L2
open PySem PySem.Spec PyProof.Rows PySem.SeqAt
section
variable {X : Cx}
end
end L2

set_option Elab.async false
set_option linter.all false
set_option maxRecDepth 100000
set_option maxHeartbeats 4000000
namespace L2
open PySem PySem.Spec PyProof.Rows PySem.SeqAt
/-! ### repr of data -/
section
variable {X : Cx}
/-! ### isinstance of an own class -/
/-! ### x in [y], y an instance -/
end
section
variable {X : Cx} {CX : CXT} {k : Nat} {f C : Addr} {fd : FuncData} {ps : List Str} {sp : Sp} {E : XK}
/-! ### bool of an instance with __len__ -/
end
end L2

set_option Elab.async false
set_option linter.all false
set_option maxRecDepth 100000
set_option maxHeartbeats 4000000
namespace L2
open PySem PySem.Spec PyProof.Rows PySem.SeqAt
section
variable {X : Cx} {pins : List (Addr × Obj)} {σ : St} {H : Hp} {s : Shared} {h' : Heap}
/-! ### enumerate of a tuple -/
/-! ### list.index of texts -/
end
end L2

set_option Elab.async false
set_option linter.all false
set_option maxRecDepth 100000
set_option maxHeartbeats 4000000
namespace L2
open PySem PySem.Spec PyProof.Rows PySem.SeqAt
/-! ### exceptions: what is kept of one while it leaves frames -/
/-- an exception at e: its class, its own dict, its traceback (none yet, or a record that is not in flight); e and the record are not tracked, and were not in the heap g -/
def ExcOk (h : Heap) (H : Hp) (g : Heap) (e : Addr) (cls : Value) (dd : Option Addr) : Prop :=
  ∃ oe vs, h.get? e = some oe ∧ oe.cls = cls ∧ oe.dict = dd ∧ oe.data = .fields vs ∧ g.get? e = none ∧ H e = none ∧
    (vs[1]? = some .none ∨ ∃ T oT ts, vs[1]? = some (.ref T) ∧ T ≠ e ∧ h.get? T = some oT ∧ oT.data = .fields ts ∧ ts[3]? = some .none ∧ g.get? T = none ∧ H T = none)
theorem ExcOk.mono {h : Heap} {H : Hp} {g g' : Heap} {e : Addr} {cls : Value} {dd : Option Addr} (x : ExcOk h H g e cls dd) (hl : ∀ b, g.get? b = none → g'.get? b = none) : ExcOk h H g' e cls dd := by
  obtain ⟨oe, vs, h1, h2, h3, h4, h5, h6, h7⟩ := x
  refine ⟨oe, vs, h1, h2, h3, h4, hl _ h5, h6, ?_⟩
  rcases h7 with h7 | ⟨T, oT, ts, a, b, c, d, f, gT, i⟩
  · exact .inl h7
  · exact .inr ⟨T, oT, ts, a, b, c, d, f, hl _ gT, i⟩
theorem mapF_dict (f : Array Value → Array Value) (o : Obj) : (Obj.mapFields f o).dict = o.dict := by
  obtain ⟨c, d, da, sl⟩ := o
  cases da <;> rfl
section
variable {M : Model} {A : Around} {E : Value → Shared → Prop} {s : Shared}
/-- a new record of the traceback is written; what changed: e's own record (its first field but args), slots of frames -/
theorem entryX {base : Heap} {env : Env} {outer : List Env} {L e : Addr} {oe : Obj} {vs : Array Value} {head : Value} {hadNext : Bool} {Q : Unit → Shared → Prop} (hfr : A.frames = some (env :: outer)) (hl : s.heap.FunFrames base (env :: outer)) (hf : env.frame = some L)
    (he : s.heap.get? e = some oe) (hd : oe.data = .fields vs) (hsz : 1 < vs.size)
    (h : ∀ (h' : Heap) (T : Addr) (oe' oT : Obj) (vs' ts : Array Value), s.heap.objs.size ≤ T → h'.get? e = some oe' → oe'.cls = oe.cls → oe'.dict = oe.dict → oe'.data = .fields vs' → vs'[1]? = some (.ref T) → h'.get? T = some oT → oT.data = .fields ts → ts[3]? = some .none →
      (∀ b o, b ≠ e → b ∉ (env :: outer).filterMap (·.frame) → s.heap.get? b = some o → h'.get? b = some o) → (∀ b o, b ≠ e → s.heap.get? b = some o → ∃ sl, h'.get? b = some { o with slots := sl }) → Q () { s with heap := h' }) :
    wpAny M A (do let a ← frameOf env; let pl ← entryPlaceOf L hadNext; let b ← EntryCells.newEntry head a .none (rawInt L) .none pl; setField (.ref e) 1 b) (fun _ s' => wpAny M A (setFlight (.ref e) none) Q E s') E s := by
  have hene : e ∉ (env :: outer).filterMap (·.frame) := fun hm => by
    obtain ⟨_, o, ho, hnf⟩ := hl.mem hm
    rw [he] at ho
    cases ho
    exact hnf vs hd
  refine wpAny_bind (wpAny_frameOf_fun hfr hl hf fun g hs => wpAny_bind (wpAny_entryPlaceOf fun pl hpl => ?_))
  unfold EntryCells.newEntry newFields
  refine wpAny_bind (wpAny_newObj_type ?_ (hpl.sizeOk5 _ _ _ _ _))
  have ge : g.get? e = some oe := (hs.2.1 e hene).trans he
  generalize hto : ([head, .ref L, .none, rawInt L, .none] ++ (if pl.isEmpty then List.replicate 6 Value.none else pl)).toArray = tv
  have t3 : 3 < tv.size := by
    rw [← hto]
    simp only [List.size_toArray, List.length_append, List.length_cons, List.length_nil]
    omega
  have pe := Heap.get?_push_of_some (h := g) { cls := .type "traceback", dict := none, data := .fields tv } ge
  refine wpAny_setField pe hd hsz ?_
  have ne : g.objs.size ≠ e := Nat.ne_of_gt (Heap.lt_size ge)
  have d3 := Obj.data_mapFields hd (·.setIfInBounds 1 (Value.ref g.objs.size))
  have e3 := Heap.get?_update_self (Obj.mapFields (·.setIfInBounds 1 (Value.ref g.objs.size))) pe (Obj.isFreed_of_fields d3)
  have T3 := (Heap.get?_update_other (g.push { cls := .type "traceback", dict := none, data := .fields tv }) (Obj.mapFields (·.setIfInBounds 1 (Value.ref g.objs.size))) (Ne.symm ne)).trans (Heap.get?_push_size g rfl)
  unfold setFlight
  refine wpAny_bind (wpAny_field e3 d3 (x := .ref g.objs.size) (by simp [hsz]) ?_)
  rw [if_pos (show (Value.ref g.objs.size != Value.none) = true by simp)]
  refine wpAny_setField T3 rfl t3 ?_
  have hgz : s.heap.objs.size ≤ g.objs.size := Nat.le_of_eq hs.1.symm
  have keep : ∀ b o, b ≠ e → g.get? b = some o → (((g.push { cls := .type "traceback", dict := none, data := .fields tv }).update e (Obj.mapFields (·.setIfInBounds 1 (Value.ref g.objs.size)))).update g.objs.size (Obj.mapFields (·.setIfInBounds 3 ((none : Option Addr).elim Value.none fun f => rawInt f)))).get? b = some o := fun b o hb hg => by
    rw [Heap.get?_update_other _ _ (Nat.ne_of_gt (Heap.lt_size hg)), Heap.get?_update_other _ _ (Ne.symm hb)]
    exact Heap.get?_push_of_some _ hg
  refine h _ g.objs.size _ _ _ _ hgz (by rw [Heap.get?_update_other _ _ ne]; exact e3) (Obj.cls_mapFields _ _) (mapF_dict _ _) d3 (by simp [hsz]) (Heap.get?_update_self _ T3 (Obj.isFreed_of_fields (Obj.data_mapFields rfl _))) (Obj.data_mapFields rfl _) (by simp [t3]) (fun b o hb hbf hbo => keep b o hb ((hs.2.1 b hbf).trans hbo)) fun b o hb hbo => ?_
  obtain ⟨sl, q⟩ := hs.2.2 b o hbo
  exact ⟨sl, keep b _ hb q⟩
end
section
variable {X : Cx} {pins : List (Addr × Obj)} {σ : St} {H : Hp} {s : Shared} {e : Addr} {cls : Value} {dd : Option Addr}
/-- an exception leaves the frame -/
theorem leaveX {A : Around} {Q : Unit → Shared → Prop} {E : Value → Shared → Prop} (I : Inv X pins σ H s) (hst : X.stack = X.env :: X.outer) (hfm : X.env.frame = some X.env.locals) (hfr : A.frames = some X.stack) (hex : X.ex = []) (x : ExcOk s.heap H X.s₀.heap e cls dd)
    (h : ∀ h', ExcOk h' H X.s₀.heap e cls dd → Un (frs X.outer) [] X.H₀ H X.s₀.heap h' → HOk X.prog X.w H h' → Q () { s with heap := h' }) : wpAny (model X.prog X.w) A (leaving X.env (.ref e)) Q E s := by
  have hl := I.stack
  rw [hst] at hfr hl
  obtain ⟨oe, vs, h1, h2, h3, h4, h5, h6, h7⟩ := x
  have free : ∀ b ∈ (X.env :: X.outer).filterMap (·.frame), H b = none := fun b hb => I.stkFree b (by rw [hst]; exact hb)
  -- from what changed to what is wanted
  have fin : ∀ (h' : Heap) (T : Addr) (oe' oT : Obj) (vs' ts : Array Value), X.s₀.heap.get? T = none → T ≠ e → H T = none → h'.get? e = some oe' → oe'.cls = oe.cls → oe'.dict = oe.dict → oe'.data = .fields vs' → vs'[1]? = some (.ref T) → h'.get? T = some oT → oT.data = .fields ts → ts[3]? = some .none →
      (∀ b o, b ≠ e → (H b ≠ none ∨ ∃ o₀, X.s₀.heap.get? b = some o₀) → b ∉ (X.env :: X.outer).filterMap (·.frame) → s.heap.get? b = some o → h'.get? b = some o) → (∀ b o, (∃ o₀, X.s₀.heap.get? b = some o₀) → s.heap.get? b = some o → ∃ sl, h'.get? b = some { o with slots := sl }) → Q () { s with heap := h' } := by
    intro h' T oe' oT vs' ts hT hTe hTn g1 g2 g3 g4 g5 g6 g7 g8 kp ks
    refine h h' ⟨oe', vs', g1, g2.trans h2, g3.trans h3, g4, h5, h6, .inr ⟨T, oT, ts, g5, hTe, g6, g7, g8, hT, hTn⟩⟩ ?_ ?_
    · have B := I.base
      rw [hex] at B
      have nl : ∀ b o, X.s₀.heap.get? b = some o → b < X.s₀.heap.objs.size := fun b o z => Heap.lt_size z
      have ninF : ∀ b, b < X.s₀.heap.objs.size → b ∉ frs X.outer → b ∉ (X.env :: X.outer).filterMap (·.frame) := fun b hb hn hm => by
        rw [List.filterMap_cons, hfm] at hm
        rcases List.mem_cons.mp hm with rfl | hm
        · exact absurd (Nat.lt_of_lt_of_le hb I.ok.above) (Nat.lt_irrefl _)
        · exact hn hm
      refine ⟨fun b o z n hb hx => kp b o (fun q => by subst q; rw [h5] at z; cases z) (.inr ⟨o, z⟩) (ninF b (nl b o z) hb) (B.keep b o z n hb hx), fun b o z n hb hx => ?_, B.free, fun b o z hx => ?_, B.tups, B.frzs, B.tbls⟩
      · obtain ⟨sl, q⟩ := B.slot b o z n hb hx
        obtain ⟨sl', q'⟩ := ks b _ ⟨o, z⟩ q
        exact ⟨sl', q'⟩
      · obtain ⟨o', q⟩ := B.there b o z hx
        obtain ⟨sl', q'⟩ := ks b _ ⟨o, z⟩ q
        exact ⟨_, q'⟩
    · intro b u hb
      refine (I.hok b u hb).stay (fun c v hc q => kp c v ?_ (.inl ?_) ?_ q) (fun _ q => q) fun _ _ q => q
      · rintro rfl
        rcases hc with rfl | z
        · rw [h6] at hb; cases hb
        · rw [h6] at z; cases z
      · rcases hc with rfl | z
        · rw [hb]; simp
        · rw [z]; simp
      · intro hm
        have := free c hm
        rcases hc with rfl | z
        · rw [this] at hb; cases hb
        · rw [this] at z; cases z
  unfold leaving noteFrame
  simp only [hfm]
  rcases h7 with h7 | ⟨T, oT, ts, t1, t2, t3, t4, t5, t6, t7⟩
  · refine wpAny_bind (wpAny_bind (wpAny_field h1 h4 h7 ?_))
    rw [if_neg (by decide)]
    refine entryX hfr hl hfm h1 h4 (Array.getElem?_eq_some_iff.mp h7).1 fun h' T oe' oT vs' ts hT g1 g2 g3 g4 g5 g6 g7 g8 kp ks => ?_
    have hTe : T ≠ e := fun q => by subst q; exact absurd (Nat.lt_of_lt_of_le (Heap.lt_size h1) hT) (Nat.lt_irrefl _)
    exact fin h' T oe' oT vs' ts (Heap.get?_none_of_le (Nat.le_trans I.sz hT)) hTe (I.hok.fresh hT) g1 g2 g3 g4 g5 g6 g7 g8 (fun b o hb _ hm z => kp b o hb hm z) fun b o hb z => ks b o (fun q => by subst q; obtain ⟨_, hb⟩ := hb; rw [h5] at hb; cases hb) z
  · refine wpAny_bind (wpAny_bind (wpAny_field h1 h4 t1 ?_))
    rw [if_pos (show (Value.ref T != Value.none) = true by simp)]
    refine wpAny_bind (wpAny_field t3 t4 t5 ?_)
    rw [if_neg (show ¬ ((Value.none == rawInt X.env.locals) = true) by simp [rawInt])]
    refine wpAny_bind (wpAny_setField t3 t4 (Array.getElem?_eq_some_iff.mp t5).1 ?_)
    have other : ∀ b, b ≠ T → (s.heap.update T (Obj.mapFields (·.setIfInBounds 3 Value.none))).get? b = s.heap.get? b := fun b hb => Heap.get?_update_other _ _ (Ne.symm hb)
    have noR : ∀ b o, s.heap.get? b = some o → (∀ vs, o.data ≠ .fields vs) → b ≠ T := fun b o hb hnf q => by
      subst q
      rw [t3] at hb
      cases hb
      exact hnf ts t4
    refine entryX (s := { s with heap := s.heap.update T (Obj.mapFields (·.setIfInBounds 3 Value.none)) }) hfr (hl.of_keeps fun b o hb hnf => ⟨o, (other b (noR b o hb hnf)).trans hb, rfl⟩) hfm ((other e (Ne.symm t2)).trans h1) h4 (Array.getElem?_eq_some_iff.mp t1).1 fun h' T' oe' oT' vs' ts' hT g1 g2 g3 g4 g5 g6 g7 g8 kp ks => ?_
    have hT' : s.heap.objs.size ≤ T' := by
      have z : (s.heap.update T (Obj.mapFields (·.setIfInBounds 3 Value.none))).objs.size = s.heap.objs.size := Heap.size_update _ _ _
      exact Nat.le_trans (Nat.le_of_eq z.symm) hT
    have hTe : T' ≠ e := fun q => by subst q; exact absurd (Nat.lt_of_lt_of_le (Heap.lt_size h1) hT') (Nat.lt_irrefl _)
    refine fin h' T' oe' oT' vs' ts' (Heap.get?_none_of_le (Nat.le_trans I.sz hT')) hTe (I.hok.fresh hT') g1 g2 g3 g4 g5 g6 g7 g8 (fun b o hb hq hm z => kp b o hb hm ((other b ?_).trans z)) fun b o hb z => ks b o (fun q => by subst q; obtain ⟨_, hb⟩ := hb; rw [h5] at hb; cases hb) ((other b ?_).trans z)
    · rintro rfl
      rcases hq with hq | hq
      · exact hq t7
      · obtain ⟨_, hq⟩ := hq
        rw [t6] at hq; cases hq
    · rintro rfl
      obtain ⟨_, hb⟩ := hb
      rw [t6] at hb; cases hb
end
/-- how an exception lies behind a call -/
def CX1 (P : Program) (w : World) : CXT := fun outer H s E e s' => ∃ (ea : Addr) (cls : Value) (dd : Option Addr) (H' : Hp), e = .ref ea ∧ s'.os = s.os ∧ AllBare s'.gens ∧ Un (frs outer) [] H H' s.heap s'.heap ∧ HOk P w H' s'.heap ∧ ExcOk s'.heap H' s.heap ea cls dd ∧ E cls dd H'
section
variable {P : Program} {w : World} {K : PySem.W.Frag} {mg : Str → Option Value} {base : Heap} {N : List Str} {qual : Str} {scope : Scope} {f : Addr} {cd : Value} {A : Around} {outer : List Env} {s : Shared} {H : Hp} {E : XK}
/-- an exception at hand in a def's body leaves it -/
theorem xe1 {pins : List (Addr × Obj)} {σ : St} {H' : Hp} {s' : Shared} {e : Addr} {cls : Value} {dd : Option Addr} (I : Inv (cxOf (CX1 P w) P w K mg base N qual scope f cd A outer s H E) pins σ H' s') (x : ExcOk s'.heap H' s.heap e cls dd) (h : E cls dd H') :
    (cxOf (CX1 P w) P w K mg base N qual scope f cd A outer s H E).xe (.ref e) s' :=
  leaveX I rfl rfl I.ok.frames rfl x fun h' x' u k => ⟨e, cls, dd, H', rfl, I.os, I.bare, u, k, x', h⟩
/-- a callee's exception goes on -/
theorem pass1 {E' : XK} (hE : ∀ cls dd H', E' cls dd H' → E cls dd H') : Passes (CX1 P w) (cxOf (CX1 P w) P w K mg base N qual scope f cd A outer s H E) E' := by
  intro pins σ H1 s1 e s' I h
  obtain ⟨ea, cls, dd, H', rfl, os, bare, un, hok, x, q⟩ := h
  obtain ⟨hh, g, d, t, os'⟩ := s'
  obtain rfl : os' = s1.os := os
  have I' : Inv (cxOf (CX1 P w) P w K mg base N qual scope f cd A outer s H E) pins σ H' ⟨hh, g, d, t, s1.os⟩ := I.call (h' := hh) (g' := g) (d' := d) (t' := t) (ch := []) un hok bare (fun b z => absurd z (by simp))
  refine xe1 I' (x.mono fun b hb => ?_) (hE _ _ _ q)
  cases z : s.heap.get? b with
  | none => rfl
  | some o =>
    obtain ⟨o', q'⟩ := I.base.there b o z (by intro hz; cases hz)
    rw [hb] at q'; cases q'
end
end L2

set_option Elab.async false
set_option linter.all false
set_option maxRecDepth 100000
set_option maxHeartbeats 4000000
namespace L2
open PySem PySem.Spec PyProof.Rows PySem.SeqAt PySem.W
/-! ### an exception of an own class is made -/
/-- what the written part must say of the class -/
def makesX (K : Frag) (C : Addr) (B newId : String) : Bool := match K.lookup C with
  | some ⟨_, _, .cls cd, sl⟩ => !cd.abstract && !cd.hasDel && (sl.toList[4]?).join == some (.builtin newId) && !cd.mro.isEmpty && cd.mro.contains (.ref C) && cd.mro.contains (.type B) && cd.mro.contains (.type "BaseException") && !cd.mro.contains (.type "AttributeError") && !cd.mro.contains (.type "NameError") &&
      specialIn K (.ref C) "__call__" == some (some (.builtin "type.__call__")) && instIn K (.ref C) (.type "type") == some true
  | _ => false
structure MakesX (M : Model) (h : Heap) (C : Addr) (B newId : String) : Prop where
  obj : ∃ oc od cd sl, h.get? C = some ⟨oc, od, .cls cd, sl⟩ ∧ cd.abstract = false ∧ cd.hasDel = false ∧ cd.mro.isEmpty = false
  made : Looks M h (Bind.madeBy (.ref C)) (some newId)
  base : Looks M h (Bind.staticBase (.ref C)) (.ref C)
  self : Looks M h (isSubtype (.ref C) (.ref C)) true
  isB : Looks M h (isSubtype (.ref C) (.type B)) true
  isE : Looks M h (isSubtype (.ref C) (.type "BaseException")) true
  noA : Looks M h (isSubtype (.ref C) (.type "AttributeError")) false
  noN : Looks M h (isSubtype (.ref C) (.type "NameError")) false
  call : Looks M h (specialOf (.ref C) "__call__") (some (.builtin "type.__call__"))
  typ : Looks M h (isInstance (.ref C) (.type "type")) true
theorem makesX_of {K : Frag} {M : Model} {h : Heap} (X : K.In h) {C : Addr} {B newId : String} (e : makesX K C B newId = true) : MakesX M h C B newId := by
  unfold makesX at e
  split at e
  · rename_i oc od cd sl ho
    simp only [Bool.and_eq_true, Bool.not_eq_true', beq_iff_eq] at e
    obtain ⟨⟨⟨⟨⟨⟨⟨⟨⟨⟨e1, e2⟩, e3⟩, e4⟩, e5⟩, e6⟩, e7⟩, e8⟩, e9⟩, e10⟩, e11⟩ := e
    have hc : clsIn K C = some cd := by unfold clsIn; rw [ho]
    have hm : Looks M h (mroOf (.ref C)) cd.mro := (looks_clsIn X hc).andThen .now
    obtain ⟨c, l, hl⟩ : ∃ c l, cd.mro = c :: l := by
      cases q : cd.mro with
      | nil => rw [q] at e4; cases e4
      | cons c l => exact ⟨c, l, rfl⟩
    have made : Looks M h (Bind.madeBy (.ref C)) (some newId) := by
      intro A Q E s k q
      unfold Bind.madeBy
      refine wpAny_bind (hm A _ E s k ?_)
      rw [hl, List.forIn_cons]
      refine wpAny_bind (wpAny_bind (wpAny_bind (wpAny_bind (wpAny_loadPart (k _ _ (X _ _ ho)) (wpAny_pure ?_)))))
      dsimp only
      rw [← Array.getElem?_toList, e3]
      exact wpAny_pure (wpAny_pure (wpAny_pure q))
    have sub : ∀ (v : Value) (b : Bool), cd.mro.contains v = b → Looks M h (isSubtype (.ref C) v) b := fun v b z => looks_mroIn X (by unfold mroIn; rw [hc, Option.bind_some, if_neg (by rw [e4]; decide), z])
    refine ⟨⟨oc, od, cd, sl, X _ _ ho, e1, e2, e4⟩, made, ?_, sub _ _ e5, sub _ _ e6, sub _ _ e7, sub _ _ e8, sub _ _ e9, looks_specialIn X e10, looks_instIn X e11⟩
    intro A Q E s k q
    unfold Bind.staticBase
    refine wpAny_bind (hm A _ E s k ?_)
    rw [hl, List.forIn_cons]
    exact wpAny_bind (wpAny_bind (wpAny_bind (made A _ E s k (wpAny_pure (wpAny_pure (wpAny_pure q))))))
  · cases e
abbrev excNew (C t : Addr) : Obj := { cls := .ref C, data := .fields #[.ref t, .none, .none, .none, .bool false, .none] }
section
variable {prog : Program} {w : World} {A : Around} {C : Addr} {R : Result → Shared → Prop} {h : Heap} {g : Array GenState} {d : Drawn} {t : Nat} {os : OsState} {B newId initId : String} {bm : List Value}
theorem newX (F : ExcBaseFacts B newId initId bm) {rest : List Value} (Y : MakesX (model prog w) h C B newId) (hrest : rest.length ≤ sizeLine)
    (hq : R (.ok (.ret (.ref (h.objs.size + 1)))) ⟨(h.push { cls := .type "tuple", data := .seq rest.toArray }).push (excNew C h.objs.size), g, d, t, os⟩) :
    codeAny (model prog w) A (.call (.builtin newId) ⟨.ref C :: rest, []⟩) R ⟨h, g, d, t, os⟩ := by
  obtain ⟨⟨oc, od, cd, sl, hC, e1, e2, e4⟩, made, base, self, isB, isE, noA, noN, call, typ⟩ := Y
  have hstar := F.noStar
  have hends := F.ends
  refine codeAny_call_builtin_code (Code.quiet_builtin _ F.quiet) ?_
  simp only [checkBuiltinCall, F.newKind, F.newSplit, F.newRow]
  have here : Looks (model prog w) h (Bind.madeHere newId (.ref C)) () := base.andThen (made.andThen (Looks.of_pure (by simp only [Option.map_some, bne_self_eq_false, Bool.false_eq_true, if_false])))
  repeat (first | simp only [bne_self_eq_false, Bool.false_eq_true, if_false] | lk)
  repeat (first | wp_step)
  refine PySem.codeAny_builtinAt F.entry ?_
  unfold Builtin.«BaseException.__new__»
  refine PySem.wpAt_bind ?_
  show PySem.wpAt _ _ _ (stack >>= _) _ _ _
  refine PySem.wpAt_bind (PySem.wpAt_stack fun p below => PySem.wpAt_of_wpAny ?_)
  wp_walk
  refine PySem.wpAt_of_wpAny ?_
  rw [F.owner]
  have here2 : Looks (model prog w) h (Bind.madeHere "BaseException.__new__" (.ref C)) () := base.andThen (made.andThen (Looks.of_pure (by simp only [Option.map_some, F.canon, bne_self_eq_false, Bool.false_eq_true, if_false])))
  repeat (first | with_reducible refine here2.at ?_ | with_reducible refine isB.at ?_ | with_reducible refine noA.at ?_ | with_reducible refine noN.at ?_ | with_reducible refine wpAny_loadPart_at hC ?_ | wp_step)
  show R _ _
  rw [Heap.size_push]
  exact hq
theorem makeX_core (F : ExcBaseFacts B newId initId bm) {rest : List Value} {init : Value} (Y : MakesX (model prog w) h C B newId) (hi : Looks (model prog w) h (typeLookup (.ref C) "__init__") (some init)) (hb : ∀ self, Looks (model prog w) h (bindSpecial init self) (init, [self])) (hrest : rest.length ≤ sizeLine)
    (hq : codeAny (model prog w) (A.under (.builtin "type.__call__" ⟨.ref C :: rest, []⟩)) (.call init ⟨.ref (h.objs.size + 1) :: rest, []⟩) (InitBack (h.objs.size + 1) R) ⟨(h.push { cls := .type "tuple", data := .seq rest.toArray }).push (excNew C h.objs.size), g, d, t, os⟩) :
    codeAny (model prog w) A (.call (.ref C) ⟨rest, []⟩) R ⟨h, g, d, t, os⟩ := by
  have Y' := Y
  obtain ⟨⟨oc, od, cd, sl, hC, e1, e2, e4⟩, made, base, self, isB, isE, noA, noN, call, typ⟩ := Y
  refine codeAny_of_tree ?_
  show wpAny _ _ (callAny (.ref C) _) _ _ _
  refine nd_load hC ?_
  show wpAny _ _ (callAny.viaDunder (.ref C) _) _ _ _
  unfold callAny.viaDunder
  refine wpAny_bind (call.at ?_)
  dsimp only
  rw [tc_bind]
  refine wpAny_bind (wpAny_pure (wpAny_bind (wpAny_pure (wpAny_pure (a := Fin.again (.call (.builtin "type.__call__") ⟨.ref C :: rest, []⟩)) (And.intro rfl ?_)))))
  refine codeAny_call_builtin_at (Code.quiet_builtin _ (by decide +kernel)) entry_typeCall (check_slot tc_kind tc_split typ (tc_args _ _ _) ?_)
  unfold Builtin.«type.__call__»
  have hm : Looks (model prog w) h (mroOf (.ref C)) cd.mro := ((Looks.ld (part := none) hC).andThen .now).andThen .now
  repeat (first | simp only [e4, Bool.false_eq_true, if_false] | with_reducible refine wpAny_call ?_ | lk)
  refine newX F Y' hrest ?_
  have k : ∀ b o, h.get? b = some o → ((h.push { cls := .type "tuple", data := .seq rest.toArray }).push (excNew C h.objs.size)).get? b = some o := fun b o e => Heap.get?_push_of_some _ (Heap.get?_push_of_some _ e)
  have hx : ((h.push { cls := .type "tuple", data := .seq rest.toArray }).push (excNew C h.objs.size)).get? (h.objs.size + 1) = some (excNew C h.objs.size) := by
    have := Heap.get?_push_size (h.push { cls := .type "tuple", data := .seq rest.toArray }) (o := excNew C h.objs.size) rfl
    rwa [Heap.size_push] at this
  have t1 : Looks (model prog w) ((h.push { cls := .type "tuple", data := .seq rest.toArray }).push (excNew C h.objs.size)) (typeOf (.ref (h.objs.size + 1))) (.ref C) := (Looks.ld hx).andThen .now
  have s1 := self.keeps k
  have i1 := hi.keeps k
  have b1 := (hb (.ref (h.objs.size + 1))).keeps k
  unfold isInstance callSpecial? specialOf
  repeat (first | with_reducible refine wpAny_call ?_ | lk)
  refine codeAny_mono hq fun r s' z => ?_
  rcases r with e | (v | _ | _ | _) <;> first | exact z | exact z.elim | skip
  obtain ⟨rfl, z⟩ := z
  exact wpAny_pure (wpAny_pure z)
end
end L2

set_option Elab.async false
set_option linter.all false
set_option maxRecDepth 100000
set_option maxHeartbeats 4000000
namespace L2
open PySem PySem.Spec PyProof.Rows PySem.SeqAt PySem.W Builtin.ObjectAttr
/-! ### attributes of an exception -/
/-- the exception's own record, and its dict: tracked while it is made -/
def excO (e C : Addr) (dd : Option Addr) : HO := .ext fun h => ∃ a0 : Value, h.get? e = some { cls := .ref C, dict := dd, data := .fields #[a0, .none, .none, .none, .bool false, .none] }
def exD (da : Addr) (fs : List (Str × V)) : HO := .ext fun h => ∃ mA, h.Ns1 da mA ∧ (∀ f, RelO (fs.lookup f) (mA f)) ∧ PySem.Within mA (fs.map (·.1))
theorem excO_ok {P : Program} {w : World} {H : Hp} {h : Heap} {e C : Addr} {dd : Option Addr} {a0 : Value} (x : h.get? e = some { cls := .ref C, dict := dd, data := .fields #[a0, .none, .none, .none, .bool false, .none] }) : ObjOk P w H h e (excO e C dd) :=
  ⟨⟨a0, x⟩, ⟨_, x⟩, fun h1 h2 ⟨a, z⟩ k => ⟨a, k _ z⟩⟩
theorem exD_ok {P : Program} {w : World} {H : Hp} {h : Heap} {da : Addr} {fs : List (Str × V)} {mA : Str → Option Value} (x : h.Ns1 da mA) (r : ∀ f, RelO (fs.lookup f) (mA f)) (wi : PySem.Within mA (fs.map (·.1))) : ObjOk P w H h da (exD da fs) := by
  obtain ⟨o, es, ep, ho, rest⟩ := id x
  refine ⟨⟨mA, x, r, wi⟩, ⟨o, ho⟩, fun h1 h2 z k => ?_⟩
  obtain ⟨mB, ⟨o', es', ep', ho', rest'⟩, r', wi'⟩ := z
  exact ⟨mB, ⟨o', es', ep', k _ ho', rest'⟩, r', wi'⟩
theorem refuse_refs (self : Value) {bm : List Value} (hb : refuseLoop self "__setattr__" bm = pure ()) (hne : bm ≠ []) : ∀ (rs : List Addr), refuseLoop self "__setattr__" (rs.map Value.ref ++ bm) = pure ()
  | [] => hb
  | c :: r => by
    rw [List.map_cons, List.cons_append, refuseLoop_ref]
    exact refuse_refs self hb hne r
/-- what the written part says of the exception's class -/
structure XCls (K : Frag) (C : Addr) (B newId : String) : Prop where
  mks : makesX K C B newId = true
  sa : findIn K (.ref C) "__setattr__" = some (some (.builtin "object.__setattr__"))
  cd : ∃ (cd : ClassData) (rs : List Addr) (bm : List Value), clsIn K C = some cd ∧ cd.hasDict = true ∧ cd.mro = rs.map Value.ref ++ bm ∧ bm ≠ [] ∧ (∀ self, refuseLoop self "__setattr__" bm = pure ()) ∧ bm.contains (.type "object") = true
  kp : keepIn K (.ref C) = true
  ty : typeIn K (.ref C) = some (.type "type")
section
variable {prog : Program} {w : World} {A : Around} {R : Result → Shared → Prop} {s : Shared} {K : Frag} {x C : Addr} {name : Str}
theorem osaX {ox : Obj} {od : Option Obj} {tk : Tok} {v : Value} {B newId : String} (X : K.In s.heap) (I : InstAt s.heap x ox C od) (XC : XCls K C B newId) (ht : takerIn K C name = some none)
    (h : ∀ b, wpAny (model prog w) A.in1 (Builtin.ObjectAttr.storeInOwnDict (.ref x) (.ref C) (.str name tk) name v b) (fun fin s' => match fin with | .done f => R (.ok f) s' | .again c' => c'.quiet = true ∧ codeAny (model prog w) A c' R s') (fun e s' => R (.error e) s') s) :
    codeAny (model prog w) A (.call (.builtin "object.__setattr__") ⟨[.ref x, .str name tk, v], []⟩) R s := by
  have SF := PySem.F.store_object
  obtain ⟨cd, rs, bm, hc, hdct, hmro, hne, hrf, hob⟩ := XC.cd
  have ne : cd.mro.isEmpty = false := by
    rw [hmro]
    cases rs with
    | nil => cases bm with | nil => exact absurd rfl hne | cons _ _ => rfl
    | cons _ _ => rfl
  have hcon : cd.mro.contains (.type "object") = true := by
    rw [hmro, List.contains_eq_mem, decide_eq_true_eq]
    rw [List.contains_eq_mem, decide_eq_true_eq] at hob
    exact List.mem_append_right _ hob
  have sub : Looks (model prog w) s.heap (isInstance (.ref x) (.type "object")) true := I.type.andThen (looks_mroIn X (by unfold mroIn; rw [hc, Option.bind_some, if_neg (by rw [ne]; decide), hcon]))
  refine codeAny_call_builtin SF.slot.plain SF.entry (@check_slot (model prog w) _ _ s "object.__setattr__" "object" "__setattr__" (.ref x) [.str name tk, v] [] _ SF.kind SF.split sub (SF.args (.ref x) (.str name tk) v) ?_)
  obtain ⟨attr, ha, hr⟩ := Option.bind_eq_some_iff.mp ht
  have hm : Looks (model prog w) s.heap (mroOf (.ref C)) cd.mro := (looks_clsIn X hc).andThen .now
  have L3 : Looks (model prog w) s.heap (storeTaker? attr) none := by
    cases attr with
    | none => exact .now
    | some a =>
      obtain ⟨b, hb, q⟩ := Option.map_eq_some_iff.mp hr
      refine (looks_takesIn X hb).andThen ?_
      cases b with
      | false => exact .now
      | true => cases q
  rw [osa_eq, refuse_eq]
  refine wpAny_bind (wpAny_bind (I.type.here (wpAny_bind (hm.here ?_))))
  rw [hmro, refuse_refs _ (hrf _) hne]
  refine wpAny_pure (wpAny_bind (I.type.here (wpAny_bind ((looks_findIn X ha).here (wpAny_bind (L3.here ?_))))))
  exact h _
end
end L2

set_option Elab.async false
set_option linter.all false
set_option maxRecDepth 100000
set_option maxHeartbeats 4000000
namespace L2
open PySem PySem.Spec PyProof.Rows PySem.SeqAt PySem.W Builtin.ObjectAttr
section
variable {prog : Program} {w : World} {A : Around} {E : Value → Shared → Prop} {s : Shared} {K : Frag} {x C : Addr} {name : Str} {v : Value} {tk : Tok} {Q : Fin → Shared → Prop} {vs : Array Value} {sl : Array (Option Value)}
theorem storeX_new {cd : ClassData} {b : Bool} (X : K.In s.heap) (hx : s.heap.get? x = some ⟨.ref C, none, .fields vs, sl⟩) (hc : clsIn K C = some cd) (hd : cd.hasDict = true)
    (h : ∀ h', h'.Ns1 s.heap.objs.size (fun y => if y = name then some v else none) → h'.get? x = some ⟨.ref C, some s.heap.objs.size, .fields vs, sl⟩ → (∀ b o, b ≠ x → s.heap.get? b = some o → h'.get? b = some o) → Q (.done (.ret .none)) { s with heap := h', toks := s.toks + 1 }) :
    wpAny (model prog w) A (storeInOwnDict (.ref x) (.ref C) (.str name tk) name v b) Q E s := by
  unfold storeInOwnDict
  refine wpAny_bind (wpAny_pure (wpAny_bind (wpAny_bind (wpAny_loadPart hx (wpAny_bind (Looks.here (looks_clsIn X hc) ?_))))))
  rw [hd]
  have hx1 : (s.heap.push { cls := .type "dict", data := .dict #[] }).get? x = some ⟨.ref C, none, .fields vs, sl⟩ := Heap.get?_push_of_some _ hx
  have hxs : x ≠ s.heap.objs.size := Nat.ne_of_lt (Heap.lt_size hx)
  show wpAny _ _ (do
    let d ← alloc { cls := Value.type "dict", data := Data.dict #[] }
    update x fun o => { cls := o.cls, dict := some d, data := o.data, slots := o.slots }
    dictMade (Value.ref C) x d) _ _ _
  refine wpAny_bind (wpAny_alloc' (wpAny_bind (wpAny_update' hx1 ?_)))
  refine wpAny_pure ?_
  have hgd : ((s.heap.push { cls := .type "dict", data := .dict #[] }).update x fun o => { cls := o.cls, dict := some s.heap.objs.size, data := o.data, slots := o.slots }).get? s.heap.objs.size = some { cls := .type "dict", data := .dict #[] } := (Heap.get?_update_ne _ _ _ _ hxs.symm).trans (Heap.get?_push_at rfl rfl)
  have hnd : ((s.heap.push { cls := .type "dict", data := .dict #[] }).update x fun o => { cls := o.cls, dict := some s.heap.objs.size, data := o.data, slots := o.slots }).Ns s.heap.objs.size (fun _ => none) := ⟨_, #[], _, hgd, rfl, fun e he => absurd he (by simp), fun _ => rfl⟩
  show wpAny _ _ (storeInDict s.heap.objs.size (.str name tk) name v) _ _ _
  unfold storeInDict newKeyGuard
  refine wpAny_bind (wpAny_pure (wpAny_bind (wpAny_nsSet1 (s := { s with heap := _ }) (Heap.Ns1.of_empty hnd) fun h' hn' hs => ?_)))
  obtain ⟨oD, esD, epD, hoD, hdD, hcD⟩ := hn'.count (PySem.Within.cons name v PySem.Within.nil)
  refine wpAny_bind (wpAny_lookBehind hoD (by rw [hdD]; exact pastItsLine_dict (Nat.le_trans hcD (by rw [List.length_cons, List.length_nil, sizeLine_eq]; omega))) ?_)
  refine wpAny_pure (h h' hn' ?_ fun b o hb hbo => ?_)
  · exact (hs.2 x hxs).trans (Heap.get?_update_self _ hx1 rfl)
  · exact (hs.2 b (Nat.ne_of_lt (Heap.lt_size hbo))).trans ((Heap.get?_update_ne _ _ _ _ hb).trans (Heap.get?_push_of_some _ hbo))
theorem storeX_old {cd : ClassData} {b : Bool} {da : Addr} {mA : Str → Option Value} {ns : List Str} (X : K.In s.heap) (hx : s.heap.get? x = some ⟨.ref C, some da, .fields vs, sl⟩) (hc : clsIn K C = some cd) (hd : cd.hasDict = true) (hn : s.heap.Ns1 da mA) (hw : PySem.Within mA ns) (hz : ns.length < 1000)
    (h : ∀ h', h'.Ns1 da (fun y => if y = name then some v else mA y) → Heap.SameBut da s.heap h' → Q (.done (.ret .none)) { s with heap := h', toks := s.toks + 1 }) :
    wpAny (model prog w) A (storeInOwnDict (.ref x) (.ref C) (.str name tk) name v b) Q E s := by
  unfold storeInOwnDict
  refine wpAny_bind (wpAny_pure (wpAny_bind (wpAny_bind (wpAny_loadPart hx (wpAny_bind (Looks.here (looks_clsIn X hc) ?_))))))
  rw [hd]
  refine wpAny_pure (a := some da) ?_
  show wpAny _ _ (storeInDict da (.str name tk) name v) _ _ _
  unfold storeInDict newKeyGuard
  refine wpAny_bind (wpAny_pure (wpAny_bind (wpAny_nsSet1 hn fun h' hn' hs => ?_)))
  obtain ⟨oD, esD, epD, hoD, hdD, hcD⟩ := hn'.count (PySem.Within.cons name v hw)
  refine wpAny_bind (wpAny_lookBehind hoD (by rw [hdD]; exact pastItsLine_dict (Nat.le_trans hcD (by rw [List.length_cons, sizeLine_eq]; omega))) ?_)
  exact wpAny_pure (h h' hn' hs)
end
section
variable {X : Cx} {pins : List (Addr × Obj)} {σ : St} {H : Hp} {s : Shared} {e C : Addr} {f : Str} {B newId : String} {A : Around} {E : Value → Shared → Prop} {y : V} {u : Value} {Q : Unit → Shared → Prop}
theorem exc_at {dd : Option Addr} (I : Inv X pins σ H s) (he : H e = some (excO e C dd)) : ∃ a0, s.heap.get? e = some { cls := .ref C, dict := dd, data := .fields #[a0, .none, .none, .none, .bool false, .none] } := (show ObjOk X.prog X.w H s.heap e (excO e C dd) from I.hok e _ he).1
theorem setX_new (I : Inv X pins σ H s) (he : H e = some (excO e C none)) (XC : XCls X.K C B newId) (ht : takerIn X.K C f = some none) (ry : RelV y u)
    (h : ∀ da s', H da = none → Inv X pins σ (upd (upd H e (excO e C (some da))) da (exD da [(f, y)])) s' → Q () s') : wpAny (model X.prog X.w) A (setAttr (.ref e) f u) Q E s := by
  obtain ⟨a0, hx⟩ := exc_at I he
  have J : InstAt s.heap e _ C none := ⟨hx, rfl, rfl, True.intro⟩
  obtain ⟨cd, rs, bm, hc, hdct, _⟩ := XC.cd
  refine set_plain I.kIn J XC.sa (osaX (s := { s with toks := s.toks + 1 }) I.kIn J XC ht fun b => storeX_new (s := { s with toks := s.toks + 1 }) I.kIn hx hc hdct fun h' hn hx' hk => ?_)
  have fr : H s.heap.objs.size = none := I.hok.fresh (Nat.le_refl _)
  have nes : e ≠ s.heap.objs.size := Nat.ne_of_lt (Heap.lt_size hx)
  refine h s.heap.objs.size _ fr ?_
  have hx1 : (s.heap.push emptyDict).get? e = some _ := Heap.get?_push_of_some _ hx
  have g1 : (s.heap.push emptyDict).get? s.heap.objs.size = some emptyDict := Heap.get?_push_size s.heap rfl
  have e3 : (s.heap.push emptyDict).Ns s.heap.objs.size (fun _ => none) := ⟨emptyDict, #[], _, g1, rfl, (fun e he => absurd he (by simp)), fun _ => rfl⟩
  have I1 := I.laid (a := s.heap.objs.size) (o := exD s.heap.objs.size []) (h' := s.heap.push emptyDict) (t' := s.toks) (fun b u q => Heap.get?_push_of_some _ q) (Nat.le_refl _) (exD_ok (Heap.Ns1.of_empty e3) (fun _ => True.intro) fun y hy => absurd rfl hy)
  have hx2 := Heap.get?_update_self (fun o : Obj => { o with dict := some s.heap.objs.size }) hx1 rfl
  have I2 := I1.write (x := e) (e := e) (o := excO e C (some s.heap.objs.size)) (h' := (s.heap.push emptyDict).update e fun o => { o with dict := some s.heap.objs.size }) (t' := s.toks) (by rw [upd_ne nes, he]; exact True.intro) (.inl rfl)
    (fun b q hb z => (Heap.get?_update_ne _ _ _ _ hb).trans z) ⟨_, hx2⟩ (excO_ok hx2)
  have I3 := I2.write (x := s.heap.objs.size) (e := s.heap.objs.size) (o := exD s.heap.objs.size [(f, y)]) (h' := h') (t' := s.toks + 1 + 1) (by rw [upd_ne nes.symm, upd_same]; exact True.intro) (.inl rfl) (fun b q hb z => ?_) (let ⟨o, _, _, ho, _⟩ := hn; ⟨o, ho⟩)
    (exD_ok hn (fun g => ?_) fun g hg => ?_)
  · have e1 : upd (upd (upd H s.heap.objs.size (exD s.heap.objs.size [])) e (excO e C (some s.heap.objs.size))) s.heap.objs.size (exD s.heap.objs.size [(f, y)]) = upd (upd H e (excO e C (some s.heap.objs.size))) s.heap.objs.size (exD s.heap.objs.size [(f, y)]) := by
      funext b
      unfold upd
      split
      · rfl
      · split
        · rfl
        · rfl
    rw [e1] at I3
    exact I3
  · by_cases hbe : b = e
    · subst hbe
      have z' : some q = some _ := z.symm.trans hx2
      cases z'
      exact hx'
    · have z1 : (s.heap.push emptyDict).get? b = some q := (Heap.get?_update_ne _ _ _ _ hbe).symm.trans z
      have z2 : s.heap.get? b = some q := by
        rcases Heap.get?_push_cases z1 with z | z
        · exact absurd z.1 hb
        · exact z
      exact hk b q hbe z2
  · have e2 : List.lookup g [(f, y)] = if g = f then some y else none := lookup_putF f g y []
    rw [e2]
    by_cases q : g = f
    · rw [if_pos q, if_pos q]; exact ry
    · rw [if_neg q, if_neg q]; exact True.intro
  · by_cases q : g = f
    · subst q; simp
    · exact absurd (if_neg q) hg
end
end L2

set_option Elab.async false
set_option linter.all false
set_option maxRecDepth 100000
set_option maxHeartbeats 4000000
namespace L2
open PySem PySem.Spec PyProof.Rows PySem.SeqAt PySem.W Builtin.ObjectAttr
section
variable {X : Cx} {CX : CXT} {k : Nat} {f C : Addr} {fd : FuncData} {ps : List Str} {sp : Sp} {dvs : List V} {ds : List Value} {E : XK} {B newId initId : String} {bm : List Value}
/-- C(..), C an own exception's class with its own __init__ -/
theorem run_makeX {pins : List (Addr × Obj)} {σ : St} {H : Hp} {s : Shared} {Q : VK} {us : List Value} {vs : List V} (BF : ExcBaseFacts B newId initId bm) (XC : XCls X.K C B newId) (hi : findIn X.K (.ref C) "__init__" = some (some (.ref f))) (hf : isFn X.K (.ref f) = true) (F : FnOk X.prog X.w X.K X.mg X.base CX k f fd ps sp) (hr : Room (k + 1) X.A)
    (hb : Binds X.K fd ps ds) (hd : Vals dvs ds) (hx : Passes CX X E) (I : Inv X pins σ H s) (r : Vals vs us) (hz : us.length ≤ sizeLine)
    (h : ∀ e, H e = none → sp (.ref e :: (vs ++ dvs)) (upd H e (excO e C none)) (fun v H2 => v = .non ∧ Q (.ref e) H2) E) :
    wpAny (model X.prog X.w) X.A (call (.ref C) us) (EP X pins σ Q) X.xe s := by
  obtain ⟨hh, g, d, t, os⟩ := s
  have hq := h (hh.objs.size + 1) (I.hok.fresh (Nat.le_succ _))
  have hget : ((hh.push { cls := .type "tuple", data := .seq us.toArray }).push (excNew C hh.objs.size)).get? (hh.objs.size + 1) = some (excNew C hh.objs.size) := by
    have := Heap.get?_push_size (hh.push { cls := .type "tuple", data := .seq us.toArray }) (o := excNew C hh.objs.size) rfl
    rwa [Heap.size_push] at this
  have I2 : Inv X pins σ (upd H (hh.objs.size + 1) (excO (hh.objs.size + 1) C none)) ⟨(hh.push { cls := .type "tuple", data := .seq us.toArray }).push (excNew C hh.objs.size), g, d, t, os⟩ :=
    I.laid (h' := (hh.push { cls := .type "tuple", data := .seq us.toArray }).push (excNew C hh.objs.size)) (t' := t) (fun b u q => Heap.get?_push_of_some _ (Heap.get?_push_of_some _ q)) (Nat.le_succ _) (excO_ok hget)
  have r2 : Vals (V.ref (hh.objs.size + 1) :: (vs ++ dvs)) (Value.ref (hh.objs.size + 1) :: (us ++ ds)) := .cons rfl (r.append hd)
  have hl : (Value.ref (hh.objs.size + 1) :: us ++ ds).length = ps.length := by
    have e := r2.length
    rw [F.len _ _ _ _ hq] at e
    exact e.symm
  refine wpAny_call (makeX_core BF (makesX_of I.kIn XC.mks) (looks_findIn I.kIn hi) (fun self => bind_fn I.kIn self (beq_iff_eq.mp hf)) hz (codeAny_mono (F.run _ X.stack _ _ ⟨Value.ref (hh.objs.size + 1) :: us, []⟩ (Value.ref (hh.objs.size + 1) :: (us ++ ds)) _ _ E (hr.make C us [])
    (I2.env0.make C us []) (hb _ (Value.ref (hh.objs.size + 1) :: us) I2.kIn hl) r2 hq) fun r s' hq' => ?_))
  match r, hq' with
  | .error e, hq' => exact hx pins σ _ _ e s' I2 hq'
  | .ok (.ret u), hq' =>
    obtain ⟨v, H', I3, rv, ev, q3⟩ := I2.after hq'
    subst ev
    exact ⟨rv, ⟨V.ref (hh.objs.size + 1), H', I3, rfl, q3⟩⟩
def tMakeX (C : Addr) (sp : Sp) (dvs : List V) (E : XK) (t : TA) : TE := fun σ H Q => t σ H fun vs H1 => ∀ e, H1 e = none → sp (.ref e :: (vs ++ dvs)) (upd H1 e (excO e C none)) (fun v H2 => v = .non ∧ Q (.ref e) H2) E
theorem pe_makeX {x : Str} {p pos : Pos} {e : Expr} {es : List Expr} {t : TA} (BF : ExcBaseFacts B newId initId bm) (XC : XCls X.K C B newId) (hi : findIn X.K (.ref C) "__init__" = some (some (.ref f))) (hf : isFn X.K (.ref f) = true) (F : FnOk X.prog X.w X.K X.mg X.base CX k f fd ps sp) (hr : Room (k + 1) X.A)
    (hg : Gl X x) (hm : X.mg x = some (.ref C)) (hb : Binds X.K fd ps ds) (hd : Vals dvs ds) (hx : Passes CX X E) (ha : PA X (e :: es) t) (hdb : (x == ("__debug__" : Str)) = false := by decide) (he : starEach (e :: es) X.env = (false, eval e X.env) :: starEach es X.env := by rfl) (hpl : (backTo pos (starEach es X.env)).any (·.1) = false := by rfl) (hle : ps.length ≤ 20 := by decide) :
    PE X (.Call (.Name x p) (e :: es) [] pos) (tMakeX C sp dvs E t) := by
  intro pins s σ H Q I h
  refine wpAny_Call_Name_kw (ld_glob I hg hm ?_ hdb)
  refine callWith_K (h₀ := X.base) I.ok.mod.kin XC.kp (thn (ha pos pins s σ H _ I h) fun us s1 ⟨vs, H1, I1, r, q⟩ => ⟨I1.kIn, ?_⟩) he hpl
  refine run_makeX BF XC hi hf F hr hb hd hx I1 r ?_ q
  have h1 := F.len _ _ _ _ (q (s1.heap.objs.size) (I1.hok.fresh (Nat.le_refl _)))
  rw [List.length_cons, List.length_append] at h1
  have h2 := r.length
  exact Nat.le_trans (show us.length ≤ 20 by omega) (by decide)
end
end L2

set_option Elab.async false
set_option linter.all false
set_option maxRecDepth 100000
set_option maxHeartbeats 4000000
namespace L2
open PySem PySem.Spec PyProof.Rows PySem.SeqAt PySem.W Builtin.ObjectAttr
/-! ### raise -/
def unt (H : Hp) (a : Addr) : Hp := fun b => if b = a then none else H b
theorem unt_same {H : Hp} {a : Addr} : unt H a a = none := if_pos rfl
theorem unt_ne {H : Hp} {a b : Addr} (h : b ≠ a) : unt H a b = H b := if_neg h
theorem unt_none {H : Hp} {a b : Addr} (h : H b = none) : unt H a b = none := by
  unfold unt
  split
  · rfl
  · exact h
section
variable {X : Cx} {pins : List (Addr × Obj)} {σ : St} {H : Hp} {s : Shared} {e C : Addr} {dd : Option Addr}
/-- the exception is made: it is tracked no more -/
theorem Inv.unt (I : Inv X pins σ H s) (he : H e = some (excO e C dd)) : Inv X pins σ (L2.unt H e) s := by
  have up : ∀ b u, H b = some u → u ≠ excO e C dd → L2.unt H e b = some u := fun b u z hu => by
    by_cases q : b = e
    · subst q; rw [he] at z; exact absurd (Option.some.inj z).symm hu
    · rw [unt_ne q]; exact z
  refine ⟨I.ok, I.os, I.bare, ⟨I.base.keep, I.base.slot, fun b o z n hx => unt_none (I.base.free b o z n hx), I.base.there, fun b xs z => up b _ (I.base.tups b xs z) (by intro q; cases q), fun b o u z => up b _ (I.base.frzs b o u z) (by intro q; cases q), fun b ps z => ?_⟩, I.loc, I.cell, unt_none I.free, fun x c z => unt_none (I.freeC x c z), fun p hp => ?_, fun b u z => ?_, I.len⟩
  · obtain ⟨m, q⟩ := I.base.tbls b ps z
    exact ⟨m, up b _ q (by intro q; cases q)⟩
  · obtain ⟨p1, p2, p3⟩ := I.pin p hp
    exact ⟨p1, unt_none p2, p3⟩
  · by_cases q : b = e
    · subst q; rw [unt_same] at z; cases z
    · rw [unt_ne q] at z
      exact (I.hok b u z).stay (fun c v _ r => r) (fun c r => up c _ r (by intro q; cases q)) fun c xs r => up c _ r (by intro q; cases q)
/-- raise e, e an exception just made -/
def tRaise (X : Cx) (B newId : String) (W : XK) (te : TE) : TS := fun _ σ H => te σ H fun x H1 => ∃ e C dd, x = .ref e ∧ H1 e = some (excO e C dd) ∧ X.H₀ e = none ∧ XCls X.K C B newId ∧ W (.ref C) dd (unt H1 e)
theorem ps_raise {ex : Expr} {pos : Pos} {te : TE} {W : XK} {B newId : String} (he : PE X ex te) (hcalm : X.calm = true) (hex : X.ex = [])
    (hxe : ∀ (pins : List (Addr × Obj)) (σ : St) (H' : Hp) (s' : Shared) (e : Addr) (cls : Value) (dd : Option Addr), Inv X pins σ H' s' → ExcOk s'.heap H' X.s₀.heap e cls dd → W cls dd H' → X.xe (.ref e) s') : PS X (.Raise (some ex) none pos) (tRaise X B newId W te) := by
  intro pins s σ H D I h
  rw [arm_exec_Raise]
  have key : ∀ xs : Sem Value, wpAny (model X.prog X.w) X.A xs (EP X pins σ fun x H1 => ∃ e C dd, x = .ref e ∧ H1 e = some (excO e C dd) ∧ X.H₀ e = none ∧ XCls X.K C B newId ∧ W (.ref C) dd (L2.unt H1 e)) X.xe s → wpAny (model X.prog X.w) X.A (raiseStmt X.env (some xs) none) (SP X pins D) X.xe s := by
    intro xs hxs
    unfold raiseStmt
    refine wpAny_bind (thn hxs fun v s1 ⟨x, H1, I1, r1, e, C, dd, ex', hx, h0, XC, q⟩ => ?_)
    subst ex'
    cases (show v = Value.ref e from r1)
    obtain ⟨a0, hg⟩ := exc_at I1 hx
    have Y := makesX_of (M := model X.prog X.w) I1.kIn XC.mks
    obtain ⟨⟨oc, od, cd, sl, hC, e1, e2, e4⟩, made, base, self, isB, isE, noA, noN, call, typ⟩ := Y
    have T1 : Looks (model X.prog X.w) s1.heap (typeOf (.ref e)) (.ref C) := (Looks.ld hg).andThen .now
    have fin : X.xe (.ref e) s1 := by
      refine hxe pins σ _ s1 e (.ref C) dd (I1.unt hx) ⟨_, _, hg, rfl, rfl, rfl, ?_, unt_same, .inl rfl⟩ q
      cases z : X.s₀.heap.get? e with
      | none => rfl
      | some o =>
        have := I1.base.free e o z h0 (by rw [hex]; simp)
        rw [hx] at this; cases this
    have T2 : Looks (model X.prog X.w) s1.heap (typeOf (.ref C)) (.type "type") := looks_typeIn I1.kIn XC.ty
    have T3 : Looks (model X.prog X.w) s1.heap (isInstance (.ref e) (.type "BaseException")) true := T1.andThen isE
    have hh : X.A.handled = none := I1.ok.hd hcalm
    clear I1 r1 hxs he h I XC made base self isB noA noN call typ
    obtain ⟨hp, g, d, tk, os⟩ := s1
    repeat (first | with_reducible refine wpAny_loadPart_at hg ?_ | with_reducible refine T3.at ?_ | with_reducible refine T1.at ?_ | with_reducible refine T2.at ?_ | wp_step)
    exact wpAny_raiseNew_none hh fin
  first
    | exact wpAny_bind (wpAny_standAt (key _ (wpAny_bind (thn (he pins s σ H _ I h) fun v s1 z => wpAny_bind (wpAny_standAt (wpAny_pure z))))))
    | (simp only [evalOpt, Option.map]; exact wpAny_bind (wpAny_standAt (key _ (wpAny_bind (thn (he pins s σ H _ I h) fun v s1 z => wpAny_bind (wpAny_standAt (wpAny_pure z)))))))
end
end L2

set_option Elab.async false
set_option linter.all false
set_option maxRecDepth 100000
set_option maxHeartbeats 4000000
namespace L2
open PySem PySem.Spec PyProof.Rows PySem.SeqAt PySem.W Builtin.ObjectAttr
section
variable {X : Cx} {pins : List (Addr × Obj)} {σ : St} {H : Hp} {s : Shared} {e C : Addr} {f : Str} {B newId initId : String} {bm : List Value} {A : Around} {E : Value → Shared → Prop} {y : V} {u : Value} {Q : Unit → Shared → Prop}
theorem setX_old {da : Addr} {fs : List (Str × V)} (I : Inv X pins σ H s) (he : H e = some (excO e C (some da))) (hd : H da = some (exD da fs)) (hl : fs.length < 1000) (XC : XCls X.K C B newId) (ht : takerIn X.K C f = some none) (ry : RelV y u)
    (h : ∀ s', Inv X pins σ (upd H da (exD da (putF f y fs))) s' → Q () s') : wpAny (model X.prog X.w) A (setAttr (.ref e) f u) Q E s := by
  obtain ⟨a0, hx⟩ := exc_at I he
  obtain ⟨mA, hn, r, wi⟩ := (show ObjOk X.prog X.w H s.heap da (exD da fs) from I.hok da _ hd).1
  obtain ⟨od, hod, _⟩ := lookIn_ns hn
  have J : InstAt s.heap e _ C (some od) := ⟨hx, rfl, rfl, hod⟩
  obtain ⟨cd, rs, bm, hc, hdct, _⟩ := XC.cd
  refine set_plain I.kIn J XC.sa (osaX (s := { s with toks := s.toks + 1 }) I.kIn J XC ht fun b => storeX_old (s := { s with toks := s.toks + 1 }) (ns := fs.map (·.1)) I.kIn hx hc hdct hn wi (by rw [List.length_map]; exact hl) fun h' hn' hs => ?_)
  refine h _ (I.write (x := da) (e := da) (h' := h') (t' := s.toks + 1 + 1) (by rw [hd]; exact True.intro) (.inl rfl) (fun b q hb z => (hs.2 b hb).trans z) (let ⟨o, _, _, ho, _⟩ := hn'; ⟨o, ho⟩) (exD_ok hn' (fun g => ?_) fun g hg => ?_))
  · show RelO ((putF f y fs).lookup g) (if g = f then some u else mA g)
    rw [lookup_putF]
    by_cases q : g = f
    · rw [if_pos q, if_pos q]; exact ry
    · rw [if_neg q, if_neg q]; exact r g
  · by_cases q : g = f
    · rw [q]; exact (keys_putF f y fs).1
    · refine (keys_putF f y fs).2 g (wi g fun z => hg ?_)
      show (if g = f then some u else mA g) = none
      rw [if_neg q]; exact z
/-- self.f = value, self an exception that is being made -/
def sFldX (K : Frag) (B newId : String) (ta tv : TE) (f : Str) : TS := fun D σ H => tv σ H fun y H1 => ta σ H1 fun x H2 => ∃ e C, x = .ref e ∧ XCls K C B newId ∧ takerIn K C f = some none ∧
  ((H2 e = some (excO e C none) ∧ ∀ da, H2 da = none → D.nx σ (upd (upd H2 e (excO e C (some da))) da (exD da [(f, y)]))) ∨
    ∃ da fs, H2 e = some (excO e C (some da)) ∧ H2 da = some (exD da fs) ∧ fs.length < 1000 ∧ D.nx σ (upd H2 da (exD da (putF f y fs))))
theorem ps_fldX {o value : Expr} {pos pos' : Pos} {ta tv : TE} (ha : PE X o ta) (hv : PE X value tv) (hs : swapsWith value (some (.Attribute o f pos')) pos.line X.env = pure false) : PS X (.Assign [.Attribute o f pos'] value pos) (sFldX X.K B newId ta tv f) := by
  intro pins s σ H D I h
  refine plainObj_wpAny_Assign_Attribute (thn (hv pins s σ H _ I h) fun u s1 ⟨y, H1, I1, ry, q⟩ => thn (ha pins s1 σ H1 _ I1 q) fun ov s2 ⟨x, H2, I2, rx, e, C, ex, XC, ht, q2⟩ => ?_) hs
  subst ex
  cases (show ov = Value.ref e from rx)
  rcases q2 with ⟨he, q2⟩ | ⟨da, fs, he, hd, hl, q2⟩
  · exact setX_new I2 he XC ht ry fun da s' hda I3 => ⟨σ, _, I3, q2 da hda⟩
  · exact setX_old I2 he hd hl XC ht ry fun s' I3 => ⟨σ, _, I3, q2⟩
/-- the built-in __init__ of an exception -/
theorem call_initX (BF : ExcBaseFacts B newId initId bm) : CallR X (.builtin initId) (fun xs H Q => ∃ e C dd y, xs = [.ref e, y] ∧ H e = some (excO e C dd) ∧ XCls X.K C B newId ∧ Q .non H) := by
  intro pins s σ H xs us Q I r h
  obtain ⟨e, C, dd, y, rfl, he, XC, q⟩ := h
  cases r with
  | cons r1 r =>
    cases r with
    | cons r2 r =>
      cases r
      rename_i u1 u2
      cases (show u1 = Value.ref e from r1)
      obtain ⟨a0, hg⟩ := exc_at I he
      have Y := makesX_of (M := model X.prog X.w) I.kIn XC.mks
      have T1 : Looks (model X.prog X.w) s.heap (typeOf (.ref e)) (.ref C) := (Looks.ld hg).andThen .now
      have T3 : Looks (model X.prog X.w) s.heap (isInstance (.ref e) (.type B)) true := T1.andThen Y.isB
      have hshort := BF.noStar
      refine wpAny_call (codeAny_call_builtin BF.init.plain BF.initEntry ?_)
      simp only [checkBuiltinCall, BF.initKind, BF.initSplit, BF.initRow]
      refine wpAny_bind (T3.here ?_)
      simp only [Bool.not_true, Bool.false_eq_true, if_false]
      obtain ⟨oc, od, cd, sl, hC, e1, e2, e4⟩ := Y.obj
      have T2 := Y.typ
      obtain ⟨hp, g, d, tk, os⟩ := s
      unfold Bind.checkArgs
      repeat (first | with_reducible refine wpAny_loadPart_at hg ?_ | with_reducible refine wpAny_loadPart_at hC ?_ | with_reducible refine T1.at ?_ | wp_step)
      have fin : ∀ tk', EP X pins σ Q .none ⟨(hp.push { cls := Value.type "tuple", data := Data.seq #[u2] }).update e (Obj.mapFields fun x => x.setIfInBounds 0 (Value.ref hp.objs.size)), g, d, tk', os⟩ := fun tk' => by
        have hg' : hp.get? e = some { cls := .ref C, dict := dd, data := .fields #[a0, .none, .none, .none, .bool false, .none] } := hg
        have hg1 := Heap.get?_push_of_some (h := hp) { cls := Value.type "tuple", data := Data.seq #[u2] } hg'
        have hg2 := Heap.get?_update_self (Obj.mapFields fun x => x.setIfInBounds 0 (Value.ref hp.objs.size)) hg1 rfl
        have I1 : Inv X pins σ H ⟨hp.push { cls := Value.type "tuple", data := Data.seq #[u2] }, g, d, tk', os⟩ := I.kept (s := ⟨hp, g, d, tk, os⟩) (t' := tk') fun b o z => Heap.get?_push_of_some _ z
        have I2 := I1.write (x := e) (e := e) (o := excO e C dd) (h' := (hp.push { cls := Value.type "tuple", data := Data.seq #[u2] }).update e (Obj.mapFields fun x => x.setIfInBounds 0 (Value.ref hp.objs.size))) (t' := tk') (by rw [he]; exact True.intro) (.inl rfl) (fun b q hb z => (Heap.get?_update_ne _ _ _ _ hb).trans z) ⟨_, hg2⟩ (excO_ok (a0 := .ref hp.objs.size) hg2)
        have eH : upd H e (excO e C dd) = H := by
          funext b
          unfold upd
          split
          · rename_i q; rw [q, he]
          · rfl
        rw [eH] at I2
        exact ⟨.non, H, I2, rfl, q⟩
      cases a0 <;> first | exact wpAny_pure (wpAny_pure (fin _)) | exact wpAny_letGo (wpAny_pure (fin _))
end
end L2

set_option Elab.async false
set_option linter.all false
set_option maxRecDepth 100000
set_option maxHeartbeats 4000000
namespace L2
open PySem PySem.Spec PyProof.Rows PySem.SeqAt PySem.W Builtin.ObjectAttr
section
variable {X : Cx} {CX : CXT} {k : Nat} {f C CS : Addr} {fd : FuncData} {ps : List Str} {sp : Sp} {dvs : List V} {ds : List Value} {E : XK} {m tn cn : Str} {T id : String} {p pos apos : Pos} {e : Expr} {es : List Expr} {t : TA} {r : List V → Hp → VK → Prop} {mc : Value}
/-- T.m(..), T a built-in type -/
def tCallR (r : List V → Hp → VK → Prop) (t : TA) : TE := fun σ H Q => t σ H fun vs H1 => r vs H1 Q
theorem pe_typeMeth {pl : Sem Bool} (hg : Gl X tn) (hm : X.mg tn = none) (hv : bootBuiltins tn = some (.type T)) (ht : typeOf (.type T) = pure (.type "type")) (hs : Manifest.isStub T = false) (fc : findCls X.K (.type T) (.type "type") m = some (.val (.builtin id))) (hc : CallR X (.builtin id) r) (ha : PA X (e :: es) t) (hh : handedIn (.builtin id) = true := by rfl)
    (hn : tn ≠ "__name__" := by decide) (hdb : (tn == ("__debug__" : Str)) = false := by decide) (hst : starEach (e :: es) X.env = (false, eval e X.env) :: starEach es X.env := by rfl) (hpl : (backTo pos (starEach es X.env)).any (·.1) = false := by rfl)
    (hte : eval (.Call (.Attribute (.Name tn p) m apos) (e :: es) [] pos) X.env = (do
      let ov ← eval (.Name tn p) X.env
      standAt apos.atName
      let (f, first) ← holding [ov] (getMethod ov m pl)
      callWith pos f first (backTo pos (starEach (e :: es) X.env)) (backToKw pos (keywordEach [] X.env))) := by rfl) :
    PE X (.Call (.Attribute (.Name tn p) m apos) (e :: es) [] pos) (tCallR r t) := by
  intro pins s σ H Q I h
  obtain ⟨mm, F⟩ := I.fr
  refine methodCall_KW (pl := pl) (ld_blt I hg hm hv (method_type F I.ok.mod.kin ht hs fc hh ?_) hn hdb) hte
  exact callWith_builtin1 (thn (ha pos pins _ σ H _ (I.tok _) h) fun us s1 ⟨vs, H1, I1, r1, q1⟩ => hc pins s1 σ H1 vs us Q I1 r1 q1) hst hpl
/-- C.m(..), C an own class -/
theorem pe_clsMeth {pl : Sem Bool} (hg : Gl X cn) (hm : X.mg cn = some (.ref CS)) (sg : specialIn X.K (.ref CS) "__getattribute__" = some (some (.builtin "type.__getattribute__"))) (hr' : readsIn X.K CS mc = true) (fc : findCls X.K (.ref CS) mc m = some (.val (.ref f))) (hk : keepIn X.K (.ref f) = true)
    (F : FnOk X.prog X.w X.K X.mg X.base CX k f fd ps sp) (hr : Room k X.A) (hb : Binds X.K fd ps ds) (hd : Vals dvs ds) (hx : Passes CX X E) (ha : PA X (e :: es) t) (hdb : (cn == ("__debug__" : Str)) = false := by decide)
    (hst : starEach (e :: es) X.env = (false, eval e X.env) :: starEach es X.env := by rfl) (hpl : (backTo pos (starEach es X.env)).any (·.1) = false := by rfl)
    (hte : eval (.Call (.Attribute (.Name cn p) m apos) (e :: es) [] pos) X.env = (do
      let ov ← eval (.Name cn p) X.env
      standAt apos.atName
      let (f, first) ← holding [ov] (getMethod ov m pl)
      callWith pos f first (backTo pos (starEach (e :: es) X.env)) (backToKw pos (keywordEach [] X.env))) := by rfl) :
    PE X (.Call (.Attribute (.Name cn p) m apos) (e :: es) [] pos) (tCall sp dvs E t) := by
  intro pins s σ H Q I h
  refine methodCall_KW (pl := pl) (ld_glob I hg hm (method_cls I.kIn sg (cls_value I.kIn hr' fc rfl ?_)) hdb) hte
  refine callWith_K (first := []) (h₀ := X.base) I.ok.mod.kin hk (thn (ha pos pins _ σ H _ (I.tok _) h) fun us s1 ⟨vs, H1, I1, r, q⟩ => ⟨I1.kIn, ?_⟩) hst hpl
  exact run_fn F hr hb hd hx I1 r q
end
end L2

set_option Elab.async false
set_option linter.all false
set_option maxRecDepth 100000
set_option maxHeartbeats 4000000
namespace L2
open PySem PySem.Spec PyProof.Rows
section
variable {X : Cx} {pins : List (Addr × Obj)} {σ : List (Option V)} {H H' : Hp} {s : Shared} {h' : Heap}
theorem Inv.stepN {g' : Array GenState} {t' : Nat} {d' : Drawn} {ch : List Addr} (I : Inv X pins σ H s)
    (hch : ∀ b ∈ ch, X.s₀.heap.get? b = none ∧ b ≠ X.env.locals ∧ (∀ x c, X.env.cells.lookup x = some c → c ≠ b) ∧ ∀ p ∈ X.pn ++ pins, p.1 ≠ b)
    (keep : ∀ b o, b ≠ X.env.locals → b ∉ X.fs → b ∉ ch → s.heap.get? b = some o → H b = none → h'.get? b = some o)
    (slot : ∀ b o, b ≠ X.env.locals → b ∈ X.fs → b ∉ ch → s.heap.get? b = some o → H b = none → ∃ sl, h'.get? b = some { o with slots := sl }) (free : ∀ b o, b ∉ ch → s.heap.get? b = some o → H b = none → H' b = none)
    (there : ∀ b o, b ∉ ch → s.heap.get? b = some o → ∃ o', h'.get? b = some o')
    (tups : ∀ b xs, H b = some (.tup xs) → H' b = some (.tup xs)) (frzs : ∀ b o u, H b = some (.frz o u) → H' b = some (.frz o u)) (tbls : ∀ b ps, H b = some (.tbl ps) → ∃ more, H' b = some (.tbl (ps ++ more)))
    (ns : ∀ m, s.heap.Ns X.env.locals m → h'.Ns X.env.locals m) (hok : HOk X.prog X.w H' h') (hg : AllBare g') :
    Inv X pins σ H' { s with heap := h', gens := g', drawn := d', toks := t' } := by
  have neL : ∀ b o, X.s₀.heap.get? b = some o → b ≠ X.env.locals := fun b o e => Nat.ne_of_lt (Nat.lt_of_lt_of_le (Heap.lt_size e) I.ok.above)
  have neC : ∀ b o, X.s₀.heap.get? b = some o → b ∉ X.ex → b ∉ ch := fun b o e hx hb => by
    rw [(hch b hb).1] at e; cases e
  have cellK : ∀ x c, X.env.cells.lookup x = some c → ∀ v, s.heap.IsCell c v → h'.IsCell c v := fun x c e v ⟨o, ho, hd⟩ => by
    have nch : c ∉ ch := fun z => (hch c z).2.2.1 x c e rfl
    by_cases hc : c ∈ X.fs
    · obtain ⟨sl, q⟩ := slot c o (I.cne x c e) hc nch ho (I.freeC x c e)
      exact ⟨_, q, hd⟩
    · exact ⟨o, keep c o (I.cne x c e) hc nch ho (I.freeC x c e), hd⟩
  refine ⟨I.ok, I.os, hg, ⟨fun b o e n hb hx => ?_, fun b o e n hb hx => ?_, fun b o e n hx => ?_, fun b o e hx => ?_, fun b xs e => tups b xs (I.base.tups b xs e), fun b o xs e => frzs b o xs (I.base.frzs b o xs e), fun b ps e => ?_⟩, ?_, fun x c e => ?_, ?_, fun x c e => ?_, fun p hp => ?_, hok, I.len⟩
  · exact keep b o (neL b o e) hb (neC b o e hx) (I.base.keep b o e n hb hx) (I.base.free b o e n hx)
  · obtain ⟨sl, e1⟩ := I.base.slot b o e n hb hx
    obtain ⟨sl', e2⟩ := slot b _ (neL b o e) hb (neC b o e hx) e1 (I.base.free b o e n hx)
    exact ⟨sl', e2⟩
  · obtain ⟨o', e1⟩ := I.base.there b o e hx
    exact free b o' (neC b o e hx) e1 (I.base.free b o e n hx)
  · obtain ⟨o', e1⟩ := I.base.there b o e hx
    exact there b o' (neC b o e hx) e1
  · obtain ⟨m1, e1⟩ := I.base.tbls b ps e
    obtain ⟨m2, e2⟩ := tbls b _ e1
    exact ⟨m1 ++ m2, by rw [e2, Array.append_assoc]⟩
  · obtain ⟨m, hn, hl⟩ := I.loc
    refine ⟨m, ns m hn, fun i x v e1 e2 e3 => ?_⟩
    obtain ⟨u, r, l⟩ := hl i x v e1 e2 e3
    refine ⟨u, r, ?_⟩
    rcases l with l | ⟨k, c, e, z⟩
    · exact .inl l
    · exact .inr ⟨k, c, e, cellK x c e _ z⟩
  · obtain ⟨v, z⟩ := I.cell x c e
    exact ⟨v, cellK x c e v z⟩
  · obtain ⟨m, ⟨o, _, _, ho, _⟩, _⟩ := I.loc
    exact free _ o (fun z => (hch _ z).2.1 rfl) ho I.free
  · obtain ⟨v, o, ho, hd⟩ := I.cell x c e
    exact free c o (fun z => (hch c z).2.2.1 x c e rfl) ho (I.freeC x c e)
  · obtain ⟨e, n, ne, nf, d⟩ := I.pin p hp
    have nch : p.1 ∉ ch := fun z => (hch p.1 z).2.2.2 p hp rfl
    exact ⟨keep p.1 p.2 ne nf nch e n, free p.1 p.2 nch e n, ne, nf, d⟩
end
end L2
namespace L2
open PySem PySem.Spec PyProof.Rows PySem.SeqAt PySem.W Builtin.ObjectAttr
section
variable {X : Cx} {pins : List (Addr × Obj)} {σ σ0 : St} {H H0 : Hp} {s s0 : Shared} {e : Addr} {cls : Value} {dd : Option Addr}
/-- an exception is met by a try: its frame is noted, all stands as it did -/
theorem catchX {A : Around} {Q : Unit → Shared → Prop} {E : Value → Shared → Prop} (I0 : Inv X pins σ0 H0 s0) (I : Inv X pins σ H s) (hst : X.stack = X.env :: X.outer) (hfm : X.env.frame = some X.env.locals) (hfr : A.frames = some X.stack) (hex : X.ex = []) (hth : ∀ b o, s0.heap.get? b = some o → ∃ o', s.heap.get? b = some o') (x : ExcOk s.heap H s0.heap e cls dd)
    (h : ∀ h', ExcOk h' H s0.heap e cls dd → Inv X pins σ H { s with heap := h' } → Q () { s with heap := h' }) : wpAny (model X.prog X.w) A (noteFrame (.ref e) X.env) (fun _ s2 => wpAny (model X.prog X.w) A (setFlight (.ref e) none) Q E s2) E s := by
  have hl := I.stack
  rw [hst] at hfr hl
  obtain ⟨oe, vs, h1, h2, h3, h4, h5, h6, h7⟩ := x
  have free : ∀ b ∈ (X.env :: X.outer).filterMap (·.frame), H b = none := fun b hb => I.stkFree b (by rw [hst]; exact hb)
  -- what was there ahead of the call is neither the exception nor its record
  have old : ∀ T, s0.heap.get? T = none → X.s₀.heap.get? T = none ∧ T ≠ X.env.locals ∧ (∀ x c, X.env.cells.lookup x = some c → c ≠ T) ∧ ∀ p ∈ X.pn ++ pins, p.1 ≠ T := fun T hT => by
    refine ⟨?_, ?_, fun x c z q => ?_, fun p hp q => ?_⟩
    · cases z : X.s₀.heap.get? T with
      | none => rfl
      | some o =>
        obtain ⟨o', q⟩ := I0.base.there T o z (by rw [hex]; simp)
        rw [hT] at q; cases q
    · rintro rfl
      obtain ⟨_, ⟨o, _, _, ho, _⟩, _⟩ := I0.loc
      rw [hT] at ho; cases ho
    · obtain ⟨v, o, ho, _⟩ := I0.cell x c z
      rw [q, hT] at ho; cases ho
    · have := (I0.pin p hp).1
      rw [q, hT] at this; cases this
  have fin : ∀ (ch : List Addr) (h' : Heap) (T : Addr) (oe' oT : Obj) (vs' ts : Array Value), (∀ b ∈ ch, s0.heap.get? b = none ∧ H b = none) → s0.heap.get? T = none → T ≠ e → H T = none → h'.get? e = some oe' → oe'.cls = oe.cls → oe'.dict = oe.dict → oe'.data = .fields vs' → vs'[1]? = some (.ref T) → h'.get? T = some oT → oT.data = .fields ts → ts[3]? = some .none →
      (∀ b o, b ∉ ch → b ∉ (X.env :: X.outer).filterMap (·.frame) → s.heap.get? b = some o → h'.get? b = some o) → (∀ b o, b ∉ ch → s.heap.get? b = some o → ∃ sl, h'.get? b = some { o with slots := sl }) → Q () { s with heap := h' } := by
    intro ch h' T oe' oT vs' ts hch hT hTe hTn g1 g2 g3 g4 g5 g6 g7 g8 kp ks
    refine h h' ⟨oe', vs', g1, g2.trans h2, g3.trans h3, g4, h5, h6, .inr ⟨T, oT, ts, g5, hTe, g6, g7, g8, hT, hTn⟩⟩ ?_
    have ninF : ∀ b, b ≠ X.env.locals → b ∉ X.fs → b ∉ (X.env :: X.outer).filterMap (·.frame) := fun b hb hn hm => by
      rw [List.filterMap_cons, hfm] at hm
      rcases List.mem_cons.mp hm with q | hm
      · exact hb q
      · exact hn hm
    refine I.stepN (ch := ch) (g' := s.gens) (d' := s.drawn) (t' := s.toks) (fun b hb => old b (hch b hb).1) (fun b o hL hf hc z _ => kp b o hc (ninF b hL hf) z) (fun b o _ _ hc z _ => ks b o hc z) (fun b o _ _ n => n) (fun b o hc z => let ⟨sl, q⟩ := ks b o hc z; ⟨_, q⟩) (fun _ _ z => z) (fun _ _ _ z => z) (fun b ps z => ⟨#[], by rw [z]; simp⟩) (fun m hm => ?_) (fun b u hb => ?_) I.bare
    · obtain ⟨o, es, ep, ho, hd, r⟩ := hm
      have hnl : X.env.locals ∉ ch := fun z => (old _ (hch _ z).1).2.1 rfl
      obtain ⟨sl, q⟩ := ks _ o hnl ho
      exact ⟨_, es, ep, q, hd, r⟩
    · refine (I.hok b u hb).stay (fun c v hc q => kp c v (fun z => ?_) (fun hm => ?_) q) (fun _ q => q) fun _ _ q => q
      · have := (hch c z).2
        rcases hc with rfl | w
        · rw [this] at hb; cases hb
        · rw [this] at w; cases w
      · have := free c hm
        rcases hc with rfl | w
        · rw [this] at hb; cases hb
        · rw [this] at w; cases w
  have newT : ∀ T, s.heap.objs.size ≤ T → s0.heap.get? T = none ∧ T ≠ e ∧ H T = none := fun T hT => by
    refine ⟨?_, fun q => ?_, I.hok.fresh hT⟩
    · cases z : s0.heap.get? T with
      | none => rfl
      | some o =>
        obtain ⟨o', q⟩ := hth T o z
        exact absurd (Nat.lt_of_lt_of_le (Heap.lt_size q) hT) (Nat.lt_irrefl _)
    · subst q; exact absurd (Nat.lt_of_lt_of_le (Heap.lt_size h1) hT) (Nat.lt_irrefl _)
  unfold noteFrame
  simp only [hfm]
  rcases h7 with h7 | ⟨T, oT, ts, t1, t2, t3, t4, t5, t6, t7⟩
  · refine wpAny_bind (wpAny_field h1 h4 h7 ?_)
    rw [if_neg (by decide)]
    refine entryX hfr hl hfm h1 h4 (Array.getElem?_eq_some_iff.mp h7).1 fun h' T oe' oT vs' ts hT g1 g2 g3 g4 g5 g6 g7 g8 kp ks => ?_
    obtain ⟨n1, n2, n3⟩ := newT T hT
    exact fin [e] h' T oe' oT vs' ts (fun b hb => by cases List.mem_singleton.mp hb; exact ⟨h5, h6⟩) n1 n2 n3 g1 g2 g3 g4 g5 g6 g7 g8 (fun b o hb hm z => kp b o (fun q => hb (by simp [q])) hm z) fun b o hb z => ks b o (fun q => hb (by simp [q])) z
  · refine wpAny_bind (wpAny_field h1 h4 t1 ?_)
    rw [if_pos (show (Value.ref T != Value.none) = true by simp)]
    refine wpAny_bind (wpAny_field t3 t4 t5 ?_)
    rw [if_neg (show ¬ ((Value.none == rawInt X.env.locals) = true) by simp [rawInt])]
    refine wpAny_bind (wpAny_setField t3 t4 (Array.getElem?_eq_some_iff.mp t5).1 ?_)
    have other : ∀ b, b ≠ T → (s.heap.update T (Obj.mapFields (·.setIfInBounds 3 Value.none))).get? b = s.heap.get? b := fun b hb => Heap.get?_update_other _ _ (Ne.symm hb)
    have noR : ∀ b o, s.heap.get? b = some o → (∀ vs, o.data ≠ .fields vs) → b ≠ T := fun b o hb hnf q => by
      subst q
      rw [t3] at hb
      cases hb
      exact hnf ts t4
    refine entryX (s := { s with heap := s.heap.update T (Obj.mapFields (·.setIfInBounds 3 Value.none)) }) hfr (hl.of_keeps fun b o hb hnf => ⟨o, (other b (noR b o hb hnf)).trans hb, rfl⟩) hfm ((other e (Ne.symm t2)).trans h1) h4 (Array.getElem?_eq_some_iff.mp t1).1 fun h' T' oe' oT' vs' ts' hT g1 g2 g3 g4 g5 g6 g7 g8 kp ks => ?_
    have hT' : s.heap.objs.size ≤ T' := by
      have z : (s.heap.update T (Obj.mapFields (·.setIfInBounds 3 Value.none))).objs.size = s.heap.objs.size := Heap.size_update _ _ _
      exact Nat.le_trans (Nat.le_of_eq z.symm) hT
    obtain ⟨n1, n2, n3⟩ := newT T' hT'
    refine fin [e, T] h' T' oe' oT' vs' ts' (fun b hb => ?_) n1 n2 n3 g1 g2 g3 g4 g5 g6 g7 g8 (fun b o hb hm z => kp b o (fun q => hb (by simp [q])) hm ((other b fun q => hb (by simp [q])).trans z)) fun b o hb z => ks b o (fun q => hb (by simp [q])) ((other b fun q => hb (by simp [q])).trans z)
    rcases List.mem_cons.mp hb with rfl | hb
    · exact ⟨h5, h6⟩
    · cases List.mem_singleton.mp hb; exact ⟨t6, t7⟩
end
end L2

set_option Elab.async false
set_option linter.all false
set_option maxRecDepth 100000
set_option maxHeartbeats 4000000
namespace L2
open PySem PySem.Spec PyProof.Rows PySem.SeqAt PySem.W Builtin.ObjectAttr
theorem upd_id {h : Heap} {a : Addr} {o : Obj} {f : Obj → Obj} (e : h.get? a = some o) (hf : f o = o) : h.update a f = h := by
  obtain ⟨objs, l⟩ := h
  have e' : objs[a]? = some o := by
    unfold Heap.get? at e
    dsimp only at e
    split at e
    · cases e
    · exact e
  show (⟨objs.modify a f, l⟩ : Heap) = ⟨objs, l⟩
  congr 1
  obtain ⟨hlt, e2⟩ := Array.getElem?_eq_some_iff.mp e'
  refine Array.ext (by simp) fun i h1 h2 => ?_
  rw [Array.getElem_modify]
  split
  · rename_i q
    subst q
    rw [e2, hf]
  · rfl
section
variable {X : Cx} {pins : List (Addr × Obj)} {σ σ0 : St} {H H0 : Hp} {s s0 : Shared} {e : Addr} {cls : Value} {dd : Option Addr}
/-- a slot is forgotten -/
theorem Inv.drop (I : Inv X pins σ H s) (i : Nat) : Inv X pins (σ.set i none) H s := by
  obtain ⟨ok, os, bare, base, ⟨m, hn, hl⟩, cell, free, freeC, pin, hok, len⟩ := I
  refine ⟨ok, os, bare, base, ⟨m, hn, fun j x v e1 e2 e3 => ?_⟩, cell, free, freeC, pin, hok, by simpa using len⟩
  by_cases hj : j = i
  · subst hj
    rw [List.getElem?_set] at e2
    split at e2 <;> simp_all
  · rw [List.getElem?_set_ne (Ne.symm hj)] at e2
    exact hl j x v e1 e2 e3
/-- behind an except suite: its name goes -/
theorem unbindX {M : Model} {A : Around} {E : Value → Shared → Prop} {i : Nat} {x : Str} {pos : Pos} {Q : Unit → Shared → Prop} (I : Inv X pins σ H s) (hN : X.N.Nodup) (hi : X.N[i]? = some x) (hx : X.env.scope.names.lookup x = some .local)
    (h : ∀ s', Inv X pins (σ.set i none) H s' → Q () s') : wpAny M A (do bindName X.env x .none; unbindBehindTheSuite X.env x pos) Q E s := by
  have hcls : (X.env.scope.kind == .class || (X.env.scope.kind == .module && X.env.locals != X.env.globals)) = false := by rw [I.ok.kind]; rfl
  have hiσ : i < σ.length := by rw [I.len]; exact (List.getElem?_eq_some_iff.mp hi).1
  refine wpAny_bind (wpAny_bindName (store_ok I hN hi (.inl hx) (v := .non) (u := .none) rfl (fun s1 I1 => ?_) (.inr hx)))
  obtain ⟨m, hn, hl⟩ := id I1.loc
  obtain ⟨u, _, lk⟩ := hl i x .non hi (by rw [List.getElem?_set_self hiσ]) (.inl hx)
  have hv : m x = some u := by
    rcases lk with ⟨_, z⟩ | ⟨k, _⟩
    · exact z
    · unfold Env.kindOf at k
      rw [hx] at k
      rcases k with k | k <;> cases k
  unfold unbindBehindTheSuite
  refine wpAny_onRaise (wpAny_unbindName_local hx hn hv hcls fun h' u' hn' hs => ?_)
  have I2 := I1.drop i
  rw [List.set_set] at I2
  obtain ⟨ok, os, bare, base, ⟨m2, hn2, hl2⟩, cell, free, freeC, pin, hok, len⟩ := id I2
  obtain ⟨oL, _, _, hoL, _⟩ := id hn
  have neL : ∀ b o, X.s₀.heap.get? b = some o → b ≠ X.env.locals := fun b o e => Nat.ne_of_lt (Nat.lt_of_lt_of_le (Heap.lt_size e) ok.above)
  refine h _ ⟨ok, os, bare, ⟨fun b o e n hb hx => ?_, fun b o e n hb hx => ?_, base.free, fun b o e hx => ?_, base.tups, base.frzs, base.tbls⟩, ⟨_, hn', fun j y v' e1 e2 e3 => ?_⟩, fun y c e => ?_, free, freeC, fun p hp => ?_, fun b ob e => ?_, len⟩
  · exact (hs.2 b (neL b o e)).trans (base.keep b o e n hb hx)
  · obtain ⟨sl, e1⟩ := base.slot b o e n hb hx
    exact ⟨sl, (hs.2 b (neL b o e)).trans e1⟩
  · obtain ⟨o', e1⟩ := base.there b o e hx
    exact ⟨o', (hs.2 b (neL b o e)).trans e1⟩
  · have hj : j ≠ i := fun q => by
      subst q
      rw [List.getElem?_set_self hiσ] at e2; cases e2
    rw [List.getElem?_set_ne (Ne.symm hj)] at e2
    obtain ⟨u'', r', q⟩ := hl j y v' e1 (by rw [List.getElem?_set_ne (Ne.symm hj)]; exact e2) e3
    refine ⟨u'', r', ?_⟩
    rcases q with ⟨k, e⟩ | ⟨k, c, e, z⟩
    · refine .inl ⟨k, ?_⟩
      have : y ≠ x := fun e => hj (nodup_ix hN e1 (e ▸ hi))
      simp [this, e]
    · exact .inr ⟨k, c, e, z.sameBut hs (I1.cne y c e)⟩
  · obtain ⟨w', z⟩ := I1.cell y c e
    exact ⟨w', z.sameBut hs (I1.cne y c e)⟩
  · obtain ⟨e, n, ne, nf, d⟩ := pin p hp
    exact ⟨(hs.2 p.1 ne).trans e, n, ne, nf, d⟩
  · refine (hok b ob e).stay (fun c w' hc q => (hs.2 c ?_).trans q) (fun _ q => q) fun _ _ q => q
    rintro rfl
    rcases hc with rfl | hc
    · rw [free] at e; cases e
    · rw [free] at hc; cases hc
/-- the record is not in flight: to say so changes nothing -/
theorem setFlightX {M : Model} {A : Around} {Q : Unit → Shared → Prop} {E : Value → Shared → Prop} (x : ExcOk s.heap H s0.heap e cls dd) (h : Q () s) : wpAny M A (setFlight (.ref e) none) Q E s := by
  obtain ⟨oe, vs, h1, h2, h3, h4, h5, h6, h7⟩ := x
  unfold setFlight
  rcases h7 with h7 | ⟨T, oT, ts, t1, t2, t3, t4, t5, t6, t7⟩
  · refine wpAny_bind (wpAny_field h1 h4 h7 ?_)
    rw [if_neg (by decide)]
    exact wpAny_pure h
  · refine wpAny_bind (wpAny_field h1 h4 t1 ?_)
    rw [if_pos (show (Value.ref T != Value.none) = true by simp)]
    refine wpAny_setField t3 t4 (Array.getElem?_eq_some_iff.mp t5).1 ?_
    have : s.heap.update T (Obj.mapFields (·.setIfInBounds 3 ((none : Option Addr).elim Value.none fun f => rawInt f))) = s.heap := by
      refine upd_id t3 ?_
      obtain ⟨c, d, da, sl⟩ := oT
      cases (show da = .fields ts from t4)
      show (⟨c, d, .fields (ts.setIfInBounds 3 .none), sl⟩ : Obj) = ⟨c, d, .fields ts, sl⟩
      have : ts.setIfInBounds 3 .none = ts := by
        obtain ⟨hlt, e2⟩ := Array.getElem?_eq_some_iff.mp t5
        refine Array.ext (by simp) fun i h1 h2 => ?_
        rw [Array.getElem_setIfInBounds]
        split
        · rename_i q
          subst q
          exact e2.symm
        · rfl
      rw [this]
    rw [this]
    exact h
end
/-! ### except suites -/
/-- within an except suite: the exception is marked, what it lies on is pinned, none leaves -/
def hCx (X : Cx) (ea : Addr) (ps : List (Addr × Obj)) : Cx := { X with A := X.A.mark (some (.ref ea)), calm := false, pn := X.pn ++ ps, xe := fun _ _ => False }
section
variable {X : Cx} {pins : List (Addr × Obj)} {σ σ0 : St} {H H0 : Hp} {s s0 : Shared} {e : Addr} {cls : Value} {dd : Option Addr}
theorem Cx.Ok.into (ok : X.Ok) {ea : Addr} {ps : List (Addr × Obj)} : (hCx X ea ps).Ok :=
  ⟨ok.mod, ok.kind, ok.glob, ok.blt, ok.above, ok.inj, ok.has, ok.cab, (fun h => nomatch h), ok.frames, ok.stk, ok.exf, ok.bs, ok.bsz, ok.noex, ok.exfs, ok.funs, ok.frf⟩
theorem Inv.into (I : Inv X pins σ H s) {ea : Addr} {ps : List (Addr × Obj)} (hp : ∀ p ∈ ps, s.heap.get? p.1 = some p.2 ∧ H p.1 = none ∧ p.1 ≠ X.env.locals ∧ p.1 ∉ X.fs ∧ ∀ v, p.2.data ≠ .cell v) : Inv (hCx X ea ps) pins σ H s := by
  refine ⟨I.ok.into, I.os, I.bare, I.base, I.loc, I.cell, I.free, I.freeC, fun p h => ?_, I.hok, I.len⟩
  rcases List.mem_append.mp h with h | h
  · rcases List.mem_append.mp h with h | h
    · exact I.pin p (List.mem_append_left _ h)
    · exact hp p h
  · exact I.pin p (List.mem_append_right _ h)
theorem Inv.outof {ea : Addr} {ps : List (Addr × Obj)} (I : Inv (hCx X ea ps) pins σ H s) (ok : X.Ok) : Inv X pins σ H s := by
  refine ⟨ok, I.os, I.bare, I.base, I.loc, I.cell, I.free, I.freeC, fun p h => ?_, I.hok, I.len⟩
  rcases List.mem_append.mp h with h | h
  · exact I.pin p (List.mem_append_left _ (List.mem_append_left _ h))
  · exact I.pin p (List.mem_append_right _ h)
/-- an exception met by a try, its record and itself pinned -/
theorem Inv.handle (I0 : Inv X pins σ0 H0 s0) (I : Inv X pins σ H s) (x : ExcOk s.heap H s0.heap e cls dd) : ∃ ps oe, (e, oe) ∈ ps ∧ oe.cls = cls ∧ oe.dict = dd ∧ (∃ vs, oe.data = .fields vs) ∧ Inv (hCx X e ps) pins σ H s ∧ ∀ {σ1 H1 s1}, Inv (hCx X e ps) pins σ1 H1 s1 → ExcOk s1.heap H1 s0.heap e cls dd := by
  obtain ⟨oe, vs, h1, h2, h3, h4, h5, h6, h7⟩ := x
  have new : ∀ T o vs, s0.heap.get? T = none → s.heap.get? T = some o → H T = none → o.data = .fields vs → s.heap.get? T = some o ∧ H T = none ∧ T ≠ X.env.locals ∧ T ∉ X.fs ∧ ∀ v, o.data ≠ .cell v := fun T o vs hT ho hn hd => by
    refine ⟨ho, hn, ?_, fun q => ?_, fun v q => by rw [hd] at q; cases q⟩
    · rintro rfl
      obtain ⟨_, ⟨o, _, _, ho, _⟩, _⟩ := I0.loc
      rw [hT] at ho; cases ho
    · obtain ⟨_, o, ho, _⟩ := I0.funs.mem q
      rw [hT] at ho; cases ho
  rcases h7 with h7 | ⟨T, oT, ts, t1, t2, t3, t4, t5, t6, t7⟩
  · refine ⟨[(e, oe)], oe, List.mem_singleton.mpr rfl, h2, h3, ⟨_, h4⟩, I.into fun p hp => ?_, fun {σ1 H1 s1} I1 => ?_⟩
    · cases List.mem_singleton.mp hp
      exact new e oe vs h5 h1 h6 h4
    · have p := I1.pin (e, oe) (List.mem_append_left _ (List.mem_append_right _ (List.mem_singleton.mpr rfl)))
      exact ⟨oe, vs, p.1, h2, h3, h4, h5, p.2.1, .inl h7⟩
  · refine ⟨[(e, oe), (T, oT)], oe, List.mem_cons_self, h2, h3, ⟨_, h4⟩, I.into fun p hp => ?_, fun {σ1 H1 s1} I1 => ?_⟩
    · rcases List.mem_cons.mp hp with rfl | hp
      · exact new e oe vs h5 h1 h6 h4
      · cases List.mem_singleton.mp hp
        exact new T oT ts t6 t3 t7 t4
    · have p := I1.pin (e, oe) (List.mem_append_left _ (List.mem_append_right _ List.mem_cons_self))
      have q := I1.pin (T, oT) (List.mem_append_left _ (List.mem_append_right _ (List.mem_cons_of_mem _ (List.mem_singleton.mpr rfl))))
      exact ⟨oe, vs, p.1, h2, h3, h4, h5, p.2.1, .inr ⟨T, oT, ts, t1, t2, q.1, t4, t5, t6, q.2.1⟩⟩
/-- an own class is asked of an exception of an own class -/
theorem excMatchC {K : Frag} {P : Program} {w : World} {A : Around} {E : Value → Shared → Prop} {Q : Bool → Shared → Prop} {C Ce : Addr} {B newId : String} {b : Bool} {oe : Obj} (kin : K.In s.heap) (he : s.heap.get? e = some oe) (hcls : oe.cls = .ref Ce) (XC : XCls K C B newId) (hm : mroIn K Ce (.ref C) = some b) (h : Q b s) :
    wpAny (model P w) A (excMatches (.ref e) (.ref C)) Q E s := by
  have Y := makesX_of (M := model P w) kin XC.mks
  obtain ⟨⟨oc, od, cd, sl, hC, _, _, _⟩, _, _, _, _, isE, _, _, _, typ⟩ := Y
  have T1 : Looks (model P w) s.heap (typeOf (.ref e)) (.ref Ce) := hcls ▸ (Looks.ld he).andThen .now
  have T2 : Looks (model P w) s.heap (typeOf (.ref C)) (.type "type") := looks_typeIn kin XC.ty
  have T4 : Looks (model P w) s.heap (isSubtype (.ref Ce) (.ref C)) b := looks_mroIn kin hm
  have f := tc_notTuple
  obtain ⟨hp, g, d, tk, os⟩ := s
  unfold excMatches
  repeat (first | with_reducible refine wpAny_loadPart_at hC ?_ | with_reducible refine isE.at ?_ | with_reducible refine T4.at ?_ | with_reducible refine typ.at ?_ | with_reducible refine T1.at ?_ | with_reducible refine T2.at ?_ | wp_step)
  cases b <;> (wp_walk; exact h)
end
end L2

set_option Elab.async false
set_option linter.all false
set_option maxRecDepth 100000
set_option maxHeartbeats 4000000
namespace L2
open PySem PySem.Spec PyProof.Rows PySem.SeqAt PySem.W Builtin.ObjectAttr
/-! ### handlers -/
/-- a row of handlers' reading: the exception's class and dict -/
abbrev THs := Ends → Addr → Option Addr → St → Hp → Prop
def PH (X : Cx) (hs : List ExceptHandler) (th : THs) : Prop :=
  ∀ (pins : List (Addr × Obj)) (s0 : Shared) (σ0 : St) (H0 : Hp) (s : Shared) (σ : St) (H : Hp) (D : Ends) (ea Ce : Addr) (dd : Option Addr), Inv X pins σ0 H0 s0 → Inv X pins σ H s → ExcOk s.heap H s0.heap ea (.ref Ce) dd → th D Ce dd σ H → wpAny (model X.prog X.w) X.A (handleBy (.ref ea) X.env hs) (SP X pins D) X.xe s
/-- the ends of an except suite: its name goes -/
def asEnds (i : Nat) (D : Ends) : Ends := ⟨fun σ H => D.nx (σ.set i none) H, D.rt, fun σ H => D.bk (σ.set i none) H, fun σ H => D.ct (σ.set i none) H⟩
def tHand (K : Frag) (C : Addr) (B newId : String) (i : Nat) (tb : Addr → Addr → Option Addr → TS) (tr : THs) : THs := fun D Ce dd σ H => XCls K C B newId ∧ ∃ b, mroIn K Ce (.ref C) = some b ∧ if b then ∀ ea, tb ea Ce dd (asEnds i D) (σ.set i (some (.ref ea))) H else tr D Ce dd σ H
section
variable {X : Cx}
theorem ph_nil : PH X [] (fun _ _ _ _ _ => False) := fun _ _ _ _ _ _ _ _ _ _ _ _ _ _ h => h.elim
theorem ph_cons {t : Expr} {n : Str} {b0 : Stmt} {body : List Stmt} {pos : Pos} {rest : List ExceptHandler} {C : Addr} {B newId : String} {i : Nat} {tb : Addr → Addr → Option Addr → TS} {tr : THs} (hN : X.N.Nodup) (hi : X.N[i]? = some n) (hx : X.env.scope.names.lookup n = some .local)
    (ht : ∀ ea ps, PE (hCx X ea ps) t (tC (.ref C))) (hb : ∀ ea oe ps Ce dd, (ea, oe) ∈ ps → oe.cls = .ref Ce → oe.dict = dd → (∃ vs, oe.data = .fields vs) → PSs (hCx X ea ps) (b0 :: body) (tb ea Ce dd)) (hr : PH X rest tr) :
    PH X (.ExceptHandler (some t) (some n) (b0 :: body) pos :: rest) (tHand X.K C B newId i tb tr) := by
  intro pins s0 σ0 H0 s σ H D ea Ce dd I0 I x h
  obtain ⟨XC, b, hm, hk⟩ := h
  obtain ⟨ps, oe, hmem, hc, hd, hvs, IH, back⟩ := I0.handle I x
  refine wpAny_handleBy_cons (codeAny_handlers_test (wpAny_mono (ht ea ps pins s σ H (fun v H1 => v = .ref C ∧ H1 = H) IH ⟨rfl, rfl⟩) (fun c s1 z => ?_) fun _ _ z => z.elim)) (by intro q; cases q)
  obtain ⟨v, H1, I1, r, rfl, rfl⟩ := z
  cases (show c = Value.ref C from r)
  have p := I1.pin (ea, oe) (List.mem_append_left _ (List.mem_append_right _ hmem))
  refine excMatchC I1.kIn p.1 hc XC hm ?_
  cases b with
  | false => exact hr pins s0 σ0 H0 s1 σ H1 D ea Ce dd I0 (I1.outof I.ok) (back I1) hk
  | true =>
    refine codeAny_handlers_suite_as (setFlightX (back I1) (store_ok (X := hCx X ea ps) I1 hN hi (.inl hx) (v := .ref ea) rfl (fun s2 I2 => wpAny_mono (hb ea oe ps Ce dd hmem hc hd hvs pins s2 _ _ (asEnds i D) I2 (hk ea)) (fun f s3 z => ?_) fun _ _ z => z.elim) (.inr hx)))
    show wpAny _ X.A _ _ X.xe s3
    cases f with
    | next =>
      obtain ⟨σ', H', I3, q⟩ := z
      exact unbindX (I3.outof I.ok) hN hi hx fun s' I' => ⟨_, _, I', q⟩
    | brk =>
      obtain ⟨σ', H', I3, q⟩ := z
      exact unbindX (I3.outof I.ok) hN hi hx fun s' I' => ⟨_, _, I', q⟩
    | cont =>
      obtain ⟨σ', H', I3, q⟩ := z
      exact unbindX (I3.outof I.ok) hN hi hx fun s' I' => ⟨_, _, I', q⟩
    | ret u =>
      obtain ⟨v, σ', H', I3, r', q⟩ := z
      exact unbindX (I3.outof I.ok) hN hi hx fun s' I' => ⟨v, _, _, I', r', q⟩
end
/-! ### try: two ways out -/
section
variable {X : Cx}
/-- what is wanted of an exception that leaves a try's body: the state as it is known there -/
def tryE (X : Cx) (pins : List (Addr × Obj)) (s0 : Shared) (W : Addr → Option Addr → St → Hp → Prop) : Value → Shared → Prop := fun v s => ∃ ea Ce dd σ H, v = .ref ea ∧ Inv X pins σ H s ∧ (∀ b o, s0.heap.get? b = some o → ∃ o', s.heap.get? b = some o') ∧ ExcOk s.heap H s0.heap ea (.ref Ce) dd ∧ W Ce dd σ H
/-- a body that may raise: its ends and its exceptions -/
abbrev TSX := Ends → (Addr → Option Addr → St → Hp → Prop) → St → Hp → Prop
def PSX (X : Cx) (st : List Stmt) (t : TSX) : Prop :=
  ∀ (pins : List (Addr × Obj)) (s : Shared) (σ : St) (H : Hp) (D : Ends) (W : Addr → Option Addr → St → Hp → Prop), Inv X pins σ H s → t D W σ H → wpAny (model X.prog X.w) X.A (execs st X.env) (SP X pins D) (tryE X pins s W) s
def tTry (t : TSX) (th : THs) : TS := fun D σ H => t D (fun Ce dd σ' H' => th D Ce dd σ' H') σ H
theorem ps_try {body : List Stmt} {h0 : ExceptHandler} {hs : List ExceptHandler} {pos : Pos} {t : TSX} {th : THs} (hst : X.stack = X.env :: X.outer) (hfm : X.env.frame = some X.env.locals) (hex : X.ex = []) (hb : PSX X body t) (hh : PH X (h0 :: hs) th) : PS X (.Try body (h0 :: hs) [] [] pos) (tTry t th) := by
  intro pins s σ H D I h
  refine wpAny_Try_except (wpAny_mono (hb pins s σ H D _ I h) (fun f s1 z => ?_) fun v s1 z => ?_)
  · cases f with
    | next => exact wpAny_execs_nil z
    | brk => exact z
    | cont => exact z
    | ret u => exact z
  · obtain ⟨ea, Ce, dd, σ1, H1, rfl, I1, th1, x, q⟩ := z
    refine catchX I I1 hst hfm I.ok.frames hex th1 x fun h' x' I2 => hh pins s σ H _ σ1 H1 D ea Ce dd I I2 x' q
end
end L2

set_option Elab.async false
set_option linter.all false
set_option maxRecDepth 100000
set_option maxHeartbeats 4000000
namespace L2
open PySem PySem.Spec PyProof.Rows PySem.SeqAt PySem.W Builtin.ObjectAttr
/-! ### a function of no arguments, held by a name -/
/-- f, called with nothing at a later state: what was there (g, without H₀ and the frames fr) is there still, the tracked things are H -/
structure Thunk (P : Program) (w : World) (K : Frag) (mg : Str → Option Value) (base : Heap) (g : Heap) (H₀ : Hp) (fr : List Addr) (k : Nat) (f : Addr) (H : Hp) (Qv : VK) (Ev : XK) : Prop where
  fn : ∀ s : Shared, HOk P w H s.heap → ∃ fo fd, s.heap.get? f = some fo ∧ fo.data = .func fd
  run : ∀ (A : Around) (outer : List Env) (s : Shared), Room k A → Env0 P w K mg base A outer s H → (∀ b o, g.get? b = some o → H₀ b = none → b ∉ fr → s.heap.get? b = some o) → codeAny (model P w) A (.call (.ref f) ⟨[], []⟩) (CR (CX1 P w) outer P w H s Qv Ev) s
section
variable {X : Cx}
theorem keeps_F {M : Model} {f : Addr} (h : Heap) (z : ∃ fo fd, h.get? f = some fo ∧ fo.data = .func fd) : ∃ k, (k = Keeper.frame ∨ k = Keeper.machine ∨ k = Keeper.boundFrame) ∧ Looks M h (keeperOf (.ref f)) k := by
  obtain ⟨fo, fd, e, d⟩ := z
  obtain ⟨c, di, da, sl⟩ := fo
  cases (show da = .func fd from d)
  exact ⟨.frame, .inl rfl, (Looks.ld (part := none) e).andThen .now⟩
/-- x = a(), a a name that holds such a function -/
def tThunk (X : Cx) (k i j : Nat) : TSX := fun D W σ H => ∃ f Qv Ev, σ[j]? = some (some (.ref f)) ∧ Thunk X.prog X.w X.K X.mg X.base X.s₀.heap X.H₀ X.fs k f H Qv Ev ∧ (∀ v H', Qv v H' → D.nx (σ.set i (some v)) H') ∧ ∀ cls dd H', Ev cls dd H' → ∃ Ce, cls = .ref Ce ∧ W Ce dd σ H'
theorem psx_thunk {k i j : Nat} {x a : Str} {px pa pc pos : Pos} (hN : X.N.Nodup) (hi : X.N[i]? = some x) (hx : Loc X.env.scope x) (hj : X.N[j]? = some a) (ha : Vis X.env.scope a) (hex : X.ex = []) (hr : Room k X.A) (hs : swapsWith (.Call (.Name a pa) [] [] pc) (some (.Name x px)) pos.line X.env = pure false := by rfl) (hf : X.fn x = true ∨ X.env.scope.names.lookup x = some .local := by first | exact .inl rfl | exact .inr rfl | assumption)
    (hd : (a == ("__debug__" : Str)) = false := by decide) (hcd : (a == ("__classdict__" : Str)) = false := by decide) :
    PSX X [.Assign [.Name x px] (.Call (.Name a pa) [] [] pc) pos] (tThunk X k i j) := by
  intro pins s σ H D W I h
  obtain ⟨f, Qv, Ev, e, T, hv, he⟩ := h
  have kp : ∀ b o, X.s₀.heap.get? b = some o → X.H₀ b = none → b ∉ X.fs → s.heap.get? b = some o := fun b o z n hb => I.base.keep b o z n hb (by rw [hex]; simp)
  have fin : ∀ t : Sem Flow, wpAny (model X.prog X.w) X.A t (fun f s1 => f = .next ∧ ∃ v H', Inv X pins (σ.set i (some v)) H' s1 ∧ Qv v H') (tryE X pins s W) s → wpAny (model X.prog X.w) X.A t (SP X pins D) (tryE X pins s W) s := fun t ht => thn ht fun f s1 ⟨q, v, H', I1, z⟩ => by subst q; exact ⟨_, _, I1, hv _ _ z⟩
  have one : wpAny (model X.prog X.w) X.A (exec (.Assign [.Name x px] (.Call (.Name a pa) [] [] pc) pos) X.env) (fun f s1 => f = .next ∧ ∃ v H', Inv X pins (σ.set i (some v)) H' s1 ∧ Qv v H') (tryE X pins s W) s := by
    refine wpAny_Assign_Name (thn (Q := EP X pins σ Qv) ?_ fun v s1 ⟨y, H1, I1, r1, q1⟩ => store_ok I1 hN hi hx r1 (fun s2 I2 => ⟨rfl, y, H1, I2, q1⟩) hf) hs
    refine wpAny_Call_Name_kw ?_
    have named : ∀ Q' : Value → Shared → Prop, Q' (.ref f) s → wpAny (model X.prog X.w) X.A (eval (.Name a pa) X.env) Q' (tryE X pins s W) s := fun Q' hq => by
      obtain ⟨m, hn, hl⟩ := I.loc
      obtain ⟨u, r, l⟩ := hl j a (.ref f) hj e ha
      cases (show u = Value.ref f from r)
      rcases l with ⟨hk, hm⟩ | ⟨hk, c, hc, hcell⟩
      · exact wpAny_Name (wpAny_loadName_local I.ok.kind hk hn hm hq) hd
      · rcases hk with hk | hk
        · exact wpAny_Name (wpAny_loadName_cell I.ok.kind hk hc hcell hq) hd
        · exact wpAny_Name (wpAny_loadName_free I.ok.kind hk hc hcell hq hcd) hd
    refine named _ ?_
    obtain ⟨fo, fd, g1, g2⟩ := T.fn s I.hok
    refine callWith_of (P := fun h => ∃ fo fd, h.get? f = some fo ∧ fo.data = .func fd) rfl keeps_F (evalArgs_nil3 ⟨⟨fo, fd, g1, g2⟩, ?_⟩)
    refine wpAny_call (codeAny_mono (T.run X.A X.stack s hr I.env0 kp) fun r s' hq => ?_)
    cases r with
    | error ev =>
      obtain ⟨ea, cls, dd, H', rfl, os, bare, un, hok, xo, q⟩ := hq
      obtain ⟨Ce, rfl, z⟩ := he _ _ _ q
      refine ⟨ea, Ce, dd, σ, H', rfl, I.call' os un hok bare (fun b z => absurd z (by simp)), fun b o z => un.there b o z (by simp), xo, z⟩
    | ok fl =>
      cases fl with
      | ret u => exact I.after hq
      | next => exact False.elim hq
      | brk => exact False.elim hq
      | cont => exact False.elim hq
  refine wpAny_execs_cons (thn one fun fl s1 z => ?_)
  obtain ⟨rfl, v, H', I1, q⟩ := z
  exact wpAny_execs_nil ⟨_, _, I1, hv _ _ q⟩
end
end L2

set_option Elab.async false
set_option linter.all false
set_option maxRecDepth 100000
set_option maxHeartbeats 4000000
namespace L2
open PySem PySem.Spec PyProof.Rows PySem.SeqAt PySem.W Builtin.ObjectAttr
/-! ### an attribute of a caught exception -/
structure XGet (K : Frag) (C : Addr) (f : Str) : Prop where
  ga : findIn K (.ref C) "__getattribute__" = some (some (.builtin "BaseException.__getattribute__"))
  gh : findIn K (.ref C) "__getattr__" = some none
  hd : hasDictIn K C = true
  na : findIn K (.ref C) f = some none
  be : mroIn K C (.type "BaseException") = some true
section
variable {prog : Program} {w : World} {A : Around} {E : Value → Shared → Prop} {s : Shared} {K : Frag} {x C : Addr} {ox : Obj} {od : Option Obj} {name : Str} {expr : Bool} {Q : Value → Shared → Prop}
theorem getX {v : Value} (X : K.In s.heap) (I : InstAt s.heap x ox C od) (G : XGet K C name) (hf : findObj K C od name = some (.value v)) (hh : handedIn v = true) (h : Q v { s with toks := s.toks + 1 }) : wpAny (model prog w) A (getAttr (.ref x) name expr) Q E s := by
  obtain ⟨hp, g, d, t, os⟩ := s
  have L0 := I.type (M := model prog w)
  have L1 := looks_findIn (M := model prog w) X G.ga
  have L2 := looks_findIn (M := model prog w) X G.gh
  have L3 := looks_find (M := model prog w) X I hf
  have LB : Looks (model prog w) hp (isInstance (.ref x) (.type "BaseException")) true := L0.andThen (looks_mroIn X G.be)
  have f3 := F.excAttr_ValueError.ga.bind (.ref x)
  have hx0 : (expr && onTheHeap (Value.builtin "BaseException.__getattribute__")) = false := by cases expr <;> rfl
  have hx2 : (Value.builtin "BaseException.__getattribute__" == Value.builtin "object.__getattribute__") = false := by decide +kernel
  have hx1 : (onTheHeap (Value.ref C) && Value.builtin "BaseException.__getattribute__" == Value.builtin "object.__getattribute__") = false := by rw [hx2]; rfl
  unfold getAttr getAttrBy
  refine wpAny_bind (wpAny_mkText (wpAny_holding (wpAny_bind (L0.at (wpAny_bind (L1.at ?_))))))
  dsimp only
  rw [if_neg (by rw [hx1]; decide)]
  unfold getAttrByItsOwn hookBefore
  rw [if_pos (show onTheHeap (Value.ref C) = true from rfl)]
  refine wpAny_bind (L2.at ?_)
  have key : ∀ R : Result → Shared → Prop, R (.ok (.ret v)) ⟨hp, g, d, t + 1, os⟩ → codeAny (model prog w) A (.call (.builtin "BaseException.__getattribute__") ⟨[.ref x, .str name t], []⟩) R ⟨hp, g, d, t + 1, os⟩ := fun R hR => by
    refine codeAny_call_builtin F.excAttr_ValueError.ga.plain F.entry_bexc_ga (check_slot (i := "BaseException.__getattribute__") (owner := "BaseException") (n := "__getattribute__") (by decide +kernel) (by decide +kernel) LB (F.args_bexc_ga _ _) ?_)
    refine wpAny_bind (wpAny_pure (wpAny_bind (wpAny_pure (wpAny_bind (L0.at (wpAny_bind (L3.at ?_)))))))
    exact wpAny_pure hR
  have done : wpAny (model prog w) A (handedOut v) Q E ⟨hp, g, d, t + 1, os⟩ := by rw [handedOut_of hh]; exact wpAny_pure h
  clear L0 L1 L2 L3 LB hf I G X
  repeat (any_goals (first | assumption | wp_step))
  exact key _ done
end
/-- e.f, e the exception at hand in an except suite -/
def tXat (K : Frag) (ea C : Addr) (dd : Option Addr) (ta : TE) (f : Str) : TE := fun σ H Q => ta σ H fun x H1 => ∃ da fs v, x = .ref ea ∧ dd = some da ∧ H1 da = some (exD da fs) ∧ XGet K C f ∧ fs.lookup f = some v ∧ Q v H1
section
variable {X : Cx} {e : Expr} {f : Str} {pos : Pos} {ta : TE} {ea C : Addr} {oe : Obj} {dd : Option Addr}
theorem pe_xat (hm : (ea, oe) ∈ X.pn) (hc : oe.cls = .ref C) (hdct : oe.dict = dd) (hd : ∃ vs, oe.data = .fields vs) (he : PE X e ta) (hb : attributeBase e f X.env (eval e X.env) = eval e X.env := by rfl) : PE X (.Attribute e f pos) (tXat X.K ea C dd ta f) := by
  intro pins s σ H Q I h
  refine attr_of hb (thn (he pins s σ H _ I h) fun u s1 ⟨x, H1, I1, rx, da, fs, v, ex, ed, hH, G, l, q⟩ => ?_)
  subst ex
  subst ed
  obtain rfl : u = Value.ref ea := rx
  have p := (I1.pin (ea, oe) (List.mem_append_left _ hm)).1
  obtain ⟨⟨mA, hn, r, wi⟩, _, _⟩ := I1.hok da _ hH
  obtain ⟨u, hu, ru⟩ := RelO.some_of (v := v) (o := mA f) (by rw [← l]; exact r f)
  obtain ⟨od, ho, hl⟩ := lookIn_ns hn
  obtain ⟨vs, hvs⟩ := hd
  have J : PySem.W.InstAt s1.heap ea oe C (some od) := ⟨p, hc, by unfold notCls; rw [hvs], by rw [hdct]; exact ho⟩
  exact getX I1.kIn J G (findObj_own G.hd G.na rfl (by rw [hl, hu])) (handed_of ru) ⟨v, H1, I1.tok _, ru, q⟩
end
end L2

set_option Elab.async false
set_option linter.all false
set_option maxRecDepth 100000
set_option maxHeartbeats 4000000
namespace L2
open PySem PySem.Spec PyProof.Rows
structure FnOkS (P : Program) (w : World) (K : PySem.W.Frag) (mg : Str → Option Value) (base : Heap) (CX : CXT) (k : Nat) (f : Addr) (fd : FuncData) (ps : List Str) (sp : Shared → List Env → Sp) : Prop where
  len : ∀ s outer vs H Q E, sp s outer vs H Q E → vs.length = ps.length
  run : ∀ (A : Around) (outer : List Env) (s : Shared) (H : Hp) (args : Args) (us : List Value) (vs : List V) (Q : VK) (E : XK), Room k A → Env0 P w K mg base A outer s H → BindsTo s fd args (ps.zip us) → Vals vs us → sp s outer vs H Q E →
    codeAny (model P w) A (.call (.ref f) args) (CR CX outer P w H s Q E) s

theorem fnS_of {CX : CXT} {P : Program} {w : World} {K : PySem.W.Frag} {mg : Str → Option Value} {base : Heap} {k : Nat} {f : Addr} {name qual : Str} {params : Arguments} {body : List Stmt} {scope : Scope} {dV kV doc pm cdv ct oc : Value} {an od : Option Addr}
    {osl : Array (Option Value)} {N ps : List Str} {sp : Shared → List Env → Sp} (lk : K.lookup f = some ⟨oc, od, .func (PySem.W.fnOf name qual params body scope dV kV doc pm an cdv ct), osl⟩) (hcd : PySem.W.codeIn K cdv qual = true) (S : FnScope N ps scope)
    (len : ∀ s outer vs H Q E, sp s outer vs H Q E → vs.length = ps.length)
    (hbody : ∀ (A : Around) (outer : List Env) (s : Shared) (H : Hp) (vs : List V) (Q : VK) (E : XK), Room k (A.deeper (envOfC qual scope s.heap.objs.size f cdv)) → sp s outer vs H Q E →
      ∃ t, PSs (cxOf CX P w K mg base N qual scope f cdv A outer s H E) body t ∧ t { nx := fun _ H' => Q .non H', rt := Q } (start N vs) H) :
    FnOkS P w K mg base CX (k + 1) f (PySem.W.fnOf name qual params body scope dV kV doc pm an cdv ct) ps sp := by
  refine ⟨len, fun A outer s H args us vs Q E hr e0 hb r hsp => ?_⟩
  have hl := len _ _ _ _ _ _ hsp
  have KX : K.In s.heap := e0.mod.kin.keeps fun b o e => (e0.bs b o e).1
  have lim : s.heap.NoLimit := e0.mod.nolimit.keeps fun b o e => (e0.bs b o e).1
  have hkind : ∀ y ∈ ps.zip us, scope.names.lookup y.1 = some .local ∨ (scope.names.lookup y.1 = some .cell ∧ ((cellsFrom (s.heap.objs.size + 1) scope.names []).lookup y.1).isSome = true) := fun ⟨n, v⟩ hy => by
    rcases S.par n (List.of_mem_zip hy).1 with q | q
    · exact .inl q
    · exact .inr ⟨q, PySem.W.cellsFrom_some _ _ _ (.inl q)⟩
  refine codeAny_call_function hr.depth (KX _ _ lk) rfl S.co S.gen rfl (PySem.W.codeRec_of KX hcd) (hb _ _ _ _ ?_)
  refine wpAny_newFunctionEnv_cells S.kind hkind fun env he s1 x => ?_
  subst he
  refine ⟨lim.keeps x.toInCall.keep, codeAny_func ?_⟩
  obtain ⟨t, ht, hq⟩ := hbody A outer s H vs Q E (hr.deeper _) hsp
  have I : Inv (cxOf CX P w K mg base N qual scope f cdv A outer s H E) [] (start N vs) H s1 := inv_start S hr.hd e0 hl r x
  refine wpAny_mono (ht [] s1 (start N vs) H _ I hq) (fun fl s' hs => ?_) fun e s' hs => hs
  have fin : ∀ {σ' : St} {H' : Hp} {v : V} {u : Value}, Inv (cxOf CX P w K mg base N qual scope f cdv A outer s H E) [] σ' H' s' → RelV v u → Q v H' → CE outer P w H s Q u s' :=
    fun {σ' H' v u} J rv q => ⟨v, H', J.os, J.bare, J.base, J.hok, rv, q⟩
  cases fl with
  | ret u =>
    obtain ⟨v, σ', H', J, rv, q⟩ := hs
    exact fin J rv q
  | next =>
    obtain ⟨σ', H', J, q⟩ := hs
    exact fin (v := V.non) (u := Value.none) J rfl q
  | brk =>
    obtain ⟨_, _, _, q⟩ := hs
    exact False.elim q
  | cont =>
    obtain ⟨_, _, _, q⟩ := hs
    exact False.elim q
end L2

set_option Elab.async false
set_option linter.all false
set_option maxRecDepth 100000
set_option maxHeartbeats 4000000
namespace L2
open PySem PySem.Spec PyProof.Rows
section
variable {P : Program} {w : World} {K : PySem.W.Frag} {mg : Str → Option Value} {base : Heap}
theorem Fun.okS {CX : CXT} {x qual : Str} {st : Stmt} {f : Addr} {fd : FuncData} {N ps : List Str} {k : Nat} {sp : Shared → List Env → Sp} (F : Fun K x qual st f fd) (S : FnScope N ps (defScope st)) (len : ∀ s outer vs H Q E, sp s outer vs H Q E → vs.length = ps.length)
    (hbody : ∀ (cdv : Value) (A : Around) (outer : List Env) (s : Shared) (H : Hp) (vs : List V) (Q : VK) (E : XK), Room k (A.deeper (envOfC qual (defScope st) s.heap.objs.size f cdv)) → sp s outer vs H Q E →
      ∃ t, PSs (cxOf CX P w K mg base N qual (defScope st) f cdv A outer s H E) (defBody st) t ∧ t { nx := fun _ H' => Q .non H', rt := Q } (start N vs) H) : FnOkS P w K mg base CX (k + 1) f fd ps sp := by
  obtain ⟨oc, od, kV, doc, pm, an, cdv, ct, osl, rfl, lk, hcd⟩ := F.ex
  exact fnS_of lk hcd S len fun A outer s H vs Q E hr hsp => hbody cdv A outer s H vs Q E hr hsp
/-- a def whose exceptions are told by E -/
theorem Fun.ok1 {CX : CXT} {x qual : Str} {st : Stmt} {f : Addr} {fd : FuncData} {N ps : List Str} {k : Nat} {sp : Sp} (F : Fun K x qual st f fd) (S : FnScope N ps (defScope st)) (len : ∀ vs H Q E, sp vs H Q E → vs.length = ps.length)
    (hbody : ∀ (cdv : Value) (A : Around) (outer : List Env) (s : Shared) (H : Hp) (vs : List V) (Q : VK) (E : XK), Room k (A.deeper (envOfC qual (defScope st) s.heap.objs.size f cdv)) → sp vs H Q E →
      ∃ t, PSs (cxOf CX P w K mg base N qual (defScope st) f cdv A outer s H E) (defBody st) t ∧ t { nx := fun _ H' => Q .non H', rt := Q } (start N vs) H) : FnOk P w K mg base CX (k + 1) f fd ps sp := by
  obtain ⟨oc, od, kV, doc, pm, an, cdv, ct, osl, rfl, lk, hcd⟩ := F.ex
  exact fn_of lk hcd S len fun A outer s H vs Q E hr hsp => hbody cdv A outer s H vs Q E hr hsp
end
section
variable {X : Cx} {e : Expr} {f : Str} {pos : Pos} {ta : TE} {ea C : Addr} {oe : Obj} {ps : List (Addr × Obj)} {dd : Option Addr}
theorem pe_xatH (hm : (ea, oe) ∈ ps) (hc : oe.cls = .ref C) (hdct : oe.dict = dd) (hd : ∃ vs, oe.data = .fields vs) (he : PE (hCx X ea ps) e ta) (hb : attributeBase e f X.env (eval e X.env) = eval e X.env := by rfl) : PE (hCx X ea ps) (.Attribute e f pos) (tXat X.K ea C dd ta f) :=
  pe_xat (X := hCx X ea ps) (List.mem_append_right _ hm) hc hdct hd he hb
end
end L2

set_option Elab.async false
set_option linter.all false
set_option maxRecDepth 100000
set_option maxHeartbeats 4000000
namespace L2
open PySem PySem.Spec PyProof.Rows PySem.W
/-! ### lambda: of no parameters, called -/
/-- a code object, tracked -/
def codeO (c : Addr) (qual : Str) : HO := .ext fun h => h.CodeRec (.ref c) qual
theorem codeO_ok {P : Program} {w : World} {H : Hp} {h : Heap} {c : Addr} {qual : Str} (x : h.CodeRec (.ref c) qual) : ObjOk P w H h c (codeO c qual) := by
  obtain ⟨c', o, vs, t, e, g, r⟩ := id x
  cases e
  refine ⟨x, ⟨o, g⟩, fun h1 h2 z k => ?_⟩
  obtain ⟨c', o', vs', t', e', g', r'⟩ := z
  cases e'
  exact ⟨c, o', vs', t', rfl, k _ g', r'⟩
/-- a function that a lambda made, tracked -/
def lamO (f : Addr) (o : Obj) : HO := .ext fun h => h.get? f = some o
theorem lamO_ok {P : Program} {w : World} {H : Hp} {h : Heap} {f : Addr} {o : Obj} (x : h.get? f = some o) : ObjOk P w H h f (lamO f o) := ⟨x, ⟨o, x⟩, fun h1 h2 z k => k _ z⟩
/-- the context of a lambda's body -/
def cxLam (P : Program) (w : World) (K : Frag) (mg : Str → Option Value) (base : Heap) (N : List Str) (qual : Str) (scope : Scope) (f : Addr) (cd : Value) (cl : List (Str × Addr)) (A : Around) (outer : List Env) (s : Shared) (H : Hp) (E : XK) : Cx where
  prog := P
  w := w
  K := K
  mg := mg
  base := base
  A := A.deeper (envX qual scope s.heap.objs.size f cd cl)
  N := N
  s₀ := s
  H₀ := H
  env := envX qual scope s.heap.objs.size f cd cl
  outer := outer
  stack := envX qual scope s.heap.objs.size f cd cl :: outer
  ex := []
  calm := true
  fn := fun _ => false
  pn := []
  xe := fun e s' => wpAny (model P w) (A.deeper (envX qual scope s.heap.objs.size f cd cl)) (leaving (envX qual scope s.heap.objs.size f cd cl) e) (fun _ s'' => CX1 P w outer H s E e s'') (fun e' s'' => CX1 P w outer H s E e' s'') s'
section
variable {P : Program} {w : World} {K : Frag} {mg : Str → Option Value} {base : Heap} {N : List Str} {qual : Str} {scope : Scope} {f : Addr} {cd : Value} {cl : List (Str × Addr)} {A : Around} {outer : List Env} {s : Shared} {H : Hp} {E : XK}
theorem xeL {pins : List (Addr × Obj)} {σ : St} {H' : Hp} {s' : Shared} {e : Addr} {cls : Value} {dd : Option Addr} (I : Inv (cxLam P w K mg base N qual scope f cd cl A outer s H E) pins σ H' s') (x : ExcOk s'.heap H' s.heap e cls dd) (h : E cls dd H') :
    (cxLam P w K mg base N qual scope f cd cl A outer s H E).xe (.ref e) s' :=
  leaveX I rfl rfl I.ok.frames rfl x fun h' x' u k => ⟨e, cls, dd, H', rfl, I.os, I.bare, u, k, x', h⟩
theorem passL {E' : XK} (hE : ∀ cls dd H', E' cls dd H' → E cls dd H') : Passes (CX1 P w) (cxLam P w K mg base N qual scope f cd cl A outer s H E) E' := by
  intro pins σ H1 s1 e s' I h
  obtain ⟨ea, cls, dd, H', rfl, os, bare, un, hok, x, q⟩ := h
  have I' : Inv (cxLam P w K mg base N qual scope f cd cl A outer s H E) pins σ H' s' := I.call' (ch := []) os un hok bare (fun b z => absurd z (by simp))
  refine xeL I' (x.mono fun b hb => ?_) (hE _ _ _ q)
  cases z : s.heap.get? b with
  | none => rfl
  | some o =>
    obtain ⟨o', q'⟩ := I.base.there b o z (by intro hz; cases hz)
    rw [hb] at q'; cases q'
/-- what the closure holds -/
structure Clos (scope : Scope) (cl : List (Str × Addr)) (N : List Str) (g : Heap) (H : Hp) (fr : List Addr) (σ : St) : Prop where
  inj : ∀ x y c, cl.lookup x = some c → cl.lookup y = some c → x = y
  has : ∀ x, (scope.names.lookup x = some .cell ∨ scope.names.lookup x = some .free) → ∃ c, cl.lookup x = some c
  cell : ∀ x c, cl.lookup x = some c → (∃ v, g.IsCell c v) ∧ H c = none ∧ c ∉ fr
  val : ∀ (i : Nat) x v, N[i]? = some x → σ[i]? = some (some v) → scope.names.lookup x = some .free ∧ ∃ c u, cl.lookup x = some c ∧ RelV v u ∧ g.IsCell c (some u)
  len : σ.length = N.length
theorem thunk_lam {g : Heap} {fr : List Addr} {σ : St} {k : Nat} {name : Str} {params : Arguments} {body : Expr} {pm ctv : Value} {c' : Addr} {Qv : VK} {t : TE} (ho : H f = some (lamO f (kla_obj name qual params body scope cl pm c' ctv)))
    (hc : H c' = some (codeO c' qual)) (C : Clos scope cl N g H fr σ) (hbind : bindArgs (kla_fn name qual params body scope cl pm (.ref c') ctv) ⟨[], []⟩ = pure [])
    (hco : scope.isCoroutine = false) (hgen : scope.isGenerator = false) (hk : scope.kind = .function) (hcell : ∀ x ∈ scope.names, x.2 ≠ .cell)
    (hb : ∀ (A : Around) (outer : List Env) (s : Shared), Room k (A.deeper (envX qual scope s.heap.objs.size f (.ref c') cl)) → PE (cxLam P w K mg base N qual scope f (.ref c') cl A outer s H E) body t) (hq : t σ H Qv) : Thunk P w K mg base g H fr (k + 1) f H Qv E := by
  refine ⟨fun s hok => ⟨_, _, (hok f _ ho).1, rfl⟩, fun A outer s hr e0 kp => ?_⟩
  have lim : s.heap.NoLimit := e0.mod.nolimit.keeps fun b o e => (e0.bs b o e).1
  refine kla_callFunE hr.depth (e0.hok f _ ho).1 rfl hco hgen rfl (e0.hok c' _ hc).1 ?_
  rw [hbind]
  refine wpAny_pure (wpAny_newFunctionEnv hcell (fun y hy => absurd hy (by simp)) (fun h₁ hns hsb => ⟨lim.fresh _ hsb, ?_⟩) hk)
  show codeAny _ _ (.expr body (envX qual scope s.heap.objs.size f (.ref c') cl)) _ _
  have hk₁ : ∀ b o, s.heap.get? b = some o → h₁.get? b = some o := fun b o e => hsb.extBut b o (Nat.ne_of_lt (Heap.lt_size e)) (Heap.get?_push_of_some _ e)
  have isC : ∀ x c v, cl.lookup x = some c → g.IsCell c v → h₁.IsCell c v := fun x c v e z => by
    obtain ⟨_, h2, h3⟩ := C.cell x c e
    obtain ⟨o, ho, hd⟩ := z
    exact ⟨o, hk₁ _ _ (kp _ _ ho h2 h3), hd⟩
  have noA : ∀ b : Addr, b ∉ ([] : List Addr) := fun b z => absurd z (by simp)
  have I : Inv (cxLam P w K mg base N qual scope f (.ref c') cl A outer s H E) [] σ H { s with heap := h₁, toks := s.toks + 0 } := by
    refine ⟨⟨e0.mod, hk, rfl, rfl, Nat.le_refl _, C.inj, fun y hy => C.has y hy, fun y c z => absurd z (by simp [cxLam]), fun _ => hr.hd, Around.frames_deeper e0.frames, .inr ⟨rfl, rfl⟩, fun b z => absurd z (noA b), e0.bs, e0.bsz, fun b _ _ => noA b, fun b z => absurd z (noA b), e0.funs, e0.frf⟩,
      rfl, e0.bare, Un.kept hk₁, ⟨_, hns, fun i y v h1 h2 h3 => ?_⟩, fun y c h => ?_, e0.hok.fresh (Nat.le_refl _), fun y c h => (C.cell y c h).2.1, fun p hp => absurd (show p ∈ ([] : List (Addr × Obj)) from hp) (by simp), e0.hok.kept hk₁, C.len⟩
    · obtain ⟨fr', c, u, e, r, z⟩ := C.val i y v h1 h2
      exact ⟨u, r, .inr ⟨.inr fr', c, e, isC y c _ e z⟩⟩
    · obtain ⟨⟨v, z⟩, _⟩ := C.cell y c h
      exact ⟨v, isC y c v h z⟩
  exact kla_codeExpr (wpAny_mono (hb A outer s (hr.deeper _) [] _ σ H Qv I hq) (fun u s' ⟨v, H', J, rv, q⟩ => ⟨v, H', J.os, J.bare, J.base, J.hok, rv, q⟩) fun _ _ y => y)
end
end L2

set_option Elab.async false
set_option linter.all false
set_option maxRecDepth 100000
set_option maxHeartbeats 4000000
namespace L2
open PySem PySem.Spec PyProof.Rows PySem.W
/-! ### lambda: made -/
section
variable {X : Cx} {pins : List (Addr × Obj)} {σ : St} {H : Hp} {s : Shared} {h' : Heap} {P c' : Addr} {ps more : Array Value} {qual : Str}
/-- the table of a code object grows by a new code object -/
theorem Inv.grow {t' : Nat} (I : Inv X pins σ H s) (hP : H P = some (.tbl ps)) (hx : Heap.ExtBut P s.heap h') (hc : s.heap.objs.size ≤ c') (hcr : h'.CodeRec (.ref c') qual) (hp : h'.get? P = some { cls := .none, data := .fields (ps ++ more) }) :
    Inv X pins σ (upd (upd H P (.tbl (ps ++ more))) c' (codeO c' qual)) { s with heap := h', toks := t' } := by
  have hPl : P < s.heap.objs.size := I.hok.lt hP
  have hcP : c' ≠ P := fun q => by subst q; exact absurd (Nat.lt_of_lt_of_le hPl hc) (Nat.lt_irrefl _)
  have lt : ∀ b o, s.heap.get? b = some o → b ≠ c' := fun b o e q => by subst q; exact absurd (Nat.lt_of_lt_of_le (Heap.lt_size e) hc) (Nat.lt_irrefl _)
  have neP : ∀ b, H b = none → b ≠ P := fun b e q => by subst q; rw [hP] at e; cases e
  have kp : ∀ b o, s.heap.get? b = some o → H b = none → h'.get? b = some o := fun b o e n => hx b o (neP b n) e
  have up : ∀ b u, H b = some u → (∀ qs, u ≠ .tbl qs) → upd (upd H P (.tbl (ps ++ more))) c' (codeO c' qual) b = some u := fun b u e ne => by
    have h1 : b ≠ c' := fun q => by subst q; exact absurd (Nat.lt_of_lt_of_le (I.hok.lt e) hc) (Nat.lt_irrefl _)
    have h2 : b ≠ P := fun q => by subst q; rw [hP] at e; exact ne _ (Option.some.inj e).symm
    rw [upd_ne h1, upd_ne h2]; exact e
  refine I.stepN (ch := []) (g' := s.gens) (d' := s.drawn) (t' := t') (fun b hb => absurd hb (by simp)) (fun b o _ _ _ e n => kp b o e n) (fun b o _ _ _ e n => ⟨o.slots, kp b o e n⟩) (fun b o _ e n => ?_) (fun b o _ e => ?_) (fun b xs e => up b _ e (by intro _ q; cases q)) (fun b o u e => up b _ e (by intro _ q; cases q)) (fun b qs e => ?_) (fun m hm => ?_) (fun b u e => ?_) I.bare
  · rw [upd_ne (lt b o e), upd_ne (neP b n)]; exact n
  · by_cases q : b = P
    · subst q; exact ⟨_, hp⟩
    · exact ⟨o, hx b o q e⟩
  · have h1 : b ≠ c' := fun q => by subst q; exact absurd (Nat.lt_of_lt_of_le (I.hok.lt e) hc) (Nat.lt_irrefl _)
    by_cases q : b = P
    · subst q
      rw [hP] at e
      cases e
      exact ⟨more, by rw [upd_ne h1, upd_same]⟩
    · exact ⟨#[], by rw [upd_ne h1, upd_ne q, e]; simp⟩
  · obtain ⟨o, es, ep, e, r⟩ := hm
    exact ⟨o, es, ep, kp _ _ e I.free, r⟩
  · by_cases h1 : b = c'
    · subst h1
      rw [upd_same] at e
      cases e
      exact codeO_ok hcr
    · rw [upd_ne h1] at e
      by_cases h2 : b = P
      · subst h2
        rw [upd_same] at e
        cases e
        exact hp
      · rw [upd_ne h2] at e
        refine (I.hok b u e).stay (fun c v hc' q => hx c v ?_ q) (fun c q => up c _ q (by intro _ z; cases z)) fun c xs q => up c _ q (by intro _ z; cases z)
        rintro rfl
        rcases hc' with rfl | z
        · exact h2 rfl
        · rw [hP] at z; cases z
/-- the written part of the code that makes lambdas: its object and its table -/
structure CodeTab (X : Cx) (c P : Addr) : Prop where
  code : X.env.code = .ref c
  hd : CodeHd X.base c P
  bl : X.base.BuiltinsAt X.mg P
  gP : mainGlobals ≠ P
/-- the lambda's function, made: f; its code c' is new or was made before -/
def Lam (H : Hp) (P : Addr) (lp : Pos) (qual : Str) (c' : Addr) (H1 : Hp) : Prop :=
  ∃ ps, H P = some (.tbl ps) ∧ ((codeAmong lp ps.toList = none ∧ H c' = none ∧ c' ≠ P ∧ H1 = upd (upd H P (.tbl (ps ++ #[rawInt lp.line, rawInt lp.col, .ref c']))) c' (codeO c' qual)) ∨ (codeAmong lp ps.toList = some (.ref c') ∧ H c' = some (codeO c' qual) ∧ H1 = H))
/-- where the table stands for a lambda at lp -/
def TabOk (H : Hp) (P : Addr) (lp : Pos) (qual : Str) : Prop := ∃ ps, H P = some (.tbl ps) ∧ TriplesOk ps.toList ∧ (codeAmong lp ps.toList = none ∨ ∃ c', codeAmong lp ps.toList = some (.ref c') ∧ H c' = some (codeO c' qual))
def tLam (X : Cx) (P : Addr) (params : Arguments) (body : Expr) (scope : Scope) (lp : Pos) (cl : List (Str × Addr)) : TE := fun _ H Q => TabOk H P lp (X.env.qual ++ "<lambda>") ∧ ∀ c' H1, Lam H P lp (X.env.qual ++ "<lambda>") c' H1 → ∀ f ctv, H1 f = none → Q (.ref f) (upd H1 f (lamO f (kla_obj "<lambda>" (X.env.qual ++ "<lambda>") params body scope cl ((X.mg "__name__").getD .none) c' ctv)))
theorem pe_lam {c : Addr} {params : Arguments} {body : Expr} {scope : Scope} {lp : Pos} {cl : List (Str × Addr)} (T : CodeTab X c P) (hdef : defaultsOf params X.env = ([], [])) (hcl : closureFor scope X.env = pure cl) : PE X (.Lambda params body scope lp) (tLam X P params body scope lp cl) := by
  intro pins s σ H Q I h
  obtain ⟨⟨ps, hP, ht, hor⟩, h⟩ := h
  refine kla_eval hdef ?_
  have hPo : s.heap.get? P = some (tabObj ps) := I.hok P _ hP
  have hg : s.heap.Ns mainGlobals X.mg := by
    obtain ⟨o, es, ep, e, r⟩ := I.ok.mod.glob
    exact ⟨o, es, ep, I.bk _ _ e, r⟩
  have hb : s.heap.BuiltinsAt X.mg P := by
    obtain ⟨bm, o, b1, b2, b3, b4, b5, b6⟩ := T.bl
    exact ⟨bm, o, b1, b2, b3, b4, I.bk _ _ b5, b6⟩
  rcases hor with hn | ⟨c', hf, hc'⟩
  · refine kla_makeFunction (mg := X.mg) hcl I.ok.glob hg T.code (T.hd.keeps I.bk) hPo ht hn T.gP hb fun c' ctv h' tk hx hge hlt hrec htb => ?_
    have I1 := I.grow (t' := tk) hP hx hge hrec htb
    have hPl : P < s.heap.objs.size := I.hok.lt hP
    have fr : upd (upd H P (.tbl (ps ++ #[rawInt lp.line, rawInt lp.col, .ref c']))) c' (codeO c' (X.env.qual ++ "<lambda>")) h'.objs.size = none := I1.hok.fresh (Nat.le_refl _)
    refine ⟨.ref h'.objs.size, _, I1.laid (a := h'.objs.size) (t' := tk) (fun b u e => Heap.get?_push_of_some _ e) (Nat.le_refl _) (lamO_ok (Heap.get?_push_size _ rfl)), rfl, h c' _ ⟨ps, hP, .inl ⟨hn, I.hok.fresh hge, fun q => ?_, rfl⟩⟩ _ ctv fr⟩
    subst q
    exact absurd (Nat.lt_of_lt_of_le hPl hge) (Nat.lt_irrefl _)
  · refine kla_makeFunctionHit (mg := X.mg) hcl I.ok.glob hg T.code (T.hd.keeps I.bk) hPo ht hf hb fun ctv h' tk hk hsz => ?_
    have fr : H h'.objs.size = none := I.hok.fresh hsz
    exact ⟨.ref h'.objs.size, _, I.laid (a := h'.objs.size) (h' := h'.push _) (t' := tk) (fun b u e => Heap.get?_push_of_some _ (hk b u e)) hsz (lamO_ok (Heap.get?_push_size _ rfl)), rfl, h c' _ ⟨ps, hP, .inr ⟨hf, hc', rfl⟩⟩ _ ctv fr⟩
end
end L2

set_option Elab.async false
set_option linter.all false
set_option maxRecDepth 100000
set_option maxHeartbeats 4000000
namespace L2
open PySem PySem.Spec PyProof.Rows PySem.W
section
variable {X : Cx} {CX : CXT} {k : Nat} {f C : Addr} {fd : FuncData} {ps : List Str} {sp : Shared → List Env → Sp} {E : XK} {x : Str} {p pos : Pos} {e : Expr} {es : List Expr} {t : TA}
/-- the callee runs, its promise sees the state -/
theorem run_fnS {pins : List (Addr × Obj)} {σ : St} {H : Hp} {s : Shared} {Q : VK} {us : List Value} {vs : List V} (F : FnOkS X.prog X.w X.K X.mg X.base CX k f fd ps sp) (hr : Room k X.A) (hb : Binds X.K fd ps []) (hx : Passes CX X E)
    (I : Inv X pins σ H s) (r : Vals vs us) (h : sp s X.stack vs H Q E) : wpAny (model X.prog X.w) X.A (call (.ref f) us) (EP X pins σ Q) X.xe s := by
  have hl : us.length = ps.length := by rw [← r.length]; exact F.len _ _ _ _ _ _ h
  have hb' := hb s us I.kIn (by rw [List.append_nil]; exact hl)
  rw [List.append_nil] at hb'
  refine wpAny_call (codeAny_mono (F.run X.A X.stack s H ⟨us, []⟩ us vs Q E hr I.env0 hb' r h) fun r s' hq => ?_)
  cases r with
  | error e => exact hx pins σ H s e s' I hq
  | ok fl =>
    cases fl with
    | ret u => exact I.after hq
    | next => exact False.elim hq
    | brk => exact False.elim hq
    | cont => exact False.elim hq
theorem pe_callS {r : St → List V → Hp → VK → Prop} (F : FnOkS X.prog X.w X.K X.mg X.base CX k f fd ps sp) (hr : Room k X.A) (hg : Gl X x) (hm : X.mg x = some (.ref f)) (hk : PySem.W.keepIn X.K (.ref f) = true) (hb : Binds X.K fd ps []) (hx : Passes CX X E)
    (hsp : ∀ pins σ H s vs Q, Inv X pins σ H s → r σ vs H Q → sp s X.stack vs H Q E) (ha : PA X (e :: es) t) (hdb : (x == ("__debug__" : Str)) = false := by decide) (he : starEach (e :: es) X.env = (false, eval e X.env) :: starEach es X.env := by rfl) (hpl : (backTo pos (starEach es X.env)).any (·.1) = false := by rfl) :
    PE X (.Call (.Name x p) (e :: es) [] pos) (fun σ H Q => t σ H fun vs H1 => r σ vs H1 Q) := by
  intro pins s σ H Q I h
  refine wpAny_Call_Name_kw (ld_glob I hg hm ?_ hdb)
  refine PySem.W.callWith_K (h₀ := X.base) I.ok.mod.kin hk (thn (ha pos pins s σ H _ I h) fun us s1 ⟨vs, H1, I1, r, q⟩ => ⟨I1.kIn, ?_⟩) he hpl
  exact run_fnS F hr hb hx I1 r (hsp _ _ _ _ _ _ I1 q)
theorem lookup_of_mem_keys {cl : List (Str × Addr)} {x : Str} (h : x ∈ cl.map (·.1)) : ∃ c, cl.lookup x = some c := by
  induction cl with
  | nil => simp at h
  | cons q r ih =>
    obtain ⟨y, c⟩ := q
    rw [List.lookup_cons]
    by_cases e : (x == y) = true
    · exact ⟨c, by rw [e]⟩
    · have e' : (x == y) = false := by simpa using e
      rw [e']
      refine ih ?_
      rcases List.mem_cons.mp h with z | z
      · exact absurd (beq_iff_eq.mpr z) e
      · exact z
/-- the values of a lambda's free names -/
def freeV (js : List Nat) (σ : St) : St := js.map fun j => (σ[j]?).join
/-- what the closure of a lambda made here holds -/
theorem clos_of {pins : List (Addr × Obj)} {σ : St} {H : Hp} {s : Shared} {scope : Scope} {cl : List (Str × Addr)} {NL : List Str} {js : List Nat} (I : Inv X pins σ H s) (hcl : ∀ p ∈ cl, X.env.cells.lookup p.1 = some p.2) (hfn : ∀ x, X.fn x = true)
    (hhas : ∀ p ∈ scope.names, (p.2 = .cell ∨ p.2 = .free) → p.1 ∈ cl.map (·.1)) (hfree : ∀ x ∈ NL, scope.names.lookup x = some .free) (hown : ∀ x ∈ NL, X.env.scope.names.lookup x = some .cell) (hN : NL.map some = js.map fun j => X.N[j]?) (hst : X.stack = X.env :: X.outer) (hfm : X.env.frame = some X.env.locals) :
    Clos scope cl NL s.heap H (frs X.stack) (freeV js σ) := by
  have sub : ∀ x c, cl.lookup x = some c → X.env.cells.lookup x = some c := fun x c e => hcl (x, c) (PySem.mem_of_lookup e)
  have hlen : js.length = NL.length := by simpa using (congrArg List.length hN).symm
  refine ⟨fun x y c h1 h2 => I.ok.inj x y c (sub x c h1) (sub y c h2), fun x hx => ?_, fun x c e => ⟨I.cell x c (sub x c e), I.freeC x c (sub x c e), fun hm => ?_⟩, fun i x v h1 h2 => ?_, by unfold freeV; rw [List.length_map]; exact hlen⟩
  · refine lookup_of_mem_keys ?_
    rcases hx with hx | hx
    · exact hhas _ (PySem.mem_of_lookup hx) (.inl rfl)
    · exact hhas _ (PySem.mem_of_lookup hx) (.inr rfl)
  · rcases List.mem_cons.mp (I.stkSub c hm) with q | q
    · exact I.cne x c (sub x c e) q
    · obtain ⟨_, o, ho, _⟩ := I.ok.funs.mem q
      exact absurd (Nat.lt_of_lt_of_le (Heap.lt_size ho) (I.ok.cab x c (hfn x) (sub x c e))) (Nat.lt_irrefl _)
  · have hx : x ∈ NL := List.mem_of_getElem? h1
    have e1 : (js.map fun j => X.N[j]?)[i]? = some (some x) := by rw [← hN, List.getElem?_map, h1]; rfl
    rw [List.getElem?_map] at e1
    obtain ⟨j, hj, e1⟩ := Option.map_eq_some_iff.mp e1
    unfold freeV at h2
    rw [List.getElem?_map, hj] at h2
    have h3 : σ[j]? = some (some v) := by
      have h2 : (σ[j]?).join = some v := Option.some.inj h2
      cases e : σ[j]? with
      | none => rw [e] at h2; cases h2
      | some a => rw [e] at h2; cases a with
        | none => cases h2
        | some b => exact congrArg some h2
    obtain ⟨m, hn, hl⟩ := I.loc
    obtain ⟨u, r, lk⟩ := hl j x v e1 h3 (.inr (.inl (hown x hx)))
    refine ⟨hfree x hx, ?_⟩
    rcases lk with ⟨kk, _⟩ | ⟨_, c, hc, z⟩
    · have kk : X.env.scope.names.lookup x = some .local := kk
      rw [hown x hx] at kk; cases kk
    · obtain ⟨c2, e2⟩ := lookup_of_mem_keys (hhas _ (PySem.mem_of_lookup (hfree x hx)) (.inr rfl))
      have := sub x c2 e2
      rw [hc] at this
      cases this
      exact ⟨c, u, e2, r, z⟩
end
end L2

set_option Elab.async false
set_option linter.all false
set_option maxRecDepth 100000
set_option maxHeartbeats 4000000
namespace L2
open PySem PySem.Spec PyProof.Rows
/-! ### the head of a law that makes lambdas: its code's table is tracked, the written part goes without it -/
end L2

set_option Elab.async false
set_option linter.all false
set_option maxRecDepth 100000
set_option maxHeartbeats 4000000
namespace L2
open PySem PySem.Spec PyProof.Rows PySem.W
/-! ### the written part: a code object and its table -/
def tabIn (K : Frag) (c : Addr) : Option Addr := match K.lookup c with
  | some o => (match o.data with
    | .fields vs => (match (vs[11]? : Option Value), vs.getD 18 .none, vs.getD 7 .none, vs.getD 9 .none, vs.getD 10 .none with
      | some (Value.ref P), .str _ _, .int _ _, .bool _, .int _ _ => if (o.cls == .type "code" && c != P) = true then some P else none
      | _, _, _, _, _ => none)
    | _ => none)
  | none => none
theorem hd_of {K : Frag} {h : Heap} {c P : Addr} (X : K.In h) (e : tabIn K c = some P) : CodeHd h c P := by
  unfold tabIn at e
  split at e
  · rename_i o ho
    split at e
    · rename_i vs hd
      split at e
      · rename_i P' x18 t18 x7 t7 x9 x10 t10 h11 h18 h7 h9 h10
        split at e
        · rename_i hc
          cases e
          simp only [Bool.and_eq_true, beq_iff_eq, bne_iff_ne] at hc
          refine ⟨o, vs, x18, t18, x7, t7, x9, x10, t10, X _ _ ho, hc.1, hd, h11, ?_, h18, h7, h9, h10, hc.2⟩
          rw [Array.getD_eq_getD_getElem?, h11]
          rfl
        · cases e
      · cases e
    · cases e
  · cases e
end L2

set_option Elab.async false
set_option linter.all false
set_option maxRecDepth 100000
set_option maxHeartbeats 4000000
namespace L2
open PySem PySem.Spec PyProof.Rows PySem.SeqAt
section
variable {X : Cx}
/-! ### list.insert within the list -/
def rInsert : V → List V → Hp → VK → Prop := fun x vs H Q => ∃ (l : Addr) (xs : List V) (k : Nat) (y : V), x = .ref l ∧ vs = [.int k, y] ∧ H l = some (.lst xs) ∧ k ≤ xs.length ∧ xs.length < 1000000 ∧ Q .non (upd H l (.lst (xs.take k ++ y :: xs.drop k)))
theorem mt_insert : MtM X "list.insert" rInsert := by
  intro pins s σ H x vs v us Q I rx rv h
  obtain ⟨l, xs, k, y, rfl, rfl, hH, hk, hz, q⟩ := h
  cases rx
  cases rv with
  | cons r1 rv =>
   cases rv with
   | cons ru rv =>
    cases rv
    rename_i u
    obtain ⟨t, rfl⟩ := r1
    obtain ⟨z, its, n, r, hl, e⟩ := I.lstM hH
    have big : 1000000 ≤ sizeLine := by decide
    have fit : ¬ (!Builtin.List.listFitsIndex (k : Int)) = true := by
      rw [fitsIndex_both (by omega) (by omega)]
      decide
    have hsz : its.toArray.size ≤ sizeLine := by rw [List.size_toArray]; omega
    generalize hi : (k : Int) = i at fit
    refine call_meets F.slot_list_insert ⟨_, e, rfl⟩ F.entry_list_insert (F.args_list_insert_3 (.ref l) (.int i t) u) (AutoListH.list_insert_list_int_val_1 l its.toArray n i t u fit hsz) ⟨e, ?_⟩
    subst hi
    have rt : Vals (xs.take k) (its.take k) ∧ Vals (xs.drop k) (its.drop k) := by
      clear hz q e hH hk hl z hsz fit
      induction r generalizing k with
      | nil => rw [List.take_nil, List.take_nil, List.drop_nil, List.drop_nil]; exact ⟨.nil, .nil⟩
      | cons a b ih =>
        cases k with
        | zero => exact ⟨.nil, .cons a b⟩
        | succ k => exact ⟨.cons a (ih (k := k)).1, (ih (k := k)).2⟩
    refine ⟨.non, _, I.lset (its' := its.take k ++ u :: its.drop k) hH e ?_ (rt.1.append (.cons ru rt.2)) ?_, rfl, q⟩
    · have h1 : min (k : Int).toNat its.toArray.size = k := by rw [List.size_toArray, Int.toNat_natCast]; omega
      show ((its.toArray.extract 0 (if (k : Int) < 0 then ((k : Int) + ((its.toArray.size : Nat) : Int)).toNat else min (k : Int).toNat its.toArray.size)).push u ++ its.toArray.extract (if (k : Int) < 0 then ((k : Int) + ((its.toArray.size : Nat) : Int)).toNat else min (k : Int).toNat its.toArray.size)) = _
      rw [if_neg (by omega), h1]
      apply Array.ext'
      simp
      exact List.take_of_length_le (by rw [List.length_drop]; omega)
    · rw [List.length_append, List.length_cons, List.length_take, List.length_drop]
      omega
end
end L2

set_option Elab.async false
set_option linter.all false
set_option maxRecDepth 100000
set_option maxHeartbeats 4000000
namespace L2
open PySem PySem.Spec PyProof.Rows PySem.SeqAt
/-! ### the signs of a text (all below 128), one after another -/
section
variable {X : Cx} {tg : Expr}
end
end L2

set_option Elab.async false
set_option linter.all false
set_option maxRecDepth 100000
set_option maxHeartbeats 4000000
namespace L2
open PySem PySem.Spec PyProof.Rows PySem.SeqAt
section
variable {X : Cx}
end
end L2

set_option Elab.async false
set_option linter.all false
set_option maxRecDepth 100000
set_option maxHeartbeats 4000000
namespace L2
open PySem PySem.Spec PyProof.Rows PySem.SeqAt
/-! ### a, b = a list of two -/
section
variable {prog : Program} {w : World} {A : Around} {E : Value → Shared → Prop} {s : Shared} {l : Addr} {x y : Value}
end
section
variable {X : Cx} {pos : Pos}
end
end L2

set_option Elab.async false
set_option linter.all false
set_option maxRecDepth 100000
set_option maxHeartbeats 4000000
namespace L2
open PySem PySem.Spec PyProof.Rows PySem.SeqAt
/-! ### a class called with keywords -/
section
variable {X : Cx} {CX : CXT} {k : Nat} {f C : Addr} {fd : FuncData} {ps ks : List Str} {sp : Sp} {E : XK} {x m : Str} {p pos apos kpos : Pos} {e o : Expr} {es : List Expr} {kws : List Keyword} {te ta : TE} {t tk : TA}
variable {g : List Value → List Value → List Value} {gV : List V → List V → List V}
end
end L2

set_option Elab.async false
set_option linter.all false
set_option maxRecDepth 100000
set_option maxHeartbeats 4000000
namespace L2
open PySem PySem.Spec PyProof.Rows PySem.W
/-! ### the table of a def's lambdas, kept through its body -/
theorem codeAmong_snoc2 {pos p : Pos} {c : Value} (l : List Value) (h : TriplesOk l) : codeAmong pos (l ++ [rawInt p.line, rawInt p.col, c]) = (codeAmong pos l).or (if (p.line : Int) == pos.line && (p.col : Int) == pos.col then some c else none) := by
  fun_induction TriplesOk l with
  | case1 => simp [codeAmong, rawInt]
  | case2 a t b u c' rest ih =>
    show codeAmong pos (.int a t :: .int b u :: c' :: (rest ++ _)) = _
    rw [codeAmong, codeAmong]
    split
    · rfl
    · exact ih h
  | case3 => exact h.elim
theorem triples_snoc {p : Pos} {c : Value} (l : List Value) (h : TriplesOk l) : TriplesOk (l ++ [rawInt p.line, rawInt p.col, c]) := by
  fun_induction TriplesOk l with
  | case1 => simp [TriplesOk, rawInt]
  | case2 a t b u c' rest ih => exact ih h
  | case3 => exact h.elim
def TabI (H : Hp) (T : Addr) (qual : Str) (lps : List Pos) : Prop :=
  ∃ ps, H T = some (.tbl ps) ∧ TriplesOk ps.toList ∧ ∀ lp ∈ lps, codeAmong lp ps.toList = none ∨ ∃ c', codeAmong lp ps.toList = some (.ref c') ∧ H c' = some (codeO c' qual)
theorem TabI.tab {H : Hp} {T : Addr} {qual : Str} {lps : List Pos} {lp : Pos} (h : TabI H T qual lps) (m : lp ∈ lps) : TabOk H T lp qual := by
  obtain ⟨ps, h1, h2, h3⟩ := h
  exact ⟨ps, h1, h2, h3 lp m⟩
theorem TabI.keep {H H' : Hp} {T : Addr} {qual : Str} {lps : List Pos} (h : TabI H T qual lps) (k : ∀ b u, H b = some u → (∀ kvs, u ≠ .dK kvs) → H' b = some u) : TabI H' T qual lps := by
  obtain ⟨ps, h1, h2, h3⟩ := h
  refine ⟨ps, k _ _ h1 (by intro _ z; cases z), h2, fun lp m => ?_⟩
  rcases h3 lp m with z | ⟨c', z, e⟩
  · exact .inl z
  · exact .inr ⟨c', z, k _ _ e (by intro _ z; cases z)⟩
theorem TabI.same {H H' : Hp} {T : Addr} {qual : Str} {lps : List Pos} (h : TabI H T qual lps) (s : Same H H') : TabI H' T qual lps := h.keep fun b u e _ => s b u e
theorem Lam.code {H H1 : Hp} {T c' : Addr} {lp : Pos} {qual : Str} (h : Lam H T lp qual c' H1) : H1 c' = some (codeO c' qual) := by
  obtain ⟨ps, h1, ⟨_, _, _, rfl⟩ | ⟨_, h2, rfl⟩⟩ := h
  · exact upd_same
  · exact h2
theorem Lam.keep {H H1 : Hp} {T c' : Addr} {lp : Pos} {qual : Str} (h : Lam H T lp qual c' H1) {b : Addr} {u : HO} (e : H b = some u) (ne : ∀ ps, u ≠ .tbl ps) : H1 b = some u := by
  obtain ⟨ps, h1, ⟨_, h2, _, rfl⟩ | ⟨_, h2, rfl⟩⟩ := h
  · rw [upd_ne (ne_of_none e h2), upd_ne (ne_of e h1 (ne _))]; exact e
  · exact e
theorem TabI.lam {H H1 : Hp} {T c' : Addr} {lp : Pos} {qual : Str} {lps : List Pos} (h : TabI H T qual lps) (l : Lam H T lp qual c' H1) : TabI H1 T qual lps := by
  obtain ⟨ps, h1, h2, h3⟩ := h
  obtain ⟨ps', e1, l⟩ := l
  rw [h1] at e1
  cases e1
  rcases l with ⟨hn, hc, ne, rfl⟩ | ⟨_, _, rfl⟩
  · refine ⟨ps ++ #[rawInt lp.line, rawInt lp.col, .ref c'], by rw [upd_ne ne.symm, upd_same], ?_, fun lp' m => ?_⟩
    · rw [Array.toList_append]
      exact triples_snoc _ h2
    · rw [Array.toList_append]
      show codeAmong lp' (ps.toList ++ [rawInt lp.line, rawInt lp.col, .ref c']) = none ∨ ∃ c'', codeAmong lp' (ps.toList ++ [rawInt lp.line, rawInt lp.col, .ref c']) = Option.some (Value.ref c'') ∧ _
      rw [codeAmong_snoc2 _ h2]
      rcases h3 lp' m with z | ⟨c'', z, e⟩
      · rw [z]
        by_cases q : ((lp.line : Int) == lp'.line && (lp.col : Int) == lp'.col) = true
        · rw [if_pos q]
          exact .inr ⟨c', rfl, upd_same⟩
        · rw [if_neg q]
          exact .inl rfl
      · rw [z]
        refine .inr ⟨c'', rfl, ?_⟩
        rw [upd_ne (ne_of_none e hc), upd_ne (ne_of e h1 (by intro z; cases z))]; exact e
  · exact ⟨ps, h1, h2, h3⟩
end L2

set_option Elab.async false
set_option linter.all false
set_option maxRecDepth 100000
set_option maxHeartbeats 4000000
namespace L2
open PySem PySem.Spec PyProof.Rows PySem.W
/-! ### the head of a law whose text makes lambdas: the tables of their codes stand apart, empty at first -/
theorem law_callM {P : Program} {w : World} {K : PySem.W.Frag} {mg mb : Str → Option Value} {CX : CXT} {k : Nat} {fa a : Addr} {Ts : List Addr} {fd : FuncData} {x : Str} {sp : Sp} {s₁ : Shared} {vs : List Value} {ns : List Int}
    (KX : K.In s₁.heap) (hns : s₁.heap.Ns mainGlobals mg) (hb : s₁.heap.Ns builtinsNs mb) (hbb : ∀ x : Str, x ≠ "__name__" → mb x = bootBuiltins x) (hlim : s₁.heap.NoLimit) (hg : s₁.gens = #[])
    (ha : s₁.heap.get? a = some { cls := .type "list", data := .seq vs.toArray }) (hi : IntsAre vs ns) (hl : ns.length ≤ sizeLine) (hr : Room k callerA)
    (hT : ∀ T ∈ Ts, s₁.heap.get? T = some (tabObj #[]) ∧ K.lookup T = none ∧ ∃ c, PySem.W.CodeHd s₁.heap c T)
    (F : ∀ base : Heap, K.In base → base.Ns mainGlobals mg → (∀ b o, s₁.heap.get? b = some o → b ∉ Ts → b ≠ a → base.get? b = some o) → FnOk P w K mg base CX k fa fd [x] sp) (hbind : ∀ (s : Shared) (u : Value), BindsTo s fd ⟨[u], []⟩ [(x, u)])
    (hsp : ∀ H : Hp, (∀ T ∈ Ts, H T = some (.tbl #[])) → SqL K H a (ns.map V.int) → sp [.ref a] H (fun v _ => v = .bl true) fun _ _ _ => False)
    (hCX : ∀ H e s', CX [] H s₁ (fun _ _ _ => False) e s' → False) :
    codeAny (model P w) callerA (.call (.ref fa) ⟨[.ref a], []⟩) (fun r s' => r = .ok (.ret (.bool true)) ∧ OldK s₁.heap s'.heap ∧ s'.os = s₁.os ∧ AllBare s'.gens) s₁ := by
  have rv := vals_ints hi
  have lenV := hi.length
  have haT : a ∉ Ts := fun q => by have := (hT a q).1; rw [ha] at this; cases this
  have core : ∀ H0 : Hp, (∀ b, H0 b = none ∨ (b = a ∧ K.lookup a = none ∧ H0 b = some (.frz { cls := .type "list", data := .seq vs.toArray } (.lst (ns.map V.int))))) → SqL K (fun b => if b ∈ Ts then some (.tbl #[]) else H0 b) a (ns.map V.int) →
      codeAny (model P w) callerA (.call (.ref fa) ⟨[.ref a], []⟩) (fun r s' => r = .ok (.ret (.bool true)) ∧ OldK s₁.heap s'.heap ∧ s'.os = s₁.os ∧ AllBare s'.gens) s₁ := by
    intro H0 hO hS
    generalize hH : (fun b => if b ∈ Ts then some (HO.tbl #[]) else H0 b : Hp) = H at hS
    have HT : ∀ T ∈ Ts, H T = some (.tbl #[]) := fun T m => by rw [← hH]; exact if_pos m
    have Hne : ∀ b, b ∉ Ts → H b = H0 b := fun b e => by rw [← hH]; exact if_neg e
    have Hn : ∀ b, b ∉ Ts → b ≠ a → H b = none := fun b h1 h2 => by
      rw [Hne b h1]
      rcases hO b with z | ⟨z, _⟩
      · exact z
      · exact absurd z h2
    have hok : HOk P w H s₁.heap := fun b u e => by
      by_cases q : b ∈ Ts
      · rw [HT b q] at e; cases e
        exact (hT b q).1
      · rw [Hne b q] at e
        rcases hO b with z | ⟨rfl, _, z⟩
        · rw [z] at e; cases e
        · rw [z] at e; cases e
          exact ⟨ha, by rw [List.length_map]; exact hl, vs, _, rv, ha⟩
    have nsN : ∀ {b : Addr} {o : Obj} {es : Array DictEntry} {ep : Nat}, s₁.heap.get? b = some o → o.data = .dict es ep → H b = none := fun {b o es ep} e d => by
      refine Hn b (fun q => ?_) (fun q => ?_)
      · rw [(hT b q).1] at e; cases e; cases d
      · subst q; rw [ha] at e; cases e; cases d
    have nsK : ∀ {b : Addr} {m : Str → Option Value}, s₁.heap.Ns b m → (hidT s₁.heap H).Ns b m := fun {b m} ⟨o, es, ep, e, d, r⟩ => ⟨o, es, ep, hidT_get e (nsN e d), d, r⟩
    have hKb : K.In (hidT s₁.heap H) := fun b o e => by
      refine hidT_get (KX b o e) ?_
      have q : b ∉ Ts := fun m => by rw [(hT b m).2.1] at e; cases e
      rw [Hne b q]
      rcases hO b with z | ⟨rfl, z, _⟩
      · exact z
      · rw [z] at e; cases e
    have hM : Mod K mg (hidT s₁.heap H) := ⟨hKb, nsK hns, ⟨mb, nsK hb, hbb⟩, let ⟨mc, h1, h2⟩ := hlim; ⟨mc, nsK h1, h2⟩⟩
    have e0 : Env0 P w K mg (hidT s₁.heap H) callerA [] s₁ H := ⟨rfl, hM, fun b o e => of_hidT e, Nat.le_of_eq (hidT_size _ _), trivial, fun b hb => absurd (show b ∈ ([] : List Addr) from hb) (by simp), hok, .of_eq hg⟩
    refine codeAny_mono ((F _ hKb (nsK hns) fun b o e h1 h2 => hidT_get e (Hn b h1 h2)).run callerA [] s₁ H ⟨[.ref a], []⟩ [.ref a] [.ref a] _ _ hr e0 (hbind s₁ (.ref a)) (.cons rfl .nil) (hsp H HT hS)) fun r s' h => ?_
    cases r with
    | error e => exact (hCX H e s' h).elim
    | ok fl =>
      cases fl with
      | next => exact False.elim h
      | brk => exact False.elim h
      | cont => exact False.elim h
      | ret u =>
        obtain ⟨v, H', os, bare, un, hok', r', q⟩ := h
        cases (show v = .bl true from q)
        cases (show u = Value.bool true from r')
        have was : ∀ b o, s₁.heap.get? b = some o → b ∉ Ts → s'.heap.get? b = some o := fun b o e h1 => by
          rcases hO b with z | ⟨rfl, _, z⟩
          · exact un.keep b o e (by rw [Hne b h1]; exact z) (by intro z; exact absurd (show b ∈ ([] : List Addr) from z) (by simp)) (by simp)
          · have z2 := un.frzs b _ _ ((Hne b h1).trans z)
            obtain ⟨e2, _⟩ := hok' b _ z2
            rw [ha] at e; cases e
            exact e2
        have tbs : ∀ T ∈ Ts, ∃ more, s'.heap.get? T = some { cls := .none, data := .fields (#[] ++ more) } := fun T m => by
          obtain ⟨more, hm⟩ := un.tbls T #[] (HT T m)
          exact ⟨more, hok' T _ hm⟩
        refine ⟨rfl, ⟨fun b o e => ?_, fun b o e => ?_⟩, os, bare⟩
        · by_cases h1 : b ∈ Ts
          · obtain ⟨more, tb⟩ := tbs b h1
            obtain ⟨h2, _, c, hc⟩ := hT b h1
            rw [h2] at e; cases e
            exact .inr (.inl ⟨(hc.tab h2).isCodeTable, rfl, #[], more, rfl, tb⟩)
          · exact .inl (was b o e h1)
        · by_cases h1 : b ∈ Ts
          · obtain ⟨more, tb⟩ := tbs b h1
            exact ⟨_, tb⟩
          · exact ⟨o, was b o e h1⟩
  cases hk : K.lookup a with
  | some o =>
    have e := KX a o hk
    rw [ha] at e
    cases e
    exact core (fun _ => none) (fun _ => .inl rfl) (.inr ⟨_, vs.toArray, _, hk, rfl, rfl, rfl, by rw [List.size_toArray, lenV]; exact hl, by simpa using rv⟩)
  | none =>
    refine core (fun b => if b = a then some (.frz { cls := .type "list", data := .seq vs.toArray } (.lst (ns.map V.int))) else none) (fun b => ?_) (.inl (.inr ⟨_, (if_neg haT).trans (if_pos rfl)⟩))
    by_cases h : b = a
    · exact .inr ⟨h, hk, if_pos h⟩
    · exact .inl (if_neg h)
theorem walk_ofM {l : PySem.W.OpenLaw} {n k : Nat} {q : Program} {loose : List Str} {XP : (Str → Option Value) → Heap → Prop} {YP : World → Heap → Prop} {d : DefRec} {K : Params → PySem.W.Frag} {CX : World → CXT} {x : Str} {Ts : List Addr}
    (hn : l.most = some n) (hn2 : n ≤ sizeLine) (hdf : d.params.defaults = []) (hr : Room k callerA)
    (hY : ∀ (w : World) (h : Heap), YP w h → (K w.params).In h) (hYT : ∀ (w : World) (h : Heap), YP w h → ∀ T ∈ Ts, h.get? T = some (tabObj #[]))
    (F : ∀ (w : World) (mg : Str → Option Value) (fa : Addr) (h : Heap), (K w.params).In h → h.Ns mainGlobals mg → mg d.name = some (.ref fa) →
      ∃ (fd : FuncData) (sp : Sp), (∀ (s : Shared) (u : Value), BindsTo s fd ⟨[u], []⟩ [(x, u)]) ∧ (∀ T ∈ Ts, (K w.params).lookup T = none ∧ ∃ c, tabIn (K w.params) c = some T) ∧
        (∀ (H : Hp) (a : Addr) (ns : List Int), ns.length ≤ n → (∀ T ∈ Ts, H T = some (.tbl #[])) → SqL (K w.params) H a (ns.map V.int) → sp [.ref a] H (fun v _ => v = .bl true) fun _ _ _ => False) ∧
        ∀ base : Heap, (K w.params).In base → base.Ns mainGlobals mg → (∀ T ∈ Ts, base.BuiltinsAt mg T ∧ mainGlobals ≠ T) → FnOk l.prog w (K w.params) mg base (CX w) k fa fd [x] sp)
    (hCX : ∀ (w : World) (H : Hp) (s : Shared) (e : Value) (s' : Shared), CX w [] H s (fun _ _ _ => False) e s' → False) :
    PySem.W.WalkO q loose XP YP l.row.toRowW d [] (fun f vs => PySem.call f vs) := by
  refine Att.attach_call hn hdf fun w s₀ s₁ mg mb fa o pm cd doc a vs ns G Y ho hd hcd hmg hobj hints hlen hg => ?_
  have KX := hY w _ Y
  have TX := hYT w _ Y
  obtain ⟨fd, sp, hb, ht, hsp, hF⟩ := F w mg fa _ KX G.T.g hmg
  obtain ⟨bm, ob, b1, b2, b3, b4, b5, b6⟩ := G.T.bmain
  have gT : ∀ T ∈ Ts, mainGlobals ≠ T := fun T m q => by
    obtain ⟨o, es, ep, e, hd, _⟩ := G.T.g
    rw [q, TX T m] at e; cases e; cases hd
  have bT : bm ∉ Ts := fun m => by
    rw [TX _ m] at b3; cases b3; cases b4
  have ba : bm ≠ a := fun q => by
    rw [q, hobj] at b3; cases b3; cases b6
  have bG : bm ≠ mainGlobals := fun q => by
    obtain ⟨o, es, ep, e, hd, _⟩ := G.T.g
    rw [q, e] at b3; cases b3; rw [hd] at b6; cases b6
  exact law_callM KX G.T.g G.T.b G.T.builtins G.T.nolimit hg hobj hints (Nat.le_trans hlen hn2) hr (fun T m => ⟨TX T m, (ht T m).1, let ⟨c, z⟩ := (ht T m).2; ⟨c, hd_of KX z⟩⟩) (fun base kb nb old => hF base kb nb fun T m => ⟨⟨bm, ob, b1, b2, bG, fun q => bT (q ▸ m), old _ _ b3 bT ba, b4, b5, b6⟩, gT T m⟩) hb (fun H hH hS => hsp H a ns hlen hH hS) fun H e s' => hCX w H s₁ e s'
end L2

set_option Elab.async false
set_option linter.all false
set_option maxRecDepth 100000
set_option maxHeartbeats 4000000
namespace L2
open PySem PySem.Spec PyProof.Rows
/-! ### {k: v for x in ..}: the new dict stands among the tracked things while the block runs -/
theorem compTurn_dict (ke ve target iter : Expr) (ifs : List Expr) (scope : Scope) (pos : Pos) (it : Value) (d : Addr) (env : Env) :
    compTurn (.DictComp ke ve [⟨target, iter, ifs, 0⟩] scope pos) 0 it (.ref d) env = (do
      standAt iter.pos
      match ← pyNext it with
      | none => pure (.done .next)
      | some v =>
        letOwnedTupleGo target it v
        assign target env v
        let mut ok := true
        for c in ifs do
          if ok then ok ← isTrue c env (eval c env)
        if ok then
          (do
            let kv ← eval ke env
            let vv ← holding [kv] (eval ve env)
            standAt { ke.pos with endLine := ve.pos.endLine, endCol := ve.pos.endCol }
            holding [kv, vv] (dictSet d kv vv))
        again (.compLoop (.DictComp ke ve [⟨target, iter, ifs, 0⟩] scope pos) 0 it (.ref d) env)) := by rfl
theorem codeAny_compStart_dict {prog : Program} {w : World} {A : Around} {R : Result → Shared → Prop} {s : Shared} {ke ve target iter ifs rest scope pos it acc env}
    (h0 : codeAny (model prog w) A (.compLoop (.DictComp ke ve (⟨target, iter, ifs, 0⟩ :: rest) scope pos) 0 it acc env) R s)
    (h : wpAny (model prog w) A (pyIter it) (fun it' s' => codeAny (model prog w) A (.compLoop (.DictComp ke ve (⟨target, iter, ifs, 0⟩ :: rest) scope pos) 0 it' acc env) R s')
      (notedBy (model prog w) A env fun x s' => R (.error x) s') s) :
    codeAny (model prog w) A (.compStart (.DictComp ke ve (⟨target, iter, ifs, 0⟩ :: rest) scope pos) 0 it acc env) R s := by
  refine codeAny_of_tree ?_
  show wpAny _ _ ((compStart (.DictComp ke ve (⟨target, iter, ifs, 0⟩ :: rest) scope pos) 0 it acc env).onRaise (fun x => do noteFrame x env; standAt theWindowsPlace)) _ _ s
  refine wpAny_notedAt ?_
  unfold compStart
  show wpAny _ _ (ask >>= _) _ _ s
  refine wpAny_bind (wpAny_askSetting (wpAny_ite ?_))
  split
  · first
      | exact wpAny_bind (wpAny_pure (wpAny_pure (And.intro rfl h0)))
      | exact wpAny_pure (And.intro rfl h0)
  · first
      | exact wpAny_bind (wpAny_rule (wpAny_bind (wpAny_standAt (wpAny_bind (wpAny_mono h (fun it' s' h' => wpAny_pure (And.intro rfl h')) fun _ _ x => x)))))
      | (refine wpAny_bind (wpAny_rule ?_); show wpAny _ _ (standAt iter.pos >>= _) _ _ s; exact wpAny_bind (wpAny_standAt (wpAny_bind (wpAny_mono h (fun it' s' h' => wpAny_pure (And.intro rfl h')) fun _ _ x => x))))
theorem d_dictSet {X : Cx} {pins : List (Addr × Obj)} {σ : St} {H : Hp} {s : Shared} {a : Addr} {y v : V} {u r : Value} {A : Around} {E : Value → Shared → Prop} {kvs : List (Key × V)} {k : Key} {Q : Unit → Shared → Prop} (I : Inv X pins σ H s) (e : H a = some (.dK kvs)) (ey : y = kV k) (l : kvs.length < sizeLine) (ry : RelV y u) (rv : RelV v r)
    (h : ∀ s', Inv X pins σ (upd H a (.dK (putK kvs k v))) s' → Q () s') : wpAny (model X.prog X.w) A (dictSet a u r) Q E s := by
  subst ey
  obtain ⟨z, hd, vs, rel, dd⟩ := dk_of I.hok e
  have hz : vs.length ≤ sizeLine := by rw [← rel.length]; exact z
  have hl : (putK kvs k v).length ≤ sizeLine := by have := length_putK kvs k v; omega
  refine wpAny_dictSet_pairs (hsz := hz) (kV_is ry) dd fun h' dd' hs => h _ ?_
  have he : ∃ q, h'.get? a = some q := let ⟨q, _, _, hq, _⟩ := dd'; ⟨q, hq⟩
  exact d_write I (by rw [e]; exact True.intro) hs he (dk_new hl hd (rel.put k rv) dd')

def DTurn (J : It) (g : TG) (tt : TT) (tk tv : TE) (acc : Addr) (F : Hp → Prop) (W : Nat → Nat → St → Hp → Prop) : Prop :=
  ∀ i m σ H, W i m σ H → (J.stop i H ∧ F H) ∨ (J.go i H ∧ ∀ x H1, J.yld i H x H1 → g x σ H1 fun σ2 H2 => tt σ2 H2 fun b H3 =>
    if b = true then tk σ2 H3 fun y H4 => tv σ2 H4 fun z H5 => ∃ kvs k, H5 acc = some (.dK kvs) ∧ y = kV k ∧ kvs.length < sizeLine ∧ ∃ m', m' < m ∧ W (i + 1) m' σ2 (upd H5 acc (.dK (putK kvs k z))) else ∃ m', m' < m ∧ W (i + 1) m' σ2 H3)

theorem dcomp_loop {X : Cx} {scope : Scope} {N' : List Str} {cl : List (Str × Addr)} {C acc it : Addr} {s₂ : Shared} {H₂ : Hp} {fp : List Addr} {tn : Nat → Heap → Prop} {J : It} {g : TG} {tt : TT} {tk tv : TE} {F : Hp → Prop}
    {ke ve tg iter : Expr} {ifs : List Expr} {pos : Pos} {R : Result → Shared → Prop} (W : Nat → Nat → St → Hp → Prop) (turn : DTurn J g tt tk tv acc F W) (T : Turn X.prog X.w X.K tg J fp it tn)
    (hg : PG (cxComp X scope N' cl C s₂ H₂ fp) tg g) (hc : PIfs (cxComp X scope N' cl C s₂ H₂ fp) ifs tt) (hk : PE (cxComp X scope N' cl C s₂ H₂ fp) ke tk) (hv : PE (cxComp X scope N' cl C s₂ H₂ fp) ve tv) (hcalm : X.calm = true)
    (hfp : ∀ b ∈ fp, b ≠ C ∧ b ∉ frs X.stack ∧ (∀ x c, cl.lookup x = some c → c ≠ b))
    (hR : ∀ s' σ' H', Inv (cxComp X scope N' cl C s₂ H₂ fp) [] σ' H' s' → F H' → R (.ok .next) s')
    {s : Shared} {σ : St} {H : Hp} {m : Nat} (I : Inv (cxComp X scope N' cl C s₂ H₂ fp) [] σ H s) (st : tn 0 s.heap) (fr : ∀ b ∈ fp, H b = none) (w0 : W 0 m σ H) :
    codeAny (model X.prog X.w) X.A (.compLoop (.DictComp ke ve [⟨tg, iter, ifs, 0⟩] scope pos) 0 (.ref it) (.ref acc) (compEnvC scope cl C X.env)) R s := by
  refine codeAny_loop rfl (fun n s' => ∃ i σ' H', Inv (cxComp X scope N' cl C s₂ H₂ fp) [] σ' H' s' ∧ tn i s'.heap ∧ (∀ b ∈ fp, H' b = none) ∧ W i n σ' H') (fun n s3 hI => ?_) m ⟨0, σ, H, I, st, fr, w0⟩
  obtain ⟨i, σ3, H3, I3, st3, fr3, w3⟩ := hI
  show wpAny _ X.A ((compTurn (.DictComp ke ve [⟨tg, iter, ifs, 0⟩] scope pos) 0 (.ref it) (.ref acc) (compEnvC scope cl C X.env)).onRaise (fun x => do noteFrame x (compEnvC scope cl C X.env); theTreesLotGoes x)) _ _ s3
  refine wpAny_noted ?_
  rw [compTurn_dict]
  have fpk : ∀ {H' : Hp}, (∀ b ∈ fp, H' b = none) → ∀ b ∈ fp, FpOk (cxComp X scope N' cl C s₂ H₂ fp) [] H' b := fun hn b hb =>
    ⟨hn b hb, (hfp b hb).1, (hfp b hb).2.1, .inl hb, (hfp b hb).2.2, fun p hp' => by
      have hp'' : p ∈ ([] : List (Addr × Obj)) ++ [] := hp'
      exact absurd hp'' (by simp)⟩
  have fp1 := fpk fr3
  refine wpAny_bind (wpAny_standAt (wpAny_bind ?_))
  rcases turn i n σ3 H3 w3 with ⟨stop, qn⟩ | ⟨go, step⟩
  · refine wpAny_mono (T.done (cxComp X scope N' cl C s₂ H₂ fp) rfl rfl rfl hcalm i _ s3 σ3 H3 (fun _ _ => False) I3 fp1 st3 stop) (fun r s4 ⟨hr, I4⟩ => ?_) (fun _ _ z => z.elim)
    subst hr
    exact wpAny_pure (hR s4 σ3 H3 I4 qn)
  · refine wpAny_mono (T.item (cxComp X scope N' cl C s₂ H₂ fp) rfl rfl rfl hcalm i _ s3 σ3 H3 (fun _ _ => False) I3 fp1 st3 go) (fun r s4 ⟨u, hr, h4⟩ => ?_) (fun _ _ z => z.elim)
    subst hr
    refine wpAny_bind (wpAny_mono h4 (fun _ s5 ⟨x, H5, I5, r5, y5, st5, fr5⟩ => ?_) (fun _ _ z => z.elim))
    have fp5 := fpk fr5
    have I5' := I5.pinned fp5 (T.obj _ _ st5)
    refine wpAny_bind (wpAny_mono (hg _ s5 σ3 H5 x u _ I5' r5 (step x H5 y5)) (fun _ s6 ⟨σ6, H6, I6, q6⟩ => ?_) (fun _ _ z => z.elim))
    refine wpAny_bind (wpAny_mono (hc _ s6 σ6 H6 _ I6 q6) (fun ok s7 ⟨H7, I7, q7⟩ => ?_) (fun _ _ z => z.elim))
    have again : ∀ {s8 : Shared} {σ8 : St} {H8 : Hp}, Inv (cxComp X scope N' cl C s₂ H₂ fp) ([] ++ pinsAt fp s5.heap) σ8 H8 s8 → tn (i + 1) s8.heap ∧ ∀ b ∈ fp, H8 b = none := fun {s8 σ8 H8} I8 =>
      ⟨T.keep _ _ _ st5 fun b hb o e => (I8.pin (b, o) (List.mem_append_right _ (List.mem_append_right _ (mem_pinsAt hb e)))).1, fun b hb => by
        obtain ⟨o, e, d⟩ := T.obj _ _ st5 b hb
        exact (I8.pin (b, o) (List.mem_append_right _ (List.mem_append_right _ (mem_pinsAt hb e)))).2.1⟩
    cases ok with
    | false =>
      rw [if_neg Bool.false_ne_true] at q7
      obtain ⟨m', hm, w7⟩ := q7
      obtain ⟨t1, t2⟩ := again I7
      exact wpAny_pure ⟨rfl, m', hm, i + 1, σ6, H7, I7.unpinned, t1, t2, w7⟩
    | true =>
      rw [if_pos rfl] at q7
      refine wpAny_bind (wpAny_bind (wpAny_mono (hk _ s7 σ6 H7 _ I7 q7) (fun y s8 ⟨yv, H8, I8, r8, q8⟩ => ?_) (fun _ _ z => z.elim)))
      refine wpAny_bind (wpAny_holding (wpAny_mono (hv _ s8 σ6 H8 _ I8 q8) (fun y2 s9 ⟨zv, H9, I9, r9, kvs, k, e9, ek, hl, m', hm, w9⟩ => ?_) (fun _ _ z => z.elim)))
      refine wpAny_bind (wpAny_standAt (wpAny_holding ?_))
      refine d_dictSet (X := cxComp X scope N' cl C s₂ H₂ fp) I9 e9 ek hl r8 r9 fun s10 I10 => ?_
      obtain ⟨t1, t2⟩ := again I10
      exact wpAny_pure ⟨rfl, m', hm, i + 1, σ6, _, I10.unpinned, t1, t2, w9⟩

/-- {k: v for tg in iter if ..}: the reading -/
def tDComp (wi : TI) (g : TG) (tt : TT) (tk tv : TE) (k : Nat) (js : List Nat) : TE := fun σ H Q => wi σ H fun J H1 => ∀ acc, H1 acc = none → ∃ W : Nat → Nat → St → Hp → Prop, (∃ m, W 0 m (compSt k js σ) (upd H1 acc (.dK []))) ∧
  DTurn J g tt tk tv acc (fun H2 => Q (.ref acc) H2) W

section
variable {X : Cx} {scope : Scope} {own : List Str} {js : List Nat} {N' : List Str} {wi : TI} {g : TG} {tt : TT} {tk tv : TE} {ke ve tg iter : Expr} {ifs : List Expr} {pos : Pos}
theorem dcomp_run {pins : List (Addr × Obj)} {σ : St} {H : Hp} {s : Shared} {it : Addr} {fp : List Addr} {tn : Nat → Heap → Prop} {J : It} {cl : List (Str × Addr)} {F : Addr → Hp → Prop} {E : Value → Shared → Prop} {RR : Value → Addr → Result → Shared → Prop}
    (S : CompScope X scope own js N') (hcalm : X.calm = true) (hg : ∀ cl C s₀ H₀ ex, PG (cxComp X scope N' cl C s₀ H₀ ex) tg g) (hc : ∀ cl C s₀ H₀ ex, PIfs (cxComp X scope N' cl C s₀ H₀ ex) ifs tt) (hk : ∀ cl C s₀ H₀ ex, PE (cxComp X scope N' cl C s₀ H₀ ex) ke tk) (hv : ∀ cl C s₀ H₀ ex, PE (cxComp X scope N' cl C s₀ H₀ ex) ve tv)
    (hc1 : ∀ x c, cl.lookup x = some c → X.env.cells.lookup x = some c) (hc2 : ∀ x, (x, NameKind.free) ∈ scope.names → ∃ c, cl.lookup x = some c)
    (I : Inv X pins σ H s) (T : Turn X.prog X.w X.K tg J fp it tn) (st : tn 0 s.heap) (hf : ∀ b ∈ fp, FpOk X pins H b)
    (hW : ∀ acc, H acc = none → ∃ W : Nat → Nat → St → Hp → Prop, (∃ m, W 0 m (compSt own.length js σ) (upd H acc (.dK []))) ∧ DTurn J g tt tk tv acc (F acc) W)
    (fin : ∀ acc C H' s' m, Inv X pins σ H' s' → s'.heap.Ns C m → H' C = none → C ≠ X.env.locals → X.s₀.heap.objs.size ≤ C → (∀ x c, X.env.cells.lookup x = some c → c ≠ C) → (∀ p ∈ X.pn ++ pins, p.1 ≠ C) → F acc H' → RR (.ref acc) C (.ok .next) s') :
    wpAny (model X.prog X.w) X.A newDict (fun acc s₃ => wpAny (model X.prog X.w) X.A (newFunctionEnv scope X.env.globals cl [] X.env.qual none .none (some X.env)) (fun cenv s₄ =>
      codeAny (model X.prog X.w) X.A (.compStart (.DictComp ke ve [⟨tg, iter, ifs, 0⟩] scope pos) 0 (.ref it) acc { cenv with scope := relabel scope X.env }) (RR acc cenv.locals) s₄) E s₃) E s := by
  refine wpAny_newObj_type (wpAny_newFunctionEnv S.nocell (by intro y hy; simp at hy) (fun h₁ hns₁ hsb₁ => ?_) S.kind)
  dsimp only at hns₁ hsb₁ ⊢
  have hHA : H s.heap.objs.size = none := I.hok.fresh (Nat.le_refl _)
  have IL : Inv X pins σ (upd H s.heap.objs.size (.dK [])) { s with heap := s.heap.push { cls := .type "dict", data := .dict #[] }, toks := s.toks } := I.laid (a := s.heap.objs.size) (o := .dK []) (t' := s.toks) (fun _ _ q => Heap.get?_push_of_some _ q) (Nat.le_refl _) (dk_empty s.heap I.big)
  obtain ⟨W, ⟨m0, w0⟩, turn⟩ := hW _ hHA
  have stL : tn 0 (s.heap.push { cls := .type "dict", data := .dict #[] }) := T.keep _ _ _ st fun b hb o e => Heap.get?_push_of_some _ e
  have fpLt0 : ∀ b ∈ fp, b < s.heap.objs.size := fun b hb => by
    obtain ⟨o, e, _⟩ := T.obj _ _ st b hb
    exact Heap.lt_size e
  have hfL : ∀ b ∈ fp, FpOk X pins (upd H s.heap.objs.size (.dK [])) b := fun b hb => by
    obtain ⟨f0, f⟩ := hf b hb
    exact ⟨by rw [upd_ne (Nat.ne_of_lt (fpLt0 b hb))]; exact f0, f⟩
  generalize hH2 : s.heap.push { cls := .type "dict", dict := none, data := .dict #[] } = H2 at hns₁ hsb₁ IL stL ⊢
  have hC : H2.objs.size = s.heap.objs.size + 1 := by rw [← hH2, Heap.size_push]
  generalize hHn : upd H s.heap.objs.size (.dK []) = HL at IL hfL w0
  generalize hAn : s.heap.objs.size = acc at *
  have below : ∀ b, b < H2.objs.size → b ≠ H2.objs.size := fun b hb => Nat.ne_of_lt hb
  have old : ∀ b o, H2.get? b = some o → h₁.get? b = some o := fun b o e => hsb₁.extBut b o (below b (Heap.lt_size e)) (Heap.get?_push_of_some _ e)
  generalize hCn : H2.objs.size = C at *
  have cellLt : ∀ x c, X.env.cells.lookup x = some c → c < C := fun x c e => by
    obtain ⟨v, q⟩ := IL.cell x c e
    rw [← hCn]; exact q.lt
  have pinLt : ∀ p ∈ X.pn ++ pins, p.1 < C := fun p hp => by rw [← hCn]; exact Heap.lt_size (IL.pin p hp).1
  have fpLt : ∀ b ∈ fp, b < C := fun b hb => Nat.lt_of_lt_of_le (fpLt0 b hb) (by rw [hC]; exact Nat.le_succ _)
  have hHC : HL C = none := IL.hok.fresh (by show H2.objs.size ≤ C; rw [hCn]; exact Nat.le_refl _)
  have I1 : Inv (cxComp X scope N' cl C { s with heap := H2, toks := s.toks } HL fp) [] (compSt own.length js σ) HL { s with heap := h₁, toks := s.toks + ([] : List (Str × Value)).length } :=
    Inv.comp S IL hc1 hc2 (by show H2.objs.size ≤ C; rw [hCn]; exact Nat.le_refl _) hns₁ old (fun b hb => ⟨hfL b hb, by show b < H2.objs.size; rw [hCn]; exact fpLt b hb⟩) hHC fun b o e => below b (by rw [← hCn]; exact Heap.lt_size e)
  have st1 : tn 0 h₁ := T.keep _ _ _ stL fun b hb o e => old b o e
  have loop : ∀ s₃ : Shared, s₃ = { s with heap := h₁, toks := s.toks + ([] : List (Str × Value)).length } →
      codeAny (model X.prog X.w) X.A (.compLoop (.DictComp ke ve [⟨tg, iter, ifs, 0⟩] scope pos) 0 (.ref it) (.ref acc) (compEnvC scope cl C X.env)) (RR (.ref acc) C) s₃ := by
    rintro s₃ rfl
    refine dcomp_loop W turn T (hg _ _ _ _ _) (hc _ _ _ _ _) (hk _ _ _ _ _) (hv _ _ _ _ _) hcalm
      (fun b hb => ⟨below b (fpLt b hb), fun z => ?_, fun x c e z => (hfL b hb).2.2.2.2.1 x c (hc1 x c e) z⟩) ?_ I1 st1 (fun b hb => (hfL b hb).1) w0
    · rcases List.mem_cons.mp (IL.stkSub b z) with q | q
      · exact (hfL b hb).2.1 q
      · exact (hfL b hb).2.2.1 q
    · intro s' σ' H' J' q
      obtain ⟨m, hm, _⟩ := J'.loc
      have IX : Inv X pins σ H' s' := IL.call' J'.os J'.base J'.hok J'.bare fun b hb => ⟨(hfL b hb).2.2.2.1, (hfL b hb).2.1, (hfL b hb).2.2.2.2.1, (hfL b hb).2.2.2.2.2⟩
      refine fin acc C H' s' m IX hm J'.free ?_ ?_ ?_ ?_ q
      · exact Nat.ne_of_gt (Nat.lt_of_lt_of_le IL.lt (by show H2.objs.size ≤ C; rw [hCn]; exact Nat.le_refl _))
      · exact Nat.le_trans IL.sz (by show H2.objs.size ≤ C; rw [hCn]; exact Nat.le_refl _)
      · exact fun x c e z => absurd (cellLt x c e) (by rw [z]; exact Nat.lt_irrefl _)
      · exact fun p hp z => absurd (pinLt p hp) (by rw [z]; exact Nat.lt_irrefl _)
  exact codeAny_compStart_dict (loop _ rfl) (T.self _ 0 _ _ _ st1 (loop _ rfl))
/-- x = {k: v for ..}, x a local name, on one row -/
theorem ps_setDComp {i : Nat} {x : Str} {pos' spos : Pos} (S : CompScope X scope own js N') (hcalm : X.calm = true) (hN : X.N.Nodup) (hx : X.N[i]? = some x) (hk : X.env.scope.names.lookup x = some .local) (hi : PI X tg iter wi) (hg : ∀ cl C s₀ H₀ ex, PG (cxComp X scope N' cl C s₀ H₀ ex) tg g) (hc : ∀ cl C s₀ H₀ ex, PIfs (cxComp X scope N' cl C s₀ H₀ ex) ifs tt)
    (hke : ∀ cl C s₀ H₀ ex, PE (cxComp X scope N' cl C s₀ H₀ ex) ke tk) (hve : ∀ cl C s₀ H₀ ex, PE (cxComp X scope N' cl C s₀ H₀ ex) ve tv) (hsw : swapsWith (.DictComp ke ve [⟨tg, iter, ifs, 0⟩] scope pos) (some (.Name x pos')) spos.line X.env = pure true := by rfl) (hs : ∀ x, foldedSetIterable iter X.env x = pure x := by intro _; rfl) :
    PS X (.Assign [.Name x pos'] (.DictComp ke ve [⟨tg, iter, ifs, 0⟩] scope pos) spos) (tAsg (tDComp wi g tt tk tv own.length js) (gName i)) := by
  intro pins s σ H D I h
  obtain ⟨cl, hcl, hc1, hc2⟩ := closure_ok (env := X.env) scope fun y hy hk => I.ok.has y.1 (S.free y hy hk)
  rw [exec_Assign_Name_used _ _ _ _ hsw]
  refine wpAny_bind (wpAny_standAt (wpAny_bind ?_))
  show wpAny _ X.A (do let _ ← comprehension (.DictComp ke ve [⟨tg, iter, ifs, 0⟩] scope pos) scope X.env _ newDict false (eval iter X.env) (some (assign (.Name x pos') X.env))) _ _ s
  refine wpAny_bind (wpAny_mono (wpAny_comprehension_free (use := some (assign (.Name x pos') X.env)) (Q := fun _ s' => SP X pins D .next s') rfl hs hcl S.kind S.names
    (thn (hi pins s σ H _ I h) fun v s1 h1 => thn h1 fun itv s2 h2 => ?_)) (fun _ s' hq => wpAny_pure (wpAny_pure hq)) fun _ _ e => e)
  obtain ⟨it, fp, tn, J, H2, e, I2, T, st2, f2, hW⟩ := h2
  subst e
  refine dcomp_run (RR := fun acc C => compPost (model X.prog X.w) X.A X.xe (some (assign (.Name x pos') X.env)) (fun _ s' => SP X pins D .next s') acc C) S hcalm hg hc hke hve hc1 hc2 I2 T st2 f2 hW ?_
  intro acc C H' s' m IX hm hCn hL hz hcn hpn q
  show wpAny _ X.A (assign (.Name x pos') X.env (.ref acc)) _ _ s'
  refine wpAny_assign_Name (store_ok2 IX hN hx (.inl hk) (v := .ref acc) rfl (fun s'' I'' hsb => ?_) (.inr hk))
  obtain ⟨a, hsb, ha⟩ := hsb
  have haC : C ≠ a := by
    rcases ha with z | z
    · rw [z]; exact hL
    · exact fun q => hcn x a z q.symm
  refine ⟨m, hm.sameBut hsb haC, fun h' hs' => ⟨_, _, ?_, q⟩⟩
  exact I''.turned (t' := s''.toks) (it := C) (fun b o hb e => (hs'.2 b hb).trans e) hCn hL (.inr hz) hcn hpn
end
end L2

set_option Elab.async false
set_option linter.all false
set_option maxRecDepth 100000
set_option maxHeartbeats 4000000
namespace L2
open PySem PySem.Spec PyProof.Rows PySem.SeqAt
/-! ### t == (): two empty tuples -/
/-! ### lists of a known length -/
theorem len1 {α : Type} {us : List α} (h : us.length = 1) : ∃ a, us = [a] := List.length_eq_one_iff.mp h
theorem len2 {α : Type} {us : List α} (h : us.length = 2) : ∃ a b, us = [a, b] := by
  cases us with
  | nil => cases h
  | cons a r =>
    obtain ⟨b, rfl⟩ := len1 (us := r) (by simpa using h)
    exact ⟨a, b, rfl⟩
theorem len3 {α : Type} {us : List α} (h : us.length = 3) : ∃ a b c, us = [a, b, c] := by
  cases us with
  | nil => cases h
  | cons a r =>
    obtain ⟨b, c, rfl⟩ := len2 (us := r) (by simpa using h)
    exact ⟨a, b, c, rfl⟩
end L2

set_option Elab.async false
set_option linter.all false
set_option maxRecDepth 100000
set_option maxHeartbeats 4000000
namespace L2
open PySem PySem.Spec PyProof.Rows
theorem dcomp_range {lo : Int} {n : Nat} {g : TG} {tk tv : TE} {acc : Addr} {F : Hp → Prop} {σ0 : St} {H0 : Hp} (Pv : Nat → St → Hp → Prop) (h0 : Pv 0 σ0 H0)
    (hs : ∀ i σ H, i < n → Pv i σ H → ∀ N : St → Hp → Prop, (∀ σ' H', Pv (i + 1) σ' H' → N σ' H') → g (.int (lo + i)) σ H fun σ2 H2 => tk σ2 H2 fun y H4 => tv σ2 H4 fun z H5 => ∃ kvs k, H5 acc = some (.dK kvs) ∧ y = kV k ∧ kvs.length < sizeLine ∧ N σ2 (upd H5 acc (.dK (putK kvs k z))))
    (hd : ∀ σ H, Pv n σ H → F H) : ∃ W : Nat → Nat → St → Hp → Prop, (∃ m, W 0 m σ0 H0) ∧ DTurn (Itr lo n) g tYes tk tv acc F W := by
  refine ⟨fun i m σ H => m = n - i ∧ i ≤ n ∧ Pv i σ H, ⟨n, by simp, Nat.zero_le _, h0⟩, ?_⟩
  rintro i m σ H ⟨rfl, hi, p⟩
  by_cases hlt : i < n
  · refine .inr ⟨hlt, fun x H' y => ?_⟩
    obtain ⟨e, y⟩ := y
    subst e y
    exact hs i σ _ hlt p (fun σ' H' => ∃ m', m' < n - i ∧ m' = n - (i + 1) ∧ i + 1 ≤ n ∧ Pv (i + 1) σ' H') fun σ' H' q => ⟨n - (i + 1), by omega, rfl, hlt, q⟩
  · have e : i = n := by omega
    subst e
    exact .inl ⟨Nat.le_refl _, hd σ H p⟩
theorem dget_int {H : Hp} {p : Addr} {kvs : List (Key × V)} {v : Int} {x : V} (h : H p = some (.dK kvs)) (e : valV kvs (.inl v) = some x) : DGet H p (.int v) (some x) := by
  rw [← e]; exact DGet.k (k := Sum.inl v) h
theorem putK_old {kvs : List (Key × V)} {k : Key} {x v : V} (h : valV kvs k = some x) : (putK kvs k v).length = kvs.length := by
  unfold putK
  rw [if_pos ?_, List.length_map]
  unfold valV at h
  cases e : kvs.find? fun kv => decide (kv.1 = k) with
  | none => rw [e] at h; cases h
  | some q =>
    rw [List.any_eq_true]
    exact ⟨q, List.mem_of_find?_eq_some e, by simpa using List.find?_some e⟩
end L2

set_option Elab.async false
set_option linter.all false
set_option maxRecDepth 100000
set_option maxHeartbeats 4000000
namespace L2
open PySem PySem.Spec PyProof.Rows
/-! ### max, min, sum of a list of numbers -/
section
variable {X : Cx}
end
end L2

set_option Elab.async false
set_option linter.all false
set_option maxRecDepth 100000
set_option maxHeartbeats 4000000
namespace L2
open PySem PySem.Spec PyProof.Rows
end L2

set_option Elab.async false
set_option linter.all false
set_option maxRecDepth 100000
set_option maxHeartbeats 4000000
namespace L2
open PySem PySem.Spec PyProof.Rows PySem.SeqAt
/-! ### what a reading comes to, whatever is asked behind it -/
def EvE (t : TE) (σ : St) (H : Hp) (v : V) : Prop := ∀ Q : VK, Q v H → t σ H Q
def EvT (t : TT) (σ : St) (H : Hp) (b : Bool) : Prop := ∀ Q : Bool → Hp → Prop, Q b H → t σ H Q
def EvR (r : R2) (x y : V) (H : Hp) (v : V) : Prop := ∀ Q : VK, Q v H → r x y H Q
/-- a text is made, of at most m signs more -/
def EvF (t : TF) (σ : St) (H : Hp) (m : Nat) : Prop := ∀ (out : Str) (Q : VK), out.length + m ≤ sizeLine → (∀ y, Q (.str y) H) → t out σ H Q
section
variable {σ : St} {H : Hp} {ta tb tc : TE} {t u : TT} {x y z v : V} {r r' : R2} {k k' : Bool} {f : TF} {m n : Nat}
theorem EvE.var {i : Nat} (h : σ[i]? = some (some v)) : EvE (tVar i) σ H v := fun Q q => ⟨v, h, q⟩
theorem EvE.con : EvE (tC v) σ H v := fun Q q => q
theorem EvE.op (a : EvE ta σ H x) (b : EvE tb σ H y) (c : EvR r x y H v) : EvE (tOp r ta tb) σ H v := fun Q q => a _ (b _ (c _ q))
theorem EvE.neg {i : Int} (a : EvE ta σ H (.int i)) : EvE (tUn (rU fun i => .int (-i)) ta) σ H (.int (-i)) := fun Q q => a _ ⟨i, rfl, q⟩
theorem EvR.i0 {g : Int → Int → V} {i j : Int} : EvR (rI0 g) (.int i) (.int j) H (g i j) := fun Q q => ⟨i, j, rfl, rfl, q⟩
theorem EvR.eq (h : scal x y = true) : EvR rEq x y H (.bl (decide (x = y))) := fun Q q => ⟨h, q⟩
theorem EvT.test {t : TE} (a : EvE t σ H (.bl k)) : EvT (tTest t) σ H k := fun Q q => a _ ⟨k, rfl, q⟩
theorem EvE.chain (a : EvE ta σ H x) (b : EvE tb σ H y) (c : EvE tc σ H z) (h : EvR r x y H (.bl k)) (h' : EvR r' y z H (.bl k')) : EvE (tChain r r' ta tb tc) σ H (.bl (k && k')) := fun Q q => a _ (b _ (h _ ⟨k, rfl, by
  cases k with
  | false => exact ifF rfl q
  | true => exact ifT rfl (c _ (h' _ q))⟩))
theorem EvT.not (a : EvT t σ H k) : EvT (tNot t) σ H (!k) := fun Q q => a _ q
theorem EvT.or (a : EvT t σ H k) (b : EvT u σ H k') : EvT (tOr t u) σ H (k || k') := fun Q q => a _ (by
  cases k with
  | false => exact ifF rfl (b _ q)
  | true => exact ifT rfl q)
theorem EvT.iff {D : Ends} {a b : TS} (h : EvT t σ H k) (q : if k = true then a D σ H else b D σ H) : tIfS t a b D σ H := h _ q
theorem EvF.nil : EvF (fun out _ H Q => out.length ≤ sizeLine ∧ Q (.str out) H) σ H 0 := fun out Q l q => ⟨l, q _⟩
theorem EvF.txt {x : Str} (l : x.length ≤ m) (h : EvF f σ H n) : EvF (fun out σ H Q => (out ++ x).length ≤ sizeLine ∧ f (out ++ x) σ H Q) σ H (m + n) := fun out Q lo q => by
  have := Str.length_append out x
  exact ⟨by omega, h _ Q (by omega) q⟩
theorem EvF.int {te : TE} {i : Int} (a : EvE te σ H (.int i)) (hi : i.natAbs.log2 < 1920 ∧ (Str.ofString (toString i)).length ≤ 1000) (h : EvF f σ H n) : EvF (fun out σ H Q => te σ H fun x H1 => ∃ y, FmtV x y ∧ (out ++ y).length ≤ sizeLine ∧ f (out ++ y) σ H1 Q) σ H (1000 + n) := fun out Q lo q => by
  have := Str.length_append out (Str.ofString (toString i))
  have := hi.2
  exact a _ ⟨_, .inr ⟨i, rfl, hi.1, rfl⟩, by omega, h _ Q (by omega) q⟩
end
end L2

set_option Elab.async false
set_option linter.all false
set_option maxRecDepth 100000
set_option maxHeartbeats 4000000
namespace L2
open PySem PySem.Spec PyProof.Rows PySem.SeqAt
variable {X : Cx}
/-! ### != of two lists of data -/
def rNeL (K : PySem.W.Frag) : R2 := fun x y H Q => ∃ d e, Rep K H x (.list d) ∧ Rep K H y (.list e) ∧ pdDeps d ≤ 60 ∧ Q (.bl (!pdEqs d e)) H
theorem op_neL (hu : X.A.units + 64 < cLine) : OpR X (compareOp .NotEq) (rNeL X.K) := by
  intro pins s σ H x y v u Q I rx ry h
  obtain ⟨d, e, h1, h2, hd, q⟩ := h
  cases h1 with
  | lst g1 rs1 =>
    cases h2 with
    | lst g2 rs2 =>
      cases (show v = Value.ref _ from rx)
      cases (show u = Value.ref _ from ry)
      obtain ⟨its1, rv1, p1, _⟩ := I.list g1
      obtain ⟨its2, rv2, p2, _⟩ := I.list g2
      have hz := allEq (X := X) (H := H) (A := X.A) rs1 rs2 rv1 rv2
      by_cases hs : its1.toArray.size = its2.toArray.size
      · have hw := RcNeAt.lists (A := X.A) p1.isList p2.isList hs (by omega)
          (e := fun j => pdEq (d.getD j .none) (e.getD j .none)) (fun j h1 h2 => by simpa using eqs_at I rs1 rs2 rv1 rv2 (A := X.A.in1) (by show X.A.units + 1 + _ < _; omega) j (by simpa using h1) (by simpa using h2))
        rw [← hs, Nat.min_self, beq_self_eq_true, Bool.and_true] at hz
        rw [hz] at hw
        exact hw _ _ _ _ ⟨.bl _, H, I, rfl, q⟩
      · have hw := RcNeAt.lists_lengths (A := X.A) p1.isList p2.isList (by simpa using hs) (by omega)
        have : pdEqs d e = false := by
          rw [← hz, beq_eq_false_iff_ne.mpr hs, Bool.and_false]
        rw [this] at q
        exact hw _ _ _ _ ⟨.bl _, H, I, rfl, q⟩
section
variable {σ : St} {H : Hp} {ta tb : TE} {k k' : Bool} {x y : V}
theorem EvE.and (a : EvE ta σ H (.bl k)) (b : EvE tb σ H (.bl k')) : EvE (tAndV ta tb) σ H (.bl (k && k')) := fun Q q => a _ ⟨k, rfl, by
  cases k with
  | false => exact ifF rfl q
  | true => exact ifT rfl (b _ q)⟩
theorem EvR.ne (h : scal x y = true) : EvR rNe x y H (.bl (!decide (x = y))) := fun Q q => ⟨h, q⟩
end
end L2

set_option linter.all false
set_option maxHeartbeats 4000000
namespace Bf
abbrev Tie := Int × Int × Int
/-- the tie is met by these heights -/
def Sat (h : Int → Int) (e : Tie) : Prop := h e.2.1 + e.2.2 ≤ h e.1
def put {α : Type} (f : Int → α) (a : Int) (x : α) : Int → α := fun b => if b = a then x else f b
theorem put_same {α : Type} {f : Int → α} {a : Int} {x : α} : put f a x a = x := if_pos rfl
theorem put_ne {α : Type} {f : Int → α} {a b : Int} {x : α} (h : b ≠ a) : put f a x b = f b := if_neg h
/-- heights, who raised each last, in which round, at which time; the clock -/
structure St where
  h : Int → Int
  by' : Int → Option Tie
  r : Int → Nat
  ts : Int → Nat
  c : Nat
def St.raise (s : St) (k : Nat) (e : Tie) : St := ⟨put s.h e.1 (s.h e.2.1 + e.2.2), put s.by' e.1 (some e), put s.r e.1 k, put s.ts e.1 (s.c + 1), s.c + 1⟩
def St.zero : St := ⟨fun _ => 0, fun _ => none, fun _ => 0, fun _ => 0, 0⟩
structure Good (ties : List Tie) (k : Nat) (s : St) : Prop where
  by1 : ∀ v e, s.by' v = some e → e.1 = v ∧ e ∈ ties
  sl : ∀ v e, s.by' v = some e → s.h v ≤ s.h e.2.1 + e.2.2 ∧ (s.ts v < s.ts e.2.1 → s.h v < s.h e.2.1 + e.2.2)
  rr : ∀ v e, s.by' v = some e → s.r v ≤ s.r e.2.1 + 1 ∧ 1 ≤ s.ts v
  no : ∀ v, s.by' v = none → s.r v = 0
  tc : ∀ v, s.ts v ≤ s.c
  ti : ∀ u v, s.ts u = s.ts v → 1 ≤ s.ts u → u = v
  nn : ∀ v, 0 ≤ s.h v
  le : ∀ g : Int → Int, (∀ v, 0 ≤ g v) → (∀ e ∈ ties, Sat g e) → ∀ v, s.h v ≤ g v
  rk : ∀ v, s.r v ≤ k
theorem Good.zero (ties : List Tie) (k : Nat) : Good ties k St.zero := ⟨fun v e h => by simp [St.zero] at h, fun v e h => by simp [St.zero] at h, fun v e h => by simp [St.zero] at h, fun v _ => rfl, fun v => Nat.zero_le _, fun u v _ h => by simp [St.zero] at h, fun v => Int.le_refl _, fun g h0 _ v => h0 v, fun v => Nat.zero_le _⟩
theorem Good.up {ties : List Tie} {k k' : Nat} {s : St} (G : Good ties k s) (h : k ≤ k') : Good ties k' s := ⟨G.by1, G.sl, G.rr, G.no, G.tc, G.ti, G.nn, G.le, fun v => Nat.le_trans (G.rk v) h⟩
/-- a tie that is not met raises -/
theorem Good.raise {ties : List Tie} {k : Nat} {s : St} {e : Tie} (G : Good ties k s) (m : e ∈ ties) (hne : e.1 ≠ e.2.1) (hlt : s.h e.1 < s.h e.2.1 + e.2.2) (hr : k ≤ s.r e.2.1 + 1) : Good ties k (s.raise k e) := by
  obtain ⟨o, t, l⟩ := e
  dsimp only at hne hlt hr
  have hto : t ≠ o := Ne.symm hne
  refine ⟨fun v e h => ?_, fun v e h => ?_, fun v e h => ?_, fun v h => ?_, fun v => ?_, fun u v h h1 => ?_, fun v => ?_, fun g h0 hg v => ?_, fun v => ?_⟩
  · dsimp only [St.raise] at h
    by_cases q : v = o
    · subst q; rw [put_same] at h; cases h; exact ⟨rfl, m⟩
    · rw [put_ne q] at h; exact G.by1 v e h
  · dsimp only [St.raise] at h ⊢
    by_cases q : v = o
    · subst q
      rw [put_same] at h; cases h
      dsimp only
      rw [put_same, put_ne hto, put_same, put_ne hto]
      have := G.tc t
      exact ⟨Int.le_refl _, fun z => by omega⟩
    · rw [put_ne q] at h
      have h1 := G.sl v e h
      have hb := G.by1 v e h
      rw [put_ne q, put_ne q]
      by_cases q2 : e.2.1 = o
      · rw [q2, put_same, put_same]
        rw [q2] at h1
        exact ⟨by omega, fun _ => by omega⟩
      · rw [put_ne q2, put_ne q2]; exact h1
  · dsimp only [St.raise] at h ⊢
    by_cases q : v = o
    · subst q
      rw [put_same] at h; cases h
      dsimp only
      rw [put_same, put_ne hto, put_same]
      exact ⟨hr, by omega⟩
    · rw [put_ne q] at h
      have h1 := G.rr v e h
      rw [put_ne q, put_ne q]
      by_cases q2 : e.2.1 = o
      · rw [q2, put_same]
        have := G.rk v
        exact ⟨by omega, h1.2⟩
      · rw [put_ne q2]; exact h1
  · dsimp only [St.raise] at h ⊢
    by_cases q : v = o
    · subst q; rw [put_same] at h; cases h
    · rw [put_ne q] at h ⊢; exact G.no v h
  · dsimp only [St.raise]
    by_cases q : v = o
    · subst q; rw [put_same]; exact Nat.le_refl _
    · rw [put_ne q]; exact Nat.le_trans (G.tc v) (Nat.le_succ _)
  · dsimp only [St.raise] at h h1
    by_cases q : u = o
    · by_cases q2 : v = o
      · rw [q, q2]
      · rw [q, put_same, put_ne q2] at h
        have := G.tc v
        omega
    · by_cases q2 : v = o
      · rw [q2, put_same, put_ne q] at h
        have := G.tc u
        omega
      · rw [put_ne q, put_ne q2] at h
        rw [put_ne q] at h1
        exact G.ti u v h h1
  · dsimp only [St.raise]
    by_cases q : v = o
    · subst q; rw [put_same]; have := G.nn v; omega
    · rw [put_ne q]; exact G.nn v
  · dsimp only [St.raise]
    by_cases q : v = o
    · subst q
      rw [put_same]
      have h1 := G.le g h0 hg t
      have h2 : g t + l ≤ g v := hg _ m
      omega
    · rw [put_ne q]; exact G.le g h0 hg v
  · dsimp only [St.raise]
    by_cases q : v = o
    · subst q; rw [put_same]; exact Nat.le_refl _
    · rw [put_ne q]; exact G.rk v
/-- within round k: the ties P are gone through, the ties S are still to come; st: the one raised last in this round -/
structure Round (ties : List Tie) (k : Nat) (P S : List Tie) (s : St) (st : Option Int) : Prop where
  g : Good ties k s
  p : ∀ e ∈ P, Sat s.h e ∨ k ≤ s.r e.2.1
  q : ∀ e ∈ S, Sat s.h e ∨ k ≤ s.r e.2.1 + 1
  n : st = none → ∀ e ∈ P, Sat s.h e
  y : ∀ v, st = some v → s.r v = k ∧ ∃ e ∈ ties, e.1 = v
theorem Round.first (ties : List Tie) : Round ties 1 [] ties St.zero none := ⟨.zero ties 1, fun e h => by simp at h, fun e _ => .inr (by simp [St.zero]), fun _ e h => by simp at h, fun v h => by cases h⟩
theorem Round.next {ties : List Tie} {k : Nat} {s : St} {v : Int} (R : Round ties k ties [] s (some v)) : Round ties (k + 1) [] ties s none :=
  ⟨R.g.up (Nat.le_succ _), fun e h => by simp at h, fun e h => (R.p e h).imp id fun z => by omega, fun _ e h => by simp at h, fun v h => by cases h⟩
theorem Round.keep {ties : List Tie} {k : Nat} {P S : List Tie} {s : St} {st : Option Int} {e : Tie} (R : Round ties k P (e :: S) s st) (h : ¬ s.h e.1 < s.h e.2.1 + e.2.2) : Round ties k (P ++ [e]) S s st := by
  have he : Sat s.h e := by unfold Sat; omega
  refine ⟨R.g, fun f hf => ?_, fun f hf => R.q f (List.mem_cons_of_mem _ hf), fun hn f hf => ?_, R.y⟩
  · rcases List.mem_append.mp hf with hf | hf
    · exact R.p f hf
    · cases List.mem_singleton.mp hf; exact .inl he
  · rcases List.mem_append.mp hf with hf | hf
    · exact R.n hn f hf
    · cases List.mem_singleton.mp hf; exact he
theorem sat_raise {s : St} {k : Nat} {e f : Tie} (hlt : s.h e.1 < s.h e.2.1 + e.2.2) (hs : Sat s.h f) (hf : f.2.1 ≠ e.1) : Sat (s.raise k e).h f := by
  unfold Sat at hs ⊢
  dsimp only [St.raise]
  rw [put_ne hf]
  by_cases q : f.1 = e.1
  · rw [q, put_same]; rw [q] at hs; omega
  · rw [put_ne q]; exact hs
theorem Round.raise {ties : List Tie} {k : Nat} {P S : List Tie} {s : St} {st : Option Int} {e : Tie} (R : Round ties k P (e :: S) s st) (m : e ∈ ties) (hne : e.1 ≠ e.2.1) (hlt : s.h e.1 < s.h e.2.1 + e.2.2) : Round ties k (P ++ [e]) S (s.raise k e) (some e.1) := by
  have hr : k ≤ s.r e.2.1 + 1 := by
    rcases R.q e List.mem_cons_self with z | z
    · unfold Sat at z; omega
    · exact z
  have rr : ∀ v, s.r v ≤ (s.raise k e).r v := fun v => by
    dsimp only [St.raise]
    by_cases q : v = e.1
    · subst q; rw [put_same]; exact R.g.rk _
    · rw [put_ne q]; exact Nat.le_refl _
  have ro : (s.raise k e).r e.1 = k := put_same
  have keep : ∀ f, Sat s.h f → Sat (s.raise k e).h f ∨ k ≤ (s.raise k e).r f.2.1 := fun f hf => by
    by_cases q : f.2.1 = e.1
    · right; rw [q, ro]; exact Nat.le_refl _
    · left; exact sat_raise hlt hf q
  refine ⟨R.g.raise m hne hlt hr, fun f hf => ?_, fun f hf => ?_, (fun hn => by cases hn), fun v hv => ?_⟩
  · rcases List.mem_append.mp hf with hf | hf
    · rcases R.p f hf with z | z
      · exact keep f z
      · exact .inr (Nat.le_trans z (rr _))
    · cases List.mem_singleton.mp hf
      left
      unfold Sat
      dsimp only [St.raise]
      rw [put_same, put_ne (Ne.symm hne)]
      exact Int.le_refl _
  · rcases R.q f (List.mem_cons_of_mem _ hf) with z | z
    · exact (keep f z).imp id fun z => by omega
    · right; have := rr f.2.1; omega
  · cases hv
    exact ⟨ro, e, m, rfl⟩

/-! ### a ring -/
theorem nodup_len : ∀ (n : Nat) (a : Int) (l : List Int), l.Nodup → (∀ x ∈ l, a ≤ x ∧ x < a + n) → l.length ≤ n
  | 0, a, l, _, h => by
    cases l with
    | nil => exact Nat.le_refl _
    | cons x r => have := h x List.mem_cons_self; omega
  | n + 1, a, l, nd, h => by
    by_cases q : a + n ∈ l
    · have h1 := nodup_len n a (l.erase (a + n)) (nd.erase _) fun x hx => by
        have := (List.Nodup.mem_erase_iff nd).mp hx
        have h2 := h x this.2
        have h3 := this.1
        refine ⟨h2.1, ?_⟩
        omega
      rw [List.length_erase_of_mem q] at h1
      omega
    · have h1 := nodup_len n a l nd fun x hx => by
        have h2 := h x hx
        have h3 : x ≠ a + n := fun z => q (z ▸ hx)
        exact ⟨h2.1, by omega⟩
      omega
/-- the way back -/
def nx (s : St) (v : Int) : Int := match s.by' v with
  | some e => e.2.1
  | none => v
def it (s : St) (v : Int) : Nat → Int
  | 0 => v
  | i + 1 => nx s (it s v i)
theorem it_add (s : St) (v : Int) (i : Nat) : ∀ j, it s v (i + j) = it s (it s v i) j
  | 0 => rfl
  | j + 1 => by show nx s (it s v (i + j)) = nx s _; rw [it_add s v i j]
theorem nx_of {s : St} {v : Int} {e : Tie} (h : s.by' v = some e) : nx s v = e.2.1 := by unfold nx; rw [h]
/-- a dup in a list that is no Nodup -/
theorem exists_dup {f : Nat → Int} : ∀ n, ¬ ((List.range n).map f).Nodup → ∃ i j, i < j ∧ j < n ∧ f i = f j
  | 0, h => absurd (by simp) h
  | n + 1, h => by
    rw [List.range_succ, List.map_append, List.map_cons, List.map_nil] at h
    by_cases q : ((List.range n).map f).Nodup
    · by_cases q2 : f n ∈ (List.range n).map f
      · obtain ⟨i, hi, e⟩ := List.mem_map.mp q2
        exact ⟨i, n, List.mem_range.mp hi, Nat.lt_succ_self _, e⟩
      · exfalso
        refine h (List.nodup_append.mpr ⟨q, by simp, fun a ha b hb => ?_⟩)
        cases List.mem_singleton.mp hb
        exact fun z => q2 (z ▸ ha)
    · obtain ⟨i, j, h1, h2, h3⟩ := exists_dup n q
      exact ⟨i, j, h1, Nat.lt_succ_of_lt h2, h3⟩
section
variable {ties : List Tie} {n : Nat} {a : Int} {s : St} {v : Int}
/-- how the way back goes from one that was raised in round n + 1, over n nodes from a on -/
structure Stuck (ties : List Tie) (n : Nat) (a : Int) (s : St) (v : Int) : Prop where
  g : Good ties (n + 1) s
  nd : ∀ e ∈ ties, (a ≤ e.1 ∧ e.1 < a + n) ∧ (a ≤ e.2.1 ∧ e.2.1 < a + n) ∧ e.1 ≠ e.2.1
  v0 : a ≤ v ∧ v < a + n
  rv : s.r v = n + 1
theorem Stuck.back (S : Stuck ties n a s v) : ∀ i, i ≤ n + 1 → n + 1 ≤ s.r (it s v i) + i ∧ (a ≤ it s v i ∧ it s v i < a + n)
  | 0, _ => ⟨by show n + 1 ≤ s.r v + 0; have := S.rv; omega, S.v0⟩
  | i + 1, h => by
    obtain ⟨h1, h2⟩ := S.back i (by omega)
    show n + 1 ≤ s.r (nx s (it s v i)) + (i + 1) ∧ (a ≤ nx s (it s v i) ∧ nx s (it s v i) < a + n)
    cases e : s.by' (it s v i) with
    | none => have := S.g.no _ e; omega
    | some t =>
      rw [nx_of e]
      have := (S.g.rr _ _ e).1
      exact ⟨by omega, (S.nd t (S.g.by1 _ _ e).2).2.1⟩
theorem Stuck.has0 (S : Stuck ties n a s v) {i : Nat} (h : i ≤ n) : ∃ e, s.by' (it s v i) = some e := by
  obtain ⟨h1, _⟩ := S.back i (by omega)
  cases e : s.by' (it s v i) with
  | none => have := S.g.no _ e; omega
  | some t => exact ⟨t, rfl⟩
theorem Stuck.per (S : Stuck ties n a s v) : ∃ i d, 1 ≤ d ∧ i + d ≤ n ∧ ∀ m, i ≤ m → it s v (m + d) = it s v m := by
  have h1 : ¬ ((List.range (n + 1)).map (it s v)).Nodup := fun nd => by
    have := nodup_len n a _ nd fun x hx => by
      obtain ⟨i, hi, e⟩ := List.mem_map.mp hx
      rw [← e]
      exact (S.back i (by have := List.mem_range.mp hi; omega)).2
    simp at this
    omega
  obtain ⟨i, j, h2, h3, h4⟩ := exists_dup _ h1
  refine ⟨i, j - i, by omega, by omega, fun m hm => ?_⟩
  have e1 : m + (j - i) = j + (m - i) := by omega
  have e2 : it s v m = it s v (i + (m - i)) := by rw [Nat.add_sub_cancel' hm]
  rw [e1, e2, it_add, it_add, h4]
theorem Stuck.has (S : Stuck ties n a s v) : ∀ i, ∃ e, s.by' (it s v i) = some e := by
  obtain ⟨i0, d, h1, h2, h3⟩ := S.per
  intro i
  induction i using Nat.strongRecOn with
  | _ i ih =>
    by_cases h : i ≤ n
    · exact S.has0 h
    · have e : it s v i = it s v (i - d) := by
        have := h3 (i - d) (by omega)
        rw [Nat.sub_add_cancel (by omega)] at this
        exact this
      rw [e]
      exact ih (i - d) (by omega)
theorem Stuck.loop (S : Stuck ties n a s v) : ∃ d, 1 ≤ d ∧ it s v (n + d) = it s v n := by
  obtain ⟨i0, d, h1, h2, h3⟩ := S.per
  exact ⟨d, h1, h3 n (by omega)⟩
/-- the tie behind the i-th one on the way back -/
def tieAt (s : St) (v : Int) (i : Nat) : Tie := (s.by' (it s v i)).getD (0, 0, 0)
theorem Stuck.tie (S : Stuck ties n a s v) (i : Nat) : s.by' (it s v i) = some (tieAt s v i) := by
  obtain ⟨e, h⟩ := S.has i
  unfold tieAt
  rw [h]; rfl
theorem Stuck.one (S : Stuck ties n a s v) (i : Nat) : (tieAt s v i).1 = it s v i := (S.g.by1 _ _ (S.tie i)).1
theorem Stuck.mem (S : Stuck ties n a s v) (i : Nat) : tieAt s v i ∈ ties := (S.g.by1 _ _ (S.tie i)).2
theorem Stuck.other (S : Stuck ties n a s v) (i : Nat) : (tieAt s v i).2.1 = it s v (i + 1) := (nx_of (S.tie i)).symm
/-- what a ring is -/
structure Ring (es : List Tie) : Prop where
  ne : es ≠ []
  link : ∀ i, i + 1 < es.length → (es.getD i (0, 0, 0)).2.1 = (es.getD (i + 1) (0, 0, 0)).1
  close : (es.getD (es.length - 1) (0, 0, 0)).2.1 = (es.getD 0 (0, 0, 0)).1
  nd : (es.map (·.1)).Nodup
  pos : 0 < (es.map (·.2.2)).sum
def ringOf (s : St) (v : Int) (n m : Nat) : List Tie := (List.range m).map fun i => tieAt s v (n + i)
theorem ringOf_get {s : St} {v : Int} {n m i : Nat} (h : i < m) : (ringOf s v n m).getD i (0, 0, 0) = tieAt s v (n + i) := by
  unfold ringOf
  rw [List.getD_eq_getElem?_getD, List.getElem?_map, List.getElem?_range h]; rfl
theorem ringOf_len {s : St} {v : Int} {n m : Nat} : (ringOf s v n m).length = m := by unfold ringOf; simp
theorem Stuck.sum (S : Stuck ties n a s v) : ∀ m, s.h (it s v n) - s.h (it s v (n + m)) ≤ ((ringOf s v n m).map (·.2.2)).sum ∧
    ((∃ i, i < m ∧ s.ts (it s v (n + i)) < s.ts (it s v (n + i + 1))) → s.h (it s v n) - s.h (it s v (n + m)) < ((ringOf s v n m).map (·.2.2)).sum)
  | 0 => ⟨by simp [ringOf], fun ⟨i, h, _⟩ => absurd h (Nat.not_lt_zero _)⟩
  | m + 1 => by
    obtain ⟨h1, h2⟩ := S.sum m
    have e : ((ringOf s v n (m + 1)).map (·.2.2)).sum = ((ringOf s v n m).map (·.2.2)).sum + (tieAt s v (n + m)).2.2 := by
      unfold ringOf
      rw [List.range_succ, List.map_append, List.map_append, List.sum_append]
      simp
    have h3 := S.g.sl _ _ (S.tie (n + m))
    rw [S.other] at h3
    have e2 : n + (m + 1) = n + m + 1 := rfl
    rw [e, e2]
    refine ⟨by omega, fun ⟨i, hi, ht⟩ => ?_⟩
    by_cases q : i < m
    · have := h2 ⟨i, q, ht⟩
      omega
    · have : i = m := by omega
      subst this
      have := h3.2 ht
      omega
theorem Stuck.ring (S : Stuck ties n a s v) {m : Nat} (h0 : it s v (n + (m + 1)) = it s v n) (h1 : ∀ i, 1 ≤ i → i ≤ m → it s v (n + i) ≠ it s v n) : Ring (ringOf s v n (m + 1)) ∧ ∀ e ∈ ringOf s v n (m + 1), e ∈ ties := by
  refine ⟨⟨?_, fun i hi => ?_, ?_, ?_, ?_⟩, fun e he => ?_⟩
  · intro z
    have := congrArg List.length z
    rw [ringOf_len] at this
    simp at this
  · rw [ringOf_len] at hi
    rw [ringOf_get (by omega), ringOf_get hi, S.other, S.one]
    rfl
  · rw [ringOf_len, Nat.add_sub_cancel, ringOf_get (Nat.lt_succ_self _), ringOf_get (Nat.succ_pos _), S.other, S.one]
    exact h0
  · unfold ringOf
    rw [List.map_map]
    have e : (fun i => ((fun e : Tie => e.1) ∘ fun i => tieAt s v (n + i)) i) = fun i => it s v (n + i) := funext fun i => S.one _
    show ((List.range (m + 1)).map (fun i => ((fun e : Tie => e.1) ∘ fun i => tieAt s v (n + i)) i)).Nodup
    rw [e]
    refine Classical.byContradiction fun z => ?_
    obtain ⟨i, j, h2, h3, h4⟩ := exists_dup _ z
    have e1 : it s v (n + i + (m + 1 - j)) = it s v n := by
      rw [it_add, h4, ← it_add, ← h0]
      congr 1
      omega
    exact h1 (i + (m + 1 - j)) (by omega) (by omega) (by rw [← Nat.add_assoc]; exact e1)
  · obtain ⟨_, h2⟩ := S.sum (m + 1)
    rw [h0] at h2
    refine Int.lt_of_le_of_lt (Int.le_of_eq (Int.sub_self _).symm) (h2 (Classical.byContradiction fun z => ?_))
    have dn : ∀ i, i < m + 1 → s.ts (it s v (n + i + 1)) ≤ s.ts (it s v (n + i)) := fun i hi => by
      refine Classical.byContradiction fun q => z ⟨i, hi, by omega⟩
    have mono : ∀ i, 1 ≤ i → i ≤ m + 1 → s.ts (it s v (n + i)) ≤ s.ts (it s v (n + 1)) := by
      intro i
      induction i with
      | zero => intro h; omega
      | succ i ih =>
        intro _ hi
        by_cases q : i = 0
        · subst q; exact Nat.le_refl _
        · exact Nat.le_trans (dn i (by omega)) (ih (by omega) (by omega))
    have h3 := mono (m + 1) (by omega) (Nat.le_refl _)
    rw [h0] at h3
    have h4 := dn 0 (Nat.succ_pos _)
    have h5 : s.ts (it s v (n + 1)) = s.ts (it s v n) := Nat.le_antisymm h4 h3
    have h6 := (S.g.rr _ _ (S.tie n)).2
    have h7 := S.g.ti _ _ h5.symm h6
    have h8 := (S.nd _ (S.mem n)).2.2
    rw [S.one, S.other] at h8
    exact h8 h7
  · unfold ringOf at he
    obtain ⟨i, _, rfl⟩ := List.mem_map.mp he
    exact S.mem _
end
end Bf
namespace Bf
section
variable {ties : List Tie} {n : Nat} {a : Int} {s : St} {v : Int}
end
end Bf

set_option Elab.async false
set_option linter.all false
set_option maxRecDepth 100000
set_option maxHeartbeats 4000000
namespace Cm
open PySem L2
def top (i : Nat) : Stmt := PySem.Challenge.pw_lanescribe_k26_clocks_refused.main.body.getD i (.Pass ⟨0, 0, 0, 0⟩)
/-! ### the drawer: cells, at, rest, seed -/
def drK (c : Addr) (a r s : Int) : List (Key × V) := [(.inr "cells", .ref c), (.inr "at", .int a), (.inr "rest", .int r), (.inr "seed", .int s)]
theorem pat {c : Addr} {a r s x : Int} : putK (drK c a r s) (.inr "at") (.int x) = drK c x r s := by rfl
theorem prest {c : Addr} {a r s x : Int} : putK (drK c a r s) (.inr "rest") (.int x) = drK c a x s := by rfl
theorem pseed {c : Addr} {a r s x : Int} : putK (drK c a r s) (.inr "seed") (.int x) = drK c a r x := by rfl
theorem gcells {H : Hp} {p c : Addr} {a r s : Int} (h : H p = some (.dK (drK c a r s))) : DGet H p (.str "cells") (some (.ref c)) := DGet.k (k := Sum.inr "cells") h
theorem gat {H : Hp} {p c : Addr} {a r s : Int} (h : H p = some (.dK (drK c a r s))) : DGet H p (.str "at") (some (.int a)) := DGet.k (k := Sum.inr "at") h
theorem grest {H : Hp} {p c : Addr} {a r s : Int} (h : H p = some (.dK (drK c a r s))) : DGet H p (.str "rest") (some (.int r)) := DGet.k (k := Sum.inr "rest") h
theorem gseed {H : Hp} {p c : Addr} {a r s : Int} (h : H p = some (.dK (drK c a r s))) : DGet H p (.str "seed") (some (.int s)) := DGet.k (k := Sum.inr "seed") h
abbrev Big : Int := 2305843009213693951
structure Dr (H : Hp) (p c : Addr) : Prop where
  ex : ∃ (ns : List Int) (a r s : Int), H p = some (.dK (drK c a r s)) ∧ H c = some (.lst (ns.map V.int)) ∧ ns.length ≤ 63 ∧ 0 ≤ a ∧ a ≤ ns.length ∧ 0 ≤ r ∧ 0 ≤ s ∧ s < Big
/-- but the drawer's dict, all is as it was -/
theorem Dr.mono {H H' : Hp} {p c : Addr} (d : Dr H p c) (h : Same H H') : Dr H' p c := by
  obtain ⟨ns, a, r, s, h1, h2, k⟩ := d.ex
  exact ⟨ns, a, r, s, h _ _ h1, h _ _ h2, k⟩
theorem Dr.ne {H : Hp} {p c q : Addr} {o : HO} (d : Dr H p c) (h : H q = some o) (hd : ∀ kvs, o ≠ .dK kvs) : q ≠ p := by
  obtain ⟨ns, a, r, s, h1, _⟩ := d.ex
  exact ne_of h h1 (hd _)
/-- another object than the drawer's own two is rewritten -/
theorem Dr.put {H : Hp} {p c q : Addr} {o : HO} (d : Dr H p c) (h1 : q ≠ p) (h2 : q ≠ c) : Dr (upd H q o) p c := by
  obtain ⟨ns, a, r, s, e1, e2, k⟩ := d.ex
  exact ⟨ns, a, r, s, by rw [upd_ne h1.symm]; exact e1, by rw [upd_ne h2.symm]; exact e2, k⟩
theorem Dr.cell {H : Hp} {p c : Addr} (d : Dr H p c) : ∃ xs, H c = some (.lst xs) := by
  obtain ⟨ns, a, r, s, e1, e2, k⟩ := d.ex
  exact ⟨_, e2⟩
theorem Dr.neN {H : Hp} {p c q : Addr} (d : Dr H p c) (h : H q = none) : p ≠ q := by
  obtain ⟨ns, a, r, s, h1, _⟩ := d.ex
  exact ne_of_none h1 h

structure Txt (K : PySem.W.Frag) (mg : Str → Option Value) : Prop where
  len : mg "len" = none
  range : mg "range" = none
  list : mg "list" = none
  tuple : mg "tuple" = none
  str : mg "str" = none
  bool : mg "bool" = none
  int : mg "int" = none
  min : mg "min" = none
  repr : mg "repr" = none
  all : mg "all" = none
  any : mg "any" = none
  isinstance : mg "isinstance" = none
section
variable {P : Program} {w : World} {K : PySem.W.Frag} {mg : Str → Option Value} {base : Heap}

/-! ### _law_begin -/
def spBegin (K : PySem.W.Frag) : Sp := fun vs H Q _ => ∃ (a : Addr) (ns : List Int), vs = [.ref a] ∧ SqL K H a (ns.map V.int) ∧ ns.length ≤ 63 ∧ ∀ (p c : Addr) (H' : Hp), Dr H' p c → Same H H' → H p = none → Q (.ref p) H'
theorem scB : FnScope ["_law_script", "_law_seed", "_law_cell"] ["_law_script"] (defScope (top 23)) := ⟨rfl, rfl, rfl, by decide +kernel, rfl, by decide +kernel, by decide +kernel⟩
theorem ok_begin {f : Addr} {fd : FuncData} (F : Fun K "_law_begin" "_law_begin" (top 23) f fd) (T : Txt K mg) : FnOk P w K mg base CX0 1 f fd ["_law_script"] (spBegin K) := by
  refine F.ok scB (fun vs H Q E h => ?_) (fun cdv A outer s H vs Q E hr h => ?_)
  · obtain ⟨a, ns, rfl, _⟩ := h
    rfl
  · obtain ⟨a, ns, rfl, hS, hlen, k⟩ := h
    refine ⟨_, (pss_cons (ps_set (i := 1) scB.nd rfl (Or.inl rfl) pe_int)
      (pss_cons (ps_for PassesOwn.never rfl (pi_list (pe_slice sl_list (pv 0) po_none (po_some pe_int))) (pg_name (i := 2) scB.nd rfl (Or.inl rfl))
        (pss_one (ps_set (i := 1) scB.nd rfl (Or.inl rfl) (pe_op op_mod (pe_op op_add (pe_op op_add (pe_op op_mul (pv 1) pe_int) (pe_op op_mul (pv 2) pe_int)) pe_int) pe_int))))
      (pss_one (ps_ret (pe_disp (pps_cons pe_str (pe_callTy call_list_of (by rfl) T.list bt_list (pa_cons (pe_slice sl_list (pv 0) po_none (po_some pe_int)) pa_nil)) (pps_cons pe_str pe_int (pps_cons pe_str pe_int (pps_cons pe_str (pv 1) pps_nil)))) rfl rfl (List.cons_ne_nil _ _) (by show 4 ≤ 15; decide)))))), ?_⟩
    have hcut : cutV (ns.map V.int) none (some 63) = ns.map V.int := by
      show ((ns.map V.int).drop (HT.sIx _ 0 none)).take (HT.sIx _ _ (some ((63 : Nat) : Int)) - HT.sIx _ 0 none) = _
      rw [HT.sIx_none, HT.sIx_nat, List.drop_zero, Nat.sub_zero, List.take_of_length_le]
      rw [List.length_map]; omega
    refine ⟨_, rfl, _, rfl, a, _, rfl, hS, fun q hq => ⟨q, rfl, ⟨_, SqL.of upd_same⟩, ?_⟩⟩
    rw [hcut]
    have hS' : ∀ o, SqL K (upd H q o) a (ns.map V.int) := fun o => (show Same H (upd H q o) from fun b u e => by rw [upd_ne (ne_of_none e hq)]; exact e).seq hS
    refine for_list (K := K) (a := q) (xs := ns.map V.int) (fun i σ H2 => ∃ (z : Int) (v : Option V), σ = [some (.ref a), some (.int z), v] ∧ 0 ≤ z ∧ z < Big ∧ H2 = upd H q (.lst (ns.map V.int)))
      ⟨20011, none, rfl, by decide, by decide, rfl⟩ (fun i σ H2 _ ⟨_, _, _, _, _, e⟩ => by rw [e]; exact SqL.of upd_same) ?_ ?_
    · rintro i y σ H2 hi ⟨z, v, rfl, h0, h1, rfl⟩
      obtain ⟨n, -, rfl⟩ := List.mem_map.mp (List.mem_of_getElem? hi)
      refine ⟨_, rfl, _, _, rfl, rfl, .inl ⟨by omega, by simp only [Big] at h1; omega⟩, _, rfl, _, _, rfl, rfl, .inr ⟨by decide, by decide⟩, _, _, rfl, rfl, _, _, rfl, rfl, _, _, rfl, rfl, (by show (0 : Int) < 2305843009213693951; decide), ?_⟩
      exact ⟨_, _, rfl, Int.emod_nonneg _ (by decide), Int.emod_lt_of_pos _ (by decide), rfl⟩
    · rintro σ H2 ⟨z, v, rfl, h0, h1, rfl⟩
      intro p hp
      have s1 : Same H (upd (upd H q (.lst (ns.map V.int))) p (.dK [])) := (Same.new hq).trans (Same.new hp)
      refine ⟨_, rfl, _, rfl, a, _, rfl, s1.seq hS, fun q2 hq2 => ⟨q2, _, rfl, .inl (SqL.of upd_same), fun l hl => ⟨_, rfl, ?_, drK l 0 0 z, rfl, by show 4 ≤ 15; decide, ?_⟩⟩⟩
      · exact (Same.new hl) _ _ ((Same.new hq2) _ _ upd_same)
      · rw [hcut]
        have hpl : (upd (upd (upd (upd H q (.lst (ns.map V.int))) p (.dK [])) q2 (.lst (ns.map V.int))) l (.lst (ns.map V.int))) p = some (.dK []) := (Same.new (by rw [hcut] at hl; exact hl)) _ _ ((Same.new hq2) _ _ upd_same)
        have hlp : l ≠ p := ne_of upd_same hpl (by intro z; cases z)
        refine k p l _ ⟨ns, 0, 0, z, upd_same, by rw [upd_ne hlp]; exact upd_same, hlen, by decide, by omega, by decide, h0, h1⟩ ?_ ((Same.new hq).free hp)
        intro b u e
        have e1 := ((Same.new (q := l) (o := .lst (ns.map V.int)) (by rw [hcut] at hl; exact hl)) _ _ ((Same.new hq2) _ _ (s1 b u e)))
        rw [upd_ne (ne_of_none ((Same.new hq) b u e) hp)]
        exact e1

/-! ### _law_pick -/
def spPick : Sp := fun vs H Q _ => ∃ (p c : Addr) (m : Int), vs = [.ref p, .int m] ∧ Dr H p c ∧ 0 < m ∧ m < 340282366920938463463374607431768211456 ∧ ∀ (r : Int) (H' : Hp), 0 ≤ r → r < m → Dr H' p c → But p H H' → Q (.int r) H'
theorem scP : FnScope ["_law_d", "_law_many", "_law_cell", "_law_digit", "_law_one"] ["_law_d", "_law_many"] (defScope (top 24)) := ⟨rfl, rfl, rfl, by decide +kernel, rfl, by decide +kernel, by decide +kernel⟩
theorem ok_pick {f : Addr} {fd : FuncData} (F : Fun K "_law_pick" "_law_pick" (top 24) f fd) (T : Txt K mg) : FnOk P w K mg base CX0 1 f fd ["_law_d", "_law_many"] spPick := by
  refine F.ok scP (fun vs H Q E h => ?_) (fun cdv A outer s H vs Q E hr h => ?_)
  · obtain ⟨p, c, m, rfl, _⟩ := h
    rfl
  · obtain ⟨p, c, m, rfl, D, m0, m1, k⟩ := h
    have hu := hu_of hr
    refine ⟨_, (pss_cons
  (ps_if (PW.pt (pw_and (pt_cmpR op_eq (pe_dget hu (pv 0) pe_str (fun _ _ => rfl)) pe_int (nomark _)) (pw_and1 (pt_cmpR op_lt (pe_dget hu (pv 0) pe_str (fun _ _ => rfl)) (pe_callB call_len_seq (by rfl) T.len bt_len (pa_cons (pe_dget hu (pv 0) pe_str (fun _ _ => rfl)) pa_nil)) (nomark _))))) (pss_cons
  (ps_set (i := 2) scP.nd rfl (Or.inl rfl) (pe_ix ix_list (pe_dget hu (pv 0) pe_str (fun _ _ => rfl)) (pe_dget hu (pv 0) pe_str (fun _ _ => rfl)) (fun _ _ => rfl)))
  (pss_cons
  (ps_dput hu (pv 0) pe_str (pe_op op_add (pe_dget hu (pv 0) pe_str (fun _ _ => rfl)) pe_int) rfl)
  (pss_one
  (ps_if (pt_cmpR op_ge (pv 2) (pe_op op_pow pe_int pe_int) (nomark _)) (pss_one
  (ps_dput hu (pv 0) pe_str (pv 2) rfl)) (pss_one
  (ps_dput hu (pv 0) pe_str (pe_op op_mod (pe_op op_add (pe_op op_add (pe_op op_mul (pe_dget hu (pv 0) pe_str (fun _ _ => rfl)) pe_int) (pe_op op_mul (pv 2) pe_int)) pe_int) pe_int) rfl)))))) pss_nil)
  (pss_cons
  (ps_if (pt_cmpR op_gt (pe_dget hu (pv 0) pe_str (fun _ _ => rfl)) pe_int (nomark _)) (pss_cons
  (ps_set (i := 3) scP.nd rfl (Or.inl rfl) (pe_op op_mod (pe_dget hu (pv 0) pe_str (fun _ _ => rfl)) (pv 1)))
  (pss_cons
  (ps_dput hu (pv 0) pe_str (pe_op op_fdivW (pe_dget hu (pv 0) pe_str (fun _ _ => rfl)) (pv 1)) rfl)
  (pss_one
  (ps_ret (pv 3))))) pss_nil)
  (pss_cons
  (ps_set (i := 4) scP.nd rfl (Or.inl rfl) (pe_op op_mod (pe_op op_mul (pe_dget hu (pv 0) pe_str (fun _ _ => rfl)) (pe_dget hu (pv 0) pe_str (fun _ _ => rfl))) pe_int))
  (pss_cons
  (ps_dput hu (pv 0) pe_str (pe_op op_mod (pe_op op_add (pe_op op_add (pe_op op_mul (pv 4) pe_int) (pe_op op_mul (pe_dget hu (pv 0) pe_str (fun _ _ => rfl)) pe_int)) pe_int) pe_int) rfl)
  (pss_one
  (ps_ret (pe_op op_mod (pe_op op_fdiv (pe_dget hu (pv 0) pe_str (fun _ _ => rfl)) pe_int) (pv 1)))))))), ?_⟩
    obtain ⟨ns, a, r, sd, h1, h2, hl, a0, a1, r0, s0, s1⟩ := D.ex
    have npc : c ≠ p := ne_of h2 h1 (by intro z; cases z)
    have small : ∀ {x y z : Int}, (drK c x y z).length < sizeLine := fun {x y z} => small1000 (by show 4 ≤ 1000; decide)
    -- behind the first if: the drawer again, cells and place moved on
    refine seq_by (fun σ' H' => ∃ (a' r' sd' : Int) (v : Option V), σ' = [some (.ref p), some (.int m), v, none, none] ∧ H' p = some (.dK (drK c a' r' sd')) ∧ But p H H' ∧ 0 ≤ a' ∧ a' ≤ ns.length ∧ 0 ≤ r' ∧ 0 ≤ sd' ∧ sd' < Big) ?_ ?_
    · rintro σ' H1 ⟨a', r', sd', v, rfl, e1, bt, b0, b1, c0, d0, d1⟩
      have hc1 : ∀ o, (upd H1 p o) c = some (.lst (ns.map V.int)) := fun o => by rw [upd_ne npc]; exact bt c _ h2 npc
      refine ⟨_, rfl, p, _, rfl, grest e1, _, _, rfl, rfl, _, rfl, ?_⟩
      refine ite2 (fun hpos => ?_) (fun _ => ?_)
      · refine ⟨_, rfl, p, _, rfl, grest e1, _, rfl, _, _, rfl, rfl, m0, ?_⟩
        refine ⟨_, rfl, p, _, rfl, grest e1, _, rfl, _, _, rfl, rfl, ⟨m0, m1⟩, _, rfl, p, _, rfl, DPut.k (k := Sum.inr "rest") e1 small, _, rfl, ?_⟩
        rw [prest]
        exact k _ _ (Int.emod_nonneg _ (by omega)) (Int.emod_lt_of_pos _ m0) ⟨ns, a', r' / m, sd', upd_same, hc1 _, hl, b0, b1, Int.ediv_nonneg c0 (by omega), d0, d1⟩ (bt.trans But.upd)
      · have sq : CMul sd' sd' := .inl ⟨by omega, by simp only [Big] at d1; omega⟩
        refine ⟨_, rfl, p, _, rfl, gseed e1, _, rfl, p, _, rfl, gseed e1, _, _, rfl, rfl, sq, _, _, rfl, rfl, (by show (0 : Int) < 2305843009213693951; decide), ?_⟩
        have u0 := Int.emod_nonneg (sd' * sd') (show (2305843009213693951 : Int) ≠ 0 by decide)
        have u1 := Int.emod_lt_of_pos (sd' * sd') (show (0 : Int) < 2305843009213693951 by decide)
        refine ⟨_, rfl, _, _, rfl, rfl, .inr ⟨by decide, by decide⟩, _, rfl, p, _, rfl, gseed e1, _, _, rfl, rfl, .inr ⟨by decide, by decide⟩, _, _, rfl, rfl, _, _, rfl, rfl, _, _, rfl, rfl, (by show (0 : Int) < 2305843009213693951; decide), _, rfl, p, _, rfl, DPut.k (k := Sum.inr "seed") e1 small, ?_⟩
        rw [pseed]
        generalize hsd : (sd' * sd' % 2305843009213693951 * 7 + sd' * 40503 + 12345) % 2305843009213693951 = sn
        have v0 : 0 ≤ sn := hsd ▸ Int.emod_nonneg _ (by decide)
        have v1 : sn < Big := hsd ▸ Int.emod_lt_of_pos _ (by decide)
        refine ⟨_, rfl, p, _, rfl, gseed upd_same, _, _, rfl, rfl, ⟨by decide, by decide⟩, _, rfl, _, _, rfl, rfl, m0, ?_⟩
        exact k _ _ (Int.emod_nonneg _ (by omega)) (Int.emod_lt_of_pos _ m0) ⟨ns, a', r', sn, upd_same, hc1 _, hl, b0, b1, c0, v0, v1⟩ (bt.trans But.upd)
    · intro N hN
      refine ⟨_, rfl, p, _, rfl, grest h1, rfl, _, rfl, ?_⟩
      refine ite2 (fun hz => ?_) (fun _ => ?_)
      · refine ⟨_, rfl, p, _, rfl, gat h1, _, rfl, p, _, rfl, gcells h1, c, _, rfl, .inl (SqL.of h2), _, _, rfl, rfl, _, rfl, ?_⟩
        rw [List.length_map]
        refine ite2 (fun hlt => ?_) (fun _ => ?_)
        · have hlt : a < ns.length := of_decide_eq_true hlt
          obtain ⟨z, hz'⟩ : ∃ z, ns[a.toNat]? = some z := ⟨_, List.getElem?_eq_getElem (by omega)⟩
          have hat : atI (ns.map V.int) a = some (.int z) := by
            have e : (a : Int) = ((a.toNat : Nat) : Int) := by omega
            rw [e]
            refine atI_nat ?_
            rw [List.getElem?_map, hz']; rfl
          refine ⟨_, rfl, p, _, rfl, gcells h1, _, rfl, p, _, rfl, gat h1, c, _, _, _, rfl, rfl, SqL.of h2, hat, ?_⟩
          refine ⟨_, rfl, p, _, rfl, gat h1, _, _, rfl, rfl, _, rfl, p, _, rfl, DPut.k (k := Sum.inr "at") h1 small, ?_⟩
          rw [pat]
          refine ⟨_, rfl, _, _, rfl, rfl, ⟨by decide, by decide, by decide⟩, _, _, rfl, rfl, _, rfl, ?_⟩
          refine ite2 (fun hge => ?_) (fun _ => ?_)
          · refine ⟨_, rfl, _, rfl, p, _, rfl, DPut.k (k := Sum.inr "rest") upd_same small, ?_⟩
            rw [prest]
            have hge : (10 : Int) ^ 18 ≤ z := of_decide_eq_true hge
            exact hN _ _ ⟨a + 1, z, sd, _, rfl, upd_same, But.upd.trans But.upd, by omega, by omega, by omega, s0, s1⟩
          · refine ⟨_, rfl, p, _, rfl, gseed upd_same, _, _, rfl, rfl, .inr ⟨by decide, by decide⟩, _, rfl, _, _, rfl, rfl, .inr ⟨by decide, by decide⟩, _, _, rfl, rfl, _, _, rfl, rfl, _, _, rfl, rfl, (by show (0 : Int) < 2305843009213693951; decide), _, rfl, p, _, rfl, DPut.k (k := Sum.inr "seed") upd_same small, ?_⟩
            rw [pseed]
            exact hN _ _ ⟨a + 1, r, _, _, rfl, upd_same, But.upd.trans But.upd, by omega, by omega, r0, Int.emod_nonneg _ (by decide), Int.emod_lt_of_pos _ (by decide)⟩
        · exact hN _ _ ⟨a, r, sd, _, rfl, h1, But.refl, a0, a1, r0, s0, s1⟩
      · exact hN _ _ ⟨a, r, sd, _, rfl, h1, But.refl, a0, a1, r0, s0, s1⟩
end
end Cm

set_option Elab.async false
set_option linter.all false
set_option maxRecDepth 100000
set_option maxHeartbeats 4000000
namespace Cm
open PySem L2
section
variable {P : Program} {w : World} {K : PySem.W.Frag} {mg : Str → Option Value} {base : Heap}
theorem Dr.dk {H : Hp} {p c : Addr} (d : Dr H p c) : ∃ kvs, H p = some (.dK kvs) := by
  obtain ⟨ns, a, r, s, h1, _⟩ := d.ex
  exact ⟨_, h1⟩
theorem Dr.seq {H H' : Hp} {p c a : Addr} {xs : List V} (d : Dr H p c) (e : But p H H') (h : SqL K H a xs) : SqL K H' a xs := let ⟨_, hp⟩ := d.dk; e.seq hp h
/-- a new object beside -/
theorem Dr.new {H : Hp} {p c q : Addr} {o : HO} (d : Dr H p c) (h : H q = none) : Dr (upd H q o) p c := d.mono (Same.new h)

/-! ### _law_of -/
def spOf (K : PySem.W.Frag) : Sp := fun vs H Q _ => ∃ (p c q : Addr) (xs : List V), vs = [.ref p, .ref q] ∧ Dr H p c ∧ SqL K H q xs ∧ xs ≠ [] ∧ xs.length ≤ 1000 ∧ ∀ (x : V) (H' : Hp), x ∈ xs → Dr H' p c → But p H H' → Q x H'
theorem scO : FnScope ["_law_d", "_law_things"] ["_law_d", "_law_things"] (defScope (top 25)) := ⟨rfl, rfl, rfl, by decide +kernel, rfl, by decide +kernel, by decide +kernel⟩
theorem ok_of {f fP : Addr} {fd fdP : FuncData} (F : Fun K "_law_of" "_law_of" (top 25) f fd) (T : Txt K mg) (DP : Def K mg "_law_pick" (top 24) ["_law_d", "_law_many"] fP fdP) : FnOk P w K mg base CX0 2 f fd ["_law_d", "_law_things"] (spOf K) := by
  have GP : FnOk P w K mg base CX0 1 fP fdP ["_law_d", "_law_many"] spPick := ok_pick DP.F T
  refine F.ok scO (fun vs H Q E h => ?_) (fun cdv A outer s H vs Q E hr h => ?_)
  · obtain ⟨p, c, q, xs, rfl, _⟩ := h
    rfl
  · obtain ⟨p, c, q, xs, rfl, D, hq, hne, hl, k⟩ := h
    refine ⟨_, (pss_one (ps_ret (pe_ix ix_list (pv 1) (pe_call GP hr rfl DP.mg DP.F.kp DP.b .nil pass0 (pa_cons (pv 0) (pa_cons (pe_callB call_len_seq (by rfl) T.len bt_len (pa_cons (pv 1) pa_nil)) pa_nil))) (fun _ _ => rfl)))), ?_⟩
    have hpos : 0 < xs.length := List.length_pos_iff.mpr hne
    refine ⟨_, rfl, _, rfl, _, rfl, q, xs, rfl, (.inl hq), p, c, _, rfl, D, by omega, by omega, fun r H' r0 r1 D' bt => ?_⟩
    obtain ⟨j, rfl⟩ := Int.eq_ofNat_of_zero_le r0
    have hx : j < xs.length := by omega
    exact ⟨q, xs, _, xs[j], rfl, rfl, D.seq bt hq, atI_nat (List.getElem?_eq_getElem hx), k _ _ (List.getElem_mem hx) D' bt⟩

end
end Cm

set_option Elab.async false
set_option linter.all false
set_option maxRecDepth 100000
set_option maxHeartbeats 4000000
namespace Cm
open PySem L2 PySem.W
def topA (i : Nat) : Stmt := PySem.Challenge.pw_lanescribe_k26_clocks_refused.main.body.getD i (.Pass ⟨0, 0, 0, 0⟩)
/-! ### _law_ask: what is told of an exception by its class -/
/-- the word that _law_ask makes of an exception of the class Ce with the attributes fs -/
def Caught (K : Frag) (cB cS cM Ce : Addr) (fs : List (Str × V)) (wd : Str) : Prop :=
  (mroIn K Ce (.ref cB) = some true ∧ XGet K Ce "at" ∧ ∃ n : Int, fs.lookup ("at" : Str) = some (.int n) ∧ n.natAbs.log2 < 1920 ∧ ("badvalue " : Str).length + (toString n : Str).length ≤ sizeLine ∧ wd = ("badvalue " : Str) ++ (toString n : Str)) ∨
  (mroIn K Ce (.ref cB) = some false ∧ mroIn K Ce (.ref cS) = some true ∧ XGet K Ce "word" ∧ fs.lookup ("word" : Str) = some (.str wd)) ∨
  (mroIn K Ce (.ref cB) = some false ∧ mroIn K Ce (.ref cS) = some false ∧ mroIn K Ce (.ref cM) = some true ∧ XGet K Ce "word" ∧ fs.lookup ("word" : Str) = some (.str wd))
section
variable {P : Program} {w : World} {K : PySem.W.Frag} {mg : Str → Option Value} {base : Heap}
def spAsk (P : Program) (w : World) (K : PySem.W.Frag) (mg : Str → Option Value) (base : Heap) (k : Nat) (cB cS cM : Addr) : Shared → List Env → Sp := fun s outer vs H Q _ => ∃ g Qv Ev, vs = [.ref g] ∧ Thunk P w K mg base s.heap H (frs outer) k g H Qv Ev ∧
  (∀ v H', Qv v H' → ∀ l, H' l = none → Q (.ref l) (upd H' l (.lst [.str "", v]))) ∧
  ∀ cls dd H', Ev cls dd H' → ∃ Ce da fs wd, cls = .ref Ce ∧ dd = some da ∧ H' da = some (exD da fs) ∧ Caught K cB cS cM Ce fs wd ∧ ∀ l, H' l = none → Q (.ref l) (upd H' l (.lst [.str wd, .non]))
structure TxtA (K : PySem.W.Frag) (mg : Str → Option Value) (cB cS cM : Addr) : Prop where
  str : mg "str" = none
  bv : mg "BadValue" = some (.ref cB)
  se : mg "ScribeError" = some (.ref cS)
  mi : mg "Missing" = some (.ref cM)
  xb : ∃ B n, XCls K cB B n
  xs : ∃ B n, XCls K cS B n
  xm : ∃ B n, XCls K cM B n
theorem scAsk : FnScope ["_law_ask_here", "_law_told", "_law_word", "e"] ["_law_ask_here"] (defScope (topA 27)) := ⟨rfl, rfl, rfl, by decide +kernel, rfl, by decide +kernel, by decide +kernel⟩
theorem ok_ask {CX : CXT} {f cB cS cM : Addr} {fd : FuncData} {k : Nat} (F : Fun K "_law_ask" "_law_ask" (topA 27) f fd) (T : TxtA K mg cB cS cM) : FnOkS P w K mg base CX (k + 1) f fd ["_law_ask_here"] (spAsk P w K mg base k cB cS cM) := by
  obtain ⟨B1, n1, x1⟩ := T.xb
  obtain ⟨B2, n2, x2⟩ := T.xs
  obtain ⟨B3, n3, x3⟩ := T.xm
  refine F.okS scAsk (fun s outer vs H Q E h => ?_) (fun cdv A outer s H vs Q E hr h => ?_)
  · obtain ⟨g, Qv, Ev, rfl, _⟩ := h
    rfl
  · obtain ⟨g, Qv, Ev, rfl, Th, hv, he⟩ := h
    refine ⟨_, (pss_cons (ps_set (i := 1) scAsk.nd rfl (Or.inl rfl) pe_non)
      (pss_cons (ps_set (i := 2) scAsk.nd rfl (Or.inl rfl) pe_str)
      (pss_cons (ps_try rfl rfl rfl (psx_thunk (k := k) (i := 1) (j := 0) scAsk.nd rfl (Or.inl rfl) rfl (Or.inl rfl) rfl hr)
        (ph_cons (i := 3) (C := cB) (B := B1) (newId := n1) scAsk.nd rfl rfl (fun ea ps => pe_glob (by rfl) T.bv rfl) (fun ea oe ps Ce dd hm hc hd hvs => pss_one (ps_set (i := 2) scAsk.nd rfl (Or.inl rfl) (pe_op op_add_str pe_str (pe_callTy call_str_int (by rfl) T.str bt_str (pa_cons (pe_xatH hm hc hd hvs (pv 3)) pa_nil)))))
        (ph_cons (i := 3) (C := cS) (B := B2) (newId := n2) scAsk.nd rfl rfl (fun ea ps => pe_glob (by rfl) T.se rfl) (fun ea oe ps Ce dd hm hc hd hvs => pss_one (ps_set (i := 2) scAsk.nd rfl (Or.inl rfl) (pe_xatH hm hc hd hvs (pv 3))))
        (ph_cons (i := 3) (C := cM) (B := B3) (newId := n3) scAsk.nd rfl rfl (fun ea ps => pe_glob (by rfl) T.mi rfl) (fun ea oe ps Ce dd hm hc hd hvs => pss_one (ps_set (i := 2) scAsk.nd rfl (Or.inl rfl) (pe_xatH hm hc hd hvs (pv 3))))
        ph_nil))))
      (pss_one (ps_ret (pe_lst (pa_cons (pv 2) (pa_cons (pv 1) pa_nil)))))))), ?_⟩
    have small : ∀ x y : V, [x, y].length ≤ sizeLine := fun x y => by rw [sizeLine_eq]; show 2 ≤ 16777216; decide
    refine ⟨g, Qv, Ev, rfl, Th, fun v H' q => ?_, fun cls dd H' q => ?_⟩
    · exact ⟨_, rfl, _, rfl, small _ _, fun p hp => hv v H' q p hp⟩
    · obtain ⟨Ce, da, fs, wd, rfl, rfl, hd, hc, hq⟩ := he _ _ _ q
      refine ⟨Ce, rfl, x1, ?_⟩
      rcases hc with ⟨m1, G, n, l, z, zz, rfl⟩ | ⟨m1, m2, G, l⟩ | ⟨m1, m2, m3, G, l⟩
      · refine ⟨true, m1, fun ea => ?_⟩
        exact ⟨_, rfl, da, fs, _, rfl, rfl, hd, G, l, n, rfl, z, _, _, rfl, rfl, zz, _, rfl, _, rfl, small _ _, fun p hp => hq p hp⟩
      · refine ⟨false, m1, x2, true, m2, fun ea => ?_⟩
        exact ⟨_, rfl, da, fs, _, rfl, rfl, hd, G, l, _, rfl, _, rfl, small _ _, fun p hp => hq p hp⟩
      · refine ⟨false, m1, x2, false, m2, x3, true, m3, fun ea => ?_⟩
        exact ⟨_, rfl, da, fs, _, rfl, rfl, hd, G, l, _, rfl, _, rfl, small _ _, fun p hp => hq p hp⟩
end
end Cm

set_option Elab.async false
set_option linter.all false
set_option maxRecDepth 100000
set_option maxHeartbeats 4000000
namespace Cm
open PySem L2 PySem.W
/-! ### a def with defaults -/
structure FunD (K : PySem.W.Frag) (x qual : Str) (st : Stmt) (dV : Value) (f : Addr) (fd : FuncData) : Prop where
  ex : ∃ (oc : Value) (od : Option Addr) (kV doc pm : Value) (an : Option Addr) (cdv ct : Value) (osl : Array (Option Value)),
    fd = PySem.W.fnOf x qual (defArgs st) (defBody st) (defScope st) dV kV doc pm an cdv ct ∧ K.lookup f = some ⟨oc, od, .func fd, osl⟩ ∧ PySem.W.codeIn K cdv qual = true
  kp : PySem.W.keepIn K (.ref f) = true
section
variable {P : Program} {w : World} {K : PySem.W.Frag} {mg : Str → Option Value} {base : Heap}
/-- how its arguments bind, its defaults a tuple of the module -/
theorem FunD.binds {x qual : Str} {st : Stmt} {f T : Addr} {fd : FuncData} {ps : List Str} {ds : List Value} {oT : Obj} {items : Array Value} {n : Nat} (F : FunD K x qual st (.ref T) f fd) (hT : K.lookup T = some oT) (hd : oT.data = .seq items n)
    (h : ∀ (kV doc pm : Value) (an : Option Addr) (cdv ct : Value) (s : Shared) (us : List Value), s.heap.get? T = some oT → (us ++ ds).length = ps.length → BindsTo s (PySem.W.fnOf x qual (defArgs st) (defBody st) (defScope st) (.ref T) kV doc pm an cdv ct) ⟨us, []⟩ (ps.zip (us ++ ds))) : Binds K fd ps ds := by
  obtain ⟨oc, od, kV, doc, pm, an, cdv, ct, osl, rfl, lk, hcd⟩ := F.ex
  exact fun s us X hl => h kV doc pm an cdv ct s us (X _ _ hT) hl
end
/-! ### the errors' makers -/
abbrev sSE : Stmt := inClass (top 1) 0
section
variable {P : Program} {w : World} {K : PySem.W.Frag} {mg : Str → Option Value} {base : Heap}
theorem FunD.ok1 {CX : CXT} {x qual : Str} {st : Stmt} {dV : Value} {f : Addr} {fd : FuncData} {N ps : List Str} {k : Nat} {sp : Sp} (F : FunD K x qual st dV f fd) (S : FnScope N ps (defScope st)) (len : ∀ vs H Q E, sp vs H Q E → vs.length = ps.length)
    (hbody : ∀ (cdv : Value) (A : Around) (outer : List Env) (s : Shared) (H : Hp) (vs : List V) (Q : VK) (E : XK), Room k (A.deeper (PyProof.Rows.envOfC qual (defScope st) s.heap.objs.size f cdv)) → sp vs H Q E →
      ∃ t, PSs (cxOf CX P w K mg base N qual (defScope st) f cdv A outer s H E) (defBody st) t ∧ t { nx := fun _ H' => Q .non H', rt := Q } (L2.start N vs) H) : FnOk P w K mg base CX (k + 1) f fd ps sp := by
  obtain ⟨oc, od, kV, doc, pm, an, cdv, ct, osl, rfl, lk, hcd⟩ := F.ex
  exact fn_of lk hcd S len fun A outer s H vs Q E hr hsp => hbody cdv A outer s H vs Q E hr hsp
/-- what the text says of a class of errors below ValueError -/
structure ECls (K : Frag) (C : Addr) : Prop where
  x : XCls K C "ValueError" "ValueError.__new__"
  w : takerIn K C "word" = some none
/-- ScribeError.__init__(self, words, word): the exception gets its dict -/
def spSE (K : Frag) : Sp := fun vs H Q _ => ∃ (e C : Addr) (a : V) (b : V), vs = [.ref e, a, b] ∧ ECls K C ∧ H e = some (excO e C none) ∧ ∀ da, H da = none → Q .non (upd (upd H e (excO e C (some da))) da (exD da [("word", b)]))
theorem scSE : FnScope ["self", "words", "word"] ["self", "words", "word"] (defScope sSE) := ⟨rfl, rfl, rfl, by decide +kernel, rfl, by decide +kernel, by decide +kernel⟩
structure TxtE (K : Frag) (mg : Str → Option Value) : Prop where
  ve : mg "ValueError" = none
  fc : findCls K (.type "ValueError") (.type "type") "__init__" = some (.val (.builtin "ValueError.__init__"))
theorem ok_se {CX : CXT} {f : Addr} {fd : FuncData} {dV : Value} (F : FunD K "__init__" "ScribeError.__init__" sSE dV f fd) (T : TxtE K mg) : FnOk P w K mg base CX 1 f fd ["self", "words", "word"] (spSE K) := by
  refine F.ok1 scSE (fun vs H Q E h => ?_) (fun cdv A outer s H vs Q E hr h => ?_)
  · obtain ⟨e, C, a, b, rfl, _⟩ := h
    rfl
  · obtain ⟨e, C, a, b, rfl, EC, he, k⟩ := h
    refine ⟨_, (pss_cons (ps_expr (pe_typeMeth (by rfl) T.ve (by rfl) (by kernel_rfl) (by decide +kernel) T.fc (call_initX PySem.F.excBase_ValueError) (pa_cons (pv 0) (pa_cons (pv 1) pa_nil))))
      (pss_one (ps_fldX (B := "ValueError") (newId := "ValueError.__new__") (pv 0) (pv 2) rfl))), ?_⟩
    exact ⟨_, rfl, _, rfl, e, C, _, _, rfl, he, EC.x, _, rfl, _, rfl, e, C, rfl, EC.x, EC.w, .inl ⟨he, k⟩⟩
/-- how a class of the text is asked for its maker -/
structure MkOf (K : Frag) (mg : Str → Option Value) (cn : Str) (C f : Addr) : Prop where
  mg : mg cn = some (.ref C)
  sg : specialIn K (.ref C) "__getattribute__" = some (some (.builtin "type.__getattribute__"))
  rd : ∃ mc, readsIn K C mc = true ∧ findCls K (.ref C) mc "__init__" = some (.val (.ref f))
  kp : keepIn K (.ref f) = true
end
end Cm

set_option Elab.async false
set_option linter.all false
set_option maxRecDepth 100000
set_option maxHeartbeats 4000000
namespace Cm
open PySem L2 PySem.W
section
variable {P : Program} {w : World} {K : PySem.W.Frag} {mg : Str → Option Value} {base : Heap}
def spW (K : Frag) (wd : Str) : Sp := fun vs H Q _ => ∃ (e C : Addr) (a : V), vs = [.ref e, a] ∧ ECls K C ∧ H e = some (excO e C none) ∧ ∀ da, H da = none → Q .non (upd (upd H e (excO e C (some da))) da (exD da [("word", .str wd)]))
abbrev sBadSize : Stmt := inClass (top 2) 0
theorem scBadSize : FnScope ["self", "words"] ["self", "words"] (defScope sBadSize) := ⟨rfl, rfl, rfl, by decide +kernel, rfl, by decide +kernel, by decide +kernel⟩
theorem ok_BadSize {CX : CXT} {f cS fS : Addr} {fd fdS : FuncData} {dV dW : Value} (F : FunD K "__init__" "BadSize.__init__" sBadSize dW f fd) (T : TxtE K mg) (FS : FunD K "__init__" "ScribeError.__init__" sSE dV fS fdS) (bS : Binds K fdS ["self", "words", "word"] []) (MS : MkOf K mg "ScribeError" cS fS) : FnOk P w K mg base CX 2 f fd ["self", "words"] (spW K "badsize") := by
  have GS : FnOk P w K mg base CX0 1 fS fdS ["self", "words", "word"] (spSE K) := ok_se FS T
  obtain ⟨mc, m1, m2⟩ := MS.rd
  refine F.ok1 scBadSize (fun vs H Q E h => ?_) (fun cdv A outer s H vs Q E hr h => ?_)
  · obtain ⟨e, C, a, rfl, _⟩ := h
    rfl
  · obtain ⟨e, C, a, rfl, EC, he, k⟩ := h
    refine ⟨_, (pss_one (ps_expr (pe_clsMeth (E := E0) (by rfl) MS.mg MS.sg m1 m2 MS.kp GS hr bS .nil pass0 (pa_cons (pv 0) (pa_cons (pv 1) (pa_cons pe_str pa_nil)))))), ?_⟩
    exact ⟨_, rfl, _, rfl, e, C, _, _, rfl, EC, he, k⟩
abbrev sBadTie : Stmt := inClass (top 3) 0
theorem scBadTie : FnScope ["self", "words"] ["self", "words"] (defScope sBadTie) := ⟨rfl, rfl, rfl, by decide +kernel, rfl, by decide +kernel, by decide +kernel⟩
theorem ok_BadTie {CX : CXT} {f cS fS : Addr} {fd fdS : FuncData} {dV dW : Value} (F : FunD K "__init__" "BadTie.__init__" sBadTie dW f fd) (T : TxtE K mg) (FS : FunD K "__init__" "ScribeError.__init__" sSE dV fS fdS) (bS : Binds K fdS ["self", "words", "word"] []) (MS : MkOf K mg "ScribeError" cS fS) : FnOk P w K mg base CX 2 f fd ["self", "words"] (spW K "badtie") := by
  have GS : FnOk P w K mg base CX0 1 fS fdS ["self", "words", "word"] (spSE K) := ok_se FS T
  obtain ⟨mc, m1, m2⟩ := MS.rd
  refine F.ok1 scBadTie (fun vs H Q E h => ?_) (fun cdv A outer s H vs Q E hr h => ?_)
  · obtain ⟨e, C, a, rfl, _⟩ := h
    rfl
  · obtain ⟨e, C, a, rfl, EC, he, k⟩ := h
    refine ⟨_, (pss_one (ps_expr (pe_clsMeth (E := E0) (by rfl) MS.mg MS.sg m1 m2 MS.kp GS hr bS .nil pass0 (pa_cons (pv 0) (pa_cons (pv 1) (pa_cons pe_str pa_nil)))))), ?_⟩
    exact ⟨_, rfl, _, rfl, e, C, _, _, rfl, EC, he, k⟩
/-! ### a name that is none: need_name raises -/
/-- the exception at hand: its dict is new and tracked, all else is as it was -/
def Thrown (H : Hp) (fs : List (Str × V)) (da : Addr) (H' : Hp) : Prop := H da = none ∧ H' = upd H da (exD da fs)
theorem thrown_of {H : Hp} {e da C : Addr} {fs : List (Str × V)} (h1 : H e = none) (h2 : upd H e (excO e C none) da = none) : Thrown H fs da (unt (upd (upd (upd H e (excO e C none)) e (excO e C (some da))) da (exD da fs)) e) := by
  have ne : da ≠ e := fun q => by subst q; rw [upd_same] at h2; cases h2
  rw [upd_ne ne] at h2
  refine ⟨h2, funext fun b => ?_⟩
  by_cases q : b = e
  · subst q
    rw [unt_same, upd_ne (Ne.symm ne), h1]
  · rw [unt_ne q]
    by_cases r : b = da
    · subst r; rw [upd_same, upd_same]
    · rw [upd_ne r, upd_ne q, upd_ne q, upd_ne r]
theorem none_back {H H1 : Hp} {e : Addr} (h : Same H H1) (n : H1 e = none) : H e = none := by
  cases z : H e with
  | none => rfl
  | some o => have := h _ _ z; rw [n] at this; cases this
/-- a maker of errors of one word, as the text has it -/
structure WCls (K : Frag) (mg : Str → Option Value) (x : Str) (C f : Addr) (fd : FuncData) : Prop where
  b : Binds K fd ["self", "words"] []
  mg : mg x = some (.ref C)
  e : ECls K C
  i : findIn K (.ref C) "__init__" = some (some (.ref f))
  n : isFn K (.ref f) = true
end
end Cm

set_option Elab.async false
set_option linter.all false
set_option maxRecDepth 100000
set_option maxHeartbeats 4000000
namespace Cm
open PySem L2 PySem.W
section
variable {P : Program} {w : World} {K : PySem.W.Frag} {mg : Str → Option Value} {base : Heap}
/-! ### _law_far -/
abbrev Far : Int := 1000000000000000000000000000000
def spFar : Sp := fun vs H Q _ => ∃ (p dc : Addr), vs = [.ref p] ∧ Dr H p dc ∧ ∀ (z : Int) (H' : Hp), -Far ≤ z → z ≤ Far → Dr H' p dc → But p H H' → Q (.int z) H'
theorem scFar : FnScope ["_law_d", "_law_number"] ["_law_d"] (defScope (top 26)) := ⟨rfl, rfl, rfl, by decide +kernel, rfl, by decide +kernel, by decide +kernel⟩
theorem ok_far {f fP : Addr} {fd fdP : FuncData} (F : Fun K "_law_far" "_law_far" (top 26) f fd) (T : Txt K mg) (DP : Def K mg "_law_pick" (top 24) ["_law_d", "_law_many"] fP fdP) : FnOk P w K mg base CX0 2 f fd ["_law_d"] spFar := by
  have GP : FnOk P w K mg base CX0 1 fP fdP ["_law_d", "_law_many"] spPick := ok_pick DP.F T
  refine F.ok scFar (fun vs H Q E h => ?_) (fun cdv A outer s H vs Q E hr h => ?_)
  · obtain ⟨p, dc, rfl, _⟩ := h
    rfl
  · obtain ⟨p, dc, rfl, D, k⟩ := h
    refine ⟨_, (pss_cons
  (ps_set (i := 1) scFar.nd rfl (Or.inl rfl) (pe_op op_add (pe_op op_pow pe_int pe_int) (pe_call GP hr rfl DP.mg DP.F.kp DP.b .nil pass0 (pa_cons (pv 0) (pa_cons (pe_op op_pow pe_int pe_int) pa_nil)))))
  (pss_one
  (ps_ret (pe_ix ix_list (pe_lst (pa_cons (pv 1) (pa_cons (pe_op op_sub pe_int (pv 1)) pa_nil))) (pe_call GP hr rfl DP.mg DP.F.kp DP.b .nil pass0 (pa_cons (pv 0) (pa_cons pe_int pa_nil))) (fun _ _ => rfl))))), ?_⟩
    have c1 : CPow 10 9 := ⟨by decide, by decide, by decide⟩
    have c2 : CPow 10 29 := ⟨by decide, by decide, by decide⟩
    have p1 : (10 : Int) ^ (9 : Int).toNat = 1000000000 := by decide
    have p2 : (10 : Int) ^ (29 : Int).toNat = 100000000000000000000000000000 := by decide +kernel
    refine ⟨_, _, rfl, rfl, c1, _, rfl, _, _, rfl, rfl, c2, p, dc, _, rfl, D, by rw [p2]; decide, by rw [p2]; decide, fun r H1 a1 b1 D1 t1 => ⟨_, _, rfl, rfl, ?_⟩⟩
    rw [p2] at b1
    rw [p1]
    have z1 : 1000000000 + r ≤ Far := by simp only [Far]; omega
    refine ⟨_, rfl, _, rfl, _, _, rfl, rfl, (show 2 ≤ sizeLine by decide), fun q1 h1 => ?_⟩
    have D2 := D1.new (o := .lst [.int (1000000000 + r), .int (0 - (1000000000 + r))]) h1
    refine ⟨_, rfl, p, dc, _, rfl, D2, by decide, by decide, fun r2 H2 a2 b2 D3 t2 => ?_⟩
    have e1 : SqL K H2 q1 [.int (1000000000 + r), .int (0 - (1000000000 + r))] := D2.seq t2 (SqL.of upd_same)
    have bt : But p H H2 := t1.trans ((But.new h1).trans t2)
    by_cases h0 : r2 = 0
    · subst h0
      exact ⟨_, _, _, _, rfl, rfl, e1, rfl, k _ _ (by simp only [Far] at *; omega) z1 D3 bt⟩
    · obtain rfl : r2 = 1 := by omega
      exact ⟨_, _, _, _, rfl, rfl, e1, rfl, k _ _ (by simp only [Far] at *; omega) (by simp only [Far] at *; omega) D3 bt⟩
end
theorem far_len {i : Int} (h1 : -(Far + 2) ≤ i) (h2 : i ≤ Far + 2) : i.natAbs.log2 < 1920 ∧ (Str.ofString (toString i)).length ≤ 1000 := by
  simp only [Far] at h1 h2
  constructor
  · have h3 : i.natAbs < 2 ^ 128 := by omega
    by_cases h0 : i.natAbs = 0
    · rw [h0]; decide
    · exact Nat.lt_trans ((Nat.log2_lt h0).mpr h3) (by decide)
  · have := int_text_length_le10 (a := i) (k := 31) (by decide) (by omega)
    have e : (Str.ofString (toString i)).length = (toString i).length := ofString_length _
    omega
end Cm

set_option Elab.async false
set_option linter.all false
set_option maxRecDepth 100000
set_option maxHeartbeats 4000000
namespace Cm
open PySem L2 PySem.W
/-! ### ties on the heap -/
abbrev Tie := Bf.Tie
def TieAt (H : Hp) (x : V) (e : Tie) : Prop := ∃ b, x = .ref b ∧ H b = some (.tup [.int e.1, .int e.2.1, .int e.2.2])
def TK (H H' : Hp) : Prop := ∀ b xs, H b = some (.tup xs) → H' b = some (.tup xs)
theorem TK.but {H H' : Hp} {p dc : Addr} (D : Dr H p dc) (b : But p H H') : TK H H' := fun q xs e => b q _ e (D.ne e (by intro kvs z; cases z))
theorem ties_tk {H H' : Hp} (k : TK H H') : ∀ {xs : List V} {es : List Tie}, Paired (TieAt H) xs es → Paired (TieAt H') xs es
  | _, _, .nil => .nil
  | _, _, .cons ⟨b, e, h⟩ t => .cons ⟨b, e, k _ _ h⟩ (ties_tk k t)
theorem Same.tk {H H' : Hp} (s : Same H H') : TK H H' := fun b xs e => s b _ e
theorem ties_get {H : Hp} : ∀ {xs : List V} {es : List Tie} {i : Nat} {x : V}, Paired (TieAt H) xs es → xs[i]? = some x → ∃ e, es[i]? = some e ∧ TieAt H x e
  | _, _, 0, _, .cons h _, e => ⟨_, rfl, by cases e; exact h⟩
  | _, _, i + 1, _, .cons _ t, e => ties_get (i := i) t (by simpa using e)
  | _, _, i, _, .nil, e => by simp at e
structure OkTie (n : Int) (e : Tie) : Prop where
  o : 0 ≤ e.1 ∧ e.1 < n
  t : 0 ≤ e.2.1 ∧ e.2.1 < n
  ne : e.1 ≠ e.2.1
  l : -999999 ≤ e.2.2 ∧ e.2.2 ≤ 999999
structure TxtC (mg : Str → Option Value) : Prop where
  lim : ∃ t, mg "LIMIT" = some (.int 999999 t)
  ml : ∃ t, mg "MOST_LANES" = some (.int 6 t)
  hm : ∃ t, mg "HIGHEST_MOST" = some (.int 1000000000000 t)
  gr : ∃ t, mg "GROUND" = some (.int (-1) t)
section
variable {P : Program} {w : World} {K : PySem.W.Frag} {mg : Str → Option Value} {base : Heap}
/-! ### need_lanes, need_ties, need_most, need_all, where nothing is refused -/
theorem scNL : FnScope ["lanes"] ["lanes"] (defScope (top 12)) := ⟨rfl, rfl, rfl, by decide +kernel, rfl, by decide +kernel, by decide +kernel⟩
theorem scNT : FnScope ["lanes", "ties", "one", "other", "least"] ["lanes", "ties"] (defScope (top 13)) := ⟨rfl, rfl, rfl, by decide +kernel, rfl, by decide +kernel, by decide +kernel⟩
theorem scNM : FnScope ["most"] ["most"] (defScope (top 14)) := ⟨rfl, rfl, rfl, by decide +kernel, rfl, by decide +kernel, by decide +kernel⟩
theorem scNA : FnScope ["lanes", "ties", "most"] ["lanes", "ties", "most"] (defScope (top 15)) := ⟨rfl, rfl, rfl, by decide +kernel, rfl, by decide +kernel, by decide +kernel⟩
/-! ### bounds -/
def loT (i : Nat) : Tie := ((i : Int), -1, 0)
def hiT (m : Int) (i : Nat) : Tie := (-1, (i : Int), 0 - m)
def bnds (n : Nat) (m : Int) : List Tie := (List.range n).map loT ++ (List.range n).map (hiT m)
def spBo : Sp := fun vs H Q _ => ∃ (n : Nat) (m : Int), vs = [.int n, .int m] ∧ n ≤ 100 ∧ ∀ (q : Addr) (xs : List V) (H' : Hp), H' q = some (.lst xs) → Paired (TieAt H') xs (bnds n m) → H q = none → Same H H' → Q (.ref q) H'
theorem scBo : FnScope ["lanes", "most", "lowest"] ["lanes", "most"] (defScope (top 16)) := ⟨rfl, rfl, rfl, by decide +kernel, rfl, by decide +kernel, by decide +kernel⟩
theorem Paired.snoc {α β : Type} {R : α → β → Prop} {x : α} {y : β} (h : R x y) : ∀ {xs : List α} {ys : List β}, Paired R xs ys → Paired R (xs ++ [x]) (ys ++ [y])
  | _, _, .nil => .cons h .nil
  | _, _, .cons a t => .cons a (Paired.snoc h t)
theorem Paired.app {α β : Type} {R : α → β → Prop} {xs2 : List α} {ys2 : List β} (h : Paired R xs2 ys2) : ∀ {xs : List α} {ys : List β}, Paired R xs ys → Paired R (xs ++ xs2) (ys ++ ys2)
  | _, _, .nil => h
  | _, _, .cons a t => .cons a (Paired.app h t)
theorem ok_bo {f : Addr} {fd : FuncData} (F : Fun K "bounds" "bounds" (top 16) f fd) (T : Txt K mg) (TC : TxtC mg) : FnOk P w K mg base CX0 1 f fd ["lanes", "most"] spBo := by
  refine F.ok scBo (fun vs H Q E h => ?_) (fun cdv A outer s H vs Q E hr h => ?_)
  · obtain ⟨n, m, rfl, _⟩ := h
    rfl
  · obtain ⟨n, m, rfl, hn, k⟩ := h
    obtain ⟨t, mgr⟩ := TC.gr
    refine ⟨_, (pss_cons (ps_setComp (g := gName 0) (i := 2) (own := ["lane"]) (js := []) (N' := ["lane"]) (CompScope.of (osc := defScope (top 16)) (N := ["lanes", "most", "lowest"]) rfl rfl ⟨rfl, by decide +kernel, by decide +kernel, by decide +kernel, rfl, by decide +kernel⟩) rfl scBo.nd rfl rfl (pi_range1 rfl T.range (pa_cons (pv 0) pa_nil)) (fun _ _ _ _ _ => (pg_name (i := 0) (show List.Nodup (["lane"] : List Str) by decide +kernel) rfl (Or.inl rfl) (Or.inr rfl))) (fun _ _ _ _ _ => pifs_nil) (fun _ _ _ _ _ => pe_tup (pa_cons (pv 0) (pa_cons (pe_glob (v := .int (-1)) rfl mgr ⟨_, rfl⟩) (pa_cons pe_int pa_nil)))))
      (pss_one (ps_ret (pe_op op_cat (pv 2) (pe_comp (g := gName 0) (own := ["lane"]) (js := [1]) (N' := ["lane", "most"]) (CompScope.of (osc := defScope (top 16)) (N := ["lanes", "most", "lowest"]) rfl rfl ⟨rfl, by decide +kernel, by decide +kernel, by decide +kernel, rfl, by decide +kernel⟩) rfl (pi_range1 rfl T.range (pa_cons (pv 0) pa_nil)) (fun _ _ _ _ _ => (pg_name (i := 0) (show List.Nodup (["lane", "most"] : List Str) by decide +kernel) rfl (Or.inl rfl) (Or.inr rfl))) (fun _ _ _ _ _ => pifs_nil) (fun _ _ _ _ _ => pe_tup (pa_cons (pe_glob (v := .int (-1)) rfl mgr ⟨_, rfl⟩) (pa_cons (pv 0) (pa_cons (pe_op op_sub pe_int (pv 1)) pa_nil))))))))), ?_⟩
    have z3 : 3 ≤ sizeLine := by decide
    refine ⟨_, rfl, _, rfl, by omega, by omega, ?_⟩
    refine comp_range (n := n) (fun i ys σ' H' => ∃ v, σ' = [v] ∧ Same H H' ∧ Paired (TieAt H') ys ((List.range i).map loT)) (Nat.le_trans hn (by decide)) ⟨none, rfl, Same.refl _, .nil⟩ ?_ ?_
    · rintro i ys σ' H' hi hys ⟨v, rfl, s1, pe⟩ N hN
      refine ⟨_, rfl, z3, fun p hp => ?_⟩
      refine hN _ _ _ (by simp [hys]) ⟨_, rfl, s1.trans (Same.new hp), ?_⟩
      rw [List.range_succ, List.map_append]
      refine Paired.snoc ⟨p, rfl, ?_⟩ (ties_tk (Same.tk (Same.new hp)) pe)
      rw [upd_same, Int.zero_add]; rfl
    · rintro ys σ' H1 hys ⟨v, rfl, s1, pe⟩
      have ly := Paired.length pe
      rw [List.length_map, List.length_range] at ly
      refine ⟨Nat.le_trans (Nat.le_of_eq ly) (Nat.le_trans hn (by decide)), fun q1 hq1 => ?_⟩
      have s2 : Same H (upd H1 q1 (.lst ys)) := s1.trans (Same.new hq1)
      refine ⟨_, rfl, _, rfl, _, rfl, by omega, by omega, ?_⟩
      refine comp_range (n := n) (fun i zs σ' H' => ∃ v, σ' = [v, some (.int m)] ∧ Same (upd H1 q1 (.lst ys)) H' ∧ Paired (TieAt H') zs ((List.range i).map (hiT m))) (Nat.le_trans hn (by decide)) ⟨none, rfl, Same.refl _, .nil⟩ ?_ ?_
      · rintro i zs σ' H' hi hzs ⟨v, rfl, s3, pz⟩ N hN
        refine ⟨_, rfl, _, rfl, _, _, rfl, rfl, z3, fun p hp => ?_⟩
        refine hN _ _ _ (by simp [hzs]) ⟨_, rfl, s3.trans (Same.new hp), ?_⟩
        rw [List.range_succ, List.map_append]
        refine Paired.snoc ⟨p, rfl, ?_⟩ (ties_tk (Same.tk (Same.new hp)) pz)
        rw [upd_same, Int.zero_add]; rfl
      · rintro zs σ' H2 hzs ⟨v, rfl, s3, pz⟩
        have lz := Paired.length pz
        rw [List.length_map, List.length_range] at lz
        refine ⟨Nat.le_trans (Nat.le_of_eq lz) (Nat.le_trans hn (by decide)), fun q2 hq2 => ?_⟩
        have s4 : Same H (upd H2 q2 (.lst zs)) := s2.trans (s3.trans (Same.new hq2))
        refine ⟨q1, q2, ys, zs, rfl, rfl, Same.new hq2 _ _ (s3 _ _ upd_same), upd_same, Nat.le_trans (by omega : ys.length + zs.length ≤ 200) (by decide), fun q3 hq3 => ?_⟩
        have s5 := s4.trans (Same.new (o := .lst (ys ++ zs)) hq3)
        refine k q3 _ _ upd_same (Paired.app (ties_tk (Same.tk ((Same.new hq2).trans (Same.new hq3))) pz) (ties_tk (Same.tk ((Same.new hq1).trans (s3.trans ((Same.new hq2).trans (Same.new hq3))))) pe)) ?_ s5
        exact s4.free hq3
end
end Cm

set_option Elab.async false
set_option linter.all false
set_option maxRecDepth 100000
set_option maxHeartbeats 4000000
namespace Cm
open PySem L2 PySem.W
/-! ### raised -/
def Hts (n : Nat) (h : Int → Int) (kv : List (Key × V)) : Prop := ∀ v : Int, -1 ≤ v → v < n → valV kv (.inl v) = some (.int (h v))
def Bys (b : Int → Option Tie) (kv : List (Key × V)) (H : Hp) : Prop := ∀ v : Int, match b v with
  | none => valV kv (.inl v) = none
  | some e => ∃ x, valV kv (.inl v) = some x ∧ TieAt H x e
theorem Bys.some' {b : Int → Option Tie} {kv : List (Key × V)} {H : Hp} (h : Bys b kv H) {v : Int} {e : Tie} (hv : b v = some e) : ∃ x, valV kv (.inl v) = some x ∧ TieAt H x e := by
  have := h v
  rw [hv] at this
  exact this
theorem Bys.tk {b : Int → Option Tie} {kv : List (Key × V)} {H H' : Hp} (h : Bys b kv H) (k : TK H H') : Bys b kv H' := fun v => by
  have := h v
  cases e : b v with
  | none => rw [e] at this; exact this
  | some t =>
    rw [e] at this
    obtain ⟨x, h1, a, h2, h3⟩ := this
    exact ⟨x, h1, a, h2, k _ _ h3⟩
def stV : Option Int → V
  | none => .non
  | some v => .int v
structure Hps (n : Nat) (H0 : Hp) (p1 p2 : Addr) (S : Bf.St) (c : Nat) (H : Hp) : Prop where
  k1 : ∃ kv, H p1 = some (.dK kv) ∧ Hts n S.h kv ∧ kv.length = n + 1
  k2 : ∃ kv, H p2 = some (.dK kv) ∧ Bys S.by' kv H ∧ kv.length ≤ c
  sm : Same H0 H
  n1 : H0 p1 = none
  n2 : H0 p2 = none
  ne : p1 ≠ p2
theorem Hps.same {n : Nat} {H0 H H' : Hp} {p1 p2 : Addr} {S : Bf.St} {c : Nat} (h : Hps n H0 p1 p2 S c H) (s : Same H H') : Hps n H0 p1 p2 S c H' := by
  obtain ⟨kv1, a1, a2, a3⟩ := h.k1
  obtain ⟨kv2, b1, b2, b3⟩ := h.k2
  exact ⟨⟨kv1, s _ _ a1, a2, a3⟩, ⟨kv2, s _ _ b1, b2.tk (Same.tk s), b3⟩, h.sm.trans s, h.n1, h.n2, h.ne⟩
theorem Hps.more {n : Nat} {H0 H : Hp} {p1 p2 : Addr} {S : Bf.St} {c c' : Nat} (h : Hps n H0 p1 p2 S c H) (hc : c ≤ c') : Hps n H0 p1 p2 S c' H := by
  obtain ⟨kv2, b1, b2, b3⟩ := h.k2
  exact ⟨h.k1, ⟨kv2, b1, b2, Nat.le_trans b3 hc⟩, h.sm, h.n1, h.n2, h.ne⟩
/-- where it ends -/
def Ended (es : List Tie) (n : Nat) (S : Bf.St) (st : Option Int) : Prop :=
  (st = none ∧ (∃ k, Bf.Good es k S) ∧ ∀ e ∈ es, Bf.Sat S.h e) ∨ (∃ v, st = some v ∧ Bf.Stuck es (n + 1) (-1) S v)
structure InTie (n : Nat) (e : Tie) : Prop where
  o : -1 ≤ e.1 ∧ e.1 < n
  t : -1 ≤ e.2.1 ∧ e.2.1 < n
  ne : e.1 ≠ e.2.1
section
variable {P : Program} {w : World} {K : PySem.W.Frag} {mg : Str → Option Value} {base : Heap}
def spRa (K : PySem.W.Frag) : Sp := fun vs H Q _ => ∃ (n : Nat) (q : Addr) (xs : List V) (es : List Tie), vs = [.int n, .ref q] ∧ n ≤ 6 ∧ SqL K H q xs ∧ Paired (TieAt H) xs es ∧ es.length ≤ 1000 ∧ (∀ e ∈ es, InTie n e) ∧
  ∀ (t p1 p2 : Addr) (S : Bf.St) (st : Option Int) (c : Nat) (H' : Hp), H' t = some (.tup [.ref p1, .ref p2, stV st]) → Hps n H p1 p2 S c H' → Ended es n S st → Q (.ref t) H'
theorem scRa : FnScope ["lanes", "ties", "heights", "raised_by", "still", "turn", "one", "other", "least"] ["lanes", "ties"] (defScope (top 17)) := ⟨rfl, rfl, rfl, by decide +kernel, rfl, by decide +kernel, by decide +kernel⟩
theorem ok_ra {f : Addr} {fd : FuncData} (F : Fun K "raised" "raised" (top 17) f fd) (T : Txt K mg) (TC : TxtC mg) : FnOk P w K mg base CX0 1 f fd ["lanes", "ties"] (spRa K) := by
  refine F.ok scRa (fun vs H Q E h => ?_) (fun cdv A outer s H vs Q E hr h => ?_)
  · obtain ⟨n, q, xs, es, rfl, _⟩ := h
    rfl
  · obtain ⟨n, q, xs, es, rfl, hn, hq, pe, hl, hin, k⟩ := h
    obtain ⟨tg, mgr⟩ := TC.gr
    have hu := hu_of hr
    refine ⟨_, (pss_cons
      (ps_setDComp (g := gName 0) (i := 2) (own := ["lane"]) (js := []) (N' := ["lane"]) (CompScope.of (osc := defScope (top 17)) (N := ["lanes", "ties", "heights", "raised_by", "still", "turn", "one", "other", "least"]) rfl rfl ⟨rfl, by decide +kernel, by decide +kernel, by decide +kernel, rfl, by decide +kernel⟩) rfl scRa.nd rfl rfl (pi_range2 rfl T.range (pa_cons (pe_glob (v := .int (-1)) rfl mgr ⟨_, rfl⟩) (pa_cons (pv 0) pa_nil))) (fun _ _ _ _ _ => (pg_name (i := 0) (show List.Nodup (["lane"] : List Str) by decide +kernel) rfl (Or.inl rfl) (Or.inr rfl))) (fun _ _ _ _ _ => pifs_nil) (fun _ _ _ _ _ => pv 0) (fun _ _ _ _ _ => pe_int))
      (pss_cons (ps_set (i := 3) scRa.nd rfl (Or.inl rfl) pe_dnewK)
      (pss_cons (ps_set (i := 4) scRa.nd rfl (Or.inl rfl) pe_non)
      (pss_cons (ps_for PassesOwn.never rfl (pi_range1 rfl T.range (pa_cons (pe_op op_add (pe_callB call_lenD (by rfl) T.len bt_len (pa_cons (pv 2) pa_nil)) pe_int) pa_nil)) (pg_name (i := 5) scRa.nd rfl (Or.inl rfl))
        (pss_cons (ps_set (i := 4) scRa.nd rfl (Or.inl rfl) pe_non)
        (pss_cons (ps_for PassesOwn.never rfl (pi_list (pv 1)) (pg_tup rfl (pgs_cons (pg_name (i := 6) scRa.nd rfl (Or.inl rfl)) (pgs_cons (pg_name (i := 7) scRa.nd rfl (Or.inl rfl)) (pgs_cons (pg_name (i := 8) scRa.nd rfl (Or.inl rfl)) pgs_nil))))
          (pss_one (ps_if (pt_cmpR op_gt (pe_op op_add (pe_dget hu (pv 2) (pv 7) (fun _ _ => rfl)) (pv 8)) (pe_dget hu (pv 2) (pv 6) (fun _ _ => rfl)) (nomark _))
            (pss_cons (ps_dput hu (pv 2) (pv 6) (pe_op op_add (pe_dget hu (pv 2) (pv 7) (fun _ _ => rfl)) (pv 8)) rfl)
            (pss_cons (ps_dput hu (pv 3) (pv 6) (pe_tup (pa_cons (pv 6) (pa_cons (pv 7) (pa_cons (pv 8) pa_nil)))) rfl)
            (pss_one (ps_set (i := 4) scRa.nd rfl (Or.inl rfl) (pv 6))))) pss_nil)))
        (pss_one (ps_if (pt_cmpR op_isN (pv 4) pe_non (nomark _)) (pss_one ps_break) pss_nil)))))
      (pss_one (ps_ret (pe_tup (pa_cons (pv 2) (pa_cons (pv 3) (pa_cons (pv 4) pa_nil)))))))))), ?_⟩
    have z3 : 3 ≤ sizeLine := by decide
    have pl := Paired.length pe
    -- the heights
    refine ⟨_, rfl, _, _, rfl, ⟨by decide, by decide, by omega, by omega⟩, fun p1 hp1 => ?_⟩
    refine dcomp_range (n := ((n : Int) - -1).toNat) (fun i σ' H' => ∃ v kv, σ' = [v] ∧ H' = upd H p1 (.dK kv) ∧ kv.length = i ∧ ∀ j : Int, valV kv (.inl j) = if -1 ≤ j ∧ j < -1 + i then some (.int 0) else none) ⟨none, [], rfl, rfl, rfl, fun j => by rw [if_neg (by omega)]; rfl⟩ ?_ ?_
    · rintro i σ' H' hi ⟨v, kv, rfl, rfl, hk1, hk2⟩ N hN
      refine ⟨_, rfl, kv, Sum.inl (-1 + (i : Int)), upd_same, rfl, Nat.lt_of_le_of_lt (by omega : kv.length ≤ 10) (by decide), hN _ _ ⟨_, _, rfl, upd_upd, ?_, fun j => ?_⟩⟩
      · rw [putK_new _ (by rw [hk2, if_neg (by omega)]), List.length_append, hk1]; rfl
      · rw [valV_put, hk2]
        by_cases q : j = -1 + (i : Int)
        · rw [if_pos (by rw [q]), if_pos (by omega)]
        · rw [if_neg (by intro z; exact q (Sum.inl.inj z))]
          by_cases q2 : -1 ≤ j ∧ j < -1 + (i : Int)
          · rw [if_pos q2, if_pos (by omega)]
          · rw [if_neg q2, if_neg (by omega)]
    · rintro σ' H' ⟨v, kv1, rfl, rfl, hk1, hk2⟩
      have hk1' : kv1.length = n + 1 := by omega
      -- raised_by
      intro p2 hp2
      have ne : p1 ≠ p2 := fun z => by rw [← z, upd_same] at hp2; cases hp2
      have hp2' : H p2 = none := by rw [upd_ne (Ne.symm ne)] at hp2; exact hp2
      have h0 : Hps n H p1 p2 Bf.St.zero 0 (upd (upd H p1 (.dK kv1)) p2 (.dK [])) := by
        refine ⟨⟨kv1, by rw [upd_ne ne, upd_same], fun v h1 h2 => ?_, hk1'⟩, ⟨[], upd_same, fun v => rfl, Nat.le_refl _⟩, (Same.new hp1).trans (Same.new hp2), hp1, hp2', ne⟩
        rw [hk2, if_pos (by omega)]; rfl
      have fin : ∀ (S : Bf.St) (st : Option Int) (c : Nat) (σ' : St) (H' : Hp), (∃ v5 v6 v7 v8, σ' = [some (.int n), some (.ref q), some (.ref p1), some (.ref p2), some (stV st), v5, v6, v7, v8]) → Hps n H p1 p2 S c H' → Ended es n S st →
          tRet (tTup (tCons (tVar 2) (tCons (tVar 3) (tCons (tVar 4) tNil)))) { nx := fun _ H' => Q .non H', rt := Q } σ' H' := by
        rintro S st c σ' H' ⟨v5, v6, v7, v8, rfl⟩ hp en
        exact ⟨_, rfl, _, rfl, _, rfl, z3, fun t ht => k t p1 p2 S st c _ upd_same (hp.same (Same.new ht)) en⟩
      have hq' : ∀ {S : Bf.St} {c : Nat} {H' : Hp}, Hps n H p1 p2 S c H' → SqL K H' q xs := fun hp => hp.sm.seq hq
      refine ⟨_, rfl, p1, kv1, rfl, by rw [upd_ne ne, upd_same], _, _, rfl, rfl, _, rfl, by omega, by omega, ?_⟩
      refine for_range (n := ((kv1.length : Int) + 1).toNat) (fun i σ' H' => ∃ S st, (∃ v5 v6 v7 v8, σ' = [some (.int n), some (.ref q), some (.ref p1), some (.ref p2), some (stV st), v5, v6, v7, v8]) ∧ Hps n H p1 p2 S (i * 1000) H' ∧ (i = 0 → Bf.Round es 1 [] es S none) ∧ (0 < i → ∃ v, st = some v ∧ Bf.Round es i es [] S (some v))) ?_ ?_ ?_
      · exact ⟨Bf.St.zero, none, ⟨none, none, none, none, rfl⟩, h0, fun _ => Bf.Round.first es, fun z => absurd z (Nat.lt_irrefl _)⟩
      · rintro i σ' H1 hi ⟨S, st, ⟨v5, v6, v7, v8, rfl⟩, hp, r0, r1⟩
        have R : Bf.Round es (i + 1) [] es S none := by
          by_cases z : i = 0
          · subst z; exact r0 rfl
          · obtain ⟨v, _, R⟩ := r1 (by omega)
            exact R.next
        clear r0 r1
        refine ⟨_, rfl, q, rfl, ⟨_, hq' hp⟩, ?_⟩
        refine for_list (K := K) (a := q) (xs := xs) (fun j σ' H' => ∃ S st, (∃ v6 v7 v8, σ' = [some (.int n), some (.ref q), some (.ref p1), some (.ref p2), some (stV st), some (.int (0 + i)), v6, v7, v8]) ∧ Hps n H p1 p2 S (i * 1000 + j) H' ∧ Bf.Round es (i + 1) (es.take j) (es.drop j) S st) ?_ (fun j σ' H' _ ⟨S, st, _, hp, _⟩ => hq' hp) ?_ ?_
        · exact ⟨S, none, ⟨_, _, _, rfl⟩, hp, by rw [List.take_zero, List.drop_zero]; exact R⟩
        · rintro j x σ' H2 hj ⟨S, st, ⟨v6, v7, v8, rfl⟩, hp, R⟩
          obtain ⟨e, he, b, rfl, hb⟩ := ties_get (ties_tk (Same.tk hp.sm) pe) hj
          have hm := List.mem_of_getElem? he
          have it := hin e hm
          have hjl : j < es.length := (List.getElem?_eq_some_iff.mp he).1
          have ed : es.drop j = e :: es.drop (j + 1) := by
            rw [List.drop_eq_getElem_cons hjl]
            rw [List.getElem?_eq_getElem hjl] at he
            rw [Option.some.inj he]
          have etk : es.take (j + 1) = es.take j ++ [e] := by
            rw [List.take_succ, he]; rfl
          rw [ed] at R
          obtain ⟨kv, a1, a2, a3⟩ := hp.k1
          obtain ⟨kw, b1, b2, b3⟩ := hp.k2
          have kwl : kw.length < sizeLine := Nat.lt_of_le_of_lt (show kw.length ≤ 100000 by omega) (by decide)
          refine ⟨b, _, rfl, SqT.of hb, rfl, _, _, rfl, _, _, rfl, _, _, rfl, rfl, ?_⟩
          refine ⟨_, rfl, _, rfl, p1, _, rfl, dget_int a1 (a2 _ it.t.1 it.t.2), _, rfl, _, _, rfl, rfl, _, rfl, _, rfl, p1, _, rfl, dget_int a1 (a2 _ it.o.1 it.o.2), _, _, rfl, rfl, _, rfl, ?_⟩
          refine ite2 (fun hgt => ?_) (fun hgt => ?_)
          · have hlt : S.h e.1 < S.h e.2.1 + e.2.2 := by simpa using hgt
            refine ⟨_, rfl, _, rfl, p1, _, rfl, dget_int a1 (a2 _ it.t.1 it.t.2), _, rfl, _, _, rfl, rfl, _, rfl, _, rfl, p1, _, rfl, DPut.k (k := Sum.inl e.1) a1 (Nat.lt_of_le_of_lt (by omega : kv.length ≤ 10) (by decide)), ?_⟩
            refine ⟨_, rfl, _, rfl, _, rfl, z3, fun tt htt => ?_⟩
            have nt1 : tt ≠ p1 := fun z => by rw [z, upd_same] at htt; cases htt
            rw [upd_ne nt1] at htt
            have nt2 : tt ≠ p2 := fun z => by rw [z, b1] at htt; cases htt
            refine ⟨_, rfl, _, rfl, p2, _, rfl, DPut.k (k := Sum.inl e.1) (kvs := kw) (by rw [upd_ne (Ne.symm nt2), upd_ne (Ne.symm hp.ne)]; exact b1) kwl, ?_⟩
            refine ⟨_, rfl, ?_⟩
            refine ⟨S.raise (i + 1) e, some e.1, ⟨_, _, _, rfl⟩, ?_, by rw [etk]; exact R.raise hm it.ne hlt⟩
            have kb : ∀ b' u, H2 b' = some u → b' ≠ p1 → b' ≠ p2 → (upd (upd (upd H2 p1 (.dK (putK kv (.inl e.1) (.int (S.h e.2.1 + e.2.2))))) tt (.tup [.int e.1, .int e.2.1, .int e.2.2])) p2 (.dK (putK kw (.inl e.1) (.ref tt)))) b' = some u := fun b' u e' h1 h2 => by
              rw [upd_ne h2, upd_ne (ne_of_none e' htt), upd_ne h1]; exact e'
            refine ⟨⟨putK kv (.inl e.1) (.int (S.h e.2.1 + e.2.2)), by rw [upd_ne hp.ne, upd_ne (Ne.symm nt1), upd_same], fun v h1 h2 => ?_, by rw [putK_old (a2 _ it.o.1 it.o.2), a3]⟩, ⟨putK kw (.inl e.1) (.ref tt), upd_same, fun v => ?_, by have := length_putK kw (Sum.inl e.1) (V.ref tt); omega⟩, fun b' u e' => kb b' u (hp.sm _ _ e') (ne_of_none e' hp.n1) (ne_of_none e' hp.n2), hp.n1, hp.n2, hp.ne⟩
            · rw [valV_put]
              show _ = some (V.int (Bf.put S.h e.1 (S.h e.2.1 + e.2.2) v))
              by_cases q : v = e.1
              · rw [if_pos (by rw [q]), q, Bf.put_same]
              · rw [if_neg (by intro z; exact q (Sum.inl.inj z)), Bf.put_ne q]; exact a2 v h1 h2
            · show match Bf.put S.by' e.1 (some e) v with | none => _ | some e => _
              rw [valV_put]
              by_cases q : v = e.1
              · rw [q, Bf.put_same]
                refine ⟨.ref tt, by rw [if_pos rfl], tt, rfl, ?_⟩
                rw [upd_ne nt2, upd_same]
              · rw [Bf.put_ne q]
                have hv := b2 v
                cases eb : S.by' v with
                | none =>
                  rw [eb] at hv
                  show (if _ then _ else _) = none
                  rw [if_neg (by intro z; exact q (Sum.inl.inj z))]; exact hv
                | some t =>
                  rw [eb] at hv
                  obtain ⟨x, hx, b', hb1, hb2⟩ := hv
                  refine ⟨x, by rw [if_neg (by intro z; exact q (Sum.inl.inj z))]; exact hx, b', hb1, kb _ _ hb2 (ne_of hb2 a1 (by intro z; cases z)) (ne_of hb2 b1 (by intro z; cases z))⟩
          · have hge : ¬ S.h e.1 < S.h e.2.1 + e.2.2 := by simpa using hgt
            exact ⟨S, st, ⟨_, _, _, rfl⟩, hp.more (by omega), by rw [etk]; exact R.keep hge⟩
        · rintro σ' H2 ⟨S, st, ⟨v6, v7, v8, rfl⟩, hp, R⟩
          rw [pl, List.take_length, List.drop_length] at R
          cases st with
          | none =>
            refine ⟨_, rfl, rfl, _, rfl, ifT rfl ?_⟩
            exact fin S none _ _ _ ⟨_, _, _, _, rfl⟩ hp (.inl ⟨rfl, ⟨_, R.g⟩, R.n rfl⟩)
          | some v =>
            refine ⟨_, rfl, rfl, _, rfl, ifF rfl ?_⟩
            exact ⟨S, some v, ⟨_, _, _, _, rfl⟩, hp.more (by omega), fun z => absurd z (Nat.succ_ne_zero _), fun _ => ⟨v, rfl, R⟩⟩
      · rintro σ' H1 ⟨S, st, ⟨v5, v6, v7, v8, rfl⟩, hp, r0, r1⟩
        obtain ⟨v, rfl, R⟩ := r1 (by omega)
        have en : ((kv1.length : Int) + 1).toNat = n + 1 + 1 := by omega
        rw [en] at R
        obtain ⟨hv1, e, hv2, hv3⟩ := R.y v rfl
        refine fin S (some v) _ _ _ ⟨_, _, _, _, rfl⟩ hp (.inr ⟨v, rfl, R.g, fun e he => ?_, ?_, hv1⟩)
        · have it := hin e he
          exact ⟨⟨it.o.1, by have := it.o.2; omega⟩, ⟨it.t.1, by have := it.t.2; omega⟩, it.ne⟩
        · have it := hin e hv2
          rw [← hv3]
          exact ⟨it.o.1, by have := it.o.2; omega⟩
end
end Cm

set_option Elab.async false
set_option linter.all false
set_option maxRecDepth 100000
set_option maxHeartbeats 4000000
namespace Cm
open PySem L2 PySem.W
/-! ### amounts -/
def allT (es : List Tie) (n : Nat) (m : Int) : List Tie := es ++ bnds n m
theorem bnds_in {n : Nat} {m : Int} {e : Tie} (h : e ∈ bnds n m) : InTie n e := by
  unfold bnds at h
  rcases List.mem_append.mp h with h | h
  · obtain ⟨i, hi, rfl⟩ := List.mem_map.mp h
    have := List.mem_range.mp hi
    exact ⟨⟨by show (-1 : Int) ≤ (i : Int); omega, by show (i : Int) < n; omega⟩, ⟨by show (-1 : Int) ≤ -1; omega, by show (-1 : Int) < n; omega⟩, by show (i : Int) ≠ -1; omega⟩
  · obtain ⟨i, hi, rfl⟩ := List.mem_map.mp h
    have := List.mem_range.mp hi
    exact ⟨⟨by show (-1 : Int) ≤ -1; omega, by show (-1 : Int) < n; omega⟩, ⟨by show (-1 : Int) ≤ (i : Int); omega, by show (i : Int) < n; omega⟩, by show (-1 : Int) ≠ (i : Int); omega⟩
theorem OkTie.inT {n : Nat} {e : Tie} (h : OkTie n e) : InTie n e := ⟨⟨by have := h.o.1; omega, h.o.2⟩, ⟨by have := h.t.1; omega, h.t.2⟩, h.ne⟩
def amV (n : Nat) (h : Int → Int) : List V := (List.range n).map fun i : Nat => V.int (h i)
theorem bnds_len (n : Nat) (m : Int) : (bnds n m).length = n + n := by unfold bnds; simp
section
variable {P : Program} {w : World} {K : PySem.W.Frag} {mg : Str → Option Value} {base : Heap}
theorem scAm : FnScope ["lanes", "ties", "most", "heights", "raised_by", "still"] ["lanes", "ties", "most"] (defScope (top 18)) := ⟨rfl, rfl, rfl, by decide +kernel, rfl, by decide +kernel, by decide +kernel⟩
/-! ### ring_behind -/
def spRb : Sp := fun vs H Q _ => ∃ (v : Int) (p2 : Addr) (n : Nat) (es : List Tie) (S : Bf.St) (kv : List (Key × V)), vs = [.int v, .ref p2, .int n] ∧ n ≤ 100 ∧ H p2 = some (.dK kv) ∧ Bys S.by' kv H ∧ Bf.Stuck es n (-1) S v ∧
  ∀ a ys rs H', H' a = some (.lst ys) → Paired (TieAt H') ys rs → Bf.Ring rs → (∀ e ∈ rs, e ∈ es) → rs.length ≤ n → H a = none → Same H H' → Q (.ref a) H'
theorem scRb : FnScope ["at", "raised_by", "many", "turn", "found"] ["at", "raised_by", "many"] (defScope (top 20)) := ⟨rfl, rfl, rfl, by decide +kernel, rfl, by decide +kernel, by decide +kernel⟩
theorem ringOf_succ {S : Bf.St} {v : Int} {n m : Nat} : Bf.ringOf S v n (m + 1) = Bf.ringOf S v n m ++ [Bf.tieAt S v (n + m)] := by
  unfold Bf.ringOf
  rw [List.range_succ, List.map_append]; rfl
theorem ok_rb {f : Addr} {fd : FuncData} (F : Fun K "ring_behind" "ring_behind" (top 20) f fd) (T : Txt K mg) : FnOk P w K mg base CX0 1 f fd ["at", "raised_by", "many"] spRb := by
  refine F.ok scRb (fun vs H Q E h => ?_) (fun cdv A outer s H vs Q E hr h => ?_)
  · obtain ⟨v, p2, n, es, S, kv, rfl, _⟩ := h
    rfl
  · obtain ⟨v, p2, n, es, S, kv, rfl, hn, hp2, hby, St, k⟩ := h
    have hu := hu_of hr
    refine ⟨_, (pss_cons (ps_for PassesOwn.never rfl (pi_range1 rfl T.range (pa_cons (pv 2) pa_nil)) (pg_name (i := 3) scRb.nd rfl (Or.inl rfl)) (pss_one (ps_set (i := 0) scRb.nd rfl (Or.inl rfl) (pe_ix ix_tup (pe_dget hu (pv 1) (pv 0) (fun _ _ => rfl)) pe_int (fun _ _ => rfl)))))
      (pss_cons (ps_set (i := 4) scRb.nd rfl (Or.inl rfl) (pe_lst (pa_cons (pe_dget hu (pv 1) (pv 0) (fun _ _ => rfl)) pa_nil)))
      (pss_cons (ps_while PassesOwn.never (pt_cmpR op_ne (pe_ix ix_tup (pe_ix ix_list (pv 4) (pe_un un_neg pe_int) (fun _ _ => rfl)) pe_int (fun _ _ => rfl)) (pv 0) (nomark _)) (pss_one (ps_expr (pe_bm PySem.F.plainAttrs_list PySem.F.slot_list_append PySem.F.type_list_append mt_append (pv 4) (pa_cons (pe_dget hu (pv 1) (pe_ix ix_tup (pe_ix ix_list (pv 4) (pe_un un_neg pe_int) (fun _ _ => rfl)) pe_int (fun _ _ => rfl)) (fun _ _ => rfl)) pa_nil)))))
      (pss_one (ps_ret (pv 4)))))), ?_⟩
    have tie : ∀ i, ∃ b, valV kv (.inl (Bf.it S v i)) = some (.ref b) ∧ H b = some (.tup [.int (Bf.tieAt S v i).1, .int (Bf.tieAt S v i).2.1, .int (Bf.tieAt S v i).2.2]) := fun i => by
      obtain ⟨x, h1, b, rfl, h2⟩ := hby.some' (St.tie i)
      exact ⟨b, h1, h2⟩
    refine ⟨_, rfl, _, rfl, by omega, by omega, ?_⟩
    refine for_range (n := (n : Int).toNat) (fun i σ' H' => ∃ u, σ' = [some (.int (Bf.it S v i)), some (.ref p2), some (.int n), u, none] ∧ H = H') ⟨none, rfl, rfl⟩ ?_ ?_
    · rintro i σ' H' hi ⟨u, rfl, rfl⟩
      obtain ⟨b, h1, h2⟩ := tie i
      refine ⟨_, rfl, _, rfl, p2, _, rfl, dget_int hp2 h1, b, _, _, _, rfl, rfl, SqT.of h2, atI_nat (j := 1) rfl, ?_⟩
      refine ⟨some (.int (0 + i)), ?_, rfl⟩
      show [some (V.int (Bf.tieAt S v i).2.1), some (V.ref p2), some (V.int n), some (V.int (0 + i)), none] = _
      rw [St.other]
    · rintro σ' H' ⟨u, rfl, rfl⟩
      rw [Int.toNat_natCast]
      obtain ⟨b0, h1, h2⟩ := tie n
      refine ⟨_, rfl, _, rfl, p2, _, rfl, dget_int hp2 h1, (show 1 ≤ sizeLine by decide), fun a ha => ?_⟩
      obtain ⟨d, d1, d2⟩ := St.loop
      refine while_by (fun σ' H' => ∃ m ys u, σ' = [some (.int (Bf.it S v n)), some (.ref p2), some (.int n), u, some (.ref a)] ∧ H' = upd H a (.lst ys) ∧ Paired (TieAt H) ys (Bf.ringOf S v n (m + 1)) ∧ ∀ i, 1 ≤ i → i ≤ m → Bf.it S v (n + i) ≠ Bf.it S v n)
        (fun σ' H' => match H' a with | some (.lst ys) => n + 1 - ys.length | _ => 0) ?_ ?_ ?_
      · refine ⟨0, [.ref b0], u, rfl, rfl, ?_, fun i h1 h2 => by omega⟩
        rw [ringOf_succ]
        exact .cons ⟨b0, rfl, h2⟩ .nil
      · rintro σ' H' ⟨m, ys, u, rfl, rfl, py, hm⟩
        have ly := Paired.length py
        rw [Bf.ringOf_len] at ly
        have mn : m + 1 ≤ n := by
          have nd : ((List.range (m + 1)).map fun i => Bf.it S v (n + i)).Nodup := by
            refine Classical.byContradiction fun z => ?_
            obtain ⟨i, j, a1, a2, a3⟩ := Bf.exists_dup _ z
            obtain ⟨i0, d, b1, b2, b3⟩ := St.per
            have e1 : ∀ t, Bf.it S v (n + i + t) = Bf.it S v (n + j + t) := fun t => by rw [Bf.it_add, Bf.it_add S v (n + j), a3]
            -- from n on the way is a ring: the first return to the start is at the same distance from both
            have per : ∀ q t, Bf.it S v (n + t + q * d) = Bf.it S v (n + t) := by
              intro q
              induction q with
              | zero => intro t; rw [Nat.zero_mul, Nat.add_zero]
              | succ q ih =>
                intro t
                rw [Nat.succ_mul, ← Nat.add_assoc, b3 _ (by omega), ih]
            have h5 := e1 (j * d - j)
            have e2 : n + j + (j * d - j) = n + 0 + j * d := by
              have : j ≤ j * d := Nat.le_mul_of_pos_right j (by omega)
              omega
            rw [e2, per] at h5
            have e3 : n + i + (j * d - j) = n + (i + (j * d - j)) := by omega
            rw [e3] at h5
            -- i + (j d - j) = (i + (d - 1) j): bring it below
            have key : ∀ t, 1 ≤ t → Bf.it S v (n + t) = Bf.it S v n → m < t := fun t t1 t2 => by
              refine Classical.byContradiction fun z => hm t t1 (by omega) t2
            have e4 : Bf.it S v (n + (j - i)) = Bf.it S v n := by
              have h6 := e1 (i * d - i)
              have e5 : n + i + (i * d - i) = n + 0 + i * d := by
                have : i ≤ i * d := Nat.le_mul_of_pos_right i (by omega)
                omega
              have e6 : n + j + (i * d - i) = n + (j - i) + i * d := by
                have : i ≤ i * d := Nat.le_mul_of_pos_right i (by omega)
                omega
              rw [e5, e6, per, per] at h6
              exact h6.symm
            have := key (j - i) (by omega) e4
            omega
          have := Bf.nodup_len n (-1) _ nd fun x hx => by
            obtain ⟨i, _, rfl⟩ := List.mem_map.mp hx
            have := (St.nd _ (St.mem (n + i))).1
            rw [St.one] at this
            exact this
          simpa using this
        have hlast : ys[m]? ≠ none := by
          intro z
          rw [List.getElem?_eq_none_iff] at z
          omega
        obtain ⟨x, hx⟩ := Option.ne_none_iff_exists'.mp hlast
        obtain ⟨e, he, b, rfl, hb⟩ := ties_get py hx
        have ee : e = Bf.tieAt S v (n + m) := by
          have := Bf.ringOf_get (s := S) (v := v) (n := n) (m := m + 1) (i := m) (Nat.lt_succ_self _)
          rw [List.getD_eq_getElem?_getD, he] at this
          exact this
        subst ee
        have nab : a ≠ b := fun z => by rw [z, hb] at ha; cases ha
        have hb' : (upd H a (.lst ys)) b = some (.tup [.int (Bf.tieAt S v (n + m)).1, .int (Bf.tieAt S v (n + m)).2.1, .int (Bf.tieAt S v (n + m)).2.2]) := by rw [upd_ne (Ne.symm nab)]; exact hb
        have atl : atI ys (-1) = some (.ref b) := by
          have e1 : ys.length = m + 1 := ly
          unfold atI ixN
          rw [if_neg (by decide), if_pos (by omega), e1]
          show ys[(-1 + ((m + 1 : Nat) : Int)).toNat]? = _
          rw [show (-1 + ((m + 1 : Nat) : Int)).toNat = m by omega]
          exact hx
        have np : p2 ≠ a := fun z => by rw [z, ha] at hp2; cases hp2
        have hp2' : (upd H a (.lst ys)) p2 = some (.dK kv) := by rw [upd_ne np]; exact hp2
        refine ⟨_, rfl, _, rfl, a, _, _, _, rfl, rfl, SqL.of upd_same, atl, b, _, _, _, rfl, rfl, SqT.of hb', atI_nat (j := 1) rfl, _, rfl, rfl, _, rfl, ?_⟩
        refine ite2 (fun hne => ?_) (fun hne => ?_)
        · obtain ⟨b1, g1, g2⟩ := tie (n + m + 1)
          have g1' : valV kv (.inl (Bf.tieAt S v (n + m)).2.1) = some (.ref b1) := by rw [St.other]; exact g1
          refine ⟨_, rfl, .inl ⟨rfl, _, SqL.of upd_same⟩, _, rfl, _, rfl, _, rfl, a, _, _, _, rfl, rfl, SqL.of upd_same, atl, b, _, _, _, rfl, rfl, SqT.of hb', atI_nat (j := 1) rfl, p2, _, rfl, dget_int hp2' g1', a, _, _, rfl, rfl, upd_same, Nat.lt_of_le_of_lt (show ys.length ≤ 1000 by omega) (by decide), ?_⟩
          refine ⟨⟨m + 1, ys ++ [.ref b1], u, rfl, upd_upd, ?_, fun i i1 i2 => ?_⟩, ?_⟩
          · rw [ringOf_succ]
            exact Paired.snoc ⟨b1, rfl, g2⟩ py
          · by_cases q : i ≤ m
            · exact hm i i1 q
            · have : i = m + 1 := by omega
              subst this
              rw [St.other] at hne
              intro z
              rw [← Nat.add_assoc] at z
              simp [z] at hne
          · rw [upd_same, upd_same]
            show n + 1 - (ys ++ [_]).length < n + 1 - ys.length
            rw [List.length_append]
            show n + 1 - (ys.length + 1) < _
            omega
        · have hret : Bf.it S v (n + (m + 1)) = Bf.it S v n := by
            rw [St.other] at hne
            rw [← Nat.add_assoc]
            simpa using hne
          obtain ⟨R, hR⟩ := St.ring hret hm
          have sm : Same H (upd H a (.lst ys)) := Same.new ha
          refine ⟨_, rfl, k a ys _ _ upd_same (ties_tk (Same.tk sm) py) R hR (by rw [Bf.ringOf_len]; omega) ha sm⟩
      · intro σ H Q Q' hQ h
        obtain ⟨x1, e1, y1, f1, h⟩ := h
        exact ⟨x1, e1, y1, f1, by
          obtain ⟨a1, b1, c1, d1, g1, g2, g3, g4, a2, b2, c2, d2, g5, g6, g7, g8, x2, e2, e3, k1, e4, h⟩ := h
          exact ⟨a1, b1, c1, d1, g1, g2, g3, g4, a2, b2, c2, d2, g5, g6, g7, g8, x2, e2, e3, k1, e4, hQ _ _ h⟩⟩
/-! ### ring -/
theorem scRi : FnScope ["lanes", "ties", "most", "heights", "raised_by", "still"] ["lanes", "ties", "most"] (defScope (top 19)) := ⟨rfl, rfl, rfl, by decide +kernel, rfl, by decide +kernel, by decide +kernel⟩
end
end Cm

set_option Elab.async false
set_option linter.all false
set_option maxRecDepth 100000
set_option maxHeartbeats 4000000
namespace Cm
open PySem L2 PySem.W
section
variable {P : Program} {w : World} {K : PySem.W.Frag} {mg : Str → Option Value} {base : Heap}
/-! ### _law_ties -/
def spTi : Sp := fun vs H Q _ => ∃ (p dc : Addr) (n : Nat) (wd : Int), vs = [.ref p, .int n, .int wd] ∧ Dr H p dc ∧ 1 ≤ n ∧ n ≤ 6 ∧ 0 ≤ wd ∧ wd ≤ 999999 ∧
  ∀ (q : Addr) (xs : List V) (es : List Tie) (H' : Hp), H' q = some (.lst xs) → Paired (TieAt H') xs es → (∀ e ∈ es, OkTie n e) → es.length ≤ 16 → H q = none → Dr H' p dc → But p H H' → Q (.ref q) H'
theorem scTi : FnScope ["_law_d", "_law_lanes", "_law_wide", "_law_found", "_law_step", "_law_one", "_law_other"] ["_law_d", "_law_lanes", "_law_wide"] (defScope (top 28)) := ⟨rfl, rfl, rfl, by decide +kernel, rfl, by decide +kernel, by decide +kernel⟩
theorem ok_ti {f fP : Addr} {fd fdP : FuncData} (F : Fun K "_law_ties" "_law_ties" (top 28) f fd) (T : Txt K mg) (DP : Def K mg "_law_pick" (top 24) ["_law_d", "_law_many"] fP fdP) : FnOk P w K mg base CX0 2 f fd ["_law_d", "_law_lanes", "_law_wide"] spTi := by
  have GP : FnOk P w K mg base CX0 1 fP fdP ["_law_d", "_law_many"] spPick := ok_pick DP.F T
  refine F.ok scTi (fun vs H Q E h => ?_) (fun cdv A outer s H vs Q E hr h => ?_)
  · obtain ⟨p, dc, n, wd, rfl, _⟩ := h
    rfl
  · obtain ⟨p, dc, n, wd, rfl, D, n1, n2, w1, w2, k⟩ := h
    refine ⟨_, (pss_cons (ps_set (i := 3) scTi.nd rfl (Or.inl rfl) (pe_lst pa_nil))
      (pss_cons (ps_if (pt_cmpR op_gt (pv 1) pe_int (nomark _)) (pss_one (ps_for PassesOwn.never rfl (pi_range1 rfl T.range (pa_cons (pe_call GP hr rfl DP.mg DP.F.kp DP.b .nil pass0 (pa_cons (pv 0) (pa_cons (pe_ix ix_list (pe_lst (pa_cons pe_int (pa_cons pe_int (pa_cons pe_int pa_nil)))) (pe_call GP hr rfl DP.mg DP.F.kp DP.b .nil pass0 (pa_cons (pv 0) (pa_cons pe_int pa_nil))) (fun _ _ => rfl)) pa_nil))) pa_nil)) (pg_name (i := 4) scTi.nd rfl (Or.inl rfl))
        (pss_cons (ps_set (i := 5) scTi.nd rfl (Or.inl rfl) (pe_call GP hr rfl DP.mg DP.F.kp DP.b .nil pass0 (pa_cons (pv 0) (pa_cons (pv 1) pa_nil))))
        (pss_cons (ps_set (i := 6) scTi.nd rfl (Or.inl rfl) (pe_op op_mod (pe_op op_add (pe_op op_add (pv 5) pe_int) (pe_call GP hr rfl DP.mg DP.F.kp DP.b .nil pass0 (pa_cons (pv 0) (pa_cons (pe_op op_sub (pv 1) pe_int) pa_nil)))) (pv 1)))
        (pss_one (ps_expr (pe_bm PySem.F.plainAttrs_list PySem.F.slot_list_append PySem.F.type_list_append mt_append (pv 3) (pa_cons (pe_tup (pa_cons (pv 5) (pa_cons (pv 6) (pa_cons (pe_op op_sub (pe_call GP hr rfl DP.mg DP.F.kp DP.b .nil pass0 (pa_cons (pv 0) (pa_cons (pe_op op_add (pe_op op_mul pe_int (pv 2)) pe_int) pa_nil))) (pv 2)) pa_nil)))) pa_nil)))))))) pss_nil)
      (pss_one (ps_ret (pv 3))))), ?_⟩
    have z3 : 3 ≤ sizeLine := by decide
    refine ⟨(show 0 ≤ sizeLine by decide), fun q hq => ?_⟩
    have npq : q ≠ p := (D.neN hq).symm
    have nqc : q ≠ dc := by
      obtain ⟨xs, e⟩ := D.cell
      exact (ne_of_none e hq).symm
    have D0 : Dr (upd H q (.lst [])) p dc := D.put npq nqc
    dsimp only [gName]
    refine seq_by (fun σ' H' => ∃ ys es v4 v5 v6, σ' = [some (.ref p), some (.int n), some (.int wd), some (.ref q), v4, v5, v6] ∧ H' q = some (.lst ys) ∧ Paired (TieAt H') ys es ∧ (∀ e ∈ es, OkTie n e) ∧ es.length ≤ 16 ∧ Dr H' p dc ∧ But p H H') ?nx1 fun N hN => ?st1
    case st1 =>
      refine ⟨_, rfl, _, _, rfl, rfl, _, rfl, ite2 (fun hgt => ?_) (fun _ => ?_)⟩
      · have hn : 2 ≤ n := by have : (n : Int) > 1 := by simpa using hgt
                              omega
        refine ⟨_, rfl, z3, fun l hl => ?_⟩
        have D1 : Dr (upd (upd H q (.lst [])) l (.lst [.int 4, .int 9, .int 16])) p dc := D0.mono (Same.new hl)
        refine ⟨_, rfl, p, dc, _, rfl, D1, by decide, by decide, fun r H1 r0 r1 D2 b1 => ?_⟩
        obtain ⟨r, rfl⟩ := Int.eq_ofNat_of_zero_le r0
        have nlp : l ≠ p := (D0.neN hl).symm
        have hl1 : H1 l = some (.lst [.int 4, .int 9, .int 16]) := b1 _ _ upd_same nlp
        have nql : q ≠ l := fun z => by rw [← z, upd_same] at hl; cases hl
        have hq1 : H1 q = some (.lst []) := b1 _ _ (by rw [upd_ne nql, upd_same]) npq
        have B1 : But p H H1 := ((But.new hq).trans (But.new hl)).trans b1
        obtain ⟨mx, hmx, m0, m1⟩ : ∃ mx : Int, atI [V.int 4, .int 9, .int 16] (r : Int) = some (.int mx) ∧ 0 < mx ∧ mx ≤ 16 := by
          match r, r1 with
          | 0, _ => exact ⟨4, rfl, by decide, by decide⟩
          | 1, _ => exact ⟨9, rfl, by decide, by decide⟩
          | 2, _ => exact ⟨16, rfl, by decide, by decide⟩
          | r + 3, h => omega
        refine ⟨l, _, _, _, rfl, rfl, SqL.of hl1, hmx, p, dc, mx, rfl, D2, m0, by omega, fun c H2 c0 c1 D3 b2 => ?_⟩
        have B2 := B1.trans b2
        refine ⟨c, rfl, by omega, by omega, ?_⟩
        refine for_range (n := c.toNat) (fun i σ' H' => ∃ ys es v4 v5 v6, σ' = [some (.ref p), some (.int n), some (.int wd), some (.ref q), v4, v5, v6] ∧ H' q = some (.lst ys) ∧ Paired (TieAt H') ys es ∧ (∀ e ∈ es, OkTie n e) ∧ es.length = i ∧ Dr H' p dc ∧ But p H H')
          ⟨[], [], none, none, none, rfl, b2 _ _ hq1 npq, .nil, fun e he => (by simp at he), rfl, D3, B2⟩ ?_ ?_
        · rintro i σ' H3 hi ⟨ys, es, v4, v5, v6, rfl, hq3, pe, ok, ln, D4, B3⟩
          refine ⟨_, rfl, _, rfl, p, dc, _, rfl, D4, by omega, by omega, fun o H4 o0 o1 D5 b4 => ?_⟩
          refine ⟨_, rfl, _, _, rfl, rfl, _, rfl, _, rfl, _, _, rfl, rfl, p, dc, _, rfl, D5, by omega, by omega, fun d H5 d0 d1 D6 b5 => ?_⟩
          refine ⟨_, _, rfl, rfl, _, rfl, _, _, rfl, rfl, by omega, ?_⟩
          have t0 : 0 ≤ (o + 1 + d) % (n : Int) := Int.emod_nonneg _ (by omega)
          have t1 : (o + 1 + d) % (n : Int) < n := Int.emod_lt_of_pos _ (by omega)
          have tne : o ≠ (o + 1 + d) % (n : Int) := by
            intro z
            by_cases c2 : o + 1 + d < n
            · rw [Int.emod_eq_of_lt (by omega) c2] at z; omega
            · have e2 : (o + 1 + d) % (n : Int) = o + 1 + d - n := by
                rw [← Int.sub_emod_right (o + 1 + d) n, Int.emod_eq_of_lt (by omega) (by omega)]
              rw [e2] at z; omega
          dsimp only
          generalize (o + 1 + d) % (n : Int) = t at t0 t1 tne ⊢
          refine ⟨_, rfl, .inl ⟨rfl, ys, SqL.of ((b4.trans b5) _ _ hq3 npq)⟩, _, rfl, _, rfl, _, rfl, _, rfl, _, _, rfl, rfl, .inl ⟨by decide, by decide⟩, _, _, rfl, rfl, p, dc, _, rfl, D6, by omega, by omega, fun l2 H6 l0 l1 D7 b6 => ?_⟩
          have hq6 : H6 q = some (.lst ys) := ((b4.trans b5).trans b6) _ _ hq3 npq
          refine ⟨_, rfl, _, _, rfl, rfl, z3, ?_⟩
          dsimp only
          intro tt htt
          have nqt : q ≠ tt := ne_of_none hq6 htt
          have e7 : (upd H6 tt (.tup [.int o, .int t, .int (l2 - wd)])) q = some (.lst ys) := by rw [upd_ne nqt]; exact hq6
          have ly := Paired.length pe
          refine ⟨q, _, _, rfl, rfl, e7, Nat.lt_of_le_of_lt (show ys.length ≤ 1000 by omega) (by decide), ?_⟩
          have tk : TK H3 (upd (upd H6 tt (.tup [.int o, .int t, .int (l2 - wd)])) q (.lst (ys ++ [.ref tt]))) := fun b zs e => by
            have e6 := ((b4.trans b5).trans b6) _ _ e (D4.ne e (by intro kvs z; cases z))
            rw [upd_ne (ne_of e6 hq6 (by intro z; cases z)), upd_ne (ne_of_none e6 htt)]; exact e6
          refine ⟨ys ++ [.ref tt], es ++ [(o, t, l2 - wd)], _, _, _, rfl, upd_same, Paired.snoc ⟨tt, rfl, by rw [upd_ne (Ne.symm nqt), upd_same]⟩ (ties_tk tk pe), fun e he => ?_, by rw [List.length_append, ln]; rfl, (D7.mono (Same.new htt)).put npq nqc, fun b u e hb => ?_⟩
          · rcases List.mem_append.mp he with he | he
            · exact ok e he
            · cases List.mem_singleton.mp he
              exact ⟨⟨o0, o1⟩, ⟨t0, t1⟩, tne, ⟨by show -999999 ≤ l2 - wd; omega, by show l2 - wd ≤ 999999; omega⟩⟩
          · have e6 := ((B3.trans b4).trans (b5.trans b6)) _ _ e hb
            rw [upd_ne (ne_of_none e hq), upd_ne (ne_of_none e6 htt)]; exact e6
        · rintro σ' H3 ⟨ys, es, v4, v5, v6, rfl, hq3, pe, ok, ln, D4, B3⟩
          exact hN _ _ ⟨ys, es, _, _, _, rfl, hq3, pe, ok, by omega, D4, B3⟩
      · exact hN _ _ ⟨[], [], _, _, _, rfl, upd_same, .nil, fun e he => (by simp at he), by decide, D0, But.new hq⟩
    rintro σ' H' ⟨ys, es, v4, v5, v6, rfl, hq', pe, ok, ln, D', B⟩
    exact ⟨_, rfl, k q ys es H' hq' pe ok ln hq D' B⟩
end
end Cm

set_option Elab.async false
set_option linter.all false
set_option maxRecDepth 100000
set_option maxHeartbeats 4000000
namespace Cm
open PySem L2 PySem.W
/-! ### need_lanes, need_ties, need_most, need_all, raising -/
def okB (n : Int) (e : Tie) : Bool := !(!(decide (0 ≤ e.1) && decide (e.1 < n)) || (!(decide (0 ≤ e.2.1) && decide (e.2.1 < n)) || decide (V.int e.1 = V.int e.2.1))) && (decide (-999999 ≤ e.2.2) && decide (e.2.2 ≤ 999999))
theorem okB_iff {n : Int} {e : Tie} : okB n e = true ↔ OkTie n e := by
  unfold okB
  simp only [Bool.and_eq_true, Bool.not_eq_true', Bool.or_eq_false_iff, Bool.not_eq_false', decide_eq_true_eq, decide_eq_false_iff_not, V.int.injEq]
  exact ⟨fun h => ⟨h.1.1, h.1.2.1, h.1.2.2, h.2⟩, fun h => ⟨⟨h.o, h.t, h.ne⟩, h.l⟩⟩
/-- what is refused: 0 a size, 1 a tie -/
def rC (n : Int) (es : List Tie) (m : Int) : Option Nat := if 1 ≤ n ∧ n ≤ 6 then (if es.all (okB n) = true then (if 0 ≤ m ∧ m ≤ 1000000000000 then none else some 0) else some 1) else some 0
def wdC : Nat → Str
  | 0 => "badsize"
  | _ => "badtie"
def clC (cZ cT : Addr) : Nat → Addr
  | 0 => cZ
  | _ => cT
def TxI (i : Int) : Prop := -(Far + 2) ≤ i ∧ i ≤ Far + 2
structure TieB (e : Tie) : Prop where
  o : TxI e.1
  t : TxI e.2.1
  l : TxI e.2.2
theorem TxI.len {i : Int} (h : TxI i) : i.natAbs.log2 < 1920 ∧ (Str.ofString (toString i)).length ≤ 1000 := far_len h.1 h.2
section
variable {P : Program} {w : World} {K : PySem.W.Frag} {mg : Str → Option Value} {base : Heap}
/-- raise C(f"..") -/
theorem raise_w {X : Cx} {W : XK} {C : Addr} {wd : Str} {tf : TF} {m : Nat} {σ : St} {H : Hp} {D : Ends} {E' : XK} (hf : EvF tf σ H m) (hm : m ≤ sizeLine) (EC : ECls X.K C) (sm : Same X.H₀ H)
    (kx : ∀ da H', Thrown H [("word", .str wd)] da H' → W (.ref C) (some da) H') : tRaise X "ValueError" "ValueError.__new__" W (tMakeX C (spW X.K wd) [] E' (tCons (tFstr tf) tNil)) D σ H := by
  refine hf Str.empty _ (by rw [show Str.empty.length = 0 from rfl]; omega) fun y => ?_
  intro e he
  refine ⟨e, C, _, rfl, EC, upd_same, fun da hda => ⟨rfl, e, C, some da, rfl, ?_, none_back sm he, EC.x, kx da _ (thrown_of he hda)⟩⟩
  have ne : e ≠ da := fun q => by subst q; rw [upd_same] at hda; cases hda
  rw [upd_ne ne, upd_same]
def spNL1 (cZ : Addr) : Sp := fun vs H Q E => ∃ n : Int, vs = [.int n] ∧ TxI n ∧ ((1 ≤ n ∧ n ≤ 6) → Q .non H) ∧ (¬ (1 ≤ n ∧ n ≤ 6) → ∀ da H', Thrown H [("word", .str "badsize")] da H' → E (.ref cZ) (some da) H')
theorem ok_nl1 {f cZ fZ : Addr} {fd fdZ : FuncData} (F : Fun K "need_lanes" "need_lanes" (top 12) f fd) (TC : TxtC mg) (WZ : WCls K mg "BadSize" cZ fZ fdZ) (GZ : FnOk P w K mg base CX0 2 fZ fdZ ["self", "words"] (spW K "badsize")) : FnOk P w K mg base (CX1 P w) 4 f fd ["lanes"] (spNL1 cZ) := by
  refine F.ok1 scNL (fun vs H Q E h => ?_) (fun cdv A outer s H vs Q E hr h => ?_)
  · obtain ⟨n, rfl, _⟩ := h
    rfl
  · obtain ⟨n, rfl, tx, k, kx⟩ := h
    obtain ⟨t, ml⟩ := TC.ml
    refine ⟨_, (pss_one (ps_if (pt_not (pt_chain op_le op_le pe_int (pv 0) (pe_glob (v := .int 6) rfl ml ⟨_, rfl⟩))) (pss_one (ps_raise (B := "ValueError") (newId := "ValueError.__new__") (W := E)
      (pe_makeX (E := E0) PySem.F.excBase_ValueError WZ.e.x WZ.i WZ.n GZ hr (by rfl) WZ.mg WZ.b .nil pass0 (pa_cons (pe_fstr (pf_txt (pf_val (pv 0) (pf_txt pf_nil)))) pa_nil)) rfl rfl (fun pins σ H' s' e cls dd I x q => xe1 I x q))) pss_nil)), ?_⟩
    refine EvT.iff (EvT.not (EvT.test (EvE.chain EvE.con (EvE.var rfl) EvE.con EvR.i0 EvR.i0))) (ite2 (fun h => ?_) (fun h => ?_))
    · refine raise_w (EvF.txt (m := 100) (by decide +kernel) (EvF.int (EvE.var rfl) tx.len (EvF.txt (m := 100) (by decide +kernel) EvF.nil))) (by decide) WZ.e (Same.refl _) (kx ?_)
      intro z
      simp [z.1, z.2] at h
    · refine k ?_
      simpa using h
def spNM1 (cZ : Addr) : Sp := fun vs H Q E => ∃ n : Int, vs = [.int n] ∧ TxI n ∧ ((0 ≤ n ∧ n ≤ 1000000000000) → Q .non H) ∧ (¬ (0 ≤ n ∧ n ≤ 1000000000000) → ∀ da H', Thrown H [("word", .str "badsize")] da H' → E (.ref cZ) (some da) H')
theorem ok_nm1 {f cZ fZ : Addr} {fd fdZ : FuncData} (F : Fun K "need_most" "need_most" (top 14) f fd) (TC : TxtC mg) (WZ : WCls K mg "BadSize" cZ fZ fdZ) (GZ : FnOk P w K mg base CX0 2 fZ fdZ ["self", "words"] (spW K "badsize")) : FnOk P w K mg base (CX1 P w) 4 f fd ["most"] (spNM1 cZ) := by
  refine F.ok1 scNM (fun vs H Q E h => ?_) (fun cdv A outer s H vs Q E hr h => ?_)
  · obtain ⟨n, rfl, _⟩ := h
    rfl
  · obtain ⟨n, rfl, tx, k, kx⟩ := h
    obtain ⟨t, ml⟩ := TC.hm
    refine ⟨_, (pss_one (ps_if (pt_not (pt_chain op_le op_le pe_int (pv 0) (pe_glob (v := .int 1000000000000) rfl ml ⟨_, rfl⟩))) (pss_one (ps_raise (B := "ValueError") (newId := "ValueError.__new__") (W := E)
      (pe_makeX (E := E0) PySem.F.excBase_ValueError WZ.e.x WZ.i WZ.n GZ hr (by rfl) WZ.mg WZ.b .nil pass0 (pa_cons (pe_fstr (pf_txt (pf_val (pv 0) pf_nil))) pa_nil)) rfl rfl (fun pins σ H' s' e cls dd I x q => xe1 I x q))) pss_nil)), ?_⟩
    refine EvT.iff (EvT.not (EvT.test (EvE.chain EvE.con (EvE.var rfl) EvE.con EvR.i0 EvR.i0))) (ite2 (fun h => ?_) (fun h => ?_))
    · refine raise_w (EvF.txt (m := 100) (by decide +kernel) (EvF.int (EvE.var rfl) tx.len EvF.nil)) (by decide) WZ.e (Same.refl _) (kx ?_)
      intro z
      simp [z.1, z.2] at h
    · refine k ?_
      simpa using h
def spNT1 (K : PySem.W.Frag) (cT : Addr) : Sp := fun vs H Q E => ∃ (n : Int) (q : Addr) (xs : List V) (es : List Tie), vs = [.int n, .ref q] ∧ TxI n ∧ SqL K H q xs ∧ Paired (TieAt H) xs es ∧ (∀ e ∈ es, TieB e) ∧
  (es.all (okB n) = true → Q .non H) ∧ (es.all (okB n) = false → ∀ da H', Thrown H [("word", .str "badtie")] da H' → E (.ref cT) (some da) H')
theorem ok_nt1 {f cT fT : Addr} {fd fdT : FuncData} (F : Fun K "need_ties" "need_ties" (top 13) f fd) (TC : TxtC mg) (WT : WCls K mg "BadTie" cT fT fdT) (GT : FnOk P w K mg base CX0 2 fT fdT ["self", "words"] (spW K "badtie")) : FnOk P w K mg base (CX1 P w) 4 f fd ["lanes", "ties"] (spNT1 K cT) := by
  refine F.ok1 scNT (fun vs H Q E h => ?_) (fun cdv A outer s H vs Q E hr h => ?_)
  · obtain ⟨n, q, xs, es, rfl, _⟩ := h
    rfl
  · obtain ⟨n, q, xs, es, rfl, tx, hq, pe, tb, k, kx⟩ := h
    obtain ⟨t, ml⟩ := TC.lim
    refine ⟨_, (pss_one (ps_for PassesOwn.leaving rfl (pi_list (pv 1)) (pg_tup rfl (pgs_cons (pg_name (i := 2) scNT.nd rfl (Or.inl rfl)) (pgs_cons (pg_name (i := 3) scNT.nd rfl (Or.inl rfl)) (pgs_cons (pg_name (i := 4) scNT.nd rfl (Or.inl rfl)) pgs_nil))))
      (pss_cons (ps_if (PW.pt (pw_or (pt_not (pt_chain op_le op_lt pe_int (pv 2) (pv 0))) (pw_or (pt_not (pt_chain op_le op_lt pe_int (pv 3) (pv 0))) (pw_or1 (pt_cmpR op_eq (pv 2) (pv 3) (nomark _)))))) (pss_one (ps_raise (B := "ValueError") (newId := "ValueError.__new__") (W := E)
        (pe_makeX (E := E0) PySem.F.excBase_ValueError WT.e.x WT.i WT.n GT hr (by rfl) WT.mg WT.b .nil pass0 (pa_cons (pe_fstr (pf_val (pv 2) (pf_txt (pf_val (pv 3) (pf_txt (pf_val (pv 0) pf_nil)))))) pa_nil)) rfl rfl (fun pins σ H' s' e cls dd I x q => xe1 I x q))) pss_nil)
      (pss_one (ps_if (pt_not (pt_chain op_le op_le (pe_un un_neg (pe_glob (v := .int 999999) rfl ml ⟨_, rfl⟩)) (pv 4) (pe_glob (v := .int 999999) rfl ml ⟨_, rfl⟩))) (pss_one (ps_raise (B := "ValueError") (newId := "ValueError.__new__") (W := E)
        (pe_makeX (E := E0) PySem.F.excBase_ValueError WT.e.x WT.i WT.n GT hr (by rfl) WT.mg WT.b .nil pass0 (pa_cons (pe_fstr (pf_val (pv 4) (pf_txt pf_nil))) pa_nil)) rfl rfl (fun pins σ H' s' e cls dd I x q => xe1 I x q))) pss_nil))))), ?_⟩
    refine ⟨_, rfl, q, rfl, ⟨_, hq⟩, for_list (K := K) (a := q) (xs := xs) (fun i σ H' => ∃ a b c, σ = [some (.int n), some (.ref q), a, b, c] ∧ H = H' ∧ ∀ e ∈ es.take i, okB n e = true) ⟨none, none, none, rfl, rfl, by simp⟩ (fun i σ H' _ ⟨_, _, _, _, e, _⟩ => by rw [← e]; exact hq) ?_ ?_⟩
    · rintro i x σ H' hi ⟨a, b, c, rfl, rfl, hok⟩
      obtain ⟨e, he, a', rfl, h'⟩ := ties_get pe hi
      have B := tb e (List.mem_of_getElem? he)
      have bad : okB n e = false → es.all (okB n) = false := fun z => by
        rw [List.all_eq_false]
        exact ⟨e, List.mem_of_getElem? he, by simp [z]⟩
      refine ⟨a', _, rfl, SqT.of h', rfl, _, _, rfl, _, _, rfl, _, _, rfl, rfl, ?_⟩
      refine EvT.iff (EvT.or (EvT.not (EvT.test (EvE.chain EvE.con (EvE.var rfl) (EvE.var rfl) EvR.i0 EvR.i0))) (EvT.or (EvT.not (EvT.test (EvE.chain EvE.con (EvE.var rfl) (EvE.var rfl) EvR.i0 EvR.i0))) (EvT.test (EvE.op (EvE.var rfl) (EvE.var rfl) (EvR.eq rfl))))) (ite2 (fun h => ?_) (fun h => ?_))
      · refine raise_w (EvF.int (EvE.var rfl) B.o.len (EvF.txt (m := 100) (by decide +kernel) (EvF.int (EvE.var rfl) B.t.len (EvF.txt (m := 100) (by decide +kernel) (EvF.int (EvE.var rfl) tx.len EvF.nil))))) (by decide) WT.e (Same.refl _) (kx (bad ?_))
        unfold okB
        rw [h]; rfl
      · have h := Bool.eq_false_iff.mpr h
        refine EvT.iff (EvT.not (EvT.test (EvE.chain (EvE.neg EvE.con) (EvE.var rfl) EvE.con EvR.i0 EvR.i0))) (ite2 (fun h2 => ?_) (fun h2 => ?_))
        · refine raise_w (EvF.int (EvE.var rfl) B.l.len (EvF.txt (m := 100) (by decide +kernel) EvF.nil)) (by decide) WT.e (Same.refl _) (kx (bad ?_))
          unfold okB
          rw [h]
          simpa only [Bool.not_false, Bool.true_and, Bool.not_eq_true'] using h2
        · refine ⟨_, _, _, rfl, rfl, fun e' he' => ?_⟩
          rw [List.take_add_one, he] at he'
          rcases List.mem_append.mp he' with he' | he'
          · exact hok _ he'
          · obtain rfl : e' = e := by simpa using he'
            unfold okB
            rw [h]
            simpa using h2
    · rintro σ H' ⟨a, b, c, rfl, rfl, hok⟩
      refine k ?_
      rw [List.all_eq_true]
      intro e he
      refine hok e ?_
      rw [Paired.length pe, List.take_length]
      exact he
def spNA1 (K : PySem.W.Frag) (cZ cT : Addr) : Sp := fun vs H Q E => ∃ (n m : Int) (q : Addr) (xs : List V) (es : List Tie), vs = [.int n, .ref q, .int m] ∧ TxI n ∧ TxI m ∧ SqL K H q xs ∧ Paired (TieAt H) xs es ∧ (∀ e ∈ es, TieB e) ∧
  (rC n es m = none → Q .non H) ∧ (∀ i, rC n es m = some i → ∀ da H', Thrown H [("word", .str (wdC i))] da H' → E (.ref (clC cZ cT i)) (some da) H')
theorem ok_na1 {f fL fT fM cZ cT : Addr} {fd fdL fdT fdM : FuncData} (F : Fun K "need_all" "need_all" (top 15) f fd) (DL : Def K mg "need_lanes" (top 12) ["lanes"] fL fdL) (DT : Def K mg "need_ties" (top 13) ["lanes", "ties"] fT fdT) (DM : Def K mg "need_most" (top 14) ["most"] fM fdM)
    (GL : FnOk P w K mg base (CX1 P w) 4 fL fdL ["lanes"] (spNL1 cZ)) (GT : FnOk P w K mg base (CX1 P w) 4 fT fdT ["lanes", "ties"] (spNT1 K cT)) (GM : FnOk P w K mg base (CX1 P w) 4 fM fdM ["most"] (spNM1 cZ)) :
    FnOk P w K mg base (CX1 P w) 5 f fd ["lanes", "ties", "most"] (spNA1 K cZ cT) := by
  refine F.ok1 scNA (fun vs H Q E h => ?_) (fun cdv A outer s H vs Q E hr h => ?_)
  · obtain ⟨n, m, q, xs, es, rfl, _⟩ := h
    rfl
  · obtain ⟨n, m, q, xs, es, rfl, tn, tm, hq, pe, tb, k, kx⟩ := h
    refine ⟨_, (pss_cons (ps_expr (pe_call (E := E) GL hr rfl DL.mg DL.F.kp DL.b .nil (pass1 fun _ _ _ h => h) (pa_cons (pv 0) pa_nil)))
      (pss_cons (ps_expr (pe_call (E := E) GT hr rfl DT.mg DT.F.kp DT.b .nil (pass1 fun _ _ _ h => h) (pa_cons (pv 0) (pa_cons (pv 1) pa_nil))))
      (pss_one (ps_expr (pe_call (E := E) GM hr rfl DM.mg DM.F.kp DM.b .nil (pass1 fun _ _ _ h => h) (pa_cons (pv 2) pa_nil)))))), ?_⟩
    refine ⟨_, rfl, n, rfl, tn, fun h1 => ⟨_, rfl, _, rfl, n, q, xs, es, rfl, tn, hq, pe, tb, fun h2 => ⟨_, rfl, m, rfl, tm, fun h3 => k ?_, fun h3 => kx 0 ?_⟩, fun h2 => kx 1 ?_⟩, fun h1 => kx 0 ?_⟩
    · unfold rC; rw [if_pos h1, if_pos h2, if_pos h3]
    · unfold rC; rw [if_pos h1, if_pos h2, if_neg h3]
    · unfold rC; rw [if_pos h1, if_neg (by rw [h2]; exact Bool.false_ne_true)]
    · unfold rC; rw [if_neg h1]
theorem rC_none {n m : Int} {es : List Tie} (h : rC n es m = none) : 1 ≤ n ∧ n ≤ 6 ∧ 0 ≤ m ∧ m ≤ 1000000000000 ∧ ∀ e ∈ es, OkTie n e := by
  unfold rC at h
  by_cases h1 : 1 ≤ n ∧ n ≤ 6
  · rw [if_pos h1] at h
    by_cases h2 : es.all (okB n) = true
    · rw [if_pos h2] at h
      by_cases h3 : 0 ≤ m ∧ m ≤ 1000000000000
      · exact ⟨h1.1, h1.2, h3.1, h3.2, fun e he => okB_iff.mp (List.all_eq_true.mp h2 e he)⟩
      · rw [if_neg h3] at h; cases h
    · rw [if_neg h2] at h; cases h
  · rw [if_neg h1] at h; cases h
end
end Cm

set_option Elab.async false
set_option linter.all false
set_option maxRecDepth 100000
set_option maxHeartbeats 4000000
namespace Cm
open PySem L2 PySem.W
section
variable {P : Program} {w : World} {K : PySem.W.Frag} {mg : Str → Option Value} {base : Heap}
/-! ### amounts, ring and meets, where they refuse -/
def spA1 (K : PySem.W.Frag) (cZ cT : Addr) : Sp := fun vs H Q E => ∃ (n m : Int) (q : Addr) (xs : List V) (es : List Tie), vs = [.int n, .ref q, .int m] ∧ TxI n ∧ TxI m ∧ H q = some (.lst xs) ∧ Paired (TieAt H) xs es ∧ es.length ≤ 900 ∧ (∀ e ∈ es, TieB e) ∧
  (rC n es m = none → ∀ v H', Same H H' → Q v H') ∧ (∀ i, rC n es m = some i → ∀ da H', Thrown H [("word", .str (wdC i))] da H' → E (.ref (clC cZ cT i)) (some da) H')
theorem ok_am1 {cZ cT f fN fB fR  : Addr} {fd fdN fdB fdR  : FuncData} (F : Fun K "amounts" "amounts" (top 18) f fd) (T : Txt K mg) (TC : TxtC mg) (DN : Def K mg "need_all" (top 15) ["lanes", "ties", "most"] fN fdN) (DB : Def K mg "bounds" (top 16) ["lanes", "most"] fB fdB) (DR : Def K mg "raised" (top 17) ["lanes", "ties"] fR fdR)
    (GN : FnOk P w K mg base (CX1 P w) 5 fN fdN ["lanes", "ties", "most"] (spNA1 K cZ cT)) : FnOk P w K mg base (CX1 P w) 6 f fd ["lanes", "ties", "most"] (spA1 K cZ cT) := by
  have GB : FnOk P w K mg base CX0 1 fB fdB ["lanes", "most"] spBo := ok_bo DB.F T TC
  have GR : FnOk P w K mg base CX0 1 fR fdR ["lanes", "ties"] (spRa K) := ok_ra DR.F T TC
  refine F.ok1 scAm (fun vs H Q E h => ?_) (fun cdv A outer s H vs Q E hr h => ?_)
  · obtain ⟨n, m, q, xs, es, rfl, _⟩ := h
    rfl
  · obtain ⟨n, m, q, xs, es, rfl, tn, tm, hq, pe, tl, tb, k, kx⟩ := h
    have hu := hu_of hr
    have hr1 : Room 1 (A.deeper (PyProof.Rows.envOfC "amounts" (defScope (top 18)) s.heap.objs.size f cdv)) := hr.mono (by decide)
    refine ⟨_, (pss_cons (ps_expr (pe_call (E := E) GN hr rfl DN.mg DN.F.kp DN.b .nil (pass1 fun _ _ _ h => h) (pa_cons (pv 0) (pa_cons (pv 1) (pa_cons (pv 2) pa_nil)))))
      (pss_cons (ps_asg (pe_call GR hr1 rfl DR.mg DR.F.kp DR.b .nil pass0 (pa_cons (pv 0) (pa_cons (pe_op op_cat (pv 1) (pe_call GB hr1 rfl DB.mg DB.F.kp DB.b .nil pass0 (pa_cons (pv 0) (pa_cons (pv 2) pa_nil)))) pa_nil))) (pg_tup rfl (pgs_cons (pg_name (i := 3) scAm.nd rfl (Or.inr rfl)) (pgs_cons (pg_name (i := 4) scAm.nd rfl (Or.inl rfl)) (pgs_cons (pg_name (i := 5) scAm.nd rfl (Or.inl rfl)) pgs_nil)))))
      (pss_one (ps_ret (pe_ifExp (pt_cmpR op_isN (pv 5) pe_non (nomark _)) (pe_comp (g := gName 0) (own := ["lane"]) (js := [3]) (N' := ["lane", "heights"]) (CompScope.of (osc := defScope (top 18)) (N := ["lanes", "ties", "most", "heights", "raised_by", "still"]) rfl rfl ⟨rfl, by decide +kernel, by decide +kernel, by decide +kernel, rfl, by decide +kernel⟩) rfl (pi_range1 rfl T.range (pa_cons (pv 0) pa_nil)) (fun _ _ _ _ _ => (pg_name (i := 0) (show List.Nodup (["lane", "heights"] : List Str) by decide +kernel) rfl (Or.inl rfl) (Or.inr rfl))) (fun _ _ _ _ _ => pifs_nil) (fun _ _ _ _ _ => pe_dget hu (pv 1) (pv 0) (fun _ _ => rfl))) pe_non))))), ?_⟩
    have pl := Paired.length pe
    refine ⟨_, rfl, _, rfl, _, rfl, n, m, q, xs, es, rfl, tn, tm, SqL.of hq, pe, tb, fun h0 => ?_, kx⟩
    obtain ⟨n1, n2, m1, m2, ok⟩ := rC_none h0
    have kk := k h0
    obtain ⟨n, rfl⟩ := Int.eq_ofNat_of_zero_le (show 0 ≤ n by omega)
    replace n2 : n ≤ 6 := by omega
    refine ⟨_, rfl, _, rfl, _, rfl, _, rfl, n, m, rfl, by omega, fun q1 ys H1 hq1 pb nq1 s1 => ?_⟩
    have lb := Paired.length pb
    rw [bnds_len] at lb
    refine ⟨q, q1, xs, ys, rfl, rfl, s1 _ _ hq, hq1, Nat.le_trans (show xs.length + ys.length ≤ 1000 by omega) (by decide), fun q2 hq2 => ?_⟩
    have s2 : Same H (upd H1 q2 (.lst (xs ++ ys))) := s1.trans (Same.new hq2)
    refine ⟨n, q2, xs ++ ys, allT es n m, rfl, n2, SqL.of upd_same, Paired.app (ties_tk (Same.tk (Same.new hq2)) pb) (ties_tk (Same.tk s2) pe), ?_, ?_, fun t p1 p2 S st c H2 ht hp en => ?_⟩
    · unfold allT; rw [List.length_append, bnds_len]; omega
    · intro e he
      rcases List.mem_append.mp he with he | he
      · exact (ok e he).inT
      · exact bnds_in he
    have s3 : Same H H2 := s2.trans hp.sm
    refine ⟨t, _, rfl, SqT.of ht, rfl, _, _, rfl, _, _, rfl, _, _, rfl, rfl, ?_⟩
    rcases en with ⟨rfl, en⟩ | ⟨v, rfl, en⟩
    · refine ⟨_, rfl, rfl, _, rfl, ifT rfl ?_⟩
      obtain ⟨kv, a1, a2, a3⟩ := hp.k1
      refine ⟨_, rfl, _, rfl, by omega, by omega, ?_⟩
      refine comp_range (n := n) (fun i zs σ' H' => ∃ v, σ' = [v, some (.ref p1)] ∧ H' = H2 ∧ zs = amV i S.h) (Nat.le_trans n2 (by decide)) ⟨none, rfl, rfl, rfl⟩ ?_ ?_
      · rintro i zs σ' H' hi hzs ⟨v, rfl, rfl, rfl⟩ N hN
        refine ⟨_, rfl, _, rfl, p1, _, rfl, dget_int a1 (a2 _ (by omega) (by omega)), ?_⟩
        refine hN _ _ _ (by simp [hzs]) ⟨_, rfl, rfl, ?_⟩
        unfold amV
        rw [List.range_succ, List.map_append, Int.zero_add]; rfl
      · rintro zs σ' H' hzs ⟨v, rfl, rfl, rfl⟩
        refine ⟨by rw [hzs]; exact Nat.le_trans n2 (by decide), fun a ha => ?_⟩
        exact kk _ _ (s3.trans (Same.new ha))
    · refine ⟨_, rfl, rfl, _, rfl, ifF rfl ?_⟩
      exact kk _ _ s3
theorem ok_ri1 {cZ cT f fN fB fR  fG : Addr} {fd fdN fdB fdR  fdG : FuncData} (F : Fun K "ring" "ring" (top 19) f fd) (T : Txt K mg) (TC : TxtC mg) (DN : Def K mg "need_all" (top 15) ["lanes", "ties", "most"] fN fdN) (DB : Def K mg "bounds" (top 16) ["lanes", "most"] fB fdB) (DR : Def K mg "raised" (top 17) ["lanes", "ties"] fR fdR)
    (GN : FnOk P w K mg base (CX1 P w) 5 fN fdN ["lanes", "ties", "most"] (spNA1 K cZ cT)) (DG : Def K mg "ring_behind" (top 20) ["at", "raised_by", "many"] fG fdG) : FnOk P w K mg base (CX1 P w) 6 f fd ["lanes", "ties", "most"] (spA1 K cZ cT) := by
  have GB : FnOk P w K mg base CX0 1 fB fdB ["lanes", "most"] spBo := ok_bo DB.F T TC
  have GR : FnOk P w K mg base CX0 1 fR fdR ["lanes", "ties"] (spRa K) := ok_ra DR.F T TC
  have GG : FnOk P w K mg base CX0 1 fG fdG ["at", "raised_by", "many"] spRb := ok_rb DG.F T
  refine F.ok1 scRi (fun vs H Q E h => ?_) (fun cdv A outer s H vs Q E hr h => ?_)
  · obtain ⟨n, m, q, xs, es, rfl, _⟩ := h
    rfl
  · obtain ⟨n, m, q, xs, es, rfl, tn, tm, hq, pe, tl, tb, k, kx⟩ := h
    have hu := hu_of hr
    have hr1 : Room 1 (A.deeper (PyProof.Rows.envOfC "ring" (defScope (top 19)) s.heap.objs.size f cdv)) := hr.mono (by decide)
    refine ⟨_, (pss_cons (ps_expr (pe_call (E := E) GN hr rfl DN.mg DN.F.kp DN.b .nil (pass1 fun _ _ _ h => h) (pa_cons (pv 0) (pa_cons (pv 1) (pa_cons (pv 2) pa_nil)))))
      (pss_cons (ps_asg (pe_call GR hr1 rfl DR.mg DR.F.kp DR.b .nil pass0 (pa_cons (pv 0) (pa_cons (pe_op op_cat (pv 1) (pe_call GB hr1 rfl DB.mg DB.F.kp DB.b .nil pass0 (pa_cons (pv 0) (pa_cons (pv 2) pa_nil)))) pa_nil))) (pg_tup rfl (pgs_cons (pg_name (i := 3) scRi.nd rfl (Or.inl rfl)) (pgs_cons (pg_name (i := 4) scRi.nd rfl (Or.inl rfl)) (pgs_cons (pg_name (i := 5) scRi.nd rfl (Or.inl rfl)) pgs_nil)))))
      (pss_one (ps_ret (pe_ifExp (pt_cmpR op_isN (pv 5) pe_non (nomark _)) pe_non (pe_call GG hr1 rfl DG.mg DG.F.kp DG.b .nil pass0 (pa_cons (pv 5) (pa_cons (pv 4) (pa_cons (pe_callB call_lenD (by rfl) T.len bt_len (pa_cons (pv 3) pa_nil)) pa_nil))))))))), ?_⟩
    have pl := Paired.length pe
    refine ⟨_, rfl, _, rfl, _, rfl, n, m, q, xs, es, rfl, tn, tm, SqL.of hq, pe, tb, fun h0 => ?_, kx⟩
    obtain ⟨n1, n2, m1, m2, ok⟩ := rC_none h0
    have kk := k h0
    obtain ⟨n, rfl⟩ := Int.eq_ofNat_of_zero_le (show 0 ≤ n by omega)
    replace n2 : n ≤ 6 := by omega
    refine ⟨_, rfl, _, rfl, _, rfl, _, rfl, n, m, rfl, by omega, fun q1 ys H1 hq1 pb nq1 s1 => ?_⟩
    have lb := Paired.length pb
    rw [bnds_len] at lb
    refine ⟨q, q1, xs, ys, rfl, rfl, s1 _ _ hq, hq1, Nat.le_trans (show xs.length + ys.length ≤ 1000 by omega) (by decide), fun q2 hq2 => ?_⟩
    have s2 : Same H (upd H1 q2 (.lst (xs ++ ys))) := s1.trans (Same.new hq2)
    refine ⟨n, q2, xs ++ ys, allT es n m, rfl, n2, SqL.of upd_same, Paired.app (ties_tk (Same.tk (Same.new hq2)) pb) (ties_tk (Same.tk s2) pe), ?_, ?_, fun t p1 p2 S st c H2 ht hp en => ?_⟩
    · unfold allT; rw [List.length_append, bnds_len]; omega
    · intro e he
      rcases List.mem_append.mp he with he | he
      · exact (ok e he).inT
      · exact bnds_in he
    have s3 : Same H H2 := s2.trans hp.sm
    refine ⟨t, _, rfl, SqT.of ht, rfl, _, _, rfl, _, _, rfl, _, _, rfl, rfl, ?_⟩
    rcases en with ⟨rfl, en⟩ | ⟨v, rfl, en⟩
    · refine ⟨_, rfl, rfl, _, rfl, ifT rfl ?_⟩
      exact kk _ _ s3
    · refine ⟨_, rfl, rfl, _, rfl, ifF rfl ?_⟩
      obtain ⟨kv, a1, a2, a3⟩ := hp.k1
      obtain ⟨kw, b1, b2, b3⟩ := hp.k2
      refine ⟨_, rfl, _, rfl, _, rfl, p1, kv, rfl, a1, v, p2, n + 1, allT es n m, S, kw, by rw [a3]; rfl, by omega, b1, b2, en, fun a ys rs H' ha py R hR lr na s4 => ?_⟩
      exact kk _ _ (s3.trans s4)
def gT3 (K : PySem.W.Frag) : TG := gTup K 3 (gCons (gName 0) (gCons (gName 1) (gCons (gName 2) gNil)))
def spM1 (K : PySem.W.Frag) (cZ cT : Addr) : Sp := fun vs H Q E => ∃ (n m : Int) (q r : Addr) (xs : List V) (es : List Tie), vs = [.int n, .ref q, .ref r, .int m] ∧ TxI n ∧ TxI m ∧ H q = some (.lst xs) ∧ Paired (TieAt H) xs es ∧ es.length ≤ 900 ∧ (∀ e ∈ es, TieB e) ∧ H r = some (.lst [.int 0]) ∧
  (rC n es m = none → ∀ v H', Same H H' → Q v H') ∧ (∀ i, rC n es m = some i → ∀ da H', Thrown H [("word", .str (wdC i))] da H' → E (.ref (clC cZ cT i)) (some da) H')
theorem scMe : FnScope ["lanes", "ties", "row", "most", "within"] ["lanes", "ties", "row", "most"] (defScope (top 21)) := ⟨rfl, rfl, rfl, by decide +kernel, rfl, by decide +kernel, by decide +kernel⟩
theorem ok_me1 {cZ cT f fN : Addr} {fd fdN : FuncData} (F : Fun K "meets" "meets" (top 21) f fd) (T : Txt K mg) (DN : Def K mg "need_all" (top 15) ["lanes", "ties", "most"] fN fdN)
    (GN : FnOk P w K mg base (CX1 P w) 5 fN fdN ["lanes", "ties", "most"] (spNA1 K cZ cT)) : FnOk P w K mg base (CX1 P w) 6 f fd ["lanes", "ties", "row", "most"] (spM1 K cZ cT) := by
  refine F.ok1 scMe (fun vs H Q E h => ?_) (fun cdv A outer s H vs Q E hr h => ?_)
  · obtain ⟨n, m, q, r, xs, es, rfl, _⟩ := h
    rfl
  · obtain ⟨n, m, q, r, xs, es, rfl, tn, tm, hq, pe, tl, tb, hrw, k, kx⟩ := h
    refine ⟨_, (pss_cons (ps_expr (pe_call (E := E) GN hr rfl DN.mg DN.F.kp DN.b .nil (pass1 fun _ _ _ h => h) (pa_cons (pv 0) (pa_cons (pv 1) (pa_cons (pv 3) pa_nil)))))
      (pss_cons (ps_if (pt_cmpR op_ne (pe_callB call_len_seq (by rfl) T.len bt_len (pa_cons (pv 2) pa_nil)) (pv 0) (nomark _)) (pss_one (ps_ret pe_bl)) pss_nil)
      (pss_cons (ps_setComp (g := gName 0) (i := 4) (own := ["amount"]) (js := [3]) (N' := ["amount", "most"]) (CompScope.of (osc := defScope (top 21)) (N := ["lanes", "ties", "row", "most", "within"]) rfl rfl ⟨rfl, by decide +kernel, by decide +kernel, by decide +kernel, rfl, by decide +kernel⟩) rfl scMe.nd rfl rfl (pi_list (pv 2)) (fun _ _ _ _ _ => (pg_name (i := 0) (show List.Nodup (["amount", "most"] : List Str) by decide +kernel) rfl (Or.inl rfl) (Or.inr rfl))) (fun _ _ _ _ _ => pifs_nil) (fun _ _ _ _ _ => pe_chain op_le op_le pe_int (pv 0) (pv 1)))
      (pss_one (ps_ret (pe_and (pe_callB (call_allB rfl) (by rfl) T.all bt_all (pa_cons (pv 4) pa_nil)) (pe_one (pe_callB (call_allB rfl) (by rfl) T.all bt_all (pa_cons (pe_comp (g := gT3 K) (own := ["one", "other", "least"]) (js := [2]) (N' := ["one", "other", "least", "row"]) (CompScope.of (osc := defScope (top 21)) (N := ["lanes", "ties", "row", "most", "within"]) rfl rfl ⟨rfl, by decide +kernel, by decide +kernel, by decide +kernel, rfl, by decide +kernel⟩) rfl (pi_list (pv 1))
        (fun _ _ _ _ _ => (pg_tup rfl (pgs_cons (pg_name (i := 0) (show List.Nodup (["one", "other", "least", "row"] : List Str) by decide +kernel) rfl (Or.inl rfl) (Or.inr rfl)) (pgs_cons (pg_name (i := 1) (show List.Nodup (["one", "other", "least", "row"] : List Str) by decide +kernel) rfl (Or.inl rfl) (Or.inr rfl)) (pgs_cons (pg_name (i := 2) (show List.Nodup (["one", "other", "least", "row"] : List Str) by decide +kernel) rfl (Or.inl rfl) (Or.inr rfl)) pgs_nil))))) (fun _ _ _ _ _ => pifs_nil)
        (fun _ _ _ _ _ => pe_cmpR op_ge (pe_op op_sub (pe_ix (r := rIx K) ix_seq (pv 3) (pv 0) (fun _ _ => rfl)) (pe_ix (r := rIx K) ix_seq (pv 3) (pv 1) (fun _ _ => rfl))) (pv 2) (nomark _))) pa_nil))))))))), ?_⟩
    refine ⟨_, rfl, _, rfl, _, rfl, n, m, q, xs, es, rfl, tn, tm, SqL.of hq, pe, tb, fun h0 => ?_, kx⟩
    obtain ⟨n1, n2, m1, m2, ok⟩ := rC_none h0
    have kk := k h0
    refine ⟨_, rfl, r, _, rfl, .inl (SqL.of hrw), _, rfl, rfl, _, rfl, ite2 (fun h => ?_) (fun h => ?_)⟩
    · exact kk _ _ (Same.refl _)
    · have e1 : n = 1 := by
        simp at h
        omega
      subst e1
      have en : es = [] := by
        cases es with
        | nil => rfl
        | cons e t =>
          have o := ok e (List.mem_cons_self ..)
          have := o.o; have := o.t; have := o.ne
          omega
      subst en
      cases pe
      refine ⟨_, rfl, r, rfl, ⟨_, SqL.of hrw⟩, ?_⟩
      refine comp_list (K := K) (a := r) (xs := [.int 0]) (fun i ys σ' H' => H' = H ∧ (∃ v, σ' = [v, some (.int m)]) ∧ ∃ bs : List Bool, ys = bs.map V.bl) (by decide) ⟨rfl, ⟨none, rfl⟩, [], rfl⟩ (fun i ys σ H' _ e => by rw [e.1]; exact SqL.of hrw) ?_ ?_
      · rintro i x ys σ' H' hi hy ⟨rfl, ⟨v, rfl⟩, bs, rfl⟩ N hN
        obtain rfl : x = .int 0 := by
          cases i with
          | zero => cases hi; rfl
          | succ i => simp at hi
        dsimp only [gName]
        refine EvE.chain EvE.con (EvE.var rfl) (EvE.var rfl) EvR.i0 EvR.i0 _ ?_
        exact hN _ _ _ (by simpa using hy) ⟨rfl, ⟨_, rfl⟩, bs ++ [_], by rw [List.map_append]; rfl⟩
      · rintro ys σ' H' hy ⟨rfl, ⟨v, rfl⟩, bs, rfl⟩
        refine ⟨by rw [hy]; decide, fun a ha => ?_⟩
        have s1 : Same H' (upd H' a (.lst (bs.map V.bl))) := Same.new ha
        refine ⟨_, rfl, a, bs, rfl, SqL.of upd_same, _, rfl, ite2 (fun h => ?_) (fun h => kk _ _ s1)⟩
        refine ⟨_, rfl, q, rfl, ⟨_, SqL.of (s1 _ _ hq)⟩, ?_⟩
        refine comp_list (K := K) (a := q) (xs := []) (fun i ys σ'' H'' => H'' = upd H' a (.lst (bs.map V.bl)) ∧ ys = []) (by decide) ⟨rfl, rfl⟩ (fun i ys σ H'' _ e => by rw [e.1]; exact SqL.of (s1 _ _ hq)) ?_ ?_
        · rintro i x ys σ' H'' hi
          simp at hi
        · rintro ys σ' H'' hy' ⟨rfl, rfl⟩
          refine ⟨by decide, fun b hb => ?_⟩
          exact ⟨b, [], rfl, SqL.of upd_same, kk _ _ (s1.trans (Same.new hb))⟩
end
end Cm

set_option Elab.async false
set_option linter.all false
set_option maxRecDepth 100000
set_option maxHeartbeats 4000000
namespace Cm
open PySem L2 PySem.W
/-! ### calls with the keyword most -/
def g21 : List Value → List Value → List Value
  | [a, b], [c] => [a, b, c]
  | _, _ => []
def gV21 : List V → List V → List V
  | [a, b], [c] => [a, b, c]
  | _, _ => []
def g31 : List Value → List Value → List Value
  | [a, b, c], [d] => [a, b, c, d]
  | _, _ => []
def gV31 : List V → List V → List V
  | [a, b, c], [d] => [a, b, c, d]
  | _, _ => []
section
variable {P : Program} {w : World} {K : PySem.W.Frag} {mg : Str → Option Value} {base : Heap}
theorem kb21 {x : Str} {st : Stmt} {f : Addr} {fd : FuncData} (F : Fun K x x st f fd) (h : ∀ (kV doc pm : Value) (an : Option Addr) (cdv ct a b c : Value), bindArgs (PySem.W.fnOf x x (defArgs st) (defBody st) (defScope st) .none kV doc pm an cdv ct) ⟨[a, b], [("most", c)]⟩ = pure (([("lanes" : Str), "ties", "most"] : List Str).zip [a, b, c])) :
    KBinds K fd ["lanes", "ties", "most"] ["most"] g21 gV21 := by
  obtain ⟨oc, od, kV, doc, pm, an, cdv, ct, osl, rfl, lk, hcd⟩ := F.ex
  refine ⟨fun s us ws X hl => ?_, fun {vs us zs ws} r rz => ?_⟩
  · match us, ws, hl with
    | [a, b], [c], _ => exact .of_eq (h kV doc pm an cdv ct a b c)
    | [], _, z => simp [g21] at z
    | [_], _, z => simp [g21] at z
    | [_, _], [], z => simp [g21] at z
    | [_, _], _ :: _ :: _, z => simp [g21] at z
    | _ :: _ :: _ :: _, _, z => simp [g21] at z
  · cases r with
    | nil => exact .nil
    | cons r1 r =>
      cases r with
      | nil => exact .nil
      | cons r2 r =>
        cases r with
        | cons r3 r => exact .nil
        | nil =>
          cases rz with
          | nil => exact .nil
          | cons z1 z =>
            cases z with
            | cons z2 z => exact .nil
            | nil => exact .cons r1 (.cons r2 (.cons z1 .nil))
theorem kb31 {x : Str} {st : Stmt} {f : Addr} {fd : FuncData} (F : Fun K x x st f fd) (h : ∀ (kV doc pm : Value) (an : Option Addr) (cdv ct a b c d : Value), bindArgs (PySem.W.fnOf x x (defArgs st) (defBody st) (defScope st) .none kV doc pm an cdv ct) ⟨[a, b, c], [("most", d)]⟩ = pure (([("lanes" : Str), "ties", "row", "most"] : List Str).zip [a, b, c, d])) :
    KBinds K fd ["lanes", "ties", "row", "most"] ["most"] g31 gV31 := by
  obtain ⟨oc, od, kV, doc, pm, an, cdv, ct, osl, rfl, lk, hcd⟩ := F.ex
  refine ⟨fun s us ws X hl => ?_, fun {vs us zs ws} r rz => ?_⟩
  · match us, ws, hl with
    | [a, b, c], [d], _ => exact .of_eq (h kV doc pm an cdv ct a b c d)
    | [], _, z => simp [g31] at z
    | [_], _, z => simp [g31] at z
    | [_, _], _, z => simp [g31] at z
    | [_, _, _], [], z => simp [g31] at z
    | [_, _, _], _ :: _ :: _, z => simp [g31] at z
    | _ :: _ :: _ :: _ :: _, _, z => simp [g31] at z
  · cases r with
    | nil => exact .nil
    | cons r1 r =>
      cases r with
      | nil => exact .nil
      | cons r2 r =>
        cases r with
        | nil => exact .nil
        | cons r3 r =>
          cases r with
          | cons r4 r => exact .nil
          | nil =>
            cases rz with
            | nil => exact .nil
            | cons z1 z =>
              cases z with
              | cons z2 z => exact .nil
              | nil => exact .cons r1 (.cons r2 (.cons r3 (.cons z1 .nil)))

/-! ### _law_tie_ok -/
def spTk (K : PySem.W.Frag) : Sp := fun vs H Q _ => ∃ (b : Addr) (n : Int) (e : Tie), vs = [.ref b, .int n] ∧ H b = some (.tup [.int e.1, .int e.2.1, .int e.2.2]) ∧ Q (.bl (okB n e)) H
theorem scTk : FnScope ["_law_tie", "_law_lanes", "_law_one", "_law_other", "_law_least"] ["_law_tie", "_law_lanes"] (defScope (top 29)) := ⟨rfl, rfl, rfl, by decide +kernel, rfl, by decide +kernel, by decide +kernel⟩
theorem okB_eq {n : Int} {e : Tie} : ((decide (0 ≤ e.1) && decide (e.1 < n)) && ((decide (0 ≤ e.2.1) && decide (e.2.1 < n)) && (!decide (V.int e.1 = V.int e.2.1) && (decide (-999999 ≤ e.2.2) && decide (e.2.2 ≤ 999999))))) = okB n e := by
  unfold okB
  cases decide (0 ≤ e.1) <;> cases decide (e.1 < n) <;> cases decide (0 ≤ e.2.1) <;> cases decide (e.2.1 < n) <;> cases decide (V.int e.1 = V.int e.2.1) <;> rfl
theorem ok_tk {f : Addr} {fd : FuncData} (F : Fun K "_law_tie_ok" "_law_tie_ok" (top 29) f fd) : FnOk P w K mg base CX0 1 f fd ["_law_tie", "_law_lanes"] (spTk K) := by
  refine F.ok scTk (fun vs H Q E h => ?_) (fun cdv A outer s H vs Q E hr h => ?_)
  · obtain ⟨b, n, e, rfl, _⟩ := h
    rfl
  · obtain ⟨b, n, e, rfl, hb, k⟩ := h
    refine ⟨_, (pss_cons
  (ps_asg (pv 0) (pg_tup rfl (pgs_cons (pg_name (i := 2) scTk.nd rfl (Or.inl rfl)) (pgs_cons (pg_name (i := 3) scTk.nd rfl (Or.inl rfl)) (pgs_cons (pg_name (i := 4) scTk.nd rfl (Or.inl rfl)) pgs_nil)))))
  (pss_one
  (ps_ret (pe_and (pe_chain op_le op_lt pe_int (pv 2) (pv 1)) (pe_and (pe_chain op_le op_lt pe_int (pv 3) (pv 1)) (pe_and (pe_cmpR op_ne (pv 2) (pv 3) (nomark _)) (pe_one (pe_chain op_le op_le (pe_un un_neg pe_int) (pv 4) pe_int)))))))), ?_⟩
    refine ⟨_, rfl, b, _, rfl, SqT.of hb, rfl, _, _, rfl, _, _, rfl, _, _, rfl, rfl, ?_⟩
    refine EvE.and (EvE.chain EvE.con (EvE.var rfl) (EvE.var rfl) EvR.i0 EvR.i0) (EvE.and (EvE.chain EvE.con (EvE.var rfl) (EvE.var rfl) EvR.i0 EvR.i0) (EvE.and (EvE.op (EvE.var rfl) (EvE.var rfl) (EvR.ne rfl)) (EvE.chain (EvE.neg EvE.con) (EvE.var rfl) EvE.con EvR.i0 EvR.i0))) _ ?_
    show Q (.bl _) H
    rw [okB_eq]
    exact k
end
/-! ### the three lambdas -/
def forBody : Stmt → List Stmt
  | .For _ _ b _ _ => b
  | _ => []
def lParams : Expr → Arguments
  | .Lambda p _ _ _ => p
  | _ => { posonlyargs := [], args := [], vararg := none, kwonlyargs := [], kw_defaults := [], kwarg := none, defaults := [] }
def lBody : Expr → Expr
  | .Lambda _ b _ _ => b
  | e => e
def lScope : Expr → Scope
  | .Lambda _ _ s _ => s
  | _ => { kind := .function, names := [], isGenerator := false, isCoroutine := false }
def lPos : Expr → Pos
  | .Lambda _ _ _ p => p
  | _ => ⟨0, 0, 0, 0⟩
def lamSet : Stmt → Expr
  | .Assign _ (.List (.Subscript (.Call _ (e :: _) _ _) _ _ :: _) _) _ => e
  | _ => .Constant .none 0 ⟨0, 0, 0, 0⟩
def lamApp : Stmt → Expr
  | .Expr (.Call _ (.Subscript (.Call _ (e :: _) _ _) _ _ :: _) _ _) _ => e
  | _ => .Constant .none 0 ⟨0, 0, 0, 0⟩
def lawSt (i : Nat) : Stmt := (forBody ((defBody (top 30)).getD 1 (.Pass ⟨0, 0, 0, 0⟩))).getD i (.Pass ⟨0, 0, 0, 0⟩)
def lam1 : Expr := lamSet (lawSt 7)
def lam2 : Expr := lamApp (lawSt 8)
def lam3 : Expr := lamApp (lawSt 9)
abbrev NL : List Str := ["_law_lanes", "_law_ties_here", "_law_top"]
def wdO : Option Nat → Str
  | none => ""
  | some i => wdC i
/-- what the text says of the two classes of refusals, asked by _law_ask -/
structure Two (K : Frag) (cV cS cZ cT : Addr) : Prop where
  nv : ∀ i, mroIn K (clC cZ cT i) (.ref cV) = some false
  se : ∀ i, mroIn K (clC cZ cT i) (.ref cS) = some true
  gt : ∀ i, XGet K (clC cZ cT i) "word"
def rAskC (L : Expr) (qual : Str) (cl : List (Str × Addr)) (pm : Value) : St → List V → Hp → VK → Prop := fun σ vs H Q => ∃ f c' ctv n m q xs es, vs = [.ref f] ∧ H f = some (lamO f (kla_obj "<lambda>" qual (lParams L) (lBody L) (lScope L) cl pm c' ctv)) ∧ H c' = some (codeO c' qual) ∧
  σ[3]? = some (some (.int n)) ∧ σ[5]? = some (some (.ref q)) ∧ σ[7]? = some (some (.int m)) ∧ TxI n ∧ TxI m ∧ H q = some (.lst xs) ∧ Paired (TieAt H) xs es ∧ es.length ≤ 900 ∧ (∀ e ∈ es, TieB e) ∧
  ∀ v H', Same H H' → ∀ l, H' l = none → Q (.ref l) (upd H' l (.lst [.str (wdO (rC n es m)), v]))
structure LamOk (L : Expr) : Prop where
  has : ∀ q ∈ (lScope L).names, (q.2 = .cell ∨ q.2 = .free) → q.1 ∈ NL
  free : ∀ x ∈ NL, (lScope L).names.lookup x = some .free
  co : (lScope L).isCoroutine = false
  gen : (lScope L).isGenerator = false
  k : (lScope L).kind = .function
  nc : ∀ x ∈ (lScope L).names, x.2 ≠ .cell
theorem lamOk1 : LamOk lam1 := ⟨by decide +kernel, by decide +kernel, rfl, rfl, rfl, by decide +kernel⟩
theorem lamOk2 : LamOk lam2 := ⟨by decide +kernel, by decide +kernel, rfl, rfl, rfl, by decide +kernel⟩
theorem lamOk3 : LamOk lam3 := ⟨by decide +kernel, by decide +kernel, rfl, rfl, rfl, by decide +kernel⟩
theorem ask_spC {X : Cx} {cV cS cM cZ cT : Addr} {L : Expr} {qual : Str} {cl : List (Str × Addr)} {pm : Value} {E : XK} {pins : List (Addr × Obj)} {σ : St} {H : Hp} {s : Shared} {vs : List V} {Q : VK} {t : XK → TE} (LO : LamOk L)
    (hbind : ∀ c' ctv, bindArgs (kla_fn "<lambda>" qual (lParams L) (lBody L) (lScope L) cl pm (.ref c') ctv) ⟨[], []⟩ = pure [])
    (hcl : ∀ p ∈ cl, X.env.cells.lookup p.1 = some p.2) (hclN : ∀ x ∈ NL, x ∈ cl.map (·.1)) (hfn : ∀ x, X.fn x = true) (hown : ∀ x ∈ NL, X.env.scope.names.lookup x = some .cell) (hN : [X.N[3]?, X.N[5]?, X.N[7]?] = NL.map some) (hst : X.stack = X.env :: X.outer) (hfm : X.env.frame = some X.env.locals)
    (hb : ∀ (f c' : Addr) (A : Around) (outer : List Env) (s : Shared) (H : Hp) (E : XK), Room 8 (A.deeper (envX qual (lScope L) s.heap.objs.size f (.ref c') cl)) → PE (cxLam X.prog X.w X.K X.mg X.base NL qual (lScope L) f (.ref c') cl A outer s H E) (lBody L) (t E))
    (hq : ∀ n m q xs es H Qv Ev, TxI n → TxI m → H q = some (.lst xs) → Paired (TieAt H) xs es → es.length ≤ 900 → (∀ e ∈ es, TieB e) → (rC n es m = none → ∀ v H', Same H H' → Qv v H') → (∀ i, rC n es m = some i → ∀ H1 da H', Same H H1 → Thrown H1 [("word", .str (wdC i))] da H' → Ev (.ref (clC cZ cT i)) (some da) H') → t Ev [some (.int n), some (.ref q), some (.int m)] H Qv)
    (F2 : Two X.K cV cS cZ cT) (I : Inv X pins σ H s) (h : rAskC L qual cl pm σ vs H Q) : spAsk X.prog X.w X.K X.mg X.base 9 cV cS cM s X.stack vs H Q E := by
  obtain ⟨f, c', ctv, n, m, q, xs, es, rfl, ho, hc, h3, h5, h7, tn, tm, hH, pe, el, tb, k⟩ := h
  have Cl := clos_of (scope := lScope L) (NL := NL) (js := [3, 5, 7]) I hcl hfn (fun q hq h => hclN _ (LO.has q hq h)) LO.free hown (by rw [← hN]; rfl) hst hfm
  have ev : freeV [3, 5, 7] σ = [some (.int n), some (.ref q), some (.int m)] := by
    unfold freeV
    rw [List.map_cons, List.map_cons, List.map_cons, List.map_nil, h3, h5, h7]
    rfl
  rw [ev] at Cl
  refine ⟨f, fun v H' => rC n es m = none ∧ Same H H', fun cls dd H' => ∃ i H1 da, rC n es m = some i ∧ cls = .ref (clC cZ cT i) ∧ dd = some da ∧ Same H H1 ∧ Thrown H1 [("word", .str (wdC i))] da H', rfl, thunk_lam (N := NL) (k := 8) ho hc Cl (hbind _ _) LO.co LO.gen LO.k LO.nc (fun A outer s hr => hb f c' A outer s H _ hr) (hq n m q xs es H _ _ tn tm hH pe el tb (fun h0 v H' s1 => ⟨h0, s1⟩) fun i hi H1 da H' s1 th => ⟨i, H1, da, hi, rfl, rfl, s1, th⟩), ?_, ?_⟩
  · rintro v H' ⟨h0, s1⟩ l hl
    have := k v H' s1 l hl
    rw [h0] at this
    exact this
  · rintro cls dd H' ⟨i, H1, da, hi, rfl, rfl, s1, d0, rfl⟩
    refine ⟨_, da, _, wdC i, rfl, rfl, upd_same, .inr (.inl ⟨F2.nv i, F2.se i, F2.gt i, ?_⟩), fun l hl => ?_⟩
    · rw [List.lookup_cons, show (("word" : Str) == ("word" : Str)) = true from by decide +kernel]
    · have := k .non _ (fun b u e => by rw [upd_ne (ne_of_none (s1 _ _ e) d0)]; exact s1 _ _ e) l hl
      rw [hi] at this
      exact this
end Cm

set_option Elab.async false
set_option linter.all false
set_option maxRecDepth 100000
set_option maxHeartbeats 8000000
namespace Cm
open PySem L2 PySem.W
theorem ask_am {X : Cx} {fX cV cS cM cZ cT : Addr} {fdX : FuncData} {qual : Str} {cl : List (Str × Addr)} {pm : Value} {E : XK} {pins : List (Addr × Obj)} {σ : St} {H : Hp} {s : Shared} {vs : List V} {Q : VK}
    (hcl : ∀ p ∈ cl, X.env.cells.lookup p.1 = some p.2) (hclN : ∀ x ∈ NL, x ∈ cl.map (·.1)) (hfn : ∀ x, X.fn x = true) (hown : ∀ x ∈ NL, X.env.scope.names.lookup x = some .cell) (hN : [X.N[3]?, X.N[5]?, X.N[7]?] = NL.map some) (hst : X.stack = X.env :: X.outer) (hfm : X.env.frame = some X.env.locals)
    (GX : FnOk X.prog X.w X.K X.mg X.base (CX1 X.prog X.w) 6 fX fdX ["lanes", "ties", "most"] (spA1 X.K cZ cT)) (hX : X.mg "amounts" = some (.ref fX)) (kX : keepIn X.K (.ref fX) = true) (bX : KBinds X.K fdX ["lanes", "ties", "most"] ["most"] g21 gV21)
    (F2 : Two X.K cV cS cZ cT) (I : Inv X pins σ H s) (h : rAskC lam1 qual cl pm σ vs H Q) : spAsk X.prog X.w X.K X.mg X.base 9 cV cS cM s X.stack vs H Q E :=
  ask_spC (t := fun E => tCallK (spA1 X.K cZ cT) gV21 E (tCons (tVar 0) (tCons (tVar 1) tNil)) (tCons (tVar 2) tNil)) lamOk1 (fun _ _ => rfl) hcl hclN hfn hown hN hst hfm (fun f c' A outer s H E hr => pe_callK GX (hr.mono (by decide)) (by rfl) hX kX bX (passL fun _ _ _ h => h) (pa_cons (pv 0) (pa_cons (pv 1) pa_nil)) (pk_cons (pv 2) pk_nil)) (fun n m q xs es H Qv Ev tn tm hH pe el tb kv ke => ⟨_, rfl, _, rfl, _, rfl, n, m, q, xs, es, rfl, tn, tm, hH, pe, el, tb, kv, fun i hi da H' th => ke i hi H da H' (Same.refl _) th⟩) F2 I h
theorem ask_ri {X : Cx} {fX cV cS cM cZ cT : Addr} {fdX : FuncData} {qual : Str} {cl : List (Str × Addr)} {pm : Value} {E : XK} {pins : List (Addr × Obj)} {σ : St} {H : Hp} {s : Shared} {vs : List V} {Q : VK}
    (hcl : ∀ p ∈ cl, X.env.cells.lookup p.1 = some p.2) (hclN : ∀ x ∈ NL, x ∈ cl.map (·.1)) (hfn : ∀ x, X.fn x = true) (hown : ∀ x ∈ NL, X.env.scope.names.lookup x = some .cell) (hN : [X.N[3]?, X.N[5]?, X.N[7]?] = NL.map some) (hst : X.stack = X.env :: X.outer) (hfm : X.env.frame = some X.env.locals)
    (GX : FnOk X.prog X.w X.K X.mg X.base (CX1 X.prog X.w) 6 fX fdX ["lanes", "ties", "most"] (spA1 X.K cZ cT)) (hX : X.mg "ring" = some (.ref fX)) (kX : keepIn X.K (.ref fX) = true) (bX : KBinds X.K fdX ["lanes", "ties", "most"] ["most"] g21 gV21)
    (F2 : Two X.K cV cS cZ cT) (I : Inv X pins σ H s) (h : rAskC lam2 qual cl pm σ vs H Q) : spAsk X.prog X.w X.K X.mg X.base 9 cV cS cM s X.stack vs H Q E :=
  ask_spC (t := fun E => tCallK (spA1 X.K cZ cT) gV21 E (tCons (tVar 0) (tCons (tVar 1) tNil)) (tCons (tVar 2) tNil)) lamOk2 (fun _ _ => rfl) hcl hclN hfn hown hN hst hfm (fun f c' A outer s H E hr => pe_callK GX (hr.mono (by decide)) (by rfl) hX kX bX (passL fun _ _ _ h => h) (pa_cons (pv 0) (pa_cons (pv 1) pa_nil)) (pk_cons (pv 2) pk_nil)) (fun n m q xs es H Qv Ev tn tm hH pe el tb kv ke => ⟨_, rfl, _, rfl, _, rfl, n, m, q, xs, es, rfl, tn, tm, hH, pe, el, tb, kv, fun i hi da H' th => ke i hi H da H' (Same.refl _) th⟩) F2 I h
theorem ask_me {X : Cx} {fX cV cS cM cZ cT : Addr} {fdX : FuncData} {qual : Str} {cl : List (Str × Addr)} {pm : Value} {E : XK} {pins : List (Addr × Obj)} {σ : St} {H : Hp} {s : Shared} {vs : List V} {Q : VK}
    (hcl : ∀ p ∈ cl, X.env.cells.lookup p.1 = some p.2) (hclN : ∀ x ∈ NL, x ∈ cl.map (·.1)) (hfn : ∀ x, X.fn x = true) (hown : ∀ x ∈ NL, X.env.scope.names.lookup x = some .cell) (hN : [X.N[3]?, X.N[5]?, X.N[7]?] = NL.map some) (hst : X.stack = X.env :: X.outer) (hfm : X.env.frame = some X.env.locals)
    (GX : FnOk X.prog X.w X.K X.mg X.base (CX1 X.prog X.w) 6 fX fdX ["lanes", "ties", "row", "most"] (spM1 X.K cZ cT)) (hX : X.mg "meets" = some (.ref fX)) (kX : keepIn X.K (.ref fX) = true) (bX : KBinds X.K fdX ["lanes", "ties", "row", "most"] ["most"] g31 gV31)
    (F2 : Two X.K cV cS cZ cT) (I : Inv X pins σ H s) (h : rAskC lam3 qual cl pm σ vs H Q) : spAsk X.prog X.w X.K X.mg X.base 9 cV cS cM s X.stack vs H Q E :=
  ask_spC (t := fun E => tCallK (spM1 X.K cZ cT) gV31 E (tCons (tVar 0) (tCons (tVar 1) (tCons (tLst (tCons (tC (.int 0)) tNil)) tNil))) (tCons (tVar 2) tNil)) lamOk3 (fun _ _ => rfl) hcl hclN hfn hown hN hst hfm (fun f c' A outer s H E hr => pe_callK GX (hr.mono (by decide)) (by rfl) hX kX bX (passL fun _ _ _ h => h) (pa_cons (pv 0) (pa_cons (pv 1) (pa_cons (pe_lst (pa_cons pe_int pa_nil)) pa_nil))) (pk_cons (pv 2) pk_nil)) (fun n m q xs es H Qv Ev tn tm hH pe el tb kv ke => ⟨_, rfl, _, rfl, (show 1 ≤ sizeLine by decide), fun r hr => ⟨_, rfl, n, m, q, r, xs, es, rfl, tn, tm, Same.new hr _ _ hH, ties_tk (Same.tk (Same.new hr)) pe, el, tb, upd_same, fun h0 v H' e => kv h0 v H' ((Same.new hr).trans e), fun i hi da H' th => ke i hi _ da H' (Same.new hr) th⟩⟩) F2 I h
end Cm

set_option Elab.async false
set_option linter.all false
set_option maxRecDepth 100000
set_option maxHeartbeats 8000000
namespace Cm
open PySem L2 PySem.W
abbrev qL : Str := "law.<locals>." ++ "<lambda>"
abbrev lps : List Pos := [lPos lam1, lPos lam2, lPos lam3]
/-! ### what stands between the law's statements -/
theorem _root_.L2.TabI.but {H H' : Hp} {T p dc : Addr} {qual : Str} {lps : List Pos} (h : TabI H T qual lps) (D : Dr H p dc) (b : But p H H') : TabI H' T qual lps := h.keep fun q u e ne => b q u e (D.ne e ne)
theorem _root_.L2.TabI.put {H : Hp} {T w : Addr} {qual : Str} {lps : List Pos} {ys zs : List V} (h : TabI H T qual lps) (hw : H w = some (.lst ys)) : TabI (upd H w (.lst zs)) T qual lps := by
  obtain ⟨ps, h1, h2, h3⟩ := h
  refine ⟨ps, ?_, h2, fun lp m => ?_⟩
  · rw [upd_ne (fun z => by subst z; rw [hw] at h1; cases h1)]; exact h1
  · rcases h3 lp m with h | ⟨c', a, b⟩
    · exact .inl h
    · refine .inr ⟨c', a, ?_⟩
      rw [upd_ne (fun z => by subst z; rw [hw] at b; cases b)]; exact b
theorem TK.put {H : Hp} {w : Addr} {ys zs : List V} (hw : H w = some (.lst ys)) : TK H (upd H w (.lst zs)) := fun b xs e => by
  rw [upd_ne (fun z => by subst z; rw [hw] at e; cases e)]; exact e
structure LS (Tt p dc q : Addr) (xs : List V) (es : List Tie) (H : Hp) : Prop where
  D : Dr H p dc
  tb : TabI H Tt qL lps
  hq : H q = some (.lst xs)
  pe : Paired (TieAt H) xs es
  nq : q ≠ dc
section
variable {Tt p dc q w : Addr} {xs : List V} {es : List Tie} {H H' : Hp}
theorem LS.but (s : LS Tt p dc q xs es H) (D' : Dr H' p dc) (b : But p H H') : LS Tt p dc q xs es H' :=
  ⟨D', s.tb.but s.D b, b _ _ s.hq (s.D.ne s.hq (by intro _ z; cases z)), ties_tk (TK.but s.D b) s.pe, s.nq⟩
theorem LS.same (s : LS Tt p dc q xs es H) (e : Same H H') : LS Tt p dc q xs es H' := ⟨s.D.mono e, s.tb.same e, e _ _ s.hq, ties_tk (Same.tk e) s.pe, s.nq⟩
theorem LS.put {ys zs : List V} (s : LS Tt p dc q xs es H) (hw : H w = some (.lst ys)) (n1 : w ≠ q) (n2 : w ≠ dc) : LS Tt p dc q xs es (upd H w (.lst zs)) :=
  ⟨s.D.put (s.D.ne hw (by intro _ z; cases z)) n2, s.tb.put hw, by rw [upd_ne (Ne.symm n1)]; exact s.hq, ties_tk (TK.put hw) s.pe, s.nq⟩
theorem LS.ins {xs' : List V} {es' : List Tie} (s : LS Tt p dc q xs es H) (pe' : Paired (TieAt H) xs' es') : LS Tt p dc q xs' es' (upd H q (.lst xs')) :=
  ⟨s.D.put (s.D.ne s.hq (by intro _ z; cases z)) s.nq, s.tb.put s.hq, upd_same, ties_tk (TK.put s.hq) pe', s.nq⟩
def Kp (H H' : Hp) : Prop := ∀ b u, H b = some u → (∀ ps, u ≠ .tbl ps) → H' b = some u
theorem LS.kp (s : LS Tt p dc q xs es H) (k : Kp H H') (tb : TabI H' Tt qL lps) : LS Tt p dc q xs es H' := by
  refine ⟨?_, tb, k _ _ s.hq (by intro _ z; cases z), ties_tk (fun b ys e => k _ _ e (by intro _ z; cases z)) s.pe, s.nq⟩
  obtain ⟨ms, ba, br, bs, e1, e2, rest⟩ := s.D.ex
  exact ⟨ms, ba, br, bs, k _ _ e1 (by intro _ z; cases z), k _ _ e2 (by intro _ z; cases z), rest⟩
/-- beside it a list of ties and ties by themselves -/
structure LX (Tt p dc q : Addr) (xs : List V) (es : List Tie) (l : Addr) (ys : List V) (os : List Tie) (qs : List V) (rs : List Tie) (H : Hp) : Prop where
  s : LS Tt p dc q xs es H
  hl : H l = some (.lst ys)
  po : Paired (TieAt H) ys os
  pr : Paired (TieAt H) qs rs
theorem LX.same {l : Addr} {ys qs : List V} {os rs : List Tie} (x : LX Tt p dc q xs es l ys os qs rs H) (e : Same H H') : LX Tt p dc q xs es l ys os qs rs H' := ⟨x.s.same e, e _ _ x.hl, ties_tk (Same.tk e) x.po, ties_tk (Same.tk e) x.pr⟩
theorem LX.but {l : Addr} {ys qs : List V} {os rs : List Tie} (x : LX Tt p dc q xs es l ys os qs rs H) (D' : Dr H' p dc) (b : But p H H') : LX Tt p dc q xs es l ys os qs rs H' :=
  ⟨x.s.but D' b, b _ _ x.hl (x.s.D.ne x.hl (by intro _ z; cases z)), ties_tk (TK.but x.s.D b) x.po, ties_tk (TK.but x.s.D b) x.pr⟩
theorem LX.new {l t : Addr} {ys qs : List V} {os rs : List Tie} (x : LX Tt p dc q xs es l ys os qs rs H) (e : Tie) (ht : H t = none) : LX Tt p dc q xs es l ys os (qs ++ [.ref t]) (rs ++ [e]) (upd H t (.tup [.int e.1, .int e.2.1, .int e.2.2])) := by
  have y := x.same (Same.new (o := .tup [.int e.1, .int e.2.1, .int e.2.2]) ht)
  exact ⟨y.s, y.hl, y.po, Paired.snoc ⟨t, rfl, upd_same⟩ y.pr⟩
theorem ties_mem {x : V} (h : Paired (TieAt H) xs es) (hx : x ∈ xs) : ∃ e ∈ es, TieAt H x e := by
  obtain ⟨i, hi⟩ := List.mem_iff_getElem?.mp hx
  obtain ⟨e, he, t⟩ := ties_get h hi
  exact ⟨e, List.mem_of_getElem? he, t⟩
theorem Paired.ins {α β : Type} {R : α → β → Prop} {x : α} {y : β} (h : R x y) : ∀ {xs : List α} {ys : List β} (k : Nat), Paired R xs ys → Paired R (xs.take k ++ x :: xs.drop k) (ys.take k ++ y :: ys.drop k)
  | _, _, 0, p => .cons h p
  | _, _, k + 1, .nil => .cons h .nil
  | _, _, k + 1, .cons a t => .cons a (Paired.ins h k t)
/-- what _law_ask makes of a lambda -/
theorem ask_step {L : Expr} {cl : List (Str × Addr)} {pm : Value} {σ : St} {Q : VK} {n m : Int} {c' f : Addr} {ctv : Value} {H1 : Hp} {lp : Pos} {o : Obj} (ho : o = kla_obj "<lambda>" qL (lParams L) (lBody L) (lScope L) cl pm c' ctv) (h3 : σ[3]? = some (some (.int n))) (h5 : σ[5]? = some (some (.ref q))) (h7 : σ[7]? = some (some (.int m))) (tn : TxI n) (tm : TxI m) (el : es.length ≤ 900) (tb : ∀ e ∈ es, TieB e)
    (s : LS Tt p dc q xs es H) (lm : Lam H Tt lp qL c' H1) (hf : H1 f = none) (k : ∀ l v H', LS Tt p dc q xs es H' → Kp H H' → H' l = some (.lst [.str (wdO (rC n es m)), v]) → Q (.ref l) H') : rAskC L qL cl pm σ [.ref f] (upd H1 f (lamO f o)) Q := by
  subst ho
  have k1 : Kp H (upd H1 f (lamO f (kla_obj "<lambda>" qL (lParams L) (lBody L) (lScope L) cl pm c' ctv))) := fun b u e ne => by
    have e9 := lm.keep e ne
    rw [upd_ne (ne_of_none e9 hf)]; exact e9
  have s1 := s.kp k1 ((s.tb.lam lm).same (Same.new hf))
  refine ⟨f, c', ctv, n, m, q, xs, es, rfl, upd_same, Same.new hf _ _ lm.code, h3, h5, h7, tn, tm, s1.hq, s1.pe, el, tb, fun v H' e l hl => ?_⟩
  exact k l v _ ((s1.same e).same (Same.new hl)) (fun b u e' ne => Same.new hl _ _ (e _ _ (k1 b u e' ne))) upd_same
end
end Cm

set_option Elab.async false
set_option linter.all false
set_option maxRecDepth 100000
set_option maxHeartbeats 1000000
namespace Cm
open PySem L2 PySem.W
section
variable {P : Program} {w : World} {K : PySem.W.Frag} {mg : Str → Option Value} {base : Heap}
abbrev NW : List Str := ["_law_script", "_law_d", "_law_turn", "_law_lanes", "_law_some", "_law_ties_here", "_law_odd", "_law_top", "_law_due", "_law_words"]
theorem scLaw : FnScope NW ["_law_script"] (defScope (top 30)) := ⟨rfl, rfl, rfl, by decide +kernel, rfl, by decide +kernel, by decide +kernel⟩
def spLaw1 (K : PySem.W.Frag) (Tt : Addr) (ps : Array Value) : Sp := fun vs H Q _ => ∃ (a : Addr) (ns : List Int), vs = [.ref a] ∧ SqL K H a (ns.map V.int) ∧ ns.length ≤ 63 ∧ H Tt = some (.tbl ps) ∧ ∀ H', Q (.bl true) H'
theorem ok_law {f c Tt fB fP fO fFr fTi fTk fA fAm fRi fMe cV cS cM cZ cT : Addr} {fdB fdP fdO fdFr fdTi fdTk fdA fdAm fdRi fdMe : FuncData} {oc kV doc pm ct : Value} {od an : Option Addr} {osl : Array (Option Value)} {ps : Array Value}
    (lk : K.lookup f = some ⟨oc, od, .func (PySem.W.fnOf "law" "law" (defArgs (top 30)) (defBody (top 30)) (defScope (top 30)) .none kV doc pm an (.ref c) ct), osl⟩) (hcd : PySem.W.codeIn K (.ref c) "law" = true)
    (HT : CodeHd base c Tt) (HB : base.BuiltinsAt mg Tt) (HG : mainGlobals ≠ Tt) (tri : TriplesOk ps.toList) (cn : ∀ lp ∈ lps, codeAmong lp ps.toList = none)
    (T : Txt K mg) (hmx : mg "max" = none) (F2 : Two K cV cS cZ cT)
    (DB : Def K mg "_law_begin" (top 23) ["_law_script"] fB fdB) (DP : Def K mg "_law_pick" (top 24) ["_law_d", "_law_many"] fP fdP) (DO : Def K mg "_law_of" (top 25) ["_law_d", "_law_things"] fO fdO)
    (DFr : Def K mg "_law_far" (top 26) ["_law_d"] fFr fdFr) (DTi : Def K mg "_law_ties" (top 28) ["_law_d", "_law_lanes", "_law_wide"] fTi fdTi) (DTk : Def K mg "_law_tie_ok" (top 29) ["_law_tie", "_law_lanes"] fTk fdTk)
    (GA : FnOkS P w K mg base CX0 10 fA fdA ["_law_ask_here"] (spAsk P w K mg base 9 cV cS cM)) (hA : mg "_law_ask" = some (.ref fA)) (kA : keepIn K (.ref fA) = true) (bA : Binds K fdA ["_law_ask_here"] [])
    (GAm : FnOk P w K mg base (CX1 P w) 6 fAm fdAm ["lanes", "ties", "most"] (spA1 K cZ cT)) (hAm : mg "amounts" = some (.ref fAm)) (kAm : keepIn K (.ref fAm) = true) (bAm : KBinds K fdAm ["lanes", "ties", "most"] ["most"] g21 gV21)
    (GRi : FnOk P w K mg base (CX1 P w) 6 fRi fdRi ["lanes", "ties", "most"] (spA1 K cZ cT)) (hRi : mg "ring" = some (.ref fRi)) (kRi : keepIn K (.ref fRi) = true) (bRi : KBinds K fdRi ["lanes", "ties", "most"] ["most"] g21 gV21)
    (GMe : FnOk P w K mg base (CX1 P w) 6 fMe fdMe ["lanes", "ties", "row", "most"] (spM1 K cZ cT)) (hMe : mg "meets" = some (.ref fMe)) (kMe : keepIn K (.ref fMe) = true) (bMe : KBinds K fdMe ["lanes", "ties", "row", "most"] ["most"] g31 gV31) :
    FnOk P w K mg base CX0 11 f (PySem.W.fnOf "law" "law" (defArgs (top 30)) (defBody (top 30)) (defScope (top 30)) .none kV doc pm an (.ref c) ct) ["_law_script"] (spLaw1 K Tt ps) := by
  have GB : FnOk P w K mg base CX0 1 fB fdB ["_law_script"] (spBegin K) := ok_begin DB.F T
  have GP : FnOk P w K mg base CX0 1 fP fdP ["_law_d", "_law_many"] spPick := ok_pick DP.F T
  have GO : FnOk P w K mg base CX0 2 fO fdO ["_law_d", "_law_things"] (spOf K) := ok_of DO.F T DP
  have GFr : FnOk P w K mg base CX0 2 fFr fdFr ["_law_d"] spFar := ok_far DFr.F T DP
  have GTi : FnOk P w K mg base CX0 2 fTi fdTi ["_law_d", "_law_lanes", "_law_wide"] spTi := ok_ti DTi.F T DP
  have GTk : FnOk P w K mg base CX0 1 fTk fdTk ["_law_tie", "_law_lanes"] (spTk K) := ok_tk DTk.F
  refine fn_of lk hcd scLaw (fun vs H Q E h => ?_) (fun A outer s H vs Q E hr h => ?_)
  · obtain ⟨a, ns, rfl, _⟩ := h
    rfl
  · obtain ⟨sa, ns, rfl, hS, hlen, hTb, k⟩ := h
    have hr1 : Room 1 (A.deeper (PyProof.Rows.envOfC "law" (defScope (top 30)) s.heap.objs.size f (.ref c))) := hr.mono (by decide)
    have hr2 : Room 2 (A.deeper (PyProof.Rows.envOfC "law" (defScope (top 30)) s.heap.objs.size f (.ref c))) := hr.mono (by decide)
    have CT : CodeTab (cxOf CX0 P w K mg base NW "law" (defScope (top 30)) f (.ref c) A outer s H E) c Tt := ⟨rfl, HT, HB, HG⟩
    have h1 : ∀ q ∈ ([("_law_top", s.heap.objs.size + 1 + 1 + 1), ("_law_ties_here", s.heap.objs.size + 1 + 1), ("_law_lanes", s.heap.objs.size + 1)] : List (Str × Addr)), (PyProof.Rows.envOfC "law" (defScope (top 30)) s.heap.objs.size f (.ref c)).cells.lookup q.1 = some q.2 := by
      intro q hq
      rcases List.mem_cons.mp hq with rfl | hq
      · rfl
      · rcases List.mem_cons.mp hq with rfl | hq
        · rfl
        · cases List.mem_singleton.mp hq
          rfl
    have h1N : ∀ x ∈ NL, x ∈ ([("_law_top", s.heap.objs.size + 1 + 1 + 1), ("_law_ties_here", s.heap.objs.size + 1 + 1), ("_law_lanes", s.heap.objs.size + 1)] : List (Str × Addr)).map (·.1) := by
      have : ∀ x ∈ NL, x ∈ (["_law_top", "_law_ties_here", "_law_lanes"] : List Str) := by decide +kernel
      exact this
    have h3 : ∀ x ∈ NL, (defScope (top 30)).names.lookup x = some .cell := by decide +kernel
    refine ⟨_, (pss_cons
  (ps_set (i := 1) scLaw.nd rfl (Or.inl rfl) (pe_call GB hr1 rfl DB.mg DB.F.kp DB.b .nil pass0 (pa_cons (pv 0) pa_nil)))
  (pss_cons
  (ps_for PassesOwn.leaving rfl (pi_range1 rfl T.range (pa_cons pe_int pa_nil)) (pg_name (i := 2) scLaw.nd rfl (Or.inl rfl)) (pss_cons
  (ps_set (i := 3) scLaw.nd rfl (Or.inr rfl) (pe_call GO hr2 rfl DO.mg DO.F.kp DO.b .nil pass0 (pa_cons (pv 1) (pa_cons (pe_lst (pa_cons (pe_op op_add pe_int (pe_call GP hr1 rfl DP.mg DP.F.kp DP.b .nil pass0 (pa_cons (pv 1) (pa_cons pe_int pa_nil)))) (pa_cons pe_int (pa_cons pe_int (pa_cons pe_int (pa_cons pe_int (pa_cons (pe_call GFr hr2 rfl DFr.mg DFr.F.kp DFr.b .nil pass0 (pa_cons (pv 1) pa_nil)) pa_nil))))))) pa_nil))))
  (pss_cons
  (ps_set (i := 4) scLaw.nd rfl (Or.inl rfl) (pe_callB (call_max2 rfl) (by rfl) hmx bt_max (pa_cons pe_int (pa_cons (pe_callB (call_min2 rfl) (by rfl) T.min bt_min (pa_cons pe_int (pa_cons (pv 3) pa_nil))) pa_nil))))
  (pss_cons
  (ps_set (i := 5) scLaw.nd rfl (Or.inr rfl) (pe_call GTi hr2 rfl DTi.mg DTi.F.kp DTi.b .nil pass0 (pa_cons (pv 1) (pa_cons (pv 4) (pa_cons pe_int pa_nil)))))
  (pss_cons
  (ps_if (pt_cmpR op_eq (pe_call GP hr1 rfl DP.mg DP.F.kp DP.b .nil pass0 (pa_cons (pv 1) (pa_cons pe_int pa_nil))) pe_int (nomark _))
    (pss_cons (ps_set (i := 6) scLaw.nd rfl (Or.inl rfl) (pe_lst (pa_cons (pe_tup (pa_cons pe_int (pa_cons pe_int (pa_cons pe_int pa_nil)))) (pa_cons (pe_tup (pa_cons pe_int (pa_cons (pv 4) (pa_cons pe_int pa_nil)))) (pa_cons (pe_tup (pa_cons (pe_un un_neg pe_int) (pa_cons pe_int (pa_cons pe_int pa_nil)))) (pa_cons (pe_tup (pa_cons (pv 4) (pa_cons pe_int (pa_cons pe_int pa_nil)))) (pa_cons (pe_tup (pa_cons pe_int (pa_cons (pe_op op_mod pe_int (pv 4)) (pa_cons pe_int pa_nil)))) pa_nil)))))))
    (pss_cons (ps_set (i := 6) scLaw.nd rfl (Or.inl rfl) (pe_op op_cat (pv 6) (pe_lst (pa_cons (pe_tup (pa_cons pe_int (pa_cons (pe_op op_mod pe_int (pv 4)) (pa_cons (pe_un un_neg pe_int) pa_nil)))) (pa_cons (pe_tup (pa_cons pe_int (pa_cons (pe_call GFr hr2 rfl DFr.mg DFr.F.kp DFr.b .nil pass0 (pa_cons (pv 1) pa_nil)) (pa_cons pe_int pa_nil)))) (pa_cons (pe_tup (pa_cons pe_int (pa_cons (pe_op op_mod pe_int (pv 4)) (pa_cons (pe_call GFr hr2 rfl DFr.mg DFr.F.kp DFr.b .nil pass0 (pa_cons (pv 1) pa_nil)) pa_nil)))) pa_nil))))))
    (pss_one (ps_expr (pe_bm PySem.F.plainAttrs_list PySem.F.slot_list_insert PySem.F.type_list_insert mt_insert (pv 5) (pa_cons (pe_call GP hr1 rfl DP.mg DP.F.kp DP.b .nil pass0 (pa_cons (pv 1) (pa_cons (pe_op op_add (pe_callB call_len_seq (by rfl) T.len bt_len (pa_cons (pv 5) pa_nil)) pe_int) pa_nil))) (pa_cons (pe_call GO hr2 rfl DO.mg DO.F.kp DO.b .nil pass0 (pa_cons (pv 1) (pa_cons (pv 6) pa_nil))) pa_nil))))))) pss_nil)
  (pss_cons
  (ps_set (i := 7) scLaw.nd rfl (Or.inr rfl) (pe_call GO hr2 rfl DO.mg DO.F.kp DO.b .nil pass0 (pa_cons (pv 1) (pa_cons (pe_lst (pa_cons pe_int (pa_cons pe_int (pa_cons (pe_op op_pow pe_int pe_int) (pa_cons (pe_un un_neg pe_int) (pa_cons (pe_op op_add (pe_op op_pow pe_int pe_int) pe_int) (pa_cons (pe_call GFr hr2 rfl DFr.mg DFr.F.kp DFr.b .nil pass0 (pa_cons (pv 1) pa_nil)) pa_nil))))))) pa_nil))))
  (pss_cons
  (ps_set (i := 8) scLaw.nd rfl (Or.inl rfl) pe_str)
  (pss_cons
  (ps_if (pt_not (pt_chain op_le op_le pe_int (pv 3) pe_int)) (pss_one (ps_set (i := 8) scLaw.nd rfl (Or.inl rfl) pe_str)) (pss_one
    (ps_if (pt_not (pt_val (pe_callB (call_allB rfl) (by rfl) T.all bt_all (pa_cons (pe_comp (g := gName 0) (own := ["_law_tie"]) (js := [3]) (N' := ["_law_tie", "_law_lanes"]) (CompScope.of (osc := defScope (top 30)) (N := NW) rfl rfl ⟨rfl, by decide +kernel, by decide +kernel, by decide +kernel, rfl, by decide +kernel⟩) rfl (pi_list (pv 5)) (fun _ _ _ _ _ => (pg_name (i := 0) (show List.Nodup (["_law_tie", "_law_lanes"] : List Str) by decide +kernel) rfl (Or.inl rfl) (Or.inr rfl))) (fun _ _ _ _ _ => pifs_nil) (fun _ _ _ _ _ => (pe_call GTk hr1 rfl DTk.mg DTk.F.kp DTk.b .nil pass0 (pa_cons (pv 0) (pa_cons (pv 1) pa_nil))))) pa_nil)))) (pss_one (ps_set (i := 8) scLaw.nd rfl (Or.inl rfl) pe_str)) (pss_one
    (ps_if (pt_not (pt_chain op_le op_le pe_int (pv 7) (pe_op op_pow pe_int pe_int))) (pss_one (ps_set (i := 8) scLaw.nd rfl (Or.inl rfl) pe_str)) pss_nil)))))
  (pss_cons
  (ps_set (i := 9) scLaw.nd rfl (Or.inl rfl) (pe_lst (pa_cons (pe_ix ix_list (pe_callS (E := E0) (r := rAskC lam1 qL [("_law_top", s.heap.objs.size + 1 + 1 + 1), ("_law_ties_here", s.heap.objs.size + 1 + 1), ("_law_lanes", s.heap.objs.size + 1)] ((mg "__name__").getD .none)) GA hr (by rfl) hA kA bA pass0 (fun pins σ H s' vs Q I h => ask_am h1 h1N (fun _ => rfl) h3 rfl rfl rfl GAm hAm kAm bAm F2 I h) (pa_cons (pe_lam CT rfl rfl) pa_nil)) pe_int (fun _ _ => rfl)) pa_nil)))
  (pss_cons
  (ps_expr (pe_bm PySem.F.plainAttrs_list PySem.F.slot_list_append PySem.F.type_list_append mt_append (pv 9) (pa_cons (pe_ix ix_list (pe_callS (E := E0) (r := rAskC lam2 qL [("_law_top", s.heap.objs.size + 1 + 1 + 1), ("_law_ties_here", s.heap.objs.size + 1 + 1), ("_law_lanes", s.heap.objs.size + 1)] ((mg "__name__").getD .none)) GA hr (by rfl) hA kA bA pass0 (fun pins σ H s' vs Q I h => ask_ri h1 h1N (fun _ => rfl) h3 rfl rfl rfl GRi hRi kRi bRi F2 I h) (pa_cons (pe_lam CT rfl rfl) pa_nil)) pe_int (fun _ _ => rfl)) pa_nil)))
  (pss_cons
  (ps_expr (pe_bm PySem.F.plainAttrs_list PySem.F.slot_list_append PySem.F.type_list_append mt_append (pv 9) (pa_cons (pe_ix ix_list (pe_callS (E := E0) (r := rAskC lam3 qL [("_law_top", s.heap.objs.size + 1 + 1 + 1), ("_law_ties_here", s.heap.objs.size + 1 + 1), ("_law_lanes", s.heap.objs.size + 1)] ((mg "__name__").getD .none)) GA hr (by rfl) hA kA bA pass0 (fun pins σ H s' vs Q I h => ask_me h1 h1N (fun _ => rfl) h3 rfl rfl rfl GMe hMe kMe bMe F2 I h) (pa_cons (pe_lam CT rfl rfl) pa_nil)) pe_int (fun _ _ => rfl)) pa_nil)))
  (pss_one
  (ps_if (pt_cmpR (op_neL hr.units) (pv 9) (pe_lst (pa_cons (pv 8) (pa_cons (pv 8) (pa_cons (pv 8) pa_nil)))) (nomark _)) (pss_one ps_never) pss_nil)))))))))))))
  (pss_one (ps_ret pe_bl)))), ?_⟩
    refine ⟨_, rfl, sa, ns, rfl, hS, hlen, fun p dc H0 D0 s0 _ => ?_⟩
    have tb0 : TabI H0 Tt qL lps := ⟨ps, s0 _ _ hTb, tri, fun lp m => .inl (cn lp m)⟩
    refine ⟨5, rfl, by decide, by decide, for_range (n := 5) (fun i σ H' => (∃ u2 u3 u4 u5 u6 u7 u8 u9, σ = [some (.ref sa), some (.ref p), u2, u3, u4, u5, u6, u7, u8, u9]) ∧ Dr H' p dc ∧ TabI H' Tt qL lps) ⟨⟨none, none, none, none, none, none, none, none, rfl⟩, D0, tb0⟩ ?_ ?_⟩
    · rintro i σ H1 hi ⟨⟨u2, u3, u4, u5, u6, u7, u8, u9, rfl⟩, D1, tb1⟩
      have z3 : 3 ≤ sizeLine := by decide
      have z5 : 5 ≤ sizeLine := by decide
      have z6 : 6 ≤ sizeLine := by decide
      -- lanes
      try dsimp only [gName]
      refine seq_by (fun σ' H' => ∃ n : Int, σ' = [some (.ref sa), some (.ref p), some (.int (0 + i)), some (.int n), u4, u5, u6, u7, u8, u9] ∧ TxI n ∧ Dr H' p dc ∧ TabI H' Tt qL lps) ?nx0 fun N hN => ?st0
      case st0 =>
        refine ⟨_, rfl, _, rfl, p, dc, _, rfl, D1, by decide, by decide, fun r H2 r0 r1 D2 b2 => ⟨_, _, rfl, rfl, _, rfl, p, dc, rfl, D2, fun z H3 z0 z1 D3 b3 => ⟨z6, fun l hl => ⟨p, dc, l, _, rfl, D3.new hl, SqL.of upd_same, by simp, by simp, fun x H4 hx D4 b4 => ?_⟩⟩⟩⟩
        have tb4 := (((tb1.but D1 b2).but D2 b3).same (Same.new hl)).but (D3.new hl) b4
        have : ∃ n, x = .int n ∧ TxI n := by
          have F0 : (Far : Int) = 1000000000000000000000000000000 := rfl
          simp only [List.mem_cons, List.not_mem_nil, or_false] at hx
          rcases hx with rfl | rfl | rfl | rfl | rfl | rfl
          · exact ⟨_, rfl, by unfold TxI; omega⟩
          · exact ⟨_, rfl, by unfold TxI; omega⟩
          · exact ⟨_, rfl, by unfold TxI; omega⟩
          · exact ⟨_, rfl, by unfold TxI; omega⟩
          · exact ⟨_, rfl, by unfold TxI; omega⟩
          · exact ⟨_, rfl, by unfold TxI; omega⟩
        obtain ⟨n, rfl, tn⟩ := this
        exact hN _ _ ⟨n, rfl, tn, D4, tb4⟩
      rintro σ' H2 ⟨n, rfl, tn, D2, tb2⟩
      clear tb1 D1 H1
      -- some
      try dsimp only [gName]
      refine seq_by (fun σ' H' => ∃ so : Nat, σ' = [some (.ref sa), some (.ref p), some (.int (0 + i)), some (.int n), some (.int so), u5, u6, u7, u8, u9] ∧ 1 ≤ so ∧ so ≤ 6 ∧ H2 = H') ?nx1 fun N hN => ?st1
      case st1 =>
        refine ⟨_, rfl, 6, n, rfl, 1, _, rfl, ?_⟩
        have : ∃ so : Nat, (if (if n < 6 then n else 6) > 1 then (if n < 6 then n else 6) else 1) = (so : Int) ∧ 1 ≤ so ∧ so ≤ 6 := by
          refine ⟨(if (if n < 6 then n else 6) > 1 then (if n < 6 then n else 6) else 1).toNat, ?_, ?_, ?_⟩ <;> (repeat' split) <;> omega
        obtain ⟨so, e, s1, s2⟩ := this
        rw [e]
        exact hN _ _ ⟨so, rfl, s1, s2, rfl⟩
      rintro σ' H2 ⟨so, rfl, s1, s2, rfl⟩
      -- ties
      try dsimp only [gName]
      refine seq_by (fun σ' H' => ∃ q xs es, σ' = [some (.ref sa), some (.ref p), some (.int (0 + i)), some (.int n), some (.int so), some (.ref q), u6, u7, u8, u9] ∧ LS Tt p dc q xs es H' ∧ es.length ≤ 16 ∧ (∀ e ∈ es, TieB e)) ?nx2 fun N hN => ?st2
      case st2 =>
        refine ⟨_, rfl, _, rfl, p, dc, so, 9, rfl, D2, s1, s2, by decide, by decide, fun q xs es H3 hq pe ok el nq D3 b3 => ?_⟩
        refine hN _ _ ⟨q, xs, es, rfl, ⟨D3, tb2.but D2 b3, hq, pe, ?_⟩, el, fun e he => ?_⟩
        · rintro rfl
          obtain ⟨ys, h⟩ := D2.cell
          rw [nq] at h; cases h
        · have o := ok e he
          have h1 := o.o; have h2 := o.t; have h3 := o.l
          have F0 : (Far : Int) = 1000000000000000000000000000000 := rfl
          exact ⟨by unfold TxI; omega, by unfold TxI; omega, by unfold TxI; omega⟩
      rintro σ' H3 ⟨q, xs0, es0, rfl, L3, el0, tb0'⟩
      clear tb2 D2 H2
      -- the bent tie
      try dsimp only [gName]
      refine seq_by (fun σ' H' => ∃ xs es v6, σ' = [some (.ref sa), some (.ref p), some (.int (0 + i)), some (.int n), some (.int so), some (.ref q), v6, u7, u8, u9] ∧ LS Tt p dc q xs es H' ∧ es.length ≤ 17 ∧ (∀ e ∈ es, TieB e)) ?nx3 fun N hN => ?st3
      case st3 =>
        have pos : (0 : Int) < (so : Int) := by omega
        have D3 := L3.D
        refine ⟨_, rfl, p, dc, _, rfl, D3, by decide, by decide, fun r Ha r0 r1 Da ba => ⟨rfl, _, rfl, ite2 (fun _ => ?_) (fun _ => hN _ _ ⟨xs0, es0, _, rfl, L3.but Da ba, by omega, tb0'⟩)⟩⟩
        have La := L3.but Da ba
        clear ba D3 L3 r0 r1
        have F0 : (Far : Int) = 1000000000000000000000000000000 := rfl
        have md : 0 ≤ (1 : Int) % so ∧ (1 : Int) % so < so := ⟨Int.emod_nonneg _ (by omega), Int.emod_lt_of_pos _ pos⟩
        try dsimp only [gName]
        refine seq_by (fun σ' H' => ∃ l ys os, σ' = [some (.ref sa), some (.ref p), some (.int (0 + i)), some (.int n), some (.int so), some (.ref q), some (.ref l), u7, u8, u9] ∧ LS Tt p dc q xs0 es0 H' ∧ H' l = some (.lst ys) ∧ Paired (TieAt H') ys os ∧ ys.length = 5 ∧ (∀ e ∈ os, TieB e)) ?nxa fun N2 hN2 => ?sta
        case sta =>
          refine ⟨z3, fun t1 a1 => ⟨_, rfl, z3, fun t2 a2 => ⟨_, rfl, z3, fun t3 a3 => ⟨_, rfl, z3, fun t4 a4 => ⟨_, rfl, _, _, rfl, rfl, pos, z3, fun t5 a5 => ⟨z5, fun l b => ?_⟩⟩⟩⟩⟩⟩
          have s5 := Same.new (o := .lst [.ref t1, .ref t2, .ref t3, .ref t4, .ref t5]) b
          have s4 := (Same.new a5).trans s5
          have s3 := (Same.new a4).trans s4
          have s2' := (Same.new a3).trans s3
          have s1' := (Same.new a2).trans s2'
          have s0' := (Same.new a1).trans s1'
          refine hN2 _ _ ⟨l, _, [(0, 0, 1), (0, so, 1), (-1, 0, 0), (so, 0, 1), (0, 1 % so, 1000000)], rfl, La.same s0', upd_same, .cons ⟨t1, rfl, s1' _ _ upd_same⟩ (.cons ⟨t2, rfl, s2' _ _ upd_same⟩ (.cons ⟨t3, rfl, s3 _ _ upd_same⟩ (.cons ⟨t4, rfl, s4 _ _ upd_same⟩ (.cons ⟨t5, rfl, s5 _ _ upd_same⟩ .nil)))), rfl, ?_⟩
          intro e he
          simp only [List.mem_cons, List.not_mem_nil, or_false] at he
          rcases he with rfl | rfl | rfl | rfl | rfl
          all_goals (refine ⟨?_, ?_, ?_⟩ <;> (unfold TxI; dsimp only; omega))
        rintro σ' Hb ⟨l, ys, os, rfl, Lb, hl, po, yl, ot⟩
        clear La Da Ha
        try dsimp only [gName]
        refine seq_by (fun σ' H' => ∃ l ys os, σ' = [some (.ref sa), some (.ref p), some (.int (0 + i)), some (.int n), some (.int so), some (.ref q), some (.ref l), u7, u8, u9] ∧ LS Tt p dc q xs0 es0 H' ∧ H' l = some (.lst ys) ∧ Paired (TieAt H') ys os ∧ ys.length = 8 ∧ (∀ e ∈ os, TieB e)) ?nxb fun N2 hN2 => ?stb
        case stb =>
          refine ⟨_, rfl, _, rfl, _, _, rfl, rfl, pos, _, rfl, z3, fun t6 a6 => ⟨_, rfl, p, dc, rfl, (Lb.same (Same.new a6)).D, fun x7 H7 x7a x7b D7 b7 => ⟨z3, fun t7 a7 => ⟨_, rfl, _, _, rfl, rfl, pos, _, rfl, p, dc, rfl, D7.new a7, fun x8 H8 x8a x8b D8 b8 => ⟨z3, fun t8 a8 => ⟨z3, fun l2 c2 => ?_⟩⟩⟩⟩⟩⟩
          have X0 : LX Tt p dc q xs0 es0 l ys os [] [] Hb := ⟨Lb, hl, po, .nil⟩
          have X1 := X0.new (0, 1 % (so : Int), -1000000) a6
          have X2 := X1.but D7 b7
          have X3 := X2.new (0, x7, 0) a7
          have X4 := X3.but D8 b8
          have X5 := X4.new (0, 1 % (so : Int), x8) a8
          have X6 := X5.same (Same.new (o := .lst [.ref t6, .ref t7, .ref t8]) c2)
          refine ⟨l, l2, ys, _, rfl, rfl, X6.hl, upd_same, Nat.le_trans (show ys.length + 3 ≤ 8 by omega) (by decide), fun l3 c3 => ?_⟩
          have X7 := X6.same (Same.new (o := .lst (ys ++ [.ref t6, .ref t7, .ref t8])) c3)
          refine hN2 _ _ ⟨l3, _, os ++ [(0, 1 % (so : Int), -1000000), (0, x7, 0), (0, 1 % (so : Int), x8)], rfl, X7.s, upd_same, Paired.app X7.pr X7.po, by rw [List.length_append, yl]; rfl, ?_⟩
          intro e he
          rcases List.mem_append.mp he with he | he
          · exact ot e he
          · simp only [List.mem_cons, List.not_mem_nil, or_false] at he
            rcases he with rfl | rfl | rfl
            all_goals (refine ⟨?_, ?_, ?_⟩ <;> (unfold TxI; dsimp only; omega))
        rintro σ' Hc ⟨l2, zs, ps2, rfl, Lc, hl2, pz, zl, pt⟩
        clear Lb hl po ot yl
        have xl := Paired.length Lc.pe
        refine ⟨_, rfl, .inl ⟨rfl, _, SqL.of Lc.hq⟩, _, rfl, _, rfl, q, _, rfl, .inl (SqL.of Lc.hq), _, _, rfl, rfl, p, dc, _, rfl, Lc.D, by omega, by omega, fun r Hd r0 r1 Dd bd => ?_⟩
        have X0 : LX Tt p dc q xs0 es0 l2 zs ps2 [] [] Hc := ⟨Lc, hl2, pz, .nil⟩
        have X1 := X0.but Dd bd
        obtain ⟨kk, rfl⟩ := Int.eq_ofNat_of_zero_le r0
        refine ⟨_, rfl, _, rfl, p, dc, l2, zs, rfl, Dd, SqL.of X1.hl, (fun z => by rw [z] at zl; cases zl), by omega, fun x He hx De be => ?_⟩
        have X2 := X1.but De be
        obtain ⟨e, he, te⟩ := ties_mem X2.po hx
        refine ⟨q, _, kk, _, rfl, rfl, X2.s.hq, by omega, by omega, ?_⟩
        refine hN _ _ ⟨_, es0.take kk ++ e :: es0.drop kk, _, rfl, X2.s.ins (Paired.ins te kk X2.s.pe), ?_, fun e' he' => ?_⟩
        · rw [List.length_append, List.length_take, List.length_cons, List.length_drop]; omega
        · rcases List.mem_append.mp he' with he' | he'
          · exact tb0' _ (List.mem_of_mem_take he')
          · rcases List.mem_cons.mp he' with rfl | he'
            · exact pt _ he
            · exact tb0' _ (List.mem_of_mem_drop he')
      rintro σ' H4 ⟨xs, es, v6, rfl, L4, el, tb⟩
      clear L3 el0 tb0' es0 xs0 H3
      -- top
      try dsimp only [gName]
      refine seq_by (fun σ' H' => ∃ m : Int, σ' = [some (.ref sa), some (.ref p), some (.int (0 + i)), some (.int n), some (.int so), some (.ref q), v6, some (.int m), u8, u9] ∧ TxI m ∧ LS Tt p dc q xs es H') ?nx4 fun N hN => ?st4
      case st4 =>
        have c1 : CPow 10 12 := ⟨by decide, by decide, by decide⟩
        have p1 : (10 : Int) ^ (12 : Int).toNat = 1000000000000 := by decide
        refine ⟨_, rfl, _, _, rfl, rfl, c1, _, rfl, _, _, rfl, rfl, c1, _, _, rfl, rfl, _, rfl, p, dc, rfl, L4.D, fun z Ha z0 z1 Da ba => ⟨z6, fun l hl => ⟨p, dc, l, _, rfl, Da.new hl, SqL.of upd_same, by simp, by simp, fun x Hb hx Db bb => ?_⟩⟩⟩
        have Lb := ((L4.but Da ba).same (Same.new hl)).but Db bb
        have : ∃ n, x = .int n ∧ TxI n := by
          have F0 : (Far : Int) = 1000000000000000000000000000000 := rfl
          simp only [List.mem_cons, List.not_mem_nil, or_false, p1] at hx
          rcases hx with rfl | rfl | rfl | rfl | rfl | rfl
          all_goals exact ⟨_, rfl, by unfold TxI; omega⟩
        obtain ⟨m, rfl, tm⟩ := this
        exact hN _ _ ⟨m, rfl, tm, Lb⟩
      rintro σ' H5 ⟨m, rfl, tm, L5⟩
      clear L4 H4
      -- due
      try dsimp only [gName]
      refine seq_by (fun σ' H' => σ' = [some (.ref sa), some (.ref p), some (.int (0 + i)), some (.int n), some (.int so), some (.ref q), v6, some (.int m), some (.str ""), u9] ∧ H5 = H') ?nx5 fun N hN => ?st5
      case st5 =>
        exact hN _ _ ⟨rfl, rfl⟩
      rintro σ' H5 ⟨rfl, rfl⟩
      try dsimp only [gName]
      refine seq_by (fun σ' H' => σ' = [some (.ref sa), some (.ref p), some (.int (0 + i)), some (.int n), some (.int so), some (.ref q), v6, some (.int m), some (.str (wdO (rC n es m))), u9] ∧ LS Tt p dc q xs es H') ?nx6 fun N hN => ?st6
      case st6 =>
        have c1 : CPow 10 12 := ⟨by decide, by decide, by decide⟩
        have p1 : (10 : Int) ^ (12 : Int).toNat = 1000000000000 := by decide
        refine EvT.iff (EvT.not (EvT.test (EvE.chain EvE.con (EvE.var rfl) EvE.con EvR.i0 EvR.i0))) (ite2 (fun h => ?_) (fun h => ?_))
        · have e : rC n es m = some 0 := by
            unfold rC
            rw [if_neg]
            intro z
            simp [z.1, z.2] at h
          exact hN _ _ ⟨by rw [e]; rfl, L5⟩
        · have h1 : 1 ≤ n ∧ n ≤ 6 := by simpa using h
          clear h
          have xl := Paired.length L5.pe
          refine ⟨_, rfl, q, rfl, ⟨_, SqL.of L5.hq⟩, ?_⟩
          refine comp_list (K := K) (a := q) (xs := xs) (fun j ys σ' H' => H' = H5 ∧ (∃ v, σ' = [v, some (.int n)]) ∧ ys = (es.take j).map (fun e => V.bl (okB n e))) (Nat.le_trans (show xs.length ≤ 100 by omega) (by decide)) ⟨rfl, ⟨none, rfl⟩, rfl⟩ (fun j ys σ H' _ e => by rw [e.1]; exact SqL.of L5.hq) ?_ ?_
          · rintro j x ys σ' H' hj hy ⟨rfl, ⟨v, rfl⟩, rfl⟩ N2 hN2
            obtain ⟨e, he, b, rfl, hb⟩ := ties_get L5.pe hj
            refine ⟨_, rfl, _, rfl, b, n, e, rfl, hb, hN2 _ _ _ (by rw [List.length_append, hy]; rfl) ⟨rfl, ⟨_, rfl⟩, ?_⟩⟩
            rw [List.take_add_one, he, List.map_append]
            rfl
          · rintro ys σ' H' hy ⟨rfl, ⟨v, rfl⟩, rfl⟩
            refine ⟨by rw [hy]; exact Nat.le_trans (show xs.length ≤ 100 by omega) (by decide), fun a ha => ?_⟩
            have La := L5.same (Same.new (o := .lst ((es.take xs.length).map (fun e => V.bl (okB n e)))) ha)
            have ea : (es.map (okB n)).all id = es.all (okB n) := by rw [List.all_map]; rfl
            refine ⟨a, es.map (okB n), rfl, SqL.of (by rw [upd_same, xl, List.take_length, List.map_map]; rfl), _, rfl, ite2 (fun h2 => ?_) (fun h2 => ?_)⟩
            · have e : rC n es m = some 1 := by
                unfold rC
                rw [if_pos h1, if_neg]
                intro z
                dsimp only at h2
                rw [ea, z] at h2
                cases h2
              exact hN _ _ ⟨by rw [e]; rfl, La⟩
            · have h2' : es.all (okB n) = true := by
                dsimp only at h2
                rw [ea] at h2
                simpa using h2
              refine EvT.iff (EvT.not (EvT.test (EvE.chain EvE.con (EvE.var rfl) (EvE.op EvE.con EvE.con (fun Q q => ⟨10, 12, rfl, rfl, c1, q⟩)) EvR.i0 EvR.i0))) (ite2 (fun h3 => ?_) (fun h3 => ?_))
              · have e : rC n es m = some 0 := by
                  unfold rC
                  rw [if_pos h1, if_pos h2', if_neg]
                  intro z
                  rw [p1] at h3
                  simp [z.1, z.2] at h3
                exact hN _ _ ⟨by rw [e]; rfl, La⟩
              · have e : rC n es m = none := by
                  unfold rC
                  rw [if_pos h1, if_pos h2', if_pos]
                  rw [p1] at h3
                  simpa using h3
                exact hN _ _ ⟨by rw [e]; rfl, La⟩
      rintro σ' H6 ⟨rfl, L6⟩
      clear L5
      -- the askings
      try dsimp only [gName]
      refine seq_by (fun σ' H' => ∃ w, σ' = [some (.ref sa), some (.ref p), some (.int (0 + i)), some (.int n), some (.int so), some (.ref q), v6, some (.int m), some (.str (wdO (rC n es m))), some (.ref w)] ∧ LS Tt p dc q xs es H' ∧ H' w = some (.lst [.str (wdO (rC n es m))]) ∧ w ≠ q ∧ w ≠ dc) ?nx7 fun N hN => ?st7
      case st7 =>
        refine ⟨L6.tb.tab (List.mem_cons_self ..), fun c' Hl lm f' ctv hf' => ?_⟩
        try dsimp only [tNil]
        refine ask_step (L := lam1) (σ := [some (.ref sa), some (.ref p), some (.int (0 + i)), some (.int n), some (.int so), some (.ref q), v6, some (.int m), some (.str (wdO (rC n es m))), u9]) (by rfl) rfl rfl rfl tn tm (by omega) tb L6 lm hf' fun l v H' L' k' hl => ?_
        refine ⟨l, _, _, _, rfl, rfl, SqL.of hl, atI_nat (j := 0) rfl, (show 1 ≤ sizeLine by decide), fun w hw => ?_⟩
        refine hN _ _ ⟨w, rfl, L'.same (Same.new hw), upd_same, ?_, ?_⟩
        · rintro rfl
          rw [L'.hq] at hw; cases hw
        · rintro rfl
          obtain ⟨ys, h⟩ := L'.D.cell
          rw [hw] at h; cases h
      rintro σ' H7 ⟨w, rfl, L7, hw7, wq, wd⟩
      clear L6 H6
      refine seq_by (fun σ' H' => σ' = [some (.ref sa), some (.ref p), some (.int (0 + i)), some (.int n), some (.int so), some (.ref q), v6, some (.int m), some (.str (wdO (rC n es m))), some (.ref w)] ∧ LS Tt p dc q xs es H' ∧ H' w = some (.lst [.str (wdO (rC n es m)), .str (wdO (rC n es m))])) ?nx8 fun N hN => ?st8
      case st8 =>
        refine ⟨_, rfl, .inl ⟨rfl, _, SqL.of hw7⟩, ?_⟩
        refine ⟨L7.tb.tab (List.mem_cons_of_mem _ (List.mem_cons_self ..)), fun c' Hl lm f' ctv hf' => ?_⟩
        try dsimp only [tNil]
        refine ask_step (L := lam2) (σ := [some (.ref sa), some (.ref p), some (.int (0 + i)), some (.int n), some (.int so), some (.ref q), v6, some (.int m), some (.str (wdO (rC n es m))), some (.ref w)]) (by rfl) rfl rfl rfl tn tm (by omega) tb L7 lm hf' fun l v H' L' k' hl => ?_
        have hw' := k' _ _ hw7 (by intro _ z; cases z)
        refine ⟨l, _, _, _, rfl, rfl, SqL.of hl, atI_nat (j := 0) rfl, w, _, _, rfl, rfl, hw', (show 1 < sizeLine by decide), ?_⟩
        exact hN _ _ ⟨rfl, L'.put hw' wq wd, upd_same⟩
      rintro σ' H8 ⟨rfl, L8, hw8⟩
      clear L7 hw7 H7
      refine seq_by (fun σ' H' => σ' = [some (.ref sa), some (.ref p), some (.int (0 + i)), some (.int n), some (.int so), some (.ref q), v6, some (.int m), some (.str (wdO (rC n es m))), some (.ref w)] ∧ LS Tt p dc q xs es H' ∧ H' w = some (.lst [.str (wdO (rC n es m)), .str (wdO (rC n es m)), .str (wdO (rC n es m))])) ?nx9 fun N hN => ?st9
      case st9 =>
        refine ⟨_, rfl, .inl ⟨rfl, _, SqL.of hw8⟩, ?_⟩
        refine ⟨L8.tb.tab (List.mem_cons_of_mem _ (List.mem_cons_of_mem _ (List.mem_cons_self ..))), fun c' Hl lm f' ctv hf' => ?_⟩
        try dsimp only [tNil]
        refine ask_step (L := lam3) (σ := [some (.ref sa), some (.ref p), some (.int (0 + i)), some (.int n), some (.int so), some (.ref q), v6, some (.int m), some (.str (wdO (rC n es m))), some (.ref w)]) (by rfl) rfl rfl rfl tn tm (by omega) tb L8 lm hf' fun l v H' L' k' hl => ?_
        have hw' := k' _ _ hw8 (by intro _ z; cases z)
        refine ⟨l, _, _, _, rfl, rfl, SqL.of hl, atI_nat (j := 0) rfl, w, _, _, rfl, rfl, hw', (show 2 < sizeLine by decide), ?_⟩
        exact hN _ _ ⟨rfl, L'.put hw' wq wd, upd_same⟩
      rintro σ' H9 ⟨rfl, L9, hw9⟩
      clear L8 hw8 H8
      refine ⟨_, rfl, _, rfl, _, rfl, _, rfl, z3, fun l hl => ?_⟩
      have d1 : Rep K (upd H9 l (.lst [.str (wdO (rC n es m)), .str (wdO (rC n es m)), .str (wdO (rC n es m))])) (.ref w) (.list [.str (wdO (rC n es m)), .str (wdO (rC n es m)), .str (wdO (rC n es m))]) := .lst (SqL.of (Same.new hl _ _ hw9)) (.cons (.str _) (.cons (.str _) (.cons (.str _) .nil)))
      have d2 : Rep K (upd H9 l (.lst [.str (wdO (rC n es m)), .str (wdO (rC n es m)), .str (wdO (rC n es m))])) (.ref l) (.list [.str (wdO (rC n es m)), .str (wdO (rC n es m)), .str (wdO (rC n es m))]) := .lst (SqL.of upd_same) (.cons (.str _) (.cons (.str _) (.cons (.str _) .nil)))
      refine ⟨_, _, d1, d2, by simp [pdDeps, pdDep], _, rfl, ifF (by simp [pdEqs, pdEq]) ?_⟩
      have La := L9.same (Same.new (o := .lst [.str (wdO (rC n es m)), .str (wdO (rC n es m)), .str (wdO (rC n es m))]) hl)
      exact ⟨⟨_, _, _, _, _, _, _, _, rfl⟩, La.D, La.tb⟩
    · rintro σ H1 ⟨⟨u2, u3, u4, u5, u6, u7, u8, u9, rfl⟩, D1, tb1⟩
      exact k _
end
end Cm

set_option Elab.async false
set_option linter.all false
set_option maxRecDepth 100000
set_option maxHeartbeats 8000000
namespace Cm
open PySem L2 PySem.W
/-! ### what the top has written -/
def xbm (B : String) : List Value := [.type B, .type "Exception", .type "BaseException", .type "object"]
theorem rl_ve (self : Value) : refuseLoop self "__setattr__" (xbm "ValueError") = pure () := by kernel_rfl
theorem rl_le (self : Value) : refuseLoop self "__setattr__" (xbm "LookupError") = pure () := by kernel_rfl
def xcd (K : Frag) (C : Addr) (rs : List Addr) (bm : List Value) : Bool := match clsIn K C with
  | some cd => cd.hasDict && (cd.mro == rs.map Value.ref ++ bm)
  | none => false
theorem xcls_of {K : Frag} {C : Addr} {B n : String} {rs : List Addr} (h1 : makesX K C B n = true) (h2 : findIn K (.ref C) "__setattr__" = some (some (.builtin "object.__setattr__"))) (h3 : xcd K C rs (xbm B) = true) (h4 : keepIn K (.ref C) = true) (h5 : typeIn K (.ref C) = some (.type "type"))
    (hr : ∀ self, refuseLoop self "__setattr__" (xbm B) = pure ()) : XCls K C B n := by
  refine ⟨h1, h2, ?_, h4, h5⟩
  unfold xcd at h3
  split at h3
  · rename_i cd hc
    rw [Bool.and_eq_true, beq_iff_eq] at h3
    refine ⟨cd, rs, xbm B, hc, h3.1, h3.2, by simp [xbm], hr, ?_⟩
    unfold xbm
    simp
  · cases h3
theorem all_mk {l : PySem.W.OpenLaw} {w : World} {K : PySem.W.Frag} {h : Heap} {mg : Str → Option Value} {fa fLa Tt cc fB fP fO fFr fTi fTk fA fNL fNT fNM fNA fBo fRa fRb fAm fRi fMe qS qV qM fSE TS qZ fiZ TdZ qT fiT TdT : Addr} (X : K.In h) (G : h.Ns mainGlobals mg) (hfa : mg "law" = some (.ref fa))
    {odLa anLa odcc odB anB odP anP odO anO odFr anFr odTi anTi odTk anTk odA anA odNL anNL odNT anNT odNM anNM odNA anNA odBo anBo odRa anRa odRb anRb odAm anAm odRi anRi odMe anMe odSE anSE odTS odiZ aniZ odTZ odiT aniT odTT : Option Addr} {slLa slcc slB slP slO slFr slTi slTk slA slNL slNT slNM slNA slBo slRa slRb slAm slRi slMe slSE slTS sliZ slTZ sliT slTT : Array (Option Value)} {t1 t2 t3 t4 nTS nTZ nTT : Nat} {ocLa kVLa dcLa pmLa ctLa w0 w1 w2 w3 w4 w5 w6 w7 w8 w9 w10 w12 w13 w14 w15 w16 w17 w18 occ ocB kVB dcB pmB cdB ctB ocP kVP dcP pmP cdP ctP ocO kVO dcO pmO cdO ctO ocFr kVFr dcFr pmFr cdFr ctFr ocTi kVTi dcTi pmTi cdTi ctTi ocTk kVTk dcTk pmTk cdTk ctTk ocA kVA dcA pmA cdA ctA ocNL kVNL dcNL pmNL cdNL ctNL ocNT kVNT dcNT pmNT cdNT ctNT ocNM kVNM dcNM pmNM cdNM ctNM ocNA kVNA dcNA pmNA cdNA ctNA ocBo kVBo dcBo pmBo cdBo ctBo ocRa kVRa dcRa pmRa cdRa ctRa ocRb kVRb dcRb pmRb cdRb ctRb ocAm kVAm dcAm pmAm cdAm ctAm ocRi kVRi dcRi pmRi cdRi ctRi ocMe kVMe dcMe pmMe cdMe ctMe ocSE kVSE dcSE pmSE cdSE ctSE dS1 dS2 ocTS ociZ kViZ dciZ pmiZ cdiZ ctiZ diZ ocTZ ociT kViT dciT pmiT cdiT ctiT diT ocTT : Value}
    (aLa : PySem.W.nsIn K mainGlobals "law" = some (some (.ref fLa)))
    (lLa : K.lookup fLa = some ⟨ocLa, odLa, .func (PySem.W.fnOf "law" "law" (defArgs (top 30)) (defBody (top 30)) (defScope (top 30)) .none kVLa dcLa pmLa anLa (.ref cc) ctLa), slLa⟩)
    (lcc : K.lookup cc = some ⟨occ, odcc, .fields #[w0, w1, w2, w3, w4, w5, w6, w7, w8, w9, w10, .ref Tt, w12, w13, w14, w15, w16, w17, w18], slcc⟩)
    (lTt : K.lookup Tt = none)
    (tb : L2.tabIn K cc = some Tt)
    (cLa : PySem.W.codeIn K (.ref cc) "law" = true)
    (aB : PySem.W.nsIn K mainGlobals "_law_begin" = some (some (.ref fB)))
    (lB : K.lookup fB = some ⟨ocB, odB, .func (PySem.W.fnOf "_law_begin" "_law_begin" (defArgs (top 23)) (defBody (top 23)) (defScope (top 23)) .none kVB dcB pmB anB cdB ctB), slB⟩)
    (cB : PySem.W.codeIn K cdB "_law_begin" = true)
    (kB : PySem.W.keepIn K (.ref fB) = true)
    (aP : PySem.W.nsIn K mainGlobals "_law_pick" = some (some (.ref fP)))
    (lP : K.lookup fP = some ⟨ocP, odP, .func (PySem.W.fnOf "_law_pick" "_law_pick" (defArgs (top 24)) (defBody (top 24)) (defScope (top 24)) .none kVP dcP pmP anP cdP ctP), slP⟩)
    (cP : PySem.W.codeIn K cdP "_law_pick" = true)
    (kP : PySem.W.keepIn K (.ref fP) = true)
    (aO : PySem.W.nsIn K mainGlobals "_law_of" = some (some (.ref fO)))
    (lO : K.lookup fO = some ⟨ocO, odO, .func (PySem.W.fnOf "_law_of" "_law_of" (defArgs (top 25)) (defBody (top 25)) (defScope (top 25)) .none kVO dcO pmO anO cdO ctO), slO⟩)
    (cO : PySem.W.codeIn K cdO "_law_of" = true)
    (kO : PySem.W.keepIn K (.ref fO) = true)
    (aFr : PySem.W.nsIn K mainGlobals "_law_far" = some (some (.ref fFr)))
    (lFr : K.lookup fFr = some ⟨ocFr, odFr, .func (PySem.W.fnOf "_law_far" "_law_far" (defArgs (top 26)) (defBody (top 26)) (defScope (top 26)) .none kVFr dcFr pmFr anFr cdFr ctFr), slFr⟩)
    (cFr : PySem.W.codeIn K cdFr "_law_far" = true)
    (kFr : PySem.W.keepIn K (.ref fFr) = true)
    (aTi : PySem.W.nsIn K mainGlobals "_law_ties" = some (some (.ref fTi)))
    (lTi : K.lookup fTi = some ⟨ocTi, odTi, .func (PySem.W.fnOf "_law_ties" "_law_ties" (defArgs (top 28)) (defBody (top 28)) (defScope (top 28)) .none kVTi dcTi pmTi anTi cdTi ctTi), slTi⟩)
    (cTi : PySem.W.codeIn K cdTi "_law_ties" = true)
    (kTi : PySem.W.keepIn K (.ref fTi) = true)
    (aTk : PySem.W.nsIn K mainGlobals "_law_tie_ok" = some (some (.ref fTk)))
    (lTk : K.lookup fTk = some ⟨ocTk, odTk, .func (PySem.W.fnOf "_law_tie_ok" "_law_tie_ok" (defArgs (top 29)) (defBody (top 29)) (defScope (top 29)) .none kVTk dcTk pmTk anTk cdTk ctTk), slTk⟩)
    (cTk : PySem.W.codeIn K cdTk "_law_tie_ok" = true)
    (kTk : PySem.W.keepIn K (.ref fTk) = true)
    (aA : PySem.W.nsIn K mainGlobals "_law_ask" = some (some (.ref fA)))
    (lA : K.lookup fA = some ⟨ocA, odA, .func (PySem.W.fnOf "_law_ask" "_law_ask" (defArgs (top 27)) (defBody (top 27)) (defScope (top 27)) .none kVA dcA pmA anA cdA ctA), slA⟩)
    (cA : PySem.W.codeIn K cdA "_law_ask" = true)
    (kA : PySem.W.keepIn K (.ref fA) = true)
    (aNL : PySem.W.nsIn K mainGlobals "need_lanes" = some (some (.ref fNL)))
    (lNL : K.lookup fNL = some ⟨ocNL, odNL, .func (PySem.W.fnOf "need_lanes" "need_lanes" (defArgs (top 12)) (defBody (top 12)) (defScope (top 12)) .none kVNL dcNL pmNL anNL cdNL ctNL), slNL⟩)
    (cNL : PySem.W.codeIn K cdNL "need_lanes" = true)
    (kNL : PySem.W.keepIn K (.ref fNL) = true)
    (aNT : PySem.W.nsIn K mainGlobals "need_ties" = some (some (.ref fNT)))
    (lNT : K.lookup fNT = some ⟨ocNT, odNT, .func (PySem.W.fnOf "need_ties" "need_ties" (defArgs (top 13)) (defBody (top 13)) (defScope (top 13)) .none kVNT dcNT pmNT anNT cdNT ctNT), slNT⟩)
    (cNT : PySem.W.codeIn K cdNT "need_ties" = true)
    (kNT : PySem.W.keepIn K (.ref fNT) = true)
    (aNM : PySem.W.nsIn K mainGlobals "need_most" = some (some (.ref fNM)))
    (lNM : K.lookup fNM = some ⟨ocNM, odNM, .func (PySem.W.fnOf "need_most" "need_most" (defArgs (top 14)) (defBody (top 14)) (defScope (top 14)) .none kVNM dcNM pmNM anNM cdNM ctNM), slNM⟩)
    (cNM : PySem.W.codeIn K cdNM "need_most" = true)
    (kNM : PySem.W.keepIn K (.ref fNM) = true)
    (aNA : PySem.W.nsIn K mainGlobals "need_all" = some (some (.ref fNA)))
    (lNA : K.lookup fNA = some ⟨ocNA, odNA, .func (PySem.W.fnOf "need_all" "need_all" (defArgs (top 15)) (defBody (top 15)) (defScope (top 15)) .none kVNA dcNA pmNA anNA cdNA ctNA), slNA⟩)
    (cNA : PySem.W.codeIn K cdNA "need_all" = true)
    (kNA : PySem.W.keepIn K (.ref fNA) = true)
    (aBo : PySem.W.nsIn K mainGlobals "bounds" = some (some (.ref fBo)))
    (lBo : K.lookup fBo = some ⟨ocBo, odBo, .func (PySem.W.fnOf "bounds" "bounds" (defArgs (top 16)) (defBody (top 16)) (defScope (top 16)) .none kVBo dcBo pmBo anBo cdBo ctBo), slBo⟩)
    (cBo : PySem.W.codeIn K cdBo "bounds" = true)
    (kBo : PySem.W.keepIn K (.ref fBo) = true)
    (aRa : PySem.W.nsIn K mainGlobals "raised" = some (some (.ref fRa)))
    (lRa : K.lookup fRa = some ⟨ocRa, odRa, .func (PySem.W.fnOf "raised" "raised" (defArgs (top 17)) (defBody (top 17)) (defScope (top 17)) .none kVRa dcRa pmRa anRa cdRa ctRa), slRa⟩)
    (cRa : PySem.W.codeIn K cdRa "raised" = true)
    (kRa : PySem.W.keepIn K (.ref fRa) = true)
    (aRb : PySem.W.nsIn K mainGlobals "ring_behind" = some (some (.ref fRb)))
    (lRb : K.lookup fRb = some ⟨ocRb, odRb, .func (PySem.W.fnOf "ring_behind" "ring_behind" (defArgs (top 20)) (defBody (top 20)) (defScope (top 20)) .none kVRb dcRb pmRb anRb cdRb ctRb), slRb⟩)
    (cRb : PySem.W.codeIn K cdRb "ring_behind" = true)
    (kRb : PySem.W.keepIn K (.ref fRb) = true)
    (aAm : PySem.W.nsIn K mainGlobals "amounts" = some (some (.ref fAm)))
    (lAm : K.lookup fAm = some ⟨ocAm, odAm, .func (PySem.W.fnOf "amounts" "amounts" (defArgs (top 18)) (defBody (top 18)) (defScope (top 18)) .none kVAm dcAm pmAm anAm cdAm ctAm), slAm⟩)
    (cAm : PySem.W.codeIn K cdAm "amounts" = true)
    (kAm : PySem.W.keepIn K (.ref fAm) = true)
    (aRi : PySem.W.nsIn K mainGlobals "ring" = some (some (.ref fRi)))
    (lRi : K.lookup fRi = some ⟨ocRi, odRi, .func (PySem.W.fnOf "ring" "ring" (defArgs (top 19)) (defBody (top 19)) (defScope (top 19)) .none kVRi dcRi pmRi anRi cdRi ctRi), slRi⟩)
    (cRi : PySem.W.codeIn K cdRi "ring" = true)
    (kRi : PySem.W.keepIn K (.ref fRi) = true)
    (aMe : PySem.W.nsIn K mainGlobals "meets" = some (some (.ref fMe)))
    (lMe : K.lookup fMe = some ⟨ocMe, odMe, .func (PySem.W.fnOf "meets" "meets" (defArgs (top 21)) (defBody (top 21)) (defScope (top 21)) .none kVMe dcMe pmMe anMe cdMe ctMe), slMe⟩)
    (cMe : PySem.W.codeIn K cdMe "meets" = true)
    (kMe : PySem.W.keepIn K (.ref fMe) = true)
    (z_len : PySem.W.nsIn K mainGlobals "len" = some none)
    (z_range : PySem.W.nsIn K mainGlobals "range" = some none)
    (z_list : PySem.W.nsIn K mainGlobals "list" = some none)
    (z_tuple : PySem.W.nsIn K mainGlobals "tuple" = some none)
    (z_str : PySem.W.nsIn K mainGlobals "str" = some none)
    (z_bool : PySem.W.nsIn K mainGlobals "bool" = some none)
    (z_int : PySem.W.nsIn K mainGlobals "int" = some none)
    (z_min : PySem.W.nsIn K mainGlobals "min" = some none)
    (z_repr : PySem.W.nsIn K mainGlobals "repr" = some none)
    (z_all : PySem.W.nsIn K mainGlobals "all" = some none)
    (z_any : PySem.W.nsIn K mainGlobals "any" = some none)
    (z_isinstance : PySem.W.nsIn K mainGlobals "isinstance" = some none)
    (z_ValueError : PySem.W.nsIn K mainGlobals "ValueError" = some none)
    (z_max : PySem.W.nsIn K mainGlobals "max" = some none)
    (m1 : PySem.W.nsIn K mainGlobals "LIMIT" = some (some (.int 999999 t1)))
    (m2 : PySem.W.nsIn K mainGlobals "MOST_LANES" = some (some (.int 6 t2)))
    (m3 : PySem.W.nsIn K mainGlobals "HIGHEST_MOST" = some (some (.int 1000000000000 t3)))
    (m4 : PySem.W.nsIn K mainGlobals "GROUND" = some (some (.int (-1) t4)))
    (a_qS : PySem.W.nsIn K mainGlobals "ScribeError" = some (some (.ref qS)))
    (a_qV : PySem.W.nsIn K mainGlobals "BadValue" = some (some (.ref qV)))
    (a_qM : PySem.W.nsIn K mainGlobals "Missing" = some (some (.ref qM)))
    (x1S : makesX K qS "ValueError" "ValueError.__new__" = true)
    (x2S : PySem.W.findIn K (.ref qS) "__setattr__" = some (some (.builtin "object.__setattr__")))
    (x3S : xcd K qS [qS] (xbm "ValueError") = true)
    (x4S : PySem.W.keepIn K (.ref qS) = true)
    (x5S : PySem.W.typeIn K (.ref qS) = some (.type "type"))
    (x1V : makesX K qV "ValueError" "ValueError.__new__" = true)
    (x2V : PySem.W.findIn K (.ref qV) "__setattr__" = some (some (.builtin "object.__setattr__")))
    (x3V : xcd K qV [qV, qS] (xbm "ValueError") = true)
    (x4V : PySem.W.keepIn K (.ref qV) = true)
    (x5V : PySem.W.typeIn K (.ref qV) = some (.type "type"))
    (x1M : makesX K qM "LookupError" "LookupError.__new__" = true)
    (x2M : PySem.W.findIn K (.ref qM) "__setattr__" = some (some (.builtin "object.__setattr__")))
    (x3M : xcd K qM [qM] (xbm "LookupError") = true)
    (x4M : PySem.W.keepIn K (.ref qM) = true)
    (x5M : PySem.W.typeIn K (.ref qM) = some (.type "type"))
    (aSE : PySem.W.findIn K (.ref qS) "__init__" = some (some (.ref fSE)))
    (lSE : K.lookup fSE = some ⟨ocSE, odSE, .func (PySem.W.fnOf "__init__" "ScribeError.__init__" (defArgs sSE) (defBody sSE) (defScope sSE) (.ref TS) kVSE dcSE pmSE anSE cdSE ctSE), slSE⟩)
    (cSE : PySem.W.codeIn K cdSE "ScribeError.__init__" = true)
    (kSE : PySem.W.keepIn K (.ref fSE) = true)
    (lTS : K.lookup TS = some ⟨ocTS, odTS, .seq #[dS1, dS2] nTS, slTS⟩)
    (fc : PySem.W.findCls K (.type "ValueError") (.type "type") "__init__" = some (.val (.builtin "ValueError.__init__")))
    (sg : PySem.W.specialIn K (.ref qS) "__getattribute__" = some (some (.builtin "type.__getattribute__")))
    (rd1 : PySem.W.readsIn K qS (.type "type") = true)
    (rd2 : PySem.W.findCls K (.ref qS) (.type "type") "__init__" = some (.val (.ref fSE)))
    (a_qZ : PySem.W.nsIn K mainGlobals "BadSize" = some (some (.ref qZ)))
    (x1Z : makesX K qZ "ValueError" "ValueError.__new__" = true)
    (x2Z : PySem.W.findIn K (.ref qZ) "__setattr__" = some (some (.builtin "object.__setattr__")))
    (x3Z : xcd K qZ [qZ, qS] (xbm "ValueError") = true)
    (x4Z : PySem.W.keepIn K (.ref qZ) = true)
    (x5Z : PySem.W.typeIn K (.ref qZ) = some (.type "type"))
    (tkZ : PySem.W.takerIn K qZ "word" = some none)
    (aiZ : PySem.W.findIn K (.ref qZ) "__init__" = some (some (.ref fiZ)))
    (liZ : K.lookup fiZ = some ⟨ociZ, odiZ, .func (PySem.W.fnOf "__init__" "BadSize.__init__" (defArgs sBadSize) (defBody sBadSize) (defScope sBadSize) (.ref TdZ) kViZ dciZ pmiZ aniZ cdiZ ctiZ), sliZ⟩)
    (ciZ : PySem.W.codeIn K cdiZ "BadSize.__init__" = true)
    (kiZ : PySem.W.keepIn K (.ref fiZ) = true)
    (biZ : PySem.W.findIn K (.ref qZ) "__init__" = some (some (.ref fiZ)))
    (niZ : PySem.W.isFn K (.ref fiZ) = true)
    (lTZ : K.lookup TdZ = some ⟨ocTZ, odTZ, .seq #[diZ] nTZ, slTZ⟩)
    (mvZ : PySem.W.mroIn K qZ (.ref qV) = some false)
    (msZ : PySem.W.mroIn K qZ (.ref qS) = some true)
    (g1Z : PySem.W.findIn K (.ref qZ) "__getattribute__" = some (some (.builtin "BaseException.__getattribute__")))
    (g2Z : PySem.W.findIn K (.ref qZ) "__getattr__" = some none)
    (g3Z : PySem.W.hasDictIn K qZ = true)
    (g4Z : PySem.W.findIn K (.ref qZ) "word" = some none)
    (g5Z : PySem.W.mroIn K qZ (.type "BaseException") = some true)
    (a_qT : PySem.W.nsIn K mainGlobals "BadTie" = some (some (.ref qT)))
    (x1T : makesX K qT "ValueError" "ValueError.__new__" = true)
    (x2T : PySem.W.findIn K (.ref qT) "__setattr__" = some (some (.builtin "object.__setattr__")))
    (x3T : xcd K qT [qT, qS] (xbm "ValueError") = true)
    (x4T : PySem.W.keepIn K (.ref qT) = true)
    (x5T : PySem.W.typeIn K (.ref qT) = some (.type "type"))
    (tkT : PySem.W.takerIn K qT "word" = some none)
    (aiT : PySem.W.findIn K (.ref qT) "__init__" = some (some (.ref fiT)))
    (liT : K.lookup fiT = some ⟨ociT, odiT, .func (PySem.W.fnOf "__init__" "BadTie.__init__" (defArgs sBadTie) (defBody sBadTie) (defScope sBadTie) (.ref TdT) kViT dciT pmiT aniT cdiT ctiT), sliT⟩)
    (ciT : PySem.W.codeIn K cdiT "BadTie.__init__" = true)
    (kiT : PySem.W.keepIn K (.ref fiT) = true)
    (biT : PySem.W.findIn K (.ref qT) "__init__" = some (some (.ref fiT)))
    (niT : PySem.W.isFn K (.ref fiT) = true)
    (lTT : K.lookup TdT = some ⟨ocTT, odTT, .seq #[diT] nTT, slTT⟩)
    (mvT : PySem.W.mroIn K qT (.ref qV) = some false)
    (msT : PySem.W.mroIn K qT (.ref qS) = some true)
    (g1T : PySem.W.findIn K (.ref qT) "__getattribute__" = some (some (.builtin "BaseException.__getattribute__")))
    (g2T : PySem.W.findIn K (.ref qT) "__getattr__" = some none)
    (g3T : PySem.W.hasDictIn K qT = true)
    (g4T : PySem.W.findIn K (.ref qT) "word" = some none)
    (g5T : PySem.W.mroIn K qT (.type "BaseException") = some true) :
    ∃ (fd : FuncData) (sp : Sp), (∀ (s : Shared) (u : Value), BindsTo s fd ⟨[u], []⟩ [("_law_script", u)]) ∧ (∀ T ∈ [Tt], K.lookup T = none ∧ ∃ c, L2.tabIn K c = some T) ∧
        (∀ (H : Hp) (a : Addr) (ns : List Int), ns.length ≤ 63 → (∀ T ∈ [Tt], H T = some (.tbl #[])) → SqL K H a (ns.map V.int) → sp [.ref a] H (fun v _ => v = .bl true) fun _ _ _ => False) ∧
        ∀ base : Heap, K.In base → base.Ns mainGlobals mg → (∀ T ∈ [Tt], base.BuiltinsAt mg T ∧ mainGlobals ≠ T) → FnOk l.prog w K mg base CX0 11 fa fd ["_law_script"] sp := by
  have e := hfa.symm.trans (PySem.W.mg_of X G aLa)
  cases e
  have T : Txt K mg := ⟨PySem.W.mg_none_of X G z_len, PySem.W.mg_none_of X G z_range, PySem.W.mg_none_of X G z_list, PySem.W.mg_none_of X G z_tuple, PySem.W.mg_none_of X G z_str, PySem.W.mg_none_of X G z_bool, PySem.W.mg_none_of X G z_int, PySem.W.mg_none_of X G z_min, PySem.W.mg_none_of X G z_repr, PySem.W.mg_none_of X G z_all, PySem.W.mg_none_of X G z_any, PySem.W.mg_none_of X G z_isinstance⟩
  have TC : TxtC mg := ⟨⟨_, PySem.W.mg_of X G m1⟩, ⟨_, PySem.W.mg_of X G m2⟩, ⟨_, PySem.W.mg_of X G m3⟩, ⟨_, PySem.W.mg_of X G m4⟩⟩
  have TE : TxtE K mg := ⟨PySem.W.mg_none_of X G z_ValueError, fc⟩
  have FB := fun_mk (st := top 23) lB cB kB
  have bB := FB.binds (ps := ["_law_script"]) fun _ _ _ _ _ _ us hl => by obtain ⟨_, rfl⟩ := len1 hl; rfl
  have FP := fun_mk (st := top 24) lP cP kP
  have bP := FP.binds (ps := ["_law_d", "_law_many"]) fun _ _ _ _ _ _ us hl => by obtain ⟨_, _, rfl⟩ := len2 hl; rfl
  have FO := fun_mk (st := top 25) lO cO kO
  have bO := FO.binds (ps := ["_law_d", "_law_things"]) fun _ _ _ _ _ _ us hl => by obtain ⟨_, _, rfl⟩ := len2 hl; rfl
  have FFr := fun_mk (st := top 26) lFr cFr kFr
  have bFr := FFr.binds (ps := ["_law_d"]) fun _ _ _ _ _ _ us hl => by obtain ⟨_, rfl⟩ := len1 hl; rfl
  have FTi := fun_mk (st := top 28) lTi cTi kTi
  have bTi := FTi.binds (ps := ["_law_d", "_law_lanes", "_law_wide"]) fun _ _ _ _ _ _ us hl => by obtain ⟨_, _, _, rfl⟩ := len3 hl; rfl
  have FTk := fun_mk (st := top 29) lTk cTk kTk
  have bTk := FTk.binds (ps := ["_law_tie", "_law_lanes"]) fun _ _ _ _ _ _ us hl => by obtain ⟨_, _, rfl⟩ := len2 hl; rfl
  have FA := fun_mk (st := top 27) lA cA kA
  have bA := FA.binds (ps := ["_law_ask_here"]) fun _ _ _ _ _ _ us hl => by obtain ⟨_, rfl⟩ := len1 hl; rfl
  have FNL := fun_mk (st := top 12) lNL cNL kNL
  have bNL := FNL.binds (ps := ["lanes"]) fun _ _ _ _ _ _ us hl => by obtain ⟨_, rfl⟩ := len1 hl; rfl
  have FNT := fun_mk (st := top 13) lNT cNT kNT
  have bNT := FNT.binds (ps := ["lanes", "ties"]) fun _ _ _ _ _ _ us hl => by obtain ⟨_, _, rfl⟩ := len2 hl; rfl
  have FNM := fun_mk (st := top 14) lNM cNM kNM
  have bNM := FNM.binds (ps := ["most"]) fun _ _ _ _ _ _ us hl => by obtain ⟨_, rfl⟩ := len1 hl; rfl
  have FNA := fun_mk (st := top 15) lNA cNA kNA
  have bNA := FNA.binds (ps := ["lanes", "ties", "most"]) fun _ _ _ _ _ _ us hl => by obtain ⟨_, _, _, rfl⟩ := len3 hl; rfl
  have FBo := fun_mk (st := top 16) lBo cBo kBo
  have bBo := FBo.binds (ps := ["lanes", "most"]) fun _ _ _ _ _ _ us hl => by obtain ⟨_, _, rfl⟩ := len2 hl; rfl
  have FRa := fun_mk (st := top 17) lRa cRa kRa
  have bRa := FRa.binds (ps := ["lanes", "ties"]) fun _ _ _ _ _ _ us hl => by obtain ⟨_, _, rfl⟩ := len2 hl; rfl
  have FRb := fun_mk (st := top 20) lRb cRb kRb
  have bRb := FRb.binds (ps := ["at", "raised_by", "many"]) fun _ _ _ _ _ _ us hl => by obtain ⟨_, _, _, rfl⟩ := len3 hl; rfl
  have FAm := fun_mk (st := top 18) lAm cAm kAm
  have FRi := fun_mk (st := top 19) lRi cRi kRi
  have FMe := fun_mk (st := top 21) lMe cMe kMe
  have FSE : FunD K "__init__" "ScribeError.__init__" sSE (.ref TS) fSE _ := ⟨⟨_, _, _, _, _, _, _, _, _, rfl, lSE, cSE⟩, kSE⟩
  have bSE := FSE.binds (ps := ["self", "words", "word"]) (ds := []) lTS rfl fun kV doc pm an cdv ct s us hT hl => (by rw [List.append_nil] at hl ⊢; obtain ⟨_, _, _, rfl⟩ := len3 hl; exact BindsTo.of_defaults rfl hT rfl rfl rfl)
  have MS : MkOf K mg "ScribeError" qS fSE := ⟨PySem.W.mg_of X G a_qS, sg, ⟨_, rd1, rd2⟩, kSE⟩
  have FiZ : FunD K "__init__" "BadSize.__init__" sBadSize (.ref TdZ) fiZ _ := ⟨⟨_, _, _, _, _, _, _, _, _, rfl, liZ, ciZ⟩, kiZ⟩
  have bbZ := FiZ.binds (ps := ["self", "words"]) (ds := []) lTZ rfl fun kV doc pm an cdv ct s us hT hl => (by rw [List.append_nil] at hl ⊢; obtain ⟨_, _, rfl⟩ := len2 hl; exact BindsTo.of_defaults rfl hT rfl rfl rfl)
  have ECZ : ECls K qZ := ⟨xcls_of x1Z x2Z x3Z x4Z x5Z rl_ve, tkZ⟩
  have WCZ : WCls K mg "BadSize" qZ fiZ _ := ⟨bbZ, PySem.W.mg_of X G a_qZ, ECZ, biZ, niZ⟩
  have FiT : FunD K "__init__" "BadTie.__init__" sBadTie (.ref TdT) fiT _ := ⟨⟨_, _, _, _, _, _, _, _, _, rfl, liT, ciT⟩, kiT⟩
  have bbT := FiT.binds (ps := ["self", "words"]) (ds := []) lTT rfl fun kV doc pm an cdv ct s us hT hl => (by rw [List.append_nil] at hl ⊢; obtain ⟨_, _, rfl⟩ := len2 hl; exact BindsTo.of_defaults rfl hT rfl rfl rfl)
  have ECT : ECls K qT := ⟨xcls_of x1T x2T x3T x4T x5T rl_ve, tkT⟩
  have WCT : WCls K mg "BadTie" qT fiT _ := ⟨bbT, PySem.W.mg_of X G a_qT, ECT, biT, niT⟩
  have TA : TxtA K mg qV qS qM := ⟨PySem.W.mg_none_of X G z_str, PySem.W.mg_of X G a_qV, PySem.W.mg_of X G a_qS, PySem.W.mg_of X G a_qM, ⟨_, _, xcls_of x1V x2V x3V x4V x5V rl_ve⟩, ⟨_, _, xcls_of x1S x2S x3S x4S x5S rl_ve⟩, ⟨_, _, xcls_of x1M x2M x3M x4M x5M rl_le⟩⟩
  have F2 : Two K qV qS qZ qT := by
    refine ⟨fun i => ?_, fun i => ?_, fun i => ?_⟩
    · match i with
      | 0 => exact mvZ
      | _ + 1 => exact mvT
    · match i with
      | 0 => exact msZ
      | _ + 1 => exact msT
    · match i with
      | 0 => exact ⟨g1Z, g2Z, g3Z, g4Z, g5Z⟩
      | _ + 1 => exact ⟨g1T, g2T, g3T, g4T, g5T⟩
  have DB : Def K mg "_law_begin" (top 23) ["_law_script"] fB _ := ⟨FB, PySem.W.mg_of X G aB, bB⟩
  have DP : Def K mg "_law_pick" (top 24) ["_law_d", "_law_many"] fP _ := ⟨FP, PySem.W.mg_of X G aP, bP⟩
  have DO : Def K mg "_law_of" (top 25) ["_law_d", "_law_things"] fO _ := ⟨FO, PySem.W.mg_of X G aO, bO⟩
  have DFr : Def K mg "_law_far" (top 26) ["_law_d"] fFr _ := ⟨FFr, PySem.W.mg_of X G aFr, bFr⟩
  have DTi : Def K mg "_law_ties" (top 28) ["_law_d", "_law_lanes", "_law_wide"] fTi _ := ⟨FTi, PySem.W.mg_of X G aTi, bTi⟩
  have DTk : Def K mg "_law_tie_ok" (top 29) ["_law_tie", "_law_lanes"] fTk _ := ⟨FTk, PySem.W.mg_of X G aTk, bTk⟩
  have DA : Def K mg "_law_ask" (top 27) ["_law_ask_here"] fA _ := ⟨FA, PySem.W.mg_of X G aA, bA⟩
  have DNL : Def K mg "need_lanes" (top 12) ["lanes"] fNL _ := ⟨FNL, PySem.W.mg_of X G aNL, bNL⟩
  have DNT : Def K mg "need_ties" (top 13) ["lanes", "ties"] fNT _ := ⟨FNT, PySem.W.mg_of X G aNT, bNT⟩
  have DNM : Def K mg "need_most" (top 14) ["most"] fNM _ := ⟨FNM, PySem.W.mg_of X G aNM, bNM⟩
  have DNA : Def K mg "need_all" (top 15) ["lanes", "ties", "most"] fNA _ := ⟨FNA, PySem.W.mg_of X G aNA, bNA⟩
  have DBo : Def K mg "bounds" (top 16) ["lanes", "most"] fBo _ := ⟨FBo, PySem.W.mg_of X G aBo, bBo⟩
  have DRa : Def K mg "raised" (top 17) ["lanes", "ties"] fRa _ := ⟨FRa, PySem.W.mg_of X G aRa, bRa⟩
  have DRb : Def K mg "ring_behind" (top 20) ["at", "raised_by", "many"] fRb _ := ⟨FRb, PySem.W.mg_of X G aRb, bRb⟩
  refine ⟨PySem.W.fnOf "law" "law" (defArgs (top 30)) (defBody (top 30)) (defScope (top 30)) .none kVLa dcLa pmLa anLa (.ref cc) ctLa, spLaw1 K Tt #[], fun s v => .of_eq rfl, fun T m => by cases List.mem_singleton.mp m; exact ⟨lTt, cc, tb⟩, fun H a ns hl hT hS => ⟨a, ns, rfl, hS, hl, hT _ (List.mem_singleton.mpr rfl), fun _ => rfl⟩, fun base kb0' nsb hbt => ?_⟩
  obtain ⟨hbb, hg⟩ := hbt Tt (List.mem_singleton.mpr rfl)
  have GZ := ok_BadSize (P := l.prog) (w := w) (base := base) (CX := CX0) FiZ TE FSE bSE MS
  have GT := ok_BadTie (P := l.prog) (w := w) (base := base) (CX := CX0) FiT TE FSE bSE MS
  have GL := ok_nl1 (P := l.prog) (w := w) (base := base) DNL.F TC WCZ GZ
  have GTt := ok_nt1 (P := l.prog) (w := w) (base := base) DNT.F TC WCT GT
  have GM := ok_nm1 (P := l.prog) (w := w) (base := base) DNM.F TC WCZ GZ
  have GN := ok_na1 (P := l.prog) (w := w) (base := base) DNA.F DNL DNT DNM GL GTt GM
  have GAm := ok_am1 (P := l.prog) (w := w) (base := base) FAm T TC DNA DBo DRa GN
  have GRi := ok_ri1 (P := l.prog) (w := w) (base := base) FRi T TC DNA DBo DRa GN DRb
  have GMe := ok_me1 (P := l.prog) (w := w) (base := base) FMe T DNA GN
  have kbA := kb21 FAm (fun _ _ _ _ _ _ _ _ _ => rfl)
  have kbR := kb21 FRi (fun _ _ _ _ _ _ _ _ _ => rfl)
  have kbM := kb31 FMe (fun _ _ _ _ _ _ _ _ _ _ => rfl)
  have GA := ok_ask (P := l.prog) (w := w) (base := base) (CX := CX0) (k := 9) DA.F TA
  exact ok_law lLa cLa (hd_of kb0' tb) hbb hg trivial (fun lp m => rfl) T (PySem.W.mg_none_of X G z_max) F2 DB DP DO DFr DTi DTk GA (PySem.W.mg_of X G aA) kA bA GAm (PySem.W.mg_of X G aAm) kAm kbA GRi (PySem.W.mg_of X G aRi) kRi kbR GMe (PySem.W.mg_of X G aMe) kMe kbM
end Cm

set_option Elab.async false
set_option linter.all false
open PySem PySem.W PyProof.Rows
set_option maxRecDepth 100000 in
set_option maxHeartbeats 0 in
theorem PySem.Challenge.cw_lanescribe_k26_clocks_refused_holds : PySem.Challenge.rw_lanescribe_k26_clocks_refused.Holds := by
  w_on; o_law; k_head; (case hw => w_witness2)
  k_fill
  refine L2.walk_ofM (l := PySem.Challenge.rw_lanescribe_k26_clocks_refused) (n := 63) (k := 11) (x := "_law_script") (CX := fun _ => L2.CX0) rfl (by decide) rfl ⟨rfl, by decide, by decide, rfl⟩ (fun w h Y => PySem.W.km_in_of Y) (fun w h Y => PySem.W.km_tabs_of Y) ?F (fun _ _ _ _ _ z => z)
  case F =>
    intro w mg fa h KX G hmg
    refine' Cm.all_mk KX G hmg ?aLa ?lLa ?lcc ?lTt ?tb ?cLa ?aB ?lB ?cB ?kB ?aP ?lP ?cP ?kP ?aO ?lO ?cO ?kO ?aFr ?lFr ?cFr ?kFr ?aTi ?lTi ?cTi ?kTi ?aTk ?lTk ?cTk ?kTk ?aA ?lA ?cA ?kA ?aNL ?lNL ?cNL ?kNL ?aNT ?lNT ?cNT ?kNT ?aNM ?lNM ?cNM ?kNM ?aNA ?lNA ?cNA ?kNA ?aBo ?lBo ?cBo ?kBo ?aRa ?lRa ?cRa ?kRa ?aRb ?lRb ?cRb ?kRb ?aAm ?lAm ?cAm ?kAm ?aRi ?lRi ?cRi ?kRi ?aMe ?lMe ?cMe ?kMe ?z_len ?z_range ?z_list ?z_tuple ?z_str ?z_bool ?z_int ?z_min ?z_repr ?z_all ?z_any ?z_isinstance ?z_ValueError ?z_max ?m1 ?m2 ?m3 ?m4 ?a_qS ?a_qV ?a_qM ?x1S ?x2S ?x3S ?x4S ?x5S ?x1V ?x2V ?x3V ?x4V ?x5V ?x1M ?x2M ?x3M ?x4M ?x5M ?aSE ?lSE ?cSE ?kSE ?lTS ?fc ?sg ?rd1 ?rd2 ?a_qZ ?x1Z ?x2Z ?x3Z ?x4Z ?x5Z ?tkZ ?aiZ ?liZ ?ciZ ?kiZ ?biZ ?niZ ?lTZ ?mvZ ?msZ ?g1Z ?g2Z ?g3Z ?g4Z ?g5Z ?a_qT ?x1T ?x2T ?x3T ?x4T ?x5T ?tkT ?aiT ?liT ?ciT ?kiT ?biT ?niT ?lTT ?mvT ?msT ?g1T ?g2T ?g3T ?g4T ?g5T
    (case aLa => k_is)
    (case lLa => k_is)
    (case lcc => k_is)
    (case lTt => kernel_rfl)
    (case tb => kernel_rfl)
    (case cLa => k_is)
    (case aB => k_is)
    (case lB => k_is)
    (case cB => k_is)
    (case kB => k_is)
    (case aP => k_is)
    (case lP => k_is)
    (case cP => k_is)
    (case kP => k_is)
    (case aO => k_is)
    (case lO => k_is)
    (case cO => k_is)
    (case kO => k_is)
    (case aFr => k_is)
    (case lFr => k_is)
    (case cFr => k_is)
    (case kFr => k_is)
    (case aTi => k_is)
    (case lTi => k_is)
    (case cTi => k_is)
    (case kTi => k_is)
    (case aTk => k_is)
    (case lTk => k_is)
    (case cTk => k_is)
    (case kTk => k_is)
    (case aA => k_is)
    (case lA => k_is)
    (case cA => k_is)
    (case kA => k_is)
    (case aNL => k_is)
    (case lNL => k_is)
    (case cNL => k_is)
    (case kNL => k_is)
    (case aNT => k_is)
    (case lNT => k_is)
    (case cNT => k_is)
    (case kNT => k_is)
    (case aNM => k_is)
    (case lNM => k_is)
    (case cNM => k_is)
    (case kNM => k_is)
    (case aNA => k_is)
    (case lNA => k_is)
    (case cNA => k_is)
    (case kNA => k_is)
    (case aBo => k_is)
    (case lBo => k_is)
    (case cBo => k_is)
    (case kBo => k_is)
    (case aRa => k_is)
    (case lRa => k_is)
    (case cRa => k_is)
    (case kRa => k_is)
    (case aRb => k_is)
    (case lRb => k_is)
    (case cRb => k_is)
    (case kRb => k_is)
    (case aAm => k_is)
    (case lAm => k_is)
    (case cAm => k_is)
    (case kAm => k_is)
    (case aRi => k_is)
    (case lRi => k_is)
    (case cRi => k_is)
    (case kRi => k_is)
    (case aMe => k_is)
    (case lMe => k_is)
    (case cMe => k_is)
    (case kMe => k_is)
    (case z_len => k_is)
    (case z_range => k_is)
    (case z_list => k_is)
    (case z_tuple => k_is)
    (case z_str => k_is)
    (case z_bool => k_is)
    (case z_int => k_is)
    (case z_min => k_is)
    (case z_repr => k_is)
    (case z_all => k_is)
    (case z_any => k_is)
    (case z_isinstance => k_is)
    (case z_ValueError => k_is)
    (case z_max => k_is)
    (case m1 => k_is)
    (case m2 => k_is)
    (case m3 => k_is)
    (case m4 => k_is)
    (case a_qS => k_is)
    (case a_qV => k_is)
    (case a_qM => k_is)
    (case x1S => kernel_rfl)
    (case x2S => k_is)
    (case x3S => kernel_rfl)
    (case x4S => k_is)
    (case x5S => k_is)
    (case x1V => kernel_rfl)
    (case x2V => k_is)
    (case x3V => kernel_rfl)
    (case x4V => k_is)
    (case x5V => k_is)
    (case x1M => kernel_rfl)
    (case x2M => k_is)
    (case x3M => kernel_rfl)
    (case x4M => k_is)
    (case x5M => k_is)
    (case aSE => k_is)
    (case lSE => k_is)
    (case cSE => k_is)
    (case kSE => k_is)
    (case lTS => k_is)
    (case fc => k_is)
    (case sg => k_is)
    (case rd1 => k_is)
    (case rd2 => k_is)
    (case a_qZ => k_is)
    (case x1Z => kernel_rfl)
    (case x2Z => k_is)
    (case x3Z => kernel_rfl)
    (case x4Z => k_is)
    (case x5Z => k_is)
    (case tkZ => k_is)
    (case aiZ => k_is)
    (case liZ => k_is)
    (case ciZ => k_is)
    (case kiZ => k_is)
    (case biZ => k_is)
    (case niZ => k_is)
    (case lTZ => k_is)
    (case mvZ => k_is)
    (case msZ => k_is)
    (case g1Z => k_is)
    (case g2Z => k_is)
    (case g3Z => k_is)
    (case g4Z => k_is)
    (case g5Z => k_is)
    (case a_qT => k_is)
    (case x1T => kernel_rfl)
    (case x2T => k_is)
    (case x3T => kernel_rfl)
    (case x4T => k_is)
    (case x5T => k_is)
    (case tkT => k_is)
    (case aiT => k_is)
    (case liT => k_is)
    (case ciT => k_is)
    (case kiT => k_is)
    (case biT => k_is)
    (case niT => k_is)
    (case lTT => k_is)
    (case mvT => k_is)
    (case msT => k_is)
    (case g1T => k_is)
    (case g2T => k_is)
    (case g3T => k_is)
    (case g4T => k_is)
    (case g5T => k_is)

