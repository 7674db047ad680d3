import PyProof.Rows.All
import Wide.All
import OpenK.AllK
import Wide.FinOn
import KE.KNestM
import Lean
import PyProof.EqAt
import PyProof.EqKinds
import PyProof.TupleCall
import PyProof.StationsW
import PyProof.ExcBaseAll.ValueError
import PyProof.InstStoreFacts
import PyProof.RulesAs
import PyProof.RulesDel
import KE.KLam
import PyProof.ExcArgsOwn
import PyProof.AutoListH
import PyProof.StrWalks
import PyProof.StrBlockH
import PyProof.WalkInts
import PyProof.SeqI3
import PyProof.Rows.SetFrom
import PyProof.ZipIter
import PySem.Challenge.RW_lanescribe_k03_values_looked_at
set_option Elab.async false
set_option linter.all false
set_option maxRecDepth 1000000
set_option maxHeartbeats 0
namespace Kd
open PySem PySem.W
noncomputable section
/-- the top behind the boot alone -/
theorem left_boot {p q : Program} {loose : List Str} {Xt : Shared → Bool} {α : Type} {Yf : Shared → α} {Ya : World → α} {N : Nat} (e : opening p = plainProg p.main.scope.names) (hN : Nat.ble 600 N = true) (f : ∀ s, fenceModules? p s = some s)
    (h : ∀ (w : World) (os : OsState), (topFrom treeTable p w N ⟨boot_heap w.params, Array.mk [], boot_drawn, boot_toks, os⟩).map (fun s => (openSeen q loose (importedModules p.main.body) Xt true s, Yf s)) = some (openGood q loose, Ya w)) : LeftO p q loose Xt Yf Ya N := fun w => by
  obtain ⟨⟨h', gs, d, k, os⟩, e1, e2⟩ := Option.map_eq_some_iff.mp (boot_open e hN f w)
  obtain ⟨rfl, rfl, rfl, rfl⟩ : h' = boot_heap w.params ∧ gs = Array.mk [] ∧ d = boot_drawn ∧ k = boot_toks := by simpa using e2
  unfold openEnds
  rw [e1]
  exact h w os
/-! ### what the program's own top leaves behind, written out -/
abbrev u (x : String) : Str := Str.ofString x
abbrev vs (x : String) (t : Nat) : Value := .str (Str.ofString x) t
abbrev vi (x : Int) (t : Nat) : Value := .int x t
abbrev vr (x : Nat) : Value := .ref x
abbrev de (P : Params) (x : String) (t : Nat) (v : Value) : DictEntry := { hash := PyData.keyHash P (Str.ofString x), key := .str (Str.ofString x) t, val := v }
def tp (i : Nat) : Stmt := PySem.Challenge.pw_lanescribe_k03_values_looked_at.main.body.getD i (.Pass ⟨0, 0, 0, 0⟩)
def meth (i j : Nat) : Stmt := match tp i with
  | .ClassDef _ _ _ body _ _ _ _ _ _ _ => body.getD j (.Pass ⟨0, 0, 0, 0⟩)
  | _ => .Pass ⟨0, 0, 0, 0⟩
def dA (s : Stmt) : Arguments := match s with
  | .FunctionDef _ a _ _ _ _ _ _ _ _ => a
  | _ => { posonlyargs := [], args := [], vararg := none, kwonlyargs := [], kw_defaults := [], kwarg := none, defaults := [] }
def dB (s : Stmt) : List Stmt := match s with
  | .FunctionDef _ _ b _ _ _ _ _ _ _ => b
  | _ => []
def dS (s : Stmt) : Scope := match s with
  | .FunctionDef _ _ _ _ _ _ sc _ _ _ => sc
  | _ => { kind := .function, names := [], isGenerator := false, isCoroutine := false }
abbrev TA (i : Nat) : Arguments := dA (tp i)
abbrev TB (i : Nat) : List Stmt := dB (tp i)
abbrev TS (i : Nat) : Scope := dS (tp i)
abbrev MA (i j : Nat) : Arguments := dA (meth i j)
abbrev MB (i j : Nat) : List Stmt := dB (meth i j)
abbrev MS (i j : Nat) : Scope := dS (meth i j)
def KK : Params → Frag := fun P =>
  ((nat_lit 2, { cls := Value.none, data := Data.dict #[] }) : Addr × Obj) ::
  ((nat_lit 3, { cls := Value.type "dict", data := Data.dict #[de P "__name__" 165 (vs "law_lanescribe_k03_values_looked_at" 516), de P "__doc__" 166 (Value.none), de P "__package__" 167 (Value.none), de P "__loader__" 168 (Value.builtin "__main__.__loader__#opaque"), de P "__spec__" 169 (Value.none), de P "__annotations__" 170 (vr 6), de P "__builtins__" 171 (vr 4), de P "__file__" 173 (vs "/claim/cut.py" 172), de P "__cached__" 174 (Value.none), de P "_wall" 193 (vr 21), de P "ScribeError" 225 (vr 39), de P "BadName" 250 (vr 60), de P "BadBounds" 275 (vr 80), de P "Taken" 300 (vr 100), de P "Full" 325 (vr 120), de P "BadValue" 350 (vr 139), de P "Missing" 380 (vr 159), de P "LIMIT" 384 (vi 999999 383), de P "MOST_LETTERS" 386 (vi 8 385), de P "MOST_FIELDS" 388 (vi 4 387), de P "is_name" 395 (vr 169), de P "need_name" 402 (vr 176), de P "need_fields" 413 (vr 183), de P "bounds_text" 419 (vr 188), de P "Kind" 515 (vr 263), de P "_law_begin" 526 (vr 274), de P "_law_pick" 537 (vr 281), de P "_law_of" 545 (vr 288), de P "_law_far" 553 (vr 295), de P "_law_same" 559 (vr 300), de P "_law_word" 565 (vr 305), de P "_law_words" 577 (vr 312), de P "_law_bound" 585 (vr 319), de P "_law_fields" 598 (vr 326), de P "_law_value" 609 (vr 333), de P "_law_values" 615 (vr 338), de P "_law_ask" 625 (vr 345), de P "_law_bent_values" 638 (vr 352), de P "_law_values_word" 648 (vr 359), de P "law" 660 (vr 366)] 40 }) : Addr × Obj) ::
  ((nat_lit 15, { cls := Value.type "tuple", data := Data.seq #[] }) : Addr × Obj) ::
  ((nat_lit 17, { cls := Value.type "tuple", data := Data.seq #[vs "k" 190] }) : Addr × Obj) ::
  ((nat_lit 18, { cls := Value.type "tuple", data := Data.seq #[] }) : Addr × Obj) ::
  ((nat_lit 20, { cls := Value.type "code", data := Data.fields #[vs "_wall" 187, vs "_wall" 188, vs "/claim/cut.py" 189, vi 1 0, vi 1 0, vi 0 0, vi 0 0, vi 3 0, vr 15, Value.bool true, vi 181 0, vr 16, Value.none, vr 17, vr 18, vr 19, vi 191 0, vi 1 0, vs "/claim/cut.py" 192] }) : Addr × Obj) ::
  ((nat_lit 21, { cls := Value.type "function", data := Data.func { name := u "_wall", qualname := u "_wall", params := TA 0, body := FuncBody.stmts (TB 0), scope := TS 0, globals := 3, closure := [], defaults := Value.none, kwdefaults := Value.none, pyModule := vs "__main__" 164, code := vr 20 } }) : Addr × Obj) ::
  ((nat_lit 22, { cls := Value.type "tuple", data := Data.seq #[Value.type "ValueError"] }) : Addr × Obj) ::
  ((nat_lit 29, { cls := Value.type "tuple", data := Data.seq #[vs "" 208, vs "scribeerror" 209] }) : Addr × Obj) ::
  ((nat_lit 30, { cls := Value.type "tuple", data := Data.seq #[] }) : Addr × Obj) ::
  ((nat_lit 32, { cls := Value.type "tuple", data := Data.seq #[vs "self" 213, vs "words" 214, vs "word" 215] }) : Addr × Obj) ::
  ((nat_lit 33, { cls := Value.type "tuple", data := Data.seq #[] }) : Addr × Obj) ::
  ((nat_lit 35, { cls := Value.type "code", data := Data.fields #[vs "__init__" 210, vs "ScribeError.__init__" 211, vs "/claim/cut.py" 212, vi 7 0, vi 3 0, vi 0 0, vi 0 0, vi 3 0, vr 30, Value.bool true, vi 181 0, vr 31, Value.none, vr 32, vr 33, vr 34, vi 216 0, vi 7 0, vs "/claim/cut.py" 217] }) : Addr × Obj) ::
  ((nat_lit 36, { cls := Value.type "function", data := Data.func { name := u "__init__", qualname := u "ScribeError.__init__", params := MA 2 0, body := FuncBody.stmts (MB 2 0), scope := MS 2 0, globals := 3, closure := [], defaults := vr 29, kwdefaults := Value.none, pyModule := vs "lanescribe.errors" 194, code := vr 35 } }) : Addr × Obj) ::
  ((nat_lit 37, { cls := Value.type "tuple", data := Data.seq #[vs "word" 219] }) : Addr × Obj) ::
  ((nat_lit 38, { cls := Value.type "dict", data := Data.dict #[de P "__module__" 203 (vs "lanescribe.errors" 194), de P "__firstlineno__" 207 (vi 5 206), de P "__init__" 218 (vr 36), de P "__static_attributes__" 220 (vr 37), de P "__weakref__" 222 (vr 40), de P "__doc__" 223 (Value.none)] 3 }) : Addr × Obj) ::
  ((nat_lit 39, { cls := Value.type "type", data := Data.cls { name := u "ScribeError", bases := [Value.type "ValueError"], mro := [vr 39, Value.type "ValueError", Value.type "Exception", Value.type "BaseException", Value.type "object"], ns := 38, qualname := u "ScribeError", subclasses := [vr 60, vr 80, vr 100, vr 120, vr 139] }, slots := #[some (vr 22), none, some (vs "ScribeError" 196), some (vs "ScribeError" 204), some (Value.builtin "ValueError.__new__"), some (Value.bool true)] }) : Addr × Obj) ::
  ((nat_lit 40, { cls := Value.type "getset_descriptor", data := Data.fields #[vs "__weakref__" 221, vr 39, Value.builtin "ExceptionGroup.__weakref__", Value.none] }) : Addr × Obj) ::
  ((nat_lit 43, { cls := Value.type "tuple", data := Data.seq #[vr 39] }) : Addr × Obj) ::
  ((nat_lit 50, { cls := Value.type "tuple", data := Data.seq #[vs "" 238] }) : Addr × Obj) ::
  ((nat_lit 51, { cls := Value.type "tuple", data := Data.seq #[] }) : Addr × Obj) ::
  ((nat_lit 53, { cls := Value.type "tuple", data := Data.seq #[vs "self" 242, vs "words" 243] }) : Addr × Obj) ::
  ((nat_lit 54, { cls := Value.type "tuple", data := Data.seq #[] }) : Addr × Obj) ::
  ((nat_lit 56, { cls := Value.type "code", data := Data.fields #[vs "__init__" 239, vs "BadName.__init__" 240, vs "/claim/cut.py" 241, vi 12 0, vi 2 0, vi 0 0, vi 0 0, vi 3 0, vr 51, Value.bool true, vi 181 0, vr 52, Value.none, vr 53, vr 54, vr 55, vi 244 0, vi 12 0, vs "/claim/cut.py" 245] }) : Addr × Obj) ::
  ((nat_lit 57, { cls := Value.type "function", data := Data.func { name := u "__init__", qualname := u "BadName.__init__", params := MA 3 0, body := FuncBody.stmts (MB 3 0), scope := MS 3 0, globals := 3, closure := [], defaults := vr 50, kwdefaults := Value.none, pyModule := vs "lanescribe.errors" 194, code := vr 56 } }) : Addr × Obj) ::
  ((nat_lit 58, { cls := Value.type "tuple", data := Data.seq #[] }) : Addr × Obj) ::
  ((nat_lit 59, { cls := Value.type "dict", data := Data.dict #[de P "__module__" 233 (vs "lanescribe.errors" 194), de P "__firstlineno__" 237 (vi 10 236), de P "__init__" 246 (vr 57), de P "__static_attributes__" 247 (vr 58), de P "__doc__" 248 (Value.none)] 2 }) : Addr × Obj) ::
  ((nat_lit 60, { cls := Value.type "type", data := Data.cls { name := u "BadName", bases := [vr 39], mro := [vr 60, vr 39, Value.type "ValueError", Value.type "Exception", Value.type "BaseException", Value.type "object"], ns := 59, qualname := u "BadName" }, slots := #[some (vr 43), none, some (vs "BadName" 226), some (vs "BadName" 234), some (Value.builtin "ValueError.__new__"), some (Value.bool true)] }) : Addr × Obj) ::
  ((nat_lit 63, { cls := Value.type "tuple", data := Data.seq #[vr 39] }) : Addr × Obj) ::
  ((nat_lit 70, { cls := Value.type "tuple", data := Data.seq #[vs "" 263] }) : Addr × Obj) ::
  ((nat_lit 71, { cls := Value.type "tuple", data := Data.seq #[] }) : Addr × Obj) ::
  ((nat_lit 73, { cls := Value.type "tuple", data := Data.seq #[vs "self" 267, vs "words" 268] }) : Addr × Obj) ::
  ((nat_lit 74, { cls := Value.type "tuple", data := Data.seq #[] }) : Addr × Obj) ::
  ((nat_lit 76, { cls := Value.type "code", data := Data.fields #[vs "__init__" 264, vs "BadBounds.__init__" 265, vs "/claim/cut.py" 266, vi 16 0, vi 2 0, vi 0 0, vi 0 0, vi 3 0, vr 71, Value.bool true, vi 181 0, vr 72, Value.none, vr 73, vr 74, vr 75, vi 269 0, vi 16 0, vs "/claim/cut.py" 270] }) : Addr × Obj) ::
  ((nat_lit 77, { cls := Value.type "function", data := Data.func { name := u "__init__", qualname := u "BadBounds.__init__", params := MA 4 0, body := FuncBody.stmts (MB 4 0), scope := MS 4 0, globals := 3, closure := [], defaults := vr 70, kwdefaults := Value.none, pyModule := vs "lanescribe.errors" 194, code := vr 76 } }) : Addr × Obj) ::
  ((nat_lit 78, { cls := Value.type "tuple", data := Data.seq #[] }) : Addr × Obj) ::
  ((nat_lit 79, { cls := Value.type "dict", data := Data.dict #[de P "__module__" 258 (vs "lanescribe.errors" 194), de P "__firstlineno__" 262 (vi 14 261), de P "__init__" 271 (vr 77), de P "__static_attributes__" 272 (vr 78), de P "__doc__" 273 (Value.none)] 2 }) : Addr × Obj) ::
  ((nat_lit 80, { cls := Value.type "type", data := Data.cls { name := u "BadBounds", bases := [vr 39], mro := [vr 80, vr 39, Value.type "ValueError", Value.type "Exception", Value.type "BaseException", Value.type "object"], ns := 79, qualname := u "BadBounds" }, slots := #[some (vr 63), none, some (vs "BadBounds" 251), some (vs "BadBounds" 259), some (Value.builtin "ValueError.__new__"), some (Value.bool true)] }) : Addr × Obj) ::
  ((nat_lit 83, { cls := Value.type "tuple", data := Data.seq #[vr 39] }) : Addr × Obj) ::
  ((nat_lit 90, { cls := Value.type "tuple", data := Data.seq #[vs "" 288] }) : Addr × Obj) ::
  ((nat_lit 91, { cls := Value.type "tuple", data := Data.seq #[] }) : Addr × Obj) ::
  ((nat_lit 93, { cls := Value.type "tuple", data := Data.seq #[vs "self" 292, vs "words" 293] }) : Addr × Obj) ::
  ((nat_lit 94, { cls := Value.type "tuple", data := Data.seq #[] }) : Addr × Obj) ::
  ((nat_lit 96, { cls := Value.type "code", data := Data.fields #[vs "__init__" 289, vs "Taken.__init__" 290, vs "/claim/cut.py" 291, vi 20 0, vi 2 0, vi 0 0, vi 0 0, vi 3 0, vr 91, Value.bool true, vi 181 0, vr 92, Value.none, vr 93, vr 94, vr 95, vi 294 0, vi 20 0, vs "/claim/cut.py" 295] }) : Addr × Obj) ::
  ((nat_lit 97, { cls := Value.type "function", data := Data.func { name := u "__init__", qualname := u "Taken.__init__", params := MA 5 0, body := FuncBody.stmts (MB 5 0), scope := MS 5 0, globals := 3, closure := [], defaults := vr 90, kwdefaults := Value.none, pyModule := vs "lanescribe.errors" 194, code := vr 96 } }) : Addr × Obj) ::
  ((nat_lit 98, { cls := Value.type "tuple", data := Data.seq #[] }) : Addr × Obj) ::
  ((nat_lit 99, { cls := Value.type "dict", data := Data.dict #[de P "__module__" 283 (vs "lanescribe.errors" 194), de P "__firstlineno__" 287 (vi 18 286), de P "__init__" 296 (vr 97), de P "__static_attributes__" 297 (vr 98), de P "__doc__" 298 (Value.none)] 2 }) : Addr × Obj) ::
  ((nat_lit 100, { cls := Value.type "type", data := Data.cls { name := u "Taken", bases := [vr 39], mro := [vr 100, vr 39, Value.type "ValueError", Value.type "Exception", Value.type "BaseException", Value.type "object"], ns := 99, qualname := u "Taken" }, slots := #[some (vr 83), none, some (vs "Taken" 276), some (vs "Taken" 284), some (Value.builtin "ValueError.__new__"), some (Value.bool true)] }) : Addr × Obj) ::
  ((nat_lit 103, { cls := Value.type "tuple", data := Data.seq #[vr 39] }) : Addr × Obj) ::
  ((nat_lit 110, { cls := Value.type "tuple", data := Data.seq #[vs "" 313] }) : Addr × Obj) ::
  ((nat_lit 111, { cls := Value.type "tuple", data := Data.seq #[] }) : Addr × Obj) ::
  ((nat_lit 113, { cls := Value.type "tuple", data := Data.seq #[vs "self" 317, vs "words" 318] }) : Addr × Obj) ::
  ((nat_lit 114, { cls := Value.type "tuple", data := Data.seq #[] }) : Addr × Obj) ::
  ((nat_lit 116, { cls := Value.type "code", data := Data.fields #[vs "__init__" 314, vs "Full.__init__" 315, vs "/claim/cut.py" 316, vi 24 0, vi 2 0, vi 0 0, vi 0 0, vi 3 0, vr 111, Value.bool true, vi 181 0, vr 112, Value.none, vr 113, vr 114, vr 115, vi 319 0, vi 24 0, vs "/claim/cut.py" 320] }) : Addr × Obj) ::
  ((nat_lit 117, { cls := Value.type "function", data := Data.func { name := u "__init__", qualname := u "Full.__init__", params := MA 6 0, body := FuncBody.stmts (MB 6 0), scope := MS 6 0, globals := 3, closure := [], defaults := vr 110, kwdefaults := Value.none, pyModule := vs "lanescribe.errors" 194, code := vr 116 } }) : Addr × Obj) ::
  ((nat_lit 118, { cls := Value.type "tuple", data := Data.seq #[] }) : Addr × Obj) ::
  ((nat_lit 119, { cls := Value.type "dict", data := Data.dict #[de P "__module__" 308 (vs "lanescribe.errors" 194), de P "__firstlineno__" 312 (vi 22 311), de P "__init__" 321 (vr 117), de P "__static_attributes__" 322 (vr 118), de P "__doc__" 323 (Value.none)] 2 }) : Addr × Obj) ::
  ((nat_lit 120, { cls := Value.type "type", data := Data.cls { name := u "Full", bases := [vr 39], mro := [vr 120, vr 39, Value.type "ValueError", Value.type "Exception", Value.type "BaseException", Value.type "object"], ns := 119, qualname := u "Full" }, slots := #[some (vr 103), none, some (vs "Full" 301), some (vs "Full" 309), some (Value.builtin "ValueError.__new__"), some (Value.bool true)] }) : Addr × Obj) ::
  ((nat_lit 123, { cls := Value.type "tuple", data := Data.seq #[vr 39] }) : Addr × Obj) ::
  ((nat_lit 130, { cls := Value.type "tuple", data := Data.seq #[] }) : Addr × Obj) ::
  ((nat_lit 132, { cls := Value.type "tuple", data := Data.seq #[vs "self" 341, vs "at" 342] }) : Addr × Obj) ::
  ((nat_lit 133, { cls := Value.type "tuple", data := Data.seq #[] }) : Addr × Obj) ::
  ((nat_lit 135, { cls := Value.type "code", data := Data.fields #[vs "__init__" 338, vs "BadValue.__init__" 339, vs "/claim/cut.py" 340, vi 28 0, vi 2 0, vi 0 0, vi 0 0, vi 3 0, vr 130, Value.bool true, vi 181 0, vr 131, Value.none, vr 132, vr 133, vr 134, vi 343 0, vi 28 0, vs "/claim/cut.py" 344] }) : Addr × Obj) ::
  ((nat_lit 136, { cls := Value.type "function", data := Data.func { name := u "__init__", qualname := u "BadValue.__init__", params := MA 7 0, body := FuncBody.stmts (MB 7 0), scope := MS 7 0, globals := 3, closure := [], defaults := Value.none, kwdefaults := Value.none, pyModule := vs "lanescribe.errors" 194, code := vr 135 } }) : Addr × Obj) ::
  ((nat_lit 137, { cls := Value.type "tuple", data := Data.seq #[vs "at" 346] }) : Addr × Obj) ::
  ((nat_lit 138, { cls := Value.type "dict", data := Data.dict #[de P "__module__" 333 (vs "lanescribe.errors" 194), de P "__firstlineno__" 337 (vi 26 336), de P "__init__" 345 (vr 136), de P "__static_attributes__" 347 (vr 137), de P "__doc__" 348 (Value.none)] 2 }) : Addr × Obj) ::
  ((nat_lit 139, { cls := Value.type "type", data := Data.cls { name := u "BadValue", bases := [vr 39], mro := [vr 139, vr 39, Value.type "ValueError", Value.type "Exception", Value.type "BaseException", Value.type "object"], ns := 138, qualname := u "BadValue" }, slots := #[some (vr 123), none, some (vs "BadValue" 326), some (vs "BadValue" 334), some (Value.builtin "ValueError.__new__"), some (Value.bool true)] }) : Addr × Obj) ::
  ((nat_lit 142, { cls := Value.type "tuple", data := Data.seq #[Value.type "LookupError"] }) : Addr × Obj) ::
  ((nat_lit 149, { cls := Value.type "tuple", data := Data.seq #[vs "" 363, vs "missing" 364] }) : Addr × Obj) ::
  ((nat_lit 150, { cls := Value.type "tuple", data := Data.seq #[] }) : Addr × Obj) ::
  ((nat_lit 152, { cls := Value.type "tuple", data := Data.seq #[vs "self" 368, vs "words" 369, vs "word" 370] }) : Addr × Obj) ::
  ((nat_lit 153, { cls := Value.type "tuple", data := Data.seq #[] }) : Addr × Obj) ::
  ((nat_lit 155, { cls := Value.type "code", data := Data.fields #[vs "__init__" 365, vs "Missing.__init__" 366, vs "/claim/cut.py" 367, vi 33 0, vi 3 0, vi 0 0, vi 0 0, vi 3 0, vr 150, Value.bool true, vi 181 0, vr 151, Value.none, vr 152, vr 153, vr 154, vi 371 0, vi 33 0, vs "/claim/cut.py" 372] }) : Addr × Obj) ::
  ((nat_lit 156, { cls := Value.type "function", data := Data.func { name := u "__init__", qualname := u "Missing.__init__", params := MA 8 0, body := FuncBody.stmts (MB 8 0), scope := MS 8 0, globals := 3, closure := [], defaults := vr 149, kwdefaults := Value.none, pyModule := vs "lanescribe.errors" 194, code := vr 155 } }) : Addr × Obj) ::
  ((nat_lit 157, { cls := Value.type "tuple", data := Data.seq #[vs "word" 374] }) : Addr × Obj) ::
  ((nat_lit 158, { cls := Value.type "dict", data := Data.dict #[de P "__module__" 358 (vs "lanescribe.errors" 194), de P "__firstlineno__" 362 (vi 31 361), de P "__init__" 373 (vr 156), de P "__static_attributes__" 375 (vr 157), de P "__weakref__" 377 (vr 160), de P "__doc__" 378 (Value.none)] 3 }) : Addr × Obj) ::
  ((nat_lit 159, { cls := Value.type "type", data := Data.cls { name := u "Missing", bases := [Value.type "LookupError"], mro := [vr 159, Value.type "LookupError", Value.type "Exception", Value.type "BaseException", Value.type "object"], ns := 158, qualname := u "Missing" }, slots := #[some (vr 142), none, some (vs "Missing" 351), some (vs "Missing" 359), some (Value.builtin "LookupError.__new__"), some (Value.bool true)] }) : Addr × Obj) ::
  ((nat_lit 160, { cls := Value.type "getset_descriptor", data := Data.fields #[vs "__weakref__" 376, vr 159, Value.builtin "ExceptionGroup.__weakref__", Value.none] }) : Addr × Obj) ::
  ((nat_lit 163, { cls := Value.type "tuple", data := Data.seq #[] }) : Addr × Obj) ::
  ((nat_lit 165, { cls := Value.type "tuple", data := Data.seq #[vs "text" 392] }) : Addr × Obj) ::
  ((nat_lit 166, { cls := Value.type "tuple", data := Data.seq #[] }) : Addr × Obj) ::
  ((nat_lit 168, { cls := Value.type "code", data := Data.fields #[vs "is_name" 389, vs "is_name" 390, vs "/claim/cut.py" 391, vi 40 0, vi 1 0, vi 0 0, vi 0 0, vi 3 0, vr 163, Value.bool true, vi 181 0, vr 164, Value.none, vr 165, vr 166, vr 167, vi 393 0, vi 40 0, vs "/claim/cut.py" 394] }) : Addr × Obj) ::
  ((nat_lit 169, { cls := Value.type "function", data := Data.func { name := u "is_name", qualname := u "is_name", params := TA 13, body := FuncBody.stmts (TB 13), scope := TS 13, globals := 3, closure := [], defaults := Value.none, kwdefaults := Value.none, pyModule := vs "lanescribe.kinds" 381, code := vr 168 } }) : Addr × Obj) ::
  ((nat_lit 170, { cls := Value.type "tuple", data := Data.seq #[] }) : Addr × Obj) ::
  ((nat_lit 172, { cls := Value.type "tuple", data := Data.seq #[vs "text" 399] }) : Addr × Obj) ::
  ((nat_lit 173, { cls := Value.type "tuple", data := Data.seq #[] }) : Addr × Obj) ::
  ((nat_lit 175, { cls := Value.type "code", data := Data.fields #[vs "need_name" 396, vs "need_name" 397, vs "/claim/cut.py" 398, vi 42 0, vi 1 0, vi 0 0, vi 0 0, vi 3 0, vr 170, Value.bool true, vi 181 0, vr 171, Value.none, vr 172, vr 173, vr 174, vi 400 0, vi 42 0, vs "/claim/cut.py" 401] }) : Addr × Obj) ::
  ((nat_lit 176, { cls := Value.type "function", data := Data.func { name := u "need_name", qualname := u "need_name", params := TA 14, body := FuncBody.stmts (TB 14), scope := TS 14, globals := 3, closure := [], defaults := Value.none, kwdefaults := Value.none, pyModule := vs "lanescribe.kinds" 381, code := vr 175 } }) : Addr × Obj) ::
  ((nat_lit 177, { cls := Value.type "tuple", data := Data.seq #[] }) : Addr × Obj) ::
  ((nat_lit 179, { cls := Value.type "tuple", data := Data.seq #[vs "fields" 406, vs "seen" 407, vs "name" 408, vs "low" 409, vs "high" 410] }) : Addr × Obj) ::
  ((nat_lit 180, { cls := Value.type "tuple", data := Data.seq #[] }) : Addr × Obj) ::
  ((nat_lit 182, { cls := Value.type "code", data := Data.fields #[vs "need_fields" 403, vs "need_fields" 404, vs "/claim/cut.py" 405, vi 45 0, vi 1 0, vi 0 0, vi 0 0, vi 3 0, vr 177, Value.bool true, vi 181 0, vr 178, Value.none, vr 179, vr 180, vr 181, vi 411 0, vi 45 0, vs "/claim/cut.py" 412] }) : Addr × Obj) ::
  ((nat_lit 183, { cls := Value.type "function", data := Data.func { name := u "need_fields", qualname := u "need_fields", params := TA 15, body := FuncBody.stmts (TB 15), scope := TS 15, globals := 3, closure := [], defaults := Value.none, kwdefaults := Value.none, pyModule := vs "lanescribe.kinds" 381, code := vr 182 } }) : Addr × Obj) ::
  ((nat_lit 184, { cls := Value.type "tuple", data := Data.seq #[] }) : Addr × Obj) ::
  ((nat_lit 187, { cls := Value.type "code", data := Data.fields #[vs "bounds_text" 414, vs "bounds_text" 415, vs "/claim/cut.py" 416, vi 54 0, vi 1 0, vi 0 0, vi 0 0, vi 3 0, vr 184, Value.bool true, vi 181 0, vr 185, Value.none, Value.none, Value.none, vr 186, vi 417 0, vi 54 0, vs "/claim/cut.py" 418] }) : Addr × Obj) ::
  ((nat_lit 188, { cls := Value.type "function", data := Data.func { name := u "bounds_text", qualname := u "bounds_text", params := TA 16, body := FuncBody.stmts (TB 16), scope := TS 16, globals := 3, closure := [], defaults := Value.none, kwdefaults := Value.none, pyModule := vs "lanescribe.kinds" 381, code := vr 187 } }) : Addr × Obj) ::
  ((nat_lit 196, { cls := Value.type "tuple", data := Data.seq #[] }) : Addr × Obj) ::
  ((nat_lit 197, { cls := Value.type "tuple", data := Data.seq #[vr 196] }) : Addr × Obj) ::
  ((nat_lit 198, { cls := Value.type "tuple", data := Data.seq #[] }) : Addr × Obj) ::
  ((nat_lit 200, { cls := Value.type "tuple", data := Data.seq #[vs "self" 435, vs "name" 436, vs "fields" 437] }) : Addr × Obj) ::
  ((nat_lit 201, { cls := Value.type "tuple", data := Data.seq #[] }) : Addr × Obj) ::
  ((nat_lit 203, { cls := Value.type "code", data := Data.fields #[vs "__init__" 432, vs "Kind.__init__" 433, vs "/claim/cut.py" 434, vi 58 0, vi 3 0, vi 0 0, vi 0 0, vi 3 0, vr 198, Value.bool true, vi 181 0, vr 199, Value.none, vr 200, vr 201, vr 202, vi 438 0, vi 58 0, vs "/claim/cut.py" 439] }) : Addr × Obj) ::
  ((nat_lit 204, { cls := Value.type "function", data := Data.func { name := u "__init__", qualname := u "Kind.__init__", params := MA 17 0, body := FuncBody.stmts (MB 17 0), scope := MS 17 0, globals := 3, closure := [], defaults := vr 197, kwdefaults := Value.none, pyModule := vs "lanescribe.kinds" 381, code := vr 203 } }) : Addr × Obj) ::
  ((nat_lit 205, { cls := Value.type "tuple", data := Data.seq #[] }) : Addr × Obj) ::
  ((nat_lit 207, { cls := Value.type "tuple", data := Data.seq #[vs "self" 444] }) : Addr × Obj) ::
  ((nat_lit 208, { cls := Value.type "tuple", data := Data.seq #[] }) : Addr × Obj) ::
  ((nat_lit 210, { cls := Value.type "code", data := Data.fields #[vs "lowest" 441, vs "Kind.lowest" 442, vs "/claim/cut.py" 443, vi 66 0, vi 1 0, vi 0 0, vi 0 0, vi 3 0, vr 205, Value.bool true, vi 181 0, vr 206, Value.none, vr 207, vr 208, vr 209, vi 445 0, vi 66 0, vs "/claim/cut.py" 446] }) : Addr × Obj) ::
  ((nat_lit 211, { cls := Value.type "function", data := Data.func { name := u "lowest", qualname := u "Kind.lowest", params := MA 17 1, body := FuncBody.stmts (MB 17 1), scope := MS 17 1, globals := 3, closure := [], defaults := Value.none, kwdefaults := Value.none, pyModule := vs "lanescribe.kinds" 381, code := vr 210 } }) : Addr × Obj) ::
  ((nat_lit 212, { cls := Value.type "tuple", data := Data.seq #[] }) : Addr × Obj) ::
  ((nat_lit 214, { cls := Value.type "tuple", data := Data.seq #[vs "self" 451] }) : Addr × Obj) ::
  ((nat_lit 215, { cls := Value.type "tuple", data := Data.seq #[] }) : Addr × Obj) ::
  ((nat_lit 217, { cls := Value.type "code", data := Data.fields #[vs "cells" 448, vs "Kind.cells" 449, vs "/claim/cut.py" 450, vi 69 0, vi 1 0, vi 0 0, vi 0 0, vi 3 0, vr 212, Value.bool true, vi 181 0, vr 213, Value.none, vr 214, vr 215, vr 216, vi 452 0, vi 69 0, vs "/claim/cut.py" 453] }) : Addr × Obj) ::
  ((nat_lit 218, { cls := Value.type "function", data := Data.func { name := u "cells", qualname := u "Kind.cells", params := MA 17 2, body := FuncBody.stmts (MB 17 2), scope := MS 17 2, globals := 3, closure := [], defaults := Value.none, kwdefaults := Value.none, pyModule := vs "lanescribe.kinds" 381, code := vr 217 } }) : Addr × Obj) ::
  ((nat_lit 219, { cls := Value.type "tuple", data := Data.seq #[] }) : Addr × Obj) ::
  ((nat_lit 221, { cls := Value.type "tuple", data := Data.seq #[vs "self" 458, vs "field" 459] }) : Addr × Obj) ::
  ((nat_lit 222, { cls := Value.type "tuple", data := Data.seq #[] }) : Addr × Obj) ::
  ((nat_lit 224, { cls := Value.type "code", data := Data.fields #[vs "place_of" 455, vs "Kind.place_of" 456, vs "/claim/cut.py" 457, vi 72 0, vi 2 0, vi 0 0, vi 0 0, vi 3 0, vr 219, Value.bool true, vi 181 0, vr 220, Value.none, vr 221, vr 222, vr 223, vi 460 0, vi 72 0, vs "/claim/cut.py" 461] }) : Addr × Obj) ::
  ((nat_lit 225, { cls := Value.type "function", data := Data.func { name := u "place_of", qualname := u "Kind.place_of", params := MA 17 3, body := FuncBody.stmts (MB 17 3), scope := MS 17 3, globals := 3, closure := [], defaults := Value.none, kwdefaults := Value.none, pyModule := vs "lanescribe.kinds" 381, code := vr 224 } }) : Addr × Obj) ::
  ((nat_lit 226, { cls := Value.type "tuple", data := Data.seq #[] }) : Addr × Obj) ::
  ((nat_lit 228, { cls := Value.type "tuple", data := Data.seq #[vs "self" 466, vs "values" 467, vs "at" 468, vs "name" 469, vs "low" 470, vs "high" 471, vs "value" 472] }) : Addr × Obj) ::
  ((nat_lit 229, { cls := Value.type "tuple", data := Data.seq #[] }) : Addr × Obj) ::
  ((nat_lit 231, { cls := Value.type "code", data := Data.fields #[vs "need" 463, vs "Kind.need" 464, vs "/claim/cut.py" 465, vi 75 0, vi 2 0, vi 0 0, vi 0 0, vi 3 0, vr 226, Value.bool true, vi 181 0, vr 227, Value.none, vr 228, vr 229, vr 230, vi 473 0, vi 75 0, vs "/claim/cut.py" 474] }) : Addr × Obj) ::
  ((nat_lit 232, { cls := Value.type "function", data := Data.func { name := u "need", qualname := u "Kind.need", params := MA 17 4, body := FuncBody.stmts (MB 17 4), scope := MS 17 4, globals := 3, closure := [], defaults := Value.none, kwdefaults := Value.none, pyModule := vs "lanescribe.kinds" 381, code := vr 231 } }) : Addr × Obj) ::
  ((nat_lit 233, { cls := Value.type "tuple", data := Data.seq #[] }) : Addr × Obj) ::
  ((nat_lit 235, { cls := Value.type "tuple", data := Data.seq #[vs "self" 479, vs "other" 480] }) : Addr × Obj) ::
  ((nat_lit 236, { cls := Value.type "tuple", data := Data.seq #[] }) : Addr × Obj) ::
  ((nat_lit 238, { cls := Value.type "code", data := Data.fields #[vs "__eq__" 476, vs "Kind.__eq__" 477, vs "/claim/cut.py" 478, vi 82 0, vi 2 0, vi 0 0, vi 0 0, vi 3 0, vr 233, Value.bool true, vi 181 0, vr 234, Value.none, vr 235, vr 236, vr 237, vi 481 0, vi 82 0, vs "/claim/cut.py" 482] }) : Addr × Obj) ::
  ((nat_lit 239, { cls := Value.type "function", data := Data.func { name := u "__eq__", qualname := u "Kind.__eq__", params := MA 17 5, body := FuncBody.stmts (MB 17 5), scope := MS 17 5, globals := 3, closure := [], defaults := Value.none, kwdefaults := Value.none, pyModule := vs "lanescribe.kinds" 381, code := vr 238 } }) : Addr × Obj) ::
  ((nat_lit 240, { cls := Value.type "tuple", data := Data.seq #[] }) : Addr × Obj) ::
  ((nat_lit 242, { cls := Value.type "tuple", data := Data.seq #[vs "self" 487] }) : Addr × Obj) ::
  ((nat_lit 243, { cls := Value.type "tuple", data := Data.seq #[] }) : Addr × Obj) ::
  ((nat_lit 245, { cls := Value.type "code", data := Data.fields #[vs "__len__" 484, vs "Kind.__len__" 485, vs "/claim/cut.py" 486, vi 85 0, vi 1 0, vi 0 0, vi 0 0, vi 3 0, vr 240, Value.bool true, vi 181 0, vr 241, Value.none, vr 242, vr 243, vr 244, vi 488 0, vi 85 0, vs "/claim/cut.py" 489] }) : Addr × Obj) ::
  ((nat_lit 246, { cls := Value.type "function", data := Data.func { name := u "__len__", qualname := u "Kind.__len__", params := MA 17 6, body := FuncBody.stmts (MB 17 6), scope := MS 17 6, globals := 3, closure := [], defaults := Value.none, kwdefaults := Value.none, pyModule := vs "lanescribe.kinds" 381, code := vr 245 } }) : Addr × Obj) ::
  ((nat_lit 247, { cls := Value.type "tuple", data := Data.seq #[] }) : Addr × Obj) ::
  ((nat_lit 249, { cls := Value.type "tuple", data := Data.seq #[vs "self" 494] }) : Addr × Obj) ::
  ((nat_lit 250, { cls := Value.type "tuple", data := Data.seq #[] }) : Addr × Obj) ::
  ((nat_lit 252, { cls := Value.type "code", data := Data.fields #[vs "__str__" 491, vs "Kind.__str__" 492, vs "/claim/cut.py" 493, vi 88 0, vi 1 0, vi 0 0, vi 0 0, vi 3 0, vr 247, Value.bool true, vi 181 0, vr 248, Value.none, vr 249, vr 250, vr 251, vi 495 0, vi 88 0, vs "/claim/cut.py" 496] }) : Addr × Obj) ::
  ((nat_lit 253, { cls := Value.type "function", data := Data.func { name := u "__str__", qualname := u "Kind.__str__", params := MA 17 7, body := FuncBody.stmts (MB 17 7), scope := MS 17 7, globals := 3, closure := [], defaults := Value.none, kwdefaults := Value.none, pyModule := vs "lanescribe.kinds" 381, code := vr 252 } }) : Addr × Obj) ::
  ((nat_lit 254, { cls := Value.type "tuple", data := Data.seq #[] }) : Addr × Obj) ::
  ((nat_lit 256, { cls := Value.type "tuple", data := Data.seq #[vs "self" 501] }) : Addr × Obj) ::
  ((nat_lit 257, { cls := Value.type "tuple", data := Data.seq #[] }) : Addr × Obj) ::
  ((nat_lit 259, { cls := Value.type "code", data := Data.fields #[vs "__repr__" 498, vs "Kind.__repr__" 499, vs "/claim/cut.py" 500, vi 91 0, vi 1 0, vi 0 0, vi 0 0, vi 3 0, vr 254, Value.bool true, vi 181 0, vr 255, Value.none, vr 256, vr 257, vr 258, vi 502 0, vi 91 0, vs "/claim/cut.py" 503] }) : Addr × Obj) ::
  ((nat_lit 260, { cls := Value.type "function", data := Data.func { name := u "__repr__", qualname := u "Kind.__repr__", params := MA 17 8, body := FuncBody.stmts (MB 17 8), scope := MS 17 8, globals := 3, closure := [], defaults := Value.none, kwdefaults := Value.none, pyModule := vs "lanescribe.kinds" 381, code := vr 259 } }) : Addr × Obj) ::
  ((nat_lit 261, { cls := Value.type "tuple", data := Data.seq #[vs "fields" 505, vs "name" 506] }) : Addr × Obj) ::
  ((nat_lit 262, { cls := Value.type "dict", data := Data.dict #[de P "__module__" 427 (vs "lanescribe.kinds" 381), de P "__firstlineno__" 431 (vi 56 430), de P "__init__" 440 (vr 204), de P "lowest" 447 (vr 211), de P "cells" 454 (vr 218), de P "place_of" 462 (vr 225), de P "need" 475 (vr 232), de P "__eq__" 483 (vr 239), de P "__len__" 490 (vr 246), de P "__str__" 497 (vr 253), de P "__repr__" 504 (vr 260), de P "__static_attributes__" 507 (vr 261), de P "__dict__" 509 (vr 264), de P "__weakref__" 511 (vr 265), de P "__doc__" 512 (Value.none), de P "__hash__" 513 (Value.none)] 5 }) : Addr × Obj) ::
  ((nat_lit 263, { cls := Value.type "type", data := Data.cls { name := u "Kind", bases := [Value.type "object"], mro := [vr 263, Value.type "object"], ns := 262, qualname := u "Kind" }, slots := #[none, none, some (vs "Kind" 420), some (vs "Kind" 428), some (Value.builtin "object.__new__"), some (Value.bool true)] }) : Addr × Obj) ::
  ((nat_lit 264, { cls := Value.type "getset_descriptor", data := Data.fields #[vs "__dict__" 508, vr 263, Value.builtin "function.__dict__", Value.builtin "function.__dict__#set"] }) : Addr × Obj) ::
  ((nat_lit 265, { cls := Value.type "getset_descriptor", data := Data.fields #[vs "__weakref__" 510, vr 263, Value.builtin "ExceptionGroup.__weakref__", Value.none] }) : Addr × Obj) ::
  ((nat_lit 268, { cls := Value.type "tuple", data := Data.seq #[] }) : Addr × Obj) ::
  ((nat_lit 270, { cls := Value.type "tuple", data := Data.seq #[vs "_law_script" 521, vs "_law_seed" 522, vs "_law_cell" 523] }) : Addr × Obj) ::
  ((nat_lit 271, { cls := Value.type "tuple", data := Data.seq #[] }) : Addr × Obj) ::
  ((nat_lit 273, { cls := Value.type "code", data := Data.fields #[vs "_law_begin" 518, vs "_law_begin" 519, vs "/claim/cut.py" 520, vi 94 0, vi 1 0, vi 0 0, vi 0 0, vi 3 0, vr 268, Value.bool true, vi 181 0, vr 269, Value.none, vr 270, vr 271, vr 272, vi 524 0, vi 94 0, vs "/claim/cut.py" 525] }) : Addr × Obj) ::
  ((nat_lit 274, { cls := Value.type "function", data := Data.func { name := u "_law_begin", qualname := u "_law_begin", params := TA 19, body := FuncBody.stmts (TB 19), scope := TS 19, globals := 3, closure := [], defaults := Value.none, kwdefaults := Value.none, pyModule := vs "law_lanescribe_k03_values_looked_at" 516, code := vr 273 } }) : Addr × Obj) ::
  ((nat_lit 275, { cls := Value.type "tuple", data := Data.seq #[] }) : Addr × Obj) ::
  ((nat_lit 277, { cls := Value.type "tuple", data := Data.seq #[vs "_law_d" 530, vs "_law_many" 531, vs "_law_cell" 532, vs "_law_digit" 533, vs "_law_one" 534] }) : Addr × Obj) ::
  ((nat_lit 278, { cls := Value.type "tuple", data := Data.seq #[] }) : Addr × Obj) ::
  ((nat_lit 280, { cls := Value.type "code", data := Data.fields #[vs "_law_pick" 527, vs "_law_pick" 528, vs "/claim/cut.py" 529, vi 99 0, vi 2 0, vi 0 0, vi 0 0, vi 3 0, vr 275, Value.bool true, vi 181 0, vr 276, Value.none, vr 277, vr 278, vr 279, vi 535 0, vi 99 0, vs "/claim/cut.py" 536] }) : Addr × Obj) ::
  ((nat_lit 281, { cls := Value.type "function", data := Data.func { name := u "_law_pick", qualname := u "_law_pick", params := TA 20, body := FuncBody.stmts (TB 20), scope := TS 20, globals := 3, closure := [], defaults := Value.none, kwdefaults := Value.none, pyModule := vs "law_lanescribe_k03_values_looked_at" 516, code := vr 280 } }) : Addr × Obj) ::
  ((nat_lit 282, { cls := Value.type "tuple", data := Data.seq #[] }) : Addr × Obj) ::
  ((nat_lit 284, { cls := Value.type "tuple", data := Data.seq #[vs "_law_d" 541, vs "_law_things" 542] }) : Addr × Obj) ::
  ((nat_lit 285, { cls := Value.type "tuple", data := Data.seq #[] }) : Addr × Obj) ::
  ((nat_lit 287, { cls := Value.type "code", data := Data.fields #[vs "_law_of" 538, vs "_law_of" 539, vs "/claim/cut.py" 540, vi 114 0, vi 2 0, vi 0 0, vi 0 0, vi 3 0, vr 282, Value.bool true, vi 181 0, vr 283, Value.none, vr 284, vr 285, vr 286, vi 543 0, vi 114 0, vs "/claim/cut.py" 544] }) : Addr × Obj) ::
  ((nat_lit 288, { cls := Value.type "function", data := Data.func { name := u "_law_of", qualname := u "_law_of", params := TA 21, body := FuncBody.stmts (TB 21), scope := TS 21, globals := 3, closure := [], defaults := Value.none, kwdefaults := Value.none, pyModule := vs "law_lanescribe_k03_values_looked_at" 516, code := vr 287 } }) : Addr × Obj) ::
  ((nat_lit 289, { cls := Value.type "tuple", data := Data.seq #[] }) : Addr × Obj) ::
  ((nat_lit 291, { cls := Value.type "tuple", data := Data.seq #[vs "_law_d" 549, vs "_law_number" 550] }) : Addr × Obj) ::
  ((nat_lit 292, { cls := Value.type "tuple", data := Data.seq #[] }) : Addr × Obj) ::
  ((nat_lit 294, { cls := Value.type "code", data := Data.fields #[vs "_law_far" 546, vs "_law_far" 547, vs "/claim/cut.py" 548, vi 116 0, vi 1 0, vi 0 0, vi 0 0, vi 3 0, vr 289, Value.bool true, vi 181 0, vr 290, Value.none, vr 291, vr 292, vr 293, vi 551 0, vi 116 0, vs "/claim/cut.py" 552] }) : Addr × Obj) ::
  ((nat_lit 295, { cls := Value.type "function", data := Data.func { name := u "_law_far", qualname := u "_law_far", params := TA 22, body := FuncBody.stmts (TB 22), scope := TS 22, globals := 3, closure := [], defaults := Value.none, kwdefaults := Value.none, pyModule := vs "law_lanescribe_k03_values_looked_at" 516, code := vr 294 } }) : Addr × Obj) ::
  ((nat_lit 296, { cls := Value.type "tuple", data := Data.seq #[] }) : Addr × Obj) ::
  ((nat_lit 299, { cls := Value.type "code", data := Data.fields #[vs "_law_same" 554, vs "_law_same" 555, vs "/claim/cut.py" 556, vi 119 0, vi 2 0, vi 0 0, vi 0 0, vi 3 0, vr 296, Value.bool true, vi 181 0, vr 297, Value.none, Value.none, Value.none, vr 298, vi 557 0, vi 119 0, vs "/claim/cut.py" 558] }) : Addr × Obj) ::
  ((nat_lit 300, { cls := Value.type "function", data := Data.func { name := u "_law_same", qualname := u "_law_same", params := TA 23, body := FuncBody.stmts (TB 23), scope := TS 23, globals := 3, closure := [], defaults := Value.none, kwdefaults := Value.none, pyModule := vs "law_lanescribe_k03_values_looked_at" 516, code := vr 299 } }) : Addr × Obj) ::
  ((nat_lit 301, { cls := Value.type "tuple", data := Data.seq #[] }) : Addr × Obj) ::
  ((nat_lit 304, { cls := Value.type "code", data := Data.fields #[vs "_law_word" 560, vs "_law_word" 561, vs "/claim/cut.py" 562, vi 129 0, vi 1 0, vi 0 0, vi 0 0, vi 3 0, vr 301, Value.bool true, vi 181 0, vr 302, Value.none, Value.none, Value.none, vr 303, vi 563 0, vi 129 0, vs "/claim/cut.py" 564] }) : Addr × Obj) ::
  ((nat_lit 305, { cls := Value.type "function", data := Data.func { name := u "_law_word", qualname := u "_law_word", params := TA 24, body := FuncBody.stmts (TB 24), scope := TS 24, globals := 3, closure := [], defaults := Value.none, kwdefaults := Value.none, pyModule := vs "law_lanescribe_k03_values_looked_at" 516, code := vr 304 } }) : Addr × Obj) ::
  ((nat_lit 306, { cls := Value.type "tuple", data := Data.seq #[] }) : Addr × Obj) ::
  ((nat_lit 308, { cls := Value.type "tuple", data := Data.seq #[vs "_law_d" 569, vs "_law_many" 570, vs "_law_found" 571, vs "_law_k" 572, vs "_law_word_here" 573, vs "_law_step" 574] }) : Addr × Obj) ::
  ((nat_lit 309, { cls := Value.type "tuple", data := Data.seq #[] }) : Addr × Obj) ::
  ((nat_lit 311, { cls := Value.type "code", data := Data.fields #[vs "_law_words" 566, vs "_law_words" 567, vs "/claim/cut.py" 568, vi 135 0, vi 2 0, vi 0 0, vi 0 0, vi 3 0, vr 306, Value.bool true, vi 181 0, vr 307, Value.none, vr 308, vr 309, vr 310, vi 575 0, vi 135 0, vs "/claim/cut.py" 576] }) : Addr × Obj) ::
  ((nat_lit 312, { cls := Value.type "function", data := Data.func { name := u "_law_words", qualname := u "_law_words", params := TA 25, body := FuncBody.stmts (TB 25), scope := TS 25, globals := 3, closure := [], defaults := Value.none, kwdefaults := Value.none, pyModule := vs "law_lanescribe_k03_values_looked_at" 516, code := vr 311 } }) : Addr × Obj) ::
  ((nat_lit 313, { cls := Value.type "tuple", data := Data.seq #[] }) : Addr × Obj) ::
  ((nat_lit 315, { cls := Value.type "tuple", data := Data.seq #[vs "_law_d" 581, vs "_law_near" 582] }) : Addr × Obj) ::
  ((nat_lit 316, { cls := Value.type "tuple", data := Data.seq #[] }) : Addr × Obj) ::
  ((nat_lit 318, { cls := Value.type "code", data := Data.fields #[vs "_law_bound" 578, vs "_law_bound" 579, vs "/claim/cut.py" 580, vi 144 0, vi 1 0, vi 0 0, vi 0 0, vi 3 0, vr 313, Value.bool true, vi 181 0, vr 314, Value.none, vr 315, vr 316, vr 317, vi 583 0, vi 144 0, vs "/claim/cut.py" 584] }) : Addr × Obj) ::
  ((nat_lit 319, { cls := Value.type "function", data := Data.func { name := u "_law_bound", qualname := u "_law_bound", params := TA 26, body := FuncBody.stmts (TB 26), scope := TS 26, globals := 3, closure := [], defaults := Value.none, kwdefaults := Value.none, pyModule := vs "law_lanescribe_k03_values_looked_at" 516, code := vr 318 } }) : Addr × Obj) ::
  ((nat_lit 320, { cls := Value.type "tuple", data := Data.seq #[] }) : Addr × Obj) ::
  ((nat_lit 322, { cls := Value.type "tuple", data := Data.seq #[vs "_law_d" 589, vs "_law_many" 590, vs "_law_names" 591, vs "_law_found" 592, vs "_law_title" 593, vs "_law_low" 594, vs "_law_high" 595] }) : Addr × Obj) ::
  ((nat_lit 323, { cls := Value.type "tuple", data := Data.seq #[] }) : Addr × Obj) ::
  ((nat_lit 325, { cls := Value.type "code", data := Data.fields #[vs "_law_fields" 586, vs "_law_fields" 587, vs "/claim/cut.py" 588, vi 147 0, vi 2 0, vi 0 0, vi 0 0, vi 3 0, vr 320, Value.bool true, vi 181 0, vr 321, Value.none, vr 322, vr 323, vr 324, vi 596 0, vi 147 0, vs "/claim/cut.py" 597] }) : Addr × Obj) ::
  ((nat_lit 326, { cls := Value.type "function", data := Data.func { name := u "_law_fields", qualname := u "_law_fields", params := TA 27, body := FuncBody.stmts (TB 27), scope := TS 27, globals := 3, closure := [], defaults := Value.none, kwdefaults := Value.none, pyModule := vs "law_lanescribe_k03_values_looked_at" 516, code := vr 325 } }) : Addr × Obj) ::
  ((nat_lit 327, { cls := Value.type "tuple", data := Data.seq #[] }) : Addr × Obj) ::
  ((nat_lit 329, { cls := Value.type "tuple", data := Data.seq #[vs "_law_d" 602, vs "_law_field" 603, vs "_law_title" 604, vs "_law_low" 605, vs "_law_high" 606] }) : Addr × Obj) ::
  ((nat_lit 330, { cls := Value.type "tuple", data := Data.seq #[] }) : Addr × Obj) ::
  ((nat_lit 332, { cls := Value.type "code", data := Data.fields #[vs "_law_value" 599, vs "_law_value" 600, vs "/claim/cut.py" 601, vi 155 0, vi 2 0, vi 0 0, vi 0 0, vi 3 0, vr 327, Value.bool true, vi 181 0, vr 328, Value.none, vr 329, vr 330, vr 331, vi 607 0, vi 155 0, vs "/claim/cut.py" 608] }) : Addr × Obj) ::
  ((nat_lit 333, { cls := Value.type "function", data := Data.func { name := u "_law_value", qualname := u "_law_value", params := TA 28, body := FuncBody.stmts (TB 28), scope := TS 28, globals := 3, closure := [], defaults := Value.none, kwdefaults := Value.none, pyModule := vs "law_lanescribe_k03_values_looked_at" 516, code := vr 332 } }) : Addr × Obj) ::
  ((nat_lit 334, { cls := Value.type "tuple", data := Data.seq #[] }) : Addr × Obj) ::
  ((nat_lit 337, { cls := Value.type "code", data := Data.fields #[vs "_law_values" 610, vs "_law_values" 611, vs "/claim/cut.py" 612, vi 158 0, vi 2 0, vi 0 0, vi 0 0, vi 3 0, vr 334, Value.bool true, vi 181 0, vr 335, Value.none, Value.none, Value.none, vr 336, vi 613 0, vi 158 0, vs "/claim/cut.py" 614] }) : Addr × Obj) ::
  ((nat_lit 338, { cls := Value.type "function", data := Data.func { name := u "_law_values", qualname := u "_law_values", params := TA 29, body := FuncBody.stmts (TB 29), scope := TS 29, globals := 3, closure := [], defaults := Value.none, kwdefaults := Value.none, pyModule := vs "law_lanescribe_k03_values_looked_at" 516, code := vr 337 } }) : Addr × Obj) ::
  ((nat_lit 339, { cls := Value.type "tuple", data := Data.seq #[] }) : Addr × Obj) ::
  ((nat_lit 341, { cls := Value.type "tuple", data := Data.seq #[vs "_law_ask_here" 619, vs "_law_told" 620, vs "_law_word_here" 621, vs "e" 622] }) : Addr × Obj) ::
  ((nat_lit 342, { cls := Value.type "tuple", data := Data.seq #[] }) : Addr × Obj) ::
  ((nat_lit 344, { cls := Value.type "code", data := Data.fields #[vs "_law_ask" 616, vs "_law_ask" 617, vs "/claim/cut.py" 618, vi 160 0, vi 1 0, vi 0 0, vi 0 0, vi 3 0, vr 339, Value.bool true, vi 181 0, vr 340, Value.none, vr 341, vr 342, vr 343, vi 623 0, vi 160 0, vs "/claim/cut.py" 624] }) : Addr × Obj) ::
  ((nat_lit 345, { cls := Value.type "function", data := Data.func { name := u "_law_ask", qualname := u "_law_ask", params := TA 30, body := FuncBody.stmts (TB 30), scope := TS 30, globals := 3, closure := [], defaults := Value.none, kwdefaults := Value.none, pyModule := vs "law_lanescribe_k03_values_looked_at" 516, code := vr 344 } }) : Addr × Obj) ::
  ((nat_lit 346, { cls := Value.type "tuple", data := Data.seq #[] }) : Addr × Obj) ::
  ((nat_lit 348, { cls := Value.type "tuple", data := Data.seq #[vs "_law_d" 629, vs "_law_fields_here" 630, vs "_law_values_here" 631, vs "_law_some" 632, vs "_law_step" 633, vs "_law_at" 634, vs "_law_way" 635] }) : Addr × Obj) ::
  ((nat_lit 349, { cls := Value.type "tuple", data := Data.seq #[] }) : Addr × Obj) ::
  ((nat_lit 351, { cls := Value.type "code", data := Data.fields #[vs "_law_bent_values" 626, vs "_law_bent_values" 627, vs "/claim/cut.py" 628, vi 172 0, vi 3 0, vi 0 0, vi 0 0, vi 3 0, vr 346, Value.bool true, vi 181 0, vr 347, Value.none, vr 348, vr 349, vr 350, vi 636 0, vi 172 0, vs "/claim/cut.py" 637] }) : Addr × Obj) ::
  ((nat_lit 352, { cls := Value.type "function", data := Data.func { name := u "_law_bent_values", qualname := u "_law_bent_values", params := TA 31, body := FuncBody.stmts (TB 31), scope := TS 31, globals := 3, closure := [], defaults := Value.none, kwdefaults := Value.none, pyModule := vs "law_lanescribe_k03_values_looked_at" 516, code := vr 351 } }) : Addr × Obj) ::
  ((nat_lit 353, { cls := Value.type "tuple", data := Data.seq #[] }) : Addr × Obj) ::
  ((nat_lit 355, { cls := Value.type "tuple", data := Data.seq #[vs "_law_fields_here" 642, vs "_law_values_here" 643, vs "_law_least" 644, vs "_law_at" 645] }) : Addr × Obj) ::
  ((nat_lit 356, { cls := Value.type "tuple", data := Data.seq #[] }) : Addr × Obj) ::
  ((nat_lit 358, { cls := Value.type "code", data := Data.fields #[vs "_law_values_word" 639, vs "_law_values_word" 640, vs "/claim/cut.py" 641, vi 184 0, vi 2 0, vi 0 0, vi 0 0, vi 3 0, vr 353, Value.bool true, vi 181 0, vr 354, Value.none, vr 355, vr 356, vr 357, vi 646 0, vi 184 0, vs "/claim/cut.py" 647] }) : Addr × Obj) ::
  ((nat_lit 359, { cls := Value.type "function", data := Data.func { name := u "_law_values_word", qualname := u "_law_values_word", params := TA 32, body := FuncBody.stmts (TB 32), scope := TS 32, globals := 3, closure := [], defaults := Value.none, kwdefaults := Value.none, pyModule := vs "law_lanescribe_k03_values_looked_at" 516, code := vr 358 } }) : Addr × Obj) ::
  ((nat_lit 360, { cls := Value.type "tuple", data := Data.seq #[] }) : Addr × Obj) ::
  ((nat_lit 362, { cls := Value.type "tuple", data := Data.seq #[vs "_law_script" 652, vs "_law_d" 653, vs "_law_turn" 654, vs "_law_fields_here" 655] }) : Addr × Obj) ::
  ((nat_lit 363, { cls := Value.type "tuple", data := Data.seq #[vs "_law_kind" 656, vs "_law_values_here" 657] }) : Addr × Obj) ::
  ((nat_lit 365, { cls := Value.type "code", data := Data.fields #[vs "law" 649, vs "law" 650, vs "/claim/cut.py" 651, vi 190 0, vi 1 0, vi 0 0, vi 0 0, vi 3 0, vr 360, Value.bool true, vi 181 0, vr 361, Value.none, vr 362, vr 363, vr 364, vi 658 0, vi 190 0, vs "/claim/cut.py" 659] }) : Addr × Obj) ::
  ((nat_lit 366, { cls := Value.type "function", data := Data.func { name := u "law", qualname := u "law", params := TA 33, body := FuncBody.stmts (TB 33), scope := TS 33, globals := 3, closure := [], defaults := Value.none, kwdefaults := Value.none, pyModule := vs "law_lanescribe_k03_values_looked_at" 516, code := vr 365 } }) : Addr × Obj) :: []
def asK : List Addr := [2, 3, 15, 17, 18, 20, 21, 22, 29, 30, 32, 33, 35, 36, 37, 38, 39, 40, 43, 50, 51, 53, 54, 56, 57, 58, 59, 60, 63, 70, 71, 73, 74, 76, 77, 78, 79, 80, 83, 90, 91, 93, 94, 96, 97, 98, 99, 100, 103, 110, 111, 113, 114, 116, 117, 118, 119, 120, 123, 130, 132, 133, 135, 136, 137, 138, 139, 142, 149, 150, 152, 153, 155, 156, 157, 158, 159, 160, 163, 165, 166, 168, 169, 170, 172, 173, 175, 176, 177, 179, 180, 182, 183, 184, 187, 188, 196, 197, 198, 200, 201, 203, 204, 205, 207, 208, 210, 211, 212, 214, 215, 217, 218, 219, 221, 222, 224, 225, 226, 228, 229, 231, 232, 233, 235, 236, 238, 239, 240, 242, 243, 245, 246, 247, 249, 250, 252, 253, 254, 256, 257, 259, 260, 261, 262, 263, 264, 265, 268, 270, 271, 273, 274, 275, 277, 278, 280, 281, 282, 284, 285, 287, 288, 289, 291, 292, 294, 295, 296, 299, 300, 301, 304, 305, 306, 308, 309, 311, 312, 313, 315, 316, 318, 319, 320, 322, 323, 325, 326, 327, 329, 330, 332, 333, 334, 337, 338, 339, 341, 342, 344, 345, 346, 348, 349, 351, 352, 353, 355, 356, 358, 359, 360, 362, 363, 365, 366]
theorem eK : ∀ P, asK = (KK P).map (·.1) := fun P => by kernel_rfl
def vw : Program := { PySem.Challenge.pw_lanescribe_k03_values_looked_at with main := { PySem.Challenge.pw_lanescribe_k03_values_looked_at.main with body := [tp 0, tp 2, tp 3, tp 4, tp 5, tp 6, tp 7, tp 8, tp 10, tp 11, tp 12, tp 13, tp 14, tp 15, tp 16, tp 17, tp 19, tp 20, tp 21, tp 22, tp 23, tp 24, tp 25, tp 26, tp 27, tp 28, tp 29, tp 30, tp 31, tp 32, tp 33] } }
def ls : List Str := [u "ScribeError", u "BadName", u "BadBounds", u "Taken", u "Full", u "Missing", u "Kind"]
def lv : List (Str × WData) := []
abbrev Xt : Shared → Bool := fun s => xlAt vw lv s && recOk (RowW.records (OpenRow.toRowW PySem.Challenge.rw_lanescribe_k03_values_looked_at.row)) s
abbrev hk : Hook := kmHook KK asK eK [361]
theorem said : PySem.Challenge.rw_lanescribe_k03_values_looked_at.wellSaid = true := by kernel_rfl
theorem openP : opening (OpenRow.toRowW PySem.Challenge.rw_lanescribe_k03_values_looked_at.row).prog = plainProg (OpenRow.toRowW PySem.Challenge.rw_lanescribe_k03_values_looked_at.row).prog.main.scope.names := by kernel_rfl
/-- the top by parts -/
theorem by_parts {p : Program} {w : World} {N L : Nat} {s0 s' : Shared} {t' : Thread} {m0 : Nat} {ann : Option Value} {β : Type} {F : Shared → β} {X : β} (h1 : (s0.heap.isNs mainGlobals && s0.gens.size == 0) = true) (h2 : s0.heap.objs.size = m0) (h3 : s0.heap.nsMap mainGlobals "__annotations__" = ann)
    (chain : ∀ r, topRun treeTable p w m0 ann L s' t' = some r → topRun treeTable p w m0 ann N s0 (topStub p) = some r)
    (last : ((topRun treeTable p w m0 ann L s' t').bind fun s₁ => match staticsOk (importedModules p.main.body) s0.heap s₁.heap && namesBound p s₁.heap && gensDone s₁ && laidKept s0.heap s₁.heap with
      | true => some s₁
      | false => none).map F = some X) : (topFrom treeTable p w N s0).map F = some X := by
  cases hA : topRun treeTable p w m0 ann L s' t' with
  | none => rw [hA] at last; cases last
  | some r =>
    have e := chain r hA
    unfold topFrom
    rw [h1, h2, h3, e]
    rw [hA] at last
    exact last
abbrev pp : Program := (OpenRow.toRowW PySem.Challenge.rw_lanescribe_k03_values_looked_at.row).prog
def env : Env := { scope := pp.main.scope, locals := mainNs, globals := mainNs, cells := [], code := vr 13, frame := some 14 }
abbrev cd : Code := .body (behindTheImports pp) env
abbrev fp : Pos := { line := 0, col := 0, endLine := 0, endCol := 0 }
abbrev an : Option Value := some (vr 6)
abbrev S_0 (w : World) (os : OsState) : Shared := ⟨boot_heap w.params, Array.mk [], boot_drawn, boot_toks, os⟩
def o0 (P : Params) : Obj := { cls := Value.type "tuple", data := Data.seq #[] }
def o1 (P : Params) : Obj := { cls := Value.none, data := Data.fields #[] }
def o2 (P : Params) : Obj := { cls := Value.type "code", data := Data.fields #[vs "<module>" 182, vs "<module>" 183, vs "/claim/cut.py" 184, vi 1 0, vi 0 0, vi 0 0, vi 0 0, vi 0 0, vr 11, Value.bool false, vi 181 0, vr 12, Value.none, Value.none, Value.none, Value.none, vi 185 0, vi 1 0, vs "/claim/cut.py" 186] }
def o3 (P : Params) : Obj := { cls := Value.type "frame", slots := #[some (vr 13), some (vr 3), some (vr 3), none, some (vs "__main__" 164), none, some (vr 0)] }
def h_a (P : Params) : Heap := ⟨⟨boot_o_0 P :: boot_o_1 P :: boot_o_2 P :: boot_o_3 P :: boot_o_4 P :: boot_o_5 P :: boot_o_6 P :: boot_o_7 P :: boot_o_8 P :: boot_o_9 P :: boot_o_10 P :: o0 P :: o1 P :: o2 P :: o3 P :: []⟩, { }⟩
abbrev S_a (w : World) (os : OsState) : Shared := ⟨h_a w.params, Array.mk [], { }, 187, os⟩
abbrev p_a : Pos := { line := 0, col := 0, endLine := 0, endCol := 0 }
def h_b (P : Params) : Heap := ⟨⟨boot_o_0 P :: boot_o_1 P :: boot_o_2 P :: boot_o_3 P :: boot_o_4 P :: boot_o_5 P :: boot_o_6 P :: boot_o_7 P :: boot_o_8 P :: boot_o_9 P :: boot_o_10 P :: o0 P :: o1 P :: o2 P :: o3 P :: []⟩, { }⟩
abbrev S_b (w : World) (os : OsState) : Shared := ⟨h_b w.params, Array.mk [], { }, 187, os⟩
abbrev p_b : Pos := { line := 0, col := 0, endLine := 0, endCol := 0 }
theorem r_a (w : World) (os : OsState) : topGo treeTable pp w 11 an 12 (S_0 w os) (topStub pp) = some (S_a w os, ⟨denote treeTable cd, cd, p_a, [topFrame fp]⟩) := by kernel_rfl
theorem r_b (w : World) (os : OsState) : segRun treeTable pp w 11 an 1 1 (S_a w os) (blockOf (behindTheImports pp) env cd p_a [topFrame fp]) = some (.next, S_b w os, cd, p_b) := by kernel_rfl
def o4 (P : Params) : Obj := { cls := Value.type "dict", data := Data.dict #[de P "__name__" 165 (vs "lanescribe.errors" 194), de P "__doc__" 166 (Value.none), de P "__package__" 167 (Value.none), de P "__loader__" 168 (Value.builtin "__main__.__loader__#opaque"), de P "__spec__" 169 (Value.none), de P "__annotations__" 170 (vr 6), de P "__builtins__" 171 (vr 4), de P "__file__" 173 (vs "/claim/cut.py" 172), de P "__cached__" 174 (Value.none), de P "_wall" 193 (vr 21), de P "ScribeError" 225 (vr 39), de P "BadName" 250 (vr 60), de P "BadBounds" 275 (vr 80), de P "Taken" 300 (vr 100), de P "Full" 325 (vr 120)] 15 }
def o5 (P : Params) : Obj := { cls := Value.none, data := Data.fields #[vi 1 0, vi 0 0, vr 20, vi 5 0, vi 0 0, vr 27, vi 10 0, vi 0 0, vr 48, vi 14 0, vi 0 0, vr 68, vi 18 0, vi 0 0, vr 88, vi 22 0, vi 0 0, vr 108] }
def o6 (P : Params) : Obj := { cls := Value.type "tuple", data := Data.seq #[vs "k" 190] }
def o7 (P : Params) : Obj := { cls := Value.none, data := Data.func { name := u "_wall", qualname := u "_wall", params := TA 0, body := FuncBody.stmts (TB 0), scope := TS 0, globals := 0, closure := [], defaults := Value.none, kwdefaults := Value.none } }
def o8 (P : Params) : Obj := { cls := Value.type "code", data := Data.fields #[vs "_wall" 187, vs "_wall" 188, vs "/claim/cut.py" 189, vi 1 0, vi 1 0, vi 0 0, vi 0 0, vi 3 0, vr 15, Value.bool true, vi 181 0, vr 16, Value.none, vr 17, vr 18, vr 19, vi 191 0, vi 1 0, vs "/claim/cut.py" 192] }
def o9 (P : Params) : Obj := { cls := Value.type "function", data := Data.func { name := u "_wall", qualname := u "_wall", params := TA 0, body := FuncBody.stmts (TB 0), scope := TS 0, globals := 3, closure := [], defaults := Value.none, kwdefaults := Value.none, pyModule := vs "__main__" 164, code := vr 20 } }
def o10 (P : Params) : Obj := { cls := Value.type "tuple", data := Data.seq #[Value.type "ValueError"] }
def o11 (P : Params) : Obj := { cls := Value.type "builtin_function_or_method", data := Data.fields #[Value.builtin "type.__prepare__", Value.type "type"] }
def o12 (P : Params) : Obj := { cls := Value.type "dict", data := Data.dict #[de P "__module__" 203 (vs "lanescribe.errors" 194), de P "__qualname__" 205 (vs "ScribeError" 204), de P "__firstlineno__" 207 (vi 5 206), de P "__init__" 218 (vr 36), de P "__static_attributes__" 220 (vr 37)] 5 }
def o13 (P : Params) : Obj := { cls := Value.none, data := Data.fields #[vi 7 0, vi 4 0, vr 35] }
def o14 (P : Params) : Obj := { cls := Value.type "code", data := Data.fields #[vs "ScribeError" 198, vs "ScribeError" 199, vs "/claim/cut.py" 200, vi 5 0, vi 0 0, vi 0 0, vi 0 0, vi 0 0, vr 25, Value.bool false, vi 181 0, vr 26, Value.none, Value.none, Value.none, Value.none, vi 201 0, vi 5 0, vs "/claim/cut.py" 202] }
def o15 (P : Params) : Obj := { cls := Value.type "frame", slots := #[some (vr 27), some (vr 3), some (vr 24), none, some (vs "lanescribe.errors" 194), none, some (vr 0)] }
def o16 (P : Params) : Obj := { cls := Value.type "tuple", data := Data.seq #[vs "" 208, vs "scribeerror" 209] }
def o17 (P : Params) : Obj := { cls := Value.type "tuple", data := Data.seq #[vs "self" 213, vs "words" 214, vs "word" 215] }
def o18 (P : Params) : Obj := { cls := Value.none, data := Data.func { name := u "__init__", qualname := u "ScribeError.__init__", params := MA 2 0, body := FuncBody.stmts (MB 2 0), scope := MS 2 0, globals := 0, closure := [], defaults := Value.none, kwdefaults := Value.none } }
def o19 (P : Params) : Obj := { cls := Value.type "code", data := Data.fields #[vs "__init__" 210, vs "ScribeError.__init__" 211, vs "/claim/cut.py" 212, vi 7 0, vi 3 0, vi 0 0, vi 0 0, vi 3 0, vr 30, Value.bool true, vi 181 0, vr 31, Value.none, vr 32, vr 33, vr 34, vi 216 0, vi 7 0, vs "/claim/cut.py" 217] }
def o20 (P : Params) : Obj := { cls := Value.type "function", data := Data.func { name := u "__init__", qualname := u "ScribeError.__init__", params := MA 2 0, body := FuncBody.stmts (MB 2 0), scope := MS 2 0, globals := 3, closure := [], defaults := vr 29, kwdefaults := Value.none, pyModule := vs "lanescribe.errors" 194, code := vr 35 } }
def o21 (P : Params) : Obj := { cls := Value.type "tuple", data := Data.seq #[vs "word" 219] }
def o22 (P : Params) : Obj := { cls := Value.type "dict", data := Data.dict #[de P "__module__" 203 (vs "lanescribe.errors" 194), de P "__firstlineno__" 207 (vi 5 206), de P "__init__" 218 (vr 36), de P "__static_attributes__" 220 (vr 37), de P "__weakref__" 222 (vr 40), de P "__doc__" 223 (Value.none)] 3 }
def o23 (P : Params) : Obj := { cls := Value.type "type", data := Data.cls { name := u "ScribeError", bases := [Value.type "ValueError"], mro := [vr 39, Value.type "ValueError", Value.type "Exception", Value.type "BaseException", Value.type "object"], ns := 38, qualname := u "ScribeError", subclasses := [vr 60, vr 80, vr 100, vr 120] }, slots := #[some (vr 22), none, some (vs "ScribeError" 196), some (vs "ScribeError" 204), some (Value.builtin "ValueError.__new__"), some (Value.bool true)] }
def o24 (P : Params) : Obj := { cls := Value.type "getset_descriptor", data := Data.fields #[vs "__weakref__" 221, vr 39, Value.builtin "ExceptionGroup.__weakref__", Value.none] }
def o25 (P : Params) : Obj := { cls := Value.type "super", data := Data.fields #[vr 39, vr 39, vr 39] }
def o26 (P : Params) : Obj := { cls := Value.type "builtin_function_or_method", data := Data.fields #[Value.builtin "object.__init_subclass__", vr 39] }
def o27 (P : Params) : Obj := { cls := Value.type "tuple", data := Data.seq #[vr 39] }
def o28 (P : Params) : Obj := { cls := Value.type "dict", data := Data.dict #[de P "__module__" 233 (vs "lanescribe.errors" 194), de P "__qualname__" 235 (vs "BadName" 234), de P "__firstlineno__" 237 (vi 10 236), de P "__init__" 246 (vr 57), de P "__static_attributes__" 247 (vr 58)] 5 }
def o29 (P : Params) : Obj := { cls := Value.none, data := Data.fields #[vi 12 0, vi 4 0, vr 56] }
def o30 (P : Params) : Obj := { cls := Value.type "code", data := Data.fields #[vs "BadName" 228, vs "BadName" 229, vs "/claim/cut.py" 230, vi 10 0, vi 0 0, vi 0 0, vi 0 0, vi 0 0, vr 46, Value.bool false, vi 181 0, vr 47, Value.none, Value.none, Value.none, Value.none, vi 231 0, vi 10 0, vs "/claim/cut.py" 232] }
def o31 (P : Params) : Obj := { cls := Value.type "frame", slots := #[some (vr 48), some (vr 3), some (vr 45), none, some (vs "lanescribe.errors" 194), none, some (vr 0)] }
def o32 (P : Params) : Obj := { cls := Value.type "tuple", data := Data.seq #[vs "" 238] }
def o33 (P : Params) : Obj := { cls := Value.type "tuple", data := Data.seq #[vs "self" 242, vs "words" 243] }
def o34 (P : Params) : Obj := { cls := Value.none, data := Data.func { name := u "__init__", qualname := u "BadName.__init__", params := MA 3 0, body := FuncBody.stmts (MB 3 0), scope := MS 3 0, globals := 0, closure := [], defaults := Value.none, kwdefaults := Value.none } }
def o35 (P : Params) : Obj := { cls := Value.type "code", data := Data.fields #[vs "__init__" 239, vs "BadName.__init__" 240, vs "/claim/cut.py" 241, vi 12 0, vi 2 0, vi 0 0, vi 0 0, vi 3 0, vr 51, Value.bool true, vi 181 0, vr 52, Value.none, vr 53, vr 54, vr 55, vi 244 0, vi 12 0, vs "/claim/cut.py" 245] }
def o36 (P : Params) : Obj := { cls := Value.type "function", data := Data.func { name := u "__init__", qualname := u "BadName.__init__", params := MA 3 0, body := FuncBody.stmts (MB 3 0), scope := MS 3 0, globals := 3, closure := [], defaults := vr 50, kwdefaults := Value.none, pyModule := vs "lanescribe.errors" 194, code := vr 56 } }
def o37 (P : Params) : Obj := { cls := Value.type "dict", data := Data.dict #[de P "__module__" 233 (vs "lanescribe.errors" 194), de P "__firstlineno__" 237 (vi 10 236), de P "__init__" 246 (vr 57), de P "__static_attributes__" 247 (vr 58), de P "__doc__" 248 (Value.none)] 2 }
def o38 (P : Params) : Obj := { cls := Value.type "type", data := Data.cls { name := u "BadName", bases := [vr 39], mro := [vr 60, vr 39, Value.type "ValueError", Value.type "Exception", Value.type "BaseException", Value.type "object"], ns := 59, qualname := u "BadName" }, slots := #[some (vr 43), none, some (vs "BadName" 226), some (vs "BadName" 234), some (Value.builtin "ValueError.__new__"), some (Value.bool true)] }
def o39 (P : Params) : Obj := { cls := Value.type "super", data := Data.fields #[vr 60, vr 60, vr 60] }
def o40 (P : Params) : Obj := { cls := Value.type "builtin_function_or_method", data := Data.fields #[Value.builtin "object.__init_subclass__", vr 60] }
def o41 (P : Params) : Obj := { cls := Value.type "dict", data := Data.dict #[de P "__module__" 258 (vs "lanescribe.errors" 194), de P "__qualname__" 260 (vs "BadBounds" 259), de P "__firstlineno__" 262 (vi 14 261), de P "__init__" 271 (vr 77), de P "__static_attributes__" 272 (vr 78)] 5 }
def o42 (P : Params) : Obj := { cls := Value.none, data := Data.fields #[vi 16 0, vi 4 0, vr 76] }
def o43 (P : Params) : Obj := { cls := Value.type "code", data := Data.fields #[vs "BadBounds" 253, vs "BadBounds" 254, vs "/claim/cut.py" 255, vi 14 0, vi 0 0, vi 0 0, vi 0 0, vi 0 0, vr 66, Value.bool false, vi 181 0, vr 67, Value.none, Value.none, Value.none, Value.none, vi 256 0, vi 14 0, vs "/claim/cut.py" 257] }
def o44 (P : Params) : Obj := { cls := Value.type "frame", slots := #[some (vr 68), some (vr 3), some (vr 65), none, some (vs "lanescribe.errors" 194), none, some (vr 0)] }
def o45 (P : Params) : Obj := { cls := Value.type "tuple", data := Data.seq #[vs "" 263] }
def o46 (P : Params) : Obj := { cls := Value.type "tuple", data := Data.seq #[vs "self" 267, vs "words" 268] }
def o47 (P : Params) : Obj := { cls := Value.none, data := Data.func { name := u "__init__", qualname := u "BadBounds.__init__", params := MA 4 0, body := FuncBody.stmts (MB 4 0), scope := MS 4 0, globals := 0, closure := [], defaults := Value.none, kwdefaults := Value.none } }
def o48 (P : Params) : Obj := { cls := Value.type "code", data := Data.fields #[vs "__init__" 264, vs "BadBounds.__init__" 265, vs "/claim/cut.py" 266, vi 16 0, vi 2 0, vi 0 0, vi 0 0, vi 3 0, vr 71, Value.bool true, vi 181 0, vr 72, Value.none, vr 73, vr 74, vr 75, vi 269 0, vi 16 0, vs "/claim/cut.py" 270] }
def o49 (P : Params) : Obj := { cls := Value.type "function", data := Data.func { name := u "__init__", qualname := u "BadBounds.__init__", params := MA 4 0, body := FuncBody.stmts (MB 4 0), scope := MS 4 0, globals := 3, closure := [], defaults := vr 70, kwdefaults := Value.none, pyModule := vs "lanescribe.errors" 194, code := vr 76 } }
def o50 (P : Params) : Obj := { cls := Value.type "dict", data := Data.dict #[de P "__module__" 258 (vs "lanescribe.errors" 194), de P "__firstlineno__" 262 (vi 14 261), de P "__init__" 271 (vr 77), de P "__static_attributes__" 272 (vr 78), de P "__doc__" 273 (Value.none)] 2 }
def o51 (P : Params) : Obj := { cls := Value.type "type", data := Data.cls { name := u "BadBounds", bases := [vr 39], mro := [vr 80, vr 39, Value.type "ValueError", Value.type "Exception", Value.type "BaseException", Value.type "object"], ns := 79, qualname := u "BadBounds" }, slots := #[some (vr 63), none, some (vs "BadBounds" 251), some (vs "BadBounds" 259), some (Value.builtin "ValueError.__new__"), some (Value.bool true)] }
def o52 (P : Params) : Obj := { cls := Value.type "super", data := Data.fields #[vr 80, vr 80, vr 80] }
def o53 (P : Params) : Obj := { cls := Value.type "builtin_function_or_method", data := Data.fields #[Value.builtin "object.__init_subclass__", vr 80] }
def o54 (P : Params) : Obj := { cls := Value.type "dict", data := Data.dict #[de P "__module__" 283 (vs "lanescribe.errors" 194), de P "__qualname__" 285 (vs "Taken" 284), de P "__firstlineno__" 287 (vi 18 286), de P "__init__" 296 (vr 97), de P "__static_attributes__" 297 (vr 98)] 5 }
def o55 (P : Params) : Obj := { cls := Value.none, data := Data.fields #[vi 20 0, vi 4 0, vr 96] }
def o56 (P : Params) : Obj := { cls := Value.type "code", data := Data.fields #[vs "Taken" 278, vs "Taken" 279, vs "/claim/cut.py" 280, vi 18 0, vi 0 0, vi 0 0, vi 0 0, vi 0 0, vr 86, Value.bool false, vi 181 0, vr 87, Value.none, Value.none, Value.none, Value.none, vi 281 0, vi 18 0, vs "/claim/cut.py" 282] }
def o57 (P : Params) : Obj := { cls := Value.type "frame", slots := #[some (vr 88), some (vr 3), some (vr 85), none, some (vs "lanescribe.errors" 194), none, some (vr 0)] }
def o58 (P : Params) : Obj := { cls := Value.type "tuple", data := Data.seq #[vs "" 288] }
def o59 (P : Params) : Obj := { cls := Value.type "tuple", data := Data.seq #[vs "self" 292, vs "words" 293] }
def o60 (P : Params) : Obj := { cls := Value.none, data := Data.func { name := u "__init__", qualname := u "Taken.__init__", params := MA 5 0, body := FuncBody.stmts (MB 5 0), scope := MS 5 0, globals := 0, closure := [], defaults := Value.none, kwdefaults := Value.none } }
def o61 (P : Params) : Obj := { cls := Value.type "code", data := Data.fields #[vs "__init__" 289, vs "Taken.__init__" 290, vs "/claim/cut.py" 291, vi 20 0, vi 2 0, vi 0 0, vi 0 0, vi 3 0, vr 91, Value.bool true, vi 181 0, vr 92, Value.none, vr 93, vr 94, vr 95, vi 294 0, vi 20 0, vs "/claim/cut.py" 295] }
def o62 (P : Params) : Obj := { cls := Value.type "function", data := Data.func { name := u "__init__", qualname := u "Taken.__init__", params := MA 5 0, body := FuncBody.stmts (MB 5 0), scope := MS 5 0, globals := 3, closure := [], defaults := vr 90, kwdefaults := Value.none, pyModule := vs "lanescribe.errors" 194, code := vr 96 } }
def o63 (P : Params) : Obj := { cls := Value.type "dict", data := Data.dict #[de P "__module__" 283 (vs "lanescribe.errors" 194), de P "__firstlineno__" 287 (vi 18 286), de P "__init__" 296 (vr 97), de P "__static_attributes__" 297 (vr 98), de P "__doc__" 298 (Value.none)] 2 }
def o64 (P : Params) : Obj := { cls := Value.type "type", data := Data.cls { name := u "Taken", bases := [vr 39], mro := [vr 100, vr 39, Value.type "ValueError", Value.type "Exception", Value.type "BaseException", Value.type "object"], ns := 99, qualname := u "Taken" }, slots := #[some (vr 83), none, some (vs "Taken" 276), some (vs "Taken" 284), some (Value.builtin "ValueError.__new__"), some (Value.bool true)] }
def o65 (P : Params) : Obj := { cls := Value.type "super", data := Data.fields #[vr 100, vr 100, vr 100] }
def o66 (P : Params) : Obj := { cls := Value.type "builtin_function_or_method", data := Data.fields #[Value.builtin "object.__init_subclass__", vr 100] }
def o67 (P : Params) : Obj := { cls := Value.type "dict", data := Data.dict #[de P "__module__" 308 (vs "lanescribe.errors" 194), de P "__qualname__" 310 (vs "Full" 309), de P "__firstlineno__" 312 (vi 22 311), de P "__init__" 321 (vr 117), de P "__static_attributes__" 322 (vr 118)] 5 }
def o68 (P : Params) : Obj := { cls := Value.none, data := Data.fields #[vi 24 0, vi 4 0, vr 116] }
def o69 (P : Params) : Obj := { cls := Value.type "code", data := Data.fields #[vs "Full" 303, vs "Full" 304, vs "/claim/cut.py" 305, vi 22 0, vi 0 0, vi 0 0, vi 0 0, vi 0 0, vr 106, Value.bool false, vi 181 0, vr 107, Value.none, Value.none, Value.none, Value.none, vi 306 0, vi 22 0, vs "/claim/cut.py" 307] }
def o70 (P : Params) : Obj := { cls := Value.type "frame", slots := #[some (vr 108), some (vr 3), some (vr 105), none, some (vs "lanescribe.errors" 194), none, some (vr 0)] }
def o71 (P : Params) : Obj := { cls := Value.type "tuple", data := Data.seq #[vs "" 313] }
def o72 (P : Params) : Obj := { cls := Value.type "tuple", data := Data.seq #[vs "self" 317, vs "words" 318] }
def o73 (P : Params) : Obj := { cls := Value.none, data := Data.func { name := u "__init__", qualname := u "Full.__init__", params := MA 6 0, body := FuncBody.stmts (MB 6 0), scope := MS 6 0, globals := 0, closure := [], defaults := Value.none, kwdefaults := Value.none } }
def o74 (P : Params) : Obj := { cls := Value.type "code", data := Data.fields #[vs "__init__" 314, vs "Full.__init__" 315, vs "/claim/cut.py" 316, vi 24 0, vi 2 0, vi 0 0, vi 0 0, vi 3 0, vr 111, Value.bool true, vi 181 0, vr 112, Value.none, vr 113, vr 114, vr 115, vi 319 0, vi 24 0, vs "/claim/cut.py" 320] }
def o75 (P : Params) : Obj := { cls := Value.type "function", data := Data.func { name := u "__init__", qualname := u "Full.__init__", params := MA 6 0, body := FuncBody.stmts (MB 6 0), scope := MS 6 0, globals := 3, closure := [], defaults := vr 110, kwdefaults := Value.none, pyModule := vs "lanescribe.errors" 194, code := vr 116 } }
def o76 (P : Params) : Obj := { cls := Value.type "dict", data := Data.dict #[de P "__module__" 308 (vs "lanescribe.errors" 194), de P "__firstlineno__" 312 (vi 22 311), de P "__init__" 321 (vr 117), de P "__static_attributes__" 322 (vr 118), de P "__doc__" 323 (Value.none)] 2 }
def o77 (P : Params) : Obj := { cls := Value.type "type", data := Data.cls { name := u "Full", bases := [vr 39], mro := [vr 120, vr 39, Value.type "ValueError", Value.type "Exception", Value.type "BaseException", Value.type "object"], ns := 119, qualname := u "Full" }, slots := #[some (vr 103), none, some (vs "Full" 301), some (vs "Full" 309), some (Value.builtin "ValueError.__new__"), some (Value.bool true)] }
def o78 (P : Params) : Obj := { cls := Value.type "super", data := Data.fields #[vr 120, vr 120, vr 120] }
def o79 (P : Params) : Obj := { cls := Value.type "builtin_function_or_method", data := Data.fields #[Value.builtin "object.__init_subclass__", vr 120] }
def h_c7 (P : Params) : Heap := ⟨⟨boot_o_0 P :: boot_o_1 P :: boot_o_2 P :: o4 P :: boot_o_4 P :: boot_o_5 P :: boot_o_6 P :: boot_o_7 P :: boot_o_8 P :: boot_o_9 P :: boot_o_10 P :: o0 P :: o5 P :: o2 P :: o3 P :: o0 P :: o1 P :: o6 P :: o0 P :: o7 P :: o8 P :: o9 P :: o10 P :: o11 P :: o12 P :: o0 P :: o13 P :: o14 P :: o15 P :: o16 P :: o0 P :: o1 P :: o17 P :: o0 P :: o18 P :: o19 P :: o20 P :: o21 P :: o22 P :: o23 P :: o24 P :: o25 P :: o26 P :: o27 P :: o11 P :: o28 P :: o0 P :: o29 P :: o30 P :: o31 P :: o32 P :: o0 P :: o1 P :: o33 P :: o0 P :: o34 P :: o35 P :: o36 P :: o0 P :: o37 P :: o38 P :: o39 P :: o40 P :: o27 P :: o11 P :: o41 P :: o0 P :: o42 P :: o43 P :: o44 P :: o45 P :: o0 P :: o1 P :: o46 P :: o0 P :: o47 P :: o48 P :: o49 P :: o0 P :: o50 P :: o51 P :: o52 P :: o53 P :: o27 P :: o11 P :: o54 P :: o0 P :: o55 P :: o56 P :: o57 P :: o58 P :: o0 P :: o1 P :: o59 P :: o0 P :: o60 P :: o61 P :: o62 P :: o0 P :: o63 P :: o64 P :: o65 P :: o66 P :: o27 P :: o11 P :: o67 P :: o0 P :: o68 P :: o69 P :: o70 P :: o71 P :: o0 P :: o1 P :: o72 P :: o0 P :: o73 P :: o74 P :: o75 P :: o0 P :: o76 P :: o77 P :: o78 P :: o79 P :: []⟩, { }⟩
abbrev S_c7 (w : World) (os : OsState) : Shared := ⟨h_c7 w.params, Array.mk [], { }, 326, os⟩
abbrev p_c7 : Pos := { line := 22, col := 0, endLine := 25, endCol := 49 }
abbrev l_7 : List Stmt := ((behindTheImports pp).drop 0).take 7
theorem r_7 (w : World) (os : OsState) : segRun treeTable pp w 11 an 1 1245 (S_b w os) (piecesOf l_7 env cd p_b [topFrame fp]) = some (.next, S_c7 w os, cd, p_c7) := by kernel_rfl
def o80 (P : Params) : Obj := { cls := Value.type "dict", data := Data.dict #[de P "__name__" 165 (vs "lanescribe.kinds" 381), de P "__doc__" 166 (Value.none), de P "__package__" 167 (Value.none), de P "__loader__" 168 (Value.builtin "__main__.__loader__#opaque"), de P "__spec__" 169 (Value.none), de P "__annotations__" 170 (vr 6), de P "__builtins__" 171 (vr 4), de P "__file__" 173 (vs "/claim/cut.py" 172), de P "__cached__" 174 (Value.none), de P "_wall" 193 (vr 21), de P "ScribeError" 225 (vr 39), de P "BadName" 250 (vr 60), de P "BadBounds" 275 (vr 80), de P "Taken" 300 (vr 100), de P "Full" 325 (vr 120), de P "BadValue" 350 (vr 139), de P "Missing" 380 (vr 159), de P "LIMIT" 384 (vi 999999 383), de P "MOST_LETTERS" 386 (vi 8 385), de P "MOST_FIELDS" 388 (vi 4 387), de P "is_name" 395 (vr 169), de P "need_name" 402 (vr 176), de P "need_fields" 413 (vr 183), de P "bounds_text" 419 (vr 188), de P "Kind" 515 (vr 263)] 25 }
def o81 (P : Params) : Obj := { cls := Value.none, data := Data.fields #[vi 1 0, vi 0 0, vr 20, vi 5 0, vi 0 0, vr 27, vi 10 0, vi 0 0, vr 48, vi 14 0, vi 0 0, vr 68, vi 18 0, vi 0 0, vr 88, vi 22 0, vi 0 0, vr 108, vi 26 0, vi 0 0, vr 128, vi 31 0, vi 0 0, vr 147, vi 40 0, vi 0 0, vr 168, vi 42 0, vi 0 0, vr 175, vi 45 0, vi 0 0, vr 182, vi 54 0, vi 0 0, vr 187, vi 56 0, vi 0 0, vr 194] }
def o82 (P : Params) : Obj := { cls := Value.type "type", data := Data.cls { name := u "ScribeError", bases := [Value.type "ValueError"], mro := [vr 39, Value.type "ValueError", Value.type "Exception", Value.type "BaseException", Value.type "object"], ns := 38, qualname := u "ScribeError", subclasses := [vr 60, vr 80, vr 100, vr 120, vr 139] }, slots := #[some (vr 22), none, some (vs "ScribeError" 196), some (vs "ScribeError" 204), some (Value.builtin "ValueError.__new__"), some (Value.bool true)] }
def o83 (P : Params) : Obj := { cls := Value.type "dict", data := Data.dict #[de P "__module__" 333 (vs "lanescribe.errors" 194), de P "__qualname__" 335 (vs "BadValue" 334), de P "__firstlineno__" 337 (vi 26 336), de P "__init__" 345 (vr 136), de P "__static_attributes__" 347 (vr 137)] 5 }
def o84 (P : Params) : Obj := { cls := Value.none, data := Data.fields #[vi 28 0, vi 4 0, vr 135] }
def o85 (P : Params) : Obj := { cls := Value.type "code", data := Data.fields #[vs "BadValue" 328, vs "BadValue" 329, vs "/claim/cut.py" 330, vi 26 0, vi 0 0, vi 0 0, vi 0 0, vi 0 0, vr 126, Value.bool false, vi 181 0, vr 127, Value.none, Value.none, Value.none, Value.none, vi 331 0, vi 26 0, vs "/claim/cut.py" 332] }
def o86 (P : Params) : Obj := { cls := Value.type "frame", slots := #[some (vr 128), some (vr 3), some (vr 125), none, some (vs "lanescribe.errors" 194), none, some (vr 0)] }
def o87 (P : Params) : Obj := { cls := Value.type "tuple", data := Data.seq #[vs "self" 341, vs "at" 342] }
def o88 (P : Params) : Obj := { cls := Value.none, data := Data.func { name := u "__init__", qualname := u "BadValue.__init__", params := MA 7 0, body := FuncBody.stmts (MB 7 0), scope := MS 7 0, globals := 0, closure := [], defaults := Value.none, kwdefaults := Value.none } }
def o89 (P : Params) : Obj := { cls := Value.type "code", data := Data.fields #[vs "__init__" 338, vs "BadValue.__init__" 339, vs "/claim/cut.py" 340, vi 28 0, vi 2 0, vi 0 0, vi 0 0, vi 3 0, vr 130, Value.bool true, vi 181 0, vr 131, Value.none, vr 132, vr 133, vr 134, vi 343 0, vi 28 0, vs "/claim/cut.py" 344] }
def o90 (P : Params) : Obj := { cls := Value.type "function", data := Data.func { name := u "__init__", qualname := u "BadValue.__init__", params := MA 7 0, body := FuncBody.stmts (MB 7 0), scope := MS 7 0, globals := 3, closure := [], defaults := Value.none, kwdefaults := Value.none, pyModule := vs "lanescribe.errors" 194, code := vr 135 } }
def o91 (P : Params) : Obj := { cls := Value.type "tuple", data := Data.seq #[vs "at" 346] }
def o92 (P : Params) : Obj := { cls := Value.type "dict", data := Data.dict #[de P "__module__" 333 (vs "lanescribe.errors" 194), de P "__firstlineno__" 337 (vi 26 336), de P "__init__" 345 (vr 136), de P "__static_attributes__" 347 (vr 137), de P "__doc__" 348 (Value.none)] 2 }
def o93 (P : Params) : Obj := { cls := Value.type "type", data := Data.cls { name := u "BadValue", bases := [vr 39], mro := [vr 139, vr 39, Value.type "ValueError", Value.type "Exception", Value.type "BaseException", Value.type "object"], ns := 138, qualname := u "BadValue" }, slots := #[some (vr 123), none, some (vs "BadValue" 326), some (vs "BadValue" 334), some (Value.builtin "ValueError.__new__"), some (Value.bool true)] }
def o94 (P : Params) : Obj := { cls := Value.type "super", data := Data.fields #[vr 139, vr 139, vr 139] }
def o95 (P : Params) : Obj := { cls := Value.type "builtin_function_or_method", data := Data.fields #[Value.builtin "object.__init_subclass__", vr 139] }
def o96 (P : Params) : Obj := { cls := Value.type "tuple", data := Data.seq #[Value.type "LookupError"] }
def o97 (P : Params) : Obj := { cls := Value.type "dict", data := Data.dict #[de P "__module__" 358 (vs "lanescribe.errors" 194), de P "__qualname__" 360 (vs "Missing" 359), de P "__firstlineno__" 362 (vi 31 361), de P "__init__" 373 (vr 156), de P "__static_attributes__" 375 (vr 157)] 5 }
def o98 (P : Params) : Obj := { cls := Value.none, data := Data.fields #[vi 33 0, vi 4 0, vr 155] }
def o99 (P : Params) : Obj := { cls := Value.type "code", data := Data.fields #[vs "Missing" 353, vs "Missing" 354, vs "/claim/cut.py" 355, vi 31 0, vi 0 0, vi 0 0, vi 0 0, vi 0 0, vr 145, Value.bool false, vi 181 0, vr 146, Value.none, Value.none, Value.none, Value.none, vi 356 0, vi 31 0, vs "/claim/cut.py" 357] }
def o100 (P : Params) : Obj := { cls := Value.type "frame", slots := #[some (vr 147), some (vr 3), some (vr 144), none, some (vs "lanescribe.errors" 194), none, some (vr 0)] }
def o101 (P : Params) : Obj := { cls := Value.type "tuple", data := Data.seq #[vs "" 363, vs "missing" 364] }
def o102 (P : Params) : Obj := { cls := Value.type "tuple", data := Data.seq #[vs "self" 368, vs "words" 369, vs "word" 370] }
def o103 (P : Params) : Obj := { cls := Value.none, data := Data.func { name := u "__init__", qualname := u "Missing.__init__", params := MA 8 0, body := FuncBody.stmts (MB 8 0), scope := MS 8 0, globals := 0, closure := [], defaults := Value.none, kwdefaults := Value.none } }
def o104 (P : Params) : Obj := { cls := Value.type "code", data := Data.fields #[vs "__init__" 365, vs "Missing.__init__" 366, vs "/claim/cut.py" 367, vi 33 0, vi 3 0, vi 0 0, vi 0 0, vi 3 0, vr 150, Value.bool true, vi 181 0, vr 151, Value.none, vr 152, vr 153, vr 154, vi 371 0, vi 33 0, vs "/claim/cut.py" 372] }
def o105 (P : Params) : Obj := { cls := Value.type "function", data := Data.func { name := u "__init__", qualname := u "Missing.__init__", params := MA 8 0, body := FuncBody.stmts (MB 8 0), scope := MS 8 0, globals := 3, closure := [], defaults := vr 149, kwdefaults := Value.none, pyModule := vs "lanescribe.errors" 194, code := vr 155 } }
def o106 (P : Params) : Obj := { cls := Value.type "tuple", data := Data.seq #[vs "word" 374] }
def o107 (P : Params) : Obj := { cls := Value.type "dict", data := Data.dict #[de P "__module__" 358 (vs "lanescribe.errors" 194), de P "__firstlineno__" 362 (vi 31 361), de P "__init__" 373 (vr 156), de P "__static_attributes__" 375 (vr 157), de P "__weakref__" 377 (vr 160), de P "__doc__" 378 (Value.none)] 3 }
def o108 (P : Params) : Obj := { cls := Value.type "type", data := Data.cls { name := u "Missing", bases := [Value.type "LookupError"], mro := [vr 159, Value.type "LookupError", Value.type "Exception", Value.type "BaseException", Value.type "object"], ns := 158, qualname := u "Missing" }, slots := #[some (vr 142), none, some (vs "Missing" 351), some (vs "Missing" 359), some (Value.builtin "LookupError.__new__"), some (Value.bool true)] }
def o109 (P : Params) : Obj := { cls := Value.type "getset_descriptor", data := Data.fields #[vs "__weakref__" 376, vr 159, Value.builtin "ExceptionGroup.__weakref__", Value.none] }
def o110 (P : Params) : Obj := { cls := Value.type "super", data := Data.fields #[vr 159, vr 159, vr 159] }
def o111 (P : Params) : Obj := { cls := Value.type "builtin_function_or_method", data := Data.fields #[Value.builtin "object.__init_subclass__", vr 159] }
def o112 (P : Params) : Obj := { cls := Value.type "tuple", data := Data.seq #[vs "text" 392] }
def o113 (P : Params) : Obj := { cls := Value.none, data := Data.func { name := u "is_name", qualname := u "is_name", params := TA 13, body := FuncBody.stmts (TB 13), scope := TS 13, globals := 0, closure := [], defaults := Value.none, kwdefaults := Value.none } }
def o114 (P : Params) : Obj := { cls := Value.type "code", data := Data.fields #[vs "is_name" 389, vs "is_name" 390, vs "/claim/cut.py" 391, vi 40 0, vi 1 0, vi 0 0, vi 0 0, vi 3 0, vr 163, Value.bool true, vi 181 0, vr 164, Value.none, vr 165, vr 166, vr 167, vi 393 0, vi 40 0, vs "/claim/cut.py" 394] }
def o115 (P : Params) : Obj := { cls := Value.type "function", data := Data.func { name := u "is_name", qualname := u "is_name", params := TA 13, body := FuncBody.stmts (TB 13), scope := TS 13, globals := 3, closure := [], defaults := Value.none, kwdefaults := Value.none, pyModule := vs "lanescribe.kinds" 381, code := vr 168 } }
def o116 (P : Params) : Obj := { cls := Value.type "tuple", data := Data.seq #[vs "text" 399] }
def o117 (P : Params) : Obj := { cls := Value.none, data := Data.func { name := u "need_name", qualname := u "need_name", params := TA 14, body := FuncBody.stmts (TB 14), scope := TS 14, globals := 0, closure := [], defaults := Value.none, kwdefaults := Value.none } }
def o118 (P : Params) : Obj := { cls := Value.type "code", data := Data.fields #[vs "need_name" 396, vs "need_name" 397, vs "/claim/cut.py" 398, vi 42 0, vi 1 0, vi 0 0, vi 0 0, vi 3 0, vr 170, Value.bool true, vi 181 0, vr 171, Value.none, vr 172, vr 173, vr 174, vi 400 0, vi 42 0, vs "/claim/cut.py" 401] }
def o119 (P : Params) : Obj := { cls := Value.type "function", data := Data.func { name := u "need_name", qualname := u "need_name", params := TA 14, body := FuncBody.stmts (TB 14), scope := TS 14, globals := 3, closure := [], defaults := Value.none, kwdefaults := Value.none, pyModule := vs "lanescribe.kinds" 381, code := vr 175 } }
def o120 (P : Params) : Obj := { cls := Value.type "tuple", data := Data.seq #[vs "fields" 406, vs "seen" 407, vs "name" 408, vs "low" 409, vs "high" 410] }
def o121 (P : Params) : Obj := { cls := Value.none, data := Data.func { name := u "need_fields", qualname := u "need_fields", params := TA 15, body := FuncBody.stmts (TB 15), scope := TS 15, globals := 0, closure := [], defaults := Value.none, kwdefaults := Value.none } }
def o122 (P : Params) : Obj := { cls := Value.type "code", data := Data.fields #[vs "need_fields" 403, vs "need_fields" 404, vs "/claim/cut.py" 405, vi 45 0, vi 1 0, vi 0 0, vi 0 0, vi 3 0, vr 177, Value.bool true, vi 181 0, vr 178, Value.none, vr 179, vr 180, vr 181, vi 411 0, vi 45 0, vs "/claim/cut.py" 412] }
def o123 (P : Params) : Obj := { cls := Value.type "function", data := Data.func { name := u "need_fields", qualname := u "need_fields", params := TA 15, body := FuncBody.stmts (TB 15), scope := TS 15, globals := 3, closure := [], defaults := Value.none, kwdefaults := Value.none, pyModule := vs "lanescribe.kinds" 381, code := vr 182 } }
def o124 (P : Params) : Obj := { cls := Value.none, data := Data.func { name := u "bounds_text", qualname := u "bounds_text", params := TA 16, body := FuncBody.stmts (TB 16), scope := TS 16, globals := 0, closure := [], defaults := Value.none, kwdefaults := Value.none } }
def o125 (P : Params) : Obj := { cls := Value.type "code", data := Data.fields #[vs "bounds_text" 414, vs "bounds_text" 415, vs "/claim/cut.py" 416, vi 54 0, vi 1 0, vi 0 0, vi 0 0, vi 3 0, vr 184, Value.bool true, vi 181 0, vr 185, Value.none, Value.none, Value.none, vr 186, vi 417 0, vi 54 0, vs "/claim/cut.py" 418] }
def o126 (P : Params) : Obj := { cls := Value.type "function", data := Data.func { name := u "bounds_text", qualname := u "bounds_text", params := TA 16, body := FuncBody.stmts (TB 16), scope := TS 16, globals := 3, closure := [], defaults := Value.none, kwdefaults := Value.none, pyModule := vs "lanescribe.kinds" 381, code := vr 187 } }
def o127 (P : Params) : Obj := { cls := Value.type "dict", data := Data.dict #[de P "__module__" 427 (vs "lanescribe.kinds" 381), de P "__qualname__" 429 (vs "Kind" 428), de P "__firstlineno__" 431 (vi 56 430), de P "__init__" 440 (vr 204), de P "lowest" 447 (vr 211), de P "cells" 454 (vr 218), de P "place_of" 462 (vr 225), de P "need" 475 (vr 232), de P "__eq__" 483 (vr 239), de P "__len__" 490 (vr 246), de P "__str__" 497 (vr 253), de P "__repr__" 504 (vr 260), de P "__static_attributes__" 507 (vr 261)] 13 }
def o128 (P : Params) : Obj := { cls := Value.none, data := Data.fields #[vi 58 0, vi 4 0, vr 203, vi 66 0, vi 4 0, vr 210, vi 69 0, vi 4 0, vr 217, vi 72 0, vi 4 0, vr 224, vi 75 0, vi 4 0, vr 231, vi 82 0, vi 4 0, vr 238, vi 85 0, vi 4 0, vr 245, vi 88 0, vi 4 0, vr 252, vi 91 0, vi 4 0, vr 259] }
def o129 (P : Params) : Obj := { cls := Value.type "code", data := Data.fields #[vs "Kind" 422, vs "Kind" 423, vs "/claim/cut.py" 424, vi 56 0, vi 0 0, vi 0 0, vi 0 0, vi 0 0, vr 192, Value.bool false, vi 181 0, vr 193, Value.none, Value.none, Value.none, Value.none, vi 425 0, vi 56 0, vs "/claim/cut.py" 426] }
def o130 (P : Params) : Obj := { cls := Value.type "frame", slots := #[some (vr 194), some (vr 3), some (vr 191), none, some (vs "lanescribe.kinds" 381), none, some (vr 0)] }
def o131 (P : Params) : Obj := { cls := Value.type "tuple", data := Data.seq #[vr 196] }
def o132 (P : Params) : Obj := { cls := Value.type "tuple", data := Data.seq #[vs "self" 435, vs "name" 436, vs "fields" 437] }
def o133 (P : Params) : Obj := { cls := Value.none, data := Data.func { name := u "__init__", qualname := u "Kind.__init__", params := MA 17 0, body := FuncBody.stmts (MB 17 0), scope := MS 17 0, globals := 0, closure := [], defaults := Value.none, kwdefaults := Value.none } }
def o134 (P : Params) : Obj := { cls := Value.type "code", data := Data.fields #[vs "__init__" 432, vs "Kind.__init__" 433, vs "/claim/cut.py" 434, vi 58 0, vi 3 0, vi 0 0, vi 0 0, vi 3 0, vr 198, Value.bool true, vi 181 0, vr 199, Value.none, vr 200, vr 201, vr 202, vi 438 0, vi 58 0, vs "/claim/cut.py" 439] }
def o135 (P : Params) : Obj := { cls := Value.type "function", data := Data.func { name := u "__init__", qualname := u "Kind.__init__", params := MA 17 0, body := FuncBody.stmts (MB 17 0), scope := MS 17 0, globals := 3, closure := [], defaults := vr 197, kwdefaults := Value.none, pyModule := vs "lanescribe.kinds" 381, code := vr 203 } }
def o136 (P : Params) : Obj := { cls := Value.type "tuple", data := Data.seq #[vs "self" 444] }
def o137 (P : Params) : Obj := { cls := Value.none, data := Data.func { name := u "lowest", qualname := u "Kind.lowest", params := MA 17 1, body := FuncBody.stmts (MB 17 1), scope := MS 17 1, globals := 0, closure := [], defaults := Value.none, kwdefaults := Value.none } }
def o138 (P : Params) : Obj := { cls := Value.type "code", data := Data.fields #[vs "lowest" 441, vs "Kind.lowest" 442, vs "/claim/cut.py" 443, vi 66 0, vi 1 0, vi 0 0, vi 0 0, vi 3 0, vr 205, Value.bool true, vi 181 0, vr 206, Value.none, vr 207, vr 208, vr 209, vi 445 0, vi 66 0, vs "/claim/cut.py" 446] }
def o139 (P : Params) : Obj := { cls := Value.type "function", data := Data.func { name := u "lowest", qualname := u "Kind.lowest", params := MA 17 1, body := FuncBody.stmts (MB 17 1), scope := MS 17 1, globals := 3, closure := [], defaults := Value.none, kwdefaults := Value.none, pyModule := vs "lanescribe.kinds" 381, code := vr 210 } }
def o140 (P : Params) : Obj := { cls := Value.type "tuple", data := Data.seq #[vs "self" 451] }
def o141 (P : Params) : Obj := { cls := Value.none, data := Data.func { name := u "cells", qualname := u "Kind.cells", params := MA 17 2, body := FuncBody.stmts (MB 17 2), scope := MS 17 2, globals := 0, closure := [], defaults := Value.none, kwdefaults := Value.none } }
def o142 (P : Params) : Obj := { cls := Value.type "code", data := Data.fields #[vs "cells" 448, vs "Kind.cells" 449, vs "/claim/cut.py" 450, vi 69 0, vi 1 0, vi 0 0, vi 0 0, vi 3 0, vr 212, Value.bool true, vi 181 0, vr 213, Value.none, vr 214, vr 215, vr 216, vi 452 0, vi 69 0, vs "/claim/cut.py" 453] }
def o143 (P : Params) : Obj := { cls := Value.type "function", data := Data.func { name := u "cells", qualname := u "Kind.cells", params := MA 17 2, body := FuncBody.stmts (MB 17 2), scope := MS 17 2, globals := 3, closure := [], defaults := Value.none, kwdefaults := Value.none, pyModule := vs "lanescribe.kinds" 381, code := vr 217 } }
def o144 (P : Params) : Obj := { cls := Value.type "tuple", data := Data.seq #[vs "self" 458, vs "field" 459] }
def o145 (P : Params) : Obj := { cls := Value.none, data := Data.func { name := u "place_of", qualname := u "Kind.place_of", params := MA 17 3, body := FuncBody.stmts (MB 17 3), scope := MS 17 3, globals := 0, closure := [], defaults := Value.none, kwdefaults := Value.none } }
def o146 (P : Params) : Obj := { cls := Value.type "code", data := Data.fields #[vs "place_of" 455, vs "Kind.place_of" 456, vs "/claim/cut.py" 457, vi 72 0, vi 2 0, vi 0 0, vi 0 0, vi 3 0, vr 219, Value.bool true, vi 181 0, vr 220, Value.none, vr 221, vr 222, vr 223, vi 460 0, vi 72 0, vs "/claim/cut.py" 461] }
def o147 (P : Params) : Obj := { cls := Value.type "function", data := Data.func { name := u "place_of", qualname := u "Kind.place_of", params := MA 17 3, body := FuncBody.stmts (MB 17 3), scope := MS 17 3, globals := 3, closure := [], defaults := Value.none, kwdefaults := Value.none, pyModule := vs "lanescribe.kinds" 381, code := vr 224 } }
def o148 (P : Params) : Obj := { cls := Value.type "tuple", data := Data.seq #[vs "self" 466, vs "values" 467, vs "at" 468, vs "name" 469, vs "low" 470, vs "high" 471, vs "value" 472] }
def o149 (P : Params) : Obj := { cls := Value.none, data := Data.func { name := u "need", qualname := u "Kind.need", params := MA 17 4, body := FuncBody.stmts (MB 17 4), scope := MS 17 4, globals := 0, closure := [], defaults := Value.none, kwdefaults := Value.none } }
def o150 (P : Params) : Obj := { cls := Value.type "code", data := Data.fields #[vs "need" 463, vs "Kind.need" 464, vs "/claim/cut.py" 465, vi 75 0, vi 2 0, vi 0 0, vi 0 0, vi 3 0, vr 226, Value.bool true, vi 181 0, vr 227, Value.none, vr 228, vr 229, vr 230, vi 473 0, vi 75 0, vs "/claim/cut.py" 474] }
def o151 (P : Params) : Obj := { cls := Value.type "function", data := Data.func { name := u "need", qualname := u "Kind.need", params := MA 17 4, body := FuncBody.stmts (MB 17 4), scope := MS 17 4, globals := 3, closure := [], defaults := Value.none, kwdefaults := Value.none, pyModule := vs "lanescribe.kinds" 381, code := vr 231 } }
def o152 (P : Params) : Obj := { cls := Value.type "tuple", data := Data.seq #[vs "self" 479, vs "other" 480] }
def o153 (P : Params) : Obj := { cls := Value.none, data := Data.func { name := u "__eq__", qualname := u "Kind.__eq__", params := MA 17 5, body := FuncBody.stmts (MB 17 5), scope := MS 17 5, globals := 0, closure := [], defaults := Value.none, kwdefaults := Value.none } }
def o154 (P : Params) : Obj := { cls := Value.type "code", data := Data.fields #[vs "__eq__" 476, vs "Kind.__eq__" 477, vs "/claim/cut.py" 478, vi 82 0, vi 2 0, vi 0 0, vi 0 0, vi 3 0, vr 233, Value.bool true, vi 181 0, vr 234, Value.none, vr 235, vr 236, vr 237, vi 481 0, vi 82 0, vs "/claim/cut.py" 482] }
def o155 (P : Params) : Obj := { cls := Value.type "function", data := Data.func { name := u "__eq__", qualname := u "Kind.__eq__", params := MA 17 5, body := FuncBody.stmts (MB 17 5), scope := MS 17 5, globals := 3, closure := [], defaults := Value.none, kwdefaults := Value.none, pyModule := vs "lanescribe.kinds" 381, code := vr 238 } }
def o156 (P : Params) : Obj := { cls := Value.type "tuple", data := Data.seq #[vs "self" 487] }
def o157 (P : Params) : Obj := { cls := Value.none, data := Data.func { name := u "__len__", qualname := u "Kind.__len__", params := MA 17 6, body := FuncBody.stmts (MB 17 6), scope := MS 17 6, globals := 0, closure := [], defaults := Value.none, kwdefaults := Value.none } }
def o158 (P : Params) : Obj := { cls := Value.type "code", data := Data.fields #[vs "__len__" 484, vs "Kind.__len__" 485, vs "/claim/cut.py" 486, vi 85 0, vi 1 0, vi 0 0, vi 0 0, vi 3 0, vr 240, Value.bool true, vi 181 0, vr 241, Value.none, vr 242, vr 243, vr 244, vi 488 0, vi 85 0, vs "/claim/cut.py" 489] }
def o159 (P : Params) : Obj := { cls := Value.type "function", data := Data.func { name := u "__len__", qualname := u "Kind.__len__", params := MA 17 6, body := FuncBody.stmts (MB 17 6), scope := MS 17 6, globals := 3, closure := [], defaults := Value.none, kwdefaults := Value.none, pyModule := vs "lanescribe.kinds" 381, code := vr 245 } }
def o160 (P : Params) : Obj := { cls := Value.type "tuple", data := Data.seq #[vs "self" 494] }
def o161 (P : Params) : Obj := { cls := Value.none, data := Data.func { name := u "__str__", qualname := u "Kind.__str__", params := MA 17 7, body := FuncBody.stmts (MB 17 7), scope := MS 17 7, globals := 0, closure := [], defaults := Value.none, kwdefaults := Value.none } }
def o162 (P : Params) : Obj := { cls := Value.type "code", data := Data.fields #[vs "__str__" 491, vs "Kind.__str__" 492, vs "/claim/cut.py" 493, vi 88 0, vi 1 0, vi 0 0, vi 0 0, vi 3 0, vr 247, Value.bool true, vi 181 0, vr 248, Value.none, vr 249, vr 250, vr 251, vi 495 0, vi 88 0, vs "/claim/cut.py" 496] }
def o163 (P : Params) : Obj := { cls := Value.type "function", data := Data.func { name := u "__str__", qualname := u "Kind.__str__", params := MA 17 7, body := FuncBody.stmts (MB 17 7), scope := MS 17 7, globals := 3, closure := [], defaults := Value.none, kwdefaults := Value.none, pyModule := vs "lanescribe.kinds" 381, code := vr 252 } }
def o164 (P : Params) : Obj := { cls := Value.type "tuple", data := Data.seq #[vs "self" 501] }
def o165 (P : Params) : Obj := { cls := Value.none, data := Data.func { name := u "__repr__", qualname := u "Kind.__repr__", params := MA 17 8, body := FuncBody.stmts (MB 17 8), scope := MS 17 8, globals := 0, closure := [], defaults := Value.none, kwdefaults := Value.none } }
def o166 (P : Params) : Obj := { cls := Value.type "code", data := Data.fields #[vs "__repr__" 498, vs "Kind.__repr__" 499, vs "/claim/cut.py" 500, vi 91 0, vi 1 0, vi 0 0, vi 0 0, vi 3 0, vr 254, Value.bool true, vi 181 0, vr 255, Value.none, vr 256, vr 257, vr 258, vi 502 0, vi 91 0, vs "/claim/cut.py" 503] }
def o167 (P : Params) : Obj := { cls := Value.type "function", data := Data.func { name := u "__repr__", qualname := u "Kind.__repr__", params := MA 17 8, body := FuncBody.stmts (MB 17 8), scope := MS 17 8, globals := 3, closure := [], defaults := Value.none, kwdefaults := Value.none, pyModule := vs "lanescribe.kinds" 381, code := vr 259 } }
def o168 (P : Params) : Obj := { cls := Value.type "tuple", data := Data.seq #[vs "fields" 505, vs "name" 506] }
def o169 (P : Params) : Obj := { cls := Value.type "dict", data := Data.dict #[de P "__module__" 427 (vs "lanescribe.kinds" 381), de P "__firstlineno__" 431 (vi 56 430), de P "__init__" 440 (vr 204), de P "lowest" 447 (vr 211), de P "cells" 454 (vr 218), de P "place_of" 462 (vr 225), de P "need" 475 (vr 232), de P "__eq__" 483 (vr 239), de P "__len__" 490 (vr 246), de P "__str__" 497 (vr 253), de P "__repr__" 504 (vr 260), de P "__static_attributes__" 507 (vr 261), de P "__dict__" 509 (vr 264), de P "__weakref__" 511 (vr 265), de P "__doc__" 512 (Value.none), de P "__hash__" 513 (Value.none)] 5 }
def o170 (P : Params) : Obj := { cls := Value.type "type", data := Data.cls { name := u "Kind", bases := [Value.type "object"], mro := [vr 263, Value.type "object"], ns := 262, qualname := u "Kind" }, slots := #[none, none, some (vs "Kind" 420), some (vs "Kind" 428), some (Value.builtin "object.__new__"), some (Value.bool true)] }
def o171 (P : Params) : Obj := { cls := Value.type "getset_descriptor", data := Data.fields #[vs "__dict__" 508, vr 263, Value.builtin "function.__dict__", Value.builtin "function.__dict__#set"] }
def o172 (P : Params) : Obj := { cls := Value.type "getset_descriptor", data := Data.fields #[vs "__weakref__" 510, vr 263, Value.builtin "ExceptionGroup.__weakref__", Value.none] }
def o173 (P : Params) : Obj := { cls := Value.type "super", data := Data.fields #[vr 263, vr 263, vr 263] }
def o174 (P : Params) : Obj := { cls := Value.type "builtin_function_or_method", data := Data.fields #[Value.builtin "object.__init_subclass__", vr 263] }
def h_c18 (P : Params) : Heap := ⟨⟨boot_o_0 P :: boot_o_1 P :: boot_o_2 P :: o80 P :: boot_o_4 P :: boot_o_5 P :: boot_o_6 P :: boot_o_7 P :: boot_o_8 P :: boot_o_9 P :: boot_o_10 P :: o0 P :: o81 P :: o2 P :: o3 P :: o0 P :: o1 P :: o6 P :: o0 P :: o7 P :: o8 P :: o9 P :: o10 P :: o11 P :: o12 P :: o0 P :: o13 P :: o14 P :: o15 P :: o16 P :: o0 P :: o1 P :: o17 P :: o0 P :: o18 P :: o19 P :: o20 P :: o21 P :: o22 P :: o82 P :: o24 P :: o25 P :: o26 P :: o27 P :: o11 P :: o28 P :: o0 P :: o29 P :: o30 P :: o31 P :: o32 P :: o0 P :: o1 P :: o33 P :: o0 P :: o34 P :: o35 P :: o36 P :: o0 P :: o37 P :: o38 P :: o39 P :: o40 P :: o27 P :: o11 P :: o41 P :: o0 P :: o42 P :: o43 P :: o44 P :: o45 P :: o0 P :: o1 P :: o46 P :: o0 P :: o47 P :: o48 P :: o49 P :: o0 P :: o50 P :: o51 P :: o52 P :: o53 P :: o27 P :: o11 P :: o54 P :: o0 P :: o55 P :: o56 P :: o57 P :: o58 P :: o0 P :: o1 P :: o59 P :: o0 P :: o60 P :: o61 P :: o62 P :: o0 P :: o63 P :: o64 P :: o65 P :: o66 P :: o27 P :: o11 P :: o67 P :: o0 P :: o68 P :: o69 P :: o70 P :: o71 P :: o0 P :: o1 P :: o72 P :: o0 P :: o73 P :: o74 P :: o75 P :: o0 P :: o76 P :: o77 P :: o78 P :: o79 P :: o27 P :: o11 P :: o83 P :: o0 P :: o84 P :: o85 P :: o86 P :: o0 P :: o1 P :: o87 P :: o0 P :: o88 P :: o89 P :: o90 P :: o91 P :: o92 P :: o93 P :: o94 P :: o95 P :: o96 P :: o11 P :: o97 P :: o0 P :: o98 P :: o99 P :: o100 P :: o101 P :: o0 P :: o1 P :: o102 P :: o0 P :: o103 P :: o104 P :: o105 P :: o106 P :: o107 P :: o108 P :: o109 P :: o110 P :: o111 P :: o0 P :: o1 P :: o112 P :: o0 P :: o113 P :: o114 P :: o115 P :: o0 P :: o1 P :: o116 P :: o0 P :: o117 P :: o118 P :: o119 P :: o0 P :: o1 P :: o120 P :: o0 P :: o121 P :: o122 P :: o123 P :: o0 P :: o1 P :: o124 P :: o125 P :: o126 P :: o0 P :: o11 P :: o127 P :: o0 P :: o128 P :: o129 P :: o130 P :: o0 P :: o131 P :: o0 P :: o1 P :: o132 P :: o0 P :: o133 P :: o134 P :: o135 P :: o0 P :: o1 P :: o136 P :: o0 P :: o137 P :: o138 P :: o139 P :: o0 P :: o1 P :: o140 P :: o0 P :: o141 P :: o142 P :: o143 P :: o0 P :: o1 P :: o144 P :: o0 P :: o145 P :: o146 P :: o147 P :: o0 P :: o1 P :: o148 P :: o0 P :: o149 P :: o150 P :: o151 P :: o0 P :: o1 P :: o152 P :: o0 P :: o153 P :: o154 P :: o155 P :: o0 P :: o1 P :: o156 P :: o0 P :: o157 P :: o158 P :: o159 P :: o0 P :: o1 P :: o160 P :: o0 P :: o161 P :: o162 P :: o163 P :: o0 P :: o1 P :: o164 P :: o0 P :: o165 P :: o166 P :: o167 P :: o168 P :: o169 P :: o170 P :: o171 P :: o172 P :: o173 P :: o174 P :: []⟩, { }⟩
abbrev S_c18 (w : World) (os : OsState) : Shared := ⟨h_c18 w.params, Array.mk [], { }, 516, os⟩
abbrev p_c18 : Pos := { line := 56, col := 0, endLine := 92, endCol := 54 }
abbrev l_18 : List Stmt := ((behindTheImports pp).drop 7).take 11
theorem r_18 (w : World) (os : OsState) : segRun treeTable pp w 11 an 1 1110 (S_c7 w os) (piecesOf l_18 env cd p_c7 [topFrame fp]) = some (.next, S_c18 w os, cd, p_c18) := by kernel_rfl
abbrev l_z : List Stmt := (behindTheImports pp).drop 18
theorem all_l : behindTheImports pp = (l_7 ++ (l_18 ++ l_z)) := by kernel_rfl
theorem last (w : World) (os : OsState) : ((topRun treeTable pp w 11 an 977 (S_c18 w os) (restOf l_z env cd p_c18 [topFrame fp])).bind fun s₁ => match staticsOk (importedModules pp.main.body) (S_0 w os).heap s₁.heap && namesBound pp s₁.heap && gensDone s₁ && laidKept (S_0 w os).heap s₁.heap with
      | true => some s₁
      | false => none).map (fun s => (openSeen vw ls (importedModules pp.main.body) Xt true s, hk.obs s)) = some (openGood vw ls, hk.val w) := by kernel_rfl
theorem chain (w : World) (os : OsState) (r : Shared) (h : topRun treeTable pp w 11 an 977 (S_c18 w os) (restOf l_z env cd p_c18 [topFrame fp]) = some r) : topRun treeTable pp w 11 an 3345 (S_0 w os) (topStub pp) = some r := by
  have k : topRun treeTable pp w 11 an 3332 (S_b w os) (restOf (l_7 ++ (l_18 ++ l_z)) env cd p_b [topFrame fp]) = some r := piece_app (r_7 w os) (piece_app (r_18 w os) (h))
  rw [← all_l] at k
  exact go_top (n := 12) (N := 3333) (r_a w os) (piece_block (n := 1) (N := 3332) (r_b w os) k)
theorem run (w : World) (os : OsState) : (topFrom treeTable pp w 3345 (S_0 w os)).map (fun s => (openSeen vw ls (importedModules pp.main.body) Xt true s, hk.obs s)) = some (openGood vw ls, hk.val w) := by_parts (s0 := S_0 w os) (by kernel_rfl) (by kernel_rfl) (by kernel_rfl) (chain w os) (last w os)
theorem left : LeftO (OpenRow.toRowW PySem.Challenge.rw_lanescribe_k03_values_looked_at.row).prog vw ls Xt hk.obs hk.val 3345 := left_boot openP (by decide) (fun s => by kernel_rfl) run
theorem head (hw : (OpenRow.toRowW PySem.Challenge.rw_lanescribe_k03_values_looked_at.row).promised) {d : DefRec} {kwd : List (Str × Expr)} (hdef : defOf vw PySem.Challenge.rw_lanescribe_k03_values_looked_at.row.name = some (d, kwd)) (hp : PySem.Challenge.rw_lanescribe_k03_values_looked_at.row.prog.theDef PySem.Challenge.rw_lanescribe_k03_values_looked_at.row.name = some (d.params, d.body, d.scope)) (hk1 : kwWritten? d.params.kwonlyargs d.params.kw_defaults = some kwd)
    (hc : WalkO vw ls (XL vw lv) (kmHook KK asK eK [361]).says (OpenRow.toRowW PySem.Challenge.rw_lanescribe_k03_values_looked_at.row) d kwd fun f vs => PySem.call f vs) : PySem.Challenge.rw_lanescribe_k03_values_looked_at.Holds :=
  holds_law said fun said' => holds_open (q := vw) (loose := ls) (Xt := Xt) (XP := XL vw lv) (Yf := hk.obs) (Ya := hk.val) (YP := hk.says) (N := 3345) left hk.of hk.keeps (fun s e => xl_of s (Bool.and_eq_true_iff.mp e).1) XL.keeps hdef hp hk1 (fun s e => recFacts_of (Bool.and_eq_true_iff.mp e).2) (by rfl) said' (by decide +kernel) ⟨rfl, rfl, rfl, rfl, rfl, by decide +kernel⟩ hw hc
end
end Kd

-- CHANGE: your row's module here, as the last of these rows
set_option Elab.async false
set_option linter.all false
set_option maxRecDepth 100000
/-! THE HAND LAYER, for ints, bools, texts, own classes, LISTS and tuples (index, slices, in, append, pop ..), calls, loops. Paste it whole ahead of your own text; what your proof does not reach may be deleted. -/
namespace L2
open PySem PySem.Spec PyProof.Rows

/-- a key: an int or a str -/
abbrev Key := Sum Int Str
def keyIs : Key → Value → Bool
  | .inl k, v => Value.isInt k v
  | .inr x, v => Value.isStrOf x v
def keyH (w : World) : Key → Int
  | .inl k => hashInt k
  | .inr x => hashStr w x
theorem keyIs_shape : ∀ {k : Key} {v : Value}, keyIs k v = true → (∃ i t, k = Sum.inl i ∧ v = Value.int i t) ∨ (∃ x t, k = Sum.inr x ∧ v = Value.str x t)
  | .inl i, v, h => by
    obtain ⟨t, e⟩ := Value.isInt_shape (k := i) (v := v) h
    exact .inl ⟨i, t, rfl, e⟩
  | .inr x, v, h => by
    obtain ⟨t, e⟩ := Value.isStrOf_shape (x := x) (v := v) h
    exact .inr ⟨x, t, rfl, e⟩
theorem keyIs_int (i : Int) (t : Tok) : keyIs (.inl i) (.int i t) = true := by simp [keyIs, Value.isInt]
theorem keyIs_str (x : Str) (t : Tok) : keyIs (.inr x) (.str x t) = true := by simp [keyIs, Value.isStrOf]
theorem key_ll (a b : Int) : decide ((Sum.inl a : Key) = Sum.inl b) = (a == b) := by
  by_cases e : a = b
  · subst e; simp
  · have h : ¬ (Sum.inl a : Key) = Sum.inl b := fun q => e (Sum.inl.inj q)
    rw [decide_eq_false h]
    exact (beq_eq_false_iff_ne.mpr e).symm
theorem key_rr (a b : Str) : decide ((Sum.inr a : Key) = Sum.inr b) = decide (a = b) := by
  by_cases e : a = b
  · subst e; simp
  · have h : ¬ (Sum.inr a : Key) = Sum.inr b := fun q => e (Sum.inr.inj q)
    rw [decide_eq_false h, decide_eq_false e]
theorem key_lr (a : Int) (b : Str) : decide ((Sum.inl a : Key) = Sum.inr b) = false := decide_eq_false (fun q => nomatch q)
theorem key_rl (a : Str) (b : Int) : decide ((Sum.inr a : Key) = Sum.inl b) = false := decide_eq_false (fun q => nomatch q)

def mixKind (prog : Program) (w : World) : PySem.KeyKind prog w Key where
  is := keyIs
  hash := keyH w
  inj := fun v a b ha hb => by
    rcases keyIs_shape ha with ⟨i, t, rfl, rfl⟩ | ⟨x, t, rfl, rfl⟩
    · rcases keyIs_shape hb with ⟨j, u, rfl, e⟩ | ⟨y, u, rfl, e⟩
      · injection e with e1 _; rw [e1]
      · exact nomatch e
    · rcases keyIs_shape hb with ⟨j, u, rfl, e⟩ | ⟨y, u, rfl, e⟩
      · exact nomatch e
      · injection e with e1 _; rw [e1]
  byValue := fun k v h => by
    rcases keyIs_shape h with ⟨i, t, rfl, rfl⟩ | ⟨x, t, rfl, rfl⟩ <;> rfl
  pyHash := fun hv h => by
    rcases keyIs_shape hv with ⟨i, t, rfl, rfl⟩ | ⟨x, t, rfl, rfl⟩
    · exact wpAny_pyHash_int h
    · exact wpAny_pyHash_str h
  eqBool := fun hu hv h => by
    rcases keyIs_shape hu with ⟨i, t, rfl, rfl⟩ | ⟨x, t, rfl, rfl⟩
    · rcases keyIs_shape hv with ⟨j, u, rfl, rfl⟩ | ⟨y, u, rfl, rfl⟩
      · rw [key_ll] at h; exact wpAny_eqBool_int h
      · rw [key_lr] at h; exact SeqAt.EqAt.int_str i t y u _ _ _ _ h
    · rcases keyIs_shape hv with ⟨j, u, rfl, rfl⟩ | ⟨y, u, rfl, rfl⟩
      · rw [key_rl] at h; exact SeqAt.EqAt.str_int x t j u _ _ _ _ h
      · rw [key_rr] at h; exact wpAny_eqBool_str h
  «strs» := fun k x t v h => by
    rcases keyIs_shape h with ⟨i, u, rfl, e⟩ | ⟨y, u, rfl, e⟩
    · exact nomatch e
    · injection e with e1 _
      subst e1
      cases v <;> rfl

theorem mixKind_int (prog : Program) (w : World) (i : Int) (t : Tok) : (mixKind prog w).is (.inl i) (.int i t) = true := keyIs_int i t
theorem mixKind_str (prog : Program) (w : World) (x : Str) (t : Tok) : (mixKind prog w).is (.inr x) (.str x t) = true := keyIs_str x t
end L2

namespace L2
open PySem PySem.Spec PyProof.Rows

/-- a value, without the heap -/
inductive V where
  | non | bl (b : Bool) | int (i : Int) | str (x : Str) | byt (b : Array UInt8) | flt (b : UInt64) | ref (a : Addr) | ty (n : String)
  deriving DecidableEq

def RelV : V → Value → Prop
  | .non, u => u = Value.none
  | .bl b, u => u = Value.bool b
  | .int i, u => ∃ t, u = Value.int i t
  | .str x, u => ∃ t, u = Value.str x t
  | .byt b, u => ∃ t, u = Value.bytes b t
  | .flt b, u => ∃ t, u = Value.float b t
  | .ref a, u => u = Value.ref a
  | .ty n, u => u = Value.type n

abbrev Vals : List V → List Value → Prop := Paired RelV
theorem Vals.length {xs : List V} {us : List Value} (r : Vals xs us) : xs.length = us.length := Paired.length r
theorem Vals.get : ∀ {xs : List V} {us : List Value} {i : Nat} {x : V}, Vals xs us → xs[i]? = some x → ∃ u, us[i]? = some u ∧ RelV x u
  | _, _, _, _, .nil, e => by simp at e
  | _, _, 0, _, .cons r _, e => by simp at e; subst e; exact ⟨_, rfl, r⟩
  | _, _, i + 1, x, .cons _ t, e => by
    obtain ⟨u, h1, h2⟩ := Vals.get (i := i) (x := x) t (by simpa using e)
    exact ⟨u, by simpa using h1, h2⟩
theorem Vals.set {x : V} {u : Value} (r : RelV x u) : ∀ {xs : List V} {us : List Value} (i : Nat), Vals xs us → Vals (xs.set i x) (us.set i u)
  | _, _, _, .nil => .nil
  | _, _, 0, .cons _ t => .cons r t
  | _, _, i + 1, .cons q t => .cons q (Vals.set r i t)
theorem Vals.append : ∀ {xs ys : List V} {us ws : List Value}, Vals xs us → Vals ys ws → Vals (xs ++ ys) (us ++ ws)
  | _, _, _, _, .nil, s => s
  | _, _, _, _, .cons r t, s => .cons r (Vals.append t s)
theorem Vals.take : ∀ {xs : List V} {us : List Value} (n : Nat), Vals xs us → Vals (xs.take n) (us.take n)
  | _, _, 0, _ => .nil
  | _, _, _ + 1, .nil => .nil
  | _, _, n + 1, .cons r t => .cons r (Vals.take n t)
theorem Vals.drop : ∀ {xs : List V} {us : List Value} (n : Nat), Vals xs us → Vals (xs.drop n) (us.drop n)
  | _, _, 0, r => r
  | _, _, _ + 1, .nil => .nil
  | _, _, n + 1, .cons _ t => Vals.drop n t
def RelO : Option V → Option Value → Prop
  | some v, some u => RelV v u
  | none, none => True
  | _, _ => False
def KV {κ : Type} : List (κ × V) → List (κ × Value) → Prop := Paired fun (p : κ × V) (q : κ × Value) => p.1 = q.1 ∧ RelV p.2 q.2

/-- a key of a dict (00_mix): an int or a text -/
def kV : Key → V
  | .inl i => .int i
  | .inr x => .str x

/-- what stands at a tracked address -/
inductive HO where
  /-- a list -/
  | lst (xs : List V)
  /-- a tuple (never changes) -/
  | tup (xs : List V)
  /-- a dict whose keys are ints and texts; one whose keys are tuples of ints and texts (the empty one is both) -/
  | dK (kvs : List (Key × V)) | dT (kvs : List (List Key × V))
  /-- a set of ints: its members, its size -/
  | set (S : Int → Bool) (n : Nat)
  /-- an instance of the class at C, its dict at dx, its attributes -/
  | ins (C dx : Addr) (fs : List (Str × V))
  /-- the dict of the instance at x -/
  | own (x : Addr)
  /-- the dict of an exception -/
  | xd (fs : List (Str × V))
  /-- a bound method, f of x -/
  | met (f x : Addr)
  /-- a range object lo, lo + 1, .. below hi -/
  | rng (lo hi : Int)
  /-- a thing that is known to the object (the script; a dict while a loop walks it): read, never written while it is so -/
  | frz (o : Obj) (u : HO)
  /-- a code object's table -/
  | tbl (ps : Array Value)
  /-- any other thing, by what is true of its one object (a def of one's own: SetO a S n := HO.ext fun h => ..) -/
  | ext (φ : Heap → Prop)

abbrev Hp := Addr → Option HO
def upd (H : Hp) (a : Addr) (o : HO) : Hp := fun b => if b = a then some o else H b
theorem upd_same {H : Hp} {a : Addr} {o : HO} : upd H a o a = some o := by unfold upd; rw [if_pos rfl]
theorem upd_ne {H : Hp} {a b : Addr} {o : HO} (h : b ≠ a) : upd H a o b = H b := by unfold upd; rw [if_neg h]
/-- two objects of different content stand apart -/
theorem ne_of {H : Hp} {a b : Addr} {o u : HO} (h : H a = some o) (h' : H b = some u) (d : o ≠ u) : a ≠ b := by
  intro e; subst e; rw [h] at h'; exact d (Option.some.inj h')
theorem ne_of_none {H : Hp} {a b : Addr} {o : HO} (h : H a = some o) (h' : H b = none) : a ≠ b := by
  intro e; subst e; rw [h] at h'; cases h'

section
variable (P : Program) (w : World)
def ObjOk (H : Hp) (h : Heap) (a : Addr) : HO → Prop
  | .lst xs => xs.length ≤ sizeLine ∧ ∃ (its : List Value) (n : Nat), Vals xs its ∧ h.get? a = some { cls := .type "list", data := .seq its.toArray n }
  | .tup xs => xs.length ≤ sizeLine ∧ ∃ its : List Value, Vals xs its ∧ IsTup h a its.toArray
  | .dK kvs => kvs.length ≤ sizeLine ∧ (a == sysModules) = false ∧ ∃ vs, KV kvs vs ∧ h.DictOf (mixKind P w) a vs
  | .dT kvs => kvs.length ≤ sizeLine ∧ (a == sysModules) = false ∧ ∃ xs : List (List Key × Addr × Value),
      Paired (fun (p : List Key × V) (q : List Key × Addr × Value) => p.1 = q.1 ∧ H q.2.1 = some (.tup (p.1.map kV)) ∧ RelV p.2 q.2.2) kvs xs ∧
      ∃ o es ep, h.get? a = some o ∧ o.ExactDict ∧ o.data = .dict es ep ∧ es.toList = xs.map (entryOfKey (tupleKind (mixKind P w))) ∧ (xs.map (·.1)).Nodup
  | .set S n => h.SetOf (intKind P w) a S n
  | .ins C dx fs => H dx = some (.own a) ∧ fs.length ≤ 1000 ∧ dx ≠ a ∧ h.get? a = some (PySem.W.instObj C dx) ∧
      ∃ mA, h.Ns1 dx mA ∧ (∀ f, RelO (fs.lookup f) (mA f)) ∧ PySem.Within mA (fs.map (·.1))
  | .own _ => ∃ o, h.get? a = some o
  | .xd fs => ∃ mA, h.Ns1 a mA ∧ ∀ f, RelO (fs.lookup f) (mA f)
  | .rng lo hi => ∃ t u v, h.get? a = some { cls := .type "range", data := .fields #[.int lo t, .int hi u, .int 1 v] }
  | .frz o u => h.get? a = some o ∧ ObjOk H h a u
  | .tbl ps => h.get? a = some { cls := .none, data := .fields ps }
  | .met f x => h.get? a = some (PySem.W.methodObj (.ref f) (.ref x))
  | .ext φ => φ h ∧ (∃ o, h.get? a = some o) ∧ ∀ h1 h2 : Heap, φ h1 → (∀ o, h1.get? a = some o → h2.get? a = some o) → φ h2
/-- the abstract heap is held -/
def HOk (H : Hp) (h : Heap) : Prop := ∀ a o, H a = some o → ObjOk P w H h a o
end

section
variable {P : Program} {w : World} {H H' : Hp} {h h' : Heap} {a : Addr} {o : HO}
theorem ObjOk.lt (x : ObjOk P w H h a o) : a < h.objs.size := by
  cases o with
  | lst xs => obtain ⟨_, _, _, _, e⟩ := x; exact Heap.lt_size e
  | tup xs => obtain ⟨_, _, _, p⟩ := x; exact p.lt
  | dK kvs => obtain ⟨_, _, _, _, o, _, _, e, _⟩ := x; exact Heap.lt_size e
  | dT kvs => obtain ⟨_, _, _, _, o, _, _, e, _⟩ := x; exact Heap.lt_size e
  | set S n => obtain ⟨o, _, _, _, e, _⟩ := x; exact Heap.lt_size e
  | ins C dx fs => obtain ⟨_, _, _, e, _⟩ := x; exact Heap.lt_size e
  | own y => obtain ⟨_, e⟩ := x; exact Heap.lt_size e
  | xd fs => obtain ⟨_, ⟨_, _, _, e, _⟩, _⟩ := x; exact Heap.lt_size e
  | rng lo hi => obtain ⟨_, _, _, e⟩ := x; exact Heap.lt_size e
  | frz ob u => obtain ⟨e, _⟩ := x; exact Heap.lt_size e
  | tbl ps => exact Heap.lt_size (show h.get? a = some _ from x)
  | met f y => exact Heap.lt_size (show h.get? a = some _ from x)
  | ext φ => obtain ⟨_, ⟨_, e⟩, _⟩ := x; exact Heap.lt_size e
theorem Paired.mapP {α β : Type} {F G : α → β → Prop} : ∀ {l₁ : List α} {l₂ : List β}, Paired F l₁ l₂ → (∀ a b, F a b → G a b) → Paired G l₁ l₂
  | _, _, .nil, _ => .nil
  | _, _, .cons r t, f => .cons (f _ _ r) (Paired.mapP t f)
/-- what an object's description leans on: its own object, its own dict, the tuples -/
theorem ObjOk.stay (x : ObjOk P w H h a o) (k : ∀ b u, (b = a ∨ H b = some (.own a)) → h.get? b = some u → h'.get? b = some u)
    (ho : ∀ b, H b = some (.own a) → H' b = some (.own a)) (ht : ∀ b xs, H b = some (.tup xs) → H' b = some (.tup xs)) : ObjOk P w H' h' a o := by
  induction o with
  | lst xs => obtain ⟨z, its, n, r, e⟩ := x; exact ⟨z, its, n, r, k _ _ (.inl rfl) e⟩
  | tup xs => obtain ⟨z, its, r, ob, e, c⟩ := x; exact ⟨z, its, r, ob, k _ _ (.inl rfl) e, c⟩
  | dK kvs => obtain ⟨z, y, vs, r, ob, es, ep, e, c⟩ := x; exact ⟨z, y, vs, r, ob, es, ep, k _ _ (.inl rfl) e, c⟩
  | dT kvs =>
    obtain ⟨z, y, xs, r, ob, es, ep, e, c⟩ := x
    exact ⟨z, y, xs, Paired.mapP r fun p q z => ⟨z.1, ht _ _ z.2.1, z.2.2⟩, ob, es, ep, k _ _ (.inl rfl) e, c⟩
  | set S n => obtain ⟨ob, es, ep, t, e, c⟩ := x; exact ⟨ob, es, ep, t, k _ _ (.inl rfl) e, c⟩
  | ins C dx fs =>
    obtain ⟨d, z, ne, e, mA, ⟨od, es, ep, e2, c⟩, r⟩ := x
    exact ⟨ho _ d, z, ne, k _ _ (.inl rfl) e, mA, ⟨od, es, ep, k _ _ (.inr d) e2, c⟩, r⟩
  | own y => obtain ⟨ob, e⟩ := x; exact ⟨ob, k _ _ (.inl rfl) e⟩
  | xd fs => obtain ⟨mA, ⟨od, es, ep, e, c⟩, r⟩ := x; exact ⟨mA, ⟨od, es, ep, k _ _ (.inl rfl) e, c⟩, r⟩
  | rng lo hi => obtain ⟨t, u, v, e⟩ := x; exact ⟨t, u, v, k _ _ (.inl rfl) e⟩
  | frz ob u ih => obtain ⟨e, q⟩ := x; exact ⟨k _ _ (.inl rfl) e, ih q⟩
  | tbl ps =>
    have e : h.get? a = some { cls := .none, data := .fields ps } := x
    show h'.get? a = some { cls := .none, data := .fields ps }
    exact k a _ (.inl rfl) e
  | met f y =>
    have e : h.get? a = some (PySem.W.methodObj (.ref f) (.ref y)) := x
    show h'.get? a = some (PySem.W.methodObj (.ref f) (.ref y))
    exact k a _ (.inl rfl) e
  | ext φ => obtain ⟨p, ⟨o, e⟩, st⟩ := x; exact ⟨st _ _ p fun o q => k _ _ (.inl rfl) q, ⟨o, k _ _ (.inl rfl) e⟩, st⟩
theorem HOk.lt (x : HOk P w H h) (e : H a = some o) : a < h.objs.size := (x a o e).lt
theorem HOk.fresh (x : HOk P w H h) (e : h.objs.size ≤ a) : H a = none := by
  cases q : H a with
  | none => rfl
  | some u => exact absurd (Nat.lt_of_lt_of_le (x.lt q) e) (Nat.lt_irrefl _)
/-- every object of the heap is kept -/
theorem HOk.kept (x : HOk P w H h) (k : ∀ b u, h.get? b = some u → h'.get? b = some u) : HOk P w H h' := fun a o e =>
  (x a o e).stay (fun b u _ q => k b u q) (fun _ q => q) fun _ _ q => q
/-- a new object is laid and tracked -/
theorem HOk.laid (x : HOk P w H h) (k : ∀ b u, h.get? b = some u → h'.get? b = some u) (hp : h.objs.size ≤ a) (new : ObjOk P w (upd H a o) h' a o) : HOk P w (upd H a o) h' := fun b u e => by
  have hn := x.fresh hp
  by_cases hb : b = a
  · subst hb; rw [upd_same] at e; cases e; exact new
  · rw [upd_ne hb] at e
    exact (x b u e).stay (fun c v _ q => k c v q) (fun c q => by rw [upd_ne (ne_of_none q hn)]; exact q) fun c xs q => by rw [upd_ne (ne_of_none q hn)]; exact q
end

/-- what may be read as u: it is u, or a known u -/
def Rd (H : Hp) (a : Addr) (u : HO) : Prop := H a = some u ∨ ∃ o, H a = some (.frz o u)
theorem Rd.ok {P : Program} {w : World} {H : Hp} {h : Heap} {a : Addr} {u : HO} (r : Rd H a u) (x : HOk P w H h) : ObjOk P w H h a u := by
  rcases r with r | ⟨o, r⟩
  · exact x a u r
  · obtain ⟨_, q⟩ := x a _ r
    exact q
/-- what may be written -/
def Mut : Option HO → Prop
  | some (.lst _) => True
  | some (.dK _) => True
  | some (.dT _) => True
  | some (.set _ _) => True
  | some (.ins _ _ _) => True
  | some (.ext _) => True
  | _ => False
section
variable {P : Program} {w : World} {H : Hp} {h h' : Heap} {x e : Addr} {o' : HO}
/-- the object at e is changed: x itself, or the dict of the instance x -/
theorem HOk.write (ok : HOk P w H h) (mu : Mut (H x)) (he : e = x ∨ H e = some (.own x)) (k : ∀ b u, b ≠ e → h.get? b = some u → h'.get? b = some u) (heo : ∃ u, h'.get? e = some u)
    (new : ObjOk P w (upd H x o') h' x o') : HOk P w (upd H x o') h' := fun b u q => by
  have nown : ∀ c y, H c = some (.own y) → c ≠ x := fun c y r z => by subst z; rw [r] at mu; exact mu
  have ntup : ∀ c xs, H c = some (.tup xs) → c ≠ x := fun c xs r z => by subst z; rw [r] at mu; exact mu
  by_cases hb : b = x
  · subst hb; rw [upd_same] at q; cases q; exact new
  · rw [upd_ne hb] at q
    by_cases hbe : b = e
    · have q' : H b = some (.own x) := by
        rcases he with z | z
        · exact absurd (hbe.trans z) hb
        · rw [hbe]; exact z
      rw [q] at q'; cases q'
      obtain ⟨v, hv⟩ := heo
      exact ⟨v, by rw [hbe]; exact hv⟩
    · refine (ok b u q).stay (fun c v hc r => k c v ?_ r) (fun c r => by rw [upd_ne (nown c b r)]; exact r) fun c xs r => by rw [upd_ne (ntup c xs r)]; exact r
      rcases hc with rfl | hc
      · exact hbe
      · rintro rfl
        rcases he with z | z
        · exact nown c b hc z
        · rw [hc] at z; cases z; exact hb rfl
end

/-! ### kept unless tracked; of the frames at fs (the callers') the slots may change (an exception that passes writes there); of the records at ex (iterators) nothing is said -/
structure Un (fs ex : List Addr) (H H' : Hp) (h h' : Heap) : Prop where
  keep : ∀ b o, h.get? b = some o → H b = none → b ∉ fs → b ∉ ex → h'.get? b = some o
  slot : ∀ b o, h.get? b = some o → H b = none → b ∈ fs → b ∉ ex → ∃ sl, h'.get? b = some { o with slots := sl }
  free : ∀ b o, h.get? b = some o → H b = none → b ∉ ex → H' b = none
  there : ∀ b o, h.get? b = some o → b ∉ ex → ∃ o', h'.get? b = some o'
  tups : ∀ b xs, H b = some (.tup xs) → H' b = some (.tup xs)
  frzs : ∀ b o u, H b = some (.frz o u) → H' b = some (.frz o u)
  tbls : ∀ b ps, H b = some (.tbl ps) → ∃ more, H' b = some (.tbl (ps ++ more))
section
variable {fs fs' ex ex' : List Addr} {H H1 H2 : Hp} {h h1 h2 h' : Heap} {a x e : Addr} {o : HO}
theorem Un.any (u : Un fs ex H H1 h h1) {b : Addr} {ob : Obj} (q : h.get? b = some ob) (n : H b = none) (hx : b ∉ ex) : ∃ sl, h1.get? b = some { ob with slots := sl } := by
  by_cases hb : b ∈ fs
  · exact u.slot b ob q n hb hx
  · exact ⟨ob.slots, u.keep b ob q n hb hx⟩
theorem Un.kept (k : ∀ b u, h.get? b = some u → h'.get? b = some u) : Un fs ex H H h h' :=
  ⟨fun b ob q _ _ _ => k b ob q, fun b ob q _ _ _ => ⟨ob.slots, k b ob q⟩, fun _ _ _ n _ => n, fun b ob q _ => ⟨ob, k b ob q⟩, fun _ _ q => q, fun _ _ _ q => q, fun _ ps q => ⟨#[], by rw [q]; simp⟩⟩
theorem Un.refl : Un fs ex H H h h := Un.kept fun _ _ q => q
theorem Un.laid (k : ∀ b u, h.get? b = some u → h'.get? b = some u) (hp : h.objs.size ≤ a) (hn : H a = none) : Un fs ex H (upd H a o) h h' where
  keep := fun b u q _ _ _ => k b u q
  slot := fun b u q _ _ _ => ⟨u.slots, k b u q⟩
  free := fun b u q n _ => by rw [upd_ne (Nat.ne_of_lt (Nat.lt_of_lt_of_le (Heap.lt_size q) hp))]; exact n
  there := fun b u q _ => ⟨u, k b u q⟩
  tups := fun b xs q => by rw [upd_ne (ne_of_none q hn)]; exact q
  frzs := fun b u xs q => by rw [upd_ne (ne_of_none q hn)]; exact q
  tbls := fun b ps q => ⟨#[], by rw [upd_ne (ne_of_none q hn), q]; simp⟩
theorem Un.write (mu : Mut (H x)) (he : e = x ∨ H e = some (.own x)) (k : ∀ b u, b ≠ e → h.get? b = some u → h'.get? b = some u) (heo : ∃ u, h'.get? e = some u) : Un fs ex H (upd H x o) h h' := by
  have hx : ∀ b, H b = none → b ≠ x := fun b n z => by subst z; rw [n] at mu; exact mu
  have hb : ∀ b, H b = none → b ≠ e := fun b n z => by
    subst z
    rcases he with r | r
    · exact hx b n r
    · rw [n] at r; cases r
  have hm : ∀ b u, H b = some u → ¬ Mut (some u) → b ≠ x := fun b u q nm z => by subst z; rw [q] at mu; exact nm mu
  refine ⟨fun b u q n _ _ => k b u (hb b n) q, fun b u q n _ _ => ⟨u.slots, k b u (hb b n) q⟩, fun b u q n _ => by rw [upd_ne (hx b n)]; exact n, fun b u q _ => ?_,
    fun b xs q => by rw [upd_ne (hm b _ q fun z => z)]; exact q, fun b u xs q => by rw [upd_ne (hm b _ q fun z => z)]; exact q, fun b ps q => ⟨#[], by rw [upd_ne (hm b _ q fun z => z), q]; simp⟩⟩
  by_cases hbe : b = e
  · subst hbe; exact heo
  · exact ⟨u, k b u hbe q⟩
end

/-! ### the heap without what is tracked -/
def trk (h : Heap) (H : Hp) : List Addr := (List.range h.objs.size).filter fun a => (H a).isSome
def hidT (h : Heap) (H : Hp) : Heap := PySem.W.hideAll h (trk h H)
theorem hidT_size (h : Heap) (H : Hp) : (hidT h H).objs.size = h.objs.size := PySem.W.hideAll_size _ _
theorem hidT_get {h : Heap} {H : Hp} {b : Addr} {o : Obj} (e : h.get? b = some o) (n : H b = none) : (hidT h H).get? b = some o :=
  PySem.W.hideAll_get _ e fun hm => by
    have q : (H b).isSome = true := (List.mem_filter.mp hm).2
    rw [n] at q; simp at q
theorem of_hidT {h : Heap} {H : Hp} {b : Addr} {o : Obj} (e : (hidT h H).get? b = some o) : h.get? b = some o ∧ H b = none := by
  have e' : h.get? b = some o := PySem.W.of_hideAll (trk h H) e
  refine ⟨e', ?_⟩
  cases q : H b with
  | none => rfl
  | some x =>
    have hm : b ∈ trk h H := List.mem_filter.mpr ⟨List.mem_range.mpr (Heap.lt_size e'), by simp [q]⟩
    have z : (hidT h H).get? b = none := PySem.W.hideAll_none (trk h H) hm
    rw [z] at e; cases e

/-! ### OpenK's ledger, filled with every new object but one -/
end L2

namespace L2
open PySem PySem.Spec PyProof.Rows

/-- the module's facts, over the base: the heap at the law's entry without what is tracked there -/
structure Mod (K : PySem.W.Frag) (mg : Str → Option Value) (base : Heap) : Prop where
  kin : K.In base
  glob : base.Ns mainGlobals mg
  blt : ∃ mb, base.Ns builtinsNs mb ∧ ∀ x : Str, x ≠ "__name__" → mb x = bootBuiltins x
  nolimit : base.NoLimit

/-- the context: a def's body (or a comprehension's block) running. base: fixed through the whole law; s₀, H₀: the entry; outer: the frames whose slots others may change (a def's callers); stack: all frames that run;
   ex: iterators that were made ahead of the entry and are walked here (a comprehension's); fn: the names whose cells were made at the entry (a def: all; a comprehension's block: its own); calm: not within an except suite; pn: pins that every state bears; xe: what is wanted of an exception that leaves the code -/
structure Cx where
  prog : Program
  w : World
  K : PySem.W.Frag
  mg : Str → Option Value
  base : Heap
  A : Around
  N : List Str
  s₀ : Shared
  H₀ : Hp
  env : Env
  outer : List Env
  stack : List Env
  ex : List Addr
  fn : Str → Bool
  calm : Bool
  pn : List (Addr × Obj)
  xe : Value → Shared → Prop
/-- the callers' frames -/
def frs (l : List Env) : List Addr := l.filterMap (·.frame)
abbrev Cx.fs (X : Cx) : List Addr := frs X.outer

def Vis (sc : Scope) (x : Str) : Prop := sc.names.lookup x = some .local ∨ sc.names.lookup x = some .cell ∨ sc.names.lookup x = some .free
def Loc (sc : Scope) (x : Str) : Prop := sc.names.lookup x = some .local ∨ sc.names.lookup x = some .cell
def Look (env : Env) (h : Heap) (m : Str → Option Value) (x : Str) (u : Value) : Prop :=
  (env.kindOf x = some .local ∧ m x = some u) ∨ ((env.kindOf x = some .cell ∨ env.kindOf x = some .free) ∧ ∃ c, env.cells.lookup x = some c ∧ h.IsCell c (some u))

structure Cx.Ok (X : Cx) : Prop where
  mod : Mod X.K X.mg X.base
  kind : X.env.scope.kind = .function
  glob : X.env.globals = mainGlobals
  blt : X.env.builtins = builtinsNs
  above : X.s₀.heap.objs.size ≤ X.env.locals
  inj : ∀ x y c, X.env.cells.lookup x = some c → X.env.cells.lookup y = some c → x = y
  has : ∀ x, (X.env.kindOf x = some .cell ∨ X.env.kindOf x = some .free) → ∃ c, X.env.cells.lookup x = some c
  cab : ∀ x c, X.fn x = true → X.env.cells.lookup x = some c → X.s₀.heap.objs.size ≤ c
  hd : X.calm = true → X.A.handled = none
  frames : X.A.frames = some X.stack
  stk : X.stack = X.outer ∨ (X.stack = X.env :: X.outer ∧ X.env.frame = some X.env.locals)
  exf : ∀ b ∈ X.ex, b ≠ X.env.locals ∧ ∀ x c, X.env.cells.lookup x = some c → c ≠ b
  bs : ∀ b o, X.base.get? b = some o → X.s₀.heap.get? b = some o ∧ X.H₀ b = none
  bsz : X.base.objs.size ≤ X.s₀.heap.objs.size
  noex : ∀ b o, X.base.get? b = some o → b ∉ X.ex
  exfs : ∀ b ∈ X.ex, b ∉ X.fs
  funs : X.s₀.heap.FunFrames X.base X.outer
  frf : ∀ b ∈ X.fs, X.H₀ b = none

structure Inv (X : Cx) (pins : List (Addr × Obj)) (σ : List (Option V)) (H : Hp) (s : Shared) : Prop where
  ok : X.Ok
  os : s.os = X.s₀.os
  bare : AllBare s.gens
  base : Un X.fs X.ex X.H₀ H X.s₀.heap s.heap
  loc : ∃ m, s.heap.Ns X.env.locals m ∧ ∀ (i : Nat) (x : Str) (v : V), X.N[i]? = some x → σ[i]? = some (some v) → Vis X.env.scope x → ∃ u, RelV v u ∧ Look X.env s.heap m x u
  cell : ∀ x c, X.env.cells.lookup x = some c → ∃ v, s.heap.IsCell c v
  free : H X.env.locals = none
  freeC : ∀ x c, X.env.cells.lookup x = some c → H c = none
  pin : ∀ p ∈ X.pn ++ pins, s.heap.get? p.1 = some p.2 ∧ H p.1 = none ∧ p.1 ≠ X.env.locals ∧ p.1 ∉ X.fs ∧ ∀ v, p.2.data ≠ .cell v
  hok : HOk X.prog X.w H s.heap
  len : σ.length = X.N.length

section
variable {X : Cx} {pins : List (Addr × Obj)} {σ : List (Option V)} {H H' : Hp} {s : Shared} {h' : Heap}

theorem Cx.Ok.nofr (ok : X.Ok) {b : Addr} {o : Obj} (e : X.base.get? b = some o) : b ∉ X.fs := fun hb => by
  have := (ok.funs.mem hb).1
  rw [e] at this; cases this
theorem Inv.bs (I : Inv X pins σ H s) : ∀ b o, X.base.get? b = some o → s.heap.get? b = some o ∧ H b = none := fun b o e =>
  ⟨I.base.keep b o (I.ok.bs b o e).1 (I.ok.bs b o e).2 (I.ok.nofr e) (I.ok.noex b o e), I.base.free b o (I.ok.bs b o e).1 (I.ok.bs b o e).2 (I.ok.noex b o e)⟩
theorem Inv.bk (I : Inv X pins σ H s) : ∀ b o, X.base.get? b = some o → s.heap.get? b = some o := fun b o e => (I.bs b o e).1
theorem Inv.mod (I : Inv X pins σ H s) : Mod X.K X.mg X.base := I.ok.mod
theorem Inv.kIn (I : Inv X pins σ H s) : X.K.In s.heap := I.ok.mod.kin.keeps I.bk
/-- the frame over the base: for OpenK's rules (K.In X.base is I.mod.kin) -/
theorem Inv.fr (I : Inv X pins σ H s) : ∃ m, Fr X.base X.env.locals s.heap m :=
  let ⟨m, hn, _⟩ := I.loc
  ⟨m, hn, I.bk, Nat.le_trans I.ok.bsz I.ok.above⟩
theorem Inv.lt (I : Inv X pins σ H s) : X.env.locals < s.heap.objs.size := let ⟨_, hn, _⟩ := I.loc; hn.lt
theorem Inv.sz (I : Inv X pins σ H s) : X.s₀.heap.objs.size ≤ s.heap.objs.size := Nat.le_trans I.ok.above (Nat.le_of_lt I.lt)
theorem Inv.nofs (I : Inv X pins σ H s) {a : Addr} (h : s.heap.objs.size ≤ a) : a ∉ X.fs := fun hb => by
  obtain ⟨_, o, ho, _⟩ := I.ok.funs.mem hb
  exact absurd (Nat.lt_of_lt_of_le (Heap.lt_size ho) (Nat.le_trans I.sz h)) (Nat.lt_irrefl _)
theorem Inv.cne (I : Inv X pins σ H s) : ∀ x c, X.env.cells.lookup x = some c → c ≠ X.env.locals := fun x c e z => by
  obtain ⟨v, o, ho, hd⟩ := I.cell x c e
  obtain ⟨m, ⟨o', es, ep, ho', hd', _⟩, _⟩ := I.loc
  rw [z, ho'] at ho; cases ho; rw [hd'] at hd; cases hd
theorem Inv.funs (I : Inv X pins σ H s) : s.heap.FunFrames X.base X.outer := by
  have all : ∀ (l : List Env), (∀ b ∈ frs l, b ∈ X.fs) → X.s₀.heap.FunFrames X.base l → s.heap.FunFrames X.base l := by
    intro l
    induction l with
    | nil => intro _ _; trivial
    | cons env r ih =>
      intro hs hl
      obtain ⟨hk, ⟨L, o, hf, hn, ho, hd⟩, hr⟩ := hl
      have hL : L ∈ X.fs := hs L (by unfold frs; rw [List.filterMap_cons, hf]; exact List.mem_cons_self)
      obtain ⟨sl, e⟩ := I.base.slot L o ho (I.ok.frf L hL) hL fun z => I.ok.exfs L z hL
      exact ⟨hk, ⟨L, _, hf, hn, e, hd⟩, ih (fun b hb => hs b (by unfold frs; rw [List.filterMap_cons, hf]; exact List.mem_cons_of_mem _ hb)) hr⟩
  exact all X.outer (fun _ hb => hb) I.ok.funs

/-- the frames that run, for a call -/
theorem Inv.stack (I : Inv X pins σ H s) : s.heap.FunFrames X.base X.stack := by
  rcases I.ok.stk with e | ⟨e, hf⟩
  · rw [e]; exact I.funs
  · rw [e]
    obtain ⟨m, hn, _⟩ := I.loc
    refine .cons (by rw [I.ok.kind]; decide) hf hn ?_ I.funs
    exact Heap.get?_none_of_le (Nat.le_trans I.ok.bsz I.ok.above)
theorem Inv.stkSub (I : Inv X pins σ H s) : ∀ b ∈ frs X.stack, b ∈ X.env.locals :: X.fs := fun b hb => by
  rcases I.ok.stk with e | ⟨e, hf⟩
  · rw [e] at hb; exact List.mem_cons_of_mem _ hb
  · rw [e] at hb
    unfold frs at hb
    rw [List.filterMap_cons, hf] at hb
    exact hb
theorem Inv.stkFree (I : Inv X pins σ H s) : ∀ b ∈ frs X.stack, H b = none := fun b hb => by
  rcases List.mem_cons.mp (I.stkSub b hb) with e | hb
  · rw [e]; exact I.free
  · obtain ⟨_, o, ho, _⟩ := I.ok.funs.mem hb
    exact I.base.free b o ho (I.ok.frf b hb) fun z => I.ok.exfs b z hb

/-- THE STEP: the untracked objects but the frame and the records at ch are kept (the callers' frames up to slots), the frame's map is kept, the new abstract heap is held -/
theorem Inv.step {g' : Array GenState} {t' : Nat} {d' : Drawn} {ch : List Addr} (I : Inv X pins σ H s)
    (hch : ∀ b ∈ ch, (b ∈ X.ex ∨ X.s₀.heap.objs.size ≤ b) ∧ b ≠ X.env.locals ∧ (∀ x c, X.env.cells.lookup x = some c → c ≠ b) ∧ ∀ p ∈ X.pn ++ pins, p.1 ≠ b)
    (keep : ∀ b o, b ≠ X.env.locals → b ∉ X.fs → b ∉ ch → s.heap.get? b = some o → H b = none → h'.get? b = some o)
    (slot : ∀ b o, b ≠ X.env.locals → b ∈ X.fs → b ∉ ch → s.heap.get? b = some o → H b = none → ∃ sl, h'.get? b = some { o with slots := sl }) (free : ∀ b o, b ∉ ch → s.heap.get? b = some o → H b = none → H' b = none)
    (there : ∀ b o, b ∉ ch → s.heap.get? b = some o → ∃ o', h'.get? b = some o')
    (tups : ∀ b xs, H b = some (.tup xs) → H' b = some (.tup xs)) (frzs : ∀ b o u, H b = some (.frz o u) → H' b = some (.frz o u)) (tbls : ∀ b ps, H b = some (.tbl ps) → ∃ more, H' b = some (.tbl (ps ++ more)))
    (ns : ∀ m, s.heap.Ns X.env.locals m → h'.Ns X.env.locals m) (hok : HOk X.prog X.w H' h') (hg : AllBare g') :
    Inv X pins σ H' { s with heap := h', gens := g', drawn := d', toks := t' } := by
  have neL : ∀ b o, X.s₀.heap.get? b = some o → b ≠ X.env.locals := fun b o e => Nat.ne_of_lt (Nat.lt_of_lt_of_le (Heap.lt_size e) I.ok.above)
  have neC : ∀ b o, X.s₀.heap.get? b = some o → b ∉ X.ex → b ∉ ch := fun b o e hx hb => by
    rcases (hch b hb).1 with z | z
    · exact hx z
    · exact absurd (Nat.lt_of_lt_of_le (Heap.lt_size e) z) (Nat.lt_irrefl _)
  have cellK : ∀ x c, X.env.cells.lookup x = some c → ∀ v, s.heap.IsCell c v → h'.IsCell c v := fun x c e v ⟨o, ho, hd⟩ => by
    have nch : c ∉ ch := fun z => (hch c z).2.2.1 x c e rfl
    by_cases hc : c ∈ X.fs
    · obtain ⟨sl, q⟩ := slot c o (I.cne x c e) hc nch ho (I.freeC x c e)
      exact ⟨_, q, hd⟩
    · exact ⟨o, keep c o (I.cne x c e) hc nch ho (I.freeC x c e), hd⟩
  refine ⟨I.ok, I.os, hg, ⟨fun b o e n hb hx => ?_, fun b o e n hb hx => ?_, fun b o e n hx => ?_, fun b o e hx => ?_, fun b xs e => tups b xs (I.base.tups b xs e), fun b o xs e => frzs b o xs (I.base.frzs b o xs e), fun b ps e => ?_⟩, ?_, fun x c e => ?_, ?_, fun x c e => ?_, fun p hp => ?_, hok, I.len⟩
  · exact keep b o (neL b o e) hb (neC b o e hx) (I.base.keep b o e n hb hx) (I.base.free b o e n hx)
  · obtain ⟨sl, e1⟩ := I.base.slot b o e n hb hx
    obtain ⟨sl', e2⟩ := slot b _ (neL b o e) hb (neC b o e hx) e1 (I.base.free b o e n hx)
    exact ⟨sl', e2⟩
  · obtain ⟨o', e1⟩ := I.base.there b o e hx
    exact free b o' (neC b o e hx) e1 (I.base.free b o e n hx)
  · obtain ⟨o', e1⟩ := I.base.there b o e hx
    exact there b o' (neC b o e hx) e1
  · obtain ⟨m1, e1⟩ := I.base.tbls b ps e
    obtain ⟨m2, e2⟩ := tbls b _ e1
    exact ⟨m1 ++ m2, by rw [e2, Array.append_assoc]⟩
  · obtain ⟨m, hn, hl⟩ := I.loc
    refine ⟨m, ns m hn, fun i x v e1 e2 e3 => ?_⟩
    obtain ⟨u, r, l⟩ := hl i x v e1 e2 e3
    refine ⟨u, r, ?_⟩
    rcases l with l | ⟨k, c, e, z⟩
    · exact .inl l
    · exact .inr ⟨k, c, e, cellK x c e _ z⟩
  · obtain ⟨v, z⟩ := I.cell x c e
    exact ⟨v, cellK x c e v z⟩
  · obtain ⟨m, ⟨o, _, _, ho, _⟩, _⟩ := I.loc
    exact free _ o (fun z => (hch _ z).2.1 rfl) ho I.free
  · obtain ⟨v, o, ho, hd⟩ := I.cell x c e
    exact free c o (fun z => (hch c z).2.2.1 x c e rfl) ho (I.freeC x c e)
  · obtain ⟨e, n, ne, nf, d⟩ := I.pin p hp
    have nch : p.1 ∉ ch := fun z => (hch p.1 z).2.2.2 p hp rfl
    exact ⟨keep p.1 p.2 ne nf nch e n, free p.1 p.2 nch e n, ne, nf, d⟩
/-- .. where the frame's own object is kept too -/
theorem Inv.un {t' : Nat} (I : Inv X pins σ H s) (u : Un X.fs [] H H' s.heap h') (hok : HOk X.prog X.w H' h') : Inv X pins σ H' { s with heap := h', toks := t' } := by
  obtain ⟨m, ⟨o, es, ep, ho, r⟩, _⟩ := id I.loc
  obtain ⟨sl, hL⟩ := u.any ho I.free (by simp)
  exact I.step (g' := s.gens) (d' := s.drawn) (ch := []) (fun _ z => nomatch z) (fun b o _ hb _ e n => u.keep b o e n hb (by simp)) (fun b o _ hb _ e n => u.slot b o e n hb (by simp)) (fun b o _ e n => u.free b o e n (by simp)) (fun b o _ e => u.there b o e (by simp)) u.tups u.frzs u.tbls (fun m' hm => by
    obtain ⟨o', es', ep', ho', r'⟩ := hm
    rw [ho] at ho'; cases ho'
    exact ⟨_, es', ep', hL, r'⟩) hok I.bare
/-- behind a call (or a comprehension's block): the slots of this frame may have changed too, the records at ch may have turned -/
theorem Inv.call {g' : Array GenState} {t' : Nat} {d' : Drawn} {ch : List Addr} (I : Inv X pins σ H s) (u : Un (frs X.stack) ch H H' s.heap h') (hok : HOk X.prog X.w H' h') (hg : AllBare g')
    (hch : ∀ b ∈ ch, (b ∈ X.ex ∨ X.s₀.heap.objs.size ≤ b) ∧ b ≠ X.env.locals ∧ (∀ x c, X.env.cells.lookup x = some c → c ≠ b) ∧ ∀ p ∈ X.pn ++ pins, p.1 ≠ b) :
    Inv X pins σ H' { s with heap := h', gens := g', drawn := d', toks := t' } := by
  obtain ⟨m, ⟨o, es, ep, ho, r⟩, _⟩ := id I.loc
  obtain ⟨sl, hL⟩ := u.any ho I.free fun z => (hch _ z).2.1 rfl
  exact I.step (ch := ch) hch (fun b o hL hb hc e n => u.keep b o e n (fun z => (List.mem_cons.mp (I.stkSub b z)).elim hL hb) hc) (fun b o _ _ hc e n => u.any e n hc) (fun b o hc e n => u.free b o e n hc) (fun b o hc e => u.there b o e hc) u.tups u.frzs u.tbls (fun m' hm => by
    obtain ⟨o', es', ep', ho', r'⟩ := hm
    rw [ho] at ho'; cases ho'
    exact ⟨_, es', ep', hL, r'⟩) hok hg
/-- an untracked record of ours (an iterator) has turned -/
theorem Inv.turned {t' : Nat} {it : Addr} (I : Inv X pins σ H s) (k : ∀ b o, b ≠ it → s.heap.get? b = some o → h'.get? b = some o) (hn : H it = none) (hL : it ≠ X.env.locals)
    (h1 : it ∈ X.ex ∨ X.s₀.heap.objs.size ≤ it) (h2 : ∀ x c, X.env.cells.lookup x = some c → c ≠ it) (h3 : ∀ p ∈ X.pn ++ pins, p.1 ≠ it) : Inv X pins σ H { s with heap := h', toks := t' } := by
  have nit : ∀ b u, H b = some u → b ≠ it := fun b u e z => by rw [z, hn] at e; cases e
  refine I.step (g' := s.gens) (d' := s.drawn) (ch := [it]) (fun b hb => ?_) (fun b o _ _ hc e _ => k b o (fun z => hc (by simp [z])) e) (fun b o _ _ hc e _ => ⟨o.slots, k b o (fun z => hc (by simp [z])) e⟩) (fun _ _ _ _ n => n)
    (fun b o hc e => ⟨o, k b o (fun z => hc (by simp [z])) e⟩) (fun _ _ e => e) (fun _ _ _ e => e) (fun b ps e => ⟨#[], by rw [e]; simp⟩) (fun m hm => ?_) (fun b u e => ?_) I.bare
  · have e : b = it := by simpa using hb
    subst e
    exact ⟨h1, hL, h2, h3⟩
  · obtain ⟨o, es, ep, ho, r⟩ := hm
    exact ⟨o, es, ep, k _ o (Ne.symm hL) ho, r⟩
  · refine (I.hok b u e).stay (fun c v hc q => k c v ?_ q) (fun _ q => q) fun _ _ q => q
    rcases hc with z | z
    · rw [z]; exact nit b u e
    · exact nit c _ z
theorem Inv.tok (I : Inv X pins σ H s) (t : Nat) : Inv X pins σ H { s with toks := t } := I.un (h' := s.heap) (t' := t) Un.refl I.hok
/-- all objects kept -/
theorem Inv.kept {t' : Nat} (I : Inv X pins σ H s) (k : ∀ b u, s.heap.get? b = some u → h'.get? b = some u) : Inv X pins σ H { s with heap := h', toks := t' } := I.un (Un.kept k) (I.hok.kept k)
/-- a new object laid and tracked -/
theorem Inv.laid {a : Addr} {o : HO} {t' : Nat} (I : Inv X pins σ H s) (k : ∀ b u, s.heap.get? b = some u → h'.get? b = some u) (hp : s.heap.objs.size ≤ a) (new : ObjOk X.prog X.w (upd H a o) h' a o) :
    Inv X pins σ (upd H a o) { s with heap := h', toks := t' } := I.un (Un.laid k hp (I.hok.fresh hp)) (I.hok.laid k hp new)
/-- an object written -/
theorem Inv.write {x e : Addr} {o : HO} {t' : Nat} (I : Inv X pins σ H s) (mu : Mut (H x)) (he : e = x ∨ H e = some (.own x)) (k : ∀ b u, b ≠ e → s.heap.get? b = some u → h'.get? b = some u) (heo : ∃ u, h'.get? e = some u)
    (new : ObjOk X.prog X.w (upd H x o) h' x o) : Inv X pins σ (upd H x o) { s with heap := h', toks := t' } := I.un (Un.write mu he k heo) (I.hok.write mu he k heo new)
theorem Inv.pins_of {pins' : List (Addr × Obj)} (I : Inv X pins σ H s) (h : ∀ p ∈ pins', s.heap.get? p.1 = some p.2 ∧ H p.1 = none ∧ p.1 ≠ X.env.locals ∧ p.1 ∉ X.fs ∧ ∀ v, p.2.data ≠ .cell v) : Inv X pins' σ H s :=
  ⟨I.ok, I.os, I.bare, I.base, I.loc, I.cell, I.free, I.freeC, fun p hp => (List.mem_append.mp hp).elim (fun z => I.pin p (List.mem_append_left _ z)) (h p), I.hok, I.len⟩

theorem nodup_ix {N : List Str} (hN : N.Nodup) {i j : Nat} {x : Str} (a : N[i]? = some x) (b : N[j]? = some x) : i = j := by
  obtain ⟨h1, e1⟩ := List.getElem?_eq_some_iff.mp a
  obtain ⟨h2, e2⟩ := List.getElem?_eq_some_iff.mp b
  exact (List.getElem_inj hN).mp (e1.trans e2.symm)

/-- a name is stored; what changed -/
theorem store_ok2 {M : Model} {A : Around} {E : Value → Shared → Prop} {i : Nat} {x : Str} {v : V} {u : Value} {Q : Unit → Shared → Prop} (I : Inv X pins σ H s) (hN : X.N.Nodup) (hi : X.N[i]? = some x) (hx : Loc X.env.scope x) (r : RelV v u)
    (h : ∀ s', Inv X pins (σ.set i (some v)) H s' → (∃ a, Heap.SameBut a s.heap s'.heap ∧ (a = X.env.locals ∨ X.env.cells.lookup x = some a)) → Q () s') (hf : X.fn x = true ∨ X.env.scope.names.lookup x = some .local := by first | exact .inl rfl | exact .inr rfl | assumption) : wpAny M A (storeName X.env x u) Q E s := by
  obtain ⟨m, hn, hl⟩ := id I.loc
  have hcls : (X.env.scope.kind == .class || (X.env.scope.kind == .module && X.env.locals != X.env.globals)) = false := by rw [I.ok.kind]; rfl
  have hiσ : i < σ.length := by rw [I.len]; exact (List.getElem?_eq_some_iff.mp hi).1
  have cne := I.cne
  have tracked : ∀ {a : Addr} {h' : Heap}, (∃ o, s.heap.get? a = some o ∧ H a = none) → Heap.SameBut a s.heap h' → HOk X.prog X.w H h' := fun {a h'} ha hs b ob e => by
    obtain ⟨_, _, hfree⟩ := ha
    refine (I.hok b ob e).stay (fun c w' hc q => (hs.2 c ?_).trans q) (fun _ q => q) fun _ _ q => q
    rintro rfl
    rcases hc with rfl | hc
    · rw [hfree] at e; cases e
    · rw [hfree] at hc; cases hc
  rcases hx with hk | hk
  · refine wpAny_storeName_local hk hn (fun h' hn' hs => ?_) hcls
    obtain ⟨oL, _, _, hoL, _⟩ := id hn
    refine h _ ⟨I.ok, I.os, I.bare, ⟨fun b o e n hb hx => ?_, fun b o e n hb hx => ?_, I.base.free, fun b o e hx => ?_, I.base.tups, I.base.frzs, I.base.tbls⟩, ⟨_, hn', fun j y v' e1 e2 e3 => ?_⟩, fun y c e => ?_, I.free, I.freeC, fun p hp => ?_, tracked ⟨oL, hoL, I.free⟩ hs, by simpa using I.len⟩ ⟨_, hs, .inl rfl⟩
    · exact (hs.2 b (Nat.ne_of_lt (Nat.lt_of_lt_of_le (Heap.lt_size e) I.ok.above))).trans (I.base.keep b o e n hb hx)
    · obtain ⟨sl, e1⟩ := I.base.slot b o e n hb hx
      exact ⟨sl, (hs.2 b (Nat.ne_of_lt (Nat.lt_of_lt_of_le (Heap.lt_size e) I.ok.above))).trans e1⟩
    · obtain ⟨o', e1⟩ := I.base.there b o e hx
      exact ⟨o', (hs.2 b (Nat.ne_of_lt (Nat.lt_of_lt_of_le (Heap.lt_size e) I.ok.above))).trans e1⟩
    · by_cases hj : j = i
      · subst hj
        rw [hi] at e1; cases e1
        rw [List.getElem?_set_self hiσ] at e2
        cases e2
        exact ⟨u, r, .inl ⟨hk, by simp⟩⟩
      · rw [List.getElem?_set_ne (Ne.symm hj)] at e2
        obtain ⟨u', r', q⟩ := hl j y v' e1 e2 e3
        refine ⟨u', r', ?_⟩
        rcases q with ⟨k, e⟩ | ⟨k, c, e, z⟩
        · refine .inl ⟨k, ?_⟩
          have : y ≠ x := fun e => hj (nodup_ix hN e1 (e ▸ hi))
          simp [this, e]
        · exact .inr ⟨k, c, e, z.sameBut hs (cne y c e)⟩
    · obtain ⟨w', z⟩ := I.cell y c e
      exact ⟨w', z.sameBut hs (cne y c e)⟩
    · obtain ⟨e, n, ne, nf, d⟩ := I.pin p hp
      exact ⟨(hs.2 p.1 ne).trans e, n, ne, nf, d⟩
  · have hfn : X.fn x = true := by
      rcases hf with z | z
      · exact z
      · rw [z] at hk; cases hk
    obtain ⟨c, hc⟩ := I.ok.has x (.inl hk)
    obtain ⟨w', z⟩ := I.cell x c hc
    refine wpAny_storeName_cell I.ok.kind hk hc z (fun h' hc' hs => ?_)
    obtain ⟨oc, hoc, hocd⟩ := id z
    refine h { s with heap := h' } ⟨I.ok, I.os, I.bare, ⟨fun b o e n hb hx => ?_, fun b o e n hb hx => ?_, I.base.free, fun b o e hx => ?_, I.base.tups, I.base.frzs, I.base.tbls⟩, ⟨m, hn.sameBut hs (Ne.symm (cne x c hc)), fun j y v' e1 e2 e3 => ?_⟩, fun y c' e => ?_, I.free, I.freeC, fun p hp => ?_, tracked ⟨oc, hoc, I.freeC x c hc⟩ hs, by simpa using I.len⟩ ⟨c, hs, .inr hc⟩
    · exact (hs.2 b (Nat.ne_of_lt (Nat.lt_of_lt_of_le (Heap.lt_size e) (I.ok.cab x c hfn hc)))).trans (I.base.keep b o e n hb hx)
    · obtain ⟨sl, e1⟩ := I.base.slot b o e n hb hx
      exact ⟨sl, (hs.2 b (Nat.ne_of_lt (Nat.lt_of_lt_of_le (Heap.lt_size e) (I.ok.cab x c hfn hc)))).trans e1⟩
    · obtain ⟨o', e1⟩ := I.base.there b o e hx
      exact ⟨o', (hs.2 b (Nat.ne_of_lt (Nat.lt_of_lt_of_le (Heap.lt_size e) (I.ok.cab x c hfn hc)))).trans e1⟩
    · by_cases hj : j = i
      · subst hj
        rw [hi] at e1; cases e1
        rw [List.getElem?_set_self hiσ] at e2
        cases e2
        exact ⟨u, r, .inr ⟨.inl hk, c, hc, hc'⟩⟩
      · rw [List.getElem?_set_ne (Ne.symm hj)] at e2
        obtain ⟨u', r', q⟩ := hl j y v' e1 e2 e3
        refine ⟨u', r', ?_⟩
        rcases q with q | ⟨k, c', e, z'⟩
        · exact .inl q
        · refine .inr ⟨k, c', e, z'.sameBut hs ?_⟩
          rintro rfl
          exact hj (nodup_ix hN e1 (I.ok.inj _ _ _ e hc ▸ hi))
    · by_cases hcc : c' = c
      · subst hcc; exact ⟨_, hc'⟩
      · obtain ⟨w2, z2⟩ := I.cell y c' e
        exact ⟨w2, z2.sameBut hs hcc⟩
    · obtain ⟨e, n, ne, nf, d⟩ := I.pin p hp
      refine ⟨(hs.2 p.1 ?_).trans e, n, ne, nf, d⟩
      intro q
      rw [q, hoc] at e
      have q' : oc = p.2 := Option.some.inj e
      exact d w' (by rw [← q']; exact hocd)
theorem store_ok {M : Model} {A : Around} {E : Value → Shared → Prop} {i : Nat} {x : Str} {v : V} {u : Value} {Q : Unit → Shared → Prop} (I : Inv X pins σ H s) (hN : X.N.Nodup) (hi : X.N[i]? = some x) (hx : Loc X.env.scope x) (r : RelV v u)
    (h : ∀ s', Inv X pins (σ.set i (some v)) H s' → Q () s') (hf : X.fn x = true ∨ X.env.scope.names.lookup x = some .local := by first | exact .inl rfl | exact .inr rfl | assumption) : wpAny M A (storeName X.env x u) Q E s :=
  store_ok2 I hN hi hx r (fun s' I' _ => h s' I') hf
/-- behind a call or a block, the state as it is -/
theorem Inv.call' {s' : Shared} {ch : List Addr} (I : Inv X pins σ H s) (ho : s'.os = s.os) (u : Un (frs X.stack) ch H H' s.heap s'.heap) (hok : HOk X.prog X.w H' s'.heap) (hg : AllBare s'.gens)
    (hch : ∀ b ∈ ch, (b ∈ X.ex ∨ X.s₀.heap.objs.size ≤ b) ∧ b ≠ X.env.locals ∧ (∀ x c, X.env.cells.lookup x = some c → c ≠ b) ∧ ∀ p ∈ X.pn ++ pins, p.1 ≠ b) : Inv X pins σ H' s' := by
  obtain ⟨h', g', d', t', o'⟩ := s'
  have e : o' = s.os := ho
  subst e
  exact I.call (g' := g') (t' := t') (d' := d') u hok hg hch
end

/-! ### the judgements -/
/-- an exception: its class, its own dict's address (where it has one), the abstract heap behind it -/
abbrev XK := Value → Option Addr → Hp → Prop
abbrev St := List (Option V)
abbrev VK := V → Hp → Prop
/-- an expression's reading; a test's; an argument list's -/
abbrev TE := St → Hp → VK → Prop
abbrev TT := St → Hp → (Bool → Hp → Prop) → Prop
abbrev TA := St → Hp → (List V → Hp → Prop) → Prop
/-- what is wanted behind a statement -/
structure Ends where
  nx : St → Hp → Prop
  rt : VK
  bk : St → Hp → Prop := fun _ _ => False
  ct : St → Hp → Prop := fun _ _ => False
abbrev TS := Ends → St → Hp → Prop

def EP (X : Cx) (pins : List (Addr × Obj)) (σ : St) (Q : VK) (u : Value) (s' : Shared) : Prop := ∃ v H', Inv X pins σ H' s' ∧ RelV v u ∧ Q v H'
def TP (X : Cx) (pins : List (Addr × Obj)) (σ : St) (Q : Bool → Hp → Prop) (b : Bool) (s' : Shared) : Prop := ∃ H', Inv X pins σ H' s' ∧ Q b H'
def AP (X : Cx) (pins : List (Addr × Obj)) (σ : St) (Q : List V → Hp → Prop) (us : List Value) (s' : Shared) : Prop := ∃ vs H', Inv X pins σ H' s' ∧ Vals vs us ∧ Q vs H'
def SP (X : Cx) (pins : List (Addr × Obj)) (D : Ends) (f : Flow) (s' : Shared) : Prop :=
  match f with
  | .next => ∃ σ' H', Inv X pins σ' H' s' ∧ D.nx σ' H'
  | .brk => ∃ σ' H', Inv X pins σ' H' s' ∧ D.bk σ' H'
  | .cont => ∃ σ' H', Inv X pins σ' H' s' ∧ D.ct σ' H'
  | .ret u => ∃ v σ' H', Inv X pins σ' H' s' ∧ RelV v u ∧ D.rt v H'

def PE (X : Cx) (e : Expr) (t : TE) : Prop :=
  ∀ (pins : List (Addr × Obj)) (s : Shared) (σ : St) (H : Hp) (Q : VK), Inv X pins σ H s → t σ H Q → wpAny (model X.prog X.w) X.A (eval e X.env) (EP X pins σ Q) X.xe s
def PT (X : Cx) (e : Expr) (t : TT) : Prop :=
  ∀ (pins : List (Addr × Obj)) (s : Shared) (σ : St) (H : Hp) (Q : Bool → Hp → Prop), Inv X pins σ H s → t σ H Q → wpAny (model X.prog X.w) X.A (isTrue e X.env (eval e X.env)) (TP X pins σ Q) X.xe s
/-- a test whatever its 'whole' is (and, or) -/
def PW (X : Cx) (e : Expr) (t : TT) : Prop :=
  ∀ (whole : Sem Value) (pins : List (Addr × Obj)) (s : Shared) (σ : St) (H : Hp) (Q : Bool → Hp → Prop), Inv X pins σ H s → t σ H Q → wpAny (model X.prog X.w) X.A (isTrue e X.env whole) (TP X pins σ Q) X.xe s
theorem PW.pt {X : Cx} {e : Expr} {t : TT} (h : PW X e t) : PT X e t := h _
/-- an argument list (no star), from the left -/
def PA (X : Cx) (es : List Expr) (t : TA) : Prop :=
  ∀ (pos : Pos) (pins : List (Addr × Obj)) (s : Shared) (σ : St) (H : Hp) (Q : List V → Hp → Prop), Inv X pins σ H s → t σ H Q → wpAny (model X.prog X.w) X.A (spliced (backTo pos (starEach es X.env))) (AP X pins σ Q) X.xe s
def PS (X : Cx) (st : Stmt) (t : TS) : Prop :=
  ∀ (pins : List (Addr × Obj)) (s : Shared) (σ : St) (H : Hp) (D : Ends), Inv X pins σ H s → t D σ H → wpAny (model X.prog X.w) X.A (exec st X.env) (SP X pins D) X.xe s
def PSs (X : Cx) (st : List Stmt) (t : TS) : Prop :=
  ∀ (pins : List (Addr × Obj)) (s : Shared) (σ : St) (H : Hp) (D : Ends), Inv X pins σ H s → t D σ H → wpAny (model X.prog X.w) X.A (execs st X.env) (SP X pins D) X.xe s
/-- weaken the end -/
theorem thn {α : Type} {t : Sem α} {Q Q' : α → Shared → Prop} {M : Model} {A : Around} {E : Value → Shared → Prop} {s : Shared} (h : wpAny M A t Q E s) (hQ : ∀ a s, Q a s → Q' a s) : wpAny M A t Q' E s := wpAny_mono h hQ fun _ _ x => x
end L2

namespace L2
open PySem PySem.Spec PyProof.Rows
section
variable {X : Cx}

/-- two expressions in a row -/
theorem bin {a b : Expr} {ta tb : TE} (ha : PE X a ta) (hb : PE X b tb) {pins : List (Addr × Obj)} {s : Shared} {σ : St} {H : Hp} {R : V → V → Hp → Prop} (I : Inv X pins σ H s) (h : ta σ H fun x H1 => tb σ H1 fun y H2 => R x y H2)
    {α : Type} {Q : α → Shared → Prop} {f : Value → Value → Sem α}
    (hf : ∀ v u s2 x y H2, Inv X pins σ H2 s2 → RelV x v → RelV y u → R x y H2 → wpAny (model X.prog X.w) X.A (f v u) Q X.xe s2) :
    wpAny (model X.prog X.w) X.A (eval a X.env) (fun v s₁ => wpAny (model X.prog X.w) X.A (eval b X.env) (fun u s₂ => wpAny (model X.prog X.w) X.A (f v u) Q X.xe s₂) X.xe s₁) X.xe s := by
  refine thn (ha pins s σ H _ I h) fun v s1 ⟨x, H1, I1, r1, q1⟩ => ?_
  refine thn (hb pins s1 σ H1 _ I1 q1) fun u s2 ⟨y, H2, I2, r2, q2⟩ => ?_
  exact hf v u s2 x y H2 I2 r1 r2 q2

/-! ### names and constants -/
def tVar (i : Nat) : TE := fun σ H Q => ∃ v, σ[i]? = some (some v) ∧ Q v H
def tC (v : V) : TE := fun _ H Q => Q v H
theorem pe_var {i : Nat} {x : Str} {pos : Pos} (hN : X.N[i]? = some x) (hv : Vis X.env.scope x) (hd : (x == ("__debug__" : Str)) = false := by decide) (hcd : (x == ("__classdict__" : Str)) = false := by decide) : PE X (.Name x pos) (tVar i) := by
  intro pins s σ H Q I h
  obtain ⟨v, e, h⟩ := h
  obtain ⟨m, hn, hl⟩ := I.loc
  obtain ⟨u, r, l⟩ := hl i x v hN e hv
  have fin : EP X pins σ Q u s := ⟨v, H, I, r, h⟩
  rcases l with ⟨hk, hm⟩ | ⟨hk, c, hc, hcell⟩
  · exact wpAny_Name (wpAny_loadName_local I.ok.kind hk hn hm fin) hd
  · rcases hk with hk | hk
    · exact wpAny_Name (wpAny_loadName_cell I.ok.kind hk hc hcell fin) hd
    · exact wpAny_Name (wpAny_loadName_free I.ok.kind hk hc hcell fin hcd) hd
theorem pe_int {i j pos} : PE X (.Constant (.int i) j pos) (tC (.int i)) := fun _ _ _ H _ I h => wpAny_Constant_int ⟨.int i, H, I.tok _, ⟨_, rfl⟩, h⟩
theorem pe_bl {b j pos} : PE X (.Constant (.bool b) j pos) (tC (.bl b)) := fun _ _ _ H _ I h => Constant_bool ⟨.bl b, H, I, rfl, h⟩
theorem pe_non {j pos} : PE X (.Constant .none j pos) (tC .non) := fun _ _ _ H _ I h => Constant_none ⟨.non, H, I, rfl, h⟩
theorem pe_str {x j pos} : PE X (.Constant (.str x) j pos) (tC (.str x)) := fun _ _ _ H _ I h => Calls.Constant_str ⟨.str x, H, I.tok _, ⟨_, rfl⟩, h⟩

/-- a global name of the def -/
def Gl (X : Cx) (x : Str) : Prop := X.env.kindOf x = some .globalImplicit
theorem ld_glob {E : Value → Shared → Prop} {pins : List (Addr × Obj)} {s : Shared} {σ : St} {H : Hp} {x : Str} {u : Value} {pos : Pos} {Q : Value → Shared → Prop} (I : Inv X pins σ H s) (hg : Gl X x) (hm : X.mg x = some u) (h : Q u s)
    (hd : (x == ("__debug__" : Str)) = false := by decide) : wpAny (model X.prog X.w) X.A (eval (.Name x pos) X.env) Q E s :=
  Calls.Name_function_global I.ok.kind hg (Calls.loadGlobal_global (by rw [I.ok.glob]; exact I.mod.glob.keeps I.bk) hm h) hd
theorem ld_blt {E : Value → Shared → Prop} {pins : List (Addr × Obj)} {s : Shared} {σ : St} {H : Hp} {x : Str} {u : Value} {pos : Pos} {Q : Value → Shared → Prop} (I : Inv X pins σ H s) (hg : Gl X x) (hm : X.mg x = none) (hv : bootBuiltins x = some u) (h : Q u s)
    (hn : x ≠ "__name__" := by decide) (hd : (x == ("__debug__" : Str)) = false := by decide) : wpAny (model X.prog X.w) X.A (eval (.Name x pos) X.env) Q E s := by
  obtain ⟨mb, h1, h2⟩ := I.mod.blt
  exact Calls.Name_function_global I.ok.kind hg (Calls.loadGlobal_builtin (by rw [I.ok.glob]; exact I.mod.glob.keeps I.bk) hm (by rw [I.ok.blt]; exact h1.keeps I.bk) ((h2 x hn).trans hv) h) hd
/-- a module's constant, a class, a function, as a value -/
theorem pe_glob {x : Str} {v : V} {u : Value} {pos : Pos} (hg : Gl X x) (hm : X.mg x = some u) (r : RelV v u) (hd : (x == ("__debug__" : Str)) = false := by decide) : PE X (.Name x pos) (tC v) :=
  fun _ _ _ H _ I h => ld_glob I hg hm ⟨v, H, I, r, h⟩ hd
theorem pe_bltn {x : Str} {v : V} {u : Value} {pos : Pos} (hg : Gl X x) (hm : X.mg x = none) (hv : bootBuiltins x = some u) (r : RelV v u) (hn : x ≠ "__name__" := by decide) (hd : (x == ("__debug__" : Str)) = false := by decide) : PE X (.Name x pos) (tC v) :=
  fun _ _ _ H _ I h => ld_blt I hg hm hv ⟨v, H, I, r, h⟩ hn hd

/-! ### arithmetic -/
variable {a b : Expr} {ta tb : TE} {pos : Pos}
/-! ### comparisons -/
def PC (X : Cx) (op : CmpOp) (a b : Expr) (t : TE) : Prop :=
  ∀ (pins : List (Addr × Obj)) (s : Shared) (σ : St) (H : Hp) (Q : VK), Inv X pins σ H s → t σ H Q →
    wpAny (model X.prog X.w) X.A (eval a X.env) (fun v s₁ => wpAny (model X.prog X.w) X.A (eval b X.env) (fun u s₂ => wpAny (model X.prog X.w) X.A (compareOp op v u) (EP X pins σ Q) X.xe s₂) X.xe s₁) X.xe s
/-- a comparison as a value, as a test -/
def tB (t : TE) : TT := fun σ H Q => t σ H fun x H1 => ∃ c, x = .bl c ∧ Q c H1
theorem pt_cmp {op : CmpOp} {t : TE} (h : PC X op a b t) (h1 : behindInMarks op b = false := by first | exact nobehind _ (by decide) (by decide) | rfl) : PT X (.Compare a [op] [b] pos) (tB t) := by
  intro pins s σ H Q I hw
  refine wpAny_isTrue_Compare1 (thn (h pins s σ H _ I hw) fun v s1 h1 => thn h1 fun u s2 h2 => thn h2 fun c s3 ⟨x, H1, I1, r1, q1⟩ => ?_) h1
  obtain ⟨d, rfl, q⟩ := q1
  cases r1
  exact wpAny_truthy_bool ⟨H1, I1, q⟩
/-- an expression whose value is a bool, as a test -/
theorem pt_val {e : Expr} {t : TE} (h : PE X e t) (he : ∀ whole, isTrue e X.env whole = (do let v ← whole; standAt e.pos; holding [v] (truthy v)) := by intro _; rfl) : PT X e (tB t) := by
  intro pins s σ H Q I hw
  refine isTrue_plain (thn (h pins s σ H _ I hw) fun v s1 ⟨x, H1, I1, r1, q1⟩ => ?_) (he _)
  obtain ⟨d, rfl, q⟩ := q1
  cases r1
  exact wpAny_truthy_bool ⟨H1, I1, q⟩

/-! ### and, or, not -/
variable {tA tB' : TT} {rest : List Expr}
def tAnd (t u : TT) : TT := fun σ H Q => t σ H fun c H1 => if c = true then u σ H1 Q else Q false H1
def tOr (t u : TT) : TT := fun σ H Q => t σ H fun c H1 => if c = true then Q true H1 else u σ H1 Q
def tNot (t : TT) : TT := fun σ H Q => t σ H fun c H1 => Q (!c) H1
theorem pw_and1 (ha : PT X a tA) : PW X (.BoolOp .And [a] pos) tA := by
  intro wh pins s σ H Q I h
  refine isTrue_and (thn (ha pins s σ H Q I h) fun c s1 e => ?_)
  cases c with
  | true => exact isTrue_and_nil e
  | false => exact e
theorem pw_or1 (ha : PT X a tA) : PW X (.BoolOp .Or [a] pos) tA := by
  intro wh pins s σ H Q I h
  refine isTrue_or (thn (ha pins s σ H Q I h) fun c s1 e => ?_)
  cases c with
  | false => exact isTrue_or_nil e
  | true => exact e
theorem pw_and (ha : PT X a tA) (hb : PW X (.BoolOp .And (b :: rest) pos) tB') : PW X (.BoolOp .And (a :: b :: rest) pos) (tAnd tA tB') := by
  intro wh pins s σ H Q I h
  refine isTrue_and (thn (ha pins s σ H _ I h) fun c s1 ⟨H1, I1, q1⟩ => ?_)
  cases c with
  | true => exact hb wh pins s1 σ H1 Q I1 q1
  | false => exact ⟨H1, I1, q1⟩
theorem pw_or (ha : PT X a tA) (hb : PW X (.BoolOp .Or (b :: rest) pos) tB') : PW X (.BoolOp .Or (a :: b :: rest) pos) (tOr tA tB') := by
  intro wh pins s σ H Q I h
  refine isTrue_or (thn (ha pins s σ H _ I h) fun c s1 ⟨H1, I1, q1⟩ => ?_)
  cases c with
  | true => exact ⟨H1, I1, q1⟩
  | false => exact hb wh pins s1 σ H1 Q I1 q1
theorem pt_not (ha : PT X a tA) : PT X (.UnaryOp .Not a pos) (tNot tA) := by
  intro pins s σ H Q I h
  exact isTrue_not (ha pins s σ H (fun c H1 => Q (!c) H1) I h)
/-- .. as values (bools) -/
def tAndV (ta tb : TE) : TE := fun σ H Q => ta σ H fun x H1 => ∃ c, x = .bl c ∧ if c = true then tb σ H1 Q else Q (.bl false) H1
theorem pe_one {op} {t : TE} (h : PE X a t) : PE X (.BoolOp op [a] pos) t := fun pins s σ H Q I hw => BoolOp_one (h pins s σ H Q I hw)
theorem pe_and (ha : PE X a ta) (hb : PE X (.BoolOp .And (b :: rest) pos) tb) : PE X (.BoolOp .And (a :: b :: rest) pos) (tAndV ta tb) := by
  intro pins s σ H Q I h
  refine BoolOp_and (thn (ha pins s σ H _ I h) fun v s1 ⟨x, H1, I1, r1, q1⟩ => ?_)
  obtain ⟨c, rfl, q1⟩ := q1
  cases r1
  refine wpAny_truthy_bool ?_
  cases c with
  | true => exact hb pins s1 σ H1 Q I1 q1
  | false => exact ⟨.bl false, H1, I1, rfl, q1⟩
/-- a if t else b -/
def tIf (t : TT) (ta tb : TE) : TE := fun σ H Q => t σ H fun c H1 => if c = true then ta σ H1 Q else tb σ H1 Q
theorem pe_ifExp {c : Expr} (hc : PT X c tA) (ha : PE X a ta) (hb : PE X b tb) : PE X (.IfExp c a b pos) (tIf tA ta tb) := by
  intro pins s σ H Q I h
  refine wpAny_IfExp (thn (hc pins s σ H _ I h) fun d s1 ⟨H1, I1, q1⟩ => ?_)
  cases d with
  | true => exact ha pins s1 σ H1 Q I1 q1
  | false => exact hb pins s1 σ H1 Q I1 q1
end
end L2

namespace L2
open PySem PySem.Spec PyProof.Rows

/-! ### a list, a tuple that is read: tracked, frozen, or an object of the module -/
def SqL (K : PySem.W.Frag) (H : Hp) (a : Addr) (xs : List V) : Prop :=
  Rd H a (.lst xs) ∨
    ∃ (o : Obj) (its : Array Value) (n : Nat), K.lookup a = some o ∧ o.cls = .type "list" ∧ o.dict = none ∧ o.data = .seq its n ∧ its.size ≤ sizeLine ∧ Vals xs its.toList
def SqT (K : PySem.W.Frag) (H : Hp) (a : Addr) (xs : List V) : Prop :=
  Rd H a (.tup xs) ∨
    ∃ (o : Obj) (its : Array Value) (n : Nat), K.lookup a = some o ∧ o.cls = .type "tuple" ∧ o.data = .seq its n ∧ its.size ≤ sizeLine ∧ Vals xs its.toList
def absV : Value → Option V
  | .none => some .non
  | .bool b => some (.bl b)
  | .int i _ => some (.int i)
  | .str x _ => some (.str x)
  | .bytes b _ => some (.byt b)
  | .float b _ => some (.flt b)
  | .ref a => some (.ref a)
  | .type n => some (.ty n)
  | _ => none
theorem RelV.abs {x : V} {u : Value} (r : RelV x u) : absV u = some x := by
  cases x with
  | non => cases r; rfl
  | bl _ => cases r; rfl
  | int _ => obtain ⟨t, rfl⟩ := r; rfl
  | str _ => obtain ⟨t, rfl⟩ := r; rfl
  | byt _ => obtain ⟨t, rfl⟩ := r; rfl
  | flt _ => obtain ⟨t, rfl⟩ := r; rfl
  | ref _ => cases r; rfl
  | ty _ => cases r; rfl
theorem RelV.inj {x y : V} {u : Value} (r : RelV x u) (q : RelV y u) : x = y := Option.some.inj (r.abs.symm.trans q.abs)
theorem Vals.inj : ∀ {xs ys : List V} {us : List Value}, Vals xs us → Vals ys us → xs = ys
  | _, _, _, .nil, .nil => rfl
  | _, _, _, .cons r t, .cons r' t' => by rw [r.inj r', Vals.inj t t']
section
variable {X : Cx} {pins : List (Addr × Obj)} {σ : St} {H : Hp} {s : Shared} {a : Addr} {xs ys : List V}
theorem SqL.of {K : PySem.W.Frag} (h : H a = some (.lst xs)) : SqL K H a xs := .inl (.inl h)
theorem SqT.of {K : PySem.W.Frag} (h : H a = some (.tup xs)) : SqT K H a xs := .inl (.inl h)
theorem Inv.list (I : Inv X pins σ H s) (h : SqL X.K H a xs) : ∃ its : List Value, Vals xs its ∧ PlainL s.heap a its.toArray ∧ xs.length ≤ sizeLine := by
  rcases h with h | ⟨o, its, n, hk, hc, hd, hs, hz, r⟩
  · obtain ⟨z, its, n, r, e⟩ := h.ok I.hok
    exact ⟨its, r, ⟨_, n, e, rfl, rfl, rfl⟩, z⟩
  · refine ⟨its.toList, r, ⟨o, n, I.kIn a o hk, hc, hd, by simpa using hs⟩, ?_⟩
    have e := r.length
    simp only [Array.length_toList] at e
    omega
theorem Inv.tuple (I : Inv X pins σ H s) (h : SqT X.K H a xs) : ∃ its : List Value, Vals xs its ∧ IsTup s.heap a its.toArray ∧ xs.length ≤ sizeLine := by
  rcases h with h | ⟨o, its, n, hk, hc, hs, hz, r⟩
  · obtain ⟨z, its, r, p⟩ := h.ok I.hok
    exact ⟨its, r, p, z⟩
  · refine ⟨its.toList, r, ⟨o, I.kIn a o hk, hc, n, by simpa using hs⟩, ?_⟩
    have e := r.length
    simp only [Array.length_toList] at e
    omega
theorem Inv.list_inj (I : Inv X pins σ H s) (h : SqL X.K H a xs) (h' : SqL X.K H a ys) : xs = ys := by
  obtain ⟨its, r, ⟨o, n, e, _, _, d⟩, _⟩ := I.list h
  obtain ⟨its', r', ⟨o', n', e', _, _, d'⟩, _⟩ := I.list h'
  rw [e] at e'; cases e'
  rw [d] at d'
  injection d' with d1 _
  have : its = its' := by simpa using congrArg Array.toList d1
  subst this
  exact r.inj r'
theorem Inv.tuple_inj (I : Inv X pins σ H s) (h : SqT X.K H a xs) (h' : SqT X.K H a ys) : xs = ys := by
  obtain ⟨its, r, ⟨o, e, _, n, d⟩, _⟩ := I.tuple h
  obtain ⟨its', r', ⟨o', e', _, n', d'⟩, _⟩ := I.tuple h'
  rw [e] at e'; cases e'
  rw [d] at d'
  injection d' with d1 _
  have : its = its' := by simpa using congrArg Array.toList d1
  subst this
  exact r.inj r'
end

/-! ### another wish about exceptions -/
abbrev Cx.wish (X : Cx) (E : Value → Shared → Prop) : Cx := { X with xe := E }
/-- no exception leaves -/
abbrev Cx.nox (X : Cx) : Cx := X.wish fun _ _ => False
theorem Cx.Ok.wish {X : Cx} (ok : X.Ok) (E : Value → Shared → Prop) : (X.wish E).Ok :=
  ⟨ok.mod, ok.kind, ok.glob, ok.blt, ok.above, ok.inj, ok.has, ok.cab, ok.hd, ok.frames, ok.stk, ok.exf, ok.bs, ok.bsz, ok.noex, ok.exfs, ok.funs, ok.frf⟩
theorem Cx.Ok.unwish {X : Cx} {E : Value → Shared → Prop} (ok : (X.wish E).Ok) : X.Ok :=
  ⟨ok.mod, ok.kind, ok.glob, ok.blt, ok.above, ok.inj, ok.has, ok.cab, ok.hd, ok.frames, ok.stk, ok.exf, ok.bs, ok.bsz, ok.noex, ok.exfs, ok.funs, ok.frf⟩
section
variable {X : Cx} {pins : List (Addr × Obj)} {σ : St} {H : Hp} {s : Shared} {E : Value → Shared → Prop}
theorem Inv.wish (I : Inv X pins σ H s) (E : Value → Shared → Prop) : Inv (X.wish E) pins σ H s := ⟨I.ok.wish E, I.os, I.bare, I.base, I.loc, I.cell, I.free, I.freeC, I.pin, I.hok, I.len⟩
theorem Inv.unwish (I : Inv (X.wish E) pins σ H s) : Inv X pins σ H s := ⟨I.ok.unwish, I.os, I.bare, I.base, I.loc, I.cell, I.free, I.freeC, I.pin, I.hok, I.len⟩
theorem SP.unwish {D : Ends} {f : Flow} {s' : Shared} (h : SP (X.wish E) pins D f s') : SP X pins D f s' := by
  cases f with
  | next => obtain ⟨σ', H', I, q⟩ := h; exact ⟨σ', H', I.unwish, q⟩
  | brk => obtain ⟨σ', H', I, q⟩ := h; exact ⟨σ', H', I.unwish, q⟩
  | cont => obtain ⟨σ', H', I, q⟩ := h; exact ⟨σ', H', I.unwish, q⟩
  | ret u => obtain ⟨v, σ', H', I, r, q⟩ := h; exact ⟨v, σ', H', I.unwish, r, q⟩
theorem PSs.nox {st : List Stmt} {t : TS} (h : PSs X.nox st t) : PSs X st t := fun pins s σ H D I hw =>
  wpAny_mono (h pins s σ H D (I.wish _) hw) (fun _ _ q => q.unwish) fun _ _ z => False.elim z
end

/-! ### blocks and small statements -/
section
variable {X : Cx} {st : Stmt} {rest : List Stmt} {t u : TS} {e : Expr} {te : TE} {pos : Pos}
def tNext : TS := fun D σ H => D.nx σ H
def tSeq (t u : TS) : TS := fun D σ H => t { D with nx := u D } σ H
theorem pss_nil : PSs X [] tNext := fun _ _ σ H _ I h => wpAny_execs_nil ⟨σ, H, I, h⟩
theorem pss_cons (h1 : PS X st t) (h2 : PSs X rest u) : PSs X (st :: rest) (tSeq t u) := by
  intro pins s σ H D I h
  refine wpAny_execs_cons (thn (h1 pins s σ H { D with nx := u D } I h) fun f s1 q => ?_)
  cases f with
  | next =>
    obtain ⟨σ', H', I', q⟩ := q
    exact h2 pins s1 σ' H' D I' q
  | ret v => exact q
  | brk => exact q
  | cont => exact q
theorem pss_one (h1 : PS X st t) : PSs X [st] t := by
  intro pins s σ H D I h
  refine wpAny_execs_cons (thn (h1 pins s σ H D I h) fun f s1 q => ?_)
  cases f with
  | next => exact wpAny_execs_nil q
  | ret v => exact q
  | brk => exact q
  | cont => exact q
/-- in a def's body nothing is shown -/
theorem Inv.quiet {pins : List (Addr × Obj)} {σ : St} {H : Hp} {s : Shared} (I : Inv X pins σ H s) : interactive X.env = false := by simp [interactive, I.ok.kind]
/-- an expression whose value is dropped -/
def tDrop (te : TE) : TS := fun D σ H => te σ H fun _ H1 => D.nx σ H1
theorem ps_expr (he : PE X e te) (hs : swapsWith e none pos.line X.env = pure false := by rfl) : PS X (.Expr e pos) (tDrop te) := by
  intro pins s σ H D I h
  exact wpAny_Expr_any (thn (he pins s σ H _ I h) fun v s1 ⟨x, H1, I1, r1, q1⟩ => ⟨σ, H1, I1, q1⟩) I.quiet hs
def tRet (te : TE) : TS := fun D σ H => te σ H D.rt
theorem ps_ret (he : PE X e te) : PS X (.Return (some e) pos) (tRet te) := by
  intro pins s σ H D I h
  exact wpAny_Return_some (thn (he pins s σ H _ I h) fun v s1 ⟨x, H1, I1, r1, q1⟩ => ⟨x, σ, H1, I1, r1, q1⟩)
def tIfS (c : TT) (t u : TS) : TS := fun D σ H => c σ H fun b H1 => if b = true then t D σ H1 else u D σ H1
theorem ps_if {c : Expr} {a b : List Stmt} {tc : TT} (hc : PT X c tc) (ha : PSs X a t) (hb : PSs X b u) : PS X (.If c a b pos) (tIfS tc t u) := by
  intro pins s σ H D I h
  refine wpAny_If (thn (hc pins s σ H _ I h) fun d s1 ⟨H1, I1, q1⟩ => ?_)
  cases d with
  | true => exact ha pins s1 σ H1 D I1 q1
  | false => exact hb pins s1 σ H1 D I1 q1
/-- code that the proof never comes to -/
def tNever : TS := fun _ _ _ => False
theorem ps_never : PS X st tNever := fun _ _ _ _ _ _ h => h.elim
end

/-! ### targets -/
abbrev TG := V → St → Hp → (St → Hp → Prop) → Prop
abbrev TGs := List V → St → Hp → (St → Hp → Prop) → Prop
def PG (X : Cx) (target : Expr) (t : TG) : Prop :=
  ∀ (pins : List (Addr × Obj)) (s : Shared) (σ : St) (H : Hp) (v : V) (u : Value) (Q : St → Hp → Prop), Inv X pins σ H s → RelV v u → t v σ H Q →
    wpAny (model X.prog X.w) X.A (assign target X.env u) (fun _ s' => ∃ σ' H', Inv X pins σ' H' s' ∧ Q σ' H') X.xe s
/-- several targets, one after another -/
def PGs (X : Cx) (ts : List Expr) (t : TGs) : Prop :=
  ∀ (pins : List (Addr × Obj)) (s : Shared) (σ : St) (H : Hp) (vs : List V) (us : List Value) (Q : St → Hp → Prop), Inv X pins σ H s → Vals vs us → t vs σ H Q →
    wpAny (model X.prog X.w) X.A (assignInOrder ((assignEach ts X.env).map (·.2)) us) (fun _ s' => ∃ σ' H', Inv X pins σ' H' s' ∧ Q σ' H') X.xe s
/-- o[i] = v, by values -/
abbrev TSet := V → V → V → Hp → (Hp → Prop) → Prop
def PSet (X : Cx) (t : TSet) : Prop :=
  ∀ (pins : List (Addr × Obj)) (s : Shared) (σ : St) (H : Hp) (o i v : V) (ov iv u : Value) (Q : Hp → Prop), Inv X pins σ H s → RelV o ov → RelV i iv → RelV v u → t o i v H Q →
    wpAny (model X.prog X.w) X.A (setItem ov iv u) (fun _ s' => ∃ H', Inv X pins σ H' s' ∧ Q H') X.xe s
section
variable {X : Cx} {pos : Pos}
def gName (i : Nat) : TG := fun v σ H Q => Q (σ.set i (some v)) H
theorem pg_name {i : Nat} {x : Str} (hN : X.N.Nodup) (hi : X.N[i]? = some x) (hx : Loc X.env.scope x) (hf : X.fn x = true ∨ X.env.scope.names.lookup x = some .local := by first | exact .inl rfl | exact .inr rfl | assumption) : PG X (.Name x pos) (gName i) := by
  intro pins s σ H v u Q I r h
  exact wpAny_assign_Name (store_ok I hN hi hx r (fun s' I' => ⟨_, H, I', h⟩) hf)
def gNil : TGs := fun vs σ H Q => vs = [] ∧ Q σ H
def gCons (t : TG) (u : TGs) : TGs := fun vs σ H Q => ∃ v r, vs = v :: r ∧ t v σ H fun σ' H' => u r σ' H' Q
theorem pgs_nil : PGs X [] gNil := by
  intro pins s σ H vs us Q I r h
  obtain ⟨e, h⟩ := h
  subst e
  cases r
  exact assignInOrder_nil ⟨σ, H, I, h⟩
theorem pgs_cons {e : Expr} {es : List Expr} {t : TG} {u : TGs} (h1 : PG X e t) (h2 : PGs X es u)
    (hs : (assignEach (e :: es) X.env).map (·.2) = assign e X.env :: (assignEach es X.env).map (·.2) := by rfl) : PGs X (e :: es) (gCons t u) := by
  intro pins s σ H vs us Q I r h
  obtain ⟨v, vr, e1, h⟩ := h
  subst e1
  cases r with
  | cons r rr =>
    rw [hs]
    refine assignInOrder_cons (thn (h1 pins s σ H _ _ _ I r h) fun _ s1 ⟨σ1, H1, I1, q1⟩ => ?_)
    exact h2 pins s1 σ1 H1 _ _ Q I1 rr q1
/-- (a, b, ..) = a tuple of that length -/
def gTup (K : PySem.W.Frag) (n : Nat) (t : TGs) : TG := fun v σ H Q => ∃ a xs, v = .ref a ∧ SqT K H a xs ∧ xs.length = n ∧ t xs σ H Q
theorem pg_tup {es : List Expr} {k : Nat} {t : TGs} {n : Nat} (hc : X.calm = true) (h : PGs X es t)
    (hn : (assignEach es X.env).length = n := by rfl) (hst : (assignEach es X.env).findIdx? (·.1) = none := by rfl) : PG X (.Tuple es k pos) (gTup X.K n t) := by
  intro pins s σ H v u Q I r hw
  obtain ⟨a, xs, e1, hq, hl, hw⟩ := hw
  subst e1
  cases r
  obtain ⟨its, rv, ht, hz⟩ := I.tuple hq
  refine assign_Tuple_tuple (I.ok.hd hc) ht (by simp [hn, ← hl, rv.length]) hst fun h' hx => ?_
  have I1 : Inv X pins σ H { s with heap := h' } := I.kept (t' := s.toks) fun b o e => hx b o (Nat.ne_of_lt (Heap.lt_size e)) e
  exact h pins _ σ H xs _ Q I1 (by simpa using rv) hw
/-- o[i] = .. -/
def gSub (to ti : TE) (t : TSet) : TG := fun v σ H Q => to σ H fun o H1 => ti σ H1 fun i H2 => t o i v H2 fun H3 => Q σ H3
theorem pg_sub {o i : Expr} {to ti : TE} {t : TSet} (ho : PE X o to) (hi : PE X i ti) (hs : PSet X t)
    (ha : ∀ v, assign (.Subscript o i pos) X.env v = (do
      let ov ← holding [v] (eval o X.env)
      let iv ← holding [v, ov] (eval i X.env)
      standAt pos
      holding [v, ov, iv] (setItem ov iv v)
      release [v, ov, iv] []) := by intro _; rfl) : PG X (.Subscript o i pos) (gSub to ti t) := by
  intro pins s σ H v u Q I r h
  rw [ha]
  refine wpAny_bind (wpAny_holding (thn (ho pins s σ H _ I h) fun ov s1 ⟨x, H1, I1, r1, q1⟩ => ?_))
  refine wpAny_bind (wpAny_holding (thn (hi pins s1 σ H1 _ I1 q1) fun iv s2 ⟨y, H2, I2, r2, q2⟩ => ?_))
  refine wpAny_bind (wpAny_standAt (wpAny_bind (wpAny_holding (thn (hs pins s2 σ H2 x y v ov iv u _ I2 r1 r2 r q2) fun _ s3 ⟨H3, I3, q3⟩ => ?_))))
  exact wpAny_release ⟨σ, H3, I3, q3⟩
/-- target = value -/
def tAsg (te : TE) (g : TG) : TS := fun D σ H => te σ H fun x H1 => g x σ H1 D.nx
theorem ps_asg {tg e : Expr} {te : TE} {g : TG} (he : PE X e te) (hg : PG X tg g) (hs : swapsWithSole [tg] e pos.line X.env = pure false := by rfl) (hw : swappedStores [tg] e X.env = pure none := by rfl)
    (h1 : (assignEach [tg] X.env).map (·.2) = [assign tg X.env] := by rfl) : PS X (.Assign [tg] e pos) (tAsg te g) := by
  intro pins s σ H D I h
  refine wpAny_Assign_stores (thn (he pins s σ H _ I h) fun v s1 ⟨x, H1, I1, r1, q1⟩ => ?_) hs hw
  rw [h1]
  exact thn (hg pins s1 σ H1 x v _ I1 r1 q1) fun _ s2 q => q
/-- name = value -/
theorem ps_set {i : Nat} {x : Str} {e : Expr} {te : TE} {pos' : Pos} (hN : X.N.Nodup) (hi : X.N[i]? = some x) (hx : Loc X.env.scope x) (he : PE X e te) (hs : swapsWith e (some (.Name x pos')) pos.line X.env = pure false := by rfl) (hf : X.fn x = true ∨ X.env.scope.names.lookup x = some .local := by first | exact .inl rfl | exact .inr rfl | assumption) :
    PS X (.Assign [.Name x pos'] e pos) (tAsg te (gName i)) := by
  intro pins s σ H D I h
  refine wpAny_Assign_Name (thn (he pins s σ H _ I h) fun v s1 ⟨y, H1, I1, r1, q1⟩ => ?_) hs
  exact store_ok I1 hN hi hx r1 (fun s2 I2 => ⟨_, H1, I2, q1⟩) hf
end

/-! ### while -/
section
variable {X : Cx} {pos : Pos}
end

/-! ### what a loop or a comprehension walks -/
/-- at turn i: it yields x (the heap may grow), or it stops -/
structure It where
  go : Nat → Hp → Prop
  yld : Nat → Hp → V → Hp → Prop
  stop : Nat → Hp → Prop
/-- the iterator's own objects may turn: they are not the frame's, not pinned, younger than the entry (or a comprehension's own) -/
def FpOk (X : Cx) (pins : List (Addr × Obj)) (H : Hp) (b : Addr) : Prop :=
  H b = none ∧ b ≠ X.env.locals ∧ b ∉ X.fs ∧ (b ∈ X.ex ∨ X.s₀.heap.objs.size ≤ b) ∧ (∀ x c, X.env.cells.lookup x = some c → c ≠ b) ∧ ∀ p ∈ X.pn ++ pins, p.1 ≠ b
theorem Inv.fpOk {X : Cx} {pins : List (Addr × Obj)} {σ : St} {H H' : Hp} {s : Shared} {b : Addr} (I : Inv X pins σ H s) (hb : s.heap.objs.size ≤ b) (hn : H' b = none) : FpOk X pins H' b := by
  refine ⟨hn, Nat.ne_of_gt (Nat.lt_of_lt_of_le I.lt hb), I.nofs hb, .inr (Nat.le_trans I.sz hb), fun x c e z => ?_, fun p hp z => ?_⟩
  · obtain ⟨v, q⟩ := I.cell x c e
    exact absurd (Nat.lt_of_lt_of_le q.lt (by rw [z]; exact hb)) (Nat.lt_irrefl _)
  · exact absurd (Nat.lt_of_lt_of_le (Heap.lt_size (I.pin p hp).1) (by rw [z]; exact hb)) (Nat.lt_irrefl _)
structure Turn (P : Program) (w : World) (K : PySem.W.Frag) (tg : Expr) (J : It) (fp : List Addr) (it : Addr) (tn : Nat → Heap → Prop) : Prop where
  mem : it ∈ fp
  obj : ∀ i h, tn i h → ∀ b ∈ fp, ∃ o, h.get? b = some o ∧ ∀ v, o.data ≠ .cell v
  keep : ∀ i h h', tn i h → (∀ b ∈ fp, ∀ o, h.get? b = some o → h'.get? b = some o) → tn i h'
  item : ∀ (X : Cx), X.prog = P → X.w = w → X.K = K → X.calm = true → ∀ (i : Nat) (pins : List (Addr × Obj)) (s : Shared) (σ : St) (H : Hp) (E : Value → Shared → Prop), Inv X pins σ H s → (∀ b ∈ fp, FpOk X pins H b) → tn i s.heap → J.go i H →
    wpAny (model P w) X.A (pyNext (.ref it)) (fun r s1 => ∃ u, r = some u ∧
      wpAny (model P w) X.A (letOwnedTupleGo tg (.ref it) u) (fun _ s2 => ∃ x H', Inv X pins σ H' s2 ∧ RelV x u ∧ J.yld i H x H' ∧ tn (i + 1) s2.heap ∧ ∀ b ∈ fp, H' b = none) E s1) E s
  done : ∀ (X : Cx), X.prog = P → X.w = w → X.K = K → X.calm = true → ∀ (i : Nat) (pins : List (Addr × Obj)) (s : Shared) (σ : St) (H : Hp) (E : Value → Shared → Prop), Inv X pins σ H s → (∀ b ∈ fp, FpOk X pins H b) → tn i s.heap → J.stop i H →
    wpAny (model P w) X.A (pyNext (.ref it)) (fun r s1 => r = none ∧ Inv X pins σ H s1) E s
  self : ∀ (A : Around) (i : Nat) (s : Shared) (Q : Value → Shared → Prop) (E : Value → Shared → Prop), tn i s.heap → Q (.ref it) s → wpAny (model P w) A (pyIter (.ref it)) Q E s
abbrev TI := St → Hp → (It → Hp → Prop) → Prop
/-- an iterator has come -/
def PIE (X : Cx) (pins : List (Addr × Obj)) (σ : St) (tg : Expr) (R : It → Hp → Prop) (itv : Value) (s2 : Shared) : Prop :=
  ∃ (it : Addr) (fp : List Addr) (tn : Nat → Heap → Prop) (J : It) (H' : Hp), itv = .ref it ∧ Inv X pins σ H' s2 ∧ Turn X.prog X.w X.K tg J fp it tn ∧ tn 0 s2.heap ∧ (∀ b ∈ fp, FpOk X pins H' b) ∧ R J H'
def PI (X : Cx) (tg iter : Expr) (wi : TI) : Prop :=
  ∀ (pins : List (Addr × Obj)) (s : Shared) (σ : St) (H : Hp) (R : It → Hp → Prop), Inv X pins σ H s → wi σ H R →
    wpAny (model X.prog X.w) X.A (eval iter X.env) (fun v s1 => wpAny (model X.prog X.w) X.A (pyIter v) (PIE X pins σ tg R) X.xe s1) X.xe s

/-- the step ahead of the store is nothing for an iterator that keeps no tuple -/
theorem go_of {M : Model} {A : Around} {E : Value → Shared → Prop} {s : Shared} {tg : Expr} {it : Addr} {u : Value} {o : Obj} {n : String} {vs : Array Value} {Q : Unit → Shared → Prop} (ho : s.heap.get? it = some o) (hc : o.cls = .type n) (hd : o.data = .fields vs)
    (hn : ["enumerate", "zip", "dict_itemiterator", "dict_reverseitemiterator", "odict_iterator", "itertools.zip_longest", "itertools.pairwise"].contains n = false) (hQ : Q () s) : wpAny M A (letOwnedTupleGo tg (.ref it) u) Q E s := by
  unfold letOwnedTupleGo
  cases tg <;> first
    | exact wpAny_pure hQ
    | (cases u <;> first
        | exact wpAny_pure hQ
        | (refine wpAny_bind (wpAny_load ho ?_)
           rw [hc, hd]
           show wpAny M A (if (["enumerate", "zip", "dict_itemiterator", "dict_reverseitemiterator", "odict_iterator", "itertools.zip_longest", "itertools.pairwise"].contains n && vs[0]? == some (rawInt _)) = true then _ else _) Q E s
           rw [if_neg (by intro h; rw [hn, Bool.false_and] at h; cases h)]
           exact wpAny_pure hQ))

/-- the list at a, as it stands at each turn (a loop may append to it) -/
def Itl (K : PySem.W.Frag) (a : Addr) : It :=
  ⟨fun i H => ∃ xs x, SqL K H a xs ∧ xs[i]? = some x, fun i H x H' => H' = H ∧ ∀ xs, SqL K H a xs → xs[i]? = some x, fun i H => ∃ xs, SqL K H a xs ∧ xs.length ≤ i⟩
def Itt (K : PySem.W.Frag) (a : Addr) : It :=
  ⟨fun i H => ∃ xs x, SqT K H a xs ∧ xs[i]? = some x, fun i H x H' => H' = H ∧ ∀ xs, SqT K H a xs → xs[i]? = some x, fun i H => ∃ xs, SqT K H a xs ∧ xs.length ≤ i⟩
/-- lo, lo + 1, .. (n of them) -/
def Itr (lo : Int) (n : Nat) : It := ⟨fun i _ => i < n, fun i H x H' => H' = H ∧ x = .int (lo + i), fun i _ => n ≤ i⟩
theorem turn_list {P : Program} {w : World} {K : PySem.W.Frag} {tg : Expr} (a it : Addr) : Turn P w K tg (Itl K a) [it] it (fun i h => h.IsListIter it a i) where
  mem := by simp
  obj := fun i h st b hb => by
    have e : b = it := by simpa using hb
    subst e
    obtain ⟨o, e, c, d⟩ := st
    exact ⟨o, e, fun v z => by rw [d] at z; cases z⟩
  keep := fun i h h' st k => st.at fun o e => k it (by simp) o e
  item := by
    intro X hP hw hK hc i pins s σ H E I hf st hg
    subst hP hw hK
    obtain ⟨xs, x, hq, hx⟩ := hg
    obtain ⟨its, rv, p, hz⟩ := I.list hq
    obtain ⟨u, hu, ru⟩ := rv.get hx
    obtain ⟨f0, f1, f2, f3, f4, f5⟩ := hf it (by simp)
    refine wpAny_pyNext_list_item st p.isList (x := u) (by simpa using hu) fun h' st' sb => ?_
    have I1 : Inv X pins σ H { s with heap := h' } := I.turned (t' := s.toks) (fun b o hb e => (sb.2 b hb).trans e) f0 f1 f3 f4 f5
    obtain ⟨o, e, c, d⟩ := id st'
    exact ⟨u, rfl, go_of (s := { s with heap := h' }) e c d (by decide) ⟨x, H, I1, ru, ⟨rfl, fun ys hy => by rw [I.list_inj hy hq]; exact hx⟩, st', fun b hb => (hf b hb).1⟩⟩
  done := by
    intro X hP hw hK hc i pins s σ H E I hf st hg
    subst hP hw hK
    obtain ⟨xs, hq, hx⟩ := hg
    obtain ⟨its, rv, p, hz⟩ := I.list hq
    obtain ⟨f0, f1, f2, f3, f4, f5⟩ := hf it (by simp)
    have hl := rv.length
    exact wpAny_pyNext_list_end (I.ok.hd hc) st p.isList (by simp; omega) fun h' eb => ⟨rfl, I.turned (t' := s.toks) (fun b o hb e => eb b o hb e) f0 f1 f3 f4 f5⟩
  self := fun _ _ _ _ _ st h => wpAny_pyIter_listiter st h
theorem turn_tuple {P : Program} {w : World} {K : PySem.W.Frag} {tg : Expr} (a it : Addr) : Turn P w K tg (Itt K a) [it] it (fun i h => h.IsTupleIter it a i) where
  mem := by simp
  obj := fun i h st b hb => by
    have e : b = it := by simpa using hb
    subst e
    obtain ⟨o, e, c, d⟩ := st
    exact ⟨o, e, fun v z => by rw [d] at z; cases z⟩
  keep := fun i h h' st k => st.at fun o e => k it (by simp) o e
  item := by
    intro X hP hw hK hc i pins s σ H E I hf st hg
    subst hP hw hK
    obtain ⟨xs, x, hq, hx⟩ := hg
    obtain ⟨its, rv, p, hz⟩ := I.tuple hq
    obtain ⟨u, hu, ru⟩ := rv.get hx
    obtain ⟨f0, f1, f2, f3, f4, f5⟩ := hf it (by simp)
    refine wpAny_pyNext_tuple_item st (show s.heap.IsTuple a its.toArray from p) (x := u) (by simpa using hu) fun h' st' sb => ?_
    have I1 : Inv X pins σ H { s with heap := h' } := I.turned (t' := s.toks) (fun b o hb e => (sb.2 b hb).trans e) f0 f1 f3 f4 f5
    obtain ⟨o, e, c, d⟩ := id st'
    exact ⟨u, rfl, go_of (s := { s with heap := h' }) e c d (by decide) ⟨x, H, I1, ru, ⟨rfl, fun ys hy => by rw [I.tuple_inj hy hq]; exact hx⟩, st', fun b hb => (hf b hb).1⟩⟩
  done := by
    intro X hP hw hK hc i pins s σ H E I hf st hg
    subst hP hw hK
    obtain ⟨xs, hq, hx⟩ := hg
    obtain ⟨its, rv, p, hz⟩ := I.tuple hq
    obtain ⟨f0, f1, f2, f3, f4, f5⟩ := hf it (by simp)
    have hl := rv.length
    exact wpAny_pyNext_tuple_end (I.ok.hd hc) st (show s.heap.IsTuple a its.toArray from p) (by simp; omega) fun h' eb => ⟨rfl, I.turned (t' := s.toks) (fun b o hb e => eb b o hb e) f0 f1 f3 f4 f5⟩
  self := fun _ _ _ _ _ st h => wpAny_pyIter_tupleiter st h
theorem turn_range {P : Program} {w : World} {K : PySem.W.Frag} {tg : Expr} (it : Addr) (lo : Int) (n : Nat) : Turn P w K tg (Itr lo n) [it] it (fun i h => IsRangeIter h it (lo + (i : Nat) * 1) ((n : Int) - (i : Nat)) 1) where
  mem := by simp
  obj := fun i h st b hb => by
    have e : b = it := by simpa using hb
    subst e
    exact ⟨_, st, fun v z => by
      have z' : Data.fields _ = Data.cell v := z
      cases z'⟩
  keep := fun i h h' st k => k it (by simp) _ st
  item := by
    intro X hP hw hK hc i pins s σ H E I hf st hg
    subst hP hw hK
    obtain ⟨f0, f1, f2, f3, f4, f5⟩ := hf it (by simp)
    have W := Walks.range (prog := X.prog) (w := X.w) (I.ok.hd hc) it lo 1 n
    refine W.item i s _ _ hg st fun v h' tk hv st' kk => ?_
    obtain ⟨t, rfl⟩ := hv
    have I1 : Inv X pins σ H { s with heap := h', toks := tk } := I.turned (fun b o hb e => kk b o (by simpa using hb) e) f0 f1 f3 f4 f5
    refine ⟨_, rfl, go_of (s := { s with heap := h', toks := tk }) (n := "range_iterator") st' rfl rfl (by decide) ⟨.int (lo + i), H, I1, ⟨t, ?_⟩, ⟨rfl, rfl⟩, st', fun b hb => (hf b hb).1⟩⟩
    rw [Int.mul_one]
  done := by
    intro X hP hw hK hc i pins s σ H E I hf st hg
    subst hP hw hK
    obtain ⟨f0, f1, f2, f3, f4, f5⟩ := hf it (by simp)
    exact wpAny_pyNext_range_end (I.ok.hd hc) st (by have : n ≤ i := hg; omega) fun h' eb => ⟨rfl, I.turned (t' := s.toks) (fun b o hb e => eb b o hb e) f0 f1 f3 f4 f5⟩
  self := fun _ _ _ _ _ st h => wpAny_pyIter_rangeiter st h
end L2

namespace L2
open PySem PySem.Spec PyProof.Rows
section
variable {X : Cx} {tg : Expr}
def iList (K : PySem.W.Frag) (tl : TE) : TI := fun σ H R => tl σ H fun x H1 => ∃ a, x = .ref a ∧ (∃ xs, SqL K H1 a xs) ∧ R (Itl K a) H1
def iTup (K : PySem.W.Frag) (tl : TE) : TI := fun σ H R => tl σ H fun x H1 => ∃ a, x = .ref a ∧ (∃ xs, SqT K H1 a xs) ∧ R (Itt K a) H1
theorem pi_list {l : Expr} {tl : TE} (hl : PE X l tl) : PI X tg l (iList X.K tl) := by
  intro pins s σ H R I h
  refine thn (hl pins s σ H _ I h) fun v s1 ⟨x, H1, I1, r1, q1⟩ => ?_
  obtain ⟨a, e, ⟨xs, hq⟩, q⟩ := q1
  subst e
  cases r1
  obtain ⟨its, rv, p, hz⟩ := I1.list hq
  refine wpAny_pyIter_list p.isList ?_
  refine ⟨s1.heap.objs.size, [s1.heap.objs.size], _, _, H1, rfl, I1.kept (t' := s1.toks) fun b o e => Heap.get?_push_of_some _ e, turn_list a _, ⟨_, Heap.get?_push_size _ rfl, rfl, rfl⟩, fun b hb => ?_, q⟩
  have e : b = s1.heap.objs.size := by simpa using hb
  subst e
  exact I1.fpOk (Nat.le_refl _) (I1.hok.fresh (Nat.le_refl _))
theorem pi_tup {l : Expr} {tl : TE} (hl : PE X l tl) : PI X tg l (iTup X.K tl) := by
  intro pins s σ H R I h
  refine thn (hl pins s σ H _ I h) fun v s1 ⟨x, H1, I1, r1, q1⟩ => ?_
  obtain ⟨a, e, ⟨xs, hq⟩, q⟩ := q1
  subst e
  cases r1
  obtain ⟨its, rv, p, hz⟩ := I1.tuple hq
  refine wpAny_pyIter_tuple (show s1.heap.IsTuple a its.toArray from p) ?_
  refine ⟨s1.heap.objs.size, [s1.heap.objs.size], _, _, H1, rfl, I1.kept (t' := s1.toks) fun b o e => Heap.get?_push_of_some _ e, turn_tuple a _, ⟨_, Heap.get?_push_size _ rfl, rfl, rfl⟩, fun b hb => ?_, q⟩
  have e : b = s1.heap.objs.size := by simpa using hb
  subst e
  exact I1.fpOk (Nat.le_refl _) (I1.hok.fresh (Nat.le_refl _))
/-- a range object just made, walked -/
theorem range_it {pins : List (Addr × Obj)} {σ : St} {H : Hp} {s : Shared} {R : It → Hp → Prop} {E : Value → Shared → Prop} {lo hi : Int} {t u v : Tok} {tk : Nat} (I : Inv X pins σ H s) (h1 : -(2 ^ 62) ≤ lo) (h2 : lo < 2 ^ 62) (h3 : -(2 ^ 62) ≤ hi) (h4 : hi < 2 ^ 62)
    (q : R (Itr lo (hi - lo).toNat) H) : wpAny (model X.prog X.w) X.A (pyIter (.ref s.heap.objs.size)) (PIE X pins σ tg R) E { s with heap := s.heap.push { cls := .type "range", data := .fields #[.int lo t, .int hi u, .int 1 v] }, toks := tk } := by
  refine wpAny_pyIter_range (IsRange.new ..) (small_one h1 h2 h3 h4) ?_
  have I1 : Inv X pins σ H { s with heap := s.heap.push { cls := .type "range", data := .fields #[.int lo t, .int hi u, .int 1 v] }, toks := tk } := I.kept fun b o e => Heap.get?_push_of_some _ e
  refine ⟨(s.heap.push { cls := .type "range", data := .fields #[.int lo t, .int hi u, .int 1 v] }).objs.size, [(s.heap.push { cls := .type "range", data := .fields #[.int lo t, .int hi u, .int 1 v] }).objs.size], _, _, H, rfl,
    I1.kept (t' := tk) fun b o e => Heap.get?_push_of_some _ e, turn_range _ lo (hi - lo).toNat, ?_, fun b hb => ?_, q⟩
  · have e1 : lo + ((0 : Nat) : Int) * 1 = lo := by simp
    have e2 : (((hi - lo).toNat : Nat) : Int) - ((0 : Nat) : Int) = Builtin.Range.rangeSize lo hi 1 := by rw [rangeSize_one]; split <;> omega
    show IsRangeIter _ _ (lo + ((0 : Nat) : Int) * 1) ((((hi - lo).toNat : Nat) : Int) - ((0 : Nat) : Int)) 1
    rw [e1, e2]
    exact Heap.get?_push_size _ rfl
  · have e : b = (s.heap.push { cls := .type "range", data := .fields #[.int lo t, .int hi u, .int 1 v] }).objs.size := by simpa using hb
    subst e
    exact I1.fpOk (Nat.le_refl _) (I1.hok.fresh (Nat.le_refl _))
def iRng1 (ta : TA) : TI := fun σ H R => ta σ H fun vs H1 => ∃ j : Int, vs = [.int j] ∧ -(2 ^ 62) ≤ j ∧ j < 2 ^ 62 ∧ R (Itr 0 j.toNat) H1
theorem pi_range1 {a : Expr} {ta : TA} {p pos : Pos} (hg : Gl X "range") (hm : X.mg "range" = none) (ha : PA X [a] ta) (hs : starEach [a] X.env = [(false, eval a X.env)] := by rfl) : PI X tg (.Call (.Name "range" p) [a] [] pos) (iRng1 ta) := by
  intro pins s σ H R I h
  refine Call_ (ld_blt I hg hm boot_range (PyProof.Rows.callWith_type1 (thn (ha pos pins s σ H _ I h) fun us s1 ⟨vs, H1, I1, r1, q1⟩ => ?_) hs rfl))
  obtain ⟨j, e, q1, q2, q⟩ := q1
  subst e
  cases r1 with
  | cons r rr =>
    cases rr
    obtain ⟨t, rfl⟩ := r
    exact call_range_1 (range_it I1 (by omega) (by omega) q1 q2 (by simpa using q))
/-! ### for -/
/-- W: the invariant by the turn and a measure; N: what the body is to reach -/
def tFor (wi : TI) (g : TG) (tb : TS) : TS := fun D σ H => wi σ H fun J H1 => ∃ W : Nat → Nat → St → Hp → Prop, (∃ m, W 0 m σ H1) ∧ ∀ i m σ H, W i m σ H →
  (J.stop i H ∧ D.nx σ H) ∨ (J.go i H ∧ ∃ N : St → Hp → Prop, (∀ σ' H', N σ' H' → ∃ m', m' < m ∧ W (i + 1) m' σ' H') ∧ ∀ x H', J.yld i H x H' → g x σ H' fun σ2 H2 => tb { D with nx := N, ct := N, bk := D.nx } σ2 H2)
/-- the records at fp as they stand -/
def pinsAt (fp : List Addr) (h : Heap) : List (Addr × Obj) := fp.filterMap fun b => (h.get? b).map fun o => (b, o)
theorem mem_pinsAt {fp : List Addr} {h : Heap} {b : Addr} {o : Obj} (hb : b ∈ fp) (e : h.get? b = some o) : (b, o) ∈ pinsAt fp h := List.mem_filterMap.mpr ⟨b, hb, by rw [e]; rfl⟩
theorem of_pinsAt {fp : List Addr} {h : Heap} {p : Addr × Obj} (hp : p ∈ pinsAt fp h) : p.1 ∈ fp ∧ h.get? p.1 = some p.2 := by
  obtain ⟨b, hb, e⟩ := List.mem_filterMap.mp hp
  cases q : h.get? b with
  | none => rw [q] at e; cases e
  | some o =>
    rw [q] at e
    have e' : (b, o) = p := Option.some.inj e
    subst e'
    exact ⟨hb, q⟩
theorem Inv.pinned {pins : List (Addr × Obj)} {σ : St} {H : Hp} {s : Shared} {fp : List Addr} (I : Inv X pins σ H s) (hf : ∀ b ∈ fp, FpOk X pins H b) (ho : ∀ b ∈ fp, ∃ o, s.heap.get? b = some o ∧ ∀ v, o.data ≠ .cell v) : Inv X (pins ++ pinsAt fp s.heap) σ H s :=
  I.pins_of fun p hp => (List.mem_append.mp hp).elim (fun z => I.pin p (List.mem_append_right _ z)) fun z => by
    obtain ⟨hb, e⟩ := of_pinsAt z
    obtain ⟨f0, f1, f2, _⟩ := hf p.1 hb
    obtain ⟨o, e', d⟩ := ho p.1 hb
    rw [e] at e'; cases e'
    exact ⟨e, f0, f1, f2, d⟩
theorem Inv.unpinned {pins pl : List (Addr × Obj)} {σ : St} {H : Hp} {s : Shared} (I : Inv X (pins ++ pl) σ H s) : Inv X pins σ H s := I.pins_of fun p hp => I.pin p (List.mem_append_right _ (List.mem_append_left _ hp))
theorem ps_for {iter : Expr} {body : List Stmt} {wi : TI} {g : TG} {tb : TS} {pos : Pos} (hp : PassesOwn (model X.prog X.w) X.A X.env X.xe) (hc : X.calm = true) (hi : PI X tg iter wi) (hg : PG X tg g) (hb : PSs X body tb)
    (hs : ∀ x, foldedSetIterable iter X.env x = pure x := by intro _; rfl) : PS X (.For tg iter body [] pos) (tFor wi g tb) := by
  intro pins s σ H D I h
  refine wpAny_For (thn (hi pins s σ H _ I h) fun v s1 h1 => thn h1 fun itv s2 h2 => ?_) hs
  obtain ⟨it, fp, tn, J, H2, e, I2, T, st2, f2, W, ⟨m0, w0⟩, turn⟩ := h2
  subst e
  -- what stays true of the iterator's objects through the loop
  have stat : ∀ {H' : Hp}, (∀ b ∈ fp, H' b = none) → ∀ b ∈ fp, FpOk X pins H' b := fun hn b hb => ⟨hn b hb, (f2 b hb).2⟩
  refine codeAny_forLoop_any (fun n s' => ∃ i σ' H', Inv X pins σ' H' s' ∧ tn i s'.heap ∧ (∀ b ∈ fp, H' b = none) ∧ W i n σ' H') ?_ m0 ⟨0, σ, H2, I2, st2, fun b hb => (f2 b hb).1, w0⟩
  rintro n s3 ⟨i, σ3, H3, I3, st3, fr3, w3⟩
  rcases turn i n σ3 H3 w3 with ⟨stop, qn⟩ | ⟨go, N, hN, step⟩
  · refine wpAny_passesOwn hp (thn (T.done X rfl rfl rfl hc i pins s3 σ3 H3 X.xe I3 (stat fr3) st3 stop) fun r s4 ⟨hr, I4⟩ => ?_)
    subst hr
    exact wpAny_execs_nil ⟨σ3, H3, I4, qn⟩
  · refine wpAny_passesOwn hp (thn (T.item X rfl rfl rfl hc i pins s3 σ3 H3 X.xe I3 (stat fr3) st3 go) fun r s4 ⟨u, hr, h4⟩ => ?_)
    subst hr
    refine wpAny_passesOwn hp (thn h4 fun _ s5 ⟨x, H5, I5, r5, y5, st5, fr5⟩ => ?_)
    have I5' := I5.pinned (stat fr5) (T.obj _ _ st5)
    refine wpAny_passesOwn hp (thn (hg _ s5 σ3 H5 x u _ I5' r5 (step x H5 y5)) fun _ s6 ⟨σ6, H6, I6, q6⟩ => ?_)
    refine wpAny_passesOwn hp (thn (hb _ s6 σ6 H6 _ I6 q6) fun f s7 q7 => ?_)
    have again : ∀ {σ7 : St} {H7 : Hp}, Inv X (pins ++ pinsAt fp s5.heap) σ7 H7 s7 → N σ7 H7 → ∃ m, m < n ∧ ∃ i σ' H', Inv X pins σ' H' s7 ∧ tn i s7.heap ∧ (∀ b ∈ fp, H' b = none) ∧ W i m σ' H' := fun {σ7 H7} I7 n7 => by
      obtain ⟨m', hm, w7⟩ := hN σ7 H7 n7
      refine ⟨m', hm, i + 1, σ7, H7, I7.unpinned, T.keep _ _ _ st5 fun b hb o e => (I7.pin (b, o) (List.mem_append_right _ (List.mem_append_right _ (mem_pinsAt hb e)))).1, fun b hb => ?_, w7⟩
      obtain ⟨o, e, d⟩ := T.obj _ _ st5 b hb
      exact (I7.pin (b, o) (List.mem_append_right _ (List.mem_append_right _ (mem_pinsAt hb e)))).2.1
    cases f with
    | next => obtain ⟨σ7, H7, I7, n7⟩ := q7; exact again I7 n7
    | cont => obtain ⟨σ7, H7, I7, n7⟩ := q7; exact again I7 n7
    | brk => obtain ⟨σ7, H7, I7, q7⟩ := q7; exact ⟨σ7, H7, I7.unpinned, q7⟩
    | ret v => obtain ⟨x7, σ7, H7, I7, r7, q7⟩ := q7; exact ⟨x7, σ7, H7, I7.unpinned, r7, q7⟩
end

/-! ### the forms one uses -/
/-- over a list that the body leaves as it is -/
theorem for_list {K : PySem.W.Frag} {a : Addr} {xs : List V} {g : TG} {tb : TS} {D : Ends} {σ : St} {H : Hp} (Pv : Nat → St → Hp → Prop) (h0 : Pv 0 σ H) (hl : ∀ i σ H, i ≤ xs.length → Pv i σ H → SqL K H a xs)
    (hs : ∀ i x σ H, xs[i]? = some x → Pv i σ H → g x σ H fun σ2 H2 => tb { D with nx := Pv (i + 1), ct := Pv (i + 1), bk := D.nx } σ2 H2) (hd : ∀ σ H, Pv xs.length σ H → D.nx σ H) :
    ∃ W : Nat → Nat → St → Hp → Prop, (∃ m, W 0 m σ H) ∧ ∀ i m σ H, W i m σ H →
      ((Itl K a).stop i H ∧ D.nx σ H) ∨ ((Itl K a).go i H ∧ ∃ N : St → Hp → Prop, (∀ σ' H', N σ' H' → ∃ m', m' < m ∧ W (i + 1) m' σ' H') ∧ ∀ x H', (Itl K a).yld i H x H' → g x σ H' fun σ2 H2 => tb { D with nx := N, ct := N, bk := D.nx } σ2 H2) := by
  refine ⟨fun i m σ H => m = xs.length - i ∧ i ≤ xs.length ∧ Pv i σ H, ⟨xs.length, by simp, Nat.zero_le _, h0⟩, ?_⟩
  rintro i m σ H ⟨rfl, hi, p⟩
  have q := hl i σ H hi p
  by_cases hlt : i < xs.length
  · refine .inr ⟨⟨xs, xs[i], q, by simp [hlt]⟩, Pv (i + 1), fun σ' H' p' => ⟨xs.length - (i + 1), by omega, rfl, hlt, p'⟩, fun x H' y => ?_⟩
    obtain ⟨e, y⟩ := y
    subst e
    exact hs i x σ _ (y xs q) p
  · have e : i = xs.length := by omega
    subst e
    exact .inl ⟨⟨xs, q, Nat.le_refl _⟩, hd σ H p⟩
theorem for_tup {K : PySem.W.Frag} {a : Addr} {xs : List V} {g : TG} {tb : TS} {D : Ends} {σ : St} {H : Hp} (Pv : Nat → St → Hp → Prop) (h0 : Pv 0 σ H) (hl : ∀ i σ H, i ≤ xs.length → Pv i σ H → SqT K H a xs)
    (hs : ∀ i x σ H, xs[i]? = some x → Pv i σ H → g x σ H fun σ2 H2 => tb { D with nx := Pv (i + 1), ct := Pv (i + 1), bk := D.nx } σ2 H2) (hd : ∀ σ H, Pv xs.length σ H → D.nx σ H) :
    ∃ W : Nat → Nat → St → Hp → Prop, (∃ m, W 0 m σ H) ∧ ∀ i m σ H, W i m σ H →
      ((Itt K a).stop i H ∧ D.nx σ H) ∨ ((Itt K a).go i H ∧ ∃ N : St → Hp → Prop, (∀ σ' H', N σ' H' → ∃ m', m' < m ∧ W (i + 1) m' σ' H') ∧ ∀ x H', (Itt K a).yld i H x H' → g x σ H' fun σ2 H2 => tb { D with nx := N, ct := N, bk := D.nx } σ2 H2) := by
  refine ⟨fun i m σ H => m = xs.length - i ∧ i ≤ xs.length ∧ Pv i σ H, ⟨xs.length, by simp, Nat.zero_le _, h0⟩, ?_⟩
  rintro i m σ H ⟨rfl, hi, p⟩
  have q := hl i σ H hi p
  by_cases hlt : i < xs.length
  · refine .inr ⟨⟨xs, xs[i], q, by simp [hlt]⟩, Pv (i + 1), fun σ' H' p' => ⟨xs.length - (i + 1), by omega, rfl, hlt, p'⟩, fun x H' y => ?_⟩
    obtain ⟨e, y⟩ := y
    subst e
    exact hs i x σ _ (y xs q) p
  · have e : i = xs.length := by omega
    subst e
    exact .inl ⟨⟨xs, q, Nat.le_refl _⟩, hd σ H p⟩
theorem for_range {lo : Int} {n : Nat} {g : TG} {tb : TS} {D : Ends} {σ : St} {H : Hp} (Pv : Nat → St → Hp → Prop) (h0 : Pv 0 σ H)
    (hs : ∀ i σ H, i < n → Pv i σ H → g (.int (lo + i)) σ H fun σ2 H2 => tb { D with nx := Pv (i + 1), ct := Pv (i + 1), bk := D.nx } σ2 H2) (hd : ∀ σ H, Pv n σ H → D.nx σ H) :
    ∃ W : Nat → Nat → St → Hp → Prop, (∃ m, W 0 m σ H) ∧ ∀ i m σ H, W i m σ H →
      ((Itr lo n).stop i H ∧ D.nx σ H) ∨ ((Itr lo n).go i H ∧ ∃ N : St → Hp → Prop, (∀ σ' H', N σ' H' → ∃ m', m' < m ∧ W (i + 1) m' σ' H') ∧ ∀ x H', (Itr lo n).yld i H x H' → g x σ H' fun σ2 H2 => tb { D with nx := N, ct := N, bk := D.nx } σ2 H2) := by
  refine ⟨fun i m σ H => m = n - i ∧ i ≤ n ∧ Pv i σ H, ⟨n, by simp, Nat.zero_le _, h0⟩, ?_⟩
  rintro i m σ H ⟨rfl, hi, p⟩
  by_cases hlt : i < n
  · refine .inr ⟨hlt, Pv (i + 1), fun σ' H' p' => ⟨n - (i + 1), by omega, rfl, hlt, p'⟩, fun x H' y => ?_⟩
    obtain ⟨e, y⟩ := y
    subst e y
    exact hs i σ _ hlt p
  · have e : i = n := by omega
    subst e
    exact .inl ⟨Nat.le_refl _, hd σ H p⟩
end L2

namespace L2
open PySem PySem.Spec PyProof.Rows

abbrev R2 := V → V → Hp → VK → Prop
/-- a two-place operation on values: f is binaryOp op, inplaceOp op or compareOp op -/
def OpR (X : Cx) (f : Value → Value → Sem Value) (r : R2) : Prop :=
  ∀ (pins : List (Addr × Obj)) (s : Shared) (σ : St) (H : Hp) (x y : V) (v u : Value) (Q : VK), Inv X pins σ H s → RelV x v → RelV y u → r x y H Q →
    wpAny (model X.prog X.w) X.A (f v u) (EP X pins σ Q) X.xe s
/-- a one-place operation -/
def UnR (X : Cx) (f : Value → Sem Value) (r : V → Hp → VK → Prop) : Prop :=
  ∀ (pins : List (Addr × Obj)) (s : Shared) (σ : St) (H : Hp) (x : V) (v : Value) (Q : VK), Inv X pins σ H s → RelV x v → r x H Q →
    wpAny (model X.prog X.w) X.A (f v) (EP X pins σ Q) X.xe s
/-- a call of a value that is known (a builtin, a type) with values -/
def CallR (X : Cx) (f : Value) (r : List V → Hp → VK → Prop) : Prop :=
  ∀ (pins : List (Addr × Obj)) (s : Shared) (σ : St) (H : Hp) (xs : List V) (us : List Value) (Q : VK), Inv X pins σ H s → Vals xs us → r xs H Q →
    wpAny (model X.prog X.w) X.A (call f us) (EP X pins σ Q) X.xe s
def tOp (r : R2) (ta tb : TE) : TE := fun σ H Q => ta σ H fun x H1 => tb σ H1 fun y H2 => r x y H2 Q
def tUn (r : V → Hp → VK → Prop) (ta : TE) : TE := fun σ H Q => ta σ H fun x H1 => r x H1 Q
/-- ints in, under C, and a value out -/
def rI (C : Int → Int → Prop) (g : Int → Int → V) : R2 := fun x y H Q => ∃ i j, x = .int i ∧ y = .int j ∧ C i j ∧ Q (g i j) H
def rI0 (g : Int → Int → V) : R2 := fun x y H Q => ∃ i j, x = .int i ∧ y = .int j ∧ Q (g i j) H
def rU (g : Int → V) : V → Hp → VK → Prop := fun x H Q => ∃ i, x = .int i ∧ Q (g i) H

section
variable {X : Cx} {a b c : Expr} {ta tb tc : TE} {pos : Pos}

theorem binT (ha : PE X a ta) (hb : PE X b tb) {pins : List (Addr × Obj)} {s : Shared} {σ : St} {H : Hp} {R : V → V → Hp → Prop} (I : Inv X pins σ H s)
    (h : ta σ H fun x H1 => tb σ H1 fun y H2 => R x y H2) {Q : Value → Shared → Prop} {f : Value → Value → Sem Value}
    (hf : ∀ v u s2 x y H2, Inv X pins σ H2 s2 → RelV x v → RelV y u → R x y H2 → wpAny (model X.prog X.w) X.A (f v u) Q X.xe s2) :
    wpAny (model X.prog X.w) X.A (eval a X.env) (fun v s₁ => wpAny (model X.prog X.w) X.A (eval b X.env) (fun u s₂ => wpAny (model X.prog X.w) X.A (f v u) Q X.xe s₂) X.xe s₁) X.xe s := by
  refine thn (ha pins s σ H _ I h) fun v s1 ⟨x, H1, I1, r1, q1⟩ => ?_
  refine thn (hb pins s1 σ H1 _ I1 q1) fun u s2 ⟨y, H2, I2, r2, q2⟩ => ?_
  exact hf v u s2 x y H2 I2 r1 r2 q2

theorem pe_op {op : Operator} {r : R2} (ho : OpR X (binaryOp op) r) (ha : PE X a ta) (hb : PE X b tb) : PE X (.BinOp a op b pos) (tOp r ta tb) := by
  intro pins s σ H Q I h
  exact wpAny_BinOp (binT ha hb I h fun v u s2 x y H2 I2 rx ry q => ho pins s2 σ H2 x y v u Q I2 rx ry q)
theorem pe_un {op : UnaryOp} {r : V → Hp → VK → Prop} (ho : UnR X (unaryOp op) r) (ha : PE X a ta) : PE X (.UnaryOp op a pos) (tUn r ta) := by
  intro pins s σ H Q I h
  exact UnaryOp_ (thn (ha pins s σ H _ I h) fun v s1 ⟨x, H1, I1, r1, q1⟩ => ho pins s1 σ H1 x v Q I1 r1 q1)
/-! ### ints -/
theorem opI {f : Value → Value → Sem Value} {C : Int → Int → Prop} {g : Int → Int → Int}
    (rule : ∀ (i j : Int) (t u : Tok) (s : Shared) (Q : Value → Shared → Prop) (E : Value → Shared → Prop), C i j → Q (.int (g i j) s.toks) { s with toks := s.toks + 1 } → wpAny (model X.prog X.w) X.A (f (.int i t) (.int j u)) Q E s) :
    OpR X f (rI C fun i j => .int (g i j)) := by
  intro pins s σ H x y v u Q I rx ry h
  obtain ⟨i, j, rfl, rfl, hc, q⟩ := h
  obtain ⟨t, rfl⟩ := rx
  obtain ⟨t', rfl⟩ := ry
  exact rule i j t t' s _ _ hc ⟨.int (g i j), H, I.tok _, ⟨_, rfl⟩, q⟩
theorem opI0 {f : Value → Value → Sem Value} {g : Int → Int → Int}
    (rule : ∀ (i j : Int) (t u : Tok) (s : Shared) (Q : Value → Shared → Prop) (E : Value → Shared → Prop), Q (.int (g i j) s.toks) { s with toks := s.toks + 1 } → wpAny (model X.prog X.w) X.A (f (.int i t) (.int j u)) Q E s) :
    OpR X f (rI0 fun i j => .int (g i j)) := by
  intro pins s σ H x y v u Q I rx ry h
  obtain ⟨i, j, rfl, rfl, q⟩ := h
  obtain ⟨t, rfl⟩ := rx
  obtain ⟨t', rfl⟩ := ry
  exact rule i j t t' s _ _ ⟨.int (g i j), H, I.tok _, ⟨_, rfl⟩, q⟩
theorem opB0 {f : Value → Value → Sem Value} {g : Int → Int → Bool}
    (rule : ∀ (i j : Int) (t u : Tok) (s : Shared) (Q : Value → Shared → Prop) (E : Value → Shared → Prop), Q (.bool (g i j)) s → wpAny (model X.prog X.w) X.A (f (.int i t) (.int j u)) Q E s) :
    OpR X f (rI0 fun i j => .bl (g i j)) := by
  intro pins s σ H x y v u Q I rx ry h
  obtain ⟨i, j, rfl, rfl, q⟩ := h
  obtain ⟨t, rfl⟩ := rx
  obtain ⟨t', rfl⟩ := ry
  exact rule i j t t' s _ _ ⟨.bl (g i j), H, I, rfl, q⟩

def CDiv (i j : Int) : Prop := 0 < j ∧ j < 1073741824
def CPow (i j : Int) : Prop := 0 ≤ j ∧ j ≤ 1000000 ∧ i.natAbs < 2 ^ 64
def CMul (i j : Int) : Prop := (-(2 ^ 64) < i ∧ i < 2 ^ 64) ∨ (-(2 ^ 64) < j ∧ j < 2 ^ 64)
theorem CMul.ok {i j : Int} (h : CMul i j) : IntMulOk i j := by
  rcases h with ⟨h1, h2⟩ | ⟨h1, h2⟩
  · exact .of_left (intBits_le_64 h1 h2)
  · exact .of_right (intBits_le_64 h1 h2)
theorem op_add : OpR X (binaryOp .Add) (rI0 fun i j => .int (i + j)) := opI0 fun _ _ _ _ _ _ _ q => add_int q
theorem op_sub : OpR X (binaryOp .Sub) (rI0 fun i j => .int (i - j)) := opI0 fun _ _ _ _ _ _ _ q => sub_int q
theorem op_mul : OpR X (binaryOp .Mult) (rI CMul fun i j => .int (i * j)) := opI fun _ _ _ _ _ _ _ hc q => mul_int q hc.ok
/-- // by a positive divisor -/
theorem op_fdiv : OpR X (binaryOp .FloorDiv) (rI CDiv fun i j => .int (i / j)) := opI fun i j _ _ _ _ _ hc q => by
  have h1 : (0 : Int) < j := hc.1
  have h2 : j < 1073741824 := hc.2
  exact floordiv_int (by omega) (by rw [Int.fdiv_eq_ediv_of_nonneg i (by omega)]; exact q) (.inl (PyProof.noPylong_small (by omega)))
/-- % by a positive divisor of any size -/
theorem op_mod : OpR X (binaryOp .Mod) (rI (fun _ j => 0 < j) fun i j => .int (i % j)) := opI fun i j _ _ _ _ _ hc q => by
  have h1 : (0 : Int) < j := hc
  exact mod_int' (by omega) (by rw [Int.fmod_eq_emod_of_nonneg i (by omega)]; exact q)
theorem op_pow : OpR X (binaryOp .Pow) (rI CPow fun i j => .int (i ^ j.toNat)) := opI fun _ _ _ _ _ _ _ hc q => pow_int_small hc.1 hc.2.1 hc.2.2 q
theorem unI {f : Value → Sem Value} {g : Int → Int}
    (rule : ∀ (i : Int) (t : Tok) (s : Shared) (Q : Value → Shared → Prop) (E : Value → Shared → Prop), Q (.int (g i) s.toks) { s with toks := s.toks + 1 } → wpAny (model X.prog X.w) X.A (f (.int i t)) Q E s) :
    UnR X f (rU fun i => .int (g i)) := by
  intro pins s σ H x v Q I rx h
  obtain ⟨i, rfl, q⟩ := h
  obtain ⟨t, rfl⟩ := rx
  exact rule i t s _ _ ⟨.int (g i), H, I.tok _, ⟨_, rfl⟩, q⟩
theorem un_neg : UnR X (unaryOp .USub) (rU fun i => .int (-i)) := unI fun _ _ _ _ _ q => neg_int q
/-! ### bools among ints: n += (a < b) -/
end

/-! ### comparisons -/
/-- the scalars that == tells apart as data does -/
def scal : V → V → Bool
  | .non, .non => true | .non, .int _ => true | .int _, .non => true | .non, .bl _ => true | .bl _, .non => true | .non, .str _ => true | .str _, .non => true
  | .int _, .int _ => true | .bl _, .bl _ => true | .str _, .str _ => true | .byt _, .byt _ => true
  | .int _, .str _ => true | .str _, .int _ => true | .bl _, .str _ => true | .str _, .bl _ => true
  | _, _ => false
def rEq : R2 := fun x y H Q => scal x y = true ∧ Q (.bl (decide (x = y))) H
def rNe : R2 := fun x y H Q => scal x y = true ∧ Q (.bl (!decide (x = y))) H

theorem dec_int {i j : Int} : decide (V.int i = V.int j) = (i == j) := by
  rw [Bool.eq_iff_iff]
  simp
theorem dec_bl {i j : Bool} : decide (V.bl i = V.bl j) = (i == j) := by
  rw [Bool.eq_iff_iff]
  simp
theorem dec_str {i j : Str} : decide (V.str i = V.str j) = (i == j) := by
  rw [Bool.eq_iff_iff]
  simp
theorem dec_byt {i j : Array UInt8} : decide (V.byt i = V.byt j) = (i.toList == j.toList) := by
  rw [Bool.eq_iff_iff]
  cases i
  cases j
  simp

section
variable {X : Cx} {a b c : Expr} {ta tb tc : TE} {pos : Pos}
theorem fin_bl {pins : List (Addr × Obj)} {σ : St} {H : Hp} {s : Shared} {Q : VK} {k k' : Bool} (I : Inv X pins σ H s) (q : Q (.bl k) H) (e : k = k') : EP X pins σ Q (.bool k') s := by
  subst e
  exact ⟨.bl k, H, I, rfl, q⟩
theorem op_eq : OpR X (compareOp .Eq) rEq := by
  intro pins s σ H x y v u Q I rx ry h
  obtain ⟨hs, q⟩ := h
  cases x with
  | non =>
    cases rx
    cases y with
    | non => cases ry; exact PySem.EqNone.eq_none_none (fin_bl I q (by simp))
    | bl j => cases ry; exact PySem.EqNone.eq_none_bool (fin_bl I q (by simp))
    | int j => obtain ⟨t', rfl⟩ := ry; exact PySem.EqNone.eq_none_int (fin_bl I q (by simp))
    | str j => obtain ⟨t', rfl⟩ := ry; exact PySem.EqNone.eq_none_str (fin_bl I q (by simp))
    | _ => exact absurd (show false = true from hs) Bool.false_ne_true
  | bl i =>
    cases rx
    cases y with
    | non => cases ry; exact PySem.EqNone.eq_bool_none (fin_bl I q (by simp))
    | bl j => cases ry; exact eq_bool (fin_bl I q dec_bl)
    | str j => obtain ⟨t', rfl⟩ := ry; exact PySem.EqMixed.eq_bool_str (fin_bl I q (by simp))
    | _ => exact absurd (show false = true from hs) Bool.false_ne_true
  | int i =>
    obtain ⟨t, rfl⟩ := rx
    cases y with
    | non => cases ry; exact PySem.EqNone.eq_int_none (fin_bl I q (by simp))
    | int j => obtain ⟨t', rfl⟩ := ry; exact eq_int (fin_bl I q dec_int)
    | str j => obtain ⟨t', rfl⟩ := ry; exact PySem.EqMixed.eq_int_str (fin_bl I q (by simp))
    | _ => exact absurd (show false = true from hs) Bool.false_ne_true
  | str i =>
    obtain ⟨t, rfl⟩ := rx
    cases y with
    | non => cases ry; exact PySem.EqNone.eq_str_none (fin_bl I q (by simp))
    | bl j => cases ry; exact PySem.EqMixed.eq_str_bool (fin_bl I q (by simp))
    | int j => obtain ⟨t', rfl⟩ := ry; exact PySem.EqMixed.eq_str_int (fin_bl I q (by simp))
    | str j => obtain ⟨t', rfl⟩ := ry; exact eq_str (fin_bl I q dec_str)
    | _ => exact absurd (show false = true from hs) Bool.false_ne_true
  | byt i =>
    obtain ⟨t, rfl⟩ := rx
    cases y with
    | byt j => obtain ⟨t', rfl⟩ := ry; exact PySem.W.eq_bytes (fin_bl I q dec_byt)
    | _ => exact absurd (show false = true from hs) Bool.false_ne_true
  | _ => cases y <;> exact absurd (show false = true from hs) Bool.false_ne_true
theorem op_ne : OpR X (compareOp .NotEq) rNe := by
  intro pins s σ H x y v u Q I rx ry h
  obtain ⟨hs, q⟩ := h
  cases x with
  | non =>
    cases rx
    cases y with
    | non => cases ry; exact PySem.EqNone.ne_none_none (fin_bl I q (by simp))
    | bl j => cases ry; exact PySem.EqNone.ne_none_bool (fin_bl I q (by simp))
    | int j => obtain ⟨t', rfl⟩ := ry; exact PySem.EqNone.ne_none_int (fin_bl I q (by simp))
    | str j => obtain ⟨t', rfl⟩ := ry; exact PySem.EqNone.ne_none_str (fin_bl I q (by simp))
    | _ => exact absurd (show false = true from hs) Bool.false_ne_true
  | bl i =>
    cases rx
    cases y with
    | non => cases ry; exact PySem.EqNone.ne_bool_none (fin_bl I q (by simp))
    | bl j => cases ry; exact ne_bool (fin_bl I q (congrArg not dec_bl))
    | str j => obtain ⟨t', rfl⟩ := ry; exact PySem.EqMixed.ne_bool_str (fin_bl I q (by simp))
    | _ => exact absurd (show false = true from hs) Bool.false_ne_true
  | int i =>
    obtain ⟨t, rfl⟩ := rx
    cases y with
    | non => cases ry; exact PySem.EqNone.ne_int_none (fin_bl I q (by simp))
    | int j => obtain ⟨t', rfl⟩ := ry; exact ne_int (fin_bl I q (congrArg not dec_int))
    | str j => obtain ⟨t', rfl⟩ := ry; exact PySem.EqMixed.ne_int_str (fin_bl I q (by simp))
    | _ => exact absurd (show false = true from hs) Bool.false_ne_true
  | str i =>
    obtain ⟨t, rfl⟩ := rx
    cases y with
    | non => cases ry; exact PySem.EqNone.ne_str_none (fin_bl I q (by simp))
    | bl j => cases ry; exact PySem.EqMixed.ne_str_bool (fin_bl I q (by simp))
    | int j => obtain ⟨t', rfl⟩ := ry; exact PySem.EqMixed.ne_str_int (fin_bl I q (by simp))
    | str j => obtain ⟨t', rfl⟩ := ry; exact ne_str (fin_bl I q (congrArg not dec_str))
    | _ => exact absurd (show false = true from hs) Bool.false_ne_true
  | byt i =>
    obtain ⟨t, rfl⟩ := rx
    cases y with
    | byt j => obtain ⟨t', rfl⟩ := ry; exact PySem.W.ne_bytes (fin_bl I q (congrArg not dec_byt))
    | _ => exact absurd (show false = true from hs) Bool.false_ne_true
  | _ => cases y <;> exact absurd (show false = true from hs) Bool.false_ne_true

theorem op_lt : OpR X (compareOp .Lt) (rI0 fun i j => .bl (decide (i < j))) := opB0 fun _ _ _ _ _ _ _ q => lt_int q
theorem op_le : OpR X (compareOp .LtE) (rI0 fun i j => .bl (decide (i ≤ j))) := opB0 fun _ _ _ _ _ _ _ q => le_int q
theorem op_gt : OpR X (compareOp .Gt) (rI0 fun i j => .bl (decide (j < i))) := opB0 fun _ _ _ _ _ _ _ q => gt_int q
theorem op_ge : OpR X (compareOp .GtE) (rI0 fun i j => .bl (decide (j ≤ i))) := opB0 fun _ _ _ _ _ _ _ q => ge_int q
/-- is None, is not None: the right side a value none -/
theorem op_isN : OpR X (compareOp .Is) (fun x y H Q => y = .non ∧ Q (.bl (decide (x = .non))) H) := by
  intro pins s σ H x y v u Q I rx ry h
  obtain ⟨rfl, q⟩ := h
  cases ry
  refine is_none_gen (fin_bl I q ?_)
  cases x <;> first
    | (cases rx; rfl)
    | (obtain ⟨t, rfl⟩ := rx; rfl)
theorem nomark (b : Expr) {op : CmpOp} (h : op ≠ .In := by decide) (h2 : op ≠ .NotIn := by decide) : behindInMarks op b = false := by
  have e1 : (op == CmpOp.In) = false := by cases op <;> first | rfl | exact absurd rfl h
  have e2 : (op == CmpOp.NotIn) = false := by cases op <;> first | rfl | exact absurd rfl h2
  cases b <;> simp [behindInMarks, e1, e2]
/-- a comparison as a value; hm: nomark b, or (for in, not in) by with_unfolding_all rfl -/
theorem pe_cmpR {op : CmpOp} {r : R2} (ho : OpR X (compareOp op) r) (ha : PE X a ta) (hb : PE X b tb) (hm : behindInMarks op b = false) : PE X (.Compare a [op] [b] pos) (tOp r ta tb) := by
  intro pins s σ H Q I h
  exact wpAny_Compare1 (binT ha hb I h fun v u s2 x y H2 I2 rx ry q => ho pins s2 σ H2 x y v u Q I2 rx ry q) hm
/-- a reading of a value as a test -/
def tTest (t : TE) : TT := fun σ H Q => t σ H fun x H' => ∃ k, x = .bl k ∧ Q k H'
theorem pt_cmpR {op : CmpOp} {r : R2} (ho : OpR X (compareOp op) r) (ha : PE X a ta) (hb : PE X b tb) (hm : behindInMarks op b = false) : PT X (.Compare a [op] [b] pos) (tTest (tOp r ta tb)) := by
  intro pins s σ H Q I h
  refine wpAny_isTrue_Compare1 (thn (ha pins s σ H _ I h) fun v s1 ⟨x, H1, I1, r1, q1⟩ => thn (hb pins s1 σ H1 _ I1 q1) fun u s2 ⟨y, H2, I2, r2, q2⟩ =>
    thn (ho pins s2 σ H2 x y v u _ I2 r1 r2 q2) fun c s3 ⟨z, H3, I3, r3, k, e, q3⟩ => ?_) hm
  subst e
  cases r3
  exact wpAny_truthy_bool ⟨H3, I3, q3⟩
/-- a op1 b op2 c -/
def tChain (r r' : R2) (ta tb tc : TE) : TE := fun σ H Q => ta σ H fun x H1 => tb σ H1 fun y H2 => r x y H2 fun z H3 => ∃ k, z = .bl k ∧
  (if k = true then tc σ H3 fun w' H4 => r' y w' H4 Q else Q (.bl false) H3)
theorem pt_chain {op op' : CmpOp} {r r' : R2} (ho : OpR X (compareOp op) r) (ho' : OpR X (compareOp op') r') (ha : PE X a ta) (hb : PE X b tb) (hc : PE X c tc)
    (hm : lastMarks [op, op'] [b, c] = false := by with_unfolding_all rfl) : PT X (.Compare a [op, op'] [b, c] pos) (tTest (tChain r r' ta tb tc)) := by
  intro pins s σ H Q I h
  refine isTrue_chain (thn (ha pins s σ H _ I h) fun v s1 ⟨x, H1, I1, r1, q1⟩ => test_link (thn (hb pins s1 σ H1 _ I1 q1) fun u s2 ⟨y, H2, I2, r2, q2⟩ =>
    thn (ho pins s2 σ H2 x y v u _ I2 r1 r2 q2) fun d s3 ⟨z, H3, I3, r3, k, e, q3⟩ => ?_)) hm
  subst e
  cases r3
  refine wpAny_truthy_bool ?_
  cases k with
  | false =>
    obtain ⟨k', e', q'⟩ := q3
    cases e'
    exact ite_ff ⟨H3, I3, q'⟩
  | true =>
    refine ite_tt (test_last (thn (hc pins s3 σ H3 _ I3 q3) fun w' s4 ⟨z', H4, I4, r4, q4⟩ => thn (ho' pins s4 σ H4 y z' u w' _ I4 r2 r4 q4) fun d' s5 ⟨z2, H5, I5, r5, k2, e2, q5⟩ => ?_))
    subst e2
    cases r5
    exact wpAny_truthy_bool ⟨H5, I5, q5⟩

/-! ### truth -/
theorem line63 : (sizeLine : Nat) < 2 ^ 63 := by rw [sizeLine_eq]; decide
/-! ### strs and bytes -/
theorem op_add_str : OpR X (binaryOp .Add) (fun x y H Q => ∃ i j, x = .str i ∧ y = .str j ∧ i.length + j.length ≤ sizeLine ∧ Q (.str (i ++ j)) H) := by
  intro pins s σ H x y v u Q I rx ry h
  obtain ⟨i, j, rfl, rfl, hz, q⟩ := h
  obtain ⟨t, rfl⟩ := rx
  obtain ⟨t', rfl⟩ := ry
  exact add_str (fun t' tk => ⟨.str (i ++ j), H, I.tok _, ⟨_, rfl⟩, q⟩) hz
/-! ### scalar builtins, by CallR -/
theorem vals1 {x : V} {us : List Value} (r : Vals [x] us) : ∃ u, us = [u] ∧ RelV x u := by
  cases r with
  | cons r1 r2 => cases r2; exact ⟨_, rfl, r1⟩
theorem vals2 {x y : V} {us : List Value} (r : Vals [x, y] us) : ∃ u w', us = [u, w'] ∧ RelV x u ∧ RelV y w' := by
  cases r with
  | cons r1 r2 =>
    cases r2 with
    | cons r3 r4 => cases r4; exact ⟨_, _, rfl, r1, r3⟩
theorem call_min2 (hc : X.calm = true) : CallR X (.builtin "min") (fun xs H Q => ∃ i j, xs = [.int i, .int j] ∧ Q (.int (if j < i then j else i)) H) := by
  intro pins s σ H xs us Q I r h
  obtain ⟨i, j, rfl, q⟩ := h
  obtain ⟨u, w', rfl, ⟨t, rfl⟩, ⟨t', rfl⟩⟩ := vals2 r
  refine min_two_ints (I.ok.hd hc) fun h' tk k => ⟨_, H, I.kept k, ?_, q⟩
  by_cases hj : j < i
  · rw [if_pos hj, if_pos hj]; exact ⟨_, rfl⟩
  · rw [if_neg hj, if_neg hj]; exact ⟨_, rfl⟩
theorem call_str_int : CallR X (.type "str") (fun xs H Q => ∃ i, xs = [.int i] ∧ i.natAbs.log2 < 1920 ∧ Q (.str (toString i)) H) := by
  intro pins s σ H xs us Q I r h
  obtain ⟨i, rfl, hz, q⟩ := h
  obtain ⟨u, rfl, t, rfl⟩ := vals1 r
  exact PySem.P.str_of_int hz ⟨.str _, H, I.tok _, ⟨_, rfl⟩, q⟩
end
end L2

namespace L2
open PySem PySem.Spec PyProof.Rows

/-! ### an instance, its attributes a map -/
structure ObjM (h : Heap) (x dx C : Addr) (mA : Str → Option Value) : Prop where
  obj : h.get? x = some (PySem.W.instObj C dx)
  ns : h.Ns1 dx mA
  ne : dx ≠ x

theorem lookIn_ns {h : Heap} {dx : Addr} {mA : Str → Option Value} (n : h.Ns1 dx mA) : ∃ od, h.get? dx = some od ∧ ∀ name, PySem.W.lookIn name od = some (mA name) := by
  obtain ⟨o, es, ep, ho, hd, hk, _, hm⟩ := n
  refine ⟨o, ho, fun name => ?_⟩
  have e := hm name
  unfold nsFind findBy at e
  rw [← Array.find?_toList] at e
  unfold PySem.W.lookIn
  rw [hd]
  dsimp only
  split
  · rename_i y q
    rw [q] at e
    exact congrArg some e
  · rename_i q
    rw [q] at e
    have a : es.toList.any (·.refKey) = false := by
      rw [List.any_eq_false]
      intro y hy
      obtain ⟨z, t, hkey⟩ := hk y (Array.mem_toList_iff.mp hy)
      simp [DictEntry.refKey, hkey]
    have a' : ¬ es.toList.any (·.refKey) = true := by rw [a]; exact Bool.false_ne_true
    rw [if_neg a']
    exact congrArg some e

theorem ObjM.look {h : Heap} {x dx C : Addr} {mA : Str → Option Value} (I : ObjM h x dx C mA) : ∃ od, PySem.W.InstAt h x (PySem.W.instObj C dx) C (some od) ∧ ∀ name, PySem.W.lookIn name od = some (mA name) :=
  let ⟨od, ho, hl⟩ := lookIn_ns I.ns
  ⟨od, ⟨I.obj, rfl, rfl, ho⟩, hl⟩

section
variable {prog : Program} {w : World} {A : Around} {E : Value → Shared → Prop} {s : Shared} {K : PySem.W.Frag} {x dx C f : Addr} {mA : Str → Option Value} {name : Str} {v : Value}

theorem get_map {expr : Bool} {Q : Value → Shared → Prop} (X : K.In s.heap) (I : ObjM s.heap x dx C mA) (hg : PySem.W.plainGet K C name = true) (hh : PySem.W.hasDictIn K C = true)
    (ha : PySem.W.findIn K (.ref C) name = some none) (hv : mA name = some v) (hv' : PySem.W.handedIn v = true) (h : Q v { s with toks := s.toks + 1 }) :
    wpAny (model prog w) A (getAttr (.ref x) name expr) Q E s := by
  obtain ⟨od, J, hl⟩ := I.look
  exact PySem.W.get_value X J (PySem.W.plainGet_of hg).1 (PySem.W.findObj_own hh ha rfl (by rw [hl, hv])) hv' h

theorem get_meth {pl : Sem Bool} {Q : Value × List Value → Shared → Prop} (X : K.In s.heap) (I : ObjM s.heap x dx C mA) (hg : PySem.W.plainGet K C name = true)
    (hf : PySem.W.findIn K (.ref C) name = some (some (.ref f))) (ht : PySem.W.isFn K (.ref f) = true) (hv : mA name = none) (h : Q (.ref f, [.ref x]) s) :
    wpAny (model prog w) A (getMethod (.ref x) name pl) Q E s := by
  obtain ⟨od, J, hl⟩ := I.look
  exact PySem.W.method_fn X J (PySem.W.plainGet_of hg).1 (PySem.W.plainGet_of hg).2 hf (beq_iff_eq.mp ht) (by show (PySem.W.lookIn name od).map (·.isSome) = some false; rw [hl, hv]; rfl) h

theorem set_map {ns : List Str} {Q : Unit → Shared → Prop} (X : K.In s.heap) (I : ObjM s.heap x dx C mA)
    (hs : PySem.W.findIn K (.ref C) "__setattr__" = some (some (.builtin "object.__setattr__"))) (hp : PySem.W.plainOver K C = true) (ht : PySem.W.takerIn K C name = some none) (hh : PySem.W.hasDictIn K C = true)
    (hw : PySem.Within mA ns) (hsz : ns.length ≤ sizeLine)
    (h : ∀ h', ObjM h' x dx C (fun y => if y = name then some v else mA y) → Heap.SameBut dx s.heap h' → Q () { s with heap := h', toks := s.toks + 2 }) :
    wpAny (model prog w) A (setAttr (.ref x) name v) Q E s := by
  obtain ⟨od, J, hl⟩ := I.look
  refine PySem.W.set_plain X J hs (PySem.W.osa_open (s := { s with toks := s.toks + 1 }) (r := none) X J hp ht fun b => ?_)
  obtain ⟨cd, hc, hd'⟩ := PySem.W.any_some hh
  have hx : s.heap.get? x = some ⟨.ref C, some dx, .plain, #[]⟩ := I.obj
  refine wpAny_bind (wpAny_pure (wpAny_bind (wpAny_bind (wpAny_loadPart hx (wpAny_bind (PySem.W.Looks.here (s := { s with toks := s.toks + 1 }) (PySem.W.looks_clsIn X hc) ?_))))))
  rw [hd']
  refine wpAny_pure (a := some dx) (wpAny_bind (wpAny_pure (wpAny_bind ?_)))
  refine wpAny_nsSet1 (s := { s with toks := s.toks + 1 }) I.ns fun h' hn2 hs2 => ?_
  obtain ⟨oD, esD, epD, hoD, hdD, hcD⟩ := hn2.count (PySem.Within.cons name v hw)
  refine wpAny_bind (wpAny_lookBehind hoD (by rw [hdD]; exact pastItsLine_dict (Nat.le_trans hcD (by rw [List.length_cons]; omega))) ?_)
  exact wpAny_pure (h _ ⟨(hs2.2 _ (Ne.symm I.ne)).trans I.obj, hn2, I.ne⟩ hs2)

/-- C(..): the dict at the heap's end, the instance behind it; then its __init__ -/
theorem make_map {R : Result → Shared → Prop} {vs : List Value} {kw : List (Str × Value)} (X : K.In s.heap) (hm : PySem.W.makesIn K C = true)
    (hi : PySem.W.findIn K (.ref C) "__init__" = some (some (.ref f))) (hf : PySem.W.typeIn K (.ref f) = some (.type "function"))
    (h : codeAny (model prog w) (A.under (.builtin "type.__call__" ⟨.ref C :: vs, kw⟩)) (.call (.ref f) ⟨.ref (s.heap.objs.size + 1) :: vs, kw⟩) (PySem.W.InitBack (s.heap.objs.size + 1) R)
      { s with heap := (s.heap.push PySem.W.emptyDict).push (PySem.W.instObj C s.heap.objs.size) }) :
    codeAny (model prog w) A (.call (.ref C) ⟨vs, kw⟩) R s := by
  obtain ⟨hh, g, d, t, os⟩ := s
  exact PySem.W.make_core (PySem.W.makes_of X hm) (PySem.W.looks_findIn X hi) (fun self => PySem.W.bind_fn X self hf) (.inl rfl) h
end

/-! ### the attributes as a list of pairs -/
def putF (f : Str) (v : V) : List (Str × V) → List (Str × V)
  | [] => [(f, v)]
  | (g, x) :: r => if g = f then (g, v) :: r else (g, x) :: putF f v r
theorem lookup_putF (f g : Str) (v : V) : ∀ fs : List (Str × V), (putF f v fs).lookup g = if g = f then some v else fs.lookup g
  | [] => by
    show List.lookup g [(f, v)] = _
    by_cases h : g = f
    · have hb : (g == f) = true := beq_iff_eq.mpr h
      simp only [List.lookup, hb, if_pos h]
    · have hb : (g == f) = false := beq_eq_false_iff_ne.mpr h
      simp only [List.lookup, hb, if_neg h]
  | (k, x) :: r => by
    have ih := lookup_putF f g v r
    rw [show putF f v ((k, x) :: r) = (if k = f then (k, v) :: r else (k, x) :: putF f v r) from rfl]
    by_cases hk : k = f
    · rw [if_pos hk]
      by_cases h : g = k
      · have hb : (g == k) = true := beq_iff_eq.mpr h
        simp only [List.lookup, hb, if_pos (h.trans hk)]
      · have hb : (g == k) = false := beq_eq_false_iff_ne.mpr h
        simp only [List.lookup, hb, if_neg (fun e : g = f => h (e.trans hk.symm))]
    · rw [if_neg hk]
      by_cases h : g = k
      · have hb : (g == k) = true := beq_iff_eq.mpr h
        simp only [List.lookup, hb, if_neg (fun e : g = f => hk (h.symm.trans e))]
      · have hb : (g == k) = false := beq_eq_false_iff_ne.mpr h
        simp only [List.lookup, hb]
        exact ih
theorem keys_putF (f : Str) (v : V) : ∀ fs : List (Str × V), f ∈ (putF f v fs).map (·.1) ∧ ∀ g, g ∈ fs.map (·.1) → g ∈ (putF f v fs).map (·.1)
  | [] => ⟨by simp [putF], fun g h => by simp at h⟩
  | (k, x) :: r => by
    obtain ⟨i1, i2⟩ := keys_putF f v r
    rw [show putF f v ((k, x) :: r) = (if k = f then (k, v) :: r else (k, x) :: putF f v r) from rfl]
    by_cases hk : k = f
    · rw [if_pos hk]
      subst hk
      exact ⟨by simp, fun g h => by simpa using h⟩
    · rw [if_neg hk]
      refine ⟨?_, fun g h => ?_⟩
      · rw [List.map_cons]
        exact List.mem_cons_of_mem _ i1
      · rw [List.map_cons] at h ⊢
        rcases List.mem_cons.mp h with e | e
        · exact List.mem_cons.mpr (.inl e)
        · exact List.mem_cons_of_mem _ (i2 g e)
theorem length_putF (f : Str) (v : V) : ∀ fs : List (Str × V), (putF f v fs).length ≤ fs.length + 1
  | [] => by simp [putF]
  | (k, x) :: r => by
    have ih := length_putF f v r
    rw [show putF f v ((k, x) :: r) = (if k = f then (k, v) :: r else (k, x) :: putF f v r) from rfl]
    by_cases hk : k = f
    · rw [if_pos hk, List.length_cons, List.length_cons]; omega
    · rw [if_neg hk, List.length_cons, List.length_cons]; omega

theorem RelO.some_of {v : V} {o : Option Value} (r : RelO (some v) o) : ∃ u, o = some u ∧ RelV v u := by
  cases o with
  | none => exact (show False from r).elim
  | some u => exact ⟨u, rfl, r⟩
theorem RelO.none_of {o : Option Value} (r : RelO none o) : o = none := by
  cases o with
  | none => rfl
  | some u => exact (show False from r).elim
theorem handed_of {v : V} {u : Value} (r : RelV v u) : PySem.W.handedIn u = true := by
  cases v with
  | non => cases (show u = Value.none from r); rfl
  | bl b => cases (show u = Value.bool b from r); rfl
  | int i => obtain ⟨t, e⟩ := (show ∃ t, u = Value.int i t from r); cases e; rfl
  | str x => obtain ⟨t, e⟩ := (show ∃ t, u = Value.str x t from r); cases e; rfl
  | byt b => obtain ⟨t, e⟩ := (show ∃ t, u = Value.bytes b t from r); cases e; rfl
  | flt b => obtain ⟨t, e⟩ := (show ∃ t, u = Value.float b t from r); cases e; rfl
  | ref a => cases (show u = Value.ref a from r); rfl
  | ty n => cases (show u = Value.type n from r); rfl

section
variable {P : Program} {w : World} {H H' : Hp} {h h' : Heap} {a C dx : Addr} {fs fs' : List (Str × V)}
theorem ins_get (hok : HOk P w H h) (e : H a = some (.ins C dx fs)) : ∃ mA, ObjM h a dx C mA ∧ (∀ f, RelO (fs.lookup f) (mA f)) ∧ PySem.Within mA (fs.map (·.1)) ∧ fs.length ≤ 1000 ∧ H dx = some (.own a) := by
  obtain ⟨d, z, ne, ob, mA, n, r, q⟩ := (show ObjOk P w H h a (.ins C dx fs) from hok a _ e)
  exact ⟨mA, ⟨ob, n, ne⟩, r, q, z, d⟩
end

/-! ### what of the text a class must have -/
structure Cls (K : PySem.W.Frag) (C : Addr) : Prop where
  pg : PySem.W.plainGet K C Str.empty = true
  hd : PySem.W.hasDictIn K C = true
  po : PySem.W.plainOver K C = true
  sa : PySem.W.findIn K (.ref C) "__setattr__" = some (some (.builtin "object.__setattr__"))
theorem Cls.get {K : PySem.W.Frag} {C : Addr} (c : Cls K C) (f : Str) : PySem.W.plainGet K C f = true := c.pg
/-- no class of it has the name -/
def NoAttr (K : PySem.W.Frag) (C : Addr) (f : Str) : Prop := PySem.W.findIn K (.ref C) f = some none
theorem NoAttr.taker {K : PySem.W.Frag} {C : Addr} {f : Str} (n : NoAttr K C f) : PySem.W.takerIn K C f = some none := by
  unfold PySem.W.takerIn
  rw [show PySem.W.findIn K (.ref C) f = some none from n]
  rfl
/-- a method: a plain def of the class or of one above it -/
structure Meth (K : PySem.W.Frag) (C : Addr) (m : Str) (f : Addr) : Prop where
  at_ : PySem.W.findIn K (.ref C) m = some (some (.ref f))
  fn : PySem.W.isFn K (.ref f) = true
  kp : PySem.W.keepIn K (.ref f) = true

section
variable {X : Cx} {pins : List (Addr × Obj)} {σ : St} {H : Hp} {s : Shared} {a C dx : Addr} {fs : List (Str × V)} {f : Str} {v : V} {A : Around} {E : Value → Shared → Prop}

theorem getattr_ok {b : Bool} {Q : Value → Shared → Prop} (I : Inv X pins σ H s) (e : H a = some (.ins C dx fs)) (c : Cls X.K C) (n : NoAttr X.K C f) (l : fs.lookup f = some v)
    (h : ∀ u s', Inv X pins σ H s' → RelV v u → Q u s') : wpAny (model X.prog X.w) A (getAttr (.ref a) f b) Q E s := by
  obtain ⟨mA, O, r, _, _, _⟩ := ins_get I.hok e
  obtain ⟨u, hu, ru⟩ := RelO.some_of (v := v) (o := mA f) (by rw [← l]; exact r f)
  exact get_map I.kIn O (c.get f) c.hd n hu (handed_of ru) (h u _ (I.tok _) ru)

theorem getmeth_ok {m : Str} {g : Addr} {pl : Sem Bool} {Q : Value × List Value → Shared → Prop} (I : Inv X pins σ H s) (e : H a = some (.ins C dx fs)) (c : Cls X.K C) (k : Meth X.K C m g) (l : fs.lookup m = none)
    (h : Q (.ref g, [.ref a]) s) : wpAny (model X.prog X.w) A (getMethod (.ref a) m pl) Q E s := by
  obtain ⟨mA, O, r, _, _, _⟩ := ins_get I.hok e
  have hn : mA m = none := RelO.none_of (by rw [← l]; exact r m)
  exact get_meth I.kIn O (c.get m) k.at_ k.fn hn h

theorem setattr_ok {y : V} {u : Value} {Q : Unit → Shared → Prop} (I : Inv X pins σ H s) (e : H a = some (.ins C dx fs)) (c : Cls X.K C) (n : NoAttr X.K C f) (hl : fs.length < 1000) (ry : RelV y u)
    (h : ∀ s', Inv X pins σ (upd H a (.ins C dx (putF f y fs))) s' → Q () s') : wpAny (model X.prog X.w) A (setAttr (.ref a) f u) Q E s := by
  obtain ⟨mA, O, r, wi, _, ho⟩ := ins_get I.hok e
  have hz : (fs.map (·.1)).length ≤ sizeLine := by rw [List.length_map, sizeLine_eq]; omega
  refine set_map I.kIn O c.sa c.po n.taker c.hd wi hz fun h' O' sb => h _ ?_
  have hd : ∃ o, h'.get? dx = some o := let ⟨o, _, _, e', _⟩ := O'.ns; ⟨o, e'⟩
  refine I.write (x := a) (e := dx) (by rw [e]; exact True.intro) (.inr ho) (fun b q hb z => (sb.2 b hb).trans z) hd ?_
  refine ⟨by rw [upd_ne O.ne]; exact ho, ?_, O.ne, O'.obj, _, O'.ns, fun g => ?_, fun g hg => ?_⟩
  · have := length_putF f y fs; omega
  · show RelO ((putF f y fs).lookup g) (if g = f then some u else mA g)
    rw [lookup_putF]
    by_cases q : g = f
    · rw [if_pos q, if_pos q]; exact ry
    · rw [if_neg q, if_neg q]; exact r g
  · by_cases q : g = f
    · rw [q]; exact (keys_putF f y fs).1
    · refine (keys_putF f y fs).2 g (wi g fun z => hg ?_)
      show (if g = f then some u else mA g) = none
      rw [if_neg q]; exact z

/-- a new instance, tracked, without attributes -/
theorem Inv.made (I : Inv X pins σ H s) : Inv X pins σ (upd (upd H s.heap.objs.size (.own (s.heap.objs.size + 1))) (s.heap.objs.size + 1) (.ins C s.heap.objs.size []))
    { s with heap := (s.heap.push PySem.W.emptyDict).push (PySem.W.instObj C s.heap.objs.size) } := by
  have e1 : (s.heap.push PySem.W.emptyDict).get? s.heap.objs.size = some PySem.W.emptyDict := Heap.get?_push_size s.heap rfl
  have e2 : ((s.heap.push PySem.W.emptyDict).push (PySem.W.instObj C s.heap.objs.size)).get? (s.heap.objs.size + 1) = some (PySem.W.instObj C s.heap.objs.size) := by
    have := Heap.get?_push_size (s.heap.push PySem.W.emptyDict) (o := PySem.W.instObj C s.heap.objs.size) rfl
    rwa [Heap.size_push] at this
  have e3 : (s.heap.push PySem.W.emptyDict).Ns s.heap.objs.size (fun _ => none) := ⟨PySem.W.emptyDict, #[], _, e1, rfl, (fun e he => absurd he (by simp)), fun _ => rfl⟩
  have I1 := I.laid (a := s.heap.objs.size) (o := .own (s.heap.objs.size + 1)) (h' := s.heap.push PySem.W.emptyDict) (t' := s.toks) (fun b u q => Heap.get?_push_of_some _ q) (Nat.le_refl _) ⟨_, e1⟩
  refine I1.laid (a := s.heap.objs.size + 1) (o := .ins C s.heap.objs.size []) (t' := s.toks) (fun b u q => Heap.get?_push_of_some _ q) (Nat.le_of_eq (Heap.size_push _ _)) ?_
  have ne : s.heap.objs.size ≠ s.heap.objs.size + 1 := Nat.ne_of_lt (Nat.lt_succ_self _)
  refine ⟨by rw [upd_ne ne, upd_same], Nat.zero_le _, ne, e2, fun _ => none, (Heap.Ns1.of_empty e3).at fun o q => Heap.get?_push_of_some _ q, fun _ => True.intro, fun y hy => absurd rfl hy⟩

/-- e.f where nothing but the object is asked: through attributeBase (super) and the last hold -/
theorem attr_of {prog : Program} {w : World} {env : Env} {e : Expr} {f : Str} {pos : Pos} {s : Shared} {Q : Value → Shared → Prop} (hb : attributeBase e f env (eval e env) = eval e env)
    (h : wpAny (model prog w) A (eval e env) (fun o s₁ => wpAny (model prog w) A (getAttr o f true) Q E s₁) E s) : wpAny (model prog w) A (eval (.Attribute e f pos) env) Q E s :=
  Attribute_any_ h (by rw [arm_eval_Attribute, hb])
end

/-! ### readings and rules -/
/-- e.f, an attribute of the instance -/
def tFld (K : PySem.W.Frag) (ta : TE) (f : Str) : TE := fun σ H Q => ta σ H fun x H1 => ∃ a C dx fs v, x = .ref a ∧ H1 a = some (.ins C dx fs) ∧ Cls K C ∧ NoAttr K C f ∧ fs.lookup f = some v ∧ Q v H1
/-- e.f = value -/
def sFld (K : PySem.W.Frag) (ta tv : TE) (f : Str) : TS := fun D σ H => tv σ H fun y H1 => ta σ H1 fun x H2 => ∃ a C dx fs, x = .ref a ∧ H2 a = some (.ins C dx fs) ∧ Cls K C ∧ NoAttr K C f ∧ fs.length < 1000 ∧
  D.nx σ (upd H2 a (.ins C dx (putF f y fs)))
section
variable {X : Cx} {o e value : Expr} {f : Str} {pos pos' tpos : Pos} {ta tv : TE}
theorem pe_fld (he : PE X e ta) (hb : attributeBase e f X.env (eval e X.env) = eval e X.env) : PE X (.Attribute e f pos) (tFld X.K ta f) := by
  intro pins s σ H Q I h
  refine attr_of hb (thn (he pins s σ H _ I h) fun u s1 ⟨x, H1, I1, rx, a, C, dx, fs, v, ex, ea, c, n, l, q⟩ => ?_)
  subst ex
  obtain rfl : u = Value.ref a := rx
  exact getattr_ok I1 ea c n l fun u' s2 I2 ru => ⟨v, H1, I2, ru, q⟩
theorem ps_fld (ha : PE X o ta) (hv : PE X value tv) (hs : swapsWith value (some (.Attribute o f pos')) pos.line X.env = pure false) : PS X (.Assign [.Attribute o f pos'] value pos) (sFld X.K ta tv f) := by
  intro pins s σ H D I h
  refine plainObj_wpAny_Assign_Attribute (thn (hv pins s σ H _ I h) fun u s1 ⟨y, H1, I1, ry, q⟩ => thn (ha pins s1 σ H1 _ I1 q) fun ov s2 ⟨x, H2, I2, rx, a, C, dx, fs, ex, ea, c, n, l, q2⟩ => ?_) hs
  subst ex
  obtain rfl : ov = Value.ref a := rx
  exact setattr_ok I2 ea c n l ry fun s3 I3 => ⟨σ, _, I3, q2⟩
/-- what is between an instance and its method: the tree of a method call -/
theorem methcall_of {pl : Sem Bool} {m : Str} {apos : Pos} {args : List Expr} {pins : List (Addr × Obj)} {s : Shared} {σ : St} {H : Hp} {Q : Value → Shared → Prop} {te : TE} (he : PE X e te) (I : Inv X pins σ H s)
    (h : te σ H fun x H1 => ∃ a C dx fs g, x = .ref a ∧ H1 a = some (.ins C dx fs) ∧ Cls X.K C ∧ Meth X.K C m g ∧ fs.lookup m = none ∧
      ∀ s1, Inv X pins σ H1 s1 → wpAny (model X.prog X.w) X.A (callWith pos (.ref g) [.ref a] (backTo pos (starEach args X.env)) (backToKw pos (keywordEach [] X.env))) Q X.xe s1)
    (ht : eval (.Call (.Attribute e m apos) args [] pos) X.env = (do
      let ov ← eval e X.env
      standAt apos.atName
      let (f, first) ← holding [ov] (getMethod ov m pl)
      callWith pos f first (backTo pos (starEach args X.env)) (backToKw pos (keywordEach [] X.env)))) :
    wpAny (model X.prog X.w) X.A (eval (.Call (.Attribute e m apos) args [] pos) X.env) Q X.xe s := by
  refine PySem.W.methodCall_KW (pl := pl) (thn (he pins s σ H _ I h) fun u s1 ⟨x, H1, I1, rx, a, C, dx, fs, g, ex, ea, c, k, l, q⟩ => ?_) ht
  subst ex
  obtain rfl : u = Value.ref a := rx
  exact getmeth_ok I1 ea c k l (q s1 I1)
end

/-! ### isinstance -/
section
variable {X : Cx} {pins : List (Addr × Obj)} {σ : St} {H : Hp} {s : Shared} {A : Around} {E : Value → Shared → Prop} {Q : Value → Shared → Prop} {c : Value} {b : Bool}
end
end L2

namespace L2
open PySem PySem.Spec PyProof.Rows

/-! ### room -/
structure Room (k : Nat) (A : Around) : Prop where
  hd : A.handled = none
  dp : A.depth + 3 * k + 5 < recursionLimit
  un : A.units + 16 * k + 200 < cLine
  gd : A.guards = some []
theorem Room.mono {j k : Nat} {A : Around} (r : Room k A) (h : j ≤ k) : Room j A := ⟨r.hd, by have := r.dp; omega, by have := r.un; omega, r.gd⟩
theorem Room.deeper {k : Nat} {A : Around} (r : Room (k + 1) A) (env : Env) : Room k (A.deeper env) :=
  ⟨r.hd, by have := r.dp; show A.depth + 1 + 3 * k + 5 < _; omega, by have := r.un; show A.units + 3 + 16 * k + 200 < _; omega, r.gd⟩
theorem Room.in1 {k : Nat} {A : Around} (r : Room (k + 1) A) : Room k A.in1 :=
  ⟨r.hd, by have := r.dp; show A.depth + 3 * k + 5 < _; omega, by have := r.un; show A.units + 1 + 16 * k + 200 < _; omega, r.gd⟩
theorem make_depth {A : Around} {C : Addr} {us : List Value} {kw : List (Str × Value)} : (A.under (.builtin "type.__call__" ⟨.ref C :: us, kw⟩)).depth = A.depth + 1 := by
  first | rfl | simp [Around.under, Code.weight, Code.isCreation, Code.isGuard, Code.isCaller, Code.frames, Code.isFrame, guardIds]
theorem make_units {A : Around} {C : Addr} {us : List Value} {kw : List (Str × Value)} : (A.under (.builtin "type.__call__" ⟨.ref C :: us, kw⟩)).units = A.units + 1 := by
  first | rfl | simp [Around.under, Code.cUnits, Code.frames, Code.isFrame]
theorem Room.make {k : Nat} {A : Around} (r : Room (k + 1) A) (C : Addr) (us : List Value) (kw : List (Str × Value)) : Room k (A.under (.builtin "type.__call__" ⟨.ref C :: us, kw⟩)) :=
  ⟨r.hd, by have := r.dp; rw [make_depth]; omega, by have := r.un; rw [make_units]; omega, by have := r.gd; first | exact this | (simpa [Around.under] using this)⟩
theorem Room.depth {k : Nat} {A : Around} (r : Room k A) : A.depth < recursionLimit := by have := r.dp; omega
theorem Room.units {k : Nat} {A : Around} (r : Room k A) : A.units + 64 < cLine := by have := r.un; omega
theorem Room.units0 {k : Nat} {A : Around} (r : Room k A) : A.units < cLine := by have := r.un; omega

/-! ### argument lists and displays -/
def tNil : TA := fun _ H Q => Q [] H
def tCons (ta : TE) (tr : TA) : TA := fun σ H Q => ta σ H fun x H1 => tr σ H1 fun xs H2 => Q (x :: xs) H2
section
variable {X : Cx} {e : Expr} {es : List Expr} {te : TE} {t : TA} {pos : Pos}
theorem pa_nil : PA X [] tNil := fun _ _ _ _ H Q I h => Calls.spliced_nil ⟨[], H, I, .nil, h⟩
theorem pa_cons (ha : PE X e te) (hr : PA X es t) (hs : starEach (e :: es) X.env = (false, eval e X.env) :: starEach es X.env := by rfl) : PA X (e :: es) (tCons te t) := by
  intro pos pins s σ H Q I h
  rw [hs]
  show wpAny _ _ (spliced ((false, eval e X.env) :: backTo pos (starEach es X.env))) _ _ s
  refine Calls.spliced_cons (thn (ha pins s σ H _ I h) fun u s1 ⟨x, H1, I1, r1, q1⟩ => ?_)
  exact thn (hr pos pins s1 σ H1 _ I1 q1) fun us s2 ⟨xs, H2, I2, r2, q2⟩ => ⟨x :: xs, H2, I2, .cons r1 r2, q2⟩

/-- a tuple, a list of written items -/
def tTup (t : TA) : TE := fun σ H Q => t σ H fun xs H1 => xs.length ≤ sizeLine ∧ ∀ p, H1 p = none → Q (.ref p) (upd H1 p (.tup xs))
def tLst (t : TA) : TE := fun σ H Q => t σ H fun xs H1 => xs.length ≤ sizeLine ∧ ∀ p, H1 p = none → Q (.ref p) (upd H1 p (.lst xs))
theorem pe_tup {x1} (h : PA X es t) : PE X (.Tuple es x1 pos) (tTup t) := by
  intro pins s σ H Q I hq
  refine wpAny_Tuple_spliced (thn (h pos pins s σ H _ I hq) fun us s1 ⟨xs, H1, I1, r, z, q⟩ => ⟨by rw [← r.length]; exact z, ?_⟩)
  have hf : H1 s1.heap.objs.size = none := I1.hok.fresh (Nat.le_refl _)
  refine ⟨.ref s1.heap.objs.size, upd H1 s1.heap.objs.size (.tup xs), I1.laid (t' := s1.toks) (fun b u e => Heap.get?_push_of_some _ e) (Nat.le_refl _) ?_, rfl, q _ hf⟩
  exact ⟨z, us, r, ⟨_, Heap.get?_push_size _ rfl, rfl, _, rfl⟩⟩
theorem pe_lst (h : PA X es t) : PE X (.List es pos) (tLst t) := by
  intro pins s σ H Q I hq
  refine wpAny_List_spliced (thn (h pos pins s σ H _ I hq) fun us s1 ⟨xs, H1, I1, r, z, q⟩ => ⟨by rw [← r.length]; exact z, ?_⟩)
  have hf : H1 s1.heap.objs.size = none := I1.hok.fresh (Nat.le_refl _)
  refine ⟨.ref s1.heap.objs.size, upd H1 s1.heap.objs.size (.lst xs), I1.laid (t' := s1.toks) (fun b u e => Heap.get?_push_of_some _ e) (Nat.le_refl _) ?_, rfl, q _ hf⟩
  exact ⟨z, us, 0, r, Heap.get?_push_size _ rfl⟩
end

/-! ### what a def promises -/
/-- a def's promise: the bound arguments in the parameters' order, the heap, the wanted end, the wanted exception -/
abbrev Sp := List V → Hp → VK → XK → Prop
/-- how an exception lies behind a call (file 08 gives it): the callers' frames, abstract heap and state ahead of the call, the wish, the exception, the state -/
abbrev CXT := List Env → Hp → Shared → XK → Value → Shared → Prop

/-- the state at a call -/
structure Env0 (P : Program) (w : World) (K : PySem.W.Frag) (mg : Str → Option Value) (base : Heap) (A : Around) (outer : List Env) (s : Shared) (H : Hp) : Prop where
  frames : A.frames = some outer
  mod : Mod K mg base
  bs : ∀ b o, base.get? b = some o → s.heap.get? b = some o ∧ H b = none
  bsz : base.objs.size ≤ s.heap.objs.size
  funs : s.heap.FunFrames base outer
  frf : ∀ b ∈ frs outer, H b = none
  hok : HOk P w H s.heap
  bare : AllBare s.gens
/-- a call's end -/
def CE (outer : List Env) (P : Program) (w : World) (H : Hp) (s : Shared) (Q : VK) (u : Value) (s' : Shared) : Prop :=
  ∃ v H', s'.os = s.os ∧ AllBare s'.gens ∧ Un (frs outer) [] H H' s.heap s'.heap ∧ HOk P w H' s'.heap ∧ RelV v u ∧ Q v H'
def CR (CX : CXT) (outer : List Env) (P : Program) (w : World) (H : Hp) (s : Shared) (Q : VK) (E : XK) (r : Result) (s' : Shared) : Prop :=
  match r with
  | .ok (.ret u) => CE outer P w H s Q u s'
  | .ok _ => False
  | .error e => CX outer H s E e s'
structure FnOk (P : Program) (w : World) (K : PySem.W.Frag) (mg : Str → Option Value) (base : Heap) (CX : CXT) (k : Nat) (f : Addr) (fd : FuncData) (ps : List Str) (sp : Sp) : Prop where
  len : ∀ vs H Q E, sp vs H Q E → vs.length = ps.length
  run : ∀ (A : Around) (outer : List Env) (s : Shared) (H : Hp) (args : Args) (us : List Value) (vs : List V) (Q : VK) (E : XK), Room k A → Env0 P w K mg base A outer s H → BindsTo s fd args (ps.zip us) → Vals vs us → sp vs H Q E →
    codeAny (model P w) A (.call (.ref f) args) (CR CX outer P w H s Q E) s
theorem Env0.make {P : Program} {w : World} {K : PySem.W.Frag} {mg : Str → Option Value} {base : Heap} {A : Around} {outer : List Env} {s : Shared} {H : Hp} (e : Env0 P w K mg base A outer s H) (C : Addr) (us : List Value) (kw : List (Str × Value)) :
    Env0 P w K mg base (A.under (.builtin "type.__call__" ⟨.ref C :: us, kw⟩)) outer s H := ⟨by first | exact e.frames | (simpa [Around.under, Code.envs, Code.isFrame, pushEnvs] using e.frames), e.mod, e.bs, e.bsz, e.funs, e.frf, e.hok, e.bare⟩
section
variable {X : Cx} {pins : List (Addr × Obj)} {σ : St} {H : Hp} {s s' : Shared}
/-- from a body: what a callee wants -/
theorem Inv.env0 (I : Inv X pins σ H s) : Env0 X.prog X.w X.K X.mg X.base X.A X.stack s H :=
  ⟨I.ok.frames, I.ok.mod, I.bs, Nat.le_trans I.ok.bsz I.sz, I.stack, I.stkFree, I.hok, I.bare⟩
/-- behind a call -/
theorem Inv.after {Q : VK} {u : Value} (I : Inv X pins σ H s) (h : CE X.stack X.prog X.w H s Q u s') : EP X pins σ Q u s' := by
  obtain ⟨v, H', os, bare, un, hok, r, q⟩ := h
  obtain ⟨hh, g, d, t, os'⟩ := s'
  obtain rfl : os' = s.os := os
  exact ⟨v, H', I.call (h' := hh) (g' := g) (d' := d) (t' := t) (ch := []) un hok bare (fun b z => absurd z (by simp)), r, q⟩
end

/-! ### calls -/
/-- f(..): the written arguments, then the defaults dvs; E: what is wanted of an exception -/
def tCall (sp : Sp) (dvs : List V) (E : XK) (t : TA) : TE := fun σ H Q => t σ H fun vs H1 => sp (vs ++ dvs) H1 Q E
/-- o.m(..) of an instance of the class at C -/
def tMeth (C : Addr) (m : Str) (sp : Sp) (dvs : List V) (E : XK) (ta : TE) (t : TA) : TE := fun σ H Q => ta σ H fun x H1 => ∃ a dx fs, x = .ref a ∧ H1 a = some (.ins C dx fs) ∧ fs.lookup m = none ∧
  t σ H1 fun vs H2 => sp (x :: (vs ++ dvs)) H2 Q E
/-- C(..): a new instance and its dict, then __init__ -/
def tMake (C : Addr) (sp : Sp) (dvs : List V) (E : XK) (t : TA) : TE := fun σ H Q => t σ H fun vs H1 => ∀ x dx, H1 x = none → H1 dx = none → dx ≠ x →
  sp (.ref x :: (vs ++ dvs)) (upd (upd H1 dx (.own x)) x (.ins C dx [])) (fun v H2 => v = .non ∧ Q (.ref x) H2) E

/-- how the parameters are bound: us the positional arguments, kw the keywords' values by name, ds the defaults that fill up -/
def Binds (K : PySem.W.Frag) (fd : FuncData) (ps : List Str) (ds : List Value) : Prop :=
  ∀ (s : Shared) (us : List Value), K.In s.heap → (us ++ ds).length = ps.length → BindsTo s fd ⟨us, []⟩ (ps.zip (us ++ ds))
/-- every parameter is given -/
theorem Binds.all {K : PySem.W.Frag} {fd : FuncData} {ps : List Str} (h : ∀ us : List Value, us.length = ps.length → bindArgs fd ⟨us, []⟩ = pure (ps.zip us)) : Binds K fd ps [] := fun s us _ hl => by
  rw [List.append_nil] at hl ⊢
  exact .of_eq (h us hl)

/-- an exception of a callee reaches what this body wants of exceptions -/
def Passes (CX : CXT) (X : Cx) (E : XK) : Prop := ∀ (pins : List (Addr × Obj)) (σ : St) (H : Hp) (s : Shared) (e : Value) (s' : Shared), Inv X pins σ H s → CX X.stack H s E e s' → X.xe e s'

section
variable {X : Cx} {CX : CXT} {k : Nat} {f C : Addr} {fd : FuncData} {ps : List Str} {sp : Sp} {dvs : List V} {ds : List Value} {E : XK} {x m : Str} {p pos apos : Pos} {e o : Expr} {es : List Expr} {ta : TE} {t : TA}

/-- the callee runs -/
theorem run_fn {pins : List (Addr × Obj)} {σ : St} {H : Hp} {s : Shared} {Q : VK} {us : List Value} {vs : List V} (F : FnOk X.prog X.w X.K X.mg X.base CX k f fd ps sp) (hr : Room k X.A) (hb : Binds X.K fd ps ds) (hd : Vals dvs ds) (hx : Passes CX X E)
    (I : Inv X pins σ H s) (r : Vals vs us) (h : sp (vs ++ dvs) H Q E) : wpAny (model X.prog X.w) X.A (call (.ref f) us) (EP X pins σ Q) X.xe s := by
  have r2 : Vals (vs ++ dvs) (us ++ ds) := r.append hd
  have hl : (us ++ ds).length = ps.length := by rw [← r2.length]; exact F.len _ _ _ _ h
  refine wpAny_call (codeAny_mono (F.run X.A X.stack s H ⟨us, []⟩ (us ++ ds) (vs ++ dvs) Q E hr I.env0 (hb s us I.kIn hl) r2 h) fun r s' hq => ?_)
  cases r with
  | error e => exact hx pins σ H s e s' I hq
  | ok fl =>
    cases fl with
    | ret u => exact I.after hq
    | next => exact False.elim hq
    | brk => exact False.elim hq
    | cont => exact False.elim hq

theorem pe_call (F : FnOk X.prog X.w X.K X.mg X.base CX k f fd ps sp) (hr : Room k X.A) (hg : Gl X x) (hm : X.mg x = some (.ref f)) (hk : PySem.W.keepIn X.K (.ref f) = true) (hb : Binds X.K fd ps ds) (hd : Vals dvs ds) (hx : Passes CX X E)
    (ha : PA X (e :: es) t) (hdb : (x == ("__debug__" : Str)) = false := by decide) (he : starEach (e :: es) X.env = (false, eval e X.env) :: starEach es X.env := by rfl) (hpl : (backTo pos (starEach es X.env)).any (·.1) = false := by rfl) :
    PE X (.Call (.Name x p) (e :: es) [] pos) (tCall sp dvs E t) := by
  intro pins s σ H Q I h
  refine wpAny_Call_Name_kw (ld_glob I hg hm ?_ hdb)
  refine PySem.W.callWith_K (h₀ := X.base) I.ok.mod.kin hk (thn (ha pos pins s σ H _ I h) fun us s1 ⟨vs, H1, I1, r, q⟩ => ⟨I1.kIn, ?_⟩) he hpl
  exact run_fn F hr hb hd hx I1 r q
/-- o.m(e, ..) -/
theorem pe_meth {pl : Sem Bool} (he : PE X o ta) (c : Cls X.K C) (hm : Meth X.K C m f) (F : FnOk X.prog X.w X.K X.mg X.base CX k f fd ps sp) (hr : Room k X.A) (hb : Binds X.K fd ps ds) (hd : Vals dvs ds) (hx : Passes CX X E) (ha : PA X (e :: es) t)
    (hst : starEach (e :: es) X.env = (false, eval e X.env) :: starEach es X.env := by rfl) (hpl : (backTo pos (starEach es X.env)).any (·.1) = false := by rfl)
    (ht : eval (.Call (.Attribute o m apos) (e :: es) [] pos) X.env = (do
      let ov ← eval o X.env
      standAt apos.atName
      let (f, first) ← holding [ov] (getMethod ov m pl)
      callWith pos f first (backTo pos (starEach (e :: es) X.env)) (backToKw pos (keywordEach [] X.env))) := by rfl) :
    PE X (.Call (.Attribute o m apos) (e :: es) [] pos) (tMeth C m sp dvs E ta t) := by
  intro pins s σ H Q I h
  refine PySem.W.methodCall_KW (pl := pl) (thn (he pins s σ H _ I h) fun u s1 ⟨x, H1, I1, rx, a, dx, fs, ex, ea, l, q⟩ => ?_) ht
  subst ex
  obtain rfl : u = Value.ref a := rx
  refine getmeth_ok I1 ea c hm l ?_
  refine PySem.W.callWith_K (first := [.ref a]) (h₀ := X.base) I.ok.mod.kin hm.kp (thn (ha pos pins s1 σ H1 _ I1 q) fun us s2 ⟨vs, H2, I2, r, q2⟩ => ⟨I2.kIn, ?_⟩) hst hpl
  exact run_fn (us := .ref a :: us) (vs := .ref a :: vs) F hr hb hd hx I2 (.cons rfl r) q2
/-- what a class must have to be made -/
structure Mk (K : PySem.W.Frag) (C f : Addr) : Prop where
  makes : PySem.W.makesIn K C = true
  init : PySem.W.findIn K (.ref C) "__init__" = some (some (.ref f))
  fn : PySem.W.isFn K (.ref f) = true
  kp : PySem.W.keepIn K (.ref C) = true

theorem run_make {pins : List (Addr × Obj)} {σ : St} {H : Hp} {s : Shared} {Q : VK} {us : List Value} {vs : List V} (M : Mk X.K C f) (F : FnOk X.prog X.w X.K X.mg X.base CX k f fd ps sp) (hr : Room (k + 1) X.A) (hb : Binds X.K fd ps ds) (hd : Vals dvs ds)
    (hx : Passes CX X E) (I : Inv X pins σ H s) (r : Vals vs us)
    (h : ∀ x dx, H x = none → H dx = none → dx ≠ x → sp (.ref x :: (vs ++ dvs)) (upd (upd H dx (.own x)) x (.ins C dx [])) (fun v H2 => v = .non ∧ Q (.ref x) H2) E) :
    wpAny (model X.prog X.w) X.A (call (.ref C) us) (EP X pins σ Q) X.xe s := by
  have hq := h (s.heap.objs.size + 1) s.heap.objs.size (I.hok.fresh (Nat.le_succ _)) (I.hok.fresh (Nat.le_refl _)) (Nat.ne_of_lt (Nat.lt_succ_self _))
  have I2 := Inv.made (C := C) I
  have r2 : Vals (V.ref (s.heap.objs.size + 1) :: (vs ++ dvs)) (Value.ref (s.heap.objs.size + 1) :: (us ++ ds)) := .cons rfl (r.append hd)
  have hl : (Value.ref (s.heap.objs.size + 1) :: us ++ ds).length = ps.length := by
    have e := r2.length
    rw [F.len _ _ _ _ hq] at e
    exact e.symm
  refine wpAny_call (make_map (f := f) I.kIn M.makes M.init (beq_iff_eq.mp M.fn) (codeAny_mono (F.run _ X.stack _ _ ⟨Value.ref (s.heap.objs.size + 1) :: us, []⟩ (Value.ref (s.heap.objs.size + 1) :: (us ++ ds)) _ _ E (hr.make C us [])
    (I2.env0.make C us []) (hb _ (Value.ref (s.heap.objs.size + 1) :: us) I2.kIn hl) r2 hq) fun r s' hq' => ?_))
  cases r with
  | error e => exact hx pins σ _ _ e s' I2 hq'
  | ok fl =>
    cases fl with
    | ret u =>
      obtain ⟨v, H', I3, rv, ev, q3⟩ := I2.after hq'
      subst ev
      exact ⟨rv, ⟨V.ref (s.heap.objs.size + 1), H', I3, rfl, q3⟩⟩
    | next => exact False.elim hq'
    | brk => exact False.elim hq'
    | cont => exact False.elim hq'
theorem pe_make (M : Mk X.K C f) (F : FnOk X.prog X.w X.K X.mg X.base CX k f fd ps sp) (hr : Room (k + 1) X.A) (hg : Gl X x) (hm : X.mg x = some (.ref C)) (hb : Binds X.K fd ps ds) (hd : Vals dvs ds) (hx : Passes CX X E)
    (ha : PA X (e :: es) t) (hdb : (x == ("__debug__" : Str)) = false := by decide) (he : starEach (e :: es) X.env = (false, eval e X.env) :: starEach es X.env := by rfl) (hpl : (backTo pos (starEach es X.env)).any (·.1) = false := by rfl) :
    PE X (.Call (.Name x p) (e :: es) [] pos) (tMake C sp dvs E t) := by
  intro pins s σ H Q I h
  refine wpAny_Call_Name_kw (ld_glob I hg hm ?_ hdb)
  refine PySem.W.callWith_K (h₀ := X.base) I.ok.mod.kin M.kp (thn (ha pos pins s σ H _ I h) fun us s1 ⟨vs, H1, I1, r, q⟩ => ⟨I1.kIn, ?_⟩) he hpl
  exact run_make M F hr hb hd hx I1 r q
end

/-! ### keywords -/
section
variable {X : Cx} {CX : CXT} {k : Nat} {f C : Addr} {fd : FuncData} {ps ks : List Str} {sp : Sp} {E : XK} {x m : Str} {p pos apos kpos : Pos} {e o : Expr} {es : List Expr} {kws : List Keyword} {te ta : TE} {t tk : TA} {nm : Option Str}
variable {g : List Value → List Value → List Value} {gV : List V → List V → List V}
end

/-! ### a def's body keeps its promise -/
/-- names: the parameters first -/
structure FnScope (N P : List Str) (sc : Scope) : Prop where
  kind : sc.kind = .function
  co : sc.isCoroutine = false
  gen : sc.isGenerator = false
  nd : N.Nodup
  pre : N.take P.length = P
  par : ∀ x ∈ P, sc.names.lookup x = some .local ∨ sc.names.lookup x = some .cell
  nofree : ∀ y ∈ sc.names, y.2 ≠ .free

theorem bindL_out {kindOf : Str → Option NameKind} {x : Str} : ∀ {binds : List (Str × Value)} {m : Str → Option Value}, (∀ v, (x, v) ∉ binds) → bindL kindOf binds m x = m x
  | [], _, _ => rfl
  | (n, v) :: r, m, h => by
    unfold bindL
    rw [bindL_out fun w hw => h w (List.mem_cons_of_mem _ hw)]
    split
    · have : x ≠ n := by rintro rfl; exact h v List.mem_cons_self
      simp [this]
    · rfl
theorem bindC_out {kindOf : Str → Option NameKind} {x : Str} : ∀ {binds : List (Str × Value)} {m : Str → Option Value}, (∀ v, (x, v) ∉ binds) → bindC kindOf binds m x = m x
  | [], _, _ => rfl
  | (n, v) :: r, m, h => by
    unfold bindC
    rw [bindC_out fun w hw => h w (List.mem_cons_of_mem _ hw)]
    split
    · rfl
    · have : x ≠ n := by rintro rfl; exact h v List.mem_cons_self
      simp [this]
theorem bindL_get {kindOf : Str → Option NameKind} {x : Str} {v : Value} : ∀ {P : List Str} {vs : List Value} {i : Nat} {m : Str → Option Value}, P.Nodup → P[i]? = some x → vs[i]? = some v → kindOf x = some .local →
    bindL kindOf (P.zip vs) m x = some v
  | [], _, _, _, _, h, _, _ => by simp at h
  | _ :: _, [], _, _, _, _, h, _ => by simp at h
  | p :: P, w :: vs, 0, m, nd, h1, h2, hk => by
    simp at h1 h2; subst h1; subst h2
    show bindL kindOf ((p, w) :: P.zip vs) m p = _
    unfold bindL
    rw [bindL_out fun v hv => (List.nodup_cons.mp nd).1 (List.of_mem_zip hv).1, if_pos hk]
    simp
  | p :: P, w :: vs, i + 1, m, nd, h1, h2, hk => by
    show bindL kindOf ((p, w) :: P.zip vs) m x = _
    unfold bindL
    exact bindL_get (i := i) (List.nodup_cons.mp nd).2 (by simpa using h1) (by simpa using h2) hk
theorem bindC_get {kindOf : Str → Option NameKind} {x : Str} {v : Value} : ∀ {P : List Str} {vs : List Value} {i : Nat} {m : Str → Option Value}, P.Nodup → P[i]? = some x → vs[i]? = some v → kindOf x ≠ some .local →
    bindC kindOf (P.zip vs) m x = some v
  | [], _, _, _, _, h, _, _ => by simp at h
  | _ :: _, [], _, _, _, _, h, _ => by simp at h
  | p :: P, w :: vs, 0, m, nd, h1, h2, hk => by
    simp at h1 h2; subst h1; subst h2
    show bindC kindOf ((p, w) :: P.zip vs) m p = _
    unfold bindC
    rw [bindC_out fun v hv => (List.nodup_cons.mp nd).1 (List.of_mem_zip hv).1, if_neg hk]
    simp
  | p :: P, w :: vs, i + 1, m, nd, h1, h2, hk => by
    show bindC kindOf ((p, w) :: P.zip vs) m x = _
    unfold bindC
    exact bindC_get (i := i) (List.nodup_cons.mp nd).2 (by simpa using h1) (by simpa using h2) hk

/-- the names' values at the entry -/
def start (N : List Str) (vs : List V) : St := vs.map some ++ List.replicate (N.length - vs.length) none

/-- the context of a def's body, at its entry; an exception leaves the frame, then lies as CX says -/
def cxOf (CX : CXT) (P : Program) (w : World) (K : PySem.W.Frag) (mg : Str → Option Value) (base : Heap) (N : List Str) (qual : Str) (scope : Scope) (f : Addr) (cd : Value) (A : Around) (outer : List Env) (s : Shared) (H : Hp) (E : XK) : Cx where
  prog := P
  w := w
  K := K
  mg := mg
  base := base
  A := A.deeper (envOfC qual scope s.heap.objs.size f cd)
  N := N
  s₀ := s
  H₀ := H
  env := envOfC qual scope s.heap.objs.size f cd
  outer := outer
  stack := envOfC qual scope s.heap.objs.size f cd :: outer
  ex := []
  calm := true
  fn := fun _ => true
  pn := []
  xe := fun e s' => wpAny (model P w) (A.deeper (envOfC qual scope s.heap.objs.size f cd)) (leaving (envOfC qual scope s.heap.objs.size f cd) e) (fun _ s'' => CX outer H s E e s'') (fun e' s'' => CX outer H s E e' s'') s'

theorem cell_has {sc : Scope} {n : Nat} {x : Str} (h : sc.names.lookup x = some .cell) : ∃ c, (cellsFrom n sc.names []).lookup x = some c := by
  have q := PySem.W.cellsFrom_some sc.names n [] (.inl h)
  exact Option.isSome_iff_exists.mp q

theorem inv_start {CX : CXT} {P : Program} {w : World} {K : PySem.W.Frag} {mg : Str → Option Value} {base : Heap} {N ps : List Str} {qual : Str} {scope : Scope} {f : Addr} {cd : Value} {A : Around} {outer : List Env} {s s1 : Shared} {H : Hp} {E : XK} {us : List Value} {vs : List V}
    (S : FnScope N ps scope) (hd : A.handled = none) (e0 : Env0 P w K mg base A outer s H) (hl : vs.length = ps.length) (r : Vals vs us)
    (x : InCallC s s.heap.objs.size (bindL (envOfC qual scope s.heap.objs.size f cd).kindOf (ps.zip us) fun _ => none) (cellsFrom (s.heap.objs.size + 1) scope.names []) (bindC (envOfC qual scope s.heap.objs.size f cd).kindOf (ps.zip us) fun _ => none) s1) :
    Inv (cxOf CX P w K mg base N qual scope f cd A outer s H E) [] (start N vs) H s1 := by
  have hpl : ps.length ≤ N.length := by have := congrArg List.length S.pre; rw [List.length_take] at this; omega
  obtain ⟨h1, tk, rfl, hk⟩ := x.done
  have noA : ∀ b : Addr, b ∉ (cxOf CX P w K mg base N qual scope f cd A outer s H E).ex := fun b z => absurd (show b ∈ ([] : List Addr) from z) (by simp)
  refine ⟨⟨e0.mod, S.kind, rfl, rfl, Nat.le_refl _, fun y z c h1 h2 => ?_, fun y hy => ?_, fun y c _ h => ?_, fun _ => hd, Around.frames_deeper e0.frames, .inr ⟨rfl, rfl⟩, fun b z => absurd z (noA b), e0.bs, e0.bsz, fun b _ _ => noA b, fun b z => absurd z (noA b), e0.funs, e0.frf⟩,
    rfl, e0.bare, Un.kept hk, ⟨_, x.toInCall.ns, fun i y v h1 h2 h3 => ?_⟩, fun y c h => ⟨_, x.cell y c h⟩, e0.hok.fresh (Nat.le_refl _), fun y c h => ?_, fun p hp => absurd (show p ∈ ([] : List (Addr × Obj)) from hp) (by simp), e0.hok.kept hk, ?_⟩
  · exact name_of_addr x.apart (PySem.mem_of_lookup h1) (PySem.mem_of_lookup h2)
  · have hy : scope.names.lookup y = some .cell ∨ scope.names.lookup y = some .free := hy
    rcases hy with hy | hy
    · exact cell_has hy
    · exact absurd rfl (S.nofree _ (PySem.mem_of_lookup hy))
  · exact Nat.le_of_lt (x.above y c (PySem.mem_of_lookup h))
  · have hi : i < vs.length := by
      unfold start at h2
      by_cases hi : i < vs.length
      · exact hi
      · rw [List.getElem?_append_right (by simpa using hi)] at h2
        rw [List.getElem?_replicate] at h2
        split at h2 <;> cases h2
    have ha : vs[i]? = some v := by
      unfold start at h2
      rw [List.getElem?_append_left (by simpa using hi), List.getElem?_map] at h2
      cases e : vs[i]? with
      | none => rw [e] at h2; cases h2
      | some a => rw [e] at h2; cases h2; rfl
    obtain ⟨u, hu, rv⟩ := r.get ha
    have hp : ps[i]? = some y := by
      rw [← S.pre, List.getElem?_take_of_lt (by omega)]; exact h1
    have ndP : ps.Nodup := by rw [← S.pre]; exact S.nd.sublist (List.take_sublist _ _)
    refine ⟨u, rv, ?_⟩
    rcases S.par y (List.mem_of_getElem? hp) with k | k
    · exact .inl ⟨k, bindL_get ndP hp hu k⟩
    · obtain ⟨c, e⟩ := cell_has (n := s.heap.objs.size + 1) k
      refine .inr ⟨.inl k, c, e, ?_⟩
      have q := x.cell y c e
      rw [bindC_get ndP hp hu (by show scope.names.lookup y ≠ _; rw [k]; decide)] at q
      exact q
  · exact e0.hok.fresh (Nat.le_of_lt (x.above y c (PySem.mem_of_lookup h)))
  · unfold start
    show _ = N.length
    rw [List.length_append, List.length_map, List.length_replicate]
    omega

/-- THE RULE: a def (or a method) of the text, by its body. The body's reading t is chosen for each entry; it is run at the parameters' values -/
theorem fn_of {CX : CXT} {P : Program} {w : World} {K : PySem.W.Frag} {mg : Str → Option Value} {base : Heap} {k : Nat} {f : Addr} {name qual : Str} {params : Arguments} {body : List Stmt} {scope : Scope} {dV kV doc pm cdv ct oc : Value} {an od : Option Addr}
    {osl : Array (Option Value)} {N ps : List Str} {sp : Sp} (lk : K.lookup f = some ⟨oc, od, .func (PySem.W.fnOf name qual params body scope dV kV doc pm an cdv ct), osl⟩) (hcd : PySem.W.codeIn K cdv qual = true) (S : FnScope N ps scope)
    (len : ∀ vs H Q E, sp vs H Q E → vs.length = ps.length)
    (hbody : ∀ (A : Around) (outer : List Env) (s : Shared) (H : Hp) (vs : List V) (Q : VK) (E : XK), Room k (A.deeper (envOfC qual scope s.heap.objs.size f cdv)) → sp vs H Q E →
      ∃ t, PSs (cxOf CX P w K mg base N qual scope f cdv A outer s H E) body t ∧ t { nx := fun _ H' => Q .non H', rt := Q } (start N vs) H) :
    FnOk P w K mg base CX (k + 1) f (PySem.W.fnOf name qual params body scope dV kV doc pm an cdv ct) ps sp := by
  refine ⟨len, fun A outer s H args us vs Q E hr e0 hb r hsp => ?_⟩
  have hl := len _ _ _ _ hsp
  have KX : K.In s.heap := e0.mod.kin.keeps fun b o e => (e0.bs b o e).1
  have lim : s.heap.NoLimit := e0.mod.nolimit.keeps fun b o e => (e0.bs b o e).1
  have hkind : ∀ y ∈ ps.zip us, scope.names.lookup y.1 = some .local ∨ (scope.names.lookup y.1 = some .cell ∧ ((cellsFrom (s.heap.objs.size + 1) scope.names []).lookup y.1).isSome = true) := fun ⟨n, v⟩ hy => by
    rcases S.par n (List.of_mem_zip hy).1 with q | q
    · exact .inl q
    · exact .inr ⟨q, PySem.W.cellsFrom_some _ _ _ (.inl q)⟩
  refine codeAny_call_function hr.depth (KX _ _ lk) rfl S.co S.gen rfl (PySem.W.codeRec_of KX hcd) (hb _ _ _ _ ?_)
  refine wpAny_newFunctionEnv_cells S.kind hkind fun env he s1 x => ?_
  subst he
  refine ⟨lim.keeps x.toInCall.keep, codeAny_func ?_⟩
  obtain ⟨t, ht, hq⟩ := hbody A outer s H vs Q E (hr.deeper _) hsp
  have I : Inv (cxOf CX P w K mg base N qual scope f cdv A outer s H E) [] (start N vs) H s1 := inv_start S hr.hd e0 hl r x
  refine wpAny_mono (ht [] s1 (start N vs) H _ I hq) (fun fl s' hs => ?_) fun e s' hs => hs
  have fin : ∀ {σ' : St} {H' : Hp} {v : V} {u : Value}, Inv (cxOf CX P w K mg base N qual scope f cdv A outer s H E) [] σ' H' s' → RelV v u → Q v H' → CE outer P w H s Q u s' :=
    fun {σ' H' v u} J rv q => ⟨v, H', J.os, J.bare, J.base, J.hok, rv, q⟩
  cases fl with
  | ret u =>
    obtain ⟨v, σ', H', J, rv, q⟩ := hs
    exact fin J rv q
  | next =>
    obtain ⟨σ', H', J, q⟩ := hs
    exact fin (v := V.non) (u := Value.none) J rfl q
  | brk =>
    obtain ⟨_, _, _, q⟩ := hs
    exact False.elim q
  | cont =>
    obtain ⟨_, _, _, q⟩ := hs
    exact False.elim q
end L2

namespace L2
open PySem PySem.Spec PyProof.Rows
section
variable {X : Cx} {x : Str} {p pos : Pos} {e : Expr} {es : List Expr} {t : TA} {id T : String} {r : List V → Hp → VK → Prop}

def tCB (r : List V → Hp → VK → Prop) (t : TA) : TE := fun σ H Q => t σ H fun vs H1 => r vs H1 Q
/-- f(e, ..), f a built-in function -/
theorem pe_callB (hc : CallR X (.builtin id) r) (hg : Gl X x) (hm : X.mg x = none) (hv : bootBuiltins x = some (.builtin id)) (ha : PA X (e :: es) t) (hn : x ≠ "__name__" := by decide) (hdb : (x == ("__debug__" : Str)) = false := by decide)
    (he : starEach (e :: es) X.env = (false, eval e X.env) :: starEach es X.env := by rfl) (hpl : (backTo pos (starEach es X.env)).any (·.1) = false := by rfl) : PE X (.Call (.Name x p) (e :: es) [] pos) (tCB r t) := by
  intro pins s σ H Q I h
  refine wpAny_Call_Name_kw (ld_blt I hg hm hv ?_ hn hdb)
  exact PyProof.Rows.callWith_builtin1 (thn (ha pos pins s σ H _ I h) fun us s1 ⟨vs, H1, I1, r1, q1⟩ => hc pins s1 σ H1 vs us Q I1 r1 q1) he hpl
/-- T(e, ..), T a built-in type -/
theorem pe_callTy (hc : CallR X (.type T) r) (hg : Gl X x) (hm : X.mg x = none) (hv : bootBuiltins x = some (.type T)) (ha : PA X (e :: es) t) (hn : x ≠ "__name__" := by decide) (hdb : (x == ("__debug__" : Str)) = false := by decide)
    (he : starEach (e :: es) X.env = (false, eval e X.env) :: starEach es X.env := by rfl) (hpl : (backTo pos (starEach es X.env)).any (·.1) = false := by rfl) : PE X (.Call (.Name x p) (e :: es) [] pos) (tCB r t) := by
  intro pins s σ H Q I h
  refine wpAny_Call_Name_kw (ld_blt I hg hm hv ?_ hn hdb)
  exact PyProof.Rows.callWith_type1 (thn (ha pos pins s σ H _ I h) fun us s1 ⟨vs, H1, I1, r1, q1⟩ => hc pins s1 σ H1 vs us Q I1 r1 q1) he hpl
end
end L2

namespace HT
open PySem PyProof.Rows

section
open PySem.SeqAt
open PySem.AutoSeq1 (wpAny_loadPart')
open PySem.MeetsSeq PySem.MeetsSeq2 PySem.MeetsSeq3

end

section
variable {prog : Program} {w : World} {A : Around} {E : Value → Shared → Prop} {s : Shared}

/-! ### t[a:b], not the whole -/
/-- a slice's bound as a place among n (d where it is left out) -/
def sIx (n d : Nat) : Option Int → Nat
  | none => d
  | some v => if v < 0 then (v + (n : Int)).toNat else min v.toNat n
theorem sIx_none (n d : Nat) : sIx n d none = d := rfl
theorem sIx_nat (n d k : Nat) : sIx n d (some (k : Int)) = min k n := by
  show (if (k : Int) < 0 then ((k : Int) + (n : Int)).toNat else min (k : Int).toNat n) = min k n
  rw [if_neg (by omega), Int.toNat_natCast]
end
end HT

namespace L2
open PySem PySem.Spec PyProof.Rows

/-! ### the parts of a slice -/
abbrev TO := St → Hp → (Option Int → Hp → Prop) → Prop
/-- a slice's part (left out, or an int) -/
def PO (X : Cx) (e : Option Expr) (t : TO) : Prop :=
  ∀ (pins : List (Addr × Obj)) (s : Shared) (σ : St) (H : Hp) (Q : Option Int → Hp → Prop), Inv X pins σ H s → t σ H Q →
    wpAny (model X.prog X.w) X.A (evalPart e X.env) (fun u s' => ∃ o H', Inv X pins σ H' s' ∧ IsPart u o ∧ Q o H') X.xe s
def tNoPart : TO := fun _ H Q => Q none H
def tPart (t : TE) : TO := fun σ H Q => t σ H fun x H1 => ∃ i, x = .int i ∧ Q (some i) H1

section
variable {X : Cx} {e : Expr} {te : TE} {lo hi : Option Expr} {tl th : TO} {pos p2 : Pos}

theorem po_none : PO X none tNoPart := by
  intro pins s σ H Q I h
  rw [evalPart_none]
  exact wpAny_pure ⟨none, H, I, .none, h⟩
theorem po_some (h : PE X e te) : PO X (some e) (tPart te) := by
  intro pins s σ H Q I hw
  rw [evalPart_some]
  refine thn (h pins s σ H _ I hw) fun u s1 ⟨x, H1, I1, r1, q1⟩ => ?_
  obtain ⟨i, rfl, q⟩ := q1
  obtain ⟨t, rfl⟩ := r1
  exact ⟨some i, H1, I1, .int i t, q⟩

/-- what a slice of a value is, by values: the slice object stands at sl -/
def SlR (X : Cx) (r : V → Option Int → Option Int → Hp → VK → Prop) : Prop :=
  ∀ (pins : List (Addr × Obj)) (s : Shared) (σ : St) (H : Hp) (x : V) (v vl vu : Value) (lo hi : Option Int) (sl : Addr) (Q : VK), Inv X pins σ H s → RelV x v → s.heap.IsSliceOf sl vl vu .none → IsPart vl lo → IsPart vu hi → r x lo hi H Q →
    ∃ T id, typeLookup (.type T) "__getitem__" = pure (some (.builtin id)) ∧ s.TypeIs v T ∧ wpAny (model X.prog X.w) X.A (getItem v (.ref sl)) (EP X pins σ Q) X.xe s
def tSl (r : V → Option Int → Option Int → Hp → VK → Prop) (te : TE) (tl th : TO) : TE := fun σ H Q => te σ H fun x H1 => tl σ H1 fun l H2 => th σ H2 fun u H3 => r x l u H3 Q
/-- a[lo:hi], any a -/
theorem pe_slice {r : V → Option Int → Option Int → Hp → VK → Prop} (hr : SlR X r) (he : PE X e te) (hl : PO X lo tl) (hu : PO X hi th) : PE X (.Subscript e (.Slice lo hi none p2) pos) (tSl r te tl th) := by
  intro pins s σ H Q I h
  refine Subscript_ (thn (he pins s σ H _ I h) fun v s1 ⟨x, H1, I1, r1, q1⟩ => ?_)
  refine wpAny_Slice (thn (hl pins s1 σ H1 _ I1 q1) fun vl s2 ⟨l, H2, I2, pl, q2⟩ => thn (hu pins s2 σ H2 _ I2 q2) fun vu s3 ⟨u, H3, I3, pu, q3⟩ => ?_)
  rw [evalPart_none]
  refine wpAny_pure ?_
  have I4 : Inv X pins σ H3 { s3 with heap := s3.heap.push { cls := .type "slice", data := .fields #[vl, vu, .none] } } := I3.kept (t' := s3.toks) fun b ob q => Heap.get?_push_of_some _ q
  obtain ⟨T, id, hT, ht, hg⟩ := hr pins { s3 with heap := s3.heap.push { cls := .type "slice", data := .fields #[vl, vu, .none] } } σ H3 x v vl vu l u s3.heap.objs.size Q I4 r1 (Heap.IsSliceOf.new ..) pl pu q3
  show wpAny (model X.prog X.w) X.A (subscriptTail e (.Slice lo hi none p2) v (.ref s3.heap.objs.size)) (EP X pins σ Q) X.xe { s3 with heap := s3.heap.push { cls := .type "slice", data := .fields #[vl, vu, .none] } }
  exact tail_any (ops := [.ref s3.heap.objs.size, v]) ht hT hg (by with_unfolding_all rfl)

/-- the items of xs[lo:hi] -/
def cutV (xs : List V) (lo hi : Option Int) : List V := (xs.drop (HT.sIx xs.length 0 lo)).take (HT.sIx xs.length xs.length hi - HT.sIx xs.length 0 lo)
theorem cutV_length (xs : List V) (lo hi : Option Int) : (cutV xs lo hi).length ≤ xs.length := by
  unfold cutV
  rw [List.length_take, List.length_drop]
  omega
/-! ### t < u, t + u -/
end
end L2

namespace L2
open PySem PySem.Spec PyProof.Rows

/-! ### places -/
/-- the place that an index of any sign means -/
def ixN (n : Nat) (i : Int) : Option Nat := if 0 ≤ i then (if i < n then some i.toNat else none) else if -(n : Int) ≤ i then some (i + n).toNat else none
def atI {α : Type} (xs : List α) (i : Int) : Option α := (ixN xs.length i).bind fun j => xs[j]?
theorem ixN_seq {n : Nat} {i : Int} {j : Nat} (h : ixN n i = some j) : seqIndex? i n = some j ∧ j < n ∧ -(n : Int) ≤ i ∧ i < n := by
  unfold ixN at h
  by_cases h0 : 0 ≤ i
  · rw [if_pos h0] at h
    by_cases h1 : i < n
    · rw [if_pos h1] at h
      have e : i.toNat = j := Option.some.inj h
      exact ⟨by rw [seqIndex_of h0 h1, e], by omega, by omega, h1⟩
    · rw [if_neg h1] at h; cases h
  · rw [if_neg h0] at h
    by_cases h1 : -(n : Int) ≤ i
    · rw [if_pos h1] at h
      have e : (i + n).toNat = j := Option.some.inj h
      exact ⟨by rw [seqIndex_neg (by omega) h1, e], by omega, h1, by omega⟩
    · rw [if_neg h1] at h; cases h
theorem atI_get {α : Type} {xs : List α} {i : Int} {v : α} (h : atI xs i = some v) : ∃ j, seqIndex? i xs.length = some j ∧ xs[j]? = some v ∧ j < xs.length ∧ -(xs.length : Int) ≤ i ∧ i < xs.length := by
  unfold atI at h
  cases e : ixN xs.length i with
  | none => rw [e] at h; cases h
  | some j =>
    rw [e] at h
    obtain ⟨h1, h2, h3, h4⟩ := ixN_seq e
    exact ⟨j, h1, h, h2, h3, h4⟩
theorem atI_nat {α : Type} {xs : List α} {j : Nat} {v : α} (h : xs[j]? = some v) : atI xs (j : Int) = some v := by
  have hj : j < xs.length := (List.getElem?_eq_some_iff.mp h).1
  have e : ixN xs.length (j : Int) = some j := by
    unfold ixN
    rw [if_pos (by omega), if_pos (by omega)]; simp
  unfold atI; rw [e]; exact h
/-! ### what may be subscripted -/
/-- what stands as an index of a plain subscript -/
def PlainIx (b : Expr) : Prop := ∀ o i, subscripted b false o i = operate [o, i] (getItem o i)
/-- a subscript by values -/
def IxR (X : Cx) (r : R2) : Prop :=
  ∀ (value slice : Expr) (pins : List (Addr × Obj)) (s : Shared) (σ : St) (H : Hp) (x y : V) (v u : Value) (Q : VK), Inv X pins σ H s → RelV x v → RelV y u → r x y H Q →
    subscripted slice false v u = operate [v, u] (getItem v u) → wpAny (model X.prog X.w) X.A (subscriptTail value slice v u) (EP X pins σ Q) X.xe s
/-- a call of a builtin's method by values: the receiver, the arguments -/
def MtR (X : Cx) (id : String) (r : V → List V → Hp → VK → Prop) : Prop :=
  ∀ (pins : List (Addr × Obj)) (s : Shared) (σ : St) (H : Hp) (x : V) (xs : List V) (v : Value) (us : List Value) (Q : VK), Inv X pins σ H s → RelV x v → Vals xs us → r x xs H Q →
    wpAny (model X.prog X.w) X.A (call (.builtin id) (v :: us)) (EP X pins σ Q) X.xe s
section
variable {X : Cx} {a b : Expr} {ta tb : TE} {pos : Pos}
theorem IxR.or {r r' : R2} (h : IxR X r) (h' : IxR X r') : IxR X (fun x y H Q => r x y H Q ∨ r' x y H Q) := by
  intro value slice pins s σ H x y v u Q I rx ry q hs
  rcases q with q | q
  · exact h value slice pins s σ H x y v u Q I rx ry q hs
  · exact h' value slice pins s σ H x y v u Q I rx ry q hs
/-- a[b] -/
theorem pe_ix {r : R2} (hr : IxR X r) (ha : PE X a ta) (hb : PE X b tb) (hs : PlainIx b) : PE X (.Subscript a b pos) (tOp r ta tb) := by
  intro pins s σ H Q I h
  exact Subscript_ (binT ha hb I h fun v u s2 x y H2 I2 rx ry q => hr a b pins s2 σ H2 x y v u Q I2 rx ry q (hs _ _))

def rIxL (K : PySem.W.Frag) : R2 := fun x y H Q => ∃ p xs i v, x = .ref p ∧ y = .int i ∧ SqL K H p xs ∧ atI xs i = some v ∧ Q v H
def rIxT (K : PySem.W.Frag) : R2 := fun x y H Q => ∃ p xs i v, x = .ref p ∧ y = .int i ∧ SqT K H p xs ∧ atI xs i = some v ∧ Q v H
def rIxS : R2 := fun x y H Q => ∃ z i c, x = .str z ∧ y = .int i ∧ z.length ≤ sizeLine ∧ atI z.cps.toList i = some c ∧ Q (.str ⟨#[c]⟩) H
theorem ix_list : IxR X (rIxL X.K) := by
  intro value slice pins s σ H x y v u Q I rx ry h hs
  obtain ⟨p, xs, i, z, rfl, rfl, hq, he, q⟩ := h
  cases rx
  obtain ⟨t, rfl⟩ := ry
  obtain ⟨its, r, pl, hz⟩ := I.list hq
  obtain ⟨j, h1, h2, h3, h4, h5⟩ := atI_get he
  obtain ⟨w, ew, rw'⟩ := r.get h2
  have hl := r.length
  have hn := line63
  have fin : EP X pins σ Q w s := ⟨z, H, I, rw', q⟩
  by_cases h0 : 0 ≤ i
  · have hj : i.toNat = j := by
      rw [seqIndex_of h0 h5] at h1
      exact Option.some.inj h1
    exact item_listR pl.isList h0 (by omega) (by rw [hj]; simpa using ew) fin hs
  · have hj : (i + (its.toArray.size : Int)).toNat = j := by
      rw [seqIndex_neg (by omega) h4] at h1
      rw [List.size_toArray, ← hl]
      exact Option.some.inj h1
    exact subscriptTail_builtinR (x := w) pl.isList.typeIs slot_list_getitem.lookup
      (wpAny_getItem_list_neg (Q := fun r s' => r = w ∧ EP X pins σ Q r s') pl.isList (by omega) (by rw [List.size_toArray] <;> omega) (by omega) (by rw [hj]; simpa using ew) ⟨rfl, fin⟩) hs
theorem ix_tup : IxR X (rIxT X.K) := by
  intro value slice pins s σ H x y v u Q I rx ry h hs
  obtain ⟨p, xs, i, z, rfl, rfl, hq, he, q⟩ := h
  cases rx
  obtain ⟨t, rfl⟩ := ry
  obtain ⟨its, r, pl, hz⟩ := I.tuple hq
  obtain ⟨j, h1, h2, h3, h4, h5⟩ := atI_get he
  obtain ⟨w, ew, rw'⟩ := r.get h2
  have hl := r.length
  have hn := line63
  have fin : EP X pins σ Q w s := ⟨z, H, I, rw', q⟩
  exact subscriptTail_builtinR (x := w) pl.typeIs slot_tuple_getitem.lookup
    (getItem_tuple (j := j) (Q := fun r s' => r = w ∧ EP X pins σ Q r s') pl (by omega) (by omega) (by rw [List.size_toArray, ← hl]; exact h1) (by simpa using ew) ⟨rfl, fin⟩) hs
theorem ix_str : IxR X rIxS := by
  intro value slice pins s σ H x y v u Q I rx ry h hs
  obtain ⟨z, i, c, rfl, rfl, hz, he, q⟩ := h
  obtain ⟨t, rfl⟩ := rx
  obtain ⟨t', rfl⟩ := ry
  obtain ⟨j, h1, h2, h3, h4, h5⟩ := atI_get he
  have hl : z.cps.toList.length = z.length := by simp [Str.length]
  rw [hl] at h1 h4 h5
  have hn := line63
  exact tail_any (typeIs_str s z t) slot_str_getitem.lookup (getItem_str (c := c) (by
    have e1 : decide (i < -(2 ^ 63 : Int)) = false := decide_eq_false (by omega)
    have e2 : decide (i ≥ 2 ^ 63) = false := decide_eq_false (by omega)
    rw [e1, e2, Bool.or_false]) (by rw [h1]; simpa using h2) ⟨.str ⟨#[c]⟩, H, I.tok _, ⟨_, rfl⟩, q⟩) hs
/-- list, tuple or str -/
def rIx (K : PySem.W.Frag) : R2 := fun x y H Q => rIxL K x y H Q ∨ rIxT K x y H Q ∨ rIxS x y H Q
theorem ix_seq : IxR X (rIx X.K) := ix_list.or (ix_tup.or ix_str)

/-! ### xs[i] = v, any sign -/
/-- the list's object behind a store -/
theorem mapSeq_set (its : List Value) (n j : Nat) (u : Value) : Obj.mapSeq (·.setIfInBounds j u) { cls := .type "list", data := .seq its.toArray n } = { cls := .type "list", data := .seq (its.set j u).toArray n } := by
  simp [Obj.mapSeq]
theorem Inv.lst {pins : List (Addr × Obj)} {σ : St} {H : Hp} {s : Shared} {p : Addr} {xs : List V} (I : Inv X pins σ H s) (h : H p = some (.lst xs)) :
    ∃ (its : List Value) (n : Nat), Vals xs its ∧ s.heap.get? p = some { cls := .type "list", data := .seq its.toArray n } ∧ xs.length ≤ sizeLine := by
  obtain ⟨z, its, n, r, e⟩ := I.hok p _ h
  exact ⟨its, n, r, e, z⟩
/-- the list at p is written by an update of its object -/
theorem Inv.lstUpd {pins : List (Addr × Obj)} {σ : St} {H : Hp} {s : Shared} {p : Addr} {xs ys : List V} {its its' : List Value} {n n' : Nat} {f : Obj → Obj} (I : Inv X pins σ H s) (h : H p = some (.lst xs))
    (ho : s.heap.get? p = some { cls := .type "list", data := .seq its.toArray n }) (hf : f { cls := .type "list", data := .seq its.toArray n } = { cls := .type "list", data := .seq its'.toArray n' }) (r : Vals ys its') (hz : ys.length ≤ sizeLine) (t : Nat) :
    Inv X pins σ (upd H p (.lst ys)) { s with heap := s.heap.update p f, toks := t } := by
  have e : (s.heap.update p f).get? p = some { cls := .type "list", data := .seq its'.toArray n' } := by
    rw [Heap.get?_update_self f ho (by rw [hf] <;> rfl), hf]
  refine I.write (x := p) (e := p) (by rw [h]; trivial) (.inl rfl) (fun b u hb q => (Heap.get?_update_other _ _ (Ne.symm hb)).trans q) ⟨_, e⟩ ?_
  exact ⟨hz, its', n', r, e⟩
def rSetL : V → V → V → Hp → (Hp → Prop) → Prop := fun o i v H Q => ∃ p xs k j, o = .ref p ∧ i = .int k ∧ H p = some (.lst xs) ∧ ixN xs.length k = some j ∧ Q (upd H p (.lst (xs.set j v)))
theorem set_list : PSet X rSetL := by
  intro pins s σ H o i v ov iv u Q I ro ri rv h
  obtain ⟨p, xs, k, j, rfl, rfl, hp, hj, q⟩ := h
  cases ro
  obtain ⟨t, rfl⟩ := ri
  obtain ⟨its, n, r, ho, hz⟩ := I.lst hp
  obtain ⟨h1, h2, h3, h4⟩ := ixN_seq hj
  have hl := r.length
  have hn := line63
  have I' : Inv X pins σ (upd H p (.lst (xs.set j v))) { s with heap := s.heap.update p (Obj.mapSeq (·.setIfInBounds j u)) } :=
    I.lstUpd hp ho (mapSeq_set its n j u) (r.set rv j) (by rw [List.length_set]; exact hz) s.toks
  by_cases h0 : 0 ≤ k
  · have hk : k.toNat = j := by
      rw [seqIndex_of h0 h4] at h1
      exact Option.some.inj h1
    exact PySem.W.ki_setAt ho h0 (by omega) (by rw [List.size_toArray, ← hl]; exact h4) (by rw [hk]; exact ⟨_, I', q⟩)
  · have hk : (k + (its.toArray.size : Int)).toNat = j := by
      rw [seqIndex_neg (by omega) h3] at h1
      rw [List.size_toArray, ← hl]
      exact Option.some.inj h1
    exact PySem.W.ki_setBack ho (by omega) (by rw [List.size_toArray, ← hl]; exact h3) (by omega) (by rw [hk]; exact ⟨_, I', q⟩)

/-! ### slices -/
theorem slice_bounds (lo hi : Option Int) (n : Nat) : (sliceBounds lo hi none n).1 = ((HT.sIx n 0 lo : Nat) : Int) ∧ (sliceBounds lo hi none n).2.1 = ((HT.sIx n n hi : Nat) : Int) ∧ (sliceBounds lo hi none n).2.2 = 1 := by
  refine ⟨?_, ?_, rfl⟩
  · cases lo with
    | none => simp [sliceBounds, HT.sIx]
    | some i =>
      simp only [sliceBounds, HT.sIx, Option.getD_none, show (1 : Int) > 0 by decide, if_true]
      by_cases h : i < 0
      · simp only [h, if_true] <;> omega
      · simp only [h, if_false] <;> omega
  · cases hi with
    | none => simp [sliceBounds, HT.sIx]
    | some i =>
      simp only [sliceBounds, HT.sIx, Option.getD_none, show (1 : Int) > 0 by decide, if_true]
      by_cases h : i < 0
      · simp only [h, if_true] <;> omega
      · simp only [h, if_false] <;> omega
theorem slicePick_cut (its : List Value) (lo hi : Option Int) : slicePick its.toArray lo hi none = ((its.drop (HT.sIx its.length 0 lo)).take (HT.sIx its.length its.length hi - HT.sIx its.length 0 lo)).toArray := by
  obtain ⟨h1, h2, h3⟩ := slice_bounds lo hi its.toArray.size
  unfold slicePick
  rw [h1, h2, h3]
  simp only [sliceRange_one, pick_run, List.size_toArray] <;> rfl
/-- xs[lo:hi] of a list: a new list -/
def rSlL (K : PySem.W.Frag) : V → Option Int → Option Int → Hp → VK → Prop := fun x lo hi H Q => ∃ a xs, x = .ref a ∧ SqL K H a xs ∧ ∀ p, H p = none → Q (.ref p) (upd H p (.lst (cutV xs lo hi)))
theorem sl_list : SlR X (rSlL X.K) := by
  intro pins s σ H x v vl vu lo hi sl Q I rx hs pl pu h
  obtain ⟨a, xs, rfl, hx, q⟩ := h
  cases rx
  obtain ⟨its, r, ht, hz⟩ := I.list hx
  have hlen := r.length
  refine ⟨"list", _, slot_list_getitem.lookup, ht.isList.typeIs, ?_⟩
  refine wpAny_getItem_list_slice ht.isList hs pl pu .none (by simp) ?_ (by rw [List.size_toArray] <;> omega)
  rw [slicePick_cut, ← hlen]
  refine ⟨.ref s.heap.objs.size, _, I.laid (t' := s.toks) (o := .lst (cutV xs lo hi)) (fun b ob q => Heap.get?_push_of_some _ q) (Nat.le_refl _) ?_, rfl, q _ (I.hok.fresh (Nat.le_refl _))⟩
  exact ⟨Nat.le_trans (cutV_length xs lo hi) hz, _, 0, (r.drop (HT.sIx xs.length 0 lo)).take (HT.sIx xs.length xs.length hi - HT.sIx xs.length 0 lo), Heap.get?_push_size _ rfl⟩

/-! ### in, not in: flat items -/
def flatV : V → Bool
  | .non => true
  | .bl _ => true
  | .int _ => true
  | .str _ => true
  | _ => false
/-- == of flat values -/
def eqV : V → V → Bool
  | .non, .non => true
  | .bl a, .bl b => a == b
  | .bl a, .int b => (if a then 1 else 0) == b
  | .int a, .bl b => a == (if b then 1 else 0)
  | .int a, .int b => a == b
  | .str a, .str b => a == b
  | _, _ => false
theorem eqAt_V {A : Around} {s : Shared} {y x : V} {u v : Value} (ry : RelV y u) (rx : RelV x v) (fy : flatV y = true) (fx : flatV x = true) : SeqAt.EqAt A s u v (eqV y x) := by
  cases y with
  | non =>
    cases ry
    cases x with
    | non => cases rx; exact SeqAt.EqAt.same _
    | bl b => cases rx; exact SeqAt.EqAt.none_bool b
    | int b => obtain ⟨t, rfl⟩ := rx; exact SeqAt.EqAt.none_int b t
    | str b => obtain ⟨t, rfl⟩ := rx; exact SeqAt.EqAt.none_str b t
    | _ => exact absurd (show false = true from fx) Bool.false_ne_true
  | bl a =>
    cases ry
    cases x with
    | non => cases rx; exact SeqAt.EqAt.bool_none a
    | bl b => cases rx; exact SeqAt.EqAt.bool_bool a b
    | int b => obtain ⟨t, rfl⟩ := rx; exact SeqAt.EqAt.bool_int a b t
    | str b => obtain ⟨t, rfl⟩ := rx; exact SeqAt.EqAt.bool_str a b t
    | _ => exact absurd (show false = true from fx) Bool.false_ne_true
  | int a =>
    obtain ⟨t', rfl⟩ := ry
    cases x with
    | non => cases rx; exact SeqAt.EqAt.int_none a t'
    | bl b => cases rx; exact SeqAt.EqAt.int_bool a t' b
    | int b => obtain ⟨t, rfl⟩ := rx; exact SeqAt.EqAt.int_int a t' b t
    | str b => obtain ⟨t, rfl⟩ := rx; exact SeqAt.EqAt.int_str a t' b t
    | _ => exact absurd (show false = true from fx) Bool.false_ne_true
  | str a =>
    obtain ⟨t', rfl⟩ := ry
    cases x with
    | non => cases rx; exact SeqAt.EqAt.str_none a t'
    | bl b => cases rx; exact SeqAt.EqAt.str_bool a t' b
    | int b => obtain ⟨t, rfl⟩ := rx; exact SeqAt.EqAt.str_int a t' b t
    | str b => obtain ⟨t, rfl⟩ := rx; exact SeqAt.EqAt.str_str a t' b t
    | _ => exact absurd (show false = true from fx) Bool.false_ne_true
  | _ => exact absurd (show false = true from fy) Bool.false_ne_true
/-- the items' answers, read off the values (a value's own answer does not lean on its token) -/
def eqU (x : V) (u : Value) : Bool := match u with
  | .none => eqV .non x
  | .bool b => eqV (.bl b) x
  | .int i _ => eqV (.int i) x
  | .str z _ => eqV (.str z) x
  | _ => false
theorem eqU_of {x y : V} {u : Value} (r : RelV y u) (f : flatV y = true) : eqU x u = eqV y x := by
  cases y with
  | non => cases r; rfl
  | bl b => cases r; rfl
  | int i => obtain ⟨t, rfl⟩ := r; rfl
  | str z => obtain ⟨t, rfl⟩ := r; rfl
  | _ => exact absurd (show false = true from f) Bool.false_ne_true
theorem any_eqU {x : V} : ∀ {xs : List V} {us : List Value}, Vals xs us → xs.all flatV = true → us.any (eqU x) = xs.any fun y => eqV y x
  | _, _, .nil, _ => rfl
  | y :: xs, u :: us, .cons r t, f => by
    rw [List.all_cons, Bool.and_eq_true] at f
    rw [List.any_cons, List.any_cons, eqU_of r f.1, any_eqU t f.2]
theorem mem_eqAt {A : Around} {s : Shared} {x : V} {v : Value} (rx : RelV x v) (fx : flatV x = true) : ∀ {xs : List V} {us : List Value}, Vals xs us → xs.all flatV = true → ∀ u ∈ us, SeqAt.EqAt A s u v (eqU x u)
  | _, _, .nil, _ => fun u hu => by cases hu
  | y :: xs, u :: us, .cons r t, f => fun u' hu => by
    rw [List.all_cons, Bool.and_eq_true] at f
    rcases List.mem_cons.mp hu with rfl | hu
    · rw [eqU_of r f.1]; exact eqAt_V r rx f.1 fx
    · exact mem_eqAt rx fx t f.2 u' hu
def inV (x : V) (xs : List V) : Bool := xs.any fun y => eqV y x
/-- x in a list or tuple of flat items -/
def rIn (K : PySem.W.Frag) (neg : Bool) : R2 := fun x y H Q => ∃ p xs, y = .ref p ∧ (SqL K H p xs ∨ SqT K H p xs) ∧ flatV x = true ∧ xs.all flatV = true ∧ Q (.bl (if neg then !inV x xs else inV x xs)) H
theorem op_in_seq : OpR X (compareOp .In) (rIn X.K false) := by
  intro pins s σ H x y v u Q I rx ry h
  obtain ⟨p, xs, rfl, hq, fx, fs, q⟩ := h
  cases ry
  rcases hq with hq | hq
  · obtain ⟨its, r, pl, hz⟩ := I.list hq
    refine SeqAt.in_listAt (eqU x) pl.isList (fun w hw => mem_eqAt rx fx r fs w (by simpa using hw)) ⟨.bl _, H, I, rfl, ?_⟩
    rw [show its.toArray.any (eqU x) = its.any (eqU x) by simp, any_eqU r fs]
    exact q
  · obtain ⟨its, r, pl, hz⟩ := I.tuple hq
    refine SeqAt.in_tupleAt (eqU x) pl (fun w hw => mem_eqAt rx fx r fs w (by simpa using hw)) ⟨.bl _, H, I, rfl, ?_⟩
    rw [show its.toArray.any (eqU x) = its.any (eqU x) by simp, any_eqU r fs]
    exact q
/-! ### len, list(x), tuple(x) of any list or tuple that is read -/
theorem call_len_seq : CallR X (.builtin "len") (fun xs H Q => ∃ p ys, xs = [.ref p] ∧ (SqL X.K H p ys ∨ SqT X.K H p ys) ∧ Q (.int ys.length) H) := by
  intro pins s σ H xs us Q I r h
  obtain ⟨p, ys, rfl, hq, q⟩ := h
  obtain ⟨u, rfl, rx⟩ := vals1 r
  cases rx
  have hn := line63
  rcases hq with hq | hq
  · obtain ⟨its, r', pl, hz⟩ := I.list hq
    have hlen := r'.length
    exact Calls.call_len_list pl.isList (by simp only [List.size_toArray] <;> omega) ⟨.int ys.length, H, I.tok _, ⟨s.toks + 1, by rw [List.size_toArray, hlen]⟩, q⟩
  · obtain ⟨its, r', pl, hz⟩ := I.tuple hq
    have hlen := r'.length
    exact len_tuple pl (by simp only [List.size_toArray] <;> omega) ⟨.int ys.length, H, I.tok _, ⟨s.toks + 1, by rw [List.size_toArray, hlen]⟩, q⟩
theorem call_len_str : CallR X (.builtin "len") (fun xs H Q => ∃ z, xs = [.str z] ∧ z.length ≤ sizeLine ∧ Q (.int z.length) H) := by
  intro pins s σ H xs us Q I r h
  obtain ⟨z, rfl, hz, q⟩ := h
  obtain ⟨u, rfl, t, rfl⟩ := vals1 r
  have hn := line63
  exact len_str (by omega) ⟨.int z.length, H, I.tok _, ⟨_, rfl⟩, q⟩
theorem call_list_of : CallR X (.type "list") (fun xs H Q => ∃ p ys, xs = [.ref p] ∧ (SqL X.K H p ys ∨ SqT X.K H p ys) ∧ ∀ l, H l = none → Q (.ref l) (upd H l (.lst ys))) := by
  intro pins s σ H xs us Q I r h
  obtain ⟨p, ys, rfl, hq, q⟩ := h
  obtain ⟨u, rfl, rx⟩ := vals1 r
  cases rx
  have fin : ∀ (its : List Value), Vals ys its → ys.length ≤ sizeLine → ∀ (h' : Heap) (c' : Nat), (∀ b o', s.heap.get? b = some o' → h'.get? b = some o') →
      h'.get? s.heap.objs.size = some { cls := .type "list", dict := none, data := .seq its.toArray c', slots := #[] } → EP X pins σ Q (.ref s.heap.objs.size) { s with heap := h' } := fun its r' hz h' c' kp e =>
    ⟨.ref s.heap.objs.size, _, I.laid (t' := s.toks) kp (Nat.le_refl _) (show ObjOk X.prog X.w _ h' _ (.lst ys) from ⟨hz, its, c', r', e⟩), rfl, q _ (I.hok.fresh (Nat.le_refl _))⟩
  rcases hq with hq | hq
  · obtain ⟨its, r', pl, hz⟩ := I.list hq
    have hlen := r'.length
    obtain ⟨o, ho, hc, n, hd⟩ := pl.isList
    exact call_list_seq p (.inl rfl) ho hc hd (fun h' c' kp e => fin its r' hz h' c' kp e) (by simp only [List.size_toArray] <;> omega)
  · obtain ⟨its, r', pl, hz⟩ := I.tuple hq
    have hlen := r'.length
    obtain ⟨o, ho, hc, n, hd⟩ := pl
    exact call_list_seq p (.inr rfl) ho hc hd (fun h' c' kp e => fin its r' hz h' c' kp e) (by simp only [List.size_toArray] <;> omega)
theorem call_tuple_of : CallR X (.type "tuple") (fun xs H Q => ∃ p ys, xs = [.ref p] ∧ ((SqL X.K H p ys ∧ ∀ l, H l = none → Q (.ref l) (upd H l (.tup ys))) ∨ (SqT X.K H p ys ∧ Q (.ref p) H))) := by
  intro pins s σ H xs us Q I r h
  obtain ⟨p, ys, rfl, h⟩ := h
  obtain ⟨u, rfl, rx⟩ := vals1 r
  cases rx
  rcases h with ⟨hq, q⟩ | ⟨hq, q⟩
  · obtain ⟨its, r', pl, hz⟩ := I.list hq
    have hlen := r'.length
    refine call_tuple_list pl.isList (fun h' kp => ?_) (by simp only [List.size_toArray] <;> omega)
    have I1 : Inv X pins σ H { s with heap := h' } := I.kept (t' := s.toks) kp
    have I2 : Inv X pins σ (upd H h'.objs.size (.tup ys)) { s with heap := h'.push { cls := .type "tuple", data := .seq its.toArray } } :=
      I1.laid (t' := s.toks) (fun b o e => Heap.get?_push_of_some _ e) (Nat.le_refl _) (show ObjOk X.prog X.w _ _ _ (.tup ys) from ⟨hz, its, r', IsTup.new _ _⟩)
    exact ⟨.ref h'.objs.size, _, I2, rfl, q _ (I1.hok.fresh (Nat.le_refl _))⟩
  · obtain ⟨its, r', pl, hz⟩ := I.tuple hq
    exact call_tuple_same pl ⟨.ref p, H, I, rfl, q⟩

/-! ### the call of a builtin's method: o.m(..) -/
/-- the value is of that builtin type -/
def tyV (K : PySem.W.Frag) (T : String) (x : V) (H : Hp) : Prop := match x with
  | .str _ => T = "str"
  | .int _ => T = "int"
  | .ref p => (T = "list" ∧ ∃ xs, SqL K H p xs) ∨ (T = "tuple" ∧ ∃ o, K.lookup p = some o ∧ o.cls = .type "tuple" ∧ o.dict = none) ∨
      (T = "dict" ∧ ((∃ kvs, H p = some (.dK kvs)) ∨ ∃ kvs, H p = some (.dT kvs))) ∨ (T = "set" ∧ ∃ S n, H p = some (.set S n))
  | _ => False
theorem tyV_is {pins : List (Addr × Obj)} {σ : St} {H : Hp} {s : Shared} {T : String} {x : V} {v : Value} (I : Inv X pins σ H s) (r : RelV x v) (ty : tyV X.K T x H) :
    s.TypeIs v T ∧ ∀ a, v = .ref a → ∃ ob, s.heap.get? a = some ob ∧ ob.dict = none := by
  cases x with
  | str z =>
    obtain ⟨t, rfl⟩ := r
    cases (show T = "str" from ty)
    exact ⟨typeIs_str s z t, fun _ e => nomatch e⟩
  | int i =>
    obtain ⟨t, rfl⟩ := r
    cases (show T = "int" from ty)
    exact ⟨typeIs_int s i t, fun _ e => nomatch e⟩
  | ref p =>
    cases r
    rcases ty with ⟨rfl, xs, hq⟩ | ⟨rfl, o, hk, hc, hd⟩ | ⟨rfl, hk⟩ | ⟨rfl, S, n, hk⟩
    · obtain ⟨its, _, pl, _⟩ := I.list hq
      refine ⟨pl.isList.typeIs, fun a e => ?_⟩
      cases e
      obtain ⟨o, n, e, c, hd, _⟩ := pl
      exact ⟨o, e, hd⟩
    · refine ⟨⟨o, I.kIn p o hk, hc⟩, fun a e => ?_⟩
      cases e
      exact ⟨o, I.kIn _ o hk, hd⟩
    · have z : ∃ o, s.heap.get? p = some o ∧ o.ExactDict := by
        rcases hk with ⟨kvs, hk⟩ | ⟨kvs, hk⟩
        · obtain ⟨_, _, _, _, o, _, _, e, ex, _⟩ := I.hok p _ hk
          exact ⟨o, e, ex⟩
        · obtain ⟨_, _, _, _, o, _, _, e, ex, _⟩ := I.hok p _ hk
          exact ⟨o, e, ex⟩
      obtain ⟨o, e, ex⟩ := z
      refine ⟨⟨o, e, ex.1⟩, fun a e2 => ?_⟩
      cases e2
      exact ⟨o, e, ex.2.1⟩
    · obtain ⟨o, _, _, _, e, ex, _⟩ := I.hok p _ hk
      refine ⟨⟨o, e, ex.1⟩, fun a e2 => ?_⟩
      cases e2
      exact ⟨o, e, ex.2.1⟩
  | _ => exact False.elim ty
def tBM0 (K : PySem.W.Frag) (T : String) (r : V → List V → Hp → VK → Prop) (to : TE) : TE := fun σ H Q => to σ H fun x H1 => tyV K T x H1 ∧ r x [] H1 Q
def tBM (K : PySem.W.Frag) (T : String) (r : V → List V → Hp → VK → Prop) (to : TE) (t : TA) : TE := fun σ H Q => to σ H fun x H1 => tyV K T x H1 ∧ t σ H1 fun xs H2 => r x xs H2 Q
variable {o e : Expr} {es : List Expr} {to : TE} {t : TA} {name : Str} {apos cpos : Pos} {T id : String} {r : V → List V → Hp → VK → Prop}
theorem pe_bm0 (pa : PlainAttrs T) (slot : Slot T name id) (hty : typeOf (.builtin id) = pure (.type "method_descriptor")) (hm : MtR X id r) (ho : PE X o to)
    (hbase : attributeBase o name X.env (eval o X.env) = eval o X.env := by rfl) (hline : (apos.endLine == cpos.line) = true := by rfl) : PE X (.Call (.Attribute o name apos) [] [] cpos) (tBM0 X.K T r to) := by
  intro pins s σ H Q I h
  refine wpAny_Call_method0_late hbase hline (thn (ho pins s σ H _ I h) fun v s1 ⟨x, H1, I1, r1, ty, q1⟩ => ?_)
  obtain ⟨h1, h2⟩ := tyV_is I1 r1 ty
  exact ⟨T, id, pa, slot, hty, h1, h2, Calls.callWith_builtin rfl (PySem.evalArgs_none (hm pins s1 σ H1 x [] v [] Q I1 r1 .nil q1))⟩
theorem pe_bm (pa : PlainAttrs T) (slot : Slot T name id) (hty : typeOf (.builtin id) = pure (.type "method_descriptor")) (hm : MtR X id r) (ho : PE X o to) (ha : PA X (e :: es) t)
    (hbase : attributeBase o name X.env (eval o X.env) = eval o X.env := by rfl)
    (hfew : ((backTo cpos (starEach (e :: es) X.env)).all (fun x => !x.1) && (backToKw cpos (keywordEach [] X.env)).all (fun x => x.1.isSome)
      && decide ((e :: es).length + ([] : List Keyword).length + (if ([] : List Keyword).isEmpty then 0 else 1) < 30)) = true := by rfl)
    (hline : (apos.endLine == cpos.line) = true := by rfl) (hs : starEach (e :: es) X.env = (false, eval e X.env) :: starEach es X.env := by rfl) (hplain : (backTo cpos (starEach es X.env)).any (·.1) = false := by rfl) :
    PE X (.Call (.Attribute o name apos) (e :: es) [] cpos) (tBM X.K T r to t) := by
  intro pins s σ H Q I h
  refine wpAny_Call_method_late hbase hfew hline rfl (thn (ho pins s σ H _ I h) fun v s1 ⟨x, H1, I1, r1, ty, q1⟩ => ?_)
  obtain ⟨h1, h2⟩ := tyV_is I1 r1 ty
  refine ⟨T, id, pa, slot, hty, h1, h2, ?_⟩
  have hA := ha cpos pins s1 σ H1 _ I1 q1
  rw [hs] at hA ⊢
  refine Calls.callWith_builtin (by show (false || (backTo cpos (starEach es X.env)).any (·.1)) = false; rw [hplain] <;> rfl) (Calls.evalArgs_plain ?_)
  exact thn hA fun us s2 ⟨vs, H2, I2, r2, q2⟩ => hm pins s2 σ H2 x vs v us Q I2 r1 r2 q2
/- xs.append(e), list.index on a module's tuple .. are MtR facts of 06m -/
end
end L2

namespace L2
open PySem PySem.Spec PyProof.Rows

def MtM (X : Cx) (id : String) (r : V → List V → Hp → VK → Prop) : Prop :=
  ∀ (pins : List (Addr × Obj)) (s : Shared) (σ : St) (H : Hp) (x : V) (xs : List V) (v : Value) (us : List Value) (Q : VK), Inv X pins σ H s → RelV x v → Vals xs us → r x xs H Q →
    wpAny (model X.prog X.w) X.A (call (.builtin id) (v :: us)) (EP X pins σ Q) X.xe s

/-! ### lists of values -/
theorem Vals.one : ∀ {x : V} {us : List Value}, Vals [x] us → ∃ u, us = [u] ∧ RelV x u
  | _, _, .cons r .nil => ⟨_, rfl, r⟩
theorem Vals.eraseIdx : ∀ {xs : List V} {us : List Value} (i : Nat), Vals xs us → Vals (xs.eraseIdx i) (us.eraseIdx i)
  | _, _, _, .nil => .nil
  | _, _, 0, .cons _ t => t
  | _, _, i + 1, .cons r t => .cons r (Vals.eraseIdx i t)
theorem len_erase {α : Type} : ∀ (l : List α) (i : Nat), (l.eraseIdx i).length ≤ l.length
  | [], _ => Nat.le_refl _
  | _ :: _, 0 => Nat.le_succ _
  | _ :: r, i + 1 => Nat.succ_le_succ (len_erase r i)
section
variable {X : Cx} {pins : List (Addr × Obj)} {σ : St} {H : Hp} {s : Shared} {l b : Addr} {xs ys zs : List V}

/-! ### the two steps: a tracked list is rewritten, a new list is laid -/
theorem Inv.lset {its its' : List Value} {n : Nat} {f : Array Value → Array Value} {t' : Nat} (I : Inv X pins σ H s) (hH : H l = some (.lst xs))
    (e : s.heap.get? l = some { cls := .type "list", data := .seq its.toArray n }) (hf : f its.toArray = its'.toArray) (hv : Vals ys its') (hz : ys.length ≤ sizeLine) :
    Inv X pins σ (upd H l (.lst ys)) { s with heap := s.heap.update l (Obj.mapSeq f), toks := t' } := by
  have q := PySem.IsL.update e f
  rw [hf] at q
  refine I.write (x := l) (e := l) (by rw [hH]; exact trivial) (.inl rfl) (fun b' u hb hu => (Heap.get?_update_other s.heap (Obj.mapSeq f) (Ne.symm hb)).trans hu) ⟨_, q⟩ ?_
  exact ⟨hz, its', _, hv, q⟩
theorem Inv.lnew {its : List Value} {t' : Nat} (I : Inv X pins σ H s) (hv : Vals ys its) (hz : ys.length ≤ sizeLine) :
    Inv X pins σ (upd H s.heap.objs.size (.lst ys)) { s with heap := s.heap.push { cls := .type "list", data := .seq its.toArray }, toks := t' } :=
  I.laid (fun _ _ q => Heap.get?_push_of_some _ q) (Nat.le_refl _) ⟨hz, its, 0, hv, Heap.get?_push_size _ rfl⟩
theorem Inv.fresh (I : Inv X pins σ H s) : H s.heap.objs.size = none := I.hok.fresh (Nat.le_refl _)
theorem Inv.lstM (I : Inv X pins σ H s) (hH : H l = some (.lst xs)) : xs.length ≤ sizeLine ∧ ∃ (its : List Value) (n : Nat), Vals xs its ∧ xs.length = its.length ∧ s.heap.get? l = some { cls := .type "list", data := .seq its.toArray n } := by
  obtain ⟨z, its, n, r, e⟩ := I.hok l _ hH
  exact ⟨z, its, n, r, r.length, e⟩

theorem notLongL {n : Nat} (h : n ≤ sizeLine) : Builtin.List.listTooLong n = false := by
  unfold Builtin.List.listTooLong
  exact decide_eq_false (by omega)
end

section
variable {X : Cx}

/-! ### methods -/
def rAppend : V → List V → Hp → VK → Prop := fun x vs H Q => ∃ l xs y, x = .ref l ∧ vs = [y] ∧ H l = some (.lst xs) ∧ xs.length < sizeLine ∧ Q .non (upd H l (.lst (xs ++ [y])))
theorem mt_append : MtM X "list.append" rAppend := by
  intro pins s σ H x vs v us Q I rx rv h
  obtain ⟨l, xs, y, rfl, rfl, hH, hz, q⟩ := h
  cases rx
  obtain ⟨u, rfl, ru⟩ := rv.one
  obtain ⟨z, its, n, r, hl, e⟩ := I.lstM hH
  refine call_meets F.slot_list_append ⟨_, e, rfl⟩ F.entry_list_append (F.args_list_append_2 _ _) (PySem.list_append l its.toArray n u (by rw [List.size_toArray]; omega)) ⟨e, ?_⟩
  refine ⟨.non, _, I.lset (its' := its ++ [u]) hH e (by simp) (r.append (.cons ru .nil)) ?_, rfl, q⟩
  rw [List.length_append, List.length_singleton]
  omega

def rExtend : V → List V → Hp → VK → Prop := fun x vs H Q => ∃ l b xs zs, x = .ref l ∧ vs = [.ref b] ∧ H l = some (.lst xs) ∧ H b = some (.lst zs) ∧ xs.length + zs.length ≤ sizeLine ∧ Q .non (upd H l (.lst (xs ++ zs)))
theorem mt_extend : MtM X "list.extend" rExtend := by
  intro pins s σ H x vs v us Q I rx rv h
  obtain ⟨l, b, xs, zs, rfl, rfl, hH, hB, hz, q⟩ := h
  cases rx
  obtain ⟨u, rfl, ru⟩ := rv.one
  cases ru
  obtain ⟨z, its, n, r, hl, e⟩ := I.lstM hH
  obtain ⟨z2, its2, n2, r2, hl2, e2⟩ := I.lstM hB
  have hsz : its.toArray.size + its2.toArray.size ≤ sizeLine := by rw [List.size_toArray, List.size_toArray]; omega
  have hlong : ¬ (!its.toArray.isEmpty && Builtin.List.listTooLong (its.toArray.size + its2.toArray.size)) = true := by
    rw [notLongL hsz, Bool.and_false]
    exact Bool.false_ne_true
  refine call_meets F.slot_list_extend ⟨_, e, rfl⟩ F.entry_list_extend (F.args_list_extend_2 _ _)
    (AutoSeq1.list_extend_list_list_0 l its.toArray n b its2.toArray n2 hlong (by rw [List.size_toArray]; omega) (by omega)) ⟨e, e2, ?_⟩
  refine ⟨.non, _, I.lset (its' := its ++ its2) hH e (by simp) (r.append r2) ?_, rfl, q⟩
  rw [List.length_append]
  omega

def rPopAt : V → List V → Hp → VK → Prop := fun x vs H Q => ∃ l xs i k y, x = .ref l ∧ vs = [.int i] ∧ H l = some (.lst xs) ∧ -(2 ^ 63) ≤ i ∧ i < 2 ^ 63 ∧ seqIndex? i xs.length = some k ∧ xs[k]? = some y ∧ Q y (upd H l (.lst (xs.eraseIdx k)))
theorem mt_popAt : MtM X "list.pop" rPopAt := by
  intro pins s σ H x vs v us Q I rx rv h
  obtain ⟨l, xs, i, k, y, rfl, rfl, hH, h1, h2, hk, hy, q⟩ := h
  cases rx
  obtain ⟨u, rfl, ru⟩ := rv.one
  obtain ⟨t, rfl⟩ := ru
  obtain ⟨z, its, n, r, hl, e⟩ := I.lstM hH
  obtain ⟨w, hw, rw'⟩ := r.get hy
  refine call_meets F.slot_list_pop ⟨_, e, rfl⟩ F.entry_list_pop (F.args_list_pop_2 _ _)
    (MeetsSeq.list_pop_at l its.toArray n i t k w (fitsIndex_both h1 h2) (by rw [List.size_toArray, ← hl]; exact hk) (by rw [← Array.getElem?_toList]; exact hw) (by rw [List.size_toArray]; omega)) ⟨e, ?_⟩
  refine ⟨y, _, I.lset (its' := its.eraseIdx k) hH e ?_ (r.eraseIdx k) ?_, rw', q⟩
  · show its.toArray.eraseIdxIfInBounds k = (its.eraseIdx k).toArray
    rw [List.eraseIdxIfInBounds_toArray]
  · have := len_erase xs k
    omega

/-! ### list + list, list += list, list * int -/
def rCat : R2 := fun x y H Q => ∃ l b xs zs, x = .ref l ∧ y = .ref b ∧ H l = some (.lst xs) ∧ H b = some (.lst zs) ∧ xs.length + zs.length ≤ sizeLine ∧ ∀ p, H p = none → Q (.ref p) (upd H p (.lst (xs ++ zs)))
theorem op_cat : OpR X (binaryOp .Add) rCat := by
  intro pins s σ H x y v u Q I rx ry h
  obtain ⟨l, b, xs, zs, rfl, rfl, hH, hB, hz, q⟩ := h
  cases rx
  cases ry
  obtain ⟨z, its, n, r, hl, e⟩ := I.lstM hH
  obtain ⟨z2, its2, n2, r2, hl2, e2⟩ := I.lstM hB
  refine PySem.P.add_list e e2 ?_ (by rw [List.size_toArray, List.size_toArray]; omega)
  have ea : its.toArray ++ its2.toArray = (its ++ its2).toArray := by simp
  rw [ea]
  exact ⟨.ref _, _, I.lnew (t' := s.toks) (r.append r2) (by rw [List.length_append]; omega), rfl, q _ I.fresh⟩
/-! ### del xs[i] -/
end

/-! ### xs[a:b] = ys -/
section
variable {prog : Program} {w : World} {A : Around} {E : Value → Shared → Prop} {s : Shared}
end

section
variable {X : Cx}
end
end L2

namespace L2
open PySem PySem.Spec PyProof.Rows

/-! ### lists of pairs as tables -/
section
variable {κ : Type} [DecidableEq κ]
def valV (kvs : List (κ × V)) (k : κ) : Option V := (kvs.find? fun kv => decide (kv.1 = k)).map (·.2)
/-- in its place, or at the end -/
def putK (kvs : List (κ × V)) (k : κ) (v : V) : List (κ × V) :=
  if (kvs.any fun kv => decide (kv.1 = k)) = true then kvs.map (fun kv => if kv.1 = k then (kv.1, v) else kv) else kvs ++ [(k, v)]
theorem valV_pos {p : κ × V} {r : List (κ × V)} {k : κ} (e : p.1 = k) : valV (p :: r) k = some p.2 := by simp [valV, List.find?_cons, e]
theorem valV_neg {p : κ × V} {r : List (κ × V)} {k : κ} (e : ¬ p.1 = k) : valV (p :: r) k = valV r k := by simp [valV, List.find?_cons, e]
theorem valV_any (k : κ) : ∀ kvs : List (κ × V), (kvs.any fun kv => decide (kv.1 = k)) = (valV kvs k).isSome
  | [] => rfl
  | p :: r => by
    rw [List.any_cons]
    by_cases e : p.1 = k
    · simp only [valV_pos e, decide_eq_true e, Bool.true_or, Option.isSome_some]
    · rw [valV_neg e, decide_eq_false e, Bool.false_or]; exact valV_any k r
theorem length_putK (kvs : List (κ × V)) (k : κ) (v : V) : (putK kvs k v).length ≤ kvs.length + 1 := by
  unfold putK
  split
  · rw [List.length_map]; omega
  · rw [List.length_append, List.length_cons, List.length_nil]; omega
theorem RelO.isSome_eq {o : Option V} {u : Option Value} (r : RelO o u) : o.isSome = u.isSome := by
  cases o with
  | none => cases u with
    | none => rfl
    | some _ => exact (show False from r).elim
  | some _ => cases u with
    | none => exact (show False from r).elim
    | some _ => rfl
/-- raw tables of the same keys -/
theorem KV.val {kvs : List (κ × V)} {vs : List (κ × Value)} (r : KV kvs vs) (k : κ) : RelO (valV kvs k) (valueAt vs k) := by
  unfold KV at r
  induction r with
  | nil => exact True.intro
  | @cons p q ps qs h t ih =>
    obtain ⟨h1, h2⟩ := h
    by_cases e : p.1 = k
    · have e' : q.1 = k := h1.symm.trans e
      have b : valueAt (q :: qs) k = some q.2 := by simp [valueAt, List.find?_cons, e']
      rw [valV_pos e, b]; exact h2
    · have e' : ¬ q.1 = k := fun z => e (h1.trans z)
      have b : valueAt (q :: qs) k = valueAt qs k := by simp [valueAt, List.find?_cons, e']
      rw [valV_neg e, b]; exact ih
theorem KV.any {kvs : List (κ × V)} {vs : List (κ × Value)} (r : KV kvs vs) (k : κ) : (kvs.any fun kv => decide (kv.1 = k)) = vs.any fun kv => decide (kv.1 = k) := by
  unfold KV at r
  induction r with
  | nil => rfl
  | cons h t ih => rw [List.any_cons, List.any_cons, ih, h.1]
theorem KV.repl {kvs : List (κ × V)} {vs : List (κ × Value)} (r : KV kvs vs) (k : κ) {y : V} {u : Value} (ry : RelV y u) :
    KV (kvs.map fun kv => if kv.1 = k then (kv.1, y) else kv) (vs.map fun kv => if kv.1 = k then (kv.1, u) else kv) := by
  unfold KV at r ⊢
  induction r with
  | nil => exact .nil
  | @cons p q ps qs h t ih =>
    rw [List.map_cons, List.map_cons]
    refine .cons ?_ ih
    obtain ⟨h1, h2⟩ := h
    by_cases e : p.1 = k
    · rw [if_pos e, if_pos (h1.symm.trans e)]; exact ⟨h1, ry⟩
    · rw [if_neg e, if_neg (fun z => e (h1.trans z))]; exact ⟨h1, h2⟩
theorem KV.put {kvs : List (κ × V)} {vs : List (κ × Value)} (r : KV kvs vs) (k : κ) {y : V} {u : Value} (ry : RelV y u) : KV (putK kvs k y) (stored vs k u) := by
  unfold putK stored
  rw [r.any k]
  by_cases e : (vs.any fun kv => decide (kv.1 = k)) = true
  · rw [if_pos e, if_pos e]; exact r.repl k ry
  · rw [if_neg e, if_neg e]; exact Paired.snoc r ⟨rfl, ry⟩
theorem KV.length {kvs : List (κ × V)} {vs : List (κ × Value)} (r : KV kvs vs) : kvs.length = vs.length := Paired.length r
end


/-! ### a tracked dict, its keys ints and texts or tuples of these -/
theorem kV_is {P : Program} {w : World} {k : Key} {u : Value} (r : RelV (kV k) u) : (mixKind P w).is k u = true := by
  cases k with
  | inl i => obtain ⟨t, e⟩ := (show ∃ t, u = Value.int i t from r); subst e; exact mixKind_int P w i t
  | inr x => obtain ⟨t, e⟩ := (show ∃ t, u = Value.str x t from r); subst e; exact mixKind_str P w x t
theorem items_are {P : Program} {w : World} : ∀ {ks : List Key} {us : List Value}, Vals (ks.map kV) us → ItemsAre (mixKind P w) ks us
  | [], _, r => by rw [List.map_nil] at r; cases r; exact .nil
  | k :: ks, _, r => by
    rw [List.map_cons] at r
    cases r with
    | cons h t => exact .cons (kV_is h) (items_are t)

/-- raw entries of a dict with tuple keys -/
abbrev KT (H : Hp) : List (List Key × V) → List (List Key × Addr × Value) → Prop := Paired fun p q => p.1 = q.1 ∧ H q.2.1 = some (.tup (p.1.map kV)) ∧ RelV p.2 q.2.2
theorem KT.val {H : Hp} {kvs : List (List Key × V)} {xs : List (List Key × Addr × Value)} (r : KT H kvs xs) (k : List Key) : RelO (valV kvs k) ((atKey xs k).map (·.2)) := by
  induction r with
  | nil => exact True.intro
  | @cons p q ps qs h t ih =>
    obtain ⟨h1, _, h2⟩ := h
    by_cases e : p.1 = k
    · have e' : q.1 = k := h1.symm.trans e
      have b : atKey (q :: qs) k = some q.2 := by simp [atKey, List.find?_cons, e']
      rw [valV_pos e, b]; exact h2
    · have e' : ¬ q.1 = k := fun z => e (h1.trans z)
      have b : atKey (q :: qs) k = atKey qs k := by simp [atKey, List.find?_cons, e']
      rw [valV_neg e, b]; exact ih
theorem KT.repl {H : Hp} {kvs : List (List Key × V)} {xs : List (List Key × Addr × Value)} (r : KT H kvs xs) (k : List Key) {y : V} {u : Value} (ry : RelV y u) :
    KT H (kvs.map fun kv => if kv.1 = k then (kv.1, y) else kv) (xs.map (putAt k u)) := by
  induction r with
  | nil => exact .nil
  | @cons p q ps qs h t ih =>
    rw [List.map_cons, List.map_cons]
    refine .cons ?_ ih
    obtain ⟨h1, h2, h3⟩ := h
    unfold putAt
    by_cases e : p.1 = k
    · rw [if_pos e, if_pos (h1.symm.trans e)]; exact ⟨h1, h2, ry⟩
    · rw [if_neg e, if_neg (fun z => e (h1.trans z))]; exact ⟨h1, h2, h3⟩
theorem KT.put {H : Hp} {kvs : List (List Key × V)} {xs : List (List Key × Addr × Value)} (r : KT H kvs xs) (k : List Key) {b : Addr} {y : V} {u : Value} (hb : H b = some (.tup (k.map kV))) (ry : RelV y u) :
    KT H (putK kvs k y) (storedH xs k b u) := by
  have e : (kvs.any fun kv => decide (kv.1 = k)) = (atKey xs k).isSome := by
    rw [valV_any, (r.val k).isSome_eq, Option.isSome_map]
  unfold putK storedH
  rw [e]
  by_cases q : (atKey xs k).isSome = true
  · rw [if_pos q, if_pos q]; exact r.repl k ry
  · rw [if_neg q, if_neg q]; exact Paired.snoc r ⟨rfl, hb, ry⟩
theorem KT.keeps {H H' : Hp} {kvs : List (List Key × V)} {xs : List (List Key × Addr × Value)} (r : KT H kvs xs) (ht : ∀ b ys, H b = some (.tup ys) → H' b = some (.tup ys)) : KT H' kvs xs :=
  Paired.mapP r fun _ _ z => ⟨z.1, ht _ _ z.2.1, z.2.2⟩

section
variable {P : Program} {w : World} {H : Hp} {h : Heap} {a : Addr}
theorem rd_of {u : HO} (ok : HOk P w H h) (e : Rd H a u) : ObjOk P w H h a u := e.ok ok
theorem dk_rd {kvs : List (Key × V)} (ok : HOk P w H h) (e : Rd H a (.dK kvs)) : kvs.length ≤ sizeLine ∧ (a == sysModules) = false ∧ ∃ vs, KV kvs vs ∧ h.DictOf (mixKind P w) a vs :=
  show ObjOk P w H h a (.dK kvs) from rd_of ok e
theorem dk_of {kvs : List (Key × V)} (ok : HOk P w H h) (e : H a = some (.dK kvs)) : kvs.length ≤ sizeLine ∧ (a == sysModules) = false ∧ ∃ vs, KV kvs vs ∧ h.DictOf (mixKind P w) a vs := dk_rd ok (.inl e)
/-- a tracked tuple of ints and texts is a key -/
theorem key_of {ks : List Key} (ok : HOk P w H h) (e : H a = some (.tup (ks.map kV))) : (tupleKind (mixKind P w)).is h ks a := by
  obtain ⟨_, its, r, o, h1, h2, n, h3⟩ := (show ObjOk P w H h a (.tup (ks.map kV)) from ok a _ e)
  exact ⟨o, its.toArray, n, h1, h2, h3, by simpa using items_are r⟩
theorem dt_rd {kvs : List (List Key × V)} (ok : HOk P w H h) (e : Rd H a (.dT kvs)) : kvs.length ≤ sizeLine ∧ (a == sysModules) = false ∧
    ∃ xs, KT H kvs xs ∧ h.DictOfH (tupleKind (mixKind P w)) a xs := by
  obtain ⟨z, y, xs, r, o, es, ep, h1, h2, h3, h4, h5⟩ := (show ObjOk P w H h a (.dT kvs) from rd_of ok e)
  refine ⟨z, y, xs, r, o, es, ep, h1, h2, h3, h4, fun x hx => ?_, h5⟩
  have all : ∀ {l : List (List Key × V)} {m : List (List Key × Addr × Value)}, KT H l m → ∀ x ∈ m, (tupleKind (mixKind P w)).is h x.1 x.2.1 := by
    intro l m q
    induction q with
    | nil => intro x hx; exact nomatch hx
    | @cons p q ps qs hq t ih =>
      intro x hx
      rcases List.mem_cons.mp hx with e | hx
      · subst e
        exact key_of ok (by rw [← hq.1]; exact hq.2.1)
      · exact ih x hx
  exact all r x hx
theorem dt_of {kvs : List (List Key × V)} (ok : HOk P w H h) (e : H a = some (.dT kvs)) : kvs.length ≤ sizeLine ∧ (a == sysModules) = false ∧
    ∃ xs, KT H kvs xs ∧ h.DictOfH (tupleKind (mixKind P w)) a xs := dt_rd ok (.inl e)
end

/-- what the dict at a holds at the key y -/
def DGet (H : Hp) (a : Addr) (y : V) (r : Option V) : Prop :=
  (∃ kvs k, Rd H a (.dK kvs) ∧ y = kV k ∧ r = valV kvs k) ∨ ∃ kvs k b, Rd H a (.dT kvs) ∧ y = .ref b ∧ H b = some (.tup (k.map kV)) ∧ r = valV kvs k
/-- the heap behind a[y] = v -/
def DPut (H : Hp) (a : Addr) (y v : V) (H' : Hp) : Prop :=
  (∃ kvs k, H a = some (.dK kvs) ∧ y = kV k ∧ kvs.length < sizeLine ∧ H' = upd H a (.dK (putK kvs k v))) ∨
  ∃ kvs k b, H a = some (.dT kvs) ∧ y = .ref b ∧ H b = some (.tup (k.map kV)) ∧ kvs.length < sizeLine ∧ H' = upd H a (.dT (putK kvs k v))
theorem DGet.k {H : Hp} {a : Addr} {kvs : List (Key × V)} {k : Key} (e : H a = some (.dK kvs)) : DGet H a (kV k) (valV kvs k) := .inl ⟨kvs, k, .inl e, rfl, rfl⟩
theorem DPut.k {H : Hp} {a : Addr} {kvs : List (Key × V)} {k : Key} {v : V} (e : H a = some (.dK kvs)) (hl : kvs.length < sizeLine) : DPut H a (kV k) v (upd H a (.dK (putK kvs k v))) := .inl ⟨kvs, k, e, rfl, hl, rfl⟩
section
variable {X : Cx} {pins : List (Addr × Obj)} {σ : St} {H : Hp} {s : Shared} {a : Addr} {y v : V} {u r : Value} {o : Option V} {A : Around} {E : Value → Shared → Prop}

theorem Inv.big (I : Inv X pins σ H s) : sysModules < s.heap.objs.size := by
  have h : mainGlobals < s.heap.objs.size := (I.mod.glob.keeps I.bk).lt
  exact Nat.lt_trans (by decide) h

/-- d[y], there -/
theorem d_getItem {Q : Value → Shared → Prop} (hu : A.units + 1 < cLine) (I : Inv X pins σ H s) (g : DGet H a y (some v)) (ry : RelV y u) (h : ∀ w' s', Inv X pins σ H s' → RelV v w' → Q w' s') :
    wpAny (model X.prog X.w) A (getItem (.ref a) u) Q E s := by
  rcases g with ⟨kvs, k, e, ey, l⟩ | ⟨kvs, k, b, e, ey, eb, l⟩
  · subst ey
    obtain ⟨z, hd, vs, rel, dd⟩ := dk_rd I.hok e
    obtain ⟨w', hw, rw'⟩ := RelO.some_of (v := v) (o := valueAt vs k) (by rw [l]; exact rel.val k)
    exact wpAny_getItem_of (kV_is ry) dd.mapOf hw (h w' _ (I.tok _) rw')
  · subst ey
    cases (show u = Value.ref b from ry)
    obtain ⟨z, hd, xs, rel, dd⟩ := dt_rd I.hok e
    obtain ⟨w', hw, rw'⟩ := RelO.some_of (v := v) (o := (atKey xs k).map (·.2)) (by rw [l]; exact rel.val k)
    obtain ⟨p, hp, hp2⟩ := Option.map_eq_some_iff.mp hw
    refine wpAny_getItem_heap (tupleKind_room_in1 hu) (key_of I.hok eb) dd hp ?_
    rw [hp2]
    exact h w' _ (I.tok _) rw'
/-- a dict's object is replaced -/
theorem d_write {h' : Heap} {t' : Nat} {ob : HO} (I : Inv X pins σ H s) (mu : Mut (H a)) (hs : Heap.SameBut a s.heap h') (he : ∃ q, h'.get? a = some q) (new : ObjOk X.prog X.w (upd H a ob) h' a ob) :
    Inv X pins σ (upd H a ob) { s with heap := h', toks := t' } :=
  I.write (x := a) (e := a) mu (.inl rfl) (fun b q hb z => (hs.2 b hb).trans z) he new
theorem dk_new {P : Program} {w : World} {H' : Hp} {h' : Heap} {kvs : List (Key × V)} {vs : List (Key × Value)} (z : kvs.length ≤ sizeLine) (hd : (a == sysModules) = false) (rel : KV kvs vs) (dd : h'.DictOf (mixKind P w) a vs) :
    ObjOk P w H' h' a (.dK kvs) := ⟨z, hd, vs, rel, dd⟩
/-- d[y] = v -/
theorem d_setItem {H' : Hp} {Q : Unit → Shared → Prop} (hu : A.units + 1 < cLine) (I : Inv X pins σ H s) (g : DPut H a y v H') (ry : RelV y u) (rv : RelV v r) (h : ∀ s', Inv X pins σ H' s' → Q () s') :
    wpAny (model X.prog X.w) A (setItem (.ref a) u r) Q E s := by
  rcases g with ⟨kvs, k, e, ey, l, eH⟩ | ⟨kvs, k, b, e, ey, eb, l, eH⟩
  · subst ey eH
    obtain ⟨z, hd, vs, rel, dd⟩ := dk_of I.hok e
    have hz : vs.length ≤ sizeLine := by rw [← rel.length]; exact z
    have hl : (putK kvs k v).length ≤ sizeLine := by have := length_putK kvs k v; omega
    refine wpAny_setItem_pairs (hsz := hz) (kV_is ry) dd fun h' dd' hs => h _ ?_
    have he : ∃ q, h'.get? a = some q := let ⟨q, _, _, hq, _⟩ := dd'; ⟨q, hq⟩
    exact d_write I (by rw [e]; exact True.intro) hs he (dk_new hl hd (rel.put k rv) dd')
  · subst ey eH
    cases (show u = Value.ref b from ry)
    obtain ⟨z, hd, xs, rel, dd⟩ := dt_of I.hok e
    have hz : xs.length ≤ sizeLine := by rw [← Paired.length rel]; exact z
    have hl : (putK kvs k v).length ≤ sizeLine := by have := length_putK kvs k v; omega
    refine wpAny_setItem_heap (hsz := hz) (tupleKind_room_in1 hu) (key_of I.hok eb) dd fun h' dd' hs => h _ ?_
    obtain ⟨q, es, ep, hq, h2, h3, h4, _, h5⟩ := dd'
    refine d_write I (by rw [e]; exact True.intro) hs ⟨q, hq⟩ ⟨hl, hd, _, (rel.put k eb rv).keeps fun c ys ec => ?_, q, es, ep, hq, h2, h3, h4, h5⟩
    rw [upd_ne (ne_of ec e (fun z => nomatch z))]
    exact ec
end

section
variable {X : Cx} {pins : List (Addr × Obj)} {σ : St} {H : Hp} {s : Shared} {a : Addr} {kvs : List (Key × V)} {k : Key} {u : Value} {A : Around} {E : Value → Shared → Prop}
end


/-! ### readings and rules -/
/-- the element of a subscription, not a slice -/
def NoSl (i : Expr) : Prop := ∀ ov iv, subscripted i false ov iv = operate [ov, iv] (getItem ov iv)
theorem subD_of {prog : Program} {w : World} {A : Around} {E : Value → Shared → Prop} {s : Shared} {env : Env} {value slice : Expr} {pos : Pos} {T id : String} {Q : Value → Shared → Prop}
    (hl : typeLookup (.type T) "__getitem__" = pure (some (.builtin id))) (hs : NoSl slice)
    (h : wpAny (model prog w) A (eval value env) (fun o s₁ => wpAny (model prog w) A (eval slice env) (fun i s₂ => s₂.TypeIs o T ∧ wpAny (model prog w) A (getItem o i) Q E s₂) E s₁) E s) :
    wpAny (model prog w) A (eval (.Subscript value slice pos) env) Q E s := by
  refine Subscript_ (wpAny_mono h (fun o s₁ h₁ => wpAny_mono h₁ (fun i s₂ h₂ => ?_) fun _ _ x => x) fun _ _ x => x)
  obtain ⟨hT, h₂⟩ := h₂
  unfold subscriptTail
  refine wpAny_bind ?_
  rw [getitemInPython_of_ne hT.not_modules]
  refine wpAny_bind (wpAny_specialOf hT hl ?_)
  have fin : wpAny (model prog w) A (subscripted slice false o i) (fun r s₃ => wpAny (model prog w) A (letTemporaryGo value o r >>= fun _ => pure r) Q E s₃) E s₂ := by
    rw [hs o i]
    exact wpAny_operating (wpAny_mono h₂ (fun r s₃ h₃ => wpAny_bind (wpAny_letTemporaryGo (wpAny_pure h₃))) fun _ _ x => x)
  first
    | exact wpAny_pure (wpAny_bind fin)
    | exact wpAny_bind (wpAny_pure (wpAny_bind fin))
    | exact wpAny_bind fin

theorem dict_typeIs {X : Cx} {pins : List (Addr × Obj)} {σ : St} {H : Hp} {s : Shared} {a : Addr} {y : V} {o : Option V} (I : Inv X pins σ H s) (g : DGet H a y o) : s.TypeIs (.ref a) "dict" := by
  rcases g with ⟨kvs, k, e, _, _⟩ | ⟨kvs, k, b, e, _, _, _⟩
  · obtain ⟨_, _, vs, _, dd⟩ := dk_rd I.hok e
    exact dd.typeIs
  · obtain ⟨_, _, xs, _, dd⟩ := dt_rd I.hok e
    exact dd.typeIs
/-- d[y] -/
def tDGet (td ty : TE) : TE := fun σ H Q => td σ H fun x H1 => ty σ H1 fun y H2 => ∃ a v, x = .ref a ∧ DGet H2 a y (some v) ∧ Q v H2
/-- d[y] = v -/
def sDPut (td ty tv : TE) : TS := fun D σ H => tv σ H fun v H1 => td σ H1 fun x H2 => ty σ H2 fun y H3 => ∃ a H4, x = .ref a ∧ DPut H3 a y v H4 ∧ D.nx σ H4
section
variable {X : Cx} {o i e value : Expr} {pos pos' tpos : Pos} {td ty tv : TE}
theorem pe_dget (hu : X.A.units + 1 < cLine) (ho : PE X o td) (hi : PE X i ty) (hs : NoSl i) : PE X (.Subscript o i pos) (tDGet td ty) := by
  intro pins s σ H Q I h
  refine subD_of PySem.F.slot_dict_getitem.lookup hs (thn (ho pins s σ H _ I h) fun u s1 ⟨x, H1, I1, rx, q1⟩ => thn (hi pins s1 σ H1 _ I1 q1) fun iv s2 ⟨y, H2, I2, ry, a, v, ex, g, q2⟩ => ?_)
  subst ex
  obtain rfl : u = Value.ref a := rx
  exact ⟨dict_typeIs I2 g, d_getItem hu I2 g ry fun w' s3 I3 rw' => ⟨v, H2, I3, rw', q2⟩⟩
theorem ps_dput (hu : X.A.units + 1 < cLine) (ho : PE X o td) (hi : PE X i ty) (hv : PE X value tv) (hs : swapsWith value (some (.Subscript o i pos')) pos.line X.env = pure false) :
    PS X (.Assign [.Subscript o i pos'] value pos) (sDPut td ty tv) := by
  intro pins s σ H D I h
  refine wpAny_Assign_Subscript (thn (hv pins s σ H _ I h) fun r s1 ⟨v, H1, I1, rv, q1⟩ => thn (ho pins s1 σ H1 _ I1 q1) fun u s2 ⟨x, H2, I2, rx, q2⟩ => thn (hi pins s2 σ H2 _ I2 q2) fun iv s3 ⟨y, H3, I3, ry, a, H4, ex, g, q3⟩ => ?_) hs
  subst ex
  obtain rfl : u = Value.ref a := rx
  exact d_setItem hu I3 g ry rv fun s4 I4 => ⟨σ, H4, I4, q3⟩
end


/-! ### displays -/
theorem dk_empty {P : Program} {w : World} {H : Hp} (h : Heap) (hb : sysModules < h.objs.size) : ObjOk P w H (h.push { cls := .type "dict", data := .dict #[] }) h.objs.size (.dK []) :=
  ⟨Nat.zero_le _, beq_eq_false_iff_ne.mpr (Ne.symm (Nat.ne_of_lt hb)), [], .nil, Heap.DictOf.new h⟩
section
variable {X : Cx} {pos : Pos}
end

/-- the pairs of a display, from the left -/
def tPairs : List (TE × TE) → St → Hp → (List (V × V) → Hp → Prop) → Prop
  | [], _, H, Q => Q [] H
  | (tk, tv) :: r, σ, H, Q => tk σ H fun x H1 => tv σ H1 fun y H2 => tPairs r σ H2 fun ps H3 => Q ((x, y) :: ps) H3
abbrev VV : List (V × V) → List (Value × Value) → Prop := Paired fun p q => RelV p.1 q.1 ∧ RelV p.2 q.2
def PPs (X : Cx) (pos : Pos) (keys : List (Option Expr)) (values : List Expr) (trs : List (TE × TE)) : Prop :=
  ∀ (pins : List (Addr × Obj)) (s : Shared) (σ : St) (H : Hp) (Q : List (V × V) → Hp → Prop), Inv X pins σ H s → tPairs trs σ H Q →
    wpAny (model X.prog X.w) X.A (evalPairs (pairTrees keys values X.env pos)) (fun vs s' => ∃ ps H', Inv X pins σ H' s' ∧ VV ps vs ∧ Q ps H') X.xe s
theorem pps_nil {X : Cx} {pos : Pos} : PPs X pos [] [] [] := fun pins s σ H Q I h => pairTrees_nil_walk ⟨[], H, I, .nil, h⟩
theorem pps_cons {X : Cx} {pos : Pos} {k v : Expr} {ks : List (Option Expr)} {vs : List Expr} {tk tv : TE} {trs : List (TE × TE)} (hk : PE X k tk) (hv : PE X v tv) (hr : PPs X pos ks vs trs) :
    PPs X pos (some k :: ks) (v :: vs) ((tk, tv) :: trs) := fun pins s σ H Q I h =>
  pairTrees_cons_walk (thn (hk pins s σ H _ I h) fun u s1 ⟨x, H1, I1, rx, q1⟩ => thn (hv pins s1 σ H1 _ I1 q1) fun w2 s2 ⟨y, H2, I2, ry, q2⟩ =>
    thn (hr pins s2 σ H2 _ I2 q2) fun ws s3 ⟨ps, H3, I3, rel, q3⟩ => ⟨(x, y) :: ps, H3, I3, .cons ⟨rx, ry⟩ rel, q3⟩)

def mergeK (kvs more : List (Key × V)) : List (Key × V) := more.foldl (fun acc kv => putK acc kv.1 kv.2) kvs
theorem KV.merge : ∀ {more : List (Key × V)} {rs : List (Key × Value)} {kvs : List (Key × V)} {vs : List (Key × Value)}, KV more rs → KV kvs vs → KV (mergeK kvs more) (merged vs rs) := by
  intro more rs kvs vs r
  unfold KV at r
  induction r generalizing kvs vs with
  | nil => intro q; exact q
  | @cons p q ps qs h t ih =>
    intro r0
    have e : KV (putK kvs p.1 p.2) (stored vs q.1 q.2) := by
      have := r0.put p.1 h.2
      rw [← h.1]; exact this
    exact ih e
theorem length_mergeK : ∀ (more kvs : List (Key × V)), (mergeK kvs more).length ≤ kvs.length + more.length
  | [], kvs => by show kvs.length ≤ kvs.length + 0; omega
  | p :: r, kvs => by
    have h1 := length_mergeK r (putK kvs p.1 p.2)
    have h2 := length_putK kvs p.1 p.2
    show (mergeK (putK kvs p.1 p.2) r).length ≤ _
    rw [List.length_cons]; omega
theorem carries_of {P : Program} {w : World} : ∀ {kvs : List (Key × V)} {ws : List (Value × Value)}, VV (kvs.map fun kv => (kV kv.1, kv.2)) ws → ∃ rs, Carries (mixKind P w) ws rs ∧ KV kvs rs
  | [], _, r => by rw [List.map_nil] at r; cases r; exact ⟨[], True.intro, .nil⟩
  | p :: kvs, _, r => by
    rw [List.map_cons] at r
    cases r with
    | @cons a b as bs h t =>
      obtain ⟨rs, c, q⟩ := carries_of (P := P) (w := w) t
      obtain ⟨b1, b2⟩ := b
      exact ⟨(p.1, b2) :: rs, ⟨kV_is h.1, rfl, c⟩, .cons ⟨rfl, h.2⟩ q⟩
/-- {k: v, ..} with keys ints and texts; the new dict stands empty while the pairs are made -/
def tDisp (trs : List (TE × TE)) : TE := fun σ H Q => ∀ p, H p = none → tPairs trs σ (upd H p (.dK [])) fun ps H2 => H2 p = some (.dK []) ∧ ∃ kvs : List (Key × V), ps = kvs.map (fun kv => (kV kv.1, kv.2)) ∧ kvs.length ≤ 15 ∧ Q (.ref p) (upd H2 p (.dK (mergeK [] kvs)))
theorem pe_disp {X : Cx} {pos : Pos} {keys : List (Option Expr)} {values : List Expr} {trs : List (TE × TE)} (h : PPs X pos keys values trs) (hall : keys.all (·.isSome) = true) (hl : keys.length = values.length) (h0 : keys ≠ [])
    (h15 : keys.length ≤ 15) : PE X (.Dict keys values pos) (tDisp trs) := by
  intro pins s σ H Q I q
  have hn := I.hok.fresh (Nat.le_refl s.heap.objs.size)
  have I1 := I.laid (a := s.heap.objs.size) (o := .dK []) (h' := s.heap.push { cls := .type "dict", data := .dict #[] }) (t' := s.toks) (fun _ _ q => Heap.get?_push_of_some _ q) (Nat.le_refl _) (dk_empty s.heap I.big)
  refine wpAny_Dict_walk (knd := mixKind X.prog X.w) hall hl h0 h15 (thn (h pins _ σ _ _ I1 (q _ hn)) fun ws s2 ⟨ps, H2, I2, rel, e, kvs, ep, lk, q2⟩ => ?_)
  subst ep
  obtain ⟨rs, c, rk⟩ := carries_of (P := X.prog) (w := X.w) rel
  obtain ⟨z, hd, vs0, r0, dd⟩ := dk_of I2.hok e
  cases r0
  refine ⟨rs, c, dd, fun h' dd' hs => ⟨.ref s.heap.objs.size, _, ?_, rfl, q2⟩⟩
  have hz : (mergeK [] kvs).length ≤ sizeLine := by
    have h1 := length_mergeK kvs []
    rw [List.length_nil] at h1
    rw [sizeLine_eq]; omega
  have he : ∃ q, h'.get? s.heap.objs.size = some q := let ⟨q, _, _, hq, _⟩ := dd'; ⟨q, hq⟩
  exact d_write I2 (by rw [e]; exact True.intro) hs he (dk_new hz hd (rk.merge .nil) dd')


/-! ### methods -/
section
variable {X : Cx} {pins : List (Addr × Obj)} {σ : St} {H : Hp} {s : Shared} {a : Addr} {y d : V} {u r : Value} {o : Option V} {A : Around} {E : Value → Shared → Prop}
end

section
variable {X : Cx} {o e f : Expr} {apos cpos : Pos} {td ty tx : TE}
end

/-! ### dict(d): a copy -/
section
variable {X : Cx} {pins : List (Addr × Obj)} {σ : St} {H : Hp} {s : Shared} {a : Addr} {kvs : List (Key × V)} {A : Around} {E : Value → Shared → Prop}
end


section
variable {X : Cx} {pins : List (Addr × Obj)} {σ : St} {H : Hp} {s : Shared} {a : Addr} {y : V} {u : Value} {A : Around} {E : Value → Shared → Prop}
end
end L2

namespace Att
open PySem PySem.W PySem.Calls PyProof.Rows

/-! ### the script -/
theorem ints_of_wellAll {P : Params} {h : Heap} : ∀ (ns : List Int) (vs : List Value), WellAll P h vs (ns.map WData.int) → IntsAre vs ns := by
  intro ns
  induction ns with
  | nil =>
    intro vs w
    rw [List.map_nil] at w
    cases w
    exact .nil
  | cons n ns ih =>
    intro vs w
    rw [List.map_cons] at w
    cases w with
    | cons a b =>
      cases a
      exact .cons _ _ (ih _ b)

theorem script_of {l : OpenLaw} {n : Nat} (hn : l.most = some n) {P : Params} {h : Heap} {args : List WData} {vals : List Value}
    (hpre : l.row.toRowW.claim.pre args = true) (hwl : WellAll P h vals args) :
    ∃ a vs ns, vals = [Value.ref a] ∧ args = [WData.list (ns.map WData.int)] ∧ h.get? a = some { cls := .type "list", data := .seq vs.toArray } ∧ IntsAre vs ns ∧ ns.length ≤ n := by
  have hsh : WShape.hasAll [] args [.list .int] = true := (pre_splitW hpre).1
  have hc : l.pre.holds [] { args := args } = true := (pre_splitW hpre).2
  obtain ⟨d, r, rfl, h1, h2⟩ := hasAllW_cons hsh
  obtain rfl := hasAllW_nil h2
  obtain ⟨xs, rfl, h3⟩ := hasW_list h1
  obtain ⟨ns, rfl⟩ := items_int h3
  have hlen : ns.length ≤ n := by
    unfold OpenLaw.pre at hc
    have h4 : (WTm.not (.lt (.lit (.int (n : Int))) (.len (.arg 0)))).holds [] { args := [.list (ns.map .int)] } = true := by
      have h4 := (holds_andW hc).1
      rw [hn] at h4
      exact h4
    have h5 := condW_of h4 (w_not (w_lt w_lit (w_len_list (w_arg rfl))))
    rw [List.length_map] at h5
    refine Nat.le_of_not_lt fun q => ?_
    have q' : (n : Int) < ((ns.length : Nat) : Int) := by omega
    first
      | (rw [decide_eq_true q'] at h5; exact absurd h5 (by decide))
      | (simp at h5; omega)
  cases hwl with
  | cons w1 w2 =>
    cases w2
    cases w1 with
    | list ho hall => exact ⟨_, _, ns, rfl, rfl, ho, ints_of_wellAll ns _ hall, hlen⟩

theorem post_true (l : OpenLaw) (args : List WData) : l.row.toRowW.claim.post args (.bool true) args = true :=
  postW_of (r := l.row.toRowW) (X := (true == true))
    (show WShape.has [] (.bool true) .bool = true by first | rfl | decide | simp [WShape.has, WShape.arms, WShape.armsAll])
    (show (WTm.eq .res (.lit (.bool true))).value [] { args := args, res := some (.bool true), after := args } = some (.bool (true == true)) from w_eq_bool (w_res rfl) w_lit) rfl

/-! ### the attachment: holds_open's last premise (the goal 'hc' behind k_head) from a wpAny of the law's body -/
/-- the same from a codeAny of the CALL (for a layer whose function contracts speak of calls) -/
theorem attach_call {l : OpenLaw} {n : Nat} {q : Program} {loose : List Str} {XP : (Str → Option Value) → Heap → Prop} {YP : World → Heap → Prop} {d : DefRec}
    (hn : l.most = some n) (hdf : d.params.defaults = [])
    (call : ∀ (w : World) (s₀ s₁ : Shared) (mg mb : Str → Option Value) (fa : Addr) (o : Obj) (pm cd doc : Value) (a : Addr) (vs : List Value) (ns : List Int),
      Ground q loose [] XP w s₀ mg mb s₁.heap → YP w s₁.heap →
      s₁.heap.get? fa = some o → o.data = .func (docDef d.name d.params d.body d.scope pm cd doc) → s₁.heap.CodeRec cd d.name → mg d.name = some (.ref fa) →
      s₁.heap.get? a = some { cls := .type "list", data := .seq vs.toArray } → IntsAre vs ns → ns.length ≤ n → s₁.gens = #[] →
      codeAny (model l.prog w) callerA (.call (.ref fa) ⟨[.ref a], []⟩) (fun r s' => r = .ok (.ret (.bool true)) ∧ OldK s₁.heap s'.heap ∧ s'.os = s₁.os ∧ AllBare s'.gens) s₁) :
    WalkO q loose XP YP l.row.toRowW d [] (fun f vs => PySem.call f vs) := by
  intro w s₀ s₁ mg mb G Y fa o pm cd doc dV kV ho hd hcd hD hmg hg args vals as hpre hlay hrd hwl hlo
  obtain rfl : dV = .none := Dflts.none hD hdf
  obtain rfl : kV = .none := Dflts.noKw hD
  obtain ⟨a, vs, ns, rfl, rfl, hobj, hints, hlen⟩ := script_of hn hpre hwl
  refine enter_call (codeAny_mono (call w s₀ s₁ mg mb fa o pm cd doc a vs ns G Y ho (fd_plain hd) hcd hmg hobj hints hlen hg) fun r s' hq => ?_)
  obtain ⟨rfl, h2, h3, h4⟩ := hq
  exact ⟨.inl ⟨.bool true, .bool true, [], rfl, fun _ => rfl, .bool true, post_true l _, fun _ => ⟨List.Pairwise.nil, fun _ hm => (nomatch hm)⟩⟩, h2, h3, h4⟩

/-! ### rules over ANY heap (no ledger) from facts about the written part K: the library's own take a ledger (News) for what they write -/
section
variable {prog : Program} {w : World} {A : Around} {E : Value → Shared → Prop} {s : Shared} {K : Frag}

/-! the whole heap as the ledger: makes every rule that writes through a ledger a rule over any heap -/
end
end Att

namespace L2
open PySem PySem.Spec PyProof.Rows

theorem vals_ints : ∀ {vs : List Value} {ns : List Int}, IntsAre vs ns → Vals (ns.map V.int) vs
  | _, _, .nil => .nil
  | _, _, .cons n t h => .cons ⟨t, rfl⟩ (vals_ints h)

end L2

namespace L2
open PySem PySem.Spec PyProof.Rows

end L2

/- THE LAST THEOREM (shape; LID, My.* are yours):
   My.Adr: a structure of the addresses that your layer names (classes, functions); My.Txt K t: a structure (Prop) of the equations over K;
   My.txt_mk : {K} {implicit addresses ..} (e1 : nsIn K mainGlobals "law" = some (some (.ref f))) (e2 : K.lookup f = some ⟨oc, od, .func (fnOf "law" "law" params body scope dV kV doc pm an cdv ct), sl⟩) (e3 : codeIn K cdv "law" = true) .. : ∃ t, My.Txt K t

set_option maxRecDepth 100000 in
set_option maxHeartbeats 0 in
theorem PySem.Challenge.cw_LID_holds : PySem.Challenge.rw_LID.Holds := by
  w_on; o_law; k_head; (case hw => w_witness2)
  k_fill
  refine L2.walk_of (l := PySem.Challenge.rw_LID) (n := 63) (k := 40) (x := "script") (CX := fun w => ..) (sp := fun _ => My.sp_law) rfl (by decide) rfl ⟨rfl, by decide, by decide⟩ (fun w h Y => PySem.W.kIn_of Y) ?F ?S ?C
  case F =>
    intro w mg fa h KX G hmg
    have T : ∃ t, My.Txt (L2.KOf KX) t := by
      dsimp only [L2.KOf]                          -- K must stand as «<heap const> w.params» for k_is
      refine' My.txt_mk ?e1 ?e2 ?e3 ..
      (case e1 => PySem.W.k_is)                    -- in the order: a name -> its address -> its object -> its parts
      (case e2 => PySem.W.k_is)
      ..
    obtain ⟨t, T⟩ := T
    have e0 := hmg.symm.trans (PySem.W.mg_of KX G T.law)
    cases e0                                       -- fa is the law's own address
    exact ⟨_, fun s u => .of_eq rfl, fun base kb nb => My.law_fn T kb nb⟩     -- if «.of_eq rfl» comes too early: refine' ⟨_, ?b, fun base kb nb => My.law_fn T kb nb⟩; exact fun s u => .of_eq rfl
  case S => exact fun w H a ns hl hO hS => ..
  case C => exact ..
(the tactic k_is has no namespace: write k_is) -/

/-! SHORT WORDS over the layer: a def of the text, its body, what a loop and a test want. -/
namespace L2
open PySem PySem.Spec PyProof.Rows

/-! ### the text by places -/
/-- the j-th statement of a class's body -/
def inClass (s : Stmt) (j : Nat) : Stmt := match s with
  | .ClassDef _ _ _ body _ _ _ _ _ _ _ => body.getD j (.Pass ⟨0, 0, 0, 0⟩)
  | _ => .Pass ⟨0, 0, 0, 0⟩
def defArgs (s : Stmt) : Arguments := match s with
  | .FunctionDef _ a _ _ _ _ _ _ _ _ => a
  | _ => { posonlyargs := [], args := [], vararg := none, kwonlyargs := [], kw_defaults := [], kwarg := none, defaults := [] }
def defBody (s : Stmt) : List Stmt := match s with
  | .FunctionDef _ _ b _ _ _ _ _ _ _ => b
  | _ => []
def defScope (s : Stmt) : Scope := match s with
  | .FunctionDef _ _ _ _ _ _ sc _ _ _ => sc
  | _ => { kind := .function, names := [], isGenerator := false, isCoroutine := false }

/-! ### no exception leaves a def -/
abbrev CX0 : CXT := fun _ _ _ _ _ _ => False
abbrev E0 : XK := fun _ _ _ => False
theorem pass0 {X : Cx} : Passes CX0 X E0 := fun _ _ _ _ _ _ _ h => h.elim

/-! ### a def (or method) of the text as it stands behind the top -/
structure Fun (K : PySem.W.Frag) (x qual : Str) (st : Stmt) (f : Addr) (fd : FuncData) : Prop where
  ex : ∃ (oc : Value) (od : Option Addr) (kV doc pm : Value) (an : Option Addr) (cdv ct : Value) (osl : Array (Option Value)),
    fd = PySem.W.fnOf x qual (defArgs st) (defBody st) (defScope st) .none kV doc pm an cdv ct ∧ K.lookup f = some ⟨oc, od, .func fd, osl⟩ ∧ PySem.W.codeIn K cdv qual = true
  kp : PySem.W.keepIn K (.ref f) = true
section
variable {P : Program} {w : World} {K : PySem.W.Frag} {mg : Str → Option Value} {base : Heap}
/-- THE RULE for a def: its body as a term of rules, and the reading of that term -/
theorem Fun.ok {x qual : Str} {st : Stmt} {f : Addr} {fd : FuncData} {N ps : List Str} {k : Nat} {sp : Sp} (F : Fun K x qual st f fd) (S : FnScope N ps (defScope st)) (len : ∀ vs H Q E, sp vs H Q E → vs.length = ps.length)
    (hbody : ∀ (cdv : Value) (A : Around) (outer : List Env) (s : Shared) (H : Hp) (vs : List V) (Q : VK) (E : XK), Room k (A.deeper (envOfC qual (defScope st) s.heap.objs.size f cdv)) → sp vs H Q E →
      ∃ t, PSs (cxOf CX0 P w K mg base N qual (defScope st) f cdv A outer s H E).nox (defBody st) t ∧ t { nx := fun _ H' => Q .non H', rt := Q } (start N vs) H) : FnOk P w K mg base CX0 (k + 1) f fd ps sp := by
  obtain ⟨oc, od, kV, doc, pm, an, cdv, ct, osl, rfl, lk, hcd⟩ := F.ex
  refine fn_of lk hcd S len fun A outer s H vs Q E hr hsp => ?_
  obtain ⟨t, h, q⟩ := hbody cdv A outer s H vs Q E hr hsp
  exact ⟨t, h.nox, q⟩
/-- how its arguments bind (no defaults): h is «fun _ _ _ _ _ _ us hl => match us, hl with | [_, _], _ => rfl», one _ a parameter -/
theorem Fun.binds {x qual : Str} {st : Stmt} {f : Addr} {fd : FuncData} {ps : List Str} (F : Fun K x qual st f fd)
    (h : ∀ (kV doc pm : Value) (an : Option Addr) (cdv ct : Value) (us : List Value), us.length = ps.length → bindArgs (PySem.W.fnOf x qual (defArgs st) (defBody st) (defScope st) .none kV doc pm an cdv ct) ⟨us, []⟩ = pure (ps.zip us)) : Binds K fd ps [] := by
  obtain ⟨oc, od, kV, doc, pm, an, cdv, ct, osl, rfl, lk, hcd⟩ := F.ex
  exact .all (h kV doc pm an cdv ct)
theorem fun_mk {x qual : Str} {st : Stmt} {f : Addr} {oc : Value} {od an : Option Addr} {osl : Array (Option Value)} {kV doc pm cdv ct : Value} (l : K.lookup f = some ⟨oc, od, .func (PySem.W.fnOf x qual (defArgs st) (defBody st) (defScope st) .none kV doc pm an cdv ct), osl⟩)
    (c : PySem.W.codeIn K cdv qual = true) (k : PySem.W.keepIn K (.ref f) = true) : Fun K x qual st f (PySem.W.fnOf x qual (defArgs st) (defBody st) (defScope st) .none kV doc pm an cdv ct) := ⟨⟨oc, od, kV, doc, pm, an, cdv, ct, osl, rfl, l, c⟩, k⟩
end
theorem hu_of {A : Around} {k : Nat} (hr : Room k A) : A.units + 1 < cLine := Nat.lt_of_le_of_lt (Nat.add_le_add_left (by decide : 1 ≤ 64) _) hr.units
theorem small1000 {n : Nat} (h : n ≤ 1000) : n < sizeLine := Nat.lt_of_le_of_lt h (by decide)

/-! ### expressions in short: the name that stands in the i-th slot -/
section
variable {X : Cx}
theorem pv (i : Nat) {x : Str} {pos : Pos} (hN : X.N[i]? = some x := by rfl) (hv : Vis X.env.scope x := by first | exact Or.inl rfl | exact Or.inr (Or.inl rfl) | exact Or.inr (Or.inr rfl)) (hd : (x == ("__debug__" : Str)) = false := by decide)
    (hcd : (x == ("__classdict__" : Str)) = false := by decide) : PE X (.Name x pos) (tVar i) := pe_var hN hv hd hcd
end

/-! ### tests -/
theorem ite2 {c A B : Prop} [Decidable c] (h1 : c → A) (h2 : ¬ c → B) : if c then A else B := by
  by_cases h : c
  · rw [if_pos h]
    exact h1 h
  · rw [if_neg h]
    exact h2 h
/-! ### heaps -/
/-- all that was tracked is as it was -/
def Same (H H' : Hp) : Prop := ∀ b o, H b = some o → H' b = some o
theorem Same.refl (H : Hp) : Same H H := fun _ _ h => h
theorem Same.trans {H H1 H2 : Hp} (a : Same H H1) (b : Same H1 H2) : Same H H2 := fun c o h => b c o (a c o h)
theorem Same.free {H H' : Hp} (e : Same H H') {l : Addr} (h : H' l = Option.none) : H l = Option.none := by
  cases q : H l with
  | none => rfl
  | some o =>
    rw [e l o q] at h
    cases h
theorem Same.seq {K : PySem.W.Frag} {H H' : Hp} {a : Addr} {xs : List V} (e : Same H H') (h : SqL K H a xs) : SqL K H' a xs := by
  rcases h with (h | ⟨o, h⟩) | h
  · exact .inl (.inl (e _ _ h))
  · exact .inl (.inr ⟨o, e _ _ h⟩)
  · exact .inr h

end L2
namespace L2
open PySem PySem.Spec PyProof.Rows
section
variable {X : Cx}
end
/-! ### a dict's pairs: keys that differ -/
section
variable {κ : Type} [DecidableEq κ]
theorem nd_snoc : ∀ {l : List κ} {k : κ}, l.Nodup → ¬ k ∈ l → (l ++ [k]).Nodup
  | [], k, _, _ => by simp
  | a :: r, k, h, hk => by
    obtain ⟨h1, h2⟩ := List.nodup_cons.mp h
    show (a :: (r ++ [k])).Nodup
    refine List.nodup_cons.mpr ⟨fun m => ?_, nd_snoc h2 fun m => hk (List.mem_cons.mpr (Or.inr m))⟩
    rcases List.mem_append.mp m with q | q
    · exact h1 q
    · exact hk (List.mem_cons.mpr (Or.inl (List.mem_singleton.mp q).symm))
end
end L2

set_option Elab.async false
set_option linter.all false
set_option maxRecDepth 100000
set_option maxHeartbeats 4000000
namespace L2
open PySem PySem.Spec PyProof.Rows

/-! ### comprehensions -/
theorem closure_ok {env : Env} (scope : Scope) (h : ∀ y ∈ scope.names, y.2 = .free → ∃ c, env.cells.lookup y.1 = some c) :
    ∃ cl, closureFor scope env = pure cl ∧ (∀ x c, cl.lookup x = some c → env.cells.lookup x = some c) ∧ ∀ x, (x, NameKind.free) ∈ scope.names → ∃ c, cl.lookup x = some c := by
  have go : ∀ (names : List (Str × NameKind)) (acc : List (Str × Addr)), (∀ y ∈ names, y.2 = .free → ∃ c, env.cells.lookup y.1 = some c) → (∀ x c, acc.lookup x = some c → env.cells.lookup x = some c) →
      ∃ cl, (forIn names acc fun x cs => (match x with
        | (name, kind) => if kind == NameKind.free then (do let c ← cellOf env name; pure (ForInStep.yield ((name, c) :: cs))) else pure (ForInStep.yield cs) : Sem (ForInStep (List (Str × Addr))))) = pure cl ∧
        (∀ x c, cl.lookup x = some c → env.cells.lookup x = some c) ∧ (∀ x, (x, NameKind.free) ∈ names ∨ (∃ c, acc.lookup x = some c) → ∃ c, cl.lookup x = some c) := by
    intro names
    induction names with
    | nil => intro acc _ ha; exact ⟨acc, rfl, ha, fun x z => z.elim (fun q => nomatch q) id⟩
    | cons y r ih =>
      intro acc hy ha
      obtain ⟨n, k⟩ := y
      by_cases hk : k = .free
      · subst hk
        obtain ⟨c, hc⟩ := hy (n, .free) List.mem_cons_self rfl
        obtain ⟨cl, e, h1, h2⟩ := ih ((n, c) :: acc) (fun z hz => hy z (List.mem_cons_of_mem _ hz)) (fun x c' hx => by
          rw [List.lookup_cons] at hx
          by_cases q : x == n
          · rw [q] at hx
            cases hx
            rw [beq_iff_eq.mp q]; exact hc
          · rw [Bool.not_eq_true] at q
            rw [q] at hx
            exact ha x c' hx)
        refine ⟨cl, ?_, h1, fun x z => h2 x ?_⟩
        · rw [List.forIn_cons]
          simp only [beq_self_eq_true, if_true, cellOf, hc]
          exact e
        · have aux : ∀ x, (∃ c', acc.lookup x = some c') → ∃ c', ((n, c) :: acc).lookup x = some c' := fun x ⟨c', z⟩ => by
            rw [List.lookup_cons]
            by_cases q : x == n
            · rw [q]; exact ⟨_, rfl⟩
            · rw [Bool.not_eq_true] at q
              rw [q]; exact ⟨c', z⟩
          rcases z with z | z
          · rcases List.mem_cons.mp z with z | z
            · cases z
              exact .inr ⟨c, by rw [List.lookup_cons, beq_self_eq_true]⟩
            · exact .inl z
          · exact .inr (aux x z)
      · have hb : (k == NameKind.free) = false := by simpa using hk
        obtain ⟨cl, e, h1, h2⟩ := ih acc (fun z hz => hy z (List.mem_cons_of_mem _ hz)) ha
        refine ⟨cl, ?_, h1, fun x z => h2 x ?_⟩
        · rw [List.forIn_cons]
          simp only [hb, Bool.false_eq_true, if_false]
          exact e
        · rcases z with z | z
          · rcases List.mem_cons.mp z with z | z
            · cases z
              exact absurd rfl hk
            · exact .inl z
          · exact .inr z
  obtain ⟨cl, e, h1, h2⟩ := go scope.names [] h (fun x c z => by simp at z)
  refine ⟨cl, ?_, h1, fun x z => h2 x (.inl z)⟩
  unfold closureFor
  exact (congrArg (fun (m : Sem (List (Str × Addr))) => m >>= fun cs => pure cs) e).trans rfl

/-- the context of a comprehension's block -/
def cxComp (X : Cx) (scope : Scope) (N' : List Str) (cl : List (Str × Addr)) (C : Addr) (s₀ : Shared) (H₀ : Hp) (ex : List Addr) : Cx where
  prog := X.prog
  w := X.w
  K := X.K
  mg := X.mg
  base := X.base
  A := X.A
  N := N'
  s₀ := s₀
  H₀ := H₀
  env := compEnvC scope cl C X.env
  outer := X.stack
  stack := X.stack
  ex := ex
  fn := fun _ => false
  calm := X.calm
  pn := []
  xe := fun _ _ => False

/-- the block's slots at its start: its own names, then what it sees of the frame -/
def compSt (k : Nat) (js : List Nat) (σ : St) : St := List.replicate k none ++ js.map fun j => (σ[j]?).join
theorem compSt_len (k : Nat) (js : List Nat) (σ : St) : (compSt k js σ).length = k + js.length := by simp [compSt]

/-- how a comprehension's scope lies over a frame's: own names first, then names js of the frame -/
structure CompScope (X : Cx) (scope : Scope) (own : List Str) (js : List Nat) (N' : List Str) : Prop where
  kind : scope.kind = .function
  nocell : ∀ y ∈ scope.names, y.2 ≠ .cell
  names : ∀ y ∈ scope.names, y.2 = .local → scope.names.lookup y.1 = some .local
  free : ∀ y ∈ scope.names, y.2 = .free → X.env.kindOf y.1 = some .cell ∨ X.env.kindOf y.1 = some .free
  nm : N' = own ++ js.map fun j => X.N.getD j Str.empty
  fr : ∀ j ∈ js, j < X.N.length ∧ (X.N.getD j Str.empty, NameKind.free) ∈ scope.names ∧ ∀ k, (X.N.getD j Str.empty, k) ∈ scope.names → k = .free
theorem lookup_mem_free {names : List (Str × NameKind)} {x : Str} (h : (x, NameKind.free) ∈ names) (u : ∀ k, (x, k) ∈ names → k = .free) : names.lookup x = some .free := by
  induction names with
  | nil => cases h
  | cons y r ih =>
    obtain ⟨n, k⟩ := y
    rw [List.lookup_cons]
    by_cases q : x == n
    · rw [q]
      have e : x = n := beq_iff_eq.mp q
      subst e
      rw [u k List.mem_cons_self]
    · rw [Bool.not_eq_true] at q
      rw [q]
      refine ih ?_ fun k hk => u k (List.mem_cons_of_mem _ hk)
      rcases List.mem_cons.mp h with z | z
      · cases z
        rw [beq_self_eq_true] at q; cases q
      · exact z
theorem relabel_mem {scope : Scope} {env : Env} {x : Str} {k : NameKind} (h : (x, k) ∈ (relabel scope env).names) (hk : k = .cell ∨ k = .free) (hc : ∀ y ∈ scope.names, y.2 ≠ .cell) : (x, NameKind.free) ∈ scope.names := by
  unfold relabel at h
  obtain ⟨⟨n, k'⟩, hm, e⟩ := List.mem_map.mp h
  dsimp only at e
  by_cases q : (k' == NameKind.free && env.scope.kind == .function && env.kindOf n == some .cell) = true
  · rw [if_pos q] at e
    cases e
    rw [Bool.and_eq_true, Bool.and_eq_true] at q
    have : k' = .free := by simpa using q.1.1
    rw [← this]; exact hm
  · rw [if_neg q] at e
    cases e
    rcases hk with z | z
    · exact absurd z (hc _ hm)
    · rw [← z]; exact hm
theorem lookup_relabel_free {env : Env} {x : Str} : ∀ {names : List (Str × NameKind)}, names.lookup x = some .free →
    (names.map fun (n, k) => if (k == NameKind.free && env.scope.kind == .function && env.kindOf n == some .cell) then (n, NameKind.cell) else (n, k)).lookup x = some .cell ∨
    (names.map fun (n, k) => if (k == NameKind.free && env.scope.kind == .function && env.kindOf n == some .cell) then (n, NameKind.cell) else (n, k)).lookup x = some .free
  | [], h => by simp at h
  | (n, k) :: r, h => by
    have ih := @lookup_relabel_free env x r
    rw [List.lookup_cons] at h
    rw [List.map_cons]
    dsimp only
    by_cases q : x == n
    · rw [q] at h
      cases h
      by_cases c : (NameKind.free == NameKind.free && env.scope.kind == .function && env.kindOf n == some .cell) = true
      · rw [if_pos c, List.lookup_cons, q]; exact .inl rfl
      · rw [if_neg c, List.lookup_cons, q]; exact .inr rfl
    · rw [Bool.not_eq_true] at q
      rw [q] at h
      by_cases c : (k == NameKind.free && env.scope.kind == .function && env.kindOf n == some .cell) = true
      · rw [if_pos c, List.lookup_cons, q]; exact ih h
      · rw [if_neg c, List.lookup_cons, q]; exact ih h

section
variable {X : Cx} {pins : List (Addr × Obj)} {σ : St} {H : Hp} {s : Shared}
/-- the block's invariant at its start -/
theorem Inv.comp {scope : Scope} {own : List Str} {js : List Nat} {N' : List Str} {cl : List (Str × Addr)} {C : Addr} {h₁ : Heap} {tk : Nat} {fp : List Addr} {m : Str → Option Value} (S : CompScope X scope own js N') (I : Inv X pins σ H s)
    (hc1 : ∀ x c, cl.lookup x = some c → X.env.cells.lookup x = some c) (hc2 : ∀ x, (x, NameKind.free) ∈ scope.names → ∃ c, cl.lookup x = some c) (hC : s.heap.objs.size ≤ C) (hns : h₁.Ns C m) (hk : ∀ b o, s.heap.get? b = some o → h₁.get? b = some o)
    (hf : ∀ b ∈ fp, FpOk X pins H b ∧ b < s.heap.objs.size) (hHC : H C = none) (hfree : ∀ b o, s.heap.get? b = some o → b ≠ C) :
    Inv (cxComp X scope N' cl C s H fp) [] (compSt own.length js σ) H { s with heap := h₁, toks := tk } := by
  have ltx : ∀ b o, X.s₀.heap.get? b = some o → b ∉ X.ex → b ∉ fp := fun b o e hx hb => by
    rcases (hf b hb).1.2.2.2.1 with z | z
    · exact hx z
    · exact absurd (Nat.lt_of_lt_of_le (Heap.lt_size e) z) (Nat.lt_irrefl _)
  refine ⟨⟨I.ok.mod, S.kind, I.ok.glob, I.ok.blt, hC, fun x y c h1 h2 => I.ok.inj x y c (hc1 x c h1) (hc1 y c h2), fun x hx => ?_, fun x c z => (nomatch z), I.ok.hd, I.ok.frames, .inl rfl, fun b hb => ⟨Nat.ne_of_lt (Nat.lt_of_lt_of_le (hf b hb).2 hC), fun x c e => (hf b hb).1.2.2.2.2.1 x c (hc1 x c e)⟩, I.bs, Nat.le_trans I.ok.bsz I.sz, fun b o e => ltx b o (I.ok.bs b o e).1 (I.ok.noex b o e), fun b hb z => ?_, I.stack, I.stkFree⟩,
    rfl, I.bare, Un.kept hk, ⟨m, hns, fun i x v e1 e2 e3 => ?_⟩, fun x c e => ?_, hHC, fun x c e => I.freeC x c (hc1 x c e), fun p hp => absurd (show p ∈ ([] : List (Addr × Obj)) from hp) (by simp), I.hok.kept hk, ?_⟩
  · have hx' : (relabel scope X.env).names.lookup x = some .cell ∨ (relabel scope X.env).names.lookup x = some .free := hx
    rcases hx' with z | z
    · exact hc2 x (relabel_mem (PySem.mem_of_lookup z) (.inl rfl) S.nocell)
    · exact hc2 x (relabel_mem (PySem.mem_of_lookup z) (.inr rfl) S.nocell)
  · obtain ⟨_, f1, f2, _⟩ := (hf b hb).1
    rcases List.mem_cons.mp (I.stkSub b z) with q | q
    · exact f1 q
    · exact f2 q
  · -- a name that the block sees
    unfold compSt at e2
    by_cases hi : i < own.length
    · rw [List.getElem?_append_left (by simpa using hi), List.getElem?_replicate] at e2
      split at e2 <;> cases e2
    · rw [List.getElem?_append_right (by simpa using hi), List.length_replicate, List.getElem?_map] at e2
      cases ej : js[i - own.length]? with
      | none => rw [ej] at e2; cases e2
      | some j =>
        rw [ej] at e2
        have e2' : (σ[j]?).join = some v := by simpa using e2
        have hσ : σ[j]? = some (some v) := by
          cases q : σ[j]? with
          | none => rw [q] at e2'; cases e2'
          | some o => rw [q] at e2'; exact congrArg some e2'
        have hj := S.fr j (List.mem_of_getElem? ej)
        have hx : x = X.N.getD j Str.empty := by
          have e1' : N'[i]? = some x := e1
          rw [S.nm, List.getElem?_append_right (by omega), List.getElem?_map, ej] at e1'
          exact (Option.some.inj e1').symm
        have hN : X.N[j]? = some x := by
          rw [hx, List.getD_eq_getElem?_getD, List.getElem?_eq_getElem hj.1]; rfl
        have hfr : scope.names.lookup x = some .free := by rw [hx]; exact lookup_mem_free hj.2.1 hj.2.2
        have hkx := S.free (x, .free) (by rw [hx]; exact hj.2.1) rfl
        have hvis : Vis X.env.scope x := hkx.elim (fun z => .inr (.inl z)) fun z => .inr (.inr z)
        obtain ⟨mX, hnX, hlX⟩ := I.loc
        obtain ⟨u, r, l⟩ := hlX j x v hN hσ hvis
        refine ⟨u, r, .inr ⟨lookup_relabel_free hfr, ?_⟩⟩
        rcases l with ⟨z, _⟩ | ⟨_, c, hc, hcell⟩
        · rcases hkx with q | q
          · have := q.symm.trans z; cases this
          · have := q.symm.trans z; cases this
        · obtain ⟨c', hc'⟩ := hc2 x (by rw [hx]; exact hj.2.1)
          have : c' = c := Option.some.inj ((hc1 x c' hc').symm.trans hc)
          subst this
          obtain ⟨o, ho, hd⟩ := hcell
          exact ⟨c', hc', o, hk _ _ ho, hd⟩
  · obtain ⟨v, o, ho, hd⟩ := I.cell x c (hc1 x c e)
    exact ⟨v, o, hk _ _ ho, hd⟩
  · rw [compSt_len]
    show _ = N'.length
    rw [S.nm]; simp
end
end L2

set_option Elab.async false
set_option linter.all false
set_option maxRecDepth 100000
set_option maxHeartbeats 4000000
namespace L2
open PySem PySem.Spec PyProof.Rows

/-- the tests of a comprehension -/
def PIfs (Y : Cx) (ifs : List Expr) (t : TT) : Prop :=
  ∀ (pins : List (Addr × Obj)) (s : Shared) (σ : St) (H : Hp) (Q : Bool → Hp → Prop), Inv Y pins σ H s → t σ H Q →
    wpAny (model Y.prog Y.w) Y.A (forIn ifs true fun c r => if r = true then do let ok ← isTrue c Y.env (eval c Y.env); pure (ForInStep.yield ok) else pure (ForInStep.yield r)) (TP Y pins σ Q) Y.xe s
def tYes : TT := fun _ H Q => Q true H
theorem pifs_nil {Y : Cx} : PIfs Y [] tYes := fun _ _ _ H _ I h => wpAny_tests_nil ⟨H, I, h⟩
abbrev accObj (us : List Value) (k : Nat) : Obj := { cls := .type "list", data := .seq us.toArray k }

/-- what a turn of the block does: W by the turn, a measure, what has been gathered, the block's slots, the heap -/
def CTurn (J : It) (g : TG) (tt : TT) (te : TE) (F : List V → Hp → Prop) (W : Nat → Nat → List V → St → Hp → Prop) : Prop :=
  ∀ i m ys σ H, W i m ys σ H → (J.stop i H ∧ F ys H) ∨ (J.go i H ∧ ys.length < sizeLine ∧ ∀ x H1, J.yld i H x H1 → g x σ H1 fun σ2 H2 => tt σ2 H2 fun b H3 =>
    if b = true then te σ2 H3 fun y H4 => ∃ m', m' < m ∧ W (i + 1) m' (ys ++ [y]) σ2 H4 else ∃ m', m' < m ∧ W (i + 1) m' ys σ2 H3)

theorem comp_loop {X : Cx} {scope : Scope} {N' : List Str} {cl : List (Str × Addr)} {C acc it : Addr} {s₂ : Shared} {H₂ : Hp} {fp : List Addr} {tn : Nat → Heap → Prop} {J : It} {g : TG} {tt : TT} {te : TE} {F : List V → Hp → Prop}
    {elt tg iter : Expr} {ifs : List Expr} {pos : Pos} {R : Result → Shared → Prop} (W : Nat → Nat → List V → St → Hp → Prop) (turn : CTurn J g tt te F W) (T : Turn X.prog X.w X.K tg J fp it tn)
    (hg : PG (cxComp X scope N' cl C s₂ H₂ fp) tg g) (hc : PIfs (cxComp X scope N' cl C s₂ H₂ fp) ifs tt) (he : PE (cxComp X scope N' cl C s₂ H₂ fp) elt te) (hcalm : X.calm = true)
    (hfp : ∀ b ∈ fp, b ≠ C ∧ b ∉ frs X.stack ∧ (∀ x c, cl.lookup x = some c → c ≠ b) ∧ b ≠ acc) (hacc : acc ≠ C ∧ acc ∉ frs X.stack ∧ (∀ x c, cl.lookup x = some c → c ≠ acc) ∧ s₂.heap.objs.size ≤ acc)
    (hR : ∀ s' σ' H' ys us k, Inv (cxComp X scope N' cl C s₂ H₂ fp) [(acc, accObj us k)] σ' H' s' → Vals ys us → F ys H' → R (.ok .next) s')
    {s : Shared} {σ : St} {H : Hp} {m : Nat} (I : Inv (cxComp X scope N' cl C s₂ H₂ fp) [(acc, accObj [] 0)] σ H s) (st : tn 0 s.heap) (fr : ∀ b ∈ fp, H b = none) (w0 : W 0 m [] σ H) :
    codeAny (model X.prog X.w) X.A (.compLoop (.ListComp elt [⟨tg, iter, ifs, 0⟩] scope pos) 0 (.ref it) (.ref acc) (compEnvC scope cl C X.env)) R s := by
  refine codeAny_loop rfl (fun n s' => ∃ i ys us k σ' H', Vals ys us ∧ Inv (cxComp X scope N' cl C s₂ H₂ fp) [(acc, accObj us k)] σ' H' s' ∧ tn i s'.heap ∧ (∀ b ∈ fp, H' b = none) ∧ W i n ys σ' H') (fun n s3 hI => ?_) m ⟨0, [], [], 0, σ, H, .nil, I, st, fr, w0⟩
  obtain ⟨i, ys, us, k, σ3, H3, rv, I3, st3, fr3, w3⟩ := hI
  show wpAny _ X.A ((compTurn (.ListComp elt [⟨tg, iter, ifs, 0⟩] scope pos) 0 (.ref it) (.ref acc) (compEnvC scope cl C X.env)).onRaise (fun x => do noteFrame x (compEnvC scope cl C X.env); theTreesLotGoes x)) _ _ s3
  refine wpAny_noted ?_
  rw [compTurn_list]
  have fpk : ∀ {pins : List (Addr × Obj)} {H' : Hp}, (∀ p ∈ pins, p.1 = acc ∨ p.1 ∈ ([] : List Addr)) → (∀ b ∈ fp, H' b = none) → ∀ b ∈ fp, FpOk (cxComp X scope N' cl C s₂ H₂ fp) pins H' b := fun hp hn b hb =>
    ⟨hn b hb, (hfp b hb).1, (hfp b hb).2.1, .inl hb, (hfp b hb).2.2.1, fun p hp' => by
      have hp'' : p ∈ ([] : List (Addr × Obj)) ++ _ := hp'
      rcases hp p (by simpa using hp'') with z | z
      · rw [z]; exact Ne.symm (hfp b hb).2.2.2
      · exact (nomatch z)⟩
  have fp1 := fpk (pins := [(acc, accObj us k)]) (fun p hp => .inl (by simp at hp; rw [hp])) fr3
  refine wpAny_bind (wpAny_standAt (wpAny_bind ?_))
  rcases turn i n ys σ3 H3 w3 with ⟨stop, qn⟩ | ⟨go, hz, step⟩
  · refine wpAny_mono (T.done (cxComp X scope N' cl C s₂ H₂ fp) rfl rfl rfl hcalm i _ s3 σ3 H3 (fun _ _ => False) I3 fp1 st3 stop) (fun r s4 ⟨hr, I4⟩ => ?_) (fun _ _ z => z.elim)
    subst hr
    exact wpAny_pure (hR s4 σ3 H3 ys us k I4 rv qn)
  · refine wpAny_mono (T.item (cxComp X scope N' cl C s₂ H₂ fp) rfl rfl rfl hcalm i _ s3 σ3 H3 (fun _ _ => False) I3 fp1 st3 go) (fun r s4 ⟨u, hr, h4⟩ => ?_) (fun _ _ z => z.elim)
    subst hr
    refine wpAny_bind (wpAny_mono h4 (fun _ s5 ⟨x, H5, I5, r5, y5, st5, fr5⟩ => ?_) (fun _ _ z => z.elim))
    have fp5 := fpk (pins := [(acc, accObj us k)]) (fun p hp => .inl (by simp at hp; rw [hp])) fr5
    have I5' := I5.pinned fp5 (T.obj _ _ st5)
    refine wpAny_bind (wpAny_mono (hg _ s5 σ3 H5 x u _ I5' r5 (step x H5 y5)) (fun _ s6 ⟨σ6, H6, I6, q6⟩ => ?_) (fun _ _ z => z.elim))
    refine wpAny_bind (wpAny_mono (hc _ s6 σ6 H6 _ I6 q6) (fun ok s7 ⟨H7, I7, q7⟩ => ?_) (fun _ _ z => z.elim))
    have again : ∀ {s8 : Shared} {σ8 : St} {H8 : Hp} {us8 : List Value} {k8 : Nat} {ys8 : List V}, Inv (cxComp X scope N' cl C s₂ H₂ fp) ([(acc, accObj us k)] ++ pinsAt fp s5.heap) σ8 H8 s8 → tn (i + 1) s8.heap ∧ ∀ b ∈ fp, H8 b = none := fun {s8 σ8 H8 us8 k8 ys8} I8 =>
      ⟨T.keep _ _ _ st5 fun b hb o e => (I8.pin (b, o) (List.mem_append_right _ (List.mem_append_right _ (mem_pinsAt hb e)))).1, fun b hb => by
        obtain ⟨o, e, d⟩ := T.obj _ _ st5 b hb
        exact (I8.pin (b, o) (List.mem_append_right _ (List.mem_append_right _ (mem_pinsAt hb e)))).2.1⟩
    cases ok with
    | false =>
      rw [if_neg Bool.false_ne_true] at q7
      obtain ⟨m', hm, w7⟩ := q7
      obtain ⟨t1, t2⟩ := again (us8 := us) (k8 := k) (ys8 := ys) I7
      exact wpAny_pure ⟨rfl, m', hm, i + 1, ys, us, k, σ6, H7, rv, I7.unpinned, t1, t2, w7⟩
    | true =>
      rw [if_pos rfl] at q7
      refine wpAny_bind (wpAny_bind (wpAny_mono (he _ s7 σ6 H7 _ I7 q7) (fun y s8 ⟨yv, H8, I8, r8, m', hm, w8⟩ => ?_) (fun _ _ z => z.elim)))
      obtain ⟨t1, t2⟩ := again (us8 := us) (k8 := k) (ys8 := ys) I8
      obtain ⟨e8, n8, l8, f8, d8⟩ := I8.pin (acc, accObj us k) (List.mem_append_right _ (List.mem_append_left _ List.mem_cons_self))
      have hlen := rv.length
      have hz' : us.toArray.size ≤ sizeLine := by rw [List.size_toArray]; omega
      refine wpAny_bind (call_meets PySem.F.slot_list_append ⟨_, e8, rfl⟩ PySem.F.entry_list_append (PySem.F.args_list_append_2 _ _) (PySem.list_append acc us.toArray k y hz') ⟨e8, ?_⟩)
      have q := PySem.IsL.update e8 (fun z => z.push y)
      have I9 : Inv (cxComp X scope N' cl C s₂ H₂ fp) [] σ6 H8 s8 := I8.pins_of fun p hp => (nomatch hp)
      have I10 := I9.turned (t' := s8.toks) (it := acc) (h' := s8.heap.update acc (Obj.mapSeq fun z => z.push y)) (fun b o hb e => (Heap.get?_update_other s8.heap _ (Ne.symm hb)).trans e) n8 hacc.1 (.inr hacc.2.2.2) hacc.2.2.1 (fun p hp => (nomatch hp))
      have e' : (us.toArray.push y) = (us ++ [y]).toArray := by simp
      rw [e'] at q
      obtain ⟨k9, ek⟩ : ∃ k9, k9 = (if ((us ++ [y]).toArray.size == us.toArray.size) = true then k else k + 1) := ⟨_, rfl⟩
      rw [← ek] at q
      have I11 := I10.pins_of (pins' := [(acc, accObj (us ++ [y]) k9)]) fun p hp => by
        obtain rfl : p = (acc, accObj (us ++ [y]) k9) := by simpa using hp
        exact ⟨q, n8, hacc.1, hacc.2.1, fun v z => by cases z⟩
      refine wpAny_pure (wpAny_pure ⟨rfl, m', hm, i + 1, ys ++ [yv], us ++ [y], k9, σ6, H8, rv.append (.cons r8 .nil), I11, T.keep _ _ _ t1 fun b hb o e => ?_, t2, w8⟩)
      exact (Heap.get?_update_other s8.heap _ (hfp b hb).2.2.2.symm).trans e

/-- [elt for tg in iter if ..]: the reading; k: how many own names, js: what is seen of the frame -/
def tComp (wi : TI) (g : TG) (tt : TT) (te : TE) (k : Nat) (js : List Nat) : TE := fun σ H Q => wi σ H fun J H1 => ∃ W : Nat → Nat → List V → St → Hp → Prop, (∃ m, W 0 m [] (compSt k js σ) H1) ∧
  CTurn J g tt te (fun ys H2 => ys.length ≤ sizeLine ∧ ∀ p, H2 p = none → Q (.ref p) (upd H2 p (.lst ys))) W

section
variable {X : Cx} {scope : Scope} {own : List Str} {js : List Nat} {N' : List Str} {wi : TI} {g : TG} {tt : TT} {te : TE} {elt tg iter : Expr} {ifs : List Expr} {pos : Pos}
/-- the block runs; behind it all is as the frame wants it, the block's own names still there -/
theorem comp_run {pins : List (Addr × Obj)} {σ : St} {H : Hp} {s : Shared} {it : Addr} {fp : List Addr} {tn : Nat → Heap → Prop} {J : It} {cl : List (Str × Addr)} {F : List V → Hp → Prop} {E : Value → Shared → Prop} {RR : Value → Addr → Result → Shared → Prop}
    (S : CompScope X scope own js N') (hcalm : X.calm = true) (hg : ∀ cl C s₀ H₀ ex, PG (cxComp X scope N' cl C s₀ H₀ ex) tg g) (hc : ∀ cl C s₀ H₀ ex, PIfs (cxComp X scope N' cl C s₀ H₀ ex) ifs tt) (he : ∀ cl C s₀ H₀ ex, PE (cxComp X scope N' cl C s₀ H₀ ex) elt te)
    (hc1 : ∀ x c, cl.lookup x = some c → X.env.cells.lookup x = some c) (hc2 : ∀ x, (x, NameKind.free) ∈ scope.names → ∃ c, cl.lookup x = some c)
    (I : Inv X pins σ H s) (T : Turn X.prog X.w X.K tg J fp it tn) (st : tn 0 s.heap) (hf : ∀ b ∈ fp, FpOk X pins H b) (W : Nat → Nat → List V → St → Hp → Prop) {m0 : Nat} (w0 : W 0 m0 [] (compSt own.length js σ) H) (turn : CTurn J g tt te F W)
    (hF : ∀ ys H', F ys H' → ys.length ≤ sizeLine)
    (fin : ∀ acc C H' ys s' m, Inv X pins σ (upd H' acc (.lst ys)) s' → H' acc = none → s'.heap.Ns C m → (upd H' acc (.lst ys)) C = none → C ≠ X.env.locals → X.s₀.heap.objs.size ≤ C → (∀ x c, X.env.cells.lookup x = some c → c ≠ C) → (∀ p ∈ X.pn ++ pins, p.1 ≠ C) → F ys H' → RR (.ref acc) C (.ok .next) s') :
    wpAny (model X.prog X.w) X.A (newList []) (fun acc s₃ => wpAny (model X.prog X.w) X.A (newFunctionEnv scope X.env.globals cl [] X.env.qual none .none (some X.env)) (fun cenv s₄ =>
      codeAny (model X.prog X.w) X.A (.compStart (.ListComp elt [⟨tg, iter, ifs, 0⟩] scope pos) 0 (.ref it) acc { cenv with scope := relabel scope X.env }) (RR acc cenv.locals) s₄) E s₃) E s := by
  refine wpAny_newObj_type (wpAny_newFunctionEnv S.nocell (by intro y hy; simp at hy) (fun h₁ hns₁ hsb₁ => ?_) S.kind)
  dsimp only at hns₁ hsb₁ ⊢
  generalize hH2 : s.heap.push { cls := .type "list", dict := none, data := .seq ([] : List Value).toArray } = H2 at hns₁ hsb₁ ⊢
  have hC : H2.objs.size = s.heap.objs.size + 1 := by rw [← hH2, Heap.size_push]
  have hDC : s.heap.objs.size ≠ H2.objs.size := by rw [hC]; exact Nat.ne_of_lt (Nat.lt_succ_self _)
  have hCle : s.heap.objs.size ≤ H2.objs.size := by rw [hC]; exact Nat.le_succ _
  have below : ∀ b, b < s.heap.objs.size → b ≠ H2.objs.size ∧ b ≠ s.heap.objs.size := fun b hb => ⟨by rw [hC]; exact Nat.ne_of_lt (Nat.lt_succ_of_lt hb), Nat.ne_of_lt hb⟩
  have old : ∀ b o, s.heap.get? b = some o → h₁.get? b = some o := fun b o e => hsb₁.extBut b o (below b (Heap.lt_size e)).1 (Heap.get?_push_of_some _ (hH2 ▸ Heap.get?_push_of_some _ e))
  have hacc : h₁.get? s.heap.objs.size = some (accObj [] 0) := hsb₁.extBut _ _ hDC (Heap.get?_push_of_some _ (hH2 ▸ Heap.get?_push_size _ rfl))
  generalize hCn : H2.objs.size = C at *
  generalize hAn : s.heap.objs.size = acc at *
  have cellLt : ∀ x c, X.env.cells.lookup x = some c → c < acc := fun x c e => by
    obtain ⟨v, q⟩ := I.cell x c e
    rw [← hAn]; exact q.lt
  have pinLt : ∀ p ∈ X.pn ++ pins, p.1 < acc := fun p hp => by rw [← hAn]; exact Heap.lt_size (I.pin p hp).1
  have stkLt : ∀ b ∈ frs X.stack, b < acc := fun b hb => by
    obtain ⟨_, o, ho, _⟩ := I.stack.mem hb
    rw [← hAn]; exact Heap.lt_size ho
  have fpLt : ∀ b ∈ fp, b < acc := fun b hb => by
    obtain ⟨o, e, _⟩ := T.obj _ _ st b hb
    rw [← hAn]; exact Heap.lt_size e
  have hHC : H C = none := I.hok.fresh (by rw [hAn]; exact hCle)
  have hHA : H acc = none := I.hok.fresh (by rw [hAn]; exact Nat.le_refl _)
  have I1 : Inv (cxComp X scope N' cl C s H fp) [] (compSt own.length js σ) H { s with heap := h₁, toks := s.toks + ([] : List (Str × Value)).length } :=
    Inv.comp S I hc1 hc2 (by rw [hAn]; exact hCle) hns₁ old (fun b hb => ⟨hf b hb, by rw [hAn]; exact fpLt b hb⟩) hHC fun b o e => (below b (by rw [← hAn]; exact Heap.lt_size e)).1
  have I2 : Inv (cxComp X scope N' cl C s H fp) [(acc, accObj [] 0)] (compSt own.length js σ) H { s with heap := h₁, toks := s.toks + ([] : List (Str × Value)).length } := I1.pins_of fun p hp => by
    obtain rfl : p = (acc, accObj [] 0) := by simpa using hp
    exact ⟨hacc, hHA, hDC, fun z => absurd (stkLt acc z) (Nat.lt_irrefl _), fun v z => by cases z⟩
  have st1 : tn 0 h₁ := T.keep _ _ _ st fun b hb o e => old b o e
  have loop : ∀ s₃ : Shared, s₃ = { s with heap := h₁, toks := s.toks + ([] : List (Str × Value)).length } →
      codeAny (model X.prog X.w) X.A (.compLoop (.ListComp elt [⟨tg, iter, ifs, 0⟩] scope pos) 0 (.ref it) (.ref acc) (compEnvC scope cl C X.env)) (RR (.ref acc) C) s₃ := by
    rintro s₃ rfl
    refine comp_loop W turn T (hg _ _ _ _ _) (hc _ _ _ _ _) (he _ _ _ _ _) hcalm
      (fun b hb => ⟨(below b (fpLt b hb)).1, fun z => ?_, fun x c e z => (hf b hb).2.2.2.2.1 x c (hc1 x c e) z, (below b (fpLt b hb)).2⟩)
      ⟨hDC, fun z => absurd (stkLt acc z) (Nat.lt_irrefl _), fun x c e z => absurd (cellLt x c (hc1 x c e)) (by rw [z]; exact Nat.lt_irrefl _), by rw [hAn]; exact Nat.le_refl _⟩ ?_ I2 st1 (fun b hb => (hf b hb).1) w0
    · rcases List.mem_cons.mp (I.stkSub b z) with q | q
      · exact (hf b hb).2.1 q
      · exact (hf b hb).2.2.1 q
    · intro s' σ' H' ys us k J' rv q
      obtain ⟨e', n', l', f', d'⟩ := J'.pin (acc, accObj us k) (List.mem_append_right _ List.mem_cons_self)
      have n'' : H' acc = none := n'
      obtain ⟨m, hm, _⟩ := J'.loc
      have oldLt : ∀ b o, s.heap.get? b = some o → b < acc := fun b o e => by rw [← hAn]; exact Heap.lt_size e
      have neA : ∀ b o, s.heap.get? b = some o → b ≠ acc := fun b o e => Nat.ne_of_lt (oldLt b o e)
      have un : Un (frs X.stack) fp H (upd H' acc (.lst ys)) s.heap s'.heap := ⟨J'.base.keep, J'.base.slot, fun b o e n hx => by rw [upd_ne (neA b o e)]; exact J'.base.free b o e n hx, J'.base.there,
        fun b xs e => by
          have z := J'.base.tups b xs e
          rw [upd_ne (ne_of_none z n'')]; exact z,
        fun b o u e => by
          have z := J'.base.frzs b o u e
          rw [upd_ne (ne_of_none z n'')]; exact z,
        fun b ps e => by
          obtain ⟨more, z⟩ := J'.base.tbls b ps e
          exact ⟨more, by rw [upd_ne (ne_of_none z n'')]; exact z⟩⟩
      have hok : HOk X.prog X.w (upd H' acc (.lst ys)) s'.heap := fun b u e => by
        by_cases hb : b = acc
        · subst hb
          rw [upd_same] at e; cases e
          exact ⟨hF _ _ q, us, k, rv, e'⟩
        · rw [upd_ne hb] at e
          exact (J'.hok b u e).stay (fun c v _ z => z) (fun c z => by rw [upd_ne (ne_of_none z n'')]; exact z) fun c xs z => by rw [upd_ne (ne_of_none z n'')]; exact z
      have IX : Inv X pins σ (upd H' acc (.lst ys)) s' := I.call' J'.os un hok J'.bare fun b hb => ⟨(hf b hb).2.2.2.1, (hf b hb).2.1, (hf b hb).2.2.2.2.1, (hf b hb).2.2.2.2.2⟩
      refine fin acc C H' ys s' m IX n'' hm ?_ ?_ ?_ ?_ ?_ q
      · rw [upd_ne (Ne.symm hDC)]; exact J'.free
      · exact Nat.ne_of_gt (Nat.lt_of_lt_of_le I.lt (by rw [hAn]; exact hCle))
      · exact Nat.le_trans I.sz (by rw [hAn]; exact hCle)
      · exact fun x c e z => absurd (Nat.lt_of_lt_of_le (cellLt x c e) hCle) (by rw [z]; exact Nat.lt_irrefl _)
      · exact fun p hp z => absurd (Nat.lt_of_lt_of_le (pinLt p hp) hCle) (by rw [z]; exact Nat.lt_irrefl _)
  exact codeAny_compStart_list (loop _ rfl) (T.self _ 0 _ _ _ st1 (loop _ rfl))

theorem pe_comp (S : CompScope X scope own js N') (hcalm : X.calm = true) (hi : PI X tg iter wi) (hg : ∀ cl C s₀ H₀ ex, PG (cxComp X scope N' cl C s₀ H₀ ex) tg g) (hc : ∀ cl C s₀ H₀ ex, PIfs (cxComp X scope N' cl C s₀ H₀ ex) ifs tt)
    (he : ∀ cl C s₀ H₀ ex, PE (cxComp X scope N' cl C s₀ H₀ ex) elt te) (hs : ∀ x, foldedSetIterable iter X.env x = pure x := by intro _; rfl) : PE X (.ListComp elt [⟨tg, iter, ifs, 0⟩] scope pos) (tComp wi g tt te own.length js) := by
  intro pins s σ H Q I h
  obtain ⟨cl, hcl, hc1, hc2⟩ := closure_ok (env := X.env) scope fun y hy hk => I.ok.has y.1 (S.free y hy hk)
  rw [eval_ListComp]
  refine wpAny_comprehension_free (use := none) rfl hs hcl S.kind S.names (thn (hi pins s σ H _ I h) fun v s1 h1 => thn h1 fun itv s2 h2 => ?_)
  obtain ⟨it, fp, tn, J, H2, e, I2, T, st2, f2, W, ⟨m0, w0⟩, turn⟩ := h2
  subst e
  refine comp_run (RR := fun acc C => compPost (model X.prog X.w) X.A X.xe none (EP X pins σ Q) acc C) S hcalm hg hc he hc1 hc2 I2 T st2 f2 W w0 turn (fun ys H' q => q.1) ?_
  intro acc C H' ys s' m IX na hm hCn hL hz hcn hpn q
  refine ⟨m, hm, fun h' hs' => ⟨.ref acc, _, ?_, rfl, q.2 acc na⟩⟩
  exact IX.turned (t' := s'.toks) (it := C) (fun b o hb e => (hs'.2 b hb).trans e) hCn hL (.inr hz) hcn hpn

end
end L2

set_option Elab.async false
set_option linter.all false
set_option maxRecDepth 100000
set_option maxHeartbeats 4000000
namespace L2
open PySem PySem.Spec PyProof.Rows
section
variable {X : Cx}
/-! ### operations on any of the kinds, by one rule -/
/-- // by a number below 2 ^ 128 -/
def CDivW (i j : Int) : Prop := 0 < j ∧ j < 340282366920938463463374607431768211456
theorem op_fdivW : OpR X (binaryOp .FloorDiv) (rI CDivW fun i j => .int (i / j)) := opI fun i j _ _ _ _ _ hc q => by
  rw [← Int.fdiv_eq_ediv_of_nonneg i (Int.le_of_lt hc.1)] at q
  have h1 : (0 : Int) < j := hc.1
  have h2 : j < 340282366920938463463374607431768211456 := hc.2
  have hb : j.natAbs < 340282366920938463463374607431768211456 := by omega
  have he : (2 : Nat) ^ 128 = 340282366920938463463374607431768211456 := by decide +kernel
  have hl : j.natAbs.log2 < 128 := (Nat.log2_lt (by omega)).mpr (Nat.lt_of_lt_of_eq hb he.symm)
  exact floordiv_int (by have := hc.1; omega) q (.inl (PyProof.noPylong_of_log2 (by omega)))
/-! ### the forms of comprehensions that one uses -/
theorem comp_range {lo : Int} {n : Nat} {g : TG} {te : TE} {F : List V → Hp → Prop} {σ0 : St} {H0 : Hp} (Pv : Nat → List V → St → Hp → Prop) (hn : n ≤ sizeLine) (h0 : Pv 0 [] σ0 H0)
    (hs : ∀ i ys σ H, i < n → ys.length = i → Pv i ys σ H → ∀ N : List V → St → Hp → Prop, (∀ ys' σ' H', ys'.length = i + 1 → Pv (i + 1) ys' σ' H' → N ys' σ' H') → g (.int (lo + i)) σ H fun σ2 H2 => te σ2 H2 fun y H3 => N (ys ++ [y]) σ2 H3)
    (hd : ∀ ys σ H, ys.length = n → Pv n ys σ H → F ys H) :
    ∃ W : Nat → Nat → List V → St → Hp → Prop, (∃ m, W 0 m [] σ0 H0) ∧ CTurn (Itr lo n) g tYes te F W := by
  refine ⟨fun i m ys σ H => m = n - i ∧ i ≤ n ∧ ys.length = i ∧ Pv i ys σ H, ⟨n, by simp, Nat.zero_le _, rfl, h0⟩, ?_⟩
  rintro i m ys σ H ⟨rfl, hi, hl, p⟩
  by_cases hlt : i < n
  · refine .inr ⟨hlt, by omega, fun x H' y => ?_⟩
    obtain ⟨e, y⟩ := y
    subst e y
    exact hs i ys σ _ hlt hl p (fun ys' σ' H' => ∃ m', m' < n - i ∧ m' = n - (i + 1) ∧ i + 1 ≤ n ∧ ys'.length = i + 1 ∧ Pv (i + 1) ys' σ' H') fun ys' σ' H' hl' q => ⟨n - (i + 1), by omega, rfl, hlt, hl', q⟩
  · have e : i = n := by omega
    subst e
    exact .inl ⟨Nat.le_refl _, hd ys σ H hl p⟩
theorem comp_list {K : PySem.W.Frag} {a : Addr} {xs : List V} {g : TG} {te : TE} {F : List V → Hp → Prop} {σ0 : St} {H0 : Hp} (Pv : Nat → List V → St → Hp → Prop) (hn : xs.length ≤ sizeLine) (h0 : Pv 0 [] σ0 H0) (hq : ∀ i ys σ H, i ≤ xs.length → Pv i ys σ H → SqL K H a xs)
    (hs : ∀ i x ys σ H, xs[i]? = some x → ys.length = i → Pv i ys σ H → ∀ N : List V → St → Hp → Prop, (∀ ys' σ' H', ys'.length = i + 1 → Pv (i + 1) ys' σ' H' → N ys' σ' H') → g x σ H fun σ2 H2 => te σ2 H2 fun y H3 => N (ys ++ [y]) σ2 H3)
    (hd : ∀ ys σ H, ys.length = xs.length → Pv xs.length ys σ H → F ys H) :
    ∃ W : Nat → Nat → List V → St → Hp → Prop, (∃ m, W 0 m [] σ0 H0) ∧ CTurn (Itl K a) g tYes te F W := by
  refine ⟨fun i m ys σ H => m = xs.length - i ∧ i ≤ xs.length ∧ ys.length = i ∧ Pv i ys σ H, ⟨xs.length, by simp, Nat.zero_le _, rfl, h0⟩, ?_⟩
  rintro i m ys σ H ⟨rfl, hi, hl, p⟩
  have q := hq i ys σ H hi p
  by_cases hlt : i < xs.length
  · refine .inr ⟨⟨xs, xs[i], q, by simp [hlt]⟩, by omega, fun x H' y => ?_⟩
    obtain ⟨e, y⟩ := y
    subst e
    exact hs i x ys σ _ (y xs q) hl p (fun ys' σ' H' => ∃ m', m' < xs.length - i ∧ m' = xs.length - (i + 1) ∧ i + 1 ≤ xs.length ∧ ys'.length = i + 1 ∧ Pv (i + 1) ys' σ' H') fun ys' σ' H' hl' q => ⟨xs.length - (i + 1), by omega, rfl, hlt, hl', q⟩
  · have e : i = xs.length := by omega
    subst e
    exact .inl ⟨⟨xs, q, Nat.le_refl _⟩, hd ys σ H hl p⟩
theorem comp_tup {K : PySem.W.Frag} {a : Addr} {xs : List V} {g : TG} {te : TE} {F : List V → Hp → Prop} {σ0 : St} {H0 : Hp} (Pv : Nat → List V → St → Hp → Prop) (hn : xs.length ≤ sizeLine) (h0 : Pv 0 [] σ0 H0) (hq : ∀ i ys σ H, i ≤ xs.length → Pv i ys σ H → SqT K H a xs)
    (hs : ∀ i x ys σ H, xs[i]? = some x → ys.length = i → Pv i ys σ H → ∀ N : List V → St → Hp → Prop, (∀ ys' σ' H', ys'.length = i + 1 → Pv (i + 1) ys' σ' H' → N ys' σ' H') → g x σ H fun σ2 H2 => te σ2 H2 fun y H3 => N (ys ++ [y]) σ2 H3)
    (hd : ∀ ys σ H, ys.length = xs.length → Pv xs.length ys σ H → F ys H) :
    ∃ W : Nat → Nat → List V → St → Hp → Prop, (∃ m, W 0 m [] σ0 H0) ∧ CTurn (Itt K a) g tYes te F W := by
  refine ⟨fun i m ys σ H => m = xs.length - i ∧ i ≤ xs.length ∧ ys.length = i ∧ Pv i ys σ H, ⟨xs.length, by simp, Nat.zero_le _, rfl, h0⟩, ?_⟩
  rintro i m ys σ H ⟨rfl, hi, hl, p⟩
  have q := hq i ys σ H hi p
  by_cases hlt : i < xs.length
  · refine .inr ⟨⟨xs, xs[i], q, by simp [hlt]⟩, by omega, fun x H' y => ?_⟩
    obtain ⟨e, y⟩ := y
    subst e
    exact hs i x ys σ _ (y xs q) hl p (fun ys' σ' H' => ∃ m', m' < xs.length - i ∧ m' = xs.length - (i + 1) ∧ i + 1 ≤ xs.length ∧ ys'.length = i + 1 ∧ Pv (i + 1) ys' σ' H') fun ys' σ' H' hl' q => ⟨xs.length - (i + 1), by omega, rfl, hlt, hl', q⟩
  · have e : i = xs.length := by omega
    subst e
    exact .inl ⟨⟨xs, q, Nat.le_refl _⟩, hd ys σ H hl p⟩
/-- a def of the module: its address, its object, how it binds -/
structure Def (K : PySem.W.Frag) (mg : Str → Option Value) (x : Str) (st : Stmt) (ps : List Str) (f : Addr) (fd : FuncData) : Prop where
  F : Fun K x x st f fd
  mg : mg x = some (.ref f)
  b : Binds K fd ps []
/-- all that was tracked is as it was, but the object at p -/
def But (p : Addr) (H H' : Hp) : Prop := ∀ b o, H b = some o → b ≠ p → H' b = some o
theorem But.refl {p : Addr} {H : Hp} : But p H H := fun _ _ h _ => h
theorem But.trans {p : Addr} {H H1 H2 : Hp} (a : But p H H1) (b : But p H1 H2) : But p H H2 := fun c o h hc => b c o (a c o h hc) hc
theorem But.upd {p : Addr} {H : Hp} {o : HO} : But p H (upd H p o) := fun b u h hb => by rw [upd_ne hb]; exact h
theorem But.new {p q : Addr} {H : Hp} {o : HO} (h : H q = none) : But p H (L2.upd H q o) := fun b u e _ => by rw [upd_ne (ne_of_none e h)]; exact e
end
/-- between two statements: what holds there -/
theorem seq_by {t u : TS} {D : Ends} {σ : St} {H : Hp} (M : St → Hp → Prop) (h2 : ∀ σ' H', M σ' H' → u D σ' H') (h1 : ∀ N : St → Hp → Prop, (∀ σ' H', M σ' H' → N σ' H') → t { D with nx := N } σ H) : tSeq t u D σ H := h1 (u D) h2
theorem Same.new {H : Hp} {q : Addr} {o : HO} (h : H q = none) : Same H (upd H q o) := fun b u e => by rw [upd_ne (ne_of_none e h)]; exact e
theorem Same.tup {K : PySem.W.Frag} {H H' : Hp} {a : Addr} {xs : List V} (e : Same H H') (h : SqT K H a xs) : SqT K H' a xs := by
  rcases h with (h | ⟨o, h⟩) | h
  · exact .inl (.inl (e _ _ h))
  · exact .inl (.inr ⟨o, e _ _ h⟩)
  · exact .inr h
theorem bt_len : bootBuiltins "len" = some (.builtin "len") := by decide +kernel
theorem bt_list : bootBuiltins "list" = some (.type "list") := by decide +kernel
theorem bt_tuple : bootBuiltins "tuple" = some (.type "tuple") := by decide +kernel
theorem bt_str : bootBuiltins "str" = some (.type "str") := by decide +kernel
theorem bt_int : bootBuiltins "int" = some (.type "int") := by decide +kernel
theorem bt_bool : bootBuiltins "bool" = some (.type "bool") := by decide +kernel
theorem bt_min : bootBuiltins "min" = some (.builtin "min") := by decide +kernel
theorem bt_all : bootBuiltins "all" = some (.builtin "all") := by decide +kernel
theorem bt_isinstance : bootBuiltins "isinstance" = some (.builtin "isinstance") := by decide +kernel
end L2

set_option Elab.async false
set_option linter.all false
set_option maxRecDepth 100000
set_option maxHeartbeats 4000000
namespace L2
open PySem PySem.Spec PyProof.Rows PySem.SeqAt

/-! ### data: what a value stands for -/
mutual
inductive Rep (K : PySem.W.Frag) (H : Hp) : V → PyData → Prop
  | non : Rep K H .non .none
  | bl (b : Bool) : Rep K H (.bl b) (.bool b)
  | int (i : Int) : Rep K H (.int i) (.int i)
  | str (x : Str) : Rep K H (.str x) (.str x)
  | tup {a : Addr} {xs : List V} {ds : List PyData} : SqT K H a xs → Reps K H xs ds → Rep K H (.ref a) (.tuple ds)
  | lst {a : Addr} {xs : List V} {ds : List PyData} : SqL K H a xs → Reps K H xs ds → Rep K H (.ref a) (.list ds)
inductive Reps (K : PySem.W.Frag) (H : Hp) : List V → List PyData → Prop
  | nil : Reps K H [] []
  | cons {x : V} {d : PyData} {xs : List V} {ds : List PyData} : Rep K H x d → Reps K H xs ds → Reps K H (x :: xs) (d :: ds)
end
section
variable {K : PySem.W.Frag} {H H' : Hp}
theorem Reps.length : ∀ {xs : List V} {ds : List PyData}, Reps K H xs ds → xs.length = ds.length
  | _, _, .nil => rfl
  | _, _, .cons _ t => by rw [List.length_cons, List.length_cons, Reps.length t]
mutual
theorem Rep.map (f1 : ∀ a xs, SqT K H a xs → SqT K H' a xs) (f2 : ∀ a xs, SqL K H a xs → SqL K H' a xs) : ∀ {v : V} {d : PyData}, Rep K H v d → Rep K H' v d
  | _, _, .non => .non
  | _, _, .bl b => .bl b
  | _, _, .int i => .int i
  | _, _, .str x => .str x
  | _, _, .tup h r => .tup (f1 _ _ h) (Reps.map f1 f2 r)
  | _, _, .lst h r => .lst (f2 _ _ h) (Reps.map f1 f2 r)
theorem Reps.map (f1 : ∀ a xs, SqT K H a xs → SqT K H' a xs) (f2 : ∀ a xs, SqL K H a xs → SqL K H' a xs) : ∀ {v : List V} {d : List PyData}, Reps K H v d → Reps K H' v d
  | _, _, .nil => .nil
  | _, _, .cons h r => .cons (Rep.map f1 f2 h) (Reps.map f1 f2 r)
end
theorem Rep.same {v : V} {d : PyData} (h : Rep K H v d) (e : Same H H') : Rep K H' v d := h.map (fun _ _ z => e.tup z) (fun _ _ z => e.seq z)
theorem But.seq {p a : Addr} {xs : List V} {kvs : List (Key × V)} (e : But p H H') (hp : H p = some (.dK kvs)) (h : SqL K H a xs) : SqL K H' a xs := by
  rcases h with (h | ⟨o, h⟩) | h
  · exact .inl (.inl (e _ _ h (ne_of h hp (by intro z; cases z))))
  · exact .inl (.inr ⟨o, e _ _ h (ne_of h hp (by intro z; cases z))⟩)
  · exact .inr h
theorem Reps.get' : ∀ {xs : List V} {ds : List PyData} {i : Nat} {x : V}, Reps K H xs ds → xs[i]? = some x → ∃ d, ds[i]? = some d ∧ Rep K H x d
  | _, _, _, _, .nil, e => by simp at e
  | _, _, 0, _, .cons r _, e => by simp at e; subst e; exact ⟨_, rfl, r⟩
  | _, _, i + 1, d, .cons _ t, e => by
    obtain ⟨u, h1, h2⟩ := Reps.get' (i := i) (x := d) t (by simpa using e)
    exact ⟨u, by simpa using h1, h2⟩
end

section
variable {X : Cx} {pins : List (Addr × Obj)} {σ : St} {H : Hp} {s : Shared}
end

/-! ### == of data -/
mutual
def pdEq : PyData → PyData → Bool
  | .none, .none => true
  | .bool a, .bool b => a == b
  | .bool a, .int b => (if a then 1 else 0) == b
  | .int a, .bool b => a == (if b then 1 else 0)
  | .int a, .int b => a == b
  | .str a, .str b => a == b
  | .tuple a, .tuple b => pdEqs a b
  | .list a, .list b => pdEqs a b
  | _, _ => false
def pdEqs : List PyData → List PyData → Bool
  | [], [] => true
  | a :: r, b :: t => pdEq a b && pdEqs r t
  | _, _ => false
end
theorem pdEqs_iff : ∀ (ds es : List PyData), pdEqs ds es = ((List.range (min ds.length es.length)).all (fun j => pdEq (ds.getD j .none) (es.getD j .none)) && ds.length == es.length)
  | [], [] => by simp [pdEqs]
  | [], _ :: _ => by simp [pdEqs]
  | _ :: _, [] => by simp [pdEqs]
  | a :: r, b :: t => by
    rw [pdEqs, pdEqs_iff r t, List.length_cons, List.length_cons, Nat.succ_min_succ, List.range_succ_eq_map, List.all_cons, List.all_map]
    simp only [List.getD_cons_zero, Bool.and_assoc]
    congr 1
    have e : (r.length + 1 == t.length + 1) = (r.length == t.length) := by
      rw [Bool.eq_iff_iff]; simp
    rw [e]
    congr 1
end L2

set_option Elab.async false
set_option linter.all false
set_option maxRecDepth 100000
set_option maxHeartbeats 4000000
namespace L2
open PySem PySem.Spec PyProof.Rows PySem.SeqAt

mutual
def pdDep : PyData → Nat
  | .tuple xs => pdDeps xs + 1
  | .list xs => pdDeps xs + 1
  | _ => 0
def pdDeps : List PyData → Nat
  | [] => 0
  | d :: r => max (pdDep d) (pdDeps r)
end
section
variable {X : Cx} {pins : List (Addr × Obj)} {σ : St} {H : Hp} {s : Shared}
mutual
/-- one value, one datum -/
theorem Rep.fn (I : Inv X pins σ H s) : ∀ {v : V} {d e : PyData} {u : Value}, Rep X.K H v d → Rep X.K H v e → RelV v u → d = e ∧ pdEq d d = true
  | _, _, _, _, .non, .non, _ => ⟨rfl, rfl⟩
  | _, _, _, _, .bl b, .bl _, _ => ⟨rfl, by simp [pdEq]⟩
  | _, _, _, _, .int i, .int _, _ => ⟨rfl, by simp [pdEq]⟩
  | _, _, _, _, .str x, .str _, _ => ⟨rfl, by simp [pdEq]⟩
  | _, _, _, _, .tup h1 r1, .tup h2 r2, r => by
    have e := I.tuple_inj h1 h2
    subst e
    obtain ⟨its, rv, _, _⟩ := I.tuple h1
    obtain ⟨e, q⟩ := Reps.fn I r1 r2 rv
    exact ⟨by rw [e], q⟩
  | _, _, _, _, .lst h1 r1, .lst h2 r2, r => by
    have e := I.list_inj h1 h2
    subst e
    obtain ⟨its, rv, _, _⟩ := I.list h1
    obtain ⟨e, q⟩ := Reps.fn I r1 r2 rv
    exact ⟨by rw [e], q⟩
  | _, _, _, _, .tup h1 _, .lst h2 _, r => by
    obtain ⟨_, _, ⟨o, e1, c1, _⟩, _⟩ := I.tuple h1
    obtain ⟨_, _, ⟨o', n, e2, c2, _⟩, _⟩ := I.list h2
    rw [e1] at e2; cases e2
    rw [c1] at c2; injection c2 with z; exact absurd z (by decide)
  | _, _, _, _, .lst h2 _, .tup h1 _, r => by
    obtain ⟨_, _, ⟨o, e1, c1, _⟩, _⟩ := I.tuple h1
    obtain ⟨_, _, ⟨o', n, e2, c2, _⟩, _⟩ := I.list h2
    rw [e1] at e2; cases e2
    rw [c1] at c2; injection c2 with z; exact absurd z (by decide)
theorem Reps.fn (I : Inv X pins σ H s) : ∀ {v : List V} {d e : List PyData} {u : List Value}, Reps X.K H v d → Reps X.K H v e → Vals v u → d = e ∧ pdEqs d d = true
  | _, _, _, _, .nil, .nil, _ => ⟨rfl, rfl⟩
  | _, _, _, _, .cons a b, .cons c d, .cons r rs => by
    obtain ⟨e1, q1⟩ := Rep.fn I a c r
    obtain ⟨e2, q2⟩ := Reps.fn I b d rs
    exact ⟨by rw [e1, e2], by simp [pdEqs, q1, q2]⟩
end
theorem allEq {vs ws : List V} {ds es : List PyData} {us xs : List Value} {A : Around} (rs1 : Reps X.K H vs ds) (rs2 : Reps X.K H ws es) (rv1 : Vals vs us) (rv2 : Vals ws xs) :
    ((List.range (min us.toArray.size xs.toArray.size)).all (fun j => pdEq (ds.getD j .none) (es.getD j .none)) && us.toArray.size == xs.toArray.size) = pdEqs ds es := by
  rw [pdEqs_iff, List.size_toArray, List.size_toArray, ← rv1.length, ← rv2.length, rs1.length, rs2.length]
theorem rcT {l b : Addr} {vs ws : List V} {ds es : List PyData} {us xs : List Value} {A : Around} (rs1 : Reps X.K H vs ds) (rs2 : Reps X.K H ws es) (rv1 : Vals vs us) (rv2 : Vals ws xs) (p1 : IsTup s.heap l us.toArray) (p2 : IsTup s.heap b xs.toArray) (hu : A.units < cLine)
    (he : ∀ j (h1 : j < us.length) (h2 : j < xs.length), EqAt A.in1 s us[j] xs[j] (pdEq (ds.getD j .none) (es.getD j .none))) : RcAt A s (.ref l) (.ref b) (pdEq (.tuple ds) (.tuple es)) := by
  show RcAt A s (.ref l) (.ref b) (pdEqs ds es)
  rw [← allEq (A := A) rs1 rs2 rv1 rv2]
  exact RcAt.tuples (show s.heap.IsTuple l us.toArray from p1) (show s.heap.IsTuple b xs.toArray from p2) hu fun j h1 h2 => by simpa using he j (by simpa using h1) (by simpa using h2)
theorem rcL {l b : Addr} {vs ws : List V} {ds es : List PyData} {us xs : List Value} {A : Around} (rs1 : Reps X.K H vs ds) (rs2 : Reps X.K H ws es) (rv1 : Vals vs us) (rv2 : Vals ws xs) (p1 : s.heap.IsList l us.toArray) (p2 : s.heap.IsList b xs.toArray) (hu : A.units < cLine)
    (he : ∀ j (h1 : j < us.length) (h2 : j < xs.length), EqAt A.in1 s us[j] xs[j] (pdEq (ds.getD j .none) (es.getD j .none))) : RcAt A s (.ref l) (.ref b) (pdEq (.list ds) (.list es)) := by
  show RcAt A s (.ref l) (.ref b) (pdEqs ds es)
  have q := allEq (A := A) rs1 rs2 rv1 rv2
  by_cases hz : us.toArray.size = xs.toArray.size
  · rw [← q, hz, Nat.min_self, beq_self_eq_true, Bool.and_true, ← hz]
    exact RcAt.lists p1 p2 hz hu fun j h1 h2 => by simpa using he j (by simpa using h1) (by simpa using h2)
  · have e : pdEqs ds es = false := by
      rw [← q]
      have : (us.toArray.size == xs.toArray.size) = false := by simpa using hz
      rw [this, Bool.and_false]
    rw [e]
    exact RcAt.lists_lengths p1 p2 (by simpa using hz) hu
theorem eqT (I : Inv X pins σ H s) {l b : Addr} {vs ws : List V} {ds es : List PyData} {us xs : List Value} {A : Around} (h1 : SqT X.K H l vs) (h2 : SqT X.K H b ws) (rs1 : Reps X.K H vs ds) (rs2 : Reps X.K H ws es) (rv1 : Vals vs us) (rv2 : Vals ws xs) (p1 : IsTup s.heap l us.toArray) (p2 : IsTup s.heap b xs.toArray) (hu : A.units < cLine)
    (he : ∀ j (h1 : j < us.length) (h2 : j < xs.length), EqAt A.in1 s us[j] xs[j] (pdEq (ds.getD j .none) (es.getD j .none))) : EqAt A s (.ref l) (.ref b) (pdEq (.tuple ds) (.tuple es)) := by
  by_cases hlb : l = b
  · subst hlb
    obtain ⟨e, q⟩ := Rep.fn I (.tup h1 rs1) (.tup h2 rs2) (u := .ref l) rfl
    rw [← e, q]
    exact EqAt.same _
  · exact EqAt.of_refs hlb (rcT rs1 rs2 rv1 rv2 p1 p2 hu he)
theorem eqL (I : Inv X pins σ H s) {l b : Addr} {vs ws : List V} {ds es : List PyData} {us xs : List Value} {A : Around} (h1 : SqL X.K H l vs) (h2 : SqL X.K H b ws) (rs1 : Reps X.K H vs ds) (rs2 : Reps X.K H ws es) (rv1 : Vals vs us) (rv2 : Vals ws xs) (p1 : s.heap.IsList l us.toArray) (p2 : s.heap.IsList b xs.toArray) (hu : A.units < cLine)
    (he : ∀ j (h1 : j < us.length) (h2 : j < xs.length), EqAt A.in1 s us[j] xs[j] (pdEq (ds.getD j .none) (es.getD j .none))) : EqAt A s (.ref l) (.ref b) (pdEq (.list ds) (.list es)) := by
  by_cases hlb : l = b
  · subst hlb
    obtain ⟨e, q⟩ := Rep.fn I (.lst h1 rs1) (.lst h2 rs2) (u := .ref l) rfl
    rw [← e, q]
    exact EqAt.same _
  · exact EqAt.of_refs hlb (rcL rs1 rs2 rv1 rv2 p1 p2 hu he)
theorem hu00 {A : Around} {n : Nat} (h : A.units + n < cLine) : A.units < cLine := by omega
theorem hu0 {A : Around} {n : Nat} (h : A.units + (n + 1) < cLine) : A.units < cLine := by omega
theorem hu1 {A : Around} {n : Nat} (h : A.units + (n + 1) < cLine) : A.in1.units + n < cLine := by show A.units + 1 + n < cLine; omega
mutual
theorem eq_at (I : Inv X pins σ H s) : ∀ {v w : V} {d e : PyData} {u x : Value} {A : Around}, Rep X.K H v d → Rep X.K H w e → RelV v u → RelV w x → A.units + pdDep d < cLine → EqAt A s u x (pdEq d e)
  | _, _, _, _, u, x, A, .non, .non, r1, r2, hu => by
    cases (show u = Value.none from r1)
    cases (show x = Value.none from r2)
    exact EqAt.same _
  | _, _, _, _, u, x, A, .non, .bl b2, r1, r2, hu => by
    cases (show u = Value.none from r1)
    cases (show x = Value.bool b2 from r2)
    exact EqAt.none_bool b2
  | _, _, _, _, u, x, A, .non, .int i2, r1, r2, hu => by
    cases (show u = Value.none from r1)
    obtain ⟨t2, e2⟩ := (show ∃ t, x = Value.int i2 t from r2); subst e2
    exact EqAt.none_int i2 t2
  | _, _, _, _, u, x, A, .non, .str y2, r1, r2, hu => by
    cases (show u = Value.none from r1)
    obtain ⟨t2, e2⟩ := (show ∃ t, x = Value.str y2 t from r2); subst e2
    exact EqAt.none_str y2 t2
  | _, _, _, _, u, x, A, .non, .lst h2 rs2, r1, r2, hu => by
    cases (show u = Value.none from r1)
    cases (show x = Value.ref _ from r2); obtain ⟨its2, rv2, p2, _⟩ := I.list h2
    exact EqAt.none_list p2.isList (hu00 hu)
  | _, _, _, _, u, x, A, .non, .tup h2 rs2, r1, r2, hu => by
    cases (show u = Value.none from r1)
    cases (show x = Value.ref _ from r2); obtain ⟨its2, rv2, p2, _⟩ := I.tuple h2
    exact EqAt.none_tuple p2 (hu00 hu)
  | _, _, _, _, u, x, A, .bl b1, .non, r1, r2, hu => by
    cases (show u = Value.bool b1 from r1)
    cases (show x = Value.none from r2)
    exact EqAt.bool_none b1
  | _, _, _, _, u, x, A, .bl b1, .bl b2, r1, r2, hu => by
    cases (show u = Value.bool b1 from r1)
    cases (show x = Value.bool b2 from r2)
    exact EqAt.bool_bool b1 b2
  | _, _, _, _, u, x, A, .bl b1, .int i2, r1, r2, hu => by
    cases (show u = Value.bool b1 from r1)
    obtain ⟨t2, e2⟩ := (show ∃ t, x = Value.int i2 t from r2); subst e2
    exact EqAt.bool_int b1 i2 t2
  | _, _, _, _, u, x, A, .bl b1, .str y2, r1, r2, hu => by
    cases (show u = Value.bool b1 from r1)
    obtain ⟨t2, e2⟩ := (show ∃ t, x = Value.str y2 t from r2); subst e2
    exact EqAt.bool_str b1 y2 t2
  | _, _, _, _, u, x, A, .bl b1, .lst h2 rs2, r1, r2, hu => by
    cases (show u = Value.bool b1 from r1)
    cases (show x = Value.ref _ from r2); obtain ⟨its2, rv2, p2, _⟩ := I.list h2
    exact EqAt.bool_list b1 p2.isList (hu00 hu)
  | _, _, _, _, u, x, A, .bl b1, .tup h2 rs2, r1, r2, hu => by
    cases (show u = Value.bool b1 from r1)
    cases (show x = Value.ref _ from r2); obtain ⟨its2, rv2, p2, _⟩ := I.tuple h2
    exact EqAt.bool_tuple b1 p2 (hu00 hu)
  | _, _, _, _, u, x, A, .int i1, .non, r1, r2, hu => by
    obtain ⟨t1, e1⟩ := (show ∃ t, u = Value.int i1 t from r1); subst e1
    cases (show x = Value.none from r2)
    exact EqAt.int_none i1 t1
  | _, _, _, _, u, x, A, .int i1, .bl b2, r1, r2, hu => by
    obtain ⟨t1, e1⟩ := (show ∃ t, u = Value.int i1 t from r1); subst e1
    cases (show x = Value.bool b2 from r2)
    exact EqAt.int_bool i1 t1 b2
  | _, _, _, _, u, x, A, .int i1, .int i2, r1, r2, hu => by
    obtain ⟨t1, e1⟩ := (show ∃ t, u = Value.int i1 t from r1); subst e1
    obtain ⟨t2, e2⟩ := (show ∃ t, x = Value.int i2 t from r2); subst e2
    exact EqAt.int_int i1 t1 i2 t2
  | _, _, _, _, u, x, A, .int i1, .str y2, r1, r2, hu => by
    obtain ⟨t1, e1⟩ := (show ∃ t, u = Value.int i1 t from r1); subst e1
    obtain ⟨t2, e2⟩ := (show ∃ t, x = Value.str y2 t from r2); subst e2
    exact EqAt.int_str i1 t1 y2 t2
  | _, _, _, _, u, x, A, .int i1, .lst h2 rs2, r1, r2, hu => by
    obtain ⟨t1, e1⟩ := (show ∃ t, u = Value.int i1 t from r1); subst e1
    cases (show x = Value.ref _ from r2); obtain ⟨its2, rv2, p2, _⟩ := I.list h2
    exact EqAt.int_list i1 t1 p2.isList (hu00 hu)
  | _, _, _, _, u, x, A, .int i1, .tup h2 rs2, r1, r2, hu => by
    obtain ⟨t1, e1⟩ := (show ∃ t, u = Value.int i1 t from r1); subst e1
    cases (show x = Value.ref _ from r2); obtain ⟨its2, rv2, p2, _⟩ := I.tuple h2
    exact EqAt.int_tuple i1 t1 p2 (hu00 hu)
  | _, _, _, _, u, x, A, .str y1, .non, r1, r2, hu => by
    obtain ⟨t1, e1⟩ := (show ∃ t, u = Value.str y1 t from r1); subst e1
    cases (show x = Value.none from r2)
    exact EqAt.str_none y1 t1
  | _, _, _, _, u, x, A, .str y1, .bl b2, r1, r2, hu => by
    obtain ⟨t1, e1⟩ := (show ∃ t, u = Value.str y1 t from r1); subst e1
    cases (show x = Value.bool b2 from r2)
    exact EqAt.str_bool y1 t1 b2
  | _, _, _, _, u, x, A, .str y1, .int i2, r1, r2, hu => by
    obtain ⟨t1, e1⟩ := (show ∃ t, u = Value.str y1 t from r1); subst e1
    obtain ⟨t2, e2⟩ := (show ∃ t, x = Value.int i2 t from r2); subst e2
    exact EqAt.str_int y1 t1 i2 t2
  | _, _, _, _, u, x, A, .str y1, .str y2, r1, r2, hu => by
    obtain ⟨t1, e1⟩ := (show ∃ t, u = Value.str y1 t from r1); subst e1
    obtain ⟨t2, e2⟩ := (show ∃ t, x = Value.str y2 t from r2); subst e2
    exact EqAt.str_str y1 t1 y2 t2
  | _, _, _, _, u, x, A, .str y1, .lst h2 rs2, r1, r2, hu => by
    obtain ⟨t1, e1⟩ := (show ∃ t, u = Value.str y1 t from r1); subst e1
    cases (show x = Value.ref _ from r2); obtain ⟨its2, rv2, p2, _⟩ := I.list h2
    exact EqAt.str_list y1 t1 p2.isList (hu00 hu)
  | _, _, _, _, u, x, A, .str y1, .tup h2 rs2, r1, r2, hu => by
    obtain ⟨t1, e1⟩ := (show ∃ t, u = Value.str y1 t from r1); subst e1
    cases (show x = Value.ref _ from r2); obtain ⟨its2, rv2, p2, _⟩ := I.tuple h2
    exact EqAt.str_tuple y1 t1 p2 (hu00 hu)
  | _, _, _, _, u, x, A, .lst h1 rs1, .non, r1, r2, hu => by
    cases (show u = Value.ref _ from r1); obtain ⟨its1, rv1, p1, _⟩ := I.list h1
    cases (show x = Value.none from r2)
    exact EqAt.list_none p1.isList (hu00 hu)
  | _, _, _, _, u, x, A, .lst h1 rs1, .bl b2, r1, r2, hu => by
    cases (show u = Value.ref _ from r1); obtain ⟨its1, rv1, p1, _⟩ := I.list h1
    cases (show x = Value.bool b2 from r2)
    exact EqAt.list_bool b2 p1.isList (hu00 hu)
  | _, _, _, _, u, x, A, .lst h1 rs1, .int i2, r1, r2, hu => by
    cases (show u = Value.ref _ from r1); obtain ⟨its1, rv1, p1, _⟩ := I.list h1
    obtain ⟨t2, e2⟩ := (show ∃ t, x = Value.int i2 t from r2); subst e2
    exact EqAt.list_int i2 t2 p1.isList (hu00 hu)
  | _, _, _, _, u, x, A, .lst h1 rs1, .str y2, r1, r2, hu => by
    cases (show u = Value.ref _ from r1); obtain ⟨its1, rv1, p1, _⟩ := I.list h1
    obtain ⟨t2, e2⟩ := (show ∃ t, x = Value.str y2 t from r2); subst e2
    exact EqAt.list_str y2 t2 p1.isList (hu00 hu)
  | _, _, _, _, u, x, A, .lst h1 rs1, .lst h2 rs2, r1, r2, hu => by
    cases (show u = Value.ref _ from r1); obtain ⟨its1, rv1, p1, _⟩ := I.list h1
    cases (show x = Value.ref _ from r2); obtain ⟨its2, rv2, p2, _⟩ := I.list h2
    exact eqL I h1 h2 rs1 rs2 rv1 rv2 p1.isList p2.isList (hu0 hu) (eqs_at I rs1 rs2 rv1 rv2 (hu1 hu))
  | _, _, _, _, u, x, A, .lst h1 rs1, .tup h2 rs2, r1, r2, hu => by
    cases (show u = Value.ref _ from r1); obtain ⟨its1, rv1, p1, _⟩ := I.list h1
    cases (show x = Value.ref _ from r2); obtain ⟨its2, rv2, p2, _⟩ := I.tuple h2
    exact EqAt.list_tuple p1.isList p2 (hu00 hu)
  | _, _, _, _, u, x, A, .tup h1 rs1, .non, r1, r2, hu => by
    cases (show u = Value.ref _ from r1); obtain ⟨its1, rv1, p1, _⟩ := I.tuple h1
    cases (show x = Value.none from r2)
    exact EqAt.tuple_none p1 (hu00 hu)
  | _, _, _, _, u, x, A, .tup h1 rs1, .bl b2, r1, r2, hu => by
    cases (show u = Value.ref _ from r1); obtain ⟨its1, rv1, p1, _⟩ := I.tuple h1
    cases (show x = Value.bool b2 from r2)
    exact EqAt.tuple_bool b2 p1 (hu00 hu)
  | _, _, _, _, u, x, A, .tup h1 rs1, .int i2, r1, r2, hu => by
    cases (show u = Value.ref _ from r1); obtain ⟨its1, rv1, p1, _⟩ := I.tuple h1
    obtain ⟨t2, e2⟩ := (show ∃ t, x = Value.int i2 t from r2); subst e2
    exact EqAt.tuple_int i2 t2 p1 (hu00 hu)
  | _, _, _, _, u, x, A, .tup h1 rs1, .str y2, r1, r2, hu => by
    cases (show u = Value.ref _ from r1); obtain ⟨its1, rv1, p1, _⟩ := I.tuple h1
    obtain ⟨t2, e2⟩ := (show ∃ t, x = Value.str y2 t from r2); subst e2
    exact EqAt.tuple_str y2 t2 p1 (hu00 hu)
  | _, _, _, _, u, x, A, .tup h1 rs1, .lst h2 rs2, r1, r2, hu => by
    cases (show u = Value.ref _ from r1); obtain ⟨its1, rv1, p1, _⟩ := I.tuple h1
    cases (show x = Value.ref _ from r2); obtain ⟨its2, rv2, p2, _⟩ := I.list h2
    exact EqAt.tuple_list p1 p2.isList (hu00 hu)
  | _, _, _, _, u, x, A, .tup h1 rs1, .tup h2 rs2, r1, r2, hu => by
    cases (show u = Value.ref _ from r1); obtain ⟨its1, rv1, p1, _⟩ := I.tuple h1
    cases (show x = Value.ref _ from r2); obtain ⟨its2, rv2, p2, _⟩ := I.tuple h2
    exact eqT I h1 h2 rs1 rs2 rv1 rv2 p1 p2 (hu0 hu) (eqs_at I rs1 rs2 rv1 rv2 (hu1 hu))
theorem eqs_at (I : Inv X pins σ H s) : ∀ {vs ws : List V} {ds es : List PyData} {us xs : List Value} {A : Around}, Reps X.K H vs ds → Reps X.K H ws es → Vals vs us → Vals ws xs → A.units + pdDeps ds < cLine →
    ∀ j (h1 : j < us.length) (h2 : j < xs.length), EqAt A s us[j] xs[j] (pdEq (ds.getD j .none) (es.getD j .none))
  | _, _, _, _, _, _, _, .nil, _, .nil, _, _, j, h1, _ => absurd h1 (Nat.not_lt_zero _)
  | _, _, _, _, _, _, _, .cons _ _, .nil, .cons _ _, .nil, _, j, _, h2 => absurd h2 (Nat.not_lt_zero _)
  | _, _, _, _, _, _, _, .cons a b, .cons c d, .cons r rs, .cons t ts, hu, 0, _, _ => eq_at I a c r t (by simp only [pdDeps] at hu; simp only [List.getD_cons_zero]; omega)
  | _, _, _, _, _, _, _, .cons a b, .cons c d, .cons r rs, .cons t ts, hu, j + 1, h1, h2 => eqs_at I b d rs ts (by simp only [pdDeps] at hu; omega) j (by simpa using h1) (by simpa using h2)
end
theorem rc_at (I : Inv X pins σ H s) : ∀ {v w : V} {d e : PyData} {u x : Value} {A : Around}, Rep X.K H v d → Rep X.K H w e → RelV v u → RelV w x → A.units + pdDep d < cLine → RcAt A s u x (pdEq d e)
  | _, _, _, _, u, x, A, .non, .non, r1, r2, hu => by
    cases (show u = Value.none from r1)
    cases (show x = Value.none from r2)
    exact RcAt.none_none
  | _, _, _, _, u, x, A, .non, .bl b2, r1, r2, hu => by
    cases (show u = Value.none from r1)
    cases (show x = Value.bool b2 from r2)
    exact RcAt.none_bool b2
  | _, _, _, _, u, x, A, .non, .int i2, r1, r2, hu => by
    cases (show u = Value.none from r1)
    obtain ⟨t2, e2⟩ := (show ∃ t, x = Value.int i2 t from r2); subst e2
    exact RcAt.none_int i2 t2
  | _, _, _, _, u, x, A, .non, .str y2, r1, r2, hu => by
    cases (show u = Value.none from r1)
    obtain ⟨t2, e2⟩ := (show ∃ t, x = Value.str y2 t from r2); subst e2
    exact RcAt.none_str y2 t2
  | _, _, _, _, u, x, A, .non, .lst h2 rs2, r1, r2, hu => by
    cases (show u = Value.none from r1)
    cases (show x = Value.ref _ from r2); obtain ⟨its2, rv2, p2, _⟩ := I.list h2
    exact RcAt.none_list p2.isList (hu00 hu)
  | _, _, _, _, u, x, A, .non, .tup h2 rs2, r1, r2, hu => by
    cases (show u = Value.none from r1)
    cases (show x = Value.ref _ from r2); obtain ⟨its2, rv2, p2, _⟩ := I.tuple h2
    exact RcAt.none_tuple p2 (hu00 hu)
  | _, _, _, _, u, x, A, .bl b1, .non, r1, r2, hu => by
    cases (show u = Value.bool b1 from r1)
    cases (show x = Value.none from r2)
    exact RcAt.bool_none b1
  | _, _, _, _, u, x, A, .bl b1, .bl b2, r1, r2, hu => by
    cases (show u = Value.bool b1 from r1)
    cases (show x = Value.bool b2 from r2)
    exact RcAt.bool_bool b1 b2
  | _, _, _, _, u, x, A, .bl b1, .int i2, r1, r2, hu => by
    cases (show u = Value.bool b1 from r1)
    obtain ⟨t2, e2⟩ := (show ∃ t, x = Value.int i2 t from r2); subst e2
    exact RcAt.bool_int b1 i2 t2
  | _, _, _, _, u, x, A, .bl b1, .str y2, r1, r2, hu => by
    cases (show u = Value.bool b1 from r1)
    obtain ⟨t2, e2⟩ := (show ∃ t, x = Value.str y2 t from r2); subst e2
    exact RcAt.bool_str b1 y2 t2
  | _, _, _, _, u, x, A, .bl b1, .lst h2 rs2, r1, r2, hu => by
    cases (show u = Value.bool b1 from r1)
    cases (show x = Value.ref _ from r2); obtain ⟨its2, rv2, p2, _⟩ := I.list h2
    exact RcAt.bool_list b1 p2.isList (hu00 hu)
  | _, _, _, _, u, x, A, .bl b1, .tup h2 rs2, r1, r2, hu => by
    cases (show u = Value.bool b1 from r1)
    cases (show x = Value.ref _ from r2); obtain ⟨its2, rv2, p2, _⟩ := I.tuple h2
    exact RcAt.bool_tuple b1 p2 (hu00 hu)
  | _, _, _, _, u, x, A, .int i1, .non, r1, r2, hu => by
    obtain ⟨t1, e1⟩ := (show ∃ t, u = Value.int i1 t from r1); subst e1
    cases (show x = Value.none from r2)
    exact RcAt.int_none i1 t1
  | _, _, _, _, u, x, A, .int i1, .bl b2, r1, r2, hu => by
    obtain ⟨t1, e1⟩ := (show ∃ t, u = Value.int i1 t from r1); subst e1
    cases (show x = Value.bool b2 from r2)
    exact RcAt.int_bool i1 t1 b2
  | _, _, _, _, u, x, A, .int i1, .int i2, r1, r2, hu => by
    obtain ⟨t1, e1⟩ := (show ∃ t, u = Value.int i1 t from r1); subst e1
    obtain ⟨t2, e2⟩ := (show ∃ t, x = Value.int i2 t from r2); subst e2
    exact RcAt.int_int i1 t1 i2 t2
  | _, _, _, _, u, x, A, .int i1, .str y2, r1, r2, hu => by
    obtain ⟨t1, e1⟩ := (show ∃ t, u = Value.int i1 t from r1); subst e1
    obtain ⟨t2, e2⟩ := (show ∃ t, x = Value.str y2 t from r2); subst e2
    exact RcAt.int_str i1 t1 y2 t2
  | _, _, _, _, u, x, A, .int i1, .lst h2 rs2, r1, r2, hu => by
    obtain ⟨t1, e1⟩ := (show ∃ t, u = Value.int i1 t from r1); subst e1
    cases (show x = Value.ref _ from r2); obtain ⟨its2, rv2, p2, _⟩ := I.list h2
    exact RcAt.int_list i1 t1 p2.isList (hu00 hu)
  | _, _, _, _, u, x, A, .int i1, .tup h2 rs2, r1, r2, hu => by
    obtain ⟨t1, e1⟩ := (show ∃ t, u = Value.int i1 t from r1); subst e1
    cases (show x = Value.ref _ from r2); obtain ⟨its2, rv2, p2, _⟩ := I.tuple h2
    exact RcAt.int_tuple i1 t1 p2 (hu00 hu)
  | _, _, _, _, u, x, A, .str y1, .non, r1, r2, hu => by
    obtain ⟨t1, e1⟩ := (show ∃ t, u = Value.str y1 t from r1); subst e1
    cases (show x = Value.none from r2)
    exact RcAt.str_none y1 t1
  | _, _, _, _, u, x, A, .str y1, .bl b2, r1, r2, hu => by
    obtain ⟨t1, e1⟩ := (show ∃ t, u = Value.str y1 t from r1); subst e1
    cases (show x = Value.bool b2 from r2)
    exact RcAt.str_bool y1 t1 b2
  | _, _, _, _, u, x, A, .str y1, .int i2, r1, r2, hu => by
    obtain ⟨t1, e1⟩ := (show ∃ t, u = Value.str y1 t from r1); subst e1
    obtain ⟨t2, e2⟩ := (show ∃ t, x = Value.int i2 t from r2); subst e2
    exact RcAt.str_int y1 t1 i2 t2
  | _, _, _, _, u, x, A, .str y1, .str y2, r1, r2, hu => by
    obtain ⟨t1, e1⟩ := (show ∃ t, u = Value.str y1 t from r1); subst e1
    obtain ⟨t2, e2⟩ := (show ∃ t, x = Value.str y2 t from r2); subst e2
    exact RcAt.str_str y1 t1 y2 t2
  | _, _, _, _, u, x, A, .str y1, .lst h2 rs2, r1, r2, hu => by
    obtain ⟨t1, e1⟩ := (show ∃ t, u = Value.str y1 t from r1); subst e1
    cases (show x = Value.ref _ from r2); obtain ⟨its2, rv2, p2, _⟩ := I.list h2
    exact RcAt.str_list y1 t1 p2.isList (hu00 hu)
  | _, _, _, _, u, x, A, .str y1, .tup h2 rs2, r1, r2, hu => by
    obtain ⟨t1, e1⟩ := (show ∃ t, u = Value.str y1 t from r1); subst e1
    cases (show x = Value.ref _ from r2); obtain ⟨its2, rv2, p2, _⟩ := I.tuple h2
    exact RcAt.str_tuple y1 t1 p2 (hu00 hu)
  | _, _, _, _, u, x, A, .lst h1 rs1, .non, r1, r2, hu => by
    cases (show u = Value.ref _ from r1); obtain ⟨its1, rv1, p1, _⟩ := I.list h1
    cases (show x = Value.none from r2)
    exact RcAt.list_none p1.isList (hu00 hu)
  | _, _, _, _, u, x, A, .lst h1 rs1, .bl b2, r1, r2, hu => by
    cases (show u = Value.ref _ from r1); obtain ⟨its1, rv1, p1, _⟩ := I.list h1
    cases (show x = Value.bool b2 from r2)
    exact RcAt.list_bool b2 p1.isList (hu00 hu)
  | _, _, _, _, u, x, A, .lst h1 rs1, .int i2, r1, r2, hu => by
    cases (show u = Value.ref _ from r1); obtain ⟨its1, rv1, p1, _⟩ := I.list h1
    obtain ⟨t2, e2⟩ := (show ∃ t, x = Value.int i2 t from r2); subst e2
    exact RcAt.list_int i2 t2 p1.isList (hu00 hu)
  | _, _, _, _, u, x, A, .lst h1 rs1, .str y2, r1, r2, hu => by
    cases (show u = Value.ref _ from r1); obtain ⟨its1, rv1, p1, _⟩ := I.list h1
    obtain ⟨t2, e2⟩ := (show ∃ t, x = Value.str y2 t from r2); subst e2
    exact RcAt.list_str y2 t2 p1.isList (hu00 hu)
  | _, _, _, _, u, x, A, .lst h1 rs1, .lst h2 rs2, r1, r2, hu => by
    cases (show u = Value.ref _ from r1); obtain ⟨its1, rv1, p1, _⟩ := I.list h1
    cases (show x = Value.ref _ from r2); obtain ⟨its2, rv2, p2, _⟩ := I.list h2
    exact rcL rs1 rs2 rv1 rv2 p1.isList p2.isList (hu0 hu) (eqs_at I rs1 rs2 rv1 rv2 (hu1 hu))
  | _, _, _, _, u, x, A, .lst h1 rs1, .tup h2 rs2, r1, r2, hu => by
    cases (show u = Value.ref _ from r1); obtain ⟨its1, rv1, p1, _⟩ := I.list h1
    cases (show x = Value.ref _ from r2); obtain ⟨its2, rv2, p2, _⟩ := I.tuple h2
    exact RcAt.list_tuple p1.isList p2 (hu00 hu)
  | _, _, _, _, u, x, A, .tup h1 rs1, .non, r1, r2, hu => by
    cases (show u = Value.ref _ from r1); obtain ⟨its1, rv1, p1, _⟩ := I.tuple h1
    cases (show x = Value.none from r2)
    exact RcAt.tuple_none p1 (hu00 hu)
  | _, _, _, _, u, x, A, .tup h1 rs1, .bl b2, r1, r2, hu => by
    cases (show u = Value.ref _ from r1); obtain ⟨its1, rv1, p1, _⟩ := I.tuple h1
    cases (show x = Value.bool b2 from r2)
    exact RcAt.tuple_bool b2 p1 (hu00 hu)
  | _, _, _, _, u, x, A, .tup h1 rs1, .int i2, r1, r2, hu => by
    cases (show u = Value.ref _ from r1); obtain ⟨its1, rv1, p1, _⟩ := I.tuple h1
    obtain ⟨t2, e2⟩ := (show ∃ t, x = Value.int i2 t from r2); subst e2
    exact RcAt.tuple_int i2 t2 p1 (hu00 hu)
  | _, _, _, _, u, x, A, .tup h1 rs1, .str y2, r1, r2, hu => by
    cases (show u = Value.ref _ from r1); obtain ⟨its1, rv1, p1, _⟩ := I.tuple h1
    obtain ⟨t2, e2⟩ := (show ∃ t, x = Value.str y2 t from r2); subst e2
    exact RcAt.tuple_str y2 t2 p1 (hu00 hu)
  | _, _, _, _, u, x, A, .tup h1 rs1, .lst h2 rs2, r1, r2, hu => by
    cases (show u = Value.ref _ from r1); obtain ⟨its1, rv1, p1, _⟩ := I.tuple h1
    cases (show x = Value.ref _ from r2); obtain ⟨its2, rv2, p2, _⟩ := I.list h2
    exact RcAt.tuple_list p1 p2.isList (hu00 hu)
  | _, _, _, _, u, x, A, .tup h1 rs1, .tup h2 rs2, r1, r2, hu => by
    cases (show u = Value.ref _ from r1); obtain ⟨its1, rv1, p1, _⟩ := I.tuple h1
    cases (show x = Value.ref _ from r2); obtain ⟨its2, rv2, p2, _⟩ := I.tuple h2
    exact rcT rs1 rs2 rv1 rv2 p1 p2 (hu0 hu) (eqs_at I rs1 rs2 rv1 rv2 (hu1 hu))
end
end L2

set_option Elab.async false
set_option linter.all false
set_option maxRecDepth 100000
set_option maxHeartbeats 4000000
namespace L2
open PySem PySem.Spec PyProof.Rows PySem.SeqAt
section
variable {X : Cx}
/-! ### == and != of data -/
def rEqD (K : PySem.W.Frag) : R2 := fun x y H Q => ∃ d e, Rep K H x d ∧ Rep K H y e ∧ pdDep d ≤ 60 ∧ Q (.bl (pdEq d e)) H
theorem op_eqD (hu : X.A.units + 64 < cLine) : OpR X (compareOp .Eq) (rEqD X.K) := by
  intro pins s σ H x y v u Q I rx ry h
  obtain ⟨d, e, h1, h2, hd, q⟩ := h
  exact rc_at I h1 h2 rx ry (by omega) _ _ _ _ ⟨.bl _, H, I, rfl, q⟩
theorem pdDep_le {e : PyData} : ∀ {es : List PyData}, e ∈ es → pdDep e ≤ pdDeps es
  | _ :: _, .head _ => by simp only [pdDeps]; omega
  | _ :: r, .tail _ h => by have := pdDep_le h; simp only [pdDeps]; omega
/-! ### isinstance -/
def tyD : PyData → String
  | .none => "NoneType"
  | .bool _ => "bool"
  | .int _ => "int"
  | .str _ => "str"
  | .list _ => "list"
  | .tuple _ => "tuple"
  | .dict _ => "dict"
theorem isD {pins : List (Addr × Obj)} {σ : St} {H : Hp} {s : Shared} {A : Around} {E : Value → Shared → Prop} {Q : Value → Shared → Prop} {v : V} {d : PyData} {u c : Value} {b : Bool} (I : Inv X pins σ H s) (r : Rep X.K H v d) (rv : RelV v u)
    (e : PySem.W.kitOne X.K (.type (tyD d)) c = some b) (h : ∀ tk, Q (.bool b) { s with toks := tk }) : wpAny (model X.prog X.w) A (call (.builtin "isinstance") [u, c]) Q E s := by
  cases r with
  | non => cases (show u = Value.none from rv); exact PySem.W.kia_one PySem.W.kitx_none I.kIn True.intro e (fun z => nomatch z) h
  | bl y => cases (show u = Value.bool y from rv); exact PySem.W.kia_one PySem.W.kitx_bool I.kIn True.intro e (fun z => nomatch z) h
  | int i => obtain ⟨t, q⟩ := (show ∃ t, u = Value.int i t from rv); cases q; exact PySem.W.kia_one PySem.W.kitx_int I.kIn True.intro e (fun z => nomatch z) h
  | str y => obtain ⟨t, q⟩ := (show ∃ t, u = Value.str y t from rv); cases q; exact PySem.W.kia_one PySem.W.kitx_str I.kIn True.intro e (fun z => nomatch z) h
  | tup g _ =>
    cases (show u = Value.ref _ from rv)
    obtain ⟨_, _, ⟨o, h1, h2, _⟩, _⟩ := I.tuple g
    exact PySem.W.kia_one PySem.W.kitx_tuple I.kIn ⟨o, h1, h2⟩ e (fun z => nomatch z) h
  | lst g _ =>
    cases (show u = Value.ref _ from rv)
    obtain ⟨_, _, ⟨o, n, h1, h2, _⟩, _⟩ := I.list g
    exact PySem.W.kia_one PySem.W.kitx_list I.kIn ⟨o, h1, h2⟩ e (fun z => nomatch z) h
theorem isD2 {pins : List (Addr × Obj)} {σ : St} {H : Hp} {s : Shared} {A : Around} {E : Value → Shared → Prop} {Q : Value → Shared → Prop} {v : V} {d : PyData} {u : Value} {tp : Addr} {dd : Option Addr} {its : List Value} {n : Nat} {sl : Array (Option Value)} {b : Bool} (I : Inv X pins σ H s) (r : Rep X.K H v d) (rv : RelV v u)
    (htp : s.heap.get? tp = some ⟨.type "tuple", dd, .seq its.toArray n, sl⟩) (e : PySem.W.kitAny X.K (.type (tyD d)) its = some b) (h : ∀ tk, Q (.bool b) { s with toks := tk }) : wpAny (model X.prog X.w) A (call (.builtin "isinstance") [u, .ref tp]) Q E s := by
  cases r with
  | non => cases (show u = Value.none from rv); exact PySem.W.kia_tup PySem.W.kitx_none I.kIn True.intro htp e (fun z => nomatch z) h
  | bl y => cases (show u = Value.bool y from rv); exact PySem.W.kia_tup PySem.W.kitx_bool I.kIn True.intro htp e (fun z => nomatch z) h
  | int i => obtain ⟨t, q⟩ := (show ∃ t, u = Value.int i t from rv); cases q; exact PySem.W.kia_tup PySem.W.kitx_int I.kIn True.intro htp e (fun z => nomatch z) h
  | str y => obtain ⟨t, q⟩ := (show ∃ t, u = Value.str y t from rv); cases q; exact PySem.W.kia_tup PySem.W.kitx_str I.kIn True.intro htp e (fun z => nomatch z) h
  | tup g _ =>
    cases (show u = Value.ref _ from rv)
    obtain ⟨_, _, ⟨o, h1, h2, _⟩, _⟩ := I.tuple g
    exact PySem.W.kia_tup PySem.W.kitx_tuple I.kIn ⟨o, h1, h2⟩ htp e (fun z => nomatch z) h
  | lst g _ =>
    cases (show u = Value.ref _ from rv)
    obtain ⟨_, _, ⟨o, n, h1, h2, _⟩, _⟩ := I.list g
    exact PySem.W.kia_tup PySem.W.kitx_list I.kIn ⟨o, h1, h2⟩ htp e (fun z => nomatch z) h
/-- isinstance(x, T), T a built-in type -/
def rIsT (K : PySem.W.Frag) : List V → Hp → VK → Prop := fun xs H Q => ∃ x n d b, xs = [x, .ty n] ∧ Rep K H x d ∧ PySem.W.kitOne K (.type (tyD d)) (.type n) = some b ∧ Q (.bl b) H
theorem call_isT : CallR X (.builtin "isinstance") (rIsT X.K) := by
  intro pins s σ H xs us Q I r h
  obtain ⟨x, n, d, b, rfl, hr, e, q⟩ := h
  cases r with
  | cons r1 r =>
    cases r with
    | cons r2 r =>
      cases r
      cases (show _ = Value.type n from r2)
      exact isD I hr r1 e fun tk => ⟨.bl b, H, I.tok tk, rfl, q⟩
/-- isinstance(x, (T, U)) -/
def rIsT2 (K : PySem.W.Frag) : List V → Hp → VK → Prop := fun xs H Q => ∃ x a n m d b, xs = [x, .ref a] ∧ H a = some (.tup [.ty n, .ty m]) ∧ Rep K H x d ∧ PySem.W.kitAny K (.type (tyD d)) [.type n, .type m] = some b ∧ Q (.bl b) H
theorem call_isT2 : CallR X (.builtin "isinstance") (rIsT2 X.K) := by
  intro pins s σ H xs us Q I r h
  obtain ⟨x, a, n, m, d, b, rfl, ha, hr, e, q⟩ := h
  cases r with
  | cons r1 r =>
    cases r with
    | cons r2 r =>
      cases r
      cases (show _ = Value.ref a from r2)
      obtain ⟨z, its, rv, o, h1, h2, k, h3⟩ := (show ObjOk X.prog X.w H s.heap a (.tup [.ty n, .ty m]) from I.hok a _ ha)
      obtain ⟨cls, dd, data, sl⟩ := o
      simp only at h2 h3
      subst h2 h3
      cases rv with
      | cons g1 rv =>
        cases rv with
        | cons g2 rv =>
          cases rv
          cases (show _ = Value.type n from g1)
          cases (show _ = Value.type m from g2)
          exact isD2 I hr r1 h1 e fun tk => ⟨.bl b, H, I.tok tk, rfl, q⟩
/-! ### all, any of a list of bools -/
theorem bools_of {xs : List V} {us : List Value} : ∀ {bs : List Bool}, xs = bs.map V.bl → Vals xs us → us = bs.map Value.bool := by
  intro bs e r
  induction bs generalizing xs us with
  | nil => subst e; cases r; rfl
  | cons b t ih =>
    subst e
    cases r with
    | cons r1 r => rw [List.map_cons, ih rfl r, (show _ = Value.bool b from r1)]
theorem range_all (bs : List Bool) : (List.range bs.length).all (fun i => bs.getD i false) = bs.all id := by
  induction bs with
  | nil => rfl
  | cons b t ih => rw [List.length_cons, List.range_succ_eq_map, List.all_cons, List.all_map, List.all_cons, ← ih]; rfl
theorem truth_bools {P : Program} {w : World} {A : Around} {bs : List Bool} : TruthOf P w A (fun i v => ((bs.map Value.bool).toArray)[i]? = some v) fun i => bs.getD i false := fun i v s Q E hP hQ => by
  dsimp only at hP hQ
  rw [List.getElem?_toArray, List.getElem?_map] at hP
  cases e : bs[i]? with
  | none => rw [e] at hP; cases hP
  | some b =>
    rw [e] at hP
    cases hP
    rw [List.getD_eq_getElem?_getD, e] at hQ
    exact wpAny_pure hQ
def rAllB (K : PySem.W.Frag) (f : List Bool → Bool) : List V → Hp → VK → Prop := fun xs H Q => ∃ a bs, xs = [.ref a] ∧ SqL K H a (bs.map V.bl) ∧ Q (.bl (f bs)) H
theorem call_allB (hh : X.calm = true) : CallR X (.builtin "all") (rAllB X.K fun bs => bs.all id) := by
  intro pins s σ H xs us Q I r h
  obtain ⟨a, bs, rfl, hq, q⟩ := h
  cases r with
  | cons r1 r =>
    cases r
    cases (show _ = Value.ref a from r1)
    obtain ⟨its, rv, p, hz⟩ := I.list hq
    have e := bools_of rfl rv
    subst e
    refine PySem.call_all_walk (wpAny_pyIter_list p.isList ?_)
    have hne : a ≠ s.heap.objs.size := (by obtain ⟨o, ho, _⟩ := p.isList; exact Nat.ne_of_lt (Heap.lt_size ho))
    refine ⟨s.heap.objs.size, _, _, _, _, _, _, rfl, Walks.list (A := X.A.in1) (I.ok.hd hh) s.heap.objs.size a hne (bs.map Value.bool).toArray, ⟨⟨_, Heap.get?_push_size _ rfl, rfl, rfl⟩, ?_⟩, truth_bools, fun h' tk hk => ?_⟩
    · obtain ⟨o, ho, hc, n, hd⟩ := p.isList
      exact ⟨o, Heap.get?_push_of_some _ ho, hc, n, hd⟩
    · rw [List.size_toArray, List.length_map, range_all]
      exact ⟨.bl _, H, I.kept fun b o e => hk b o (by simp; exact Nat.ne_of_lt (Heap.lt_size e)) (Heap.get?_push_of_some _ e), rfl, q⟩
/-! ### texts -/
theorem strs_of {us : List Value} : ∀ {ys : List Str}, Vals (ys.map V.str) us → StrsAre us ys := by
  intro ys
  induction ys generalizing us with
  | nil => intro r; cases r; exact .nil
  | cons y t ih =>
    intro r
    cases r with
    | cons r1 r =>
      obtain ⟨tk, e⟩ := (show ∃ t, _ = Value.str y t from r1)
      subst e
      exact .cons _ _ (ih r)
def rJoin (K : PySem.W.Frag) : V → List V → Hp → VK → Prop := fun x vs H Q => ∃ z a ys, x = .str z ∧ vs = [.ref a] ∧ SqL K H a (ys.map V.str) ∧ (ys.map (·.length)).sum + ys.length * z.length ≤ 16777216 ∧ Q (.str (Txt.join z ys)) H
theorem mt_join : MtR X "str.join" (rJoin X.K) := by
  intro pins s σ H x vs v us Q I rx rv h
  obtain ⟨z, a, ys, rfl, rfl, hq, hl, q⟩ := h
  obtain ⟨t, e⟩ := (show ∃ t, v = Value.str z t from rx)
  subst e
  cases rv with
  | cons r1 r =>
    cases r
    cases (show _ = Value.ref a from r1)
    obtain ⟨its, rs, p, hz⟩ := I.list hq
    exact join_list p.isList (by simpa using strs_of rs) hl fun t' k => ⟨.str _, H, I.tok k, ⟨t', rfl⟩, q⟩
def rS0 (f : Str → Bool) : V → List V → Hp → VK → Prop := fun x vs H Q => ∃ z, x = .str z ∧ vs = [] ∧ Q (.bl (f z)) H
theorem mt_isascii : MtR X "str.isascii" (rS0 fun x => x.cps.all (· < 128)) := by
  intro pins s σ H x vs v us Q I rx rv h
  obtain ⟨z, rfl, rfl, q⟩ := h
  obtain ⟨t, e⟩ := (show ∃ t, v = Value.str z t from rx)
  subst e
  cases rv
  exact call_gives PySem.F.slot_str_isascii (typeIs_str _ _ _) PySem.F.entry_str_isascii (PySem.F.args_str_isascii_1 _) (gives_str_isascii z t) ⟨.bl _, H, I, rfl, q⟩
theorem mt_isalpha : MtR X "str.isalpha" (rS0 fun x => x.length > 0 && x.cps.all Unicode.isAlpha) := by
  intro pins s σ H x vs v us Q I rx rv h
  obtain ⟨z, rfl, rfl, q⟩ := h
  obtain ⟨t, e⟩ := (show ∃ t, v = Value.str z t from rx)
  subst e
  cases rv
  exact call_gives PySem.F.slot_str_isalpha (typeIs_str _ _ _) PySem.F.entry_str_isalpha (PySem.F.args_str_isalpha_1 _) (gives_str_isalpha z t) ⟨.bl _, H, I, rfl, q⟩
theorem mt_islower : MtR X "str.islower" (rS0 fun x => x.cps.any Unicode.isLower && !x.cps.any fun c => Unicode.isUpper c || Unicode.isTitle c) := by
  intro pins s σ H x vs v us Q I rx rv h
  obtain ⟨z, rfl, rfl, q⟩ := h
  obtain ⟨t, e⟩ := (show ∃ t, v = Value.str z t from rx)
  subst e
  cases rv
  exact call_gives PySem.F.slot_str_islower (typeIs_str _ _ _) PySem.F.entry_str_islower (PySem.F.args_str_islower_1 _) (gives_str_islower z t) ⟨.bl _, H, I, rfl, q⟩
end
/-- how a comprehension's scope lies over a def's: to be decided -/
structure CompS (osc : Scope) (N : List Str) (scope : Scope) (own : List Str) (js : List Nat) (N' : List Str) : Prop where
  kind : scope.kind = .function
  nocell : ∀ y ∈ scope.names, y.2 ≠ .cell
  names : ∀ y ∈ scope.names, y.2 = .local → scope.names.lookup y.1 = some .local
  free : ∀ y ∈ scope.names, y.2 = .free → osc.names.lookup y.1 = some .cell ∨ osc.names.lookup y.1 = some .free
  nm : N' = own ++ js.map fun j => N.getD j Str.empty
  fr : ∀ j ∈ js, j < N.length ∧ (N.getD j Str.empty, NameKind.free) ∈ scope.names ∧ ∀ y ∈ scope.names, y.1 = N.getD j Str.empty → y.2 = .free
theorem CompScope.of {X : Cx} {osc scope : Scope} {N own N' : List Str} {js : List Nat} (h1 : X.env.scope = osc) (h2 : X.N = N) (h : CompS osc N scope own js N') : CompScope X scope own js N' := by
  subst h1 h2
  exact ⟨h.kind, h.nocell, h.names, h.free, h.nm, fun j hj => ⟨(h.fr j hj).1, (h.fr j hj).2.1, fun k hk => (h.fr j hj).2.2 _ hk rfl⟩⟩
mutual
def pdMax : PyData → Nat
  | .tuple xs => max xs.length (pdMaxs xs)
  | .list xs => max xs.length (pdMaxs xs)
  | _ => 0
def pdMaxs : List PyData → Nat
  | [] => 0
  | d :: r => max (pdMax d) (pdMaxs r)
end
theorem pdMax_le {e : PyData} : ∀ {es : List PyData}, e ∈ es → pdMax e ≤ pdMaxs es
  | _ :: _, .head _ => by simp only [pdMaxs]; omega
  | _ :: r, .tail _ h => by have := pdMax_le h; simp only [pdMaxs]; omega
theorem pe_ty {X : Cx} {x : Str} {n : String} {pos : Pos} (hg : Gl X x) (hm : X.mg x = none) (hv : bootBuiltins x = some (.type n)) (hn : x ≠ "__name__" := by decide) (hd : (x == ("__debug__" : Str)) = false := by decide) : PE X (.Name x pos) (tC (.ty n)) := pe_bltn (v := .ty n) hg hm hv rfl hn hd
theorem ifT {c : Bool} {A B : Prop} (h : c = true) (q : A) : if c = true then A else B := by rw [if_pos h]; exact q
theorem ifF {c : Bool} {A B : Prop} (h : c = false) (q : B) : if c = true then A else B := by rw [if_neg (by rw [h]; exact Bool.false_ne_true)]; exact q
section
variable {X : Cx} {a b c d : Expr} {ta tb tc td : TE} {pos : Pos}
/-- a op b op' c op'' d, as a test -/
def tChain3 (r r' r'' : R2) (ta tb tc td : TE) : TE := fun σ H Q => ta σ H fun x H1 => tb σ H1 fun y H2 => r x y H2 fun z H3 => ∃ k, z = .bl k ∧
  (if k = true then tc σ H3 fun w' H4 => r' y w' H4 fun z' H5 => ∃ k', z' = .bl k' ∧ (if k' = true then td σ H5 fun v' H6 => r'' w' v' H6 Q else Q (.bl false) H5) else Q (.bl false) H3)
theorem pt_chain3 {op op' op'' : CmpOp} {r r' r'' : R2} (ho : OpR X (compareOp op) r) (ho' : OpR X (compareOp op') r') (ho'' : OpR X (compareOp op'') r'') (ha : PE X a ta) (hb : PE X b tb) (hc : PE X c tc) (hd : PE X d td)
    (hm : lastMarks [op, op', op''] [b, c, d] = false := by with_unfolding_all rfl) : PT X (.Compare a [op, op', op''] [b, c, d] pos) (tTest (tChain3 r r' r'' ta tb tc td)) := by
  intro pins s σ H Q I h
  refine isTrue_chain (thn (ha pins s σ H _ I h) fun v s1 ⟨x, H1, I1, r1, q1⟩ => test_link (thn (hb pins s1 σ H1 _ I1 q1) fun u s2 ⟨y, H2, I2, r2, q2⟩ =>
    thn (ho pins s2 σ H2 x y v u _ I2 r1 r2 q2) fun d' s3 ⟨z, H3, I3, r3, k, e, q3⟩ => ?_)) hm
  subst e
  cases r3
  refine wpAny_truthy_bool ?_
  cases k with
  | false =>
    obtain ⟨k', e', q'⟩ := q3
    cases e'
    exact ite_ff ⟨H3, I3, q'⟩
  | true =>
    refine ite_tt (test_link (thn (hc pins s3 σ H3 _ I3 q3) fun w' s4 ⟨z', H4, I4, r4, q4⟩ => thn (ho' pins s4 σ H4 y z' u w' _ I4 r2 r4 q4) fun d'' s5 ⟨z2, H5, I5, r5, k2, e2, q5⟩ => ?_))
    subst e2
    cases r5
    refine wpAny_truthy_bool ?_
    cases k2 with
    | false =>
      obtain ⟨k', e', q'⟩ := q5
      cases e'
      exact ite_ff ⟨H5, I5, q'⟩
    | true =>
      refine ite_tt (test_last (thn (hd pins s5 σ H5 _ I5 q5) fun w2 s6 ⟨z3, H6, I6, r6, q6⟩ => thn (ho'' pins s6 σ H6 z' z3 w' w2 _ I6 r4 r6 q6) fun d3 s7 ⟨z4, H7, I7, r7, k3, e3, q7⟩ => ?_))
      subst e3
      cases r7
      exact wpAny_truthy_bool ⟨H7, I7, q7⟩
end
end L2

set_option Elab.async false
set_option linter.all false
set_option maxRecDepth 100000
set_option maxHeartbeats 4000000
namespace L2
open PySem PySem.Spec PyProof.Rows PySem.SeqAt
/-! ### f-strings -/
abbrev TF := Str → St → Hp → VK → Prop
def PF (X : Cx) (es : List Expr) (t : TF) : Prop :=
  ∀ (out : Str) (pins : List (Addr × Obj)) (s : Shared) (σ : St) (H : Hp) (Q : VK), Inv X pins σ H s → t out σ H Q → wpAny (model X.prog X.w) X.A (joinParts out (evalEach es X.env)) (EP X pins σ Q) X.xe s
/-- what a field shows: a text itself, an int's figures -/
def FmtV (x : V) (y : Str) : Prop := (x = .str y ∧ y.length ≤ sizeLine) ∨ ∃ i : Int, x = .int i ∧ i.natAbs.log2 < 1920 ∧ y = Str.ofString (toString i)
section
variable {X : Cx} {es : List Expr} {t : TF} {e : Expr} {te : TE} {pos : Pos}
theorem pf_nil : PF X [] (fun out _ H Q => out.length ≤ sizeLine ∧ Q (.str out) H) := fun out pins s σ H Q I h => joinParts_nil ⟨.str out, H, I.tok _, ⟨_, rfl⟩, h.2⟩ h.1
theorem pf_txt {x : Str} {j : Nat} (hr : PF X es t) (hs : evalEach (.Constant (.str x) j pos :: es) X.env = eval (.Constant (.str x) j pos) X.env :: evalEach es X.env := by rfl) :
    PF X (.Constant (.str x) j pos :: es) (fun out σ H Q => (out ++ x).length ≤ sizeLine ∧ t (out ++ x) σ H Q) := by
  intro out pins s σ H Q I h
  rw [hs]
  exact joinParts_cons (Calls.Constant_str ⟨h.1, hr (out ++ x) pins _ σ H Q (I.tok _) h.2⟩)
theorem pf_val (he : PE X e te) (hr : PF X es t) (hs : evalEach (.FormattedValue e (-1) none pos :: es) X.env = eval (.FormattedValue e (-1) none pos) X.env :: evalEach es X.env := by rfl) :
    PF X (.FormattedValue e (-1) none pos :: es) (fun out σ H Q => te σ H fun x H1 => ∃ y, FmtV x y ∧ (out ++ y).length ≤ sizeLine ∧ t (out ++ y) σ H1 Q) := by
  intro out pins s σ H Q I h
  rw [hs]
  refine joinParts_cons (FormattedValue_plain (thn (he pins s σ H _ I h) fun v s1 ⟨x, H1, I1, r1, y, fm, hl, q⟩ => ?_))
  rcases fm with ⟨rfl, hy⟩ | ⟨i, rfl, hi, rfl⟩
  · obtain ⟨tk, rfl⟩ := r1
    exact formatField_str (fun t' tk => ⟨hl, hr _ pins _ σ H1 Q (I1.tok tk) q⟩) hy
  · obtain ⟨tk, rfl⟩ := r1
    exact formatField_int_small hi ⟨hl, hr _ pins _ σ H1 Q (I1.tok _) q⟩
def tFstr (t : TF) : TE := fun σ H Q => t Str.empty σ H Q
theorem pe_fstr {e1 e2 : Expr} (h : PF X (e1 :: e2 :: es) t) (hs : evalEach (e1 :: e2 :: es) X.env = eval e1 X.env :: eval e2 X.env :: evalEach es X.env := by rfl) : PE X (.JoinedStr (e1 :: e2 :: es) pos) (tFstr t) := by
  intro pins s σ H Q I hw
  refine JoinedStr_many ?_
  rw [← hs]
  exact h _ pins s σ H Q I hw
end
end L2

set_option Elab.async false
set_option linter.all false
set_option maxRecDepth 100000
set_option maxHeartbeats 4000000
namespace L2
open PySem PySem.Spec PyProof.Rows PySem.SeqAt
section
variable {X : Cx} {CX : CXT} {k : Nat} {f C : Addr} {fd : FuncData} {ps : List Str} {sp : Sp} {E : XK}
/-- a callee runs, somewhat deeper in C -/
theorem run_fnA {A' : Around} {pins : List (Addr × Obj)} {σ : St} {H : Hp} {s : Shared} {Q : VK} {us : List Value} {vs : List V} (F : FnOk X.prog X.w X.K X.mg X.base CX k f fd ps sp) (hr : Room k A') (hfr : A'.frames = X.A.frames) (hb : Binds X.K fd ps []) (hx : Passes CX X E)
    (I : Inv X pins σ H s) (r : Vals vs us) (h : sp vs H Q E) : wpAny (model X.prog X.w) A' (call (.ref f) us) (EP X pins σ Q) X.xe s := by
  have hl : us.length = ps.length := r.length.symm.trans (F.len _ _ _ _ h)
  have hb' := hb s us I.kIn (by rw [List.append_nil]; exact hl)
  rw [List.append_nil] at hb'
  have e0 := I.env0
  refine wpAny_call (codeAny_mono (F.run A' X.stack s H ⟨us, []⟩ us vs Q E hr ⟨hfr.trans e0.frames, e0.mod, e0.bs, e0.bsz, e0.funs, e0.frf, e0.hok, e0.bare⟩ hb' r h) fun z s' hq => ?_)
  match z, hq with
  | .error e, hq => exact hx pins σ H s e s' I hq
  | .ok (.ret u), hq => exact I.after hq
/-- a special method of the class: an own def -/
structure SpM (X : Cx) (CX : CXT) (E : XK) (C : Addr) (name : Str) (k : Nat) (f : Addr) (fd : FuncData) (ps : List Str) (sp : Sp) : Prop where
  at_ : PySem.W.findIn X.K (.ref C) name = some (some (.ref f))
  fn : PySem.W.isFn X.K (.ref f) = true
  ok : FnOk X.prog X.w X.K X.mg X.base CX k f fd ps sp
  b : Binds X.K fd ps []
  ps : Passes CX X E
theorem Inv.inst {pins : List (Addr × Obj)} {σ : St} {H : Hp} {s : Shared} {a dx : Addr} {fs : List (Str × V)} (I : Inv X pins σ H s) (e : H a = some (.ins C dx fs)) : ∃ od, PySem.W.InstAt s.heap a (PySem.W.instObj C dx) C (some od) := by
  obtain ⟨mA, O, _⟩ := ins_get I.hok e
  obtain ⟨od, J, _⟩ := O.look
  exact ⟨od, J⟩
/-- == of an instance and any value whose type is known -/
def TyV (K : PySem.W.Frag) (H : Hp) (v : V) (t : Value) : Prop := (∃ d, Rep K H v d ∧ t = .type (tyD d)) ∨ ∃ a C dx fs, v = .ref a ∧ H a = some (.ins C dx fs) ∧ t = .ref C
theorem TyV.looks {pins : List (Addr × Obj)} {σ : St} {H : Hp} {s : Shared} {v : V} {u t : Value} (I : Inv X pins σ H s) (h : TyV X.K H v t) (r : RelV v u) : PySem.W.Looks (model X.prog X.w) s.heap (typeOf u) t := by
  rcases h with ⟨d, hd, rfl⟩ | ⟨a, C, dx, fs, rfl, ha, rfl⟩
  · cases hd with
    | non => cases (show u = Value.none from r); exact .of_pure rfl
    | bl y => cases (show u = Value.bool y from r); exact .of_pure rfl
    | int i => obtain ⟨t, rfl⟩ := r; exact .of_pure rfl
    | str y => obtain ⟨t, rfl⟩ := r; exact .of_pure rfl
    | tup g _ =>
      cases (show u = Value.ref _ from r)
      obtain ⟨_, _, ⟨o, h1, h2, _⟩, _⟩ := I.tuple g
      show PySem.W.Looks _ _ _ (Value.type "tuple")
      rw [← h2]
      exact (PySem.W.Looks.ld h1).andThen .now
    | lst g _ =>
      cases (show u = Value.ref _ from r)
      obtain ⟨_, _, ⟨o, n, h1, h2, _⟩, _⟩ := I.list g
      show PySem.W.Looks _ _ _ (Value.type "list")
      rw [← h2]
      exact (PySem.W.Looks.ld h1).andThen .now
  · cases (show u = Value.ref a from r)
    obtain ⟨od, J⟩ := I.inst ha
    exact J.type
/-- != of an instance whose class has __eq__ alone -/
theorem ifB {M : Model} {A : Around} {Er : Value → Shared → Prop} {s : Shared} {K : PySem.W.Frag} {x : Addr} {ox : Obj} {od : Option Obj} {name : Str} {id : String} {args : List Value} {Q : Option Value → Shared → Prop} (Xk : K.In s.heap) (J : PySem.W.InstAt s.heap x ox C od)
    (hs : PySem.W.findIn K (.ref C) name = some (some (.builtin id))) (hb : ∀ self, bindSpecial (.builtin id) self = pure (.builtin id, [self])) (h : wpAny M A (call (.builtin id) (.ref x :: args)) (fun v => Q (some v)) Er s) : wpAny M A (callSpecialIfBound? (.ref x) name args) Q Er s := by
  unfold callSpecialIfBound? bindSpecialIfBound?
  have fin : wpAny M A (do let v ← call (.builtin id) ([.ref x] ++ args); pure (some v)) Q Er s := wpAny_bind (wpAny_mono h (fun _ _ z => wpAny_pure z) fun _ _ z => z)
  refine wpAny_holding (wpAny_bind (wpAny_bind (wpAny_bind (J.type.here ((PySem.W.looks_findIn Xk hs).here (wpAny_bind (wpAny_askSetting (wpAny_ite ?_))))))))
  split
  · exact wpAny_bind ((PySem.W.Looks.of_pure (hb _)).here (wpAny_pure fin))
  · exact wpAny_tryCatch (wpAny_bind ((PySem.W.Looks.of_pure (hb _)).here (wpAny_pure fin)))
def rNeI (K : PySem.W.Frag) (C : Addr) (sp : Sp) (E : XK) : R2 := fun x y H Q => ∃ a dx fs t, x = .ref a ∧ H a = some (.ins C dx fs) ∧ TyV K H y t ∧ PySem.W.notFirst K C t = true ∧ sp [.ref a, y] H (fun v H' => ∃ z : Bool, v = .bl z ∧ Q (.bl (!z)) H') E
theorem ne_try {A : Around} {pins : List (Addr × Obj)} {σ : St} {H : Hp} {s : Shared} {Q : VK} {y : V} {u : Value} {a dx : Addr} {fs : List (Str × V)} (S : SpM X CX E C "__eq__" k f fd ps sp) (hn : PySem.W.findIn X.K (.ref C) "__ne__" = some (some (.builtin "object.__ne__"))) (hm : PySem.W.mroIn X.K C (.type "object") = some true)
    (hr : Room (k + 1) A) (hfr : A.frames = X.A.frames) (I : Inv X pins σ H s) (ha : H a = some (.ins C dx fs)) (ry : RelV y u) (h : sp [.ref a, y] H (fun v H' => ∃ z : Bool, v = .bl z ∧ Q (.bl (!z)) H') E) :
    wpAny (model X.prog X.w) A (tryCompare (.ref a) "__ne__" u) (fun r s' => ∃ v, r = some v ∧ EP X pins σ Q v s') X.xe s := by
  obtain ⟨od, J⟩ := I.inst ha
  have run := run_fnA (A' := A.in1) (us := [.ref a, u]) (vs := [.ref a, y]) S.ok hr.in1 hfr S.b S.ps I (.cons rfl (.cons ry .nil)) h
  unfold tryCompare
  refine wpAny_bind (ifB I.kIn J hn PySem.F.cmp_object.ne.bind ?_)
  refine wpAny_call (codeAny_call_builtin PySem.F.cmp_object.ne.plain PySem.F.cmpEntry_ne (PySem.W.check_slot PySem.F.cmpKind_ne PySem.F.cmpSplit_ne (J.type.andThen (PySem.W.looks_mroIn I.kIn hm)) (PySem.F.cmpArgs_ne _ _) ?_))
  unfold Builtin.«object.__ne__»
  refine wpAny_bind (m := slotArgs "__ne__" 1 _) (wpAny_pure ?_)
  refine wpAny_bind (m := cRoomFor _ _) (wpAny_cRoomFor hr.in1.units0 ?_)
  refine wpAny_bind (m := callSpecialIfBound? (.ref a) (Str.ofString "__eq__") _) (PySem.W.ifBound_K I.kIn J S.at_ S.fn (wpAny_mono run (fun r s' hr' => ?_) fun _ _ z => z))
  obtain ⟨_, H', I', r', z, rfl, q⟩ := hr'
  cases (show r = Value.bool z from r')
  refine wpAny_bind (wpAny_truthy_bool ?_)
  exact wpAny_pure (wpAny_pure ⟨_, rfl, .bl (!z), H', I', rfl, q⟩)
theorem op_neI (S : SpM X CX E C "__eq__" k f fd ps sp) (hn : PySem.W.findIn X.K (.ref C) "__ne__" = some (some (.builtin "object.__ne__"))) (hm : PySem.W.mroIn X.K C (.type "object") = some true) (hr : Room (k + 1) X.A) : OpR X (compareOp .NotEq) (rNeI X.K C sp E) := by
  intro pins s σ H x y v u Q I rx ry h
  obtain ⟨a, dx, fs, t, rfl, ha, ht, hf, q⟩ := h
  cases (show v = Value.ref a from rx)
  obtain ⟨od, J⟩ := I.inst ha
  have one := ne_try S hn hm hr rfl I ha ry q
  refine PySem.W.cmp_ofNotEq ?_
  unfold richCompare
  simp only [oneThing_ref]
  refine wpAny_holding (wpAny_bind (wpAny_cRoomFor hr.units0 (wpAny_bind (J.type.here (wpAny_bind ((ht.looks I ry).here ?_))))))
  split
  · rename_i g
    have e : PySem.W.subIn X.K t (.ref C) = some false := by
      rcases Bool.or_eq_true_iff.mp hf with e | e
      · rw [beq_iff_eq.mp e] at g; simp at g
      · exact beq_iff_eq.mp e
    refine wpAny_bind ((PySem.W.looks_subIn I.kIn e).here ?_)
    simp only [Bool.false_eq_true, if_false]
    refine wpAny_bind (thn one fun r s' z => ?_)
    obtain ⟨v, rfl, hq⟩ := z
    exact wpAny_pure hq
  · refine wpAny_bind (wpAny_pure ?_)
    simp only [Bool.false_eq_true, if_false]
    refine wpAny_bind (thn one fun r s' z => ?_)
    obtain ⟨v, rfl, hq⟩ := z
    exact wpAny_pure hq
end
end L2

set_option Elab.async false
set_option linter.all false
set_option maxRecDepth 100000
set_option maxHeartbeats 4000000
namespace HT
open PySem PySem.Spec PyProof.Rows
section
variable {prog : Program} {w : World} {A : Around} {E : Value → Shared → Prop} {s : Shared}
end
end HT
namespace L2
open PySem PySem.Spec PyProof.Rows PySem.SeqAt
section
variable {X : Cx}
end
end L2

set_option Elab.async false
set_option linter.all false
set_option maxRecDepth 100000
set_option maxHeartbeats 4000000
namespace L2
open PySem PySem.Spec PyProof.Rows PySem.SeqAt
/-! ### repr of data -/
section
variable {X : Cx}
/-! ### isinstance of an own class -/
structure OwnIs (K : PySem.W.Frag) (C : Addr) : Prop where
  at_ : PySem.W.findIn K (.ref C) "__class__" = some (some (.builtin "object.__class__"))
  sp : PySem.W.specialIn K (.builtin "object.__class__") "__get__" = some (some (.builtin "getset_descriptor.__get__"))
  tk : PySem.W.takesIn K (.builtin "object.__class__") = some true
  mr : PySem.W.mroIn K C (.type "object") = some true
/-- isinstance(x, C), C an own class -/
def rIsC (K : PySem.W.Frag) : List V → Hp → VK → Prop := fun xs H Q => ∃ x C b, xs = [x, .ref C] ∧ ((∃ d, Rep K H x d ∧ PySem.W.kitOne K (.type (tyD d)) (.ref C) = some b) ∨ ∃ a D dx fs, x = .ref a ∧ H a = some (.ins D dx fs) ∧ Cls K D ∧ OwnIs K D ∧ PySem.W.kitOne K (.ref D) (.ref C) = some b) ∧ Q (.bl b) H
theorem call_isC : CallR X (.builtin "isinstance") (rIsC X.K) := by
  intro pins s σ H xs us Q I r h
  obtain ⟨x, C, b, rfl, hx, q⟩ := h
  cases r with
  | cons r1 r =>
    cases r with
    | cons r2 r =>
      cases r
      cases (show _ = Value.ref C from r2)
      rcases hx with ⟨d, hd, e⟩ | ⟨a, D, dx, fs, rfl, ha, c, o, e⟩
      · exact isD I hd r1 e fun tk => ⟨.bl b, H, I.tok tk, rfl, q⟩
      · cases (show _ = Value.ref a from r1)
        obtain ⟨od, J⟩ := I.inst ha
        exact PySem.W.kia_one (PySem.W.kitx_own (c.get _) c.hd o.at_ o.sp o.tk o.mr) I.kIn J e (fun z => nomatch z) fun tk => ⟨.bl b, H, I.tok tk, rfl, q⟩
/-! ### x in [y], y an instance -/
end
section
variable {X : Cx} {CX : CXT} {k : Nat} {f C : Addr} {fd : FuncData} {ps : List Str} {sp : Sp} {E : XK}
/-! ### bool of an instance with __len__ -/
end
end L2

set_option Elab.async false
set_option linter.all false
set_option maxRecDepth 100000
set_option maxHeartbeats 4000000
namespace L2
open PySem PySem.Spec PyProof.Rows PySem.SeqAt
section
variable {X : Cx} {pins : List (Addr × Obj)} {σ : St} {H : Hp} {s : Shared} {h' : Heap}
/-- an iterator's records turn, and an object is laid -/
theorem Inv.turnLaid {a : Addr} {o : HO} {t' : Nat} {fp : List Addr} (I : Inv X pins σ H s) (k : ∀ b u, b ∉ fp → s.heap.get? b = some u → h'.get? b = some u) (ke : ∀ b ∈ fp, ∃ u, h'.get? b = some u) (hf : ∀ b ∈ fp, FpOk X pins H b) (hp : s.heap.objs.size ≤ a) (new : ObjOk X.prog X.w (upd H a o) h' a o) :
    Inv X pins σ (upd H a o) { s with heap := h', toks := t' } := by
  have hn : H a = none := I.hok.fresh hp
  have off : ∀ b u, H b = some u → b ∉ fp := fun b u e z => by rw [(hf b z).1] at e; cases e
  have up : ∀ b u, H b = some u → (upd H a o) b = some u := fun b u e => by rw [upd_ne (ne_of_none e hn)]; exact e
  refine I.step (g' := s.gens) (d' := s.drawn) (ch := fp) (fun b hb => ?_) (fun b u _ _ hc e _ => k b u hc e) (fun b u _ _ hc e _ => ⟨u.slots, k b u hc e⟩) (fun b u _ e n => ?_) (fun b u hc e => ⟨u, k b u hc e⟩) (fun b xs e => up b _ e) (fun b u z e => up b _ e) (fun b ps e => ⟨#[], by rw [up b _ e]; simp⟩) (fun m hm => ?_) (fun b u e => ?_) I.bare
  · obtain ⟨_, f1, _, f3, f4, f5⟩ := hf b hb
    exact ⟨f3, f1, f4, f5⟩
  · rw [upd_ne (Nat.ne_of_lt (Nat.lt_of_lt_of_le (Heap.lt_size e) hp))]; exact n
  · obtain ⟨u, es, ep, ho, r⟩ := hm
    exact ⟨u, es, ep, k _ u (fun z => (hf _ z).2.1 rfl) ho, r⟩
  · by_cases hb : b = a
    · subst hb; rw [upd_same] at e; cases e; exact new
    · rw [upd_ne hb] at e
      refine (I.hok b u e).stay (fun c v hc q => k c v ?_ q) (fun c q => up c _ q) fun c xs q => up c _ q
      rcases hc with rfl | z
      · exact off _ u e
      · exact off c _ z
/-! ### enumerate of a tuple -/
theorem next_tup {prog : Program} {w : World} {A : Around} {E : Value → Shared → Prop} {s : Shared} {it l : Addr} {i : Nat} {items : Array Value} {x : Value} {Q : Value → Shared → Prop} (hit : s.heap.IsTupleIter it l i) (hl : s.heap.IsTuple l items) (hx : items[i]? = some x)
    (hQ : ∀ g, g.IsTupleIter it l (i + 1) → Heap.SameBut it s.heap g → Q x { s with heap := g }) : wpAny (model prog w) A (Builtin.SmallTypes.nextOf (.ref it)) Q E s := by
  obtain ⟨o, ho, hc, hd⟩ := id hit
  obtain ⟨ol, hol, _, nl, hdl⟩ := hl
  unfold Builtin.SmallTypes.nextOf
  refine wpAny_bind (wpAny_callSpecial?_slot (name := Str.ofString "__next__") hit.typeIs F.slot_tuple_iterator_next (wpAny_call_entry F.slot_tuple_iterator_next hit.typeIs F.entry_tuple_iterator_next ?_ (F.args_tuple_iterator_next_1 _)))
  show wpAny _ _ (field (.ref it) 0 >>= _) _ _ s
  refine wpAny_bind (wpAny_field ho hd (x := .ref l) rfl ?_)
  show wpAny _ _ (if (Value.ref l == Value.none) = true then _ else _) _ _ s
  rw [if_neg (show ¬ ((Value.ref l == Value.none) = true) from nofun)]
  show wpAny _ _ (field (.ref it) 1 >>= _) _ _ s
  refine wpAny_bind (wpAny_field ho hd (x := .int i 0) rfl ?_)
  show wpAny _ _ (seqItems? (.ref l) >>= _) _ _ s
  refine wpAny_bind (wpAny_seqItems hol hdl ?_)
  simp only [Int.toNat_natCast, hx]
  refine wpAny_bind (wpAny_setField ho hd (by simp) (wpAny_pure ⟨x, rfl, wpAny_pure (hQ _ ⟨_, Heap.get?_update_self _ ho (Obj.isFreed_of_fields (Obj.data_mapFields hd _)), (Obj.cls_mapFields ..).trans hc, by rw [Obj.data_mapFields hd]; simp [rawInt]⟩ (Heap.SameBut.update ..))⟩))
theorem next_tupE {prog : Program} {w : World} {A : Around} {E : Value → Shared → Prop} {s : Shared} {it l : Addr} {i : Nat} {items : Array Value} {Q : Value → Shared → Prop} (hh : A.handled = none) (hit : s.heap.IsTupleIter it l i) (hl : s.heap.IsTuple l items) (hx : items[i]? = none)
    (hE : ∀ g e, Heap.ExtBut it s.heap g → (∃ o, g.get? e = some o ∧ o.cls = .type "StopIteration") → E (.ref e) { s with heap := g }) : wpAny (model prog w) A (Builtin.SmallTypes.nextOf (.ref it)) Q E s := by
  obtain ⟨o, ho, hc, hd⟩ := id hit
  obtain ⟨ol, hol, _, nl, hdl⟩ := hl
  unfold Builtin.SmallTypes.nextOf
  refine wpAny_bind (wpAny_callSpecial?_slot (name := Str.ofString "__next__") hit.typeIs F.slot_tuple_iterator_next (wpAny_call_entry F.slot_tuple_iterator_next hit.typeIs F.entry_tuple_iterator_next ?_ (F.args_tuple_iterator_next_1 _)))
  show wpAny _ _ (field (.ref it) 0 >>= _) _ _ s
  refine wpAny_bind (wpAny_field ho hd (x := .ref l) rfl ?_)
  show wpAny _ _ (if (Value.ref l == Value.none) = true then _ else _) _ _ s
  rw [if_neg (show ¬ ((Value.ref l == Value.none) = true) from nofun)]
  show wpAny _ _ (field (.ref it) 1 >>= _) _ _ s
  refine wpAny_bind (wpAny_field ho hd (x := .int i 0) rfl ?_)
  show wpAny _ _ (seqItems? (.ref l) >>= _) _ _ s
  refine wpAny_bind (wpAny_seqItems hol hdl ?_)
  simp only [Int.toNat_natCast, hx]
  refine wpAny_bind (wpAny_rule (wpAny_bind (wpAny_setField ho hd (by simp) ?_)))
  show wpAny _ _ (newExc (.type "StopIteration") [] >>= _) _ _ _
  refine wpAny_bind ?_
  simp only [newExc, newTuple]
  refine wpAny_bind (wpAny_newObj_type ?_ (by size_fits))
  refine wpAny_bind (m := firstArgMember _ _) (wpAny_of_eq (a := Value.none) (by first | rfl | (simp only [firstArgMember]; rfl)) (wpAny_newObj_type ?_ (by size_fits)))
  simp only [raiseNew]
  refine wpAny_bind (wpAny_handled ?_)
  first | rw [show A.in1.handled = none from hh] | rw [hh]
  exact wpAny_bind (wpAny_pure (wpAny_throw (hE _ _ (((Heap.SameBut.update ..).extBut.push _).push _) ⟨_, Heap.get?_push_size _ rfl, rfl⟩)))
theorem bt_enumerate : bootBuiltins "enumerate" = some (.type "enumerate") := by decide +kernel
/-! ### list.index of texts -/
end
end L2

set_option Elab.async false
set_option linter.all false
set_option maxRecDepth 100000
set_option maxHeartbeats 4000000
namespace L2
open PySem PySem.Spec PyProof.Rows PySem.SeqAt
/-! ### exceptions: what is kept of one while it leaves frames -/
/-- an exception at e: its class, its own dict, its traceback (none yet, or a record that is not in flight); e and the record are not tracked, and were not in the heap g -/
def ExcOk (h : Heap) (H : Hp) (g : Heap) (e : Addr) (cls : Value) (dd : Option Addr) : Prop :=
  ∃ oe vs, h.get? e = some oe ∧ oe.cls = cls ∧ oe.dict = dd ∧ oe.data = .fields vs ∧ g.get? e = none ∧ H e = none ∧
    (vs[1]? = some .none ∨ ∃ T oT ts, vs[1]? = some (.ref T) ∧ T ≠ e ∧ h.get? T = some oT ∧ oT.data = .fields ts ∧ ts[3]? = some .none ∧ g.get? T = none ∧ H T = none)
theorem ExcOk.mono {h : Heap} {H : Hp} {g g' : Heap} {e : Addr} {cls : Value} {dd : Option Addr} (x : ExcOk h H g e cls dd) (hl : ∀ b, g.get? b = none → g'.get? b = none) : ExcOk h H g' e cls dd := by
  obtain ⟨oe, vs, h1, h2, h3, h4, h5, h6, h7⟩ := x
  refine ⟨oe, vs, h1, h2, h3, h4, hl _ h5, h6, ?_⟩
  rcases h7 with h7 | ⟨T, oT, ts, a, b, c, d, f, gT, i⟩
  · exact .inl h7
  · exact .inr ⟨T, oT, ts, a, b, c, d, f, hl _ gT, i⟩
theorem mapF_dict (f : Array Value → Array Value) (o : Obj) : (Obj.mapFields f o).dict = o.dict := by
  obtain ⟨c, d, da, sl⟩ := o
  cases da <;> rfl
section
variable {M : Model} {A : Around} {E : Value → Shared → Prop} {s : Shared}
/-- a new record of the traceback is written; what changed: e's own record (its first field but args), slots of frames -/
theorem entryX {base : Heap} {env : Env} {outer : List Env} {L e : Addr} {oe : Obj} {vs : Array Value} {head : Value} {hadNext : Bool} {Q : Unit → Shared → Prop} (hfr : A.frames = some (env :: outer)) (hl : s.heap.FunFrames base (env :: outer)) (hf : env.frame = some L)
    (he : s.heap.get? e = some oe) (hd : oe.data = .fields vs) (hsz : 1 < vs.size)
    (h : ∀ (h' : Heap) (T : Addr) (oe' oT : Obj) (vs' ts : Array Value), s.heap.objs.size ≤ T → h'.get? e = some oe' → oe'.cls = oe.cls → oe'.dict = oe.dict → oe'.data = .fields vs' → vs'[1]? = some (.ref T) → h'.get? T = some oT → oT.data = .fields ts → ts[3]? = some .none →
      (∀ b o, b ≠ e → b ∉ (env :: outer).filterMap (·.frame) → s.heap.get? b = some o → h'.get? b = some o) → (∀ b o, b ≠ e → s.heap.get? b = some o → ∃ sl, h'.get? b = some { o with slots := sl }) → Q () { s with heap := h' }) :
    wpAny M A (do let a ← frameOf env; let pl ← entryPlaceOf L hadNext; let b ← EntryCells.newEntry head a .none (rawInt L) .none pl; setField (.ref e) 1 b) (fun _ s' => wpAny M A (setFlight (.ref e) none) Q E s') E s := by
  have hene : e ∉ (env :: outer).filterMap (·.frame) := fun hm => by
    obtain ⟨_, o, ho, hnf⟩ := hl.mem hm
    rw [he] at ho
    cases ho
    exact hnf vs hd
  refine wpAny_bind (wpAny_frameOf_fun hfr hl hf fun g hs => wpAny_bind (wpAny_entryPlaceOf fun pl hpl => ?_))
  unfold EntryCells.newEntry newFields
  refine wpAny_bind (wpAny_newObj_type ?_ (hpl.sizeOk5 _ _ _ _ _))
  have ge : g.get? e = some oe := (hs.2.1 e hene).trans he
  generalize hto : ([head, .ref L, .none, rawInt L, .none] ++ (if pl.isEmpty then List.replicate 6 Value.none else pl)).toArray = tv
  have t3 : 3 < tv.size := by
    rw [← hto]
    simp only [List.size_toArray, List.length_append, List.length_cons, List.length_nil]
    omega
  have pe := Heap.get?_push_of_some (h := g) { cls := .type "traceback", dict := none, data := .fields tv } ge
  refine wpAny_setField pe hd hsz ?_
  have ne : g.objs.size ≠ e := Nat.ne_of_gt (Heap.lt_size ge)
  have d3 := Obj.data_mapFields hd (·.setIfInBounds 1 (Value.ref g.objs.size))
  have e3 := Heap.get?_update_self (Obj.mapFields (·.setIfInBounds 1 (Value.ref g.objs.size))) pe (Obj.isFreed_of_fields d3)
  have T3 := (Heap.get?_update_other (g.push { cls := .type "traceback", dict := none, data := .fields tv }) (Obj.mapFields (·.setIfInBounds 1 (Value.ref g.objs.size))) (Ne.symm ne)).trans (Heap.get?_push_size g rfl)
  unfold setFlight
  refine wpAny_bind (wpAny_field e3 d3 (x := .ref g.objs.size) (by simp [hsz]) ?_)
  rw [if_pos (show (Value.ref g.objs.size != Value.none) = true by simp)]
  refine wpAny_setField T3 rfl t3 ?_
  have hgz : s.heap.objs.size ≤ g.objs.size := Nat.le_of_eq hs.1.symm
  have keep : ∀ b o, b ≠ e → g.get? b = some o → (((g.push { cls := .type "traceback", dict := none, data := .fields tv }).update e (Obj.mapFields (·.setIfInBounds 1 (Value.ref g.objs.size)))).update g.objs.size (Obj.mapFields (·.setIfInBounds 3 ((none : Option Addr).elim Value.none fun f => rawInt f)))).get? b = some o := fun b o hb hg => by
    rw [Heap.get?_update_other _ _ (Nat.ne_of_gt (Heap.lt_size hg)), Heap.get?_update_other _ _ (Ne.symm hb)]
    exact Heap.get?_push_of_some _ hg
  refine h _ g.objs.size _ _ _ _ hgz (by rw [Heap.get?_update_other _ _ ne]; exact e3) (Obj.cls_mapFields _ _) (mapF_dict _ _) d3 (by simp [hsz]) (Heap.get?_update_self _ T3 (Obj.isFreed_of_fields (Obj.data_mapFields rfl _))) (Obj.data_mapFields rfl _) (by simp [t3]) (fun b o hb hbf hbo => keep b o hb ((hs.2.1 b hbf).trans hbo)) fun b o hb hbo => ?_
  obtain ⟨sl, q⟩ := hs.2.2 b o hbo
  exact ⟨sl, keep b _ hb q⟩
end
section
variable {X : Cx} {pins : List (Addr × Obj)} {σ : St} {H : Hp} {s : Shared} {e : Addr} {cls : Value} {dd : Option Addr}
/-- an exception leaves the frame -/
theorem leaveX {A : Around} {Q : Unit → Shared → Prop} {E : Value → Shared → Prop} (I : Inv X pins σ H s) (hst : X.stack = X.env :: X.outer) (hfm : X.env.frame = some X.env.locals) (hfr : A.frames = some X.stack) (hex : X.ex = []) (x : ExcOk s.heap H X.s₀.heap e cls dd)
    (h : ∀ h', ExcOk h' H X.s₀.heap e cls dd → Un (frs X.outer) [] X.H₀ H X.s₀.heap h' → HOk X.prog X.w H h' → Q () { s with heap := h' }) : wpAny (model X.prog X.w) A (leaving X.env (.ref e)) Q E s := by
  have hl := I.stack
  rw [hst] at hfr hl
  obtain ⟨oe, vs, h1, h2, h3, h4, h5, h6, h7⟩ := x
  have free : ∀ b ∈ (X.env :: X.outer).filterMap (·.frame), H b = none := fun b hb => I.stkFree b (by rw [hst]; exact hb)
  -- from what changed to what is wanted
  have fin : ∀ (h' : Heap) (T : Addr) (oe' oT : Obj) (vs' ts : Array Value), X.s₀.heap.get? T = none → T ≠ e → H T = none → h'.get? e = some oe' → oe'.cls = oe.cls → oe'.dict = oe.dict → oe'.data = .fields vs' → vs'[1]? = some (.ref T) → h'.get? T = some oT → oT.data = .fields ts → ts[3]? = some .none →
      (∀ b o, b ≠ e → (H b ≠ none ∨ ∃ o₀, X.s₀.heap.get? b = some o₀) → b ∉ (X.env :: X.outer).filterMap (·.frame) → s.heap.get? b = some o → h'.get? b = some o) → (∀ b o, (∃ o₀, X.s₀.heap.get? b = some o₀) → s.heap.get? b = some o → ∃ sl, h'.get? b = some { o with slots := sl }) → Q () { s with heap := h' } := by
    intro h' T oe' oT vs' ts hT hTe hTn g1 g2 g3 g4 g5 g6 g7 g8 kp ks
    refine h h' ⟨oe', vs', g1, g2.trans h2, g3.trans h3, g4, h5, h6, .inr ⟨T, oT, ts, g5, hTe, g6, g7, g8, hT, hTn⟩⟩ ?_ ?_
    · have B := I.base
      rw [hex] at B
      have nl : ∀ b o, X.s₀.heap.get? b = some o → b < X.s₀.heap.objs.size := fun b o z => Heap.lt_size z
      have ninF : ∀ b, b < X.s₀.heap.objs.size → b ∉ frs X.outer → b ∉ (X.env :: X.outer).filterMap (·.frame) := fun b hb hn hm => by
        rw [List.filterMap_cons, hfm] at hm
        rcases List.mem_cons.mp hm with rfl | hm
        · exact absurd (Nat.lt_of_lt_of_le hb I.ok.above) (Nat.lt_irrefl _)
        · exact hn hm
      refine ⟨fun b o z n hb hx => kp b o (fun q => by subst q; rw [h5] at z; cases z) (.inr ⟨o, z⟩) (ninF b (nl b o z) hb) (B.keep b o z n hb hx), fun b o z n hb hx => ?_, B.free, fun b o z hx => ?_, B.tups, B.frzs, B.tbls⟩
      · obtain ⟨sl, q⟩ := B.slot b o z n hb hx
        obtain ⟨sl', q'⟩ := ks b _ ⟨o, z⟩ q
        exact ⟨sl', q'⟩
      · obtain ⟨o', q⟩ := B.there b o z hx
        obtain ⟨sl', q'⟩ := ks b _ ⟨o, z⟩ q
        exact ⟨_, q'⟩
    · intro b u hb
      refine (I.hok b u hb).stay (fun c v hc q => kp c v ?_ (.inl ?_) ?_ q) (fun _ q => q) fun _ _ q => q
      · rintro rfl
        rcases hc with rfl | z
        · rw [h6] at hb; cases hb
        · rw [h6] at z; cases z
      · rcases hc with rfl | z
        · rw [hb]; simp
        · rw [z]; simp
      · intro hm
        have := free c hm
        rcases hc with rfl | z
        · rw [this] at hb; cases hb
        · rw [this] at z; cases z
  unfold leaving noteFrame
  simp only [hfm]
  rcases h7 with h7 | ⟨T, oT, ts, t1, t2, t3, t4, t5, t6, t7⟩
  · refine wpAny_bind (wpAny_bind (wpAny_field h1 h4 h7 ?_))
    rw [if_neg (by decide)]
    refine entryX hfr hl hfm h1 h4 (Array.getElem?_eq_some_iff.mp h7).1 fun h' T oe' oT vs' ts hT g1 g2 g3 g4 g5 g6 g7 g8 kp ks => ?_
    have hTe : T ≠ e := fun q => by subst q; exact absurd (Nat.lt_of_lt_of_le (Heap.lt_size h1) hT) (Nat.lt_irrefl _)
    exact fin h' T oe' oT vs' ts (Heap.get?_none_of_le (Nat.le_trans I.sz hT)) hTe (I.hok.fresh hT) g1 g2 g3 g4 g5 g6 g7 g8 (fun b o hb _ hm z => kp b o hb hm z) fun b o hb z => ks b o (fun q => by subst q; obtain ⟨_, hb⟩ := hb; rw [h5] at hb; cases hb) z
  · refine wpAny_bind (wpAny_bind (wpAny_field h1 h4 t1 ?_))
    rw [if_pos (show (Value.ref T != Value.none) = true by simp)]
    refine wpAny_bind (wpAny_field t3 t4 t5 ?_)
    rw [if_neg (show ¬ ((Value.none == rawInt X.env.locals) = true) by simp [rawInt])]
    refine wpAny_bind (wpAny_setField t3 t4 (Array.getElem?_eq_some_iff.mp t5).1 ?_)
    have other : ∀ b, b ≠ T → (s.heap.update T (Obj.mapFields (·.setIfInBounds 3 Value.none))).get? b = s.heap.get? b := fun b hb => Heap.get?_update_other _ _ (Ne.symm hb)
    have noR : ∀ b o, s.heap.get? b = some o → (∀ vs, o.data ≠ .fields vs) → b ≠ T := fun b o hb hnf q => by
      subst q
      rw [t3] at hb
      cases hb
      exact hnf ts t4
    refine entryX (s := { s with heap := s.heap.update T (Obj.mapFields (·.setIfInBounds 3 Value.none)) }) hfr (hl.of_keeps fun b o hb hnf => ⟨o, (other b (noR b o hb hnf)).trans hb, rfl⟩) hfm ((other e (Ne.symm t2)).trans h1) h4 (Array.getElem?_eq_some_iff.mp t1).1 fun h' T' oe' oT' vs' ts' hT g1 g2 g3 g4 g5 g6 g7 g8 kp ks => ?_
    have hT' : s.heap.objs.size ≤ T' := by
      have z : (s.heap.update T (Obj.mapFields (·.setIfInBounds 3 Value.none))).objs.size = s.heap.objs.size := Heap.size_update _ _ _
      exact Nat.le_trans (Nat.le_of_eq z.symm) hT
    have hTe : T' ≠ e := fun q => by subst q; exact absurd (Nat.lt_of_lt_of_le (Heap.lt_size h1) hT') (Nat.lt_irrefl _)
    refine fin h' T' oe' oT' vs' ts' (Heap.get?_none_of_le (Nat.le_trans I.sz hT')) hTe (I.hok.fresh hT') g1 g2 g3 g4 g5 g6 g7 g8 (fun b o hb hq hm z => kp b o hb hm ((other b ?_).trans z)) fun b o hb z => ks b o (fun q => by subst q; obtain ⟨_, hb⟩ := hb; rw [h5] at hb; cases hb) ((other b ?_).trans z)
    · rintro rfl
      rcases hq with hq | hq
      · exact hq t7
      · obtain ⟨_, hq⟩ := hq
        rw [t6] at hq; cases hq
    · rintro rfl
      obtain ⟨_, hb⟩ := hb
      rw [t6] at hb; cases hb
end
/-- how an exception lies behind a call -/
def CX1 (P : Program) (w : World) : CXT := fun outer H s E e s' => ∃ (ea : Addr) (cls : Value) (dd : Option Addr) (H' : Hp), e = .ref ea ∧ s'.os = s.os ∧ AllBare s'.gens ∧ Un (frs outer) [] H H' s.heap s'.heap ∧ HOk P w H' s'.heap ∧ ExcOk s'.heap H' s.heap ea cls dd ∧ E cls dd H'
section
variable {P : Program} {w : World} {K : PySem.W.Frag} {mg : Str → Option Value} {base : Heap} {N : List Str} {qual : Str} {scope : Scope} {f : Addr} {cd : Value} {A : Around} {outer : List Env} {s : Shared} {H : Hp} {E : XK}
/-- an exception at hand in a def's body leaves it -/
theorem xe1 {pins : List (Addr × Obj)} {σ : St} {H' : Hp} {s' : Shared} {e : Addr} {cls : Value} {dd : Option Addr} (I : Inv (cxOf (CX1 P w) P w K mg base N qual scope f cd A outer s H E) pins σ H' s') (x : ExcOk s'.heap H' s.heap e cls dd) (h : E cls dd H') :
    (cxOf (CX1 P w) P w K mg base N qual scope f cd A outer s H E).xe (.ref e) s' :=
  leaveX I rfl rfl I.ok.frames rfl x fun h' x' u k => ⟨e, cls, dd, H', rfl, I.os, I.bare, u, k, x', h⟩
end
end L2

set_option Elab.async false
set_option linter.all false
set_option maxRecDepth 100000
set_option maxHeartbeats 4000000
namespace L2
open PySem PySem.Spec PyProof.Rows PySem.SeqAt PySem.W
/-! ### an exception of an own class is made -/
/-- what the written part must say of the class -/
def makesX (K : Frag) (C : Addr) (B newId : String) : Bool := match K.lookup C with
  | some ⟨_, _, .cls cd, sl⟩ => !cd.abstract && !cd.hasDel && (sl.toList[4]?).join == some (.builtin newId) && !cd.mro.isEmpty && cd.mro.contains (.ref C) && cd.mro.contains (.type B) && cd.mro.contains (.type "BaseException") && !cd.mro.contains (.type "AttributeError") && !cd.mro.contains (.type "NameError") &&
      specialIn K (.ref C) "__call__" == some (some (.builtin "type.__call__")) && instIn K (.ref C) (.type "type") == some true
  | _ => false
structure MakesX (M : Model) (h : Heap) (C : Addr) (B newId : String) : Prop where
  obj : ∃ oc od cd sl, h.get? C = some ⟨oc, od, .cls cd, sl⟩ ∧ cd.abstract = false ∧ cd.hasDel = false ∧ cd.mro.isEmpty = false
  made : Looks M h (Bind.madeBy (.ref C)) (some newId)
  base : Looks M h (Bind.staticBase (.ref C)) (.ref C)
  self : Looks M h (isSubtype (.ref C) (.ref C)) true
  isB : Looks M h (isSubtype (.ref C) (.type B)) true
  isE : Looks M h (isSubtype (.ref C) (.type "BaseException")) true
  noA : Looks M h (isSubtype (.ref C) (.type "AttributeError")) false
  noN : Looks M h (isSubtype (.ref C) (.type "NameError")) false
  call : Looks M h (specialOf (.ref C) "__call__") (some (.builtin "type.__call__"))
  typ : Looks M h (isInstance (.ref C) (.type "type")) true
theorem makesX_of {K : Frag} {M : Model} {h : Heap} (X : K.In h) {C : Addr} {B newId : String} (e : makesX K C B newId = true) : MakesX M h C B newId := by
  unfold makesX at e
  split at e
  · rename_i oc od cd sl ho
    simp only [Bool.and_eq_true, Bool.not_eq_true', beq_iff_eq] at e
    obtain ⟨⟨⟨⟨⟨⟨⟨⟨⟨⟨e1, e2⟩, e3⟩, e4⟩, e5⟩, e6⟩, e7⟩, e8⟩, e9⟩, e10⟩, e11⟩ := e
    have hc : clsIn K C = some cd := by unfold clsIn; rw [ho]
    have hm : Looks M h (mroOf (.ref C)) cd.mro := (looks_clsIn X hc).andThen .now
    obtain ⟨c, l, hl⟩ : ∃ c l, cd.mro = c :: l := by
      cases q : cd.mro with
      | nil => rw [q] at e4; cases e4
      | cons c l => exact ⟨c, l, rfl⟩
    have made : Looks M h (Bind.madeBy (.ref C)) (some newId) := by
      intro A Q E s k q
      unfold Bind.madeBy
      refine wpAny_bind (hm A _ E s k ?_)
      rw [hl, List.forIn_cons]
      refine wpAny_bind (wpAny_bind (wpAny_bind (wpAny_bind (wpAny_loadPart (k _ _ (X _ _ ho)) (wpAny_pure ?_)))))
      dsimp only
      rw [← Array.getElem?_toList, e3]
      exact wpAny_pure (wpAny_pure (wpAny_pure q))
    have sub : ∀ (v : Value) (b : Bool), cd.mro.contains v = b → Looks M h (isSubtype (.ref C) v) b := fun v b z => looks_mroIn X (by unfold mroIn; rw [hc, Option.bind_some, if_neg (by rw [e4]; decide), z])
    refine ⟨⟨oc, od, cd, sl, X _ _ ho, e1, e2, e4⟩, made, ?_, sub _ _ e5, sub _ _ e6, sub _ _ e7, sub _ _ e8, sub _ _ e9, looks_specialIn X e10, looks_instIn X e11⟩
    intro A Q E s k q
    unfold Bind.staticBase
    refine wpAny_bind (hm A _ E s k ?_)
    rw [hl, List.forIn_cons]
    exact wpAny_bind (wpAny_bind (wpAny_bind (made A _ E s k (wpAny_pure (wpAny_pure (wpAny_pure q))))))
  · cases e
abbrev excNew (C t : Addr) : Obj := { cls := .ref C, data := .fields #[.ref t, .none, .none, .none, .bool false, .none] }
section
variable {prog : Program} {w : World} {A : Around} {C : Addr} {R : Result → Shared → Prop} {h : Heap} {g : Array GenState} {d : Drawn} {t : Nat} {os : OsState} {B newId initId : String} {bm : List Value}
theorem newX (F : ExcBaseFacts B newId initId bm) {rest : List Value} (Y : MakesX (model prog w) h C B newId) (hrest : rest.length ≤ sizeLine)
    (hq : R (.ok (.ret (.ref (h.objs.size + 1)))) ⟨(h.push { cls := .type "tuple", data := .seq rest.toArray }).push (excNew C h.objs.size), g, d, t, os⟩) :
    codeAny (model prog w) A (.call (.builtin newId) ⟨.ref C :: rest, []⟩) R ⟨h, g, d, t, os⟩ := by
  obtain ⟨⟨oc, od, cd, sl, hC, e1, e2, e4⟩, made, base, self, isB, isE, noA, noN, call, typ⟩ := Y
  have hstar := F.noStar
  have hends := F.ends
  refine codeAny_call_builtin_code (Code.quiet_builtin _ F.quiet) ?_
  simp only [checkBuiltinCall, F.newKind, F.newSplit, F.newRow]
  have here : Looks (model prog w) h (Bind.madeHere newId (.ref C)) () := base.andThen (made.andThen (Looks.of_pure (by simp only [Option.map_some, bne_self_eq_false, Bool.false_eq_true, if_false])))
  repeat (first | simp only [bne_self_eq_false, Bool.false_eq_true, if_false] | lk)
  repeat (first | wp_step)
  refine PySem.codeAny_builtinAt F.entry ?_
  unfold Builtin.«BaseException.__new__»
  refine PySem.wpAt_bind ?_
  show PySem.wpAt _ _ _ (stack >>= _) _ _ _
  refine PySem.wpAt_bind (PySem.wpAt_stack fun p below => PySem.wpAt_of_wpAny ?_)
  wp_walk
  refine PySem.wpAt_of_wpAny ?_
  rw [F.owner]
  have here2 : Looks (model prog w) h (Bind.madeHere "BaseException.__new__" (.ref C)) () := base.andThen (made.andThen (Looks.of_pure (by simp only [Option.map_some, F.canon, bne_self_eq_false, Bool.false_eq_true, if_false])))
  repeat (first | with_reducible refine here2.at ?_ | with_reducible refine isB.at ?_ | with_reducible refine noA.at ?_ | with_reducible refine noN.at ?_ | with_reducible refine wpAny_loadPart_at hC ?_ | wp_step)
  show R _ _
  rw [Heap.size_push]
  exact hq
theorem makeX_core (F : ExcBaseFacts B newId initId bm) {rest : List Value} {init : Value} (Y : MakesX (model prog w) h C B newId) (hi : Looks (model prog w) h (typeLookup (.ref C) "__init__") (some init)) (hb : ∀ self, Looks (model prog w) h (bindSpecial init self) (init, [self])) (hrest : rest.length ≤ sizeLine)
    (hq : codeAny (model prog w) (A.under (.builtin "type.__call__" ⟨.ref C :: rest, []⟩)) (.call init ⟨.ref (h.objs.size + 1) :: rest, []⟩) (InitBack (h.objs.size + 1) R) ⟨(h.push { cls := .type "tuple", data := .seq rest.toArray }).push (excNew C h.objs.size), g, d, t, os⟩) :
    codeAny (model prog w) A (.call (.ref C) ⟨rest, []⟩) R ⟨h, g, d, t, os⟩ := by
  have Y' := Y
  obtain ⟨⟨oc, od, cd, sl, hC, e1, e2, e4⟩, made, base, self, isB, isE, noA, noN, call, typ⟩ := Y
  refine codeAny_of_tree ?_
  show wpAny _ _ (callAny (.ref C) _) _ _ _
  refine nd_load hC ?_
  show wpAny _ _ (callAny.viaDunder (.ref C) _) _ _ _
  unfold callAny.viaDunder
  refine wpAny_bind (call.at ?_)
  dsimp only
  rw [tc_bind]
  refine wpAny_bind (wpAny_pure (wpAny_bind (wpAny_pure (wpAny_pure (a := Fin.again (.call (.builtin "type.__call__") ⟨.ref C :: rest, []⟩)) (And.intro rfl ?_)))))
  refine codeAny_call_builtin_at (Code.quiet_builtin _ (by decide +kernel)) entry_typeCall (check_slot tc_kind tc_split typ (tc_args _ _ _) ?_)
  unfold Builtin.«type.__call__»
  have hm : Looks (model prog w) h (mroOf (.ref C)) cd.mro := ((Looks.ld (part := none) hC).andThen .now).andThen .now
  repeat (first | simp only [e4, Bool.false_eq_true, if_false] | with_reducible refine wpAny_call ?_ | lk)
  refine newX F Y' hrest ?_
  have k : ∀ b o, h.get? b = some o → ((h.push { cls := .type "tuple", data := .seq rest.toArray }).push (excNew C h.objs.size)).get? b = some o := fun b o e => Heap.get?_push_of_some _ (Heap.get?_push_of_some _ e)
  have hx : ((h.push { cls := .type "tuple", data := .seq rest.toArray }).push (excNew C h.objs.size)).get? (h.objs.size + 1) = some (excNew C h.objs.size) := by
    have := Heap.get?_push_size (h.push { cls := .type "tuple", data := .seq rest.toArray }) (o := excNew C h.objs.size) rfl
    rwa [Heap.size_push] at this
  have t1 : Looks (model prog w) ((h.push { cls := .type "tuple", data := .seq rest.toArray }).push (excNew C h.objs.size)) (typeOf (.ref (h.objs.size + 1))) (.ref C) := (Looks.ld hx).andThen .now
  have s1 := self.keeps k
  have i1 := hi.keeps k
  have b1 := (hb (.ref (h.objs.size + 1))).keeps k
  unfold isInstance callSpecial? specialOf
  repeat (first | with_reducible refine wpAny_call ?_ | lk)
  refine codeAny_mono hq fun r s' z => ?_
  rcases r with e | (v | _ | _ | _) <;> first | exact z | exact z.elim | skip
  obtain ⟨rfl, z⟩ := z
  exact wpAny_pure (wpAny_pure z)
end
end L2

set_option Elab.async false
set_option linter.all false
set_option maxRecDepth 100000
set_option maxHeartbeats 4000000
namespace L2
open PySem PySem.Spec PyProof.Rows PySem.SeqAt PySem.W Builtin.ObjectAttr
/-! ### attributes of an exception -/
/-- the exception's own record, and its dict: tracked while it is made -/
def excO (e C : Addr) (dd : Option Addr) : HO := .ext fun h => ∃ a0 : Value, h.get? e = some { cls := .ref C, dict := dd, data := .fields #[a0, .none, .none, .none, .bool false, .none] }
def exD (da : Addr) (fs : List (Str × V)) : HO := .ext fun h => ∃ mA, h.Ns1 da mA ∧ (∀ f, RelO (fs.lookup f) (mA f)) ∧ PySem.Within mA (fs.map (·.1))
theorem excO_ok {P : Program} {w : World} {H : Hp} {h : Heap} {e C : Addr} {dd : Option Addr} {a0 : Value} (x : h.get? e = some { cls := .ref C, dict := dd, data := .fields #[a0, .none, .none, .none, .bool false, .none] }) : ObjOk P w H h e (excO e C dd) :=
  ⟨⟨a0, x⟩, ⟨_, x⟩, fun h1 h2 ⟨a, z⟩ k => ⟨a, k _ z⟩⟩
theorem exD_ok {P : Program} {w : World} {H : Hp} {h : Heap} {da : Addr} {fs : List (Str × V)} {mA : Str → Option Value} (x : h.Ns1 da mA) (r : ∀ f, RelO (fs.lookup f) (mA f)) (wi : PySem.Within mA (fs.map (·.1))) : ObjOk P w H h da (exD da fs) := by
  obtain ⟨o, es, ep, ho, rest⟩ := id x
  refine ⟨⟨mA, x, r, wi⟩, ⟨o, ho⟩, fun h1 h2 z k => ?_⟩
  obtain ⟨mB, ⟨o', es', ep', ho', rest'⟩, r', wi'⟩ := z
  exact ⟨mB, ⟨o', es', ep', k _ ho', rest'⟩, r', wi'⟩
theorem refuse_refs (self : Value) {bm : List Value} (hb : refuseLoop self "__setattr__" bm = pure ()) (hne : bm ≠ []) : ∀ (rs : List Addr), refuseLoop self "__setattr__" (rs.map Value.ref ++ bm) = pure ()
  | [] => hb
  | c :: r => by
    rw [List.map_cons, List.cons_append, refuseLoop_ref]
    exact refuse_refs self hb hne r
/-- what the written part says of the exception's class -/
structure XCls (K : Frag) (C : Addr) (B newId : String) : Prop where
  mks : makesX K C B newId = true
  sa : findIn K (.ref C) "__setattr__" = some (some (.builtin "object.__setattr__"))
  cd : ∃ (cd : ClassData) (rs : List Addr) (bm : List Value), clsIn K C = some cd ∧ cd.hasDict = true ∧ cd.mro = rs.map Value.ref ++ bm ∧ bm ≠ [] ∧ (∀ self, refuseLoop self "__setattr__" bm = pure ()) ∧ bm.contains (.type "object") = true
  kp : keepIn K (.ref C) = true
  ty : typeIn K (.ref C) = some (.type "type")
section
variable {prog : Program} {w : World} {A : Around} {R : Result → Shared → Prop} {s : Shared} {K : Frag} {x C : Addr} {name : Str}
theorem osaX {ox : Obj} {od : Option Obj} {tk : Tok} {v : Value} {B newId : String} (X : K.In s.heap) (I : InstAt s.heap x ox C od) (XC : XCls K C B newId) (ht : takerIn K C name = some none)
    (h : ∀ b, wpAny (model prog w) A.in1 (Builtin.ObjectAttr.storeInOwnDict (.ref x) (.ref C) (.str name tk) name v b) (fun fin s' => match fin with | .done f => R (.ok f) s' | .again c' => c'.quiet = true ∧ codeAny (model prog w) A c' R s') (fun e s' => R (.error e) s') s) :
    codeAny (model prog w) A (.call (.builtin "object.__setattr__") ⟨[.ref x, .str name tk, v], []⟩) R s := by
  have SF := PySem.F.store_object
  obtain ⟨cd, rs, bm, hc, hdct, hmro, hne, hrf, hob⟩ := XC.cd
  have ne : cd.mro.isEmpty = false := by
    rw [hmro]
    cases rs with
    | nil => cases bm with | nil => exact absurd rfl hne | cons _ _ => rfl
    | cons _ _ => rfl
  have hcon : cd.mro.contains (.type "object") = true := by
    rw [hmro, List.contains_eq_mem, decide_eq_true_eq]
    rw [List.contains_eq_mem, decide_eq_true_eq] at hob
    exact List.mem_append_right _ hob
  have sub : Looks (model prog w) s.heap (isInstance (.ref x) (.type "object")) true := I.type.andThen (looks_mroIn X (by unfold mroIn; rw [hc, Option.bind_some, if_neg (by rw [ne]; decide), hcon]))
  refine codeAny_call_builtin SF.slot.plain SF.entry (@check_slot (model prog w) _ _ s "object.__setattr__" "object" "__setattr__" (.ref x) [.str name tk, v] [] _ SF.kind SF.split sub (SF.args (.ref x) (.str name tk) v) ?_)
  obtain ⟨attr, ha, hr⟩ := Option.bind_eq_some_iff.mp ht
  have hm : Looks (model prog w) s.heap (mroOf (.ref C)) cd.mro := (looks_clsIn X hc).andThen .now
  have L3 : Looks (model prog w) s.heap (storeTaker? attr) none := by
    cases attr with
    | none => exact .now
    | some a =>
      obtain ⟨b, hb, q⟩ := Option.map_eq_some_iff.mp hr
      refine (looks_takesIn X hb).andThen ?_
      cases b with
      | false => exact .now
      | true => cases q
  rw [osa_eq, refuse_eq]
  refine wpAny_bind (wpAny_bind (I.type.here (wpAny_bind (hm.here ?_))))
  rw [hmro, refuse_refs _ (hrf _) hne]
  refine wpAny_pure (wpAny_bind (I.type.here (wpAny_bind ((looks_findIn X ha).here (wpAny_bind (L3.here ?_))))))
  exact h _
end
end L2

set_option Elab.async false
set_option linter.all false
set_option maxRecDepth 100000
set_option maxHeartbeats 4000000
namespace L2
open PySem PySem.Spec PyProof.Rows PySem.SeqAt PySem.W Builtin.ObjectAttr
section
variable {prog : Program} {w : World} {A : Around} {E : Value → Shared → Prop} {s : Shared} {K : Frag} {x C : Addr} {name : Str} {v : Value} {tk : Tok} {Q : Fin → Shared → Prop} {vs : Array Value} {sl : Array (Option Value)}
theorem storeX_new {cd : ClassData} {b : Bool} (X : K.In s.heap) (hx : s.heap.get? x = some ⟨.ref C, none, .fields vs, sl⟩) (hc : clsIn K C = some cd) (hd : cd.hasDict = true)
    (h : ∀ h', h'.Ns1 s.heap.objs.size (fun y => if y = name then some v else none) → h'.get? x = some ⟨.ref C, some s.heap.objs.size, .fields vs, sl⟩ → (∀ b o, b ≠ x → s.heap.get? b = some o → h'.get? b = some o) → Q (.done (.ret .none)) { s with heap := h', toks := s.toks + 1 }) :
    wpAny (model prog w) A (storeInOwnDict (.ref x) (.ref C) (.str name tk) name v b) Q E s := by
  unfold storeInOwnDict
  refine wpAny_bind (wpAny_pure (wpAny_bind (wpAny_bind (wpAny_loadPart hx (wpAny_bind (Looks.here (looks_clsIn X hc) ?_))))))
  rw [hd]
  have hx1 : (s.heap.push { cls := .type "dict", data := .dict #[] }).get? x = some ⟨.ref C, none, .fields vs, sl⟩ := Heap.get?_push_of_some _ hx
  have hxs : x ≠ s.heap.objs.size := Nat.ne_of_lt (Heap.lt_size hx)
  show wpAny _ _ (do
    let d ← alloc { cls := Value.type "dict", data := Data.dict #[] }
    update x fun o => { cls := o.cls, dict := some d, data := o.data, slots := o.slots }
    dictMade (Value.ref C) x d) _ _ _
  refine wpAny_bind (wpAny_alloc' (wpAny_bind (wpAny_update' hx1 ?_)))
  refine wpAny_pure ?_
  have hgd : ((s.heap.push { cls := .type "dict", data := .dict #[] }).update x fun o => { cls := o.cls, dict := some s.heap.objs.size, data := o.data, slots := o.slots }).get? s.heap.objs.size = some { cls := .type "dict", data := .dict #[] } := (Heap.get?_update_ne _ _ _ _ hxs.symm).trans (Heap.get?_push_at rfl rfl)
  have hnd : ((s.heap.push { cls := .type "dict", data := .dict #[] }).update x fun o => { cls := o.cls, dict := some s.heap.objs.size, data := o.data, slots := o.slots }).Ns s.heap.objs.size (fun _ => none) := ⟨_, #[], _, hgd, rfl, fun e he => absurd he (by simp), fun _ => rfl⟩
  show wpAny _ _ (storeInDict s.heap.objs.size (.str name tk) name v) _ _ _
  unfold storeInDict newKeyGuard
  refine wpAny_bind (wpAny_pure (wpAny_bind (wpAny_nsSet1 (s := { s with heap := _ }) (Heap.Ns1.of_empty hnd) fun h' hn' hs => ?_)))
  obtain ⟨oD, esD, epD, hoD, hdD, hcD⟩ := hn'.count (PySem.Within.cons name v PySem.Within.nil)
  refine wpAny_bind (wpAny_lookBehind hoD (by rw [hdD]; exact pastItsLine_dict (Nat.le_trans hcD (by rw [List.length_cons, List.length_nil, sizeLine_eq]; omega))) ?_)
  refine wpAny_pure (h h' hn' ?_ fun b o hb hbo => ?_)
  · exact (hs.2 x hxs).trans (Heap.get?_update_self _ hx1 rfl)
  · exact (hs.2 b (Nat.ne_of_lt (Heap.lt_size hbo))).trans ((Heap.get?_update_ne _ _ _ _ hb).trans (Heap.get?_push_of_some _ hbo))
theorem storeX_old {cd : ClassData} {b : Bool} {da : Addr} {mA : Str → Option Value} {ns : List Str} (X : K.In s.heap) (hx : s.heap.get? x = some ⟨.ref C, some da, .fields vs, sl⟩) (hc : clsIn K C = some cd) (hd : cd.hasDict = true) (hn : s.heap.Ns1 da mA) (hw : PySem.Within mA ns) (hz : ns.length < 1000)
    (h : ∀ h', h'.Ns1 da (fun y => if y = name then some v else mA y) → Heap.SameBut da s.heap h' → Q (.done (.ret .none)) { s with heap := h', toks := s.toks + 1 }) :
    wpAny (model prog w) A (storeInOwnDict (.ref x) (.ref C) (.str name tk) name v b) Q E s := by
  unfold storeInOwnDict
  refine wpAny_bind (wpAny_pure (wpAny_bind (wpAny_bind (wpAny_loadPart hx (wpAny_bind (Looks.here (looks_clsIn X hc) ?_))))))
  rw [hd]
  refine wpAny_pure (a := some da) ?_
  show wpAny _ _ (storeInDict da (.str name tk) name v) _ _ _
  unfold storeInDict newKeyGuard
  refine wpAny_bind (wpAny_pure (wpAny_bind (wpAny_nsSet1 hn fun h' hn' hs => ?_)))
  obtain ⟨oD, esD, epD, hoD, hdD, hcD⟩ := hn'.count (PySem.Within.cons name v hw)
  refine wpAny_bind (wpAny_lookBehind hoD (by rw [hdD]; exact pastItsLine_dict (Nat.le_trans hcD (by rw [List.length_cons, sizeLine_eq]; omega))) ?_)
  exact wpAny_pure (h h' hn' hs)
end
section
variable {X : Cx} {pins : List (Addr × Obj)} {σ : St} {H : Hp} {s : Shared} {e C : Addr} {f : Str} {B newId : String} {A : Around} {E : Value → Shared → Prop} {y : V} {u : Value} {Q : Unit → Shared → Prop}
theorem exc_at {dd : Option Addr} (I : Inv X pins σ H s) (he : H e = some (excO e C dd)) : ∃ a0, s.heap.get? e = some { cls := .ref C, dict := dd, data := .fields #[a0, .none, .none, .none, .bool false, .none] } := (show ObjOk X.prog X.w H s.heap e (excO e C dd) from I.hok e _ he).1
theorem setX_new (I : Inv X pins σ H s) (he : H e = some (excO e C none)) (XC : XCls X.K C B newId) (ht : takerIn X.K C f = some none) (ry : RelV y u)
    (h : ∀ da s', H da = none → Inv X pins σ (upd (upd H e (excO e C (some da))) da (exD da [(f, y)])) s' → Q () s') : wpAny (model X.prog X.w) A (setAttr (.ref e) f u) Q E s := by
  obtain ⟨a0, hx⟩ := exc_at I he
  have J : InstAt s.heap e _ C none := ⟨hx, rfl, rfl, True.intro⟩
  obtain ⟨cd, rs, bm, hc, hdct, _⟩ := XC.cd
  refine set_plain I.kIn J XC.sa (osaX (s := { s with toks := s.toks + 1 }) I.kIn J XC ht fun b => storeX_new (s := { s with toks := s.toks + 1 }) I.kIn hx hc hdct fun h' hn hx' hk => ?_)
  have fr : H s.heap.objs.size = none := I.hok.fresh (Nat.le_refl _)
  have nes : e ≠ s.heap.objs.size := Nat.ne_of_lt (Heap.lt_size hx)
  refine h s.heap.objs.size _ fr ?_
  have hx1 : (s.heap.push emptyDict).get? e = some _ := Heap.get?_push_of_some _ hx
  have g1 : (s.heap.push emptyDict).get? s.heap.objs.size = some emptyDict := Heap.get?_push_size s.heap rfl
  have e3 : (s.heap.push emptyDict).Ns s.heap.objs.size (fun _ => none) := ⟨emptyDict, #[], _, g1, rfl, (fun e he => absurd he (by simp)), fun _ => rfl⟩
  have I1 := I.laid (a := s.heap.objs.size) (o := exD s.heap.objs.size []) (h' := s.heap.push emptyDict) (t' := s.toks) (fun b u q => Heap.get?_push_of_some _ q) (Nat.le_refl _) (exD_ok (Heap.Ns1.of_empty e3) (fun _ => True.intro) fun y hy => absurd rfl hy)
  have hx2 := Heap.get?_update_self (fun o : Obj => { o with dict := some s.heap.objs.size }) hx1 rfl
  have I2 := I1.write (x := e) (e := e) (o := excO e C (some s.heap.objs.size)) (h' := (s.heap.push emptyDict).update e fun o => { o with dict := some s.heap.objs.size }) (t' := s.toks) (by rw [upd_ne nes, he]; exact True.intro) (.inl rfl)
    (fun b q hb z => (Heap.get?_update_ne _ _ _ _ hb).trans z) ⟨_, hx2⟩ (excO_ok hx2)
  have I3 := I2.write (x := s.heap.objs.size) (e := s.heap.objs.size) (o := exD s.heap.objs.size [(f, y)]) (h' := h') (t' := s.toks + 1 + 1) (by rw [upd_ne nes.symm, upd_same]; exact True.intro) (.inl rfl) (fun b q hb z => ?_) (let ⟨o, _, _, ho, _⟩ := hn; ⟨o, ho⟩)
    (exD_ok hn (fun g => ?_) fun g hg => ?_)
  · have e1 : upd (upd (upd H s.heap.objs.size (exD s.heap.objs.size [])) e (excO e C (some s.heap.objs.size))) s.heap.objs.size (exD s.heap.objs.size [(f, y)]) = upd (upd H e (excO e C (some s.heap.objs.size))) s.heap.objs.size (exD s.heap.objs.size [(f, y)]) := by
      funext b
      unfold upd
      split
      · rfl
      · split
        · rfl
        · rfl
    rw [e1] at I3
    exact I3
  · by_cases hbe : b = e
    · subst hbe
      have z' : some q = some _ := z.symm.trans hx2
      cases z'
      exact hx'
    · have z1 : (s.heap.push emptyDict).get? b = some q := (Heap.get?_update_ne _ _ _ _ hbe).symm.trans z
      have z2 : s.heap.get? b = some q := by
        rcases Heap.get?_push_cases z1 with z | z
        · exact absurd z.1 hb
        · exact z
      exact hk b q hbe z2
  · have e2 : List.lookup g [(f, y)] = if g = f then some y else none := lookup_putF f g y []
    rw [e2]
    by_cases q : g = f
    · rw [if_pos q, if_pos q]; exact ry
    · rw [if_neg q, if_neg q]; exact True.intro
  · by_cases q : g = f
    · subst q; simp
    · exact absurd (if_neg q) hg
end
end L2

set_option Elab.async false
set_option linter.all false
set_option maxRecDepth 100000
set_option maxHeartbeats 4000000
namespace L2
open PySem PySem.Spec PyProof.Rows PySem.SeqAt PySem.W Builtin.ObjectAttr
section
variable {X : Cx} {CX : CXT} {k : Nat} {f C : Addr} {fd : FuncData} {ps : List Str} {sp : Sp} {dvs : List V} {ds : List Value} {E : XK} {B newId initId : String} {bm : List Value}
/-- C(..), C an own exception's class with its own __init__ -/
theorem run_makeX {pins : List (Addr × Obj)} {σ : St} {H : Hp} {s : Shared} {Q : VK} {us : List Value} {vs : List V} (BF : ExcBaseFacts B newId initId bm) (XC : XCls X.K C B newId) (hi : findIn X.K (.ref C) "__init__" = some (some (.ref f))) (hf : isFn X.K (.ref f) = true) (F : FnOk X.prog X.w X.K X.mg X.base CX k f fd ps sp) (hr : Room (k + 1) X.A)
    (hb : Binds X.K fd ps ds) (hd : Vals dvs ds) (hx : Passes CX X E) (I : Inv X pins σ H s) (r : Vals vs us) (hz : us.length ≤ sizeLine)
    (h : ∀ e, H e = none → sp (.ref e :: (vs ++ dvs)) (upd H e (excO e C none)) (fun v H2 => v = .non ∧ Q (.ref e) H2) E) :
    wpAny (model X.prog X.w) X.A (call (.ref C) us) (EP X pins σ Q) X.xe s := by
  obtain ⟨hh, g, d, t, os⟩ := s
  have hq := h (hh.objs.size + 1) (I.hok.fresh (Nat.le_succ _))
  have hget : ((hh.push { cls := .type "tuple", data := .seq us.toArray }).push (excNew C hh.objs.size)).get? (hh.objs.size + 1) = some (excNew C hh.objs.size) := by
    have := Heap.get?_push_size (hh.push { cls := .type "tuple", data := .seq us.toArray }) (o := excNew C hh.objs.size) rfl
    rwa [Heap.size_push] at this
  have I2 : Inv X pins σ (upd H (hh.objs.size + 1) (excO (hh.objs.size + 1) C none)) ⟨(hh.push { cls := .type "tuple", data := .seq us.toArray }).push (excNew C hh.objs.size), g, d, t, os⟩ :=
    I.laid (h' := (hh.push { cls := .type "tuple", data := .seq us.toArray }).push (excNew C hh.objs.size)) (t' := t) (fun b u q => Heap.get?_push_of_some _ (Heap.get?_push_of_some _ q)) (Nat.le_succ _) (excO_ok hget)
  have r2 : Vals (V.ref (hh.objs.size + 1) :: (vs ++ dvs)) (Value.ref (hh.objs.size + 1) :: (us ++ ds)) := .cons rfl (r.append hd)
  have hl : (Value.ref (hh.objs.size + 1) :: us ++ ds).length = ps.length := by
    have e := r2.length
    rw [F.len _ _ _ _ hq] at e
    exact e.symm
  refine wpAny_call (makeX_core BF (makesX_of I.kIn XC.mks) (looks_findIn I.kIn hi) (fun self => bind_fn I.kIn self (beq_iff_eq.mp hf)) hz (codeAny_mono (F.run _ X.stack _ _ ⟨Value.ref (hh.objs.size + 1) :: us, []⟩ (Value.ref (hh.objs.size + 1) :: (us ++ ds)) _ _ E (hr.make C us [])
    (I2.env0.make C us []) (hb _ (Value.ref (hh.objs.size + 1) :: us) I2.kIn hl) r2 hq) fun r s' hq' => ?_))
  match r, hq' with
  | .error e, hq' => exact hx pins σ _ _ e s' I2 hq'
  | .ok (.ret u), hq' =>
    obtain ⟨v, H', I3, rv, ev, q3⟩ := I2.after hq'
    subst ev
    exact ⟨rv, ⟨V.ref (hh.objs.size + 1), H', I3, rfl, q3⟩⟩
def tMakeX (C : Addr) (sp : Sp) (dvs : List V) (E : XK) (t : TA) : TE := fun σ H Q => t σ H fun vs H1 => ∀ e, H1 e = none → sp (.ref e :: (vs ++ dvs)) (upd H1 e (excO e C none)) (fun v H2 => v = .non ∧ Q (.ref e) H2) E
theorem pe_makeX {x : Str} {p pos : Pos} {e : Expr} {es : List Expr} {t : TA} (BF : ExcBaseFacts B newId initId bm) (XC : XCls X.K C B newId) (hi : findIn X.K (.ref C) "__init__" = some (some (.ref f))) (hf : isFn X.K (.ref f) = true) (F : FnOk X.prog X.w X.K X.mg X.base CX k f fd ps sp) (hr : Room (k + 1) X.A)
    (hg : Gl X x) (hm : X.mg x = some (.ref C)) (hb : Binds X.K fd ps ds) (hd : Vals dvs ds) (hx : Passes CX X E) (ha : PA X (e :: es) t) (hdb : (x == ("__debug__" : Str)) = false := by decide) (he : starEach (e :: es) X.env = (false, eval e X.env) :: starEach es X.env := by rfl) (hpl : (backTo pos (starEach es X.env)).any (·.1) = false := by rfl) (hle : ps.length ≤ 20 := by decide) :
    PE X (.Call (.Name x p) (e :: es) [] pos) (tMakeX C sp dvs E t) := by
  intro pins s σ H Q I h
  refine wpAny_Call_Name_kw (ld_glob I hg hm ?_ hdb)
  refine callWith_K (h₀ := X.base) I.ok.mod.kin XC.kp (thn (ha pos pins s σ H _ I h) fun us s1 ⟨vs, H1, I1, r, q⟩ => ⟨I1.kIn, ?_⟩) he hpl
  refine run_makeX BF XC hi hf F hr hb hd hx I1 r ?_ q
  have h1 := F.len _ _ _ _ (q (s1.heap.objs.size) (I1.hok.fresh (Nat.le_refl _)))
  rw [List.length_cons, List.length_append] at h1
  have h2 := r.length
  exact Nat.le_trans (show us.length ≤ 20 by omega) (by decide)
end
end L2

set_option Elab.async false
set_option linter.all false
set_option maxRecDepth 100000
set_option maxHeartbeats 4000000
namespace L2
open PySem PySem.Spec PyProof.Rows PySem.SeqAt PySem.W Builtin.ObjectAttr
/-! ### raise -/
def unt (H : Hp) (a : Addr) : Hp := fun b => if b = a then none else H b
theorem unt_same {H : Hp} {a : Addr} : unt H a a = none := if_pos rfl
theorem unt_ne {H : Hp} {a b : Addr} (h : b ≠ a) : unt H a b = H b := if_neg h
theorem unt_none {H : Hp} {a b : Addr} (h : H b = none) : unt H a b = none := by
  unfold unt
  split
  · rfl
  · exact h
section
variable {X : Cx} {pins : List (Addr × Obj)} {σ : St} {H : Hp} {s : Shared} {e C : Addr} {dd : Option Addr}
/-- the exception is made: it is tracked no more -/
theorem Inv.unt (I : Inv X pins σ H s) (he : H e = some (excO e C dd)) : Inv X pins σ (L2.unt H e) s := by
  have up : ∀ b u, H b = some u → u ≠ excO e C dd → L2.unt H e b = some u := fun b u z hu => by
    by_cases q : b = e
    · subst q; rw [he] at z; exact absurd (Option.some.inj z).symm hu
    · rw [unt_ne q]; exact z
  refine ⟨I.ok, I.os, I.bare, ⟨I.base.keep, I.base.slot, fun b o z n hx => unt_none (I.base.free b o z n hx), I.base.there, fun b xs z => up b _ (I.base.tups b xs z) (by intro q; cases q), fun b o u z => up b _ (I.base.frzs b o u z) (by intro q; cases q), fun b ps z => ?_⟩, I.loc, I.cell, unt_none I.free, fun x c z => unt_none (I.freeC x c z), fun p hp => ?_, fun b u z => ?_, I.len⟩
  · obtain ⟨m, q⟩ := I.base.tbls b ps z
    exact ⟨m, up b _ q (by intro q; cases q)⟩
  · obtain ⟨p1, p2, p3⟩ := I.pin p hp
    exact ⟨p1, unt_none p2, p3⟩
  · by_cases q : b = e
    · subst q; rw [unt_same] at z; cases z
    · rw [unt_ne q] at z
      exact (I.hok b u z).stay (fun c v _ r => r) (fun c r => up c _ r (by intro q; cases q)) fun c xs r => up c _ r (by intro q; cases q)
/-- raise e, e an exception just made -/
def tRaise (X : Cx) (B newId : String) (W : XK) (te : TE) : TS := fun _ σ H => te σ H fun x H1 => ∃ e C dd, x = .ref e ∧ H1 e = some (excO e C dd) ∧ X.H₀ e = none ∧ XCls X.K C B newId ∧ W (.ref C) dd (unt H1 e)
theorem ps_raise {ex : Expr} {pos : Pos} {te : TE} {W : XK} {B newId : String} (he : PE X ex te) (hcalm : X.calm = true) (hex : X.ex = [])
    (hxe : ∀ (pins : List (Addr × Obj)) (σ : St) (H' : Hp) (s' : Shared) (e : Addr) (cls : Value) (dd : Option Addr), Inv X pins σ H' s' → ExcOk s'.heap H' X.s₀.heap e cls dd → W cls dd H' → X.xe (.ref e) s') : PS X (.Raise (some ex) none pos) (tRaise X B newId W te) := by
  intro pins s σ H D I h
  rw [arm_exec_Raise]
  have key : ∀ xs : Sem Value, wpAny (model X.prog X.w) X.A xs (EP X pins σ fun x H1 => ∃ e C dd, x = .ref e ∧ H1 e = some (excO e C dd) ∧ X.H₀ e = none ∧ XCls X.K C B newId ∧ W (.ref C) dd (L2.unt H1 e)) X.xe s → wpAny (model X.prog X.w) X.A (raiseStmt X.env (some xs) none) (SP X pins D) X.xe s := by
    intro xs hxs
    unfold raiseStmt
    refine wpAny_bind (thn hxs fun v s1 ⟨x, H1, I1, r1, e, C, dd, ex', hx, h0, XC, q⟩ => ?_)
    subst ex'
    cases (show v = Value.ref e from r1)
    obtain ⟨a0, hg⟩ := exc_at I1 hx
    have Y := makesX_of (M := model X.prog X.w) I1.kIn XC.mks
    obtain ⟨⟨oc, od, cd, sl, hC, e1, e2, e4⟩, made, base, self, isB, isE, noA, noN, call, typ⟩ := Y
    have T1 : Looks (model X.prog X.w) s1.heap (typeOf (.ref e)) (.ref C) := (Looks.ld hg).andThen .now
    have fin : X.xe (.ref e) s1 := by
      refine hxe pins σ _ s1 e (.ref C) dd (I1.unt hx) ⟨_, _, hg, rfl, rfl, rfl, ?_, unt_same, .inl rfl⟩ q
      cases z : X.s₀.heap.get? e with
      | none => rfl
      | some o =>
        have := I1.base.free e o z h0 (by rw [hex]; simp)
        rw [hx] at this; cases this
    have T2 : Looks (model X.prog X.w) s1.heap (typeOf (.ref C)) (.type "type") := looks_typeIn I1.kIn XC.ty
    have T3 : Looks (model X.prog X.w) s1.heap (isInstance (.ref e) (.type "BaseException")) true := T1.andThen isE
    have hh : X.A.handled = none := I1.ok.hd hcalm
    clear I1 r1 hxs he h I XC made base self isB noA noN call typ
    obtain ⟨hp, g, d, tk, os⟩ := s1
    repeat (first | with_reducible refine wpAny_loadPart_at hg ?_ | with_reducible refine T3.at ?_ | with_reducible refine T1.at ?_ | with_reducible refine T2.at ?_ | wp_step)
    exact wpAny_raiseNew_none hh fin
  first
    | exact wpAny_bind (wpAny_standAt (key _ (wpAny_bind (thn (he pins s σ H _ I h) fun v s1 z => wpAny_bind (wpAny_standAt (wpAny_pure z))))))
    | (simp only [evalOpt, Option.map]; exact wpAny_bind (wpAny_standAt (key _ (wpAny_bind (thn (he pins s σ H _ I h) fun v s1 z => wpAny_bind (wpAny_standAt (wpAny_pure z)))))))
end
end L2

set_option Elab.async false
set_option linter.all false
set_option maxRecDepth 100000
set_option maxHeartbeats 4000000
namespace L2
open PySem PySem.Spec PyProof.Rows PySem.SeqAt PySem.W Builtin.ObjectAttr
section
variable {X : Cx} {pins : List (Addr × Obj)} {σ : St} {H : Hp} {s : Shared} {e C : Addr} {f : Str} {B newId initId : String} {bm : List Value} {A : Around} {E : Value → Shared → Prop} {y : V} {u : Value} {Q : Unit → Shared → Prop}
theorem setX_old {da : Addr} {fs : List (Str × V)} (I : Inv X pins σ H s) (he : H e = some (excO e C (some da))) (hd : H da = some (exD da fs)) (hl : fs.length < 1000) (XC : XCls X.K C B newId) (ht : takerIn X.K C f = some none) (ry : RelV y u)
    (h : ∀ s', Inv X pins σ (upd H da (exD da (putF f y fs))) s' → Q () s') : wpAny (model X.prog X.w) A (setAttr (.ref e) f u) Q E s := by
  obtain ⟨a0, hx⟩ := exc_at I he
  obtain ⟨mA, hn, r, wi⟩ := (show ObjOk X.prog X.w H s.heap da (exD da fs) from I.hok da _ hd).1
  obtain ⟨od, hod, _⟩ := lookIn_ns hn
  have J : InstAt s.heap e _ C (some od) := ⟨hx, rfl, rfl, hod⟩
  obtain ⟨cd, rs, bm, hc, hdct, _⟩ := XC.cd
  refine set_plain I.kIn J XC.sa (osaX (s := { s with toks := s.toks + 1 }) I.kIn J XC ht fun b => storeX_old (s := { s with toks := s.toks + 1 }) (ns := fs.map (·.1)) I.kIn hx hc hdct hn wi (by rw [List.length_map]; exact hl) fun h' hn' hs => ?_)
  refine h _ (I.write (x := da) (e := da) (h' := h') (t' := s.toks + 1 + 1) (by rw [hd]; exact True.intro) (.inl rfl) (fun b q hb z => (hs.2 b hb).trans z) (let ⟨o, _, _, ho, _⟩ := hn'; ⟨o, ho⟩) (exD_ok hn' (fun g => ?_) fun g hg => ?_))
  · show RelO ((putF f y fs).lookup g) (if g = f then some u else mA g)
    rw [lookup_putF]
    by_cases q : g = f
    · rw [if_pos q, if_pos q]; exact ry
    · rw [if_neg q, if_neg q]; exact r g
  · by_cases q : g = f
    · rw [q]; exact (keys_putF f y fs).1
    · refine (keys_putF f y fs).2 g (wi g fun z => hg ?_)
      show (if g = f then some u else mA g) = none
      rw [if_neg q]; exact z
/-- self.f = value, self an exception that is being made -/
def sFldX (K : Frag) (B newId : String) (ta tv : TE) (f : Str) : TS := fun D σ H => tv σ H fun y H1 => ta σ H1 fun x H2 => ∃ e C, x = .ref e ∧ XCls K C B newId ∧ takerIn K C f = some none ∧
  ((H2 e = some (excO e C none) ∧ ∀ da, H2 da = none → D.nx σ (upd (upd H2 e (excO e C (some da))) da (exD da [(f, y)]))) ∨
    ∃ da fs, H2 e = some (excO e C (some da)) ∧ H2 da = some (exD da fs) ∧ fs.length < 1000 ∧ D.nx σ (upd H2 da (exD da (putF f y fs))))
theorem ps_fldX {o value : Expr} {pos pos' : Pos} {ta tv : TE} (ha : PE X o ta) (hv : PE X value tv) (hs : swapsWith value (some (.Attribute o f pos')) pos.line X.env = pure false) : PS X (.Assign [.Attribute o f pos'] value pos) (sFldX X.K B newId ta tv f) := by
  intro pins s σ H D I h
  refine plainObj_wpAny_Assign_Attribute (thn (hv pins s σ H _ I h) fun u s1 ⟨y, H1, I1, ry, q⟩ => thn (ha pins s1 σ H1 _ I1 q) fun ov s2 ⟨x, H2, I2, rx, e, C, ex, XC, ht, q2⟩ => ?_) hs
  subst ex
  cases (show ov = Value.ref e from rx)
  rcases q2 with ⟨he, q2⟩ | ⟨da, fs, he, hd, hl, q2⟩
  · exact setX_new I2 he XC ht ry fun da s' hda I3 => ⟨σ, _, I3, q2 da hda⟩
  · exact setX_old I2 he hd hl XC ht ry fun s' I3 => ⟨σ, _, I3, q2⟩
/-- the built-in __init__ of an exception -/
theorem call_initX (BF : ExcBaseFacts B newId initId bm) : CallR X (.builtin initId) (fun xs H Q => ∃ e C dd y, xs = [.ref e, y] ∧ H e = some (excO e C dd) ∧ XCls X.K C B newId ∧ Q .non H) := by
  intro pins s σ H xs us Q I r h
  obtain ⟨e, C, dd, y, rfl, he, XC, q⟩ := h
  cases r with
  | cons r1 r =>
    cases r with
    | cons r2 r =>
      cases r
      rename_i u1 u2
      cases (show u1 = Value.ref e from r1)
      obtain ⟨a0, hg⟩ := exc_at I he
      have Y := makesX_of (M := model X.prog X.w) I.kIn XC.mks
      have T1 : Looks (model X.prog X.w) s.heap (typeOf (.ref e)) (.ref C) := (Looks.ld hg).andThen .now
      have T3 : Looks (model X.prog X.w) s.heap (isInstance (.ref e) (.type B)) true := T1.andThen Y.isB
      have hshort := BF.noStar
      refine wpAny_call (codeAny_call_builtin BF.init.plain BF.initEntry ?_)
      simp only [checkBuiltinCall, BF.initKind, BF.initSplit, BF.initRow]
      refine wpAny_bind (T3.here ?_)
      simp only [Bool.not_true, Bool.false_eq_true, if_false]
      obtain ⟨oc, od, cd, sl, hC, e1, e2, e4⟩ := Y.obj
      have T2 := Y.typ
      obtain ⟨hp, g, d, tk, os⟩ := s
      unfold Bind.checkArgs
      repeat (first | with_reducible refine wpAny_loadPart_at hg ?_ | with_reducible refine wpAny_loadPart_at hC ?_ | with_reducible refine T1.at ?_ | wp_step)
      have fin : ∀ tk', EP X pins σ Q .none ⟨(hp.push { cls := Value.type "tuple", data := Data.seq #[u2] }).update e (Obj.mapFields fun x => x.setIfInBounds 0 (Value.ref hp.objs.size)), g, d, tk', os⟩ := fun tk' => by
        have hg' : hp.get? e = some { cls := .ref C, dict := dd, data := .fields #[a0, .none, .none, .none, .bool false, .none] } := hg
        have hg1 := Heap.get?_push_of_some (h := hp) { cls := Value.type "tuple", data := Data.seq #[u2] } hg'
        have hg2 := Heap.get?_update_self (Obj.mapFields fun x => x.setIfInBounds 0 (Value.ref hp.objs.size)) hg1 rfl
        have I1 : Inv X pins σ H ⟨hp.push { cls := Value.type "tuple", data := Data.seq #[u2] }, g, d, tk', os⟩ := I.kept (s := ⟨hp, g, d, tk, os⟩) (t' := tk') fun b o z => Heap.get?_push_of_some _ z
        have I2 := I1.write (x := e) (e := e) (o := excO e C dd) (h' := (hp.push { cls := Value.type "tuple", data := Data.seq #[u2] }).update e (Obj.mapFields fun x => x.setIfInBounds 0 (Value.ref hp.objs.size))) (t' := tk') (by rw [he]; exact True.intro) (.inl rfl) (fun b q hb z => (Heap.get?_update_ne _ _ _ _ hb).trans z) ⟨_, hg2⟩ (excO_ok (a0 := .ref hp.objs.size) hg2)
        have eH : upd H e (excO e C dd) = H := by
          funext b
          unfold upd
          split
          · rename_i q; rw [q, he]
          · rfl
        rw [eH] at I2
        exact ⟨.non, H, I2, rfl, q⟩
      cases a0 <;> first | exact wpAny_pure (wpAny_pure (fin _)) | exact wpAny_letGo (wpAny_pure (fin _))
end
end L2

set_option Elab.async false
set_option linter.all false
set_option maxRecDepth 100000
set_option maxHeartbeats 4000000
namespace L2
open PySem PySem.Spec PyProof.Rows PySem.SeqAt PySem.W Builtin.ObjectAttr
section
variable {X : Cx} {CX : CXT} {k : Nat} {f C CS : Addr} {fd : FuncData} {ps : List Str} {sp : Sp} {dvs : List V} {ds : List Value} {E : XK} {m tn cn : Str} {T id : String} {p pos apos : Pos} {e : Expr} {es : List Expr} {t : TA} {r : List V → Hp → VK → Prop} {mc : Value}
/-- T.m(..), T a built-in type -/
def tCallR (r : List V → Hp → VK → Prop) (t : TA) : TE := fun σ H Q => t σ H fun vs H1 => r vs H1 Q
theorem pe_typeMeth {pl : Sem Bool} (hg : Gl X tn) (hm : X.mg tn = none) (hv : bootBuiltins tn = some (.type T)) (ht : typeOf (.type T) = pure (.type "type")) (hs : Manifest.isStub T = false) (fc : findCls X.K (.type T) (.type "type") m = some (.val (.builtin id))) (hc : CallR X (.builtin id) r) (ha : PA X (e :: es) t) (hh : handedIn (.builtin id) = true := by rfl)
    (hn : tn ≠ "__name__" := by decide) (hdb : (tn == ("__debug__" : Str)) = false := by decide) (hst : starEach (e :: es) X.env = (false, eval e X.env) :: starEach es X.env := by rfl) (hpl : (backTo pos (starEach es X.env)).any (·.1) = false := by rfl)
    (hte : eval (.Call (.Attribute (.Name tn p) m apos) (e :: es) [] pos) X.env = (do
      let ov ← eval (.Name tn p) X.env
      standAt apos.atName
      let (f, first) ← holding [ov] (getMethod ov m pl)
      callWith pos f first (backTo pos (starEach (e :: es) X.env)) (backToKw pos (keywordEach [] X.env))) := by rfl) :
    PE X (.Call (.Attribute (.Name tn p) m apos) (e :: es) [] pos) (tCallR r t) := by
  intro pins s σ H Q I h
  obtain ⟨mm, F⟩ := I.fr
  refine methodCall_KW (pl := pl) (ld_blt I hg hm hv (method_type F I.ok.mod.kin ht hs fc hh ?_) hn hdb) hte
  exact callWith_builtin1 (thn (ha pos pins _ σ H _ (I.tok _) h) fun us s1 ⟨vs, H1, I1, r1, q1⟩ => hc pins s1 σ H1 vs us Q I1 r1 q1) hst hpl
/-- C.m(..), C an own class -/
theorem pe_clsMeth {pl : Sem Bool} (hg : Gl X cn) (hm : X.mg cn = some (.ref CS)) (sg : specialIn X.K (.ref CS) "__getattribute__" = some (some (.builtin "type.__getattribute__"))) (hr' : readsIn X.K CS mc = true) (fc : findCls X.K (.ref CS) mc m = some (.val (.ref f))) (hk : keepIn X.K (.ref f) = true)
    (F : FnOk X.prog X.w X.K X.mg X.base CX k f fd ps sp) (hr : Room k X.A) (hb : Binds X.K fd ps ds) (hd : Vals dvs ds) (hx : Passes CX X E) (ha : PA X (e :: es) t) (hdb : (cn == ("__debug__" : Str)) = false := by decide)
    (hst : starEach (e :: es) X.env = (false, eval e X.env) :: starEach es X.env := by rfl) (hpl : (backTo pos (starEach es X.env)).any (·.1) = false := by rfl)
    (hte : eval (.Call (.Attribute (.Name cn p) m apos) (e :: es) [] pos) X.env = (do
      let ov ← eval (.Name cn p) X.env
      standAt apos.atName
      let (f, first) ← holding [ov] (getMethod ov m pl)
      callWith pos f first (backTo pos (starEach (e :: es) X.env)) (backToKw pos (keywordEach [] X.env))) := by rfl) :
    PE X (.Call (.Attribute (.Name cn p) m apos) (e :: es) [] pos) (tCall sp dvs E t) := by
  intro pins s σ H Q I h
  refine methodCall_KW (pl := pl) (ld_glob I hg hm (method_cls I.kIn sg (cls_value I.kIn hr' fc rfl ?_)) hdb) hte
  refine callWith_K (first := []) (h₀ := X.base) I.ok.mod.kin hk (thn (ha pos pins _ σ H _ (I.tok _) h) fun us s1 ⟨vs, H1, I1, r, q⟩ => ⟨I1.kIn, ?_⟩) hst hpl
  exact run_fn F hr hb hd hx I1 r q
end
end L2

set_option Elab.async false
set_option linter.all false
set_option maxRecDepth 100000
set_option maxHeartbeats 4000000
namespace L2
open PySem PySem.Spec PyProof.Rows
section
variable {X : Cx} {pins : List (Addr × Obj)} {σ : List (Option V)} {H H' : Hp} {s : Shared} {h' : Heap}
theorem Inv.stepN {g' : Array GenState} {t' : Nat} {d' : Drawn} {ch : List Addr} (I : Inv X pins σ H s)
    (hch : ∀ b ∈ ch, X.s₀.heap.get? b = none ∧ b ≠ X.env.locals ∧ (∀ x c, X.env.cells.lookup x = some c → c ≠ b) ∧ ∀ p ∈ X.pn ++ pins, p.1 ≠ b)
    (keep : ∀ b o, b ≠ X.env.locals → b ∉ X.fs → b ∉ ch → s.heap.get? b = some o → H b = none → h'.get? b = some o)
    (slot : ∀ b o, b ≠ X.env.locals → b ∈ X.fs → b ∉ ch → s.heap.get? b = some o → H b = none → ∃ sl, h'.get? b = some { o with slots := sl }) (free : ∀ b o, b ∉ ch → s.heap.get? b = some o → H b = none → H' b = none)
    (there : ∀ b o, b ∉ ch → s.heap.get? b = some o → ∃ o', h'.get? b = some o')
    (tups : ∀ b xs, H b = some (.tup xs) → H' b = some (.tup xs)) (frzs : ∀ b o u, H b = some (.frz o u) → H' b = some (.frz o u)) (tbls : ∀ b ps, H b = some (.tbl ps) → ∃ more, H' b = some (.tbl (ps ++ more)))
    (ns : ∀ m, s.heap.Ns X.env.locals m → h'.Ns X.env.locals m) (hok : HOk X.prog X.w H' h') (hg : AllBare g') :
    Inv X pins σ H' { s with heap := h', gens := g', drawn := d', toks := t' } := by
  have neL : ∀ b o, X.s₀.heap.get? b = some o → b ≠ X.env.locals := fun b o e => Nat.ne_of_lt (Nat.lt_of_lt_of_le (Heap.lt_size e) I.ok.above)
  have neC : ∀ b o, X.s₀.heap.get? b = some o → b ∉ X.ex → b ∉ ch := fun b o e hx hb => by
    rw [(hch b hb).1] at e; cases e
  have cellK : ∀ x c, X.env.cells.lookup x = some c → ∀ v, s.heap.IsCell c v → h'.IsCell c v := fun x c e v ⟨o, ho, hd⟩ => by
    have nch : c ∉ ch := fun z => (hch c z).2.2.1 x c e rfl
    by_cases hc : c ∈ X.fs
    · obtain ⟨sl, q⟩ := slot c o (I.cne x c e) hc nch ho (I.freeC x c e)
      exact ⟨_, q, hd⟩
    · exact ⟨o, keep c o (I.cne x c e) hc nch ho (I.freeC x c e), hd⟩
  refine ⟨I.ok, I.os, hg, ⟨fun b o e n hb hx => ?_, fun b o e n hb hx => ?_, fun b o e n hx => ?_, fun b o e hx => ?_, fun b xs e => tups b xs (I.base.tups b xs e), fun b o xs e => frzs b o xs (I.base.frzs b o xs e), fun b ps e => ?_⟩, ?_, fun x c e => ?_, ?_, fun x c e => ?_, fun p hp => ?_, hok, I.len⟩
  · exact keep b o (neL b o e) hb (neC b o e hx) (I.base.keep b o e n hb hx) (I.base.free b o e n hx)
  · obtain ⟨sl, e1⟩ := I.base.slot b o e n hb hx
    obtain ⟨sl', e2⟩ := slot b _ (neL b o e) hb (neC b o e hx) e1 (I.base.free b o e n hx)
    exact ⟨sl', e2⟩
  · obtain ⟨o', e1⟩ := I.base.there b o e hx
    exact free b o' (neC b o e hx) e1 (I.base.free b o e n hx)
  · obtain ⟨o', e1⟩ := I.base.there b o e hx
    exact there b o' (neC b o e hx) e1
  · obtain ⟨m1, e1⟩ := I.base.tbls b ps e
    obtain ⟨m2, e2⟩ := tbls b _ e1
    exact ⟨m1 ++ m2, by rw [e2, Array.append_assoc]⟩
  · obtain ⟨m, hn, hl⟩ := I.loc
    refine ⟨m, ns m hn, fun i x v e1 e2 e3 => ?_⟩
    obtain ⟨u, r, l⟩ := hl i x v e1 e2 e3
    refine ⟨u, r, ?_⟩
    rcases l with l | ⟨k, c, e, z⟩
    · exact .inl l
    · exact .inr ⟨k, c, e, cellK x c e _ z⟩
  · obtain ⟨v, z⟩ := I.cell x c e
    exact ⟨v, cellK x c e v z⟩
  · obtain ⟨m, ⟨o, _, _, ho, _⟩, _⟩ := I.loc
    exact free _ o (fun z => (hch _ z).2.1 rfl) ho I.free
  · obtain ⟨v, o, ho, hd⟩ := I.cell x c e
    exact free c o (fun z => (hch c z).2.2.1 x c e rfl) ho (I.freeC x c e)
  · obtain ⟨e, n, ne, nf, d⟩ := I.pin p hp
    have nch : p.1 ∉ ch := fun z => (hch p.1 z).2.2.2 p hp rfl
    exact ⟨keep p.1 p.2 ne nf nch e n, free p.1 p.2 nch e n, ne, nf, d⟩
end
end L2
namespace L2
open PySem PySem.Spec PyProof.Rows PySem.SeqAt PySem.W Builtin.ObjectAttr
section
variable {X : Cx} {pins : List (Addr × Obj)} {σ σ0 : St} {H H0 : Hp} {s s0 : Shared} {e : Addr} {cls : Value} {dd : Option Addr}
/-- an exception is met by a try: its frame is noted, all stands as it did -/
theorem catchX {A : Around} {Q : Unit → Shared → Prop} {E : Value → Shared → Prop} (I0 : Inv X pins σ0 H0 s0) (I : Inv X pins σ H s) (hst : X.stack = X.env :: X.outer) (hfm : X.env.frame = some X.env.locals) (hfr : A.frames = some X.stack) (hex : X.ex = []) (hth : ∀ b o, s0.heap.get? b = some o → ∃ o', s.heap.get? b = some o') (x : ExcOk s.heap H s0.heap e cls dd)
    (h : ∀ h', ExcOk h' H s0.heap e cls dd → Inv X pins σ H { s with heap := h' } → Q () { s with heap := h' }) : wpAny (model X.prog X.w) A (noteFrame (.ref e) X.env) (fun _ s2 => wpAny (model X.prog X.w) A (setFlight (.ref e) none) Q E s2) E s := by
  have hl := I.stack
  rw [hst] at hfr hl
  obtain ⟨oe, vs, h1, h2, h3, h4, h5, h6, h7⟩ := x
  have free : ∀ b ∈ (X.env :: X.outer).filterMap (·.frame), H b = none := fun b hb => I.stkFree b (by rw [hst]; exact hb)
  -- what was there ahead of the call is neither the exception nor its record
  have old : ∀ T, s0.heap.get? T = none → X.s₀.heap.get? T = none ∧ T ≠ X.env.locals ∧ (∀ x c, X.env.cells.lookup x = some c → c ≠ T) ∧ ∀ p ∈ X.pn ++ pins, p.1 ≠ T := fun T hT => by
    refine ⟨?_, ?_, fun x c z q => ?_, fun p hp q => ?_⟩
    · cases z : X.s₀.heap.get? T with
      | none => rfl
      | some o =>
        obtain ⟨o', q⟩ := I0.base.there T o z (by rw [hex]; simp)
        rw [hT] at q; cases q
    · rintro rfl
      obtain ⟨_, ⟨o, _, _, ho, _⟩, _⟩ := I0.loc
      rw [hT] at ho; cases ho
    · obtain ⟨v, o, ho, _⟩ := I0.cell x c z
      rw [q, hT] at ho; cases ho
    · have := (I0.pin p hp).1
      rw [q, hT] at this; cases this
  have fin : ∀ (ch : List Addr) (h' : Heap) (T : Addr) (oe' oT : Obj) (vs' ts : Array Value), (∀ b ∈ ch, s0.heap.get? b = none ∧ H b = none) → s0.heap.get? T = none → T ≠ e → H T = none → h'.get? e = some oe' → oe'.cls = oe.cls → oe'.dict = oe.dict → oe'.data = .fields vs' → vs'[1]? = some (.ref T) → h'.get? T = some oT → oT.data = .fields ts → ts[3]? = some .none →
      (∀ b o, b ∉ ch → b ∉ (X.env :: X.outer).filterMap (·.frame) → s.heap.get? b = some o → h'.get? b = some o) → (∀ b o, b ∉ ch → s.heap.get? b = some o → ∃ sl, h'.get? b = some { o with slots := sl }) → Q () { s with heap := h' } := by
    intro ch h' T oe' oT vs' ts hch hT hTe hTn g1 g2 g3 g4 g5 g6 g7 g8 kp ks
    refine h h' ⟨oe', vs', g1, g2.trans h2, g3.trans h3, g4, h5, h6, .inr ⟨T, oT, ts, g5, hTe, g6, g7, g8, hT, hTn⟩⟩ ?_
    have ninF : ∀ b, b ≠ X.env.locals → b ∉ X.fs → b ∉ (X.env :: X.outer).filterMap (·.frame) := fun b hb hn hm => by
      rw [List.filterMap_cons, hfm] at hm
      rcases List.mem_cons.mp hm with q | hm
      · exact hb q
      · exact hn hm
    refine I.stepN (ch := ch) (g' := s.gens) (d' := s.drawn) (t' := s.toks) (fun b hb => old b (hch b hb).1) (fun b o hL hf hc z _ => kp b o hc (ninF b hL hf) z) (fun b o _ _ hc z _ => ks b o hc z) (fun b o _ _ n => n) (fun b o hc z => let ⟨sl, q⟩ := ks b o hc z; ⟨_, q⟩) (fun _ _ z => z) (fun _ _ _ z => z) (fun b ps z => ⟨#[], by rw [z]; simp⟩) (fun m hm => ?_) (fun b u hb => ?_) I.bare
    · obtain ⟨o, es, ep, ho, hd, r⟩ := hm
      have hnl : X.env.locals ∉ ch := fun z => (old _ (hch _ z).1).2.1 rfl
      obtain ⟨sl, q⟩ := ks _ o hnl ho
      exact ⟨_, es, ep, q, hd, r⟩
    · refine (I.hok b u hb).stay (fun c v hc q => kp c v (fun z => ?_) (fun hm => ?_) q) (fun _ q => q) fun _ _ q => q
      · have := (hch c z).2
        rcases hc with rfl | w
        · rw [this] at hb; cases hb
        · rw [this] at w; cases w
      · have := free c hm
        rcases hc with rfl | w
        · rw [this] at hb; cases hb
        · rw [this] at w; cases w
  have newT : ∀ T, s.heap.objs.size ≤ T → s0.heap.get? T = none ∧ T ≠ e ∧ H T = none := fun T hT => by
    refine ⟨?_, fun q => ?_, I.hok.fresh hT⟩
    · cases z : s0.heap.get? T with
      | none => rfl
      | some o =>
        obtain ⟨o', q⟩ := hth T o z
        exact absurd (Nat.lt_of_lt_of_le (Heap.lt_size q) hT) (Nat.lt_irrefl _)
    · subst q; exact absurd (Nat.lt_of_lt_of_le (Heap.lt_size h1) hT) (Nat.lt_irrefl _)
  unfold noteFrame
  simp only [hfm]
  rcases h7 with h7 | ⟨T, oT, ts, t1, t2, t3, t4, t5, t6, t7⟩
  · refine wpAny_bind (wpAny_field h1 h4 h7 ?_)
    rw [if_neg (by decide)]
    refine entryX hfr hl hfm h1 h4 (Array.getElem?_eq_some_iff.mp h7).1 fun h' T oe' oT vs' ts hT g1 g2 g3 g4 g5 g6 g7 g8 kp ks => ?_
    obtain ⟨n1, n2, n3⟩ := newT T hT
    exact fin [e] h' T oe' oT vs' ts (fun b hb => by cases List.mem_singleton.mp hb; exact ⟨h5, h6⟩) n1 n2 n3 g1 g2 g3 g4 g5 g6 g7 g8 (fun b o hb hm z => kp b o (fun q => hb (by simp [q])) hm z) fun b o hb z => ks b o (fun q => hb (by simp [q])) z
  · refine wpAny_bind (wpAny_field h1 h4 t1 ?_)
    rw [if_pos (show (Value.ref T != Value.none) = true by simp)]
    refine wpAny_bind (wpAny_field t3 t4 t5 ?_)
    rw [if_neg (show ¬ ((Value.none == rawInt X.env.locals) = true) by simp [rawInt])]
    refine wpAny_bind (wpAny_setField t3 t4 (Array.getElem?_eq_some_iff.mp t5).1 ?_)
    have other : ∀ b, b ≠ T → (s.heap.update T (Obj.mapFields (·.setIfInBounds 3 Value.none))).get? b = s.heap.get? b := fun b hb => Heap.get?_update_other _ _ (Ne.symm hb)
    have noR : ∀ b o, s.heap.get? b = some o → (∀ vs, o.data ≠ .fields vs) → b ≠ T := fun b o hb hnf q => by
      subst q
      rw [t3] at hb
      cases hb
      exact hnf ts t4
    refine entryX (s := { s with heap := s.heap.update T (Obj.mapFields (·.setIfInBounds 3 Value.none)) }) hfr (hl.of_keeps fun b o hb hnf => ⟨o, (other b (noR b o hb hnf)).trans hb, rfl⟩) hfm ((other e (Ne.symm t2)).trans h1) h4 (Array.getElem?_eq_some_iff.mp t1).1 fun h' T' oe' oT' vs' ts' hT g1 g2 g3 g4 g5 g6 g7 g8 kp ks => ?_
    have hT' : s.heap.objs.size ≤ T' := by
      have z : (s.heap.update T (Obj.mapFields (·.setIfInBounds 3 Value.none))).objs.size = s.heap.objs.size := Heap.size_update _ _ _
      exact Nat.le_trans (Nat.le_of_eq z.symm) hT
    obtain ⟨n1, n2, n3⟩ := newT T' hT'
    refine fin [e, T] h' T' oe' oT' vs' ts' (fun b hb => ?_) n1 n2 n3 g1 g2 g3 g4 g5 g6 g7 g8 (fun b o hb hm z => kp b o (fun q => hb (by simp [q])) hm ((other b fun q => hb (by simp [q])).trans z)) fun b o hb z => ks b o (fun q => hb (by simp [q])) ((other b fun q => hb (by simp [q])).trans z)
    rcases List.mem_cons.mp hb with rfl | hb
    · exact ⟨h5, h6⟩
    · cases List.mem_singleton.mp hb; exact ⟨t6, t7⟩
end
end L2

set_option Elab.async false
set_option linter.all false
set_option maxRecDepth 100000
set_option maxHeartbeats 4000000
namespace L2
open PySem PySem.Spec PyProof.Rows PySem.SeqAt PySem.W Builtin.ObjectAttr
theorem upd_id {h : Heap} {a : Addr} {o : Obj} {f : Obj → Obj} (e : h.get? a = some o) (hf : f o = o) : h.update a f = h := by
  obtain ⟨objs, l⟩ := h
  have e' : objs[a]? = some o := by
    unfold Heap.get? at e
    dsimp only at e
    split at e
    · cases e
    · exact e
  show (⟨objs.modify a f, l⟩ : Heap) = ⟨objs, l⟩
  congr 1
  obtain ⟨hlt, e2⟩ := Array.getElem?_eq_some_iff.mp e'
  refine Array.ext (by simp) fun i h1 h2 => ?_
  rw [Array.getElem_modify]
  split
  · rename_i q
    subst q
    rw [e2, hf]
  · rfl
section
variable {X : Cx} {pins : List (Addr × Obj)} {σ σ0 : St} {H H0 : Hp} {s s0 : Shared} {e : Addr} {cls : Value} {dd : Option Addr}
/-- a slot is forgotten -/
theorem Inv.drop (I : Inv X pins σ H s) (i : Nat) : Inv X pins (σ.set i none) H s := by
  obtain ⟨ok, os, bare, base, ⟨m, hn, hl⟩, cell, free, freeC, pin, hok, len⟩ := I
  refine ⟨ok, os, bare, base, ⟨m, hn, fun j x v e1 e2 e3 => ?_⟩, cell, free, freeC, pin, hok, by simpa using len⟩
  by_cases hj : j = i
  · subst hj
    rw [List.getElem?_set] at e2
    split at e2 <;> simp_all
  · rw [List.getElem?_set_ne (Ne.symm hj)] at e2
    exact hl j x v e1 e2 e3
/-- behind an except suite: its name goes -/
theorem unbindX {M : Model} {A : Around} {E : Value → Shared → Prop} {i : Nat} {x : Str} {pos : Pos} {Q : Unit → Shared → Prop} (I : Inv X pins σ H s) (hN : X.N.Nodup) (hi : X.N[i]? = some x) (hx : X.env.scope.names.lookup x = some .local)
    (h : ∀ s', Inv X pins (σ.set i none) H s' → Q () s') : wpAny M A (do bindName X.env x .none; unbindBehindTheSuite X.env x pos) Q E s := by
  have hcls : (X.env.scope.kind == .class || (X.env.scope.kind == .module && X.env.locals != X.env.globals)) = false := by rw [I.ok.kind]; rfl
  have hiσ : i < σ.length := by rw [I.len]; exact (List.getElem?_eq_some_iff.mp hi).1
  refine wpAny_bind (wpAny_bindName (store_ok I hN hi (.inl hx) (v := .non) (u := .none) rfl (fun s1 I1 => ?_) (.inr hx)))
  obtain ⟨m, hn, hl⟩ := id I1.loc
  obtain ⟨u, _, lk⟩ := hl i x .non hi (by rw [List.getElem?_set_self hiσ]) (.inl hx)
  have hv : m x = some u := by
    rcases lk with ⟨_, z⟩ | ⟨k, _⟩
    · exact z
    · unfold Env.kindOf at k
      rw [hx] at k
      rcases k with k | k <;> cases k
  unfold unbindBehindTheSuite
  refine wpAny_onRaise (wpAny_unbindName_local hx hn hv hcls fun h' u' hn' hs => ?_)
  have I2 := I1.drop i
  rw [List.set_set] at I2
  obtain ⟨ok, os, bare, base, ⟨m2, hn2, hl2⟩, cell, free, freeC, pin, hok, len⟩ := id I2
  obtain ⟨oL, _, _, hoL, _⟩ := id hn
  have neL : ∀ b o, X.s₀.heap.get? b = some o → b ≠ X.env.locals := fun b o e => Nat.ne_of_lt (Nat.lt_of_lt_of_le (Heap.lt_size e) ok.above)
  refine h _ ⟨ok, os, bare, ⟨fun b o e n hb hx => ?_, fun b o e n hb hx => ?_, base.free, fun b o e hx => ?_, base.tups, base.frzs, base.tbls⟩, ⟨_, hn', fun j y v' e1 e2 e3 => ?_⟩, fun y c e => ?_, free, freeC, fun p hp => ?_, fun b ob e => ?_, len⟩
  · exact (hs.2 b (neL b o e)).trans (base.keep b o e n hb hx)
  · obtain ⟨sl, e1⟩ := base.slot b o e n hb hx
    exact ⟨sl, (hs.2 b (neL b o e)).trans e1⟩
  · obtain ⟨o', e1⟩ := base.there b o e hx
    exact ⟨o', (hs.2 b (neL b o e)).trans e1⟩
  · have hj : j ≠ i := fun q => by
      subst q
      rw [List.getElem?_set_self hiσ] at e2; cases e2
    rw [List.getElem?_set_ne (Ne.symm hj)] at e2
    obtain ⟨u'', r', q⟩ := hl j y v' e1 (by rw [List.getElem?_set_ne (Ne.symm hj)]; exact e2) e3
    refine ⟨u'', r', ?_⟩
    rcases q with ⟨k, e⟩ | ⟨k, c, e, z⟩
    · refine .inl ⟨k, ?_⟩
      have : y ≠ x := fun e => hj (nodup_ix hN e1 (e ▸ hi))
      simp [this, e]
    · exact .inr ⟨k, c, e, z.sameBut hs (I1.cne y c e)⟩
  · obtain ⟨w', z⟩ := I1.cell y c e
    exact ⟨w', z.sameBut hs (I1.cne y c e)⟩
  · obtain ⟨e, n, ne, nf, d⟩ := pin p hp
    exact ⟨(hs.2 p.1 ne).trans e, n, ne, nf, d⟩
  · refine (hok b ob e).stay (fun c w' hc q => (hs.2 c ?_).trans q) (fun _ q => q) fun _ _ q => q
    rintro rfl
    rcases hc with rfl | hc
    · rw [free] at e; cases e
    · rw [free] at hc; cases hc
/-- the record is not in flight: to say so changes nothing -/
theorem setFlightX {M : Model} {A : Around} {Q : Unit → Shared → Prop} {E : Value → Shared → Prop} (x : ExcOk s.heap H s0.heap e cls dd) (h : Q () s) : wpAny M A (setFlight (.ref e) none) Q E s := by
  obtain ⟨oe, vs, h1, h2, h3, h4, h5, h6, h7⟩ := x
  unfold setFlight
  rcases h7 with h7 | ⟨T, oT, ts, t1, t2, t3, t4, t5, t6, t7⟩
  · refine wpAny_bind (wpAny_field h1 h4 h7 ?_)
    rw [if_neg (by decide)]
    exact wpAny_pure h
  · refine wpAny_bind (wpAny_field h1 h4 t1 ?_)
    rw [if_pos (show (Value.ref T != Value.none) = true by simp)]
    refine wpAny_setField t3 t4 (Array.getElem?_eq_some_iff.mp t5).1 ?_
    have : s.heap.update T (Obj.mapFields (·.setIfInBounds 3 ((none : Option Addr).elim Value.none fun f => rawInt f))) = s.heap := by
      refine upd_id t3 ?_
      obtain ⟨c, d, da, sl⟩ := oT
      cases (show da = .fields ts from t4)
      show (⟨c, d, .fields (ts.setIfInBounds 3 .none), sl⟩ : Obj) = ⟨c, d, .fields ts, sl⟩
      have : ts.setIfInBounds 3 .none = ts := by
        obtain ⟨hlt, e2⟩ := Array.getElem?_eq_some_iff.mp t5
        refine Array.ext (by simp) fun i h1 h2 => ?_
        rw [Array.getElem_setIfInBounds]
        split
        · rename_i q
          subst q
          exact e2.symm
        · rfl
      rw [this]
    rw [this]
    exact h
end
/-! ### except suites -/
/-- within an except suite: the exception is marked, what it lies on is pinned, none leaves -/
def hCx (X : Cx) (ea : Addr) (ps : List (Addr × Obj)) : Cx := { X with A := X.A.mark (some (.ref ea)), calm := false, pn := X.pn ++ ps, xe := fun _ _ => False }
section
variable {X : Cx} {pins : List (Addr × Obj)} {σ σ0 : St} {H H0 : Hp} {s s0 : Shared} {e : Addr} {cls : Value} {dd : Option Addr}
theorem Cx.Ok.into (ok : X.Ok) {ea : Addr} {ps : List (Addr × Obj)} : (hCx X ea ps).Ok :=
  ⟨ok.mod, ok.kind, ok.glob, ok.blt, ok.above, ok.inj, ok.has, ok.cab, (fun h => nomatch h), ok.frames, ok.stk, ok.exf, ok.bs, ok.bsz, ok.noex, ok.exfs, ok.funs, ok.frf⟩
theorem Inv.into (I : Inv X pins σ H s) {ea : Addr} {ps : List (Addr × Obj)} (hp : ∀ p ∈ ps, s.heap.get? p.1 = some p.2 ∧ H p.1 = none ∧ p.1 ≠ X.env.locals ∧ p.1 ∉ X.fs ∧ ∀ v, p.2.data ≠ .cell v) : Inv (hCx X ea ps) pins σ H s := by
  refine ⟨I.ok.into, I.os, I.bare, I.base, I.loc, I.cell, I.free, I.freeC, fun p h => ?_, I.hok, I.len⟩
  rcases List.mem_append.mp h with h | h
  · rcases List.mem_append.mp h with h | h
    · exact I.pin p (List.mem_append_left _ h)
    · exact hp p h
  · exact I.pin p (List.mem_append_right _ h)
theorem Inv.outof {ea : Addr} {ps : List (Addr × Obj)} (I : Inv (hCx X ea ps) pins σ H s) (ok : X.Ok) : Inv X pins σ H s := by
  refine ⟨ok, I.os, I.bare, I.base, I.loc, I.cell, I.free, I.freeC, fun p h => ?_, I.hok, I.len⟩
  rcases List.mem_append.mp h with h | h
  · exact I.pin p (List.mem_append_left _ (List.mem_append_left _ h))
  · exact I.pin p (List.mem_append_right _ h)
/-- an exception met by a try, its record and itself pinned -/
theorem Inv.handle (I0 : Inv X pins σ0 H0 s0) (I : Inv X pins σ H s) (x : ExcOk s.heap H s0.heap e cls dd) : ∃ ps oe, (e, oe) ∈ ps ∧ oe.cls = cls ∧ oe.dict = dd ∧ (∃ vs, oe.data = .fields vs) ∧ Inv (hCx X e ps) pins σ H s ∧ ∀ {σ1 H1 s1}, Inv (hCx X e ps) pins σ1 H1 s1 → ExcOk s1.heap H1 s0.heap e cls dd := by
  obtain ⟨oe, vs, h1, h2, h3, h4, h5, h6, h7⟩ := x
  have new : ∀ T o vs, s0.heap.get? T = none → s.heap.get? T = some o → H T = none → o.data = .fields vs → s.heap.get? T = some o ∧ H T = none ∧ T ≠ X.env.locals ∧ T ∉ X.fs ∧ ∀ v, o.data ≠ .cell v := fun T o vs hT ho hn hd => by
    refine ⟨ho, hn, ?_, fun q => ?_, fun v q => by rw [hd] at q; cases q⟩
    · rintro rfl
      obtain ⟨_, ⟨o, _, _, ho, _⟩, _⟩ := I0.loc
      rw [hT] at ho; cases ho
    · obtain ⟨_, o, ho, _⟩ := I0.funs.mem q
      rw [hT] at ho; cases ho
  rcases h7 with h7 | ⟨T, oT, ts, t1, t2, t3, t4, t5, t6, t7⟩
  · refine ⟨[(e, oe)], oe, List.mem_singleton.mpr rfl, h2, h3, ⟨_, h4⟩, I.into fun p hp => ?_, fun {σ1 H1 s1} I1 => ?_⟩
    · cases List.mem_singleton.mp hp
      exact new e oe vs h5 h1 h6 h4
    · have p := I1.pin (e, oe) (List.mem_append_left _ (List.mem_append_right _ (List.mem_singleton.mpr rfl)))
      exact ⟨oe, vs, p.1, h2, h3, h4, h5, p.2.1, .inl h7⟩
  · refine ⟨[(e, oe), (T, oT)], oe, List.mem_cons_self, h2, h3, ⟨_, h4⟩, I.into fun p hp => ?_, fun {σ1 H1 s1} I1 => ?_⟩
    · rcases List.mem_cons.mp hp with rfl | hp
      · exact new e oe vs h5 h1 h6 h4
      · cases List.mem_singleton.mp hp
        exact new T oT ts t6 t3 t7 t4
    · have p := I1.pin (e, oe) (List.mem_append_left _ (List.mem_append_right _ List.mem_cons_self))
      have q := I1.pin (T, oT) (List.mem_append_left _ (List.mem_append_right _ (List.mem_cons_of_mem _ (List.mem_singleton.mpr rfl))))
      exact ⟨oe, vs, p.1, h2, h3, h4, h5, p.2.1, .inr ⟨T, oT, ts, t1, t2, q.1, t4, t5, t6, q.2.1⟩⟩
/-- an own class is asked of an exception of an own class -/
theorem excMatchC {K : Frag} {P : Program} {w : World} {A : Around} {E : Value → Shared → Prop} {Q : Bool → Shared → Prop} {C Ce : Addr} {B newId : String} {b : Bool} {oe : Obj} (kin : K.In s.heap) (he : s.heap.get? e = some oe) (hcls : oe.cls = .ref Ce) (XC : XCls K C B newId) (hm : mroIn K Ce (.ref C) = some b) (h : Q b s) :
    wpAny (model P w) A (excMatches (.ref e) (.ref C)) Q E s := by
  have Y := makesX_of (M := model P w) kin XC.mks
  obtain ⟨⟨oc, od, cd, sl, hC, _, _, _⟩, _, _, _, _, isE, _, _, _, typ⟩ := Y
  have T1 : Looks (model P w) s.heap (typeOf (.ref e)) (.ref Ce) := hcls ▸ (Looks.ld he).andThen .now
  have T2 : Looks (model P w) s.heap (typeOf (.ref C)) (.type "type") := looks_typeIn kin XC.ty
  have T4 : Looks (model P w) s.heap (isSubtype (.ref Ce) (.ref C)) b := looks_mroIn kin hm
  have f := tc_notTuple
  obtain ⟨hp, g, d, tk, os⟩ := s
  unfold excMatches
  repeat (first | with_reducible refine wpAny_loadPart_at hC ?_ | with_reducible refine isE.at ?_ | with_reducible refine T4.at ?_ | with_reducible refine typ.at ?_ | with_reducible refine T1.at ?_ | with_reducible refine T2.at ?_ | wp_step)
  cases b <;> (wp_walk; exact h)
end
end L2

set_option Elab.async false
set_option linter.all false
set_option maxRecDepth 100000
set_option maxHeartbeats 4000000
namespace L2
open PySem PySem.Spec PyProof.Rows PySem.SeqAt PySem.W Builtin.ObjectAttr
/-! ### handlers -/
/-- a row of handlers' reading: the exception's class and dict -/
abbrev THs := Ends → Addr → Option Addr → St → Hp → Prop
def PH (X : Cx) (hs : List ExceptHandler) (th : THs) : Prop :=
  ∀ (pins : List (Addr × Obj)) (s0 : Shared) (σ0 : St) (H0 : Hp) (s : Shared) (σ : St) (H : Hp) (D : Ends) (ea Ce : Addr) (dd : Option Addr), Inv X pins σ0 H0 s0 → Inv X pins σ H s → ExcOk s.heap H s0.heap ea (.ref Ce) dd → th D Ce dd σ H → wpAny (model X.prog X.w) X.A (handleBy (.ref ea) X.env hs) (SP X pins D) X.xe s
/-- the ends of an except suite: its name goes -/
def asEnds (i : Nat) (D : Ends) : Ends := ⟨fun σ H => D.nx (σ.set i none) H, D.rt, fun σ H => D.bk (σ.set i none) H, fun σ H => D.ct (σ.set i none) H⟩
def tHand (K : Frag) (C : Addr) (B newId : String) (i : Nat) (tb : Addr → Addr → Option Addr → TS) (tr : THs) : THs := fun D Ce dd σ H => XCls K C B newId ∧ ∃ b, mroIn K Ce (.ref C) = some b ∧ if b then ∀ ea, tb ea Ce dd (asEnds i D) (σ.set i (some (.ref ea))) H else tr D Ce dd σ H
section
variable {X : Cx}
theorem ph_nil : PH X [] (fun _ _ _ _ _ => False) := fun _ _ _ _ _ _ _ _ _ _ _ _ _ _ h => h.elim
theorem ph_cons {t : Expr} {n : Str} {b0 : Stmt} {body : List Stmt} {pos : Pos} {rest : List ExceptHandler} {C : Addr} {B newId : String} {i : Nat} {tb : Addr → Addr → Option Addr → TS} {tr : THs} (hN : X.N.Nodup) (hi : X.N[i]? = some n) (hx : X.env.scope.names.lookup n = some .local)
    (ht : ∀ ea ps, PE (hCx X ea ps) t (tC (.ref C))) (hb : ∀ ea oe ps Ce dd, (ea, oe) ∈ ps → oe.cls = .ref Ce → oe.dict = dd → (∃ vs, oe.data = .fields vs) → PSs (hCx X ea ps) (b0 :: body) (tb ea Ce dd)) (hr : PH X rest tr) :
    PH X (.ExceptHandler (some t) (some n) (b0 :: body) pos :: rest) (tHand X.K C B newId i tb tr) := by
  intro pins s0 σ0 H0 s σ H D ea Ce dd I0 I x h
  obtain ⟨XC, b, hm, hk⟩ := h
  obtain ⟨ps, oe, hmem, hc, hd, hvs, IH, back⟩ := I0.handle I x
  refine wpAny_handleBy_cons (codeAny_handlers_test (wpAny_mono (ht ea ps pins s σ H (fun v H1 => v = .ref C ∧ H1 = H) IH ⟨rfl, rfl⟩) (fun c s1 z => ?_) fun _ _ z => z.elim)) (by intro q; cases q)
  obtain ⟨v, H1, I1, r, rfl, rfl⟩ := z
  cases (show c = Value.ref C from r)
  have p := I1.pin (ea, oe) (List.mem_append_left _ (List.mem_append_right _ hmem))
  refine excMatchC I1.kIn p.1 hc XC hm ?_
  cases b with
  | false => exact hr pins s0 σ0 H0 s1 σ H1 D ea Ce dd I0 (I1.outof I.ok) (back I1) hk
  | true =>
    refine codeAny_handlers_suite_as (setFlightX (back I1) (store_ok (X := hCx X ea ps) I1 hN hi (.inl hx) (v := .ref ea) rfl (fun s2 I2 => wpAny_mono (hb ea oe ps Ce dd hmem hc hd hvs pins s2 _ _ (asEnds i D) I2 (hk ea)) (fun f s3 z => ?_) fun _ _ z => z.elim) (.inr hx)))
    show wpAny _ X.A _ _ X.xe s3
    cases f with
    | next =>
      obtain ⟨σ', H', I3, q⟩ := z
      exact unbindX (I3.outof I.ok) hN hi hx fun s' I' => ⟨_, _, I', q⟩
    | brk =>
      obtain ⟨σ', H', I3, q⟩ := z
      exact unbindX (I3.outof I.ok) hN hi hx fun s' I' => ⟨_, _, I', q⟩
    | cont =>
      obtain ⟨σ', H', I3, q⟩ := z
      exact unbindX (I3.outof I.ok) hN hi hx fun s' I' => ⟨_, _, I', q⟩
    | ret u =>
      obtain ⟨v, σ', H', I3, r', q⟩ := z
      exact unbindX (I3.outof I.ok) hN hi hx fun s' I' => ⟨v, _, _, I', r', q⟩
end
/-! ### try: two ways out -/
section
variable {X : Cx}
/-- what is wanted of an exception that leaves a try's body: the state as it is known there -/
def tryE (X : Cx) (pins : List (Addr × Obj)) (s0 : Shared) (W : Addr → Option Addr → St → Hp → Prop) : Value → Shared → Prop := fun v s => ∃ ea Ce dd σ H, v = .ref ea ∧ Inv X pins σ H s ∧ (∀ b o, s0.heap.get? b = some o → ∃ o', s.heap.get? b = some o') ∧ ExcOk s.heap H s0.heap ea (.ref Ce) dd ∧ W Ce dd σ H
/-- a body that may raise: its ends and its exceptions -/
abbrev TSX := Ends → (Addr → Option Addr → St → Hp → Prop) → St → Hp → Prop
def PSX (X : Cx) (st : List Stmt) (t : TSX) : Prop :=
  ∀ (pins : List (Addr × Obj)) (s : Shared) (σ : St) (H : Hp) (D : Ends) (W : Addr → Option Addr → St → Hp → Prop), Inv X pins σ H s → t D W σ H → wpAny (model X.prog X.w) X.A (execs st X.env) (SP X pins D) (tryE X pins s W) s
def tTry (t : TSX) (th : THs) : TS := fun D σ H => t D (fun Ce dd σ' H' => th D Ce dd σ' H') σ H
theorem ps_try {body : List Stmt} {h0 : ExceptHandler} {hs : List ExceptHandler} {pos : Pos} {t : TSX} {th : THs} (hst : X.stack = X.env :: X.outer) (hfm : X.env.frame = some X.env.locals) (hex : X.ex = []) (hb : PSX X body t) (hh : PH X (h0 :: hs) th) : PS X (.Try body (h0 :: hs) [] [] pos) (tTry t th) := by
  intro pins s σ H D I h
  refine wpAny_Try_except (wpAny_mono (hb pins s σ H D _ I h) (fun f s1 z => ?_) fun v s1 z => ?_)
  · cases f with
    | next => exact wpAny_execs_nil z
    | brk => exact z
    | cont => exact z
    | ret u => exact z
  · obtain ⟨ea, Ce, dd, σ1, H1, rfl, I1, th1, x, q⟩ := z
    refine catchX I I1 hst hfm I.ok.frames hex th1 x fun h' x' I2 => hh pins s σ H _ σ1 H1 D ea Ce dd I I2 x' q
end
end L2

set_option Elab.async false
set_option linter.all false
set_option maxRecDepth 100000
set_option maxHeartbeats 4000000
namespace L2
open PySem PySem.Spec PyProof.Rows PySem.SeqAt PySem.W Builtin.ObjectAttr
/-! ### a function of no arguments, held by a name -/
/-- f, called with nothing at a later state: what was there (g, without H₀ and the frames fr) is there still, the tracked things are H -/
structure Thunk (P : Program) (w : World) (K : Frag) (mg : Str → Option Value) (base : Heap) (g : Heap) (H₀ : Hp) (fr : List Addr) (k : Nat) (f : Addr) (H : Hp) (Qv : VK) (Ev : XK) : Prop where
  fn : ∀ s : Shared, HOk P w H s.heap → ∃ fo fd, s.heap.get? f = some fo ∧ fo.data = .func fd
  run : ∀ (A : Around) (outer : List Env) (s : Shared), Room k A → Env0 P w K mg base A outer s H → (∀ b o, g.get? b = some o → H₀ b = none → b ∉ fr → s.heap.get? b = some o) → codeAny (model P w) A (.call (.ref f) ⟨[], []⟩) (CR (CX1 P w) outer P w H s Qv Ev) s
section
variable {X : Cx}
theorem keeps_F {M : Model} {f : Addr} (h : Heap) (z : ∃ fo fd, h.get? f = some fo ∧ fo.data = .func fd) : ∃ k, (k = Keeper.frame ∨ k = Keeper.machine ∨ k = Keeper.boundFrame) ∧ Looks M h (keeperOf (.ref f)) k := by
  obtain ⟨fo, fd, e, d⟩ := z
  obtain ⟨c, di, da, sl⟩ := fo
  cases (show da = .func fd from d)
  exact ⟨.frame, .inl rfl, (Looks.ld (part := none) e).andThen .now⟩
/-- x = a(), a a name that holds such a function -/
def tThunk (X : Cx) (k i j : Nat) : TSX := fun D W σ H => ∃ f Qv Ev, σ[j]? = some (some (.ref f)) ∧ Thunk X.prog X.w X.K X.mg X.base X.s₀.heap X.H₀ X.fs k f H Qv Ev ∧ (∀ v H', Qv v H' → D.nx (σ.set i (some v)) H') ∧ ∀ cls dd H', Ev cls dd H' → ∃ Ce, cls = .ref Ce ∧ W Ce dd σ H'
theorem psx_thunk {k i j : Nat} {x a : Str} {px pa pc pos : Pos} (hN : X.N.Nodup) (hi : X.N[i]? = some x) (hx : Loc X.env.scope x) (hj : X.N[j]? = some a) (ha : Vis X.env.scope a) (hex : X.ex = []) (hr : Room k X.A) (hs : swapsWith (.Call (.Name a pa) [] [] pc) (some (.Name x px)) pos.line X.env = pure false := by rfl) (hf : X.fn x = true ∨ X.env.scope.names.lookup x = some .local := by first | exact .inl rfl | exact .inr rfl | assumption)
    (hd : (a == ("__debug__" : Str)) = false := by decide) (hcd : (a == ("__classdict__" : Str)) = false := by decide) :
    PSX X [.Assign [.Name x px] (.Call (.Name a pa) [] [] pc) pos] (tThunk X k i j) := by
  intro pins s σ H D W I h
  obtain ⟨f, Qv, Ev, e, T, hv, he⟩ := h
  have kp : ∀ b o, X.s₀.heap.get? b = some o → X.H₀ b = none → b ∉ X.fs → s.heap.get? b = some o := fun b o z n hb => I.base.keep b o z n hb (by rw [hex]; simp)
  have fin : ∀ t : Sem Flow, wpAny (model X.prog X.w) X.A t (fun f s1 => f = .next ∧ ∃ v H', Inv X pins (σ.set i (some v)) H' s1 ∧ Qv v H') (tryE X pins s W) s → wpAny (model X.prog X.w) X.A t (SP X pins D) (tryE X pins s W) s := fun t ht => thn ht fun f s1 ⟨q, v, H', I1, z⟩ => by subst q; exact ⟨_, _, I1, hv _ _ z⟩
  have one : wpAny (model X.prog X.w) X.A (exec (.Assign [.Name x px] (.Call (.Name a pa) [] [] pc) pos) X.env) (fun f s1 => f = .next ∧ ∃ v H', Inv X pins (σ.set i (some v)) H' s1 ∧ Qv v H') (tryE X pins s W) s := by
    refine wpAny_Assign_Name (thn (Q := EP X pins σ Qv) ?_ fun v s1 ⟨y, H1, I1, r1, q1⟩ => store_ok I1 hN hi hx r1 (fun s2 I2 => ⟨rfl, y, H1, I2, q1⟩) hf) hs
    refine wpAny_Call_Name_kw ?_
    have named : ∀ Q' : Value → Shared → Prop, Q' (.ref f) s → wpAny (model X.prog X.w) X.A (eval (.Name a pa) X.env) Q' (tryE X pins s W) s := fun Q' hq => by
      obtain ⟨m, hn, hl⟩ := I.loc
      obtain ⟨u, r, l⟩ := hl j a (.ref f) hj e ha
      cases (show u = Value.ref f from r)
      rcases l with ⟨hk, hm⟩ | ⟨hk, c, hc, hcell⟩
      · exact wpAny_Name (wpAny_loadName_local I.ok.kind hk hn hm hq) hd
      · rcases hk with hk | hk
        · exact wpAny_Name (wpAny_loadName_cell I.ok.kind hk hc hcell hq) hd
        · exact wpAny_Name (wpAny_loadName_free I.ok.kind hk hc hcell hq hcd) hd
    refine named _ ?_
    obtain ⟨fo, fd, g1, g2⟩ := T.fn s I.hok
    refine callWith_of (P := fun h => ∃ fo fd, h.get? f = some fo ∧ fo.data = .func fd) rfl keeps_F (evalArgs_nil3 ⟨⟨fo, fd, g1, g2⟩, ?_⟩)
    refine wpAny_call (codeAny_mono (T.run X.A X.stack s hr I.env0 kp) fun r s' hq => ?_)
    cases r with
    | error ev =>
      obtain ⟨ea, cls, dd, H', rfl, os, bare, un, hok, xo, q⟩ := hq
      obtain ⟨Ce, rfl, z⟩ := he _ _ _ q
      refine ⟨ea, Ce, dd, σ, H', rfl, I.call' os un hok bare (fun b z => absurd z (by simp)), fun b o z => un.there b o z (by simp), xo, z⟩
    | ok fl =>
      cases fl with
      | ret u => exact I.after hq
      | next => exact False.elim hq
      | brk => exact False.elim hq
      | cont => exact False.elim hq
  refine wpAny_execs_cons (thn one fun fl s1 z => ?_)
  obtain ⟨rfl, v, H', I1, q⟩ := z
  exact wpAny_execs_nil ⟨_, _, I1, hv _ _ q⟩
end
end L2

set_option Elab.async false
set_option linter.all false
set_option maxRecDepth 100000
set_option maxHeartbeats 4000000
namespace L2
open PySem PySem.Spec PyProof.Rows PySem.SeqAt PySem.W Builtin.ObjectAttr
/-! ### an attribute of a caught exception -/
structure XGet (K : Frag) (C : Addr) (f : Str) : Prop where
  ga : findIn K (.ref C) "__getattribute__" = some (some (.builtin "BaseException.__getattribute__"))
  gh : findIn K (.ref C) "__getattr__" = some none
  hd : hasDictIn K C = true
  na : findIn K (.ref C) f = some none
  be : mroIn K C (.type "BaseException") = some true
section
variable {prog : Program} {w : World} {A : Around} {E : Value → Shared → Prop} {s : Shared} {K : Frag} {x C : Addr} {ox : Obj} {od : Option Obj} {name : Str} {expr : Bool} {Q : Value → Shared → Prop}
theorem getX {v : Value} (X : K.In s.heap) (I : InstAt s.heap x ox C od) (G : XGet K C name) (hf : findObj K C od name = some (.value v)) (hh : handedIn v = true) (h : Q v { s with toks := s.toks + 1 }) : wpAny (model prog w) A (getAttr (.ref x) name expr) Q E s := by
  obtain ⟨hp, g, d, t, os⟩ := s
  have L0 := I.type (M := model prog w)
  have L1 := looks_findIn (M := model prog w) X G.ga
  have L2 := looks_findIn (M := model prog w) X G.gh
  have L3 := looks_find (M := model prog w) X I hf
  have LB : Looks (model prog w) hp (isInstance (.ref x) (.type "BaseException")) true := L0.andThen (looks_mroIn X G.be)
  have f3 := F.excAttr_ValueError.ga.bind (.ref x)
  have hx0 : (expr && onTheHeap (Value.builtin "BaseException.__getattribute__")) = false := by cases expr <;> rfl
  have hx2 : (Value.builtin "BaseException.__getattribute__" == Value.builtin "object.__getattribute__") = false := by decide +kernel
  have hx1 : (onTheHeap (Value.ref C) && Value.builtin "BaseException.__getattribute__" == Value.builtin "object.__getattribute__") = false := by rw [hx2]; rfl
  unfold getAttr getAttrBy
  refine wpAny_bind (wpAny_mkText (wpAny_holding (wpAny_bind (L0.at (wpAny_bind (L1.at ?_))))))
  dsimp only
  rw [if_neg (by rw [hx1]; decide)]
  unfold getAttrByItsOwn hookBefore
  rw [if_pos (show onTheHeap (Value.ref C) = true from rfl)]
  refine wpAny_bind (L2.at ?_)
  have key : ∀ R : Result → Shared → Prop, R (.ok (.ret v)) ⟨hp, g, d, t + 1, os⟩ → codeAny (model prog w) A (.call (.builtin "BaseException.__getattribute__") ⟨[.ref x, .str name t], []⟩) R ⟨hp, g, d, t + 1, os⟩ := fun R hR => by
    refine codeAny_call_builtin F.excAttr_ValueError.ga.plain F.entry_bexc_ga (check_slot (i := "BaseException.__getattribute__") (owner := "BaseException") (n := "__getattribute__") (by decide +kernel) (by decide +kernel) LB (F.args_bexc_ga _ _) ?_)
    refine wpAny_bind (wpAny_pure (wpAny_bind (wpAny_pure (wpAny_bind (L0.at (wpAny_bind (L3.at ?_)))))))
    exact wpAny_pure hR
  have done : wpAny (model prog w) A (handedOut v) Q E ⟨hp, g, d, t + 1, os⟩ := by rw [handedOut_of hh]; exact wpAny_pure h
  clear L0 L1 L2 L3 LB hf I G X
  repeat (any_goals (first | assumption | wp_step))
  exact key _ done
end
/-- e.f, e the exception at hand in an except suite -/
def tXat (K : Frag) (ea C : Addr) (dd : Option Addr) (ta : TE) (f : Str) : TE := fun σ H Q => ta σ H fun x H1 => ∃ da fs v, x = .ref ea ∧ dd = some da ∧ H1 da = some (exD da fs) ∧ XGet K C f ∧ fs.lookup f = some v ∧ Q v H1
section
variable {X : Cx} {e : Expr} {f : Str} {pos : Pos} {ta : TE} {ea C : Addr} {oe : Obj} {dd : Option Addr}
theorem pe_xat (hm : (ea, oe) ∈ X.pn) (hc : oe.cls = .ref C) (hdct : oe.dict = dd) (hd : ∃ vs, oe.data = .fields vs) (he : PE X e ta) (hb : attributeBase e f X.env (eval e X.env) = eval e X.env := by rfl) : PE X (.Attribute e f pos) (tXat X.K ea C dd ta f) := by
  intro pins s σ H Q I h
  refine attr_of hb (thn (he pins s σ H _ I h) fun u s1 ⟨x, H1, I1, rx, da, fs, v, ex, ed, hH, G, l, q⟩ => ?_)
  subst ex
  subst ed
  obtain rfl : u = Value.ref ea := rx
  have p := (I1.pin (ea, oe) (List.mem_append_left _ hm)).1
  obtain ⟨⟨mA, hn, r, wi⟩, _, _⟩ := I1.hok da _ hH
  obtain ⟨u, hu, ru⟩ := RelO.some_of (v := v) (o := mA f) (by rw [← l]; exact r f)
  obtain ⟨od, ho, hl⟩ := lookIn_ns hn
  obtain ⟨vs, hvs⟩ := hd
  have J : PySem.W.InstAt s1.heap ea oe C (some od) := ⟨p, hc, by unfold notCls; rw [hvs], by rw [hdct]; exact ho⟩
  exact getX I1.kIn J G (findObj_own G.hd G.na rfl (by rw [hl, hu])) (handed_of ru) ⟨v, H1, I1.tok _, ru, q⟩
end
end L2

set_option Elab.async false
set_option linter.all false
set_option maxRecDepth 100000
set_option maxHeartbeats 4000000
namespace L2
open PySem PySem.Spec PyProof.Rows
structure FnOkS (P : Program) (w : World) (K : PySem.W.Frag) (mg : Str → Option Value) (base : Heap) (CX : CXT) (k : Nat) (f : Addr) (fd : FuncData) (ps : List Str) (sp : Shared → List Env → Sp) : Prop where
  len : ∀ s outer vs H Q E, sp s outer vs H Q E → vs.length = ps.length
  run : ∀ (A : Around) (outer : List Env) (s : Shared) (H : Hp) (args : Args) (us : List Value) (vs : List V) (Q : VK) (E : XK), Room k A → Env0 P w K mg base A outer s H → BindsTo s fd args (ps.zip us) → Vals vs us → sp s outer vs H Q E →
    codeAny (model P w) A (.call (.ref f) args) (CR CX outer P w H s Q E) s

theorem fnS_of {CX : CXT} {P : Program} {w : World} {K : PySem.W.Frag} {mg : Str → Option Value} {base : Heap} {k : Nat} {f : Addr} {name qual : Str} {params : Arguments} {body : List Stmt} {scope : Scope} {dV kV doc pm cdv ct oc : Value} {an od : Option Addr}
    {osl : Array (Option Value)} {N ps : List Str} {sp : Shared → List Env → Sp} (lk : K.lookup f = some ⟨oc, od, .func (PySem.W.fnOf name qual params body scope dV kV doc pm an cdv ct), osl⟩) (hcd : PySem.W.codeIn K cdv qual = true) (S : FnScope N ps scope)
    (len : ∀ s outer vs H Q E, sp s outer vs H Q E → vs.length = ps.length)
    (hbody : ∀ (A : Around) (outer : List Env) (s : Shared) (H : Hp) (vs : List V) (Q : VK) (E : XK), Room k (A.deeper (envOfC qual scope s.heap.objs.size f cdv)) → sp s outer vs H Q E →
      ∃ t, PSs (cxOf CX P w K mg base N qual scope f cdv A outer s H E) body t ∧ t { nx := fun _ H' => Q .non H', rt := Q } (start N vs) H) :
    FnOkS P w K mg base CX (k + 1) f (PySem.W.fnOf name qual params body scope dV kV doc pm an cdv ct) ps sp := by
  refine ⟨len, fun A outer s H args us vs Q E hr e0 hb r hsp => ?_⟩
  have hl := len _ _ _ _ _ _ hsp
  have KX : K.In s.heap := e0.mod.kin.keeps fun b o e => (e0.bs b o e).1
  have lim : s.heap.NoLimit := e0.mod.nolimit.keeps fun b o e => (e0.bs b o e).1
  have hkind : ∀ y ∈ ps.zip us, scope.names.lookup y.1 = some .local ∨ (scope.names.lookup y.1 = some .cell ∧ ((cellsFrom (s.heap.objs.size + 1) scope.names []).lookup y.1).isSome = true) := fun ⟨n, v⟩ hy => by
    rcases S.par n (List.of_mem_zip hy).1 with q | q
    · exact .inl q
    · exact .inr ⟨q, PySem.W.cellsFrom_some _ _ _ (.inl q)⟩
  refine codeAny_call_function hr.depth (KX _ _ lk) rfl S.co S.gen rfl (PySem.W.codeRec_of KX hcd) (hb _ _ _ _ ?_)
  refine wpAny_newFunctionEnv_cells S.kind hkind fun env he s1 x => ?_
  subst he
  refine ⟨lim.keeps x.toInCall.keep, codeAny_func ?_⟩
  obtain ⟨t, ht, hq⟩ := hbody A outer s H vs Q E (hr.deeper _) hsp
  have I : Inv (cxOf CX P w K mg base N qual scope f cdv A outer s H E) [] (start N vs) H s1 := inv_start S hr.hd e0 hl r x
  refine wpAny_mono (ht [] s1 (start N vs) H _ I hq) (fun fl s' hs => ?_) fun e s' hs => hs
  have fin : ∀ {σ' : St} {H' : Hp} {v : V} {u : Value}, Inv (cxOf CX P w K mg base N qual scope f cdv A outer s H E) [] σ' H' s' → RelV v u → Q v H' → CE outer P w H s Q u s' :=
    fun {σ' H' v u} J rv q => ⟨v, H', J.os, J.bare, J.base, J.hok, rv, q⟩
  cases fl with
  | ret u =>
    obtain ⟨v, σ', H', J, rv, q⟩ := hs
    exact fin J rv q
  | next =>
    obtain ⟨σ', H', J, q⟩ := hs
    exact fin (v := V.non) (u := Value.none) J rfl q
  | brk =>
    obtain ⟨_, _, _, q⟩ := hs
    exact False.elim q
  | cont =>
    obtain ⟨_, _, _, q⟩ := hs
    exact False.elim q
end L2

set_option Elab.async false
set_option linter.all false
set_option maxRecDepth 100000
set_option maxHeartbeats 4000000
namespace L2
open PySem PySem.Spec PyProof.Rows
section
variable {P : Program} {w : World} {K : PySem.W.Frag} {mg : Str → Option Value} {base : Heap}
theorem Fun.okS {CX : CXT} {x qual : Str} {st : Stmt} {f : Addr} {fd : FuncData} {N ps : List Str} {k : Nat} {sp : Shared → List Env → Sp} (F : Fun K x qual st f fd) (S : FnScope N ps (defScope st)) (len : ∀ s outer vs H Q E, sp s outer vs H Q E → vs.length = ps.length)
    (hbody : ∀ (cdv : Value) (A : Around) (outer : List Env) (s : Shared) (H : Hp) (vs : List V) (Q : VK) (E : XK), Room k (A.deeper (envOfC qual (defScope st) s.heap.objs.size f cdv)) → sp s outer vs H Q E →
      ∃ t, PSs (cxOf CX P w K mg base N qual (defScope st) f cdv A outer s H E) (defBody st) t ∧ t { nx := fun _ H' => Q .non H', rt := Q } (start N vs) H) : FnOkS P w K mg base CX (k + 1) f fd ps sp := by
  obtain ⟨oc, od, kV, doc, pm, an, cdv, ct, osl, rfl, lk, hcd⟩ := F.ex
  exact fnS_of lk hcd S len fun A outer s H vs Q E hr hsp => hbody cdv A outer s H vs Q E hr hsp
/-- a def whose exceptions are told by E -/
theorem Fun.ok1 {CX : CXT} {x qual : Str} {st : Stmt} {f : Addr} {fd : FuncData} {N ps : List Str} {k : Nat} {sp : Sp} (F : Fun K x qual st f fd) (S : FnScope N ps (defScope st)) (len : ∀ vs H Q E, sp vs H Q E → vs.length = ps.length)
    (hbody : ∀ (cdv : Value) (A : Around) (outer : List Env) (s : Shared) (H : Hp) (vs : List V) (Q : VK) (E : XK), Room k (A.deeper (envOfC qual (defScope st) s.heap.objs.size f cdv)) → sp vs H Q E →
      ∃ t, PSs (cxOf CX P w K mg base N qual (defScope st) f cdv A outer s H E) (defBody st) t ∧ t { nx := fun _ H' => Q .non H', rt := Q } (start N vs) H) : FnOk P w K mg base CX (k + 1) f fd ps sp := by
  obtain ⟨oc, od, kV, doc, pm, an, cdv, ct, osl, rfl, lk, hcd⟩ := F.ex
  exact fn_of lk hcd S len fun A outer s H vs Q E hr hsp => hbody cdv A outer s H vs Q E hr hsp
end
section
variable {X : Cx} {e : Expr} {f : Str} {pos : Pos} {ta : TE} {ea C : Addr} {oe : Obj} {ps : List (Addr × Obj)} {dd : Option Addr}
theorem pe_xatH (hm : (ea, oe) ∈ ps) (hc : oe.cls = .ref C) (hdct : oe.dict = dd) (hd : ∃ vs, oe.data = .fields vs) (he : PE (hCx X ea ps) e ta) (hb : attributeBase e f X.env (eval e X.env) = eval e X.env := by rfl) : PE (hCx X ea ps) (.Attribute e f pos) (tXat X.K ea C dd ta f) :=
  pe_xat (X := hCx X ea ps) (List.mem_append_right _ hm) hc hdct hd he hb
end
end L2

set_option Elab.async false
set_option linter.all false
set_option maxRecDepth 100000
set_option maxHeartbeats 4000000
namespace L2
open PySem PySem.Spec PyProof.Rows PySem.W
/-! ### lambda: of no parameters, called -/
/-- a code object, tracked -/
def codeO (c : Addr) (qual : Str) : HO := .ext fun h => h.CodeRec (.ref c) qual
theorem codeO_ok {P : Program} {w : World} {H : Hp} {h : Heap} {c : Addr} {qual : Str} (x : h.CodeRec (.ref c) qual) : ObjOk P w H h c (codeO c qual) := by
  obtain ⟨c', o, vs, t, e, g, r⟩ := id x
  cases e
  refine ⟨x, ⟨o, g⟩, fun h1 h2 z k => ?_⟩
  obtain ⟨c', o', vs', t', e', g', r'⟩ := z
  cases e'
  exact ⟨c, o', vs', t', rfl, k _ g', r'⟩
/-- a function that a lambda made, tracked -/
def lamO (f : Addr) (o : Obj) : HO := .ext fun h => h.get? f = some o
theorem lamO_ok {P : Program} {w : World} {H : Hp} {h : Heap} {f : Addr} {o : Obj} (x : h.get? f = some o) : ObjOk P w H h f (lamO f o) := ⟨x, ⟨o, x⟩, fun h1 h2 z k => k _ z⟩
/-- the context of a lambda's body -/
def cxLam (P : Program) (w : World) (K : Frag) (mg : Str → Option Value) (base : Heap) (N : List Str) (qual : Str) (scope : Scope) (f : Addr) (cd : Value) (cl : List (Str × Addr)) (A : Around) (outer : List Env) (s : Shared) (H : Hp) (E : XK) : Cx where
  prog := P
  w := w
  K := K
  mg := mg
  base := base
  A := A.deeper (envX qual scope s.heap.objs.size f cd cl)
  N := N
  s₀ := s
  H₀ := H
  env := envX qual scope s.heap.objs.size f cd cl
  outer := outer
  stack := envX qual scope s.heap.objs.size f cd cl :: outer
  ex := []
  calm := true
  fn := fun _ => false
  pn := []
  xe := fun e s' => wpAny (model P w) (A.deeper (envX qual scope s.heap.objs.size f cd cl)) (leaving (envX qual scope s.heap.objs.size f cd cl) e) (fun _ s'' => CX1 P w outer H s E e s'') (fun e' s'' => CX1 P w outer H s E e' s'') s'
section
variable {P : Program} {w : World} {K : Frag} {mg : Str → Option Value} {base : Heap} {N : List Str} {qual : Str} {scope : Scope} {f : Addr} {cd : Value} {cl : List (Str × Addr)} {A : Around} {outer : List Env} {s : Shared} {H : Hp} {E : XK}
theorem xeL {pins : List (Addr × Obj)} {σ : St} {H' : Hp} {s' : Shared} {e : Addr} {cls : Value} {dd : Option Addr} (I : Inv (cxLam P w K mg base N qual scope f cd cl A outer s H E) pins σ H' s') (x : ExcOk s'.heap H' s.heap e cls dd) (h : E cls dd H') :
    (cxLam P w K mg base N qual scope f cd cl A outer s H E).xe (.ref e) s' :=
  leaveX I rfl rfl I.ok.frames rfl x fun h' x' u k => ⟨e, cls, dd, H', rfl, I.os, I.bare, u, k, x', h⟩
theorem passL {E' : XK} (hE : ∀ cls dd H', E' cls dd H' → E cls dd H') : Passes (CX1 P w) (cxLam P w K mg base N qual scope f cd cl A outer s H E) E' := by
  intro pins σ H1 s1 e s' I h
  obtain ⟨ea, cls, dd, H', rfl, os, bare, un, hok, x, q⟩ := h
  have I' : Inv (cxLam P w K mg base N qual scope f cd cl A outer s H E) pins σ H' s' := I.call' (ch := []) os un hok bare (fun b z => absurd z (by simp))
  refine xeL I' (x.mono fun b hb => ?_) (hE _ _ _ q)
  cases z : s.heap.get? b with
  | none => rfl
  | some o =>
    obtain ⟨o', q'⟩ := I.base.there b o z (by intro hz; cases hz)
    rw [hb] at q'; cases q'
/-- what the closure holds -/
structure Clos (scope : Scope) (cl : List (Str × Addr)) (N : List Str) (g : Heap) (H : Hp) (fr : List Addr) (σ : St) : Prop where
  inj : ∀ x y c, cl.lookup x = some c → cl.lookup y = some c → x = y
  has : ∀ x, (scope.names.lookup x = some .cell ∨ scope.names.lookup x = some .free) → ∃ c, cl.lookup x = some c
  cell : ∀ x c, cl.lookup x = some c → (∃ v, g.IsCell c v) ∧ H c = none ∧ c ∉ fr
  val : ∀ (i : Nat) x v, N[i]? = some x → σ[i]? = some (some v) → scope.names.lookup x = some .free ∧ ∃ c u, cl.lookup x = some c ∧ RelV v u ∧ g.IsCell c (some u)
  len : σ.length = N.length
theorem thunk_lam {g : Heap} {fr : List Addr} {σ : St} {k : Nat} {name : Str} {params : Arguments} {body : Expr} {pm ctv : Value} {c' : Addr} {Qv : VK} {t : TE} (ho : H f = some (lamO f (kla_obj name qual params body scope cl pm c' ctv)))
    (hc : H c' = some (codeO c' qual)) (C : Clos scope cl N g H fr σ) (hbind : bindArgs (kla_fn name qual params body scope cl pm (.ref c') ctv) ⟨[], []⟩ = pure [])
    (hco : scope.isCoroutine = false) (hgen : scope.isGenerator = false) (hk : scope.kind = .function) (hcell : ∀ x ∈ scope.names, x.2 ≠ .cell)
    (hb : ∀ (A : Around) (outer : List Env) (s : Shared), Room k (A.deeper (envX qual scope s.heap.objs.size f (.ref c') cl)) → PE (cxLam P w K mg base N qual scope f (.ref c') cl A outer s H E) body t) (hq : t σ H Qv) : Thunk P w K mg base g H fr (k + 1) f H Qv E := by
  refine ⟨fun s hok => ⟨_, _, (hok f _ ho).1, rfl⟩, fun A outer s hr e0 kp => ?_⟩
  have lim : s.heap.NoLimit := e0.mod.nolimit.keeps fun b o e => (e0.bs b o e).1
  refine kla_callFunE hr.depth (e0.hok f _ ho).1 rfl hco hgen rfl (e0.hok c' _ hc).1 ?_
  rw [hbind]
  refine wpAny_pure (wpAny_newFunctionEnv hcell (fun y hy => absurd hy (by simp)) (fun h₁ hns hsb => ⟨lim.fresh _ hsb, ?_⟩) hk)
  show codeAny _ _ (.expr body (envX qual scope s.heap.objs.size f (.ref c') cl)) _ _
  have hk₁ : ∀ b o, s.heap.get? b = some o → h₁.get? b = some o := fun b o e => hsb.extBut b o (Nat.ne_of_lt (Heap.lt_size e)) (Heap.get?_push_of_some _ e)
  have isC : ∀ x c v, cl.lookup x = some c → g.IsCell c v → h₁.IsCell c v := fun x c v e z => by
    obtain ⟨_, h2, h3⟩ := C.cell x c e
    obtain ⟨o, ho, hd⟩ := z
    exact ⟨o, hk₁ _ _ (kp _ _ ho h2 h3), hd⟩
  have noA : ∀ b : Addr, b ∉ ([] : List Addr) := fun b z => absurd z (by simp)
  have I : Inv (cxLam P w K mg base N qual scope f (.ref c') cl A outer s H E) [] σ H { s with heap := h₁, toks := s.toks + 0 } := by
    refine ⟨⟨e0.mod, hk, rfl, rfl, Nat.le_refl _, C.inj, fun y hy => C.has y hy, fun y c z => absurd z (by simp [cxLam]), fun _ => hr.hd, Around.frames_deeper e0.frames, .inr ⟨rfl, rfl⟩, fun b z => absurd z (noA b), e0.bs, e0.bsz, fun b _ _ => noA b, fun b z => absurd z (noA b), e0.funs, e0.frf⟩,
      rfl, e0.bare, Un.kept hk₁, ⟨_, hns, fun i y v h1 h2 h3 => ?_⟩, fun y c h => ?_, e0.hok.fresh (Nat.le_refl _), fun y c h => (C.cell y c h).2.1, fun p hp => absurd (show p ∈ ([] : List (Addr × Obj)) from hp) (by simp), e0.hok.kept hk₁, C.len⟩
    · obtain ⟨fr', c, u, e, r, z⟩ := C.val i y v h1 h2
      exact ⟨u, r, .inr ⟨.inr fr', c, e, isC y c _ e z⟩⟩
    · obtain ⟨⟨v, z⟩, _⟩ := C.cell y c h
      exact ⟨v, isC y c v h z⟩
  exact kla_codeExpr (wpAny_mono (hb A outer s (hr.deeper _) [] _ σ H Qv I hq) (fun u s' ⟨v, H', J, rv, q⟩ => ⟨v, H', J.os, J.bare, J.base, J.hok, rv, q⟩) fun _ _ y => y)
end
end L2

set_option Elab.async false
set_option linter.all false
set_option maxRecDepth 100000
set_option maxHeartbeats 4000000
namespace L2
open PySem PySem.Spec PyProof.Rows PySem.W
/-! ### lambda: made -/
section
variable {X : Cx} {pins : List (Addr × Obj)} {σ : St} {H : Hp} {s : Shared} {h' : Heap} {P c' : Addr} {ps more : Array Value} {qual : Str}
/-- the table of a code object grows by a new code object -/
theorem Inv.grow {t' : Nat} (I : Inv X pins σ H s) (hP : H P = some (.tbl ps)) (hx : Heap.ExtBut P s.heap h') (hc : s.heap.objs.size ≤ c') (hcr : h'.CodeRec (.ref c') qual) (hp : h'.get? P = some { cls := .none, data := .fields (ps ++ more) }) :
    Inv X pins σ (upd (upd H P (.tbl (ps ++ more))) c' (codeO c' qual)) { s with heap := h', toks := t' } := by
  have hPl : P < s.heap.objs.size := I.hok.lt hP
  have hcP : c' ≠ P := fun q => by subst q; exact absurd (Nat.lt_of_lt_of_le hPl hc) (Nat.lt_irrefl _)
  have lt : ∀ b o, s.heap.get? b = some o → b ≠ c' := fun b o e q => by subst q; exact absurd (Nat.lt_of_lt_of_le (Heap.lt_size e) hc) (Nat.lt_irrefl _)
  have neP : ∀ b, H b = none → b ≠ P := fun b e q => by subst q; rw [hP] at e; cases e
  have kp : ∀ b o, s.heap.get? b = some o → H b = none → h'.get? b = some o := fun b o e n => hx b o (neP b n) e
  have up : ∀ b u, H b = some u → (∀ qs, u ≠ .tbl qs) → upd (upd H P (.tbl (ps ++ more))) c' (codeO c' qual) b = some u := fun b u e ne => by
    have h1 : b ≠ c' := fun q => by subst q; exact absurd (Nat.lt_of_lt_of_le (I.hok.lt e) hc) (Nat.lt_irrefl _)
    have h2 : b ≠ P := fun q => by subst q; rw [hP] at e; exact ne _ (Option.some.inj e).symm
    rw [upd_ne h1, upd_ne h2]; exact e
  refine I.stepN (ch := []) (g' := s.gens) (d' := s.drawn) (t' := t') (fun b hb => absurd hb (by simp)) (fun b o _ _ _ e n => kp b o e n) (fun b o _ _ _ e n => ⟨o.slots, kp b o e n⟩) (fun b o _ e n => ?_) (fun b o _ e => ?_) (fun b xs e => up b _ e (by intro _ q; cases q)) (fun b o u e => up b _ e (by intro _ q; cases q)) (fun b qs e => ?_) (fun m hm => ?_) (fun b u e => ?_) I.bare
  · rw [upd_ne (lt b o e), upd_ne (neP b n)]; exact n
  · by_cases q : b = P
    · subst q; exact ⟨_, hp⟩
    · exact ⟨o, hx b o q e⟩
  · have h1 : b ≠ c' := fun q => by subst q; exact absurd (Nat.lt_of_lt_of_le (I.hok.lt e) hc) (Nat.lt_irrefl _)
    by_cases q : b = P
    · subst q
      rw [hP] at e
      cases e
      exact ⟨more, by rw [upd_ne h1, upd_same]⟩
    · exact ⟨#[], by rw [upd_ne h1, upd_ne q, e]; simp⟩
  · obtain ⟨o, es, ep, e, r⟩ := hm
    exact ⟨o, es, ep, kp _ _ e I.free, r⟩
  · by_cases h1 : b = c'
    · subst h1
      rw [upd_same] at e
      cases e
      exact codeO_ok hcr
    · rw [upd_ne h1] at e
      by_cases h2 : b = P
      · subst h2
        rw [upd_same] at e
        cases e
        exact hp
      · rw [upd_ne h2] at e
        refine (I.hok b u e).stay (fun c v hc' q => hx c v ?_ q) (fun c q => up c _ q (by intro _ z; cases z)) fun c xs q => up c _ q (by intro _ z; cases z)
        rintro rfl
        rcases hc' with rfl | z
        · exact h2 rfl
        · rw [hP] at z; cases z
/-- the written part of the code that makes lambdas: its object and its table -/
structure CodeTab (X : Cx) (c P : Addr) : Prop where
  code : X.env.code = .ref c
  hd : CodeHd X.base c P
  bl : X.base.BuiltinsAt X.mg P
  gP : mainGlobals ≠ P
/-- the lambda's function, made: f; its code c' is new or was made before -/
def Lam (H : Hp) (P : Addr) (lp : Pos) (qual : Str) (c' : Addr) (H1 : Hp) : Prop :=
  ∃ ps, H P = some (.tbl ps) ∧ ((codeAmong lp ps.toList = none ∧ H c' = none ∧ c' ≠ P ∧ H1 = upd (upd H P (.tbl (ps ++ #[rawInt lp.line, rawInt lp.col, .ref c']))) c' (codeO c' qual)) ∨ (codeAmong lp ps.toList = some (.ref c') ∧ H c' = some (codeO c' qual) ∧ H1 = H))
/-- where the table stands for a lambda at lp -/
def TabOk (H : Hp) (P : Addr) (lp : Pos) (qual : Str) : Prop := ∃ ps, H P = some (.tbl ps) ∧ TriplesOk ps.toList ∧ (codeAmong lp ps.toList = none ∨ ∃ c', codeAmong lp ps.toList = some (.ref c') ∧ H c' = some (codeO c' qual))
def tLam (X : Cx) (P : Addr) (params : Arguments) (body : Expr) (scope : Scope) (lp : Pos) (cl : List (Str × Addr)) : TE := fun _ H Q => TabOk H P lp (X.env.qual ++ "<lambda>") ∧ ∀ c' H1, Lam H P lp (X.env.qual ++ "<lambda>") c' H1 → ∀ f ctv, H1 f = none → Q (.ref f) (upd H1 f (lamO f (kla_obj "<lambda>" (X.env.qual ++ "<lambda>") params body scope cl ((X.mg "__name__").getD .none) c' ctv)))
theorem pe_lam {c : Addr} {params : Arguments} {body : Expr} {scope : Scope} {lp : Pos} {cl : List (Str × Addr)} (T : CodeTab X c P) (hdef : defaultsOf params X.env = ([], [])) (hcl : closureFor scope X.env = pure cl) : PE X (.Lambda params body scope lp) (tLam X P params body scope lp cl) := by
  intro pins s σ H Q I h
  obtain ⟨⟨ps, hP, ht, hor⟩, h⟩ := h
  refine kla_eval hdef ?_
  have hPo : s.heap.get? P = some (tabObj ps) := I.hok P _ hP
  have hg : s.heap.Ns mainGlobals X.mg := by
    obtain ⟨o, es, ep, e, r⟩ := I.ok.mod.glob
    exact ⟨o, es, ep, I.bk _ _ e, r⟩
  have hb : s.heap.BuiltinsAt X.mg P := by
    obtain ⟨bm, o, b1, b2, b3, b4, b5, b6⟩ := T.bl
    exact ⟨bm, o, b1, b2, b3, b4, I.bk _ _ b5, b6⟩
  rcases hor with hn | ⟨c', hf, hc'⟩
  · refine kla_makeFunction (mg := X.mg) hcl I.ok.glob hg T.code (T.hd.keeps I.bk) hPo ht hn T.gP hb fun c' ctv h' tk hx hge hlt hrec htb => ?_
    have I1 := I.grow (t' := tk) hP hx hge hrec htb
    have hPl : P < s.heap.objs.size := I.hok.lt hP
    have fr : upd (upd H P (.tbl (ps ++ #[rawInt lp.line, rawInt lp.col, .ref c']))) c' (codeO c' (X.env.qual ++ "<lambda>")) h'.objs.size = none := I1.hok.fresh (Nat.le_refl _)
    refine ⟨.ref h'.objs.size, _, I1.laid (a := h'.objs.size) (t' := tk) (fun b u e => Heap.get?_push_of_some _ e) (Nat.le_refl _) (lamO_ok (Heap.get?_push_size _ rfl)), rfl, h c' _ ⟨ps, hP, .inl ⟨hn, I.hok.fresh hge, fun q => ?_, rfl⟩⟩ _ ctv fr⟩
    subst q
    exact absurd (Nat.lt_of_lt_of_le hPl hge) (Nat.lt_irrefl _)
  · refine kla_makeFunctionHit (mg := X.mg) hcl I.ok.glob hg T.code (T.hd.keeps I.bk) hPo ht hf hb fun ctv h' tk hk hsz => ?_
    have fr : H h'.objs.size = none := I.hok.fresh hsz
    exact ⟨.ref h'.objs.size, _, I.laid (a := h'.objs.size) (h' := h'.push _) (t' := tk) (fun b u e => Heap.get?_push_of_some _ (hk b u e)) hsz (lamO_ok (Heap.get?_push_size _ rfl)), rfl, h c' _ ⟨ps, hP, .inr ⟨hf, hc', rfl⟩⟩ _ ctv fr⟩
end
end L2

set_option Elab.async false
set_option linter.all false
set_option maxRecDepth 100000
set_option maxHeartbeats 4000000
namespace L2
open PySem PySem.Spec PyProof.Rows PySem.W
section
variable {X : Cx} {CX : CXT} {k : Nat} {f C : Addr} {fd : FuncData} {ps : List Str} {sp : Shared → List Env → Sp} {E : XK} {x : Str} {p pos : Pos} {e : Expr} {es : List Expr} {t : TA}
/-- the callee runs, its promise sees the state -/
theorem run_fnS {pins : List (Addr × Obj)} {σ : St} {H : Hp} {s : Shared} {Q : VK} {us : List Value} {vs : List V} (F : FnOkS X.prog X.w X.K X.mg X.base CX k f fd ps sp) (hr : Room k X.A) (hb : Binds X.K fd ps []) (hx : Passes CX X E)
    (I : Inv X pins σ H s) (r : Vals vs us) (h : sp s X.stack vs H Q E) : wpAny (model X.prog X.w) X.A (call (.ref f) us) (EP X pins σ Q) X.xe s := by
  have hl : us.length = ps.length := by rw [← r.length]; exact F.len _ _ _ _ _ _ h
  have hb' := hb s us I.kIn (by rw [List.append_nil]; exact hl)
  rw [List.append_nil] at hb'
  refine wpAny_call (codeAny_mono (F.run X.A X.stack s H ⟨us, []⟩ us vs Q E hr I.env0 hb' r h) fun r s' hq => ?_)
  cases r with
  | error e => exact hx pins σ H s e s' I hq
  | ok fl =>
    cases fl with
    | ret u => exact I.after hq
    | next => exact False.elim hq
    | brk => exact False.elim hq
    | cont => exact False.elim hq
theorem pe_callS {r : St → List V → Hp → VK → Prop} (F : FnOkS X.prog X.w X.K X.mg X.base CX k f fd ps sp) (hr : Room k X.A) (hg : Gl X x) (hm : X.mg x = some (.ref f)) (hk : PySem.W.keepIn X.K (.ref f) = true) (hb : Binds X.K fd ps []) (hx : Passes CX X E)
    (hsp : ∀ pins σ H s vs Q, Inv X pins σ H s → r σ vs H Q → sp s X.stack vs H Q E) (ha : PA X (e :: es) t) (hdb : (x == ("__debug__" : Str)) = false := by decide) (he : starEach (e :: es) X.env = (false, eval e X.env) :: starEach es X.env := by rfl) (hpl : (backTo pos (starEach es X.env)).any (·.1) = false := by rfl) :
    PE X (.Call (.Name x p) (e :: es) [] pos) (fun σ H Q => t σ H fun vs H1 => r σ vs H1 Q) := by
  intro pins s σ H Q I h
  refine wpAny_Call_Name_kw (ld_glob I hg hm ?_ hdb)
  refine PySem.W.callWith_K (h₀ := X.base) I.ok.mod.kin hk (thn (ha pos pins s σ H _ I h) fun us s1 ⟨vs, H1, I1, r, q⟩ => ⟨I1.kIn, ?_⟩) he hpl
  exact run_fnS F hr hb hx I1 r (hsp _ _ _ _ _ _ I1 q)
theorem lookup_of_mem_keys {cl : List (Str × Addr)} {x : Str} (h : x ∈ cl.map (·.1)) : ∃ c, cl.lookup x = some c := by
  induction cl with
  | nil => simp at h
  | cons q r ih =>
    obtain ⟨y, c⟩ := q
    rw [List.lookup_cons]
    by_cases e : (x == y) = true
    · exact ⟨c, by rw [e]⟩
    · have e' : (x == y) = false := by simpa using e
      rw [e']
      refine ih ?_
      rcases List.mem_cons.mp h with z | z
      · exact absurd (beq_iff_eq.mpr z) e
      · exact z
/-- the values of a lambda's free names -/
def freeV (js : List Nat) (σ : St) : St := js.map fun j => (σ[j]?).join
/-- what the closure of a lambda made here holds -/
theorem clos_of {pins : List (Addr × Obj)} {σ : St} {H : Hp} {s : Shared} {scope : Scope} {cl : List (Str × Addr)} {NL : List Str} {js : List Nat} (I : Inv X pins σ H s) (hcl : ∀ p ∈ cl, X.env.cells.lookup p.1 = some p.2) (hfn : ∀ x, X.fn x = true)
    (hhas : ∀ p ∈ scope.names, (p.2 = .cell ∨ p.2 = .free) → p.1 ∈ cl.map (·.1)) (hfree : ∀ x ∈ NL, scope.names.lookup x = some .free) (hown : ∀ x ∈ NL, X.env.scope.names.lookup x = some .cell) (hN : NL.map some = js.map fun j => X.N[j]?) (hst : X.stack = X.env :: X.outer) (hfm : X.env.frame = some X.env.locals) :
    Clos scope cl NL s.heap H (frs X.stack) (freeV js σ) := by
  have sub : ∀ x c, cl.lookup x = some c → X.env.cells.lookup x = some c := fun x c e => hcl (x, c) (PySem.mem_of_lookup e)
  have hlen : js.length = NL.length := by simpa using (congrArg List.length hN).symm
  refine ⟨fun x y c h1 h2 => I.ok.inj x y c (sub x c h1) (sub y c h2), fun x hx => ?_, fun x c e => ⟨I.cell x c (sub x c e), I.freeC x c (sub x c e), fun hm => ?_⟩, fun i x v h1 h2 => ?_, by unfold freeV; rw [List.length_map]; exact hlen⟩
  · refine lookup_of_mem_keys ?_
    rcases hx with hx | hx
    · exact hhas _ (PySem.mem_of_lookup hx) (.inl rfl)
    · exact hhas _ (PySem.mem_of_lookup hx) (.inr rfl)
  · rcases List.mem_cons.mp (I.stkSub c hm) with q | q
    · exact I.cne x c (sub x c e) q
    · obtain ⟨_, o, ho, _⟩ := I.ok.funs.mem q
      exact absurd (Nat.lt_of_lt_of_le (Heap.lt_size ho) (I.ok.cab x c (hfn x) (sub x c e))) (Nat.lt_irrefl _)
  · have hx : x ∈ NL := List.mem_of_getElem? h1
    have e1 : (js.map fun j => X.N[j]?)[i]? = some (some x) := by rw [← hN, List.getElem?_map, h1]; rfl
    rw [List.getElem?_map] at e1
    obtain ⟨j, hj, e1⟩ := Option.map_eq_some_iff.mp e1
    unfold freeV at h2
    rw [List.getElem?_map, hj] at h2
    have h3 : σ[j]? = some (some v) := by
      have h2 : (σ[j]?).join = some v := Option.some.inj h2
      cases e : σ[j]? with
      | none => rw [e] at h2; cases h2
      | some a => rw [e] at h2; cases a with
        | none => cases h2
        | some b => exact congrArg some h2
    obtain ⟨m, hn, hl⟩ := I.loc
    obtain ⟨u, r, lk⟩ := hl j x v e1 h3 (.inr (.inl (hown x hx)))
    refine ⟨hfree x hx, ?_⟩
    rcases lk with ⟨kk, _⟩ | ⟨_, c, hc, z⟩
    · have kk : X.env.scope.names.lookup x = some .local := kk
      rw [hown x hx] at kk; cases kk
    · obtain ⟨c2, e2⟩ := lookup_of_mem_keys (hhas _ (PySem.mem_of_lookup (hfree x hx)) (.inr rfl))
      have := sub x c2 e2
      rw [hc] at this
      cases this
      exact ⟨c, u, e2, r, z⟩
end
end L2

set_option Elab.async false
set_option linter.all false
set_option maxRecDepth 100000
set_option maxHeartbeats 4000000
namespace L2
open PySem PySem.Spec PyProof.Rows
/-! ### the head of a law that makes lambdas: its code's table is tracked, the written part goes without it -/
end L2

set_option Elab.async false
set_option linter.all false
set_option maxRecDepth 100000
set_option maxHeartbeats 4000000
namespace L2
open PySem PySem.Spec PyProof.Rows PySem.W
/-! ### the written part: a code object and its table -/
def tabIn (K : Frag) (c : Addr) : Option Addr := match K.lookup c with
  | some o => (match o.data with
    | .fields vs => (match (vs[11]? : Option Value), vs.getD 18 .none, vs.getD 7 .none, vs.getD 9 .none, vs.getD 10 .none with
      | some (Value.ref P), .str _ _, .int _ _, .bool _, .int _ _ => if (o.cls == .type "code" && c != P) = true then some P else none
      | _, _, _, _, _ => none)
    | _ => none)
  | none => none
theorem hd_of {K : Frag} {h : Heap} {c P : Addr} (X : K.In h) (e : tabIn K c = some P) : CodeHd h c P := by
  unfold tabIn at e
  split at e
  · rename_i o ho
    split at e
    · rename_i vs hd
      split at e
      · rename_i P' x18 t18 x7 t7 x9 x10 t10 h11 h18 h7 h9 h10
        split at e
        · rename_i hc
          cases e
          simp only [Bool.and_eq_true, beq_iff_eq, bne_iff_ne] at hc
          refine ⟨o, vs, x18, t18, x7, t7, x9, x10, t10, X _ _ ho, hc.1, hd, h11, ?_, h18, h7, h9, h10, hc.2⟩
          rw [Array.getD_eq_getD_getElem?, h11]
          rfl
        · cases e
      · cases e
    · cases e
  · cases e
end L2

set_option Elab.async false
set_option linter.all false
set_option maxRecDepth 100000
set_option maxHeartbeats 4000000
namespace L2
open PySem PySem.Spec PyProof.Rows PySem.SeqAt
section
variable {X : Cx}
/-! ### list.insert within the list -/
def rInsert : V → List V → Hp → VK → Prop := fun x vs H Q => ∃ (l : Addr) (xs : List V) (k : Nat) (y : V), x = .ref l ∧ vs = [.int k, y] ∧ H l = some (.lst xs) ∧ k ≤ xs.length ∧ xs.length < 1000000 ∧ Q .non (upd H l (.lst (xs.take k ++ y :: xs.drop k)))
theorem mt_insert : MtM X "list.insert" rInsert := by
  intro pins s σ H x vs v us Q I rx rv h
  obtain ⟨l, xs, k, y, rfl, rfl, hH, hk, hz, q⟩ := h
  cases rx
  cases rv with
  | cons r1 rv =>
   cases rv with
   | cons ru rv =>
    cases rv
    rename_i u
    obtain ⟨t, rfl⟩ := r1
    obtain ⟨z, its, n, r, hl, e⟩ := I.lstM hH
    have big : 1000000 ≤ sizeLine := by decide
    have fit : ¬ (!Builtin.List.listFitsIndex (k : Int)) = true := by
      rw [fitsIndex_both (by omega) (by omega)]
      decide
    have hsz : its.toArray.size ≤ sizeLine := by rw [List.size_toArray]; omega
    generalize hi : (k : Int) = i at fit
    refine call_meets F.slot_list_insert ⟨_, e, rfl⟩ F.entry_list_insert (F.args_list_insert_3 (.ref l) (.int i t) u) (AutoListH.list_insert_list_int_val_1 l its.toArray n i t u fit hsz) ⟨e, ?_⟩
    subst hi
    have rt : Vals (xs.take k) (its.take k) ∧ Vals (xs.drop k) (its.drop k) := by
      clear hz q e hH hk hl z hsz fit
      induction r generalizing k with
      | nil => rw [List.take_nil, List.take_nil, List.drop_nil, List.drop_nil]; exact ⟨.nil, .nil⟩
      | cons a b ih =>
        cases k with
        | zero => exact ⟨.nil, .cons a b⟩
        | succ k => exact ⟨.cons a (ih (k := k)).1, (ih (k := k)).2⟩
    refine ⟨.non, _, I.lset (its' := its.take k ++ u :: its.drop k) hH e ?_ (rt.1.append (.cons ru rt.2)) ?_, rfl, q⟩
    · have h1 : min (k : Int).toNat its.toArray.size = k := by rw [List.size_toArray, Int.toNat_natCast]; omega
      show ((its.toArray.extract 0 (if (k : Int) < 0 then ((k : Int) + ((its.toArray.size : Nat) : Int)).toNat else min (k : Int).toNat its.toArray.size)).push u ++ its.toArray.extract (if (k : Int) < 0 then ((k : Int) + ((its.toArray.size : Nat) : Int)).toNat else min (k : Int).toNat its.toArray.size)) = _
      rw [if_neg (by omega), h1]
      apply Array.ext'
      simp
      exact List.take_of_length_le (by rw [List.length_drop]; omega)
    · rw [List.length_append, List.length_cons, List.length_take, List.length_drop]
      omega
end
end L2

set_option Elab.async false
set_option linter.all false
set_option maxRecDepth 100000
set_option maxHeartbeats 4000000
namespace L2
open PySem PySem.Spec PyProof.Rows PySem.SeqAt
/-! ### the signs of a text (all below 128), one after another -/
section
variable {X : Cx} {tg : Expr}
end
end L2

set_option Elab.async false
set_option linter.all false
set_option maxRecDepth 100000
set_option maxHeartbeats 4000000
namespace L2
open PySem PySem.Spec PyProof.Rows PySem.SeqAt
section
variable {X : Cx}
end
end L2

set_option Elab.async false
set_option linter.all false
set_option maxRecDepth 100000
set_option maxHeartbeats 4000000
namespace L2
open PySem PySem.Spec PyProof.Rows PySem.SeqAt
/-! ### a, b = a list of two -/
section
variable {prog : Program} {w : World} {A : Around} {E : Value → Shared → Prop} {s : Shared} {l : Addr} {x y : Value}
end
section
variable {X : Cx} {pos : Pos}
end
end L2

set_option Elab.async false
set_option linter.all false
set_option maxRecDepth 100000
set_option maxHeartbeats 4000000
namespace L2
open PySem PySem.Spec PyProof.Rows PySem.SeqAt
/-! ### a class called with keywords -/
section
variable {X : Cx} {CX : CXT} {k : Nat} {f C : Addr} {fd : FuncData} {ps ks : List Str} {sp : Sp} {E : XK} {x m : Str} {p pos apos kpos : Pos} {e o : Expr} {es : List Expr} {kws : List Keyword} {te ta : TE} {t tk : TA}
variable {g : List Value → List Value → List Value} {gV : List V → List V → List V}
end
end L2

set_option Elab.async false
set_option linter.all false
set_option maxRecDepth 100000
set_option maxHeartbeats 4000000
namespace L2
open PySem PySem.Spec PyProof.Rows PySem.W
/-! ### the table of a def's lambdas, kept through its body -/
theorem codeAmong_snoc2 {pos p : Pos} {c : Value} (l : List Value) (h : TriplesOk l) : codeAmong pos (l ++ [rawInt p.line, rawInt p.col, c]) = (codeAmong pos l).or (if (p.line : Int) == pos.line && (p.col : Int) == pos.col then some c else none) := by
  fun_induction TriplesOk l with
  | case1 => simp [codeAmong, rawInt]
  | case2 a t b u c' rest ih =>
    show codeAmong pos (.int a t :: .int b u :: c' :: (rest ++ _)) = _
    rw [codeAmong, codeAmong]
    split
    · rfl
    · exact ih h
  | case3 => exact h.elim
theorem triples_snoc {p : Pos} {c : Value} (l : List Value) (h : TriplesOk l) : TriplesOk (l ++ [rawInt p.line, rawInt p.col, c]) := by
  fun_induction TriplesOk l with
  | case1 => simp [TriplesOk, rawInt]
  | case2 a t b u c' rest ih => exact ih h
  | case3 => exact h.elim
def TabI (H : Hp) (T : Addr) (qual : Str) (lps : List Pos) : Prop :=
  ∃ ps, H T = some (.tbl ps) ∧ TriplesOk ps.toList ∧ ∀ lp ∈ lps, codeAmong lp ps.toList = none ∨ ∃ c', codeAmong lp ps.toList = some (.ref c') ∧ H c' = some (codeO c' qual)
theorem TabI.tab {H : Hp} {T : Addr} {qual : Str} {lps : List Pos} {lp : Pos} (h : TabI H T qual lps) (m : lp ∈ lps) : TabOk H T lp qual := by
  obtain ⟨ps, h1, h2, h3⟩ := h
  exact ⟨ps, h1, h2, h3 lp m⟩
theorem TabI.keep {H H' : Hp} {T : Addr} {qual : Str} {lps : List Pos} (h : TabI H T qual lps) (k : ∀ b u, H b = some u → (∀ kvs, u ≠ .dK kvs) → H' b = some u) : TabI H' T qual lps := by
  obtain ⟨ps, h1, h2, h3⟩ := h
  refine ⟨ps, k _ _ h1 (by intro _ z; cases z), h2, fun lp m => ?_⟩
  rcases h3 lp m with z | ⟨c', z, e⟩
  · exact .inl z
  · exact .inr ⟨c', z, k _ _ e (by intro _ z; cases z)⟩
theorem TabI.same {H H' : Hp} {T : Addr} {qual : Str} {lps : List Pos} (h : TabI H T qual lps) (s : Same H H') : TabI H' T qual lps := h.keep fun b u e _ => s b u e
theorem Lam.code {H H1 : Hp} {T c' : Addr} {lp : Pos} {qual : Str} (h : Lam H T lp qual c' H1) : H1 c' = some (codeO c' qual) := by
  obtain ⟨ps, h1, ⟨_, _, _, rfl⟩ | ⟨_, h2, rfl⟩⟩ := h
  · exact upd_same
  · exact h2
theorem Lam.keep {H H1 : Hp} {T c' : Addr} {lp : Pos} {qual : Str} (h : Lam H T lp qual c' H1) {b : Addr} {u : HO} (e : H b = some u) (ne : ∀ ps, u ≠ .tbl ps) : H1 b = some u := by
  obtain ⟨ps, h1, ⟨_, h2, _, rfl⟩ | ⟨_, h2, rfl⟩⟩ := h
  · rw [upd_ne (ne_of_none e h2), upd_ne (ne_of e h1 (ne _))]; exact e
  · exact e
theorem TabI.lam {H H1 : Hp} {T c' : Addr} {lp : Pos} {qual : Str} {lps : List Pos} (h : TabI H T qual lps) (l : Lam H T lp qual c' H1) : TabI H1 T qual lps := by
  obtain ⟨ps, h1, h2, h3⟩ := h
  obtain ⟨ps', e1, l⟩ := l
  rw [h1] at e1
  cases e1
  rcases l with ⟨hn, hc, ne, rfl⟩ | ⟨_, _, rfl⟩
  · refine ⟨ps ++ #[rawInt lp.line, rawInt lp.col, .ref c'], by rw [upd_ne ne.symm, upd_same], ?_, fun lp' m => ?_⟩
    · rw [Array.toList_append]
      exact triples_snoc _ h2
    · rw [Array.toList_append]
      show codeAmong lp' (ps.toList ++ [rawInt lp.line, rawInt lp.col, .ref c']) = none ∨ ∃ c'', codeAmong lp' (ps.toList ++ [rawInt lp.line, rawInt lp.col, .ref c']) = Option.some (Value.ref c'') ∧ _
      rw [codeAmong_snoc2 _ h2]
      rcases h3 lp' m with z | ⟨c'', z, e⟩
      · rw [z]
        by_cases q : ((lp.line : Int) == lp'.line && (lp.col : Int) == lp'.col) = true
        · rw [if_pos q]
          exact .inr ⟨c', rfl, upd_same⟩
        · rw [if_neg q]
          exact .inl rfl
      · rw [z]
        refine .inr ⟨c'', rfl, ?_⟩
        rw [upd_ne (ne_of_none e hc), upd_ne (ne_of e h1 (by intro z; cases z))]; exact e
  · exact ⟨ps, h1, h2, h3⟩
end L2

set_option Elab.async false
set_option linter.all false
set_option maxRecDepth 100000
set_option maxHeartbeats 4000000
namespace L2
open PySem PySem.Spec PyProof.Rows PySem.W
/-! ### the head of a law whose text makes lambdas: the tables of their codes stand apart, empty at first -/
theorem law_callM {P : Program} {w : World} {K : PySem.W.Frag} {mg mb : Str → Option Value} {CX : CXT} {k : Nat} {fa a : Addr} {Ts : List Addr} {fd : FuncData} {x : Str} {sp : Sp} {s₁ : Shared} {vs : List Value} {ns : List Int}
    (KX : K.In s₁.heap) (hns : s₁.heap.Ns mainGlobals mg) (hb : s₁.heap.Ns builtinsNs mb) (hbb : ∀ x : Str, x ≠ "__name__" → mb x = bootBuiltins x) (hlim : s₁.heap.NoLimit) (hg : s₁.gens = #[])
    (ha : s₁.heap.get? a = some { cls := .type "list", data := .seq vs.toArray }) (hi : IntsAre vs ns) (hl : ns.length ≤ sizeLine) (hr : Room k callerA)
    (hT : ∀ T ∈ Ts, s₁.heap.get? T = some (tabObj #[]) ∧ K.lookup T = none ∧ ∃ c, PySem.W.CodeHd s₁.heap c T)
    (F : ∀ base : Heap, K.In base → base.Ns mainGlobals mg → (∀ b o, s₁.heap.get? b = some o → b ∉ Ts → b ≠ a → base.get? b = some o) → FnOk P w K mg base CX k fa fd [x] sp) (hbind : ∀ (s : Shared) (u : Value), BindsTo s fd ⟨[u], []⟩ [(x, u)])
    (hsp : ∀ H : Hp, (∀ T ∈ Ts, H T = some (.tbl #[])) → SqL K H a (ns.map V.int) → sp [.ref a] H (fun v _ => v = .bl true) fun _ _ _ => False)
    (hCX : ∀ H e s', CX [] H s₁ (fun _ _ _ => False) e s' → False) :
    codeAny (model P w) callerA (.call (.ref fa) ⟨[.ref a], []⟩) (fun r s' => r = .ok (.ret (.bool true)) ∧ OldK s₁.heap s'.heap ∧ s'.os = s₁.os ∧ AllBare s'.gens) s₁ := by
  have rv := vals_ints hi
  have lenV := hi.length
  have haT : a ∉ Ts := fun q => by have := (hT a q).1; rw [ha] at this; cases this
  have core : ∀ H0 : Hp, (∀ b, H0 b = none ∨ (b = a ∧ K.lookup a = none ∧ H0 b = some (.frz { cls := .type "list", data := .seq vs.toArray } (.lst (ns.map V.int))))) → SqL K (fun b => if b ∈ Ts then some (.tbl #[]) else H0 b) a (ns.map V.int) →
      codeAny (model P w) callerA (.call (.ref fa) ⟨[.ref a], []⟩) (fun r s' => r = .ok (.ret (.bool true)) ∧ OldK s₁.heap s'.heap ∧ s'.os = s₁.os ∧ AllBare s'.gens) s₁ := by
    intro H0 hO hS
    generalize hH : (fun b => if b ∈ Ts then some (HO.tbl #[]) else H0 b : Hp) = H at hS
    have HT : ∀ T ∈ Ts, H T = some (.tbl #[]) := fun T m => by rw [← hH]; exact if_pos m
    have Hne : ∀ b, b ∉ Ts → H b = H0 b := fun b e => by rw [← hH]; exact if_neg e
    have Hn : ∀ b, b ∉ Ts → b ≠ a → H b = none := fun b h1 h2 => by
      rw [Hne b h1]
      rcases hO b with z | ⟨z, _⟩
      · exact z
      · exact absurd z h2
    have hok : HOk P w H s₁.heap := fun b u e => by
      by_cases q : b ∈ Ts
      · rw [HT b q] at e; cases e
        exact (hT b q).1
      · rw [Hne b q] at e
        rcases hO b with z | ⟨rfl, _, z⟩
        · rw [z] at e; cases e
        · rw [z] at e; cases e
          exact ⟨ha, by rw [List.length_map]; exact hl, vs, _, rv, ha⟩
    have nsN : ∀ {b : Addr} {o : Obj} {es : Array DictEntry} {ep : Nat}, s₁.heap.get? b = some o → o.data = .dict es ep → H b = none := fun {b o es ep} e d => by
      refine Hn b (fun q => ?_) (fun q => ?_)
      · rw [(hT b q).1] at e; cases e; cases d
      · subst q; rw [ha] at e; cases e; cases d
    have nsK : ∀ {b : Addr} {m : Str → Option Value}, s₁.heap.Ns b m → (hidT s₁.heap H).Ns b m := fun {b m} ⟨o, es, ep, e, d, r⟩ => ⟨o, es, ep, hidT_get e (nsN e d), d, r⟩
    have hKb : K.In (hidT s₁.heap H) := fun b o e => by
      refine hidT_get (KX b o e) ?_
      have q : b ∉ Ts := fun m => by rw [(hT b m).2.1] at e; cases e
      rw [Hne b q]
      rcases hO b with z | ⟨rfl, z, _⟩
      · exact z
      · rw [z] at e; cases e
    have hM : Mod K mg (hidT s₁.heap H) := ⟨hKb, nsK hns, ⟨mb, nsK hb, hbb⟩, let ⟨mc, h1, h2⟩ := hlim; ⟨mc, nsK h1, h2⟩⟩
    have e0 : Env0 P w K mg (hidT s₁.heap H) callerA [] s₁ H := ⟨rfl, hM, fun b o e => of_hidT e, Nat.le_of_eq (hidT_size _ _), trivial, fun b hb => absurd (show b ∈ ([] : List Addr) from hb) (by simp), hok, .of_eq hg⟩
    refine codeAny_mono ((F _ hKb (nsK hns) fun b o e h1 h2 => hidT_get e (Hn b h1 h2)).run callerA [] s₁ H ⟨[.ref a], []⟩ [.ref a] [.ref a] _ _ hr e0 (hbind s₁ (.ref a)) (.cons rfl .nil) (hsp H HT hS)) fun r s' h => ?_
    cases r with
    | error e => exact (hCX H e s' h).elim
    | ok fl =>
      cases fl with
      | next => exact False.elim h
      | brk => exact False.elim h
      | cont => exact False.elim h
      | ret u =>
        obtain ⟨v, H', os, bare, un, hok', r', q⟩ := h
        cases (show v = .bl true from q)
        cases (show u = Value.bool true from r')
        have was : ∀ b o, s₁.heap.get? b = some o → b ∉ Ts → s'.heap.get? b = some o := fun b o e h1 => by
          rcases hO b with z | ⟨rfl, _, z⟩
          · exact un.keep b o e (by rw [Hne b h1]; exact z) (by intro z; exact absurd (show b ∈ ([] : List Addr) from z) (by simp)) (by simp)
          · have z2 := un.frzs b _ _ ((Hne b h1).trans z)
            obtain ⟨e2, _⟩ := hok' b _ z2
            rw [ha] at e; cases e
            exact e2
        have tbs : ∀ T ∈ Ts, ∃ more, s'.heap.get? T = some { cls := .none, data := .fields (#[] ++ more) } := fun T m => by
          obtain ⟨more, hm⟩ := un.tbls T #[] (HT T m)
          exact ⟨more, hok' T _ hm⟩
        refine ⟨rfl, ⟨fun b o e => ?_, fun b o e => ?_⟩, os, bare⟩
        · by_cases h1 : b ∈ Ts
          · obtain ⟨more, tb⟩ := tbs b h1
            obtain ⟨h2, _, c, hc⟩ := hT b h1
            rw [h2] at e; cases e
            exact .inr (.inl ⟨(hc.tab h2).isCodeTable, rfl, #[], more, rfl, tb⟩)
          · exact .inl (was b o e h1)
        · by_cases h1 : b ∈ Ts
          · obtain ⟨more, tb⟩ := tbs b h1
            exact ⟨_, tb⟩
          · exact ⟨o, was b o e h1⟩
  cases hk : K.lookup a with
  | some o =>
    have e := KX a o hk
    rw [ha] at e
    cases e
    exact core (fun _ => none) (fun _ => .inl rfl) (.inr ⟨_, vs.toArray, _, hk, rfl, rfl, rfl, by rw [List.size_toArray, lenV]; exact hl, by simpa using rv⟩)
  | none =>
    refine core (fun b => if b = a then some (.frz { cls := .type "list", data := .seq vs.toArray } (.lst (ns.map V.int))) else none) (fun b => ?_) (.inl (.inr ⟨_, (if_neg haT).trans (if_pos rfl)⟩))
    by_cases h : b = a
    · exact .inr ⟨h, hk, if_pos h⟩
    · exact .inl (if_neg h)
theorem walk_ofM {l : PySem.W.OpenLaw} {n k : Nat} {q : Program} {loose : List Str} {XP : (Str → Option Value) → Heap → Prop} {YP : World → Heap → Prop} {d : DefRec} {K : Params → PySem.W.Frag} {CX : World → CXT} {x : Str} {Ts : List Addr}
    (hn : l.most = some n) (hn2 : n ≤ sizeLine) (hdf : d.params.defaults = []) (hr : Room k callerA)
    (hY : ∀ (w : World) (h : Heap), YP w h → (K w.params).In h) (hYT : ∀ (w : World) (h : Heap), YP w h → ∀ T ∈ Ts, h.get? T = some (tabObj #[]))
    (F : ∀ (w : World) (mg : Str → Option Value) (fa : Addr) (h : Heap), (K w.params).In h → h.Ns mainGlobals mg → mg d.name = some (.ref fa) →
      ∃ (fd : FuncData) (sp : Sp), (∀ (s : Shared) (u : Value), BindsTo s fd ⟨[u], []⟩ [(x, u)]) ∧ (∀ T ∈ Ts, (K w.params).lookup T = none ∧ ∃ c, tabIn (K w.params) c = some T) ∧
        (∀ (H : Hp) (a : Addr) (ns : List Int), ns.length ≤ n → (∀ T ∈ Ts, H T = some (.tbl #[])) → SqL (K w.params) H a (ns.map V.int) → sp [.ref a] H (fun v _ => v = .bl true) fun _ _ _ => False) ∧
        ∀ base : Heap, (K w.params).In base → base.Ns mainGlobals mg → (∀ T ∈ Ts, base.BuiltinsAt mg T ∧ mainGlobals ≠ T) → FnOk l.prog w (K w.params) mg base (CX w) k fa fd [x] sp)
    (hCX : ∀ (w : World) (H : Hp) (s : Shared) (e : Value) (s' : Shared), CX w [] H s (fun _ _ _ => False) e s' → False) :
    PySem.W.WalkO q loose XP YP l.row.toRowW d [] (fun f vs => PySem.call f vs) := by
  refine Att.attach_call hn hdf fun w s₀ s₁ mg mb fa o pm cd doc a vs ns G Y ho hd hcd hmg hobj hints hlen hg => ?_
  have KX := hY w _ Y
  have TX := hYT w _ Y
  obtain ⟨fd, sp, hb, ht, hsp, hF⟩ := F w mg fa _ KX G.T.g hmg
  obtain ⟨bm, ob, b1, b2, b3, b4, b5, b6⟩ := G.T.bmain
  have gT : ∀ T ∈ Ts, mainGlobals ≠ T := fun T m q => by
    obtain ⟨o, es, ep, e, hd, _⟩ := G.T.g
    rw [q, TX T m] at e; cases e; cases hd
  have bT : bm ∉ Ts := fun m => by
    rw [TX _ m] at b3; cases b3; cases b4
  have ba : bm ≠ a := fun q => by
    rw [q, hobj] at b3; cases b3; cases b6
  have bG : bm ≠ mainGlobals := fun q => by
    obtain ⟨o, es, ep, e, hd, _⟩ := G.T.g
    rw [q, e] at b3; cases b3; rw [hd] at b6; cases b6
  exact law_callM KX G.T.g G.T.b G.T.builtins G.T.nolimit hg hobj hints (Nat.le_trans hlen hn2) hr (fun T m => ⟨TX T m, (ht T m).1, let ⟨c, z⟩ := (ht T m).2; ⟨c, hd_of KX z⟩⟩) (fun base kb nb old => hF base kb nb fun T m => ⟨⟨bm, ob, b1, b2, bG, fun q => bT (q ▸ m), old _ _ b3 bT ba, b4, b5, b6⟩, gT T m⟩) hb (fun H hH hS => hsp H a ns hlen hH hS) fun H e s' => hCX w H s₁ e s'
end L2

set_option Elab.async false
set_option linter.all false
set_option maxRecDepth 100000
set_option maxHeartbeats 4000000
namespace L2
open PySem PySem.Spec PyProof.Rows
/-! ### {k: v for x in ..}: the new dict stands among the tracked things while the block runs -/
section
variable {X : Cx} {scope : Scope} {own : List Str} {js : List Nat} {N' : List Str} {wi : TI} {g : TG} {tt : TT} {tk tv : TE} {ke ve tg iter : Expr} {ifs : List Expr} {pos : Pos}
end
end L2

set_option Elab.async false
set_option linter.all false
set_option maxRecDepth 100000
set_option maxHeartbeats 4000000
namespace L2
open PySem PySem.Spec PyProof.Rows PySem.SeqAt
/-! ### t == (): two empty tuples -/
/-! ### lists of a known length -/
theorem len1 {α : Type} {us : List α} (h : us.length = 1) : ∃ a, us = [a] := List.length_eq_one_iff.mp h
theorem len2 {α : Type} {us : List α} (h : us.length = 2) : ∃ a b, us = [a, b] := by
  cases us with
  | nil => cases h
  | cons a r =>
    obtain ⟨b, rfl⟩ := len1 (us := r) (by simpa using h)
    exact ⟨a, b, rfl⟩
theorem len3 {α : Type} {us : List α} (h : us.length = 3) : ∃ a b c, us = [a, b, c] := by
  cases us with
  | nil => cases h
  | cons a r =>
    obtain ⟨b, c, rfl⟩ := len2 (us := r) (by simpa using h)
    exact ⟨a, b, c, rfl⟩
end L2

set_option Elab.async false
set_option linter.all false
set_option maxRecDepth 100000
set_option maxHeartbeats 4000000
namespace L2
open PySem PySem.Spec PyProof.Rows
end L2

set_option Elab.async false
set_option linter.all false
set_option maxRecDepth 100000
set_option maxHeartbeats 4000000
namespace L2
open PySem PySem.Spec PyProof.Rows
/-! ### max, min, sum of a list of numbers -/
section
variable {X : Cx}
end
end L2

set_option Elab.async false
set_option linter.all false
set_option maxRecDepth 100000
set_option maxHeartbeats 4000000
namespace L2
open PySem PySem.Spec PyProof.Rows
end L2

set_option Elab.async false
set_option linter.all false
set_option maxRecDepth 100000
set_option maxHeartbeats 4000000
namespace L2
open PySem PySem.Spec PyProof.Rows PySem.SeqAt
/-! ### what a reading comes to, whatever is asked behind it -/
def EvE (t : TE) (σ : St) (H : Hp) (v : V) : Prop := ∀ Q : VK, Q v H → t σ H Q
def EvT (t : TT) (σ : St) (H : Hp) (b : Bool) : Prop := ∀ Q : Bool → Hp → Prop, Q b H → t σ H Q
def EvR (r : R2) (x y : V) (H : Hp) (v : V) : Prop := ∀ Q : VK, Q v H → r x y H Q
section
variable {σ : St} {H : Hp} {ta tb tc : TE} {t u : TT} {x y z v : V} {r r' : R2} {k k' : Bool} {f : TF} {m n : Nat}
theorem EvE.var {i : Nat} (h : σ[i]? = some (some v)) : EvE (tVar i) σ H v := fun Q q => ⟨v, h, q⟩
theorem EvE.con : EvE (tC v) σ H v := fun Q q => q
theorem EvE.op (a : EvE ta σ H x) (b : EvE tb σ H y) (c : EvR r x y H v) : EvE (tOp r ta tb) σ H v := fun Q q => a _ (b _ (c _ q))
theorem EvR.i0 {g : Int → Int → V} {i j : Int} : EvR (rI0 g) (.int i) (.int j) H (g i j) := fun Q q => ⟨i, j, rfl, rfl, q⟩
theorem EvT.test {t : TE} (a : EvE t σ H (.bl k)) : EvT (tTest t) σ H k := fun Q q => a _ ⟨k, rfl, q⟩
theorem EvE.chain (a : EvE ta σ H x) (b : EvE tb σ H y) (c : EvE tc σ H z) (h : EvR r x y H (.bl k)) (h' : EvR r' y z H (.bl k')) : EvE (tChain r r' ta tb tc) σ H (.bl (k && k')) := fun Q q => a _ (b _ (h _ ⟨k, rfl, by
  cases k with
  | false => exact ifF rfl q
  | true => exact ifT rfl (c _ (h' _ q))⟩))
theorem EvT.not (a : EvT t σ H k) : EvT (tNot t) σ H (!k) := fun Q q => a _ q
theorem EvT.iff {D : Ends} {a b : TS} (h : EvT t σ H k) (q : if k = true then a D σ H else b D σ H) : tIfS t a b D σ H := h _ q
end
end L2

set_option Elab.async false
set_option linter.all false
set_option maxRecDepth 100000
set_option maxHeartbeats 4000000
namespace L2
open PySem PySem.Spec PyProof.Rows PySem.SeqAt
variable {X : Cx}
/-! ### != of two lists of data -/
section
variable {σ : St} {H : Hp} {ta tb : TE} {k k' : Bool} {x y : V}
end
end L2

set_option Elab.async false
set_option linter.all false
set_option maxRecDepth 100000
set_option maxHeartbeats 4000000
namespace L2
open PySem PySem.Spec PyProof.Rows PySem.SeqAt
/-! ### set of a list of ints, its len -/
section
variable {X : Cx}
end
end L2

set_option Elab.async false
set_option linter.all false
set_option maxRecDepth 100000
set_option maxHeartbeats 4000000
namespace L2
open PySem PySem.Spec PyProof.Rows PySem.SeqAt
/-! ### sum of a list of ints -/
section
variable {X : Cx}
end
end L2

set_option Elab.async false
set_option linter.all false
set_option maxRecDepth 100000
set_option maxHeartbeats 4000000
namespace L2
open PySem PySem.Spec PyProof.Rows PySem.SeqAt
/-! ### a list's [::k] -/
section
variable {X : Cx}
end
end L2

set_option Elab.async false
set_option linter.all false
set_option maxRecDepth 100000
set_option maxHeartbeats 4000000
namespace L2
open PySem PySem.Spec PyProof.Rows

/-! ### comprehensions whose own names are cells (a comprehension within one) -/
section
variable {X : Cx} {pins : List (Addr × Obj)} {σ : St} {H : Hp} {s : Shared}
end

section
variable {X : Cx} {scope : Scope} {own : List Str} {js : List Nat} {N' : List Str} {wi : TI} {g : TG} {tt : TT} {te : TE} {elt tg iter : Expr} {ifs : List Expr} {pos : Pos}
end
end L2

set_option Elab.async false
set_option linter.all false
set_option maxRecDepth 100000
set_option maxHeartbeats 8000000
namespace L2
open PySem
/-! ### a comprehension's scope over a def's, where it has cells of its own; and one within it -/
/-! ### readings that name the written part by a letter (for a block within a block) -/
end L2

set_option Elab.async false
set_option linter.all false
set_option maxRecDepth 100000
set_option maxHeartbeats 4000000
namespace L2
open PySem PySem.Spec PyProof.Rows PySem.SeqAt
/-! ### zip of two tuples, asked by enumerate -/
abbrev ZipAt (h : Heap) (z TI TO : Addr) (f0 : Value) (b : Bool) : Prop :=
  h.get? z = some { cls := .type "zip", dict := none, data := .fields #[f0, .bool b, .bool false, .ref TI, .ref TO], slots := #[] }
section
variable {prog : Program} {w : World} {A : Around} {E : Value → Shared → Prop} {s : Shared}
theorem alive_any {a : Addr} {Q : Option Obj → Shared → Prop} (h : Q (s.heap.get? a) s) : wpAny (model prog w) A (loadIfAlive a) Q E s := by
  exact fun _ _ _ => h
theorem zip_free {z TI TO : Addr} {f0 : Value} {b : Bool} {Q : Bool → Shared → Prop} (hz : ZipAt s.heap z TI TO f0 b) (hf : f0 = .none ∨ ∃ a : Int, f0 = rawInt a)
    (hT : Q true s) (hF : ∀ h', ZipAt h' z TI TO f0 true → Heap.SameBut z s.heap h' → Q false { s with heap := h' }) : wpAny (model prog w) A (Builtin.SmallTypes.ownedTupleIsFree (.ref z)) Q E s := by
  unfold Builtin.SmallTypes.ownedTupleIsFree
  rcases hf with rfl | ⟨a, rfl⟩
  · exact wpAny_bind (wpAny_field hz rfl (x := .none) rfl (wpAny_pure hT))
  · refine wpAny_bind (wpAny_field hz rfl (x := rawInt a) rfl ?_)
    show wpAny _ _ (loadIfAlive a.toNat >>= _) _ _ _
    refine wpAny_bind (alive_any ?_)
    cases hR : s.heap.get? a.toNat with
    | none => exact wpAny_pure hT
    | some o =>
      show wpAny _ _ (field (.ref z) 1 >>= _) _ _ _
      refine wpAny_bind (wpAny_field hz rfl (x := .bool b) rfl ?_)
      cases b with
      | true => exact wpAny_pure (hF s.heap hz (Heap.SameBut.refl ..))
      | false =>
        show wpAny _ _ (setField (.ref z) 1 (.bool true) >>= _) _ _ _
        exact wpAny_bind (wpAny_setField_rec hz (by simp) fun h₁ hz₁ hs₁ => wpAny_pure (hF h₁ hz₁ hs₁))
/-- the records behind one draw, and what is kept -/
structure ZS (h : Heap) (z TI TO i1 i2 a1 a2 : Addr) (k1 k2 : Nat) : Prop where
  zz : ∃ f0 b, ZipAt h z TI TO f0 b ∧ (f0 = .none ∨ ∃ a : Int, f0 = rawInt a)
  ti : IsPair h TI (.ref i1) (.ref i2)
  to : ∃ x y, IsPair h TO x y
  h1 : h.IsTupleIter i1 a1 k1
  h2 : h.IsTupleIter i2 a2 k2
theorem tupI_but {h h' : Heap} {c it l : Addr} {i : Nat} (x : h.IsTupleIter it l i) (hs : Heap.ExtBut c h h') (hc : it ≠ c) : h'.IsTupleIter it l i := x.at fun o e => hs _ _ hc e
theorem tup_but {h h' : Heap} {c l : Addr} {xs : Array Value} (x : h.IsTuple l xs) (hs : Heap.ExtBut c h h') (hc : l ≠ c) : h'.IsTuple l xs := let ⟨o, e, r⟩ := x; ⟨o, hs _ _ hc e, r⟩
theorem zipT_item {z TI TO i1 i2 a1 a2 : Addr} {k1 k2 : Nat} {xs ys : Array Value} {x y : Value} {Q : Value → Shared → Prop} (D : ZipApart z TI TO i1 i2 a1 a2) (S : ZS s.heap z TI TO i1 i2 a1 a2 k1 k2)
    (t1 : s.heap.IsTuple a1 xs) (t2 : s.heap.IsTuple a2 ys) (hx : xs[k1]? = some x) (hy : ys[k2]? = some y)
    (hQ : ∀ h', ZS h' z TI TO i1 i2 a1 a2 (k1 + 1) (k2 + 1) → IsPair h' s.heap.objs.size x y → h'.objs.size = s.heap.objs.size + 1 →
      (∀ c o, c ≠ z → c ≠ TO → c ≠ i1 → c ≠ i2 → s.heap.get? c = some o → h'.get? c = some o) → Q (.ref s.heap.objs.size) { s with heap := h' }) :
    wpAny (model prog w) A (Builtin.«zip.__next__» ⟨[.ref z], []⟩) (fun fin s' => ∃ v, fin = .done (.ret v) ∧ Q v s') E s := by
  obtain ⟨⟨f0, b, hz, hf⟩, hTI, ⟨a, b', hTO⟩, h1, h2⟩ := S
  show wpAny _ _ (field (.ref z) 2 >>= _) _ _ _
  refine wpAny_bind (wpAny_field hz rfl (x := .bool false) rfl ?_)
  show wpAny _ _ (field (.ref z) 3 >>= _) _ _ _
  refine wpAny_bind (wpAny_field hz rfl (x := .ref TI) rfl ?_)
  refine wpAny_bind (wpAny_seqItems hTI rfl ?_)
  show wpAny _ _ (Builtin.SmallTypes.ownedTupleIsFree (.ref z) >>= _) _ _ _
  refine wpAny_bind (zip_free hz hf ?_ fun h₀ hz₀ hs₀ => ?_)
  · simp only [if_true]
    refine wpAny_bind (wpAny_rule ?_)
    refine wpAny_bind (wpAny_field hz rfl (x := .ref TO) rfl ?_)
    refine wpAny_bind (wpAny_setField_rec hz (by simp) fun h₁ hz₁ hs₁ => ?_)
    replace hz₁ : ZipAt h₁ z TI TO .ellipsis b := hz₁
    refine wpAny_bind ?_
    simp only [List.zipIdx_cons, List.zipIdx_nil, List.forIn_cons, List.forIn_nil]
    refine wpAny_bind (wpAny_bind (wpAny_onRaise ?_))
    show wpAny _ _ (Builtin.SmallTypes.nextOf (.ref i1) >>= _) _ _ _
    refine wpAny_bind (next_tup (tupI_but h1 hs₁.extBut D.i1z) (tup_but t1 hs₁.extBut D.l1z) hx fun h₂ h1₂ hs₂ => wpAny_pure ?_)
    have hTO₂ : IsPair h₂ TO a b' := hs₂.extBut _ _ D.TOi1 (hs₁.extBut _ _ D.TOz hTO)
    refine wpAny_bind (wpAny_seqItems hTO₂ rfl ?_)
    refine wpAny_bind (wpAny_updateSeq_pair hTO₂ fun h₃ hTO₃ hs₃ => ?_)
    replace hTO₃ : IsPair h₃ TO x b' := hTO₃
    refine wpAny_bind (wpAny_letGo (wpAny_pure ?_))
    refine wpAny_bind (wpAny_bind (wpAny_onRaise ?_))
    show wpAny _ _ (Builtin.SmallTypes.nextOf (.ref i2) >>= _) _ _ _
    refine wpAny_bind (next_tup (tupI_but (tupI_but (tupI_but h2 hs₁.extBut D.i2z) hs₂.extBut D.i12.symm) hs₃.extBut D.TOi2.symm)
      (tup_but (tup_but (tup_but t2 hs₁.extBut D.l2z) hs₂.extBut D.l2i1) hs₃.extBut D.l2TO) hy fun h₄ h2₄ hs₄ => wpAny_pure ?_)
    have hTO₄ : IsPair h₄ TO x b' := hs₄.extBut _ _ D.TOi2 hTO₃
    refine wpAny_bind (wpAny_seqItems hTO₄ rfl ?_)
    refine wpAny_bind (wpAny_updateSeq_pair hTO₄ fun h₅ hTO₅ hs₅ => ?_)
    replace hTO₅ : IsPair h₅ TO x y := hTO₅
    refine wpAny_bind (wpAny_letGo (wpAny_pure (wpAny_pure ?_)))
    refine wpAny_bind (wpAny_seqItems hTO₅ rfl ?_)
    refine wpAny_bind (wpAny_newTuple ?_)
    have hsz : h₅.objs.size = s.heap.objs.size := by rw [hs₅.1, hs₄.1, hs₃.1, hs₂.1, hs₁.1]
    have hz₅ : ZipAt h₅ z TI TO .ellipsis b := hs₅.extBut _ _ D.TOz.symm (hs₄.extBut _ _ D.i2z.symm (hs₃.extBut _ _ D.TOz.symm (hs₂.extBut _ _ D.i1z.symm hz₁)))
    have hk₅ : ∀ c o, c ≠ z → c ≠ TO → c ≠ i1 → c ≠ i2 → s.heap.get? c = some o → h₅.get? c = some o := fun c o c1 c2 c3 c4 e =>
      hs₅.extBut _ _ c2 (hs₄.extBut _ _ c4 (hs₃.extBut _ _ c2 (hs₂.extBut _ _ c3 (hs₁.extBut _ _ c1 e))))
    have h1₅ : h₅.IsTupleIter i1 a1 (k1 + 1) := tupI_but (tupI_but (tupI_but h1₂ hs₃.extBut D.TOi1.symm) hs₄.extBut D.i12) hs₅.extBut D.TOi1.symm
    have h2₅ : h₅.IsTupleIter i2 a2 (k2 + 1) := tupI_but h2₄ hs₅.extBut D.TOi2.symm
    have hzlt : z < h₅.objs.size := Heap.lt_size hz₅
    show wpAny _ _ (Builtin.SmallTypes.ownedTupleHandOut (.ref z) (.ref h₅.objs.size) >>= _) _ _ _
    refine wpAny_bind ?_
    unfold Builtin.SmallTypes.ownedTupleHandOut
    have hz₆ : ZipAt (h₅.push { cls := .type "tuple", data := .seq #[x, y] }) z TI TO .ellipsis b := Heap.get?_push_of_some _ hz₅
    refine wpAny_bind (wpAny_setField_rec hz₆ (by simp) fun h₇ hz₇ hs₇ => ?_)
    replace hz₇ : ZipAt h₇ z TI TO (rawInt h₅.objs.size) b := hz₇
    refine wpAny_setField_rec hz₇ (by simp) fun h₈ hz₈ hs₈ => ?_
    replace hz₈ : ZipAt h₈ z TI TO (rawInt h₅.objs.size) false := hz₈
    have up : ∀ c o, c ≠ z → h₅.get? c = some o → h₈.get? c = some o := fun c o c1 e => hs₈.extBut _ _ c1 (hs₇.extBut _ _ c1 (Heap.get?_push_of_some _ e))
    have hT₈ : IsPair h₈ h₅.objs.size x y := hs₈.extBut _ _ (Nat.ne_of_gt hzlt) (hs₇.extBut _ _ (Nat.ne_of_gt hzlt) (Heap.get?_push_size _ rfl))
    have hz8 : h₈.objs.size = h₅.objs.size + 1 := by rw [hs₈.1, hs₇.1, Heap.size_push]
    rw [hsz] at hT₈ hz8
    refine wpAny_pure ⟨_, rfl, ?_⟩
    show Q (.ref h₅.objs.size) _
    rw [hsz]
    exact hQ h₈ ⟨⟨_, _, hz₈, .inr ⟨_, rfl⟩⟩, up _ _ D.TIz (hk₅ _ _ D.TIz D.TITO D.TIi1 D.TIi2 hTI), ⟨_, _, up _ _ D.TOz hTO₅⟩, h1₅.at fun o e => up _ o D.i1z e, h2₅.at fun o e => up _ o D.i2z e⟩ hT₈ hz8 fun c o c1 c2 c3 c4 e => up c o c1 (hk₅ c o c1 c2 c3 c4 e)
  · simp only [Bool.false_eq_true, if_false]
    rw [← Array.forIn_toList]
    simp only [List.forIn_cons, List.forIn_nil]
    refine wpAny_bind (wpAny_bind (wpAny_bind (wpAny_holding ?_)))
    show wpAny _ _ (Builtin.SmallTypes.nextOf (.ref i1) >>= _) _ _ _
    refine wpAny_bind (next_tup (tupI_but h1 hs₀.extBut D.i1z) (tup_but t1 hs₀.extBut D.l1z) hx fun h₂ h1₂ hs₂ => wpAny_pure (wpAny_pure ?_))
    dsimp only
    refine wpAny_bind (wpAny_bind (wpAny_holding ?_))
    show wpAny _ _ (Builtin.SmallTypes.nextOf (.ref i2) >>= _) _ _ _
    refine wpAny_bind (next_tup (tupI_but (tupI_but h2 hs₀.extBut D.i2z) hs₂.extBut D.i12.symm) (tup_but (tup_but t2 hs₀.extBut D.l2z) hs₂.extBut D.l2i1) hy fun h₄ h2₄ hs₄ => wpAny_pure (wpAny_pure ?_))
    dsimp only
    refine wpAny_pure ?_
    dsimp only
    refine wpAny_bind (wpAny_newTuple ?_ (by show 2 ≤ sizeLine; decide))
    have hsz : h₄.objs.size = s.heap.objs.size := by rw [hs₄.1, hs₂.1, hs₀.1]
    have hk₄ : ∀ c o, c ≠ z → c ≠ TO → c ≠ i1 → c ≠ i2 → s.heap.get? c = some o → h₄.get? c = some o := fun c o c1 c2 c3 c4 e => hs₄.extBut _ _ c4 (hs₂.extBut _ _ c3 (hs₀.extBut _ _ c1 e))
    have hz₄ : ZipAt h₄ z TI TO f0 true := hs₄.extBut _ _ D.i2z.symm (hs₂.extBut _ _ D.i1z.symm hz₀)
    have up : ∀ c o, h₄.get? c = some o → (h₄.push { cls := .type "tuple", data := .seq #[x, y] }).get? c = some o := fun c o e => Heap.get?_push_of_some _ e
    refine wpAny_pure ⟨_, rfl, ?_⟩
    show Q (.ref h₄.objs.size) _
    have hT : IsPair (h₄.push { cls := .type "tuple", data := .seq #[x, y] }) h₄.objs.size x y := Heap.get?_push_size _ rfl
    have hz8 : (h₄.push { cls := .type "tuple", data := .seq #[x, y] }).objs.size = h₄.objs.size + 1 := Heap.size_push ..
    rw [hsz] at hT hz8
    rw [hsz]
    have hTO₄ : IsPair h₄ TO a b' := hs₄.extBut _ _ D.TOi2 (hs₂.extBut _ _ D.TOi1 (hs₀.extBut _ _ D.TOz hTO))
    exact hQ _ ⟨⟨_, _, up _ _ hz₄, hf⟩, up _ _ (hk₄ _ _ D.TIz D.TITO D.TIi1 D.TIi2 hTI), ⟨_, _, up _ _ hTO₄⟩, (tupI_but h1₂ hs₄.extBut D.i12).at fun o e => up _ o e, h2₄.at fun o e => up _ o e⟩ hT hz8 fun c o c1 c2 c3 c4 e => up c o (hk₄ c o c1 c2 c3 c4 e)
theorem zipT_end {z TI TO i1 i2 a1 a2 : Addr} {k1 k2 : Nat} {xs ys : Array Value} {Q : Fin → Shared → Prop} (hh : A.handled = none) (D : ZipApart z TI TO i1 i2 a1 a2) (S : ZS s.heap z TI TO i1 i2 a1 a2 k1 k2)
    (t1 : s.heap.IsTuple a1 xs) (t2 : s.heap.IsTuple a2 ys) (hend : xs[k1]? = none ∨ ys[k2]? = none)
    (hE : ∀ h' e, (∀ c o, c ≠ z → c ≠ TO → c ≠ i1 → c ≠ i2 → s.heap.get? c = some o → h'.get? c = some o) → (∃ o, h'.get? e = some o ∧ o.cls = .type "StopIteration") → E (.ref e) { s with heap := h' }) :
    wpAny (model prog w) A (Builtin.«zip.__next__» ⟨[.ref z], []⟩) Q E s := by
  obtain ⟨⟨f0, b, hz, hf⟩, hTI, ⟨a, b', hTO⟩, h1, h2⟩ := S
  show wpAny _ _ (field (.ref z) 2 >>= _) _ _ _
  refine wpAny_bind (wpAny_field hz rfl (x := .bool false) rfl ?_)
  show wpAny _ _ (field (.ref z) 3 >>= _) _ _ _
  refine wpAny_bind (wpAny_field hz rfl (x := .ref TI) rfl ?_)
  refine wpAny_bind (wpAny_seqItems hTI rfl ?_)
  show wpAny _ _ (Builtin.SmallTypes.ownedTupleIsFree (.ref z) >>= _) _ _ _
  refine wpAny_bind (zip_free hz hf ?_ fun h₀ hz₀ hs₀ => ?_)
  · simp only [if_true]
    refine wpAny_bind (wpAny_rule ?_)
    refine wpAny_bind (wpAny_field hz rfl (x := .ref TO) rfl ?_)
    refine wpAny_bind (wpAny_setField_rec hz (by simp) fun h₁ hz₁ hs₁ => ?_)
    replace hz₁ : ZipAt h₁ z TI TO .ellipsis b := hz₁
    refine wpAny_bind ?_
    simp only [List.zipIdx_cons, List.zipIdx_nil, List.forIn_cons, List.forIn_nil]
    refine wpAny_bind (wpAny_bind (wpAny_onRaise ?_))
    show wpAny _ _ (Builtin.SmallTypes.nextOf (.ref i1) >>= _) _ _ _
    cases hx : xs[k1]? with
    | none =>
      refine wpAny_bind (next_tupE hh (tupI_but h1 hs₁.extBut D.i1z) (tup_but t1 hs₁.extBut D.l1z) hx fun h₂ e hs₂ he => ?_)
      obtain ⟨oe, hoe, hce⟩ := he
      have hz₂ : ZipAt h₂ z TI TO .ellipsis b := hs₂ _ _ D.i1z.symm hz₁
      have hez : e ≠ z := fun x => by subst x; rw [hz₂] at hoe; cases hoe; simp at hce
      refine wpAny_setField_rec hz₂ (by simp) fun h₃ _ hs₃ => hE h₃ e (fun c o c1 _ c3 _ x => hs₃.extBut _ _ c1 (hs₂ _ _ c3 (hs₁.extBut _ _ c1 x))) ⟨oe, hs₃.extBut _ _ hez hoe, hce⟩
    | some x =>
      have hy : ys[k2]? = none := by rcases hend with h | h; rw [hx] at h; cases h; exact h
      refine wpAny_bind (next_tup (tupI_but h1 hs₁.extBut D.i1z) (tup_but t1 hs₁.extBut D.l1z) hx fun h₂ h1₂ hs₂ => wpAny_pure ?_)
      have hTO₂ : IsPair h₂ TO a b' := hs₂.extBut _ _ D.TOi1 (hs₁.extBut _ _ D.TOz hTO)
      refine wpAny_bind (wpAny_seqItems hTO₂ rfl ?_)
      refine wpAny_bind (wpAny_updateSeq_pair hTO₂ fun h₃ hTO₃ hs₃ => ?_)
      refine wpAny_bind (wpAny_letGo (wpAny_pure ?_))
      refine wpAny_bind (wpAny_bind (wpAny_onRaise ?_))
      show wpAny _ _ (Builtin.SmallTypes.nextOf (.ref i2) >>= _) _ _ _
      refine wpAny_bind (next_tupE hh (tupI_but (tupI_but (tupI_but h2 hs₁.extBut D.i2z) hs₂.extBut D.i12.symm) hs₃.extBut D.TOi2.symm)
        (tup_but (tup_but (tup_but t2 hs₁.extBut D.l2z) hs₂.extBut D.l2i1) hs₃.extBut D.l2TO) hy fun h₄ e hs₄ he => ?_)
      obtain ⟨oe, hoe, hce⟩ := he
      have hz₄ : ZipAt h₄ z TI TO .ellipsis b := hs₄ _ _ D.i2z.symm (hs₃.extBut _ _ D.TOz.symm (hs₂.extBut _ _ D.i1z.symm hz₁))
      have hez : e ≠ z := fun x => by subst x; rw [hz₄] at hoe; cases hoe; simp at hce
      refine wpAny_setField_rec hz₄ (by simp) fun h₅ _ hs₅ => hE h₅ e (fun c o c1 c2 c3 c4 x => hs₅.extBut _ _ c1 (hs₄ _ _ c4 (hs₃.extBut _ _ c2 (hs₂.extBut _ _ c3 (hs₁.extBut _ _ c1 x))))) ⟨oe, hs₅.extBut _ _ hez hoe, hce⟩
  · simp only [Bool.false_eq_true, if_false]
    rw [← Array.forIn_toList]
    simp only [List.forIn_cons, List.forIn_nil]
    refine wpAny_bind (wpAny_bind (wpAny_bind (wpAny_holding ?_)))
    show wpAny _ _ (Builtin.SmallTypes.nextOf (.ref i1) >>= _) _ _ _
    cases hx : xs[k1]? with
    | none =>
      refine wpAny_bind (next_tupE hh (tupI_but h1 hs₀.extBut D.i1z) (tup_but t1 hs₀.extBut D.l1z) hx fun h₂ e hs₂ he => ?_)
      exact hE h₂ e (fun c o c1 _ c3 _ x => hs₂ _ _ c3 (hs₀.extBut _ _ c1 x)) he
    | some x =>
      have hy : ys[k2]? = none := by rcases hend with h | h; rw [hx] at h; cases h; exact h
      refine wpAny_bind (next_tup (tupI_but h1 hs₀.extBut D.i1z) (tup_but t1 hs₀.extBut D.l1z) hx fun h₂ h1₂ hs₂ => wpAny_pure (wpAny_pure ?_))
      dsimp only
      refine wpAny_bind (wpAny_bind (wpAny_holding ?_))
      show wpAny _ _ (Builtin.SmallTypes.nextOf (.ref i2) >>= _) _ _ _
      refine wpAny_bind (next_tupE hh (tupI_but (tupI_but h2 hs₀.extBut D.i2z) hs₂.extBut D.i12.symm) (tup_but (tup_but t2 hs₀.extBut D.l2z) hs₂.extBut D.l2i1) hy fun h₄ e hs₄ he => ?_)
      exact hE h₄ e (fun c o c1 c2 c3 c4 x => hs₄ _ _ c4 (hs₂.extBut _ _ c3 (hs₀.extBut _ _ c1 x))) he
theorem nextZ_item {z TI TO i1 i2 a1 a2 : Addr} {k1 k2 : Nat} {xs ys : Array Value} {x y : Value} {Q : Value → Shared → Prop} (D : ZipApart z TI TO i1 i2 a1 a2) (S : ZS s.heap z TI TO i1 i2 a1 a2 k1 k2)
    (t1 : s.heap.IsTuple a1 xs) (t2 : s.heap.IsTuple a2 ys) (hx : xs[k1]? = some x) (hy : ys[k2]? = some y)
    (hQ : ∀ h', ZS h' z TI TO i1 i2 a1 a2 (k1 + 1) (k2 + 1) → IsPair h' s.heap.objs.size x y → h'.objs.size = s.heap.objs.size + 1 →
      (∀ c o, c ≠ z → c ≠ TO → c ≠ i1 → c ≠ i2 → s.heap.get? c = some o → h'.get? c = some o) → Q (.ref s.heap.objs.size) { s with heap := h' }) :
    wpAny (model prog w) A (Builtin.SmallTypes.nextOf (.ref z)) Q E s := by
  obtain ⟨f0, b, hz, _⟩ := S.zz
  have hT : s.TypeIs (.ref z) "zip" := ⟨_, hz, rfl⟩
  unfold Builtin.SmallTypes.nextOf
  exact wpAny_bind (wpAny_callSpecial?_slot (name := Str.ofString "__next__") hT F.slot_zip_next (wpAny_call_entry F.slot_zip_next hT F.entry_zip_next
    (zipT_item D S t1 t2 hx hy fun h' a1 a2 a3 a4 => wpAny_pure (hQ h' a1 a2 a3 a4)) (F.args_zip_next_1 _)))
theorem nextZ_end {z TI TO i1 i2 a1 a2 : Addr} {k1 k2 : Nat} {xs ys : Array Value} {Q : Value → Shared → Prop} (hh : A.handled = none) (D : ZipApart z TI TO i1 i2 a1 a2) (S : ZS s.heap z TI TO i1 i2 a1 a2 k1 k2)
    (t1 : s.heap.IsTuple a1 xs) (t2 : s.heap.IsTuple a2 ys) (hend : xs[k1]? = none ∨ ys[k2]? = none)
    (hE : ∀ h' e, (∀ c o, c ≠ z → c ≠ TO → c ≠ i1 → c ≠ i2 → s.heap.get? c = some o → h'.get? c = some o) → (∃ o, h'.get? e = some o ∧ o.cls = .type "StopIteration") → E (.ref e) { s with heap := h' }) :
    wpAny (model prog w) A (Builtin.SmallTypes.nextOf (.ref z)) Q E s := by
  obtain ⟨f0, b, hz, _⟩ := S.zz
  have hT : s.TypeIs (.ref z) "zip" := ⟨_, hz, rfl⟩
  unfold Builtin.SmallTypes.nextOf
  exact wpAny_bind (wpAny_callSpecial?_slot (name := Str.ofString "__next__") hT F.slot_zip_next (wpAny_call_entry F.slot_zip_next hT F.entry_zip_next (zipT_end (A := A.in1) hh D S t1 t2 hend hE) (F.args_zip_next_1 _)))
/-- enumerate's own draw, whatever it draws from -/
theorem enum_draw {e it : Addr} {i : Nat} {old : Value} {Q : Value → Shared → Prop} (he : IsEnum s.heap e it i old)
    (draw : wpAny (model prog w) A (Builtin.SmallTypes.nextOf (.ref it)) (fun x s₁ => ∃ h₁ tk, s₁ = { s with heap := h₁, toks := tk } ∧ IsEnum h₁ e it i old ∧
      ∀ h', IsEnumOut h' e it ((i : Int) + 1) x h₁.objs.size → h'.get? h₁.objs.size = some { cls := .type "tuple", data := .seq #[.int i tk, x] } → (∀ b o, b ≠ e → h₁.get? b = some o → h'.get? b = some o) →
        Q (.ref h₁.objs.size) { s with heap := h', toks := tk + 1 }) E s) :
    wpAny (model prog w) A (Builtin.«enumerate.__next__» ⟨[.ref e], []⟩) (fun fin s' => ∃ v, fin = .done (.ret v) ∧ Q v s') E s := by
  obtain ⟨hp, g, d, tk₀, os⟩ := s
  show wpAny _ _ (field (.ref e) 2 >>= _) _ _ _
  refine wpAny_bind (wpAny_field he rfl (x := .ref it) rfl ?_)
  refine wpAny_bind (wpAny_mono draw (fun x s₁ hx => ?_) fun _ _ z => z)
  obtain ⟨h₁, tk, rfl, he₁, hQ⟩ := hx
  show wpAny _ _ (field (.ref e) 3 >>= _) _ _ ⟨h₁, g, d, tk, os⟩
  refine wpAny_bind (wpAny_field he₁ rfl (x := rawInt i) rfl ?_)
  show wpAny _ _ (field (.ref e) 4 >>= _) _ _ ⟨h₁, g, d, tk, os⟩
  refine wpAny_bind (wpAny_field he₁ rfl (x := .none) rfl ?_)
  show wpAny _ _ (mkInt i >>= _) _ _ ⟨h₁, g, d, tk, os⟩
  refine wpAny_bind (wpAny_mkInt ?_)
  show wpAny _ _ (setField (.ref e) 3 (rawInt ((i : Int) + 1)) >>= _) _ _ ⟨h₁, g, d, tk + 1, os⟩
  refine wpAny_bind (wpAny_setField_rec he₁ (by simp) fun h₂ he₂ hs₂ => ?_)
  replace hs₂ : Heap.SameBut e h₁ h₂ := hs₂
  replace he₂ : IsEnum h₂ e it ((i : Int) + 1) old := he₂
  show wpAny _ _ (setField (.ref e) 4 .none >>= _) _ _ ⟨h₂, g, d, tk + 1, os⟩
  refine wpAny_bind (wpAny_setField_rec he₂ (by simp) fun h₃ he₃ hs₃ => ?_)
  replace hs₃ : Heap.SameBut e h₂ h₃ := hs₃
  replace he₃ : IsEnum h₃ e it ((i : Int) + 1) old := he₃
  show wpAny _ _ (newTuple [.int i tk, x] >>= _) _ _ ⟨h₃, g, d, tk + 1, os⟩
  refine wpAny_bind (wpAny_newTuple ?_)
  have he₄ : IsEnum (h₃.push { cls := .type "tuple", data := .seq #[.int i tk, x] }) e it ((i : Int) + 1) old := Heap.get?_push_of_some _ he₃
  have hsz : h₃.objs.size = h₁.objs.size := by rw [hs₃.1, hs₂.1]
  have ht₄ : (h₃.push { cls := .type "tuple", data := .seq #[.int i tk, x] }).get? h₃.objs.size = some { cls := .type "tuple", data := .seq #[.int i tk, x] } := Heap.get?_push_size _ rfl
  have hk₄ : ∀ b o, b ≠ e → h₁.get? b = some o → (h₃.push { cls := .type "tuple", data := .seq #[.int i tk, x] }).get? b = some o := fun b o hbe hb => Heap.get?_push_of_some _ (hs₃.extBut b o hbe (hs₂.extBut b o hbe hb))
  have hel : e < h₃.objs.size := Heap.lt_size he₃
  generalize h₃.push { cls := .type "tuple", data := .seq #[.int i tk, x] } = h₄ at he₄ ht₄ hk₄
  rw [hsz] at ht₄ hel ⊢
  show wpAny _ _ (Builtin.SmallTypes.ownedTupleIsFree (.ref e) >>= _) _ _ ⟨h₄, g, d, tk + 1, os⟩
  refine wpAny_bind ?_
  unfold Builtin.SmallTypes.ownedTupleIsFree
  refine wpAny_bind (wpAny_field he₄ rfl (x := .none) rfl (wpAny_pure ?_))
  simp only [if_true]
  refine wpAny_bind (wpAny_rule ?_)
  show wpAny _ _ (field (.ref e) 5 >>= _) _ _ _
  refine wpAny_bind (wpAny_field he₄ rfl (x := old) rfl ?_)
  show wpAny _ _ (setField (.ref e) 5 x >>= _) _ _ ⟨h₄, g, d, tk + 1, os⟩
  refine wpAny_bind (wpAny_setField_rec he₄ (by simp) fun h₅ he₅ hs₅ => ?_)
  replace he₅ : IsEnum h₅ e it ((i : Int) + 1) x := he₅
  replace hs₅ : Heap.SameBut e h₄ h₅ := hs₅
  show wpAny _ _ (Builtin.SmallTypes.ownedTupleHandOut (.ref e) (.ref h₁.objs.size) >>= _) _ _ _
  refine wpAny_bind ?_
  unfold Builtin.SmallTypes.ownedTupleHandOut
  refine wpAny_bind (wpAny_setField_rec he₅ (by simp) fun h₆ he₆ hs₆ => ?_)
  replace hs₆ : Heap.SameBut e h₅ h₆ := hs₆
  replace he₆ : IsEnumOut h₆ e it ((i : Int) + 1) x h₁.objs.size := he₆
  refine wpAny_setField_rec he₆ (by simp) fun h₇ he₇ hs₇ => ?_
  replace hs₇ : Heap.SameBut e h₆ h₇ := hs₇
  replace he₇ : IsEnumOut h₇ e it ((i : Int) + 1) x h₁.objs.size := he₇
  refine wpAny_bind (wpAny_letGo (wpAny_pure ⟨_, rfl, ?_⟩))
  have up : ∀ b o, b ≠ e → h₄.get? b = some o → h₇.get? b = some o := fun b o hb z => hs₇.extBut b o hb (hs₆.extBut b o hb (hs₅.extBut b o hb z))
  exact hQ h₇ he₇ (up _ _ (Nat.ne_of_gt hel) ht₄) fun b o hb z => up b o hb (hk₄ b o hb z)
end
end L2

set_option Elab.async false
set_option linter.all false
set_option maxRecDepth 100000
set_option maxHeartbeats 4000000
namespace L2
open PySem PySem.Spec PyProof.Rows PySem.SeqAt
/-! ### enumerate(zip(t, u)) of two tuples -/
abbrev zH1 (h : Heap) (l1 : Addr) : Heap := h.push { cls := .type "tuple_iterator", data := .fields #[.ref l1, .int 0 0] }
abbrev zH2 (h : Heap) (l1 l2 : Addr) : Heap := (zH1 h l1).push { cls := .type "tuple_iterator", data := .fields #[.ref l2, .int 0 0] }
abbrev zH3 (h : Heap) (l1 l2 : Addr) : Heap := (zH2 h l1 l2).push { cls := .type "tuple", data := .seq #[.ref h.objs.size, .ref (zH1 h l1).objs.size] }
abbrev zH4 (h : Heap) (l1 l2 : Addr) : Heap := (zH3 h l1 l2).push { cls := .type "tuple", data := .seq #[.none, .none] }
abbrev zH5 (h : Heap) (l1 l2 : Addr) : Heap := (zH4 h l1 l2).push { cls := .type "zip", data := .fields #[.none, .bool false, .bool false, .ref (zH2 h l1 l2).objs.size, .ref (zH3 h l1 l2).objs.size] }
theorem new_zipT (l1 l2 : Addr) (xs ys : Array Value) :
    Meets (Builtin.«zip.__new__» ⟨[.type "zip", .ref l1, .ref l2], []⟩) (fun _ R s => s.heap.IsTuple l1 xs ∧ s.heap.IsTuple l2 ys ∧
      R (.ok (.ret (.ref (zH4 s.heap l1 l2).objs.size))) { s with heap := zH5 s.heap l1 l2 }) :=
  .of_wp fun prog w A R s h => by
    obtain ⟨hp, g, d, tk, os⟩ := s; obtain ⟨hl1, hl2, h⟩ := h
    have hsub := sub_zip
    have hL1 : Heap.IsTuple (Shared.heap ⟨hp, g, d, tk, os⟩) l1 xs := hl1
    have hL2 : Heap.IsTuple (Shared.heap ⟨hp.push { cls := .type "tuple_iterator", data := .fields #[.ref l1, .int 0 0] }, g, d, tk, os⟩) l2 ys := let ⟨o, e, r⟩ := hl2; ⟨o, Heap.get?_push_of_some _ e, r⟩
    wp_walk using wpAny_pyIter_tuple hL1, wpAny_pyIter_tuple hL2
    exact ⟨_, rfl, h⟩
section
variable {prog : Program} {w : World} {A : Around} {E : Value → Shared → Prop} {s : Shared}
theorem call_zipT {l1 l2 : Addr} {xs ys : Array Value} {Q : Value → Shared → Prop} (hl1 : s.heap.IsTuple l1 xs) (hl2 : s.heap.IsTuple l2 ys)
    (h : ∀ h', ZipAt h' (s.heap.objs.size + 4) (s.heap.objs.size + 2) (s.heap.objs.size + 3) .none false → IsPair h' (s.heap.objs.size + 2) (.ref s.heap.objs.size) (.ref (s.heap.objs.size + 1)) →
      IsPair h' (s.heap.objs.size + 3) .none .none → h'.IsTupleIter s.heap.objs.size l1 0 → h'.IsTupleIter (s.heap.objs.size + 1) l2 0 → h'.objs.size = s.heap.objs.size + 5 →
      (∀ c o, s.heap.get? c = some o → h'.get? c = some o) → Q (.ref (s.heap.objs.size + 4)) { s with heap := h' }) :
    wpAny (model prog w) A (call (.type "zip") [.ref l1, .ref l2]) Q E s := by
  refine callType_new F.called_zip (by decide) (F.typeCall_zip_2 _ _) (F.newCall_zip_2 _ _) (fun obj => F.args_object_init_3 obj _ _) F.entry_zip_new
    (new_zipT l1 l2 xs ys) ⟨hl1, hl2, ?_⟩
  have z1 : (zH1 s.heap l1).objs.size = s.heap.objs.size + 1 := Heap.size_push ..
  have z2 : (zH2 s.heap l1 l2).objs.size = s.heap.objs.size + 2 := by rw [Heap.size_push, z1]
  have z3 : (zH3 s.heap l1 l2).objs.size = s.heap.objs.size + 3 := by rw [Heap.size_push, z2]
  have z4 : (zH4 s.heap l1 l2).objs.size = s.heap.objs.size + 4 := by rw [Heap.size_push, z3]
  have z5 : (zH5 s.heap l1 l2).objs.size = s.heap.objs.size + 5 := by rw [Heap.size_push, z4]
  have g5 : (zH5 s.heap l1 l2).get? (zH4 s.heap l1 l2).objs.size = some _ := Heap.get?_push_size _ rfl
  have g4 : (zH5 s.heap l1 l2).get? (zH3 s.heap l1 l2).objs.size = some _ := Heap.get?_push_of_some _ (Heap.get?_push_size _ rfl)
  have g3 : (zH5 s.heap l1 l2).get? (zH2 s.heap l1 l2).objs.size = some _ := Heap.get?_push_of_some _ (Heap.get?_push_of_some _ (Heap.get?_push_size _ rfl))
  have g2 : (zH5 s.heap l1 l2).get? (zH1 s.heap l1).objs.size = some _ := Heap.get?_push_of_some _ (Heap.get?_push_of_some _ (Heap.get?_push_of_some _ (Heap.get?_push_size _ rfl)))
  have g1 : (zH5 s.heap l1 l2).get? s.heap.objs.size = some _ := Heap.get?_push_of_some _ (Heap.get?_push_of_some _ (Heap.get?_push_of_some _ (Heap.get?_push_of_some _ (Heap.get?_push_size _ rfl))))
  show _ ∧ _
  rw [z2, z3, z4] at g5
  rw [z1, z2] at g3
  rw [z3] at g4
  rw [z1] at g2
  rw [z4]
  exact ⟨⟨_, g5, rfl⟩, h _ g5 g3 g4 ⟨_, g1, rfl, rfl⟩ ⟨_, g2, rfl, rfl⟩ z5 fun c o x =>
    Heap.get?_push_of_some _ (Heap.get?_push_of_some _ (Heap.get?_push_of_some _ (Heap.get?_push_of_some _ (Heap.get?_push_of_some _ x))))⟩
theorem iter_zipT {z TI TO : Addr} {f0 : Value} {b : Bool} {Q : Value → Shared → Prop} (hz : ZipAt s.heap z TI TO f0 b) (h : Q (.ref z) s) : wpAny (model prog w) A (pyIter (.ref z)) Q E s := by
  have hT : s.TypeIs (.ref z) "zip" := ⟨_, hz, rfl⟩
  refine wpAny_pyIter_slot hT F.slot_zip_iter (wpAny_call_entry F.slot_zip_iter hT F.entry_zip_iter ?_ (F.args_zip_iter_1 _))
  show wpAny _ _ (ret (.ref z)) _ _ s
  exact wpAny_pure ⟨_, rfl, "zip", _, hT, F.slot_zip_next.lookup, h⟩
end
theorem new_enumZ (z TI TO : Addr) :
    Meets (Builtin.«enumerate.__new__» ⟨[.type "enumerate", .ref z], []⟩) (fun _ R s => ZipAt s.heap z TI TO .none false ∧
      R (.ok (.ret (.ref s.heap.objs.size))) { s with heap := s.heap.push { cls := .type "enumerate", data := .fields #[.none, .bool false, .ref z, rawInt 0, .none, .none] } }) :=
  .of_wp fun prog w A R s h => by
    obtain ⟨hp, g, d, tk, os⟩ := s
    obtain ⟨hl, h⟩ := h
    have hsub := sub_enumerate
    have hL : ZipAt (Shared.heap ⟨hp, g, d, tk, os⟩) z TI TO .none false := hl
    wp_walk using AutoSeq1.wpAny_loadPart' hl
    refine wpAny_stack_any fun st => wpAny_pure ?_
    split
    · rename_i c _ _ _ _ _
      cases (c == Value.type "enumerate") <;> (wp_walk using AutoSeq1.wpAny_loadPart' hl, iter_zipT hL; exact ⟨_, rfl, h⟩)
    · wp_walk using AutoSeq1.wpAny_loadPart' hl, iter_zipT hL
      exact ⟨_, rfl, h⟩
theorem call_enumZ {prog : Program} {w : World} {A : Around} {E : Value → Shared → Prop} {s : Shared} {z TI TO : Addr} {Q : Value → Shared → Prop} (hz : ZipAt s.heap z TI TO .none false)
    (h : ∀ g, IsEnum g s.heap.objs.size z 0 .none → (∀ b o, s.heap.get? b = some o → g.get? b = some o) → Q (.ref s.heap.objs.size) { s with heap := g }) : wpAny (model prog w) A (call (.type "enumerate") [.ref z]) Q E s := by
  refine callType_new F.called_enumerate (by decide) (F.typeCall_enumerate_1 _) (F.newCall_enumerate_1 _) (fun obj => F.args_object_init_2 obj _) F.entry_enumerate_new (new_enumZ z TI TO) ⟨hz, ?_⟩
  have he := Heap.get?_push_size s.heap (o := { cls := .type "enumerate", data := .fields #[.none, .bool false, .ref z, rawInt 0, .none, .none] }) rfl
  exact ⟨⟨_, he, rfl⟩, h _ he fun b o x => Heap.get?_push_of_some _ x⟩
end L2

set_option Elab.async false
set_option linter.all false
set_option maxRecDepth 100000
set_option maxHeartbeats 4000000
namespace L2
open PySem PySem.Spec PyProof.Rows PySem.SeqAt
/-- (0, (t[0], u[0])), (1, (t[1], u[1])), .. -/
def Itz (K : PySem.W.Frag) (a1 a2 : Addr) : It :=
  ⟨fun i H => ∃ xs ys x y, SqT K H a1 xs ∧ SqT K H a2 ys ∧ xs[i]? = some x ∧ ys[i]? = some y,
   fun i H v H' => ∃ q p x y, H q = none ∧ upd H q (.tup [x, y]) p = none ∧ v = .ref p ∧ (∀ xs, SqT K H a1 xs → xs[i]? = some x) ∧ (∀ ys, SqT K H a2 ys → ys[i]? = some y) ∧ H' = upd (upd H q (.tup [x, y])) p (.tup [.int i, .ref q]),
   fun i H => ∃ xs ys, SqT K H a1 xs ∧ SqT K H a2 ys ∧ (xs.length ≤ i ∨ ys.length ≤ i)⟩
structure EZApart (e z TI TO i1 i2 : Addr) : Prop where
  ez : e ≠ z
  eTI : e ≠ TI
  eTO : e ≠ TO
  e1 : e ≠ i1
  e2 : e ≠ i2
  TIz : TI ≠ z
  TOz : TO ≠ z
  i1z : i1 ≠ z
  i2z : i2 ≠ z
  TITO : TI ≠ TO
  TIi1 : TI ≠ i1
  TIi2 : TI ≠ i2
  TOi1 : TO ≠ i1
  TOi2 : TO ≠ i2
  i12 : i1 ≠ i2
abbrev EZ (e z TI TO i1 i2 a1 a2 : Addr) (i : Nat) (h : Heap) : Prop := (∃ old, IsEnum h e z i old) ∧ ZS h z TI TO i1 i2 a1 a2 i i
theorem EZ.obj {e z TI TO i1 i2 a1 a2 : Addr} {i : Nat} {h : Heap} (st : EZ e z TI TO i1 i2 a1 a2 i h) : ∀ b ∈ [e, z, TI, TO, i1, i2], ∃ o, h.get? b = some o ∧ ∀ v, o.data ≠ .cell v := by
  obtain ⟨⟨old, he⟩, ⟨f0, b0, hz, _⟩, hTI, ⟨x, y, hTO⟩, ⟨o1, e1, _, d1⟩, ⟨o2, e2, _, d2⟩⟩ := st
  intro b hb
  simp only [List.mem_cons, List.not_mem_nil, or_false] at hb
  rcases hb with rfl | rfl | rfl | rfl | rfl | rfl
  · exact ⟨_, he, fun v z => by cases z⟩
  · exact ⟨_, hz, fun v z => by cases z⟩
  · exact ⟨_, hTI, fun v z => by cases z⟩
  · exact ⟨_, hTO, fun v z => by cases z⟩
  · exact ⟨_, e1, fun v z => by rw [d1] at z; cases z⟩
  · exact ⟨_, e2, fun v z => by rw [d2] at z; cases z⟩
theorem ZS.keep {z TI TO i1 i2 a1 a2 : Addr} {i : Nat} {h h' : Heap} (st : ZS h z TI TO i1 i2 a1 a2 i i) (k : ∀ b ∈ [z, TI, TO, i1, i2], ∀ o, h.get? b = some o → h'.get? b = some o) : ZS h' z TI TO i1 i2 a1 a2 i i := by
  obtain ⟨⟨f0, b0, hz, hf⟩, hTI, ⟨x, y, hTO⟩, h1, h2⟩ := st
  exact ⟨⟨f0, b0, k _ (by simp) _ hz, hf⟩, k _ (by simp) _ hTI, ⟨x, y, k _ (by simp) _ hTO⟩, h1.at fun o e => k _ (by simp) _ e, h2.at fun o e => k _ (by simp) _ e⟩
theorem ZS.obj {z TI TO i1 i2 a1 a2 : Addr} {i j : Nat} {h : Heap} (st : ZS h z TI TO i1 i2 a1 a2 i j) : ∀ b ∈ [z, TO, i1, i2], ∃ o, h.get? b = some o := by
  obtain ⟨⟨f0, b0, hz, _⟩, hTI, ⟨x, y, hTO⟩, ⟨o1, e1, _, d1⟩, ⟨o2, e2, _, d2⟩⟩ := st
  intro b hb
  simp only [List.mem_cons, List.not_mem_nil, or_false] at hb
  rcases hb with rfl | rfl | rfl | rfl
  · exact ⟨_, hz⟩
  · exact ⟨_, hTO⟩
  · exact ⟨_, e1⟩
  · exact ⟨_, e2⟩
theorem sqT_ne {X : Cx} {pins : List (Addr × Obj)} {σ : St} {H : Hp} {s : Shared} {a b : Addr} {zs : List V} (I : Inv X pins σ H s) (hq : SqT X.K H a zs) (hb : FpOk X pins H b) : a ≠ b := by
  rintro rfl
  rcases hq with h | ⟨o, its, n, hk, _⟩
  · rcases h with h | ⟨u, h⟩
    · rw [hb.1] at h; cases h
    · rw [hb.1] at h; cases h
  · have e := I.ok.mod.kin _ _ hk
    rcases hb.2.2.2.1 with z | z
    · exact I.ok.noex _ _ e z
    · exact absurd (Heap.lt_size (I.ok.bs _ _ e).1) (Nat.not_lt.mpr z)
/-- several records turn -/
theorem Inv.turnedN {X : Cx} {pins : List (Addr × Obj)} {σ : St} {H : Hp} {s : Shared} {h' : Heap} {t' : Nat} {fp : List Addr} (I : Inv X pins σ H s) (k : ∀ b u, b ∉ fp → s.heap.get? b = some u → h'.get? b = some u) (hf : ∀ b ∈ fp, FpOk X pins H b) : Inv X pins σ H { s with heap := h', toks := t' } := by
  have off : ∀ b u, H b = some u → b ∉ fp := fun b u e z => by rw [(hf b z).1] at e; cases e
  refine I.step (g' := s.gens) (d' := s.drawn) (ch := fp) (fun b hb => ?_) (fun b u _ _ hc e _ => k b u hc e) (fun b u _ _ hc e _ => ⟨u.slots, k b u hc e⟩) (fun _ _ _ _ n => n) (fun b u hc e => ⟨u, k b u hc e⟩) (fun _ _ e => e) (fun _ _ _ e => e) (fun b ps e => ⟨#[], by rw [e]; simp⟩) (fun m hm => ?_) (fun b u e => ?_) I.bare
  · obtain ⟨_, f1, _, f3, f4, f5⟩ := hf b hb
    exact ⟨f3, f1, f4, f5⟩
  · obtain ⟨u, es, ep, ho, r⟩ := hm
    exact ⟨u, es, ep, k _ u (fun z => (hf _ z).2.1 rfl) ho, r⟩
  · refine (I.hok b u e).stay (fun c v hc q => k c v ?_ q) (fun c q => q) fun c xs q => q
    rcases hc with rfl | z
    · exact off _ u e
    · exact off c _ z
theorem FpOk.upd {X : Cx} {pins : List (Addr × Obj)} {H : Hp} {b a : Addr} {o : HO} (h : FpOk X pins H b) (ne : b ≠ a) : FpOk X pins (upd H a o) b := ⟨by rw [upd_ne ne]; exact h.1, h.2⟩
theorem turn_enumZ {P : Program} {w : World} {K : PySem.W.Frag} {elts : List Expr} {k1} {pos : Pos} (a1 a2 e z TI TO i1 i2 : Addr) (D : EZApart e z TI TO i1 i2) :
    Turn P w K (.Tuple elts k1 pos) (Itz K a1 a2) [e, z, TI, TO, i1, i2] e (EZ e z TI TO i1 i2 a1 a2) where
  mem := by simp
  obj := fun i h st b hb => st.obj b hb
  keep := fun i h h' st k => ⟨let ⟨old, h1⟩ := st.1; ⟨old, k e (by simp) _ h1⟩, st.2.keep fun b hb o z => k b (List.mem_cons_of_mem _ hb) o z⟩
  item := by
    intro X hP hw hK hc i pins s σ H E I hf st hg
    subst hP hw hK
    obtain ⟨xs, ys, x, y, hq1, hq2, hx, hy⟩ := hg
    obtain ⟨its1, rv1, p1, _⟩ := I.tuple hq1
    obtain ⟨its2, rv2, p2, _⟩ := I.tuple hq2
    obtain ⟨u1, hu1, ru1⟩ := rv1.get hx
    obtain ⟨u2, hu2, ru2⟩ := rv2.get hy
    have t1 : s.heap.IsTuple a1 its1.toArray := p1
    have t2 : s.heap.IsTuple a2 its2.toArray := p2
    obtain ⟨⟨old, he⟩, S⟩ := st
    have free : ∀ b ∈ [e, z, TI, TO, i1, i2], H b = none := fun b hb => (hf b hb).1
    have apart : ∀ {a : Addr} {zs : List V}, SqT X.K H a zs → ∀ b ∈ [e, z, TI, TO, i1, i2], a ≠ b := fun hq b hb => sqT_ne I hq (hf b hb)
    have ZA : ZipApart z TI TO i1 i2 a1 a2 := ⟨D.TIz, D.TOz, D.i1z, D.i2z, D.TITO, D.TIi1, D.TIi2, D.TOi1, D.TOi2, D.i12, apart hq1 _ (by simp), apart hq1 _ (by simp), apart hq1 _ (by simp), apart hq1 _ (by simp), apart hq2 _ (by simp), apart hq2 _ (by simp), apart hq2 _ (by simp), apart hq2 _ (by simp)⟩
    have hT : s.TypeIs (.ref e) "enumerate" := ⟨_, he, rfl⟩
    unfold pyNext
    refine wpAny_bind (wpAny_attempt (wpAny_callSpecial?_slot (name := Str.ofString "__next__") hT F.slot_enumerate_next (wpAny_call_entry F.slot_enumerate_next hT F.entry_enumerate_next (enum_draw he ?_) (F.args_enumerate_next_1 _))))
    refine nextZ_item ZA S t1 t2 (by simpa using hu1) (by simpa using hu2) fun h₁ S₁ hp₁ hz₁ hk₁ => ?_
    have he₁ : IsEnum h₁ e z i old := hk₁ _ _ D.ez D.eTO D.e1 D.e2 he
    refine ⟨h₁, s.toks, rfl, he₁, fun h' ho ht hk' => wpAny_pure ⟨_, rfl, ?_⟩⟩
    have lt : ∀ b ∈ [e, z, TI, TO, i1, i2], b < s.heap.objs.size := fun b hb => by
      obtain ⟨o, z', _⟩ := EZ.obj (⟨⟨old, he⟩, S⟩ : EZ e z TI TO i1 i2 a1 a2 i s.heap) b hb
      exact Heap.lt_size z'
    have I1 : Inv X pins σ (upd H s.heap.objs.size (.tup [x, y])) { s with heap := h₁, toks := s.toks } := by
      refine I.turnLaid (fp := [z, TO, i1, i2]) (fun b o hb q => hk₁ b o (fun r => hb (by simp [r])) (fun r => hb (by simp [r])) (fun r => hb (by simp [r])) (fun r => hb (by simp [r])) q) (fun b hb => ?_) (fun b hb => hf b ?_) (Nat.le_refl _) ?_
      · exact S₁.obj b hb
      · simp at hb ⊢
        rcases hb with h | h | h | h <;> simp [h]
      · exact ⟨by show 2 ≤ sizeLine; decide, [u1, u2], .cons ru1 (.cons ru2 .nil), ⟨_, hp₁, rfl, _, rfl⟩⟩
    have hno1 : ∀ b ∈ [e, z, TI, TO, i1, i2], (upd H s.heap.objs.size (.tup [x, y])) b = none := fun b hb => by rw [upd_ne (Nat.ne_of_lt (lt b hb))]; exact free b hb
    have hpn : (upd H s.heap.objs.size (.tup [x, y])) h₁.objs.size = none := I1.hok.fresh (Nat.le_refl _)
    have I2 : Inv X pins σ (upd (upd H s.heap.objs.size (.tup [x, y])) h₁.objs.size (.tup [.int i, .ref s.heap.objs.size])) { s with heap := h', toks := s.toks + 1 } := by
      refine Inv.turnLaid (s := { s with heap := h₁, toks := s.toks }) (fp := [e]) I1 (fun b o hb q => hk' b o (fun r => hb (by simp [r])) q) (fun b hb => ?_) (fun b hb => ?_) (Nat.le_refl _) ?_
      · cases List.mem_singleton.mp hb
        exact ⟨_, ho⟩
      · cases List.mem_singleton.mp hb
        exact (hf e (by simp)).upd (Nat.ne_of_lt (lt e (by simp)))
      · exact ⟨by show 2 ≤ sizeLine; decide, [.int i s.toks, .ref s.heap.objs.size], .cons ⟨_, rfl⟩ (.cons rfl .nil), ⟨_, ht, rfl, _, rfl⟩⟩
    have hno2 : ∀ b ∈ [e, z, TI, TO, i1, i2], (upd (upd H s.heap.objs.size (.tup [x, y])) h₁.objs.size (.tup [.int i, .ref s.heap.objs.size])) b = none := fun b hb => by
      rw [upd_ne (Nat.ne_of_lt (Nat.lt_of_lt_of_le (lt b hb) (by rw [hz₁]; exact Nat.le_succ _)))]
      exact hno1 b hb
    refine wpAny_letOwnedTupleGo_enum ho fun g2 he2 hs2 => ?_
    obtain ⟨f0, f1, f2, f3, f4, f5⟩ := hf e (by simp)
    refine ⟨.ref h₁.objs.size, _, I2.turned (t' := s.toks + 1) (fun b o hb q => (hs2.2 b hb).trans q) (hno2 e (by simp)) f1 f3 f4 f5, rfl, ⟨s.heap.objs.size, h₁.objs.size, x, y, I.hok.fresh (Nat.le_refl _), hpn, rfl, fun zs hz => by rw [I.tuple_inj hz hq1]; exact hx, fun zs hz => by rw [I.tuple_inj hz hq2]; exact hy, rfl⟩, ⟨⟨_, by simpa using he2⟩, ?_⟩, hno2⟩
    refine S₁.keep fun b hb o q => ?_
    have be : b ≠ e := by
      simp only [List.mem_cons, List.not_mem_nil, or_false] at hb
      rcases hb with rfl | rfl | rfl | rfl | rfl
      · exact D.ez.symm
      · exact D.eTI.symm
      · exact D.eTO.symm
      · exact D.e1.symm
      · exact D.e2.symm
    exact (hs2.2 b be).trans (hk' b o be q)
  done := by
    intro X hP hw hK hc i pins s σ H E I hf st hg
    subst hP hw hK
    obtain ⟨xs, ys, hq1, hq2, hend⟩ := hg
    obtain ⟨its1, rv1, p1, _⟩ := I.tuple hq1
    obtain ⟨its2, rv2, p2, _⟩ := I.tuple hq2
    have t1 : s.heap.IsTuple a1 its1.toArray := p1
    have t2 : s.heap.IsTuple a2 its2.toArray := p2
    obtain ⟨⟨old, he⟩, S⟩ := st
    have l1 := rv1.length
    have l2 := rv2.length
    have apart : ∀ {a : Addr} {zs : List V}, SqT X.K H a zs → ∀ b ∈ [e, z, TI, TO, i1, i2], a ≠ b := fun hq b hb => sqT_ne I hq (hf b hb)
    have ZA : ZipApart z TI TO i1 i2 a1 a2 := ⟨D.TIz, D.TOz, D.i1z, D.i2z, D.TITO, D.TIi1, D.TIi2, D.TOi1, D.TOi2, D.i12, apart hq1 _ (by simp), apart hq1 _ (by simp), apart hq1 _ (by simp), apart hq1 _ (by simp), apart hq2 _ (by simp), apart hq2 _ (by simp), apart hq2 _ (by simp), apart hq2 _ (by simp)⟩
    have hT : s.TypeIs (.ref e) "enumerate" := ⟨_, he, rfl⟩
    unfold pyNext
    refine wpAny_bind (wpAny_attempt (wpAny_callSpecial?_slot (name := Str.ofString "__next__") hT F.slot_enumerate_next (wpAny_call_entry F.slot_enumerate_next hT F.entry_enumerate_next ?_ (F.args_enumerate_next_1 _))))
    show wpAny _ _ (field (.ref e) 2 >>= _) _ _ _
    refine wpAny_bind (wpAny_field he rfl (x := .ref z) rfl (wpAny_bind (nextZ_end (A := X.A.in1) (I.ok.hd hc) ZA S t1 t2 (by simp; omega) fun g x' hk hx' => ?_)))
    obtain ⟨o, ho, hcl⟩ := hx'
    refine wpAny_bind (wpAny_isInstance (T := "StopIteration") (b := true) ⟨o, ho, hcl⟩ isSubtype_stop (wpAny_pure ⟨rfl, ?_⟩))
    exact I.turnedN (fp := [z, TO, i1, i2]) (fun b o hb q => hk b o (fun r => hb (by simp [r])) (fun r => hb (by simp [r])) (fun r => hb (by simp [r])) (fun r => hb (by simp [r])) q) (fun b hb => hf b (by simp at hb ⊢; rcases hb with h | h | h | h <;> simp [h]))
  self := fun _ _ _ _ _ st h => let ⟨_, he⟩ := st.1; wpAny_pyIter_enum he h
end L2

set_option Elab.async false
set_option linter.all false
set_option maxRecDepth 100000
set_option maxHeartbeats 4000000
namespace L2
open PySem PySem.Spec PyProof.Rows PySem.SeqAt
variable {X : Cx}
def iEnumZ (K : PySem.W.Frag) (ta : TA) : TI := fun σ H R => ta σ H fun vs H1 => ∃ a1 a2, vs = [.ref a1, .ref a2] ∧ (∃ xs, SqT K H1 a1 xs) ∧ (∃ ys, SqT K H1 a2 ys) ∧ R (Itz K a1 a2) H1
theorem bt_zip : bootBuiltins "zip" = some (.type "zip") := by decide +kernel
theorem pi_enumZ {elts : List Expr} {k1} {pt : Pos} {a b : Expr} {ta : TA} {p p2 pos pos2 : Pos} (hg : Gl X "enumerate") (hm : X.mg "enumerate" = none) (hg2 : Gl X "zip") (hm2 : X.mg "zip" = none) (ha : PA X [a, b] ta)
    (hs : starEach [a, b] X.env = (false, eval a X.env) :: starEach [b] X.env := by rfl) (hs1 : (backTo pos2 (starEach [b] X.env)).any (·.1) = false := by rfl)
    (hs2 : starEach [.Call (.Name "zip" p2) [a, b] [] pos2] X.env = (false, eval (.Call (.Name "zip" p2) [a, b] [] pos2) X.env) :: starEach [] X.env := by rfl) (hs3 : (backTo pos (starEach [] X.env)).any (·.1) = false := by rfl) :
    PI X (.Tuple elts k1 pt) (.Call (.Name "enumerate" p) [.Call (.Name "zip" p2) [a, b] [] pos2] [] pos) (iEnumZ X.K ta) := by
  intro pins s σ H R I h
  refine Call_ (ld_blt I hg hm bt_enumerate (PyProof.Rows.callWith_type1 ?_ hs2 hs3))
  rw [hs2]
  show wpAny _ _ (spliced ((false, eval (.Call (.Name "zip" p2) [a, b] [] pos2) X.env) :: backTo pos (starEach [] X.env))) _ _ s
  refine Calls.spliced_cons ?_
  refine wpAny_Call_Name_kw (ld_blt I hg2 hm2 bt_zip (PyProof.Rows.callWith_type1 (thn (ha pos2 pins s σ H _ I h) fun us s1 ⟨vs, H1, I1, r1, q1⟩ => ?_) hs hs1) (by decide) (by decide))
  obtain ⟨a1, a2, rfl, ⟨xs, hq1⟩, ⟨ys, hq2⟩, q⟩ := q1
  obtain ⟨u1, u2, rfl, e1, e2⟩ := vals2 r1
  cases (show u1 = Value.ref a1 from e1)
  cases (show u2 = Value.ref a2 from e2)
  obtain ⟨its1, rv1, p1, _⟩ := I1.tuple hq1
  obtain ⟨its2, rv2, p2', _⟩ := I1.tuple hq2
  refine call_zipT (show s1.heap.IsTuple a1 its1.toArray from p1) (show s1.heap.IsTuple a2 its2.toArray from p2') fun h₁ hz hTI hTO h1 h2 hsz hk => ?_
  refine Calls.spliced_nil ?_
  refine call_enumZ (s := { s1 with heap := h₁ }) hz fun g he hk2 => wpAny_pyIter_enum he ?_
  have hk3 : ∀ b o, s1.heap.get? b = some o → g.get? b = some o := fun b o e => hk2 _ _ (hk _ _ e)
  have eh : ({ s1 with heap := h₁ } : Shared).heap.objs.size = s1.heap.objs.size + 5 := hsz
  refine ⟨s1.heap.objs.size + 5, [s1.heap.objs.size + 5, s1.heap.objs.size + 4, s1.heap.objs.size + 2, s1.heap.objs.size + 3, s1.heap.objs.size, s1.heap.objs.size + 1], _, _, H1, ?_, I1.kept (t' := s1.toks) hk3, turn_enumZ a1 a2 _ _ _ _ _ _ ?_, ⟨⟨.none, ?_⟩, ⟨⟨_, _, hk2 _ _ hz, .inl rfl⟩, hk2 _ _ hTI, ⟨_, _, hk2 _ _ hTO⟩, h1.at fun o e => hk2 _ _ e, h2.at fun o e => hk2 _ _ e⟩⟩, fun b hb => ?_, q⟩
  · rw [hsz]
  · constructor <;> (intro z; have z' : (_ : Nat) = _ := z; omega)
  · rw [← hsz]; exact he
  · have hb' : s1.heap.objs.size ≤ b := by
      simp only [List.mem_cons, List.not_mem_nil, or_false] at hb
      rcases hb with rfl | rfl | rfl | rfl | rfl | rfl
      · exact Nat.le_add_right _ 5
      · exact Nat.le_add_right _ 4
      · exact Nat.le_add_right _ 2
      · exact Nat.le_add_right _ 3
      · exact Nat.le_refl _
      · exact Nat.le_add_right _ 1
    exact I1.fpOk hb' (I1.hok.fresh hb')
theorem for_enumZ {K : PySem.W.Frag} {a1 a2 : Addr} {xs ys : List V} {g : TG} {tb : TS} {D : Ends} {σ : St} {H : Hp} (Pv : Nat → St → Hp → Prop) (h0 : Pv 0 σ H) (hl : ∀ i σ H, i ≤ min xs.length ys.length → Pv i σ H → SqT K H a1 xs ∧ SqT K H a2 ys)
    (hs : ∀ i x y σ H q p, xs[i]? = some x → ys[i]? = some y → Pv i σ H → H q = none → upd H q (.tup [x, y]) p = none → g (.ref p) σ (upd (upd H q (.tup [x, y])) p (.tup [.int i, .ref q])) fun σ2 H2 => tb { D with nx := Pv (i + 1), ct := Pv (i + 1), bk := D.nx } σ2 H2)
    (hd : ∀ σ H, Pv (min xs.length ys.length) σ H → D.nx σ H) :
    ∃ W : Nat → Nat → St → Hp → Prop, (∃ m, W 0 m σ H) ∧ ∀ i m σ H, W i m σ H → ((Itz K a1 a2).stop i H ∧ D.nx σ H) ∨ ((Itz K a1 a2).go i H ∧ ∃ N : St → Hp → Prop, (∀ σ' H', N σ' H' → ∃ m', m' < m ∧ W (i + 1) m' σ' H') ∧ ∀ x H', (Itz K a1 a2).yld i H x H' → g x σ H' fun σ2 H2 => tb { D with nx := N, ct := N, bk := D.nx } σ2 H2) := by
  refine ⟨fun i m σ H => m = min xs.length ys.length - i ∧ i ≤ min xs.length ys.length ∧ Pv i σ H, ⟨min xs.length ys.length, by simp, Nat.zero_le _, h0⟩, ?_⟩
  rintro i m σ H ⟨rfl, hi, p⟩
  obtain ⟨q1, q2⟩ := hl i σ H hi p
  by_cases hlt : i < min xs.length ys.length
  · have l1 : i < xs.length := by omega
    have l2 : i < ys.length := by omega
    refine .inr ⟨⟨xs, ys, xs[i], ys[i], q1, q2, by simp [l1], by simp [l2]⟩, Pv (i + 1), fun σ' H' z => ⟨min xs.length ys.length - (i + 1), by omega, rfl, hlt, z⟩, ?_⟩
    rintro x H' ⟨q, p', y1, y2, hn, hn2, rfl, hy1, hy2, rfl⟩
    exact hs i y1 y2 σ H q p' (hy1 xs q1) (hy2 ys q2) p hn hn2
  · have e : i = min xs.length ys.length := by omega
    subst e
    exact .inl ⟨⟨xs, ys, q1, q2, by omega⟩, hd σ H p⟩
end L2

set_option Elab.async false
set_option linter.all false
set_option maxRecDepth 100000
set_option maxHeartbeats 4000000
namespace Cm
open PySem L2
def top (i : Nat) : Stmt := PySem.Challenge.pw_lanescribe_k03_values_looked_at.main.body.getD i (.Pass ⟨0, 0, 0, 0⟩)
/-! ### the drawer: cells, at, rest, seed -/
def drK (c : Addr) (a r s : Int) : List (Key × V) := [(.inr "cells", .ref c), (.inr "at", .int a), (.inr "rest", .int r), (.inr "seed", .int s)]
theorem pat {c : Addr} {a r s x : Int} : putK (drK c a r s) (.inr "at") (.int x) = drK c x r s := by rfl
theorem prest {c : Addr} {a r s x : Int} : putK (drK c a r s) (.inr "rest") (.int x) = drK c a x s := by rfl
theorem pseed {c : Addr} {a r s x : Int} : putK (drK c a r s) (.inr "seed") (.int x) = drK c a r x := by rfl
theorem gcells {H : Hp} {p c : Addr} {a r s : Int} (h : H p = some (.dK (drK c a r s))) : DGet H p (.str "cells") (some (.ref c)) := DGet.k (k := Sum.inr "cells") h
theorem gat {H : Hp} {p c : Addr} {a r s : Int} (h : H p = some (.dK (drK c a r s))) : DGet H p (.str "at") (some (.int a)) := DGet.k (k := Sum.inr "at") h
theorem grest {H : Hp} {p c : Addr} {a r s : Int} (h : H p = some (.dK (drK c a r s))) : DGet H p (.str "rest") (some (.int r)) := DGet.k (k := Sum.inr "rest") h
theorem gseed {H : Hp} {p c : Addr} {a r s : Int} (h : H p = some (.dK (drK c a r s))) : DGet H p (.str "seed") (some (.int s)) := DGet.k (k := Sum.inr "seed") h
abbrev Big : Int := 2305843009213693951
structure Dr (H : Hp) (p c : Addr) : Prop where
  ex : ∃ (ns : List Int) (a r s : Int), H p = some (.dK (drK c a r s)) ∧ H c = some (.lst (ns.map V.int)) ∧ ns.length ≤ 63 ∧ 0 ≤ a ∧ a ≤ ns.length ∧ 0 ≤ r ∧ 0 ≤ s ∧ s < Big
/-- but the drawer's dict, all is as it was -/
theorem Dr.mono {H H' : Hp} {p c : Addr} (d : Dr H p c) (h : Same H H') : Dr H' p c := by
  obtain ⟨ns, a, r, s, h1, h2, k⟩ := d.ex
  exact ⟨ns, a, r, s, h _ _ h1, h _ _ h2, k⟩
theorem Dr.ne {H : Hp} {p c q : Addr} {o : HO} (d : Dr H p c) (h : H q = some o) (hd : ∀ kvs, o ≠ .dK kvs) : q ≠ p := by
  obtain ⟨ns, a, r, s, h1, _⟩ := d.ex
  exact ne_of h h1 (hd _)
/-- another object than the drawer's own two is rewritten -/
theorem Dr.put {H : Hp} {p c q : Addr} {o : HO} (d : Dr H p c) (h1 : q ≠ p) (h2 : q ≠ c) : Dr (upd H q o) p c := by
  obtain ⟨ns, a, r, s, e1, e2, k⟩ := d.ex
  exact ⟨ns, a, r, s, by rw [upd_ne h1.symm]; exact e1, by rw [upd_ne h2.symm]; exact e2, k⟩
theorem Dr.cell {H : Hp} {p c : Addr} (d : Dr H p c) : ∃ xs, H c = some (.lst xs) := by
  obtain ⟨ns, a, r, s, e1, e2, k⟩ := d.ex
  exact ⟨_, e2⟩
theorem Dr.neN {H : Hp} {p c q : Addr} (d : Dr H p c) (h : H q = none) : p ≠ q := by
  obtain ⟨ns, a, r, s, h1, _⟩ := d.ex
  exact ne_of_none h1 h

structure Txt (K : PySem.W.Frag) (mg : Str → Option Value) : Prop where
  len : mg "len" = none
  range : mg "range" = none
  list : mg "list" = none
  tuple : mg "tuple" = none
  str : mg "str" = none
  bool : mg "bool" = none
  int : mg "int" = none
  min : mg "min" = none
  repr : mg "repr" = none
  all : mg "all" = none
  any : mg "any" = none
  isinstance : mg "isinstance" = none
section
variable {P : Program} {w : World} {K : PySem.W.Frag} {mg : Str → Option Value} {base : Heap}

/-! ### _law_begin -/
def spBegin (K : PySem.W.Frag) : Sp := fun vs H Q _ => ∃ (a : Addr) (ns : List Int), vs = [.ref a] ∧ SqL K H a (ns.map V.int) ∧ ns.length ≤ 63 ∧ ∀ (p c : Addr) (H' : Hp), Dr H' p c → Same H H' → H p = none → Q (.ref p) H'
theorem scB : FnScope ["_law_script", "_law_seed", "_law_cell"] ["_law_script"] (defScope (top 19)) := ⟨rfl, rfl, rfl, by decide +kernel, rfl, by decide +kernel, by decide +kernel⟩
theorem ok_begin {f : Addr} {fd : FuncData} (F : Fun K "_law_begin" "_law_begin" (top 19) f fd) (T : Txt K mg) : FnOk P w K mg base CX0 1 f fd ["_law_script"] (spBegin K) := by
  refine F.ok scB (fun vs H Q E h => ?_) (fun cdv A outer s H vs Q E hr h => ?_)
  · obtain ⟨a, ns, rfl, _⟩ := h
    rfl
  · obtain ⟨a, ns, rfl, hS, hlen, k⟩ := h
    refine ⟨_, (pss_cons (ps_set (i := 1) scB.nd rfl (Or.inl rfl) pe_int)
      (pss_cons (ps_for PassesOwn.never rfl (pi_list (pe_slice sl_list (pv 0) po_none (po_some pe_int))) (pg_name (i := 2) scB.nd rfl (Or.inl rfl))
        (pss_one (ps_set (i := 1) scB.nd rfl (Or.inl rfl) (pe_op op_mod (pe_op op_add (pe_op op_add (pe_op op_mul (pv 1) pe_int) (pe_op op_mul (pv 2) pe_int)) pe_int) pe_int))))
      (pss_one (ps_ret (pe_disp (pps_cons pe_str (pe_callTy call_list_of (by rfl) T.list bt_list (pa_cons (pe_slice sl_list (pv 0) po_none (po_some pe_int)) pa_nil)) (pps_cons pe_str pe_int (pps_cons pe_str pe_int (pps_cons pe_str (pv 1) pps_nil)))) rfl rfl (List.cons_ne_nil _ _) (by show 4 ≤ 15; decide)))))), ?_⟩
    have hcut : cutV (ns.map V.int) none (some 63) = ns.map V.int := by
      show ((ns.map V.int).drop (HT.sIx _ 0 none)).take (HT.sIx _ _ (some ((63 : Nat) : Int)) - HT.sIx _ 0 none) = _
      rw [HT.sIx_none, HT.sIx_nat, List.drop_zero, Nat.sub_zero, List.take_of_length_le]
      rw [List.length_map]; omega
    refine ⟨_, rfl, _, rfl, a, _, rfl, hS, fun q hq => ⟨q, rfl, ⟨_, SqL.of upd_same⟩, ?_⟩⟩
    rw [hcut]
    have hS' : ∀ o, SqL K (upd H q o) a (ns.map V.int) := fun o => (show Same H (upd H q o) from fun b u e => by rw [upd_ne (ne_of_none e hq)]; exact e).seq hS
    refine for_list (K := K) (a := q) (xs := ns.map V.int) (fun i σ H2 => ∃ (z : Int) (v : Option V), σ = [some (.ref a), some (.int z), v] ∧ 0 ≤ z ∧ z < Big ∧ H2 = upd H q (.lst (ns.map V.int)))
      ⟨20011, none, rfl, by decide, by decide, rfl⟩ (fun i σ H2 _ ⟨_, _, _, _, _, e⟩ => by rw [e]; exact SqL.of upd_same) ?_ ?_
    · rintro i y σ H2 hi ⟨z, v, rfl, h0, h1, rfl⟩
      obtain ⟨n, -, rfl⟩ := List.mem_map.mp (List.mem_of_getElem? hi)
      refine ⟨_, rfl, _, _, rfl, rfl, .inl ⟨by omega, by simp only [Big] at h1; omega⟩, _, rfl, _, _, rfl, rfl, .inr ⟨by decide, by decide⟩, _, _, rfl, rfl, _, _, rfl, rfl, _, _, rfl, rfl, (by show (0 : Int) < 2305843009213693951; decide), ?_⟩
      exact ⟨_, _, rfl, Int.emod_nonneg _ (by decide), Int.emod_lt_of_pos _ (by decide), rfl⟩
    · rintro σ H2 ⟨z, v, rfl, h0, h1, rfl⟩
      intro p hp
      have s1 : Same H (upd (upd H q (.lst (ns.map V.int))) p (.dK [])) := (Same.new hq).trans (Same.new hp)
      refine ⟨_, rfl, _, rfl, a, _, rfl, s1.seq hS, fun q2 hq2 => ⟨q2, _, rfl, .inl (SqL.of upd_same), fun l hl => ⟨_, rfl, ?_, drK l 0 0 z, rfl, by show 4 ≤ 15; decide, ?_⟩⟩⟩
      · exact (Same.new hl) _ _ ((Same.new hq2) _ _ upd_same)
      · rw [hcut]
        have hpl : (upd (upd (upd (upd H q (.lst (ns.map V.int))) p (.dK [])) q2 (.lst (ns.map V.int))) l (.lst (ns.map V.int))) p = some (.dK []) := (Same.new (by rw [hcut] at hl; exact hl)) _ _ ((Same.new hq2) _ _ upd_same)
        have hlp : l ≠ p := ne_of upd_same hpl (by intro z; cases z)
        refine k p l _ ⟨ns, 0, 0, z, upd_same, by rw [upd_ne hlp]; exact upd_same, hlen, by decide, by omega, by decide, h0, h1⟩ ?_ ((Same.new hq).free hp)
        intro b u e
        have e1 := ((Same.new (q := l) (o := .lst (ns.map V.int)) (by rw [hcut] at hl; exact hl)) _ _ ((Same.new hq2) _ _ (s1 b u e)))
        rw [upd_ne (ne_of_none ((Same.new hq) b u e) hp)]
        exact e1

/-! ### _law_pick -/
def spPick : Sp := fun vs H Q _ => ∃ (p c : Addr) (m : Int), vs = [.ref p, .int m] ∧ Dr H p c ∧ 0 < m ∧ m < 340282366920938463463374607431768211456 ∧ ∀ (r : Int) (H' : Hp), 0 ≤ r → r < m → Dr H' p c → But p H H' → Q (.int r) H'
theorem scP : FnScope ["_law_d", "_law_many", "_law_cell", "_law_digit", "_law_one"] ["_law_d", "_law_many"] (defScope (top 20)) := ⟨rfl, rfl, rfl, by decide +kernel, rfl, by decide +kernel, by decide +kernel⟩
theorem ok_pick {f : Addr} {fd : FuncData} (F : Fun K "_law_pick" "_law_pick" (top 20) f fd) (T : Txt K mg) : FnOk P w K mg base CX0 1 f fd ["_law_d", "_law_many"] spPick := by
  refine F.ok scP (fun vs H Q E h => ?_) (fun cdv A outer s H vs Q E hr h => ?_)
  · obtain ⟨p, c, m, rfl, _⟩ := h
    rfl
  · obtain ⟨p, c, m, rfl, D, m0, m1, k⟩ := h
    have hu := hu_of hr
    refine ⟨_, (pss_cons
  (ps_if (PW.pt (pw_and (pt_cmpR op_eq (pe_dget hu (pv 0) pe_str (fun _ _ => rfl)) pe_int (nomark _)) (pw_and1 (pt_cmpR op_lt (pe_dget hu (pv 0) pe_str (fun _ _ => rfl)) (pe_callB call_len_seq (by rfl) T.len bt_len (pa_cons (pe_dget hu (pv 0) pe_str (fun _ _ => rfl)) pa_nil)) (nomark _))))) (pss_cons
  (ps_set (i := 2) scP.nd rfl (Or.inl rfl) (pe_ix ix_list (pe_dget hu (pv 0) pe_str (fun _ _ => rfl)) (pe_dget hu (pv 0) pe_str (fun _ _ => rfl)) (fun _ _ => rfl)))
  (pss_cons
  (ps_dput hu (pv 0) pe_str (pe_op op_add (pe_dget hu (pv 0) pe_str (fun _ _ => rfl)) pe_int) rfl)
  (pss_one
  (ps_if (pt_cmpR op_ge (pv 2) (pe_op op_pow pe_int pe_int) (nomark _)) (pss_one
  (ps_dput hu (pv 0) pe_str (pv 2) rfl)) (pss_one
  (ps_dput hu (pv 0) pe_str (pe_op op_mod (pe_op op_add (pe_op op_add (pe_op op_mul (pe_dget hu (pv 0) pe_str (fun _ _ => rfl)) pe_int) (pe_op op_mul (pv 2) pe_int)) pe_int) pe_int) rfl)))))) pss_nil)
  (pss_cons
  (ps_if (pt_cmpR op_gt (pe_dget hu (pv 0) pe_str (fun _ _ => rfl)) pe_int (nomark _)) (pss_cons
  (ps_set (i := 3) scP.nd rfl (Or.inl rfl) (pe_op op_mod (pe_dget hu (pv 0) pe_str (fun _ _ => rfl)) (pv 1)))
  (pss_cons
  (ps_dput hu (pv 0) pe_str (pe_op op_fdivW (pe_dget hu (pv 0) pe_str (fun _ _ => rfl)) (pv 1)) rfl)
  (pss_one
  (ps_ret (pv 3))))) pss_nil)
  (pss_cons
  (ps_set (i := 4) scP.nd rfl (Or.inl rfl) (pe_op op_mod (pe_op op_mul (pe_dget hu (pv 0) pe_str (fun _ _ => rfl)) (pe_dget hu (pv 0) pe_str (fun _ _ => rfl))) pe_int))
  (pss_cons
  (ps_dput hu (pv 0) pe_str (pe_op op_mod (pe_op op_add (pe_op op_add (pe_op op_mul (pv 4) pe_int) (pe_op op_mul (pe_dget hu (pv 0) pe_str (fun _ _ => rfl)) pe_int)) pe_int) pe_int) rfl)
  (pss_one
  (ps_ret (pe_op op_mod (pe_op op_fdiv (pe_dget hu (pv 0) pe_str (fun _ _ => rfl)) pe_int) (pv 1)))))))), ?_⟩
    obtain ⟨ns, a, r, sd, h1, h2, hl, a0, a1, r0, s0, s1⟩ := D.ex
    have npc : c ≠ p := ne_of h2 h1 (by intro z; cases z)
    have small : ∀ {x y z : Int}, (drK c x y z).length < sizeLine := fun {x y z} => small1000 (by show 4 ≤ 1000; decide)
    -- behind the first if: the drawer again, cells and place moved on
    refine seq_by (fun σ' H' => ∃ (a' r' sd' : Int) (v : Option V), σ' = [some (.ref p), some (.int m), v, none, none] ∧ H' p = some (.dK (drK c a' r' sd')) ∧ But p H H' ∧ 0 ≤ a' ∧ a' ≤ ns.length ∧ 0 ≤ r' ∧ 0 ≤ sd' ∧ sd' < Big) ?_ ?_
    · rintro σ' H1 ⟨a', r', sd', v, rfl, e1, bt, b0, b1, c0, d0, d1⟩
      have hc1 : ∀ o, (upd H1 p o) c = some (.lst (ns.map V.int)) := fun o => by rw [upd_ne npc]; exact bt c _ h2 npc
      refine ⟨_, rfl, p, _, rfl, grest e1, _, _, rfl, rfl, _, rfl, ?_⟩
      refine ite2 (fun hpos => ?_) (fun _ => ?_)
      · refine ⟨_, rfl, p, _, rfl, grest e1, _, rfl, _, _, rfl, rfl, m0, ?_⟩
        refine ⟨_, rfl, p, _, rfl, grest e1, _, rfl, _, _, rfl, rfl, ⟨m0, m1⟩, _, rfl, p, _, rfl, DPut.k (k := Sum.inr "rest") e1 small, _, rfl, ?_⟩
        rw [prest]
        exact k _ _ (Int.emod_nonneg _ (by omega)) (Int.emod_lt_of_pos _ m0) ⟨ns, a', r' / m, sd', upd_same, hc1 _, hl, b0, b1, Int.ediv_nonneg c0 (by omega), d0, d1⟩ (bt.trans But.upd)
      · have sq : CMul sd' sd' := .inl ⟨by omega, by simp only [Big] at d1; omega⟩
        refine ⟨_, rfl, p, _, rfl, gseed e1, _, rfl, p, _, rfl, gseed e1, _, _, rfl, rfl, sq, _, _, rfl, rfl, (by show (0 : Int) < 2305843009213693951; decide), ?_⟩
        have u0 := Int.emod_nonneg (sd' * sd') (show (2305843009213693951 : Int) ≠ 0 by decide)
        have u1 := Int.emod_lt_of_pos (sd' * sd') (show (0 : Int) < 2305843009213693951 by decide)
        refine ⟨_, rfl, _, _, rfl, rfl, .inr ⟨by decide, by decide⟩, _, rfl, p, _, rfl, gseed e1, _, _, rfl, rfl, .inr ⟨by decide, by decide⟩, _, _, rfl, rfl, _, _, rfl, rfl, _, _, rfl, rfl, (by show (0 : Int) < 2305843009213693951; decide), _, rfl, p, _, rfl, DPut.k (k := Sum.inr "seed") e1 small, ?_⟩
        rw [pseed]
        generalize hsd : (sd' * sd' % 2305843009213693951 * 7 + sd' * 40503 + 12345) % 2305843009213693951 = sn
        have v0 : 0 ≤ sn := hsd ▸ Int.emod_nonneg _ (by decide)
        have v1 : sn < Big := hsd ▸ Int.emod_lt_of_pos _ (by decide)
        refine ⟨_, rfl, p, _, rfl, gseed upd_same, _, _, rfl, rfl, ⟨by decide, by decide⟩, _, rfl, _, _, rfl, rfl, m0, ?_⟩
        exact k _ _ (Int.emod_nonneg _ (by omega)) (Int.emod_lt_of_pos _ m0) ⟨ns, a', r', sn, upd_same, hc1 _, hl, b0, b1, c0, v0, v1⟩ (bt.trans But.upd)
    · intro N hN
      refine ⟨_, rfl, p, _, rfl, grest h1, rfl, _, rfl, ?_⟩
      refine ite2 (fun hz => ?_) (fun _ => ?_)
      · refine ⟨_, rfl, p, _, rfl, gat h1, _, rfl, p, _, rfl, gcells h1, c, _, rfl, .inl (SqL.of h2), _, _, rfl, rfl, _, rfl, ?_⟩
        rw [List.length_map]
        refine ite2 (fun hlt => ?_) (fun _ => ?_)
        · have hlt : a < ns.length := of_decide_eq_true hlt
          obtain ⟨z, hz'⟩ : ∃ z, ns[a.toNat]? = some z := ⟨_, List.getElem?_eq_getElem (by omega)⟩
          have hat : atI (ns.map V.int) a = some (.int z) := by
            have e : (a : Int) = ((a.toNat : Nat) : Int) := by omega
            rw [e]
            refine atI_nat ?_
            rw [List.getElem?_map, hz']; rfl
          refine ⟨_, rfl, p, _, rfl, gcells h1, _, rfl, p, _, rfl, gat h1, c, _, _, _, rfl, rfl, SqL.of h2, hat, ?_⟩
          refine ⟨_, rfl, p, _, rfl, gat h1, _, _, rfl, rfl, _, rfl, p, _, rfl, DPut.k (k := Sum.inr "at") h1 small, ?_⟩
          rw [pat]
          refine ⟨_, rfl, _, _, rfl, rfl, ⟨by decide, by decide, by decide⟩, _, _, rfl, rfl, _, rfl, ?_⟩
          refine ite2 (fun hge => ?_) (fun _ => ?_)
          · refine ⟨_, rfl, _, rfl, p, _, rfl, DPut.k (k := Sum.inr "rest") upd_same small, ?_⟩
            rw [prest]
            have hge : (10 : Int) ^ 18 ≤ z := of_decide_eq_true hge
            exact hN _ _ ⟨a + 1, z, sd, _, rfl, upd_same, But.upd.trans But.upd, by omega, by omega, by omega, s0, s1⟩
          · refine ⟨_, rfl, p, _, rfl, gseed upd_same, _, _, rfl, rfl, .inr ⟨by decide, by decide⟩, _, rfl, _, _, rfl, rfl, .inr ⟨by decide, by decide⟩, _, _, rfl, rfl, _, _, rfl, rfl, _, _, rfl, rfl, (by show (0 : Int) < 2305843009213693951; decide), _, rfl, p, _, rfl, DPut.k (k := Sum.inr "seed") upd_same small, ?_⟩
            rw [pseed]
            exact hN _ _ ⟨a + 1, r, _, _, rfl, upd_same, But.upd.trans But.upd, by omega, by omega, r0, Int.emod_nonneg _ (by decide), Int.emod_lt_of_pos _ (by decide)⟩
        · exact hN _ _ ⟨a, r, sd, _, rfl, h1, But.refl, a0, a1, r0, s0, s1⟩
      · exact hN _ _ ⟨a, r, sd, _, rfl, h1, But.refl, a0, a1, r0, s0, s1⟩
end
end Cm

set_option Elab.async false
set_option linter.all false
set_option maxRecDepth 100000
set_option maxHeartbeats 4000000
namespace Cm
open PySem L2
section
variable {P : Program} {w : World} {K : PySem.W.Frag} {mg : Str → Option Value} {base : Heap}
theorem Dr.dk {H : Hp} {p c : Addr} (d : Dr H p c) : ∃ kvs, H p = some (.dK kvs) := by
  obtain ⟨ns, a, r, s, h1, _⟩ := d.ex
  exact ⟨_, h1⟩
theorem Dr.seq {H H' : Hp} {p c a : Addr} {xs : List V} (d : Dr H p c) (e : But p H H') (h : SqL K H a xs) : SqL K H' a xs := let ⟨_, hp⟩ := d.dk; e.seq hp h
/-- a new object beside -/
theorem Dr.new {H : Hp} {p c q : Addr} {o : HO} (d : Dr H p c) (h : H q = none) : Dr (upd H q o) p c := d.mono (Same.new h)

/-! ### _law_of -/
def spOf (K : PySem.W.Frag) : Sp := fun vs H Q _ => ∃ (p c q : Addr) (xs : List V), vs = [.ref p, .ref q] ∧ Dr H p c ∧ SqL K H q xs ∧ xs ≠ [] ∧ xs.length ≤ 1000 ∧ ∀ (x : V) (H' : Hp), x ∈ xs → Dr H' p c → But p H H' → Q x H'
theorem scO : FnScope ["_law_d", "_law_things"] ["_law_d", "_law_things"] (defScope (top 21)) := ⟨rfl, rfl, rfl, by decide +kernel, rfl, by decide +kernel, by decide +kernel⟩
theorem ok_of {f fP : Addr} {fd fdP : FuncData} (F : Fun K "_law_of" "_law_of" (top 21) f fd) (T : Txt K mg) (DP : Def K mg "_law_pick" (top 20) ["_law_d", "_law_many"] fP fdP) : FnOk P w K mg base CX0 2 f fd ["_law_d", "_law_things"] (spOf K) := by
  have GP : FnOk P w K mg base CX0 1 fP fdP ["_law_d", "_law_many"] spPick := ok_pick DP.F T
  refine F.ok scO (fun vs H Q E h => ?_) (fun cdv A outer s H vs Q E hr h => ?_)
  · obtain ⟨p, c, q, xs, rfl, _⟩ := h
    rfl
  · obtain ⟨p, c, q, xs, rfl, D, hq, hne, hl, k⟩ := h
    refine ⟨_, (pss_one (ps_ret (pe_ix ix_list (pv 1) (pe_call GP hr rfl DP.mg DP.F.kp DP.b .nil pass0 (pa_cons (pv 0) (pa_cons (pe_callB call_len_seq (by rfl) T.len bt_len (pa_cons (pv 1) pa_nil)) pa_nil))) (fun _ _ => rfl)))), ?_⟩
    have hpos : 0 < xs.length := List.length_pos_iff.mpr hne
    refine ⟨_, rfl, _, rfl, _, rfl, q, xs, rfl, (.inl hq), p, c, _, rfl, D, by omega, by omega, fun r H' r0 r1 D' bt => ?_⟩
    obtain ⟨j, rfl⟩ := Int.eq_ofNat_of_zero_le r0
    have hx : j < xs.length := by omega
    exact ⟨q, xs, _, xs[j], rfl, rfl, D.seq bt hq, atI_nat (List.getElem?_eq_getElem hx), k _ _ (List.getElem_mem hx) D' bt⟩

/-! ### _law_same: True of two things that stand for one datum -/
def spS (K : PySem.W.Frag) : Nat → Sp
  | 0 => fun _ _ _ _ => False
  | n + 1 => fun vs H Q _ => ∃ (x y : V) (d : PyData), vs = [x, y] ∧ Rep K H x d ∧ Rep K H y d ∧ pdDep d ≤ n ∧ pdMax d ≤ 1000 ∧ ∀ H' : Hp, Same H H' → Q (.bl true) H'
theorem scS : FnScope ["_law_found", "_law_due"] ["_law_found", "_law_due"] (defScope (top 23)) := ⟨rfl, rfl, rfl, by decide +kernel, rfl, by decide +kernel, by decide +kernel⟩
theorem bl_true {Q : VK} {v : V} {H : Hp} (h : Q (.bl true) H) : Q (.bl (decide (v = v))) H := by rw [decide_eq_true rfl]; exact h
theorem ok_same {f : Addr} {fd : FuncData} (DS : Def K mg "_law_same" (top 23) ["_law_found", "_law_due"] f fd) (T : Txt K mg) (n : Nat) : FnOk P w K mg base CX0 n f fd ["_law_found", "_law_due"] (spS K n) := by
  refine Nat.rec (motive := fun n => FnOk P w K mg base CX0 n f fd ["_law_found", "_law_due"] (spS K n)) ⟨fun _ _ _ _ h => h.elim, fun _ _ _ _ _ _ _ _ _ _ _ _ _ h => h.elim⟩ (fun n GS => ?_) n
  refine DS.F.ok scS (fun vs H Q E h => ?_) (fun cdv A outer s H vs Q E hr h => ?_)
  · obtain ⟨x, y, d, rfl, _⟩ := h
    rfl
  · obtain ⟨x, y, d, rfl, hx, hy, hn, hm, k⟩ := h
    refine ⟨_, (pss_cons
  (ps_if (pt_cmpR op_isN (pv 1) pe_non (nomark _)) (pss_one
  (ps_ret (pe_cmpR op_isN (pv 0) pe_non (nomark _)))) pss_nil)
  (pss_cons
  (ps_if (PW.pt (pw_or (pt_val (pe_callB call_isT (by rfl) T.isinstance bt_isinstance (pa_cons (pv 1) (pa_cons (pe_ty rfl T.bool bt_bool) pa_nil)))) (pw_or1 (pt_val (pe_callB call_isT (by rfl) T.isinstance bt_isinstance (pa_cons (pv 0) (pa_cons (pe_ty rfl T.bool bt_bool) pa_nil))))))) (pss_one
  (ps_ret (pe_and (pe_callB call_isT (by rfl) T.isinstance bt_isinstance (pa_cons (pv 1) (pa_cons (pe_ty rfl T.bool bt_bool) pa_nil))) (pe_and (pe_callB call_isT (by rfl) T.isinstance bt_isinstance (pa_cons (pv 0) (pa_cons (pe_ty rfl T.bool bt_bool) pa_nil))) (pe_one (pe_cmpR op_eq (pv 0) (pv 1) (nomark _))))))) pss_nil)
  (pss_cons
  (ps_if (pt_val (pe_callB call_isT2 (by rfl) T.isinstance bt_isinstance (pa_cons (pv 1) (pa_cons (pe_tup (pa_cons (pe_ty rfl T.int bt_int) (pa_cons (pe_ty rfl T.str bt_str) pa_nil))) pa_nil)))) (pss_one
  (ps_ret (pe_and (pe_callB call_isT2 (by rfl) T.isinstance bt_isinstance (pa_cons (pv 0) (pa_cons (pe_tup (pa_cons (pe_ty rfl T.int bt_int) (pa_cons (pe_ty rfl T.str bt_str) pa_nil))) pa_nil))) (pe_and (pe_cmpR op_eq (pe_callB call_isT (by rfl) T.isinstance bt_isinstance (pa_cons (pv 0) (pa_cons (pe_ty rfl T.int bt_int) pa_nil))) (pe_callB call_isT (by rfl) T.isinstance bt_isinstance (pa_cons (pv 1) (pa_cons (pe_ty rfl T.int bt_int) pa_nil))) (nomark _)) (pe_one (pe_cmpR op_eq (pv 0) (pv 1) (nomark _))))))) pss_nil)
  (pss_cons
  (ps_if (PW.pt (pw_or (pt_cmpR op_ne (pe_callB call_isT (by rfl) T.isinstance bt_isinstance (pa_cons (pv 1) (pa_cons (pe_ty rfl T.list bt_list) pa_nil))) (pe_callB call_isT (by rfl) T.isinstance bt_isinstance (pa_cons (pv 0) (pa_cons (pe_ty rfl T.list bt_list) pa_nil))) (nomark _)) (pw_or1 (pt_cmpR op_ne (pe_callB call_isT (by rfl) T.isinstance bt_isinstance (pa_cons (pv 1) (pa_cons (pe_ty rfl T.tuple bt_tuple) pa_nil))) (pe_callB call_isT (by rfl) T.isinstance bt_isinstance (pa_cons (pv 0) (pa_cons (pe_ty rfl T.tuple bt_tuple) pa_nil))) (nomark _))))) (pss_one
  (ps_ret pe_bl)) pss_nil)
  (pss_one
  (ps_ret (pe_and (pe_cmpR op_eq (pe_callB call_len_seq (by rfl) T.len bt_len (pa_cons (pv 0) pa_nil)) (pe_callB call_len_seq (by rfl) T.len bt_len (pa_cons (pv 1) pa_nil)) (nomark _)) (pe_one (pe_callB (call_allB rfl) (by rfl) T.all bt_all (pa_cons (pe_comp (own := ["_law_k"]) (js := [0, 1]) (N' := ["_law_k", "_law_found", "_law_due"]) (CompScope.of (osc := defScope (top 23)) (N := ["_law_found", "_law_due"]) rfl rfl ⟨rfl, by decide +kernel, by decide +kernel, by decide +kernel, rfl, by decide +kernel⟩) rfl (pi_range1 rfl T.range (pa_cons (pe_callB call_len_seq (by rfl) T.len bt_len (pa_cons (pv 1) pa_nil)) pa_nil)) (fun _ _ _ _ _ => (pg_name (i := 0) (show List.Nodup (["_law_k", "_law_found", "_law_due"] : List Str) by decide +kernel) rfl (Or.inl rfl) (Or.inr rfl))) (fun _ _ _ _ _ => pifs_nil) (fun _ _ _ _ _ => (pe_call GS hr rfl DS.mg DS.F.kp DS.b .nil pass0 (pa_cons (pe_ix (r := rIx K) ix_seq (pv 1) (pv 0) (fun _ _ => rfl)) (pa_cons (pe_ix (r := rIx K) ix_seq (pv 2) (pv 0) (fun _ _ => rfl)) pa_nil))))) pa_nil)))))))))), ?_⟩
    have z2 : 2 ≤ sizeLine := by decide
    cases hx with
    | non =>
      cases hy
      refine ⟨_, rfl, rfl, _, rfl, ifT rfl ?_⟩
      exact ⟨_, rfl, rfl, k _ (Same.refl _)⟩
    | bl b =>
      cases hy
      refine ⟨_, rfl, rfl, _, rfl, ifF rfl ?_⟩
      refine ⟨_, rfl, _, _, _, _, rfl, (.bl b), rfl, _, rfl, ifT rfl (ifT rfl ?_)⟩
      exact ⟨_, rfl, _, _, _, _, rfl, (.bl b), rfl, _, rfl, ifT rfl ⟨_, rfl, _, _, _, _, rfl, (.bl b), rfl, _, rfl, ifT rfl ⟨_, rfl, _, rfl, rfl, bl_true (k _ (Same.refl _))⟩⟩⟩
    | int i =>
      cases hy
      refine ⟨_, rfl, rfl, _, rfl, ifF rfl ?_⟩
      refine ⟨_, rfl, _, _, _, _, rfl, (.int i), rfl, _, rfl, ifF rfl ?_⟩
      refine ⟨_, rfl, _, _, _, _, rfl, (.int i), rfl, _, rfl, ifF rfl ?_⟩
      refine ⟨_, rfl, z2, fun p hp => ⟨_, p, _, _, _, _, rfl, upd_same, .int i, rfl, _, rfl, ifT rfl ?_⟩⟩
      refine ⟨_, rfl, z2, fun p2 hp2 => ⟨_, p2, _, _, _, _, rfl, upd_same, .int i, rfl, _, rfl, ifT rfl ?_⟩⟩
      refine ⟨_, rfl, _, _, _, _, rfl, .int i, rfl, _, rfl, _, _, _, _, rfl, .int i, rfl, rfl, _, rfl, ?_⟩
      exact ifT rfl ⟨_, rfl, _, rfl, rfl, bl_true (k _ ((Same.new hp).trans (Same.new hp2)))⟩
    | str z =>
      cases hy
      refine ⟨_, rfl, rfl, _, rfl, ifF rfl ?_⟩
      refine ⟨_, rfl, _, _, _, _, rfl, (.str z), rfl, _, rfl, ifF rfl ?_⟩
      refine ⟨_, rfl, _, _, _, _, rfl, (.str z), rfl, _, rfl, ifF rfl ?_⟩
      refine ⟨_, rfl, z2, fun p hp => ⟨_, p, _, _, _, _, rfl, upd_same, .str z, rfl, _, rfl, ifT rfl ?_⟩⟩
      refine ⟨_, rfl, z2, fun p2 hp2 => ⟨_, p2, _, _, _, _, rfl, upd_same, .str z, rfl, _, rfl, ifT rfl ?_⟩⟩
      refine ⟨_, rfl, _, _, _, _, rfl, .str z, rfl, _, rfl, _, _, _, _, rfl, .str z, rfl, rfl, _, rfl, ?_⟩
      exact ifT rfl ⟨_, rfl, _, rfl, rfl, bl_true (k _ ((Same.new hp).trans (Same.new hp2)))⟩
    | tup g rs =>
      cases hy with
      | tup g2 rs2 =>
        rename_i a1 xs1 ds a2 xs2
        refine ⟨_, rfl, rfl, _, rfl, ifF rfl ?_⟩
        refine ⟨_, rfl, _, _, _, _, rfl, (.tup g2 rs2), rfl, _, rfl, ifF rfl ?_⟩
        refine ⟨_, rfl, _, _, _, _, rfl, (.tup g rs), rfl, _, rfl, ifF rfl ?_⟩
        refine ⟨_, rfl, z2, fun p hp => ⟨_, p, _, _, _, _, rfl, upd_same, Rep.same (.tup g2 rs2) (Same.new hp), rfl, _, rfl, ifF rfl ?_⟩⟩
        have s1 : Same H (upd H p (.tup [.ty "int", .ty "str"])) := Same.new hp
        refine ⟨_, rfl, _, _, _, _, rfl, (Rep.same (.tup g2 rs2) s1), rfl, _, rfl, _, _, _, _, rfl, (Rep.same (.tup g rs) s1), rfl, rfl, _, rfl, ifF rfl ?_⟩
        refine ⟨_, rfl, _, _, _, _, rfl, (Rep.same (.tup g2 rs2) s1), rfl, _, rfl, _, _, _, _, rfl, (Rep.same (.tup g rs) s1), rfl, rfl, _, rfl, ifF rfl ?_⟩
        refine ⟨_, rfl, _, _, rfl, .inr (s1.tup g), _, rfl, _, _, rfl, .inr (s1.tup g2), rfl, _, rfl, ?_⟩
        have l1 := rs.length
        have l2 := rs2.length
        have hm' : xs2.length ≤ 1000 := by simp only [pdMax] at hm; omega
        have hl : xs1.length = xs2.length := by omega
        generalize upd H p (.tup [.ty "int", .ty "str"]) = H1 at s1 ⊢
        refine ifT (by rw [hl]; simp) ?_
        obtain ⟨n, rfl⟩ : ∃ n', n = n' + 1 := ⟨n - 1, by simp only [pdDep] at hn; omega⟩
        refine ⟨_, rfl, _, _, rfl, .inr (s1.tup g2), _, rfl, by omega, by omega, ?_⟩
        refine comp_range (n := xs2.length) (fun i ys σ' H' => ∃ (v : Option V), ys = (List.replicate i true).map V.bl ∧ σ' = [v, some _, some _] ∧ Same H1 H') (by exact Nat.le_trans hm' (by decide)) ⟨none, rfl, rfl, Same.refl _⟩ ?_ ?_
        · rintro i ys σ' H' hi hys ⟨v, rfl, rfl, s2⟩ N hN
          obtain ⟨d1, e1, r1⟩ := rs.get' (i := i) (x := xs1[i]) (List.getElem?_eq_getElem (by omega))
          obtain ⟨d2, e2, r2⟩ := rs2.get' (i := i) (x := xs2[i]) (List.getElem?_eq_getElem hi)
          rw [e1] at e2
          cases e2
          have m1 := List.mem_of_getElem? e1
          have q1 := pdDep_le m1
          have q2 := pdMax_le m1
          have at1 : atI xs1 (0 + (i : Int)) = some xs1[i] := by rw [Int.zero_add]; exact atI_nat (List.getElem?_eq_getElem (by omega))
          have at2 : atI xs2 (0 + (i : Int)) = some xs2[i] := by rw [Int.zero_add]; exact atI_nat (List.getElem?_eq_getElem hi)
          refine ⟨_, rfl, _, rfl, .inr (.inl ⟨_, _, _, _, rfl, rfl, (s1.trans s2).tup g, at1, ?_⟩)⟩
          refine ⟨_, rfl, _, rfl, .inr (.inl ⟨_, _, _, _, rfl, rfl, (s1.trans s2).tup g2, at2, ?_⟩)⟩
          refine ⟨_, _, d1, rfl, r1.same (s1.trans s2), r2.same (s1.trans s2), ?_, ?_, fun H'' s3 => ?_⟩
          · simp only [pdDep] at hn; omega
          · simp only [pdMax] at hm; omega
          exact hN _ _ _ (by simp) ⟨_, by rw [List.replicate_succ', List.map_append]; rfl, rfl, s2.trans s3⟩
        · rintro ys σ' H' hys ⟨v, rfl, rfl, s2⟩
          refine ⟨by rw [List.length_map, List.length_replicate]; exact Nat.le_trans hm' (by decide), fun q hq => ⟨q, _, rfl, SqL.of upd_same, ?_⟩⟩
          show Q (.bl ((List.replicate xs2.length true).all id)) _
          rw [show (List.replicate xs2.length true).all id = true by simp]
          exact k _ ((s1.trans s2).trans (Same.new hq))
    | lst g rs =>
      cases hy with
      | lst g2 rs2 =>
        rename_i a1 xs1 ds a2 xs2
        refine ⟨_, rfl, rfl, _, rfl, ifF rfl ?_⟩
        refine ⟨_, rfl, _, _, _, _, rfl, (.lst g2 rs2), rfl, _, rfl, ifF rfl ?_⟩
        refine ⟨_, rfl, _, _, _, _, rfl, (.lst g rs), rfl, _, rfl, ifF rfl ?_⟩
        refine ⟨_, rfl, z2, fun p hp => ⟨_, p, _, _, _, _, rfl, upd_same, Rep.same (.lst g2 rs2) (Same.new hp), rfl, _, rfl, ifF rfl ?_⟩⟩
        have s1 : Same H (upd H p (.tup [.ty "int", .ty "str"])) := Same.new hp
        refine ⟨_, rfl, _, _, _, _, rfl, (Rep.same (.lst g2 rs2) s1), rfl, _, rfl, _, _, _, _, rfl, (Rep.same (.lst g rs) s1), rfl, rfl, _, rfl, ifF rfl ?_⟩
        refine ⟨_, rfl, _, _, _, _, rfl, (Rep.same (.lst g2 rs2) s1), rfl, _, rfl, _, _, _, _, rfl, (Rep.same (.lst g rs) s1), rfl, rfl, _, rfl, ifF rfl ?_⟩
        refine ⟨_, rfl, _, _, rfl, .inl (s1.seq g), _, rfl, _, _, rfl, .inl (s1.seq g2), rfl, _, rfl, ?_⟩
        have l1 := rs.length
        have l2 := rs2.length
        have hm' : xs2.length ≤ 1000 := by simp only [pdMax] at hm; omega
        have hl : xs1.length = xs2.length := by omega
        generalize upd H p (.tup [.ty "int", .ty "str"]) = H1 at s1 ⊢
        refine ifT (by rw [hl]; simp) ?_
        obtain ⟨n, rfl⟩ : ∃ n', n = n' + 1 := ⟨n - 1, by simp only [pdDep] at hn; omega⟩
        refine ⟨_, rfl, _, _, rfl, .inl (s1.seq g2), _, rfl, by omega, by omega, ?_⟩
        refine comp_range (n := xs2.length) (fun i ys σ' H' => ∃ (v : Option V), ys = (List.replicate i true).map V.bl ∧ σ' = [v, some _, some _] ∧ Same H1 H') (by exact Nat.le_trans hm' (by decide)) ⟨none, rfl, rfl, Same.refl _⟩ ?_ ?_
        · rintro i ys σ' H' hi hys ⟨v, rfl, rfl, s2⟩ N hN
          obtain ⟨d1, e1, r1⟩ := rs.get' (i := i) (x := xs1[i]) (List.getElem?_eq_getElem (by omega))
          obtain ⟨d2, e2, r2⟩ := rs2.get' (i := i) (x := xs2[i]) (List.getElem?_eq_getElem hi)
          rw [e1] at e2
          cases e2
          have m1 := List.mem_of_getElem? e1
          have q1 := pdDep_le m1
          have q2 := pdMax_le m1
          have at1 : atI xs1 (0 + (i : Int)) = some xs1[i] := by rw [Int.zero_add]; exact atI_nat (List.getElem?_eq_getElem (by omega))
          have at2 : atI xs2 (0 + (i : Int)) = some xs2[i] := by rw [Int.zero_add]; exact atI_nat (List.getElem?_eq_getElem hi)
          refine ⟨_, rfl, _, rfl, .inl ⟨_, _, _, _, rfl, rfl, (s1.trans s2).seq g, at1, ?_⟩⟩
          refine ⟨_, rfl, _, rfl, .inl ⟨_, _, _, _, rfl, rfl, (s1.trans s2).seq g2, at2, ?_⟩⟩
          refine ⟨_, _, d1, rfl, r1.same (s1.trans s2), r2.same (s1.trans s2), ?_, ?_, fun H'' s3 => ?_⟩
          · simp only [pdDep] at hn; omega
          · simp only [pdMax] at hm; omega
          exact hN _ _ _ (by simp) ⟨_, by rw [List.replicate_succ', List.map_append]; rfl, rfl, s2.trans s3⟩
        · rintro ys σ' H' hys ⟨v, rfl, rfl, s2⟩
          refine ⟨by rw [List.length_map, List.length_replicate]; exact Nat.le_trans hm' (by decide), fun q hq => ⟨q, _, rfl, SqL.of upd_same, ?_⟩⟩
          show Q (.bl ((List.replicate xs2.length true).all id)) _
          rw [show (List.replicate xs2.length true).all id = true by simp]
          exact k _ ((s1.trans s2).trans (Same.new hq))
end
end Cm

set_option Elab.async false
set_option linter.all false
set_option maxRecDepth 100000
set_option maxHeartbeats 4000000
namespace Cm
open PySem L2
/-- letters a to z alone -/
def Lc (x : Str) : Prop := ∀ c ∈ x.cps.toList, 97 ≤ c ∧ c ≤ 122
structure Nm (x : Str) : Prop where
  lo : 1 ≤ x.length
  hi : x.length ≤ 8
  lc : Lc x
theorem Lc.app {x y : Str} (a : Lc x) (b : Lc y) : Lc (x ++ y) := fun c hc => by
  rw [Str.cps_append, Array.toList_append, List.mem_append] at hc
  exact hc.elim (a c) (b c)
theorem join_cps (sep : Str) (hs : sep.cps.toList = []) : ∀ ys : List Str, (Str.join sep ys).cps.toList = (ys.map (·.cps.toList)).flatten
  | [] => rfl
  | [x] => by show x.cps.toList = _; simp
  | x :: y :: r => by
    show (x ++ sep ++ Str.join sep (y :: r)).cps.toList = _
    rw [Str.cps_append, Array.toList_append, Str.cps_append, Array.toList_append, hs, List.append_nil, join_cps sep hs (y :: r), List.map_cons (l := y :: r), List.flatten_cons]
theorem txt_join (sep : Str) (ys : List Str) : PySem.Txt.join sep ys = Str.join sep ys := by
  show PySem.Builtin.Str.glued sep ys = _
  rw [PySem.StrLaws.glued_eq_join]
theorem len_cps (x : Str) : x.length = x.cps.toList.length := by simp [Str.length]
section
variable {P : Program} {w : World} {K : PySem.W.Frag} {mg : Str → Option Value} {base : Heap}
/-! ### _law_word -/
def spWord : Sp := fun vs H Q _ => ∃ (p dc : Addr), vs = [.ref p] ∧ Dr H p dc ∧ ∀ (x : Str) (H' : Hp), Nm x → Dr H' p dc → But p H H' → Q (.str x) H'
theorem scW : FnScope ["_law_d", "_law_letters", "_law_first", "_law_size", "_law_some"] ["_law_d"] (defScope (top 24)) := ⟨rfl, rfl, rfl, by decide +kernel, rfl, by decide +kernel, by decide +kernel⟩
theorem letters_at {i : Int} {c : Nat} (h : atI ("abcdefghijklmnopqrstuvwxyz" : Str).cps.toList i = some c) : 97 ≤ c ∧ c ≤ 122 := by
  have : c ∈ ("abcdefghijklmnopqrstuvwxyz" : Str).cps.toList := by
    unfold atI at h
    obtain ⟨j, _, e⟩ := Option.bind_eq_some_iff.mp h
    exact List.mem_of_getElem? e
  have all : ∀ c ∈ ("abcdefghijklmnopqrstuvwxyz" : Str).cps.toList, 97 ≤ c ∧ c ≤ 122 := by decide +kernel
  exact all c this
theorem ok_word {f fP fO : Addr} {fd fdP fdO : FuncData} (F : Fun K "_law_word" "_law_word" (top 24) f fd) (T : Txt K mg) (DP : Def K mg "_law_pick" (top 20) ["_law_d", "_law_many"] fP fdP) (DO : Def K mg "_law_of" (top 21) ["_law_d", "_law_things"] fO fdO) :
    FnOk P w K mg base CX0 3 f fd ["_law_d"] spWord := by
  have GP : FnOk P w K mg base CX0 1 fP fdP ["_law_d", "_law_many"] spPick := ok_pick DP.F T
  have GO : FnOk P w K mg base CX0 2 fO fdO ["_law_d", "_law_things"] (spOf K) := ok_of DO.F T DP
  refine F.ok scW (fun vs H Q E h => ?_) (fun cdv A outer s H vs Q E hr h => ?_)
  · obtain ⟨p, dc, rfl, _⟩ := h
    rfl
  · obtain ⟨p, dc, rfl, D, k⟩ := h
    have hr1 : Room 1 _ := hr.mono (by decide)
    refine ⟨_, (pss_cons
  (ps_set (i := 1) scW.nd rfl (Or.inr rfl) pe_str)
  (pss_cons
  (ps_set (i := 2) scW.nd rfl (Or.inl rfl) (pe_call GO hr rfl DO.mg DO.F.kp DO.b .nil pass0 (pa_cons (pv 0) (pa_cons (pe_lst (pa_cons pe_str (pa_cons pe_str (pa_cons pe_str (pa_cons pe_str (pa_cons pe_str pa_nil)))))) pa_nil))))
  (pss_cons
  (ps_set (i := 3) scW.nd rfl (Or.inl rfl) (pe_op op_add pe_int (pe_call GP hr1 rfl DP.mg DP.F.kp DP.b .nil pass0 (pa_cons (pv 0) (pa_cons (pe_op op_sub pe_int (pe_callB call_len_str (by rfl) T.len bt_len (pa_cons (pv 2) pa_nil))) pa_nil)))))
  (pss_cons
  (ps_set (i := 4) scW.nd rfl (Or.inl rfl) (pe_bm PySem.F.plainAttrs_str PySem.F.slot_str_join PySem.F.type_str_join mt_join pe_str (pa_cons (pe_comp (own := ["_law_k"]) (js := [1, 0]) (N' := ["_law_k", "_law_letters", "_law_d"]) (CompScope.of (osc := defScope (top 24)) (N := ["_law_d", "_law_letters", "_law_first", "_law_size", "_law_some"]) rfl rfl ⟨rfl, by decide +kernel, by decide +kernel, by decide +kernel, rfl, by decide +kernel⟩) rfl (pi_range1 rfl T.range (pa_cons (pv 3) pa_nil)) (fun _ _ _ _ _ => (pg_name (i := 0) (show List.Nodup (["_law_k", "_law_letters", "_law_d"] : List Str) by decide +kernel) rfl (Or.inl rfl) (Or.inr rfl))) (fun _ _ _ _ _ => pifs_nil) (fun _ _ _ _ _ => (pe_ix (r := rIxS) ix_str (pv 1) (pe_call GP hr1 rfl DP.mg DP.F.kp DP.b .nil pass0 (pa_cons (pv 2) (pa_cons pe_int pa_nil))) (fun _ _ => rfl)))) pa_nil)))
  (pss_one
  (ps_ret (pe_ix ix_list (pe_lst (pa_cons (pe_op op_add_str (pv 2) (pv 4)) (pa_cons (pe_op op_add_str (pv 4) (pv 2)) pa_nil))) (pe_call GP hr1 rfl DP.mg DP.F.kp DP.b .nil pass0 (pa_cons (pv 0) (pa_cons pe_int pa_nil))) (fun _ _ => rfl)))))))), ?_⟩
    -- first = of(..)
    refine ⟨_, rfl, (show 5 ≤ sizeLine by decide), fun q hq => ?_⟩
    refine ⟨p, dc, q, _, rfl, D.new hq, SqL.of upd_same, by simp, by simp, fun x H1 hx D1 b1 => ?_⟩
    obtain ⟨z, rfl, hz, lz⟩ : ∃ z : Str, x = .str z ∧ z.length ≤ 7 ∧ Lc z := by
      simp only [List.mem_cons, List.not_mem_nil, or_false] at hx
      rcases hx with rfl | rfl | rfl | rfl | rfl
      all_goals exact ⟨_, rfl, by decide +kernel, by unfold Lc; decide +kernel⟩
    -- size = 1 + pick(8 - len(first))
    refine ⟨_, rfl, _, rfl, z, rfl, Nat.le_trans hz (by decide), _, _, rfl, rfl, p, dc, _, rfl, D1, by omega, by omega, fun r H2 r0 r1 D2 b2 => ?_⟩
    refine ⟨_, _, rfl, rfl, ?_⟩
    -- some = ''.join(..)
    refine ⟨rfl, _, rfl, _, rfl, by omega, by omega, ?_⟩
    refine comp_range (n := (1 + r).toNat) (fun i ys σ' H' => ∃ (cs : List Str) (v : Option V), ys = cs.map V.str ∧ σ' = [v, some (.str "abcdefghijklmnopqrstuvwxyz"), some (.ref p)] ∧ Dr H' p dc ∧ But p H2 H' ∧ ∀ c ∈ cs, c.length = 1 ∧ Lc c) (Nat.le_trans (show (1 + r).toNat ≤ 8 by omega) (by decide)) ⟨[], none, rfl, rfl, D2, But.refl, fun _ h => nomatch h⟩ ?_ ?_
    · rintro i ys σ' H' hi hys ⟨cs, v, rfl, rfl, D3, b3, hc⟩ N hN
      refine ⟨_, rfl, _, rfl, p, dc, _, rfl, D3, by decide, by decide, fun r' H4 r0' r1' D4 b4 => ?_⟩
      obtain ⟨j, rfl⟩ := Int.eq_ofNat_of_zero_le r0'
      obtain ⟨c, hcj⟩ : ∃ c, ("abcdefghijklmnopqrstuvwxyz" : Str).cps.toList[j]? = some c := ⟨_, List.getElem?_eq_getElem (by show j < 26; omega)⟩
      have hat : atI ("abcdefghijklmnopqrstuvwxyz" : Str).cps.toList (j : Int) = some c := atI_nat hcj
      refine ⟨_, _, c, rfl, rfl, (show 26 ≤ sizeLine by decide), hat, ?_⟩
      refine hN _ _ _ (by simpa using hys) ⟨cs ++ [⟨#[c]⟩], _, by simp, rfl, D4, b3.trans b4, fun c' hc' => ?_⟩
      rcases List.mem_append.mp hc' with hc' | hc'
      · exact hc c' hc'
      · obtain rfl : c' = ⟨#[c]⟩ := by simpa using hc'
        refine ⟨rfl, fun x hx => ?_⟩
        obtain rfl : x = c := by simpa using hx
        exact letters_at hat
    · rintro ys σ' H' hys ⟨cs, v, rfl, rfl, D3, b3, hc⟩
      rw [List.length_map] at hys
      refine ⟨by rw [List.length_map, hys]; exact Nat.le_trans (show (1 + r).toNat ≤ 8 by omega) (by decide), fun q2 hq2 => ?_⟩
      have hsum : (cs.map (·.length)).sum = cs.length := by
        clear hys
        induction cs with
        | nil => rfl
        | cons c t ih => rw [List.map_cons, List.sum_cons, ih fun d hd => hc d (List.mem_cons_of_mem _ hd), (hc c List.mem_cons_self).1, List.length_cons, Nat.add_comm]
      refine ⟨_, q2, cs, rfl, rfl, SqL.of upd_same, by rw [hsum, show (Str.ofString "").length = 0 from rfl]; omega, ?_⟩
      rw [txt_join]
      have jl : (Str.join (Str.ofString "") cs).length = cs.length := by
        rw [len_cps, join_cps _ rfl, List.length_flatten, List.map_map, ← hsum]
        congr 1
      have jc : Lc (Str.join (Str.ofString "") cs) := fun x hx => by
        rw [join_cps _ rfl] at hx
        obtain ⟨l, hl, hxl⟩ := List.mem_flatten.mp hx
        obtain ⟨c, hcm, rfl⟩ := List.mem_map.mp hl
        exact (hc c hcm).2 x hxl
      generalize Str.join (Str.ofString "") cs = js at jl jc
      -- return [first + some, some + first][pick(2)]
      have hj8 : js.length + z.length ≤ 8 ∧ 1 ≤ js.length := by omega
      refine ⟨_, rfl, _, rfl, _, _, rfl, rfl, Nat.le_trans (show z.length + js.length ≤ 8 by omega) (by decide), _, rfl, _, rfl, _, _, rfl, rfl, Nat.le_trans (show js.length + z.length ≤ 8 by omega) (by decide), (show 2 ≤ sizeLine by decide), fun q3 hq3 => ?_⟩
      have D4 : Dr _ p dc := (D3.new (o := .lst (cs.map V.str)) hq2).new (o := .lst [.str (z ++ js), .str (js ++ z)]) hq3
      refine ⟨_, rfl, p, dc, _, rfl, D4, by decide, by decide, fun r' H5 r0' r1' D5 b5 => ?_⟩
      have nm1 : Nm (z ++ js) := ⟨by rw [Str.length_append]; omega, by rw [Str.length_append]; omega, lz.app jc⟩
      have nm2 : Nm (js ++ z) := ⟨by rw [Str.length_append]; omega, by rw [Str.length_append]; omega, jc.app lz⟩
      have bt : But p H H5 := ((((But.new hq).trans b1).trans b2).trans b3).trans (((But.new hq2).trans (But.new hq3)).trans b5)
      have hq5 : SqL K H5 q3 [.str (z ++ js), .str (js ++ z)] := D4.seq b5 (SqL.of upd_same)
      by_cases h0 : r' = 0
      · subst h0
        exact ⟨_, _, _, _, rfl, rfl, hq5, rfl, k _ _ nm1 D5 bt⟩
      · obtain rfl : r' = 1 := by omega
        exact ⟨_, _, _, _, rfl, rfl, hq5, rfl, k _ _ nm2 D5 bt⟩

/-! ### _law_words: names, no two alike -/
def spWords (K : PySem.W.Frag) : Sp := fun vs H Q _ => ∃ (p dc : Addr) (m : Int), vs = [.ref p, .int m] ∧ Dr H p dc ∧ 0 ≤ m ∧ m ≤ 60 ∧ ∀ (q : Addr) (ys : List Str) (H' : Hp), H' q = some (.lst (ys.map V.str)) → H q = none → (ys.length : Int) = m → (∀ y ∈ ys, Nm y) → ys.Nodup → Dr H' p dc → But p H H' → Q (.ref q) H'
theorem scWs : FnScope ["_law_d", "_law_many", "_law_found", "_law_k", "_law_word_here", "_law_step"] ["_law_d", "_law_many"] (defScope (top 25)) := ⟨rfl, rfl, rfl, by decide +kernel, rfl, by decide +kernel, by decide +kernel⟩
/-- the words that are tried where a word stands already -/
def wd (t : Nat) : Str := ⟨#[97 + t % 8, 113 + t / 8 % 8]⟩
theorem wd_nm (t : Nat) : Nm (wd t) := ⟨by show 1 ≤ 2; decide, by show 2 ≤ 8; decide, fun c hc => by
  have : c = 97 + t % 8 ∨ c = 113 + t / 8 % 8 := by simpa [wd] using hc
  omega⟩
theorem wd_inj {k s s' : Nat} (h : wd (k + s) = wd (k + s')) (h1 : s < 64) (h2 : s' < 64) : s = s' := by
  have e : (#[97 + (k + s) % 8, 113 + (k + s) / 8 % 8] : Array Nat) = #[97 + (k + s') % 8, 113 + (k + s') / 8 % 8] := congrArg Str.cps h
  have e1 : 97 + (k + s) % 8 = 97 + (k + s') % 8 ∧ 113 + (k + s) / 8 % 8 = 113 + (k + s') / 8 % 8 := by simpa using congrArg Array.toList e
  omega
theorem sub_len {α : Type} [DecidableEq α] : ∀ {l ys : List α}, l.Nodup → (∀ x ∈ l, x ∈ ys) → l.length ≤ ys.length
  | [], _, _, _ => Nat.zero_le _
  | a :: l, ys, nd, hs => by
    obtain ⟨n1, n2⟩ := List.nodup_cons.mp nd
    have ha := hs a List.mem_cons_self
    have q := sub_len (ys := ys.erase a) n2 fun x hx => (List.mem_erase_of_ne (by intro z; exact n1 (z ▸ hx))).mpr (hs x (List.mem_cons_of_mem _ hx))
    rw [List.length_erase_of_mem ha] at q
    have := List.length_pos_of_mem ha
    rw [List.length_cons]; omega
theorem nd_map {α β : Type} {f : α → β} : ∀ {l : List α}, l.Nodup → (∀ a ∈ l, ∀ b ∈ l, f a = f b → a = b) → (l.map f).Nodup
  | [], _, _ => List.nodup_nil
  | a :: l, nd, h => by
    obtain ⟨n1, n2⟩ := List.nodup_cons.mp nd
    rw [List.map_cons]
    refine List.nodup_cons.mpr ⟨fun m => ?_, nd_map n2 fun x hx y hy => h x (List.mem_cons_of_mem _ hx) y (List.mem_cons_of_mem _ hy)⟩
    obtain ⟨b, hb, e⟩ := List.mem_map.mp m
    exact n1 (h b (List.mem_cons_of_mem _ hb) a List.mem_cons_self e ▸ hb)
theorem wd_new {k : Nat} {ys : List Str} (hl : ys.length < 64) (h : ∀ s, s < 64 → wd (k + s) ∈ ys) : False := by
  have nd : ((List.range 64).map fun s => wd (k + s)).Nodup := nd_map List.nodup_range fun a ha b hb e => wd_inj e (List.mem_range.mp ha) (List.mem_range.mp hb)
  have q := sub_len nd fun x hx => by
    obtain ⟨s, hs, rfl⟩ := List.mem_map.mp hx
    exact h s (List.mem_range.mp hs)
  rw [List.length_map, List.length_range] at q
  omega
theorem ok_words {f fP fO fW : Addr} {fd fdP fdO fdW : FuncData} (F : Fun K "_law_words" "_law_words" (top 25) f fd) (T : Txt K mg) (DP : Def K mg "_law_pick" (top 20) ["_law_d", "_law_many"] fP fdP) (DO : Def K mg "_law_of" (top 21) ["_law_d", "_law_things"] fO fdO)
    (DW : Def K mg "_law_word" (top 24) ["_law_d"] fW fdW) : FnOk P w K mg base CX0 4 f fd ["_law_d", "_law_many"] (spWords K) := by
  have GW : FnOk P w K mg base CX0 3 fW fdW ["_law_d"] spWord := ok_word DW.F T DP DO
  refine F.ok scWs (fun vs H Q E h => ?_) (fun cdv A outer s H vs Q E hr h => ?_)
  · obtain ⟨p, dc, m, rfl, _⟩ := h
    rfl
  · obtain ⟨p, dc, m, rfl, D, m0, m1, k⟩ := h
    refine ⟨_, (pss_cons
  (ps_set (i := 2) scWs.nd rfl (Or.inl rfl) (pe_lst pa_nil))
  (pss_cons
  (ps_for PassesOwn.never rfl (pi_range1 rfl T.range (pa_cons (pv 1) pa_nil)) (pg_name (i := 3) scWs.nd rfl (Or.inl rfl)) (pss_cons
  (ps_set (i := 4) scWs.nd rfl (Or.inl rfl) (pe_call GW hr rfl DW.mg DW.F.kp DW.b .nil pass0 (pa_cons (pv 0) pa_nil)))
  (pss_cons
  (ps_for PassesOwn.never rfl (pi_range1 rfl T.range (pa_cons pe_int pa_nil)) (pg_name (i := 5) scWs.nd rfl (Or.inl rfl)) (pss_one
  (ps_if (pt_cmpR op_in_seq (pv 4) (pv 2) rfl) (pss_one
  (ps_set (i := 4) scWs.nd rfl (Or.inl rfl) (pe_op op_add_str (pe_ix ix_str pe_str (pe_op op_mod (pe_op op_add (pv 3) (pv 5)) pe_int) (fun _ _ => rfl)) (pe_ix ix_str pe_str (pe_op op_mod (pe_op op_fdiv (pe_op op_add (pv 3) (pv 5)) pe_int) pe_int) (fun _ _ => rfl))))) pss_nil)))
  (pss_one
  (ps_expr (pe_bm PySem.F.plainAttrs_list PySem.F.slot_list_append PySem.F.type_list_append mt_append (pv 2) (pa_cons (pv 4) pa_nil)))))))
  (pss_one
  (ps_ret (pv 2))))), ?_⟩
    refine ⟨(show 0 ≤ sizeLine by decide), fun q hq => ?_⟩
    refine ⟨_, rfl, m, rfl, by omega, by omega, ?_⟩
    refine for_range (n := m.toNat) (fun i σ H1 => ∃ (ys : List Str) (a b c : Option V), σ = [some (.ref p), some (.int m), some (.ref q), a, b, c] ∧ H1 q = some (.lst (ys.map V.str)) ∧ ys.length = i ∧ (∀ y ∈ ys, Nm y) ∧ ys.Nodup ∧ Dr H1 p dc ∧ But p H H1)
      ⟨[], none, none, none, rfl, upd_same, rfl, (fun _ h => by cases h), List.nodup_nil, D.new hq, But.new hq⟩ ?_ ?_
    · rintro i σ H1 hi ⟨ys, a, b, c, rfl, e1, hl, hy, nd, D1, b1⟩
      refine ⟨_, rfl, p, dc, rfl, D1, fun x H2 nx D2 b2 => ?_⟩
      have e2 : H2 q = some (.lst (ys.map V.str)) := b2 q _ e1 (D1.ne e1 (by intro kvs z; cases z))
      refine ⟨_, rfl, by decide, by decide, ?_⟩
      refine for_range (n := 64) (fun j σ H3 => ∃ (z : Str) (c : Option V), σ = [some (.ref p), some (.int m), some (.ref q), some (.int (0 + (i : Int))), some (.str z), c] ∧ Nm z ∧ H3 = H2 ∧ (z ∉ ys ∨ ∀ s, s < j → wd (i + s) ∈ ys)) ⟨x, _, rfl, nx, rfl, .inr fun s hs => absurd hs (Nat.not_lt_zero _)⟩ ?_ ?_
      · rintro j σ H3 hj ⟨z, c, rfl, nz, rfl, hz⟩
        refine ⟨_, rfl, _, rfl, q, _, rfl, .inl (SqL.of e2), rfl, ?_, _, rfl, ?_⟩
        · rw [List.all_eq_true]
          intro v hv
          obtain ⟨y, _, rfl⟩ := List.mem_map.mp hv
          rfl
        · have hin : inV (.str z) (ys.map V.str) = true ↔ z ∈ ys := by
            unfold inV
            rw [List.any_map, List.any_eq_true]
            constructor
            · rintro ⟨y, hy1, hy2⟩
              have : y = z := by simpa [eqV] using hy2
              exact this ▸ hy1
            · intro hz'
              exact ⟨z, hz', by simp [eqV]⟩
          refine ite2 (fun hc => ?_) (fun hc => ⟨z, _, rfl, nz, rfl, .inl fun hz' => hc (hin.mpr hz')⟩)
          have hz1 := hin.mp hc
          have hz2 : ∀ s, s < j → wd (i + s) ∈ ys := hz.elim (fun n => absurd hz1 n) id
          have u1 : (0 + (i : Int) + (0 + (j : Int))) % 8 = (((i + j) % 8 : Nat) : Int) := by omega
          have u2 : (0 + (i : Int) + (0 + (j : Int))) / 8 % 8 = (((i + j) / 8 % 8 : Nat) : Int) := by omega
          have h1 : ("abcdefgh" : Str).cps.toList[(i + j) % 8]? = some (97 + (i + j) % 8) := by
            have := Nat.mod_lt (i + j) (show 0 < 8 by decide)
            generalize (i + j) % 8 = m8 at this
            revert m8; decide +kernel
          have h2 : ("qrstuvwx" : Str).cps.toList[(i + j) / 8 % 8]? = some (113 + (i + j) / 8 % 8) := by
            have := Nat.mod_lt ((i + j) / 8) (show 0 < 8 by decide)
            generalize (i + j) / 8 % 8 = m8 at this
            revert m8; decide +kernel
          refine ⟨_, rfl, _, rfl, _, _, rfl, rfl, _, _, rfl, rfl, (by show (0 : Int) < 8; decide), _, _, _, rfl, rfl, (show 8 ≤ sizeLine by decide), (by rw [u1]; exact atI_nat h1), ?_⟩
          refine ⟨_, rfl, _, rfl, _, _, rfl, rfl, _, _, rfl, rfl, ⟨by decide, by decide⟩, _, _, rfl, rfl, (by show (0 : Int) < 8; decide), _, _, _, rfl, rfl, (show 8 ≤ sizeLine by decide), (by rw [u2]; exact atI_nat h2), ?_⟩
          refine ⟨_, _, rfl, rfl, (show 1 + 1 ≤ sizeLine by decide), wd (i + j), _, rfl, wd_nm _, rfl, ?_⟩
          by_cases hw : wd (i + j) ∈ ys
          · refine .inr fun s hs => ?_
            by_cases hsj : s = j
            · rw [hsj]; exact hw
            · exact hz2 s (by omega)
          · exact .inl hw
      · rintro σ H3 ⟨z, c, rfl, nz, rfl, hz⟩
        have znew : z ∉ ys := hz.elim id fun h => (wd_new (by omega) h).elim
        refine ⟨_, rfl, .inl ⟨rfl, _, SqL.of e2⟩, _, rfl, q, _, _, rfl, rfl, e2, by rw [List.length_map]; exact small1000 (by omega), ?_⟩
        have nqc : q ≠ dc := by
          obtain ⟨xs, e⟩ := D.cell
          exact (ne_of_none e hq).symm
        have nqp : q ≠ p := D2.ne e2 (by intro kvs z; cases z)
        refine ⟨ys ++ [z], _, _, _, rfl, by rw [upd_same]; simp, by simp [hl], fun y hy' => (List.mem_append.mp hy').elim (hy y) (fun h => by rw [List.mem_singleton.mp h]; exact nz), nd_snoc nd znew, D2.put nqp nqc, fun b o e hb => ?_⟩
        rw [upd_ne (ne_of_none e hq)]
        exact (b1.trans b2) b o e hb
    · rintro σ H1 ⟨ys, a, b, c, rfl, e1, hl, hy, nd, D1, b1⟩
      exact ⟨_, rfl, k q ys H1 e1 hq (by omega) hy nd D1 b1⟩
end
end Cm

set_option Elab.async false
set_option linter.all false
set_option maxRecDepth 100000
set_option maxHeartbeats 4000000
namespace Cm
open PySem L2
abbrev Fld := Str × Int × Int
structure FldOk (f : Fld) : Prop where
  nm : Nm f.1
  lo : -999999 ≤ f.2.1
  le : f.2.1 ≤ f.2.2
  hi : f.2.2 ≤ 999999
def fD (f : Fld) : PyData := .tuple [.str f.1, .int f.2.1, .int f.2.2]
def fsD (fs : List Fld) : PyData := .tuple (fs.map fD)
/-- tuples stay -/
def TK (H H' : Hp) : Prop := ∀ b xs, H b = some (.tup xs) → H' b = some (.tup xs)
theorem TK.trans {H H1 H2 : Hp} (a : TK H H1) (b : TK H1 H2) : TK H H2 := fun c xs h => b c xs (a c xs h)
theorem TK.but {H H' : Hp} {p dc : Addr} (d : Dr H p dc) (b : But p H H') : TK H H' := fun c xs h => b c _ h (d.ne h (by intro kvs z; cases z))
theorem TK.lst {H : Hp} {q : Addr} {xs : List V} {o : HO} (h : H q = some (.lst xs)) : TK H (upd H q o) := fun c ys e => by rw [upd_ne (ne_of e h (by intro z; cases z))]; exact e
theorem TK.new {H : Hp} {q : Addr} {o : HO} (h : H q = none) : TK H (upd H q o) := fun c ys e => by rw [upd_ne (ne_of_none e h)]; exact e
def FldAt (H : Hp) (x : V) (f : Fld) : Prop := ∃ b, x = .ref b ∧ H b = some (.tup [.str f.1, .int f.2.1, .int f.2.2])
theorem FldAt.tk {H H' : Hp} {x : V} {f : Fld} (h : FldAt H x f) (k : TK H H') : FldAt H' x f := let ⟨b, e, q⟩ := h; ⟨b, e, k _ _ q⟩
theorem flds_tk {H H' : Hp} : ∀ {xs : List V} {fs : List Fld}, Paired (FldAt H) xs fs → TK H H' → Paired (FldAt H') xs fs
  | _, _, .nil, _ => .nil
  | _, _, .cons r t, k => .cons (r.tk k) (flds_tk t k)
theorem flds_reps {K : PySem.W.Frag} {H : Hp} : ∀ {xs : List V} {fs : List Fld}, Paired (FldAt H) xs fs → Reps K H xs (fs.map fD)
  | _, _, .nil => .nil
  | _, _, .cons r t => by
    obtain ⟨b, rfl, h⟩ := r
    exact .cons (.tup (SqT.of h) (.cons (.str _) (.cons (.int _) (.cons (.int _) .nil)))) (flds_reps t)
section
variable {P : Program} {w : World} {K : PySem.W.Frag} {mg : Str → Option Value} {base : Heap}
/-! ### _law_bound -/
def spBound : Sp := fun vs H Q _ => ∃ (p dc : Addr), vs = [.ref p] ∧ Dr H p dc ∧ ∀ (z : Int) (H' : Hp), -999999 ≤ z → z ≤ 999999 → Dr H' p dc → But p H H' → Q (.int z) H'
theorem scBd : FnScope ["_law_d", "_law_near"] ["_law_d"] (defScope (top 26)) := ⟨rfl, rfl, rfl, by decide +kernel, rfl, by decide +kernel, by decide +kernel⟩
theorem ok_bound {f fP fO : Addr} {fd fdP fdO : FuncData} (F : Fun K "_law_bound" "_law_bound" (top 26) f fd) (T : Txt K mg) (DP : Def K mg "_law_pick" (top 20) ["_law_d", "_law_many"] fP fdP) (DO : Def K mg "_law_of" (top 21) ["_law_d", "_law_things"] fO fdO) :
    FnOk P w K mg base CX0 3 f fd ["_law_d"] spBound := by
  have GP : FnOk P w K mg base CX0 1 fP fdP ["_law_d", "_law_many"] spPick := ok_pick DP.F T
  have GO : FnOk P w K mg base CX0 2 fO fdO ["_law_d", "_law_things"] (spOf K) := ok_of DO.F T DP
  refine F.ok scBd (fun vs H Q E h => ?_) (fun cdv A outer s H vs Q E hr h => ?_)
  · obtain ⟨p, dc, rfl, _⟩ := h
    rfl
  · obtain ⟨p, dc, rfl, D, k⟩ := h
    have hr1 : Room 1 _ := hr.mono (by decide)
    refine ⟨_, (pss_cons
  (ps_set (i := 1) scBd.nd rfl (Or.inl rfl) (pe_lst (pa_cons pe_int (pa_cons pe_int (pa_cons pe_int (pa_cons (pe_call GP hr1 rfl DP.mg DP.F.kp DP.b .nil pass0 (pa_cons (pv 0) (pa_cons pe_int pa_nil))) (pa_cons (pe_op op_sub (pe_call GP hr1 rfl DP.mg DP.F.kp DP.b .nil pass0 (pa_cons (pv 0) (pa_cons pe_int pa_nil))) pe_int) pa_nil)))))))
  (pss_one
  (ps_ret (pe_call GO hr rfl DO.mg DO.F.kp DO.b .nil pass0 (pa_cons (pv 0) (pa_cons (pe_op op_cat (pv 1) (pe_lst (pa_cons pe_int (pa_cons (pe_un un_neg pe_int) (pa_cons (pe_op op_sub (pe_call GP hr1 rfl DP.mg DP.F.kp DP.b .nil pass0 (pa_cons (pv 0) (pa_cons pe_int pa_nil))) pe_int) pa_nil))))) pa_nil)))))), ?_⟩
    refine ⟨_, rfl, p, dc, _, rfl, D, by decide, by decide, fun r1 H1 a1 b1 D1 t1 => ?_⟩
    refine ⟨_, rfl, p, dc, _, rfl, D1, by decide, by decide, fun r2 H2 a2 b2 D2 t2 => ⟨_, _, rfl, rfl, (show 5 ≤ sizeLine by decide), fun q1 h1 => ?_⟩⟩
    have D2' := D2.new (o := .lst [.int 0, .int 0, .int 5, .int r1, .int (r2 - 20)]) h1
    refine ⟨_, rfl, _, rfl, _, rfl, _, rfl, p, dc, _, rfl, D2', by decide, by decide, fun r3 H3 a3 b3 D3 t3 => ⟨_, _, rfl, rfl, (show 3 ≤ sizeLine by decide), fun q2 h2 => ?_⟩⟩
    have e1 : H3 q1 = some (.lst [.int 0, .int 0, .int 5, .int r1, .int (r2 - 20)]) := t3 q1 _ upd_same (D2'.ne upd_same (by intro kvs z; cases z))
    refine ⟨q1, q2, _, _, rfl, rfl, (Same.new h2) _ _ e1, upd_same, (show 5 + 3 ≤ sizeLine by decide), fun q3 h3 => ?_⟩
    have D4 := (D3.new (o := .lst [.int 999999, .int (-999999), .int (r3 - 999999)]) h2)
    refine ⟨p, dc, q3, _, rfl, D4.new h3, SqL.of upd_same, by simp, by simp, fun x H5 hx D5 t5 => ?_⟩
    obtain ⟨z, rfl, z0, z1⟩ : ∃ z : Int, x = .int z ∧ -999999 ≤ z ∧ z ≤ 999999 := by
      simp only [List.cons_append, List.nil_append, List.mem_cons, List.not_mem_nil, or_false] at hx
      rcases hx with rfl | rfl | rfl | rfl | rfl | rfl | rfl | rfl
      all_goals exact ⟨_, rfl, by omega, by omega⟩
    exact k z H5 z0 z1 D5 (((t1.trans t2).trans (But.new h1)).trans (((t3.trans (But.new h2)).trans (But.new h3)).trans t5))

/-! ### _law_fields -/
def spFields (K : PySem.W.Frag) : Sp := fun vs H Q _ => ∃ (p dc : Addr) (m : Int), vs = [.ref p, .int m] ∧ Dr H p dc ∧ 0 ≤ m ∧ m ≤ 60 ∧ ∀ (a : Addr) (xs : List V) (fs : List Fld) (H' : Hp), H' a = some (.tup xs) → Paired (FldAt H') xs fs → (fs.length : Int) = m → (∀ f ∈ fs, FldOk f) → (fs.map (·.1)).Nodup → H a = none → Dr H' p dc → But p H H' → Q (.ref a) H'
theorem scFs : FnScope ["_law_d", "_law_many", "_law_names", "_law_found", "_law_title", "_law_low", "_law_high"] ["_law_d", "_law_many"] (defScope (top 27)) := ⟨rfl, rfl, rfl, by decide +kernel, rfl, by decide +kernel, by decide +kernel⟩
theorem ok_fields {f fP fO fW fWs fB : Addr} {fd fdP fdO fdW fdWs fdB : FuncData} (F : Fun K "_law_fields" "_law_fields" (top 27) f fd) (T : Txt K mg) (DP : Def K mg "_law_pick" (top 20) ["_law_d", "_law_many"] fP fdP) (DO : Def K mg "_law_of" (top 21) ["_law_d", "_law_things"] fO fdO)
    (DW : Def K mg "_law_word" (top 24) ["_law_d"] fW fdW) (DWs : Def K mg "_law_words" (top 25) ["_law_d", "_law_many"] fWs fdWs) (DB : Def K mg "_law_bound" (top 26) ["_law_d"] fB fdB) : FnOk P w K mg base CX0 5 f fd ["_law_d", "_law_many"] (spFields K) := by
  have GP : FnOk P w K mg base CX0 1 fP fdP ["_law_d", "_law_many"] spPick := ok_pick DP.F T
  have GO : FnOk P w K mg base CX0 2 fO fdO ["_law_d", "_law_things"] (spOf K) := ok_of DO.F T DP
  have GWs : FnOk P w K mg base CX0 4 fWs fdWs ["_law_d", "_law_many"] (spWords K) := ok_words DWs.F T DP DO DW
  have GB : FnOk P w K mg base CX0 3 fB fdB ["_law_d"] spBound := ok_bound DB.F T DP DO
  refine F.ok scFs (fun vs H Q E h => ?_) (fun cdv A outer s H vs Q E hr h => ?_)
  · obtain ⟨p, dc, m, rfl, _⟩ := h
    rfl
  · obtain ⟨p, dc, m, rfl, D, m0, m1, k⟩ := h
    have hr1 : Room 1 _ := hr.mono (by decide)
    have hr2 : Room 2 _ := hr.mono (by decide)
    have hr3 : Room 3 _ := hr.mono (by decide)
    refine ⟨_, (pss_cons
  (ps_set (i := 2) scFs.nd rfl (Or.inl rfl) (pe_call GWs hr rfl DWs.mg DWs.F.kp DWs.b .nil pass0 (pa_cons (pv 0) (pa_cons (pv 1) pa_nil))))
  (pss_cons
  (ps_set (i := 3) scFs.nd rfl (Or.inl rfl) (pe_lst pa_nil))
  (pss_cons
  (ps_for PassesOwn.never rfl (pi_list (pv 2)) (pg_name (i := 4) scFs.nd rfl (Or.inl rfl)) (pss_cons
  (ps_set (i := 5) scFs.nd rfl (Or.inl rfl) (pe_call GB hr3 rfl DB.mg DB.F.kp DB.b .nil pass0 (pa_cons (pv 0) pa_nil)))
  (pss_cons
  (ps_set (i := 6) scFs.nd rfl (Or.inl rfl) (pe_callB (call_min2 rfl) (by rfl) T.min bt_min (pa_cons pe_int (pa_cons (pe_op op_add (pv 5) (pe_call GO hr2 rfl DO.mg DO.F.kp DO.b .nil pass0 (pa_cons (pv 0) (pa_cons (pe_lst (pa_cons pe_int (pa_cons pe_int (pa_cons pe_int (pa_cons pe_int (pa_cons (pe_call GP hr1 rfl DP.mg DP.F.kp DP.b .nil pass0 (pa_cons (pv 0) (pa_cons pe_int pa_nil))) pa_nil)))))) pa_nil)))) pa_nil))))
  (pss_one
  (ps_expr (pe_bm PySem.F.plainAttrs_list PySem.F.slot_list_append PySem.F.type_list_append mt_append (pv 3) (pa_cons (pe_tup (pa_cons (pv 4) (pa_cons (pv 5) (pa_cons (pv 6) pa_nil)))) pa_nil)))))))
  (pss_one
  (ps_ret (pe_callTy call_tuple_of (by rfl) T.tuple bt_tuple (pa_cons (pv 3) pa_nil))))))), ?_⟩
    refine ⟨_, rfl, _, rfl, p, dc, m, rfl, D, m0, m1, fun q ys H1 e1 hq hl hy nd D1 t1 => ?_⟩
    refine ⟨(show 0 ≤ sizeLine by decide), fun q2 h2 => ?_⟩
    have D1' := D1.new (o := .lst []) h2
    have e1' : (upd H1 q2 (.lst [])) q = some (.lst (ys.map V.str)) := (Same.new h2) _ _ e1
    have nq : q2 ≠ q := (ne_of_none e1 h2).symm
    have hq2 : H q2 = none := by
      cases e : H q2 with
      | none => rfl
      | some o => rw [t1 q2 o e (D1.neN h2).symm] at h2; cases h2
    have nq2c : q2 ≠ dc := by
      obtain ⟨xs, e⟩ := D1.cell
      exact (ne_of_none e h2).symm
    refine ⟨_, rfl, q, rfl, ⟨_, SqL.of e1'⟩, for_list (K := K) (a := q) (xs := ys.map V.str) (fun i σ H2 => ∃ (xs : List V) (fs : List Fld) (a b c : Option V), σ = [some (.ref p), some (.int m), some (.ref q), some (.ref q2), a, b, c] ∧ H2 q = some (.lst (ys.map V.str)) ∧ H2 q2 = some (.lst xs) ∧ Paired (FldAt H2) xs fs ∧ fs.map (·.1) = ys.take i ∧ (∀ f ∈ fs, FldOk f) ∧ Dr H2 p dc ∧ But p H H2)
      ⟨[], [], none, none, none, rfl, e1', upd_same, .nil, by simp, (fun _ h => by cases h), D1', t1.trans (But.new h2)⟩ (fun i σ H2 _ ⟨_, _, _, _, _, _, e, _⟩ => SqL.of e) ?_ ?_⟩
    · rintro i y σ H2 hi ⟨xs, fs, a, b, c, rfl, g1, g2, pf, hm, hf, D2, t2⟩
      rw [List.getElem?_map] at hi
      obtain ⟨n, hn, rfl⟩ := Option.map_eq_some_iff.mp hi
      have hil : i < ys.length := (List.getElem?_eq_some_iff.mp hn).1
      refine ⟨_, rfl, p, dc, rfl, D2, fun lo H3 l0 l1 D3 t3 => ?_⟩
      have np : ∀ {b : Addr} {ws : List V} {H' : Hp}, Dr H' p dc → H' b = some (.lst ws) → b ≠ p := fun d e => d.ne e (by intro kvs z; cases z)
      refine ⟨_, rfl, _, rfl, _, rfl, p, dc, _, rfl, D3, by decide, by decide, fun r H4 r0 r1 D4 t4 => ⟨(show 5 ≤ sizeLine by decide), fun q3 h3 => ?_⟩⟩
      have D4' := D4.new (o := .lst [.int 0, .int 1, .int 3, .int 9, .int r]) h3
      refine ⟨p, dc, q3, _, rfl, D4', SqL.of upd_same, by simp, by simp, fun x H5 hx D5 t5 => ?_⟩
      obtain ⟨z, rfl, z0⟩ : ∃ z : Int, x = .int z ∧ 0 ≤ z := by
        simp only [List.mem_cons, List.not_mem_nil, or_false] at hx
        rcases hx with rfl | rfl | rfl | rfl | rfl
        all_goals exact ⟨_, rfl, by omega⟩
      refine ⟨_, _, rfl, rfl, _, _, rfl, ?_⟩
      have t35 : But p H2 H5 := ((t3.trans t4).trans (But.new h3)).trans t5
      have g1' : H5 q = some (.lst (ys.map V.str)) := t35 q _ g1 (np D2 g1)
      have g2' : H5 q2 = some (.lst xs) := t35 q2 _ g2 (np D2 g2)
      have k5 : TK H2 H5 := TK.but D2 t35
      refine ⟨_, rfl, .inl ⟨rfl, _, SqL.of g2'⟩, _, rfl, _, rfl, _, rfl, (show 3 ≤ sizeLine by decide), fun q4 h4 => ?_⟩
      have g2'' : ∀ o, (upd H5 q4 o) q2 = some (.lst xs) := fun o => (Same.new h4) _ _ g2'
      have hlen : fs.length = i := by
        have := congrArg List.length hm
        rw [List.length_map, List.length_take] at this
        omega
      have pl := Paired.length pf
      refine ⟨q2, xs, _, rfl, rfl, g2'' _, small1000 (by omega), ?_⟩
      generalize hhi : (if lo + z < 999999 then lo + z else 999999) = hi'
      have h1 : lo ≤ hi' ∧ hi' ≤ 999999 := by rw [← hhi]; split <;> omega
      refine ⟨xs ++ [.ref q4], fs ++ [(n, lo, hi')], _, _, _, rfl, ?_, upd_same, ?_, ?_, ?_, ?_, ?_⟩
      · rw [upd_ne nq.symm]; exact (Same.new h4) _ _ g1'
      · refine Paired.snoc (flds_tk pf (k5.trans ((TK.new h4).trans (TK.lst (g2'' _))))) ⟨q4, rfl, ?_⟩
        exact (TK.lst (g2'' _)) _ _ upd_same
      · rw [List.map_append, hm, List.take_add_one, hn]; rfl
      · intro f hf'
        rcases List.mem_append.mp hf' with hf' | hf'
        · exact hf f hf'
        · obtain rfl : f = (n, lo, hi') := by simpa using hf'
          exact ⟨hy n (List.mem_of_getElem? hn), l0, h1.1, h1.2⟩
      · exact (D5.new h4).put (np (D5.new (o := .tup [.str n, .int lo, .int hi']) h4) (g2'' _)) nq2c
      · intro b o e hb
        rw [upd_ne (ne_of_none e hq2)]
        exact (Same.new h4) _ _ ((t2.trans t35) b o e hb)
    · rintro σ H2 ⟨xs, fs, a, b, c, rfl, g1, g2, pf, hm, hf, D2, t2⟩
      rw [List.length_map, List.take_length] at hm
      refine ⟨_, rfl, q2, xs, rfl, .inl ⟨SqL.of g2, fun l hn => ?_⟩⟩
      refine k l xs fs _ upd_same (flds_tk pf (TK.new hn)) ?_ hf (by rw [hm]; exact nd) ?_ (D2.new hn) (t2.trans (But.new hn))
      · rw [← List.length_map (f := (·.1)), hm]; exact hl
      · cases e : H l with
        | none => rfl
        | some o => rw [t2 l o e (D2.neN hn).symm] at hn; cases hn
end
end Cm

set_option Elab.async false
set_option linter.all false
set_option maxRecDepth 100000
set_option maxHeartbeats 4000000
namespace Cm
open PySem L2
/-! ### names -/
theorem uni : ∀ c < 128, Unicode.isAlpha c = (decide (65 ≤ c ∧ c ≤ 90) || decide (97 ≤ c ∧ c ≤ 122)) ∧ Unicode.isLower c = decide (97 ≤ c ∧ c ≤ 122) ∧ Unicode.isUpper c = decide (65 ≤ c ∧ c ≤ 90) ∧ Unicode.isTitle c = false := by decide +kernel
def nameB (x : Str) : Bool := decide (x.length ≤ 8) && (x.cps.all (· < 128) && ((x.length > 0 && x.cps.all Unicode.isAlpha) && (x.cps.any Unicode.isLower && !x.cps.any fun c => Unicode.isUpper c || Unicode.isTitle c)))
theorem nameB_iff (x : Str) : nameB x = true ↔ Nm x := by
  unfold nameB
  simp only [Bool.and_eq_true, decide_eq_true_eq, Bool.not_eq_true', ← Array.all_toList, ← Array.any_toList, List.all_eq_true, List.any_eq_true, List.any_eq_false]
  constructor
  · rintro ⟨h8, ha, ⟨h0, hal⟩, ⟨c0, hc0, hl0⟩, hu⟩
    refine ⟨h0, h8, fun c hc => ?_⟩
    have c1 : c < 128 := ha c hc
    obtain ⟨u1, u2, u3, u4⟩ := uni c c1
    have a1 := hal c hc
    have a2 := hu c hc
    rw [u1] at a1
    rw [u3, u4] at a2
    simp at a1 a2
    omega
  · rintro ⟨h0, h8, lc⟩
    have cc : ∀ c ∈ x.cps.toList, c < 128 ∧ 97 ≤ c ∧ c ≤ 122 := fun c hc => ⟨by have := lc c hc; omega, lc c hc⟩
    refine ⟨h8, fun c hc => (cc c hc).1, ⟨h0, fun c hc => ?_⟩, ?_, fun c hc => ?_⟩
    · rw [(uni c (cc c hc).1).1]; simp [(cc c hc).2]
    · rw [len_cps] at h0
      obtain ⟨c, hc⟩ := List.exists_mem_of_length_pos (show 0 < x.cps.toList.length by omega)
      exact ⟨c, hc, by rw [(uni c (cc c hc).1).2.1]; simp [(cc c hc).2]⟩
    · rw [(uni c (cc c hc).1).2.2.1, (uni c (cc c hc).1).2.2.2]
      have := (cc c hc).2
      simp; omega
structure TxtK (mg : Str → Option Value) : Prop where
  ml : ∃ t, mg "MOST_LETTERS" = some (.int 8 t)
  mf : ∃ t, mg "MOST_FIELDS" = some (.int 4 t)
  lim : ∃ t, mg "LIMIT" = some (.int 999999 t)
section
variable {P : Program} {w : World} {K : PySem.W.Frag} {mg : Str → Option Value} {base : Heap}
def spIsName : Sp := fun vs H Q _ => ∃ x : Str, vs = [.str x] ∧ x.length ≤ sizeLine ∧ Q (.bl (nameB x)) H
theorem scIN : FnScope ["text"] ["text"] (defScope (top 13)) := ⟨rfl, rfl, rfl, by decide +kernel, rfl, by decide +kernel, by decide +kernel⟩
theorem ok_isname {f : Addr} {fd : FuncData} (F : Fun K "is_name" "is_name" (top 13) f fd) (T : Txt K mg) (TK : TxtK mg) : FnOk P w K mg base CX0 1 f fd ["text"] spIsName := by
  refine F.ok scIN (fun vs H Q E h => ?_) (fun cdv A outer s H vs Q E hr h => ?_)
  · obtain ⟨x, rfl, _⟩ := h
    rfl
  · obtain ⟨x, rfl, hl, k⟩ := h
    obtain ⟨t8, m8⟩ := TK.ml
    refine ⟨_, (pss_one
  (ps_ret (pe_and (pe_cmpR op_le (pe_callB call_len_str (by rfl) T.len bt_len (pa_cons (pv 0) pa_nil)) (pe_glob (v := .int 8) rfl m8 ⟨_, rfl⟩) (nomark _)) (pe_and (pe_bm0 PySem.F.plainAttrs_str PySem.F.slot_str_isascii PySem.F.type_str_isascii mt_isascii (pv 0)) (pe_and (pe_bm0 PySem.F.plainAttrs_str PySem.F.slot_str_isalpha PySem.F.type_str_isalpha mt_isalpha (pv 0)) (pe_one (pe_bm0 PySem.F.plainAttrs_str PySem.F.slot_str_islower PySem.F.type_str_islower mt_islower (pv 0)))))))), ?_⟩
    refine ⟨_, rfl, x, rfl, hl, _, _, rfl, rfl, _, rfl, ?_⟩
    unfold nameB at k
    by_cases h8 : x.length ≤ 8
    · refine ifT (by simp; omega) ⟨_, rfl, rfl, x, rfl, rfl, _, rfl, ?_⟩
      rw [decide_eq_true h8, Bool.true_and] at k
      cases h1 : x.cps.all (· < 128) with
      | false => rw [h1] at k; exact ifF h1 k
      | true =>
        rw [h1, Bool.true_and] at k
        refine ifT h1 ⟨_, rfl, rfl, x, rfl, rfl, _, rfl, ?_⟩
        cases h2 : (x.length > 0 && x.cps.all Unicode.isAlpha) with
        | false => rw [h2] at k; exact ifF h2 k
        | true =>
          rw [h2, Bool.true_and] at k
          exact ifT h2 ⟨_, rfl, rfl, x, rfl, rfl, k⟩
    · refine ifF (by simp; omega) ?_
      rw [decide_eq_false h8, Bool.false_and] at k
      exact k
/-! ### need_name, need_fields: of what is in order -/
def spNeedName : Sp := fun vs H Q _ => ∃ x : Str, vs = [.str x] ∧ Nm x ∧ Q .non H
theorem scNN : FnScope ["text"] ["text"] (defScope (top 14)) := ⟨rfl, rfl, rfl, by decide +kernel, rfl, by decide +kernel, by decide +kernel⟩
theorem ok_needname {f fI : Addr} {fd fdI : FuncData} (F : Fun K "need_name" "need_name" (top 14) f fd) (T : Txt K mg) (TK : TxtK mg) (DI : Def K mg "is_name" (top 13) ["text"] fI fdI) : FnOk P w K mg base CX0 2 f fd ["text"] spNeedName := by
  have GI : FnOk P w K mg base CX0 1 fI fdI ["text"] spIsName := ok_isname DI.F T TK
  refine F.ok scNN (fun vs H Q E h => ?_) (fun cdv A outer s H vs Q E hr h => ?_)
  · obtain ⟨x, rfl, _⟩ := h
    rfl
  · obtain ⟨x, rfl, nm, k⟩ := h
    refine ⟨_, (pss_one (ps_if (pt_not (pt_val (pe_call GI hr rfl DI.mg DI.F.kp DI.b .nil pass0 (pa_cons (pv 0) pa_nil)))) (pss_one ps_never) pss_nil)), ?_⟩
    refine ⟨_, rfl, x, rfl, Nat.le_trans nm.hi (by decide), _, rfl, ?_⟩
    rw [(nameB_iff x).mpr nm]
    exact ifF rfl k
def spNeedFields : Sp := fun vs H Q _ => ∃ (a : Addr) (xs : List V) (fs : List Fld), vs = [.ref a] ∧ H a = some (.tup xs) ∧ Paired (FldAt H) xs fs ∧ fs.length ≤ 60 ∧ (∀ f ∈ fs, FldOk f) ∧ (fs.map (·.1)).Nodup ∧ ∀ H', Same H H' → Q .non H'
theorem paired_at {α β : Type} {F : α → β → Prop} : ∀ {xs : List α} {ys : List β} {i : Nat} {x : α}, Paired F xs ys → xs[i]? = some x → ∃ y, ys[i]? = some y ∧ F x y
  | _, _, _, _, .nil, e => by simp at e
  | _, _, 0, _, .cons r _, e => by simp at e; subst e; exact ⟨_, rfl, r⟩
  | _, _, i + 1, x, .cons _ t, e => by
    obtain ⟨y, h1, h2⟩ := paired_at (i := i) (x := x) t (by simpa using e)
    exact ⟨y, by simpa using h1, h2⟩
theorem scNF : FnScope ["fields", "seen", "name", "low", "high"] ["fields"] (defScope (top 15)) := ⟨rfl, rfl, rfl, by decide +kernel, rfl, by decide +kernel, by decide +kernel⟩
theorem ok_needfields {f fI fN : Addr} {fd fdI fdN : FuncData} (F : Fun K "need_fields" "need_fields" (top 15) f fd) (T : Txt K mg) (TK' : TxtK mg) (DI : Def K mg "is_name" (top 13) ["text"] fI fdI) (DN : Def K mg "need_name" (top 14) ["text"] fN fdN) : FnOk P w K mg base CX0 3 f fd ["fields"] spNeedFields := by
  have GN : FnOk P w K mg base CX0 2 fN fdN ["text"] spNeedName := ok_needname DN.F T TK' DI
  refine F.ok scNF (fun vs H Q E h => ?_) (fun cdv A outer s H vs Q E hr h => ?_)
  · obtain ⟨a, xs, fs, rfl, _⟩ := h
    rfl
  · obtain ⟨a, xs, fs, rfl, ha, pf, hl, hf, nd, k⟩ := h
    obtain ⟨tl, ml⟩ := TK'.lim
    refine ⟨_, (pss_cons
  (ps_set (i := 1) scNF.nd rfl (Or.inl rfl) (pe_lst pa_nil))
  (pss_one
  (ps_for PassesOwn.never rfl (pi_tup (pv 0)) (pg_tup rfl (pgs_cons (pg_name (i := 2) scNF.nd rfl (Or.inl rfl)) (pgs_cons (pg_name (i := 3) scNF.nd rfl (Or.inl rfl)) (pgs_cons (pg_name (i := 4) scNF.nd rfl (Or.inl rfl)) pgs_nil))))
    (pss_cons (ps_expr (pe_call GN hr rfl DN.mg DN.F.kp DN.b .nil pass0 (pa_cons (pv 2) pa_nil)))
    (pss_cons (ps_if (pt_cmpR op_in_seq (pv 2) (pv 1) rfl) (pss_one ps_never) pss_nil)
    (pss_cons (ps_if (pt_not (pt_chain3 op_le op_le op_le (pe_un un_neg (pe_glob (v := .int 999999) rfl ml ⟨_, rfl⟩)) (pv 3) (pv 4) (pe_glob (v := .int 999999) rfl ml ⟨_, rfl⟩))) (pss_one ps_never) pss_nil)
    (pss_one (ps_expr (pe_bm PySem.F.plainAttrs_list PySem.F.slot_list_append PySem.F.type_list_append mt_append (pv 1) (pa_cons (pv 2) pa_nil)))))))))), ?_⟩
    refine ⟨(show 0 ≤ sizeLine by decide), fun q hq => ?_⟩
    have pl := Paired.length pf
    have ha' : ∀ {H' : Hp}, Same H H' → H' a = some (.tup xs) := fun e => e _ _ ha
    refine ⟨_, rfl, a, rfl, ⟨_, SqT.of (ha' (Same.new hq))⟩, for_tup (K := K) (a := a) (xs := xs) (fun i σ H1 => ∃ (b c d : Option V), σ = [some (.ref a), some (.ref q), b, c, d] ∧ H1 q = some (.lst (((fs.map (·.1)).take i).map V.str)) ∧ Same H H1)
      ⟨none, none, none, rfl, by rw [upd_same]; simp, Same.new hq⟩ (fun i σ H1 _ ⟨_, _, _, _, _, e⟩ => SqT.of (ha' e)) ?_ ?_⟩
    · rintro i x σ H1 hi ⟨b, c, d, rfl, e1, s1⟩
      obtain ⟨⟨n, lo, hi'⟩, hfi, b', rfl, hb⟩ := paired_at pf hi
      have fo := hf _ (List.mem_of_getElem? hfi)
      have hil : i < fs.length := (List.getElem?_eq_some_iff.mp hfi).1
      refine ⟨b', _, rfl, SqT.of (s1 _ _ hb), rfl, _, _, rfl, _, _, rfl, _, _, rfl, rfl, ?_⟩
      refine ⟨_, rfl, n, rfl, fo.nm, ?_⟩
      have hnot : n ∉ (fs.map (·.1)).take i := by
        intro hm
        have h1 : (fs.map (·.1))[i]? = some n := by rw [List.getElem?_map, hfi]; rfl
        obtain ⟨j, hj, e⟩ := List.getElem_of_mem hm
        rw [List.length_take] at hj
        rw [List.getElem_take] at e
        have h2 : (fs.map (·.1))[j]? = some n := by rw [List.getElem?_eq_getElem (by omega), e]
        have := nodup_ix nd h1 h2
        omega
      refine ⟨_, rfl, _, rfl, q, _, rfl, .inl (SqL.of e1), rfl, ?_, _, rfl, ?_⟩
      · rw [List.all_eq_true]
        intro v hv
        obtain ⟨y, _, rfl⟩ := List.mem_map.mp hv
        rfl
      refine ifF ?_ ?_
      · show inV (.str n) _ = false
        unfold inV
        rw [List.any_map, List.any_eq_false]
        intro y hy hy2
        have : y = n := by simpa [eqV] using hy2
        exact hnot (this ▸ hy)
      have f1 := fo.lo
      have f2 := fo.le
      have f3 := fo.hi
      refine ⟨_, rfl, _, rfl, _, _, rfl, rfl, _, rfl, ifT (by simpa using f1) ?_⟩
      refine ⟨_, rfl, _, _, rfl, rfl, _, rfl, ifT (by simpa using f2) ?_⟩
      refine ⟨_, _, rfl, rfl, _, rfl, ifF (by simpa using f3) ?_⟩
      have lt : ((fs.map (·.1)).take i).length ≤ 60 := by rw [List.length_take, List.length_map]; omega
      refine ⟨_, rfl, .inl ⟨rfl, _, SqL.of e1⟩, _, rfl, q, _, _, rfl, rfl, e1, by rw [List.length_map]; exact small1000 (by omega), ?_⟩
      refine ⟨_, _, _, rfl, ?_, fun c o e => by rw [upd_ne (ne_of_none e hq)]; exact s1 c o e⟩
      rw [upd_same, List.take_add_one, List.getElem?_map, hfi]
      simp
    · rintro σ H1 ⟨b, c, d, rfl, e1, s1⟩
      exact k H1 s1
end
end Cm

set_option Elab.async false
set_option linter.all false
set_option maxRecDepth 100000
set_option maxHeartbeats 4000000
namespace Cm
open PySem L2
/-! ### a def with defaults -/
structure FunD (K : PySem.W.Frag) (x qual : Str) (st : Stmt) (dV : Value) (f : Addr) (fd : FuncData) : Prop where
  ex : ∃ (oc : Value) (od : Option Addr) (kV doc pm : Value) (an : Option Addr) (cdv ct : Value) (osl : Array (Option Value)),
    fd = PySem.W.fnOf x qual (defArgs st) (defBody st) (defScope st) dV kV doc pm an cdv ct ∧ K.lookup f = some ⟨oc, od, .func fd, osl⟩ ∧ PySem.W.codeIn K cdv qual = true
  kp : PySem.W.keepIn K (.ref f) = true
section
variable {P : Program} {w : World} {K : PySem.W.Frag} {mg : Str → Option Value} {base : Heap}
theorem FunD.ok {x qual : Str} {st : Stmt} {dV : Value} {f : Addr} {fd : FuncData} {N ps : List Str} {k : Nat} {sp : Sp} (F : FunD K x qual st dV f fd) (S : FnScope N ps (defScope st)) (len : ∀ vs H Q E, sp vs H Q E → vs.length = ps.length)
    (hbody : ∀ (cdv : Value) (A : Around) (outer : List Env) (s : Shared) (H : Hp) (vs : List V) (Q : VK) (E : XK), Room k (A.deeper (PyProof.Rows.envOfC qual (defScope st) s.heap.objs.size f cdv)) → sp vs H Q E →
      ∃ t, PSs (cxOf CX0 P w K mg base N qual (defScope st) f cdv A outer s H E).nox (defBody st) t ∧ t { nx := fun _ H' => Q .non H', rt := Q } (L2.start N vs) H) : FnOk P w K mg base CX0 (k + 1) f fd ps sp := by
  obtain ⟨oc, od, kV, doc, pm, an, cdv, ct, osl, rfl, lk, hcd⟩ := F.ex
  refine fn_of lk hcd S len fun A outer s H vs Q E hr hsp => ?_
  obtain ⟨t, h, q⟩ := hbody cdv A outer s H vs Q E hr hsp
  exact ⟨t, h.nox, q⟩
/-- how its arguments bind, its defaults a tuple of the module -/
theorem FunD.binds {x qual : Str} {st : Stmt} {f T : Addr} {fd : FuncData} {ps : List Str} {ds : List Value} {oT : Obj} {items : Array Value} {n : Nat} (F : FunD K x qual st (.ref T) f fd) (hT : K.lookup T = some oT) (hd : oT.data = .seq items n)
    (h : ∀ (kV doc pm : Value) (an : Option Addr) (cdv ct : Value) (s : Shared) (us : List Value), s.heap.get? T = some oT → (us ++ ds).length = ps.length → BindsTo s (PySem.W.fnOf x qual (defArgs st) (defBody st) (defScope st) (.ref T) kV doc pm an cdv ct) ⟨us, []⟩ (ps.zip (us ++ ds))) : Binds K fd ps ds := by
  obtain ⟨oc, od, kV, doc, pm, an, cdv, ct, osl, rfl, lk, hcd⟩ := F.ex
  exact fun s us X hl => h kV doc pm an cdv ct s us (X _ _ hT) hl
/-! ### Kind -/
abbrev sInit : Stmt := inClass (top 17) 0
theorem bindInit {T : Addr} {oT : Obj} {d0 : Value} {n : Nat} (hd : oT.data = .seq #[d0] n) (kV doc pm : Value) (an : Option Addr) (cdv ct : Value) (s : Shared) (us : List Value) (hT : s.heap.get? T = some oT) (h : (us ++ []).length = (["self", "name", "fields"] : List Str).length) :
    BindsTo s (PySem.W.fnOf "__init__" "Kind.__init__" (defArgs sInit) (defBody sInit) (defScope sInit) (.ref T) kV doc pm an cdv ct) ⟨us, []⟩ ((["self", "name", "fields"] : List Str).zip (us ++ [])) := by
  rw [List.append_nil] at h ⊢
  match us, h with
  | [a, b, c], _ => exact BindsTo.of_defaults rfl hT hd rfl rfl
/-- what the walk asks of the class -/
structure KCls (K : PySem.W.Frag) (mg : Str → Option Value) (C : Addr) : Prop where
  cl : Cls K C
  nN : NoAttr K C "name"
  nF : NoAttr K C "fields"
  mg : mg "Kind" = some (.ref C)
theorem nf : ¬ (("name" : Str) = "fields") := by decide +kernel
def kf (n : Str) (a : Addr) : List (Str × V) := putF "fields" (.ref a) (putF "name" (.str n) [])
theorem kf_name (n : Str) (a : Addr) : (kf n a).lookup ("name" : Str) = some (.str n) := by
  unfold kf
  rw [lookup_putF, if_neg nf, lookup_putF, if_pos rfl]
theorem kf_fields (n : Str) (a : Addr) : (kf n a).lookup ("fields" : Str) = some (.ref a) := by
  unfold kf
  rw [lookup_putF, if_pos rfl]
/-- a Kind stands at o -/
structure KindAt (C : Addr) (H : Hp) (o : Addr) (n : Str) (a : Addr) (fs : List Fld) : Prop where
  ob : ∃ dx, H o = some (.ins C dx (kf n a))
  tp : ∃ xs, H a = some (.tup xs) ∧ Paired (FldAt H) xs fs
def spInit (C : Addr) : Sp := fun vs H Q _ => ∃ (o dx a : Addr) (n : Str) (xs : List V) (fs : List Fld), vs = [.ref o, .str n, .ref a] ∧ H o = some (.ins C dx []) ∧ Nm n ∧ H a = some (.tup xs) ∧ Paired (FldAt H) xs fs ∧ fs.length ≤ 4 ∧ (∀ f ∈ fs, FldOk f) ∧ (fs.map (·.1)).Nodup ∧
  ∀ H', KindAt C H' o n a fs → (∀ b u, H b = some u → b ≠ o → H' b = some u) → Q .non H'
theorem scKI : FnScope ["self", "name", "fields"] ["self", "name", "fields"] (defScope sInit) := ⟨rfl, rfl, rfl, by decide +kernel, rfl, by decide +kernel, by decide +kernel⟩
theorem ok_init {C f fI fN fF : Addr} {fd fdI fdN fdF : FuncData} {dV : Value} (F : FunD K "__init__" "Kind.__init__" sInit dV f fd) (T : Txt K mg) (TK' : TxtK mg) (KC : KCls K mg C) (DI : Def K mg "is_name" (top 13) ["text"] fI fdI) (DN : Def K mg "need_name" (top 14) ["text"] fN fdN)
    (DF : Def K mg "need_fields" (top 15) ["fields"] fF fdF) : FnOk P w K mg base CX0 4 f fd ["self", "name", "fields"] (spInit C) := by
  have GN : FnOk P w K mg base CX0 2 fN fdN ["text"] spNeedName := ok_needname DN.F T TK' DI
  have GF : FnOk P w K mg base CX0 3 fF fdF ["fields"] spNeedFields := ok_needfields DF.F T TK' DI DN
  refine F.ok scKI (fun vs H Q E h => ?_) (fun cdv A outer s H vs Q E hr h => ?_)
  · obtain ⟨o, dx, a, n, xs, fs, rfl, _⟩ := h
    rfl
  · obtain ⟨o, dx, a, n, xs, fs, rfl, ho, hn, ha, pf, hl, hf, nd, k⟩ := h
    obtain ⟨tf, mf⟩ := TK'.mf
    have hr2 : Room 2 _ := hr.mono (by decide)
    have pl := Paired.length pf
    refine ⟨_, (pss_cons
  (ps_expr (pe_call GN hr2 rfl DN.mg DN.F.kp DN.b .nil pass0 (pa_cons (pv 1) pa_nil)))
  (pss_cons
  (ps_if (pt_cmpR op_gt (pe_callB call_len_seq (by rfl) T.len bt_len (pa_cons (pv 2) pa_nil)) (pe_glob (v := .int 4) rfl mf ⟨_, rfl⟩) (nomark _)) (pss_one ps_never) pss_nil)
  (pss_cons
  (ps_expr (pe_call GF hr rfl DF.mg DF.F.kp DF.b .nil pass0 (pa_cons (pv 2) pa_nil)))
  (pss_cons
  (ps_fld (pv 0) (pv 1) rfl)
  (pss_one
  (ps_fld (pv 0) (pe_callTy call_tuple_of (by rfl) T.tuple bt_tuple (pa_cons (pv 2) pa_nil)) rfl)))))), ?_⟩
    refine ⟨_, rfl, n, rfl, hn, ?_⟩
    refine ⟨_, rfl, a, xs, rfl, .inr (SqT.of ha), _, _, rfl, rfl, _, rfl, ifF (by simp; omega) ?_⟩
    refine ⟨_, rfl, a, xs, fs, rfl, ha, pf, by omega, hf, nd, fun H1 s1 => ?_⟩
    refine ⟨_, rfl, _, rfl, o, C, dx, [], rfl, s1 _ _ ho, KC.cl, KC.nN, (show 0 < 1000 by decide), ?_⟩
    have nao : a ≠ o := ne_of ha ho (by intro z; cases z)
    have ha1 : ∀ u, (upd H1 o u) a = some (.tup xs) := fun u => by rw [upd_ne nao]; exact s1 _ _ ha
    refine ⟨_, rfl, a, xs, rfl, .inr ⟨SqT.of (ha1 _), ?_⟩⟩
    refine ⟨_, rfl, o, C, dx, _, rfl, upd_same, KC.cl, KC.nF, (show 1 < 1000 by decide), ?_⟩
    have keep : ∀ b u, H b = some u → b ≠ o → (upd (upd H1 o (.ins C dx (putF "name" (.str n) []))) o (.ins C dx (kf n a))) b = some u := fun b u e hb => by
      rw [upd_ne hb, upd_ne hb]; exact s1 _ _ e
    refine k _ ⟨⟨dx, upd_same⟩, xs, keep a _ ha nao, flds_tk pf fun b ys e => keep b _ e (ne_of e ho (by intro z; cases z))⟩ keep
end
end Cm

set_option Elab.async false
set_option linter.all false
set_option maxRecDepth 100000
set_option maxHeartbeats 4000000
namespace Cm
open PySem L2 PySem.W
def topA (i : Nat) : Stmt := PySem.Challenge.pw_lanescribe_k03_values_looked_at.main.body.getD i (.Pass ⟨0, 0, 0, 0⟩)
/-! ### _law_ask: what is told of an exception by its class -/
/-- the word that _law_ask makes of an exception of the class Ce with the attributes fs -/
def Caught (K : Frag) (cB cS cM Ce : Addr) (fs : List (Str × V)) (wd : Str) : Prop :=
  (mroIn K Ce (.ref cB) = some true ∧ XGet K Ce "at" ∧ ∃ n : Int, fs.lookup ("at" : Str) = some (.int n) ∧ n.natAbs.log2 < 1920 ∧ ("badvalue " : Str).length + (toString n : Str).length ≤ sizeLine ∧ wd = ("badvalue " : Str) ++ (toString n : Str)) ∨
  (mroIn K Ce (.ref cB) = some false ∧ mroIn K Ce (.ref cS) = some true ∧ XGet K Ce "word" ∧ fs.lookup ("word" : Str) = some (.str wd)) ∨
  (mroIn K Ce (.ref cB) = some false ∧ mroIn K Ce (.ref cS) = some false ∧ mroIn K Ce (.ref cM) = some true ∧ XGet K Ce "word" ∧ fs.lookup ("word" : Str) = some (.str wd))
section
variable {P : Program} {w : World} {K : PySem.W.Frag} {mg : Str → Option Value} {base : Heap}
def spAsk (P : Program) (w : World) (K : PySem.W.Frag) (mg : Str → Option Value) (base : Heap) (k : Nat) (cB cS cM : Addr) : Shared → List Env → Sp := fun s outer vs H Q _ => ∃ g Qv Ev, vs = [.ref g] ∧ Thunk P w K mg base s.heap H (frs outer) k g H Qv Ev ∧
  (∀ v H', Qv v H' → ∀ l, H' l = none → Q (.ref l) (upd H' l (.lst [.str "", v]))) ∧
  ∀ cls dd H', Ev cls dd H' → ∃ Ce da fs wd, cls = .ref Ce ∧ dd = some da ∧ H' da = some (exD da fs) ∧ Caught K cB cS cM Ce fs wd ∧ ∀ l, H' l = none → Q (.ref l) (upd H' l (.lst [.str wd, .non]))
structure TxtA (K : PySem.W.Frag) (mg : Str → Option Value) (cB cS cM : Addr) : Prop where
  str : mg "str" = none
  bv : mg "BadValue" = some (.ref cB)
  se : mg "ScribeError" = some (.ref cS)
  mi : mg "Missing" = some (.ref cM)
  xb : ∃ B n, XCls K cB B n
  xs : ∃ B n, XCls K cS B n
  xm : ∃ B n, XCls K cM B n
theorem scAsk : FnScope ["_law_ask_here", "_law_told", "_law_word_here", "e"] ["_law_ask_here"] (defScope (topA 30)) := ⟨rfl, rfl, rfl, by decide +kernel, rfl, by decide +kernel, by decide +kernel⟩
theorem ok_ask {CX : CXT} {f cB cS cM : Addr} {fd : FuncData} {k : Nat} (F : Fun K "_law_ask" "_law_ask" (topA 30) f fd) (T : TxtA K mg cB cS cM) : FnOkS P w K mg base CX (k + 1) f fd ["_law_ask_here"] (spAsk P w K mg base k cB cS cM) := by
  obtain ⟨B1, n1, x1⟩ := T.xb
  obtain ⟨B2, n2, x2⟩ := T.xs
  obtain ⟨B3, n3, x3⟩ := T.xm
  refine F.okS scAsk (fun s outer vs H Q E h => ?_) (fun cdv A outer s H vs Q E hr h => ?_)
  · obtain ⟨g, Qv, Ev, rfl, _⟩ := h
    rfl
  · obtain ⟨g, Qv, Ev, rfl, Th, hv, he⟩ := h
    refine ⟨_, (pss_cons (ps_set (i := 1) scAsk.nd rfl (Or.inl rfl) pe_non)
      (pss_cons (ps_set (i := 2) scAsk.nd rfl (Or.inl rfl) pe_str)
      (pss_cons (ps_try rfl rfl rfl (psx_thunk (k := k) (i := 1) (j := 0) scAsk.nd rfl (Or.inl rfl) rfl (Or.inl rfl) rfl hr)
        (ph_cons (i := 3) (C := cB) (B := B1) (newId := n1) scAsk.nd rfl rfl (fun ea ps => pe_glob (by rfl) T.bv rfl) (fun ea oe ps Ce dd hm hc hd hvs => pss_one (ps_set (i := 2) scAsk.nd rfl (Or.inl rfl) (pe_op op_add_str pe_str (pe_callTy call_str_int (by rfl) T.str bt_str (pa_cons (pe_xatH hm hc hd hvs (pv 3)) pa_nil)))))
        (ph_cons (i := 3) (C := cS) (B := B2) (newId := n2) scAsk.nd rfl rfl (fun ea ps => pe_glob (by rfl) T.se rfl) (fun ea oe ps Ce dd hm hc hd hvs => pss_one (ps_set (i := 2) scAsk.nd rfl (Or.inl rfl) (pe_xatH hm hc hd hvs (pv 3))))
        (ph_cons (i := 3) (C := cM) (B := B3) (newId := n3) scAsk.nd rfl rfl (fun ea ps => pe_glob (by rfl) T.mi rfl) (fun ea oe ps Ce dd hm hc hd hvs => pss_one (ps_set (i := 2) scAsk.nd rfl (Or.inl rfl) (pe_xatH hm hc hd hvs (pv 3))))
        ph_nil))))
      (pss_one (ps_ret (pe_lst (pa_cons (pv 2) (pa_cons (pv 1) pa_nil)))))))), ?_⟩
    have small : ∀ x y : V, [x, y].length ≤ sizeLine := fun x y => by rw [sizeLine_eq]; show 2 ≤ 16777216; decide
    refine ⟨g, Qv, Ev, rfl, Th, fun v H' q => ?_, fun cls dd H' q => ?_⟩
    · exact ⟨_, rfl, _, rfl, small _ _, fun p hp => hv v H' q p hp⟩
    · obtain ⟨Ce, da, fs, wd, rfl, rfl, hd, hc, hq⟩ := he _ _ _ q
      refine ⟨Ce, rfl, x1, ?_⟩
      rcases hc with ⟨m1, G, n, l, z, zz, rfl⟩ | ⟨m1, m2, G, l⟩ | ⟨m1, m2, m3, G, l⟩
      · refine ⟨true, m1, fun ea => ?_⟩
        exact ⟨_, rfl, da, fs, _, rfl, rfl, hd, G, l, n, rfl, z, _, _, rfl, rfl, zz, _, rfl, _, rfl, small _ _, fun p hp => hq p hp⟩
      · refine ⟨false, m1, x2, true, m2, fun ea => ?_⟩
        exact ⟨_, rfl, da, fs, _, rfl, rfl, hd, G, l, _, rfl, _, rfl, small _ _, fun p hp => hq p hp⟩
      · refine ⟨false, m1, x2, false, m2, x3, true, m3, fun ea => ?_⟩
        exact ⟨_, rfl, da, fs, _, rfl, rfl, hd, G, l, _, rfl, _, rfl, small _ _, fun p hp => hq p hp⟩
end
end Cm

set_option Elab.async false
set_option linter.all false
set_option maxRecDepth 100000
set_option maxHeartbeats 4000000
namespace Cm
open PySem L2 PySem.W
/-! ### the errors' makers -/
abbrev sSE : Stmt := inClass (top 2) 0
abbrev sBV : Stmt := inClass (top 7) 0
section
variable {P : Program} {w : World} {K : PySem.W.Frag} {mg : Str → Option Value} {base : Heap}
theorem FunD.ok1 {CX : CXT} {x qual : Str} {st : Stmt} {dV : Value} {f : Addr} {fd : FuncData} {N ps : List Str} {k : Nat} {sp : Sp} (F : FunD K x qual st dV f fd) (S : FnScope N ps (defScope st)) (len : ∀ vs H Q E, sp vs H Q E → vs.length = ps.length)
    (hbody : ∀ (cdv : Value) (A : Around) (outer : List Env) (s : Shared) (H : Hp) (vs : List V) (Q : VK) (E : XK), Room k (A.deeper (PyProof.Rows.envOfC qual (defScope st) s.heap.objs.size f cdv)) → sp vs H Q E →
      ∃ t, PSs (cxOf CX P w K mg base N qual (defScope st) f cdv A outer s H E) (defBody st) t ∧ t { nx := fun _ H' => Q .non H', rt := Q } (L2.start N vs) H) : FnOk P w K mg base CX (k + 1) f fd ps sp := by
  obtain ⟨oc, od, kV, doc, pm, an, cdv, ct, osl, rfl, lk, hcd⟩ := F.ex
  exact fn_of lk hcd S len fun A outer s H vs Q E hr hsp => hbody cdv A outer s H vs Q E hr hsp
/-- what the text says of a class of errors below ValueError -/
structure ECls (K : Frag) (C : Addr) : Prop where
  x : XCls K C "ValueError" "ValueError.__new__"
  w : takerIn K C "word" = some none
/-- ScribeError.__init__(self, words, word): the exception gets its dict -/
def spSE (K : Frag) : Sp := fun vs H Q _ => ∃ (e C : Addr) (a : V) (b : V), vs = [.ref e, a, b] ∧ ECls K C ∧ H e = some (excO e C none) ∧ ∀ da, H da = none → Q .non (upd (upd H e (excO e C (some da))) da (exD da [("word", b)]))
theorem scSE : FnScope ["self", "words", "word"] ["self", "words", "word"] (defScope sSE) := ⟨rfl, rfl, rfl, by decide +kernel, rfl, by decide +kernel, by decide +kernel⟩
structure TxtE (K : Frag) (mg : Str → Option Value) : Prop where
  ve : mg "ValueError" = none
  fc : findCls K (.type "ValueError") (.type "type") "__init__" = some (.val (.builtin "ValueError.__init__"))
theorem ok_se {CX : CXT} {f : Addr} {fd : FuncData} {dV : Value} (F : FunD K "__init__" "ScribeError.__init__" sSE dV f fd) (T : TxtE K mg) : FnOk P w K mg base CX 1 f fd ["self", "words", "word"] (spSE K) := by
  refine F.ok1 scSE (fun vs H Q E h => ?_) (fun cdv A outer s H vs Q E hr h => ?_)
  · obtain ⟨e, C, a, b, rfl, _⟩ := h
    rfl
  · obtain ⟨e, C, a, b, rfl, EC, he, k⟩ := h
    refine ⟨_, (pss_cons (ps_expr (pe_typeMeth (by rfl) T.ve (by rfl) (by kernel_rfl) (by decide +kernel) T.fc (call_initX PySem.F.excBase_ValueError) (pa_cons (pv 0) (pa_cons (pv 1) pa_nil))))
      (pss_one (ps_fldX (B := "ValueError") (newId := "ValueError.__new__") (pv 0) (pv 2) rfl))), ?_⟩
    exact ⟨_, rfl, _, rfl, e, C, _, _, rfl, he, EC.x, _, rfl, _, rfl, e, C, rfl, EC.x, EC.w, .inl ⟨he, k⟩⟩
/-- BadValue.__init__(self, at) -/
structure ECls2 (K : Frag) (C : Addr) : Prop where
  e : ECls K C
  a : takerIn K C "at" = some none
/-- how a class of the text is asked for its maker -/
structure MkOf (K : Frag) (mg : Str → Option Value) (cn : Str) (C f : Addr) : Prop where
  mg : mg cn = some (.ref C)
  sg : specialIn K (.ref C) "__getattribute__" = some (some (.builtin "type.__getattribute__"))
  rd : ∃ mc, readsIn K C mc = true ∧ findCls K (.ref C) mc "__init__" = some (.val (.ref f))
  kp : keepIn K (.ref f) = true
def bvF (n : Int) : List (Str × V) := putF "at" (.int n) [("word", .str "badvalue")]
def spBV (K : Frag) : Sp := fun vs H Q _ => ∃ (e C : Addr) (n : Int), vs = [.ref e, .int n] ∧ ECls2 K C ∧ H e = some (excO e C none) ∧ n.natAbs.log2 < 1920 ∧ (Str.ofString (toString n)).length ≤ 1000 ∧
  ∀ da, H da = none → Q .non (upd (upd (upd H e (excO e C (some da))) da (exD da [("word", .str "badvalue")])) da (exD da (bvF n)))
theorem scBV : FnScope ["self", "at"] ["self", "at"] (defScope sBV) := ⟨rfl, rfl, rfl, by decide +kernel, rfl, by decide +kernel, by decide +kernel⟩
theorem ok_bv {CX : CXT} {f cS fS : Addr} {fd fdS : FuncData} {dV : Value} (F : Fun K "__init__" "BadValue.__init__" sBV f fd) (T : TxtE K mg) (FS : FunD K "__init__" "ScribeError.__init__" sSE dV fS fdS) (bS : Binds K fdS ["self", "words", "word"] []) (MS : MkOf K mg "ScribeError" cS fS) : FnOk P w K mg base CX 2 f fd ["self", "at"] (spBV K) := by
  have GS : FnOk P w K mg base CX0 1 fS fdS ["self", "words", "word"] (spSE K) := ok_se FS T
  obtain ⟨mc, m1, m2⟩ := MS.rd
  refine F.ok1 scBV (fun vs H Q E h => ?_) (fun cdv A outer s H vs Q E hr h => ?_)
  · obtain ⟨e, C, n, rfl, _⟩ := h
    rfl
  · obtain ⟨e, C, n, rfl, EC, he, hn, hl, k⟩ := h
    refine ⟨_, (pss_cons (ps_expr (pe_clsMeth (E := E0) (by rfl) MS.mg MS.sg m1 m2 MS.kp GS hr bS .nil pass0 (pa_cons (pv 0) (pa_cons (pe_fstr (pf_txt (pf_val (pv 1) pf_nil))) (pa_cons pe_str pa_nil)))))
      (pss_one (ps_fldX (B := "ValueError") (newId := "ValueError.__new__") (pv 0) (pv 1) rfl))), ?_⟩
    have big : 3000 ≤ sizeLine := by decide
    have e1 : (("the values are wrong at " : Str)).length = 24 := by decide +kernel
    refine ⟨_, rfl, ?_, _, rfl, _, .inr ⟨n, rfl, hn, rfl⟩, ?_, ?_, e, C, _, _, rfl, EC.e, he, fun da hda => ⟨_, rfl, _, rfl, e, C, rfl, EC.e.x, EC.a, .inr ⟨da, _, ?_, ?_, ?_, k da hda⟩⟩⟩
    all_goals (try rw [Str.empty_append])
    all_goals (try (first | omega | (simp only [Str.length_append, e1]; omega)))
    · rw [upd_ne (ne_of_none he hda), upd_same]
    · rw [upd_same]
    · decide
end
end Cm

set_option Elab.async false
set_option linter.all false
set_option maxRecDepth 100000
set_option maxHeartbeats 4000000
namespace Cm
open PySem L2 PySem.W
section
variable {P : Program} {w : World} {K : PySem.W.Frag} {mg : Str → Option Value} {base : Heap}
/-! ### errors of one word: BadName, BadBounds, Taken, Full -/
/-! ### a name that is none: need_name raises -/
/-- the exception at hand: its dict is new and tracked, all else is as it was -/
def Thrown (H : Hp) (fs : List (Str × V)) (da : Addr) (H' : Hp) : Prop := H da = none ∧ H' = upd H da (exD da fs)
theorem thrown_of {H : Hp} {e da C : Addr} {fs : List (Str × V)} (h1 : H e = none) (h2 : upd H e (excO e C none) da = none) : Thrown H fs da (unt (upd (upd (upd H e (excO e C none)) e (excO e C (some da))) da (exD da fs)) e) := by
  have ne : da ≠ e := fun q => by subst q; rw [upd_same] at h2; cases h2
  rw [upd_ne ne] at h2
  refine ⟨h2, funext fun b => ?_⟩
  by_cases q : b = e
  · subst q
    rw [unt_same, upd_ne (Ne.symm ne), h1]
  · rw [unt_ne q]
    by_cases r : b = da
    · subst r; rw [upd_same, upd_same]
    · rw [upd_ne r, upd_ne q, upd_ne q, upd_ne r]
end
end Cm

set_option Elab.async false
set_option linter.all false
set_option maxRecDepth 100000
set_option maxHeartbeats 4000000
namespace Cm
open PySem L2 PySem.W
section
variable {P : Program} {w : World} {K : PySem.W.Frag} {mg : Str → Option Value} {base : Heap}
/-! ### need_fields, raising -/
theorem none_back {H H1 : Hp} {e : Addr} (h : Same H H1) (n : H1 e = none) : H e = none := by
  cases z : H e with
  | none => rfl
  | some o => have := h _ _ z; rw [n] at this; cases this
end
end Cm

set_option Elab.async false
set_option linter.all false
set_option maxRecDepth 100000
set_option maxHeartbeats 4000000
namespace Cm
open PySem L2 PySem.W
section
variable {P : Program} {w : World} {K : PySem.W.Frag} {mg : Str → Option Value} {base : Heap}
/-! ### Kind.__init__, raising -/
end
end Cm

set_option Elab.async false
set_option linter.all false
set_option maxRecDepth 100000
set_option maxHeartbeats 4000000
namespace Cm
open PySem L2 PySem.W
section
variable {P : Program} {w : World} {K : PySem.W.Frag} {mg : Str → Option Value} {base : Heap}
/-! ### _law_far -/
abbrev Far : Int := 1000000000000000000000000000000
def spFar : Sp := fun vs H Q _ => ∃ (p dc : Addr), vs = [.ref p] ∧ Dr H p dc ∧ ∀ (z : Int) (H' : Hp), -Far ≤ z → z ≤ Far → Dr H' p dc → But p H H' → Q (.int z) H'
theorem scFar : FnScope ["_law_d", "_law_number"] ["_law_d"] (defScope (top 22)) := ⟨rfl, rfl, rfl, by decide +kernel, rfl, by decide +kernel, by decide +kernel⟩
theorem ok_far {f fP : Addr} {fd fdP : FuncData} (F : Fun K "_law_far" "_law_far" (top 22) f fd) (T : Txt K mg) (DP : Def K mg "_law_pick" (top 20) ["_law_d", "_law_many"] fP fdP) : FnOk P w K mg base CX0 2 f fd ["_law_d"] spFar := by
  have GP : FnOk P w K mg base CX0 1 fP fdP ["_law_d", "_law_many"] spPick := ok_pick DP.F T
  refine F.ok scFar (fun vs H Q E h => ?_) (fun cdv A outer s H vs Q E hr h => ?_)
  · obtain ⟨p, dc, rfl, _⟩ := h
    rfl
  · obtain ⟨p, dc, rfl, D, k⟩ := h
    refine ⟨_, (pss_cons
  (ps_set (i := 1) scFar.nd rfl (Or.inl rfl) (pe_op op_add (pe_op op_pow pe_int pe_int) (pe_call GP hr rfl DP.mg DP.F.kp DP.b .nil pass0 (pa_cons (pv 0) (pa_cons (pe_op op_pow pe_int pe_int) pa_nil)))))
  (pss_one
  (ps_ret (pe_ix ix_list (pe_lst (pa_cons (pv 1) (pa_cons (pe_op op_sub pe_int (pv 1)) pa_nil))) (pe_call GP hr rfl DP.mg DP.F.kp DP.b .nil pass0 (pa_cons (pv 0) (pa_cons pe_int pa_nil))) (fun _ _ => rfl))))), ?_⟩
    have c1 : CPow 10 9 := ⟨by decide, by decide, by decide⟩
    have c2 : CPow 10 29 := ⟨by decide, by decide, by decide⟩
    have p1 : (10 : Int) ^ (9 : Int).toNat = 1000000000 := by decide
    have p2 : (10 : Int) ^ (29 : Int).toNat = 100000000000000000000000000000 := by decide +kernel
    refine ⟨_, _, rfl, rfl, c1, _, rfl, _, _, rfl, rfl, c2, p, dc, _, rfl, D, by rw [p2]; decide, by rw [p2]; decide, fun r H1 a1 b1 D1 t1 => ⟨_, _, rfl, rfl, ?_⟩⟩
    rw [p2] at b1
    rw [p1]
    have z1 : 1000000000 + r ≤ Far := by simp only [Far]; omega
    refine ⟨_, rfl, _, rfl, _, _, rfl, rfl, (show 2 ≤ sizeLine by decide), fun q1 h1 => ?_⟩
    have D2 := D1.new (o := .lst [.int (1000000000 + r), .int (0 - (1000000000 + r))]) h1
    refine ⟨_, rfl, p, dc, _, rfl, D2, by decide, by decide, fun r2 H2 a2 b2 D3 t2 => ?_⟩
    have e1 : SqL K H2 q1 [.int (1000000000 + r), .int (0 - (1000000000 + r))] := D2.seq t2 (SqL.of upd_same)
    have bt : But p H H2 := t1.trans ((But.new h1).trans t2)
    by_cases h0 : r2 = 0
    · subst h0
      exact ⟨_, _, _, _, rfl, rfl, e1, rfl, k _ _ (by simp only [Far] at *; omega) z1 D3 bt⟩
    · obtain rfl : r2 = 1 := by omega
      exact ⟨_, _, _, _, rfl, rfl, e1, rfl, k _ _ (by simp only [Far] at *; omega) (by simp only [Far] at *; omega) D3 bt⟩
end
end Cm

set_option Elab.async false
set_option linter.all false
set_option maxRecDepth 100000
set_option maxHeartbeats 4000000
namespace Cm
open PySem L2 PySem.W
/-! ### where values are wrong -/
def badV : List Fld → List Int → Option Nat
  | [], [] => none
  | [], _ :: _ => some 0
  | _ :: _, [] => some 0
  | f :: fs, z :: zs => if f.2.1 ≤ z ∧ z ≤ f.2.2 then (badV fs zs).map (· + 1) else some 0
def BadInv (fs : List Fld) (zs : List Int) (i : Nat) : Prop := badV fs zs = (badV (fs.drop i) (zs.drop i)).map (· + i)
theorem bad_zero (fs : List Fld) (zs : List Int) : BadInv fs zs 0 := by
  unfold BadInv
  rw [List.drop_zero, List.drop_zero]
  cases badV fs zs <;> rfl
theorem bad_at {fs : List Fld} {zs : List Int} {i : Nat} {f : Fld} {z : Int} (hf : fs[i]? = some f) (hz : zs[i]? = some z) : badV (fs.drop i) (zs.drop i) = if f.2.1 ≤ z ∧ z ≤ f.2.2 then (badV (fs.drop (i + 1)) (zs.drop (i + 1))).map (· + 1) else some 0 := by
  obtain ⟨h1, e1⟩ := List.getElem?_eq_some_iff.mp hf
  obtain ⟨h2, e2⟩ := List.getElem?_eq_some_iff.mp hz
  rw [List.drop_eq_getElem_cons h1, List.drop_eq_getElem_cons h2, e1, e2]
  rfl
theorem bad_ok {fs : List Fld} {zs : List Int} {i : Nat} {f : Fld} {z : Int} (b : BadInv fs zs i) (hf : fs[i]? = some f) (hz : zs[i]? = some z) (h : f.2.1 ≤ z ∧ z ≤ f.2.2) : BadInv fs zs (i + 1) := by
  unfold BadInv at b ⊢
  rw [b, bad_at hf hz, if_pos h]
  cases badV (fs.drop (i + 1)) (zs.drop (i + 1)) with
  | none => rfl
  | some k => simp; omega
theorem bad_no {fs : List Fld} {zs : List Int} {i : Nat} {f : Fld} {z : Int} (b : BadInv fs zs i) (hf : fs[i]? = some f) (hz : zs[i]? = some z) (h : ¬ (f.2.1 ≤ z ∧ z ≤ f.2.2)) : badV fs zs = some i := by
  unfold BadInv at b
  rw [b, bad_at hf hz, if_neg h]
  simp
theorem bad_end {fs : List Fld} {zs : List Int} (b : BadInv fs zs (min fs.length zs.length)) : badV fs zs = if fs.length = zs.length then none else some (min fs.length zs.length) := by
  unfold BadInv at b
  rw [b]
  by_cases h : fs.length = zs.length
  · rw [if_pos h, h, Nat.min_self, List.drop_of_length_le (by omega), List.drop_of_length_le (by omega)]
    rfl
  · rw [if_neg h]
    by_cases l : fs.length ≤ zs.length
    · have h1 : min fs.length zs.length = fs.length := by omega
      rw [h1, List.drop_of_length_le (Nat.le_refl _)]
      cases e : zs.drop fs.length with
      | nil => have := congrArg List.length e; rw [List.length_drop] at this; simp at this; omega
      | cons x r => simp [badV]
    · have h1 : min fs.length zs.length = zs.length := by omega
      rw [h1, List.drop_of_length_le (l := zs) (Nat.le_refl _)]
      cases e : fs.drop zs.length with
      | nil => have := congrArg List.length e; rw [List.length_drop] at this; simp at this; omega
      | cons x r => simp [badV]
theorem bad_le {fs : List Fld} {zs : List Int} {n : Nat} (h : badV fs zs = some n) : n ≤ fs.length ∧ n ≤ zs.length := by
  induction fs generalizing zs n with
  | nil =>
    cases zs with
    | nil => cases h
    | cons z zs => simp [badV] at h; omega
  | cons f fs ih =>
    cases zs with
    | nil => simp [badV] at h; omega
    | cons z zs =>
      simp only [badV] at h
      split at h
      · cases e : badV fs zs with
        | none => rw [e] at h; cases h
        | some k =>
          rw [e] at h
          have := ih e
          simp at h
          simp only [List.length_cons]
          omega
      · simp at h; omega
def bvW (n : Nat) : Str := ("badvalue " : Str) ++ (toString (n : Int) : Str)
def wordV (fs : List Fld) (zs : List Int) : Str := match badV fs zs with
  | none => ""
  | some n => bvW n
theorem small_txt {m : Nat} (hm : m ≤ 100) : (Str.ofString (toString (m : Int))).length ≤ 8 ∧ (m : Int).natAbs.log2 < 1920 := by
  constructor
  · have := int_text_length_le10 (a := (m : Int)) (k := 6) (by decide) (by omega)
    have e : (Str.ofString (toString (m : Int))).length = (toString (m : Int)).length := ofString_length _
    omega
  · by_cases h0 : (m : Int).natAbs = 0
    · rw [h0]; decide
    · exact Nat.lt_trans ((Nat.log2_lt h0).mpr (show (m : Int).natAbs < 2 ^ 20 by omega)) (by decide)
section
variable {P : Program} {w : World} {K : PySem.W.Frag} {mg : Str → Option Value} {base : Heap}
/-! ### _law_value -/
def spVal (K : PySem.W.Frag) : Sp := fun vs H Q _ => ∃ (p dc : Addr) (x : V) (f : Fld), vs = [.ref p, x] ∧ Dr H p dc ∧ FldAt H x f ∧ FldOk f ∧ ∀ (z : Int) (H' : Hp), Dr H' p dc → But p H H' → Q (.int z) H'
theorem scVal : FnScope ["_law_d", "_law_field", "_law_title", "_law_low", "_law_high"] ["_law_d", "_law_field"] (defScope (top 28)) := ⟨rfl, rfl, rfl, by decide +kernel, rfl, by decide +kernel, by decide +kernel⟩
theorem ok_val {f fP fO : Addr} {fd fdP fdO : FuncData} (F : Fun K "_law_value" "_law_value" (top 28) f fd) (T : Txt K mg) (DP : Def K mg "_law_pick" (top 20) ["_law_d", "_law_many"] fP fdP) (DO : Def K mg "_law_of" (top 21) ["_law_d", "_law_things"] fO fdO) :
    FnOk P w K mg base CX0 3 f fd ["_law_d", "_law_field"] (spVal K) := by
  have GP : FnOk P w K mg base CX0 1 fP fdP ["_law_d", "_law_many"] spPick := ok_pick DP.F T
  have GO : FnOk P w K mg base CX0 2 fO fdO ["_law_d", "_law_things"] (spOf K) := ok_of DO.F T DP
  refine F.ok scVal (fun vs H Q E h => ?_) (fun cdv A outer s H vs Q E hr h => ?_)
  · obtain ⟨p, dc, x, f, rfl, _⟩ := h
    rfl
  · obtain ⟨p, dc, x, fl, rfl, D, ⟨b, rfl, hb⟩, fo, k⟩ := h
    have hr1 : Room 1 _ := hr.mono (by decide)
    refine ⟨_, (pss_cons (ps_asg (pv 1) (pg_tup rfl (pgs_cons (pg_name (i := 2) scVal.nd rfl (Or.inl rfl)) (pgs_cons (pg_name (i := 3) scVal.nd rfl (Or.inl rfl)) (pgs_cons (pg_name (i := 4) scVal.nd rfl (Or.inl rfl)) pgs_nil)))))
      (pss_one (ps_ret (pe_call GO hr rfl DO.mg DO.F.kp DO.b .nil pass0 (pa_cons (pv 0) (pa_cons (pe_lst (pa_cons (pv 3) (pa_cons (pv 4) (pa_cons (pe_op op_add (pv 3) (pe_call GP hr1 rfl DP.mg DP.F.kp DP.b .nil pass0 (pa_cons (pv 0) (pa_cons (pe_op op_add (pe_op op_sub (pv 4) (pv 3)) pe_int) pa_nil)))) pa_nil)))) pa_nil)))))), ?_⟩
    have f1 := fo.lo
    have f2 := fo.le
    have f3 := fo.hi
    refine ⟨_, rfl, b, _, rfl, SqT.of hb, rfl, _, _, rfl, _, _, rfl, _, _, rfl, rfl, ?_⟩
    refine ⟨_, rfl, _, rfl, _, rfl, _, rfl, _, rfl, _, rfl, _, rfl, _, _, rfl, rfl, _, _, rfl, rfl, p, dc, _, rfl, D, by omega, by omega, fun r H1 r0 r1 D1 t1 => ⟨_, _, rfl, rfl, (show 3 ≤ sizeLine by decide), fun q hq => ?_⟩⟩
    refine ⟨p, dc, q, _, rfl, D1.new hq, SqL.of upd_same, by simp, by simp, fun y H2 hy D2 t2 => ?_⟩
    obtain ⟨z, rfl⟩ : ∃ z : Int, y = .int z := by
      simp only [List.mem_cons, List.not_mem_nil, or_false] at hy
      rcases hy with rfl | rfl | rfl
      all_goals exact ⟨_, rfl⟩
    exact k z H2 D2 ((t1.trans (But.new hq)).trans t2)
/-! ### _law_values -/
def spVals (K : PySem.W.Frag) : Sp := fun vs H Q _ => ∃ (p dc a : Addr) (xs : List V) (fs : List Fld), vs = [.ref p, .ref a] ∧ Dr H p dc ∧ H a = some (.tup xs) ∧ Paired (FldAt H) xs fs ∧ (∀ f ∈ fs, FldOk f) ∧ fs.length ≤ 60 ∧
  ∀ (b : Addr) (zs : List Int) (H' : Hp), H' b = some (.tup (zs.map V.int)) → zs.length = fs.length → Dr H' p dc → But p H H' → H b = none → Q (.ref b) H'
theorem scVals : FnScope ["_law_d", "_law_fields_here"] ["_law_d", "_law_fields_here"] (defScope (top 29)) := ⟨rfl, rfl, rfl, by decide +kernel, rfl, by decide +kernel, by decide +kernel⟩
theorem ok_vals {f fP fO fV : Addr} {fd fdP fdO fdV : FuncData} (F : Fun K "_law_values" "_law_values" (top 29) f fd) (T : Txt K mg) (DP : Def K mg "_law_pick" (top 20) ["_law_d", "_law_many"] fP fdP) (DO : Def K mg "_law_of" (top 21) ["_law_d", "_law_things"] fO fdO)
    (DV : Def K mg "_law_value" (top 28) ["_law_d", "_law_field"] fV fdV) : FnOk P w K mg base CX0 4 f fd ["_law_d", "_law_fields_here"] (spVals K) := by
  have GV : FnOk P w K mg base CX0 3 fV fdV ["_law_d", "_law_field"] (spVal K) := ok_val DV.F T DP DO
  refine F.ok scVals (fun vs H Q E h => ?_) (fun cdv A outer s H vs Q E hr h => ?_)
  · obtain ⟨p, dc, a, xs, fs, rfl, _⟩ := h
    rfl
  · obtain ⟨p, dc, a, xs, fs, rfl, D, ha, pf, fo, fl, k⟩ := h
    refine ⟨_, (pss_one (ps_ret (pe_callTy call_tuple_of (by rfl) T.tuple bt_tuple (pa_cons (pe_comp (g := gName 0) (own := ["_law_field"]) (js := [0]) (N' := ["_law_field", "_law_d"]) (CompScope.of (osc := defScope (top 29)) (N := ["_law_d", "_law_fields_here"]) rfl rfl ⟨rfl, by decide +kernel, by decide +kernel, by decide +kernel, rfl, by decide +kernel⟩) rfl (pi_tup (pv 1)) (fun _ _ _ _ _ => (pg_name (i := 0) (show List.Nodup (["_law_field", "_law_d"] : List Str) by decide +kernel) rfl (Or.inl rfl) (Or.inr rfl))) (fun _ _ _ _ _ => pifs_nil) (fun _ _ _ _ _ => pe_call GV hr rfl DV.mg DV.F.kp DV.b .nil pass0 (pa_cons (pv 1) (pa_cons (pv 0) pa_nil)))) pa_nil)))), ?_⟩
    have pl := Paired.length pf
    have tkB : ∀ {H1 H2 : Hp}, Dr H1 p dc → But p H1 H2 → TK H1 H2 := fun d b c ys e => b _ _ e (d.ne e (by intro kvs z; cases z))
    refine ⟨_, rfl, a, rfl, ⟨_, SqT.of ha⟩, ?_⟩
    refine comp_tup (K := K) (a := a) (xs := xs) (fun i ys σ' H' => (∃ v, σ' = [v, some (.ref p)]) ∧ Dr H' p dc ∧ But p H H' ∧ ∃ zs : List Int, ys = zs.map V.int) (Nat.le_trans (show xs.length ≤ 60 by omega) (by decide)) ⟨⟨none, rfl⟩, D, But.refl, [], rfl⟩ (fun i ys σ' H' _ ⟨_, d', b', _⟩ => SqT.of (tkB D b' _ _ ha)) ?_ ?_
    · rintro i x ys σ' H1 hi hys ⟨⟨v, rfl⟩, D1, b1, zs, rfl⟩ N hN
      obtain ⟨f', hf', hx⟩ := paired_at (flds_tk pf (tkB D b1)) hi
      refine ⟨_, rfl, _, rfl, p, dc, x, f', rfl, D1, hx, fo f' (List.mem_of_getElem? hf'), fun z H2 D2 t2 => ?_⟩
      exact hN _ _ _ (by rw [List.length_append, hys]; rfl) ⟨⟨_, rfl⟩, D2, b1.trans t2, zs ++ [z], by rw [List.map_append]; rfl⟩
    · rintro ys σ' H1 hys ⟨⟨v, rfl⟩, D1, b1, zs, rfl⟩
      refine ⟨by rw [hys]; exact Nat.le_trans (show xs.length ≤ 60 by omega) (by decide), fun l hl => ?_⟩
      refine ⟨l, _, rfl, .inl ⟨SqL.of upd_same, fun t ht => ?_⟩⟩
      rw [List.length_map] at hys
      have hn : H t = none := by
        cases e : H t with
        | none => rfl
        | some o =>
          by_cases tp : t = p
          · subst tp
            obtain ⟨kvs, e2⟩ := (D1.new (o := .lst (zs.map V.int)) hl).dk
            rw [ht] at e2; cases e2
          · have := But.new (o := .lst (zs.map V.int)) hl t o (b1 t o e tp) tp
            rw [ht] at this; cases this
      exact k t zs _ upd_same (by omega) ((D1.new hl).new ht) ((b1.trans (But.new hl)).trans (But.new ht)) hn
end
end Cm

set_option Elab.async false
set_option linter.all false
set_option maxRecDepth 100000
set_option maxHeartbeats 4000000
namespace Cm
open PySem L2 PySem.W
theorem _root_.L2.EvR.ixTu {K : PySem.W.Frag} {H : Hp} {a : Addr} {xs : List V} {i : Int} {v : V} (h : SqT K H a xs) (e : atI xs i = some v) : EvR (rIx K) (.ref a) (.int i) H v := fun Q q => .inr (.inl ⟨a, xs, i, v, rfl, rfl, h, e, q⟩)
section
variable {P : Program} {w : World} {K : PySem.W.Frag} {mg : Str → Option Value} {base : Heap}
/-! ### _law_values_word -/
def spVW (K : PySem.W.Frag) : Sp := fun vs H Q _ => ∃ (a b : Addr) (xs : List V) (fs : List Fld) (zs : List Int), vs = [.ref a, .ref b] ∧ H a = some (.tup xs) ∧ Paired (FldAt H) xs fs ∧ H b = some (.tup (zs.map V.int)) ∧ fs.length ≤ 60 ∧ zs.length ≤ 70 ∧ Q (.str (wordV fs zs)) H
theorem scVW : FnScope ["_law_fields_here", "_law_values_here", "_law_least", "_law_at"] ["_law_fields_here", "_law_values_here"] (defScope (top 32)) := ⟨rfl, rfl, rfl, by decide +kernel, rfl, by decide +kernel, by decide +kernel⟩
theorem ok_vw {f : Addr} {fd : FuncData} (F : Fun K "_law_values_word" "_law_values_word" (top 32) f fd) (T : Txt K mg) : FnOk P w K mg base CX0 1 f fd ["_law_fields_here", "_law_values_here"] (spVW K) := by
  refine F.ok scVW (fun vs H Q E h => ?_) (fun cdv A outer s H vs Q E hr h => ?_)
  · obtain ⟨a, b, xs, fs, zs, rfl, _⟩ := h
    rfl
  · obtain ⟨a, b, xs, fs, zs, rfl, ha, pf, hb, fl, zl, k⟩ := h
    refine ⟨_, (pss_cons (ps_set (i := 2) scVW.nd rfl (Or.inl rfl) (pe_callB (call_min2 rfl) (by rfl) T.min bt_min (pa_cons (pe_callB call_len_seq (by rfl) T.len bt_len (pa_cons (pv 0) pa_nil)) (pa_cons (pe_callB call_len_seq (by rfl) T.len bt_len (pa_cons (pv 1) pa_nil)) pa_nil))))
      (pss_cons (ps_for PassesOwn.never rfl (pi_range1 rfl T.range (pa_cons (pv 2) pa_nil)) (pg_name (i := 3) scVW.nd rfl (Or.inl rfl))
        (pss_one (ps_if (pt_not (pt_chain op_le op_le (pe_ix (r := rIx K) ix_seq (pe_ix (r := rIx K) ix_seq (pv 0) (pv 3) (fun _ _ => rfl)) pe_int (fun _ _ => rfl)) (pe_ix (r := rIx K) ix_seq (pv 1) (pv 3) (fun _ _ => rfl)) (pe_ix (r := rIx K) ix_seq (pe_ix (r := rIx K) ix_seq (pv 0) (pv 3) (fun _ _ => rfl)) pe_int (fun _ _ => rfl))))
          (pss_one (ps_ret (pe_op op_add_str pe_str (pe_callTy call_str_int (by rfl) T.str bt_str (pa_cons (pv 3) pa_nil))))) pss_nil)))
      (pss_one (ps_ret (pe_ifExp (pt_cmpR op_eq (pe_callB call_len_seq (by rfl) T.len bt_len (pa_cons (pv 0) pa_nil)) (pe_callB call_len_seq (by rfl) T.len bt_len (pa_cons (pv 1) pa_nil)) (nomark _)) pe_str (pe_op op_add_str pe_str (pe_callTy call_str_int (by rfl) T.str bt_str (pa_cons (pv 2) pa_nil)))))))), ?_⟩
    have pl := Paired.length pf
    have zl' : (zs.map V.int).length = zs.length := List.length_map ..
    have big : 100 ≤ sizeLine := by decide
    have e9 : ("badvalue " : Str).length = 9 := by decide +kernel
    have mn : min (xs.length : Int) ((zs.map V.int).length : Int) = ((min fs.length zs.length : Nat) : Int) := by rw [zl', pl]; omega
    refine ⟨_, rfl, a, xs, rfl, .inr (SqT.of ha), _, rfl, b, _, rfl, .inr (SqT.of hb), ?_⟩
    refine ⟨_, _, rfl, ?_⟩
    have mn' : (if ((zs.map V.int).length : Int) < (xs.length : Int) then ((zs.map V.int).length : Int) else (xs.length : Int)) = ((min fs.length zs.length : Nat) : Int) := by
      rw [zl', pl]
      split <;> omega
    rw [mn']
    have ml : min fs.length zs.length ≤ 60 := by omega
    refine ⟨_, rfl, _, rfl, by omega, by omega, for_range (n := ((min fs.length zs.length : Nat) : Int).toNat) (fun i σ' H' => (∃ v, σ' = [some (.ref a), some (.ref b), some (.int ((min fs.length zs.length : Nat) : Int)), v]) ∧ H = H' ∧ BadInv fs zs i) ⟨⟨none, rfl⟩, rfl, bad_zero fs zs⟩ ?_ ?_⟩
    · rintro i σ' H' hi ⟨⟨v, rfl⟩, rfl, bi⟩
      rw [Int.toNat_natCast] at hi
      have l1 : i < fs.length := by omega
      have l2 : i < zs.length := by omega
      have hf : fs[i]? = some fs[i] := List.getElem?_eq_getElem l1
      have hz : zs[i]? = some zs[i] := List.getElem?_eq_getElem l2
      have hx : xs[i]? = some xs[i] := List.getElem?_eq_getElem (by omega)
      obtain ⟨f', hf', bb, ex, hbb⟩ := paired_at pf hx
      rw [hf] at hf'
      cases hf'
      have ax : atI xs (0 + (i : Int)) = some (.ref bb) := by rw [Int.zero_add, ← ex]; exact atI_nat hx
      have az : atI (zs.map V.int) (0 + (i : Int)) = some (.int zs[i]) := by rw [Int.zero_add]; exact atI_nat (by rw [List.getElem?_map, hz]; rfl)
      have q1 : SqT K H bb [.str fs[i].1, .int fs[i].2.1, .int fs[i].2.2] := SqT.of hbb
      dsimp only [gName]
      refine EvT.iff (EvT.not (EvT.test (EvE.chain (EvE.op (EvE.op (EvE.var rfl) (EvE.var rfl) (EvR.ixTu (SqT.of ha) ax)) EvE.con (EvR.ixTu q1 rfl)) (EvE.op (EvE.var rfl) (EvE.var rfl) (EvR.ixTu (SqT.of hb) az)) (EvE.op (EvE.op (EvE.var rfl) (EvE.var rfl) (EvR.ixTu (SqT.of ha) ax)) EvE.con (EvR.ixTu q1 rfl)) EvR.i0 EvR.i0))) ?_
      refine ite2 (fun h => ?_) (fun h => ?_)
      · have nb : ¬ (fs[i].2.1 ≤ zs[i] ∧ zs[i] ≤ fs[i].2.2) := by
          intro z
          simp [z.1, z.2] at h
        have e := bad_no bi hf hz nb
        have tx := small_txt (m := i) (by omega)
        refine ⟨_, rfl, _, rfl, (by rw [Int.zero_add]; exact tx.2), _, _, rfl, rfl, ?_, ?_⟩
        · rw [Int.zero_add, e9]
          have := tx.1
          show 9 + (Str.ofString (toString (i : Int))).length ≤ sizeLine
          omega
        · have k2 := k
          unfold wordV at k2
          rw [e] at k2
          rw [Int.zero_add]
          exact k2
      · have yb : fs[i].2.1 ≤ zs[i] ∧ zs[i] ≤ fs[i].2.2 := by
          simpa using h
        exact ⟨⟨_, rfl⟩, rfl, bad_ok bi hf hz yb⟩
    · rintro σ' H' ⟨⟨v, rfl⟩, rfl, bi⟩
      rw [Int.toNat_natCast] at bi
      have e := bad_end bi
      refine ⟨_, rfl, a, xs, rfl, .inr (SqT.of ha), _, rfl, b, _, rfl, .inr (SqT.of hb), rfl, _, rfl, ite2 (fun h => ?_) (fun h => ?_)⟩
      · have he : fs.length = zs.length := by
          simp at h
          omega
        have k2 := k
        unfold wordV at k2
        rw [e, if_pos he] at k2
        exact k2
      · have he : ¬ fs.length = zs.length := by
          intro z
          simp [pl, z] at h
        have tx := small_txt (m := min fs.length zs.length) (by omega)
        refine ⟨_, rfl, _, rfl, tx.2, _, _, rfl, rfl, ?_, ?_⟩
        · rw [e9]
          have := tx.1
          show 9 + (Str.ofString (toString ((min fs.length zs.length : Nat) : Int))).length ≤ sizeLine
          omega
        · have k2 := k
          unfold wordV at k2
          rw [e, if_neg he] at k2
          exact k2
end
end Cm

set_option Elab.async false
set_option linter.all false
set_option maxRecDepth 100000
set_option maxHeartbeats 4000000
namespace Cm
open PySem L2 PySem.W
theorem eraseIdx_ints : ∀ (ws : List Int) (k : Nat), (ws.map V.int).eraseIdx k = (ws.eraseIdx k).map V.int
  | [], _ => by simp
  | w :: ws, 0 => by simp
  | w :: ws, k + 1 => by
    rw [List.map_cons, List.eraseIdx_cons_succ, List.eraseIdx_cons_succ, List.map_cons, eraseIdx_ints ws k]
section
variable {P : Program} {w : World} {K : PySem.W.Frag} {mg : Str → Option Value} {base : Heap}
/-! ### _law_bent_values -/
def spBVs (K : PySem.W.Frag) : Sp := fun vs H Q _ => ∃ (p dc b : Addr) (v : V) (zs : List Int), vs = [.ref p, v, .ref b] ∧ Dr H p dc ∧ H b = some (.tup (zs.map V.int)) ∧ zs.length ≤ 60 ∧
  ∀ (b' : Addr) (ws : List Int) (H' : Hp), H' b' = some (.tup (ws.map V.int)) → ws.length ≤ 70 → Dr H' p dc → But p H H' → H b' = none → Q (.ref b') H'
abbrev NBV : List Str := ["_law_d", "_law_fields_here", "_law_values_here", "_law_some", "_law_step", "_law_at", "_law_way"]
theorem scBVs : FnScope NBV ["_law_d", "_law_fields_here", "_law_values_here"] (defScope (top 31)) := ⟨rfl, rfl, rfl, by decide +kernel, rfl, by decide +kernel, by decide +kernel⟩
theorem ok_bvs {f fP fO fF : Addr} {fd fdP fdO fdF : FuncData} (F : Fun K "_law_bent_values" "_law_bent_values" (top 31) f fd) (T : Txt K mg) (DP : Def K mg "_law_pick" (top 20) ["_law_d", "_law_many"] fP fdP) (DO : Def K mg "_law_of" (top 21) ["_law_d", "_law_things"] fO fdO)
    (DF : Def K mg "_law_far" (top 22) ["_law_d"] fF fdF) : FnOk P w K mg base CX0 3 f fd ["_law_d", "_law_fields_here", "_law_values_here"] (spBVs K) := by
  have GP : FnOk P w K mg base CX0 1 fP fdP ["_law_d", "_law_many"] spPick := ok_pick DP.F T
  have GO : FnOk P w K mg base CX0 2 fO fdO ["_law_d", "_law_things"] (spOf K) := ok_of DO.F T DP
  have GF : FnOk P w K mg base CX0 2 fF fdF ["_law_d"] spFar := ok_far DF.F T DP
  refine F.ok scBVs (fun vs H Q E h => ?_) (fun cdv A outer s H vs Q E hr h => ?_)
  · obtain ⟨p, dc, b, v, zs, rfl, _⟩ := h
    rfl
  · obtain ⟨p, dc, b, v, zs, rfl, D, hb, zl, k⟩ := h
    have hr1 : Room 1 (A.deeper (PyProof.Rows.envOfC "_law_bent_values" (defScope (top 31)) s.heap.objs.size f cdv)) := hr.mono (by decide)
    refine ⟨_, (pss_cons (ps_set (i := 3) scBVs.nd rfl (Or.inl rfl) (pe_callTy call_list_of (by rfl) T.list bt_list (pa_cons (pv 2) pa_nil)))
      (pss_cons (ps_for PassesOwn.never rfl (pi_range1 rfl T.range (pa_cons (pe_call GP hr1 rfl DP.mg DP.F.kp DP.b .nil pass0 (pa_cons (pv 0) (pa_cons pe_int pa_nil))) pa_nil)) (pg_name (i := 4) scBVs.nd rfl (Or.inl rfl))
        (pss_cons (ps_set (i := 5) scBVs.nd rfl (Or.inl rfl) (pe_call GP hr1 rfl DP.mg DP.F.kp DP.b .nil pass0 (pa_cons (pv 0) (pa_cons (pe_op op_add (pe_callB call_len_seq (by rfl) T.len bt_len (pa_cons (pv 3) pa_nil)) pe_int) pa_nil))))
        (pss_cons (ps_set (i := 6) scBVs.nd rfl (Or.inl rfl) (pe_call GP hr1 rfl DP.mg DP.F.kp DP.b .nil pass0 (pa_cons (pv 0) (pa_cons pe_int pa_nil))))
        (pss_one (ps_if (PW.pt (pw_or (pt_cmpR op_eq (pv 5) (pe_callB call_len_seq (by rfl) T.len bt_len (pa_cons (pv 3) pa_nil)) (nomark _)) (pw_or1 (pt_cmpR op_eq (pv 6) pe_int (nomark _)))))
          (pss_one (ps_expr (pe_bm PySem.F.plainAttrs_list PySem.F.slot_list_insert PySem.F.type_list_insert mt_insert (pv 3) (pa_cons (pv 5) (pa_cons (pe_call GO hr rfl DO.mg DO.F.kp DO.b .nil pass0 (pa_cons (pv 0) (pa_cons (pe_lst (pa_cons pe_int (pa_cons pe_int (pa_cons (pe_call GF hr rfl DF.mg DF.F.kp DF.b .nil pass0 (pa_cons (pv 0) pa_nil)) pa_nil)))) pa_nil))) pa_nil)))))
          (pss_one (ps_if (pt_cmpR op_eq (pv 6) pe_int (nomark _))
            (pss_one (ps_expr (pe_bm PySem.F.plainAttrs_list PySem.F.slot_list_pop PySem.F.type_list_pop mt_popAt (pv 3) (pa_cons (pv 5) pa_nil))))
            (pss_one (ps_asg (pe_op op_add (pe_ix ix_list (pv 3) (pv 5) (fun _ _ => rfl)) (pe_call GO hr rfl DO.mg DO.F.kp DO.b .nil pass0 (pa_cons (pv 0) (pa_cons (pe_lst (pa_cons pe_int (pa_cons (pe_un un_neg pe_int) (pa_cons pe_int (pa_cons (pe_un un_neg pe_int) (pa_cons (pe_call GF hr rfl DF.mg DF.F.kp DF.b .nil pass0 (pa_cons (pv 0) pa_nil)) pa_nil)))))) pa_nil)))) (pg_sub (pv 3) (pv 5) set_list))))))))))
      (pss_one (ps_ret (pe_callTy call_tuple_of (by rfl) T.tuple bt_tuple (pa_cons (pv 3) pa_nil)))))), ?_⟩
    refine ⟨_, rfl, b, _, rfl, .inr (SqT.of hb), fun q hq => ?_⟩
    have D0 := D.new (o := .lst (zs.map V.int)) hq
    have npq : q ≠ p := (D.neN hq).symm
    have nqd : q ≠ dc := by
      obtain ⟨ws, e⟩ := D.cell
      exact (ne_of_none e hq).symm
    refine ⟨_, rfl, p, dc, _, rfl, D0, by decide, by decide, fun r H1 r0 r1 D1 t1 => ?_⟩
    have b1 : But p H H1 := (But.new hq).trans t1
    refine ⟨_, rfl, by omega, by omega, for_range (n := r.toNat) (fun i σ H2 => ∃ (ws : List Int) (u1 u2 u3 : Option V), σ = [some (.ref p), some v, some (.ref b), some (.ref q), u1, u2, u3] ∧ H2 q = some (.lst (ws.map V.int)) ∧ ws.length ≤ 60 + i ∧ Dr H2 p dc ∧ But p H H2)
      ⟨zs, none, none, none, rfl, t1 _ _ upd_same npq, by omega, D1, b1⟩ ?_ ?_⟩
    · rintro i σ H2 hi ⟨ws, u1, u2, u3, rfl, e2, wl, D2, b2⟩
      have wl' : (ws.map V.int).length = ws.length := List.length_map ..
      have put : ∀ {H5 : Hp} {ws' : List Int} {v1 v2 v3 : Option V}, H5 q = some (.lst (ws.map V.int)) → ws'.length ≤ 60 + (i + 1) → Dr H5 p dc → But p H H5 →
          ∃ (ws'' : List Int) (u1 u2 u3 : Option V), [some (V.ref p), some v, some (V.ref b), some (V.ref q), v1, v2, v3] = [some (.ref p), some v, some (.ref b), some (.ref q), u1, u2, u3] ∧ upd H5 q (.lst (ws'.map V.int)) q = some (.lst (ws''.map V.int)) ∧ ws''.length ≤ 60 + (i + 1) ∧ Dr (upd H5 q (.lst (ws'.map V.int))) p dc ∧ But p H (upd H5 q (.lst (ws'.map V.int))) :=
        fun {H5 ws' v1 v2 v3} e5 l5 D5 b5 => ⟨ws', v1, v2, v3, rfl, upd_same, l5, D5.put npq nqd, fun b o e hb => by rw [upd_ne (ne_of_none e hq)]; exact b5 b o e hb⟩
      have r2 : i ≤ 1 := by omega
      refine ⟨_, rfl, _, rfl, q, _, rfl, .inl (SqL.of e2), _, _, rfl, rfl, p, dc, _, rfl, D2, by omega, by omega, fun at' H3 a0 a1 D3 t3 => ?_⟩
      refine ⟨_, rfl, p, dc, _, rfl, D3, by decide, by decide, fun wy H4 w0 w1 D4 t4 => ?_⟩
      obtain ⟨at', rfl⟩ := Int.eq_ofNat_of_zero_le a0
      have t24 : But p H2 H4 := t3.trans t4
      have e4 : H4 q = some (.lst (ws.map V.int)) := t24 _ _ e2 npq
      have b4 : But p H H4 := b2.trans t24
      have atl : at' ≤ ws.length := by omega
      -- a number goes in
      have way1 : ∀ v1 v2 v3 : Option V, ∀ (x : V) (H5 : Hp), (∃ z : Int, x = .int z) → Dr H5 p dc → But p H4 H5 → ∃ (ws'' : List Int) (u1 u2 u3 : Option V), [some (V.ref p), some v, some (V.ref b), some (V.ref q), v1, v2, v3] = [some (.ref p), some v, some (.ref b), some (.ref q), u1, u2, u3] ∧ upd H5 q (.lst ((ws.map V.int).take at' ++ x :: (ws.map V.int).drop at')) q = some (.lst (ws''.map V.int)) ∧ ws''.length ≤ 60 + (i + 1) ∧ Dr (upd H5 q (.lst ((ws.map V.int).take at' ++ x :: (ws.map V.int).drop at'))) p dc ∧ But p H (upd H5 q (.lst ((ws.map V.int).take at' ++ x :: (ws.map V.int).drop at'))) := by
        rintro v1 v2 v3 x H5 ⟨z, rfl⟩ D5 t5
        have e : (ws.map V.int).take at' ++ V.int z :: (ws.map V.int).drop at' = (ws.take at' ++ z :: ws.drop at').map V.int := by rw [List.map_append, List.map_cons, List.map_take, List.map_drop]
        rw [e]
        exact put (t5 _ _ e4 npq) (by rw [List.length_append, List.length_cons, List.length_take, List.length_drop]; omega) D5 (b4.trans t5)
      have ins : ∀ (D' : Ends) (v1 v2 : Option V), True := fun _ _ _ => trivial
      have three : ∀ {x : V} {z : Int}, x ∈ [V.int 0, V.int 1, V.int z] → ∃ z : Int, x = .int z := fun {x z} h => by
        simp only [List.mem_cons, List.not_mem_nil, or_false] at h
        rcases h with rfl | rfl | rfl
        all_goals exact ⟨_, rfl⟩
      refine ⟨_, rfl, _, rfl, q, _, rfl, .inl (SqL.of e4), rfl, _, rfl, ?_⟩
      by_cases hal : at' = ws.length
      · refine ifT (by rw [wl']; simp [hal]) (ifT rfl ?_)
        refine ⟨_, rfl, .inl ⟨rfl, _, SqL.of e4⟩, _, rfl, _, rfl, _, rfl, p, dc, rfl, D4, fun fz H5 f0 f1 D5 t5 => ⟨(show 3 ≤ sizeLine by decide), fun l hl => ?_⟩⟩
        refine ⟨p, dc, l, _, rfl, D5.new hl, SqL.of upd_same, by simp, by simp, fun x H6 hx D6 t6 => ?_⟩
        have t46 : But p H4 H6 := (t5.trans (But.new hl)).trans t6
        exact ⟨q, _, at', x, rfl, rfl, t46 _ _ e4 npq, by rw [wl']; exact atl, by rw [wl']; omega, way1 _ _ _ x H6 (three hx) D6 t46⟩
      · refine ifF (by rw [wl']; simp; omega) ?_
        refine ⟨_, rfl, rfl, _, rfl, ?_⟩
        have atl' : at' < ws.length := by omega
        by_cases hw0 : wy = 0
        · subst hw0
          refine ifT rfl ?_
          refine ⟨_, rfl, .inl ⟨rfl, _, SqL.of e4⟩, _, rfl, _, rfl, _, rfl, p, dc, rfl, D4, fun fz H5 f0 f1 D5 t5 => ⟨(show 3 ≤ sizeLine by decide), fun l hl => ?_⟩⟩
          refine ⟨p, dc, l, _, rfl, D5.new hl, SqL.of upd_same, by simp, by simp, fun x H6 hx D6 t6 => ?_⟩
          have t46 : But p H4 H6 := (t5.trans (But.new hl)).trans t6
          exact ⟨q, _, at', x, rfl, rfl, t46 _ _ e4 npq, by rw [wl']; exact atl, by rw [wl']; omega, way1 _ _ _ x H6 (three hx) D6 t46⟩
        · refine ifF (by simpa using hw0) ?_
          refine ⟨_, rfl, rfl, _, rfl, ?_⟩
          by_cases hw1 : wy = 1
          · subst hw1
            refine ifT rfl ?_
            refine ⟨_, rfl, .inl ⟨rfl, _, SqL.of e4⟩, _, rfl, q, _, _, at', .int ws[at'], rfl, rfl, e4, by omega, by omega, ?_, by rw [List.getElem?_map, List.getElem?_eq_getElem atl']; rfl, ?_⟩
            · unfold seqIndex?
              rw [wl']
              simp
              omega
            · have e : (ws.map V.int).eraseIdx at' = (ws.eraseIdx at').map V.int := eraseIdx_ints ws at'
              rw [e]
              exact put e4 (by rw [List.length_eraseIdx]; split <;> omega) D4 b4
          · refine ifF (by simpa using hw1) ?_
            refine ⟨_, rfl, _, rfl, q, _, _, .int ws[at'], rfl, rfl, SqL.of e4, atI_nat (by rw [List.getElem?_map, List.getElem?_eq_getElem atl']; rfl), ?_⟩
            refine ⟨_, rfl, _, rfl, _, rfl, _, rfl, p, dc, rfl, D4, fun fz H5 f0 f1 D5 t5 => ⟨(show 5 ≤ sizeLine by decide), fun l hl => ?_⟩⟩
            refine ⟨p, dc, l, _, rfl, D5.new hl, SqL.of upd_same, by simp, by simp, fun x H6 hx D6 t6 => ?_⟩
            obtain ⟨z, rfl⟩ : ∃ z : Int, x = .int z := by
              simp only [List.mem_cons, List.not_mem_nil, or_false] at hx
              rcases hx with rfl | rfl | rfl | rfl | rfl
              all_goals exact ⟨_, rfl⟩
            have t46 : But p H4 H6 := (t5.trans (But.new hl)).trans t6
            have e : (ws.map V.int).set at' (.int (ws[at'] + z)) = (ws.set at' (ws[at'] + z)).map V.int := by rw [List.map_set]
            refine ⟨_, _, rfl, rfl, _, rfl, _, rfl, q, _, _, at', rfl, rfl, t46 _ _ e4 npq, ?_, ?_⟩
            · rw [wl']
              unfold ixN
              rw [if_pos (by omega), if_pos (by omega)]
              simp
            · rw [e]
              exact put (t46 _ _ e4 npq) (by rw [List.length_set]; omega) D6 (b4.trans t46)
    · rintro σ H2 ⟨ws, u1, u2, u3, rfl, e2, wl, D2, b2⟩
      refine ⟨_, rfl, q, _, rfl, .inl ⟨SqL.of e2, fun t ht => ?_⟩⟩
      have r2 : r.toNat ≤ 2 := by omega
      have hn : H t = none := by
        cases e : H t with
        | none => rfl
        | some o =>
          by_cases tp : t = p
          · subst tp
            obtain ⟨kvs, e3⟩ := D2.dk
            rw [ht] at e3; cases e3
          · have := b2 t o e tp
            rw [ht] at this; cases this
      exact k t ws _ upd_same (by omega) (D2.new ht) (b2.trans (But.new ht)) hn
end
end Cm

set_option Elab.async false
set_option linter.all false
set_option maxRecDepth 100000
set_option maxHeartbeats 4000000
namespace Cm
open PySem L2 PySem.W
theorem upd_twice {H : Hp} {a : Addr} {x y : HO} : upd (upd H a x) a y = upd H a y := funext fun b => by
  by_cases h : b = a
  · subst h; rw [upd_same, upd_same]
  · rw [upd_ne h, upd_ne h, upd_ne h]
section
variable {P : Program} {w : World} {K : PySem.W.Frag} {mg : Str → Option Value} {base : Heap}
/-! ### Kind.need -/
abbrev sNeed : Stmt := inClass (top 17) 4
abbrev NNd : List Str := ["self", "values", "at", "name", "low", "high", "value"]
theorem scNd : FnScope NNd ["self", "values"] (defScope sNeed) := ⟨rfl, rfl, rfl, by decide +kernel, rfl, by decide +kernel, by decide +kernel⟩
structure VCls (K : Frag) (mg : Str → Option Value) (C f : Addr) (fd : FuncData) : Prop where
  b : Binds K fd ["self", "at"] []
  mg : mg "BadValue" = some (.ref C)
  e : ECls2 K C
  i : findIn K (.ref C) "__init__" = some (some (.ref f))
  n : isFn K (.ref f) = true
def spNeed (C cV : Addr) : Sp := fun vs H Q E => ∃ (o a b : Addr) (n : Str) (fs : List Fld) (zs : List Int), vs = [.ref o, .ref b] ∧ KindAt C H o n a fs ∧ H b = some (.tup (zs.map V.int)) ∧ fs.length ≤ 60 ∧ zs.length ≤ 70 ∧
  (badV fs zs = none → ∀ H', Same H H' → Q .non H') ∧ ∀ i : Nat, badV fs zs = some i → ∀ H1 da H', Same H H1 → Thrown H1 (bvF i) da H' → E (.ref cV) (some da) H'
theorem ok_need {C f cV fV : Addr} {fd fdV : FuncData} (F : Fun K "need" "Kind.need" sNeed f fd) (T : Txt K mg) (hen : mg "enumerate" = none) (hzp : mg "zip" = none) (KC : KCls K mg C) (WV : VCls K mg cV fV fdV) (GV : FnOk P w K mg base CX0 2 fV fdV ["self", "at"] (spBV K)) :
    FnOk P w K mg base (CX1 P w) 5 f fd ["self", "values"] (spNeed C cV) := by
  refine F.ok1 scNd (fun vs H Q E h => ?_) (fun cdv A outer s H vs Q E hr h => ?_)
  · obtain ⟨o, a, b, n, fs, zs, rfl, _⟩ := h
    rfl
  · obtain ⟨o, a, b, n, fs, zs, rfl, ⟨⟨dx, ho⟩, xs, ha, pf⟩, hb, fl, zl, k, kx⟩ := h
    have hr3 : Room 3 (A.deeper (PyProof.Rows.envOfC "Kind.need" (defScope sNeed) s.heap.objs.size f cdv)) := hr.mono (by decide)
    refine ⟨_, (pss_cons (ps_for PassesOwn.leaving rfl (pi_enumZ rfl hen rfl hzp (pa_cons (pe_fld (pv 0) rfl) (pa_cons (pv 1) pa_nil))) (pg_tup rfl (pgs_cons (pg_name (i := 2) scNd.nd rfl (Or.inl rfl)) (pgs_cons (pg_tup rfl (pgs_cons (pg_tup rfl (pgs_cons (pg_name (i := 3) scNd.nd rfl (Or.inl rfl)) (pgs_cons (pg_name (i := 4) scNd.nd rfl (Or.inl rfl)) (pgs_cons (pg_name (i := 5) scNd.nd rfl (Or.inl rfl)) pgs_nil)))) (pgs_cons (pg_name (i := 6) scNd.nd rfl (Or.inl rfl)) pgs_nil))) pgs_nil)))
        (pss_one (ps_if (pt_not (pt_chain op_le op_le (pv 4) (pv 6) (pv 5))) (pss_one (ps_raise (B := "ValueError") (newId := "ValueError.__new__") (W := E)
          (pe_makeX (E := E0) PySem.F.excBase_ValueError WV.e.e.x WV.i WV.n GV hr3 (by rfl) WV.mg WV.b .nil pass0 (pa_cons (pv 2) pa_nil)) rfl rfl (fun pins σ H' s' e cls dd I x q => xe1 I x q))) pss_nil)))
      (pss_one (ps_if (pt_cmpR op_ne (pe_callB call_len_seq (by rfl) T.len bt_len (pa_cons (pv 1) pa_nil)) (pe_callB call_len_seq (by rfl) T.len bt_len (pa_cons (pe_fld (pv 0) rfl) pa_nil)) (nomark _)) (pss_one (ps_raise (B := "ValueError") (newId := "ValueError.__new__") (W := E)
          (pe_makeX (E := E0) PySem.F.excBase_ValueError WV.e.e.x WV.i WV.n GV hr3 (by rfl) WV.mg WV.b .nil pass0 (pa_cons (pe_callB (call_min2 rfl) (by rfl) T.min bt_min (pa_cons (pe_callB call_len_seq (by rfl) T.len bt_len (pa_cons (pv 1) pa_nil)) (pa_cons (pe_callB call_len_seq (by rfl) T.len bt_len (pa_cons (pe_fld (pv 0) rfl) pa_nil)) pa_nil))) pa_nil)) rfl rfl (fun pins σ H' s' e cls dd I x q => xe1 I x q))) pss_nil))), ?_⟩
    have pl := Paired.length pf
    have zl' : (zs.map V.int).length = zs.length := List.length_map ..
    have raiseB : ∀ {H1 : Hp} {i : Nat}, Same H H1 → badV fs zs = some i → ∀ e, H1 e = none → spBV K [.ref e, .int i] (upd H1 e (excO e cV none)) (fun v H2 => v = .non ∧ ∃ (e' : Addr) (C' : Addr) (dd : Option Addr), V.ref e = .ref e' ∧ H2 e' = some (excO e' C' dd) ∧ H e' = none ∧ XCls K C' "ValueError" "ValueError.__new__" ∧ E (.ref C') dd (unt H2 e')) (fun _ _ _ => False) := by
      intro H1 i s1 hi e he
      have bl := bad_le hi
      have tx := small_txt (m := i) (by omega)
      refine ⟨e, cV, i, rfl, WV.e, upd_same, tx.2, by have := tx.1; omega, fun da hda => ⟨rfl, e, cV, some da, rfl, ?_, none_back s1 he, WV.e.e.x, ?_⟩⟩
      · have ne : e ≠ da := fun q => by subst q; rw [upd_same] at hda; cases hda
        rw [upd_twice, upd_ne ne, upd_same]
      · rw [upd_twice]
        exact kx i hi H1 da _ s1 (thrown_of he hda)
    refine ⟨_, rfl, o, C, dx, _, _, rfl, ho, KC.cl, KC.nF, kf_fields n a, _, rfl, a, b, rfl, ⟨xs, SqT.of ha⟩, ⟨_, SqT.of hb⟩, ?_⟩
    refine for_enumZ (K := K) (a1 := a) (a2 := b) (xs := xs) (ys := zs.map V.int) (fun i σ' H' => (∃ u1 u2 u3 u4 u5, σ' = [some (.ref o), some (.ref b), u1, u2, u3, u4, u5]) ∧ Same H H' ∧ BadInv fs zs i) ⟨⟨none, none, none, none, none, rfl⟩, Same.refl _, bad_zero fs zs⟩ (fun i σ' H' _ z => ⟨SqT.of (z.2.1 _ _ ha), SqT.of (z.2.1 _ _ hb)⟩) ?_ ?_
    · rintro i x y σ' H1 q p hx hy ⟨⟨u1, u2, u3, u4, u5, rfl⟩, s1, bi⟩ hq hp
      obtain ⟨⟨m, lo, hi⟩, hfi, bb, rfl, hbb⟩ := paired_at pf hx
      rw [List.getElem?_map] at hy
      obtain ⟨z, hz, rfl⟩ := Option.map_eq_some_iff.mp hy
      have s2 : Same H1 (upd (upd H1 q (.tup [.ref bb, .int z])) p (.tup [.int i, .ref q])) := (Same.new hq).trans (Same.new hp)
      have hq2 : (upd (upd H1 q (.tup [.ref bb, .int z])) p (.tup [.int i, .ref q])) q = some (.tup [.ref bb, .int z]) := (Same.new hp) _ _ upd_same
      refine ⟨p, _, rfl, SqT.of upd_same, rfl, _, _, rfl, _, _, rfl, q, _, rfl, SqT.of hq2, rfl, _, _, rfl, bb, _, rfl, SqT.of (s2 _ _ (s1 _ _ hbb)), rfl, _, _, rfl, _, _, rfl, _, _, rfl, rfl, _, _, rfl, rfl, rfl, ?_⟩
      dsimp only [gName]
      refine EvT.iff (EvT.not (EvT.test (EvE.chain (EvE.var rfl) (EvE.var rfl) (EvE.var rfl) EvR.i0 EvR.i0))) ?_
      refine ite2 (fun h => ?_) (fun h => ?_)
      · have nb : ¬ (lo ≤ z ∧ z ≤ hi) := by
          intro w
          simp [w.1, w.2] at h
        have e := bad_no bi hfi hz nb
        exact ⟨_, rfl, fun e' he => raiseB (s1.trans s2) e e' he⟩
      · have yb : lo ≤ z ∧ z ≤ hi := by simpa using h
        exact ⟨⟨_, _, _, _, _, rfl⟩, s1.trans s2, bad_ok bi hfi hz yb⟩
    · rintro σ' H1 ⟨⟨u1, u2, u3, u4, u5, rfl⟩, s1, bi⟩
      rw [zl', pl] at bi
      have e := bad_end bi
      refine ⟨_, rfl, b, _, rfl, .inr (SqT.of (s1 _ _ hb)), _, rfl, o, C, dx, _, _, rfl, s1 _ _ ho, KC.cl, KC.nF, kf_fields n a, a, xs, rfl, .inr (SqT.of (s1 _ _ ha)), rfl, _, rfl, ite2 (fun h => ?_) (fun h => ?_)⟩
      · have he : ¬ fs.length = zs.length := by
          intro w
          simp [pl, w] at h
        rw [if_neg he] at e
        refine ⟨_, rfl, b, _, rfl, .inr (SqT.of (s1 _ _ hb)), _, rfl, o, C, dx, _, _, rfl, s1 _ _ ho, KC.cl, KC.nF, kf_fields n a, a, xs, rfl, .inr (SqT.of (s1 _ _ ha)), _, _, rfl, fun e' he' => ?_⟩
        have mn : (if (xs.length : Int) < ((zs.map V.int).length : Int) then (xs.length : Int) else ((zs.map V.int).length : Int)) = ((min fs.length zs.length : Nat) : Int) := by
          rw [zl', pl]
          split <;> omega
        rw [mn]
        exact raiseB s1 e e' he'
      · have he : fs.length = zs.length := by
          simp at h
          omega
        rw [if_pos he] at e
        exact k e H1 s1
end
end Cm

set_option Elab.async false
set_option linter.all false
set_option maxRecDepth 100000
set_option maxHeartbeats 4000000
namespace Cm
open PySem L2 PySem.W
theorem pdEq_fld (f g : Fld) : pdEq (fD f) (fD g) = decide (f = g) := by
  obtain ⟨a, b, c⟩ := f
  obtain ⟨a', b', c'⟩ := g
  simp only [fD, pdEq, pdEqs, Bool.and_true, Prod.mk.injEq, Bool.decide_and]
  congr 1
theorem pdEqs_fld : ∀ (fs gs : List Fld), pdEqs (fs.map fD) (gs.map fD) = decide (fs = gs)
  | [], [] => rfl
  | [], _ :: _ => by simp [pdEqs]
  | _ :: _, [] => by simp [pdEqs]
  | f :: r, g :: t => by
    rw [List.map_cons, List.map_cons, pdEqs, pdEq_fld, pdEqs_fld r t]
    simp
theorem dep_fs (fs : List Fld) : pdDeps (fs.map fD) ≤ 10 := by
  induction fs with
  | nil => simp [pdDeps]
  | cons f r ih =>
    rw [List.map_cons]
    have : pdDep (fD f) ≤ 10 := by simp [fD, pdDep, pdDeps]
    simp only [pdDeps]
    omega
abbrev kM (j : Nat) : Stmt := inClass (top 17) j
theorem KindAt.same {C o a : Addr} {n : Str} {fs : List Fld} {H H' : Hp} (h : KindAt C H o n a fs) (e : Same H H') : KindAt C H' o n a fs := by
  obtain ⟨⟨dx, h1⟩, xs, h2, h3⟩ := h
  exact ⟨⟨dx, e _ _ h1⟩, xs, e _ _ h2, flds_tk h3 fun b ys z => e _ _ z⟩
theorem KindAt.but {C o a p dc : Addr} {n : Str} {fs : List Fld} {H H' : Hp} (h : KindAt C H o n a fs) (D : Dr H p dc) (b : But p H H') : KindAt C H' o n a fs := by
  obtain ⟨⟨dx, h1⟩, xs, h2, h3⟩ := h
  exact ⟨⟨dx, b _ _ h1 (D.ne h1 (by intro kvs z; cases z))⟩, xs, TK.but D b _ _ h2, flds_tk h3 (TK.but D b)⟩
theorem make_same {H H' : Hp} {x dx C : Addr} (nx : H x = none) (ndx : H dx = none) (kp : ∀ b u, (upd (upd H dx (.own x)) x (.ins C dx [])) b = some u → b ≠ x → H' b = some u) : Same H H' := fun b u e => kp b u (by rw [upd_ne (ne_of_none e nx), upd_ne (ne_of_none e ndx)]; exact e) (ne_of_none e nx)
structure KFacts (K : PySem.W.Frag) (C : Addr) : Prop where
  ne : PySem.W.findIn K (.ref C) "__ne__" = some (some (.builtin "object.__ne__"))
  oi : OwnIs K C
  k1 : PySem.W.kitOne K (.ref C) (.ref C) = some true
  nf : PySem.W.notFirst K C (.ref C) = true
structure MD (K : PySem.W.Frag) (C : Addr) (m qual : Str) (st : Stmt) (ps : List Str) (f : Addr) (fd : FuncData) : Prop where
  M : Meth K C m f
  F : Fun K m qual st f fd
  b : Binds K fd ps []
section
variable {P : Program} {w : World} {K : PySem.W.Frag} {mg : Str → Option Value} {base : Heap}
/-! ### __eq__ -/
def spEq (K : PySem.W.Frag) (C : Addr) : Sp := fun vs H Q _ => ∃ (o a : Addr) (n : Str) (fs : List Fld) (y : V), vs = [.ref o, y] ∧ KindAt C H o n a fs ∧
  ((∃ d, Rep K H y d ∧ PySem.W.kitOne K (.type (tyD d)) (.ref C) = some false ∧ Q (.bl false) H) ∨ ∃ (o2 a2 : Addr) (n2 : Str) (fs2 : List Fld), y = .ref o2 ∧ KindAt C H o2 n2 a2 fs2 ∧ Q (.bl (decide (n = n2 ∧ fs = fs2))) H)
theorem scEq : FnScope ["self", "other"] ["self", "other"] (defScope (kM 5)) := ⟨rfl, rfl, rfl, by decide +kernel, rfl, by decide +kernel, by decide +kernel⟩
theorem ok_eq {C f : Addr} {fd : FuncData} (F : Fun K "__eq__" "Kind.__eq__" (kM 5) f fd) (T : Txt K mg) (KC : KCls K mg C) (OI : OwnIs K C) (h1 : PySem.W.kitOne K (.ref C) (.ref C) = some true) : FnOk P w K mg base CX0 1 f fd ["self", "other"] (spEq K C) := by
  refine F.ok scEq (fun vs H Q E h => ?_) (fun cdv A outer s H vs Q E hr h => ?_)
  · obtain ⟨o, a, n, fs, y, rfl, _⟩ := h
    rfl
  · obtain ⟨o, a, n, fs, y, rfl, ⟨⟨dx, ho⟩, xs, ha, pf⟩, hy⟩ := h
    refine ⟨_, (pss_one
  (ps_ret (pe_and (pe_callB call_isC (by rfl) T.isinstance bt_isinstance (pa_cons (pv 1) (pa_cons (pe_glob (v := .ref C) rfl KC.mg rfl) pa_nil))) (pe_and (pe_cmpR op_eq (pe_fld (pv 0) rfl) (pe_fld (pv 1) rfl) (nomark _)) (pe_one (pe_cmpR (op_eqD hr.units) (pe_fld (pv 0) rfl) (pe_fld (pv 1) rfl) (nomark _))))))), ?_⟩
    rcases hy with ⟨d, hd, hk, q⟩ | ⟨o2, a2, n2, fs2, rfl, ⟨⟨dx2, ho2⟩, xs2, ha2, pf2⟩, q⟩
    · exact ⟨_, rfl, y, C, false, rfl, .inl ⟨d, hd, hk⟩, _, rfl, ifF rfl q⟩
    · refine ⟨_, rfl, _, C, true, rfl, .inr ⟨o2, C, dx2, _, rfl, ho2, KC.cl, OI, h1⟩, _, rfl, ifT rfl ?_⟩
      refine ⟨_, rfl, o, C, dx, _, _, rfl, ho, KC.cl, KC.nN, kf_name n a, _, rfl, o2, C, dx2, _, _, rfl, ho2, KC.cl, KC.nN, kf_name n2 a2, rfl, _, rfl, ?_⟩
      by_cases e : n = n2
      · subst e
        refine ifT (by simp) ?_
        refine ⟨_, rfl, o, C, dx, _, _, rfl, ho, KC.cl, KC.nF, kf_fields n a, _, rfl, o2, C, dx2, _, _, rfl, ho2, KC.cl, KC.nF, kf_fields n a2, fsD fs, fsD fs2, .tup (SqT.of ha) (flds_reps pf), .tup (SqT.of ha2) (flds_reps pf2), ?_, ?_⟩
        · have := dep_fs fs
          simp only [fsD, pdDep]; omega
        · have e2 : pdEq (fsD fs) (fsD fs2) = decide (n = n ∧ fs = fs2) := by
            show pdEqs (fs.map fD) (fs2.map fD) = _
            rw [pdEqs_fld]; simp
          rw [e2]
          exact q
      · refine ifF (by simp [e]) ?_
        have e2 : decide (n = n2 ∧ fs = fs2) = false := by simp [e]
        rw [e2] at q
        exact q
theorem ne_read {C o1 o2 a1 a2 : Addr} {n1 n2 : Str} {fs1 fs2 : List Fld} {H : Hp} {Q : VK} (KF : KFacts K C) (k1 : KindAt C H o1 n1 a1 fs1) (k2 : KindAt C H o2 n2 a2 fs2) (q : Q (.bl (!decide (n1 = n2 ∧ fs1 = fs2))) H) : rNeI K C (spEq K C) E0 (.ref o1) (.ref o2) H Q := by
  obtain ⟨dx1, h1⟩ := k1.ob
  obtain ⟨dx2, h2⟩ := k2.ob
  exact ⟨o1, dx1, _, .ref C, rfl, h1, .inr ⟨o2, C, dx2, _, rfl, h2, rfl⟩, KF.nf, o1, a1, n1, fs1, .ref o2, rfl, k1, .inr ⟨o2, a2, n2, fs2, rfl, k2, _, rfl, q⟩⟩
end
end Cm

set_option Elab.async false
set_option linter.all false
set_option maxRecDepth 100000
set_option maxHeartbeats 4000000
namespace Cm
open PySem L2 PySem.W
/-! ### the law's lambda: _law_kind.need(_law_values_here) -/
def lamIf : Stmt → Expr
  | .If (.UnaryOp _ (.Call _ (.Call _ (e :: _) _ _ :: _) _ _) _) _ _ _ => e
  | _ => .Constant .none 0 ⟨0, 0, 0, 0⟩
def forBody : Stmt → List Stmt
  | .For _ _ b _ _ => b
  | _ => []
def lParams : Expr → Arguments
  | .Lambda p _ _ _ => p
  | _ => { posonlyargs := [], args := [], vararg := none, kwonlyargs := [], kw_defaults := [], kwarg := none, defaults := [] }
def lBody : Expr → Expr
  | .Lambda _ b _ _ => b
  | e => e
def lScope : Expr → Scope
  | .Lambda _ _ s _ => s
  | _ => { kind := .function, names := [], isGenerator := false, isCoroutine := false }
def lPos : Expr → Pos
  | .Lambda _ _ _ p => p
  | _ => ⟨0, 0, 0, 0⟩
def lam3 : Expr := lamIf ((forBody ((defBody (top 33)).getD 1 (.Pass ⟨0, 0, 0, 0⟩))).getD 4 (.Pass ⟨0, 0, 0, 0⟩))
abbrev NL3 : List Str := ["_law_values_here", "_law_kind"]
theorem _root_.L2.TabI.but {H H' : Hp} {T p dc : Addr} {qual : Str} {lps : List Pos} (h : TabI H T qual lps) (D : Dr H p dc) (b : But p H H') : TabI H' T qual lps := h.keep fun q u e ne => b q u e (D.ne e ne)
section
variable {P : Program} {w : World} {K : PySem.W.Frag} {mg : Str → Option Value} {base : Heap}
theorem kf_need (n : Str) (a : Addr) : (kf n a).lookup ("need" : Str) = none := by
  unfold kf
  rw [show putF "fields" (.ref a) (putF "name" (.str n) []) = [(("name" : Str), V.str n), ("fields", .ref a)] from rfl, List.lookup_cons, List.lookup_cons, List.lookup_nil]
  rw [show (("need" : Str) == ("name" : Str)) = false from by decide +kernel, show (("need" : Str) == ("fields" : Str)) = false from by decide +kernel]
theorem thunk_need {f c' C fN cV o a b : Addr} {fdN : FuncData} {qual : Str} {cl : List (Str × Addr)} {pm ctv : Value} {g : Heap} {H : Hp} {fr : List Addr} {n : Str} {fs : List Fld} {zs : List Int} {Qv : VK} {Ev : XK}
    (ho : H f = some (lamO f (kla_obj "<lambda>" qual (lParams lam3) (lBody lam3) (lScope lam3) cl pm c' ctv))) (hc : H c' = some (codeO c' qual)) (Cl : Clos (lScope lam3) cl NL3 g H fr [some (.ref b), some (.ref o)])
    (KC : KCls K mg C) (M : Meth K C "need" fN) (GN : FnOk P w K mg base (CX1 P w) 5 fN fdN ["self", "values"] (spNeed C cV)) (bN : Binds K fdN ["self", "values"] [])
    (ko : KindAt C H o n a fs) (hb : H b = some (.tup (zs.map V.int))) (fl : fs.length ≤ 60) (zl : zs.length ≤ 70)
    (kv : badV fs zs = none → ∀ H', Same H H' → Qv .non H') (ke : ∀ i : Nat, badV fs zs = some i → ∀ H1 da H', Same H H1 → Thrown H1 (bvF i) da H' → Ev (.ref cV) (some da) H') :
    Thunk P w K mg base g H fr 6 f H Qv Ev := by
  refine thunk_lam (N := NL3) (k := 5) (t := tMeth C "need" (spNeed C cV) [] Ev (tVar 1) (tCons (tVar 0) tNil)) ho hc Cl rfl rfl rfl rfl (by decide +kernel) (fun A outer s hr => ?_) ?_
  · exact pe_meth (pv 1) KC.cl M GN hr bN .nil (passL fun _ _ _ h => h) (pa_cons (pv 0) pa_nil)
  · obtain ⟨dx, h1⟩ := ko.ob
    exact ⟨_, rfl, o, dx, _, rfl, h1, kf_need n a, _, rfl, o, a, b, n, fs, zs, rfl, ko, hb, fl, zl, kv, ke⟩
/-! ### the asking -/
structure BadV (K : Frag) (cV : Addr) : Prop where
  mv : mroIn K cV (.ref cV) = some true
  gt : XGet K cV "at"
def rAsk3 (C : Addr) (qual : Str) (cl : List (Str × Addr)) (pm : Value) : St → List V → Hp → VK → Prop := fun σ vs H Q => ∃ f c' ctv o a b n fs zs, vs = [.ref f] ∧ H f = some (lamO f (kla_obj "<lambda>" qual (lParams lam3) (lBody lam3) (lScope lam3) cl pm c' ctv)) ∧ H c' = some (codeO c' qual) ∧
  σ[5]? = some (some (.ref b)) ∧ σ[4]? = some (some (.ref o)) ∧ KindAt C H o n a fs ∧ H b = some (.tup (zs.map V.int)) ∧ fs.length ≤ 60 ∧ zs.length ≤ 70 ∧
  ∀ H', Same H H' → ∀ l, H' l = none → Q (.ref l) (upd H' l (.lst [.str (wordV fs zs), .non]))
theorem ask_sp3 {X : Cx} {C fN cV cS cM : Addr} {fdN : FuncData} {qual : Str} {cl : List (Str × Addr)} {pm : Value} {E : XK} {pins : List (Addr × Obj)} {σ : St} {H : Hp} {s : Shared} {vs : List V} {Q : VK}
    (hcl : ∀ p ∈ cl, X.env.cells.lookup p.1 = some p.2) (hfn : ∀ x, X.fn x = true) (hhas : ∀ p ∈ (lScope lam3).names, (p.2 = .cell ∨ p.2 = .free) → p.1 ∈ cl.map (·.1)) (hown : ∀ x ∈ NL3, X.env.scope.names.lookup x = some .cell) (hN : [X.N[5]?, X.N[4]?] = [some ("_law_values_here" : Str), some ("_law_kind" : Str)]) (hst : X.stack = X.env :: X.outer) (hfm : X.env.frame = some X.env.locals)
    (KC : KCls X.K X.mg C) (M : Meth X.K C "need" fN) (GN : FnOk X.prog X.w X.K X.mg X.base (CX1 X.prog X.w) 5 fN fdN ["self", "values"] (spNeed C cV)) (bN : Binds X.K fdN ["self", "values"] []) (BV : BadV X.K cV)
    (I : Inv X pins σ H s) (h : rAsk3 C qual cl pm σ vs H Q) : spAsk X.prog X.w X.K X.mg X.base 6 cV cS cM s X.stack vs H Q E := by
  obtain ⟨f, c', ctv, o, a, b, n, fs, zs, rfl, ho, hc, h5, h4, ko, hb, fl, zl, k⟩ := h
  have Cl := clos_of (scope := lScope lam3) (NL := NL3) (js := [5, 4]) I hcl hfn hhas (by decide +kernel) hown (by rw [List.map_cons, List.map_cons, List.map_nil, List.map_cons, List.map_cons, List.map_nil]; exact hN.symm) hst hfm
  have ev : freeV [5, 4] σ = [some (.ref b), some (.ref o)] := by
    unfold freeV
    rw [List.map_cons, List.map_cons, List.map_nil, h5, h4]
    rfl
  rw [ev] at Cl
  refine ⟨f, fun v H' => v = .non ∧ badV fs zs = none ∧ Same H H', fun cls dd H' => ∃ (i : Nat) (H1 : Hp) (da : Addr), badV fs zs = some i ∧ cls = .ref cV ∧ dd = some da ∧ Same H H1 ∧ Thrown H1 (bvF i) da H', rfl, thunk_need ho hc Cl KC M GN bN ko hb fl zl (fun h0 H' s1 => ⟨rfl, h0, s1⟩) fun i hi H1 da H' s1 th => ⟨i, H1, da, hi, rfl, rfl, s1, th⟩, ?_, ?_⟩
  · rintro v H' ⟨rfl, h0, s1⟩ l hl
    have e : wordV fs zs = "" := by unfold wordV; rw [h0]
    have := k H' s1 l hl
    rw [e] at this
    exact this
  · rintro cls dd H' ⟨i, H1, da, hi, rfl, rfl, s1, d0, rfl⟩
    have e : wordV fs zs = bvW i := by unfold wordV; rw [hi]
    have bl := bad_le hi
    have tx := small_txt (m := i) (by omega)
    have big : 3000 ≤ sizeLine := by decide
    have e1 : ("badvalue " : Str).length = 9 := by decide +kernel
    refine ⟨_, da, _, bvW i, rfl, rfl, upd_same, .inl ⟨BV.mv, BV.gt, i, ?_, tx.2, by have := tx.1; omega, rfl⟩, fun l hl => ?_⟩
    · rw [show bvF i = [(("word" : Str), V.str "badvalue"), ("at", .int i)] from rfl, List.lookup_cons, show (("at" : Str) == ("word" : Str)) = false from by decide +kernel, List.lookup_cons, show (("at" : Str) == ("at" : Str)) = true from by decide +kernel]
    · rw [← e]
      exact k _ (fun b u e => by rw [upd_ne (ne_of_none (s1 _ _ e) d0)]; exact s1 _ _ e) l hl
end
end Cm

set_option Elab.async false
set_option linter.all false
set_option maxRecDepth 100000
set_option maxHeartbeats 8000000
namespace Cm
open PySem L2 PySem.W
section
variable {P : Program} {w : World} {K : PySem.W.Frag} {mg : Str → Option Value} {base : Heap}
def spLaw3 (K : PySem.W.Frag) (Tt : Addr) (ps : Array Value) : Sp := fun vs H Q _ => ∃ (a : Addr) (ns : List Int), vs = [.ref a] ∧ SqL K H a (ns.map V.int) ∧ ns.length ≤ 63 ∧ H Tt = some (.tbl ps) ∧ ∀ H', Q (.bl true) H'
abbrev qL : Str := "law.<locals>." ++ "<lambda>"
abbrev NLaw : List Str := ["_law_script", "_law_d", "_law_turn", "_law_fields_here", "_law_kind", "_law_values_here"]
theorem scLaw3 : FnScope NLaw ["_law_script"] (defScope (top 33)) := ⟨rfl, rfl, rfl, by decide +kernel, rfl, by decide +kernel, by decide +kernel⟩
theorem nm_ev : Nm ("ev" : Str) := ⟨by decide +kernel, by decide +kernel, by unfold Lc; decide +kernel⟩
theorem ok_law3 {C f c Tt fB fP fO fW fWs fBd fF fS fA fV fVs fVW fBV fFr fNm fNN fNF fIn fN fE cV cS cM : Addr} {fdB fdP fdO fdW fdWs fdBd fdF fdS fdA fdV fdVs fdVW fdBV fdFr fdNm fdNN fdNF fdIn fdN fdE : FuncData} {oc kV doc pm ct dV : Value} {od an : Option Addr} {osl : Array (Option Value)} {ps : Array Value}
    (lk : K.lookup f = some ⟨oc, od, .func (PySem.W.fnOf "law" "law" (defArgs (top 33)) (defBody (top 33)) (defScope (top 33)) .none kV doc pm an (.ref c) ct), osl⟩) (hcd : PySem.W.codeIn K (.ref c) "law" = true)
    (HT : CodeHd base c Tt) (HB : base.BuiltinsAt mg Tt) (HG : mainGlobals ≠ Tt) (tri : TriplesOk ps.toList) (cn : ∀ lp ∈ [lPos lam3], codeAmong lp ps.toList = none)
    (T : Txt K mg) (TK' : TxtK mg) (KC : KCls K mg C) (KF : KFacts K C) (MK : Mk K C fIn) (BV : BadV K cV)
    (DB : Def K mg "_law_begin" (top 19) ["_law_script"] fB fdB) (DP : Def K mg "_law_pick" (top 20) ["_law_d", "_law_many"] fP fdP) (DO : Def K mg "_law_of" (top 21) ["_law_d", "_law_things"] fO fdO)
    (DW : Def K mg "_law_word" (top 24) ["_law_d"] fW fdW) (DWs : Def K mg "_law_words" (top 25) ["_law_d", "_law_many"] fWs fdWs) (DBd : Def K mg "_law_bound" (top 26) ["_law_d"] fBd fdBd)
    (DF : Def K mg "_law_fields" (top 27) ["_law_d", "_law_many"] fF fdF) (DS : Def K mg "_law_same" (top 23) ["_law_found", "_law_due"] fS fdS)
    (DV : Def K mg "_law_value" (top 28) ["_law_d", "_law_field"] fV fdV) (DVs : Def K mg "_law_values" (top 29) ["_law_d", "_law_fields_here"] fVs fdVs)
    (DVW : Def K mg "_law_values_word" (top 32) ["_law_fields_here", "_law_values_here"] fVW fdVW) (DBV : Def K mg "_law_bent_values" (top 31) ["_law_d", "_law_fields_here", "_law_values_here"] fBV fdBV)
    (DFr : Def K mg "_law_far" (top 22) ["_law_d"] fFr fdFr) (DNm : Def K mg "is_name" (top 13) ["text"] fNm fdNm) (DNN : Def K mg "need_name" (top 14) ["text"] fNN fdNN) (DNF : Def K mg "need_fields" (top 15) ["fields"] fNF fdNF)
    (FIn : FunD K "__init__" "Kind.__init__" sInit dV fIn fdIn) (bIn : Binds K fdIn ["self", "name", "fields"] [])
    (ME : MD K C "__eq__" "Kind.__eq__" (kM 5) ["self", "other"] fE fdE)
    (MN : Meth K C "need" fN) (GN : FnOk P w K mg base (CX1 P w) 5 fN fdN ["self", "values"] (spNeed C cV)) (bN : Binds K fdN ["self", "values"] [])
    (GA : FnOkS P w K mg base CX0 7 fA fdA ["_law_ask_here"] (spAsk P w K mg base 6 cV cS cM)) (hA : mg "_law_ask" = some (.ref fA)) (kA : keepIn K (.ref fA) = true) (bA : Binds K fdA ["_law_ask_here"] []) :
    FnOk P w K mg base CX0 8 f (PySem.W.fnOf "law" "law" (defArgs (top 33)) (defBody (top 33)) (defScope (top 33)) .none kV doc pm an (.ref c) ct) ["_law_script"] (spLaw3 K Tt ps) := by
  have GB : FnOk P w K mg base CX0 1 fB fdB ["_law_script"] (spBegin K) := ok_begin DB.F T
  have GP : FnOk P w K mg base CX0 1 fP fdP ["_law_d", "_law_many"] spPick := ok_pick DP.F T
  have GF : FnOk P w K mg base CX0 5 fF fdF ["_law_d", "_law_many"] (spFields K) := ok_fields DF.F T DP DO DW DWs DBd
  have GS : FnOk P w K mg base CX0 5 fS fdS ["_law_found", "_law_due"] (spS K 5) := ok_same DS T 5
  have GVs : FnOk P w K mg base CX0 4 fVs fdVs ["_law_d", "_law_fields_here"] (spVals K) := ok_vals DVs.F T DP DO DV
  have GVW : FnOk P w K mg base CX0 1 fVW fdVW ["_law_fields_here", "_law_values_here"] (spVW K) := ok_vw DVW.F T
  have GBV : FnOk P w K mg base CX0 3 fBV fdBV ["_law_d", "_law_fields_here", "_law_values_here"] (spBVs K) := ok_bvs DBV.F T DP DO DFr
  have GI : FnOk P w K mg base CX0 4 fIn fdIn ["self", "name", "fields"] (spInit C) := ok_init FIn T TK' KC DNm DNN DNF
  have GE : FnOk P w K mg base CX0 1 fE fdE ["self", "other"] (spEq K C) := ok_eq ME.F T KC KF.oi KF.k1
  refine fn_of lk hcd scLaw3 (fun vs H Q E h => ?_) (fun A outer s H vs Q E hr h => ?_)
  · obtain ⟨a, ns, rfl, _⟩ := h
    rfl
  · obtain ⟨sa, ns, rfl, hS, hlen, hTb, k⟩ := h
    have hr1 : Room 1 (A.deeper (PyProof.Rows.envOfC "law" (defScope (top 33)) s.heap.objs.size f (.ref c))) := hr.mono (by decide)
    have hr2 : Room 2 (A.deeper (PyProof.Rows.envOfC "law" (defScope (top 33)) s.heap.objs.size f (.ref c))) := hr.mono (by decide)
    have hr3 : Room 3 (A.deeper (PyProof.Rows.envOfC "law" (defScope (top 33)) s.heap.objs.size f (.ref c))) := hr.mono (by decide)
    have hr4 : Room 4 (A.deeper (PyProof.Rows.envOfC "law" (defScope (top 33)) s.heap.objs.size f (.ref c))) := hr.mono (by decide)
    have hr5 : Room 5 (A.deeper (PyProof.Rows.envOfC "law" (defScope (top 33)) s.heap.objs.size f (.ref c))) := hr.mono (by decide)
    have CT : CodeTab (cxOf CX0 P w K mg base NLaw "law" (defScope (top 33)) f (.ref c) A outer s H E) c Tt := ⟨rfl, HT, HB, HG⟩
    have h1 : ∀ q ∈ ([("_law_values_here", s.heap.objs.size + 1 + 1), ("_law_kind", s.heap.objs.size + 1)] : List (Str × Addr)), (PyProof.Rows.envOfC "law" (defScope (top 33)) s.heap.objs.size f (.ref c)).cells.lookup q.1 = some q.2 := by
      intro q hq
      rcases List.mem_cons.mp hq with rfl | hq
      · rfl
      · cases List.mem_singleton.mp hq
        rfl
    have h2 : ∀ q ∈ (lScope lam3).names, (q.2 = .cell ∨ q.2 = .free) → q.1 ∈ ([("_law_values_here", s.heap.objs.size + 1 + 1), ("_law_kind", s.heap.objs.size + 1)] : List (Str × Addr)).map (·.1) := by
      have : ∀ q ∈ (lScope lam3).names, (q.2 = .cell ∨ q.2 = .free) → q.1 ∈ NL3 := by decide +kernel
      exact this
    have h3 : ∀ x ∈ NL3, (defScope (top 33)).names.lookup x = some .cell := by decide +kernel
    refine ⟨_, (pss_cons
  (ps_set (i := 1) scLaw3.nd rfl (Or.inl rfl) (pe_call GB hr1 rfl DB.mg DB.F.kp DB.b .nil pass0 (pa_cons (pv 0) pa_nil)))
  (pss_cons
  (ps_for PassesOwn.leaving rfl (pi_range1 rfl T.range (pa_cons pe_int pa_nil)) (pg_name (i := 2) scLaw3.nd rfl (Or.inl rfl)) (pss_cons
  (ps_set (i := 3) scLaw3.nd rfl (Or.inl rfl) (pe_call GF hr5 rfl DF.mg DF.F.kp DF.b .nil pass0 (pa_cons (pv 1) (pa_cons (pe_call GP hr1 rfl DP.mg DP.F.kp DP.b .nil pass0 (pa_cons (pv 1) (pa_cons pe_int pa_nil))) pa_nil))))
  (pss_cons
  (ps_set (i := 4) scLaw3.nd rfl (Or.inr rfl) (pe_make MK GI hr5 rfl KC.mg bIn .nil pass0 (pa_cons pe_str (pa_cons (pv 3) pa_nil))))
  (pss_cons
  (ps_set (i := 5) scLaw3.nd rfl (Or.inr rfl) (pe_call GVs hr4 rfl DVs.mg DVs.F.kp DVs.b .nil pass0 (pa_cons (pv 1) (pa_cons (pv 3) pa_nil))))
  (pss_cons
  (ps_if (pt_cmpR op_gt (pe_call GP hr1 rfl DP.mg DP.F.kp DP.b .nil pass0 (pa_cons (pv 1) (pa_cons pe_int pa_nil))) pe_int (nomark _)) (pss_one (ps_set (i := 5) scLaw3.nd rfl (Or.inr rfl) (pe_call GBV hr3 rfl DBV.mg DBV.F.kp DBV.b .nil pass0 (pa_cons (pv 1) (pa_cons (pv 3) (pa_cons (pv 5) pa_nil)))))) pss_nil)
  (pss_cons
  (ps_if (pt_not (pt_val (pe_call GS hr5 rfl DS.mg DS.F.kp DS.b .nil pass0 (pa_cons (pe_callS (E := E0) (r := rAsk3 C qL [("_law_values_here", s.heap.objs.size + 1 + 1), ("_law_kind", s.heap.objs.size + 1)] ((mg "__name__").getD .none)) GA hr (by rfl) hA kA bA pass0 (fun pins σ H s' vs Q I h => ask_sp3 h1 (fun _ => rfl) h2 h3 rfl rfl rfl KC MN GN bN BV I h) (pa_cons (pe_lam CT rfl rfl) pa_nil)) (pa_cons (pe_lst (pa_cons (pe_call GVW hr1 rfl DVW.mg DVW.F.kp DVW.b .nil pass0 (pa_cons (pv 3) (pa_cons (pv 5) pa_nil))) (pa_cons pe_non pa_nil))) pa_nil))))) (pss_one ps_never) pss_nil)
  (pss_one
  (ps_if (pt_cmpR (op_neI (E := E0) ⟨ME.M.at_, ME.M.fn, GE, ME.b, pass0⟩ KF.ne KF.oi.mr hr2) (pv 4) (pe_make MK GI hr5 rfl KC.mg bIn .nil pass0 (pa_cons pe_str (pa_cons (pv 3) pa_nil))) (nomark _)) (pss_one ps_never) pss_nil))))))))
  (pss_one
  (ps_ret pe_bl)))), ?_⟩
    refine ⟨_, rfl, sa, ns, rfl, hS, hlen, fun p dc H0 D0 s0 _ => ?_⟩
    have tb0 : TabI H0 Tt qL [lPos lam3] := ⟨ps, s0 _ _ hTb, tri, fun lp m => .inl (cn lp m)⟩
    refine ⟨5, rfl, by decide, by decide, for_range (n := 5) (fun i σ H' => (∃ u2 u3 u4 u5, σ = [some (.ref sa), some (.ref p), u2, u3, u4, u5]) ∧ Dr H' p dc ∧ TabI H' Tt qL [lPos lam3]) ⟨⟨none, none, none, none, rfl⟩, D0, tb0⟩ ?_ ?_⟩
    · rintro i σ H1 hi ⟨⟨u2, u3, u4, u5, rfl⟩, D1, tb1⟩
      have z2 : 2 ≤ sizeLine := by decide
      refine ⟨_, rfl, _, rfl, p, dc, _, rfl, D1, by decide, by decide, fun r H3 r0 r1 D3 b3 => ?_⟩
      refine ⟨p, dc, r, rfl, D3, r0, by omega, fun a xs fs H4 ha pf hfl hok nd hna D4 b4 => ?_⟩
      have tb4 := (tb1.but D1 b3).but D3 b4
      have hl : fs.length ≤ 4 := by omega
      clear b3 b4 D3 hna tb1 D1 H3
      -- the kind
      refine ⟨_, rfl, fun x dx nx ndx nex => ?_⟩
      have sm : Same H4 (upd (upd H4 dx (.own x)) x (.ins C dx [])) := fun b u e => by rw [upd_ne (ne_of_none e nx), upd_ne (ne_of_none e ndx)]; exact e
      refine ⟨x, dx, a, "ev", xs, fs, rfl, upd_same, nm_ev, sm _ _ ha, flds_tk pf (fun _ _ z => sm _ _ z), hl, hok, nd, fun H5 ka kp => ⟨rfl, ?_⟩⟩
      have S5 : Same H4 H5 := make_same nx ndx kp
      have D5 := D4.mono S5
      have ha5 := S5 _ _ ha
      have pf5 : Paired (FldAt H5) xs fs := flds_tk pf fun _ _ z => S5 _ _ z
      have tb5 := tb4.same S5
      clear kp sm S5 tb4 D4 ha pf
      -- the values
      refine ⟨_, rfl, _, rfl, p, dc, a, xs, fs, rfl, D5, ha5, pf5, hok, by omega, fun b0 zs0 H6 hb0 zl0 D6 b6 _ => ?_⟩
      have ka6 := ka.but D5 b6
      have ha6 := TK.but D5 b6 _ _ ha5
      have pf6 : Paired (FldAt H6) xs fs := flds_tk pf5 (TK.but D5 b6)
      have tb6 := tb5.but D5 b6
      clear b6 tb5 D5 ha5 pf5 ka
      try dsimp only [gName]
      refine seq_by (fun σ' H' => ∃ (b : Addr) (zs : List Int), σ' = [some (.ref sa), some (.ref p), some (.int (0 + i)), some (.ref a), some (.ref x), some (.ref b)] ∧ H' b = some (.tup (zs.map V.int)) ∧ zs.length ≤ 70 ∧ H' a = some (.tup xs) ∧ Paired (FldAt H') xs fs ∧ KindAt C H' x "ev" a fs ∧ Dr H' p dc ∧ TabI H' Tt qL [lPos lam3]) ?nx1 fun N hN => ?st1
      case st1 =>
        refine ⟨_, rfl, p, dc, _, rfl, D6, by decide, by decide, fun q H7 q0 q1 D7 b7 => ⟨_, _, rfl, rfl, _, rfl, ?_⟩⟩
        have ka7 := ka6.but D6 b7
        have ha7 := TK.but D6 b7 _ _ ha6
        have hb7 := TK.but D6 b7 _ _ hb0
        have pf7 := flds_tk pf6 (TK.but D6 b7)
        have tb7 := tb6.but D6 b7
        refine ite2 (fun _ => ?_) (fun _ => ?_)
        · refine ⟨_, rfl, _, rfl, _, rfl, p, dc, b0, _, zs0, rfl, D7, hb7, by omega, fun b' ws H8 hb8 wl D8 b8 _ => ?_⟩
          exact hN _ _ ⟨b', ws, rfl, hb8, wl, TK.but D7 b8 _ _ ha7, flds_tk pf7 (TK.but D7 b8), ka7.but D7 b8, D8, tb7.but D7 b8⟩
        · exact hN _ _ ⟨b0, zs0, rfl, hb7, by omega, ha7, pf7, ka7, D7, tb7⟩
      rintro σ' H7 ⟨b, zs, rfl, hb7, zl, ha7, pf7, ka7, D7, tb7⟩
      clear tb6 D6 ha6 pf6 ka6 hb0
      -- the asking
      try dsimp only [gName]
      refine ⟨tb7.tab (List.mem_cons_self ..), fun c' H9 lm f' ctv hf' => ?_⟩
      have tb9 := tb7.lam lm
      have k9 : ∀ b u, H7 b = some u → (∀ qs, u ≠ .tbl qs) → (upd H9 f' (lamO f' (kla_obj "<lambda>" qL (lParams lam3) (lBody lam3) (lScope lam3) [("_law_values_here", s.heap.objs.size + 1 + 1), ("_law_kind", s.heap.objs.size + 1)] ((mg "__name__").getD .none) c' ctv))) b = some u := fun b u e ne => by
        have e9 := lm.keep e ne
        rw [upd_ne (ne_of_none e9 hf')]; exact e9
      have ha9 := k9 _ _ ha7 (by intro _ z; cases z)
      have hb9 := k9 _ _ hb7 (by intro _ z; cases z)
      have pf9 := flds_tk pf7 fun b ys e => k9 _ _ e (by intro _ z; cases z)
      have ka9 : KindAt C (upd H9 f' (lamO f' (kla_obj "<lambda>" qL (lParams lam3) (lBody lam3) (lScope lam3) [("_law_values_here", s.heap.objs.size + 1 + 1), ("_law_kind", s.heap.objs.size + 1)] ((mg "__name__").getD .none) c' ctv))) x "ev" a fs := by
        obtain ⟨⟨dy, e1⟩, ys, e2, e3⟩ := ka7
        exact ⟨⟨dy, k9 _ _ e1 (by intro _ z; cases z)⟩, ys, k9 _ _ e2 (by intro _ z; cases z), flds_tk e3 fun b ys e => k9 _ _ e (by intro _ z; cases z)⟩
      have D9 : Dr (upd H9 f' (lamO f' (kla_obj "<lambda>" qL (lParams lam3) (lBody lam3) (lScope lam3) [("_law_values_here", s.heap.objs.size + 1 + 1), ("_law_kind", s.heap.objs.size + 1)] ((mg "__name__").getD .none) c' ctv))) p dc := by
        obtain ⟨ms, ba, br, bs, e1, e2, rest⟩ := D7.ex
        exact ⟨ms, ba, br, bs, k9 _ _ e1 (by intro _ z; cases z), k9 _ _ e2 (by intro _ z; cases z), rest⟩
      have tbA := tb9.same (Same.new (o := lamO f' (kla_obj "<lambda>" qL (lParams lam3) (lBody lam3) (lScope lam3) [("_law_values_here", s.heap.objs.size + 1 + 1), ("_law_kind", s.heap.objs.size + 1)] ((mg "__name__").getD .none) c' ctv)) hf')
      refine ⟨f', c', ctv, x, a, b, "ev", fs, zs, rfl, upd_same, Same.new hf' _ _ lm.code, rfl, rfl, ka9, hb9, by omega, zl, fun H10 s10 l hl10 => ?_⟩
      have S11 : Same _ (upd H10 l (.lst [.str (wordV fs zs), .non])) := s10.trans (Same.new hl10)
      refine ⟨_, rfl, _, rfl, a, b, xs, fs, zs, rfl, S11 _ _ ha9, flds_tk pf9 (fun _ _ z => S11 _ _ z), S11 _ _ hb9, by omega, zl, z2, fun l5 hl5 => ?_⟩
      have S12 := S11.trans (Same.new (o := .lst [.str (wordV fs zs), .non]) hl5)
      refine ⟨.ref l, .ref l5, .list [.str (wordV fs zs), .none], rfl, .lst (SqL.of (Same.new hl5 _ _ upd_same)) (.cons (.str _) (.cons .non .nil)), .lst (SqL.of upd_same) (.cons (.str _) (.cons .non .nil)), by simp [pdDep, pdDeps], by simp [pdMax, pdMaxs], fun H13 s13 => ⟨true, rfl, ifF rfl ?_⟩⟩
      have S13 := Same.trans S12 s13
      have ka13 := ka9.same S13
      have ha13 := S13 _ _ ha9
      have pf13 : Paired (FldAt H13) xs fs := flds_tk pf9 (fun _ _ z => S13 _ _ z)
      have D13 := D9.mono S13
      have tb13 := tbA.same S13
      -- the kind anew
      refine ⟨_, rfl, _, rfl, fun y dy ny ndy ney => ?_⟩
      have sm : Same H13 (upd (upd H13 dy (.own y)) y (.ins C dy [])) := fun b u e => by rw [upd_ne (ne_of_none e ny), upd_ne (ne_of_none e ndy)]; exact e
      refine ⟨y, dy, a, "ev", xs, fs, rfl, upd_same, nm_ev, sm _ _ ha13, flds_tk pf13 (fun _ _ z => sm _ _ z), hl, hok, nd, fun H14 kb kp => ⟨rfl, ?_⟩⟩
      have S14 : Same H13 H14 := make_same ny ndy kp
      refine ne_read KF (ka13.same S14) kb ⟨_, rfl, ifF (by simp) ?_⟩
      exact ⟨⟨_, _, _, _, rfl⟩, D13.mono S14, tb13.same S14⟩
    · rintro σ H1 ⟨⟨u2, u3, u4, u5, rfl⟩, D1, tb1⟩
      exact k _
end
end Cm

set_option Elab.async false
set_option linter.all false
set_option maxRecDepth 100000
set_option maxHeartbeats 8000000
namespace Cm
open PySem L2 PySem.W
/-! ### what the top has written -/
def xbm (B : String) : List Value := [.type B, .type "Exception", .type "BaseException", .type "object"]
theorem rl_ve (self : Value) : refuseLoop self "__setattr__" (xbm "ValueError") = pure () := by kernel_rfl
theorem rl_le (self : Value) : refuseLoop self "__setattr__" (xbm "LookupError") = pure () := by kernel_rfl
def xcd (K : Frag) (C : Addr) (rs : List Addr) (bm : List Value) : Bool := match clsIn K C with
  | some cd => cd.hasDict && (cd.mro == rs.map Value.ref ++ bm)
  | none => false
theorem xcls_of {K : Frag} {C : Addr} {B n : String} {rs : List Addr} (h1 : makesX K C B n = true) (h2 : findIn K (.ref C) "__setattr__" = some (some (.builtin "object.__setattr__"))) (h3 : xcd K C rs (xbm B) = true) (h4 : keepIn K (.ref C) = true) (h5 : typeIn K (.ref C) = some (.type "type"))
    (hr : ∀ self, refuseLoop self "__setattr__" (xbm B) = pure ()) : XCls K C B n := by
  refine ⟨h1, h2, ?_, h4, h5⟩
  unfold xcd at h3
  split at h3
  · rename_i cd hc
    rw [Bool.and_eq_true, beq_iff_eq] at h3
    refine ⟨cd, rs, xbm B, hc, h3.1, h3.2, by simp [xbm], hr, ?_⟩
    unfold xbm
    simp
  · cases h3
theorem all_mk {l : PySem.W.OpenLaw} {w : World} {K : PySem.W.Frag} {h : Heap} {mg : Str → Option Value} {fa fLa Tt cc fB fP fO fW fWs fBd fF fS fV fVs fVW fBV fFr fNm fNN fNF fA C fIn Td d0 fE fNd qS qV qM fSE TS fBq : Addr} (X : K.In h) (G : h.Ns mainGlobals mg) (hfa : mg "law" = some (.ref fa))
    {odLa anLa odcc odB anB odP anP odO anO odW anW odWs anWs odBd anBd odF anF odS anS odV anV odVs anVs odVW anVW odBV anBV odFr anFr odNm anNm odNN anNN odNF anNF odA anA odIn anIn odT odE anE odNd anNd odSE anSE odTS odBq anBq : Option Addr} {slLa slcc slB slP slO slW slWs slBd slF slS slV slVs slVW slBV slFr slNm slNN slNF slA slIn slT slE slNd slSE slTS slBq : Array (Option Value)} {nT t1 t2 t3 nTS : Nat} {ocLa kVLa dcLa pmLa ctLa w0 w1 w2 w3 w4 w5 w6 w7 w8 w9 w10 w12 w13 w14 w15 w16 w17 w18 occ ocB kVB dcB pmB cdB ctB ocP kVP dcP pmP cdP ctP ocO kVO dcO pmO cdO ctO ocW kVW dcW pmW cdW ctW ocWs kVWs dcWs pmWs cdWs ctWs ocBd kVBd dcBd pmBd cdBd ctBd ocF kVF dcF pmF cdF ctF ocS kVS dcS pmS cdS ctS ocV kVV dcV pmV cdV ctV ocVs kVVs dcVs pmVs cdVs ctVs ocVW kVVW dcVW pmVW cdVW ctVW ocBV kVBV dcBV pmBV cdBV ctBV ocFr kVFr dcFr pmFr cdFr ctFr ocNm kVNm dcNm pmNm cdNm ctNm ocNN kVNN dcNN pmNN cdNN ctNN ocNF kVNF dcNF pmNF cdNF ctNF ocA kVA dcA pmA cdA ctA ocIn kVIn dcIn pmIn cdIn ctIn ocT ocE kVE dcE pmE cdE ctE ocNd kVNd dcNd pmNd cdNd ctNd ocSE kVSE dcSE pmSE cdSE ctSE dS1 dS2 ocTS ocBq kVBq dcBq pmBq cdBq ctBq : Value}
    (aLa : PySem.W.nsIn K mainGlobals "law" = some (some (.ref fLa)))
    (lLa : K.lookup fLa = some ⟨ocLa, odLa, .func (PySem.W.fnOf "law" "law" (defArgs (top 33)) (defBody (top 33)) (defScope (top 33)) .none kVLa dcLa pmLa anLa (.ref cc) ctLa), slLa⟩)
    (lcc : K.lookup cc = some ⟨occ, odcc, .fields #[w0, w1, w2, w3, w4, w5, w6, w7, w8, w9, w10, .ref Tt, w12, w13, w14, w15, w16, w17, w18], slcc⟩)
    (lTt : K.lookup Tt = none)
    (tb : L2.tabIn K cc = some Tt)
    (cLa : PySem.W.codeIn K (.ref cc) "law" = true)
    (aB : PySem.W.nsIn K mainGlobals "_law_begin" = some (some (.ref fB)))
    (lB : K.lookup fB = some ⟨ocB, odB, .func (PySem.W.fnOf "_law_begin" "_law_begin" (defArgs (top 19)) (defBody (top 19)) (defScope (top 19)) .none kVB dcB pmB anB cdB ctB), slB⟩)
    (cB : PySem.W.codeIn K cdB "_law_begin" = true)
    (kB : PySem.W.keepIn K (.ref fB) = true)
    (aP : PySem.W.nsIn K mainGlobals "_law_pick" = some (some (.ref fP)))
    (lP : K.lookup fP = some ⟨ocP, odP, .func (PySem.W.fnOf "_law_pick" "_law_pick" (defArgs (top 20)) (defBody (top 20)) (defScope (top 20)) .none kVP dcP pmP anP cdP ctP), slP⟩)
    (cP : PySem.W.codeIn K cdP "_law_pick" = true)
    (kP : PySem.W.keepIn K (.ref fP) = true)
    (aO : PySem.W.nsIn K mainGlobals "_law_of" = some (some (.ref fO)))
    (lO : K.lookup fO = some ⟨ocO, odO, .func (PySem.W.fnOf "_law_of" "_law_of" (defArgs (top 21)) (defBody (top 21)) (defScope (top 21)) .none kVO dcO pmO anO cdO ctO), slO⟩)
    (cO : PySem.W.codeIn K cdO "_law_of" = true)
    (kO : PySem.W.keepIn K (.ref fO) = true)
    (aW : PySem.W.nsIn K mainGlobals "_law_word" = some (some (.ref fW)))
    (lW : K.lookup fW = some ⟨ocW, odW, .func (PySem.W.fnOf "_law_word" "_law_word" (defArgs (top 24)) (defBody (top 24)) (defScope (top 24)) .none kVW dcW pmW anW cdW ctW), slW⟩)
    (cW : PySem.W.codeIn K cdW "_law_word" = true)
    (kW : PySem.W.keepIn K (.ref fW) = true)
    (aWs : PySem.W.nsIn K mainGlobals "_law_words" = some (some (.ref fWs)))
    (lWs : K.lookup fWs = some ⟨ocWs, odWs, .func (PySem.W.fnOf "_law_words" "_law_words" (defArgs (top 25)) (defBody (top 25)) (defScope (top 25)) .none kVWs dcWs pmWs anWs cdWs ctWs), slWs⟩)
    (cWs : PySem.W.codeIn K cdWs "_law_words" = true)
    (kWs : PySem.W.keepIn K (.ref fWs) = true)
    (aBd : PySem.W.nsIn K mainGlobals "_law_bound" = some (some (.ref fBd)))
    (lBd : K.lookup fBd = some ⟨ocBd, odBd, .func (PySem.W.fnOf "_law_bound" "_law_bound" (defArgs (top 26)) (defBody (top 26)) (defScope (top 26)) .none kVBd dcBd pmBd anBd cdBd ctBd), slBd⟩)
    (cBd : PySem.W.codeIn K cdBd "_law_bound" = true)
    (kBd : PySem.W.keepIn K (.ref fBd) = true)
    (aF : PySem.W.nsIn K mainGlobals "_law_fields" = some (some (.ref fF)))
    (lF : K.lookup fF = some ⟨ocF, odF, .func (PySem.W.fnOf "_law_fields" "_law_fields" (defArgs (top 27)) (defBody (top 27)) (defScope (top 27)) .none kVF dcF pmF anF cdF ctF), slF⟩)
    (cF : PySem.W.codeIn K cdF "_law_fields" = true)
    (kF : PySem.W.keepIn K (.ref fF) = true)
    (aS : PySem.W.nsIn K mainGlobals "_law_same" = some (some (.ref fS)))
    (lS : K.lookup fS = some ⟨ocS, odS, .func (PySem.W.fnOf "_law_same" "_law_same" (defArgs (top 23)) (defBody (top 23)) (defScope (top 23)) .none kVS dcS pmS anS cdS ctS), slS⟩)
    (cS : PySem.W.codeIn K cdS "_law_same" = true)
    (kS : PySem.W.keepIn K (.ref fS) = true)
    (aV : PySem.W.nsIn K mainGlobals "_law_value" = some (some (.ref fV)))
    (lV : K.lookup fV = some ⟨ocV, odV, .func (PySem.W.fnOf "_law_value" "_law_value" (defArgs (top 28)) (defBody (top 28)) (defScope (top 28)) .none kVV dcV pmV anV cdV ctV), slV⟩)
    (cV : PySem.W.codeIn K cdV "_law_value" = true)
    (kV : PySem.W.keepIn K (.ref fV) = true)
    (aVs : PySem.W.nsIn K mainGlobals "_law_values" = some (some (.ref fVs)))
    (lVs : K.lookup fVs = some ⟨ocVs, odVs, .func (PySem.W.fnOf "_law_values" "_law_values" (defArgs (top 29)) (defBody (top 29)) (defScope (top 29)) .none kVVs dcVs pmVs anVs cdVs ctVs), slVs⟩)
    (cVs : PySem.W.codeIn K cdVs "_law_values" = true)
    (kVs : PySem.W.keepIn K (.ref fVs) = true)
    (aVW : PySem.W.nsIn K mainGlobals "_law_values_word" = some (some (.ref fVW)))
    (lVW : K.lookup fVW = some ⟨ocVW, odVW, .func (PySem.W.fnOf "_law_values_word" "_law_values_word" (defArgs (top 32)) (defBody (top 32)) (defScope (top 32)) .none kVVW dcVW pmVW anVW cdVW ctVW), slVW⟩)
    (cVW : PySem.W.codeIn K cdVW "_law_values_word" = true)
    (kVW : PySem.W.keepIn K (.ref fVW) = true)
    (aBV : PySem.W.nsIn K mainGlobals "_law_bent_values" = some (some (.ref fBV)))
    (lBV : K.lookup fBV = some ⟨ocBV, odBV, .func (PySem.W.fnOf "_law_bent_values" "_law_bent_values" (defArgs (top 31)) (defBody (top 31)) (defScope (top 31)) .none kVBV dcBV pmBV anBV cdBV ctBV), slBV⟩)
    (cBV : PySem.W.codeIn K cdBV "_law_bent_values" = true)
    (kBV : PySem.W.keepIn K (.ref fBV) = true)
    (aFr : PySem.W.nsIn K mainGlobals "_law_far" = some (some (.ref fFr)))
    (lFr : K.lookup fFr = some ⟨ocFr, odFr, .func (PySem.W.fnOf "_law_far" "_law_far" (defArgs (top 22)) (defBody (top 22)) (defScope (top 22)) .none kVFr dcFr pmFr anFr cdFr ctFr), slFr⟩)
    (cFr : PySem.W.codeIn K cdFr "_law_far" = true)
    (kFr : PySem.W.keepIn K (.ref fFr) = true)
    (aNm : PySem.W.nsIn K mainGlobals "is_name" = some (some (.ref fNm)))
    (lNm : K.lookup fNm = some ⟨ocNm, odNm, .func (PySem.W.fnOf "is_name" "is_name" (defArgs (top 13)) (defBody (top 13)) (defScope (top 13)) .none kVNm dcNm pmNm anNm cdNm ctNm), slNm⟩)
    (cNm : PySem.W.codeIn K cdNm "is_name" = true)
    (kNm : PySem.W.keepIn K (.ref fNm) = true)
    (aNN : PySem.W.nsIn K mainGlobals "need_name" = some (some (.ref fNN)))
    (lNN : K.lookup fNN = some ⟨ocNN, odNN, .func (PySem.W.fnOf "need_name" "need_name" (defArgs (top 14)) (defBody (top 14)) (defScope (top 14)) .none kVNN dcNN pmNN anNN cdNN ctNN), slNN⟩)
    (cNN : PySem.W.codeIn K cdNN "need_name" = true)
    (kNN : PySem.W.keepIn K (.ref fNN) = true)
    (aNF : PySem.W.nsIn K mainGlobals "need_fields" = some (some (.ref fNF)))
    (lNF : K.lookup fNF = some ⟨ocNF, odNF, .func (PySem.W.fnOf "need_fields" "need_fields" (defArgs (top 15)) (defBody (top 15)) (defScope (top 15)) .none kVNF dcNF pmNF anNF cdNF ctNF), slNF⟩)
    (cNF : PySem.W.codeIn K cdNF "need_fields" = true)
    (kNF : PySem.W.keepIn K (.ref fNF) = true)
    (aA : PySem.W.nsIn K mainGlobals "_law_ask" = some (some (.ref fA)))
    (lA : K.lookup fA = some ⟨ocA, odA, .func (PySem.W.fnOf "_law_ask" "_law_ask" (defArgs (top 30)) (defBody (top 30)) (defScope (top 30)) .none kVA dcA pmA anA cdA ctA), slA⟩)
    (cA : PySem.W.codeIn K cdA "_law_ask" = true)
    (kA : PySem.W.keepIn K (.ref fA) = true)
    (aC : PySem.W.nsIn K mainGlobals "Kind" = some (some (.ref C)))
    (aIn : PySem.W.findIn K (.ref C) "__init__" = some (some (.ref fIn)))
    (lIn : K.lookup fIn = some ⟨ocIn, odIn, .func (PySem.W.fnOf "__init__" "Kind.__init__" (defArgs sInit) (defBody sInit) (defScope sInit) (.ref Td) kVIn dcIn pmIn anIn cdIn ctIn), slIn⟩)
    (cIn : PySem.W.codeIn K cdIn "Kind.__init__" = true)
    (kIn : PySem.W.keepIn K (.ref fIn) = true)
    (lTd : K.lookup Td = some ⟨ocT, odT, .seq #[.ref d0] nT, slT⟩)
    (aIn0 : PySem.W.findIn K (.ref C) "__init__" = some (some (.ref fIn)))
    (iIn : PySem.W.isFn K (.ref fIn) = true)
    (pg : PySem.W.plainGet K C Str.empty = true)
    (hd : PySem.W.hasDictIn K C = true)
    (po : PySem.W.plainOver K C = true)
    (sa : PySem.W.findIn K (.ref C) "__setattr__" = some (some (.builtin "object.__setattr__")))
    (mk : PySem.W.makesIn K C = true)
    (kc : PySem.W.keepIn K (.ref C) = true)
    (nN : PySem.W.findIn K (.ref C) "name" = some none)
    (nF : PySem.W.findIn K (.ref C) "fields" = some none)
    (aE : PySem.W.findIn K (.ref C) "__eq__" = some (some (.ref fE)))
    (iE : PySem.W.isFn K (.ref fE) = true)
    (lE : K.lookup fE = some ⟨ocE, odE, .func (PySem.W.fnOf "__eq__" "Kind.__eq__" (defArgs (kM 5)) (defBody (kM 5)) (defScope (kM 5)) .none kVE dcE pmE anE cdE ctE), slE⟩)
    (cE : PySem.W.codeIn K cdE "Kind.__eq__" = true)
    (kE : PySem.W.keepIn K (.ref fE) = true)
    (aNd : PySem.W.findIn K (.ref C) "need" = some (some (.ref fNd)))
    (iNd : PySem.W.isFn K (.ref fNd) = true)
    (lNd : K.lookup fNd = some ⟨ocNd, odNd, .func (PySem.W.fnOf "need" "Kind.need" (defArgs (kM 4)) (defBody (kM 4)) (defScope (kM 4)) .none kVNd dcNd pmNd anNd cdNd ctNd), slNd⟩)
    (cNd : PySem.W.codeIn K cdNd "Kind.need" = true)
    (kNd : PySem.W.keepIn K (.ref fNd) = true)
    (q1 : PySem.W.findIn K (.ref C) "__ne__" = some (some (.builtin "object.__ne__")))
    (q3 : PySem.W.findIn K (.ref C) "__class__" = some (some (.builtin "object.__class__")))
    (q4 : PySem.W.specialIn K (.builtin "object.__class__") "__get__" = some (some (.builtin "getset_descriptor.__get__")))
    (q5 : PySem.W.takesIn K (.builtin "object.__class__") = some true)
    (q6 : PySem.W.mroIn K C (.type "object") = some true)
    (q7 : PySem.W.kitOne K (.ref C) (.ref C) = some true)
    (q8 : PySem.W.notFirst K C (.ref C) = true)
    (z_len : PySem.W.nsIn K mainGlobals "len" = some none)
    (z_range : PySem.W.nsIn K mainGlobals "range" = some none)
    (z_list : PySem.W.nsIn K mainGlobals "list" = some none)
    (z_tuple : PySem.W.nsIn K mainGlobals "tuple" = some none)
    (z_str : PySem.W.nsIn K mainGlobals "str" = some none)
    (z_bool : PySem.W.nsIn K mainGlobals "bool" = some none)
    (z_int : PySem.W.nsIn K mainGlobals "int" = some none)
    (z_min : PySem.W.nsIn K mainGlobals "min" = some none)
    (z_repr : PySem.W.nsIn K mainGlobals "repr" = some none)
    (z_all : PySem.W.nsIn K mainGlobals "all" = some none)
    (z_any : PySem.W.nsIn K mainGlobals "any" = some none)
    (z_isinstance : PySem.W.nsIn K mainGlobals "isinstance" = some none)
    (z_enumerate : PySem.W.nsIn K mainGlobals "enumerate" = some none)
    (z_zip : PySem.W.nsIn K mainGlobals "zip" = some none)
    (z_ValueError : PySem.W.nsIn K mainGlobals "ValueError" = some none)
    (m1 : PySem.W.nsIn K mainGlobals "MOST_LETTERS" = some (some (.int 8 t1)))
    (m2 : PySem.W.nsIn K mainGlobals "MOST_FIELDS" = some (some (.int 4 t2)))
    (m3 : PySem.W.nsIn K mainGlobals "LIMIT" = some (some (.int 999999 t3)))
    (a_qS : PySem.W.nsIn K mainGlobals "ScribeError" = some (some (.ref qS)))
    (a_qV : PySem.W.nsIn K mainGlobals "BadValue" = some (some (.ref qV)))
    (a_qM : PySem.W.nsIn K mainGlobals "Missing" = some (some (.ref qM)))
    (x1S : makesX K qS "ValueError" "ValueError.__new__" = true)
    (x2S : PySem.W.findIn K (.ref qS) "__setattr__" = some (some (.builtin "object.__setattr__")))
    (x3S : xcd K qS [qS] (xbm "ValueError") = true)
    (x4S : PySem.W.keepIn K (.ref qS) = true)
    (x5S : PySem.W.typeIn K (.ref qS) = some (.type "type"))
    (x1V : makesX K qV "ValueError" "ValueError.__new__" = true)
    (x2V : PySem.W.findIn K (.ref qV) "__setattr__" = some (some (.builtin "object.__setattr__")))
    (x3V : xcd K qV [qV, qS] (xbm "ValueError") = true)
    (x4V : PySem.W.keepIn K (.ref qV) = true)
    (x5V : PySem.W.typeIn K (.ref qV) = some (.type "type"))
    (x1M : makesX K qM "LookupError" "LookupError.__new__" = true)
    (x2M : PySem.W.findIn K (.ref qM) "__setattr__" = some (some (.builtin "object.__setattr__")))
    (x3M : xcd K qM [qM] (xbm "LookupError") = true)
    (x4M : PySem.W.keepIn K (.ref qM) = true)
    (x5M : PySem.W.typeIn K (.ref qM) = some (.type "type"))
    (aSE : PySem.W.findIn K (.ref qS) "__init__" = some (some (.ref fSE)))
    (lSE : K.lookup fSE = some ⟨ocSE, odSE, .func (PySem.W.fnOf "__init__" "ScribeError.__init__" (defArgs sSE) (defBody sSE) (defScope sSE) (.ref TS) kVSE dcSE pmSE anSE cdSE ctSE), slSE⟩)
    (cSE : PySem.W.codeIn K cdSE "ScribeError.__init__" = true)
    (kSE : PySem.W.keepIn K (.ref fSE) = true)
    (lTS : K.lookup TS = some ⟨ocTS, odTS, .seq #[dS1, dS2] nTS, slTS⟩)
    (fc : PySem.W.findCls K (.type "ValueError") (.type "type") "__init__" = some (.val (.builtin "ValueError.__init__")))
    (sg : PySem.W.specialIn K (.ref qS) "__getattribute__" = some (some (.builtin "type.__getattribute__")))
    (rd1 : PySem.W.readsIn K qS (.type "type") = true)
    (rd2 : PySem.W.findCls K (.ref qS) (.type "type") "__init__" = some (.val (.ref fSE)))
    (aBq : PySem.W.findIn K (.ref qV) "__init__" = some (some (.ref fBq)))
    (lBq : K.lookup fBq = some ⟨ocBq, odBq, .func (PySem.W.fnOf "__init__" "BadValue.__init__" (defArgs sBV) (defBody sBV) (defScope sBV) .none kVBq dcBq pmBq anBq cdBq ctBq), slBq⟩)
    (cBq : PySem.W.codeIn K cdBq "BadValue.__init__" = true)
    (kBq : PySem.W.keepIn K (.ref fBq) = true)
    (nBq : PySem.W.isFn K (.ref fBq) = true)
    (tw : PySem.W.takerIn K qV "word" = some none)
    (ta : PySem.W.takerIn K qV "at" = some none)
    (mv : PySem.W.mroIn K qV (.ref qV) = some true)
    (g1 : PySem.W.findIn K (.ref qV) "__getattribute__" = some (some (.builtin "BaseException.__getattribute__")))
    (g2 : PySem.W.findIn K (.ref qV) "__getattr__" = some none)
    (g3 : PySem.W.hasDictIn K qV = true)
    (g4 : PySem.W.findIn K (.ref qV) "at" = some none)
    (g5 : PySem.W.mroIn K qV (.type "BaseException") = some true) :
    ∃ (fd : FuncData) (sp : Sp), (∀ (s : Shared) (u : Value), BindsTo s fd ⟨[u], []⟩ [("_law_script", u)]) ∧ (∀ T ∈ [Tt], K.lookup T = none ∧ ∃ c, L2.tabIn K c = some T) ∧
        (∀ (H : Hp) (a : Addr) (ns : List Int), ns.length ≤ 63 → (∀ T ∈ [Tt], H T = some (.tbl #[])) → SqL K H a (ns.map V.int) → sp [.ref a] H (fun v _ => v = .bl true) fun _ _ _ => False) ∧
        ∀ base : Heap, K.In base → base.Ns mainGlobals mg → (∀ T ∈ [Tt], base.BuiltinsAt mg T ∧ mainGlobals ≠ T) → FnOk l.prog w K mg base CX0 8 fa fd ["_law_script"] sp := by
  have e := hfa.symm.trans (PySem.W.mg_of X G aLa)
  cases e
  have T : Txt K mg := ⟨PySem.W.mg_none_of X G z_len, PySem.W.mg_none_of X G z_range, PySem.W.mg_none_of X G z_list, PySem.W.mg_none_of X G z_tuple, PySem.W.mg_none_of X G z_str, PySem.W.mg_none_of X G z_bool, PySem.W.mg_none_of X G z_int, PySem.W.mg_none_of X G z_min, PySem.W.mg_none_of X G z_repr, PySem.W.mg_none_of X G z_all, PySem.W.mg_none_of X G z_any, PySem.W.mg_none_of X G z_isinstance⟩
  have TK' : TxtK mg := ⟨⟨_, PySem.W.mg_of X G m1⟩, ⟨_, PySem.W.mg_of X G m2⟩, ⟨_, PySem.W.mg_of X G m3⟩⟩
  have KC : KCls K mg C := ⟨⟨pg, hd, po, sa⟩, nN, nF, PySem.W.mg_of X G aC⟩
  have TE : TxtE K mg := ⟨PySem.W.mg_none_of X G z_ValueError, fc⟩
  have FB := fun_mk (st := top 19) lB cB kB
  have bB := FB.binds (ps := ["_law_script"]) fun _ _ _ _ _ _ us hl => by obtain ⟨_, rfl⟩ := len1 hl; rfl
  have FP := fun_mk (st := top 20) lP cP kP
  have bP := FP.binds (ps := ["_law_d", "_law_many"]) fun _ _ _ _ _ _ us hl => by obtain ⟨_, _, rfl⟩ := len2 hl; rfl
  have FO := fun_mk (st := top 21) lO cO kO
  have bO := FO.binds (ps := ["_law_d", "_law_things"]) fun _ _ _ _ _ _ us hl => by obtain ⟨_, _, rfl⟩ := len2 hl; rfl
  have FW := fun_mk (st := top 24) lW cW kW
  have bW := FW.binds (ps := ["_law_d"]) fun _ _ _ _ _ _ us hl => by obtain ⟨_, rfl⟩ := len1 hl; rfl
  have FWs := fun_mk (st := top 25) lWs cWs kWs
  have bWs := FWs.binds (ps := ["_law_d", "_law_many"]) fun _ _ _ _ _ _ us hl => by obtain ⟨_, _, rfl⟩ := len2 hl; rfl
  have FBd := fun_mk (st := top 26) lBd cBd kBd
  have bBd := FBd.binds (ps := ["_law_d"]) fun _ _ _ _ _ _ us hl => by obtain ⟨_, rfl⟩ := len1 hl; rfl
  have FF := fun_mk (st := top 27) lF cF kF
  have bF := FF.binds (ps := ["_law_d", "_law_many"]) fun _ _ _ _ _ _ us hl => by obtain ⟨_, _, rfl⟩ := len2 hl; rfl
  have FS := fun_mk (st := top 23) lS cS kS
  have bS := FS.binds (ps := ["_law_found", "_law_due"]) fun _ _ _ _ _ _ us hl => by obtain ⟨_, _, rfl⟩ := len2 hl; rfl
  have FV := fun_mk (st := top 28) lV cV kV
  have bV := FV.binds (ps := ["_law_d", "_law_field"]) fun _ _ _ _ _ _ us hl => by obtain ⟨_, _, rfl⟩ := len2 hl; rfl
  have FVs := fun_mk (st := top 29) lVs cVs kVs
  have bVs := FVs.binds (ps := ["_law_d", "_law_fields_here"]) fun _ _ _ _ _ _ us hl => by obtain ⟨_, _, rfl⟩ := len2 hl; rfl
  have FVW := fun_mk (st := top 32) lVW cVW kVW
  have bVW := FVW.binds (ps := ["_law_fields_here", "_law_values_here"]) fun _ _ _ _ _ _ us hl => by obtain ⟨_, _, rfl⟩ := len2 hl; rfl
  have FBV := fun_mk (st := top 31) lBV cBV kBV
  have bBV := FBV.binds (ps := ["_law_d", "_law_fields_here", "_law_values_here"]) fun _ _ _ _ _ _ us hl => by obtain ⟨_, _, _, rfl⟩ := len3 hl; rfl
  have FFr := fun_mk (st := top 22) lFr cFr kFr
  have bFr := FFr.binds (ps := ["_law_d"]) fun _ _ _ _ _ _ us hl => by obtain ⟨_, rfl⟩ := len1 hl; rfl
  have FNm := fun_mk (st := top 13) lNm cNm kNm
  have bNm := FNm.binds (ps := ["text"]) fun _ _ _ _ _ _ us hl => by obtain ⟨_, rfl⟩ := len1 hl; rfl
  have FNN := fun_mk (st := top 14) lNN cNN kNN
  have bNN := FNN.binds (ps := ["text"]) fun _ _ _ _ _ _ us hl => by obtain ⟨_, rfl⟩ := len1 hl; rfl
  have FNF := fun_mk (st := top 15) lNF cNF kNF
  have bNF := FNF.binds (ps := ["fields"]) fun _ _ _ _ _ _ us hl => by obtain ⟨_, rfl⟩ := len1 hl; rfl
  have FA := fun_mk (st := top 30) lA cA kA
  have bA := FA.binds (ps := ["_law_ask_here"]) fun _ _ _ _ _ _ us hl => by obtain ⟨_, rfl⟩ := len1 hl; rfl
  have FIn : FunD K "__init__" "Kind.__init__" sInit (.ref Td) fIn _ := ⟨⟨_, _, _, _, _, _, _, _, _, rfl, lIn, cIn⟩, kIn⟩
  have bIn := FIn.binds (ps := ["self", "name", "fields"]) (ds := []) lTd rfl fun kV doc pm an cdv ct s us hT hl => bindInit rfl kV doc pm an cdv ct s us hT hl
  have FSE : FunD K "__init__" "ScribeError.__init__" sSE (.ref TS) fSE _ := ⟨⟨_, _, _, _, _, _, _, _, _, rfl, lSE, cSE⟩, kSE⟩
  have bSE := FSE.binds (ps := ["self", "words", "word"]) (ds := []) lTS rfl fun kV doc pm an cdv ct s us hT hl => (by rw [List.append_nil] at hl ⊢; obtain ⟨_, _, _, rfl⟩ := len3 hl; exact BindsTo.of_defaults rfl hT rfl rfl rfl)
  have MS : MkOf K mg "ScribeError" qS fSE := ⟨PySem.W.mg_of X G a_qS, sg, ⟨_, rd1, rd2⟩, kSE⟩
  have TA : TxtA K mg qV qS qM := ⟨PySem.W.mg_none_of X G z_str, PySem.W.mg_of X G a_qV, PySem.W.mg_of X G a_qS, PySem.W.mg_of X G a_qM, ⟨_, _, xcls_of x1V x2V x3V x4V x5V rl_ve⟩, ⟨_, _, xcls_of x1S x2S x3S x4S x5S rl_ve⟩, ⟨_, _, xcls_of x1M x2M x3M x4M x5M rl_le⟩⟩
  have FBq := fun_mk (st := sBV) lBq cBq kBq
  have bBq := FBq.binds (ps := ["self", "at"]) fun _ _ _ _ _ _ us hl => by obtain ⟨_, _, rfl⟩ := len2 hl; rfl
  have WV : VCls K mg qV fBq _ := ⟨bBq, PySem.W.mg_of X G a_qV, ⟨⟨xcls_of x1V x2V x3V x4V x5V rl_ve, tw⟩, ta⟩, aBq, nBq⟩
  have BV : BadV K qV := ⟨mv, g1, g2, g3, g4, g5⟩
  have KF : KFacts K C := ⟨q1, ⟨q3, q4, q5, q6⟩, q7, q8⟩
  have FE := fun_mk (st := kM 5) lE cE kE
  have bE := FE.binds (ps := ["self", "other"]) fun _ _ _ _ _ _ us hl => by obtain ⟨_, _, rfl⟩ := len2 hl; rfl
  have FNd := fun_mk (st := kM 4) lNd cNd kNd
  have bNd := FNd.binds (ps := ["self", "values"]) fun _ _ _ _ _ _ us hl => by obtain ⟨_, _, rfl⟩ := len2 hl; rfl
  have DB : Def K mg "_law_begin" (top 19) ["_law_script"] fB _ := ⟨FB, PySem.W.mg_of X G aB, bB⟩
  have DP : Def K mg "_law_pick" (top 20) ["_law_d", "_law_many"] fP _ := ⟨FP, PySem.W.mg_of X G aP, bP⟩
  have DO : Def K mg "_law_of" (top 21) ["_law_d", "_law_things"] fO _ := ⟨FO, PySem.W.mg_of X G aO, bO⟩
  have DW : Def K mg "_law_word" (top 24) ["_law_d"] fW _ := ⟨FW, PySem.W.mg_of X G aW, bW⟩
  have DWs : Def K mg "_law_words" (top 25) ["_law_d", "_law_many"] fWs _ := ⟨FWs, PySem.W.mg_of X G aWs, bWs⟩
  have DBd : Def K mg "_law_bound" (top 26) ["_law_d"] fBd _ := ⟨FBd, PySem.W.mg_of X G aBd, bBd⟩
  have DF : Def K mg "_law_fields" (top 27) ["_law_d", "_law_many"] fF _ := ⟨FF, PySem.W.mg_of X G aF, bF⟩
  have DS : Def K mg "_law_same" (top 23) ["_law_found", "_law_due"] fS _ := ⟨FS, PySem.W.mg_of X G aS, bS⟩
  have DV : Def K mg "_law_value" (top 28) ["_law_d", "_law_field"] fV _ := ⟨FV, PySem.W.mg_of X G aV, bV⟩
  have DVs : Def K mg "_law_values" (top 29) ["_law_d", "_law_fields_here"] fVs _ := ⟨FVs, PySem.W.mg_of X G aVs, bVs⟩
  have DVW : Def K mg "_law_values_word" (top 32) ["_law_fields_here", "_law_values_here"] fVW _ := ⟨FVW, PySem.W.mg_of X G aVW, bVW⟩
  have DBV : Def K mg "_law_bent_values" (top 31) ["_law_d", "_law_fields_here", "_law_values_here"] fBV _ := ⟨FBV, PySem.W.mg_of X G aBV, bBV⟩
  have DFr : Def K mg "_law_far" (top 22) ["_law_d"] fFr _ := ⟨FFr, PySem.W.mg_of X G aFr, bFr⟩
  have DNm : Def K mg "is_name" (top 13) ["text"] fNm _ := ⟨FNm, PySem.W.mg_of X G aNm, bNm⟩
  have DNN : Def K mg "need_name" (top 14) ["text"] fNN _ := ⟨FNN, PySem.W.mg_of X G aNN, bNN⟩
  have DNF : Def K mg "need_fields" (top 15) ["fields"] fNF _ := ⟨FNF, PySem.W.mg_of X G aNF, bNF⟩
  have DA : Def K mg "_law_ask" (top 30) ["_law_ask_here"] fA _ := ⟨FA, PySem.W.mg_of X G aA, bA⟩
  refine ⟨PySem.W.fnOf "law" "law" (defArgs (top 33)) (defBody (top 33)) (defScope (top 33)) .none kVLa dcLa pmLa anLa (.ref cc) ctLa, spLaw3 K Tt #[], fun s v => .of_eq rfl, fun T m => by cases List.mem_singleton.mp m; exact ⟨lTt, cc, tb⟩, fun H a ns hl hT hS => ⟨a, ns, rfl, hS, hl, hT _ (List.mem_singleton.mpr rfl), fun _ => rfl⟩, fun base kb0' nsb hbt => ?_⟩
  obtain ⟨hbb, hg⟩ := hbt Tt (List.mem_singleton.mpr rfl)
  have GV := ok_bv (P := l.prog) (w := w) (base := base) (CX := CX0) FBq TE FSE bSE MS
  have GNd := ok_need (P := l.prog) (w := w) (base := base) FNd T (PySem.W.mg_none_of X G z_enumerate) (PySem.W.mg_none_of X G z_zip) KC WV GV
  have GA := ok_ask (P := l.prog) (w := w) (base := base) (CX := CX0) (k := 6) DA.F TA
  exact ok_law3 lLa cLa (hd_of kb0' tb) hbb hg trivial (fun lp m => rfl) T TK' KC KF ⟨mk, aIn0, iIn, kc⟩ BV DB DP DO DW DWs DBd DF DS DV DVs DVW DBV DFr DNm DNN DNF FIn bIn ⟨⟨aE, iE, kE⟩, FE, bE⟩ ⟨aNd, iNd, kNd⟩ GNd bNd GA (PySem.W.mg_of X G aA) kA bA
end Cm

set_option Elab.async false
set_option linter.all false
open PySem PySem.W PyProof.Rows
set_option maxRecDepth 100000 in
set_option maxHeartbeats 0 in
theorem PySem.Challenge.cw_lanescribe_k03_values_looked_at_holds : PySem.Challenge.rw_lanescribe_k03_values_looked_at.Holds := by
  w_on
  refine Kd.head ?hw (by rfl) (by rfl) (by rfl) ?hc
  (case hw => w_witness2)
  k_fill
  refine L2.walk_ofM (l := PySem.Challenge.rw_lanescribe_k03_values_looked_at) (n := 63) (k := 8) (x := "_law_script") (CX := fun _ => L2.CX0) rfl (by decide) rfl ⟨rfl, by decide, by decide, rfl⟩ (fun w h Y => PySem.W.km_in_of Y) (fun w h Y => PySem.W.km_tabs_of Y) ?F (fun _ _ _ _ _ z => z)
  case F =>
    intro w mg fa h KX G hmg
    refine' Cm.all_mk KX G hmg ?aLa ?lLa ?lcc ?lTt ?tb ?cLa ?aB ?lB ?cB ?kB ?aP ?lP ?cP ?kP ?aO ?lO ?cO ?kO ?aW ?lW ?cW ?kW ?aWs ?lWs ?cWs ?kWs ?aBd ?lBd ?cBd ?kBd ?aF ?lF ?cF ?kF ?aS ?lS ?cS ?kS ?aV ?lV ?cV ?kV ?aVs ?lVs ?cVs ?kVs ?aVW ?lVW ?cVW ?kVW ?aBV ?lBV ?cBV ?kBV ?aFr ?lFr ?cFr ?kFr ?aNm ?lNm ?cNm ?kNm ?aNN ?lNN ?cNN ?kNN ?aNF ?lNF ?cNF ?kNF ?aA ?lA ?cA ?kA ?aC ?aIn ?lIn ?cIn ?kIn ?lTd ?aIn0 ?iIn ?pg ?hd ?po ?sa ?mk ?kc ?nN ?nF ?aE ?iE ?lE ?cE ?kE ?aNd ?iNd ?lNd ?cNd ?kNd ?q1 ?q3 ?q4 ?q5 ?q6 ?q7 ?q8 ?z_len ?z_range ?z_list ?z_tuple ?z_str ?z_bool ?z_int ?z_min ?z_repr ?z_all ?z_any ?z_isinstance ?z_enumerate ?z_zip ?z_ValueError ?m1 ?m2 ?m3 ?a_qS ?a_qV ?a_qM ?x1S ?x2S ?x3S ?x4S ?x5S ?x1V ?x2V ?x3V ?x4V ?x5V ?x1M ?x2M ?x3M ?x4M ?x5M ?aSE ?lSE ?cSE ?kSE ?lTS ?fc ?sg ?rd1 ?rd2 ?aBq ?lBq ?cBq ?kBq ?nBq ?tw ?ta ?mv ?g1 ?g2 ?g3 ?g4 ?g5
    (case aLa => k_is)
    (case lLa => k_is)
    (case lcc => k_is)
    (case lTt => kernel_rfl)
    (case tb => kernel_rfl)
    (case cLa => k_is)
    (case aB => k_is)
    (case lB => k_is)
    (case cB => k_is)
    (case kB => k_is)
    (case aP => k_is)
    (case lP => k_is)
    (case cP => k_is)
    (case kP => k_is)
    (case aO => k_is)
    (case lO => k_is)
    (case cO => k_is)
    (case kO => k_is)
    (case aW => k_is)
    (case lW => k_is)
    (case cW => k_is)
    (case kW => k_is)
    (case aWs => k_is)
    (case lWs => k_is)
    (case cWs => k_is)
    (case kWs => k_is)
    (case aBd => k_is)
    (case lBd => k_is)
    (case cBd => k_is)
    (case kBd => k_is)
    (case aF => k_is)
    (case lF => k_is)
    (case cF => k_is)
    (case kF => k_is)
    (case aS => k_is)
    (case lS => k_is)
    (case cS => k_is)
    (case kS => k_is)
    (case aV => k_is)
    (case lV => k_is)
    (case cV => k_is)
    (case kV => k_is)
    (case aVs => k_is)
    (case lVs => k_is)
    (case cVs => k_is)
    (case kVs => k_is)
    (case aVW => k_is)
    (case lVW => k_is)
    (case cVW => k_is)
    (case kVW => k_is)
    (case aBV => k_is)
    (case lBV => k_is)
    (case cBV => k_is)
    (case kBV => k_is)
    (case aFr => k_is)
    (case lFr => k_is)
    (case cFr => k_is)
    (case kFr => k_is)
    (case aNm => k_is)
    (case lNm => k_is)
    (case cNm => k_is)
    (case kNm => k_is)
    (case aNN => k_is)
    (case lNN => k_is)
    (case cNN => k_is)
    (case kNN => k_is)
    (case aNF => k_is)
    (case lNF => k_is)
    (case cNF => k_is)
    (case kNF => k_is)
    (case aA => k_is)
    (case lA => k_is)
    (case cA => k_is)
    (case kA => k_is)
    (case aC => k_is)
    (case aIn => k_is)
    (case lIn => k_is)
    (case cIn => k_is)
    (case kIn => k_is)
    (case lTd => k_is)
    (case aIn0 => k_is)
    (case iIn => k_is)
    (case pg => k_is)
    (case hd => k_is)
    (case po => k_is)
    (case sa => k_is)
    (case mk => k_is)
    (case kc => k_is)
    (case nN => k_is)
    (case nF => k_is)
    (case aE => k_is)
    (case iE => k_is)
    (case lE => k_is)
    (case cE => k_is)
    (case kE => k_is)
    (case aNd => k_is)
    (case iNd => k_is)
    (case lNd => k_is)
    (case cNd => k_is)
    (case kNd => k_is)
    (case q1 => k_is)
    (case q3 => k_is)
    (case q4 => k_is)
    (case q5 => k_is)
    (case q6 => k_is)
    (case q7 => kit_is)
    (case q8 => k_is)
    (case z_len => k_is)
    (case z_range => k_is)
    (case z_list => k_is)
    (case z_tuple => k_is)
    (case z_str => k_is)
    (case z_bool => k_is)
    (case z_int => k_is)
    (case z_min => k_is)
    (case z_repr => k_is)
    (case z_all => k_is)
    (case z_any => k_is)
    (case z_isinstance => k_is)
    (case z_enumerate => k_is)
    (case z_zip => k_is)
    (case z_ValueError => k_is)
    (case m1 => k_is)
    (case m2 => k_is)
    (case m3 => k_is)
    (case a_qS => k_is)
    (case a_qV => k_is)
    (case a_qM => k_is)
    (case x1S => kernel_rfl)
    (case x2S => k_is)
    (case x3S => kernel_rfl)
    (case x4S => k_is)
    (case x5S => k_is)
    (case x1V => kernel_rfl)
    (case x2V => k_is)
    (case x3V => kernel_rfl)
    (case x4V => k_is)
    (case x5V => k_is)
    (case x1M => kernel_rfl)
    (case x2M => k_is)
    (case x3M => kernel_rfl)
    (case x4M => k_is)
    (case x5M => k_is)
    (case aSE => k_is)
    (case lSE => k_is)
    (case cSE => k_is)
    (case kSE => k_is)
    (case lTS => k_is)
    (case fc => k_is)
    (case sg => k_is)
    (case rd1 => k_is)
    (case rd2 => k_is)
    (case aBq => k_is)
    (case lBq => k_is)
    (case cBq => k_is)
    (case kBq => k_is)
    (case nBq => k_is)
    (case tw => k_is)
    (case ta => k_is)
    (case mv => k_is)
    (case g1 => k_is)
    (case g2 => k_is)
    (case g3 => k_is)
    (case g4 => k_is)
    (case g5 => k_is)

