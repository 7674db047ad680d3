import PyProof.Rows.All
import Wide.All
import OpenK.AllK
import Wide.FinOn
import KE.KNestM
import Lean
import PyProof.EqAt
import PyProof.EqKinds
import PyProof.TupleCall
import PyProof.StationsW
import PyProof.ExcBaseAll.ValueError
import PyProof.InstStoreFacts
import PyProof.RulesAs
import PyProof.RulesDel
import KE.KLam
import PyProof.ExcArgsOwn
import PyProof.AutoListH
import PyProof.StrWalks
import PyProof.StrBlockH
import PyProof.WalkInts
import PyProof.SeqI3
import PyProof.Rows.SetFrom
import PyProof.ZipIter
import KE.KTabLook
import PyProof.StrLaws
import KE.KIntText
import KE.KStrOpen
import PyProof.StrLawsTight
import PyProof.Rows.StrFit
import PyProof.Draws
import PyProof.EnumMake
import PyProof.StrCalls2
import PyProof.Rows.StrSplitJoin
import PyProof.CollectIter
import PyProof.StrBlock2
import PyProof.Rows.SortWalk
import PyProof.Rows.CallKwBuiltin
import KE.KMinBuiltin
import PySem.Challenge.RW_lanescribe_k30_spans_and_strays
set_option Elab.async false
set_option linter.all false
set_option maxRecDepth 1000000
set_option maxHeartbeats 0
namespace Kd
open PySem PySem.W
noncomputable section
theorem left_boot {p q:Program} {loose:List Str} {Xt:Shared→Bool} {α:Type} {Yf:Shared→α} {Ya:World→α} {N:Nat} (e:opening p=plainProg p.main.scope.names) (hN:Nat.ble 600 N=true) (f:∀ s,fenceModules? p s=some s)
    (h:∀ (w:World) (os:OsState),(topFrom treeTable p w N ⟨boot_heap w.params,Array.mk [],boot_drawn,boot_toks,os⟩).map (fun s=>(openSeen q loose (importedModules p.main.body) Xt true s,Yf s))=some (openGood q loose,Ya w)):LeftO p q loose Xt Yf Ya N:=fun w=>by
  obtain ⟨⟨h',gs,d,k,os⟩,e1,e2⟩:=Option.map_eq_some_iff.mp (boot_open e hN f w)
  obtain ⟨rfl,rfl,rfl,rfl⟩:h'=boot_heap w.params∧gs=Array.mk []∧d=boot_drawn∧k=boot_toks:=by simpa using e2
  unfold openEnds
  rw [e1]
  exact h w os
abbrev u (x:String):Str:=Str.ofString x
abbrev vs (x:String) (t:Nat):Value:=.str (Str.ofString x) t
abbrev vi (x:Int) (t:Nat):Value:=.int x t
abbrev vr (x:Nat):Value:=.ref x
abbrev de (P:Params) (x:String) (t:Nat) (v:Value):DictEntry:={ hash:=PyData.keyHash P (Str.ofString x),key:=.str (Str.ofString x) t,val:=v }
def tp (i:Nat):Stmt:=PySem.Challenge.pw_lanescribe_k30_spans_and_strays.main.body.getD i (.Pass ⟨0,0,0,0⟩)
def meth (i j:Nat):Stmt:=match tp i with
  |.ClassDef _ _ _ body _ _ _ _ _ _ _=>body.getD j (.Pass ⟨0,0,0,0⟩)
  |_=>.Pass ⟨0,0,0,0⟩
def dA (s:Stmt):Arguments:=match s with
  |.FunctionDef _ a _ _ _ _ _ _ _ _=>a
  |_=>{ posonlyargs:=[],args:=[],vararg:=none,kwonlyargs:=[],kw_defaults:=[],kwarg:=none,defaults:=[] }
def dB (s:Stmt):List Stmt:=match s with
  |.FunctionDef _ _ b _ _ _ _ _ _ _=>b
  |_=>[]
def dS (s:Stmt):Scope:=match s with
  |.FunctionDef _ _ _ _ _ _ sc _ _ _=>sc
  |_=>{ kind:=.function,names:=[],isGenerator:=false,isCoroutine:=false }
abbrev TA (i:Nat):Arguments:=dA (tp i)
abbrev TB (i:Nat):List Stmt:=dB (tp i)
abbrev TS (i:Nat):Scope:=dS (tp i)
abbrev MA (i j:Nat):Arguments:=dA (meth i j)
abbrev MB (i j:Nat):List Stmt:=dB (meth i j)
abbrev MS (i j:Nat):Scope:=dS (meth i j)
def KK:Params→Frag:=fun P=>
  ((nat_lit 2,{ cls:=Value.none,data:=Data.dict #[] }):Addr×Obj)::
  ((nat_lit 3,{ cls:=Value.type "dict",data:=Data.dict #[de P "__name__" 165 (vs "law_lanescribe_k30_spans_and_strays" 359),de P "__doc__" 166 (Value.none),de P "__package__" 167 (Value.none),de P "__loader__" 168 (Value.builtin "__main__.__loader__#opaque"),de P "__spec__" 169 (Value.none),de P "__annotations__" 170 (vr 6),de P "__builtins__" 171 (vr 4),de P "__file__" 173 (vs "/claim/cut.py" 172),de P "__cached__" 174 (Value.none),de P "ScribeError" 218 (vr 32),de P "BadPairs" 243 (vr 53),de P "BadValue" 268 (vr 72),de P "Missing" 298 (vr 92),de P "MOST_LETTERS" 302 (vi 8 301),de P "is_name" 309 (vr 102),de P "need_pairs" 317 (vr 107),de P "walked" 323 (vr 112),de P "close" 332 (vr 119),de P "spans" 342 (vr 126),de P "strays" 352 (vr 133),de P "deepest" 358 (vr 138),de P "_law_begin" 369 (vr 145),de P "_law_pick" 380 (vr 152),de P "_law_of" 388 (vr 159),de P "_law_same" 394 (vr 164),de P "_law_word" 400 (vr 169),de P "_law_words" 412 (vr 176),de P "_law_ask" 422 (vr 183),de P "_law_span_row" 434 (vr 190),de P "_law_span_pairs" 440 (vr 195),de P "_law_spans" 446 (vr 200),de P "law" 452 (vr 205)] 32 }):Addr×Obj)::
  ((nat_lit 15,{ cls:=Value.type "tuple",data:=Data.seq #[Value.type "ValueError"] }):Addr×Obj)::
  ((nat_lit 22,{ cls:=Value.type "tuple",data:=Data.seq #[vs "" 201,vs "scribeerror" 202] }):Addr×Obj)::
  ((nat_lit 23,{ cls:=Value.type "tuple",data:=Data.seq #[] }):Addr×Obj)::
  ((nat_lit 25,{ cls:=Value.type "tuple",data:=Data.seq #[vs "self" 206,vs "words" 207,vs "word" 208] }):Addr×Obj)::
  ((nat_lit 26,{ cls:=Value.type "tuple",data:=Data.seq #[] }):Addr×Obj)::
  ((nat_lit 28,{ cls:=Value.type "code",data:=Data.fields #[vs "__init__" 203,vs "ScribeError.__init__" 204,vs "/claim/cut.py" 205,vi 4 0,vi 3 0,vi 0 0,vi 0 0,vi 3 0,vr 23,Value.bool true,vi 181 0,vr 24,Value.none,vr 25,vr 26,vr 27,vi 209 0,vi 4 0,vs "/claim/cut.py" 210] }):Addr×Obj)::
  ((nat_lit 29,{ cls:=Value.type "function",data:=Data.func { name:=u "__init__",qualname:=u "ScribeError.__init__",params:=MA 1 0,body:=FuncBody.stmts (MB 1 0),scope:=MS 1 0,globals:=3,closure:=[],defaults:=vr 22,kwdefaults:=Value.none,pyModule:=vs "lanescribe.errors" 187,code:=vr 28 } }):Addr×Obj)::
  ((nat_lit 30,{ cls:=Value.type "tuple",data:=Data.seq #[vs "word" 212] }):Addr×Obj)::
  ((nat_lit 31,{ cls:=Value.type "dict",data:=Data.dict #[de P "__module__" 196 (vs "lanescribe.errors" 187),de P "__firstlineno__" 200 (vi 2 199),de P "__init__" 211 (vr 29),de P "__static_attributes__" 213 (vr 30),de P "__weakref__" 215 (vr 33),de P "__doc__" 216 (Value.none)] 3 }):Addr×Obj)::
  ((nat_lit 32,{ cls:=Value.type "type",data:=Data.cls { name:=u "ScribeError",bases:=[Value.type "ValueError"],mro:=[vr 32,Value.type "ValueError",Value.type "Exception",Value.type "BaseException",Value.type "object"],ns:=31,qualname:=u "ScribeError",subclasses:=[vr 53,vr 72] },slots:=#[some (vr 15),none,some (vs "ScribeError" 189),some (vs "ScribeError" 197),some (Value.builtin "ValueError.__new__"),some (Value.bool true)] }):Addr×Obj)::
  ((nat_lit 33,{ cls:=Value.type "getset_descriptor",data:=Data.fields #[vs "__weakref__" 214,vr 32,Value.builtin "ExceptionGroup.__weakref__",Value.none] }):Addr×Obj)::
  ((nat_lit 36,{ cls:=Value.type "tuple",data:=Data.seq #[vr 32] }):Addr×Obj)::
  ((nat_lit 43,{ cls:=Value.type "tuple",data:=Data.seq #[vs "" 231] }):Addr×Obj)::
  ((nat_lit 44,{ cls:=Value.type "tuple",data:=Data.seq #[] }):Addr×Obj)::
  ((nat_lit 46,{ cls:=Value.type "tuple",data:=Data.seq #[vs "self" 235,vs "words" 236] }):Addr×Obj)::
  ((nat_lit 47,{ cls:=Value.type "tuple",data:=Data.seq #[] }):Addr×Obj)::
  ((nat_lit 49,{ cls:=Value.type "code",data:=Data.fields #[vs "__init__" 232,vs "BadPairs.__init__" 233,vs "/claim/cut.py" 234,vi 9 0,vi 2 0,vi 0 0,vi 0 0,vi 3 0,vr 44,Value.bool true,vi 181 0,vr 45,Value.none,vr 46,vr 47,vr 48,vi 237 0,vi 9 0,vs "/claim/cut.py" 238] }):Addr×Obj)::
  ((nat_lit 50,{ cls:=Value.type "function",data:=Data.func { name:=u "__init__",qualname:=u "BadPairs.__init__",params:=MA 2 0,body:=FuncBody.stmts (MB 2 0),scope:=MS 2 0,globals:=3,closure:=[],defaults:=vr 43,kwdefaults:=Value.none,pyModule:=vs "lanescribe.errors" 187,code:=vr 49 } }):Addr×Obj)::
  ((nat_lit 51,{ cls:=Value.type "tuple",data:=Data.seq #[] }):Addr×Obj)::
  ((nat_lit 52,{ cls:=Value.type "dict",data:=Data.dict #[de P "__module__" 226 (vs "lanescribe.errors" 187),de P "__firstlineno__" 230 (vi 7 229),de P "__init__" 239 (vr 50),de P "__static_attributes__" 240 (vr 51),de P "__doc__" 241 (Value.none)] 2 }):Addr×Obj)::
  ((nat_lit 53,{ cls:=Value.type "type",data:=Data.cls { name:=u "BadPairs",bases:=[vr 32],mro:=[vr 53,vr 32,Value.type "ValueError",Value.type "Exception",Value.type "BaseException",Value.type "object"],ns:=52,qualname:=u "BadPairs" },slots:=#[some (vr 36),none,some (vs "BadPairs" 219),some (vs "BadPairs" 227),some (Value.builtin "ValueError.__new__"),some (Value.bool true)] }):Addr×Obj)::
  ((nat_lit 56,{ cls:=Value.type "tuple",data:=Data.seq #[vr 32] }):Addr×Obj)::
  ((nat_lit 63,{ cls:=Value.type "tuple",data:=Data.seq #[] }):Addr×Obj)::
  ((nat_lit 65,{ cls:=Value.type "tuple",data:=Data.seq #[vs "self" 259,vs "at" 260] }):Addr×Obj)::
  ((nat_lit 66,{ cls:=Value.type "tuple",data:=Data.seq #[] }):Addr×Obj)::
  ((nat_lit 68,{ cls:=Value.type "code",data:=Data.fields #[vs "__init__" 256,vs "BadValue.__init__" 257,vs "/claim/cut.py" 258,vi 13 0,vi 2 0,vi 0 0,vi 0 0,vi 3 0,vr 63,Value.bool true,vi 181 0,vr 64,Value.none,vr 65,vr 66,vr 67,vi 261 0,vi 13 0,vs "/claim/cut.py" 262] }):Addr×Obj)::
  ((nat_lit 69,{ cls:=Value.type "function",data:=Data.func { name:=u "__init__",qualname:=u "BadValue.__init__",params:=MA 3 0,body:=FuncBody.stmts (MB 3 0),scope:=MS 3 0,globals:=3,closure:=[],defaults:=Value.none,kwdefaults:=Value.none,pyModule:=vs "lanescribe.errors" 187,code:=vr 68 } }):Addr×Obj)::
  ((nat_lit 70,{ cls:=Value.type "tuple",data:=Data.seq #[vs "at" 264] }):Addr×Obj)::
  ((nat_lit 71,{ cls:=Value.type "dict",data:=Data.dict #[de P "__module__" 251 (vs "lanescribe.errors" 187),de P "__firstlineno__" 255 (vi 11 254),de P "__init__" 263 (vr 69),de P "__static_attributes__" 265 (vr 70),de P "__doc__" 266 (Value.none)] 2 }):Addr×Obj)::
  ((nat_lit 72,{ cls:=Value.type "type",data:=Data.cls { name:=u "BadValue",bases:=[vr 32],mro:=[vr 72,vr 32,Value.type "ValueError",Value.type "Exception",Value.type "BaseException",Value.type "object"],ns:=71,qualname:=u "BadValue" },slots:=#[some (vr 56),none,some (vs "BadValue" 244),some (vs "BadValue" 252),some (Value.builtin "ValueError.__new__"),some (Value.bool true)] }):Addr×Obj)::
  ((nat_lit 75,{ cls:=Value.type "tuple",data:=Data.seq #[Value.type "LookupError"] }):Addr×Obj)::
  ((nat_lit 82,{ cls:=Value.type "tuple",data:=Data.seq #[vs "" 281,vs "missing" 282] }):Addr×Obj)::
  ((nat_lit 83,{ cls:=Value.type "tuple",data:=Data.seq #[] }):Addr×Obj)::
  ((nat_lit 85,{ cls:=Value.type "tuple",data:=Data.seq #[vs "self" 286,vs "words" 287,vs "word" 288] }):Addr×Obj)::
  ((nat_lit 86,{ cls:=Value.type "tuple",data:=Data.seq #[] }):Addr×Obj)::
  ((nat_lit 88,{ cls:=Value.type "code",data:=Data.fields #[vs "__init__" 283,vs "Missing.__init__" 284,vs "/claim/cut.py" 285,vi 18 0,vi 3 0,vi 0 0,vi 0 0,vi 3 0,vr 83,Value.bool true,vi 181 0,vr 84,Value.none,vr 85,vr 86,vr 87,vi 289 0,vi 18 0,vs "/claim/cut.py" 290] }):Addr×Obj)::
  ((nat_lit 89,{ cls:=Value.type "function",data:=Data.func { name:=u "__init__",qualname:=u "Missing.__init__",params:=MA 4 0,body:=FuncBody.stmts (MB 4 0),scope:=MS 4 0,globals:=3,closure:=[],defaults:=vr 82,kwdefaults:=Value.none,pyModule:=vs "lanescribe.errors" 187,code:=vr 88 } }):Addr×Obj)::
  ((nat_lit 90,{ cls:=Value.type "tuple",data:=Data.seq #[vs "word" 292] }):Addr×Obj)::
  ((nat_lit 91,{ cls:=Value.type "dict",data:=Data.dict #[de P "__module__" 276 (vs "lanescribe.errors" 187),de P "__firstlineno__" 280 (vi 16 279),de P "__init__" 291 (vr 89),de P "__static_attributes__" 293 (vr 90),de P "__weakref__" 295 (vr 93),de P "__doc__" 296 (Value.none)] 3 }):Addr×Obj)::
  ((nat_lit 92,{ cls:=Value.type "type",data:=Data.cls { name:=u "Missing",bases:=[Value.type "LookupError"],mro:=[vr 92,Value.type "LookupError",Value.type "Exception",Value.type "BaseException",Value.type "object"],ns:=91,qualname:=u "Missing" },slots:=#[some (vr 75),none,some (vs "Missing" 269),some (vs "Missing" 277),some (Value.builtin "LookupError.__new__"),some (Value.bool true)] }):Addr×Obj)::
  ((nat_lit 93,{ cls:=Value.type "getset_descriptor",data:=Data.fields #[vs "__weakref__" 294,vr 92,Value.builtin "ExceptionGroup.__weakref__",Value.none] }):Addr×Obj)::
  ((nat_lit 96,{ cls:=Value.type "tuple",data:=Data.seq #[] }):Addr×Obj)::
  ((nat_lit 98,{ cls:=Value.type "tuple",data:=Data.seq #[vs "text" 306] }):Addr×Obj)::
  ((nat_lit 99,{ cls:=Value.type "tuple",data:=Data.seq #[] }):Addr×Obj)::
  ((nat_lit 101,{ cls:=Value.type "code",data:=Data.fields #[vs "is_name" 303,vs "is_name" 304,vs "/claim/cut.py" 305,vi 23 0,vi 1 0,vi 0 0,vi 0 0,vi 3 0,vr 96,Value.bool true,vi 181 0,vr 97,Value.none,vr 98,vr 99,vr 100,vi 307 0,vi 23 0,vs "/claim/cut.py" 308] }):Addr×Obj)::
  ((nat_lit 102,{ cls:=Value.type "function",data:=Data.func { name:=u "is_name",qualname:=u "is_name",params:=TA 7,body:=FuncBody.stmts (TB 7),scope:=TS 7,globals:=3,closure:=[],defaults:=Value.none,kwdefaults:=Value.none,pyModule:=vs "lanescribe.kinds" 299,code:=vr 101 } }):Addr×Obj)::
  ((nat_lit 103,{ cls:=Value.type "tuple",data:=Data.seq #[] }):Addr×Obj)::
  ((nat_lit 106,{ cls:=Value.type "code",data:=Data.fields #[vs "need_pairs" 312,vs "need_pairs" 313,vs "/claim/cut.py" 314,vi 26 0,vi 1 0,vi 0 0,vi 0 0,vi 3 0,vr 103,Value.bool true,vi 181 0,vr 104,Value.none,Value.none,Value.none,vr 105,vi 315 0,vi 26 0,vs "/claim/cut.py" 316] }):Addr×Obj)::
  ((nat_lit 107,{ cls:=Value.type "function",data:=Data.func { name:=u "need_pairs",qualname:=u "need_pairs",params:=TA 9,body:=FuncBody.stmts (TB 9),scope:=TS 9,globals:=3,closure:=[],defaults:=Value.none,kwdefaults:=Value.none,pyModule:=vs "lanescribe.spans" 310,code:=vr 106 } }):Addr×Obj)::
  ((nat_lit 108,{ cls:=Value.type "tuple",data:=Data.seq #[] }):Addr×Obj)::
  ((nat_lit 111,{ cls:=Value.type "code",data:=Data.fields #[vs "walked" 318,vs "walked" 319,vs "/claim/cut.py" 320,vi 31 0,vi 2 0,vi 0 0,vi 0 0,vi 3 0,vr 108,Value.bool true,vi 181 0,vr 109,Value.none,Value.none,Value.none,vr 110,vi 321 0,vi 31 0,vs "/claim/cut.py" 322] }):Addr×Obj)::
  ((nat_lit 112,{ cls:=Value.type "function",data:=Data.func { name:=u "walked",qualname:=u "walked",params:=TA 10,body:=FuncBody.stmts (TB 10),scope:=TS 10,globals:=3,closure:=[],defaults:=Value.none,kwdefaults:=Value.none,pyModule:=vs "lanescribe.spans" 310,code:=vr 111 } }):Addr×Obj)::
  ((nat_lit 113,{ cls:=Value.type "tuple",data:=Data.seq #[] }):Addr×Obj)::
  ((nat_lit 115,{ cls:=Value.type "tuple",data:=Data.seq #[vs "found" 327,vs "at" 328,vs "last" 329] }):Addr×Obj)::
  ((nat_lit 116,{ cls:=Value.type "tuple",data:=Data.seq #[] }):Addr×Obj)::
  ((nat_lit 118,{ cls:=Value.type "code",data:=Data.fields #[vs "close" 324,vs "close" 325,vs "/claim/cut.py" 326,vi 50 0,vi 3 0,vi 0 0,vi 0 0,vi 3 0,vr 113,Value.bool true,vi 181 0,vr 114,Value.none,vr 115,vr 116,vr 117,vi 330 0,vi 50 0,vs "/claim/cut.py" 331] }):Addr×Obj)::
  ((nat_lit 119,{ cls:=Value.type "function",data:=Data.func { name:=u "close",qualname:=u "close",params:=TA 11,body:=FuncBody.stmts (TB 11),scope:=TS 11,globals:=3,closure:=[],defaults:=Value.none,kwdefaults:=Value.none,pyModule:=vs "lanescribe.spans" 310,code:=vr 118 } }):Addr×Obj)::
  ((nat_lit 120,{ cls:=Value.type "tuple",data:=Data.seq #[] }):Addr×Obj)::
  ((nat_lit 122,{ cls:=Value.type "tuple",data:=Data.seq #[vs "told" 336,vs "pairs" 337,vs "found" 338,vs "lone" 339] }):Addr×Obj)::
  ((nat_lit 123,{ cls:=Value.type "tuple",data:=Data.seq #[] }):Addr×Obj)::
  ((nat_lit 125,{ cls:=Value.type "code",data:=Data.fields #[vs "spans" 333,vs "spans" 334,vs "/claim/cut.py" 335,vi 52 0,vi 2 0,vi 0 0,vi 0 0,vi 3 0,vr 120,Value.bool true,vi 181 0,vr 121,Value.none,vr 122,vr 123,vr 124,vi 340 0,vi 52 0,vs "/claim/cut.py" 341] }):Addr×Obj)::
  ((nat_lit 126,{ cls:=Value.type "function",data:=Data.func { name:=u "spans",qualname:=u "spans",params:=TA 12,body:=FuncBody.stmts (TB 12),scope:=TS 12,globals:=3,closure:=[],defaults:=Value.none,kwdefaults:=Value.none,pyModule:=vs "lanescribe.spans" 310,code:=vr 125 } }):Addr×Obj)::
  ((nat_lit 127,{ cls:=Value.type "tuple",data:=Data.seq #[] }):Addr×Obj)::
  ((nat_lit 129,{ cls:=Value.type "tuple",data:=Data.seq #[vs "told" 346,vs "pairs" 347,vs "found" 348,vs "lone" 349] }):Addr×Obj)::
  ((nat_lit 130,{ cls:=Value.type "tuple",data:=Data.seq #[] }):Addr×Obj)::
  ((nat_lit 132,{ cls:=Value.type "code",data:=Data.fields #[vs "strays" 343,vs "strays" 344,vs "/claim/cut.py" 345,vi 55 0,vi 2 0,vi 0 0,vi 0 0,vi 3 0,vr 127,Value.bool true,vi 181 0,vr 128,Value.none,vr 129,vr 130,vr 131,vi 350 0,vi 55 0,vs "/claim/cut.py" 351] }):Addr×Obj)::
  ((nat_lit 133,{ cls:=Value.type "function",data:=Data.func { name:=u "strays",qualname:=u "strays",params:=TA 13,body:=FuncBody.stmts (TB 13),scope:=TS 13,globals:=3,closure:=[],defaults:=Value.none,kwdefaults:=Value.none,pyModule:=vs "lanescribe.spans" 310,code:=vr 132 } }):Addr×Obj)::
  ((nat_lit 134,{ cls:=Value.type "tuple",data:=Data.seq #[] }):Addr×Obj)::
  ((nat_lit 137,{ cls:=Value.type "code",data:=Data.fields #[vs "deepest" 353,vs "deepest" 354,vs "/claim/cut.py" 355,vi 58 0,vi 2 0,vi 0 0,vi 0 0,vi 3 0,vr 134,Value.bool true,vi 181 0,vr 135,Value.none,Value.none,Value.none,vr 136,vi 356 0,vi 58 0,vs "/claim/cut.py" 357] }):Addr×Obj)::
  ((nat_lit 138,{ cls:=Value.type "function",data:=Data.func { name:=u "deepest",qualname:=u "deepest",params:=TA 14,body:=FuncBody.stmts (TB 14),scope:=TS 14,globals:=3,closure:=[],defaults:=Value.none,kwdefaults:=Value.none,pyModule:=vs "lanescribe.spans" 310,code:=vr 137 } }):Addr×Obj)::
  ((nat_lit 139,{ cls:=Value.type "tuple",data:=Data.seq #[] }):Addr×Obj)::
  ((nat_lit 141,{ cls:=Value.type "tuple",data:=Data.seq #[vs "_law_script" 364,vs "_law_seed" 365,vs "_law_cell" 366] }):Addr×Obj)::
  ((nat_lit 142,{ cls:=Value.type "tuple",data:=Data.seq #[] }):Addr×Obj)::
  ((nat_lit 144,{ cls:=Value.type "code",data:=Data.fields #[vs "_law_begin" 361,vs "_law_begin" 362,vs "/claim/cut.py" 363,vi 61 0,vi 1 0,vi 0 0,vi 0 0,vi 3 0,vr 139,Value.bool true,vi 181 0,vr 140,Value.none,vr 141,vr 142,vr 143,vi 367 0,vi 61 0,vs "/claim/cut.py" 368] }):Addr×Obj)::
  ((nat_lit 145,{ cls:=Value.type "function",data:=Data.func { name:=u "_law_begin",qualname:=u "_law_begin",params:=TA 16,body:=FuncBody.stmts (TB 16),scope:=TS 16,globals:=3,closure:=[],defaults:=Value.none,kwdefaults:=Value.none,pyModule:=vs "law_lanescribe_k30_spans_and_strays" 359,code:=vr 144 } }):Addr×Obj)::
  ((nat_lit 146,{ cls:=Value.type "tuple",data:=Data.seq #[] }):Addr×Obj)::
  ((nat_lit 148,{ cls:=Value.type "tuple",data:=Data.seq #[vs "_law_d" 373,vs "_law_many" 374,vs "_law_cell" 375,vs "_law_digit" 376,vs "_law_one" 377] }):Addr×Obj)::
  ((nat_lit 149,{ cls:=Value.type "tuple",data:=Data.seq #[] }):Addr×Obj)::
  ((nat_lit 151,{ cls:=Value.type "code",data:=Data.fields #[vs "_law_pick" 370,vs "_law_pick" 371,vs "/claim/cut.py" 372,vi 66 0,vi 2 0,vi 0 0,vi 0 0,vi 3 0,vr 146,Value.bool true,vi 181 0,vr 147,Value.none,vr 148,vr 149,vr 150,vi 378 0,vi 66 0,vs "/claim/cut.py" 379] }):Addr×Obj)::
  ((nat_lit 152,{ cls:=Value.type "function",data:=Data.func { name:=u "_law_pick",qualname:=u "_law_pick",params:=TA 17,body:=FuncBody.stmts (TB 17),scope:=TS 17,globals:=3,closure:=[],defaults:=Value.none,kwdefaults:=Value.none,pyModule:=vs "law_lanescribe_k30_spans_and_strays" 359,code:=vr 151 } }):Addr×Obj)::
  ((nat_lit 153,{ cls:=Value.type "tuple",data:=Data.seq #[] }):Addr×Obj)::
  ((nat_lit 155,{ cls:=Value.type "tuple",data:=Data.seq #[vs "_law_d" 384,vs "_law_things" 385] }):Addr×Obj)::
  ((nat_lit 156,{ cls:=Value.type "tuple",data:=Data.seq #[] }):Addr×Obj)::
  ((nat_lit 158,{ cls:=Value.type "code",data:=Data.fields #[vs "_law_of" 381,vs "_law_of" 382,vs "/claim/cut.py" 383,vi 81 0,vi 2 0,vi 0 0,vi 0 0,vi 3 0,vr 153,Value.bool true,vi 181 0,vr 154,Value.none,vr 155,vr 156,vr 157,vi 386 0,vi 81 0,vs "/claim/cut.py" 387] }):Addr×Obj)::
  ((nat_lit 159,{ cls:=Value.type "function",data:=Data.func { name:=u "_law_of",qualname:=u "_law_of",params:=TA 18,body:=FuncBody.stmts (TB 18),scope:=TS 18,globals:=3,closure:=[],defaults:=Value.none,kwdefaults:=Value.none,pyModule:=vs "law_lanescribe_k30_spans_and_strays" 359,code:=vr 158 } }):Addr×Obj)::
  ((nat_lit 160,{ cls:=Value.type "tuple",data:=Data.seq #[] }):Addr×Obj)::
  ((nat_lit 163,{ cls:=Value.type "code",data:=Data.fields #[vs "_law_same" 389,vs "_law_same" 390,vs "/claim/cut.py" 391,vi 83 0,vi 2 0,vi 0 0,vi 0 0,vi 3 0,vr 160,Value.bool true,vi 181 0,vr 161,Value.none,Value.none,Value.none,vr 162,vi 392 0,vi 83 0,vs "/claim/cut.py" 393] }):Addr×Obj)::
  ((nat_lit 164,{ cls:=Value.type "function",data:=Data.func { name:=u "_law_same",qualname:=u "_law_same",params:=TA 19,body:=FuncBody.stmts (TB 19),scope:=TS 19,globals:=3,closure:=[],defaults:=Value.none,kwdefaults:=Value.none,pyModule:=vs "law_lanescribe_k30_spans_and_strays" 359,code:=vr 163 } }):Addr×Obj)::
  ((nat_lit 165,{ cls:=Value.type "tuple",data:=Data.seq #[] }):Addr×Obj)::
  ((nat_lit 168,{ cls:=Value.type "code",data:=Data.fields #[vs "_law_word" 395,vs "_law_word" 396,vs "/claim/cut.py" 397,vi 93 0,vi 1 0,vi 0 0,vi 0 0,vi 3 0,vr 165,Value.bool true,vi 181 0,vr 166,Value.none,Value.none,Value.none,vr 167,vi 398 0,vi 93 0,vs "/claim/cut.py" 399] }):Addr×Obj)::
  ((nat_lit 169,{ cls:=Value.type "function",data:=Data.func { name:=u "_law_word",qualname:=u "_law_word",params:=TA 20,body:=FuncBody.stmts (TB 20),scope:=TS 20,globals:=3,closure:=[],defaults:=Value.none,kwdefaults:=Value.none,pyModule:=vs "law_lanescribe_k30_spans_and_strays" 359,code:=vr 168 } }):Addr×Obj)::
  ((nat_lit 170,{ cls:=Value.type "tuple",data:=Data.seq #[] }):Addr×Obj)::
  ((nat_lit 172,{ cls:=Value.type "tuple",data:=Data.seq #[vs "_law_d" 404,vs "_law_many" 405,vs "_law_found" 406,vs "_law_k" 407,vs "_law_word_here" 408,vs "_law_step" 409] }):Addr×Obj)::
  ((nat_lit 173,{ cls:=Value.type "tuple",data:=Data.seq #[] }):Addr×Obj)::
  ((nat_lit 175,{ cls:=Value.type "code",data:=Data.fields #[vs "_law_words" 401,vs "_law_words" 402,vs "/claim/cut.py" 403,vi 99 0,vi 2 0,vi 0 0,vi 0 0,vi 3 0,vr 170,Value.bool true,vi 181 0,vr 171,Value.none,vr 172,vr 173,vr 174,vi 410 0,vi 99 0,vs "/claim/cut.py" 411] }):Addr×Obj)::
  ((nat_lit 176,{ cls:=Value.type "function",data:=Data.func { name:=u "_law_words",qualname:=u "_law_words",params:=TA 21,body:=FuncBody.stmts (TB 21),scope:=TS 21,globals:=3,closure:=[],defaults:=Value.none,kwdefaults:=Value.none,pyModule:=vs "law_lanescribe_k30_spans_and_strays" 359,code:=vr 175 } }):Addr×Obj)::
  ((nat_lit 177,{ cls:=Value.type "tuple",data:=Data.seq #[] }):Addr×Obj)::
  ((nat_lit 179,{ cls:=Value.type "tuple",data:=Data.seq #[vs "_law_ask_here" 416,vs "_law_told" 417,vs "_law_word_here" 418,vs "e" 419] }):Addr×Obj)::
  ((nat_lit 180,{ cls:=Value.type "tuple",data:=Data.seq #[] }):Addr×Obj)::
  ((nat_lit 182,{ cls:=Value.type "code",data:=Data.fields #[vs "_law_ask" 413,vs "_law_ask" 414,vs "/claim/cut.py" 415,vi 108 0,vi 1 0,vi 0 0,vi 0 0,vi 3 0,vr 177,Value.bool true,vi 181 0,vr 178,Value.none,vr 179,vr 180,vr 181,vi 420 0,vi 108 0,vs "/claim/cut.py" 421] }):Addr×Obj)::
  ((nat_lit 183,{ cls:=Value.type "function",data:=Data.func { name:=u "_law_ask",qualname:=u "_law_ask",params:=TA 22,body:=FuncBody.stmts (TB 22),scope:=TS 22,globals:=3,closure:=[],defaults:=Value.none,kwdefaults:=Value.none,pyModule:=vs "law_lanescribe_k30_spans_and_strays" 359,code:=vr 182 } }):Addr×Obj)::
  ((nat_lit 184,{ cls:=Value.type "tuple",data:=Data.seq #[] }):Addr×Obj)::
  ((nat_lit 186,{ cls:=Value.type "tuple",data:=Data.seq #[vs "_law_d" 426,vs "_law_names" 427,vs "_law_told" 428,vs "_law_place" 429,vs "_law_time" 430,vs "_law_step" 431] }):Addr×Obj)::
  ((nat_lit 187,{ cls:=Value.type "tuple",data:=Data.seq #[] }):Addr×Obj)::
  ((nat_lit 189,{ cls:=Value.type "code",data:=Data.fields #[vs "_law_span_row" 423,vs "_law_span_row" 424,vs "/claim/cut.py" 425,vi 120 0,vi 2 0,vi 0 0,vi 0 0,vi 3 0,vr 184,Value.bool true,vi 181 0,vr 185,Value.none,vr 186,vr 187,vr 188,vi 432 0,vi 120 0,vs "/claim/cut.py" 433] }):Addr×Obj)::
  ((nat_lit 190,{ cls:=Value.type "function",data:=Data.func { name:=u "_law_span_row",qualname:=u "_law_span_row",params:=TA 23,body:=FuncBody.stmts (TB 23),scope:=TS 23,globals:=3,closure:=[],defaults:=Value.none,kwdefaults:=Value.none,pyModule:=vs "law_lanescribe_k30_spans_and_strays" 359,code:=vr 189 } }):Addr×Obj)::
  ((nat_lit 191,{ cls:=Value.type "tuple",data:=Data.seq #[] }):Addr×Obj)::
  ((nat_lit 194,{ cls:=Value.type "code",data:=Data.fields #[vs "_law_span_pairs" 435,vs "_law_span_pairs" 436,vs "/claim/cut.py" 437,vi 132 0,vi 1 0,vi 0 0,vi 0 0,vi 3 0,vr 191,Value.bool true,vi 181 0,vr 192,Value.none,Value.none,Value.none,vr 193,vi 438 0,vi 132 0,vs "/claim/cut.py" 439] }):Addr×Obj)::
  ((nat_lit 195,{ cls:=Value.type "function",data:=Data.func { name:=u "_law_span_pairs",qualname:=u "_law_span_pairs",params:=TA 24,body:=FuncBody.stmts (TB 24),scope:=TS 24,globals:=3,closure:=[],defaults:=Value.none,kwdefaults:=Value.none,pyModule:=vs "law_lanescribe_k30_spans_and_strays" 359,code:=vr 194 } }):Addr×Obj)::
  ((nat_lit 196,{ cls:=Value.type "tuple",data:=Data.seq #[] }):Addr×Obj)::
  ((nat_lit 199,{ cls:=Value.type "code",data:=Data.fields #[vs "_law_spans" 441,vs "_law_spans" 442,vs "/claim/cut.py" 443,vi 136 0,vi 2 0,vi 0 0,vi 0 0,vi 3 0,vr 196,Value.bool true,vi 181 0,vr 197,Value.none,Value.none,Value.none,vr 198,vi 444 0,vi 136 0,vs "/claim/cut.py" 445] }):Addr×Obj)::
  ((nat_lit 200,{ cls:=Value.type "function",data:=Data.func { name:=u "_law_spans",qualname:=u "_law_spans",params:=TA 25,body:=FuncBody.stmts (TB 25),scope:=TS 25,globals:=3,closure:=[],defaults:=Value.none,kwdefaults:=Value.none,pyModule:=vs "law_lanescribe_k30_spans_and_strays" 359,code:=vr 199 } }):Addr×Obj)::
  ((nat_lit 201,{ cls:=Value.type "tuple",data:=Data.seq #[] }):Addr×Obj)::
  ((nat_lit 204,{ cls:=Value.type "code",data:=Data.fields #[vs "law" 447,vs "law" 448,vs "/claim/cut.py" 449,vi 153 0,vi 1 0,vi 0 0,vi 0 0,vi 3 0,vr 201,Value.bool true,vi 181 0,vr 202,Value.none,Value.none,Value.none,vr 203,vi 450 0,vi 153 0,vs "/claim/cut.py" 451] }):Addr×Obj)::
  ((nat_lit 205,{ cls:=Value.type "function",data:=Data.func { name:=u "law",qualname:=u "law",params:=TA 26,body:=FuncBody.stmts (TB 26),scope:=TS 26,globals:=3,closure:=[],defaults:=Value.none,kwdefaults:=Value.none,pyModule:=vs "law_lanescribe_k30_spans_and_strays" 359,code:=vr 204 } }):Addr×Obj)::[]
def asK:List Addr:=[2,3,15,22,23,25,26,28,29,30,31,32,33,36,43,44,46,47,49,50,51,52,53,56,63,65,66,68,69,70,71,72,75,82,83,85,86,88,89,90,91,92,93,96,98,99,101,102,103,106,107,108,111,112,113,115,116,118,119,120,122,123,125,126,127,129,130,132,133,134,137,138,139,141,142,144,145,146,148,149,151,152,153,155,156,158,159,160,163,164,165,168,169,170,172,173,175,176,177,179,180,182,183,184,186,187,189,190,191,194,195,196,199,200,201,204,205]
theorem eK:∀ P,asK=(KK P).map (·.1):=fun P=>by kernel_rfl
def vw:Program:={ PySem.Challenge.pw_lanescribe_k30_spans_and_strays with main:={ PySem.Challenge.pw_lanescribe_k30_spans_and_strays.main with body:=[tp 1,tp 2,tp 3,tp 4,tp 6,tp 7,tp 9,tp 10,tp 11,tp 12,tp 13,tp 14,tp 16,tp 17,tp 18,tp 19,tp 20,tp 21,tp 22,tp 23,tp 24,tp 25,tp 26] } }
def ls:List Str:=[u "ScribeError",u "BadPairs",u "Missing"]
def lv:List (Str×WData):=[]
abbrev Xt:Shared→Bool:=fun s=>xlAt vw lv s && recOk (RowW.records (OpenRow.toRowW PySem.Challenge.rw_lanescribe_k30_spans_and_strays.row)) s
abbrev hk:Hook:=kmHook KK asK eK [202]
theorem said:PySem.Challenge.rw_lanescribe_k30_spans_and_strays.wellSaid=true:=by kernel_rfl
theorem openP:opening (OpenRow.toRowW PySem.Challenge.rw_lanescribe_k30_spans_and_strays.row).prog=plainProg (OpenRow.toRowW PySem.Challenge.rw_lanescribe_k30_spans_and_strays.row).prog.main.scope.names:=by kernel_rfl
theorem by_parts {p:Program} {w:World} {N L:Nat} {s0 s':Shared} {t':Thread} {m0:Nat} {ann:Option Value} {β:Type} {F:Shared→β} {X:β} (h1:(s0.heap.isNs mainGlobals && s0.gens.size == 0)=true) (h2:s0.heap.objs.size=m0) (h3:s0.heap.nsMap mainGlobals "__annotations__" = ann)
    (chain:∀ r,topRun treeTable p w m0 ann L s' t'=some r→topRun treeTable p w m0 ann N s0 (topStub p)=some r)
    (last:((topRun treeTable p w m0 ann L s' t').bind fun s₁=>match staticsOk (importedModules p.main.body) s0.heap s₁.heap && namesBound p s₁.heap && gensDone s₁ && laidKept s0.heap s₁.heap with
      |true=>some s₁
      |false=>none).map F=some X):(topFrom treeTable p w N s0).map F=some X:=by
  cases hA:topRun treeTable p w m0 ann L s' t' with
  |none=>rw [hA] at last;cases last
  | some r=>
    have e:=chain r hA
    unfold topFrom
    rw [h1,h2,h3,e]
    rw [hA] at last
    exact last
abbrev pp:Program:=(OpenRow.toRowW PySem.Challenge.rw_lanescribe_k30_spans_and_strays.row).prog
def env:Env:={ scope:=pp.main.scope,locals:=mainNs,globals:=mainNs,cells:=[],code:=vr 13,frame:=some 14 }
abbrev cd:Code:=.body (behindTheImports pp) env
abbrev fp:Pos:={ line:=0,col:=0,endLine:=0,endCol:=0 }
abbrev an:Option Value:=some (vr 6)
abbrev S_0 (w:World) (os:OsState):Shared:=⟨boot_heap w.params,Array.mk [],boot_drawn,boot_toks,os⟩
def o0 (P:Params):Obj:={ cls:=Value.type "tuple",data:=Data.seq #[] }
def o1 (P:Params):Obj:={ cls:=Value.none,data:=Data.fields #[] }
def o2 (P:Params):Obj:={ cls:=Value.type "code",data:=Data.fields #[vs "<module>" 182,vs "<module>" 183,vs "/claim/cut.py" 184,vi 1 0,vi 0 0,vi 0 0,vi 0 0,vi 0 0,vr 11,Value.bool false,vi 181 0,vr 12,Value.none,Value.none,Value.none,Value.none,vi 185 0,vi 1 0,vs "/claim/cut.py" 186] }
def o3 (P:Params):Obj:={ cls:=Value.type "frame",slots:=#[some (vr 13),some (vr 3),some (vr 3),none,some (vs "__main__" 164),none,some (vr 0)] }
def h_a (P:Params):Heap:=⟨⟨boot_o_0 P::boot_o_1 P::boot_o_2 P::boot_o_3 P::boot_o_4 P::boot_o_5 P::boot_o_6 P::boot_o_7 P::boot_o_8 P::boot_o_9 P::boot_o_10 P::o0 P::o1 P::o2 P::o3 P::[]⟩,{ }⟩
abbrev S_a (w:World) (os:OsState):Shared:=⟨h_a w.params,Array.mk [],{ },187,os⟩
abbrev p_a:Pos:={ line:=0,col:=0,endLine:=0,endCol:=0 }
def h_b (P:Params):Heap:=⟨⟨boot_o_0 P::boot_o_1 P::boot_o_2 P::boot_o_3 P::boot_o_4 P::boot_o_5 P::boot_o_6 P::boot_o_7 P::boot_o_8 P::boot_o_9 P::boot_o_10 P::o0 P::o1 P::o2 P::o3 P::[]⟩,{ }⟩
abbrev S_b (w:World) (os:OsState):Shared:=⟨h_b w.params,Array.mk [],{ },187,os⟩
abbrev p_b:Pos:={ line:=0,col:=0,endLine:=0,endCol:=0 }
theorem r_a (w:World) (os:OsState):topGo treeTable pp w 11 an 12 (S_0 w os) (topStub pp)=some (S_a w os,⟨denote treeTable cd,cd,p_a,[topFrame fp]⟩):=by kernel_rfl
theorem r_b (w:World) (os:OsState):segRun treeTable pp w 11 an 1 1 (S_a w os) (blockOf (behindTheImports pp) env cd p_a [topFrame fp])=some (.next,S_b w os,cd,p_b):=by kernel_rfl
def o4 (P:Params):Obj:={ cls:=Value.type "dict",data:=Data.dict #[de P "__name__" 165 (vs "lanescribe.spans" 310),de P "__doc__" 166 (Value.none),de P "__package__" 167 (Value.none),de P "__loader__" 168 (Value.builtin "__main__.__loader__#opaque"),de P "__spec__" 169 (Value.none),de P "__annotations__" 170 (vr 6),de P "__builtins__" 171 (vr 4),de P "__file__" 173 (vs "/claim/cut.py" 172),de P "__cached__" 174 (Value.none),de P "ScribeError" 218 (vr 32),de P "BadPairs" 243 (vr 53),de P "BadValue" 268 (vr 72),de P "Missing" 298 (vr 92),de P "MOST_LETTERS" 302 (vi 8 301),de P "is_name" 309 (vr 102)] 15 }
def o5 (P:Params):Obj:={ cls:=Value.none,data:=Data.fields #[vi 2 0,vi 0 0,vr 20,vi 7 0,vi 0 0,vr 41,vi 11 0,vi 0 0,vr 61,vi 16 0,vi 0 0,vr 80,vi 23 0,vi 0 0,vr 101] }
def o6 (P:Params):Obj:={ cls:=Value.type "tuple",data:=Data.seq #[Value.type "ValueError"] }
def o7 (P:Params):Obj:={ cls:=Value.type "builtin_function_or_method",data:=Data.fields #[Value.builtin "type.__prepare__",Value.type "type"] }
def o8 (P:Params):Obj:={ cls:=Value.type "dict",data:=Data.dict #[de P "__module__" 196 (vs "lanescribe.errors" 187),de P "__qualname__" 198 (vs "ScribeError" 197),de P "__firstlineno__" 200 (vi 2 199),de P "__init__" 211 (vr 29),de P "__static_attributes__" 213 (vr 30)] 5 }
def o9 (P:Params):Obj:={ cls:=Value.none,data:=Data.fields #[vi 4 0,vi 4 0,vr 28] }
def o10 (P:Params):Obj:={ cls:=Value.type "code",data:=Data.fields #[vs "ScribeError" 191,vs "ScribeError" 192,vs "/claim/cut.py" 193,vi 2 0,vi 0 0,vi 0 0,vi 0 0,vi 0 0,vr 18,Value.bool false,vi 181 0,vr 19,Value.none,Value.none,Value.none,Value.none,vi 194 0,vi 2 0,vs "/claim/cut.py" 195] }
def o11 (P:Params):Obj:={ cls:=Value.type "frame",slots:=#[some (vr 20),some (vr 3),some (vr 17),none,some (vs "lanescribe.errors" 187),none,some (vr 0)] }
def o12 (P:Params):Obj:={ cls:=Value.type "tuple",data:=Data.seq #[vs "" 201,vs "scribeerror" 202] }
def o13 (P:Params):Obj:={ cls:=Value.type "tuple",data:=Data.seq #[vs "self" 206,vs "words" 207,vs "word" 208] }
def o14 (P:Params):Obj:={ cls:=Value.none,data:=Data.func { name:=u "__init__",qualname:=u "ScribeError.__init__",params:=MA 1 0,body:=FuncBody.stmts (MB 1 0),scope:=MS 1 0,globals:=0,closure:=[],defaults:=Value.none,kwdefaults:=Value.none } }
def o15 (P:Params):Obj:={ cls:=Value.type "code",data:=Data.fields #[vs "__init__" 203,vs "ScribeError.__init__" 204,vs "/claim/cut.py" 205,vi 4 0,vi 3 0,vi 0 0,vi 0 0,vi 3 0,vr 23,Value.bool true,vi 181 0,vr 24,Value.none,vr 25,vr 26,vr 27,vi 209 0,vi 4 0,vs "/claim/cut.py" 210] }
def o16 (P:Params):Obj:={ cls:=Value.type "function",data:=Data.func { name:=u "__init__",qualname:=u "ScribeError.__init__",params:=MA 1 0,body:=FuncBody.stmts (MB 1 0),scope:=MS 1 0,globals:=3,closure:=[],defaults:=vr 22,kwdefaults:=Value.none,pyModule:=vs "lanescribe.errors" 187,code:=vr 28 } }
def o17 (P:Params):Obj:={ cls:=Value.type "tuple",data:=Data.seq #[vs "word" 212] }
def o18 (P:Params):Obj:={ cls:=Value.type "dict",data:=Data.dict #[de P "__module__" 196 (vs "lanescribe.errors" 187),de P "__firstlineno__" 200 (vi 2 199),de P "__init__" 211 (vr 29),de P "__static_attributes__" 213 (vr 30),de P "__weakref__" 215 (vr 33),de P "__doc__" 216 (Value.none)] 3 }
def o19 (P:Params):Obj:={ cls:=Value.type "type",data:=Data.cls { name:=u "ScribeError",bases:=[Value.type "ValueError"],mro:=[vr 32,Value.type "ValueError",Value.type "Exception",Value.type "BaseException",Value.type "object"],ns:=31,qualname:=u "ScribeError",subclasses:=[vr 53,vr 72] },slots:=#[some (vr 15),none,some (vs "ScribeError" 189),some (vs "ScribeError" 197),some (Value.builtin "ValueError.__new__"),some (Value.bool true)] }
def o20 (P:Params):Obj:={ cls:=Value.type "getset_descriptor",data:=Data.fields #[vs "__weakref__" 214,vr 32,Value.builtin "ExceptionGroup.__weakref__",Value.none] }
def o21 (P:Params):Obj:={ cls:=Value.type "super",data:=Data.fields #[vr 32,vr 32,vr 32] }
def o22 (P:Params):Obj:={ cls:=Value.type "builtin_function_or_method",data:=Data.fields #[Value.builtin "object.__init_subclass__",vr 32] }
def o23 (P:Params):Obj:={ cls:=Value.type "tuple",data:=Data.seq #[vr 32] }
def o24 (P:Params):Obj:={ cls:=Value.type "dict",data:=Data.dict #[de P "__module__" 226 (vs "lanescribe.errors" 187),de P "__qualname__" 228 (vs "BadPairs" 227),de P "__firstlineno__" 230 (vi 7 229),de P "__init__" 239 (vr 50),de P "__static_attributes__" 240 (vr 51)] 5 }
def o25 (P:Params):Obj:={ cls:=Value.none,data:=Data.fields #[vi 9 0,vi 4 0,vr 49] }
def o26 (P:Params):Obj:={ cls:=Value.type "code",data:=Data.fields #[vs "BadPairs" 221,vs "BadPairs" 222,vs "/claim/cut.py" 223,vi 7 0,vi 0 0,vi 0 0,vi 0 0,vi 0 0,vr 39,Value.bool false,vi 181 0,vr 40,Value.none,Value.none,Value.none,Value.none,vi 224 0,vi 7 0,vs "/claim/cut.py" 225] }
def o27 (P:Params):Obj:={ cls:=Value.type "frame",slots:=#[some (vr 41),some (vr 3),some (vr 38),none,some (vs "lanescribe.errors" 187),none,some (vr 0)] }
def o28 (P:Params):Obj:={ cls:=Value.type "tuple",data:=Data.seq #[vs "" 231] }
def o29 (P:Params):Obj:={ cls:=Value.type "tuple",data:=Data.seq #[vs "self" 235,vs "words" 236] }
def o30 (P:Params):Obj:={ cls:=Value.none,data:=Data.func { name:=u "__init__",qualname:=u "BadPairs.__init__",params:=MA 2 0,body:=FuncBody.stmts (MB 2 0),scope:=MS 2 0,globals:=0,closure:=[],defaults:=Value.none,kwdefaults:=Value.none } }
def o31 (P:Params):Obj:={ cls:=Value.type "code",data:=Data.fields #[vs "__init__" 232,vs "BadPairs.__init__" 233,vs "/claim/cut.py" 234,vi 9 0,vi 2 0,vi 0 0,vi 0 0,vi 3 0,vr 44,Value.bool true,vi 181 0,vr 45,Value.none,vr 46,vr 47,vr 48,vi 237 0,vi 9 0,vs "/claim/cut.py" 238] }
def o32 (P:Params):Obj:={ cls:=Value.type "function",data:=Data.func { name:=u "__init__",qualname:=u "BadPairs.__init__",params:=MA 2 0,body:=FuncBody.stmts (MB 2 0),scope:=MS 2 0,globals:=3,closure:=[],defaults:=vr 43,kwdefaults:=Value.none,pyModule:=vs "lanescribe.errors" 187,code:=vr 49 } }
def o33 (P:Params):Obj:={ cls:=Value.type "dict",data:=Data.dict #[de P "__module__" 226 (vs "lanescribe.errors" 187),de P "__firstlineno__" 230 (vi 7 229),de P "__init__" 239 (vr 50),de P "__static_attributes__" 240 (vr 51),de P "__doc__" 241 (Value.none)] 2 }
def o34 (P:Params):Obj:={ cls:=Value.type "type",data:=Data.cls { name:=u "BadPairs",bases:=[vr 32],mro:=[vr 53,vr 32,Value.type "ValueError",Value.type "Exception",Value.type "BaseException",Value.type "object"],ns:=52,qualname:=u "BadPairs" },slots:=#[some (vr 36),none,some (vs "BadPairs" 219),some (vs "BadPairs" 227),some (Value.builtin "ValueError.__new__"),some (Value.bool true)] }
def o35 (P:Params):Obj:={ cls:=Value.type "super",data:=Data.fields #[vr 53,vr 53,vr 53] }
def o36 (P:Params):Obj:={ cls:=Value.type "builtin_function_or_method",data:=Data.fields #[Value.builtin "object.__init_subclass__",vr 53] }
def o37 (P:Params):Obj:={ cls:=Value.type "dict",data:=Data.dict #[de P "__module__" 251 (vs "lanescribe.errors" 187),de P "__qualname__" 253 (vs "BadValue" 252),de P "__firstlineno__" 255 (vi 11 254),de P "__init__" 263 (vr 69),de P "__static_attributes__" 265 (vr 70)] 5 }
def o38 (P:Params):Obj:={ cls:=Value.none,data:=Data.fields #[vi 13 0,vi 4 0,vr 68] }
def o39 (P:Params):Obj:={ cls:=Value.type "code",data:=Data.fields #[vs "BadValue" 246,vs "BadValue" 247,vs "/claim/cut.py" 248,vi 11 0,vi 0 0,vi 0 0,vi 0 0,vi 0 0,vr 59,Value.bool false,vi 181 0,vr 60,Value.none,Value.none,Value.none,Value.none,vi 249 0,vi 11 0,vs "/claim/cut.py" 250] }
def o40 (P:Params):Obj:={ cls:=Value.type "frame",slots:=#[some (vr 61),some (vr 3),some (vr 58),none,some (vs "lanescribe.errors" 187),none,some (vr 0)] }
def o41 (P:Params):Obj:={ cls:=Value.type "tuple",data:=Data.seq #[vs "self" 259,vs "at" 260] }
def o42 (P:Params):Obj:={ cls:=Value.none,data:=Data.func { name:=u "__init__",qualname:=u "BadValue.__init__",params:=MA 3 0,body:=FuncBody.stmts (MB 3 0),scope:=MS 3 0,globals:=0,closure:=[],defaults:=Value.none,kwdefaults:=Value.none } }
def o43 (P:Params):Obj:={ cls:=Value.type "code",data:=Data.fields #[vs "__init__" 256,vs "BadValue.__init__" 257,vs "/claim/cut.py" 258,vi 13 0,vi 2 0,vi 0 0,vi 0 0,vi 3 0,vr 63,Value.bool true,vi 181 0,vr 64,Value.none,vr 65,vr 66,vr 67,vi 261 0,vi 13 0,vs "/claim/cut.py" 262] }
def o44 (P:Params):Obj:={ cls:=Value.type "function",data:=Data.func { name:=u "__init__",qualname:=u "BadValue.__init__",params:=MA 3 0,body:=FuncBody.stmts (MB 3 0),scope:=MS 3 0,globals:=3,closure:=[],defaults:=Value.none,kwdefaults:=Value.none,pyModule:=vs "lanescribe.errors" 187,code:=vr 68 } }
def o45 (P:Params):Obj:={ cls:=Value.type "tuple",data:=Data.seq #[vs "at" 264] }
def o46 (P:Params):Obj:={ cls:=Value.type "dict",data:=Data.dict #[de P "__module__" 251 (vs "lanescribe.errors" 187),de P "__firstlineno__" 255 (vi 11 254),de P "__init__" 263 (vr 69),de P "__static_attributes__" 265 (vr 70),de P "__doc__" 266 (Value.none)] 2 }
def o47 (P:Params):Obj:={ cls:=Value.type "type",data:=Data.cls { name:=u "BadValue",bases:=[vr 32],mro:=[vr 72,vr 32,Value.type "ValueError",Value.type "Exception",Value.type "BaseException",Value.type "object"],ns:=71,qualname:=u "BadValue" },slots:=#[some (vr 56),none,some (vs "BadValue" 244),some (vs "BadValue" 252),some (Value.builtin "ValueError.__new__"),some (Value.bool true)] }
def o48 (P:Params):Obj:={ cls:=Value.type "super",data:=Data.fields #[vr 72,vr 72,vr 72] }
def o49 (P:Params):Obj:={ cls:=Value.type "builtin_function_or_method",data:=Data.fields #[Value.builtin "object.__init_subclass__",vr 72] }
def o50 (P:Params):Obj:={ cls:=Value.type "tuple",data:=Data.seq #[Value.type "LookupError"] }
def o51 (P:Params):Obj:={ cls:=Value.type "dict",data:=Data.dict #[de P "__module__" 276 (vs "lanescribe.errors" 187),de P "__qualname__" 278 (vs "Missing" 277),de P "__firstlineno__" 280 (vi 16 279),de P "__init__" 291 (vr 89),de P "__static_attributes__" 293 (vr 90)] 5 }
def o52 (P:Params):Obj:={ cls:=Value.none,data:=Data.fields #[vi 18 0,vi 4 0,vr 88] }
def o53 (P:Params):Obj:={ cls:=Value.type "code",data:=Data.fields #[vs "Missing" 271,vs "Missing" 272,vs "/claim/cut.py" 273,vi 16 0,vi 0 0,vi 0 0,vi 0 0,vi 0 0,vr 78,Value.bool false,vi 181 0,vr 79,Value.none,Value.none,Value.none,Value.none,vi 274 0,vi 16 0,vs "/claim/cut.py" 275] }
def o54 (P:Params):Obj:={ cls:=Value.type "frame",slots:=#[some (vr 80),some (vr 3),some (vr 77),none,some (vs "lanescribe.errors" 187),none,some (vr 0)] }
def o55 (P:Params):Obj:={ cls:=Value.type "tuple",data:=Data.seq #[vs "" 281,vs "missing" 282] }
def o56 (P:Params):Obj:={ cls:=Value.type "tuple",data:=Data.seq #[vs "self" 286,vs "words" 287,vs "word" 288] }
def o57 (P:Params):Obj:={ cls:=Value.none,data:=Data.func { name:=u "__init__",qualname:=u "Missing.__init__",params:=MA 4 0,body:=FuncBody.stmts (MB 4 0),scope:=MS 4 0,globals:=0,closure:=[],defaults:=Value.none,kwdefaults:=Value.none } }
def o58 (P:Params):Obj:={ cls:=Value.type "code",data:=Data.fields #[vs "__init__" 283,vs "Missing.__init__" 284,vs "/claim/cut.py" 285,vi 18 0,vi 3 0,vi 0 0,vi 0 0,vi 3 0,vr 83,Value.bool true,vi 181 0,vr 84,Value.none,vr 85,vr 86,vr 87,vi 289 0,vi 18 0,vs "/claim/cut.py" 290] }
def o59 (P:Params):Obj:={ cls:=Value.type "function",data:=Data.func { name:=u "__init__",qualname:=u "Missing.__init__",params:=MA 4 0,body:=FuncBody.stmts (MB 4 0),scope:=MS 4 0,globals:=3,closure:=[],defaults:=vr 82,kwdefaults:=Value.none,pyModule:=vs "lanescribe.errors" 187,code:=vr 88 } }
def o60 (P:Params):Obj:={ cls:=Value.type "tuple",data:=Data.seq #[vs "word" 292] }
def o61 (P:Params):Obj:={ cls:=Value.type "dict",data:=Data.dict #[de P "__module__" 276 (vs "lanescribe.errors" 187),de P "__firstlineno__" 280 (vi 16 279),de P "__init__" 291 (vr 89),de P "__static_attributes__" 293 (vr 90),de P "__weakref__" 295 (vr 93),de P "__doc__" 296 (Value.none)] 3 }
def o62 (P:Params):Obj:={ cls:=Value.type "type",data:=Data.cls { name:=u "Missing",bases:=[Value.type "LookupError"],mro:=[vr 92,Value.type "LookupError",Value.type "Exception",Value.type "BaseException",Value.type "object"],ns:=91,qualname:=u "Missing" },slots:=#[some (vr 75),none,some (vs "Missing" 269),some (vs "Missing" 277),some (Value.builtin "LookupError.__new__"),some (Value.bool true)] }
def o63 (P:Params):Obj:={ cls:=Value.type "getset_descriptor",data:=Data.fields #[vs "__weakref__" 294,vr 92,Value.builtin "ExceptionGroup.__weakref__",Value.none] }
def o64 (P:Params):Obj:={ cls:=Value.type "super",data:=Data.fields #[vr 92,vr 92,vr 92] }
def o65 (P:Params):Obj:={ cls:=Value.type "builtin_function_or_method",data:=Data.fields #[Value.builtin "object.__init_subclass__",vr 92] }
def o66 (P:Params):Obj:={ cls:=Value.type "tuple",data:=Data.seq #[vs "text" 306] }
def o67 (P:Params):Obj:={ cls:=Value.none,data:=Data.func { name:=u "is_name",qualname:=u "is_name",params:=TA 7,body:=FuncBody.stmts (TB 7),scope:=TS 7,globals:=0,closure:=[],defaults:=Value.none,kwdefaults:=Value.none } }
def o68 (P:Params):Obj:={ cls:=Value.type "code",data:=Data.fields #[vs "is_name" 303,vs "is_name" 304,vs "/claim/cut.py" 305,vi 23 0,vi 1 0,vi 0 0,vi 0 0,vi 3 0,vr 96,Value.bool true,vi 181 0,vr 97,Value.none,vr 98,vr 99,vr 100,vi 307 0,vi 23 0,vs "/claim/cut.py" 308] }
def o69 (P:Params):Obj:={ cls:=Value.type "function",data:=Data.func { name:=u "is_name",qualname:=u "is_name",params:=TA 7,body:=FuncBody.stmts (TB 7),scope:=TS 7,globals:=3,closure:=[],defaults:=Value.none,kwdefaults:=Value.none,pyModule:=vs "lanescribe.kinds" 299,code:=vr 101 } }
def h_c9 (P:Params):Heap:=⟨⟨boot_o_0 P::boot_o_1 P::boot_o_2 P::o4 P::boot_o_4 P::boot_o_5 P::boot_o_6 P::boot_o_7 P::boot_o_8 P::boot_o_9 P::boot_o_10 P::o0 P::o5 P::o2 P::o3 P::o6 P::o7 P::o8 P::o0 P::o9 P::o10 P::o11 P::o12 P::o0 P::o1 P::o13 P::o0 P::o14 P::o15 P::o16 P::o17 P::o18 P::o19 P::o20 P::o21 P::o22 P::o23 P::o7 P::o24 P::o0 P::o25 P::o26 P::o27 P::o28 P::o0 P::o1 P::o29 P::o0 P::o30 P::o31 P::o32 P::o0 P::o33 P::o34 P::o35 P::o36 P::o23 P::o7 P::o37 P::o0 P::o38 P::o39 P::o40 P::o0 P::o1 P::o41 P::o0 P::o42 P::o43 P::o44 P::o45 P::o46 P::o47 P::o48 P::o49 P::o50 P::o7 P::o51 P::o0 P::o52 P::o53 P::o54 P::o55 P::o0 P::o1 P::o56 P::o0 P::o57 P::o58 P::o59 P::o60 P::o61 P::o62 P::o63 P::o64 P::o65 P::o0 P::o1 P::o66 P::o0 P::o67 P::o68 P::o69 P::[]⟩,{ }⟩
abbrev S_c9 (w:World) (os:OsState):Shared:=⟨h_c9 w.params,Array.mk [],{ },312,os⟩
abbrev p_c9:Pos:={ line:=25,col:=0,endLine:=25,endCol:=8 }
abbrev l_9:List Stmt:=((behindTheImports pp).drop 0).take 9
theorem r_9 (w:World) (os:OsState):segRun treeTable pp w 11 an 1 1001 (S_b w os) (piecesOf l_9 env cd p_b [topFrame fp])=some (.next,S_c9 w os,cd,p_c9):=by kernel_rfl
abbrev l_z:List Stmt:=(behindTheImports pp).drop 9
theorem all_l:behindTheImports pp=(l_9++l_z):=by kernel_rfl
theorem last (w:World) (os:OsState):((topRun treeTable pp w 11 an 1007 (S_c9 w os) (restOf l_z env cd p_c9 [topFrame fp])).bind fun s₁=>match staticsOk (importedModules pp.main.body) (S_0 w os).heap s₁.heap && namesBound pp s₁.heap && gensDone s₁ && laidKept (S_0 w os).heap s₁.heap with
      |true=>some s₁
      |false=>none).map (fun s=>(openSeen vw ls (importedModules pp.main.body) Xt true s,hk.obs s))=some (openGood vw ls,hk.val w):=by kernel_rfl
theorem chain (w:World) (os:OsState) (r:Shared) (h:topRun treeTable pp w 11 an 1007 (S_c9 w os) (restOf l_z env cd p_c9 [topFrame fp])=some r):topRun treeTable pp w 11 an 2021 (S_0 w os) (topStub pp)=some r:=by
  have k:topRun treeTable pp w 11 an 2008 (S_b w os) (restOf (l_9++l_z) env cd p_b [topFrame fp])=some r:=piece_app (r_9 w os) (h)
  rw [← all_l] at k
  exact go_top (n:=12) (N:=2009) (r_a w os) (piece_block (n:=1) (N:=2008) (r_b w os) k)
theorem run (w:World) (os:OsState):(topFrom treeTable pp w 2021 (S_0 w os)).map (fun s=>(openSeen vw ls (importedModules pp.main.body) Xt true s,hk.obs s))=some (openGood vw ls,hk.val w):=by_parts (s0:=S_0 w os) (by kernel_rfl) (by kernel_rfl) (by kernel_rfl) (chain w os) (last w os)
theorem left:LeftO (OpenRow.toRowW PySem.Challenge.rw_lanescribe_k30_spans_and_strays.row).prog vw ls Xt hk.obs hk.val 2021:=left_boot openP (by decide) (fun s=>by kernel_rfl) run
theorem head (hw:(OpenRow.toRowW PySem.Challenge.rw_lanescribe_k30_spans_and_strays.row).promised) {d:DefRec} {kwd:List (Str×Expr)} (hdef:defOf vw PySem.Challenge.rw_lanescribe_k30_spans_and_strays.row.name=some (d,kwd)) (hp:PySem.Challenge.rw_lanescribe_k30_spans_and_strays.row.prog.theDef PySem.Challenge.rw_lanescribe_k30_spans_and_strays.row.name=some (d.params,d.body,d.scope)) (hk1:kwWritten? d.params.kwonlyargs d.params.kw_defaults=some kwd)
    (hc:WalkO vw ls (XL vw lv) (kmHook KK asK eK [202]).says (OpenRow.toRowW PySem.Challenge.rw_lanescribe_k30_spans_and_strays.row) d kwd fun f vs=>PySem.call f vs):PySem.Challenge.rw_lanescribe_k30_spans_and_strays.Holds:=
  holds_law said fun said'=>holds_open (q:=vw) (loose:=ls) (Xt:=Xt) (XP:=XL vw lv) (Yf:=hk.obs) (Ya:=hk.val) (YP:=hk.says) (N:=2021) left hk.of hk.keeps (fun s e=>xl_of s (Bool.and_eq_true_iff.mp e).1) XL.keeps hdef hp hk1 (fun s e=>recFacts_of (Bool.and_eq_true_iff.mp e).2) (by rfl) said' (by decide +kernel) ⟨rfl,rfl,rfl,rfl,rfl,by decide +kernel⟩ hw hc
end
end Kd
namespace L2
open PySem PySem.Spec PyProof.Rows
abbrev Key:=Sum Int Str
def keyIs:Key→Value→Bool
  |.inl k,v=>Value.isInt k v
  |.inr x,v=>Value.isStrOf x v
def keyH (w:World):Key→Int
  |.inl k=>hashInt k
  |.inr x=>hashStr w x
theorem keyIs_shape:∀ {k:Key} {v:Value},keyIs k v=true→(∃ i t,k=Sum.inl i∧v=Value.int i t)∨(∃ x t,k=Sum.inr x∧v=Value.str x t)
  | .inl i,v,h=>by
    obtain ⟨t,e⟩:=Value.isInt_shape (k:=i) (v:=v) h
    exact .inl ⟨i,t,rfl,e⟩
  | .inr x,v,h=>by
    obtain ⟨t,e⟩:=Value.isStrOf_shape (x:=x) (v:=v) h
    exact .inr ⟨x,t,rfl,e⟩
theorem keyIs_int (i:Int) (t:Tok):keyIs (.inl i) (.int i t)=true:=by simp [keyIs,Value.isInt]
theorem keyIs_str (x:Str) (t:Tok):keyIs (.inr x) (.str x t)=true:=by simp [keyIs,Value.isStrOf]
theorem key_ll (a b:Int):decide ((Sum.inl a:Key)=Sum.inl b)=(a == b):=by
  by_cases e:a=b
  · subst e;simp
  · have h:¬ (Sum.inl a:Key)=Sum.inl b:=fun q=>e (Sum.inl.inj q)
    rw [decide_eq_false h]
    exact (beq_eq_false_iff_ne.mpr e).symm
theorem key_rr (a b:Str):decide ((Sum.inr a:Key)=Sum.inr b)=decide (a=b):=by
  by_cases e:a=b
  · subst e;simp
  · have h:¬ (Sum.inr a:Key)=Sum.inr b:=fun q=>e (Sum.inr.inj q)
    rw [decide_eq_false h,decide_eq_false e]
theorem key_lr (a:Int) (b:Str):decide ((Sum.inl a:Key)=Sum.inr b)=false:=decide_eq_false (fun q=>nomatch q)
theorem key_rl (a:Str) (b:Int):decide ((Sum.inr a:Key)=Sum.inl b)=false:=decide_eq_false (fun q=>nomatch q)
def mixKind (prog:Program) (w:World):PySem.KeyKind prog w Key where
  is:=keyIs
  hash:=keyH w
  inj:=fun v a b ha hb=>by
    rcases keyIs_shape ha with ⟨i,t,rfl,rfl⟩|⟨x,t,rfl,rfl⟩
    · rcases keyIs_shape hb with ⟨j,u,rfl,e⟩|⟨y,u,rfl,e⟩
      · injection e with e1 _;rw [e1]
      · exact nomatch e
    · rcases keyIs_shape hb with ⟨j,u,rfl,e⟩|⟨y,u,rfl,e⟩
      · exact nomatch e
      · injection e with e1 _;rw [e1]
  byValue:=fun k v h=>by
    rcases keyIs_shape h with ⟨i,t,rfl,rfl⟩|⟨x,t,rfl,rfl⟩ <;> rfl
  pyHash:=fun hv h=>by
    rcases keyIs_shape hv with ⟨i,t,rfl,rfl⟩|⟨x,t,rfl,rfl⟩
    · exact wpAny_pyHash_int h
    · exact wpAny_pyHash_str h
  eqBool:=fun hu hv h=>by
    rcases keyIs_shape hu with ⟨i,t,rfl,rfl⟩|⟨x,t,rfl,rfl⟩
    · rcases keyIs_shape hv with ⟨j,u,rfl,rfl⟩|⟨y,u,rfl,rfl⟩
      · rw [key_ll] at h;exact wpAny_eqBool_int h
      · rw [key_lr] at h;exact SeqAt.EqAt.int_str i t y u _ _ _ _ h
    · rcases keyIs_shape hv with ⟨j,u,rfl,rfl⟩|⟨y,u,rfl,rfl⟩
      · rw [key_rl] at h;exact SeqAt.EqAt.str_int x t j u _ _ _ _ h
      · rw [key_rr] at h;exact wpAny_eqBool_str h
  «strs»:=fun k x t v h=>by
    rcases keyIs_shape h with ⟨i,u,rfl,e⟩|⟨y,u,rfl,e⟩
    · exact nomatch e
    · injection e with e1 _
      subst e1
      cases v <;> rfl
theorem mixKind_int (prog:Program) (w:World) (i:Int) (t:Tok):(mixKind prog w).is (.inl i) (.int i t)=true:=keyIs_int i t
theorem mixKind_str (prog:Program) (w:World) (x:Str) (t:Tok):(mixKind prog w).is (.inr x) (.str x t)=true:=keyIs_str x t
end L2
namespace L2
open PySem PySem.Spec PyProof.Rows
inductive V where
  |non|bl (b:Bool)|int (i:Int)|str (x:Str)|byt (b:Array UInt8)|flt (b:UInt64)|ref (a:Addr)|ty (n:String)
  deriving DecidableEq
def RelV:V→Value→Prop
  |.non,u=>u=Value.none
  |.bl b,u=>u=Value.bool b
  |.int i,u=>∃ t,u=Value.int i t
  |.str x,u=>∃ t,u=Value.str x t
  |.byt b,u=>∃ t,u=Value.bytes b t
  |.flt b,u=>∃ t,u=Value.float b t
  |.ref a,u=>u=Value.ref a
  |.ty n,u=>u=Value.type n
abbrev Vals:List V→List Value→Prop:=Paired RelV
theorem Vals.length {xs:List V} {us:List Value} (r:Vals xs us):xs.length=us.length:=Paired.length r
theorem Vals.get:∀ {xs:List V} {us:List Value} {i:Nat} {x:V},Vals xs us→xs[i]?=some x→∃ u,us[i]?=some u∧RelV x u
  |_,_,_,_,.nil,e=>by simp at e
  |_,_,0,_,.cons r _,e=>by simp at e;subst e;exact ⟨_,rfl,r⟩
  | _,_,i+1,x,.cons _ t,e=>by
    obtain ⟨u,h1,h2⟩:=Vals.get (i:=i) (x:=x) t (by simpa using e)
    exact ⟨u,by simpa using h1,h2⟩
theorem Vals.set {x:V} {u:Value} (r:RelV x u):∀ {xs:List V} {us:List Value} (i:Nat),Vals xs us→Vals (xs.set i x) (us.set i u)
  |_,_,_,.nil=>.nil
  |_,_,0,.cons _ t=>.cons r t
  |_,_,i+1,.cons q t=>.cons q (Vals.set r i t)
theorem Vals.append:∀ {xs ys:List V} {us ws:List Value},Vals xs us→Vals ys ws→Vals (xs++ys) (us++ws)
  |_,_,_,_,.nil,s=>s
  |_,_,_,_,.cons r t,s=>.cons r (Vals.append t s)
theorem Vals.take:∀ {xs:List V} {us:List Value} (n:Nat),Vals xs us→Vals (xs.take n) (us.take n)
  |_,_,0,_=>.nil
  |_,_,_+1,.nil=>.nil
  |_,_,n+1,.cons r t=>.cons r (Vals.take n t)
theorem Vals.drop:∀ {xs:List V} {us:List Value} (n:Nat),Vals xs us→Vals (xs.drop n) (us.drop n)
  |_,_,0,r=>r
  |_,_,_+1,.nil=>.nil
  |_,_,n+1,.cons _ t=>Vals.drop n t
def RelO:Option V→Option Value→Prop
  |some v,some u=>RelV v u
  |none,none=>True
  |_,_=>False
def KV {κ:Type}:List (κ×V)→List (κ×Value)→Prop:=Paired fun (p:κ×V) (q:κ×Value)=>p.1=q.1∧RelV p.2 q.2
def kV:Key→V
  |.inl i=>.int i
  |.inr x=>.str x
inductive HO where
  |lst (xs:List V)
  |tup (xs:List V)
  |dK (kvs:List (Key×V))|dT (kvs:List (List Key×V))
  |set (S:Int→Bool) (n:Nat)
  |ins (C dx:Addr) (fs:List (Str×V))
  |own (x:Addr)
  |xd (fs:List (Str×V))
  |met (f x:Addr)
  |rng (lo hi:Int)
  |frz (o:Obj) (u:HO)
  |tbl (ps:Array Value)
  |ext (φ:Heap→Prop)
abbrev Hp:=Addr→Option HO
def upd (H:Hp) (a:Addr) (o:HO):Hp:=fun b=>if b=a then some o else H b
theorem upd_same {H:Hp} {a:Addr} {o:HO}:upd H a o a=some o:=by unfold upd;rw [if_pos rfl]
theorem upd_ne {H:Hp} {a b:Addr} {o:HO} (h:b≠a):upd H a o b=H b:=by unfold upd;rw [if_neg h]
theorem ne_of {H:Hp} {a b:Addr} {o u:HO} (h:H a=some o) (h':H b=some u) (d:o≠u):a≠b:=by
  intro e;subst e;rw [h] at h';exact d (Option.some.inj h')
theorem ne_of_none {H:Hp} {a b:Addr} {o:HO} (h:H a=some o) (h':H b=none):a≠b:=by
  intro e;subst e;rw [h] at h';cases h'
section
variable (P:Program) (w:World)
def ObjOk (H:Hp) (h:Heap) (a:Addr):HO→Prop
  |.lst xs=>xs.length≤sizeLine∧∃ (its:List Value) (n:Nat),Vals xs its∧h.get? a=some { cls:=.type "list",data:=.seq its.toArray n }
  |.tup xs=>xs.length≤sizeLine∧∃ its:List Value,Vals xs its∧IsTup h a its.toArray
  |.dK kvs=>kvs.length≤sizeLine∧(a == sysModules)=false∧∃ vs,KV kvs vs∧h.DictOf (mixKind P w) a vs
  |.dT kvs=>kvs.length≤sizeLine∧(a == sysModules)=false∧∃ xs:List (List Key×Addr×Value),
      Paired (fun (p:List Key×V) (q:List Key×Addr×Value)=>p.1=q.1∧H q.2.1=some (.tup (p.1.map kV))∧RelV p.2 q.2.2) kvs xs∧
      ∃ o es ep,h.get? a=some o∧o.ExactDict∧o.data=.dict es ep∧es.toList=xs.map (entryOfKey (tupleKind (mixKind P w)))∧(xs.map (·.1)).Nodup
  |.set S n=>h.SetOf (intKind P w) a S n
  |.ins C dx fs=>H dx=some (.own a)∧fs.length≤1000∧dx≠a∧h.get? a=some (PySem.W.instObj C dx)∧
      ∃ mA,h.Ns1 dx mA∧(∀ f,RelO (fs.lookup f) (mA f))∧PySem.Within mA (fs.map (·.1))
  |.own _=>∃ o,h.get? a=some o
  |.xd fs=>∃ mA,h.Ns1 a mA∧∀ f,RelO (fs.lookup f) (mA f)
  |.rng lo hi=>∃ t u v,h.get? a=some { cls:=.type "range",data:=.fields #[.int lo t,.int hi u,.int 1 v] }
  |.frz o u=>h.get? a=some o∧ObjOk H h a u
  |.tbl ps=>h.get? a=some { cls:=.none,data:=.fields ps }
  |.met f x=>h.get? a=some (PySem.W.methodObj (.ref f) (.ref x))
  |.ext φ=>φ h∧(∃ o,h.get? a=some o)∧∀ h1 h2:Heap,φ h1→(∀ o,h1.get? a=some o→h2.get? a=some o)→φ h2
def HOk (H:Hp) (h:Heap):Prop:=∀ a o,H a=some o→ObjOk P w H h a o
end
section
variable {P:Program} {w:World} {H H':Hp} {h h':Heap} {a:Addr} {o:HO}
theorem ObjOk.lt (x:ObjOk P w H h a o):a<h.objs.size:=by
  cases o with
  |lst xs=>obtain ⟨_,_,_,_,e⟩:=x;exact Heap.lt_size e
  |tup xs=>obtain ⟨_,_,_,p⟩:=x;exact p.lt
  |dK kvs=>obtain ⟨_,_,_,_,o,_,_,e,_⟩:=x;exact Heap.lt_size e
  |dT kvs=>obtain ⟨_,_,_,_,o,_,_,e,_⟩:=x;exact Heap.lt_size e
  |set S n=>obtain ⟨o,_,_,_,e,_⟩:=x;exact Heap.lt_size e
  |ins C dx fs=>obtain ⟨_,_,_,e,_⟩:=x;exact Heap.lt_size e
  |own y=>obtain ⟨_,e⟩:=x;exact Heap.lt_size e
  |xd fs=>obtain ⟨_,⟨_,_,_,e,_⟩,_⟩:=x;exact Heap.lt_size e
  |rng lo hi=>obtain ⟨_,_,_,e⟩:=x;exact Heap.lt_size e
  |frz ob u=>obtain ⟨e,_⟩:=x;exact Heap.lt_size e
  |tbl ps=>exact Heap.lt_size (show h.get? a=some _ from x)
  |met f y=>exact Heap.lt_size (show h.get? a=some _ from x)
  |ext φ=>obtain ⟨_,⟨_,e⟩,_⟩:=x;exact Heap.lt_size e
theorem Paired.mapP {α β:Type} {F G:α→β→Prop}:∀ {l₁:List α} {l₂:List β},Paired F l₁ l₂→(∀ a b,F a b→G a b)→Paired G l₁ l₂
  |_,_,.nil,_=>.nil
  |_,_,.cons r t,f=>.cons (f _ _ r) (Paired.mapP t f)
theorem ObjOk.stay (x:ObjOk P w H h a o) (k:∀ b u,(b=a∨H b=some (.own a))→h.get? b=some u→h'.get? b=some u)
    (ho:∀ b,H b=some (.own a)→H' b=some (.own a)) (ht:∀ b xs,H b=some (.tup xs)→H' b=some (.tup xs)):ObjOk P w H' h' a o:=by
  induction o with
  |lst xs=>obtain ⟨z,its,n,r,e⟩:=x;exact ⟨z,its,n,r,k _ _ (.inl rfl) e⟩
  |tup xs=>obtain ⟨z,its,r,ob,e,c⟩:=x;exact ⟨z,its,r,ob,k _ _ (.inl rfl) e,c⟩
  |dK kvs=>obtain ⟨z,y,vs,r,ob,es,ep,e,c⟩:=x;exact ⟨z,y,vs,r,ob,es,ep,k _ _ (.inl rfl) e,c⟩
  | dT kvs=>
    obtain ⟨z,y,xs,r,ob,es,ep,e,c⟩:=x
    exact ⟨z,y,xs,Paired.mapP r fun p q z=>⟨z.1,ht _ _ z.2.1,z.2.2⟩,ob,es,ep,k _ _ (.inl rfl) e,c⟩
  |set S n=>obtain ⟨ob,es,ep,t,e,c⟩:=x;exact ⟨ob,es,ep,t,k _ _ (.inl rfl) e,c⟩
  | ins C dx fs=>
    obtain ⟨d,z,ne,e,mA,⟨od,es,ep,e2,c⟩,r⟩:=x
    exact ⟨ho _ d,z,ne,k _ _ (.inl rfl) e,mA,⟨od,es,ep,k _ _ (.inr d) e2,c⟩,r⟩
  |own y=>obtain ⟨ob,e⟩:=x;exact ⟨ob,k _ _ (.inl rfl) e⟩
  |xd fs=>obtain ⟨mA,⟨od,es,ep,e,c⟩,r⟩:=x;exact ⟨mA,⟨od,es,ep,k _ _ (.inl rfl) e,c⟩,r⟩
  |rng lo hi=>obtain ⟨t,u,v,e⟩:=x;exact ⟨t,u,v,k _ _ (.inl rfl) e⟩
  |frz ob u ih=>obtain ⟨e,q⟩:=x;exact ⟨k _ _ (.inl rfl) e,ih q⟩
  | tbl ps=>
    have e:h.get? a=some { cls:=.none,data:=.fields ps }:=x
    show h'.get? a=some { cls:=.none,data:=.fields ps }
    exact k a _ (.inl rfl) e
  | met f y=>
    have e:h.get? a=some (PySem.W.methodObj (.ref f) (.ref y)):=x
    show h'.get? a=some (PySem.W.methodObj (.ref f) (.ref y))
    exact k a _ (.inl rfl) e
  |ext φ=>obtain ⟨p,⟨o,e⟩,st⟩:=x;exact ⟨st _ _ p fun o q=>k _ _ (.inl rfl) q,⟨o,k _ _ (.inl rfl) e⟩,st⟩
theorem HOk.lt (x:HOk P w H h) (e:H a=some o):a<h.objs.size:=(x a o e).lt
theorem HOk.fresh (x:HOk P w H h) (e:h.objs.size≤a):H a=none:=by
  cases q:H a with
  |none=>rfl
  |some u=>exact absurd (Nat.lt_of_lt_of_le (x.lt q) e) (Nat.lt_irrefl _)
theorem HOk.kept (x:HOk P w H h) (k:∀ b u,h.get? b=some u→h'.get? b=some u):HOk P w H h':=fun a o e=>
  (x a o e).stay (fun b u _ q=>k b u q) (fun _ q=>q) fun _ _ q=>q
theorem HOk.laid (x:HOk P w H h) (k:∀ b u,h.get? b=some u→h'.get? b=some u) (hp:h.objs.size≤a) (new:ObjOk P w (upd H a o) h' a o):HOk P w (upd H a o) h':=fun b u e=>by
  have hn:=x.fresh hp
  by_cases hb:b=a
  · subst hb;rw [upd_same] at e;cases e;exact new
  · rw [upd_ne hb] at e
    exact (x b u e).stay (fun c v _ q=>k c v q) (fun c q=>by rw [upd_ne (ne_of_none q hn)];exact q) fun c xs q=>by rw [upd_ne (ne_of_none q hn)];exact q
end
def Rd (H:Hp) (a:Addr) (u:HO):Prop:=H a=some u∨∃ o,H a=some (.frz o u)
theorem Rd.ok {P:Program} {w:World} {H:Hp} {h:Heap} {a:Addr} {u:HO} (r:Rd H a u) (x:HOk P w H h):ObjOk P w H h a u:=by
  rcases r with r|⟨o,r⟩
  · exact x a u r
  · obtain ⟨_,q⟩:=x a _ r
    exact q
def Mut:Option HO→Prop
  |some (.lst _)=>True
  |some (.dK _)=>True
  |some (.dT _)=>True
  |some (.set _ _)=>True
  |some (.ins _ _ _)=>True
  |some (.ext _)=>True
  |_=>False
section
variable {P:Program} {w:World} {H:Hp} {h h':Heap} {x e:Addr} {o':HO}
theorem HOk.write (ok:HOk P w H h) (mu:Mut (H x)) (he:e=x∨H e=some (.own x)) (k:∀ b u,b≠e→h.get? b=some u→h'.get? b=some u) (heo:∃ u,h'.get? e=some u)
    (new:ObjOk P w (upd H x o') h' x o'):HOk P w (upd H x o') h':=fun b u q=>by
  have nown:∀ c y,H c=some (.own y)→c≠x:=fun c y r z=>by subst z;rw [r] at mu;exact mu
  have ntup:∀ c xs,H c=some (.tup xs)→c≠x:=fun c xs r z=>by subst z;rw [r] at mu;exact mu
  by_cases hb:b=x
  · subst hb;rw [upd_same] at q;cases q;exact new
  · rw [upd_ne hb] at q
    by_cases hbe:b=e
    · have q':H b=some (.own x):=by
        rcases he with z|z
        · exact absurd (hbe.trans z) hb
        · rw [hbe];exact z
      rw [q] at q';cases q'
      obtain ⟨v,hv⟩:=heo
      exact ⟨v,by rw [hbe];exact hv⟩
    · refine (ok b u q).stay (fun c v hc r=>k c v ?_ r) (fun c r=>by rw [upd_ne (nown c b r)];exact r) fun c xs r=>by rw [upd_ne (ntup c xs r)];exact r
      rcases hc with rfl|hc
      · exact hbe
      · rintro rfl
        rcases he with z|z
        · exact nown c b hc z
        · rw [hc] at z;cases z;exact hb rfl
end
structure Un (fs ex:List Addr) (H H':Hp) (h h':Heap):Prop where
  keep:∀ b o,h.get? b=some o→H b=none→b∉fs→b∉ex→h'.get? b=some o
  slot:∀ b o,h.get? b=some o→H b=none→b∈fs→b∉ex→∃ sl,h'.get? b=some { o with slots:=sl }
  free:∀ b o,h.get? b=some o→H b=none→b∉ex→H' b=none
  there:∀ b o,h.get? b=some o→b∉ex→∃ o',h'.get? b=some o'
  tups:∀ b xs,H b=some (.tup xs)→H' b=some (.tup xs)
  frzs:∀ b o u,H b=some (.frz o u)→H' b=some (.frz o u)
  tbls:∀ b ps,H b=some (.tbl ps)→∃ more,H' b=some (.tbl (ps++more))
section
variable {fs fs' ex ex':List Addr} {H H1 H2:Hp} {h h1 h2 h':Heap} {a x e:Addr} {o:HO}
theorem Un.any (u:Un fs ex H H1 h h1) {b:Addr} {ob:Obj} (q:h.get? b=some ob) (n:H b=none) (hx:b∉ex):∃ sl,h1.get? b=some { ob with slots:=sl }:=by
  by_cases hb:b∈fs
  · exact u.slot b ob q n hb hx
  · exact ⟨ob.slots,u.keep b ob q n hb hx⟩
theorem Un.kept (k:∀ b u,h.get? b=some u→h'.get? b=some u):Un fs ex H H h h':=
  ⟨fun b ob q _ _ _=>k b ob q,fun b ob q _ _ _=>⟨ob.slots,k b ob q⟩,fun _ _ _ n _=>n,fun b ob q _=>⟨ob,k b ob q⟩,fun _ _ q=>q,fun _ _ _ q=>q,fun _ ps q=>⟨#[],by rw [q];simp⟩⟩
theorem Un.refl:Un fs ex H H h h:=Un.kept fun _ _ q=>q
theorem Un.laid (k:∀ b u,h.get? b=some u→h'.get? b=some u) (hp:h.objs.size≤a) (hn:H a=none):Un fs ex H (upd H a o) h h' where
  keep:=fun b u q _ _ _=>k b u q
  slot:=fun b u q _ _ _=>⟨u.slots,k b u q⟩
  free:=fun b u q n _=>by rw [upd_ne (Nat.ne_of_lt (Nat.lt_of_lt_of_le (Heap.lt_size q) hp))];exact n
  there:=fun b u q _=>⟨u,k b u q⟩
  tups:=fun b xs q=>by rw [upd_ne (ne_of_none q hn)];exact q
  frzs:=fun b u xs q=>by rw [upd_ne (ne_of_none q hn)];exact q
  tbls:=fun b ps q=>⟨#[],by rw [upd_ne (ne_of_none q hn),q];simp⟩
theorem Un.write (mu:Mut (H x)) (he:e=x∨H e=some (.own x)) (k:∀ b u,b≠e→h.get? b=some u→h'.get? b=some u) (heo:∃ u,h'.get? e=some u):Un fs ex H (upd H x o) h h':=by
  have hx:∀ b,H b=none→b≠x:=fun b n z=>by subst z;rw [n] at mu;exact mu
  have hb:∀ b,H b=none→b≠e:=fun b n z=>by
    subst z
    rcases he with r|r
    · exact hx b n r
    · rw [n] at r;cases r
  have hm:∀ b u,H b=some u→¬ Mut (some u)→b≠x:=fun b u q nm z=>by subst z;rw [q] at mu;exact nm mu
  refine ⟨fun b u q n _ _=>k b u (hb b n) q,fun b u q n _ _=>⟨u.slots,k b u (hb b n) q⟩,fun b u q n _=>by rw [upd_ne (hx b n)];exact n,fun b u q _=>?_,
    fun b xs q=>by rw [upd_ne (hm b _ q fun z=>z)];exact q,fun b u xs q=>by rw [upd_ne (hm b _ q fun z=>z)];exact q,fun b ps q=>⟨#[],by rw [upd_ne (hm b _ q fun z=>z),q];simp⟩⟩
  by_cases hbe:b=e
  · subst hbe;exact heo
  · exact ⟨u,k b u hbe q⟩
end
def trk (h:Heap) (H:Hp):List Addr:=(List.range h.objs.size).filter fun a=>(H a).isSome
def hidT (h:Heap) (H:Hp):Heap:=PySem.W.hideAll h (trk h H)
theorem hidT_size (h:Heap) (H:Hp):(hidT h H).objs.size=h.objs.size:=PySem.W.hideAll_size _ _
theorem hidT_get {h:Heap} {H:Hp} {b:Addr} {o:Obj} (e:h.get? b=some o) (n:H b=none):(hidT h H).get? b=some o:=
  PySem.W.hideAll_get _ e fun hm=>by
    have q:(H b).isSome=true:=(List.mem_filter.mp hm).2
    rw [n] at q;simp at q
theorem of_hidT {h:Heap} {H:Hp} {b:Addr} {o:Obj} (e:(hidT h H).get? b=some o):h.get? b=some o∧H b=none:=by
  have e':h.get? b=some o:=PySem.W.of_hideAll (trk h H) e
  refine ⟨e',?_⟩
  cases q:H b with
  |none=>rfl
  | some x=>
    have hm:b∈trk h H:=List.mem_filter.mpr ⟨List.mem_range.mpr (Heap.lt_size e'),by simp [q]⟩
    have z:(hidT h H).get? b=none:=PySem.W.hideAll_none (trk h H) hm
    rw [z] at e;cases e
end L2
namespace L2
open PySem PySem.Spec PyProof.Rows
structure Mod (K:PySem.W.Frag) (mg:Str→Option Value) (base:Heap):Prop where
  kin:K.In base
  glob:base.Ns mainGlobals mg
  blt:∃ mb,base.Ns builtinsNs mb∧∀ x:Str,x ≠ "__name__"→mb x=bootBuiltins x
  nolimit:base.NoLimit
structure Cx where
  prog:Program
  w:World
  K:PySem.W.Frag
  mg:Str→Option Value
  base:Heap
  A:Around
  N:List Str
  s₀:Shared
  H₀:Hp
  env:Env
  outer:List Env
  stack:List Env
  ex:List Addr
  fn:Str→Bool
  calm:Bool
  pn:List (Addr×Obj)
  xe:Value→Shared→Prop
def frs (l:List Env):List Addr:=l.filterMap (·.frame)
abbrev Cx.fs (X:Cx):List Addr:=frs X.outer
def Vis (sc:Scope) (x:Str):Prop:=sc.names.lookup x=some .local∨sc.names.lookup x=some .cell∨sc.names.lookup x=some .free
def Loc (sc:Scope) (x:Str):Prop:=sc.names.lookup x=some .local∨sc.names.lookup x=some .cell
def Look (env:Env) (h:Heap) (m:Str→Option Value) (x:Str) (u:Value):Prop:=
  (env.kindOf x=some .local∧m x=some u)∨((env.kindOf x=some .cell∨env.kindOf x=some .free)∧∃ c,env.cells.lookup x=some c∧h.IsCell c (some u))
structure Cx.Ok (X:Cx):Prop where
  mod:Mod X.K X.mg X.base
  kind:X.env.scope.kind=.function
  glob:X.env.globals=mainGlobals
  blt:X.env.builtins=builtinsNs
  above:X.s₀.heap.objs.size≤X.env.locals
  inj:∀ x y c,X.env.cells.lookup x=some c→X.env.cells.lookup y=some c→x=y
  has:∀ x,(X.env.kindOf x=some .cell∨X.env.kindOf x=some .free)→∃ c,X.env.cells.lookup x=some c
  cab:∀ x c,X.fn x=true→X.env.cells.lookup x=some c→X.s₀.heap.objs.size≤c
  hd:X.calm=true→X.A.handled=none
  frames:X.A.frames=some X.stack
  stk:X.stack=X.outer∨(X.stack=X.env::X.outer∧X.env.frame=some X.env.locals)
  exf:∀ b∈X.ex,b≠X.env.locals∧∀ x c,X.env.cells.lookup x=some c→c≠b
  bs:∀ b o,X.base.get? b=some o→X.s₀.heap.get? b=some o∧X.H₀ b=none
  bsz:X.base.objs.size≤X.s₀.heap.objs.size
  noex:∀ b o,X.base.get? b=some o→b∉X.ex
  exfs:∀ b∈X.ex,b∉X.fs
  funs:X.s₀.heap.FunFrames X.base X.outer
  frf:∀ b∈X.fs,X.H₀ b=none
structure Inv (X:Cx) (pins:List (Addr×Obj)) (σ:List (Option V)) (H:Hp) (s:Shared):Prop where
  ok:X.Ok
  os:s.os=X.s₀.os
  bare:AllBare s.gens
  base:Un X.fs X.ex X.H₀ H X.s₀.heap s.heap
  loc:∃ m,s.heap.Ns X.env.locals m∧∀ (i:Nat) (x:Str) (v:V),X.N[i]?=some x→σ[i]?=some (some v)→Vis X.env.scope x→∃ u,RelV v u∧Look X.env s.heap m x u
  cell:∀ x c,X.env.cells.lookup x=some c→∃ v,s.heap.IsCell c v
  free:H X.env.locals=none
  freeC:∀ x c,X.env.cells.lookup x=some c→H c=none
  pin:∀ p∈X.pn++pins,s.heap.get? p.1=some p.2∧H p.1=none∧p.1≠X.env.locals∧p.1∉X.fs∧∀ v,p.2.data≠.cell v
  hok:HOk X.prog X.w H s.heap
  len:σ.length=X.N.length
section
variable {X:Cx} {pins:List (Addr×Obj)} {σ:List (Option V)} {H H':Hp} {s:Shared} {h':Heap}
theorem Cx.Ok.nofr (ok:X.Ok) {b:Addr} {o:Obj} (e:X.base.get? b=some o):b∉X.fs:=fun hb=>by
  have:=(ok.funs.mem hb).1
  rw [e] at this;cases this
theorem Inv.bs (I:Inv X pins σ H s):∀ b o,X.base.get? b=some o→s.heap.get? b=some o∧H b=none:=fun b o e=>
  ⟨I.base.keep b o (I.ok.bs b o e).1 (I.ok.bs b o e).2 (I.ok.nofr e) (I.ok.noex b o e),I.base.free b o (I.ok.bs b o e).1 (I.ok.bs b o e).2 (I.ok.noex b o e)⟩
theorem Inv.bk (I:Inv X pins σ H s):∀ b o,X.base.get? b=some o→s.heap.get? b=some o:=fun b o e=>(I.bs b o e).1
theorem Inv.mod (I:Inv X pins σ H s):Mod X.K X.mg X.base:=I.ok.mod
theorem Inv.kIn (I:Inv X pins σ H s):X.K.In s.heap:=I.ok.mod.kin.keeps I.bk
theorem Inv.fr (I:Inv X pins σ H s):∃ m,Fr X.base X.env.locals s.heap m:=
  let ⟨m,hn,_⟩:=I.loc
  ⟨m,hn,I.bk,Nat.le_trans I.ok.bsz I.ok.above⟩
theorem Inv.lt (I:Inv X pins σ H s):X.env.locals<s.heap.objs.size:=let ⟨_,hn,_⟩:=I.loc;hn.lt
theorem Inv.sz (I:Inv X pins σ H s):X.s₀.heap.objs.size≤s.heap.objs.size:=Nat.le_trans I.ok.above (Nat.le_of_lt I.lt)
theorem Inv.nofs (I:Inv X pins σ H s) {a:Addr} (h:s.heap.objs.size≤a):a∉X.fs:=fun hb=>by
  obtain ⟨_,o,ho,_⟩:=I.ok.funs.mem hb
  exact absurd (Nat.lt_of_lt_of_le (Heap.lt_size ho) (Nat.le_trans I.sz h)) (Nat.lt_irrefl _)
theorem Inv.cne (I:Inv X pins σ H s):∀ x c,X.env.cells.lookup x=some c→c≠X.env.locals:=fun x c e z=>by
  obtain ⟨v,o,ho,hd⟩:=I.cell x c e
  obtain ⟨m,⟨o',es,ep,ho',hd',_⟩,_⟩:=I.loc
  rw [z,ho'] at ho;cases ho;rw [hd'] at hd;cases hd
theorem Inv.funs (I:Inv X pins σ H s):s.heap.FunFrames X.base X.outer:=by
  have all:∀ (l:List Env),(∀ b∈frs l,b∈X.fs)→X.s₀.heap.FunFrames X.base l→s.heap.FunFrames X.base l:=by
    intro l
    induction l with
    |nil=>intro _ _;trivial
    | cons env r ih=>
      intro hs hl
      obtain ⟨hk,⟨L,o,hf,hn,ho,hd⟩,hr⟩:=hl
      have hL:L∈X.fs:=hs L (by unfold frs;rw [List.filterMap_cons,hf];exact List.mem_cons_self)
      obtain ⟨sl,e⟩:=I.base.slot L o ho (I.ok.frf L hL) hL fun z=>I.ok.exfs L z hL
      exact ⟨hk,⟨L,_,hf,hn,e,hd⟩,ih (fun b hb=>hs b (by unfold frs;rw [List.filterMap_cons,hf];exact List.mem_cons_of_mem _ hb)) hr⟩
  exact all X.outer (fun _ hb=>hb) I.ok.funs
theorem Inv.stack (I:Inv X pins σ H s):s.heap.FunFrames X.base X.stack:=by
  rcases I.ok.stk with e|⟨e,hf⟩
  · rw [e];exact I.funs
  · rw [e]
    obtain ⟨m,hn,_⟩:=I.loc
    refine .cons (by rw [I.ok.kind];decide) hf hn ?_ I.funs
    exact Heap.get?_none_of_le (Nat.le_trans I.ok.bsz I.ok.above)
theorem Inv.stkSub (I:Inv X pins σ H s):∀ b∈frs X.stack,b∈X.env.locals::X.fs:=fun b hb=>by
  rcases I.ok.stk with e|⟨e,hf⟩
  · rw [e] at hb;exact List.mem_cons_of_mem _ hb
  · rw [e] at hb
    unfold frs at hb
    rw [List.filterMap_cons,hf] at hb
    exact hb
theorem Inv.stkFree (I:Inv X pins σ H s):∀ b∈frs X.stack,H b=none:=fun b hb=>by
  rcases List.mem_cons.mp (I.stkSub b hb) with e|hb
  · rw [e];exact I.free
  · obtain ⟨_,o,ho,_⟩:=I.ok.funs.mem hb
    exact I.base.free b o ho (I.ok.frf b hb) fun z=>I.ok.exfs b z hb
theorem Inv.step {g':Array GenState} {t':Nat} {d':Drawn} {ch:List Addr} (I:Inv X pins σ H s)
    (hch:∀ b∈ch,(b∈X.ex∨X.s₀.heap.objs.size≤b)∧b≠X.env.locals∧(∀ x c,X.env.cells.lookup x=some c→c≠b)∧∀ p∈X.pn++pins,p.1≠b)
    (keep:∀ b o,b≠X.env.locals→b∉X.fs→b∉ch→s.heap.get? b=some o→H b=none→h'.get? b=some o)
    (slot:∀ b o,b≠X.env.locals→b∈X.fs→b∉ch→s.heap.get? b=some o→H b=none→∃ sl,h'.get? b=some { o with slots:=sl }) (free:∀ b o,b∉ch→s.heap.get? b=some o→H b=none→H' b=none)
    (there:∀ b o,b∉ch→s.heap.get? b=some o→∃ o',h'.get? b=some o')
    (tups:∀ b xs,H b=some (.tup xs)→H' b=some (.tup xs)) (frzs:∀ b o u,H b=some (.frz o u)→H' b=some (.frz o u)) (tbls:∀ b ps,H b=some (.tbl ps)→∃ more,H' b=some (.tbl (ps++more)))
    (ns:∀ m,s.heap.Ns X.env.locals m→h'.Ns X.env.locals m) (hok:HOk X.prog X.w H' h') (hg:AllBare g') :
    Inv X pins σ H' { s with heap:=h',gens:=g',drawn:=d',toks:=t' }:=by
  have neL:∀ b o,X.s₀.heap.get? b=some o→b≠X.env.locals:=fun b o e=>Nat.ne_of_lt (Nat.lt_of_lt_of_le (Heap.lt_size e) I.ok.above)
  have neC:∀ b o,X.s₀.heap.get? b=some o→b∉X.ex→b∉ch:=fun b o e hx hb=>by
    rcases (hch b hb).1 with z|z
    · exact hx z
    · exact absurd (Nat.lt_of_lt_of_le (Heap.lt_size e) z) (Nat.lt_irrefl _)
  have cellK:∀ x c,X.env.cells.lookup x=some c→∀ v,s.heap.IsCell c v→h'.IsCell c v:=fun x c e v ⟨o,ho,hd⟩=>by
    have nch:c∉ch:=fun z=>(hch c z).2.2.1 x c e rfl
    by_cases hc:c∈X.fs
    · obtain ⟨sl,q⟩:=slot c o (I.cne x c e) hc nch ho (I.freeC x c e)
      exact ⟨_,q,hd⟩
    · exact ⟨o,keep c o (I.cne x c e) hc nch ho (I.freeC x c e),hd⟩
  refine ⟨I.ok,I.os,hg,⟨fun b o e n hb hx=>?_,fun b o e n hb hx=>?_,fun b o e n hx=>?_,fun b o e hx=>?_,fun b xs e=>tups b xs (I.base.tups b xs e),fun b o xs e=>frzs b o xs (I.base.frzs b o xs e),fun b ps e=>?_⟩,?_,fun x c e=>?_,?_,fun x c e=>?_,fun p hp=>?_,hok,I.len⟩
  · exact keep b o (neL b o e) hb (neC b o e hx) (I.base.keep b o e n hb hx) (I.base.free b o e n hx)
  · obtain ⟨sl,e1⟩:=I.base.slot b o e n hb hx
    obtain ⟨sl',e2⟩:=slot b _ (neL b o e) hb (neC b o e hx) e1 (I.base.free b o e n hx)
    exact ⟨sl',e2⟩
  · obtain ⟨o',e1⟩:=I.base.there b o e hx
    exact free b o' (neC b o e hx) e1 (I.base.free b o e n hx)
  · obtain ⟨o',e1⟩:=I.base.there b o e hx
    exact there b o' (neC b o e hx) e1
  · obtain ⟨m1,e1⟩:=I.base.tbls b ps e
    obtain ⟨m2,e2⟩:=tbls b _ e1
    exact ⟨m1++m2,by rw [e2,Array.append_assoc]⟩
  · obtain ⟨m,hn,hl⟩:=I.loc
    refine ⟨m,ns m hn,fun i x v e1 e2 e3=>?_⟩
    obtain ⟨u,r,l⟩:=hl i x v e1 e2 e3
    refine ⟨u,r,?_⟩
    rcases l with l|⟨k,c,e,z⟩
    · exact .inl l
    · exact .inr ⟨k,c,e,cellK x c e _ z⟩
  · obtain ⟨v,z⟩:=I.cell x c e
    exact ⟨v,cellK x c e v z⟩
  · obtain ⟨m,⟨o,_,_,ho,_⟩,_⟩:=I.loc
    exact free _ o (fun z=>(hch _ z).2.1 rfl) ho I.free
  · obtain ⟨v,o,ho,hd⟩:=I.cell x c e
    exact free c o (fun z=>(hch c z).2.2.1 x c e rfl) ho (I.freeC x c e)
  · obtain ⟨e,n,ne,nf,d⟩:=I.pin p hp
    have nch:p.1∉ch:=fun z=>(hch p.1 z).2.2.2 p hp rfl
    exact ⟨keep p.1 p.2 ne nf nch e n,free p.1 p.2 nch e n,ne,nf,d⟩
theorem Inv.un {t':Nat} (I:Inv X pins σ H s) (u:Un X.fs [] H H' s.heap h') (hok:HOk X.prog X.w H' h'):Inv X pins σ H' { s with heap:=h',toks:=t' }:=by
  obtain ⟨m,⟨o,es,ep,ho,r⟩,_⟩:=id I.loc
  obtain ⟨sl,hL⟩:=u.any ho I.free (by simp)
  exact I.step (g':=s.gens) (d':=s.drawn) (ch:=[]) (fun _ z=>nomatch z) (fun b o _ hb _ e n=>u.keep b o e n hb (by simp)) (fun b o _ hb _ e n=>u.slot b o e n hb (by simp)) (fun b o _ e n=>u.free b o e n (by simp)) (fun b o _ e=>u.there b o e (by simp)) u.tups u.frzs u.tbls (fun m' hm=>by
    obtain ⟨o',es',ep',ho',r'⟩:=hm
    rw [ho] at ho';cases ho'
    exact ⟨_,es',ep',hL,r'⟩) hok I.bare
theorem Inv.call {g':Array GenState} {t':Nat} {d':Drawn} {ch:List Addr} (I:Inv X pins σ H s) (u:Un (frs X.stack) ch H H' s.heap h') (hok:HOk X.prog X.w H' h') (hg:AllBare g')
    (hch:∀ b∈ch,(b∈X.ex∨X.s₀.heap.objs.size≤b)∧b≠X.env.locals∧(∀ x c,X.env.cells.lookup x=some c→c≠b)∧∀ p∈X.pn++pins,p.1≠b) :
    Inv X pins σ H' { s with heap:=h',gens:=g',drawn:=d',toks:=t' }:=by
  obtain ⟨m,⟨o,es,ep,ho,r⟩,_⟩:=id I.loc
  obtain ⟨sl,hL⟩:=u.any ho I.free fun z=>(hch _ z).2.1 rfl
  exact I.step (ch:=ch) hch (fun b o hL hb hc e n=>u.keep b o e n (fun z=>(List.mem_cons.mp (I.stkSub b z)).elim hL hb) hc) (fun b o _ _ hc e n=>u.any e n hc) (fun b o hc e n=>u.free b o e n hc) (fun b o hc e=>u.there b o e hc) u.tups u.frzs u.tbls (fun m' hm=>by
    obtain ⟨o',es',ep',ho',r'⟩:=hm
    rw [ho] at ho';cases ho'
    exact ⟨_,es',ep',hL,r'⟩) hok hg
theorem Inv.turned {t':Nat} {it:Addr} (I:Inv X pins σ H s) (k:∀ b o,b≠it→s.heap.get? b=some o→h'.get? b=some o) (hn:H it=none) (hL:it≠X.env.locals)
    (h1:it∈X.ex∨X.s₀.heap.objs.size≤it) (h2:∀ x c,X.env.cells.lookup x=some c→c≠it) (h3:∀ p∈X.pn++pins,p.1≠it):Inv X pins σ H { s with heap:=h',toks:=t' }:=by
  have nit:∀ b u,H b=some u→b≠it:=fun b u e z=>by rw [z,hn] at e;cases e
  refine I.step (g':=s.gens) (d':=s.drawn) (ch:=[it]) (fun b hb=>?_) (fun b o _ _ hc e _=>k b o (fun z=>hc (by simp [z])) e) (fun b o _ _ hc e _=>⟨o.slots,k b o (fun z=>hc (by simp [z])) e⟩) (fun _ _ _ _ n=>n)
    (fun b o hc e=>⟨o,k b o (fun z=>hc (by simp [z])) e⟩) (fun _ _ e=>e) (fun _ _ _ e=>e) (fun b ps e=>⟨#[],by rw [e];simp⟩) (fun m hm=>?_) (fun b u e=>?_) I.bare
  · have e:b=it:=by simpa using hb
    subst e
    exact ⟨h1,hL,h2,h3⟩
  · obtain ⟨o,es,ep,ho,r⟩:=hm
    exact ⟨o,es,ep,k _ o (Ne.symm hL) ho,r⟩
  · refine (I.hok b u e).stay (fun c v hc q=>k c v ?_ q) (fun _ q=>q) fun _ _ q=>q
    rcases hc with z|z
    · rw [z];exact nit b u e
    · exact nit c _ z
theorem Inv.tok (I:Inv X pins σ H s) (t:Nat):Inv X pins σ H { s with toks:=t }:=I.un (h':=s.heap) (t':=t) Un.refl I.hok
theorem Inv.kept {t':Nat} (I:Inv X pins σ H s) (k:∀ b u,s.heap.get? b=some u→h'.get? b=some u):Inv X pins σ H { s with heap:=h',toks:=t' }:=I.un (Un.kept k) (I.hok.kept k)
theorem Inv.laid {a:Addr} {o:HO} {t':Nat} (I:Inv X pins σ H s) (k:∀ b u,s.heap.get? b=some u→h'.get? b=some u) (hp:s.heap.objs.size≤a) (new:ObjOk X.prog X.w (upd H a o) h' a o) :
    Inv X pins σ (upd H a o) { s with heap:=h',toks:=t' }:=I.un (Un.laid k hp (I.hok.fresh hp)) (I.hok.laid k hp new)
theorem Inv.write {x e:Addr} {o:HO} {t':Nat} (I:Inv X pins σ H s) (mu:Mut (H x)) (he:e=x∨H e=some (.own x)) (k:∀ b u,b≠e→s.heap.get? b=some u→h'.get? b=some u) (heo:∃ u,h'.get? e=some u)
    (new:ObjOk X.prog X.w (upd H x o) h' x o):Inv X pins σ (upd H x o) { s with heap:=h',toks:=t' }:=I.un (Un.write mu he k heo) (I.hok.write mu he k heo new)
theorem Inv.pins_of {pins':List (Addr×Obj)} (I:Inv X pins σ H s) (h:∀ p∈pins',s.heap.get? p.1=some p.2∧H p.1=none∧p.1≠X.env.locals∧p.1∉X.fs∧∀ v,p.2.data≠.cell v):Inv X pins' σ H s:=
  ⟨I.ok,I.os,I.bare,I.base,I.loc,I.cell,I.free,I.freeC,fun p hp=>(List.mem_append.mp hp).elim (fun z=>I.pin p (List.mem_append_left _ z)) (h p),I.hok,I.len⟩
theorem nodup_ix {N:List Str} (hN:N.Nodup) {i j:Nat} {x:Str} (a:N[i]?=some x) (b:N[j]?=some x):i=j:=by
  obtain ⟨h1,e1⟩:=List.getElem?_eq_some_iff.mp a
  obtain ⟨h2,e2⟩:=List.getElem?_eq_some_iff.mp b
  exact (List.getElem_inj hN).mp (e1.trans e2.symm)
theorem store_ok2 {M:Model} {A:Around} {E:Value→Shared→Prop} {i:Nat} {x:Str} {v:V} {u:Value} {Q:Unit→Shared→Prop} (I:Inv X pins σ H s) (hN:X.N.Nodup) (hi:X.N[i]?=some x) (hx:Loc X.env.scope x) (r:RelV v u)
    (h:∀ s',Inv X pins (σ.set i (some v)) H s'→(∃ a,Heap.SameBut a s.heap s'.heap∧(a=X.env.locals∨X.env.cells.lookup x=some a))→Q () s') (hf:X.fn x=true∨X.env.scope.names.lookup x=some .local:=by first|exact .inl rfl|exact .inr rfl|assumption):wpAny M A (storeName X.env x u) Q E s:=by
  obtain ⟨m,hn,hl⟩:=id I.loc
  have hcls:(X.env.scope.kind == .class || (X.env.scope.kind == .module && X.env.locals != X.env.globals))=false:=by rw [I.ok.kind];rfl
  have hiσ:i<σ.length:=by rw [I.len];exact (List.getElem?_eq_some_iff.mp hi).1
  have cne:=I.cne
  have tracked:∀ {a:Addr} {h':Heap},(∃ o,s.heap.get? a=some o∧H a=none)→Heap.SameBut a s.heap h'→HOk X.prog X.w H h':=fun {a h'} ha hs b ob e=>by
    obtain ⟨_,_,hfree⟩:=ha
    refine (I.hok b ob e).stay (fun c w' hc q=>(hs.2 c ?_).trans q) (fun _ q=>q) fun _ _ q=>q
    rintro rfl
    rcases hc with rfl|hc
    · rw [hfree] at e;cases e
    · rw [hfree] at hc;cases hc
  rcases hx with hk|hk
  · refine wpAny_storeName_local hk hn (fun h' hn' hs=>?_) hcls
    obtain ⟨oL,_,_,hoL,_⟩:=id hn
    refine h _ ⟨I.ok,I.os,I.bare,⟨fun b o e n hb hx=>?_,fun b o e n hb hx=>?_,I.base.free,fun b o e hx=>?_,I.base.tups,I.base.frzs,I.base.tbls⟩,⟨_,hn',fun j y v' e1 e2 e3=>?_⟩,fun y c e=>?_,I.free,I.freeC,fun p hp=>?_,tracked ⟨oL,hoL,I.free⟩ hs,by simpa using I.len⟩ ⟨_,hs,.inl rfl⟩
    · exact (hs.2 b (Nat.ne_of_lt (Nat.lt_of_lt_of_le (Heap.lt_size e) I.ok.above))).trans (I.base.keep b o e n hb hx)
    · obtain ⟨sl,e1⟩:=I.base.slot b o e n hb hx
      exact ⟨sl,(hs.2 b (Nat.ne_of_lt (Nat.lt_of_lt_of_le (Heap.lt_size e) I.ok.above))).trans e1⟩
    · obtain ⟨o',e1⟩:=I.base.there b o e hx
      exact ⟨o',(hs.2 b (Nat.ne_of_lt (Nat.lt_of_lt_of_le (Heap.lt_size e) I.ok.above))).trans e1⟩
    · by_cases hj:j=i
      · subst hj
        rw [hi] at e1;cases e1
        rw [List.getElem?_set_self hiσ] at e2
        cases e2
        exact ⟨u,r,.inl ⟨hk,by simp⟩⟩
      · rw [List.getElem?_set_ne (Ne.symm hj)] at e2
        obtain ⟨u',r',q⟩:=hl j y v' e1 e2 e3
        refine ⟨u',r',?_⟩
        rcases q with ⟨k,e⟩|⟨k,c,e,z⟩
        · refine .inl ⟨k,?_⟩
          have:y≠x:=fun e=>hj (nodup_ix hN e1 (e ▸ hi))
          simp [this,e]
        · exact .inr ⟨k,c,e,z.sameBut hs (cne y c e)⟩
    · obtain ⟨w',z⟩:=I.cell y c e
      exact ⟨w',z.sameBut hs (cne y c e)⟩
    · obtain ⟨e,n,ne,nf,d⟩:=I.pin p hp
      exact ⟨(hs.2 p.1 ne).trans e,n,ne,nf,d⟩
  · have hfn:X.fn x=true:=by
      rcases hf with z|z
      · exact z
      · rw [z] at hk;cases hk
    obtain ⟨c,hc⟩:=I.ok.has x (.inl hk)
    obtain ⟨w',z⟩:=I.cell x c hc
    refine wpAny_storeName_cell I.ok.kind hk hc z (fun h' hc' hs=>?_)
    obtain ⟨oc,hoc,hocd⟩:=id z
    refine h { s with heap:=h' } ⟨I.ok,I.os,I.bare,⟨fun b o e n hb hx=>?_,fun b o e n hb hx=>?_,I.base.free,fun b o e hx=>?_,I.base.tups,I.base.frzs,I.base.tbls⟩,⟨m,hn.sameBut hs (Ne.symm (cne x c hc)),fun j y v' e1 e2 e3=>?_⟩,fun y c' e=>?_,I.free,I.freeC,fun p hp=>?_,tracked ⟨oc,hoc,I.freeC x c hc⟩ hs,by simpa using I.len⟩ ⟨c,hs,.inr hc⟩
    · exact (hs.2 b (Nat.ne_of_lt (Nat.lt_of_lt_of_le (Heap.lt_size e) (I.ok.cab x c hfn hc)))).trans (I.base.keep b o e n hb hx)
    · obtain ⟨sl,e1⟩:=I.base.slot b o e n hb hx
      exact ⟨sl,(hs.2 b (Nat.ne_of_lt (Nat.lt_of_lt_of_le (Heap.lt_size e) (I.ok.cab x c hfn hc)))).trans e1⟩
    · obtain ⟨o',e1⟩:=I.base.there b o e hx
      exact ⟨o',(hs.2 b (Nat.ne_of_lt (Nat.lt_of_lt_of_le (Heap.lt_size e) (I.ok.cab x c hfn hc)))).trans e1⟩
    · by_cases hj:j=i
      · subst hj
        rw [hi] at e1;cases e1
        rw [List.getElem?_set_self hiσ] at e2
        cases e2
        exact ⟨u,r,.inr ⟨.inl hk,c,hc,hc'⟩⟩
      · rw [List.getElem?_set_ne (Ne.symm hj)] at e2
        obtain ⟨u',r',q⟩:=hl j y v' e1 e2 e3
        refine ⟨u',r',?_⟩
        rcases q with q|⟨k,c',e,z'⟩
        · exact .inl q
        · refine .inr ⟨k,c',e,z'.sameBut hs ?_⟩
          rintro rfl
          exact hj (nodup_ix hN e1 (I.ok.inj _ _ _ e hc ▸ hi))
    · by_cases hcc:c'=c
      · subst hcc;exact ⟨_,hc'⟩
      · obtain ⟨w2,z2⟩:=I.cell y c' e
        exact ⟨w2,z2.sameBut hs hcc⟩
    · obtain ⟨e,n,ne,nf,d⟩:=I.pin p hp
      refine ⟨(hs.2 p.1 ?_).trans e,n,ne,nf,d⟩
      intro q
      rw [q,hoc] at e
      have q':oc=p.2:=Option.some.inj e
      exact d w' (by rw [← q'];exact hocd)
theorem store_ok {M:Model} {A:Around} {E:Value→Shared→Prop} {i:Nat} {x:Str} {v:V} {u:Value} {Q:Unit→Shared→Prop} (I:Inv X pins σ H s) (hN:X.N.Nodup) (hi:X.N[i]?=some x) (hx:Loc X.env.scope x) (r:RelV v u)
    (h:∀ s',Inv X pins (σ.set i (some v)) H s'→Q () s') (hf:X.fn x=true∨X.env.scope.names.lookup x=some .local:=by first|exact .inl rfl|exact .inr rfl|assumption):wpAny M A (storeName X.env x u) Q E s:=
  store_ok2 I hN hi hx r (fun s' I' _=>h s' I') hf
theorem Inv.call' {s':Shared} {ch:List Addr} (I:Inv X pins σ H s) (ho:s'.os=s.os) (u:Un (frs X.stack) ch H H' s.heap s'.heap) (hok:HOk X.prog X.w H' s'.heap) (hg:AllBare s'.gens)
    (hch:∀ b∈ch,(b∈X.ex∨X.s₀.heap.objs.size≤b)∧b≠X.env.locals∧(∀ x c,X.env.cells.lookup x=some c→c≠b)∧∀ p∈X.pn++pins,p.1≠b):Inv X pins σ H' s':=by
  obtain ⟨h',g',d',t',o'⟩:=s'
  have e:o'=s.os:=ho
  subst e
  exact I.call (g':=g') (t':=t') (d':=d') u hok hg hch
end
abbrev XK:=Value→Option Addr→Hp→Prop
abbrev St:=List (Option V)
abbrev VK:=V→Hp→Prop
abbrev TE:=St→Hp→VK→Prop
abbrev TT:=St→Hp→(Bool→Hp→Prop)→Prop
abbrev TA:=St→Hp→(List V→Hp→Prop)→Prop
structure Ends where
  nx:St→Hp→Prop
  rt:VK
  bk:St→Hp→Prop:=fun _ _=>False
  ct:St→Hp→Prop:=fun _ _=>False
abbrev TS:=Ends→St→Hp→Prop
def EP (X:Cx) (pins:List (Addr×Obj)) (σ:St) (Q:VK) (u:Value) (s':Shared):Prop:=∃ v H',Inv X pins σ H' s'∧RelV v u∧Q v H'
def TP (X:Cx) (pins:List (Addr×Obj)) (σ:St) (Q:Bool→Hp→Prop) (b:Bool) (s':Shared):Prop:=∃ H',Inv X pins σ H' s'∧Q b H'
def AP (X:Cx) (pins:List (Addr×Obj)) (σ:St) (Q:List V→Hp→Prop) (us:List Value) (s':Shared):Prop:=∃ vs H',Inv X pins σ H' s'∧Vals vs us∧Q vs H'
def SP (X:Cx) (pins:List (Addr×Obj)) (D:Ends) (f:Flow) (s':Shared):Prop:=
  match f with
  |.next=>∃ σ' H',Inv X pins σ' H' s'∧D.nx σ' H'
  |.brk=>∃ σ' H',Inv X pins σ' H' s'∧D.bk σ' H'
  |.cont=>∃ σ' H',Inv X pins σ' H' s'∧D.ct σ' H'
  |.ret u=>∃ v σ' H',Inv X pins σ' H' s'∧RelV v u∧D.rt v H'
def PE (X:Cx) (e:Expr) (t:TE):Prop:=
  ∀ (pins:List (Addr×Obj)) (s:Shared) (σ:St) (H:Hp) (Q:VK),Inv X pins σ H s→t σ H Q→wpAny (model X.prog X.w) X.A (eval e X.env) (EP X pins σ Q) X.xe s
def PT (X:Cx) (e:Expr) (t:TT):Prop:=
  ∀ (pins:List (Addr×Obj)) (s:Shared) (σ:St) (H:Hp) (Q:Bool→Hp→Prop),Inv X pins σ H s→t σ H Q→wpAny (model X.prog X.w) X.A (isTrue e X.env (eval e X.env)) (TP X pins σ Q) X.xe s
def PW (X:Cx) (e:Expr) (t:TT):Prop:=
  ∀ (whole:Sem Value) (pins:List (Addr×Obj)) (s:Shared) (σ:St) (H:Hp) (Q:Bool→Hp→Prop),Inv X pins σ H s→t σ H Q→wpAny (model X.prog X.w) X.A (isTrue e X.env whole) (TP X pins σ Q) X.xe s
theorem PW.pt {X:Cx} {e:Expr} {t:TT} (h:PW X e t):PT X e t:=h _
def PA (X:Cx) (es:List Expr) (t:TA):Prop:=
  ∀ (pos:Pos) (pins:List (Addr×Obj)) (s:Shared) (σ:St) (H:Hp) (Q:List V→Hp→Prop),Inv X pins σ H s→t σ H Q→wpAny (model X.prog X.w) X.A (spliced (backTo pos (starEach es X.env))) (AP X pins σ Q) X.xe s
def PS (X:Cx) (st:Stmt) (t:TS):Prop:=
  ∀ (pins:List (Addr×Obj)) (s:Shared) (σ:St) (H:Hp) (D:Ends),Inv X pins σ H s→t D σ H→wpAny (model X.prog X.w) X.A (exec st X.env) (SP X pins D) X.xe s
def PSs (X:Cx) (st:List Stmt) (t:TS):Prop:=
  ∀ (pins:List (Addr×Obj)) (s:Shared) (σ:St) (H:Hp) (D:Ends),Inv X pins σ H s→t D σ H→wpAny (model X.prog X.w) X.A (execs st X.env) (SP X pins D) X.xe s
theorem thn {α:Type} {t:Sem α} {Q Q':α→Shared→Prop} {M:Model} {A:Around} {E:Value→Shared→Prop} {s:Shared} (h:wpAny M A t Q E s) (hQ:∀ a s,Q a s→Q' a s):wpAny M A t Q' E s:=wpAny_mono h hQ fun _ _ x=>x
end L2
namespace L2
open PySem PySem.Spec PyProof.Rows
section
variable {X:Cx}
theorem bin {a b:Expr} {ta tb:TE} (ha:PE X a ta) (hb:PE X b tb) {pins:List (Addr×Obj)} {s:Shared} {σ:St} {H:Hp} {R:V→V→Hp→Prop} (I:Inv X pins σ H s) (h:ta σ H fun x H1=>tb σ H1 fun y H2=>R x y H2)
    {α:Type} {Q:α→Shared→Prop} {f:Value→Value→Sem α}
    (hf:∀ v u s2 x y H2,Inv X pins σ H2 s2→RelV x v→RelV y u→R x y H2→wpAny (model X.prog X.w) X.A (f v u) Q X.xe s2) :
    wpAny (model X.prog X.w) X.A (eval a X.env) (fun v s₁=>wpAny (model X.prog X.w) X.A (eval b X.env) (fun u s₂=>wpAny (model X.prog X.w) X.A (f v u) Q X.xe s₂) X.xe s₁) X.xe s:=by
  refine thn (ha pins s σ H _ I h) fun v s1 ⟨x,H1,I1,r1,q1⟩=>?_
  refine thn (hb pins s1 σ H1 _ I1 q1) fun u s2 ⟨y,H2,I2,r2,q2⟩=>?_
  exact hf v u s2 x y H2 I2 r1 r2 q2
def tVar (i:Nat):TE:=fun σ H Q=>∃ v,σ[i]?=some (some v)∧Q v H
def tC (v:V):TE:=fun _ H Q=>Q v H
theorem pe_var {i:Nat} {x:Str} {pos:Pos} (hN:X.N[i]?=some x) (hv:Vis X.env.scope x) (hd:(x == ("__debug__" : Str))=false:=by decide) (hcd:(x == ("__classdict__" : Str))=false:=by decide):PE X (.Name x pos) (tVar i):=by
  intro pins s σ H Q I h
  obtain ⟨v,e,h⟩:=h
  obtain ⟨m,hn,hl⟩:=I.loc
  obtain ⟨u,r,l⟩:=hl i x v hN e hv
  have fin:EP X pins σ Q u s:=⟨v,H,I,r,h⟩
  rcases l with ⟨hk,hm⟩|⟨hk,c,hc,hcell⟩
  · exact wpAny_Name (wpAny_loadName_local I.ok.kind hk hn hm fin) hd
  · rcases hk with hk|hk
    · exact wpAny_Name (wpAny_loadName_cell I.ok.kind hk hc hcell fin) hd
    · exact wpAny_Name (wpAny_loadName_free I.ok.kind hk hc hcell fin hcd) hd
theorem pe_int {i j pos}:PE X (.Constant (.int i) j pos) (tC (.int i)):=fun _ _ _ H _ I h=>wpAny_Constant_int ⟨.int i,H,I.tok _,⟨_,rfl⟩,h⟩
theorem pe_bl {b j pos}:PE X (.Constant (.bool b) j pos) (tC (.bl b)):=fun _ _ _ H _ I h=>Constant_bool ⟨.bl b,H,I,rfl,h⟩
theorem pe_non {j pos}:PE X (.Constant .none j pos) (tC .non):=fun _ _ _ H _ I h=>Constant_none ⟨.non,H,I,rfl,h⟩
theorem pe_str {x j pos}:PE X (.Constant (.str x) j pos) (tC (.str x)):=fun _ _ _ H _ I h=>Calls.Constant_str ⟨.str x,H,I.tok _,⟨_,rfl⟩,h⟩
def Gl (X:Cx) (x:Str):Prop:=X.env.kindOf x=some .globalImplicit
theorem ld_glob {E:Value→Shared→Prop} {pins:List (Addr×Obj)} {s:Shared} {σ:St} {H:Hp} {x:Str} {u:Value} {pos:Pos} {Q:Value→Shared→Prop} (I:Inv X pins σ H s) (hg:Gl X x) (hm:X.mg x=some u) (h:Q u s)
    (hd:(x == ("__debug__" : Str))=false:=by decide):wpAny (model X.prog X.w) X.A (eval (.Name x pos) X.env) Q E s:=
  Calls.Name_function_global I.ok.kind hg (Calls.loadGlobal_global (by rw [I.ok.glob];exact I.mod.glob.keeps I.bk) hm h) hd
theorem ld_blt {E:Value→Shared→Prop} {pins:List (Addr×Obj)} {s:Shared} {σ:St} {H:Hp} {x:Str} {u:Value} {pos:Pos} {Q:Value→Shared→Prop} (I:Inv X pins σ H s) (hg:Gl X x) (hm:X.mg x=none) (hv:bootBuiltins x=some u) (h:Q u s)
    (hn:x ≠ "__name__":=by decide) (hd:(x == ("__debug__" : Str))=false:=by decide):wpAny (model X.prog X.w) X.A (eval (.Name x pos) X.env) Q E s:=by
  obtain ⟨mb,h1,h2⟩:=I.mod.blt
  exact Calls.Name_function_global I.ok.kind hg (Calls.loadGlobal_builtin (by rw [I.ok.glob];exact I.mod.glob.keeps I.bk) hm (by rw [I.ok.blt];exact h1.keeps I.bk) ((h2 x hn).trans hv) h) hd
theorem pe_glob {x:Str} {v:V} {u:Value} {pos:Pos} (hg:Gl X x) (hm:X.mg x=some u) (r:RelV v u) (hd:(x == ("__debug__" : Str))=false:=by decide):PE X (.Name x pos) (tC v):=
  fun _ _ _ H _ I h=>ld_glob I hg hm ⟨v,H,I,r,h⟩ hd
theorem pe_bltn {x:Str} {v:V} {u:Value} {pos:Pos} (hg:Gl X x) (hm:X.mg x=none) (hv:bootBuiltins x=some u) (r:RelV v u) (hn:x ≠ "__name__":=by decide) (hd:(x == ("__debug__" : Str))=false:=by decide):PE X (.Name x pos) (tC v):=
  fun _ _ _ H _ I h=>ld_blt I hg hm hv ⟨v,H,I,r,h⟩ hn hd
variable {a b:Expr} {ta tb:TE} {pos:Pos}
def PC (X:Cx) (op:CmpOp) (a b:Expr) (t:TE):Prop:=
  ∀ (pins:List (Addr×Obj)) (s:Shared) (σ:St) (H:Hp) (Q:VK),Inv X pins σ H s→t σ H Q→
    wpAny (model X.prog X.w) X.A (eval a X.env) (fun v s₁=>wpAny (model X.prog X.w) X.A (eval b X.env) (fun u s₂=>wpAny (model X.prog X.w) X.A (compareOp op v u) (EP X pins σ Q) X.xe s₂) X.xe s₁) X.xe s
def tB (t:TE):TT:=fun σ H Q=>t σ H fun x H1=>∃ c,x=.bl c∧Q c H1
theorem pt_cmp {op:CmpOp} {t:TE} (h:PC X op a b t) (h1:behindInMarks op b=false:=by first|exact nobehind _ (by decide) (by decide)|rfl):PT X (.Compare a [op] [b] pos) (tB t):=by
  intro pins s σ H Q I hw
  refine wpAny_isTrue_Compare1 (thn (h pins s σ H _ I hw) fun v s1 h1=>thn h1 fun u s2 h2=>thn h2 fun c s3 ⟨x,H1,I1,r1,q1⟩=>?_) h1
  obtain ⟨d,rfl,q⟩:=q1
  cases r1
  exact wpAny_truthy_bool ⟨H1,I1,q⟩
theorem pt_val {e:Expr} {t:TE} (h:PE X e t) (he:∀ whole,isTrue e X.env whole=(do let v ← whole;standAt e.pos;holding [v] (truthy v)):=by intro _;rfl):PT X e (tB t):=by
  intro pins s σ H Q I hw
  refine isTrue_plain (thn (h pins s σ H _ I hw) fun v s1 ⟨x,H1,I1,r1,q1⟩=>?_) (he _)
  obtain ⟨d,rfl,q⟩:=q1
  cases r1
  exact wpAny_truthy_bool ⟨H1,I1,q⟩
variable {tA tB':TT} {rest:List Expr}
def tAnd (t u:TT):TT:=fun σ H Q=>t σ H fun c H1=>if c=true then u σ H1 Q else Q false H1
def tOr (t u:TT):TT:=fun σ H Q=>t σ H fun c H1=>if c=true then Q true H1 else u σ H1 Q
def tNot (t:TT):TT:=fun σ H Q=>t σ H fun c H1=>Q (!c) H1
theorem pw_and1 (ha:PT X a tA):PW X (.BoolOp .And [a] pos) tA:=by
  intro wh pins s σ H Q I h
  refine isTrue_and (thn (ha pins s σ H Q I h) fun c s1 e=>?_)
  cases c with
  |true=>exact isTrue_and_nil e
  |false=>exact e
theorem pw_or1 (ha:PT X a tA):PW X (.BoolOp .Or [a] pos) tA:=by
  intro wh pins s σ H Q I h
  refine isTrue_or (thn (ha pins s σ H Q I h) fun c s1 e=>?_)
  cases c with
  |false=>exact isTrue_or_nil e
  |true=>exact e
theorem pw_and (ha:PT X a tA) (hb:PW X (.BoolOp .And (b::rest) pos) tB'):PW X (.BoolOp .And (a::b::rest) pos) (tAnd tA tB'):=by
  intro wh pins s σ H Q I h
  refine isTrue_and (thn (ha pins s σ H _ I h) fun c s1 ⟨H1,I1,q1⟩=>?_)
  cases c with
  |true=>exact hb wh pins s1 σ H1 Q I1 q1
  |false=>exact ⟨H1,I1,q1⟩
theorem pw_or (ha:PT X a tA) (hb:PW X (.BoolOp .Or (b::rest) pos) tB'):PW X (.BoolOp .Or (a::b::rest) pos) (tOr tA tB'):=by
  intro wh pins s σ H Q I h
  refine isTrue_or (thn (ha pins s σ H _ I h) fun c s1 ⟨H1,I1,q1⟩=>?_)
  cases c with
  |true=>exact ⟨H1,I1,q1⟩
  |false=>exact hb wh pins s1 σ H1 Q I1 q1
theorem pt_not (ha:PT X a tA):PT X (.UnaryOp .Not a pos) (tNot tA):=by
  intro pins s σ H Q I h
  exact isTrue_not (ha pins s σ H (fun c H1=>Q (!c) H1) I h)
def tAndV (ta tb:TE):TE:=fun σ H Q=>ta σ H fun x H1=>∃ c,x=.bl c∧if c=true then tb σ H1 Q else Q (.bl false) H1
theorem pe_one {op} {t:TE} (h:PE X a t):PE X (.BoolOp op [a] pos) t:=fun pins s σ H Q I hw=>BoolOp_one (h pins s σ H Q I hw)
theorem pe_and (ha:PE X a ta) (hb:PE X (.BoolOp .And (b::rest) pos) tb):PE X (.BoolOp .And (a::b::rest) pos) (tAndV ta tb):=by
  intro pins s σ H Q I h
  refine BoolOp_and (thn (ha pins s σ H _ I h) fun v s1 ⟨x,H1,I1,r1,q1⟩=>?_)
  obtain ⟨c,rfl,q1⟩:=q1
  cases r1
  refine wpAny_truthy_bool ?_
  cases c with
  |true=>exact hb pins s1 σ H1 Q I1 q1
  |false=>exact ⟨.bl false,H1,I1,rfl,q1⟩
def tIf (t:TT) (ta tb:TE):TE:=fun σ H Q=>t σ H fun c H1=>if c=true then ta σ H1 Q else tb σ H1 Q
theorem pe_ifExp {c:Expr} (hc:PT X c tA) (ha:PE X a ta) (hb:PE X b tb):PE X (.IfExp c a b pos) (tIf tA ta tb):=by
  intro pins s σ H Q I h
  refine wpAny_IfExp (thn (hc pins s σ H _ I h) fun d s1 ⟨H1,I1,q1⟩=>?_)
  cases d with
  |true=>exact ha pins s1 σ H1 Q I1 q1
  |false=>exact hb pins s1 σ H1 Q I1 q1
end
end L2
namespace L2
open PySem PySem.Spec PyProof.Rows
def SqL (K:PySem.W.Frag) (H:Hp) (a:Addr) (xs:List V):Prop:=
  Rd H a (.lst xs)∨
    ∃ (o:Obj) (its:Array Value) (n:Nat),K.lookup a=some o∧o.cls=.type "list"∧o.dict=none∧o.data=.seq its n∧its.size≤sizeLine∧Vals xs its.toList
def SqT (K:PySem.W.Frag) (H:Hp) (a:Addr) (xs:List V):Prop:=
  Rd H a (.tup xs)∨
    ∃ (o:Obj) (its:Array Value) (n:Nat),K.lookup a=some o∧o.cls=.type "tuple"∧o.data=.seq its n∧its.size≤sizeLine∧Vals xs its.toList
def absV:Value→Option V
  |.none=>some .non
  |.bool b=>some (.bl b)
  |.int i _=>some (.int i)
  |.str x _=>some (.str x)
  |.bytes b _=>some (.byt b)
  |.float b _=>some (.flt b)
  |.ref a=>some (.ref a)
  |.type n=>some (.ty n)
  |_=>none
theorem RelV.abs {x:V} {u:Value} (r:RelV x u):absV u=some x:=by
  cases x with
  |non=>cases r;rfl
  |bl _=>cases r;rfl
  |int _=>obtain ⟨t,rfl⟩:=r;rfl
  |str _=>obtain ⟨t,rfl⟩:=r;rfl
  |byt _=>obtain ⟨t,rfl⟩:=r;rfl
  |flt _=>obtain ⟨t,rfl⟩:=r;rfl
  |ref _=>cases r;rfl
  |ty _=>cases r;rfl
theorem RelV.inj {x y:V} {u:Value} (r:RelV x u) (q:RelV y u):x=y:=Option.some.inj (r.abs.symm.trans q.abs)
theorem Vals.inj:∀ {xs ys:List V} {us:List Value},Vals xs us→Vals ys us→xs=ys
  |_,_,_,.nil,.nil=>rfl
  |_,_,_,.cons r t,.cons r' t'=>by rw [r.inj r',Vals.inj t t']
section
variable {X:Cx} {pins:List (Addr×Obj)} {σ:St} {H:Hp} {s:Shared} {a:Addr} {xs ys:List V}
theorem SqL.of {K:PySem.W.Frag} (h:H a=some (.lst xs)):SqL K H a xs:=.inl (.inl h)
theorem SqT.of {K:PySem.W.Frag} (h:H a=some (.tup xs)):SqT K H a xs:=.inl (.inl h)
theorem Inv.list (I:Inv X pins σ H s) (h:SqL X.K H a xs):∃ its:List Value,Vals xs its∧PlainL s.heap a its.toArray∧xs.length≤sizeLine:=by
  rcases h with h|⟨o,its,n,hk,hc,hd,hs,hz,r⟩
  · obtain ⟨z,its,n,r,e⟩:=h.ok I.hok
    exact ⟨its,r,⟨_,n,e,rfl,rfl,rfl⟩,z⟩
  · refine ⟨its.toList,r,⟨o,n,I.kIn a o hk,hc,hd,by simpa using hs⟩,?_⟩
    have e:=r.length
    simp only [Array.length_toList] at e
    omega
theorem Inv.tuple (I:Inv X pins σ H s) (h:SqT X.K H a xs):∃ its:List Value,Vals xs its∧IsTup s.heap a its.toArray∧xs.length≤sizeLine:=by
  rcases h with h|⟨o,its,n,hk,hc,hs,hz,r⟩
  · obtain ⟨z,its,r,p⟩:=h.ok I.hok
    exact ⟨its,r,p,z⟩
  · refine ⟨its.toList,r,⟨o,I.kIn a o hk,hc,n,by simpa using hs⟩,?_⟩
    have e:=r.length
    simp only [Array.length_toList] at e
    omega
theorem Inv.list_inj (I:Inv X pins σ H s) (h:SqL X.K H a xs) (h':SqL X.K H a ys):xs=ys:=by
  obtain ⟨its,r,⟨o,n,e,_,_,d⟩,_⟩:=I.list h
  obtain ⟨its',r',⟨o',n',e',_,_,d'⟩,_⟩:=I.list h'
  rw [e] at e';cases e'
  rw [d] at d'
  injection d' with d1 _
  have:its=its':=by simpa using congrArg Array.toList d1
  subst this
  exact r.inj r'
theorem Inv.tuple_inj (I:Inv X pins σ H s) (h:SqT X.K H a xs) (h':SqT X.K H a ys):xs=ys:=by
  obtain ⟨its,r,⟨o,e,_,n,d⟩,_⟩:=I.tuple h
  obtain ⟨its',r',⟨o',e',_,n',d'⟩,_⟩:=I.tuple h'
  rw [e] at e';cases e'
  rw [d] at d'
  injection d' with d1 _
  have:its=its':=by simpa using congrArg Array.toList d1
  subst this
  exact r.inj r'
end
abbrev Cx.wish (X:Cx) (E:Value→Shared→Prop):Cx:={ X with xe:=E }
abbrev Cx.nox (X:Cx):Cx:=X.wish fun _ _=>False
theorem Cx.Ok.wish {X:Cx} (ok:X.Ok) (E:Value→Shared→Prop):(X.wish E).Ok:=
  ⟨ok.mod,ok.kind,ok.glob,ok.blt,ok.above,ok.inj,ok.has,ok.cab,ok.hd,ok.frames,ok.stk,ok.exf,ok.bs,ok.bsz,ok.noex,ok.exfs,ok.funs,ok.frf⟩
theorem Cx.Ok.unwish {X:Cx} {E:Value→Shared→Prop} (ok:(X.wish E).Ok):X.Ok:=
  ⟨ok.mod,ok.kind,ok.glob,ok.blt,ok.above,ok.inj,ok.has,ok.cab,ok.hd,ok.frames,ok.stk,ok.exf,ok.bs,ok.bsz,ok.noex,ok.exfs,ok.funs,ok.frf⟩
section
variable {X:Cx} {pins:List (Addr×Obj)} {σ:St} {H:Hp} {s:Shared} {E:Value→Shared→Prop}
theorem Inv.wish (I:Inv X pins σ H s) (E:Value→Shared→Prop):Inv (X.wish E) pins σ H s:=⟨I.ok.wish E,I.os,I.bare,I.base,I.loc,I.cell,I.free,I.freeC,I.pin,I.hok,I.len⟩
theorem Inv.unwish (I:Inv (X.wish E) pins σ H s):Inv X pins σ H s:=⟨I.ok.unwish,I.os,I.bare,I.base,I.loc,I.cell,I.free,I.freeC,I.pin,I.hok,I.len⟩
theorem SP.unwish {D:Ends} {f:Flow} {s':Shared} (h:SP (X.wish E) pins D f s'):SP X pins D f s':=by
  cases f with
  |next=>obtain ⟨σ',H',I,q⟩:=h;exact ⟨σ',H',I.unwish,q⟩
  |brk=>obtain ⟨σ',H',I,q⟩:=h;exact ⟨σ',H',I.unwish,q⟩
  |cont=>obtain ⟨σ',H',I,q⟩:=h;exact ⟨σ',H',I.unwish,q⟩
  |ret u=>obtain ⟨v,σ',H',I,r,q⟩:=h;exact ⟨v,σ',H',I.unwish,r,q⟩
theorem PSs.nox {st:List Stmt} {t:TS} (h:PSs X.nox st t):PSs X st t:=fun pins s σ H D I hw=>
  wpAny_mono (h pins s σ H D (I.wish _) hw) (fun _ _ q=>q.unwish) fun _ _ z=>False.elim z
end
section
variable {X:Cx} {st:Stmt} {rest:List Stmt} {t u:TS} {e:Expr} {te:TE} {pos:Pos}
def tNext:TS:=fun D σ H=>D.nx σ H
def tSeq (t u:TS):TS:=fun D σ H=>t { D with nx:=u D } σ H
theorem pss_nil:PSs X [] tNext:=fun _ _ σ H _ I h=>wpAny_execs_nil ⟨σ,H,I,h⟩
theorem pss_cons (h1:PS X st t) (h2:PSs X rest u):PSs X (st::rest) (tSeq t u):=by
  intro pins s σ H D I h
  refine wpAny_execs_cons (thn (h1 pins s σ H { D with nx:=u D } I h) fun f s1 q=>?_)
  cases f with
  | next=>
    obtain ⟨σ',H',I',q⟩:=q
    exact h2 pins s1 σ' H' D I' q
  |ret v=>exact q
  |brk=>exact q
  |cont=>exact q
theorem pss_one (h1:PS X st t):PSs X [st] t:=by
  intro pins s σ H D I h
  refine wpAny_execs_cons (thn (h1 pins s σ H D I h) fun f s1 q=>?_)
  cases f with
  |next=>exact wpAny_execs_nil q
  |ret v=>exact q
  |brk=>exact q
  |cont=>exact q
theorem Inv.quiet {pins:List (Addr×Obj)} {σ:St} {H:Hp} {s:Shared} (I:Inv X pins σ H s):interactive X.env=false:=by simp [interactive,I.ok.kind]
def tDrop (te:TE):TS:=fun D σ H=>te σ H fun _ H1=>D.nx σ H1
theorem ps_expr (he:PE X e te) (hs:swapsWith e none pos.line X.env=pure false:=by rfl):PS X (.Expr e pos) (tDrop te):=by
  intro pins s σ H D I h
  exact wpAny_Expr_any (thn (he pins s σ H _ I h) fun v s1 ⟨x,H1,I1,r1,q1⟩=>⟨σ,H1,I1,q1⟩) I.quiet hs
def tRet (te:TE):TS:=fun D σ H=>te σ H D.rt
theorem ps_ret (he:PE X e te):PS X (.Return (some e) pos) (tRet te):=by
  intro pins s σ H D I h
  exact wpAny_Return_some (thn (he pins s σ H _ I h) fun v s1 ⟨x,H1,I1,r1,q1⟩=>⟨x,σ,H1,I1,r1,q1⟩)
def tIfS (c:TT) (t u:TS):TS:=fun D σ H=>c σ H fun b H1=>if b=true then t D σ H1 else u D σ H1
theorem ps_if {c:Expr} {a b:List Stmt} {tc:TT} (hc:PT X c tc) (ha:PSs X a t) (hb:PSs X b u):PS X (.If c a b pos) (tIfS tc t u):=by
  intro pins s σ H D I h
  refine wpAny_If (thn (hc pins s σ H _ I h) fun d s1 ⟨H1,I1,q1⟩=>?_)
  cases d with
  |true=>exact ha pins s1 σ H1 D I1 q1
  |false=>exact hb pins s1 σ H1 D I1 q1
def tNever:TS:=fun _ _ _=>False
theorem ps_never:PS X st tNever:=fun _ _ _ _ _ _ h=>h.elim
end
abbrev TG:=V→St→Hp→(St→Hp→Prop)→Prop
abbrev TGs:=List V→St→Hp→(St→Hp→Prop)→Prop
def PG (X:Cx) (target:Expr) (t:TG):Prop:=
  ∀ (pins:List (Addr×Obj)) (s:Shared) (σ:St) (H:Hp) (v:V) (u:Value) (Q:St→Hp→Prop),Inv X pins σ H s→RelV v u→t v σ H Q→
    wpAny (model X.prog X.w) X.A (assign target X.env u) (fun _ s'=>∃ σ' H',Inv X pins σ' H' s'∧Q σ' H') X.xe s
def PGs (X:Cx) (ts:List Expr) (t:TGs):Prop:=
  ∀ (pins:List (Addr×Obj)) (s:Shared) (σ:St) (H:Hp) (vs:List V) (us:List Value) (Q:St→Hp→Prop),Inv X pins σ H s→Vals vs us→t vs σ H Q→
    wpAny (model X.prog X.w) X.A (assignInOrder ((assignEach ts X.env).map (·.2)) us) (fun _ s'=>∃ σ' H',Inv X pins σ' H' s'∧Q σ' H') X.xe s
abbrev TSet:=V→V→V→Hp→(Hp→Prop)→Prop
def PSet (X:Cx) (t:TSet):Prop:=
  ∀ (pins:List (Addr×Obj)) (s:Shared) (σ:St) (H:Hp) (o i v:V) (ov iv u:Value) (Q:Hp→Prop),Inv X pins σ H s→RelV o ov→RelV i iv→RelV v u→t o i v H Q→
    wpAny (model X.prog X.w) X.A (setItem ov iv u) (fun _ s'=>∃ H',Inv X pins σ H' s'∧Q H') X.xe s
section
variable {X:Cx} {pos:Pos}
def gName (i:Nat):TG:=fun v σ H Q=>Q (σ.set i (some v)) H
theorem pg_name {i:Nat} {x:Str} (hN:X.N.Nodup) (hi:X.N[i]?=some x) (hx:Loc X.env.scope x) (hf:X.fn x=true∨X.env.scope.names.lookup x=some .local:=by first|exact .inl rfl|exact .inr rfl|assumption):PG X (.Name x pos) (gName i):=by
  intro pins s σ H v u Q I r h
  exact wpAny_assign_Name (store_ok I hN hi hx r (fun s' I'=>⟨_,H,I',h⟩) hf)
def gNil:TGs:=fun vs σ H Q=>vs=[]∧Q σ H
def gCons (t:TG) (u:TGs):TGs:=fun vs σ H Q=>∃ v r,vs=v::r∧t v σ H fun σ' H'=>u r σ' H' Q
theorem pgs_nil:PGs X [] gNil:=by
  intro pins s σ H vs us Q I r h
  obtain ⟨e,h⟩:=h
  subst e
  cases r
  exact assignInOrder_nil ⟨σ,H,I,h⟩
theorem pgs_cons {e:Expr} {es:List Expr} {t:TG} {u:TGs} (h1:PG X e t) (h2:PGs X es u)
    (hs:(assignEach (e::es) X.env).map (·.2)=assign e X.env::(assignEach es X.env).map (·.2):=by rfl):PGs X (e::es) (gCons t u):=by
  intro pins s σ H vs us Q I r h
  obtain ⟨v,vr,e1,h⟩:=h
  subst e1
  cases r with
  | cons r rr=>
    rw [hs]
    refine assignInOrder_cons (thn (h1 pins s σ H _ _ _ I r h) fun _ s1 ⟨σ1,H1,I1,q1⟩=>?_)
    exact h2 pins s1 σ1 H1 _ _ Q I1 rr q1
def gTup (K:PySem.W.Frag) (n:Nat) (t:TGs):TG:=fun v σ H Q=>∃ a xs,v=.ref a∧SqT K H a xs∧xs.length=n∧t xs σ H Q
theorem pg_tup {es:List Expr} {k:Nat} {t:TGs} {n:Nat} (hc:X.calm=true) (h:PGs X es t)
    (hn:(assignEach es X.env).length=n:=by rfl) (hst:(assignEach es X.env).findIdx? (·.1)=none:=by rfl):PG X (.Tuple es k pos) (gTup X.K n t):=by
  intro pins s σ H v u Q I r hw
  obtain ⟨a,xs,e1,hq,hl,hw⟩:=hw
  subst e1
  cases r
  obtain ⟨its,rv,ht,hz⟩:=I.tuple hq
  refine assign_Tuple_tuple (I.ok.hd hc) ht (by simp [hn,← hl,rv.length]) hst fun h' hx=>?_
  have I1:Inv X pins σ H { s with heap:=h' }:=I.kept (t':=s.toks) fun b o e=>hx b o (Nat.ne_of_lt (Heap.lt_size e)) e
  exact h pins _ σ H xs _ Q I1 (by simpa using rv) hw
def gSub (to ti:TE) (t:TSet):TG:=fun v σ H Q=>to σ H fun o H1=>ti σ H1 fun i H2=>t o i v H2 fun H3=>Q σ H3
theorem pg_sub {o i:Expr} {to ti:TE} {t:TSet} (ho:PE X o to) (hi:PE X i ti) (hs:PSet X t)
    (ha:∀ v,assign (.Subscript o i pos) X.env v=(do
      let ov ← holding [v] (eval o X.env)
      let iv ← holding [v,ov] (eval i X.env)
      standAt pos
      holding [v,ov,iv] (setItem ov iv v)
      release [v,ov,iv] []):=by intro _;rfl):PG X (.Subscript o i pos) (gSub to ti t):=by
  intro pins s σ H v u Q I r h
  rw [ha]
  refine wpAny_bind (wpAny_holding (thn (ho pins s σ H _ I h) fun ov s1 ⟨x,H1,I1,r1,q1⟩=>?_))
  refine wpAny_bind (wpAny_holding (thn (hi pins s1 σ H1 _ I1 q1) fun iv s2 ⟨y,H2,I2,r2,q2⟩=>?_))
  refine wpAny_bind (wpAny_standAt (wpAny_bind (wpAny_holding (thn (hs pins s2 σ H2 x y v ov iv u _ I2 r1 r2 r q2) fun _ s3 ⟨H3,I3,q3⟩=>?_))))
  exact wpAny_release ⟨σ,H3,I3,q3⟩
def tAsg (te:TE) (g:TG):TS:=fun D σ H=>te σ H fun x H1=>g x σ H1 D.nx
theorem ps_asg {tg e:Expr} {te:TE} {g:TG} (he:PE X e te) (hg:PG X tg g) (hs:swapsWithSole [tg] e pos.line X.env=pure false:=by rfl) (hw:swappedStores [tg] e X.env=pure none:=by rfl)
    (h1:(assignEach [tg] X.env).map (·.2)=[assign tg X.env]:=by rfl):PS X (.Assign [tg] e pos) (tAsg te g):=by
  intro pins s σ H D I h
  refine wpAny_Assign_stores (thn (he pins s σ H _ I h) fun v s1 ⟨x,H1,I1,r1,q1⟩=>?_) hs hw
  rw [h1]
  exact thn (hg pins s1 σ H1 x v _ I1 r1 q1) fun _ s2 q=>q
theorem ps_set {i:Nat} {x:Str} {e:Expr} {te:TE} {pos':Pos} (hN:X.N.Nodup) (hi:X.N[i]?=some x) (hx:Loc X.env.scope x) (he:PE X e te) (hs:swapsWith e (some (.Name x pos')) pos.line X.env=pure false:=by rfl) (hf:X.fn x=true∨X.env.scope.names.lookup x=some .local:=by first|exact .inl rfl|exact .inr rfl|assumption) :
    PS X (.Assign [.Name x pos'] e pos) (tAsg te (gName i)):=by
  intro pins s σ H D I h
  refine wpAny_Assign_Name (thn (he pins s σ H _ I h) fun v s1 ⟨y,H1,I1,r1,q1⟩=>?_) hs
  exact store_ok I1 hN hi hx r1 (fun s2 I2=>⟨_,H1,I2,q1⟩) hf
end
section
variable {X:Cx} {pos:Pos}
end
structure It where
  go:Nat→Hp→Prop
  yld:Nat→Hp→V→Hp→Prop
  stop:Nat→Hp→Prop
def FpOk (X:Cx) (pins:List (Addr×Obj)) (H:Hp) (b:Addr):Prop:=
  H b=none∧b≠X.env.locals∧b∉X.fs∧(b∈X.ex∨X.s₀.heap.objs.size≤b)∧(∀ x c,X.env.cells.lookup x=some c→c≠b)∧∀ p∈X.pn++pins,p.1≠b
theorem Inv.fpOk {X:Cx} {pins:List (Addr×Obj)} {σ:St} {H H':Hp} {s:Shared} {b:Addr} (I:Inv X pins σ H s) (hb:s.heap.objs.size≤b) (hn:H' b=none):FpOk X pins H' b:=by
  refine ⟨hn,Nat.ne_of_gt (Nat.lt_of_lt_of_le I.lt hb),I.nofs hb,.inr (Nat.le_trans I.sz hb),fun x c e z=>?_,fun p hp z=>?_⟩
  · obtain ⟨v,q⟩:=I.cell x c e
    exact absurd (Nat.lt_of_lt_of_le q.lt (by rw [z];exact hb)) (Nat.lt_irrefl _)
  · exact absurd (Nat.lt_of_lt_of_le (Heap.lt_size (I.pin p hp).1) (by rw [z];exact hb)) (Nat.lt_irrefl _)
structure Turn (P:Program) (w:World) (K:PySem.W.Frag) (tg:Expr) (J:It) (fp:List Addr) (it:Addr) (tn:Nat→Heap→Prop):Prop where
  mem:it∈fp
  obj:∀ i h,tn i h→∀ b∈fp,∃ o,h.get? b=some o∧∀ v,o.data≠.cell v
  keep:∀ i h h',tn i h→(∀ b∈fp,∀ o,h.get? b=some o→h'.get? b=some o)→tn i h'
  item:∀ (X:Cx),X.prog=P→X.w=w→X.K=K→X.calm=true→∀ (i:Nat) (pins:List (Addr×Obj)) (s:Shared) (σ:St) (H:Hp) (E:Value→Shared→Prop),Inv X pins σ H s→(∀ b∈fp,FpOk X pins H b)→tn i s.heap→J.go i H→
    wpAny (model P w) X.A (pyNext (.ref it)) (fun r s1=>∃ u,r=some u∧
      wpAny (model P w) X.A (letOwnedTupleGo tg (.ref it) u) (fun _ s2=>∃ x H',Inv X pins σ H' s2∧RelV x u∧J.yld i H x H'∧tn (i+1) s2.heap∧∀ b∈fp,H' b=none) E s1) E s
  done:∀ (X:Cx),X.prog=P→X.w=w→X.K=K→X.calm=true→∀ (i:Nat) (pins:List (Addr×Obj)) (s:Shared) (σ:St) (H:Hp) (E:Value→Shared→Prop),Inv X pins σ H s→(∀ b∈fp,FpOk X pins H b)→tn i s.heap→J.stop i H→
    wpAny (model P w) X.A (pyNext (.ref it)) (fun r s1=>r=none∧Inv X pins σ H s1) E s
  self:∀ (A:Around) (i:Nat) (s:Shared) (Q:Value→Shared→Prop) (E:Value→Shared→Prop),tn i s.heap→Q (.ref it) s→wpAny (model P w) A (pyIter (.ref it)) Q E s
abbrev TI:=St→Hp→(It→Hp→Prop)→Prop
def PIE (X:Cx) (pins:List (Addr×Obj)) (σ:St) (tg:Expr) (R:It→Hp→Prop) (itv:Value) (s2:Shared):Prop:=
  ∃ (it:Addr) (fp:List Addr) (tn:Nat→Heap→Prop) (J:It) (H':Hp),itv=.ref it∧Inv X pins σ H' s2∧Turn X.prog X.w X.K tg J fp it tn∧tn 0 s2.heap∧(∀ b∈fp,FpOk X pins H' b)∧R J H'
def PI (X:Cx) (tg iter:Expr) (wi:TI):Prop:=
  ∀ (pins:List (Addr×Obj)) (s:Shared) (σ:St) (H:Hp) (R:It→Hp→Prop),Inv X pins σ H s→wi σ H R→
    wpAny (model X.prog X.w) X.A (eval iter X.env) (fun v s1=>wpAny (model X.prog X.w) X.A (pyIter v) (PIE X pins σ tg R) X.xe s1) X.xe s
theorem go_of {M:Model} {A:Around} {E:Value→Shared→Prop} {s:Shared} {tg:Expr} {it:Addr} {u:Value} {o:Obj} {n:String} {vs:Array Value} {Q:Unit→Shared→Prop} (ho:s.heap.get? it=some o) (hc:o.cls=.type n) (hd:o.data=.fields vs)
    (hn:["enumerate","zip","dict_itemiterator","dict_reverseitemiterator","odict_iterator","itertools.zip_longest","itertools.pairwise"].contains n=false) (hQ:Q () s):wpAny M A (letOwnedTupleGo tg (.ref it) u) Q E s:=by
  unfold letOwnedTupleGo
  cases tg <;> first
    |exact wpAny_pure hQ
    |(cases u <;> first
        |exact wpAny_pure hQ
        | (refine wpAny_bind (wpAny_load ho ?_)
           rw [hc,hd]
           show wpAny M A (if (["enumerate","zip","dict_itemiterator","dict_reverseitemiterator","odict_iterator","itertools.zip_longest","itertools.pairwise"].contains n && vs[0]? == some (rawInt _))=true then _ else _) Q E s
           rw [if_neg (by intro h;rw [hn,Bool.false_and] at h;cases h)]
           exact wpAny_pure hQ))
def Itl (K:PySem.W.Frag) (a:Addr):It:=
  ⟨fun i H=>∃ xs x,SqL K H a xs∧xs[i]?=some x,fun i H x H'=>H'=H∧∀ xs,SqL K H a xs→xs[i]?=some x,fun i H=>∃ xs,SqL K H a xs∧xs.length≤i⟩
def Itt (K:PySem.W.Frag) (a:Addr):It:=
  ⟨fun i H=>∃ xs x,SqT K H a xs∧xs[i]?=some x,fun i H x H'=>H'=H∧∀ xs,SqT K H a xs→xs[i]?=some x,fun i H=>∃ xs,SqT K H a xs∧xs.length≤i⟩
def Itr (lo:Int) (n:Nat):It:=⟨fun i _=>i<n,fun i H x H'=>H'=H∧x=.int (lo+i),fun i _=>n≤i⟩
theorem turn_list {P:Program} {w:World} {K:PySem.W.Frag} {tg:Expr} (a it:Addr):Turn P w K tg (Itl K a) [it] it (fun i h=>h.IsListIter it a i) where
  mem:=by simp
  obj:=fun i h st b hb=>by
    have e:b=it:=by simpa using hb
    subst e
    obtain ⟨o,e,c,d⟩:=st
    exact ⟨o,e,fun v z=>by rw [d] at z;cases z⟩
  keep:=fun i h h' st k=>st.at fun o e=>k it (by simp) o e
  item:=by
    intro X hP hw hK hc i pins s σ H E I hf st hg
    subst hP hw hK
    obtain ⟨xs,x,hq,hx⟩:=hg
    obtain ⟨its,rv,p,hz⟩:=I.list hq
    obtain ⟨u,hu,ru⟩:=rv.get hx
    obtain ⟨f0,f1,f2,f3,f4,f5⟩:=hf it (by simp)
    refine wpAny_pyNext_list_item st p.isList (x:=u) (by simpa using hu) fun h' st' sb=>?_
    have I1:Inv X pins σ H { s with heap:=h' }:=I.turned (t':=s.toks) (fun b o hb e=>(sb.2 b hb).trans e) f0 f1 f3 f4 f5
    obtain ⟨o,e,c,d⟩:=id st'
    exact ⟨u,rfl,go_of (s:={ s with heap:=h' }) e c d (by decide) ⟨x,H,I1,ru,⟨rfl,fun ys hy=>by rw [I.list_inj hy hq];exact hx⟩,st',fun b hb=>(hf b hb).1⟩⟩
  done:=by
    intro X hP hw hK hc i pins s σ H E I hf st hg
    subst hP hw hK
    obtain ⟨xs,hq,hx⟩:=hg
    obtain ⟨its,rv,p,hz⟩:=I.list hq
    obtain ⟨f0,f1,f2,f3,f4,f5⟩:=hf it (by simp)
    have hl:=rv.length
    exact wpAny_pyNext_list_end (I.ok.hd hc) st p.isList (by simp;omega) fun h' eb=>⟨rfl,I.turned (t':=s.toks) (fun b o hb e=>eb b o hb e) f0 f1 f3 f4 f5⟩
  self:=fun _ _ _ _ _ st h=>wpAny_pyIter_listiter st h
theorem turn_tuple {P:Program} {w:World} {K:PySem.W.Frag} {tg:Expr} (a it:Addr):Turn P w K tg (Itt K a) [it] it (fun i h=>h.IsTupleIter it a i) where
  mem:=by simp
  obj:=fun i h st b hb=>by
    have e:b=it:=by simpa using hb
    subst e
    obtain ⟨o,e,c,d⟩:=st
    exact ⟨o,e,fun v z=>by rw [d] at z;cases z⟩
  keep:=fun i h h' st k=>st.at fun o e=>k it (by simp) o e
  item:=by
    intro X hP hw hK hc i pins s σ H E I hf st hg
    subst hP hw hK
    obtain ⟨xs,x,hq,hx⟩:=hg
    obtain ⟨its,rv,p,hz⟩:=I.tuple hq
    obtain ⟨u,hu,ru⟩:=rv.get hx
    obtain ⟨f0,f1,f2,f3,f4,f5⟩:=hf it (by simp)
    refine wpAny_pyNext_tuple_item st (show s.heap.IsTuple a its.toArray from p) (x:=u) (by simpa using hu) fun h' st' sb=>?_
    have I1:Inv X pins σ H { s with heap:=h' }:=I.turned (t':=s.toks) (fun b o hb e=>(sb.2 b hb).trans e) f0 f1 f3 f4 f5
    obtain ⟨o,e,c,d⟩:=id st'
    exact ⟨u,rfl,go_of (s:={ s with heap:=h' }) e c d (by decide) ⟨x,H,I1,ru,⟨rfl,fun ys hy=>by rw [I.tuple_inj hy hq];exact hx⟩,st',fun b hb=>(hf b hb).1⟩⟩
  done:=by
    intro X hP hw hK hc i pins s σ H E I hf st hg
    subst hP hw hK
    obtain ⟨xs,hq,hx⟩:=hg
    obtain ⟨its,rv,p,hz⟩:=I.tuple hq
    obtain ⟨f0,f1,f2,f3,f4,f5⟩:=hf it (by simp)
    have hl:=rv.length
    exact wpAny_pyNext_tuple_end (I.ok.hd hc) st (show s.heap.IsTuple a its.toArray from p) (by simp;omega) fun h' eb=>⟨rfl,I.turned (t':=s.toks) (fun b o hb e=>eb b o hb e) f0 f1 f3 f4 f5⟩
  self:=fun _ _ _ _ _ st h=>wpAny_pyIter_tupleiter st h
theorem turn_range {P:Program} {w:World} {K:PySem.W.Frag} {tg:Expr} (it:Addr) (lo:Int) (n:Nat):Turn P w K tg (Itr lo n) [it] it (fun i h=>IsRangeIter h it (lo+(i:Nat)*1) ((n:Int)-(i:Nat)) 1) where
  mem:=by simp
  obj:=fun i h st b hb=>by
    have e:b=it:=by simpa using hb
    subst e
    exact ⟨_,st,fun v z=>by
      have z':Data.fields _=Data.cell v:=z
      cases z'⟩
  keep:=fun i h h' st k=>k it (by simp) _ st
  item:=by
    intro X hP hw hK hc i pins s σ H E I hf st hg
    subst hP hw hK
    obtain ⟨f0,f1,f2,f3,f4,f5⟩:=hf it (by simp)
    have W:=Walks.range (prog:=X.prog) (w:=X.w) (I.ok.hd hc) it lo 1 n
    refine W.item i s _ _ hg st fun v h' tk hv st' kk=>?_
    obtain ⟨t,rfl⟩:=hv
    have I1:Inv X pins σ H { s with heap:=h',toks:=tk }:=I.turned (fun b o hb e=>kk b o (by simpa using hb) e) f0 f1 f3 f4 f5
    refine ⟨_,rfl,go_of (s:={ s with heap:=h',toks:=tk }) (n:="range_iterator") st' rfl rfl (by decide) ⟨.int (lo+i),H,I1,⟨t,?_⟩,⟨rfl,rfl⟩,st',fun b hb=>(hf b hb).1⟩⟩
    rw [Int.mul_one]
  done:=by
    intro X hP hw hK hc i pins s σ H E I hf st hg
    subst hP hw hK
    obtain ⟨f0,f1,f2,f3,f4,f5⟩:=hf it (by simp)
    exact wpAny_pyNext_range_end (I.ok.hd hc) st (by have:n≤i:=hg;omega) fun h' eb=>⟨rfl,I.turned (t':=s.toks) (fun b o hb e=>eb b o hb e) f0 f1 f3 f4 f5⟩
  self:=fun _ _ _ _ _ st h=>wpAny_pyIter_rangeiter st h
end L2
namespace L2
open PySem PySem.Spec PyProof.Rows
section
variable {X:Cx} {tg:Expr}
def iList (K:PySem.W.Frag) (tl:TE):TI:=fun σ H R=>tl σ H fun x H1=>∃ a,x=.ref a∧(∃ xs,SqL K H1 a xs)∧R (Itl K a) H1
def iTup (K:PySem.W.Frag) (tl:TE):TI:=fun σ H R=>tl σ H fun x H1=>∃ a,x=.ref a∧(∃ xs,SqT K H1 a xs)∧R (Itt K a) H1
theorem pi_list {l:Expr} {tl:TE} (hl:PE X l tl):PI X tg l (iList X.K tl):=by
  intro pins s σ H R I h
  refine thn (hl pins s σ H _ I h) fun v s1 ⟨x,H1,I1,r1,q1⟩=>?_
  obtain ⟨a,e,⟨xs,hq⟩,q⟩:=q1
  subst e
  cases r1
  obtain ⟨its,rv,p,hz⟩:=I1.list hq
  refine wpAny_pyIter_list p.isList ?_
  refine ⟨s1.heap.objs.size,[s1.heap.objs.size],_,_,H1,rfl,I1.kept (t':=s1.toks) fun b o e=>Heap.get?_push_of_some _ e,turn_list a _,⟨_,Heap.get?_push_size _ rfl,rfl,rfl⟩,fun b hb=>?_,q⟩
  have e:b=s1.heap.objs.size:=by simpa using hb
  subst e
  exact I1.fpOk (Nat.le_refl _) (I1.hok.fresh (Nat.le_refl _))
theorem pi_tup {l:Expr} {tl:TE} (hl:PE X l tl):PI X tg l (iTup X.K tl):=by
  intro pins s σ H R I h
  refine thn (hl pins s σ H _ I h) fun v s1 ⟨x,H1,I1,r1,q1⟩=>?_
  obtain ⟨a,e,⟨xs,hq⟩,q⟩:=q1
  subst e
  cases r1
  obtain ⟨its,rv,p,hz⟩:=I1.tuple hq
  refine wpAny_pyIter_tuple (show s1.heap.IsTuple a its.toArray from p) ?_
  refine ⟨s1.heap.objs.size,[s1.heap.objs.size],_,_,H1,rfl,I1.kept (t':=s1.toks) fun b o e=>Heap.get?_push_of_some _ e,turn_tuple a _,⟨_,Heap.get?_push_size _ rfl,rfl,rfl⟩,fun b hb=>?_,q⟩
  have e:b=s1.heap.objs.size:=by simpa using hb
  subst e
  exact I1.fpOk (Nat.le_refl _) (I1.hok.fresh (Nat.le_refl _))
theorem range_it {pins:List (Addr×Obj)} {σ:St} {H:Hp} {s:Shared} {R:It→Hp→Prop} {E:Value→Shared→Prop} {lo hi:Int} {t u v:Tok} {tk:Nat} (I:Inv X pins σ H s) (h1:-(2 ^ 62)≤lo) (h2:lo<2 ^ 62) (h3:-(2 ^ 62)≤hi) (h4:hi<2 ^ 62)
    (q:R (Itr lo (hi-lo).toNat) H):wpAny (model X.prog X.w) X.A (pyIter (.ref s.heap.objs.size)) (PIE X pins σ tg R) E { s with heap:=s.heap.push { cls:=.type "range",data:=.fields #[.int lo t,.int hi u,.int 1 v] },toks:=tk }:=by
  refine wpAny_pyIter_range (IsRange.new ..) (small_one h1 h2 h3 h4) ?_
  have I1:Inv X pins σ H { s with heap:=s.heap.push { cls:=.type "range",data:=.fields #[.int lo t,.int hi u,.int 1 v] },toks:=tk }:=I.kept fun b o e=>Heap.get?_push_of_some _ e
  refine ⟨(s.heap.push { cls:=.type "range",data:=.fields #[.int lo t,.int hi u,.int 1 v] }).objs.size,[(s.heap.push { cls:=.type "range",data:=.fields #[.int lo t,.int hi u,.int 1 v] }).objs.size],_,_,H,rfl,
    I1.kept (t':=tk) fun b o e=>Heap.get?_push_of_some _ e,turn_range _ lo (hi-lo).toNat,?_,fun b hb=>?_,q⟩
  · have e1:lo+((0:Nat):Int)*1=lo:=by simp
    have e2:(((hi-lo).toNat:Nat):Int)-((0:Nat):Int)=Builtin.Range.rangeSize lo hi 1:=by rw [rangeSize_one];split <;> omega
    show IsRangeIter _ _ (lo+((0:Nat):Int)*1) ((((hi-lo).toNat:Nat):Int)-((0:Nat):Int)) 1
    rw [e1,e2]
    exact Heap.get?_push_size _ rfl
  · have e:b=(s.heap.push { cls:=.type "range",data:=.fields #[.int lo t,.int hi u,.int 1 v] }).objs.size:=by simpa using hb
    subst e
    exact I1.fpOk (Nat.le_refl _) (I1.hok.fresh (Nat.le_refl _))
def iRng1 (ta:TA):TI:=fun σ H R=>ta σ H fun vs H1=>∃ j:Int,vs=[.int j]∧-(2 ^ 62)≤j∧j<2 ^ 62∧R (Itr 0 j.toNat) H1
theorem pi_range1 {a:Expr} {ta:TA} {p pos:Pos} (hg:Gl X "range") (hm:X.mg "range" = none) (ha:PA X [a] ta) (hs:starEach [a] X.env=[(false,eval a X.env)]:=by rfl):PI X tg (.Call (.Name "range" p) [a] [] pos) (iRng1 ta):=by
  intro pins s σ H R I h
  refine Call_ (ld_blt I hg hm boot_range (PyProof.Rows.callWith_type1 (thn (ha pos pins s σ H _ I h) fun us s1 ⟨vs,H1,I1,r1,q1⟩=>?_) hs rfl))
  obtain ⟨j,e,q1,q2,q⟩:=q1
  subst e
  cases r1 with
  | cons r rr=>
    cases rr
    obtain ⟨t,rfl⟩:=r
    exact call_range_1 (range_it I1 (by omega) (by omega) q1 q2 (by simpa using q))
def tFor (wi:TI) (g:TG) (tb:TS):TS:=fun D σ H=>wi σ H fun J H1=>∃ W:Nat→Nat→St→Hp→Prop,(∃ m,W 0 m σ H1)∧∀ i m σ H,W i m σ H→
  (J.stop i H∧D.nx σ H)∨(J.go i H∧∃ N:St→Hp→Prop,(∀ σ' H',N σ' H'→∃ m',m'<m∧W (i+1) m' σ' H')∧∀ x H',J.yld i H x H'→g x σ H' fun σ2 H2=>tb { D with nx:=N,ct:=N,bk:=D.nx } σ2 H2)
def pinsAt (fp:List Addr) (h:Heap):List (Addr×Obj):=fp.filterMap fun b=>(h.get? b).map fun o=>(b,o)
theorem mem_pinsAt {fp:List Addr} {h:Heap} {b:Addr} {o:Obj} (hb:b∈fp) (e:h.get? b=some o):(b,o)∈pinsAt fp h:=List.mem_filterMap.mpr ⟨b,hb,by rw [e];rfl⟩
theorem of_pinsAt {fp:List Addr} {h:Heap} {p:Addr×Obj} (hp:p∈pinsAt fp h):p.1∈fp∧h.get? p.1=some p.2:=by
  obtain ⟨b,hb,e⟩:=List.mem_filterMap.mp hp
  cases q:h.get? b with
  |none=>rw [q] at e;cases e
  | some o=>
    rw [q] at e
    have e':(b,o)=p:=Option.some.inj e
    subst e'
    exact ⟨hb,q⟩
theorem Inv.pinned {pins:List (Addr×Obj)} {σ:St} {H:Hp} {s:Shared} {fp:List Addr} (I:Inv X pins σ H s) (hf:∀ b∈fp,FpOk X pins H b) (ho:∀ b∈fp,∃ o,s.heap.get? b=some o∧∀ v,o.data≠.cell v):Inv X (pins++pinsAt fp s.heap) σ H s:=
  I.pins_of fun p hp=>(List.mem_append.mp hp).elim (fun z=>I.pin p (List.mem_append_right _ z)) fun z=>by
    obtain ⟨hb,e⟩:=of_pinsAt z
    obtain ⟨f0,f1,f2,_⟩:=hf p.1 hb
    obtain ⟨o,e',d⟩:=ho p.1 hb
    rw [e] at e';cases e'
    exact ⟨e,f0,f1,f2,d⟩
theorem Inv.unpinned {pins pl:List (Addr×Obj)} {σ:St} {H:Hp} {s:Shared} (I:Inv X (pins++pl) σ H s):Inv X pins σ H s:=I.pins_of fun p hp=>I.pin p (List.mem_append_right _ (List.mem_append_left _ hp))
theorem ps_for {iter:Expr} {body:List Stmt} {wi:TI} {g:TG} {tb:TS} {pos:Pos} (hp:PassesOwn (model X.prog X.w) X.A X.env X.xe) (hc:X.calm=true) (hi:PI X tg iter wi) (hg:PG X tg g) (hb:PSs X body tb)
    (hs:∀ x,foldedSetIterable iter X.env x=pure x:=by intro _;rfl):PS X (.For tg iter body [] pos) (tFor wi g tb):=by
  intro pins s σ H D I h
  refine wpAny_For (thn (hi pins s σ H _ I h) fun v s1 h1=>thn h1 fun itv s2 h2=>?_) hs
  obtain ⟨it,fp,tn,J,H2,e,I2,T,st2,f2,W,⟨m0,w0⟩,turn⟩:=h2
  subst e
  have stat:∀ {H':Hp},(∀ b∈fp,H' b=none)→∀ b∈fp,FpOk X pins H' b:=fun hn b hb=>⟨hn b hb,(f2 b hb).2⟩
  refine codeAny_forLoop_any (fun n s'=>∃ i σ' H',Inv X pins σ' H' s'∧tn i s'.heap∧(∀ b∈fp,H' b=none)∧W i n σ' H') ?_ m0 ⟨0,σ,H2,I2,st2,fun b hb=>(f2 b hb).1,w0⟩
  rintro n s3 ⟨i,σ3,H3,I3,st3,fr3,w3⟩
  rcases turn i n σ3 H3 w3 with ⟨stop,qn⟩|⟨go,N,hN,step⟩
  · refine wpAny_passesOwn hp (thn (T.done X rfl rfl rfl hc i pins s3 σ3 H3 X.xe I3 (stat fr3) st3 stop) fun r s4 ⟨hr,I4⟩=>?_)
    subst hr
    exact wpAny_execs_nil ⟨σ3,H3,I4,qn⟩
  · refine wpAny_passesOwn hp (thn (T.item X rfl rfl rfl hc i pins s3 σ3 H3 X.xe I3 (stat fr3) st3 go) fun r s4 ⟨u,hr,h4⟩=>?_)
    subst hr
    refine wpAny_passesOwn hp (thn h4 fun _ s5 ⟨x,H5,I5,r5,y5,st5,fr5⟩=>?_)
    have I5':=I5.pinned (stat fr5) (T.obj _ _ st5)
    refine wpAny_passesOwn hp (thn (hg _ s5 σ3 H5 x u _ I5' r5 (step x H5 y5)) fun _ s6 ⟨σ6,H6,I6,q6⟩=>?_)
    refine wpAny_passesOwn hp (thn (hb _ s6 σ6 H6 _ I6 q6) fun f s7 q7=>?_)
    have again:∀ {σ7:St} {H7:Hp},Inv X (pins++pinsAt fp s5.heap) σ7 H7 s7→N σ7 H7→∃ m,m<n∧∃ i σ' H',Inv X pins σ' H' s7∧tn i s7.heap∧(∀ b∈fp,H' b=none)∧W i m σ' H':=fun {σ7 H7} I7 n7=>by
      obtain ⟨m',hm,w7⟩:=hN σ7 H7 n7
      refine ⟨m',hm,i+1,σ7,H7,I7.unpinned,T.keep _ _ _ st5 fun b hb o e=>(I7.pin (b,o) (List.mem_append_right _ (List.mem_append_right _ (mem_pinsAt hb e)))).1,fun b hb=>?_,w7⟩
      obtain ⟨o,e,d⟩:=T.obj _ _ st5 b hb
      exact (I7.pin (b,o) (List.mem_append_right _ (List.mem_append_right _ (mem_pinsAt hb e)))).2.1
    cases f with
    |next=>obtain ⟨σ7,H7,I7,n7⟩:=q7;exact again I7 n7
    |cont=>obtain ⟨σ7,H7,I7,n7⟩:=q7;exact again I7 n7
    |brk=>obtain ⟨σ7,H7,I7,q7⟩:=q7;exact ⟨σ7,H7,I7.unpinned,q7⟩
    |ret v=>obtain ⟨x7,σ7,H7,I7,r7,q7⟩:=q7;exact ⟨x7,σ7,H7,I7.unpinned,r7,q7⟩
end
theorem for_list {K:PySem.W.Frag} {a:Addr} {xs:List V} {g:TG} {tb:TS} {D:Ends} {σ:St} {H:Hp} (Pv:Nat→St→Hp→Prop) (h0:Pv 0 σ H) (hl:∀ i σ H,i≤xs.length→Pv i σ H→SqL K H a xs)
    (hs:∀ i x σ H,xs[i]?=some x→Pv i σ H→g x σ H fun σ2 H2=>tb { D with nx:=Pv (i+1),ct:=Pv (i+1),bk:=D.nx } σ2 H2) (hd:∀ σ H,Pv xs.length σ H→D.nx σ H) :
    ∃ W:Nat→Nat→St→Hp→Prop,(∃ m,W 0 m σ H)∧∀ i m σ H,W i m σ H→
      ((Itl K a).stop i H∧D.nx σ H)∨((Itl K a).go i H∧∃ N:St→Hp→Prop,(∀ σ' H',N σ' H'→∃ m',m'<m∧W (i+1) m' σ' H')∧∀ x H',(Itl K a).yld i H x H'→g x σ H' fun σ2 H2=>tb { D with nx:=N,ct:=N,bk:=D.nx } σ2 H2):=by
  refine ⟨fun i m σ H=>m=xs.length-i∧i≤xs.length∧Pv i σ H,⟨xs.length,by simp,Nat.zero_le _,h0⟩,?_⟩
  rintro i m σ H ⟨rfl,hi,p⟩
  have q:=hl i σ H hi p
  by_cases hlt:i<xs.length
  · refine .inr ⟨⟨xs,xs[i],q,by simp [hlt]⟩,Pv (i+1),fun σ' H' p'=>⟨xs.length-(i+1),by omega,rfl,hlt,p'⟩,fun x H' y=>?_⟩
    obtain ⟨e,y⟩:=y
    subst e
    exact hs i x σ _ (y xs q) p
  · have e:i=xs.length:=by omega
    subst e
    exact .inl ⟨⟨xs,q,Nat.le_refl _⟩,hd σ H p⟩
theorem for_range {lo:Int} {n:Nat} {g:TG} {tb:TS} {D:Ends} {σ:St} {H:Hp} (Pv:Nat→St→Hp→Prop) (h0:Pv 0 σ H)
    (hs:∀ i σ H,i<n→Pv i σ H→g (.int (lo+i)) σ H fun σ2 H2=>tb { D with nx:=Pv (i+1),ct:=Pv (i+1),bk:=D.nx } σ2 H2) (hd:∀ σ H,Pv n σ H→D.nx σ H) :
    ∃ W:Nat→Nat→St→Hp→Prop,(∃ m,W 0 m σ H)∧∀ i m σ H,W i m σ H→
      ((Itr lo n).stop i H∧D.nx σ H)∨((Itr lo n).go i H∧∃ N:St→Hp→Prop,(∀ σ' H',N σ' H'→∃ m',m'<m∧W (i+1) m' σ' H')∧∀ x H',(Itr lo n).yld i H x H'→g x σ H' fun σ2 H2=>tb { D with nx:=N,ct:=N,bk:=D.nx } σ2 H2):=by
  refine ⟨fun i m σ H=>m=n-i∧i≤n∧Pv i σ H,⟨n,by simp,Nat.zero_le _,h0⟩,?_⟩
  rintro i m σ H ⟨rfl,hi,p⟩
  by_cases hlt:i<n
  · refine .inr ⟨hlt,Pv (i+1),fun σ' H' p'=>⟨n-(i+1),by omega,rfl,hlt,p'⟩,fun x H' y=>?_⟩
    obtain ⟨e,y⟩:=y
    subst e y
    exact hs i σ _ hlt p
  · have e:i=n:=by omega
    subst e
    exact .inl ⟨Nat.le_refl _,hd σ H p⟩
end L2
namespace L2
open PySem PySem.Spec PyProof.Rows
abbrev R2:=V→V→Hp→VK→Prop
def OpR (X:Cx) (f:Value→Value→Sem Value) (r:R2):Prop:=
  ∀ (pins:List (Addr×Obj)) (s:Shared) (σ:St) (H:Hp) (x y:V) (v u:Value) (Q:VK),Inv X pins σ H s→RelV x v→RelV y u→r x y H Q→
    wpAny (model X.prog X.w) X.A (f v u) (EP X pins σ Q) X.xe s
def UnR (X:Cx) (f:Value→Sem Value) (r:V→Hp→VK→Prop):Prop:=
  ∀ (pins:List (Addr×Obj)) (s:Shared) (σ:St) (H:Hp) (x:V) (v:Value) (Q:VK),Inv X pins σ H s→RelV x v→r x H Q→
    wpAny (model X.prog X.w) X.A (f v) (EP X pins σ Q) X.xe s
def CallR (X:Cx) (f:Value) (r:List V→Hp→VK→Prop):Prop:=
  ∀ (pins:List (Addr×Obj)) (s:Shared) (σ:St) (H:Hp) (xs:List V) (us:List Value) (Q:VK),Inv X pins σ H s→Vals xs us→r xs H Q→
    wpAny (model X.prog X.w) X.A (call f us) (EP X pins σ Q) X.xe s
def tOp (r:R2) (ta tb:TE):TE:=fun σ H Q=>ta σ H fun x H1=>tb σ H1 fun y H2=>r x y H2 Q
def tUn (r:V→Hp→VK→Prop) (ta:TE):TE:=fun σ H Q=>ta σ H fun x H1=>r x H1 Q
def rI (C:Int→Int→Prop) (g:Int→Int→V):R2:=fun x y H Q=>∃ i j,x=.int i∧y=.int j∧C i j∧Q (g i j) H
def rI0 (g:Int→Int→V):R2:=fun x y H Q=>∃ i j,x=.int i∧y=.int j∧Q (g i j) H
def rU (g:Int→V):V→Hp→VK→Prop:=fun x H Q=>∃ i,x=.int i∧Q (g i) H
section
variable {X:Cx} {a b c:Expr} {ta tb tc:TE} {pos:Pos}
theorem binT (ha:PE X a ta) (hb:PE X b tb) {pins:List (Addr×Obj)} {s:Shared} {σ:St} {H:Hp} {R:V→V→Hp→Prop} (I:Inv X pins σ H s)
    (h:ta σ H fun x H1=>tb σ H1 fun y H2=>R x y H2) {Q:Value→Shared→Prop} {f:Value→Value→Sem Value}
    (hf:∀ v u s2 x y H2,Inv X pins σ H2 s2→RelV x v→RelV y u→R x y H2→wpAny (model X.prog X.w) X.A (f v u) Q X.xe s2) :
    wpAny (model X.prog X.w) X.A (eval a X.env) (fun v s₁=>wpAny (model X.prog X.w) X.A (eval b X.env) (fun u s₂=>wpAny (model X.prog X.w) X.A (f v u) Q X.xe s₂) X.xe s₁) X.xe s:=by
  refine thn (ha pins s σ H _ I h) fun v s1 ⟨x,H1,I1,r1,q1⟩=>?_
  refine thn (hb pins s1 σ H1 _ I1 q1) fun u s2 ⟨y,H2,I2,r2,q2⟩=>?_
  exact hf v u s2 x y H2 I2 r1 r2 q2
theorem pe_op {op:Operator} {r:R2} (ho:OpR X (binaryOp op) r) (ha:PE X a ta) (hb:PE X b tb):PE X (.BinOp a op b pos) (tOp r ta tb):=by
  intro pins s σ H Q I h
  exact wpAny_BinOp (binT ha hb I h fun v u s2 x y H2 I2 rx ry q=>ho pins s2 σ H2 x y v u Q I2 rx ry q)
theorem pe_un {op:UnaryOp} {r:V→Hp→VK→Prop} (ho:UnR X (unaryOp op) r) (ha:PE X a ta):PE X (.UnaryOp op a pos) (tUn r ta):=by
  intro pins s σ H Q I h
  exact UnaryOp_ (thn (ha pins s σ H _ I h) fun v s1 ⟨x,H1,I1,r1,q1⟩=>ho pins s1 σ H1 x v Q I1 r1 q1)
theorem opI {f:Value→Value→Sem Value} {C:Int→Int→Prop} {g:Int→Int→Int}
    (rule:∀ (i j:Int) (t u:Tok) (s:Shared) (Q:Value→Shared→Prop) (E:Value→Shared→Prop),C i j→Q (.int (g i j) s.toks) { s with toks:=s.toks+1 }→wpAny (model X.prog X.w) X.A (f (.int i t) (.int j u)) Q E s) :
    OpR X f (rI C fun i j=>.int (g i j)):=by
  intro pins s σ H x y v u Q I rx ry h
  obtain ⟨i,j,rfl,rfl,hc,q⟩:=h
  obtain ⟨t,rfl⟩:=rx
  obtain ⟨t',rfl⟩:=ry
  exact rule i j t t' s _ _ hc ⟨.int (g i j),H,I.tok _,⟨_,rfl⟩,q⟩
theorem opI0 {f:Value→Value→Sem Value} {g:Int→Int→Int}
    (rule:∀ (i j:Int) (t u:Tok) (s:Shared) (Q:Value→Shared→Prop) (E:Value→Shared→Prop),Q (.int (g i j) s.toks) { s with toks:=s.toks+1 }→wpAny (model X.prog X.w) X.A (f (.int i t) (.int j u)) Q E s) :
    OpR X f (rI0 fun i j=>.int (g i j)):=by
  intro pins s σ H x y v u Q I rx ry h
  obtain ⟨i,j,rfl,rfl,q⟩:=h
  obtain ⟨t,rfl⟩:=rx
  obtain ⟨t',rfl⟩:=ry
  exact rule i j t t' s _ _ ⟨.int (g i j),H,I.tok _,⟨_,rfl⟩,q⟩
theorem opB0 {f:Value→Value→Sem Value} {g:Int→Int→Bool}
    (rule:∀ (i j:Int) (t u:Tok) (s:Shared) (Q:Value→Shared→Prop) (E:Value→Shared→Prop),Q (.bool (g i j)) s→wpAny (model X.prog X.w) X.A (f (.int i t) (.int j u)) Q E s) :
    OpR X f (rI0 fun i j=>.bl (g i j)):=by
  intro pins s σ H x y v u Q I rx ry h
  obtain ⟨i,j,rfl,rfl,q⟩:=h
  obtain ⟨t,rfl⟩:=rx
  obtain ⟨t',rfl⟩:=ry
  exact rule i j t t' s _ _ ⟨.bl (g i j),H,I,rfl,q⟩
def CDiv (i j:Int):Prop:=0<j∧j<1073741824
def CPow (i j:Int):Prop:=0≤j∧j≤1000000∧i.natAbs<2 ^ 64
def CMul (i j:Int):Prop:=(-(2 ^ 64)<i∧i<2 ^ 64)∨(-(2 ^ 64)<j∧j<2 ^ 64)
theorem CMul.ok {i j:Int} (h:CMul i j):IntMulOk i j:=by
  rcases h with ⟨h1,h2⟩|⟨h1,h2⟩
  · exact .of_left (intBits_le_64 h1 h2)
  · exact .of_right (intBits_le_64 h1 h2)
theorem op_add:OpR X (binaryOp .Add) (rI0 fun i j=>.int (i+j)):=opI0 fun _ _ _ _ _ _ _ q=>add_int q
theorem op_sub:OpR X (binaryOp .Sub) (rI0 fun i j=>.int (i-j)):=opI0 fun _ _ _ _ _ _ _ q=>sub_int q
theorem op_mul:OpR X (binaryOp .Mult) (rI CMul fun i j=>.int (i*j)):=opI fun _ _ _ _ _ _ _ hc q=>mul_int q hc.ok
theorem op_fdiv:OpR X (binaryOp .FloorDiv) (rI CDiv fun i j=>.int (i / j)):=opI fun i j _ _ _ _ _ hc q=>by
  have h1:(0:Int)<j:=hc.1
  have h2:j<1073741824:=hc.2
  exact floordiv_int (by omega) (by rw [Int.fdiv_eq_ediv_of_nonneg i (by omega)];exact q) (.inl (PyProof.noPylong_small (by omega)))
theorem op_mod:OpR X (binaryOp .Mod) (rI (fun _ j=>0<j) fun i j=>.int (i % j)):=opI fun i j _ _ _ _ _ hc q=>by
  have h1:(0:Int)<j:=hc
  exact mod_int' (by omega) (by rw [Int.fmod_eq_emod_of_nonneg i (by omega)];exact q)
theorem op_pow:OpR X (binaryOp .Pow) (rI CPow fun i j=>.int (i ^ j.toNat)):=opI fun _ _ _ _ _ _ _ hc q=>pow_int_small hc.1 hc.2.1 hc.2.2 q
theorem unI {f:Value→Sem Value} {g:Int→Int}
    (rule:∀ (i:Int) (t:Tok) (s:Shared) (Q:Value→Shared→Prop) (E:Value→Shared→Prop),Q (.int (g i) s.toks) { s with toks:=s.toks+1 }→wpAny (model X.prog X.w) X.A (f (.int i t)) Q E s) :
    UnR X f (rU fun i=>.int (g i)):=by
  intro pins s σ H x v Q I rx h
  obtain ⟨i,rfl,q⟩:=h
  obtain ⟨t,rfl⟩:=rx
  exact rule i t s _ _ ⟨.int (g i),H,I.tok _,⟨_,rfl⟩,q⟩
theorem un_neg:UnR X (unaryOp .USub) (rU fun i=>.int (-i)):=unI fun _ _ _ _ _ q=>neg_int q
end
def scal:V→V→Bool
  |.non,.non=>true|.non,.int _=>true|.int _,.non=>true|.non,.bl _=>true|.bl _,.non=>true|.non,.str _=>true|.str _,.non=>true
  |.int _,.int _=>true|.bl _,.bl _=>true|.str _,.str _=>true|.byt _,.byt _=>true
  |.int _,.str _=>true|.str _,.int _=>true|.bl _,.str _=>true|.str _,.bl _=>true
  |_,_=>false
def rEq:R2:=fun x y H Q=>scal x y=true∧Q (.bl (decide (x=y))) H
def rNe:R2:=fun x y H Q=>scal x y=true∧Q (.bl (!decide (x=y))) H
theorem dec_int {i j:Int}:decide (V.int i=V.int j)=(i == j):=by
  rw [Bool.eq_iff_iff]
  simp
theorem dec_bl {i j:Bool}:decide (V.bl i=V.bl j)=(i == j):=by
  rw [Bool.eq_iff_iff]
  simp
theorem dec_str {i j:Str}:decide (V.str i=V.str j)=(i == j):=by
  rw [Bool.eq_iff_iff]
  simp
theorem dec_byt {i j:Array UInt8}:decide (V.byt i=V.byt j)=(i.toList == j.toList):=by
  rw [Bool.eq_iff_iff]
  cases i
  cases j
  simp
section
variable {X:Cx} {a b c:Expr} {ta tb tc:TE} {pos:Pos}
theorem fin_bl {pins:List (Addr×Obj)} {σ:St} {H:Hp} {s:Shared} {Q:VK} {k k':Bool} (I:Inv X pins σ H s) (q:Q (.bl k) H) (e:k=k'):EP X pins σ Q (.bool k') s:=by
  subst e
  exact ⟨.bl k,H,I,rfl,q⟩
theorem op_eq:OpR X (compareOp .Eq) rEq:=by
  intro pins s σ H x y v u Q I rx ry h
  obtain ⟨hs,q⟩:=h
  cases x with
  | non=>
    cases rx
    cases y with
    |non=>cases ry;exact PySem.EqNone.eq_none_none (fin_bl I q (by simp))
    |bl j=>cases ry;exact PySem.EqNone.eq_none_bool (fin_bl I q (by simp))
    |int j=>obtain ⟨t',rfl⟩:=ry;exact PySem.EqNone.eq_none_int (fin_bl I q (by simp))
    |str j=>obtain ⟨t',rfl⟩:=ry;exact PySem.EqNone.eq_none_str (fin_bl I q (by simp))
    |_=>exact absurd (show false=true from hs) Bool.false_ne_true
  | bl i=>
    cases rx
    cases y with
    |non=>cases ry;exact PySem.EqNone.eq_bool_none (fin_bl I q (by simp))
    |bl j=>cases ry;exact eq_bool (fin_bl I q dec_bl)
    |str j=>obtain ⟨t',rfl⟩:=ry;exact PySem.EqMixed.eq_bool_str (fin_bl I q (by simp))
    |_=>exact absurd (show false=true from hs) Bool.false_ne_true
  | int i=>
    obtain ⟨t,rfl⟩:=rx
    cases y with
    |non=>cases ry;exact PySem.EqNone.eq_int_none (fin_bl I q (by simp))
    |int j=>obtain ⟨t',rfl⟩:=ry;exact eq_int (fin_bl I q dec_int)
    |str j=>obtain ⟨t',rfl⟩:=ry;exact PySem.EqMixed.eq_int_str (fin_bl I q (by simp))
    |_=>exact absurd (show false=true from hs) Bool.false_ne_true
  | str i=>
    obtain ⟨t,rfl⟩:=rx
    cases y with
    |non=>cases ry;exact PySem.EqNone.eq_str_none (fin_bl I q (by simp))
    |bl j=>cases ry;exact PySem.EqMixed.eq_str_bool (fin_bl I q (by simp))
    |int j=>obtain ⟨t',rfl⟩:=ry;exact PySem.EqMixed.eq_str_int (fin_bl I q (by simp))
    |str j=>obtain ⟨t',rfl⟩:=ry;exact eq_str (fin_bl I q dec_str)
    |_=>exact absurd (show false=true from hs) Bool.false_ne_true
  | byt i=>
    obtain ⟨t,rfl⟩:=rx
    cases y with
    |byt j=>obtain ⟨t',rfl⟩:=ry;exact PySem.W.eq_bytes (fin_bl I q dec_byt)
    |_=>exact absurd (show false=true from hs) Bool.false_ne_true
  |_=>cases y <;> exact absurd (show false=true from hs) Bool.false_ne_true
theorem op_ne:OpR X (compareOp .NotEq) rNe:=by
  intro pins s σ H x y v u Q I rx ry h
  obtain ⟨hs,q⟩:=h
  cases x with
  | non=>
    cases rx
    cases y with
    |non=>cases ry;exact PySem.EqNone.ne_none_none (fin_bl I q (by simp))
    |bl j=>cases ry;exact PySem.EqNone.ne_none_bool (fin_bl I q (by simp))
    |int j=>obtain ⟨t',rfl⟩:=ry;exact PySem.EqNone.ne_none_int (fin_bl I q (by simp))
    |str j=>obtain ⟨t',rfl⟩:=ry;exact PySem.EqNone.ne_none_str (fin_bl I q (by simp))
    |_=>exact absurd (show false=true from hs) Bool.false_ne_true
  | bl i=>
    cases rx
    cases y with
    |non=>cases ry;exact PySem.EqNone.ne_bool_none (fin_bl I q (by simp))
    |bl j=>cases ry;exact ne_bool (fin_bl I q (congrArg not dec_bl))
    |str j=>obtain ⟨t',rfl⟩:=ry;exact PySem.EqMixed.ne_bool_str (fin_bl I q (by simp))
    |_=>exact absurd (show false=true from hs) Bool.false_ne_true
  | int i=>
    obtain ⟨t,rfl⟩:=rx
    cases y with
    |non=>cases ry;exact PySem.EqNone.ne_int_none (fin_bl I q (by simp))
    |int j=>obtain ⟨t',rfl⟩:=ry;exact ne_int (fin_bl I q (congrArg not dec_int))
    |str j=>obtain ⟨t',rfl⟩:=ry;exact PySem.EqMixed.ne_int_str (fin_bl I q (by simp))
    |_=>exact absurd (show false=true from hs) Bool.false_ne_true
  | str i=>
    obtain ⟨t,rfl⟩:=rx
    cases y with
    |non=>cases ry;exact PySem.EqNone.ne_str_none (fin_bl I q (by simp))
    |bl j=>cases ry;exact PySem.EqMixed.ne_str_bool (fin_bl I q (by simp))
    |int j=>obtain ⟨t',rfl⟩:=ry;exact PySem.EqMixed.ne_str_int (fin_bl I q (by simp))
    |str j=>obtain ⟨t',rfl⟩:=ry;exact ne_str (fin_bl I q (congrArg not dec_str))
    |_=>exact absurd (show false=true from hs) Bool.false_ne_true
  | byt i=>
    obtain ⟨t,rfl⟩:=rx
    cases y with
    |byt j=>obtain ⟨t',rfl⟩:=ry;exact PySem.W.ne_bytes (fin_bl I q (congrArg not dec_byt))
    |_=>exact absurd (show false=true from hs) Bool.false_ne_true
  |_=>cases y <;> exact absurd (show false=true from hs) Bool.false_ne_true
theorem op_lt:OpR X (compareOp .Lt) (rI0 fun i j=>.bl (decide (i<j))):=opB0 fun _ _ _ _ _ _ _ q=>lt_int q
theorem op_le:OpR X (compareOp .LtE) (rI0 fun i j=>.bl (decide (i≤j))):=opB0 fun _ _ _ _ _ _ _ q=>le_int q
theorem op_gt:OpR X (compareOp .Gt) (rI0 fun i j=>.bl (decide (j<i))):=opB0 fun _ _ _ _ _ _ _ q=>gt_int q
theorem op_ge:OpR X (compareOp .GtE) (rI0 fun i j=>.bl (decide (j≤i))):=opB0 fun _ _ _ _ _ _ _ q=>ge_int q
theorem op_isN:OpR X (compareOp .Is) (fun x y H Q=>y=.non∧Q (.bl (decide (x=.non))) H):=by
  intro pins s σ H x y v u Q I rx ry h
  obtain ⟨rfl,q⟩:=h
  cases ry
  refine is_none_gen (fin_bl I q ?_)
  cases x <;> first
    |(cases rx;rfl)
    |(obtain ⟨t,rfl⟩:=rx;rfl)
theorem nomark (b:Expr) {op:CmpOp} (h:op≠.In:=by decide) (h2:op≠.NotIn:=by decide):behindInMarks op b=false:=by
  have e1:(op == CmpOp.In)=false:=by cases op <;> first|rfl|exact absurd rfl h
  have e2:(op == CmpOp.NotIn)=false:=by cases op <;> first|rfl|exact absurd rfl h2
  cases b <;> simp [behindInMarks,e1,e2]
theorem pe_cmpR {op:CmpOp} {r:R2} (ho:OpR X (compareOp op) r) (ha:PE X a ta) (hb:PE X b tb) (hm:behindInMarks op b=false):PE X (.Compare a [op] [b] pos) (tOp r ta tb):=by
  intro pins s σ H Q I h
  exact wpAny_Compare1 (binT ha hb I h fun v u s2 x y H2 I2 rx ry q=>ho pins s2 σ H2 x y v u Q I2 rx ry q) hm
def tTest (t:TE):TT:=fun σ H Q=>t σ H fun x H'=>∃ k,x=.bl k∧Q k H'
theorem pt_cmpR {op:CmpOp} {r:R2} (ho:OpR X (compareOp op) r) (ha:PE X a ta) (hb:PE X b tb) (hm:behindInMarks op b=false):PT X (.Compare a [op] [b] pos) (tTest (tOp r ta tb)):=by
  intro pins s σ H Q I h
  refine wpAny_isTrue_Compare1 (thn (ha pins s σ H _ I h) fun v s1 ⟨x,H1,I1,r1,q1⟩=>thn (hb pins s1 σ H1 _ I1 q1) fun u s2 ⟨y,H2,I2,r2,q2⟩=>
    thn (ho pins s2 σ H2 x y v u _ I2 r1 r2 q2) fun c s3 ⟨z,H3,I3,r3,k,e,q3⟩=>?_) hm
  subst e
  cases r3
  exact wpAny_truthy_bool ⟨H3,I3,q3⟩
theorem line63:(sizeLine:Nat)<2 ^ 63:=by rw [sizeLine_eq];decide
theorem op_add_str:OpR X (binaryOp .Add) (fun x y H Q=>∃ i j,x=.str i∧y=.str j∧i.length+j.length≤sizeLine∧Q (.str (i++j)) H):=by
  intro pins s σ H x y v u Q I rx ry h
  obtain ⟨i,j,rfl,rfl,hz,q⟩:=h
  obtain ⟨t,rfl⟩:=rx
  obtain ⟨t',rfl⟩:=ry
  exact add_str (fun t' tk=>⟨.str (i++j),H,I.tok _,⟨_,rfl⟩,q⟩) hz
theorem vals1 {x:V} {us:List Value} (r:Vals [x] us):∃ u,us=[u]∧RelV x u:=by
  cases r with
  |cons r1 r2=>cases r2;exact ⟨_,rfl,r1⟩
theorem call_str_int:CallR X (.type "str") (fun xs H Q=>∃ i,xs=[.int i]∧i.natAbs.log2<1920∧Q (.str (toString i)) H):=by
  intro pins s σ H xs us Q I r h
  obtain ⟨i,rfl,hz,q⟩:=h
  obtain ⟨u,rfl,t,rfl⟩:=vals1 r
  exact PySem.P.str_of_int hz ⟨.str _,H,I.tok _,⟨_,rfl⟩,q⟩
end
end L2
namespace L2
open PySem PySem.Spec PyProof.Rows
theorem lookIn_ns {h:Heap} {dx:Addr} {mA:Str→Option Value} (n:h.Ns1 dx mA):∃ od,h.get? dx=some od∧∀ name,PySem.W.lookIn name od=some (mA name):=by
  obtain ⟨o,es,ep,ho,hd,hk,_,hm⟩:=n
  refine ⟨o,ho,fun name=>?_⟩
  have e:=hm name
  unfold nsFind findBy at e
  rw [← Array.find?_toList] at e
  unfold PySem.W.lookIn
  rw [hd]
  dsimp only
  split
  · rename_i y q
    rw [q] at e
    exact congrArg some e
  · rename_i q
    rw [q] at e
    have a:es.toList.any (·.refKey)=false:=by
      rw [List.any_eq_false]
      intro y hy
      obtain ⟨z,t,hkey⟩:=hk y (Array.mem_toList_iff.mp hy)
      simp [DictEntry.refKey,hkey]
    have a':¬ es.toList.any (·.refKey)=true:=by rw [a];exact Bool.false_ne_true
    rw [if_neg a']
    exact congrArg some e
section
variable {prog:Program} {w:World} {A:Around} {E:Value→Shared→Prop} {s:Shared} {K:PySem.W.Frag} {x dx C f:Addr} {mA:Str→Option Value} {name:Str} {v:Value}
end
def putF (f:Str) (v:V):List (Str×V)→List (Str×V)
  |[]=>[(f,v)]
  |(g,x)::r=>if g=f then (g,v)::r else (g,x)::putF f v r
theorem lookup_putF (f g:Str) (v:V):∀ fs:List (Str×V),(putF f v fs).lookup g=if g=f then some v else fs.lookup g
  | []=>by
    show List.lookup g [(f,v)]=_
    by_cases h:g=f
    · have hb:(g == f)=true:=beq_iff_eq.mpr h
      simp only [List.lookup,hb,if_pos h]
    · have hb:(g == f)=false:=beq_eq_false_iff_ne.mpr h
      simp only [List.lookup,hb,if_neg h]
  | (k,x)::r=>by
    have ih:=lookup_putF f g v r
    rw [show putF f v ((k,x)::r)=(if k=f then (k,v)::r else (k,x)::putF f v r) from rfl]
    by_cases hk:k=f
    · rw [if_pos hk]
      by_cases h:g=k
      · have hb:(g == k)=true:=beq_iff_eq.mpr h
        simp only [List.lookup,hb,if_pos (h.trans hk)]
      · have hb:(g == k)=false:=beq_eq_false_iff_ne.mpr h
        simp only [List.lookup,hb,if_neg (fun e:g=f=>h (e.trans hk.symm))]
    · rw [if_neg hk]
      by_cases h:g=k
      · have hb:(g == k)=true:=beq_iff_eq.mpr h
        simp only [List.lookup,hb,if_neg (fun e:g=f=>hk (h.symm.trans e))]
      · have hb:(g == k)=false:=beq_eq_false_iff_ne.mpr h
        simp only [List.lookup,hb]
        exact ih
theorem keys_putF (f:Str) (v:V):∀ fs:List (Str×V),f∈(putF f v fs).map (·.1)∧∀ g,g∈fs.map (·.1)→g∈(putF f v fs).map (·.1)
  |[]=>⟨by simp [putF],fun g h=>by simp at h⟩
  | (k,x)::r=>by
    obtain ⟨i1,i2⟩:=keys_putF f v r
    rw [show putF f v ((k,x)::r)=(if k=f then (k,v)::r else (k,x)::putF f v r) from rfl]
    by_cases hk:k=f
    · rw [if_pos hk]
      subst hk
      exact ⟨by simp,fun g h=>by simpa using h⟩
    · rw [if_neg hk]
      refine ⟨?_,fun g h=>?_⟩
      · rw [List.map_cons]
        exact List.mem_cons_of_mem _ i1
      · rw [List.map_cons] at h ⊢
        rcases List.mem_cons.mp h with e|e
        · exact List.mem_cons.mpr (.inl e)
        · exact List.mem_cons_of_mem _ (i2 g e)
theorem RelO.some_of {v:V} {o:Option Value} (r:RelO (some v) o):∃ u,o=some u∧RelV v u:=by
  cases o with
  |none=>exact (show False from r).elim
  |some u=>exact ⟨u,rfl,r⟩
theorem handed_of {v:V} {u:Value} (r:RelV v u):PySem.W.handedIn u=true:=by
  cases v with
  |non=>cases (show u=Value.none from r);rfl
  |bl b=>cases (show u=Value.bool b from r);rfl
  |int i=>obtain ⟨t,e⟩:=(show ∃ t,u=Value.int i t from r);cases e;rfl
  |str x=>obtain ⟨t,e⟩:=(show ∃ t,u=Value.str x t from r);cases e;rfl
  |byt b=>obtain ⟨t,e⟩:=(show ∃ t,u=Value.bytes b t from r);cases e;rfl
  |flt b=>obtain ⟨t,e⟩:=(show ∃ t,u=Value.float b t from r);cases e;rfl
  |ref a=>cases (show u=Value.ref a from r);rfl
  |ty n=>cases (show u=Value.type n from r);rfl
section
variable {P:Program} {w:World} {H H':Hp} {h h':Heap} {a C dx:Addr} {fs fs':List (Str×V)}
end
section
variable {X:Cx} {pins:List (Addr×Obj)} {σ:St} {H:Hp} {s:Shared} {a C dx:Addr} {fs:List (Str×V)} {f:Str} {v:V} {A:Around} {E:Value→Shared→Prop}
theorem attr_of {prog:Program} {w:World} {env:Env} {e:Expr} {f:Str} {pos:Pos} {s:Shared} {Q:Value→Shared→Prop} (hb:attributeBase e f env (eval e env)=eval e env)
    (h:wpAny (model prog w) A (eval e env) (fun o s₁=>wpAny (model prog w) A (getAttr o f true) Q E s₁) E s):wpAny (model prog w) A (eval (.Attribute e f pos) env) Q E s:=
  Attribute_any_ h (by rw [arm_eval_Attribute,hb])
end
section
variable {X:Cx} {o e value:Expr} {f:Str} {pos pos' tpos:Pos} {ta tv:TE}
end
section
variable {X:Cx} {pins:List (Addr×Obj)} {σ:St} {H:Hp} {s:Shared} {A:Around} {E:Value→Shared→Prop} {Q:Value→Shared→Prop} {c:Value} {b:Bool}
end
end L2
namespace L2
open PySem PySem.Spec PyProof.Rows
structure Room (k:Nat) (A:Around):Prop where
  hd:A.handled=none
  dp:A.depth+3*k+5<recursionLimit
  un:A.units+16*k+200<cLine
  gd:A.guards=some []
theorem Room.mono {j k:Nat} {A:Around} (r:Room k A) (h:j≤k):Room j A:=⟨r.hd,by have:=r.dp;omega,by have:=r.un;omega,r.gd⟩
theorem Room.deeper {k:Nat} {A:Around} (r:Room (k+1) A) (env:Env):Room k (A.deeper env):=
  ⟨r.hd,by have:=r.dp;show A.depth+1+3*k+5<_;omega,by have:=r.un;show A.units+3+16*k+200<_;omega,r.gd⟩
theorem make_depth {A:Around} {C:Addr} {us:List Value} {kw:List (Str×Value)}:(A.under (.builtin "type.__call__" ⟨.ref C::us,kw⟩)).depth=A.depth+1:=by
  first|rfl|simp [Around.under,Code.weight,Code.isCreation,Code.isGuard,Code.isCaller,Code.frames,Code.isFrame,guardIds]
theorem make_units {A:Around} {C:Addr} {us:List Value} {kw:List (Str×Value)}:(A.under (.builtin "type.__call__" ⟨.ref C::us,kw⟩)).units=A.units+1:=by
  first|rfl|simp [Around.under,Code.cUnits,Code.frames,Code.isFrame]
theorem Room.make {k:Nat} {A:Around} (r:Room (k+1) A) (C:Addr) (us:List Value) (kw:List (Str×Value)):Room k (A.under (.builtin "type.__call__" ⟨.ref C::us,kw⟩)):=
  ⟨r.hd,by have:=r.dp;rw [make_depth];omega,by have:=r.un;rw [make_units];omega,by have:=r.gd;first|exact this|(simpa [Around.under] using this)⟩
theorem Room.depth {k:Nat} {A:Around} (r:Room k A):A.depth<recursionLimit:=by have:=r.dp;omega
theorem Room.units {k:Nat} {A:Around} (r:Room k A):A.units+64<cLine:=by have:=r.un;omega
def tNil:TA:=fun _ H Q=>Q [] H
def tCons (ta:TE) (tr:TA):TA:=fun σ H Q=>ta σ H fun x H1=>tr σ H1 fun xs H2=>Q (x::xs) H2
section
variable {X:Cx} {e:Expr} {es:List Expr} {te:TE} {t:TA} {pos:Pos}
theorem pa_nil:PA X [] tNil:=fun _ _ _ _ H Q I h=>Calls.spliced_nil ⟨[],H,I,.nil,h⟩
theorem pa_cons (ha:PE X e te) (hr:PA X es t) (hs:starEach (e::es) X.env=(false,eval e X.env)::starEach es X.env:=by rfl):PA X (e::es) (tCons te t):=by
  intro pos pins s σ H Q I h
  rw [hs]
  show wpAny _ _ (spliced ((false,eval e X.env)::backTo pos (starEach es X.env))) _ _ s
  refine Calls.spliced_cons (thn (ha pins s σ H _ I h) fun u s1 ⟨x,H1,I1,r1,q1⟩=>?_)
  exact thn (hr pos pins s1 σ H1 _ I1 q1) fun us s2 ⟨xs,H2,I2,r2,q2⟩=>⟨x::xs,H2,I2,.cons r1 r2,q2⟩
def tTup (t:TA):TE:=fun σ H Q=>t σ H fun xs H1=>xs.length≤sizeLine∧∀ p,H1 p=none→Q (.ref p) (upd H1 p (.tup xs))
def tLst (t:TA):TE:=fun σ H Q=>t σ H fun xs H1=>xs.length≤sizeLine∧∀ p,H1 p=none→Q (.ref p) (upd H1 p (.lst xs))
theorem pe_tup {x1} (h:PA X es t):PE X (.Tuple es x1 pos) (tTup t):=by
  intro pins s σ H Q I hq
  refine wpAny_Tuple_spliced (thn (h pos pins s σ H _ I hq) fun us s1 ⟨xs,H1,I1,r,z,q⟩=>⟨by rw [← r.length];exact z,?_⟩)
  have hf:H1 s1.heap.objs.size=none:=I1.hok.fresh (Nat.le_refl _)
  refine ⟨.ref s1.heap.objs.size,upd H1 s1.heap.objs.size (.tup xs),I1.laid (t':=s1.toks) (fun b u e=>Heap.get?_push_of_some _ e) (Nat.le_refl _) ?_,rfl,q _ hf⟩
  exact ⟨z,us,r,⟨_,Heap.get?_push_size _ rfl,rfl,_,rfl⟩⟩
theorem pe_lst (h:PA X es t):PE X (.List es pos) (tLst t):=by
  intro pins s σ H Q I hq
  refine wpAny_List_spliced (thn (h pos pins s σ H _ I hq) fun us s1 ⟨xs,H1,I1,r,z,q⟩=>⟨by rw [← r.length];exact z,?_⟩)
  have hf:H1 s1.heap.objs.size=none:=I1.hok.fresh (Nat.le_refl _)
  refine ⟨.ref s1.heap.objs.size,upd H1 s1.heap.objs.size (.lst xs),I1.laid (t':=s1.toks) (fun b u e=>Heap.get?_push_of_some _ e) (Nat.le_refl _) ?_,rfl,q _ hf⟩
  exact ⟨z,us,0,r,Heap.get?_push_size _ rfl⟩
end
abbrev Sp:=List V→Hp→VK→XK→Prop
abbrev CXT:=List Env→Hp→Shared→XK→Value→Shared→Prop
structure Env0 (P:Program) (w:World) (K:PySem.W.Frag) (mg:Str→Option Value) (base:Heap) (A:Around) (outer:List Env) (s:Shared) (H:Hp):Prop where
  frames:A.frames=some outer
  mod:Mod K mg base
  bs:∀ b o,base.get? b=some o→s.heap.get? b=some o∧H b=none
  bsz:base.objs.size≤s.heap.objs.size
  funs:s.heap.FunFrames base outer
  frf:∀ b∈frs outer,H b=none
  hok:HOk P w H s.heap
  bare:AllBare s.gens
def CE (outer:List Env) (P:Program) (w:World) (H:Hp) (s:Shared) (Q:VK) (u:Value) (s':Shared):Prop:=
  ∃ v H',s'.os=s.os∧AllBare s'.gens∧Un (frs outer) [] H H' s.heap s'.heap∧HOk P w H' s'.heap∧RelV v u∧Q v H'
def CR (CX:CXT) (outer:List Env) (P:Program) (w:World) (H:Hp) (s:Shared) (Q:VK) (E:XK) (r:Result) (s':Shared):Prop:=
  match r with
  |.ok (.ret u)=>CE outer P w H s Q u s'
  |.ok _=>False
  |.error e=>CX outer H s E e s'
structure FnOk (P:Program) (w:World) (K:PySem.W.Frag) (mg:Str→Option Value) (base:Heap) (CX:CXT) (k:Nat) (f:Addr) (fd:FuncData) (ps:List Str) (sp:Sp):Prop where
  len:∀ vs H Q E,sp vs H Q E→vs.length=ps.length
  run:∀ (A:Around) (outer:List Env) (s:Shared) (H:Hp) (args:Args) (us:List Value) (vs:List V) (Q:VK) (E:XK),Room k A→Env0 P w K mg base A outer s H→BindsTo s fd args (ps.zip us)→Vals vs us→sp vs H Q E→
    codeAny (model P w) A (.call (.ref f) args) (CR CX outer P w H s Q E) s
theorem FnOk.mono {P:Program} {w:World} {K:PySem.W.Frag} {mg:Str→Option Value} {base:Heap} {CX:CXT} {j k:Nat} {f:Addr} {fd:FuncData} {ps:List Str} {sp:Sp} (F:FnOk P w K mg base CX j f fd ps sp) (h:j≤k) :
    FnOk P w K mg base CX k f fd ps sp:=⟨F.len,fun A outer s H args us vs Q E hr=>F.run A outer s H args us vs Q E (hr.mono h)⟩
theorem Env0.make {P:Program} {w:World} {K:PySem.W.Frag} {mg:Str→Option Value} {base:Heap} {A:Around} {outer:List Env} {s:Shared} {H:Hp} (e:Env0 P w K mg base A outer s H) (C:Addr) (us:List Value) (kw:List (Str×Value)) :
    Env0 P w K mg base (A.under (.builtin "type.__call__" ⟨.ref C::us,kw⟩)) outer s H:=⟨by first|exact e.frames|(simpa [Around.under,Code.envs,Code.isFrame,pushEnvs] using e.frames),e.mod,e.bs,e.bsz,e.funs,e.frf,e.hok,e.bare⟩
section
variable {X:Cx} {pins:List (Addr×Obj)} {σ:St} {H:Hp} {s s':Shared}
theorem Inv.env0 (I:Inv X pins σ H s):Env0 X.prog X.w X.K X.mg X.base X.A X.stack s H:=
  ⟨I.ok.frames,I.ok.mod,I.bs,Nat.le_trans I.ok.bsz I.sz,I.stack,I.stkFree,I.hok,I.bare⟩
theorem Inv.after {Q:VK} {u:Value} (I:Inv X pins σ H s) (h:CE X.stack X.prog X.w H s Q u s'):EP X pins σ Q u s':=by
  obtain ⟨v,H',os,bare,un,hok,r,q⟩:=h
  obtain ⟨hh,g,d,t,os'⟩:=s'
  obtain rfl:os'=s.os:=os
  exact ⟨v,H',I.call (h':=hh) (g':=g) (d':=d) (t':=t) (ch:=[]) un hok bare (fun b z=>absurd z (by simp)),r,q⟩
end
def tCall (sp:Sp) (dvs:List V) (E:XK) (t:TA):TE:=fun σ H Q=>t σ H fun vs H1=>sp (vs++dvs) H1 Q E
def Binds (K:PySem.W.Frag) (fd:FuncData) (ps:List Str) (ds:List Value):Prop:=
  ∀ (s:Shared) (us:List Value),K.In s.heap→(us++ds).length=ps.length→BindsTo s fd ⟨us,[]⟩ (ps.zip (us++ds))
theorem Binds.all {K:PySem.W.Frag} {fd:FuncData} {ps:List Str} (h:∀ us:List Value,us.length=ps.length→bindArgs fd ⟨us,[]⟩=pure (ps.zip us)):Binds K fd ps []:=fun s us _ hl=>by
  rw [List.append_nil] at hl ⊢
  exact .of_eq (h us hl)
def Passes (CX:CXT) (X:Cx) (E:XK):Prop:=∀ (pins:List (Addr×Obj)) (σ:St) (H:Hp) (s:Shared) (e:Value) (s':Shared),Inv X pins σ H s→CX X.stack H s E e s'→X.xe e s'
section
variable {X:Cx} {CX:CXT} {k:Nat} {f C:Addr} {fd:FuncData} {ps:List Str} {sp:Sp} {dvs:List V} {ds:List Value} {E:XK} {x m:Str} {p pos apos:Pos} {e o:Expr} {es:List Expr} {ta:TE} {t:TA}
theorem run_fn {pins:List (Addr×Obj)} {σ:St} {H:Hp} {s:Shared} {Q:VK} {us:List Value} {vs:List V} (F:FnOk X.prog X.w X.K X.mg X.base CX k f fd ps sp) (hr:Room k X.A) (hb:Binds X.K fd ps ds) (hd:Vals dvs ds) (hx:Passes CX X E)
    (I:Inv X pins σ H s) (r:Vals vs us) (h:sp (vs++dvs) H Q E):wpAny (model X.prog X.w) X.A (call (.ref f) us) (EP X pins σ Q) X.xe s:=by
  have r2:Vals (vs++dvs) (us++ds):=r.append hd
  have hl:(us++ds).length=ps.length:=by rw [← r2.length];exact F.len _ _ _ _ h
  refine wpAny_call (codeAny_mono (F.run X.A X.stack s H ⟨us,[]⟩ (us++ds) (vs++dvs) Q E hr I.env0 (hb s us I.kIn hl) r2 h) fun r s' hq=>?_)
  cases r with
  |error e=>exact hx pins σ H s e s' I hq
  | ok fl=>
    cases fl with
    |ret u=>exact I.after hq
    |next=>exact False.elim hq
    |brk=>exact False.elim hq
    |cont=>exact False.elim hq
theorem pe_call (F:FnOk X.prog X.w X.K X.mg X.base CX k f fd ps sp) (hr:Room k X.A) (hg:Gl X x) (hm:X.mg x=some (.ref f)) (hk:PySem.W.keepIn X.K (.ref f)=true) (hb:Binds X.K fd ps ds) (hd:Vals dvs ds) (hx:Passes CX X E)
    (ha:PA X (e::es) t) (hdb:(x == ("__debug__" : Str))=false:=by decide) (he:starEach (e::es) X.env=(false,eval e X.env)::starEach es X.env:=by rfl) (hpl:(backTo pos (starEach es X.env)).any (·.1)=false:=by rfl) :
    PE X (.Call (.Name x p) (e::es) [] pos) (tCall sp dvs E t):=by
  intro pins s σ H Q I h
  refine wpAny_Call_Name_kw (ld_glob I hg hm ?_ hdb)
  refine PySem.W.callWith_K (h₀:=X.base) I.ok.mod.kin hk (thn (ha pos pins s σ H _ I h) fun us s1 ⟨vs,H1,I1,r,q⟩=>⟨I1.kIn,?_⟩) he hpl
  exact run_fn F hr hb hd hx I1 r q
end
def PK (X:Cx) (kws:List Keyword) (t:TA):Prop:=
  ∀ (pos:Pos) (pins:List (Addr×Obj)) (s:Shared) (σ:St) (H:Hp) (Q:List V→Hp→Prop),Inv X pins σ H s→t σ H Q→wpAny (model X.prog X.w) X.A (evalAll ((backToKw pos (keywordEach kws X.env)).map (·.2))) (AP X pins σ Q) X.xe s
section
variable {X:Cx} {CX:CXT} {k:Nat} {f C:Addr} {fd:FuncData} {ps ks:List Str} {sp:Sp} {E:XK} {x m:Str} {p pos apos kpos:Pos} {e o:Expr} {es:List Expr} {kws:List Keyword} {te ta:TE} {t tk:TA} {nm:Option Str}
theorem pk_nil:PK X [] tNil:=fun _ _ _ _ H Q I h=>wpAny_evalAll_nil ⟨[],H,I,.nil,h⟩
theorem pk_cons (ha:PE X e te) (hr:PK X kws t):PK X (⟨nm,e,kpos⟩::kws) (tCons te t):=by
  intro pos pins s σ H Q I h
  show wpAny _ _ (evalAll ((do let v ← eval e X.env;standAt pos;pure v)::(backToKw pos (keywordEach kws X.env)).map (·.2))) _ _ s
  refine wpAny_evalAll_cons (wpAny_bind (thn (ha pins s σ H _ I h) fun u s1 ⟨x,H1,I1,r1,q1⟩=>wpAny_bind (wpAny_standAt (wpAny_pure ?_))))
  exact thn (hr pos pins s1 σ H1 _ I1 q1) fun us s2 ⟨xs,H2,I2,r2,q2⟩=>⟨x::xs,H2,I2,.cons r1 r2,q2⟩
variable {g:List Value→List Value→List Value} {gV:List V→List V→List V}
end
structure FnScope (N P:List Str) (sc:Scope):Prop where
  kind:sc.kind=.function
  co:sc.isCoroutine=false
  gen:sc.isGenerator=false
  nd:N.Nodup
  pre:N.take P.length=P
  par:∀ x∈P,sc.names.lookup x=some .local∨sc.names.lookup x=some .cell
  nofree:∀ y∈sc.names,y.2≠.free
theorem bindL_out {kindOf:Str→Option NameKind} {x:Str}:∀ {binds:List (Str×Value)} {m:Str→Option Value},(∀ v,(x,v)∉binds)→bindL kindOf binds m x=m x
  |[],_,_=>rfl
  | (n,v)::r,m,h=>by
    unfold bindL
    rw [bindL_out fun w hw=>h w (List.mem_cons_of_mem _ hw)]
    split
    · have:x≠n:=by rintro rfl;exact h v List.mem_cons_self
      simp [this]
    · rfl
theorem bindC_out {kindOf:Str→Option NameKind} {x:Str}:∀ {binds:List (Str×Value)} {m:Str→Option Value},(∀ v,(x,v)∉binds)→bindC kindOf binds m x=m x
  |[],_,_=>rfl
  | (n,v)::r,m,h=>by
    unfold bindC
    rw [bindC_out fun w hw=>h w (List.mem_cons_of_mem _ hw)]
    split
    · rfl
    · have:x≠n:=by rintro rfl;exact h v List.mem_cons_self
      simp [this]
theorem bindL_get {kindOf:Str→Option NameKind} {x:Str} {v:Value}:∀ {P:List Str} {vs:List Value} {i:Nat} {m:Str→Option Value},P.Nodup→P[i]?=some x→vs[i]?=some v→kindOf x=some .local→
    bindL kindOf (P.zip vs) m x=some v
  |[],_,_,_,_,h,_,_=>by simp at h
  |_::_,[],_,_,_,_,h,_=>by simp at h
  | p::P,w::vs,0,m,nd,h1,h2,hk=>by
    simp at h1 h2;subst h1;subst h2
    show bindL kindOf ((p,w)::P.zip vs) m p=_
    unfold bindL
    rw [bindL_out fun v hv=>(List.nodup_cons.mp nd).1 (List.of_mem_zip hv).1,if_pos hk]
    simp
  | p::P,w::vs,i+1,m,nd,h1,h2,hk=>by
    show bindL kindOf ((p,w)::P.zip vs) m x=_
    unfold bindL
    exact bindL_get (i:=i) (List.nodup_cons.mp nd).2 (by simpa using h1) (by simpa using h2) hk
theorem bindC_get {kindOf:Str→Option NameKind} {x:Str} {v:Value}:∀ {P:List Str} {vs:List Value} {i:Nat} {m:Str→Option Value},P.Nodup→P[i]?=some x→vs[i]?=some v→kindOf x≠some .local→
    bindC kindOf (P.zip vs) m x=some v
  |[],_,_,_,_,h,_,_=>by simp at h
  |_::_,[],_,_,_,_,h,_=>by simp at h
  | p::P,w::vs,0,m,nd,h1,h2,hk=>by
    simp at h1 h2;subst h1;subst h2
    show bindC kindOf ((p,w)::P.zip vs) m p=_
    unfold bindC
    rw [bindC_out fun v hv=>(List.nodup_cons.mp nd).1 (List.of_mem_zip hv).1,if_neg hk]
    simp
  | p::P,w::vs,i+1,m,nd,h1,h2,hk=>by
    show bindC kindOf ((p,w)::P.zip vs) m x=_
    unfold bindC
    exact bindC_get (i:=i) (List.nodup_cons.mp nd).2 (by simpa using h1) (by simpa using h2) hk
def start (N:List Str) (vs:List V):St:=vs.map some++List.replicate (N.length-vs.length) none
def cxOf (CX:CXT) (P:Program) (w:World) (K:PySem.W.Frag) (mg:Str→Option Value) (base:Heap) (N:List Str) (qual:Str) (scope:Scope) (f:Addr) (cd:Value) (A:Around) (outer:List Env) (s:Shared) (H:Hp) (E:XK):Cx where
  prog:=P
  w:=w
  K:=K
  mg:=mg
  base:=base
  A:=A.deeper (envOfC qual scope s.heap.objs.size f cd)
  N:=N
  s₀:=s
  H₀:=H
  env:=envOfC qual scope s.heap.objs.size f cd
  outer:=outer
  stack:=envOfC qual scope s.heap.objs.size f cd::outer
  ex:=[]
  calm:=true
  fn:=fun _=>true
  pn:=[]
  xe:=fun e s'=>wpAny (model P w) (A.deeper (envOfC qual scope s.heap.objs.size f cd)) (leaving (envOfC qual scope s.heap.objs.size f cd) e) (fun _ s''=>CX outer H s E e s'') (fun e' s''=>CX outer H s E e' s'') s'
theorem cell_has {sc:Scope} {n:Nat} {x:Str} (h:sc.names.lookup x=some .cell):∃ c,(cellsFrom n sc.names []).lookup x=some c:=by
  have q:=PySem.W.cellsFrom_some sc.names n [] (.inl h)
  exact Option.isSome_iff_exists.mp q
theorem inv_start {CX:CXT} {P:Program} {w:World} {K:PySem.W.Frag} {mg:Str→Option Value} {base:Heap} {N ps:List Str} {qual:Str} {scope:Scope} {f:Addr} {cd:Value} {A:Around} {outer:List Env} {s s1:Shared} {H:Hp} {E:XK} {us:List Value} {vs:List V}
    (S:FnScope N ps scope) (hd:A.handled=none) (e0:Env0 P w K mg base A outer s H) (hl:vs.length=ps.length) (r:Vals vs us)
    (x:InCallC s s.heap.objs.size (bindL (envOfC qual scope s.heap.objs.size f cd).kindOf (ps.zip us) fun _=>none) (cellsFrom (s.heap.objs.size+1) scope.names []) (bindC (envOfC qual scope s.heap.objs.size f cd).kindOf (ps.zip us) fun _=>none) s1) :
    Inv (cxOf CX P w K mg base N qual scope f cd A outer s H E) [] (start N vs) H s1:=by
  have hpl:ps.length≤N.length:=by have:=congrArg List.length S.pre;rw [List.length_take] at this;omega
  obtain ⟨h1,tk,rfl,hk⟩:=x.done
  have noA:∀ b:Addr,b∉(cxOf CX P w K mg base N qual scope f cd A outer s H E).ex:=fun b z=>absurd (show b∈([]:List Addr) from z) (by simp)
  refine ⟨⟨e0.mod,S.kind,rfl,rfl,Nat.le_refl _,fun y z c h1 h2=>?_,fun y hy=>?_,fun y c _ h=>?_,fun _=>hd,Around.frames_deeper e0.frames,.inr ⟨rfl,rfl⟩,fun b z=>absurd z (noA b),e0.bs,e0.bsz,fun b _ _=>noA b,fun b z=>absurd z (noA b),e0.funs,e0.frf⟩,
    rfl,e0.bare,Un.kept hk,⟨_,x.toInCall.ns,fun i y v h1 h2 h3=>?_⟩,fun y c h=>⟨_,x.cell y c h⟩,e0.hok.fresh (Nat.le_refl _),fun y c h=>?_,fun p hp=>absurd (show p∈([]:List (Addr×Obj)) from hp) (by simp),e0.hok.kept hk,?_⟩
  · exact name_of_addr x.apart (PySem.mem_of_lookup h1) (PySem.mem_of_lookup h2)
  · have hy:scope.names.lookup y=some .cell∨scope.names.lookup y=some .free:=hy
    rcases hy with hy|hy
    · exact cell_has hy
    · exact absurd rfl (S.nofree _ (PySem.mem_of_lookup hy))
  · exact Nat.le_of_lt (x.above y c (PySem.mem_of_lookup h))
  · have hi:i<vs.length:=by
      unfold start at h2
      by_cases hi:i<vs.length
      · exact hi
      · rw [List.getElem?_append_right (by simpa using hi)] at h2
        rw [List.getElem?_replicate] at h2
        split at h2 <;> cases h2
    have ha:vs[i]?=some v:=by
      unfold start at h2
      rw [List.getElem?_append_left (by simpa using hi),List.getElem?_map] at h2
      cases e:vs[i]? with
      |none=>rw [e] at h2;cases h2
      |some a=>rw [e] at h2;cases h2;rfl
    obtain ⟨u,hu,rv⟩:=r.get ha
    have hp:ps[i]?=some y:=by
      rw [← S.pre,List.getElem?_take_of_lt (by omega)];exact h1
    have ndP:ps.Nodup:=by rw [← S.pre];exact S.nd.sublist (List.take_sublist _ _)
    refine ⟨u,rv,?_⟩
    rcases S.par y (List.mem_of_getElem? hp) with k|k
    · exact .inl ⟨k,bindL_get ndP hp hu k⟩
    · obtain ⟨c,e⟩:=cell_has (n:=s.heap.objs.size+1) k
      refine .inr ⟨.inl k,c,e,?_⟩
      have q:=x.cell y c e
      rw [bindC_get ndP hp hu (by show scope.names.lookup y≠_;rw [k];decide)] at q
      exact q
  · exact e0.hok.fresh (Nat.le_of_lt (x.above y c (PySem.mem_of_lookup h)))
  · unfold start
    show _=N.length
    rw [List.length_append,List.length_map,List.length_replicate]
    omega
theorem fn_of {CX:CXT} {P:Program} {w:World} {K:PySem.W.Frag} {mg:Str→Option Value} {base:Heap} {k:Nat} {f:Addr} {name qual:Str} {params:Arguments} {body:List Stmt} {scope:Scope} {dV kV doc pm cdv ct oc:Value} {an od:Option Addr}
    {osl:Array (Option Value)} {N ps:List Str} {sp:Sp} (lk:K.lookup f=some ⟨oc,od,.func (PySem.W.fnOf name qual params body scope dV kV doc pm an cdv ct),osl⟩) (hcd:PySem.W.codeIn K cdv qual=true) (S:FnScope N ps scope)
    (len:∀ vs H Q E,sp vs H Q E→vs.length=ps.length)
    (hbody:∀ (A:Around) (outer:List Env) (s:Shared) (H:Hp) (vs:List V) (Q:VK) (E:XK),Room k (A.deeper (envOfC qual scope s.heap.objs.size f cdv))→sp vs H Q E→
      ∃ t,PSs (cxOf CX P w K mg base N qual scope f cdv A outer s H E) body t∧t { nx:=fun _ H'=>Q .non H',rt:=Q } (start N vs) H) :
    FnOk P w K mg base CX (k+1) f (PySem.W.fnOf name qual params body scope dV kV doc pm an cdv ct) ps sp:=by
  refine ⟨len,fun A outer s H args us vs Q E hr e0 hb r hsp=>?_⟩
  have hl:=len _ _ _ _ hsp
  have KX:K.In s.heap:=e0.mod.kin.keeps fun b o e=>(e0.bs b o e).1
  have lim:s.heap.NoLimit:=e0.mod.nolimit.keeps fun b o e=>(e0.bs b o e).1
  have hkind:∀ y∈ps.zip us,scope.names.lookup y.1=some .local∨(scope.names.lookup y.1=some .cell∧((cellsFrom (s.heap.objs.size+1) scope.names []).lookup y.1).isSome=true):=fun ⟨n,v⟩ hy=>by
    rcases S.par n (List.of_mem_zip hy).1 with q|q
    · exact .inl q
    · exact .inr ⟨q,PySem.W.cellsFrom_some _ _ _ (.inl q)⟩
  refine codeAny_call_function hr.depth (KX _ _ lk) rfl S.co S.gen rfl (PySem.W.codeRec_of KX hcd) (hb _ _ _ _ ?_)
  refine wpAny_newFunctionEnv_cells S.kind hkind fun env he s1 x=>?_
  subst he
  refine ⟨lim.keeps x.toInCall.keep,codeAny_func ?_⟩
  obtain ⟨t,ht,hq⟩:=hbody A outer s H vs Q E (hr.deeper _) hsp
  have I:Inv (cxOf CX P w K mg base N qual scope f cdv A outer s H E) [] (start N vs) H s1:=inv_start S hr.hd e0 hl r x
  refine wpAny_mono (ht [] s1 (start N vs) H _ I hq) (fun fl s' hs=>?_) fun e s' hs=>hs
  have fin:∀ {σ':St} {H':Hp} {v:V} {u:Value},Inv (cxOf CX P w K mg base N qual scope f cdv A outer s H E) [] σ' H' s'→RelV v u→Q v H'→CE outer P w H s Q u s':=
    fun {σ' H' v u} J rv q=>⟨v,H',J.os,J.bare,J.base,J.hok,rv,q⟩
  cases fl with
  | ret u=>
    obtain ⟨v,σ',H',J,rv,q⟩:=hs
    exact fin J rv q
  | next=>
    obtain ⟨σ',H',J,q⟩:=hs
    exact fin (v:=V.non) (u:=Value.none) J rfl q
  | brk=>
    obtain ⟨_,_,_,q⟩:=hs
    exact False.elim q
  | cont=>
    obtain ⟨_,_,_,q⟩:=hs
    exact False.elim q
end L2
namespace L2
open PySem PySem.Spec PyProof.Rows
section
variable {X:Cx} {x:Str} {p pos:Pos} {e:Expr} {es:List Expr} {t:TA} {id T:String} {r:List V→Hp→VK→Prop}
def tCB (r:List V→Hp→VK→Prop) (t:TA):TE:=fun σ H Q=>t σ H fun vs H1=>r vs H1 Q
theorem pe_callB (hc:CallR X (.builtin id) r) (hg:Gl X x) (hm:X.mg x=none) (hv:bootBuiltins x=some (.builtin id)) (ha:PA X (e::es) t) (hn:x ≠ "__name__":=by decide) (hdb:(x == ("__debug__" : Str))=false:=by decide)
    (he:starEach (e::es) X.env=(false,eval e X.env)::starEach es X.env:=by rfl) (hpl:(backTo pos (starEach es X.env)).any (·.1)=false:=by rfl):PE X (.Call (.Name x p) (e::es) [] pos) (tCB r t):=by
  intro pins s σ H Q I h
  refine wpAny_Call_Name_kw (ld_blt I hg hm hv ?_ hn hdb)
  exact PyProof.Rows.callWith_builtin1 (thn (ha pos pins s σ H _ I h) fun us s1 ⟨vs,H1,I1,r1,q1⟩=>hc pins s1 σ H1 vs us Q I1 r1 q1) he hpl
theorem pe_callTy (hc:CallR X (.type T) r) (hg:Gl X x) (hm:X.mg x=none) (hv:bootBuiltins x=some (.type T)) (ha:PA X (e::es) t) (hn:x ≠ "__name__":=by decide) (hdb:(x == ("__debug__" : Str))=false:=by decide)
    (he:starEach (e::es) X.env=(false,eval e X.env)::starEach es X.env:=by rfl) (hpl:(backTo pos (starEach es X.env)).any (·.1)=false:=by rfl):PE X (.Call (.Name x p) (e::es) [] pos) (tCB r t):=by
  intro pins s σ H Q I h
  refine wpAny_Call_Name_kw (ld_blt I hg hm hv ?_ hn hdb)
  exact PyProof.Rows.callWith_type1 (thn (ha pos pins s σ H _ I h) fun us s1 ⟨vs,H1,I1,r1,q1⟩=>hc pins s1 σ H1 vs us Q I1 r1 q1) he hpl
end
end L2
namespace HT
open PySem PyProof.Rows
section
open PySem.SeqAt
open PySem.AutoSeq1 (wpAny_loadPart')
open PySem.MeetsSeq PySem.MeetsSeq2 PySem.MeetsSeq3
end
section
variable {prog:Program} {w:World} {A:Around} {E:Value→Shared→Prop} {s:Shared}
theorem cat_tup {t b:Addr} {vs ws:List Value} {Q:Value→Shared→Prop} (ht:IsTup s.heap t vs.toArray) (hb:IsTup s.heap b ws.toArray) (hv:vs≠[])
    (h1:ws=[]→Q (.ref t) s) (h2:ws≠[]→Q (.ref s.heap.objs.size) { s with heap:=s.heap.push { cls:=.type "tuple",data:=.seq (vs++ws).toArray } })
    (hsz:vs.length+ws.length≤sizeLine):wpAny (model prog w) A (binaryOp .Add (.ref t) (.ref b)) Q E s:=by
  obtain ⟨⟨cls,dd,data,sl⟩,ho,hc,n,hd⟩:=id ht
  obtain ⟨⟨cls2,dd2,data2,sl2⟩,ho2,hc2,n2,hd2⟩:=id hb
  simp only at hc hd hc2 hd2
  subst hc hd hc2 hd2
  have e:vs.toArray++ws.toArray=(vs++ws).toArray:=by simp
  by_cases hw:ws=[]
  · exact concat_meets ⟨_,ho,rfl⟩ ⟨_,ho2,rfl⟩ noFill_tuple_add seq_tuple_add PySem.F.slot_tuple_add PySem.F.entry_tuple_add (PySem.F.args_tuple_add_2 _ _)
      (tuple_addW1 t b vs.toArray ws.toArray n n2 dd dd2 sl sl2 (by simpa using hv) (by simp [hw])) ⟨ho,ho2,h1 hw⟩
  · refine concat_meets ⟨_,ho,rfl⟩ ⟨_,ho2,rfl⟩ noFill_tuple_add seq_tuple_add PySem.F.slot_tuple_add PySem.F.entry_tuple_add (PySem.F.args_tuple_add_2 _ _)
      (tuple_addW2 t b vs.toArray ws.toArray n n2 dd dd2 sl sl2 (by simpa using hv) (by simpa using hw) (by rw [List.size_toArray,List.size_toArray];exact hsz)) ⟨ho,ho2,?_⟩
    rw [e]
    exact h2 hw
def sIx (n d:Nat):Option Int→Nat
  |none=>d
  |some v=>if v<0 then (v+(n:Int)).toNat else min v.toNat n
theorem sIx_none (n d:Nat):sIx n d none=d:=rfl
theorem sIx_nat (n d k:Nat):sIx n d (some (k:Int))=min k n:=by
  show (if (k:Int)<0 then ((k:Int)+(n:Int)).toNat else min (k:Int).toNat n)=min k n
  rw [if_neg (by omega),Int.toNat_natCast]
theorem sIx_le (n d:Nat) (hd:d≤n) (o:Option Int):sIx n d o≤n:=by
  cases o with
  |none=>exact hd
  | some v=>
    show (if v<0 then (v+(n:Int)).toNat else min v.toNat n)≤n
    by_cases hv:v<0
    · rw [if_pos hv];omega
    · rw [if_neg hv];exact Nat.min_le_right _ _
theorem clip_eq (v:Int) (n d:Nat):(if v<0 then max (v+(n:Int)) 0 else min v (n:Int))=((sIx n d (some v):Nat):Int):=by
  show (if v<0 then max (v+(n:Int)) 0 else min v (n:Int))=(((if v<0 then (v+(n:Int)).toNat else min v.toNat n):Nat):Int)
  by_cases hv:v<0
  · simp only [if_pos hv];omega
  · simp only [if_neg hv];omega
theorem adjust_gen (lo hi:Option Int) (n:Nat):Builtin.Slice.sliceAdjust lo hi 1 (n:Int)=(((sIx n 0 lo:Nat):Int),((sIx n n hi:Nat):Int)):=by
  have h1:¬ ((1:Int)<0):=by omega
  unfold Builtin.Slice.sliceAdjust
  simp only [h1,if_false]
  refine Prod.ext ?_ ?_
  · cases lo with
    |none=>rfl
    |some v=>exact clip_eq v n 0
  · cases hi with
    |none=>rfl
    |some v=>exact clip_eq v n n
theorem places_gen (i j:Nat):Builtin.Slice.slicePlaces (i:Int) (j:Int) 1=j-i:=by
  unfold Builtin.Slice.slicePlaces
  have h1:(1:Int) > 0:=by omega
  simp only [h1,if_true,Int.ediv_one]
  split <;> omega
theorem slicePart_ {v:Value} {o:Option Int} {Q:Option Int→Shared→Prop} (p:IsPart v o) (h:Q o s):wpAny (model prog w) A (Builtin.Slice.slicePartIndex v) Q E s:=by
  cases p with
  |none=>exact slicePart_none h
  |int i t=>exact slicePart_int h
theorem sliceApplied_gen {sl:Addr} {vl vu:Value} {lo hi:Option Int} {n:Nat} {Q:Int×Int×Nat→Shared→Prop} (hs:s.heap.IsSliceOf sl vl vu .none) (pl:IsPart vl lo) (pu:IsPart vu hi)
    (h:Q (((sIx n 0 lo:Nat):Int),1,sIx n n hi-sIx n 0 lo) s):wpAny (model prog w) A (Builtin.Slice.sliceApplied (.ref sl) (pure (n:Int))) Q E s:=by
  obtain ⟨os,hos,hcs,hds⟩:=id hs
  unfold Builtin.Slice.sliceApplied Builtin.Slice.sliceFields
  refine wpAny_bind (wpAny_bind (wpAny_field hos hds (x:=vl) rfl (wpAny_bind (wpAny_field hos hds (x:=vu) rfl (wpAny_bind (wpAny_field hos hds (x:=.none) rfl (wpAny_pure ?_)))))))
  refine wpAny_bind (slicePart_none ?_)
  show wpAny _ _ (if ((1:Int) == 0)=true then _ else _) _ _ s
  rw [if_neg (by decide)]
  refine wpAny_bind (slicePart_ pl (wpAny_bind (slicePart_ pu (wpAny_bind (wpAny_pure ?_)))))
  show wpAny _ _ (match Builtin.Slice.sliceAdjust lo hi 1 (n:Int) with|(lo,hi)=>pure (lo,(1:Int),Builtin.Slice.slicePlaces lo hi 1)) _ _ s
  rw [adjust_gen lo hi n]
  show wpAny _ _ (pure (((sIx n 0 lo:Nat):Int),(1:Int),Builtin.Slice.slicePlaces ((sIx n 0 lo:Nat):Int) ((sIx n n hi:Nat):Int) 1)) _ _ s
  rw [places_gen]
  exact wpAny_pure h
theorem pick_gen (xs:Array Value) (i k:Nat):((List.range k).filterMap fun (m:Nat)=>xs[((i:Int)+(m:Int)*1).toNat]?).toArray=((xs.toList.drop i).take k).toArray:=by
  have e:(fun (m:Nat)=>xs[((i:Int)+(m:Int)*1).toNat]?)=fun m=>xs[i+m]?:=by
    funext m
    have:((i:Int)+(m:Int)*1).toNat=i+m:=by omega
    rw [this]
  rw [e]
  have:=pick_run xs i k
  rw [List.filterMap_map] at this
  have e2:((fun x=>xs[x]?) ∘ fun x=>i+x)=fun m=>xs[i+m]?:=rfl
  rw [e2] at this
  rw [this]
theorem getItem_tuple_cut {t sl:Addr} {items:Array Value} {vl vu:Value} {lo hi:Option Int} {Q:Value→Shared→Prop} (ht:IsTup s.heap t items) (hs:s.heap.IsSliceOf sl vl vu .none) (pl:IsPart vl lo) (pu:IsPart vu hi)
    (hw:¬ (sIx items.size 0 lo=0∧sIx items.size items.size hi=items.size))
    (h:Q (.ref s.heap.objs.size) { s with heap:=s.heap.push { cls:=.type "tuple",data:=.seq ((items.toList.drop (sIx items.size 0 lo)).take (sIx items.size items.size hi-sIx items.size 0 lo)).toArray } })
    (hsz:items.size≤sizeLine):wpAny (model prog w) A (getItem (.ref t) (.ref sl)) Q E s:=by
  have htake:sizeOk (.seq ((items.toList.drop (sIx items.size 0 lo)).take (sIx items.size items.size hi-sIx items.size 0 lo)).toArray):=by
    show ((items.toList.drop (sIx items.size 0 lo)).take (sIx items.size items.size hi-sIx items.size 0 lo)).toArray.size≤sizeLine
    rw [List.size_toArray,List.length_take,List.length_drop,Array.length_toList]
    omega
  have hj:sIx items.size items.size hi≤items.size:=sIx_le _ _ (Nat.le_refl _) hi
  obtain ⟨os,hos,hcs,hds⟩:=id hs
  have hTs:s.TypeIs (.ref sl) "slice":=⟨os,hos,hcs⟩
  unfold getItem
  try with_reducible refine wpAny_holding ?_
  first|refine wpAny_bind (wpAny_pure ?_)|skip
  refine wpAny_bind (wpAny_sequenceKey ht.typeIs (by decide) ?_)
  refine wpAny_bind (wpAny_callSpecial?_slot (name:=Str.ofString "__getitem__") ht.typeIs PyProof.Rows.slot_tuple_getitem
    (wpAny_call_entry PyProof.Rows.slot_tuple_getitem ht.typeIs entry_tuple_getitem ?_ (args_tuple_getitem _ _)))
  show wpAny _ _ (Builtin.Tuple.tupleItemsOf (.ref t) >>= _) _ _ s
  refine wpAny_bind (tupleItemsOf_ ht ?_)
  refine wpAny_bind (wpAny_typeOf hTs ?_)
  rw [if_pos (by decide)]
  refine wpAny_bind (sliceApplied_gen hs pl pu ?_)
  have hno:¬ ((((sIx items.size 0 lo:Nat):Int) == 0 && (1:Int) == 1 && (sIx items.size items.size hi-sIx items.size 0 lo) == items.size)=true):=by
    intro q
    rw [Bool.and_eq_true,Bool.and_eq_true] at q
    have q1:((sIx items.size 0 lo:Nat):Int)=0:=eq_of_beq q.1.1
    have q2:sIx items.size items.size hi-sIx items.size 0 lo=items.size:=eq_of_beq q.2
    exact hw ⟨by omega,by omega⟩
  show wpAny _ _ (if (((sIx items.size 0 lo:Nat):Int) == 0 && (1:Int) == 1 && (sIx items.size items.size hi-sIx items.size 0 lo) == items.size)=true then _ else _) _ _ s
  rw [if_neg hno,pick_gen]
  first
    |exact wpAny_bind (m:=Builtin.Tuple.tupleExact _) (wpAny_newObj_type (wpAny_pure ⟨_,rfl,wpAny_pure h⟩) htake)
    |exact wpAny_bind (m:=Builtin.Tuple.tupleExact _) (wpAny_newObj_type (wpAny_bind (wpAny_pure (wpAny_pure ⟨_,rfl,wpAny_pure h⟩))) htake)
    |exact wpAny_bind (wpAny_bind (m:=Builtin.Tuple.tupleExact _) (wpAny_newObj_type (wpAny_pure (wpAny_pure ⟨_,rfl,wpAny_pure h⟩)) htake))
    |exact wpAny_bind (wpAny_bind (m:=Builtin.Tuple.tupleExact _) (wpAny_newObj_type (wpAny_pure ⟨_,rfl,wpAny_pure h⟩) htake))
end
end HT
namespace L2
open PySem PySem.Spec PyProof.Rows
abbrev TO:=St→Hp→(Option Int→Hp→Prop)→Prop
def PO (X:Cx) (e:Option Expr) (t:TO):Prop:=
  ∀ (pins:List (Addr×Obj)) (s:Shared) (σ:St) (H:Hp) (Q:Option Int→Hp→Prop),Inv X pins σ H s→t σ H Q→
    wpAny (model X.prog X.w) X.A (evalPart e X.env) (fun u s'=>∃ o H',Inv X pins σ H' s'∧IsPart u o∧Q o H') X.xe s
def tNoPart:TO:=fun _ H Q=>Q none H
def tPart (t:TE):TO:=fun σ H Q=>t σ H fun x H1=>∃ i,x=.int i∧Q (some i) H1
section
variable {X:Cx} {e:Expr} {te:TE} {lo hi:Option Expr} {tl th:TO} {pos p2:Pos}
theorem po_none:PO X none tNoPart:=by
  intro pins s σ H Q I h
  rw [evalPart_none]
  exact wpAny_pure ⟨none,H,I,.none,h⟩
theorem po_some (h:PE X e te):PO X (some e) (tPart te):=by
  intro pins s σ H Q I hw
  rw [evalPart_some]
  refine thn (h pins s σ H _ I hw) fun u s1 ⟨x,H1,I1,r1,q1⟩=>?_
  obtain ⟨i,rfl,q⟩:=q1
  obtain ⟨t,rfl⟩:=r1
  exact ⟨some i,H1,I1,.int i t,q⟩
def SlR (X:Cx) (r:V→Option Int→Option Int→Hp→VK→Prop):Prop:=
  ∀ (pins:List (Addr×Obj)) (s:Shared) (σ:St) (H:Hp) (x:V) (v vl vu:Value) (lo hi:Option Int) (sl:Addr) (Q:VK),Inv X pins σ H s→RelV x v→s.heap.IsSliceOf sl vl vu .none→IsPart vl lo→IsPart vu hi→r x lo hi H Q→
    ∃ T id,typeLookup (.type T) "__getitem__" = pure (some (.builtin id))∧s.TypeIs v T∧wpAny (model X.prog X.w) X.A (getItem v (.ref sl)) (EP X pins σ Q) X.xe s
def tSl (r:V→Option Int→Option Int→Hp→VK→Prop) (te:TE) (tl th:TO):TE:=fun σ H Q=>te σ H fun x H1=>tl σ H1 fun l H2=>th σ H2 fun u H3=>r x l u H3 Q
theorem pe_slice {r:V→Option Int→Option Int→Hp→VK→Prop} (hr:SlR X r) (he:PE X e te) (hl:PO X lo tl) (hu:PO X hi th):PE X (.Subscript e (.Slice lo hi none p2) pos) (tSl r te tl th):=by
  intro pins s σ H Q I h
  refine Subscript_ (thn (he pins s σ H _ I h) fun v s1 ⟨x,H1,I1,r1,q1⟩=>?_)
  refine wpAny_Slice (thn (hl pins s1 σ H1 _ I1 q1) fun vl s2 ⟨l,H2,I2,pl,q2⟩=>thn (hu pins s2 σ H2 _ I2 q2) fun vu s3 ⟨u,H3,I3,pu,q3⟩=>?_)
  rw [evalPart_none]
  refine wpAny_pure ?_
  have I4:Inv X pins σ H3 { s3 with heap:=s3.heap.push { cls:=.type "slice",data:=.fields #[vl,vu,.none] } }:=I3.kept (t':=s3.toks) fun b ob q=>Heap.get?_push_of_some _ q
  obtain ⟨T,id,hT,ht,hg⟩:=hr pins { s3 with heap:=s3.heap.push { cls:=.type "slice",data:=.fields #[vl,vu,.none] } } σ H3 x v vl vu l u s3.heap.objs.size Q I4 r1 (Heap.IsSliceOf.new ..) pl pu q3
  show wpAny (model X.prog X.w) X.A (subscriptTail e (.Slice lo hi none p2) v (.ref s3.heap.objs.size)) (EP X pins σ Q) X.xe { s3 with heap:=s3.heap.push { cls:=.type "slice",data:=.fields #[vl,vu,.none] } }
  exact tail_any (ops:=[.ref s3.heap.objs.size,v]) ht hT hg (by with_unfolding_all rfl)
def cutV (xs:List V) (lo hi:Option Int):List V:=(xs.drop (HT.sIx xs.length 0 lo)).take (HT.sIx xs.length xs.length hi-HT.sIx xs.length 0 lo)
theorem cutV_length (xs:List V) (lo hi:Option Int):(cutV xs lo hi).length≤xs.length:=by
  unfold cutV
  rw [List.length_take,List.length_drop]
  omega
def rSlT (K:PySem.W.Frag):V→Option Int→Option Int→Hp→VK→Prop:=fun x lo hi H Q=>∃ a xs,x=.ref a∧SqT K H a xs∧
  ¬ (HT.sIx xs.length 0 lo=0∧HT.sIx xs.length xs.length hi=xs.length)∧∀ p,H p=none→Q (.ref p) (upd H p (.tup (cutV xs lo hi)))
theorem sl_tup:SlR X (rSlT X.K):=by
  intro pins s σ H x v vl vu lo hi sl Q I rx hs pl pu h
  obtain ⟨a,xs,rfl,hx,hw,q⟩:=h
  cases rx
  obtain ⟨its,r,ht,hz⟩:=I.tuple hx
  have hlen:its.toArray.size=xs.length:=by rw [List.size_toArray];exact r.length.symm
  refine ⟨"tuple",_,PyProof.Rows.slot_tuple_getitem.lookup,ht.typeIs,?_⟩
  refine HT.getItem_tuple_cut ht hs pl pu (by rw [hlen];exact hw) ?_ (by rw [hlen];exact hz)
  rw [hlen]
  refine ⟨.ref s.heap.objs.size,_,I.laid (t':=s.toks) (o:=.tup (cutV xs lo hi)) (fun b ob q=>Heap.get?_push_of_some _ q) (Nat.le_refl _) ?_,rfl,q _ (I.hok.fresh (Nat.le_refl _))⟩
  exact ⟨Nat.le_trans (cutV_length xs lo hi) hz,_,(r.drop (HT.sIx xs.length 0 lo)).take (HT.sIx xs.length xs.length hi-HT.sIx xs.length 0 lo),IsTup.new _ _⟩
def rCatT (K:PySem.W.Frag):R2:=fun x y H Q=>∃ a b xs ys,x=.ref a∧y=.ref b∧SqT K H a xs∧SqT K H b ys∧xs≠[]∧xs.length+ys.length≤sizeLine∧
  (ys=[]→Q (.ref a) H)∧(ys≠[]→∀ p,H p=none→Q (.ref p) (upd H p (.tup (xs++ys))))
theorem Vals.nil_iff {xs:List V} {us:List Value} (r:Vals xs us):us=[]↔xs=[]:=by
  cases r with
  |nil=>simp
  |cons _ _=>simp
theorem op_catT:OpR X (binaryOp .Add) (rCatT X.K):=by
  intro pins s σ H x y v u Q I rx ry h
  obtain ⟨a,b,xs,ys,rfl,rfl,ha,hb,hx,hz,q1,q2⟩:=h
  cases rx
  cases ry
  obtain ⟨its,r1,p1,_⟩:=I.tuple ha
  obtain ⟨its2,r2,p2,_⟩:=I.tuple hb
  refine HT.cat_tup p1 p2 (fun z=>hx (r1.nil_iff.mp z)) (fun z=>⟨.ref a,H,I,rfl,q1 (r2.nil_iff.mp z)⟩) (fun z=>?_) (by rw [← r1.length,← r2.length];exact hz)
  refine ⟨.ref s.heap.objs.size,_,I.laid (t':=s.toks) (o:=.tup (xs++ys)) (fun b ob q=>Heap.get?_push_of_some _ q) (Nat.le_refl _) ?_,rfl,q2 (fun w=>z (r2.nil_iff.mpr w)) _ (I.hok.fresh (Nat.le_refl _))⟩
  exact ⟨by rw [List.length_append];exact hz,_,r1.append r2,IsTup.new _ _⟩
end
end L2
namespace L2
open PySem PySem.Spec PyProof.Rows
def ixN (n:Nat) (i:Int):Option Nat:=if 0≤i then (if i<n then some i.toNat else none) else if -(n:Int)≤i then some (i+n).toNat else none
def atI {α:Type} (xs:List α) (i:Int):Option α:=(ixN xs.length i).bind fun j=>xs[j]?
theorem ixN_seq {n:Nat} {i:Int} {j:Nat} (h:ixN n i=some j):seqIndex? i n=some j∧j<n∧-(n:Int)≤i∧i<n:=by
  unfold ixN at h
  by_cases h0:0≤i
  · rw [if_pos h0] at h
    by_cases h1:i<n
    · rw [if_pos h1] at h
      have e:i.toNat=j:=Option.some.inj h
      exact ⟨by rw [seqIndex_of h0 h1,e],by omega,by omega,h1⟩
    · rw [if_neg h1] at h;cases h
  · rw [if_neg h0] at h
    by_cases h1:-(n:Int)≤i
    · rw [if_pos h1] at h
      have e:(i+n).toNat=j:=Option.some.inj h
      exact ⟨by rw [seqIndex_neg (by omega) h1,e],by omega,h1,by omega⟩
    · rw [if_neg h1] at h;cases h
theorem atI_get {α:Type} {xs:List α} {i:Int} {v:α} (h:atI xs i=some v):∃ j,seqIndex? i xs.length=some j∧xs[j]?=some v∧j<xs.length∧-(xs.length:Int)≤i∧i<xs.length:=by
  unfold atI at h
  cases e:ixN xs.length i with
  |none=>rw [e] at h;cases h
  | some j=>
    rw [e] at h
    obtain ⟨h1,h2,h3,h4⟩:=ixN_seq e
    exact ⟨j,h1,h,h2,h3,h4⟩
theorem atI_nat {α:Type} {xs:List α} {j:Nat} {v:α} (h:xs[j]?=some v):atI xs (j:Int)=some v:=by
  have hj:j<xs.length:=(List.getElem?_eq_some_iff.mp h).1
  have e:ixN xs.length (j:Int)=some j:=by
    unfold ixN
    rw [if_pos (by omega),if_pos (by omega)];simp
  unfold atI;rw [e];exact h
def PlainIx (b:Expr):Prop:=∀ o i,subscripted b false o i=operate [o,i] (getItem o i)
def IxR (X:Cx) (r:R2):Prop:=
  ∀ (value slice:Expr) (pins:List (Addr×Obj)) (s:Shared) (σ:St) (H:Hp) (x y:V) (v u:Value) (Q:VK),Inv X pins σ H s→RelV x v→RelV y u→r x y H Q→
    subscripted slice false v u=operate [v,u] (getItem v u)→wpAny (model X.prog X.w) X.A (subscriptTail value slice v u) (EP X pins σ Q) X.xe s
def MtR (X:Cx) (id:String) (r:V→List V→Hp→VK→Prop):Prop:=
  ∀ (pins:List (Addr×Obj)) (s:Shared) (σ:St) (H:Hp) (x:V) (xs:List V) (v:Value) (us:List Value) (Q:VK),Inv X pins σ H s→RelV x v→Vals xs us→r x xs H Q→
    wpAny (model X.prog X.w) X.A (call (.builtin id) (v::us)) (EP X pins σ Q) X.xe s
section
variable {X:Cx} {a b:Expr} {ta tb:TE} {pos:Pos}
theorem IxR.or {r r':R2} (h:IxR X r) (h':IxR X r'):IxR X (fun x y H Q=>r x y H Q∨r' x y H Q):=by
  intro value slice pins s σ H x y v u Q I rx ry q hs
  rcases q with q|q
  · exact h value slice pins s σ H x y v u Q I rx ry q hs
  · exact h' value slice pins s σ H x y v u Q I rx ry q hs
theorem pe_ix {r:R2} (hr:IxR X r) (ha:PE X a ta) (hb:PE X b tb) (hs:PlainIx b):PE X (.Subscript a b pos) (tOp r ta tb):=by
  intro pins s σ H Q I h
  exact Subscript_ (binT ha hb I h fun v u s2 x y H2 I2 rx ry q=>hr a b pins s2 σ H2 x y v u Q I2 rx ry q (hs _ _))
def rIxL (K:PySem.W.Frag):R2:=fun x y H Q=>∃ p xs i v,x=.ref p∧y=.int i∧SqL K H p xs∧atI xs i=some v∧Q v H
def rIxT (K:PySem.W.Frag):R2:=fun x y H Q=>∃ p xs i v,x=.ref p∧y=.int i∧SqT K H p xs∧atI xs i=some v∧Q v H
def rIxS:R2:=fun x y H Q=>∃ z i c,x=.str z∧y=.int i∧z.length≤sizeLine∧atI z.cps.toList i=some c∧Q (.str ⟨#[c]⟩) H
theorem ix_list:IxR X (rIxL X.K):=by
  intro value slice pins s σ H x y v u Q I rx ry h hs
  obtain ⟨p,xs,i,z,rfl,rfl,hq,he,q⟩:=h
  cases rx
  obtain ⟨t,rfl⟩:=ry
  obtain ⟨its,r,pl,hz⟩:=I.list hq
  obtain ⟨j,h1,h2,h3,h4,h5⟩:=atI_get he
  obtain ⟨w,ew,rw'⟩:=r.get h2
  have hl:=r.length
  have hn:=line63
  have fin:EP X pins σ Q w s:=⟨z,H,I,rw',q⟩
  by_cases h0:0≤i
  · have hj:i.toNat=j:=by
      rw [seqIndex_of h0 h5] at h1
      exact Option.some.inj h1
    exact item_listR pl.isList h0 (by omega) (by rw [hj];simpa using ew) fin hs
  · have hj:(i+(its.toArray.size:Int)).toNat=j:=by
      rw [seqIndex_neg (by omega) h4] at h1
      rw [List.size_toArray,← hl]
      exact Option.some.inj h1
    exact subscriptTail_builtinR (x:=w) pl.isList.typeIs slot_list_getitem.lookup
      (wpAny_getItem_list_neg (Q:=fun r s'=>r=w∧EP X pins σ Q r s') pl.isList (by omega) (by rw [List.size_toArray] <;> omega) (by omega) (by rw [hj];simpa using ew) ⟨rfl,fin⟩) hs
theorem ix_tup:IxR X (rIxT X.K):=by
  intro value slice pins s σ H x y v u Q I rx ry h hs
  obtain ⟨p,xs,i,z,rfl,rfl,hq,he,q⟩:=h
  cases rx
  obtain ⟨t,rfl⟩:=ry
  obtain ⟨its,r,pl,hz⟩:=I.tuple hq
  obtain ⟨j,h1,h2,h3,h4,h5⟩:=atI_get he
  obtain ⟨w,ew,rw'⟩:=r.get h2
  have hl:=r.length
  have hn:=line63
  have fin:EP X pins σ Q w s:=⟨z,H,I,rw',q⟩
  exact subscriptTail_builtinR (x:=w) pl.typeIs slot_tuple_getitem.lookup
    (getItem_tuple (j:=j) (Q:=fun r s'=>r=w∧EP X pins σ Q r s') pl (by omega) (by omega) (by rw [List.size_toArray,← hl];exact h1) (by simpa using ew) ⟨rfl,fin⟩) hs
theorem ix_str:IxR X rIxS:=by
  intro value slice pins s σ H x y v u Q I rx ry h hs
  obtain ⟨z,i,c,rfl,rfl,hz,he,q⟩:=h
  obtain ⟨t,rfl⟩:=rx
  obtain ⟨t',rfl⟩:=ry
  obtain ⟨j,h1,h2,h3,h4,h5⟩:=atI_get he
  have hl:z.cps.toList.length=z.length:=by simp [Str.length]
  rw [hl] at h1 h4 h5
  have hn:=line63
  exact tail_any (typeIs_str s z t) slot_str_getitem.lookup (getItem_str (c:=c) (by
    have e1:decide (i < -(2 ^ 63:Int))=false:=decide_eq_false (by omega)
    have e2:decide (i ≥ 2 ^ 63)=false:=decide_eq_false (by omega)
    rw [e1,e2,Bool.or_false]) (by rw [h1];simpa using h2) ⟨.str ⟨#[c]⟩,H,I.tok _,⟨_,rfl⟩,q⟩) hs
def rIx (K:PySem.W.Frag):R2:=fun x y H Q=>rIxL K x y H Q∨rIxT K x y H Q∨rIxS x y H Q
theorem ix_seq:IxR X (rIx X.K):=ix_list.or (ix_tup.or ix_str)
theorem mapSeq_set (its:List Value) (n j:Nat) (u:Value):Obj.mapSeq (·.setIfInBounds j u) { cls:=.type "list",data:=.seq its.toArray n }={ cls:=.type "list",data:=.seq (its.set j u).toArray n }:=by
  simp [Obj.mapSeq]
theorem Inv.lst {pins:List (Addr×Obj)} {σ:St} {H:Hp} {s:Shared} {p:Addr} {xs:List V} (I:Inv X pins σ H s) (h:H p=some (.lst xs)) :
    ∃ (its:List Value) (n:Nat),Vals xs its∧s.heap.get? p=some { cls:=.type "list",data:=.seq its.toArray n }∧xs.length≤sizeLine:=by
  obtain ⟨z,its,n,r,e⟩:=I.hok p _ h
  exact ⟨its,n,r,e,z⟩
theorem Inv.lstUpd {pins:List (Addr×Obj)} {σ:St} {H:Hp} {s:Shared} {p:Addr} {xs ys:List V} {its its':List Value} {n n':Nat} {f:Obj→Obj} (I:Inv X pins σ H s) (h:H p=some (.lst xs))
    (ho:s.heap.get? p=some { cls:=.type "list",data:=.seq its.toArray n }) (hf:f { cls:=.type "list",data:=.seq its.toArray n }={ cls:=.type "list",data:=.seq its'.toArray n' }) (r:Vals ys its') (hz:ys.length≤sizeLine) (t:Nat) :
    Inv X pins σ (upd H p (.lst ys)) { s with heap:=s.heap.update p f,toks:=t }:=by
  have e:(s.heap.update p f).get? p=some { cls:=.type "list",data:=.seq its'.toArray n' }:=by
    rw [Heap.get?_update_self f ho (by rw [hf] <;> rfl),hf]
  refine I.write (x:=p) (e:=p) (by rw [h];trivial) (.inl rfl) (fun b u hb q=>(Heap.get?_update_other _ _ (Ne.symm hb)).trans q) ⟨_,e⟩ ?_
  exact ⟨hz,its',n',r,e⟩
def rSetL:V→V→V→Hp→(Hp→Prop)→Prop:=fun o i v H Q=>∃ p xs k j,o=.ref p∧i=.int k∧H p=some (.lst xs)∧ixN xs.length k=some j∧Q (upd H p (.lst (xs.set j v)))
theorem set_list:PSet X rSetL:=by
  intro pins s σ H o i v ov iv u Q I ro ri rv h
  obtain ⟨p,xs,k,j,rfl,rfl,hp,hj,q⟩:=h
  cases ro
  obtain ⟨t,rfl⟩:=ri
  obtain ⟨its,n,r,ho,hz⟩:=I.lst hp
  obtain ⟨h1,h2,h3,h4⟩:=ixN_seq hj
  have hl:=r.length
  have hn:=line63
  have I':Inv X pins σ (upd H p (.lst (xs.set j v))) { s with heap:=s.heap.update p (Obj.mapSeq (·.setIfInBounds j u)) }:=
    I.lstUpd hp ho (mapSeq_set its n j u) (r.set rv j) (by rw [List.length_set];exact hz) s.toks
  by_cases h0:0≤k
  · have hk:k.toNat=j:=by
      rw [seqIndex_of h0 h4] at h1
      exact Option.some.inj h1
    exact PySem.W.ki_setAt ho h0 (by omega) (by rw [List.size_toArray,← hl];exact h4) (by rw [hk];exact ⟨_,I',q⟩)
  · have hk:(k+(its.toArray.size:Int)).toNat=j:=by
      rw [seqIndex_neg (by omega) h3] at h1
      rw [List.size_toArray,← hl]
      exact Option.some.inj h1
    exact PySem.W.ki_setBack ho (by omega) (by rw [List.size_toArray,← hl];exact h3) (by omega) (by rw [hk];exact ⟨_,I',q⟩)
theorem slice_bounds (lo hi:Option Int) (n:Nat):(sliceBounds lo hi none n).1=((HT.sIx n 0 lo:Nat):Int)∧(sliceBounds lo hi none n).2.1=((HT.sIx n n hi:Nat):Int)∧(sliceBounds lo hi none n).2.2=1:=by
  refine ⟨?_,?_,rfl⟩
  · cases lo with
    |none=>simp [sliceBounds,HT.sIx]
    | some i=>
      simp only [sliceBounds,HT.sIx,Option.getD_none,show (1:Int) > 0 by decide,if_true]
      by_cases h:i<0
      · simp only [h,if_true] <;> omega
      · simp only [h,if_false] <;> omega
  · cases hi with
    |none=>simp [sliceBounds,HT.sIx]
    | some i=>
      simp only [sliceBounds,HT.sIx,Option.getD_none,show (1:Int) > 0 by decide,if_true]
      by_cases h:i<0
      · simp only [h,if_true] <;> omega
      · simp only [h,if_false] <;> omega
theorem slicePick_cut (its:List Value) (lo hi:Option Int):slicePick its.toArray lo hi none=((its.drop (HT.sIx its.length 0 lo)).take (HT.sIx its.length its.length hi-HT.sIx its.length 0 lo)).toArray:=by
  obtain ⟨h1,h2,h3⟩:=slice_bounds lo hi its.toArray.size
  unfold slicePick
  rw [h1,h2,h3]
  simp only [sliceRange_one,pick_run,List.size_toArray] <;> rfl
def rSlL (K:PySem.W.Frag):V→Option Int→Option Int→Hp→VK→Prop:=fun x lo hi H Q=>∃ a xs,x=.ref a∧SqL K H a xs∧∀ p,H p=none→Q (.ref p) (upd H p (.lst (cutV xs lo hi)))
theorem sl_list:SlR X (rSlL X.K):=by
  intro pins s σ H x v vl vu lo hi sl Q I rx hs pl pu h
  obtain ⟨a,xs,rfl,hx,q⟩:=h
  cases rx
  obtain ⟨its,r,ht,hz⟩:=I.list hx
  have hlen:=r.length
  refine ⟨"list",_,slot_list_getitem.lookup,ht.isList.typeIs,?_⟩
  refine wpAny_getItem_list_slice ht.isList hs pl pu .none (by simp) ?_ (by rw [List.size_toArray] <;> omega)
  rw [slicePick_cut,← hlen]
  refine ⟨.ref s.heap.objs.size,_,I.laid (t':=s.toks) (o:=.lst (cutV xs lo hi)) (fun b ob q=>Heap.get?_push_of_some _ q) (Nat.le_refl _) ?_,rfl,q _ (I.hok.fresh (Nat.le_refl _))⟩
  exact ⟨Nat.le_trans (cutV_length xs lo hi) hz,_,0,(r.drop (HT.sIx xs.length 0 lo)).take (HT.sIx xs.length xs.length hi-HT.sIx xs.length 0 lo),Heap.get?_push_size _ rfl⟩
def flatV:V→Bool
  |.non=>true
  |.bl _=>true
  |.int _=>true
  |.str _=>true
  |_=>false
def eqV:V→V→Bool
  |.non,.non=>true
  |.bl a,.bl b=>a == b
  |.bl a,.int b=>(if a then 1 else 0) == b
  |.int a,.bl b=>a == (if b then 1 else 0)
  |.int a,.int b=>a == b
  |.str a,.str b=>a == b
  |_,_=>false
theorem eqAt_V {A:Around} {s:Shared} {y x:V} {u v:Value} (ry:RelV y u) (rx:RelV x v) (fy:flatV y=true) (fx:flatV x=true):SeqAt.EqAt A s u v (eqV y x):=by
  cases y with
  | non=>
    cases ry
    cases x with
    |non=>cases rx;exact SeqAt.EqAt.same _
    |bl b=>cases rx;exact SeqAt.EqAt.none_bool b
    |int b=>obtain ⟨t,rfl⟩:=rx;exact SeqAt.EqAt.none_int b t
    |str b=>obtain ⟨t,rfl⟩:=rx;exact SeqAt.EqAt.none_str b t
    |_=>exact absurd (show false=true from fx) Bool.false_ne_true
  | bl a=>
    cases ry
    cases x with
    |non=>cases rx;exact SeqAt.EqAt.bool_none a
    |bl b=>cases rx;exact SeqAt.EqAt.bool_bool a b
    |int b=>obtain ⟨t,rfl⟩:=rx;exact SeqAt.EqAt.bool_int a b t
    |str b=>obtain ⟨t,rfl⟩:=rx;exact SeqAt.EqAt.bool_str a b t
    |_=>exact absurd (show false=true from fx) Bool.false_ne_true
  | int a=>
    obtain ⟨t',rfl⟩:=ry
    cases x with
    |non=>cases rx;exact SeqAt.EqAt.int_none a t'
    |bl b=>cases rx;exact SeqAt.EqAt.int_bool a t' b
    |int b=>obtain ⟨t,rfl⟩:=rx;exact SeqAt.EqAt.int_int a t' b t
    |str b=>obtain ⟨t,rfl⟩:=rx;exact SeqAt.EqAt.int_str a t' b t
    |_=>exact absurd (show false=true from fx) Bool.false_ne_true
  | str a=>
    obtain ⟨t',rfl⟩:=ry
    cases x with
    |non=>cases rx;exact SeqAt.EqAt.str_none a t'
    |bl b=>cases rx;exact SeqAt.EqAt.str_bool a t' b
    |int b=>obtain ⟨t,rfl⟩:=rx;exact SeqAt.EqAt.str_int a t' b t
    |str b=>obtain ⟨t,rfl⟩:=rx;exact SeqAt.EqAt.str_str a t' b t
    |_=>exact absurd (show false=true from fx) Bool.false_ne_true
  |_=>exact absurd (show false=true from fy) Bool.false_ne_true
def eqU (x:V) (u:Value):Bool:=match u with
  |.none=>eqV .non x
  |.bool b=>eqV (.bl b) x
  |.int i _=>eqV (.int i) x
  |.str z _=>eqV (.str z) x
  |_=>false
theorem eqU_of {x y:V} {u:Value} (r:RelV y u) (f:flatV y=true):eqU x u=eqV y x:=by
  cases y with
  |non=>cases r;rfl
  |bl b=>cases r;rfl
  |int i=>obtain ⟨t,rfl⟩:=r;rfl
  |str z=>obtain ⟨t,rfl⟩:=r;rfl
  |_=>exact absurd (show false=true from f) Bool.false_ne_true
theorem any_eqU {x:V}:∀ {xs:List V} {us:List Value},Vals xs us→xs.all flatV=true→us.any (eqU x)=xs.any fun y=>eqV y x
  |_,_,.nil,_=>rfl
  | y::xs,u::us,.cons r t,f=>by
    rw [List.all_cons,Bool.and_eq_true] at f
    rw [List.any_cons,List.any_cons,eqU_of r f.1,any_eqU t f.2]
theorem mem_eqAt {A:Around} {s:Shared} {x:V} {v:Value} (rx:RelV x v) (fx:flatV x=true):∀ {xs:List V} {us:List Value},Vals xs us→xs.all flatV=true→∀ u∈us,SeqAt.EqAt A s u v (eqU x u)
  |_,_,.nil,_=>fun u hu=>by cases hu
  | y::xs,u::us,.cons r t,f=>fun u' hu=>by
    rw [List.all_cons,Bool.and_eq_true] at f
    rcases List.mem_cons.mp hu with rfl|hu
    · rw [eqU_of r f.1];exact eqAt_V r rx f.1 fx
    · exact mem_eqAt rx fx t f.2 u' hu
def inV (x:V) (xs:List V):Bool:=xs.any fun y=>eqV y x
def rIn (K:PySem.W.Frag) (neg:Bool):R2:=fun x y H Q=>∃ p xs,y=.ref p∧(SqL K H p xs∨SqT K H p xs)∧flatV x=true∧xs.all flatV=true∧Q (.bl (if neg then !inV x xs else inV x xs)) H
theorem op_in_seq:OpR X (compareOp .In) (rIn X.K false):=by
  intro pins s σ H x y v u Q I rx ry h
  obtain ⟨p,xs,rfl,hq,fx,fs,q⟩:=h
  cases ry
  rcases hq with hq|hq
  · obtain ⟨its,r,pl,hz⟩:=I.list hq
    refine SeqAt.in_listAt (eqU x) pl.isList (fun w hw=>mem_eqAt rx fx r fs w (by simpa using hw)) ⟨.bl _,H,I,rfl,?_⟩
    rw [show its.toArray.any (eqU x)=its.any (eqU x) by simp,any_eqU r fs]
    exact q
  · obtain ⟨its,r,pl,hz⟩:=I.tuple hq
    refine SeqAt.in_tupleAt (eqU x) pl (fun w hw=>mem_eqAt rx fx r fs w (by simpa using hw)) ⟨.bl _,H,I,rfl,?_⟩
    rw [show its.toArray.any (eqU x)=its.any (eqU x) by simp,any_eqU r fs]
    exact q
theorem call_len_seq:CallR X (.builtin "len") (fun xs H Q=>∃ p ys,xs=[.ref p]∧(SqL X.K H p ys∨SqT X.K H p ys)∧Q (.int ys.length) H):=by
  intro pins s σ H xs us Q I r h
  obtain ⟨p,ys,rfl,hq,q⟩:=h
  obtain ⟨u,rfl,rx⟩:=vals1 r
  cases rx
  have hn:=line63
  rcases hq with hq|hq
  · obtain ⟨its,r',pl,hz⟩:=I.list hq
    have hlen:=r'.length
    exact Calls.call_len_list pl.isList (by simp only [List.size_toArray] <;> omega) ⟨.int ys.length,H,I.tok _,⟨s.toks+1,by rw [List.size_toArray,hlen]⟩,q⟩
  · obtain ⟨its,r',pl,hz⟩:=I.tuple hq
    have hlen:=r'.length
    exact len_tuple pl (by simp only [List.size_toArray] <;> omega) ⟨.int ys.length,H,I.tok _,⟨s.toks+1,by rw [List.size_toArray,hlen]⟩,q⟩
theorem call_len_str:CallR X (.builtin "len") (fun xs H Q=>∃ z,xs=[.str z]∧z.length≤sizeLine∧Q (.int z.length) H):=by
  intro pins s σ H xs us Q I r h
  obtain ⟨z,rfl,hz,q⟩:=h
  obtain ⟨u,rfl,t,rfl⟩:=vals1 r
  have hn:=line63
  exact len_str (by omega) ⟨.int z.length,H,I.tok _,⟨_,rfl⟩,q⟩
theorem call_list_of:CallR X (.type "list") (fun xs H Q=>∃ p ys,xs=[.ref p]∧(SqL X.K H p ys∨SqT X.K H p ys)∧∀ l,H l=none→Q (.ref l) (upd H l (.lst ys))):=by
  intro pins s σ H xs us Q I r h
  obtain ⟨p,ys,rfl,hq,q⟩:=h
  obtain ⟨u,rfl,rx⟩:=vals1 r
  cases rx
  have fin:∀ (its:List Value),Vals ys its→ys.length≤sizeLine→∀ (h':Heap) (c':Nat),(∀ b o',s.heap.get? b=some o'→h'.get? b=some o')→
      h'.get? s.heap.objs.size=some { cls:=.type "list",dict:=none,data:=.seq its.toArray c',slots:=#[] }→EP X pins σ Q (.ref s.heap.objs.size) { s with heap:=h' }:=fun its r' hz h' c' kp e=>
    ⟨.ref s.heap.objs.size,_,I.laid (t':=s.toks) kp (Nat.le_refl _) (show ObjOk X.prog X.w _ h' _ (.lst ys) from ⟨hz,its,c',r',e⟩),rfl,q _ (I.hok.fresh (Nat.le_refl _))⟩
  rcases hq with hq|hq
  · obtain ⟨its,r',pl,hz⟩:=I.list hq
    have hlen:=r'.length
    obtain ⟨o,ho,hc,n,hd⟩:=pl.isList
    exact call_list_seq p (.inl rfl) ho hc hd (fun h' c' kp e=>fin its r' hz h' c' kp e) (by simp only [List.size_toArray] <;> omega)
  · obtain ⟨its,r',pl,hz⟩:=I.tuple hq
    have hlen:=r'.length
    obtain ⟨o,ho,hc,n,hd⟩:=pl
    exact call_list_seq p (.inr rfl) ho hc hd (fun h' c' kp e=>fin its r' hz h' c' kp e) (by simp only [List.size_toArray] <;> omega)
theorem call_tuple_of:CallR X (.type "tuple") (fun xs H Q=>∃ p ys,xs=[.ref p]∧((SqL X.K H p ys∧∀ l,H l=none→Q (.ref l) (upd H l (.tup ys)))∨(SqT X.K H p ys∧Q (.ref p) H))):=by
  intro pins s σ H xs us Q I r h
  obtain ⟨p,ys,rfl,h⟩:=h
  obtain ⟨u,rfl,rx⟩:=vals1 r
  cases rx
  rcases h with ⟨hq,q⟩|⟨hq,q⟩
  · obtain ⟨its,r',pl,hz⟩:=I.list hq
    have hlen:=r'.length
    refine call_tuple_list pl.isList (fun h' kp=>?_) (by simp only [List.size_toArray] <;> omega)
    have I1:Inv X pins σ H { s with heap:=h' }:=I.kept (t':=s.toks) kp
    have I2:Inv X pins σ (upd H h'.objs.size (.tup ys)) { s with heap:=h'.push { cls:=.type "tuple",data:=.seq its.toArray } }:=
      I1.laid (t':=s.toks) (fun b o e=>Heap.get?_push_of_some _ e) (Nat.le_refl _) (show ObjOk X.prog X.w _ _ _ (.tup ys) from ⟨hz,its,r',IsTup.new _ _⟩)
    exact ⟨.ref h'.objs.size,_,I2,rfl,q _ (I1.hok.fresh (Nat.le_refl _))⟩
  · obtain ⟨its,r',pl,hz⟩:=I.tuple hq
    exact call_tuple_same pl ⟨.ref p,H,I,rfl,q⟩
def tyV (K:PySem.W.Frag) (T:String) (x:V) (H:Hp):Prop:=match x with
  |.str _=>T = "str"
  |.int _=>T = "int"
  |.ref p=>(T = "list"∧∃ xs,SqL K H p xs)∨(T = "tuple"∧∃ o,K.lookup p=some o∧o.cls=.type "tuple"∧o.dict=none)∨
      (T = "dict"∧((∃ kvs,H p=some (.dK kvs))∨∃ kvs,H p=some (.dT kvs)))∨(T = "set"∧∃ S n,H p=some (.set S n))
  |_=>False
theorem tyV_is {pins:List (Addr×Obj)} {σ:St} {H:Hp} {s:Shared} {T:String} {x:V} {v:Value} (I:Inv X pins σ H s) (r:RelV x v) (ty:tyV X.K T x H) :
    s.TypeIs v T∧∀ a,v=.ref a→∃ ob,s.heap.get? a=some ob∧ob.dict=none:=by
  cases x with
  | str z=>
    obtain ⟨t,rfl⟩:=r
    cases (show T = "str" from ty)
    exact ⟨typeIs_str s z t,fun _ e=>nomatch e⟩
  | int i=>
    obtain ⟨t,rfl⟩:=r
    cases (show T = "int" from ty)
    exact ⟨typeIs_int s i t,fun _ e=>nomatch e⟩
  | ref p=>
    cases r
    rcases ty with ⟨rfl,xs,hq⟩|⟨rfl,o,hk,hc,hd⟩|⟨rfl,hk⟩|⟨rfl,S,n,hk⟩
    · obtain ⟨its,_,pl,_⟩:=I.list hq
      refine ⟨pl.isList.typeIs,fun a e=>?_⟩
      cases e
      obtain ⟨o,n,e,c,hd,_⟩:=pl
      exact ⟨o,e,hd⟩
    · refine ⟨⟨o,I.kIn p o hk,hc⟩,fun a e=>?_⟩
      cases e
      exact ⟨o,I.kIn _ o hk,hd⟩
    · have z:∃ o,s.heap.get? p=some o∧o.ExactDict:=by
        rcases hk with ⟨kvs,hk⟩|⟨kvs,hk⟩
        · obtain ⟨_,_,_,_,o,_,_,e,ex,_⟩:=I.hok p _ hk
          exact ⟨o,e,ex⟩
        · obtain ⟨_,_,_,_,o,_,_,e,ex,_⟩:=I.hok p _ hk
          exact ⟨o,e,ex⟩
      obtain ⟨o,e,ex⟩:=z
      refine ⟨⟨o,e,ex.1⟩,fun a e2=>?_⟩
      cases e2
      exact ⟨o,e,ex.2.1⟩
    · obtain ⟨o,_,_,_,e,ex,_⟩:=I.hok p _ hk
      refine ⟨⟨o,e,ex.1⟩,fun a e2=>?_⟩
      cases e2
      exact ⟨o,e,ex.2.1⟩
  |_=>exact False.elim ty
def tBM0 (K:PySem.W.Frag) (T:String) (r:V→List V→Hp→VK→Prop) (to:TE):TE:=fun σ H Q=>to σ H fun x H1=>tyV K T x H1∧r x [] H1 Q
def tBM (K:PySem.W.Frag) (T:String) (r:V→List V→Hp→VK→Prop) (to:TE) (t:TA):TE:=fun σ H Q=>to σ H fun x H1=>tyV K T x H1∧t σ H1 fun xs H2=>r x xs H2 Q
variable {o e:Expr} {es:List Expr} {to:TE} {t:TA} {name:Str} {apos cpos:Pos} {T id:String} {r:V→List V→Hp→VK→Prop}
theorem pe_bm0 (pa:PlainAttrs T) (slot:Slot T name id) (hty:typeOf (.builtin id)=pure (.type "method_descriptor")) (hm:MtR X id r) (ho:PE X o to)
    (hbase:attributeBase o name X.env (eval o X.env)=eval o X.env:=by rfl) (hline:(apos.endLine == cpos.line)=true:=by rfl):PE X (.Call (.Attribute o name apos) [] [] cpos) (tBM0 X.K T r to):=by
  intro pins s σ H Q I h
  refine wpAny_Call_method0_late hbase hline (thn (ho pins s σ H _ I h) fun v s1 ⟨x,H1,I1,r1,ty,q1⟩=>?_)
  obtain ⟨h1,h2⟩:=tyV_is I1 r1 ty
  exact ⟨T,id,pa,slot,hty,h1,h2,Calls.callWith_builtin rfl (PySem.evalArgs_none (hm pins s1 σ H1 x [] v [] Q I1 r1 .nil q1))⟩
theorem pe_bm (pa:PlainAttrs T) (slot:Slot T name id) (hty:typeOf (.builtin id)=pure (.type "method_descriptor")) (hm:MtR X id r) (ho:PE X o to) (ha:PA X (e::es) t)
    (hbase:attributeBase o name X.env (eval o X.env)=eval o X.env:=by rfl)
    (hfew:((backTo cpos (starEach (e::es) X.env)).all (fun x=>!x.1) && (backToKw cpos (keywordEach [] X.env)).all (fun x=>x.1.isSome)
      && decide ((e::es).length+([]:List Keyword).length+(if ([]:List Keyword).isEmpty then 0 else 1)<30))=true:=by rfl)
    (hline:(apos.endLine == cpos.line)=true:=by rfl) (hs:starEach (e::es) X.env=(false,eval e X.env)::starEach es X.env:=by rfl) (hplain:(backTo cpos (starEach es X.env)).any (·.1)=false:=by rfl) :
    PE X (.Call (.Attribute o name apos) (e::es) [] cpos) (tBM X.K T r to t):=by
  intro pins s σ H Q I h
  refine wpAny_Call_method_late hbase hfew hline rfl (thn (ho pins s σ H _ I h) fun v s1 ⟨x,H1,I1,r1,ty,q1⟩=>?_)
  obtain ⟨h1,h2⟩:=tyV_is I1 r1 ty
  refine ⟨T,id,pa,slot,hty,h1,h2,?_⟩
  have hA:=ha cpos pins s1 σ H1 _ I1 q1
  rw [hs] at hA ⊢
  refine Calls.callWith_builtin (by show (false || (backTo cpos (starEach es X.env)).any (·.1))=false;rw [hplain] <;> rfl) (Calls.evalArgs_plain ?_)
  exact thn hA fun us s2 ⟨vs,H2,I2,r2,q2⟩=>hm pins s2 σ H2 x vs v us Q I2 r1 r2 q2
end
end L2
namespace L2
open PySem PySem.Spec PyProof.Rows
def MtM (X:Cx) (id:String) (r:V→List V→Hp→VK→Prop):Prop:=
  ∀ (pins:List (Addr×Obj)) (s:Shared) (σ:St) (H:Hp) (x:V) (xs:List V) (v:Value) (us:List Value) (Q:VK),Inv X pins σ H s→RelV x v→Vals xs us→r x xs H Q→
    wpAny (model X.prog X.w) X.A (call (.builtin id) (v::us)) (EP X pins σ Q) X.xe s
theorem Vals.one:∀ {x:V} {us:List Value},Vals [x] us→∃ u,us=[u]∧RelV x u
  |_,_,.cons r .nil=>⟨_,rfl,r⟩
theorem Vals.zero:∀ {us:List Value},Vals [] us→us=[]
  |_,.nil=>rfl
theorem Vals.dropLast {xs:List V} {us:List Value} (h:Vals xs us):Vals xs.dropLast us.dropLast:=by
  induction h with
  |nil=>exact .nil
  | cons r t ih=>
    cases t with
    |nil=>exact .nil
    |cons q t'=>exact .cons r ih
theorem erase_last {α:Type} (l:List α):l.eraseIdx (l.length-1)=l.dropLast:=by
  induction l with
  |nil=>rfl
  | cons a r ih=>
    cases r with
    |nil=>rfl
    | cons b r=>
      have e:(a::b::r).length-1=((b::r).length-1)+1:=by
        have h1:(a::b::r).length=r.length+2:=rfl
        have h2:(b::r).length=r.length+1:=rfl
        omega
      rw [e,List.eraseIdx_cons_succ,ih]
      all_goals rfl
section
variable {X:Cx} {pins:List (Addr×Obj)} {σ:St} {H:Hp} {s:Shared} {l b:Addr} {xs ys zs:List V}
theorem Inv.lset {its its':List Value} {n:Nat} {f:Array Value→Array Value} {t':Nat} (I:Inv X pins σ H s) (hH:H l=some (.lst xs))
    (e:s.heap.get? l=some { cls:=.type "list",data:=.seq its.toArray n }) (hf:f its.toArray=its'.toArray) (hv:Vals ys its') (hz:ys.length≤sizeLine) :
    Inv X pins σ (upd H l (.lst ys)) { s with heap:=s.heap.update l (Obj.mapSeq f),toks:=t' }:=by
  have q:=PySem.IsL.update e f
  rw [hf] at q
  refine I.write (x:=l) (e:=l) (by rw [hH];exact trivial) (.inl rfl) (fun b' u hb hu=>(Heap.get?_update_other s.heap (Obj.mapSeq f) (Ne.symm hb)).trans hu) ⟨_,q⟩ ?_
  exact ⟨hz,its',_,hv,q⟩
theorem Inv.lnew {its:List Value} {t':Nat} (I:Inv X pins σ H s) (hv:Vals ys its) (hz:ys.length≤sizeLine) :
    Inv X pins σ (upd H s.heap.objs.size (.lst ys)) { s with heap:=s.heap.push { cls:=.type "list",data:=.seq its.toArray },toks:=t' }:=
  I.laid (fun _ _ q=>Heap.get?_push_of_some _ q) (Nat.le_refl _) ⟨hz,its,0,hv,Heap.get?_push_size _ rfl⟩
theorem Inv.fresh (I:Inv X pins σ H s):H s.heap.objs.size=none:=I.hok.fresh (Nat.le_refl _)
theorem Inv.lstM (I:Inv X pins σ H s) (hH:H l=some (.lst xs)):xs.length≤sizeLine∧∃ (its:List Value) (n:Nat),Vals xs its∧xs.length=its.length∧s.heap.get? l=some { cls:=.type "list",data:=.seq its.toArray n }:=by
  obtain ⟨z,its,n,r,e⟩:=I.hok l _ hH
  exact ⟨z,its,n,r,r.length,e⟩
theorem notLongL {n:Nat} (h:n≤sizeLine):Builtin.List.listTooLong n=false:=by
  unfold Builtin.List.listTooLong
  exact decide_eq_false (by omega)
end
section
variable {X:Cx}
def rAppend:V→List V→Hp→VK→Prop:=fun x vs H Q=>∃ l xs y,x=.ref l∧vs=[y]∧H l=some (.lst xs)∧xs.length<sizeLine∧Q .non (upd H l (.lst (xs++[y])))
theorem mt_append:MtM X "list.append" rAppend:=by
  intro pins s σ H x vs v us Q I rx rv h
  obtain ⟨l,xs,y,rfl,rfl,hH,hz,q⟩:=h
  cases rx
  obtain ⟨u,rfl,ru⟩:=rv.one
  obtain ⟨z,its,n,r,hl,e⟩:=I.lstM hH
  refine call_meets F.slot_list_append ⟨_,e,rfl⟩ F.entry_list_append (F.args_list_append_2 _ _) (PySem.list_append l its.toArray n u (by rw [List.size_toArray];omega)) ⟨e,?_⟩
  refine ⟨.non,_,I.lset (its':=its++[u]) hH e (by simp) (r.append (.cons ru .nil)) ?_,rfl,q⟩
  rw [List.length_append,List.length_singleton]
  omega
def rExtend:V→List V→Hp→VK→Prop:=fun x vs H Q=>∃ l b xs zs,x=.ref l∧vs=[.ref b]∧H l=some (.lst xs)∧H b=some (.lst zs)∧xs.length+zs.length≤sizeLine∧Q .non (upd H l (.lst (xs++zs)))
theorem mt_extend:MtM X "list.extend" rExtend:=by
  intro pins s σ H x vs v us Q I rx rv h
  obtain ⟨l,b,xs,zs,rfl,rfl,hH,hB,hz,q⟩:=h
  cases rx
  obtain ⟨u,rfl,ru⟩:=rv.one
  cases ru
  obtain ⟨z,its,n,r,hl,e⟩:=I.lstM hH
  obtain ⟨z2,its2,n2,r2,hl2,e2⟩:=I.lstM hB
  have hsz:its.toArray.size+its2.toArray.size≤sizeLine:=by rw [List.size_toArray,List.size_toArray];omega
  have hlong:¬ (!its.toArray.isEmpty && Builtin.List.listTooLong (its.toArray.size+its2.toArray.size))=true:=by
    rw [notLongL hsz,Bool.and_false]
    exact Bool.false_ne_true
  refine call_meets F.slot_list_extend ⟨_,e,rfl⟩ F.entry_list_extend (F.args_list_extend_2 _ _)
    (AutoSeq1.list_extend_list_list_0 l its.toArray n b its2.toArray n2 hlong (by rw [List.size_toArray];omega) (by omega)) ⟨e,e2,?_⟩
  refine ⟨.non,_,I.lset (its':=its++its2) hH e (by simp) (r.append r2) ?_,rfl,q⟩
  rw [List.length_append]
  omega
def rPop:V→List V→Hp→VK→Prop:=fun x vs H Q=>∃ l xs y,x=.ref l∧vs=[]∧H l=some (.lst xs)∧xs[xs.length-1]?=some y∧Q y (upd H l (.lst xs.dropLast))
theorem mt_pop:MtM X "list.pop" rPop:=by
  intro pins s σ H x vs v us Q I rx rv h
  obtain ⟨l,xs,y,rfl,rfl,hH,hy,q⟩:=h
  cases rx
  have hus:=rv.zero
  subst hus
  obtain ⟨z,its,n,r,hl,e⟩:=I.lstM hH
  obtain ⟨u,hu,ru⟩:=r.get hy
  have hy':its.toArray[its.toArray.size-1]?=some u:=by
    show its.toArray[its.length-1]?=some u
    rw [← Array.getElem?_toList,← hl]
    exact hu
  refine call_meets F.slot_list_pop ⟨_,e,rfl⟩ F.entry_list_pop (F.args_list_pop_1 _) (MeetsSeq.list_pop_last l its.toArray n u hy' (by rw [List.size_toArray];omega)) ⟨e,?_⟩
  refine ⟨y,_,I.lset (its':=its.dropLast) hH e ?_ r.dropLast ?_,ru,q⟩
  · show its.toArray.eraseIdxIfInBounds (its.toArray.size-1)=its.dropLast.toArray
    rw [List.size_toArray,List.eraseIdxIfInBounds_toArray,erase_last]
  · rw [List.length_dropLast]
    omega
def rClear:V→List V→Hp→VK→Prop:=fun x vs H Q=>∃ l xs,x=.ref l∧vs=[]∧H l=some (.lst xs)∧Q .non (upd H l (.lst []))
theorem mt_clear:MtM X "list.clear" rClear:=by
  intro pins s σ H x vs v us Q I rx rv h
  obtain ⟨l,xs,rfl,rfl,hH,q⟩:=h
  cases rx
  have hus:=rv.zero
  subst hus
  obtain ⟨z,its,n,r,hl,e⟩:=I.lstM hH
  refine call_meets F.slot_list_clear ⟨_,e,rfl⟩ F.entry_list_clear (F.args_list_clear_1 _) (AutoSeq1.list_clear_list_0 l its.toArray n (by rw [List.size_toArray];omega)) ⟨e,?_⟩
  exact ⟨.non,_,I.lset (its':=[]) (ys:=[]) hH e rfl .nil (Nat.zero_le _),rfl,q⟩
def rCat:R2:=fun x y H Q=>∃ l b xs zs,x=.ref l∧y=.ref b∧H l=some (.lst xs)∧H b=some (.lst zs)∧xs.length+zs.length≤sizeLine∧∀ p,H p=none→Q (.ref p) (upd H p (.lst (xs++zs)))
theorem op_cat:OpR X (binaryOp .Add) rCat:=by
  intro pins s σ H x y v u Q I rx ry h
  obtain ⟨l,b,xs,zs,rfl,rfl,hH,hB,hz,q⟩:=h
  cases rx
  cases ry
  obtain ⟨z,its,n,r,hl,e⟩:=I.lstM hH
  obtain ⟨z2,its2,n2,r2,hl2,e2⟩:=I.lstM hB
  refine PySem.P.add_list e e2 ?_ (by rw [List.size_toArray,List.size_toArray];omega)
  have ea:its.toArray++its2.toArray=(its++its2).toArray:=by simp
  rw [ea]
  exact ⟨.ref _,_,I.lnew (t':=s.toks) (r.append r2) (by rw [List.length_append];omega),rfl,q _ I.fresh⟩
end
section
variable {prog:Program} {w:World} {A:Around} {E:Value→Shared→Prop} {s:Shared}
end
section
variable {X:Cx}
end
end L2
namespace L2
open PySem PySem.Spec PyProof.Rows
section
variable {κ:Type} [DecidableEq κ]
def valV (kvs:List (κ×V)) (k:κ):Option V:=(kvs.find? fun kv=>decide (kv.1=k)).map (·.2)
def putK (kvs:List (κ×V)) (k:κ) (v:V):List (κ×V):=
  if (kvs.any fun kv=>decide (kv.1=k))=true then kvs.map (fun kv=>if kv.1=k then (kv.1,v) else kv) else kvs++[(k,v)]
theorem valV_pos {p:κ×V} {r:List (κ×V)} {k:κ} (e:p.1=k):valV (p::r) k=some p.2:=by simp [valV,List.find?_cons,e]
theorem valV_neg {p:κ×V} {r:List (κ×V)} {k:κ} (e:¬ p.1=k):valV (p::r) k=valV r k:=by simp [valV,List.find?_cons,e]
theorem valV_any (k:κ):∀ kvs:List (κ×V),(kvs.any fun kv=>decide (kv.1=k))=(valV kvs k).isSome
  |[]=>rfl
  | p::r=>by
    rw [List.any_cons]
    by_cases e:p.1=k
    · simp only [valV_pos e,decide_eq_true e,Bool.true_or,Option.isSome_some]
    · rw [valV_neg e,decide_eq_false e,Bool.false_or];exact valV_any k r
theorem length_putK (kvs:List (κ×V)) (k:κ) (v:V):(putK kvs k v).length≤kvs.length+1:=by
  unfold putK
  split
  · rw [List.length_map];omega
  · rw [List.length_append,List.length_cons,List.length_nil];omega
theorem putK_new {kvs:List (κ×V)} {k:κ} (v:V) (h:valV kvs k=none):putK kvs k v=kvs++[(k,v)]:=by
  unfold putK
  rw [valV_any,h]
  exact if_neg (by decide)
theorem RelO.isSome_eq {o:Option V} {u:Option Value} (r:RelO o u):o.isSome=u.isSome:=by
  cases o with
  | none=>cases u with
    |none=>rfl
    |some _=>exact (show False from r).elim
  | some _=>cases u with
    |none=>exact (show False from r).elim
    |some _=>rfl
theorem KV.val {kvs:List (κ×V)} {vs:List (κ×Value)} (r:KV kvs vs) (k:κ):RelO (valV kvs k) (valueAt vs k):=by
  unfold KV at r
  induction r with
  |nil=>exact True.intro
  | @cons p q ps qs h t ih=>
    obtain ⟨h1,h2⟩:=h
    by_cases e:p.1=k
    · have e':q.1=k:=h1.symm.trans e
      have b:valueAt (q::qs) k=some q.2:=by simp [valueAt,List.find?_cons,e']
      rw [valV_pos e,b];exact h2
    · have e':¬ q.1=k:=fun z=>e (h1.trans z)
      have b:valueAt (q::qs) k=valueAt qs k:=by simp [valueAt,List.find?_cons,e']
      rw [valV_neg e,b];exact ih
theorem KV.any {kvs:List (κ×V)} {vs:List (κ×Value)} (r:KV kvs vs) (k:κ):(kvs.any fun kv=>decide (kv.1=k))=vs.any fun kv=>decide (kv.1=k):=by
  unfold KV at r
  induction r with
  |nil=>rfl
  |cons h t ih=>rw [List.any_cons,List.any_cons,ih,h.1]
theorem KV.repl {kvs:List (κ×V)} {vs:List (κ×Value)} (r:KV kvs vs) (k:κ) {y:V} {u:Value} (ry:RelV y u) :
    KV (kvs.map fun kv=>if kv.1=k then (kv.1,y) else kv) (vs.map fun kv=>if kv.1=k then (kv.1,u) else kv):=by
  unfold KV at r ⊢
  induction r with
  |nil=>exact .nil
  | @cons p q ps qs h t ih=>
    rw [List.map_cons,List.map_cons]
    refine .cons ?_ ih
    obtain ⟨h1,h2⟩:=h
    by_cases e:p.1=k
    · rw [if_pos e,if_pos (h1.symm.trans e)];exact ⟨h1,ry⟩
    · rw [if_neg e,if_neg (fun z=>e (h1.trans z))];exact ⟨h1,h2⟩
theorem KV.put {kvs:List (κ×V)} {vs:List (κ×Value)} (r:KV kvs vs) (k:κ) {y:V} {u:Value} (ry:RelV y u):KV (putK kvs k y) (stored vs k u):=by
  unfold putK stored
  rw [r.any k]
  by_cases e:(vs.any fun kv=>decide (kv.1=k))=true
  · rw [if_pos e,if_pos e];exact r.repl k ry
  · rw [if_neg e,if_neg e];exact Paired.snoc r ⟨rfl,ry⟩
theorem KV.length {kvs:List (κ×V)} {vs:List (κ×Value)} (r:KV kvs vs):kvs.length=vs.length:=Paired.length r
end
theorem kV_is {P:Program} {w:World} {k:Key} {u:Value} (r:RelV (kV k) u):(mixKind P w).is k u=true:=by
  cases k with
  |inl i=>obtain ⟨t,e⟩:=(show ∃ t,u=Value.int i t from r);subst e;exact mixKind_int P w i t
  |inr x=>obtain ⟨t,e⟩:=(show ∃ t,u=Value.str x t from r);subst e;exact mixKind_str P w x t
theorem items_are {P:Program} {w:World}:∀ {ks:List Key} {us:List Value},Vals (ks.map kV) us→ItemsAre (mixKind P w) ks us
  |[],_,r=>by rw [List.map_nil] at r;cases r;exact .nil
  | k::ks,_,r=>by
    rw [List.map_cons] at r
    cases r with
    |cons h t=>exact .cons (kV_is h) (items_are t)
abbrev KT (H:Hp):List (List Key×V)→List (List Key×Addr×Value)→Prop:=Paired fun p q=>p.1=q.1∧H q.2.1=some (.tup (p.1.map kV))∧RelV p.2 q.2.2
theorem KT.val {H:Hp} {kvs:List (List Key×V)} {xs:List (List Key×Addr×Value)} (r:KT H kvs xs) (k:List Key):RelO (valV kvs k) ((atKey xs k).map (·.2)):=by
  induction r with
  |nil=>exact True.intro
  | @cons p q ps qs h t ih=>
    obtain ⟨h1,_,h2⟩:=h
    by_cases e:p.1=k
    · have e':q.1=k:=h1.symm.trans e
      have b:atKey (q::qs) k=some q.2:=by simp [atKey,List.find?_cons,e']
      rw [valV_pos e,b];exact h2
    · have e':¬ q.1=k:=fun z=>e (h1.trans z)
      have b:atKey (q::qs) k=atKey qs k:=by simp [atKey,List.find?_cons,e']
      rw [valV_neg e,b];exact ih
theorem KT.repl {H:Hp} {kvs:List (List Key×V)} {xs:List (List Key×Addr×Value)} (r:KT H kvs xs) (k:List Key) {y:V} {u:Value} (ry:RelV y u) :
    KT H (kvs.map fun kv=>if kv.1=k then (kv.1,y) else kv) (xs.map (putAt k u)):=by
  induction r with
  |nil=>exact .nil
  | @cons p q ps qs h t ih=>
    rw [List.map_cons,List.map_cons]
    refine .cons ?_ ih
    obtain ⟨h1,h2,h3⟩:=h
    unfold putAt
    by_cases e:p.1=k
    · rw [if_pos e,if_pos (h1.symm.trans e)];exact ⟨h1,h2,ry⟩
    · rw [if_neg e,if_neg (fun z=>e (h1.trans z))];exact ⟨h1,h2,h3⟩
theorem KT.put {H:Hp} {kvs:List (List Key×V)} {xs:List (List Key×Addr×Value)} (r:KT H kvs xs) (k:List Key) {b:Addr} {y:V} {u:Value} (hb:H b=some (.tup (k.map kV))) (ry:RelV y u) :
    KT H (putK kvs k y) (storedH xs k b u):=by
  have e:(kvs.any fun kv=>decide (kv.1=k))=(atKey xs k).isSome:=by
    rw [valV_any,(r.val k).isSome_eq,Option.isSome_map]
  unfold putK storedH
  rw [e]
  by_cases q:(atKey xs k).isSome=true
  · rw [if_pos q,if_pos q];exact r.repl k ry
  · rw [if_neg q,if_neg q];exact Paired.snoc r ⟨rfl,hb,ry⟩
theorem KT.keeps {H H':Hp} {kvs:List (List Key×V)} {xs:List (List Key×Addr×Value)} (r:KT H kvs xs) (ht:∀ b ys,H b=some (.tup ys)→H' b=some (.tup ys)):KT H' kvs xs:=
  Paired.mapP r fun _ _ z=>⟨z.1,ht _ _ z.2.1,z.2.2⟩
section
variable {P:Program} {w:World} {H:Hp} {h:Heap} {a:Addr}
theorem rd_of {u:HO} (ok:HOk P w H h) (e:Rd H a u):ObjOk P w H h a u:=e.ok ok
theorem dk_rd {kvs:List (Key×V)} (ok:HOk P w H h) (e:Rd H a (.dK kvs)):kvs.length≤sizeLine∧(a == sysModules)=false∧∃ vs,KV kvs vs∧h.DictOf (mixKind P w) a vs:=
  show ObjOk P w H h a (.dK kvs) from rd_of ok e
theorem dk_of {kvs:List (Key×V)} (ok:HOk P w H h) (e:H a=some (.dK kvs)):kvs.length≤sizeLine∧(a == sysModules)=false∧∃ vs,KV kvs vs∧h.DictOf (mixKind P w) a vs:=dk_rd ok (.inl e)
theorem key_of {ks:List Key} (ok:HOk P w H h) (e:H a=some (.tup (ks.map kV))):(tupleKind (mixKind P w)).is h ks a:=by
  obtain ⟨_,its,r,o,h1,h2,n,h3⟩:=(show ObjOk P w H h a (.tup (ks.map kV)) from ok a _ e)
  exact ⟨o,its.toArray,n,h1,h2,h3,by simpa using items_are r⟩
theorem dt_rd {kvs:List (List Key×V)} (ok:HOk P w H h) (e:Rd H a (.dT kvs)):kvs.length≤sizeLine∧(a == sysModules)=false∧
    ∃ xs,KT H kvs xs∧h.DictOfH (tupleKind (mixKind P w)) a xs:=by
  obtain ⟨z,y,xs,r,o,es,ep,h1,h2,h3,h4,h5⟩:=(show ObjOk P w H h a (.dT kvs) from rd_of ok e)
  refine ⟨z,y,xs,r,o,es,ep,h1,h2,h3,h4,fun x hx=>?_,h5⟩
  have all:∀ {l:List (List Key×V)} {m:List (List Key×Addr×Value)},KT H l m→∀ x∈m,(tupleKind (mixKind P w)).is h x.1 x.2.1:=by
    intro l m q
    induction q with
    |nil=>intro x hx;exact nomatch hx
    | @cons p q ps qs hq t ih=>
      intro x hx
      rcases List.mem_cons.mp hx with e|hx
      · subst e
        exact key_of ok (by rw [← hq.1];exact hq.2.1)
      · exact ih x hx
  exact all r x hx
theorem dt_of {kvs:List (List Key×V)} (ok:HOk P w H h) (e:H a=some (.dT kvs)):kvs.length≤sizeLine∧(a == sysModules)=false∧
    ∃ xs,KT H kvs xs∧h.DictOfH (tupleKind (mixKind P w)) a xs:=dt_rd ok (.inl e)
end
def DGet (H:Hp) (a:Addr) (y:V) (r:Option V):Prop:=
  (∃ kvs k,Rd H a (.dK kvs)∧y=kV k∧r=valV kvs k)∨∃ kvs k b,Rd H a (.dT kvs)∧y=.ref b∧H b=some (.tup (k.map kV))∧r=valV kvs k
def DPut (H:Hp) (a:Addr) (y v:V) (H':Hp):Prop:=
  (∃ kvs k,H a=some (.dK kvs)∧y=kV k∧kvs.length<sizeLine∧H'=upd H a (.dK (putK kvs k v)))∨
  ∃ kvs k b,H a=some (.dT kvs)∧y=.ref b∧H b=some (.tup (k.map kV))∧kvs.length<sizeLine∧H'=upd H a (.dT (putK kvs k v))
theorem DGet.k {H:Hp} {a:Addr} {kvs:List (Key×V)} {k:Key} (e:H a=some (.dK kvs)):DGet H a (kV k) (valV kvs k):=.inl ⟨kvs,k,.inl e,rfl,rfl⟩
theorem DPut.k {H:Hp} {a:Addr} {kvs:List (Key×V)} {k:Key} {v:V} (e:H a=some (.dK kvs)) (hl:kvs.length<sizeLine):DPut H a (kV k) v (upd H a (.dK (putK kvs k v))):=.inl ⟨kvs,k,e,rfl,hl,rfl⟩
section
variable {X:Cx} {pins:List (Addr×Obj)} {σ:St} {H:Hp} {s:Shared} {a:Addr} {y v:V} {u r:Value} {o:Option V} {A:Around} {E:Value→Shared→Prop}
theorem Inv.big (I:Inv X pins σ H s):sysModules<s.heap.objs.size:=by
  have h:mainGlobals<s.heap.objs.size:=(I.mod.glob.keeps I.bk).lt
  exact Nat.lt_trans (by decide) h
theorem d_getItem {Q:Value→Shared→Prop} (hu:A.units+1<cLine) (I:Inv X pins σ H s) (g:DGet H a y (some v)) (ry:RelV y u) (h:∀ w' s',Inv X pins σ H s'→RelV v w'→Q w' s') :
    wpAny (model X.prog X.w) A (getItem (.ref a) u) Q E s:=by
  rcases g with ⟨kvs,k,e,ey,l⟩|⟨kvs,k,b,e,ey,eb,l⟩
  · subst ey
    obtain ⟨z,hd,vs,rel,dd⟩:=dk_rd I.hok e
    obtain ⟨w',hw,rw'⟩:=RelO.some_of (v:=v) (o:=valueAt vs k) (by rw [l];exact rel.val k)
    exact wpAny_getItem_of (kV_is ry) dd.mapOf hw (h w' _ (I.tok _) rw')
  · subst ey
    cases (show u=Value.ref b from ry)
    obtain ⟨z,hd,xs,rel,dd⟩:=dt_rd I.hok e
    obtain ⟨w',hw,rw'⟩:=RelO.some_of (v:=v) (o:=(atKey xs k).map (·.2)) (by rw [l];exact rel.val k)
    obtain ⟨p,hp,hp2⟩:=Option.map_eq_some_iff.mp hw
    refine wpAny_getItem_heap (tupleKind_room_in1 hu) (key_of I.hok eb) dd hp ?_
    rw [hp2]
    exact h w' _ (I.tok _) rw'
theorem d_in {Q:Value→Shared→Prop} (hu:A.units+1<cLine) (I:Inv X pins σ H s) (g:DGet H a y o) (ry:RelV y u) (h:∀ s',Inv X pins σ H s'→Q (.bool o.isSome) s') :
    wpAny (model X.prog X.w) A (compareOp .In u (.ref a)) Q E s:=by
  rcases g with ⟨kvs,k,e,ey,l⟩|⟨kvs,k,b,e,ey,eb,l⟩
  · subst ey
    obtain ⟨z,hd,vs,rel,dd⟩:=dk_rd I.hok e
    refine wpAny_in_of (kV_is ry) hd dd.mapOf ?_
    rw [← (rel.val k).isSome_eq,← l]
    exact h _ (I.tok _)
  · subst ey
    cases (show u=Value.ref b from ry)
    obtain ⟨z,hd,xs,rel,dd⟩:=dt_rd I.hok e
    refine wpAny_in_heap (tupleKind_room_in1 hu) (key_of I.hok eb) hd dd ?_
    have q:=(rel.val k).isSome_eq
    rw [Option.isSome_map] at q
    rw [← q,← l]
    exact h _ (I.tok _)
theorem d_write {h':Heap} {t':Nat} {ob:HO} (I:Inv X pins σ H s) (mu:Mut (H a)) (hs:Heap.SameBut a s.heap h') (he:∃ q,h'.get? a=some q) (new:ObjOk X.prog X.w (upd H a ob) h' a ob) :
    Inv X pins σ (upd H a ob) { s with heap:=h',toks:=t' }:=
  I.write (x:=a) (e:=a) mu (.inl rfl) (fun b q hb z=>(hs.2 b hb).trans z) he new
theorem dk_new {P:Program} {w:World} {H':Hp} {h':Heap} {kvs:List (Key×V)} {vs:List (Key×Value)} (z:kvs.length≤sizeLine) (hd:(a == sysModules)=false) (rel:KV kvs vs) (dd:h'.DictOf (mixKind P w) a vs) :
    ObjOk P w H' h' a (.dK kvs):=⟨z,hd,vs,rel,dd⟩
theorem d_setItem {H':Hp} {Q:Unit→Shared→Prop} (hu:A.units+1<cLine) (I:Inv X pins σ H s) (g:DPut H a y v H') (ry:RelV y u) (rv:RelV v r) (h:∀ s',Inv X pins σ H' s'→Q () s') :
    wpAny (model X.prog X.w) A (setItem (.ref a) u r) Q E s:=by
  rcases g with ⟨kvs,k,e,ey,l,eH⟩|⟨kvs,k,b,e,ey,eb,l,eH⟩
  · subst ey eH
    obtain ⟨z,hd,vs,rel,dd⟩:=dk_of I.hok e
    have hz:vs.length≤sizeLine:=by rw [← rel.length];exact z
    have hl:(putK kvs k v).length≤sizeLine:=by have:=length_putK kvs k v;omega
    refine wpAny_setItem_pairs (hsz:=hz) (kV_is ry) dd fun h' dd' hs=>h _ ?_
    have he:∃ q,h'.get? a=some q:=let ⟨q,_,_,hq,_⟩:=dd';⟨q,hq⟩
    exact d_write I (by rw [e];exact True.intro) hs he (dk_new hl hd (rel.put k rv) dd')
  · subst ey eH
    cases (show u=Value.ref b from ry)
    obtain ⟨z,hd,xs,rel,dd⟩:=dt_of I.hok e
    have hz:xs.length≤sizeLine:=by rw [← Paired.length rel];exact z
    have hl:(putK kvs k v).length≤sizeLine:=by have:=length_putK kvs k v;omega
    refine wpAny_setItem_heap (hsz:=hz) (tupleKind_room_in1 hu) (key_of I.hok eb) dd fun h' dd' hs=>h _ ?_
    obtain ⟨q,es,ep,hq,h2,h3,h4,_,h5⟩:=dd'
    refine d_write I (by rw [e];exact True.intro) hs ⟨q,hq⟩ ⟨hl,hd,_,(rel.put k eb rv).keeps fun c ys ec=>?_,q,es,ep,hq,h2,h3,h4,h5⟩
    rw [upd_ne (ne_of ec e (fun z=>nomatch z))]
    exact ec
end
section
variable {X:Cx} {pins:List (Addr×Obj)} {σ:St} {H:Hp} {s:Shared} {a:Addr} {kvs:List (Key×V)} {k:Key} {u:Value} {A:Around} {E:Value→Shared→Prop}
end
def NoSl (i:Expr):Prop:=∀ ov iv,subscripted i false ov iv=operate [ov,iv] (getItem ov iv)
theorem subD_of {prog:Program} {w:World} {A:Around} {E:Value→Shared→Prop} {s:Shared} {env:Env} {value slice:Expr} {pos:Pos} {T id:String} {Q:Value→Shared→Prop}
    (hl:typeLookup (.type T) "__getitem__" = pure (some (.builtin id))) (hs:NoSl slice)
    (h:wpAny (model prog w) A (eval value env) (fun o s₁=>wpAny (model prog w) A (eval slice env) (fun i s₂=>s₂.TypeIs o T∧wpAny (model prog w) A (getItem o i) Q E s₂) E s₁) E s) :
    wpAny (model prog w) A (eval (.Subscript value slice pos) env) Q E s:=by
  refine Subscript_ (wpAny_mono h (fun o s₁ h₁=>wpAny_mono h₁ (fun i s₂ h₂=>?_) fun _ _ x=>x) fun _ _ x=>x)
  obtain ⟨hT,h₂⟩:=h₂
  unfold subscriptTail
  refine wpAny_bind ?_
  rw [getitemInPython_of_ne hT.not_modules]
  refine wpAny_bind (wpAny_specialOf hT hl ?_)
  have fin:wpAny (model prog w) A (subscripted slice false o i) (fun r s₃=>wpAny (model prog w) A (letTemporaryGo value o r >>= fun _=>pure r) Q E s₃) E s₂:=by
    rw [hs o i]
    exact wpAny_operating (wpAny_mono h₂ (fun r s₃ h₃=>wpAny_bind (wpAny_letTemporaryGo (wpAny_pure h₃))) fun _ _ x=>x)
  first
    |exact wpAny_pure (wpAny_bind fin)
    |exact wpAny_bind (wpAny_pure (wpAny_bind fin))
    |exact wpAny_bind fin
theorem dict_typeIs {X:Cx} {pins:List (Addr×Obj)} {σ:St} {H:Hp} {s:Shared} {a:Addr} {y:V} {o:Option V} (I:Inv X pins σ H s) (g:DGet H a y o):s.TypeIs (.ref a) "dict":=by
  rcases g with ⟨kvs,k,e,_,_⟩|⟨kvs,k,b,e,_,_,_⟩
  · obtain ⟨_,_,vs,_,dd⟩:=dk_rd I.hok e
    exact dd.typeIs
  · obtain ⟨_,_,xs,_,dd⟩:=dt_rd I.hok e
    exact dd.typeIs
def tDGet (td ty:TE):TE:=fun σ H Q=>td σ H fun x H1=>ty σ H1 fun y H2=>∃ a v,x=.ref a∧DGet H2 a y (some v)∧Q v H2
def tDIn (ty td:TE):TE:=fun σ H Q=>ty σ H fun y H1=>td σ H1 fun x H2=>∃ a o,x=.ref a∧DGet H2 a y o∧Q (.bl o.isSome) H2
def sDPut (td ty tv:TE):TS:=fun D σ H=>tv σ H fun v H1=>td σ H1 fun x H2=>ty σ H2 fun y H3=>∃ a H4,x=.ref a∧DPut H3 a y v H4∧D.nx σ H4
section
variable {X:Cx} {o i e value:Expr} {pos pos' tpos:Pos} {td ty tv:TE}
theorem pe_dget (hu:X.A.units+1<cLine) (ho:PE X o td) (hi:PE X i ty) (hs:NoSl i):PE X (.Subscript o i pos) (tDGet td ty):=by
  intro pins s σ H Q I h
  refine subD_of PySem.F.slot_dict_getitem.lookup hs (thn (ho pins s σ H _ I h) fun u s1 ⟨x,H1,I1,rx,q1⟩=>thn (hi pins s1 σ H1 _ I1 q1) fun iv s2 ⟨y,H2,I2,ry,a,v,ex,g,q2⟩=>?_)
  subst ex
  obtain rfl:u=Value.ref a:=rx
  exact ⟨dict_typeIs I2 g,d_getItem hu I2 g ry fun w' s3 I3 rw'=>⟨v,H2,I3,rw',q2⟩⟩
theorem pc_din (hu:X.A.units+1<cLine) (hi:PE X i ty) (ho:PE X o td):PC X .In i o (tDIn ty td):=by
  intro pins s σ H Q I h
  refine thn (hi pins s σ H _ I h) fun iv s1 ⟨y,H1,I1,ry,q1⟩=>thn (ho pins s1 σ H1 _ I1 q1) fun u s2 ⟨x,H2,I2,rx,a,ov,ex,g,q2⟩=>?_
  subst ex
  obtain rfl:u=Value.ref a:=rx
  exact d_in hu I2 g ry fun s3 I3=>⟨.bl ov.isSome,H2,I3,rfl,q2⟩
theorem ps_dput (hu:X.A.units+1<cLine) (ho:PE X o td) (hi:PE X i ty) (hv:PE X value tv) (hs:swapsWith value (some (.Subscript o i pos')) pos.line X.env=pure false) :
    PS X (.Assign [.Subscript o i pos'] value pos) (sDPut td ty tv):=by
  intro pins s σ H D I h
  refine wpAny_Assign_Subscript (thn (hv pins s σ H _ I h) fun r s1 ⟨v,H1,I1,rv,q1⟩=>thn (ho pins s1 σ H1 _ I1 q1) fun u s2 ⟨x,H2,I2,rx,q2⟩=>thn (hi pins s2 σ H2 _ I2 q2) fun iv s3 ⟨y,H3,I3,ry,a,H4,ex,g,q3⟩=>?_) hs
  subst ex
  obtain rfl:u=Value.ref a:=rx
  exact d_setItem hu I3 g ry rv fun s4 I4=>⟨σ,H4,I4,q3⟩
end
theorem dk_empty {P:Program} {w:World} {H:Hp} (h:Heap) (hb:sysModules<h.objs.size):ObjOk P w H (h.push { cls:=.type "dict",data:=.dict #[] }) h.objs.size (.dK []):=
  ⟨Nat.zero_le _,beq_eq_false_iff_ne.mpr (Ne.symm (Nat.ne_of_lt hb)),[],.nil,Heap.DictOf.new h⟩
section
variable {X:Cx} {pos:Pos}
end
def tPairs:List (TE×TE)→St→Hp→(List (V×V)→Hp→Prop)→Prop
  |[],_,H,Q=>Q [] H
  |(tk,tv)::r,σ,H,Q=>tk σ H fun x H1=>tv σ H1 fun y H2=>tPairs r σ H2 fun ps H3=>Q ((x,y)::ps) H3
abbrev VV:List (V×V)→List (Value×Value)→Prop:=Paired fun p q=>RelV p.1 q.1∧RelV p.2 q.2
def PPs (X:Cx) (pos:Pos) (keys:List (Option Expr)) (values:List Expr) (trs:List (TE×TE)):Prop:=
  ∀ (pins:List (Addr×Obj)) (s:Shared) (σ:St) (H:Hp) (Q:List (V×V)→Hp→Prop),Inv X pins σ H s→tPairs trs σ H Q→
    wpAny (model X.prog X.w) X.A (evalPairs (pairTrees keys values X.env pos)) (fun vs s'=>∃ ps H',Inv X pins σ H' s'∧VV ps vs∧Q ps H') X.xe s
theorem pps_nil {X:Cx} {pos:Pos}:PPs X pos [] [] []:=fun pins s σ H Q I h=>pairTrees_nil_walk ⟨[],H,I,.nil,h⟩
theorem pps_cons {X:Cx} {pos:Pos} {k v:Expr} {ks:List (Option Expr)} {vs:List Expr} {tk tv:TE} {trs:List (TE×TE)} (hk:PE X k tk) (hv:PE X v tv) (hr:PPs X pos ks vs trs) :
    PPs X pos (some k::ks) (v::vs) ((tk,tv)::trs):=fun pins s σ H Q I h=>
  pairTrees_cons_walk (thn (hk pins s σ H _ I h) fun u s1 ⟨x,H1,I1,rx,q1⟩=>thn (hv pins s1 σ H1 _ I1 q1) fun w2 s2 ⟨y,H2,I2,ry,q2⟩=>
    thn (hr pins s2 σ H2 _ I2 q2) fun ws s3 ⟨ps,H3,I3,rel,q3⟩=>⟨(x,y)::ps,H3,I3,.cons ⟨rx,ry⟩ rel,q3⟩)
def mergeK (kvs more:List (Key×V)):List (Key×V):=more.foldl (fun acc kv=>putK acc kv.1 kv.2) kvs
theorem KV.merge:∀ {more:List (Key×V)} {rs:List (Key×Value)} {kvs:List (Key×V)} {vs:List (Key×Value)},KV more rs→KV kvs vs→KV (mergeK kvs more) (merged vs rs):=by
  intro more rs kvs vs r
  unfold KV at r
  induction r generalizing kvs vs with
  |nil=>intro q;exact q
  | @cons p q ps qs h t ih=>
    intro r0
    have e:KV (putK kvs p.1 p.2) (stored vs q.1 q.2):=by
      have:=r0.put p.1 h.2
      rw [← h.1];exact this
    exact ih e
theorem length_mergeK:∀ (more kvs:List (Key×V)),(mergeK kvs more).length≤kvs.length+more.length
  |[],kvs=>by show kvs.length≤kvs.length+0;omega
  | p::r,kvs=>by
    have h1:=length_mergeK r (putK kvs p.1 p.2)
    have h2:=length_putK kvs p.1 p.2
    show (mergeK (putK kvs p.1 p.2) r).length≤_
    rw [List.length_cons];omega
theorem carries_of {P:Program} {w:World}:∀ {kvs:List (Key×V)} {ws:List (Value×Value)},VV (kvs.map fun kv=>(kV kv.1,kv.2)) ws→∃ rs,Carries (mixKind P w) ws rs∧KV kvs rs
  |[],_,r=>by rw [List.map_nil] at r;cases r;exact ⟨[],True.intro,.nil⟩
  | p::kvs,_,r=>by
    rw [List.map_cons] at r
    cases r with
    | @cons a b as bs h t=>
      obtain ⟨rs,c,q⟩:=carries_of (P:=P) (w:=w) t
      obtain ⟨b1,b2⟩:=b
      exact ⟨(p.1,b2)::rs,⟨kV_is h.1,rfl,c⟩,.cons ⟨rfl,h.2⟩ q⟩
def tDisp (trs:List (TE×TE)):TE:=fun σ H Q=>∀ p,H p=none→tPairs trs σ (upd H p (.dK [])) fun ps H2=>H2 p=some (.dK [])∧∃ kvs:List (Key×V),ps=kvs.map (fun kv=>(kV kv.1,kv.2))∧kvs.length≤15∧Q (.ref p) (upd H2 p (.dK (mergeK [] kvs)))
theorem pe_disp {X:Cx} {pos:Pos} {keys:List (Option Expr)} {values:List Expr} {trs:List (TE×TE)} (h:PPs X pos keys values trs) (hall:keys.all (·.isSome)=true) (hl:keys.length=values.length) (h0:keys≠[])
    (h15:keys.length≤15):PE X (.Dict keys values pos) (tDisp trs):=by
  intro pins s σ H Q I q
  have hn:=I.hok.fresh (Nat.le_refl s.heap.objs.size)
  have I1:=I.laid (a:=s.heap.objs.size) (o:=.dK []) (h':=s.heap.push { cls:=.type "dict",data:=.dict #[] }) (t':=s.toks) (fun _ _ q=>Heap.get?_push_of_some _ q) (Nat.le_refl _) (dk_empty s.heap I.big)
  refine wpAny_Dict_walk (knd:=mixKind X.prog X.w) hall hl h0 h15 (thn (h pins _ σ _ _ I1 (q _ hn)) fun ws s2 ⟨ps,H2,I2,rel,e,kvs,ep,lk,q2⟩=>?_)
  subst ep
  obtain ⟨rs,c,rk⟩:=carries_of (P:=X.prog) (w:=X.w) rel
  obtain ⟨z,hd,vs0,r0,dd⟩:=dk_of I2.hok e
  cases r0
  refine ⟨rs,c,dd,fun h' dd' hs=>⟨.ref s.heap.objs.size,_,?_,rfl,q2⟩⟩
  have hz:(mergeK [] kvs).length≤sizeLine:=by
    have h1:=length_mergeK kvs []
    rw [List.length_nil] at h1
    rw [sizeLine_eq];omega
  have he:∃ q,h'.get? s.heap.objs.size=some q:=let ⟨q,_,_,hq,_⟩:=dd';⟨q,hq⟩
  exact d_write I2 (by rw [e];exact True.intro) hs he (dk_new hz hd (rk.merge .nil) dd')
section
variable {X:Cx} {pins:List (Addr×Obj)} {σ:St} {H:Hp} {s:Shared} {a:Addr} {y d:V} {u r:Value} {o:Option V} {A:Around} {E:Value→Shared→Prop}
end
section
variable {X:Cx} {o e f:Expr} {apos cpos:Pos} {td ty tx:TE}
end
section
variable {X:Cx} {pins:List (Addr×Obj)} {σ:St} {H:Hp} {s:Shared} {a:Addr} {kvs:List (Key×V)} {A:Around} {E:Value→Shared→Prop}
end
section
variable {X:Cx} {pins:List (Addr×Obj)} {σ:St} {H:Hp} {s:Shared} {a:Addr} {y:V} {u:Value} {A:Around} {E:Value→Shared→Prop}
end
end L2
namespace Att
open PySem PySem.W PySem.Calls PyProof.Rows
theorem ints_of_wellAll {P:Params} {h:Heap}:∀ (ns:List Int) (vs:List Value),WellAll P h vs (ns.map WData.int)→IntsAre vs ns:=by
  intro ns
  induction ns with
  | nil=>
    intro vs w
    rw [List.map_nil] at w
    cases w
    exact .nil
  | cons n ns ih=>
    intro vs w
    rw [List.map_cons] at w
    cases w with
    | cons a b=>
      cases a
      exact .cons _ _ (ih _ b)
theorem script_of {l:OpenLaw} {n:Nat} (hn:l.most=some n) {P:Params} {h:Heap} {args:List WData} {vals:List Value}
    (hpre:l.row.toRowW.claim.pre args=true) (hwl:WellAll P h vals args) :
    ∃ a vs ns,vals=[Value.ref a]∧args=[WData.list (ns.map WData.int)]∧h.get? a=some { cls:=.type "list",data:=.seq vs.toArray }∧IntsAre vs ns∧ns.length≤n:=by
  have hsh:WShape.hasAll [] args [.list .int]=true:=(pre_splitW hpre).1
  have hc:l.pre.holds [] { args:=args }=true:=(pre_splitW hpre).2
  obtain ⟨d,r,rfl,h1,h2⟩:=hasAllW_cons hsh
  obtain rfl:=hasAllW_nil h2
  obtain ⟨xs,rfl,h3⟩:=hasW_list h1
  obtain ⟨ns,rfl⟩:=items_int h3
  have hlen:ns.length≤n:=by
    unfold OpenLaw.pre at hc
    have h4:(WTm.not (.lt (.lit (.int (n:Int))) (.len (.arg 0)))).holds [] { args:=[.list (ns.map .int)] }=true:=by
      have h4:=(holds_andW hc).1
      rw [hn] at h4
      exact h4
    have h5:=condW_of h4 (w_not (w_lt w_lit (w_len_list (w_arg rfl))))
    rw [List.length_map] at h5
    refine Nat.le_of_not_lt fun q=>?_
    have q':(n:Int)<((ns.length:Nat):Int):=by omega
    first
      |(rw [decide_eq_true q'] at h5;exact absurd h5 (by decide))
      |(simp at h5;omega)
  cases hwl with
  | cons w1 w2=>
    cases w2
    cases w1 with
    |list ho hall=>exact ⟨_,_,ns,rfl,rfl,ho,ints_of_wellAll ns _ hall,hlen⟩
theorem post_true (l:OpenLaw) (args:List WData):l.row.toRowW.claim.post args (.bool true) args=true:=
  postW_of (r:=l.row.toRowW) (X:=(true == true))
    (show WShape.has [] (.bool true) .bool=true by first|rfl|decide|simp [WShape.has,WShape.arms,WShape.armsAll])
    (show (WTm.eq .res (.lit (.bool true))).value [] { args:=args,res:=some (.bool true),after:=args }=some (.bool (true == true)) from w_eq_bool (w_res rfl) w_lit) rfl
theorem attach_call {l:OpenLaw} {n:Nat} {q:Program} {loose:List Str} {XP:(Str→Option Value)→Heap→Prop} {YP:World→Heap→Prop} {d:DefRec}
    (hn:l.most=some n) (hdf:d.params.defaults=[])
    (call:∀ (w:World) (s₀ s₁:Shared) (mg mb:Str→Option Value) (fa:Addr) (o:Obj) (pm cd doc:Value) (a:Addr) (vs:List Value) (ns:List Int),
      Ground q loose [] XP w s₀ mg mb s₁.heap→YP w s₁.heap→
      s₁.heap.get? fa=some o→o.data=.func (docDef d.name d.params d.body d.scope pm cd doc)→s₁.heap.CodeRec cd d.name→mg d.name=some (.ref fa)→
      s₁.heap.get? a=some { cls:=.type "list",data:=.seq vs.toArray }→IntsAre vs ns→ns.length≤n→s₁.gens=#[]→
      codeAny (model l.prog w) callerA (.call (.ref fa) ⟨[.ref a],[]⟩) (fun r s'=>r=.ok (.ret (.bool true))∧OldK s₁.heap s'.heap∧s'.os=s₁.os∧AllBare s'.gens) s₁) :
    WalkO q loose XP YP l.row.toRowW d [] (fun f vs=>PySem.call f vs):=by
  intro w s₀ s₁ mg mb G Y fa o pm cd doc dV kV ho hd hcd hD hmg hg args vals as hpre hlay hrd hwl hlo
  obtain rfl:dV=.none:=Dflts.none hD hdf
  obtain rfl:kV=.none:=Dflts.noKw hD
  obtain ⟨a,vs,ns,rfl,rfl,hobj,hints,hlen⟩:=script_of hn hpre hwl
  refine enter_call (codeAny_mono (call w s₀ s₁ mg mb fa o pm cd doc a vs ns G Y ho (fd_plain hd) hcd hmg hobj hints hlen hg) fun r s' hq=>?_)
  obtain ⟨rfl,h2,h3,h4⟩:=hq
  exact ⟨.inl ⟨.bool true,.bool true,[],rfl,fun _=>rfl,.bool true,post_true l _,fun _=>⟨List.Pairwise.nil,fun _ hm=>(nomatch hm)⟩⟩,h2,h3,h4⟩
section
variable {prog:Program} {w:World} {A:Around} {E:Value→Shared→Prop} {s:Shared} {K:Frag}
end
end Att
namespace L2
open PySem PySem.Spec PyProof.Rows
theorem vals_ints:∀ {vs:List Value} {ns:List Int},IntsAre vs ns→Vals (ns.map V.int) vs
  |_,_,.nil=>.nil
  |_,_,.cons n t h=>.cons ⟨t,rfl⟩ (vals_ints h)
end L2
namespace L2
open PySem PySem.Spec PyProof.Rows
end L2
namespace L2
open PySem PySem.Spec PyProof.Rows
def inClass (s:Stmt) (j:Nat):Stmt:=match s with
  |.ClassDef _ _ _ body _ _ _ _ _ _ _=>body.getD j (.Pass ⟨0,0,0,0⟩)
  |_=>.Pass ⟨0,0,0,0⟩
def defArgs (s:Stmt):Arguments:=match s with
  |.FunctionDef _ a _ _ _ _ _ _ _ _=>a
  |_=>{ posonlyargs:=[],args:=[],vararg:=none,kwonlyargs:=[],kw_defaults:=[],kwarg:=none,defaults:=[] }
def defBody (s:Stmt):List Stmt:=match s with
  |.FunctionDef _ _ b _ _ _ _ _ _ _=>b
  |_=>[]
def defScope (s:Stmt):Scope:=match s with
  |.FunctionDef _ _ _ _ _ _ sc _ _ _=>sc
  |_=>{ kind:=.function,names:=[],isGenerator:=false,isCoroutine:=false }
abbrev CX0:CXT:=fun _ _ _ _ _ _=>False
abbrev E0:XK:=fun _ _ _=>False
theorem pass0 {X:Cx}:Passes CX0 X E0:=fun _ _ _ _ _ _ _ h=>h.elim
structure Fun (K:PySem.W.Frag) (x qual:Str) (st:Stmt) (f:Addr) (fd:FuncData):Prop where
  ex:∃ (oc:Value) (od:Option Addr) (kV doc pm:Value) (an:Option Addr) (cdv ct:Value) (osl:Array (Option Value)),
    fd=PySem.W.fnOf x qual (defArgs st) (defBody st) (defScope st) .none kV doc pm an cdv ct∧K.lookup f=some ⟨oc,od,.func fd,osl⟩∧PySem.W.codeIn K cdv qual=true
  kp:PySem.W.keepIn K (.ref f)=true
section
variable {P:Program} {w:World} {K:PySem.W.Frag} {mg:Str→Option Value} {base:Heap}
theorem Fun.ok {x qual:Str} {st:Stmt} {f:Addr} {fd:FuncData} {N ps:List Str} {k:Nat} {sp:Sp} (F:Fun K x qual st f fd) (S:FnScope N ps (defScope st)) (len:∀ vs H Q E,sp vs H Q E→vs.length=ps.length)
    (hbody:∀ (cdv:Value) (A:Around) (outer:List Env) (s:Shared) (H:Hp) (vs:List V) (Q:VK) (E:XK),Room k (A.deeper (envOfC qual (defScope st) s.heap.objs.size f cdv))→sp vs H Q E→
      ∃ t,PSs (cxOf CX0 P w K mg base N qual (defScope st) f cdv A outer s H E).nox (defBody st) t∧t { nx:=fun _ H'=>Q .non H',rt:=Q } (start N vs) H):FnOk P w K mg base CX0 (k+1) f fd ps sp:=by
  obtain ⟨oc,od,kV,doc,pm,an,cdv,ct,osl,rfl,lk,hcd⟩:=F.ex
  refine fn_of lk hcd S len fun A outer s H vs Q E hr hsp=>?_
  obtain ⟨t,h,q⟩:=hbody cdv A outer s H vs Q E hr hsp
  exact ⟨t,h.nox,q⟩
theorem Fun.binds {x qual:Str} {st:Stmt} {f:Addr} {fd:FuncData} {ps:List Str} (F:Fun K x qual st f fd)
    (h:∀ (kV doc pm:Value) (an:Option Addr) (cdv ct:Value) (us:List Value),us.length=ps.length→bindArgs (PySem.W.fnOf x qual (defArgs st) (defBody st) (defScope st) .none kV doc pm an cdv ct) ⟨us,[]⟩=pure (ps.zip us)):Binds K fd ps []:=by
  obtain ⟨oc,od,kV,doc,pm,an,cdv,ct,osl,rfl,lk,hcd⟩:=F.ex
  exact .all (h kV doc pm an cdv ct)
theorem fun_mk {x qual:Str} {st:Stmt} {f:Addr} {oc:Value} {od an:Option Addr} {osl:Array (Option Value)} {kV doc pm cdv ct:Value} (l:K.lookup f=some ⟨oc,od,.func (PySem.W.fnOf x qual (defArgs st) (defBody st) (defScope st) .none kV doc pm an cdv ct),osl⟩)
    (c:PySem.W.codeIn K cdv qual=true) (k:PySem.W.keepIn K (.ref f)=true):Fun K x qual st f (PySem.W.fnOf x qual (defArgs st) (defBody st) (defScope st) .none kV doc pm an cdv ct):=⟨⟨oc,od,kV,doc,pm,an,cdv,ct,osl,rfl,l,c⟩,k⟩
end
theorem hu_of {A:Around} {k:Nat} (hr:Room k A):A.units+1<cLine:=Nat.lt_of_le_of_lt (Nat.add_le_add_left (by decide:1≤64) _) hr.units
theorem small1000 {n:Nat} (h:n≤1000):n<sizeLine:=Nat.lt_of_le_of_lt h (by decide)
section
variable {X:Cx}
theorem pv (i:Nat) {x:Str} {pos:Pos} (hN:X.N[i]?=some x:=by rfl) (hv:Vis X.env.scope x:=by first|exact Or.inl rfl|exact Or.inr (Or.inl rfl)|exact Or.inr (Or.inr rfl)) (hd:(x == ("__debug__" : Str))=false:=by decide)
    (hcd:(x == ("__classdict__" : Str))=false:=by decide):PE X (.Name x pos) (tVar i):=pe_var hN hv hd hcd
end
theorem ite2 {c A B:Prop} [Decidable c] (h1:c→A) (h2:¬ c→B):if c then A else B:=by
  by_cases h:c
  · rw [if_pos h]
    exact h1 h
  · rw [if_neg h]
    exact h2 h
def Same (H H':Hp):Prop:=∀ b o,H b=some o→H' b=some o
theorem Same.refl (H:Hp):Same H H:=fun _ _ h=>h
theorem Same.trans {H H1 H2:Hp} (a:Same H H1) (b:Same H1 H2):Same H H2:=fun c o h=>b c o (a c o h)
theorem Same.free {H H':Hp} (e:Same H H') {l:Addr} (h:H' l=Option.none):H l=Option.none:=by
  cases q:H l with
  |none=>rfl
  | some o=>
    rw [e l o q] at h
    cases h
theorem Same.seq {K:PySem.W.Frag} {H H':Hp} {a:Addr} {xs:List V} (e:Same H H') (h:SqL K H a xs):SqL K H' a xs:=by
  rcases h with (h|⟨o,h⟩)|h
  · exact .inl (.inl (e _ _ h))
  · exact .inl (.inr ⟨o,e _ _ h⟩)
  · exact .inr h
end L2
namespace L2
open PySem PySem.Spec PyProof.Rows
section
variable {X:Cx}
end
section
variable {κ:Type} [DecidableEq κ]
theorem nd_snoc:∀ {l:List κ} {k:κ},l.Nodup→¬ k∈l→(l++[k]).Nodup
  |[],k,_,_=>by simp
  | a::r,k,h,hk=>by
    obtain ⟨h1,h2⟩:=List.nodup_cons.mp h
    show (a::(r++[k])).Nodup
    refine List.nodup_cons.mpr ⟨fun m=>?_,nd_snoc h2 fun m=>hk (List.mem_cons.mpr (Or.inr m))⟩
    rcases List.mem_append.mp m with q|q
    · exact h1 q
    · exact hk (List.mem_cons.mpr (Or.inl (List.mem_singleton.mp q).symm))
end
end L2
namespace L2
open PySem PySem.Spec PyProof.Rows
theorem closure_ok {env:Env} (scope:Scope) (h:∀ y∈scope.names,y.2=.free→∃ c,env.cells.lookup y.1=some c) :
    ∃ cl,closureFor scope env=pure cl∧(∀ x c,cl.lookup x=some c→env.cells.lookup x=some c)∧∀ x,(x,NameKind.free)∈scope.names→∃ c,cl.lookup x=some c:=by
  have go:∀ (names:List (Str×NameKind)) (acc:List (Str×Addr)),(∀ y∈names,y.2=.free→∃ c,env.cells.lookup y.1=some c)→(∀ x c,acc.lookup x=some c→env.cells.lookup x=some c)→
      ∃ cl,(forIn names acc fun x cs=>(match x with
        |(name,kind)=>if kind == NameKind.free then (do let c ← cellOf env name;pure (ForInStep.yield ((name,c)::cs))) else pure (ForInStep.yield cs):Sem (ForInStep (List (Str×Addr)))))=pure cl∧
        (∀ x c,cl.lookup x=some c→env.cells.lookup x=some c)∧(∀ x,(x,NameKind.free)∈names∨(∃ c,acc.lookup x=some c)→∃ c,cl.lookup x=some c):=by
    intro names
    induction names with
    |nil=>intro acc _ ha;exact ⟨acc,rfl,ha,fun x z=>z.elim (fun q=>nomatch q) id⟩
    | cons y r ih=>
      intro acc hy ha
      obtain ⟨n,k⟩:=y
      by_cases hk:k=.free
      · subst hk
        obtain ⟨c,hc⟩:=hy (n,.free) List.mem_cons_self rfl
        obtain ⟨cl,e,h1,h2⟩:=ih ((n,c)::acc) (fun z hz=>hy z (List.mem_cons_of_mem _ hz)) (fun x c' hx=>by
          rw [List.lookup_cons] at hx
          by_cases q:x == n
          · rw [q] at hx
            cases hx
            rw [beq_iff_eq.mp q];exact hc
          · rw [Bool.not_eq_true] at q
            rw [q] at hx
            exact ha x c' hx)
        refine ⟨cl,?_,h1,fun x z=>h2 x ?_⟩
        · rw [List.forIn_cons]
          simp only [beq_self_eq_true,if_true,cellOf,hc]
          exact e
        · have aux:∀ x,(∃ c',acc.lookup x=some c')→∃ c',((n,c)::acc).lookup x=some c':=fun x ⟨c',z⟩=>by
            rw [List.lookup_cons]
            by_cases q:x == n
            · rw [q];exact ⟨_,rfl⟩
            · rw [Bool.not_eq_true] at q
              rw [q];exact ⟨c',z⟩
          rcases z with z|z
          · rcases List.mem_cons.mp z with z|z
            · cases z
              exact .inr ⟨c,by rw [List.lookup_cons,beq_self_eq_true]⟩
            · exact .inl z
          · exact .inr (aux x z)
      · have hb:(k == NameKind.free)=false:=by simpa using hk
        obtain ⟨cl,e,h1,h2⟩:=ih acc (fun z hz=>hy z (List.mem_cons_of_mem _ hz)) ha
        refine ⟨cl,?_,h1,fun x z=>h2 x ?_⟩
        · rw [List.forIn_cons]
          simp only [hb,Bool.false_eq_true,if_false]
          exact e
        · rcases z with z|z
          · rcases List.mem_cons.mp z with z|z
            · cases z
              exact absurd rfl hk
            · exact .inl z
          · exact .inr z
  obtain ⟨cl,e,h1,h2⟩:=go scope.names [] h (fun x c z=>by simp at z)
  refine ⟨cl,?_,h1,fun x z=>h2 x (.inl z)⟩
  unfold closureFor
  exact (congrArg (fun (m:Sem (List (Str×Addr)))=>m >>= fun cs=>pure cs) e).trans rfl
def cxComp (X:Cx) (scope:Scope) (N':List Str) (cl:List (Str×Addr)) (C:Addr) (s₀:Shared) (H₀:Hp) (ex:List Addr):Cx where
  prog:=X.prog
  w:=X.w
  K:=X.K
  mg:=X.mg
  base:=X.base
  A:=X.A
  N:=N'
  s₀:=s₀
  H₀:=H₀
  env:=compEnvC scope cl C X.env
  outer:=X.stack
  stack:=X.stack
  ex:=ex
  fn:=fun _=>false
  calm:=X.calm
  pn:=[]
  xe:=fun _ _=>False
def compSt (k:Nat) (js:List Nat) (σ:St):St:=List.replicate k none++js.map fun j=>(σ[j]?).join
theorem compSt_len (k:Nat) (js:List Nat) (σ:St):(compSt k js σ).length=k+js.length:=by simp [compSt]
structure CompScope (X:Cx) (scope:Scope) (own:List Str) (js:List Nat) (N':List Str):Prop where
  kind:scope.kind=.function
  nocell:∀ y∈scope.names,y.2≠.cell
  names:∀ y∈scope.names,y.2=.local→scope.names.lookup y.1=some .local
  free:∀ y∈scope.names,y.2=.free→X.env.kindOf y.1=some .cell∨X.env.kindOf y.1=some .free
  nm:N'=own++js.map fun j=>X.N.getD j Str.empty
  fr:∀ j∈js,j<X.N.length∧(X.N.getD j Str.empty,NameKind.free)∈scope.names∧∀ k,(X.N.getD j Str.empty,k)∈scope.names→k=.free
theorem lookup_mem_free {names:List (Str×NameKind)} {x:Str} (h:(x,NameKind.free)∈names) (u:∀ k,(x,k)∈names→k=.free):names.lookup x=some .free:=by
  induction names with
  |nil=>cases h
  | cons y r ih=>
    obtain ⟨n,k⟩:=y
    rw [List.lookup_cons]
    by_cases q:x == n
    · rw [q]
      have e:x=n:=beq_iff_eq.mp q
      subst e
      rw [u k List.mem_cons_self]
    · rw [Bool.not_eq_true] at q
      rw [q]
      refine ih ?_ fun k hk=>u k (List.mem_cons_of_mem _ hk)
      rcases List.mem_cons.mp h with z|z
      · cases z
        rw [beq_self_eq_true] at q;cases q
      · exact z
theorem relabel_mem {scope:Scope} {env:Env} {x:Str} {k:NameKind} (h:(x,k)∈(relabel scope env).names) (hk:k=.cell∨k=.free) (hc:∀ y∈scope.names,y.2≠.cell):(x,NameKind.free)∈scope.names:=by
  unfold relabel at h
  obtain ⟨⟨n,k'⟩,hm,e⟩:=List.mem_map.mp h
  dsimp only at e
  by_cases q:(k' == NameKind.free && env.scope.kind == .function && env.kindOf n == some .cell)=true
  · rw [if_pos q] at e
    cases e
    rw [Bool.and_eq_true,Bool.and_eq_true] at q
    have:k'=.free:=by simpa using q.1.1
    rw [← this];exact hm
  · rw [if_neg q] at e
    cases e
    rcases hk with z|z
    · exact absurd z (hc _ hm)
    · rw [← z];exact hm
theorem lookup_relabel_free {env:Env} {x:Str}:∀ {names:List (Str×NameKind)},names.lookup x=some .free→
    (names.map fun (n,k)=>if (k == NameKind.free && env.scope.kind == .function && env.kindOf n == some .cell) then (n,NameKind.cell) else (n,k)).lookup x=some .cell∨
    (names.map fun (n,k)=>if (k == NameKind.free && env.scope.kind == .function && env.kindOf n == some .cell) then (n,NameKind.cell) else (n,k)).lookup x=some .free
  |[],h=>by simp at h
  | (n,k)::r,h=>by
    have ih:=@lookup_relabel_free env x r
    rw [List.lookup_cons] at h
    rw [List.map_cons]
    dsimp only
    by_cases q:x == n
    · rw [q] at h
      cases h
      by_cases c:(NameKind.free == NameKind.free && env.scope.kind == .function && env.kindOf n == some .cell)=true
      · rw [if_pos c,List.lookup_cons,q];exact .inl rfl
      · rw [if_neg c,List.lookup_cons,q];exact .inr rfl
    · rw [Bool.not_eq_true] at q
      rw [q] at h
      by_cases c:(k == NameKind.free && env.scope.kind == .function && env.kindOf n == some .cell)=true
      · rw [if_pos c,List.lookup_cons,q];exact ih h
      · rw [if_neg c,List.lookup_cons,q];exact ih h
section
variable {X:Cx} {pins:List (Addr×Obj)} {σ:St} {H:Hp} {s:Shared}
theorem Inv.comp {scope:Scope} {own:List Str} {js:List Nat} {N':List Str} {cl:List (Str×Addr)} {C:Addr} {h₁:Heap} {tk:Nat} {fp:List Addr} {m:Str→Option Value} (S:CompScope X scope own js N') (I:Inv X pins σ H s)
    (hc1:∀ x c,cl.lookup x=some c→X.env.cells.lookup x=some c) (hc2:∀ x,(x,NameKind.free)∈scope.names→∃ c,cl.lookup x=some c) (hC:s.heap.objs.size≤C) (hns:h₁.Ns C m) (hk:∀ b o,s.heap.get? b=some o→h₁.get? b=some o)
    (hf:∀ b∈fp,FpOk X pins H b∧b<s.heap.objs.size) (hHC:H C=none) (hfree:∀ b o,s.heap.get? b=some o→b≠C) :
    Inv (cxComp X scope N' cl C s H fp) [] (compSt own.length js σ) H { s with heap:=h₁,toks:=tk }:=by
  have ltx:∀ b o,X.s₀.heap.get? b=some o→b∉X.ex→b∉fp:=fun b o e hx hb=>by
    rcases (hf b hb).1.2.2.2.1 with z|z
    · exact hx z
    · exact absurd (Nat.lt_of_lt_of_le (Heap.lt_size e) z) (Nat.lt_irrefl _)
  refine ⟨⟨I.ok.mod,S.kind,I.ok.glob,I.ok.blt,hC,fun x y c h1 h2=>I.ok.inj x y c (hc1 x c h1) (hc1 y c h2),fun x hx=>?_,fun x c z=>(nomatch z),I.ok.hd,I.ok.frames,.inl rfl,fun b hb=>⟨Nat.ne_of_lt (Nat.lt_of_lt_of_le (hf b hb).2 hC),fun x c e=>(hf b hb).1.2.2.2.2.1 x c (hc1 x c e)⟩,I.bs,Nat.le_trans I.ok.bsz I.sz,fun b o e=>ltx b o (I.ok.bs b o e).1 (I.ok.noex b o e),fun b hb z=>?_,I.stack,I.stkFree⟩,
    rfl,I.bare,Un.kept hk,⟨m,hns,fun i x v e1 e2 e3=>?_⟩,fun x c e=>?_,hHC,fun x c e=>I.freeC x c (hc1 x c e),fun p hp=>absurd (show p∈([]:List (Addr×Obj)) from hp) (by simp),I.hok.kept hk,?_⟩
  · have hx':(relabel scope X.env).names.lookup x=some .cell∨(relabel scope X.env).names.lookup x=some .free:=hx
    rcases hx' with z|z
    · exact hc2 x (relabel_mem (PySem.mem_of_lookup z) (.inl rfl) S.nocell)
    · exact hc2 x (relabel_mem (PySem.mem_of_lookup z) (.inr rfl) S.nocell)
  · obtain ⟨_,f1,f2,_⟩:=(hf b hb).1
    rcases List.mem_cons.mp (I.stkSub b z) with q|q
    · exact f1 q
    · exact f2 q
  ·
    unfold compSt at e2
    by_cases hi:i<own.length
    · rw [List.getElem?_append_left (by simpa using hi),List.getElem?_replicate] at e2
      split at e2 <;> cases e2
    · rw [List.getElem?_append_right (by simpa using hi),List.length_replicate,List.getElem?_map] at e2
      cases ej:js[i-own.length]? with
      |none=>rw [ej] at e2;cases e2
      | some j=>
        rw [ej] at e2
        have e2':(σ[j]?).join=some v:=by simpa using e2
        have hσ:σ[j]?=some (some v):=by
          cases q:σ[j]? with
          |none=>rw [q] at e2';cases e2'
          |some o=>rw [q] at e2';exact congrArg some e2'
        have hj:=S.fr j (List.mem_of_getElem? ej)
        have hx:x=X.N.getD j Str.empty:=by
          have e1':N'[i]?=some x:=e1
          rw [S.nm,List.getElem?_append_right (by omega),List.getElem?_map,ej] at e1'
          exact (Option.some.inj e1').symm
        have hN:X.N[j]?=some x:=by
          rw [hx,List.getD_eq_getElem?_getD,List.getElem?_eq_getElem hj.1];rfl
        have hfr:scope.names.lookup x=some .free:=by rw [hx];exact lookup_mem_free hj.2.1 hj.2.2
        have hkx:=S.free (x,.free) (by rw [hx];exact hj.2.1) rfl
        have hvis:Vis X.env.scope x:=hkx.elim (fun z=>.inr (.inl z)) fun z=>.inr (.inr z)
        obtain ⟨mX,hnX,hlX⟩:=I.loc
        obtain ⟨u,r,l⟩:=hlX j x v hN hσ hvis
        refine ⟨u,r,.inr ⟨lookup_relabel_free hfr,?_⟩⟩
        rcases l with ⟨z,_⟩|⟨_,c,hc,hcell⟩
        · rcases hkx with q|q
          · have:=q.symm.trans z;cases this
          · have:=q.symm.trans z;cases this
        · obtain ⟨c',hc'⟩:=hc2 x (by rw [hx];exact hj.2.1)
          have:c'=c:=Option.some.inj ((hc1 x c' hc').symm.trans hc)
          subst this
          obtain ⟨o,ho,hd⟩:=hcell
          exact ⟨c',hc',o,hk _ _ ho,hd⟩
  · obtain ⟨v,o,ho,hd⟩:=I.cell x c (hc1 x c e)
    exact ⟨v,o,hk _ _ ho,hd⟩
  · rw [compSt_len]
    show _=N'.length
    rw [S.nm];simp
end
end L2
namespace L2
open PySem PySem.Spec PyProof.Rows
def PIfs (Y:Cx) (ifs:List Expr) (t:TT):Prop:=
  ∀ (pins:List (Addr×Obj)) (s:Shared) (σ:St) (H:Hp) (Q:Bool→Hp→Prop),Inv Y pins σ H s→t σ H Q→
    wpAny (model Y.prog Y.w) Y.A (forIn ifs true fun c r=>if r=true then do let ok ← isTrue c Y.env (eval c Y.env);pure (ForInStep.yield ok) else pure (ForInStep.yield r)) (TP Y pins σ Q) Y.xe s
def tYes:TT:=fun _ H Q=>Q true H
theorem pifs_nil {Y:Cx}:PIfs Y [] tYes:=fun _ _ _ H _ I h=>wpAny_tests_nil ⟨H,I,h⟩
theorem pifs_one {Y:Cx} {c:Expr} {t:TT} (h:PT Y c t):PIfs Y [c] t:=fun pins s σ H Q I hw=>wpAny_tests_one (h pins s σ H Q I hw)
abbrev accObj (us:List Value) (k:Nat):Obj:={ cls:=.type "list",data:=.seq us.toArray k }
def CTurn (J:It) (g:TG) (tt:TT) (te:TE) (F:List V→Hp→Prop) (W:Nat→Nat→List V→St→Hp→Prop):Prop:=
  ∀ i m ys σ H,W i m ys σ H→(J.stop i H∧F ys H)∨(J.go i H∧ys.length<sizeLine∧∀ x H1,J.yld i H x H1→g x σ H1 fun σ2 H2=>tt σ2 H2 fun b H3=>
    if b=true then te σ2 H3 fun y H4=>∃ m',m'<m∧W (i+1) m' (ys++[y]) σ2 H4 else ∃ m',m'<m∧W (i+1) m' ys σ2 H3)
theorem comp_loop {X:Cx} {scope:Scope} {N':List Str} {cl:List (Str×Addr)} {C acc it:Addr} {s₂:Shared} {H₂:Hp} {fp:List Addr} {tn:Nat→Heap→Prop} {J:It} {g:TG} {tt:TT} {te:TE} {F:List V→Hp→Prop}
    {elt tg iter:Expr} {ifs:List Expr} {pos:Pos} {R:Result→Shared→Prop} (W:Nat→Nat→List V→St→Hp→Prop) (turn:CTurn J g tt te F W) (T:Turn X.prog X.w X.K tg J fp it tn)
    (hg:PG (cxComp X scope N' cl C s₂ H₂ fp) tg g) (hc:PIfs (cxComp X scope N' cl C s₂ H₂ fp) ifs tt) (he:PE (cxComp X scope N' cl C s₂ H₂ fp) elt te) (hcalm:X.calm=true)
    (hfp:∀ b∈fp,b≠C∧b∉frs X.stack∧(∀ x c,cl.lookup x=some c→c≠b)∧b≠acc) (hacc:acc≠C∧acc∉frs X.stack∧(∀ x c,cl.lookup x=some c→c≠acc)∧s₂.heap.objs.size≤acc)
    (hR:∀ s' σ' H' ys us k,Inv (cxComp X scope N' cl C s₂ H₂ fp) [(acc,accObj us k)] σ' H' s'→Vals ys us→F ys H'→R (.ok .next) s')
    {s:Shared} {σ:St} {H:Hp} {m:Nat} (I:Inv (cxComp X scope N' cl C s₂ H₂ fp) [(acc,accObj [] 0)] σ H s) (st:tn 0 s.heap) (fr:∀ b∈fp,H b=none) (w0:W 0 m [] σ H) :
    codeAny (model X.prog X.w) X.A (.compLoop (.ListComp elt [⟨tg,iter,ifs,0⟩] scope pos) 0 (.ref it) (.ref acc) (compEnvC scope cl C X.env)) R s:=by
  refine codeAny_loop rfl (fun n s'=>∃ i ys us k σ' H',Vals ys us∧Inv (cxComp X scope N' cl C s₂ H₂ fp) [(acc,accObj us k)] σ' H' s'∧tn i s'.heap∧(∀ b∈fp,H' b=none)∧W i n ys σ' H') (fun n s3 hI=>?_) m ⟨0,[],[],0,σ,H,.nil,I,st,fr,w0⟩
  obtain ⟨i,ys,us,k,σ3,H3,rv,I3,st3,fr3,w3⟩:=hI
  show wpAny _ X.A ((compTurn (.ListComp elt [⟨tg,iter,ifs,0⟩] scope pos) 0 (.ref it) (.ref acc) (compEnvC scope cl C X.env)).onRaise (fun x=>do noteFrame x (compEnvC scope cl C X.env);theTreesLotGoes x)) _ _ s3
  refine wpAny_noted ?_
  rw [compTurn_list]
  have fpk:∀ {pins:List (Addr×Obj)} {H':Hp},(∀ p∈pins,p.1=acc∨p.1∈([]:List Addr))→(∀ b∈fp,H' b=none)→∀ b∈fp,FpOk (cxComp X scope N' cl C s₂ H₂ fp) pins H' b:=fun hp hn b hb=>
    ⟨hn b hb,(hfp b hb).1,(hfp b hb).2.1,.inl hb,(hfp b hb).2.2.1,fun p hp'=>by
      have hp'':p∈([]:List (Addr×Obj))++_:=hp'
      rcases hp p (by simpa using hp'') with z|z
      · rw [z];exact Ne.symm (hfp b hb).2.2.2
      · exact (nomatch z)⟩
  have fp1:=fpk (pins:=[(acc,accObj us k)]) (fun p hp=>.inl (by simp at hp;rw [hp])) fr3
  refine wpAny_bind (wpAny_standAt (wpAny_bind ?_))
  rcases turn i n ys σ3 H3 w3 with ⟨stop,qn⟩|⟨go,hz,step⟩
  · refine wpAny_mono (T.done (cxComp X scope N' cl C s₂ H₂ fp) rfl rfl rfl hcalm i _ s3 σ3 H3 (fun _ _=>False) I3 fp1 st3 stop) (fun r s4 ⟨hr,I4⟩=>?_) (fun _ _ z=>z.elim)
    subst hr
    exact wpAny_pure (hR s4 σ3 H3 ys us k I4 rv qn)
  · refine wpAny_mono (T.item (cxComp X scope N' cl C s₂ H₂ fp) rfl rfl rfl hcalm i _ s3 σ3 H3 (fun _ _=>False) I3 fp1 st3 go) (fun r s4 ⟨u,hr,h4⟩=>?_) (fun _ _ z=>z.elim)
    subst hr
    refine wpAny_bind (wpAny_mono h4 (fun _ s5 ⟨x,H5,I5,r5,y5,st5,fr5⟩=>?_) (fun _ _ z=>z.elim))
    have fp5:=fpk (pins:=[(acc,accObj us k)]) (fun p hp=>.inl (by simp at hp;rw [hp])) fr5
    have I5':=I5.pinned fp5 (T.obj _ _ st5)
    refine wpAny_bind (wpAny_mono (hg _ s5 σ3 H5 x u _ I5' r5 (step x H5 y5)) (fun _ s6 ⟨σ6,H6,I6,q6⟩=>?_) (fun _ _ z=>z.elim))
    refine wpAny_bind (wpAny_mono (hc _ s6 σ6 H6 _ I6 q6) (fun ok s7 ⟨H7,I7,q7⟩=>?_) (fun _ _ z=>z.elim))
    have again:∀ {s8:Shared} {σ8:St} {H8:Hp} {us8:List Value} {k8:Nat} {ys8:List V},Inv (cxComp X scope N' cl C s₂ H₂ fp) ([(acc,accObj us k)]++pinsAt fp s5.heap) σ8 H8 s8→tn (i+1) s8.heap∧∀ b∈fp,H8 b=none:=fun {s8 σ8 H8 us8 k8 ys8} I8=>
      ⟨T.keep _ _ _ st5 fun b hb o e=>(I8.pin (b,o) (List.mem_append_right _ (List.mem_append_right _ (mem_pinsAt hb e)))).1,fun b hb=>by
        obtain ⟨o,e,d⟩:=T.obj _ _ st5 b hb
        exact (I8.pin (b,o) (List.mem_append_right _ (List.mem_append_right _ (mem_pinsAt hb e)))).2.1⟩
    cases ok with
    | false=>
      rw [if_neg Bool.false_ne_true] at q7
      obtain ⟨m',hm,w7⟩:=q7
      obtain ⟨t1,t2⟩:=again (us8:=us) (k8:=k) (ys8:=ys) I7
      exact wpAny_pure ⟨rfl,m',hm,i+1,ys,us,k,σ6,H7,rv,I7.unpinned,t1,t2,w7⟩
    | true=>
      rw [if_pos rfl] at q7
      refine wpAny_bind (wpAny_bind (wpAny_mono (he _ s7 σ6 H7 _ I7 q7) (fun y s8 ⟨yv,H8,I8,r8,m',hm,w8⟩=>?_) (fun _ _ z=>z.elim)))
      obtain ⟨t1,t2⟩:=again (us8:=us) (k8:=k) (ys8:=ys) I8
      obtain ⟨e8,n8,l8,f8,d8⟩:=I8.pin (acc,accObj us k) (List.mem_append_right _ (List.mem_append_left _ List.mem_cons_self))
      have hlen:=rv.length
      have hz':us.toArray.size≤sizeLine:=by rw [List.size_toArray];omega
      refine wpAny_bind (call_meets PySem.F.slot_list_append ⟨_,e8,rfl⟩ PySem.F.entry_list_append (PySem.F.args_list_append_2 _ _) (PySem.list_append acc us.toArray k y hz') ⟨e8,?_⟩)
      have q:=PySem.IsL.update e8 (fun z=>z.push y)
      have I9:Inv (cxComp X scope N' cl C s₂ H₂ fp) [] σ6 H8 s8:=I8.pins_of fun p hp=>(nomatch hp)
      have I10:=I9.turned (t':=s8.toks) (it:=acc) (h':=s8.heap.update acc (Obj.mapSeq fun z=>z.push y)) (fun b o hb e=>(Heap.get?_update_other s8.heap _ (Ne.symm hb)).trans e) n8 hacc.1 (.inr hacc.2.2.2) hacc.2.2.1 (fun p hp=>(nomatch hp))
      have e':(us.toArray.push y)=(us++[y]).toArray:=by simp
      rw [e'] at q
      obtain ⟨k9,ek⟩:∃ k9,k9=(if ((us++[y]).toArray.size == us.toArray.size)=true then k else k+1):=⟨_,rfl⟩
      rw [← ek] at q
      have I11:=I10.pins_of (pins':=[(acc,accObj (us++[y]) k9)]) fun p hp=>by
        obtain rfl:p=(acc,accObj (us++[y]) k9):=by simpa using hp
        exact ⟨q,n8,hacc.1,hacc.2.1,fun v z=>by cases z⟩
      refine wpAny_pure (wpAny_pure ⟨rfl,m',hm,i+1,ys++[yv],us++[y],k9,σ6,H8,rv.append (.cons r8 .nil),I11,T.keep _ _ _ t1 fun b hb o e=>?_,t2,w8⟩)
      exact (Heap.get?_update_other s8.heap _ (hfp b hb).2.2.2.symm).trans e
def tComp (wi:TI) (g:TG) (tt:TT) (te:TE) (k:Nat) (js:List Nat):TE:=fun σ H Q=>wi σ H fun J H1=>∃ W:Nat→Nat→List V→St→Hp→Prop,(∃ m,W 0 m [] (compSt k js σ) H1)∧
  CTurn J g tt te (fun ys H2=>ys.length≤sizeLine∧∀ p,H2 p=none→Q (.ref p) (upd H2 p (.lst ys))) W
section
variable {X:Cx} {scope:Scope} {own:List Str} {js:List Nat} {N':List Str} {wi:TI} {g:TG} {tt:TT} {te:TE} {elt tg iter:Expr} {ifs:List Expr} {pos:Pos}
theorem comp_run {pins:List (Addr×Obj)} {σ:St} {H:Hp} {s:Shared} {it:Addr} {fp:List Addr} {tn:Nat→Heap→Prop} {J:It} {cl:List (Str×Addr)} {F:List V→Hp→Prop} {E:Value→Shared→Prop} {RR:Value→Addr→Result→Shared→Prop}
    (S:CompScope X scope own js N') (hcalm:X.calm=true) (hg:∀ cl C s₀ H₀ ex,PG (cxComp X scope N' cl C s₀ H₀ ex) tg g) (hc:∀ cl C s₀ H₀ ex,PIfs (cxComp X scope N' cl C s₀ H₀ ex) ifs tt) (he:∀ cl C s₀ H₀ ex,PE (cxComp X scope N' cl C s₀ H₀ ex) elt te)
    (hc1:∀ x c,cl.lookup x=some c→X.env.cells.lookup x=some c) (hc2:∀ x,(x,NameKind.free)∈scope.names→∃ c,cl.lookup x=some c)
    (I:Inv X pins σ H s) (T:Turn X.prog X.w X.K tg J fp it tn) (st:tn 0 s.heap) (hf:∀ b∈fp,FpOk X pins H b) (W:Nat→Nat→List V→St→Hp→Prop) {m0:Nat} (w0:W 0 m0 [] (compSt own.length js σ) H) (turn:CTurn J g tt te F W)
    (hF:∀ ys H',F ys H'→ys.length≤sizeLine)
    (fin:∀ acc C H' ys s' m,Inv X pins σ (upd H' acc (.lst ys)) s'→H' acc=none→s'.heap.Ns C m→(upd H' acc (.lst ys)) C=none→C≠X.env.locals→X.s₀.heap.objs.size≤C→(∀ x c,X.env.cells.lookup x=some c→c≠C)→(∀ p∈X.pn++pins,p.1≠C)→F ys H'→RR (.ref acc) C (.ok .next) s') :
    wpAny (model X.prog X.w) X.A (newList []) (fun acc s₃=>wpAny (model X.prog X.w) X.A (newFunctionEnv scope X.env.globals cl [] X.env.qual none .none (some X.env)) (fun cenv s₄=>
      codeAny (model X.prog X.w) X.A (.compStart (.ListComp elt [⟨tg,iter,ifs,0⟩] scope pos) 0 (.ref it) acc { cenv with scope:=relabel scope X.env }) (RR acc cenv.locals) s₄) E s₃) E s:=by
  refine wpAny_newObj_type (wpAny_newFunctionEnv S.nocell (by intro y hy;simp at hy) (fun h₁ hns₁ hsb₁=>?_) S.kind)
  dsimp only at hns₁ hsb₁ ⊢
  generalize hH2:s.heap.push { cls:=.type "list",dict:=none,data:=.seq ([]:List Value).toArray }=H2 at hns₁ hsb₁ ⊢
  have hC:H2.objs.size=s.heap.objs.size+1:=by rw [← hH2,Heap.size_push]
  have hDC:s.heap.objs.size≠H2.objs.size:=by rw [hC];exact Nat.ne_of_lt (Nat.lt_succ_self _)
  have hCle:s.heap.objs.size≤H2.objs.size:=by rw [hC];exact Nat.le_succ _
  have below:∀ b,b<s.heap.objs.size→b≠H2.objs.size∧b≠s.heap.objs.size:=fun b hb=>⟨by rw [hC];exact Nat.ne_of_lt (Nat.lt_succ_of_lt hb),Nat.ne_of_lt hb⟩
  have old:∀ b o,s.heap.get? b=some o→h₁.get? b=some o:=fun b o e=>hsb₁.extBut b o (below b (Heap.lt_size e)).1 (Heap.get?_push_of_some _ (hH2 ▸ Heap.get?_push_of_some _ e))
  have hacc:h₁.get? s.heap.objs.size=some (accObj [] 0):=hsb₁.extBut _ _ hDC (Heap.get?_push_of_some _ (hH2 ▸ Heap.get?_push_size _ rfl))
  generalize hCn:H2.objs.size=C at *
  generalize hAn:s.heap.objs.size=acc at *
  have cellLt:∀ x c,X.env.cells.lookup x=some c→c<acc:=fun x c e=>by
    obtain ⟨v,q⟩:=I.cell x c e
    rw [← hAn];exact q.lt
  have pinLt:∀ p∈X.pn++pins,p.1<acc:=fun p hp=>by rw [← hAn];exact Heap.lt_size (I.pin p hp).1
  have stkLt:∀ b∈frs X.stack,b<acc:=fun b hb=>by
    obtain ⟨_,o,ho,_⟩:=I.stack.mem hb
    rw [← hAn];exact Heap.lt_size ho
  have fpLt:∀ b∈fp,b<acc:=fun b hb=>by
    obtain ⟨o,e,_⟩:=T.obj _ _ st b hb
    rw [← hAn];exact Heap.lt_size e
  have hHC:H C=none:=I.hok.fresh (by rw [hAn];exact hCle)
  have hHA:H acc=none:=I.hok.fresh (by rw [hAn];exact Nat.le_refl _)
  have I1:Inv (cxComp X scope N' cl C s H fp) [] (compSt own.length js σ) H { s with heap:=h₁,toks:=s.toks+([]:List (Str×Value)).length }:=
    Inv.comp S I hc1 hc2 (by rw [hAn];exact hCle) hns₁ old (fun b hb=>⟨hf b hb,by rw [hAn];exact fpLt b hb⟩) hHC fun b o e=>(below b (by rw [← hAn];exact Heap.lt_size e)).1
  have I2:Inv (cxComp X scope N' cl C s H fp) [(acc,accObj [] 0)] (compSt own.length js σ) H { s with heap:=h₁,toks:=s.toks+([]:List (Str×Value)).length }:=I1.pins_of fun p hp=>by
    obtain rfl:p=(acc,accObj [] 0):=by simpa using hp
    exact ⟨hacc,hHA,hDC,fun z=>absurd (stkLt acc z) (Nat.lt_irrefl _),fun v z=>by cases z⟩
  have st1:tn 0 h₁:=T.keep _ _ _ st fun b hb o e=>old b o e
  have loop:∀ s₃:Shared,s₃={ s with heap:=h₁,toks:=s.toks+([]:List (Str×Value)).length }→
      codeAny (model X.prog X.w) X.A (.compLoop (.ListComp elt [⟨tg,iter,ifs,0⟩] scope pos) 0 (.ref it) (.ref acc) (compEnvC scope cl C X.env)) (RR (.ref acc) C) s₃:=by
    rintro s₃ rfl
    refine comp_loop W turn T (hg _ _ _ _ _) (hc _ _ _ _ _) (he _ _ _ _ _) hcalm
      (fun b hb=>⟨(below b (fpLt b hb)).1,fun z=>?_,fun x c e z=>(hf b hb).2.2.2.2.1 x c (hc1 x c e) z,(below b (fpLt b hb)).2⟩)
      ⟨hDC,fun z=>absurd (stkLt acc z) (Nat.lt_irrefl _),fun x c e z=>absurd (cellLt x c (hc1 x c e)) (by rw [z];exact Nat.lt_irrefl _),by rw [hAn];exact Nat.le_refl _⟩ ?_ I2 st1 (fun b hb=>(hf b hb).1) w0
    · rcases List.mem_cons.mp (I.stkSub b z) with q|q
      · exact (hf b hb).2.1 q
      · exact (hf b hb).2.2.1 q
    · intro s' σ' H' ys us k J' rv q
      obtain ⟨e',n',l',f',d'⟩:=J'.pin (acc,accObj us k) (List.mem_append_right _ List.mem_cons_self)
      have n'':H' acc=none:=n'
      obtain ⟨m,hm,_⟩:=J'.loc
      have oldLt:∀ b o,s.heap.get? b=some o→b<acc:=fun b o e=>by rw [← hAn];exact Heap.lt_size e
      have neA:∀ b o,s.heap.get? b=some o→b≠acc:=fun b o e=>Nat.ne_of_lt (oldLt b o e)
      have un:Un (frs X.stack) fp H (upd H' acc (.lst ys)) s.heap s'.heap:=⟨J'.base.keep,J'.base.slot,fun b o e n hx=>by rw [upd_ne (neA b o e)];exact J'.base.free b o e n hx,J'.base.there,
        fun b xs e=>by
          have z:=J'.base.tups b xs e
          rw [upd_ne (ne_of_none z n'')];exact z,
        fun b o u e=>by
          have z:=J'.base.frzs b o u e
          rw [upd_ne (ne_of_none z n'')];exact z,
        fun b ps e=>by
          obtain ⟨more,z⟩:=J'.base.tbls b ps e
          exact ⟨more,by rw [upd_ne (ne_of_none z n'')];exact z⟩⟩
      have hok:HOk X.prog X.w (upd H' acc (.lst ys)) s'.heap:=fun b u e=>by
        by_cases hb:b=acc
        · subst hb
          rw [upd_same] at e;cases e
          exact ⟨hF _ _ q,us,k,rv,e'⟩
        · rw [upd_ne hb] at e
          exact (J'.hok b u e).stay (fun c v _ z=>z) (fun c z=>by rw [upd_ne (ne_of_none z n'')];exact z) fun c xs z=>by rw [upd_ne (ne_of_none z n'')];exact z
      have IX:Inv X pins σ (upd H' acc (.lst ys)) s':=I.call' J'.os un hok J'.bare fun b hb=>⟨(hf b hb).2.2.2.1,(hf b hb).2.1,(hf b hb).2.2.2.2.1,(hf b hb).2.2.2.2.2⟩
      refine fin acc C H' ys s' m IX n'' hm ?_ ?_ ?_ ?_ ?_ q
      · rw [upd_ne (Ne.symm hDC)];exact J'.free
      · exact Nat.ne_of_gt (Nat.lt_of_lt_of_le I.lt (by rw [hAn];exact hCle))
      · exact Nat.le_trans I.sz (by rw [hAn];exact hCle)
      · exact fun x c e z=>absurd (Nat.lt_of_lt_of_le (cellLt x c e) hCle) (by rw [z];exact Nat.lt_irrefl _)
      · exact fun p hp z=>absurd (Nat.lt_of_lt_of_le (pinLt p hp) hCle) (by rw [z];exact Nat.lt_irrefl _)
  exact codeAny_compStart_list (loop _ rfl) (T.self _ 0 _ _ _ st1 (loop _ rfl))
theorem pe_comp (S:CompScope X scope own js N') (hcalm:X.calm=true) (hi:PI X tg iter wi) (hg:∀ cl C s₀ H₀ ex,PG (cxComp X scope N' cl C s₀ H₀ ex) tg g) (hc:∀ cl C s₀ H₀ ex,PIfs (cxComp X scope N' cl C s₀ H₀ ex) ifs tt)
    (he:∀ cl C s₀ H₀ ex,PE (cxComp X scope N' cl C s₀ H₀ ex) elt te) (hs:∀ x,foldedSetIterable iter X.env x=pure x:=by intro _;rfl):PE X (.ListComp elt [⟨tg,iter,ifs,0⟩] scope pos) (tComp wi g tt te own.length js):=by
  intro pins s σ H Q I h
  obtain ⟨cl,hcl,hc1,hc2⟩:=closure_ok (env:=X.env) scope fun y hy hk=>I.ok.has y.1 (S.free y hy hk)
  rw [eval_ListComp]
  refine wpAny_comprehension_free (use:=none) rfl hs hcl S.kind S.names (thn (hi pins s σ H _ I h) fun v s1 h1=>thn h1 fun itv s2 h2=>?_)
  obtain ⟨it,fp,tn,J,H2,e,I2,T,st2,f2,W,⟨m0,w0⟩,turn⟩:=h2
  subst e
  refine comp_run (RR:=fun acc C=>compPost (model X.prog X.w) X.A X.xe none (EP X pins σ Q) acc C) S hcalm hg hc he hc1 hc2 I2 T st2 f2 W w0 turn (fun ys H' q=>q.1) ?_
  intro acc C H' ys s' m IX na hm hCn hL hz hcn hpn q
  refine ⟨m,hm,fun h' hs'=>⟨.ref acc,_,?_,rfl,q.2 acc na⟩⟩
  exact IX.turned (t':=s'.toks) (it:=C) (fun b o hb e=>(hs'.2 b hb).trans e) hCn hL (.inr hz) hcn hpn
theorem ps_setComp {i:Nat} {x:Str} {pos' spos:Pos} (S:CompScope X scope own js N') (hcalm:X.calm=true) (hN:X.N.Nodup) (hx:X.N[i]?=some x) (hk:X.env.scope.names.lookup x=some .local) (hi:PI X tg iter wi) (hg:∀ cl C s₀ H₀ ex,PG (cxComp X scope N' cl C s₀ H₀ ex) tg g) (hc:∀ cl C s₀ H₀ ex,PIfs (cxComp X scope N' cl C s₀ H₀ ex) ifs tt)
    (he:∀ cl C s₀ H₀ ex,PE (cxComp X scope N' cl C s₀ H₀ ex) elt te) (hsw:swapsWith (.ListComp elt [⟨tg,iter,ifs,0⟩] scope pos) (some (.Name x pos')) spos.line X.env=pure true:=by rfl) (hs:∀ x,foldedSetIterable iter X.env x=pure x:=by intro _;rfl) :
    PS X (.Assign [.Name x pos'] (.ListComp elt [⟨tg,iter,ifs,0⟩] scope pos) spos) (tAsg (tComp wi g tt te own.length js) (gName i)):=by
  intro pins s σ H D I h
  obtain ⟨cl,hcl,hc1,hc2⟩:=closure_ok (env:=X.env) scope fun y hy hk=>I.ok.has y.1 (S.free y hy hk)
  rw [exec_Assign_Name_used _ _ _ _ hsw]
  refine wpAny_bind (wpAny_standAt (wpAny_bind ?_))
  show wpAny _ X.A (do let _ ← comprehension (.ListComp elt [⟨tg,iter,ifs,0⟩] scope pos) scope X.env _ (newList []) false (eval iter X.env) (some (assign (.Name x pos') X.env))) _ _ s
  refine wpAny_bind (wpAny_mono (wpAny_comprehension_free (use:=some (assign (.Name x pos') X.env)) (Q:=fun _ s'=>SP X pins D .next s') rfl hs hcl S.kind S.names
    (thn (hi pins s σ H _ I h) fun v s1 h1=>thn h1 fun itv s2 h2=>?_)) (fun _ s' hq=>wpAny_pure (wpAny_pure hq)) fun _ _ e=>e)
  obtain ⟨it,fp,tn,J,H2,e,I2,T,st2,f2,W,⟨m0,w0⟩,turn⟩:=h2
  subst e
  refine comp_run (RR:=fun acc C=>compPost (model X.prog X.w) X.A X.xe (some (assign (.Name x pos') X.env)) (fun _ s'=>SP X pins D .next s') acc C) S hcalm hg hc he hc1 hc2 I2 T st2 f2 W w0 turn (fun ys H' q=>q.1) ?_
  intro acc C H' ys s' m IX na hm hCn hL hz hcn hpn q
  show wpAny _ X.A (assign (.Name x pos') X.env (.ref acc)) _ _ s'
  refine wpAny_assign_Name (store_ok2 IX hN hx (.inl hk) (v:=.ref acc) rfl (fun s'' I'' hsb=>?_) (.inr hk))
  obtain ⟨a,hsb,ha⟩:=hsb
  have haC:C≠a:=by
    rcases ha with z|z
    · rw [z];exact hL
    · exact fun q=>hcn x a z q.symm
  refine ⟨m,hm.sameBut hsb haC,fun h' hs'=>⟨_,_,?_,q.2 acc na⟩⟩
  exact I''.turned (t':=s''.toks) (it:=C) (fun b o hb e=>(hs'.2 b hb).trans e) hCn hL (.inr hz) hcn hpn
end
end L2
namespace L2
open PySem PySem.Spec PyProof.Rows
section
variable {X:Cx}
def CDivW (i j:Int):Prop:=0<j∧j<340282366920938463463374607431768211456
theorem op_fdivW:OpR X (binaryOp .FloorDiv) (rI CDivW fun i j=>.int (i / j)):=opI fun i j _ _ _ _ _ hc q=>by
  rw [← Int.fdiv_eq_ediv_of_nonneg i (Int.le_of_lt hc.1)] at q
  have h1:(0:Int)<j:=hc.1
  have h2:j<340282366920938463463374607431768211456:=hc.2
  have hb:j.natAbs<340282366920938463463374607431768211456:=by omega
  have he:(2:Nat) ^ 128=340282366920938463463374607431768211456:=by decide +kernel
  have hl:j.natAbs.log2<128:=(Nat.log2_lt (by omega)).mpr (Nat.lt_of_lt_of_eq hb he.symm)
  exact floordiv_int (by have:=hc.1;omega) q (.inl (PyProof.noPylong_of_log2 (by omega)))
theorem comp_range {lo:Int} {n:Nat} {g:TG} {te:TE} {F:List V→Hp→Prop} {σ0:St} {H0:Hp} (Pv:Nat→List V→St→Hp→Prop) (hn:n≤sizeLine) (h0:Pv 0 [] σ0 H0)
    (hs:∀ i ys σ H,i<n→ys.length=i→Pv i ys σ H→∀ N:List V→St→Hp→Prop,(∀ ys' σ' H',ys'.length=i+1→Pv (i+1) ys' σ' H'→N ys' σ' H')→g (.int (lo+i)) σ H fun σ2 H2=>te σ2 H2 fun y H3=>N (ys++[y]) σ2 H3)
    (hd:∀ ys σ H,ys.length=n→Pv n ys σ H→F ys H) :
    ∃ W:Nat→Nat→List V→St→Hp→Prop,(∃ m,W 0 m [] σ0 H0)∧CTurn (Itr lo n) g tYes te F W:=by
  refine ⟨fun i m ys σ H=>m=n-i∧i≤n∧ys.length=i∧Pv i ys σ H,⟨n,by simp,Nat.zero_le _,rfl,h0⟩,?_⟩
  rintro i m ys σ H ⟨rfl,hi,hl,p⟩
  by_cases hlt:i<n
  · refine .inr ⟨hlt,by omega,fun x H' y=>?_⟩
    obtain ⟨e,y⟩:=y
    subst e y
    exact hs i ys σ _ hlt hl p (fun ys' σ' H'=>∃ m',m'<n-i∧m'=n-(i+1)∧i+1≤n∧ys'.length=i+1∧Pv (i+1) ys' σ' H') fun ys' σ' H' hl' q=>⟨n-(i+1),by omega,rfl,hlt,hl',q⟩
  · have e:i=n:=by omega
    subst e
    exact .inl ⟨Nat.le_refl _,hd ys σ H hl p⟩
theorem comp_list {K:PySem.W.Frag} {a:Addr} {xs:List V} {g:TG} {te:TE} {F:List V→Hp→Prop} {σ0:St} {H0:Hp} (Pv:Nat→List V→St→Hp→Prop) (hn:xs.length≤sizeLine) (h0:Pv 0 [] σ0 H0) (hq:∀ i ys σ H,i≤xs.length→Pv i ys σ H→SqL K H a xs)
    (hs:∀ i x ys σ H,xs[i]?=some x→ys.length=i→Pv i ys σ H→∀ N:List V→St→Hp→Prop,(∀ ys' σ' H',ys'.length=i+1→Pv (i+1) ys' σ' H'→N ys' σ' H')→g x σ H fun σ2 H2=>te σ2 H2 fun y H3=>N (ys++[y]) σ2 H3)
    (hd:∀ ys σ H,ys.length=xs.length→Pv xs.length ys σ H→F ys H) :
    ∃ W:Nat→Nat→List V→St→Hp→Prop,(∃ m,W 0 m [] σ0 H0)∧CTurn (Itl K a) g tYes te F W:=by
  refine ⟨fun i m ys σ H=>m=xs.length-i∧i≤xs.length∧ys.length=i∧Pv i ys σ H,⟨xs.length,by simp,Nat.zero_le _,rfl,h0⟩,?_⟩
  rintro i m ys σ H ⟨rfl,hi,hl,p⟩
  have q:=hq i ys σ H hi p
  by_cases hlt:i<xs.length
  · refine .inr ⟨⟨xs,xs[i],q,by simp [hlt]⟩,by omega,fun x H' y=>?_⟩
    obtain ⟨e,y⟩:=y
    subst e
    exact hs i x ys σ _ (y xs q) hl p (fun ys' σ' H'=>∃ m',m'<xs.length-i∧m'=xs.length-(i+1)∧i+1≤xs.length∧ys'.length=i+1∧Pv (i+1) ys' σ' H') fun ys' σ' H' hl' q=>⟨xs.length-(i+1),by omega,rfl,hlt,hl',q⟩
  · have e:i=xs.length:=by omega
    subst e
    exact .inl ⟨⟨xs,q,Nat.le_refl _⟩,hd ys σ H hl p⟩
structure Def (K:PySem.W.Frag) (mg:Str→Option Value) (x:Str) (st:Stmt) (ps:List Str) (f:Addr) (fd:FuncData):Prop where
  F:Fun K x x st f fd
  mg:mg x=some (.ref f)
  b:Binds K fd ps []
def But (p:Addr) (H H':Hp):Prop:=∀ b o,H b=some o→b≠p→H' b=some o
theorem But.refl {p:Addr} {H:Hp}:But p H H:=fun _ _ h _=>h
theorem But.trans {p:Addr} {H H1 H2:Hp} (a:But p H H1) (b:But p H1 H2):But p H H2:=fun c o h hc=>b c o (a c o h hc) hc
theorem But.upd {p:Addr} {H:Hp} {o:HO}:But p H (upd H p o):=fun b u h hb=>by rw [upd_ne hb];exact h
theorem But.new {p q:Addr} {H:Hp} {o:HO} (h:H q=none):But p H (L2.upd H q o):=fun b u e _=>by rw [upd_ne (ne_of_none e h)];exact e
end
theorem seq_by {t u:TS} {D:Ends} {σ:St} {H:Hp} (M:St→Hp→Prop) (h2:∀ σ' H',M σ' H'→u D σ' H') (h1:∀ N:St→Hp→Prop,(∀ σ' H',M σ' H'→N σ' H')→t { D with nx:=N } σ H):tSeq t u D σ H:=h1 (u D) h2
theorem Same.new {H:Hp} {q:Addr} {o:HO} (h:H q=none):Same H (upd H q o):=fun b u e=>by rw [upd_ne (ne_of_none e h)];exact e
theorem Same.but {H H':Hp} {p:Addr} (h:Same H H'):But p H H':=fun b o e _=>h b o e
theorem Same.tup {K:PySem.W.Frag} {H H':Hp} {a:Addr} {xs:List V} (e:Same H H') (h:SqT K H a xs):SqT K H' a xs:=by
  rcases h with (h|⟨o,h⟩)|h
  · exact .inl (.inl (e _ _ h))
  · exact .inl (.inr ⟨o,e _ _ h⟩)
  · exact .inr h
theorem bt_len:bootBuiltins "len" = some (.builtin "len"):=by decide +kernel
theorem bt_list:bootBuiltins "list" = some (.type "list"):=by decide +kernel
theorem bt_tuple:bootBuiltins "tuple" = some (.type "tuple"):=by decide +kernel
theorem bt_str:bootBuiltins "str" = some (.type "str"):=by decide +kernel
theorem bt_int:bootBuiltins "int" = some (.type "int"):=by decide +kernel
theorem bt_bool:bootBuiltins "bool" = some (.type "bool"):=by decide +kernel
theorem bt_max:bootBuiltins "max" = some (.builtin "max"):=by decide +kernel
theorem bt_all:bootBuiltins "all" = some (.builtin "all"):=by decide +kernel
theorem bt_isinstance:bootBuiltins "isinstance" = some (.builtin "isinstance"):=by decide +kernel
end L2
namespace L2
open PySem PySem.Spec PyProof.Rows PySem.SeqAt
mutual
inductive Rep (K:PySem.W.Frag) (H:Hp):V→PyData→Prop
  |non:Rep K H .non .none
  |bl (b:Bool):Rep K H (.bl b) (.bool b)
  |int (i:Int):Rep K H (.int i) (.int i)
  |str (x:Str):Rep K H (.str x) (.str x)
  |tup {a:Addr} {xs:List V} {ds:List PyData}:SqT K H a xs→Reps K H xs ds→Rep K H (.ref a) (.tuple ds)
  |lst {a:Addr} {xs:List V} {ds:List PyData}:SqL K H a xs→Reps K H xs ds→Rep K H (.ref a) (.list ds)
inductive Reps (K:PySem.W.Frag) (H:Hp):List V→List PyData→Prop
  |nil:Reps K H [] []
  |cons {x:V} {d:PyData} {xs:List V} {ds:List PyData}:Rep K H x d→Reps K H xs ds→Reps K H (x::xs) (d::ds)
end
section
variable {K:PySem.W.Frag} {H H':Hp}
theorem Reps.length:∀ {xs:List V} {ds:List PyData},Reps K H xs ds→xs.length=ds.length
  |_,_,.nil=>rfl
  |_,_,.cons _ t=>by rw [List.length_cons,List.length_cons,Reps.length t]
mutual
theorem Rep.map (f1:∀ a xs,SqT K H a xs→SqT K H' a xs) (f2:∀ a xs,SqL K H a xs→SqL K H' a xs):∀ {v:V} {d:PyData},Rep K H v d→Rep K H' v d
  |_,_,.non=>.non
  |_,_,.bl b=>.bl b
  |_,_,.int i=>.int i
  |_,_,.str x=>.str x
  |_,_,.tup h r=>.tup (f1 _ _ h) (Reps.map f1 f2 r)
  |_,_,.lst h r=>.lst (f2 _ _ h) (Reps.map f1 f2 r)
theorem Reps.map (f1:∀ a xs,SqT K H a xs→SqT K H' a xs) (f2:∀ a xs,SqL K H a xs→SqL K H' a xs):∀ {v:List V} {d:List PyData},Reps K H v d→Reps K H' v d
  |_,_,.nil=>.nil
  |_,_,.cons h r=>.cons (Rep.map f1 f2 h) (Reps.map f1 f2 r)
end
theorem Rep.same {v:V} {d:PyData} (h:Rep K H v d) (e:Same H H'):Rep K H' v d:=h.map (fun _ _ z=>e.tup z) (fun _ _ z=>e.seq z)
theorem Reps.same {v:List V} {d:List PyData} (h:Reps K H v d) (e:Same H H'):Reps K H' v d:=h.map (fun _ _ z=>e.tup z) (fun _ _ z=>e.seq z)
theorem But.seq {p a:Addr} {xs:List V} {kvs:List (Key×V)} (e:But p H H') (hp:H p=some (.dK kvs)) (h:SqL K H a xs):SqL K H' a xs:=by
  rcases h with (h|⟨o,h⟩)|h
  · exact .inl (.inl (e _ _ h (ne_of h hp (by intro z;cases z))))
  · exact .inl (.inr ⟨o,e _ _ h (ne_of h hp (by intro z;cases z))⟩)
  · exact .inr h
theorem But.tup {p a:Addr} {xs:List V} {kvs:List (Key×V)} (e:But p H H') (hp:H p=some (.dK kvs)) (h:SqT K H a xs):SqT K H' a xs:=by
  rcases h with (h|⟨o,h⟩)|h
  · exact .inl (.inl (e _ _ h (ne_of h hp (by intro z;cases z))))
  · exact .inl (.inr ⟨o,e _ _ h (ne_of h hp (by intro z;cases z))⟩)
  · exact .inr h
theorem Reps.get':∀ {xs:List V} {ds:List PyData} {i:Nat} {x:V},Reps K H xs ds→xs[i]?=some x→∃ d,ds[i]?=some d∧Rep K H x d
  |_,_,_,_,.nil,e=>by simp at e
  |_,_,0,_,.cons r _,e=>by simp at e;subst e;exact ⟨_,rfl,r⟩
  | _,_,i+1,d,.cons _ t,e=>by
    obtain ⟨u,h1,h2⟩:=Reps.get' (i:=i) (x:=d) t (by simpa using e)
    exact ⟨u,by simpa using h1,h2⟩
end
section
variable {X:Cx} {pins:List (Addr×Obj)} {σ:St} {H:Hp} {s:Shared}
mutual
theorem Inv.reads (I:Inv X pins σ H s):∀ {v:V} {d:PyData} {u:Value},Rep X.K H v d→RelV v u→∃ as,Reads s.heap u d as
  |_,_,u,.non,r=>by cases (show u=Value.none from r);exact ⟨[],.none⟩
  |_,_,u,.bl b,r=>by cases (show u=Value.bool b from r);exact ⟨[],.bool b⟩
  |_,_,u,.int i,r=>by obtain ⟨t,rfl⟩:=r;exact ⟨[],.int i t⟩
  |_,_,u,.str x,r=>by obtain ⟨t,rfl⟩:=r;exact ⟨[],.str x t⟩
  | _,_,u,.tup h rs,r=>by
    cases (show u=Value.ref _ from r)
    obtain ⟨its,rv,⟨o,e,c,n,hd⟩,_⟩:=I.tuple h
    obtain ⟨as,ra⟩:=Inv.readsAll I rs rv
    exact ⟨as,.tuple e c hd (by simpa using ra)⟩
  | _,_,u,.lst h rs,r=>by
    cases (show u=Value.ref _ from r)
    obtain ⟨its,rv,⟨o,n,e,c,_,hd⟩,_⟩:=I.list h
    obtain ⟨as,ra⟩:=Inv.readsAll I rs rv
    exact ⟨_,.list e c hd (by simpa using ra)⟩
theorem Inv.readsAll (I:Inv X pins σ H s):∀ {vs:List V} {ds:List PyData} {us:List Value},Reps X.K H vs ds→Vals vs us→∃ as,ReadsAll s.heap us ds as
  |_,_,_,.nil,.nil=>⟨[],.nil⟩
  | _,_,_,.cons h hs,.cons r rs=>by
    obtain ⟨as,a⟩:=Inv.reads I h r
    obtain ⟨bs,b⟩:=Inv.readsAll I hs rs
    exact ⟨as++bs,.cons a b⟩
end
end
mutual
def pdEq:PyData→PyData→Bool
  |.none,.none=>true
  |.bool a,.bool b=>a == b
  |.bool a,.int b=>(if a then 1 else 0) == b
  |.int a,.bool b=>a == (if b then 1 else 0)
  |.int a,.int b=>a == b
  |.str a,.str b=>a == b
  |.tuple a,.tuple b=>pdEqs a b
  |.list a,.list b=>pdEqs a b
  |_,_=>false
def pdEqs:List PyData→List PyData→Bool
  |[],[]=>true
  |a::r,b::t=>pdEq a b && pdEqs r t
  |_,_=>false
end
theorem pdEqs_iff:∀ (ds es:List PyData),pdEqs ds es=((List.range (min ds.length es.length)).all (fun j=>pdEq (ds.getD j .none) (es.getD j .none)) && ds.length == es.length)
  |[],[]=>by simp [pdEqs]
  |[],_::_=>by simp [pdEqs]
  |_::_,[]=>by simp [pdEqs]
  | a::r,b::t=>by
    rw [pdEqs,pdEqs_iff r t,List.length_cons,List.length_cons,Nat.succ_min_succ,List.range_succ_eq_map,List.all_cons,List.all_map]
    simp only [List.getD_cons_zero,Bool.and_assoc]
    congr 1
    have e:(r.length+1 == t.length+1)=(r.length == t.length):=by
      rw [Bool.eq_iff_iff];simp
    rw [e]
    congr 1
end L2
namespace L2
open PySem PySem.Spec PyProof.Rows PySem.SeqAt
mutual
def pdDep:PyData→Nat
  |.tuple xs=>pdDeps xs+1
  |.list xs=>pdDeps xs+1
  |_=>0
def pdDeps:List PyData→Nat
  |[]=>0
  |d::r=>max (pdDep d) (pdDeps r)
end
section
variable {X:Cx} {pins:List (Addr×Obj)} {σ:St} {H:Hp} {s:Shared}
mutual
theorem Rep.fn (I:Inv X pins σ H s):∀ {v:V} {d e:PyData} {u:Value},Rep X.K H v d→Rep X.K H v e→RelV v u→d=e∧pdEq d d=true
  |_,_,_,_,.non,.non,_=>⟨rfl,rfl⟩
  |_,_,_,_,.bl b,.bl _,_=>⟨rfl,by simp [pdEq]⟩
  |_,_,_,_,.int i,.int _,_=>⟨rfl,by simp [pdEq]⟩
  |_,_,_,_,.str x,.str _,_=>⟨rfl,by simp [pdEq]⟩
  | _,_,_,_,.tup h1 r1,.tup h2 r2,r=>by
    have e:=I.tuple_inj h1 h2
    subst e
    obtain ⟨its,rv,_,_⟩:=I.tuple h1
    obtain ⟨e,q⟩:=Reps.fn I r1 r2 rv
    exact ⟨by rw [e],q⟩
  | _,_,_,_,.lst h1 r1,.lst h2 r2,r=>by
    have e:=I.list_inj h1 h2
    subst e
    obtain ⟨its,rv,_,_⟩:=I.list h1
    obtain ⟨e,q⟩:=Reps.fn I r1 r2 rv
    exact ⟨by rw [e],q⟩
  | _,_,_,_,.tup h1 _,.lst h2 _,r=>by
    obtain ⟨_,_,⟨o,e1,c1,_⟩,_⟩:=I.tuple h1
    obtain ⟨_,_,⟨o',n,e2,c2,_⟩,_⟩:=I.list h2
    rw [e1] at e2;cases e2
    rw [c1] at c2;injection c2 with z;exact absurd z (by decide)
  | _,_,_,_,.lst h2 _,.tup h1 _,r=>by
    obtain ⟨_,_,⟨o,e1,c1,_⟩,_⟩:=I.tuple h1
    obtain ⟨_,_,⟨o',n,e2,c2,_⟩,_⟩:=I.list h2
    rw [e1] at e2;cases e2
    rw [c1] at c2;injection c2 with z;exact absurd z (by decide)
theorem Reps.fn (I:Inv X pins σ H s):∀ {v:List V} {d e:List PyData} {u:List Value},Reps X.K H v d→Reps X.K H v e→Vals v u→d=e∧pdEqs d d=true
  |_,_,_,_,.nil,.nil,_=>⟨rfl,rfl⟩
  | _,_,_,_,.cons a b,.cons c d,.cons r rs=>by
    obtain ⟨e1,q1⟩:=Rep.fn I a c r
    obtain ⟨e2,q2⟩:=Reps.fn I b d rs
    exact ⟨by rw [e1,e2],by simp [pdEqs,q1,q2]⟩
end
theorem allEq {vs ws:List V} {ds es:List PyData} {us xs:List Value} {A:Around} (rs1:Reps X.K H vs ds) (rs2:Reps X.K H ws es) (rv1:Vals vs us) (rv2:Vals ws xs) :
    ((List.range (min us.toArray.size xs.toArray.size)).all (fun j=>pdEq (ds.getD j .none) (es.getD j .none)) && us.toArray.size == xs.toArray.size)=pdEqs ds es:=by
  rw [pdEqs_iff,List.size_toArray,List.size_toArray,← rv1.length,← rv2.length,rs1.length,rs2.length]
theorem rcT {l b:Addr} {vs ws:List V} {ds es:List PyData} {us xs:List Value} {A:Around} (rs1:Reps X.K H vs ds) (rs2:Reps X.K H ws es) (rv1:Vals vs us) (rv2:Vals ws xs) (p1:IsTup s.heap l us.toArray) (p2:IsTup s.heap b xs.toArray) (hu:A.units<cLine)
    (he:∀ j (h1:j<us.length) (h2:j<xs.length),EqAt A.in1 s us[j] xs[j] (pdEq (ds.getD j .none) (es.getD j .none))):RcAt A s (.ref l) (.ref b) (pdEq (.tuple ds) (.tuple es)):=by
  show RcAt A s (.ref l) (.ref b) (pdEqs ds es)
  rw [← allEq (A:=A) rs1 rs2 rv1 rv2]
  exact RcAt.tuples (show s.heap.IsTuple l us.toArray from p1) (show s.heap.IsTuple b xs.toArray from p2) hu fun j h1 h2=>by simpa using he j (by simpa using h1) (by simpa using h2)
theorem rcL {l b:Addr} {vs ws:List V} {ds es:List PyData} {us xs:List Value} {A:Around} (rs1:Reps X.K H vs ds) (rs2:Reps X.K H ws es) (rv1:Vals vs us) (rv2:Vals ws xs) (p1:s.heap.IsList l us.toArray) (p2:s.heap.IsList b xs.toArray) (hu:A.units<cLine)
    (he:∀ j (h1:j<us.length) (h2:j<xs.length),EqAt A.in1 s us[j] xs[j] (pdEq (ds.getD j .none) (es.getD j .none))):RcAt A s (.ref l) (.ref b) (pdEq (.list ds) (.list es)):=by
  show RcAt A s (.ref l) (.ref b) (pdEqs ds es)
  have q:=allEq (A:=A) rs1 rs2 rv1 rv2
  by_cases hz:us.toArray.size=xs.toArray.size
  · rw [← q,hz,Nat.min_self,beq_self_eq_true,Bool.and_true,← hz]
    exact RcAt.lists p1 p2 hz hu fun j h1 h2=>by simpa using he j (by simpa using h1) (by simpa using h2)
  · have e:pdEqs ds es=false:=by
      rw [← q]
      have:(us.toArray.size == xs.toArray.size)=false:=by simpa using hz
      rw [this,Bool.and_false]
    rw [e]
    exact RcAt.lists_lengths p1 p2 (by simpa using hz) hu
theorem eqT (I:Inv X pins σ H s) {l b:Addr} {vs ws:List V} {ds es:List PyData} {us xs:List Value} {A:Around} (h1:SqT X.K H l vs) (h2:SqT X.K H b ws) (rs1:Reps X.K H vs ds) (rs2:Reps X.K H ws es) (rv1:Vals vs us) (rv2:Vals ws xs) (p1:IsTup s.heap l us.toArray) (p2:IsTup s.heap b xs.toArray) (hu:A.units<cLine)
    (he:∀ j (h1:j<us.length) (h2:j<xs.length),EqAt A.in1 s us[j] xs[j] (pdEq (ds.getD j .none) (es.getD j .none))):EqAt A s (.ref l) (.ref b) (pdEq (.tuple ds) (.tuple es)):=by
  by_cases hlb:l=b
  · subst hlb
    obtain ⟨e,q⟩:=Rep.fn I (.tup h1 rs1) (.tup h2 rs2) (u:=.ref l) rfl
    rw [← e,q]
    exact EqAt.same _
  · exact EqAt.of_refs hlb (rcT rs1 rs2 rv1 rv2 p1 p2 hu he)
theorem eqL (I:Inv X pins σ H s) {l b:Addr} {vs ws:List V} {ds es:List PyData} {us xs:List Value} {A:Around} (h1:SqL X.K H l vs) (h2:SqL X.K H b ws) (rs1:Reps X.K H vs ds) (rs2:Reps X.K H ws es) (rv1:Vals vs us) (rv2:Vals ws xs) (p1:s.heap.IsList l us.toArray) (p2:s.heap.IsList b xs.toArray) (hu:A.units<cLine)
    (he:∀ j (h1:j<us.length) (h2:j<xs.length),EqAt A.in1 s us[j] xs[j] (pdEq (ds.getD j .none) (es.getD j .none))):EqAt A s (.ref l) (.ref b) (pdEq (.list ds) (.list es)):=by
  by_cases hlb:l=b
  · subst hlb
    obtain ⟨e,q⟩:=Rep.fn I (.lst h1 rs1) (.lst h2 rs2) (u:=.ref l) rfl
    rw [← e,q]
    exact EqAt.same _
  · exact EqAt.of_refs hlb (rcL rs1 rs2 rv1 rv2 p1 p2 hu he)
theorem hu00 {A:Around} {n:Nat} (h:A.units+n<cLine):A.units<cLine:=by omega
theorem hu0 {A:Around} {n:Nat} (h:A.units+(n+1)<cLine):A.units<cLine:=by omega
theorem hu1 {A:Around} {n:Nat} (h:A.units+(n+1)<cLine):A.in1.units+n<cLine:=by show A.units+1+n<cLine;omega
mutual
theorem eq_at (I:Inv X pins σ H s):∀ {v w:V} {d e:PyData} {u x:Value} {A:Around},Rep X.K H v d→Rep X.K H w e→RelV v u→RelV w x→A.units+pdDep d<cLine→EqAt A s u x (pdEq d e)
  | _,_,_,_,u,x,A,.non,.non,r1,r2,hu=>by
    cases (show u=Value.none from r1)
    cases (show x=Value.none from r2)
    exact EqAt.same _
  | _,_,_,_,u,x,A,.non,.bl b2,r1,r2,hu=>by
    cases (show u=Value.none from r1)
    cases (show x=Value.bool b2 from r2)
    exact EqAt.none_bool b2
  | _,_,_,_,u,x,A,.non,.int i2,r1,r2,hu=>by
    cases (show u=Value.none from r1)
    obtain ⟨t2,e2⟩:=(show ∃ t,x=Value.int i2 t from r2);subst e2
    exact EqAt.none_int i2 t2
  | _,_,_,_,u,x,A,.non,.str y2,r1,r2,hu=>by
    cases (show u=Value.none from r1)
    obtain ⟨t2,e2⟩:=(show ∃ t,x=Value.str y2 t from r2);subst e2
    exact EqAt.none_str y2 t2
  | _,_,_,_,u,x,A,.non,.lst h2 rs2,r1,r2,hu=>by
    cases (show u=Value.none from r1)
    cases (show x=Value.ref _ from r2);obtain ⟨its2,rv2,p2,_⟩:=I.list h2
    exact EqAt.none_list p2.isList (hu00 hu)
  | _,_,_,_,u,x,A,.non,.tup h2 rs2,r1,r2,hu=>by
    cases (show u=Value.none from r1)
    cases (show x=Value.ref _ from r2);obtain ⟨its2,rv2,p2,_⟩:=I.tuple h2
    exact EqAt.none_tuple p2 (hu00 hu)
  | _,_,_,_,u,x,A,.bl b1,.non,r1,r2,hu=>by
    cases (show u=Value.bool b1 from r1)
    cases (show x=Value.none from r2)
    exact EqAt.bool_none b1
  | _,_,_,_,u,x,A,.bl b1,.bl b2,r1,r2,hu=>by
    cases (show u=Value.bool b1 from r1)
    cases (show x=Value.bool b2 from r2)
    exact EqAt.bool_bool b1 b2
  | _,_,_,_,u,x,A,.bl b1,.int i2,r1,r2,hu=>by
    cases (show u=Value.bool b1 from r1)
    obtain ⟨t2,e2⟩:=(show ∃ t,x=Value.int i2 t from r2);subst e2
    exact EqAt.bool_int b1 i2 t2
  | _,_,_,_,u,x,A,.bl b1,.str y2,r1,r2,hu=>by
    cases (show u=Value.bool b1 from r1)
    obtain ⟨t2,e2⟩:=(show ∃ t,x=Value.str y2 t from r2);subst e2
    exact EqAt.bool_str b1 y2 t2
  | _,_,_,_,u,x,A,.bl b1,.lst h2 rs2,r1,r2,hu=>by
    cases (show u=Value.bool b1 from r1)
    cases (show x=Value.ref _ from r2);obtain ⟨its2,rv2,p2,_⟩:=I.list h2
    exact EqAt.bool_list b1 p2.isList (hu00 hu)
  | _,_,_,_,u,x,A,.bl b1,.tup h2 rs2,r1,r2,hu=>by
    cases (show u=Value.bool b1 from r1)
    cases (show x=Value.ref _ from r2);obtain ⟨its2,rv2,p2,_⟩:=I.tuple h2
    exact EqAt.bool_tuple b1 p2 (hu00 hu)
  | _,_,_,_,u,x,A,.int i1,.non,r1,r2,hu=>by
    obtain ⟨t1,e1⟩:=(show ∃ t,u=Value.int i1 t from r1);subst e1
    cases (show x=Value.none from r2)
    exact EqAt.int_none i1 t1
  | _,_,_,_,u,x,A,.int i1,.bl b2,r1,r2,hu=>by
    obtain ⟨t1,e1⟩:=(show ∃ t,u=Value.int i1 t from r1);subst e1
    cases (show x=Value.bool b2 from r2)
    exact EqAt.int_bool i1 t1 b2
  | _,_,_,_,u,x,A,.int i1,.int i2,r1,r2,hu=>by
    obtain ⟨t1,e1⟩:=(show ∃ t,u=Value.int i1 t from r1);subst e1
    obtain ⟨t2,e2⟩:=(show ∃ t,x=Value.int i2 t from r2);subst e2
    exact EqAt.int_int i1 t1 i2 t2
  | _,_,_,_,u,x,A,.int i1,.str y2,r1,r2,hu=>by
    obtain ⟨t1,e1⟩:=(show ∃ t,u=Value.int i1 t from r1);subst e1
    obtain ⟨t2,e2⟩:=(show ∃ t,x=Value.str y2 t from r2);subst e2
    exact EqAt.int_str i1 t1 y2 t2
  | _,_,_,_,u,x,A,.int i1,.lst h2 rs2,r1,r2,hu=>by
    obtain ⟨t1,e1⟩:=(show ∃ t,u=Value.int i1 t from r1);subst e1
    cases (show x=Value.ref _ from r2);obtain ⟨its2,rv2,p2,_⟩:=I.list h2
    exact EqAt.int_list i1 t1 p2.isList (hu00 hu)
  | _,_,_,_,u,x,A,.int i1,.tup h2 rs2,r1,r2,hu=>by
    obtain ⟨t1,e1⟩:=(show ∃ t,u=Value.int i1 t from r1);subst e1
    cases (show x=Value.ref _ from r2);obtain ⟨its2,rv2,p2,_⟩:=I.tuple h2
    exact EqAt.int_tuple i1 t1 p2 (hu00 hu)
  | _,_,_,_,u,x,A,.str y1,.non,r1,r2,hu=>by
    obtain ⟨t1,e1⟩:=(show ∃ t,u=Value.str y1 t from r1);subst e1
    cases (show x=Value.none from r2)
    exact EqAt.str_none y1 t1
  | _,_,_,_,u,x,A,.str y1,.bl b2,r1,r2,hu=>by
    obtain ⟨t1,e1⟩:=(show ∃ t,u=Value.str y1 t from r1);subst e1
    cases (show x=Value.bool b2 from r2)
    exact EqAt.str_bool y1 t1 b2
  | _,_,_,_,u,x,A,.str y1,.int i2,r1,r2,hu=>by
    obtain ⟨t1,e1⟩:=(show ∃ t,u=Value.str y1 t from r1);subst e1
    obtain ⟨t2,e2⟩:=(show ∃ t,x=Value.int i2 t from r2);subst e2
    exact EqAt.str_int y1 t1 i2 t2
  | _,_,_,_,u,x,A,.str y1,.str y2,r1,r2,hu=>by
    obtain ⟨t1,e1⟩:=(show ∃ t,u=Value.str y1 t from r1);subst e1
    obtain ⟨t2,e2⟩:=(show ∃ t,x=Value.str y2 t from r2);subst e2
    exact EqAt.str_str y1 t1 y2 t2
  | _,_,_,_,u,x,A,.str y1,.lst h2 rs2,r1,r2,hu=>by
    obtain ⟨t1,e1⟩:=(show ∃ t,u=Value.str y1 t from r1);subst e1
    cases (show x=Value.ref _ from r2);obtain ⟨its2,rv2,p2,_⟩:=I.list h2
    exact EqAt.str_list y1 t1 p2.isList (hu00 hu)
  | _,_,_,_,u,x,A,.str y1,.tup h2 rs2,r1,r2,hu=>by
    obtain ⟨t1,e1⟩:=(show ∃ t,u=Value.str y1 t from r1);subst e1
    cases (show x=Value.ref _ from r2);obtain ⟨its2,rv2,p2,_⟩:=I.tuple h2
    exact EqAt.str_tuple y1 t1 p2 (hu00 hu)
  | _,_,_,_,u,x,A,.lst h1 rs1,.non,r1,r2,hu=>by
    cases (show u=Value.ref _ from r1);obtain ⟨its1,rv1,p1,_⟩:=I.list h1
    cases (show x=Value.none from r2)
    exact EqAt.list_none p1.isList (hu00 hu)
  | _,_,_,_,u,x,A,.lst h1 rs1,.bl b2,r1,r2,hu=>by
    cases (show u=Value.ref _ from r1);obtain ⟨its1,rv1,p1,_⟩:=I.list h1
    cases (show x=Value.bool b2 from r2)
    exact EqAt.list_bool b2 p1.isList (hu00 hu)
  | _,_,_,_,u,x,A,.lst h1 rs1,.int i2,r1,r2,hu=>by
    cases (show u=Value.ref _ from r1);obtain ⟨its1,rv1,p1,_⟩:=I.list h1
    obtain ⟨t2,e2⟩:=(show ∃ t,x=Value.int i2 t from r2);subst e2
    exact EqAt.list_int i2 t2 p1.isList (hu00 hu)
  | _,_,_,_,u,x,A,.lst h1 rs1,.str y2,r1,r2,hu=>by
    cases (show u=Value.ref _ from r1);obtain ⟨its1,rv1,p1,_⟩:=I.list h1
    obtain ⟨t2,e2⟩:=(show ∃ t,x=Value.str y2 t from r2);subst e2
    exact EqAt.list_str y2 t2 p1.isList (hu00 hu)
  | _,_,_,_,u,x,A,.lst h1 rs1,.lst h2 rs2,r1,r2,hu=>by
    cases (show u=Value.ref _ from r1);obtain ⟨its1,rv1,p1,_⟩:=I.list h1
    cases (show x=Value.ref _ from r2);obtain ⟨its2,rv2,p2,_⟩:=I.list h2
    exact eqL I h1 h2 rs1 rs2 rv1 rv2 p1.isList p2.isList (hu0 hu) (eqs_at I rs1 rs2 rv1 rv2 (hu1 hu))
  | _,_,_,_,u,x,A,.lst h1 rs1,.tup h2 rs2,r1,r2,hu=>by
    cases (show u=Value.ref _ from r1);obtain ⟨its1,rv1,p1,_⟩:=I.list h1
    cases (show x=Value.ref _ from r2);obtain ⟨its2,rv2,p2,_⟩:=I.tuple h2
    exact EqAt.list_tuple p1.isList p2 (hu00 hu)
  | _,_,_,_,u,x,A,.tup h1 rs1,.non,r1,r2,hu=>by
    cases (show u=Value.ref _ from r1);obtain ⟨its1,rv1,p1,_⟩:=I.tuple h1
    cases (show x=Value.none from r2)
    exact EqAt.tuple_none p1 (hu00 hu)
  | _,_,_,_,u,x,A,.tup h1 rs1,.bl b2,r1,r2,hu=>by
    cases (show u=Value.ref _ from r1);obtain ⟨its1,rv1,p1,_⟩:=I.tuple h1
    cases (show x=Value.bool b2 from r2)
    exact EqAt.tuple_bool b2 p1 (hu00 hu)
  | _,_,_,_,u,x,A,.tup h1 rs1,.int i2,r1,r2,hu=>by
    cases (show u=Value.ref _ from r1);obtain ⟨its1,rv1,p1,_⟩:=I.tuple h1
    obtain ⟨t2,e2⟩:=(show ∃ t,x=Value.int i2 t from r2);subst e2
    exact EqAt.tuple_int i2 t2 p1 (hu00 hu)
  | _,_,_,_,u,x,A,.tup h1 rs1,.str y2,r1,r2,hu=>by
    cases (show u=Value.ref _ from r1);obtain ⟨its1,rv1,p1,_⟩:=I.tuple h1
    obtain ⟨t2,e2⟩:=(show ∃ t,x=Value.str y2 t from r2);subst e2
    exact EqAt.tuple_str y2 t2 p1 (hu00 hu)
  | _,_,_,_,u,x,A,.tup h1 rs1,.lst h2 rs2,r1,r2,hu=>by
    cases (show u=Value.ref _ from r1);obtain ⟨its1,rv1,p1,_⟩:=I.tuple h1
    cases (show x=Value.ref _ from r2);obtain ⟨its2,rv2,p2,_⟩:=I.list h2
    exact EqAt.tuple_list p1 p2.isList (hu00 hu)
  | _,_,_,_,u,x,A,.tup h1 rs1,.tup h2 rs2,r1,r2,hu=>by
    cases (show u=Value.ref _ from r1);obtain ⟨its1,rv1,p1,_⟩:=I.tuple h1
    cases (show x=Value.ref _ from r2);obtain ⟨its2,rv2,p2,_⟩:=I.tuple h2
    exact eqT I h1 h2 rs1 rs2 rv1 rv2 p1 p2 (hu0 hu) (eqs_at I rs1 rs2 rv1 rv2 (hu1 hu))
theorem eqs_at (I:Inv X pins σ H s):∀ {vs ws:List V} {ds es:List PyData} {us xs:List Value} {A:Around},Reps X.K H vs ds→Reps X.K H ws es→Vals vs us→Vals ws xs→A.units+pdDeps ds<cLine→
    ∀ j (h1:j<us.length) (h2:j<xs.length),EqAt A s us[j] xs[j] (pdEq (ds.getD j .none) (es.getD j .none))
  |_,_,_,_,_,_,_,.nil,_,.nil,_,_,j,h1,_=>absurd h1 (Nat.not_lt_zero _)
  |_,_,_,_,_,_,_,.cons _ _,.nil,.cons _ _,.nil,_,j,_,h2=>absurd h2 (Nat.not_lt_zero _)
  |_,_,_,_,_,_,_,.cons a b,.cons c d,.cons r rs,.cons t ts,hu,0,_,_=>eq_at I a c r t (by simp only [pdDeps] at hu;simp only [List.getD_cons_zero];omega)
  |_,_,_,_,_,_,_,.cons a b,.cons c d,.cons r rs,.cons t ts,hu,j+1,h1,h2=>eqs_at I b d rs ts (by simp only [pdDeps] at hu;omega) j (by simpa using h1) (by simpa using h2)
end
theorem rc_at (I:Inv X pins σ H s):∀ {v w:V} {d e:PyData} {u x:Value} {A:Around},Rep X.K H v d→Rep X.K H w e→RelV v u→RelV w x→A.units+pdDep d<cLine→RcAt A s u x (pdEq d e)
  | _,_,_,_,u,x,A,.non,.non,r1,r2,hu=>by
    cases (show u=Value.none from r1)
    cases (show x=Value.none from r2)
    exact RcAt.none_none
  | _,_,_,_,u,x,A,.non,.bl b2,r1,r2,hu=>by
    cases (show u=Value.none from r1)
    cases (show x=Value.bool b2 from r2)
    exact RcAt.none_bool b2
  | _,_,_,_,u,x,A,.non,.int i2,r1,r2,hu=>by
    cases (show u=Value.none from r1)
    obtain ⟨t2,e2⟩:=(show ∃ t,x=Value.int i2 t from r2);subst e2
    exact RcAt.none_int i2 t2
  | _,_,_,_,u,x,A,.non,.str y2,r1,r2,hu=>by
    cases (show u=Value.none from r1)
    obtain ⟨t2,e2⟩:=(show ∃ t,x=Value.str y2 t from r2);subst e2
    exact RcAt.none_str y2 t2
  | _,_,_,_,u,x,A,.non,.lst h2 rs2,r1,r2,hu=>by
    cases (show u=Value.none from r1)
    cases (show x=Value.ref _ from r2);obtain ⟨its2,rv2,p2,_⟩:=I.list h2
    exact RcAt.none_list p2.isList (hu00 hu)
  | _,_,_,_,u,x,A,.non,.tup h2 rs2,r1,r2,hu=>by
    cases (show u=Value.none from r1)
    cases (show x=Value.ref _ from r2);obtain ⟨its2,rv2,p2,_⟩:=I.tuple h2
    exact RcAt.none_tuple p2 (hu00 hu)
  | _,_,_,_,u,x,A,.bl b1,.non,r1,r2,hu=>by
    cases (show u=Value.bool b1 from r1)
    cases (show x=Value.none from r2)
    exact RcAt.bool_none b1
  | _,_,_,_,u,x,A,.bl b1,.bl b2,r1,r2,hu=>by
    cases (show u=Value.bool b1 from r1)
    cases (show x=Value.bool b2 from r2)
    exact RcAt.bool_bool b1 b2
  | _,_,_,_,u,x,A,.bl b1,.int i2,r1,r2,hu=>by
    cases (show u=Value.bool b1 from r1)
    obtain ⟨t2,e2⟩:=(show ∃ t,x=Value.int i2 t from r2);subst e2
    exact RcAt.bool_int b1 i2 t2
  | _,_,_,_,u,x,A,.bl b1,.str y2,r1,r2,hu=>by
    cases (show u=Value.bool b1 from r1)
    obtain ⟨t2,e2⟩:=(show ∃ t,x=Value.str y2 t from r2);subst e2
    exact RcAt.bool_str b1 y2 t2
  | _,_,_,_,u,x,A,.bl b1,.lst h2 rs2,r1,r2,hu=>by
    cases (show u=Value.bool b1 from r1)
    cases (show x=Value.ref _ from r2);obtain ⟨its2,rv2,p2,_⟩:=I.list h2
    exact RcAt.bool_list b1 p2.isList (hu00 hu)
  | _,_,_,_,u,x,A,.bl b1,.tup h2 rs2,r1,r2,hu=>by
    cases (show u=Value.bool b1 from r1)
    cases (show x=Value.ref _ from r2);obtain ⟨its2,rv2,p2,_⟩:=I.tuple h2
    exact RcAt.bool_tuple b1 p2 (hu00 hu)
  | _,_,_,_,u,x,A,.int i1,.non,r1,r2,hu=>by
    obtain ⟨t1,e1⟩:=(show ∃ t,u=Value.int i1 t from r1);subst e1
    cases (show x=Value.none from r2)
    exact RcAt.int_none i1 t1
  | _,_,_,_,u,x,A,.int i1,.bl b2,r1,r2,hu=>by
    obtain ⟨t1,e1⟩:=(show ∃ t,u=Value.int i1 t from r1);subst e1
    cases (show x=Value.bool b2 from r2)
    exact RcAt.int_bool i1 t1 b2
  | _,_,_,_,u,x,A,.int i1,.int i2,r1,r2,hu=>by
    obtain ⟨t1,e1⟩:=(show ∃ t,u=Value.int i1 t from r1);subst e1
    obtain ⟨t2,e2⟩:=(show ∃ t,x=Value.int i2 t from r2);subst e2
    exact RcAt.int_int i1 t1 i2 t2
  | _,_,_,_,u,x,A,.int i1,.str y2,r1,r2,hu=>by
    obtain ⟨t1,e1⟩:=(show ∃ t,u=Value.int i1 t from r1);subst e1
    obtain ⟨t2,e2⟩:=(show ∃ t,x=Value.str y2 t from r2);subst e2
    exact RcAt.int_str i1 t1 y2 t2
  | _,_,_,_,u,x,A,.int i1,.lst h2 rs2,r1,r2,hu=>by
    obtain ⟨t1,e1⟩:=(show ∃ t,u=Value.int i1 t from r1);subst e1
    cases (show x=Value.ref _ from r2);obtain ⟨its2,rv2,p2,_⟩:=I.list h2
    exact RcAt.int_list i1 t1 p2.isList (hu00 hu)
  | _,_,_,_,u,x,A,.int i1,.tup h2 rs2,r1,r2,hu=>by
    obtain ⟨t1,e1⟩:=(show ∃ t,u=Value.int i1 t from r1);subst e1
    cases (show x=Value.ref _ from r2);obtain ⟨its2,rv2,p2,_⟩:=I.tuple h2
    exact RcAt.int_tuple i1 t1 p2 (hu00 hu)
  | _,_,_,_,u,x,A,.str y1,.non,r1,r2,hu=>by
    obtain ⟨t1,e1⟩:=(show ∃ t,u=Value.str y1 t from r1);subst e1
    cases (show x=Value.none from r2)
    exact RcAt.str_none y1 t1
  | _,_,_,_,u,x,A,.str y1,.bl b2,r1,r2,hu=>by
    obtain ⟨t1,e1⟩:=(show ∃ t,u=Value.str y1 t from r1);subst e1
    cases (show x=Value.bool b2 from r2)
    exact RcAt.str_bool y1 t1 b2
  | _,_,_,_,u,x,A,.str y1,.int i2,r1,r2,hu=>by
    obtain ⟨t1,e1⟩:=(show ∃ t,u=Value.str y1 t from r1);subst e1
    obtain ⟨t2,e2⟩:=(show ∃ t,x=Value.int i2 t from r2);subst e2
    exact RcAt.str_int y1 t1 i2 t2
  | _,_,_,_,u,x,A,.str y1,.str y2,r1,r2,hu=>by
    obtain ⟨t1,e1⟩:=(show ∃ t,u=Value.str y1 t from r1);subst e1
    obtain ⟨t2,e2⟩:=(show ∃ t,x=Value.str y2 t from r2);subst e2
    exact RcAt.str_str y1 t1 y2 t2
  | _,_,_,_,u,x,A,.str y1,.lst h2 rs2,r1,r2,hu=>by
    obtain ⟨t1,e1⟩:=(show ∃ t,u=Value.str y1 t from r1);subst e1
    cases (show x=Value.ref _ from r2);obtain ⟨its2,rv2,p2,_⟩:=I.list h2
    exact RcAt.str_list y1 t1 p2.isList (hu00 hu)
  | _,_,_,_,u,x,A,.str y1,.tup h2 rs2,r1,r2,hu=>by
    obtain ⟨t1,e1⟩:=(show ∃ t,u=Value.str y1 t from r1);subst e1
    cases (show x=Value.ref _ from r2);obtain ⟨its2,rv2,p2,_⟩:=I.tuple h2
    exact RcAt.str_tuple y1 t1 p2 (hu00 hu)
  | _,_,_,_,u,x,A,.lst h1 rs1,.non,r1,r2,hu=>by
    cases (show u=Value.ref _ from r1);obtain ⟨its1,rv1,p1,_⟩:=I.list h1
    cases (show x=Value.none from r2)
    exact RcAt.list_none p1.isList (hu00 hu)
  | _,_,_,_,u,x,A,.lst h1 rs1,.bl b2,r1,r2,hu=>by
    cases (show u=Value.ref _ from r1);obtain ⟨its1,rv1,p1,_⟩:=I.list h1
    cases (show x=Value.bool b2 from r2)
    exact RcAt.list_bool b2 p1.isList (hu00 hu)
  | _,_,_,_,u,x,A,.lst h1 rs1,.int i2,r1,r2,hu=>by
    cases (show u=Value.ref _ from r1);obtain ⟨its1,rv1,p1,_⟩:=I.list h1
    obtain ⟨t2,e2⟩:=(show ∃ t,x=Value.int i2 t from r2);subst e2
    exact RcAt.list_int i2 t2 p1.isList (hu00 hu)
  | _,_,_,_,u,x,A,.lst h1 rs1,.str y2,r1,r2,hu=>by
    cases (show u=Value.ref _ from r1);obtain ⟨its1,rv1,p1,_⟩:=I.list h1
    obtain ⟨t2,e2⟩:=(show ∃ t,x=Value.str y2 t from r2);subst e2
    exact RcAt.list_str y2 t2 p1.isList (hu00 hu)
  | _,_,_,_,u,x,A,.lst h1 rs1,.lst h2 rs2,r1,r2,hu=>by
    cases (show u=Value.ref _ from r1);obtain ⟨its1,rv1,p1,_⟩:=I.list h1
    cases (show x=Value.ref _ from r2);obtain ⟨its2,rv2,p2,_⟩:=I.list h2
    exact rcL rs1 rs2 rv1 rv2 p1.isList p2.isList (hu0 hu) (eqs_at I rs1 rs2 rv1 rv2 (hu1 hu))
  | _,_,_,_,u,x,A,.lst h1 rs1,.tup h2 rs2,r1,r2,hu=>by
    cases (show u=Value.ref _ from r1);obtain ⟨its1,rv1,p1,_⟩:=I.list h1
    cases (show x=Value.ref _ from r2);obtain ⟨its2,rv2,p2,_⟩:=I.tuple h2
    exact RcAt.list_tuple p1.isList p2 (hu00 hu)
  | _,_,_,_,u,x,A,.tup h1 rs1,.non,r1,r2,hu=>by
    cases (show u=Value.ref _ from r1);obtain ⟨its1,rv1,p1,_⟩:=I.tuple h1
    cases (show x=Value.none from r2)
    exact RcAt.tuple_none p1 (hu00 hu)
  | _,_,_,_,u,x,A,.tup h1 rs1,.bl b2,r1,r2,hu=>by
    cases (show u=Value.ref _ from r1);obtain ⟨its1,rv1,p1,_⟩:=I.tuple h1
    cases (show x=Value.bool b2 from r2)
    exact RcAt.tuple_bool b2 p1 (hu00 hu)
  | _,_,_,_,u,x,A,.tup h1 rs1,.int i2,r1,r2,hu=>by
    cases (show u=Value.ref _ from r1);obtain ⟨its1,rv1,p1,_⟩:=I.tuple h1
    obtain ⟨t2,e2⟩:=(show ∃ t,x=Value.int i2 t from r2);subst e2
    exact RcAt.tuple_int i2 t2 p1 (hu00 hu)
  | _,_,_,_,u,x,A,.tup h1 rs1,.str y2,r1,r2,hu=>by
    cases (show u=Value.ref _ from r1);obtain ⟨its1,rv1,p1,_⟩:=I.tuple h1
    obtain ⟨t2,e2⟩:=(show ∃ t,x=Value.str y2 t from r2);subst e2
    exact RcAt.tuple_str y2 t2 p1 (hu00 hu)
  | _,_,_,_,u,x,A,.tup h1 rs1,.lst h2 rs2,r1,r2,hu=>by
    cases (show u=Value.ref _ from r1);obtain ⟨its1,rv1,p1,_⟩:=I.tuple h1
    cases (show x=Value.ref _ from r2);obtain ⟨its2,rv2,p2,_⟩:=I.list h2
    exact RcAt.tuple_list p1 p2.isList (hu00 hu)
  | _,_,_,_,u,x,A,.tup h1 rs1,.tup h2 rs2,r1,r2,hu=>by
    cases (show u=Value.ref _ from r1);obtain ⟨its1,rv1,p1,_⟩:=I.tuple h1
    cases (show x=Value.ref _ from r2);obtain ⟨its2,rv2,p2,_⟩:=I.tuple h2
    exact rcT rs1 rs2 rv1 rv2 p1 p2 (hu0 hu) (eqs_at I rs1 rs2 rv1 rv2 (hu1 hu))
end
end L2
namespace L2
open PySem PySem.Spec PyProof.Rows PySem.SeqAt
section
variable {X:Cx}
def rEqD (K:PySem.W.Frag):R2:=fun x y H Q=>∃ d e,Rep K H x d∧Rep K H y e∧pdDep d≤60∧Q (.bl (pdEq d e)) H
theorem op_eqD (hu:X.A.units+64<cLine):OpR X (compareOp .Eq) (rEqD X.K):=by
  intro pins s σ H x y v u Q I rx ry h
  obtain ⟨d,e,h1,h2,hd,q⟩:=h
  exact rc_at I h1 h2 rx ry (by omega) _ _ _ _ ⟨.bl _,H,I,rfl,q⟩
theorem pdDep_le {e:PyData}:∀ {es:List PyData},e∈es→pdDep e≤pdDeps es
  |_::_,.head _=>by simp only [pdDeps];omega
  |_::r,.tail _ h=>by have:=pdDep_le h;simp only [pdDeps];omega
def tyD:PyData→String
  |.none=>"NoneType"
  |.bool _=>"bool"
  |.int _=>"int"
  |.str _=>"str"
  |.list _=>"list"
  |.tuple _=>"tuple"
  |.dict _=>"dict"
theorem isD {pins:List (Addr×Obj)} {σ:St} {H:Hp} {s:Shared} {A:Around} {E:Value→Shared→Prop} {Q:Value→Shared→Prop} {v:V} {d:PyData} {u c:Value} {b:Bool} (I:Inv X pins σ H s) (r:Rep X.K H v d) (rv:RelV v u)
    (e:PySem.W.kitOne X.K (.type (tyD d)) c=some b) (h:∀ tk,Q (.bool b) { s with toks:=tk }):wpAny (model X.prog X.w) A (call (.builtin "isinstance") [u,c]) Q E s:=by
  cases r with
  |non=>cases (show u=Value.none from rv);exact PySem.W.kia_one PySem.W.kitx_none I.kIn True.intro e (fun z=>nomatch z) h
  |bl y=>cases (show u=Value.bool y from rv);exact PySem.W.kia_one PySem.W.kitx_bool I.kIn True.intro e (fun z=>nomatch z) h
  |int i=>obtain ⟨t,q⟩:=(show ∃ t,u=Value.int i t from rv);cases q;exact PySem.W.kia_one PySem.W.kitx_int I.kIn True.intro e (fun z=>nomatch z) h
  |str y=>obtain ⟨t,q⟩:=(show ∃ t,u=Value.str y t from rv);cases q;exact PySem.W.kia_one PySem.W.kitx_str I.kIn True.intro e (fun z=>nomatch z) h
  | tup g _=>
    cases (show u=Value.ref _ from rv)
    obtain ⟨_,_,⟨o,h1,h2,_⟩,_⟩:=I.tuple g
    exact PySem.W.kia_one PySem.W.kitx_tuple I.kIn ⟨o,h1,h2⟩ e (fun z=>nomatch z) h
  | lst g _=>
    cases (show u=Value.ref _ from rv)
    obtain ⟨_,_,⟨o,n,h1,h2,_⟩,_⟩:=I.list g
    exact PySem.W.kia_one PySem.W.kitx_list I.kIn ⟨o,h1,h2⟩ e (fun z=>nomatch z) h
theorem isD2 {pins:List (Addr×Obj)} {σ:St} {H:Hp} {s:Shared} {A:Around} {E:Value→Shared→Prop} {Q:Value→Shared→Prop} {v:V} {d:PyData} {u:Value} {tp:Addr} {dd:Option Addr} {its:List Value} {n:Nat} {sl:Array (Option Value)} {b:Bool} (I:Inv X pins σ H s) (r:Rep X.K H v d) (rv:RelV v u)
    (htp:s.heap.get? tp=some ⟨.type "tuple",dd,.seq its.toArray n,sl⟩) (e:PySem.W.kitAny X.K (.type (tyD d)) its=some b) (h:∀ tk,Q (.bool b) { s with toks:=tk }):wpAny (model X.prog X.w) A (call (.builtin "isinstance") [u,.ref tp]) Q E s:=by
  cases r with
  |non=>cases (show u=Value.none from rv);exact PySem.W.kia_tup PySem.W.kitx_none I.kIn True.intro htp e (fun z=>nomatch z) h
  |bl y=>cases (show u=Value.bool y from rv);exact PySem.W.kia_tup PySem.W.kitx_bool I.kIn True.intro htp e (fun z=>nomatch z) h
  |int i=>obtain ⟨t,q⟩:=(show ∃ t,u=Value.int i t from rv);cases q;exact PySem.W.kia_tup PySem.W.kitx_int I.kIn True.intro htp e (fun z=>nomatch z) h
  |str y=>obtain ⟨t,q⟩:=(show ∃ t,u=Value.str y t from rv);cases q;exact PySem.W.kia_tup PySem.W.kitx_str I.kIn True.intro htp e (fun z=>nomatch z) h
  | tup g _=>
    cases (show u=Value.ref _ from rv)
    obtain ⟨_,_,⟨o,h1,h2,_⟩,_⟩:=I.tuple g
    exact PySem.W.kia_tup PySem.W.kitx_tuple I.kIn ⟨o,h1,h2⟩ htp e (fun z=>nomatch z) h
  | lst g _=>
    cases (show u=Value.ref _ from rv)
    obtain ⟨_,_,⟨o,n,h1,h2,_⟩,_⟩:=I.list g
    exact PySem.W.kia_tup PySem.W.kitx_list I.kIn ⟨o,h1,h2⟩ htp e (fun z=>nomatch z) h
def rIsT (K:PySem.W.Frag):List V→Hp→VK→Prop:=fun xs H Q=>∃ x n d b,xs=[x,.ty n]∧Rep K H x d∧PySem.W.kitOne K (.type (tyD d)) (.type n)=some b∧Q (.bl b) H
theorem call_isT:CallR X (.builtin "isinstance") (rIsT X.K):=by
  intro pins s σ H xs us Q I r h
  obtain ⟨x,n,d,b,rfl,hr,e,q⟩:=h
  cases r with
  | cons r1 r=>
    cases r with
    | cons r2 r=>
      cases r
      cases (show _=Value.type n from r2)
      exact isD I hr r1 e fun tk=>⟨.bl b,H,I.tok tk,rfl,q⟩
def rIsT2 (K:PySem.W.Frag):List V→Hp→VK→Prop:=fun xs H Q=>∃ x a n m d b,xs=[x,.ref a]∧H a=some (.tup [.ty n,.ty m])∧Rep K H x d∧PySem.W.kitAny K (.type (tyD d)) [.type n,.type m]=some b∧Q (.bl b) H
theorem call_isT2:CallR X (.builtin "isinstance") (rIsT2 X.K):=by
  intro pins s σ H xs us Q I r h
  obtain ⟨x,a,n,m,d,b,rfl,ha,hr,e,q⟩:=h
  cases r with
  | cons r1 r=>
    cases r with
    | cons r2 r=>
      cases r
      cases (show _=Value.ref a from r2)
      obtain ⟨z,its,rv,o,h1,h2,k,h3⟩:=(show ObjOk X.prog X.w H s.heap a (.tup [.ty n,.ty m]) from I.hok a _ ha)
      obtain ⟨cls,dd,data,sl⟩:=o
      simp only at h2 h3
      subst h2 h3
      cases rv with
      | cons g1 rv=>
        cases rv with
        | cons g2 rv=>
          cases rv
          cases (show _=Value.type n from g1)
          cases (show _=Value.type m from g2)
          exact isD2 I hr r1 h1 e fun tk=>⟨.bl b,H,I.tok tk,rfl,q⟩
theorem bools_of {xs:List V} {us:List Value}:∀ {bs:List Bool},xs=bs.map V.bl→Vals xs us→us=bs.map Value.bool:=by
  intro bs e r
  induction bs generalizing xs us with
  |nil=>subst e;cases r;rfl
  | cons b t ih=>
    subst e
    cases r with
    |cons r1 r=>rw [List.map_cons,ih rfl r,(show _=Value.bool b from r1)]
theorem range_all (bs:List Bool):(List.range bs.length).all (fun i=>bs.getD i false)=bs.all id:=by
  induction bs with
  |nil=>rfl
  |cons b t ih=>rw [List.length_cons,List.range_succ_eq_map,List.all_cons,List.all_map,List.all_cons,← ih];rfl
theorem truth_bools {P:Program} {w:World} {A:Around} {bs:List Bool}:TruthOf P w A (fun i v=>((bs.map Value.bool).toArray)[i]?=some v) fun i=>bs.getD i false:=fun i v s Q E hP hQ=>by
  dsimp only at hP hQ
  rw [List.getElem?_toArray,List.getElem?_map] at hP
  cases e:bs[i]? with
  |none=>rw [e] at hP;cases hP
  | some b=>
    rw [e] at hP
    cases hP
    rw [List.getD_eq_getElem?_getD,e] at hQ
    exact wpAny_pure hQ
def rAllB (K:PySem.W.Frag) (f:List Bool→Bool):List V→Hp→VK→Prop:=fun xs H Q=>∃ a bs,xs=[.ref a]∧SqL K H a (bs.map V.bl)∧Q (.bl (f bs)) H
theorem call_allB (hh:X.calm=true):CallR X (.builtin "all") (rAllB X.K fun bs=>bs.all id):=by
  intro pins s σ H xs us Q I r h
  obtain ⟨a,bs,rfl,hq,q⟩:=h
  cases r with
  | cons r1 r=>
    cases r
    cases (show _=Value.ref a from r1)
    obtain ⟨its,rv,p,hz⟩:=I.list hq
    have e:=bools_of rfl rv
    subst e
    refine PySem.call_all_walk (wpAny_pyIter_list p.isList ?_)
    have hne:a≠s.heap.objs.size:=(by obtain ⟨o,ho,_⟩:=p.isList;exact Nat.ne_of_lt (Heap.lt_size ho))
    refine ⟨s.heap.objs.size,_,_,_,_,_,_,rfl,Walks.list (A:=X.A.in1) (I.ok.hd hh) s.heap.objs.size a hne (bs.map Value.bool).toArray,⟨⟨_,Heap.get?_push_size _ rfl,rfl,rfl⟩,?_⟩,truth_bools,fun h' tk hk=>?_⟩
    · obtain ⟨o,ho,hc,n,hd⟩:=p.isList
      exact ⟨o,Heap.get?_push_of_some _ ho,hc,n,hd⟩
    · rw [List.size_toArray,List.length_map,range_all]
      exact ⟨.bl _,H,I.kept fun b o e=>hk b o (by simp;exact Nat.ne_of_lt (Heap.lt_size e)) (Heap.get?_push_of_some _ e),rfl,q⟩
theorem strs_of {us:List Value}:∀ {ys:List Str},Vals (ys.map V.str) us→StrsAre us ys:=by
  intro ys
  induction ys generalizing us with
  |nil=>intro r;cases r;exact .nil
  | cons y t ih=>
    intro r
    cases r with
    | cons r1 r=>
      obtain ⟨tk,e⟩:=(show ∃ t,_=Value.str y t from r1)
      subst e
      exact .cons _ _ (ih r)
def rJoin (K:PySem.W.Frag):V→List V→Hp→VK→Prop:=fun x vs H Q=>∃ z a ys,x=.str z∧vs=[.ref a]∧SqL K H a (ys.map V.str)∧(ys.map (·.length)).sum+ys.length*z.length≤16777216∧Q (.str (Txt.join z ys)) H
theorem mt_join:MtR X "str.join" (rJoin X.K):=by
  intro pins s σ H x vs v us Q I rx rv h
  obtain ⟨z,a,ys,rfl,rfl,hq,hl,q⟩:=h
  obtain ⟨t,e⟩:=(show ∃ t,v=Value.str z t from rx)
  subst e
  cases rv with
  | cons r1 r=>
    cases r
    cases (show _=Value.ref a from r1)
    obtain ⟨its,rs,p,hz⟩:=I.list hq
    exact join_list p.isList (by simpa using strs_of rs) hl fun t' k=>⟨.str _,H,I.tok k,⟨t',rfl⟩,q⟩
def rS0 (f:Str→Bool):V→List V→Hp→VK→Prop:=fun x vs H Q=>∃ z,x=.str z∧vs=[]∧Q (.bl (f z)) H
theorem mt_isascii:MtR X "str.isascii" (rS0 fun x=>x.cps.all (·<128)):=by
  intro pins s σ H x vs v us Q I rx rv h
  obtain ⟨z,rfl,rfl,q⟩:=h
  obtain ⟨t,e⟩:=(show ∃ t,v=Value.str z t from rx)
  subst e
  cases rv
  exact call_gives PySem.F.slot_str_isascii (typeIs_str _ _ _) PySem.F.entry_str_isascii (PySem.F.args_str_isascii_1 _) (gives_str_isascii z t) ⟨.bl _,H,I,rfl,q⟩
theorem mt_isalpha:MtR X "str.isalpha" (rS0 fun x=>x.length > 0 && x.cps.all Unicode.isAlpha):=by
  intro pins s σ H x vs v us Q I rx rv h
  obtain ⟨z,rfl,rfl,q⟩:=h
  obtain ⟨t,e⟩:=(show ∃ t,v=Value.str z t from rx)
  subst e
  cases rv
  exact call_gives PySem.F.slot_str_isalpha (typeIs_str _ _ _) PySem.F.entry_str_isalpha (PySem.F.args_str_isalpha_1 _) (gives_str_isalpha z t) ⟨.bl _,H,I,rfl,q⟩
theorem mt_islower:MtR X "str.islower" (rS0 fun x=>x.cps.any Unicode.isLower && !x.cps.any fun c=>Unicode.isUpper c || Unicode.isTitle c):=by
  intro pins s σ H x vs v us Q I rx rv h
  obtain ⟨z,rfl,rfl,q⟩:=h
  obtain ⟨t,e⟩:=(show ∃ t,v=Value.str z t from rx)
  subst e
  cases rv
  exact call_gives PySem.F.slot_str_islower (typeIs_str _ _ _) PySem.F.entry_str_islower (PySem.F.args_str_islower_1 _) (gives_str_islower z t) ⟨.bl _,H,I,rfl,q⟩
end
structure CompS (osc:Scope) (N:List Str) (scope:Scope) (own:List Str) (js:List Nat) (N':List Str):Prop where
  kind:scope.kind=.function
  nocell:∀ y∈scope.names,y.2≠.cell
  names:∀ y∈scope.names,y.2=.local→scope.names.lookup y.1=some .local
  free:∀ y∈scope.names,y.2=.free→osc.names.lookup y.1=some .cell∨osc.names.lookup y.1=some .free
  nm:N'=own++js.map fun j=>N.getD j Str.empty
  fr:∀ j∈js,j<N.length∧(N.getD j Str.empty,NameKind.free)∈scope.names∧∀ y∈scope.names,y.1=N.getD j Str.empty→y.2=.free
theorem CompScope.of {X:Cx} {osc scope:Scope} {N own N':List Str} {js:List Nat} (h1:X.env.scope=osc) (h2:X.N=N) (h:CompS osc N scope own js N'):CompScope X scope own js N':=by
  subst h1 h2
  exact ⟨h.kind,h.nocell,h.names,h.free,h.nm,fun j hj=>⟨(h.fr j hj).1,(h.fr j hj).2.1,fun k hk=>(h.fr j hj).2.2 _ hk rfl⟩⟩
mutual
def pdMax:PyData→Nat
  |.tuple xs=>max xs.length (pdMaxs xs)
  |.list xs=>max xs.length (pdMaxs xs)
  |_=>0
def pdMaxs:List PyData→Nat
  |[]=>0
  |d::r=>max (pdMax d) (pdMaxs r)
end
theorem pdMax_le {e:PyData}:∀ {es:List PyData},e∈es→pdMax e≤pdMaxs es
  |_::_,.head _=>by simp only [pdMaxs];omega
  |_::r,.tail _ h=>by have:=pdMax_le h;simp only [pdMaxs];omega
theorem pe_ty {X:Cx} {x:Str} {n:String} {pos:Pos} (hg:Gl X x) (hm:X.mg x=none) (hv:bootBuiltins x=some (.type n)) (hn:x ≠ "__name__":=by decide) (hd:(x == ("__debug__" : Str))=false:=by decide):PE X (.Name x pos) (tC (.ty n)):=pe_bltn (v:=.ty n) hg hm hv rfl hn hd
theorem ifT {c:Bool} {A B:Prop} (h:c=true) (q:A):if c=true then A else B:=by rw [if_pos h];exact q
theorem ifF {c:Bool} {A B:Prop} (h:c=false) (q:B):if c=true then A else B:=by rw [if_neg (by rw [h];exact Bool.false_ne_true)];exact q
section
variable {X:Cx} {a b c d:Expr} {ta tb tc td:TE} {pos:Pos}
end
end L2
namespace L2
open PySem PySem.Spec PyProof.Rows PySem.SeqAt
abbrev TF:=Str→St→Hp→VK→Prop
def PF (X:Cx) (es:List Expr) (t:TF):Prop:=
  ∀ (out:Str) (pins:List (Addr×Obj)) (s:Shared) (σ:St) (H:Hp) (Q:VK),Inv X pins σ H s→t out σ H Q→wpAny (model X.prog X.w) X.A (joinParts out (evalEach es X.env)) (EP X pins σ Q) X.xe s
section
variable {X:Cx} {es:List Expr} {t:TF} {e:Expr} {te:TE} {pos:Pos}
theorem pf_nil:PF X [] (fun out _ H Q=>out.length≤sizeLine∧Q (.str out) H):=fun out pins s σ H Q I h=>joinParts_nil ⟨.str out,H,I.tok _,⟨_,rfl⟩,h.2⟩ h.1
theorem pf_txt {x:Str} {j:Nat} (hr:PF X es t) (hs:evalEach (.Constant (.str x) j pos::es) X.env=eval (.Constant (.str x) j pos) X.env::evalEach es X.env:=by rfl) :
    PF X (.Constant (.str x) j pos::es) (fun out σ H Q=>(out++x).length≤sizeLine∧t (out++x) σ H Q):=by
  intro out pins s σ H Q I h
  rw [hs]
  exact joinParts_cons (Calls.Constant_str ⟨h.1,hr (out++x) pins _ σ H Q (I.tok _) h.2⟩)
def tFstr (t:TF):TE:=fun σ H Q=>t Str.empty σ H Q
theorem pe_fstr {e1 e2:Expr} (h:PF X (e1::e2::es) t) (hs:evalEach (e1::e2::es) X.env=eval e1 X.env::eval e2 X.env::evalEach es X.env:=by rfl):PE X (.JoinedStr (e1::e2::es) pos) (tFstr t):=by
  intro pins s σ H Q I hw
  refine JoinedStr_many ?_
  rw [← hs]
  exact h _ pins s σ H Q I hw
end
end L2
namespace L2
open PySem PySem.Spec PyProof.Rows PySem.SeqAt
section
variable {X:Cx} {CX:CXT} {k:Nat} {f C:Addr} {fd:FuncData} {ps:List Str} {sp:Sp} {E:XK}
end
end L2
namespace HT
open PySem PySem.Spec PyProof.Rows
section
variable {prog:Program} {w:World} {A:Around} {E:Value→Shared→Prop} {s:Shared}
theorem cat_nil {t b:Addr} {ws:List Value} {Q:Value→Shared→Prop} (ht:IsTup s.heap t #[]) (hb:IsTup s.heap b ws.toArray) (h:Q (.ref b) s):wpAny (model prog w) A (binaryOp .Add (.ref t) (.ref b)) Q E s:=by
  obtain ⟨⟨_,dd,_,sl⟩,ho,rfl,n,rfl⟩:=id ht
  obtain ⟨⟨_,dd2,_,sl2⟩,ho2,rfl,n2,rfl⟩:=id hb
  exact concat_meets ⟨_,ho,rfl⟩ ⟨_,ho2,rfl⟩ noFill_tuple_add seq_tuple_add PySem.F.slot_tuple_add PySem.F.entry_tuple_add (PySem.F.args_tuple_add_2 _ _) (tuple_addW0 t b #[] ws.toArray n n2 dd dd2 sl sl2 rfl) ⟨ho,ho2,h⟩
theorem tup_slice {t sl:Addr} {items:Array Value} {a b c:Value} {lo step:Int} {n:Nat} {Q:Value→Shared→Prop} (ht:IsTup s.heap t items) (hs:s.heap.IsSliceOf sl a b c)
    (ha:∀ (A':Around) (Q':Int×Int×Nat→Shared→Prop) (E':Value→Shared→Prop),Q' (lo,step,n) s→wpAny (model prog w) A' (Builtin.Slice.sliceApplied (.ref sl) (pure (items.size:Int))) Q' E' s)
    (h1:(lo == 0 && step == 1 && n == items.size)=true→Q (.ref t) s)
    (h2:¬ (lo == 0 && step == 1 && n == items.size)=true→((List.range n).filterMap fun (k:Nat)=>items[(lo+(k:Int)*step).toNat]?).length≤sizeLine∧
      Q (.ref s.heap.objs.size) { s with heap:=s.heap.push { cls:=.type "tuple",data:=.seq ((List.range n).filterMap fun (k:Nat)=>items[(lo+(k:Int)*step).toNat]?).toArray } }) :
    wpAny (model prog w) A (getItem (.ref t) (.ref sl)) Q E s:=by
  obtain ⟨so,hso,hsc,hsd⟩:=id hs
  have hty:s.TypeIs (.ref sl) "slice":=⟨so,hso,hsc⟩
  obtain ⟨to,hto,htc,nt,htd⟩:=id ht
  unfold getItem
  try with_reducible refine wpAny_holding ?_
  first|refine wpAny_bind (wpAny_pure ?_)|skip
  refine wpAny_bind (wpAny_sequenceKey ht.typeIs (by decide) (wpAny_bind (wpAny_callSpecial?_slot (name:=Str.ofString "__getitem__") ht.typeIs PyProof.Rows.slot_tuple_getitem (wpAny_call_entry PyProof.Rows.slot_tuple_getitem ht.typeIs entry_tuple_getitem ?_ (args_tuple_getitem _ _)))))
  show wpAny _ _ (Builtin.Tuple.tupleItemsOf (.ref t) >>= _) _ _ s
  refine wpAny_bind (tupleItemsOf_ ht (wpAny_bind (wpAny_typeOf hty ?_)))
  rw [if_pos (by decide)]
  refine wpAny_bind (ha _ _ _ ?_)
  show wpAny _ _ (if (lo == 0 && step == 1 && n == items.size)=true then _ else _) _ _ s
  by_cases hw:(lo == 0 && step == 1 && n == items.size)=true
  · rw [if_pos hw]
    have hx:wpAny (model prog w) A.in1 (Builtin.Tuple.tupleIsExact (.ref t)) (fun b s'=>b=true∧s'=s) E s:=by
      unfold Builtin.Tuple.tupleIsExact
      refine wpAny_bind (wpAny_typeOf_ref hto ?_)
      rw [htc]
      exact wpAny_pure ⟨rfl,rfl⟩
    first
      |refine wpAny_bind (wpAny_mono hx (fun b s' h'=>?_) fun _ _ z=>z)
      |refine wpAny_bind (wpAny_bind (wpAny_mono hx (fun b s' h'=>?_) fun _ _ z=>z))
    obtain ⟨rfl,rfl⟩:=h'
    rw [if_pos rfl]
    first
      |exact wpAny_bind (wpAny_rule (wpAny_pure ⟨_,rfl,wpAny_pure (h1 hw)⟩))
      |exact wpAny_bind (wpAny_rule (wpAny_bind (wpAny_pure (wpAny_pure ⟨_,rfl,wpAny_pure (h1 hw)⟩))))
  · rw [if_neg hw]
    obtain ⟨hz,hq⟩:=h2 hw
    have hok:sizeOk (.seq ((List.range n).filterMap fun (k:Nat)=>items[(lo+(k:Int)*step).toNat]?).toArray):=by
      show (_:Array Value).size≤sizeLine
      rw [List.size_toArray];exact hz
    first
      |exact wpAny_bind (m:=Builtin.Tuple.tupleExact _) (wpAny_newObj_type (wpAny_pure ⟨_,rfl,wpAny_pure hq⟩) hok)
      |exact wpAny_bind (m:=Builtin.Tuple.tupleExact _) (wpAny_newObj_type (wpAny_bind (wpAny_pure (wpAny_pure ⟨_,rfl,wpAny_pure hq⟩))) hok)
      |exact wpAny_bind (wpAny_bind (m:=Builtin.Tuple.tupleExact _) (wpAny_newObj_type (wpAny_pure (wpAny_pure ⟨_,rfl,wpAny_pure hq⟩)) hok))
end
end HT
namespace L2
open PySem PySem.Spec PyProof.Rows PySem.SeqAt
section
variable {X:Cx}
def rCatA (K:PySem.W.Frag):R2:=fun x y H Q=>∃ a b xs ys,x=.ref a∧y=.ref b∧SqT K H a xs∧SqT K H b ys∧xs.length+ys.length≤sizeLine∧(xs=[]→Q (.ref b) H)∧(ys=[]→Q (.ref a) H)∧∀ p,H p=none→Q (.ref p) (upd H p (.tup (xs++ys)))
theorem op_catA:OpR X (binaryOp .Add) (rCatA X.K):=by
  intro pins s σ H x y v u Q I rx ry h
  obtain ⟨a,b,xs,ys,rfl,rfl,ha,hb,hz,q0,q1,q2⟩:=h
  by_cases hx:xs=[]
  · subst hx
    cases (show v=Value.ref a from rx)
    cases (show u=Value.ref b from ry)
    obtain ⟨its,r1,p1,_⟩:=I.tuple ha
    obtain ⟨its2,r2,p2,_⟩:=I.tuple hb
    cases r1
    exact HT.cat_nil p1 p2 ⟨.ref b,H,I,rfl,q0 rfl⟩
  · refine op_catT pins s σ H _ _ v u Q I rx ry ⟨a,b,xs,ys,rfl,rfl,ha,hb,hx,hz,q1,fun _=>q2⟩
def rSlW (K:PySem.W.Frag):V→Option Int→Option Int→Hp→VK→Prop:=fun x lo hi H Q=>∃ a xs,x=.ref a∧SqT K H a xs∧(cutV xs lo hi=xs→Q (.ref a) H)∧∀ p,H p=none→Q (.ref p) (upd H p (.tup (cutV xs lo hi)))
theorem sl_tupW:SlR X (rSlW X.K):=by
  intro pins s σ H x v vl vu lo hi sl Q I rx hs pl pu h
  obtain ⟨a,xs,rfl,hx,q1,q2⟩:=h
  by_cases hw:HT.sIx xs.length 0 lo=0∧HT.sIx xs.length xs.length hi=xs.length
  · cases (show v=Value.ref a from rx)
    obtain ⟨its,r,ht,hz⟩:=I.tuple hx
    have hlen:its.toArray.size=xs.length:=by rw [List.size_toArray];exact r.length.symm
    refine ⟨"tuple",_,PyProof.Rows.slot_tuple_getitem.lookup,ht.typeIs,?_⟩
    have e:cutV xs lo hi=xs:=by
      unfold cutV
      rw [hw.1,hw.2,List.drop_zero,Nat.sub_zero,List.take_length]
    refine HT.tup_slice ht hs (fun A' Q' E' q'=>HT.sliceApplied_gen hs pl pu q') (fun _=>⟨.ref a,H,I,rfl,q1 e⟩) fun hn=>(hn ?_).elim
    rw [hlen,hw.1,hw.2]
    simp
  · exact sl_tup pins s σ H _ v vl vu lo hi sl Q I rx hs pl pu ⟨a,xs,rfl,hx,hw,q2⟩
end
end L2
namespace L2
open PySem PySem.Spec PyProof.Rows PySem.SeqAt
structure ShowD (d:PyData):Prop where
  sh:d.showable=true
  nd:d.hasDict=false
  dp:d.depth≤40
  sz:d.shown.length≤sizeLine
section
variable {X:Cx}
def onRef:V→Bool
  |.ref _=>true
  |.str _=>true
  |_=>false
theorem pyrepr {A':Around} {pins:List (Addr×Obj)} {σ:St} {H:Hp} {s:Shared} {Q:VK} {x:V} {u:Value} {d:PyData} {E:Value→Shared→Prop} (hu:A'.units+64<cLine) (hg:A'.guards=some []) (I:Inv X pins σ H s) (e:RelV x u) (ho:onRef x=true) (hr:Rep X.K H x d) (sd:ShowD d) (q:Q (.str d.shown) H) :
    wpAny (model X.prog X.w) A' (pyReprObj u) (EP X pins σ Q) E s:=by
  have dp:=sd.dp
  match x,ho,hr,e with
  | .ref a,_,hr,e=>
    cases (show u=Value.ref a from e)
    obtain ⟨as,rd⟩:=I.reads hr rfl
    exact pyReprObj_of_reads rd sd.sh (PyData.noDict_hsm sd.nd) hg (by omega) (fun _ _ z=>z) (fun h' t tk hk=>⟨.str d.shown,H,I.kept hk,⟨_,rfl⟩,q⟩) sd.sz
  | .str z,_,hr,e=>
    obtain ⟨t,rfl⟩:=e
    cases hr
    exact wpAny_pyReprObj_str ⟨.str (reprText z),H,I.tok _,⟨_,rfl⟩,q⟩ sd.sz
theorem pf_repr {es:List Expr} {t:TF} {e:Expr} {te:TE} {pos:Pos} (hu:X.A.units+64<cLine) (hg:X.A.guards=some []) (he:PE X e te) (hr:PF X es t) (hs:evalEach (.FormattedValue e 114 none pos::es) X.env=eval (.FormattedValue e 114 none pos) X.env::evalEach es X.env:=by rfl) :
    PF X (.FormattedValue e 114 none pos::es) (fun out σ H Q=>te σ H fun x H1=>∃ d,onRef x=true∧Rep X.K H1 x d∧ShowD d∧(out++d.shown).length≤sizeLine∧t (out++d.shown) σ H1 Q):=by
  intro out pins s σ H Q I h
  rw [hs]
  refine joinParts_cons (wpAny_FormattedValue_repr (thn (he pins s σ H _ I h) fun v s1 ⟨x,H1,I1,r1,d,ho,hd,sd,hl,q⟩=>?_))
  refine thn (pyrepr (Q:=fun y H2=>y=.str d.shown∧H2=H1) hu hg I1 r1 ho hd sd ⟨rfl,rfl⟩) fun v2 s2 ⟨y,H2,I2,r2,e1,e2⟩=>?_
  subst e1 e2
  obtain ⟨tk,rfl⟩:=r2
  exact formatField_str (fun t' tk=>⟨hl,hr _ pins _ σ H2 Q (I2.tok tk) q⟩) sd.sz
end
section
variable {X:Cx} {CX:CXT} {k:Nat} {f C:Addr} {fd:FuncData} {ps:List Str} {sp:Sp} {E:XK}
end
end L2
namespace L2
open PySem PySem.Spec PyProof.Rows PySem.SeqAt
section
variable {X:Cx} {pins:List (Addr×Obj)} {σ:St} {H:Hp} {s:Shared} {h':Heap}
theorem Inv.turnLaid {a:Addr} {o:HO} {t':Nat} {fp:List Addr} (I:Inv X pins σ H s) (k:∀ b u,b∉fp→s.heap.get? b=some u→h'.get? b=some u) (ke:∀ b∈fp,∃ u,h'.get? b=some u) (hf:∀ b∈fp,FpOk X pins H b) (hp:s.heap.objs.size≤a) (new:ObjOk X.prog X.w (upd H a o) h' a o) :
    Inv X pins σ (upd H a o) { s with heap:=h',toks:=t' }:=by
  have hn:H a=none:=I.hok.fresh hp
  have off:∀ b u,H b=some u→b∉fp:=fun b u e z=>by rw [(hf b z).1] at e;cases e
  have up:∀ b u,H b=some u→(upd H a o) b=some u:=fun b u e=>by rw [upd_ne (ne_of_none e hn)];exact e
  refine I.step (g':=s.gens) (d':=s.drawn) (ch:=fp) (fun b hb=>?_) (fun b u _ _ hc e _=>k b u hc e) (fun b u _ _ hc e _=>⟨u.slots,k b u hc e⟩) (fun b u _ e n=>?_) (fun b u hc e=>⟨u,k b u hc e⟩) (fun b xs e=>up b _ e) (fun b u z e=>up b _ e) (fun b ps e=>⟨#[],by rw [up b _ e];simp⟩) (fun m hm=>?_) (fun b u e=>?_) I.bare
  · obtain ⟨_,f1,_,f3,f4,f5⟩:=hf b hb
    exact ⟨f3,f1,f4,f5⟩
  · rw [upd_ne (Nat.ne_of_lt (Nat.lt_of_lt_of_le (Heap.lt_size e) hp))];exact n
  · obtain ⟨u,es,ep,ho,r⟩:=hm
    exact ⟨u,es,ep,k _ u (fun z=>(hf _ z).2.1 rfl) ho,r⟩
  · by_cases hb:b=a
    · subst hb;rw [upd_same] at e;cases e;exact new
    · rw [upd_ne hb] at e
      refine (I.hok b u e).stay (fun c v hc q=>k c v ?_ q) (fun c q=>up c _ q) fun c xs q=>up c _ q
      rcases hc with rfl|z
      · exact off _ u e
      · exact off c _ z
theorem bt_enumerate:bootBuiltins "enumerate" = some (.type "enumerate"):=by decide +kernel
end
end L2
namespace L2
open PySem PySem.Spec PyProof.Rows PySem.SeqAt
def ExcOk (h:Heap) (H:Hp) (g:Heap) (e:Addr) (cls:Value) (dd:Option Addr):Prop:=
  ∃ oe vs,h.get? e=some oe∧oe.cls=cls∧oe.dict=dd∧oe.data=.fields vs∧g.get? e=none∧H e=none∧
    (vs[1]?=some .none∨∃ T oT ts,vs[1]?=some (.ref T)∧T≠e∧h.get? T=some oT∧oT.data=.fields ts∧ts[3]?=some .none∧g.get? T=none∧H T=none)
theorem ExcOk.mono {h:Heap} {H:Hp} {g g':Heap} {e:Addr} {cls:Value} {dd:Option Addr} (x:ExcOk h H g e cls dd) (hl:∀ b,g.get? b=none→g'.get? b=none):ExcOk h H g' e cls dd:=by
  obtain ⟨oe,vs,h1,h2,h3,h4,h5,h6,h7⟩:=x
  refine ⟨oe,vs,h1,h2,h3,h4,hl _ h5,h6,?_⟩
  rcases h7 with h7|⟨T,oT,ts,a,b,c,d,f,gT,i⟩
  · exact .inl h7
  · exact .inr ⟨T,oT,ts,a,b,c,d,f,hl _ gT,i⟩
theorem mapF_dict (f:Array Value→Array Value) (o:Obj):(Obj.mapFields f o).dict=o.dict:=by
  obtain ⟨c,d,da,sl⟩:=o
  cases da <;> rfl
section
variable {M:Model} {A:Around} {E:Value→Shared→Prop} {s:Shared}
theorem entryX {base:Heap} {env:Env} {outer:List Env} {L e:Addr} {oe:Obj} {vs:Array Value} {head:Value} {hadNext:Bool} {Q:Unit→Shared→Prop} (hfr:A.frames=some (env::outer)) (hl:s.heap.FunFrames base (env::outer)) (hf:env.frame=some L)
    (he:s.heap.get? e=some oe) (hd:oe.data=.fields vs) (hsz:1<vs.size)
    (h:∀ (h':Heap) (T:Addr) (oe' oT:Obj) (vs' ts:Array Value),s.heap.objs.size≤T→h'.get? e=some oe'→oe'.cls=oe.cls→oe'.dict=oe.dict→oe'.data=.fields vs'→vs'[1]?=some (.ref T)→h'.get? T=some oT→oT.data=.fields ts→ts[3]?=some .none→
      (∀ b o,b≠e→b∉(env::outer).filterMap (·.frame)→s.heap.get? b=some o→h'.get? b=some o)→(∀ b o,b≠e→s.heap.get? b=some o→∃ sl,h'.get? b=some { o with slots:=sl })→Q () { s with heap:=h' }) :
    wpAny M A (do let a ← frameOf env;let pl ← entryPlaceOf L hadNext;let b ← EntryCells.newEntry head a .none (rawInt L) .none pl;setField (.ref e) 1 b) (fun _ s'=>wpAny M A (setFlight (.ref e) none) Q E s') E s:=by
  have hene:e∉(env::outer).filterMap (·.frame):=fun hm=>by
    obtain ⟨_,o,ho,hnf⟩:=hl.mem hm
    rw [he] at ho
    cases ho
    exact hnf vs hd
  refine wpAny_bind (wpAny_frameOf_fun hfr hl hf fun g hs=>wpAny_bind (wpAny_entryPlaceOf fun pl hpl=>?_))
  unfold EntryCells.newEntry newFields
  refine wpAny_bind (wpAny_newObj_type ?_ (hpl.sizeOk5 _ _ _ _ _))
  have ge:g.get? e=some oe:=(hs.2.1 e hene).trans he
  generalize hto:([head,.ref L,.none,rawInt L,.none]++(if pl.isEmpty then List.replicate 6 Value.none else pl)).toArray=tv
  have t3:3<tv.size:=by
    rw [← hto]
    simp only [List.size_toArray,List.length_append,List.length_cons,List.length_nil]
    omega
  have pe:=Heap.get?_push_of_some (h:=g) { cls:=.type "traceback",dict:=none,data:=.fields tv } ge
  refine wpAny_setField pe hd hsz ?_
  have ne:g.objs.size≠e:=Nat.ne_of_gt (Heap.lt_size ge)
  have d3:=Obj.data_mapFields hd (·.setIfInBounds 1 (Value.ref g.objs.size))
  have e3:=Heap.get?_update_self (Obj.mapFields (·.setIfInBounds 1 (Value.ref g.objs.size))) pe (Obj.isFreed_of_fields d3)
  have T3:=(Heap.get?_update_other (g.push { cls:=.type "traceback",dict:=none,data:=.fields tv }) (Obj.mapFields (·.setIfInBounds 1 (Value.ref g.objs.size))) (Ne.symm ne)).trans (Heap.get?_push_size g rfl)
  unfold setFlight
  refine wpAny_bind (wpAny_field e3 d3 (x:=.ref g.objs.size) (by simp [hsz]) ?_)
  rw [if_pos (show (Value.ref g.objs.size != Value.none)=true by simp)]
  refine wpAny_setField T3 rfl t3 ?_
  have hgz:s.heap.objs.size≤g.objs.size:=Nat.le_of_eq hs.1.symm
  have keep:∀ b o,b≠e→g.get? b=some o→(((g.push { cls:=.type "traceback",dict:=none,data:=.fields tv }).update e (Obj.mapFields (·.setIfInBounds 1 (Value.ref g.objs.size)))).update g.objs.size (Obj.mapFields (·.setIfInBounds 3 ((none:Option Addr).elim Value.none fun f=>rawInt f)))).get? b=some o:=fun b o hb hg=>by
    rw [Heap.get?_update_other _ _ (Nat.ne_of_gt (Heap.lt_size hg)),Heap.get?_update_other _ _ (Ne.symm hb)]
    exact Heap.get?_push_of_some _ hg
  refine h _ g.objs.size _ _ _ _ hgz (by rw [Heap.get?_update_other _ _ ne];exact e3) (Obj.cls_mapFields _ _) (mapF_dict _ _) d3 (by simp [hsz]) (Heap.get?_update_self _ T3 (Obj.isFreed_of_fields (Obj.data_mapFields rfl _))) (Obj.data_mapFields rfl _) (by simp [t3]) (fun b o hb hbf hbo=>keep b o hb ((hs.2.1 b hbf).trans hbo)) fun b o hb hbo=>?_
  obtain ⟨sl,q⟩:=hs.2.2 b o hbo
  exact ⟨sl,keep b _ hb q⟩
end
section
variable {X:Cx} {pins:List (Addr×Obj)} {σ:St} {H:Hp} {s:Shared} {e:Addr} {cls:Value} {dd:Option Addr}
theorem leaveX {A:Around} {Q:Unit→Shared→Prop} {E:Value→Shared→Prop} (I:Inv X pins σ H s) (hst:X.stack=X.env::X.outer) (hfm:X.env.frame=some X.env.locals) (hfr:A.frames=some X.stack) (hex:X.ex=[]) (x:ExcOk s.heap H X.s₀.heap e cls dd)
    (h:∀ h',ExcOk h' H X.s₀.heap e cls dd→Un (frs X.outer) [] X.H₀ H X.s₀.heap h'→HOk X.prog X.w H h'→Q () { s with heap:=h' }):wpAny (model X.prog X.w) A (leaving X.env (.ref e)) Q E s:=by
  have hl:=I.stack
  rw [hst] at hfr hl
  obtain ⟨oe,vs,h1,h2,h3,h4,h5,h6,h7⟩:=x
  have free:∀ b∈(X.env::X.outer).filterMap (·.frame),H b=none:=fun b hb=>I.stkFree b (by rw [hst];exact hb)
  have fin:∀ (h':Heap) (T:Addr) (oe' oT:Obj) (vs' ts:Array Value),X.s₀.heap.get? T=none→T≠e→H T=none→h'.get? e=some oe'→oe'.cls=oe.cls→oe'.dict=oe.dict→oe'.data=.fields vs'→vs'[1]?=some (.ref T)→h'.get? T=some oT→oT.data=.fields ts→ts[3]?=some .none→
      (∀ b o,b≠e→(H b≠none∨∃ o₀,X.s₀.heap.get? b=some o₀)→b∉(X.env::X.outer).filterMap (·.frame)→s.heap.get? b=some o→h'.get? b=some o)→(∀ b o,(∃ o₀,X.s₀.heap.get? b=some o₀)→s.heap.get? b=some o→∃ sl,h'.get? b=some { o with slots:=sl })→Q () { s with heap:=h' }:=by
    intro h' T oe' oT vs' ts hT hTe hTn g1 g2 g3 g4 g5 g6 g7 g8 kp ks
    refine h h' ⟨oe',vs',g1,g2.trans h2,g3.trans h3,g4,h5,h6,.inr ⟨T,oT,ts,g5,hTe,g6,g7,g8,hT,hTn⟩⟩ ?_ ?_
    · have B:=I.base
      rw [hex] at B
      have nl:∀ b o,X.s₀.heap.get? b=some o→b<X.s₀.heap.objs.size:=fun b o z=>Heap.lt_size z
      have ninF:∀ b,b<X.s₀.heap.objs.size→b∉frs X.outer→b∉(X.env::X.outer).filterMap (·.frame):=fun b hb hn hm=>by
        rw [List.filterMap_cons,hfm] at hm
        rcases List.mem_cons.mp hm with rfl|hm
        · exact absurd (Nat.lt_of_lt_of_le hb I.ok.above) (Nat.lt_irrefl _)
        · exact hn hm
      refine ⟨fun b o z n hb hx=>kp b o (fun q=>by subst q;rw [h5] at z;cases z) (.inr ⟨o,z⟩) (ninF b (nl b o z) hb) (B.keep b o z n hb hx),fun b o z n hb hx=>?_,B.free,fun b o z hx=>?_,B.tups,B.frzs,B.tbls⟩
      · obtain ⟨sl,q⟩:=B.slot b o z n hb hx
        obtain ⟨sl',q'⟩:=ks b _ ⟨o,z⟩ q
        exact ⟨sl',q'⟩
      · obtain ⟨o',q⟩:=B.there b o z hx
        obtain ⟨sl',q'⟩:=ks b _ ⟨o,z⟩ q
        exact ⟨_,q'⟩
    · intro b u hb
      refine (I.hok b u hb).stay (fun c v hc q=>kp c v ?_ (.inl ?_) ?_ q) (fun _ q=>q) fun _ _ q=>q
      · rintro rfl
        rcases hc with rfl|z
        · rw [h6] at hb;cases hb
        · rw [h6] at z;cases z
      · rcases hc with rfl|z
        · rw [hb];simp
        · rw [z];simp
      · intro hm
        have:=free c hm
        rcases hc with rfl|z
        · rw [this] at hb;cases hb
        · rw [this] at z;cases z
  unfold leaving noteFrame
  simp only [hfm]
  rcases h7 with h7|⟨T,oT,ts,t1,t2,t3,t4,t5,t6,t7⟩
  · refine wpAny_bind (wpAny_bind (wpAny_field h1 h4 h7 ?_))
    rw [if_neg (by decide)]
    refine entryX hfr hl hfm h1 h4 (Array.getElem?_eq_some_iff.mp h7).1 fun h' T oe' oT vs' ts hT g1 g2 g3 g4 g5 g6 g7 g8 kp ks=>?_
    have hTe:T≠e:=fun q=>by subst q;exact absurd (Nat.lt_of_lt_of_le (Heap.lt_size h1) hT) (Nat.lt_irrefl _)
    exact fin h' T oe' oT vs' ts (Heap.get?_none_of_le (Nat.le_trans I.sz hT)) hTe (I.hok.fresh hT) g1 g2 g3 g4 g5 g6 g7 g8 (fun b o hb _ hm z=>kp b o hb hm z) fun b o hb z=>ks b o (fun q=>by subst q;obtain ⟨_,hb⟩:=hb;rw [h5] at hb;cases hb) z
  · refine wpAny_bind (wpAny_bind (wpAny_field h1 h4 t1 ?_))
    rw [if_pos (show (Value.ref T != Value.none)=true by simp)]
    refine wpAny_bind (wpAny_field t3 t4 t5 ?_)
    rw [if_neg (show ¬ ((Value.none == rawInt X.env.locals)=true) by simp [rawInt])]
    refine wpAny_bind (wpAny_setField t3 t4 (Array.getElem?_eq_some_iff.mp t5).1 ?_)
    have other:∀ b,b≠T→(s.heap.update T (Obj.mapFields (·.setIfInBounds 3 Value.none))).get? b=s.heap.get? b:=fun b hb=>Heap.get?_update_other _ _ (Ne.symm hb)
    have noR:∀ b o,s.heap.get? b=some o→(∀ vs,o.data≠.fields vs)→b≠T:=fun b o hb hnf q=>by
      subst q
      rw [t3] at hb
      cases hb
      exact hnf ts t4
    refine entryX (s:={ s with heap:=s.heap.update T (Obj.mapFields (·.setIfInBounds 3 Value.none)) }) hfr (hl.of_keeps fun b o hb hnf=>⟨o,(other b (noR b o hb hnf)).trans hb,rfl⟩) hfm ((other e (Ne.symm t2)).trans h1) h4 (Array.getElem?_eq_some_iff.mp t1).1 fun h' T' oe' oT' vs' ts' hT g1 g2 g3 g4 g5 g6 g7 g8 kp ks=>?_
    have hT':s.heap.objs.size≤T':=by
      have z:(s.heap.update T (Obj.mapFields (·.setIfInBounds 3 Value.none))).objs.size=s.heap.objs.size:=Heap.size_update _ _ _
      exact Nat.le_trans (Nat.le_of_eq z.symm) hT
    have hTe:T'≠e:=fun q=>by subst q;exact absurd (Nat.lt_of_lt_of_le (Heap.lt_size h1) hT') (Nat.lt_irrefl _)
    refine fin h' T' oe' oT' vs' ts' (Heap.get?_none_of_le (Nat.le_trans I.sz hT')) hTe (I.hok.fresh hT') g1 g2 g3 g4 g5 g6 g7 g8 (fun b o hb hq hm z=>kp b o hb hm ((other b ?_).trans z)) fun b o hb z=>ks b o (fun q=>by subst q;obtain ⟨_,hb⟩:=hb;rw [h5] at hb;cases hb) ((other b ?_).trans z)
    · rintro rfl
      rcases hq with hq|hq
      · exact hq t7
      · obtain ⟨_,hq⟩:=hq
        rw [t6] at hq;cases hq
    · rintro rfl
      obtain ⟨_,hb⟩:=hb
      rw [t6] at hb;cases hb
end
def CX1 (P:Program) (w:World):CXT:=fun outer H s E e s'=>∃ (ea:Addr) (cls:Value) (dd:Option Addr) (H':Hp),e=.ref ea∧s'.os=s.os∧AllBare s'.gens∧Un (frs outer) [] H H' s.heap s'.heap∧HOk P w H' s'.heap∧ExcOk s'.heap H' s.heap ea cls dd∧E cls dd H'
section
variable {P:Program} {w:World} {K:PySem.W.Frag} {mg:Str→Option Value} {base:Heap} {N:List Str} {qual:Str} {scope:Scope} {f:Addr} {cd:Value} {A:Around} {outer:List Env} {s:Shared} {H:Hp} {E:XK}
theorem xe1 {pins:List (Addr×Obj)} {σ:St} {H':Hp} {s':Shared} {e:Addr} {cls:Value} {dd:Option Addr} (I:Inv (cxOf (CX1 P w) P w K mg base N qual scope f cd A outer s H E) pins σ H' s') (x:ExcOk s'.heap H' s.heap e cls dd) (h:E cls dd H') :
    (cxOf (CX1 P w) P w K mg base N qual scope f cd A outer s H E).xe (.ref e) s':=
  leaveX I rfl rfl I.ok.frames rfl x fun h' x' u k=>⟨e,cls,dd,H',rfl,I.os,I.bare,u,k,x',h⟩
theorem pass1 {E':XK} (hE:∀ cls dd H',E' cls dd H'→E cls dd H'):Passes (CX1 P w) (cxOf (CX1 P w) P w K mg base N qual scope f cd A outer s H E) E':=by
  intro pins σ H1 s1 e s' I h
  obtain ⟨ea,cls,dd,H',rfl,os,bare,un,hok,x,q⟩:=h
  obtain ⟨hh,g,d,t,os'⟩:=s'
  obtain rfl:os'=s1.os:=os
  have I':Inv (cxOf (CX1 P w) P w K mg base N qual scope f cd A outer s H E) pins σ H' ⟨hh,g,d,t,s1.os⟩:=I.call (h':=hh) (g':=g) (d':=d) (t':=t) (ch:=[]) un hok bare (fun b z=>absurd z (by simp))
  refine xe1 I' (x.mono fun b hb=>?_) (hE _ _ _ q)
  cases z:s.heap.get? b with
  |none=>rfl
  | some o=>
    obtain ⟨o',q'⟩:=I.base.there b o z (by intro hz;cases hz)
    rw [hb] at q';cases q'
end
end L2
namespace L2
open PySem PySem.Spec PyProof.Rows PySem.SeqAt PySem.W
def makesX (K:Frag) (C:Addr) (B newId:String):Bool:=match K.lookup C with
  |some ⟨_,_,.cls cd,sl⟩=>!cd.abstract && !cd.hasDel && (sl.toList[4]?).join == some (.builtin newId) && !cd.mro.isEmpty && cd.mro.contains (.ref C) && cd.mro.contains (.type B) && cd.mro.contains (.type "BaseException") && !cd.mro.contains (.type "AttributeError") && !cd.mro.contains (.type "NameError") &&
      specialIn K (.ref C) "__call__" == some (some (.builtin "type.__call__")) && instIn K (.ref C) (.type "type") == some true
  |_=>false
structure MakesX (M:Model) (h:Heap) (C:Addr) (B newId:String):Prop where
  obj:∃ oc od cd sl,h.get? C=some ⟨oc,od,.cls cd,sl⟩∧cd.abstract=false∧cd.hasDel=false∧cd.mro.isEmpty=false
  made:Looks M h (Bind.madeBy (.ref C)) (some newId)
  base:Looks M h (Bind.staticBase (.ref C)) (.ref C)
  self:Looks M h (isSubtype (.ref C) (.ref C)) true
  isB:Looks M h (isSubtype (.ref C) (.type B)) true
  isE:Looks M h (isSubtype (.ref C) (.type "BaseException")) true
  noA:Looks M h (isSubtype (.ref C) (.type "AttributeError")) false
  noN:Looks M h (isSubtype (.ref C) (.type "NameError")) false
  call:Looks M h (specialOf (.ref C) "__call__") (some (.builtin "type.__call__"))
  typ:Looks M h (isInstance (.ref C) (.type "type")) true
theorem makesX_of {K:Frag} {M:Model} {h:Heap} (X:K.In h) {C:Addr} {B newId:String} (e:makesX K C B newId=true):MakesX M h C B newId:=by
  unfold makesX at e
  split at e
  · rename_i oc od cd sl ho
    simp only [Bool.and_eq_true,Bool.not_eq_true',beq_iff_eq] at e
    obtain ⟨⟨⟨⟨⟨⟨⟨⟨⟨⟨e1,e2⟩,e3⟩,e4⟩,e5⟩,e6⟩,e7⟩,e8⟩,e9⟩,e10⟩,e11⟩:=e
    have hc:clsIn K C=some cd:=by unfold clsIn;rw [ho]
    have hm:Looks M h (mroOf (.ref C)) cd.mro:=(looks_clsIn X hc).andThen .now
    obtain ⟨c,l,hl⟩:∃ c l,cd.mro=c::l:=by
      cases q:cd.mro with
      |nil=>rw [q] at e4;cases e4
      |cons c l=>exact ⟨c,l,rfl⟩
    have made:Looks M h (Bind.madeBy (.ref C)) (some newId):=by
      intro A Q E s k q
      unfold Bind.madeBy
      refine wpAny_bind (hm A _ E s k ?_)
      rw [hl,List.forIn_cons]
      refine wpAny_bind (wpAny_bind (wpAny_bind (wpAny_bind (wpAny_loadPart (k _ _ (X _ _ ho)) (wpAny_pure ?_)))))
      dsimp only
      rw [← Array.getElem?_toList,e3]
      exact wpAny_pure (wpAny_pure (wpAny_pure q))
    have sub:∀ (v:Value) (b:Bool),cd.mro.contains v=b→Looks M h (isSubtype (.ref C) v) b:=fun v b z=>looks_mroIn X (by unfold mroIn;rw [hc,Option.bind_some,if_neg (by rw [e4];decide),z])
    refine ⟨⟨oc,od,cd,sl,X _ _ ho,e1,e2,e4⟩,made,?_,sub _ _ e5,sub _ _ e6,sub _ _ e7,sub _ _ e8,sub _ _ e9,looks_specialIn X e10,looks_instIn X e11⟩
    intro A Q E s k q
    unfold Bind.staticBase
    refine wpAny_bind (hm A _ E s k ?_)
    rw [hl,List.forIn_cons]
    exact wpAny_bind (wpAny_bind (wpAny_bind (made A _ E s k (wpAny_pure (wpAny_pure (wpAny_pure q))))))
  · cases e
abbrev excNew (C t:Addr):Obj:={ cls:=.ref C,data:=.fields #[.ref t,.none,.none,.none,.bool false,.none] }
section
variable {prog:Program} {w:World} {A:Around} {C:Addr} {R:Result→Shared→Prop} {h:Heap} {g:Array GenState} {d:Drawn} {t:Nat} {os:OsState} {B newId initId:String} {bm:List Value}
theorem newX (F:ExcBaseFacts B newId initId bm) {rest:List Value} (Y:MakesX (model prog w) h C B newId) (hrest:rest.length≤sizeLine)
    (hq:R (.ok (.ret (.ref (h.objs.size+1)))) ⟨(h.push { cls:=.type "tuple",data:=.seq rest.toArray }).push (excNew C h.objs.size),g,d,t,os⟩) :
    codeAny (model prog w) A (.call (.builtin newId) ⟨.ref C::rest,[]⟩) R ⟨h,g,d,t,os⟩:=by
  obtain ⟨⟨oc,od,cd,sl,hC,e1,e2,e4⟩,made,base,self,isB,isE,noA,noN,call,typ⟩:=Y
  have hstar:=F.noStar
  have hends:=F.ends
  refine codeAny_call_builtin_code (Code.quiet_builtin _ F.quiet) ?_
  simp only [checkBuiltinCall,F.newKind,F.newSplit,F.newRow]
  have here:Looks (model prog w) h (Bind.madeHere newId (.ref C)) ():=base.andThen (made.andThen (Looks.of_pure (by simp only [Option.map_some,bne_self_eq_false,Bool.false_eq_true,if_false])))
  repeat (first|simp only [bne_self_eq_false,Bool.false_eq_true,if_false]|lk)
  repeat (first|wp_step)
  refine PySem.codeAny_builtinAt F.entry ?_
  unfold Builtin.«BaseException.__new__»
  refine PySem.wpAt_bind ?_
  show PySem.wpAt _ _ _ (stack >>= _) _ _ _
  refine PySem.wpAt_bind (PySem.wpAt_stack fun p below=>PySem.wpAt_of_wpAny ?_)
  wp_walk
  refine PySem.wpAt_of_wpAny ?_
  rw [F.owner]
  have here2:Looks (model prog w) h (Bind.madeHere "BaseException.__new__" (.ref C)) ():=base.andThen (made.andThen (Looks.of_pure (by simp only [Option.map_some,F.canon,bne_self_eq_false,Bool.false_eq_true,if_false])))
  repeat (first|with_reducible refine here2.at ?_|with_reducible refine isB.at ?_|with_reducible refine noA.at ?_|with_reducible refine noN.at ?_|with_reducible refine wpAny_loadPart_at hC ?_|wp_step)
  show R _ _
  rw [Heap.size_push]
  exact hq
theorem makeX_core (F:ExcBaseFacts B newId initId bm) {rest:List Value} {init:Value} (Y:MakesX (model prog w) h C B newId) (hi:Looks (model prog w) h (typeLookup (.ref C) "__init__") (some init)) (hb:∀ self,Looks (model prog w) h (bindSpecial init self) (init,[self])) (hrest:rest.length≤sizeLine)
    (hq:codeAny (model prog w) (A.under (.builtin "type.__call__" ⟨.ref C::rest,[]⟩)) (.call init ⟨.ref (h.objs.size+1)::rest,[]⟩) (InitBack (h.objs.size+1) R) ⟨(h.push { cls:=.type "tuple",data:=.seq rest.toArray }).push (excNew C h.objs.size),g,d,t,os⟩) :
    codeAny (model prog w) A (.call (.ref C) ⟨rest,[]⟩) R ⟨h,g,d,t,os⟩:=by
  have Y':=Y
  obtain ⟨⟨oc,od,cd,sl,hC,e1,e2,e4⟩,made,base,self,isB,isE,noA,noN,call,typ⟩:=Y
  refine codeAny_of_tree ?_
  show wpAny _ _ (callAny (.ref C) _) _ _ _
  refine nd_load hC ?_
  show wpAny _ _ (callAny.viaDunder (.ref C) _) _ _ _
  unfold callAny.viaDunder
  refine wpAny_bind (call.at ?_)
  dsimp only
  rw [tc_bind]
  refine wpAny_bind (wpAny_pure (wpAny_bind (wpAny_pure (wpAny_pure (a:=Fin.again (.call (.builtin "type.__call__") ⟨.ref C::rest,[]⟩)) (And.intro rfl ?_)))))
  refine codeAny_call_builtin_at (Code.quiet_builtin _ (by decide +kernel)) entry_typeCall (check_slot tc_kind tc_split typ (tc_args _ _ _) ?_)
  unfold Builtin.«type.__call__»
  have hm:Looks (model prog w) h (mroOf (.ref C)) cd.mro:=((Looks.ld (part:=none) hC).andThen .now).andThen .now
  repeat (first|simp only [e4,Bool.false_eq_true,if_false]|with_reducible refine wpAny_call ?_|lk)
  refine newX F Y' hrest ?_
  have k:∀ b o,h.get? b=some o→((h.push { cls:=.type "tuple",data:=.seq rest.toArray }).push (excNew C h.objs.size)).get? b=some o:=fun b o e=>Heap.get?_push_of_some _ (Heap.get?_push_of_some _ e)
  have hx:((h.push { cls:=.type "tuple",data:=.seq rest.toArray }).push (excNew C h.objs.size)).get? (h.objs.size+1)=some (excNew C h.objs.size):=by
    have:=Heap.get?_push_size (h.push { cls:=.type "tuple",data:=.seq rest.toArray }) (o:=excNew C h.objs.size) rfl
    rwa [Heap.size_push] at this
  have t1:Looks (model prog w) ((h.push { cls:=.type "tuple",data:=.seq rest.toArray }).push (excNew C h.objs.size)) (typeOf (.ref (h.objs.size+1))) (.ref C):=(Looks.ld hx).andThen .now
  have s1:=self.keeps k
  have i1:=hi.keeps k
  have b1:=(hb (.ref (h.objs.size+1))).keeps k
  unfold isInstance callSpecial? specialOf
  repeat (first|with_reducible refine wpAny_call ?_|lk)
  refine codeAny_mono hq fun r s' z=>?_
  rcases r with e|(v|_|_|_) <;> first|exact z|exact z.elim|skip
  obtain ⟨rfl,z⟩:=z
  exact wpAny_pure (wpAny_pure z)
end
end L2
namespace L2
open PySem PySem.Spec PyProof.Rows PySem.SeqAt PySem.W Builtin.ObjectAttr
def excO (e C:Addr) (dd:Option Addr):HO:=.ext fun h=>∃ a0:Value,h.get? e=some { cls:=.ref C,dict:=dd,data:=.fields #[a0,.none,.none,.none,.bool false,.none] }
def exD (da:Addr) (fs:List (Str×V)):HO:=.ext fun h=>∃ mA,h.Ns1 da mA∧(∀ f,RelO (fs.lookup f) (mA f))∧PySem.Within mA (fs.map (·.1))
theorem excO_ok {P:Program} {w:World} {H:Hp} {h:Heap} {e C:Addr} {dd:Option Addr} {a0:Value} (x:h.get? e=some { cls:=.ref C,dict:=dd,data:=.fields #[a0,.none,.none,.none,.bool false,.none] }):ObjOk P w H h e (excO e C dd):=
  ⟨⟨a0,x⟩,⟨_,x⟩,fun h1 h2 ⟨a,z⟩ k=>⟨a,k _ z⟩⟩
theorem exD_ok {P:Program} {w:World} {H:Hp} {h:Heap} {da:Addr} {fs:List (Str×V)} {mA:Str→Option Value} (x:h.Ns1 da mA) (r:∀ f,RelO (fs.lookup f) (mA f)) (wi:PySem.Within mA (fs.map (·.1))):ObjOk P w H h da (exD da fs):=by
  obtain ⟨o,es,ep,ho,rest⟩:=id x
  refine ⟨⟨mA,x,r,wi⟩,⟨o,ho⟩,fun h1 h2 z k=>?_⟩
  obtain ⟨mB,⟨o',es',ep',ho',rest'⟩,r',wi'⟩:=z
  exact ⟨mB,⟨o',es',ep',k _ ho',rest'⟩,r',wi'⟩
theorem refuse_refs (self:Value) {bm:List Value} (hb:refuseLoop self "__setattr__" bm=pure ()) (hne:bm≠[]):∀ (rs:List Addr),refuseLoop self "__setattr__" (rs.map Value.ref++bm)=pure ()
  |[]=>hb
  | c::r=>by
    rw [List.map_cons,List.cons_append,refuseLoop_ref]
    exact refuse_refs self hb hne r
structure XCls (K:Frag) (C:Addr) (B newId:String):Prop where
  mks:makesX K C B newId=true
  sa:findIn K (.ref C) "__setattr__" = some (some (.builtin "object.__setattr__"))
  cd:∃ (cd:ClassData) (rs:List Addr) (bm:List Value),clsIn K C=some cd∧cd.hasDict=true∧cd.mro=rs.map Value.ref++bm∧bm≠[]∧(∀ self,refuseLoop self "__setattr__" bm=pure ())∧bm.contains (.type "object")=true
  kp:keepIn K (.ref C)=true
  ty:typeIn K (.ref C)=some (.type "type")
section
variable {prog:Program} {w:World} {A:Around} {R:Result→Shared→Prop} {s:Shared} {K:Frag} {x C:Addr} {name:Str}
theorem osaX {ox:Obj} {od:Option Obj} {tk:Tok} {v:Value} {B newId:String} (X:K.In s.heap) (I:InstAt s.heap x ox C od) (XC:XCls K C B newId) (ht:takerIn K C name=some none)
    (h:∀ b,wpAny (model prog w) A.in1 (Builtin.ObjectAttr.storeInOwnDict (.ref x) (.ref C) (.str name tk) name v b) (fun fin s'=>match fin with|.done f=>R (.ok f) s'|.again c'=>c'.quiet=true∧codeAny (model prog w) A c' R s') (fun e s'=>R (.error e) s') s) :
    codeAny (model prog w) A (.call (.builtin "object.__setattr__") ⟨[.ref x,.str name tk,v],[]⟩) R s:=by
  have SF:=PySem.F.store_object
  obtain ⟨cd,rs,bm,hc,hdct,hmro,hne,hrf,hob⟩:=XC.cd
  have ne:cd.mro.isEmpty=false:=by
    rw [hmro]
    cases rs with
    |nil=>cases bm with|nil=>exact absurd rfl hne|cons _ _=>rfl
    |cons _ _=>rfl
  have hcon:cd.mro.contains (.type "object")=true:=by
    rw [hmro,List.contains_eq_mem,decide_eq_true_eq]
    rw [List.contains_eq_mem,decide_eq_true_eq] at hob
    exact List.mem_append_right _ hob
  have sub:Looks (model prog w) s.heap (isInstance (.ref x) (.type "object")) true:=I.type.andThen (looks_mroIn X (by unfold mroIn;rw [hc,Option.bind_some,if_neg (by rw [ne];decide),hcon]))
  refine codeAny_call_builtin SF.slot.plain SF.entry (@check_slot (model prog w) _ _ s "object.__setattr__" "object" "__setattr__" (.ref x) [.str name tk,v] [] _ SF.kind SF.split sub (SF.args (.ref x) (.str name tk) v) ?_)
  obtain ⟨attr,ha,hr⟩:=Option.bind_eq_some_iff.mp ht
  have hm:Looks (model prog w) s.heap (mroOf (.ref C)) cd.mro:=(looks_clsIn X hc).andThen .now
  have L3:Looks (model prog w) s.heap (storeTaker? attr) none:=by
    cases attr with
    |none=>exact .now
    | some a=>
      obtain ⟨b,hb,q⟩:=Option.map_eq_some_iff.mp hr
      refine (looks_takesIn X hb).andThen ?_
      cases b with
      |false=>exact .now
      |true=>cases q
  rw [osa_eq,refuse_eq]
  refine wpAny_bind (wpAny_bind (I.type.here (wpAny_bind (hm.here ?_))))
  rw [hmro,refuse_refs _ (hrf _) hne]
  refine wpAny_pure (wpAny_bind (I.type.here (wpAny_bind ((looks_findIn X ha).here (wpAny_bind (L3.here ?_))))))
  exact h _
end
end L2
namespace L2
open PySem PySem.Spec PyProof.Rows PySem.SeqAt PySem.W Builtin.ObjectAttr
section
variable {prog:Program} {w:World} {A:Around} {E:Value→Shared→Prop} {s:Shared} {K:Frag} {x C:Addr} {name:Str} {v:Value} {tk:Tok} {Q:Fin→Shared→Prop} {vs:Array Value} {sl:Array (Option Value)}
theorem storeX_new {cd:ClassData} {b:Bool} (X:K.In s.heap) (hx:s.heap.get? x=some ⟨.ref C,none,.fields vs,sl⟩) (hc:clsIn K C=some cd) (hd:cd.hasDict=true)
    (h:∀ h',h'.Ns1 s.heap.objs.size (fun y=>if y=name then some v else none)→h'.get? x=some ⟨.ref C,some s.heap.objs.size,.fields vs,sl⟩→(∀ b o,b≠x→s.heap.get? b=some o→h'.get? b=some o)→Q (.done (.ret .none)) { s with heap:=h',toks:=s.toks+1 }) :
    wpAny (model prog w) A (storeInOwnDict (.ref x) (.ref C) (.str name tk) name v b) Q E s:=by
  unfold storeInOwnDict
  refine wpAny_bind (wpAny_pure (wpAny_bind (wpAny_bind (wpAny_loadPart hx (wpAny_bind (Looks.here (looks_clsIn X hc) ?_))))))
  rw [hd]
  have hx1:(s.heap.push { cls:=.type "dict",data:=.dict #[] }).get? x=some ⟨.ref C,none,.fields vs,sl⟩:=Heap.get?_push_of_some _ hx
  have hxs:x≠s.heap.objs.size:=Nat.ne_of_lt (Heap.lt_size hx)
  show wpAny _ _ (do
    let d ← alloc { cls:=Value.type "dict",data:=Data.dict #[] }
    update x fun o=>{ cls:=o.cls,dict:=some d,data:=o.data,slots:=o.slots }
    dictMade (Value.ref C) x d) _ _ _
  refine wpAny_bind (wpAny_alloc' (wpAny_bind (wpAny_update' hx1 ?_)))
  refine wpAny_pure ?_
  have hgd:((s.heap.push { cls:=.type "dict",data:=.dict #[] }).update x fun o=>{ cls:=o.cls,dict:=some s.heap.objs.size,data:=o.data,slots:=o.slots }).get? s.heap.objs.size=some { cls:=.type "dict",data:=.dict #[] }:=(Heap.get?_update_ne _ _ _ _ hxs.symm).trans (Heap.get?_push_at rfl rfl)
  have hnd:((s.heap.push { cls:=.type "dict",data:=.dict #[] }).update x fun o=>{ cls:=o.cls,dict:=some s.heap.objs.size,data:=o.data,slots:=o.slots }).Ns s.heap.objs.size (fun _=>none):=⟨_,#[],_,hgd,rfl,fun e he=>absurd he (by simp),fun _=>rfl⟩
  show wpAny _ _ (storeInDict s.heap.objs.size (.str name tk) name v) _ _ _
  unfold storeInDict newKeyGuard
  refine wpAny_bind (wpAny_pure (wpAny_bind (wpAny_nsSet1 (s:={ s with heap:=_ }) (Heap.Ns1.of_empty hnd) fun h' hn' hs=>?_)))
  obtain ⟨oD,esD,epD,hoD,hdD,hcD⟩:=hn'.count (PySem.Within.cons name v PySem.Within.nil)
  refine wpAny_bind (wpAny_lookBehind hoD (by rw [hdD];exact pastItsLine_dict (Nat.le_trans hcD (by rw [List.length_cons,List.length_nil,sizeLine_eq];omega))) ?_)
  refine wpAny_pure (h h' hn' ?_ fun b o hb hbo=>?_)
  · exact (hs.2 x hxs).trans (Heap.get?_update_self _ hx1 rfl)
  · exact (hs.2 b (Nat.ne_of_lt (Heap.lt_size hbo))).trans ((Heap.get?_update_ne _ _ _ _ hb).trans (Heap.get?_push_of_some _ hbo))
theorem storeX_old {cd:ClassData} {b:Bool} {da:Addr} {mA:Str→Option Value} {ns:List Str} (X:K.In s.heap) (hx:s.heap.get? x=some ⟨.ref C,some da,.fields vs,sl⟩) (hc:clsIn K C=some cd) (hd:cd.hasDict=true) (hn:s.heap.Ns1 da mA) (hw:PySem.Within mA ns) (hz:ns.length<1000)
    (h:∀ h',h'.Ns1 da (fun y=>if y=name then some v else mA y)→Heap.SameBut da s.heap h'→Q (.done (.ret .none)) { s with heap:=h',toks:=s.toks+1 }) :
    wpAny (model prog w) A (storeInOwnDict (.ref x) (.ref C) (.str name tk) name v b) Q E s:=by
  unfold storeInOwnDict
  refine wpAny_bind (wpAny_pure (wpAny_bind (wpAny_bind (wpAny_loadPart hx (wpAny_bind (Looks.here (looks_clsIn X hc) ?_))))))
  rw [hd]
  refine wpAny_pure (a:=some da) ?_
  show wpAny _ _ (storeInDict da (.str name tk) name v) _ _ _
  unfold storeInDict newKeyGuard
  refine wpAny_bind (wpAny_pure (wpAny_bind (wpAny_nsSet1 hn fun h' hn' hs=>?_)))
  obtain ⟨oD,esD,epD,hoD,hdD,hcD⟩:=hn'.count (PySem.Within.cons name v hw)
  refine wpAny_bind (wpAny_lookBehind hoD (by rw [hdD];exact pastItsLine_dict (Nat.le_trans hcD (by rw [List.length_cons,sizeLine_eq];omega))) ?_)
  exact wpAny_pure (h h' hn' hs)
end
section
variable {X:Cx} {pins:List (Addr×Obj)} {σ:St} {H:Hp} {s:Shared} {e C:Addr} {f:Str} {B newId:String} {A:Around} {E:Value→Shared→Prop} {y:V} {u:Value} {Q:Unit→Shared→Prop}
theorem exc_at {dd:Option Addr} (I:Inv X pins σ H s) (he:H e=some (excO e C dd)):∃ a0,s.heap.get? e=some { cls:=.ref C,dict:=dd,data:=.fields #[a0,.none,.none,.none,.bool false,.none] }:=(show ObjOk X.prog X.w H s.heap e (excO e C dd) from I.hok e _ he).1
theorem setX_new (I:Inv X pins σ H s) (he:H e=some (excO e C none)) (XC:XCls X.K C B newId) (ht:takerIn X.K C f=some none) (ry:RelV y u)
    (h:∀ da s',H da=none→Inv X pins σ (upd (upd H e (excO e C (some da))) da (exD da [(f,y)])) s'→Q () s'):wpAny (model X.prog X.w) A (setAttr (.ref e) f u) Q E s:=by
  obtain ⟨a0,hx⟩:=exc_at I he
  have J:InstAt s.heap e _ C none:=⟨hx,rfl,rfl,True.intro⟩
  obtain ⟨cd,rs,bm,hc,hdct,_⟩:=XC.cd
  refine set_plain I.kIn J XC.sa (osaX (s:={ s with toks:=s.toks+1 }) I.kIn J XC ht fun b=>storeX_new (s:={ s with toks:=s.toks+1 }) I.kIn hx hc hdct fun h' hn hx' hk=>?_)
  have fr:H s.heap.objs.size=none:=I.hok.fresh (Nat.le_refl _)
  have nes:e≠s.heap.objs.size:=Nat.ne_of_lt (Heap.lt_size hx)
  refine h s.heap.objs.size _ fr ?_
  have hx1:(s.heap.push emptyDict).get? e=some _:=Heap.get?_push_of_some _ hx
  have g1:(s.heap.push emptyDict).get? s.heap.objs.size=some emptyDict:=Heap.get?_push_size s.heap rfl
  have e3:(s.heap.push emptyDict).Ns s.heap.objs.size (fun _=>none):=⟨emptyDict,#[],_,g1,rfl,(fun e he=>absurd he (by simp)),fun _=>rfl⟩
  have I1:=I.laid (a:=s.heap.objs.size) (o:=exD s.heap.objs.size []) (h':=s.heap.push emptyDict) (t':=s.toks) (fun b u q=>Heap.get?_push_of_some _ q) (Nat.le_refl _) (exD_ok (Heap.Ns1.of_empty e3) (fun _=>True.intro) fun y hy=>absurd rfl hy)
  have hx2:=Heap.get?_update_self (fun o:Obj=>{ o with dict:=some s.heap.objs.size }) hx1 rfl
  have I2:=I1.write (x:=e) (e:=e) (o:=excO e C (some s.heap.objs.size)) (h':=(s.heap.push emptyDict).update e fun o=>{ o with dict:=some s.heap.objs.size }) (t':=s.toks) (by rw [upd_ne nes,he];exact True.intro) (.inl rfl)
    (fun b q hb z=>(Heap.get?_update_ne _ _ _ _ hb).trans z) ⟨_,hx2⟩ (excO_ok hx2)
  have I3:=I2.write (x:=s.heap.objs.size) (e:=s.heap.objs.size) (o:=exD s.heap.objs.size [(f,y)]) (h':=h') (t':=s.toks+1+1) (by rw [upd_ne nes.symm,upd_same];exact True.intro) (.inl rfl) (fun b q hb z=>?_) (let ⟨o,_,_,ho,_⟩:=hn;⟨o,ho⟩)
    (exD_ok hn (fun g=>?_) fun g hg=>?_)
  · have e1:upd (upd (upd H s.heap.objs.size (exD s.heap.objs.size [])) e (excO e C (some s.heap.objs.size))) s.heap.objs.size (exD s.heap.objs.size [(f,y)])=upd (upd H e (excO e C (some s.heap.objs.size))) s.heap.objs.size (exD s.heap.objs.size [(f,y)]):=by
      funext b
      unfold upd
      split
      · rfl
      · split
        · rfl
        · rfl
    rw [e1] at I3
    exact I3
  · by_cases hbe:b=e
    · subst hbe
      have z':some q=some _:=z.symm.trans hx2
      cases z'
      exact hx'
    · have z1:(s.heap.push emptyDict).get? b=some q:=(Heap.get?_update_ne _ _ _ _ hbe).symm.trans z
      have z2:s.heap.get? b=some q:=by
        rcases Heap.get?_push_cases z1 with z|z
        · exact absurd z.1 hb
        · exact z
      exact hk b q hbe z2
  · have e2:List.lookup g [(f,y)]=if g=f then some y else none:=lookup_putF f g y []
    rw [e2]
    by_cases q:g=f
    · rw [if_pos q,if_pos q];exact ry
    · rw [if_neg q,if_neg q];exact True.intro
  · by_cases q:g=f
    · subst q;simp
    · exact absurd (if_neg q) hg
end
end L2
namespace L2
open PySem PySem.Spec PyProof.Rows PySem.SeqAt PySem.W Builtin.ObjectAttr
section
variable {X:Cx} {CX:CXT} {k:Nat} {f C:Addr} {fd:FuncData} {ps:List Str} {sp:Sp} {dvs:List V} {ds:List Value} {E:XK} {B newId initId:String} {bm:List Value}
theorem run_makeX {pins:List (Addr×Obj)} {σ:St} {H:Hp} {s:Shared} {Q:VK} {us:List Value} {vs:List V} (BF:ExcBaseFacts B newId initId bm) (XC:XCls X.K C B newId) (hi:findIn X.K (.ref C) "__init__" = some (some (.ref f))) (hf:isFn X.K (.ref f)=true) (F:FnOk X.prog X.w X.K X.mg X.base CX k f fd ps sp) (hr:Room (k+1) X.A)
    (hb:Binds X.K fd ps ds) (hd:Vals dvs ds) (hx:Passes CX X E) (I:Inv X pins σ H s) (r:Vals vs us) (hz:us.length≤sizeLine)
    (h:∀ e,H e=none→sp (.ref e::(vs++dvs)) (upd H e (excO e C none)) (fun v H2=>v=.non∧Q (.ref e) H2) E) :
    wpAny (model X.prog X.w) X.A (call (.ref C) us) (EP X pins σ Q) X.xe s:=by
  obtain ⟨hh,g,d,t,os⟩:=s
  have hq:=h (hh.objs.size+1) (I.hok.fresh (Nat.le_succ _))
  have hget:((hh.push { cls:=.type "tuple",data:=.seq us.toArray }).push (excNew C hh.objs.size)).get? (hh.objs.size+1)=some (excNew C hh.objs.size):=by
    have:=Heap.get?_push_size (hh.push { cls:=.type "tuple",data:=.seq us.toArray }) (o:=excNew C hh.objs.size) rfl
    rwa [Heap.size_push] at this
  have I2:Inv X pins σ (upd H (hh.objs.size+1) (excO (hh.objs.size+1) C none)) ⟨(hh.push { cls:=.type "tuple",data:=.seq us.toArray }).push (excNew C hh.objs.size),g,d,t,os⟩:=
    I.laid (h':=(hh.push { cls:=.type "tuple",data:=.seq us.toArray }).push (excNew C hh.objs.size)) (t':=t) (fun b u q=>Heap.get?_push_of_some _ (Heap.get?_push_of_some _ q)) (Nat.le_succ _) (excO_ok hget)
  have r2:Vals (V.ref (hh.objs.size+1)::(vs++dvs)) (Value.ref (hh.objs.size+1)::(us++ds)):=.cons rfl (r.append hd)
  have hl:(Value.ref (hh.objs.size+1)::us++ds).length=ps.length:=by
    have e:=r2.length
    rw [F.len _ _ _ _ hq] at e
    exact e.symm
  refine wpAny_call (makeX_core BF (makesX_of I.kIn XC.mks) (looks_findIn I.kIn hi) (fun self=>bind_fn I.kIn self (beq_iff_eq.mp hf)) hz (codeAny_mono (F.run _ X.stack _ _ ⟨Value.ref (hh.objs.size+1)::us,[]⟩ (Value.ref (hh.objs.size+1)::(us++ds)) _ _ E (hr.make C us [])
    (I2.env0.make C us []) (hb _ (Value.ref (hh.objs.size+1)::us) I2.kIn hl) r2 hq) fun r s' hq'=>?_))
  match r,hq' with
  |.error e,hq'=>exact hx pins σ _ _ e s' I2 hq'
  | .ok (.ret u),hq'=>
    obtain ⟨v,H',I3,rv,ev,q3⟩:=I2.after hq'
    subst ev
    exact ⟨rv,⟨V.ref (hh.objs.size+1),H',I3,rfl,q3⟩⟩
def tMakeX (C:Addr) (sp:Sp) (dvs:List V) (E:XK) (t:TA):TE:=fun σ H Q=>t σ H fun vs H1=>∀ e,H1 e=none→sp (.ref e::(vs++dvs)) (upd H1 e (excO e C none)) (fun v H2=>v=.non∧Q (.ref e) H2) E
theorem pe_makeX {x:Str} {p pos:Pos} {e:Expr} {es:List Expr} {t:TA} (BF:ExcBaseFacts B newId initId bm) (XC:XCls X.K C B newId) (hi:findIn X.K (.ref C) "__init__" = some (some (.ref f))) (hf:isFn X.K (.ref f)=true) (F:FnOk X.prog X.w X.K X.mg X.base CX k f fd ps sp) (hr:Room (k+1) X.A)
    (hg:Gl X x) (hm:X.mg x=some (.ref C)) (hb:Binds X.K fd ps ds) (hd:Vals dvs ds) (hx:Passes CX X E) (ha:PA X (e::es) t) (hdb:(x == ("__debug__" : Str))=false:=by decide) (he:starEach (e::es) X.env=(false,eval e X.env)::starEach es X.env:=by rfl) (hpl:(backTo pos (starEach es X.env)).any (·.1)=false:=by rfl) (hle:ps.length≤20:=by decide) :
    PE X (.Call (.Name x p) (e::es) [] pos) (tMakeX C sp dvs E t):=by
  intro pins s σ H Q I h
  refine wpAny_Call_Name_kw (ld_glob I hg hm ?_ hdb)
  refine callWith_K (h₀:=X.base) I.ok.mod.kin XC.kp (thn (ha pos pins s σ H _ I h) fun us s1 ⟨vs,H1,I1,r,q⟩=>⟨I1.kIn,?_⟩) he hpl
  refine run_makeX BF XC hi hf F hr hb hd hx I1 r ?_ q
  have h1:=F.len _ _ _ _ (q (s1.heap.objs.size) (I1.hok.fresh (Nat.le_refl _)))
  rw [List.length_cons,List.length_append] at h1
  have h2:=r.length
  exact Nat.le_trans (show us.length≤20 by omega) (by decide)
end
end L2
namespace L2
open PySem PySem.Spec PyProof.Rows PySem.SeqAt PySem.W Builtin.ObjectAttr
def unt (H:Hp) (a:Addr):Hp:=fun b=>if b=a then none else H b
theorem unt_same {H:Hp} {a:Addr}:unt H a a=none:=if_pos rfl
theorem unt_ne {H:Hp} {a b:Addr} (h:b≠a):unt H a b=H b:=if_neg h
theorem unt_none {H:Hp} {a b:Addr} (h:H b=none):unt H a b=none:=by
  unfold unt
  split
  · rfl
  · exact h
section
variable {X:Cx} {pins:List (Addr×Obj)} {σ:St} {H:Hp} {s:Shared} {e C:Addr} {dd:Option Addr}
theorem Inv.unt (I:Inv X pins σ H s) (he:H e=some (excO e C dd)):Inv X pins σ (L2.unt H e) s:=by
  have up:∀ b u,H b=some u→u≠excO e C dd→L2.unt H e b=some u:=fun b u z hu=>by
    by_cases q:b=e
    · subst q;rw [he] at z;exact absurd (Option.some.inj z).symm hu
    · rw [unt_ne q];exact z
  refine ⟨I.ok,I.os,I.bare,⟨I.base.keep,I.base.slot,fun b o z n hx=>unt_none (I.base.free b o z n hx),I.base.there,fun b xs z=>up b _ (I.base.tups b xs z) (by intro q;cases q),fun b o u z=>up b _ (I.base.frzs b o u z) (by intro q;cases q),fun b ps z=>?_⟩,I.loc,I.cell,unt_none I.free,fun x c z=>unt_none (I.freeC x c z),fun p hp=>?_,fun b u z=>?_,I.len⟩
  · obtain ⟨m,q⟩:=I.base.tbls b ps z
    exact ⟨m,up b _ q (by intro q;cases q)⟩
  · obtain ⟨p1,p2,p3⟩:=I.pin p hp
    exact ⟨p1,unt_none p2,p3⟩
  · by_cases q:b=e
    · subst q;rw [unt_same] at z;cases z
    · rw [unt_ne q] at z
      exact (I.hok b u z).stay (fun c v _ r=>r) (fun c r=>up c _ r (by intro q;cases q)) fun c xs r=>up c _ r (by intro q;cases q)
def tRaise (X:Cx) (B newId:String) (W:XK) (te:TE):TS:=fun _ σ H=>te σ H fun x H1=>∃ e C dd,x=.ref e∧H1 e=some (excO e C dd)∧X.H₀ e=none∧XCls X.K C B newId∧W (.ref C) dd (unt H1 e)
theorem ps_raise {ex:Expr} {pos:Pos} {te:TE} {W:XK} {B newId:String} (he:PE X ex te) (hcalm:X.calm=true) (hex:X.ex=[])
    (hxe:∀ (pins:List (Addr×Obj)) (σ:St) (H':Hp) (s':Shared) (e:Addr) (cls:Value) (dd:Option Addr),Inv X pins σ H' s'→ExcOk s'.heap H' X.s₀.heap e cls dd→W cls dd H'→X.xe (.ref e) s'):PS X (.Raise (some ex) none pos) (tRaise X B newId W te):=by
  intro pins s σ H D I h
  rw [arm_exec_Raise]
  have key:∀ xs:Sem Value,wpAny (model X.prog X.w) X.A xs (EP X pins σ fun x H1=>∃ e C dd,x=.ref e∧H1 e=some (excO e C dd)∧X.H₀ e=none∧XCls X.K C B newId∧W (.ref C) dd (L2.unt H1 e)) X.xe s→wpAny (model X.prog X.w) X.A (raiseStmt X.env (some xs) none) (SP X pins D) X.xe s:=by
    intro xs hxs
    unfold raiseStmt
    refine wpAny_bind (thn hxs fun v s1 ⟨x,H1,I1,r1,e,C,dd,ex',hx,h0,XC,q⟩=>?_)
    subst ex'
    cases (show v=Value.ref e from r1)
    obtain ⟨a0,hg⟩:=exc_at I1 hx
    have Y:=makesX_of (M:=model X.prog X.w) I1.kIn XC.mks
    obtain ⟨⟨oc,od,cd,sl,hC,e1,e2,e4⟩,made,base,self,isB,isE,noA,noN,call,typ⟩:=Y
    have T1:Looks (model X.prog X.w) s1.heap (typeOf (.ref e)) (.ref C):=(Looks.ld hg).andThen .now
    have fin:X.xe (.ref e) s1:=by
      refine hxe pins σ _ s1 e (.ref C) dd (I1.unt hx) ⟨_,_,hg,rfl,rfl,rfl,?_,unt_same,.inl rfl⟩ q
      cases z:X.s₀.heap.get? e with
      |none=>rfl
      | some o=>
        have:=I1.base.free e o z h0 (by rw [hex];simp)
        rw [hx] at this;cases this
    have T2:Looks (model X.prog X.w) s1.heap (typeOf (.ref C)) (.type "type"):=looks_typeIn I1.kIn XC.ty
    have T3:Looks (model X.prog X.w) s1.heap (isInstance (.ref e) (.type "BaseException")) true:=T1.andThen isE
    have hh:X.A.handled=none:=I1.ok.hd hcalm
    clear I1 r1 hxs he h I XC made base self isB noA noN call typ
    obtain ⟨hp,g,d,tk,os⟩:=s1
    repeat (first|with_reducible refine wpAny_loadPart_at hg ?_|with_reducible refine T3.at ?_|with_reducible refine T1.at ?_|with_reducible refine T2.at ?_|wp_step)
    exact wpAny_raiseNew_none hh fin
  first
    |exact wpAny_bind (wpAny_standAt (key _ (wpAny_bind (thn (he pins s σ H _ I h) fun v s1 z=>wpAny_bind (wpAny_standAt (wpAny_pure z))))))
    |(simp only [evalOpt,Option.map];exact wpAny_bind (wpAny_standAt (key _ (wpAny_bind (thn (he pins s σ H _ I h) fun v s1 z=>wpAny_bind (wpAny_standAt (wpAny_pure z)))))))
end
end L2
namespace L2
open PySem PySem.Spec PyProof.Rows PySem.SeqAt PySem.W Builtin.ObjectAttr
section
variable {X:Cx} {pins:List (Addr×Obj)} {σ:St} {H:Hp} {s:Shared} {e C:Addr} {f:Str} {B newId initId:String} {bm:List Value} {A:Around} {E:Value→Shared→Prop} {y:V} {u:Value} {Q:Unit→Shared→Prop}
theorem setX_old {da:Addr} {fs:List (Str×V)} (I:Inv X pins σ H s) (he:H e=some (excO e C (some da))) (hd:H da=some (exD da fs)) (hl:fs.length<1000) (XC:XCls X.K C B newId) (ht:takerIn X.K C f=some none) (ry:RelV y u)
    (h:∀ s',Inv X pins σ (upd H da (exD da (putF f y fs))) s'→Q () s'):wpAny (model X.prog X.w) A (setAttr (.ref e) f u) Q E s:=by
  obtain ⟨a0,hx⟩:=exc_at I he
  obtain ⟨mA,hn,r,wi⟩:=(show ObjOk X.prog X.w H s.heap da (exD da fs) from I.hok da _ hd).1
  obtain ⟨od,hod,_⟩:=lookIn_ns hn
  have J:InstAt s.heap e _ C (some od):=⟨hx,rfl,rfl,hod⟩
  obtain ⟨cd,rs,bm,hc,hdct,_⟩:=XC.cd
  refine set_plain I.kIn J XC.sa (osaX (s:={ s with toks:=s.toks+1 }) I.kIn J XC ht fun b=>storeX_old (s:={ s with toks:=s.toks+1 }) (ns:=fs.map (·.1)) I.kIn hx hc hdct hn wi (by rw [List.length_map];exact hl) fun h' hn' hs=>?_)
  refine h _ (I.write (x:=da) (e:=da) (h':=h') (t':=s.toks+1+1) (by rw [hd];exact True.intro) (.inl rfl) (fun b q hb z=>(hs.2 b hb).trans z) (let ⟨o,_,_,ho,_⟩:=hn';⟨o,ho⟩) (exD_ok hn' (fun g=>?_) fun g hg=>?_))
  · show RelO ((putF f y fs).lookup g) (if g=f then some u else mA g)
    rw [lookup_putF]
    by_cases q:g=f
    · rw [if_pos q,if_pos q];exact ry
    · rw [if_neg q,if_neg q];exact r g
  · by_cases q:g=f
    · rw [q];exact (keys_putF f y fs).1
    · refine (keys_putF f y fs).2 g (wi g fun z=>hg ?_)
      show (if g=f then some u else mA g)=none
      rw [if_neg q];exact z
def sFldX (K:Frag) (B newId:String) (ta tv:TE) (f:Str):TS:=fun D σ H=>tv σ H fun y H1=>ta σ H1 fun x H2=>∃ e C,x=.ref e∧XCls K C B newId∧takerIn K C f=some none∧
  ((H2 e=some (excO e C none)∧∀ da,H2 da=none→D.nx σ (upd (upd H2 e (excO e C (some da))) da (exD da [(f,y)])))∨
    ∃ da fs,H2 e=some (excO e C (some da))∧H2 da=some (exD da fs)∧fs.length<1000∧D.nx σ (upd H2 da (exD da (putF f y fs))))
theorem ps_fldX {o value:Expr} {pos pos':Pos} {ta tv:TE} (ha:PE X o ta) (hv:PE X value tv) (hs:swapsWith value (some (.Attribute o f pos')) pos.line X.env=pure false):PS X (.Assign [.Attribute o f pos'] value pos) (sFldX X.K B newId ta tv f):=by
  intro pins s σ H D I h
  refine plainObj_wpAny_Assign_Attribute (thn (hv pins s σ H _ I h) fun u s1 ⟨y,H1,I1,ry,q⟩=>thn (ha pins s1 σ H1 _ I1 q) fun ov s2 ⟨x,H2,I2,rx,e,C,ex,XC,ht,q2⟩=>?_) hs
  subst ex
  cases (show ov=Value.ref e from rx)
  rcases q2 with ⟨he,q2⟩|⟨da,fs,he,hd,hl,q2⟩
  · exact setX_new I2 he XC ht ry fun da s' hda I3=>⟨σ,_,I3,q2 da hda⟩
  · exact setX_old I2 he hd hl XC ht ry fun s' I3=>⟨σ,_,I3,q2⟩
theorem call_initX (BF:ExcBaseFacts B newId initId bm):CallR X (.builtin initId) (fun xs H Q=>∃ e C dd y,xs=[.ref e,y]∧H e=some (excO e C dd)∧XCls X.K C B newId∧Q .non H):=by
  intro pins s σ H xs us Q I r h
  obtain ⟨e,C,dd,y,rfl,he,XC,q⟩:=h
  cases r with
  | cons r1 r=>
    cases r with
    | cons r2 r=>
      cases r
      rename_i u1 u2
      cases (show u1=Value.ref e from r1)
      obtain ⟨a0,hg⟩:=exc_at I he
      have Y:=makesX_of (M:=model X.prog X.w) I.kIn XC.mks
      have T1:Looks (model X.prog X.w) s.heap (typeOf (.ref e)) (.ref C):=(Looks.ld hg).andThen .now
      have T3:Looks (model X.prog X.w) s.heap (isInstance (.ref e) (.type B)) true:=T1.andThen Y.isB
      have hshort:=BF.noStar
      refine wpAny_call (codeAny_call_builtin BF.init.plain BF.initEntry ?_)
      simp only [checkBuiltinCall,BF.initKind,BF.initSplit,BF.initRow]
      refine wpAny_bind (T3.here ?_)
      simp only [Bool.not_true,Bool.false_eq_true,if_false]
      obtain ⟨oc,od,cd,sl,hC,e1,e2,e4⟩:=Y.obj
      have T2:=Y.typ
      obtain ⟨hp,g,d,tk,os⟩:=s
      unfold Bind.checkArgs
      repeat (first|with_reducible refine wpAny_loadPart_at hg ?_|with_reducible refine wpAny_loadPart_at hC ?_|with_reducible refine T1.at ?_|wp_step)
      have fin:∀ tk',EP X pins σ Q .none ⟨(hp.push { cls:=Value.type "tuple",data:=Data.seq #[u2] }).update e (Obj.mapFields fun x=>x.setIfInBounds 0 (Value.ref hp.objs.size)),g,d,tk',os⟩:=fun tk'=>by
        have hg':hp.get? e=some { cls:=.ref C,dict:=dd,data:=.fields #[a0,.none,.none,.none,.bool false,.none] }:=hg
        have hg1:=Heap.get?_push_of_some (h:=hp) { cls:=Value.type "tuple",data:=Data.seq #[u2] } hg'
        have hg2:=Heap.get?_update_self (Obj.mapFields fun x=>x.setIfInBounds 0 (Value.ref hp.objs.size)) hg1 rfl
        have I1:Inv X pins σ H ⟨hp.push { cls:=Value.type "tuple",data:=Data.seq #[u2] },g,d,tk',os⟩:=I.kept (s:=⟨hp,g,d,tk,os⟩) (t':=tk') fun b o z=>Heap.get?_push_of_some _ z
        have I2:=I1.write (x:=e) (e:=e) (o:=excO e C dd) (h':=(hp.push { cls:=Value.type "tuple",data:=Data.seq #[u2] }).update e (Obj.mapFields fun x=>x.setIfInBounds 0 (Value.ref hp.objs.size))) (t':=tk') (by rw [he];exact True.intro) (.inl rfl) (fun b q hb z=>(Heap.get?_update_ne _ _ _ _ hb).trans z) ⟨_,hg2⟩ (excO_ok (a0:=.ref hp.objs.size) hg2)
        have eH:upd H e (excO e C dd)=H:=by
          funext b
          unfold upd
          split
          · rename_i q;rw [q,he]
          · rfl
        rw [eH] at I2
        exact ⟨.non,H,I2,rfl,q⟩
      cases a0 <;> first|exact wpAny_pure (wpAny_pure (fin _))|exact wpAny_letGo (wpAny_pure (fin _))
end
end L2
namespace L2
open PySem PySem.Spec PyProof.Rows PySem.SeqAt PySem.W Builtin.ObjectAttr
section
variable {X:Cx} {CX:CXT} {k:Nat} {f C CS:Addr} {fd:FuncData} {ps:List Str} {sp:Sp} {dvs:List V} {ds:List Value} {E:XK} {m tn cn:Str} {T id:String} {p pos apos:Pos} {e:Expr} {es:List Expr} {t:TA} {r:List V→Hp→VK→Prop} {mc:Value}
def tCallR (r:List V→Hp→VK→Prop) (t:TA):TE:=fun σ H Q=>t σ H fun vs H1=>r vs H1 Q
theorem pe_typeMeth {pl:Sem Bool} (hg:Gl X tn) (hm:X.mg tn=none) (hv:bootBuiltins tn=some (.type T)) (ht:typeOf (.type T)=pure (.type "type")) (hs:Manifest.isStub T=false) (fc:findCls X.K (.type T) (.type "type") m=some (.val (.builtin id))) (hc:CallR X (.builtin id) r) (ha:PA X (e::es) t) (hh:handedIn (.builtin id)=true:=by rfl)
    (hn:tn ≠ "__name__":=by decide) (hdb:(tn == ("__debug__" : Str))=false:=by decide) (hst:starEach (e::es) X.env=(false,eval e X.env)::starEach es X.env:=by rfl) (hpl:(backTo pos (starEach es X.env)).any (·.1)=false:=by rfl)
    (hte:eval (.Call (.Attribute (.Name tn p) m apos) (e::es) [] pos) X.env=(do
      let ov ← eval (.Name tn p) X.env
      standAt apos.atName
      let (f,first) ← holding [ov] (getMethod ov m pl)
      callWith pos f first (backTo pos (starEach (e::es) X.env)) (backToKw pos (keywordEach [] X.env))):=by rfl) :
    PE X (.Call (.Attribute (.Name tn p) m apos) (e::es) [] pos) (tCallR r t):=by
  intro pins s σ H Q I h
  obtain ⟨mm,F⟩:=I.fr
  refine methodCall_KW (pl:=pl) (ld_blt I hg hm hv (method_type F I.ok.mod.kin ht hs fc hh ?_) hn hdb) hte
  exact callWith_builtin1 (thn (ha pos pins _ σ H _ (I.tok _) h) fun us s1 ⟨vs,H1,I1,r1,q1⟩=>hc pins s1 σ H1 vs us Q I1 r1 q1) hst hpl
theorem pe_clsMeth {pl:Sem Bool} (hg:Gl X cn) (hm:X.mg cn=some (.ref CS)) (sg:specialIn X.K (.ref CS) "__getattribute__" = some (some (.builtin "type.__getattribute__"))) (hr':readsIn X.K CS mc=true) (fc:findCls X.K (.ref CS) mc m=some (.val (.ref f))) (hk:keepIn X.K (.ref f)=true)
    (F:FnOk X.prog X.w X.K X.mg X.base CX k f fd ps sp) (hr:Room k X.A) (hb:Binds X.K fd ps ds) (hd:Vals dvs ds) (hx:Passes CX X E) (ha:PA X (e::es) t) (hdb:(cn == ("__debug__" : Str))=false:=by decide)
    (hst:starEach (e::es) X.env=(false,eval e X.env)::starEach es X.env:=by rfl) (hpl:(backTo pos (starEach es X.env)).any (·.1)=false:=by rfl)
    (hte:eval (.Call (.Attribute (.Name cn p) m apos) (e::es) [] pos) X.env=(do
      let ov ← eval (.Name cn p) X.env
      standAt apos.atName
      let (f,first) ← holding [ov] (getMethod ov m pl)
      callWith pos f first (backTo pos (starEach (e::es) X.env)) (backToKw pos (keywordEach [] X.env))):=by rfl) :
    PE X (.Call (.Attribute (.Name cn p) m apos) (e::es) [] pos) (tCall sp dvs E t):=by
  intro pins s σ H Q I h
  refine methodCall_KW (pl:=pl) (ld_glob I hg hm (method_cls I.kIn sg (cls_value I.kIn hr' fc rfl ?_)) hdb) hte
  refine callWith_K (first:=[]) (h₀:=X.base) I.ok.mod.kin hk (thn (ha pos pins _ σ H _ (I.tok _) h) fun us s1 ⟨vs,H1,I1,r,q⟩=>⟨I1.kIn,?_⟩) hst hpl
  exact run_fn F hr hb hd hx I1 r q
end
end L2
namespace L2
open PySem PySem.Spec PyProof.Rows
section
variable {X:Cx} {pins:List (Addr×Obj)} {σ:List (Option V)} {H H':Hp} {s:Shared} {h':Heap}
theorem Inv.stepN {g':Array GenState} {t':Nat} {d':Drawn} {ch:List Addr} (I:Inv X pins σ H s)
    (hch:∀ b∈ch,X.s₀.heap.get? b=none∧b≠X.env.locals∧(∀ x c,X.env.cells.lookup x=some c→c≠b)∧∀ p∈X.pn++pins,p.1≠b)
    (keep:∀ b o,b≠X.env.locals→b∉X.fs→b∉ch→s.heap.get? b=some o→H b=none→h'.get? b=some o)
    (slot:∀ b o,b≠X.env.locals→b∈X.fs→b∉ch→s.heap.get? b=some o→H b=none→∃ sl,h'.get? b=some { o with slots:=sl }) (free:∀ b o,b∉ch→s.heap.get? b=some o→H b=none→H' b=none)
    (there:∀ b o,b∉ch→s.heap.get? b=some o→∃ o',h'.get? b=some o')
    (tups:∀ b xs,H b=some (.tup xs)→H' b=some (.tup xs)) (frzs:∀ b o u,H b=some (.frz o u)→H' b=some (.frz o u)) (tbls:∀ b ps,H b=some (.tbl ps)→∃ more,H' b=some (.tbl (ps++more)))
    (ns:∀ m,s.heap.Ns X.env.locals m→h'.Ns X.env.locals m) (hok:HOk X.prog X.w H' h') (hg:AllBare g') :
    Inv X pins σ H' { s with heap:=h',gens:=g',drawn:=d',toks:=t' }:=by
  have neL:∀ b o,X.s₀.heap.get? b=some o→b≠X.env.locals:=fun b o e=>Nat.ne_of_lt (Nat.lt_of_lt_of_le (Heap.lt_size e) I.ok.above)
  have neC:∀ b o,X.s₀.heap.get? b=some o→b∉X.ex→b∉ch:=fun b o e hx hb=>by
    rw [(hch b hb).1] at e;cases e
  have cellK:∀ x c,X.env.cells.lookup x=some c→∀ v,s.heap.IsCell c v→h'.IsCell c v:=fun x c e v ⟨o,ho,hd⟩=>by
    have nch:c∉ch:=fun z=>(hch c z).2.2.1 x c e rfl
    by_cases hc:c∈X.fs
    · obtain ⟨sl,q⟩:=slot c o (I.cne x c e) hc nch ho (I.freeC x c e)
      exact ⟨_,q,hd⟩
    · exact ⟨o,keep c o (I.cne x c e) hc nch ho (I.freeC x c e),hd⟩
  refine ⟨I.ok,I.os,hg,⟨fun b o e n hb hx=>?_,fun b o e n hb hx=>?_,fun b o e n hx=>?_,fun b o e hx=>?_,fun b xs e=>tups b xs (I.base.tups b xs e),fun b o xs e=>frzs b o xs (I.base.frzs b o xs e),fun b ps e=>?_⟩,?_,fun x c e=>?_,?_,fun x c e=>?_,fun p hp=>?_,hok,I.len⟩
  · exact keep b o (neL b o e) hb (neC b o e hx) (I.base.keep b o e n hb hx) (I.base.free b o e n hx)
  · obtain ⟨sl,e1⟩:=I.base.slot b o e n hb hx
    obtain ⟨sl',e2⟩:=slot b _ (neL b o e) hb (neC b o e hx) e1 (I.base.free b o e n hx)
    exact ⟨sl',e2⟩
  · obtain ⟨o',e1⟩:=I.base.there b o e hx
    exact free b o' (neC b o e hx) e1 (I.base.free b o e n hx)
  · obtain ⟨o',e1⟩:=I.base.there b o e hx
    exact there b o' (neC b o e hx) e1
  · obtain ⟨m1,e1⟩:=I.base.tbls b ps e
    obtain ⟨m2,e2⟩:=tbls b _ e1
    exact ⟨m1++m2,by rw [e2,Array.append_assoc]⟩
  · obtain ⟨m,hn,hl⟩:=I.loc
    refine ⟨m,ns m hn,fun i x v e1 e2 e3=>?_⟩
    obtain ⟨u,r,l⟩:=hl i x v e1 e2 e3
    refine ⟨u,r,?_⟩
    rcases l with l|⟨k,c,e,z⟩
    · exact .inl l
    · exact .inr ⟨k,c,e,cellK x c e _ z⟩
  · obtain ⟨v,z⟩:=I.cell x c e
    exact ⟨v,cellK x c e v z⟩
  · obtain ⟨m,⟨o,_,_,ho,_⟩,_⟩:=I.loc
    exact free _ o (fun z=>(hch _ z).2.1 rfl) ho I.free
  · obtain ⟨v,o,ho,hd⟩:=I.cell x c e
    exact free c o (fun z=>(hch c z).2.2.1 x c e rfl) ho (I.freeC x c e)
  · obtain ⟨e,n,ne,nf,d⟩:=I.pin p hp
    have nch:p.1∉ch:=fun z=>(hch p.1 z).2.2.2 p hp rfl
    exact ⟨keep p.1 p.2 ne nf nch e n,free p.1 p.2 nch e n,ne,nf,d⟩
end
end L2
namespace L2
open PySem PySem.Spec PyProof.Rows PySem.SeqAt PySem.W Builtin.ObjectAttr
section
variable {X:Cx} {pins:List (Addr×Obj)} {σ σ0:St} {H H0:Hp} {s s0:Shared} {e:Addr} {cls:Value} {dd:Option Addr}
theorem catchX {A:Around} {Q:Unit→Shared→Prop} {E:Value→Shared→Prop} (I0:Inv X pins σ0 H0 s0) (I:Inv X pins σ H s) (hst:X.stack=X.env::X.outer) (hfm:X.env.frame=some X.env.locals) (hfr:A.frames=some X.stack) (hex:X.ex=[]) (hth:∀ b o,s0.heap.get? b=some o→∃ o',s.heap.get? b=some o') (x:ExcOk s.heap H s0.heap e cls dd)
    (h:∀ h',ExcOk h' H s0.heap e cls dd→Inv X pins σ H { s with heap:=h' }→Q () { s with heap:=h' }):wpAny (model X.prog X.w) A (noteFrame (.ref e) X.env) (fun _ s2=>wpAny (model X.prog X.w) A (setFlight (.ref e) none) Q E s2) E s:=by
  have hl:=I.stack
  rw [hst] at hfr hl
  obtain ⟨oe,vs,h1,h2,h3,h4,h5,h6,h7⟩:=x
  have free:∀ b∈(X.env::X.outer).filterMap (·.frame),H b=none:=fun b hb=>I.stkFree b (by rw [hst];exact hb)
  have old:∀ T,s0.heap.get? T=none→X.s₀.heap.get? T=none∧T≠X.env.locals∧(∀ x c,X.env.cells.lookup x=some c→c≠T)∧∀ p∈X.pn++pins,p.1≠T:=fun T hT=>by
    refine ⟨?_,?_,fun x c z q=>?_,fun p hp q=>?_⟩
    · cases z:X.s₀.heap.get? T with
      |none=>rfl
      | some o=>
        obtain ⟨o',q⟩:=I0.base.there T o z (by rw [hex];simp)
        rw [hT] at q;cases q
    · rintro rfl
      obtain ⟨_,⟨o,_,_,ho,_⟩,_⟩:=I0.loc
      rw [hT] at ho;cases ho
    · obtain ⟨v,o,ho,_⟩:=I0.cell x c z
      rw [q,hT] at ho;cases ho
    · have:=(I0.pin p hp).1
      rw [q,hT] at this;cases this
  have fin:∀ (ch:List Addr) (h':Heap) (T:Addr) (oe' oT:Obj) (vs' ts:Array Value),(∀ b∈ch,s0.heap.get? b=none∧H b=none)→s0.heap.get? T=none→T≠e→H T=none→h'.get? e=some oe'→oe'.cls=oe.cls→oe'.dict=oe.dict→oe'.data=.fields vs'→vs'[1]?=some (.ref T)→h'.get? T=some oT→oT.data=.fields ts→ts[3]?=some .none→
      (∀ b o,b∉ch→b∉(X.env::X.outer).filterMap (·.frame)→s.heap.get? b=some o→h'.get? b=some o)→(∀ b o,b∉ch→s.heap.get? b=some o→∃ sl,h'.get? b=some { o with slots:=sl })→Q () { s with heap:=h' }:=by
    intro ch h' T oe' oT vs' ts hch hT hTe hTn g1 g2 g3 g4 g5 g6 g7 g8 kp ks
    refine h h' ⟨oe',vs',g1,g2.trans h2,g3.trans h3,g4,h5,h6,.inr ⟨T,oT,ts,g5,hTe,g6,g7,g8,hT,hTn⟩⟩ ?_
    have ninF:∀ b,b≠X.env.locals→b∉X.fs→b∉(X.env::X.outer).filterMap (·.frame):=fun b hb hn hm=>by
      rw [List.filterMap_cons,hfm] at hm
      rcases List.mem_cons.mp hm with q|hm
      · exact hb q
      · exact hn hm
    refine I.stepN (ch:=ch) (g':=s.gens) (d':=s.drawn) (t':=s.toks) (fun b hb=>old b (hch b hb).1) (fun b o hL hf hc z _=>kp b o hc (ninF b hL hf) z) (fun b o _ _ hc z _=>ks b o hc z) (fun b o _ _ n=>n) (fun b o hc z=>let ⟨sl,q⟩:=ks b o hc z;⟨_,q⟩) (fun _ _ z=>z) (fun _ _ _ z=>z) (fun b ps z=>⟨#[],by rw [z];simp⟩) (fun m hm=>?_) (fun b u hb=>?_) I.bare
    · obtain ⟨o,es,ep,ho,hd,r⟩:=hm
      have hnl:X.env.locals∉ch:=fun z=>(old _ (hch _ z).1).2.1 rfl
      obtain ⟨sl,q⟩:=ks _ o hnl ho
      exact ⟨_,es,ep,q,hd,r⟩
    · refine (I.hok b u hb).stay (fun c v hc q=>kp c v (fun z=>?_) (fun hm=>?_) q) (fun _ q=>q) fun _ _ q=>q
      · have:=(hch c z).2
        rcases hc with rfl|w
        · rw [this] at hb;cases hb
        · rw [this] at w;cases w
      · have:=free c hm
        rcases hc with rfl|w
        · rw [this] at hb;cases hb
        · rw [this] at w;cases w
  have newT:∀ T,s.heap.objs.size≤T→s0.heap.get? T=none∧T≠e∧H T=none:=fun T hT=>by
    refine ⟨?_,fun q=>?_,I.hok.fresh hT⟩
    · cases z:s0.heap.get? T with
      |none=>rfl
      | some o=>
        obtain ⟨o',q⟩:=hth T o z
        exact absurd (Nat.lt_of_lt_of_le (Heap.lt_size q) hT) (Nat.lt_irrefl _)
    · subst q;exact absurd (Nat.lt_of_lt_of_le (Heap.lt_size h1) hT) (Nat.lt_irrefl _)
  unfold noteFrame
  simp only [hfm]
  rcases h7 with h7|⟨T,oT,ts,t1,t2,t3,t4,t5,t6,t7⟩
  · refine wpAny_bind (wpAny_field h1 h4 h7 ?_)
    rw [if_neg (by decide)]
    refine entryX hfr hl hfm h1 h4 (Array.getElem?_eq_some_iff.mp h7).1 fun h' T oe' oT vs' ts hT g1 g2 g3 g4 g5 g6 g7 g8 kp ks=>?_
    obtain ⟨n1,n2,n3⟩:=newT T hT
    exact fin [e] h' T oe' oT vs' ts (fun b hb=>by cases List.mem_singleton.mp hb;exact ⟨h5,h6⟩) n1 n2 n3 g1 g2 g3 g4 g5 g6 g7 g8 (fun b o hb hm z=>kp b o (fun q=>hb (by simp [q])) hm z) fun b o hb z=>ks b o (fun q=>hb (by simp [q])) z
  · refine wpAny_bind (wpAny_field h1 h4 t1 ?_)
    rw [if_pos (show (Value.ref T != Value.none)=true by simp)]
    refine wpAny_bind (wpAny_field t3 t4 t5 ?_)
    rw [if_neg (show ¬ ((Value.none == rawInt X.env.locals)=true) by simp [rawInt])]
    refine wpAny_bind (wpAny_setField t3 t4 (Array.getElem?_eq_some_iff.mp t5).1 ?_)
    have other:∀ b,b≠T→(s.heap.update T (Obj.mapFields (·.setIfInBounds 3 Value.none))).get? b=s.heap.get? b:=fun b hb=>Heap.get?_update_other _ _ (Ne.symm hb)
    have noR:∀ b o,s.heap.get? b=some o→(∀ vs,o.data≠.fields vs)→b≠T:=fun b o hb hnf q=>by
      subst q
      rw [t3] at hb
      cases hb
      exact hnf ts t4
    refine entryX (s:={ s with heap:=s.heap.update T (Obj.mapFields (·.setIfInBounds 3 Value.none)) }) hfr (hl.of_keeps fun b o hb hnf=>⟨o,(other b (noR b o hb hnf)).trans hb,rfl⟩) hfm ((other e (Ne.symm t2)).trans h1) h4 (Array.getElem?_eq_some_iff.mp t1).1 fun h' T' oe' oT' vs' ts' hT g1 g2 g3 g4 g5 g6 g7 g8 kp ks=>?_
    have hT':s.heap.objs.size≤T':=by
      have z:(s.heap.update T (Obj.mapFields (·.setIfInBounds 3 Value.none))).objs.size=s.heap.objs.size:=Heap.size_update _ _ _
      exact Nat.le_trans (Nat.le_of_eq z.symm) hT
    obtain ⟨n1,n2,n3⟩:=newT T' hT'
    refine fin [e,T] h' T' oe' oT' vs' ts' (fun b hb=>?_) n1 n2 n3 g1 g2 g3 g4 g5 g6 g7 g8 (fun b o hb hm z=>kp b o (fun q=>hb (by simp [q])) hm ((other b fun q=>hb (by simp [q])).trans z)) fun b o hb z=>ks b o (fun q=>hb (by simp [q])) ((other b fun q=>hb (by simp [q])).trans z)
    rcases List.mem_cons.mp hb with rfl|hb
    · exact ⟨h5,h6⟩
    · cases List.mem_singleton.mp hb;exact ⟨t6,t7⟩
end
end L2
namespace L2
open PySem PySem.Spec PyProof.Rows PySem.SeqAt PySem.W Builtin.ObjectAttr
theorem upd_id {h:Heap} {a:Addr} {o:Obj} {f:Obj→Obj} (e:h.get? a=some o) (hf:f o=o):h.update a f=h:=by
  obtain ⟨objs,l⟩:=h
  have e':objs[a]?=some o:=by
    unfold Heap.get? at e
    dsimp only at e
    split at e
    · cases e
    · exact e
  show (⟨objs.modify a f,l⟩:Heap)=⟨objs,l⟩
  congr 1
  obtain ⟨hlt,e2⟩:=Array.getElem?_eq_some_iff.mp e'
  refine Array.ext (by simp) fun i h1 h2=>?_
  rw [Array.getElem_modify]
  split
  · rename_i q
    subst q
    rw [e2,hf]
  · rfl
section
variable {X:Cx} {pins:List (Addr×Obj)} {σ σ0:St} {H H0:Hp} {s s0:Shared} {e:Addr} {cls:Value} {dd:Option Addr}
theorem Inv.drop (I:Inv X pins σ H s) (i:Nat):Inv X pins (σ.set i none) H s:=by
  obtain ⟨ok,os,bare,base,⟨m,hn,hl⟩,cell,free,freeC,pin,hok,len⟩:=I
  refine ⟨ok,os,bare,base,⟨m,hn,fun j x v e1 e2 e3=>?_⟩,cell,free,freeC,pin,hok,by simpa using len⟩
  by_cases hj:j=i
  · subst hj
    rw [List.getElem?_set] at e2
    split at e2 <;> simp_all
  · rw [List.getElem?_set_ne (Ne.symm hj)] at e2
    exact hl j x v e1 e2 e3
theorem unbindX {M:Model} {A:Around} {E:Value→Shared→Prop} {i:Nat} {x:Str} {pos:Pos} {Q:Unit→Shared→Prop} (I:Inv X pins σ H s) (hN:X.N.Nodup) (hi:X.N[i]?=some x) (hx:X.env.scope.names.lookup x=some .local)
    (h:∀ s',Inv X pins (σ.set i none) H s'→Q () s'):wpAny M A (do bindName X.env x .none;unbindBehindTheSuite X.env x pos) Q E s:=by
  have hcls:(X.env.scope.kind == .class || (X.env.scope.kind == .module && X.env.locals != X.env.globals))=false:=by rw [I.ok.kind];rfl
  have hiσ:i<σ.length:=by rw [I.len];exact (List.getElem?_eq_some_iff.mp hi).1
  refine wpAny_bind (wpAny_bindName (store_ok I hN hi (.inl hx) (v:=.non) (u:=.none) rfl (fun s1 I1=>?_) (.inr hx)))
  obtain ⟨m,hn,hl⟩:=id I1.loc
  obtain ⟨u,_,lk⟩:=hl i x .non hi (by rw [List.getElem?_set_self hiσ]) (.inl hx)
  have hv:m x=some u:=by
    rcases lk with ⟨_,z⟩|⟨k,_⟩
    · exact z
    · unfold Env.kindOf at k
      rw [hx] at k
      rcases k with k|k <;> cases k
  unfold unbindBehindTheSuite
  refine wpAny_onRaise (wpAny_unbindName_local hx hn hv hcls fun h' u' hn' hs=>?_)
  have I2:=I1.drop i
  rw [List.set_set] at I2
  obtain ⟨ok,os,bare,base,⟨m2,hn2,hl2⟩,cell,free,freeC,pin,hok,len⟩:=id I2
  obtain ⟨oL,_,_,hoL,_⟩:=id hn
  have neL:∀ b o,X.s₀.heap.get? b=some o→b≠X.env.locals:=fun b o e=>Nat.ne_of_lt (Nat.lt_of_lt_of_le (Heap.lt_size e) ok.above)
  refine h _ ⟨ok,os,bare,⟨fun b o e n hb hx=>?_,fun b o e n hb hx=>?_,base.free,fun b o e hx=>?_,base.tups,base.frzs,base.tbls⟩,⟨_,hn',fun j y v' e1 e2 e3=>?_⟩,fun y c e=>?_,free,freeC,fun p hp=>?_,fun b ob e=>?_,len⟩
  · exact (hs.2 b (neL b o e)).trans (base.keep b o e n hb hx)
  · obtain ⟨sl,e1⟩:=base.slot b o e n hb hx
    exact ⟨sl,(hs.2 b (neL b o e)).trans e1⟩
  · obtain ⟨o',e1⟩:=base.there b o e hx
    exact ⟨o',(hs.2 b (neL b o e)).trans e1⟩
  · have hj:j≠i:=fun q=>by
      subst q
      rw [List.getElem?_set_self hiσ] at e2;cases e2
    rw [List.getElem?_set_ne (Ne.symm hj)] at e2
    obtain ⟨u'',r',q⟩:=hl j y v' e1 (by rw [List.getElem?_set_ne (Ne.symm hj)];exact e2) e3
    refine ⟨u'',r',?_⟩
    rcases q with ⟨k,e⟩|⟨k,c,e,z⟩
    · refine .inl ⟨k,?_⟩
      have:y≠x:=fun e=>hj (nodup_ix hN e1 (e ▸ hi))
      simp [this,e]
    · exact .inr ⟨k,c,e,z.sameBut hs (I1.cne y c e)⟩
  · obtain ⟨w',z⟩:=I1.cell y c e
    exact ⟨w',z.sameBut hs (I1.cne y c e)⟩
  · obtain ⟨e,n,ne,nf,d⟩:=pin p hp
    exact ⟨(hs.2 p.1 ne).trans e,n,ne,nf,d⟩
  · refine (hok b ob e).stay (fun c w' hc q=>(hs.2 c ?_).trans q) (fun _ q=>q) fun _ _ q=>q
    rintro rfl
    rcases hc with rfl|hc
    · rw [free] at e;cases e
    · rw [free] at hc;cases hc
theorem setFlightX {M:Model} {A:Around} {Q:Unit→Shared→Prop} {E:Value→Shared→Prop} (x:ExcOk s.heap H s0.heap e cls dd) (h:Q () s):wpAny M A (setFlight (.ref e) none) Q E s:=by
  obtain ⟨oe,vs,h1,h2,h3,h4,h5,h6,h7⟩:=x
  unfold setFlight
  rcases h7 with h7|⟨T,oT,ts,t1,t2,t3,t4,t5,t6,t7⟩
  · refine wpAny_bind (wpAny_field h1 h4 h7 ?_)
    rw [if_neg (by decide)]
    exact wpAny_pure h
  · refine wpAny_bind (wpAny_field h1 h4 t1 ?_)
    rw [if_pos (show (Value.ref T != Value.none)=true by simp)]
    refine wpAny_setField t3 t4 (Array.getElem?_eq_some_iff.mp t5).1 ?_
    have:s.heap.update T (Obj.mapFields (·.setIfInBounds 3 ((none:Option Addr).elim Value.none fun f=>rawInt f)))=s.heap:=by
      refine upd_id t3 ?_
      obtain ⟨c,d,da,sl⟩:=oT
      cases (show da=.fields ts from t4)
      show (⟨c,d,.fields (ts.setIfInBounds 3 .none),sl⟩:Obj)=⟨c,d,.fields ts,sl⟩
      have:ts.setIfInBounds 3 .none=ts:=by
        obtain ⟨hlt,e2⟩:=Array.getElem?_eq_some_iff.mp t5
        refine Array.ext (by simp) fun i h1 h2=>?_
        rw [Array.getElem_setIfInBounds]
        split
        · rename_i q
          subst q
          exact e2.symm
        · rfl
      rw [this]
    rw [this]
    exact h
end
def hCx (X:Cx) (ea:Addr) (ps:List (Addr×Obj)):Cx:={ X with A:=X.A.mark (some (.ref ea)),calm:=false,pn:=X.pn++ps,xe:=fun _ _=>False }
section
variable {X:Cx} {pins:List (Addr×Obj)} {σ σ0:St} {H H0:Hp} {s s0:Shared} {e:Addr} {cls:Value} {dd:Option Addr}
theorem Cx.Ok.into (ok:X.Ok) {ea:Addr} {ps:List (Addr×Obj)}:(hCx X ea ps).Ok:=
  ⟨ok.mod,ok.kind,ok.glob,ok.blt,ok.above,ok.inj,ok.has,ok.cab,(fun h=>nomatch h),ok.frames,ok.stk,ok.exf,ok.bs,ok.bsz,ok.noex,ok.exfs,ok.funs,ok.frf⟩
theorem Inv.into (I:Inv X pins σ H s) {ea:Addr} {ps:List (Addr×Obj)} (hp:∀ p∈ps,s.heap.get? p.1=some p.2∧H p.1=none∧p.1≠X.env.locals∧p.1∉X.fs∧∀ v,p.2.data≠.cell v):Inv (hCx X ea ps) pins σ H s:=by
  refine ⟨I.ok.into,I.os,I.bare,I.base,I.loc,I.cell,I.free,I.freeC,fun p h=>?_,I.hok,I.len⟩
  rcases List.mem_append.mp h with h|h
  · rcases List.mem_append.mp h with h|h
    · exact I.pin p (List.mem_append_left _ h)
    · exact hp p h
  · exact I.pin p (List.mem_append_right _ h)
theorem Inv.outof {ea:Addr} {ps:List (Addr×Obj)} (I:Inv (hCx X ea ps) pins σ H s) (ok:X.Ok):Inv X pins σ H s:=by
  refine ⟨ok,I.os,I.bare,I.base,I.loc,I.cell,I.free,I.freeC,fun p h=>?_,I.hok,I.len⟩
  rcases List.mem_append.mp h with h|h
  · exact I.pin p (List.mem_append_left _ (List.mem_append_left _ h))
  · exact I.pin p (List.mem_append_right _ h)
theorem Inv.handle (I0:Inv X pins σ0 H0 s0) (I:Inv X pins σ H s) (x:ExcOk s.heap H s0.heap e cls dd):∃ ps oe,(e,oe)∈ps∧oe.cls=cls∧oe.dict=dd∧(∃ vs,oe.data=.fields vs)∧Inv (hCx X e ps) pins σ H s∧∀ {σ1 H1 s1},Inv (hCx X e ps) pins σ1 H1 s1→ExcOk s1.heap H1 s0.heap e cls dd:=by
  obtain ⟨oe,vs,h1,h2,h3,h4,h5,h6,h7⟩:=x
  have new:∀ T o vs,s0.heap.get? T=none→s.heap.get? T=some o→H T=none→o.data=.fields vs→s.heap.get? T=some o∧H T=none∧T≠X.env.locals∧T∉X.fs∧∀ v,o.data≠.cell v:=fun T o vs hT ho hn hd=>by
    refine ⟨ho,hn,?_,fun q=>?_,fun v q=>by rw [hd] at q;cases q⟩
    · rintro rfl
      obtain ⟨_,⟨o,_,_,ho,_⟩,_⟩:=I0.loc
      rw [hT] at ho;cases ho
    · obtain ⟨_,o,ho,_⟩:=I0.funs.mem q
      rw [hT] at ho;cases ho
  rcases h7 with h7|⟨T,oT,ts,t1,t2,t3,t4,t5,t6,t7⟩
  · refine ⟨[(e,oe)],oe,List.mem_singleton.mpr rfl,h2,h3,⟨_,h4⟩,I.into fun p hp=>?_,fun {σ1 H1 s1} I1=>?_⟩
    · cases List.mem_singleton.mp hp
      exact new e oe vs h5 h1 h6 h4
    · have p:=I1.pin (e,oe) (List.mem_append_left _ (List.mem_append_right _ (List.mem_singleton.mpr rfl)))
      exact ⟨oe,vs,p.1,h2,h3,h4,h5,p.2.1,.inl h7⟩
  · refine ⟨[(e,oe),(T,oT)],oe,List.mem_cons_self,h2,h3,⟨_,h4⟩,I.into fun p hp=>?_,fun {σ1 H1 s1} I1=>?_⟩
    · rcases List.mem_cons.mp hp with rfl|hp
      · exact new e oe vs h5 h1 h6 h4
      · cases List.mem_singleton.mp hp
        exact new T oT ts t6 t3 t7 t4
    · have p:=I1.pin (e,oe) (List.mem_append_left _ (List.mem_append_right _ List.mem_cons_self))
      have q:=I1.pin (T,oT) (List.mem_append_left _ (List.mem_append_right _ (List.mem_cons_of_mem _ (List.mem_singleton.mpr rfl))))
      exact ⟨oe,vs,p.1,h2,h3,h4,h5,p.2.1,.inr ⟨T,oT,ts,t1,t2,q.1,t4,t5,t6,q.2.1⟩⟩
theorem excMatchC {K:Frag} {P:Program} {w:World} {A:Around} {E:Value→Shared→Prop} {Q:Bool→Shared→Prop} {C Ce:Addr} {B newId:String} {b:Bool} {oe:Obj} (kin:K.In s.heap) (he:s.heap.get? e=some oe) (hcls:oe.cls=.ref Ce) (XC:XCls K C B newId) (hm:mroIn K Ce (.ref C)=some b) (h:Q b s) :
    wpAny (model P w) A (excMatches (.ref e) (.ref C)) Q E s:=by
  have Y:=makesX_of (M:=model P w) kin XC.mks
  obtain ⟨⟨oc,od,cd,sl,hC,_,_,_⟩,_,_,_,_,isE,_,_,_,typ⟩:=Y
  have T1:Looks (model P w) s.heap (typeOf (.ref e)) (.ref Ce):=hcls ▸ (Looks.ld he).andThen .now
  have T2:Looks (model P w) s.heap (typeOf (.ref C)) (.type "type"):=looks_typeIn kin XC.ty
  have T4:Looks (model P w) s.heap (isSubtype (.ref Ce) (.ref C)) b:=looks_mroIn kin hm
  have f:=tc_notTuple
  obtain ⟨hp,g,d,tk,os⟩:=s
  unfold excMatches
  repeat (first|with_reducible refine wpAny_loadPart_at hC ?_|with_reducible refine isE.at ?_|with_reducible refine T4.at ?_|with_reducible refine typ.at ?_|with_reducible refine T1.at ?_|with_reducible refine T2.at ?_|wp_step)
  cases b <;> (wp_walk;exact h)
end
end L2
namespace L2
open PySem PySem.Spec PyProof.Rows PySem.SeqAt PySem.W Builtin.ObjectAttr
abbrev THs:=Ends→Addr→Option Addr→St→Hp→Prop
def PH (X:Cx) (hs:List ExceptHandler) (th:THs):Prop:=
  ∀ (pins:List (Addr×Obj)) (s0:Shared) (σ0:St) (H0:Hp) (s:Shared) (σ:St) (H:Hp) (D:Ends) (ea Ce:Addr) (dd:Option Addr),Inv X pins σ0 H0 s0→Inv X pins σ H s→ExcOk s.heap H s0.heap ea (.ref Ce) dd→th D Ce dd σ H→wpAny (model X.prog X.w) X.A (handleBy (.ref ea) X.env hs) (SP X pins D) X.xe s
def asEnds (i:Nat) (D:Ends):Ends:=⟨fun σ H=>D.nx (σ.set i none) H,D.rt,fun σ H=>D.bk (σ.set i none) H,fun σ H=>D.ct (σ.set i none) H⟩
def tHand (K:Frag) (C:Addr) (B newId:String) (i:Nat) (tb:Addr→Addr→Option Addr→TS) (tr:THs):THs:=fun D Ce dd σ H=>XCls K C B newId∧∃ b,mroIn K Ce (.ref C)=some b∧if b then ∀ ea,tb ea Ce dd (asEnds i D) (σ.set i (some (.ref ea))) H else tr D Ce dd σ H
section
variable {X:Cx}
theorem ph_nil:PH X [] (fun _ _ _ _ _=>False):=fun _ _ _ _ _ _ _ _ _ _ _ _ _ _ h=>h.elim
theorem ph_cons {t:Expr} {n:Str} {b0:Stmt} {body:List Stmt} {pos:Pos} {rest:List ExceptHandler} {C:Addr} {B newId:String} {i:Nat} {tb:Addr→Addr→Option Addr→TS} {tr:THs} (hN:X.N.Nodup) (hi:X.N[i]?=some n) (hx:X.env.scope.names.lookup n=some .local)
    (ht:∀ ea ps,PE (hCx X ea ps) t (tC (.ref C))) (hb:∀ ea oe ps Ce dd,(ea,oe)∈ps→oe.cls=.ref Ce→oe.dict=dd→(∃ vs,oe.data=.fields vs)→PSs (hCx X ea ps) (b0::body) (tb ea Ce dd)) (hr:PH X rest tr) :
    PH X (.ExceptHandler (some t) (some n) (b0::body) pos::rest) (tHand X.K C B newId i tb tr):=by
  intro pins s0 σ0 H0 s σ H D ea Ce dd I0 I x h
  obtain ⟨XC,b,hm,hk⟩:=h
  obtain ⟨ps,oe,hmem,hc,hd,hvs,IH,back⟩:=I0.handle I x
  refine wpAny_handleBy_cons (codeAny_handlers_test (wpAny_mono (ht ea ps pins s σ H (fun v H1=>v=.ref C∧H1=H) IH ⟨rfl,rfl⟩) (fun c s1 z=>?_) fun _ _ z=>z.elim)) (by intro q;cases q)
  obtain ⟨v,H1,I1,r,rfl,rfl⟩:=z
  cases (show c=Value.ref C from r)
  have p:=I1.pin (ea,oe) (List.mem_append_left _ (List.mem_append_right _ hmem))
  refine excMatchC I1.kIn p.1 hc XC hm ?_
  cases b with
  |false=>exact hr pins s0 σ0 H0 s1 σ H1 D ea Ce dd I0 (I1.outof I.ok) (back I1) hk
  | true=>
    refine codeAny_handlers_suite_as (setFlightX (back I1) (store_ok (X:=hCx X ea ps) I1 hN hi (.inl hx) (v:=.ref ea) rfl (fun s2 I2=>wpAny_mono (hb ea oe ps Ce dd hmem hc hd hvs pins s2 _ _ (asEnds i D) I2 (hk ea)) (fun f s3 z=>?_) fun _ _ z=>z.elim) (.inr hx)))
    show wpAny _ X.A _ _ X.xe s3
    cases f with
    | next=>
      obtain ⟨σ',H',I3,q⟩:=z
      exact unbindX (I3.outof I.ok) hN hi hx fun s' I'=>⟨_,_,I',q⟩
    | brk=>
      obtain ⟨σ',H',I3,q⟩:=z
      exact unbindX (I3.outof I.ok) hN hi hx fun s' I'=>⟨_,_,I',q⟩
    | cont=>
      obtain ⟨σ',H',I3,q⟩:=z
      exact unbindX (I3.outof I.ok) hN hi hx fun s' I'=>⟨_,_,I',q⟩
    | ret u=>
      obtain ⟨v,σ',H',I3,r',q⟩:=z
      exact unbindX (I3.outof I.ok) hN hi hx fun s' I'=>⟨v,_,_,I',r',q⟩
end
section
variable {X:Cx}
def tryE (X:Cx) (pins:List (Addr×Obj)) (s0:Shared) (W:Addr→Option Addr→St→Hp→Prop):Value→Shared→Prop:=fun v s=>∃ ea Ce dd σ H,v=.ref ea∧Inv X pins σ H s∧(∀ b o,s0.heap.get? b=some o→∃ o',s.heap.get? b=some o')∧ExcOk s.heap H s0.heap ea (.ref Ce) dd∧W Ce dd σ H
abbrev TSX:=Ends→(Addr→Option Addr→St→Hp→Prop)→St→Hp→Prop
def PSX (X:Cx) (st:List Stmt) (t:TSX):Prop:=
  ∀ (pins:List (Addr×Obj)) (s:Shared) (σ:St) (H:Hp) (D:Ends) (W:Addr→Option Addr→St→Hp→Prop),Inv X pins σ H s→t D W σ H→wpAny (model X.prog X.w) X.A (execs st X.env) (SP X pins D) (tryE X pins s W) s
def tTry (t:TSX) (th:THs):TS:=fun D σ H=>t D (fun Ce dd σ' H'=>th D Ce dd σ' H') σ H
theorem ps_try {body:List Stmt} {h0:ExceptHandler} {hs:List ExceptHandler} {pos:Pos} {t:TSX} {th:THs} (hst:X.stack=X.env::X.outer) (hfm:X.env.frame=some X.env.locals) (hex:X.ex=[]) (hb:PSX X body t) (hh:PH X (h0::hs) th):PS X (.Try body (h0::hs) [] [] pos) (tTry t th):=by
  intro pins s σ H D I h
  refine wpAny_Try_except (wpAny_mono (hb pins s σ H D _ I h) (fun f s1 z=>?_) fun v s1 z=>?_)
  · cases f with
    |next=>exact wpAny_execs_nil z
    |brk=>exact z
    |cont=>exact z
    |ret u=>exact z
  · obtain ⟨ea,Ce,dd,σ1,H1,rfl,I1,th1,x,q⟩:=z
    refine catchX I I1 hst hfm I.ok.frames hex th1 x fun h' x' I2=>hh pins s σ H _ σ1 H1 D ea Ce dd I I2 x' q
end
end L2
namespace L2
open PySem PySem.Spec PyProof.Rows PySem.SeqAt PySem.W Builtin.ObjectAttr
structure Thunk (P:Program) (w:World) (K:Frag) (mg:Str→Option Value) (base:Heap) (g:Heap) (H₀:Hp) (fr:List Addr) (k:Nat) (f:Addr) (H:Hp) (Qv:VK) (Ev:XK):Prop where
  fn:∀ s:Shared,HOk P w H s.heap→∃ fo fd,s.heap.get? f=some fo∧fo.data=.func fd
  run:∀ (A:Around) (outer:List Env) (s:Shared),Room k A→Env0 P w K mg base A outer s H→(∀ b o,g.get? b=some o→H₀ b=none→b∉fr→s.heap.get? b=some o)→codeAny (model P w) A (.call (.ref f) ⟨[],[]⟩) (CR (CX1 P w) outer P w H s Qv Ev) s
section
variable {X:Cx}
theorem keeps_F {M:Model} {f:Addr} (h:Heap) (z:∃ fo fd,h.get? f=some fo∧fo.data=.func fd):∃ k,(k=Keeper.frame∨k=Keeper.machine∨k=Keeper.boundFrame)∧Looks M h (keeperOf (.ref f)) k:=by
  obtain ⟨fo,fd,e,d⟩:=z
  obtain ⟨c,di,da,sl⟩:=fo
  cases (show da=.func fd from d)
  exact ⟨.frame,.inl rfl,(Looks.ld (part:=none) e).andThen .now⟩
def tThunk (X:Cx) (k i j:Nat):TSX:=fun D W σ H=>∃ f Qv Ev,σ[j]?=some (some (.ref f))∧Thunk X.prog X.w X.K X.mg X.base X.s₀.heap X.H₀ X.fs k f H Qv Ev∧(∀ v H',Qv v H'→D.nx (σ.set i (some v)) H')∧∀ cls dd H',Ev cls dd H'→∃ Ce,cls=.ref Ce∧W Ce dd σ H'
theorem psx_thunk {k i j:Nat} {x a:Str} {px pa pc pos:Pos} (hN:X.N.Nodup) (hi:X.N[i]?=some x) (hx:Loc X.env.scope x) (hj:X.N[j]?=some a) (ha:Vis X.env.scope a) (hex:X.ex=[]) (hr:Room k X.A) (hs:swapsWith (.Call (.Name a pa) [] [] pc) (some (.Name x px)) pos.line X.env=pure false:=by rfl) (hf:X.fn x=true∨X.env.scope.names.lookup x=some .local:=by first|exact .inl rfl|exact .inr rfl|assumption)
    (hd:(a == ("__debug__" : Str))=false:=by decide) (hcd:(a == ("__classdict__" : Str))=false:=by decide) :
    PSX X [.Assign [.Name x px] (.Call (.Name a pa) [] [] pc) pos] (tThunk X k i j):=by
  intro pins s σ H D W I h
  obtain ⟨f,Qv,Ev,e,T,hv,he⟩:=h
  have kp:∀ b o,X.s₀.heap.get? b=some o→X.H₀ b=none→b∉X.fs→s.heap.get? b=some o:=fun b o z n hb=>I.base.keep b o z n hb (by rw [hex];simp)
  have fin:∀ t:Sem Flow,wpAny (model X.prog X.w) X.A t (fun f s1=>f=.next∧∃ v H',Inv X pins (σ.set i (some v)) H' s1∧Qv v H') (tryE X pins s W) s→wpAny (model X.prog X.w) X.A t (SP X pins D) (tryE X pins s W) s:=fun t ht=>thn ht fun f s1 ⟨q,v,H',I1,z⟩=>by subst q;exact ⟨_,_,I1,hv _ _ z⟩
  have one:wpAny (model X.prog X.w) X.A (exec (.Assign [.Name x px] (.Call (.Name a pa) [] [] pc) pos) X.env) (fun f s1=>f=.next∧∃ v H',Inv X pins (σ.set i (some v)) H' s1∧Qv v H') (tryE X pins s W) s:=by
    refine wpAny_Assign_Name (thn (Q:=EP X pins σ Qv) ?_ fun v s1 ⟨y,H1,I1,r1,q1⟩=>store_ok I1 hN hi hx r1 (fun s2 I2=>⟨rfl,y,H1,I2,q1⟩) hf) hs
    refine wpAny_Call_Name_kw ?_
    have named:∀ Q':Value→Shared→Prop,Q' (.ref f) s→wpAny (model X.prog X.w) X.A (eval (.Name a pa) X.env) Q' (tryE X pins s W) s:=fun Q' hq=>by
      obtain ⟨m,hn,hl⟩:=I.loc
      obtain ⟨u,r,l⟩:=hl j a (.ref f) hj e ha
      cases (show u=Value.ref f from r)
      rcases l with ⟨hk,hm⟩|⟨hk,c,hc,hcell⟩
      · exact wpAny_Name (wpAny_loadName_local I.ok.kind hk hn hm hq) hd
      · rcases hk with hk|hk
        · exact wpAny_Name (wpAny_loadName_cell I.ok.kind hk hc hcell hq) hd
        · exact wpAny_Name (wpAny_loadName_free I.ok.kind hk hc hcell hq hcd) hd
    refine named _ ?_
    obtain ⟨fo,fd,g1,g2⟩:=T.fn s I.hok
    refine callWith_of (P:=fun h=>∃ fo fd,h.get? f=some fo∧fo.data=.func fd) rfl keeps_F (evalArgs_nil3 ⟨⟨fo,fd,g1,g2⟩,?_⟩)
    refine wpAny_call (codeAny_mono (T.run X.A X.stack s hr I.env0 kp) fun r s' hq=>?_)
    cases r with
    | error ev=>
      obtain ⟨ea,cls,dd,H',rfl,os,bare,un,hok,xo,q⟩:=hq
      obtain ⟨Ce,rfl,z⟩:=he _ _ _ q
      refine ⟨ea,Ce,dd,σ,H',rfl,I.call' os un hok bare (fun b z=>absurd z (by simp)),fun b o z=>un.there b o z (by simp),xo,z⟩
    | ok fl=>
      cases fl with
      |ret u=>exact I.after hq
      |next=>exact False.elim hq
      |brk=>exact False.elim hq
      |cont=>exact False.elim hq
  refine wpAny_execs_cons (thn one fun fl s1 z=>?_)
  obtain ⟨rfl,v,H',I1,q⟩:=z
  exact wpAny_execs_nil ⟨_,_,I1,hv _ _ q⟩
end
end L2
namespace L2
open PySem PySem.Spec PyProof.Rows PySem.SeqAt PySem.W Builtin.ObjectAttr
structure XGet (K:Frag) (C:Addr) (f:Str):Prop where
  ga:findIn K (.ref C) "__getattribute__" = some (some (.builtin "BaseException.__getattribute__"))
  gh:findIn K (.ref C) "__getattr__" = some none
  hd:hasDictIn K C=true
  na:findIn K (.ref C) f=some none
  be:mroIn K C (.type "BaseException")=some true
section
variable {prog:Program} {w:World} {A:Around} {E:Value→Shared→Prop} {s:Shared} {K:Frag} {x C:Addr} {ox:Obj} {od:Option Obj} {name:Str} {expr:Bool} {Q:Value→Shared→Prop}
theorem getX {v:Value} (X:K.In s.heap) (I:InstAt s.heap x ox C od) (G:XGet K C name) (hf:findObj K C od name=some (.value v)) (hh:handedIn v=true) (h:Q v { s with toks:=s.toks+1 }):wpAny (model prog w) A (getAttr (.ref x) name expr) Q E s:=by
  obtain ⟨hp,g,d,t,os⟩:=s
  have L0:=I.type (M:=model prog w)
  have L1:=looks_findIn (M:=model prog w) X G.ga
  have L2:=looks_findIn (M:=model prog w) X G.gh
  have L3:=looks_find (M:=model prog w) X I hf
  have LB:Looks (model prog w) hp (isInstance (.ref x) (.type "BaseException")) true:=L0.andThen (looks_mroIn X G.be)
  have f3:=F.excAttr_ValueError.ga.bind (.ref x)
  have hx0:(expr && onTheHeap (Value.builtin "BaseException.__getattribute__"))=false:=by cases expr <;> rfl
  have hx2:(Value.builtin "BaseException.__getattribute__" == Value.builtin "object.__getattribute__")=false:=by decide +kernel
  have hx1:(onTheHeap (Value.ref C) && Value.builtin "BaseException.__getattribute__" == Value.builtin "object.__getattribute__")=false:=by rw [hx2];rfl
  unfold getAttr getAttrBy
  refine wpAny_bind (wpAny_mkText (wpAny_holding (wpAny_bind (L0.at (wpAny_bind (L1.at ?_))))))
  dsimp only
  rw [if_neg (by rw [hx1];decide)]
  unfold getAttrByItsOwn hookBefore
  rw [if_pos (show onTheHeap (Value.ref C)=true from rfl)]
  refine wpAny_bind (L2.at ?_)
  have key:∀ R:Result→Shared→Prop,R (.ok (.ret v)) ⟨hp,g,d,t+1,os⟩→codeAny (model prog w) A (.call (.builtin "BaseException.__getattribute__") ⟨[.ref x,.str name t],[]⟩) R ⟨hp,g,d,t+1,os⟩:=fun R hR=>by
    refine codeAny_call_builtin F.excAttr_ValueError.ga.plain F.entry_bexc_ga (check_slot (i:="BaseException.__getattribute__") (owner:="BaseException") (n:="__getattribute__") (by decide +kernel) (by decide +kernel) LB (F.args_bexc_ga _ _) ?_)
    refine wpAny_bind (wpAny_pure (wpAny_bind (wpAny_pure (wpAny_bind (L0.at (wpAny_bind (L3.at ?_)))))))
    exact wpAny_pure hR
  have done:wpAny (model prog w) A (handedOut v) Q E ⟨hp,g,d,t+1,os⟩:=by rw [handedOut_of hh];exact wpAny_pure h
  clear L0 L1 L2 L3 LB hf I G X
  repeat (any_goals (first|assumption|wp_step))
  exact key _ done
end
def tXat (K:Frag) (ea C:Addr) (dd:Option Addr) (ta:TE) (f:Str):TE:=fun σ H Q=>ta σ H fun x H1=>∃ da fs v,x=.ref ea∧dd=some da∧H1 da=some (exD da fs)∧XGet K C f∧fs.lookup f=some v∧Q v H1
section
variable {X:Cx} {e:Expr} {f:Str} {pos:Pos} {ta:TE} {ea C:Addr} {oe:Obj} {dd:Option Addr}
theorem pe_xat (hm:(ea,oe)∈X.pn) (hc:oe.cls=.ref C) (hdct:oe.dict=dd) (hd:∃ vs,oe.data=.fields vs) (he:PE X e ta) (hb:attributeBase e f X.env (eval e X.env)=eval e X.env:=by rfl):PE X (.Attribute e f pos) (tXat X.K ea C dd ta f):=by
  intro pins s σ H Q I h
  refine attr_of hb (thn (he pins s σ H _ I h) fun u s1 ⟨x,H1,I1,rx,da,fs,v,ex,ed,hH,G,l,q⟩=>?_)
  subst ex
  subst ed
  obtain rfl:u=Value.ref ea:=rx
  have p:=(I1.pin (ea,oe) (List.mem_append_left _ hm)).1
  obtain ⟨⟨mA,hn,r,wi⟩,_,_⟩:=I1.hok da _ hH
  obtain ⟨u,hu,ru⟩:=RelO.some_of (v:=v) (o:=mA f) (by rw [← l];exact r f)
  obtain ⟨od,ho,hl⟩:=lookIn_ns hn
  obtain ⟨vs,hvs⟩:=hd
  have J:PySem.W.InstAt s1.heap ea oe C (some od):=⟨p,hc,by unfold notCls;rw [hvs],by rw [hdct];exact ho⟩
  exact getX I1.kIn J G (findObj_own G.hd G.na rfl (by rw [hl,hu])) (handed_of ru) ⟨v,H1,I1.tok _,ru,q⟩
end
end L2
namespace L2
open PySem PySem.Spec PyProof.Rows
structure FnOkS (P:Program) (w:World) (K:PySem.W.Frag) (mg:Str→Option Value) (base:Heap) (CX:CXT) (k:Nat) (f:Addr) (fd:FuncData) (ps:List Str) (sp:Shared→List Env→Sp):Prop where
  len:∀ s outer vs H Q E,sp s outer vs H Q E→vs.length=ps.length
  run:∀ (A:Around) (outer:List Env) (s:Shared) (H:Hp) (args:Args) (us:List Value) (vs:List V) (Q:VK) (E:XK),Room k A→Env0 P w K mg base A outer s H→BindsTo s fd args (ps.zip us)→Vals vs us→sp s outer vs H Q E→
    codeAny (model P w) A (.call (.ref f) args) (CR CX outer P w H s Q E) s
theorem fnS_of {CX:CXT} {P:Program} {w:World} {K:PySem.W.Frag} {mg:Str→Option Value} {base:Heap} {k:Nat} {f:Addr} {name qual:Str} {params:Arguments} {body:List Stmt} {scope:Scope} {dV kV doc pm cdv ct oc:Value} {an od:Option Addr}
    {osl:Array (Option Value)} {N ps:List Str} {sp:Shared→List Env→Sp} (lk:K.lookup f=some ⟨oc,od,.func (PySem.W.fnOf name qual params body scope dV kV doc pm an cdv ct),osl⟩) (hcd:PySem.W.codeIn K cdv qual=true) (S:FnScope N ps scope)
    (len:∀ s outer vs H Q E,sp s outer vs H Q E→vs.length=ps.length)
    (hbody:∀ (A:Around) (outer:List Env) (s:Shared) (H:Hp) (vs:List V) (Q:VK) (E:XK),Room k (A.deeper (envOfC qual scope s.heap.objs.size f cdv))→sp s outer vs H Q E→
      ∃ t,PSs (cxOf CX P w K mg base N qual scope f cdv A outer s H E) body t∧t { nx:=fun _ H'=>Q .non H',rt:=Q } (start N vs) H) :
    FnOkS P w K mg base CX (k+1) f (PySem.W.fnOf name qual params body scope dV kV doc pm an cdv ct) ps sp:=by
  refine ⟨len,fun A outer s H args us vs Q E hr e0 hb r hsp=>?_⟩
  have hl:=len _ _ _ _ _ _ hsp
  have KX:K.In s.heap:=e0.mod.kin.keeps fun b o e=>(e0.bs b o e).1
  have lim:s.heap.NoLimit:=e0.mod.nolimit.keeps fun b o e=>(e0.bs b o e).1
  have hkind:∀ y∈ps.zip us,scope.names.lookup y.1=some .local∨(scope.names.lookup y.1=some .cell∧((cellsFrom (s.heap.objs.size+1) scope.names []).lookup y.1).isSome=true):=fun ⟨n,v⟩ hy=>by
    rcases S.par n (List.of_mem_zip hy).1 with q|q
    · exact .inl q
    · exact .inr ⟨q,PySem.W.cellsFrom_some _ _ _ (.inl q)⟩
  refine codeAny_call_function hr.depth (KX _ _ lk) rfl S.co S.gen rfl (PySem.W.codeRec_of KX hcd) (hb _ _ _ _ ?_)
  refine wpAny_newFunctionEnv_cells S.kind hkind fun env he s1 x=>?_
  subst he
  refine ⟨lim.keeps x.toInCall.keep,codeAny_func ?_⟩
  obtain ⟨t,ht,hq⟩:=hbody A outer s H vs Q E (hr.deeper _) hsp
  have I:Inv (cxOf CX P w K mg base N qual scope f cdv A outer s H E) [] (start N vs) H s1:=inv_start S hr.hd e0 hl r x
  refine wpAny_mono (ht [] s1 (start N vs) H _ I hq) (fun fl s' hs=>?_) fun e s' hs=>hs
  have fin:∀ {σ':St} {H':Hp} {v:V} {u:Value},Inv (cxOf CX P w K mg base N qual scope f cdv A outer s H E) [] σ' H' s'→RelV v u→Q v H'→CE outer P w H s Q u s':=
    fun {σ' H' v u} J rv q=>⟨v,H',J.os,J.bare,J.base,J.hok,rv,q⟩
  cases fl with
  | ret u=>
    obtain ⟨v,σ',H',J,rv,q⟩:=hs
    exact fin J rv q
  | next=>
    obtain ⟨σ',H',J,q⟩:=hs
    exact fin (v:=V.non) (u:=Value.none) J rfl q
  | brk=>
    obtain ⟨_,_,_,q⟩:=hs
    exact False.elim q
  | cont=>
    obtain ⟨_,_,_,q⟩:=hs
    exact False.elim q
end L2
namespace L2
open PySem PySem.Spec PyProof.Rows
section
variable {P:Program} {w:World} {K:PySem.W.Frag} {mg:Str→Option Value} {base:Heap}
theorem Fun.okS {CX:CXT} {x qual:Str} {st:Stmt} {f:Addr} {fd:FuncData} {N ps:List Str} {k:Nat} {sp:Shared→List Env→Sp} (F:Fun K x qual st f fd) (S:FnScope N ps (defScope st)) (len:∀ s outer vs H Q E,sp s outer vs H Q E→vs.length=ps.length)
    (hbody:∀ (cdv:Value) (A:Around) (outer:List Env) (s:Shared) (H:Hp) (vs:List V) (Q:VK) (E:XK),Room k (A.deeper (envOfC qual (defScope st) s.heap.objs.size f cdv))→sp s outer vs H Q E→
      ∃ t,PSs (cxOf CX P w K mg base N qual (defScope st) f cdv A outer s H E) (defBody st) t∧t { nx:=fun _ H'=>Q .non H',rt:=Q } (start N vs) H):FnOkS P w K mg base CX (k+1) f fd ps sp:=by
  obtain ⟨oc,od,kV,doc,pm,an,cdv,ct,osl,rfl,lk,hcd⟩:=F.ex
  exact fnS_of lk hcd S len fun A outer s H vs Q E hr hsp=>hbody cdv A outer s H vs Q E hr hsp
theorem Fun.ok1 {CX:CXT} {x qual:Str} {st:Stmt} {f:Addr} {fd:FuncData} {N ps:List Str} {k:Nat} {sp:Sp} (F:Fun K x qual st f fd) (S:FnScope N ps (defScope st)) (len:∀ vs H Q E,sp vs H Q E→vs.length=ps.length)
    (hbody:∀ (cdv:Value) (A:Around) (outer:List Env) (s:Shared) (H:Hp) (vs:List V) (Q:VK) (E:XK),Room k (A.deeper (envOfC qual (defScope st) s.heap.objs.size f cdv))→sp vs H Q E→
      ∃ t,PSs (cxOf CX P w K mg base N qual (defScope st) f cdv A outer s H E) (defBody st) t∧t { nx:=fun _ H'=>Q .non H',rt:=Q } (start N vs) H):FnOk P w K mg base CX (k+1) f fd ps sp:=by
  obtain ⟨oc,od,kV,doc,pm,an,cdv,ct,osl,rfl,lk,hcd⟩:=F.ex
  exact fn_of lk hcd S len fun A outer s H vs Q E hr hsp=>hbody cdv A outer s H vs Q E hr hsp
end
section
variable {X:Cx} {e:Expr} {f:Str} {pos:Pos} {ta:TE} {ea C:Addr} {oe:Obj} {ps:List (Addr×Obj)} {dd:Option Addr}
theorem pe_xatH (hm:(ea,oe)∈ps) (hc:oe.cls=.ref C) (hdct:oe.dict=dd) (hd:∃ vs,oe.data=.fields vs) (he:PE (hCx X ea ps) e ta) (hb:attributeBase e f X.env (eval e X.env)=eval e X.env:=by rfl):PE (hCx X ea ps) (.Attribute e f pos) (tXat X.K ea C dd ta f):=
  pe_xat (X:=hCx X ea ps) (List.mem_append_right _ hm) hc hdct hd he hb
end
end L2
namespace L2
open PySem PySem.Spec PyProof.Rows PySem.W
def codeO (c:Addr) (qual:Str):HO:=.ext fun h=>h.CodeRec (.ref c) qual
theorem codeO_ok {P:Program} {w:World} {H:Hp} {h:Heap} {c:Addr} {qual:Str} (x:h.CodeRec (.ref c) qual):ObjOk P w H h c (codeO c qual):=by
  obtain ⟨c',o,vs,t,e,g,r⟩:=id x
  cases e
  refine ⟨x,⟨o,g⟩,fun h1 h2 z k=>?_⟩
  obtain ⟨c',o',vs',t',e',g',r'⟩:=z
  cases e'
  exact ⟨c,o',vs',t',rfl,k _ g',r'⟩
def lamO (f:Addr) (o:Obj):HO:=.ext fun h=>h.get? f=some o
theorem lamO_ok {P:Program} {w:World} {H:Hp} {h:Heap} {f:Addr} {o:Obj} (x:h.get? f=some o):ObjOk P w H h f (lamO f o):=⟨x,⟨o,x⟩,fun h1 h2 z k=>k _ z⟩
def cxLam (P:Program) (w:World) (K:Frag) (mg:Str→Option Value) (base:Heap) (N:List Str) (qual:Str) (scope:Scope) (f:Addr) (cd:Value) (cl:List (Str×Addr)) (A:Around) (outer:List Env) (s:Shared) (H:Hp) (E:XK):Cx where
  prog:=P
  w:=w
  K:=K
  mg:=mg
  base:=base
  A:=A.deeper (envX qual scope s.heap.objs.size f cd cl)
  N:=N
  s₀:=s
  H₀:=H
  env:=envX qual scope s.heap.objs.size f cd cl
  outer:=outer
  stack:=envX qual scope s.heap.objs.size f cd cl::outer
  ex:=[]
  calm:=true
  fn:=fun _=>false
  pn:=[]
  xe:=fun e s'=>wpAny (model P w) (A.deeper (envX qual scope s.heap.objs.size f cd cl)) (leaving (envX qual scope s.heap.objs.size f cd cl) e) (fun _ s''=>CX1 P w outer H s E e s'') (fun e' s''=>CX1 P w outer H s E e' s'') s'
section
variable {P:Program} {w:World} {K:Frag} {mg:Str→Option Value} {base:Heap} {N:List Str} {qual:Str} {scope:Scope} {f:Addr} {cd:Value} {cl:List (Str×Addr)} {A:Around} {outer:List Env} {s:Shared} {H:Hp} {E:XK}
theorem xeL {pins:List (Addr×Obj)} {σ:St} {H':Hp} {s':Shared} {e:Addr} {cls:Value} {dd:Option Addr} (I:Inv (cxLam P w K mg base N qual scope f cd cl A outer s H E) pins σ H' s') (x:ExcOk s'.heap H' s.heap e cls dd) (h:E cls dd H') :
    (cxLam P w K mg base N qual scope f cd cl A outer s H E).xe (.ref e) s':=
  leaveX I rfl rfl I.ok.frames rfl x fun h' x' u k=>⟨e,cls,dd,H',rfl,I.os,I.bare,u,k,x',h⟩
theorem passL {E':XK} (hE:∀ cls dd H',E' cls dd H'→E cls dd H'):Passes (CX1 P w) (cxLam P w K mg base N qual scope f cd cl A outer s H E) E':=by
  intro pins σ H1 s1 e s' I h
  obtain ⟨ea,cls,dd,H',rfl,os,bare,un,hok,x,q⟩:=h
  have I':Inv (cxLam P w K mg base N qual scope f cd cl A outer s H E) pins σ H' s':=I.call' (ch:=[]) os un hok bare (fun b z=>absurd z (by simp))
  refine xeL I' (x.mono fun b hb=>?_) (hE _ _ _ q)
  cases z:s.heap.get? b with
  |none=>rfl
  | some o=>
    obtain ⟨o',q'⟩:=I.base.there b o z (by intro hz;cases hz)
    rw [hb] at q';cases q'
structure Clos (scope:Scope) (cl:List (Str×Addr)) (N:List Str) (g:Heap) (H:Hp) (fr:List Addr) (σ:St):Prop where
  inj:∀ x y c,cl.lookup x=some c→cl.lookup y=some c→x=y
  has:∀ x,(scope.names.lookup x=some .cell∨scope.names.lookup x=some .free)→∃ c,cl.lookup x=some c
  cell:∀ x c,cl.lookup x=some c→(∃ v,g.IsCell c v)∧H c=none∧c∉fr
  val:∀ (i:Nat) x v,N[i]?=some x→σ[i]?=some (some v)→scope.names.lookup x=some .free∧∃ c u,cl.lookup x=some c∧RelV v u∧g.IsCell c (some u)
  len:σ.length=N.length
theorem thunk_lam {g:Heap} {fr:List Addr} {σ:St} {k:Nat} {name:Str} {params:Arguments} {body:Expr} {pm ctv:Value} {c':Addr} {Qv:VK} {t:TE} (ho:H f=some (lamO f (kla_obj name qual params body scope cl pm c' ctv)))
    (hc:H c'=some (codeO c' qual)) (C:Clos scope cl N g H fr σ) (hbind:bindArgs (kla_fn name qual params body scope cl pm (.ref c') ctv) ⟨[],[]⟩=pure [])
    (hco:scope.isCoroutine=false) (hgen:scope.isGenerator=false) (hk:scope.kind=.function) (hcell:∀ x∈scope.names,x.2≠.cell)
    (hb:∀ (A:Around) (outer:List Env) (s:Shared),Room k (A.deeper (envX qual scope s.heap.objs.size f (.ref c') cl))→PE (cxLam P w K mg base N qual scope f (.ref c') cl A outer s H E) body t) (hq:t σ H Qv):Thunk P w K mg base g H fr (k+1) f H Qv E:=by
  refine ⟨fun s hok=>⟨_,_,(hok f _ ho).1,rfl⟩,fun A outer s hr e0 kp=>?_⟩
  have lim:s.heap.NoLimit:=e0.mod.nolimit.keeps fun b o e=>(e0.bs b o e).1
  refine kla_callFunE hr.depth (e0.hok f _ ho).1 rfl hco hgen rfl (e0.hok c' _ hc).1 ?_
  rw [hbind]
  refine wpAny_pure (wpAny_newFunctionEnv hcell (fun y hy=>absurd hy (by simp)) (fun h₁ hns hsb=>⟨lim.fresh _ hsb,?_⟩) hk)
  show codeAny _ _ (.expr body (envX qual scope s.heap.objs.size f (.ref c') cl)) _ _
  have hk₁:∀ b o,s.heap.get? b=some o→h₁.get? b=some o:=fun b o e=>hsb.extBut b o (Nat.ne_of_lt (Heap.lt_size e)) (Heap.get?_push_of_some _ e)
  have isC:∀ x c v,cl.lookup x=some c→g.IsCell c v→h₁.IsCell c v:=fun x c v e z=>by
    obtain ⟨_,h2,h3⟩:=C.cell x c e
    obtain ⟨o,ho,hd⟩:=z
    exact ⟨o,hk₁ _ _ (kp _ _ ho h2 h3),hd⟩
  have noA:∀ b:Addr,b∉([]:List Addr):=fun b z=>absurd z (by simp)
  have I:Inv (cxLam P w K mg base N qual scope f (.ref c') cl A outer s H E) [] σ H { s with heap:=h₁,toks:=s.toks+0 }:=by
    refine ⟨⟨e0.mod,hk,rfl,rfl,Nat.le_refl _,C.inj,fun y hy=>C.has y hy,fun y c z=>absurd z (by simp [cxLam]),fun _=>hr.hd,Around.frames_deeper e0.frames,.inr ⟨rfl,rfl⟩,fun b z=>absurd z (noA b),e0.bs,e0.bsz,fun b _ _=>noA b,fun b z=>absurd z (noA b),e0.funs,e0.frf⟩,
      rfl,e0.bare,Un.kept hk₁,⟨_,hns,fun i y v h1 h2 h3=>?_⟩,fun y c h=>?_,e0.hok.fresh (Nat.le_refl _),fun y c h=>(C.cell y c h).2.1,fun p hp=>absurd (show p∈([]:List (Addr×Obj)) from hp) (by simp),e0.hok.kept hk₁,C.len⟩
    · obtain ⟨fr',c,u,e,r,z⟩:=C.val i y v h1 h2
      exact ⟨u,r,.inr ⟨.inr fr',c,e,isC y c _ e z⟩⟩
    · obtain ⟨⟨v,z⟩,_⟩:=C.cell y c h
      exact ⟨v,isC y c v h z⟩
  exact kla_codeExpr (wpAny_mono (hb A outer s (hr.deeper _) [] _ σ H Qv I hq) (fun u s' ⟨v,H',J,rv,q⟩=>⟨v,H',J.os,J.bare,J.base,J.hok,rv,q⟩) fun _ _ y=>y)
end
end L2
namespace L2
open PySem PySem.Spec PyProof.Rows PySem.W
section
variable {X:Cx} {pins:List (Addr×Obj)} {σ:St} {H:Hp} {s:Shared} {h':Heap} {P c':Addr} {ps more:Array Value} {qual:Str}
theorem Inv.grow {t':Nat} (I:Inv X pins σ H s) (hP:H P=some (.tbl ps)) (hx:Heap.ExtBut P s.heap h') (hc:s.heap.objs.size≤c') (hcr:h'.CodeRec (.ref c') qual) (hp:h'.get? P=some { cls:=.none,data:=.fields (ps++more) }) :
    Inv X pins σ (upd (upd H P (.tbl (ps++more))) c' (codeO c' qual)) { s with heap:=h',toks:=t' }:=by
  have hPl:P<s.heap.objs.size:=I.hok.lt hP
  have hcP:c'≠P:=fun q=>by subst q;exact absurd (Nat.lt_of_lt_of_le hPl hc) (Nat.lt_irrefl _)
  have lt:∀ b o,s.heap.get? b=some o→b≠c':=fun b o e q=>by subst q;exact absurd (Nat.lt_of_lt_of_le (Heap.lt_size e) hc) (Nat.lt_irrefl _)
  have neP:∀ b,H b=none→b≠P:=fun b e q=>by subst q;rw [hP] at e;cases e
  have kp:∀ b o,s.heap.get? b=some o→H b=none→h'.get? b=some o:=fun b o e n=>hx b o (neP b n) e
  have up:∀ b u,H b=some u→(∀ qs,u≠.tbl qs)→upd (upd H P (.tbl (ps++more))) c' (codeO c' qual) b=some u:=fun b u e ne=>by
    have h1:b≠c':=fun q=>by subst q;exact absurd (Nat.lt_of_lt_of_le (I.hok.lt e) hc) (Nat.lt_irrefl _)
    have h2:b≠P:=fun q=>by subst q;rw [hP] at e;exact ne _ (Option.some.inj e).symm
    rw [upd_ne h1,upd_ne h2];exact e
  refine I.stepN (ch:=[]) (g':=s.gens) (d':=s.drawn) (t':=t') (fun b hb=>absurd hb (by simp)) (fun b o _ _ _ e n=>kp b o e n) (fun b o _ _ _ e n=>⟨o.slots,kp b o e n⟩) (fun b o _ e n=>?_) (fun b o _ e=>?_) (fun b xs e=>up b _ e (by intro _ q;cases q)) (fun b o u e=>up b _ e (by intro _ q;cases q)) (fun b qs e=>?_) (fun m hm=>?_) (fun b u e=>?_) I.bare
  · rw [upd_ne (lt b o e),upd_ne (neP b n)];exact n
  · by_cases q:b=P
    · subst q;exact ⟨_,hp⟩
    · exact ⟨o,hx b o q e⟩
  · have h1:b≠c':=fun q=>by subst q;exact absurd (Nat.lt_of_lt_of_le (I.hok.lt e) hc) (Nat.lt_irrefl _)
    by_cases q:b=P
    · subst q
      rw [hP] at e
      cases e
      exact ⟨more,by rw [upd_ne h1,upd_same]⟩
    · exact ⟨#[],by rw [upd_ne h1,upd_ne q,e];simp⟩
  · obtain ⟨o,es,ep,e,r⟩:=hm
    exact ⟨o,es,ep,kp _ _ e I.free,r⟩
  · by_cases h1:b=c'
    · subst h1
      rw [upd_same] at e
      cases e
      exact codeO_ok hcr
    · rw [upd_ne h1] at e
      by_cases h2:b=P
      · subst h2
        rw [upd_same] at e
        cases e
        exact hp
      · rw [upd_ne h2] at e
        refine (I.hok b u e).stay (fun c v hc' q=>hx c v ?_ q) (fun c q=>up c _ q (by intro _ z;cases z)) fun c xs q=>up c _ q (by intro _ z;cases z)
        rintro rfl
        rcases hc' with rfl|z
        · exact h2 rfl
        · rw [hP] at z;cases z
structure CodeTab (X:Cx) (c P:Addr):Prop where
  code:X.env.code=.ref c
  hd:CodeHd X.base c P
  bl:X.base.BuiltinsAt X.mg P
  gP:mainGlobals≠P
def Lam (H:Hp) (P:Addr) (lp:Pos) (qual:Str) (c':Addr) (H1:Hp):Prop:=
  ∃ ps,H P=some (.tbl ps)∧((codeAmong lp ps.toList=none∧H c'=none∧c'≠P∧H1=upd (upd H P (.tbl (ps++#[rawInt lp.line,rawInt lp.col,.ref c']))) c' (codeO c' qual))∨(codeAmong lp ps.toList=some (.ref c')∧H c'=some (codeO c' qual)∧H1=H))
def TabOk (H:Hp) (P:Addr) (lp:Pos) (qual:Str):Prop:=∃ ps,H P=some (.tbl ps)∧TriplesOk ps.toList∧(codeAmong lp ps.toList=none∨∃ c',codeAmong lp ps.toList=some (.ref c')∧H c'=some (codeO c' qual))
def tLam (X:Cx) (P:Addr) (params:Arguments) (body:Expr) (scope:Scope) (lp:Pos) (cl:List (Str×Addr)):TE:=fun _ H Q=>TabOk H P lp (X.env.qual++"<lambda>")∧∀ c' H1,Lam H P lp (X.env.qual++"<lambda>") c' H1→∀ f ctv,H1 f=none→Q (.ref f) (upd H1 f (lamO f (kla_obj "<lambda>" (X.env.qual++"<lambda>") params body scope cl ((X.mg "__name__").getD .none) c' ctv)))
theorem pe_lam {c:Addr} {params:Arguments} {body:Expr} {scope:Scope} {lp:Pos} {cl:List (Str×Addr)} (T:CodeTab X c P) (hdef:defaultsOf params X.env=([],[])) (hcl:closureFor scope X.env=pure cl):PE X (.Lambda params body scope lp) (tLam X P params body scope lp cl):=by
  intro pins s σ H Q I h
  obtain ⟨⟨ps,hP,ht,hor⟩,h⟩:=h
  refine kla_eval hdef ?_
  have hPo:s.heap.get? P=some (tabObj ps):=I.hok P _ hP
  have hg:s.heap.Ns mainGlobals X.mg:=by
    obtain ⟨o,es,ep,e,r⟩:=I.ok.mod.glob
    exact ⟨o,es,ep,I.bk _ _ e,r⟩
  have hb:s.heap.BuiltinsAt X.mg P:=by
    obtain ⟨bm,o,b1,b2,b3,b4,b5,b6⟩:=T.bl
    exact ⟨bm,o,b1,b2,b3,b4,I.bk _ _ b5,b6⟩
  rcases hor with hn|⟨c',hf,hc'⟩
  · refine kla_makeFunction (mg:=X.mg) hcl I.ok.glob hg T.code (T.hd.keeps I.bk) hPo ht hn T.gP hb fun c' ctv h' tk hx hge hlt hrec htb=>?_
    have I1:=I.grow (t':=tk) hP hx hge hrec htb
    have hPl:P<s.heap.objs.size:=I.hok.lt hP
    have fr:upd (upd H P (.tbl (ps++#[rawInt lp.line,rawInt lp.col,.ref c']))) c' (codeO c' (X.env.qual++"<lambda>")) h'.objs.size=none:=I1.hok.fresh (Nat.le_refl _)
    refine ⟨.ref h'.objs.size,_,I1.laid (a:=h'.objs.size) (t':=tk) (fun b u e=>Heap.get?_push_of_some _ e) (Nat.le_refl _) (lamO_ok (Heap.get?_push_size _ rfl)),rfl,h c' _ ⟨ps,hP,.inl ⟨hn,I.hok.fresh hge,fun q=>?_,rfl⟩⟩ _ ctv fr⟩
    subst q
    exact absurd (Nat.lt_of_lt_of_le hPl hge) (Nat.lt_irrefl _)
  · refine kla_makeFunctionHit (mg:=X.mg) hcl I.ok.glob hg T.code (T.hd.keeps I.bk) hPo ht hf hb fun ctv h' tk hk hsz=>?_
    have fr:H h'.objs.size=none:=I.hok.fresh hsz
    exact ⟨.ref h'.objs.size,_,I.laid (a:=h'.objs.size) (h':=h'.push _) (t':=tk) (fun b u e=>Heap.get?_push_of_some _ (hk b u e)) hsz (lamO_ok (Heap.get?_push_size _ rfl)),rfl,h c' _ ⟨ps,hP,.inr ⟨hf,hc',rfl⟩⟩ _ ctv fr⟩
end
end L2
namespace L2
open PySem PySem.Spec PyProof.Rows PySem.W
section
variable {X:Cx} {CX:CXT} {k:Nat} {f C:Addr} {fd:FuncData} {ps:List Str} {sp:Shared→List Env→Sp} {E:XK} {x:Str} {p pos:Pos} {e:Expr} {es:List Expr} {t:TA}
theorem run_fnS {pins:List (Addr×Obj)} {σ:St} {H:Hp} {s:Shared} {Q:VK} {us:List Value} {vs:List V} (F:FnOkS X.prog X.w X.K X.mg X.base CX k f fd ps sp) (hr:Room k X.A) (hb:Binds X.K fd ps []) (hx:Passes CX X E)
    (I:Inv X pins σ H s) (r:Vals vs us) (h:sp s X.stack vs H Q E):wpAny (model X.prog X.w) X.A (call (.ref f) us) (EP X pins σ Q) X.xe s:=by
  have hl:us.length=ps.length:=by rw [← r.length];exact F.len _ _ _ _ _ _ h
  have hb':=hb s us I.kIn (by rw [List.append_nil];exact hl)
  rw [List.append_nil] at hb'
  refine wpAny_call (codeAny_mono (F.run X.A X.stack s H ⟨us,[]⟩ us vs Q E hr I.env0 hb' r h) fun r s' hq=>?_)
  cases r with
  |error e=>exact hx pins σ H s e s' I hq
  | ok fl=>
    cases fl with
    |ret u=>exact I.after hq
    |next=>exact False.elim hq
    |brk=>exact False.elim hq
    |cont=>exact False.elim hq
theorem pe_callS {r:St→List V→Hp→VK→Prop} (F:FnOkS X.prog X.w X.K X.mg X.base CX k f fd ps sp) (hr:Room k X.A) (hg:Gl X x) (hm:X.mg x=some (.ref f)) (hk:PySem.W.keepIn X.K (.ref f)=true) (hb:Binds X.K fd ps []) (hx:Passes CX X E)
    (hsp:∀ pins σ H s vs Q,Inv X pins σ H s→r σ vs H Q→sp s X.stack vs H Q E) (ha:PA X (e::es) t) (hdb:(x == ("__debug__" : Str))=false:=by decide) (he:starEach (e::es) X.env=(false,eval e X.env)::starEach es X.env:=by rfl) (hpl:(backTo pos (starEach es X.env)).any (·.1)=false:=by rfl) :
    PE X (.Call (.Name x p) (e::es) [] pos) (fun σ H Q=>t σ H fun vs H1=>r σ vs H1 Q):=by
  intro pins s σ H Q I h
  refine wpAny_Call_Name_kw (ld_glob I hg hm ?_ hdb)
  refine PySem.W.callWith_K (h₀:=X.base) I.ok.mod.kin hk (thn (ha pos pins s σ H _ I h) fun us s1 ⟨vs,H1,I1,r,q⟩=>⟨I1.kIn,?_⟩) he hpl
  exact run_fnS F hr hb hx I1 r (hsp _ _ _ _ _ _ I1 q)
theorem lookup_of_mem_keys {cl:List (Str×Addr)} {x:Str} (h:x∈cl.map (·.1)):∃ c,cl.lookup x=some c:=by
  induction cl with
  |nil=>simp at h
  | cons q r ih=>
    obtain ⟨y,c⟩:=q
    rw [List.lookup_cons]
    by_cases e:(x == y)=true
    · exact ⟨c,by rw [e]⟩
    · have e':(x == y)=false:=by simpa using e
      rw [e']
      refine ih ?_
      rcases List.mem_cons.mp h with z|z
      · exact absurd (beq_iff_eq.mpr z) e
      · exact z
def freeV (js:List Nat) (σ:St):St:=js.map fun j=>(σ[j]?).join
theorem clos_of {pins:List (Addr×Obj)} {σ:St} {H:Hp} {s:Shared} {scope:Scope} {cl:List (Str×Addr)} {NL:List Str} {js:List Nat} (I:Inv X pins σ H s) (hcl:∀ p∈cl,X.env.cells.lookup p.1=some p.2) (hfn:∀ x,X.fn x=true)
    (hhas:∀ p∈scope.names,(p.2=.cell∨p.2=.free)→p.1∈cl.map (·.1)) (hfree:∀ x∈NL,scope.names.lookup x=some .free) (hown:∀ x∈NL,X.env.scope.names.lookup x=some .cell) (hN:NL.map some=js.map fun j=>X.N[j]?) (hst:X.stack=X.env::X.outer) (hfm:X.env.frame=some X.env.locals) :
    Clos scope cl NL s.heap H (frs X.stack) (freeV js σ):=by
  have sub:∀ x c,cl.lookup x=some c→X.env.cells.lookup x=some c:=fun x c e=>hcl (x,c) (PySem.mem_of_lookup e)
  have hlen:js.length=NL.length:=by simpa using (congrArg List.length hN).symm
  refine ⟨fun x y c h1 h2=>I.ok.inj x y c (sub x c h1) (sub y c h2),fun x hx=>?_,fun x c e=>⟨I.cell x c (sub x c e),I.freeC x c (sub x c e),fun hm=>?_⟩,fun i x v h1 h2=>?_,by unfold freeV;rw [List.length_map];exact hlen⟩
  · refine lookup_of_mem_keys ?_
    rcases hx with hx|hx
    · exact hhas _ (PySem.mem_of_lookup hx) (.inl rfl)
    · exact hhas _ (PySem.mem_of_lookup hx) (.inr rfl)
  · rcases List.mem_cons.mp (I.stkSub c hm) with q|q
    · exact I.cne x c (sub x c e) q
    · obtain ⟨_,o,ho,_⟩:=I.ok.funs.mem q
      exact absurd (Nat.lt_of_lt_of_le (Heap.lt_size ho) (I.ok.cab x c (hfn x) (sub x c e))) (Nat.lt_irrefl _)
  · have hx:x∈NL:=List.mem_of_getElem? h1
    have e1:(js.map fun j=>X.N[j]?)[i]?=some (some x):=by rw [← hN,List.getElem?_map,h1];rfl
    rw [List.getElem?_map] at e1
    obtain ⟨j,hj,e1⟩:=Option.map_eq_some_iff.mp e1
    unfold freeV at h2
    rw [List.getElem?_map,hj] at h2
    have h3:σ[j]?=some (some v):=by
      have h2:(σ[j]?).join=some v:=Option.some.inj h2
      cases e:σ[j]? with
      |none=>rw [e] at h2;cases h2
      | some a=>rw [e] at h2;cases a with
        |none=>cases h2
        |some b=>exact congrArg some h2
    obtain ⟨m,hn,hl⟩:=I.loc
    obtain ⟨u,r,lk⟩:=hl j x v e1 h3 (.inr (.inl (hown x hx)))
    refine ⟨hfree x hx,?_⟩
    rcases lk with ⟨kk,_⟩|⟨_,c,hc,z⟩
    · have kk:X.env.scope.names.lookup x=some .local:=kk
      rw [hown x hx] at kk;cases kk
    · obtain ⟨c2,e2⟩:=lookup_of_mem_keys (hhas _ (PySem.mem_of_lookup (hfree x hx)) (.inr rfl))
      have:=sub x c2 e2
      rw [hc] at this
      cases this
      exact ⟨c,u,e2,r,z⟩
end
end L2
namespace L2
open PySem PySem.Spec PyProof.Rows
end L2
namespace L2
open PySem PySem.Spec PyProof.Rows PySem.W
def tabIn (K:Frag) (c:Addr):Option Addr:=match K.lookup c with
  | some o=>(match o.data with
    | .fields vs=>(match (vs[11]?:Option Value),vs.getD 18 .none,vs.getD 7 .none,vs.getD 9 .none,vs.getD 10 .none with
      |some (Value.ref P),.str _ _,.int _ _,.bool _,.int _ _=>if (o.cls == .type "code" && c != P)=true then some P else none
      |_,_,_,_,_=>none)
    |_=>none)
  |none=>none
theorem hd_of {K:Frag} {h:Heap} {c P:Addr} (X:K.In h) (e:tabIn K c=some P):CodeHd h c P:=by
  unfold tabIn at e
  split at e
  · rename_i o ho
    split at e
    · rename_i vs hd
      split at e
      · rename_i P' x18 t18 x7 t7 x9 x10 t10 h11 h18 h7 h9 h10
        split at e
        · rename_i hc
          cases e
          simp only [Bool.and_eq_true,beq_iff_eq,bne_iff_ne] at hc
          refine ⟨o,vs,x18,t18,x7,t7,x9,x10,t10,X _ _ ho,hc.1,hd,h11,?_,h18,h7,h9,h10,hc.2⟩
          rw [Array.getD_eq_getD_getElem?,h11]
          rfl
        · cases e
      · cases e
    · cases e
  · cases e
end L2
namespace L2
open PySem PySem.Spec PyProof.Rows PySem.SeqAt
section
variable {X:Cx}
end
end L2
namespace L2
open PySem PySem.Spec PyProof.Rows PySem.SeqAt
section
variable {X:Cx} {tg:Expr}
end
end L2
namespace L2
open PySem PySem.Spec PyProof.Rows PySem.SeqAt
section
variable {X:Cx}
end
end L2
namespace L2
open PySem PySem.Spec PyProof.Rows PySem.SeqAt
section
variable {prog:Program} {w:World} {A:Around} {E:Value→Shared→Prop} {s:Shared} {l:Addr} {x y:Value}
end
section
variable {X:Cx} {pos:Pos}
end
end L2
namespace L2
open PySem PySem.Spec PyProof.Rows PySem.SeqAt
section
variable {X:Cx} {CX:CXT} {k:Nat} {f C:Addr} {fd:FuncData} {ps ks:List Str} {sp:Sp} {E:XK} {x m:Str} {p pos apos kpos:Pos} {e o:Expr} {es:List Expr} {kws:List Keyword} {te ta:TE} {t tk:TA}
variable {g:List Value→List Value→List Value} {gV:List V→List V→List V}
end
end L2
namespace L2
open PySem PySem.Spec PyProof.Rows PySem.W
theorem codeAmong_snoc2 {pos p:Pos} {c:Value} (l:List Value) (h:TriplesOk l):codeAmong pos (l++[rawInt p.line,rawInt p.col,c])=(codeAmong pos l).or (if (p.line:Int) == pos.line && (p.col:Int) == pos.col then some c else none):=by
  fun_induction TriplesOk l with
  |case1=>simp [codeAmong,rawInt]
  | case2 a t b u c' rest ih=>
    show codeAmong pos (.int a t::.int b u::c'::(rest++_))=_
    rw [codeAmong,codeAmong]
    split
    · rfl
    · exact ih h
  |case3=>exact h.elim
theorem triples_snoc {p:Pos} {c:Value} (l:List Value) (h:TriplesOk l):TriplesOk (l++[rawInt p.line,rawInt p.col,c]):=by
  fun_induction TriplesOk l with
  |case1=>simp [TriplesOk,rawInt]
  |case2 a t b u c' rest ih=>exact ih h
  |case3=>exact h.elim
def TabI (H:Hp) (T:Addr) (qual:Str) (lps:List Pos):Prop:=
  ∃ ps,H T=some (.tbl ps)∧TriplesOk ps.toList∧∀ lp∈lps,codeAmong lp ps.toList=none∨∃ c',codeAmong lp ps.toList=some (.ref c')∧H c'=some (codeO c' qual)
theorem TabI.tab {H:Hp} {T:Addr} {qual:Str} {lps:List Pos} {lp:Pos} (h:TabI H T qual lps) (m:lp∈lps):TabOk H T lp qual:=by
  obtain ⟨ps,h1,h2,h3⟩:=h
  exact ⟨ps,h1,h2,h3 lp m⟩
theorem TabI.keep {H H':Hp} {T:Addr} {qual:Str} {lps:List Pos} (h:TabI H T qual lps) (k:∀ b u,H b=some u→(∀ kvs,u≠.dK kvs)→H' b=some u):TabI H' T qual lps:=by
  obtain ⟨ps,h1,h2,h3⟩:=h
  refine ⟨ps,k _ _ h1 (by intro _ z;cases z),h2,fun lp m=>?_⟩
  rcases h3 lp m with z|⟨c',z,e⟩
  · exact .inl z
  · exact .inr ⟨c',z,k _ _ e (by intro _ z;cases z)⟩
theorem TabI.same {H H':Hp} {T:Addr} {qual:Str} {lps:List Pos} (h:TabI H T qual lps) (s:Same H H'):TabI H' T qual lps:=h.keep fun b u e _=>s b u e
theorem Lam.code {H H1:Hp} {T c':Addr} {lp:Pos} {qual:Str} (h:Lam H T lp qual c' H1):H1 c'=some (codeO c' qual):=by
  obtain ⟨ps,h1,⟨_,_,_,rfl⟩|⟨_,h2,rfl⟩⟩:=h
  · exact upd_same
  · exact h2
theorem Lam.keep {H H1:Hp} {T c':Addr} {lp:Pos} {qual:Str} (h:Lam H T lp qual c' H1) {b:Addr} {u:HO} (e:H b=some u) (ne:∀ ps,u≠.tbl ps):H1 b=some u:=by
  obtain ⟨ps,h1,⟨_,h2,_,rfl⟩|⟨_,h2,rfl⟩⟩:=h
  · rw [upd_ne (ne_of_none e h2),upd_ne (ne_of e h1 (ne _))];exact e
  · exact e
theorem TabI.lam {H H1:Hp} {T c':Addr} {lp:Pos} {qual:Str} {lps:List Pos} (h:TabI H T qual lps) (l:Lam H T lp qual c' H1):TabI H1 T qual lps:=by
  obtain ⟨ps,h1,h2,h3⟩:=h
  obtain ⟨ps',e1,l⟩:=l
  rw [h1] at e1
  cases e1
  rcases l with ⟨hn,hc,ne,rfl⟩|⟨_,_,rfl⟩
  · refine ⟨ps++#[rawInt lp.line,rawInt lp.col,.ref c'],by rw [upd_ne ne.symm,upd_same],?_,fun lp' m=>?_⟩
    · rw [Array.toList_append]
      exact triples_snoc _ h2
    · rw [Array.toList_append]
      show codeAmong lp' (ps.toList++[rawInt lp.line,rawInt lp.col,.ref c'])=none∨∃ c'',codeAmong lp' (ps.toList++[rawInt lp.line,rawInt lp.col,.ref c'])=Option.some (Value.ref c'')∧_
      rw [codeAmong_snoc2 _ h2]
      rcases h3 lp' m with z|⟨c'',z,e⟩
      · rw [z]
        by_cases q:((lp.line:Int) == lp'.line && (lp.col:Int) == lp'.col)=true
        · rw [if_pos q]
          exact .inr ⟨c',rfl,upd_same⟩
        · rw [if_neg q]
          exact .inl rfl
      · rw [z]
        refine .inr ⟨c'',rfl,?_⟩
        rw [upd_ne (ne_of_none e hc),upd_ne (ne_of e h1 (by intro z;cases z))];exact e
  · exact ⟨ps,h1,h2,h3⟩
end L2
namespace L2
open PySem PySem.Spec PyProof.Rows PySem.W
theorem law_callM {P:Program} {w:World} {K:PySem.W.Frag} {mg mb:Str→Option Value} {CX:CXT} {k:Nat} {fa a:Addr} {Ts:List Addr} {fd:FuncData} {x:Str} {sp:Sp} {s₁:Shared} {vs:List Value} {ns:List Int}
    (KX:K.In s₁.heap) (hns:s₁.heap.Ns mainGlobals mg) (hb:s₁.heap.Ns builtinsNs mb) (hbb:∀ x:Str,x ≠ "__name__"→mb x=bootBuiltins x) (hlim:s₁.heap.NoLimit) (hg:s₁.gens=#[])
    (ha:s₁.heap.get? a=some { cls:=.type "list",data:=.seq vs.toArray }) (hi:IntsAre vs ns) (hl:ns.length≤sizeLine) (hr:Room k callerA)
    (hT:∀ T∈Ts,s₁.heap.get? T=some (tabObj #[])∧K.lookup T=none∧∃ c,PySem.W.CodeHd s₁.heap c T)
    (F:∀ base:Heap,K.In base→base.Ns mainGlobals mg→(∀ b o,s₁.heap.get? b=some o→b∉Ts→b≠a→base.get? b=some o)→FnOk P w K mg base CX k fa fd [x] sp) (hbind:∀ (s:Shared) (u:Value),BindsTo s fd ⟨[u],[]⟩ [(x,u)])
    (hsp:∀ H:Hp,(∀ T∈Ts,H T=some (.tbl #[]))→SqL K H a (ns.map V.int)→sp [.ref a] H (fun v _=>v=.bl true) fun _ _ _=>False)
    (hCX:∀ H e s',CX [] H s₁ (fun _ _ _=>False) e s'→False) :
    codeAny (model P w) callerA (.call (.ref fa) ⟨[.ref a],[]⟩) (fun r s'=>r=.ok (.ret (.bool true))∧OldK s₁.heap s'.heap∧s'.os=s₁.os∧AllBare s'.gens) s₁:=by
  have rv:=vals_ints hi
  have lenV:=hi.length
  have haT:a∉Ts:=fun q=>by have:=(hT a q).1;rw [ha] at this;cases this
  have core:∀ H0:Hp,(∀ b,H0 b=none∨(b=a∧K.lookup a=none∧H0 b=some (.frz { cls:=.type "list",data:=.seq vs.toArray } (.lst (ns.map V.int)))))→SqL K (fun b=>if b∈Ts then some (.tbl #[]) else H0 b) a (ns.map V.int)→
      codeAny (model P w) callerA (.call (.ref fa) ⟨[.ref a],[]⟩) (fun r s'=>r=.ok (.ret (.bool true))∧OldK s₁.heap s'.heap∧s'.os=s₁.os∧AllBare s'.gens) s₁:=by
    intro H0 hO hS
    generalize hH:(fun b=>if b∈Ts then some (HO.tbl #[]) else H0 b:Hp)=H at hS
    have HT:∀ T∈Ts,H T=some (.tbl #[]):=fun T m=>by rw [← hH];exact if_pos m
    have Hne:∀ b,b∉Ts→H b=H0 b:=fun b e=>by rw [← hH];exact if_neg e
    have Hn:∀ b,b∉Ts→b≠a→H b=none:=fun b h1 h2=>by
      rw [Hne b h1]
      rcases hO b with z|⟨z,_⟩
      · exact z
      · exact absurd z h2
    have hok:HOk P w H s₁.heap:=fun b u e=>by
      by_cases q:b∈Ts
      · rw [HT b q] at e;cases e
        exact (hT b q).1
      · rw [Hne b q] at e
        rcases hO b with z|⟨rfl,_,z⟩
        · rw [z] at e;cases e
        · rw [z] at e;cases e
          exact ⟨ha,by rw [List.length_map];exact hl,vs,_,rv,ha⟩
    have nsN:∀ {b:Addr} {o:Obj} {es:Array DictEntry} {ep:Nat},s₁.heap.get? b=some o→o.data=.dict es ep→H b=none:=fun {b o es ep} e d=>by
      refine Hn b (fun q=>?_) (fun q=>?_)
      · rw [(hT b q).1] at e;cases e;cases d
      · subst q;rw [ha] at e;cases e;cases d
    have nsK:∀ {b:Addr} {m:Str→Option Value},s₁.heap.Ns b m→(hidT s₁.heap H).Ns b m:=fun {b m} ⟨o,es,ep,e,d,r⟩=>⟨o,es,ep,hidT_get e (nsN e d),d,r⟩
    have hKb:K.In (hidT s₁.heap H):=fun b o e=>by
      refine hidT_get (KX b o e) ?_
      have q:b∉Ts:=fun m=>by rw [(hT b m).2.1] at e;cases e
      rw [Hne b q]
      rcases hO b with z|⟨rfl,z,_⟩
      · exact z
      · rw [z] at e;cases e
    have hM:Mod K mg (hidT s₁.heap H):=⟨hKb,nsK hns,⟨mb,nsK hb,hbb⟩,let ⟨mc,h1,h2⟩:=hlim;⟨mc,nsK h1,h2⟩⟩
    have e0:Env0 P w K mg (hidT s₁.heap H) callerA [] s₁ H:=⟨rfl,hM,fun b o e=>of_hidT e,Nat.le_of_eq (hidT_size _ _),trivial,fun b hb=>absurd (show b∈([]:List Addr) from hb) (by simp),hok,.of_eq hg⟩
    refine codeAny_mono ((F _ hKb (nsK hns) fun b o e h1 h2=>hidT_get e (Hn b h1 h2)).run callerA [] s₁ H ⟨[.ref a],[]⟩ [.ref a] [.ref a] _ _ hr e0 (hbind s₁ (.ref a)) (.cons rfl .nil) (hsp H HT hS)) fun r s' h=>?_
    cases r with
    |error e=>exact (hCX H e s' h).elim
    | ok fl=>
      cases fl with
      |next=>exact False.elim h
      |brk=>exact False.elim h
      |cont=>exact False.elim h
      | ret u=>
        obtain ⟨v,H',os,bare,un,hok',r',q⟩:=h
        cases (show v=.bl true from q)
        cases (show u=Value.bool true from r')
        have was:∀ b o,s₁.heap.get? b=some o→b∉Ts→s'.heap.get? b=some o:=fun b o e h1=>by
          rcases hO b with z|⟨rfl,_,z⟩
          · exact un.keep b o e (by rw [Hne b h1];exact z) (by intro z;exact absurd (show b∈([]:List Addr) from z) (by simp)) (by simp)
          · have z2:=un.frzs b _ _ ((Hne b h1).trans z)
            obtain ⟨e2,_⟩:=hok' b _ z2
            rw [ha] at e;cases e
            exact e2
        have tbs:∀ T∈Ts,∃ more,s'.heap.get? T=some { cls:=.none,data:=.fields (#[]++more) }:=fun T m=>by
          obtain ⟨more,hm⟩:=un.tbls T #[] (HT T m)
          exact ⟨more,hok' T _ hm⟩
        refine ⟨rfl,⟨fun b o e=>?_,fun b o e=>?_⟩,os,bare⟩
        · by_cases h1:b∈Ts
          · obtain ⟨more,tb⟩:=tbs b h1
            obtain ⟨h2,_,c,hc⟩:=hT b h1
            rw [h2] at e;cases e
            exact .inr (.inl ⟨(hc.tab h2).isCodeTable,rfl,#[],more,rfl,tb⟩)
          · exact .inl (was b o e h1)
        · by_cases h1:b∈Ts
          · obtain ⟨more,tb⟩:=tbs b h1
            exact ⟨_,tb⟩
          · exact ⟨o,was b o e h1⟩
  cases hk:K.lookup a with
  | some o=>
    have e:=KX a o hk
    rw [ha] at e
    cases e
    exact core (fun _=>none) (fun _=>.inl rfl) (.inr ⟨_,vs.toArray,_,hk,rfl,rfl,rfl,by rw [List.size_toArray,lenV];exact hl,by simpa using rv⟩)
  | none=>
    refine core (fun b=>if b=a then some (.frz { cls:=.type "list",data:=.seq vs.toArray } (.lst (ns.map V.int))) else none) (fun b=>?_) (.inl (.inr ⟨_,(if_neg haT).trans (if_pos rfl)⟩))
    by_cases h:b=a
    · exact .inr ⟨h,hk,if_pos h⟩
    · exact .inl (if_neg h)
theorem walk_ofM {l:PySem.W.OpenLaw} {n k:Nat} {q:Program} {loose:List Str} {XP:(Str→Option Value)→Heap→Prop} {YP:World→Heap→Prop} {d:DefRec} {K:Params→PySem.W.Frag} {CX:World→CXT} {x:Str} {Ts:List Addr}
    (hn:l.most=some n) (hn2:n≤sizeLine) (hdf:d.params.defaults=[]) (hr:Room k callerA)
    (hY:∀ (w:World) (h:Heap),YP w h→(K w.params).In h) (hYT:∀ (w:World) (h:Heap),YP w h→∀ T∈Ts,h.get? T=some (tabObj #[]))
    (F:∀ (w:World) (mg:Str→Option Value) (fa:Addr) (h:Heap),(K w.params).In h→h.Ns mainGlobals mg→mg d.name=some (.ref fa)→
      ∃ (fd:FuncData) (sp:Sp),(∀ (s:Shared) (u:Value),BindsTo s fd ⟨[u],[]⟩ [(x,u)])∧(∀ T∈Ts,(K w.params).lookup T=none∧∃ c,tabIn (K w.params) c=some T)∧
        (∀ (H:Hp) (a:Addr) (ns:List Int),ns.length≤n→(∀ T∈Ts,H T=some (.tbl #[]))→SqL (K w.params) H a (ns.map V.int)→sp [.ref a] H (fun v _=>v=.bl true) fun _ _ _=>False)∧
        ∀ base:Heap,(K w.params).In base→base.Ns mainGlobals mg→(∀ T∈Ts,base.BuiltinsAt mg T∧mainGlobals≠T)→FnOk l.prog w (K w.params) mg base (CX w) k fa fd [x] sp)
    (hCX:∀ (w:World) (H:Hp) (s:Shared) (e:Value) (s':Shared),CX w [] H s (fun _ _ _=>False) e s'→False) :
    PySem.W.WalkO q loose XP YP l.row.toRowW d [] (fun f vs=>PySem.call f vs):=by
  refine Att.attach_call hn hdf fun w s₀ s₁ mg mb fa o pm cd doc a vs ns G Y ho hd hcd hmg hobj hints hlen hg=>?_
  have KX:=hY w _ Y
  have TX:=hYT w _ Y
  obtain ⟨fd,sp,hb,ht,hsp,hF⟩:=F w mg fa _ KX G.T.g hmg
  obtain ⟨bm,ob,b1,b2,b3,b4,b5,b6⟩:=G.T.bmain
  have gT:∀ T∈Ts,mainGlobals≠T:=fun T m q=>by
    obtain ⟨o,es,ep,e,hd,_⟩:=G.T.g
    rw [q,TX T m] at e;cases e;cases hd
  have bT:bm∉Ts:=fun m=>by
    rw [TX _ m] at b3;cases b3;cases b4
  have ba:bm≠a:=fun q=>by
    rw [q,hobj] at b3;cases b3;cases b6
  have bG:bm≠mainGlobals:=fun q=>by
    obtain ⟨o,es,ep,e,hd,_⟩:=G.T.g
    rw [q,e] at b3;cases b3;rw [hd] at b6;cases b6
  exact law_callM KX G.T.g G.T.b G.T.builtins G.T.nolimit hg hobj hints (Nat.le_trans hlen hn2) hr (fun T m=>⟨TX T m,(ht T m).1,let ⟨c,z⟩:=(ht T m).2;⟨c,hd_of KX z⟩⟩) (fun base kb nb old=>hF base kb nb fun T m=>⟨⟨bm,ob,b1,b2,bG,fun q=>bT (q ▸ m),old _ _ b3 bT ba,b4,b5,b6⟩,gT T m⟩) hb (fun H hH hS=>hsp H a ns hlen hH hS) fun H e s'=>hCX w H s₁ e s'
end L2
namespace L2
open PySem PySem.Spec PyProof.Rows
theorem compTurn_dict (ke ve target iter:Expr) (ifs:List Expr) (scope:Scope) (pos:Pos) (it:Value) (d:Addr) (env:Env) :
    compTurn (.DictComp ke ve [⟨target,iter,ifs,0⟩] scope pos) 0 it (.ref d) env=(do
      standAt iter.pos
      match ← pyNext it with
      |none=>pure (.done .next)
      | some v=>
        letOwnedTupleGo target it v
        assign target env v
        let mut ok:=true
        for c in ifs do
          if ok then ok ← isTrue c env (eval c env)
        if ok then
          (do
            let kv ← eval ke env
            let vv ← holding [kv] (eval ve env)
            standAt { ke.pos with endLine:=ve.pos.endLine,endCol:=ve.pos.endCol }
            holding [kv,vv] (dictSet d kv vv))
        again (.compLoop (.DictComp ke ve [⟨target,iter,ifs,0⟩] scope pos) 0 it (.ref d) env)):=by rfl
theorem codeAny_compStart_dict {prog:Program} {w:World} {A:Around} {R:Result→Shared→Prop} {s:Shared} {ke ve target iter ifs rest scope pos it acc env}
    (h0:codeAny (model prog w) A (.compLoop (.DictComp ke ve (⟨target,iter,ifs,0⟩::rest) scope pos) 0 it acc env) R s)
    (h:wpAny (model prog w) A (pyIter it) (fun it' s'=>codeAny (model prog w) A (.compLoop (.DictComp ke ve (⟨target,iter,ifs,0⟩::rest) scope pos) 0 it' acc env) R s')
      (notedBy (model prog w) A env fun x s'=>R (.error x) s') s) :
    codeAny (model prog w) A (.compStart (.DictComp ke ve (⟨target,iter,ifs,0⟩::rest) scope pos) 0 it acc env) R s:=by
  refine codeAny_of_tree ?_
  show wpAny _ _ ((compStart (.DictComp ke ve (⟨target,iter,ifs,0⟩::rest) scope pos) 0 it acc env).onRaise (fun x=>do noteFrame x env;standAt theWindowsPlace)) _ _ s
  refine wpAny_notedAt ?_
  unfold compStart
  show wpAny _ _ (ask >>= _) _ _ s
  refine wpAny_bind (wpAny_askSetting (wpAny_ite ?_))
  split
  · first
      |exact wpAny_bind (wpAny_pure (wpAny_pure (And.intro rfl h0)))
      |exact wpAny_pure (And.intro rfl h0)
  · first
      |exact wpAny_bind (wpAny_rule (wpAny_bind (wpAny_standAt (wpAny_bind (wpAny_mono h (fun it' s' h'=>wpAny_pure (And.intro rfl h')) fun _ _ x=>x)))))
      |(refine wpAny_bind (wpAny_rule ?_);show wpAny _ _ (standAt iter.pos >>= _) _ _ s;exact wpAny_bind (wpAny_standAt (wpAny_bind (wpAny_mono h (fun it' s' h'=>wpAny_pure (And.intro rfl h')) fun _ _ x=>x))))
theorem d_dictSet {X:Cx} {pins:List (Addr×Obj)} {σ:St} {H:Hp} {s:Shared} {a:Addr} {y v:V} {u r:Value} {A:Around} {E:Value→Shared→Prop} {kvs:List (Key×V)} {k:Key} {Q:Unit→Shared→Prop} (I:Inv X pins σ H s) (e:H a=some (.dK kvs)) (ey:y=kV k) (l:kvs.length<sizeLine) (ry:RelV y u) (rv:RelV v r)
    (h:∀ s',Inv X pins σ (upd H a (.dK (putK kvs k v))) s'→Q () s'):wpAny (model X.prog X.w) A (dictSet a u r) Q E s:=by
  subst ey
  obtain ⟨z,hd,vs,rel,dd⟩:=dk_of I.hok e
  have hz:vs.length≤sizeLine:=by rw [← rel.length];exact z
  have hl:(putK kvs k v).length≤sizeLine:=by have:=length_putK kvs k v;omega
  refine wpAny_dictSet_pairs (hsz:=hz) (kV_is ry) dd fun h' dd' hs=>h _ ?_
  have he:∃ q,h'.get? a=some q:=let ⟨q,_,_,hq,_⟩:=dd';⟨q,hq⟩
  exact d_write I (by rw [e];exact True.intro) hs he (dk_new hl hd (rel.put k rv) dd')
def DTurn (J:It) (g:TG) (tt:TT) (tk tv:TE) (acc:Addr) (F:Hp→Prop) (W:Nat→Nat→St→Hp→Prop):Prop:=
  ∀ i m σ H,W i m σ H→(J.stop i H∧F H)∨(J.go i H∧∀ x H1,J.yld i H x H1→g x σ H1 fun σ2 H2=>tt σ2 H2 fun b H3=>
    if b=true then tk σ2 H3 fun y H4=>tv σ2 H4 fun z H5=>∃ kvs k,H5 acc=some (.dK kvs)∧y=kV k∧kvs.length<sizeLine∧∃ m',m'<m∧W (i+1) m' σ2 (upd H5 acc (.dK (putK kvs k z))) else ∃ m',m'<m∧W (i+1) m' σ2 H3)
theorem dcomp_loop {X:Cx} {scope:Scope} {N':List Str} {cl:List (Str×Addr)} {C acc it:Addr} {s₂:Shared} {H₂:Hp} {fp:List Addr} {tn:Nat→Heap→Prop} {J:It} {g:TG} {tt:TT} {tk tv:TE} {F:Hp→Prop}
    {ke ve tg iter:Expr} {ifs:List Expr} {pos:Pos} {R:Result→Shared→Prop} (W:Nat→Nat→St→Hp→Prop) (turn:DTurn J g tt tk tv acc F W) (T:Turn X.prog X.w X.K tg J fp it tn)
    (hg:PG (cxComp X scope N' cl C s₂ H₂ fp) tg g) (hc:PIfs (cxComp X scope N' cl C s₂ H₂ fp) ifs tt) (hk:PE (cxComp X scope N' cl C s₂ H₂ fp) ke tk) (hv:PE (cxComp X scope N' cl C s₂ H₂ fp) ve tv) (hcalm:X.calm=true)
    (hfp:∀ b∈fp,b≠C∧b∉frs X.stack∧(∀ x c,cl.lookup x=some c→c≠b))
    (hR:∀ s' σ' H',Inv (cxComp X scope N' cl C s₂ H₂ fp) [] σ' H' s'→F H'→R (.ok .next) s')
    {s:Shared} {σ:St} {H:Hp} {m:Nat} (I:Inv (cxComp X scope N' cl C s₂ H₂ fp) [] σ H s) (st:tn 0 s.heap) (fr:∀ b∈fp,H b=none) (w0:W 0 m σ H) :
    codeAny (model X.prog X.w) X.A (.compLoop (.DictComp ke ve [⟨tg,iter,ifs,0⟩] scope pos) 0 (.ref it) (.ref acc) (compEnvC scope cl C X.env)) R s:=by
  refine codeAny_loop rfl (fun n s'=>∃ i σ' H',Inv (cxComp X scope N' cl C s₂ H₂ fp) [] σ' H' s'∧tn i s'.heap∧(∀ b∈fp,H' b=none)∧W i n σ' H') (fun n s3 hI=>?_) m ⟨0,σ,H,I,st,fr,w0⟩
  obtain ⟨i,σ3,H3,I3,st3,fr3,w3⟩:=hI
  show wpAny _ X.A ((compTurn (.DictComp ke ve [⟨tg,iter,ifs,0⟩] scope pos) 0 (.ref it) (.ref acc) (compEnvC scope cl C X.env)).onRaise (fun x=>do noteFrame x (compEnvC scope cl C X.env);theTreesLotGoes x)) _ _ s3
  refine wpAny_noted ?_
  rw [compTurn_dict]
  have fpk:∀ {H':Hp},(∀ b∈fp,H' b=none)→∀ b∈fp,FpOk (cxComp X scope N' cl C s₂ H₂ fp) [] H' b:=fun hn b hb=>
    ⟨hn b hb,(hfp b hb).1,(hfp b hb).2.1,.inl hb,(hfp b hb).2.2,fun p hp'=>by
      have hp'':p∈([]:List (Addr×Obj))++[]:=hp'
      exact absurd hp'' (by simp)⟩
  have fp1:=fpk fr3
  refine wpAny_bind (wpAny_standAt (wpAny_bind ?_))
  rcases turn i n σ3 H3 w3 with ⟨stop,qn⟩|⟨go,step⟩
  · refine wpAny_mono (T.done (cxComp X scope N' cl C s₂ H₂ fp) rfl rfl rfl hcalm i _ s3 σ3 H3 (fun _ _=>False) I3 fp1 st3 stop) (fun r s4 ⟨hr,I4⟩=>?_) (fun _ _ z=>z.elim)
    subst hr
    exact wpAny_pure (hR s4 σ3 H3 I4 qn)
  · refine wpAny_mono (T.item (cxComp X scope N' cl C s₂ H₂ fp) rfl rfl rfl hcalm i _ s3 σ3 H3 (fun _ _=>False) I3 fp1 st3 go) (fun r s4 ⟨u,hr,h4⟩=>?_) (fun _ _ z=>z.elim)
    subst hr
    refine wpAny_bind (wpAny_mono h4 (fun _ s5 ⟨x,H5,I5,r5,y5,st5,fr5⟩=>?_) (fun _ _ z=>z.elim))
    have fp5:=fpk fr5
    have I5':=I5.pinned fp5 (T.obj _ _ st5)
    refine wpAny_bind (wpAny_mono (hg _ s5 σ3 H5 x u _ I5' r5 (step x H5 y5)) (fun _ s6 ⟨σ6,H6,I6,q6⟩=>?_) (fun _ _ z=>z.elim))
    refine wpAny_bind (wpAny_mono (hc _ s6 σ6 H6 _ I6 q6) (fun ok s7 ⟨H7,I7,q7⟩=>?_) (fun _ _ z=>z.elim))
    have again:∀ {s8:Shared} {σ8:St} {H8:Hp},Inv (cxComp X scope N' cl C s₂ H₂ fp) ([]++pinsAt fp s5.heap) σ8 H8 s8→tn (i+1) s8.heap∧∀ b∈fp,H8 b=none:=fun {s8 σ8 H8} I8=>
      ⟨T.keep _ _ _ st5 fun b hb o e=>(I8.pin (b,o) (List.mem_append_right _ (List.mem_append_right _ (mem_pinsAt hb e)))).1,fun b hb=>by
        obtain ⟨o,e,d⟩:=T.obj _ _ st5 b hb
        exact (I8.pin (b,o) (List.mem_append_right _ (List.mem_append_right _ (mem_pinsAt hb e)))).2.1⟩
    cases ok with
    | false=>
      rw [if_neg Bool.false_ne_true] at q7
      obtain ⟨m',hm,w7⟩:=q7
      obtain ⟨t1,t2⟩:=again I7
      exact wpAny_pure ⟨rfl,m',hm,i+1,σ6,H7,I7.unpinned,t1,t2,w7⟩
    | true=>
      rw [if_pos rfl] at q7
      refine wpAny_bind (wpAny_bind (wpAny_mono (hk _ s7 σ6 H7 _ I7 q7) (fun y s8 ⟨yv,H8,I8,r8,q8⟩=>?_) (fun _ _ z=>z.elim)))
      refine wpAny_bind (wpAny_holding (wpAny_mono (hv _ s8 σ6 H8 _ I8 q8) (fun y2 s9 ⟨zv,H9,I9,r9,kvs,k,e9,ek,hl,m',hm,w9⟩=>?_) (fun _ _ z=>z.elim)))
      refine wpAny_bind (wpAny_standAt (wpAny_holding ?_))
      refine d_dictSet (X:=cxComp X scope N' cl C s₂ H₂ fp) I9 e9 ek hl r8 r9 fun s10 I10=>?_
      obtain ⟨t1,t2⟩:=again I10
      exact wpAny_pure ⟨rfl,m',hm,i+1,σ6,_,I10.unpinned,t1,t2,w9⟩
def tDComp (wi:TI) (g:TG) (tt:TT) (tk tv:TE) (k:Nat) (js:List Nat):TE:=fun σ H Q=>wi σ H fun J H1=>∀ acc,H1 acc=none→∃ W:Nat→Nat→St→Hp→Prop,(∃ m,W 0 m (compSt k js σ) (upd H1 acc (.dK [])))∧
  DTurn J g tt tk tv acc (fun H2=>Q (.ref acc) H2) W
section
variable {X:Cx} {scope:Scope} {own:List Str} {js:List Nat} {N':List Str} {wi:TI} {g:TG} {tt:TT} {tk tv:TE} {ke ve tg iter:Expr} {ifs:List Expr} {pos:Pos}
theorem dcomp_run {pins:List (Addr×Obj)} {σ:St} {H:Hp} {s:Shared} {it:Addr} {fp:List Addr} {tn:Nat→Heap→Prop} {J:It} {cl:List (Str×Addr)} {F:Addr→Hp→Prop} {E:Value→Shared→Prop} {RR:Value→Addr→Result→Shared→Prop}
    (S:CompScope X scope own js N') (hcalm:X.calm=true) (hg:∀ cl C s₀ H₀ ex,PG (cxComp X scope N' cl C s₀ H₀ ex) tg g) (hc:∀ cl C s₀ H₀ ex,PIfs (cxComp X scope N' cl C s₀ H₀ ex) ifs tt) (hk:∀ cl C s₀ H₀ ex,PE (cxComp X scope N' cl C s₀ H₀ ex) ke tk) (hv:∀ cl C s₀ H₀ ex,PE (cxComp X scope N' cl C s₀ H₀ ex) ve tv)
    (hc1:∀ x c,cl.lookup x=some c→X.env.cells.lookup x=some c) (hc2:∀ x,(x,NameKind.free)∈scope.names→∃ c,cl.lookup x=some c)
    (I:Inv X pins σ H s) (T:Turn X.prog X.w X.K tg J fp it tn) (st:tn 0 s.heap) (hf:∀ b∈fp,FpOk X pins H b)
    (hW:∀ acc,H acc=none→∃ W:Nat→Nat→St→Hp→Prop,(∃ m,W 0 m (compSt own.length js σ) (upd H acc (.dK [])))∧DTurn J g tt tk tv acc (F acc) W)
    (fin:∀ acc C H' s' m,Inv X pins σ H' s'→s'.heap.Ns C m→H' C=none→C≠X.env.locals→X.s₀.heap.objs.size≤C→(∀ x c,X.env.cells.lookup x=some c→c≠C)→(∀ p∈X.pn++pins,p.1≠C)→F acc H'→RR (.ref acc) C (.ok .next) s') :
    wpAny (model X.prog X.w) X.A newDict (fun acc s₃=>wpAny (model X.prog X.w) X.A (newFunctionEnv scope X.env.globals cl [] X.env.qual none .none (some X.env)) (fun cenv s₄=>
      codeAny (model X.prog X.w) X.A (.compStart (.DictComp ke ve [⟨tg,iter,ifs,0⟩] scope pos) 0 (.ref it) acc { cenv with scope:=relabel scope X.env }) (RR acc cenv.locals) s₄) E s₃) E s:=by
  refine wpAny_newObj_type (wpAny_newFunctionEnv S.nocell (by intro y hy;simp at hy) (fun h₁ hns₁ hsb₁=>?_) S.kind)
  dsimp only at hns₁ hsb₁ ⊢
  have hHA:H s.heap.objs.size=none:=I.hok.fresh (Nat.le_refl _)
  have IL:Inv X pins σ (upd H s.heap.objs.size (.dK [])) { s with heap:=s.heap.push { cls:=.type "dict",data:=.dict #[] },toks:=s.toks }:=I.laid (a:=s.heap.objs.size) (o:=.dK []) (t':=s.toks) (fun _ _ q=>Heap.get?_push_of_some _ q) (Nat.le_refl _) (dk_empty s.heap I.big)
  obtain ⟨W,⟨m0,w0⟩,turn⟩:=hW _ hHA
  have stL:tn 0 (s.heap.push { cls:=.type "dict",data:=.dict #[] }):=T.keep _ _ _ st fun b hb o e=>Heap.get?_push_of_some _ e
  have fpLt0:∀ b∈fp,b<s.heap.objs.size:=fun b hb=>by
    obtain ⟨o,e,_⟩:=T.obj _ _ st b hb
    exact Heap.lt_size e
  have hfL:∀ b∈fp,FpOk X pins (upd H s.heap.objs.size (.dK [])) b:=fun b hb=>by
    obtain ⟨f0,f⟩:=hf b hb
    exact ⟨by rw [upd_ne (Nat.ne_of_lt (fpLt0 b hb))];exact f0,f⟩
  generalize hH2:s.heap.push { cls:=.type "dict",dict:=none,data:=.dict #[] }=H2 at hns₁ hsb₁ IL stL ⊢
  have hC:H2.objs.size=s.heap.objs.size+1:=by rw [← hH2,Heap.size_push]
  generalize hHn:upd H s.heap.objs.size (.dK [])=HL at IL hfL w0
  generalize hAn:s.heap.objs.size=acc at *
  have below:∀ b,b<H2.objs.size→b≠H2.objs.size:=fun b hb=>Nat.ne_of_lt hb
  have old:∀ b o,H2.get? b=some o→h₁.get? b=some o:=fun b o e=>hsb₁.extBut b o (below b (Heap.lt_size e)) (Heap.get?_push_of_some _ e)
  generalize hCn:H2.objs.size=C at *
  have cellLt:∀ x c,X.env.cells.lookup x=some c→c<C:=fun x c e=>by
    obtain ⟨v,q⟩:=IL.cell x c e
    rw [← hCn];exact q.lt
  have pinLt:∀ p∈X.pn++pins,p.1<C:=fun p hp=>by rw [← hCn];exact Heap.lt_size (IL.pin p hp).1
  have fpLt:∀ b∈fp,b<C:=fun b hb=>Nat.lt_of_lt_of_le (fpLt0 b hb) (by rw [hC];exact Nat.le_succ _)
  have hHC:HL C=none:=IL.hok.fresh (by show H2.objs.size≤C;rw [hCn];exact Nat.le_refl _)
  have I1:Inv (cxComp X scope N' cl C { s with heap:=H2,toks:=s.toks } HL fp) [] (compSt own.length js σ) HL { s with heap:=h₁,toks:=s.toks+([]:List (Str×Value)).length }:=
    Inv.comp S IL hc1 hc2 (by show H2.objs.size≤C;rw [hCn];exact Nat.le_refl _) hns₁ old (fun b hb=>⟨hfL b hb,by show b<H2.objs.size;rw [hCn];exact fpLt b hb⟩) hHC fun b o e=>below b (by rw [← hCn];exact Heap.lt_size e)
  have st1:tn 0 h₁:=T.keep _ _ _ stL fun b hb o e=>old b o e
  have loop:∀ s₃:Shared,s₃={ s with heap:=h₁,toks:=s.toks+([]:List (Str×Value)).length }→
      codeAny (model X.prog X.w) X.A (.compLoop (.DictComp ke ve [⟨tg,iter,ifs,0⟩] scope pos) 0 (.ref it) (.ref acc) (compEnvC scope cl C X.env)) (RR (.ref acc) C) s₃:=by
    rintro s₃ rfl
    refine dcomp_loop W turn T (hg _ _ _ _ _) (hc _ _ _ _ _) (hk _ _ _ _ _) (hv _ _ _ _ _) hcalm
      (fun b hb=>⟨below b (fpLt b hb),fun z=>?_,fun x c e z=>(hfL b hb).2.2.2.2.1 x c (hc1 x c e) z⟩) ?_ I1 st1 (fun b hb=>(hfL b hb).1) w0
    · rcases List.mem_cons.mp (IL.stkSub b z) with q|q
      · exact (hfL b hb).2.1 q
      · exact (hfL b hb).2.2.1 q
    · intro s' σ' H' J' q
      obtain ⟨m,hm,_⟩:=J'.loc
      have IX:Inv X pins σ H' s':=IL.call' J'.os J'.base J'.hok J'.bare fun b hb=>⟨(hfL b hb).2.2.2.1,(hfL b hb).2.1,(hfL b hb).2.2.2.2.1,(hfL b hb).2.2.2.2.2⟩
      refine fin acc C H' s' m IX hm J'.free ?_ ?_ ?_ ?_ q
      · exact Nat.ne_of_gt (Nat.lt_of_lt_of_le IL.lt (by show H2.objs.size≤C;rw [hCn];exact Nat.le_refl _))
      · exact Nat.le_trans IL.sz (by show H2.objs.size≤C;rw [hCn];exact Nat.le_refl _)
      · exact fun x c e z=>absurd (cellLt x c e) (by rw [z];exact Nat.lt_irrefl _)
      · exact fun p hp z=>absurd (pinLt p hp) (by rw [z];exact Nat.lt_irrefl _)
  exact codeAny_compStart_dict (loop _ rfl) (T.self _ 0 _ _ _ st1 (loop _ rfl))
theorem ps_setDComp {i:Nat} {x:Str} {pos' spos:Pos} (S:CompScope X scope own js N') (hcalm:X.calm=true) (hN:X.N.Nodup) (hx:X.N[i]?=some x) (hk:X.env.scope.names.lookup x=some .local) (hi:PI X tg iter wi) (hg:∀ cl C s₀ H₀ ex,PG (cxComp X scope N' cl C s₀ H₀ ex) tg g) (hc:∀ cl C s₀ H₀ ex,PIfs (cxComp X scope N' cl C s₀ H₀ ex) ifs tt)
    (hke:∀ cl C s₀ H₀ ex,PE (cxComp X scope N' cl C s₀ H₀ ex) ke tk) (hve:∀ cl C s₀ H₀ ex,PE (cxComp X scope N' cl C s₀ H₀ ex) ve tv) (hsw:swapsWith (.DictComp ke ve [⟨tg,iter,ifs,0⟩] scope pos) (some (.Name x pos')) spos.line X.env=pure true:=by rfl) (hs:∀ x,foldedSetIterable iter X.env x=pure x:=by intro _;rfl) :
    PS X (.Assign [.Name x pos'] (.DictComp ke ve [⟨tg,iter,ifs,0⟩] scope pos) spos) (tAsg (tDComp wi g tt tk tv own.length js) (gName i)):=by
  intro pins s σ H D I h
  obtain ⟨cl,hcl,hc1,hc2⟩:=closure_ok (env:=X.env) scope fun y hy hk=>I.ok.has y.1 (S.free y hy hk)
  rw [exec_Assign_Name_used _ _ _ _ hsw]
  refine wpAny_bind (wpAny_standAt (wpAny_bind ?_))
  show wpAny _ X.A (do let _ ← comprehension (.DictComp ke ve [⟨tg,iter,ifs,0⟩] scope pos) scope X.env _ newDict false (eval iter X.env) (some (assign (.Name x pos') X.env))) _ _ s
  refine wpAny_bind (wpAny_mono (wpAny_comprehension_free (use:=some (assign (.Name x pos') X.env)) (Q:=fun _ s'=>SP X pins D .next s') rfl hs hcl S.kind S.names
    (thn (hi pins s σ H _ I h) fun v s1 h1=>thn h1 fun itv s2 h2=>?_)) (fun _ s' hq=>wpAny_pure (wpAny_pure hq)) fun _ _ e=>e)
  obtain ⟨it,fp,tn,J,H2,e,I2,T,st2,f2,hW⟩:=h2
  subst e
  refine dcomp_run (RR:=fun acc C=>compPost (model X.prog X.w) X.A X.xe (some (assign (.Name x pos') X.env)) (fun _ s'=>SP X pins D .next s') acc C) S hcalm hg hc hke hve hc1 hc2 I2 T st2 f2 hW ?_
  intro acc C H' s' m IX hm hCn hL hz hcn hpn q
  show wpAny _ X.A (assign (.Name x pos') X.env (.ref acc)) _ _ s'
  refine wpAny_assign_Name (store_ok2 IX hN hx (.inl hk) (v:=.ref acc) rfl (fun s'' I'' hsb=>?_) (.inr hk))
  obtain ⟨a,hsb,ha⟩:=hsb
  have haC:C≠a:=by
    rcases ha with z|z
    · rw [z];exact hL
    · exact fun q=>hcn x a z q.symm
  refine ⟨m,hm.sameBut hsb haC,fun h' hs'=>⟨_,_,?_,q⟩⟩
  exact I''.turned (t':=s''.toks) (it:=C) (fun b o hb e=>(hs'.2 b hb).trans e) hCn hL (.inr hz) hcn hpn
end
end L2
namespace L2
open PySem PySem.Spec PyProof.Rows PySem.SeqAt
theorem len1 {α:Type} {us:List α} (h:us.length=1):∃ a,us=[a]:=List.length_eq_one_iff.mp h
theorem len2 {α:Type} {us:List α} (h:us.length=2):∃ a b,us=[a,b]:=by
  cases us with
  |nil=>cases h
  | cons a r=>
    obtain ⟨b,rfl⟩:=len1 (us:=r) (by simpa using h)
    exact ⟨a,b,rfl⟩
theorem len3 {α:Type} {us:List α} (h:us.length=3):∃ a b c,us=[a,b,c]:=by
  cases us with
  |nil=>cases h
  | cons a r=>
    obtain ⟨b,c,rfl⟩:=len2 (us:=r) (by simpa using h)
    exact ⟨a,b,c,rfl⟩
end L2
namespace L2
open PySem PySem.Spec PyProof.Rows
end L2
namespace L2
open PySem PySem.Spec PyProof.Rows
theorem vals_nums:∀ {ns:List Int} {us:List Value},Vals (ns.map V.int) us→∃ ps:List (Int×Tok),us=ps.map (fun p=>Value.int p.1 p.2)∧ps.map (·.1)=ns
  |[],_,r=>by rw [List.map_nil] at r;cases r;exact ⟨[],rfl,rfl⟩
  | n::ns,_,r=>by
    rw [List.map_cons] at r
    cases r with
    | cons h t=>
      obtain ⟨tk,rfl⟩:=(show ∃ t,_=Value.int n t from h)
      obtain ⟨ps,e1,e2⟩:=vals_nums t
      exact ⟨(n,tk)::ps,by rw [e1];rfl,by rw [List.map_cons,e2]⟩
theorem numAt_eq {ps:List (Int×Tok)} {ns:List Int} (e:ps.map (·.1)=ns) {i:Nat} (h:i<ns.length):numAt ps.toArray i=ns[i]:=by
  subst e
  unfold numAt
  simp at h ⊢
  rw [List.getElem?_eq_getElem h]
  rfl
theorem items_eq {ps:List (Int×Tok)}:(ps.map (fun p=>Value.int p.1 p.2)).toArray=intItems ps.toArray:=by
  unfold intItems
  simp
section
variable {X:Cx}
theorem call_maxL (hc:X.calm=true):CallR X (.builtin "max") (fun xs H Q=>∃ p ns,xs=[.ref p]∧SqL X.K H p (ns.map V.int)∧ns≠[]∧∀ b,b∈ns→(∀ x∈ns,x≤b)→Q (.int b) H):=by
  intro pins s σ H xs us Q I r h
  obtain ⟨p,ns,rfl,hq,hne,q⟩:=h
  obtain ⟨u,rfl,ru⟩:=vals1 r
  cases (show u=Value.ref p from ru)
  obtain ⟨its,rv,pl,hz⟩:=I.list hq
  obtain ⟨ps,rfl,e⟩:=vals_nums rv
  have hl:ps.length=ns.length:=by rw [← e,List.length_map]
  have hpos:0<ns.length:=List.length_pos_iff.mpr hne
  have pl':=pl.isList
  rw [items_eq] at pl'
  refine max_intList (I.ok.hd hc) pl' (by simp;omega) fun v h' tk hv k=>?_
  have hb:=argBest_gt (numAt ps.toArray) (ps.toArray.size-1)
  generalize argBest (fun i j=>decide (numAt ps.toArray i > numAt ps.toArray j)) (ps.toArray.size-1)=m at hv hb
  have hm:m<ns.length:=by have:=hb.1;simp at this;omega
  obtain ⟨t,rfl⟩:=intItems_at hv
  rw [numAt_eq e hm]
  refine ⟨.int ns[m],H,I.kept k,⟨_,rfl⟩,q _ (List.getElem_mem hm) fun x hx=>?_⟩
  obtain ⟨j,hj,rfl⟩:=List.getElem_of_mem hx
  have:=hb.2 j (by simp;omega)
  rw [numAt_eq e hj,numAt_eq e hm] at this
  exact this
end
end L2
namespace L2
open PySem PySem.Spec PyProof.Rows
end L2
namespace L2
open PySem PySem.Spec PyProof.Rows PySem.SeqAt
def EvE (t:TE) (σ:St) (H:Hp) (v:V):Prop:=∀ Q:VK,Q v H→t σ H Q
def EvT (t:TT) (σ:St) (H:Hp) (b:Bool):Prop:=∀ Q:Bool→Hp→Prop,Q b H→t σ H Q
section
variable {σ:St} {H:Hp} {ta tb tc:TE} {t u:TT} {x y z v:V} {r r':R2} {k k':Bool} {f:TF} {m n:Nat}
end
end L2
namespace L2
open PySem PySem.Spec PyProof.Rows PySem.SeqAt
variable {X:Cx}
def rNeL (K:PySem.W.Frag):R2:=fun x y H Q=>∃ d e,Rep K H x (.list d)∧Rep K H y (.list e)∧pdDeps d≤60∧Q (.bl (!pdEqs d e)) H
theorem op_neL (hu:X.A.units+64<cLine):OpR X (compareOp .NotEq) (rNeL X.K):=by
  intro pins s σ H x y v u Q I rx ry h
  obtain ⟨d,e,h1,h2,hd,q⟩:=h
  cases h1 with
  | lst g1 rs1=>
    cases h2 with
    | lst g2 rs2=>
      cases (show v=Value.ref _ from rx)
      cases (show u=Value.ref _ from ry)
      obtain ⟨its1,rv1,p1,_⟩:=I.list g1
      obtain ⟨its2,rv2,p2,_⟩:=I.list g2
      have hz:=allEq (X:=X) (H:=H) (A:=X.A) rs1 rs2 rv1 rv2
      by_cases hs:its1.toArray.size=its2.toArray.size
      · have hw:=RcNeAt.lists (A:=X.A) p1.isList p2.isList hs (by omega)
          (e:=fun j=>pdEq (d.getD j .none) (e.getD j .none)) (fun j h1 h2=>by simpa using eqs_at I rs1 rs2 rv1 rv2 (A:=X.A.in1) (by show X.A.units+1+_<_;omega) j (by simpa using h1) (by simpa using h2))
        rw [← hs,Nat.min_self,beq_self_eq_true,Bool.and_true] at hz
        rw [hz] at hw
        exact hw _ _ _ _ ⟨.bl _,H,I,rfl,q⟩
      · have hw:=RcNeAt.lists_lengths (A:=X.A) p1.isList p2.isList (by simpa using hs) (by omega)
        have:pdEqs d e=false:=by
          rw [← hz,beq_eq_false_iff_ne.mpr hs,Bool.and_false]
        rw [this] at q
        exact hw _ _ _ _ ⟨.bl _,H,I,rfl,q⟩
section
variable {σ:St} {H:Hp} {ta tb:TE} {k k':Bool} {x y:V}
end
end L2
namespace L2
open PySem PySem.Spec PyProof.Rows PySem.SeqAt
section
variable {X:Cx}
end
end L2
namespace L2
open PySem PySem.Spec PyProof.Rows PySem.SeqAt
section
variable {X:Cx}
end
end L2
namespace L2
open PySem PySem.Spec PyProof.Rows PySem.SeqAt
section
variable {X:Cx}
end
end L2
namespace L2
open PySem PySem.Spec PyProof.Rows
section
variable {X:Cx} {pins:List (Addr×Obj)} {σ:St} {H:Hp} {s:Shared}
end
section
variable {X:Cx} {scope:Scope} {own:List Str} {js:List Nat} {N':List Str} {wi:TI} {g:TG} {tt:TT} {te:TE} {elt tg iter:Expr} {ifs:List Expr} {pos:Pos}
end
end L2
namespace L2
open PySem
end L2
namespace L2
open PySem PySem.Spec PyProof.Rows PySem.SeqAt
section
variable {prog:Program} {w:World} {A:Around} {E:Value→Shared→Prop} {s:Shared}
end
end L2
namespace L2
open PySem PySem.Spec PyProof.Rows PySem.SeqAt
section
variable {prog:Program} {w:World} {A:Around} {E:Value→Shared→Prop} {s:Shared}
end
end L2
namespace L2
open PySem PySem.Spec PyProof.Rows PySem.SeqAt
end L2
namespace L2
open PySem PySem.Spec PyProof.Rows PySem.SeqAt
variable {X:Cx}
end L2
namespace L2
open PySem PySem.Spec PyProof.Rows PySem.W PyProof.V
section
variable {X:Cx} {pins:List (Addr×Obj)} {σ:St} {H:Hp} {s:Shared} {a:Addr} {D:List (Str×PyData)}
end
end L2
namespace L2
open PySem PySem.Spec PyProof.Rows PySem.SeqAt PySem.Builtin PySem.Builtin.Str
section
variable {X:Cx}
end
end L2
namespace L2
open PySem PySem.Spec PyProof.Rows PySem.SeqAt
section
variable {X:Cx}
end
end L2
namespace L2
open PySem PySem.Spec PyProof.Rows PySem.SeqAt
section
variable {X:Cx}
end
end L2
namespace L2
open PySem PySem.Spec PyProof.Rows PySem.SeqAt PySem.Builtin PySem.Builtin.Str
section
variable {X:Cx}
end
section
variable {X:Cx}
end
section
variable {X:Cx}
end
end L2
namespace L2
open PySem PySem.Spec PyProof.Rows PySem.SeqAt PySem.Builtin PySem.Builtin.Str
section
variable {X:Cx}
end
end L2
namespace L2
open PySem PySem.Spec PyProof.Rows PySem.SeqAt
section
variable {X:Cx}
end
end L2
namespace L2
open PySem PySem.Spec PyProof.Rows PySem.SeqAt
section
variable {X:Cx} {pins:List (Addr×Obj)} {σ:St} {H:Hp} {s:Shared} {h':Heap}
theorem drawsI {prog:Program} {w:World} {A:Around} (hh:A.handled=none) (it l:Addr) (hne:l≠it) (items:Array Value) (i0:Nat) (h0:items.size≤i0):Draws prog w A it [it,l] 0 (fun i v=>False) (fun i h=>h.IsListIter it l i0∧h.IsList l items) where
  live:=fun _ _ st=>let ⟨o,ho,_⟩:=st.1;⟨o,ho⟩
  frame:=fun _ _ _ st hk=>⟨st.1.at fun o e=>hk it (by simp) o e,st.2.at fun o e=>hk l (by simp) o e⟩
  item:=fun i s Q E hi=>absurd hi (Nat.not_lt_zero _)
  done:=fun s Q E st hE=>wpAny_nextOf_list_end hh st.1 st.2 (by simp [h0]) hE
def IteL (K:PySem.W.Frag) (a:Addr):It:=
  ⟨fun i H=>∃ xs x,SqL K H a xs∧xs[i]?=some x,fun i H v H'=>∃ p x,H p=none∧v=.ref p∧(∀ xs,SqL K H a xs→xs[i]?=some x)∧H'=upd H p (.tup [.int i,x]),fun i H=>∃ xs,SqL K H a xs∧xs.length≤i⟩
theorem turn_enumL {P:Program} {w:World} {K:PySem.W.Frag} {elts:List Expr} {k1} {pos:Pos} (a e it:Addr) (hei:e≠it):Turn P w K (.Tuple elts k1 pos) (IteL K a) [e,it] e (fun i h=>(∃ old,IsEnum h e it i old)∧h.IsListIter it a i) where
  mem:=by simp
  obj:=fun i h st b hb=>by
    obtain ⟨⟨old,h1⟩,o,h2,_,h3⟩:=st
    rcases List.mem_cons.mp hb with rfl|hb
    · exact ⟨_,h1,fun v z=>by cases (show Data.fields _=Data.cell v from z)⟩
    · cases List.mem_singleton.mp hb
      exact ⟨o,h2,fun v z=>by rw [h3] at z;cases z⟩
  keep:=fun i h h' st k=>⟨let ⟨old,h1⟩:=st.1;⟨old,k e (by simp) _ h1⟩,st.2.at fun o z=>k it (by simp) o z⟩
  item:=by
    intro X hP hw hK hc i pins s σ H E I hf st hg
    subst hP hw hK
    obtain ⟨xs,x,hq,hx⟩:=hg
    obtain ⟨its,rv,p,hz⟩:=I.list hq
    obtain ⟨u,hu,ru⟩:=rv.get hx
    obtain ⟨⟨old,he⟩,ht⟩:=st
    have hit:s.heap.IsList a its.toArray:=p.isList
    have han:a≠it:=by
      rintro rfl
      obtain ⟨o1,h1,h2,_⟩:=id hit
      obtain ⟨o2,h3,h4,_⟩:=id ht
      rw [h1] at h3;cases h3
      rw [h2] at h4;exact absurd (Value.type.inj h4) (by decide)
    have hae:a≠e:=by
      rintro rfl
      obtain ⟨o1,h1,h2,_⟩:=id hit
      rw [he] at h1;cases h1
      exact absurd (Value.type.inj h2) (by decide)
    have D:=Draws.list (prog:=X.prog) (w:=X.w) (A:=X.A.in1) (I.ok.hd hc) it a han its.toArray
    have hlt:i<its.toArray.size:=by
      have:=(List.getElem?_eq_some_iff.mp hx).1
      have hl:=rv.length
      rw [List.size_toArray];omega
    refine wpAny_pyNext_enum_itemD D he ⟨ht,hit⟩ hlt hei (by simp [hei,Ne.symm hae]) fun y g tk hy ho hst' htup hsz hk=>?_
    have e1:y=u:=by
      have:its.toArray[i]?=some u:=by simpa using hu
      rw [this] at hy;exact (Option.some.inj hy).symm
    subst e1
    refine ⟨_,rfl,?_⟩
    have helt:e<s.heap.objs.size:=Heap.lt_size he
    have hilt:it<s.heap.objs.size:=let ⟨o,z,_⟩:=ht;Heap.lt_size z
    have I1:Inv X pins σ (upd H s.heap.objs.size (.tup [.int i,x])) { s with heap:=g,toks:=tk+1 }:=by
      refine I.turnLaid (fp:=[e,it]) (fun b o hb z=>hk b o (fun q=>hb (by simp [q])) (fun q=>hb (by simp [q])) z) (fun b hb=>?_) hf (Nat.le_refl _) ?_
      · rcases List.mem_cons.mp hb with rfl|hb
        · exact ⟨_,ho⟩
        · cases List.mem_singleton.mp hb
          exact let ⟨o,z,_⟩:=hst'.1;⟨o,z⟩
      · exact ⟨by show 2≤sizeLine;decide,[.int i tk,y],.cons ⟨_,rfl⟩ (.cons ru .nil),⟨_,htup,rfl,_,rfl⟩⟩
    have hno:∀ b∈[e,it],(upd H s.heap.objs.size (.tup [.int i,x])) b=none:=fun b hb=>by
      have hbl:b<s.heap.objs.size:=by
        rcases List.mem_cons.mp hb with rfl|hb
        · exact helt
        · cases List.mem_singleton.mp hb;exact hilt
      rw [upd_ne (Nat.ne_of_lt hbl)]
      exact (hf b hb).1
    refine wpAny_letOwnedTupleGo_enum ho fun g2 he2 hs2=>?_
    obtain ⟨f0,f1,f2,f3,f4,f5⟩:=hf e (by simp)
    refine ⟨.ref s.heap.objs.size,_,I1.turned (t':=tk+1) (fun b o hb z=>(hs2.2 b hb).trans z) (hno e (by simp)) f1 f3 f4 f5,rfl,⟨s.heap.objs.size,x,I.hok.fresh (Nat.le_refl _),rfl,fun ys hy=>by rw [I.list_inj hy hq];exact hx,rfl⟩,⟨⟨_,by simpa using he2⟩,?_⟩,hno⟩
    exact hst'.1.at fun o z=>(hs2.2 it (Ne.symm hei)).trans z
  done:=by
    intro X hP hw hK hc i pins s σ H E I hf st hg
    subst hP hw hK
    obtain ⟨xs,hq,hx⟩:=hg
    obtain ⟨its,rv,p,hz⟩:=I.list hq
    obtain ⟨⟨old,he⟩,ht⟩:=st
    obtain ⟨f0,f1,f2,f3,f4,f5⟩:=hf it (by simp)
    have hl:=rv.length
    have hit:s.heap.IsList a its.toArray:=p.isList
    have han:a≠it:=by
      rintro rfl
      obtain ⟨o1,h1,h2,_⟩:=id hit
      obtain ⟨o2,h3,h4,_⟩:=id ht
      rw [h1] at h3;cases h3
      rw [h2] at h4;exact absurd (Value.type.inj h4) (by decide)
    have D:=drawsI (prog:=X.prog) (w:=X.w) (A:=X.A.in1) (I.ok.hd hc) it a han its.toArray i (by rw [List.size_toArray];omega)
    exact wpAny_pyNext_enum_endD D he ⟨ht,hit⟩ fun h' ex=>⟨rfl,I.turned (t':=s.toks) (fun b o hb e=>ex b o hb e) f0 f1 f3 f4 f5⟩
  self:=fun _ _ _ _ _ st h=>let ⟨_,he⟩:=st.1;wpAny_pyIter_enum he h
def iEnumL (K:PySem.W.Frag) (ta:TA):TI:=fun σ H R=>ta σ H fun vs H1=>∃ a,vs=[.ref a]∧(∃ xs,SqL K H1 a xs)∧R (IteL K a) H1
theorem pi_enumL {elts:List Expr} {k1} {pt:Pos} {a:Expr} {ta:TA} {p pos:Pos} (hg:Gl X "enumerate") (hm:X.mg "enumerate" = none) (hv:bootBuiltins "enumerate" = some (.type "enumerate")) (ha:PA X [a] ta) (hs:starEach [a] X.env=[(false,eval a X.env)]:=by rfl):PI X (.Tuple elts k1 pt) (.Call (.Name "enumerate" p) [a] [] pos) (iEnumL X.K ta):=by
  intro pins s σ H R I h
  refine Call_ (ld_blt I hg hm hv (PyProof.Rows.callWith_type1 (thn (ha pos pins s σ H _ I h) fun us s1 ⟨vs,H1,I1,r1,q1⟩=>?_) hs rfl))
  obtain ⟨l,rfl,⟨xs,hq⟩,q⟩:=q1
  obtain ⟨u,rfl,e⟩:=vals1 r1
  cases (show u=Value.ref l from e)
  obtain ⟨its,rv,hp,hz⟩:=I1.list hq
  refine call_enumerate_list hp.isList fun g he hi _ hk=>wpAny_pyIter_enum he ?_
  refine ⟨s1.heap.objs.size+1,[s1.heap.objs.size+1,s1.heap.objs.size],_,_,H1,rfl,I1.kept (t':=s1.toks) hk,turn_enumL l _ s1.heap.objs.size (Nat.succ_ne_self _),⟨⟨_,he⟩,hi⟩,fun b hb=>?_,q⟩
  rcases List.mem_cons.mp hb with rfl|hb
  · exact I1.fpOk (Nat.le_succ _) (I1.hok.fresh (Nat.le_succ _))
  · cases List.mem_singleton.mp hb
    exact I1.fpOk (Nat.le_refl _) (I1.hok.fresh (Nat.le_refl _))
theorem for_enumL {K:PySem.W.Frag} {a:Addr} {xs:List V} {g:TG} {tb:TS} {D:Ends} {σ:St} {H:Hp} (Pv:Nat→St→Hp→Prop) (h0:Pv 0 σ H) (hl:∀ i σ H,i≤xs.length→Pv i σ H→SqL K H a xs)
    (hs:∀ i x σ H p,xs[i]?=some x→Pv i σ H→H p=none→g (.ref p) σ (upd H p (.tup [.int i,x])) fun σ2 H2=>tb { D with nx:=Pv (i+1),ct:=Pv (i+1),bk:=D.nx } σ2 H2)
    (hd:∀ σ H,Pv xs.length σ H→D.nx σ H) :
    ∃ W:Nat→Nat→St→Hp→Prop,(∃ m,W 0 m σ H)∧∀ i m σ H,W i m σ H→((IteL K a).stop i H∧D.nx σ H)∨((IteL K a).go i H∧∃ N:St→Hp→Prop,(∀ σ' H',N σ' H'→∃ m',m'<m∧W (i+1) m' σ' H')∧∀ x H',(IteL K a).yld i H x H'→g x σ H' fun σ2 H2=>tb { D with nx:=N,ct:=N,bk:=D.nx } σ2 H2):=by
  refine ⟨fun i m σ H=>m=xs.length-i∧i≤xs.length∧Pv i σ H,⟨xs.length,by simp,Nat.zero_le _,h0⟩,?_⟩
  rintro i m σ H ⟨rfl,hi,p⟩
  have q:=hl i σ H hi p
  by_cases hlt:i<xs.length
  · refine .inr ⟨⟨xs,xs[i],q,by simp [hlt]⟩,Pv (i+1),fun σ' H' z=>⟨xs.length-(i+1),by omega,rfl,hlt,z⟩,?_⟩
    rintro x H' ⟨p',y,hn,rfl,hy,rfl⟩
    exact hs i y σ H p' (hy xs q) p hn
  · have e:i=xs.length:=by omega
    subst e
    exact .inl ⟨⟨xs,q,Nat.le_refl _⟩,hd σ H p⟩
end
end L2
namespace L2
open PySem PySem.Spec PyProof.Rows PySem.SeqAt PySem.Builtin PySem.Builtin.Str
section
variable {X:Cx}
end
section
variable {prog:Program} {w:World} {A:Around} {E:Value→Shared→Prop} {s:Shared} {l:Addr}
end
section
variable {X:Cx} {pos:Pos}
end
end L2
namespace L2
open PySem PySem.Spec PyProof.Rows PySem.SeqAt PySem.Builtin
variable {X:Cx} {pos:Pos}
def tPar3 (i j l:Nat) (ta:TA):TS:=fun D σ H=>ta σ H fun vs H1=>∃ v w u,vs=[v,w,u]∧D.nx (((σ.set l (some u)).set j (some w)).set i (some v)) H1
theorem ps_par3 {i j l:Nat} {x y z:Str} {a b c:Expr} {ta:TA} {px py pz pt:Pos} {kt k2 pt2} (hc:X.calm=true) (hN:X.N.Nodup) (hi:X.N[i]?=some x) (hj:X.N[j]?=some y) (hl:X.N[l]?=some z)
    (hx:X.env.scope.names.lookup x=some .local) (hy:X.env.scope.names.lookup y=some .local) (hz:X.env.scope.names.lookup z=some .local) (ha:PA X [a,b,c] ta)
    (hw:swappedStores [.Tuple [.Name x px,.Name y py,.Name z pz] kt pt] (.Tuple [a,b,c] k2 pt2) X.env=pure (some [x,y,z]))
    (hs:swapsWithSole [.Tuple [.Name x px,.Name y py,.Name z pz] kt pt] (.Tuple [a,b,c] k2 pt2) pos.line X.env=pure false:=by rfl) :
    PS X (.Assign [.Tuple [.Name x px,.Name y py,.Name z pz] kt pt] (.Tuple [a,b,c] k2 pt2) pos) (tPar3 i j l ta):=by
  intro pins s σ H D I h
  rw [exec_Assign_arm]
  refine wpAny_bind (wpAny_standAt ?_)
  rw [hs]
  refine wpAny_bind (wpAny_pure ?_)
  rw [if_neg (by decide)]
  refine wpAny_bind (Tuple_ (thn (ha _ pins s σ H _ I h) fun us s1 ⟨vs,H1,I1,r1,q1⟩=>?_))
  obtain ⟨v,w,u,e1,q1⟩:=q1
  subst e1
  obtain ⟨u1,u2,u3,rfl,rv,rw',ru⟩:∃ u1 u2 u3,us=[u1,u2,u3]∧RelV v u1∧RelV w u2∧RelV u u3:=by
    cases r1 with
    | cons p q=>
      cases q with
      | cons p' q'=>
        cases q' with
        | cons p'' q''=>
          cases q''
          exact ⟨_,_,_,rfl,p,p',p''⟩
  refine wpAny_newObj_type ?_ (by show 3≤sizeLine;decide)
  have I2:Inv X pins σ H1 { s1 with heap:=s1.heap.push { cls:=.type "tuple",data:=.seq [u1,u2,u3].toArray } }:=I1.kept (t':=s1.toks) fun b o e=>Heap.get?_push_of_some _ e
  rw [hw]
  refine wpAny_bind (wpAny_pure ?_)
  show wpAny (model X.prog X.w) X.A (do rule "assign.swapped-stores";let items ← unpackItems (.ref s1.heap.objs.size) 3 none;assignInOrder [fun v=>bindName X.env z v,fun v=>bindName X.env y v,fun v=>bindName X.env x v] items.reverse;pure Flow.next) _ _ _
  refine wpAny_bind (wpAny_rule (wpAny_bind (unpackItems_tuple (items:=#[u1,u2,u3]) (I.ok.hd hc) (IsTup.new s1.heap _) fun h' hx'=>?_)))
  have I3:=I2.kept (h':=h') (t':=s1.toks) fun b o e=>hx' b o (Nat.ne_of_lt (Heap.lt_size e)) e
  show wpAny _ _ (assignInOrder [fun v=>bindName X.env z v,fun v=>bindName X.env y v,fun v=>bindName X.env x v] [u3,u2,u1] >>= fun _=>pure Flow.next) _ _ _
  refine wpAny_bind (assignInOrder_cons (wpAny_bindName (store_ok I3 hN hl (.inl hz) ru (fun s2 I4=>?_) (.inr hz))))
  refine assignInOrder_cons (wpAny_bindName (store_ok I4 hN hj (.inl hy) rw' (fun s3 I5=>?_) (.inr hy)))
  refine assignInOrder_cons (wpAny_bindName (store_ok I5 hN hi (.inl hx) rv (fun s4 I6=>assignInOrder_nil (wpAny_pure ?_)) (.inr hx)))
  exact ⟨_,H1,I6,q1⟩
end L2
namespace L2
open PySem PySem.Spec PyProof.Rows PySem.SeqAt PySem.W Builtin.ObjectAttr
end L2
namespace L2
open PySem PySem.Spec PyProof.Rows PySem.SeqAt PySem.W
variable {X:Cx}
end L2
namespace L2
open PySem PySem.Spec PyProof.Rows
def CTurnS (J:It) (g:TG) (tt:TT) (te:TE) (F:List V→St→Hp→Prop) (W:Nat→Nat→List V→St→Hp→Prop):Prop:=
  ∀ i m ys σ H,W i m ys σ H→(J.stop i H∧F ys σ H)∨(J.go i H∧ys.length<sizeLine∧∀ x H1,J.yld i H x H1→g x σ H1 fun σ2 H2=>tt σ2 H2 fun b H3=>
    if b=true then te σ2 H3 fun y H4=>∃ m',m'<m∧W (i+1) m' (ys++[y]) σ2 H4 else ∃ m',m'<m∧W (i+1) m' ys σ2 H3)
def CTurn2 (J:It) (g:TG) (tt:TT) (wi2:TI) (g2:TG) (tt2:TT) (te:TE) (F:List V→Hp→Prop) (W:Nat→Nat→List V→St→Hp→Prop):Prop:=
  ∀ i m ys σ H,W i m ys σ H→(J.stop i H∧F ys H)∨(J.go i H∧∀ x H1,J.yld i H x H1→g x σ H1 fun σ2 H2=>tt σ2 H2 fun b H3=>
    if b=true then wi2 σ2 H3 fun J2 H4=>∃ W2:Nat→Nat→List V→St→Hp→Prop,(∃ m2,W2 0 m2 ys σ2 H4)∧CTurnS J2 g2 tt2 te (fun ys' σ' H'=>∃ m',m'<m∧W (i+1) m' ys' σ' H') W2
    else ∃ m',m'<m∧W (i+1) m' ys σ2 H3)
theorem compTurn_in (elt:Expr) (g0:Comprehension) (target iter:Expr) (ifs:List Expr) (scope:Scope) (pos:Pos) (it acc:Value) (env:Env) :
    compTurn (.ListComp elt [g0,⟨target,iter,ifs,0⟩] scope pos) 1 it acc env=(do
      standAt iter.pos
      match ← pyNext it with
      |none=>pure (.done .next)
      | some v=>
        letOwnedTupleGo target it v
        assign target env v
        let mut ok:=true
        for c in ifs do
          if ok then ok ← isTrue c env (eval c env)
        if ok then
          (do let _ ← call (.builtin "list.append") [acc,← eval elt env])
        again (.compLoop (.ListComp elt [g0,⟨target,iter,ifs,0⟩] scope pos) 1 it acc env)):=by rfl
theorem compTurn_out (elt target iter:Expr) (ifs:List Expr) (target2 iter2:Expr) (ifs2:List Expr) (scope:Scope) (pos:Pos) (it acc:Value) (env:Env) :
    compTurn (.ListComp elt [⟨target,iter,ifs,0⟩,⟨target2,iter2,ifs2,0⟩] scope pos) 0 it acc env=(do
      standAt iter.pos
      match ← pyNext it with
      |none=>pure (.done .next)
      | some v=>
        letOwnedTupleGo target it v
        assign target env v
        let mut ok:=true
        for c in ifs do
          if ok then ok ← isTrue c env (eval c env)
        if ok then
          let x ← eval iter2 env
          standAt iter2.pos
          let x ← foldedSetIterable iter2 env x
          let _ ← runOwn (.compStart (.ListComp elt [⟨target,iter,ifs,0⟩,⟨target2,iter2,ifs2,0⟩] scope pos) 1 (← holding [x] (pyIter x)) acc env) env
        again (.compLoop (.ListComp elt [⟨target,iter,ifs,0⟩,⟨target2,iter2,ifs2,0⟩] scope pos) 0 it acc env)):=by rfl
theorem codeAny_compStart_in {prog:Program} {w:World} {A:Around} {R:Result→Shared→Prop} {s:Shared} {elt g0 target iter ifs scope pos it acc env}
    (h0:codeAny (model prog w) A (.compLoop (.ListComp elt [g0,⟨target,iter,ifs,0⟩] scope pos) 1 it acc env) R s)
    (h:wpAny (model prog w) A (pyIter it) (fun it' s'=>codeAny (model prog w) A (.compLoop (.ListComp elt [g0,⟨target,iter,ifs,0⟩] scope pos) 1 it' acc env) R s')
      (notedBy (model prog w) A env fun x s'=>R (.error x) s') s) :
    codeAny (model prog w) A (.compStart (.ListComp elt [g0,⟨target,iter,ifs,0⟩] scope pos) 1 it acc env) R s:=by
  refine codeAny_of_tree ?_
  show wpAny _ _ ((compStart (.ListComp elt [g0,⟨target,iter,ifs,0⟩] scope pos) 1 it acc env).onRaise (fun x=>do noteFrame x env;standAt theWindowsPlace)) _ _ s
  refine wpAny_notedAt ?_
  unfold compStart
  show wpAny _ _ (ask >>= _) _ _ s
  refine wpAny_bind (wpAny_askSetting (wpAny_ite ?_))
  split
  · first
      |exact wpAny_bind (wpAny_pure (wpAny_pure (And.intro rfl h0)))
      |exact wpAny_pure (And.intro rfl h0)
  · first
      |exact wpAny_bind (wpAny_rule (wpAny_bind (wpAny_standAt (wpAny_bind (wpAny_mono h (fun it' s' h'=>wpAny_pure (And.intro rfl h')) fun _ _ x=>x)))))
      |(refine wpAny_bind (wpAny_rule ?_);show wpAny _ _ (standAt iter.pos >>= _) _ _ s;exact wpAny_bind (wpAny_standAt (wpAny_bind (wpAny_mono h (fun it' s' h'=>wpAny_pure (And.intro rfl h')) fun _ _ x=>x))))
theorem comp_inner {Y:Cx} {ps:List (Addr×Obj)} {acc it:Addr} {fp:List Addr} {tn:Nat→Heap→Prop} {J:It} {g:TG} {tt:TT} {te:TE} {F:List V→St→Hp→Prop}
    {elt tg iter:Expr} {g0:Comprehension} {ifs:List Expr} {scope:Scope} {pos:Pos} {R:Result→Shared→Prop} (W:Nat→Nat→List V→St→Hp→Prop) (turn:CTurnS J g tt te F W) (T:Turn Y.prog Y.w Y.K tg J fp it tn)
    (hg:PG Y tg g) (hc:PIfs Y ifs tt) (he:PE Y elt te) (hcalm:Y.calm=true) (hx:∀ v s,¬ Y.xe v s)
    (hfp:∀ b∈fp,b≠Y.env.locals∧b∉Y.fs∧(b∈Y.ex∨Y.s₀.heap.objs.size≤b)∧(∀ x c,Y.env.cells.lookup x=some c→c≠b)∧(∀ p∈Y.pn++ps,p.1≠b)∧b≠acc)
    (hacc:acc≠Y.env.locals∧acc∉Y.fs∧(acc∈Y.ex∨Y.s₀.heap.objs.size≤acc)∧(∀ x c,Y.env.cells.lookup x=some c→c≠acc)∧∀ p∈Y.pn++ps,p.1≠acc)
    (hR:∀ s' σ' H' ys us k,Inv Y ((acc,accObj us k)::ps) σ' H' s'→Vals ys us→F ys σ' H'→R (.ok .next) s')
    {s:Shared} {σ:St} {H:Hp} {m:Nat} {ys0:List V} {us0:List Value} {k0:Nat} (rv0:Vals ys0 us0) (I:Inv Y ((acc,accObj us0 k0)::ps) σ H s) (st:tn 0 s.heap) (fr:∀ b∈fp,H b=none) (w0:W 0 m ys0 σ H) :
    codeAny (model Y.prog Y.w) Y.A (.compLoop (.ListComp elt [g0,⟨tg,iter,ifs,0⟩] scope pos) 1 (.ref it) (.ref acc) Y.env) R s:=by
  refine codeAny_loop rfl (fun n s'=>∃ i ys us k σ' H',Vals ys us∧Inv Y ((acc,accObj us k)::ps) σ' H' s'∧tn i s'.heap∧(∀ b∈fp,H' b=none)∧W i n ys σ' H') (fun n s3 hI=>?_) m ⟨0,ys0,us0,k0,σ,H,rv0,I,st,fr,w0⟩
  obtain ⟨i,ys,us,k,σ3,H3,rv,I3,st3,fr3,w3⟩:=hI
  show wpAny _ Y.A ((compTurn (.ListComp elt [g0,⟨tg,iter,ifs,0⟩] scope pos) 1 (.ref it) (.ref acc) Y.env).onRaise (fun x=>do noteFrame x Y.env;theTreesLotGoes x)) _ _ s3
  refine wpAny_noted ?_
  rw [compTurn_in]
  have fpk:∀ {H':Hp},(∀ b∈fp,H' b=none)→∀ b∈fp,FpOk Y ((acc,accObj us k)::ps) H' b:=fun hn b hb=>
    ⟨hn b hb,(hfp b hb).1,(hfp b hb).2.1,(hfp b hb).2.2.1,(hfp b hb).2.2.2.1,fun p hp'=>by
      rcases List.mem_append.mp hp' with z|z
      · exact (hfp b hb).2.2.2.2.1 p (List.mem_append_left _ z)
      · rcases List.mem_cons.mp z with rfl|z
        · exact Ne.symm (hfp b hb).2.2.2.2.2
        · exact (hfp b hb).2.2.2.2.1 p (List.mem_append_right _ z)⟩
  have fp1:=fpk fr3
  refine wpAny_bind (wpAny_standAt (wpAny_bind ?_))
  rcases turn i n ys σ3 H3 w3 with ⟨stop,qn⟩|⟨go,hz,step⟩
  · refine wpAny_mono (T.done Y rfl rfl rfl hcalm i _ s3 σ3 H3 (fun _ _=>False) I3 fp1 st3 stop) (fun r s4 ⟨hr,I4⟩=>?_) (fun _ _ z=>z.elim)
    subst hr
    exact wpAny_pure (hR s4 σ3 H3 ys us k I4 rv qn)
  · refine wpAny_mono (T.item Y rfl rfl rfl hcalm i _ s3 σ3 H3 (fun _ _=>False) I3 fp1 st3 go) (fun r s4 ⟨u,hr,h4⟩=>?_) (fun _ _ z=>z.elim)
    subst hr
    refine wpAny_bind (wpAny_mono h4 (fun _ s5 ⟨x,H5,I5,r5,y5,st5,fr5⟩=>?_) (fun _ _ z=>z.elim))
    have fp5:=fpk fr5
    have I5':=I5.pinned fp5 (T.obj _ _ st5)
    refine wpAny_bind (wpAny_mono (hg _ s5 σ3 H5 x u _ I5' r5 (step x H5 y5)) (fun _ s6 ⟨σ6,H6,I6,q6⟩=>?_) (fun v s z=>(hx v s z).elim))
    refine wpAny_bind (wpAny_mono (hc _ s6 σ6 H6 _ I6 q6) (fun ok s7 ⟨H7,I7,q7⟩=>?_) (fun v s z=>(hx v s z).elim))
    have again:∀ {s8:Shared} {σ8:St} {H8:Hp},Inv Y (((acc,accObj us k)::ps)++pinsAt fp s5.heap) σ8 H8 s8→tn (i+1) s8.heap∧∀ b∈fp,H8 b=none:=fun {s8 σ8 H8} I8=>
      ⟨T.keep _ _ _ st5 fun b hb o e=>(I8.pin (b,o) (List.mem_append_right _ (List.mem_append_right _ (mem_pinsAt hb e)))).1,fun b hb=>by
        obtain ⟨o,e,d⟩:=T.obj _ _ st5 b hb
        exact (I8.pin (b,o) (List.mem_append_right _ (List.mem_append_right _ (mem_pinsAt hb e)))).2.1⟩
    cases ok with
    | false=>
      rw [if_neg Bool.false_ne_true] at q7
      obtain ⟨m',hm,w7⟩:=q7
      obtain ⟨t1,t2⟩:=again I7
      exact wpAny_pure ⟨rfl,m',hm,i+1,ys,us,k,σ6,H7,rv,I7.unpinned,t1,t2,w7⟩
    | true=>
      rw [if_pos rfl] at q7
      refine wpAny_bind (wpAny_bind (wpAny_mono (he _ s7 σ6 H7 _ I7 q7) (fun y s8 ⟨yv,H8,I8,r8,m',hm,w8⟩=>?_) (fun v s z=>(hx v s z).elim)))
      obtain ⟨t1,t2⟩:=again I8
      obtain ⟨e8,n8,l8,f8,d8⟩:=I8.pin (acc,accObj us k) (List.mem_append_right _ (List.mem_append_left _ List.mem_cons_self))
      have hlen:=rv.length
      have hz':us.toArray.size≤sizeLine:=by rw [List.size_toArray];omega
      refine wpAny_bind (call_meets PySem.F.slot_list_append ⟨_,e8,rfl⟩ PySem.F.entry_list_append (PySem.F.args_list_append_2 _ _) (PySem.list_append acc us.toArray k y hz') ⟨e8,?_⟩)
      have q:=PySem.IsL.update e8 (fun z=>z.push y)
      have I9:Inv Y ps σ6 H8 s8:=I8.pins_of fun p hp=>I8.pin p (List.mem_append_right _ (List.mem_append_left _ (List.mem_cons_of_mem _ hp)))
      have I10:=I9.turned (t':=s8.toks) (it:=acc) (h':=s8.heap.update acc (Obj.mapSeq fun z=>z.push y)) (fun b o hb e=>(Heap.get?_update_other s8.heap _ (Ne.symm hb)).trans e) n8 hacc.1 hacc.2.2.1 hacc.2.2.2.1 hacc.2.2.2.2
      have e':(us.toArray.push y)=(us++[y]).toArray:=by simp
      rw [e'] at q
      obtain ⟨k9,ek⟩:∃ k9,k9=(if ((us++[y]).toArray.size == us.toArray.size)=true then k else k+1):=⟨_,rfl⟩
      rw [← ek] at q
      have I11:=I10.pins_of (pins':=(acc,accObj (us++[y]) k9)::ps) fun p hp=>by
        rcases List.mem_cons.mp hp with rfl|hp
        · exact ⟨q,n8,hacc.1,hacc.2.1,fun v z=>by cases z⟩
        · exact I10.pin p (List.mem_append_right _ hp)
      refine wpAny_pure (wpAny_pure ⟨rfl,m',hm,i+1,ys++[yv],us++[y],k9,σ6,H8,rv.append (.cons r8 .nil),I11,T.keep _ _ _ t1 fun b hb o e=>?_,t2,w8⟩)
      exact (Heap.get?_update_other s8.heap _ (hfp b hb).2.2.2.2.2.symm).trans e
theorem comp_loop2 {X:Cx} {scope:Scope} {N':List Str} {cl:List (Str×Addr)} {C acc it:Addr} {s₂:Shared} {H₂:Hp} {fp:List Addr} {tn:Nat→Heap→Prop} {J:It} {g g2:TG} {tt tt2:TT} {wi2:TI} {te:TE} {F:List V→Hp→Prop}
    {elt tg iter tg2 iter2:Expr} {ifs ifs2:List Expr} {pos:Pos} {R:Result→Shared→Prop} (W:Nat→Nat→List V→St→Hp→Prop) (turn:CTurn2 J g tt wi2 g2 tt2 te F W) (T:Turn X.prog X.w X.K tg J fp it tn)
    (hg:PG (cxComp X scope N' cl C s₂ H₂ fp) tg g) (hc:PIfs (cxComp X scope N' cl C s₂ H₂ fp) ifs tt) (hi2:PI (cxComp X scope N' cl C s₂ H₂ fp) tg2 iter2 wi2) (hs2:∀ x,foldedSetIterable iter2 (compEnvC scope cl C X.env) x=pure x) (hg2:PG (cxComp X scope N' cl C s₂ H₂ fp) tg2 g2) (hc2:PIfs (cxComp X scope N' cl C s₂ H₂ fp) ifs2 tt2) (he:PE (cxComp X scope N' cl C s₂ H₂ fp) elt te) (hcalm:X.calm=true)
    (hfp:∀ b∈fp,b≠C∧b∉frs X.stack∧(∀ x c,cl.lookup x=some c→c≠b)∧b≠acc) (hacc:acc≠C∧acc∉frs X.stack∧(∀ x c,cl.lookup x=some c→c≠acc)∧s₂.heap.objs.size≤acc)
    (hR:∀ s' σ' H' ys us k,Inv (cxComp X scope N' cl C s₂ H₂ fp) [(acc,accObj us k)] σ' H' s'→Vals ys us→F ys H'→R (.ok .next) s')
    {s:Shared} {σ:St} {H:Hp} {m:Nat} (I:Inv (cxComp X scope N' cl C s₂ H₂ fp) [(acc,accObj [] 0)] σ H s) (st:tn 0 s.heap) (fr:∀ b∈fp,H b=none) (w0:W 0 m [] σ H) :
    codeAny (model X.prog X.w) X.A (.compLoop (.ListComp elt [⟨tg,iter,ifs,0⟩,⟨tg2,iter2,ifs2,0⟩] scope pos) 0 (.ref it) (.ref acc) (compEnvC scope cl C X.env)) R s:=by
  refine codeAny_loop rfl (fun n s'=>∃ i ys us k σ' H',Vals ys us∧Inv (cxComp X scope N' cl C s₂ H₂ fp) [(acc,accObj us k)] σ' H' s'∧tn i s'.heap∧(∀ b∈fp,H' b=none)∧W i n ys σ' H') (fun n s3 hI=>?_) m ⟨0,[],[],0,σ,H,.nil,I,st,fr,w0⟩
  obtain ⟨i,ys,us,k,σ3,H3,rv,I3,st3,fr3,w3⟩:=hI
  show wpAny _ X.A ((compTurn (.ListComp elt [⟨tg,iter,ifs,0⟩,⟨tg2,iter2,ifs2,0⟩] scope pos) 0 (.ref it) (.ref acc) (compEnvC scope cl C X.env)).onRaise (fun x=>do noteFrame x (compEnvC scope cl C X.env);theTreesLotGoes x)) _ _ s3
  refine wpAny_noted ?_
  rw [compTurn_out]
  have fpk:∀ {pins:List (Addr×Obj)} {H':Hp},(∀ p∈pins,p.1=acc∨p.1∈([]:List Addr))→(∀ b∈fp,H' b=none)→∀ b∈fp,FpOk (cxComp X scope N' cl C s₂ H₂ fp) pins H' b:=fun hp hn b hb=>
    ⟨hn b hb,(hfp b hb).1,(hfp b hb).2.1,.inl hb,(hfp b hb).2.2.1,fun p hp'=>by
      have hp'':p∈([]:List (Addr×Obj))++_:=hp'
      rcases hp p (by simpa using hp'') with z|z
      · rw [z];exact Ne.symm (hfp b hb).2.2.2
      · exact (nomatch z)⟩
  have fp1:=fpk (pins:=[(acc,accObj us k)]) (fun p hp=>.inl (by simp at hp;rw [hp])) fr3
  refine wpAny_bind (wpAny_standAt (wpAny_bind ?_))
  rcases turn i n ys σ3 H3 w3 with ⟨stop,qn⟩|⟨go,step⟩
  · refine wpAny_mono (T.done (cxComp X scope N' cl C s₂ H₂ fp) rfl rfl rfl hcalm i _ s3 σ3 H3 (fun _ _=>False) I3 fp1 st3 stop) (fun r s4 ⟨hr,I4⟩=>?_) (fun _ _ z=>z.elim)
    subst hr
    exact wpAny_pure (hR s4 σ3 H3 ys us k I4 rv qn)
  · refine wpAny_mono (T.item (cxComp X scope N' cl C s₂ H₂ fp) rfl rfl rfl hcalm i _ s3 σ3 H3 (fun _ _=>False) I3 fp1 st3 go) (fun r s4 ⟨u,hr,h4⟩=>?_) (fun _ _ z=>z.elim)
    subst hr
    refine wpAny_bind (wpAny_mono h4 (fun _ s5 ⟨x,H5,I5,r5,y5,st5,fr5⟩=>?_) (fun _ _ z=>z.elim))
    have fp5:=fpk (pins:=[(acc,accObj us k)]) (fun p hp=>.inl (by simp at hp;rw [hp])) fr5
    have I5':=I5.pinned fp5 (T.obj _ _ st5)
    refine wpAny_bind (wpAny_mono (hg _ s5 σ3 H5 x u _ I5' r5 (step x H5 y5)) (fun _ s6 ⟨σ6,H6,I6,q6⟩=>?_) (fun _ _ z=>z.elim))
    refine wpAny_bind (wpAny_mono (hc _ s6 σ6 H6 _ I6 q6) (fun ok s7 ⟨H7,I7,q7⟩=>?_) (fun _ _ z=>z.elim))
    have again:∀ {s8:Shared} {σ8:St} {H8:Hp} {us8:List Value} {k8:Nat},Inv (cxComp X scope N' cl C s₂ H₂ fp) ((acc,accObj us8 k8)::pinsAt fp s5.heap) σ8 H8 s8→Inv (cxComp X scope N' cl C s₂ H₂ fp) [(acc,accObj us8 k8)] σ8 H8 s8∧tn (i+1) s8.heap∧∀ b∈fp,H8 b=none:=fun {s8 σ8 H8 us8 k8} I8=>
      ⟨Inv.unpinned (pins:=[(acc,accObj us8 k8)]) I8,T.keep _ _ _ st5 fun b hb o e=>(I8.pin (b,o) (List.mem_append_right _ (List.mem_cons_of_mem _ (mem_pinsAt hb e)))).1,fun b hb=>by
        obtain ⟨o,e,d⟩:=T.obj _ _ st5 b hb
        exact (I8.pin (b,o) (List.mem_append_right _ (List.mem_cons_of_mem _ (mem_pinsAt hb e)))).2.1⟩
    cases ok with
    | false=>
      rw [if_neg Bool.false_ne_true] at q7
      obtain ⟨m',hm,w7⟩:=q7
      obtain ⟨I7',t1,t2⟩:=again I7
      exact wpAny_pure ⟨rfl,m',hm,i+1,ys,us,k,σ6,H7,rv,I7',t1,t2,w7⟩
    | true=>
      rw [if_pos rfl] at q7
      refine wpAny_bind (wpAny_mono (hi2 _ s7 σ6 H7 _ I7 q7) (fun v s8 h8=>?_) (fun _ _ z=>z.elim))
      refine wpAny_bind (wpAny_standAt ?_)
      rw [hs2 v]
      refine wpAny_bind (wpAny_pure ?_)
      refine wpAny_bind (wpAny_holding (wpAny_mono h8 (fun itv s9 h9=>?_) (fun _ _ z=>z.elim)))
      obtain ⟨it2,fp2,tn2,J2,H9,e9,I9,T2,st9,f9,W2,⟨m2,w2⟩,turn2⟩:=h9
      subst e9
      have loop:∀ Q:Flow→Shared→Prop,(∀ s10,(∃ m',m'<n∧∃ i ys us k σ' H',Vals ys us∧Inv (cxComp X scope N' cl C s₂ H₂ fp) [(acc,accObj us k)] σ' H' s10∧tn i s10.heap∧(∀ b∈fp,H' b=none)∧W i m' ys σ' H')→Q .next s10)→
          codeAny (model X.prog X.w) X.A (.compLoop (.ListComp elt [⟨tg,iter,ifs,0⟩,⟨tg2,iter2,ifs2,0⟩] scope pos) 1 (.ref it2) (.ref acc) (compEnvC scope cl C X.env)) (fun r s'=>match r with|.ok f=>Q f s'|.error e=>cameBackBy (model X.prog X.w) X.A (compEnvC scope cl C X.env) (notedBy (model X.prog X.w) X.A (compEnvC scope cl C X.env) fun x s'=>R (.error x) s') e s') s9:=by
        intro Q hQ
        refine comp_inner (Y:=cxComp X scope N' cl C s₂ H₂ fp) (ps:=pinsAt fp s5.heap) W2 turn2 T2 hg2 hc2 he hcalm (fun _ _ z=>z) (fun b hb=>?_) ⟨hacc.1,hacc.2.1,.inr hacc.2.2.2,hacc.2.2.1,fun p hp z=>?_⟩ (fun s' σ' H' ys' us' k' I' rv' q'=>?_) rv I9 st9 (fun b hb=>(f9 b hb).1) w2
        · obtain ⟨_,a1,a2,a3,a4,a5⟩:=f9 b hb
          refine ⟨a1,a2,a3,a4,fun p hp=>?_,fun z=>?_⟩
          · rcases List.mem_append.mp hp with y|y
            · exact a5 p (List.mem_append_left _ y)
            · exact a5 p (List.mem_append_right _ (List.mem_cons_of_mem _ y))
          · exact a5 (acc,accObj us k) (List.mem_append_right _ List.mem_cons_self) z.symm
        · have hp':p∈([]:List (Addr×Obj))++pinsAt fp s5.heap:=hp
          rw [List.nil_append] at hp'
          obtain ⟨hb,_⟩:=of_pinsAt hp'
          exact (hfp _ hb).2.2.2 z
        · obtain ⟨m',hm,w'⟩:=q'
          obtain ⟨I8',t1,t2⟩:=again I'
          exact hQ s' ⟨m',hm,i+1,ys',us',k',σ',H',rv',I8',t1,t2,w'⟩
      refine wpAny_bind (wpAny_runOwn (codeAny_compStart_in (loop _ fun s10 q=>?_) (T2.self _ 0 _ _ _ st9 (loop _ fun s10 q=>?_))))
      · obtain ⟨m',hm,q⟩:=q
        exact wpAny_pure ⟨rfl,m',hm,q⟩
      · obtain ⟨m',hm,q⟩:=q
        exact wpAny_pure ⟨rfl,m',hm,q⟩
def tComp2 (wi:TI) (g:TG) (tt:TT) (wi2:TI) (g2:TG) (tt2:TT) (te:TE) (k:Nat) (js:List Nat):TE:=fun σ H Q=>wi σ H fun J H1=>∃ W:Nat→Nat→List V→St→Hp→Prop,(∃ m,W 0 m [] (compSt k js σ) H1)∧
  CTurn2 J g tt wi2 g2 tt2 te (fun ys H2=>ys.length≤sizeLine∧∀ p,H2 p=none→Q (.ref p) (upd H2 p (.lst ys))) W
section
variable {X:Cx} {scope:Scope} {own:List Str} {js:List Nat} {N':List Str} {wi wi2:TI} {g g2:TG} {tt tt2:TT} {te:TE} {elt tg iter tg2 iter2:Expr} {ifs ifs2:List Expr} {pos:Pos}
theorem comp_run2 {pins:List (Addr×Obj)} {σ:St} {H:Hp} {s:Shared} {it:Addr} {fp:List Addr} {tn:Nat→Heap→Prop} {J:It} {cl:List (Str×Addr)} {F:List V→Hp→Prop} {E:Value→Shared→Prop} {RR:Value→Addr→Result→Shared→Prop}
    (S:CompScope X scope own js N') (hcalm:X.calm=true) (hg:∀ cl C s₀ H₀ ex,PG (cxComp X scope N' cl C s₀ H₀ ex) tg g) (hc:∀ cl C s₀ H₀ ex,PIfs (cxComp X scope N' cl C s₀ H₀ ex) ifs tt) (hi2:∀ cl C s₀ H₀ ex,PI (cxComp X scope N' cl C s₀ H₀ ex) tg2 iter2 wi2) (hs2:∀ env x,foldedSetIterable iter2 env x=pure x) (hg2:∀ cl C s₀ H₀ ex,PG (cxComp X scope N' cl C s₀ H₀ ex) tg2 g2) (hc2':∀ cl C s₀ H₀ ex,PIfs (cxComp X scope N' cl C s₀ H₀ ex) ifs2 tt2) (he:∀ cl C s₀ H₀ ex,PE (cxComp X scope N' cl C s₀ H₀ ex) elt te)
    (hc1:∀ x c,cl.lookup x=some c→X.env.cells.lookup x=some c) (hc2:∀ x,(x,NameKind.free)∈scope.names→∃ c,cl.lookup x=some c)
    (I:Inv X pins σ H s) (T:Turn X.prog X.w X.K tg J fp it tn) (st:tn 0 s.heap) (hf:∀ b∈fp,FpOk X pins H b) (W:Nat→Nat→List V→St→Hp→Prop) {m0:Nat} (w0:W 0 m0 [] (compSt own.length js σ) H) (turn:CTurn2 J g tt wi2 g2 tt2 te F W)
    (hF:∀ ys H',F ys H'→ys.length≤sizeLine)
    (fin:∀ acc C H' ys s' m,Inv X pins σ (upd H' acc (.lst ys)) s'→H' acc=none→s'.heap.Ns C m→(upd H' acc (.lst ys)) C=none→C≠X.env.locals→X.s₀.heap.objs.size≤C→(∀ x c,X.env.cells.lookup x=some c→c≠C)→(∀ p∈X.pn++pins,p.1≠C)→F ys H'→RR (.ref acc) C (.ok .next) s') :
    wpAny (model X.prog X.w) X.A (newList []) (fun acc s₃=>wpAny (model X.prog X.w) X.A (newFunctionEnv scope X.env.globals cl [] X.env.qual none .none (some X.env)) (fun cenv s₄=>
      codeAny (model X.prog X.w) X.A (.compStart (.ListComp elt [⟨tg,iter,ifs,0⟩,⟨tg2,iter2,ifs2,0⟩] scope pos) 0 (.ref it) acc { cenv with scope:=relabel scope X.env }) (RR acc cenv.locals) s₄) E s₃) E s:=by
  refine wpAny_newObj_type (wpAny_newFunctionEnv S.nocell (by intro y hy;simp at hy) (fun h₁ hns₁ hsb₁=>?_) S.kind)
  dsimp only at hns₁ hsb₁ ⊢
  generalize hH2:s.heap.push { cls:=.type "list",dict:=none,data:=.seq ([]:List Value).toArray }=H2 at hns₁ hsb₁ ⊢
  have hC:H2.objs.size=s.heap.objs.size+1:=by rw [← hH2,Heap.size_push]
  have hDC:s.heap.objs.size≠H2.objs.size:=by rw [hC];exact Nat.ne_of_lt (Nat.lt_succ_self _)
  have hCle:s.heap.objs.size≤H2.objs.size:=by rw [hC];exact Nat.le_succ _
  have below:∀ b,b<s.heap.objs.size→b≠H2.objs.size∧b≠s.heap.objs.size:=fun b hb=>⟨by rw [hC];exact Nat.ne_of_lt (Nat.lt_succ_of_lt hb),Nat.ne_of_lt hb⟩
  have old:∀ b o,s.heap.get? b=some o→h₁.get? b=some o:=fun b o e=>hsb₁.extBut b o (below b (Heap.lt_size e)).1 (Heap.get?_push_of_some _ (hH2 ▸ Heap.get?_push_of_some _ e))
  have hacc:h₁.get? s.heap.objs.size=some (accObj [] 0):=hsb₁.extBut _ _ hDC (Heap.get?_push_of_some _ (hH2 ▸ Heap.get?_push_size _ rfl))
  generalize hCn:H2.objs.size=C at *
  generalize hAn:s.heap.objs.size=acc at *
  have cellLt:∀ x c,X.env.cells.lookup x=some c→c<acc:=fun x c e=>by
    obtain ⟨v,q⟩:=I.cell x c e
    rw [← hAn];exact q.lt
  have pinLt:∀ p∈X.pn++pins,p.1<acc:=fun p hp=>by rw [← hAn];exact Heap.lt_size (I.pin p hp).1
  have stkLt:∀ b∈frs X.stack,b<acc:=fun b hb=>by
    obtain ⟨_,o,ho,_⟩:=I.stack.mem hb
    rw [← hAn];exact Heap.lt_size ho
  have fpLt:∀ b∈fp,b<acc:=fun b hb=>by
    obtain ⟨o,e,_⟩:=T.obj _ _ st b hb
    rw [← hAn];exact Heap.lt_size e
  have hHC:H C=none:=I.hok.fresh (by rw [hAn];exact hCle)
  have hHA:H acc=none:=I.hok.fresh (by rw [hAn];exact Nat.le_refl _)
  have I1:Inv (cxComp X scope N' cl C s H fp) [] (compSt own.length js σ) H { s with heap:=h₁,toks:=s.toks+([]:List (Str×Value)).length }:=
    Inv.comp S I hc1 hc2 (by rw [hAn];exact hCle) hns₁ old (fun b hb=>⟨hf b hb,by rw [hAn];exact fpLt b hb⟩) hHC fun b o e=>(below b (by rw [← hAn];exact Heap.lt_size e)).1
  have I2:Inv (cxComp X scope N' cl C s H fp) [(acc,accObj [] 0)] (compSt own.length js σ) H { s with heap:=h₁,toks:=s.toks+([]:List (Str×Value)).length }:=I1.pins_of fun p hp=>by
    obtain rfl:p=(acc,accObj [] 0):=by simpa using hp
    exact ⟨hacc,hHA,hDC,fun z=>absurd (stkLt acc z) (Nat.lt_irrefl _),fun v z=>by cases z⟩
  have st1:tn 0 h₁:=T.keep _ _ _ st fun b hb o e=>old b o e
  have loop:∀ s₃:Shared,s₃={ s with heap:=h₁,toks:=s.toks+([]:List (Str×Value)).length }→
      codeAny (model X.prog X.w) X.A (.compLoop (.ListComp elt [⟨tg,iter,ifs,0⟩,⟨tg2,iter2,ifs2,0⟩] scope pos) 0 (.ref it) (.ref acc) (compEnvC scope cl C X.env)) (RR (.ref acc) C) s₃:=by
    rintro s₃ rfl
    refine comp_loop2 W turn T (hg _ _ _ _ _) (hc _ _ _ _ _) (hi2 _ _ _ _ _) (hs2 _) (hg2 _ _ _ _ _) (hc2' _ _ _ _ _) (he _ _ _ _ _) hcalm
      (fun b hb=>⟨(below b (fpLt b hb)).1,fun z=>?_,fun x c e z=>(hf b hb).2.2.2.2.1 x c (hc1 x c e) z,(below b (fpLt b hb)).2⟩)
      ⟨hDC,fun z=>absurd (stkLt acc z) (Nat.lt_irrefl _),fun x c e z=>absurd (cellLt x c (hc1 x c e)) (by rw [z];exact Nat.lt_irrefl _),by rw [hAn];exact Nat.le_refl _⟩ ?_ I2 st1 (fun b hb=>(hf b hb).1) w0
    · rcases List.mem_cons.mp (I.stkSub b z) with q|q
      · exact (hf b hb).2.1 q
      · exact (hf b hb).2.2.1 q
    · intro s' σ' H' ys us k J' rv q
      obtain ⟨e',n',l',f',d'⟩:=J'.pin (acc,accObj us k) (List.mem_append_right _ List.mem_cons_self)
      have n'':H' acc=none:=n'
      obtain ⟨m,hm,_⟩:=J'.loc
      have oldLt:∀ b o,s.heap.get? b=some o→b<acc:=fun b o e=>by rw [← hAn];exact Heap.lt_size e
      have neA:∀ b o,s.heap.get? b=some o→b≠acc:=fun b o e=>Nat.ne_of_lt (oldLt b o e)
      have un:Un (frs X.stack) fp H (upd H' acc (.lst ys)) s.heap s'.heap:=⟨J'.base.keep,J'.base.slot,fun b o e n hx=>by rw [upd_ne (neA b o e)];exact J'.base.free b o e n hx,J'.base.there,
        fun b xs e=>by
          have z:=J'.base.tups b xs e
          rw [upd_ne (ne_of_none z n'')];exact z,
        fun b o u e=>by
          have z:=J'.base.frzs b o u e
          rw [upd_ne (ne_of_none z n'')];exact z,
        fun b ps e=>by
          obtain ⟨more,z⟩:=J'.base.tbls b ps e
          exact ⟨more,by rw [upd_ne (ne_of_none z n'')];exact z⟩⟩
      have hok:HOk X.prog X.w (upd H' acc (.lst ys)) s'.heap:=fun b u e=>by
        by_cases hb:b=acc
        · subst hb
          rw [upd_same] at e;cases e
          exact ⟨hF _ _ q,us,k,rv,e'⟩
        · rw [upd_ne hb] at e
          exact (J'.hok b u e).stay (fun c v _ z=>z) (fun c z=>by rw [upd_ne (ne_of_none z n'')];exact z) fun c xs z=>by rw [upd_ne (ne_of_none z n'')];exact z
      have IX:Inv X pins σ (upd H' acc (.lst ys)) s':=I.call' J'.os un hok J'.bare fun b hb=>⟨(hf b hb).2.2.2.1,(hf b hb).2.1,(hf b hb).2.2.2.2.1,(hf b hb).2.2.2.2.2⟩
      refine fin acc C H' ys s' m IX n'' hm ?_ ?_ ?_ ?_ ?_ q
      · rw [upd_ne (Ne.symm hDC)];exact J'.free
      · exact Nat.ne_of_gt (Nat.lt_of_lt_of_le I.lt (by rw [hAn];exact hCle))
      · exact Nat.le_trans I.sz (by rw [hAn];exact hCle)
      · exact fun x c e z=>absurd (Nat.lt_of_lt_of_le (cellLt x c e) hCle) (by rw [z];exact Nat.lt_irrefl _)
      · exact fun p hp z=>absurd (Nat.lt_of_lt_of_le (pinLt p hp) hCle) (by rw [z];exact Nat.lt_irrefl _)
  exact codeAny_compStart_list (loop _ rfl) (T.self _ 0 _ _ _ st1 (loop _ rfl))
theorem ps_setComp2 {i:Nat} {x:Str} {pos' spos:Pos} (S:CompScope X scope own js N') (hcalm:X.calm=true) (hN:X.N.Nodup) (hx:X.N[i]?=some x) (hk:X.env.scope.names.lookup x=some .local) (hi:PI X tg iter wi) (hg:∀ cl C s₀ H₀ ex,PG (cxComp X scope N' cl C s₀ H₀ ex) tg g) (hc:∀ cl C s₀ H₀ ex,PIfs (cxComp X scope N' cl C s₀ H₀ ex) ifs tt)
    (hi2:∀ cl C s₀ H₀ ex,PI (cxComp X scope N' cl C s₀ H₀ ex) tg2 iter2 wi2) (hs2:∀ env x,foldedSetIterable iter2 env x=pure x) (hg2:∀ cl C s₀ H₀ ex,PG (cxComp X scope N' cl C s₀ H₀ ex) tg2 g2) (hc2':∀ cl C s₀ H₀ ex,PIfs (cxComp X scope N' cl C s₀ H₀ ex) ifs2 tt2) (he:∀ cl C s₀ H₀ ex,PE (cxComp X scope N' cl C s₀ H₀ ex) elt te) (hsw:swapsWith (.ListComp elt [⟨tg,iter,ifs,0⟩,⟨tg2,iter2,ifs2,0⟩] scope pos) (some (.Name x pos')) spos.line X.env=pure true:=by rfl) (hs:∀ x,foldedSetIterable iter X.env x=pure x:=by intro _;rfl) :
    PS X (.Assign [.Name x pos'] (.ListComp elt [⟨tg,iter,ifs,0⟩,⟨tg2,iter2,ifs2,0⟩] scope pos) spos) (tAsg (tComp2 wi g tt wi2 g2 tt2 te own.length js) (gName i)):=by
  intro pins s σ H D I h
  obtain ⟨cl,hcl,hc1,hc2⟩:=closure_ok (env:=X.env) scope fun y hy hk=>I.ok.has y.1 (S.free y hy hk)
  rw [exec_Assign_Name_used _ _ _ _ hsw]
  refine wpAny_bind (wpAny_standAt (wpAny_bind ?_))
  show wpAny _ X.A (do let _ ← comprehension (.ListComp elt [⟨tg,iter,ifs,0⟩,⟨tg2,iter2,ifs2,0⟩] scope pos) scope X.env _ (newList []) false (eval iter X.env) (some (assign (.Name x pos') X.env))) _ _ s
  refine wpAny_bind (wpAny_mono (wpAny_comprehension_free (use:=some (assign (.Name x pos') X.env)) (Q:=fun _ s'=>SP X pins D .next s') rfl hs hcl S.kind S.names
    (thn (hi pins s σ H _ I h) fun v s1 h1=>thn h1 fun itv s2 h2=>?_)) (fun _ s' hq=>wpAny_pure (wpAny_pure hq)) fun _ _ e=>e)
  obtain ⟨it,fp,tn,J,H2,e,I2,T,st2,f2,W,⟨m0,w0⟩,turn⟩:=h2
  subst e
  refine comp_run2 (RR:=fun acc C=>compPost (model X.prog X.w) X.A X.xe (some (assign (.Name x pos') X.env)) (fun _ s'=>SP X pins D .next s') acc C) S hcalm hg hc hi2 hs2 hg2 hc2' he hc1 hc2 I2 T st2 f2 W w0 turn (fun ys H' q=>q.1) ?_
  intro acc C H' ys s' m IX na hm hCn hL hz hcn hpn q
  show wpAny _ X.A (assign (.Name x pos') X.env (.ref acc)) _ _ s'
  refine wpAny_assign_Name (store_ok2 IX hN hx (.inl hk) (v:=.ref acc) rfl (fun s'' I'' hsb=>?_) (.inr hk))
  obtain ⟨a,hsb,ha⟩:=hsb
  have haC:C≠a:=by
    rcases ha with z|z
    · rw [z];exact hL
    · exact fun q=>hcn x a z q.symm
  refine ⟨m,hm.sameBut hsb haC,fun h' hs'=>⟨_,_,?_,q.2 acc na⟩⟩
  exact I''.turned (t':=s''.toks) (it:=C) (fun b o hb e=>(hs'.2 b hb).trans e) hCn hL (.inr hz) hcn hpn
end
end L2
namespace L2
open PySem PySem.Spec PyProof.Rows
section
variable {X:Cx}
end
theorem args_maxD (a v:Value):argsOk "max" ⟨[a],[(Str.ofString "default",v)]⟩:=by unfold argsOk;kernel_rfl
section
variable {prog:Program} {w:World} {A:Around} {R:Result→Shared→Prop} {I:Addr} {fp wr:List Addr} {n:Nat} {P:Nat→Value→Prop} {St:Nat→Heap→Prop}
def besO:Option Value→Array Value
  |none=>#[]
  |some v=>#[v,v]
theorem maxD_loop (W:Walks prog w A.in1 I fp wr n P St) (bt:Nat→Nat→Bool) (cm:CmpOf prog w A.in1 .Gt P bt) (S:Addr) (nf:S∉fp) {d:Value} {x:Str} (k:Nat) :
    ∀ (j:Nat) (s:Shared) (b:Option Value) (c:Nat),n=j+k→St j s.heap→(∀ v,b=some v→0<j∧P (argBest bt (j-1)) v)→(b=none→j=0)→
    s.heap.get? S=some { cls:=.type "list",dict:=none,data:=.seq (besO b) c,slots:=#[] }→
    (∀ v h' tk,(n=0∧v=d∨0<n∧P (argBest bt (n-1)) v)→(∀ q o,q∉wr→q≠S→s.heap.get? q=some o→h'.get? q=some o)→R (.ok (.ret v)) { s with heap:=h',toks:=tk })→
    codeAny (model prog w) A (.builtin "max.loop" ⟨[.ref I,.none,.ref S],[(x,d)]⟩) R s:=by
  have nw:S∉wr:=fun h=>nf (W.sub _ h)
  have nm:(toString "max"++toString ".loop" : String) = "max.loop":=by decide
  induction k with
  | zero=>
    intro j s b c hn sa hb hb0 hS go
    have e:n=j:=hn
    subst e
    refine codeAny_builtin PySem.F.entry_max_loop ?_
    rw [Around.under_plainId PySem.F.plain_max_loop _]
    refine wpAny_bind (m:=seqItems? (.ref S)) (wpAny_seqItems hS rfl (wpAny_bind (m:=tryCatch (pyNext (.ref I)) _) (wpAny_tryCatch (W.done s _ _ sa fun h' tk k1=>?_))))
    cases b with
    |none=>exact wpAny_bind (wpAny_rule (wpAny_pure (go d h' tk (.inl ⟨hb0 rfl,rfl⟩) fun q o hq _ e=>k1 q o hq e)))
    | some v=>
      obtain ⟨j0,hv⟩:=hb v rfl
      refine wpAny_bind (m:=updateSeq S (fun _=>#[])) (wpAny_updateSeq (hz:=(show 2≤sizeLine by decide)) (k1 S _ nw hS) rfl (wpAny_bind (wpAny_letGo (wpAny_pure (go v _ tk (.inr ⟨j0,hv⟩) fun q o hq hqS e=>?_)))))
      rw [Heap.get?_update_other _ _ (Ne.symm hqS)]
      exact k1 q o hq e
  | succ k ih=>
    intro j s b c hn sa hb hb0 hS go
    refine codeAny_builtin PySem.F.entry_max_loop ?_
    rw [Around.under_plainId PySem.F.plain_max_loop _]
    refine wpAny_bind (m:=seqItems? (.ref S)) (wpAny_seqItems hS rfl (wpAny_bind (m:=tryCatch (pyNext (.ref I)) _) (wpAny_tryCatch (W.item j s _ _ (by omega) sa fun u h' tk hu sa' k1=>?_))))
    have hS':=k1 S _ nw hS
    have put:∀ v:Value,P (argBest bt j) v→codeAny (model prog w) A (.builtin "max.loop" ⟨[.ref I,.none,.ref S],[(x,d)]⟩) R { s with heap:=h'.update S (Obj.mapSeq fun _=>#[v,v]),toks:=tk }:=fun v hv=>by
      refine ih (j+1) _ (some v) _ (by omega) (W.frame _ _ _ sa' fun q hq o e=>?_) (fun v' e=>?_) (fun e=>by cases e) (Heap.get?_update_self _ hS' rfl) fun v' h'' tk'' hv' k2=>?_
      · rw [Heap.get?_update_other _ _ (fun h:S=q=>nf (by rw [h];exact hq))];exact e
      · cases e;exact ⟨Nat.succ_pos _,hv⟩
      · refine go v' h'' tk'' hv' fun q o hq hqS e=>k2 q o hq hqS ?_
        rw [Heap.get?_update_other _ _ (Ne.symm hqS)]
        exact k1 q o hq e
    cases b with
    | none=>
      have j0:=hb0 rfl
      subst j0
      refine wpAny_bind (m:=updateSeq S (fun _=>#[u,u])) (wpAny_updateSeq hS' rfl ?_)
      rw [nm]
      exact wpAny_pure ⟨plainId_quiet PySem.F.plain_max_loop _,put u hu⟩
    | some v=>
      obtain ⟨j0,hv⟩:=hb v rfl
      obtain ⟨i,rfl⟩:∃ i,j=i+1:=⟨j-1,by omega⟩
      have hv':P (argBest bt i) v:=hv
      refine wpAny_bind (m:=tryCatch (holding [u,u] (richCompare .Gt u v >>= _)) _) (wpAny_tryCatch (wpAny_holding (wpAny_bind (cm (i+1) (argBest bt i) u v _ _ _ hu hv' (wpAny_bind (wpAny_holding (wpAny_truthy_bool (wpAny_bind (wpAny_letGo (wpAny_pure ?_))))))))))
      cases ht:bt (i+1) (argBest bt i) with
      | true=>
        refine wpAny_bind (m:=updateSeq S (fun _=>#[u,u])) (wpAny_updateSeq (hz:=(show 2≤sizeLine by decide)) hS' rfl (wpAny_bind (wpAny_letGo ?_)))
        rw [nm]
        exact wpAny_pure ⟨plainId_quiet PySem.F.plain_max_loop _,put u (by simp only [argBest,ht,if_true];exact hu)⟩
      | false=>
        refine wpAny_bind (wpAny_letGo ?_)
        rw [nm]
        refine wpAny_pure ⟨plainId_quiet PySem.F.plain_max_loop _,ih (i+2) _ (some v) c (by omega) sa' (fun v' e=>?_) (fun e=>by cases e) hS' fun v' h'' tk'' hv'' k2=>go v' h'' tk'' hv'' fun q o hq hqS e=>k2 q o hq hqS (k1 q o hq e)⟩
        cases e
        exact ⟨Nat.succ_pos _,by show P (argBest bt (i+1)) v;simp only [argBest,ht,Bool.false_eq_true,if_false];exact hv'⟩
end
section
variable {prog:Program} {w:World} {A:Around} {E:Value→Shared→Prop} {s:Shared} {l:Addr} {xs:Array (Int×Tok)}
theorem maxD_ints {d:Value} {Q:Value→Shared→Prop} (hh:A.handled=none) (hl:s.heap.IsList l (intItems xs))
    (h0:xs.size=0→∀ h' tk,(∀ b o,s.heap.get? b=some o→h'.get? b=some o)→Q d { s with heap:=h',toks:=tk })
    (h:0<xs.size→∀ v h' tk,(intItems xs)[argBest (fun i j=>decide (numAt xs i > numAt xs j)) (xs.size-1)]?=some v→(∀ b o,s.heap.get? b=some o→h'.get? b=some o)→Q v { s with heap:=h',toks:=tk }) :
    wpAny (model prog w) A (call (.builtin "max") [.ref l] [(Str.ofString "default",d)]) Q E s:=by
  have nm:(toString "max"++toString ".loop" : String) = "max.loop":=by decide
  refine kmb_tree PySem.F.kind_max PySem.F.plain_max PySem.F.entry_max (args_maxD _ _) ?_
  show wpAny _ A.in1 (Builtin.Builtins.bindParams "max" ["key","default"] 0 ⟨[],[(Str.ofString "default",d)]⟩ >>= _) _ _ s
  refine wpAny_bind (wpAny_of_eq (show Builtin.Builtins.bindParams "max" ["key","default"] 0 ⟨[],[(Str.ofString "default",d)]⟩=pure [none,some d] from rfl) ?_)
  refine wpAny_bind (wpAny_pure ?_)
  refine wpAny_bind (iter_intList hl fun s₂ e st hfp hlI=>?_)
  subst e
  refine wpAny_bind (wpAny_newObj_type ?_)
  have W:=Walks.list (prog:=prog) (w:=w) (A:=A.in1) hh _ l hlI (intItems xs)
  have sz:(intItems xs).size=xs.size:=by simp [intItems]
  rw [sz] at W
  have nf:(s.heap.push { cls:=.type "list_iterator",data:=.fields #[.ref l,.int 0 0] }).objs.size∉[s.heap.objs.size,l]:=fun hm=>Nat.lt_irrefl _ (hfp _ hm)
  rw [nm]
  have sa:=W.frame _ _ _ st fun b _ o e=>Heap.get?_push_of_some { cls:=.type "list",dict:=none,data:=.seq ([]:List Value).toArray } e
  refine wpAny_pure ⟨plainId_quiet PySem.F.plain_max_loop _,maxD_loop W _ (CmpOf.ints_gt (numAt xs) (fun _ _=>intItems_at)) _ nf xs.size 0 _ none _ (Nat.zero_add _).symm sa (fun _ e=>by cases e) (fun _=>rfl) (Heap.get?_push_size _ rfl) fun v h' tk hv hk=>?_⟩
  have ok:∀ b o,s.heap.get? b=some o→h'.get? b=some o:=old_kept fun b o hbw e=>hk b o hbw (Nat.ne_of_lt (Heap.lt_size e)) (Heap.get?_push_of_some _ e)
  rcases hv with ⟨z,rfl⟩|⟨z,hv⟩
  · exact h0 z h' tk ok
  · exact h z v h' tk (by simpa [intItems] using hv) ok
end
section
variable {X:Cx}
def rMaxD (K:PySem.W.Frag):List V→Hp→VK→Prop:=fun xs H Q=>∃ p ns,xs=[.ref p]∧SqL K H p (ns.map V.int)∧(ns=[]→Q .non H)∧∀ b,b∈ns→(∀ x∈ns,x≤b)→Q (.int b) H
theorem pe_maxD {e:Expr} {t:TA} {p kp cp pos:Pos} {j:Nat} (hc:X.calm=true) (ha:PA X [e] t) (hg:Gl X "max") (hm:X.mg "max" = none) (hst:starEach [e] X.env=[(false,eval e X.env)]:=by rfl) :
    PE X (.Call (.Name "max" p) [e] [⟨some "default",.Constant .none j cp,kp⟩] pos) (tCB (rMaxD X.K) t):=by
  intro pins s σ H Q I h
  refine wpAny_Call_Name_kw (ld_blt I hg hm (show bootBuiltins "max" = some (.builtin "max") by decide +kernel) ?_ (by decide) (by decide))
  refine callWith_kw (thn (ha pos pins s σ H _ I h) fun us s1 ⟨vs,H1,I1,r1,q1⟩=>?_) (by rw [hst];rfl) (by rw [hst];rfl)
  · obtain ⟨p,ns,rfl,hq,q0,q⟩:=q1
    obtain ⟨u,rfl,ru⟩:=vals1 r1
    cases (show u=Value.ref p from ru)
    refine thn (pk_cons (nm:=some "default") (kpos:=kp) pe_non pk_nil pos pins s1 σ H1 (fun zs H2=>zs=[.non]∧H2=H1) I1 ⟨rfl,rfl⟩) fun kvs s2 ⟨zs,H2,I2,r2,ez,eH⟩=>?_
    subst ez
    subst eH
    obtain ⟨u,rfl,ru⟩:=vals1 r2
    cases (show u=Value.none from ru)
    obtain ⟨its,rv,pl,hz⟩:=I2.list hq
    obtain ⟨ps,rfl,e⟩:=vals_nums rv
    have hl:ps.length=ns.length:=by rw [← e,List.length_map]
    have pl':=pl.isList
    rw [items_eq] at pl'
    refine maxD_ints (I2.ok.hd hc) pl' (fun z h' tk k=>?_) fun z v h' tk hv k=>?_
    · exact ⟨.non,H2,I2.kept k,rfl,q0 (List.length_eq_zero_iff.mp (by simp at z;subst z;simpa using hl.symm))⟩
    · have hb:=argBest_gt (numAt ps.toArray) (ps.toArray.size-1)
      generalize argBest (fun i j=>decide (numAt ps.toArray i > numAt ps.toArray j)) (ps.toArray.size-1)=m at hv hb
      have z':0<ps.length:=by simpa using z
      have hm:m<ns.length:=by have:=hb.1;simp at this;omega
      obtain ⟨t,rfl⟩:=intItems_at hv
      rw [numAt_eq e hm]
      refine ⟨.int ns[m],H2,I2.kept k,⟨_,rfl⟩,q _ (List.getElem_mem hm) fun x hx=>?_⟩
      obtain ⟨i,hi,rfl⟩:=List.getElem_of_mem hx
      have:=hb.2 i (by simp;omega)
      rw [numAt_eq e hi,numAt_eq e hm] at this
      exact this
end
end L2
namespace L2
open PySem PySem.Spec PyProof.Rows
section
variable {X:Cx} {scope:Scope} {own:List Str} {js:List Nat} {N':List Str} {wi:TI} {g:TG} {tt:TT} {te:TE} {tf:St→TE} {elt tg iter:Expr} {ifs:List Expr} {pos:Pos}
theorem comp_runI {pins:List (Addr×Obj)} {σ:St} {H:Hp} {s:Shared} {it:Addr} {fp:List Addr} {tn:Nat→Heap→Prop} {J:It} {cl:List (Str×Addr)} {F:List V→Hp→Prop} {E:Value→Shared→Prop} {RR:Value→Addr→Result→Shared→Prop}
    (S:CompScope X scope own js N') (hcalm:X.calm=true) (hg:∀ cl C s₀ H₀ ex,PG (cxComp X scope N' cl C s₀ H₀ ex) tg g) (hc:∀ cl C s₀ H₀ ex,PIfs (cxComp X scope N' cl C s₀ H₀ ex) ifs tt) (he:∀ cl C,PE (cxComp X scope N' cl C s H fp) elt te)
    (hc1:∀ x c,cl.lookup x=some c→X.env.cells.lookup x=some c) (hc2:∀ x,(x,NameKind.free)∈scope.names→∃ c,cl.lookup x=some c)
    (I:Inv X pins σ H s) (T:Turn X.prog X.w X.K tg J fp it tn) (st:tn 0 s.heap) (hf:∀ b∈fp,FpOk X pins H b) (W:Nat→Nat→List V→St→Hp→Prop) {m0:Nat} (w0:W 0 m0 [] (compSt own.length js σ) H) (turn:CTurn J g tt te F W)
    (hF:∀ ys H',F ys H'→ys.length≤sizeLine)
    (fin:∀ acc C H' ys s' m,Inv X pins σ (upd H' acc (.lst ys)) s'→H' acc=none→s'.heap.Ns C m→(upd H' acc (.lst ys)) C=none→C≠X.env.locals→X.s₀.heap.objs.size≤C→(∀ x c,X.env.cells.lookup x=some c→c≠C)→(∀ p∈X.pn++pins,p.1≠C)→F ys H'→RR (.ref acc) C (.ok .next) s') :
    wpAny (model X.prog X.w) X.A (newList []) (fun acc s₃=>wpAny (model X.prog X.w) X.A (newFunctionEnv scope X.env.globals cl [] X.env.qual none .none (some X.env)) (fun cenv s₄=>
      codeAny (model X.prog X.w) X.A (.compStart (.ListComp elt [⟨tg,iter,ifs,0⟩] scope pos) 0 (.ref it) acc { cenv with scope:=relabel scope X.env }) (RR acc cenv.locals) s₄) E s₃) E s:=by
  refine wpAny_newObj_type (wpAny_newFunctionEnv S.nocell (by intro y hy;simp at hy) (fun h₁ hns₁ hsb₁=>?_) S.kind)
  dsimp only at hns₁ hsb₁ ⊢
  generalize hH2:s.heap.push { cls:=.type "list",dict:=none,data:=.seq ([]:List Value).toArray }=H2 at hns₁ hsb₁ ⊢
  have hC:H2.objs.size=s.heap.objs.size+1:=by rw [← hH2,Heap.size_push]
  have hDC:s.heap.objs.size≠H2.objs.size:=by rw [hC];exact Nat.ne_of_lt (Nat.lt_succ_self _)
  have hCle:s.heap.objs.size≤H2.objs.size:=by rw [hC];exact Nat.le_succ _
  have below:∀ b,b<s.heap.objs.size→b≠H2.objs.size∧b≠s.heap.objs.size:=fun b hb=>⟨by rw [hC];exact Nat.ne_of_lt (Nat.lt_succ_of_lt hb),Nat.ne_of_lt hb⟩
  have old:∀ b o,s.heap.get? b=some o→h₁.get? b=some o:=fun b o e=>hsb₁.extBut b o (below b (Heap.lt_size e)).1 (Heap.get?_push_of_some _ (hH2 ▸ Heap.get?_push_of_some _ e))
  have hacc:h₁.get? s.heap.objs.size=some (accObj [] 0):=hsb₁.extBut _ _ hDC (Heap.get?_push_of_some _ (hH2 ▸ Heap.get?_push_size _ rfl))
  generalize hCn:H2.objs.size=C at *
  generalize hAn:s.heap.objs.size=acc at *
  have cellLt:∀ x c,X.env.cells.lookup x=some c→c<acc:=fun x c e=>by
    obtain ⟨v,q⟩:=I.cell x c e
    rw [← hAn];exact q.lt
  have pinLt:∀ p∈X.pn++pins,p.1<acc:=fun p hp=>by rw [← hAn];exact Heap.lt_size (I.pin p hp).1
  have stkLt:∀ b∈frs X.stack,b<acc:=fun b hb=>by
    obtain ⟨_,o,ho,_⟩:=I.stack.mem hb
    rw [← hAn];exact Heap.lt_size ho
  have fpLt:∀ b∈fp,b<acc:=fun b hb=>by
    obtain ⟨o,e,_⟩:=T.obj _ _ st b hb
    rw [← hAn];exact Heap.lt_size e
  have hHC:H C=none:=I.hok.fresh (by rw [hAn];exact hCle)
  have hHA:H acc=none:=I.hok.fresh (by rw [hAn];exact Nat.le_refl _)
  have I1:Inv (cxComp X scope N' cl C s H fp) [] (compSt own.length js σ) H { s with heap:=h₁,toks:=s.toks+([]:List (Str×Value)).length }:=
    Inv.comp S I hc1 hc2 (by rw [hAn];exact hCle) hns₁ old (fun b hb=>⟨hf b hb,by rw [hAn];exact fpLt b hb⟩) hHC fun b o e=>(below b (by rw [← hAn];exact Heap.lt_size e)).1
  have I2:Inv (cxComp X scope N' cl C s H fp) [(acc,accObj [] 0)] (compSt own.length js σ) H { s with heap:=h₁,toks:=s.toks+([]:List (Str×Value)).length }:=I1.pins_of fun p hp=>by
    obtain rfl:p=(acc,accObj [] 0):=by simpa using hp
    exact ⟨hacc,hHA,hDC,fun z=>absurd (stkLt acc z) (Nat.lt_irrefl _),fun v z=>by cases z⟩
  have st1:tn 0 h₁:=T.keep _ _ _ st fun b hb o e=>old b o e
  have loop:∀ s₃:Shared,s₃={ s with heap:=h₁,toks:=s.toks+([]:List (Str×Value)).length }→
      codeAny (model X.prog X.w) X.A (.compLoop (.ListComp elt [⟨tg,iter,ifs,0⟩] scope pos) 0 (.ref it) (.ref acc) (compEnvC scope cl C X.env)) (RR (.ref acc) C) s₃:=by
    rintro s₃ rfl
    refine comp_loop W turn T (hg _ _ _ _ _) (hc _ _ _ _ _) (he _ _) hcalm
      (fun b hb=>⟨(below b (fpLt b hb)).1,fun z=>?_,fun x c e z=>(hf b hb).2.2.2.2.1 x c (hc1 x c e) z,(below b (fpLt b hb)).2⟩)
      ⟨hDC,fun z=>absurd (stkLt acc z) (Nat.lt_irrefl _),fun x c e z=>absurd (cellLt x c (hc1 x c e)) (by rw [z];exact Nat.lt_irrefl _),by rw [hAn];exact Nat.le_refl _⟩ ?_ I2 st1 (fun b hb=>(hf b hb).1) w0
    · rcases List.mem_cons.mp (I.stkSub b z) with q|q
      · exact (hf b hb).2.1 q
      · exact (hf b hb).2.2.1 q
    · intro s' σ' H' ys us k J' rv q
      obtain ⟨e',n',l',f',d'⟩:=J'.pin (acc,accObj us k) (List.mem_append_right _ List.mem_cons_self)
      have n'':H' acc=none:=n'
      obtain ⟨m,hm,_⟩:=J'.loc
      have oldLt:∀ b o,s.heap.get? b=some o→b<acc:=fun b o e=>by rw [← hAn];exact Heap.lt_size e
      have neA:∀ b o,s.heap.get? b=some o→b≠acc:=fun b o e=>Nat.ne_of_lt (oldLt b o e)
      have un:Un (frs X.stack) fp H (upd H' acc (.lst ys)) s.heap s'.heap:=⟨J'.base.keep,J'.base.slot,fun b o e n hx=>by rw [upd_ne (neA b o e)];exact J'.base.free b o e n hx,J'.base.there,
        fun b xs e=>by
          have z:=J'.base.tups b xs e
          rw [upd_ne (ne_of_none z n'')];exact z,
        fun b o u e=>by
          have z:=J'.base.frzs b o u e
          rw [upd_ne (ne_of_none z n'')];exact z,
        fun b ps e=>by
          obtain ⟨more,z⟩:=J'.base.tbls b ps e
          exact ⟨more,by rw [upd_ne (ne_of_none z n'')];exact z⟩⟩
      have hok:HOk X.prog X.w (upd H' acc (.lst ys)) s'.heap:=fun b u e=>by
        by_cases hb:b=acc
        · subst hb
          rw [upd_same] at e;cases e
          exact ⟨hF _ _ q,us,k,rv,e'⟩
        · rw [upd_ne hb] at e
          exact (J'.hok b u e).stay (fun c v _ z=>z) (fun c z=>by rw [upd_ne (ne_of_none z n'')];exact z) fun c xs z=>by rw [upd_ne (ne_of_none z n'')];exact z
      have IX:Inv X pins σ (upd H' acc (.lst ys)) s':=I.call' J'.os un hok J'.bare fun b hb=>⟨(hf b hb).2.2.2.1,(hf b hb).2.1,(hf b hb).2.2.2.2.1,(hf b hb).2.2.2.2.2⟩
      refine fin acc C H' ys s' m IX n'' hm ?_ ?_ ?_ ?_ ?_ q
      · rw [upd_ne (Ne.symm hDC)];exact J'.free
      · exact Nat.ne_of_gt (Nat.lt_of_lt_of_le I.lt (by rw [hAn];exact hCle))
      · exact Nat.le_trans I.sz (by rw [hAn];exact hCle)
      · exact fun x c e z=>absurd (Nat.lt_of_lt_of_le (cellLt x c e) hCle) (by rw [z];exact Nat.lt_irrefl _)
      · exact fun p hp z=>absurd (Nat.lt_of_lt_of_le (pinLt p hp) hCle) (by rw [z];exact Nat.lt_irrefl _)
  exact codeAny_compStart_list (loop _ rfl) (T.self _ 0 _ _ _ st1 (loop _ rfl))
theorem pe_compI (S:CompScope X scope own js N') (hcalm:X.calm=true) (hi:PI X tg iter wi) (hg:∀ cl C s₀ H₀ ex,PG (cxComp X scope N' cl C s₀ H₀ ex) tg g) (hc:∀ cl C s₀ H₀ ex,PIfs (cxComp X scope N' cl C s₀ H₀ ex) ifs tt)
    (he:∀ pins σ cl C s₀ H₀ ex,Inv X pins σ H₀ s₀→(∀ b∈ex,FpOk X pins H₀ b)→PE (cxComp X scope N' cl C s₀ H₀ ex) elt (tf σ)) (hs:∀ x,foldedSetIterable iter X.env x=pure x:=by intro _;rfl):PE X (.ListComp elt [⟨tg,iter,ifs,0⟩] scope pos) (fun σ H Q=>tComp wi g tt (tf σ) own.length js σ H Q):=by
  intro pins s σ H Q I h
  obtain ⟨cl,hcl,hc1,hc2⟩:=closure_ok (env:=X.env) scope fun y hy hk=>I.ok.has y.1 (S.free y hy hk)
  rw [eval_ListComp]
  refine wpAny_comprehension_free (use:=none) rfl hs hcl S.kind S.names (thn (hi pins s σ H _ I h) fun v s1 h1=>thn h1 fun itv s2 h2=>?_)
  obtain ⟨it,fp,tn,J,H2,e,I2,T,st2,f2,W,⟨m0,w0⟩,turn⟩:=h2
  subst e
  refine comp_runI (RR:=fun acc C=>compPost (model X.prog X.w) X.A X.xe none (EP X pins σ Q) acc C) S hcalm hg hc (fun cl C=>he _ _ cl C _ _ _ I2 f2) hc1 hc2 I2 T st2 f2 W w0 turn (fun ys H' q=>q.1) ?_
  intro acc C H' ys s' m IX na hm hCn hL hz hcn hpn q
  refine ⟨m,hm,fun h' hs'=>⟨.ref acc,_,?_,rfl,q.2 acc na⟩⟩
  exact IX.turned (t':=s'.toks) (it:=C) (fun b o hb e=>(hs'.2 b hb).trans e) hCn hL (.inr hz) hcn hpn
end
end L2
namespace Cm
open PySem L2
def top (i:Nat):Stmt:=PySem.Challenge.pw_lanescribe_k30_spans_and_strays.main.body.getD i (.Pass ⟨0,0,0,0⟩)
def drK (c:Addr) (a r s:Int):List (Key×V):=[(.inr "cells",.ref c),(.inr "at",.int a),(.inr "rest",.int r),(.inr "seed",.int s)]
theorem pat {c:Addr} {a r s x:Int}:putK (drK c a r s) (.inr "at") (.int x)=drK c x r s:=by rfl
theorem prest {c:Addr} {a r s x:Int}:putK (drK c a r s) (.inr "rest") (.int x)=drK c a x s:=by rfl
theorem pseed {c:Addr} {a r s x:Int}:putK (drK c a r s) (.inr "seed") (.int x)=drK c a r x:=by rfl
theorem gcells {H:Hp} {p c:Addr} {a r s:Int} (h:H p=some (.dK (drK c a r s))):DGet H p (.str "cells") (some (.ref c)):=DGet.k (k:=Sum.inr "cells") h
theorem gat {H:Hp} {p c:Addr} {a r s:Int} (h:H p=some (.dK (drK c a r s))):DGet H p (.str "at") (some (.int a)):=DGet.k (k:=Sum.inr "at") h
theorem grest {H:Hp} {p c:Addr} {a r s:Int} (h:H p=some (.dK (drK c a r s))):DGet H p (.str "rest") (some (.int r)):=DGet.k (k:=Sum.inr "rest") h
theorem gseed {H:Hp} {p c:Addr} {a r s:Int} (h:H p=some (.dK (drK c a r s))):DGet H p (.str "seed") (some (.int s)):=DGet.k (k:=Sum.inr "seed") h
abbrev Big:Int:=2305843009213693951
structure Dr (H:Hp) (p c:Addr):Prop where
  ex:∃ (ns:List Int) (a r s:Int),H p=some (.dK (drK c a r s))∧H c=some (.lst (ns.map V.int))∧ns.length≤63∧0≤a∧a≤ns.length∧0≤r∧0≤s∧s<Big
theorem Dr.mono {H H':Hp} {p c:Addr} (d:Dr H p c) (h:Same H H'):Dr H' p c:=by
  obtain ⟨ns,a,r,s,h1,h2,k⟩:=d.ex
  exact ⟨ns,a,r,s,h _ _ h1,h _ _ h2,k⟩
theorem Dr.ne {H:Hp} {p c q:Addr} {o:HO} (d:Dr H p c) (h:H q=some o) (hd:∀ kvs,o≠.dK kvs):q≠p:=by
  obtain ⟨ns,a,r,s,h1,_⟩:=d.ex
  exact ne_of h h1 (hd _)
theorem Dr.put {H:Hp} {p c q:Addr} {o:HO} (d:Dr H p c) (h1:q≠p) (h2:q≠c):Dr (upd H q o) p c:=by
  obtain ⟨ns,a,r,s,e1,e2,k⟩:=d.ex
  exact ⟨ns,a,r,s,by rw [upd_ne h1.symm];exact e1,by rw [upd_ne h2.symm];exact e2,k⟩
theorem Dr.cell {H:Hp} {p c:Addr} (d:Dr H p c):∃ xs,H c=some (.lst xs):=by
  obtain ⟨ns,a,r,s,e1,e2,k⟩:=d.ex
  exact ⟨_,e2⟩
theorem Dr.neN {H:Hp} {p c q:Addr} (d:Dr H p c) (h:H q=none):p≠q:=by
  obtain ⟨ns,a,r,s,h1,_⟩:=d.ex
  exact ne_of_none h1 h
structure Txt (K:PySem.W.Frag) (mg:Str→Option Value):Prop where
  len:mg "len" = none
  range:mg "range" = none
  list:mg "list" = none
  tuple:mg "tuple" = none
  str:mg "str" = none
  bool:mg "bool" = none
  int:mg "int" = none
  min:mg "min" = none
  repr:mg "repr" = none
  all:mg "all" = none
  any:mg "any" = none
  isinstance:mg "isinstance" = none
section
variable {P:Program} {w:World} {K:PySem.W.Frag} {mg:Str→Option Value} {base:Heap}
def spBegin (K:PySem.W.Frag):Sp:=fun vs H Q _=>∃ (a:Addr) (ns:List Int),vs=[.ref a]∧SqL K H a (ns.map V.int)∧ns.length≤63∧∀ (p c:Addr) (H':Hp),Dr H' p c→Same H H'→H p=none→Q (.ref p) H'
theorem scB:FnScope ["_law_script","_law_seed","_law_cell"] ["_law_script"] (defScope (top 16)):=⟨rfl,rfl,rfl,by decide +kernel,rfl,by decide +kernel,by decide +kernel⟩
theorem ok_begin {f:Addr} {fd:FuncData} (F:Fun K "_law_begin" "_law_begin" (top 16) f fd) (T:Txt K mg):FnOk P w K mg base CX0 1 f fd ["_law_script"] (spBegin K):=by
  refine F.ok scB (fun vs H Q E h=>?_) (fun cdv A outer s H vs Q E hr h=>?_)
  · obtain ⟨a,ns,rfl,_⟩:=h
    rfl
  · obtain ⟨a,ns,rfl,hS,hlen,k⟩:=h
    refine ⟨_,(pss_cons (ps_set (i:=1) scB.nd rfl (Or.inl rfl) pe_int)
      (pss_cons (ps_for PassesOwn.never rfl (pi_list (pe_slice sl_list (pv 0) po_none (po_some pe_int))) (pg_name (i:=2) scB.nd rfl (Or.inl rfl))
        (pss_one (ps_set (i:=1) scB.nd rfl (Or.inl rfl) (pe_op op_mod (pe_op op_add (pe_op op_add (pe_op op_mul (pv 1) pe_int) (pe_op op_mul (pv 2) pe_int)) pe_int) pe_int))))
      (pss_one (ps_ret (pe_disp (pps_cons pe_str (pe_callTy call_list_of (by rfl) T.list bt_list (pa_cons (pe_slice sl_list (pv 0) po_none (po_some pe_int)) pa_nil)) (pps_cons pe_str pe_int (pps_cons pe_str pe_int (pps_cons pe_str (pv 1) pps_nil)))) rfl rfl (List.cons_ne_nil _ _) (by show 4≤15;decide)))))),?_⟩
    have hcut:cutV (ns.map V.int) none (some 63)=ns.map V.int:=by
      show ((ns.map V.int).drop (HT.sIx _ 0 none)).take (HT.sIx _ _ (some ((63:Nat):Int))-HT.sIx _ 0 none)=_
      rw [HT.sIx_none,HT.sIx_nat,List.drop_zero,Nat.sub_zero,List.take_of_length_le]
      rw [List.length_map];omega
    refine ⟨_,rfl,_,rfl,a,_,rfl,hS,fun q hq=>⟨q,rfl,⟨_,SqL.of upd_same⟩,?_⟩⟩
    rw [hcut]
    have hS':∀ o,SqL K (upd H q o) a (ns.map V.int):=fun o=>(show Same H (upd H q o) from fun b u e=>by rw [upd_ne (ne_of_none e hq)];exact e).seq hS
    refine for_list (K:=K) (a:=q) (xs:=ns.map V.int) (fun i σ H2=>∃ (z:Int) (v:Option V),σ=[some (.ref a),some (.int z),v]∧0≤z∧z<Big∧H2=upd H q (.lst (ns.map V.int)))
      ⟨20011,none,rfl,by decide,by decide,rfl⟩ (fun i σ H2 _ ⟨_,_,_,_,_,e⟩=>by rw [e];exact SqL.of upd_same) ?_ ?_
    · rintro i y σ H2 hi ⟨z,v,rfl,h0,h1,rfl⟩
      obtain ⟨n,-,rfl⟩:=List.mem_map.mp (List.mem_of_getElem? hi)
      refine ⟨_,rfl,_,_,rfl,rfl,.inl ⟨by omega,by simp only [Big] at h1;omega⟩,_,rfl,_,_,rfl,rfl,.inr ⟨by decide,by decide⟩,_,_,rfl,rfl,_,_,rfl,rfl,_,_,rfl,rfl,(by show (0:Int)<2305843009213693951;decide),?_⟩
      exact ⟨_,_,rfl,Int.emod_nonneg _ (by decide),Int.emod_lt_of_pos _ (by decide),rfl⟩
    · rintro σ H2 ⟨z,v,rfl,h0,h1,rfl⟩
      intro p hp
      have s1:Same H (upd (upd H q (.lst (ns.map V.int))) p (.dK [])):=(Same.new hq).trans (Same.new hp)
      refine ⟨_,rfl,_,rfl,a,_,rfl,s1.seq hS,fun q2 hq2=>⟨q2,_,rfl,.inl (SqL.of upd_same),fun l hl=>⟨_,rfl,?_,drK l 0 0 z,rfl,by show 4≤15;decide,?_⟩⟩⟩
      · exact (Same.new hl) _ _ ((Same.new hq2) _ _ upd_same)
      · rw [hcut]
        have hpl:(upd (upd (upd (upd H q (.lst (ns.map V.int))) p (.dK [])) q2 (.lst (ns.map V.int))) l (.lst (ns.map V.int))) p=some (.dK []):=(Same.new (by rw [hcut] at hl;exact hl)) _ _ ((Same.new hq2) _ _ upd_same)
        have hlp:l≠p:=ne_of upd_same hpl (by intro z;cases z)
        refine k p l _ ⟨ns,0,0,z,upd_same,by rw [upd_ne hlp];exact upd_same,hlen,by decide,by omega,by decide,h0,h1⟩ ?_ ((Same.new hq).free hp)
        intro b u e
        have e1:=((Same.new (q:=l) (o:=.lst (ns.map V.int)) (by rw [hcut] at hl;exact hl)) _ _ ((Same.new hq2) _ _ (s1 b u e)))
        rw [upd_ne (ne_of_none ((Same.new hq) b u e) hp)]
        exact e1
def spPick:Sp:=fun vs H Q _=>∃ (p c:Addr) (m:Int),vs=[.ref p,.int m]∧Dr H p c∧0<m∧m<340282366920938463463374607431768211456∧∀ (r:Int) (H':Hp),0≤r→r<m→Dr H' p c→But p H H'→Q (.int r) H'
theorem scP:FnScope ["_law_d","_law_many","_law_cell","_law_digit","_law_one"] ["_law_d","_law_many"] (defScope (top 17)):=⟨rfl,rfl,rfl,by decide +kernel,rfl,by decide +kernel,by decide +kernel⟩
theorem ok_pick {f:Addr} {fd:FuncData} (F:Fun K "_law_pick" "_law_pick" (top 17) f fd) (T:Txt K mg):FnOk P w K mg base CX0 1 f fd ["_law_d","_law_many"] spPick:=by
  refine F.ok scP (fun vs H Q E h=>?_) (fun cdv A outer s H vs Q E hr h=>?_)
  · obtain ⟨p,c,m,rfl,_⟩:=h
    rfl
  · obtain ⟨p,c,m,rfl,D,m0,m1,k⟩:=h
    have hu:=hu_of hr
    refine ⟨_,(pss_cons
  (ps_if (PW.pt (pw_and (pt_cmpR op_eq (pe_dget hu (pv 0) pe_str (fun _ _=>rfl)) pe_int (nomark _)) (pw_and1 (pt_cmpR op_lt (pe_dget hu (pv 0) pe_str (fun _ _=>rfl)) (pe_callB call_len_seq (by rfl) T.len bt_len (pa_cons (pe_dget hu (pv 0) pe_str (fun _ _=>rfl)) pa_nil)) (nomark _))))) (pss_cons
  (ps_set (i:=2) scP.nd rfl (Or.inl rfl) (pe_ix ix_list (pe_dget hu (pv 0) pe_str (fun _ _=>rfl)) (pe_dget hu (pv 0) pe_str (fun _ _=>rfl)) (fun _ _=>rfl)))
  (pss_cons
  (ps_dput hu (pv 0) pe_str (pe_op op_add (pe_dget hu (pv 0) pe_str (fun _ _=>rfl)) pe_int) rfl)
  (pss_one
  (ps_if (pt_cmpR op_ge (pv 2) (pe_op op_pow pe_int pe_int) (nomark _)) (pss_one
  (ps_dput hu (pv 0) pe_str (pv 2) rfl)) (pss_one
  (ps_dput hu (pv 0) pe_str (pe_op op_mod (pe_op op_add (pe_op op_add (pe_op op_mul (pe_dget hu (pv 0) pe_str (fun _ _=>rfl)) pe_int) (pe_op op_mul (pv 2) pe_int)) pe_int) pe_int) rfl)))))) pss_nil)
  (pss_cons
  (ps_if (pt_cmpR op_gt (pe_dget hu (pv 0) pe_str (fun _ _=>rfl)) pe_int (nomark _)) (pss_cons
  (ps_set (i:=3) scP.nd rfl (Or.inl rfl) (pe_op op_mod (pe_dget hu (pv 0) pe_str (fun _ _=>rfl)) (pv 1)))
  (pss_cons
  (ps_dput hu (pv 0) pe_str (pe_op op_fdivW (pe_dget hu (pv 0) pe_str (fun _ _=>rfl)) (pv 1)) rfl)
  (pss_one
  (ps_ret (pv 3))))) pss_nil)
  (pss_cons
  (ps_set (i:=4) scP.nd rfl (Or.inl rfl) (pe_op op_mod (pe_op op_mul (pe_dget hu (pv 0) pe_str (fun _ _=>rfl)) (pe_dget hu (pv 0) pe_str (fun _ _=>rfl))) pe_int))
  (pss_cons
  (ps_dput hu (pv 0) pe_str (pe_op op_mod (pe_op op_add (pe_op op_add (pe_op op_mul (pv 4) pe_int) (pe_op op_mul (pe_dget hu (pv 0) pe_str (fun _ _=>rfl)) pe_int)) pe_int) pe_int) rfl)
  (pss_one
  (ps_ret (pe_op op_mod (pe_op op_fdiv (pe_dget hu (pv 0) pe_str (fun _ _=>rfl)) pe_int) (pv 1)))))))),?_⟩
    obtain ⟨ns,a,r,sd,h1,h2,hl,a0,a1,r0,s0,s1⟩:=D.ex
    have npc:c≠p:=ne_of h2 h1 (by intro z;cases z)
    have small:∀ {x y z:Int},(drK c x y z).length<sizeLine:=fun {x y z}=>small1000 (by show 4≤1000;decide)
    refine seq_by (fun σ' H'=>∃ (a' r' sd':Int) (v:Option V),σ'=[some (.ref p),some (.int m),v,none,none]∧H' p=some (.dK (drK c a' r' sd'))∧But p H H'∧0≤a'∧a'≤ns.length∧0≤r'∧0≤sd'∧sd'<Big) ?_ ?_
    · rintro σ' H1 ⟨a',r',sd',v,rfl,e1,bt,b0,b1,c0,d0,d1⟩
      have hc1:∀ o,(upd H1 p o) c=some (.lst (ns.map V.int)):=fun o=>by rw [upd_ne npc];exact bt c _ h2 npc
      refine ⟨_,rfl,p,_,rfl,grest e1,_,_,rfl,rfl,_,rfl,?_⟩
      refine ite2 (fun hpos=>?_) (fun _=>?_)
      · refine ⟨_,rfl,p,_,rfl,grest e1,_,rfl,_,_,rfl,rfl,m0,?_⟩
        refine ⟨_,rfl,p,_,rfl,grest e1,_,rfl,_,_,rfl,rfl,⟨m0,m1⟩,_,rfl,p,_,rfl,DPut.k (k:=Sum.inr "rest") e1 small,_,rfl,?_⟩
        rw [prest]
        exact k _ _ (Int.emod_nonneg _ (by omega)) (Int.emod_lt_of_pos _ m0) ⟨ns,a',r' / m,sd',upd_same,hc1 _,hl,b0,b1,Int.ediv_nonneg c0 (by omega),d0,d1⟩ (bt.trans But.upd)
      · have sq:CMul sd' sd':=.inl ⟨by omega,by simp only [Big] at d1;omega⟩
        refine ⟨_,rfl,p,_,rfl,gseed e1,_,rfl,p,_,rfl,gseed e1,_,_,rfl,rfl,sq,_,_,rfl,rfl,(by show (0:Int)<2305843009213693951;decide),?_⟩
        have u0:=Int.emod_nonneg (sd'*sd') (show (2305843009213693951:Int)≠0 by decide)
        have u1:=Int.emod_lt_of_pos (sd'*sd') (show (0:Int)<2305843009213693951 by decide)
        refine ⟨_,rfl,_,_,rfl,rfl,.inr ⟨by decide,by decide⟩,_,rfl,p,_,rfl,gseed e1,_,_,rfl,rfl,.inr ⟨by decide,by decide⟩,_,_,rfl,rfl,_,_,rfl,rfl,_,_,rfl,rfl,(by show (0:Int)<2305843009213693951;decide),_,rfl,p,_,rfl,DPut.k (k:=Sum.inr "seed") e1 small,?_⟩
        rw [pseed]
        generalize hsd:(sd'*sd' % 2305843009213693951*7+sd'*40503+12345) % 2305843009213693951=sn
        have v0:0≤sn:=hsd ▸ Int.emod_nonneg _ (by decide)
        have v1:sn<Big:=hsd ▸ Int.emod_lt_of_pos _ (by decide)
        refine ⟨_,rfl,p,_,rfl,gseed upd_same,_,_,rfl,rfl,⟨by decide,by decide⟩,_,rfl,_,_,rfl,rfl,m0,?_⟩
        exact k _ _ (Int.emod_nonneg _ (by omega)) (Int.emod_lt_of_pos _ m0) ⟨ns,a',r',sn,upd_same,hc1 _,hl,b0,b1,c0,v0,v1⟩ (bt.trans But.upd)
    · intro N hN
      refine ⟨_,rfl,p,_,rfl,grest h1,rfl,_,rfl,?_⟩
      refine ite2 (fun hz=>?_) (fun _=>?_)
      · refine ⟨_,rfl,p,_,rfl,gat h1,_,rfl,p,_,rfl,gcells h1,c,_,rfl,.inl (SqL.of h2),_,_,rfl,rfl,_,rfl,?_⟩
        rw [List.length_map]
        refine ite2 (fun hlt=>?_) (fun _=>?_)
        · have hlt:a<ns.length:=of_decide_eq_true hlt
          obtain ⟨z,hz'⟩:∃ z,ns[a.toNat]?=some z:=⟨_,List.getElem?_eq_getElem (by omega)⟩
          have hat:atI (ns.map V.int) a=some (.int z):=by
            have e:(a:Int)=((a.toNat:Nat):Int):=by omega
            rw [e]
            refine atI_nat ?_
            rw [List.getElem?_map,hz'];rfl
          refine ⟨_,rfl,p,_,rfl,gcells h1,_,rfl,p,_,rfl,gat h1,c,_,_,_,rfl,rfl,SqL.of h2,hat,?_⟩
          refine ⟨_,rfl,p,_,rfl,gat h1,_,_,rfl,rfl,_,rfl,p,_,rfl,DPut.k (k:=Sum.inr "at") h1 small,?_⟩
          rw [pat]
          refine ⟨_,rfl,_,_,rfl,rfl,⟨by decide,by decide,by decide⟩,_,_,rfl,rfl,_,rfl,?_⟩
          refine ite2 (fun hge=>?_) (fun _=>?_)
          · refine ⟨_,rfl,_,rfl,p,_,rfl,DPut.k (k:=Sum.inr "rest") upd_same small,?_⟩
            rw [prest]
            have hge:(10:Int) ^ 18≤z:=of_decide_eq_true hge
            exact hN _ _ ⟨a+1,z,sd,_,rfl,upd_same,But.upd.trans But.upd,by omega,by omega,by omega,s0,s1⟩
          · refine ⟨_,rfl,p,_,rfl,gseed upd_same,_,_,rfl,rfl,.inr ⟨by decide,by decide⟩,_,rfl,_,_,rfl,rfl,.inr ⟨by decide,by decide⟩,_,_,rfl,rfl,_,_,rfl,rfl,_,_,rfl,rfl,(by show (0:Int)<2305843009213693951;decide),_,rfl,p,_,rfl,DPut.k (k:=Sum.inr "seed") upd_same small,?_⟩
            rw [pseed]
            exact hN _ _ ⟨a+1,r,_,_,rfl,upd_same,But.upd.trans But.upd,by omega,by omega,r0,Int.emod_nonneg _ (by decide),Int.emod_lt_of_pos _ (by decide)⟩
        · exact hN _ _ ⟨a,r,sd,_,rfl,h1,But.refl,a0,a1,r0,s0,s1⟩
      · exact hN _ _ ⟨a,r,sd,_,rfl,h1,But.refl,a0,a1,r0,s0,s1⟩
end
end Cm
namespace Cm
open PySem L2
section
variable {P:Program} {w:World} {K:PySem.W.Frag} {mg:Str→Option Value} {base:Heap}
theorem Dr.dk {H:Hp} {p c:Addr} (d:Dr H p c):∃ kvs,H p=some (.dK kvs):=by
  obtain ⟨ns,a,r,s,h1,_⟩:=d.ex
  exact ⟨_,h1⟩
theorem Dr.seq {H H':Hp} {p c a:Addr} {xs:List V} (d:Dr H p c) (e:But p H H') (h:SqL K H a xs):SqL K H' a xs:=let ⟨_,hp⟩:=d.dk;e.seq hp h
theorem Dr.new {H:Hp} {p c q:Addr} {o:HO} (d:Dr H p c) (h:H q=none):Dr (upd H q o) p c:=d.mono (Same.new h)
def spOf (K:PySem.W.Frag):Sp:=fun vs H Q _=>∃ (p c q:Addr) (xs:List V),vs=[.ref p,.ref q]∧Dr H p c∧SqL K H q xs∧xs≠[]∧xs.length≤1000∧∀ (x:V) (H':Hp),x∈xs→Dr H' p c→But p H H'→Q x H'
theorem scO:FnScope ["_law_d","_law_things"] ["_law_d","_law_things"] (defScope (top 18)):=⟨rfl,rfl,rfl,by decide +kernel,rfl,by decide +kernel,by decide +kernel⟩
theorem ok_of {f fP:Addr} {fd fdP:FuncData} (F:Fun K "_law_of" "_law_of" (top 18) f fd) (T:Txt K mg) (DP:Def K mg "_law_pick" (top 17) ["_law_d","_law_many"] fP fdP):FnOk P w K mg base CX0 2 f fd ["_law_d","_law_things"] (spOf K):=by
  have GP:FnOk P w K mg base CX0 1 fP fdP ["_law_d","_law_many"] spPick:=ok_pick DP.F T
  refine F.ok scO (fun vs H Q E h=>?_) (fun cdv A outer s H vs Q E hr h=>?_)
  · obtain ⟨p,c,q,xs,rfl,_⟩:=h
    rfl
  · obtain ⟨p,c,q,xs,rfl,D,hq,hne,hl,k⟩:=h
    refine ⟨_,(pss_one (ps_ret (pe_ix ix_list (pv 1) (pe_call GP hr rfl DP.mg DP.F.kp DP.b .nil pass0 (pa_cons (pv 0) (pa_cons (pe_callB call_len_seq (by rfl) T.len bt_len (pa_cons (pv 1) pa_nil)) pa_nil))) (fun _ _=>rfl)))),?_⟩
    have hpos:0<xs.length:=List.length_pos_iff.mpr hne
    refine ⟨_,rfl,_,rfl,_,rfl,q,xs,rfl,(.inl hq),p,c,_,rfl,D,by omega,by omega,fun r H' r0 r1 D' bt=>?_⟩
    obtain ⟨j,rfl⟩:=Int.eq_ofNat_of_zero_le r0
    have hx:j<xs.length:=by omega
    exact ⟨q,xs,_,xs[j],rfl,rfl,D.seq bt hq,atI_nat (List.getElem?_eq_getElem hx),k _ _ (List.getElem_mem hx) D' bt⟩
def spS (K:PySem.W.Frag):Nat→Sp
  |0=>fun _ _ _ _=>False
  |n+1=>fun vs H Q _=>∃ (x y:V) (d:PyData),vs=[x,y]∧Rep K H x d∧Rep K H y d∧pdDep d≤n∧pdMax d≤100000∧∀ H':Hp,Same H H'→Q (.bl true) H'
theorem scS:FnScope ["_law_found","_law_due"] ["_law_found","_law_due"] (defScope (top 19)):=⟨rfl,rfl,rfl,by decide +kernel,rfl,by decide +kernel,by decide +kernel⟩
theorem bl_true {Q:VK} {v:V} {H:Hp} (h:Q (.bl true) H):Q (.bl (decide (v=v))) H:=by rw [decide_eq_true rfl];exact h
theorem ok_same {f:Addr} {fd:FuncData} (DS:Def K mg "_law_same" (top 19) ["_law_found","_law_due"] f fd) (T:Txt K mg) (n:Nat):FnOk P w K mg base CX0 n f fd ["_law_found","_law_due"] (spS K n):=by
  refine Nat.rec (motive:=fun n=>FnOk P w K mg base CX0 n f fd ["_law_found","_law_due"] (spS K n)) ⟨fun _ _ _ _ h=>h.elim,fun _ _ _ _ _ _ _ _ _ _ _ _ _ h=>h.elim⟩ (fun n GS=>?_) n
  refine DS.F.ok scS (fun vs H Q E h=>?_) (fun cdv A outer s H vs Q E hr h=>?_)
  · obtain ⟨x,y,d,rfl,_⟩:=h
    rfl
  · obtain ⟨x,y,d,rfl,hx,hy,hn,hm,k⟩:=h
    refine ⟨_,(pss_cons
  (ps_if (pt_cmpR op_isN (pv 1) pe_non (nomark _)) (pss_one
  (ps_ret (pe_cmpR op_isN (pv 0) pe_non (nomark _)))) pss_nil)
  (pss_cons
  (ps_if (PW.pt (pw_or (pt_val (pe_callB call_isT (by rfl) T.isinstance bt_isinstance (pa_cons (pv 1) (pa_cons (pe_ty rfl T.bool bt_bool) pa_nil)))) (pw_or1 (pt_val (pe_callB call_isT (by rfl) T.isinstance bt_isinstance (pa_cons (pv 0) (pa_cons (pe_ty rfl T.bool bt_bool) pa_nil))))))) (pss_one
  (ps_ret (pe_and (pe_callB call_isT (by rfl) T.isinstance bt_isinstance (pa_cons (pv 1) (pa_cons (pe_ty rfl T.bool bt_bool) pa_nil))) (pe_and (pe_callB call_isT (by rfl) T.isinstance bt_isinstance (pa_cons (pv 0) (pa_cons (pe_ty rfl T.bool bt_bool) pa_nil))) (pe_one (pe_cmpR op_eq (pv 0) (pv 1) (nomark _))))))) pss_nil)
  (pss_cons
  (ps_if (pt_val (pe_callB call_isT2 (by rfl) T.isinstance bt_isinstance (pa_cons (pv 1) (pa_cons (pe_tup (pa_cons (pe_ty rfl T.int bt_int) (pa_cons (pe_ty rfl T.str bt_str) pa_nil))) pa_nil)))) (pss_one
  (ps_ret (pe_and (pe_callB call_isT2 (by rfl) T.isinstance bt_isinstance (pa_cons (pv 0) (pa_cons (pe_tup (pa_cons (pe_ty rfl T.int bt_int) (pa_cons (pe_ty rfl T.str bt_str) pa_nil))) pa_nil))) (pe_and (pe_cmpR op_eq (pe_callB call_isT (by rfl) T.isinstance bt_isinstance (pa_cons (pv 0) (pa_cons (pe_ty rfl T.int bt_int) pa_nil))) (pe_callB call_isT (by rfl) T.isinstance bt_isinstance (pa_cons (pv 1) (pa_cons (pe_ty rfl T.int bt_int) pa_nil))) (nomark _)) (pe_one (pe_cmpR op_eq (pv 0) (pv 1) (nomark _))))))) pss_nil)
  (pss_cons
  (ps_if (PW.pt (pw_or (pt_cmpR op_ne (pe_callB call_isT (by rfl) T.isinstance bt_isinstance (pa_cons (pv 1) (pa_cons (pe_ty rfl T.list bt_list) pa_nil))) (pe_callB call_isT (by rfl) T.isinstance bt_isinstance (pa_cons (pv 0) (pa_cons (pe_ty rfl T.list bt_list) pa_nil))) (nomark _)) (pw_or1 (pt_cmpR op_ne (pe_callB call_isT (by rfl) T.isinstance bt_isinstance (pa_cons (pv 1) (pa_cons (pe_ty rfl T.tuple bt_tuple) pa_nil))) (pe_callB call_isT (by rfl) T.isinstance bt_isinstance (pa_cons (pv 0) (pa_cons (pe_ty rfl T.tuple bt_tuple) pa_nil))) (nomark _))))) (pss_one
  (ps_ret pe_bl)) pss_nil)
  (pss_one
  (ps_ret (pe_and (pe_cmpR op_eq (pe_callB call_len_seq (by rfl) T.len bt_len (pa_cons (pv 0) pa_nil)) (pe_callB call_len_seq (by rfl) T.len bt_len (pa_cons (pv 1) pa_nil)) (nomark _)) (pe_one (pe_callB (call_allB rfl) (by rfl) T.all bt_all (pa_cons (pe_comp (own:=["_law_k"]) (js:=[0,1]) (N':=["_law_k","_law_found","_law_due"]) (CompScope.of (osc:=defScope (top 19)) (N:=["_law_found","_law_due"]) rfl rfl ⟨rfl,by decide +kernel,by decide +kernel,by decide +kernel,rfl,by decide +kernel⟩) rfl (pi_range1 rfl T.range (pa_cons (pe_callB call_len_seq (by rfl) T.len bt_len (pa_cons (pv 1) pa_nil)) pa_nil)) (fun _ _ _ _ _=>(pg_name (i:=0) (show List.Nodup (["_law_k","_law_found","_law_due"]:List Str) by decide +kernel) rfl (Or.inl rfl) (Or.inr rfl))) (fun _ _ _ _ _=>pifs_nil) (fun _ _ _ _ _=>(pe_call GS hr rfl DS.mg DS.F.kp DS.b .nil pass0 (pa_cons (pe_ix (r:=rIx K) ix_seq (pv 1) (pv 0) (fun _ _=>rfl)) (pa_cons (pe_ix (r:=rIx K) ix_seq (pv 2) (pv 0) (fun _ _=>rfl)) pa_nil))))) pa_nil)))))))))),?_⟩
    have z2:2≤sizeLine:=by decide
    cases hx with
    | non=>
      cases hy
      refine ⟨_,rfl,rfl,_,rfl,ifT rfl ?_⟩
      exact ⟨_,rfl,rfl,k _ (Same.refl _)⟩
    | bl b=>
      cases hy
      refine ⟨_,rfl,rfl,_,rfl,ifF rfl ?_⟩
      refine ⟨_,rfl,_,_,_,_,rfl,(.bl b),rfl,_,rfl,ifT rfl (ifT rfl ?_)⟩
      exact ⟨_,rfl,_,_,_,_,rfl,(.bl b),rfl,_,rfl,ifT rfl ⟨_,rfl,_,_,_,_,rfl,(.bl b),rfl,_,rfl,ifT rfl ⟨_,rfl,_,rfl,rfl,bl_true (k _ (Same.refl _))⟩⟩⟩
    | int i=>
      cases hy
      refine ⟨_,rfl,rfl,_,rfl,ifF rfl ?_⟩
      refine ⟨_,rfl,_,_,_,_,rfl,(.int i),rfl,_,rfl,ifF rfl ?_⟩
      refine ⟨_,rfl,_,_,_,_,rfl,(.int i),rfl,_,rfl,ifF rfl ?_⟩
      refine ⟨_,rfl,z2,fun p hp=>⟨_,p,_,_,_,_,rfl,upd_same,.int i,rfl,_,rfl,ifT rfl ?_⟩⟩
      refine ⟨_,rfl,z2,fun p2 hp2=>⟨_,p2,_,_,_,_,rfl,upd_same,.int i,rfl,_,rfl,ifT rfl ?_⟩⟩
      refine ⟨_,rfl,_,_,_,_,rfl,.int i,rfl,_,rfl,_,_,_,_,rfl,.int i,rfl,rfl,_,rfl,?_⟩
      exact ifT rfl ⟨_,rfl,_,rfl,rfl,bl_true (k _ ((Same.new hp).trans (Same.new hp2)))⟩
    | str z=>
      cases hy
      refine ⟨_,rfl,rfl,_,rfl,ifF rfl ?_⟩
      refine ⟨_,rfl,_,_,_,_,rfl,(.str z),rfl,_,rfl,ifF rfl ?_⟩
      refine ⟨_,rfl,_,_,_,_,rfl,(.str z),rfl,_,rfl,ifF rfl ?_⟩
      refine ⟨_,rfl,z2,fun p hp=>⟨_,p,_,_,_,_,rfl,upd_same,.str z,rfl,_,rfl,ifT rfl ?_⟩⟩
      refine ⟨_,rfl,z2,fun p2 hp2=>⟨_,p2,_,_,_,_,rfl,upd_same,.str z,rfl,_,rfl,ifT rfl ?_⟩⟩
      refine ⟨_,rfl,_,_,_,_,rfl,.str z,rfl,_,rfl,_,_,_,_,rfl,.str z,rfl,rfl,_,rfl,?_⟩
      exact ifT rfl ⟨_,rfl,_,rfl,rfl,bl_true (k _ ((Same.new hp).trans (Same.new hp2)))⟩
    | tup g rs=>
      cases hy with
      | tup g2 rs2=>
        rename_i a1 xs1 ds a2 xs2
        refine ⟨_,rfl,rfl,_,rfl,ifF rfl ?_⟩
        refine ⟨_,rfl,_,_,_,_,rfl,(.tup g2 rs2),rfl,_,rfl,ifF rfl ?_⟩
        refine ⟨_,rfl,_,_,_,_,rfl,(.tup g rs),rfl,_,rfl,ifF rfl ?_⟩
        refine ⟨_,rfl,z2,fun p hp=>⟨_,p,_,_,_,_,rfl,upd_same,Rep.same (.tup g2 rs2) (Same.new hp),rfl,_,rfl,ifF rfl ?_⟩⟩
        have s1:Same H (upd H p (.tup [.ty "int",.ty "str"])):=Same.new hp
        refine ⟨_,rfl,_,_,_,_,rfl,(Rep.same (.tup g2 rs2) s1),rfl,_,rfl,_,_,_,_,rfl,(Rep.same (.tup g rs) s1),rfl,rfl,_,rfl,ifF rfl ?_⟩
        refine ⟨_,rfl,_,_,_,_,rfl,(Rep.same (.tup g2 rs2) s1),rfl,_,rfl,_,_,_,_,rfl,(Rep.same (.tup g rs) s1),rfl,rfl,_,rfl,ifF rfl ?_⟩
        refine ⟨_,rfl,_,_,rfl,.inr (s1.tup g),_,rfl,_,_,rfl,.inr (s1.tup g2),rfl,_,rfl,?_⟩
        have l1:=rs.length
        have l2:=rs2.length
        have hm':xs2.length≤100000:=by simp only [pdMax] at hm;omega
        have hl:xs1.length=xs2.length:=by omega
        generalize upd H p (.tup [.ty "int",.ty "str"])=H1 at s1 ⊢
        refine ifT (by rw [hl];simp) ?_
        obtain ⟨n,rfl⟩:∃ n',n=n'+1:=⟨n-1,by simp only [pdDep] at hn;omega⟩
        refine ⟨_,rfl,_,_,rfl,.inr (s1.tup g2),_,rfl,by omega,by omega,?_⟩
        refine comp_range (n:=xs2.length) (fun i ys σ' H'=>∃ (v:Option V),ys=(List.replicate i true).map V.bl∧σ'=[v,some _,some _]∧Same H1 H') (by exact Nat.le_trans hm' (by decide)) ⟨none,rfl,rfl,Same.refl _⟩ ?_ ?_
        · rintro i ys σ' H' hi hys ⟨v,rfl,rfl,s2⟩ N hN
          obtain ⟨d1,e1,r1⟩:=rs.get' (i:=i) (x:=xs1[i]) (List.getElem?_eq_getElem (by omega))
          obtain ⟨d2,e2,r2⟩:=rs2.get' (i:=i) (x:=xs2[i]) (List.getElem?_eq_getElem hi)
          rw [e1] at e2
          cases e2
          have m1:=List.mem_of_getElem? e1
          have q1:=pdDep_le m1
          have q2:=pdMax_le m1
          have at1:atI xs1 (0+(i:Int))=some xs1[i]:=by rw [Int.zero_add];exact atI_nat (List.getElem?_eq_getElem (by omega))
          have at2:atI xs2 (0+(i:Int))=some xs2[i]:=by rw [Int.zero_add];exact atI_nat (List.getElem?_eq_getElem hi)
          refine ⟨_,rfl,_,rfl,.inr (.inl ⟨_,_,_,_,rfl,rfl,(s1.trans s2).tup g,at1,?_⟩)⟩
          refine ⟨_,rfl,_,rfl,.inr (.inl ⟨_,_,_,_,rfl,rfl,(s1.trans s2).tup g2,at2,?_⟩)⟩
          refine ⟨_,_,d1,rfl,r1.same (s1.trans s2),r2.same (s1.trans s2),?_,?_,fun H'' s3=>?_⟩
          · simp only [pdDep] at hn;omega
          · simp only [pdMax] at hm;omega
          exact hN _ _ _ (by simp) ⟨_,by rw [List.replicate_succ',List.map_append];rfl,rfl,s2.trans s3⟩
        · rintro ys σ' H' hys ⟨v,rfl,rfl,s2⟩
          refine ⟨by rw [List.length_map,List.length_replicate];exact Nat.le_trans hm' (by decide),fun q hq=>⟨q,_,rfl,SqL.of upd_same,?_⟩⟩
          show Q (.bl ((List.replicate xs2.length true).all id)) _
          rw [show (List.replicate xs2.length true).all id=true by simp]
          exact k _ ((s1.trans s2).trans (Same.new hq))
    | lst g rs=>
      cases hy with
      | lst g2 rs2=>
        rename_i a1 xs1 ds a2 xs2
        refine ⟨_,rfl,rfl,_,rfl,ifF rfl ?_⟩
        refine ⟨_,rfl,_,_,_,_,rfl,(.lst g2 rs2),rfl,_,rfl,ifF rfl ?_⟩
        refine ⟨_,rfl,_,_,_,_,rfl,(.lst g rs),rfl,_,rfl,ifF rfl ?_⟩
        refine ⟨_,rfl,z2,fun p hp=>⟨_,p,_,_,_,_,rfl,upd_same,Rep.same (.lst g2 rs2) (Same.new hp),rfl,_,rfl,ifF rfl ?_⟩⟩
        have s1:Same H (upd H p (.tup [.ty "int",.ty "str"])):=Same.new hp
        refine ⟨_,rfl,_,_,_,_,rfl,(Rep.same (.lst g2 rs2) s1),rfl,_,rfl,_,_,_,_,rfl,(Rep.same (.lst g rs) s1),rfl,rfl,_,rfl,ifF rfl ?_⟩
        refine ⟨_,rfl,_,_,_,_,rfl,(Rep.same (.lst g2 rs2) s1),rfl,_,rfl,_,_,_,_,rfl,(Rep.same (.lst g rs) s1),rfl,rfl,_,rfl,ifF rfl ?_⟩
        refine ⟨_,rfl,_,_,rfl,.inl (s1.seq g),_,rfl,_,_,rfl,.inl (s1.seq g2),rfl,_,rfl,?_⟩
        have l1:=rs.length
        have l2:=rs2.length
        have hm':xs2.length≤100000:=by simp only [pdMax] at hm;omega
        have hl:xs1.length=xs2.length:=by omega
        generalize upd H p (.tup [.ty "int",.ty "str"])=H1 at s1 ⊢
        refine ifT (by rw [hl];simp) ?_
        obtain ⟨n,rfl⟩:∃ n',n=n'+1:=⟨n-1,by simp only [pdDep] at hn;omega⟩
        refine ⟨_,rfl,_,_,rfl,.inl (s1.seq g2),_,rfl,by omega,by omega,?_⟩
        refine comp_range (n:=xs2.length) (fun i ys σ' H'=>∃ (v:Option V),ys=(List.replicate i true).map V.bl∧σ'=[v,some _,some _]∧Same H1 H') (by exact Nat.le_trans hm' (by decide)) ⟨none,rfl,rfl,Same.refl _⟩ ?_ ?_
        · rintro i ys σ' H' hi hys ⟨v,rfl,rfl,s2⟩ N hN
          obtain ⟨d1,e1,r1⟩:=rs.get' (i:=i) (x:=xs1[i]) (List.getElem?_eq_getElem (by omega))
          obtain ⟨d2,e2,r2⟩:=rs2.get' (i:=i) (x:=xs2[i]) (List.getElem?_eq_getElem hi)
          rw [e1] at e2
          cases e2
          have m1:=List.mem_of_getElem? e1
          have q1:=pdDep_le m1
          have q2:=pdMax_le m1
          have at1:atI xs1 (0+(i:Int))=some xs1[i]:=by rw [Int.zero_add];exact atI_nat (List.getElem?_eq_getElem (by omega))
          have at2:atI xs2 (0+(i:Int))=some xs2[i]:=by rw [Int.zero_add];exact atI_nat (List.getElem?_eq_getElem hi)
          refine ⟨_,rfl,_,rfl,.inl ⟨_,_,_,_,rfl,rfl,(s1.trans s2).seq g,at1,?_⟩⟩
          refine ⟨_,rfl,_,rfl,.inl ⟨_,_,_,_,rfl,rfl,(s1.trans s2).seq g2,at2,?_⟩⟩
          refine ⟨_,_,d1,rfl,r1.same (s1.trans s2),r2.same (s1.trans s2),?_,?_,fun H'' s3=>?_⟩
          · simp only [pdDep] at hn;omega
          · simp only [pdMax] at hm;omega
          exact hN _ _ _ (by simp) ⟨_,by rw [List.replicate_succ',List.map_append];rfl,rfl,s2.trans s3⟩
        · rintro ys σ' H' hys ⟨v,rfl,rfl,s2⟩
          refine ⟨by rw [List.length_map,List.length_replicate];exact Nat.le_trans hm' (by decide),fun q hq=>⟨q,_,rfl,SqL.of upd_same,?_⟩⟩
          show Q (.bl ((List.replicate xs2.length true).all id)) _
          rw [show (List.replicate xs2.length true).all id=true by simp]
          exact k _ ((s1.trans s2).trans (Same.new hq))
end
end Cm
namespace Cm
open PySem L2
def Lc (x:Str):Prop:=∀ c∈x.cps.toList,97≤c∧c≤122
structure Nm (x:Str):Prop where
  lo:1≤x.length
  hi:x.length≤8
  lc:Lc x
theorem Lc.app {x y:Str} (a:Lc x) (b:Lc y):Lc (x++y):=fun c hc=>by
  rw [Str.cps_append,Array.toList_append,List.mem_append] at hc
  exact hc.elim (a c) (b c)
theorem join_cps (sep:Str) (hs:sep.cps.toList=[]):∀ ys:List Str,(Str.join sep ys).cps.toList=(ys.map (·.cps.toList)).flatten
  |[]=>rfl
  |[x]=>by show x.cps.toList=_;simp
  | x::y::r=>by
    show (x++sep++Str.join sep (y::r)).cps.toList=_
    rw [Str.cps_append,Array.toList_append,Str.cps_append,Array.toList_append,hs,List.append_nil,join_cps sep hs (y::r),List.map_cons (l:=y::r),List.flatten_cons]
theorem txt_join (sep:Str) (ys:List Str):PySem.Txt.join sep ys=Str.join sep ys:=by
  show PySem.Builtin.Str.glued sep ys=_
  rw [PySem.StrLaws.glued_eq_join]
theorem len_cps (x:Str):x.length=x.cps.toList.length:=by simp [Str.length]
section
variable {P:Program} {w:World} {K:PySem.W.Frag} {mg:Str→Option Value} {base:Heap}
def spWord:Sp:=fun vs H Q _=>∃ (p dc:Addr),vs=[.ref p]∧Dr H p dc∧∀ (x:Str) (H':Hp),Nm x→Dr H' p dc→But p H H'→Q (.str x) H'
theorem scW:FnScope ["_law_d","_law_letters","_law_first","_law_size","_law_some"] ["_law_d"] (defScope (top 20)):=⟨rfl,rfl,rfl,by decide +kernel,rfl,by decide +kernel,by decide +kernel⟩
theorem letters_at {i:Int} {c:Nat} (h:atI ("abcdefghijklmnopqrstuvwxyz" : Str).cps.toList i=some c):97≤c∧c≤122:=by
  have:c∈("abcdefghijklmnopqrstuvwxyz" : Str).cps.toList:=by
    unfold atI at h
    obtain ⟨j,_,e⟩:=Option.bind_eq_some_iff.mp h
    exact List.mem_of_getElem? e
  have all:∀ c∈("abcdefghijklmnopqrstuvwxyz" : Str).cps.toList,97≤c∧c≤122:=by decide +kernel
  exact all c this
theorem ok_word {f fP fO:Addr} {fd fdP fdO:FuncData} (F:Fun K "_law_word" "_law_word" (top 20) f fd) (T:Txt K mg) (DP:Def K mg "_law_pick" (top 17) ["_law_d","_law_many"] fP fdP) (DO:Def K mg "_law_of" (top 18) ["_law_d","_law_things"] fO fdO) :
    FnOk P w K mg base CX0 3 f fd ["_law_d"] spWord:=by
  have GP:FnOk P w K mg base CX0 1 fP fdP ["_law_d","_law_many"] spPick:=ok_pick DP.F T
  have GO:FnOk P w K mg base CX0 2 fO fdO ["_law_d","_law_things"] (spOf K):=ok_of DO.F T DP
  refine F.ok scW (fun vs H Q E h=>?_) (fun cdv A outer s H vs Q E hr h=>?_)
  · obtain ⟨p,dc,rfl,_⟩:=h
    rfl
  · obtain ⟨p,dc,rfl,D,k⟩:=h
    have hr1:Room 1 _:=hr.mono (by decide)
    refine ⟨_,(pss_cons
  (ps_set (i:=1) scW.nd rfl (Or.inr rfl) pe_str)
  (pss_cons
  (ps_set (i:=2) scW.nd rfl (Or.inl rfl) (pe_call GO hr rfl DO.mg DO.F.kp DO.b .nil pass0 (pa_cons (pv 0) (pa_cons (pe_lst (pa_cons pe_str (pa_cons pe_str (pa_cons pe_str (pa_cons pe_str (pa_cons pe_str pa_nil)))))) pa_nil))))
  (pss_cons
  (ps_set (i:=3) scW.nd rfl (Or.inl rfl) (pe_op op_add pe_int (pe_call GP hr1 rfl DP.mg DP.F.kp DP.b .nil pass0 (pa_cons (pv 0) (pa_cons (pe_op op_sub pe_int (pe_callB call_len_str (by rfl) T.len bt_len (pa_cons (pv 2) pa_nil))) pa_nil)))))
  (pss_cons
  (ps_set (i:=4) scW.nd rfl (Or.inl rfl) (pe_bm PySem.F.plainAttrs_str PySem.F.slot_str_join PySem.F.type_str_join mt_join pe_str (pa_cons (pe_comp (own:=["_law_k"]) (js:=[1,0]) (N':=["_law_k","_law_letters","_law_d"]) (CompScope.of (osc:=defScope (top 20)) (N:=["_law_d","_law_letters","_law_first","_law_size","_law_some"]) rfl rfl ⟨rfl,by decide +kernel,by decide +kernel,by decide +kernel,rfl,by decide +kernel⟩) rfl (pi_range1 rfl T.range (pa_cons (pv 3) pa_nil)) (fun _ _ _ _ _=>(pg_name (i:=0) (show List.Nodup (["_law_k","_law_letters","_law_d"]:List Str) by decide +kernel) rfl (Or.inl rfl) (Or.inr rfl))) (fun _ _ _ _ _=>pifs_nil) (fun _ _ _ _ _=>(pe_ix (r:=rIxS) ix_str (pv 1) (pe_call GP hr1 rfl DP.mg DP.F.kp DP.b .nil pass0 (pa_cons (pv 2) (pa_cons pe_int pa_nil))) (fun _ _=>rfl)))) pa_nil)))
  (pss_one
  (ps_ret (pe_ix ix_list (pe_lst (pa_cons (pe_op op_add_str (pv 2) (pv 4)) (pa_cons (pe_op op_add_str (pv 4) (pv 2)) pa_nil))) (pe_call GP hr1 rfl DP.mg DP.F.kp DP.b .nil pass0 (pa_cons (pv 0) (pa_cons pe_int pa_nil))) (fun _ _=>rfl)))))))),?_⟩
    refine ⟨_,rfl,(show 5≤sizeLine by decide),fun q hq=>?_⟩
    refine ⟨p,dc,q,_,rfl,D.new hq,SqL.of upd_same,by simp,by simp,fun x H1 hx D1 b1=>?_⟩
    obtain ⟨z,rfl,hz,lz⟩:∃ z:Str,x=.str z∧z.length≤7∧Lc z:=by
      simp only [List.mem_cons,List.not_mem_nil,or_false] at hx
      rcases hx with rfl|rfl|rfl|rfl|rfl
      all_goals exact ⟨_,rfl,by decide +kernel,by unfold Lc;decide +kernel⟩
    refine ⟨_,rfl,_,rfl,z,rfl,Nat.le_trans hz (by decide),_,_,rfl,rfl,p,dc,_,rfl,D1,by omega,by omega,fun r H2 r0 r1 D2 b2=>?_⟩
    refine ⟨_,_,rfl,rfl,?_⟩
    refine ⟨rfl,_,rfl,_,rfl,by omega,by omega,?_⟩
    refine comp_range (n:=(1+r).toNat) (fun i ys σ' H'=>∃ (cs:List Str) (v:Option V),ys=cs.map V.str∧σ'=[v,some (.str "abcdefghijklmnopqrstuvwxyz"),some (.ref p)]∧Dr H' p dc∧But p H2 H'∧∀ c∈cs,c.length=1∧Lc c) (Nat.le_trans (show (1+r).toNat≤8 by omega) (by decide)) ⟨[],none,rfl,rfl,D2,But.refl,fun _ h=>nomatch h⟩ ?_ ?_
    · rintro i ys σ' H' hi hys ⟨cs,v,rfl,rfl,D3,b3,hc⟩ N hN
      refine ⟨_,rfl,_,rfl,p,dc,_,rfl,D3,by decide,by decide,fun r' H4 r0' r1' D4 b4=>?_⟩
      obtain ⟨j,rfl⟩:=Int.eq_ofNat_of_zero_le r0'
      obtain ⟨c,hcj⟩:∃ c,("abcdefghijklmnopqrstuvwxyz" : Str).cps.toList[j]?=some c:=⟨_,List.getElem?_eq_getElem (by show j<26;omega)⟩
      have hat:atI ("abcdefghijklmnopqrstuvwxyz" : Str).cps.toList (j:Int)=some c:=atI_nat hcj
      refine ⟨_,_,c,rfl,rfl,(show 26≤sizeLine by decide),hat,?_⟩
      refine hN _ _ _ (by simpa using hys) ⟨cs++[⟨#[c]⟩],_,by simp,rfl,D4,b3.trans b4,fun c' hc'=>?_⟩
      rcases List.mem_append.mp hc' with hc'|hc'
      · exact hc c' hc'
      · obtain rfl:c'=⟨#[c]⟩:=by simpa using hc'
        refine ⟨rfl,fun x hx=>?_⟩
        obtain rfl:x=c:=by simpa using hx
        exact letters_at hat
    · rintro ys σ' H' hys ⟨cs,v,rfl,rfl,D3,b3,hc⟩
      rw [List.length_map] at hys
      refine ⟨by rw [List.length_map,hys];exact Nat.le_trans (show (1+r).toNat≤8 by omega) (by decide),fun q2 hq2=>?_⟩
      have hsum:(cs.map (·.length)).sum=cs.length:=by
        clear hys
        induction cs with
        |nil=>rfl
        |cons c t ih=>rw [List.map_cons,List.sum_cons,ih fun d hd=>hc d (List.mem_cons_of_mem _ hd),(hc c List.mem_cons_self).1,List.length_cons,Nat.add_comm]
      refine ⟨_,q2,cs,rfl,rfl,SqL.of upd_same,by rw [hsum,show (Str.ofString "").length=0 from rfl];omega,?_⟩
      rw [txt_join]
      have jl:(Str.join (Str.ofString "") cs).length=cs.length:=by
        rw [len_cps,join_cps _ rfl,List.length_flatten,List.map_map,← hsum]
        congr 1
      have jc:Lc (Str.join (Str.ofString "") cs):=fun x hx=>by
        rw [join_cps _ rfl] at hx
        obtain ⟨l,hl,hxl⟩:=List.mem_flatten.mp hx
        obtain ⟨c,hcm,rfl⟩:=List.mem_map.mp hl
        exact (hc c hcm).2 x hxl
      generalize Str.join (Str.ofString "") cs=js at jl jc
      have hj8:js.length+z.length≤8∧1≤js.length:=by omega
      refine ⟨_,rfl,_,rfl,_,_,rfl,rfl,Nat.le_trans (show z.length+js.length≤8 by omega) (by decide),_,rfl,_,rfl,_,_,rfl,rfl,Nat.le_trans (show js.length+z.length≤8 by omega) (by decide),(show 2≤sizeLine by decide),fun q3 hq3=>?_⟩
      have D4:Dr _ p dc:=(D3.new (o:=.lst (cs.map V.str)) hq2).new (o:=.lst [.str (z++js),.str (js++z)]) hq3
      refine ⟨_,rfl,p,dc,_,rfl,D4,by decide,by decide,fun r' H5 r0' r1' D5 b5=>?_⟩
      have nm1:Nm (z++js):=⟨by rw [Str.length_append];omega,by rw [Str.length_append];omega,lz.app jc⟩
      have nm2:Nm (js++z):=⟨by rw [Str.length_append];omega,by rw [Str.length_append];omega,jc.app lz⟩
      have bt:But p H H5:=((((But.new hq).trans b1).trans b2).trans b3).trans (((But.new hq2).trans (But.new hq3)).trans b5)
      have hq5:SqL K H5 q3 [.str (z++js),.str (js++z)]:=D4.seq b5 (SqL.of upd_same)
      by_cases h0:r'=0
      · subst h0
        exact ⟨_,_,_,_,rfl,rfl,hq5,rfl,k _ _ nm1 D5 bt⟩
      · obtain rfl:r'=1:=by omega
        exact ⟨_,_,_,_,rfl,rfl,hq5,rfl,k _ _ nm2 D5 bt⟩
def spWords (K:PySem.W.Frag):Sp:=fun vs H Q _=>∃ (p dc:Addr) (m:Int),vs=[.ref p,.int m]∧Dr H p dc∧0≤m∧m≤60∧∀ (q:Addr) (ys:List Str) (H':Hp),H' q=some (.lst (ys.map V.str))→H q=none→(ys.length:Int)=m→(∀ y∈ys,Nm y)→ys.Nodup→Dr H' p dc→But p H H'→Q (.ref q) H'
theorem scWs:FnScope ["_law_d","_law_many","_law_found","_law_k","_law_word_here","_law_step"] ["_law_d","_law_many"] (defScope (top 21)):=⟨rfl,rfl,rfl,by decide +kernel,rfl,by decide +kernel,by decide +kernel⟩
def wd (t:Nat):Str:=⟨#[97+t % 8,113+t / 8 % 8]⟩
theorem wd_nm (t:Nat):Nm (wd t):=⟨by show 1≤2;decide,by show 2≤8;decide,fun c hc=>by
  have:c=97+t % 8∨c=113+t / 8 % 8:=by simpa [wd] using hc
  omega⟩
theorem wd_inj {k s s':Nat} (h:wd (k+s)=wd (k+s')) (h1:s<64) (h2:s'<64):s=s':=by
  have e:(#[97+(k+s) % 8,113+(k+s) / 8 % 8]:Array Nat)=#[97+(k+s') % 8,113+(k+s') / 8 % 8]:=congrArg Str.cps h
  have e1:97+(k+s) % 8=97+(k+s') % 8∧113+(k+s) / 8 % 8=113+(k+s') / 8 % 8:=by simpa using congrArg Array.toList e
  omega
theorem sub_len {α:Type} [DecidableEq α]:∀ {l ys:List α},l.Nodup→(∀ x∈l,x∈ys)→l.length≤ys.length
  |[],_,_,_=>Nat.zero_le _
  | a::l,ys,nd,hs=>by
    obtain ⟨n1,n2⟩:=List.nodup_cons.mp nd
    have ha:=hs a List.mem_cons_self
    have q:=sub_len (ys:=ys.erase a) n2 fun x hx=>(List.mem_erase_of_ne (by intro z;exact n1 (z ▸ hx))).mpr (hs x (List.mem_cons_of_mem _ hx))
    rw [List.length_erase_of_mem ha] at q
    have:=List.length_pos_of_mem ha
    rw [List.length_cons];omega
theorem nd_map {α β:Type} {f:α→β}:∀ {l:List α},l.Nodup→(∀ a∈l,∀ b∈l,f a=f b→a=b)→(l.map f).Nodup
  |[],_,_=>List.nodup_nil
  | a::l,nd,h=>by
    obtain ⟨n1,n2⟩:=List.nodup_cons.mp nd
    rw [List.map_cons]
    refine List.nodup_cons.mpr ⟨fun m=>?_,nd_map n2 fun x hx y hy=>h x (List.mem_cons_of_mem _ hx) y (List.mem_cons_of_mem _ hy)⟩
    obtain ⟨b,hb,e⟩:=List.mem_map.mp m
    exact n1 (h b (List.mem_cons_of_mem _ hb) a List.mem_cons_self e ▸ hb)
theorem wd_new {k:Nat} {ys:List Str} (hl:ys.length<64) (h:∀ s,s<64→wd (k+s)∈ys):False:=by
  have nd:((List.range 64).map fun s=>wd (k+s)).Nodup:=nd_map List.nodup_range fun a ha b hb e=>wd_inj e (List.mem_range.mp ha) (List.mem_range.mp hb)
  have q:=sub_len nd fun x hx=>by
    obtain ⟨s,hs,rfl⟩:=List.mem_map.mp hx
    exact h s (List.mem_range.mp hs)
  rw [List.length_map,List.length_range] at q
  omega
theorem ok_words {f fP fO fW:Addr} {fd fdP fdO fdW:FuncData} (F:Fun K "_law_words" "_law_words" (top 21) f fd) (T:Txt K mg) (DP:Def K mg "_law_pick" (top 17) ["_law_d","_law_many"] fP fdP) (DO:Def K mg "_law_of" (top 18) ["_law_d","_law_things"] fO fdO)
    (DW:Def K mg "_law_word" (top 20) ["_law_d"] fW fdW):FnOk P w K mg base CX0 4 f fd ["_law_d","_law_many"] (spWords K):=by
  have GW:FnOk P w K mg base CX0 3 fW fdW ["_law_d"] spWord:=ok_word DW.F T DP DO
  refine F.ok scWs (fun vs H Q E h=>?_) (fun cdv A outer s H vs Q E hr h=>?_)
  · obtain ⟨p,dc,m,rfl,_⟩:=h
    rfl
  · obtain ⟨p,dc,m,rfl,D,m0,m1,k⟩:=h
    refine ⟨_,(pss_cons
  (ps_set (i:=2) scWs.nd rfl (Or.inl rfl) (pe_lst pa_nil))
  (pss_cons
  (ps_for PassesOwn.never rfl (pi_range1 rfl T.range (pa_cons (pv 1) pa_nil)) (pg_name (i:=3) scWs.nd rfl (Or.inl rfl)) (pss_cons
  (ps_set (i:=4) scWs.nd rfl (Or.inl rfl) (pe_call GW hr rfl DW.mg DW.F.kp DW.b .nil pass0 (pa_cons (pv 0) pa_nil)))
  (pss_cons
  (ps_for PassesOwn.never rfl (pi_range1 rfl T.range (pa_cons pe_int pa_nil)) (pg_name (i:=5) scWs.nd rfl (Or.inl rfl)) (pss_one
  (ps_if (pt_cmpR op_in_seq (pv 4) (pv 2) rfl) (pss_one
  (ps_set (i:=4) scWs.nd rfl (Or.inl rfl) (pe_op op_add_str (pe_ix ix_str pe_str (pe_op op_mod (pe_op op_add (pv 3) (pv 5)) pe_int) (fun _ _=>rfl)) (pe_ix ix_str pe_str (pe_op op_mod (pe_op op_fdiv (pe_op op_add (pv 3) (pv 5)) pe_int) pe_int) (fun _ _=>rfl))))) pss_nil)))
  (pss_one
  (ps_expr (pe_bm PySem.F.plainAttrs_list PySem.F.slot_list_append PySem.F.type_list_append mt_append (pv 2) (pa_cons (pv 4) pa_nil)))))))
  (pss_one
  (ps_ret (pv 2))))),?_⟩
    refine ⟨(show 0≤sizeLine by decide),fun q hq=>?_⟩
    refine ⟨_,rfl,m,rfl,by omega,by omega,?_⟩
    refine for_range (n:=m.toNat) (fun i σ H1=>∃ (ys:List Str) (a b c:Option V),σ=[some (.ref p),some (.int m),some (.ref q),a,b,c]∧H1 q=some (.lst (ys.map V.str))∧ys.length=i∧(∀ y∈ys,Nm y)∧ys.Nodup∧Dr H1 p dc∧But p H H1)
      ⟨[],none,none,none,rfl,upd_same,rfl,(fun _ h=>by cases h),List.nodup_nil,D.new hq,But.new hq⟩ ?_ ?_
    · rintro i σ H1 hi ⟨ys,a,b,c,rfl,e1,hl,hy,nd,D1,b1⟩
      refine ⟨_,rfl,p,dc,rfl,D1,fun x H2 nx D2 b2=>?_⟩
      have e2:H2 q=some (.lst (ys.map V.str)):=b2 q _ e1 (D1.ne e1 (by intro kvs z;cases z))
      refine ⟨_,rfl,by decide,by decide,?_⟩
      refine for_range (n:=64) (fun j σ H3=>∃ (z:Str) (c:Option V),σ=[some (.ref p),some (.int m),some (.ref q),some (.int (0+(i:Int))),some (.str z),c]∧Nm z∧H3=H2∧(z∉ys∨∀ s,s<j→wd (i+s)∈ys)) ⟨x,_,rfl,nx,rfl,.inr fun s hs=>absurd hs (Nat.not_lt_zero _)⟩ ?_ ?_
      · rintro j σ H3 hj ⟨z,c,rfl,nz,rfl,hz⟩
        refine ⟨_,rfl,_,rfl,q,_,rfl,.inl (SqL.of e2),rfl,?_,_,rfl,?_⟩
        · rw [List.all_eq_true]
          intro v hv
          obtain ⟨y,_,rfl⟩:=List.mem_map.mp hv
          rfl
        · have hin:inV (.str z) (ys.map V.str)=true↔z∈ys:=by
            unfold inV
            rw [List.any_map,List.any_eq_true]
            constructor
            · rintro ⟨y,hy1,hy2⟩
              have:y=z:=by simpa [eqV] using hy2
              exact this ▸ hy1
            · intro hz'
              exact ⟨z,hz',by simp [eqV]⟩
          refine ite2 (fun hc=>?_) (fun hc=>⟨z,_,rfl,nz,rfl,.inl fun hz'=>hc (hin.mpr hz')⟩)
          have hz1:=hin.mp hc
          have hz2:∀ s,s<j→wd (i+s)∈ys:=hz.elim (fun n=>absurd hz1 n) id
          have u1:(0+(i:Int)+(0+(j:Int))) % 8=(((i+j) % 8:Nat):Int):=by omega
          have u2:(0+(i:Int)+(0+(j:Int))) / 8 % 8=(((i+j) / 8 % 8:Nat):Int):=by omega
          have h1:("abcdefgh" : Str).cps.toList[(i+j) % 8]?=some (97+(i+j) % 8):=by
            have:=Nat.mod_lt (i+j) (show 0<8 by decide)
            generalize (i+j) % 8=m8 at this
            revert m8;decide +kernel
          have h2:("qrstuvwx" : Str).cps.toList[(i+j) / 8 % 8]?=some (113+(i+j) / 8 % 8):=by
            have:=Nat.mod_lt ((i+j) / 8) (show 0<8 by decide)
            generalize (i+j) / 8 % 8=m8 at this
            revert m8;decide +kernel
          refine ⟨_,rfl,_,rfl,_,_,rfl,rfl,_,_,rfl,rfl,(by show (0:Int)<8;decide),_,_,_,rfl,rfl,(show 8≤sizeLine by decide),(by rw [u1];exact atI_nat h1),?_⟩
          refine ⟨_,rfl,_,rfl,_,_,rfl,rfl,_,_,rfl,rfl,⟨by decide,by decide⟩,_,_,rfl,rfl,(by show (0:Int)<8;decide),_,_,_,rfl,rfl,(show 8≤sizeLine by decide),(by rw [u2];exact atI_nat h2),?_⟩
          refine ⟨_,_,rfl,rfl,(show 1+1≤sizeLine by decide),wd (i+j),_,rfl,wd_nm _,rfl,?_⟩
          by_cases hw:wd (i+j)∈ys
          · refine .inr fun s hs=>?_
            by_cases hsj:s=j
            · rw [hsj];exact hw
            · exact hz2 s (by omega)
          · exact .inl hw
      · rintro σ H3 ⟨z,c,rfl,nz,rfl,hz⟩
        have znew:z∉ys:=hz.elim id fun h=>(wd_new (by omega) h).elim
        refine ⟨_,rfl,.inl ⟨rfl,_,SqL.of e2⟩,_,rfl,q,_,_,rfl,rfl,e2,by rw [List.length_map];exact small1000 (by omega),?_⟩
        have nqc:q≠dc:=by
          obtain ⟨xs,e⟩:=D.cell
          exact (ne_of_none e hq).symm
        have nqp:q≠p:=D2.ne e2 (by intro kvs z;cases z)
        refine ⟨ys++[z],_,_,_,rfl,by rw [upd_same];simp,by simp [hl],fun y hy'=>(List.mem_append.mp hy').elim (hy y) (fun h=>by rw [List.mem_singleton.mp h];exact nz),nd_snoc nd znew,D2.put nqp nqc,fun b o e hb=>?_⟩
        rw [upd_ne (ne_of_none e hq)]
        exact (b1.trans b2) b o e hb
    · rintro σ H1 ⟨ys,a,b,c,rfl,e1,hl,hy,nd,D1,b1⟩
      exact ⟨_,rfl,k q ys H1 e1 hq (by omega) hy nd D1 b1⟩
end
end Cm
namespace Cm
open PySem L2
theorem uni:∀ c<128,Unicode.isAlpha c=(decide (65≤c∧c≤90) || decide (97≤c∧c≤122))∧Unicode.isLower c=decide (97≤c∧c≤122)∧Unicode.isUpper c=decide (65≤c∧c≤90)∧Unicode.isTitle c=false:=by decide +kernel
def nameB (x:Str):Bool:=decide (x.length≤8) && (x.cps.all (·<128) && ((x.length > 0 && x.cps.all Unicode.isAlpha) && (x.cps.any Unicode.isLower && !x.cps.any fun c=>Unicode.isUpper c || Unicode.isTitle c)))
theorem nameB_iff (x:Str):nameB x=true↔Nm x:=by
  unfold nameB
  simp only [Bool.and_eq_true,decide_eq_true_eq,Bool.not_eq_true',← Array.all_toList,← Array.any_toList,List.all_eq_true,List.any_eq_true,List.any_eq_false]
  constructor
  · rintro ⟨h8,ha,⟨h0,hal⟩,⟨c0,hc0,hl0⟩,hu⟩
    refine ⟨h0,h8,fun c hc=>?_⟩
    have c1:c<128:=ha c hc
    obtain ⟨u1,u2,u3,u4⟩:=uni c c1
    have a1:=hal c hc
    have a2:=hu c hc
    rw [u1] at a1
    rw [u3,u4] at a2
    simp at a1 a2
    omega
  · rintro ⟨h0,h8,lc⟩
    have cc:∀ c∈x.cps.toList,c<128∧97≤c∧c≤122:=fun c hc=>⟨by have:=lc c hc;omega,lc c hc⟩
    refine ⟨h8,fun c hc=>(cc c hc).1,⟨h0,fun c hc=>?_⟩,?_,fun c hc=>?_⟩
    · rw [(uni c (cc c hc).1).1];simp [(cc c hc).2]
    · rw [len_cps] at h0
      obtain ⟨c,hc⟩:=List.exists_mem_of_length_pos (show 0<x.cps.toList.length by omega)
      exact ⟨c,hc,by rw [(uni c (cc c hc).1).2.1];simp [(cc c hc).2]⟩
    · rw [(uni c (cc c hc).1).2.2.1,(uni c (cc c hc).1).2.2.2]
      have:=(cc c hc).2
      simp;omega
structure TxtK (mg:Str→Option Value):Prop where
  ml:∃ t,mg "MOST_LETTERS" = some (.int 8 t)
section
variable {P:Program} {w:World} {K:PySem.W.Frag} {mg:Str→Option Value} {base:Heap}
def spIsName:Sp:=fun vs H Q _=>∃ x:Str,vs=[.str x]∧x.length≤sizeLine∧Q (.bl (nameB x)) H
theorem scIN:FnScope ["text"] ["text"] (defScope (top 7)):=⟨rfl,rfl,rfl,by decide +kernel,rfl,by decide +kernel,by decide +kernel⟩
theorem ok_isname {f:Addr} {fd:FuncData} (F:Fun K "is_name" "is_name" (top 7) f fd) (T:Txt K mg) (TK:TxtK mg):FnOk P w K mg base CX0 1 f fd ["text"] spIsName:=by
  refine F.ok scIN (fun vs H Q E h=>?_) (fun cdv A outer s H vs Q E hr h=>?_)
  · obtain ⟨x,rfl,_⟩:=h
    rfl
  · obtain ⟨x,rfl,hl,k⟩:=h
    obtain ⟨t8,m8⟩:=TK.ml
    refine ⟨_,(pss_one
  (ps_ret (pe_and (pe_cmpR op_le (pe_callB call_len_str (by rfl) T.len bt_len (pa_cons (pv 0) pa_nil)) (pe_glob (v:=.int 8) rfl m8 ⟨_,rfl⟩) (nomark _)) (pe_and (pe_bm0 PySem.F.plainAttrs_str PySem.F.slot_str_isascii PySem.F.type_str_isascii mt_isascii (pv 0)) (pe_and (pe_bm0 PySem.F.plainAttrs_str PySem.F.slot_str_isalpha PySem.F.type_str_isalpha mt_isalpha (pv 0)) (pe_one (pe_bm0 PySem.F.plainAttrs_str PySem.F.slot_str_islower PySem.F.type_str_islower mt_islower (pv 0)))))))),?_⟩
    refine ⟨_,rfl,x,rfl,hl,_,_,rfl,rfl,_,rfl,?_⟩
    unfold nameB at k
    by_cases h8:x.length≤8
    · refine ifT (by simp;omega) ⟨_,rfl,rfl,x,rfl,rfl,_,rfl,?_⟩
      rw [decide_eq_true h8,Bool.true_and] at k
      cases h1:x.cps.all (·<128) with
      |false=>rw [h1] at k;exact ifF h1 k
      | true=>
        rw [h1,Bool.true_and] at k
        refine ifT h1 ⟨_,rfl,rfl,x,rfl,rfl,_,rfl,?_⟩
        cases h2:(x.length > 0 && x.cps.all Unicode.isAlpha) with
        |false=>rw [h2] at k;exact ifF h2 k
        | true=>
          rw [h2,Bool.true_and] at k
          exact ifT h2 ⟨_,rfl,rfl,x,rfl,rfl,k⟩
    · refine ifF (by simp;omega) ?_
      rw [decide_eq_false h8,Bool.false_and] at k
      exact k
end
end Cm
namespace Cm
open PySem L2 PySem.W
inductive Th
  |lost (n:Int)
  |ev (p t:Int) (k:Str) (vs:List Int)
theorem reps_int {K:Frag} {H:Hp}:∀ us:List Int,Reps K H (us.map V.int) (us.map PyData.int)
  |[]=>.nil
  |u::r=>.cons (.int u) (reps_int r)
theorem dep_int:∀ us:List Int,pdDeps (us.map PyData.int)=0
  |[]=>rfl
  |u::r=>by simp only [List.map_cons,pdDeps,pdDep];rw [dep_int r];rfl
theorem sqt_upd {K:Frag} {H:Hp} {a q:Addr} {xs ys:List V} {o:HO} (h:SqT K H a xs) (hq:H q=some (.lst ys)):SqT K (upd H q o) a xs:=by
  rcases h with (h|⟨u,h⟩)|h
  · exact .inl (.inl (by rw [upd_ne (ne_of h hq (by intro z;cases z))];exact h))
  · exact .inl (.inr ⟨u,by rw [upd_ne (ne_of h hq (by intro z;cases z))];exact h⟩)
  · exact .inr h
inductive ThAt (K:Frag) (H:Hp):V→Th→Prop
  |lost {a:Addr} {n:Int}:SqT K H a [.str "lost",.int n]→ThAt K H (.ref a) (.lost n)
  |ev {a b:Addr} {p t:Int} {k:Str} {us:List Int}:SqT K H a [.str "event",.int p,.int t,.str k,.ref b]→SqT K H b (us.map V.int)→ThAt K H (.ref a) (.ev p t k us)
def thD:Th→PyData
  |.lost n=>.tuple [.str "lost",.int n]
  |.ev p t k vs=>.tuple [.str "event",.int p,.int t,.str k,.tuple (vs.map PyData.int)]
theorem ThAt.rep {K:Frag} {H:Hp} {x:V} {th:Th} (h:ThAt K H x th):Rep K H x (thD th):=by
  cases h with
  |lost sq=>exact .tup sq (.cons (.str _) (.cons (.int _) .nil))
  |ev sq sqz=>exact .tup sq (.cons (.str _) (.cons (.int _) (.cons (.int _) (.cons (.str _) (.cons (.tup sqz (reps_int _)) .nil)))))
theorem ThAt.upd {K:Frag} {H:Hp} {x:V} {th:Th} {q:Addr} {ys:List V} {o:HO} (h:ThAt K H x th) (hq:H q=some (.lst ys)):ThAt K (upd H q o) x th:=by
  cases h with
  |lost sq=>exact .lost (sqt_upd sq hq)
  |ev sq sqz=>exact .ev (sqt_upd sq hq) (sqt_upd sqz hq)
theorem ThAt.same {K:Frag} {H H':Hp} {x:V} {th:Th} (h:ThAt K H x th) (s:Same H H'):ThAt K H' x th:=by
  cases h with
  |lost sq=>exact .lost (s.tup sq)
  |ev sq sqz=>exact .ev (s.tup sq) (s.tup sqz)
inductive ThsAt (K:Frag) (H:Hp):List V→List Th→Prop
  |nil:ThsAt K H [] []
  |cons {x:V} {xs:List V} {th:Th} {ths:List Th}:ThAt K H x th→ThsAt K H xs ths→ThsAt K H (x::xs) (th::ths)
theorem ThsAt.upd {K:Frag} {H:Hp} {q:Addr} {ys:List V} {o:HO}:∀ {ths:List Th} {xs:List V},ThsAt K H xs ths→H q=some (.lst ys)→ThsAt K (upd H q o) xs ths
  |_,_,.nil,_=>.nil
  |_,_,.cons r rs,h=>.cons (r.upd h) (rs.upd h)
theorem ThsAt.same {K:Frag} {H H':Hp}:∀ {ths:List Th} {xs:List V},ThsAt K H xs ths→Same H H'→ThsAt K H' xs ths
  |_,_,.nil,_=>.nil
  |_,_,.cons r rs,h=>.cons (r.same h) (rs.same h)
theorem ThsAt.snoc {K:Frag} {H:Hp} {x:V} {th:Th} (hx:ThAt K H x th):∀ {ths:List Th} {xs:List V},ThsAt K H xs ths→ThsAt K H (xs++[x]) (ths++[th])
  |_,_,.nil=>.cons hx .nil
  |_,_,.cons r rs=>.cons r (ThsAt.snoc hx rs)
theorem ThsAt.length {K:Frag} {H:Hp}:∀ {ths:List Th} {xs:List V},ThsAt K H xs ths→xs.length=ths.length
  |_,_,.nil=>rfl
  |_,_,.cons _ rs=>by rw [List.length_cons,List.length_cons,rs.length]
theorem ThsAt.rep {K:Frag} {H:Hp}:∀ {ths:List Th} {xs:List V},ThsAt K H xs ths→Reps K H xs (ths.map thD)
  |_,_,.nil=>.nil
  |_,_,.cons r rs=>.cons r.rep rs.rep
theorem th_dep (th:Th):pdDep (thD th)≤2:=by
  cases th with
  |lost n=>simp [thD,pdDep,pdDeps]
  | ev p t k us=>
    simp only [thD,pdDep,pdDeps]
    rw [dep_int]
    decide
theorem ths_dep:∀ ths:List Th,pdDeps (ths.map thD)≤2
  |[]=>by simp [pdDeps]
  | th::r=>by
    have h1:=th_dep th
    have h2:=ths_dep r
    simp only [List.map_cons,pdDeps]
    omega
theorem eq_nilD (ds:List PyData):pdEq (.list ds) (.list [])=ds.isEmpty:=by
  cases ds <;> simp [pdEq,pdEqs]
theorem tIf_any {tc:TT} {t u:TS} {D:Ends} {σ:St} {H:Hp} (S:Hp→Prop) (h:∀ Q:Bool→Hp→Prop,(∀ b H1,S H1→Q b H1)→tc σ H Q) (h1:∀ H1,S H1→t D σ H1) (h2:∀ H1,S H1→u D σ H1):tIfS tc t u D σ H:=
  h _ fun b H1 s=>by
    cases b with
    |true=>exact h1 H1 s
    |false=>exact h2 H1 s
theorem ThsAt.at {K:Frag} {H:Hp}:∀ {ths:List Th} {xs:List V} {i:Nat} {x:V},ThsAt K H xs ths→xs[i]?=some x→∃ th,ths[i]?=some th∧ThAt K H x th
  |_,_,_,_,.nil,e=>by simp at e
  |_,_,0,_,.cons r _,e=>by simp at e;subst e;exact ⟨_,rfl,r⟩
  | _,_,i+1,_,.cons _ rs,e=>by
    obtain ⟨th,e1,t⟩:=ThsAt.at (i:=i) rs (by simpa using e)
    exact ⟨th,by simpa using e1,t⟩
structure Spn where
  nm:Str
  fi:Int
  la:Option Int
  de:Nat
def laV:Option Int→V
  |none=>.non
  |some l=>.int l
def spV (s:Spn):List V:=[.str s.nm,.int s.fi,laV s.la,.int s.de]
def SpAt (K:Frag) (H:Hp) (x:V) (s:Spn):Prop:=∃ a,x=.ref a∧SqT K H a (spV s)
def PrAt (K:Frag) (H:Hp) (x:V) (p:Str×Str):Prop:=∃ a,x=.ref a∧SqT K H a [.str p.1,.str p.2]
inductive Pd {α β:Type} (R:α→β→Prop):List α→List β→Prop
  |nil:Pd R [] []
  |cons {x:α} {y:β} {xs:List α} {ys:List β}:R x y→Pd R xs ys→Pd R (x::xs) (y::ys)
theorem Pd.map {α β:Type} {R R':α→β→Prop} (h:∀ x y,R x y→R' x y):∀ {xs:List α} {ys:List β},Pd R xs ys→Pd R' xs ys
  |_,_,.nil=>.nil
  |_,_,.cons r t=>.cons (h _ _ r) (Pd.map h t)
theorem Pd.len {α β:Type} {R:α→β→Prop}:∀ {xs:List α} {ys:List β},Pd R xs ys→xs.length=ys.length
  |_,_,.nil=>rfl
  |_,_,.cons _ t=>by rw [List.length_cons,List.length_cons,t.len]
theorem Pd.at {α β:Type} {R:α→β→Prop}:∀ {xs:List α} {ys:List β} {i:Nat} {x:α},Pd R xs ys→xs[i]?=some x→∃ y,ys[i]?=some y∧R x y
  |_,_,_,_,.nil,e=>by simp at e
  |_,_,0,_,.cons r _,e=>by simp at e;subst e;exact ⟨_,rfl,r⟩
  | _,_,i+1,_,.cons _ rs,e=>by
    obtain ⟨y,e1,t⟩:=Pd.at (i:=i) rs (by simpa using e)
    exact ⟨y,by simpa using e1,t⟩
theorem Pd.at' {α β:Type} {R:α→β→Prop}:∀ {xs:List α} {ys:List β} {i:Nat} {y:β},Pd R xs ys→ys[i]?=some y→∃ x,xs[i]?=some x∧R x y
  |_,_,_,_,.nil,e=>by simp at e
  |_,_,0,_,.cons r _,e=>by simp at e;subst e;exact ⟨_,rfl,r⟩
  | _,_,i+1,_,.cons _ rs,e=>by
    obtain ⟨y,e1,t⟩:=Pd.at' (i:=i) rs (by simpa using e)
    exact ⟨y,by simpa using e1,t⟩
theorem Pd.snoc {α β:Type} {R:α→β→Prop} {x:α} {y:β} (h:R x y):∀ {xs:List α} {ys:List β},Pd R xs ys→Pd R (xs++[x]) (ys++[y])
  |_,_,.nil=>.cons h .nil
  |_,_,.cons r t=>.cons r (t.snoc h)
theorem Pd.set {α β:Type} {R:α→β→Prop} {x:α} {y:β} (h:R x y):∀ {xs:List α} {ys:List β} (i:Nat),Pd R xs ys→Pd R (xs.set i x) (ys.set i y)
  |_,_,_,.nil=>.nil
  |_,_,0,.cons r t=>.cons h t
  |_,_,i+1,.cons r t=>.cons r (t.set h i)
theorem Pd.take {α β:Type} {R:α→β→Prop}:∀ {xs:List α} {ys:List β} (i:Nat),Pd R xs ys→Pd R (xs.take i) (ys.take i)
  |_,_,_,.nil=>by simp;exact .nil
  |_,_,0,.cons r t=>.nil
  |_,_,i+1,.cons r t=>.cons r (t.take i)
theorem take_snoc {α:Type} {l:List α} {i:Nat} {x:α} (h:l[i]?=some x):l.take (i+1)=l.take i++[x]:=by
  rw [List.take_add_one,h];rfl
theorem SpAt.same {K:Frag} {H H':Hp} {x:V} {s:Spn} (h:SpAt K H x s) (e:Same H H'):SpAt K H' x s:=let ⟨a,q,t⟩:=h;⟨a,q,e.tup t⟩
theorem SpAt.upd {K:Frag} {H:Hp} {x:V} {s:Spn} {q:Addr} {ys:List V} {o:HO} (h:SpAt K H x s) (hq:H q=some (.lst ys)):SpAt K (upd H q o) x s:=let ⟨a,z,t⟩:=h;⟨a,z,sqt_upd t hq⟩
theorem PrAt.same {K:Frag} {H H':Hp} {x:V} {s:Str×Str} (h:PrAt K H x s) (e:Same H H'):PrAt K H' x s:=let ⟨a,q,t⟩:=h;⟨a,q,e.tup t⟩
abbrev SpsAt (K:Frag) (H:Hp):=Pd (SpAt K H)
abbrev PrsAt (K:Frag) (H:Hp):=Pd (PrAt K H)
def namesP (ps:List (Str×Str)):List Str:=ps.flatMap fun p=>[p.1,p.2]
structure PrOk (ps:List (Str×Str)):Prop where
  nd:(namesP ps).Nodup
  nm:∀ x∈namesP ps,Nm x
  le:ps.length≤3
theorem inV_str (x:Str):∀ ys:List Str,inV (.str x) (ys.map V.str)=decide (x∈ys)
  |[]=>rfl
  | y::r=>by
    have ih:=inV_str x r
    unfold inV at ih ⊢
    rw [List.map_cons,List.any_cons,ih]
    by_cases h:x=y
    · subst h;simp [eqV]
    · have:¬ y=x:=fun z=>h z.symm
      simp [eqV,h,this]
theorem flat_str:∀ ys:List Str,(ys.map V.str).all flatV=true
  |[]=>rfl
  |y::r=>by rw [List.map_cons,List.all_cons,flat_str r];rfl
theorem cut_pre {xs:List V} {a:Nat} (h:a≤xs.length):cutV xs none (some (a:Int))=xs.take a:=by
  show (xs.drop (HT.sIx _ 0 none)).take (HT.sIx _ _ (some (a:Int))-HT.sIx _ 0 none)=_
  rw [HT.sIx_none,HT.sIx_nat,List.drop_zero,Nat.sub_zero]
  congr 1
  omega
theorem cut_drop (xs:List V) (k:Nat) (h:k≤xs.length):cutV xs (some (k:Int)) none=xs.drop k:=by
  unfold cutV
  rw [HT.sIx_nat,HT.sIx_none,Nat.min_eq_left h]
  exact List.take_of_length_le (by rw [List.length_drop];omega)
theorem upd_twice {H:Hp} {a:Addr} {x y:HO}:upd (upd H a x) a y=upd H a y:=funext fun b=>by
  by_cases h:b=a
  · subst h;rw [upd_same,upd_same]
  · rw [upd_ne h,upd_ne h,upd_ne h]
end Cm
namespace Cm
open PySem L2 PySem.W
theorem pi_tupK {X:Cx} {tg l:Expr} {tl:TE} {K:PySem.W.Frag} (hK:X.K=K) (hl:PE X l tl):PI X tg l (iTup K tl):=by
  subst hK
  exact pi_tup hl
theorem comp2_lt {K:Frag} {a:Addr} {xs:List V} {ins:List (List V)} {H0:Hp} {F:List V→Hp→Prop} {σ0:St} (e0:∃ u v,σ0=[u,v]) (hq:SqL K H0 a xs) (hp:Pd (fun x zs=>∃ b,x=V.ref b∧SqT K H0 b zs) xs ins) (hl:ins.flatten.length≤sizeLine) (hF:F ins.flatten H0) :
    ∃ W:Nat→Nat→List V→St→Hp→Prop,(∃ m,W 0 m [] σ0 H0)∧CTurn2 (Itl K a) (gName 0) tYes (iTup K (tVar 0)) (gName 1) tYes (tVar 1) F W:=by
  have pl:=hp.len
  refine ⟨fun i m ys σ H=>m=xs.length-i∧i≤xs.length∧H=H0∧(∃ u v,σ=[u,v])∧ys=(ins.take i).flatten,⟨xs.length,by simp,Nat.zero_le _,rfl,e0,by simp⟩,?_⟩
  rintro i m ys σ H ⟨rfl,hi,rfl,⟨u,v,rfl⟩,rfl⟩
  by_cases hlt:i<xs.length
  · refine .inr ⟨⟨xs,xs[i],hq,by simp [hlt]⟩,fun x H' y=>?_⟩
    obtain ⟨rfl,y⟩:=y
    have ex:=y xs hq
    obtain ⟨zs,ez,b,rfl,hz⟩:=hp.at ex
    have hil:i<ins.length:=by omega
    have et:ins.take (i+1)=ins.take i++[zs]:=take_snoc ez
    have lz:((ins.take i).flatten++zs).length≤sizeLine:=by
      refine Nat.le_trans ?_ hl
      have e:ins.flatten=(ins.take i).flatten++zs++(ins.drop (i+1)).flatten:=by
        conv=>lhs;rw [← List.take_append_drop (i+1) ins,List.flatten_append,et,List.flatten_append]
        simp
      rw [e]
      simp only [List.length_append]
      omega
    dsimp only [gName,tYes,List.set]
    rw [if_pos rfl]
    refine ⟨_,rfl,b,rfl,⟨zs,hz⟩,fun j m ys' σ' H2=>m=zs.length-j∧j≤zs.length∧H2=H'∧(∃ v,σ'=[some (.ref b),v])∧ys'=(ins.take i).flatten++zs.take j,⟨zs.length,by simp,Nat.zero_le _,rfl,⟨v,rfl⟩,by simp⟩,?_⟩
    rintro j m ys' σ' H2 ⟨rfl,hj,rfl,⟨v,rfl⟩,rfl⟩
    by_cases hjt:j<zs.length
    · refine .inr ⟨⟨zs,zs[j],hz,by simp [hjt]⟩,?_,fun x H3 y=>?_⟩
      · rw [List.length_append,List.length_take]
        rw [List.length_append] at lz
        omega
      · obtain ⟨rfl,y⟩:=y
        have ex:=y zs hz
        dsimp only [gName,tYes,List.set]
        rw [if_pos rfl]
        exact ⟨x,rfl,_,(by omega),rfl,hjt,rfl,⟨_,rfl⟩,by rw [take_snoc ex,List.append_assoc]⟩
    · have e:j=zs.length:=by omega
      subst e
      refine .inl ⟨⟨zs,hz,Nat.le_refl _⟩,xs.length-(i+1),by omega,rfl,hlt,rfl,⟨_,_,rfl⟩,?_⟩
      rw [et,List.flatten_append,List.take_length]
      simp
  · have e:i=xs.length:=by omega
    subst e
    refine .inl ⟨⟨xs,hq,Nat.le_refl _⟩,?_⟩
    rw [show ins.take xs.length=ins from by rw [pl,List.take_length]]
    exact hF
theorem prs_ins {K:Frag} {H:Hp}:∀ {xs:List V} {ps:List (Str×Str)},PrsAt K H xs ps→Pd (fun x zs=>∃ b,x=V.ref b∧SqT K H b zs) xs (ps.map fun p=>[V.str p.1,V.str p.2])
  |_,_,.nil=>.nil
  |_,_,.cons r t=>.cons r (prs_ins t)
theorem flat_names:∀ ps:List (Str×Str),(ps.map fun p=>[V.str p.1,V.str p.2]).flatten=(namesP ps).map V.str
  |[]=>rfl
  | p::r=>by
    have:=flat_names r
    rw [List.map_cons,List.flatten_cons,this]
    rfl
theorem names_len:∀ ps:List (Str×Str),(namesP ps).length=2*ps.length
  |[]=>rfl
  | p::r=>by
    have:=names_len r
    show ([p.1,p.2]++namesP r).length=_
    rw [List.length_append,this,List.length_cons]
    simp
    omega
section
variable {P:Program} {w:World} {K:PySem.W.Frag} {mg:Str→Option Value} {base:Heap}
abbrev NNp:List Str:=["pairs","names","at","name"]
theorem scNp:FnScope NNp ["pairs"] (defScope (top 9)):=⟨rfl,rfl,rfl,by decide +kernel,rfl,by decide +kernel,by decide +kernel⟩
def spNp (K:Frag):Sp:=fun vs H Q _=>∃ (q:Addr) (xs:List V) (ps:List (Str×Str)),vs=[.ref q]∧SqL K H q xs∧PrsAt K H xs ps∧PrOk ps∧∀ H',Same H H'→Q .non H'
theorem ok_np {f fI:Addr} {fd fdI:FuncData} (F:Fun K "need_pairs" "need_pairs" (top 9) f fd) (T:Txt K mg) (TK':TxtK mg) (hen:mg "enumerate" = none) (DI:Def K mg "is_name" (top 7) ["text"] fI fdI):FnOk P w K mg base CX0 2 f fd ["pairs"] (spNp K):=by
  have GI:FnOk P w K mg base CX0 1 fI fdI ["text"] spIsName:=ok_isname DI.F T TK'
  refine F.ok scNp (fun vs H Q E h=>?_) (fun cdv A outer s H vs Q E hr h=>?_)
  · obtain ⟨q,xs,ps,rfl,_⟩:=h
    rfl
  · obtain ⟨q,xs,ps,rfl,hq,pe,ok,k⟩:=h
    refine ⟨_,(pss_cons
  (ps_setComp2 (g:=gName 0) (g2:=gName 1) (tt:=tYes) (tt2:=tYes) (te:=tVar 1) (wi2:=iTup K (tVar 0)) (i:=1) (own:=["pair","name"]) (js:=[]) (N':=["pair","name"]) (CompScope.of (osc:=defScope (top 9)) (N:=NNp) rfl rfl ⟨rfl,by decide +kernel,by decide +kernel,by decide +kernel,rfl,by decide +kernel⟩) rfl scNp.nd rfl rfl (pi_list (pv 0)) (fun _ _ _ _ _=>(pg_name (i:=0) (show List.Nodup (["pair","name"]:List Str) by decide +kernel) rfl (Or.inl rfl) (Or.inr rfl))) (fun _ _ _ _ _=>pifs_nil) (fun _ _ _ _ _=>pi_tupK rfl (pv 0)) (fun _ _=>rfl) (fun _ _ _ _ _=>(pg_name (i:=1) (show List.Nodup (["pair","name"]:List Str) by decide +kernel) rfl (Or.inl rfl) (Or.inr rfl))) (fun _ _ _ _ _=>pifs_nil) (fun _ _ _ _ _=>pv 1))
  (pss_one
  (ps_for PassesOwn.never rfl (pi_enumL rfl hen bt_enumerate (pa_cons (pv 1) pa_nil)) (pg_tup rfl (pgs_cons (pg_name (i:=2) scNp.nd rfl (Or.inl rfl)) (pgs_cons (pg_name (i:=3) scNp.nd rfl (Or.inl rfl)) pgs_nil))) (pss_one
    (ps_if (PW.pt (pw_or (pt_not (pt_val (pe_call GI hr rfl DI.mg DI.F.kp DI.b .nil pass0 (pa_cons (pv 3) pa_nil)))) (pw_or1 (pt_cmpR op_in_seq (pv 3) (pe_slice sl_list (pv 1) po_none (po_some (pv 2))) rfl)))) (pss_one ps_never) pss_nil))))),?_⟩
    have big:1000≤sizeLine:=by decide
    have nl:=names_len ps
    have le:=ok.le
    refine ⟨_,rfl,q,rfl,⟨xs,hq⟩,?_⟩
    refine comp2_lt ⟨_,_,rfl⟩ hq (prs_ins pe) (by rw [flat_names,List.length_map];omega) ?_
    rw [flat_names]
    refine ⟨by rw [List.length_map];omega,fun p hp=>?_⟩
    have s1:Same H (upd H p (.lst ((namesP ps).map V.str))):=Same.new hp
    have h1:(upd H p (.lst ((namesP ps).map V.str))) p=some (.lst ((namesP ps).map V.str)):=upd_same
    generalize upd H p (.lst ((namesP ps).map V.str))=H1 at s1 h1 ⊢
    try dsimp only [gName]
    refine ⟨_,rfl,p,rfl,⟨_,SqL.of h1⟩,?_⟩
    refine for_enumL (K:=K) (a:=p) (xs:=(namesP ps).map V.str) (fun i σ' H'=>(∃ u2 u3,σ'=[some (.ref q),some (.ref p),u2,u3])∧Same H1 H') ⟨⟨_,_,rfl⟩,Same.refl _⟩ (fun i σ' H' _ ⟨_,s'⟩=>SqL.of (s' _ _ h1)) ?_ ?_
    · rintro i v σ' H2 t hv ⟨⟨u2,u3,rfl⟩,s2⟩ ht
      rw [List.getElem?_map] at hv
      obtain ⟨x,hx,rfl⟩:∃ x,(namesP ps)[i]?=some x∧V.str x=v:=by
        cases hj:(namesP ps)[i]? with
        |none=>rw [hj] at hv;cases hv
        |some x=>rw [hj] at hv;exact ⟨x,rfl,by simpa using hv⟩
      have s3:Same H2 (upd H2 t (.tup [.int (i:Nat),.str x])):=Same.new ht
      refine ⟨t,_,rfl,SqT.of upd_same,rfl,_,_,rfl,_,_,rfl,rfl,?_⟩
      have S3:=s2.trans s3
      generalize upd H2 t (.tup [.int (i:Nat),.str x])=H3 at s3 S3 ⊢
      have mx:=List.mem_of_getElem? hx
      have nx:=ok.nm x mx
      have bx:nameB x=true:=(nameB_iff x).mpr nx
      have x8:=nx.hi
      refine ⟨_,rfl,x,rfl,by omega,?_⟩
      rw [bx]
      refine ⟨true,rfl,ifF rfl ?_⟩
      refine ⟨_,rfl,_,rfl,_,rfl,_,rfl,p,_,rfl,SqL.of (S3 _ _ h1),fun l hl=>?_⟩
      have il:i<(namesP ps).length:=(List.getElem?_eq_some_iff.mp hx).1
      rw [cut_pre (show i≤((namesP ps).map V.str).length by rw [List.length_map];omega),← List.map_take]
      refine ⟨l,_,rfl,.inl (SqL.of upd_same),rfl,flat_str _,?_⟩
      have nin:¬ x∈(namesP ps).take i:=fun m=>by
        have nd:=ok.nd
        rw [← List.take_append_drop i (namesP ps),List.nodup_append] at nd
        refine nd.2.2 x m x ?_ rfl
        rw [List.drop_eq_getElem_cons il]
        rw [List.getElem?_eq_getElem il] at hx
        injection hx with hx
        rw [hx]
        exact List.mem_cons_self ..
      refine ⟨_,rfl,ifF ?_ ?_⟩
      · show inV (.str x) (((namesP ps).take i).map V.str)=false
        rw [inV_str]
        exact decide_eq_false nin
      · exact ⟨⟨_,_,rfl⟩,S3.trans (Same.new hl)⟩
    · rintro σ' H' ⟨_,s'⟩
      exact k H' (s1.trans s')
end
end Cm
namespace Cm
open PySem L2 PySem.W
def fellow (ps:List (Str×Str)) (k:Str):Option Str:=(ps.find? fun q=>decide (q.2=k)).map (·.1)
def clS (s:Spn) (p:Int):Spn:=⟨s.nm,s.fi,some p,s.de⟩
structure Ws where
  fo:List Spn
  lo:List Int
  ar:List Nat
def closeS (z:Ws) (op:Str) (p:Int):Ws:=match z.ar.getLast? with
  |none=>⟨z.fo,z.lo++[p],z.ar⟩
  | some j=>match z.fo[j]? with
    |none=>z
    |some s=>if s.nm=op then ⟨z.fo.set j (clS s p),z.lo,z.ar.dropLast⟩ else ⟨z.fo,z.lo++[p],z.ar⟩
def stepS (ps:List (Str×Str)) (z:Ws):Th→Ws
  |.lost _=>⟨z.fo,z.lo,[]⟩
  | .ev p _ k _=>if k∈ps.map (·.1) then ⟨z.fo++[⟨k,p,none,z.ar.length⟩],z.lo,z.ar++[z.fo.length]⟩
    else match fellow ps k with
      |none=>z
      |some op=>closeS z op p
def runS (ps:List (Str×Str)) (ths:List Th):Ws:=ths.foldl (stepS ps) ⟨[],[],[]⟩
structure WsOk (z:Ws) (n:Nat):Prop where
  ar:∀ j∈z.ar,j<z.fo.length
  fl:z.fo.length≤n
  ll:z.lo.length≤n
  al:z.ar.length≤n
theorem WsOk.step {ps:List (Str×Str)} {z:Ws} {n:Nat} (h:WsOk z n) (th:Th):WsOk (stepS ps z th) (n+1):=by
  obtain ⟨h1,h2,h3,h4⟩:=h
  have same:WsOk z (n+1):=⟨h1,by omega,by omega,by omega⟩
  have more:∀ p:Int,WsOk ⟨z.fo,z.lo++[p],z.ar⟩ (n+1):=fun p=>⟨h1,by show z.fo.length≤_;omega,by simp;omega,by show z.ar.length≤_;omega⟩
  cases th with
  |lost m=>exact ⟨fun j m=>(by cases m),by show z.fo.length≤_;omega,by show z.lo.length≤_;omega,Nat.zero_le _⟩
  | ev p t k us=>
    show WsOk (if k∈ps.map (·.1) then _ else _) _
    split
    · refine ⟨fun j m=>?_,by simp;omega,by show z.lo.length≤_;omega,by simp;omega⟩
      simp only [List.length_append,List.length_cons,List.length_nil]
      rcases List.mem_append.mp m with m|m
      · have:=h1 j m;omega
      · simp at m;omega
    · cases fellow ps k with
      |none=>exact same
      | some op=>
        show WsOk (closeS z op p) _
        unfold closeS
        split
        · exact more p
        · split
          · exact same
          · split
            · refine ⟨fun i m=>?_,by simp;omega,by show z.lo.length≤_;omega,by simp;omega⟩
              rw [List.length_set]
              exact h1 i (List.dropLast_subset _ m)
            · exact more p
section
variable {P:Program} {w:World} {K:PySem.W.Frag} {mg:Str→Option Value} {base:Heap}
abbrev NCl:List Str:=["found","at","last"]
theorem scCl:FnScope NCl ["found","at","last"] (defScope (top 11)):=⟨rfl,rfl,rfl,by decide +kernel,rfl,by decide +kernel,by decide +kernel⟩
def spCl (K:Frag):Sp:=fun vs H Q _=>∃ (lf:Addr) (xs:List V) (fo:List Spn) (j:Nat) (s:Spn) (p:Int),vs=[.ref lf,.int j,.int p]∧H lf=some (.lst xs)∧SpsAt K H xs fo∧fo[j]?=some s∧
  ∀ H' xs',But lf H H'→H' lf=some (.lst xs')→SpsAt K H' xs' (fo.set j (clS s p))→Q .non H'
theorem ok_cl {f:Addr} {fd:FuncData} (F:Fun K "close" "close" (top 11) f fd):FnOk P w K mg base CX0 1 f fd ["found","at","last"] (spCl K):=by
  refine F.ok scCl (fun vs H Q E h=>?_) (fun cdv A outer s H vs Q E hr h=>?_)
  · obtain ⟨lf,xs,fo,j,s,p,rfl,_⟩:=h
    rfl
  · obtain ⟨lf,xs,fo,j,s',p,rfl,hf,sp,hs,k⟩:=h
    refine ⟨_,(pss_one
  (ps_asg (pe_op op_catA (pe_op op_catA (pe_slice sl_tupW (pe_ix ix_list (pv 0) (pv 1) (fun _ _=>rfl)) po_none (po_some pe_int)) (pe_tup (pa_cons (pv 2) pa_nil))) (pe_slice sl_tupW (pe_ix ix_list (pv 0) (pv 1) (fun _ _=>rfl)) (po_some pe_int) po_none)) (pg_sub (pv 0) (pv 1) set_list))),?_⟩
    obtain ⟨x,hx,a,rfl,ha⟩:=sp.at' hs
    have c1:cutV (spV s') none (some 2)=[.str s'.nm,.int s'.fi]:=cut_pre (xs:=spV s') (a:=2) (by show 2≤4;decide)
    have c2:cutV (spV s') (some 3) none=[.int s'.de]:=cut_drop (spV s') 3 (by show 3≤4;decide)
    refine ⟨_,rfl,_,rfl,lf,xs,_,_,rfl,rfl,SqL.of hf,atI_nat (j:=j) hx,_,rfl,a,_,rfl,ha,fun e=>?_,fun p1 hp1=>?_⟩
    · have:=congrArg List.length (c1.symm.trans e)
      simp [spV] at this
    rw [c1]
    have s1:Same H (upd H p1 (.tup [.str s'.nm,.int s'.fi])):=Same.new hp1
    have e1:(upd H p1 (.tup [.str s'.nm,.int s'.fi])) p1=some (.tup [.str s'.nm,.int s'.fi]):=upd_same
    generalize upd H p1 (.tup [.str s'.nm,.int s'.fi])=H1 at s1 e1 ⊢
    refine ⟨_,rfl,(show 1≤sizeLine by decide),fun p2 hp2=>?_⟩
    have s2:Same H1 (upd H1 p2 (.tup [.int p])):=Same.new hp2
    have e2:(upd H1 p2 (.tup [.int p])) p2=some (.tup [.int p]):=upd_same
    generalize upd H1 p2 (.tup [.int p])=H2 at s2 e2 ⊢
    refine ⟨p1,p2,_,_,rfl,rfl,SqT.of (s2 _ _ e1),SqT.of e2,(show 3≤sizeLine by decide),(fun z=>by cases z),(fun z=>by cases z),fun p3 hp3=>?_⟩
    have s3:Same H2 (upd H2 p3 (.tup [.str s'.nm,.int s'.fi,.int p])):=Same.new hp3
    have e3:(upd H2 p3 (.tup [.str s'.nm,.int s'.fi,.int p])) p3=some (.tup [.str s'.nm,.int s'.fi,.int p]):=upd_same
    have S3:=s1.trans (s2.trans s3)
    show tSl _ _ _ _ _ (upd H2 p3 (.tup [.str s'.nm,.int s'.fi,.int p])) _
    generalize upd H2 p3 (.tup [.str s'.nm,.int s'.fi,.int p])=H3 at s3 e3 S3 ⊢
    refine ⟨_,rfl,_,rfl,lf,xs,_,_,rfl,rfl,SqL.of (S3 _ _ hf),atI_nat (j:=j) hx,_,rfl,a,_,rfl,S3.tup ha,fun e=>?_,fun p4 hp4=>?_⟩
    · have:=congrArg List.length (c2.symm.trans e)
      simp [spV] at this
    rw [c2]
    have s4:Same H3 (upd H3 p4 (.tup [.int s'.de])):=Same.new hp4
    have e4:(upd H3 p4 (.tup [.int s'.de])) p4=some (.tup [.int s'.de]):=upd_same
    generalize upd H3 p4 (.tup [.int s'.de])=H4 at s4 e4 ⊢
    refine ⟨p3,p4,_,_,rfl,rfl,SqT.of (s4 _ _ e3),SqT.of e4,(show 4≤sizeLine by decide),(fun z=>by cases z),(fun z=>by cases z),fun p5 hp5=>?_⟩
    have s5:Same H4 (upd H4 p5 (.tup (spV (clS s' p)))):=Same.new hp5
    have e5:(upd H4 p5 (.tup (spV (clS s' p)))) p5=some (.tup (spV (clS s' p))):=upd_same
    have S5:=S3.trans (s4.trans s5)
    show gSub _ _ _ _ _ (upd H4 p5 (.tup (spV (clS s' p)))) _
    generalize upd H4 p5 (.tup (spV (clS s' p)))=H5 at s5 e5 S5 ⊢
    have hf5:=S5 _ _ hf
    have sp5:SpsAt K H5 xs fo:=sp.map fun _ _ q=>q.same S5
    have jl:j<xs.length:=(List.getElem?_eq_some_iff.mp hx).1
    refine ⟨_,rfl,_,rfl,lf,xs,_,j,rfl,rfl,hf5,?_,?_⟩
    · unfold ixN
      simp
      omega
    · refine k _ (xs.set j (.ref p5)) (fun b o e hb=>by rw [upd_ne hb];exact S5 _ _ e) upd_same ?_
      refine Pd.set ⟨p5,rfl,sqt_upd (SqT.of e5) hf5⟩ j (sp5.map fun _ _ q=>q.upd hf5)
end
end Cm
namespace Cm
open PySem L2 PySem.W
def kvP (ps:List (Str×Str)):List (Key×V):=ps.map fun q=>(.inr q.2,.str q.1)
theorem val_kvP (k:Str):∀ ps:List (Str×Str),valV (kvP ps) (.inr k)=(fellow ps k).map V.str
  |[]=>rfl
  | p::r=>by
    have ih:=val_kvP k r
    unfold kvP fellow at ih ⊢
    rw [List.map_cons,List.find?_cons]
    by_cases h:p.2=k
    · rw [valV_pos (by rw [h]),decide_eq_true h]
      rfl
    · rw [valV_neg (fun e=>h (by injection e)),decide_eq_false h]
      exact ih
theorem closings_nd {ps:List (Str×Str)} (h:(namesP ps).Nodup):(ps.map (·.2)).Nodup:=by
  have:(ps.map (·.2)).Sublist (namesP ps):=by
    induction ps with
    |nil=>exact List.Sublist.refl _
    | cons p r ih=>
      have h':(p.1::p.2::namesP r).Nodup:=h
      have h2:(namesP r).Nodup:=(List.nodup_cons.mp (List.nodup_cons.mp h').2).2
      exact List.Sublist.cons _ (List.Sublist.cons_cons _ (ih h2))
  exact this.nodup h
theorem put_kvP {ps:List (Str×Str)} {i:Nat} {p:Str×Str} (nd:(ps.map (·.2)).Nodup) (h:ps[i]?=some p):putK (kvP (ps.take i)) (.inr p.2) (.str p.1)=kvP (ps.take (i+1)):=by
  have il:=(List.getElem?_eq_some_iff.mp h).1
  have hn:valV (kvP (ps.take i)) (.inr p.2)=none:=by
    rw [val_kvP]
    unfold fellow
    have:(ps.take i).find? (fun q=>decide (q.2=p.2))=none:=by
      rw [List.find?_eq_none]
      intro q hq
      have nin:¬ p.2∈(ps.map (·.2)).take i:=fun m=>by
        have nd':=nd
        rw [← List.take_append_drop i (ps.map (·.2)),List.nodup_append] at nd'
        refine nd'.2.2 _ m p.2 ?_ rfl
        have il':i<(ps.map (·.2)).length:=by rw [List.length_map];exact il
        rw [List.drop_eq_getElem_cons il']
        have:(ps.map (·.2))[i]=p.2:=by
          rw [List.getElem?_eq_getElem il] at h
          injection h with h
          rw [List.getElem_map,h]
        rw [this]
        exact List.mem_cons_self ..
      rw [decide_eq_true_eq]
      intro e
      refine nin ?_
      rw [← List.map_take,← e]
      exact List.mem_map_of_mem hq
    rw [this]
    rfl
  rw [putK_new _ hn,take_snoc h]
  unfold kvP
  rw [List.map_append]
  rfl
def gPr (K:PySem.W.Frag):TG:=gTup K 2 (gCons (gName 0) (gCons (gName 1) gNil))
structure WF (H:Hp) (lf ll la lop fd:Addr):Prop where
  f1:H lf=none
  f2:H ll=none
  f3:H la=none
  n1:lf≠ll
  n2:lf≠la
  n3:ll≠la
  o1:lop≠lf
  o2:lop≠ll
  o3:lop≠la
structure WH (K:Frag) (H:Hp) (lf ll la lop fd:Addr) (ps:List (Str×Str)) (z:Ws) (H':Hp):Prop where
  sm:Same H H'
  xs:∃ xs,H' lf=some (.lst xs)∧SpsAt K H' xs z.fo
  hl:H' ll=some (.lst (z.lo.map V.int))
  ha:H' la=some (.lst (z.ar.map fun n:Nat=>V.int n))
  ho:H' lop=some (.lst ((ps.map (·.1)).map V.str))
  hd:H' fd=some (.dK (kvP ps))
section
variable {K:Frag} {H H' H'':Hp} {lf ll la lop fd:Addr} {ps:List (Str×Str)} {z:Ws}
theorem WH.same (h:WH K H lf ll la lop fd ps z H') (e:Same H' H''):WH K H lf ll la lop fd ps z H'':=by
  obtain ⟨sm,⟨xs,h1,h2⟩,hl,ha,ho,hd⟩:=h
  exact ⟨sm.trans e,⟨xs,e _ _ h1,h2.map fun _ _ q=>q.same e⟩,e _ _ hl,e _ _ ha,e _ _ ho,e _ _ hd⟩
theorem WH.putL (W:WF H lf ll la lop fd) (h:WH K H lf ll la lop fd ps z H') (lo:List Int):WH K H lf ll la lop fd ps ⟨z.fo,lo,z.ar⟩ (upd H' ll (.lst (lo.map V.int))):=by
  obtain ⟨sm,⟨xs,h1,h2⟩,hl,ha,ho,hd⟩:=h
  refine ⟨fun b o e=>by rw [upd_ne (ne_of_none e W.f2)];exact sm b o e,⟨xs,by rw [upd_ne W.n1];exact h1,h2.map fun _ _ q=>q.upd hl⟩,upd_same,by rw [upd_ne W.n3.symm];exact ha,by rw [upd_ne W.o2];exact ho,?_⟩
  rw [upd_ne (fun e=>by rw [e,hl] at hd;cases hd)];exact hd
theorem WH.putA (W:WF H lf ll la lop fd) (h:WH K H lf ll la lop fd ps z H') (ar:List Nat):WH K H lf ll la lop fd ps ⟨z.fo,z.lo,ar⟩ (upd H' la (.lst (ar.map fun n:Nat=>V.int n))):=by
  obtain ⟨sm,⟨xs,h1,h2⟩,hl,ha,ho,hd⟩:=h
  refine ⟨fun b o e=>by rw [upd_ne (ne_of_none e W.f3)];exact sm b o e,⟨xs,by rw [upd_ne W.n2];exact h1,h2.map fun _ _ q=>q.upd ha⟩,by rw [upd_ne W.n3];exact hl,upd_same,by rw [upd_ne W.o3];exact ho,?_⟩
  rw [upd_ne (fun e=>by rw [e,ha] at hd;cases hd)];exact hd
theorem WH.putF (W:WF H lf ll la lop fd) (h:WH K H lf ll la lop fd ps z H') {xs:List V} {fo:List Spn} (b:But lf H' H'') (e:H'' lf=some (.lst xs)) (sp:SpsAt K H'' xs fo):WH K H lf ll la lop fd ps ⟨fo,z.lo,z.ar⟩ H'':=by
  obtain ⟨sm,⟨xs',h1,h2⟩,hl,ha,ho,hd⟩:=h
  refine ⟨fun c o e=>b c o (sm c o e) (ne_of_none e W.f1),⟨xs,e,sp⟩,b _ _ hl W.n1.symm,b _ _ ha W.n2.symm,b _ _ ho W.o1,b _ _ hd fun e=>?_⟩
  rw [e,h1] at hd;cases hd
end
section
variable {P:Program} {w:World} {K:PySem.W.Frag} {mg:Str→Option Value} {base:Heap}
abbrev NWk:List Str:=["told","pairs","openings","fellows","found","lone","around","thing"]
theorem scWk:FnScope NWk ["told","pairs"] (defScope (top 10)):=⟨rfl,rfl,rfl,by decide +kernel,rfl,by decide +kernel,by decide +kernel⟩
def spWk (K:Frag):Sp:=fun vs H Q _=>∃ (lt q:Addr) (ts xs:List V) (ths:List Th) (ps:List (Str×Str)),vs=[.ref lt,.ref q]∧SqL K H lt ts∧ThsAt K H ts ths∧ths.length≤40∧SqL K H q xs∧PrsAt K H xs ps∧PrOk ps∧
  ∀ (t lf ll:Addr) (ys:List V) (H':Hp),Same H H'→H lf=none→H ll=none→lf≠ll→H' t=some (.tup [.ref lf,.ref ll])→H' lf=some (.lst ys)→SpsAt K H' ys (runS ps ths).fo→H' ll=some (.lst ((runS ps ths).lo.map V.int))→Q (.ref t) H'
theorem ok_wk {f fN fC:Addr} {fd fdN fdC:FuncData} (F:Fun K "walked" "walked" (top 10) f fd) (T:Txt K mg) (DN:Def K mg "need_pairs" (top 9) ["pairs"] fN fdN) (GN:FnOk P w K mg base CX0 2 fN fdN ["pairs"] (spNp K)) (DC:Def K mg "close" (top 11) ["found","at","last"] fC fdC):FnOk P w K mg base CX0 3 f fd ["told","pairs"] (spWk K):=by
  have GC:FnOk P w K mg base CX0 1 fC fdC ["found","at","last"] (spCl K):=ok_cl DC.F
  refine F.ok scWk (fun vs H Q E h=>?_) (fun cdv A outer s H vs Q E hr h=>?_)
  · obtain ⟨lt,q,ts,xs,ths,ps,rfl,_⟩:=h
    rfl
  · obtain ⟨lt,q,ts,xs,ths,ps,rfl,htl,tha,tl,hq,pe,ok,k⟩:=h
    have hu:(A.deeper (PyProof.Rows.envOfC "walked" (defScope (top 10)) s.heap.objs.size f cdv)).units+1<cLine:=by have:=hr.un;omega
    have hr1:Room 1 _:=hr.mono (by decide)
    refine ⟨_,(pss_cons
  (ps_expr (pe_call GN hr rfl DN.mg DN.F.kp DN.b .nil pass0 (pa_cons (pv 1) pa_nil)))
  (pss_cons
  (ps_setComp (g:=gPr K) (i:=2) (own:=["opening","closing"]) (js:=[]) (N':=["opening","closing"]) (CompScope.of (osc:=defScope (top 10)) (N:=NWk) rfl rfl ⟨rfl,by decide +kernel,by decide +kernel,by decide +kernel,rfl,by decide +kernel⟩) rfl scWk.nd rfl rfl (pi_list (pv 1)) (fun _ _ _ _ _=>(pg_tup rfl (pgs_cons (pg_name (i:=0) (show List.Nodup (["opening","closing"]:List Str) by decide +kernel) rfl (Or.inl rfl) (Or.inr rfl)) (pgs_cons (pg_name (i:=1) (show List.Nodup (["opening","closing"]:List Str) by decide +kernel) rfl (Or.inl rfl) (Or.inr rfl)) pgs_nil)))) (fun _ _ _ _ _=>pifs_nil) (fun _ _ _ _ _=>(pv 0)))
  (pss_cons
  (ps_setDComp (g:=gPr K) (i:=3) (own:=["opening","closing"]) (js:=[]) (N':=["opening","closing"]) (CompScope.of (osc:=defScope (top 10)) (N:=NWk) rfl rfl ⟨rfl,by decide +kernel,by decide +kernel,by decide +kernel,rfl,by decide +kernel⟩) rfl scWk.nd rfl rfl (pi_list (pv 1)) (fun _ _ _ _ _=>(pg_tup rfl (pgs_cons (pg_name (i:=0) (show List.Nodup (["opening","closing"]:List Str) by decide +kernel) rfl (Or.inl rfl) (Or.inr rfl)) (pgs_cons (pg_name (i:=1) (show List.Nodup (["opening","closing"]:List Str) by decide +kernel) rfl (Or.inl rfl) (Or.inr rfl)) pgs_nil)))) (fun _ _ _ _ _=>pifs_nil) (fun _ _ _ _ _=>(pv 1)) (fun _ _ _ _ _=>(pv 0)))
  (pss_cons (ps_set (i:=4) scWk.nd rfl (Or.inl rfl) (pe_lst pa_nil))
  (pss_cons (ps_set (i:=5) scWk.nd rfl (Or.inl rfl) (pe_lst pa_nil))
  (pss_cons (ps_set (i:=6) scWk.nd rfl (Or.inl rfl) (pe_lst pa_nil))
  (pss_cons
  (ps_for PassesOwn.never rfl (pi_list (pv 0)) (pg_name (i:=7) scWk.nd rfl (Or.inl rfl)) (pss_one
    (ps_if (pt_cmpR op_eq (pe_ix ix_tup (pv 7) pe_int (fun _ _=>rfl)) pe_str (nomark _)) (pss_one (ps_expr (pe_bm0 PySem.F.plainAttrs_list PySem.F.slot_list_clear PySem.F.type_list_clear mt_clear (pv 6)))) (pss_one
    (ps_if (pt_cmpR op_in_seq (pe_ix ix_tup (pv 7) pe_int (fun _ _=>rfl)) (pv 2) rfl) (pss_cons
      (ps_expr (pe_bm PySem.F.plainAttrs_list PySem.F.slot_list_append PySem.F.type_list_append mt_append (pv 6) (pa_cons (pe_callB call_len_seq (by rfl) T.len bt_len (pa_cons (pv 4) pa_nil)) pa_nil)))
      (pss_one (ps_expr (pe_bm PySem.F.plainAttrs_list PySem.F.slot_list_append PySem.F.type_list_append mt_append (pv 4) (pa_cons (pe_tup (pa_cons (pe_ix ix_tup (pv 7) pe_int (fun _ _=>rfl)) (pa_cons (pe_ix ix_tup (pv 7) pe_int (fun _ _=>rfl)) (pa_cons pe_non (pa_cons (pe_op op_sub (pe_callB call_len_seq (by rfl) T.len bt_len (pa_cons (pv 6) pa_nil)) pe_int) pa_nil))))) pa_nil))))) (pss_one
    (ps_if (pt_cmp (pc_din hu (pe_ix ix_tup (pv 7) pe_int (fun _ _=>rfl)) (pv 3))) (pss_one
      (ps_if (PW.pt (pw_and (pt_cmpR op_gt (pe_callB call_len_seq (by rfl) T.len bt_len (pa_cons (pv 6) pa_nil)) pe_int (nomark _)) (pw_and1 (pt_cmpR op_eq (pe_ix ix_tup (pe_ix ix_list (pv 4) (pe_ix ix_list (pv 6) (pe_un un_neg pe_int) (fun _ _=>rfl)) (fun _ _=>rfl)) pe_int (fun _ _=>rfl)) (pe_dget hu (pv 3) (pe_ix ix_tup (pv 7) pe_int (fun _ _=>rfl)) (fun _ _=>rfl)) (nomark _)))))
        (pss_one (ps_expr (pe_call GC hr1 rfl DC.mg DC.F.kp DC.b .nil pass0 (pa_cons (pv 4) (pa_cons (pe_bm0 PySem.F.plainAttrs_list PySem.F.slot_list_pop PySem.F.type_list_pop mt_pop (pv 6)) (pa_cons (pe_ix ix_tup (pv 7) pe_int (fun _ _=>rfl)) pa_nil))))))
        (pss_one (ps_expr (pe_bm PySem.F.plainAttrs_list PySem.F.slot_list_append PySem.F.type_list_append mt_append (pv 5) (pa_cons (pe_ix ix_tup (pv 7) pe_int (fun _ _=>rfl)) pa_nil)))))) pss_nil)))))))
  (pss_one (ps_ret (pe_tup (pa_cons (pv 4) (pa_cons (pv 5) pa_nil)))))))))))),?_⟩
    have big:1000≤sizeLine:=by decide
    have pl:=pe.len
    have le:=ok.le
    refine ⟨_,rfl,q,xs,ps,rfl,hq,pe,ok,fun H0 s0=>?_⟩
    have hq0:=s0.seq hq
    have pe0:PrsAt K H0 xs ps:=pe.map fun _ _ z=>z.same s0
    refine ⟨_,rfl,q,rfl,⟨xs,hq0⟩,?_⟩
    refine comp_list (K:=K) (a:=q) (xs:=xs) (fun i ys σ' H'=>H'=H0∧(∃ u v,σ'=[u,v])∧ys=((ps.take i).map (·.1)).map V.str) (by omega) ⟨rfl,⟨_,_,rfl⟩,rfl⟩ (fun i ys σ H' _ e=>by rw [e.1];exact hq0) ?_ ?_
    · rintro i x ys σ' H' hx yl ⟨rfl,⟨u,v,rfl⟩,rfl⟩ N hN
      obtain ⟨p,hp,b,rfl,hb⟩:=pe0.at hx
      refine ⟨b,_,rfl,hb,rfl,_,_,rfl,_,_,rfl,rfl,?_⟩
      refine ⟨_,rfl,hN _ _ _ (by rw [List.length_append,yl];rfl) ⟨rfl,⟨_,_,rfl⟩,?_⟩⟩
      rw [take_snoc hp]
      simp
    · rintro ys σ' H' yl ⟨rfl,_,rfl⟩
      rw [show ps.take xs.length=ps from by rw [pl,List.take_length]] at yl ⊢
      refine ⟨by rw [List.length_map,List.length_map];omega,fun lop hlop=>?_⟩
      have s1:Same H' (upd H' lop (.lst ((ps.map (·.1)).map V.str))):=Same.new hlop
      have h1:(upd H' lop (.lst ((ps.map (·.1)).map V.str))) lop=some (.lst ((ps.map (·.1)).map V.str)):=upd_same
      generalize upd H' lop (.lst ((ps.map (·.1)).map V.str))=H1 at s1 h1 ⊢
      have hlopn:=Same.free s0 hlop
      have S1:=s0.trans s1
      have hq1:=s1.seq hq0
      have pe1:PrsAt K H1 xs ps:=pe0.map fun _ _ z=>z.same s1
      try dsimp only [gName]
      refine ⟨_,rfl,q,rfl,⟨xs,hq1⟩,fun fd' hfd=>?_⟩
      have nd:=closings_nd ok.nd
      refine ⟨fun i m σ' H'=>m=xs.length-i∧i≤xs.length∧H'=upd H1 fd' (.dK (kvP (ps.take i)))∧∃ u v,σ'=[u,v],⟨xs.length,by simp,Nat.zero_le _,rfl,_,_,rfl⟩,?_⟩
      rintro i m σ' H' ⟨rfl,hi,rfl,u,v,rfl⟩
      have sq2:SqL K (upd H1 fd' (.dK (kvP (ps.take i)))) q xs:=(Same.new hfd).seq hq1
      by_cases hlt:i<xs.length
      · refine .inr ⟨⟨xs,xs[i],sq2,by simp [hlt]⟩,fun x H' y=>?_⟩
        obtain ⟨rfl,y⟩:=y
        obtain ⟨p,hp,b,rfl,hb⟩:=pe1.at (y xs sq2)
        refine ⟨b,_,rfl,(Same.new hfd).tup hb,rfl,_,_,rfl,_,_,rfl,rfl,?_⟩
        dsimp only [tYes]
        rw [if_pos rfl]
        refine ⟨_,rfl,_,rfl,kvP (ps.take i),.inr p.2,upd_same,rfl,?_,xs.length-(i+1),by omega,rfl,hlt,?_,_,_,rfl⟩
        · unfold kvP
          rw [List.length_map,List.length_take]
          omega
        · rw [put_kvP nd hp,upd_twice]
      · have e:i=xs.length:=by omega
        subst e
        refine .inl ⟨⟨xs,sq2,Nat.le_refl _⟩,?_⟩
        rw [show ps.take xs.length=ps from by rw [pl,List.take_length]]
        have s2:Same H1 (upd H1 fd' (.dK (kvP ps))):=Same.new hfd
        have h2:(upd H1 fd' (.dK (kvP ps))) fd'=some (.dK (kvP ps)):=upd_same
        generalize upd H1 fd' (.dK (kvP ps))=H2 at s2 h2 ⊢
        have S2:=S1.trans s2
        try dsimp only [gName]
        refine ⟨(show 0≤sizeLine by decide),fun lf hlf=>?_⟩
        have s3:Same H2 (upd H2 lf (.lst [])):=Same.new hlf
        have h3:(upd H2 lf (.lst [])) lf=some (.lst []):=upd_same
        generalize upd H2 lf (.lst [])=H3 at s3 h3 ⊢
        refine ⟨(show 0≤sizeLine by decide),fun ll hll=>?_⟩
        have s4:Same H3 (upd H3 ll (.lst [])):=Same.new hll
        have h4:(upd H3 ll (.lst [])) ll=some (.lst []):=upd_same
        generalize upd H3 ll (.lst [])=H4 at s4 h4 ⊢
        refine ⟨(show 0≤sizeLine by decide),fun la hla=>?_⟩
        have s5:Same H4 (upd H4 la (.lst [])):=Same.new hla
        have h5:(upd H4 la (.lst [])) la=some (.lst []):=upd_same
        generalize upd H4 la (.lst [])=H5 at s5 h5 ⊢
        have S3:=S2.trans s3
        have S4:=S3.trans s4
        have S5:=S4.trans s5
        have s35:=s4.trans s5
        have WFr:WF H lf ll la lop fd':=⟨Same.free S2 hlf,Same.free S3 hll,Same.free S4 hla,fun e=>(by rw [← e,h3] at hll;cases hll),fun e=>(by rw [← e,s4 _ _ h3] at hla;cases hla),fun e=>(by rw [← e,h4] at hla;cases hla),fun e=>(by rw [← e,s2 _ _ h1] at hlf;cases hlf),fun e=>(by rw [← e,s3 _ _ (s2 _ _ h1)] at hll;cases hll),fun e=>(by rw [← e,s4 _ _ (s3 _ _ (s2 _ _ h1))] at hla;cases hla)⟩
        have W0:WH K H lf ll la lop fd' ps ⟨[],[],[]⟩ H5:=⟨S5,⟨[],s35 _ _ h3,.nil⟩,s5 _ _ h4,h5,s35 _ _ (s3 _ _ (s2 _ _ h1)),s35 _ _ (s3 _ _ h2)⟩
        clear h1 h2 h3 h4 h5 s1 s2 s3 s4 s5 S1 S2 S3 S4 S5 s35 hlf hll hla hlop hfd sq2 hq1 hq0 pe0 pe1 s0 u v hlopn
        have tln:=tha.length
        refine ⟨_,rfl,lt,rfl,⟨ts,W0.sm.seq htl⟩,?_⟩
        refine for_list (K:=K) (a:=lt) (xs:=ts) (fun i σ' H'=>(∃ u7,σ'=[some (.ref lt),some (.ref q),some (.ref lop),some (.ref fd'),some (.ref lf),some (.ref ll),some (.ref la),u7])∧∃ z,z=(ths.take i).foldl (stepS ps) ⟨[],[],[]⟩∧WsOk z i∧WH K H lf ll la lop fd' ps z H') ⟨⟨_,rfl⟩,_,rfl,⟨(fun j m=>by cases m),Nat.le_refl _,Nat.le_refl _,Nat.le_refl _⟩,W0⟩ (fun i σ' H' _ ⟨_,z,_,_,wh⟩=>wh.sm.seq htl) ?_ ?_
        · clear W0
          rintro i x σ' H1 hx ⟨⟨u7,rfl⟩,z,ez,zo,wh⟩
          obtain ⟨th,hth,ta⟩:=(tha.same wh.sm).at hx
          have il:i<ths.length:=(List.getElem?_eq_some_iff.mp hth).1
          have go:∀ (z':Ws) (H':Hp),z'=stepS ps z th→WH K H lf ll la lop fd' ps z' H'→(∃ u7,[some (V.ref lt),some (V.ref q),some (V.ref lop),some (V.ref fd'),some (V.ref lf),some (V.ref ll),some (V.ref la),some x]=[some (.ref lt),some (.ref q),some (.ref lop),some (.ref fd'),some (.ref lf),some (.ref ll),some (.ref la),u7])∧∃ z,z=(ths.take (i+1)).foldl (stepS ps) ⟨[],[],[]⟩∧WsOk z (i+1)∧WH K H lf ll la lop fd' ps z H':=fun z' H' e wh'=>
            ⟨⟨_,rfl⟩,z',by rw [take_snoc hth,List.foldl_append,← ez];exact e,by rw [e];exact zo.step th,wh'⟩
          have z1:=zo.ar
          have z2:=zo.fl
          have z3:=zo.ll
          have z4:=zo.al
          clear zo ez
          cases ta with
          | @lost a n sq=>
            refine ⟨_,rfl,a,_,_,_,rfl,rfl,sq,atI_nat (j:=0) rfl,rfl,_,rfl,ifT (by simp) ?_⟩
            refine ⟨_,rfl,.inl ⟨rfl,_,SqL.of wh.ha⟩,la,_,rfl,rfl,wh.ha,?_⟩
            exact go _ _ rfl (wh.putA WFr [])
          | @ev a b p t kk us sq sqz=>
            refine ⟨_,rfl,a,_,_,_,rfl,rfl,sq,atI_nat (j:=0) rfl,rfl,_,rfl,ifF (by decide +kernel) ?_⟩
            try dsimp only [tNext]
            refine ⟨_,rfl,a,_,_,_,rfl,rfl,sq,atI_nat (j:=3) rfl,_,rfl,lop,_,rfl,.inl (SqL.of wh.ho),rfl,flat_str _,_,rfl,?_⟩
            by_cases ho:kk∈ps.map (·.1)
            · refine ifT (by show inV (.str kk) _=true;rw [inV_str];exact decide_eq_true ho) ?_
              obtain ⟨ys,hys,sps⟩:=wh.xs
              have yl:=sps.len
              refine ⟨_,rfl,.inl ⟨rfl,_,SqL.of wh.ha⟩,_,rfl,lf,ys,rfl,.inl (SqL.of hys),la,_,_,rfl,rfl,wh.ha,by rw [List.length_map];omega,?_⟩
              have e1:(z.ar.map fun n:Nat=>V.int n)++[V.int (ys.length:Nat)]=(z.ar++[z.fo.length]).map fun n:Nat=>V.int n:=by rw [List.map_append,yl];rfl
              rw [e1]
              have wh1:=wh.putA WFr (z.ar++[z.fo.length])
              have sq1:=sqt_upd (o:=.lst ((z.ar++[z.fo.length]).map fun n:Nat=>V.int n)) sq wh.ha
              generalize upd H1 la (.lst ((z.ar++[z.fo.length]).map fun n:Nat=>V.int n))=H2 at wh1 sq1 ⊢
              obtain ⟨ys1,hys1,sps1⟩:=wh1.xs
              have yl1:ys1.length=z.fo.length:=sps1.len
              have al1:(z.ar++[z.fo.length]).length=z.ar.length+1:=by simp
              refine ⟨_,rfl,.inl ⟨rfl,_,SqL.of hys1⟩,_,rfl,a,_,_,_,rfl,rfl,sq1,atI_nat (j:=3) rfl,_,rfl,a,_,_,_,rfl,rfl,sq1,atI_nat (j:=1) rfl,_,rfl,la,_,rfl,.inl (SqL.of wh1.ha),_,_,rfl,rfl,(show 4≤sizeLine by decide),fun tp htp=>?_⟩
              have e2:([V.str kk,V.int p,V.non,V.int (((((z.ar++[z.fo.length]).map fun n:Nat=>V.int n).length:Nat):Int)-1)]:List V)=spV ⟨kk,p,none,z.ar.length⟩:=by
                rw [List.length_map,al1]
                rw [show (((z.ar.length+1:Nat):Int)-1)=(z.ar.length:Int) by omega]
                rfl
              have wh2:=wh1.same (Same.new (o:=.tup (spV ⟨kk,p,none,z.ar.length⟩)) htp)
              have hys2:=Same.new (o:=.tup (spV ⟨kk,p,none,z.ar.length⟩)) htp _ _ hys1
              have sps2:SpsAt K (upd H2 tp (.tup (spV ⟨kk,p,none,z.ar.length⟩))) ys1 z.fo:=sps1.map fun _ _ q=>q.same (Same.new htp)
              have h2:(upd H2 tp (.tup (spV ⟨kk,p,none,z.ar.length⟩))) tp=some (.tup (spV ⟨kk,p,none,z.ar.length⟩)):=upd_same
              rw [← e2] at wh2 h2 hys2 sps2
              refine ⟨lf,ys1,_,rfl,rfl,hys2,by omega,?_⟩
              generalize upd H2 tp _=H3 at wh2 h2 hys2 sps2 ⊢
              rw [e2] at h2
              refine go _ _ ?_ (wh2.putF WFr But.upd upd_same (Pd.snoc ⟨tp,rfl,sqt_upd (SqT.of h2) hys2⟩ (sps2.map fun _ _ q=>q.upd hys2)))
              show _=(if kk∈ps.map (·.1) then _ else _)
              rw [if_pos ho]
            · refine ifF (by show inV (.str kk) _=false;rw [inV_str];exact decide_eq_false ho) ?_
              try dsimp only [tNext]
              have st:stepS ps z (.ev p t kk us)=match fellow ps kk with|none=>z|some op=>closeS z op p:=by
                show (if kk∈ps.map (·.1) then _ else _)=_
                rw [if_neg ho]
                all_goals (cases fellow ps kk <;> rfl)
              have dg:=DGet.k (k:=.inr kk) wh.hd
              rw [val_kvP] at dg
              refine ⟨_,rfl,a,_,_,_,rfl,rfl,sq,atI_nat (j:=3) rfl,_,rfl,fd',_,rfl,dg,_,rfl,?_⟩
              cases hfe:fellow ps kk with
              | none=>
                refine ifF rfl ?_
                refine go z _ ?_ wh
                rw [st,hfe]
              | some op=>
                rw [hfe] at st dg
                have st:stepS ps z (.ev p t kk us)=closeS z op p:=st
                have dg:DGet H1 fd' (.str kk) (some (.str op)):=dg
                refine ifT rfl ?_
                obtain ⟨ys,hys,sps⟩:=wh.xs
                have yl:=sps.len
                have alone:closeS z op p=⟨z.fo,z.lo++[p],z.ar⟩→∀ D:Ends,(∀ H',WH K H lf ll la lop fd' ps (stepS ps z (.ev p t kk us)) H'→D.nx [some (V.ref lt),some (V.ref q),some (V.ref lop),some (V.ref fd'),some (V.ref lf),some (V.ref ll),some (V.ref la),some (.ref a)] H')→D.nx [some (V.ref lt),some (V.ref q),some (V.ref lop),some (V.ref fd'),some (V.ref lf),some (V.ref ll),some (V.ref la),some (.ref a)] (upd H1 ll (.lst ((z.lo.map V.int)++[V.int p]))):=fun e D hD=>by
                  refine hD _ ?_
                  rw [st,e]
                  have:=wh.putL WFr (z.lo++[p])
                  rw [List.map_append] at this
                  exact this
                have lz:(z.ar.map fun n:Nat=>V.int n).length=z.ar.length:=List.length_map ..
                refine ⟨_,rfl,la,_,rfl,.inl (SqL.of wh.ha),_,_,rfl,rfl,_,rfl,?_⟩
                rcases List.eq_nil_or_concat z.ar with ea|⟨r,j,ea⟩
                · refine ifF (by rw [lz,ea];rfl) ?_
                  refine ⟨_,rfl,.inl ⟨rfl,_,SqL.of wh.hl⟩,_,rfl,a,_,_,_,rfl,rfl,sq,atI_nat (j:=1) rfl,ll,_,_,rfl,rfl,wh.hl,by rw [List.length_map];omega,?_⟩
                  exact alone (by unfold closeS;rw [ea];rfl) _ fun H' w'=>go _ _ rfl w'
                · rw [List.concat_eq_append] at ea
                  have mj:j∈z.ar:=by rw [ea];simp
                  have jl:=z1 j mj
                  obtain ⟨s',hs'⟩:∃ s',z.fo[j]?=some s':=⟨_,List.getElem?_eq_getElem jl⟩
                  obtain ⟨x',hx',a',rfl,ha'⟩:=sps.at' hs'
                  have la1:atI (z.ar.map fun n:Nat=>V.int n) (-1)=some (.int j):=by
                    rw [ea]
                    unfold atI ixN
                    simp
                    rw [if_pos (by omega),show (-1+((r.length:Int)+1)).toNat=r.length by omega]
                    show (List.map (fun n:Nat=>V.int n) r++[V.int j])[r.length]?=_
                    rw [List.getElem?_append_right (by simp)]
                    simp
                  refine ifT (by rw [lz,ea];simp) ?_
                  refine ⟨_,rfl,_,rfl,_,rfl,la,_,_,_,rfl,rfl,SqL.of wh.ha,la1,lf,ys,_,_,rfl,rfl,SqL.of hys,atI_nat (j:=j) hx',a',_,_,_,rfl,rfl,ha',atI_nat (j:=0) rfl,_,rfl,_,rfl,a,_,_,_,rfl,rfl,sq,atI_nat (j:=3) rfl,fd',_,rfl,dg,rfl,_,rfl,?_⟩
                  have cs:closeS z op p=if s'.nm=op then ⟨z.fo.set j (clS s' p),z.lo,z.ar.dropLast⟩ else ⟨z.fo,z.lo++[p],z.ar⟩:=by
                    unfold closeS
                    rw [show z.ar.getLast?=some j from by rw [ea];simp]
                    show (match z.fo[j]? with|none=>z|some s=>if s.nm=op then _ else _)=_
                    rw [hs']
                  by_cases hn:s'.nm=op
                  · rw [if_pos hn] at cs
                    refine ifT (by simp [hn]) ?_
                    refine ⟨_,rfl,_,rfl,.inl ⟨rfl,_,SqL.of wh.ha⟩,la,_,.int j,rfl,rfl,wh.ha,by rw [ea];simp,?_⟩
                    have e1:(z.ar.map fun n:Nat=>V.int n).dropLast=z.ar.dropLast.map fun n:Nat=>V.int n:=List.map_dropLast.symm
                    rw [e1]
                    have wh1:=wh.putA WFr z.ar.dropLast
                    have sq1:=sqt_upd (o:=.lst (z.ar.dropLast.map fun n:Nat=>V.int n)) sq wh.ha
                    have hys1:(upd H1 la (.lst (z.ar.dropLast.map fun n:Nat=>V.int n))) lf=some (.lst ys):=by rw [upd_ne WFr.n2];exact hys
                    have sps1:SpsAt K (upd H1 la (.lst (z.ar.dropLast.map fun n:Nat=>V.int n))) ys z.fo:=sps.map fun _ _ q=>q.upd wh.ha
                    generalize upd H1 la (.lst (z.ar.dropLast.map fun n:Nat=>V.int n))=H2 at wh1 sq1 hys1 sps1 ⊢
                    refine ⟨_,rfl,a,_,_,_,rfl,rfl,sq1,atI_nat (j:=1) rfl,?_⟩
                    refine ⟨lf,ys,z.fo,j,s',p,rfl,hys1,sps1,hs',fun H' xs' b' hx' sp'=>?_⟩
                    exact go _ _ (by rw [st,cs]) (wh1.putF WFr b' hx' sp')
                  · rw [if_neg hn] at cs
                    refine ifF (by simp [hn]) ?_
                    refine ⟨_,rfl,.inl ⟨rfl,_,SqL.of wh.hl⟩,_,rfl,a,_,_,_,rfl,rfl,sq,atI_nat (j:=1) rfl,ll,_,_,rfl,rfl,wh.hl,by rw [List.length_map];omega,?_⟩
                    exact alone cs _ fun H' w'=>go _ _ rfl w'
        · rintro σ' H' ⟨⟨u7,rfl⟩,z,ez,zo,wh⟩
          rw [tln,List.take_length] at ez
          refine ⟨_,rfl,_,rfl,(show 2≤sizeLine by decide),fun tp htp=>?_⟩
          have wh2:=wh.same (Same.new (o:=.tup [.ref lf,.ref ll]) htp)
          obtain ⟨ys,hys,sps⟩:=wh2.xs
          rw [ez] at sps
          have hl:=wh2.hl
          rw [ez] at hl
          exact k tp lf ll ys _ wh2.sm WFr.f1 WFr.f2 WFr.n1 upd_same hys sps hl
end
end Cm
namespace Cm
open PySem L2 PySem.W
def gSp (K:PySem.W.Frag):TG:=gTup K 4 (gCons (gName 0) (gCons (gName 1) (gCons (gName 2) (gCons (gName 3) gNil))))
def InW (K:Frag) (vs:List V) (H:Hp) (ths:List Th) (ps:List (Str×Str)):Prop:=∃ (lt q:Addr) (ts xs:List V),vs=[.ref lt,.ref q]∧SqL K H lt ts∧ThsAt K H ts ths∧ths.length≤40∧SqL K H q xs∧PrsAt K H xs ps∧PrOk ps
section
variable {P:Program} {w:World} {K:PySem.W.Frag} {mg:Str→Option Value} {base:Heap}
abbrev NSp:List Str:=["told","pairs","found","lone"]
theorem scSp:FnScope NSp ["told","pairs"] (defScope (top 12)):=⟨rfl,rfl,rfl,by decide +kernel,rfl,by decide +kernel,by decide +kernel⟩
theorem scSt:FnScope NSp ["told","pairs"] (defScope (top 13)):=⟨rfl,rfl,rfl,by decide +kernel,rfl,by decide +kernel,by decide +kernel⟩
def spSp (K:Frag):Sp:=fun vs H Q _=>∃ ths ps,InW K vs H ths ps∧∀ (lf:Addr) (ys:List V) (H':Hp),Same H H'→H lf=none→H' lf=some (.lst ys)→SpsAt K H' ys (runS ps ths).fo→Q (.ref lf) H'
def spSt (K:Frag):Sp:=fun vs H Q _=>∃ ths ps,InW K vs H ths ps∧∀ (ll:Addr) (H':Hp),Same H H'→H ll=none→H' ll=some (.lst ((runS ps ths).lo.map V.int))→Q (.ref ll) H'
theorem ok_sp {f fW:Addr} {fd fdW:FuncData} (F:Fun K "spans" "spans" (top 12) f fd) (DW:Def K mg "walked" (top 10) ["told","pairs"] fW fdW) (GW:FnOk P w K mg base CX0 3 fW fdW ["told","pairs"] (spWk K)):FnOk P w K mg base CX0 4 f fd ["told","pairs"] (spSp K):=by
  refine F.ok scSp (fun vs H Q E h=>?_) (fun cdv A outer s H vs Q E hr h=>?_)
  · obtain ⟨ths,ps,⟨lt,q,ts,xs,rfl,_⟩,_⟩:=h
    rfl
  · obtain ⟨ths,ps,⟨lt,q,ts,xs,rfl,h1,h2,h3,h4,h5,h6⟩,k⟩:=h
    refine ⟨_,(pss_cons
  (ps_asg (pe_call GW hr rfl DW.mg DW.F.kp DW.b .nil pass0 (pa_cons (pv 0) (pa_cons (pv 1) pa_nil))) (pg_tup rfl (pgs_cons (pg_name (i:=2) scSp.nd rfl (Or.inl rfl)) (pgs_cons (pg_name (i:=3) scSp.nd rfl (Or.inl rfl)) pgs_nil))))
  (pss_one (ps_ret (pv 2)))),?_⟩
    refine ⟨_,rfl,_,rfl,lt,q,ts,xs,ths,ps,rfl,h1,h2,h3,h4,h5,h6,fun t lf ll ys H' s' n1 n2 n3 ht hf sp hl=>?_⟩
    exact ⟨t,_,rfl,SqT.of ht,rfl,_,_,rfl,_,_,rfl,rfl,_,rfl,k lf ys H' s' n1 hf sp⟩
theorem ok_st {f fW:Addr} {fd fdW:FuncData} (F:Fun K "strays" "strays" (top 13) f fd) (DW:Def K mg "walked" (top 10) ["told","pairs"] fW fdW) (GW:FnOk P w K mg base CX0 3 fW fdW ["told","pairs"] (spWk K)):FnOk P w K mg base CX0 4 f fd ["told","pairs"] (spSt K):=by
  refine F.ok scSt (fun vs H Q E h=>?_) (fun cdv A outer s H vs Q E hr h=>?_)
  · obtain ⟨ths,ps,⟨lt,q,ts,xs,rfl,_⟩,_⟩:=h
    rfl
  · obtain ⟨ths,ps,⟨lt,q,ts,xs,rfl,h1,h2,h3,h4,h5,h6⟩,k⟩:=h
    refine ⟨_,(pss_cons
  (ps_asg (pe_call GW hr rfl DW.mg DW.F.kp DW.b .nil pass0 (pa_cons (pv 0) (pa_cons (pv 1) pa_nil))) (pg_tup rfl (pgs_cons (pg_name (i:=2) scSt.nd rfl (Or.inl rfl)) (pgs_cons (pg_name (i:=3) scSt.nd rfl (Or.inl rfl)) pgs_nil))))
  (pss_one (ps_ret (pv 3)))),?_⟩
    refine ⟨_,rfl,_,rfl,lt,q,ts,xs,ths,ps,rfl,h1,h2,h3,h4,h5,h6,fun t lf ll ys H' s' n1 n2 n3 ht hf sp hl=>?_⟩
    exact ⟨t,_,rfl,SqT.of ht,rfl,_,_,rfl,_,_,rfl,rfl,_,rfl,k ll H' s' n2 hl⟩
def deI (fo:List Spn):List Int:=fo.map fun s=>(s.de:Int)
theorem run_len (ps:List (Str×Str)) (ths:List Th):WsOk (runS ps ths) ths.length:=by
  have key:∀ (ths:List Th) (z:Ws) (n:Nat),WsOk z n→WsOk (ths.foldl (stepS ps) z) (n+ths.length):=by
    intro ths
    induction ths with
    |nil=>intro z n h;exact h
    | cons th r ih=>
      intro z n h
      have:=ih (stepS ps z th) (n+1) (h.step th)
      rw [List.length_cons,show n+(r.length+1)=n+1+r.length by omega]
      exact this
  have:=key ths ⟨[],[],[]⟩ 0 ⟨(fun j m=>by cases m),Nat.le_refl _,Nat.le_refl _,Nat.le_refl _⟩
  rw [Nat.zero_add] at this
  exact this
theorem scDp:FnScope ["told","pairs"] ["told","pairs"] (defScope (top 14)):=⟨rfl,rfl,rfl,by decide +kernel,rfl,by decide +kernel,by decide +kernel⟩
def spDp (K:Frag):Sp:=fun vs H Q _=>∃ ths ps,InW K vs H ths ps∧((runS ps ths).fo=[]→∀ H',Same H H'→Q .non H')∧∀ b,b∈deI (runS ps ths).fo→(∀ x∈deI (runS ps ths).fo,x≤b)→∀ H',Same H H'→Q (.int b) H'
theorem ok_dp {f fS:Addr} {fd fdS:FuncData} (F:Fun K "deepest" "deepest" (top 14) f fd) (hmax:mg "max" = none) (DS:Def K mg "spans" (top 12) ["told","pairs"] fS fdS) (GS:FnOk P w K mg base CX0 4 fS fdS ["told","pairs"] (spSp K)):FnOk P w K mg base CX0 5 f fd ["told","pairs"] (spDp K):=by
  refine F.ok scDp (fun vs H Q E h=>?_) (fun cdv A outer s H vs Q E hr h=>?_)
  · obtain ⟨ths,ps,⟨lt,q,ts,xs,rfl,_⟩,_⟩:=h
    rfl
  · obtain ⟨ths,ps,⟨lt,q,ts,xs,rfl,h1,h2,h3,h4,h5,h6⟩,k0,k⟩:=h
    refine ⟨_,(pss_one
  (ps_ret (pe_maxD rfl (pa_cons (pe_comp (g:=gSp K) (te:=tVar 3) (own:=["opening","first","last","depth"]) (js:=[]) (N':=["opening","first","last","depth"]) (CompScope.of (osc:=defScope (top 14)) (N:=["told","pairs"]) rfl rfl ⟨rfl,by decide +kernel,by decide +kernel,by decide +kernel,rfl,by decide +kernel⟩) rfl (pi_list (pe_call GS hr rfl DS.mg DS.F.kp DS.b .nil pass0 (pa_cons (pv 0) (pa_cons (pv 1) pa_nil)))) (fun _ _ _ _ _=>(pg_tup rfl (pgs_cons (pg_name (i:=0) (show List.Nodup (["opening","first","last","depth"]:List Str) by decide +kernel) rfl (Or.inl rfl) (Or.inr rfl)) (pgs_cons (pg_name (i:=1) (show List.Nodup (["opening","first","last","depth"]:List Str) by decide +kernel) rfl (Or.inl rfl) (Or.inr rfl)) (pgs_cons (pg_name (i:=2) (show List.Nodup (["opening","first","last","depth"]:List Str) by decide +kernel) rfl (Or.inl rfl) (Or.inr rfl)) (pgs_cons (pg_name (i:=3) (show List.Nodup (["opening","first","last","depth"]:List Str) by decide +kernel) rfl (Or.inl rfl) (Or.inr rfl)) pgs_nil)))))) (fun _ _ _ _ _=>pifs_nil) (fun _ _ _ _ _=>(pv 3))) pa_nil) (by rfl) hmax))),?_⟩
    have big:1000≤sizeLine:=by decide
    have fl:=(run_len ps ths).fl
    refine ⟨_,rfl,_,rfl,ths,ps,⟨lt,q,ts,xs,rfl,h1,h2,h3,h4,h5,h6⟩,fun lf ys H1 s1 n1 hf sp=>?_⟩
    generalize (runS ps ths).fo=fo at sp fl k0 k
    have yl:=sp.len
    refine ⟨lf,rfl,⟨ys,SqL.of hf⟩,?_⟩
    refine comp_list (K:=K) (a:=lf) (xs:=ys) (fun i zs σ' H'=>H'=H1∧(∃ a b c d,σ'=[a,b,c,d])∧zs=(deI (fo.take i)).map V.int) (by omega) ⟨rfl,⟨_,_,_,_,rfl⟩,rfl⟩ (fun i ys σ H' _ e=>by rw [e.1];exact SqL.of hf) ?_ ?_
    · rintro i x zs σ' H' hx zl ⟨rfl,⟨a,b,c,d,rfl⟩,rfl⟩ N hN
      obtain ⟨s',hs',a',rfl,ha'⟩:=sp.at hx
      refine ⟨a',_,rfl,ha',rfl,_,_,rfl,_,_,rfl,_,_,rfl,_,_,rfl,rfl,?_⟩
      refine ⟨_,rfl,hN _ _ _ (by rw [List.length_append,zl];rfl) ⟨rfl,⟨_,_,_,_,rfl⟩,?_⟩⟩
      rw [take_snoc hs']
      simp [deI]
    · rintro zs σ' H' zl ⟨rfl,_,rfl⟩
      rw [show fo.take ys.length=fo from by rw [yl,List.take_length]] at zl ⊢
      refine ⟨by rw [List.length_map];unfold deI;rw [List.length_map];omega,fun p hp=>?_⟩
      have s2:Same H' (upd H' p (.lst ((deI fo).map V.int))):=Same.new hp
      refine ⟨p,deI fo,rfl,SqL.of upd_same,fun e=>k0 ?_ _ (s1.trans s2),fun b hb hx=>k b hb hx _ (s1.trans s2)⟩
      exact List.map_eq_nil_iff.mp e
end
end Cm
namespace Cm
open PySem L2 PySem.W
def RowV:Int→List Th→Prop
  |_,[]=>True
  |pl,.lost n::r=>1≤n∧RowV (pl+n) r
  |pl,.ev p _ _ _::r=>p=pl∧RowV (pl+1) r
def plAft:Int→List Th→Int
  |pl,[]=>pl
  |pl,.lost n::r=>plAft (pl+n) r
  |pl,.ev _ _ _ _::r=>plAft (pl+1) r
theorem RowV.lost {n:Int} (hn:1≤n):∀ {ths:List Th} {pl:Int},RowV pl ths→RowV pl (ths++[.lost n])∧plAft pl (ths++[.lost n])=plAft pl ths+n
  |[],pl,_=>⟨⟨hn,trivial⟩,rfl⟩
  |.lost m::r,pl,⟨h1,h2⟩=>⟨⟨h1,(RowV.lost hn h2).1⟩,(RowV.lost hn h2).2⟩
  |.ev p t k us::r,pl,⟨h1,h2⟩=>⟨⟨h1,(RowV.lost hn h2).1⟩,(RowV.lost hn h2).2⟩
theorem RowV.ev {p t:Int} {k:Str} {us:List Int}:∀ {ths:List Th} {pl:Int},RowV pl ths→p=plAft pl ths→RowV pl (ths++[.ev p t k us])∧plAft pl (ths++[.ev p t k us])=plAft pl ths+1
  |[],pl,_,e=>⟨⟨e,trivial⟩,rfl⟩
  |.lost m::r,pl,⟨h1,h2⟩,e=>⟨⟨h1,(RowV.ev h2 e).1⟩,(RowV.ev h2 e).2⟩
  |.ev _ _ _ _::r,pl,⟨h1,h2⟩,e=>⟨⟨h1,(RowV.ev h2 e).1⟩,(RowV.ev h2 e).2⟩
theorem ThAt.but {K:Frag} {H H':Hp} {p dc:Addr} {x:V} {th:Th} (h:ThAt K H x th) (D:Dr H p dc) (b:But p H H'):ThAt K H' x th:=by
  obtain ⟨kvs,hp⟩:=D.dk
  cases h with
  |lost sq=>exact .lost (b.tup hp sq)
  |ev sq sqz=>exact .ev (b.tup hp sq) (b.tup hp sqz)
theorem ThsAt.but {K:Frag} {H H':Hp} {p dc:Addr}:∀ {ths:List Th} {xs:List V},ThsAt K H xs ths→Dr H p dc→But p H H'→ThsAt K H' xs ths
  |_,_,.nil,_,_=>.nil
  |_,_,.cons r rs,D,b=>.cons (r.but D b) (rs.but D b)
theorem at_last {xs:List V} {x:V}:atI (xs++[x]) (-1)=some x:=by
  unfold atI ixN
  simp
  rw [if_pos (by omega),show (-1+((xs.length:Int)+1)).toNat=xs.length by omega]
  show (xs++[x])[xs.length]?=_
  rw [List.getElem?_append_right (by simp)]
  simp
section
variable {P:Program} {w:World} {K:PySem.W.Frag} {mg:Str→Option Value} {base:Heap}
abbrev NSr:List Str:=["_law_d","_law_names","_law_told","_law_place","_law_time","_law_step"]
theorem scSr:FnScope NSr ["_law_d","_law_names"] (defScope (top 23)):=⟨rfl,rfl,rfl,by decide +kernel,rfl,by decide +kernel,by decide +kernel⟩
def spSr (K:Frag):Sp:=fun vs H Q _=>∃ (p dc q:Addr) (ns:List Str),vs=[.ref p,.ref q]∧Dr H p dc∧H q=some (.lst (ns.map V.str))∧q≠p∧ns≠[]∧ns.length≤100∧
  ∀ (l:Addr) (xs:List V) (ths:List Th) (H':Hp),H l=none→H' l=some (.lst xs)→ThsAt K H' xs ths→ths.length≤40→RowV 0 ths→Dr H' p dc→But p H H'→Q (.ref l) H'
theorem ok_sr {f fP fO:Addr} {fd fdP fdO:FuncData} (F:Fun K "_law_span_row" "_law_span_row" (top 23) f fd) (T:Txt K mg) (DP:Def K mg "_law_pick" (top 17) ["_law_d","_law_many"] fP fdP) (DO:Def K mg "_law_of" (top 18) ["_law_d","_law_things"] fO fdO):FnOk P w K mg base CX0 3 f fd ["_law_d","_law_names"] (spSr K):=by
  have GP:FnOk P w K mg base CX0 1 fP fdP ["_law_d","_law_many"] spPick:=ok_pick DP.F T
  have GO:FnOk P w K mg base CX0 2 fO fdO ["_law_d","_law_things"] (spOf K):=ok_of DO.F T DP
  refine F.ok scSr (fun vs H Q E h=>?_) (fun cdv A outer s H vs Q E hr h=>?_)
  · obtain ⟨p,dc,q,ns,rfl,_⟩:=h
    rfl
  · obtain ⟨p,dc,q,ns,rfl,D,hq,nqp,nne,nl,k⟩:=h
    have hr1:Room 1 _:=hr.mono (by decide)
    refine ⟨_,(pss_cons
  (ps_set (i:=2) scSr.nd rfl (Or.inl rfl) (pe_lst pa_nil))
  (pss_cons
  (ps_asg (pe_tup (pa_cons pe_int (pa_cons pe_int pa_nil))) (pg_tup rfl (pgs_cons (pg_name (i:=3) scSr.nd rfl (Or.inl rfl)) (pgs_cons (pg_name (i:=4) scSr.nd rfl (Or.inl rfl)) pgs_nil))))
  (pss_cons
  (ps_for PassesOwn.never rfl (pi_range1 rfl T.range (pa_cons (pe_call GP hr1 rfl DP.mg DP.F.kp DP.b .nil pass0 (pa_cons (pv 0) (pa_cons pe_int pa_nil))) pa_nil)) (pg_name (i:=5) scSr.nd rfl (Or.inl rfl)) (pss_cons
  (ps_set (i:=4) scSr.nd rfl (Or.inl rfl) (pe_op op_add (pv 4) (pe_call GP hr1 rfl DP.mg DP.F.kp DP.b .nil pass0 (pa_cons (pv 0) (pa_cons pe_int pa_nil)))))
  (pss_one
  (ps_if (PW.pt (pw_and (pt_cmpR op_eq (pe_call GP hr1 rfl DP.mg DP.F.kp DP.b .nil pass0 (pa_cons (pv 0) (pa_cons pe_int pa_nil))) pe_int (nomark _)) (pw_and1 (PW.pt (pw_or (pt_cmpR (op_eqD hr.units) (pv 2) (pe_lst pa_nil) (nomark _)) (pw_or1 (pt_cmpR op_eq (pe_ix ix_tup (pe_ix ix_list (pv 2) (pe_un un_neg pe_int) (fun _ _=>rfl)) pe_int (fun _ _=>rfl)) pe_str (nomark _)))))))) (pss_cons
  (ps_expr (pe_bm PySem.F.plainAttrs_list PySem.F.slot_list_append PySem.F.type_list_append mt_append (pv 2) (pa_cons (pe_tup (pa_cons pe_str (pa_cons (pe_op op_add pe_int (pe_call GP hr1 rfl DP.mg DP.F.kp DP.b .nil pass0 (pa_cons (pv 0) (pa_cons pe_int pa_nil)))) pa_nil))) pa_nil)))
  (pss_one
  (ps_set (i:=3) scSr.nd rfl (Or.inl rfl) (pe_op op_add (pv 3) (pe_ix ix_tup (pe_ix ix_list (pv 2) (pe_un un_neg pe_int) (fun _ _=>rfl)) pe_int (fun _ _=>rfl)))))) (pss_cons
  (ps_expr (pe_bm PySem.F.plainAttrs_list PySem.F.slot_list_append PySem.F.type_list_append mt_append (pv 2) (pa_cons (pe_tup (pa_cons pe_str (pa_cons (pv 3) (pa_cons (pv 4) (pa_cons (pe_call GO hr rfl DO.mg DO.F.kp DO.b .nil pass0 (pa_cons (pv 0) (pa_cons (pv 1) pa_nil))) (pa_cons (pe_tup (pa_cons (pv 5) pa_nil)) pa_nil)))))) pa_nil)))
  (pss_one
  (ps_set (i:=3) scSr.nd rfl (Or.inl rfl) (pe_op op_add (pv 3) pe_int))))))))
  (pss_one (ps_ret (pv 2)))))),?_⟩
    have z1:1≤sizeLine:=by decide
    have z2:2≤sizeLine:=by decide
    have z5:5≤sizeLine:=by decide
    have big:1000≤sizeLine:=by decide
    refine ⟨(show 0≤sizeLine by decide),fun l hl=>?_⟩
    have lp:l≠p:=(D.neN hl).symm
    have lc:l≠dc:=by
      obtain ⟨zs,e⟩:=D.cell
      exact (ne_of_none e hl).symm
    have s1:Same H (upd H l (.lst [])):=Same.new hl
    have h1:(upd H l (.lst [])) l=some (.lst []):=upd_same
    have D1:=D.mono s1
    generalize upd H l (.lst [])=H0 at s1 h1 D1 ⊢
    refine ⟨z2,fun t0 ht0=>⟨t0,_,rfl,SqT.of upd_same,rfl,_,_,rfl,_,_,rfl,rfl,?_⟩⟩
    have s0:Same H0 (upd H0 t0 (.tup [.int 0,.int 0])):=Same.new ht0
    have s1:=s1.trans s0
    have h1:=s0 _ _ h1
    have D1:=D1.mono s0
    generalize upd H0 t0 (.tup [.int 0,.int 0])=H1 at s1 h1 D1 ⊢
    refine ⟨_,rfl,p,dc,_,rfl,D1,by decide,by decide,fun m H2 m0 m1 D2 b2=>?_⟩
    obtain ⟨n,rfl⟩:∃ n:Nat,m=(n:Int):=⟨m.toNat,by omega⟩
    have h2:=b2 _ _ h1 lp
    have B2:But p H H2:=s1.but.trans b2
    refine ⟨(n:Int),rfl,by omega,by omega,for_range (n:=n) (fun i σ' H'=>∃ (pl τ:Int) (u5:Option V) (ths:List Th) (xs:List V),σ'=[some (.ref p),some (.ref q),some (.ref l),some (.int pl),some (.int τ),u5]∧H' l=some (.lst xs)∧ThsAt K H' xs ths∧ths.length=i∧RowV 0 ths∧plAft 0 ths=pl∧Dr H' p dc∧But p H H') ⟨0,0,none,[],[],rfl,h2,.nil,rfl,trivial,rfl,D2,B2⟩ ?_ ?_⟩
    · clear h2 B2 D2 b2 D1 h1 s1
      rintro i σ' H3 hi ⟨pl,τ,u5,ths,xs,rfl,hxs,ta,tl,rv,pa,D3,B3⟩
      have xl:=ta.length
      refine ⟨_,rfl,_,rfl,p,dc,_,rfl,D3,by decide,by decide,fun r H4 r0 r1 D4 b4=>⟨_,_,rfl,rfl,?_⟩⟩
      have hx4:=b4 _ _ hxs lp
      have ta4:=ta.but D3 b4
      have B4:=B3.trans b4
      clear hxs ta D3 B3 b4
      dsimp only [gName,List.set]
      refine tIf_any (fun H'=>H' l=some (.lst xs)∧ThsAt K H' xs ths∧Dr H' p dc∧But p H H') (fun Q' hQ=>?_) (fun H5 ⟨hx5,ta5,D5,B5⟩=>?_) (fun H5 ⟨hx5,ta5,D5,B5⟩=>?_)
      · refine ⟨_,rfl,p,dc,_,rfl,D4,by decide,by decide,fun r' H5 r0' r1' D5 b5=>?_⟩
        have hx5:=b5 _ _ hx4 lp
        have ta5:=ta4.but D4 b5
        have B5:=B4.trans b5
        have fin:∀ b H',Same H5 H'→Q' b H':=fun b H' e=>hQ b H' ⟨e _ _ hx5,ta5.same e,D5.mono e,B5.trans e.but⟩
        refine ⟨rfl,_,rfl,?_⟩
        by_cases hr0:r'=0
        · refine ifT (by simp [hr0]) ?_
          refine ⟨_,rfl,(show 0≤sizeLine by decide),fun le hle=>?_⟩
          have s6:Same H5 (upd H5 le (.lst [])):=Same.new hle
          refine ⟨.list (ths.map thD),.list [],.lst (SqL.of (s6 _ _ hx5)) (ta5.same s6).rep,.lst (SqL.of upd_same) .nil,?_,_,rfl,?_⟩
          · have:=ths_dep ths
            simp only [pdDep];omega
          · rw [eq_nilD]
            rcases List.eq_nil_or_concat ths with et|⟨rs,th,et⟩
            · subst et
              exact ifT rfl (fin _ _ s6)
            · rw [List.concat_eq_append] at et
              have nn:xs≠[]:=fun z=>by rw [z,et] at xl;simp at xl
              obtain ⟨rx,x,ex⟩:∃ rx x,xs=rx++[x]:=⟨xs.dropLast,xs.getLast nn,(List.dropLast_concat_getLast nn).symm⟩
              refine ifF (by rw [et];simp) ?_
              have tx:∃ th',ThAt K (upd H5 le (.lst [])) x th':=by
                obtain ⟨t',_,h'⟩:=(ta5.same s6).at (i:=rx.length) (x:=x) (by rw [ex,List.getElem?_append_right (Nat.le_refl _)];simp)
                exact ⟨t',h'⟩
              obtain ⟨th',tx⟩:=tx
              refine ⟨_,rfl,_,rfl,l,_,_,x,rfl,rfl,SqL.of (s6 _ _ hx5),(by rw [ex];exact at_last),?_⟩
              cases tx with
              |@lost a n sq=>exact ⟨a,_,_,_,rfl,rfl,sq,atI_nat (j:=0) rfl,rfl,_,rfl,fin _ _ s6⟩
              |@ev a b p' t' k' us sq sqz=>exact ⟨a,_,_,_,rfl,rfl,sq,atI_nat (j:=0) rfl,rfl,_,rfl,fin _ _ s6⟩
        · exact ifF (by simp [hr0]) (fin _ _ (Same.refl _))
      · refine ⟨_,rfl,.inl ⟨rfl,_,SqL.of hx5⟩,_,rfl,p,dc,_,rfl,D5,by decide,by decide,fun r' H6 r0' r1' D6 b6=>⟨_,_,rfl,rfl,z2,fun t ht=>?_⟩⟩
        have hx6:=b6 _ _ hx5 lp
        have ta6:=ta5.but D5 b6
        have B6:=B5.trans b6
        generalize hH:upd H6 t _=H7
        have s7:Same H6 H7:=by rw [← hH];exact Same.new ht
        have h7:H7 t=some (.tup [.str "lost",.int (1+r')]):=by rw [← hH];exact upd_same
        clear hH
        have D7:=D6.mono s7
        have B7:=B6.trans s7.but
        have hx7:=s7 _ _ hx6
        refine ⟨l,xs,_,rfl,rfl,hx7,by omega,?_⟩
        have th7:ThAt K H7 (.ref t) (.lost (1+r')):=.lost (SqT.of h7)
        have ta8:=ThsAt.snoc (th7.upd (o:=.lst (xs++[.ref t])) hx7) ((ta6.same s7).upd (o:=.lst (xs++[.ref t])) hx7)
        have D8:=D7.put (o:=.lst (xs++[.ref t])) lp lc
        have B8:But p H (upd H7 l (.lst (xs++[.ref t]))):=fun c o e hc=>by rw [upd_ne (ne_of_none e hl)];exact B7 c o e hc
        have sq8:=sqt_upd (o:=.lst (xs++[.ref t])) (K:=K) (SqT.of h7) hx7
        have h8:(upd H7 l (.lst (xs++[.ref t]))) l=some (.lst (xs++[.ref t])):=upd_same
        generalize upd H7 l (.lst (xs++[.ref t]))=H8 at ta8 D8 B8 sq8 h8 ⊢
        refine ⟨_,rfl,_,rfl,_,rfl,l,_,_,_,rfl,rfl,SqL.of h8,at_last,t,_,_,_,rfl,rfl,sq8,atI_nat (j:=1) rfl,_,_,rfl,rfl,?_⟩
        have rv':=RowV.lost (n:=1+r') (by omega) rv
        exact ⟨pl+(1+r'),_,_,_,_,rfl,h8,ta8,by rw [List.length_append,tl];rfl,rv'.1,by rw [rv'.2,pa],D8,B8⟩
      · have hq5:=B5 _ _ hq nqp
        refine ⟨_,rfl,.inl ⟨rfl,_,SqL.of hx5⟩,_,rfl,_,rfl,_,rfl,_,rfl,p,dc,q,_,rfl,D5,SqL.of hq5,(fun z=>nne (List.map_eq_nil_iff.mp z)),by rw [List.length_map];omega,fun v H6 hv D6 b6=>?_⟩
        obtain ⟨kk,mk,rfl⟩:=List.mem_map.mp hv
        have hx6:=b6 _ _ hx5 lp
        have ta6:=ta5.but D5 b6
        have B6:=B5.trans b6
        refine ⟨_,rfl,z1,fun t1 ht1=>⟨z5,fun t ht=>?_⟩⟩
        have s7:Same H6 (upd H6 t1 (.tup [.int (0+i)])):=Same.new ht1
        have h7:(upd H6 t1 (.tup [.int (0+i)])) t1=some (.tup [.int (0+i)]):=upd_same
        generalize upd H6 t1 (.tup [.int (0+i)])=H7 at s7 h7 ht ⊢
        generalize hH:upd H7 t _=H8
        have s8:Same H7 H8:=by rw [← hH];exact Same.new ht
        have h8:H8 t=some (.tup [.str "event",.int pl,.int (τ+r),.str kk,.ref t1]):=by rw [← hH];exact upd_same
        clear hH
        have S8:=s7.trans s8
        have D8:=D6.mono S8
        have B8:=B6.trans S8.but
        have h78:=s8 _ _ h7
        have hx8:=S8 _ _ hx6
        refine ⟨l,xs,_,rfl,rfl,hx8,by omega,?_⟩
        have th8:ThAt K H8 (.ref t) (.ev pl (τ+r) kk [0+i]):=.ev (SqT.of h8) (SqT.of h78)
        have ta9:=ThsAt.snoc (th8.upd (o:=.lst (xs++[.ref t])) hx8) ((ta6.same S8).upd (o:=.lst (xs++[.ref t])) hx8)
        have D9:=D8.put (o:=.lst (xs++[.ref t])) lp lc
        have B9:But p H (upd H8 l (.lst (xs++[.ref t]))):=fun c o e hc=>by rw [upd_ne (ne_of_none e hl)];exact B8 c o e hc
        have h9:(upd H8 l (.lst (xs++[.ref t]))) l=some (.lst (xs++[.ref t])):=upd_same
        generalize upd H8 l (.lst (xs++[.ref t]))=H9 at ta9 D9 B9 h9 ⊢
        have rv':=RowV.ev (t:=τ+r) (k:=kk) (us:=[0+i]) rv pa.symm
        refine ⟨_,rfl,_,_,rfl,rfl,?_⟩
        exact ⟨pl+1,_,_,_,_,rfl,h9,ta9,by rw [List.length_append,tl];rfl,rv'.1,by rw [rv'.2,pa],D9,B9⟩
    · rintro σ' H3 ⟨pl,τ,u5,ths,xs,rfl,hxs,ta,tl,rv,pa,D3,B3⟩
      exact ⟨_,rfl,k l xs ths H3 hl hxs ta (by omega) rv D3 B3⟩
end
end Cm
namespace Cm
open PySem L2 PySem.W
def prsOf (ys:List Str):Nat→List (Str×Str)
  |0=>[]
  | n+1=>match ys with
    |a::b::r=>(a,b)::prsOf r n
    |_=>[]
theorem prs_names:∀ (n:Nat) (ys:List Str),2*n≤ys.length→namesP (prsOf ys n)=ys.take (2*n)∧(prsOf ys n).length=n
  |0,_,_=>by simp [prsOf,namesP]
  |n+1,[],h=>by simp at h
  |n+1,[a],h=>by simp at h;omega
  | n+1,a::b::r,h=>by
    obtain ⟨h1,h2⟩:=prs_names n r (by simp at h;omega)
    refine ⟨?_,?_⟩
    · rw [prsOf]
      show [a,b]++namesP (prsOf r n)=(a::b::r).take (2*n+2)
      rw [h1]
      rfl
    · rw [prsOf]
      show ((a,b)::prsOf r n).length=n+1
      rw [List.length_cons,h2]
theorem prs_at:∀ (n:Nat) (ys:List Str) (i:Nat) (a b:Str),i<n→ys[2*i]?=some a→ys[2*i+1]?=some b→2*n≤ys.length→(prsOf ys n)[i]?=some (a,b)
  |0,_,i,_,_,h,_,_,_=>by omega
  |n+1,[],i,_,_,_,h,_,_=>by simp at h
  |n+1,[x],i,_,_,_,_,h,_=>by simp at h
  | n+1,x::y::r,0,a,b,_,h1,h2,_=>by
    simp at h1 h2
    subst h1 h2
    rw [prsOf]
    rfl
  | n+1,x::y::r,i+1,a,b,hi,h1,h2,hl=>by
    have:=prs_at n r i a b (by omega) (by simpa [Nat.mul_succ] using h1) (by simpa [Nat.mul_succ] using h2) (by simp at hl;omega)
    rw [prsOf]
    show ((x,y)::prsOf r n)[i+1]?=_
    simpa using this
theorem prs_ok {ys:List Str} {n:Nat} (hl:2*n≤ys.length) (nd:ys.Nodup) (nm:∀ y∈ys,Nm y) (h3:n≤3):PrOk (prsOf ys n):=by
  obtain ⟨h1,h2⟩:=prs_names n ys hl
  refine ⟨by rw [h1];exact (List.take_sublist _ _).nodup nd,fun x m=>?_,by omega⟩
  rw [h1] at m
  exact nm x (List.mem_of_mem_take m)
section
variable {P:Program} {w:World} {K:PySem.W.Frag} {mg:Str→Option Value} {base:Heap}
abbrev NPp:List Str:=["_law_d","_law_names","_law_many"]
theorem scPp:FnScope NPp ["_law_d"] (defScope (top 24)):=⟨rfl,rfl,rfl,by decide +kernel,rfl,by decide +kernel,by decide +kernel⟩
def spPp (K:Frag):Sp:=fun vs H Q _=>∃ (p dc:Addr),vs=[.ref p]∧Dr H p dc∧∀ (t tp q:Addr) (ys:List Str) (xs:List V) (ps:List (Str×Str)) (H':Hp),H' t=some (.tup [.ref tp,.ref q])→H' q=some (.lst (ys.map V.str))→H q=none→H' tp=some (.tup xs)→PrsAt K H' xs ps→PrOk ps→ys.length=7→Dr H' p dc→But p H H'→Q (.ref t) H'
theorem ok_pp {f fP fWs:Addr} {fd fdP fdWs:FuncData} (F:Fun K "_law_span_pairs" "_law_span_pairs" (top 24) f fd) (T:Txt K mg) (DP:Def K mg "_law_pick" (top 17) ["_law_d","_law_many"] fP fdP) (DWs:Def K mg "_law_words" (top 21) ["_law_d","_law_many"] fWs fdWs) (GWs:FnOk P w K mg base CX0 4 fWs fdWs ["_law_d","_law_many"] (spWords K)):FnOk P w K mg base CX0 5 f fd ["_law_d"] (spPp K):=by
  have GP:FnOk P w K mg base CX0 1 fP fdP ["_law_d","_law_many"] spPick:=ok_pick DP.F T
  refine F.ok scPp (fun vs H Q E h=>?_) (fun cdv A outer s H vs Q E hr h=>?_)
  · obtain ⟨p,dc,rfl,_⟩:=h
    rfl
  · obtain ⟨p,dc,rfl,D,k⟩:=h
    have hr1:Room 1 _:=hr.mono (by decide)
    refine ⟨_,(pss_cons
  (ps_set (i:=1) scPp.nd rfl (Or.inr rfl) (pe_call GWs hr rfl DWs.mg DWs.F.kp DWs.b .nil pass0 (pa_cons (pv 0) (pa_cons pe_int pa_nil))))
  (pss_cons
  (ps_set (i:=2) scPp.nd rfl (Or.inl rfl) (pe_call GP hr1 rfl DP.mg DP.F.kp DP.b .nil pass0 (pa_cons (pv 0) (pa_cons pe_int pa_nil))))
  (pss_one
  (ps_ret (pe_tup (pa_cons (pe_callTy call_tuple_of (by rfl) T.tuple bt_tuple (pa_cons (pe_comp (g:=gName 0) (te:=tTup (tCons (tOp (rIxL K) (tVar 1) (tOp (rI CMul fun i j=>.int (i*j)) (tC (.int 2)) (tVar 0))) (tCons (tOp (rIxL K) (tVar 1) (tOp (rI0 fun i j=>.int (i+j)) (tOp (rI CMul fun i j=>.int (i*j)) (tC (.int 2)) (tVar 0)) (tC (.int 1)))) tNil))) (own:=["_law_at"]) (js:=[1]) (N':=["_law_at","_law_names"]) (CompScope.of (osc:=defScope (top 24)) (N:=NPp) rfl rfl ⟨rfl,by decide +kernel,by decide +kernel,by decide +kernel,rfl,by decide +kernel⟩) rfl (pi_range1 rfl T.range (pa_cons (pv 2) pa_nil)) (fun _ _ _ _ _=>(pg_name (i:=0) (show List.Nodup (["_law_at","_law_names"]:List Str) by decide +kernel) rfl (Or.inl rfl) (Or.inr rfl))) (fun _ _ _ _ _=>pifs_nil) (fun _ _ _ _ _=>(pe_tup (pa_cons (pe_ix (r:=rIxL K) ix_list (pv 1) (pe_op op_mul pe_int (pv 0)) (fun _ _=>rfl)) (pa_cons (pe_ix (r:=rIxL K) ix_list (pv 1) (pe_op op_add (pe_op op_mul pe_int (pv 0)) pe_int) (fun _ _=>rfl)) pa_nil))))) pa_nil)) (pa_cons (pv 1) pa_nil))))))),?_⟩
    have z2:2≤sizeLine:=by decide
    have big:1000≤sizeLine:=by decide
    refine ⟨_,rfl,p,dc,7,rfl,D,by decide,by decide,fun q ys H1 hq hqn yl nm nd D1 b1=>?_⟩
    have yl7:ys.length=7:=by omega
    refine ⟨_,rfl,p,dc,_,rfl,D1,by decide,by decide,fun m H2 m0 m1 D2 b2=>?_⟩
    obtain ⟨n,rfl⟩:∃ n:Nat,m=(n:Int):=⟨m.toNat,by omega⟩
    have nqp:q≠p:=D1.ne hq (by intro _ z;cases z)
    have hq2:=b2 _ _ hq nqp
    have B2:=b1.trans b2
    have n3:n≤3:=by omega
    have pk:=prs_ok (ys:=ys) (n:=n) (by omega) nd nm n3
    obtain ⟨_,pl⟩:=prs_names n ys (by omega)
    refine ⟨_,rfl,n,rfl,by omega,by omega,?_⟩
    refine comp_range (n:=n) (fun i zs σ' H'=>(∃ v,σ'=[v,some (.ref q)])∧Same H2 H'∧PrsAt K H' zs ((prsOf ys n).take i)) (by omega) ⟨⟨none,rfl⟩,Same.refl _,.nil⟩ ?_ ?_
    · rintro i zs σ' H3 hi zl ⟨⟨v,rfl⟩,s3,pe⟩ N hN
      have i1:2*i<ys.length:=by omega
      have i2:2*i+1<ys.length:=by omega
      have a1:ys[2*i]?=some ys[2*i]:=List.getElem?_eq_getElem i1
      have a2:ys[2*i+1]?=some ys[2*i+1]:=List.getElem?_eq_getElem i2
      have c1:CMul 2 (0+(i:Int)):=.inl ⟨by decide,by decide⟩
      have e1:atI (ys.map V.str) (2*(0+(i:Int)))=some (.str ys[2*i]):=by
        rw [show (2*(0+(i:Int)))=((2*i:Nat):Int) by omega]
        exact atI_nat (by rw [List.getElem?_map,a1];rfl)
      have e2:atI (ys.map V.str) (2*(0+(i:Int))+1)=some (.str ys[2*i+1]):=by
        rw [show (2*(0+(i:Int))+1)=((2*i+1:Nat):Int) by omega]
        exact atI_nat (by rw [List.getElem?_map,a2];rfl)
      refine ⟨_,rfl,_,rfl,_,_,rfl,rfl,c1,q,_,_,_,rfl,rfl,SqL.of (s3 _ _ hq2),e1,_,rfl,_,rfl,_,_,rfl,rfl,c1,_,_,rfl,rfl,q,_,_,_,rfl,rfl,SqL.of (s3 _ _ hq2),e2,z2,fun t ht=>?_⟩
      have s4:Same H3 (upd H3 t (.tup [.str ys[2*i],.str ys[2*i+1]])):=Same.new ht
      refine hN _ _ _ (by rw [List.length_append,zl];rfl) ⟨⟨_,rfl⟩,s3.trans s4,?_⟩
      rw [take_snoc (prs_at n ys i _ _ hi a1 a2 (by omega))]
      exact Pd.snoc ⟨t,rfl,SqT.of upd_same⟩ (pe.map fun _ _ z=>z.same s4)
    · rintro zs σ' H3 zl ⟨_,s3,pe⟩
      rw [show (prsOf ys n).take n=prsOf ys n from by conv=>lhs;rw [← pl];rw [pl,List.take_of_length_le (by omega)]] at pe
      refine ⟨by omega,fun l hl=>?_⟩
      have s4:Same H3 (upd H3 l (.lst zs)):=Same.new hl
      refine ⟨l,zs,rfl,.inl ⟨SqL.of upd_same,fun tp htp=>?_⟩⟩
      have s5:Same (upd H3 l (.lst zs)) (upd (upd H3 l (.lst zs)) tp (.tup zs)):=Same.new htp
      have h5:(upd (upd H3 l (.lst zs)) tp (.tup zs)) tp=some (.tup zs):=upd_same
      have S5:=s3.trans (s4.trans s5)
      have pe5:PrsAt K (upd (upd H3 l (.lst zs)) tp (.tup zs)) zs (prsOf ys n):=pe.map fun _ _ z=>z.same (s4.trans s5)
      generalize upd (upd H3 l (.lst zs)) tp (.tup zs)=H5 at s5 h5 S5 pe5 ⊢
      refine ⟨_,rfl,z2,fun t ht=>?_⟩
      have s6:Same H5 (upd H5 t (.tup [.ref tp,.ref q])):=Same.new ht
      have S6:=S5.trans s6
      exact k t tp q ys zs (prsOf ys n) _ upd_same (S6 _ _ hq2) hqn (s6 _ _ h5) (pe5.map fun _ _ z=>z.same s6) pk yl7 (D2.mono S6) (B2.trans S6.but)
end
end Cm
namespace Cm
open PySem L2 PySem.W
def topA (i:Nat):Stmt:=PySem.Challenge.pw_lanescribe_k30_spans_and_strays.main.body.getD i (.Pass ⟨0,0,0,0⟩)
def Caught (K:Frag) (cB cS cM Ce:Addr) (fs:List (Str×V)) (wd:Str):Prop:=
  (mroIn K Ce (.ref cB)=some true∧XGet K Ce "at"∧∃ n:Int,fs.lookup ("at" : Str)=some (.int n)∧n.natAbs.log2<1920∧("badvalue " : Str).length+(toString n:Str).length≤sizeLine∧wd=("badvalue " : Str)++(toString n:Str))∨
  (mroIn K Ce (.ref cB)=some false∧mroIn K Ce (.ref cS)=some true∧XGet K Ce "word"∧fs.lookup ("word" : Str)=some (.str wd))∨
  (mroIn K Ce (.ref cB)=some false∧mroIn K Ce (.ref cS)=some false∧mroIn K Ce (.ref cM)=some true∧XGet K Ce "word"∧fs.lookup ("word" : Str)=some (.str wd))
section
variable {P:Program} {w:World} {K:PySem.W.Frag} {mg:Str→Option Value} {base:Heap}
def spAsk (P:Program) (w:World) (K:PySem.W.Frag) (mg:Str→Option Value) (base:Heap) (k:Nat) (cB cS cM:Addr):Shared→List Env→Sp:=fun s outer vs H Q _=>∃ g Qv Ev,vs=[.ref g]∧Thunk P w K mg base s.heap H (frs outer) k g H Qv Ev∧
  (∀ v H',Qv v H'→∀ l,H' l=none→Q (.ref l) (upd H' l (.lst [.str "",v])))∧
  ∀ cls dd H',Ev cls dd H'→∃ Ce da fs wd,cls=.ref Ce∧dd=some da∧H' da=some (exD da fs)∧Caught K cB cS cM Ce fs wd∧∀ l,H' l=none→Q (.ref l) (upd H' l (.lst [.str wd,.non]))
structure TxtA (K:PySem.W.Frag) (mg:Str→Option Value) (cB cS cM:Addr):Prop where
  str:mg "str" = none
  bv:mg "BadValue" = some (.ref cB)
  se:mg "ScribeError" = some (.ref cS)
  mi:mg "Missing" = some (.ref cM)
  xb:∃ B n,XCls K cB B n
  xs:∃ B n,XCls K cS B n
  xm:∃ B n,XCls K cM B n
theorem scAsk:FnScope ["_law_ask_here","_law_told","_law_word_here","e"] ["_law_ask_here"] (defScope (topA 22)):=⟨rfl,rfl,rfl,by decide +kernel,rfl,by decide +kernel,by decide +kernel⟩
theorem ok_ask {CX:CXT} {f cB cS cM:Addr} {fd:FuncData} {k:Nat} (F:Fun K "_law_ask" "_law_ask" (topA 22) f fd) (T:TxtA K mg cB cS cM):FnOkS P w K mg base CX (k+1) f fd ["_law_ask_here"] (spAsk P w K mg base k cB cS cM):=by
  obtain ⟨B1,n1,x1⟩:=T.xb
  obtain ⟨B2,n2,x2⟩:=T.xs
  obtain ⟨B3,n3,x3⟩:=T.xm
  refine F.okS scAsk (fun s outer vs H Q E h=>?_) (fun cdv A outer s H vs Q E hr h=>?_)
  · obtain ⟨g,Qv,Ev,rfl,_⟩:=h
    rfl
  · obtain ⟨g,Qv,Ev,rfl,Th,hv,he⟩:=h
    refine ⟨_,(pss_cons (ps_set (i:=1) scAsk.nd rfl (Or.inl rfl) pe_non)
      (pss_cons (ps_set (i:=2) scAsk.nd rfl (Or.inl rfl) pe_str)
      (pss_cons (ps_try rfl rfl rfl (psx_thunk (k:=k) (i:=1) (j:=0) scAsk.nd rfl (Or.inl rfl) rfl (Or.inl rfl) rfl hr)
        (ph_cons (i:=3) (C:=cB) (B:=B1) (newId:=n1) scAsk.nd rfl rfl (fun ea ps=>pe_glob (by rfl) T.bv rfl) (fun ea oe ps Ce dd hm hc hd hvs=>pss_one (ps_set (i:=2) scAsk.nd rfl (Or.inl rfl) (pe_op op_add_str pe_str (pe_callTy call_str_int (by rfl) T.str bt_str (pa_cons (pe_xatH hm hc hd hvs (pv 3)) pa_nil)))))
        (ph_cons (i:=3) (C:=cS) (B:=B2) (newId:=n2) scAsk.nd rfl rfl (fun ea ps=>pe_glob (by rfl) T.se rfl) (fun ea oe ps Ce dd hm hc hd hvs=>pss_one (ps_set (i:=2) scAsk.nd rfl (Or.inl rfl) (pe_xatH hm hc hd hvs (pv 3))))
        (ph_cons (i:=3) (C:=cM) (B:=B3) (newId:=n3) scAsk.nd rfl rfl (fun ea ps=>pe_glob (by rfl) T.mi rfl) (fun ea oe ps Ce dd hm hc hd hvs=>pss_one (ps_set (i:=2) scAsk.nd rfl (Or.inl rfl) (pe_xatH hm hc hd hvs (pv 3))))
        ph_nil))))
      (pss_one (ps_ret (pe_lst (pa_cons (pv 2) (pa_cons (pv 1) pa_nil)))))))),?_⟩
    have small:∀ x y:V,[x,y].length≤sizeLine:=fun x y=>by rw [sizeLine_eq];show 2≤16777216;decide
    refine ⟨g,Qv,Ev,rfl,Th,fun v H' q=>?_,fun cls dd H' q=>?_⟩
    · exact ⟨_,rfl,_,rfl,small _ _,fun p hp=>hv v H' q p hp⟩
    · obtain ⟨Ce,da,fs,wd,rfl,rfl,hd,hc,hq⟩:=he _ _ _ q
      refine ⟨Ce,rfl,x1,?_⟩
      rcases hc with ⟨m1,G,n,l,z,zz,rfl⟩|⟨m1,m2,G,l⟩|⟨m1,m2,m3,G,l⟩
      · refine ⟨true,m1,fun ea=>?_⟩
        exact ⟨_,rfl,da,fs,_,rfl,rfl,hd,G,l,n,rfl,z,_,_,rfl,rfl,zz,_,rfl,_,rfl,small _ _,fun p hp=>hq p hp⟩
      · refine ⟨false,m1,x2,true,m2,fun ea=>?_⟩
        exact ⟨_,rfl,da,fs,_,rfl,rfl,hd,G,l,_,rfl,_,rfl,small _ _,fun p hp=>hq p hp⟩
      · refine ⟨false,m1,x2,false,m2,x3,true,m3,fun ea=>?_⟩
        exact ⟨_,rfl,da,fs,_,rfl,rfl,hd,G,l,_,rfl,_,rfl,small _ _,fun p hp=>hq p hp⟩
end
end Cm
namespace Cm
open PySem L2 PySem.W
structure FunD (K:PySem.W.Frag) (x qual:Str) (st:Stmt) (dV:Value) (f:Addr) (fd:FuncData):Prop where
  ex:∃ (oc:Value) (od:Option Addr) (kV doc pm:Value) (an:Option Addr) (cdv ct:Value) (osl:Array (Option Value)),
    fd=PySem.W.fnOf x qual (defArgs st) (defBody st) (defScope st) dV kV doc pm an cdv ct∧K.lookup f=some ⟨oc,od,.func fd,osl⟩∧PySem.W.codeIn K cdv qual=true
  kp:PySem.W.keepIn K (.ref f)=true
section
variable {P:Program} {w:World} {K:PySem.W.Frag} {mg:Str→Option Value} {base:Heap}
theorem FunD.binds {x qual:Str} {st:Stmt} {f T:Addr} {fd:FuncData} {ps:List Str} {ds:List Value} {oT:Obj} {items:Array Value} {n:Nat} (F:FunD K x qual st (.ref T) f fd) (hT:K.lookup T=some oT) (hd:oT.data=.seq items n)
    (h:∀ (kV doc pm:Value) (an:Option Addr) (cdv ct:Value) (s:Shared) (us:List Value),s.heap.get? T=some oT→(us++ds).length=ps.length→BindsTo s (PySem.W.fnOf x qual (defArgs st) (defBody st) (defScope st) (.ref T) kV doc pm an cdv ct) ⟨us,[]⟩ (ps.zip (us++ds))):Binds K fd ps ds:=by
  obtain ⟨oc,od,kV,doc,pm,an,cdv,ct,osl,rfl,lk,hcd⟩:=F.ex
  exact fun s us X hl=>h kV doc pm an cdv ct s us (X _ _ hT) hl
end
abbrev sSE:Stmt:=inClass (top 1) 0
section
variable {P:Program} {w:World} {K:PySem.W.Frag} {mg:Str→Option Value} {base:Heap}
theorem FunD.ok1 {CX:CXT} {x qual:Str} {st:Stmt} {dV:Value} {f:Addr} {fd:FuncData} {N ps:List Str} {k:Nat} {sp:Sp} (F:FunD K x qual st dV f fd) (S:FnScope N ps (defScope st)) (len:∀ vs H Q E,sp vs H Q E→vs.length=ps.length)
    (hbody:∀ (cdv:Value) (A:Around) (outer:List Env) (s:Shared) (H:Hp) (vs:List V) (Q:VK) (E:XK),Room k (A.deeper (PyProof.Rows.envOfC qual (defScope st) s.heap.objs.size f cdv))→sp vs H Q E→
      ∃ t,PSs (cxOf CX P w K mg base N qual (defScope st) f cdv A outer s H E) (defBody st) t∧t { nx:=fun _ H'=>Q .non H',rt:=Q } (L2.start N vs) H):FnOk P w K mg base CX (k+1) f fd ps sp:=by
  obtain ⟨oc,od,kV,doc,pm,an,cdv,ct,osl,rfl,lk,hcd⟩:=F.ex
  exact fn_of lk hcd S len fun A outer s H vs Q E hr hsp=>hbody cdv A outer s H vs Q E hr hsp
structure ECls (K:Frag) (C:Addr):Prop where
  x:XCls K C "ValueError" "ValueError.__new__"
  w:takerIn K C "word" = some none
def spSE (K:Frag):Sp:=fun vs H Q _=>∃ (e C:Addr) (a:V) (b:V),vs=[.ref e,a,b]∧ECls K C∧H e=some (excO e C none)∧∀ da,H da=none→Q .non (upd (upd H e (excO e C (some da))) da (exD da [("word",b)]))
theorem scSE:FnScope ["self","words","word"] ["self","words","word"] (defScope sSE):=⟨rfl,rfl,rfl,by decide +kernel,rfl,by decide +kernel,by decide +kernel⟩
structure TxtE (K:Frag) (mg:Str→Option Value):Prop where
  ve:mg "ValueError" = none
  fc:findCls K (.type "ValueError") (.type "type") "__init__" = some (.val (.builtin "ValueError.__init__"))
theorem ok_se {CX:CXT} {f:Addr} {fd:FuncData} {dV:Value} (F:FunD K "__init__" "ScribeError.__init__" sSE dV f fd) (T:TxtE K mg):FnOk P w K mg base CX 1 f fd ["self","words","word"] (spSE K):=by
  refine F.ok1 scSE (fun vs H Q E h=>?_) (fun cdv A outer s H vs Q E hr h=>?_)
  · obtain ⟨e,C,a,b,rfl,_⟩:=h
    rfl
  · obtain ⟨e,C,a,b,rfl,EC,he,k⟩:=h
    refine ⟨_,(pss_cons (ps_expr (pe_typeMeth (by rfl) T.ve (by rfl) (by kernel_rfl) (by decide +kernel) T.fc (call_initX PySem.F.excBase_ValueError) (pa_cons (pv 0) (pa_cons (pv 1) pa_nil))))
      (pss_one (ps_fldX (B:="ValueError") (newId:="ValueError.__new__") (pv 0) (pv 2) rfl))),?_⟩
    exact ⟨_,rfl,_,rfl,e,C,_,_,rfl,he,EC.x,_,rfl,_,rfl,e,C,rfl,EC.x,EC.w,.inl ⟨he,k⟩⟩
structure MkOf (K:Frag) (mg:Str→Option Value) (cn:Str) (C f:Addr):Prop where
  mg:mg cn=some (.ref C)
  sg:specialIn K (.ref C) "__getattribute__" = some (some (.builtin "type.__getattribute__"))
  rd:∃ mc,readsIn K C mc=true∧findCls K (.ref C) mc "__init__" = some (.val (.ref f))
  kp:keepIn K (.ref f)=true
def spW (K:Frag) (wd:Str):Sp:=fun vs H Q _=>∃ (e C:Addr) (a:V),vs=[.ref e,a]∧ECls K C∧H e=some (excO e C none)∧∀ da,H da=none→Q .non (upd (upd H e (excO e C (some da))) da (exD da [("word",.str wd)]))
abbrev sBadPairs:Stmt:=inClass (top 2) 0
theorem scBadPairs:FnScope ["self","words"] ["self","words"] (defScope sBadPairs):=⟨rfl,rfl,rfl,by decide +kernel,rfl,by decide +kernel,by decide +kernel⟩
theorem ok_BadPairs {CX:CXT} {f cS fS:Addr} {fd fdS:FuncData} {dV dW:Value} (F:FunD K "__init__" "BadPairs.__init__" sBadPairs dW f fd) (T:TxtE K mg) (FS:FunD K "__init__" "ScribeError.__init__" sSE dV fS fdS) (bS:Binds K fdS ["self","words","word"] []) (MS:MkOf K mg "ScribeError" cS fS):FnOk P w K mg base CX 2 f fd ["self","words"] (spW K "badpairs"):=by
  have GS:FnOk P w K mg base CX0 1 fS fdS ["self","words","word"] (spSE K):=ok_se FS T
  obtain ⟨mc,m1,m2⟩:=MS.rd
  refine F.ok1 scBadPairs (fun vs H Q E h=>?_) (fun cdv A outer s H vs Q E hr h=>?_)
  · obtain ⟨e,C,a,rfl,_⟩:=h
    rfl
  · obtain ⟨e,C,a,rfl,EC,he,k⟩:=h
    refine ⟨_,(pss_one (ps_expr (pe_clsMeth (E:=E0) (by rfl) MS.mg MS.sg m1 m2 MS.kp GS hr bS .nil pass0 (pa_cons (pv 0) (pa_cons (pv 1) (pa_cons pe_str pa_nil)))))),?_⟩
    exact ⟨_,rfl,_,rfl,e,C,_,_,rfl,EC,he,k⟩
def Thrown (H:Hp) (fs:List (Str×V)) (da:Addr) (H':Hp):Prop:=H da=none∧H'=upd H da (exD da fs)
theorem thrown_of {H:Hp} {e da C:Addr} {fs:List (Str×V)} (h1:H e=none) (h2:upd H e (excO e C none) da=none):Thrown H fs da (unt (upd (upd (upd H e (excO e C none)) e (excO e C (some da))) da (exD da fs)) e):=by
  have ne:da≠e:=fun q=>by subst q;rw [upd_same] at h2;cases h2
  rw [upd_ne ne] at h2
  refine ⟨h2,funext fun b=>?_⟩
  by_cases q:b=e
  · subst q
    rw [unt_same,upd_ne (Ne.symm ne),h1]
  · rw [unt_ne q]
    by_cases r:b=da
    · subst r;rw [upd_same,upd_same]
    · rw [upd_ne r,upd_ne q,upd_ne q,upd_ne r]
theorem none_back {H H1:Hp} {e:Addr} (h:Same H H1) (n:H1 e=none):H e=none:=by
  cases z:H e with
  |none=>rfl
  |some o=>have:=h _ _ z;rw [n] at this;cases this
structure WCls (K:Frag) (mg:Str→Option Value) (x:Str) (C f:Addr) (fd:FuncData):Prop where
  b:Binds K fd ["self","words"] []
  mg:mg x=some (.ref C)
  e:ECls K C
  i:findIn K (.ref C) "__init__" = some (some (.ref f))
  n:isFn K (.ref f)=true
end
end Cm
namespace Cm
open PySem L2 PySem.W
def Asc (x:Str):Prop:=x.cps.all (·<128)=true
theorem asc_lt {x:Str} (a:Asc x):∀ c∈x.cps.toList,c<128:=by
  unfold Asc at a
  rw [← Array.all_toList,List.all_eq_true] at a
  exact fun c hc=>by simpa using a c hc
theorem shown_len {x:Str} (a:Asc x) (h:x.length≤100):(PyData.str x).shown.length≤100000:=by
  show (reprText x).length≤100000
  have h1:=StrLaws.reprText_len x (fun c hc=>Nat.lt_trans (asc_lt a c hc) (by decide))
  omega
theorem showA {x:Str} (a:Asc x) (h:x.length≤100):ShowD (.str x):=⟨rfl,rfl,by simp [PyData.depth],Nat.le_trans (shown_len a h) (by decide)⟩
theorem pss_never {X:Cx} {ss:List Stmt}:PSs X ss tNever:=fun _ _ _ _ _ _ h=>h.elim
section
variable {P:Program} {w:World} {K:PySem.W.Frag} {mg:Str→Option Value} {base:Heap}
theorem fn_lift {CX:CXT} {k:Nat} {f:Addr} {fd:FuncData} {ps:List Str} {sp:Sp} (F:FnOk P w K mg base CX0 k f fd ps sp):FnOk P w K mg base CX k f fd ps sp:=
  ⟨F.len,fun A outer s H args us vs Q E hr he hb hv hs=>codeAny_mono (F.run A outer s H args us vs Q E hr he hb hv hs) fun r s' h=>by
    cases r with
    |error e=>exact h.elim
    |ok fl=>cases fl <;> exact h⟩
theorem fn_or {CX:CXT} {k:Nat} {f:Addr} {fd:FuncData} {ps:List Str} {sp sp':Sp} (F:FnOk P w K mg base CX k f fd ps sp) (F':FnOk P w K mg base CX k f fd ps sp'):FnOk P w K mg base CX k f fd ps (fun vs H Q E=>sp vs H Q E∨sp' vs H Q E):=
  ⟨fun vs H Q E h=>h.elim (F.len vs H Q E) (F'.len vs H Q E),fun A outer s H args us vs Q E hr he hb hv hs=>hs.elim (F.run A outer s H args us vs Q E hr he hb hv) (F'.run A outer s H args us vs Q E hr he hb hv)⟩
def BadN (ns:List Str):Prop:=∃ i x,ns[i]?=some x∧(nameB x=false∨x∈ns.take i)
structure PrTx (ps:List (Str×Str)):Prop where
  tx:∀ x∈namesP ps,Asc x∧x.length≤20
  le:ps.length≤6
def spNpB (K:Frag) (cP:Addr):Sp:=fun vs H _ E=>∃ (q:Addr) (xs:List V) (ps:List (Str×Str)),vs=[.ref q]∧SqL K H q xs∧PrsAt K H xs ps∧PrTx ps∧BadN (namesP ps)∧∀ H1 da H',Same H H1→Thrown H1 [("word",.str "badpairs")] da H'→E (.ref cP) (some da) H'
theorem ok_npB {f fI cP fB:Addr} {fd fdI fdB:FuncData} (F:Fun K "need_pairs" "need_pairs" (top 9) f fd) (T:Txt K mg) (TK':TxtK mg) (hen:mg "enumerate" = none) (DI:Def K mg "is_name" (top 7) ["text"] fI fdI) (WP:WCls K mg "BadPairs" cP fB fdB) (GB:FnOk P w K mg base CX0 2 fB fdB ["self","words"] (spW K "badpairs")):FnOk P w K mg base (CX1 P w) 5 f fd ["pairs"] (spNpB K cP):=by
  have GI:FnOk P w K mg base CX0 1 fI fdI ["text"] spIsName:=ok_isname DI.F T TK'
  refine F.ok1 scNp (fun vs H Q E h=>?_) (fun cdv A outer s H vs Q E hr h=>?_)
  · obtain ⟨q,xs,ps,rfl,_⟩:=h
    rfl
  · obtain ⟨q,xs,ps,rfl,hq,pe,ok,⟨i0,x0,hx0,bad⟩,k⟩:=h
    have hr1:Room 1 _:=hr.mono (by decide)
    have hr3:Room 3 _:=hr.mono (by decide)
    refine ⟨_,(pss_cons
  (ps_setComp2 (g:=gName 0) (g2:=gName 1) (tt:=tYes) (tt2:=tYes) (te:=tVar 1) (wi2:=iTup K (tVar 0)) (i:=1) (own:=["pair","name"]) (js:=[]) (N':=["pair","name"]) (CompScope.of (osc:=defScope (top 9)) (N:=NNp) rfl rfl ⟨rfl,by decide +kernel,by decide +kernel,by decide +kernel,rfl,by decide +kernel⟩) rfl scNp.nd rfl rfl (pi_list (pv 0)) (fun _ _ _ _ _=>(pg_name (i:=0) (show List.Nodup (["pair","name"]:List Str) by decide +kernel) rfl (Or.inl rfl) (Or.inr rfl))) (fun _ _ _ _ _=>pifs_nil) (fun _ _ _ _ _=>pi_tupK rfl (pv 0)) (fun _ _=>rfl) (fun _ _ _ _ _=>(pg_name (i:=1) (show List.Nodup (["pair","name"]:List Str) by decide +kernel) rfl (Or.inl rfl) (Or.inr rfl))) (fun _ _ _ _ _=>pifs_nil) (fun _ _ _ _ _=>pv 1))
  (pss_one
  (ps_for PassesOwn.leaving rfl (pi_enumL rfl hen bt_enumerate (pa_cons (pv 1) pa_nil)) (pg_tup rfl (pgs_cons (pg_name (i:=2) scNp.nd rfl (Or.inl rfl)) (pgs_cons (pg_name (i:=3) scNp.nd rfl (Or.inl rfl)) pgs_nil))) (pss_one
    (ps_if (PW.pt (pw_or (pt_not (pt_val (pe_call (E:=E0) GI hr1 rfl DI.mg DI.F.kp DI.b .nil pass0 (pa_cons (pv 3) pa_nil)))) (pw_or1 (pt_cmpR op_in_seq (pv 3) (pe_slice sl_list (pv 1) po_none (po_some (pv 2))) rfl)))) (pss_one
      (ps_raise (B:="ValueError") (newId:="ValueError.__new__") (W:=E)
        (pe_makeX (E:=E0) PySem.F.excBase_ValueError WP.e.x WP.i WP.n GB hr3 (by rfl) WP.mg WP.b .nil pass0 (pa_cons (pe_fstr (pf_repr hr.units hr.gd (pv 3) (pf_txt pf_nil))) pa_nil)) rfl rfl (fun pins σ H' s' e cls dd I x q=>xe1 I x q))) pss_nil))))),?_⟩
    have big:200000≤sizeLine:=by decide
    have nl:=names_len ps
    have le:=ok.le
    refine ⟨_,rfl,q,rfl,⟨xs,hq⟩,?_⟩
    refine comp2_lt ⟨_,_,rfl⟩ hq (prs_ins pe) (by rw [flat_names,List.length_map];omega) ?_
    rw [flat_names]
    refine ⟨by rw [List.length_map];omega,fun p hp=>?_⟩
    have s1:Same H (upd H p (.lst ((namesP ps).map V.str))):=Same.new hp
    have h1:(upd H p (.lst ((namesP ps).map V.str))) p=some (.lst ((namesP ps).map V.str)):=upd_same
    generalize upd H p (.lst ((namesP ps).map V.str))=H1 at s1 h1 ⊢
    try dsimp only [gName]
    refine ⟨_,rfl,p,rfl,⟨_,SqL.of h1⟩,?_⟩
    refine for_enumL (K:=K) (a:=p) (xs:=(namesP ps).map V.str) (fun i σ' H'=>(∃ u2 u3,σ'=[some (.ref q),some (.ref p),u2,u3])∧Same H1 H'∧i≤i0) ⟨⟨_,_,rfl⟩,Same.refl _,Nat.zero_le _⟩ (fun i σ' H' _ ⟨_,s',_⟩=>SqL.of (s' _ _ h1)) ?_ ?_
    · rintro i v σ' H2 t hv ⟨⟨u2,u3,rfl⟩,s2,hi0⟩ ht
      rw [List.getElem?_map] at hv
      obtain ⟨x,hx,rfl⟩:∃ x,(namesP ps)[i]?=some x∧V.str x=v:=by
        cases hj:(namesP ps)[i]? with
        |none=>rw [hj] at hv;cases hv
        |some x=>rw [hj] at hv;exact ⟨x,rfl,by simpa using hv⟩
      have s3:Same H2 (upd H2 t (.tup [.int (i:Nat),.str x])):=Same.new ht
      refine ⟨t,_,rfl,SqT.of upd_same,rfl,_,_,rfl,_,_,rfl,rfl,?_⟩
      have S3:=s2.trans s3
      generalize upd H2 t (.tup [.int (i:Nat),.str x])=H3 at s3 S3 ⊢
      have mx:=List.mem_of_getElem? hx
      obtain ⟨ax,x20⟩:=ok.tx x mx
      have il:i<(namesP ps).length:=(List.getElem?_eq_some_iff.mp hx).1
      have ec:cutV ((namesP ps).map V.str) none (some (i:Int))=((namesP ps).take i).map V.str:=by rw [cut_pre (by rw [List.length_map];omega),← List.map_take]
      have thr:∀ H4,Same H H4→∀ e,H4 e=none→∀ da,(upd H4 e (excO e cP none)) da=none→True:=fun _ _ _ _ _ _=>trivial
      clear thr
      have e1:((" is no name, or stands twice" : Str)).length=28:=by decide +kernel
      have sd:=showA ax (by omega)
      have sl:=shown_len ax (by omega)
      refine ⟨_,rfl,x,rfl,by omega,?_⟩
      cases hb:nameB x with
      | false=>
        refine ⟨_,rfl,ifT rfl (ifT rfl ?_)⟩
        refine ⟨_,rfl,.str x,rfl,.str x,sd,?_,?_,?_,fun e he=>⟨e,cP,_,rfl,WP.e,upd_same,fun da hda=>⟨rfl,e,cP,some da,rfl,?_,none_back (s1.trans S3) he,WP.e.x,k H3 da _ (s1.trans S3) (thrown_of he hda)⟩⟩⟩
        all_goals (try rw [Str.empty_append])
        all_goals (try (first|omega|(simp only [Str.length_append,e1];omega)))
        have ne:e≠da:=fun q=>by subst q;rw [upd_same] at hda;cases hda
        rw [upd_ne ne,upd_same]
      | true=>
        refine ⟨_,rfl,ifF rfl ?_⟩
        refine ⟨_,rfl,_,rfl,_,rfl,_,rfl,p,_,rfl,SqL.of (S3 _ _ h1),fun l hl=>?_⟩
        rw [ec]
        have s4:Same H3 (upd H3 l (.lst (((namesP ps).take i).map V.str))):=Same.new hl
        have h4:(upd H3 l (.lst (((namesP ps).take i).map V.str))) l=some (.lst (((namesP ps).take i).map V.str)):=upd_same
        generalize upd H3 l (.lst (((namesP ps).take i).map V.str))=H4 at s4 h4 ⊢
        have S4:=S3.trans s4
        refine ⟨l,_,rfl,.inl (SqL.of h4),rfl,flat_str _,_,rfl,?_⟩
        by_cases hin:x∈(namesP ps).take i
        · refine ifT (by show inV (.str x) _=true;rw [inV_str];exact decide_eq_true hin) ?_
          refine ⟨_,rfl,.str x,rfl,.str x,sd,?_,?_,?_,fun e he=>⟨e,cP,_,rfl,WP.e,upd_same,fun da hda=>⟨rfl,e,cP,some da,rfl,?_,none_back (s1.trans S4) he,WP.e.x,k H4 da _ (s1.trans S4) (thrown_of he hda)⟩⟩⟩
          all_goals (try rw [Str.empty_append])
          all_goals (try (first|omega|(simp only [Str.length_append,e1];omega)))
          have ne:e≠da:=fun q=>by subst q;rw [upd_same] at hda;cases hda
          rw [upd_ne ne,upd_same]
        · refine ifF (by show inV (.str x) _=false;rw [inV_str];exact decide_eq_false hin) ⟨⟨_,_,rfl⟩,S4,?_⟩
          rcases Nat.lt_or_ge i i0 with h|h
          · exact h
          · have e:i=i0:=by omega
            subst e
            rw [hx] at hx0
            injection hx0 with hx0
            subst hx0
            rcases bad with b|b
            · rw [hb] at b;cases b
            · exact absurd b hin
    · rintro σ' H' ⟨_,s',hi0⟩
      rw [List.length_map] at hi0
      have:=(List.getElem?_eq_some_iff.mp hx0).1
      omega
def InB (K:Frag) (vs:List V) (H:Hp):Prop:=∃ (t:V) (q:Addr) (xs:List V) (ps:List (Str×Str)),vs=[t,.ref q]∧SqL K H q xs∧PrsAt K H xs ps∧PrTx ps∧BadN (namesP ps)
def spBad (K:Frag) (cP:Addr):Sp:=fun vs H _ E=>InB K vs H∧∀ H1 da H',Same H H1→Thrown H1 [("word",.str "badpairs")] da H'→E (.ref cP) (some da) H'
theorem ok_wkB {f fN cP:Addr} {fd fdN:FuncData} (F:Fun K "walked" "walked" (top 10) f fd) (DN:Def K mg "need_pairs" (top 9) ["pairs"] fN fdN) (GN:FnOk P w K mg base (CX1 P w) 5 fN fdN ["pairs"] (spNpB K cP)):FnOk P w K mg base (CX1 P w) 6 f fd ["told","pairs"] (spBad K cP):=by
  refine F.ok1 scWk (fun vs H Q E h=>?_) (fun cdv A outer s H vs Q E hr h=>?_)
  · obtain ⟨⟨t,q,xs,ps,rfl,_⟩,_⟩:=h
    rfl
  · obtain ⟨⟨t,q,xs,ps,rfl,hq,pe,ok,bad⟩,k⟩:=h
    refine ⟨_,(pss_cons (ps_expr (pe_call (E:=E) GN hr rfl DN.mg DN.F.kp DN.b .nil (pass1 fun _ _ _ h=>h) (pa_cons (pv 1) pa_nil))) pss_never),?_⟩
    exact ⟨_,rfl,q,xs,ps,rfl,hq,pe,ok,bad,k⟩
theorem ok_spB {f fW cP:Addr} {fd fdW:FuncData} (F:Fun K "spans" "spans" (top 12) f fd) (DW:Def K mg "walked" (top 10) ["told","pairs"] fW fdW) (GW:FnOk P w K mg base (CX1 P w) 6 fW fdW ["told","pairs"] (spBad K cP)):FnOk P w K mg base (CX1 P w) 7 f fd ["told","pairs"] (spBad K cP):=by
  refine F.ok1 scSp (fun vs H Q E h=>?_) (fun cdv A outer s H vs Q E hr h=>?_)
  · obtain ⟨⟨t,q,xs,ps,rfl,_⟩,_⟩:=h
    rfl
  · obtain ⟨⟨t,q,xs,ps,rfl,hq,pe,ok,bad⟩,k⟩:=h
    refine ⟨_,(pss_cons (ps_asg (pe_call (E:=E) GW hr rfl DW.mg DW.F.kp DW.b .nil (pass1 fun _ _ _ h=>h) (pa_cons (pv 0) (pa_cons (pv 1) pa_nil))) (pg_tup rfl (pgs_cons (pg_name (i:=2) scSp.nd rfl (Or.inl rfl)) (pgs_cons (pg_name (i:=3) scSp.nd rfl (Or.inl rfl)) pgs_nil)))) pss_never),?_⟩
    exact ⟨_,rfl,_,rfl,⟨t,q,xs,ps,rfl,hq,pe,ok,bad⟩,k⟩
theorem ok_stB {f fW cP:Addr} {fd fdW:FuncData} (F:Fun K "strays" "strays" (top 13) f fd) (DW:Def K mg "walked" (top 10) ["told","pairs"] fW fdW) (GW:FnOk P w K mg base (CX1 P w) 6 fW fdW ["told","pairs"] (spBad K cP)):FnOk P w K mg base (CX1 P w) 7 f fd ["told","pairs"] (spBad K cP):=by
  refine F.ok1 scSt (fun vs H Q E h=>?_) (fun cdv A outer s H vs Q E hr h=>?_)
  · obtain ⟨⟨t,q,xs,ps,rfl,_⟩,_⟩:=h
    rfl
  · obtain ⟨⟨t,q,xs,ps,rfl,hq,pe,ok,bad⟩,k⟩:=h
    refine ⟨_,(pss_cons (ps_asg (pe_call (E:=E) GW hr rfl DW.mg DW.F.kp DW.b .nil (pass1 fun _ _ _ h=>h) (pa_cons (pv 0) (pa_cons (pv 1) pa_nil))) (pg_tup rfl (pgs_cons (pg_name (i:=2) scSt.nd rfl (Or.inl rfl)) (pgs_cons (pg_name (i:=3) scSt.nd rfl (Or.inl rfl)) pgs_nil)))) pss_never),?_⟩
    exact ⟨_,rfl,_,rfl,⟨t,q,xs,ps,rfl,hq,pe,ok,bad⟩,k⟩
theorem ok_dpB {f fS cP:Addr} {fd fdS:FuncData} (F:Fun K "deepest" "deepest" (top 14) f fd) (hmax:mg "max" = none) (DS:Def K mg "spans" (top 12) ["told","pairs"] fS fdS) (GS:FnOk P w K mg base (CX1 P w) 7 fS fdS ["told","pairs"] (spBad K cP)):FnOk P w K mg base (CX1 P w) 8 f fd ["told","pairs"] (spBad K cP):=by
  refine F.ok1 scDp (fun vs H Q E h=>?_) (fun cdv A outer s H vs Q E hr h=>?_)
  · obtain ⟨⟨t,q,xs,ps,rfl,_⟩,_⟩:=h
    rfl
  · obtain ⟨⟨t,q,xs,ps,rfl,hq,pe,ok,bad⟩,k⟩:=h
    refine ⟨_,(pss_one
  (ps_ret (pe_maxD rfl (pa_cons (pe_comp (g:=gSp K) (te:=tVar 3) (own:=["opening","first","last","depth"]) (js:=[]) (N':=["opening","first","last","depth"]) (CompScope.of (osc:=defScope (top 14)) (N:=["told","pairs"]) rfl rfl ⟨rfl,by decide +kernel,by decide +kernel,by decide +kernel,rfl,by decide +kernel⟩) rfl (pi_list (pe_call (E:=E) GS hr rfl DS.mg DS.F.kp DS.b .nil (pass1 fun _ _ _ h=>h) (pa_cons (pv 0) (pa_cons (pv 1) pa_nil)))) (fun _ _ _ _ _=>(pg_tup rfl (pgs_cons (pg_name (i:=0) (show List.Nodup (["opening","first","last","depth"]:List Str) by decide +kernel) rfl (Or.inl rfl) (Or.inr rfl)) (pgs_cons (pg_name (i:=1) (show List.Nodup (["opening","first","last","depth"]:List Str) by decide +kernel) rfl (Or.inl rfl) (Or.inr rfl)) (pgs_cons (pg_name (i:=2) (show List.Nodup (["opening","first","last","depth"]:List Str) by decide +kernel) rfl (Or.inl rfl) (Or.inr rfl)) (pgs_cons (pg_name (i:=3) (show List.Nodup (["opening","first","last","depth"]:List Str) by decide +kernel) rfl (Or.inl rfl) (Or.inr rfl)) pgs_nil)))))) (fun _ _ _ _ _=>pifs_nil) (fun _ _ _ _ _=>(pv 3))) pa_nil) (by rfl) hmax))),?_⟩
    exact ⟨_,rfl,_,rfl,⟨t,q,xs,ps,rfl,hq,pe,ok,bad⟩,k⟩
end
end Cm
namespace Cm
open PySem L2 PySem.W
structure Walk (J:It) (H:Hp) (xs:List V):Prop where
  go:∀ i,i<xs.length→J.go i H
  yl:∀ i x H',J.yld i H x H'→i<xs.length→H'=H∧xs[i]?=some x
  st:J.stop xs.length H
theorem walk_l {K:Frag} {H:Hp} {a:Addr} {xs:List V} (h:SqL K H a xs):Walk (Itl K a) H xs:=
  ⟨fun i hi=>⟨xs,xs[i],h,by simp [hi]⟩,fun i x H' y _=>⟨y.1,y.2 xs h⟩,⟨xs,h,Nat.le_refl _⟩⟩
theorem walk_t {K:Frag} {H:Hp} {a:Addr} {xs:List V} (h:SqT K H a xs):Walk (Itt K a) H xs:=
  ⟨fun i hi=>⟨xs,xs[i],h,by simp [hi]⟩,fun i x H' y _=>⟨y.1,y.2 xs h⟩,⟨xs,h,Nat.le_refl _⟩⟩
theorem comp_rd {β:Type} {R:V→β→Prop} {J:It} {H0:Hp} {xs:List V} {ys:List β} {tt:TT} {te:TE} {σr:St} {F:List V→Hp→Prop} (Pz:List V→List β→Prop) (p0:Pz [] []) (w:Walk J H0 xs) (hp:Pd R xs ys) (hl:ys.length≤sizeLine) (f:β→Bool)
    (ht:∀ x y,R x y→EvT tt (some x::σr) H0 (f y)) (he:∀ x y zs bs,R x y→f y=true→Pz zs bs→∃ v,EvE te (some x::σr) H0 v∧Pz (zs++[v]) (bs++[y])) (hz:∀ zs bs,Pz zs bs→zs.length=bs.length) (hF:∀ zs,Pz zs (ys.filter f)→F zs H0) :
    ∃ W:Nat→Nat→List V→St→Hp→Prop,(∃ m,W 0 m [] (none::σr) H0)∧CTurn J (gName 0) tt te F W:=by
  have pl:=hp.len
  refine ⟨fun i m zs σ H=>m=xs.length-i∧i≤xs.length∧H=H0∧(∃ u,σ=u::σr)∧Pz zs ((ys.take i).filter f),⟨xs.length,by simp,Nat.zero_le _,rfl,⟨none,rfl⟩,p0⟩,?_⟩
  rintro i m zs σ H ⟨rfl,hi,rfl,⟨u,rfl⟩,pz⟩
  by_cases hlt:i<xs.length
  · have zl:=hz _ _ pz
    have fl:((ys.take i).filter f).length≤i:=Nat.le_trans (List.length_filter_le _ _) (by rw [List.length_take];omega)
    refine .inr ⟨w.go i hlt,by omega,fun x H' y=>?_⟩
    obtain ⟨rfl,ex⟩:=w.yl i x H' y hlt
    obtain ⟨b,eb,r⟩:=hp.at ex
    dsimp only [gName,List.set]
    refine ht x b r _ ?_
    have tk:=take_snoc eb
    cases hf:f b with
    | true=>
      rw [if_pos rfl]
      obtain ⟨v,ev,pz'⟩:=he x b zs _ r hf pz
      refine ev _ ⟨xs.length-(i+1),by omega,rfl,hlt,rfl,⟨_,rfl⟩,?_⟩
      rw [tk,List.filter_append]
      simpa [hf] using pz'
    | false=>
      rw [if_neg (by decide)]
      refine ⟨xs.length-(i+1),by omega,rfl,hlt,rfl,⟨_,rfl⟩,?_⟩
      rw [tk,List.filter_append]
      simpa [hf] using pz
  · have e:i=xs.length:=by omega
    subst e
    rw [pl,List.take_length] at pz
    exact .inl ⟨w.st,hF zs pz⟩
theorem comp_fn {β:Type} {R:V→β→Prop} {J:It} {H0:Hp} {xs:List V} {ys:List β} {tt:TT} {te:TE} {σr:St} {F:List V→Hp→Prop} (w:Walk J H0 xs) (hp:Pd R xs ys) (hl:ys.length≤sizeLine) (f:β→Bool) (e:β→V)
    (ht:∀ x y,R x y→EvT tt (some x::σr) H0 (f y)) (he:∀ x y,R x y→f y=true→EvE te (some x::σr) H0 (e y)) (hF:F ((ys.filter f).map e) H0) :
    ∃ W:Nat→Nat→List V→St→Hp→Prop,(∃ m,W 0 m [] (none::σr) H0)∧CTurn J (gName 0) tt te F W:=by
  refine comp_rd (fun zs bs=>zs=bs.map e) rfl w hp hl f ht (fun x y zs bs r hf pz=>⟨e y,he x y r hf,?_⟩) (fun zs bs pz=>by rw [pz,List.length_map]) fun zs pz=>by rw [pz];exact hF
  rw [pz,List.map_append]
  rfl
theorem yes_ev {σ:St} {H:Hp}:EvT tYes σ H true:=fun _ h=>h
theorem filter_true {α:Type} (l:List α):l.filter (fun _=>true)=l:=by
  induction l with
  |nil=>rfl
  |cons x r ih=>rw [List.filter_cons,if_pos rfl,ih]
def laD:Option Int→PyData
  |none=>.none
  |some l=>.int l
def spD (s:Spn):PyData:=.tuple [.str s.nm,.int s.fi,laD s.la,.int s.de]
theorem SpAt.rep {K:Frag} {H:Hp} {x:V} {s:Spn} (h:SpAt K H x s):Rep K H x (spD s):=by
  obtain ⟨a,rfl,sq⟩:=h
  refine .tup sq (.cons (.str _) (.cons (.int _) (.cons ?_ (.cons (.int _) .nil))))
  cases s.la with
  |none=>exact .non
  |some l=>exact .int _
theorem sps_rep {K:Frag} {H:Hp}:∀ {xs:List V} {fo:List Spn},SpsAt K H xs fo→Reps K H xs (fo.map spD)
  |_,_,.nil=>.nil
  |_,_,.cons r t=>.cons r.rep (sps_rep t)
theorem sp_dep:∀ fo:List Spn,pdDeps (fo.map spD)≤1
  |[]=>by simp [pdDeps]
  | s::r=>by
    have h2:=sp_dep r
    have h1:pdDep (spD s)≤1:=by
      unfold spD
      cases s.la <;> simp [pdDep,pdDeps,laD]
    simp only [List.map_cons,pdDeps]
    omega
theorem reps_str {K:Frag} {H:Hp}:∀ us:List Str,Reps K H (us.map V.str) (us.map PyData.str)
  |[]=>.nil
  |u::r=>.cons (.str u) (reps_str r)
theorem dep_str:∀ us:List Str,pdDeps (us.map PyData.str)=0
  |[]=>rfl
  |u::r=>by simp only [List.map_cons,pdDeps,pdDep];rw [dep_str r];rfl
theorem ne_nil {α:Type} (f:α→PyData) (us:List α):(!pdEqs (us.map f) [])=!us.isEmpty:=by
  cases us <;> simp [pdEqs]
theorem op_filter {ps:List (Str×Str)} {k:Str}:((ps.filter fun p=>decide (p.1=k)).map (·.1)).head?=if k∈ps.map (·.1) then some k else none:=by
  induction ps with
  |nil=>rfl
  | cons p r ih=>
    rw [List.filter_cons]
    by_cases h:p.1=k
    · rw [if_pos (decide_eq_true h),if_pos (by rw [← h];exact List.mem_cons_self ..),List.map_cons,List.head?_cons,h]
    · rw [if_neg (by simp [h]),ih]
      by_cases m:k∈r.map (·.1)
      · rw [if_pos m,if_pos (by rw [List.map_cons];exact List.mem_cons_of_mem _ m)]
      · rw [if_neg m,if_neg (by rw [List.map_cons];intro z;rcases List.mem_cons.mp z with z|z;exact h z.symm;exact m z)]
theorem cl_filter {ps:List (Str×Str)} {k:Str}:((ps.filter fun p=>decide (p.2=k)).map (·.1)).head?=fellow ps k:=by
  unfold fellow
  rw [List.head?_map,List.head?_filter]
theorem fellow_in {ps:List (Str×Str)} {k:Str} (h:(fellow ps k).isSome=true):k∈ps.map (·.2):=by
  unfold fellow at h
  rw [Option.isSome_map,List.find?_isSome] at h
  obtain ⟨q,m,e⟩:=h
  rw [decide_eq_true_eq] at e
  exact List.mem_map.mpr ⟨q,m,e⟩
theorem open_no_close:∀ {ps:List (Str×Str)} {k:Str},(namesP ps).Nodup→k∈ps.map (·.1)→fellow ps k=none:=by
  intro ps k nd m
  cases h:fellow ps k with
  |none=>rfl
  | some op=>
    have m2:=fellow_in (ps:=ps) (k:=k) (by rw [h];rfl)
    exfalso
    clear h
    induction ps with
    |nil=>cases m
    | cons p r ih=>
      have nd':(p.1::p.2::namesP r).Nodup:=nd
      obtain ⟨h1,h2⟩:=List.nodup_cons.mp nd'
      obtain ⟨h3,h4⟩:=List.nodup_cons.mp h2
      have in1:∀ x,x∈r.map (·.1)→x∈namesP r:=fun x m=>by
        obtain ⟨q,mq,rfl⟩:=List.mem_map.mp m
        exact List.mem_flatMap.mpr ⟨q,mq,by simp⟩
      have in2:∀ x,x∈r.map (·.2)→x∈namesP r:=fun x m=>by
        obtain ⟨q,mq,rfl⟩:=List.mem_map.mp m
        exact List.mem_flatMap.mpr ⟨q,mq,by simp⟩
      rw [List.map_cons] at m m2
      rcases List.mem_cons.mp m with rfl|m
      · rcases List.mem_cons.mp m2 with e|m2
        · exact h1 (by rw [e];exact List.mem_cons_self ..)
        · exact h1 (List.mem_cons_of_mem _ (in2 _ m2))
      · rcases List.mem_cons.mp m2 with rfl|m2
        · exact h3 (in1 _ m)
        · exact ih h4 m m2
end Cm
namespace Cm
open PySem L2 PySem.W
structure LF (H:Hp) (lf ll la:Addr):Prop where
  f1:H lf=none
  f2:H ll=none
  f3:H la=none
  n1:lf≠ll
  n2:lf≠la
  n3:ll≠la
structure LH (K:Frag) (H:Hp) (lf ll la:Addr) (z:Ws) (H':Hp):Prop where
  sm:Same H H'
  xs:∃ xs,H' lf=some (.lst xs)∧SpsAt K H' xs z.fo
  hl:H' ll=some (.lst (z.lo.map V.int))
  ha:H' la=some (.lst (z.ar.map fun n:Nat=>V.int n))
section
variable {K:Frag} {H H' H'':Hp} {lf ll la:Addr} {z:Ws}
theorem LH.same (h:LH K H lf ll la z H') (e:Same H' H''):LH K H lf ll la z H'':=by
  obtain ⟨sm,⟨xs,h1,h2⟩,hl,ha⟩:=h
  exact ⟨sm.trans e,⟨xs,e _ _ h1,h2.map fun _ _ q=>q.same e⟩,e _ _ hl,e _ _ ha⟩
theorem LH.putL (W:LF H lf ll la) (h:LH K H lf ll la z H') (lo:List Int):LH K H lf ll la ⟨z.fo,lo,z.ar⟩ (upd H' ll (.lst (lo.map V.int))):=by
  obtain ⟨sm,⟨xs,h1,h2⟩,hl,ha⟩:=h
  exact ⟨fun b o e=>by rw [upd_ne (ne_of_none e W.f2)];exact sm b o e,⟨xs,by rw [upd_ne W.n1];exact h1,h2.map fun _ _ q=>q.upd hl⟩,upd_same,by rw [upd_ne W.n3.symm];exact ha⟩
theorem LH.putA (W:LF H lf ll la) (h:LH K H lf ll la z H') (ar:List Nat):LH K H lf ll la ⟨z.fo,z.lo,ar⟩ (upd H' la (.lst (ar.map fun n:Nat=>V.int n))):=by
  obtain ⟨sm,⟨xs,h1,h2⟩,hl,ha⟩:=h
  exact ⟨fun b o e=>by rw [upd_ne (ne_of_none e W.f3)];exact sm b o e,⟨xs,by rw [upd_ne W.n2];exact h1,h2.map fun _ _ q=>q.upd ha⟩,by rw [upd_ne W.n3];exact hl,upd_same⟩
theorem LH.putF (W:LF H lf ll la) (h:LH K H lf ll la z H') {xs:List V} {fo:List Spn} (b:But lf H' H'') (e:H'' lf=some (.lst xs)) (sp:SpsAt K H'' xs fo):LH K H lf ll la ⟨fo,z.lo,z.ar⟩ H'':=by
  obtain ⟨sm,⟨xs',h1,h2⟩,hl,ha⟩:=h
  exact ⟨fun c o e=>b c o (sm c o e) (ne_of_none e W.f1),⟨xs,e,sp⟩,b _ _ hl W.n1.symm,b _ _ ha W.n2.symm⟩
end
section
variable {P:Program} {w:World} {K:PySem.W.Frag} {mg:Str→Option Value} {base:Heap}
abbrev NLs:List Str:=["_law_told","_law_pairs","_law_found","_law_odd","_law_pile","_law_thing","_law_opened","_law_closed","_law_at"]
theorem scLs:FnScope NLs ["_law_told","_law_pairs"] (defScope (top 25)):=⟨rfl,rfl,rfl,by decide +kernel,rfl,by decide +kernel,by decide +kernel⟩
def spLs (K:Frag):Sp:=fun vs H Q _=>∃ (lt q:Addr) (ts xs:List V) (ths:List Th) (ps:List (Str×Str)),vs=[.ref lt,.ref q]∧SqL K H lt ts∧ThsAt K H ts ths∧ths.length≤40∧SqT K H q xs∧PrsAt K H xs ps∧PrOk ps∧
  ∀ (t lf ll:Addr) (ys:List V) (H':Hp),Same H H'→H' t=some (.tup [.ref lf,.ref ll])→H' lf=some (.lst ys)→SpsAt K H' ys (runS ps ths).fo→H' ll=some (.lst ((runS ps ths).lo.map V.int))→Q (.ref t) H'
theorem ok_ls {f:Addr} {fd:FuncData} (F:Fun K "_law_spans" "_law_spans" (top 25) f fd) (T:Txt K mg):FnOk P w K mg base CX0 1 f fd ["_law_told","_law_pairs"] (spLs K):=by
  refine F.ok scLs (fun vs H Q E h=>?_) (fun cdv A outer s H vs Q E hr h=>?_)
  · obtain ⟨lt,q,ts,xs,ths,ps,rfl,_⟩:=h
    rfl
  · obtain ⟨lt,q,ts,xs,ths,ps,rfl,htl,tha,tl,hq,pe,ok,k⟩:=h
    refine ⟨_,(pss_cons (ps_par3 (i:=2) (j:=3) (l:=4) rfl scLs.nd rfl rfl rfl rfl rfl rfl (pa_cons (pe_lst pa_nil) (pa_cons (pe_lst pa_nil) (pa_cons (pe_lst pa_nil) pa_nil))) rfl)
  (pss_cons (ps_for PassesOwn.never rfl (pi_list (pv 0)) (pg_name (i:=5) scLs.nd rfl (Or.inr rfl)) (pss_one (ps_if (pt_cmpR op_eq (pe_ix ix_tup (pv 5) pe_int (fun _ _=>rfl)) pe_str (nomark _)) (pss_one (ps_set (i:=4) scLs.nd rfl (Or.inl rfl) (pe_lst pa_nil))) (pss_cons (ps_setComp (g:=gName 0) (i:=6) (own:=["_law_pair"]) (js:=[5]) (N':=["_law_pair","_law_thing"]) (CompScope.of (osc:=defScope (top 25)) (N:=NLs) rfl rfl ⟨rfl,by decide +kernel,by decide +kernel,by decide +kernel,rfl,by decide +kernel⟩) rfl scLs.nd rfl rfl (pi_tup (pv 1)) (fun _ _ _ _ _=>(pg_name (i:=0) (show List.Nodup (["_law_pair","_law_thing"]:List Str) by decide +kernel) rfl (Or.inl rfl) (Or.inr rfl))) (fun _ _ _ _ _=>pifs_one (pt_cmpR op_eq (pe_ix (r:=rIxT K) ix_tup (pv 0) pe_int (fun _ _=>rfl)) (pe_ix (r:=rIxT K) ix_tup (pv 1) pe_int (fun _ _=>rfl)) (nomark _))) (fun _ _ _ _ _=>(pe_ix (r:=rIxT K) ix_tup (pv 0) pe_int (fun _ _=>rfl))))
  (pss_cons (ps_setComp (g:=gName 0) (i:=7) (own:=["_law_pair"]) (js:=[5]) (N':=["_law_pair","_law_thing"]) (CompScope.of (osc:=defScope (top 25)) (N:=NLs) rfl rfl ⟨rfl,by decide +kernel,by decide +kernel,by decide +kernel,rfl,by decide +kernel⟩) rfl scLs.nd rfl rfl (pi_tup (pv 1)) (fun _ _ _ _ _=>(pg_name (i:=0) (show List.Nodup (["_law_pair","_law_thing"]:List Str) by decide +kernel) rfl (Or.inl rfl) (Or.inr rfl))) (fun _ _ _ _ _=>pifs_one (pt_cmpR op_eq (pe_ix (r:=rIxT K) ix_tup (pv 0) pe_int (fun _ _=>rfl)) (pe_ix (r:=rIxT K) ix_tup (pv 1) pe_int (fun _ _=>rfl)) (nomark _))) (fun _ _ _ _ _=>(pe_ix (r:=rIxT K) ix_tup (pv 0) pe_int (fun _ _=>rfl))))
  (pss_cons (ps_if (pt_cmpR (op_neL hr.units) (pv 6) (pe_lst pa_nil) (nomark _)) (pss_cons (ps_expr (pe_bm PySem.F.plainAttrs_list PySem.F.slot_list_append PySem.F.type_list_append mt_append (pv 4) (pa_cons (pe_callB call_len_seq (by rfl) T.len bt_len (pa_cons (pv 2) pa_nil)) pa_nil)))
  (pss_one (ps_expr (pe_bm PySem.F.plainAttrs_list PySem.F.slot_list_append PySem.F.type_list_append mt_append (pv 2) (pa_cons (pe_tup (pa_cons (pe_ix ix_list (pv 6) pe_int (fun _ _=>rfl)) (pa_cons (pe_ix ix_tup (pv 5) pe_int (fun _ _=>rfl)) (pa_cons pe_non (pa_cons (pe_op op_sub (pe_callB call_len_seq (by rfl) T.len bt_len (pa_cons (pv 4) pa_nil)) pe_int) pa_nil))))) pa_nil))))) pss_nil)
  (pss_one (ps_if (PW.pt (pw_and (pt_cmpR (op_neL hr.units) (pv 7) (pe_lst pa_nil) (nomark _)) (pw_and (pt_cmpR (op_neL hr.units) (pv 4) (pe_lst pa_nil) (nomark _)) (pw_and1 (pt_cmpR op_eq (pe_ix ix_tup (pe_ix ix_list (pv 2) (pe_ix ix_list (pv 4) (pe_un un_neg pe_int) (fun _ _=>rfl)) (fun _ _=>rfl)) pe_int (fun _ _=>rfl)) (pe_ix ix_list (pv 7) pe_int (fun _ _=>rfl)) (nomark _)))))) (pss_cons (ps_set (i:=8) scLs.nd rfl (Or.inl rfl) (pe_bm0 PySem.F.plainAttrs_list PySem.F.slot_list_pop PySem.F.type_list_pop mt_pop (pv 4)))
  (pss_one (ps_asg (pe_tup (pa_cons (pe_ix ix_tup (pe_ix ix_list (pv 2) (pv 8) (fun _ _=>rfl)) pe_int (fun _ _=>rfl)) (pa_cons (pe_ix ix_tup (pe_ix ix_list (pv 2) (pv 8) (fun _ _=>rfl)) pe_int (fun _ _=>rfl)) (pa_cons (pe_ix ix_tup (pv 5) pe_int (fun _ _=>rfl)) (pa_cons (pe_ix ix_tup (pe_ix ix_list (pv 2) (pv 8) (fun _ _=>rfl)) pe_int (fun _ _=>rfl)) pa_nil))))) (pg_sub (pv 2) (pv 8) set_list)))) (pss_one (ps_if (pt_cmpR (op_neL hr.units) (pv 7) (pe_lst pa_nil) (nomark _)) (pss_one (ps_expr (pe_bm PySem.F.plainAttrs_list PySem.F.slot_list_append PySem.F.type_list_append mt_append (pv 3) (pa_cons (pe_ix ix_tup (pv 5) pe_int (fun _ _=>rfl)) pa_nil)))) pss_nil))))))))))
  (pss_one (ps_ret (pe_tup (pa_cons (pv 2) (pa_cons (pv 3) pa_nil))))))),?_⟩
    have big:1000≤sizeLine:=by decide
    have z0:0≤sizeLine:=by decide
    have pl:=pe.len
    have le:=ok.le
    refine ⟨z0,fun lf hlf=>⟨z0,fun ll hll=>⟨z0,fun la hla=>⟨_,_,_,rfl,?_⟩⟩⟩⟩
    have s3:Same H (upd H lf (.lst [])):=Same.new hlf
    have h3:(upd H lf (.lst [])) lf=some (.lst []):=upd_same
    generalize upd H lf (.lst [])=H3 at s3 h3 hll hla ⊢
    have s4:Same H3 (upd H3 ll (.lst [])):=Same.new hll
    have h4:(upd H3 ll (.lst [])) ll=some (.lst []):=upd_same
    generalize upd H3 ll (.lst [])=H4 at s4 h4 hla ⊢
    have s5:Same H4 (upd H4 la (.lst [])):=Same.new hla
    have h5:(upd H4 la (.lst [])) la=some (.lst []):=upd_same
    generalize upd H4 la (.lst [])=H5 at s5 h5 ⊢
    have S4:=s3.trans s4
    have S5:=S4.trans s5
    have s35:=s4.trans s5
    have WFr:LF H lf ll la:=⟨hlf,Same.free s3 hll,Same.free S4 hla,fun e=>(by rw [← e,h3] at hll;cases hll),fun e=>(by rw [← e,s4 _ _ h3] at hla;cases hla),fun e=>(by rw [← e,h4] at hla;cases hla)⟩
    have W0:LH K H lf ll la ⟨[],[],[]⟩ H5:=⟨S5,⟨[],s35 _ _ h3,.nil⟩,s5 _ _ h4,h5⟩
    clear h3 h4 h5 s3 s4 s5 S4 S5 s35 hlf hll hla
    have tln:=tha.length
    refine ⟨_,rfl,lt,rfl,⟨ts,W0.sm.seq htl⟩,?_⟩
    refine for_list (K:=K) (a:=lt) (xs:=ts) (fun i σ' H'=>∃ la u5 u6 u7 u8,σ'=[some (.ref lt),some (.ref q),some (.ref lf),some (.ref ll),some (.ref la),u5,u6,u7,u8]∧LF H lf ll la∧∃ z,z=(ths.take i).foldl (stepS ps) ⟨[],[],[]⟩∧WsOk z i∧LH K H lf ll la z H') ⟨la,_,_,_,_,rfl,WFr,_,rfl,⟨(fun j m=>by cases m),Nat.le_refl _,Nat.le_refl _,Nat.le_refl _⟩,W0⟩ (fun i σ' H' _ ⟨_,_,_,_,_,_,_,z,_,_,wh⟩=>wh.sm.seq htl) ?_ ?_
    · clear W0 WFr la
      rintro i x σ' H1 hx ⟨la,u5,u6,u7,u8,rfl,WFr,z,ez,zo,wh⟩
      obtain ⟨th,hth,ta⟩:=(tha.same wh.sm).at hx
      have il:i<ths.length:=(List.getElem?_eq_some_iff.mp hth).1
      have go:∀ (la:Addr) (u6 u7 u8:Option V) (z':Ws) (H':Hp),LF H lf ll la→z'=stepS ps z th→LH K H lf ll la z' H'→∃ la' u5 v6 v7 v8,[some (V.ref lt),some (V.ref q),some (V.ref lf),some (V.ref ll),some (V.ref la),some x,u6,u7,u8]=[some (.ref lt),some (.ref q),some (.ref lf),some (.ref ll),some (.ref la'),u5,v6,v7,v8]∧LF H lf ll la'∧∃ z,z=(ths.take (i+1)).foldl (stepS ps) ⟨[],[],[]⟩∧WsOk z (i+1)∧LH K H lf ll la' z H':=fun la u6 u7 u8 z' H' lf' e wh'=>
        ⟨la,_,_,_,_,rfl,lf',z',by rw [take_snoc hth,List.foldl_append,← ez];exact e,by rw [e];exact zo.step th,wh'⟩
      have z1:=zo.ar
      have z2:=zo.fl
      have z3:=zo.ll
      have z4:=zo.al
      clear zo ez
      cases ta with
      | @lost a n sq=>
        refine ⟨_,rfl,a,_,_,_,rfl,rfl,sq,atI_nat (j:=0) rfl,rfl,_,rfl,ifT (by simp) ?_⟩
        refine ⟨z0,fun l' hl'=>?_⟩
        obtain ⟨ys,hys,sps⟩:=wh.xs
        have s2:Same H1 (upd H1 l' (.lst [])):=Same.new hl'
        have wh2:=wh.same s2
        obtain ⟨sm,xs',hl2,ha2⟩:=wh2
        exact go l' _ _ _ _ _ ⟨WFr.f1,WFr.f2,Same.free wh.sm hl',WFr.n1,fun e=>(by rw [← e,hys] at hl';cases hl'),fun e=>(by rw [← e,wh.hl] at hl';cases hl')⟩ rfl ⟨sm,xs',hl2,upd_same⟩
      | @ev a b p t kk us sq sqz=>
        refine ⟨_,rfl,a,_,_,_,rfl,rfl,sq,atI_nat (j:=0) rfl,rfl,_,rfl,ifF (by decide +kernel) ?_⟩
        try dsimp only [tNext]
        have filt:∀ (H':Hp) (j:Nat) (e:Str×Str→Str) (F:List V→Hp→Prop),Same H1 H'→(∀ p:Str×Str,([V.str p.1,V.str p.2]:List V)[j]?=some (.str (e p)))→F (((ps.filter fun p=>decide (e p=kk)).map (·.1)).map V.str) H'→∃ W:Nat→Nat→List V→St→Hp→Prop,(∃ m,W 0 m [] [none,some (.ref a)] H')∧CTurn (Itt K q) (gName 0) (tTest (tOp rEq (tOp (rIxT K) (tVar 0) (tC (.int j))) (tOp (rIxT K) (tVar 1) (tC (.int 3))))) (tOp (rIxT K) (tVar 0) (tC (.int 0))) F W:=fun H' j e F s' hj q'=>by
          refine comp_fn (σr:=[some (.ref a)]) (walk_t ((wh.sm.trans s').tup hq)) (pe.map fun _ _ z=>z.same (wh.sm.trans s')) (by omega) (fun p=>decide (e p=kk)) (fun p=>.str p.1) ?_ ?_ ?_
          · rintro x p' ⟨a',rfl,sq'⟩ Q' q'
            refine ⟨_,rfl,a',_,_,_,rfl,rfl,sq',atI_nat (j:=j) (hj p'),_,rfl,a,_,_,_,rfl,rfl,s'.tup sq,atI_nat (j:=3) rfl,rfl,_,rfl,?_⟩
            have eq:decide (V.str (e p')=V.str kk)=decide (e p'=kk):=by
              by_cases h:e p'=kk
              · rw [h];simp
              · rw [decide_eq_false h,decide_eq_false (fun z=>h (by injection z))]
            rw [eq]
            exact q'
          · rintro x p' ⟨a',rfl,sq'⟩ _ Q' q'
            exact ⟨_,rfl,a',_,_,_,rfl,rfl,sq',atI_nat (j:=0) rfl,q'⟩
          · rw [List.map_map] at q'
            exact q'
        have fl:∀ e:Str×Str→Str,(((ps.filter fun p=>decide (e p=kk)).map (·.1)).map V.str).length≤3:=fun e=>by
          rw [List.length_map,List.length_map]
          exact Nat.le_trans (List.length_filter_le _ _) le
        refine ⟨_,rfl,q,rfl,⟨xs,wh.sm.tup hq⟩,filt _ 0 (·.1) _ (Same.refl _) (fun _=>rfl) ⟨by have:=fl (·.1);omega,fun l6 hl6=>?_⟩⟩
        have ohd:=op_filter (ps:=ps) (k:=kk)
        have ol:=fl (·.1)
        generalize (ps.filter fun p=>decide (p.1=kk)).map (·.1)=os at ohd ol hl6 ⊢
        have s2:Same H1 (upd H1 l6 (.lst (os.map V.str))):=Same.new hl6
        have h2:(upd H1 l6 (.lst (os.map V.str))) l6=some (.lst (os.map V.str)):=upd_same
        generalize upd H1 l6 (.lst (os.map V.str))=H2 at s2 h2 ⊢
        try dsimp only [gName]
        refine ⟨_,rfl,q,rfl,⟨xs,(wh.sm.trans s2).tup hq⟩,filt _ 1 (·.2) _ s2 (fun _=>rfl) ⟨by have:=fl (·.2);omega,fun l7 hl7=>?_⟩⟩
        have chd:=cl_filter (ps:=ps) (k:=kk)
        have cl':=fl (·.2)
        generalize (ps.filter fun p=>decide (p.2=kk)).map (·.1)=cs at chd cl' hl7 ⊢
        have s3:Same H2 (upd H2 l7 (.lst (cs.map V.str))):=Same.new hl7
        have h3:(upd H2 l7 (.lst (cs.map V.str))) l7=some (.lst (cs.map V.str)):=upd_same
        generalize upd H2 l7 (.lst (cs.map V.str))=H3 at s3 h3 ⊢
        try dsimp only [gName]
        clear filt fl
        have S3:=s2.trans s3
        have wh3:=wh.same S3
        have h23:=s3 _ _ h2
        have sq3:=S3.tup sq
        refine ⟨_,rfl,z0,fun l0 hl0=>?_⟩
        have s4:Same H3 (upd H3 l0 (.lst [])):=Same.new hl0
        refine ⟨os.map PyData.str,[],.lst (SqL.of (s4 _ _ h23)) (reps_str _),.lst (SqL.of upd_same) .nil,by rw [dep_str];decide,_,rfl,?_⟩
        have wh4:=wh3.same s4
        have h24:=s4 _ _ h23
        have h34:=s4 _ _ h3
        have sq4:=s4.tup sq3
        generalize upd H3 l0 (.lst [])=H4 at s4 wh4 h24 h34 sq4 ⊢
        have fresh:∀ l,H1 l=none→l≠lf∧l≠ll∧l≠la:=fun l hl=>by
          obtain ⟨ys,hys,_⟩:=wh.xs
          exact ⟨fun e=>(by rw [e,hys] at hl;cases hl),fun e=>(by rw [e,wh.hl] at hl;cases hl),fun e=>(by rw [e,wh.ha] at hl;cases hl)⟩
        obtain ⟨n61,n62,n63⟩:=fresh l6 hl6
        obtain ⟨n71,n72,n73⟩:=fresh l7 (Same.free s2 hl7)
        clear fresh s2 s3 S3 s4 wh3 h23 sq3 h2 h3 hl0 hl6 hl7 wh sq
        have st0:stepS ps z (.ev p t kk us)=if kk∈ps.map (·.1) then ⟨z.fo++[⟨kk,p,none,z.ar.length⟩],z.lo,z.ar++[z.fo.length]⟩ else match fellow ps kk with|none=>z|some op=>closeS z op p:=rfl
        by_cases ho:kk∈ps.map (·.1)
        · have fe:=open_no_close ok.nd ho
          rw [if_pos ho] at ohd st0
          rw [fe] at chd
          have ecs:cs=[]:=List.head?_eq_none_iff.mp chd
          subst ecs
          obtain ⟨or,eos⟩:∃ or,os=kk::or:=by
            cases os with
            |nil=>cases ohd
            |cons x r=>simp at ohd;subst ohd;exact ⟨r,rfl⟩
          subst eos
          refine ifT (by rw [ne_nil];rfl) ?_
          obtain ⟨ys,hys,sps⟩:=wh4.xs
          have yl:=sps.len
          refine ⟨_,rfl,.inl ⟨rfl,_,SqL.of wh4.ha⟩,_,rfl,lf,ys,rfl,.inl (SqL.of hys),la,_,_,rfl,rfl,wh4.ha,by rw [List.length_map];omega,?_⟩
          have e1:(z.ar.map fun n:Nat=>V.int n)++[V.int (ys.length:Nat)]=(z.ar++[z.fo.length]).map fun n:Nat=>V.int n:=by rw [List.map_append,yl];rfl
          rw [e1]
          have wh5:=wh4.putA WFr (z.ar++[z.fo.length])
          have sq5:=sqt_upd (o:=.lst ((z.ar++[z.fo.length]).map fun n:Nat=>V.int n)) sq4 wh4.ha
          have h25:(upd H4 la (.lst ((z.ar++[z.fo.length]).map fun n:Nat=>V.int n))) l6=some (.lst ((kk::or).map V.str)):=by rw [upd_ne n63];exact h24
          have h35:(upd H4 la (.lst ((z.ar++[z.fo.length]).map fun n:Nat=>V.int n))) l7=some (.lst (([]:List Str).map V.str)):=by rw [upd_ne n73];exact h34
          generalize upd H4 la (.lst ((z.ar++[z.fo.length]).map fun n:Nat=>V.int n))=H5 at wh5 sq5 h25 h35 ⊢
          obtain ⟨ys1,hys1,sps1⟩:=wh5.xs
          have yl1:ys1.length=z.fo.length:=sps1.len
          have al1:(z.ar++[z.fo.length]).length=z.ar.length+1:=by simp
          refine ⟨_,rfl,.inl ⟨rfl,_,SqL.of hys1⟩,_,rfl,l6,_,_,_,rfl,rfl,SqL.of h25,atI_nat (j:=0) rfl,_,rfl,a,_,_,_,rfl,rfl,sq5,atI_nat (j:=1) rfl,_,rfl,la,_,rfl,.inl (SqL.of wh5.ha),_,_,rfl,rfl,(show 4≤sizeLine by decide),fun tp htp=>?_⟩
          have e2:([V.str kk,V.int p,V.non,V.int (((((z.ar++[z.fo.length]).map fun n:Nat=>V.int n).length:Nat):Int)-1)]:List V)=spV ⟨kk,p,none,z.ar.length⟩:=by
            rw [List.length_map,al1]
            rw [show (((z.ar.length+1:Nat):Int)-1)=(z.ar.length:Int) by omega]
            rfl
          generalize hH:upd H5 tp _=H6
          have s6:Same H5 H6:=by rw [← hH];exact Same.new htp
          have h6:H6 tp=some (.tup (spV ⟨kk,p,none,z.ar.length⟩)):=by rw [← hH,upd_same,← e2]
          clear hH
          have wh6:=wh5.same s6
          have hys6:=s6 _ _ hys1
          have sps6:SpsAt K H6 ys1 z.fo:=sps1.map fun _ _ q=>q.same s6
          refine ⟨lf,ys1,_,rfl,rfl,hys6,by omega,?_⟩
          have wh7:=wh6.putF WFr (xs:=ys1++[.ref tp]) But.upd upd_same (Pd.snoc ⟨tp,rfl,sqt_upd (SqT.of h6) hys6⟩ (sps6.map fun _ _ q=>q.upd hys6))
          have h37:(upd H6 lf (.lst (ys1++[.ref tp]))) l7=some (.lst (([]:List Str).map V.str)):=by rw [upd_ne n71];exact s6 _ _ h35
          generalize upd H6 lf (.lst (ys1++[.ref tp]))=H7 at wh7 h37 ⊢
          refine ⟨_,rfl,z0,fun m0 hm0=>?_⟩
          have sm0:Same H7 (upd H7 m0 (.lst [])):=Same.new hm0
          refine ⟨[],[],.lst (SqL.of (sm0 _ _ h37)) .nil,.lst (SqL.of upd_same) .nil,by decide,_,rfl,ifF rfl (ifF rfl ?_)⟩
          have wh8:=wh7.same sm0
          have h38:=sm0 _ _ h37
          generalize upd H7 m0 (.lst [])=H8 at wh8 h38 ⊢
          try dsimp only [tNext]
          refine ⟨_,rfl,z0,fun m1 hm1=>?_⟩
          have sm1:Same H8 (upd H8 m1 (.lst [])):=Same.new hm1
          refine ⟨[],[],.lst (SqL.of (sm1 _ _ h38)) .nil,.lst (SqL.of upd_same) .nil,by decide,_,rfl,ifF rfl ?_⟩
          exact go la _ _ _ _ _ WFr st0.symm (wh8.same sm1)
        · rw [if_neg ho] at ohd st0
          have eos:os=[]:=List.head?_eq_none_iff.mp ohd
          subst eos
          refine ifF rfl ?_
          try dsimp only [tNext]
          cases hfe:fellow ps kk with
          | none=>
            rw [hfe] at chd st0
            have ecs:cs=[]:=List.head?_eq_none_iff.mp chd
            subst ecs
            refine ⟨_,rfl,z0,fun m0 hm0=>?_⟩
            have sm0:Same H4 (upd H4 m0 (.lst [])):=Same.new hm0
            refine ⟨[],[],.lst (SqL.of (sm0 _ _ h34)) .nil,.lst (SqL.of upd_same) .nil,by decide,_,rfl,ifF rfl (ifF rfl ?_)⟩
            have wh8:=wh4.same sm0
            have h38:=sm0 _ _ h34
            generalize upd H4 m0 (.lst [])=H8 at wh8 h38 ⊢
            try dsimp only [tNext]
            refine ⟨_,rfl,z0,fun m1 hm1=>?_⟩
            have sm1:Same H8 (upd H8 m1 (.lst [])):=Same.new hm1
            refine ⟨[],[],.lst (SqL.of (sm1 _ _ h38)) .nil,.lst (SqL.of upd_same) .nil,by decide,_,rfl,ifF rfl ?_⟩
            exact go la _ _ _ _ _ WFr st0.symm (wh8.same sm1)
          | some op=>
            rw [hfe] at chd st0
            have st0:stepS ps z (.ev p t kk us)=closeS z op p:=st0
            obtain ⟨cr,ecs⟩:∃ cr,cs=op::cr:=by
              cases cs with
              |nil=>cases chd
              |cons x r=>simp at chd;subst chd;exact ⟨r,rfl⟩
            subst ecs
            refine ⟨_,rfl,z0,fun m0 hm0=>?_⟩
            have sm0:Same H4 (upd H4 m0 (.lst [])):=Same.new hm0
            refine ⟨(op::cr).map PyData.str,[],.lst (SqL.of (sm0 _ _ h34)) (reps_str _),.lst (SqL.of upd_same) .nil,by rw [dep_str];decide,_,rfl,ifT (by rw [ne_nil];rfl) ?_⟩
            have wh5:=wh4.same sm0
            have h35:=sm0 _ _ h34
            have sq5:=sm0.tup sq4
            generalize upd H4 m0 (.lst [])=H5 at wh5 h35 sq5 ⊢
            refine ⟨_,rfl,z0,fun m1 hm1=>?_⟩
            have sm1:Same H5 (upd H5 m1 (.lst [])):=Same.new hm1
            have ear:(z.ar.map fun n:Nat=>V.int n)=(z.ar.map fun n:Nat=>(n:Int)).map V.int:=by rw [List.map_map];rfl
            refine ⟨(z.ar.map fun n:Nat=>(n:Int)).map PyData.int,[],.lst (SqL.of (sm1 _ _ wh5.ha)) (by rw [ear];exact reps_int _),.lst (SqL.of upd_same) .nil,by rw [dep_int];decide,_,rfl,?_⟩
            have wh6:=wh5.same sm1
            have h36:=sm1 _ _ h35
            have sq6:=sm1.tup sq5
            generalize upd H5 m1 (.lst [])=H6 at wh6 h36 sq6 ⊢
            obtain ⟨ys,hys,sps⟩:=wh6.xs
            have yl:=sps.len
            rcases List.eq_nil_or_concat z.ar with ea|⟨r,j,ea⟩
            · refine ifF (by rw [ne_nil,ea];rfl) (ifF rfl ?_)
              refine ⟨_,rfl,z0,fun m2 hm2=>?_⟩
              have sm2:Same H6 (upd H6 m2 (.lst [])):=Same.new hm2
              refine ⟨(op::cr).map PyData.str,[],.lst (SqL.of (sm2 _ _ h36)) (reps_str _),.lst (SqL.of upd_same) .nil,by rw [dep_str];decide,_,rfl,ifT (by rw [ne_nil];rfl) ?_⟩
              have wh7:=wh6.same sm2
              have sq7:=sm2.tup sq6
              generalize upd H6 m2 (.lst [])=H7 at wh7 sq7 ⊢
              refine ⟨_,rfl,.inl ⟨rfl,_,SqL.of wh7.hl⟩,_,rfl,a,_,_,_,rfl,rfl,sq7,atI_nat (j:=1) rfl,ll,_,_,rfl,rfl,wh7.hl,by rw [List.length_map];omega,?_⟩
              have wh8:=wh7.putL WFr (z.lo++[p])
              rw [List.map_append] at wh8
              refine go la _ _ _ _ _ WFr ?_ wh8
              rw [st0]
              unfold closeS
              rw [ea]
              rfl
            · rw [List.concat_eq_append] at ea
              have mj:j∈z.ar:=by rw [ea];simp
              have jl:=z1 j mj
              obtain ⟨s',hs'⟩:∃ s',z.fo[j]?=some s':=⟨_,List.getElem?_eq_getElem jl⟩
              obtain ⟨x',hx',a',rfl,ha'⟩:=sps.at' hs'
              have la1:atI (z.ar.map fun n:Nat=>V.int n) (-1)=some (.int j):=by
                rw [ea,List.map_append]
                exact at_last
              have cs:closeS z op p=if s'.nm=op then ⟨z.fo.set j (clS s' p),z.lo,z.ar.dropLast⟩ else ⟨z.fo,z.lo++[p],z.ar⟩:=by
                unfold closeS
                rw [show z.ar.getLast?=some j from by rw [ea];simp]
                show (match z.fo[j]? with|none=>z|some s=>if s.nm=op then _ else _)=_
                rw [hs']
              refine ifT (by rw [ne_nil,ea];simp) ?_
              refine ⟨_,rfl,_,rfl,_,rfl,la,_,_,_,rfl,rfl,SqL.of wh6.ha,la1,lf,ys,_,_,rfl,rfl,SqL.of hys,atI_nat (j:=j) hx',a',_,_,_,rfl,rfl,ha',atI_nat (j:=0) rfl,_,rfl,l7,_,_,_,rfl,rfl,SqL.of h36,atI_nat (j:=0) rfl,rfl,_,rfl,?_⟩
              by_cases hn:s'.nm=op
              · rw [if_pos hn] at cs
                refine ifT (by simp [hn]) ?_
                refine ⟨_,rfl,.inl ⟨rfl,_,SqL.of wh6.ha⟩,la,_,.int j,rfl,rfl,wh6.ha,by rw [ea];simp,?_⟩
                have e1:(z.ar.map fun n:Nat=>V.int n).dropLast=z.ar.dropLast.map fun n:Nat=>V.int n:=List.map_dropLast.symm
                rw [e1]
                have wh7:=wh6.putA WFr z.ar.dropLast
                have sq7:=sqt_upd (o:=.lst (z.ar.dropLast.map fun n:Nat=>V.int n)) sq6 wh6.ha
                have hys7:(upd H6 la (.lst (z.ar.dropLast.map fun n:Nat=>V.int n))) lf=some (.lst ys):=by rw [upd_ne WFr.n2];exact hys
                have sps7:SpsAt K (upd H6 la (.lst (z.ar.dropLast.map fun n:Nat=>V.int n))) ys z.fo:=sps.map fun _ _ q=>q.upd wh6.ha
                have ha7:=sqt_upd (o:=.lst (z.ar.dropLast.map fun n:Nat=>V.int n)) ha' wh6.ha
                generalize upd H6 la (.lst (z.ar.dropLast.map fun n:Nat=>V.int n))=H7 at wh7 sq7 hys7 sps7 ha7 ⊢
                try dsimp only [gName]
                refine ⟨_,rfl,_,rfl,lf,ys,_,_,rfl,rfl,SqL.of hys7,atI_nat (j:=j) hx',a',_,_,_,rfl,rfl,ha7,atI_nat (j:=0) rfl,_,rfl,_,rfl,lf,ys,_,_,rfl,rfl,SqL.of hys7,atI_nat (j:=j) hx',a',_,_,_,rfl,rfl,ha7,atI_nat (j:=1) rfl,_,rfl,a,_,_,_,rfl,rfl,sq7,atI_nat (j:=1) rfl,_,rfl,_,rfl,lf,ys,_,_,rfl,rfl,SqL.of hys7,atI_nat (j:=j) hx',a',_,_,_,rfl,rfl,ha7,atI_nat (j:=3) rfl,(show 4≤sizeLine by decide),fun tp htp=>?_⟩
                generalize hH:upd H7 tp _=H8
                have s8:Same H7 H8:=by rw [← hH];exact Same.new htp
                have h8:H8 tp=some (.tup (spV (clS s' p))):=by rw [← hH];exact upd_same
                clear hH
                have wh8:=wh7.same s8
                have hys8:=s8 _ _ hys7
                have sps8:SpsAt K H8 ys z.fo:=sps7.map fun _ _ q=>q.same s8
                have jl':j<ys.length:=(List.getElem?_eq_some_iff.mp hx').1
                refine ⟨_,rfl,_,rfl,lf,ys,_,j,rfl,rfl,hys8,?_,?_⟩
                · unfold ixN
                  simp
                  omega
                exact go la _ _ _ _ _ WFr (by rw [st0,cs]) (wh8.putF WFr (xs:=ys.set j (.ref tp)) But.upd upd_same (Pd.set ⟨tp,rfl,sqt_upd (SqT.of h8) hys8⟩ j (sps8.map fun _ _ q=>q.upd hys8)))
              · rw [if_neg hn] at cs
                refine ifF (by simp [hn]) ?_
                refine ⟨_,rfl,z0,fun m2 hm2=>?_⟩
                have sm2:Same H6 (upd H6 m2 (.lst [])):=Same.new hm2
                refine ⟨(op::cr).map PyData.str,[],.lst (SqL.of (sm2 _ _ h36)) (reps_str _),.lst (SqL.of upd_same) .nil,by rw [dep_str];decide,_,rfl,ifT (by rw [ne_nil];rfl) ?_⟩
                have wh7:=wh6.same sm2
                have sq7:=sm2.tup sq6
                generalize upd H6 m2 (.lst [])=H7 at wh7 sq7 ⊢
                refine ⟨_,rfl,.inl ⟨rfl,_,SqL.of wh7.hl⟩,_,rfl,a,_,_,_,rfl,rfl,sq7,atI_nat (j:=1) rfl,ll,_,_,rfl,rfl,wh7.hl,by rw [List.length_map];omega,?_⟩
                have wh8:=wh7.putL WFr (z.lo++[p])
                rw [List.map_append] at wh8
                refine go la _ _ _ _ _ WFr ?_ wh8
                rw [st0,cs]
    · rintro σ' H' ⟨la,u5,u6,u7,u8,rfl,_,z,ez,zo,wh⟩
      rw [tln,List.take_length] at ez
      refine ⟨_,rfl,_,rfl,(show 2≤sizeLine by decide),fun tp htp=>?_⟩
      have wh2:=wh.same (Same.new (o:=.tup [.ref lf,.ref ll]) htp)
      obtain ⟨ys,hys,sps⟩:=wh2.xs
      rw [ez] at sps
      have hl:=wh2.hl
      rw [ez] at hl
      exact k tp lf ll ys _ wh2.sm upd_same hys sps hl
end
end Cm
namespace Cm
open PySem L2 PySem.W
def forBody:Stmt→List Stmt
  |.For _ _ b _ _=>b
  |_=>[]
def lParams:Expr→Arguments
  |.Lambda p _ _ _=>p
  |_=>{ posonlyargs:=[],args:=[],vararg:=none,kwonlyargs:=[],kw_defaults:=[],kwarg:=none,defaults:=[] }
def lBody:Expr→Expr
  |.Lambda _ b _ _=>b
  |e=>e
def lScope:Expr→Scope
  |.Lambda _ _ s _=>s
  |_=>{ kind:=.function,names:=[],isGenerator:=false,isCoroutine:=false }
def lPos:Expr→Pos
  |.Lambda _ _ _ p=>p
  |_=>⟨0,0,0,0⟩
def lamL:Stmt→Expr
  |.Assign _ (.List (e::_) _) _=>e
  |_=>.Constant .none 0 ⟨0,0,0,0⟩
def lamA:Stmt→Expr
  |.Expr (.Call _ (e::_) _ _) _=>e
  |_=>.Constant .none 0 ⟨0,0,0,0⟩
def lawSt (i:Nat):Stmt:=(forBody ((defBody (top 26)).getD 1 (.Pass ⟨0,0,0,0⟩))).getD i (.Pass ⟨0,0,0,0⟩)
def lam1:Expr:=lamL (lawSt 9)
def lam2:Expr:=lamA (lawSt 10)
def lam3:Expr:=lamA (lawSt 11)
abbrev NL:List Str:=["_law_told","_law_bad"]
structure LamOk (L:Expr):Prop where
  has:∀ q∈(lScope L).names,(q.2=.cell∨q.2=.free)→q.1∈NL
  free:∀ x∈NL,(lScope L).names.lookup x=some .free
  co:(lScope L).isCoroutine=false
  gen:(lScope L).isGenerator=false
  k:(lScope L).kind=.function
  nc:∀ x∈(lScope L).names,x.2≠.cell
theorem lamOk1:LamOk lam1:=⟨by decide +kernel,by decide +kernel,rfl,rfl,rfl,by decide +kernel⟩
theorem lamOk2:LamOk lam2:=⟨by decide +kernel,by decide +kernel,rfl,rfl,rfl,by decide +kernel⟩
theorem lamOk3:LamOk lam3:=⟨by decide +kernel,by decide +kernel,rfl,rfl,rfl,by decide +kernel⟩
structure BadP (K:Frag) (cP cV cS:Addr):Prop where
  nv:mroIn K cP (.ref cV)=some false
  se:mroIn K cP (.ref cS)=some true
  gt:XGet K cP "word"
theorem clos_in {X:Cx} {scope:Scope} {N':List Str} {cl lcl:List (Str×Addr)} {C:Addr} {s₀ s':Shared} {H₀ H':Hp} {ex:List Addr} {pins pins':List (Addr×Obj)} {σ' ν:St} {lscope:Scope} {NL:List Str} (hf:∀ b∈ex,FpOk X pins H₀ b)
    (J:Inv (cxComp X scope N' cl C s₀ H₀ ex) pins' σ' H' s') (hcl:∀ p∈lcl,X.env.cells.lookup p.1=some p.2) (Cl:Clos lscope lcl NL s₀.heap H₀ (frs X.stack) ν):Clos lscope lcl NL s'.heap H' (frs X.stack) ν:=by
  have nex:∀ x c,lcl.lookup x=some c→c∉ex:=fun x c e hb=>(hf c hb).2.2.2.2.1 x c (hcl (x,c) (PySem.mem_of_lookup e)) rfl
  have isC:∀ x c v,lcl.lookup x=some c→s₀.heap.IsCell c v→s'.heap.IsCell c v:=fun x c v e z=>by
    obtain ⟨o,ho,hd⟩:=z
    exact ⟨o,J.base.keep c o ho (Cl.cell x c e).2.1 (Cl.cell x c e).2.2 (nex x c e),hd⟩
  refine ⟨Cl.inj,Cl.has,fun x c e=>?_,fun i x v h1 h2=>?_,Cl.len⟩
  · obtain ⟨⟨v,z⟩,h2,h3⟩:=Cl.cell x c e
    obtain ⟨o,ho,hd⟩:=id z
    exact ⟨⟨v,isC x c v e z⟩,J.base.free c o ho h2 (nex x c e),h3⟩
  · obtain ⟨h3,c,u,e,r,z⟩:=Cl.val i x v h1 h2
    exact ⟨h3,c,u,e,r,isC x c _ e z⟩
def Good (K:Frag) (lt lb:Addr) (H:Hp):Prop:=∃ ths ps,InW K [.ref lt,.ref lb] H ths ps
def rAskL (K:Frag) (L:Expr) (qual:Str) (cl:List (Str×Addr)) (pm:Value):St→List V→Hp→VK→Prop:=fun σ vs H Q=>∃ f c' ctv lt lb,vs=[.ref f]∧H f=some (lamO f (kla_obj "<lambda>" qual (lParams L) (lBody L) (lScope L) cl pm c' ctv))∧H c'=some (codeO c' qual)∧
  σ[5]?=some (some (.ref lt))∧σ[13]?=some (some (.ref lb))∧
  ((Good K lt lb H∧∀ v H',Same H H'→∀ l,H' l=none→Q (.ref l) (upd H' l (.lst [.str "",v])))∨(InB K [.ref lt,.ref lb] H∧∀ H',Same H H'→∀ l,H' l=none→Q (.ref l) (upd H' l (.lst [.str "badpairs",.non]))))
theorem ask_in {X:Cx} {scope:Scope} {N':List Str} {cl lcl:List (Str×Addr)} {C cV cS cM cP:Addr} {s₀ s':Shared} {H₀ H':Hp} {ex:List Addr} {pins pins':List (Addr×Obj)} {σ σ':St} {L:Expr} {qual:Str} {pm:Value} {E:XK} {vs:List V} {Q:VK} {t:XK→TE} (LO:LamOk L)
    (hbind:∀ c' ctv,bindArgs (kla_fn "<lambda>" qual (lParams L) (lBody L) (lScope L) lcl pm (.ref c') ctv) ⟨[],[]⟩=pure [])
    (hcl:∀ p∈lcl,X.env.cells.lookup p.1=some p.2) (hclN:∀ x∈NL,x∈lcl.map (·.1)) (hfn:∀ x,X.fn x=true) (hown:∀ x∈NL,X.env.scope.names.lookup x=some .cell) (hN:[X.N[5]?,X.N[13]?]=NL.map some) (hst:X.stack=X.env::X.outer) (hfm:X.env.frame=some X.env.locals)
    (hb:∀ (f c':Addr) (A:Around) (outer:List Env) (s:Shared) (H:Hp) (E:XK),Room 8 (A.deeper (envX qual (lScope L) s.heap.objs.size f (.ref c') lcl))→PE (cxLam X.prog X.w X.K X.mg X.base NL qual (lScope L) f (.ref c') lcl A outer s H E) (lBody L) (t E))
    (hq:∀ lt lb H Qv Ev,(Good X.K lt lb H∧∀ v H',Same H H'→Qv v H')∨(InB X.K [.ref lt,.ref lb] H∧∀ H1 da H',Same H H1→Thrown H1 [("word",.str "badpairs")] da H'→Ev (.ref cP) (some da) H')→t Ev [some (.ref lt),some (.ref lb)] H Qv)
    (BP:BadP X.K cP cV cS) (I:Inv X pins σ H₀ s₀) (hf:∀ b∈ex,FpOk X pins H₀ b) (J:Inv (cxComp X scope N' cl C s₀ H₀ ex) pins' σ' H' s') (h:rAskL X.K L qual lcl pm σ vs H' Q):spAsk X.prog X.w X.K X.mg X.base 9 cV cS cM s' X.stack vs H' Q E:=by
  obtain ⟨f,c',ctv,lt,lb,rfl,ho,hc,h5,h13,hgb⟩:=h
  have Cl:=clos_in hf J hcl (clos_of (scope:=lScope L) (NL:=NL) (js:=[5,13]) I hcl hfn (fun q hq h=>hclN _ (LO.has q hq h)) LO.free hown (by rw [← hN];rfl) hst hfm)
  have ev:freeV [5,13] σ=[some (.ref lt),some (.ref lb)]:=by
    unfold freeV
    rw [List.map_cons,List.map_cons,List.map_nil,h5,h13]
    rfl
  rw [ev] at Cl
  rcases hgb with ⟨gd,k⟩|⟨bd,k⟩
  · refine ⟨f,fun v H1=>Same H' H1,fun _ _ _=>False,rfl,thunk_lam (N:=NL) (k:=8) ho hc Cl (hbind _ _) LO.co LO.gen LO.k LO.nc (fun A outer s hr=>hb f c' A outer s H' _ hr) (hq lt lb H' _ _ (.inl ⟨gd,fun v H1 s1=>s1⟩)),fun v H1 s1 l hl=>k v H1 s1 l hl,fun _ _ _ z=>z.elim⟩
  · refine ⟨f,fun v H1=>False,fun cls dd H2=>∃ H1 da,cls=.ref cP∧dd=some da∧Same H' H1∧Thrown H1 [("word",.str "badpairs")] da H2,rfl,thunk_lam (N:=NL) (k:=8) ho hc Cl (hbind _ _) LO.co LO.gen LO.k LO.nc (fun A outer s hr=>hb f c' A outer s H' _ hr) (hq lt lb H' _ _ (.inr ⟨bd,fun H1 da H2 s1 th=>⟨H1,da,rfl,rfl,s1,th⟩⟩)),fun v H1 z=>z.elim,?_⟩
    rintro cls dd H2 ⟨H1,da,rfl,rfl,s1,d0,rfl⟩
    refine ⟨_,da,_,"badpairs",rfl,rfl,upd_same,.inr (.inl ⟨BP.nv,BP.se,BP.gt,?_⟩),fun l hl=>?_⟩
    · rw [List.lookup_cons,show (("word" : Str) == ("word" : Str))=true from by decide +kernel]
    · exact k _ (fun b u e=>by rw [upd_ne (ne_of_none (s1 _ _ e) d0)];exact s1 _ _ e) l hl
end Cm
namespace Cm
open PySem L2 PySem.W
theorem pe_by {X:Cx} {e:Expr} {t t':TE} (h:PE X e t) (f:∀ σ H Q,t' σ H Q→t σ H Q):PE X e t':=fun pins s σ H Q I q=>h pins s σ H Q I (f σ H Q q)
def tL1 (K:Frag) (i:Nat):TE:=fun σ H Q=>∃ (a:Addr) (xs:List V),σ[i]?=some (some (.ref a))∧SqT K H a xs∧∀ l H',Same H H'→H' l=some (.lst (xs.take 1))→Q (.ref l) H'
theorem cut1 (xs:List V):cutV xs none (some 1)=xs.take 1:=by
  cases xs with
  |nil=>decide
  |cons x r=>exact cut_pre (a:=1) (by simp)
theorem Pd.app {α β:Type} {R:α→β→Prop} {us:List α} {vs:List β} (h:Pd R us vs):∀ {xs:List α} {ys:List β},Pd R xs ys→Pd R (xs++us) (ys++vs)
  |_,_,.nil=>h
  |_,_,.cons r t=>.cons r (Pd.app h t)
theorem ThAt.tk {K:Frag} {H H':Hp} {x:V} {th:Th} (k:∀ a xs,SqT K H a xs→SqT K H' a xs) (h:ThAt K H x th):ThAt K H' x th:=by
  cases h with
  |lost sq=>exact .lost (k _ _ sq)
  |ev sq sqz=>exact .ev (k _ _ sq) (k _ _ sqz)
theorem ThsAt.tk {K:Frag} {H H':Hp} (k:∀ a xs,SqT K H a xs→SqT K H' a xs):∀ {ths:List Th} {xs:List V},ThsAt K H xs ths→ThsAt K H' xs ths
  |_,_,.nil=>.nil
  |_,_,.cons r rs=>.cons (r.tk k) (rs.tk k)
theorem PrAt.tk {K:Frag} {H H':Hp} {x:V} {p:Str×Str} (k:∀ a xs,SqT K H a xs→SqT K H' a xs) (h:PrAt K H x p):PrAt K H' x p:=by
  obtain ⟨a,rfl,sq⟩:=h
  exact ⟨a,rfl,k _ _ sq⟩
abbrev qL:Str:="law.<locals>."++"<lambda>"
abbrev lps:List Pos:=[lPos lam1,lPos lam2,lPos lam3]
theorem tab_but {H H':Hp} {T p dc:Addr} {qual:Str} {lps:List Pos} (h:TabI H T qual lps) (D:Dr H p dc) (b:But p H H'):TabI H' T qual lps:=h.keep fun q u e ne=>b q u e (D.ne e ne)
theorem tab_put {H:Hp} {T w:Addr} {qual:Str} {lps:List Pos} {ys zs:List V} (h:TabI H T qual lps) (hw:H w=some (.lst ys)):TabI (upd H w (.lst zs)) T qual lps:=by
  obtain ⟨ps,h1,h2,h3⟩:=h
  refine ⟨ps,?_,h2,fun lp m=>?_⟩
  · rw [upd_ne (fun z=>by subst z;rw [hw] at h1;cases h1)];exact h1
  · rcases h3 lp m with h|⟨c',a,b⟩
    · exact .inl h
    · refine .inr ⟨c',a,?_⟩
      rw [upd_ne (fun z=>by subst z;rw [hw] at b;cases b)];exact b
def Kp (H H':Hp):Prop:=∀ b u,H b=some u→(∀ ps,u≠.tbl ps)→H' b=some u
theorem Kp.tk {K:Frag} {H H':Hp} (k:Kp H H'):∀ a xs,SqT K H a xs→SqT K H' a xs:=fun a xs h=>by
  rcases h with (h|⟨o,h⟩)|h
  · exact .inl (.inl (k _ _ h (by intro _ z;cases z)))
  · exact .inl (.inr ⟨o,k _ _ h (by intro _ z;cases z)⟩)
  · exact .inr h
theorem Dr.kp {H H':Hp} {p dc:Addr} (D:Dr H p dc) (k:Kp H H'):Dr H' p dc:=by
  obtain ⟨ms,ba,br,bs,e1,e2,rest⟩:=D.ex
  exact ⟨ms,ba,br,bs,k _ _ e1 (by intro _ z;cases z),k _ _ e2 (by intro _ z;cases z),rest⟩
structure LT (K:Frag) (Tt p dc tp lt:Addr) (xs ts:List V) (ps:List (Str×Str)) (ths:List Th) (H:Hp):Prop where
  D:Dr H p dc
  tb:TabI H Tt qL lps
  tp:H tp=some (.tup xs)
  pe:PrsAt K H xs ps
  lt:H lt=some (.lst ts)
  ta:ThsAt K H ts ths
section
variable {K:Frag} {Tt p dc tp lt lb w:Addr} {xs ts ws:List V} {ps bs:List (Str×Str)} {ths:List Th} {H H':Hp}
theorem LT.same (h:LT K Tt p dc tp lt xs ts ps ths H) (s:Same H H'):LT K Tt p dc tp lt xs ts ps ths H':=
  ⟨h.D.mono s,h.tb.same s,s _ _ h.tp,h.pe.map fun _ _ z=>z.same s,s _ _ h.lt,h.ta.same s⟩
theorem LT.but (h:LT K Tt p dc tp lt xs ts ps ths H) (D':Dr H' p dc) (b:But p H H'):LT K Tt p dc tp lt xs ts ps ths H':=by
  obtain ⟨kvs,hp⟩:=h.D.dk
  have k:∀ a xs,SqT K H a xs→SqT K H' a xs:=fun a xs q=>b.tup hp q
  exact ⟨D',tab_but h.tb h.D b,b _ _ h.tp (h.D.ne h.tp (by intro _ z;cases z)),h.pe.map fun _ _ z=>z.tk k,b _ _ h.lt (h.D.ne h.lt (by intro _ z;cases z)),h.ta.tk k⟩
structure LV (K:Frag) (Tt p dc tp lt lb:Addr) (xs ts ws:List V) (ps bs:List (Str×Str)) (ths:List Th) (H:Hp):Prop where
  t:LT K Tt p dc tp lt xs ts ps ths H
  lb:H lb=some (.lst ws)
  pb:PrsAt K H ws bs
theorem LV.same (h:LV K Tt p dc tp lt lb xs ts ws ps bs ths H) (s:Same H H'):LV K Tt p dc tp lt lb xs ts ws ps bs ths H':=⟨h.t.same s,s _ _ h.lb,h.pb.map fun _ _ z=>z.same s⟩
theorem LV.kp (h:LV K Tt p dc tp lt lb xs ts ws ps bs ths H) (k:Kp H H') (tb:TabI H' Tt qL lps):LV K Tt p dc tp lt lb xs ts ws ps bs ths H':=
  ⟨⟨h.t.D.kp k,tb,k _ _ h.t.tp (by intro _ z;cases z),h.t.pe.map fun _ _ z=>z.tk k.tk,k _ _ h.t.lt (by intro _ z;cases z),h.t.ta.tk k.tk⟩,k _ _ h.lb (by intro _ z;cases z),h.pb.map fun _ _ z=>z.tk k.tk⟩
theorem LV.put {ys zs:List V} (h:LV K Tt p dc tp lt lb xs ts ws ps bs ths H) (hw:H w=some (.lst ys)) (n1:w≠lt) (n2:w≠lb) (n3:w≠dc):LV K Tt p dc tp lt lb xs ts ws ps bs ths (upd H w (.lst zs)):=by
  have k:∀ a xs,SqT K H a xs→SqT K (upd H w (.lst zs)) a xs:=fun a xs q=>sqt_upd q hw
  exact ⟨⟨h.t.D.put (h.t.D.ne hw (by intro _ z;cases z)) n3,tab_put h.t.tb hw,by rw [upd_ne (fun z=>by have e:=h.t.tp;rw [z,hw] at e;cases e)];exact h.t.tp,h.t.pe.map fun _ _ z=>z.tk k,by rw [upd_ne (Ne.symm n1)];exact h.t.lt,h.t.ta.tk k⟩,by rw [upd_ne (Ne.symm n2)];exact h.lb,h.pb.map fun _ _ z=>z.tk k⟩
def LamAt (L:Expr) (cl:List (Str×Addr)) (pm:Value) (f:Addr) (H:Hp):Prop:=∃ c' ctv,H f=some (lamO f (kla_obj "<lambda>" qL (lParams L) (lBody L) (lScope L) cl pm c' ctv))∧H c'=some (codeO c' qL)
theorem LamAt.kp {L:Expr} {cl:List (Str×Addr)} {pm:Value} {f:Addr} (h:LamAt L cl pm f H) (k:Kp H H'):LamAt L cl pm f H':=by
  obtain ⟨c',ctv,a,b⟩:=h
  exact ⟨c',ctv,k _ _ a (by intro _ z;cases z),k _ _ b (by intro _ z;cases z)⟩
theorem LamAt.put {L:Expr} {cl:List (Str×Addr)} {pm:Value} {f:Addr} {ys zs:List V} (h:LamAt L cl pm f H) (hw:H w=some (.lst ys)):LamAt L cl pm f (upd H w (.lst zs)):=by
  obtain ⟨c',ctv,a,b⟩:=h
  exact ⟨c',ctv,by rw [upd_ne (fun z=>by rw [z,hw] at a;cases a)];exact a,by rw [upd_ne (fun z=>by rw [z,hw] at b;cases b)];exact b⟩
theorem lam_kp {lp:Pos} {c' f:Addr} {H1:Hp} {o:HO} (lm:Lam H Tt lp qL c' H1) (hf:H1 f=none):Kp H (upd H1 f o):=fun b u e ne=>by
  have e9:=lm.keep e ne
  rw [upd_ne (ne_of_none e9 hf)];exact e9
theorem lam_tab {lp:Pos} {c' f:Addr} {H1:Hp} {o:HO} (tb:TabI H Tt qL lps) (lm:Lam H Tt lp qL c' H1) (hf:H1 f=none):TabI (upd H1 f o) Tt qL lps:=(tb.lam lm).same (Same.new hf)
theorem lam_at {L:Expr} {cl:List (Str×Addr)} {pm:Value} {lp:Pos} {c' f:Addr} {H1:Hp} {ctv:Value} {o:Obj} (lm:Lam H Tt lp qL c' H1) (hf:H1 f=none) (ho:o=kla_obj "<lambda>" qL (lParams L) (lBody L) (lScope L) cl pm c' ctv):LamAt L cl pm f (upd H1 f (lamO f o)):=by
  subst ho
  exact ⟨c',ctv,upd_same,Same.new hf _ _ lm.code⟩
theorem Kp.same (s:Same H H'):Kp H H':=fun b u e _=>s b u e
def Odd (ps qs:List (Str×Str)):Prop:=(ps=[]∧qs=[])∨(qs≠[]∧PrTx (ps++qs)∧BadN (namesP (ps++qs)))
theorem names_app (ps qs:List (Str×Str)):namesP (ps++qs)=namesP ps++namesP qs:=List.flatMap_append
theorem bad_app {qs:List (Str×Str)} (h:BadN (namesP qs)):BadN (namesP (ps++qs)):=by
  obtain ⟨i,x,hx,b⟩:=h
  rw [names_app]
  refine ⟨(namesP ps).length+i,x,?_,?_⟩
  · rw [List.getElem?_append_right (by omega),Nat.add_sub_cancel_left];exact hx
  · rcases b with b|b
    · exact .inl b
    · refine .inr ?_
      rw [List.take_append]
      exact List.mem_append.mpr (.inr (by rw [Nat.add_sub_cancel_left];exact b))
theorem nm_tx {x:Str} (h:Nm x):Asc x∧x.length≤20:=by
  have h2:=(nameB_iff x).mpr h
  unfold nameB at h2
  simp only [Bool.and_eq_true,decide_eq_true_eq] at h2
  exact ⟨h2.2.1,by omega⟩
theorem odd_one {a b:Str} (ok:PrOk ps) (ha:Asc a∧a.length≤20) (hb:Asc b∧b.length≤20) (bad:BadN [a,b]):Odd ps [(a,b)]:=by
  refine .inr ⟨by simp,⟨fun x m=>?_,?_⟩,bad_app bad⟩
  · rw [names_app] at m
    rcases List.mem_append.mp m with m|m
    · exact nm_tx (ok.nm x m)
    · have m:x∈[a,b]:=m
      rcases List.mem_cons.mp m with rfl|m
      · exact ha
      · cases List.mem_singleton.mp m
        exact hb
  · have:=ok.le
    rw [List.length_append]
    simp
    omega
theorem odd_first (ok:PrOk ps):Odd ps (ps.take 1):=by
  cases ps with
  |nil=>exact .inl ⟨rfl,rfl⟩
  | cons q r=>
    obtain ⟨a,b⟩:=q
    refine .inr ⟨by simp,⟨fun x m=>?_,?_⟩,?_⟩
    · rw [names_app] at m
      rcases List.mem_append.mp m with m|m
      · exact nm_tx (ok.nm x m)
      · refine nm_tx (ok.nm x ?_)
        have m:x∈[a,b]:=m
        show x∈a::b::namesP r
        rcases List.mem_cons.mp m with rfl|m
        · simp
        · cases List.mem_singleton.mp m
          simp
    · have:=ok.le
      rw [List.length_append]
      simp at this ⊢
      omega
    · rw [names_app]
      refine ⟨(namesP ((a,b)::r)).length,a,?_,.inr ?_⟩
      · rw [List.getElem?_append_right (Nat.le_refl _),Nat.sub_self];rfl
      · rw [List.take_left]
        show a∈a::b::namesP r
        simp
def prD (p:Str×Str):PyData:=.tuple [.str p.1,.str p.2]
theorem prs_rep:∀ {ws:List V} {bs:List (Str×Str)},PrsAt K H ws bs→Reps K H ws (bs.map prD)
  |_,_,.nil=>.nil
  | _,_,.cons ⟨a,e,sq⟩ t=>by
    subst e
    exact .cons (.tup sq (.cons (.str _) (.cons (.str _) .nil))) (prs_rep t)
theorem prs_dep:∀ bs:List (Str×Str),pdDeps (bs.map prD)≤1
  |[]=>by simp [pdDeps]
  | b::r=>by
    have h2:=prs_dep r
    simp only [List.map_cons,pdDeps,prD,pdDep]
    omega
theorem prs_ne {qs:List (Str×Str)} (h:qs≠[]):pdEqs ((ps++qs).map prD) (ps.map prD)=false:=by
  cases e:pdEqs ((ps++qs).map prD) (ps.map prD) with
  |false=>rfl
  | true=>
    rw [pdEqs_iff,Bool.and_eq_true] at e
    have:=e.2
    rw [List.map_append,List.length_append,List.length_map,List.length_map] at this
    have:ps.length+qs.length=ps.length:=by simpa using this
    exact absurd (List.length_eq_zero_iff.mp (by omega)) h
theorem eq_ints:∀ us:List Int,pdEqs (us.map PyData.int) (us.map PyData.int)=true
  |[]=>rfl
  |u::r=>by simp only [List.map_cons,pdEqs,pdEq];rw [eq_ints r];simp
theorem eq_th (th:Th):pdEq (thD th) (thD th)=true:=by
  cases th with
  |lost n=>simp [thD,pdEq,pdEqs]
  | ev p t k us=>
    have:=eq_ints us
    simp [thD,pdEq,pdEqs,this]
theorem eq_ths:∀ ths:List Th,pdEqs (ths.map thD) (ths.map thD)=true
  |[]=>rfl
  |t::r=>by simp only [List.map_cons,pdEqs];rw [eq_th,eq_ths r];rfl
theorem sp_max:∀ fo:List Spn,pdMaxs (fo.map spD)≤4
  |[]=>by simp [pdMaxs]
  | s::r=>by
    have h2:=sp_max r
    have h1:pdMax (spD s)≤4:=by
      unfold spD
      cases s.la <;> simp [pdMax,pdMaxs,laD]
    simp only [List.map_cons,pdMaxs]
    omega
theorem int_max:∀ us:List Int,pdMaxs (us.map PyData.int)≤4
  |[]=>by simp [pdMaxs]
  | u::r=>by
    have h2:=int_max r
    simp only [List.map_cons,pdMaxs,pdMax]
    omega
end
end Cm
namespace Cm
open PySem L2 PySem.W
abbrev lclo (s:Shared):List (Str×Addr):=[("_law_told",s.heap.objs.size+1+1),("_law_bad",s.heap.objs.size+1)]
def rAsk3 (K:Frag) (qual:Str) (cl:List (Str×Addr)) (pm:Value) (σ:St):List V→Hp→VK→Prop:=fun vs H Q=>rAskL K lam1 qual cl pm σ vs H Q∨rAskL K lam2 qual cl pm σ vs H Q∨rAskL K lam3 qual cl pm σ vs H Q
def Ei (K:Frag) (cP:Addr) (sp:Sp):Sp:=fun vs H Q E=>sp vs H Q E∨spBad K cP vs H Q E
theorem ask3 {X:Cx} {scope:Scope} {N':List Str} {cl lcl:List (Str×Addr)} {C cV cS cM cP f1 f2 f3:Addr} {fd1 fd2 fd3:FuncData} {s₀ s':Shared} {H₀ H':Hp} {ex:List Addr} {pins pins':List (Addr×Obj)} {σ σ':St} {qual:Str} {pm:Value} {E:XK} {vs:List V} {Q:VK}
    (hcl:∀ p∈lcl,X.env.cells.lookup p.1=some p.2) (hclN:∀ x∈NL,x∈lcl.map (·.1)) (hfn:∀ x,X.fn x=true) (hown:∀ x∈NL,X.env.scope.names.lookup x=some .cell) (hN:[X.N[5]?,X.N[13]?]=NL.map some) (hst:X.stack=X.env::X.outer) (hfm:X.env.frame=some X.env.locals)
    (G1:FnOk X.prog X.w X.K X.mg X.base (CX1 X.prog X.w) 8 f1 fd1 ["told","pairs"] (Ei X.K cP (spSp X.K))) (m1:X.mg "spans" = some (.ref f1)) (k1:keepIn X.K (.ref f1)=true) (b1:Binds X.K fd1 ["told","pairs"] [])
    (G2:FnOk X.prog X.w X.K X.mg X.base (CX1 X.prog X.w) 8 f2 fd2 ["told","pairs"] (Ei X.K cP (spSt X.K))) (m2:X.mg "strays" = some (.ref f2)) (k2:keepIn X.K (.ref f2)=true) (b2:Binds X.K fd2 ["told","pairs"] [])
    (G3:FnOk X.prog X.w X.K X.mg X.base (CX1 X.prog X.w) 8 f3 fd3 ["told","pairs"] (Ei X.K cP (spDp X.K))) (m3:X.mg "deepest" = some (.ref f3)) (k3:keepIn X.K (.ref f3)=true) (b3:Binds X.K fd3 ["told","pairs"] [])
    (BP:BadP X.K cP cV cS) (I:Inv X pins σ H₀ s₀) (hf:∀ b∈ex,FpOk X pins H₀ b) (J:Inv (cxComp X scope N' cl C s₀ H₀ ex) pins' σ' H' s') (h:rAsk3 X.K qual lcl pm σ vs H' Q):spAsk X.prog X.w X.K X.mg X.base 9 cV cS cM s' X.stack vs H' Q E:=by
  rcases h with h|h|h
  · refine ask_in (t:=fun E=>tCall (Ei X.K cP (spSp X.K)) [] E (tCons (tVar 0) (tCons (tVar 1) tNil))) lamOk1 (fun _ _=>rfl) hcl hclN hfn hown hN hst hfm (fun f c' A outer s H E hr=>pe_call G1 hr (by rfl) m1 k1 b1 .nil (passL fun _ _ _ h=>h) (pa_cons (pv 0) (pa_cons (pv 1) pa_nil))) (fun lt lb H Qv Ev hg=>?_) BP I hf J h
    rcases hg with ⟨⟨ths,ps,iw⟩,k⟩|⟨ib,k⟩
    · exact ⟨_,rfl,_,rfl,.inl ⟨ths,ps,iw,fun lf ys H1 s1 _ _ _=>k _ H1 s1⟩⟩
    · exact ⟨_,rfl,_,rfl,.inr ⟨ib,k⟩⟩
  · refine ask_in (t:=fun E=>tCall (Ei X.K cP (spSt X.K)) [] E (tCons (tVar 0) (tCons (tVar 1) tNil))) lamOk2 (fun _ _=>rfl) hcl hclN hfn hown hN hst hfm (fun f c' A outer s H E hr=>pe_call G2 hr (by rfl) m2 k2 b2 .nil (passL fun _ _ _ h=>h) (pa_cons (pv 0) (pa_cons (pv 1) pa_nil))) (fun lt lb H Qv Ev hg=>?_) BP I hf J h
    rcases hg with ⟨⟨ths,ps,iw⟩,k⟩|⟨ib,k⟩
    · exact ⟨_,rfl,_,rfl,.inl ⟨ths,ps,iw,fun ll H1 s1 _ _=>k _ H1 s1⟩⟩
    · exact ⟨_,rfl,_,rfl,.inr ⟨ib,k⟩⟩
  · refine ask_in (t:=fun E=>tCall (Ei X.K cP (spDp X.K)) [] E (tCons (tVar 0) (tCons (tVar 1) tNil))) lamOk3 (fun _ _=>rfl) hcl hclN hfn hown hN hst hfm (fun f c' A outer s H E hr=>pe_call G3 hr (by rfl) m3 k3 b3 .nil (passL fun _ _ _ h=>h) (pa_cons (pv 0) (pa_cons (pv 1) pa_nil))) (fun lt lb H Qv Ev hg=>?_) BP I hf J h
    rcases hg with ⟨⟨ths,ps,iw⟩,k⟩|⟨ib,k⟩
    · exact ⟨_,rfl,_,rfl,.inl ⟨ths,ps,iw,fun _ H1 s1=>k _ H1 s1,fun b _ _ H1 s1=>k _ H1 s1⟩⟩
    · exact ⟨_,rfl,_,rfl,.inr ⟨ib,k⟩⟩
section
variable {P:Program} {w:World} {K:PySem.W.Frag} {mg:Str→Option Value} {base:Heap}
def spLaw1 (K:PySem.W.Frag) (Tt:Addr) (ps:Array Value):Sp:=fun vs H Q _=>∃ (a:Addr) (ns:List Int),vs=[.ref a]∧SqL K H a (ns.map V.int)∧ns.length≤63∧H Tt=some (.tbl ps)∧∀ H',Q (.bl true) H'
abbrev NW:List Str:=["_law_script","_law_d","_law_turn","_law_pairs","_law_names","_law_told","_law_handed","_law_found","_law_odd","_law_step","_law_answers","_law_one","_law_deep","_law_bad","_law_asks","_law_due"]
theorem scLaw:FnScope NW ["_law_script"] (defScope (top 26)):=⟨rfl,rfl,rfl,by decide +kernel,rfl,by decide +kernel,by decide +kernel⟩
theorem ok_law {f c Tt fB fO fS fPp fSr fLs fSp fSt fDp fA cV cS cM cP:Addr} {fdB fdO fdS fdPp fdSr fdLs fdSp fdSt fdDp fdA:FuncData} {oc kV doc pm ct:Value} {od an:Option Addr} {osl:Array (Option Value)} {tbs:Array Value}
    (lk:K.lookup f=some ⟨oc,od,.func (PySem.W.fnOf "law" "law" (defArgs (top 26)) (defBody (top 26)) (defScope (top 26)) .none kV doc pm an (.ref c) ct),osl⟩) (hcd:PySem.W.codeIn K (.ref c) "law" = true)
    (HT:CodeHd base c Tt) (HB:base.BuiltinsAt mg Tt) (HG:mainGlobals≠Tt) (tri:TriplesOk tbs.toList) (cn:∀ lp∈lps,codeAmong lp tbs.toList=none)
    (T:Txt K mg) (hmax:mg "max" = none) (BP:BadP K cP cV cS)
    (DB:Def K mg "_law_begin" (top 16) ["_law_script"] fB fdB) (DO:Def K mg "_law_of" (top 18) ["_law_d","_law_things"] fO fdO) (GO:FnOk P w K mg base CX0 2 fO fdO ["_law_d","_law_things"] (spOf K)) (DS:Def K mg "_law_same" (top 19) ["_law_found","_law_due"] fS fdS)
    (DPp:Def K mg "_law_span_pairs" (top 24) ["_law_d"] fPp fdPp) (GPp:FnOk P w K mg base CX0 5 fPp fdPp ["_law_d"] (spPp K))
    (DSr:Def K mg "_law_span_row" (top 23) ["_law_d","_law_names"] fSr fdSr) (GSr:FnOk P w K mg base CX0 3 fSr fdSr ["_law_d","_law_names"] (spSr K))
    (DLs:Def K mg "_law_spans" (top 25) ["_law_told","_law_pairs"] fLs fdLs) (GLs:FnOk P w K mg base CX0 1 fLs fdLs ["_law_told","_law_pairs"] (spLs K))
    (DSp:Def K mg "spans" (top 12) ["told","pairs"] fSp fdSp) (GSp:FnOk P w K mg base CX0 4 fSp fdSp ["told","pairs"] (spSp K))
    (DSt:Def K mg "strays" (top 13) ["told","pairs"] fSt fdSt) (GSt:FnOk P w K mg base CX0 4 fSt fdSt ["told","pairs"] (spSt K))
    (DDp:Def K mg "deepest" (top 14) ["told","pairs"] fDp fdDp) (GDp:FnOk P w K mg base CX0 5 fDp fdDp ["told","pairs"] (spDp K))
    (B1:FnOk P w K mg base (CX1 P w) 7 fSp fdSp ["told","pairs"] (spBad K cP)) (B2:FnOk P w K mg base (CX1 P w) 7 fSt fdSt ["told","pairs"] (spBad K cP)) (B3:FnOk P w K mg base (CX1 P w) 8 fDp fdDp ["told","pairs"] (spBad K cP))
    (GA:FnOkS P w K mg base CX0 10 fA fdA ["_law_ask_here"] (spAsk P w K mg base 9 cV cS cM)) (hA:mg "_law_ask" = some (.ref fA)) (kA:keepIn K (.ref fA)=true) (bA:Binds K fdA ["_law_ask_here"] []) :
    FnOk P w K mg base CX0 12 f (PySem.W.fnOf "law" "law" (defArgs (top 26)) (defBody (top 26)) (defScope (top 26)) .none kV doc pm an (.ref c) ct) ["_law_script"] (spLaw1 K Tt tbs):=by
  have GB:FnOk P w K mg base CX0 1 fB fdB ["_law_script"] (spBegin K):=ok_begin DB.F T
  have GS:FnOk P w K mg base CX0 10 fS fdS ["_law_found","_law_due"] (spS K 10):=ok_same DS T 10
  have GX1:FnOk P w K mg base (CX1 P w) 8 fSp fdSp ["told","pairs"] (Ei K cP (spSp K)):=fn_or ((fn_lift GSp).mono (by decide)) (B1.mono (by decide))
  have GX2:FnOk P w K mg base (CX1 P w) 8 fSt fdSt ["told","pairs"] (Ei K cP (spSt K)):=fn_or ((fn_lift GSt).mono (by decide)) (B2.mono (by decide))
  have GX3:FnOk P w K mg base (CX1 P w) 8 fDp fdDp ["told","pairs"] (Ei K cP (spDp K)):=fn_or ((fn_lift GDp).mono (by decide)) B3
  have hX1:=DSp.mg
  have kX1:=DSp.F.kp
  have bX1:=DSp.b
  have hX2:=DSt.mg
  have kX2:=DSt.F.kp
  have bX2:=DSt.b
  have hX3:=DDp.mg
  have kX3:=DDp.F.kp
  have bX3:=DDp.b
  refine fn_of lk hcd scLaw (fun vs H Q E h=>?_) (fun A outer s H vs Q E hr h=>?_)
  · obtain ⟨a,ns,rfl,_⟩:=h
    rfl
  · obtain ⟨sa,ns,rfl,hS,hlen,hTb,k⟩:=h
    have hr1:Room 1 _:=hr.mono (by decide)
    have hr2:Room 2 _:=hr.mono (by decide)
    have hr3:Room 3 _:=hr.mono (by decide)
    have hr4:Room 4 _:=hr.mono (by decide)
    have hr5:Room 5 _:=hr.mono (by decide)
    have hr10:Room 10 _:=hr.mono (by decide)
    have CT:CodeTab (cxOf CX0 P w K mg base NW "law" (defScope (top 26)) f (.ref c) A outer s H E) c Tt:=⟨rfl,HT,HB,HG⟩
    have h1:∀ q∈lclo s,(PyProof.Rows.envOfC "law" (defScope (top 26)) s.heap.objs.size f (.ref c)).cells.lookup q.1=some q.2:=by
      intro q hq
      rcases List.mem_cons.mp hq with rfl|hq
      · rfl
      · cases List.mem_singleton.mp hq
        rfl
    have h1N:∀ x∈NL,x∈(lclo s).map (·.1):=by
      have:∀ x∈NL,x∈(["_law_told","_law_bad"]:List Str):=by decide +kernel
      exact this
    have h3:∀ x∈NL,(defScope (top 26)).names.lookup x=some .cell:=by decide +kernel
    refine ⟨_,(pss_cons (ps_set (i:=1) scLaw.nd rfl (Or.inl rfl) (pe_call (E:=E0) GB hr1 rfl DB.mg DB.F.kp DB.b .nil pass0 (pa_cons (pv 0) pa_nil)))
  (pss_cons (ps_for PassesOwn.leaving rfl (pi_range1 rfl T.range (pa_cons pe_int pa_nil)) (pg_name (i:=2) scLaw.nd rfl (Or.inl rfl)) (pss_cons (ps_asg (pe_call (E:=E0) GPp hr5 rfl DPp.mg DPp.F.kp DPp.b .nil pass0 (pa_cons (pv 1) pa_nil)) (pg_tup rfl (pgs_cons (pg_name (i:=3) scLaw.nd rfl (Or.inl rfl)) (pgs_cons (pg_name (i:=4) scLaw.nd rfl (Or.inl rfl)) pgs_nil))))
  (pss_cons (ps_set (i:=5) scLaw.nd rfl (Or.inr rfl) (pe_call (E:=E0) GSr hr3 rfl DSr.mg DSr.F.kp DSr.b .nil pass0 (pa_cons (pv 1) (pa_cons (pe_slice sl_list (pv 4) po_none (po_some (pe_op op_add (pe_op op_mul pe_int (pe_callB call_len_seq (by rfl) T.len bt_len (pa_cons (pv 3) pa_nil))) pe_int))) pa_nil))))
  (pss_cons (ps_set (i:=6) scLaw.nd rfl (Or.inl rfl) (pe_callTy call_list_of (by rfl) T.list bt_list (pa_cons (pv 5) pa_nil)))
  (pss_cons (ps_asg (pe_call (E:=E0) GLs hr1 rfl DLs.mg DLs.F.kp DLs.b .nil pass0 (pa_cons (pv 5) (pa_cons (pv 3) pa_nil))) (pg_tup rfl (pgs_cons (pg_name (i:=7) scLaw.nd rfl (Or.inl rfl)) (pgs_cons (pg_name (i:=8) scLaw.nd rfl (Or.inl rfl)) pgs_nil))))
  (pss_cons (ps_for PassesOwn.leaving rfl (pi_range1 rfl T.range (pa_cons pe_int pa_nil)) (pg_name (i:=9) scLaw.nd rfl (Or.inl rfl)) (pss_cons (ps_set (i:=10) scLaw.nd rfl (Or.inl rfl) (pe_lst (pa_cons (pe_call (E:=E0) GSp hr4 rfl DSp.mg DSp.F.kp DSp.b .nil pass0 (pa_cons (pv 6) (pa_cons (pe_callTy call_list_of (by rfl) T.list bt_list (pa_cons (pv 3) pa_nil)) pa_nil))) (pa_cons (pe_call (E:=E0) GSt hr4 rfl DSt.mg DSt.F.kp DSt.b .nil pass0 (pa_cons (pv 6) (pa_cons (pe_callTy call_list_of (by rfl) T.list bt_list (pa_cons (pv 3) pa_nil)) pa_nil))) pa_nil))))
  (pss_cons (ps_if (PW.pt (pw_or (pt_not (pt_val (pe_call (E:=E0) GS hr10 rfl DS.mg DS.F.kp DS.b .nil pass0 (pa_cons (pv 10) (pa_cons (pe_lst (pa_cons (pv 7) (pa_cons (pv 8) pa_nil))) pa_nil))))) (pw_or1 (pt_cmpR (op_neL hr.units) (pv 6) (pv 5) (nomark _))))) (pss_one ps_never) pss_nil)
  (pss_one (ps_for PassesOwn.leaving rfl (pi_list (pv 10)) (pg_name (i:=11) scLaw.nd rfl (Or.inl rfl)) (pss_one (ps_expr (pe_bm PySem.F.plainAttrs_list PySem.F.slot_list_append PySem.F.type_list_append mt_append (pv 11) (pa_cons pe_int pa_nil)))))))))
  (pss_cons (ps_set (i:=12) scLaw.nd rfl (Or.inl rfl) (pe_ifExp (pt_cmpR (op_neL hr.units) (pv 7) (pe_lst pa_nil) (nomark _)) (pe_callB (call_maxL rfl) (by rfl) hmax bt_max (pa_cons (pe_comp (g:=gName 0) (own:=["_law_span"]) (js:=[]) (N':=["_law_span"]) (CompScope.of (osc:=defScope (top 26)) (N:=NW) rfl rfl ⟨rfl,by decide +kernel,by decide +kernel,by decide +kernel,rfl,by decide +kernel⟩) rfl (pi_list (pv 7)) (fun _ _ _ _ _=>(pg_name (i:=0) (show List.Nodup (["_law_span"]:List Str) by decide +kernel) rfl (Or.inl rfl) (Or.inr rfl))) (fun _ _ _ _ _=>pifs_nil) (fun _ _ _ _ _=>(pe_ix (r:=rIxT K) ix_tup (pv 0) pe_int (fun _ _=>rfl)))) pa_nil)) pe_non))
  (pss_cons (ps_if (pt_not (pt_val (pe_call (E:=E0) GS hr10 rfl DS.mg DS.F.kp DS.b .nil pass0 (pa_cons (pe_call (E:=E0) GDp hr5 rfl DDp.mg DDp.F.kp DDp.b .nil pass0 (pa_cons (pv 6) (pa_cons (pe_callTy call_list_of (by rfl) T.list bt_list (pa_cons (pv 3) pa_nil)) pa_nil))) (pa_cons (pv 12) pa_nil))))) (pss_one ps_never) pss_nil)
  (pss_cons (ps_set (i:=8) scLaw.nd rfl (Or.inl rfl) (pe_lst (pa_cons (pe_lst (pa_cons (pe_tup (pa_cons pe_str (pa_cons pe_str pa_nil))) pa_nil)) (pa_cons (pe_lst (pa_cons (pe_tup (pa_cons pe_str (pa_cons pe_str pa_nil))) pa_nil)) (pa_cons (pe_lst (pa_cons (pe_tup (pa_cons pe_str (pa_cons pe_str pa_nil))) pa_nil)) (pa_cons (pe_by (t':=tL1 K 3) (pe_callTy call_list_of (by rfl) T.list bt_list (pa_cons (pe_slice sl_tupW (pv 3) po_none (po_some pe_int)) pa_nil)) (fun σ H Q h=>let ⟨a,xs,e,sq,k⟩:=h;⟨_,e,_,rfl,a,xs,rfl,sq,fun w=>⟨a,xs,rfl,.inr sq,fun l hl=>k l _ (Same.new hl) (by rw [upd_same,← cut1 xs,w])⟩,fun p hp=>⟨p,_,rfl,.inr (SqT.of upd_same),fun l hl=>k l _ ((Same.new hp).trans (Same.new hl)) (by rw [upd_same,cut1 xs])⟩⟩)) (pa_cons (pe_lst (pa_cons (pe_tup (pa_cons pe_str (pa_cons pe_str pa_nil))) pa_nil)) pa_nil)))))))
  (pss_cons (ps_set (i:=13) scLaw.nd rfl (Or.inr rfl) (pe_op op_cat (pe_callTy call_list_of (by rfl) T.list bt_list (pa_cons (pv 3) pa_nil)) (pe_call (E:=E0) GO hr2 rfl DO.mg DO.F.kp DO.b .nil pass0 (pa_cons (pv 1) (pa_cons (pv 8) pa_nil)))))
  (pss_cons (ps_set (i:=14) scLaw.nd rfl (Or.inl rfl) (pe_lst (pa_cons (pe_lam CT rfl rfl) pa_nil)))
  (pss_cons (ps_expr (pe_bm PySem.F.plainAttrs_list PySem.F.slot_list_append PySem.F.type_list_append mt_append (pv 14) (pa_cons (pe_lam CT rfl rfl) pa_nil)))
  (pss_cons (ps_expr (pe_bm PySem.F.plainAttrs_list PySem.F.slot_list_append PySem.F.type_list_append mt_append (pv 14) (pa_cons (pe_lam CT rfl rfl) pa_nil)))
  (pss_cons (ps_set (i:=15) scLaw.nd rfl (Or.inl rfl) (pe_ifExp (pt_cmpR (op_neL hr.units) (pv 13) (pe_callTy call_list_of (by rfl) T.list bt_list (pa_cons (pv 3) pa_nil)) (nomark _)) pe_str pe_str))
  (pss_one (ps_if (pt_cmpR (op_neL hr.units) (pe_compI (g:=gName 0) (tf:=fun σ=>tOp (rIxL K) (fun σ1 H1 Q1=>tCons (tVar 0) tNil σ1 H1 fun vs H2=>rAsk3 K qL (lclo s) ((mg "__name__").getD .none) σ vs H2 Q1) (tC (.int 0))) (own:=["_law_ask_here"]) (js:=[]) (N':=["_law_ask_here"]) (CompScope.of (osc:=defScope (top 26)) (N:=NW) rfl rfl ⟨rfl,by decide +kernel,by decide +kernel,by decide +kernel,rfl,by decide +kernel⟩) rfl (pi_list (pv 14)) (fun _ _ _ _ _=>(pg_name (i:=0) (show List.Nodup (["_law_ask_here"]:List Str) by decide +kernel) rfl (Or.inl rfl) (Or.inr rfl))) (fun _ _ _ _ _=>pifs_nil) (fun pins σ cl C s₀ H₀ ex I hf=>pe_ix (r:=rIxL K) ix_list (pe_callS (E:=E0) (r:=fun _ vs H1 Q1=>rAsk3 K qL (lclo s) ((mg "__name__").getD .none) σ vs H1 Q1) GA hr10 (by rfl) hA kA bA pass0 (fun pins' σ' H' s' vs Q' J h=>ask3 h1 h1N (fun _=>rfl) h3 rfl rfl rfl GX1 hX1 kX1 bX1 GX2 hX2 kX2 bX2 GX3 hX3 kX3 bX3 BP I hf J h) (pa_cons (pv 0) pa_nil)) pe_int (fun _ _=>rfl))) (pe_lst (pa_cons (pv 15) (pa_cons (pv 15) (pa_cons (pv 15) pa_nil)))) (nomark _)) (pss_one ps_never) pss_nil))))))))))))))))
  (pss_one (ps_ret pe_bl)))),?_⟩
    have big:1000≤sizeLine:=by decide
    have z1:1≤sizeLine:=by decide
    have z2:2≤sizeLine:=by decide
    have z3:3≤sizeLine:=by decide
    have z5:5≤sizeLine:=by decide
    have q1m:lPos lam1∈lps:=List.mem_cons_self ..
    have q2m:lPos lam2∈lps:=List.mem_cons_of_mem _ (List.mem_cons_self ..)
    have q3m:lPos lam3∈lps:=List.mem_cons_of_mem _ (List.mem_cons_of_mem _ (List.mem_cons_self ..))
    refine ⟨_,rfl,sa,ns,rfl,hS,hlen,fun p dc H0 D0 s0 _=>?_⟩
    have tb0:TabI H0 Tt qL lps:=⟨tbs,s0 _ _ hTb,tri,fun lp m=>.inl (cn lp m)⟩
    refine ⟨3,rfl,by decide,by decide,for_range (n:=3) (fun i σ H'=>(∃ u2 u3 u4 u5 u6 u7 u8 u9 u10 u11 u12 u13 u14 u15,σ=[some (.ref sa),some (.ref p),u2,u3,u4,u5,u6,u7,u8,u9,u10,u11,u12,u13,u14,u15])∧Dr H' p dc∧TabI H' Tt qL lps) ⟨⟨none,none,none,none,none,none,none,none,none,none,none,none,none,none,rfl⟩,D0,tb0⟩ ?_ ?_⟩
    · rintro i σ H1 hi ⟨⟨u2,u3,u4,u5,u6,u7,u8,u9,u10,u11,u12,u13,u14,u15,rfl⟩,D1,tb1⟩
      try dsimp only [gName]
      refine ⟨_,rfl,p,dc,rfl,D1,fun t tp q ys xs ps H2 ht hq hqn htp pe ok y7 D2 b2=>?_⟩
      have tb2:=tab_but tb1 D1 b2
      have pl:=pe.len
      have pk:=ok.le
      refine ⟨t,_,rfl,SqT.of ht,rfl,_,_,rfl,_,_,rfl,rfl,?_⟩
      have c1:CMul 2 (xs.length:Int):=.inl ⟨by decide,by decide⟩
      try dsimp only [gName]
      refine ⟨_,rfl,_,rfl,_,rfl,tp,xs,rfl,.inr (SqT.of htp),_,_,rfl,rfl,c1,_,_,rfl,rfl,_,rfl,q,_,rfl,SqL.of hq,fun qs hqs=>?_⟩
      have yl:(ys.map V.str).length=7:=by rw [List.length_map];exact y7
      have ec:cutV (ys.map V.str) none (some (2*(xs.length:Int)+1))=(ys.take (2*xs.length+1)).map V.str:=by
        rw [show (2*(xs.length:Int)+1)=((2*xs.length+1:Nat):Int) by omega,cut_pre (by rw [yl];omega),← List.map_take]
      have s3:Same H2 (upd H2 qs (.lst (cutV (ys.map V.str) none (some (2*(xs.length:Int)+1))))):=Same.new hqs
      have h3:(upd H2 qs (.lst (cutV (ys.map V.str) none (some (2*(xs.length:Int)+1))))) qs=some (.lst ((ys.take (2*xs.length+1)).map V.str)):=by rw [upd_same,ec]
      generalize upd H2 qs (.lst (cutV (ys.map V.str) none (some (2*(xs.length:Int)+1))))=H3 at s3 h3 ⊢
      have D3:=D2.mono s3
      have tb3:=tb2.same s3
      have npt:tp≠p:=D2.ne htp (by intro _ z;cases z)
      refine ⟨p,dc,qs,ys.take (2*xs.length+1),rfl,D3,h3,(D2.neN hqs).symm,fun z=>?_,by rw [List.length_take];omega,fun lt ts ths H4 hltn htl ta tl rv D4 b4=>?_⟩
      · have:=congrArg List.length z
        rw [List.length_take,y7] at this
        simp at this
      have nlt:lt≠dc:=fun z=>by
        obtain ⟨w,hw⟩:=D3.cell
        rw [z,hw] at hltn
        cases hltn
      have L4:LT K Tt p dc tp lt xs ts ps ths H4:=by
        obtain ⟨kvs,hp⟩:=D3.dk
        exact ⟨D4,tab_but tb3 D3 b4,b4 _ _ (s3 _ _ htp) npt,pe.map fun _ _ z=>(z.same s3).tk fun a w q=>b4.tup hp q,htl,ta⟩
      clear s3 h3 D3 b4 b2 D2 D1 D4 tb1 tb2 tb3 hqs ec yl hq hqn ht htp pe c1 hltn htl ta npt
      have wl:=run_len ps ths
      try dsimp only [gName]
      refine ⟨_,rfl,lt,ts,rfl,.inl (SqL.of L4.lt),fun hd hhd=>?_⟩
      have L5:=L4.same (Same.new (o:=.lst ts) hhd)
      have h5:(upd H4 hd (.lst ts)) hd=some (.lst ts):=upd_same
      generalize upd H4 hd (.lst ts)=H5 at L5 h5 ⊢
      try dsimp only [gName]
      refine ⟨_,rfl,_,rfl,lt,tp,ts,xs,ths,ps,rfl,SqL.of L5.lt,L5.ta,tl,SqT.of L5.tp,L5.pe,ok,fun t6 lf ll fs H6 s6 ht6 hf sp hl=>?_⟩
      have L6:=L5.same s6
      have h6:=s6 _ _ h5
      refine ⟨t6,_,rfl,SqT.of ht6,rfl,_,_,rfl,_,_,rfl,rfl,?_⟩
      generalize hz:runS ps ths=z at wl sp hl
      have f40:z.fo.length≤40:=Nat.le_trans wl.fl tl
      have lll:z.lo.length≤40:=Nat.le_trans wl.ll tl
      have fl:=sp.len
      clear L4 L5 h5 hhd s6 ht6
      try dsimp only [gName]
      refine seq_by (fun σ' H'=>(∃ v9 v10 v11,σ'=[some (.ref sa),some (.ref p),some (.int (0+i)),some (.ref tp),some (.ref q),some (.ref lt),some (.ref hd),some (.ref lf),some (.ref ll),v9,v10,v11,u12,u13,u14,u15])∧Same H6 H') ?nx1 fun N hN=>?st1
      case st1=>
        refine ⟨2,rfl,by decide,by decide,for_range (n:=2) (fun j σ' H'=>(∃ v9 v10 v11,σ'=[some (.ref sa),some (.ref p),some (.int (0+i)),some (.ref tp),some (.ref q),some (.ref lt),some (.ref hd),some (.ref lf),some (.ref ll),v9,v10,v11,u12,u13,u14,u15])∧Same H6 H') ⟨⟨_,_,_,rfl⟩,Same.refl _⟩ ?_ ?_⟩
        · rintro j σ' H7 hj ⟨⟨v9,v10,v11,rfl⟩,s7⟩
          have L7:=L6.same s7
          try dsimp only [gName]
          refine ⟨_,rfl,_,rfl,tp,xs,rfl,.inr (SqT.of L7.tp),fun q1 hq1=>?_⟩
          have s8:Same H7 (upd H7 q1 (.lst xs)):=Same.new hq1
          have h8:(upd H7 q1 (.lst xs)) q1=some (.lst xs):=upd_same
          generalize upd H7 q1 (.lst xs)=H8 at s8 h8 ⊢
          have L8:=L7.same s8
          have S8:=s7.trans s8
          refine ⟨ths,ps,⟨hd,q1,ts,xs,rfl,SqL.of (S8 _ _ h6),L8.ta,tl,SqL.of h8,L8.pe,ok⟩,fun a1 ys1 H9 s9 hn1 ha1 sp1=>?_⟩
          rw [hz] at sp1
          have L9:=L8.same s9
          have S9:=S8.trans s9
          refine ⟨_,rfl,_,rfl,tp,xs,rfl,.inr (SqT.of L9.tp),fun q2 hq2=>?_⟩
          have s10:Same H9 (upd H9 q2 (.lst xs)):=Same.new hq2
          have h10:(upd H9 q2 (.lst xs)) q2=some (.lst xs):=upd_same
          generalize upd H9 q2 (.lst xs)=H10 at s10 h10 ⊢
          have L10:=L9.same s10
          have S10:=S9.trans s10
          refine ⟨ths,ps,⟨hd,q2,ts,xs,rfl,SqL.of (S10 _ _ h6),L10.ta,tl,SqL.of h10,L10.pe,ok⟩,fun a2 H11 s11 hn2 ha2=>⟨z2,fun qa hqa=>?_⟩⟩
          rw [hz] at ha2
          have s12:Same H11 (upd H11 qa (.lst [.ref a1,.ref a2])):=Same.new hqa
          have hqa12:(upd H11 qa (.lst [.ref a1,.ref a2])) qa=some (.lst [.ref a1,.ref a2]):=upd_same
          have ha1':=s12 _ _ (s11 _ _ (s10 _ _ ha1))
          have ha2':=s12 _ _ ha2
          have ne1:qa≠a1:=fun z=>by rw [z] at hqa;rw [s11 _ _ (s10 _ _ ha1)] at hqa;cases hqa
          have ne2:qa≠a2:=fun z=>by rw [z] at hqa;rw [ha2] at hqa;cases hqa
          have ne12:a1≠a2:=fun z=>by have e:=s10 _ _ ha1;rw [z,hn2] at e;cases e
          have fr1:H6 a1=none:=none_back S8 hn1
          have fr2:H6 a2=none:=none_back S10 hn2
          have r1:=sps_rep (sp1.map fun _ _ z=>z.same (s10.trans (s11.trans s12)))
          have x1:=sp1.len
          have S12:=S10.trans (s11.trans s12)
          generalize upd H11 qa (.lst [.ref a1,.ref a2])=H12 at s12 hqa12 ha1' ha2' r1 S12 ⊢
          clear s7 L7 s8 h8 L8 S8 s9 L9 S9 s10 h10 L10 S10 s11 s12 hq1 hq2 hqa hn1 hn2 ha1 ha2 sp1
          have dep:pdDep (.list [.list (z.fo.map spD),.list (z.lo.map PyData.int)])≤9∧pdMax (.list [.list (z.fo.map spD),.list (z.lo.map PyData.int)])≤100000:=by
            have h1:=sp_dep z.fo
            have h2:=sp_max z.fo
            have h3:=int_max z.lo
            have h4:=dep_int z.lo
            constructor
            · simp only [pdDep,pdDeps]
              omega
            · simp only [pdMax,pdMaxs,List.length_cons,List.length_nil,List.length_map]
              omega
          try dsimp only [gName]
          refine ⟨_,rfl,_,rfl,_,rfl,z2,fun qb hqb=>?_⟩
          have s13:Same H12 (upd H12 qb (.lst [.ref lf,.ref ll])):=Same.new hqb
          have S13:=S12.trans s13
          refine ⟨.ref qa,.ref qb,.list [.list (z.fo.map spD),.list (z.lo.map PyData.int)],rfl,.lst (SqL.of (s13 _ _ hqa12)) (.cons (.lst (SqL.of (s13 _ _ ha1')) (r1.same s13)) (.cons (.lst (SqL.of (s13 _ _ ha2')) (reps_int _)) .nil)),.lst (SqL.of upd_same) (.cons (.lst (SqL.of (S13 _ _ hf)) (sps_rep (sp.map fun _ _ z=>z.same S13))) (.cons (.lst (SqL.of (S13 _ _ hl)) (reps_int _)) .nil)),dep.1,dep.2,fun H14 s14=>⟨true,rfl,ifF rfl ?_⟩⟩
          have S14:=S13.trans s14
          have s1214:=s13.trans s14
          have L14:=L6.same S14
          refine ⟨_,rfl,_,rfl,ths.map thD,ths.map thD,.lst (SqL.of (S14 _ _ h6)) L14.ta.rep,.lst (SqL.of L14.lt) L14.ta.rep,by have:=ths_dep ths;omega,_,rfl,ifF (by rw [eq_ths];rfl) ?_⟩
          clear L14 s13 S13 s14 hqb dep
          try dsimp only [tNext]
          refine ⟨_,rfl,qa,rfl,⟨_,SqL.of (s1214 _ _ hqa12)⟩,?_⟩
          refine for_list (K:=K) (a:=qa) (xs:=[.ref a1,.ref a2]) (fun m σ' H'=>(∃ w11,σ'=[some (.ref sa),some (.ref p),some (.int (0+i)),some (.ref tp),some (.ref q),some (.ref lt),some (.ref hd),some (.ref lf),some (.ref ll),some (.int (0+j)),some (.ref qa),w11,u12,u13,u14,u15])∧Same H6 H'∧H' qa=some (.lst [.ref a1,.ref a2])∧(∃ y1,H' a1=some (.lst y1)∧y1.length≤40+m)∧(∃ y2,H' a2=some (.lst y2)∧y2.length≤40+m)) ⟨⟨_,rfl⟩,S14,s1214 _ _ hqa12,⟨_,s1214 _ _ ha1',by omega⟩,⟨_,s1214 _ _ ha2',by rw [List.length_map];omega⟩⟩ (fun m σ' H' _ ⟨_,_,h,_⟩=>SqL.of h) ?_ ?_
          · clear S14 s1214 hqa12 ha1' ha2' r1 S12
            rintro m x σ' H' hx ⟨⟨w11,rfl⟩,sm,hq,⟨y1,h1,l1⟩,⟨y2,h2,l2⟩⟩
            match m,hx with
            | 0,hx=>
              have hx:V.ref a1=x:=by simpa using hx
              subst hx
              refine ⟨_,rfl,.inl ⟨rfl,_,SqL.of h1⟩,a1,y1,_,rfl,rfl,h1,by omega,?_⟩
              refine ⟨⟨_,rfl⟩,fun b u e=>by rw [upd_ne (ne_of_none e fr1)];exact sm _ _ e,by rw [upd_ne ne1];exact hq,⟨_,upd_same,?_⟩,⟨y2,by rw [upd_ne ne12.symm];exact h2,by omega⟩⟩
              simp
              omega
            | 1,hx=>
              have hx:V.ref a2=x:=by simpa using hx
              subst hx
              refine ⟨_,rfl,.inl ⟨rfl,_,SqL.of h2⟩,a2,y2,_,rfl,rfl,h2,by omega,?_⟩
              refine ⟨⟨_,rfl⟩,fun b u e=>by rw [upd_ne (ne_of_none e fr2)];exact sm _ _ e,by rw [upd_ne ne2];exact hq,⟨y1,by rw [upd_ne ne12];exact h1,by omega⟩,⟨_,upd_same,?_⟩⟩
              simp
              omega
            |m+2,hx=>simp at hx
          · rintro σ' H' ⟨⟨w11,rfl⟩,sm,_⟩
            exact ⟨⟨_,_,_,rfl⟩,sm⟩
        · rintro σ' H' ⟨⟨v9,v10,v11,rfl⟩,sm⟩
          exact hN _ _ ⟨⟨_,_,_,rfl⟩,sm⟩
      case nx1=>
      rintro σ' H7 ⟨⟨v9,v10,v11,rfl⟩,s7⟩
      try dsimp only [gName]
      refine seq_by (fun σ' H'=>∃ dv,σ'=[some (.ref sa),some (.ref p),some (.int (0+i)),some (.ref tp),some (.ref q),some (.ref lt),some (.ref hd),some (.ref lf),some (.ref ll),v9,v10,v11,some dv,u13,u14,u15]∧Same H6 H'∧((z.fo=[]∧dv=.non)∨∃ b,dv=.int b∧z.fo≠[]∧b∈deI z.fo∧∀ x∈deI z.fo,x≤b)) ?nx2 fun N hN=>?st2
      case st2=>
        refine ⟨_,rfl,(show 0≤sizeLine by decide),fun l0 hl0=>?_⟩
        have s8:Same H7 (upd H7 l0 (.lst [])):=Same.new hl0
        have h8:(upd H7 l0 (.lst [])) l0=some (.lst []):=upd_same
        generalize upd H7 l0 (.lst [])=H8 at s8 h8 ⊢
        have S8:=s7.trans s8
        refine ⟨z.fo.map spD,[],.lst (SqL.of (S8 _ _ hf)) (sps_rep (sp.map fun _ _ z=>z.same S8)),.lst (SqL.of h8) .nil,Nat.le_trans (sp_dep _) (by decide),_,rfl,?_⟩
        rcases List.eq_nil_or_concat z.fo with e0|⟨r0,x0,e0⟩
        · refine ifF (by rw [e0];rfl) ?_
          exact hN _ _ ⟨_,rfl,S8,.inl ⟨e0,rfl⟩⟩
        · have ne:z.fo≠[]:=fun z=>by rw [z] at e0;simp at e0
          have pq:(!pdEqs (z.fo.map spD) [])=true:=by
            cases hz':z.fo with
            |nil=>exact absurd hz' ne
            |cons _ _=>simp [pdEqs]
          refine ifT pq ?_
          refine ⟨_,rfl,lf,rfl,⟨fs,SqL.of (S8 _ _ hf)⟩,?_⟩
          refine comp_fn (σr:=[]) (walk_l (SqL.of (S8 _ _ hf))) (sp.map fun _ _ z=>z.same S8) (by omega) (fun _=>true) (fun s=>.int s.de) (fun _ _ _=>yes_ev) ?_ ?_
          · rintro x s1 ⟨a1,rfl,sq1⟩ _ Q' q'
            exact ⟨_,rfl,a1,_,_,_,rfl,rfl,sq1,atI_nat (j:=3) rfl,q'⟩
          rw [filter_true]
          refine ⟨by rw [List.length_map];omega,fun lm hlm=>?_⟩
          have ed:z.fo.map (fun s=>V.int (s.de:Int))=(deI z.fo).map V.int:=by unfold deI;rw [List.map_map];rfl
          have sm:=Same.new (o:=.lst (z.fo.map (fun s=>V.int (s.de:Int)))) hlm
          have hm:(upd H8 lm (.lst (z.fo.map (fun s=>V.int (s.de:Int))))) lm=some (.lst ((deI z.fo).map V.int)):=by rw [upd_same,ed]
          refine ⟨lm,deI z.fo,rfl,SqL.of hm,(fun e=>ne (List.map_eq_nil_iff.mp e)),fun b hb hx=>?_⟩
          exact hN _ _ ⟨_,rfl,S8.trans sm,.inr ⟨b,rfl,ne,hb,hx⟩⟩
      case nx2=>
      clear s7
      rintro σ' H8 ⟨dv,rfl,s8,hdv⟩
      try dsimp only [gName]
      refine seq_by (fun σ' H'=>σ'=[some (.ref sa),some (.ref p),some (.int (0+i)),some (.ref tp),some (.ref q),some (.ref lt),some (.ref hd),some (.ref lf),some (.ref ll),v9,v10,v11,some dv,u13,u14,u15]∧Same H6 H') ?nx3 fun N hN=>?st3
      case st3=>
        have L8:=L6.same s8
        refine ⟨_,rfl,_,rfl,tp,xs,rfl,.inr (SqT.of L8.tp),fun q1 hq1=>?_⟩
        have s9:Same H8 (upd H8 q1 (.lst xs)):=Same.new hq1
        have h9:(upd H8 q1 (.lst xs)) q1=some (.lst xs):=upd_same
        generalize upd H8 q1 (.lst xs)=H9 at s9 h9 ⊢
        have S9:=s8.trans s9
        have L9:=L6.same S9
        refine ⟨ths,ps,⟨hd,q1,ts,xs,rfl,SqL.of (S9 _ _ h6),L9.ta,tl,SqL.of h9,L9.pe,ok⟩,?_,?_⟩
        · rw [hz]
          rintro e0 H' s'
          rcases hdv with ⟨_,rfl⟩|⟨b,rfl,ne,_⟩
          · exact ⟨_,rfl,.non,.non,.none,rfl,.non,.non,by simp [pdDep],by simp [pdMax],fun H'' s''=>⟨true,rfl,ifF rfl (hN _ _ ⟨rfl,S9.trans (s'.trans s'')⟩)⟩⟩
          · exact absurd e0 ne
        · rw [hz]
          rintro b' hb' hx' H' s'
          rcases hdv with ⟨e0,_⟩|⟨b,rfl,ne,hb,hx⟩
          · rw [e0] at hb';cases hb'
          · have eb:b'=b:=Int.le_antisymm (hx b' hb') (hx' b hb)
            subst eb
            exact ⟨_,rfl,.int b',.int b',.int b',rfl,.int _,.int _,by simp [pdDep],by simp [pdMax],fun H'' s''=>⟨true,rfl,ifF rfl (hN _ _ ⟨rfl,S9.trans (s'.trans s'')⟩)⟩⟩
      case nx3=>
      clear hdv s8
      rintro σ' H8 ⟨rfl,s8⟩
      have L8:=L6.same s8
      clear s8 L6 h6 hf sp hl f40 lll fl wl hz
      try dsimp only [gName]
      refine seq_by (fun σ' H'=>∃ lo oys,σ'=[some (.ref sa),some (.ref p),some (.int (0+i)),some (.ref tp),some (.ref q),some (.ref lt),some (.ref hd),some (.ref lf),some (.ref lo),v9,v10,v11,some dv,u13,u14,u15]∧LT K Tt p dc tp lt xs ts ps ths H'∧H' lo=some (.lst oys)∧oys.length=5∧∀ x∈oys,∃ b ws qs,x=.ref b∧H' b=some (.lst ws)∧PrsAt K H' ws qs∧Odd ps qs) ?nx4 fun N hN=>?st4
      case st4=>
        refine ⟨z2,fun t1 a1=>⟨z1,fun l1 b1=>⟨z2,fun t2 a2=>⟨z1,fun l2 b2=>⟨z2,fun t3 a3=>⟨z1,fun l3 b3=>?_⟩⟩⟩⟩⟩⟩
        have e1:=Same.new (o:=.tup [.str "ab",.str "ab"]) a1
        have f1:=Same.new (o:=.lst [.ref t1]) b1
        have e2:=Same.new (o:=.tup [.str "",.str "b"]) a2
        have f2:=Same.new (o:=.lst [.ref t2]) b2
        have e3:=Same.new (o:=.tup [.str "A",.str "b"]) a3
        have f3:=Same.new (o:=.lst [.ref t3]) b3
        have T2:=e2.trans (f2.trans (e3.trans f3))
        have T1:=e1.trans (f1.trans T2)
        refine ⟨tp,xs,rfl,SqT.of (T1 _ _ L8.tp),fun l4 H' s' h4=>⟨z2,fun t5 a5=>⟨z1,fun l5 b5=>⟨z5,fun lo hlo=>?_⟩⟩⟩⟩
        have e5:=Same.new (o:=.tup [.str "abcdefghi",.str "b"]) a5
        have f5:=Same.new (o:=.lst [.ref t5]) b5
        have g5:=Same.new (o:=.lst [.ref l1,.ref l2,.ref l3,.ref l4,.ref l5]) hlo
        have U5:=f5.trans g5
        have U4:=e5.trans U5
        have U3:=s'.trans U4
        have LL:=L8.same (T1.trans U3)
        have sm:∀ x:Str,x∈(["ab","","b","A","abcdefghi"]:List Str)→Asc x∧x.length≤20:=by
          have:∀ x∈(["ab","","b","A","abcdefghi"]:List Str),(x.cps.all (·<128)=true)∧x.length≤20:=by decide +kernel
          exact this
        have o1:Odd ps [("ab","ab")]:=odd_one ok (sm _ (by simp)) (sm _ (by simp)) ⟨1,"ab",rfl,.inr (by simp)⟩
        have o2:Odd ps [("","b")]:=odd_one ok (sm _ (by simp)) (sm _ (by simp)) ⟨0,"",rfl,.inl (by decide +kernel)⟩
        have o3:Odd ps [("A","b")]:=odd_one ok (sm _ (by simp)) (sm _ (by simp)) ⟨0,"A",rfl,.inl (by decide +kernel)⟩
        have o5:Odd ps [("abcdefghi","b")]:=odd_one ok (sm _ (by simp)) (sm _ (by simp)) ⟨0,"abcdefghi",rfl,.inl (by decide +kernel)⟩
        refine hN _ _ ⟨lo,_,rfl,LL,upd_same,rfl,?_⟩
        intro x hx
        simp only [List.mem_cons,List.not_mem_nil,or_false] at hx
        rcases hx with rfl|rfl|rfl|rfl|rfl
        · exact ⟨l1,_,_,rfl,U3 _ _ (T2 _ _ upd_same),.cons ⟨t1,rfl,SqT.of (U3 _ _ (T2 _ _ (f1 _ _ upd_same)))⟩ .nil,o1⟩
        · exact ⟨l2,_,_,rfl,U3 _ _ ((e3.trans f3) _ _ upd_same),.cons ⟨t2,rfl,SqT.of (U3 _ _ ((e3.trans f3) _ _ (f2 _ _ upd_same)))⟩ .nil,o2⟩
        · exact ⟨l3,_,_,rfl,U3 _ _ upd_same,.cons ⟨t3,rfl,SqT.of (U3 _ _ (f3 _ _ upd_same))⟩ .nil,o3⟩
        · exact ⟨l4,_,_,rfl,U4 _ _ h4,LL.pe.take 1,odd_first ok⟩
        · exact ⟨l5,_,_,rfl,g5 _ _ upd_same,.cons ⟨t5,rfl,SqT.of (U5 _ _ upd_same)⟩ .nil,o5⟩
      case nx4=>
      clear L8
      rintro σ' H9 ⟨lo,oys,rfl,L9,hlo,ol,hod⟩
      try dsimp only [gName]
      refine seq_by (fun σ' H'=>∃ lb ws qs,σ'=[some (.ref sa),some (.ref p),some (.int (0+i)),some (.ref tp),some (.ref q),some (.ref lt),some (.ref hd),some (.ref lf),some (.ref lo),v9,v10,v11,some dv,some (.ref lb),u14,u15]∧LV K Tt p dc tp lt lb xs ts ws ps (ps++qs) ths H'∧Odd ps qs) ?nx5 fun N hN=>?st5
      case st5=>
        refine ⟨_,rfl,tp,xs,rfl,.inr (SqT.of L9.tp),fun l0 hl0=>?_⟩
        have s10:Same H9 (upd H9 l0 (.lst xs)):=Same.new hl0
        have h10:(upd H9 l0 (.lst xs)) l0=some (.lst xs):=upd_same
        generalize upd H9 l0 (.lst xs)=H10 at s10 h10 ⊢
        have L10:=L9.same s10
        refine ⟨_,rfl,_,rfl,p,dc,lo,oys,rfl,L10.D,SqL.of (s10 _ _ hlo),(fun z=>by rw [z] at ol;cases ol),by omega,fun x H11 hx D11 b11=>?_⟩
        obtain ⟨b,ws,qs,rfl,hb,pq,od⟩:=hod x hx
        have L11:=L10.but D11 b11
        obtain ⟨kvs,hp⟩:=L10.D.dk
        have h11:=b11 _ _ h10 (L10.D.ne h10 (by intro _ z;cases z))
        have hb10:=s10 _ _ hb
        have hb11:=b11 _ _ hb10 (L10.D.ne hb10 (by intro _ z;cases z))
        have pq11:PrsAt K H11 ws qs:=pq.map fun _ _ z=>(z.same s10).tk fun a w q=>b11.tup hp q
        have pl:=pq11.len
        have ql:qs.length≤6:=by
          rcases od with ⟨_,rfl⟩|⟨_,tx,_⟩
          · simp
          · have:=tx.le
            rw [List.length_append] at this
            omega
        refine ⟨l0,b,xs,ws,rfl,rfl,h11,hb11,by omega,fun lb hlb=>?_⟩
        have s12:=Same.new (o:=.lst (xs++ws)) hlb
        exact hN _ _ ⟨lb,xs++ws,qs,rfl,⟨L11.same s12,upd_same,(pq11.app L11.pe).map fun _ _ z=>z.same s12⟩,od⟩
      case nx5=>
      clear L9 hlo ol hod
      rintro σ' H9 ⟨lb,ws,qs,rfl,L9,od⟩
      try dsimp only [gName]
      refine seq_by (fun σ' H'=>∃ la f1,σ'=[some (.ref sa),some (.ref p),some (.int (0+i)),some (.ref tp),some (.ref q),some (.ref lt),some (.ref hd),some (.ref lf),some (.ref lo),v9,v10,v11,some dv,some (.ref lb),some (.ref la),u15]∧LV K Tt p dc tp lt lb xs ts ws ps (ps++qs) ths H'∧H' la=some (.lst [.ref f1])∧la≠lt∧la≠lb∧la≠dc∧LamAt lam1 (lclo s) ((mg "__name__").getD .none) f1 H') ?nx6 fun N hN=>?st6
      case st6=>
        refine ⟨L9.t.tb.tab q1m,fun c1 H10 lm f1 ctv hf1=>⟨z1,fun la hla=>?_⟩⟩
        have k10:=lam_kp (o:=lamO f1 (kla_obj "<lambda>" qL (lParams lam1) (lBody lam1) (lScope lam1) (lclo s) ((mg "__name__").getD .none) c1 ctv)) lm hf1
        have L10:=L9.kp k10 (lam_tab L9.t.tb lm hf1)
        have s11:=Same.new (o:=.lst [.ref f1]) hla
        refine hN _ _ ⟨la,f1,rfl,L10.same s11,upd_same,fun z=>?_,fun z=>?_,fun z=>?_,(lam_at lm hf1 rfl).kp (Kp.same s11)⟩
        · have e:=L10.t.lt
          rw [← z] at e
          have e:=hla.symm.trans e
          cases e
        · have e:=L10.lb
          rw [← z] at e
          have e:=hla.symm.trans e
          cases e
        · obtain ⟨w,e⟩:=L10.t.D.cell
          rw [← z] at e
          have e:=hla.symm.trans e
          cases e
      case nx6=>
      clear L9
      rintro σ' H10 ⟨la,f1,rfl,L10,h10,n1,n2,n3,m1⟩
      try dsimp only [gName]
      refine seq_by (fun σ' H'=>∃ f2,σ'=[some (.ref sa),some (.ref p),some (.int (0+i)),some (.ref tp),some (.ref q),some (.ref lt),some (.ref hd),some (.ref lf),some (.ref lo),v9,v10,v11,some dv,some (.ref lb),some (.ref la),u15]∧LV K Tt p dc tp lt lb xs ts ws ps (ps++qs) ths H'∧H' la=some (.lst [.ref f1,.ref f2])∧LamAt lam1 (lclo s) ((mg "__name__").getD .none) f1 H'∧LamAt lam2 (lclo s) ((mg "__name__").getD .none) f2 H') ?nx7 fun N hN=>?st7
      case st7=>
        refine ⟨_,rfl,.inl ⟨rfl,_,SqL.of h10⟩,L10.t.tb.tab q2m,fun c1 H11 lm f2 ctv hf2=>?_⟩
        have k11:=lam_kp (o:=lamO f2 (kla_obj "<lambda>" qL (lParams lam2) (lBody lam2) (lScope lam2) (lclo s) ((mg "__name__").getD .none) c1 ctv)) lm hf2
        have L11:=L10.kp k11 (lam_tab L10.t.tb lm hf2)
        have h11:=k11 _ _ h10 (by intro _ z;cases z)
        have m2:=lam_at (L:=lam2) (cl:=lclo s) (pm:=(mg "__name__").getD .none) (ctv:=ctv) lm hf2 rfl
        refine ⟨la,[.ref f1],_,rfl,rfl,h11,(show 1<sizeLine by decide),?_⟩
        exact hN _ _ ⟨f2,rfl,L11.put h11 n1 n2 n3,upd_same,(m1.kp k11).put h11,m2.put h11⟩
      case nx7=>
      clear L10 h10 m1
      rintro σ' H10 ⟨f2,rfl,L10,h10,m1,m2⟩
      try dsimp only [gName]
      refine seq_by (fun σ' H'=>∃ f3,σ'=[some (.ref sa),some (.ref p),some (.int (0+i)),some (.ref tp),some (.ref q),some (.ref lt),some (.ref hd),some (.ref lf),some (.ref lo),v9,v10,v11,some dv,some (.ref lb),some (.ref la),u15]∧LV K Tt p dc tp lt lb xs ts ws ps (ps++qs) ths H'∧H' la=some (.lst [.ref f1,.ref f2,.ref f3])∧LamAt lam1 (lclo s) ((mg "__name__").getD .none) f1 H'∧LamAt lam2 (lclo s) ((mg "__name__").getD .none) f2 H'∧LamAt lam3 (lclo s) ((mg "__name__").getD .none) f3 H') ?nx8 fun N hN=>?st8
      case st8=>
        refine ⟨_,rfl,.inl ⟨rfl,_,SqL.of h10⟩,L10.t.tb.tab q3m,fun c1 H11 lm f3 ctv hf3=>?_⟩
        have k11:=lam_kp (o:=lamO f3 (kla_obj "<lambda>" qL (lParams lam3) (lBody lam3) (lScope lam3) (lclo s) ((mg "__name__").getD .none) c1 ctv)) lm hf3
        have L11:=L10.kp k11 (lam_tab L10.t.tb lm hf3)
        have h11:=k11 _ _ h10 (by intro _ z;cases z)
        have m3:=lam_at (L:=lam3) (cl:=lclo s) (pm:=(mg "__name__").getD .none) (ctv:=ctv) lm hf3 rfl
        refine ⟨la,[.ref f1,.ref f2],_,rfl,rfl,h11,(show 2<sizeLine by decide),?_⟩
        exact hN _ _ ⟨f3,rfl,L11.put h11 n1 n2 n3,upd_same,(m1.kp k11).put h11,(m2.kp k11).put h11,m3.put h11⟩
      case nx8=>
      clear L10 h10 m1 m2
      rintro σ' H10 ⟨f3,rfl,L10,h10,m1,m2,m3⟩
      try dsimp only [gName]
      refine seq_by (fun σ' H'=>∃ du,σ'=[some (.ref sa),some (.ref p),some (.int (0+i)),some (.ref tp),some (.ref q),some (.ref lt),some (.ref hd),some (.ref lf),some (.ref lo),v9,v10,v11,some dv,some (.ref lb),some (.ref la),some (.str du)]∧Same H10 H'∧((ps=[]∧qs=[]∧du = "")∨(PrTx (ps++qs)∧BadN (namesP (ps++qs))∧du = "badpairs"))) ?nx9 fun N hN=>?st9
      case st9=>
        refine ⟨_,rfl,_,rfl,tp,xs,rfl,.inr (SqT.of L10.t.tp),fun q1 hq1=>?_⟩
        have s11:Same H10 (upd H10 q1 (.lst xs)):=Same.new hq1
        have h11:(upd H10 q1 (.lst xs)) q1=some (.lst xs):=upd_same
        generalize upd H10 q1 (.lst xs)=H11 at s11 h11 ⊢
        have L11:=L10.same s11
        refine ⟨(ps++qs).map prD,ps.map prD,.lst (SqL.of L11.lb) (prs_rep L11.pb),.lst (SqL.of h11) (prs_rep L11.t.pe),Nat.le_trans (prs_dep _) (by decide),_,rfl,?_⟩
        rcases od with ⟨e1,e2⟩|⟨e1,e2,e3⟩
        · refine ifF (by rw [e1,e2];rfl) (hN _ _ ⟨_,rfl,s11,.inl ⟨e1,e2,rfl⟩⟩)
        · refine ifT (by rw [prs_ne e1];rfl) (hN _ _ ⟨_,rfl,s11,.inr ⟨e2,e3,rfl⟩⟩)
      case nx9=>
      rintro σ' H11 ⟨du,rfl,s11,hdu⟩
      have L11:=L10.same s11
      have h11:=s11 _ _ h10
      have m1:=m1.kp (Kp.same s11)
      have m2:=m2.kp (Kp.same s11)
      have m3:=m3.kp (Kp.same s11)
      clear L10 h10 s11 od
      have one:∀ (L:Expr) (f:Addr),LamAt L (lclo s) ((mg "__name__").getD .none) f H11→∀ (H':Hp),Same H11 H'→∀ (σ1:St),σ1[5]?=some (some (.ref lt))→σ1[13]?=some (some (.ref lb))→∀ Q:VK,(∀ H'',Same H11 H''→Q (.str du) H'')→rAskL K L qL (lclo s) ((mg "__name__").getD .none) σ1 [.ref f] H' (fun x H2=>rIxL K x (.int 0) H2 Q):=by
        intro L f m H' s' σ1 h5 h13 Q q
        obtain ⟨c',ctv,hf,hc⟩:=m
        have L':=L11.same s'
        refine ⟨f,c',ctv,lt,lb,rfl,s' _ _ hf,s' _ _ hc,h5,h13,?_⟩
        rcases hdu with ⟨e1,e2,e3⟩|⟨tx,bd,e3⟩
        · refine .inl ⟨⟨ths,ps++qs,lt,lb,ts,ws,rfl,SqL.of L'.t.lt,L'.t.ta,tl,SqL.of L'.lb,L'.pb,?_⟩,fun v H'' s'' l hl=>?_⟩
          · rw [e2,List.append_nil];exact ok
          · refine ⟨l,_,_,_,rfl,rfl,SqL.of upd_same,atI_nat (j:=0) rfl,?_⟩
            rw [← e3]
            exact q _ (s'.trans (s''.trans (Same.new hl)))
        · refine .inr ⟨⟨.ref lt,lb,ws,ps++qs,rfl,SqL.of L'.lb,L'.pb,tx,bd⟩,fun H'' s'' l hl=>?_⟩
          refine ⟨l,_,_,_,rfl,rfl,SqL.of upd_same,atI_nat (j:=0) rfl,?_⟩
          rw [← e3]
          exact q _ (s'.trans (s''.trans (Same.new hl)))
      refine ⟨_,rfl,la,rfl,⟨_,SqL.of h11⟩,?_⟩
      refine comp_list (K:=K) (a:=la) (xs:=[.ref f1,.ref f2,.ref f3]) (fun j ys σ' H'=>Same H11 H'∧(∃ v,σ'=[v])∧ys=List.replicate j (V.str du)) z3 ⟨Same.refl _,⟨none,rfl⟩,rfl⟩ (fun j ys σ H' _ e=>SqL.of (e.1 _ _ h11)) ?_ ?_
      · rintro j x ys' σ' H' hj hy ⟨s',⟨v,rfl⟩,rfl⟩ N2 hN2
        try dsimp only [gName]
        match j,hj with
        | 0,hj=>
          have hx:V.ref f1=x:=by simpa using hj
          subst hx
          exact ⟨_,rfl,.inl (one lam1 f1 m1 H' s' _ rfl rfl _ fun H'' s''=>hN2 _ _ _ rfl ⟨s'',⟨_,rfl⟩,rfl⟩)⟩
        | 1,hj=>
          have hx:V.ref f2=x:=by simpa using hj
          subst hx
          exact ⟨_,rfl,.inr (.inl (one lam2 f2 m2 H' s' _ rfl rfl _ fun H'' s''=>hN2 _ _ _ rfl ⟨s'',⟨_,rfl⟩,rfl⟩))⟩
        | 2,hj=>
          have hx:V.ref f3=x:=by simpa using hj
          subst hx
          exact ⟨_,rfl,.inr (.inr (one lam3 f3 m3 H' s' _ rfl rfl _ fun H'' s''=>hN2 _ _ _ rfl ⟨s'',⟨_,rfl⟩,rfl⟩))⟩
        |j+3,hj=>simp at hj
      · rintro ys' σ' H' hy ⟨s',⟨v,rfl⟩,rfl⟩
        refine ⟨by rw [hy];exact z3,fun a ha=>?_⟩
        have s2:=Same.new (o:=.lst (List.replicate [V.ref f1,V.ref f2,V.ref f3].length (V.str du))) ha
        have h2:(upd H' a (.lst (List.replicate [V.ref f1,V.ref f2,V.ref f3].length (V.str du)))) a=some (.lst ([du,du,du].map V.str)):=upd_same
        generalize upd H' a (.lst (List.replicate [V.ref f1,V.ref f2,V.ref f3].length (V.str du)))=H2 at s2 h2 ⊢
        refine ⟨_,rfl,_,rfl,_,rfl,z3,fun l9 hl9=>?_⟩
        have s3:=Same.new (o:=.lst ([du,du,du].map V.str)) hl9
        have L12:=L11.same (s'.trans (s2.trans s3))
        refine ⟨[du,du,du].map PyData.str,[du,du,du].map PyData.str,.lst (SqL.of (s3 _ _ h2)) (reps_str _),.lst (SqL.of upd_same) (reps_str [du,du,du]),by rw [dep_str];decide,_,rfl,ifF ?_ ⟨⟨_,_,_,_,_,_,_,_,_,_,_,_,_,_,rfl⟩,L12.t.D,L12.t.tb⟩⟩
        simp [pdEqs,pdEq]
    · rintro σ H1 ⟨⟨u2,u3,u4,u5,u6,u7,u8,u9,u10,u11,u12,u13,u14,u15,rfl⟩,D1,_⟩
      exact k _
end
end Cm
namespace Cm
open PySem L2 PySem.W
def xbm (B:String):List Value:=[.type B,.type "Exception",.type "BaseException",.type "object"]
theorem rl_ve (self:Value):refuseLoop self "__setattr__" (xbm "ValueError")=pure ():=by kernel_rfl
theorem rl_le (self:Value):refuseLoop self "__setattr__" (xbm "LookupError")=pure ():=by kernel_rfl
def xcd (K:Frag) (C:Addr) (rs:List Addr) (bm:List Value):Bool:=match clsIn K C with
  |some cd=>cd.hasDict && (cd.mro == rs.map Value.ref++bm)
  |none=>false
theorem xcls_of {K:Frag} {C:Addr} {B n:String} {rs:List Addr} (h1:makesX K C B n=true) (h2:findIn K (.ref C) "__setattr__" = some (some (.builtin "object.__setattr__"))) (h3:xcd K C rs (xbm B)=true) (h4:keepIn K (.ref C)=true) (h5:typeIn K (.ref C)=some (.type "type"))
    (hr:∀ self,refuseLoop self "__setattr__" (xbm B)=pure ()):XCls K C B n:=by
  refine ⟨h1,h2,?_,h4,h5⟩
  unfold xcd at h3
  split at h3
  · rename_i cd hc
    rw [Bool.and_eq_true,beq_iff_eq] at h3
    refine ⟨cd,rs,xbm B,hc,h3.1,h3.2,by simp [xbm],hr,?_⟩
    unfold xbm
    simp
  · cases h3
theorem all_mk {l:PySem.W.OpenLaw} {w:World} {K:PySem.W.Frag} {h:Heap} {mg:Str→Option Value} {fa fLa Tt cc fB fP fO fS fW fWs fA fSr fPp fLs fI fNp fWk fCl fSp fSt fDp qS qV qM fSE TS qP fiP TdP:Addr} (X:K.In h) (G:h.Ns mainGlobals mg) (hfa:mg "law" = some (.ref fa))
    {odLa anLa odcc odB anB odP anP odO anO odS anS odW anW odWs anWs odA anA odSr anSr odPp anPp odLs anLs odI anI odNp anNp odWk anWk odCl anCl odSp anSp odSt anSt odDp anDp odSE anSE odTS odiP aniP odTP:Option Addr} {slLa slcc slB slP slO slS slW slWs slA slSr slPp slLs slI slNp slWk slCl slSp slSt slDp slSE slTS sliP slTP:Array (Option Value)} {t_MOST_LETTERS nTS nTP:Nat} {ocLa kVLa dcLa pmLa ctLa w0 w1 w2 w3 w4 w5 w6 w7 w8 w9 w10 w12 w13 w14 w15 w16 w17 w18 occ ocB kVB dcB pmB cdB ctB ocP kVP dcP pmP cdP ctP ocO kVO dcO pmO cdO ctO ocS kVS dcS pmS cdS ctS ocW kVW dcW pmW cdW ctW ocWs kVWs dcWs pmWs cdWs ctWs ocA kVA dcA pmA cdA ctA ocSr kVSr dcSr pmSr cdSr ctSr ocPp kVPp dcPp pmPp cdPp ctPp ocLs kVLs dcLs pmLs cdLs ctLs ocI kVI dcI pmI cdI ctI ocNp kVNp dcNp pmNp cdNp ctNp ocWk kVWk dcWk pmWk cdWk ctWk ocCl kVCl dcCl pmCl cdCl ctCl ocSp kVSp dcSp pmSp cdSp ctSp ocSt kVSt dcSt pmSt cdSt ctSt ocDp kVDp dcDp pmDp cdDp ctDp ocSE kVSE dcSE pmSE cdSE ctSE dS1 dS2 ocTS ociP kViP dciP pmiP cdiP ctiP diP ocTP:Value}
    (aLa:PySem.W.nsIn K mainGlobals "law" = some (some (.ref fLa)))
    (lLa:K.lookup fLa=some ⟨ocLa,odLa,.func (PySem.W.fnOf "law" "law" (defArgs (top 26)) (defBody (top 26)) (defScope (top 26)) .none kVLa dcLa pmLa anLa (.ref cc) ctLa),slLa⟩)
    (lcc:K.lookup cc=some ⟨occ,odcc,.fields #[w0,w1,w2,w3,w4,w5,w6,w7,w8,w9,w10,.ref Tt,w12,w13,w14,w15,w16,w17,w18],slcc⟩)
    (lTt:K.lookup Tt=none)
    (tb:L2.tabIn K cc=some Tt)
    (cLa:PySem.W.codeIn K (.ref cc) "law" = true)
    (aB:PySem.W.nsIn K mainGlobals "_law_begin" = some (some (.ref fB)))
    (lB:K.lookup fB=some ⟨ocB,odB,.func (PySem.W.fnOf "_law_begin" "_law_begin" (defArgs (top 16)) (defBody (top 16)) (defScope (top 16)) .none kVB dcB pmB anB cdB ctB),slB⟩)
    (cB:PySem.W.codeIn K cdB "_law_begin" = true)
    (kB:PySem.W.keepIn K (.ref fB)=true)
    (aP:PySem.W.nsIn K mainGlobals "_law_pick" = some (some (.ref fP)))
    (lP:K.lookup fP=some ⟨ocP,odP,.func (PySem.W.fnOf "_law_pick" "_law_pick" (defArgs (top 17)) (defBody (top 17)) (defScope (top 17)) .none kVP dcP pmP anP cdP ctP),slP⟩)
    (cP:PySem.W.codeIn K cdP "_law_pick" = true)
    (kP:PySem.W.keepIn K (.ref fP)=true)
    (aO:PySem.W.nsIn K mainGlobals "_law_of" = some (some (.ref fO)))
    (lO:K.lookup fO=some ⟨ocO,odO,.func (PySem.W.fnOf "_law_of" "_law_of" (defArgs (top 18)) (defBody (top 18)) (defScope (top 18)) .none kVO dcO pmO anO cdO ctO),slO⟩)
    (cO:PySem.W.codeIn K cdO "_law_of" = true)
    (kO:PySem.W.keepIn K (.ref fO)=true)
    (aS:PySem.W.nsIn K mainGlobals "_law_same" = some (some (.ref fS)))
    (lS:K.lookup fS=some ⟨ocS,odS,.func (PySem.W.fnOf "_law_same" "_law_same" (defArgs (top 19)) (defBody (top 19)) (defScope (top 19)) .none kVS dcS pmS anS cdS ctS),slS⟩)
    (cS:PySem.W.codeIn K cdS "_law_same" = true)
    (kS:PySem.W.keepIn K (.ref fS)=true)
    (aW:PySem.W.nsIn K mainGlobals "_law_word" = some (some (.ref fW)))
    (lW:K.lookup fW=some ⟨ocW,odW,.func (PySem.W.fnOf "_law_word" "_law_word" (defArgs (top 20)) (defBody (top 20)) (defScope (top 20)) .none kVW dcW pmW anW cdW ctW),slW⟩)
    (cW:PySem.W.codeIn K cdW "_law_word" = true)
    (kW:PySem.W.keepIn K (.ref fW)=true)
    (aWs:PySem.W.nsIn K mainGlobals "_law_words" = some (some (.ref fWs)))
    (lWs:K.lookup fWs=some ⟨ocWs,odWs,.func (PySem.W.fnOf "_law_words" "_law_words" (defArgs (top 21)) (defBody (top 21)) (defScope (top 21)) .none kVWs dcWs pmWs anWs cdWs ctWs),slWs⟩)
    (cWs:PySem.W.codeIn K cdWs "_law_words" = true)
    (kWs:PySem.W.keepIn K (.ref fWs)=true)
    (aA:PySem.W.nsIn K mainGlobals "_law_ask" = some (some (.ref fA)))
    (lA:K.lookup fA=some ⟨ocA,odA,.func (PySem.W.fnOf "_law_ask" "_law_ask" (defArgs (top 22)) (defBody (top 22)) (defScope (top 22)) .none kVA dcA pmA anA cdA ctA),slA⟩)
    (cA:PySem.W.codeIn K cdA "_law_ask" = true)
    (kA:PySem.W.keepIn K (.ref fA)=true)
    (aSr:PySem.W.nsIn K mainGlobals "_law_span_row" = some (some (.ref fSr)))
    (lSr:K.lookup fSr=some ⟨ocSr,odSr,.func (PySem.W.fnOf "_law_span_row" "_law_span_row" (defArgs (top 23)) (defBody (top 23)) (defScope (top 23)) .none kVSr dcSr pmSr anSr cdSr ctSr),slSr⟩)
    (cSr:PySem.W.codeIn K cdSr "_law_span_row" = true)
    (kSr:PySem.W.keepIn K (.ref fSr)=true)
    (aPp:PySem.W.nsIn K mainGlobals "_law_span_pairs" = some (some (.ref fPp)))
    (lPp:K.lookup fPp=some ⟨ocPp,odPp,.func (PySem.W.fnOf "_law_span_pairs" "_law_span_pairs" (defArgs (top 24)) (defBody (top 24)) (defScope (top 24)) .none kVPp dcPp pmPp anPp cdPp ctPp),slPp⟩)
    (cPp:PySem.W.codeIn K cdPp "_law_span_pairs" = true)
    (kPp:PySem.W.keepIn K (.ref fPp)=true)
    (aLs:PySem.W.nsIn K mainGlobals "_law_spans" = some (some (.ref fLs)))
    (lLs:K.lookup fLs=some ⟨ocLs,odLs,.func (PySem.W.fnOf "_law_spans" "_law_spans" (defArgs (top 25)) (defBody (top 25)) (defScope (top 25)) .none kVLs dcLs pmLs anLs cdLs ctLs),slLs⟩)
    (cLs:PySem.W.codeIn K cdLs "_law_spans" = true)
    (kLs:PySem.W.keepIn K (.ref fLs)=true)
    (aI:PySem.W.nsIn K mainGlobals "is_name" = some (some (.ref fI)))
    (lI:K.lookup fI=some ⟨ocI,odI,.func (PySem.W.fnOf "is_name" "is_name" (defArgs (top 7)) (defBody (top 7)) (defScope (top 7)) .none kVI dcI pmI anI cdI ctI),slI⟩)
    (cI:PySem.W.codeIn K cdI "is_name" = true)
    (kI:PySem.W.keepIn K (.ref fI)=true)
    (aNp:PySem.W.nsIn K mainGlobals "need_pairs" = some (some (.ref fNp)))
    (lNp:K.lookup fNp=some ⟨ocNp,odNp,.func (PySem.W.fnOf "need_pairs" "need_pairs" (defArgs (top 9)) (defBody (top 9)) (defScope (top 9)) .none kVNp dcNp pmNp anNp cdNp ctNp),slNp⟩)
    (cNp:PySem.W.codeIn K cdNp "need_pairs" = true)
    (kNp:PySem.W.keepIn K (.ref fNp)=true)
    (aWk:PySem.W.nsIn K mainGlobals "walked" = some (some (.ref fWk)))
    (lWk:K.lookup fWk=some ⟨ocWk,odWk,.func (PySem.W.fnOf "walked" "walked" (defArgs (top 10)) (defBody (top 10)) (defScope (top 10)) .none kVWk dcWk pmWk anWk cdWk ctWk),slWk⟩)
    (cWk:PySem.W.codeIn K cdWk "walked" = true)
    (kWk:PySem.W.keepIn K (.ref fWk)=true)
    (aCl:PySem.W.nsIn K mainGlobals "close" = some (some (.ref fCl)))
    (lCl:K.lookup fCl=some ⟨ocCl,odCl,.func (PySem.W.fnOf "close" "close" (defArgs (top 11)) (defBody (top 11)) (defScope (top 11)) .none kVCl dcCl pmCl anCl cdCl ctCl),slCl⟩)
    (cCl:PySem.W.codeIn K cdCl "close" = true)
    (kCl:PySem.W.keepIn K (.ref fCl)=true)
    (aSp:PySem.W.nsIn K mainGlobals "spans" = some (some (.ref fSp)))
    (lSp:K.lookup fSp=some ⟨ocSp,odSp,.func (PySem.W.fnOf "spans" "spans" (defArgs (top 12)) (defBody (top 12)) (defScope (top 12)) .none kVSp dcSp pmSp anSp cdSp ctSp),slSp⟩)
    (cSp:PySem.W.codeIn K cdSp "spans" = true)
    (kSp:PySem.W.keepIn K (.ref fSp)=true)
    (aSt:PySem.W.nsIn K mainGlobals "strays" = some (some (.ref fSt)))
    (lSt:K.lookup fSt=some ⟨ocSt,odSt,.func (PySem.W.fnOf "strays" "strays" (defArgs (top 13)) (defBody (top 13)) (defScope (top 13)) .none kVSt dcSt pmSt anSt cdSt ctSt),slSt⟩)
    (cSt:PySem.W.codeIn K cdSt "strays" = true)
    (kSt:PySem.W.keepIn K (.ref fSt)=true)
    (aDp:PySem.W.nsIn K mainGlobals "deepest" = some (some (.ref fDp)))
    (lDp:K.lookup fDp=some ⟨ocDp,odDp,.func (PySem.W.fnOf "deepest" "deepest" (defArgs (top 14)) (defBody (top 14)) (defScope (top 14)) .none kVDp dcDp pmDp anDp cdDp ctDp),slDp⟩)
    (cDp:PySem.W.codeIn K cdDp "deepest" = true)
    (kDp:PySem.W.keepIn K (.ref fDp)=true)
    (z_len:PySem.W.nsIn K mainGlobals "len" = some none)
    (z_range:PySem.W.nsIn K mainGlobals "range" = some none)
    (z_list:PySem.W.nsIn K mainGlobals "list" = some none)
    (z_tuple:PySem.W.nsIn K mainGlobals "tuple" = some none)
    (z_str:PySem.W.nsIn K mainGlobals "str" = some none)
    (z_bool:PySem.W.nsIn K mainGlobals "bool" = some none)
    (z_int:PySem.W.nsIn K mainGlobals "int" = some none)
    (z_min:PySem.W.nsIn K mainGlobals "min" = some none)
    (z_repr:PySem.W.nsIn K mainGlobals "repr" = some none)
    (z_all:PySem.W.nsIn K mainGlobals "all" = some none)
    (z_any:PySem.W.nsIn K mainGlobals "any" = some none)
    (z_isinstance:PySem.W.nsIn K mainGlobals "isinstance" = some none)
    (z_enumerate:PySem.W.nsIn K mainGlobals "enumerate" = some none)
    (z_max:PySem.W.nsIn K mainGlobals "max" = some none)
    (z_ValueError:PySem.W.nsIn K mainGlobals "ValueError" = some none)
    (i_MOST_LETTERS:PySem.W.nsIn K mainGlobals "MOST_LETTERS" = some (some (.int 8 t_MOST_LETTERS)))
    (a_qS:PySem.W.nsIn K mainGlobals "ScribeError" = some (some (.ref qS)))
    (a_qV:PySem.W.nsIn K mainGlobals "BadValue" = some (some (.ref qV)))
    (a_qM:PySem.W.nsIn K mainGlobals "Missing" = some (some (.ref qM)))
    (x1S:makesX K qS "ValueError" "ValueError.__new__" = true)
    (x2S:PySem.W.findIn K (.ref qS) "__setattr__" = some (some (.builtin "object.__setattr__")))
    (x3S:xcd K qS [qS] (xbm "ValueError")=true)
    (x4S:PySem.W.keepIn K (.ref qS)=true)
    (x5S:PySem.W.typeIn K (.ref qS)=some (.type "type"))
    (x1V:makesX K qV "ValueError" "ValueError.__new__" = true)
    (x2V:PySem.W.findIn K (.ref qV) "__setattr__" = some (some (.builtin "object.__setattr__")))
    (x3V:xcd K qV [qV,qS] (xbm "ValueError")=true)
    (x4V:PySem.W.keepIn K (.ref qV)=true)
    (x5V:PySem.W.typeIn K (.ref qV)=some (.type "type"))
    (x1M:makesX K qM "LookupError" "LookupError.__new__" = true)
    (x2M:PySem.W.findIn K (.ref qM) "__setattr__" = some (some (.builtin "object.__setattr__")))
    (x3M:xcd K qM [qM] (xbm "LookupError")=true)
    (x4M:PySem.W.keepIn K (.ref qM)=true)
    (x5M:PySem.W.typeIn K (.ref qM)=some (.type "type"))
    (aSE:PySem.W.findIn K (.ref qS) "__init__" = some (some (.ref fSE)))
    (lSE:K.lookup fSE=some ⟨ocSE,odSE,.func (PySem.W.fnOf "__init__" "ScribeError.__init__" (defArgs sSE) (defBody sSE) (defScope sSE) (.ref TS) kVSE dcSE pmSE anSE cdSE ctSE),slSE⟩)
    (cSE:PySem.W.codeIn K cdSE "ScribeError.__init__" = true)
    (kSE:PySem.W.keepIn K (.ref fSE)=true)
    (lTS:K.lookup TS=some ⟨ocTS,odTS,.seq #[dS1,dS2] nTS,slTS⟩)
    (fc:PySem.W.findCls K (.type "ValueError") (.type "type") "__init__" = some (.val (.builtin "ValueError.__init__")))
    (sg:PySem.W.specialIn K (.ref qS) "__getattribute__" = some (some (.builtin "type.__getattribute__")))
    (rd1:PySem.W.readsIn K qS (.type "type")=true)
    (rd2:PySem.W.findCls K (.ref qS) (.type "type") "__init__" = some (.val (.ref fSE)))
    (a_qP:PySem.W.nsIn K mainGlobals "BadPairs" = some (some (.ref qP)))
    (x1P:makesX K qP "ValueError" "ValueError.__new__" = true)
    (x2P:PySem.W.findIn K (.ref qP) "__setattr__" = some (some (.builtin "object.__setattr__")))
    (x3P:xcd K qP [qP,qS] (xbm "ValueError")=true)
    (x4P:PySem.W.keepIn K (.ref qP)=true)
    (x5P:PySem.W.typeIn K (.ref qP)=some (.type "type"))
    (tkP:PySem.W.takerIn K qP "word" = some none)
    (aiP:PySem.W.findIn K (.ref qP) "__init__" = some (some (.ref fiP)))
    (liP:K.lookup fiP=some ⟨ociP,odiP,.func (PySem.W.fnOf "__init__" "BadPairs.__init__" (defArgs sBadPairs) (defBody sBadPairs) (defScope sBadPairs) (.ref TdP) kViP dciP pmiP aniP cdiP ctiP),sliP⟩)
    (ciP:PySem.W.codeIn K cdiP "BadPairs.__init__" = true)
    (kiP:PySem.W.keepIn K (.ref fiP)=true)
    (biP:PySem.W.findIn K (.ref qP) "__init__" = some (some (.ref fiP)))
    (niP:PySem.W.isFn K (.ref fiP)=true)
    (lTP:K.lookup TdP=some ⟨ocTP,odTP,.seq #[diP] nTP,slTP⟩)
    (mvP:PySem.W.mroIn K qP (.ref qV)=some false)
    (msP:PySem.W.mroIn K qP (.ref qS)=some true)
    (g1P:PySem.W.findIn K (.ref qP) "__getattribute__" = some (some (.builtin "BaseException.__getattribute__")))
    (g2P:PySem.W.findIn K (.ref qP) "__getattr__" = some none)
    (g3P:PySem.W.hasDictIn K qP=true)
    (g4P:PySem.W.findIn K (.ref qP) "word" = some none)
    (g5P:PySem.W.mroIn K qP (.type "BaseException")=some true) :
    ∃ (fd:FuncData) (sp:Sp),(∀ (s:Shared) (u:Value),BindsTo s fd ⟨[u],[]⟩ [("_law_script",u)])∧(∀ T∈[Tt],K.lookup T=none∧∃ c,L2.tabIn K c=some T)∧
        (∀ (H:Hp) (a:Addr) (ns:List Int),ns.length≤63→(∀ T∈[Tt],H T=some (.tbl #[]))→SqL K H a (ns.map V.int)→sp [.ref a] H (fun v _=>v=.bl true) fun _ _ _=>False)∧
        ∀ base:Heap,K.In base→base.Ns mainGlobals mg→(∀ T∈[Tt],base.BuiltinsAt mg T∧mainGlobals≠T)→FnOk l.prog w K mg base CX0 12 fa fd ["_law_script"] sp:=by
  have e:=hfa.symm.trans (PySem.W.mg_of X G aLa)
  cases e
  have T:Txt K mg:=⟨PySem.W.mg_none_of X G z_len,PySem.W.mg_none_of X G z_range,PySem.W.mg_none_of X G z_list,PySem.W.mg_none_of X G z_tuple,PySem.W.mg_none_of X G z_str,PySem.W.mg_none_of X G z_bool,PySem.W.mg_none_of X G z_int,PySem.W.mg_none_of X G z_min,PySem.W.mg_none_of X G z_repr,PySem.W.mg_none_of X G z_all,PySem.W.mg_none_of X G z_any,PySem.W.mg_none_of X G z_isinstance⟩
  have TE:TxtE K mg:=⟨PySem.W.mg_none_of X G z_ValueError,fc⟩
  have FB:=fun_mk (st:=top 16) lB cB kB
  have bB:=FB.binds (ps:=["_law_script"]) fun _ _ _ _ _ _ us hl=>by obtain ⟨_,rfl⟩:=len1 hl;rfl
  have FP:=fun_mk (st:=top 17) lP cP kP
  have bP:=FP.binds (ps:=["_law_d","_law_many"]) fun _ _ _ _ _ _ us hl=>by obtain ⟨_,_,rfl⟩:=len2 hl;rfl
  have FO:=fun_mk (st:=top 18) lO cO kO
  have bO:=FO.binds (ps:=["_law_d","_law_things"]) fun _ _ _ _ _ _ us hl=>by obtain ⟨_,_,rfl⟩:=len2 hl;rfl
  have FS:=fun_mk (st:=top 19) lS cS kS
  have bS:=FS.binds (ps:=["_law_found","_law_due"]) fun _ _ _ _ _ _ us hl=>by obtain ⟨_,_,rfl⟩:=len2 hl;rfl
  have FW:=fun_mk (st:=top 20) lW cW kW
  have bW:=FW.binds (ps:=["_law_d"]) fun _ _ _ _ _ _ us hl=>by obtain ⟨_,rfl⟩:=len1 hl;rfl
  have FWs:=fun_mk (st:=top 21) lWs cWs kWs
  have bWs:=FWs.binds (ps:=["_law_d","_law_many"]) fun _ _ _ _ _ _ us hl=>by obtain ⟨_,_,rfl⟩:=len2 hl;rfl
  have FA:=fun_mk (st:=top 22) lA cA kA
  have bA:=FA.binds (ps:=["_law_ask_here"]) fun _ _ _ _ _ _ us hl=>by obtain ⟨_,rfl⟩:=len1 hl;rfl
  have FSr:=fun_mk (st:=top 23) lSr cSr kSr
  have bSr:=FSr.binds (ps:=["_law_d","_law_names"]) fun _ _ _ _ _ _ us hl=>by obtain ⟨_,_,rfl⟩:=len2 hl;rfl
  have FPp:=fun_mk (st:=top 24) lPp cPp kPp
  have bPp:=FPp.binds (ps:=["_law_d"]) fun _ _ _ _ _ _ us hl=>by obtain ⟨_,rfl⟩:=len1 hl;rfl
  have FLs:=fun_mk (st:=top 25) lLs cLs kLs
  have bLs:=FLs.binds (ps:=["_law_told","_law_pairs"]) fun _ _ _ _ _ _ us hl=>by obtain ⟨_,_,rfl⟩:=len2 hl;rfl
  have FI:=fun_mk (st:=top 7) lI cI kI
  have bI:=FI.binds (ps:=["text"]) fun _ _ _ _ _ _ us hl=>by obtain ⟨_,rfl⟩:=len1 hl;rfl
  have FNp:=fun_mk (st:=top 9) lNp cNp kNp
  have bNp:=FNp.binds (ps:=["pairs"]) fun _ _ _ _ _ _ us hl=>by obtain ⟨_,rfl⟩:=len1 hl;rfl
  have FWk:=fun_mk (st:=top 10) lWk cWk kWk
  have bWk:=FWk.binds (ps:=["told","pairs"]) fun _ _ _ _ _ _ us hl=>by obtain ⟨_,_,rfl⟩:=len2 hl;rfl
  have FCl:=fun_mk (st:=top 11) lCl cCl kCl
  have bCl:=FCl.binds (ps:=["found","at","last"]) fun _ _ _ _ _ _ us hl=>by obtain ⟨_,_,_,rfl⟩:=len3 hl;rfl
  have FSp:=fun_mk (st:=top 12) lSp cSp kSp
  have bSp:=FSp.binds (ps:=["told","pairs"]) fun _ _ _ _ _ _ us hl=>by obtain ⟨_,_,rfl⟩:=len2 hl;rfl
  have FSt:=fun_mk (st:=top 13) lSt cSt kSt
  have bSt:=FSt.binds (ps:=["told","pairs"]) fun _ _ _ _ _ _ us hl=>by obtain ⟨_,_,rfl⟩:=len2 hl;rfl
  have FDp:=fun_mk (st:=top 14) lDp cDp kDp
  have bDp:=FDp.binds (ps:=["told","pairs"]) fun _ _ _ _ _ _ us hl=>by obtain ⟨_,_,rfl⟩:=len2 hl;rfl
  have FSE:FunD K "__init__" "ScribeError.__init__" sSE (.ref TS) fSE _:=⟨⟨_,_,_,_,_,_,_,_,_,rfl,lSE,cSE⟩,kSE⟩
  have bSE:=FSE.binds (ps:=["self","words","word"]) (ds:=[]) lTS rfl fun kV doc pm an cdv ct s us hT hl=>(by rw [List.append_nil] at hl ⊢;obtain ⟨_,_,_,rfl⟩:=len3 hl;exact BindsTo.of_defaults rfl hT rfl rfl rfl)
  have MS:MkOf K mg "ScribeError" qS fSE:=⟨PySem.W.mg_of X G a_qS,sg,⟨_,rd1,rd2⟩,kSE⟩
  have FiP:FunD K "__init__" "BadPairs.__init__" sBadPairs (.ref TdP) fiP _:=⟨⟨_,_,_,_,_,_,_,_,_,rfl,liP,ciP⟩,kiP⟩
  have bbP:=FiP.binds (ps:=["self","words"]) (ds:=[]) lTP rfl fun kV doc pm an cdv ct s us hT hl=>(by rw [List.append_nil] at hl ⊢;obtain ⟨_,_,rfl⟩:=len2 hl;exact BindsTo.of_defaults rfl hT rfl rfl rfl)
  have ECP:ECls K qP:=⟨xcls_of x1P x2P x3P x4P x5P rl_ve,tkP⟩
  have WCP:WCls K mg "BadPairs" qP fiP _:=⟨bbP,PySem.W.mg_of X G a_qP,ECP,biP,niP⟩
  have TA:TxtA K mg qV qS qM:=⟨PySem.W.mg_none_of X G z_str,PySem.W.mg_of X G a_qV,PySem.W.mg_of X G a_qS,PySem.W.mg_of X G a_qM,⟨_,_,xcls_of x1V x2V x3V x4V x5V rl_ve⟩,⟨_,_,xcls_of x1S x2S x3S x4S x5S rl_ve⟩,⟨_,_,xcls_of x1M x2M x3M x4M x5M rl_le⟩⟩
  have DB:Def K mg "_law_begin" (top 16) ["_law_script"] fB _:=⟨FB,PySem.W.mg_of X G aB,bB⟩
  have DP:Def K mg "_law_pick" (top 17) ["_law_d","_law_many"] fP _:=⟨FP,PySem.W.mg_of X G aP,bP⟩
  have DO:Def K mg "_law_of" (top 18) ["_law_d","_law_things"] fO _:=⟨FO,PySem.W.mg_of X G aO,bO⟩
  have DS:Def K mg "_law_same" (top 19) ["_law_found","_law_due"] fS _:=⟨FS,PySem.W.mg_of X G aS,bS⟩
  have DW:Def K mg "_law_word" (top 20) ["_law_d"] fW _:=⟨FW,PySem.W.mg_of X G aW,bW⟩
  have DWs:Def K mg "_law_words" (top 21) ["_law_d","_law_many"] fWs _:=⟨FWs,PySem.W.mg_of X G aWs,bWs⟩
  have DA:Def K mg "_law_ask" (top 22) ["_law_ask_here"] fA _:=⟨FA,PySem.W.mg_of X G aA,bA⟩
  have DSr:Def K mg "_law_span_row" (top 23) ["_law_d","_law_names"] fSr _:=⟨FSr,PySem.W.mg_of X G aSr,bSr⟩
  have DPp:Def K mg "_law_span_pairs" (top 24) ["_law_d"] fPp _:=⟨FPp,PySem.W.mg_of X G aPp,bPp⟩
  have DLs:Def K mg "_law_spans" (top 25) ["_law_told","_law_pairs"] fLs _:=⟨FLs,PySem.W.mg_of X G aLs,bLs⟩
  have DI:Def K mg "is_name" (top 7) ["text"] fI _:=⟨FI,PySem.W.mg_of X G aI,bI⟩
  have DNp:Def K mg "need_pairs" (top 9) ["pairs"] fNp _:=⟨FNp,PySem.W.mg_of X G aNp,bNp⟩
  have DWk:Def K mg "walked" (top 10) ["told","pairs"] fWk _:=⟨FWk,PySem.W.mg_of X G aWk,bWk⟩
  have DCl:Def K mg "close" (top 11) ["found","at","last"] fCl _:=⟨FCl,PySem.W.mg_of X G aCl,bCl⟩
  have DSp:Def K mg "spans" (top 12) ["told","pairs"] fSp _:=⟨FSp,PySem.W.mg_of X G aSp,bSp⟩
  have DSt:Def K mg "strays" (top 13) ["told","pairs"] fSt _:=⟨FSt,PySem.W.mg_of X G aSt,bSt⟩
  have DDp:Def K mg "deepest" (top 14) ["told","pairs"] fDp _:=⟨FDp,PySem.W.mg_of X G aDp,bDp⟩
  refine ⟨PySem.W.fnOf "law" "law" (defArgs (top 26)) (defBody (top 26)) (defScope (top 26)) .none kVLa dcLa pmLa anLa (.ref cc) ctLa,spLaw1 K Tt #[],fun s v=>.of_eq rfl,fun T m=>by cases List.mem_singleton.mp m;exact ⟨lTt,cc,tb⟩,fun H a ns hl hT hS=>⟨a,ns,rfl,hS,hl,hT _ (List.mem_singleton.mpr rfl),fun _=>rfl⟩,fun base kb0' nsb hbt=>?_⟩
  obtain ⟨hbb,hg⟩:=hbt Tt (List.mem_singleton.mpr rfl)
  have TK':TxtK mg:=⟨⟨_,PySem.W.mg_of X G i_MOST_LETTERS⟩⟩
  have hen:=PySem.W.mg_none_of X G z_enumerate
  have hmx:=PySem.W.mg_none_of X G z_max
  have BP:BadP K qP qV qS:=⟨mvP,msP,⟨g1P,g2P,g3P,g4P,g5P⟩⟩
  have GWk:FnOk l.prog w K mg base CX0 3 fWk _ ["told","pairs"] (spWk K):=ok_wk FWk T DNp (ok_np FNp T TK' hen DI) DCl
  have GBP:=ok_BadPairs (P:=l.prog) (w:=w) (base:=base) (CX:=CX0) FiP TE FSE bSE MS
  have WB:=ok_wkB (P:=l.prog) (w:=w) (base:=base) FWk DNp (ok_npB FNp T TK' hen DI WCP GBP)
  have SB:=ok_spB FSp DWk WB
  have GA:=ok_ask (P:=l.prog) (w:=w) (base:=base) (CX:=CX0) (k:=9) DA.F TA
  exact ok_law lLa cLa (hd_of kb0' tb) hbb hg trivial (fun lp m=>rfl) T hmx BP DB DO (ok_of FO T DP) DS DPp (ok_pp FPp T DP DWs (ok_words FWs T DP DO DW)) DSr (ok_sr FSr T DP DO) DLs (ok_ls FLs T) DSp (ok_sp FSp DWk GWk) DSt (ok_st FSt DWk GWk) DDp (ok_dp FDp hmx DSp (ok_sp FSp DWk GWk)) SB (ok_stB FSt DWk WB) (ok_dpB FDp hmx DSp SB) GA (PySem.W.mg_of X G aA) kA bA
end Cm
open PySem PySem.W PyProof.Rows
set_option maxRecDepth 100000 in
set_option maxHeartbeats 0 in
theorem PySem.Challenge.cw_lanescribe_k30_spans_and_strays_holds : PySem.Challenge.rw_lanescribe_k30_spans_and_strays.Holds := by
  w_on
  refine Kd.head ?hw (by rfl) (by rfl) (by rfl) ?hc
  (case hw=>w_witness2)
  k_fill
  refine L2.walk_ofM (l:=PySem.Challenge.rw_lanescribe_k30_spans_and_strays) (n:=63) (k:=12) (x:="_law_script") (CX:=fun _=>L2.CX0) rfl (by decide) rfl ⟨rfl,by decide,by decide,rfl⟩ (fun w h Y=>PySem.W.km_in_of Y) (fun w h Y=>PySem.W.km_tabs_of Y) ?F (fun _ _ _ _ _ z=>z)
  case F=>
    intro w mg fa h KX G hmg
    refine' Cm.all_mk KX G hmg ?aLa ?lLa ?lcc ?lTt ?tb ?cLa ?aB ?lB ?cB ?kB ?aP ?lP ?cP ?kP ?aO ?lO ?cO ?kO ?aS ?lS ?cS ?kS ?aW ?lW ?cW ?kW ?aWs ?lWs ?cWs ?kWs ?aA ?lA ?cA ?kA ?aSr ?lSr ?cSr ?kSr ?aPp ?lPp ?cPp ?kPp ?aLs ?lLs ?cLs ?kLs ?aI ?lI ?cI ?kI ?aNp ?lNp ?cNp ?kNp ?aWk ?lWk ?cWk ?kWk ?aCl ?lCl ?cCl ?kCl ?aSp ?lSp ?cSp ?kSp ?aSt ?lSt ?cSt ?kSt ?aDp ?lDp ?cDp ?kDp ?z_len ?z_range ?z_list ?z_tuple ?z_str ?z_bool ?z_int ?z_min ?z_repr ?z_all ?z_any ?z_isinstance ?z_enumerate ?z_max ?z_ValueError ?i_MOST_LETTERS ?a_qS ?a_qV ?a_qM ?x1S ?x2S ?x3S ?x4S ?x5S ?x1V ?x2V ?x3V ?x4V ?x5V ?x1M ?x2M ?x3M ?x4M ?x5M ?aSE ?lSE ?cSE ?kSE ?lTS ?fc ?sg ?rd1 ?rd2 ?a_qP ?x1P ?x2P ?x3P ?x4P ?x5P ?tkP ?aiP ?liP ?ciP ?kiP ?biP ?niP ?lTP ?mvP ?msP ?g1P ?g2P ?g3P ?g4P ?g5P
    (case aLa=>k_is)
    (case lLa=>k_is)
    (case lcc=>k_is)
    (case lTt=>kernel_rfl)
    (case tb=>kernel_rfl)
    (case cLa=>k_is)
    (case aB=>k_is)
    (case lB=>k_is)
    (case cB=>k_is)
    (case kB=>k_is)
    (case aP=>k_is)
    (case lP=>k_is)
    (case cP=>k_is)
    (case kP=>k_is)
    (case aO=>k_is)
    (case lO=>k_is)
    (case cO=>k_is)
    (case kO=>k_is)
    (case aS=>k_is)
    (case lS=>k_is)
    (case cS=>k_is)
    (case kS=>k_is)
    (case aW=>k_is)
    (case lW=>k_is)
    (case cW=>k_is)
    (case kW=>k_is)
    (case aWs=>k_is)
    (case lWs=>k_is)
    (case cWs=>k_is)
    (case kWs=>k_is)
    (case aA=>k_is)
    (case lA=>k_is)
    (case cA=>k_is)
    (case kA=>k_is)
    (case aSr=>k_is)
    (case lSr=>k_is)
    (case cSr=>k_is)
    (case kSr=>k_is)
    (case aPp=>k_is)
    (case lPp=>k_is)
    (case cPp=>k_is)
    (case kPp=>k_is)
    (case aLs=>k_is)
    (case lLs=>k_is)
    (case cLs=>k_is)
    (case kLs=>k_is)
    (case aI=>k_is)
    (case lI=>k_is)
    (case cI=>k_is)
    (case kI=>k_is)
    (case aNp=>k_is)
    (case lNp=>k_is)
    (case cNp=>k_is)
    (case kNp=>k_is)
    (case aWk=>k_is)
    (case lWk=>k_is)
    (case cWk=>k_is)
    (case kWk=>k_is)
    (case aCl=>k_is)
    (case lCl=>k_is)
    (case cCl=>k_is)
    (case kCl=>k_is)
    (case aSp=>k_is)
    (case lSp=>k_is)
    (case cSp=>k_is)
    (case kSp=>k_is)
    (case aSt=>k_is)
    (case lSt=>k_is)
    (case cSt=>k_is)
    (case kSt=>k_is)
    (case aDp=>k_is)
    (case lDp=>k_is)
    (case cDp=>k_is)
    (case kDp=>k_is)
    (case z_len=>k_is)
    (case z_range=>k_is)
    (case z_list=>k_is)
    (case z_tuple=>k_is)
    (case z_str=>k_is)
    (case z_bool=>k_is)
    (case z_int=>k_is)
    (case z_min=>k_is)
    (case z_repr=>k_is)
    (case z_all=>k_is)
    (case z_any=>k_is)
    (case z_isinstance=>k_is)
    (case z_enumerate=>k_is)
    (case z_max=>k_is)
    (case z_ValueError=>k_is)
    (case i_MOST_LETTERS=>k_is)
    (case a_qS=>k_is)
    (case a_qV=>k_is)
    (case a_qM=>k_is)
    (case x1S=>kernel_rfl)
    (case x2S=>k_is)
    (case x3S=>kernel_rfl)
    (case x4S=>k_is)
    (case x5S=>k_is)
    (case x1V=>kernel_rfl)
    (case x2V=>k_is)
    (case x3V=>kernel_rfl)
    (case x4V=>k_is)
    (case x5V=>k_is)
    (case x1M=>kernel_rfl)
    (case x2M=>k_is)
    (case x3M=>kernel_rfl)
    (case x4M=>k_is)
    (case x5M=>k_is)
    (case aSE=>k_is)
    (case lSE=>k_is)
    (case cSE=>k_is)
    (case kSE=>k_is)
    (case lTS=>k_is)
    (case fc=>k_is)
    (case sg=>k_is)
    (case rd1=>k_is)
    (case rd2=>k_is)
    (case a_qP=>k_is)
    (case x1P=>kernel_rfl)
    (case x2P=>k_is)
    (case x3P=>kernel_rfl)
    (case x4P=>k_is)
    (case x5P=>k_is)
    (case tkP=>k_is)
    (case aiP=>k_is)
    (case liP=>k_is)
    (case ciP=>k_is)
    (case kiP=>k_is)
    (case biP=>k_is)
    (case niP=>k_is)
    (case lTP=>k_is)
    (case mvP=>k_is)
    (case msP=>k_is)
    (case g1P=>k_is)
    (case g2P=>k_is)
    (case g3P=>k_is)
    (case g4P=>k_is)
    (case g5P=>k_is)
