import PyProof.Rows.All
import Wide.All
import OpenK.AllK
import Wide.FinOn
import KE.KNestM
import Lean
import PyProof.EqAt
import PyProof.EqKinds
import PyProof.TupleCall
import PyProof.StationsW
import PyProof.ExcBaseAll.ValueError
import PyProof.InstStoreFacts
import PyProof.RulesAs
import PyProof.RulesDel
import KE.KLam
import PyProof.ExcArgsOwn
import PyProof.AutoListH
import PyProof.StrWalks
import PyProof.StrBlockH
import PyProof.WalkInts
import PyProof.SeqI3
import PyProof.Rows.SetFrom
import PyProof.ZipIter
import KE.KTabLook
import PyProof.StrLaws
import KE.KIntText
import KE.KStrOpen
import PyProof.StrLawsTight
import PyProof.Rows.StrFit
import PyProof.Draws
import PyProof.EnumMake
import PyProof.StrCalls2
import PyProof.Rows.StrSplitJoin
import PyProof.CollectIter
import PyProof.StrBlock2
import PyProof.Rows.SortWalk
import PyProof.Rows.CallKwBuiltin
import KE.KMinBuiltin
import KE.KSortedM
import PySem.Challenge.RW_lanescribe_k31_whole_spans_lie_within_on
set_option Elab.async false
set_option linter.all false
set_option maxRecDepth 1000000
set_option maxHeartbeats 0
namespace Kd
open PySem PySem.W
noncomputable section
theorem left_boot {p q:Program} {loose:List Str} {Xt:Shared→Bool} {α:Type} {Yf:Shared→α} {Ya:World→α} {N:Nat} (e:opening p=plainProg p.main.scope.names) (hN:Nat.ble 600 N=true) (f:∀ s,fenceModules? p s=some s)
    (h:∀ (w:World) (os:OsState),(topFrom treeTable p w N ⟨boot_heap w.params,Array.mk [],boot_drawn,boot_toks,os⟩).map (fun s=>(openSeen q loose (importedModules p.main.body) Xt true s,Yf s))=some (openGood q loose,Ya w)):LeftO p q loose Xt Yf Ya N:=fun w=>by
  obtain ⟨⟨h',gs,d,k,os⟩,e1,e2⟩:=Option.map_eq_some_iff.mp (boot_open e hN f w)
  obtain ⟨rfl,rfl,rfl,rfl⟩:h'=boot_heap w.params∧gs=Array.mk []∧d=boot_drawn∧k=boot_toks:=by simpa using e2
  unfold openEnds
  rw [e1]
  exact h w os
abbrev u (x:String):Str:=Str.ofString x
abbrev vs (x:String) (t:Nat):Value:=.str (Str.ofString x) t
abbrev vi (x:Int) (t:Nat):Value:=.int x t
abbrev vr (x:Nat):Value:=.ref x
abbrev de (P:Params) (x:String) (t:Nat) (v:Value):DictEntry:={ hash:=PyData.keyHash P (Str.ofString x),key:=.str (Str.ofString x) t,val:=v }
def tp (i:Nat):Stmt:=PySem.Challenge.pw_lanescribe_k31_whole_spans_lie_within_on.main.body.getD i (.Pass ⟨0,0,0,0⟩)
def meth (i j:Nat):Stmt:=match tp i with
  |.ClassDef _ _ _ body _ _ _ _ _ _ _=>body.getD j (.Pass ⟨0,0,0,0⟩)
  |_=>.Pass ⟨0,0,0,0⟩
def dA (s:Stmt):Arguments:=match s with
  |.FunctionDef _ a _ _ _ _ _ _ _ _=>a
  |_=>{ posonlyargs:=[],args:=[],vararg:=none,kwonlyargs:=[],kw_defaults:=[],kwarg:=none,defaults:=[] }
def dB (s:Stmt):List Stmt:=match s with
  |.FunctionDef _ _ b _ _ _ _ _ _ _=>b
  |_=>[]
def dS (s:Stmt):Scope:=match s with
  |.FunctionDef _ _ _ _ _ _ sc _ _ _=>sc
  |_=>{ kind:=.function,names:=[],isGenerator:=false,isCoroutine:=false }
abbrev TA (i:Nat):Arguments:=dA (tp i)
abbrev TB (i:Nat):List Stmt:=dB (tp i)
abbrev TS (i:Nat):Scope:=dS (tp i)
abbrev MA (i j:Nat):Arguments:=dA (meth i j)
abbrev MB (i j:Nat):List Stmt:=dB (meth i j)
abbrev MS (i j:Nat):Scope:=dS (meth i j)
def KK:Params→Frag:=fun P=>
  ((nat_lit 2,{ cls:=Value.none,data:=Data.dict #[] }):Addr×Obj)::
  ((nat_lit 3,{ cls:=Value.type "dict",data:=Data.dict #[de P "__name__" 165 (vs "law_lanescribe_k31_whole_spans_lie_within_on" 304),de P "__doc__" 166 (Value.none),de P "__package__" 167 (Value.none),de P "__loader__" 168 (Value.builtin "__main__.__loader__#opaque"),de P "__spec__" 169 (Value.none),de P "__annotations__" 170 (vr 6),de P "__builtins__" 171 (vr 4),de P "__file__" 173 (vs "/claim/cut.py" 172),de P "__cached__" 174 (Value.none),de P "ScribeError" 218 (vr 32),de P "BadPairs" 243 (vr 53),de P "MOST_LETTERS" 247 (vi 8 246),de P "is_name" 254 (vr 62),de P "need_pairs" 262 (vr 67),de P "walked" 268 (vr 72),de P "close" 277 (vr 79),de P "spans" 287 (vr 86),de P "strays" 297 (vr 93),de P "deepest" 303 (vr 98),de P "_law_begin" 314 (vr 105),de P "_law_pick" 325 (vr 112),de P "_law_of" 333 (vr 119),de P "_law_same" 339 (vr 124),de P "_law_word" 345 (vr 129),de P "_law_words" 357 (vr 136),de P "_law_span_row" 369 (vr 143),de P "_law_span_pairs" 375 (vr 148),de P "_law_unbroken" 386 (vr 155),de P "law" 392 (vr 160)] 29 }):Addr×Obj)::
  ((nat_lit 15,{ cls:=Value.type "tuple",data:=Data.seq #[Value.type "ValueError"] }):Addr×Obj)::
  ((nat_lit 22,{ cls:=Value.type "tuple",data:=Data.seq #[vs "" 201,vs "scribeerror" 202] }):Addr×Obj)::
  ((nat_lit 23,{ cls:=Value.type "tuple",data:=Data.seq #[] }):Addr×Obj)::
  ((nat_lit 25,{ cls:=Value.type "tuple",data:=Data.seq #[vs "self" 206,vs "words" 207,vs "word" 208] }):Addr×Obj)::
  ((nat_lit 26,{ cls:=Value.type "tuple",data:=Data.seq #[] }):Addr×Obj)::
  ((nat_lit 28,{ cls:=Value.type "code",data:=Data.fields #[vs "__init__" 203,vs "ScribeError.__init__" 204,vs "/claim/cut.py" 205,vi 4 0,vi 3 0,vi 0 0,vi 0 0,vi 3 0,vr 23,Value.bool true,vi 181 0,vr 24,Value.none,vr 25,vr 26,vr 27,vi 209 0,vi 4 0,vs "/claim/cut.py" 210] }):Addr×Obj)::
  ((nat_lit 29,{ cls:=Value.type "function",data:=Data.func { name:=u "__init__",qualname:=u "ScribeError.__init__",params:=MA 1 0,body:=FuncBody.stmts (MB 1 0),scope:=MS 1 0,globals:=3,closure:=[],defaults:=vr 22,kwdefaults:=Value.none,pyModule:=vs "lanescribe.errors" 187,code:=vr 28 } }):Addr×Obj)::
  ((nat_lit 30,{ cls:=Value.type "tuple",data:=Data.seq #[vs "word" 212] }):Addr×Obj)::
  ((nat_lit 31,{ cls:=Value.type "dict",data:=Data.dict #[de P "__module__" 196 (vs "lanescribe.errors" 187),de P "__firstlineno__" 200 (vi 2 199),de P "__init__" 211 (vr 29),de P "__static_attributes__" 213 (vr 30),de P "__weakref__" 215 (vr 33),de P "__doc__" 216 (Value.none)] 3 }):Addr×Obj)::
  ((nat_lit 32,{ cls:=Value.type "type",data:=Data.cls { name:=u "ScribeError",bases:=[Value.type "ValueError"],mro:=[vr 32,Value.type "ValueError",Value.type "Exception",Value.type "BaseException",Value.type "object"],ns:=31,qualname:=u "ScribeError",subclasses:=[vr 53] },slots:=#[some (vr 15),none,some (vs "ScribeError" 189),some (vs "ScribeError" 197),some (Value.builtin "ValueError.__new__"),some (Value.bool true)] }):Addr×Obj)::
  ((nat_lit 33,{ cls:=Value.type "getset_descriptor",data:=Data.fields #[vs "__weakref__" 214,vr 32,Value.builtin "ExceptionGroup.__weakref__",Value.none] }):Addr×Obj)::
  ((nat_lit 36,{ cls:=Value.type "tuple",data:=Data.seq #[vr 32] }):Addr×Obj)::
  ((nat_lit 43,{ cls:=Value.type "tuple",data:=Data.seq #[vs "" 231] }):Addr×Obj)::
  ((nat_lit 44,{ cls:=Value.type "tuple",data:=Data.seq #[] }):Addr×Obj)::
  ((nat_lit 46,{ cls:=Value.type "tuple",data:=Data.seq #[vs "self" 235,vs "words" 236] }):Addr×Obj)::
  ((nat_lit 47,{ cls:=Value.type "tuple",data:=Data.seq #[] }):Addr×Obj)::
  ((nat_lit 49,{ cls:=Value.type "code",data:=Data.fields #[vs "__init__" 232,vs "BadPairs.__init__" 233,vs "/claim/cut.py" 234,vi 9 0,vi 2 0,vi 0 0,vi 0 0,vi 3 0,vr 44,Value.bool true,vi 181 0,vr 45,Value.none,vr 46,vr 47,vr 48,vi 237 0,vi 9 0,vs "/claim/cut.py" 238] }):Addr×Obj)::
  ((nat_lit 50,{ cls:=Value.type "function",data:=Data.func { name:=u "__init__",qualname:=u "BadPairs.__init__",params:=MA 2 0,body:=FuncBody.stmts (MB 2 0),scope:=MS 2 0,globals:=3,closure:=[],defaults:=vr 43,kwdefaults:=Value.none,pyModule:=vs "lanescribe.errors" 187,code:=vr 49 } }):Addr×Obj)::
  ((nat_lit 51,{ cls:=Value.type "tuple",data:=Data.seq #[] }):Addr×Obj)::
  ((nat_lit 52,{ cls:=Value.type "dict",data:=Data.dict #[de P "__module__" 226 (vs "lanescribe.errors" 187),de P "__firstlineno__" 230 (vi 7 229),de P "__init__" 239 (vr 50),de P "__static_attributes__" 240 (vr 51),de P "__doc__" 241 (Value.none)] 2 }):Addr×Obj)::
  ((nat_lit 53,{ cls:=Value.type "type",data:=Data.cls { name:=u "BadPairs",bases:=[vr 32],mro:=[vr 53,vr 32,Value.type "ValueError",Value.type "Exception",Value.type "BaseException",Value.type "object"],ns:=52,qualname:=u "BadPairs" },slots:=#[some (vr 36),none,some (vs "BadPairs" 219),some (vs "BadPairs" 227),some (Value.builtin "ValueError.__new__"),some (Value.bool true)] }):Addr×Obj)::
  ((nat_lit 56,{ cls:=Value.type "tuple",data:=Data.seq #[] }):Addr×Obj)::
  ((nat_lit 58,{ cls:=Value.type "tuple",data:=Data.seq #[vs "text" 251] }):Addr×Obj)::
  ((nat_lit 59,{ cls:=Value.type "tuple",data:=Data.seq #[] }):Addr×Obj)::
  ((nat_lit 61,{ cls:=Value.type "code",data:=Data.fields #[vs "is_name" 248,vs "is_name" 249,vs "/claim/cut.py" 250,vi 13 0,vi 1 0,vi 0 0,vi 0 0,vi 3 0,vr 56,Value.bool true,vi 181 0,vr 57,Value.none,vr 58,vr 59,vr 60,vi 252 0,vi 13 0,vs "/claim/cut.py" 253] }):Addr×Obj)::
  ((nat_lit 62,{ cls:=Value.type "function",data:=Data.func { name:=u "is_name",qualname:=u "is_name",params:=TA 5,body:=FuncBody.stmts (TB 5),scope:=TS 5,globals:=3,closure:=[],defaults:=Value.none,kwdefaults:=Value.none,pyModule:=vs "lanescribe.kinds" 244,code:=vr 61 } }):Addr×Obj)::
  ((nat_lit 63,{ cls:=Value.type "tuple",data:=Data.seq #[] }):Addr×Obj)::
  ((nat_lit 66,{ cls:=Value.type "code",data:=Data.fields #[vs "need_pairs" 257,vs "need_pairs" 258,vs "/claim/cut.py" 259,vi 16 0,vi 1 0,vi 0 0,vi 0 0,vi 3 0,vr 63,Value.bool true,vi 181 0,vr 64,Value.none,Value.none,Value.none,vr 65,vi 260 0,vi 16 0,vs "/claim/cut.py" 261] }):Addr×Obj)::
  ((nat_lit 67,{ cls:=Value.type "function",data:=Data.func { name:=u "need_pairs",qualname:=u "need_pairs",params:=TA 7,body:=FuncBody.stmts (TB 7),scope:=TS 7,globals:=3,closure:=[],defaults:=Value.none,kwdefaults:=Value.none,pyModule:=vs "lanescribe.spans" 255,code:=vr 66 } }):Addr×Obj)::
  ((nat_lit 68,{ cls:=Value.type "tuple",data:=Data.seq #[] }):Addr×Obj)::
  ((nat_lit 71,{ cls:=Value.type "code",data:=Data.fields #[vs "walked" 263,vs "walked" 264,vs "/claim/cut.py" 265,vi 21 0,vi 2 0,vi 0 0,vi 0 0,vi 3 0,vr 68,Value.bool true,vi 181 0,vr 69,Value.none,Value.none,Value.none,vr 70,vi 266 0,vi 21 0,vs "/claim/cut.py" 267] }):Addr×Obj)::
  ((nat_lit 72,{ cls:=Value.type "function",data:=Data.func { name:=u "walked",qualname:=u "walked",params:=TA 8,body:=FuncBody.stmts (TB 8),scope:=TS 8,globals:=3,closure:=[],defaults:=Value.none,kwdefaults:=Value.none,pyModule:=vs "lanescribe.spans" 255,code:=vr 71 } }):Addr×Obj)::
  ((nat_lit 73,{ cls:=Value.type "tuple",data:=Data.seq #[] }):Addr×Obj)::
  ((nat_lit 75,{ cls:=Value.type "tuple",data:=Data.seq #[vs "found" 272,vs "at" 273,vs "last" 274] }):Addr×Obj)::
  ((nat_lit 76,{ cls:=Value.type "tuple",data:=Data.seq #[] }):Addr×Obj)::
  ((nat_lit 78,{ cls:=Value.type "code",data:=Data.fields #[vs "close" 269,vs "close" 270,vs "/claim/cut.py" 271,vi 40 0,vi 3 0,vi 0 0,vi 0 0,vi 3 0,vr 73,Value.bool true,vi 181 0,vr 74,Value.none,vr 75,vr 76,vr 77,vi 275 0,vi 40 0,vs "/claim/cut.py" 276] }):Addr×Obj)::
  ((nat_lit 79,{ cls:=Value.type "function",data:=Data.func { name:=u "close",qualname:=u "close",params:=TA 9,body:=FuncBody.stmts (TB 9),scope:=TS 9,globals:=3,closure:=[],defaults:=Value.none,kwdefaults:=Value.none,pyModule:=vs "lanescribe.spans" 255,code:=vr 78 } }):Addr×Obj)::
  ((nat_lit 80,{ cls:=Value.type "tuple",data:=Data.seq #[] }):Addr×Obj)::
  ((nat_lit 82,{ cls:=Value.type "tuple",data:=Data.seq #[vs "told" 281,vs "pairs" 282,vs "found" 283,vs "lone" 284] }):Addr×Obj)::
  ((nat_lit 83,{ cls:=Value.type "tuple",data:=Data.seq #[] }):Addr×Obj)::
  ((nat_lit 85,{ cls:=Value.type "code",data:=Data.fields #[vs "spans" 278,vs "spans" 279,vs "/claim/cut.py" 280,vi 42 0,vi 2 0,vi 0 0,vi 0 0,vi 3 0,vr 80,Value.bool true,vi 181 0,vr 81,Value.none,vr 82,vr 83,vr 84,vi 285 0,vi 42 0,vs "/claim/cut.py" 286] }):Addr×Obj)::
  ((nat_lit 86,{ cls:=Value.type "function",data:=Data.func { name:=u "spans",qualname:=u "spans",params:=TA 10,body:=FuncBody.stmts (TB 10),scope:=TS 10,globals:=3,closure:=[],defaults:=Value.none,kwdefaults:=Value.none,pyModule:=vs "lanescribe.spans" 255,code:=vr 85 } }):Addr×Obj)::
  ((nat_lit 87,{ cls:=Value.type "tuple",data:=Data.seq #[] }):Addr×Obj)::
  ((nat_lit 89,{ cls:=Value.type "tuple",data:=Data.seq #[vs "told" 291,vs "pairs" 292,vs "found" 293,vs "lone" 294] }):Addr×Obj)::
  ((nat_lit 90,{ cls:=Value.type "tuple",data:=Data.seq #[] }):Addr×Obj)::
  ((nat_lit 92,{ cls:=Value.type "code",data:=Data.fields #[vs "strays" 288,vs "strays" 289,vs "/claim/cut.py" 290,vi 45 0,vi 2 0,vi 0 0,vi 0 0,vi 3 0,vr 87,Value.bool true,vi 181 0,vr 88,Value.none,vr 89,vr 90,vr 91,vi 295 0,vi 45 0,vs "/claim/cut.py" 296] }):Addr×Obj)::
  ((nat_lit 93,{ cls:=Value.type "function",data:=Data.func { name:=u "strays",qualname:=u "strays",params:=TA 11,body:=FuncBody.stmts (TB 11),scope:=TS 11,globals:=3,closure:=[],defaults:=Value.none,kwdefaults:=Value.none,pyModule:=vs "lanescribe.spans" 255,code:=vr 92 } }):Addr×Obj)::
  ((nat_lit 94,{ cls:=Value.type "tuple",data:=Data.seq #[] }):Addr×Obj)::
  ((nat_lit 97,{ cls:=Value.type "code",data:=Data.fields #[vs "deepest" 298,vs "deepest" 299,vs "/claim/cut.py" 300,vi 48 0,vi 2 0,vi 0 0,vi 0 0,vi 3 0,vr 94,Value.bool true,vi 181 0,vr 95,Value.none,Value.none,Value.none,vr 96,vi 301 0,vi 48 0,vs "/claim/cut.py" 302] }):Addr×Obj)::
  ((nat_lit 98,{ cls:=Value.type "function",data:=Data.func { name:=u "deepest",qualname:=u "deepest",params:=TA 12,body:=FuncBody.stmts (TB 12),scope:=TS 12,globals:=3,closure:=[],defaults:=Value.none,kwdefaults:=Value.none,pyModule:=vs "lanescribe.spans" 255,code:=vr 97 } }):Addr×Obj)::
  ((nat_lit 99,{ cls:=Value.type "tuple",data:=Data.seq #[] }):Addr×Obj)::
  ((nat_lit 101,{ cls:=Value.type "tuple",data:=Data.seq #[vs "_law_script" 309,vs "_law_seed" 310,vs "_law_cell" 311] }):Addr×Obj)::
  ((nat_lit 102,{ cls:=Value.type "tuple",data:=Data.seq #[] }):Addr×Obj)::
  ((nat_lit 104,{ cls:=Value.type "code",data:=Data.fields #[vs "_law_begin" 306,vs "_law_begin" 307,vs "/claim/cut.py" 308,vi 51 0,vi 1 0,vi 0 0,vi 0 0,vi 3 0,vr 99,Value.bool true,vi 181 0,vr 100,Value.none,vr 101,vr 102,vr 103,vi 312 0,vi 51 0,vs "/claim/cut.py" 313] }):Addr×Obj)::
  ((nat_lit 105,{ cls:=Value.type "function",data:=Data.func { name:=u "_law_begin",qualname:=u "_law_begin",params:=TA 14,body:=FuncBody.stmts (TB 14),scope:=TS 14,globals:=3,closure:=[],defaults:=Value.none,kwdefaults:=Value.none,pyModule:=vs "law_lanescribe_k31_whole_spans_lie_within_on" 304,code:=vr 104 } }):Addr×Obj)::
  ((nat_lit 106,{ cls:=Value.type "tuple",data:=Data.seq #[] }):Addr×Obj)::
  ((nat_lit 108,{ cls:=Value.type "tuple",data:=Data.seq #[vs "_law_d" 318,vs "_law_many" 319,vs "_law_cell" 320,vs "_law_digit" 321,vs "_law_one" 322] }):Addr×Obj)::
  ((nat_lit 109,{ cls:=Value.type "tuple",data:=Data.seq #[] }):Addr×Obj)::
  ((nat_lit 111,{ cls:=Value.type "code",data:=Data.fields #[vs "_law_pick" 315,vs "_law_pick" 316,vs "/claim/cut.py" 317,vi 56 0,vi 2 0,vi 0 0,vi 0 0,vi 3 0,vr 106,Value.bool true,vi 181 0,vr 107,Value.none,vr 108,vr 109,vr 110,vi 323 0,vi 56 0,vs "/claim/cut.py" 324] }):Addr×Obj)::
  ((nat_lit 112,{ cls:=Value.type "function",data:=Data.func { name:=u "_law_pick",qualname:=u "_law_pick",params:=TA 15,body:=FuncBody.stmts (TB 15),scope:=TS 15,globals:=3,closure:=[],defaults:=Value.none,kwdefaults:=Value.none,pyModule:=vs "law_lanescribe_k31_whole_spans_lie_within_on" 304,code:=vr 111 } }):Addr×Obj)::
  ((nat_lit 113,{ cls:=Value.type "tuple",data:=Data.seq #[] }):Addr×Obj)::
  ((nat_lit 115,{ cls:=Value.type "tuple",data:=Data.seq #[vs "_law_d" 329,vs "_law_things" 330] }):Addr×Obj)::
  ((nat_lit 116,{ cls:=Value.type "tuple",data:=Data.seq #[] }):Addr×Obj)::
  ((nat_lit 118,{ cls:=Value.type "code",data:=Data.fields #[vs "_law_of" 326,vs "_law_of" 327,vs "/claim/cut.py" 328,vi 71 0,vi 2 0,vi 0 0,vi 0 0,vi 3 0,vr 113,Value.bool true,vi 181 0,vr 114,Value.none,vr 115,vr 116,vr 117,vi 331 0,vi 71 0,vs "/claim/cut.py" 332] }):Addr×Obj)::
  ((nat_lit 119,{ cls:=Value.type "function",data:=Data.func { name:=u "_law_of",qualname:=u "_law_of",params:=TA 16,body:=FuncBody.stmts (TB 16),scope:=TS 16,globals:=3,closure:=[],defaults:=Value.none,kwdefaults:=Value.none,pyModule:=vs "law_lanescribe_k31_whole_spans_lie_within_on" 304,code:=vr 118 } }):Addr×Obj)::
  ((nat_lit 120,{ cls:=Value.type "tuple",data:=Data.seq #[] }):Addr×Obj)::
  ((nat_lit 123,{ cls:=Value.type "code",data:=Data.fields #[vs "_law_same" 334,vs "_law_same" 335,vs "/claim/cut.py" 336,vi 73 0,vi 2 0,vi 0 0,vi 0 0,vi 3 0,vr 120,Value.bool true,vi 181 0,vr 121,Value.none,Value.none,Value.none,vr 122,vi 337 0,vi 73 0,vs "/claim/cut.py" 338] }):Addr×Obj)::
  ((nat_lit 124,{ cls:=Value.type "function",data:=Data.func { name:=u "_law_same",qualname:=u "_law_same",params:=TA 17,body:=FuncBody.stmts (TB 17),scope:=TS 17,globals:=3,closure:=[],defaults:=Value.none,kwdefaults:=Value.none,pyModule:=vs "law_lanescribe_k31_whole_spans_lie_within_on" 304,code:=vr 123 } }):Addr×Obj)::
  ((nat_lit 125,{ cls:=Value.type "tuple",data:=Data.seq #[] }):Addr×Obj)::
  ((nat_lit 128,{ cls:=Value.type "code",data:=Data.fields #[vs "_law_word" 340,vs "_law_word" 341,vs "/claim/cut.py" 342,vi 83 0,vi 1 0,vi 0 0,vi 0 0,vi 3 0,vr 125,Value.bool true,vi 181 0,vr 126,Value.none,Value.none,Value.none,vr 127,vi 343 0,vi 83 0,vs "/claim/cut.py" 344] }):Addr×Obj)::
  ((nat_lit 129,{ cls:=Value.type "function",data:=Data.func { name:=u "_law_word",qualname:=u "_law_word",params:=TA 18,body:=FuncBody.stmts (TB 18),scope:=TS 18,globals:=3,closure:=[],defaults:=Value.none,kwdefaults:=Value.none,pyModule:=vs "law_lanescribe_k31_whole_spans_lie_within_on" 304,code:=vr 128 } }):Addr×Obj)::
  ((nat_lit 130,{ cls:=Value.type "tuple",data:=Data.seq #[] }):Addr×Obj)::
  ((nat_lit 132,{ cls:=Value.type "tuple",data:=Data.seq #[vs "_law_d" 349,vs "_law_many" 350,vs "_law_found" 351,vs "_law_k" 352,vs "_law_word_here" 353,vs "_law_step" 354] }):Addr×Obj)::
  ((nat_lit 133,{ cls:=Value.type "tuple",data:=Data.seq #[] }):Addr×Obj)::
  ((nat_lit 135,{ cls:=Value.type "code",data:=Data.fields #[vs "_law_words" 346,vs "_law_words" 347,vs "/claim/cut.py" 348,vi 89 0,vi 2 0,vi 0 0,vi 0 0,vi 3 0,vr 130,Value.bool true,vi 181 0,vr 131,Value.none,vr 132,vr 133,vr 134,vi 355 0,vi 89 0,vs "/claim/cut.py" 356] }):Addr×Obj)::
  ((nat_lit 136,{ cls:=Value.type "function",data:=Data.func { name:=u "_law_words",qualname:=u "_law_words",params:=TA 19,body:=FuncBody.stmts (TB 19),scope:=TS 19,globals:=3,closure:=[],defaults:=Value.none,kwdefaults:=Value.none,pyModule:=vs "law_lanescribe_k31_whole_spans_lie_within_on" 304,code:=vr 135 } }):Addr×Obj)::
  ((nat_lit 137,{ cls:=Value.type "tuple",data:=Data.seq #[] }):Addr×Obj)::
  ((nat_lit 139,{ cls:=Value.type "tuple",data:=Data.seq #[vs "_law_d" 361,vs "_law_names" 362,vs "_law_told" 363,vs "_law_place" 364,vs "_law_time" 365,vs "_law_step" 366] }):Addr×Obj)::
  ((nat_lit 140,{ cls:=Value.type "tuple",data:=Data.seq #[] }):Addr×Obj)::
  ((nat_lit 142,{ cls:=Value.type "code",data:=Data.fields #[vs "_law_span_row" 358,vs "_law_span_row" 359,vs "/claim/cut.py" 360,vi 98 0,vi 2 0,vi 0 0,vi 0 0,vi 3 0,vr 137,Value.bool true,vi 181 0,vr 138,Value.none,vr 139,vr 140,vr 141,vi 367 0,vi 98 0,vs "/claim/cut.py" 368] }):Addr×Obj)::
  ((nat_lit 143,{ cls:=Value.type "function",data:=Data.func { name:=u "_law_span_row",qualname:=u "_law_span_row",params:=TA 20,body:=FuncBody.stmts (TB 20),scope:=TS 20,globals:=3,closure:=[],defaults:=Value.none,kwdefaults:=Value.none,pyModule:=vs "law_lanescribe_k31_whole_spans_lie_within_on" 304,code:=vr 142 } }):Addr×Obj)::
  ((nat_lit 144,{ cls:=Value.type "tuple",data:=Data.seq #[] }):Addr×Obj)::
  ((nat_lit 147,{ cls:=Value.type "code",data:=Data.fields #[vs "_law_span_pairs" 370,vs "_law_span_pairs" 371,vs "/claim/cut.py" 372,vi 110 0,vi 1 0,vi 0 0,vi 0 0,vi 3 0,vr 144,Value.bool true,vi 181 0,vr 145,Value.none,Value.none,Value.none,vr 146,vi 373 0,vi 110 0,vs "/claim/cut.py" 374] }):Addr×Obj)::
  ((nat_lit 148,{ cls:=Value.type "function",data:=Data.func { name:=u "_law_span_pairs",qualname:=u "_law_span_pairs",params:=TA 21,body:=FuncBody.stmts (TB 21),scope:=TS 21,globals:=3,closure:=[],defaults:=Value.none,kwdefaults:=Value.none,pyModule:=vs "law_lanescribe_k31_whole_spans_lie_within_on" 304,code:=vr 147 } }):Addr×Obj)::
  ((nat_lit 149,{ cls:=Value.type "tuple",data:=Data.seq #[] }):Addr×Obj)::
  ((nat_lit 151,{ cls:=Value.type "tuple",data:=Data.seq #[vs "_law_told" 379,vs "_law_first" 380,vs "_law_last" 381,vs "_law_here" 382,vs "_law_thing" 383] }):Addr×Obj)::
  ((nat_lit 152,{ cls:=Value.type "tuple",data:=Data.seq #[] }):Addr×Obj)::
  ((nat_lit 154,{ cls:=Value.type "code",data:=Data.fields #[vs "_law_unbroken" 376,vs "_law_unbroken" 377,vs "/claim/cut.py" 378,vi 114 0,vi 3 0,vi 0 0,vi 0 0,vi 3 0,vr 149,Value.bool true,vi 181 0,vr 150,Value.none,vr 151,vr 152,vr 153,vi 384 0,vi 114 0,vs "/claim/cut.py" 385] }):Addr×Obj)::
  ((nat_lit 155,{ cls:=Value.type "function",data:=Data.func { name:=u "_law_unbroken",qualname:=u "_law_unbroken",params:=TA 22,body:=FuncBody.stmts (TB 22),scope:=TS 22,globals:=3,closure:=[],defaults:=Value.none,kwdefaults:=Value.none,pyModule:=vs "law_lanescribe_k31_whole_spans_lie_within_on" 304,code:=vr 154 } }):Addr×Obj)::
  ((nat_lit 156,{ cls:=Value.type "tuple",data:=Data.seq #[] }):Addr×Obj)::
  ((nat_lit 159,{ cls:=Value.type "code",data:=Data.fields #[vs "law" 387,vs "law" 388,vs "/claim/cut.py" 389,vi 124 0,vi 1 0,vi 0 0,vi 0 0,vi 3 0,vr 156,Value.bool true,vi 181 0,vr 157,Value.none,Value.none,Value.none,vr 158,vi 390 0,vi 124 0,vs "/claim/cut.py" 391] }):Addr×Obj)::
  ((nat_lit 160,{ cls:=Value.type "function",data:=Data.func { name:=u "law",qualname:=u "law",params:=TA 23,body:=FuncBody.stmts (TB 23),scope:=TS 23,globals:=3,closure:=[],defaults:=Value.none,kwdefaults:=Value.none,pyModule:=vs "law_lanescribe_k31_whole_spans_lie_within_on" 304,code:=vr 159 } }):Addr×Obj)::[]
def asK:List Addr:=[2,3,15,22,23,25,26,28,29,30,31,32,33,36,43,44,46,47,49,50,51,52,53,56,58,59,61,62,63,66,67,68,71,72,73,75,76,78,79,80,82,83,85,86,87,89,90,92,93,94,97,98,99,101,102,104,105,106,108,109,111,112,113,115,116,118,119,120,123,124,125,128,129,130,132,133,135,136,137,139,140,142,143,144,147,148,149,151,152,154,155,156,159,160]
theorem eK:∀ P,asK=(KK P).map (·.1):=fun P=>by kernel_rfl
def vw:Program:={ PySem.Challenge.pw_lanescribe_k31_whole_spans_lie_within_on with main:={ PySem.Challenge.pw_lanescribe_k31_whole_spans_lie_within_on.main with body:=[tp 1,tp 2,tp 4,tp 5,tp 7,tp 8,tp 9,tp 10,tp 11,tp 12,tp 14,tp 15,tp 16,tp 17,tp 18,tp 19,tp 20,tp 21,tp 22,tp 23] } }
def ls:List Str:=[u "ScribeError",u "BadPairs"]
def lv:List (Str×WData):=[]
abbrev Xt:Shared→Bool:=fun s=>xlAt vw lv s && recOk (RowW.records (OpenRow.toRowW PySem.Challenge.rw_lanescribe_k31_whole_spans_lie_within_on.row)) s
abbrev hk:Hook:=kHook KK asK eK
theorem said:PySem.Challenge.rw_lanescribe_k31_whole_spans_lie_within_on.wellSaid=true:=by kernel_rfl
theorem openP:opening (OpenRow.toRowW PySem.Challenge.rw_lanescribe_k31_whole_spans_lie_within_on.row).prog=plainProg (OpenRow.toRowW PySem.Challenge.rw_lanescribe_k31_whole_spans_lie_within_on.row).prog.main.scope.names:=by kernel_rfl
theorem by_parts {p:Program} {w:World} {N L:Nat} {s0 s':Shared} {t':Thread} {m0:Nat} {ann:Option Value} {β:Type} {F:Shared→β} {X:β} (h1:(s0.heap.isNs mainGlobals && s0.gens.size == 0)=true) (h2:s0.heap.objs.size=m0) (h3:s0.heap.nsMap mainGlobals "__annotations__" = ann)
    (chain:∀ r,topRun treeTable p w m0 ann L s' t'=some r→topRun treeTable p w m0 ann N s0 (topStub p)=some r)
    (last:((topRun treeTable p w m0 ann L s' t').bind fun s₁=>match staticsOk (importedModules p.main.body) s0.heap s₁.heap && namesBound p s₁.heap && gensDone s₁ && laidKept s0.heap s₁.heap with
      |true=>some s₁
      |false=>none).map F=some X):(topFrom treeTable p w N s0).map F=some X:=by
  cases hA:topRun treeTable p w m0 ann L s' t' with
  |none=>rw [hA] at last;cases last
  | some r=>
    have e:=chain r hA
    unfold topFrom
    rw [h1,h2,h3,e]
    rw [hA] at last
    exact last
abbrev pp:Program:=(OpenRow.toRowW PySem.Challenge.rw_lanescribe_k31_whole_spans_lie_within_on.row).prog
def env:Env:={ scope:=pp.main.scope,locals:=mainNs,globals:=mainNs,cells:=[],code:=vr 13,frame:=some 14 }
abbrev cd:Code:=.body (behindTheImports pp) env
abbrev fp:Pos:={ line:=0,col:=0,endLine:=0,endCol:=0 }
abbrev an:Option Value:=some (vr 6)
abbrev S_0 (w:World) (os:OsState):Shared:=⟨boot_heap w.params,Array.mk [],boot_drawn,boot_toks,os⟩
def o0 (P:Params):Obj:={ cls:=Value.type "tuple",data:=Data.seq #[] }
def o1 (P:Params):Obj:={ cls:=Value.none,data:=Data.fields #[] }
def o2 (P:Params):Obj:={ cls:=Value.type "code",data:=Data.fields #[vs "<module>" 182,vs "<module>" 183,vs "/claim/cut.py" 184,vi 1 0,vi 0 0,vi 0 0,vi 0 0,vi 0 0,vr 11,Value.bool false,vi 181 0,vr 12,Value.none,Value.none,Value.none,Value.none,vi 185 0,vi 1 0,vs "/claim/cut.py" 186] }
def o3 (P:Params):Obj:={ cls:=Value.type "frame",slots:=#[some (vr 13),some (vr 3),some (vr 3),none,some (vs "__main__" 164),none,some (vr 0)] }
def h_a (P:Params):Heap:=⟨⟨boot_o_0 P::boot_o_1 P::boot_o_2 P::boot_o_3 P::boot_o_4 P::boot_o_5 P::boot_o_6 P::boot_o_7 P::boot_o_8 P::boot_o_9 P::boot_o_10 P::o0 P::o1 P::o2 P::o3 P::[]⟩,{ }⟩
abbrev S_a (w:World) (os:OsState):Shared:=⟨h_a w.params,Array.mk [],{ },187,os⟩
abbrev p_a:Pos:={ line:=0,col:=0,endLine:=0,endCol:=0 }
def h_b (P:Params):Heap:=⟨⟨boot_o_0 P::boot_o_1 P::boot_o_2 P::boot_o_3 P::boot_o_4 P::boot_o_5 P::boot_o_6 P::boot_o_7 P::boot_o_8 P::boot_o_9 P::boot_o_10 P::o0 P::o1 P::o2 P::o3 P::[]⟩,{ }⟩
abbrev S_b (w:World) (os:OsState):Shared:=⟨h_b w.params,Array.mk [],{ },187,os⟩
abbrev p_b:Pos:={ line:=0,col:=0,endLine:=0,endCol:=0 }
theorem r_a (w:World) (os:OsState):topGo treeTable pp w 11 an 12 (S_0 w os) (topStub pp)=some (S_a w os,⟨denote treeTable cd,cd,p_a,[topFrame fp]⟩):=by kernel_rfl
theorem r_b (w:World) (os:OsState):segRun treeTable pp w 11 an 1 1 (S_a w os) (blockOf (behindTheImports pp) env cd p_a [topFrame fp])=some (.next,S_b w os,cd,p_b):=by kernel_rfl
abbrev l_z:List Stmt:=(behindTheImports pp).drop 0
theorem all_l:behindTheImports pp=l_z:=by kernel_rfl
theorem last (w:World) (os:OsState):((topRun treeTable pp w 11 an 1515 (S_b w os) (restOf l_z env cd p_b [topFrame fp])).bind fun s₁=>match staticsOk (importedModules pp.main.body) (S_0 w os).heap s₁.heap && namesBound pp s₁.heap && gensDone s₁ && laidKept (S_0 w os).heap s₁.heap with
      |true=>some s₁
      |false=>none).map (fun s=>(openSeen vw ls (importedModules pp.main.body) Xt true s,hk.obs s))=some (openGood vw ls,hk.val w):=by kernel_rfl
theorem chain (w:World) (os:OsState) (r:Shared) (h:topRun treeTable pp w 11 an 1515 (S_b w os) (restOf l_z env cd p_b [topFrame fp])=some r):topRun treeTable pp w 11 an 1528 (S_0 w os) (topStub pp)=some r:=by
  have k:topRun treeTable pp w 11 an 1515 (S_b w os) (restOf l_z env cd p_b [topFrame fp])=some r:=h
  rw [← all_l] at k
  exact go_top (n:=12) (N:=1516) (r_a w os) (piece_block (n:=1) (N:=1515) (r_b w os) k)
theorem run (w:World) (os:OsState):(topFrom treeTable pp w 1528 (S_0 w os)).map (fun s=>(openSeen vw ls (importedModules pp.main.body) Xt true s,hk.obs s))=some (openGood vw ls,hk.val w):=by_parts (s0:=S_0 w os) (by kernel_rfl) (by kernel_rfl) (by kernel_rfl) (chain w os) (last w os)
theorem left:LeftO (OpenRow.toRowW PySem.Challenge.rw_lanescribe_k31_whole_spans_lie_within_on.row).prog vw ls Xt hk.obs hk.val 1528:=left_boot openP (by decide) (fun s=>by kernel_rfl) run
theorem head (hw:(OpenRow.toRowW PySem.Challenge.rw_lanescribe_k31_whole_spans_lie_within_on.row).promised) {d:DefRec} {kwd:List (Str×Expr)} (hdef:defOf vw PySem.Challenge.rw_lanescribe_k31_whole_spans_lie_within_on.row.name=some (d,kwd)) (hp:PySem.Challenge.rw_lanescribe_k31_whole_spans_lie_within_on.row.prog.theDef PySem.Challenge.rw_lanescribe_k31_whole_spans_lie_within_on.row.name=some (d.params,d.body,d.scope)) (hk1:kwWritten? d.params.kwonlyargs d.params.kw_defaults=some kwd)
    (hc:WalkO vw ls (XL vw lv) (kHook KK asK eK).says (OpenRow.toRowW PySem.Challenge.rw_lanescribe_k31_whole_spans_lie_within_on.row) d kwd fun f vs=>PySem.call f vs):PySem.Challenge.rw_lanescribe_k31_whole_spans_lie_within_on.Holds:=
  holds_law said fun said'=>holds_open (q:=vw) (loose:=ls) (Xt:=Xt) (XP:=XL vw lv) (Yf:=hk.obs) (Ya:=hk.val) (YP:=hk.says) (N:=1528) left hk.of hk.keeps (fun s e=>xl_of s (Bool.and_eq_true_iff.mp e).1) XL.keeps hdef hp hk1 (fun s e=>recFacts_of (Bool.and_eq_true_iff.mp e).2) (by rfl) said' (by decide +kernel) ⟨rfl,rfl,rfl,rfl,rfl,by decide +kernel⟩ hw hc
end
end Kd
namespace L2
open PySem PySem.Spec PyProof.Rows
abbrev Key:=Sum Int Str
def keyIs:Key→Value→Bool
  |.inl k,v=>Value.isInt k v
  |.inr x,v=>Value.isStrOf x v
def keyH (w:World):Key→Int
  |.inl k=>hashInt k
  |.inr x=>hashStr w x
theorem keyIs_shape:∀ {k:Key} {v:Value},keyIs k v=true→(∃ i t,k=Sum.inl i∧v=Value.int i t)∨(∃ x t,k=Sum.inr x∧v=Value.str x t)
  | .inl i,v,h=>by
    obtain ⟨t,e⟩:=Value.isInt_shape (k:=i) (v:=v) h
    exact .inl ⟨i,t,rfl,e⟩
  | .inr x,v,h=>by
    obtain ⟨t,e⟩:=Value.isStrOf_shape (x:=x) (v:=v) h
    exact .inr ⟨x,t,rfl,e⟩
theorem keyIs_int (i:Int) (t:Tok):keyIs (.inl i) (.int i t)=true:=by simp [keyIs,Value.isInt]
theorem keyIs_str (x:Str) (t:Tok):keyIs (.inr x) (.str x t)=true:=by simp [keyIs,Value.isStrOf]
theorem key_ll (a b:Int):decide ((Sum.inl a:Key)=Sum.inl b)=(a == b):=by
  by_cases e:a=b
  · subst e;simp
  · have h:¬ (Sum.inl a:Key)=Sum.inl b:=fun q=>e (Sum.inl.inj q)
    rw [decide_eq_false h]
    exact (beq_eq_false_iff_ne.mpr e).symm
theorem key_rr (a b:Str):decide ((Sum.inr a:Key)=Sum.inr b)=decide (a=b):=by
  by_cases e:a=b
  · subst e;simp
  · have h:¬ (Sum.inr a:Key)=Sum.inr b:=fun q=>e (Sum.inr.inj q)
    rw [decide_eq_false h,decide_eq_false e]
theorem key_lr (a:Int) (b:Str):decide ((Sum.inl a:Key)=Sum.inr b)=false:=decide_eq_false (fun q=>nomatch q)
theorem key_rl (a:Str) (b:Int):decide ((Sum.inr a:Key)=Sum.inl b)=false:=decide_eq_false (fun q=>nomatch q)
def mixKind (prog:Program) (w:World):PySem.KeyKind prog w Key where
  is:=keyIs
  hash:=keyH w
  inj:=fun v a b ha hb=>by
    rcases keyIs_shape ha with ⟨i,t,rfl,rfl⟩|⟨x,t,rfl,rfl⟩
    · rcases keyIs_shape hb with ⟨j,u,rfl,e⟩|⟨y,u,rfl,e⟩
      · injection e with e1 _;rw [e1]
      · exact nomatch e
    · rcases keyIs_shape hb with ⟨j,u,rfl,e⟩|⟨y,u,rfl,e⟩
      · exact nomatch e
      · injection e with e1 _;rw [e1]
  byValue:=fun k v h=>by
    rcases keyIs_shape h with ⟨i,t,rfl,rfl⟩|⟨x,t,rfl,rfl⟩ <;> rfl
  pyHash:=fun hv h=>by
    rcases keyIs_shape hv with ⟨i,t,rfl,rfl⟩|⟨x,t,rfl,rfl⟩
    · exact wpAny_pyHash_int h
    · exact wpAny_pyHash_str h
  eqBool:=fun hu hv h=>by
    rcases keyIs_shape hu with ⟨i,t,rfl,rfl⟩|⟨x,t,rfl,rfl⟩
    · rcases keyIs_shape hv with ⟨j,u,rfl,rfl⟩|⟨y,u,rfl,rfl⟩
      · rw [key_ll] at h;exact wpAny_eqBool_int h
      · rw [key_lr] at h;exact SeqAt.EqAt.int_str i t y u _ _ _ _ h
    · rcases keyIs_shape hv with ⟨j,u,rfl,rfl⟩|⟨y,u,rfl,rfl⟩
      · rw [key_rl] at h;exact SeqAt.EqAt.str_int x t j u _ _ _ _ h
      · rw [key_rr] at h;exact wpAny_eqBool_str h
  «strs»:=fun k x t v h=>by
    rcases keyIs_shape h with ⟨i,u,rfl,e⟩|⟨y,u,rfl,e⟩
    · exact nomatch e
    · injection e with e1 _
      subst e1
      cases v <;> rfl
theorem mixKind_int (prog:Program) (w:World) (i:Int) (t:Tok):(mixKind prog w).is (.inl i) (.int i t)=true:=keyIs_int i t
theorem mixKind_str (prog:Program) (w:World) (x:Str) (t:Tok):(mixKind prog w).is (.inr x) (.str x t)=true:=keyIs_str x t
end L2
namespace L2
open PySem PySem.Spec PyProof.Rows
inductive V where
  |non|bl (b:Bool)|int (i:Int)|str (x:Str)|byt (b:Array UInt8)|flt (b:UInt64)|ref (a:Addr)|ty (n:String)
  deriving DecidableEq
def RelV:V→Value→Prop
  |.non,u=>u=Value.none
  |.bl b,u=>u=Value.bool b
  |.int i,u=>∃ t,u=Value.int i t
  |.str x,u=>∃ t,u=Value.str x t
  |.byt b,u=>∃ t,u=Value.bytes b t
  |.flt b,u=>∃ t,u=Value.float b t
  |.ref a,u=>u=Value.ref a
  |.ty n,u=>u=Value.type n
abbrev Vals:List V→List Value→Prop:=Paired RelV
theorem Vals.length {xs:List V} {us:List Value} (r:Vals xs us):xs.length=us.length:=Paired.length r
theorem Vals.get:∀ {xs:List V} {us:List Value} {i:Nat} {x:V},Vals xs us→xs[i]?=some x→∃ u,us[i]?=some u∧RelV x u
  |_,_,_,_,.nil,e=>by simp at e
  |_,_,0,_,.cons r _,e=>by simp at e;subst e;exact ⟨_,rfl,r⟩
  | _,_,i+1,x,.cons _ t,e=>by
    obtain ⟨u,h1,h2⟩:=Vals.get (i:=i) (x:=x) t (by simpa using e)
    exact ⟨u,by simpa using h1,h2⟩
theorem Vals.set {x:V} {u:Value} (r:RelV x u):∀ {xs:List V} {us:List Value} (i:Nat),Vals xs us→Vals (xs.set i x) (us.set i u)
  |_,_,_,.nil=>.nil
  |_,_,0,.cons _ t=>.cons r t
  |_,_,i+1,.cons q t=>.cons q (Vals.set r i t)
theorem Vals.append:∀ {xs ys:List V} {us ws:List Value},Vals xs us→Vals ys ws→Vals (xs++ys) (us++ws)
  |_,_,_,_,.nil,s=>s
  |_,_,_,_,.cons r t,s=>.cons r (Vals.append t s)
theorem Vals.take:∀ {xs:List V} {us:List Value} (n:Nat),Vals xs us→Vals (xs.take n) (us.take n)
  |_,_,0,_=>.nil
  |_,_,_+1,.nil=>.nil
  |_,_,n+1,.cons r t=>.cons r (Vals.take n t)
theorem Vals.drop:∀ {xs:List V} {us:List Value} (n:Nat),Vals xs us→Vals (xs.drop n) (us.drop n)
  |_,_,0,r=>r
  |_,_,_+1,.nil=>.nil
  |_,_,n+1,.cons _ t=>Vals.drop n t
def RelO:Option V→Option Value→Prop
  |some v,some u=>RelV v u
  |none,none=>True
  |_,_=>False
def KV {κ:Type}:List (κ×V)→List (κ×Value)→Prop:=Paired fun (p:κ×V) (q:κ×Value)=>p.1=q.1∧RelV p.2 q.2
def kV:Key→V
  |.inl i=>.int i
  |.inr x=>.str x
inductive HO where
  |lst (xs:List V)
  |tup (xs:List V)
  |dK (kvs:List (Key×V))|dT (kvs:List (List Key×V))
  |set (S:Int→Bool) (n:Nat)
  |ins (C dx:Addr) (fs:List (Str×V))
  |own (x:Addr)
  |xd (fs:List (Str×V))
  |met (f x:Addr)
  |rng (lo hi:Int)
  |frz (o:Obj) (u:HO)
  |tbl (ps:Array Value)
  |ext (φ:Heap→Prop)
abbrev Hp:=Addr→Option HO
def upd (H:Hp) (a:Addr) (o:HO):Hp:=fun b=>if b=a then some o else H b
theorem upd_same {H:Hp} {a:Addr} {o:HO}:upd H a o a=some o:=by unfold upd;rw [if_pos rfl]
theorem upd_ne {H:Hp} {a b:Addr} {o:HO} (h:b≠a):upd H a o b=H b:=by unfold upd;rw [if_neg h]
theorem ne_of {H:Hp} {a b:Addr} {o u:HO} (h:H a=some o) (h':H b=some u) (d:o≠u):a≠b:=by
  intro e;subst e;rw [h] at h';exact d (Option.some.inj h')
theorem ne_of_none {H:Hp} {a b:Addr} {o:HO} (h:H a=some o) (h':H b=none):a≠b:=by
  intro e;subst e;rw [h] at h';cases h'
section
variable (P:Program) (w:World)
def ObjOk (H:Hp) (h:Heap) (a:Addr):HO→Prop
  |.lst xs=>xs.length≤sizeLine∧∃ (its:List Value) (n:Nat),Vals xs its∧h.get? a=some { cls:=.type "list",data:=.seq its.toArray n }
  |.tup xs=>xs.length≤sizeLine∧∃ its:List Value,Vals xs its∧IsTup h a its.toArray
  |.dK kvs=>kvs.length≤sizeLine∧(a == sysModules)=false∧∃ vs,KV kvs vs∧h.DictOf (mixKind P w) a vs
  |.dT kvs=>kvs.length≤sizeLine∧(a == sysModules)=false∧∃ xs:List (List Key×Addr×Value),
      Paired (fun (p:List Key×V) (q:List Key×Addr×Value)=>p.1=q.1∧H q.2.1=some (.tup (p.1.map kV))∧RelV p.2 q.2.2) kvs xs∧
      ∃ o es ep,h.get? a=some o∧o.ExactDict∧o.data=.dict es ep∧es.toList=xs.map (entryOfKey (tupleKind (mixKind P w)))∧(xs.map (·.1)).Nodup
  |.set S n=>h.SetOf (intKind P w) a S n
  |.ins C dx fs=>H dx=some (.own a)∧fs.length≤1000∧dx≠a∧h.get? a=some (PySem.W.instObj C dx)∧
      ∃ mA,h.Ns1 dx mA∧(∀ f,RelO (fs.lookup f) (mA f))∧PySem.Within mA (fs.map (·.1))
  |.own _=>∃ o,h.get? a=some o
  |.xd fs=>∃ mA,h.Ns1 a mA∧∀ f,RelO (fs.lookup f) (mA f)
  |.rng lo hi=>∃ t u v,h.get? a=some { cls:=.type "range",data:=.fields #[.int lo t,.int hi u,.int 1 v] }
  |.frz o u=>h.get? a=some o∧ObjOk H h a u
  |.tbl ps=>h.get? a=some { cls:=.none,data:=.fields ps }
  |.met f x=>h.get? a=some (PySem.W.methodObj (.ref f) (.ref x))
  |.ext φ=>φ h∧(∃ o,h.get? a=some o)∧∀ h1 h2:Heap,φ h1→(∀ o,h1.get? a=some o→h2.get? a=some o)→φ h2
def HOk (H:Hp) (h:Heap):Prop:=∀ a o,H a=some o→ObjOk P w H h a o
end
section
variable {P:Program} {w:World} {H H':Hp} {h h':Heap} {a:Addr} {o:HO}
theorem ObjOk.lt (x:ObjOk P w H h a o):a<h.objs.size:=by
  cases o with
  |lst xs=>obtain ⟨_,_,_,_,e⟩:=x;exact Heap.lt_size e
  |tup xs=>obtain ⟨_,_,_,p⟩:=x;exact p.lt
  |dK kvs=>obtain ⟨_,_,_,_,o,_,_,e,_⟩:=x;exact Heap.lt_size e
  |dT kvs=>obtain ⟨_,_,_,_,o,_,_,e,_⟩:=x;exact Heap.lt_size e
  |set S n=>obtain ⟨o,_,_,_,e,_⟩:=x;exact Heap.lt_size e
  |ins C dx fs=>obtain ⟨_,_,_,e,_⟩:=x;exact Heap.lt_size e
  |own y=>obtain ⟨_,e⟩:=x;exact Heap.lt_size e
  |xd fs=>obtain ⟨_,⟨_,_,_,e,_⟩,_⟩:=x;exact Heap.lt_size e
  |rng lo hi=>obtain ⟨_,_,_,e⟩:=x;exact Heap.lt_size e
  |frz ob u=>obtain ⟨e,_⟩:=x;exact Heap.lt_size e
  |tbl ps=>exact Heap.lt_size (show h.get? a=some _ from x)
  |met f y=>exact Heap.lt_size (show h.get? a=some _ from x)
  |ext φ=>obtain ⟨_,⟨_,e⟩,_⟩:=x;exact Heap.lt_size e
theorem Paired.mapP {α β:Type} {F G:α→β→Prop}:∀ {l₁:List α} {l₂:List β},Paired F l₁ l₂→(∀ a b,F a b→G a b)→Paired G l₁ l₂
  |_,_,.nil,_=>.nil
  |_,_,.cons r t,f=>.cons (f _ _ r) (Paired.mapP t f)
theorem ObjOk.stay (x:ObjOk P w H h a o) (k:∀ b u,(b=a∨H b=some (.own a))→h.get? b=some u→h'.get? b=some u)
    (ho:∀ b,H b=some (.own a)→H' b=some (.own a)) (ht:∀ b xs,H b=some (.tup xs)→H' b=some (.tup xs)):ObjOk P w H' h' a o:=by
  induction o with
  |lst xs=>obtain ⟨z,its,n,r,e⟩:=x;exact ⟨z,its,n,r,k _ _ (.inl rfl) e⟩
  |tup xs=>obtain ⟨z,its,r,ob,e,c⟩:=x;exact ⟨z,its,r,ob,k _ _ (.inl rfl) e,c⟩
  |dK kvs=>obtain ⟨z,y,vs,r,ob,es,ep,e,c⟩:=x;exact ⟨z,y,vs,r,ob,es,ep,k _ _ (.inl rfl) e,c⟩
  | dT kvs=>
    obtain ⟨z,y,xs,r,ob,es,ep,e,c⟩:=x
    exact ⟨z,y,xs,Paired.mapP r fun p q z=>⟨z.1,ht _ _ z.2.1,z.2.2⟩,ob,es,ep,k _ _ (.inl rfl) e,c⟩
  |set S n=>obtain ⟨ob,es,ep,t,e,c⟩:=x;exact ⟨ob,es,ep,t,k _ _ (.inl rfl) e,c⟩
  | ins C dx fs=>
    obtain ⟨d,z,ne,e,mA,⟨od,es,ep,e2,c⟩,r⟩:=x
    exact ⟨ho _ d,z,ne,k _ _ (.inl rfl) e,mA,⟨od,es,ep,k _ _ (.inr d) e2,c⟩,r⟩
  |own y=>obtain ⟨ob,e⟩:=x;exact ⟨ob,k _ _ (.inl rfl) e⟩
  |xd fs=>obtain ⟨mA,⟨od,es,ep,e,c⟩,r⟩:=x;exact ⟨mA,⟨od,es,ep,k _ _ (.inl rfl) e,c⟩,r⟩
  |rng lo hi=>obtain ⟨t,u,v,e⟩:=x;exact ⟨t,u,v,k _ _ (.inl rfl) e⟩
  |frz ob u ih=>obtain ⟨e,q⟩:=x;exact ⟨k _ _ (.inl rfl) e,ih q⟩
  | tbl ps=>
    have e:h.get? a=some { cls:=.none,data:=.fields ps }:=x
    show h'.get? a=some { cls:=.none,data:=.fields ps }
    exact k a _ (.inl rfl) e
  | met f y=>
    have e:h.get? a=some (PySem.W.methodObj (.ref f) (.ref y)):=x
    show h'.get? a=some (PySem.W.methodObj (.ref f) (.ref y))
    exact k a _ (.inl rfl) e
  |ext φ=>obtain ⟨p,⟨o,e⟩,st⟩:=x;exact ⟨st _ _ p fun o q=>k _ _ (.inl rfl) q,⟨o,k _ _ (.inl rfl) e⟩,st⟩
theorem HOk.lt (x:HOk P w H h) (e:H a=some o):a<h.objs.size:=(x a o e).lt
theorem HOk.fresh (x:HOk P w H h) (e:h.objs.size≤a):H a=none:=by
  cases q:H a with
  |none=>rfl
  |some u=>exact absurd (Nat.lt_of_lt_of_le (x.lt q) e) (Nat.lt_irrefl _)
theorem HOk.kept (x:HOk P w H h) (k:∀ b u,h.get? b=some u→h'.get? b=some u):HOk P w H h':=fun a o e=>
  (x a o e).stay (fun b u _ q=>k b u q) (fun _ q=>q) fun _ _ q=>q
theorem HOk.laid (x:HOk P w H h) (k:∀ b u,h.get? b=some u→h'.get? b=some u) (hp:h.objs.size≤a) (new:ObjOk P w (upd H a o) h' a o):HOk P w (upd H a o) h':=fun b u e=>by
  have hn:=x.fresh hp
  by_cases hb:b=a
  · subst hb;rw [upd_same] at e;cases e;exact new
  · rw [upd_ne hb] at e
    exact (x b u e).stay (fun c v _ q=>k c v q) (fun c q=>by rw [upd_ne (ne_of_none q hn)];exact q) fun c xs q=>by rw [upd_ne (ne_of_none q hn)];exact q
end
def Rd (H:Hp) (a:Addr) (u:HO):Prop:=H a=some u∨∃ o,H a=some (.frz o u)
theorem Rd.ok {P:Program} {w:World} {H:Hp} {h:Heap} {a:Addr} {u:HO} (r:Rd H a u) (x:HOk P w H h):ObjOk P w H h a u:=by
  rcases r with r|⟨o,r⟩
  · exact x a u r
  · obtain ⟨_,q⟩:=x a _ r
    exact q
def Mut:Option HO→Prop
  |some (.lst _)=>True
  |some (.dK _)=>True
  |some (.dT _)=>True
  |some (.set _ _)=>True
  |some (.ins _ _ _)=>True
  |some (.ext _)=>True
  |_=>False
section
variable {P:Program} {w:World} {H:Hp} {h h':Heap} {x e:Addr} {o':HO}
theorem HOk.write (ok:HOk P w H h) (mu:Mut (H x)) (he:e=x∨H e=some (.own x)) (k:∀ b u,b≠e→h.get? b=some u→h'.get? b=some u) (heo:∃ u,h'.get? e=some u)
    (new:ObjOk P w (upd H x o') h' x o'):HOk P w (upd H x o') h':=fun b u q=>by
  have nown:∀ c y,H c=some (.own y)→c≠x:=fun c y r z=>by subst z;rw [r] at mu;exact mu
  have ntup:∀ c xs,H c=some (.tup xs)→c≠x:=fun c xs r z=>by subst z;rw [r] at mu;exact mu
  by_cases hb:b=x
  · subst hb;rw [upd_same] at q;cases q;exact new
  · rw [upd_ne hb] at q
    by_cases hbe:b=e
    · have q':H b=some (.own x):=by
        rcases he with z|z
        · exact absurd (hbe.trans z) hb
        · rw [hbe];exact z
      rw [q] at q';cases q'
      obtain ⟨v,hv⟩:=heo
      exact ⟨v,by rw [hbe];exact hv⟩
    · refine (ok b u q).stay (fun c v hc r=>k c v ?_ r) (fun c r=>by rw [upd_ne (nown c b r)];exact r) fun c xs r=>by rw [upd_ne (ntup c xs r)];exact r
      rcases hc with rfl|hc
      · exact hbe
      · rintro rfl
        rcases he with z|z
        · exact nown c b hc z
        · rw [hc] at z;cases z;exact hb rfl
end
structure Un (fs ex:List Addr) (H H':Hp) (h h':Heap):Prop where
  keep:∀ b o,h.get? b=some o→H b=none→b∉fs→b∉ex→h'.get? b=some o
  slot:∀ b o,h.get? b=some o→H b=none→b∈fs→b∉ex→∃ sl,h'.get? b=some { o with slots:=sl }
  free:∀ b o,h.get? b=some o→H b=none→b∉ex→H' b=none
  there:∀ b o,h.get? b=some o→b∉ex→∃ o',h'.get? b=some o'
  tups:∀ b xs,H b=some (.tup xs)→H' b=some (.tup xs)
  frzs:∀ b o u,H b=some (.frz o u)→H' b=some (.frz o u)
  tbls:∀ b ps,H b=some (.tbl ps)→∃ more,H' b=some (.tbl (ps++more))
section
variable {fs fs' ex ex':List Addr} {H H1 H2:Hp} {h h1 h2 h':Heap} {a x e:Addr} {o:HO}
theorem Un.any (u:Un fs ex H H1 h h1) {b:Addr} {ob:Obj} (q:h.get? b=some ob) (n:H b=none) (hx:b∉ex):∃ sl,h1.get? b=some { ob with slots:=sl }:=by
  by_cases hb:b∈fs
  · exact u.slot b ob q n hb hx
  · exact ⟨ob.slots,u.keep b ob q n hb hx⟩
theorem Un.kept (k:∀ b u,h.get? b=some u→h'.get? b=some u):Un fs ex H H h h':=
  ⟨fun b ob q _ _ _=>k b ob q,fun b ob q _ _ _=>⟨ob.slots,k b ob q⟩,fun _ _ _ n _=>n,fun b ob q _=>⟨ob,k b ob q⟩,fun _ _ q=>q,fun _ _ _ q=>q,fun _ ps q=>⟨#[],by rw [q];simp⟩⟩
theorem Un.refl:Un fs ex H H h h:=Un.kept fun _ _ q=>q
theorem Un.laid (k:∀ b u,h.get? b=some u→h'.get? b=some u) (hp:h.objs.size≤a) (hn:H a=none):Un fs ex H (upd H a o) h h' where
  keep:=fun b u q _ _ _=>k b u q
  slot:=fun b u q _ _ _=>⟨u.slots,k b u q⟩
  free:=fun b u q n _=>by rw [upd_ne (Nat.ne_of_lt (Nat.lt_of_lt_of_le (Heap.lt_size q) hp))];exact n
  there:=fun b u q _=>⟨u,k b u q⟩
  tups:=fun b xs q=>by rw [upd_ne (ne_of_none q hn)];exact q
  frzs:=fun b u xs q=>by rw [upd_ne (ne_of_none q hn)];exact q
  tbls:=fun b ps q=>⟨#[],by rw [upd_ne (ne_of_none q hn),q];simp⟩
theorem Un.write (mu:Mut (H x)) (he:e=x∨H e=some (.own x)) (k:∀ b u,b≠e→h.get? b=some u→h'.get? b=some u) (heo:∃ u,h'.get? e=some u):Un fs ex H (upd H x o) h h':=by
  have hx:∀ b,H b=none→b≠x:=fun b n z=>by subst z;rw [n] at mu;exact mu
  have hb:∀ b,H b=none→b≠e:=fun b n z=>by
    subst z
    rcases he with r|r
    · exact hx b n r
    · rw [n] at r;cases r
  have hm:∀ b u,H b=some u→¬ Mut (some u)→b≠x:=fun b u q nm z=>by subst z;rw [q] at mu;exact nm mu
  refine ⟨fun b u q n _ _=>k b u (hb b n) q,fun b u q n _ _=>⟨u.slots,k b u (hb b n) q⟩,fun b u q n _=>by rw [upd_ne (hx b n)];exact n,fun b u q _=>?_,
    fun b xs q=>by rw [upd_ne (hm b _ q fun z=>z)];exact q,fun b u xs q=>by rw [upd_ne (hm b _ q fun z=>z)];exact q,fun b ps q=>⟨#[],by rw [upd_ne (hm b _ q fun z=>z),q];simp⟩⟩
  by_cases hbe:b=e
  · subst hbe;exact heo
  · exact ⟨u,k b u hbe q⟩
end
def trk (h:Heap) (H:Hp):List Addr:=(List.range h.objs.size).filter fun a=>(H a).isSome
def hidT (h:Heap) (H:Hp):Heap:=PySem.W.hideAll h (trk h H)
theorem hidT_size (h:Heap) (H:Hp):(hidT h H).objs.size=h.objs.size:=PySem.W.hideAll_size _ _
theorem hidT_get {h:Heap} {H:Hp} {b:Addr} {o:Obj} (e:h.get? b=some o) (n:H b=none):(hidT h H).get? b=some o:=
  PySem.W.hideAll_get _ e fun hm=>by
    have q:(H b).isSome=true:=(List.mem_filter.mp hm).2
    rw [n] at q;simp at q
theorem of_hidT {h:Heap} {H:Hp} {b:Addr} {o:Obj} (e:(hidT h H).get? b=some o):h.get? b=some o∧H b=none:=by
  have e':h.get? b=some o:=PySem.W.of_hideAll (trk h H) e
  refine ⟨e',?_⟩
  cases q:H b with
  |none=>rfl
  | some x=>
    have hm:b∈trk h H:=List.mem_filter.mpr ⟨List.mem_range.mpr (Heap.lt_size e'),by simp [q]⟩
    have z:(hidT h H).get? b=none:=PySem.W.hideAll_none (trk h H) hm
    rw [z] at e;cases e
end L2
namespace L2
open PySem PySem.Spec PyProof.Rows
structure Mod (K:PySem.W.Frag) (mg:Str→Option Value) (base:Heap):Prop where
  kin:K.In base
  glob:base.Ns mainGlobals mg
  blt:∃ mb,base.Ns builtinsNs mb∧∀ x:Str,x ≠ "__name__"→mb x=bootBuiltins x
  nolimit:base.NoLimit
structure Cx where
  prog:Program
  w:World
  K:PySem.W.Frag
  mg:Str→Option Value
  base:Heap
  A:Around
  N:List Str
  s₀:Shared
  H₀:Hp
  env:Env
  outer:List Env
  stack:List Env
  ex:List Addr
  fn:Str→Bool
  calm:Bool
  pn:List (Addr×Obj)
  xe:Value→Shared→Prop
def frs (l:List Env):List Addr:=l.filterMap (·.frame)
abbrev Cx.fs (X:Cx):List Addr:=frs X.outer
def Vis (sc:Scope) (x:Str):Prop:=sc.names.lookup x=some .local∨sc.names.lookup x=some .cell∨sc.names.lookup x=some .free
def Loc (sc:Scope) (x:Str):Prop:=sc.names.lookup x=some .local∨sc.names.lookup x=some .cell
def Look (env:Env) (h:Heap) (m:Str→Option Value) (x:Str) (u:Value):Prop:=
  (env.kindOf x=some .local∧m x=some u)∨((env.kindOf x=some .cell∨env.kindOf x=some .free)∧∃ c,env.cells.lookup x=some c∧h.IsCell c (some u))
structure Cx.Ok (X:Cx):Prop where
  mod:Mod X.K X.mg X.base
  kind:X.env.scope.kind=.function
  glob:X.env.globals=mainGlobals
  blt:X.env.builtins=builtinsNs
  above:X.s₀.heap.objs.size≤X.env.locals
  inj:∀ x y c,X.env.cells.lookup x=some c→X.env.cells.lookup y=some c→x=y
  has:∀ x,(X.env.kindOf x=some .cell∨X.env.kindOf x=some .free)→∃ c,X.env.cells.lookup x=some c
  cab:∀ x c,X.fn x=true→X.env.cells.lookup x=some c→X.s₀.heap.objs.size≤c
  hd:X.calm=true→X.A.handled=none
  frames:X.A.frames=some X.stack
  stk:X.stack=X.outer∨(X.stack=X.env::X.outer∧X.env.frame=some X.env.locals)
  exf:∀ b∈X.ex,b≠X.env.locals∧∀ x c,X.env.cells.lookup x=some c→c≠b
  bs:∀ b o,X.base.get? b=some o→X.s₀.heap.get? b=some o∧X.H₀ b=none
  bsz:X.base.objs.size≤X.s₀.heap.objs.size
  noex:∀ b o,X.base.get? b=some o→b∉X.ex
  exfs:∀ b∈X.ex,b∉X.fs
  funs:X.s₀.heap.FunFrames X.base X.outer
  frf:∀ b∈X.fs,X.H₀ b=none
structure Inv (X:Cx) (pins:List (Addr×Obj)) (σ:List (Option V)) (H:Hp) (s:Shared):Prop where
  ok:X.Ok
  os:s.os=X.s₀.os
  bare:AllBare s.gens
  base:Un X.fs X.ex X.H₀ H X.s₀.heap s.heap
  loc:∃ m,s.heap.Ns X.env.locals m∧∀ (i:Nat) (x:Str) (v:V),X.N[i]?=some x→σ[i]?=some (some v)→Vis X.env.scope x→∃ u,RelV v u∧Look X.env s.heap m x u
  cell:∀ x c,X.env.cells.lookup x=some c→∃ v,s.heap.IsCell c v
  free:H X.env.locals=none
  freeC:∀ x c,X.env.cells.lookup x=some c→H c=none
  pin:∀ p∈X.pn++pins,s.heap.get? p.1=some p.2∧H p.1=none∧p.1≠X.env.locals∧p.1∉X.fs∧∀ v,p.2.data≠.cell v
  hok:HOk X.prog X.w H s.heap
  len:σ.length=X.N.length
section
variable {X:Cx} {pins:List (Addr×Obj)} {σ:List (Option V)} {H H':Hp} {s:Shared} {h':Heap}
theorem Cx.Ok.nofr (ok:X.Ok) {b:Addr} {o:Obj} (e:X.base.get? b=some o):b∉X.fs:=fun hb=>by
  have:=(ok.funs.mem hb).1
  rw [e] at this;cases this
theorem Inv.bs (I:Inv X pins σ H s):∀ b o,X.base.get? b=some o→s.heap.get? b=some o∧H b=none:=fun b o e=>
  ⟨I.base.keep b o (I.ok.bs b o e).1 (I.ok.bs b o e).2 (I.ok.nofr e) (I.ok.noex b o e),I.base.free b o (I.ok.bs b o e).1 (I.ok.bs b o e).2 (I.ok.noex b o e)⟩
theorem Inv.bk (I:Inv X pins σ H s):∀ b o,X.base.get? b=some o→s.heap.get? b=some o:=fun b o e=>(I.bs b o e).1
theorem Inv.mod (I:Inv X pins σ H s):Mod X.K X.mg X.base:=I.ok.mod
theorem Inv.kIn (I:Inv X pins σ H s):X.K.In s.heap:=I.ok.mod.kin.keeps I.bk
theorem Inv.lt (I:Inv X pins σ H s):X.env.locals<s.heap.objs.size:=let ⟨_,hn,_⟩:=I.loc;hn.lt
theorem Inv.sz (I:Inv X pins σ H s):X.s₀.heap.objs.size≤s.heap.objs.size:=Nat.le_trans I.ok.above (Nat.le_of_lt I.lt)
theorem Inv.nofs (I:Inv X pins σ H s) {a:Addr} (h:s.heap.objs.size≤a):a∉X.fs:=fun hb=>by
  obtain ⟨_,o,ho,_⟩:=I.ok.funs.mem hb
  exact absurd (Nat.lt_of_lt_of_le (Heap.lt_size ho) (Nat.le_trans I.sz h)) (Nat.lt_irrefl _)
theorem Inv.cne (I:Inv X pins σ H s):∀ x c,X.env.cells.lookup x=some c→c≠X.env.locals:=fun x c e z=>by
  obtain ⟨v,o,ho,hd⟩:=I.cell x c e
  obtain ⟨m,⟨o',es,ep,ho',hd',_⟩,_⟩:=I.loc
  rw [z,ho'] at ho;cases ho;rw [hd'] at hd;cases hd
theorem Inv.funs (I:Inv X pins σ H s):s.heap.FunFrames X.base X.outer:=by
  have all:∀ (l:List Env),(∀ b∈frs l,b∈X.fs)→X.s₀.heap.FunFrames X.base l→s.heap.FunFrames X.base l:=by
    intro l
    induction l with
    |nil=>intro _ _;trivial
    | cons env r ih=>
      intro hs hl
      obtain ⟨hk,⟨L,o,hf,hn,ho,hd⟩,hr⟩:=hl
      have hL:L∈X.fs:=hs L (by unfold frs;rw [List.filterMap_cons,hf];exact List.mem_cons_self)
      obtain ⟨sl,e⟩:=I.base.slot L o ho (I.ok.frf L hL) hL fun z=>I.ok.exfs L z hL
      exact ⟨hk,⟨L,_,hf,hn,e,hd⟩,ih (fun b hb=>hs b (by unfold frs;rw [List.filterMap_cons,hf];exact List.mem_cons_of_mem _ hb)) hr⟩
  exact all X.outer (fun _ hb=>hb) I.ok.funs
theorem Inv.stack (I:Inv X pins σ H s):s.heap.FunFrames X.base X.stack:=by
  rcases I.ok.stk with e|⟨e,hf⟩
  · rw [e];exact I.funs
  · rw [e]
    obtain ⟨m,hn,_⟩:=I.loc
    refine .cons (by rw [I.ok.kind];decide) hf hn ?_ I.funs
    exact Heap.get?_none_of_le (Nat.le_trans I.ok.bsz I.ok.above)
theorem Inv.stkSub (I:Inv X pins σ H s):∀ b∈frs X.stack,b∈X.env.locals::X.fs:=fun b hb=>by
  rcases I.ok.stk with e|⟨e,hf⟩
  · rw [e] at hb;exact List.mem_cons_of_mem _ hb
  · rw [e] at hb
    unfold frs at hb
    rw [List.filterMap_cons,hf] at hb
    exact hb
theorem Inv.stkFree (I:Inv X pins σ H s):∀ b∈frs X.stack,H b=none:=fun b hb=>by
  rcases List.mem_cons.mp (I.stkSub b hb) with e|hb
  · rw [e];exact I.free
  · obtain ⟨_,o,ho,_⟩:=I.ok.funs.mem hb
    exact I.base.free b o ho (I.ok.frf b hb) fun z=>I.ok.exfs b z hb
theorem Inv.step {g':Array GenState} {t':Nat} {d':Drawn} {ch:List Addr} (I:Inv X pins σ H s)
    (hch:∀ b∈ch,(b∈X.ex∨X.s₀.heap.objs.size≤b)∧b≠X.env.locals∧(∀ x c,X.env.cells.lookup x=some c→c≠b)∧∀ p∈X.pn++pins,p.1≠b)
    (keep:∀ b o,b≠X.env.locals→b∉X.fs→b∉ch→s.heap.get? b=some o→H b=none→h'.get? b=some o)
    (slot:∀ b o,b≠X.env.locals→b∈X.fs→b∉ch→s.heap.get? b=some o→H b=none→∃ sl,h'.get? b=some { o with slots:=sl }) (free:∀ b o,b∉ch→s.heap.get? b=some o→H b=none→H' b=none)
    (there:∀ b o,b∉ch→s.heap.get? b=some o→∃ o',h'.get? b=some o')
    (tups:∀ b xs,H b=some (.tup xs)→H' b=some (.tup xs)) (frzs:∀ b o u,H b=some (.frz o u)→H' b=some (.frz o u)) (tbls:∀ b ps,H b=some (.tbl ps)→∃ more,H' b=some (.tbl (ps++more)))
    (ns:∀ m,s.heap.Ns X.env.locals m→h'.Ns X.env.locals m) (hok:HOk X.prog X.w H' h') (hg:AllBare g') :
    Inv X pins σ H' { s with heap:=h',gens:=g',drawn:=d',toks:=t' }:=by
  have neL:∀ b o,X.s₀.heap.get? b=some o→b≠X.env.locals:=fun b o e=>Nat.ne_of_lt (Nat.lt_of_lt_of_le (Heap.lt_size e) I.ok.above)
  have neC:∀ b o,X.s₀.heap.get? b=some o→b∉X.ex→b∉ch:=fun b o e hx hb=>by
    rcases (hch b hb).1 with z|z
    · exact hx z
    · exact absurd (Nat.lt_of_lt_of_le (Heap.lt_size e) z) (Nat.lt_irrefl _)
  have cellK:∀ x c,X.env.cells.lookup x=some c→∀ v,s.heap.IsCell c v→h'.IsCell c v:=fun x c e v ⟨o,ho,hd⟩=>by
    have nch:c∉ch:=fun z=>(hch c z).2.2.1 x c e rfl
    by_cases hc:c∈X.fs
    · obtain ⟨sl,q⟩:=slot c o (I.cne x c e) hc nch ho (I.freeC x c e)
      exact ⟨_,q,hd⟩
    · exact ⟨o,keep c o (I.cne x c e) hc nch ho (I.freeC x c e),hd⟩
  refine ⟨I.ok,I.os,hg,⟨fun b o e n hb hx=>?_,fun b o e n hb hx=>?_,fun b o e n hx=>?_,fun b o e hx=>?_,fun b xs e=>tups b xs (I.base.tups b xs e),fun b o xs e=>frzs b o xs (I.base.frzs b o xs e),fun b ps e=>?_⟩,?_,fun x c e=>?_,?_,fun x c e=>?_,fun p hp=>?_,hok,I.len⟩
  · exact keep b o (neL b o e) hb (neC b o e hx) (I.base.keep b o e n hb hx) (I.base.free b o e n hx)
  · obtain ⟨sl,e1⟩:=I.base.slot b o e n hb hx
    obtain ⟨sl',e2⟩:=slot b _ (neL b o e) hb (neC b o e hx) e1 (I.base.free b o e n hx)
    exact ⟨sl',e2⟩
  · obtain ⟨o',e1⟩:=I.base.there b o e hx
    exact free b o' (neC b o e hx) e1 (I.base.free b o e n hx)
  · obtain ⟨o',e1⟩:=I.base.there b o e hx
    exact there b o' (neC b o e hx) e1
  · obtain ⟨m1,e1⟩:=I.base.tbls b ps e
    obtain ⟨m2,e2⟩:=tbls b _ e1
    exact ⟨m1++m2,by rw [e2,Array.append_assoc]⟩
  · obtain ⟨m,hn,hl⟩:=I.loc
    refine ⟨m,ns m hn,fun i x v e1 e2 e3=>?_⟩
    obtain ⟨u,r,l⟩:=hl i x v e1 e2 e3
    refine ⟨u,r,?_⟩
    rcases l with l|⟨k,c,e,z⟩
    · exact .inl l
    · exact .inr ⟨k,c,e,cellK x c e _ z⟩
  · obtain ⟨v,z⟩:=I.cell x c e
    exact ⟨v,cellK x c e v z⟩
  · obtain ⟨m,⟨o,_,_,ho,_⟩,_⟩:=I.loc
    exact free _ o (fun z=>(hch _ z).2.1 rfl) ho I.free
  · obtain ⟨v,o,ho,hd⟩:=I.cell x c e
    exact free c o (fun z=>(hch c z).2.2.1 x c e rfl) ho (I.freeC x c e)
  · obtain ⟨e,n,ne,nf,d⟩:=I.pin p hp
    have nch:p.1∉ch:=fun z=>(hch p.1 z).2.2.2 p hp rfl
    exact ⟨keep p.1 p.2 ne nf nch e n,free p.1 p.2 nch e n,ne,nf,d⟩
theorem Inv.un {t':Nat} (I:Inv X pins σ H s) (u:Un X.fs [] H H' s.heap h') (hok:HOk X.prog X.w H' h'):Inv X pins σ H' { s with heap:=h',toks:=t' }:=by
  obtain ⟨m,⟨o,es,ep,ho,r⟩,_⟩:=id I.loc
  obtain ⟨sl,hL⟩:=u.any ho I.free (by simp)
  exact I.step (g':=s.gens) (d':=s.drawn) (ch:=[]) (fun _ z=>nomatch z) (fun b o _ hb _ e n=>u.keep b o e n hb (by simp)) (fun b o _ hb _ e n=>u.slot b o e n hb (by simp)) (fun b o _ e n=>u.free b o e n (by simp)) (fun b o _ e=>u.there b o e (by simp)) u.tups u.frzs u.tbls (fun m' hm=>by
    obtain ⟨o',es',ep',ho',r'⟩:=hm
    rw [ho] at ho';cases ho'
    exact ⟨_,es',ep',hL,r'⟩) hok I.bare
theorem Inv.call {g':Array GenState} {t':Nat} {d':Drawn} {ch:List Addr} (I:Inv X pins σ H s) (u:Un (frs X.stack) ch H H' s.heap h') (hok:HOk X.prog X.w H' h') (hg:AllBare g')
    (hch:∀ b∈ch,(b∈X.ex∨X.s₀.heap.objs.size≤b)∧b≠X.env.locals∧(∀ x c,X.env.cells.lookup x=some c→c≠b)∧∀ p∈X.pn++pins,p.1≠b) :
    Inv X pins σ H' { s with heap:=h',gens:=g',drawn:=d',toks:=t' }:=by
  obtain ⟨m,⟨o,es,ep,ho,r⟩,_⟩:=id I.loc
  obtain ⟨sl,hL⟩:=u.any ho I.free fun z=>(hch _ z).2.1 rfl
  exact I.step (ch:=ch) hch (fun b o hL hb hc e n=>u.keep b o e n (fun z=>(List.mem_cons.mp (I.stkSub b z)).elim hL hb) hc) (fun b o _ _ hc e n=>u.any e n hc) (fun b o hc e n=>u.free b o e n hc) (fun b o hc e=>u.there b o e hc) u.tups u.frzs u.tbls (fun m' hm=>by
    obtain ⟨o',es',ep',ho',r'⟩:=hm
    rw [ho] at ho';cases ho'
    exact ⟨_,es',ep',hL,r'⟩) hok hg
theorem Inv.turned {t':Nat} {it:Addr} (I:Inv X pins σ H s) (k:∀ b o,b≠it→s.heap.get? b=some o→h'.get? b=some o) (hn:H it=none) (hL:it≠X.env.locals)
    (h1:it∈X.ex∨X.s₀.heap.objs.size≤it) (h2:∀ x c,X.env.cells.lookup x=some c→c≠it) (h3:∀ p∈X.pn++pins,p.1≠it):Inv X pins σ H { s with heap:=h',toks:=t' }:=by
  have nit:∀ b u,H b=some u→b≠it:=fun b u e z=>by rw [z,hn] at e;cases e
  refine I.step (g':=s.gens) (d':=s.drawn) (ch:=[it]) (fun b hb=>?_) (fun b o _ _ hc e _=>k b o (fun z=>hc (by simp [z])) e) (fun b o _ _ hc e _=>⟨o.slots,k b o (fun z=>hc (by simp [z])) e⟩) (fun _ _ _ _ n=>n)
    (fun b o hc e=>⟨o,k b o (fun z=>hc (by simp [z])) e⟩) (fun _ _ e=>e) (fun _ _ _ e=>e) (fun b ps e=>⟨#[],by rw [e];simp⟩) (fun m hm=>?_) (fun b u e=>?_) I.bare
  · have e:b=it:=by simpa using hb
    subst e
    exact ⟨h1,hL,h2,h3⟩
  · obtain ⟨o,es,ep,ho,r⟩:=hm
    exact ⟨o,es,ep,k _ o (Ne.symm hL) ho,r⟩
  · refine (I.hok b u e).stay (fun c v hc q=>k c v ?_ q) (fun _ q=>q) fun _ _ q=>q
    rcases hc with z|z
    · rw [z];exact nit b u e
    · exact nit c _ z
theorem Inv.tok (I:Inv X pins σ H s) (t:Nat):Inv X pins σ H { s with toks:=t }:=I.un (h':=s.heap) (t':=t) Un.refl I.hok
theorem Inv.kept {t':Nat} (I:Inv X pins σ H s) (k:∀ b u,s.heap.get? b=some u→h'.get? b=some u):Inv X pins σ H { s with heap:=h',toks:=t' }:=I.un (Un.kept k) (I.hok.kept k)
theorem Inv.laid {a:Addr} {o:HO} {t':Nat} (I:Inv X pins σ H s) (k:∀ b u,s.heap.get? b=some u→h'.get? b=some u) (hp:s.heap.objs.size≤a) (new:ObjOk X.prog X.w (upd H a o) h' a o) :
    Inv X pins σ (upd H a o) { s with heap:=h',toks:=t' }:=I.un (Un.laid k hp (I.hok.fresh hp)) (I.hok.laid k hp new)
theorem Inv.write {x e:Addr} {o:HO} {t':Nat} (I:Inv X pins σ H s) (mu:Mut (H x)) (he:e=x∨H e=some (.own x)) (k:∀ b u,b≠e→s.heap.get? b=some u→h'.get? b=some u) (heo:∃ u,h'.get? e=some u)
    (new:ObjOk X.prog X.w (upd H x o) h' x o):Inv X pins σ (upd H x o) { s with heap:=h',toks:=t' }:=I.un (Un.write mu he k heo) (I.hok.write mu he k heo new)
theorem Inv.pins_of {pins':List (Addr×Obj)} (I:Inv X pins σ H s) (h:∀ p∈pins',s.heap.get? p.1=some p.2∧H p.1=none∧p.1≠X.env.locals∧p.1∉X.fs∧∀ v,p.2.data≠.cell v):Inv X pins' σ H s:=
  ⟨I.ok,I.os,I.bare,I.base,I.loc,I.cell,I.free,I.freeC,fun p hp=>(List.mem_append.mp hp).elim (fun z=>I.pin p (List.mem_append_left _ z)) (h p),I.hok,I.len⟩
theorem nodup_ix {N:List Str} (hN:N.Nodup) {i j:Nat} {x:Str} (a:N[i]?=some x) (b:N[j]?=some x):i=j:=by
  obtain ⟨h1,e1⟩:=List.getElem?_eq_some_iff.mp a
  obtain ⟨h2,e2⟩:=List.getElem?_eq_some_iff.mp b
  exact (List.getElem_inj hN).mp (e1.trans e2.symm)
theorem store_ok2 {M:Model} {A:Around} {E:Value→Shared→Prop} {i:Nat} {x:Str} {v:V} {u:Value} {Q:Unit→Shared→Prop} (I:Inv X pins σ H s) (hN:X.N.Nodup) (hi:X.N[i]?=some x) (hx:Loc X.env.scope x) (r:RelV v u)
    (h:∀ s',Inv X pins (σ.set i (some v)) H s'→(∃ a,Heap.SameBut a s.heap s'.heap∧(a=X.env.locals∨X.env.cells.lookup x=some a))→Q () s') (hf:X.fn x=true∨X.env.scope.names.lookup x=some .local:=by first|exact .inl rfl|exact .inr rfl|assumption):wpAny M A (storeName X.env x u) Q E s:=by
  obtain ⟨m,hn,hl⟩:=id I.loc
  have hcls:(X.env.scope.kind == .class || (X.env.scope.kind == .module && X.env.locals != X.env.globals))=false:=by rw [I.ok.kind];rfl
  have hiσ:i<σ.length:=by rw [I.len];exact (List.getElem?_eq_some_iff.mp hi).1
  have cne:=I.cne
  have tracked:∀ {a:Addr} {h':Heap},(∃ o,s.heap.get? a=some o∧H a=none)→Heap.SameBut a s.heap h'→HOk X.prog X.w H h':=fun {a h'} ha hs b ob e=>by
    obtain ⟨_,_,hfree⟩:=ha
    refine (I.hok b ob e).stay (fun c w' hc q=>(hs.2 c ?_).trans q) (fun _ q=>q) fun _ _ q=>q
    rintro rfl
    rcases hc with rfl|hc
    · rw [hfree] at e;cases e
    · rw [hfree] at hc;cases hc
  rcases hx with hk|hk
  · refine wpAny_storeName_local hk hn (fun h' hn' hs=>?_) hcls
    obtain ⟨oL,_,_,hoL,_⟩:=id hn
    refine h _ ⟨I.ok,I.os,I.bare,⟨fun b o e n hb hx=>?_,fun b o e n hb hx=>?_,I.base.free,fun b o e hx=>?_,I.base.tups,I.base.frzs,I.base.tbls⟩,⟨_,hn',fun j y v' e1 e2 e3=>?_⟩,fun y c e=>?_,I.free,I.freeC,fun p hp=>?_,tracked ⟨oL,hoL,I.free⟩ hs,by simpa using I.len⟩ ⟨_,hs,.inl rfl⟩
    · exact (hs.2 b (Nat.ne_of_lt (Nat.lt_of_lt_of_le (Heap.lt_size e) I.ok.above))).trans (I.base.keep b o e n hb hx)
    · obtain ⟨sl,e1⟩:=I.base.slot b o e n hb hx
      exact ⟨sl,(hs.2 b (Nat.ne_of_lt (Nat.lt_of_lt_of_le (Heap.lt_size e) I.ok.above))).trans e1⟩
    · obtain ⟨o',e1⟩:=I.base.there b o e hx
      exact ⟨o',(hs.2 b (Nat.ne_of_lt (Nat.lt_of_lt_of_le (Heap.lt_size e) I.ok.above))).trans e1⟩
    · by_cases hj:j=i
      · subst hj
        rw [hi] at e1;cases e1
        rw [List.getElem?_set_self hiσ] at e2
        cases e2
        exact ⟨u,r,.inl ⟨hk,by simp⟩⟩
      · rw [List.getElem?_set_ne (Ne.symm hj)] at e2
        obtain ⟨u',r',q⟩:=hl j y v' e1 e2 e3
        refine ⟨u',r',?_⟩
        rcases q with ⟨k,e⟩|⟨k,c,e,z⟩
        · refine .inl ⟨k,?_⟩
          have:y≠x:=fun e=>hj (nodup_ix hN e1 (e ▸ hi))
          simp [this,e]
        · exact .inr ⟨k,c,e,z.sameBut hs (cne y c e)⟩
    · obtain ⟨w',z⟩:=I.cell y c e
      exact ⟨w',z.sameBut hs (cne y c e)⟩
    · obtain ⟨e,n,ne,nf,d⟩:=I.pin p hp
      exact ⟨(hs.2 p.1 ne).trans e,n,ne,nf,d⟩
  · have hfn:X.fn x=true:=by
      rcases hf with z|z
      · exact z
      · rw [z] at hk;cases hk
    obtain ⟨c,hc⟩:=I.ok.has x (.inl hk)
    obtain ⟨w',z⟩:=I.cell x c hc
    refine wpAny_storeName_cell I.ok.kind hk hc z (fun h' hc' hs=>?_)
    obtain ⟨oc,hoc,hocd⟩:=id z
    refine h { s with heap:=h' } ⟨I.ok,I.os,I.bare,⟨fun b o e n hb hx=>?_,fun b o e n hb hx=>?_,I.base.free,fun b o e hx=>?_,I.base.tups,I.base.frzs,I.base.tbls⟩,⟨m,hn.sameBut hs (Ne.symm (cne x c hc)),fun j y v' e1 e2 e3=>?_⟩,fun y c' e=>?_,I.free,I.freeC,fun p hp=>?_,tracked ⟨oc,hoc,I.freeC x c hc⟩ hs,by simpa using I.len⟩ ⟨c,hs,.inr hc⟩
    · exact (hs.2 b (Nat.ne_of_lt (Nat.lt_of_lt_of_le (Heap.lt_size e) (I.ok.cab x c hfn hc)))).trans (I.base.keep b o e n hb hx)
    · obtain ⟨sl,e1⟩:=I.base.slot b o e n hb hx
      exact ⟨sl,(hs.2 b (Nat.ne_of_lt (Nat.lt_of_lt_of_le (Heap.lt_size e) (I.ok.cab x c hfn hc)))).trans e1⟩
    · obtain ⟨o',e1⟩:=I.base.there b o e hx
      exact ⟨o',(hs.2 b (Nat.ne_of_lt (Nat.lt_of_lt_of_le (Heap.lt_size e) (I.ok.cab x c hfn hc)))).trans e1⟩
    · by_cases hj:j=i
      · subst hj
        rw [hi] at e1;cases e1
        rw [List.getElem?_set_self hiσ] at e2
        cases e2
        exact ⟨u,r,.inr ⟨.inl hk,c,hc,hc'⟩⟩
      · rw [List.getElem?_set_ne (Ne.symm hj)] at e2
        obtain ⟨u',r',q⟩:=hl j y v' e1 e2 e3
        refine ⟨u',r',?_⟩
        rcases q with q|⟨k,c',e,z'⟩
        · exact .inl q
        · refine .inr ⟨k,c',e,z'.sameBut hs ?_⟩
          rintro rfl
          exact hj (nodup_ix hN e1 (I.ok.inj _ _ _ e hc ▸ hi))
    · by_cases hcc:c'=c
      · subst hcc;exact ⟨_,hc'⟩
      · obtain ⟨w2,z2⟩:=I.cell y c' e
        exact ⟨w2,z2.sameBut hs hcc⟩
    · obtain ⟨e,n,ne,nf,d⟩:=I.pin p hp
      refine ⟨(hs.2 p.1 ?_).trans e,n,ne,nf,d⟩
      intro q
      rw [q,hoc] at e
      have q':oc=p.2:=Option.some.inj e
      exact d w' (by rw [← q'];exact hocd)
theorem store_ok {M:Model} {A:Around} {E:Value→Shared→Prop} {i:Nat} {x:Str} {v:V} {u:Value} {Q:Unit→Shared→Prop} (I:Inv X pins σ H s) (hN:X.N.Nodup) (hi:X.N[i]?=some x) (hx:Loc X.env.scope x) (r:RelV v u)
    (h:∀ s',Inv X pins (σ.set i (some v)) H s'→Q () s') (hf:X.fn x=true∨X.env.scope.names.lookup x=some .local:=by first|exact .inl rfl|exact .inr rfl|assumption):wpAny M A (storeName X.env x u) Q E s:=
  store_ok2 I hN hi hx r (fun s' I' _=>h s' I') hf
theorem Inv.call' {s':Shared} {ch:List Addr} (I:Inv X pins σ H s) (ho:s'.os=s.os) (u:Un (frs X.stack) ch H H' s.heap s'.heap) (hok:HOk X.prog X.w H' s'.heap) (hg:AllBare s'.gens)
    (hch:∀ b∈ch,(b∈X.ex∨X.s₀.heap.objs.size≤b)∧b≠X.env.locals∧(∀ x c,X.env.cells.lookup x=some c→c≠b)∧∀ p∈X.pn++pins,p.1≠b):Inv X pins σ H' s':=by
  obtain ⟨h',g',d',t',o'⟩:=s'
  have e:o'=s.os:=ho
  subst e
  exact I.call (g':=g') (t':=t') (d':=d') u hok hg hch
end
abbrev XK:=Value→Option Addr→Hp→Prop
abbrev St:=List (Option V)
abbrev VK:=V→Hp→Prop
abbrev TE:=St→Hp→VK→Prop
abbrev TT:=St→Hp→(Bool→Hp→Prop)→Prop
abbrev TA:=St→Hp→(List V→Hp→Prop)→Prop
structure Ends where
  nx:St→Hp→Prop
  rt:VK
  bk:St→Hp→Prop:=fun _ _=>False
  ct:St→Hp→Prop:=fun _ _=>False
abbrev TS:=Ends→St→Hp→Prop
def EP (X:Cx) (pins:List (Addr×Obj)) (σ:St) (Q:VK) (u:Value) (s':Shared):Prop:=∃ v H',Inv X pins σ H' s'∧RelV v u∧Q v H'
def TP (X:Cx) (pins:List (Addr×Obj)) (σ:St) (Q:Bool→Hp→Prop) (b:Bool) (s':Shared):Prop:=∃ H',Inv X pins σ H' s'∧Q b H'
def AP (X:Cx) (pins:List (Addr×Obj)) (σ:St) (Q:List V→Hp→Prop) (us:List Value) (s':Shared):Prop:=∃ vs H',Inv X pins σ H' s'∧Vals vs us∧Q vs H'
def SP (X:Cx) (pins:List (Addr×Obj)) (D:Ends) (f:Flow) (s':Shared):Prop:=
  match f with
  |.next=>∃ σ' H',Inv X pins σ' H' s'∧D.nx σ' H'
  |.brk=>∃ σ' H',Inv X pins σ' H' s'∧D.bk σ' H'
  |.cont=>∃ σ' H',Inv X pins σ' H' s'∧D.ct σ' H'
  |.ret u=>∃ v σ' H',Inv X pins σ' H' s'∧RelV v u∧D.rt v H'
def PE (X:Cx) (e:Expr) (t:TE):Prop:=
  ∀ (pins:List (Addr×Obj)) (s:Shared) (σ:St) (H:Hp) (Q:VK),Inv X pins σ H s→t σ H Q→wpAny (model X.prog X.w) X.A (eval e X.env) (EP X pins σ Q) X.xe s
def PT (X:Cx) (e:Expr) (t:TT):Prop:=
  ∀ (pins:List (Addr×Obj)) (s:Shared) (σ:St) (H:Hp) (Q:Bool→Hp→Prop),Inv X pins σ H s→t σ H Q→wpAny (model X.prog X.w) X.A (isTrue e X.env (eval e X.env)) (TP X pins σ Q) X.xe s
def PW (X:Cx) (e:Expr) (t:TT):Prop:=
  ∀ (whole:Sem Value) (pins:List (Addr×Obj)) (s:Shared) (σ:St) (H:Hp) (Q:Bool→Hp→Prop),Inv X pins σ H s→t σ H Q→wpAny (model X.prog X.w) X.A (isTrue e X.env whole) (TP X pins σ Q) X.xe s
theorem PW.pt {X:Cx} {e:Expr} {t:TT} (h:PW X e t):PT X e t:=h _
def PA (X:Cx) (es:List Expr) (t:TA):Prop:=
  ∀ (pos:Pos) (pins:List (Addr×Obj)) (s:Shared) (σ:St) (H:Hp) (Q:List V→Hp→Prop),Inv X pins σ H s→t σ H Q→wpAny (model X.prog X.w) X.A (spliced (backTo pos (starEach es X.env))) (AP X pins σ Q) X.xe s
def PS (X:Cx) (st:Stmt) (t:TS):Prop:=
  ∀ (pins:List (Addr×Obj)) (s:Shared) (σ:St) (H:Hp) (D:Ends),Inv X pins σ H s→t D σ H→wpAny (model X.prog X.w) X.A (exec st X.env) (SP X pins D) X.xe s
def PSs (X:Cx) (st:List Stmt) (t:TS):Prop:=
  ∀ (pins:List (Addr×Obj)) (s:Shared) (σ:St) (H:Hp) (D:Ends),Inv X pins σ H s→t D σ H→wpAny (model X.prog X.w) X.A (execs st X.env) (SP X pins D) X.xe s
theorem thn {α:Type} {t:Sem α} {Q Q':α→Shared→Prop} {M:Model} {A:Around} {E:Value→Shared→Prop} {s:Shared} (h:wpAny M A t Q E s) (hQ:∀ a s,Q a s→Q' a s):wpAny M A t Q' E s:=wpAny_mono h hQ fun _ _ x=>x
end L2
namespace L2
open PySem PySem.Spec PyProof.Rows
section
variable {X:Cx}
theorem bin {a b:Expr} {ta tb:TE} (ha:PE X a ta) (hb:PE X b tb) {pins:List (Addr×Obj)} {s:Shared} {σ:St} {H:Hp} {R:V→V→Hp→Prop} (I:Inv X pins σ H s) (h:ta σ H fun x H1=>tb σ H1 fun y H2=>R x y H2)
    {α:Type} {Q:α→Shared→Prop} {f:Value→Value→Sem α}
    (hf:∀ v u s2 x y H2,Inv X pins σ H2 s2→RelV x v→RelV y u→R x y H2→wpAny (model X.prog X.w) X.A (f v u) Q X.xe s2) :
    wpAny (model X.prog X.w) X.A (eval a X.env) (fun v s₁=>wpAny (model X.prog X.w) X.A (eval b X.env) (fun u s₂=>wpAny (model X.prog X.w) X.A (f v u) Q X.xe s₂) X.xe s₁) X.xe s:=by
  refine thn (ha pins s σ H _ I h) fun v s1 ⟨x,H1,I1,r1,q1⟩=>?_
  refine thn (hb pins s1 σ H1 _ I1 q1) fun u s2 ⟨y,H2,I2,r2,q2⟩=>?_
  exact hf v u s2 x y H2 I2 r1 r2 q2
def tVar (i:Nat):TE:=fun σ H Q=>∃ v,σ[i]?=some (some v)∧Q v H
def tC (v:V):TE:=fun _ H Q=>Q v H
theorem pe_var {i:Nat} {x:Str} {pos:Pos} (hN:X.N[i]?=some x) (hv:Vis X.env.scope x) (hd:(x == ("__debug__" : Str))=false:=by decide) (hcd:(x == ("__classdict__" : Str))=false:=by decide):PE X (.Name x pos) (tVar i):=by
  intro pins s σ H Q I h
  obtain ⟨v,e,h⟩:=h
  obtain ⟨m,hn,hl⟩:=I.loc
  obtain ⟨u,r,l⟩:=hl i x v hN e hv
  have fin:EP X pins σ Q u s:=⟨v,H,I,r,h⟩
  rcases l with ⟨hk,hm⟩|⟨hk,c,hc,hcell⟩
  · exact wpAny_Name (wpAny_loadName_local I.ok.kind hk hn hm fin) hd
  · rcases hk with hk|hk
    · exact wpAny_Name (wpAny_loadName_cell I.ok.kind hk hc hcell fin) hd
    · exact wpAny_Name (wpAny_loadName_free I.ok.kind hk hc hcell fin hcd) hd
theorem pe_int {i j pos}:PE X (.Constant (.int i) j pos) (tC (.int i)):=fun _ _ _ H _ I h=>wpAny_Constant_int ⟨.int i,H,I.tok _,⟨_,rfl⟩,h⟩
theorem pe_bl {b j pos}:PE X (.Constant (.bool b) j pos) (tC (.bl b)):=fun _ _ _ H _ I h=>Constant_bool ⟨.bl b,H,I,rfl,h⟩
theorem pe_non {j pos}:PE X (.Constant .none j pos) (tC .non):=fun _ _ _ H _ I h=>Constant_none ⟨.non,H,I,rfl,h⟩
theorem pe_str {x j pos}:PE X (.Constant (.str x) j pos) (tC (.str x)):=fun _ _ _ H _ I h=>Calls.Constant_str ⟨.str x,H,I.tok _,⟨_,rfl⟩,h⟩
def Gl (X:Cx) (x:Str):Prop:=X.env.kindOf x=some .globalImplicit
theorem ld_glob {E:Value→Shared→Prop} {pins:List (Addr×Obj)} {s:Shared} {σ:St} {H:Hp} {x:Str} {u:Value} {pos:Pos} {Q:Value→Shared→Prop} (I:Inv X pins σ H s) (hg:Gl X x) (hm:X.mg x=some u) (h:Q u s)
    (hd:(x == ("__debug__" : Str))=false:=by decide):wpAny (model X.prog X.w) X.A (eval (.Name x pos) X.env) Q E s:=
  Calls.Name_function_global I.ok.kind hg (Calls.loadGlobal_global (by rw [I.ok.glob];exact I.mod.glob.keeps I.bk) hm h) hd
theorem ld_blt {E:Value→Shared→Prop} {pins:List (Addr×Obj)} {s:Shared} {σ:St} {H:Hp} {x:Str} {u:Value} {pos:Pos} {Q:Value→Shared→Prop} (I:Inv X pins σ H s) (hg:Gl X x) (hm:X.mg x=none) (hv:bootBuiltins x=some u) (h:Q u s)
    (hn:x ≠ "__name__":=by decide) (hd:(x == ("__debug__" : Str))=false:=by decide):wpAny (model X.prog X.w) X.A (eval (.Name x pos) X.env) Q E s:=by
  obtain ⟨mb,h1,h2⟩:=I.mod.blt
  exact Calls.Name_function_global I.ok.kind hg (Calls.loadGlobal_builtin (by rw [I.ok.glob];exact I.mod.glob.keeps I.bk) hm (by rw [I.ok.blt];exact h1.keeps I.bk) ((h2 x hn).trans hv) h) hd
theorem pe_glob {x:Str} {v:V} {u:Value} {pos:Pos} (hg:Gl X x) (hm:X.mg x=some u) (r:RelV v u) (hd:(x == ("__debug__" : Str))=false:=by decide):PE X (.Name x pos) (tC v):=
  fun _ _ _ H _ I h=>ld_glob I hg hm ⟨v,H,I,r,h⟩ hd
theorem pe_bltn {x:Str} {v:V} {u:Value} {pos:Pos} (hg:Gl X x) (hm:X.mg x=none) (hv:bootBuiltins x=some u) (r:RelV v u) (hn:x ≠ "__name__":=by decide) (hd:(x == ("__debug__" : Str))=false:=by decide):PE X (.Name x pos) (tC v):=
  fun _ _ _ H _ I h=>ld_blt I hg hm hv ⟨v,H,I,r,h⟩ hn hd
variable {a b:Expr} {ta tb:TE} {pos:Pos}
def PC (X:Cx) (op:CmpOp) (a b:Expr) (t:TE):Prop:=
  ∀ (pins:List (Addr×Obj)) (s:Shared) (σ:St) (H:Hp) (Q:VK),Inv X pins σ H s→t σ H Q→
    wpAny (model X.prog X.w) X.A (eval a X.env) (fun v s₁=>wpAny (model X.prog X.w) X.A (eval b X.env) (fun u s₂=>wpAny (model X.prog X.w) X.A (compareOp op v u) (EP X pins σ Q) X.xe s₂) X.xe s₁) X.xe s
def tB (t:TE):TT:=fun σ H Q=>t σ H fun x H1=>∃ c,x=.bl c∧Q c H1
theorem pt_cmp {op:CmpOp} {t:TE} (h:PC X op a b t) (h1:behindInMarks op b=false:=by first|exact nobehind _ (by decide) (by decide)|rfl):PT X (.Compare a [op] [b] pos) (tB t):=by
  intro pins s σ H Q I hw
  refine wpAny_isTrue_Compare1 (thn (h pins s σ H _ I hw) fun v s1 h1=>thn h1 fun u s2 h2=>thn h2 fun c s3 ⟨x,H1,I1,r1,q1⟩=>?_) h1
  obtain ⟨d,rfl,q⟩:=q1
  cases r1
  exact wpAny_truthy_bool ⟨H1,I1,q⟩
theorem pt_val {e:Expr} {t:TE} (h:PE X e t) (he:∀ whole,isTrue e X.env whole=(do let v ← whole;standAt e.pos;holding [v] (truthy v)):=by intro _;rfl):PT X e (tB t):=by
  intro pins s σ H Q I hw
  refine isTrue_plain (thn (h pins s σ H _ I hw) fun v s1 ⟨x,H1,I1,r1,q1⟩=>?_) (he _)
  obtain ⟨d,rfl,q⟩:=q1
  cases r1
  exact wpAny_truthy_bool ⟨H1,I1,q⟩
variable {tA tB':TT} {rest:List Expr}
def tAnd (t u:TT):TT:=fun σ H Q=>t σ H fun c H1=>if c=true then u σ H1 Q else Q false H1
def tOr (t u:TT):TT:=fun σ H Q=>t σ H fun c H1=>if c=true then Q true H1 else u σ H1 Q
def tNot (t:TT):TT:=fun σ H Q=>t σ H fun c H1=>Q (!c) H1
theorem pw_and1 (ha:PT X a tA):PW X (.BoolOp .And [a] pos) tA:=by
  intro wh pins s σ H Q I h
  refine isTrue_and (thn (ha pins s σ H Q I h) fun c s1 e=>?_)
  cases c with
  |true=>exact isTrue_and_nil e
  |false=>exact e
theorem pw_or1 (ha:PT X a tA):PW X (.BoolOp .Or [a] pos) tA:=by
  intro wh pins s σ H Q I h
  refine isTrue_or (thn (ha pins s σ H Q I h) fun c s1 e=>?_)
  cases c with
  |false=>exact isTrue_or_nil e
  |true=>exact e
theorem pw_and (ha:PT X a tA) (hb:PW X (.BoolOp .And (b::rest) pos) tB'):PW X (.BoolOp .And (a::b::rest) pos) (tAnd tA tB'):=by
  intro wh pins s σ H Q I h
  refine isTrue_and (thn (ha pins s σ H _ I h) fun c s1 ⟨H1,I1,q1⟩=>?_)
  cases c with
  |true=>exact hb wh pins s1 σ H1 Q I1 q1
  |false=>exact ⟨H1,I1,q1⟩
theorem pw_or (ha:PT X a tA) (hb:PW X (.BoolOp .Or (b::rest) pos) tB'):PW X (.BoolOp .Or (a::b::rest) pos) (tOr tA tB'):=by
  intro wh pins s σ H Q I h
  refine isTrue_or (thn (ha pins s σ H _ I h) fun c s1 ⟨H1,I1,q1⟩=>?_)
  cases c with
  |true=>exact ⟨H1,I1,q1⟩
  |false=>exact hb wh pins s1 σ H1 Q I1 q1
theorem pt_not (ha:PT X a tA):PT X (.UnaryOp .Not a pos) (tNot tA):=by
  intro pins s σ H Q I h
  exact isTrue_not (ha pins s σ H (fun c H1=>Q (!c) H1) I h)
def tAndV (ta tb:TE):TE:=fun σ H Q=>ta σ H fun x H1=>∃ c,x=.bl c∧if c=true then tb σ H1 Q else Q (.bl false) H1
def tOrV (ta tb:TE):TE:=fun σ H Q=>ta σ H fun x H1=>∃ c,x=.bl c∧if c=true then Q (.bl true) H1 else tb σ H1 Q
theorem pe_one {op} {t:TE} (h:PE X a t):PE X (.BoolOp op [a] pos) t:=fun pins s σ H Q I hw=>BoolOp_one (h pins s σ H Q I hw)
theorem pe_and (ha:PE X a ta) (hb:PE X (.BoolOp .And (b::rest) pos) tb):PE X (.BoolOp .And (a::b::rest) pos) (tAndV ta tb):=by
  intro pins s σ H Q I h
  refine BoolOp_and (thn (ha pins s σ H _ I h) fun v s1 ⟨x,H1,I1,r1,q1⟩=>?_)
  obtain ⟨c,rfl,q1⟩:=q1
  cases r1
  refine wpAny_truthy_bool ?_
  cases c with
  |true=>exact hb pins s1 σ H1 Q I1 q1
  |false=>exact ⟨.bl false,H1,I1,rfl,q1⟩
theorem pe_or (ha:PE X a ta) (hb:PE X (.BoolOp .Or (b::rest) pos) tb):PE X (.BoolOp .Or (a::b::rest) pos) (tOrV ta tb):=by
  intro pins s σ H Q I h
  refine BoolOp_or (thn (ha pins s σ H _ I h) fun v s1 ⟨x,H1,I1,r1,q1⟩=>?_)
  obtain ⟨c,rfl,q1⟩:=q1
  cases r1
  refine wpAny_truthy_bool ?_
  cases c with
  |false=>exact hb pins s1 σ H1 Q I1 q1
  |true=>exact ⟨.bl true,H1,I1,rfl,q1⟩
def tIf (t:TT) (ta tb:TE):TE:=fun σ H Q=>t σ H fun c H1=>if c=true then ta σ H1 Q else tb σ H1 Q
theorem pe_ifExp {c:Expr} (hc:PT X c tA) (ha:PE X a ta) (hb:PE X b tb):PE X (.IfExp c a b pos) (tIf tA ta tb):=by
  intro pins s σ H Q I h
  refine wpAny_IfExp (thn (hc pins s σ H _ I h) fun d s1 ⟨H1,I1,q1⟩=>?_)
  cases d with
  |true=>exact ha pins s1 σ H1 Q I1 q1
  |false=>exact hb pins s1 σ H1 Q I1 q1
end
end L2
namespace L2
open PySem PySem.Spec PyProof.Rows
def SqL (K:PySem.W.Frag) (H:Hp) (a:Addr) (xs:List V):Prop:=
  Rd H a (.lst xs)∨
    ∃ (o:Obj) (its:Array Value) (n:Nat),K.lookup a=some o∧o.cls=.type "list"∧o.dict=none∧o.data=.seq its n∧its.size≤sizeLine∧Vals xs its.toList
def SqT (K:PySem.W.Frag) (H:Hp) (a:Addr) (xs:List V):Prop:=
  Rd H a (.tup xs)∨
    ∃ (o:Obj) (its:Array Value) (n:Nat),K.lookup a=some o∧o.cls=.type "tuple"∧o.data=.seq its n∧its.size≤sizeLine∧Vals xs its.toList
def absV:Value→Option V
  |.none=>some .non
  |.bool b=>some (.bl b)
  |.int i _=>some (.int i)
  |.str x _=>some (.str x)
  |.bytes b _=>some (.byt b)
  |.float b _=>some (.flt b)
  |.ref a=>some (.ref a)
  |.type n=>some (.ty n)
  |_=>none
theorem RelV.abs {x:V} {u:Value} (r:RelV x u):absV u=some x:=by
  cases x with
  |non=>cases r;rfl
  |bl _=>cases r;rfl
  |int _=>obtain ⟨t,rfl⟩:=r;rfl
  |str _=>obtain ⟨t,rfl⟩:=r;rfl
  |byt _=>obtain ⟨t,rfl⟩:=r;rfl
  |flt _=>obtain ⟨t,rfl⟩:=r;rfl
  |ref _=>cases r;rfl
  |ty _=>cases r;rfl
theorem RelV.inj {x y:V} {u:Value} (r:RelV x u) (q:RelV y u):x=y:=Option.some.inj (r.abs.symm.trans q.abs)
theorem Vals.inj:∀ {xs ys:List V} {us:List Value},Vals xs us→Vals ys us→xs=ys
  |_,_,_,.nil,.nil=>rfl
  |_,_,_,.cons r t,.cons r' t'=>by rw [r.inj r',Vals.inj t t']
section
variable {X:Cx} {pins:List (Addr×Obj)} {σ:St} {H:Hp} {s:Shared} {a:Addr} {xs ys:List V}
theorem SqL.of {K:PySem.W.Frag} (h:H a=some (.lst xs)):SqL K H a xs:=.inl (.inl h)
theorem SqT.of {K:PySem.W.Frag} (h:H a=some (.tup xs)):SqT K H a xs:=.inl (.inl h)
theorem Inv.list (I:Inv X pins σ H s) (h:SqL X.K H a xs):∃ its:List Value,Vals xs its∧PlainL s.heap a its.toArray∧xs.length≤sizeLine:=by
  rcases h with h|⟨o,its,n,hk,hc,hd,hs,hz,r⟩
  · obtain ⟨z,its,n,r,e⟩:=h.ok I.hok
    exact ⟨its,r,⟨_,n,e,rfl,rfl,rfl⟩,z⟩
  · refine ⟨its.toList,r,⟨o,n,I.kIn a o hk,hc,hd,by simpa using hs⟩,?_⟩
    have e:=r.length
    simp only [Array.length_toList] at e
    omega
theorem Inv.tuple (I:Inv X pins σ H s) (h:SqT X.K H a xs):∃ its:List Value,Vals xs its∧IsTup s.heap a its.toArray∧xs.length≤sizeLine:=by
  rcases h with h|⟨o,its,n,hk,hc,hs,hz,r⟩
  · obtain ⟨z,its,r,p⟩:=h.ok I.hok
    exact ⟨its,r,p,z⟩
  · refine ⟨its.toList,r,⟨o,I.kIn a o hk,hc,n,by simpa using hs⟩,?_⟩
    have e:=r.length
    simp only [Array.length_toList] at e
    omega
theorem Inv.list_inj (I:Inv X pins σ H s) (h:SqL X.K H a xs) (h':SqL X.K H a ys):xs=ys:=by
  obtain ⟨its,r,⟨o,n,e,_,_,d⟩,_⟩:=I.list h
  obtain ⟨its',r',⟨o',n',e',_,_,d'⟩,_⟩:=I.list h'
  rw [e] at e';cases e'
  rw [d] at d'
  injection d' with d1 _
  have:its=its':=by simpa using congrArg Array.toList d1
  subst this
  exact r.inj r'
theorem Inv.tuple_inj (I:Inv X pins σ H s) (h:SqT X.K H a xs) (h':SqT X.K H a ys):xs=ys:=by
  obtain ⟨its,r,⟨o,e,_,n,d⟩,_⟩:=I.tuple h
  obtain ⟨its',r',⟨o',e',_,n',d'⟩,_⟩:=I.tuple h'
  rw [e] at e';cases e'
  rw [d] at d'
  injection d' with d1 _
  have:its=its':=by simpa using congrArg Array.toList d1
  subst this
  exact r.inj r'
end
abbrev Cx.wish (X:Cx) (E:Value→Shared→Prop):Cx:={ X with xe:=E }
abbrev Cx.nox (X:Cx):Cx:=X.wish fun _ _=>False
theorem Cx.Ok.wish {X:Cx} (ok:X.Ok) (E:Value→Shared→Prop):(X.wish E).Ok:=
  ⟨ok.mod,ok.kind,ok.glob,ok.blt,ok.above,ok.inj,ok.has,ok.cab,ok.hd,ok.frames,ok.stk,ok.exf,ok.bs,ok.bsz,ok.noex,ok.exfs,ok.funs,ok.frf⟩
theorem Cx.Ok.unwish {X:Cx} {E:Value→Shared→Prop} (ok:(X.wish E).Ok):X.Ok:=
  ⟨ok.mod,ok.kind,ok.glob,ok.blt,ok.above,ok.inj,ok.has,ok.cab,ok.hd,ok.frames,ok.stk,ok.exf,ok.bs,ok.bsz,ok.noex,ok.exfs,ok.funs,ok.frf⟩
section
variable {X:Cx} {pins:List (Addr×Obj)} {σ:St} {H:Hp} {s:Shared} {E:Value→Shared→Prop}
theorem Inv.wish (I:Inv X pins σ H s) (E:Value→Shared→Prop):Inv (X.wish E) pins σ H s:=⟨I.ok.wish E,I.os,I.bare,I.base,I.loc,I.cell,I.free,I.freeC,I.pin,I.hok,I.len⟩
theorem Inv.unwish (I:Inv (X.wish E) pins σ H s):Inv X pins σ H s:=⟨I.ok.unwish,I.os,I.bare,I.base,I.loc,I.cell,I.free,I.freeC,I.pin,I.hok,I.len⟩
theorem SP.unwish {D:Ends} {f:Flow} {s':Shared} (h:SP (X.wish E) pins D f s'):SP X pins D f s':=by
  cases f with
  |next=>obtain ⟨σ',H',I,q⟩:=h;exact ⟨σ',H',I.unwish,q⟩
  |brk=>obtain ⟨σ',H',I,q⟩:=h;exact ⟨σ',H',I.unwish,q⟩
  |cont=>obtain ⟨σ',H',I,q⟩:=h;exact ⟨σ',H',I.unwish,q⟩
  |ret u=>obtain ⟨v,σ',H',I,r,q⟩:=h;exact ⟨v,σ',H',I.unwish,r,q⟩
theorem PSs.nox {st:List Stmt} {t:TS} (h:PSs X.nox st t):PSs X st t:=fun pins s σ H D I hw=>
  wpAny_mono (h pins s σ H D (I.wish _) hw) (fun _ _ q=>q.unwish) fun _ _ z=>False.elim z
end
section
variable {X:Cx} {st:Stmt} {rest:List Stmt} {t u:TS} {e:Expr} {te:TE} {pos:Pos}
def tNext:TS:=fun D σ H=>D.nx σ H
def tSeq (t u:TS):TS:=fun D σ H=>t { D with nx:=u D } σ H
theorem pss_nil:PSs X [] tNext:=fun _ _ σ H _ I h=>wpAny_execs_nil ⟨σ,H,I,h⟩
theorem pss_cons (h1:PS X st t) (h2:PSs X rest u):PSs X (st::rest) (tSeq t u):=by
  intro pins s σ H D I h
  refine wpAny_execs_cons (thn (h1 pins s σ H { D with nx:=u D } I h) fun f s1 q=>?_)
  cases f with
  | next=>
    obtain ⟨σ',H',I',q⟩:=q
    exact h2 pins s1 σ' H' D I' q
  |ret v=>exact q
  |brk=>exact q
  |cont=>exact q
theorem pss_one (h1:PS X st t):PSs X [st] t:=by
  intro pins s σ H D I h
  refine wpAny_execs_cons (thn (h1 pins s σ H D I h) fun f s1 q=>?_)
  cases f with
  |next=>exact wpAny_execs_nil q
  |ret v=>exact q
  |brk=>exact q
  |cont=>exact q
theorem Inv.quiet {pins:List (Addr×Obj)} {σ:St} {H:Hp} {s:Shared} (I:Inv X pins σ H s):interactive X.env=false:=by simp [interactive,I.ok.kind]
def tDrop (te:TE):TS:=fun D σ H=>te σ H fun _ H1=>D.nx σ H1
theorem ps_expr (he:PE X e te) (hs:swapsWith e none pos.line X.env=pure false:=by rfl):PS X (.Expr e pos) (tDrop te):=by
  intro pins s σ H D I h
  exact wpAny_Expr_any (thn (he pins s σ H _ I h) fun v s1 ⟨x,H1,I1,r1,q1⟩=>⟨σ,H1,I1,q1⟩) I.quiet hs
def tRet (te:TE):TS:=fun D σ H=>te σ H D.rt
theorem ps_ret (he:PE X e te):PS X (.Return (some e) pos) (tRet te):=by
  intro pins s σ H D I h
  exact wpAny_Return_some (thn (he pins s σ H _ I h) fun v s1 ⟨x,H1,I1,r1,q1⟩=>⟨x,σ,H1,I1,r1,q1⟩)
def tIfS (c:TT) (t u:TS):TS:=fun D σ H=>c σ H fun b H1=>if b=true then t D σ H1 else u D σ H1
theorem ps_if {c:Expr} {a b:List Stmt} {tc:TT} (hc:PT X c tc) (ha:PSs X a t) (hb:PSs X b u):PS X (.If c a b pos) (tIfS tc t u):=by
  intro pins s σ H D I h
  refine wpAny_If (thn (hc pins s σ H _ I h) fun d s1 ⟨H1,I1,q1⟩=>?_)
  cases d with
  |true=>exact ha pins s1 σ H1 D I1 q1
  |false=>exact hb pins s1 σ H1 D I1 q1
def tNever:TS:=fun _ _ _=>False
theorem ps_never:PS X st tNever:=fun _ _ _ _ _ _ h=>h.elim
end
abbrev TG:=V→St→Hp→(St→Hp→Prop)→Prop
abbrev TGs:=List V→St→Hp→(St→Hp→Prop)→Prop
def PG (X:Cx) (target:Expr) (t:TG):Prop:=
  ∀ (pins:List (Addr×Obj)) (s:Shared) (σ:St) (H:Hp) (v:V) (u:Value) (Q:St→Hp→Prop),Inv X pins σ H s→RelV v u→t v σ H Q→
    wpAny (model X.prog X.w) X.A (assign target X.env u) (fun _ s'=>∃ σ' H',Inv X pins σ' H' s'∧Q σ' H') X.xe s
def PGs (X:Cx) (ts:List Expr) (t:TGs):Prop:=
  ∀ (pins:List (Addr×Obj)) (s:Shared) (σ:St) (H:Hp) (vs:List V) (us:List Value) (Q:St→Hp→Prop),Inv X pins σ H s→Vals vs us→t vs σ H Q→
    wpAny (model X.prog X.w) X.A (assignInOrder ((assignEach ts X.env).map (·.2)) us) (fun _ s'=>∃ σ' H',Inv X pins σ' H' s'∧Q σ' H') X.xe s
abbrev TSet:=V→V→V→Hp→(Hp→Prop)→Prop
def PSet (X:Cx) (t:TSet):Prop:=
  ∀ (pins:List (Addr×Obj)) (s:Shared) (σ:St) (H:Hp) (o i v:V) (ov iv u:Value) (Q:Hp→Prop),Inv X pins σ H s→RelV o ov→RelV i iv→RelV v u→t o i v H Q→
    wpAny (model X.prog X.w) X.A (setItem ov iv u) (fun _ s'=>∃ H',Inv X pins σ H' s'∧Q H') X.xe s
section
variable {X:Cx} {pos:Pos}
def gName (i:Nat):TG:=fun v σ H Q=>Q (σ.set i (some v)) H
theorem pg_name {i:Nat} {x:Str} (hN:X.N.Nodup) (hi:X.N[i]?=some x) (hx:Loc X.env.scope x) (hf:X.fn x=true∨X.env.scope.names.lookup x=some .local:=by first|exact .inl rfl|exact .inr rfl|assumption):PG X (.Name x pos) (gName i):=by
  intro pins s σ H v u Q I r h
  exact wpAny_assign_Name (store_ok I hN hi hx r (fun s' I'=>⟨_,H,I',h⟩) hf)
def gNil:TGs:=fun vs σ H Q=>vs=[]∧Q σ H
def gCons (t:TG) (u:TGs):TGs:=fun vs σ H Q=>∃ v r,vs=v::r∧t v σ H fun σ' H'=>u r σ' H' Q
theorem pgs_nil:PGs X [] gNil:=by
  intro pins s σ H vs us Q I r h
  obtain ⟨e,h⟩:=h
  subst e
  cases r
  exact assignInOrder_nil ⟨σ,H,I,h⟩
theorem pgs_cons {e:Expr} {es:List Expr} {t:TG} {u:TGs} (h1:PG X e t) (h2:PGs X es u)
    (hs:(assignEach (e::es) X.env).map (·.2)=assign e X.env::(assignEach es X.env).map (·.2):=by rfl):PGs X (e::es) (gCons t u):=by
  intro pins s σ H vs us Q I r h
  obtain ⟨v,vr,e1,h⟩:=h
  subst e1
  cases r with
  | cons r rr=>
    rw [hs]
    refine assignInOrder_cons (thn (h1 pins s σ H _ _ _ I r h) fun _ s1 ⟨σ1,H1,I1,q1⟩=>?_)
    exact h2 pins s1 σ1 H1 _ _ Q I1 rr q1
def gTup (K:PySem.W.Frag) (n:Nat) (t:TGs):TG:=fun v σ H Q=>∃ a xs,v=.ref a∧SqT K H a xs∧xs.length=n∧t xs σ H Q
theorem pg_tup {es:List Expr} {k:Nat} {t:TGs} {n:Nat} (hc:X.calm=true) (h:PGs X es t)
    (hn:(assignEach es X.env).length=n:=by rfl) (hst:(assignEach es X.env).findIdx? (·.1)=none:=by rfl):PG X (.Tuple es k pos) (gTup X.K n t):=by
  intro pins s σ H v u Q I r hw
  obtain ⟨a,xs,e1,hq,hl,hw⟩:=hw
  subst e1
  cases r
  obtain ⟨its,rv,ht,hz⟩:=I.tuple hq
  refine assign_Tuple_tuple (I.ok.hd hc) ht (by simp [hn,← hl,rv.length]) hst fun h' hx=>?_
  have I1:Inv X pins σ H { s with heap:=h' }:=I.kept (t':=s.toks) fun b o e=>hx b o (Nat.ne_of_lt (Heap.lt_size e)) e
  exact h pins _ σ H xs _ Q I1 (by simpa using rv) hw
def gSub (to ti:TE) (t:TSet):TG:=fun v σ H Q=>to σ H fun o H1=>ti σ H1 fun i H2=>t o i v H2 fun H3=>Q σ H3
theorem pg_sub {o i:Expr} {to ti:TE} {t:TSet} (ho:PE X o to) (hi:PE X i ti) (hs:PSet X t)
    (ha:∀ v,assign (.Subscript o i pos) X.env v=(do
      let ov ← holding [v] (eval o X.env)
      let iv ← holding [v,ov] (eval i X.env)
      standAt pos
      holding [v,ov,iv] (setItem ov iv v)
      release [v,ov,iv] []):=by intro _;rfl):PG X (.Subscript o i pos) (gSub to ti t):=by
  intro pins s σ H v u Q I r h
  rw [ha]
  refine wpAny_bind (wpAny_holding (thn (ho pins s σ H _ I h) fun ov s1 ⟨x,H1,I1,r1,q1⟩=>?_))
  refine wpAny_bind (wpAny_holding (thn (hi pins s1 σ H1 _ I1 q1) fun iv s2 ⟨y,H2,I2,r2,q2⟩=>?_))
  refine wpAny_bind (wpAny_standAt (wpAny_bind (wpAny_holding (thn (hs pins s2 σ H2 x y v ov iv u _ I2 r1 r2 r q2) fun _ s3 ⟨H3,I3,q3⟩=>?_))))
  exact wpAny_release ⟨σ,H3,I3,q3⟩
def tAsg (te:TE) (g:TG):TS:=fun D σ H=>te σ H fun x H1=>g x σ H1 D.nx
theorem ps_asg {tg e:Expr} {te:TE} {g:TG} (he:PE X e te) (hg:PG X tg g) (hs:swapsWithSole [tg] e pos.line X.env=pure false:=by rfl) (hw:swappedStores [tg] e X.env=pure none:=by rfl)
    (h1:(assignEach [tg] X.env).map (·.2)=[assign tg X.env]:=by rfl):PS X (.Assign [tg] e pos) (tAsg te g):=by
  intro pins s σ H D I h
  refine wpAny_Assign_stores (thn (he pins s σ H _ I h) fun v s1 ⟨x,H1,I1,r1,q1⟩=>?_) hs hw
  rw [h1]
  exact thn (hg pins s1 σ H1 x v _ I1 r1 q1) fun _ s2 q=>q
theorem ps_set {i:Nat} {x:Str} {e:Expr} {te:TE} {pos':Pos} (hN:X.N.Nodup) (hi:X.N[i]?=some x) (hx:Loc X.env.scope x) (he:PE X e te) (hs:swapsWith e (some (.Name x pos')) pos.line X.env=pure false:=by rfl) (hf:X.fn x=true∨X.env.scope.names.lookup x=some .local:=by first|exact .inl rfl|exact .inr rfl|assumption) :
    PS X (.Assign [.Name x pos'] e pos) (tAsg te (gName i)):=by
  intro pins s σ H D I h
  refine wpAny_Assign_Name (thn (he pins s σ H _ I h) fun v s1 ⟨y,H1,I1,r1,q1⟩=>?_) hs
  exact store_ok I1 hN hi hx r1 (fun s2 I2=>⟨_,H1,I2,q1⟩) hf
end
section
variable {X:Cx} {pos:Pos}
end
structure It where
  go:Nat→Hp→Prop
  yld:Nat→Hp→V→Hp→Prop
  stop:Nat→Hp→Prop
def FpOk (X:Cx) (pins:List (Addr×Obj)) (H:Hp) (b:Addr):Prop:=
  H b=none∧b≠X.env.locals∧b∉X.fs∧(b∈X.ex∨X.s₀.heap.objs.size≤b)∧(∀ x c,X.env.cells.lookup x=some c→c≠b)∧∀ p∈X.pn++pins,p.1≠b
theorem Inv.fpOk {X:Cx} {pins:List (Addr×Obj)} {σ:St} {H H':Hp} {s:Shared} {b:Addr} (I:Inv X pins σ H s) (hb:s.heap.objs.size≤b) (hn:H' b=none):FpOk X pins H' b:=by
  refine ⟨hn,Nat.ne_of_gt (Nat.lt_of_lt_of_le I.lt hb),I.nofs hb,.inr (Nat.le_trans I.sz hb),fun x c e z=>?_,fun p hp z=>?_⟩
  · obtain ⟨v,q⟩:=I.cell x c e
    exact absurd (Nat.lt_of_lt_of_le q.lt (by rw [z];exact hb)) (Nat.lt_irrefl _)
  · exact absurd (Nat.lt_of_lt_of_le (Heap.lt_size (I.pin p hp).1) (by rw [z];exact hb)) (Nat.lt_irrefl _)
structure Turn (P:Program) (w:World) (K:PySem.W.Frag) (tg:Expr) (J:It) (fp:List Addr) (it:Addr) (tn:Nat→Heap→Prop):Prop where
  mem:it∈fp
  obj:∀ i h,tn i h→∀ b∈fp,∃ o,h.get? b=some o∧∀ v,o.data≠.cell v
  keep:∀ i h h',tn i h→(∀ b∈fp,∀ o,h.get? b=some o→h'.get? b=some o)→tn i h'
  item:∀ (X:Cx),X.prog=P→X.w=w→X.K=K→X.calm=true→∀ (i:Nat) (pins:List (Addr×Obj)) (s:Shared) (σ:St) (H:Hp) (E:Value→Shared→Prop),Inv X pins σ H s→(∀ b∈fp,FpOk X pins H b)→tn i s.heap→J.go i H→
    wpAny (model P w) X.A (pyNext (.ref it)) (fun r s1=>∃ u,r=some u∧
      wpAny (model P w) X.A (letOwnedTupleGo tg (.ref it) u) (fun _ s2=>∃ x H',Inv X pins σ H' s2∧RelV x u∧J.yld i H x H'∧tn (i+1) s2.heap∧∀ b∈fp,H' b=none) E s1) E s
  done:∀ (X:Cx),X.prog=P→X.w=w→X.K=K→X.calm=true→∀ (i:Nat) (pins:List (Addr×Obj)) (s:Shared) (σ:St) (H:Hp) (E:Value→Shared→Prop),Inv X pins σ H s→(∀ b∈fp,FpOk X pins H b)→tn i s.heap→J.stop i H→
    wpAny (model P w) X.A (pyNext (.ref it)) (fun r s1=>r=none∧Inv X pins σ H s1) E s
  self:∀ (A:Around) (i:Nat) (s:Shared) (Q:Value→Shared→Prop) (E:Value→Shared→Prop),tn i s.heap→Q (.ref it) s→wpAny (model P w) A (pyIter (.ref it)) Q E s
abbrev TI:=St→Hp→(It→Hp→Prop)→Prop
def PIE (X:Cx) (pins:List (Addr×Obj)) (σ:St) (tg:Expr) (R:It→Hp→Prop) (itv:Value) (s2:Shared):Prop:=
  ∃ (it:Addr) (fp:List Addr) (tn:Nat→Heap→Prop) (J:It) (H':Hp),itv=.ref it∧Inv X pins σ H' s2∧Turn X.prog X.w X.K tg J fp it tn∧tn 0 s2.heap∧(∀ b∈fp,FpOk X pins H' b)∧R J H'
def PI (X:Cx) (tg iter:Expr) (wi:TI):Prop:=
  ∀ (pins:List (Addr×Obj)) (s:Shared) (σ:St) (H:Hp) (R:It→Hp→Prop),Inv X pins σ H s→wi σ H R→
    wpAny (model X.prog X.w) X.A (eval iter X.env) (fun v s1=>wpAny (model X.prog X.w) X.A (pyIter v) (PIE X pins σ tg R) X.xe s1) X.xe s
theorem go_of {M:Model} {A:Around} {E:Value→Shared→Prop} {s:Shared} {tg:Expr} {it:Addr} {u:Value} {o:Obj} {n:String} {vs:Array Value} {Q:Unit→Shared→Prop} (ho:s.heap.get? it=some o) (hc:o.cls=.type n) (hd:o.data=.fields vs)
    (hn:["enumerate","zip","dict_itemiterator","dict_reverseitemiterator","odict_iterator","itertools.zip_longest","itertools.pairwise"].contains n=false) (hQ:Q () s):wpAny M A (letOwnedTupleGo tg (.ref it) u) Q E s:=by
  unfold letOwnedTupleGo
  cases tg <;> first
    |exact wpAny_pure hQ
    |(cases u <;> first
        |exact wpAny_pure hQ
        | (refine wpAny_bind (wpAny_load ho ?_)
           rw [hc,hd]
           show wpAny M A (if (["enumerate","zip","dict_itemiterator","dict_reverseitemiterator","odict_iterator","itertools.zip_longest","itertools.pairwise"].contains n && vs[0]? == some (rawInt _))=true then _ else _) Q E s
           rw [if_neg (by intro h;rw [hn,Bool.false_and] at h;cases h)]
           exact wpAny_pure hQ))
def Itl (K:PySem.W.Frag) (a:Addr):It:=
  ⟨fun i H=>∃ xs x,SqL K H a xs∧xs[i]?=some x,fun i H x H'=>H'=H∧∀ xs,SqL K H a xs→xs[i]?=some x,fun i H=>∃ xs,SqL K H a xs∧xs.length≤i⟩
def Itt (K:PySem.W.Frag) (a:Addr):It:=
  ⟨fun i H=>∃ xs x,SqT K H a xs∧xs[i]?=some x,fun i H x H'=>H'=H∧∀ xs,SqT K H a xs→xs[i]?=some x,fun i H=>∃ xs,SqT K H a xs∧xs.length≤i⟩
def Itr (lo:Int) (n:Nat):It:=⟨fun i _=>i<n,fun i H x H'=>H'=H∧x=.int (lo+i),fun i _=>n≤i⟩
theorem turn_list {P:Program} {w:World} {K:PySem.W.Frag} {tg:Expr} (a it:Addr):Turn P w K tg (Itl K a) [it] it (fun i h=>h.IsListIter it a i) where
  mem:=by simp
  obj:=fun i h st b hb=>by
    have e:b=it:=by simpa using hb
    subst e
    obtain ⟨o,e,c,d⟩:=st
    exact ⟨o,e,fun v z=>by rw [d] at z;cases z⟩
  keep:=fun i h h' st k=>st.at fun o e=>k it (by simp) o e
  item:=by
    intro X hP hw hK hc i pins s σ H E I hf st hg
    subst hP hw hK
    obtain ⟨xs,x,hq,hx⟩:=hg
    obtain ⟨its,rv,p,hz⟩:=I.list hq
    obtain ⟨u,hu,ru⟩:=rv.get hx
    obtain ⟨f0,f1,f2,f3,f4,f5⟩:=hf it (by simp)
    refine wpAny_pyNext_list_item st p.isList (x:=u) (by simpa using hu) fun h' st' sb=>?_
    have I1:Inv X pins σ H { s with heap:=h' }:=I.turned (t':=s.toks) (fun b o hb e=>(sb.2 b hb).trans e) f0 f1 f3 f4 f5
    obtain ⟨o,e,c,d⟩:=id st'
    exact ⟨u,rfl,go_of (s:={ s with heap:=h' }) e c d (by decide) ⟨x,H,I1,ru,⟨rfl,fun ys hy=>by rw [I.list_inj hy hq];exact hx⟩,st',fun b hb=>(hf b hb).1⟩⟩
  done:=by
    intro X hP hw hK hc i pins s σ H E I hf st hg
    subst hP hw hK
    obtain ⟨xs,hq,hx⟩:=hg
    obtain ⟨its,rv,p,hz⟩:=I.list hq
    obtain ⟨f0,f1,f2,f3,f4,f5⟩:=hf it (by simp)
    have hl:=rv.length
    exact wpAny_pyNext_list_end (I.ok.hd hc) st p.isList (by simp;omega) fun h' eb=>⟨rfl,I.turned (t':=s.toks) (fun b o hb e=>eb b o hb e) f0 f1 f3 f4 f5⟩
  self:=fun _ _ _ _ _ st h=>wpAny_pyIter_listiter st h
theorem turn_tuple {P:Program} {w:World} {K:PySem.W.Frag} {tg:Expr} (a it:Addr):Turn P w K tg (Itt K a) [it] it (fun i h=>h.IsTupleIter it a i) where
  mem:=by simp
  obj:=fun i h st b hb=>by
    have e:b=it:=by simpa using hb
    subst e
    obtain ⟨o,e,c,d⟩:=st
    exact ⟨o,e,fun v z=>by rw [d] at z;cases z⟩
  keep:=fun i h h' st k=>st.at fun o e=>k it (by simp) o e
  item:=by
    intro X hP hw hK hc i pins s σ H E I hf st hg
    subst hP hw hK
    obtain ⟨xs,x,hq,hx⟩:=hg
    obtain ⟨its,rv,p,hz⟩:=I.tuple hq
    obtain ⟨u,hu,ru⟩:=rv.get hx
    obtain ⟨f0,f1,f2,f3,f4,f5⟩:=hf it (by simp)
    refine wpAny_pyNext_tuple_item st (show s.heap.IsTuple a its.toArray from p) (x:=u) (by simpa using hu) fun h' st' sb=>?_
    have I1:Inv X pins σ H { s with heap:=h' }:=I.turned (t':=s.toks) (fun b o hb e=>(sb.2 b hb).trans e) f0 f1 f3 f4 f5
    obtain ⟨o,e,c,d⟩:=id st'
    exact ⟨u,rfl,go_of (s:={ s with heap:=h' }) e c d (by decide) ⟨x,H,I1,ru,⟨rfl,fun ys hy=>by rw [I.tuple_inj hy hq];exact hx⟩,st',fun b hb=>(hf b hb).1⟩⟩
  done:=by
    intro X hP hw hK hc i pins s σ H E I hf st hg
    subst hP hw hK
    obtain ⟨xs,hq,hx⟩:=hg
    obtain ⟨its,rv,p,hz⟩:=I.tuple hq
    obtain ⟨f0,f1,f2,f3,f4,f5⟩:=hf it (by simp)
    have hl:=rv.length
    exact wpAny_pyNext_tuple_end (I.ok.hd hc) st (show s.heap.IsTuple a its.toArray from p) (by simp;omega) fun h' eb=>⟨rfl,I.turned (t':=s.toks) (fun b o hb e=>eb b o hb e) f0 f1 f3 f4 f5⟩
  self:=fun _ _ _ _ _ st h=>wpAny_pyIter_tupleiter st h
theorem turn_range {P:Program} {w:World} {K:PySem.W.Frag} {tg:Expr} (it:Addr) (lo:Int) (n:Nat):Turn P w K tg (Itr lo n) [it] it (fun i h=>IsRangeIter h it (lo+(i:Nat)*1) ((n:Int)-(i:Nat)) 1) where
  mem:=by simp
  obj:=fun i h st b hb=>by
    have e:b=it:=by simpa using hb
    subst e
    exact ⟨_,st,fun v z=>by
      have z':Data.fields _=Data.cell v:=z
      cases z'⟩
  keep:=fun i h h' st k=>k it (by simp) _ st
  item:=by
    intro X hP hw hK hc i pins s σ H E I hf st hg
    subst hP hw hK
    obtain ⟨f0,f1,f2,f3,f4,f5⟩:=hf it (by simp)
    have W:=Walks.range (prog:=X.prog) (w:=X.w) (I.ok.hd hc) it lo 1 n
    refine W.item i s _ _ hg st fun v h' tk hv st' kk=>?_
    obtain ⟨t,rfl⟩:=hv
    have I1:Inv X pins σ H { s with heap:=h',toks:=tk }:=I.turned (fun b o hb e=>kk b o (by simpa using hb) e) f0 f1 f3 f4 f5
    refine ⟨_,rfl,go_of (s:={ s with heap:=h',toks:=tk }) (n:="range_iterator") st' rfl rfl (by decide) ⟨.int (lo+i),H,I1,⟨t,?_⟩,⟨rfl,rfl⟩,st',fun b hb=>(hf b hb).1⟩⟩
    rw [Int.mul_one]
  done:=by
    intro X hP hw hK hc i pins s σ H E I hf st hg
    subst hP hw hK
    obtain ⟨f0,f1,f2,f3,f4,f5⟩:=hf it (by simp)
    exact wpAny_pyNext_range_end (I.ok.hd hc) st (by have:n≤i:=hg;omega) fun h' eb=>⟨rfl,I.turned (t':=s.toks) (fun b o hb e=>eb b o hb e) f0 f1 f3 f4 f5⟩
  self:=fun _ _ _ _ _ st h=>wpAny_pyIter_rangeiter st h
end L2
namespace L2
open PySem PySem.Spec PyProof.Rows
section
variable {X:Cx} {tg:Expr}
def iList (K:PySem.W.Frag) (tl:TE):TI:=fun σ H R=>tl σ H fun x H1=>∃ a,x=.ref a∧(∃ xs,SqL K H1 a xs)∧R (Itl K a) H1
def iTup (K:PySem.W.Frag) (tl:TE):TI:=fun σ H R=>tl σ H fun x H1=>∃ a,x=.ref a∧(∃ xs,SqT K H1 a xs)∧R (Itt K a) H1
theorem pi_list {l:Expr} {tl:TE} (hl:PE X l tl):PI X tg l (iList X.K tl):=by
  intro pins s σ H R I h
  refine thn (hl pins s σ H _ I h) fun v s1 ⟨x,H1,I1,r1,q1⟩=>?_
  obtain ⟨a,e,⟨xs,hq⟩,q⟩:=q1
  subst e
  cases r1
  obtain ⟨its,rv,p,hz⟩:=I1.list hq
  refine wpAny_pyIter_list p.isList ?_
  refine ⟨s1.heap.objs.size,[s1.heap.objs.size],_,_,H1,rfl,I1.kept (t':=s1.toks) fun b o e=>Heap.get?_push_of_some _ e,turn_list a _,⟨_,Heap.get?_push_size _ rfl,rfl,rfl⟩,fun b hb=>?_,q⟩
  have e:b=s1.heap.objs.size:=by simpa using hb
  subst e
  exact I1.fpOk (Nat.le_refl _) (I1.hok.fresh (Nat.le_refl _))
theorem pi_tup {l:Expr} {tl:TE} (hl:PE X l tl):PI X tg l (iTup X.K tl):=by
  intro pins s σ H R I h
  refine thn (hl pins s σ H _ I h) fun v s1 ⟨x,H1,I1,r1,q1⟩=>?_
  obtain ⟨a,e,⟨xs,hq⟩,q⟩:=q1
  subst e
  cases r1
  obtain ⟨its,rv,p,hz⟩:=I1.tuple hq
  refine wpAny_pyIter_tuple (show s1.heap.IsTuple a its.toArray from p) ?_
  refine ⟨s1.heap.objs.size,[s1.heap.objs.size],_,_,H1,rfl,I1.kept (t':=s1.toks) fun b o e=>Heap.get?_push_of_some _ e,turn_tuple a _,⟨_,Heap.get?_push_size _ rfl,rfl,rfl⟩,fun b hb=>?_,q⟩
  have e:b=s1.heap.objs.size:=by simpa using hb
  subst e
  exact I1.fpOk (Nat.le_refl _) (I1.hok.fresh (Nat.le_refl _))
theorem range_it {pins:List (Addr×Obj)} {σ:St} {H:Hp} {s:Shared} {R:It→Hp→Prop} {E:Value→Shared→Prop} {lo hi:Int} {t u v:Tok} {tk:Nat} (I:Inv X pins σ H s) (h1:-(2 ^ 62)≤lo) (h2:lo<2 ^ 62) (h3:-(2 ^ 62)≤hi) (h4:hi<2 ^ 62)
    (q:R (Itr lo (hi-lo).toNat) H):wpAny (model X.prog X.w) X.A (pyIter (.ref s.heap.objs.size)) (PIE X pins σ tg R) E { s with heap:=s.heap.push { cls:=.type "range",data:=.fields #[.int lo t,.int hi u,.int 1 v] },toks:=tk }:=by
  refine wpAny_pyIter_range (IsRange.new ..) (small_one h1 h2 h3 h4) ?_
  have I1:Inv X pins σ H { s with heap:=s.heap.push { cls:=.type "range",data:=.fields #[.int lo t,.int hi u,.int 1 v] },toks:=tk }:=I.kept fun b o e=>Heap.get?_push_of_some _ e
  refine ⟨(s.heap.push { cls:=.type "range",data:=.fields #[.int lo t,.int hi u,.int 1 v] }).objs.size,[(s.heap.push { cls:=.type "range",data:=.fields #[.int lo t,.int hi u,.int 1 v] }).objs.size],_,_,H,rfl,
    I1.kept (t':=tk) fun b o e=>Heap.get?_push_of_some _ e,turn_range _ lo (hi-lo).toNat,?_,fun b hb=>?_,q⟩
  · have e1:lo+((0:Nat):Int)*1=lo:=by simp
    have e2:(((hi-lo).toNat:Nat):Int)-((0:Nat):Int)=Builtin.Range.rangeSize lo hi 1:=by rw [rangeSize_one];split <;> omega
    show IsRangeIter _ _ (lo+((0:Nat):Int)*1) ((((hi-lo).toNat:Nat):Int)-((0:Nat):Int)) 1
    rw [e1,e2]
    exact Heap.get?_push_size _ rfl
  · have e:b=(s.heap.push { cls:=.type "range",data:=.fields #[.int lo t,.int hi u,.int 1 v] }).objs.size:=by simpa using hb
    subst e
    exact I1.fpOk (Nat.le_refl _) (I1.hok.fresh (Nat.le_refl _))
def iRng1 (ta:TA):TI:=fun σ H R=>ta σ H fun vs H1=>∃ j:Int,vs=[.int j]∧-(2 ^ 62)≤j∧j<2 ^ 62∧R (Itr 0 j.toNat) H1
theorem pi_range1 {a:Expr} {ta:TA} {p pos:Pos} (hg:Gl X "range") (hm:X.mg "range" = none) (ha:PA X [a] ta) (hs:starEach [a] X.env=[(false,eval a X.env)]:=by rfl):PI X tg (.Call (.Name "range" p) [a] [] pos) (iRng1 ta):=by
  intro pins s σ H R I h
  refine Call_ (ld_blt I hg hm boot_range (PyProof.Rows.callWith_type1 (thn (ha pos pins s σ H _ I h) fun us s1 ⟨vs,H1,I1,r1,q1⟩=>?_) hs rfl))
  obtain ⟨j,e,q1,q2,q⟩:=q1
  subst e
  cases r1 with
  | cons r rr=>
    cases rr
    obtain ⟨t,rfl⟩:=r
    exact call_range_1 (range_it I1 (by omega) (by omega) q1 q2 (by simpa using q))
def tFor (wi:TI) (g:TG) (tb:TS):TS:=fun D σ H=>wi σ H fun J H1=>∃ W:Nat→Nat→St→Hp→Prop,(∃ m,W 0 m σ H1)∧∀ i m σ H,W i m σ H→
  (J.stop i H∧D.nx σ H)∨(J.go i H∧∃ N:St→Hp→Prop,(∀ σ' H',N σ' H'→∃ m',m'<m∧W (i+1) m' σ' H')∧∀ x H',J.yld i H x H'→g x σ H' fun σ2 H2=>tb { D with nx:=N,ct:=N,bk:=D.nx } σ2 H2)
def pinsAt (fp:List Addr) (h:Heap):List (Addr×Obj):=fp.filterMap fun b=>(h.get? b).map fun o=>(b,o)
theorem mem_pinsAt {fp:List Addr} {h:Heap} {b:Addr} {o:Obj} (hb:b∈fp) (e:h.get? b=some o):(b,o)∈pinsAt fp h:=List.mem_filterMap.mpr ⟨b,hb,by rw [e];rfl⟩
theorem of_pinsAt {fp:List Addr} {h:Heap} {p:Addr×Obj} (hp:p∈pinsAt fp h):p.1∈fp∧h.get? p.1=some p.2:=by
  obtain ⟨b,hb,e⟩:=List.mem_filterMap.mp hp
  cases q:h.get? b with
  |none=>rw [q] at e;cases e
  | some o=>
    rw [q] at e
    have e':(b,o)=p:=Option.some.inj e
    subst e'
    exact ⟨hb,q⟩
theorem Inv.pinned {pins:List (Addr×Obj)} {σ:St} {H:Hp} {s:Shared} {fp:List Addr} (I:Inv X pins σ H s) (hf:∀ b∈fp,FpOk X pins H b) (ho:∀ b∈fp,∃ o,s.heap.get? b=some o∧∀ v,o.data≠.cell v):Inv X (pins++pinsAt fp s.heap) σ H s:=
  I.pins_of fun p hp=>(List.mem_append.mp hp).elim (fun z=>I.pin p (List.mem_append_right _ z)) fun z=>by
    obtain ⟨hb,e⟩:=of_pinsAt z
    obtain ⟨f0,f1,f2,_⟩:=hf p.1 hb
    obtain ⟨o,e',d⟩:=ho p.1 hb
    rw [e] at e';cases e'
    exact ⟨e,f0,f1,f2,d⟩
theorem Inv.unpinned {pins pl:List (Addr×Obj)} {σ:St} {H:Hp} {s:Shared} (I:Inv X (pins++pl) σ H s):Inv X pins σ H s:=I.pins_of fun p hp=>I.pin p (List.mem_append_right _ (List.mem_append_left _ hp))
theorem ps_for {iter:Expr} {body:List Stmt} {wi:TI} {g:TG} {tb:TS} {pos:Pos} (hp:PassesOwn (model X.prog X.w) X.A X.env X.xe) (hc:X.calm=true) (hi:PI X tg iter wi) (hg:PG X tg g) (hb:PSs X body tb)
    (hs:∀ x,foldedSetIterable iter X.env x=pure x:=by intro _;rfl):PS X (.For tg iter body [] pos) (tFor wi g tb):=by
  intro pins s σ H D I h
  refine wpAny_For (thn (hi pins s σ H _ I h) fun v s1 h1=>thn h1 fun itv s2 h2=>?_) hs
  obtain ⟨it,fp,tn,J,H2,e,I2,T,st2,f2,W,⟨m0,w0⟩,turn⟩:=h2
  subst e
  have stat:∀ {H':Hp},(∀ b∈fp,H' b=none)→∀ b∈fp,FpOk X pins H' b:=fun hn b hb=>⟨hn b hb,(f2 b hb).2⟩
  refine codeAny_forLoop_any (fun n s'=>∃ i σ' H',Inv X pins σ' H' s'∧tn i s'.heap∧(∀ b∈fp,H' b=none)∧W i n σ' H') ?_ m0 ⟨0,σ,H2,I2,st2,fun b hb=>(f2 b hb).1,w0⟩
  rintro n s3 ⟨i,σ3,H3,I3,st3,fr3,w3⟩
  rcases turn i n σ3 H3 w3 with ⟨stop,qn⟩|⟨go,N,hN,step⟩
  · refine wpAny_passesOwn hp (thn (T.done X rfl rfl rfl hc i pins s3 σ3 H3 X.xe I3 (stat fr3) st3 stop) fun r s4 ⟨hr,I4⟩=>?_)
    subst hr
    exact wpAny_execs_nil ⟨σ3,H3,I4,qn⟩
  · refine wpAny_passesOwn hp (thn (T.item X rfl rfl rfl hc i pins s3 σ3 H3 X.xe I3 (stat fr3) st3 go) fun r s4 ⟨u,hr,h4⟩=>?_)
    subst hr
    refine wpAny_passesOwn hp (thn h4 fun _ s5 ⟨x,H5,I5,r5,y5,st5,fr5⟩=>?_)
    have I5':=I5.pinned (stat fr5) (T.obj _ _ st5)
    refine wpAny_passesOwn hp (thn (hg _ s5 σ3 H5 x u _ I5' r5 (step x H5 y5)) fun _ s6 ⟨σ6,H6,I6,q6⟩=>?_)
    refine wpAny_passesOwn hp (thn (hb _ s6 σ6 H6 _ I6 q6) fun f s7 q7=>?_)
    have again:∀ {σ7:St} {H7:Hp},Inv X (pins++pinsAt fp s5.heap) σ7 H7 s7→N σ7 H7→∃ m,m<n∧∃ i σ' H',Inv X pins σ' H' s7∧tn i s7.heap∧(∀ b∈fp,H' b=none)∧W i m σ' H':=fun {σ7 H7} I7 n7=>by
      obtain ⟨m',hm,w7⟩:=hN σ7 H7 n7
      refine ⟨m',hm,i+1,σ7,H7,I7.unpinned,T.keep _ _ _ st5 fun b hb o e=>(I7.pin (b,o) (List.mem_append_right _ (List.mem_append_right _ (mem_pinsAt hb e)))).1,fun b hb=>?_,w7⟩
      obtain ⟨o,e,d⟩:=T.obj _ _ st5 b hb
      exact (I7.pin (b,o) (List.mem_append_right _ (List.mem_append_right _ (mem_pinsAt hb e)))).2.1
    cases f with
    |next=>obtain ⟨σ7,H7,I7,n7⟩:=q7;exact again I7 n7
    |cont=>obtain ⟨σ7,H7,I7,n7⟩:=q7;exact again I7 n7
    |brk=>obtain ⟨σ7,H7,I7,q7⟩:=q7;exact ⟨σ7,H7,I7.unpinned,q7⟩
    |ret v=>obtain ⟨x7,σ7,H7,I7,r7,q7⟩:=q7;exact ⟨x7,σ7,H7,I7.unpinned,r7,q7⟩
end
theorem for_list {K:PySem.W.Frag} {a:Addr} {xs:List V} {g:TG} {tb:TS} {D:Ends} {σ:St} {H:Hp} (Pv:Nat→St→Hp→Prop) (h0:Pv 0 σ H) (hl:∀ i σ H,i≤xs.length→Pv i σ H→SqL K H a xs)
    (hs:∀ i x σ H,xs[i]?=some x→Pv i σ H→g x σ H fun σ2 H2=>tb { D with nx:=Pv (i+1),ct:=Pv (i+1),bk:=D.nx } σ2 H2) (hd:∀ σ H,Pv xs.length σ H→D.nx σ H) :
    ∃ W:Nat→Nat→St→Hp→Prop,(∃ m,W 0 m σ H)∧∀ i m σ H,W i m σ H→
      ((Itl K a).stop i H∧D.nx σ H)∨((Itl K a).go i H∧∃ N:St→Hp→Prop,(∀ σ' H',N σ' H'→∃ m',m'<m∧W (i+1) m' σ' H')∧∀ x H',(Itl K a).yld i H x H'→g x σ H' fun σ2 H2=>tb { D with nx:=N,ct:=N,bk:=D.nx } σ2 H2):=by
  refine ⟨fun i m σ H=>m=xs.length-i∧i≤xs.length∧Pv i σ H,⟨xs.length,by simp,Nat.zero_le _,h0⟩,?_⟩
  rintro i m σ H ⟨rfl,hi,p⟩
  have q:=hl i σ H hi p
  by_cases hlt:i<xs.length
  · refine .inr ⟨⟨xs,xs[i],q,by simp [hlt]⟩,Pv (i+1),fun σ' H' p'=>⟨xs.length-(i+1),by omega,rfl,hlt,p'⟩,fun x H' y=>?_⟩
    obtain ⟨e,y⟩:=y
    subst e
    exact hs i x σ _ (y xs q) p
  · have e:i=xs.length:=by omega
    subst e
    exact .inl ⟨⟨xs,q,Nat.le_refl _⟩,hd σ H p⟩
theorem for_range {lo:Int} {n:Nat} {g:TG} {tb:TS} {D:Ends} {σ:St} {H:Hp} (Pv:Nat→St→Hp→Prop) (h0:Pv 0 σ H)
    (hs:∀ i σ H,i<n→Pv i σ H→g (.int (lo+i)) σ H fun σ2 H2=>tb { D with nx:=Pv (i+1),ct:=Pv (i+1),bk:=D.nx } σ2 H2) (hd:∀ σ H,Pv n σ H→D.nx σ H) :
    ∃ W:Nat→Nat→St→Hp→Prop,(∃ m,W 0 m σ H)∧∀ i m σ H,W i m σ H→
      ((Itr lo n).stop i H∧D.nx σ H)∨((Itr lo n).go i H∧∃ N:St→Hp→Prop,(∀ σ' H',N σ' H'→∃ m',m'<m∧W (i+1) m' σ' H')∧∀ x H',(Itr lo n).yld i H x H'→g x σ H' fun σ2 H2=>tb { D with nx:=N,ct:=N,bk:=D.nx } σ2 H2):=by
  refine ⟨fun i m σ H=>m=n-i∧i≤n∧Pv i σ H,⟨n,by simp,Nat.zero_le _,h0⟩,?_⟩
  rintro i m σ H ⟨rfl,hi,p⟩
  by_cases hlt:i<n
  · refine .inr ⟨hlt,Pv (i+1),fun σ' H' p'=>⟨n-(i+1),by omega,rfl,hlt,p'⟩,fun x H' y=>?_⟩
    obtain ⟨e,y⟩:=y
    subst e y
    exact hs i σ _ hlt p
  · have e:i=n:=by omega
    subst e
    exact .inl ⟨Nat.le_refl _,hd σ H p⟩
end L2
namespace L2
open PySem PySem.Spec PyProof.Rows
abbrev R2:=V→V→Hp→VK→Prop
def OpR (X:Cx) (f:Value→Value→Sem Value) (r:R2):Prop:=
  ∀ (pins:List (Addr×Obj)) (s:Shared) (σ:St) (H:Hp) (x y:V) (v u:Value) (Q:VK),Inv X pins σ H s→RelV x v→RelV y u→r x y H Q→
    wpAny (model X.prog X.w) X.A (f v u) (EP X pins σ Q) X.xe s
def UnR (X:Cx) (f:Value→Sem Value) (r:V→Hp→VK→Prop):Prop:=
  ∀ (pins:List (Addr×Obj)) (s:Shared) (σ:St) (H:Hp) (x:V) (v:Value) (Q:VK),Inv X pins σ H s→RelV x v→r x H Q→
    wpAny (model X.prog X.w) X.A (f v) (EP X pins σ Q) X.xe s
def CallR (X:Cx) (f:Value) (r:List V→Hp→VK→Prop):Prop:=
  ∀ (pins:List (Addr×Obj)) (s:Shared) (σ:St) (H:Hp) (xs:List V) (us:List Value) (Q:VK),Inv X pins σ H s→Vals xs us→r xs H Q→
    wpAny (model X.prog X.w) X.A (call f us) (EP X pins σ Q) X.xe s
def tOp (r:R2) (ta tb:TE):TE:=fun σ H Q=>ta σ H fun x H1=>tb σ H1 fun y H2=>r x y H2 Q
def tUn (r:V→Hp→VK→Prop) (ta:TE):TE:=fun σ H Q=>ta σ H fun x H1=>r x H1 Q
def rI (C:Int→Int→Prop) (g:Int→Int→V):R2:=fun x y H Q=>∃ i j,x=.int i∧y=.int j∧C i j∧Q (g i j) H
def rI0 (g:Int→Int→V):R2:=fun x y H Q=>∃ i j,x=.int i∧y=.int j∧Q (g i j) H
def rU (g:Int→V):V→Hp→VK→Prop:=fun x H Q=>∃ i,x=.int i∧Q (g i) H
section
variable {X:Cx} {a b c:Expr} {ta tb tc:TE} {pos:Pos}
theorem binT (ha:PE X a ta) (hb:PE X b tb) {pins:List (Addr×Obj)} {s:Shared} {σ:St} {H:Hp} {R:V→V→Hp→Prop} (I:Inv X pins σ H s)
    (h:ta σ H fun x H1=>tb σ H1 fun y H2=>R x y H2) {Q:Value→Shared→Prop} {f:Value→Value→Sem Value}
    (hf:∀ v u s2 x y H2,Inv X pins σ H2 s2→RelV x v→RelV y u→R x y H2→wpAny (model X.prog X.w) X.A (f v u) Q X.xe s2) :
    wpAny (model X.prog X.w) X.A (eval a X.env) (fun v s₁=>wpAny (model X.prog X.w) X.A (eval b X.env) (fun u s₂=>wpAny (model X.prog X.w) X.A (f v u) Q X.xe s₂) X.xe s₁) X.xe s:=by
  refine thn (ha pins s σ H _ I h) fun v s1 ⟨x,H1,I1,r1,q1⟩=>?_
  refine thn (hb pins s1 σ H1 _ I1 q1) fun u s2 ⟨y,H2,I2,r2,q2⟩=>?_
  exact hf v u s2 x y H2 I2 r1 r2 q2
theorem pe_op {op:Operator} {r:R2} (ho:OpR X (binaryOp op) r) (ha:PE X a ta) (hb:PE X b tb):PE X (.BinOp a op b pos) (tOp r ta tb):=by
  intro pins s σ H Q I h
  exact wpAny_BinOp (binT ha hb I h fun v u s2 x y H2 I2 rx ry q=>ho pins s2 σ H2 x y v u Q I2 rx ry q)
theorem pe_un {op:UnaryOp} {r:V→Hp→VK→Prop} (ho:UnR X (unaryOp op) r) (ha:PE X a ta):PE X (.UnaryOp op a pos) (tUn r ta):=by
  intro pins s σ H Q I h
  exact UnaryOp_ (thn (ha pins s σ H _ I h) fun v s1 ⟨x,H1,I1,r1,q1⟩=>ho pins s1 σ H1 x v Q I1 r1 q1)
theorem opI {f:Value→Value→Sem Value} {C:Int→Int→Prop} {g:Int→Int→Int}
    (rule:∀ (i j:Int) (t u:Tok) (s:Shared) (Q:Value→Shared→Prop) (E:Value→Shared→Prop),C i j→Q (.int (g i j) s.toks) { s with toks:=s.toks+1 }→wpAny (model X.prog X.w) X.A (f (.int i t) (.int j u)) Q E s) :
    OpR X f (rI C fun i j=>.int (g i j)):=by
  intro pins s σ H x y v u Q I rx ry h
  obtain ⟨i,j,rfl,rfl,hc,q⟩:=h
  obtain ⟨t,rfl⟩:=rx
  obtain ⟨t',rfl⟩:=ry
  exact rule i j t t' s _ _ hc ⟨.int (g i j),H,I.tok _,⟨_,rfl⟩,q⟩
theorem opI0 {f:Value→Value→Sem Value} {g:Int→Int→Int}
    (rule:∀ (i j:Int) (t u:Tok) (s:Shared) (Q:Value→Shared→Prop) (E:Value→Shared→Prop),Q (.int (g i j) s.toks) { s with toks:=s.toks+1 }→wpAny (model X.prog X.w) X.A (f (.int i t) (.int j u)) Q E s) :
    OpR X f (rI0 fun i j=>.int (g i j)):=by
  intro pins s σ H x y v u Q I rx ry h
  obtain ⟨i,j,rfl,rfl,q⟩:=h
  obtain ⟨t,rfl⟩:=rx
  obtain ⟨t',rfl⟩:=ry
  exact rule i j t t' s _ _ ⟨.int (g i j),H,I.tok _,⟨_,rfl⟩,q⟩
theorem opB0 {f:Value→Value→Sem Value} {g:Int→Int→Bool}
    (rule:∀ (i j:Int) (t u:Tok) (s:Shared) (Q:Value→Shared→Prop) (E:Value→Shared→Prop),Q (.bool (g i j)) s→wpAny (model X.prog X.w) X.A (f (.int i t) (.int j u)) Q E s) :
    OpR X f (rI0 fun i j=>.bl (g i j)):=by
  intro pins s σ H x y v u Q I rx ry h
  obtain ⟨i,j,rfl,rfl,q⟩:=h
  obtain ⟨t,rfl⟩:=rx
  obtain ⟨t',rfl⟩:=ry
  exact rule i j t t' s _ _ ⟨.bl (g i j),H,I,rfl,q⟩
def CDiv (i j:Int):Prop:=0<j∧j<1073741824
def CPow (i j:Int):Prop:=0≤j∧j≤1000000∧i.natAbs<2 ^ 64
def CMul (i j:Int):Prop:=(-(2 ^ 64)<i∧i<2 ^ 64)∨(-(2 ^ 64)<j∧j<2 ^ 64)
theorem CMul.ok {i j:Int} (h:CMul i j):IntMulOk i j:=by
  rcases h with ⟨h1,h2⟩|⟨h1,h2⟩
  · exact .of_left (intBits_le_64 h1 h2)
  · exact .of_right (intBits_le_64 h1 h2)
theorem op_add:OpR X (binaryOp .Add) (rI0 fun i j=>.int (i+j)):=opI0 fun _ _ _ _ _ _ _ q=>add_int q
theorem op_sub:OpR X (binaryOp .Sub) (rI0 fun i j=>.int (i-j)):=opI0 fun _ _ _ _ _ _ _ q=>sub_int q
theorem op_mul:OpR X (binaryOp .Mult) (rI CMul fun i j=>.int (i*j)):=opI fun _ _ _ _ _ _ _ hc q=>mul_int q hc.ok
theorem op_fdiv:OpR X (binaryOp .FloorDiv) (rI CDiv fun i j=>.int (i / j)):=opI fun i j _ _ _ _ _ hc q=>by
  have h1:(0:Int)<j:=hc.1
  have h2:j<1073741824:=hc.2
  exact floordiv_int (by omega) (by rw [Int.fdiv_eq_ediv_of_nonneg i (by omega)];exact q) (.inl (PyProof.noPylong_small (by omega)))
theorem op_mod:OpR X (binaryOp .Mod) (rI (fun _ j=>0<j) fun i j=>.int (i % j)):=opI fun i j _ _ _ _ _ hc q=>by
  have h1:(0:Int)<j:=hc
  exact mod_int' (by omega) (by rw [Int.fmod_eq_emod_of_nonneg i (by omega)];exact q)
theorem op_pow:OpR X (binaryOp .Pow) (rI CPow fun i j=>.int (i ^ j.toNat)):=opI fun _ _ _ _ _ _ _ hc q=>pow_int_small hc.1 hc.2.1 hc.2.2 q
theorem unI {f:Value→Sem Value} {g:Int→Int}
    (rule:∀ (i:Int) (t:Tok) (s:Shared) (Q:Value→Shared→Prop) (E:Value→Shared→Prop),Q (.int (g i) s.toks) { s with toks:=s.toks+1 }→wpAny (model X.prog X.w) X.A (f (.int i t)) Q E s) :
    UnR X f (rU fun i=>.int (g i)):=by
  intro pins s σ H x v Q I rx h
  obtain ⟨i,rfl,q⟩:=h
  obtain ⟨t,rfl⟩:=rx
  exact rule i t s _ _ ⟨.int (g i),H,I.tok _,⟨_,rfl⟩,q⟩
theorem un_neg:UnR X (unaryOp .USub) (rU fun i=>.int (-i)):=unI fun _ _ _ _ _ q=>neg_int q
end
def scal:V→V→Bool
  |.non,.non=>true|.non,.int _=>true|.int _,.non=>true|.non,.bl _=>true|.bl _,.non=>true|.non,.str _=>true|.str _,.non=>true
  |.int _,.int _=>true|.bl _,.bl _=>true|.str _,.str _=>true|.byt _,.byt _=>true
  |.int _,.str _=>true|.str _,.int _=>true|.bl _,.str _=>true|.str _,.bl _=>true
  |_,_=>false
def rEq:R2:=fun x y H Q=>scal x y=true∧Q (.bl (decide (x=y))) H
def rNe:R2:=fun x y H Q=>scal x y=true∧Q (.bl (!decide (x=y))) H
theorem dec_int {i j:Int}:decide (V.int i=V.int j)=(i == j):=by
  rw [Bool.eq_iff_iff]
  simp
theorem dec_bl {i j:Bool}:decide (V.bl i=V.bl j)=(i == j):=by
  rw [Bool.eq_iff_iff]
  simp
theorem dec_str {i j:Str}:decide (V.str i=V.str j)=(i == j):=by
  rw [Bool.eq_iff_iff]
  simp
theorem dec_byt {i j:Array UInt8}:decide (V.byt i=V.byt j)=(i.toList == j.toList):=by
  rw [Bool.eq_iff_iff]
  cases i
  cases j
  simp
section
variable {X:Cx} {a b c:Expr} {ta tb tc:TE} {pos:Pos}
theorem fin_bl {pins:List (Addr×Obj)} {σ:St} {H:Hp} {s:Shared} {Q:VK} {k k':Bool} (I:Inv X pins σ H s) (q:Q (.bl k) H) (e:k=k'):EP X pins σ Q (.bool k') s:=by
  subst e
  exact ⟨.bl k,H,I,rfl,q⟩
theorem op_eq:OpR X (compareOp .Eq) rEq:=by
  intro pins s σ H x y v u Q I rx ry h
  obtain ⟨hs,q⟩:=h
  cases x with
  | non=>
    cases rx
    cases y with
    |non=>cases ry;exact PySem.EqNone.eq_none_none (fin_bl I q (by simp))
    |bl j=>cases ry;exact PySem.EqNone.eq_none_bool (fin_bl I q (by simp))
    |int j=>obtain ⟨t',rfl⟩:=ry;exact PySem.EqNone.eq_none_int (fin_bl I q (by simp))
    |str j=>obtain ⟨t',rfl⟩:=ry;exact PySem.EqNone.eq_none_str (fin_bl I q (by simp))
    |_=>exact absurd (show false=true from hs) Bool.false_ne_true
  | bl i=>
    cases rx
    cases y with
    |non=>cases ry;exact PySem.EqNone.eq_bool_none (fin_bl I q (by simp))
    |bl j=>cases ry;exact eq_bool (fin_bl I q dec_bl)
    |str j=>obtain ⟨t',rfl⟩:=ry;exact PySem.EqMixed.eq_bool_str (fin_bl I q (by simp))
    |_=>exact absurd (show false=true from hs) Bool.false_ne_true
  | int i=>
    obtain ⟨t,rfl⟩:=rx
    cases y with
    |non=>cases ry;exact PySem.EqNone.eq_int_none (fin_bl I q (by simp))
    |int j=>obtain ⟨t',rfl⟩:=ry;exact eq_int (fin_bl I q dec_int)
    |str j=>obtain ⟨t',rfl⟩:=ry;exact PySem.EqMixed.eq_int_str (fin_bl I q (by simp))
    |_=>exact absurd (show false=true from hs) Bool.false_ne_true
  | str i=>
    obtain ⟨t,rfl⟩:=rx
    cases y with
    |non=>cases ry;exact PySem.EqNone.eq_str_none (fin_bl I q (by simp))
    |bl j=>cases ry;exact PySem.EqMixed.eq_str_bool (fin_bl I q (by simp))
    |int j=>obtain ⟨t',rfl⟩:=ry;exact PySem.EqMixed.eq_str_int (fin_bl I q (by simp))
    |str j=>obtain ⟨t',rfl⟩:=ry;exact eq_str (fin_bl I q dec_str)
    |_=>exact absurd (show false=true from hs) Bool.false_ne_true
  | byt i=>
    obtain ⟨t,rfl⟩:=rx
    cases y with
    |byt j=>obtain ⟨t',rfl⟩:=ry;exact PySem.W.eq_bytes (fin_bl I q dec_byt)
    |_=>exact absurd (show false=true from hs) Bool.false_ne_true
  |_=>cases y <;> exact absurd (show false=true from hs) Bool.false_ne_true
theorem op_ne:OpR X (compareOp .NotEq) rNe:=by
  intro pins s σ H x y v u Q I rx ry h
  obtain ⟨hs,q⟩:=h
  cases x with
  | non=>
    cases rx
    cases y with
    |non=>cases ry;exact PySem.EqNone.ne_none_none (fin_bl I q (by simp))
    |bl j=>cases ry;exact PySem.EqNone.ne_none_bool (fin_bl I q (by simp))
    |int j=>obtain ⟨t',rfl⟩:=ry;exact PySem.EqNone.ne_none_int (fin_bl I q (by simp))
    |str j=>obtain ⟨t',rfl⟩:=ry;exact PySem.EqNone.ne_none_str (fin_bl I q (by simp))
    |_=>exact absurd (show false=true from hs) Bool.false_ne_true
  | bl i=>
    cases rx
    cases y with
    |non=>cases ry;exact PySem.EqNone.ne_bool_none (fin_bl I q (by simp))
    |bl j=>cases ry;exact ne_bool (fin_bl I q (congrArg not dec_bl))
    |str j=>obtain ⟨t',rfl⟩:=ry;exact PySem.EqMixed.ne_bool_str (fin_bl I q (by simp))
    |_=>exact absurd (show false=true from hs) Bool.false_ne_true
  | int i=>
    obtain ⟨t,rfl⟩:=rx
    cases y with
    |non=>cases ry;exact PySem.EqNone.ne_int_none (fin_bl I q (by simp))
    |int j=>obtain ⟨t',rfl⟩:=ry;exact ne_int (fin_bl I q (congrArg not dec_int))
    |str j=>obtain ⟨t',rfl⟩:=ry;exact PySem.EqMixed.ne_int_str (fin_bl I q (by simp))
    |_=>exact absurd (show false=true from hs) Bool.false_ne_true
  | str i=>
    obtain ⟨t,rfl⟩:=rx
    cases y with
    |non=>cases ry;exact PySem.EqNone.ne_str_none (fin_bl I q (by simp))
    |bl j=>cases ry;exact PySem.EqMixed.ne_str_bool (fin_bl I q (by simp))
    |int j=>obtain ⟨t',rfl⟩:=ry;exact PySem.EqMixed.ne_str_int (fin_bl I q (by simp))
    |str j=>obtain ⟨t',rfl⟩:=ry;exact ne_str (fin_bl I q (congrArg not dec_str))
    |_=>exact absurd (show false=true from hs) Bool.false_ne_true
  | byt i=>
    obtain ⟨t,rfl⟩:=rx
    cases y with
    |byt j=>obtain ⟨t',rfl⟩:=ry;exact PySem.W.ne_bytes (fin_bl I q (congrArg not dec_byt))
    |_=>exact absurd (show false=true from hs) Bool.false_ne_true
  |_=>cases y <;> exact absurd (show false=true from hs) Bool.false_ne_true
theorem op_lt:OpR X (compareOp .Lt) (rI0 fun i j=>.bl (decide (i<j))):=opB0 fun _ _ _ _ _ _ _ q=>lt_int q
theorem op_le:OpR X (compareOp .LtE) (rI0 fun i j=>.bl (decide (i≤j))):=opB0 fun _ _ _ _ _ _ _ q=>le_int q
theorem op_gt:OpR X (compareOp .Gt) (rI0 fun i j=>.bl (decide (j<i))):=opB0 fun _ _ _ _ _ _ _ q=>gt_int q
theorem op_ge:OpR X (compareOp .GtE) (rI0 fun i j=>.bl (decide (j≤i))):=opB0 fun _ _ _ _ _ _ _ q=>ge_int q
theorem op_isN:OpR X (compareOp .Is) (fun x y H Q=>y=.non∧Q (.bl (decide (x=.non))) H):=by
  intro pins s σ H x y v u Q I rx ry h
  obtain ⟨rfl,q⟩:=h
  cases ry
  refine is_none_gen (fin_bl I q ?_)
  cases x <;> first
    |(cases rx;rfl)
    |(obtain ⟨t,rfl⟩:=rx;rfl)
theorem op_notN:OpR X (compareOp .IsNot) (fun x y H Q=>y=.non∧Q (.bl (!decide (x=.non))) H):=by
  intro pins s σ H x y v u Q I rx ry h
  obtain ⟨rfl,q⟩:=h
  cases ry
  refine isnot_none_gen (fin_bl I q ?_)
  cases x <;> first
    |(cases rx;rfl)
    |(obtain ⟨t,rfl⟩:=rx;rfl)
theorem nomark (b:Expr) {op:CmpOp} (h:op≠.In:=by decide) (h2:op≠.NotIn:=by decide):behindInMarks op b=false:=by
  have e1:(op == CmpOp.In)=false:=by cases op <;> first|rfl|exact absurd rfl h
  have e2:(op == CmpOp.NotIn)=false:=by cases op <;> first|rfl|exact absurd rfl h2
  cases b <;> simp [behindInMarks,e1,e2]
theorem pe_cmpR {op:CmpOp} {r:R2} (ho:OpR X (compareOp op) r) (ha:PE X a ta) (hb:PE X b tb) (hm:behindInMarks op b=false):PE X (.Compare a [op] [b] pos) (tOp r ta tb):=by
  intro pins s σ H Q I h
  exact wpAny_Compare1 (binT ha hb I h fun v u s2 x y H2 I2 rx ry q=>ho pins s2 σ H2 x y v u Q I2 rx ry q) hm
def tTest (t:TE):TT:=fun σ H Q=>t σ H fun x H'=>∃ k,x=.bl k∧Q k H'
theorem pt_cmpR {op:CmpOp} {r:R2} (ho:OpR X (compareOp op) r) (ha:PE X a ta) (hb:PE X b tb) (hm:behindInMarks op b=false):PT X (.Compare a [op] [b] pos) (tTest (tOp r ta tb)):=by
  intro pins s σ H Q I h
  refine wpAny_isTrue_Compare1 (thn (ha pins s σ H _ I h) fun v s1 ⟨x,H1,I1,r1,q1⟩=>thn (hb pins s1 σ H1 _ I1 q1) fun u s2 ⟨y,H2,I2,r2,q2⟩=>
    thn (ho pins s2 σ H2 x y v u _ I2 r1 r2 q2) fun c s3 ⟨z,H3,I3,r3,k,e,q3⟩=>?_) hm
  subst e
  cases r3
  exact wpAny_truthy_bool ⟨H3,I3,q3⟩
theorem line63:(sizeLine:Nat)<2 ^ 63:=by rw [sizeLine_eq];decide
theorem op_add_str:OpR X (binaryOp .Add) (fun x y H Q=>∃ i j,x=.str i∧y=.str j∧i.length+j.length≤sizeLine∧Q (.str (i++j)) H):=by
  intro pins s σ H x y v u Q I rx ry h
  obtain ⟨i,j,rfl,rfl,hz,q⟩:=h
  obtain ⟨t,rfl⟩:=rx
  obtain ⟨t',rfl⟩:=ry
  exact add_str (fun t' tk=>⟨.str (i++j),H,I.tok _,⟨_,rfl⟩,q⟩) hz
theorem vals1 {x:V} {us:List Value} (r:Vals [x] us):∃ u,us=[u]∧RelV x u:=by
  cases r with
  |cons r1 r2=>cases r2;exact ⟨_,rfl,r1⟩
end
end L2
namespace L2
open PySem PySem.Spec PyProof.Rows
section
variable {prog:Program} {w:World} {A:Around} {E:Value→Shared→Prop} {s:Shared} {K:PySem.W.Frag} {x dx C f:Addr} {mA:Str→Option Value} {name:Str} {v:Value}
end
theorem RelO.some_of {v:V} {o:Option Value} (r:RelO (some v) o):∃ u,o=some u∧RelV v u:=by
  cases o with
  |none=>exact (show False from r).elim
  |some u=>exact ⟨u,rfl,r⟩
section
variable {P:Program} {w:World} {H H':Hp} {h h':Heap} {a C dx:Addr} {fs fs':List (Str×V)}
end
section
variable {X:Cx} {pins:List (Addr×Obj)} {σ:St} {H:Hp} {s:Shared} {a C dx:Addr} {fs:List (Str×V)} {f:Str} {v:V} {A:Around} {E:Value→Shared→Prop}
end
section
variable {X:Cx} {o e value:Expr} {f:Str} {pos pos' tpos:Pos} {ta tv:TE}
end
section
variable {X:Cx} {pins:List (Addr×Obj)} {σ:St} {H:Hp} {s:Shared} {A:Around} {E:Value→Shared→Prop} {Q:Value→Shared→Prop} {c:Value} {b:Bool}
end
end L2
namespace L2
open PySem PySem.Spec PyProof.Rows
structure Room (k:Nat) (A:Around):Prop where
  hd:A.handled=none
  dp:A.depth+3*k+5<recursionLimit
  un:A.units+16*k+200<cLine
  gd:A.guards=some []
theorem Room.mono {j k:Nat} {A:Around} (r:Room k A) (h:j≤k):Room j A:=⟨r.hd,by have:=r.dp;omega,by have:=r.un;omega,r.gd⟩
theorem Room.deeper {k:Nat} {A:Around} (r:Room (k+1) A) (env:Env):Room k (A.deeper env):=
  ⟨r.hd,by have:=r.dp;show A.depth+1+3*k+5<_;omega,by have:=r.un;show A.units+3+16*k+200<_;omega,r.gd⟩
theorem Room.depth {k:Nat} {A:Around} (r:Room k A):A.depth<recursionLimit:=by have:=r.dp;omega
theorem Room.units {k:Nat} {A:Around} (r:Room k A):A.units+64<cLine:=by have:=r.un;omega
def tNil:TA:=fun _ H Q=>Q [] H
def tCons (ta:TE) (tr:TA):TA:=fun σ H Q=>ta σ H fun x H1=>tr σ H1 fun xs H2=>Q (x::xs) H2
section
variable {X:Cx} {e:Expr} {es:List Expr} {te:TE} {t:TA} {pos:Pos}
theorem pa_nil:PA X [] tNil:=fun _ _ _ _ H Q I h=>Calls.spliced_nil ⟨[],H,I,.nil,h⟩
theorem pa_cons (ha:PE X e te) (hr:PA X es t) (hs:starEach (e::es) X.env=(false,eval e X.env)::starEach es X.env:=by rfl):PA X (e::es) (tCons te t):=by
  intro pos pins s σ H Q I h
  rw [hs]
  show wpAny _ _ (spliced ((false,eval e X.env)::backTo pos (starEach es X.env))) _ _ s
  refine Calls.spliced_cons (thn (ha pins s σ H _ I h) fun u s1 ⟨x,H1,I1,r1,q1⟩=>?_)
  exact thn (hr pos pins s1 σ H1 _ I1 q1) fun us s2 ⟨xs,H2,I2,r2,q2⟩=>⟨x::xs,H2,I2,.cons r1 r2,q2⟩
def tTup (t:TA):TE:=fun σ H Q=>t σ H fun xs H1=>xs.length≤sizeLine∧∀ p,H1 p=none→Q (.ref p) (upd H1 p (.tup xs))
def tLst (t:TA):TE:=fun σ H Q=>t σ H fun xs H1=>xs.length≤sizeLine∧∀ p,H1 p=none→Q (.ref p) (upd H1 p (.lst xs))
theorem pe_tup {x1} (h:PA X es t):PE X (.Tuple es x1 pos) (tTup t):=by
  intro pins s σ H Q I hq
  refine wpAny_Tuple_spliced (thn (h pos pins s σ H _ I hq) fun us s1 ⟨xs,H1,I1,r,z,q⟩=>⟨by rw [← r.length];exact z,?_⟩)
  have hf:H1 s1.heap.objs.size=none:=I1.hok.fresh (Nat.le_refl _)
  refine ⟨.ref s1.heap.objs.size,upd H1 s1.heap.objs.size (.tup xs),I1.laid (t':=s1.toks) (fun b u e=>Heap.get?_push_of_some _ e) (Nat.le_refl _) ?_,rfl,q _ hf⟩
  exact ⟨z,us,r,⟨_,Heap.get?_push_size _ rfl,rfl,_,rfl⟩⟩
theorem pe_lst (h:PA X es t):PE X (.List es pos) (tLst t):=by
  intro pins s σ H Q I hq
  refine wpAny_List_spliced (thn (h pos pins s σ H _ I hq) fun us s1 ⟨xs,H1,I1,r,z,q⟩=>⟨by rw [← r.length];exact z,?_⟩)
  have hf:H1 s1.heap.objs.size=none:=I1.hok.fresh (Nat.le_refl _)
  refine ⟨.ref s1.heap.objs.size,upd H1 s1.heap.objs.size (.lst xs),I1.laid (t':=s1.toks) (fun b u e=>Heap.get?_push_of_some _ e) (Nat.le_refl _) ?_,rfl,q _ hf⟩
  exact ⟨z,us,0,r,Heap.get?_push_size _ rfl⟩
end
abbrev Sp:=List V→Hp→VK→XK→Prop
abbrev CXT:=List Env→Hp→Shared→XK→Value→Shared→Prop
structure Env0 (P:Program) (w:World) (K:PySem.W.Frag) (mg:Str→Option Value) (base:Heap) (A:Around) (outer:List Env) (s:Shared) (H:Hp):Prop where
  frames:A.frames=some outer
  mod:Mod K mg base
  bs:∀ b o,base.get? b=some o→s.heap.get? b=some o∧H b=none
  bsz:base.objs.size≤s.heap.objs.size
  funs:s.heap.FunFrames base outer
  frf:∀ b∈frs outer,H b=none
  hok:HOk P w H s.heap
  bare:AllBare s.gens
def CE (outer:List Env) (P:Program) (w:World) (H:Hp) (s:Shared) (Q:VK) (u:Value) (s':Shared):Prop:=
  ∃ v H',s'.os=s.os∧AllBare s'.gens∧Un (frs outer) [] H H' s.heap s'.heap∧HOk P w H' s'.heap∧RelV v u∧Q v H'
def CR (CX:CXT) (outer:List Env) (P:Program) (w:World) (H:Hp) (s:Shared) (Q:VK) (E:XK) (r:Result) (s':Shared):Prop:=
  match r with
  |.ok (.ret u)=>CE outer P w H s Q u s'
  |.ok _=>False
  |.error e=>CX outer H s E e s'
structure FnOk (P:Program) (w:World) (K:PySem.W.Frag) (mg:Str→Option Value) (base:Heap) (CX:CXT) (k:Nat) (f:Addr) (fd:FuncData) (ps:List Str) (sp:Sp):Prop where
  len:∀ vs H Q E,sp vs H Q E→vs.length=ps.length
  run:∀ (A:Around) (outer:List Env) (s:Shared) (H:Hp) (args:Args) (us:List Value) (vs:List V) (Q:VK) (E:XK),Room k A→Env0 P w K mg base A outer s H→BindsTo s fd args (ps.zip us)→Vals vs us→sp vs H Q E→
    codeAny (model P w) A (.call (.ref f) args) (CR CX outer P w H s Q E) s
section
variable {X:Cx} {pins:List (Addr×Obj)} {σ:St} {H:Hp} {s s':Shared}
theorem Inv.env0 (I:Inv X pins σ H s):Env0 X.prog X.w X.K X.mg X.base X.A X.stack s H:=
  ⟨I.ok.frames,I.ok.mod,I.bs,Nat.le_trans I.ok.bsz I.sz,I.stack,I.stkFree,I.hok,I.bare⟩
theorem Inv.after {Q:VK} {u:Value} (I:Inv X pins σ H s) (h:CE X.stack X.prog X.w H s Q u s'):EP X pins σ Q u s':=by
  obtain ⟨v,H',os,bare,un,hok,r,q⟩:=h
  obtain ⟨hh,g,d,t,os'⟩:=s'
  obtain rfl:os'=s.os:=os
  exact ⟨v,H',I.call (h':=hh) (g':=g) (d':=d) (t':=t) (ch:=[]) un hok bare (fun b z=>absurd z (by simp)),r,q⟩
end
def tCall (sp:Sp) (dvs:List V) (E:XK) (t:TA):TE:=fun σ H Q=>t σ H fun vs H1=>sp (vs++dvs) H1 Q E
def Binds (K:PySem.W.Frag) (fd:FuncData) (ps:List Str) (ds:List Value):Prop:=
  ∀ (s:Shared) (us:List Value),K.In s.heap→(us++ds).length=ps.length→BindsTo s fd ⟨us,[]⟩ (ps.zip (us++ds))
theorem Binds.all {K:PySem.W.Frag} {fd:FuncData} {ps:List Str} (h:∀ us:List Value,us.length=ps.length→bindArgs fd ⟨us,[]⟩=pure (ps.zip us)):Binds K fd ps []:=fun s us _ hl=>by
  rw [List.append_nil] at hl ⊢
  exact .of_eq (h us hl)
def Passes (CX:CXT) (X:Cx) (E:XK):Prop:=∀ (pins:List (Addr×Obj)) (σ:St) (H:Hp) (s:Shared) (e:Value) (s':Shared),Inv X pins σ H s→CX X.stack H s E e s'→X.xe e s'
section
variable {X:Cx} {CX:CXT} {k:Nat} {f C:Addr} {fd:FuncData} {ps:List Str} {sp:Sp} {dvs:List V} {ds:List Value} {E:XK} {x m:Str} {p pos apos:Pos} {e o:Expr} {es:List Expr} {ta:TE} {t:TA}
theorem run_fn {pins:List (Addr×Obj)} {σ:St} {H:Hp} {s:Shared} {Q:VK} {us:List Value} {vs:List V} (F:FnOk X.prog X.w X.K X.mg X.base CX k f fd ps sp) (hr:Room k X.A) (hb:Binds X.K fd ps ds) (hd:Vals dvs ds) (hx:Passes CX X E)
    (I:Inv X pins σ H s) (r:Vals vs us) (h:sp (vs++dvs) H Q E):wpAny (model X.prog X.w) X.A (call (.ref f) us) (EP X pins σ Q) X.xe s:=by
  have r2:Vals (vs++dvs) (us++ds):=r.append hd
  have hl:(us++ds).length=ps.length:=by rw [← r2.length];exact F.len _ _ _ _ h
  refine wpAny_call (codeAny_mono (F.run X.A X.stack s H ⟨us,[]⟩ (us++ds) (vs++dvs) Q E hr I.env0 (hb s us I.kIn hl) r2 h) fun r s' hq=>?_)
  cases r with
  |error e=>exact hx pins σ H s e s' I hq
  | ok fl=>
    cases fl with
    |ret u=>exact I.after hq
    |next=>exact False.elim hq
    |brk=>exact False.elim hq
    |cont=>exact False.elim hq
theorem pe_call (F:FnOk X.prog X.w X.K X.mg X.base CX k f fd ps sp) (hr:Room k X.A) (hg:Gl X x) (hm:X.mg x=some (.ref f)) (hk:PySem.W.keepIn X.K (.ref f)=true) (hb:Binds X.K fd ps ds) (hd:Vals dvs ds) (hx:Passes CX X E)
    (ha:PA X (e::es) t) (hdb:(x == ("__debug__" : Str))=false:=by decide) (he:starEach (e::es) X.env=(false,eval e X.env)::starEach es X.env:=by rfl) (hpl:(backTo pos (starEach es X.env)).any (·.1)=false:=by rfl) :
    PE X (.Call (.Name x p) (e::es) [] pos) (tCall sp dvs E t):=by
  intro pins s σ H Q I h
  refine wpAny_Call_Name_kw (ld_glob I hg hm ?_ hdb)
  refine PySem.W.callWith_K (h₀:=X.base) I.ok.mod.kin hk (thn (ha pos pins s σ H _ I h) fun us s1 ⟨vs,H1,I1,r,q⟩=>⟨I1.kIn,?_⟩) he hpl
  exact run_fn F hr hb hd hx I1 r q
end
def PK (X:Cx) (kws:List Keyword) (t:TA):Prop:=
  ∀ (pos:Pos) (pins:List (Addr×Obj)) (s:Shared) (σ:St) (H:Hp) (Q:List V→Hp→Prop),Inv X pins σ H s→t σ H Q→wpAny (model X.prog X.w) X.A (evalAll ((backToKw pos (keywordEach kws X.env)).map (·.2))) (AP X pins σ Q) X.xe s
section
variable {X:Cx} {CX:CXT} {k:Nat} {f C:Addr} {fd:FuncData} {ps ks:List Str} {sp:Sp} {E:XK} {x m:Str} {p pos apos kpos:Pos} {e o:Expr} {es:List Expr} {kws:List Keyword} {te ta:TE} {t tk:TA} {nm:Option Str}
theorem pk_nil:PK X [] tNil:=fun _ _ _ _ H Q I h=>wpAny_evalAll_nil ⟨[],H,I,.nil,h⟩
theorem pk_cons (ha:PE X e te) (hr:PK X kws t):PK X (⟨nm,e,kpos⟩::kws) (tCons te t):=by
  intro pos pins s σ H Q I h
  show wpAny _ _ (evalAll ((do let v ← eval e X.env;standAt pos;pure v)::(backToKw pos (keywordEach kws X.env)).map (·.2))) _ _ s
  refine wpAny_evalAll_cons (wpAny_bind (thn (ha pins s σ H _ I h) fun u s1 ⟨x,H1,I1,r1,q1⟩=>wpAny_bind (wpAny_standAt (wpAny_pure ?_))))
  exact thn (hr pos pins s1 σ H1 _ I1 q1) fun us s2 ⟨xs,H2,I2,r2,q2⟩=>⟨x::xs,H2,I2,.cons r1 r2,q2⟩
variable {g:List Value→List Value→List Value} {gV:List V→List V→List V}
end
structure FnScope (N P:List Str) (sc:Scope):Prop where
  kind:sc.kind=.function
  co:sc.isCoroutine=false
  gen:sc.isGenerator=false
  nd:N.Nodup
  pre:N.take P.length=P
  par:∀ x∈P,sc.names.lookup x=some .local∨sc.names.lookup x=some .cell
  nofree:∀ y∈sc.names,y.2≠.free
theorem bindL_out {kindOf:Str→Option NameKind} {x:Str}:∀ {binds:List (Str×Value)} {m:Str→Option Value},(∀ v,(x,v)∉binds)→bindL kindOf binds m x=m x
  |[],_,_=>rfl
  | (n,v)::r,m,h=>by
    unfold bindL
    rw [bindL_out fun w hw=>h w (List.mem_cons_of_mem _ hw)]
    split
    · have:x≠n:=by rintro rfl;exact h v List.mem_cons_self
      simp [this]
    · rfl
theorem bindC_out {kindOf:Str→Option NameKind} {x:Str}:∀ {binds:List (Str×Value)} {m:Str→Option Value},(∀ v,(x,v)∉binds)→bindC kindOf binds m x=m x
  |[],_,_=>rfl
  | (n,v)::r,m,h=>by
    unfold bindC
    rw [bindC_out fun w hw=>h w (List.mem_cons_of_mem _ hw)]
    split
    · rfl
    · have:x≠n:=by rintro rfl;exact h v List.mem_cons_self
      simp [this]
theorem bindL_get {kindOf:Str→Option NameKind} {x:Str} {v:Value}:∀ {P:List Str} {vs:List Value} {i:Nat} {m:Str→Option Value},P.Nodup→P[i]?=some x→vs[i]?=some v→kindOf x=some .local→
    bindL kindOf (P.zip vs) m x=some v
  |[],_,_,_,_,h,_,_=>by simp at h
  |_::_,[],_,_,_,_,h,_=>by simp at h
  | p::P,w::vs,0,m,nd,h1,h2,hk=>by
    simp at h1 h2;subst h1;subst h2
    show bindL kindOf ((p,w)::P.zip vs) m p=_
    unfold bindL
    rw [bindL_out fun v hv=>(List.nodup_cons.mp nd).1 (List.of_mem_zip hv).1,if_pos hk]
    simp
  | p::P,w::vs,i+1,m,nd,h1,h2,hk=>by
    show bindL kindOf ((p,w)::P.zip vs) m x=_
    unfold bindL
    exact bindL_get (i:=i) (List.nodup_cons.mp nd).2 (by simpa using h1) (by simpa using h2) hk
theorem bindC_get {kindOf:Str→Option NameKind} {x:Str} {v:Value}:∀ {P:List Str} {vs:List Value} {i:Nat} {m:Str→Option Value},P.Nodup→P[i]?=some x→vs[i]?=some v→kindOf x≠some .local→
    bindC kindOf (P.zip vs) m x=some v
  |[],_,_,_,_,h,_,_=>by simp at h
  |_::_,[],_,_,_,_,h,_=>by simp at h
  | p::P,w::vs,0,m,nd,h1,h2,hk=>by
    simp at h1 h2;subst h1;subst h2
    show bindC kindOf ((p,w)::P.zip vs) m p=_
    unfold bindC
    rw [bindC_out fun v hv=>(List.nodup_cons.mp nd).1 (List.of_mem_zip hv).1,if_neg hk]
    simp
  | p::P,w::vs,i+1,m,nd,h1,h2,hk=>by
    show bindC kindOf ((p,w)::P.zip vs) m x=_
    unfold bindC
    exact bindC_get (i:=i) (List.nodup_cons.mp nd).2 (by simpa using h1) (by simpa using h2) hk
def start (N:List Str) (vs:List V):St:=vs.map some++List.replicate (N.length-vs.length) none
def cxOf (CX:CXT) (P:Program) (w:World) (K:PySem.W.Frag) (mg:Str→Option Value) (base:Heap) (N:List Str) (qual:Str) (scope:Scope) (f:Addr) (cd:Value) (A:Around) (outer:List Env) (s:Shared) (H:Hp) (E:XK):Cx where
  prog:=P
  w:=w
  K:=K
  mg:=mg
  base:=base
  A:=A.deeper (envOfC qual scope s.heap.objs.size f cd)
  N:=N
  s₀:=s
  H₀:=H
  env:=envOfC qual scope s.heap.objs.size f cd
  outer:=outer
  stack:=envOfC qual scope s.heap.objs.size f cd::outer
  ex:=[]
  calm:=true
  fn:=fun _=>true
  pn:=[]
  xe:=fun e s'=>wpAny (model P w) (A.deeper (envOfC qual scope s.heap.objs.size f cd)) (leaving (envOfC qual scope s.heap.objs.size f cd) e) (fun _ s''=>CX outer H s E e s'') (fun e' s''=>CX outer H s E e' s'') s'
theorem cell_has {sc:Scope} {n:Nat} {x:Str} (h:sc.names.lookup x=some .cell):∃ c,(cellsFrom n sc.names []).lookup x=some c:=by
  have q:=PySem.W.cellsFrom_some sc.names n [] (.inl h)
  exact Option.isSome_iff_exists.mp q
theorem inv_start {CX:CXT} {P:Program} {w:World} {K:PySem.W.Frag} {mg:Str→Option Value} {base:Heap} {N ps:List Str} {qual:Str} {scope:Scope} {f:Addr} {cd:Value} {A:Around} {outer:List Env} {s s1:Shared} {H:Hp} {E:XK} {us:List Value} {vs:List V}
    (S:FnScope N ps scope) (hd:A.handled=none) (e0:Env0 P w K mg base A outer s H) (hl:vs.length=ps.length) (r:Vals vs us)
    (x:InCallC s s.heap.objs.size (bindL (envOfC qual scope s.heap.objs.size f cd).kindOf (ps.zip us) fun _=>none) (cellsFrom (s.heap.objs.size+1) scope.names []) (bindC (envOfC qual scope s.heap.objs.size f cd).kindOf (ps.zip us) fun _=>none) s1) :
    Inv (cxOf CX P w K mg base N qual scope f cd A outer s H E) [] (start N vs) H s1:=by
  have hpl:ps.length≤N.length:=by have:=congrArg List.length S.pre;rw [List.length_take] at this;omega
  obtain ⟨h1,tk,rfl,hk⟩:=x.done
  have noA:∀ b:Addr,b∉(cxOf CX P w K mg base N qual scope f cd A outer s H E).ex:=fun b z=>absurd (show b∈([]:List Addr) from z) (by simp)
  refine ⟨⟨e0.mod,S.kind,rfl,rfl,Nat.le_refl _,fun y z c h1 h2=>?_,fun y hy=>?_,fun y c _ h=>?_,fun _=>hd,Around.frames_deeper e0.frames,.inr ⟨rfl,rfl⟩,fun b z=>absurd z (noA b),e0.bs,e0.bsz,fun b _ _=>noA b,fun b z=>absurd z (noA b),e0.funs,e0.frf⟩,
    rfl,e0.bare,Un.kept hk,⟨_,x.toInCall.ns,fun i y v h1 h2 h3=>?_⟩,fun y c h=>⟨_,x.cell y c h⟩,e0.hok.fresh (Nat.le_refl _),fun y c h=>?_,fun p hp=>absurd (show p∈([]:List (Addr×Obj)) from hp) (by simp),e0.hok.kept hk,?_⟩
  · exact name_of_addr x.apart (PySem.mem_of_lookup h1) (PySem.mem_of_lookup h2)
  · have hy:scope.names.lookup y=some .cell∨scope.names.lookup y=some .free:=hy
    rcases hy with hy|hy
    · exact cell_has hy
    · exact absurd rfl (S.nofree _ (PySem.mem_of_lookup hy))
  · exact Nat.le_of_lt (x.above y c (PySem.mem_of_lookup h))
  · have hi:i<vs.length:=by
      unfold start at h2
      by_cases hi:i<vs.length
      · exact hi
      · rw [List.getElem?_append_right (by simpa using hi)] at h2
        rw [List.getElem?_replicate] at h2
        split at h2 <;> cases h2
    have ha:vs[i]?=some v:=by
      unfold start at h2
      rw [List.getElem?_append_left (by simpa using hi),List.getElem?_map] at h2
      cases e:vs[i]? with
      |none=>rw [e] at h2;cases h2
      |some a=>rw [e] at h2;cases h2;rfl
    obtain ⟨u,hu,rv⟩:=r.get ha
    have hp:ps[i]?=some y:=by
      rw [← S.pre,List.getElem?_take_of_lt (by omega)];exact h1
    have ndP:ps.Nodup:=by rw [← S.pre];exact S.nd.sublist (List.take_sublist _ _)
    refine ⟨u,rv,?_⟩
    rcases S.par y (List.mem_of_getElem? hp) with k|k
    · exact .inl ⟨k,bindL_get ndP hp hu k⟩
    · obtain ⟨c,e⟩:=cell_has (n:=s.heap.objs.size+1) k
      refine .inr ⟨.inl k,c,e,?_⟩
      have q:=x.cell y c e
      rw [bindC_get ndP hp hu (by show scope.names.lookup y≠_;rw [k];decide)] at q
      exact q
  · exact e0.hok.fresh (Nat.le_of_lt (x.above y c (PySem.mem_of_lookup h)))
  · unfold start
    show _=N.length
    rw [List.length_append,List.length_map,List.length_replicate]
    omega
theorem fn_of {CX:CXT} {P:Program} {w:World} {K:PySem.W.Frag} {mg:Str→Option Value} {base:Heap} {k:Nat} {f:Addr} {name qual:Str} {params:Arguments} {body:List Stmt} {scope:Scope} {dV kV doc pm cdv ct oc:Value} {an od:Option Addr}
    {osl:Array (Option Value)} {N ps:List Str} {sp:Sp} (lk:K.lookup f=some ⟨oc,od,.func (PySem.W.fnOf name qual params body scope dV kV doc pm an cdv ct),osl⟩) (hcd:PySem.W.codeIn K cdv qual=true) (S:FnScope N ps scope)
    (len:∀ vs H Q E,sp vs H Q E→vs.length=ps.length)
    (hbody:∀ (A:Around) (outer:List Env) (s:Shared) (H:Hp) (vs:List V) (Q:VK) (E:XK),Room k (A.deeper (envOfC qual scope s.heap.objs.size f cdv))→sp vs H Q E→
      ∃ t,PSs (cxOf CX P w K mg base N qual scope f cdv A outer s H E) body t∧t { nx:=fun _ H'=>Q .non H',rt:=Q } (start N vs) H) :
    FnOk P w K mg base CX (k+1) f (PySem.W.fnOf name qual params body scope dV kV doc pm an cdv ct) ps sp:=by
  refine ⟨len,fun A outer s H args us vs Q E hr e0 hb r hsp=>?_⟩
  have hl:=len _ _ _ _ hsp
  have KX:K.In s.heap:=e0.mod.kin.keeps fun b o e=>(e0.bs b o e).1
  have lim:s.heap.NoLimit:=e0.mod.nolimit.keeps fun b o e=>(e0.bs b o e).1
  have hkind:∀ y∈ps.zip us,scope.names.lookup y.1=some .local∨(scope.names.lookup y.1=some .cell∧((cellsFrom (s.heap.objs.size+1) scope.names []).lookup y.1).isSome=true):=fun ⟨n,v⟩ hy=>by
    rcases S.par n (List.of_mem_zip hy).1 with q|q
    · exact .inl q
    · exact .inr ⟨q,PySem.W.cellsFrom_some _ _ _ (.inl q)⟩
  refine codeAny_call_function hr.depth (KX _ _ lk) rfl S.co S.gen rfl (PySem.W.codeRec_of KX hcd) (hb _ _ _ _ ?_)
  refine wpAny_newFunctionEnv_cells S.kind hkind fun env he s1 x=>?_
  subst he
  refine ⟨lim.keeps x.toInCall.keep,codeAny_func ?_⟩
  obtain ⟨t,ht,hq⟩:=hbody A outer s H vs Q E (hr.deeper _) hsp
  have I:Inv (cxOf CX P w K mg base N qual scope f cdv A outer s H E) [] (start N vs) H s1:=inv_start S hr.hd e0 hl r x
  refine wpAny_mono (ht [] s1 (start N vs) H _ I hq) (fun fl s' hs=>?_) fun e s' hs=>hs
  have fin:∀ {σ':St} {H':Hp} {v:V} {u:Value},Inv (cxOf CX P w K mg base N qual scope f cdv A outer s H E) [] σ' H' s'→RelV v u→Q v H'→CE outer P w H s Q u s':=
    fun {σ' H' v u} J rv q=>⟨v,H',J.os,J.bare,J.base,J.hok,rv,q⟩
  cases fl with
  | ret u=>
    obtain ⟨v,σ',H',J,rv,q⟩:=hs
    exact fin J rv q
  | next=>
    obtain ⟨σ',H',J,q⟩:=hs
    exact fin (v:=V.non) (u:=Value.none) J rfl q
  | brk=>
    obtain ⟨_,_,_,q⟩:=hs
    exact False.elim q
  | cont=>
    obtain ⟨_,_,_,q⟩:=hs
    exact False.elim q
end L2
namespace L2
open PySem PySem.Spec PyProof.Rows
section
variable {X:Cx} {x:Str} {p pos:Pos} {e:Expr} {es:List Expr} {t:TA} {id T:String} {r:List V→Hp→VK→Prop}
def tCB (r:List V→Hp→VK→Prop) (t:TA):TE:=fun σ H Q=>t σ H fun vs H1=>r vs H1 Q
theorem pe_callB (hc:CallR X (.builtin id) r) (hg:Gl X x) (hm:X.mg x=none) (hv:bootBuiltins x=some (.builtin id)) (ha:PA X (e::es) t) (hn:x ≠ "__name__":=by decide) (hdb:(x == ("__debug__" : Str))=false:=by decide)
    (he:starEach (e::es) X.env=(false,eval e X.env)::starEach es X.env:=by rfl) (hpl:(backTo pos (starEach es X.env)).any (·.1)=false:=by rfl):PE X (.Call (.Name x p) (e::es) [] pos) (tCB r t):=by
  intro pins s σ H Q I h
  refine wpAny_Call_Name_kw (ld_blt I hg hm hv ?_ hn hdb)
  exact PyProof.Rows.callWith_builtin1 (thn (ha pos pins s σ H _ I h) fun us s1 ⟨vs,H1,I1,r1,q1⟩=>hc pins s1 σ H1 vs us Q I1 r1 q1) he hpl
theorem pe_callTy (hc:CallR X (.type T) r) (hg:Gl X x) (hm:X.mg x=none) (hv:bootBuiltins x=some (.type T)) (ha:PA X (e::es) t) (hn:x ≠ "__name__":=by decide) (hdb:(x == ("__debug__" : Str))=false:=by decide)
    (he:starEach (e::es) X.env=(false,eval e X.env)::starEach es X.env:=by rfl) (hpl:(backTo pos (starEach es X.env)).any (·.1)=false:=by rfl):PE X (.Call (.Name x p) (e::es) [] pos) (tCB r t):=by
  intro pins s σ H Q I h
  refine wpAny_Call_Name_kw (ld_blt I hg hm hv ?_ hn hdb)
  exact PyProof.Rows.callWith_type1 (thn (ha pos pins s σ H _ I h) fun us s1 ⟨vs,H1,I1,r1,q1⟩=>hc pins s1 σ H1 vs us Q I1 r1 q1) he hpl
end
end L2
namespace HT
open PySem PyProof.Rows
section
open PySem.SeqAt
open PySem.AutoSeq1 (wpAny_loadPart')
open PySem.MeetsSeq PySem.MeetsSeq2 PySem.MeetsSeq3
end
section
variable {prog:Program} {w:World} {A:Around} {E:Value→Shared→Prop} {s:Shared}
theorem cat_tup {t b:Addr} {vs ws:List Value} {Q:Value→Shared→Prop} (ht:IsTup s.heap t vs.toArray) (hb:IsTup s.heap b ws.toArray) (hv:vs≠[])
    (h1:ws=[]→Q (.ref t) s) (h2:ws≠[]→Q (.ref s.heap.objs.size) { s with heap:=s.heap.push { cls:=.type "tuple",data:=.seq (vs++ws).toArray } })
    (hsz:vs.length+ws.length≤sizeLine):wpAny (model prog w) A (binaryOp .Add (.ref t) (.ref b)) Q E s:=by
  obtain ⟨⟨cls,dd,data,sl⟩,ho,hc,n,hd⟩:=id ht
  obtain ⟨⟨cls2,dd2,data2,sl2⟩,ho2,hc2,n2,hd2⟩:=id hb
  simp only at hc hd hc2 hd2
  subst hc hd hc2 hd2
  have e:vs.toArray++ws.toArray=(vs++ws).toArray:=by simp
  by_cases hw:ws=[]
  · exact concat_meets ⟨_,ho,rfl⟩ ⟨_,ho2,rfl⟩ noFill_tuple_add seq_tuple_add PySem.F.slot_tuple_add PySem.F.entry_tuple_add (PySem.F.args_tuple_add_2 _ _)
      (tuple_addW1 t b vs.toArray ws.toArray n n2 dd dd2 sl sl2 (by simpa using hv) (by simp [hw])) ⟨ho,ho2,h1 hw⟩
  · refine concat_meets ⟨_,ho,rfl⟩ ⟨_,ho2,rfl⟩ noFill_tuple_add seq_tuple_add PySem.F.slot_tuple_add PySem.F.entry_tuple_add (PySem.F.args_tuple_add_2 _ _)
      (tuple_addW2 t b vs.toArray ws.toArray n n2 dd dd2 sl sl2 (by simpa using hv) (by simpa using hw) (by rw [List.size_toArray,List.size_toArray];exact hsz)) ⟨ho,ho2,?_⟩
    rw [e]
    exact h2 hw
def sIx (n d:Nat):Option Int→Nat
  |none=>d
  |some v=>if v<0 then (v+(n:Int)).toNat else min v.toNat n
theorem sIx_none (n d:Nat):sIx n d none=d:=rfl
theorem sIx_nat (n d k:Nat):sIx n d (some (k:Int))=min k n:=by
  show (if (k:Int)<0 then ((k:Int)+(n:Int)).toNat else min (k:Int).toNat n)=min k n
  rw [if_neg (by omega),Int.toNat_natCast]
theorem sIx_le (n d:Nat) (hd:d≤n) (o:Option Int):sIx n d o≤n:=by
  cases o with
  |none=>exact hd
  | some v=>
    show (if v<0 then (v+(n:Int)).toNat else min v.toNat n)≤n
    by_cases hv:v<0
    · rw [if_pos hv];omega
    · rw [if_neg hv];exact Nat.min_le_right _ _
theorem clip_eq (v:Int) (n d:Nat):(if v<0 then max (v+(n:Int)) 0 else min v (n:Int))=((sIx n d (some v):Nat):Int):=by
  show (if v<0 then max (v+(n:Int)) 0 else min v (n:Int))=(((if v<0 then (v+(n:Int)).toNat else min v.toNat n):Nat):Int)
  by_cases hv:v<0
  · simp only [if_pos hv];omega
  · simp only [if_neg hv];omega
theorem adjust_gen (lo hi:Option Int) (n:Nat):Builtin.Slice.sliceAdjust lo hi 1 (n:Int)=(((sIx n 0 lo:Nat):Int),((sIx n n hi:Nat):Int)):=by
  have h1:¬ ((1:Int)<0):=by omega
  unfold Builtin.Slice.sliceAdjust
  simp only [h1,if_false]
  refine Prod.ext ?_ ?_
  · cases lo with
    |none=>rfl
    |some v=>exact clip_eq v n 0
  · cases hi with
    |none=>rfl
    |some v=>exact clip_eq v n n
theorem places_gen (i j:Nat):Builtin.Slice.slicePlaces (i:Int) (j:Int) 1=j-i:=by
  unfold Builtin.Slice.slicePlaces
  have h1:(1:Int) > 0:=by omega
  simp only [h1,if_true,Int.ediv_one]
  split <;> omega
theorem slicePart_ {v:Value} {o:Option Int} {Q:Option Int→Shared→Prop} (p:IsPart v o) (h:Q o s):wpAny (model prog w) A (Builtin.Slice.slicePartIndex v) Q E s:=by
  cases p with
  |none=>exact slicePart_none h
  |int i t=>exact slicePart_int h
theorem sliceApplied_gen {sl:Addr} {vl vu:Value} {lo hi:Option Int} {n:Nat} {Q:Int×Int×Nat→Shared→Prop} (hs:s.heap.IsSliceOf sl vl vu .none) (pl:IsPart vl lo) (pu:IsPart vu hi)
    (h:Q (((sIx n 0 lo:Nat):Int),1,sIx n n hi-sIx n 0 lo) s):wpAny (model prog w) A (Builtin.Slice.sliceApplied (.ref sl) (pure (n:Int))) Q E s:=by
  obtain ⟨os,hos,hcs,hds⟩:=id hs
  unfold Builtin.Slice.sliceApplied Builtin.Slice.sliceFields
  refine wpAny_bind (wpAny_bind (wpAny_field hos hds (x:=vl) rfl (wpAny_bind (wpAny_field hos hds (x:=vu) rfl (wpAny_bind (wpAny_field hos hds (x:=.none) rfl (wpAny_pure ?_)))))))
  refine wpAny_bind (slicePart_none ?_)
  show wpAny _ _ (if ((1:Int) == 0)=true then _ else _) _ _ s
  rw [if_neg (by decide)]
  refine wpAny_bind (slicePart_ pl (wpAny_bind (slicePart_ pu (wpAny_bind (wpAny_pure ?_)))))
  show wpAny _ _ (match Builtin.Slice.sliceAdjust lo hi 1 (n:Int) with|(lo,hi)=>pure (lo,(1:Int),Builtin.Slice.slicePlaces lo hi 1)) _ _ s
  rw [adjust_gen lo hi n]
  show wpAny _ _ (pure (((sIx n 0 lo:Nat):Int),(1:Int),Builtin.Slice.slicePlaces ((sIx n 0 lo:Nat):Int) ((sIx n n hi:Nat):Int) 1)) _ _ s
  rw [places_gen]
  exact wpAny_pure h
theorem pick_gen (xs:Array Value) (i k:Nat):((List.range k).filterMap fun (m:Nat)=>xs[((i:Int)+(m:Int)*1).toNat]?).toArray=((xs.toList.drop i).take k).toArray:=by
  have e:(fun (m:Nat)=>xs[((i:Int)+(m:Int)*1).toNat]?)=fun m=>xs[i+m]?:=by
    funext m
    have:((i:Int)+(m:Int)*1).toNat=i+m:=by omega
    rw [this]
  rw [e]
  have:=pick_run xs i k
  rw [List.filterMap_map] at this
  have e2:((fun x=>xs[x]?) ∘ fun x=>i+x)=fun m=>xs[i+m]?:=rfl
  rw [e2] at this
  rw [this]
theorem getItem_tuple_cut {t sl:Addr} {items:Array Value} {vl vu:Value} {lo hi:Option Int} {Q:Value→Shared→Prop} (ht:IsTup s.heap t items) (hs:s.heap.IsSliceOf sl vl vu .none) (pl:IsPart vl lo) (pu:IsPart vu hi)
    (hw:¬ (sIx items.size 0 lo=0∧sIx items.size items.size hi=items.size))
    (h:Q (.ref s.heap.objs.size) { s with heap:=s.heap.push { cls:=.type "tuple",data:=.seq ((items.toList.drop (sIx items.size 0 lo)).take (sIx items.size items.size hi-sIx items.size 0 lo)).toArray } })
    (hsz:items.size≤sizeLine):wpAny (model prog w) A (getItem (.ref t) (.ref sl)) Q E s:=by
  have htake:sizeOk (.seq ((items.toList.drop (sIx items.size 0 lo)).take (sIx items.size items.size hi-sIx items.size 0 lo)).toArray):=by
    show ((items.toList.drop (sIx items.size 0 lo)).take (sIx items.size items.size hi-sIx items.size 0 lo)).toArray.size≤sizeLine
    rw [List.size_toArray,List.length_take,List.length_drop,Array.length_toList]
    omega
  have hj:sIx items.size items.size hi≤items.size:=sIx_le _ _ (Nat.le_refl _) hi
  obtain ⟨os,hos,hcs,hds⟩:=id hs
  have hTs:s.TypeIs (.ref sl) "slice":=⟨os,hos,hcs⟩
  unfold getItem
  try with_reducible refine wpAny_holding ?_
  first|refine wpAny_bind (wpAny_pure ?_)|skip
  refine wpAny_bind (wpAny_sequenceKey ht.typeIs (by decide) ?_)
  refine wpAny_bind (wpAny_callSpecial?_slot (name:=Str.ofString "__getitem__") ht.typeIs PyProof.Rows.slot_tuple_getitem
    (wpAny_call_entry PyProof.Rows.slot_tuple_getitem ht.typeIs entry_tuple_getitem ?_ (args_tuple_getitem _ _)))
  show wpAny _ _ (Builtin.Tuple.tupleItemsOf (.ref t) >>= _) _ _ s
  refine wpAny_bind (tupleItemsOf_ ht ?_)
  refine wpAny_bind (wpAny_typeOf hTs ?_)
  rw [if_pos (by decide)]
  refine wpAny_bind (sliceApplied_gen hs pl pu ?_)
  have hno:¬ ((((sIx items.size 0 lo:Nat):Int) == 0 && (1:Int) == 1 && (sIx items.size items.size hi-sIx items.size 0 lo) == items.size)=true):=by
    intro q
    rw [Bool.and_eq_true,Bool.and_eq_true] at q
    have q1:((sIx items.size 0 lo:Nat):Int)=0:=eq_of_beq q.1.1
    have q2:sIx items.size items.size hi-sIx items.size 0 lo=items.size:=eq_of_beq q.2
    exact hw ⟨by omega,by omega⟩
  show wpAny _ _ (if (((sIx items.size 0 lo:Nat):Int) == 0 && (1:Int) == 1 && (sIx items.size items.size hi-sIx items.size 0 lo) == items.size)=true then _ else _) _ _ s
  rw [if_neg hno,pick_gen]
  first
    |exact wpAny_bind (m:=Builtin.Tuple.tupleExact _) (wpAny_newObj_type (wpAny_pure ⟨_,rfl,wpAny_pure h⟩) htake)
    |exact wpAny_bind (m:=Builtin.Tuple.tupleExact _) (wpAny_newObj_type (wpAny_bind (wpAny_pure (wpAny_pure ⟨_,rfl,wpAny_pure h⟩))) htake)
    |exact wpAny_bind (wpAny_bind (m:=Builtin.Tuple.tupleExact _) (wpAny_newObj_type (wpAny_pure (wpAny_pure ⟨_,rfl,wpAny_pure h⟩)) htake))
    |exact wpAny_bind (wpAny_bind (m:=Builtin.Tuple.tupleExact _) (wpAny_newObj_type (wpAny_pure ⟨_,rfl,wpAny_pure h⟩) htake))
end
end HT
namespace L2
open PySem PySem.Spec PyProof.Rows
abbrev TO:=St→Hp→(Option Int→Hp→Prop)→Prop
def PO (X:Cx) (e:Option Expr) (t:TO):Prop:=
  ∀ (pins:List (Addr×Obj)) (s:Shared) (σ:St) (H:Hp) (Q:Option Int→Hp→Prop),Inv X pins σ H s→t σ H Q→
    wpAny (model X.prog X.w) X.A (evalPart e X.env) (fun u s'=>∃ o H',Inv X pins σ H' s'∧IsPart u o∧Q o H') X.xe s
def tNoPart:TO:=fun _ H Q=>Q none H
def tPart (t:TE):TO:=fun σ H Q=>t σ H fun x H1=>∃ i,x=.int i∧Q (some i) H1
section
variable {X:Cx} {e:Expr} {te:TE} {lo hi:Option Expr} {tl th:TO} {pos p2:Pos}
theorem po_none:PO X none tNoPart:=by
  intro pins s σ H Q I h
  rw [evalPart_none]
  exact wpAny_pure ⟨none,H,I,.none,h⟩
theorem po_some (h:PE X e te):PO X (some e) (tPart te):=by
  intro pins s σ H Q I hw
  rw [evalPart_some]
  refine thn (h pins s σ H _ I hw) fun u s1 ⟨x,H1,I1,r1,q1⟩=>?_
  obtain ⟨i,rfl,q⟩:=q1
  obtain ⟨t,rfl⟩:=r1
  exact ⟨some i,H1,I1,.int i t,q⟩
def SlR (X:Cx) (r:V→Option Int→Option Int→Hp→VK→Prop):Prop:=
  ∀ (pins:List (Addr×Obj)) (s:Shared) (σ:St) (H:Hp) (x:V) (v vl vu:Value) (lo hi:Option Int) (sl:Addr) (Q:VK),Inv X pins σ H s→RelV x v→s.heap.IsSliceOf sl vl vu .none→IsPart vl lo→IsPart vu hi→r x lo hi H Q→
    ∃ T id,typeLookup (.type T) "__getitem__" = pure (some (.builtin id))∧s.TypeIs v T∧wpAny (model X.prog X.w) X.A (getItem v (.ref sl)) (EP X pins σ Q) X.xe s
def tSl (r:V→Option Int→Option Int→Hp→VK→Prop) (te:TE) (tl th:TO):TE:=fun σ H Q=>te σ H fun x H1=>tl σ H1 fun l H2=>th σ H2 fun u H3=>r x l u H3 Q
theorem pe_slice {r:V→Option Int→Option Int→Hp→VK→Prop} (hr:SlR X r) (he:PE X e te) (hl:PO X lo tl) (hu:PO X hi th):PE X (.Subscript e (.Slice lo hi none p2) pos) (tSl r te tl th):=by
  intro pins s σ H Q I h
  refine Subscript_ (thn (he pins s σ H _ I h) fun v s1 ⟨x,H1,I1,r1,q1⟩=>?_)
  refine wpAny_Slice (thn (hl pins s1 σ H1 _ I1 q1) fun vl s2 ⟨l,H2,I2,pl,q2⟩=>thn (hu pins s2 σ H2 _ I2 q2) fun vu s3 ⟨u,H3,I3,pu,q3⟩=>?_)
  rw [evalPart_none]
  refine wpAny_pure ?_
  have I4:Inv X pins σ H3 { s3 with heap:=s3.heap.push { cls:=.type "slice",data:=.fields #[vl,vu,.none] } }:=I3.kept (t':=s3.toks) fun b ob q=>Heap.get?_push_of_some _ q
  obtain ⟨T,id,hT,ht,hg⟩:=hr pins { s3 with heap:=s3.heap.push { cls:=.type "slice",data:=.fields #[vl,vu,.none] } } σ H3 x v vl vu l u s3.heap.objs.size Q I4 r1 (Heap.IsSliceOf.new ..) pl pu q3
  show wpAny (model X.prog X.w) X.A (subscriptTail e (.Slice lo hi none p2) v (.ref s3.heap.objs.size)) (EP X pins σ Q) X.xe { s3 with heap:=s3.heap.push { cls:=.type "slice",data:=.fields #[vl,vu,.none] } }
  exact tail_any (ops:=[.ref s3.heap.objs.size,v]) ht hT hg (by with_unfolding_all rfl)
def cutV (xs:List V) (lo hi:Option Int):List V:=(xs.drop (HT.sIx xs.length 0 lo)).take (HT.sIx xs.length xs.length hi-HT.sIx xs.length 0 lo)
theorem cutV_length (xs:List V) (lo hi:Option Int):(cutV xs lo hi).length≤xs.length:=by
  unfold cutV
  rw [List.length_take,List.length_drop]
  omega
def rSlT (K:PySem.W.Frag):V→Option Int→Option Int→Hp→VK→Prop:=fun x lo hi H Q=>∃ a xs,x=.ref a∧SqT K H a xs∧
  ¬ (HT.sIx xs.length 0 lo=0∧HT.sIx xs.length xs.length hi=xs.length)∧∀ p,H p=none→Q (.ref p) (upd H p (.tup (cutV xs lo hi)))
theorem sl_tup:SlR X (rSlT X.K):=by
  intro pins s σ H x v vl vu lo hi sl Q I rx hs pl pu h
  obtain ⟨a,xs,rfl,hx,hw,q⟩:=h
  cases rx
  obtain ⟨its,r,ht,hz⟩:=I.tuple hx
  have hlen:its.toArray.size=xs.length:=by rw [List.size_toArray];exact r.length.symm
  refine ⟨"tuple",_,PyProof.Rows.slot_tuple_getitem.lookup,ht.typeIs,?_⟩
  refine HT.getItem_tuple_cut ht hs pl pu (by rw [hlen];exact hw) ?_ (by rw [hlen];exact hz)
  rw [hlen]
  refine ⟨.ref s.heap.objs.size,_,I.laid (t':=s.toks) (o:=.tup (cutV xs lo hi)) (fun b ob q=>Heap.get?_push_of_some _ q) (Nat.le_refl _) ?_,rfl,q _ (I.hok.fresh (Nat.le_refl _))⟩
  exact ⟨Nat.le_trans (cutV_length xs lo hi) hz,_,(r.drop (HT.sIx xs.length 0 lo)).take (HT.sIx xs.length xs.length hi-HT.sIx xs.length 0 lo),IsTup.new _ _⟩
def rCatT (K:PySem.W.Frag):R2:=fun x y H Q=>∃ a b xs ys,x=.ref a∧y=.ref b∧SqT K H a xs∧SqT K H b ys∧xs≠[]∧xs.length+ys.length≤sizeLine∧
  (ys=[]→Q (.ref a) H)∧(ys≠[]→∀ p,H p=none→Q (.ref p) (upd H p (.tup (xs++ys))))
theorem Vals.nil_iff {xs:List V} {us:List Value} (r:Vals xs us):us=[]↔xs=[]:=by
  cases r with
  |nil=>simp
  |cons _ _=>simp
theorem op_catT:OpR X (binaryOp .Add) (rCatT X.K):=by
  intro pins s σ H x y v u Q I rx ry h
  obtain ⟨a,b,xs,ys,rfl,rfl,ha,hb,hx,hz,q1,q2⟩:=h
  cases rx
  cases ry
  obtain ⟨its,r1,p1,_⟩:=I.tuple ha
  obtain ⟨its2,r2,p2,_⟩:=I.tuple hb
  refine HT.cat_tup p1 p2 (fun z=>hx (r1.nil_iff.mp z)) (fun z=>⟨.ref a,H,I,rfl,q1 (r2.nil_iff.mp z)⟩) (fun z=>?_) (by rw [← r1.length,← r2.length];exact hz)
  refine ⟨.ref s.heap.objs.size,_,I.laid (t':=s.toks) (o:=.tup (xs++ys)) (fun b ob q=>Heap.get?_push_of_some _ q) (Nat.le_refl _) ?_,rfl,q2 (fun w=>z (r2.nil_iff.mpr w)) _ (I.hok.fresh (Nat.le_refl _))⟩
  exact ⟨by rw [List.length_append];exact hz,_,r1.append r2,IsTup.new _ _⟩
end
end L2
namespace L2
open PySem PySem.Spec PyProof.Rows
def ixN (n:Nat) (i:Int):Option Nat:=if 0≤i then (if i<n then some i.toNat else none) else if -(n:Int)≤i then some (i+n).toNat else none
def atI {α:Type} (xs:List α) (i:Int):Option α:=(ixN xs.length i).bind fun j=>xs[j]?
theorem ixN_seq {n:Nat} {i:Int} {j:Nat} (h:ixN n i=some j):seqIndex? i n=some j∧j<n∧-(n:Int)≤i∧i<n:=by
  unfold ixN at h
  by_cases h0:0≤i
  · rw [if_pos h0] at h
    by_cases h1:i<n
    · rw [if_pos h1] at h
      have e:i.toNat=j:=Option.some.inj h
      exact ⟨by rw [seqIndex_of h0 h1,e],by omega,by omega,h1⟩
    · rw [if_neg h1] at h;cases h
  · rw [if_neg h0] at h
    by_cases h1:-(n:Int)≤i
    · rw [if_pos h1] at h
      have e:(i+n).toNat=j:=Option.some.inj h
      exact ⟨by rw [seqIndex_neg (by omega) h1,e],by omega,h1,by omega⟩
    · rw [if_neg h1] at h;cases h
theorem atI_get {α:Type} {xs:List α} {i:Int} {v:α} (h:atI xs i=some v):∃ j,seqIndex? i xs.length=some j∧xs[j]?=some v∧j<xs.length∧-(xs.length:Int)≤i∧i<xs.length:=by
  unfold atI at h
  cases e:ixN xs.length i with
  |none=>rw [e] at h;cases h
  | some j=>
    rw [e] at h
    obtain ⟨h1,h2,h3,h4⟩:=ixN_seq e
    exact ⟨j,h1,h,h2,h3,h4⟩
theorem atI_nat {α:Type} {xs:List α} {j:Nat} {v:α} (h:xs[j]?=some v):atI xs (j:Int)=some v:=by
  have hj:j<xs.length:=(List.getElem?_eq_some_iff.mp h).1
  have e:ixN xs.length (j:Int)=some j:=by
    unfold ixN
    rw [if_pos (by omega),if_pos (by omega)];simp
  unfold atI;rw [e];exact h
def PlainIx (b:Expr):Prop:=∀ o i,subscripted b false o i=operate [o,i] (getItem o i)
def IxR (X:Cx) (r:R2):Prop:=
  ∀ (value slice:Expr) (pins:List (Addr×Obj)) (s:Shared) (σ:St) (H:Hp) (x y:V) (v u:Value) (Q:VK),Inv X pins σ H s→RelV x v→RelV y u→r x y H Q→
    subscripted slice false v u=operate [v,u] (getItem v u)→wpAny (model X.prog X.w) X.A (subscriptTail value slice v u) (EP X pins σ Q) X.xe s
def MtR (X:Cx) (id:String) (r:V→List V→Hp→VK→Prop):Prop:=
  ∀ (pins:List (Addr×Obj)) (s:Shared) (σ:St) (H:Hp) (x:V) (xs:List V) (v:Value) (us:List Value) (Q:VK),Inv X pins σ H s→RelV x v→Vals xs us→r x xs H Q→
    wpAny (model X.prog X.w) X.A (call (.builtin id) (v::us)) (EP X pins σ Q) X.xe s
section
variable {X:Cx} {a b:Expr} {ta tb:TE} {pos:Pos}
theorem IxR.or {r r':R2} (h:IxR X r) (h':IxR X r'):IxR X (fun x y H Q=>r x y H Q∨r' x y H Q):=by
  intro value slice pins s σ H x y v u Q I rx ry q hs
  rcases q with q|q
  · exact h value slice pins s σ H x y v u Q I rx ry q hs
  · exact h' value slice pins s σ H x y v u Q I rx ry q hs
theorem pe_ix {r:R2} (hr:IxR X r) (ha:PE X a ta) (hb:PE X b tb) (hs:PlainIx b):PE X (.Subscript a b pos) (tOp r ta tb):=by
  intro pins s σ H Q I h
  exact Subscript_ (binT ha hb I h fun v u s2 x y H2 I2 rx ry q=>hr a b pins s2 σ H2 x y v u Q I2 rx ry q (hs _ _))
def rIxL (K:PySem.W.Frag):R2:=fun x y H Q=>∃ p xs i v,x=.ref p∧y=.int i∧SqL K H p xs∧atI xs i=some v∧Q v H
def rIxT (K:PySem.W.Frag):R2:=fun x y H Q=>∃ p xs i v,x=.ref p∧y=.int i∧SqT K H p xs∧atI xs i=some v∧Q v H
def rIxS:R2:=fun x y H Q=>∃ z i c,x=.str z∧y=.int i∧z.length≤sizeLine∧atI z.cps.toList i=some c∧Q (.str ⟨#[c]⟩) H
theorem ix_list:IxR X (rIxL X.K):=by
  intro value slice pins s σ H x y v u Q I rx ry h hs
  obtain ⟨p,xs,i,z,rfl,rfl,hq,he,q⟩:=h
  cases rx
  obtain ⟨t,rfl⟩:=ry
  obtain ⟨its,r,pl,hz⟩:=I.list hq
  obtain ⟨j,h1,h2,h3,h4,h5⟩:=atI_get he
  obtain ⟨w,ew,rw'⟩:=r.get h2
  have hl:=r.length
  have hn:=line63
  have fin:EP X pins σ Q w s:=⟨z,H,I,rw',q⟩
  by_cases h0:0≤i
  · have hj:i.toNat=j:=by
      rw [seqIndex_of h0 h5] at h1
      exact Option.some.inj h1
    exact item_listR pl.isList h0 (by omega) (by rw [hj];simpa using ew) fin hs
  · have hj:(i+(its.toArray.size:Int)).toNat=j:=by
      rw [seqIndex_neg (by omega) h4] at h1
      rw [List.size_toArray,← hl]
      exact Option.some.inj h1
    exact subscriptTail_builtinR (x:=w) pl.isList.typeIs slot_list_getitem.lookup
      (wpAny_getItem_list_neg (Q:=fun r s'=>r=w∧EP X pins σ Q r s') pl.isList (by omega) (by rw [List.size_toArray] <;> omega) (by omega) (by rw [hj];simpa using ew) ⟨rfl,fin⟩) hs
theorem ix_tup:IxR X (rIxT X.K):=by
  intro value slice pins s σ H x y v u Q I rx ry h hs
  obtain ⟨p,xs,i,z,rfl,rfl,hq,he,q⟩:=h
  cases rx
  obtain ⟨t,rfl⟩:=ry
  obtain ⟨its,r,pl,hz⟩:=I.tuple hq
  obtain ⟨j,h1,h2,h3,h4,h5⟩:=atI_get he
  obtain ⟨w,ew,rw'⟩:=r.get h2
  have hl:=r.length
  have hn:=line63
  have fin:EP X pins σ Q w s:=⟨z,H,I,rw',q⟩
  exact subscriptTail_builtinR (x:=w) pl.typeIs slot_tuple_getitem.lookup
    (getItem_tuple (j:=j) (Q:=fun r s'=>r=w∧EP X pins σ Q r s') pl (by omega) (by omega) (by rw [List.size_toArray,← hl];exact h1) (by simpa using ew) ⟨rfl,fin⟩) hs
theorem ix_str:IxR X rIxS:=by
  intro value slice pins s σ H x y v u Q I rx ry h hs
  obtain ⟨z,i,c,rfl,rfl,hz,he,q⟩:=h
  obtain ⟨t,rfl⟩:=rx
  obtain ⟨t',rfl⟩:=ry
  obtain ⟨j,h1,h2,h3,h4,h5⟩:=atI_get he
  have hl:z.cps.toList.length=z.length:=by simp [Str.length]
  rw [hl] at h1 h4 h5
  have hn:=line63
  exact tail_any (typeIs_str s z t) slot_str_getitem.lookup (getItem_str (c:=c) (by
    have e1:decide (i < -(2 ^ 63:Int))=false:=decide_eq_false (by omega)
    have e2:decide (i ≥ 2 ^ 63)=false:=decide_eq_false (by omega)
    rw [e1,e2,Bool.or_false]) (by rw [h1];simpa using h2) ⟨.str ⟨#[c]⟩,H,I.tok _,⟨_,rfl⟩,q⟩) hs
def rIx (K:PySem.W.Frag):R2:=fun x y H Q=>rIxL K x y H Q∨rIxT K x y H Q∨rIxS x y H Q
theorem ix_seq:IxR X (rIx X.K):=ix_list.or (ix_tup.or ix_str)
theorem mapSeq_set (its:List Value) (n j:Nat) (u:Value):Obj.mapSeq (·.setIfInBounds j u) { cls:=.type "list",data:=.seq its.toArray n }={ cls:=.type "list",data:=.seq (its.set j u).toArray n }:=by
  simp [Obj.mapSeq]
theorem Inv.lst {pins:List (Addr×Obj)} {σ:St} {H:Hp} {s:Shared} {p:Addr} {xs:List V} (I:Inv X pins σ H s) (h:H p=some (.lst xs)) :
    ∃ (its:List Value) (n:Nat),Vals xs its∧s.heap.get? p=some { cls:=.type "list",data:=.seq its.toArray n }∧xs.length≤sizeLine:=by
  obtain ⟨z,its,n,r,e⟩:=I.hok p _ h
  exact ⟨its,n,r,e,z⟩
theorem Inv.lstUpd {pins:List (Addr×Obj)} {σ:St} {H:Hp} {s:Shared} {p:Addr} {xs ys:List V} {its its':List Value} {n n':Nat} {f:Obj→Obj} (I:Inv X pins σ H s) (h:H p=some (.lst xs))
    (ho:s.heap.get? p=some { cls:=.type "list",data:=.seq its.toArray n }) (hf:f { cls:=.type "list",data:=.seq its.toArray n }={ cls:=.type "list",data:=.seq its'.toArray n' }) (r:Vals ys its') (hz:ys.length≤sizeLine) (t:Nat) :
    Inv X pins σ (upd H p (.lst ys)) { s with heap:=s.heap.update p f,toks:=t }:=by
  have e:(s.heap.update p f).get? p=some { cls:=.type "list",data:=.seq its'.toArray n' }:=by
    rw [Heap.get?_update_self f ho (by rw [hf] <;> rfl),hf]
  refine I.write (x:=p) (e:=p) (by rw [h];trivial) (.inl rfl) (fun b u hb q=>(Heap.get?_update_other _ _ (Ne.symm hb)).trans q) ⟨_,e⟩ ?_
  exact ⟨hz,its',n',r,e⟩
def rSetL:V→V→V→Hp→(Hp→Prop)→Prop:=fun o i v H Q=>∃ p xs k j,o=.ref p∧i=.int k∧H p=some (.lst xs)∧ixN xs.length k=some j∧Q (upd H p (.lst (xs.set j v)))
theorem set_list:PSet X rSetL:=by
  intro pins s σ H o i v ov iv u Q I ro ri rv h
  obtain ⟨p,xs,k,j,rfl,rfl,hp,hj,q⟩:=h
  cases ro
  obtain ⟨t,rfl⟩:=ri
  obtain ⟨its,n,r,ho,hz⟩:=I.lst hp
  obtain ⟨h1,h2,h3,h4⟩:=ixN_seq hj
  have hl:=r.length
  have hn:=line63
  have I':Inv X pins σ (upd H p (.lst (xs.set j v))) { s with heap:=s.heap.update p (Obj.mapSeq (·.setIfInBounds j u)) }:=
    I.lstUpd hp ho (mapSeq_set its n j u) (r.set rv j) (by rw [List.length_set];exact hz) s.toks
  by_cases h0:0≤k
  · have hk:k.toNat=j:=by
      rw [seqIndex_of h0 h4] at h1
      exact Option.some.inj h1
    exact PySem.W.ki_setAt ho h0 (by omega) (by rw [List.size_toArray,← hl];exact h4) (by rw [hk];exact ⟨_,I',q⟩)
  · have hk:(k+(its.toArray.size:Int)).toNat=j:=by
      rw [seqIndex_neg (by omega) h3] at h1
      rw [List.size_toArray,← hl]
      exact Option.some.inj h1
    exact PySem.W.ki_setBack ho (by omega) (by rw [List.size_toArray,← hl];exact h3) (by omega) (by rw [hk];exact ⟨_,I',q⟩)
theorem slice_bounds (lo hi:Option Int) (n:Nat):(sliceBounds lo hi none n).1=((HT.sIx n 0 lo:Nat):Int)∧(sliceBounds lo hi none n).2.1=((HT.sIx n n hi:Nat):Int)∧(sliceBounds lo hi none n).2.2=1:=by
  refine ⟨?_,?_,rfl⟩
  · cases lo with
    |none=>simp [sliceBounds,HT.sIx]
    | some i=>
      simp only [sliceBounds,HT.sIx,Option.getD_none,show (1:Int) > 0 by decide,if_true]
      by_cases h:i<0
      · simp only [h,if_true] <;> omega
      · simp only [h,if_false] <;> omega
  · cases hi with
    |none=>simp [sliceBounds,HT.sIx]
    | some i=>
      simp only [sliceBounds,HT.sIx,Option.getD_none,show (1:Int) > 0 by decide,if_true]
      by_cases h:i<0
      · simp only [h,if_true] <;> omega
      · simp only [h,if_false] <;> omega
theorem slicePick_cut (its:List Value) (lo hi:Option Int):slicePick its.toArray lo hi none=((its.drop (HT.sIx its.length 0 lo)).take (HT.sIx its.length its.length hi-HT.sIx its.length 0 lo)).toArray:=by
  obtain ⟨h1,h2,h3⟩:=slice_bounds lo hi its.toArray.size
  unfold slicePick
  rw [h1,h2,h3]
  simp only [sliceRange_one,pick_run,List.size_toArray] <;> rfl
def rSlL (K:PySem.W.Frag):V→Option Int→Option Int→Hp→VK→Prop:=fun x lo hi H Q=>∃ a xs,x=.ref a∧SqL K H a xs∧∀ p,H p=none→Q (.ref p) (upd H p (.lst (cutV xs lo hi)))
theorem sl_list:SlR X (rSlL X.K):=by
  intro pins s σ H x v vl vu lo hi sl Q I rx hs pl pu h
  obtain ⟨a,xs,rfl,hx,q⟩:=h
  cases rx
  obtain ⟨its,r,ht,hz⟩:=I.list hx
  have hlen:=r.length
  refine ⟨"list",_,slot_list_getitem.lookup,ht.isList.typeIs,?_⟩
  refine wpAny_getItem_list_slice ht.isList hs pl pu .none (by simp) ?_ (by rw [List.size_toArray] <;> omega)
  rw [slicePick_cut,← hlen]
  refine ⟨.ref s.heap.objs.size,_,I.laid (t':=s.toks) (o:=.lst (cutV xs lo hi)) (fun b ob q=>Heap.get?_push_of_some _ q) (Nat.le_refl _) ?_,rfl,q _ (I.hok.fresh (Nat.le_refl _))⟩
  exact ⟨Nat.le_trans (cutV_length xs lo hi) hz,_,0,(r.drop (HT.sIx xs.length 0 lo)).take (HT.sIx xs.length xs.length hi-HT.sIx xs.length 0 lo),Heap.get?_push_size _ rfl⟩
def flatV:V→Bool
  |.non=>true
  |.bl _=>true
  |.int _=>true
  |.str _=>true
  |_=>false
def eqV:V→V→Bool
  |.non,.non=>true
  |.bl a,.bl b=>a == b
  |.bl a,.int b=>(if a then 1 else 0) == b
  |.int a,.bl b=>a == (if b then 1 else 0)
  |.int a,.int b=>a == b
  |.str a,.str b=>a == b
  |_,_=>false
theorem eqAt_V {A:Around} {s:Shared} {y x:V} {u v:Value} (ry:RelV y u) (rx:RelV x v) (fy:flatV y=true) (fx:flatV x=true):SeqAt.EqAt A s u v (eqV y x):=by
  cases y with
  | non=>
    cases ry
    cases x with
    |non=>cases rx;exact SeqAt.EqAt.same _
    |bl b=>cases rx;exact SeqAt.EqAt.none_bool b
    |int b=>obtain ⟨t,rfl⟩:=rx;exact SeqAt.EqAt.none_int b t
    |str b=>obtain ⟨t,rfl⟩:=rx;exact SeqAt.EqAt.none_str b t
    |_=>exact absurd (show false=true from fx) Bool.false_ne_true
  | bl a=>
    cases ry
    cases x with
    |non=>cases rx;exact SeqAt.EqAt.bool_none a
    |bl b=>cases rx;exact SeqAt.EqAt.bool_bool a b
    |int b=>obtain ⟨t,rfl⟩:=rx;exact SeqAt.EqAt.bool_int a b t
    |str b=>obtain ⟨t,rfl⟩:=rx;exact SeqAt.EqAt.bool_str a b t
    |_=>exact absurd (show false=true from fx) Bool.false_ne_true
  | int a=>
    obtain ⟨t',rfl⟩:=ry
    cases x with
    |non=>cases rx;exact SeqAt.EqAt.int_none a t'
    |bl b=>cases rx;exact SeqAt.EqAt.int_bool a t' b
    |int b=>obtain ⟨t,rfl⟩:=rx;exact SeqAt.EqAt.int_int a t' b t
    |str b=>obtain ⟨t,rfl⟩:=rx;exact SeqAt.EqAt.int_str a t' b t
    |_=>exact absurd (show false=true from fx) Bool.false_ne_true
  | str a=>
    obtain ⟨t',rfl⟩:=ry
    cases x with
    |non=>cases rx;exact SeqAt.EqAt.str_none a t'
    |bl b=>cases rx;exact SeqAt.EqAt.str_bool a t' b
    |int b=>obtain ⟨t,rfl⟩:=rx;exact SeqAt.EqAt.str_int a t' b t
    |str b=>obtain ⟨t,rfl⟩:=rx;exact SeqAt.EqAt.str_str a t' b t
    |_=>exact absurd (show false=true from fx) Bool.false_ne_true
  |_=>exact absurd (show false=true from fy) Bool.false_ne_true
def eqU (x:V) (u:Value):Bool:=match u with
  |.none=>eqV .non x
  |.bool b=>eqV (.bl b) x
  |.int i _=>eqV (.int i) x
  |.str z _=>eqV (.str z) x
  |_=>false
theorem eqU_of {x y:V} {u:Value} (r:RelV y u) (f:flatV y=true):eqU x u=eqV y x:=by
  cases y with
  |non=>cases r;rfl
  |bl b=>cases r;rfl
  |int i=>obtain ⟨t,rfl⟩:=r;rfl
  |str z=>obtain ⟨t,rfl⟩:=r;rfl
  |_=>exact absurd (show false=true from f) Bool.false_ne_true
theorem any_eqU {x:V}:∀ {xs:List V} {us:List Value},Vals xs us→xs.all flatV=true→us.any (eqU x)=xs.any fun y=>eqV y x
  |_,_,.nil,_=>rfl
  | y::xs,u::us,.cons r t,f=>by
    rw [List.all_cons,Bool.and_eq_true] at f
    rw [List.any_cons,List.any_cons,eqU_of r f.1,any_eqU t f.2]
theorem mem_eqAt {A:Around} {s:Shared} {x:V} {v:Value} (rx:RelV x v) (fx:flatV x=true):∀ {xs:List V} {us:List Value},Vals xs us→xs.all flatV=true→∀ u∈us,SeqAt.EqAt A s u v (eqU x u)
  |_,_,.nil,_=>fun u hu=>by cases hu
  | y::xs,u::us,.cons r t,f=>fun u' hu=>by
    rw [List.all_cons,Bool.and_eq_true] at f
    rcases List.mem_cons.mp hu with rfl|hu
    · rw [eqU_of r f.1];exact eqAt_V r rx f.1 fx
    · exact mem_eqAt rx fx t f.2 u' hu
def inV (x:V) (xs:List V):Bool:=xs.any fun y=>eqV y x
def rIn (K:PySem.W.Frag) (neg:Bool):R2:=fun x y H Q=>∃ p xs,y=.ref p∧(SqL K H p xs∨SqT K H p xs)∧flatV x=true∧xs.all flatV=true∧Q (.bl (if neg then !inV x xs else inV x xs)) H
theorem op_in_seq:OpR X (compareOp .In) (rIn X.K false):=by
  intro pins s σ H x y v u Q I rx ry h
  obtain ⟨p,xs,rfl,hq,fx,fs,q⟩:=h
  cases ry
  rcases hq with hq|hq
  · obtain ⟨its,r,pl,hz⟩:=I.list hq
    refine SeqAt.in_listAt (eqU x) pl.isList (fun w hw=>mem_eqAt rx fx r fs w (by simpa using hw)) ⟨.bl _,H,I,rfl,?_⟩
    rw [show its.toArray.any (eqU x)=its.any (eqU x) by simp,any_eqU r fs]
    exact q
  · obtain ⟨its,r,pl,hz⟩:=I.tuple hq
    refine SeqAt.in_tupleAt (eqU x) pl (fun w hw=>mem_eqAt rx fx r fs w (by simpa using hw)) ⟨.bl _,H,I,rfl,?_⟩
    rw [show its.toArray.any (eqU x)=its.any (eqU x) by simp,any_eqU r fs]
    exact q
theorem op_notIn_seq:OpR X (compareOp .NotIn) (rIn X.K true):=by
  intro pins s σ H x y v u Q I rx ry h
  obtain ⟨p,xs,rfl,hq,fx,fs,q⟩:=h
  cases ry
  rcases hq with hq|hq
  · obtain ⟨its,r,pl,hz⟩:=I.list hq
    refine SeqAt.notIn_listAt (eqU x) pl.isList (fun w hw=>mem_eqAt rx fx r fs w (by simpa using hw)) ⟨.bl _,H,I,rfl,?_⟩
    rw [show its.toArray.any (eqU x)=its.any (eqU x) by simp,any_eqU r fs]
    exact q
  · obtain ⟨its,r,pl,hz⟩:=I.tuple hq
    refine SeqAt.notIn_tupleAt (eqU x) pl (fun w hw=>mem_eqAt rx fx r fs w (by simpa using hw)) ⟨.bl _,H,I,rfl,?_⟩
    rw [show its.toArray.any (eqU x)=its.any (eqU x) by simp,any_eqU r fs]
    exact q
theorem call_len_seq:CallR X (.builtin "len") (fun xs H Q=>∃ p ys,xs=[.ref p]∧(SqL X.K H p ys∨SqT X.K H p ys)∧Q (.int ys.length) H):=by
  intro pins s σ H xs us Q I r h
  obtain ⟨p,ys,rfl,hq,q⟩:=h
  obtain ⟨u,rfl,rx⟩:=vals1 r
  cases rx
  have hn:=line63
  rcases hq with hq|hq
  · obtain ⟨its,r',pl,hz⟩:=I.list hq
    have hlen:=r'.length
    exact Calls.call_len_list pl.isList (by simp only [List.size_toArray] <;> omega) ⟨.int ys.length,H,I.tok _,⟨s.toks+1,by rw [List.size_toArray,hlen]⟩,q⟩
  · obtain ⟨its,r',pl,hz⟩:=I.tuple hq
    have hlen:=r'.length
    exact len_tuple pl (by simp only [List.size_toArray] <;> omega) ⟨.int ys.length,H,I.tok _,⟨s.toks+1,by rw [List.size_toArray,hlen]⟩,q⟩
theorem call_len_str:CallR X (.builtin "len") (fun xs H Q=>∃ z,xs=[.str z]∧z.length≤sizeLine∧Q (.int z.length) H):=by
  intro pins s σ H xs us Q I r h
  obtain ⟨z,rfl,hz,q⟩:=h
  obtain ⟨u,rfl,t,rfl⟩:=vals1 r
  have hn:=line63
  exact len_str (by omega) ⟨.int z.length,H,I.tok _,⟨_,rfl⟩,q⟩
theorem call_list_of:CallR X (.type "list") (fun xs H Q=>∃ p ys,xs=[.ref p]∧(SqL X.K H p ys∨SqT X.K H p ys)∧∀ l,H l=none→Q (.ref l) (upd H l (.lst ys))):=by
  intro pins s σ H xs us Q I r h
  obtain ⟨p,ys,rfl,hq,q⟩:=h
  obtain ⟨u,rfl,rx⟩:=vals1 r
  cases rx
  have fin:∀ (its:List Value),Vals ys its→ys.length≤sizeLine→∀ (h':Heap) (c':Nat),(∀ b o',s.heap.get? b=some o'→h'.get? b=some o')→
      h'.get? s.heap.objs.size=some { cls:=.type "list",dict:=none,data:=.seq its.toArray c',slots:=#[] }→EP X pins σ Q (.ref s.heap.objs.size) { s with heap:=h' }:=fun its r' hz h' c' kp e=>
    ⟨.ref s.heap.objs.size,_,I.laid (t':=s.toks) kp (Nat.le_refl _) (show ObjOk X.prog X.w _ h' _ (.lst ys) from ⟨hz,its,c',r',e⟩),rfl,q _ (I.hok.fresh (Nat.le_refl _))⟩
  rcases hq with hq|hq
  · obtain ⟨its,r',pl,hz⟩:=I.list hq
    have hlen:=r'.length
    obtain ⟨o,ho,hc,n,hd⟩:=pl.isList
    exact call_list_seq p (.inl rfl) ho hc hd (fun h' c' kp e=>fin its r' hz h' c' kp e) (by simp only [List.size_toArray] <;> omega)
  · obtain ⟨its,r',pl,hz⟩:=I.tuple hq
    have hlen:=r'.length
    obtain ⟨o,ho,hc,n,hd⟩:=pl
    exact call_list_seq p (.inr rfl) ho hc hd (fun h' c' kp e=>fin its r' hz h' c' kp e) (by simp only [List.size_toArray] <;> omega)
theorem call_tuple_of:CallR X (.type "tuple") (fun xs H Q=>∃ p ys,xs=[.ref p]∧((SqL X.K H p ys∧∀ l,H l=none→Q (.ref l) (upd H l (.tup ys)))∨(SqT X.K H p ys∧Q (.ref p) H))):=by
  intro pins s σ H xs us Q I r h
  obtain ⟨p,ys,rfl,h⟩:=h
  obtain ⟨u,rfl,rx⟩:=vals1 r
  cases rx
  rcases h with ⟨hq,q⟩|⟨hq,q⟩
  · obtain ⟨its,r',pl,hz⟩:=I.list hq
    have hlen:=r'.length
    refine call_tuple_list pl.isList (fun h' kp=>?_) (by simp only [List.size_toArray] <;> omega)
    have I1:Inv X pins σ H { s with heap:=h' }:=I.kept (t':=s.toks) kp
    have I2:Inv X pins σ (upd H h'.objs.size (.tup ys)) { s with heap:=h'.push { cls:=.type "tuple",data:=.seq its.toArray } }:=
      I1.laid (t':=s.toks) (fun b o e=>Heap.get?_push_of_some _ e) (Nat.le_refl _) (show ObjOk X.prog X.w _ _ _ (.tup ys) from ⟨hz,its,r',IsTup.new _ _⟩)
    exact ⟨.ref h'.objs.size,_,I2,rfl,q _ (I1.hok.fresh (Nat.le_refl _))⟩
  · obtain ⟨its,r',pl,hz⟩:=I.tuple hq
    exact call_tuple_same pl ⟨.ref p,H,I,rfl,q⟩
def tyV (K:PySem.W.Frag) (T:String) (x:V) (H:Hp):Prop:=match x with
  |.str _=>T = "str"
  |.int _=>T = "int"
  |.ref p=>(T = "list"∧∃ xs,SqL K H p xs)∨(T = "tuple"∧∃ o,K.lookup p=some o∧o.cls=.type "tuple"∧o.dict=none)∨
      (T = "dict"∧((∃ kvs,H p=some (.dK kvs))∨∃ kvs,H p=some (.dT kvs)))∨(T = "set"∧∃ S n,H p=some (.set S n))
  |_=>False
theorem tyV_is {pins:List (Addr×Obj)} {σ:St} {H:Hp} {s:Shared} {T:String} {x:V} {v:Value} (I:Inv X pins σ H s) (r:RelV x v) (ty:tyV X.K T x H) :
    s.TypeIs v T∧∀ a,v=.ref a→∃ ob,s.heap.get? a=some ob∧ob.dict=none:=by
  cases x with
  | str z=>
    obtain ⟨t,rfl⟩:=r
    cases (show T = "str" from ty)
    exact ⟨typeIs_str s z t,fun _ e=>nomatch e⟩
  | int i=>
    obtain ⟨t,rfl⟩:=r
    cases (show T = "int" from ty)
    exact ⟨typeIs_int s i t,fun _ e=>nomatch e⟩
  | ref p=>
    cases r
    rcases ty with ⟨rfl,xs,hq⟩|⟨rfl,o,hk,hc,hd⟩|⟨rfl,hk⟩|⟨rfl,S,n,hk⟩
    · obtain ⟨its,_,pl,_⟩:=I.list hq
      refine ⟨pl.isList.typeIs,fun a e=>?_⟩
      cases e
      obtain ⟨o,n,e,c,hd,_⟩:=pl
      exact ⟨o,e,hd⟩
    · refine ⟨⟨o,I.kIn p o hk,hc⟩,fun a e=>?_⟩
      cases e
      exact ⟨o,I.kIn _ o hk,hd⟩
    · have z:∃ o,s.heap.get? p=some o∧o.ExactDict:=by
        rcases hk with ⟨kvs,hk⟩|⟨kvs,hk⟩
        · obtain ⟨_,_,_,_,o,_,_,e,ex,_⟩:=I.hok p _ hk
          exact ⟨o,e,ex⟩
        · obtain ⟨_,_,_,_,o,_,_,e,ex,_⟩:=I.hok p _ hk
          exact ⟨o,e,ex⟩
      obtain ⟨o,e,ex⟩:=z
      refine ⟨⟨o,e,ex.1⟩,fun a e2=>?_⟩
      cases e2
      exact ⟨o,e,ex.2.1⟩
    · obtain ⟨o,_,_,_,e,ex,_⟩:=I.hok p _ hk
      refine ⟨⟨o,e,ex.1⟩,fun a e2=>?_⟩
      cases e2
      exact ⟨o,e,ex.2.1⟩
  |_=>exact False.elim ty
def tBM0 (K:PySem.W.Frag) (T:String) (r:V→List V→Hp→VK→Prop) (to:TE):TE:=fun σ H Q=>to σ H fun x H1=>tyV K T x H1∧r x [] H1 Q
def tBM (K:PySem.W.Frag) (T:String) (r:V→List V→Hp→VK→Prop) (to:TE) (t:TA):TE:=fun σ H Q=>to σ H fun x H1=>tyV K T x H1∧t σ H1 fun xs H2=>r x xs H2 Q
variable {o e:Expr} {es:List Expr} {to:TE} {t:TA} {name:Str} {apos cpos:Pos} {T id:String} {r:V→List V→Hp→VK→Prop}
theorem pe_bm0 (pa:PlainAttrs T) (slot:Slot T name id) (hty:typeOf (.builtin id)=pure (.type "method_descriptor")) (hm:MtR X id r) (ho:PE X o to)
    (hbase:attributeBase o name X.env (eval o X.env)=eval o X.env:=by rfl) (hline:(apos.endLine == cpos.line)=true:=by rfl):PE X (.Call (.Attribute o name apos) [] [] cpos) (tBM0 X.K T r to):=by
  intro pins s σ H Q I h
  refine wpAny_Call_method0_late hbase hline (thn (ho pins s σ H _ I h) fun v s1 ⟨x,H1,I1,r1,ty,q1⟩=>?_)
  obtain ⟨h1,h2⟩:=tyV_is I1 r1 ty
  exact ⟨T,id,pa,slot,hty,h1,h2,Calls.callWith_builtin rfl (PySem.evalArgs_none (hm pins s1 σ H1 x [] v [] Q I1 r1 .nil q1))⟩
theorem pe_bm (pa:PlainAttrs T) (slot:Slot T name id) (hty:typeOf (.builtin id)=pure (.type "method_descriptor")) (hm:MtR X id r) (ho:PE X o to) (ha:PA X (e::es) t)
    (hbase:attributeBase o name X.env (eval o X.env)=eval o X.env:=by rfl)
    (hfew:((backTo cpos (starEach (e::es) X.env)).all (fun x=>!x.1) && (backToKw cpos (keywordEach [] X.env)).all (fun x=>x.1.isSome)
      && decide ((e::es).length+([]:List Keyword).length+(if ([]:List Keyword).isEmpty then 0 else 1)<30))=true:=by rfl)
    (hline:(apos.endLine == cpos.line)=true:=by rfl) (hs:starEach (e::es) X.env=(false,eval e X.env)::starEach es X.env:=by rfl) (hplain:(backTo cpos (starEach es X.env)).any (·.1)=false:=by rfl) :
    PE X (.Call (.Attribute o name apos) (e::es) [] cpos) (tBM X.K T r to t):=by
  intro pins s σ H Q I h
  refine wpAny_Call_method_late hbase hfew hline rfl (thn (ho pins s σ H _ I h) fun v s1 ⟨x,H1,I1,r1,ty,q1⟩=>?_)
  obtain ⟨h1,h2⟩:=tyV_is I1 r1 ty
  refine ⟨T,id,pa,slot,hty,h1,h2,?_⟩
  have hA:=ha cpos pins s1 σ H1 _ I1 q1
  rw [hs] at hA ⊢
  refine Calls.callWith_builtin (by show (false || (backTo cpos (starEach es X.env)).any (·.1))=false;rw [hplain] <;> rfl) (Calls.evalArgs_plain ?_)
  exact thn hA fun us s2 ⟨vs,H2,I2,r2,q2⟩=>hm pins s2 σ H2 x vs v us Q I2 r1 r2 q2
end
end L2
namespace L2
open PySem PySem.Spec PyProof.Rows
def MtM (X:Cx) (id:String) (r:V→List V→Hp→VK→Prop):Prop:=
  ∀ (pins:List (Addr×Obj)) (s:Shared) (σ:St) (H:Hp) (x:V) (xs:List V) (v:Value) (us:List Value) (Q:VK),Inv X pins σ H s→RelV x v→Vals xs us→r x xs H Q→
    wpAny (model X.prog X.w) X.A (call (.builtin id) (v::us)) (EP X pins σ Q) X.xe s
theorem Vals.one:∀ {x:V} {us:List Value},Vals [x] us→∃ u,us=[u]∧RelV x u
  |_,_,.cons r .nil=>⟨_,rfl,r⟩
theorem Vals.zero:∀ {us:List Value},Vals [] us→us=[]
  |_,.nil=>rfl
theorem Vals.dropLast {xs:List V} {us:List Value} (h:Vals xs us):Vals xs.dropLast us.dropLast:=by
  induction h with
  |nil=>exact .nil
  | cons r t ih=>
    cases t with
    |nil=>exact .nil
    |cons q t'=>exact .cons r ih
theorem erase_last {α:Type} (l:List α):l.eraseIdx (l.length-1)=l.dropLast:=by
  induction l with
  |nil=>rfl
  | cons a r ih=>
    cases r with
    |nil=>rfl
    | cons b r=>
      have e:(a::b::r).length-1=((b::r).length-1)+1:=by
        have h1:(a::b::r).length=r.length+2:=rfl
        have h2:(b::r).length=r.length+1:=rfl
        omega
      rw [e,List.eraseIdx_cons_succ,ih]
      all_goals rfl
section
variable {X:Cx} {pins:List (Addr×Obj)} {σ:St} {H:Hp} {s:Shared} {l b:Addr} {xs ys zs:List V}
theorem Inv.lset {its its':List Value} {n:Nat} {f:Array Value→Array Value} {t':Nat} (I:Inv X pins σ H s) (hH:H l=some (.lst xs))
    (e:s.heap.get? l=some { cls:=.type "list",data:=.seq its.toArray n }) (hf:f its.toArray=its'.toArray) (hv:Vals ys its') (hz:ys.length≤sizeLine) :
    Inv X pins σ (upd H l (.lst ys)) { s with heap:=s.heap.update l (Obj.mapSeq f),toks:=t' }:=by
  have q:=PySem.IsL.update e f
  rw [hf] at q
  refine I.write (x:=l) (e:=l) (by rw [hH];exact trivial) (.inl rfl) (fun b' u hb hu=>(Heap.get?_update_other s.heap (Obj.mapSeq f) (Ne.symm hb)).trans hu) ⟨_,q⟩ ?_
  exact ⟨hz,its',_,hv,q⟩
theorem Inv.lnew {its:List Value} {t':Nat} (I:Inv X pins σ H s) (hv:Vals ys its) (hz:ys.length≤sizeLine) :
    Inv X pins σ (upd H s.heap.objs.size (.lst ys)) { s with heap:=s.heap.push { cls:=.type "list",data:=.seq its.toArray },toks:=t' }:=
  I.laid (fun _ _ q=>Heap.get?_push_of_some _ q) (Nat.le_refl _) ⟨hz,its,0,hv,Heap.get?_push_size _ rfl⟩
theorem Inv.fresh (I:Inv X pins σ H s):H s.heap.objs.size=none:=I.hok.fresh (Nat.le_refl _)
theorem Inv.lstM (I:Inv X pins σ H s) (hH:H l=some (.lst xs)):xs.length≤sizeLine∧∃ (its:List Value) (n:Nat),Vals xs its∧xs.length=its.length∧s.heap.get? l=some { cls:=.type "list",data:=.seq its.toArray n }:=by
  obtain ⟨z,its,n,r,e⟩:=I.hok l _ hH
  exact ⟨z,its,n,r,r.length,e⟩
theorem notLongL {n:Nat} (h:n≤sizeLine):Builtin.List.listTooLong n=false:=by
  unfold Builtin.List.listTooLong
  exact decide_eq_false (by omega)
end
section
variable {X:Cx}
def rAppend:V→List V→Hp→VK→Prop:=fun x vs H Q=>∃ l xs y,x=.ref l∧vs=[y]∧H l=some (.lst xs)∧xs.length<sizeLine∧Q .non (upd H l (.lst (xs++[y])))
theorem mt_append:MtM X "list.append" rAppend:=by
  intro pins s σ H x vs v us Q I rx rv h
  obtain ⟨l,xs,y,rfl,rfl,hH,hz,q⟩:=h
  cases rx
  obtain ⟨u,rfl,ru⟩:=rv.one
  obtain ⟨z,its,n,r,hl,e⟩:=I.lstM hH
  refine call_meets F.slot_list_append ⟨_,e,rfl⟩ F.entry_list_append (F.args_list_append_2 _ _) (PySem.list_append l its.toArray n u (by rw [List.size_toArray];omega)) ⟨e,?_⟩
  refine ⟨.non,_,I.lset (its':=its++[u]) hH e (by simp) (r.append (.cons ru .nil)) ?_,rfl,q⟩
  rw [List.length_append,List.length_singleton]
  omega
def rExtend:V→List V→Hp→VK→Prop:=fun x vs H Q=>∃ l b xs zs,x=.ref l∧vs=[.ref b]∧H l=some (.lst xs)∧H b=some (.lst zs)∧xs.length+zs.length≤sizeLine∧Q .non (upd H l (.lst (xs++zs)))
theorem mt_extend:MtM X "list.extend" rExtend:=by
  intro pins s σ H x vs v us Q I rx rv h
  obtain ⟨l,b,xs,zs,rfl,rfl,hH,hB,hz,q⟩:=h
  cases rx
  obtain ⟨u,rfl,ru⟩:=rv.one
  cases ru
  obtain ⟨z,its,n,r,hl,e⟩:=I.lstM hH
  obtain ⟨z2,its2,n2,r2,hl2,e2⟩:=I.lstM hB
  have hsz:its.toArray.size+its2.toArray.size≤sizeLine:=by rw [List.size_toArray,List.size_toArray];omega
  have hlong:¬ (!its.toArray.isEmpty && Builtin.List.listTooLong (its.toArray.size+its2.toArray.size))=true:=by
    rw [notLongL hsz,Bool.and_false]
    exact Bool.false_ne_true
  refine call_meets F.slot_list_extend ⟨_,e,rfl⟩ F.entry_list_extend (F.args_list_extend_2 _ _)
    (AutoSeq1.list_extend_list_list_0 l its.toArray n b its2.toArray n2 hlong (by rw [List.size_toArray];omega) (by omega)) ⟨e,e2,?_⟩
  refine ⟨.non,_,I.lset (its':=its++its2) hH e (by simp) (r.append r2) ?_,rfl,q⟩
  rw [List.length_append]
  omega
def rPop:V→List V→Hp→VK→Prop:=fun x vs H Q=>∃ l xs y,x=.ref l∧vs=[]∧H l=some (.lst xs)∧xs[xs.length-1]?=some y∧Q y (upd H l (.lst xs.dropLast))
theorem mt_pop:MtM X "list.pop" rPop:=by
  intro pins s σ H x vs v us Q I rx rv h
  obtain ⟨l,xs,y,rfl,rfl,hH,hy,q⟩:=h
  cases rx
  have hus:=rv.zero
  subst hus
  obtain ⟨z,its,n,r,hl,e⟩:=I.lstM hH
  obtain ⟨u,hu,ru⟩:=r.get hy
  have hy':its.toArray[its.toArray.size-1]?=some u:=by
    show its.toArray[its.length-1]?=some u
    rw [← Array.getElem?_toList,← hl]
    exact hu
  refine call_meets F.slot_list_pop ⟨_,e,rfl⟩ F.entry_list_pop (F.args_list_pop_1 _) (MeetsSeq.list_pop_last l its.toArray n u hy' (by rw [List.size_toArray];omega)) ⟨e,?_⟩
  refine ⟨y,_,I.lset (its':=its.dropLast) hH e ?_ r.dropLast ?_,ru,q⟩
  · show its.toArray.eraseIdxIfInBounds (its.toArray.size-1)=its.dropLast.toArray
    rw [List.size_toArray,List.eraseIdxIfInBounds_toArray,erase_last]
  · rw [List.length_dropLast]
    omega
def rClear:V→List V→Hp→VK→Prop:=fun x vs H Q=>∃ l xs,x=.ref l∧vs=[]∧H l=some (.lst xs)∧Q .non (upd H l (.lst []))
theorem mt_clear:MtM X "list.clear" rClear:=by
  intro pins s σ H x vs v us Q I rx rv h
  obtain ⟨l,xs,rfl,rfl,hH,q⟩:=h
  cases rx
  have hus:=rv.zero
  subst hus
  obtain ⟨z,its,n,r,hl,e⟩:=I.lstM hH
  refine call_meets F.slot_list_clear ⟨_,e,rfl⟩ F.entry_list_clear (F.args_list_clear_1 _) (AutoSeq1.list_clear_list_0 l its.toArray n (by rw [List.size_toArray];omega)) ⟨e,?_⟩
  exact ⟨.non,_,I.lset (its':=[]) (ys:=[]) hH e rfl .nil (Nat.zero_le _),rfl,q⟩
def rCat:R2:=fun x y H Q=>∃ l b xs zs,x=.ref l∧y=.ref b∧H l=some (.lst xs)∧H b=some (.lst zs)∧xs.length+zs.length≤sizeLine∧∀ p,H p=none→Q (.ref p) (upd H p (.lst (xs++zs)))
theorem op_cat:OpR X (binaryOp .Add) rCat:=by
  intro pins s σ H x y v u Q I rx ry h
  obtain ⟨l,b,xs,zs,rfl,rfl,hH,hB,hz,q⟩:=h
  cases rx
  cases ry
  obtain ⟨z,its,n,r,hl,e⟩:=I.lstM hH
  obtain ⟨z2,its2,n2,r2,hl2,e2⟩:=I.lstM hB
  refine PySem.P.add_list e e2 ?_ (by rw [List.size_toArray,List.size_toArray];omega)
  have ea:its.toArray++its2.toArray=(its++its2).toArray:=by simp
  rw [ea]
  exact ⟨.ref _,_,I.lnew (t':=s.toks) (r.append r2) (by rw [List.length_append];omega),rfl,q _ I.fresh⟩
end
section
variable {prog:Program} {w:World} {A:Around} {E:Value→Shared→Prop} {s:Shared}
end
section
variable {X:Cx}
end
end L2
namespace L2
open PySem PySem.Spec PyProof.Rows
section
variable {κ:Type} [DecidableEq κ]
def valV (kvs:List (κ×V)) (k:κ):Option V:=(kvs.find? fun kv=>decide (kv.1=k)).map (·.2)
def putK (kvs:List (κ×V)) (k:κ) (v:V):List (κ×V):=
  if (kvs.any fun kv=>decide (kv.1=k))=true then kvs.map (fun kv=>if kv.1=k then (kv.1,v) else kv) else kvs++[(k,v)]
theorem valV_pos {p:κ×V} {r:List (κ×V)} {k:κ} (e:p.1=k):valV (p::r) k=some p.2:=by simp [valV,List.find?_cons,e]
theorem valV_neg {p:κ×V} {r:List (κ×V)} {k:κ} (e:¬ p.1=k):valV (p::r) k=valV r k:=by simp [valV,List.find?_cons,e]
theorem valV_any (k:κ):∀ kvs:List (κ×V),(kvs.any fun kv=>decide (kv.1=k))=(valV kvs k).isSome
  |[]=>rfl
  | p::r=>by
    rw [List.any_cons]
    by_cases e:p.1=k
    · simp only [valV_pos e,decide_eq_true e,Bool.true_or,Option.isSome_some]
    · rw [valV_neg e,decide_eq_false e,Bool.false_or];exact valV_any k r
theorem length_putK (kvs:List (κ×V)) (k:κ) (v:V):(putK kvs k v).length≤kvs.length+1:=by
  unfold putK
  split
  · rw [List.length_map];omega
  · rw [List.length_append,List.length_cons,List.length_nil];omega
theorem putK_new {kvs:List (κ×V)} {k:κ} (v:V) (h:valV kvs k=none):putK kvs k v=kvs++[(k,v)]:=by
  unfold putK
  rw [valV_any,h]
  exact if_neg (by decide)
theorem RelO.isSome_eq {o:Option V} {u:Option Value} (r:RelO o u):o.isSome=u.isSome:=by
  cases o with
  | none=>cases u with
    |none=>rfl
    |some _=>exact (show False from r).elim
  | some _=>cases u with
    |none=>exact (show False from r).elim
    |some _=>rfl
theorem KV.val {kvs:List (κ×V)} {vs:List (κ×Value)} (r:KV kvs vs) (k:κ):RelO (valV kvs k) (valueAt vs k):=by
  unfold KV at r
  induction r with
  |nil=>exact True.intro
  | @cons p q ps qs h t ih=>
    obtain ⟨h1,h2⟩:=h
    by_cases e:p.1=k
    · have e':q.1=k:=h1.symm.trans e
      have b:valueAt (q::qs) k=some q.2:=by simp [valueAt,List.find?_cons,e']
      rw [valV_pos e,b];exact h2
    · have e':¬ q.1=k:=fun z=>e (h1.trans z)
      have b:valueAt (q::qs) k=valueAt qs k:=by simp [valueAt,List.find?_cons,e']
      rw [valV_neg e,b];exact ih
theorem KV.any {kvs:List (κ×V)} {vs:List (κ×Value)} (r:KV kvs vs) (k:κ):(kvs.any fun kv=>decide (kv.1=k))=vs.any fun kv=>decide (kv.1=k):=by
  unfold KV at r
  induction r with
  |nil=>rfl
  |cons h t ih=>rw [List.any_cons,List.any_cons,ih,h.1]
theorem KV.repl {kvs:List (κ×V)} {vs:List (κ×Value)} (r:KV kvs vs) (k:κ) {y:V} {u:Value} (ry:RelV y u) :
    KV (kvs.map fun kv=>if kv.1=k then (kv.1,y) else kv) (vs.map fun kv=>if kv.1=k then (kv.1,u) else kv):=by
  unfold KV at r ⊢
  induction r with
  |nil=>exact .nil
  | @cons p q ps qs h t ih=>
    rw [List.map_cons,List.map_cons]
    refine .cons ?_ ih
    obtain ⟨h1,h2⟩:=h
    by_cases e:p.1=k
    · rw [if_pos e,if_pos (h1.symm.trans e)];exact ⟨h1,ry⟩
    · rw [if_neg e,if_neg (fun z=>e (h1.trans z))];exact ⟨h1,h2⟩
theorem KV.put {kvs:List (κ×V)} {vs:List (κ×Value)} (r:KV kvs vs) (k:κ) {y:V} {u:Value} (ry:RelV y u):KV (putK kvs k y) (stored vs k u):=by
  unfold putK stored
  rw [r.any k]
  by_cases e:(vs.any fun kv=>decide (kv.1=k))=true
  · rw [if_pos e,if_pos e];exact r.repl k ry
  · rw [if_neg e,if_neg e];exact Paired.snoc r ⟨rfl,ry⟩
theorem KV.length {kvs:List (κ×V)} {vs:List (κ×Value)} (r:KV kvs vs):kvs.length=vs.length:=Paired.length r
end
theorem kV_is {P:Program} {w:World} {k:Key} {u:Value} (r:RelV (kV k) u):(mixKind P w).is k u=true:=by
  cases k with
  |inl i=>obtain ⟨t,e⟩:=(show ∃ t,u=Value.int i t from r);subst e;exact mixKind_int P w i t
  |inr x=>obtain ⟨t,e⟩:=(show ∃ t,u=Value.str x t from r);subst e;exact mixKind_str P w x t
theorem items_are {P:Program} {w:World}:∀ {ks:List Key} {us:List Value},Vals (ks.map kV) us→ItemsAre (mixKind P w) ks us
  |[],_,r=>by rw [List.map_nil] at r;cases r;exact .nil
  | k::ks,_,r=>by
    rw [List.map_cons] at r
    cases r with
    |cons h t=>exact .cons (kV_is h) (items_are t)
abbrev KT (H:Hp):List (List Key×V)→List (List Key×Addr×Value)→Prop:=Paired fun p q=>p.1=q.1∧H q.2.1=some (.tup (p.1.map kV))∧RelV p.2 q.2.2
theorem KT.val {H:Hp} {kvs:List (List Key×V)} {xs:List (List Key×Addr×Value)} (r:KT H kvs xs) (k:List Key):RelO (valV kvs k) ((atKey xs k).map (·.2)):=by
  induction r with
  |nil=>exact True.intro
  | @cons p q ps qs h t ih=>
    obtain ⟨h1,_,h2⟩:=h
    by_cases e:p.1=k
    · have e':q.1=k:=h1.symm.trans e
      have b:atKey (q::qs) k=some q.2:=by simp [atKey,List.find?_cons,e']
      rw [valV_pos e,b];exact h2
    · have e':¬ q.1=k:=fun z=>e (h1.trans z)
      have b:atKey (q::qs) k=atKey qs k:=by simp [atKey,List.find?_cons,e']
      rw [valV_neg e,b];exact ih
theorem KT.repl {H:Hp} {kvs:List (List Key×V)} {xs:List (List Key×Addr×Value)} (r:KT H kvs xs) (k:List Key) {y:V} {u:Value} (ry:RelV y u) :
    KT H (kvs.map fun kv=>if kv.1=k then (kv.1,y) else kv) (xs.map (putAt k u)):=by
  induction r with
  |nil=>exact .nil
  | @cons p q ps qs h t ih=>
    rw [List.map_cons,List.map_cons]
    refine .cons ?_ ih
    obtain ⟨h1,h2,h3⟩:=h
    unfold putAt
    by_cases e:p.1=k
    · rw [if_pos e,if_pos (h1.symm.trans e)];exact ⟨h1,h2,ry⟩
    · rw [if_neg e,if_neg (fun z=>e (h1.trans z))];exact ⟨h1,h2,h3⟩
theorem KT.put {H:Hp} {kvs:List (List Key×V)} {xs:List (List Key×Addr×Value)} (r:KT H kvs xs) (k:List Key) {b:Addr} {y:V} {u:Value} (hb:H b=some (.tup (k.map kV))) (ry:RelV y u) :
    KT H (putK kvs k y) (storedH xs k b u):=by
  have e:(kvs.any fun kv=>decide (kv.1=k))=(atKey xs k).isSome:=by
    rw [valV_any,(r.val k).isSome_eq,Option.isSome_map]
  unfold putK storedH
  rw [e]
  by_cases q:(atKey xs k).isSome=true
  · rw [if_pos q,if_pos q];exact r.repl k ry
  · rw [if_neg q,if_neg q];exact Paired.snoc r ⟨rfl,hb,ry⟩
theorem KT.keeps {H H':Hp} {kvs:List (List Key×V)} {xs:List (List Key×Addr×Value)} (r:KT H kvs xs) (ht:∀ b ys,H b=some (.tup ys)→H' b=some (.tup ys)):KT H' kvs xs:=
  Paired.mapP r fun _ _ z=>⟨z.1,ht _ _ z.2.1,z.2.2⟩
section
variable {P:Program} {w:World} {H:Hp} {h:Heap} {a:Addr}
theorem rd_of {u:HO} (ok:HOk P w H h) (e:Rd H a u):ObjOk P w H h a u:=e.ok ok
theorem dk_rd {kvs:List (Key×V)} (ok:HOk P w H h) (e:Rd H a (.dK kvs)):kvs.length≤sizeLine∧(a == sysModules)=false∧∃ vs,KV kvs vs∧h.DictOf (mixKind P w) a vs:=
  show ObjOk P w H h a (.dK kvs) from rd_of ok e
theorem dk_of {kvs:List (Key×V)} (ok:HOk P w H h) (e:H a=some (.dK kvs)):kvs.length≤sizeLine∧(a == sysModules)=false∧∃ vs,KV kvs vs∧h.DictOf (mixKind P w) a vs:=dk_rd ok (.inl e)
theorem key_of {ks:List Key} (ok:HOk P w H h) (e:H a=some (.tup (ks.map kV))):(tupleKind (mixKind P w)).is h ks a:=by
  obtain ⟨_,its,r,o,h1,h2,n,h3⟩:=(show ObjOk P w H h a (.tup (ks.map kV)) from ok a _ e)
  exact ⟨o,its.toArray,n,h1,h2,h3,by simpa using items_are r⟩
theorem dt_rd {kvs:List (List Key×V)} (ok:HOk P w H h) (e:Rd H a (.dT kvs)):kvs.length≤sizeLine∧(a == sysModules)=false∧
    ∃ xs,KT H kvs xs∧h.DictOfH (tupleKind (mixKind P w)) a xs:=by
  obtain ⟨z,y,xs,r,o,es,ep,h1,h2,h3,h4,h5⟩:=(show ObjOk P w H h a (.dT kvs) from rd_of ok e)
  refine ⟨z,y,xs,r,o,es,ep,h1,h2,h3,h4,fun x hx=>?_,h5⟩
  have all:∀ {l:List (List Key×V)} {m:List (List Key×Addr×Value)},KT H l m→∀ x∈m,(tupleKind (mixKind P w)).is h x.1 x.2.1:=by
    intro l m q
    induction q with
    |nil=>intro x hx;exact nomatch hx
    | @cons p q ps qs hq t ih=>
      intro x hx
      rcases List.mem_cons.mp hx with e|hx
      · subst e
        exact key_of ok (by rw [← hq.1];exact hq.2.1)
      · exact ih x hx
  exact all r x hx
theorem dt_of {kvs:List (List Key×V)} (ok:HOk P w H h) (e:H a=some (.dT kvs)):kvs.length≤sizeLine∧(a == sysModules)=false∧
    ∃ xs,KT H kvs xs∧h.DictOfH (tupleKind (mixKind P w)) a xs:=dt_rd ok (.inl e)
end
def DGet (H:Hp) (a:Addr) (y:V) (r:Option V):Prop:=
  (∃ kvs k,Rd H a (.dK kvs)∧y=kV k∧r=valV kvs k)∨∃ kvs k b,Rd H a (.dT kvs)∧y=.ref b∧H b=some (.tup (k.map kV))∧r=valV kvs k
def DPut (H:Hp) (a:Addr) (y v:V) (H':Hp):Prop:=
  (∃ kvs k,H a=some (.dK kvs)∧y=kV k∧kvs.length<sizeLine∧H'=upd H a (.dK (putK kvs k v)))∨
  ∃ kvs k b,H a=some (.dT kvs)∧y=.ref b∧H b=some (.tup (k.map kV))∧kvs.length<sizeLine∧H'=upd H a (.dT (putK kvs k v))
theorem DGet.k {H:Hp} {a:Addr} {kvs:List (Key×V)} {k:Key} (e:H a=some (.dK kvs)):DGet H a (kV k) (valV kvs k):=.inl ⟨kvs,k,.inl e,rfl,rfl⟩
theorem DPut.k {H:Hp} {a:Addr} {kvs:List (Key×V)} {k:Key} {v:V} (e:H a=some (.dK kvs)) (hl:kvs.length<sizeLine):DPut H a (kV k) v (upd H a (.dK (putK kvs k v))):=.inl ⟨kvs,k,e,rfl,hl,rfl⟩
section
variable {X:Cx} {pins:List (Addr×Obj)} {σ:St} {H:Hp} {s:Shared} {a:Addr} {y v:V} {u r:Value} {o:Option V} {A:Around} {E:Value→Shared→Prop}
theorem Inv.big (I:Inv X pins σ H s):sysModules<s.heap.objs.size:=by
  have h:mainGlobals<s.heap.objs.size:=(I.mod.glob.keeps I.bk).lt
  exact Nat.lt_trans (by decide) h
theorem d_getItem {Q:Value→Shared→Prop} (hu:A.units+1<cLine) (I:Inv X pins σ H s) (g:DGet H a y (some v)) (ry:RelV y u) (h:∀ w' s',Inv X pins σ H s'→RelV v w'→Q w' s') :
    wpAny (model X.prog X.w) A (getItem (.ref a) u) Q E s:=by
  rcases g with ⟨kvs,k,e,ey,l⟩|⟨kvs,k,b,e,ey,eb,l⟩
  · subst ey
    obtain ⟨z,hd,vs,rel,dd⟩:=dk_rd I.hok e
    obtain ⟨w',hw,rw'⟩:=RelO.some_of (v:=v) (o:=valueAt vs k) (by rw [l];exact rel.val k)
    exact wpAny_getItem_of (kV_is ry) dd.mapOf hw (h w' _ (I.tok _) rw')
  · subst ey
    cases (show u=Value.ref b from ry)
    obtain ⟨z,hd,xs,rel,dd⟩:=dt_rd I.hok e
    obtain ⟨w',hw,rw'⟩:=RelO.some_of (v:=v) (o:=(atKey xs k).map (·.2)) (by rw [l];exact rel.val k)
    obtain ⟨p,hp,hp2⟩:=Option.map_eq_some_iff.mp hw
    refine wpAny_getItem_heap (tupleKind_room_in1 hu) (key_of I.hok eb) dd hp ?_
    rw [hp2]
    exact h w' _ (I.tok _) rw'
theorem d_in {Q:Value→Shared→Prop} (hu:A.units+1<cLine) (I:Inv X pins σ H s) (g:DGet H a y o) (ry:RelV y u) (h:∀ s',Inv X pins σ H s'→Q (.bool o.isSome) s') :
    wpAny (model X.prog X.w) A (compareOp .In u (.ref a)) Q E s:=by
  rcases g with ⟨kvs,k,e,ey,l⟩|⟨kvs,k,b,e,ey,eb,l⟩
  · subst ey
    obtain ⟨z,hd,vs,rel,dd⟩:=dk_rd I.hok e
    refine wpAny_in_of (kV_is ry) hd dd.mapOf ?_
    rw [← (rel.val k).isSome_eq,← l]
    exact h _ (I.tok _)
  · subst ey
    cases (show u=Value.ref b from ry)
    obtain ⟨z,hd,xs,rel,dd⟩:=dt_rd I.hok e
    refine wpAny_in_heap (tupleKind_room_in1 hu) (key_of I.hok eb) hd dd ?_
    have q:=(rel.val k).isSome_eq
    rw [Option.isSome_map] at q
    rw [← q,← l]
    exact h _ (I.tok _)
theorem d_write {h':Heap} {t':Nat} {ob:HO} (I:Inv X pins σ H s) (mu:Mut (H a)) (hs:Heap.SameBut a s.heap h') (he:∃ q,h'.get? a=some q) (new:ObjOk X.prog X.w (upd H a ob) h' a ob) :
    Inv X pins σ (upd H a ob) { s with heap:=h',toks:=t' }:=
  I.write (x:=a) (e:=a) mu (.inl rfl) (fun b q hb z=>(hs.2 b hb).trans z) he new
theorem dk_new {P:Program} {w:World} {H':Hp} {h':Heap} {kvs:List (Key×V)} {vs:List (Key×Value)} (z:kvs.length≤sizeLine) (hd:(a == sysModules)=false) (rel:KV kvs vs) (dd:h'.DictOf (mixKind P w) a vs) :
    ObjOk P w H' h' a (.dK kvs):=⟨z,hd,vs,rel,dd⟩
theorem d_setItem {H':Hp} {Q:Unit→Shared→Prop} (hu:A.units+1<cLine) (I:Inv X pins σ H s) (g:DPut H a y v H') (ry:RelV y u) (rv:RelV v r) (h:∀ s',Inv X pins σ H' s'→Q () s') :
    wpAny (model X.prog X.w) A (setItem (.ref a) u r) Q E s:=by
  rcases g with ⟨kvs,k,e,ey,l,eH⟩|⟨kvs,k,b,e,ey,eb,l,eH⟩
  · subst ey eH
    obtain ⟨z,hd,vs,rel,dd⟩:=dk_of I.hok e
    have hz:vs.length≤sizeLine:=by rw [← rel.length];exact z
    have hl:(putK kvs k v).length≤sizeLine:=by have:=length_putK kvs k v;omega
    refine wpAny_setItem_pairs (hsz:=hz) (kV_is ry) dd fun h' dd' hs=>h _ ?_
    have he:∃ q,h'.get? a=some q:=let ⟨q,_,_,hq,_⟩:=dd';⟨q,hq⟩
    exact d_write I (by rw [e];exact True.intro) hs he (dk_new hl hd (rel.put k rv) dd')
  · subst ey eH
    cases (show u=Value.ref b from ry)
    obtain ⟨z,hd,xs,rel,dd⟩:=dt_of I.hok e
    have hz:xs.length≤sizeLine:=by rw [← Paired.length rel];exact z
    have hl:(putK kvs k v).length≤sizeLine:=by have:=length_putK kvs k v;omega
    refine wpAny_setItem_heap (hsz:=hz) (tupleKind_room_in1 hu) (key_of I.hok eb) dd fun h' dd' hs=>h _ ?_
    obtain ⟨q,es,ep,hq,h2,h3,h4,_,h5⟩:=dd'
    refine d_write I (by rw [e];exact True.intro) hs ⟨q,hq⟩ ⟨hl,hd,_,(rel.put k eb rv).keeps fun c ys ec=>?_,q,es,ep,hq,h2,h3,h4,h5⟩
    rw [upd_ne (ne_of ec e (fun z=>nomatch z))]
    exact ec
end
section
variable {X:Cx} {pins:List (Addr×Obj)} {σ:St} {H:Hp} {s:Shared} {a:Addr} {kvs:List (Key×V)} {k:Key} {u:Value} {A:Around} {E:Value→Shared→Prop}
end
def NoSl (i:Expr):Prop:=∀ ov iv,subscripted i false ov iv=operate [ov,iv] (getItem ov iv)
theorem subD_of {prog:Program} {w:World} {A:Around} {E:Value→Shared→Prop} {s:Shared} {env:Env} {value slice:Expr} {pos:Pos} {T id:String} {Q:Value→Shared→Prop}
    (hl:typeLookup (.type T) "__getitem__" = pure (some (.builtin id))) (hs:NoSl slice)
    (h:wpAny (model prog w) A (eval value env) (fun o s₁=>wpAny (model prog w) A (eval slice env) (fun i s₂=>s₂.TypeIs o T∧wpAny (model prog w) A (getItem o i) Q E s₂) E s₁) E s) :
    wpAny (model prog w) A (eval (.Subscript value slice pos) env) Q E s:=by
  refine Subscript_ (wpAny_mono h (fun o s₁ h₁=>wpAny_mono h₁ (fun i s₂ h₂=>?_) fun _ _ x=>x) fun _ _ x=>x)
  obtain ⟨hT,h₂⟩:=h₂
  unfold subscriptTail
  refine wpAny_bind ?_
  rw [getitemInPython_of_ne hT.not_modules]
  refine wpAny_bind (wpAny_specialOf hT hl ?_)
  have fin:wpAny (model prog w) A (subscripted slice false o i) (fun r s₃=>wpAny (model prog w) A (letTemporaryGo value o r >>= fun _=>pure r) Q E s₃) E s₂:=by
    rw [hs o i]
    exact wpAny_operating (wpAny_mono h₂ (fun r s₃ h₃=>wpAny_bind (wpAny_letTemporaryGo (wpAny_pure h₃))) fun _ _ x=>x)
  first
    |exact wpAny_pure (wpAny_bind fin)
    |exact wpAny_bind (wpAny_pure (wpAny_bind fin))
    |exact wpAny_bind fin
theorem dict_typeIs {X:Cx} {pins:List (Addr×Obj)} {σ:St} {H:Hp} {s:Shared} {a:Addr} {y:V} {o:Option V} (I:Inv X pins σ H s) (g:DGet H a y o):s.TypeIs (.ref a) "dict":=by
  rcases g with ⟨kvs,k,e,_,_⟩|⟨kvs,k,b,e,_,_,_⟩
  · obtain ⟨_,_,vs,_,dd⟩:=dk_rd I.hok e
    exact dd.typeIs
  · obtain ⟨_,_,xs,_,dd⟩:=dt_rd I.hok e
    exact dd.typeIs
def tDGet (td ty:TE):TE:=fun σ H Q=>td σ H fun x H1=>ty σ H1 fun y H2=>∃ a v,x=.ref a∧DGet H2 a y (some v)∧Q v H2
def tDIn (ty td:TE):TE:=fun σ H Q=>ty σ H fun y H1=>td σ H1 fun x H2=>∃ a o,x=.ref a∧DGet H2 a y o∧Q (.bl o.isSome) H2
def sDPut (td ty tv:TE):TS:=fun D σ H=>tv σ H fun v H1=>td σ H1 fun x H2=>ty σ H2 fun y H3=>∃ a H4,x=.ref a∧DPut H3 a y v H4∧D.nx σ H4
section
variable {X:Cx} {o i e value:Expr} {pos pos' tpos:Pos} {td ty tv:TE}
theorem pe_dget (hu:X.A.units+1<cLine) (ho:PE X o td) (hi:PE X i ty) (hs:NoSl i):PE X (.Subscript o i pos) (tDGet td ty):=by
  intro pins s σ H Q I h
  refine subD_of PySem.F.slot_dict_getitem.lookup hs (thn (ho pins s σ H _ I h) fun u s1 ⟨x,H1,I1,rx,q1⟩=>thn (hi pins s1 σ H1 _ I1 q1) fun iv s2 ⟨y,H2,I2,ry,a,v,ex,g,q2⟩=>?_)
  subst ex
  obtain rfl:u=Value.ref a:=rx
  exact ⟨dict_typeIs I2 g,d_getItem hu I2 g ry fun w' s3 I3 rw'=>⟨v,H2,I3,rw',q2⟩⟩
theorem pc_din (hu:X.A.units+1<cLine) (hi:PE X i ty) (ho:PE X o td):PC X .In i o (tDIn ty td):=by
  intro pins s σ H Q I h
  refine thn (hi pins s σ H _ I h) fun iv s1 ⟨y,H1,I1,ry,q1⟩=>thn (ho pins s1 σ H1 _ I1 q1) fun u s2 ⟨x,H2,I2,rx,a,ov,ex,g,q2⟩=>?_
  subst ex
  obtain rfl:u=Value.ref a:=rx
  exact d_in hu I2 g ry fun s3 I3=>⟨.bl ov.isSome,H2,I3,rfl,q2⟩
theorem ps_dput (hu:X.A.units+1<cLine) (ho:PE X o td) (hi:PE X i ty) (hv:PE X value tv) (hs:swapsWith value (some (.Subscript o i pos')) pos.line X.env=pure false) :
    PS X (.Assign [.Subscript o i pos'] value pos) (sDPut td ty tv):=by
  intro pins s σ H D I h
  refine wpAny_Assign_Subscript (thn (hv pins s σ H _ I h) fun r s1 ⟨v,H1,I1,rv,q1⟩=>thn (ho pins s1 σ H1 _ I1 q1) fun u s2 ⟨x,H2,I2,rx,q2⟩=>thn (hi pins s2 σ H2 _ I2 q2) fun iv s3 ⟨y,H3,I3,ry,a,H4,ex,g,q3⟩=>?_) hs
  subst ex
  obtain rfl:u=Value.ref a:=rx
  exact d_setItem hu I3 g ry rv fun s4 I4=>⟨σ,H4,I4,q3⟩
end
theorem dk_empty {P:Program} {w:World} {H:Hp} (h:Heap) (hb:sysModules<h.objs.size):ObjOk P w H (h.push { cls:=.type "dict",data:=.dict #[] }) h.objs.size (.dK []):=
  ⟨Nat.zero_le _,beq_eq_false_iff_ne.mpr (Ne.symm (Nat.ne_of_lt hb)),[],.nil,Heap.DictOf.new h⟩
section
variable {X:Cx} {pos:Pos}
end
def tPairs:List (TE×TE)→St→Hp→(List (V×V)→Hp→Prop)→Prop
  |[],_,H,Q=>Q [] H
  |(tk,tv)::r,σ,H,Q=>tk σ H fun x H1=>tv σ H1 fun y H2=>tPairs r σ H2 fun ps H3=>Q ((x,y)::ps) H3
abbrev VV:List (V×V)→List (Value×Value)→Prop:=Paired fun p q=>RelV p.1 q.1∧RelV p.2 q.2
def PPs (X:Cx) (pos:Pos) (keys:List (Option Expr)) (values:List Expr) (trs:List (TE×TE)):Prop:=
  ∀ (pins:List (Addr×Obj)) (s:Shared) (σ:St) (H:Hp) (Q:List (V×V)→Hp→Prop),Inv X pins σ H s→tPairs trs σ H Q→
    wpAny (model X.prog X.w) X.A (evalPairs (pairTrees keys values X.env pos)) (fun vs s'=>∃ ps H',Inv X pins σ H' s'∧VV ps vs∧Q ps H') X.xe s
theorem pps_nil {X:Cx} {pos:Pos}:PPs X pos [] [] []:=fun pins s σ H Q I h=>pairTrees_nil_walk ⟨[],H,I,.nil,h⟩
theorem pps_cons {X:Cx} {pos:Pos} {k v:Expr} {ks:List (Option Expr)} {vs:List Expr} {tk tv:TE} {trs:List (TE×TE)} (hk:PE X k tk) (hv:PE X v tv) (hr:PPs X pos ks vs trs) :
    PPs X pos (some k::ks) (v::vs) ((tk,tv)::trs):=fun pins s σ H Q I h=>
  pairTrees_cons_walk (thn (hk pins s σ H _ I h) fun u s1 ⟨x,H1,I1,rx,q1⟩=>thn (hv pins s1 σ H1 _ I1 q1) fun w2 s2 ⟨y,H2,I2,ry,q2⟩=>
    thn (hr pins s2 σ H2 _ I2 q2) fun ws s3 ⟨ps,H3,I3,rel,q3⟩=>⟨(x,y)::ps,H3,I3,.cons ⟨rx,ry⟩ rel,q3⟩)
def mergeK (kvs more:List (Key×V)):List (Key×V):=more.foldl (fun acc kv=>putK acc kv.1 kv.2) kvs
theorem KV.merge:∀ {more:List (Key×V)} {rs:List (Key×Value)} {kvs:List (Key×V)} {vs:List (Key×Value)},KV more rs→KV kvs vs→KV (mergeK kvs more) (merged vs rs):=by
  intro more rs kvs vs r
  unfold KV at r
  induction r generalizing kvs vs with
  |nil=>intro q;exact q
  | @cons p q ps qs h t ih=>
    intro r0
    have e:KV (putK kvs p.1 p.2) (stored vs q.1 q.2):=by
      have:=r0.put p.1 h.2
      rw [← h.1];exact this
    exact ih e
theorem length_mergeK:∀ (more kvs:List (Key×V)),(mergeK kvs more).length≤kvs.length+more.length
  |[],kvs=>by show kvs.length≤kvs.length+0;omega
  | p::r,kvs=>by
    have h1:=length_mergeK r (putK kvs p.1 p.2)
    have h2:=length_putK kvs p.1 p.2
    show (mergeK (putK kvs p.1 p.2) r).length≤_
    rw [List.length_cons];omega
theorem carries_of {P:Program} {w:World}:∀ {kvs:List (Key×V)} {ws:List (Value×Value)},VV (kvs.map fun kv=>(kV kv.1,kv.2)) ws→∃ rs,Carries (mixKind P w) ws rs∧KV kvs rs
  |[],_,r=>by rw [List.map_nil] at r;cases r;exact ⟨[],True.intro,.nil⟩
  | p::kvs,_,r=>by
    rw [List.map_cons] at r
    cases r with
    | @cons a b as bs h t=>
      obtain ⟨rs,c,q⟩:=carries_of (P:=P) (w:=w) t
      obtain ⟨b1,b2⟩:=b
      exact ⟨(p.1,b2)::rs,⟨kV_is h.1,rfl,c⟩,.cons ⟨rfl,h.2⟩ q⟩
def tDisp (trs:List (TE×TE)):TE:=fun σ H Q=>∀ p,H p=none→tPairs trs σ (upd H p (.dK [])) fun ps H2=>H2 p=some (.dK [])∧∃ kvs:List (Key×V),ps=kvs.map (fun kv=>(kV kv.1,kv.2))∧kvs.length≤15∧Q (.ref p) (upd H2 p (.dK (mergeK [] kvs)))
theorem pe_disp {X:Cx} {pos:Pos} {keys:List (Option Expr)} {values:List Expr} {trs:List (TE×TE)} (h:PPs X pos keys values trs) (hall:keys.all (·.isSome)=true) (hl:keys.length=values.length) (h0:keys≠[])
    (h15:keys.length≤15):PE X (.Dict keys values pos) (tDisp trs):=by
  intro pins s σ H Q I q
  have hn:=I.hok.fresh (Nat.le_refl s.heap.objs.size)
  have I1:=I.laid (a:=s.heap.objs.size) (o:=.dK []) (h':=s.heap.push { cls:=.type "dict",data:=.dict #[] }) (t':=s.toks) (fun _ _ q=>Heap.get?_push_of_some _ q) (Nat.le_refl _) (dk_empty s.heap I.big)
  refine wpAny_Dict_walk (knd:=mixKind X.prog X.w) hall hl h0 h15 (thn (h pins _ σ _ _ I1 (q _ hn)) fun ws s2 ⟨ps,H2,I2,rel,e,kvs,ep,lk,q2⟩=>?_)
  subst ep
  obtain ⟨rs,c,rk⟩:=carries_of (P:=X.prog) (w:=X.w) rel
  obtain ⟨z,hd,vs0,r0,dd⟩:=dk_of I2.hok e
  cases r0
  refine ⟨rs,c,dd,fun h' dd' hs=>⟨.ref s.heap.objs.size,_,?_,rfl,q2⟩⟩
  have hz:(mergeK [] kvs).length≤sizeLine:=by
    have h1:=length_mergeK kvs []
    rw [List.length_nil] at h1
    rw [sizeLine_eq];omega
  have he:∃ q,h'.get? s.heap.objs.size=some q:=let ⟨q,_,_,hq,_⟩:=dd';⟨q,hq⟩
  exact d_write I2 (by rw [e];exact True.intro) hs he (dk_new hz hd (rk.merge .nil) dd')
section
variable {X:Cx} {pins:List (Addr×Obj)} {σ:St} {H:Hp} {s:Shared} {a:Addr} {y d:V} {u r:Value} {o:Option V} {A:Around} {E:Value→Shared→Prop}
end
section
variable {X:Cx} {o e f:Expr} {apos cpos:Pos} {td ty tx:TE}
end
section
variable {X:Cx} {pins:List (Addr×Obj)} {σ:St} {H:Hp} {s:Shared} {a:Addr} {kvs:List (Key×V)} {A:Around} {E:Value→Shared→Prop}
end
section
variable {X:Cx} {pins:List (Addr×Obj)} {σ:St} {H:Hp} {s:Shared} {a:Addr} {y:V} {u:Value} {A:Around} {E:Value→Shared→Prop}
end
end L2
namespace Att
open PySem PySem.W PySem.Calls PyProof.Rows
theorem ints_of_wellAll {P:Params} {h:Heap}:∀ (ns:List Int) (vs:List Value),WellAll P h vs (ns.map WData.int)→IntsAre vs ns:=by
  intro ns
  induction ns with
  | nil=>
    intro vs w
    rw [List.map_nil] at w
    cases w
    exact .nil
  | cons n ns ih=>
    intro vs w
    rw [List.map_cons] at w
    cases w with
    | cons a b=>
      cases a
      exact .cons _ _ (ih _ b)
theorem script_of {l:OpenLaw} {n:Nat} (hn:l.most=some n) {P:Params} {h:Heap} {args:List WData} {vals:List Value}
    (hpre:l.row.toRowW.claim.pre args=true) (hwl:WellAll P h vals args) :
    ∃ a vs ns,vals=[Value.ref a]∧args=[WData.list (ns.map WData.int)]∧h.get? a=some { cls:=.type "list",data:=.seq vs.toArray }∧IntsAre vs ns∧ns.length≤n:=by
  have hsh:WShape.hasAll [] args [.list .int]=true:=(pre_splitW hpre).1
  have hc:l.pre.holds [] { args:=args }=true:=(pre_splitW hpre).2
  obtain ⟨d,r,rfl,h1,h2⟩:=hasAllW_cons hsh
  obtain rfl:=hasAllW_nil h2
  obtain ⟨xs,rfl,h3⟩:=hasW_list h1
  obtain ⟨ns,rfl⟩:=items_int h3
  have hlen:ns.length≤n:=by
    unfold OpenLaw.pre at hc
    have h4:(WTm.not (.lt (.lit (.int (n:Int))) (.len (.arg 0)))).holds [] { args:=[.list (ns.map .int)] }=true:=by
      have h4:=(holds_andW hc).1
      rw [hn] at h4
      exact h4
    have h5:=condW_of h4 (w_not (w_lt w_lit (w_len_list (w_arg rfl))))
    rw [List.length_map] at h5
    refine Nat.le_of_not_lt fun q=>?_
    have q':(n:Int)<((ns.length:Nat):Int):=by omega
    first
      |(rw [decide_eq_true q'] at h5;exact absurd h5 (by decide))
      |(simp at h5;omega)
  cases hwl with
  | cons w1 w2=>
    cases w2
    cases w1 with
    |list ho hall=>exact ⟨_,_,ns,rfl,rfl,ho,ints_of_wellAll ns _ hall,hlen⟩
theorem post_true (l:OpenLaw) (args:List WData):l.row.toRowW.claim.post args (.bool true) args=true:=
  postW_of (r:=l.row.toRowW) (X:=(true == true))
    (show WShape.has [] (.bool true) .bool=true by first|rfl|decide|simp [WShape.has,WShape.arms,WShape.armsAll])
    (show (WTm.eq .res (.lit (.bool true))).value [] { args:=args,res:=some (.bool true),after:=args }=some (.bool (true == true)) from w_eq_bool (w_res rfl) w_lit) rfl
theorem attach_call {l:OpenLaw} {n:Nat} {q:Program} {loose:List Str} {XP:(Str→Option Value)→Heap→Prop} {YP:World→Heap→Prop} {d:DefRec}
    (hn:l.most=some n) (hdf:d.params.defaults=[])
    (call:∀ (w:World) (s₀ s₁:Shared) (mg mb:Str→Option Value) (fa:Addr) (o:Obj) (pm cd doc:Value) (a:Addr) (vs:List Value) (ns:List Int),
      Ground q loose [] XP w s₀ mg mb s₁.heap→YP w s₁.heap→
      s₁.heap.get? fa=some o→o.data=.func (docDef d.name d.params d.body d.scope pm cd doc)→s₁.heap.CodeRec cd d.name→mg d.name=some (.ref fa)→
      s₁.heap.get? a=some { cls:=.type "list",data:=.seq vs.toArray }→IntsAre vs ns→ns.length≤n→s₁.gens=#[]→
      codeAny (model l.prog w) callerA (.call (.ref fa) ⟨[.ref a],[]⟩) (fun r s'=>r=.ok (.ret (.bool true))∧OldK s₁.heap s'.heap∧s'.os=s₁.os∧AllBare s'.gens) s₁) :
    WalkO q loose XP YP l.row.toRowW d [] (fun f vs=>PySem.call f vs):=by
  intro w s₀ s₁ mg mb G Y fa o pm cd doc dV kV ho hd hcd hD hmg hg args vals as hpre hlay hrd hwl hlo
  obtain rfl:dV=.none:=Dflts.none hD hdf
  obtain rfl:kV=.none:=Dflts.noKw hD
  obtain ⟨a,vs,ns,rfl,rfl,hobj,hints,hlen⟩:=script_of hn hpre hwl
  refine enter_call (codeAny_mono (call w s₀ s₁ mg mb fa o pm cd doc a vs ns G Y ho (fd_plain hd) hcd hmg hobj hints hlen hg) fun r s' hq=>?_)
  obtain ⟨rfl,h2,h3,h4⟩:=hq
  exact ⟨.inl ⟨.bool true,.bool true,[],rfl,fun _=>rfl,.bool true,post_true l _,fun _=>⟨List.Pairwise.nil,fun _ hm=>(nomatch hm)⟩⟩,h2,h3,h4⟩
section
variable {prog:Program} {w:World} {A:Around} {E:Value→Shared→Prop} {s:Shared} {K:Frag}
end
end Att
namespace L2
open PySem PySem.Spec PyProof.Rows
theorem vals_ints:∀ {vs:List Value} {ns:List Int},IntsAre vs ns→Vals (ns.map V.int) vs
  |_,_,.nil=>.nil
  |_,_,.cons n t h=>.cons ⟨t,rfl⟩ (vals_ints h)
def Only (H:Hp):Prop:=∀ b,H b=none∨∃ o xs,H b=some (.frz o (.lst xs))
theorem law_call {P:Program} {w:World} {K:PySem.W.Frag} {mg mb:Str→Option Value} {CX:CXT} {k:Nat} {fa a:Addr} {fd:FuncData} {x:Str} {sp:Sp} {s₁:Shared} {vs:List Value} {ns:List Int}
    (KX:K.In s₁.heap) (hns:s₁.heap.Ns mainGlobals mg) (hb:s₁.heap.Ns builtinsNs mb) (hbb:∀ x:Str,x ≠ "__name__"→mb x=bootBuiltins x) (hlim:s₁.heap.NoLimit) (hg:s₁.gens=#[])
    (ha:s₁.heap.get? a=some { cls:=.type "list",data:=.seq vs.toArray }) (hi:IntsAre vs ns) (hl:ns.length≤sizeLine) (hr:Room k callerA)
    (F:∀ base:Heap,K.In base→base.Ns mainGlobals mg→FnOk P w K mg base CX k fa fd [x] sp) (hbind:∀ (s:Shared) (u:Value),BindsTo s fd ⟨[u],[]⟩ [(x,u)])
    (hsp:∀ H:Hp,Only H→SqL K H a (ns.map V.int)→sp [.ref a] H (fun v _=>v=.bl true) fun _ _ _=>False)
    (hCX:∀ H e s',CX [] H s₁ (fun _ _ _=>False) e s'→False) :
    codeAny (model P w) callerA (.call (.ref fa) ⟨[.ref a],[]⟩) (fun r s'=>r=.ok (.ret (.bool true))∧OldK s₁.heap s'.heap∧s'.os=s₁.os∧AllBare s'.gens) s₁:=by
  have rv:=vals_ints hi
  have lenV:=hi.length
  have core:∀ H:Hp,Only H→SqL K H a (ns.map V.int)→HOk P w H s₁.heap→(∀ b,H b≠none→b=a)→(H a≠none→K.lookup a=none)→
      codeAny (model P w) callerA (.call (.ref fa) ⟨[.ref a],[]⟩) (fun r s'=>r=.ok (.ret (.bool true))∧OldK s₁.heap s'.heap∧s'.os=s₁.os∧AllBare s'.gens) s₁:=by
    intro H hO hS hok hA hK
    have base_of:∀ {b:Addr} {o:Obj},s₁.heap.get? b=some o→H b=none→(hidT s₁.heap H).get? b=some o:=fun e n=>hidT_get e n
    have noA:∀ {b:Addr} {o:Obj} {es:Array DictEntry} {ep:Nat},s₁.heap.get? b=some o→o.data=.dict es ep→H b=none:=fun {b o es ep} e d=>by
      cases q:H b with
      |none=>rfl
      | some u=>
        have e':b=a:=hA b (by rw [q];simp)
        subst e'
        rw [ha] at e;cases e
        have d':Data.seq vs.toArray _=Data.dict es ep:=d
        cases d'
    have nsK:∀ {b:Addr} {m:Str→Option Value},s₁.heap.Ns b m→(hidT s₁.heap H).Ns b m:=fun {b m} ⟨o,es,ep,e,d,r⟩=>⟨o,es,ep,base_of e (noA e d),d,r⟩
    have hKb:K.In (hidT s₁.heap H):=fun b o e=>base_of (KX b o e) (by
      cases q:H b with
      |none=>rfl
      | some u=>
        have e':b=a:=hA b (by rw [q];simp)
        subst e'
        rw [hK (by rw [q];simp)] at e;cases e)
    have hM:Mod K mg (hidT s₁.heap H):=⟨hKb,nsK hns,⟨mb,nsK hb,hbb⟩,let ⟨mc,h1,h2⟩:=hlim;⟨mc,nsK h1,h2⟩⟩
    have e0:Env0 P w K mg (hidT s₁.heap H) callerA [] s₁ H:=⟨rfl,hM,fun b o e=>of_hidT e,Nat.le_of_eq (hidT_size _ _),trivial,fun b hb=>absurd (show b∈([]:List Addr) from hb) (by simp),hok,.of_eq hg⟩
    refine codeAny_mono ((F _ hKb (nsK hns)).run callerA [] s₁ H ⟨[.ref a],[]⟩ [.ref a] [.ref a] _ _ hr e0 (hbind s₁ (.ref a)) (.cons rfl .nil) (hsp H hO hS)) fun r s' h=>?_
    cases r with
    |error e=>exact (hCX H e s' h).elim
    | ok fl=>
      cases fl with
      |next=>exact False.elim h
      |brk=>exact False.elim h
      |cont=>exact False.elim h
      | ret u=>
        obtain ⟨v,H',os,bare,un,hok',r',q⟩:=h
        have q':v=.bl true:=q
        subst q'
        obtain rfl:u=Value.bool true:=r'
        refine ⟨rfl,OldK.of_keep fun b o e=>?_,os,bare⟩
        cases q:H b with
        |none=>exact un.keep b o e q (by intro z;exact absurd (show b∈([]:List Addr) from z) (by simp)) (by simp)
        | some u=>
          rcases hO b with z|⟨ob,xs,z⟩
          · rw [q] at z;cases z
          · have z2:=un.frzs b ob _ z
            obtain ⟨e1,_⟩:=hok b _ z
            obtain ⟨e2,_⟩:=hok' b _ z2
            rw [e] at e1;cases e1
            exact e2
  cases hk:K.lookup a with
  | some o=>
    have e:=KX a o hk
    rw [ha] at e
    cases e
    refine core (fun _=>none) (fun _=>.inl rfl) (.inr ⟨_,vs.toArray,_,hk,rfl,rfl,rfl,by rw [List.size_toArray,lenV];exact hl,by simpa using rv⟩) (fun b u z=>by have z':(none:Option HO)=some u:=z;cases z') (fun b z=>absurd rfl z) fun z=>absurd rfl z
  | none=>
    refine core (fun b=>if b=a then some (.frz { cls:=.type "list",data:=.seq vs.toArray } (.lst (ns.map V.int))) else none) (fun b=>?_) (.inl (.inr ⟨{ cls:=.type "list",data:=.seq vs.toArray },if_pos rfl⟩)) (fun b u z=>?_) (fun b z=>?_) fun _=>hk
    · by_cases hb:b=a
      · exact .inr ⟨_,_,if_pos hb⟩
      · exact .inl (if_neg hb)
    · by_cases hb:b=a
      · have z':=(if_pos hb).symm.trans z
        cases z'
        subst hb
        exact ⟨ha,by rw [List.length_map];exact hl,vs,_,rv,ha⟩
      · have z':=(if_neg hb).symm.trans z
        cases z'
    · by_cases hb:b=a
      · exact hb
      · exact absurd (if_neg hb) z
end L2
namespace L2
open PySem PySem.Spec PyProof.Rows
theorem walk_of {l:PySem.W.OpenLaw} {n k:Nat} {q:Program} {loose:List Str} {XP:(Str→Option Value)→Heap→Prop} {YP:World→Heap→Prop} {d:DefRec} {K:Params→PySem.W.Frag} {CX:World→CXT} {sp:World→Sp} {x:Str}
    (hn:l.most=some n) (hn2:n≤sizeLine) (hdf:d.params.defaults=[]) (hr:Room k callerA)
    (hY:∀ (w:World) (h:Heap),YP w h→(K w.params).In h)
    (F:∀ (w:World) (mg:Str→Option Value) (fa:Addr) (h:Heap),(K w.params).In h→h.Ns mainGlobals mg→mg d.name=some (.ref fa)→
      ∃ fd:FuncData,(∀ (s:Shared) (u:Value),BindsTo s fd ⟨[u],[]⟩ [(x,u)])∧
        ∀ base:Heap,(K w.params).In base→base.Ns mainGlobals mg→FnOk l.prog w (K w.params) mg base (CX w) k fa fd [x] (sp w))
    (hsp:∀ (w:World) (H:Hp) (a:Addr) (ns:List Int),ns.length≤n→Only H→SqL (K w.params) H a (ns.map V.int)→sp w [.ref a] H (fun v _=>v=.bl true) fun _ _ _=>False)
    (hCX:∀ (w:World) (H:Hp) (s:Shared) (e:Value) (s':Shared),CX w [] H s (fun _ _ _=>False) e s'→False) :
    PySem.W.WalkO q loose XP YP l.row.toRowW d [] (fun f vs=>PySem.call f vs):=by
  refine Att.attach_call hn hdf fun w s₀ s₁ mg mb fa o pm cd doc a vs ns G Y ho hd hcd hmg hobj hints hlen hg=>?_
  have KX:=hY w _ Y
  obtain ⟨fd,hb,hF⟩:=F w mg fa _ KX G.T.g hmg
  exact law_call KX G.T.g G.T.b G.T.builtins G.T.nolimit hg hobj hints (Nat.le_trans hlen hn2) hr hF hb (fun H hO hS=>hsp w H a ns hlen hO hS) fun H e s'=>hCX w H s₁ e s'
end L2
namespace L2
open PySem PySem.Spec PyProof.Rows
def defArgs (s:Stmt):Arguments:=match s with
  |.FunctionDef _ a _ _ _ _ _ _ _ _=>a
  |_=>{ posonlyargs:=[],args:=[],vararg:=none,kwonlyargs:=[],kw_defaults:=[],kwarg:=none,defaults:=[] }
def defBody (s:Stmt):List Stmt:=match s with
  |.FunctionDef _ _ b _ _ _ _ _ _ _=>b
  |_=>[]
def defScope (s:Stmt):Scope:=match s with
  |.FunctionDef _ _ _ _ _ _ sc _ _ _=>sc
  |_=>{ kind:=.function,names:=[],isGenerator:=false,isCoroutine:=false }
abbrev CX0:CXT:=fun _ _ _ _ _ _=>False
abbrev E0:XK:=fun _ _ _=>False
theorem pass0 {X:Cx}:Passes CX0 X E0:=fun _ _ _ _ _ _ _ h=>h.elim
structure Fun (K:PySem.W.Frag) (x qual:Str) (st:Stmt) (f:Addr) (fd:FuncData):Prop where
  ex:∃ (oc:Value) (od:Option Addr) (kV doc pm:Value) (an:Option Addr) (cdv ct:Value) (osl:Array (Option Value)),
    fd=PySem.W.fnOf x qual (defArgs st) (defBody st) (defScope st) .none kV doc pm an cdv ct∧K.lookup f=some ⟨oc,od,.func fd,osl⟩∧PySem.W.codeIn K cdv qual=true
  kp:PySem.W.keepIn K (.ref f)=true
section
variable {P:Program} {w:World} {K:PySem.W.Frag} {mg:Str→Option Value} {base:Heap}
theorem Fun.ok {x qual:Str} {st:Stmt} {f:Addr} {fd:FuncData} {N ps:List Str} {k:Nat} {sp:Sp} (F:Fun K x qual st f fd) (S:FnScope N ps (defScope st)) (len:∀ vs H Q E,sp vs H Q E→vs.length=ps.length)
    (hbody:∀ (cdv:Value) (A:Around) (outer:List Env) (s:Shared) (H:Hp) (vs:List V) (Q:VK) (E:XK),Room k (A.deeper (envOfC qual (defScope st) s.heap.objs.size f cdv))→sp vs H Q E→
      ∃ t,PSs (cxOf CX0 P w K mg base N qual (defScope st) f cdv A outer s H E).nox (defBody st) t∧t { nx:=fun _ H'=>Q .non H',rt:=Q } (start N vs) H):FnOk P w K mg base CX0 (k+1) f fd ps sp:=by
  obtain ⟨oc,od,kV,doc,pm,an,cdv,ct,osl,rfl,lk,hcd⟩:=F.ex
  refine fn_of lk hcd S len fun A outer s H vs Q E hr hsp=>?_
  obtain ⟨t,h,q⟩:=hbody cdv A outer s H vs Q E hr hsp
  exact ⟨t,h.nox,q⟩
theorem Fun.binds {x qual:Str} {st:Stmt} {f:Addr} {fd:FuncData} {ps:List Str} (F:Fun K x qual st f fd)
    (h:∀ (kV doc pm:Value) (an:Option Addr) (cdv ct:Value) (us:List Value),us.length=ps.length→bindArgs (PySem.W.fnOf x qual (defArgs st) (defBody st) (defScope st) .none kV doc pm an cdv ct) ⟨us,[]⟩=pure (ps.zip us)):Binds K fd ps []:=by
  obtain ⟨oc,od,kV,doc,pm,an,cdv,ct,osl,rfl,lk,hcd⟩:=F.ex
  exact .all (h kV doc pm an cdv ct)
theorem fun_mk {x qual:Str} {st:Stmt} {f:Addr} {oc:Value} {od an:Option Addr} {osl:Array (Option Value)} {kV doc pm cdv ct:Value} (l:K.lookup f=some ⟨oc,od,.func (PySem.W.fnOf x qual (defArgs st) (defBody st) (defScope st) .none kV doc pm an cdv ct),osl⟩)
    (c:PySem.W.codeIn K cdv qual=true) (k:PySem.W.keepIn K (.ref f)=true):Fun K x qual st f (PySem.W.fnOf x qual (defArgs st) (defBody st) (defScope st) .none kV doc pm an cdv ct):=⟨⟨oc,od,kV,doc,pm,an,cdv,ct,osl,rfl,l,c⟩,k⟩
end
theorem hu_of {A:Around} {k:Nat} (hr:Room k A):A.units+1<cLine:=Nat.lt_of_le_of_lt (Nat.add_le_add_left (by decide:1≤64) _) hr.units
theorem small1000 {n:Nat} (h:n≤1000):n<sizeLine:=Nat.lt_of_le_of_lt h (by decide)
section
variable {X:Cx}
theorem pv (i:Nat) {x:Str} {pos:Pos} (hN:X.N[i]?=some x:=by rfl) (hv:Vis X.env.scope x:=by first|exact Or.inl rfl|exact Or.inr (Or.inl rfl)|exact Or.inr (Or.inr rfl)) (hd:(x == ("__debug__" : Str))=false:=by decide)
    (hcd:(x == ("__classdict__" : Str))=false:=by decide):PE X (.Name x pos) (tVar i):=pe_var hN hv hd hcd
end
theorem ite2 {c A B:Prop} [Decidable c] (h1:c→A) (h2:¬ c→B):if c then A else B:=by
  by_cases h:c
  · rw [if_pos h]
    exact h1 h
  · rw [if_neg h]
    exact h2 h
def Same (H H':Hp):Prop:=∀ b o,H b=some o→H' b=some o
theorem Same.refl (H:Hp):Same H H:=fun _ _ h=>h
theorem Same.trans {H H1 H2:Hp} (a:Same H H1) (b:Same H1 H2):Same H H2:=fun c o h=>b c o (a c o h)
theorem Same.free {H H':Hp} (e:Same H H') {l:Addr} (h:H' l=Option.none):H l=Option.none:=by
  cases q:H l with
  |none=>rfl
  | some o=>
    rw [e l o q] at h
    cases h
theorem Same.seq {K:PySem.W.Frag} {H H':Hp} {a:Addr} {xs:List V} (e:Same H H') (h:SqL K H a xs):SqL K H' a xs:=by
  rcases h with (h|⟨o,h⟩)|h
  · exact .inl (.inl (e _ _ h))
  · exact .inl (.inr ⟨o,e _ _ h⟩)
  · exact .inr h
end L2
namespace L2
open PySem PySem.Spec PyProof.Rows
section
variable {X:Cx}
end
section
variable {κ:Type} [DecidableEq κ]
theorem nd_snoc:∀ {l:List κ} {k:κ},l.Nodup→¬ k∈l→(l++[k]).Nodup
  |[],k,_,_=>by simp
  | a::r,k,h,hk=>by
    obtain ⟨h1,h2⟩:=List.nodup_cons.mp h
    show (a::(r++[k])).Nodup
    refine List.nodup_cons.mpr ⟨fun m=>?_,nd_snoc h2 fun m=>hk (List.mem_cons.mpr (Or.inr m))⟩
    rcases List.mem_append.mp m with q|q
    · exact h1 q
    · exact hk (List.mem_cons.mpr (Or.inl (List.mem_singleton.mp q).symm))
end
end L2
namespace L2
open PySem PySem.Spec PyProof.Rows
theorem closure_ok {env:Env} (scope:Scope) (h:∀ y∈scope.names,y.2=.free→∃ c,env.cells.lookup y.1=some c) :
    ∃ cl,closureFor scope env=pure cl∧(∀ x c,cl.lookup x=some c→env.cells.lookup x=some c)∧∀ x,(x,NameKind.free)∈scope.names→∃ c,cl.lookup x=some c:=by
  have go:∀ (names:List (Str×NameKind)) (acc:List (Str×Addr)),(∀ y∈names,y.2=.free→∃ c,env.cells.lookup y.1=some c)→(∀ x c,acc.lookup x=some c→env.cells.lookup x=some c)→
      ∃ cl,(forIn names acc fun x cs=>(match x with
        |(name,kind)=>if kind == NameKind.free then (do let c ← cellOf env name;pure (ForInStep.yield ((name,c)::cs))) else pure (ForInStep.yield cs):Sem (ForInStep (List (Str×Addr)))))=pure cl∧
        (∀ x c,cl.lookup x=some c→env.cells.lookup x=some c)∧(∀ x,(x,NameKind.free)∈names∨(∃ c,acc.lookup x=some c)→∃ c,cl.lookup x=some c):=by
    intro names
    induction names with
    |nil=>intro acc _ ha;exact ⟨acc,rfl,ha,fun x z=>z.elim (fun q=>nomatch q) id⟩
    | cons y r ih=>
      intro acc hy ha
      obtain ⟨n,k⟩:=y
      by_cases hk:k=.free
      · subst hk
        obtain ⟨c,hc⟩:=hy (n,.free) List.mem_cons_self rfl
        obtain ⟨cl,e,h1,h2⟩:=ih ((n,c)::acc) (fun z hz=>hy z (List.mem_cons_of_mem _ hz)) (fun x c' hx=>by
          rw [List.lookup_cons] at hx
          by_cases q:x == n
          · rw [q] at hx
            cases hx
            rw [beq_iff_eq.mp q];exact hc
          · rw [Bool.not_eq_true] at q
            rw [q] at hx
            exact ha x c' hx)
        refine ⟨cl,?_,h1,fun x z=>h2 x ?_⟩
        · rw [List.forIn_cons]
          simp only [beq_self_eq_true,if_true,cellOf,hc]
          exact e
        · have aux:∀ x,(∃ c',acc.lookup x=some c')→∃ c',((n,c)::acc).lookup x=some c':=fun x ⟨c',z⟩=>by
            rw [List.lookup_cons]
            by_cases q:x == n
            · rw [q];exact ⟨_,rfl⟩
            · rw [Bool.not_eq_true] at q
              rw [q];exact ⟨c',z⟩
          rcases z with z|z
          · rcases List.mem_cons.mp z with z|z
            · cases z
              exact .inr ⟨c,by rw [List.lookup_cons,beq_self_eq_true]⟩
            · exact .inl z
          · exact .inr (aux x z)
      · have hb:(k == NameKind.free)=false:=by simpa using hk
        obtain ⟨cl,e,h1,h2⟩:=ih acc (fun z hz=>hy z (List.mem_cons_of_mem _ hz)) ha
        refine ⟨cl,?_,h1,fun x z=>h2 x ?_⟩
        · rw [List.forIn_cons]
          simp only [hb,Bool.false_eq_true,if_false]
          exact e
        · rcases z with z|z
          · rcases List.mem_cons.mp z with z|z
            · cases z
              exact absurd rfl hk
            · exact .inl z
          · exact .inr z
  obtain ⟨cl,e,h1,h2⟩:=go scope.names [] h (fun x c z=>by simp at z)
  refine ⟨cl,?_,h1,fun x z=>h2 x (.inl z)⟩
  unfold closureFor
  exact (congrArg (fun (m:Sem (List (Str×Addr)))=>m >>= fun cs=>pure cs) e).trans rfl
def cxComp (X:Cx) (scope:Scope) (N':List Str) (cl:List (Str×Addr)) (C:Addr) (s₀:Shared) (H₀:Hp) (ex:List Addr):Cx where
  prog:=X.prog
  w:=X.w
  K:=X.K
  mg:=X.mg
  base:=X.base
  A:=X.A
  N:=N'
  s₀:=s₀
  H₀:=H₀
  env:=compEnvC scope cl C X.env
  outer:=X.stack
  stack:=X.stack
  ex:=ex
  fn:=fun _=>false
  calm:=X.calm
  pn:=[]
  xe:=fun _ _=>False
def compSt (k:Nat) (js:List Nat) (σ:St):St:=List.replicate k none++js.map fun j=>(σ[j]?).join
theorem compSt_len (k:Nat) (js:List Nat) (σ:St):(compSt k js σ).length=k+js.length:=by simp [compSt]
structure CompScope (X:Cx) (scope:Scope) (own:List Str) (js:List Nat) (N':List Str):Prop where
  kind:scope.kind=.function
  nocell:∀ y∈scope.names,y.2≠.cell
  names:∀ y∈scope.names,y.2=.local→scope.names.lookup y.1=some .local
  free:∀ y∈scope.names,y.2=.free→X.env.kindOf y.1=some .cell∨X.env.kindOf y.1=some .free
  nm:N'=own++js.map fun j=>X.N.getD j Str.empty
  fr:∀ j∈js,j<X.N.length∧(X.N.getD j Str.empty,NameKind.free)∈scope.names∧∀ k,(X.N.getD j Str.empty,k)∈scope.names→k=.free
theorem lookup_mem_free {names:List (Str×NameKind)} {x:Str} (h:(x,NameKind.free)∈names) (u:∀ k,(x,k)∈names→k=.free):names.lookup x=some .free:=by
  induction names with
  |nil=>cases h
  | cons y r ih=>
    obtain ⟨n,k⟩:=y
    rw [List.lookup_cons]
    by_cases q:x == n
    · rw [q]
      have e:x=n:=beq_iff_eq.mp q
      subst e
      rw [u k List.mem_cons_self]
    · rw [Bool.not_eq_true] at q
      rw [q]
      refine ih ?_ fun k hk=>u k (List.mem_cons_of_mem _ hk)
      rcases List.mem_cons.mp h with z|z
      · cases z
        rw [beq_self_eq_true] at q;cases q
      · exact z
theorem relabel_mem {scope:Scope} {env:Env} {x:Str} {k:NameKind} (h:(x,k)∈(relabel scope env).names) (hk:k=.cell∨k=.free) (hc:∀ y∈scope.names,y.2≠.cell):(x,NameKind.free)∈scope.names:=by
  unfold relabel at h
  obtain ⟨⟨n,k'⟩,hm,e⟩:=List.mem_map.mp h
  dsimp only at e
  by_cases q:(k' == NameKind.free && env.scope.kind == .function && env.kindOf n == some .cell)=true
  · rw [if_pos q] at e
    cases e
    rw [Bool.and_eq_true,Bool.and_eq_true] at q
    have:k'=.free:=by simpa using q.1.1
    rw [← this];exact hm
  · rw [if_neg q] at e
    cases e
    rcases hk with z|z
    · exact absurd z (hc _ hm)
    · rw [← z];exact hm
theorem lookup_relabel_free {env:Env} {x:Str}:∀ {names:List (Str×NameKind)},names.lookup x=some .free→
    (names.map fun (n,k)=>if (k == NameKind.free && env.scope.kind == .function && env.kindOf n == some .cell) then (n,NameKind.cell) else (n,k)).lookup x=some .cell∨
    (names.map fun (n,k)=>if (k == NameKind.free && env.scope.kind == .function && env.kindOf n == some .cell) then (n,NameKind.cell) else (n,k)).lookup x=some .free
  |[],h=>by simp at h
  | (n,k)::r,h=>by
    have ih:=@lookup_relabel_free env x r
    rw [List.lookup_cons] at h
    rw [List.map_cons]
    dsimp only
    by_cases q:x == n
    · rw [q] at h
      cases h
      by_cases c:(NameKind.free == NameKind.free && env.scope.kind == .function && env.kindOf n == some .cell)=true
      · rw [if_pos c,List.lookup_cons,q];exact .inl rfl
      · rw [if_neg c,List.lookup_cons,q];exact .inr rfl
    · rw [Bool.not_eq_true] at q
      rw [q] at h
      by_cases c:(k == NameKind.free && env.scope.kind == .function && env.kindOf n == some .cell)=true
      · rw [if_pos c,List.lookup_cons,q];exact ih h
      · rw [if_neg c,List.lookup_cons,q];exact ih h
section
variable {X:Cx} {pins:List (Addr×Obj)} {σ:St} {H:Hp} {s:Shared}
theorem Inv.comp {scope:Scope} {own:List Str} {js:List Nat} {N':List Str} {cl:List (Str×Addr)} {C:Addr} {h₁:Heap} {tk:Nat} {fp:List Addr} {m:Str→Option Value} (S:CompScope X scope own js N') (I:Inv X pins σ H s)
    (hc1:∀ x c,cl.lookup x=some c→X.env.cells.lookup x=some c) (hc2:∀ x,(x,NameKind.free)∈scope.names→∃ c,cl.lookup x=some c) (hC:s.heap.objs.size≤C) (hns:h₁.Ns C m) (hk:∀ b o,s.heap.get? b=some o→h₁.get? b=some o)
    (hf:∀ b∈fp,FpOk X pins H b∧b<s.heap.objs.size) (hHC:H C=none) (hfree:∀ b o,s.heap.get? b=some o→b≠C) :
    Inv (cxComp X scope N' cl C s H fp) [] (compSt own.length js σ) H { s with heap:=h₁,toks:=tk }:=by
  have ltx:∀ b o,X.s₀.heap.get? b=some o→b∉X.ex→b∉fp:=fun b o e hx hb=>by
    rcases (hf b hb).1.2.2.2.1 with z|z
    · exact hx z
    · exact absurd (Nat.lt_of_lt_of_le (Heap.lt_size e) z) (Nat.lt_irrefl _)
  refine ⟨⟨I.ok.mod,S.kind,I.ok.glob,I.ok.blt,hC,fun x y c h1 h2=>I.ok.inj x y c (hc1 x c h1) (hc1 y c h2),fun x hx=>?_,fun x c z=>(nomatch z),I.ok.hd,I.ok.frames,.inl rfl,fun b hb=>⟨Nat.ne_of_lt (Nat.lt_of_lt_of_le (hf b hb).2 hC),fun x c e=>(hf b hb).1.2.2.2.2.1 x c (hc1 x c e)⟩,I.bs,Nat.le_trans I.ok.bsz I.sz,fun b o e=>ltx b o (I.ok.bs b o e).1 (I.ok.noex b o e),fun b hb z=>?_,I.stack,I.stkFree⟩,
    rfl,I.bare,Un.kept hk,⟨m,hns,fun i x v e1 e2 e3=>?_⟩,fun x c e=>?_,hHC,fun x c e=>I.freeC x c (hc1 x c e),fun p hp=>absurd (show p∈([]:List (Addr×Obj)) from hp) (by simp),I.hok.kept hk,?_⟩
  · have hx':(relabel scope X.env).names.lookup x=some .cell∨(relabel scope X.env).names.lookup x=some .free:=hx
    rcases hx' with z|z
    · exact hc2 x (relabel_mem (PySem.mem_of_lookup z) (.inl rfl) S.nocell)
    · exact hc2 x (relabel_mem (PySem.mem_of_lookup z) (.inr rfl) S.nocell)
  · obtain ⟨_,f1,f2,_⟩:=(hf b hb).1
    rcases List.mem_cons.mp (I.stkSub b z) with q|q
    · exact f1 q
    · exact f2 q
  ·
    unfold compSt at e2
    by_cases hi:i<own.length
    · rw [List.getElem?_append_left (by simpa using hi),List.getElem?_replicate] at e2
      split at e2 <;> cases e2
    · rw [List.getElem?_append_right (by simpa using hi),List.length_replicate,List.getElem?_map] at e2
      cases ej:js[i-own.length]? with
      |none=>rw [ej] at e2;cases e2
      | some j=>
        rw [ej] at e2
        have e2':(σ[j]?).join=some v:=by simpa using e2
        have hσ:σ[j]?=some (some v):=by
          cases q:σ[j]? with
          |none=>rw [q] at e2';cases e2'
          |some o=>rw [q] at e2';exact congrArg some e2'
        have hj:=S.fr j (List.mem_of_getElem? ej)
        have hx:x=X.N.getD j Str.empty:=by
          have e1':N'[i]?=some x:=e1
          rw [S.nm,List.getElem?_append_right (by omega),List.getElem?_map,ej] at e1'
          exact (Option.some.inj e1').symm
        have hN:X.N[j]?=some x:=by
          rw [hx,List.getD_eq_getElem?_getD,List.getElem?_eq_getElem hj.1];rfl
        have hfr:scope.names.lookup x=some .free:=by rw [hx];exact lookup_mem_free hj.2.1 hj.2.2
        have hkx:=S.free (x,.free) (by rw [hx];exact hj.2.1) rfl
        have hvis:Vis X.env.scope x:=hkx.elim (fun z=>.inr (.inl z)) fun z=>.inr (.inr z)
        obtain ⟨mX,hnX,hlX⟩:=I.loc
        obtain ⟨u,r,l⟩:=hlX j x v hN hσ hvis
        refine ⟨u,r,.inr ⟨lookup_relabel_free hfr,?_⟩⟩
        rcases l with ⟨z,_⟩|⟨_,c,hc,hcell⟩
        · rcases hkx with q|q
          · have:=q.symm.trans z;cases this
          · have:=q.symm.trans z;cases this
        · obtain ⟨c',hc'⟩:=hc2 x (by rw [hx];exact hj.2.1)
          have:c'=c:=Option.some.inj ((hc1 x c' hc').symm.trans hc)
          subst this
          obtain ⟨o,ho,hd⟩:=hcell
          exact ⟨c',hc',o,hk _ _ ho,hd⟩
  · obtain ⟨v,o,ho,hd⟩:=I.cell x c (hc1 x c e)
    exact ⟨v,o,hk _ _ ho,hd⟩
  · rw [compSt_len]
    show _=N'.length
    rw [S.nm];simp
end
end L2
namespace L2
open PySem PySem.Spec PyProof.Rows
def PIfs (Y:Cx) (ifs:List Expr) (t:TT):Prop:=
  ∀ (pins:List (Addr×Obj)) (s:Shared) (σ:St) (H:Hp) (Q:Bool→Hp→Prop),Inv Y pins σ H s→t σ H Q→
    wpAny (model Y.prog Y.w) Y.A (forIn ifs true fun c r=>if r=true then do let ok ← isTrue c Y.env (eval c Y.env);pure (ForInStep.yield ok) else pure (ForInStep.yield r)) (TP Y pins σ Q) Y.xe s
def tYes:TT:=fun _ H Q=>Q true H
theorem pifs_nil {Y:Cx}:PIfs Y [] tYes:=fun _ _ _ H _ I h=>wpAny_tests_nil ⟨H,I,h⟩
theorem pifs_one {Y:Cx} {c:Expr} {t:TT} (h:PT Y c t):PIfs Y [c] t:=fun pins s σ H Q I hw=>wpAny_tests_one (h pins s σ H Q I hw)
abbrev accObj (us:List Value) (k:Nat):Obj:={ cls:=.type "list",data:=.seq us.toArray k }
def CTurn (J:It) (g:TG) (tt:TT) (te:TE) (F:List V→Hp→Prop) (W:Nat→Nat→List V→St→Hp→Prop):Prop:=
  ∀ i m ys σ H,W i m ys σ H→(J.stop i H∧F ys H)∨(J.go i H∧ys.length<sizeLine∧∀ x H1,J.yld i H x H1→g x σ H1 fun σ2 H2=>tt σ2 H2 fun b H3=>
    if b=true then te σ2 H3 fun y H4=>∃ m',m'<m∧W (i+1) m' (ys++[y]) σ2 H4 else ∃ m',m'<m∧W (i+1) m' ys σ2 H3)
theorem comp_loop {X:Cx} {scope:Scope} {N':List Str} {cl:List (Str×Addr)} {C acc it:Addr} {s₂:Shared} {H₂:Hp} {fp:List Addr} {tn:Nat→Heap→Prop} {J:It} {g:TG} {tt:TT} {te:TE} {F:List V→Hp→Prop}
    {elt tg iter:Expr} {ifs:List Expr} {pos:Pos} {R:Result→Shared→Prop} (W:Nat→Nat→List V→St→Hp→Prop) (turn:CTurn J g tt te F W) (T:Turn X.prog X.w X.K tg J fp it tn)
    (hg:PG (cxComp X scope N' cl C s₂ H₂ fp) tg g) (hc:PIfs (cxComp X scope N' cl C s₂ H₂ fp) ifs tt) (he:PE (cxComp X scope N' cl C s₂ H₂ fp) elt te) (hcalm:X.calm=true)
    (hfp:∀ b∈fp,b≠C∧b∉frs X.stack∧(∀ x c,cl.lookup x=some c→c≠b)∧b≠acc) (hacc:acc≠C∧acc∉frs X.stack∧(∀ x c,cl.lookup x=some c→c≠acc)∧s₂.heap.objs.size≤acc)
    (hR:∀ s' σ' H' ys us k,Inv (cxComp X scope N' cl C s₂ H₂ fp) [(acc,accObj us k)] σ' H' s'→Vals ys us→F ys H'→R (.ok .next) s')
    {s:Shared} {σ:St} {H:Hp} {m:Nat} (I:Inv (cxComp X scope N' cl C s₂ H₂ fp) [(acc,accObj [] 0)] σ H s) (st:tn 0 s.heap) (fr:∀ b∈fp,H b=none) (w0:W 0 m [] σ H) :
    codeAny (model X.prog X.w) X.A (.compLoop (.ListComp elt [⟨tg,iter,ifs,0⟩] scope pos) 0 (.ref it) (.ref acc) (compEnvC scope cl C X.env)) R s:=by
  refine codeAny_loop rfl (fun n s'=>∃ i ys us k σ' H',Vals ys us∧Inv (cxComp X scope N' cl C s₂ H₂ fp) [(acc,accObj us k)] σ' H' s'∧tn i s'.heap∧(∀ b∈fp,H' b=none)∧W i n ys σ' H') (fun n s3 hI=>?_) m ⟨0,[],[],0,σ,H,.nil,I,st,fr,w0⟩
  obtain ⟨i,ys,us,k,σ3,H3,rv,I3,st3,fr3,w3⟩:=hI
  show wpAny _ X.A ((compTurn (.ListComp elt [⟨tg,iter,ifs,0⟩] scope pos) 0 (.ref it) (.ref acc) (compEnvC scope cl C X.env)).onRaise (fun x=>do noteFrame x (compEnvC scope cl C X.env);theTreesLotGoes x)) _ _ s3
  refine wpAny_noted ?_
  rw [compTurn_list]
  have fpk:∀ {pins:List (Addr×Obj)} {H':Hp},(∀ p∈pins,p.1=acc∨p.1∈([]:List Addr))→(∀ b∈fp,H' b=none)→∀ b∈fp,FpOk (cxComp X scope N' cl C s₂ H₂ fp) pins H' b:=fun hp hn b hb=>
    ⟨hn b hb,(hfp b hb).1,(hfp b hb).2.1,.inl hb,(hfp b hb).2.2.1,fun p hp'=>by
      have hp'':p∈([]:List (Addr×Obj))++_:=hp'
      rcases hp p (by simpa using hp'') with z|z
      · rw [z];exact Ne.symm (hfp b hb).2.2.2
      · exact (nomatch z)⟩
  have fp1:=fpk (pins:=[(acc,accObj us k)]) (fun p hp=>.inl (by simp at hp;rw [hp])) fr3
  refine wpAny_bind (wpAny_standAt (wpAny_bind ?_))
  rcases turn i n ys σ3 H3 w3 with ⟨stop,qn⟩|⟨go,hz,step⟩
  · refine wpAny_mono (T.done (cxComp X scope N' cl C s₂ H₂ fp) rfl rfl rfl hcalm i _ s3 σ3 H3 (fun _ _=>False) I3 fp1 st3 stop) (fun r s4 ⟨hr,I4⟩=>?_) (fun _ _ z=>z.elim)
    subst hr
    exact wpAny_pure (hR s4 σ3 H3 ys us k I4 rv qn)
  · refine wpAny_mono (T.item (cxComp X scope N' cl C s₂ H₂ fp) rfl rfl rfl hcalm i _ s3 σ3 H3 (fun _ _=>False) I3 fp1 st3 go) (fun r s4 ⟨u,hr,h4⟩=>?_) (fun _ _ z=>z.elim)
    subst hr
    refine wpAny_bind (wpAny_mono h4 (fun _ s5 ⟨x,H5,I5,r5,y5,st5,fr5⟩=>?_) (fun _ _ z=>z.elim))
    have fp5:=fpk (pins:=[(acc,accObj us k)]) (fun p hp=>.inl (by simp at hp;rw [hp])) fr5
    have I5':=I5.pinned fp5 (T.obj _ _ st5)
    refine wpAny_bind (wpAny_mono (hg _ s5 σ3 H5 x u _ I5' r5 (step x H5 y5)) (fun _ s6 ⟨σ6,H6,I6,q6⟩=>?_) (fun _ _ z=>z.elim))
    refine wpAny_bind (wpAny_mono (hc _ s6 σ6 H6 _ I6 q6) (fun ok s7 ⟨H7,I7,q7⟩=>?_) (fun _ _ z=>z.elim))
    have again:∀ {s8:Shared} {σ8:St} {H8:Hp} {us8:List Value} {k8:Nat} {ys8:List V},Inv (cxComp X scope N' cl C s₂ H₂ fp) ([(acc,accObj us k)]++pinsAt fp s5.heap) σ8 H8 s8→tn (i+1) s8.heap∧∀ b∈fp,H8 b=none:=fun {s8 σ8 H8 us8 k8 ys8} I8=>
      ⟨T.keep _ _ _ st5 fun b hb o e=>(I8.pin (b,o) (List.mem_append_right _ (List.mem_append_right _ (mem_pinsAt hb e)))).1,fun b hb=>by
        obtain ⟨o,e,d⟩:=T.obj _ _ st5 b hb
        exact (I8.pin (b,o) (List.mem_append_right _ (List.mem_append_right _ (mem_pinsAt hb e)))).2.1⟩
    cases ok with
    | false=>
      rw [if_neg Bool.false_ne_true] at q7
      obtain ⟨m',hm,w7⟩:=q7
      obtain ⟨t1,t2⟩:=again (us8:=us) (k8:=k) (ys8:=ys) I7
      exact wpAny_pure ⟨rfl,m',hm,i+1,ys,us,k,σ6,H7,rv,I7.unpinned,t1,t2,w7⟩
    | true=>
      rw [if_pos rfl] at q7
      refine wpAny_bind (wpAny_bind (wpAny_mono (he _ s7 σ6 H7 _ I7 q7) (fun y s8 ⟨yv,H8,I8,r8,m',hm,w8⟩=>?_) (fun _ _ z=>z.elim)))
      obtain ⟨t1,t2⟩:=again (us8:=us) (k8:=k) (ys8:=ys) I8
      obtain ⟨e8,n8,l8,f8,d8⟩:=I8.pin (acc,accObj us k) (List.mem_append_right _ (List.mem_append_left _ List.mem_cons_self))
      have hlen:=rv.length
      have hz':us.toArray.size≤sizeLine:=by rw [List.size_toArray];omega
      refine wpAny_bind (call_meets PySem.F.slot_list_append ⟨_,e8,rfl⟩ PySem.F.entry_list_append (PySem.F.args_list_append_2 _ _) (PySem.list_append acc us.toArray k y hz') ⟨e8,?_⟩)
      have q:=PySem.IsL.update e8 (fun z=>z.push y)
      have I9:Inv (cxComp X scope N' cl C s₂ H₂ fp) [] σ6 H8 s8:=I8.pins_of fun p hp=>(nomatch hp)
      have I10:=I9.turned (t':=s8.toks) (it:=acc) (h':=s8.heap.update acc (Obj.mapSeq fun z=>z.push y)) (fun b o hb e=>(Heap.get?_update_other s8.heap _ (Ne.symm hb)).trans e) n8 hacc.1 (.inr hacc.2.2.2) hacc.2.2.1 (fun p hp=>(nomatch hp))
      have e':(us.toArray.push y)=(us++[y]).toArray:=by simp
      rw [e'] at q
      obtain ⟨k9,ek⟩:∃ k9,k9=(if ((us++[y]).toArray.size == us.toArray.size)=true then k else k+1):=⟨_,rfl⟩
      rw [← ek] at q
      have I11:=I10.pins_of (pins':=[(acc,accObj (us++[y]) k9)]) fun p hp=>by
        obtain rfl:p=(acc,accObj (us++[y]) k9):=by simpa using hp
        exact ⟨q,n8,hacc.1,hacc.2.1,fun v z=>by cases z⟩
      refine wpAny_pure (wpAny_pure ⟨rfl,m',hm,i+1,ys++[yv],us++[y],k9,σ6,H8,rv.append (.cons r8 .nil),I11,T.keep _ _ _ t1 fun b hb o e=>?_,t2,w8⟩)
      exact (Heap.get?_update_other s8.heap _ (hfp b hb).2.2.2.symm).trans e
def tComp (wi:TI) (g:TG) (tt:TT) (te:TE) (k:Nat) (js:List Nat):TE:=fun σ H Q=>wi σ H fun J H1=>∃ W:Nat→Nat→List V→St→Hp→Prop,(∃ m,W 0 m [] (compSt k js σ) H1)∧
  CTurn J g tt te (fun ys H2=>ys.length≤sizeLine∧∀ p,H2 p=none→Q (.ref p) (upd H2 p (.lst ys))) W
section
variable {X:Cx} {scope:Scope} {own:List Str} {js:List Nat} {N':List Str} {wi:TI} {g:TG} {tt:TT} {te:TE} {elt tg iter:Expr} {ifs:List Expr} {pos:Pos}
theorem comp_run {pins:List (Addr×Obj)} {σ:St} {H:Hp} {s:Shared} {it:Addr} {fp:List Addr} {tn:Nat→Heap→Prop} {J:It} {cl:List (Str×Addr)} {F:List V→Hp→Prop} {E:Value→Shared→Prop} {RR:Value→Addr→Result→Shared→Prop}
    (S:CompScope X scope own js N') (hcalm:X.calm=true) (hg:∀ cl C s₀ H₀ ex,PG (cxComp X scope N' cl C s₀ H₀ ex) tg g) (hc:∀ cl C s₀ H₀ ex,PIfs (cxComp X scope N' cl C s₀ H₀ ex) ifs tt) (he:∀ cl C s₀ H₀ ex,PE (cxComp X scope N' cl C s₀ H₀ ex) elt te)
    (hc1:∀ x c,cl.lookup x=some c→X.env.cells.lookup x=some c) (hc2:∀ x,(x,NameKind.free)∈scope.names→∃ c,cl.lookup x=some c)
    (I:Inv X pins σ H s) (T:Turn X.prog X.w X.K tg J fp it tn) (st:tn 0 s.heap) (hf:∀ b∈fp,FpOk X pins H b) (W:Nat→Nat→List V→St→Hp→Prop) {m0:Nat} (w0:W 0 m0 [] (compSt own.length js σ) H) (turn:CTurn J g tt te F W)
    (hF:∀ ys H',F ys H'→ys.length≤sizeLine)
    (fin:∀ acc C H' ys s' m,Inv X pins σ (upd H' acc (.lst ys)) s'→H' acc=none→s'.heap.Ns C m→(upd H' acc (.lst ys)) C=none→C≠X.env.locals→X.s₀.heap.objs.size≤C→(∀ x c,X.env.cells.lookup x=some c→c≠C)→(∀ p∈X.pn++pins,p.1≠C)→F ys H'→RR (.ref acc) C (.ok .next) s') :
    wpAny (model X.prog X.w) X.A (newList []) (fun acc s₃=>wpAny (model X.prog X.w) X.A (newFunctionEnv scope X.env.globals cl [] X.env.qual none .none (some X.env)) (fun cenv s₄=>
      codeAny (model X.prog X.w) X.A (.compStart (.ListComp elt [⟨tg,iter,ifs,0⟩] scope pos) 0 (.ref it) acc { cenv with scope:=relabel scope X.env }) (RR acc cenv.locals) s₄) E s₃) E s:=by
  refine wpAny_newObj_type (wpAny_newFunctionEnv S.nocell (by intro y hy;simp at hy) (fun h₁ hns₁ hsb₁=>?_) S.kind)
  dsimp only at hns₁ hsb₁ ⊢
  generalize hH2:s.heap.push { cls:=.type "list",dict:=none,data:=.seq ([]:List Value).toArray }=H2 at hns₁ hsb₁ ⊢
  have hC:H2.objs.size=s.heap.objs.size+1:=by rw [← hH2,Heap.size_push]
  have hDC:s.heap.objs.size≠H2.objs.size:=by rw [hC];exact Nat.ne_of_lt (Nat.lt_succ_self _)
  have hCle:s.heap.objs.size≤H2.objs.size:=by rw [hC];exact Nat.le_succ _
  have below:∀ b,b<s.heap.objs.size→b≠H2.objs.size∧b≠s.heap.objs.size:=fun b hb=>⟨by rw [hC];exact Nat.ne_of_lt (Nat.lt_succ_of_lt hb),Nat.ne_of_lt hb⟩
  have old:∀ b o,s.heap.get? b=some o→h₁.get? b=some o:=fun b o e=>hsb₁.extBut b o (below b (Heap.lt_size e)).1 (Heap.get?_push_of_some _ (hH2 ▸ Heap.get?_push_of_some _ e))
  have hacc:h₁.get? s.heap.objs.size=some (accObj [] 0):=hsb₁.extBut _ _ hDC (Heap.get?_push_of_some _ (hH2 ▸ Heap.get?_push_size _ rfl))
  generalize hCn:H2.objs.size=C at *
  generalize hAn:s.heap.objs.size=acc at *
  have cellLt:∀ x c,X.env.cells.lookup x=some c→c<acc:=fun x c e=>by
    obtain ⟨v,q⟩:=I.cell x c e
    rw [← hAn];exact q.lt
  have pinLt:∀ p∈X.pn++pins,p.1<acc:=fun p hp=>by rw [← hAn];exact Heap.lt_size (I.pin p hp).1
  have stkLt:∀ b∈frs X.stack,b<acc:=fun b hb=>by
    obtain ⟨_,o,ho,_⟩:=I.stack.mem hb
    rw [← hAn];exact Heap.lt_size ho
  have fpLt:∀ b∈fp,b<acc:=fun b hb=>by
    obtain ⟨o,e,_⟩:=T.obj _ _ st b hb
    rw [← hAn];exact Heap.lt_size e
  have hHC:H C=none:=I.hok.fresh (by rw [hAn];exact hCle)
  have hHA:H acc=none:=I.hok.fresh (by rw [hAn];exact Nat.le_refl _)
  have I1:Inv (cxComp X scope N' cl C s H fp) [] (compSt own.length js σ) H { s with heap:=h₁,toks:=s.toks+([]:List (Str×Value)).length }:=
    Inv.comp S I hc1 hc2 (by rw [hAn];exact hCle) hns₁ old (fun b hb=>⟨hf b hb,by rw [hAn];exact fpLt b hb⟩) hHC fun b o e=>(below b (by rw [← hAn];exact Heap.lt_size e)).1
  have I2:Inv (cxComp X scope N' cl C s H fp) [(acc,accObj [] 0)] (compSt own.length js σ) H { s with heap:=h₁,toks:=s.toks+([]:List (Str×Value)).length }:=I1.pins_of fun p hp=>by
    obtain rfl:p=(acc,accObj [] 0):=by simpa using hp
    exact ⟨hacc,hHA,hDC,fun z=>absurd (stkLt acc z) (Nat.lt_irrefl _),fun v z=>by cases z⟩
  have st1:tn 0 h₁:=T.keep _ _ _ st fun b hb o e=>old b o e
  have loop:∀ s₃:Shared,s₃={ s with heap:=h₁,toks:=s.toks+([]:List (Str×Value)).length }→
      codeAny (model X.prog X.w) X.A (.compLoop (.ListComp elt [⟨tg,iter,ifs,0⟩] scope pos) 0 (.ref it) (.ref acc) (compEnvC scope cl C X.env)) (RR (.ref acc) C) s₃:=by
    rintro s₃ rfl
    refine comp_loop W turn T (hg _ _ _ _ _) (hc _ _ _ _ _) (he _ _ _ _ _) hcalm
      (fun b hb=>⟨(below b (fpLt b hb)).1,fun z=>?_,fun x c e z=>(hf b hb).2.2.2.2.1 x c (hc1 x c e) z,(below b (fpLt b hb)).2⟩)
      ⟨hDC,fun z=>absurd (stkLt acc z) (Nat.lt_irrefl _),fun x c e z=>absurd (cellLt x c (hc1 x c e)) (by rw [z];exact Nat.lt_irrefl _),by rw [hAn];exact Nat.le_refl _⟩ ?_ I2 st1 (fun b hb=>(hf b hb).1) w0
    · rcases List.mem_cons.mp (I.stkSub b z) with q|q
      · exact (hf b hb).2.1 q
      · exact (hf b hb).2.2.1 q
    · intro s' σ' H' ys us k J' rv q
      obtain ⟨e',n',l',f',d'⟩:=J'.pin (acc,accObj us k) (List.mem_append_right _ List.mem_cons_self)
      have n'':H' acc=none:=n'
      obtain ⟨m,hm,_⟩:=J'.loc
      have oldLt:∀ b o,s.heap.get? b=some o→b<acc:=fun b o e=>by rw [← hAn];exact Heap.lt_size e
      have neA:∀ b o,s.heap.get? b=some o→b≠acc:=fun b o e=>Nat.ne_of_lt (oldLt b o e)
      have un:Un (frs X.stack) fp H (upd H' acc (.lst ys)) s.heap s'.heap:=⟨J'.base.keep,J'.base.slot,fun b o e n hx=>by rw [upd_ne (neA b o e)];exact J'.base.free b o e n hx,J'.base.there,
        fun b xs e=>by
          have z:=J'.base.tups b xs e
          rw [upd_ne (ne_of_none z n'')];exact z,
        fun b o u e=>by
          have z:=J'.base.frzs b o u e
          rw [upd_ne (ne_of_none z n'')];exact z,
        fun b ps e=>by
          obtain ⟨more,z⟩:=J'.base.tbls b ps e
          exact ⟨more,by rw [upd_ne (ne_of_none z n'')];exact z⟩⟩
      have hok:HOk X.prog X.w (upd H' acc (.lst ys)) s'.heap:=fun b u e=>by
        by_cases hb:b=acc
        · subst hb
          rw [upd_same] at e;cases e
          exact ⟨hF _ _ q,us,k,rv,e'⟩
        · rw [upd_ne hb] at e
          exact (J'.hok b u e).stay (fun c v _ z=>z) (fun c z=>by rw [upd_ne (ne_of_none z n'')];exact z) fun c xs z=>by rw [upd_ne (ne_of_none z n'')];exact z
      have IX:Inv X pins σ (upd H' acc (.lst ys)) s':=I.call' J'.os un hok J'.bare fun b hb=>⟨(hf b hb).2.2.2.1,(hf b hb).2.1,(hf b hb).2.2.2.2.1,(hf b hb).2.2.2.2.2⟩
      refine fin acc C H' ys s' m IX n'' hm ?_ ?_ ?_ ?_ ?_ q
      · rw [upd_ne (Ne.symm hDC)];exact J'.free
      · exact Nat.ne_of_gt (Nat.lt_of_lt_of_le I.lt (by rw [hAn];exact hCle))
      · exact Nat.le_trans I.sz (by rw [hAn];exact hCle)
      · exact fun x c e z=>absurd (Nat.lt_of_lt_of_le (cellLt x c e) hCle) (by rw [z];exact Nat.lt_irrefl _)
      · exact fun p hp z=>absurd (Nat.lt_of_lt_of_le (pinLt p hp) hCle) (by rw [z];exact Nat.lt_irrefl _)
  exact codeAny_compStart_list (loop _ rfl) (T.self _ 0 _ _ _ st1 (loop _ rfl))
theorem pe_comp (S:CompScope X scope own js N') (hcalm:X.calm=true) (hi:PI X tg iter wi) (hg:∀ cl C s₀ H₀ ex,PG (cxComp X scope N' cl C s₀ H₀ ex) tg g) (hc:∀ cl C s₀ H₀ ex,PIfs (cxComp X scope N' cl C s₀ H₀ ex) ifs tt)
    (he:∀ cl C s₀ H₀ ex,PE (cxComp X scope N' cl C s₀ H₀ ex) elt te) (hs:∀ x,foldedSetIterable iter X.env x=pure x:=by intro _;rfl):PE X (.ListComp elt [⟨tg,iter,ifs,0⟩] scope pos) (tComp wi g tt te own.length js):=by
  intro pins s σ H Q I h
  obtain ⟨cl,hcl,hc1,hc2⟩:=closure_ok (env:=X.env) scope fun y hy hk=>I.ok.has y.1 (S.free y hy hk)
  rw [eval_ListComp]
  refine wpAny_comprehension_free (use:=none) rfl hs hcl S.kind S.names (thn (hi pins s σ H _ I h) fun v s1 h1=>thn h1 fun itv s2 h2=>?_)
  obtain ⟨it,fp,tn,J,H2,e,I2,T,st2,f2,W,⟨m0,w0⟩,turn⟩:=h2
  subst e
  refine comp_run (RR:=fun acc C=>compPost (model X.prog X.w) X.A X.xe none (EP X pins σ Q) acc C) S hcalm hg hc he hc1 hc2 I2 T st2 f2 W w0 turn (fun ys H' q=>q.1) ?_
  intro acc C H' ys s' m IX na hm hCn hL hz hcn hpn q
  refine ⟨m,hm,fun h' hs'=>⟨.ref acc,_,?_,rfl,q.2 acc na⟩⟩
  exact IX.turned (t':=s'.toks) (it:=C) (fun b o hb e=>(hs'.2 b hb).trans e) hCn hL (.inr hz) hcn hpn
theorem ps_setComp {i:Nat} {x:Str} {pos' spos:Pos} (S:CompScope X scope own js N') (hcalm:X.calm=true) (hN:X.N.Nodup) (hx:X.N[i]?=some x) (hk:X.env.scope.names.lookup x=some .local) (hi:PI X tg iter wi) (hg:∀ cl C s₀ H₀ ex,PG (cxComp X scope N' cl C s₀ H₀ ex) tg g) (hc:∀ cl C s₀ H₀ ex,PIfs (cxComp X scope N' cl C s₀ H₀ ex) ifs tt)
    (he:∀ cl C s₀ H₀ ex,PE (cxComp X scope N' cl C s₀ H₀ ex) elt te) (hsw:swapsWith (.ListComp elt [⟨tg,iter,ifs,0⟩] scope pos) (some (.Name x pos')) spos.line X.env=pure true:=by rfl) (hs:∀ x,foldedSetIterable iter X.env x=pure x:=by intro _;rfl) :
    PS X (.Assign [.Name x pos'] (.ListComp elt [⟨tg,iter,ifs,0⟩] scope pos) spos) (tAsg (tComp wi g tt te own.length js) (gName i)):=by
  intro pins s σ H D I h
  obtain ⟨cl,hcl,hc1,hc2⟩:=closure_ok (env:=X.env) scope fun y hy hk=>I.ok.has y.1 (S.free y hy hk)
  rw [exec_Assign_Name_used _ _ _ _ hsw]
  refine wpAny_bind (wpAny_standAt (wpAny_bind ?_))
  show wpAny _ X.A (do let _ ← comprehension (.ListComp elt [⟨tg,iter,ifs,0⟩] scope pos) scope X.env _ (newList []) false (eval iter X.env) (some (assign (.Name x pos') X.env))) _ _ s
  refine wpAny_bind (wpAny_mono (wpAny_comprehension_free (use:=some (assign (.Name x pos') X.env)) (Q:=fun _ s'=>SP X pins D .next s') rfl hs hcl S.kind S.names
    (thn (hi pins s σ H _ I h) fun v s1 h1=>thn h1 fun itv s2 h2=>?_)) (fun _ s' hq=>wpAny_pure (wpAny_pure hq)) fun _ _ e=>e)
  obtain ⟨it,fp,tn,J,H2,e,I2,T,st2,f2,W,⟨m0,w0⟩,turn⟩:=h2
  subst e
  refine comp_run (RR:=fun acc C=>compPost (model X.prog X.w) X.A X.xe (some (assign (.Name x pos') X.env)) (fun _ s'=>SP X pins D .next s') acc C) S hcalm hg hc he hc1 hc2 I2 T st2 f2 W w0 turn (fun ys H' q=>q.1) ?_
  intro acc C H' ys s' m IX na hm hCn hL hz hcn hpn q
  show wpAny _ X.A (assign (.Name x pos') X.env (.ref acc)) _ _ s'
  refine wpAny_assign_Name (store_ok2 IX hN hx (.inl hk) (v:=.ref acc) rfl (fun s'' I'' hsb=>?_) (.inr hk))
  obtain ⟨a,hsb,ha⟩:=hsb
  have haC:C≠a:=by
    rcases ha with z|z
    · rw [z];exact hL
    · exact fun q=>hcn x a z q.symm
  refine ⟨m,hm.sameBut hsb haC,fun h' hs'=>⟨_,_,?_,q.2 acc na⟩⟩
  exact I''.turned (t':=s''.toks) (it:=C) (fun b o hb e=>(hs'.2 b hb).trans e) hCn hL (.inr hz) hcn hpn
end
end L2
namespace L2
open PySem PySem.Spec PyProof.Rows
section
variable {X:Cx}
def CDivW (i j:Int):Prop:=0<j∧j<340282366920938463463374607431768211456
theorem op_fdivW:OpR X (binaryOp .FloorDiv) (rI CDivW fun i j=>.int (i / j)):=opI fun i j _ _ _ _ _ hc q=>by
  rw [← Int.fdiv_eq_ediv_of_nonneg i (Int.le_of_lt hc.1)] at q
  have h1:(0:Int)<j:=hc.1
  have h2:j<340282366920938463463374607431768211456:=hc.2
  have hb:j.natAbs<340282366920938463463374607431768211456:=by omega
  have he:(2:Nat) ^ 128=340282366920938463463374607431768211456:=by decide +kernel
  have hl:j.natAbs.log2<128:=(Nat.log2_lt (by omega)).mpr (Nat.lt_of_lt_of_eq hb he.symm)
  exact floordiv_int (by have:=hc.1;omega) q (.inl (PyProof.noPylong_of_log2 (by omega)))
theorem comp_range {lo:Int} {n:Nat} {g:TG} {te:TE} {F:List V→Hp→Prop} {σ0:St} {H0:Hp} (Pv:Nat→List V→St→Hp→Prop) (hn:n≤sizeLine) (h0:Pv 0 [] σ0 H0)
    (hs:∀ i ys σ H,i<n→ys.length=i→Pv i ys σ H→∀ N:List V→St→Hp→Prop,(∀ ys' σ' H',ys'.length=i+1→Pv (i+1) ys' σ' H'→N ys' σ' H')→g (.int (lo+i)) σ H fun σ2 H2=>te σ2 H2 fun y H3=>N (ys++[y]) σ2 H3)
    (hd:∀ ys σ H,ys.length=n→Pv n ys σ H→F ys H) :
    ∃ W:Nat→Nat→List V→St→Hp→Prop,(∃ m,W 0 m [] σ0 H0)∧CTurn (Itr lo n) g tYes te F W:=by
  refine ⟨fun i m ys σ H=>m=n-i∧i≤n∧ys.length=i∧Pv i ys σ H,⟨n,by simp,Nat.zero_le _,rfl,h0⟩,?_⟩
  rintro i m ys σ H ⟨rfl,hi,hl,p⟩
  by_cases hlt:i<n
  · refine .inr ⟨hlt,by omega,fun x H' y=>?_⟩
    obtain ⟨e,y⟩:=y
    subst e y
    exact hs i ys σ _ hlt hl p (fun ys' σ' H'=>∃ m',m'<n-i∧m'=n-(i+1)∧i+1≤n∧ys'.length=i+1∧Pv (i+1) ys' σ' H') fun ys' σ' H' hl' q=>⟨n-(i+1),by omega,rfl,hlt,hl',q⟩
  · have e:i=n:=by omega
    subst e
    exact .inl ⟨Nat.le_refl _,hd ys σ H hl p⟩
theorem comp_list {K:PySem.W.Frag} {a:Addr} {xs:List V} {g:TG} {te:TE} {F:List V→Hp→Prop} {σ0:St} {H0:Hp} (Pv:Nat→List V→St→Hp→Prop) (hn:xs.length≤sizeLine) (h0:Pv 0 [] σ0 H0) (hq:∀ i ys σ H,i≤xs.length→Pv i ys σ H→SqL K H a xs)
    (hs:∀ i x ys σ H,xs[i]?=some x→ys.length=i→Pv i ys σ H→∀ N:List V→St→Hp→Prop,(∀ ys' σ' H',ys'.length=i+1→Pv (i+1) ys' σ' H'→N ys' σ' H')→g x σ H fun σ2 H2=>te σ2 H2 fun y H3=>N (ys++[y]) σ2 H3)
    (hd:∀ ys σ H,ys.length=xs.length→Pv xs.length ys σ H→F ys H) :
    ∃ W:Nat→Nat→List V→St→Hp→Prop,(∃ m,W 0 m [] σ0 H0)∧CTurn (Itl K a) g tYes te F W:=by
  refine ⟨fun i m ys σ H=>m=xs.length-i∧i≤xs.length∧ys.length=i∧Pv i ys σ H,⟨xs.length,by simp,Nat.zero_le _,rfl,h0⟩,?_⟩
  rintro i m ys σ H ⟨rfl,hi,hl,p⟩
  have q:=hq i ys σ H hi p
  by_cases hlt:i<xs.length
  · refine .inr ⟨⟨xs,xs[i],q,by simp [hlt]⟩,by omega,fun x H' y=>?_⟩
    obtain ⟨e,y⟩:=y
    subst e
    exact hs i x ys σ _ (y xs q) hl p (fun ys' σ' H'=>∃ m',m'<xs.length-i∧m'=xs.length-(i+1)∧i+1≤xs.length∧ys'.length=i+1∧Pv (i+1) ys' σ' H') fun ys' σ' H' hl' q=>⟨xs.length-(i+1),by omega,rfl,hlt,hl',q⟩
  · have e:i=xs.length:=by omega
    subst e
    exact .inl ⟨⟨xs,q,Nat.le_refl _⟩,hd ys σ H hl p⟩
structure Def (K:PySem.W.Frag) (mg:Str→Option Value) (x:Str) (st:Stmt) (ps:List Str) (f:Addr) (fd:FuncData):Prop where
  F:Fun K x x st f fd
  mg:mg x=some (.ref f)
  b:Binds K fd ps []
def But (p:Addr) (H H':Hp):Prop:=∀ b o,H b=some o→b≠p→H' b=some o
theorem But.refl {p:Addr} {H:Hp}:But p H H:=fun _ _ h _=>h
theorem But.trans {p:Addr} {H H1 H2:Hp} (a:But p H H1) (b:But p H1 H2):But p H H2:=fun c o h hc=>b c o (a c o h hc) hc
theorem But.upd {p:Addr} {H:Hp} {o:HO}:But p H (upd H p o):=fun b u h hb=>by rw [upd_ne hb];exact h
theorem But.new {p q:Addr} {H:Hp} {o:HO} (h:H q=none):But p H (L2.upd H q o):=fun b u e _=>by rw [upd_ne (ne_of_none e h)];exact e
end
theorem seq_by {t u:TS} {D:Ends} {σ:St} {H:Hp} (M:St→Hp→Prop) (h2:∀ σ' H',M σ' H'→u D σ' H') (h1:∀ N:St→Hp→Prop,(∀ σ' H',M σ' H'→N σ' H')→t { D with nx:=N } σ H):tSeq t u D σ H:=h1 (u D) h2
theorem Same.new {H:Hp} {q:Addr} {o:HO} (h:H q=none):Same H (upd H q o):=fun b u e=>by rw [upd_ne (ne_of_none e h)];exact e
theorem Same.but {H H':Hp} {p:Addr} (h:Same H H'):But p H H':=fun b o e _=>h b o e
theorem Same.tup {K:PySem.W.Frag} {H H':Hp} {a:Addr} {xs:List V} (e:Same H H') (h:SqT K H a xs):SqT K H' a xs:=by
  rcases h with (h|⟨o,h⟩)|h
  · exact .inl (.inl (e _ _ h))
  · exact .inl (.inr ⟨o,e _ _ h⟩)
  · exact .inr h
theorem bt_len:bootBuiltins "len" = some (.builtin "len"):=by decide +kernel
theorem bt_list:bootBuiltins "list" = some (.type "list"):=by decide +kernel
theorem bt_tuple:bootBuiltins "tuple" = some (.type "tuple"):=by decide +kernel
theorem bt_str:bootBuiltins "str" = some (.type "str"):=by decide +kernel
theorem bt_int:bootBuiltins "int" = some (.type "int"):=by decide +kernel
theorem bt_bool:bootBuiltins "bool" = some (.type "bool"):=by decide +kernel
theorem bt_max:bootBuiltins "max" = some (.builtin "max"):=by decide +kernel
theorem bt_all:bootBuiltins "all" = some (.builtin "all"):=by decide +kernel
theorem bt_isinstance:bootBuiltins "isinstance" = some (.builtin "isinstance"):=by decide +kernel
theorem bt_sorted:bootBuiltins "sorted" = some (.builtin "sorted"):=by decide +kernel
end L2
namespace L2
open PySem PySem.Spec PyProof.Rows PySem.SeqAt
mutual
inductive Rep (K:PySem.W.Frag) (H:Hp):V→PyData→Prop
  |non:Rep K H .non .none
  |bl (b:Bool):Rep K H (.bl b) (.bool b)
  |int (i:Int):Rep K H (.int i) (.int i)
  |str (x:Str):Rep K H (.str x) (.str x)
  |tup {a:Addr} {xs:List V} {ds:List PyData}:SqT K H a xs→Reps K H xs ds→Rep K H (.ref a) (.tuple ds)
  |lst {a:Addr} {xs:List V} {ds:List PyData}:SqL K H a xs→Reps K H xs ds→Rep K H (.ref a) (.list ds)
inductive Reps (K:PySem.W.Frag) (H:Hp):List V→List PyData→Prop
  |nil:Reps K H [] []
  |cons {x:V} {d:PyData} {xs:List V} {ds:List PyData}:Rep K H x d→Reps K H xs ds→Reps K H (x::xs) (d::ds)
end
section
variable {K:PySem.W.Frag} {H H':Hp}
theorem Reps.length:∀ {xs:List V} {ds:List PyData},Reps K H xs ds→xs.length=ds.length
  |_,_,.nil=>rfl
  |_,_,.cons _ t=>by rw [List.length_cons,List.length_cons,Reps.length t]
mutual
theorem Rep.map (f1:∀ a xs,SqT K H a xs→SqT K H' a xs) (f2:∀ a xs,SqL K H a xs→SqL K H' a xs):∀ {v:V} {d:PyData},Rep K H v d→Rep K H' v d
  |_,_,.non=>.non
  |_,_,.bl b=>.bl b
  |_,_,.int i=>.int i
  |_,_,.str x=>.str x
  |_,_,.tup h r=>.tup (f1 _ _ h) (Reps.map f1 f2 r)
  |_,_,.lst h r=>.lst (f2 _ _ h) (Reps.map f1 f2 r)
theorem Reps.map (f1:∀ a xs,SqT K H a xs→SqT K H' a xs) (f2:∀ a xs,SqL K H a xs→SqL K H' a xs):∀ {v:List V} {d:List PyData},Reps K H v d→Reps K H' v d
  |_,_,.nil=>.nil
  |_,_,.cons h r=>.cons (Rep.map f1 f2 h) (Reps.map f1 f2 r)
end
theorem Rep.same {v:V} {d:PyData} (h:Rep K H v d) (e:Same H H'):Rep K H' v d:=h.map (fun _ _ z=>e.tup z) (fun _ _ z=>e.seq z)
theorem Reps.same {v:List V} {d:List PyData} (h:Reps K H v d) (e:Same H H'):Reps K H' v d:=h.map (fun _ _ z=>e.tup z) (fun _ _ z=>e.seq z)
theorem But.seq {p a:Addr} {xs:List V} {kvs:List (Key×V)} (e:But p H H') (hp:H p=some (.dK kvs)) (h:SqL K H a xs):SqL K H' a xs:=by
  rcases h with (h|⟨o,h⟩)|h
  · exact .inl (.inl (e _ _ h (ne_of h hp (by intro z;cases z))))
  · exact .inl (.inr ⟨o,e _ _ h (ne_of h hp (by intro z;cases z))⟩)
  · exact .inr h
theorem But.tup {p a:Addr} {xs:List V} {kvs:List (Key×V)} (e:But p H H') (hp:H p=some (.dK kvs)) (h:SqT K H a xs):SqT K H' a xs:=by
  rcases h with (h|⟨o,h⟩)|h
  · exact .inl (.inl (e _ _ h (ne_of h hp (by intro z;cases z))))
  · exact .inl (.inr ⟨o,e _ _ h (ne_of h hp (by intro z;cases z))⟩)
  · exact .inr h
theorem Reps.get':∀ {xs:List V} {ds:List PyData} {i:Nat} {x:V},Reps K H xs ds→xs[i]?=some x→∃ d,ds[i]?=some d∧Rep K H x d
  |_,_,_,_,.nil,e=>by simp at e
  |_,_,0,_,.cons r _,e=>by simp at e;subst e;exact ⟨_,rfl,r⟩
  | _,_,i+1,d,.cons _ t,e=>by
    obtain ⟨u,h1,h2⟩:=Reps.get' (i:=i) (x:=d) t (by simpa using e)
    exact ⟨u,by simpa using h1,h2⟩
end
section
variable {X:Cx} {pins:List (Addr×Obj)} {σ:St} {H:Hp} {s:Shared}
end
mutual
def pdEq:PyData→PyData→Bool
  |.none,.none=>true
  |.bool a,.bool b=>a == b
  |.bool a,.int b=>(if a then 1 else 0) == b
  |.int a,.bool b=>a == (if b then 1 else 0)
  |.int a,.int b=>a == b
  |.str a,.str b=>a == b
  |.tuple a,.tuple b=>pdEqs a b
  |.list a,.list b=>pdEqs a b
  |_,_=>false
def pdEqs:List PyData→List PyData→Bool
  |[],[]=>true
  |a::r,b::t=>pdEq a b && pdEqs r t
  |_,_=>false
end
theorem pdEqs_iff:∀ (ds es:List PyData),pdEqs ds es=((List.range (min ds.length es.length)).all (fun j=>pdEq (ds.getD j .none) (es.getD j .none)) && ds.length == es.length)
  |[],[]=>by simp [pdEqs]
  |[],_::_=>by simp [pdEqs]
  |_::_,[]=>by simp [pdEqs]
  | a::r,b::t=>by
    rw [pdEqs,pdEqs_iff r t,List.length_cons,List.length_cons,Nat.succ_min_succ,List.range_succ_eq_map,List.all_cons,List.all_map]
    simp only [List.getD_cons_zero,Bool.and_assoc]
    congr 1
    have e:(r.length+1 == t.length+1)=(r.length == t.length):=by
      rw [Bool.eq_iff_iff];simp
    rw [e]
    congr 1
end L2
namespace L2
open PySem PySem.Spec PyProof.Rows PySem.SeqAt
mutual
def pdDep:PyData→Nat
  |.tuple xs=>pdDeps xs+1
  |.list xs=>pdDeps xs+1
  |_=>0
def pdDeps:List PyData→Nat
  |[]=>0
  |d::r=>max (pdDep d) (pdDeps r)
end
section
variable {X:Cx} {pins:List (Addr×Obj)} {σ:St} {H:Hp} {s:Shared}
mutual
theorem Rep.fn (I:Inv X pins σ H s):∀ {v:V} {d e:PyData} {u:Value},Rep X.K H v d→Rep X.K H v e→RelV v u→d=e∧pdEq d d=true
  |_,_,_,_,.non,.non,_=>⟨rfl,rfl⟩
  |_,_,_,_,.bl b,.bl _,_=>⟨rfl,by simp [pdEq]⟩
  |_,_,_,_,.int i,.int _,_=>⟨rfl,by simp [pdEq]⟩
  |_,_,_,_,.str x,.str _,_=>⟨rfl,by simp [pdEq]⟩
  | _,_,_,_,.tup h1 r1,.tup h2 r2,r=>by
    have e:=I.tuple_inj h1 h2
    subst e
    obtain ⟨its,rv,_,_⟩:=I.tuple h1
    obtain ⟨e,q⟩:=Reps.fn I r1 r2 rv
    exact ⟨by rw [e],q⟩
  | _,_,_,_,.lst h1 r1,.lst h2 r2,r=>by
    have e:=I.list_inj h1 h2
    subst e
    obtain ⟨its,rv,_,_⟩:=I.list h1
    obtain ⟨e,q⟩:=Reps.fn I r1 r2 rv
    exact ⟨by rw [e],q⟩
  | _,_,_,_,.tup h1 _,.lst h2 _,r=>by
    obtain ⟨_,_,⟨o,e1,c1,_⟩,_⟩:=I.tuple h1
    obtain ⟨_,_,⟨o',n,e2,c2,_⟩,_⟩:=I.list h2
    rw [e1] at e2;cases e2
    rw [c1] at c2;injection c2 with z;exact absurd z (by decide)
  | _,_,_,_,.lst h2 _,.tup h1 _,r=>by
    obtain ⟨_,_,⟨o,e1,c1,_⟩,_⟩:=I.tuple h1
    obtain ⟨_,_,⟨o',n,e2,c2,_⟩,_⟩:=I.list h2
    rw [e1] at e2;cases e2
    rw [c1] at c2;injection c2 with z;exact absurd z (by decide)
theorem Reps.fn (I:Inv X pins σ H s):∀ {v:List V} {d e:List PyData} {u:List Value},Reps X.K H v d→Reps X.K H v e→Vals v u→d=e∧pdEqs d d=true
  |_,_,_,_,.nil,.nil,_=>⟨rfl,rfl⟩
  | _,_,_,_,.cons a b,.cons c d,.cons r rs=>by
    obtain ⟨e1,q1⟩:=Rep.fn I a c r
    obtain ⟨e2,q2⟩:=Reps.fn I b d rs
    exact ⟨by rw [e1,e2],by simp [pdEqs,q1,q2]⟩
end
theorem allEq {vs ws:List V} {ds es:List PyData} {us xs:List Value} {A:Around} (rs1:Reps X.K H vs ds) (rs2:Reps X.K H ws es) (rv1:Vals vs us) (rv2:Vals ws xs) :
    ((List.range (min us.toArray.size xs.toArray.size)).all (fun j=>pdEq (ds.getD j .none) (es.getD j .none)) && us.toArray.size == xs.toArray.size)=pdEqs ds es:=by
  rw [pdEqs_iff,List.size_toArray,List.size_toArray,← rv1.length,← rv2.length,rs1.length,rs2.length]
theorem rcT {l b:Addr} {vs ws:List V} {ds es:List PyData} {us xs:List Value} {A:Around} (rs1:Reps X.K H vs ds) (rs2:Reps X.K H ws es) (rv1:Vals vs us) (rv2:Vals ws xs) (p1:IsTup s.heap l us.toArray) (p2:IsTup s.heap b xs.toArray) (hu:A.units<cLine)
    (he:∀ j (h1:j<us.length) (h2:j<xs.length),EqAt A.in1 s us[j] xs[j] (pdEq (ds.getD j .none) (es.getD j .none))):RcAt A s (.ref l) (.ref b) (pdEq (.tuple ds) (.tuple es)):=by
  show RcAt A s (.ref l) (.ref b) (pdEqs ds es)
  rw [← allEq (A:=A) rs1 rs2 rv1 rv2]
  exact RcAt.tuples (show s.heap.IsTuple l us.toArray from p1) (show s.heap.IsTuple b xs.toArray from p2) hu fun j h1 h2=>by simpa using he j (by simpa using h1) (by simpa using h2)
theorem rcL {l b:Addr} {vs ws:List V} {ds es:List PyData} {us xs:List Value} {A:Around} (rs1:Reps X.K H vs ds) (rs2:Reps X.K H ws es) (rv1:Vals vs us) (rv2:Vals ws xs) (p1:s.heap.IsList l us.toArray) (p2:s.heap.IsList b xs.toArray) (hu:A.units<cLine)
    (he:∀ j (h1:j<us.length) (h2:j<xs.length),EqAt A.in1 s us[j] xs[j] (pdEq (ds.getD j .none) (es.getD j .none))):RcAt A s (.ref l) (.ref b) (pdEq (.list ds) (.list es)):=by
  show RcAt A s (.ref l) (.ref b) (pdEqs ds es)
  have q:=allEq (A:=A) rs1 rs2 rv1 rv2
  by_cases hz:us.toArray.size=xs.toArray.size
  · rw [← q,hz,Nat.min_self,beq_self_eq_true,Bool.and_true,← hz]
    exact RcAt.lists p1 p2 hz hu fun j h1 h2=>by simpa using he j (by simpa using h1) (by simpa using h2)
  · have e:pdEqs ds es=false:=by
      rw [← q]
      have:(us.toArray.size == xs.toArray.size)=false:=by simpa using hz
      rw [this,Bool.and_false]
    rw [e]
    exact RcAt.lists_lengths p1 p2 (by simpa using hz) hu
theorem eqT (I:Inv X pins σ H s) {l b:Addr} {vs ws:List V} {ds es:List PyData} {us xs:List Value} {A:Around} (h1:SqT X.K H l vs) (h2:SqT X.K H b ws) (rs1:Reps X.K H vs ds) (rs2:Reps X.K H ws es) (rv1:Vals vs us) (rv2:Vals ws xs) (p1:IsTup s.heap l us.toArray) (p2:IsTup s.heap b xs.toArray) (hu:A.units<cLine)
    (he:∀ j (h1:j<us.length) (h2:j<xs.length),EqAt A.in1 s us[j] xs[j] (pdEq (ds.getD j .none) (es.getD j .none))):EqAt A s (.ref l) (.ref b) (pdEq (.tuple ds) (.tuple es)):=by
  by_cases hlb:l=b
  · subst hlb
    obtain ⟨e,q⟩:=Rep.fn I (.tup h1 rs1) (.tup h2 rs2) (u:=.ref l) rfl
    rw [← e,q]
    exact EqAt.same _
  · exact EqAt.of_refs hlb (rcT rs1 rs2 rv1 rv2 p1 p2 hu he)
theorem eqL (I:Inv X pins σ H s) {l b:Addr} {vs ws:List V} {ds es:List PyData} {us xs:List Value} {A:Around} (h1:SqL X.K H l vs) (h2:SqL X.K H b ws) (rs1:Reps X.K H vs ds) (rs2:Reps X.K H ws es) (rv1:Vals vs us) (rv2:Vals ws xs) (p1:s.heap.IsList l us.toArray) (p2:s.heap.IsList b xs.toArray) (hu:A.units<cLine)
    (he:∀ j (h1:j<us.length) (h2:j<xs.length),EqAt A.in1 s us[j] xs[j] (pdEq (ds.getD j .none) (es.getD j .none))):EqAt A s (.ref l) (.ref b) (pdEq (.list ds) (.list es)):=by
  by_cases hlb:l=b
  · subst hlb
    obtain ⟨e,q⟩:=Rep.fn I (.lst h1 rs1) (.lst h2 rs2) (u:=.ref l) rfl
    rw [← e,q]
    exact EqAt.same _
  · exact EqAt.of_refs hlb (rcL rs1 rs2 rv1 rv2 p1 p2 hu he)
theorem hu00 {A:Around} {n:Nat} (h:A.units+n<cLine):A.units<cLine:=by omega
theorem hu0 {A:Around} {n:Nat} (h:A.units+(n+1)<cLine):A.units<cLine:=by omega
theorem hu1 {A:Around} {n:Nat} (h:A.units+(n+1)<cLine):A.in1.units+n<cLine:=by show A.units+1+n<cLine;omega
mutual
theorem eq_at (I:Inv X pins σ H s):∀ {v w:V} {d e:PyData} {u x:Value} {A:Around},Rep X.K H v d→Rep X.K H w e→RelV v u→RelV w x→A.units+pdDep d<cLine→EqAt A s u x (pdEq d e)
  | _,_,_,_,u,x,A,.non,.non,r1,r2,hu=>by
    cases (show u=Value.none from r1)
    cases (show x=Value.none from r2)
    exact EqAt.same _
  | _,_,_,_,u,x,A,.non,.bl b2,r1,r2,hu=>by
    cases (show u=Value.none from r1)
    cases (show x=Value.bool b2 from r2)
    exact EqAt.none_bool b2
  | _,_,_,_,u,x,A,.non,.int i2,r1,r2,hu=>by
    cases (show u=Value.none from r1)
    obtain ⟨t2,e2⟩:=(show ∃ t,x=Value.int i2 t from r2);subst e2
    exact EqAt.none_int i2 t2
  | _,_,_,_,u,x,A,.non,.str y2,r1,r2,hu=>by
    cases (show u=Value.none from r1)
    obtain ⟨t2,e2⟩:=(show ∃ t,x=Value.str y2 t from r2);subst e2
    exact EqAt.none_str y2 t2
  | _,_,_,_,u,x,A,.non,.lst h2 rs2,r1,r2,hu=>by
    cases (show u=Value.none from r1)
    cases (show x=Value.ref _ from r2);obtain ⟨its2,rv2,p2,_⟩:=I.list h2
    exact EqAt.none_list p2.isList (hu00 hu)
  | _,_,_,_,u,x,A,.non,.tup h2 rs2,r1,r2,hu=>by
    cases (show u=Value.none from r1)
    cases (show x=Value.ref _ from r2);obtain ⟨its2,rv2,p2,_⟩:=I.tuple h2
    exact EqAt.none_tuple p2 (hu00 hu)
  | _,_,_,_,u,x,A,.bl b1,.non,r1,r2,hu=>by
    cases (show u=Value.bool b1 from r1)
    cases (show x=Value.none from r2)
    exact EqAt.bool_none b1
  | _,_,_,_,u,x,A,.bl b1,.bl b2,r1,r2,hu=>by
    cases (show u=Value.bool b1 from r1)
    cases (show x=Value.bool b2 from r2)
    exact EqAt.bool_bool b1 b2
  | _,_,_,_,u,x,A,.bl b1,.int i2,r1,r2,hu=>by
    cases (show u=Value.bool b1 from r1)
    obtain ⟨t2,e2⟩:=(show ∃ t,x=Value.int i2 t from r2);subst e2
    exact EqAt.bool_int b1 i2 t2
  | _,_,_,_,u,x,A,.bl b1,.str y2,r1,r2,hu=>by
    cases (show u=Value.bool b1 from r1)
    obtain ⟨t2,e2⟩:=(show ∃ t,x=Value.str y2 t from r2);subst e2
    exact EqAt.bool_str b1 y2 t2
  | _,_,_,_,u,x,A,.bl b1,.lst h2 rs2,r1,r2,hu=>by
    cases (show u=Value.bool b1 from r1)
    cases (show x=Value.ref _ from r2);obtain ⟨its2,rv2,p2,_⟩:=I.list h2
    exact EqAt.bool_list b1 p2.isList (hu00 hu)
  | _,_,_,_,u,x,A,.bl b1,.tup h2 rs2,r1,r2,hu=>by
    cases (show u=Value.bool b1 from r1)
    cases (show x=Value.ref _ from r2);obtain ⟨its2,rv2,p2,_⟩:=I.tuple h2
    exact EqAt.bool_tuple b1 p2 (hu00 hu)
  | _,_,_,_,u,x,A,.int i1,.non,r1,r2,hu=>by
    obtain ⟨t1,e1⟩:=(show ∃ t,u=Value.int i1 t from r1);subst e1
    cases (show x=Value.none from r2)
    exact EqAt.int_none i1 t1
  | _,_,_,_,u,x,A,.int i1,.bl b2,r1,r2,hu=>by
    obtain ⟨t1,e1⟩:=(show ∃ t,u=Value.int i1 t from r1);subst e1
    cases (show x=Value.bool b2 from r2)
    exact EqAt.int_bool i1 t1 b2
  | _,_,_,_,u,x,A,.int i1,.int i2,r1,r2,hu=>by
    obtain ⟨t1,e1⟩:=(show ∃ t,u=Value.int i1 t from r1);subst e1
    obtain ⟨t2,e2⟩:=(show ∃ t,x=Value.int i2 t from r2);subst e2
    exact EqAt.int_int i1 t1 i2 t2
  | _,_,_,_,u,x,A,.int i1,.str y2,r1,r2,hu=>by
    obtain ⟨t1,e1⟩:=(show ∃ t,u=Value.int i1 t from r1);subst e1
    obtain ⟨t2,e2⟩:=(show ∃ t,x=Value.str y2 t from r2);subst e2
    exact EqAt.int_str i1 t1 y2 t2
  | _,_,_,_,u,x,A,.int i1,.lst h2 rs2,r1,r2,hu=>by
    obtain ⟨t1,e1⟩:=(show ∃ t,u=Value.int i1 t from r1);subst e1
    cases (show x=Value.ref _ from r2);obtain ⟨its2,rv2,p2,_⟩:=I.list h2
    exact EqAt.int_list i1 t1 p2.isList (hu00 hu)
  | _,_,_,_,u,x,A,.int i1,.tup h2 rs2,r1,r2,hu=>by
    obtain ⟨t1,e1⟩:=(show ∃ t,u=Value.int i1 t from r1);subst e1
    cases (show x=Value.ref _ from r2);obtain ⟨its2,rv2,p2,_⟩:=I.tuple h2
    exact EqAt.int_tuple i1 t1 p2 (hu00 hu)
  | _,_,_,_,u,x,A,.str y1,.non,r1,r2,hu=>by
    obtain ⟨t1,e1⟩:=(show ∃ t,u=Value.str y1 t from r1);subst e1
    cases (show x=Value.none from r2)
    exact EqAt.str_none y1 t1
  | _,_,_,_,u,x,A,.str y1,.bl b2,r1,r2,hu=>by
    obtain ⟨t1,e1⟩:=(show ∃ t,u=Value.str y1 t from r1);subst e1
    cases (show x=Value.bool b2 from r2)
    exact EqAt.str_bool y1 t1 b2
  | _,_,_,_,u,x,A,.str y1,.int i2,r1,r2,hu=>by
    obtain ⟨t1,e1⟩:=(show ∃ t,u=Value.str y1 t from r1);subst e1
    obtain ⟨t2,e2⟩:=(show ∃ t,x=Value.int i2 t from r2);subst e2
    exact EqAt.str_int y1 t1 i2 t2
  | _,_,_,_,u,x,A,.str y1,.str y2,r1,r2,hu=>by
    obtain ⟨t1,e1⟩:=(show ∃ t,u=Value.str y1 t from r1);subst e1
    obtain ⟨t2,e2⟩:=(show ∃ t,x=Value.str y2 t from r2);subst e2
    exact EqAt.str_str y1 t1 y2 t2
  | _,_,_,_,u,x,A,.str y1,.lst h2 rs2,r1,r2,hu=>by
    obtain ⟨t1,e1⟩:=(show ∃ t,u=Value.str y1 t from r1);subst e1
    cases (show x=Value.ref _ from r2);obtain ⟨its2,rv2,p2,_⟩:=I.list h2
    exact EqAt.str_list y1 t1 p2.isList (hu00 hu)
  | _,_,_,_,u,x,A,.str y1,.tup h2 rs2,r1,r2,hu=>by
    obtain ⟨t1,e1⟩:=(show ∃ t,u=Value.str y1 t from r1);subst e1
    cases (show x=Value.ref _ from r2);obtain ⟨its2,rv2,p2,_⟩:=I.tuple h2
    exact EqAt.str_tuple y1 t1 p2 (hu00 hu)
  | _,_,_,_,u,x,A,.lst h1 rs1,.non,r1,r2,hu=>by
    cases (show u=Value.ref _ from r1);obtain ⟨its1,rv1,p1,_⟩:=I.list h1
    cases (show x=Value.none from r2)
    exact EqAt.list_none p1.isList (hu00 hu)
  | _,_,_,_,u,x,A,.lst h1 rs1,.bl b2,r1,r2,hu=>by
    cases (show u=Value.ref _ from r1);obtain ⟨its1,rv1,p1,_⟩:=I.list h1
    cases (show x=Value.bool b2 from r2)
    exact EqAt.list_bool b2 p1.isList (hu00 hu)
  | _,_,_,_,u,x,A,.lst h1 rs1,.int i2,r1,r2,hu=>by
    cases (show u=Value.ref _ from r1);obtain ⟨its1,rv1,p1,_⟩:=I.list h1
    obtain ⟨t2,e2⟩:=(show ∃ t,x=Value.int i2 t from r2);subst e2
    exact EqAt.list_int i2 t2 p1.isList (hu00 hu)
  | _,_,_,_,u,x,A,.lst h1 rs1,.str y2,r1,r2,hu=>by
    cases (show u=Value.ref _ from r1);obtain ⟨its1,rv1,p1,_⟩:=I.list h1
    obtain ⟨t2,e2⟩:=(show ∃ t,x=Value.str y2 t from r2);subst e2
    exact EqAt.list_str y2 t2 p1.isList (hu00 hu)
  | _,_,_,_,u,x,A,.lst h1 rs1,.lst h2 rs2,r1,r2,hu=>by
    cases (show u=Value.ref _ from r1);obtain ⟨its1,rv1,p1,_⟩:=I.list h1
    cases (show x=Value.ref _ from r2);obtain ⟨its2,rv2,p2,_⟩:=I.list h2
    exact eqL I h1 h2 rs1 rs2 rv1 rv2 p1.isList p2.isList (hu0 hu) (eqs_at I rs1 rs2 rv1 rv2 (hu1 hu))
  | _,_,_,_,u,x,A,.lst h1 rs1,.tup h2 rs2,r1,r2,hu=>by
    cases (show u=Value.ref _ from r1);obtain ⟨its1,rv1,p1,_⟩:=I.list h1
    cases (show x=Value.ref _ from r2);obtain ⟨its2,rv2,p2,_⟩:=I.tuple h2
    exact EqAt.list_tuple p1.isList p2 (hu00 hu)
  | _,_,_,_,u,x,A,.tup h1 rs1,.non,r1,r2,hu=>by
    cases (show u=Value.ref _ from r1);obtain ⟨its1,rv1,p1,_⟩:=I.tuple h1
    cases (show x=Value.none from r2)
    exact EqAt.tuple_none p1 (hu00 hu)
  | _,_,_,_,u,x,A,.tup h1 rs1,.bl b2,r1,r2,hu=>by
    cases (show u=Value.ref _ from r1);obtain ⟨its1,rv1,p1,_⟩:=I.tuple h1
    cases (show x=Value.bool b2 from r2)
    exact EqAt.tuple_bool b2 p1 (hu00 hu)
  | _,_,_,_,u,x,A,.tup h1 rs1,.int i2,r1,r2,hu=>by
    cases (show u=Value.ref _ from r1);obtain ⟨its1,rv1,p1,_⟩:=I.tuple h1
    obtain ⟨t2,e2⟩:=(show ∃ t,x=Value.int i2 t from r2);subst e2
    exact EqAt.tuple_int i2 t2 p1 (hu00 hu)
  | _,_,_,_,u,x,A,.tup h1 rs1,.str y2,r1,r2,hu=>by
    cases (show u=Value.ref _ from r1);obtain ⟨its1,rv1,p1,_⟩:=I.tuple h1
    obtain ⟨t2,e2⟩:=(show ∃ t,x=Value.str y2 t from r2);subst e2
    exact EqAt.tuple_str y2 t2 p1 (hu00 hu)
  | _,_,_,_,u,x,A,.tup h1 rs1,.lst h2 rs2,r1,r2,hu=>by
    cases (show u=Value.ref _ from r1);obtain ⟨its1,rv1,p1,_⟩:=I.tuple h1
    cases (show x=Value.ref _ from r2);obtain ⟨its2,rv2,p2,_⟩:=I.list h2
    exact EqAt.tuple_list p1 p2.isList (hu00 hu)
  | _,_,_,_,u,x,A,.tup h1 rs1,.tup h2 rs2,r1,r2,hu=>by
    cases (show u=Value.ref _ from r1);obtain ⟨its1,rv1,p1,_⟩:=I.tuple h1
    cases (show x=Value.ref _ from r2);obtain ⟨its2,rv2,p2,_⟩:=I.tuple h2
    exact eqT I h1 h2 rs1 rs2 rv1 rv2 p1 p2 (hu0 hu) (eqs_at I rs1 rs2 rv1 rv2 (hu1 hu))
theorem eqs_at (I:Inv X pins σ H s):∀ {vs ws:List V} {ds es:List PyData} {us xs:List Value} {A:Around},Reps X.K H vs ds→Reps X.K H ws es→Vals vs us→Vals ws xs→A.units+pdDeps ds<cLine→
    ∀ j (h1:j<us.length) (h2:j<xs.length),EqAt A s us[j] xs[j] (pdEq (ds.getD j .none) (es.getD j .none))
  |_,_,_,_,_,_,_,.nil,_,.nil,_,_,j,h1,_=>absurd h1 (Nat.not_lt_zero _)
  |_,_,_,_,_,_,_,.cons _ _,.nil,.cons _ _,.nil,_,j,_,h2=>absurd h2 (Nat.not_lt_zero _)
  |_,_,_,_,_,_,_,.cons a b,.cons c d,.cons r rs,.cons t ts,hu,0,_,_=>eq_at I a c r t (by simp only [pdDeps] at hu;simp only [List.getD_cons_zero];omega)
  |_,_,_,_,_,_,_,.cons a b,.cons c d,.cons r rs,.cons t ts,hu,j+1,h1,h2=>eqs_at I b d rs ts (by simp only [pdDeps] at hu;omega) j (by simpa using h1) (by simpa using h2)
end
theorem rc_at (I:Inv X pins σ H s):∀ {v w:V} {d e:PyData} {u x:Value} {A:Around},Rep X.K H v d→Rep X.K H w e→RelV v u→RelV w x→A.units+pdDep d<cLine→RcAt A s u x (pdEq d e)
  | _,_,_,_,u,x,A,.non,.non,r1,r2,hu=>by
    cases (show u=Value.none from r1)
    cases (show x=Value.none from r2)
    exact RcAt.none_none
  | _,_,_,_,u,x,A,.non,.bl b2,r1,r2,hu=>by
    cases (show u=Value.none from r1)
    cases (show x=Value.bool b2 from r2)
    exact RcAt.none_bool b2
  | _,_,_,_,u,x,A,.non,.int i2,r1,r2,hu=>by
    cases (show u=Value.none from r1)
    obtain ⟨t2,e2⟩:=(show ∃ t,x=Value.int i2 t from r2);subst e2
    exact RcAt.none_int i2 t2
  | _,_,_,_,u,x,A,.non,.str y2,r1,r2,hu=>by
    cases (show u=Value.none from r1)
    obtain ⟨t2,e2⟩:=(show ∃ t,x=Value.str y2 t from r2);subst e2
    exact RcAt.none_str y2 t2
  | _,_,_,_,u,x,A,.non,.lst h2 rs2,r1,r2,hu=>by
    cases (show u=Value.none from r1)
    cases (show x=Value.ref _ from r2);obtain ⟨its2,rv2,p2,_⟩:=I.list h2
    exact RcAt.none_list p2.isList (hu00 hu)
  | _,_,_,_,u,x,A,.non,.tup h2 rs2,r1,r2,hu=>by
    cases (show u=Value.none from r1)
    cases (show x=Value.ref _ from r2);obtain ⟨its2,rv2,p2,_⟩:=I.tuple h2
    exact RcAt.none_tuple p2 (hu00 hu)
  | _,_,_,_,u,x,A,.bl b1,.non,r1,r2,hu=>by
    cases (show u=Value.bool b1 from r1)
    cases (show x=Value.none from r2)
    exact RcAt.bool_none b1
  | _,_,_,_,u,x,A,.bl b1,.bl b2,r1,r2,hu=>by
    cases (show u=Value.bool b1 from r1)
    cases (show x=Value.bool b2 from r2)
    exact RcAt.bool_bool b1 b2
  | _,_,_,_,u,x,A,.bl b1,.int i2,r1,r2,hu=>by
    cases (show u=Value.bool b1 from r1)
    obtain ⟨t2,e2⟩:=(show ∃ t,x=Value.int i2 t from r2);subst e2
    exact RcAt.bool_int b1 i2 t2
  | _,_,_,_,u,x,A,.bl b1,.str y2,r1,r2,hu=>by
    cases (show u=Value.bool b1 from r1)
    obtain ⟨t2,e2⟩:=(show ∃ t,x=Value.str y2 t from r2);subst e2
    exact RcAt.bool_str b1 y2 t2
  | _,_,_,_,u,x,A,.bl b1,.lst h2 rs2,r1,r2,hu=>by
    cases (show u=Value.bool b1 from r1)
    cases (show x=Value.ref _ from r2);obtain ⟨its2,rv2,p2,_⟩:=I.list h2
    exact RcAt.bool_list b1 p2.isList (hu00 hu)
  | _,_,_,_,u,x,A,.bl b1,.tup h2 rs2,r1,r2,hu=>by
    cases (show u=Value.bool b1 from r1)
    cases (show x=Value.ref _ from r2);obtain ⟨its2,rv2,p2,_⟩:=I.tuple h2
    exact RcAt.bool_tuple b1 p2 (hu00 hu)
  | _,_,_,_,u,x,A,.int i1,.non,r1,r2,hu=>by
    obtain ⟨t1,e1⟩:=(show ∃ t,u=Value.int i1 t from r1);subst e1
    cases (show x=Value.none from r2)
    exact RcAt.int_none i1 t1
  | _,_,_,_,u,x,A,.int i1,.bl b2,r1,r2,hu=>by
    obtain ⟨t1,e1⟩:=(show ∃ t,u=Value.int i1 t from r1);subst e1
    cases (show x=Value.bool b2 from r2)
    exact RcAt.int_bool i1 t1 b2
  | _,_,_,_,u,x,A,.int i1,.int i2,r1,r2,hu=>by
    obtain ⟨t1,e1⟩:=(show ∃ t,u=Value.int i1 t from r1);subst e1
    obtain ⟨t2,e2⟩:=(show ∃ t,x=Value.int i2 t from r2);subst e2
    exact RcAt.int_int i1 t1 i2 t2
  | _,_,_,_,u,x,A,.int i1,.str y2,r1,r2,hu=>by
    obtain ⟨t1,e1⟩:=(show ∃ t,u=Value.int i1 t from r1);subst e1
    obtain ⟨t2,e2⟩:=(show ∃ t,x=Value.str y2 t from r2);subst e2
    exact RcAt.int_str i1 t1 y2 t2
  | _,_,_,_,u,x,A,.int i1,.lst h2 rs2,r1,r2,hu=>by
    obtain ⟨t1,e1⟩:=(show ∃ t,u=Value.int i1 t from r1);subst e1
    cases (show x=Value.ref _ from r2);obtain ⟨its2,rv2,p2,_⟩:=I.list h2
    exact RcAt.int_list i1 t1 p2.isList (hu00 hu)
  | _,_,_,_,u,x,A,.int i1,.tup h2 rs2,r1,r2,hu=>by
    obtain ⟨t1,e1⟩:=(show ∃ t,u=Value.int i1 t from r1);subst e1
    cases (show x=Value.ref _ from r2);obtain ⟨its2,rv2,p2,_⟩:=I.tuple h2
    exact RcAt.int_tuple i1 t1 p2 (hu00 hu)
  | _,_,_,_,u,x,A,.str y1,.non,r1,r2,hu=>by
    obtain ⟨t1,e1⟩:=(show ∃ t,u=Value.str y1 t from r1);subst e1
    cases (show x=Value.none from r2)
    exact RcAt.str_none y1 t1
  | _,_,_,_,u,x,A,.str y1,.bl b2,r1,r2,hu=>by
    obtain ⟨t1,e1⟩:=(show ∃ t,u=Value.str y1 t from r1);subst e1
    cases (show x=Value.bool b2 from r2)
    exact RcAt.str_bool y1 t1 b2
  | _,_,_,_,u,x,A,.str y1,.int i2,r1,r2,hu=>by
    obtain ⟨t1,e1⟩:=(show ∃ t,u=Value.str y1 t from r1);subst e1
    obtain ⟨t2,e2⟩:=(show ∃ t,x=Value.int i2 t from r2);subst e2
    exact RcAt.str_int y1 t1 i2 t2
  | _,_,_,_,u,x,A,.str y1,.str y2,r1,r2,hu=>by
    obtain ⟨t1,e1⟩:=(show ∃ t,u=Value.str y1 t from r1);subst e1
    obtain ⟨t2,e2⟩:=(show ∃ t,x=Value.str y2 t from r2);subst e2
    exact RcAt.str_str y1 t1 y2 t2
  | _,_,_,_,u,x,A,.str y1,.lst h2 rs2,r1,r2,hu=>by
    obtain ⟨t1,e1⟩:=(show ∃ t,u=Value.str y1 t from r1);subst e1
    cases (show x=Value.ref _ from r2);obtain ⟨its2,rv2,p2,_⟩:=I.list h2
    exact RcAt.str_list y1 t1 p2.isList (hu00 hu)
  | _,_,_,_,u,x,A,.str y1,.tup h2 rs2,r1,r2,hu=>by
    obtain ⟨t1,e1⟩:=(show ∃ t,u=Value.str y1 t from r1);subst e1
    cases (show x=Value.ref _ from r2);obtain ⟨its2,rv2,p2,_⟩:=I.tuple h2
    exact RcAt.str_tuple y1 t1 p2 (hu00 hu)
  | _,_,_,_,u,x,A,.lst h1 rs1,.non,r1,r2,hu=>by
    cases (show u=Value.ref _ from r1);obtain ⟨its1,rv1,p1,_⟩:=I.list h1
    cases (show x=Value.none from r2)
    exact RcAt.list_none p1.isList (hu00 hu)
  | _,_,_,_,u,x,A,.lst h1 rs1,.bl b2,r1,r2,hu=>by
    cases (show u=Value.ref _ from r1);obtain ⟨its1,rv1,p1,_⟩:=I.list h1
    cases (show x=Value.bool b2 from r2)
    exact RcAt.list_bool b2 p1.isList (hu00 hu)
  | _,_,_,_,u,x,A,.lst h1 rs1,.int i2,r1,r2,hu=>by
    cases (show u=Value.ref _ from r1);obtain ⟨its1,rv1,p1,_⟩:=I.list h1
    obtain ⟨t2,e2⟩:=(show ∃ t,x=Value.int i2 t from r2);subst e2
    exact RcAt.list_int i2 t2 p1.isList (hu00 hu)
  | _,_,_,_,u,x,A,.lst h1 rs1,.str y2,r1,r2,hu=>by
    cases (show u=Value.ref _ from r1);obtain ⟨its1,rv1,p1,_⟩:=I.list h1
    obtain ⟨t2,e2⟩:=(show ∃ t,x=Value.str y2 t from r2);subst e2
    exact RcAt.list_str y2 t2 p1.isList (hu00 hu)
  | _,_,_,_,u,x,A,.lst h1 rs1,.lst h2 rs2,r1,r2,hu=>by
    cases (show u=Value.ref _ from r1);obtain ⟨its1,rv1,p1,_⟩:=I.list h1
    cases (show x=Value.ref _ from r2);obtain ⟨its2,rv2,p2,_⟩:=I.list h2
    exact rcL rs1 rs2 rv1 rv2 p1.isList p2.isList (hu0 hu) (eqs_at I rs1 rs2 rv1 rv2 (hu1 hu))
  | _,_,_,_,u,x,A,.lst h1 rs1,.tup h2 rs2,r1,r2,hu=>by
    cases (show u=Value.ref _ from r1);obtain ⟨its1,rv1,p1,_⟩:=I.list h1
    cases (show x=Value.ref _ from r2);obtain ⟨its2,rv2,p2,_⟩:=I.tuple h2
    exact RcAt.list_tuple p1.isList p2 (hu00 hu)
  | _,_,_,_,u,x,A,.tup h1 rs1,.non,r1,r2,hu=>by
    cases (show u=Value.ref _ from r1);obtain ⟨its1,rv1,p1,_⟩:=I.tuple h1
    cases (show x=Value.none from r2)
    exact RcAt.tuple_none p1 (hu00 hu)
  | _,_,_,_,u,x,A,.tup h1 rs1,.bl b2,r1,r2,hu=>by
    cases (show u=Value.ref _ from r1);obtain ⟨its1,rv1,p1,_⟩:=I.tuple h1
    cases (show x=Value.bool b2 from r2)
    exact RcAt.tuple_bool b2 p1 (hu00 hu)
  | _,_,_,_,u,x,A,.tup h1 rs1,.int i2,r1,r2,hu=>by
    cases (show u=Value.ref _ from r1);obtain ⟨its1,rv1,p1,_⟩:=I.tuple h1
    obtain ⟨t2,e2⟩:=(show ∃ t,x=Value.int i2 t from r2);subst e2
    exact RcAt.tuple_int i2 t2 p1 (hu00 hu)
  | _,_,_,_,u,x,A,.tup h1 rs1,.str y2,r1,r2,hu=>by
    cases (show u=Value.ref _ from r1);obtain ⟨its1,rv1,p1,_⟩:=I.tuple h1
    obtain ⟨t2,e2⟩:=(show ∃ t,x=Value.str y2 t from r2);subst e2
    exact RcAt.tuple_str y2 t2 p1 (hu00 hu)
  | _,_,_,_,u,x,A,.tup h1 rs1,.lst h2 rs2,r1,r2,hu=>by
    cases (show u=Value.ref _ from r1);obtain ⟨its1,rv1,p1,_⟩:=I.tuple h1
    cases (show x=Value.ref _ from r2);obtain ⟨its2,rv2,p2,_⟩:=I.list h2
    exact RcAt.tuple_list p1 p2.isList (hu00 hu)
  | _,_,_,_,u,x,A,.tup h1 rs1,.tup h2 rs2,r1,r2,hu=>by
    cases (show u=Value.ref _ from r1);obtain ⟨its1,rv1,p1,_⟩:=I.tuple h1
    cases (show x=Value.ref _ from r2);obtain ⟨its2,rv2,p2,_⟩:=I.tuple h2
    exact rcT rs1 rs2 rv1 rv2 p1 p2 (hu0 hu) (eqs_at I rs1 rs2 rv1 rv2 (hu1 hu))
end
end L2
namespace L2
open PySem PySem.Spec PyProof.Rows PySem.SeqAt
section
variable {X:Cx}
def rEqD (K:PySem.W.Frag):R2:=fun x y H Q=>∃ d e,Rep K H x d∧Rep K H y e∧pdDep d≤60∧Q (.bl (pdEq d e)) H
theorem op_eqD (hu:X.A.units+64<cLine):OpR X (compareOp .Eq) (rEqD X.K):=by
  intro pins s σ H x y v u Q I rx ry h
  obtain ⟨d,e,h1,h2,hd,q⟩:=h
  exact rc_at I h1 h2 rx ry (by omega) _ _ _ _ ⟨.bl _,H,I,rfl,q⟩
theorem pdDep_le {e:PyData}:∀ {es:List PyData},e∈es→pdDep e≤pdDeps es
  |_::_,.head _=>by simp only [pdDeps];omega
  |_::r,.tail _ h=>by have:=pdDep_le h;simp only [pdDeps];omega
def tyD:PyData→String
  |.none=>"NoneType"
  |.bool _=>"bool"
  |.int _=>"int"
  |.str _=>"str"
  |.list _=>"list"
  |.tuple _=>"tuple"
  |.dict _=>"dict"
theorem isD {pins:List (Addr×Obj)} {σ:St} {H:Hp} {s:Shared} {A:Around} {E:Value→Shared→Prop} {Q:Value→Shared→Prop} {v:V} {d:PyData} {u c:Value} {b:Bool} (I:Inv X pins σ H s) (r:Rep X.K H v d) (rv:RelV v u)
    (e:PySem.W.kitOne X.K (.type (tyD d)) c=some b) (h:∀ tk,Q (.bool b) { s with toks:=tk }):wpAny (model X.prog X.w) A (call (.builtin "isinstance") [u,c]) Q E s:=by
  cases r with
  |non=>cases (show u=Value.none from rv);exact PySem.W.kia_one PySem.W.kitx_none I.kIn True.intro e (fun z=>nomatch z) h
  |bl y=>cases (show u=Value.bool y from rv);exact PySem.W.kia_one PySem.W.kitx_bool I.kIn True.intro e (fun z=>nomatch z) h
  |int i=>obtain ⟨t,q⟩:=(show ∃ t,u=Value.int i t from rv);cases q;exact PySem.W.kia_one PySem.W.kitx_int I.kIn True.intro e (fun z=>nomatch z) h
  |str y=>obtain ⟨t,q⟩:=(show ∃ t,u=Value.str y t from rv);cases q;exact PySem.W.kia_one PySem.W.kitx_str I.kIn True.intro e (fun z=>nomatch z) h
  | tup g _=>
    cases (show u=Value.ref _ from rv)
    obtain ⟨_,_,⟨o,h1,h2,_⟩,_⟩:=I.tuple g
    exact PySem.W.kia_one PySem.W.kitx_tuple I.kIn ⟨o,h1,h2⟩ e (fun z=>nomatch z) h
  | lst g _=>
    cases (show u=Value.ref _ from rv)
    obtain ⟨_,_,⟨o,n,h1,h2,_⟩,_⟩:=I.list g
    exact PySem.W.kia_one PySem.W.kitx_list I.kIn ⟨o,h1,h2⟩ e (fun z=>nomatch z) h
theorem isD2 {pins:List (Addr×Obj)} {σ:St} {H:Hp} {s:Shared} {A:Around} {E:Value→Shared→Prop} {Q:Value→Shared→Prop} {v:V} {d:PyData} {u:Value} {tp:Addr} {dd:Option Addr} {its:List Value} {n:Nat} {sl:Array (Option Value)} {b:Bool} (I:Inv X pins σ H s) (r:Rep X.K H v d) (rv:RelV v u)
    (htp:s.heap.get? tp=some ⟨.type "tuple",dd,.seq its.toArray n,sl⟩) (e:PySem.W.kitAny X.K (.type (tyD d)) its=some b) (h:∀ tk,Q (.bool b) { s with toks:=tk }):wpAny (model X.prog X.w) A (call (.builtin "isinstance") [u,.ref tp]) Q E s:=by
  cases r with
  |non=>cases (show u=Value.none from rv);exact PySem.W.kia_tup PySem.W.kitx_none I.kIn True.intro htp e (fun z=>nomatch z) h
  |bl y=>cases (show u=Value.bool y from rv);exact PySem.W.kia_tup PySem.W.kitx_bool I.kIn True.intro htp e (fun z=>nomatch z) h
  |int i=>obtain ⟨t,q⟩:=(show ∃ t,u=Value.int i t from rv);cases q;exact PySem.W.kia_tup PySem.W.kitx_int I.kIn True.intro htp e (fun z=>nomatch z) h
  |str y=>obtain ⟨t,q⟩:=(show ∃ t,u=Value.str y t from rv);cases q;exact PySem.W.kia_tup PySem.W.kitx_str I.kIn True.intro htp e (fun z=>nomatch z) h
  | tup g _=>
    cases (show u=Value.ref _ from rv)
    obtain ⟨_,_,⟨o,h1,h2,_⟩,_⟩:=I.tuple g
    exact PySem.W.kia_tup PySem.W.kitx_tuple I.kIn ⟨o,h1,h2⟩ htp e (fun z=>nomatch z) h
  | lst g _=>
    cases (show u=Value.ref _ from rv)
    obtain ⟨_,_,⟨o,n,h1,h2,_⟩,_⟩:=I.list g
    exact PySem.W.kia_tup PySem.W.kitx_list I.kIn ⟨o,h1,h2⟩ htp e (fun z=>nomatch z) h
def rIsT (K:PySem.W.Frag):List V→Hp→VK→Prop:=fun xs H Q=>∃ x n d b,xs=[x,.ty n]∧Rep K H x d∧PySem.W.kitOne K (.type (tyD d)) (.type n)=some b∧Q (.bl b) H
theorem call_isT:CallR X (.builtin "isinstance") (rIsT X.K):=by
  intro pins s σ H xs us Q I r h
  obtain ⟨x,n,d,b,rfl,hr,e,q⟩:=h
  cases r with
  | cons r1 r=>
    cases r with
    | cons r2 r=>
      cases r
      cases (show _=Value.type n from r2)
      exact isD I hr r1 e fun tk=>⟨.bl b,H,I.tok tk,rfl,q⟩
def rIsT2 (K:PySem.W.Frag):List V→Hp→VK→Prop:=fun xs H Q=>∃ x a n m d b,xs=[x,.ref a]∧H a=some (.tup [.ty n,.ty m])∧Rep K H x d∧PySem.W.kitAny K (.type (tyD d)) [.type n,.type m]=some b∧Q (.bl b) H
theorem call_isT2:CallR X (.builtin "isinstance") (rIsT2 X.K):=by
  intro pins s σ H xs us Q I r h
  obtain ⟨x,a,n,m,d,b,rfl,ha,hr,e,q⟩:=h
  cases r with
  | cons r1 r=>
    cases r with
    | cons r2 r=>
      cases r
      cases (show _=Value.ref a from r2)
      obtain ⟨z,its,rv,o,h1,h2,k,h3⟩:=(show ObjOk X.prog X.w H s.heap a (.tup [.ty n,.ty m]) from I.hok a _ ha)
      obtain ⟨cls,dd,data,sl⟩:=o
      simp only at h2 h3
      subst h2 h3
      cases rv with
      | cons g1 rv=>
        cases rv with
        | cons g2 rv=>
          cases rv
          cases (show _=Value.type n from g1)
          cases (show _=Value.type m from g2)
          exact isD2 I hr r1 h1 e fun tk=>⟨.bl b,H,I.tok tk,rfl,q⟩
theorem bools_of {xs:List V} {us:List Value}:∀ {bs:List Bool},xs=bs.map V.bl→Vals xs us→us=bs.map Value.bool:=by
  intro bs e r
  induction bs generalizing xs us with
  |nil=>subst e;cases r;rfl
  | cons b t ih=>
    subst e
    cases r with
    |cons r1 r=>rw [List.map_cons,ih rfl r,(show _=Value.bool b from r1)]
theorem range_all (bs:List Bool):(List.range bs.length).all (fun i=>bs.getD i false)=bs.all id:=by
  induction bs with
  |nil=>rfl
  |cons b t ih=>rw [List.length_cons,List.range_succ_eq_map,List.all_cons,List.all_map,List.all_cons,← ih];rfl
theorem truth_bools {P:Program} {w:World} {A:Around} {bs:List Bool}:TruthOf P w A (fun i v=>((bs.map Value.bool).toArray)[i]?=some v) fun i=>bs.getD i false:=fun i v s Q E hP hQ=>by
  dsimp only at hP hQ
  rw [List.getElem?_toArray,List.getElem?_map] at hP
  cases e:bs[i]? with
  |none=>rw [e] at hP;cases hP
  | some b=>
    rw [e] at hP
    cases hP
    rw [List.getD_eq_getElem?_getD,e] at hQ
    exact wpAny_pure hQ
def rAllB (K:PySem.W.Frag) (f:List Bool→Bool):List V→Hp→VK→Prop:=fun xs H Q=>∃ a bs,xs=[.ref a]∧SqL K H a (bs.map V.bl)∧Q (.bl (f bs)) H
theorem call_allB (hh:X.calm=true):CallR X (.builtin "all") (rAllB X.K fun bs=>bs.all id):=by
  intro pins s σ H xs us Q I r h
  obtain ⟨a,bs,rfl,hq,q⟩:=h
  cases r with
  | cons r1 r=>
    cases r
    cases (show _=Value.ref a from r1)
    obtain ⟨its,rv,p,hz⟩:=I.list hq
    have e:=bools_of rfl rv
    subst e
    refine PySem.call_all_walk (wpAny_pyIter_list p.isList ?_)
    have hne:a≠s.heap.objs.size:=(by obtain ⟨o,ho,_⟩:=p.isList;exact Nat.ne_of_lt (Heap.lt_size ho))
    refine ⟨s.heap.objs.size,_,_,_,_,_,_,rfl,Walks.list (A:=X.A.in1) (I.ok.hd hh) s.heap.objs.size a hne (bs.map Value.bool).toArray,⟨⟨_,Heap.get?_push_size _ rfl,rfl,rfl⟩,?_⟩,truth_bools,fun h' tk hk=>?_⟩
    · obtain ⟨o,ho,hc,n,hd⟩:=p.isList
      exact ⟨o,Heap.get?_push_of_some _ ho,hc,n,hd⟩
    · rw [List.size_toArray,List.length_map,range_all]
      exact ⟨.bl _,H,I.kept fun b o e=>hk b o (by simp;exact Nat.ne_of_lt (Heap.lt_size e)) (Heap.get?_push_of_some _ e),rfl,q⟩
theorem strs_of {us:List Value}:∀ {ys:List Str},Vals (ys.map V.str) us→StrsAre us ys:=by
  intro ys
  induction ys generalizing us with
  |nil=>intro r;cases r;exact .nil
  | cons y t ih=>
    intro r
    cases r with
    | cons r1 r=>
      obtain ⟨tk,e⟩:=(show ∃ t,_=Value.str y t from r1)
      subst e
      exact .cons _ _ (ih r)
def rJoin (K:PySem.W.Frag):V→List V→Hp→VK→Prop:=fun x vs H Q=>∃ z a ys,x=.str z∧vs=[.ref a]∧SqL K H a (ys.map V.str)∧(ys.map (·.length)).sum+ys.length*z.length≤16777216∧Q (.str (Txt.join z ys)) H
theorem mt_join:MtR X "str.join" (rJoin X.K):=by
  intro pins s σ H x vs v us Q I rx rv h
  obtain ⟨z,a,ys,rfl,rfl,hq,hl,q⟩:=h
  obtain ⟨t,e⟩:=(show ∃ t,v=Value.str z t from rx)
  subst e
  cases rv with
  | cons r1 r=>
    cases r
    cases (show _=Value.ref a from r1)
    obtain ⟨its,rs,p,hz⟩:=I.list hq
    exact join_list p.isList (by simpa using strs_of rs) hl fun t' k=>⟨.str _,H,I.tok k,⟨t',rfl⟩,q⟩
def rS0 (f:Str→Bool):V→List V→Hp→VK→Prop:=fun x vs H Q=>∃ z,x=.str z∧vs=[]∧Q (.bl (f z)) H
theorem mt_isascii:MtR X "str.isascii" (rS0 fun x=>x.cps.all (·<128)):=by
  intro pins s σ H x vs v us Q I rx rv h
  obtain ⟨z,rfl,rfl,q⟩:=h
  obtain ⟨t,e⟩:=(show ∃ t,v=Value.str z t from rx)
  subst e
  cases rv
  exact call_gives PySem.F.slot_str_isascii (typeIs_str _ _ _) PySem.F.entry_str_isascii (PySem.F.args_str_isascii_1 _) (gives_str_isascii z t) ⟨.bl _,H,I,rfl,q⟩
theorem mt_isalpha:MtR X "str.isalpha" (rS0 fun x=>x.length > 0 && x.cps.all Unicode.isAlpha):=by
  intro pins s σ H x vs v us Q I rx rv h
  obtain ⟨z,rfl,rfl,q⟩:=h
  obtain ⟨t,e⟩:=(show ∃ t,v=Value.str z t from rx)
  subst e
  cases rv
  exact call_gives PySem.F.slot_str_isalpha (typeIs_str _ _ _) PySem.F.entry_str_isalpha (PySem.F.args_str_isalpha_1 _) (gives_str_isalpha z t) ⟨.bl _,H,I,rfl,q⟩
theorem mt_islower:MtR X "str.islower" (rS0 fun x=>x.cps.any Unicode.isLower && !x.cps.any fun c=>Unicode.isUpper c || Unicode.isTitle c):=by
  intro pins s σ H x vs v us Q I rx rv h
  obtain ⟨z,rfl,rfl,q⟩:=h
  obtain ⟨t,e⟩:=(show ∃ t,v=Value.str z t from rx)
  subst e
  cases rv
  exact call_gives PySem.F.slot_str_islower (typeIs_str _ _ _) PySem.F.entry_str_islower (PySem.F.args_str_islower_1 _) (gives_str_islower z t) ⟨.bl _,H,I,rfl,q⟩
end
structure CompS (osc:Scope) (N:List Str) (scope:Scope) (own:List Str) (js:List Nat) (N':List Str):Prop where
  kind:scope.kind=.function
  nocell:∀ y∈scope.names,y.2≠.cell
  names:∀ y∈scope.names,y.2=.local→scope.names.lookup y.1=some .local
  free:∀ y∈scope.names,y.2=.free→osc.names.lookup y.1=some .cell∨osc.names.lookup y.1=some .free
  nm:N'=own++js.map fun j=>N.getD j Str.empty
  fr:∀ j∈js,j<N.length∧(N.getD j Str.empty,NameKind.free)∈scope.names∧∀ y∈scope.names,y.1=N.getD j Str.empty→y.2=.free
theorem CompScope.of {X:Cx} {osc scope:Scope} {N own N':List Str} {js:List Nat} (h1:X.env.scope=osc) (h2:X.N=N) (h:CompS osc N scope own js N'):CompScope X scope own js N':=by
  subst h1 h2
  exact ⟨h.kind,h.nocell,h.names,h.free,h.nm,fun j hj=>⟨(h.fr j hj).1,(h.fr j hj).2.1,fun k hk=>(h.fr j hj).2.2 _ hk rfl⟩⟩
mutual
def pdMax:PyData→Nat
  |.tuple xs=>max xs.length (pdMaxs xs)
  |.list xs=>max xs.length (pdMaxs xs)
  |_=>0
def pdMaxs:List PyData→Nat
  |[]=>0
  |d::r=>max (pdMax d) (pdMaxs r)
end
theorem pdMax_le {e:PyData}:∀ {es:List PyData},e∈es→pdMax e≤pdMaxs es
  |_::_,.head _=>by simp only [pdMaxs];omega
  |_::r,.tail _ h=>by have:=pdMax_le h;simp only [pdMaxs];omega
theorem pe_ty {X:Cx} {x:Str} {n:String} {pos:Pos} (hg:Gl X x) (hm:X.mg x=none) (hv:bootBuiltins x=some (.type n)) (hn:x ≠ "__name__":=by decide) (hd:(x == ("__debug__" : Str))=false:=by decide):PE X (.Name x pos) (tC (.ty n)):=pe_bltn (v:=.ty n) hg hm hv rfl hn hd
theorem ifT {c:Bool} {A B:Prop} (h:c=true) (q:A):if c=true then A else B:=by rw [if_pos h];exact q
theorem ifF {c:Bool} {A B:Prop} (h:c=false) (q:B):if c=true then A else B:=by rw [if_neg (by rw [h];exact Bool.false_ne_true)];exact q
section
variable {X:Cx} {a b c d:Expr} {ta tb tc td:TE} {pos:Pos}
end
end L2
namespace L2
open PySem PySem.Spec PyProof.Rows PySem.SeqAt
section
variable {X:Cx} {es:List Expr} {t:TF} {e:Expr} {te:TE} {pos:Pos}
end
end L2
namespace L2
open PySem PySem.Spec PyProof.Rows PySem.SeqAt
section
variable {X:Cx} {CX:CXT} {k:Nat} {f C:Addr} {fd:FuncData} {ps:List Str} {sp:Sp} {E:XK}
end
end L2
namespace HT
open PySem PySem.Spec PyProof.Rows
section
variable {prog:Program} {w:World} {A:Around} {E:Value→Shared→Prop} {s:Shared}
theorem cat_nil {t b:Addr} {ws:List Value} {Q:Value→Shared→Prop} (ht:IsTup s.heap t #[]) (hb:IsTup s.heap b ws.toArray) (h:Q (.ref b) s):wpAny (model prog w) A (binaryOp .Add (.ref t) (.ref b)) Q E s:=by
  obtain ⟨⟨_,dd,_,sl⟩,ho,rfl,n,rfl⟩:=id ht
  obtain ⟨⟨_,dd2,_,sl2⟩,ho2,rfl,n2,rfl⟩:=id hb
  exact concat_meets ⟨_,ho,rfl⟩ ⟨_,ho2,rfl⟩ noFill_tuple_add seq_tuple_add PySem.F.slot_tuple_add PySem.F.entry_tuple_add (PySem.F.args_tuple_add_2 _ _) (tuple_addW0 t b #[] ws.toArray n n2 dd dd2 sl sl2 rfl) ⟨ho,ho2,h⟩
theorem tup_slice {t sl:Addr} {items:Array Value} {a b c:Value} {lo step:Int} {n:Nat} {Q:Value→Shared→Prop} (ht:IsTup s.heap t items) (hs:s.heap.IsSliceOf sl a b c)
    (ha:∀ (A':Around) (Q':Int×Int×Nat→Shared→Prop) (E':Value→Shared→Prop),Q' (lo,step,n) s→wpAny (model prog w) A' (Builtin.Slice.sliceApplied (.ref sl) (pure (items.size:Int))) Q' E' s)
    (h1:(lo == 0 && step == 1 && n == items.size)=true→Q (.ref t) s)
    (h2:¬ (lo == 0 && step == 1 && n == items.size)=true→((List.range n).filterMap fun (k:Nat)=>items[(lo+(k:Int)*step).toNat]?).length≤sizeLine∧
      Q (.ref s.heap.objs.size) { s with heap:=s.heap.push { cls:=.type "tuple",data:=.seq ((List.range n).filterMap fun (k:Nat)=>items[(lo+(k:Int)*step).toNat]?).toArray } }) :
    wpAny (model prog w) A (getItem (.ref t) (.ref sl)) Q E s:=by
  obtain ⟨so,hso,hsc,hsd⟩:=id hs
  have hty:s.TypeIs (.ref sl) "slice":=⟨so,hso,hsc⟩
  obtain ⟨to,hto,htc,nt,htd⟩:=id ht
  unfold getItem
  try with_reducible refine wpAny_holding ?_
  first|refine wpAny_bind (wpAny_pure ?_)|skip
  refine wpAny_bind (wpAny_sequenceKey ht.typeIs (by decide) (wpAny_bind (wpAny_callSpecial?_slot (name:=Str.ofString "__getitem__") ht.typeIs PyProof.Rows.slot_tuple_getitem (wpAny_call_entry PyProof.Rows.slot_tuple_getitem ht.typeIs entry_tuple_getitem ?_ (args_tuple_getitem _ _)))))
  show wpAny _ _ (Builtin.Tuple.tupleItemsOf (.ref t) >>= _) _ _ s
  refine wpAny_bind (tupleItemsOf_ ht (wpAny_bind (wpAny_typeOf hty ?_)))
  rw [if_pos (by decide)]
  refine wpAny_bind (ha _ _ _ ?_)
  show wpAny _ _ (if (lo == 0 && step == 1 && n == items.size)=true then _ else _) _ _ s
  by_cases hw:(lo == 0 && step == 1 && n == items.size)=true
  · rw [if_pos hw]
    have hx:wpAny (model prog w) A.in1 (Builtin.Tuple.tupleIsExact (.ref t)) (fun b s'=>b=true∧s'=s) E s:=by
      unfold Builtin.Tuple.tupleIsExact
      refine wpAny_bind (wpAny_typeOf_ref hto ?_)
      rw [htc]
      exact wpAny_pure ⟨rfl,rfl⟩
    first
      |refine wpAny_bind (wpAny_mono hx (fun b s' h'=>?_) fun _ _ z=>z)
      |refine wpAny_bind (wpAny_bind (wpAny_mono hx (fun b s' h'=>?_) fun _ _ z=>z))
    obtain ⟨rfl,rfl⟩:=h'
    rw [if_pos rfl]
    first
      |exact wpAny_bind (wpAny_rule (wpAny_pure ⟨_,rfl,wpAny_pure (h1 hw)⟩))
      |exact wpAny_bind (wpAny_rule (wpAny_bind (wpAny_pure (wpAny_pure ⟨_,rfl,wpAny_pure (h1 hw)⟩))))
  · rw [if_neg hw]
    obtain ⟨hz,hq⟩:=h2 hw
    have hok:sizeOk (.seq ((List.range n).filterMap fun (k:Nat)=>items[(lo+(k:Int)*step).toNat]?).toArray):=by
      show (_:Array Value).size≤sizeLine
      rw [List.size_toArray];exact hz
    first
      |exact wpAny_bind (m:=Builtin.Tuple.tupleExact _) (wpAny_newObj_type (wpAny_pure ⟨_,rfl,wpAny_pure hq⟩) hok)
      |exact wpAny_bind (m:=Builtin.Tuple.tupleExact _) (wpAny_newObj_type (wpAny_bind (wpAny_pure (wpAny_pure ⟨_,rfl,wpAny_pure hq⟩))) hok)
      |exact wpAny_bind (wpAny_bind (m:=Builtin.Tuple.tupleExact _) (wpAny_newObj_type (wpAny_pure (wpAny_pure ⟨_,rfl,wpAny_pure hq⟩)) hok))
end
end HT
namespace L2
open PySem PySem.Spec PyProof.Rows PySem.SeqAt
section
variable {X:Cx}
def rCatA (K:PySem.W.Frag):R2:=fun x y H Q=>∃ a b xs ys,x=.ref a∧y=.ref b∧SqT K H a xs∧SqT K H b ys∧xs.length+ys.length≤sizeLine∧(xs=[]→Q (.ref b) H)∧(ys=[]→Q (.ref a) H)∧∀ p,H p=none→Q (.ref p) (upd H p (.tup (xs++ys)))
theorem op_catA:OpR X (binaryOp .Add) (rCatA X.K):=by
  intro pins s σ H x y v u Q I rx ry h
  obtain ⟨a,b,xs,ys,rfl,rfl,ha,hb,hz,q0,q1,q2⟩:=h
  by_cases hx:xs=[]
  · subst hx
    cases (show v=Value.ref a from rx)
    cases (show u=Value.ref b from ry)
    obtain ⟨its,r1,p1,_⟩:=I.tuple ha
    obtain ⟨its2,r2,p2,_⟩:=I.tuple hb
    cases r1
    exact HT.cat_nil p1 p2 ⟨.ref b,H,I,rfl,q0 rfl⟩
  · refine op_catT pins s σ H _ _ v u Q I rx ry ⟨a,b,xs,ys,rfl,rfl,ha,hb,hx,hz,q1,fun _=>q2⟩
def rSlW (K:PySem.W.Frag):V→Option Int→Option Int→Hp→VK→Prop:=fun x lo hi H Q=>∃ a xs,x=.ref a∧SqT K H a xs∧(cutV xs lo hi=xs→Q (.ref a) H)∧∀ p,H p=none→Q (.ref p) (upd H p (.tup (cutV xs lo hi)))
theorem sl_tupW:SlR X (rSlW X.K):=by
  intro pins s σ H x v vl vu lo hi sl Q I rx hs pl pu h
  obtain ⟨a,xs,rfl,hx,q1,q2⟩:=h
  by_cases hw:HT.sIx xs.length 0 lo=0∧HT.sIx xs.length xs.length hi=xs.length
  · cases (show v=Value.ref a from rx)
    obtain ⟨its,r,ht,hz⟩:=I.tuple hx
    have hlen:its.toArray.size=xs.length:=by rw [List.size_toArray];exact r.length.symm
    refine ⟨"tuple",_,PyProof.Rows.slot_tuple_getitem.lookup,ht.typeIs,?_⟩
    have e:cutV xs lo hi=xs:=by
      unfold cutV
      rw [hw.1,hw.2,List.drop_zero,Nat.sub_zero,List.take_length]
    refine HT.tup_slice ht hs (fun A' Q' E' q'=>HT.sliceApplied_gen hs pl pu q') (fun _=>⟨.ref a,H,I,rfl,q1 e⟩) fun hn=>(hn ?_).elim
    rw [hlen,hw.1,hw.2]
    simp
  · exact sl_tup pins s σ H _ v vl vu lo hi sl Q I rx hs pl pu ⟨a,xs,rfl,hx,hw,q2⟩
end
end L2
namespace L2
open PySem PySem.Spec PyProof.Rows PySem.SeqAt
section
variable {X:Cx}
end
section
variable {X:Cx} {CX:CXT} {k:Nat} {f C:Addr} {fd:FuncData} {ps:List Str} {sp:Sp} {E:XK}
end
end L2
namespace L2
open PySem PySem.Spec PyProof.Rows PySem.SeqAt
section
variable {X:Cx} {pins:List (Addr×Obj)} {σ:St} {H:Hp} {s:Shared} {h':Heap}
theorem Inv.turnLaid {a:Addr} {o:HO} {t':Nat} {fp:List Addr} (I:Inv X pins σ H s) (k:∀ b u,b∉fp→s.heap.get? b=some u→h'.get? b=some u) (ke:∀ b∈fp,∃ u,h'.get? b=some u) (hf:∀ b∈fp,FpOk X pins H b) (hp:s.heap.objs.size≤a) (new:ObjOk X.prog X.w (upd H a o) h' a o) :
    Inv X pins σ (upd H a o) { s with heap:=h',toks:=t' }:=by
  have hn:H a=none:=I.hok.fresh hp
  have off:∀ b u,H b=some u→b∉fp:=fun b u e z=>by rw [(hf b z).1] at e;cases e
  have up:∀ b u,H b=some u→(upd H a o) b=some u:=fun b u e=>by rw [upd_ne (ne_of_none e hn)];exact e
  refine I.step (g':=s.gens) (d':=s.drawn) (ch:=fp) (fun b hb=>?_) (fun b u _ _ hc e _=>k b u hc e) (fun b u _ _ hc e _=>⟨u.slots,k b u hc e⟩) (fun b u _ e n=>?_) (fun b u hc e=>⟨u,k b u hc e⟩) (fun b xs e=>up b _ e) (fun b u z e=>up b _ e) (fun b ps e=>⟨#[],by rw [up b _ e];simp⟩) (fun m hm=>?_) (fun b u e=>?_) I.bare
  · obtain ⟨_,f1,_,f3,f4,f5⟩:=hf b hb
    exact ⟨f3,f1,f4,f5⟩
  · rw [upd_ne (Nat.ne_of_lt (Nat.lt_of_lt_of_le (Heap.lt_size e) hp))];exact n
  · obtain ⟨u,es,ep,ho,r⟩:=hm
    exact ⟨u,es,ep,k _ u (fun z=>(hf _ z).2.1 rfl) ho,r⟩
  · by_cases hb:b=a
    · subst hb;rw [upd_same] at e;cases e;exact new
    · rw [upd_ne hb] at e
      refine (I.hok b u e).stay (fun c v hc q=>k c v ?_ q) (fun c q=>up c _ q) fun c xs q=>up c _ q
      rcases hc with rfl|z
      · exact off _ u e
      · exact off c _ z
theorem bt_enumerate:bootBuiltins "enumerate" = some (.type "enumerate"):=by decide +kernel
end
end L2
namespace L2
open PySem PySem.Spec PyProof.Rows PySem.SeqAt
section
variable {M:Model} {A:Around} {E:Value→Shared→Prop} {s:Shared}
end
section
variable {X:Cx} {pins:List (Addr×Obj)} {σ:St} {H:Hp} {s:Shared} {e:Addr} {cls:Value} {dd:Option Addr}
end
section
variable {P:Program} {w:World} {K:PySem.W.Frag} {mg:Str→Option Value} {base:Heap} {N:List Str} {qual:Str} {scope:Scope} {f:Addr} {cd:Value} {A:Around} {outer:List Env} {s:Shared} {H:Hp} {E:XK}
end
end L2
namespace L2
open PySem PySem.Spec PyProof.Rows PySem.SeqAt PySem.W
section
variable {prog:Program} {w:World} {A:Around} {C:Addr} {R:Result→Shared→Prop} {h:Heap} {g:Array GenState} {d:Drawn} {t:Nat} {os:OsState} {B newId initId:String} {bm:List Value}
end
end L2
namespace L2
open PySem PySem.Spec PyProof.Rows PySem.SeqAt PySem.W Builtin.ObjectAttr
section
variable {prog:Program} {w:World} {A:Around} {R:Result→Shared→Prop} {s:Shared} {K:Frag} {x C:Addr} {name:Str}
end
end L2
namespace L2
open PySem PySem.Spec PyProof.Rows PySem.SeqAt PySem.W Builtin.ObjectAttr
section
variable {prog:Program} {w:World} {A:Around} {E:Value→Shared→Prop} {s:Shared} {K:Frag} {x C:Addr} {name:Str} {v:Value} {tk:Tok} {Q:Fin→Shared→Prop} {vs:Array Value} {sl:Array (Option Value)}
end
section
variable {X:Cx} {pins:List (Addr×Obj)} {σ:St} {H:Hp} {s:Shared} {e C:Addr} {f:Str} {B newId:String} {A:Around} {E:Value→Shared→Prop} {y:V} {u:Value} {Q:Unit→Shared→Prop}
end
end L2
namespace L2
open PySem PySem.Spec PyProof.Rows PySem.SeqAt PySem.W Builtin.ObjectAttr
section
variable {X:Cx} {CX:CXT} {k:Nat} {f C:Addr} {fd:FuncData} {ps:List Str} {sp:Sp} {dvs:List V} {ds:List Value} {E:XK} {B newId initId:String} {bm:List Value}
end
end L2
namespace L2
open PySem PySem.Spec PyProof.Rows PySem.SeqAt PySem.W Builtin.ObjectAttr
section
variable {X:Cx} {pins:List (Addr×Obj)} {σ:St} {H:Hp} {s:Shared} {e C:Addr} {dd:Option Addr}
end
end L2
namespace L2
open PySem PySem.Spec PyProof.Rows PySem.SeqAt PySem.W Builtin.ObjectAttr
section
variable {X:Cx} {pins:List (Addr×Obj)} {σ:St} {H:Hp} {s:Shared} {e C:Addr} {f:Str} {B newId initId:String} {bm:List Value} {A:Around} {E:Value→Shared→Prop} {y:V} {u:Value} {Q:Unit→Shared→Prop}
end
end L2
namespace L2
open PySem PySem.Spec PyProof.Rows PySem.SeqAt PySem.W Builtin.ObjectAttr
section
variable {X:Cx} {CX:CXT} {k:Nat} {f C CS:Addr} {fd:FuncData} {ps:List Str} {sp:Sp} {dvs:List V} {ds:List Value} {E:XK} {m tn cn:Str} {T id:String} {p pos apos:Pos} {e:Expr} {es:List Expr} {t:TA} {r:List V→Hp→VK→Prop} {mc:Value}
end
end L2
namespace L2
open PySem PySem.Spec PyProof.Rows
section
variable {X:Cx} {pins:List (Addr×Obj)} {σ:List (Option V)} {H H':Hp} {s:Shared} {h':Heap}
end
end L2
namespace L2
open PySem PySem.Spec PyProof.Rows PySem.SeqAt PySem.W Builtin.ObjectAttr
section
variable {X:Cx} {pins:List (Addr×Obj)} {σ σ0:St} {H H0:Hp} {s s0:Shared} {e:Addr} {cls:Value} {dd:Option Addr}
end
end L2
namespace L2
open PySem PySem.Spec PyProof.Rows PySem.SeqAt PySem.W Builtin.ObjectAttr
section
variable {X:Cx} {pins:List (Addr×Obj)} {σ σ0:St} {H H0:Hp} {s s0:Shared} {e:Addr} {cls:Value} {dd:Option Addr}
end
section
variable {X:Cx} {pins:List (Addr×Obj)} {σ σ0:St} {H H0:Hp} {s s0:Shared} {e:Addr} {cls:Value} {dd:Option Addr}
end
end L2
namespace L2
open PySem PySem.Spec PyProof.Rows PySem.SeqAt PySem.W Builtin.ObjectAttr
section
variable {X:Cx}
end
section
variable {X:Cx}
end
end L2
namespace L2
open PySem PySem.Spec PyProof.Rows PySem.SeqAt PySem.W Builtin.ObjectAttr
section
variable {X:Cx}
end
end L2
namespace L2
open PySem PySem.Spec PyProof.Rows PySem.SeqAt PySem.W Builtin.ObjectAttr
section
variable {prog:Program} {w:World} {A:Around} {E:Value→Shared→Prop} {s:Shared} {K:Frag} {x C:Addr} {ox:Obj} {od:Option Obj} {name:Str} {expr:Bool} {Q:Value→Shared→Prop}
end
section
variable {X:Cx} {e:Expr} {f:Str} {pos:Pos} {ta:TE} {ea C:Addr} {oe:Obj} {dd:Option Addr}
end
end L2
namespace L2
open PySem PySem.Spec PyProof.Rows
end L2
namespace L2
open PySem PySem.Spec PyProof.Rows
section
variable {P:Program} {w:World} {K:PySem.W.Frag} {mg:Str→Option Value} {base:Heap}
end
section
variable {X:Cx} {e:Expr} {f:Str} {pos:Pos} {ta:TE} {ea C:Addr} {oe:Obj} {ps:List (Addr×Obj)} {dd:Option Addr}
end
end L2
namespace L2
open PySem PySem.Spec PyProof.Rows PySem.W
section
variable {P:Program} {w:World} {K:Frag} {mg:Str→Option Value} {base:Heap} {N:List Str} {qual:Str} {scope:Scope} {f:Addr} {cd:Value} {cl:List (Str×Addr)} {A:Around} {outer:List Env} {s:Shared} {H:Hp} {E:XK}
end
end L2
namespace L2
open PySem PySem.Spec PyProof.Rows PySem.W
section
variable {X:Cx} {pins:List (Addr×Obj)} {σ:St} {H:Hp} {s:Shared} {h':Heap} {P c':Addr} {ps more:Array Value} {qual:Str}
end
end L2
namespace L2
open PySem PySem.Spec PyProof.Rows PySem.W
section
variable {X:Cx} {CX:CXT} {k:Nat} {f C:Addr} {fd:FuncData} {ps:List Str} {sp:Shared→List Env→Sp} {E:XK} {x:Str} {p pos:Pos} {e:Expr} {es:List Expr} {t:TA}
end
end L2
namespace L2
open PySem PySem.Spec PyProof.Rows
end L2
namespace L2
open PySem PySem.Spec PyProof.Rows PySem.W
end L2
namespace L2
open PySem PySem.Spec PyProof.Rows PySem.SeqAt
section
variable {X:Cx}
end
end L2
namespace L2
open PySem PySem.Spec PyProof.Rows PySem.SeqAt
section
variable {X:Cx} {tg:Expr}
end
end L2
namespace L2
open PySem PySem.Spec PyProof.Rows PySem.SeqAt
section
variable {X:Cx}
end
end L2
namespace L2
open PySem PySem.Spec PyProof.Rows PySem.SeqAt
section
variable {prog:Program} {w:World} {A:Around} {E:Value→Shared→Prop} {s:Shared} {l:Addr} {x y:Value}
end
section
variable {X:Cx} {pos:Pos}
end
end L2
namespace L2
open PySem PySem.Spec PyProof.Rows PySem.SeqAt
section
variable {X:Cx} {CX:CXT} {k:Nat} {f C:Addr} {fd:FuncData} {ps ks:List Str} {sp:Sp} {E:XK} {x m:Str} {p pos apos kpos:Pos} {e o:Expr} {es:List Expr} {kws:List Keyword} {te ta:TE} {t tk:TA}
variable {g:List Value→List Value→List Value} {gV:List V→List V→List V}
end
end L2
namespace L2
open PySem PySem.Spec PyProof.Rows PySem.W
end L2
namespace L2
open PySem PySem.Spec PyProof.Rows PySem.W
end L2
namespace L2
open PySem PySem.Spec PyProof.Rows
theorem compTurn_dict (ke ve target iter:Expr) (ifs:List Expr) (scope:Scope) (pos:Pos) (it:Value) (d:Addr) (env:Env) :
    compTurn (.DictComp ke ve [⟨target,iter,ifs,0⟩] scope pos) 0 it (.ref d) env=(do
      standAt iter.pos
      match ← pyNext it with
      |none=>pure (.done .next)
      | some v=>
        letOwnedTupleGo target it v
        assign target env v
        let mut ok:=true
        for c in ifs do
          if ok then ok ← isTrue c env (eval c env)
        if ok then
          (do
            let kv ← eval ke env
            let vv ← holding [kv] (eval ve env)
            standAt { ke.pos with endLine:=ve.pos.endLine,endCol:=ve.pos.endCol }
            holding [kv,vv] (dictSet d kv vv))
        again (.compLoop (.DictComp ke ve [⟨target,iter,ifs,0⟩] scope pos) 0 it (.ref d) env)):=by rfl
theorem codeAny_compStart_dict {prog:Program} {w:World} {A:Around} {R:Result→Shared→Prop} {s:Shared} {ke ve target iter ifs rest scope pos it acc env}
    (h0:codeAny (model prog w) A (.compLoop (.DictComp ke ve (⟨target,iter,ifs,0⟩::rest) scope pos) 0 it acc env) R s)
    (h:wpAny (model prog w) A (pyIter it) (fun it' s'=>codeAny (model prog w) A (.compLoop (.DictComp ke ve (⟨target,iter,ifs,0⟩::rest) scope pos) 0 it' acc env) R s')
      (notedBy (model prog w) A env fun x s'=>R (.error x) s') s) :
    codeAny (model prog w) A (.compStart (.DictComp ke ve (⟨target,iter,ifs,0⟩::rest) scope pos) 0 it acc env) R s:=by
  refine codeAny_of_tree ?_
  show wpAny _ _ ((compStart (.DictComp ke ve (⟨target,iter,ifs,0⟩::rest) scope pos) 0 it acc env).onRaise (fun x=>do noteFrame x env;standAt theWindowsPlace)) _ _ s
  refine wpAny_notedAt ?_
  unfold compStart
  show wpAny _ _ (ask >>= _) _ _ s
  refine wpAny_bind (wpAny_askSetting (wpAny_ite ?_))
  split
  · first
      |exact wpAny_bind (wpAny_pure (wpAny_pure (And.intro rfl h0)))
      |exact wpAny_pure (And.intro rfl h0)
  · first
      |exact wpAny_bind (wpAny_rule (wpAny_bind (wpAny_standAt (wpAny_bind (wpAny_mono h (fun it' s' h'=>wpAny_pure (And.intro rfl h')) fun _ _ x=>x)))))
      |(refine wpAny_bind (wpAny_rule ?_);show wpAny _ _ (standAt iter.pos >>= _) _ _ s;exact wpAny_bind (wpAny_standAt (wpAny_bind (wpAny_mono h (fun it' s' h'=>wpAny_pure (And.intro rfl h')) fun _ _ x=>x))))
theorem d_dictSet {X:Cx} {pins:List (Addr×Obj)} {σ:St} {H:Hp} {s:Shared} {a:Addr} {y v:V} {u r:Value} {A:Around} {E:Value→Shared→Prop} {kvs:List (Key×V)} {k:Key} {Q:Unit→Shared→Prop} (I:Inv X pins σ H s) (e:H a=some (.dK kvs)) (ey:y=kV k) (l:kvs.length<sizeLine) (ry:RelV y u) (rv:RelV v r)
    (h:∀ s',Inv X pins σ (upd H a (.dK (putK kvs k v))) s'→Q () s'):wpAny (model X.prog X.w) A (dictSet a u r) Q E s:=by
  subst ey
  obtain ⟨z,hd,vs,rel,dd⟩:=dk_of I.hok e
  have hz:vs.length≤sizeLine:=by rw [← rel.length];exact z
  have hl:(putK kvs k v).length≤sizeLine:=by have:=length_putK kvs k v;omega
  refine wpAny_dictSet_pairs (hsz:=hz) (kV_is ry) dd fun h' dd' hs=>h _ ?_
  have he:∃ q,h'.get? a=some q:=let ⟨q,_,_,hq,_⟩:=dd';⟨q,hq⟩
  exact d_write I (by rw [e];exact True.intro) hs he (dk_new hl hd (rel.put k rv) dd')
def DTurn (J:It) (g:TG) (tt:TT) (tk tv:TE) (acc:Addr) (F:Hp→Prop) (W:Nat→Nat→St→Hp→Prop):Prop:=
  ∀ i m σ H,W i m σ H→(J.stop i H∧F H)∨(J.go i H∧∀ x H1,J.yld i H x H1→g x σ H1 fun σ2 H2=>tt σ2 H2 fun b H3=>
    if b=true then tk σ2 H3 fun y H4=>tv σ2 H4 fun z H5=>∃ kvs k,H5 acc=some (.dK kvs)∧y=kV k∧kvs.length<sizeLine∧∃ m',m'<m∧W (i+1) m' σ2 (upd H5 acc (.dK (putK kvs k z))) else ∃ m',m'<m∧W (i+1) m' σ2 H3)
theorem dcomp_loop {X:Cx} {scope:Scope} {N':List Str} {cl:List (Str×Addr)} {C acc it:Addr} {s₂:Shared} {H₂:Hp} {fp:List Addr} {tn:Nat→Heap→Prop} {J:It} {g:TG} {tt:TT} {tk tv:TE} {F:Hp→Prop}
    {ke ve tg iter:Expr} {ifs:List Expr} {pos:Pos} {R:Result→Shared→Prop} (W:Nat→Nat→St→Hp→Prop) (turn:DTurn J g tt tk tv acc F W) (T:Turn X.prog X.w X.K tg J fp it tn)
    (hg:PG (cxComp X scope N' cl C s₂ H₂ fp) tg g) (hc:PIfs (cxComp X scope N' cl C s₂ H₂ fp) ifs tt) (hk:PE (cxComp X scope N' cl C s₂ H₂ fp) ke tk) (hv:PE (cxComp X scope N' cl C s₂ H₂ fp) ve tv) (hcalm:X.calm=true)
    (hfp:∀ b∈fp,b≠C∧b∉frs X.stack∧(∀ x c,cl.lookup x=some c→c≠b))
    (hR:∀ s' σ' H',Inv (cxComp X scope N' cl C s₂ H₂ fp) [] σ' H' s'→F H'→R (.ok .next) s')
    {s:Shared} {σ:St} {H:Hp} {m:Nat} (I:Inv (cxComp X scope N' cl C s₂ H₂ fp) [] σ H s) (st:tn 0 s.heap) (fr:∀ b∈fp,H b=none) (w0:W 0 m σ H) :
    codeAny (model X.prog X.w) X.A (.compLoop (.DictComp ke ve [⟨tg,iter,ifs,0⟩] scope pos) 0 (.ref it) (.ref acc) (compEnvC scope cl C X.env)) R s:=by
  refine codeAny_loop rfl (fun n s'=>∃ i σ' H',Inv (cxComp X scope N' cl C s₂ H₂ fp) [] σ' H' s'∧tn i s'.heap∧(∀ b∈fp,H' b=none)∧W i n σ' H') (fun n s3 hI=>?_) m ⟨0,σ,H,I,st,fr,w0⟩
  obtain ⟨i,σ3,H3,I3,st3,fr3,w3⟩:=hI
  show wpAny _ X.A ((compTurn (.DictComp ke ve [⟨tg,iter,ifs,0⟩] scope pos) 0 (.ref it) (.ref acc) (compEnvC scope cl C X.env)).onRaise (fun x=>do noteFrame x (compEnvC scope cl C X.env);theTreesLotGoes x)) _ _ s3
  refine wpAny_noted ?_
  rw [compTurn_dict]
  have fpk:∀ {H':Hp},(∀ b∈fp,H' b=none)→∀ b∈fp,FpOk (cxComp X scope N' cl C s₂ H₂ fp) [] H' b:=fun hn b hb=>
    ⟨hn b hb,(hfp b hb).1,(hfp b hb).2.1,.inl hb,(hfp b hb).2.2,fun p hp'=>by
      have hp'':p∈([]:List (Addr×Obj))++[]:=hp'
      exact absurd hp'' (by simp)⟩
  have fp1:=fpk fr3
  refine wpAny_bind (wpAny_standAt (wpAny_bind ?_))
  rcases turn i n σ3 H3 w3 with ⟨stop,qn⟩|⟨go,step⟩
  · refine wpAny_mono (T.done (cxComp X scope N' cl C s₂ H₂ fp) rfl rfl rfl hcalm i _ s3 σ3 H3 (fun _ _=>False) I3 fp1 st3 stop) (fun r s4 ⟨hr,I4⟩=>?_) (fun _ _ z=>z.elim)
    subst hr
    exact wpAny_pure (hR s4 σ3 H3 I4 qn)
  · refine wpAny_mono (T.item (cxComp X scope N' cl C s₂ H₂ fp) rfl rfl rfl hcalm i _ s3 σ3 H3 (fun _ _=>False) I3 fp1 st3 go) (fun r s4 ⟨u,hr,h4⟩=>?_) (fun _ _ z=>z.elim)
    subst hr
    refine wpAny_bind (wpAny_mono h4 (fun _ s5 ⟨x,H5,I5,r5,y5,st5,fr5⟩=>?_) (fun _ _ z=>z.elim))
    have fp5:=fpk fr5
    have I5':=I5.pinned fp5 (T.obj _ _ st5)
    refine wpAny_bind (wpAny_mono (hg _ s5 σ3 H5 x u _ I5' r5 (step x H5 y5)) (fun _ s6 ⟨σ6,H6,I6,q6⟩=>?_) (fun _ _ z=>z.elim))
    refine wpAny_bind (wpAny_mono (hc _ s6 σ6 H6 _ I6 q6) (fun ok s7 ⟨H7,I7,q7⟩=>?_) (fun _ _ z=>z.elim))
    have again:∀ {s8:Shared} {σ8:St} {H8:Hp},Inv (cxComp X scope N' cl C s₂ H₂ fp) ([]++pinsAt fp s5.heap) σ8 H8 s8→tn (i+1) s8.heap∧∀ b∈fp,H8 b=none:=fun {s8 σ8 H8} I8=>
      ⟨T.keep _ _ _ st5 fun b hb o e=>(I8.pin (b,o) (List.mem_append_right _ (List.mem_append_right _ (mem_pinsAt hb e)))).1,fun b hb=>by
        obtain ⟨o,e,d⟩:=T.obj _ _ st5 b hb
        exact (I8.pin (b,o) (List.mem_append_right _ (List.mem_append_right _ (mem_pinsAt hb e)))).2.1⟩
    cases ok with
    | false=>
      rw [if_neg Bool.false_ne_true] at q7
      obtain ⟨m',hm,w7⟩:=q7
      obtain ⟨t1,t2⟩:=again I7
      exact wpAny_pure ⟨rfl,m',hm,i+1,σ6,H7,I7.unpinned,t1,t2,w7⟩
    | true=>
      rw [if_pos rfl] at q7
      refine wpAny_bind (wpAny_bind (wpAny_mono (hk _ s7 σ6 H7 _ I7 q7) (fun y s8 ⟨yv,H8,I8,r8,q8⟩=>?_) (fun _ _ z=>z.elim)))
      refine wpAny_bind (wpAny_holding (wpAny_mono (hv _ s8 σ6 H8 _ I8 q8) (fun y2 s9 ⟨zv,H9,I9,r9,kvs,k,e9,ek,hl,m',hm,w9⟩=>?_) (fun _ _ z=>z.elim)))
      refine wpAny_bind (wpAny_standAt (wpAny_holding ?_))
      refine d_dictSet (X:=cxComp X scope N' cl C s₂ H₂ fp) I9 e9 ek hl r8 r9 fun s10 I10=>?_
      obtain ⟨t1,t2⟩:=again I10
      exact wpAny_pure ⟨rfl,m',hm,i+1,σ6,_,I10.unpinned,t1,t2,w9⟩
def tDComp (wi:TI) (g:TG) (tt:TT) (tk tv:TE) (k:Nat) (js:List Nat):TE:=fun σ H Q=>wi σ H fun J H1=>∀ acc,H1 acc=none→∃ W:Nat→Nat→St→Hp→Prop,(∃ m,W 0 m (compSt k js σ) (upd H1 acc (.dK [])))∧
  DTurn J g tt tk tv acc (fun H2=>Q (.ref acc) H2) W
section
variable {X:Cx} {scope:Scope} {own:List Str} {js:List Nat} {N':List Str} {wi:TI} {g:TG} {tt:TT} {tk tv:TE} {ke ve tg iter:Expr} {ifs:List Expr} {pos:Pos}
theorem dcomp_run {pins:List (Addr×Obj)} {σ:St} {H:Hp} {s:Shared} {it:Addr} {fp:List Addr} {tn:Nat→Heap→Prop} {J:It} {cl:List (Str×Addr)} {F:Addr→Hp→Prop} {E:Value→Shared→Prop} {RR:Value→Addr→Result→Shared→Prop}
    (S:CompScope X scope own js N') (hcalm:X.calm=true) (hg:∀ cl C s₀ H₀ ex,PG (cxComp X scope N' cl C s₀ H₀ ex) tg g) (hc:∀ cl C s₀ H₀ ex,PIfs (cxComp X scope N' cl C s₀ H₀ ex) ifs tt) (hk:∀ cl C s₀ H₀ ex,PE (cxComp X scope N' cl C s₀ H₀ ex) ke tk) (hv:∀ cl C s₀ H₀ ex,PE (cxComp X scope N' cl C s₀ H₀ ex) ve tv)
    (hc1:∀ x c,cl.lookup x=some c→X.env.cells.lookup x=some c) (hc2:∀ x,(x,NameKind.free)∈scope.names→∃ c,cl.lookup x=some c)
    (I:Inv X pins σ H s) (T:Turn X.prog X.w X.K tg J fp it tn) (st:tn 0 s.heap) (hf:∀ b∈fp,FpOk X pins H b)
    (hW:∀ acc,H acc=none→∃ W:Nat→Nat→St→Hp→Prop,(∃ m,W 0 m (compSt own.length js σ) (upd H acc (.dK [])))∧DTurn J g tt tk tv acc (F acc) W)
    (fin:∀ acc C H' s' m,Inv X pins σ H' s'→s'.heap.Ns C m→H' C=none→C≠X.env.locals→X.s₀.heap.objs.size≤C→(∀ x c,X.env.cells.lookup x=some c→c≠C)→(∀ p∈X.pn++pins,p.1≠C)→F acc H'→RR (.ref acc) C (.ok .next) s') :
    wpAny (model X.prog X.w) X.A newDict (fun acc s₃=>wpAny (model X.prog X.w) X.A (newFunctionEnv scope X.env.globals cl [] X.env.qual none .none (some X.env)) (fun cenv s₄=>
      codeAny (model X.prog X.w) X.A (.compStart (.DictComp ke ve [⟨tg,iter,ifs,0⟩] scope pos) 0 (.ref it) acc { cenv with scope:=relabel scope X.env }) (RR acc cenv.locals) s₄) E s₃) E s:=by
  refine wpAny_newObj_type (wpAny_newFunctionEnv S.nocell (by intro y hy;simp at hy) (fun h₁ hns₁ hsb₁=>?_) S.kind)
  dsimp only at hns₁ hsb₁ ⊢
  have hHA:H s.heap.objs.size=none:=I.hok.fresh (Nat.le_refl _)
  have IL:Inv X pins σ (upd H s.heap.objs.size (.dK [])) { s with heap:=s.heap.push { cls:=.type "dict",data:=.dict #[] },toks:=s.toks }:=I.laid (a:=s.heap.objs.size) (o:=.dK []) (t':=s.toks) (fun _ _ q=>Heap.get?_push_of_some _ q) (Nat.le_refl _) (dk_empty s.heap I.big)
  obtain ⟨W,⟨m0,w0⟩,turn⟩:=hW _ hHA
  have stL:tn 0 (s.heap.push { cls:=.type "dict",data:=.dict #[] }):=T.keep _ _ _ st fun b hb o e=>Heap.get?_push_of_some _ e
  have fpLt0:∀ b∈fp,b<s.heap.objs.size:=fun b hb=>by
    obtain ⟨o,e,_⟩:=T.obj _ _ st b hb
    exact Heap.lt_size e
  have hfL:∀ b∈fp,FpOk X pins (upd H s.heap.objs.size (.dK [])) b:=fun b hb=>by
    obtain ⟨f0,f⟩:=hf b hb
    exact ⟨by rw [upd_ne (Nat.ne_of_lt (fpLt0 b hb))];exact f0,f⟩
  generalize hH2:s.heap.push { cls:=.type "dict",dict:=none,data:=.dict #[] }=H2 at hns₁ hsb₁ IL stL ⊢
  have hC:H2.objs.size=s.heap.objs.size+1:=by rw [← hH2,Heap.size_push]
  generalize hHn:upd H s.heap.objs.size (.dK [])=HL at IL hfL w0
  generalize hAn:s.heap.objs.size=acc at *
  have below:∀ b,b<H2.objs.size→b≠H2.objs.size:=fun b hb=>Nat.ne_of_lt hb
  have old:∀ b o,H2.get? b=some o→h₁.get? b=some o:=fun b o e=>hsb₁.extBut b o (below b (Heap.lt_size e)) (Heap.get?_push_of_some _ e)
  generalize hCn:H2.objs.size=C at *
  have cellLt:∀ x c,X.env.cells.lookup x=some c→c<C:=fun x c e=>by
    obtain ⟨v,q⟩:=IL.cell x c e
    rw [← hCn];exact q.lt
  have pinLt:∀ p∈X.pn++pins,p.1<C:=fun p hp=>by rw [← hCn];exact Heap.lt_size (IL.pin p hp).1
  have fpLt:∀ b∈fp,b<C:=fun b hb=>Nat.lt_of_lt_of_le (fpLt0 b hb) (by rw [hC];exact Nat.le_succ _)
  have hHC:HL C=none:=IL.hok.fresh (by show H2.objs.size≤C;rw [hCn];exact Nat.le_refl _)
  have I1:Inv (cxComp X scope N' cl C { s with heap:=H2,toks:=s.toks } HL fp) [] (compSt own.length js σ) HL { s with heap:=h₁,toks:=s.toks+([]:List (Str×Value)).length }:=
    Inv.comp S IL hc1 hc2 (by show H2.objs.size≤C;rw [hCn];exact Nat.le_refl _) hns₁ old (fun b hb=>⟨hfL b hb,by show b<H2.objs.size;rw [hCn];exact fpLt b hb⟩) hHC fun b o e=>below b (by rw [← hCn];exact Heap.lt_size e)
  have st1:tn 0 h₁:=T.keep _ _ _ stL fun b hb o e=>old b o e
  have loop:∀ s₃:Shared,s₃={ s with heap:=h₁,toks:=s.toks+([]:List (Str×Value)).length }→
      codeAny (model X.prog X.w) X.A (.compLoop (.DictComp ke ve [⟨tg,iter,ifs,0⟩] scope pos) 0 (.ref it) (.ref acc) (compEnvC scope cl C X.env)) (RR (.ref acc) C) s₃:=by
    rintro s₃ rfl
    refine dcomp_loop W turn T (hg _ _ _ _ _) (hc _ _ _ _ _) (hk _ _ _ _ _) (hv _ _ _ _ _) hcalm
      (fun b hb=>⟨below b (fpLt b hb),fun z=>?_,fun x c e z=>(hfL b hb).2.2.2.2.1 x c (hc1 x c e) z⟩) ?_ I1 st1 (fun b hb=>(hfL b hb).1) w0
    · rcases List.mem_cons.mp (IL.stkSub b z) with q|q
      · exact (hfL b hb).2.1 q
      · exact (hfL b hb).2.2.1 q
    · intro s' σ' H' J' q
      obtain ⟨m,hm,_⟩:=J'.loc
      have IX:Inv X pins σ H' s':=IL.call' J'.os J'.base J'.hok J'.bare fun b hb=>⟨(hfL b hb).2.2.2.1,(hfL b hb).2.1,(hfL b hb).2.2.2.2.1,(hfL b hb).2.2.2.2.2⟩
      refine fin acc C H' s' m IX hm J'.free ?_ ?_ ?_ ?_ q
      · exact Nat.ne_of_gt (Nat.lt_of_lt_of_le IL.lt (by show H2.objs.size≤C;rw [hCn];exact Nat.le_refl _))
      · exact Nat.le_trans IL.sz (by show H2.objs.size≤C;rw [hCn];exact Nat.le_refl _)
      · exact fun x c e z=>absurd (cellLt x c e) (by rw [z];exact Nat.lt_irrefl _)
      · exact fun p hp z=>absurd (pinLt p hp) (by rw [z];exact Nat.lt_irrefl _)
  exact codeAny_compStart_dict (loop _ rfl) (T.self _ 0 _ _ _ st1 (loop _ rfl))
theorem ps_setDComp {i:Nat} {x:Str} {pos' spos:Pos} (S:CompScope X scope own js N') (hcalm:X.calm=true) (hN:X.N.Nodup) (hx:X.N[i]?=some x) (hk:X.env.scope.names.lookup x=some .local) (hi:PI X tg iter wi) (hg:∀ cl C s₀ H₀ ex,PG (cxComp X scope N' cl C s₀ H₀ ex) tg g) (hc:∀ cl C s₀ H₀ ex,PIfs (cxComp X scope N' cl C s₀ H₀ ex) ifs tt)
    (hke:∀ cl C s₀ H₀ ex,PE (cxComp X scope N' cl C s₀ H₀ ex) ke tk) (hve:∀ cl C s₀ H₀ ex,PE (cxComp X scope N' cl C s₀ H₀ ex) ve tv) (hsw:swapsWith (.DictComp ke ve [⟨tg,iter,ifs,0⟩] scope pos) (some (.Name x pos')) spos.line X.env=pure true:=by rfl) (hs:∀ x,foldedSetIterable iter X.env x=pure x:=by intro _;rfl) :
    PS X (.Assign [.Name x pos'] (.DictComp ke ve [⟨tg,iter,ifs,0⟩] scope pos) spos) (tAsg (tDComp wi g tt tk tv own.length js) (gName i)):=by
  intro pins s σ H D I h
  obtain ⟨cl,hcl,hc1,hc2⟩:=closure_ok (env:=X.env) scope fun y hy hk=>I.ok.has y.1 (S.free y hy hk)
  rw [exec_Assign_Name_used _ _ _ _ hsw]
  refine wpAny_bind (wpAny_standAt (wpAny_bind ?_))
  show wpAny _ X.A (do let _ ← comprehension (.DictComp ke ve [⟨tg,iter,ifs,0⟩] scope pos) scope X.env _ newDict false (eval iter X.env) (some (assign (.Name x pos') X.env))) _ _ s
  refine wpAny_bind (wpAny_mono (wpAny_comprehension_free (use:=some (assign (.Name x pos') X.env)) (Q:=fun _ s'=>SP X pins D .next s') rfl hs hcl S.kind S.names
    (thn (hi pins s σ H _ I h) fun v s1 h1=>thn h1 fun itv s2 h2=>?_)) (fun _ s' hq=>wpAny_pure (wpAny_pure hq)) fun _ _ e=>e)
  obtain ⟨it,fp,tn,J,H2,e,I2,T,st2,f2,hW⟩:=h2
  subst e
  refine dcomp_run (RR:=fun acc C=>compPost (model X.prog X.w) X.A X.xe (some (assign (.Name x pos') X.env)) (fun _ s'=>SP X pins D .next s') acc C) S hcalm hg hc hke hve hc1 hc2 I2 T st2 f2 hW ?_
  intro acc C H' s' m IX hm hCn hL hz hcn hpn q
  show wpAny _ X.A (assign (.Name x pos') X.env (.ref acc)) _ _ s'
  refine wpAny_assign_Name (store_ok2 IX hN hx (.inl hk) (v:=.ref acc) rfl (fun s'' I'' hsb=>?_) (.inr hk))
  obtain ⟨a,hsb,ha⟩:=hsb
  have haC:C≠a:=by
    rcases ha with z|z
    · rw [z];exact hL
    · exact fun q=>hcn x a z q.symm
  refine ⟨m,hm.sameBut hsb haC,fun h' hs'=>⟨_,_,?_,q⟩⟩
  exact I''.turned (t':=s''.toks) (it:=C) (fun b o hb e=>(hs'.2 b hb).trans e) hCn hL (.inr hz) hcn hpn
end
end L2
namespace L2
open PySem PySem.Spec PyProof.Rows PySem.SeqAt
theorem len1 {α:Type} {us:List α} (h:us.length=1):∃ a,us=[a]:=List.length_eq_one_iff.mp h
theorem len2 {α:Type} {us:List α} (h:us.length=2):∃ a b,us=[a,b]:=by
  cases us with
  |nil=>cases h
  | cons a r=>
    obtain ⟨b,rfl⟩:=len1 (us:=r) (by simpa using h)
    exact ⟨a,b,rfl⟩
theorem len3 {α:Type} {us:List α} (h:us.length=3):∃ a b c,us=[a,b,c]:=by
  cases us with
  |nil=>cases h
  | cons a r=>
    obtain ⟨b,c,rfl⟩:=len2 (us:=r) (by simpa using h)
    exact ⟨a,b,c,rfl⟩
end L2
namespace L2
open PySem PySem.Spec PyProof.Rows
end L2
namespace L2
open PySem PySem.Spec PyProof.Rows
theorem vals_nums:∀ {ns:List Int} {us:List Value},Vals (ns.map V.int) us→∃ ps:List (Int×Tok),us=ps.map (fun p=>Value.int p.1 p.2)∧ps.map (·.1)=ns
  |[],_,r=>by rw [List.map_nil] at r;cases r;exact ⟨[],rfl,rfl⟩
  | n::ns,_,r=>by
    rw [List.map_cons] at r
    cases r with
    | cons h t=>
      obtain ⟨tk,rfl⟩:=(show ∃ t,_=Value.int n t from h)
      obtain ⟨ps,e1,e2⟩:=vals_nums t
      exact ⟨(n,tk)::ps,by rw [e1];rfl,by rw [List.map_cons,e2]⟩
theorem numAt_eq {ps:List (Int×Tok)} {ns:List Int} (e:ps.map (·.1)=ns) {i:Nat} (h:i<ns.length):numAt ps.toArray i=ns[i]:=by
  subst e
  unfold numAt
  simp at h ⊢
  rw [List.getElem?_eq_getElem h]
  rfl
theorem items_eq {ps:List (Int×Tok)}:(ps.map (fun p=>Value.int p.1 p.2)).toArray=intItems ps.toArray:=by
  unfold intItems
  simp
section
variable {X:Cx}
theorem call_maxL (hc:X.calm=true):CallR X (.builtin "max") (fun xs H Q=>∃ p ns,xs=[.ref p]∧SqL X.K H p (ns.map V.int)∧ns≠[]∧∀ b,b∈ns→(∀ x∈ns,x≤b)→Q (.int b) H):=by
  intro pins s σ H xs us Q I r h
  obtain ⟨p,ns,rfl,hq,hne,q⟩:=h
  obtain ⟨u,rfl,ru⟩:=vals1 r
  cases (show u=Value.ref p from ru)
  obtain ⟨its,rv,pl,hz⟩:=I.list hq
  obtain ⟨ps,rfl,e⟩:=vals_nums rv
  have hl:ps.length=ns.length:=by rw [← e,List.length_map]
  have hpos:0<ns.length:=List.length_pos_iff.mpr hne
  have pl':=pl.isList
  rw [items_eq] at pl'
  refine max_intList (I.ok.hd hc) pl' (by simp;omega) fun v h' tk hv k=>?_
  have hb:=argBest_gt (numAt ps.toArray) (ps.toArray.size-1)
  generalize argBest (fun i j=>decide (numAt ps.toArray i > numAt ps.toArray j)) (ps.toArray.size-1)=m at hv hb
  have hm:m<ns.length:=by have:=hb.1;simp at this;omega
  obtain ⟨t,rfl⟩:=intItems_at hv
  rw [numAt_eq e hm]
  refine ⟨.int ns[m],H,I.kept k,⟨_,rfl⟩,q _ (List.getElem_mem hm) fun x hx=>?_⟩
  obtain ⟨j,hj,rfl⟩:=List.getElem_of_mem hx
  have:=hb.2 j (by simp;omega)
  rw [numAt_eq e hj,numAt_eq e hm] at this
  exact this
end
end L2
namespace L2
open PySem PySem.Spec PyProof.Rows
end L2
namespace L2
open PySem PySem.Spec PyProof.Rows PySem.SeqAt
def EvE (t:TE) (σ:St) (H:Hp) (v:V):Prop:=∀ Q:VK,Q v H→t σ H Q
def EvT (t:TT) (σ:St) (H:Hp) (b:Bool):Prop:=∀ Q:Bool→Hp→Prop,Q b H→t σ H Q
section
variable {σ:St} {H:Hp} {ta tb tc:TE} {t u:TT} {x y z v:V} {r r':R2} {k k':Bool} {f:TF} {m n:Nat}
end
end L2
namespace L2
open PySem PySem.Spec PyProof.Rows PySem.SeqAt
variable {X:Cx}
def rNeL (K:PySem.W.Frag):R2:=fun x y H Q=>∃ d e,Rep K H x (.list d)∧Rep K H y (.list e)∧pdDeps d≤60∧Q (.bl (!pdEqs d e)) H
theorem op_neL (hu:X.A.units+64<cLine):OpR X (compareOp .NotEq) (rNeL X.K):=by
  intro pins s σ H x y v u Q I rx ry h
  obtain ⟨d,e,h1,h2,hd,q⟩:=h
  cases h1 with
  | lst g1 rs1=>
    cases h2 with
    | lst g2 rs2=>
      cases (show v=Value.ref _ from rx)
      cases (show u=Value.ref _ from ry)
      obtain ⟨its1,rv1,p1,_⟩:=I.list g1
      obtain ⟨its2,rv2,p2,_⟩:=I.list g2
      have hz:=allEq (X:=X) (H:=H) (A:=X.A) rs1 rs2 rv1 rv2
      by_cases hs:its1.toArray.size=its2.toArray.size
      · have hw:=RcNeAt.lists (A:=X.A) p1.isList p2.isList hs (by omega)
          (e:=fun j=>pdEq (d.getD j .none) (e.getD j .none)) (fun j h1 h2=>by simpa using eqs_at I rs1 rs2 rv1 rv2 (A:=X.A.in1) (by show X.A.units+1+_<_;omega) j (by simpa using h1) (by simpa using h2))
        rw [← hs,Nat.min_self,beq_self_eq_true,Bool.and_true] at hz
        rw [hz] at hw
        exact hw _ _ _ _ ⟨.bl _,H,I,rfl,q⟩
      · have hw:=RcNeAt.lists_lengths (A:=X.A) p1.isList p2.isList (by simpa using hs) (by omega)
        have:pdEqs d e=false:=by
          rw [← hz,beq_eq_false_iff_ne.mpr hs,Bool.and_false]
        rw [this] at q
        exact hw _ _ _ _ ⟨.bl _,H,I,rfl,q⟩
section
variable {σ:St} {H:Hp} {ta tb:TE} {k k':Bool} {x y:V}
end
end L2
namespace L2
open PySem PySem.Spec PyProof.Rows PySem.SeqAt
section
variable {X:Cx}
end
end L2
namespace L2
open PySem PySem.Spec PyProof.Rows PySem.SeqAt
section
variable {X:Cx}
end
end L2
namespace L2
open PySem PySem.Spec PyProof.Rows PySem.SeqAt
section
variable {X:Cx}
end
end L2
namespace L2
open PySem PySem.Spec PyProof.Rows
section
variable {X:Cx} {pins:List (Addr×Obj)} {σ:St} {H:Hp} {s:Shared}
end
section
variable {X:Cx} {scope:Scope} {own:List Str} {js:List Nat} {N':List Str} {wi:TI} {g:TG} {tt:TT} {te:TE} {elt tg iter:Expr} {ifs:List Expr} {pos:Pos}
end
end L2
namespace L2
open PySem
end L2
namespace L2
open PySem PySem.Spec PyProof.Rows PySem.SeqAt
section
variable {prog:Program} {w:World} {A:Around} {E:Value→Shared→Prop} {s:Shared}
end
end L2
namespace L2
open PySem PySem.Spec PyProof.Rows PySem.SeqAt
section
variable {prog:Program} {w:World} {A:Around} {E:Value→Shared→Prop} {s:Shared}
end
end L2
namespace L2
open PySem PySem.Spec PyProof.Rows PySem.SeqAt
end L2
namespace L2
open PySem PySem.Spec PyProof.Rows PySem.SeqAt
variable {X:Cx}
end L2
namespace L2
open PySem PySem.Spec PyProof.Rows PySem.W PyProof.V
section
variable {X:Cx} {pins:List (Addr×Obj)} {σ:St} {H:Hp} {s:Shared} {a:Addr} {D:List (Str×PyData)}
end
end L2
namespace L2
open PySem PySem.Spec PyProof.Rows PySem.SeqAt PySem.Builtin PySem.Builtin.Str
section
variable {X:Cx}
end
end L2
namespace L2
open PySem PySem.Spec PyProof.Rows PySem.SeqAt
section
variable {X:Cx}
end
end L2
namespace L2
open PySem PySem.Spec PyProof.Rows PySem.SeqAt
section
variable {X:Cx}
end
end L2
namespace L2
open PySem PySem.Spec PyProof.Rows PySem.SeqAt PySem.Builtin PySem.Builtin.Str
section
variable {X:Cx}
end
section
variable {X:Cx}
end
section
variable {X:Cx}
end
end L2
namespace L2
open PySem PySem.Spec PyProof.Rows PySem.SeqAt PySem.Builtin PySem.Builtin.Str
section
variable {X:Cx}
end
end L2
namespace L2
open PySem PySem.Spec PyProof.Rows PySem.SeqAt
section
variable {X:Cx}
end
end L2
namespace L2
open PySem PySem.Spec PyProof.Rows PySem.SeqAt
section
variable {X:Cx} {pins:List (Addr×Obj)} {σ:St} {H:Hp} {s:Shared} {h':Heap}
theorem drawsI {prog:Program} {w:World} {A:Around} (hh:A.handled=none) (it l:Addr) (hne:l≠it) (items:Array Value) (i0:Nat) (h0:items.size≤i0):Draws prog w A it [it,l] 0 (fun i v=>False) (fun i h=>h.IsListIter it l i0∧h.IsList l items) where
  live:=fun _ _ st=>let ⟨o,ho,_⟩:=st.1;⟨o,ho⟩
  frame:=fun _ _ _ st hk=>⟨st.1.at fun o e=>hk it (by simp) o e,st.2.at fun o e=>hk l (by simp) o e⟩
  item:=fun i s Q E hi=>absurd hi (Nat.not_lt_zero _)
  done:=fun s Q E st hE=>wpAny_nextOf_list_end hh st.1 st.2 (by simp [h0]) hE
def IteL (K:PySem.W.Frag) (a:Addr):It:=
  ⟨fun i H=>∃ xs x,SqL K H a xs∧xs[i]?=some x,fun i H v H'=>∃ p x,H p=none∧v=.ref p∧(∀ xs,SqL K H a xs→xs[i]?=some x)∧H'=upd H p (.tup [.int i,x]),fun i H=>∃ xs,SqL K H a xs∧xs.length≤i⟩
theorem turn_enumL {P:Program} {w:World} {K:PySem.W.Frag} {elts:List Expr} {k1} {pos:Pos} (a e it:Addr) (hei:e≠it):Turn P w K (.Tuple elts k1 pos) (IteL K a) [e,it] e (fun i h=>(∃ old,IsEnum h e it i old)∧h.IsListIter it a i) where
  mem:=by simp
  obj:=fun i h st b hb=>by
    obtain ⟨⟨old,h1⟩,o,h2,_,h3⟩:=st
    rcases List.mem_cons.mp hb with rfl|hb
    · exact ⟨_,h1,fun v z=>by cases (show Data.fields _=Data.cell v from z)⟩
    · cases List.mem_singleton.mp hb
      exact ⟨o,h2,fun v z=>by rw [h3] at z;cases z⟩
  keep:=fun i h h' st k=>⟨let ⟨old,h1⟩:=st.1;⟨old,k e (by simp) _ h1⟩,st.2.at fun o z=>k it (by simp) o z⟩
  item:=by
    intro X hP hw hK hc i pins s σ H E I hf st hg
    subst hP hw hK
    obtain ⟨xs,x,hq,hx⟩:=hg
    obtain ⟨its,rv,p,hz⟩:=I.list hq
    obtain ⟨u,hu,ru⟩:=rv.get hx
    obtain ⟨⟨old,he⟩,ht⟩:=st
    have hit:s.heap.IsList a its.toArray:=p.isList
    have han:a≠it:=by
      rintro rfl
      obtain ⟨o1,h1,h2,_⟩:=id hit
      obtain ⟨o2,h3,h4,_⟩:=id ht
      rw [h1] at h3;cases h3
      rw [h2] at h4;exact absurd (Value.type.inj h4) (by decide)
    have hae:a≠e:=by
      rintro rfl
      obtain ⟨o1,h1,h2,_⟩:=id hit
      rw [he] at h1;cases h1
      exact absurd (Value.type.inj h2) (by decide)
    have D:=Draws.list (prog:=X.prog) (w:=X.w) (A:=X.A.in1) (I.ok.hd hc) it a han its.toArray
    have hlt:i<its.toArray.size:=by
      have:=(List.getElem?_eq_some_iff.mp hx).1
      have hl:=rv.length
      rw [List.size_toArray];omega
    refine wpAny_pyNext_enum_itemD D he ⟨ht,hit⟩ hlt hei (by simp [hei,Ne.symm hae]) fun y g tk hy ho hst' htup hsz hk=>?_
    have e1:y=u:=by
      have:its.toArray[i]?=some u:=by simpa using hu
      rw [this] at hy;exact (Option.some.inj hy).symm
    subst e1
    refine ⟨_,rfl,?_⟩
    have helt:e<s.heap.objs.size:=Heap.lt_size he
    have hilt:it<s.heap.objs.size:=let ⟨o,z,_⟩:=ht;Heap.lt_size z
    have I1:Inv X pins σ (upd H s.heap.objs.size (.tup [.int i,x])) { s with heap:=g,toks:=tk+1 }:=by
      refine I.turnLaid (fp:=[e,it]) (fun b o hb z=>hk b o (fun q=>hb (by simp [q])) (fun q=>hb (by simp [q])) z) (fun b hb=>?_) hf (Nat.le_refl _) ?_
      · rcases List.mem_cons.mp hb with rfl|hb
        · exact ⟨_,ho⟩
        · cases List.mem_singleton.mp hb
          exact let ⟨o,z,_⟩:=hst'.1;⟨o,z⟩
      · exact ⟨by show 2≤sizeLine;decide,[.int i tk,y],.cons ⟨_,rfl⟩ (.cons ru .nil),⟨_,htup,rfl,_,rfl⟩⟩
    have hno:∀ b∈[e,it],(upd H s.heap.objs.size (.tup [.int i,x])) b=none:=fun b hb=>by
      have hbl:b<s.heap.objs.size:=by
        rcases List.mem_cons.mp hb with rfl|hb
        · exact helt
        · cases List.mem_singleton.mp hb;exact hilt
      rw [upd_ne (Nat.ne_of_lt hbl)]
      exact (hf b hb).1
    refine wpAny_letOwnedTupleGo_enum ho fun g2 he2 hs2=>?_
    obtain ⟨f0,f1,f2,f3,f4,f5⟩:=hf e (by simp)
    refine ⟨.ref s.heap.objs.size,_,I1.turned (t':=tk+1) (fun b o hb z=>(hs2.2 b hb).trans z) (hno e (by simp)) f1 f3 f4 f5,rfl,⟨s.heap.objs.size,x,I.hok.fresh (Nat.le_refl _),rfl,fun ys hy=>by rw [I.list_inj hy hq];exact hx,rfl⟩,⟨⟨_,by simpa using he2⟩,?_⟩,hno⟩
    exact hst'.1.at fun o z=>(hs2.2 it (Ne.symm hei)).trans z
  done:=by
    intro X hP hw hK hc i pins s σ H E I hf st hg
    subst hP hw hK
    obtain ⟨xs,hq,hx⟩:=hg
    obtain ⟨its,rv,p,hz⟩:=I.list hq
    obtain ⟨⟨old,he⟩,ht⟩:=st
    obtain ⟨f0,f1,f2,f3,f4,f5⟩:=hf it (by simp)
    have hl:=rv.length
    have hit:s.heap.IsList a its.toArray:=p.isList
    have han:a≠it:=by
      rintro rfl
      obtain ⟨o1,h1,h2,_⟩:=id hit
      obtain ⟨o2,h3,h4,_⟩:=id ht
      rw [h1] at h3;cases h3
      rw [h2] at h4;exact absurd (Value.type.inj h4) (by decide)
    have D:=drawsI (prog:=X.prog) (w:=X.w) (A:=X.A.in1) (I.ok.hd hc) it a han its.toArray i (by rw [List.size_toArray];omega)
    exact wpAny_pyNext_enum_endD D he ⟨ht,hit⟩ fun h' ex=>⟨rfl,I.turned (t':=s.toks) (fun b o hb e=>ex b o hb e) f0 f1 f3 f4 f5⟩
  self:=fun _ _ _ _ _ st h=>let ⟨_,he⟩:=st.1;wpAny_pyIter_enum he h
def iEnumL (K:PySem.W.Frag) (ta:TA):TI:=fun σ H R=>ta σ H fun vs H1=>∃ a,vs=[.ref a]∧(∃ xs,SqL K H1 a xs)∧R (IteL K a) H1
theorem pi_enumL {elts:List Expr} {k1} {pt:Pos} {a:Expr} {ta:TA} {p pos:Pos} (hg:Gl X "enumerate") (hm:X.mg "enumerate" = none) (hv:bootBuiltins "enumerate" = some (.type "enumerate")) (ha:PA X [a] ta) (hs:starEach [a] X.env=[(false,eval a X.env)]:=by rfl):PI X (.Tuple elts k1 pt) (.Call (.Name "enumerate" p) [a] [] pos) (iEnumL X.K ta):=by
  intro pins s σ H R I h
  refine Call_ (ld_blt I hg hm hv (PyProof.Rows.callWith_type1 (thn (ha pos pins s σ H _ I h) fun us s1 ⟨vs,H1,I1,r1,q1⟩=>?_) hs rfl))
  obtain ⟨l,rfl,⟨xs,hq⟩,q⟩:=q1
  obtain ⟨u,rfl,e⟩:=vals1 r1
  cases (show u=Value.ref l from e)
  obtain ⟨its,rv,hp,hz⟩:=I1.list hq
  refine call_enumerate_list hp.isList fun g he hi _ hk=>wpAny_pyIter_enum he ?_
  refine ⟨s1.heap.objs.size+1,[s1.heap.objs.size+1,s1.heap.objs.size],_,_,H1,rfl,I1.kept (t':=s1.toks) hk,turn_enumL l _ s1.heap.objs.size (Nat.succ_ne_self _),⟨⟨_,he⟩,hi⟩,fun b hb=>?_,q⟩
  rcases List.mem_cons.mp hb with rfl|hb
  · exact I1.fpOk (Nat.le_succ _) (I1.hok.fresh (Nat.le_succ _))
  · cases List.mem_singleton.mp hb
    exact I1.fpOk (Nat.le_refl _) (I1.hok.fresh (Nat.le_refl _))
theorem for_enumL {K:PySem.W.Frag} {a:Addr} {xs:List V} {g:TG} {tb:TS} {D:Ends} {σ:St} {H:Hp} (Pv:Nat→St→Hp→Prop) (h0:Pv 0 σ H) (hl:∀ i σ H,i≤xs.length→Pv i σ H→SqL K H a xs)
    (hs:∀ i x σ H p,xs[i]?=some x→Pv i σ H→H p=none→g (.ref p) σ (upd H p (.tup [.int i,x])) fun σ2 H2=>tb { D with nx:=Pv (i+1),ct:=Pv (i+1),bk:=D.nx } σ2 H2)
    (hd:∀ σ H,Pv xs.length σ H→D.nx σ H) :
    ∃ W:Nat→Nat→St→Hp→Prop,(∃ m,W 0 m σ H)∧∀ i m σ H,W i m σ H→((IteL K a).stop i H∧D.nx σ H)∨((IteL K a).go i H∧∃ N:St→Hp→Prop,(∀ σ' H',N σ' H'→∃ m',m'<m∧W (i+1) m' σ' H')∧∀ x H',(IteL K a).yld i H x H'→g x σ H' fun σ2 H2=>tb { D with nx:=N,ct:=N,bk:=D.nx } σ2 H2):=by
  refine ⟨fun i m σ H=>m=xs.length-i∧i≤xs.length∧Pv i σ H,⟨xs.length,by simp,Nat.zero_le _,h0⟩,?_⟩
  rintro i m σ H ⟨rfl,hi,p⟩
  have q:=hl i σ H hi p
  by_cases hlt:i<xs.length
  · refine .inr ⟨⟨xs,xs[i],q,by simp [hlt]⟩,Pv (i+1),fun σ' H' z=>⟨xs.length-(i+1),by omega,rfl,hlt,z⟩,?_⟩
    rintro x H' ⟨p',y,hn,rfl,hy,rfl⟩
    exact hs i y σ H p' (hy xs q) p hn
  · have e:i=xs.length:=by omega
    subst e
    exact .inl ⟨⟨xs,q,Nat.le_refl _⟩,hd σ H p⟩
end
end L2
namespace L2
open PySem PySem.Spec PyProof.Rows PySem.SeqAt PySem.Builtin PySem.Builtin.Str
section
variable {X:Cx}
end
section
variable {prog:Program} {w:World} {A:Around} {E:Value→Shared→Prop} {s:Shared} {l:Addr}
end
section
variable {X:Cx} {pos:Pos}
end
end L2
namespace L2
open PySem PySem.Spec PyProof.Rows PySem.SeqAt PySem.Builtin
variable {X:Cx} {pos:Pos}
end L2
namespace L2
open PySem PySem.Spec PyProof.Rows PySem.SeqAt PySem.W Builtin.ObjectAttr
end L2
namespace L2
open PySem PySem.Spec PyProof.Rows PySem.SeqAt PySem.W
variable {X:Cx}
end L2
namespace L2
open PySem PySem.Spec PyProof.Rows
def CTurnS (J:It) (g:TG) (tt:TT) (te:TE) (F:List V→St→Hp→Prop) (W:Nat→Nat→List V→St→Hp→Prop):Prop:=
  ∀ i m ys σ H,W i m ys σ H→(J.stop i H∧F ys σ H)∨(J.go i H∧ys.length<sizeLine∧∀ x H1,J.yld i H x H1→g x σ H1 fun σ2 H2=>tt σ2 H2 fun b H3=>
    if b=true then te σ2 H3 fun y H4=>∃ m',m'<m∧W (i+1) m' (ys++[y]) σ2 H4 else ∃ m',m'<m∧W (i+1) m' ys σ2 H3)
def CTurn2 (J:It) (g:TG) (tt:TT) (wi2:TI) (g2:TG) (tt2:TT) (te:TE) (F:List V→Hp→Prop) (W:Nat→Nat→List V→St→Hp→Prop):Prop:=
  ∀ i m ys σ H,W i m ys σ H→(J.stop i H∧F ys H)∨(J.go i H∧∀ x H1,J.yld i H x H1→g x σ H1 fun σ2 H2=>tt σ2 H2 fun b H3=>
    if b=true then wi2 σ2 H3 fun J2 H4=>∃ W2:Nat→Nat→List V→St→Hp→Prop,(∃ m2,W2 0 m2 ys σ2 H4)∧CTurnS J2 g2 tt2 te (fun ys' σ' H'=>∃ m',m'<m∧W (i+1) m' ys' σ' H') W2
    else ∃ m',m'<m∧W (i+1) m' ys σ2 H3)
theorem compTurn_in (elt:Expr) (g0:Comprehension) (target iter:Expr) (ifs:List Expr) (scope:Scope) (pos:Pos) (it acc:Value) (env:Env) :
    compTurn (.ListComp elt [g0,⟨target,iter,ifs,0⟩] scope pos) 1 it acc env=(do
      standAt iter.pos
      match ← pyNext it with
      |none=>pure (.done .next)
      | some v=>
        letOwnedTupleGo target it v
        assign target env v
        let mut ok:=true
        for c in ifs do
          if ok then ok ← isTrue c env (eval c env)
        if ok then
          (do let _ ← call (.builtin "list.append") [acc,← eval elt env])
        again (.compLoop (.ListComp elt [g0,⟨target,iter,ifs,0⟩] scope pos) 1 it acc env)):=by rfl
theorem compTurn_out (elt target iter:Expr) (ifs:List Expr) (target2 iter2:Expr) (ifs2:List Expr) (scope:Scope) (pos:Pos) (it acc:Value) (env:Env) :
    compTurn (.ListComp elt [⟨target,iter,ifs,0⟩,⟨target2,iter2,ifs2,0⟩] scope pos) 0 it acc env=(do
      standAt iter.pos
      match ← pyNext it with
      |none=>pure (.done .next)
      | some v=>
        letOwnedTupleGo target it v
        assign target env v
        let mut ok:=true
        for c in ifs do
          if ok then ok ← isTrue c env (eval c env)
        if ok then
          let x ← eval iter2 env
          standAt iter2.pos
          let x ← foldedSetIterable iter2 env x
          let _ ← runOwn (.compStart (.ListComp elt [⟨target,iter,ifs,0⟩,⟨target2,iter2,ifs2,0⟩] scope pos) 1 (← holding [x] (pyIter x)) acc env) env
        again (.compLoop (.ListComp elt [⟨target,iter,ifs,0⟩,⟨target2,iter2,ifs2,0⟩] scope pos) 0 it acc env)):=by rfl
theorem codeAny_compStart_in {prog:Program} {w:World} {A:Around} {R:Result→Shared→Prop} {s:Shared} {elt g0 target iter ifs scope pos it acc env}
    (h0:codeAny (model prog w) A (.compLoop (.ListComp elt [g0,⟨target,iter,ifs,0⟩] scope pos) 1 it acc env) R s)
    (h:wpAny (model prog w) A (pyIter it) (fun it' s'=>codeAny (model prog w) A (.compLoop (.ListComp elt [g0,⟨target,iter,ifs,0⟩] scope pos) 1 it' acc env) R s')
      (notedBy (model prog w) A env fun x s'=>R (.error x) s') s) :
    codeAny (model prog w) A (.compStart (.ListComp elt [g0,⟨target,iter,ifs,0⟩] scope pos) 1 it acc env) R s:=by
  refine codeAny_of_tree ?_
  show wpAny _ _ ((compStart (.ListComp elt [g0,⟨target,iter,ifs,0⟩] scope pos) 1 it acc env).onRaise (fun x=>do noteFrame x env;standAt theWindowsPlace)) _ _ s
  refine wpAny_notedAt ?_
  unfold compStart
  show wpAny _ _ (ask >>= _) _ _ s
  refine wpAny_bind (wpAny_askSetting (wpAny_ite ?_))
  split
  · first
      |exact wpAny_bind (wpAny_pure (wpAny_pure (And.intro rfl h0)))
      |exact wpAny_pure (And.intro rfl h0)
  · first
      |exact wpAny_bind (wpAny_rule (wpAny_bind (wpAny_standAt (wpAny_bind (wpAny_mono h (fun it' s' h'=>wpAny_pure (And.intro rfl h')) fun _ _ x=>x)))))
      |(refine wpAny_bind (wpAny_rule ?_);show wpAny _ _ (standAt iter.pos >>= _) _ _ s;exact wpAny_bind (wpAny_standAt (wpAny_bind (wpAny_mono h (fun it' s' h'=>wpAny_pure (And.intro rfl h')) fun _ _ x=>x))))
theorem comp_inner {Y:Cx} {ps:List (Addr×Obj)} {acc it:Addr} {fp:List Addr} {tn:Nat→Heap→Prop} {J:It} {g:TG} {tt:TT} {te:TE} {F:List V→St→Hp→Prop}
    {elt tg iter:Expr} {g0:Comprehension} {ifs:List Expr} {scope:Scope} {pos:Pos} {R:Result→Shared→Prop} (W:Nat→Nat→List V→St→Hp→Prop) (turn:CTurnS J g tt te F W) (T:Turn Y.prog Y.w Y.K tg J fp it tn)
    (hg:PG Y tg g) (hc:PIfs Y ifs tt) (he:PE Y elt te) (hcalm:Y.calm=true) (hx:∀ v s,¬ Y.xe v s)
    (hfp:∀ b∈fp,b≠Y.env.locals∧b∉Y.fs∧(b∈Y.ex∨Y.s₀.heap.objs.size≤b)∧(∀ x c,Y.env.cells.lookup x=some c→c≠b)∧(∀ p∈Y.pn++ps,p.1≠b)∧b≠acc)
    (hacc:acc≠Y.env.locals∧acc∉Y.fs∧(acc∈Y.ex∨Y.s₀.heap.objs.size≤acc)∧(∀ x c,Y.env.cells.lookup x=some c→c≠acc)∧∀ p∈Y.pn++ps,p.1≠acc)
    (hR:∀ s' σ' H' ys us k,Inv Y ((acc,accObj us k)::ps) σ' H' s'→Vals ys us→F ys σ' H'→R (.ok .next) s')
    {s:Shared} {σ:St} {H:Hp} {m:Nat} {ys0:List V} {us0:List Value} {k0:Nat} (rv0:Vals ys0 us0) (I:Inv Y ((acc,accObj us0 k0)::ps) σ H s) (st:tn 0 s.heap) (fr:∀ b∈fp,H b=none) (w0:W 0 m ys0 σ H) :
    codeAny (model Y.prog Y.w) Y.A (.compLoop (.ListComp elt [g0,⟨tg,iter,ifs,0⟩] scope pos) 1 (.ref it) (.ref acc) Y.env) R s:=by
  refine codeAny_loop rfl (fun n s'=>∃ i ys us k σ' H',Vals ys us∧Inv Y ((acc,accObj us k)::ps) σ' H' s'∧tn i s'.heap∧(∀ b∈fp,H' b=none)∧W i n ys σ' H') (fun n s3 hI=>?_) m ⟨0,ys0,us0,k0,σ,H,rv0,I,st,fr,w0⟩
  obtain ⟨i,ys,us,k,σ3,H3,rv,I3,st3,fr3,w3⟩:=hI
  show wpAny _ Y.A ((compTurn (.ListComp elt [g0,⟨tg,iter,ifs,0⟩] scope pos) 1 (.ref it) (.ref acc) Y.env).onRaise (fun x=>do noteFrame x Y.env;theTreesLotGoes x)) _ _ s3
  refine wpAny_noted ?_
  rw [compTurn_in]
  have fpk:∀ {H':Hp},(∀ b∈fp,H' b=none)→∀ b∈fp,FpOk Y ((acc,accObj us k)::ps) H' b:=fun hn b hb=>
    ⟨hn b hb,(hfp b hb).1,(hfp b hb).2.1,(hfp b hb).2.2.1,(hfp b hb).2.2.2.1,fun p hp'=>by
      rcases List.mem_append.mp hp' with z|z
      · exact (hfp b hb).2.2.2.2.1 p (List.mem_append_left _ z)
      · rcases List.mem_cons.mp z with rfl|z
        · exact Ne.symm (hfp b hb).2.2.2.2.2
        · exact (hfp b hb).2.2.2.2.1 p (List.mem_append_right _ z)⟩
  have fp1:=fpk fr3
  refine wpAny_bind (wpAny_standAt (wpAny_bind ?_))
  rcases turn i n ys σ3 H3 w3 with ⟨stop,qn⟩|⟨go,hz,step⟩
  · refine wpAny_mono (T.done Y rfl rfl rfl hcalm i _ s3 σ3 H3 (fun _ _=>False) I3 fp1 st3 stop) (fun r s4 ⟨hr,I4⟩=>?_) (fun _ _ z=>z.elim)
    subst hr
    exact wpAny_pure (hR s4 σ3 H3 ys us k I4 rv qn)
  · refine wpAny_mono (T.item Y rfl rfl rfl hcalm i _ s3 σ3 H3 (fun _ _=>False) I3 fp1 st3 go) (fun r s4 ⟨u,hr,h4⟩=>?_) (fun _ _ z=>z.elim)
    subst hr
    refine wpAny_bind (wpAny_mono h4 (fun _ s5 ⟨x,H5,I5,r5,y5,st5,fr5⟩=>?_) (fun _ _ z=>z.elim))
    have fp5:=fpk fr5
    have I5':=I5.pinned fp5 (T.obj _ _ st5)
    refine wpAny_bind (wpAny_mono (hg _ s5 σ3 H5 x u _ I5' r5 (step x H5 y5)) (fun _ s6 ⟨σ6,H6,I6,q6⟩=>?_) (fun v s z=>(hx v s z).elim))
    refine wpAny_bind (wpAny_mono (hc _ s6 σ6 H6 _ I6 q6) (fun ok s7 ⟨H7,I7,q7⟩=>?_) (fun v s z=>(hx v s z).elim))
    have again:∀ {s8:Shared} {σ8:St} {H8:Hp},Inv Y (((acc,accObj us k)::ps)++pinsAt fp s5.heap) σ8 H8 s8→tn (i+1) s8.heap∧∀ b∈fp,H8 b=none:=fun {s8 σ8 H8} I8=>
      ⟨T.keep _ _ _ st5 fun b hb o e=>(I8.pin (b,o) (List.mem_append_right _ (List.mem_append_right _ (mem_pinsAt hb e)))).1,fun b hb=>by
        obtain ⟨o,e,d⟩:=T.obj _ _ st5 b hb
        exact (I8.pin (b,o) (List.mem_append_right _ (List.mem_append_right _ (mem_pinsAt hb e)))).2.1⟩
    cases ok with
    | false=>
      rw [if_neg Bool.false_ne_true] at q7
      obtain ⟨m',hm,w7⟩:=q7
      obtain ⟨t1,t2⟩:=again I7
      exact wpAny_pure ⟨rfl,m',hm,i+1,ys,us,k,σ6,H7,rv,I7.unpinned,t1,t2,w7⟩
    | true=>
      rw [if_pos rfl] at q7
      refine wpAny_bind (wpAny_bind (wpAny_mono (he _ s7 σ6 H7 _ I7 q7) (fun y s8 ⟨yv,H8,I8,r8,m',hm,w8⟩=>?_) (fun v s z=>(hx v s z).elim)))
      obtain ⟨t1,t2⟩:=again I8
      obtain ⟨e8,n8,l8,f8,d8⟩:=I8.pin (acc,accObj us k) (List.mem_append_right _ (List.mem_append_left _ List.mem_cons_self))
      have hlen:=rv.length
      have hz':us.toArray.size≤sizeLine:=by rw [List.size_toArray];omega
      refine wpAny_bind (call_meets PySem.F.slot_list_append ⟨_,e8,rfl⟩ PySem.F.entry_list_append (PySem.F.args_list_append_2 _ _) (PySem.list_append acc us.toArray k y hz') ⟨e8,?_⟩)
      have q:=PySem.IsL.update e8 (fun z=>z.push y)
      have I9:Inv Y ps σ6 H8 s8:=I8.pins_of fun p hp=>I8.pin p (List.mem_append_right _ (List.mem_append_left _ (List.mem_cons_of_mem _ hp)))
      have I10:=I9.turned (t':=s8.toks) (it:=acc) (h':=s8.heap.update acc (Obj.mapSeq fun z=>z.push y)) (fun b o hb e=>(Heap.get?_update_other s8.heap _ (Ne.symm hb)).trans e) n8 hacc.1 hacc.2.2.1 hacc.2.2.2.1 hacc.2.2.2.2
      have e':(us.toArray.push y)=(us++[y]).toArray:=by simp
      rw [e'] at q
      obtain ⟨k9,ek⟩:∃ k9,k9=(if ((us++[y]).toArray.size == us.toArray.size)=true then k else k+1):=⟨_,rfl⟩
      rw [← ek] at q
      have I11:=I10.pins_of (pins':=(acc,accObj (us++[y]) k9)::ps) fun p hp=>by
        rcases List.mem_cons.mp hp with rfl|hp
        · exact ⟨q,n8,hacc.1,hacc.2.1,fun v z=>by cases z⟩
        · exact I10.pin p (List.mem_append_right _ hp)
      refine wpAny_pure (wpAny_pure ⟨rfl,m',hm,i+1,ys++[yv],us++[y],k9,σ6,H8,rv.append (.cons r8 .nil),I11,T.keep _ _ _ t1 fun b hb o e=>?_,t2,w8⟩)
      exact (Heap.get?_update_other s8.heap _ (hfp b hb).2.2.2.2.2.symm).trans e
theorem comp_loop2 {X:Cx} {scope:Scope} {N':List Str} {cl:List (Str×Addr)} {C acc it:Addr} {s₂:Shared} {H₂:Hp} {fp:List Addr} {tn:Nat→Heap→Prop} {J:It} {g g2:TG} {tt tt2:TT} {wi2:TI} {te:TE} {F:List V→Hp→Prop}
    {elt tg iter tg2 iter2:Expr} {ifs ifs2:List Expr} {pos:Pos} {R:Result→Shared→Prop} (W:Nat→Nat→List V→St→Hp→Prop) (turn:CTurn2 J g tt wi2 g2 tt2 te F W) (T:Turn X.prog X.w X.K tg J fp it tn)
    (hg:PG (cxComp X scope N' cl C s₂ H₂ fp) tg g) (hc:PIfs (cxComp X scope N' cl C s₂ H₂ fp) ifs tt) (hi2:PI (cxComp X scope N' cl C s₂ H₂ fp) tg2 iter2 wi2) (hs2:∀ x,foldedSetIterable iter2 (compEnvC scope cl C X.env) x=pure x) (hg2:PG (cxComp X scope N' cl C s₂ H₂ fp) tg2 g2) (hc2:PIfs (cxComp X scope N' cl C s₂ H₂ fp) ifs2 tt2) (he:PE (cxComp X scope N' cl C s₂ H₂ fp) elt te) (hcalm:X.calm=true)
    (hfp:∀ b∈fp,b≠C∧b∉frs X.stack∧(∀ x c,cl.lookup x=some c→c≠b)∧b≠acc) (hacc:acc≠C∧acc∉frs X.stack∧(∀ x c,cl.lookup x=some c→c≠acc)∧s₂.heap.objs.size≤acc)
    (hR:∀ s' σ' H' ys us k,Inv (cxComp X scope N' cl C s₂ H₂ fp) [(acc,accObj us k)] σ' H' s'→Vals ys us→F ys H'→R (.ok .next) s')
    {s:Shared} {σ:St} {H:Hp} {m:Nat} (I:Inv (cxComp X scope N' cl C s₂ H₂ fp) [(acc,accObj [] 0)] σ H s) (st:tn 0 s.heap) (fr:∀ b∈fp,H b=none) (w0:W 0 m [] σ H) :
    codeAny (model X.prog X.w) X.A (.compLoop (.ListComp elt [⟨tg,iter,ifs,0⟩,⟨tg2,iter2,ifs2,0⟩] scope pos) 0 (.ref it) (.ref acc) (compEnvC scope cl C X.env)) R s:=by
  refine codeAny_loop rfl (fun n s'=>∃ i ys us k σ' H',Vals ys us∧Inv (cxComp X scope N' cl C s₂ H₂ fp) [(acc,accObj us k)] σ' H' s'∧tn i s'.heap∧(∀ b∈fp,H' b=none)∧W i n ys σ' H') (fun n s3 hI=>?_) m ⟨0,[],[],0,σ,H,.nil,I,st,fr,w0⟩
  obtain ⟨i,ys,us,k,σ3,H3,rv,I3,st3,fr3,w3⟩:=hI
  show wpAny _ X.A ((compTurn (.ListComp elt [⟨tg,iter,ifs,0⟩,⟨tg2,iter2,ifs2,0⟩] scope pos) 0 (.ref it) (.ref acc) (compEnvC scope cl C X.env)).onRaise (fun x=>do noteFrame x (compEnvC scope cl C X.env);theTreesLotGoes x)) _ _ s3
  refine wpAny_noted ?_
  rw [compTurn_out]
  have fpk:∀ {pins:List (Addr×Obj)} {H':Hp},(∀ p∈pins,p.1=acc∨p.1∈([]:List Addr))→(∀ b∈fp,H' b=none)→∀ b∈fp,FpOk (cxComp X scope N' cl C s₂ H₂ fp) pins H' b:=fun hp hn b hb=>
    ⟨hn b hb,(hfp b hb).1,(hfp b hb).2.1,.inl hb,(hfp b hb).2.2.1,fun p hp'=>by
      have hp'':p∈([]:List (Addr×Obj))++_:=hp'
      rcases hp p (by simpa using hp'') with z|z
      · rw [z];exact Ne.symm (hfp b hb).2.2.2
      · exact (nomatch z)⟩
  have fp1:=fpk (pins:=[(acc,accObj us k)]) (fun p hp=>.inl (by simp at hp;rw [hp])) fr3
  refine wpAny_bind (wpAny_standAt (wpAny_bind ?_))
  rcases turn i n ys σ3 H3 w3 with ⟨stop,qn⟩|⟨go,step⟩
  · refine wpAny_mono (T.done (cxComp X scope N' cl C s₂ H₂ fp) rfl rfl rfl hcalm i _ s3 σ3 H3 (fun _ _=>False) I3 fp1 st3 stop) (fun r s4 ⟨hr,I4⟩=>?_) (fun _ _ z=>z.elim)
    subst hr
    exact wpAny_pure (hR s4 σ3 H3 ys us k I4 rv qn)
  · refine wpAny_mono (T.item (cxComp X scope N' cl C s₂ H₂ fp) rfl rfl rfl hcalm i _ s3 σ3 H3 (fun _ _=>False) I3 fp1 st3 go) (fun r s4 ⟨u,hr,h4⟩=>?_) (fun _ _ z=>z.elim)
    subst hr
    refine wpAny_bind (wpAny_mono h4 (fun _ s5 ⟨x,H5,I5,r5,y5,st5,fr5⟩=>?_) (fun _ _ z=>z.elim))
    have fp5:=fpk (pins:=[(acc,accObj us k)]) (fun p hp=>.inl (by simp at hp;rw [hp])) fr5
    have I5':=I5.pinned fp5 (T.obj _ _ st5)
    refine wpAny_bind (wpAny_mono (hg _ s5 σ3 H5 x u _ I5' r5 (step x H5 y5)) (fun _ s6 ⟨σ6,H6,I6,q6⟩=>?_) (fun _ _ z=>z.elim))
    refine wpAny_bind (wpAny_mono (hc _ s6 σ6 H6 _ I6 q6) (fun ok s7 ⟨H7,I7,q7⟩=>?_) (fun _ _ z=>z.elim))
    have again:∀ {s8:Shared} {σ8:St} {H8:Hp} {us8:List Value} {k8:Nat},Inv (cxComp X scope N' cl C s₂ H₂ fp) ((acc,accObj us8 k8)::pinsAt fp s5.heap) σ8 H8 s8→Inv (cxComp X scope N' cl C s₂ H₂ fp) [(acc,accObj us8 k8)] σ8 H8 s8∧tn (i+1) s8.heap∧∀ b∈fp,H8 b=none:=fun {s8 σ8 H8 us8 k8} I8=>
      ⟨Inv.unpinned (pins:=[(acc,accObj us8 k8)]) I8,T.keep _ _ _ st5 fun b hb o e=>(I8.pin (b,o) (List.mem_append_right _ (List.mem_cons_of_mem _ (mem_pinsAt hb e)))).1,fun b hb=>by
        obtain ⟨o,e,d⟩:=T.obj _ _ st5 b hb
        exact (I8.pin (b,o) (List.mem_append_right _ (List.mem_cons_of_mem _ (mem_pinsAt hb e)))).2.1⟩
    cases ok with
    | false=>
      rw [if_neg Bool.false_ne_true] at q7
      obtain ⟨m',hm,w7⟩:=q7
      obtain ⟨I7',t1,t2⟩:=again I7
      exact wpAny_pure ⟨rfl,m',hm,i+1,ys,us,k,σ6,H7,rv,I7',t1,t2,w7⟩
    | true=>
      rw [if_pos rfl] at q7
      refine wpAny_bind (wpAny_mono (hi2 _ s7 σ6 H7 _ I7 q7) (fun v s8 h8=>?_) (fun _ _ z=>z.elim))
      refine wpAny_bind (wpAny_standAt ?_)
      rw [hs2 v]
      refine wpAny_bind (wpAny_pure ?_)
      refine wpAny_bind (wpAny_holding (wpAny_mono h8 (fun itv s9 h9=>?_) (fun _ _ z=>z.elim)))
      obtain ⟨it2,fp2,tn2,J2,H9,e9,I9,T2,st9,f9,W2,⟨m2,w2⟩,turn2⟩:=h9
      subst e9
      have loop:∀ Q:Flow→Shared→Prop,(∀ s10,(∃ m',m'<n∧∃ i ys us k σ' H',Vals ys us∧Inv (cxComp X scope N' cl C s₂ H₂ fp) [(acc,accObj us k)] σ' H' s10∧tn i s10.heap∧(∀ b∈fp,H' b=none)∧W i m' ys σ' H')→Q .next s10)→
          codeAny (model X.prog X.w) X.A (.compLoop (.ListComp elt [⟨tg,iter,ifs,0⟩,⟨tg2,iter2,ifs2,0⟩] scope pos) 1 (.ref it2) (.ref acc) (compEnvC scope cl C X.env)) (fun r s'=>match r with|.ok f=>Q f s'|.error e=>cameBackBy (model X.prog X.w) X.A (compEnvC scope cl C X.env) (notedBy (model X.prog X.w) X.A (compEnvC scope cl C X.env) fun x s'=>R (.error x) s') e s') s9:=by
        intro Q hQ
        refine comp_inner (Y:=cxComp X scope N' cl C s₂ H₂ fp) (ps:=pinsAt fp s5.heap) W2 turn2 T2 hg2 hc2 he hcalm (fun _ _ z=>z) (fun b hb=>?_) ⟨hacc.1,hacc.2.1,.inr hacc.2.2.2,hacc.2.2.1,fun p hp z=>?_⟩ (fun s' σ' H' ys' us' k' I' rv' q'=>?_) rv I9 st9 (fun b hb=>(f9 b hb).1) w2
        · obtain ⟨_,a1,a2,a3,a4,a5⟩:=f9 b hb
          refine ⟨a1,a2,a3,a4,fun p hp=>?_,fun z=>?_⟩
          · rcases List.mem_append.mp hp with y|y
            · exact a5 p (List.mem_append_left _ y)
            · exact a5 p (List.mem_append_right _ (List.mem_cons_of_mem _ y))
          · exact a5 (acc,accObj us k) (List.mem_append_right _ List.mem_cons_self) z.symm
        · have hp':p∈([]:List (Addr×Obj))++pinsAt fp s5.heap:=hp
          rw [List.nil_append] at hp'
          obtain ⟨hb,_⟩:=of_pinsAt hp'
          exact (hfp _ hb).2.2.2 z
        · obtain ⟨m',hm,w'⟩:=q'
          obtain ⟨I8',t1,t2⟩:=again I'
          exact hQ s' ⟨m',hm,i+1,ys',us',k',σ',H',rv',I8',t1,t2,w'⟩
      refine wpAny_bind (wpAny_runOwn (codeAny_compStart_in (loop _ fun s10 q=>?_) (T2.self _ 0 _ _ _ st9 (loop _ fun s10 q=>?_))))
      · obtain ⟨m',hm,q⟩:=q
        exact wpAny_pure ⟨rfl,m',hm,q⟩
      · obtain ⟨m',hm,q⟩:=q
        exact wpAny_pure ⟨rfl,m',hm,q⟩
def tComp2 (wi:TI) (g:TG) (tt:TT) (wi2:TI) (g2:TG) (tt2:TT) (te:TE) (k:Nat) (js:List Nat):TE:=fun σ H Q=>wi σ H fun J H1=>∃ W:Nat→Nat→List V→St→Hp→Prop,(∃ m,W 0 m [] (compSt k js σ) H1)∧
  CTurn2 J g tt wi2 g2 tt2 te (fun ys H2=>ys.length≤sizeLine∧∀ p,H2 p=none→Q (.ref p) (upd H2 p (.lst ys))) W
section
variable {X:Cx} {scope:Scope} {own:List Str} {js:List Nat} {N':List Str} {wi wi2:TI} {g g2:TG} {tt tt2:TT} {te:TE} {elt tg iter tg2 iter2:Expr} {ifs ifs2:List Expr} {pos:Pos}
theorem comp_run2 {pins:List (Addr×Obj)} {σ:St} {H:Hp} {s:Shared} {it:Addr} {fp:List Addr} {tn:Nat→Heap→Prop} {J:It} {cl:List (Str×Addr)} {F:List V→Hp→Prop} {E:Value→Shared→Prop} {RR:Value→Addr→Result→Shared→Prop}
    (S:CompScope X scope own js N') (hcalm:X.calm=true) (hg:∀ cl C s₀ H₀ ex,PG (cxComp X scope N' cl C s₀ H₀ ex) tg g) (hc:∀ cl C s₀ H₀ ex,PIfs (cxComp X scope N' cl C s₀ H₀ ex) ifs tt) (hi2:∀ cl C s₀ H₀ ex,PI (cxComp X scope N' cl C s₀ H₀ ex) tg2 iter2 wi2) (hs2:∀ env x,foldedSetIterable iter2 env x=pure x) (hg2:∀ cl C s₀ H₀ ex,PG (cxComp X scope N' cl C s₀ H₀ ex) tg2 g2) (hc2':∀ cl C s₀ H₀ ex,PIfs (cxComp X scope N' cl C s₀ H₀ ex) ifs2 tt2) (he:∀ cl C s₀ H₀ ex,PE (cxComp X scope N' cl C s₀ H₀ ex) elt te)
    (hc1:∀ x c,cl.lookup x=some c→X.env.cells.lookup x=some c) (hc2:∀ x,(x,NameKind.free)∈scope.names→∃ c,cl.lookup x=some c)
    (I:Inv X pins σ H s) (T:Turn X.prog X.w X.K tg J fp it tn) (st:tn 0 s.heap) (hf:∀ b∈fp,FpOk X pins H b) (W:Nat→Nat→List V→St→Hp→Prop) {m0:Nat} (w0:W 0 m0 [] (compSt own.length js σ) H) (turn:CTurn2 J g tt wi2 g2 tt2 te F W)
    (hF:∀ ys H',F ys H'→ys.length≤sizeLine)
    (fin:∀ acc C H' ys s' m,Inv X pins σ (upd H' acc (.lst ys)) s'→H' acc=none→s'.heap.Ns C m→(upd H' acc (.lst ys)) C=none→C≠X.env.locals→X.s₀.heap.objs.size≤C→(∀ x c,X.env.cells.lookup x=some c→c≠C)→(∀ p∈X.pn++pins,p.1≠C)→F ys H'→RR (.ref acc) C (.ok .next) s') :
    wpAny (model X.prog X.w) X.A (newList []) (fun acc s₃=>wpAny (model X.prog X.w) X.A (newFunctionEnv scope X.env.globals cl [] X.env.qual none .none (some X.env)) (fun cenv s₄=>
      codeAny (model X.prog X.w) X.A (.compStart (.ListComp elt [⟨tg,iter,ifs,0⟩,⟨tg2,iter2,ifs2,0⟩] scope pos) 0 (.ref it) acc { cenv with scope:=relabel scope X.env }) (RR acc cenv.locals) s₄) E s₃) E s:=by
  refine wpAny_newObj_type (wpAny_newFunctionEnv S.nocell (by intro y hy;simp at hy) (fun h₁ hns₁ hsb₁=>?_) S.kind)
  dsimp only at hns₁ hsb₁ ⊢
  generalize hH2:s.heap.push { cls:=.type "list",dict:=none,data:=.seq ([]:List Value).toArray }=H2 at hns₁ hsb₁ ⊢
  have hC:H2.objs.size=s.heap.objs.size+1:=by rw [← hH2,Heap.size_push]
  have hDC:s.heap.objs.size≠H2.objs.size:=by rw [hC];exact Nat.ne_of_lt (Nat.lt_succ_self _)
  have hCle:s.heap.objs.size≤H2.objs.size:=by rw [hC];exact Nat.le_succ _
  have below:∀ b,b<s.heap.objs.size→b≠H2.objs.size∧b≠s.heap.objs.size:=fun b hb=>⟨by rw [hC];exact Nat.ne_of_lt (Nat.lt_succ_of_lt hb),Nat.ne_of_lt hb⟩
  have old:∀ b o,s.heap.get? b=some o→h₁.get? b=some o:=fun b o e=>hsb₁.extBut b o (below b (Heap.lt_size e)).1 (Heap.get?_push_of_some _ (hH2 ▸ Heap.get?_push_of_some _ e))
  have hacc:h₁.get? s.heap.objs.size=some (accObj [] 0):=hsb₁.extBut _ _ hDC (Heap.get?_push_of_some _ (hH2 ▸ Heap.get?_push_size _ rfl))
  generalize hCn:H2.objs.size=C at *
  generalize hAn:s.heap.objs.size=acc at *
  have cellLt:∀ x c,X.env.cells.lookup x=some c→c<acc:=fun x c e=>by
    obtain ⟨v,q⟩:=I.cell x c e
    rw [← hAn];exact q.lt
  have pinLt:∀ p∈X.pn++pins,p.1<acc:=fun p hp=>by rw [← hAn];exact Heap.lt_size (I.pin p hp).1
  have stkLt:∀ b∈frs X.stack,b<acc:=fun b hb=>by
    obtain ⟨_,o,ho,_⟩:=I.stack.mem hb
    rw [← hAn];exact Heap.lt_size ho
  have fpLt:∀ b∈fp,b<acc:=fun b hb=>by
    obtain ⟨o,e,_⟩:=T.obj _ _ st b hb
    rw [← hAn];exact Heap.lt_size e
  have hHC:H C=none:=I.hok.fresh (by rw [hAn];exact hCle)
  have hHA:H acc=none:=I.hok.fresh (by rw [hAn];exact Nat.le_refl _)
  have I1:Inv (cxComp X scope N' cl C s H fp) [] (compSt own.length js σ) H { s with heap:=h₁,toks:=s.toks+([]:List (Str×Value)).length }:=
    Inv.comp S I hc1 hc2 (by rw [hAn];exact hCle) hns₁ old (fun b hb=>⟨hf b hb,by rw [hAn];exact fpLt b hb⟩) hHC fun b o e=>(below b (by rw [← hAn];exact Heap.lt_size e)).1
  have I2:Inv (cxComp X scope N' cl C s H fp) [(acc,accObj [] 0)] (compSt own.length js σ) H { s with heap:=h₁,toks:=s.toks+([]:List (Str×Value)).length }:=I1.pins_of fun p hp=>by
    obtain rfl:p=(acc,accObj [] 0):=by simpa using hp
    exact ⟨hacc,hHA,hDC,fun z=>absurd (stkLt acc z) (Nat.lt_irrefl _),fun v z=>by cases z⟩
  have st1:tn 0 h₁:=T.keep _ _ _ st fun b hb o e=>old b o e
  have loop:∀ s₃:Shared,s₃={ s with heap:=h₁,toks:=s.toks+([]:List (Str×Value)).length }→
      codeAny (model X.prog X.w) X.A (.compLoop (.ListComp elt [⟨tg,iter,ifs,0⟩,⟨tg2,iter2,ifs2,0⟩] scope pos) 0 (.ref it) (.ref acc) (compEnvC scope cl C X.env)) (RR (.ref acc) C) s₃:=by
    rintro s₃ rfl
    refine comp_loop2 W turn T (hg _ _ _ _ _) (hc _ _ _ _ _) (hi2 _ _ _ _ _) (hs2 _) (hg2 _ _ _ _ _) (hc2' _ _ _ _ _) (he _ _ _ _ _) hcalm
      (fun b hb=>⟨(below b (fpLt b hb)).1,fun z=>?_,fun x c e z=>(hf b hb).2.2.2.2.1 x c (hc1 x c e) z,(below b (fpLt b hb)).2⟩)
      ⟨hDC,fun z=>absurd (stkLt acc z) (Nat.lt_irrefl _),fun x c e z=>absurd (cellLt x c (hc1 x c e)) (by rw [z];exact Nat.lt_irrefl _),by rw [hAn];exact Nat.le_refl _⟩ ?_ I2 st1 (fun b hb=>(hf b hb).1) w0
    · rcases List.mem_cons.mp (I.stkSub b z) with q|q
      · exact (hf b hb).2.1 q
      · exact (hf b hb).2.2.1 q
    · intro s' σ' H' ys us k J' rv q
      obtain ⟨e',n',l',f',d'⟩:=J'.pin (acc,accObj us k) (List.mem_append_right _ List.mem_cons_self)
      have n'':H' acc=none:=n'
      obtain ⟨m,hm,_⟩:=J'.loc
      have oldLt:∀ b o,s.heap.get? b=some o→b<acc:=fun b o e=>by rw [← hAn];exact Heap.lt_size e
      have neA:∀ b o,s.heap.get? b=some o→b≠acc:=fun b o e=>Nat.ne_of_lt (oldLt b o e)
      have un:Un (frs X.stack) fp H (upd H' acc (.lst ys)) s.heap s'.heap:=⟨J'.base.keep,J'.base.slot,fun b o e n hx=>by rw [upd_ne (neA b o e)];exact J'.base.free b o e n hx,J'.base.there,
        fun b xs e=>by
          have z:=J'.base.tups b xs e
          rw [upd_ne (ne_of_none z n'')];exact z,
        fun b o u e=>by
          have z:=J'.base.frzs b o u e
          rw [upd_ne (ne_of_none z n'')];exact z,
        fun b ps e=>by
          obtain ⟨more,z⟩:=J'.base.tbls b ps e
          exact ⟨more,by rw [upd_ne (ne_of_none z n'')];exact z⟩⟩
      have hok:HOk X.prog X.w (upd H' acc (.lst ys)) s'.heap:=fun b u e=>by
        by_cases hb:b=acc
        · subst hb
          rw [upd_same] at e;cases e
          exact ⟨hF _ _ q,us,k,rv,e'⟩
        · rw [upd_ne hb] at e
          exact (J'.hok b u e).stay (fun c v _ z=>z) (fun c z=>by rw [upd_ne (ne_of_none z n'')];exact z) fun c xs z=>by rw [upd_ne (ne_of_none z n'')];exact z
      have IX:Inv X pins σ (upd H' acc (.lst ys)) s':=I.call' J'.os un hok J'.bare fun b hb=>⟨(hf b hb).2.2.2.1,(hf b hb).2.1,(hf b hb).2.2.2.2.1,(hf b hb).2.2.2.2.2⟩
      refine fin acc C H' ys s' m IX n'' hm ?_ ?_ ?_ ?_ ?_ q
      · rw [upd_ne (Ne.symm hDC)];exact J'.free
      · exact Nat.ne_of_gt (Nat.lt_of_lt_of_le I.lt (by rw [hAn];exact hCle))
      · exact Nat.le_trans I.sz (by rw [hAn];exact hCle)
      · exact fun x c e z=>absurd (Nat.lt_of_lt_of_le (cellLt x c e) hCle) (by rw [z];exact Nat.lt_irrefl _)
      · exact fun p hp z=>absurd (Nat.lt_of_lt_of_le (pinLt p hp) hCle) (by rw [z];exact Nat.lt_irrefl _)
  exact codeAny_compStart_list (loop _ rfl) (T.self _ 0 _ _ _ st1 (loop _ rfl))
theorem ps_setComp2 {i:Nat} {x:Str} {pos' spos:Pos} (S:CompScope X scope own js N') (hcalm:X.calm=true) (hN:X.N.Nodup) (hx:X.N[i]?=some x) (hk:X.env.scope.names.lookup x=some .local) (hi:PI X tg iter wi) (hg:∀ cl C s₀ H₀ ex,PG (cxComp X scope N' cl C s₀ H₀ ex) tg g) (hc:∀ cl C s₀ H₀ ex,PIfs (cxComp X scope N' cl C s₀ H₀ ex) ifs tt)
    (hi2:∀ cl C s₀ H₀ ex,PI (cxComp X scope N' cl C s₀ H₀ ex) tg2 iter2 wi2) (hs2:∀ env x,foldedSetIterable iter2 env x=pure x) (hg2:∀ cl C s₀ H₀ ex,PG (cxComp X scope N' cl C s₀ H₀ ex) tg2 g2) (hc2':∀ cl C s₀ H₀ ex,PIfs (cxComp X scope N' cl C s₀ H₀ ex) ifs2 tt2) (he:∀ cl C s₀ H₀ ex,PE (cxComp X scope N' cl C s₀ H₀ ex) elt te) (hsw:swapsWith (.ListComp elt [⟨tg,iter,ifs,0⟩,⟨tg2,iter2,ifs2,0⟩] scope pos) (some (.Name x pos')) spos.line X.env=pure true:=by rfl) (hs:∀ x,foldedSetIterable iter X.env x=pure x:=by intro _;rfl) :
    PS X (.Assign [.Name x pos'] (.ListComp elt [⟨tg,iter,ifs,0⟩,⟨tg2,iter2,ifs2,0⟩] scope pos) spos) (tAsg (tComp2 wi g tt wi2 g2 tt2 te own.length js) (gName i)):=by
  intro pins s σ H D I h
  obtain ⟨cl,hcl,hc1,hc2⟩:=closure_ok (env:=X.env) scope fun y hy hk=>I.ok.has y.1 (S.free y hy hk)
  rw [exec_Assign_Name_used _ _ _ _ hsw]
  refine wpAny_bind (wpAny_standAt (wpAny_bind ?_))
  show wpAny _ X.A (do let _ ← comprehension (.ListComp elt [⟨tg,iter,ifs,0⟩,⟨tg2,iter2,ifs2,0⟩] scope pos) scope X.env _ (newList []) false (eval iter X.env) (some (assign (.Name x pos') X.env))) _ _ s
  refine wpAny_bind (wpAny_mono (wpAny_comprehension_free (use:=some (assign (.Name x pos') X.env)) (Q:=fun _ s'=>SP X pins D .next s') rfl hs hcl S.kind S.names
    (thn (hi pins s σ H _ I h) fun v s1 h1=>thn h1 fun itv s2 h2=>?_)) (fun _ s' hq=>wpAny_pure (wpAny_pure hq)) fun _ _ e=>e)
  obtain ⟨it,fp,tn,J,H2,e,I2,T,st2,f2,W,⟨m0,w0⟩,turn⟩:=h2
  subst e
  refine comp_run2 (RR:=fun acc C=>compPost (model X.prog X.w) X.A X.xe (some (assign (.Name x pos') X.env)) (fun _ s'=>SP X pins D .next s') acc C) S hcalm hg hc hi2 hs2 hg2 hc2' he hc1 hc2 I2 T st2 f2 W w0 turn (fun ys H' q=>q.1) ?_
  intro acc C H' ys s' m IX na hm hCn hL hz hcn hpn q
  show wpAny _ X.A (assign (.Name x pos') X.env (.ref acc)) _ _ s'
  refine wpAny_assign_Name (store_ok2 IX hN hx (.inl hk) (v:=.ref acc) rfl (fun s'' I'' hsb=>?_) (.inr hk))
  obtain ⟨a,hsb,ha⟩:=hsb
  have haC:C≠a:=by
    rcases ha with z|z
    · rw [z];exact hL
    · exact fun q=>hcn x a z q.symm
  refine ⟨m,hm.sameBut hsb haC,fun h' hs'=>⟨_,_,?_,q.2 acc na⟩⟩
  exact I''.turned (t':=s''.toks) (it:=C) (fun b o hb e=>(hs'.2 b hb).trans e) hCn hL (.inr hz) hcn hpn
end
end L2
namespace L2
open PySem PySem.Spec PyProof.Rows
theorem ints_are:∀ ps:List (Int×Tok),IntsAre (ps.map fun p=>Value.int p.1 p.2) (ps.map (·.1))
  |[]=>.nil
  |(n,t)::r=>.cons n t (ints_are r)
theorem vals_of_ints:∀ {us:List Value} {ns:List Int},IntsAre us ns→Vals (ns.map V.int) us
  |_,_,.nil=>.nil
  |_,_,.cons n t h=>.cons ⟨t,rfl⟩ (vals_of_ints h)
section
variable {X:Cx}
theorem call_sortedL:CallR X (.builtin "sorted") (fun xs H Q=>∃ p ns,xs=[.ref p]∧SqL X.K H p (ns.map V.int)∧ns.length<64∧∀ (ns':List Int) l,ns'.Perm ns→ns'.Pairwise (·≤·)→H l=none→Q (.ref l) (upd H l (.lst (ns'.map V.int)))):=by
  intro pins s σ H xs us Q I r h
  obtain ⟨p,ns,rfl,hq,hl,q⟩:=h
  obtain ⟨u,rfl,ru⟩:=vals1 r
  cases (show u=Value.ref p from ru)
  obtain ⟨its,rv,pl,hz⟩:=I.list hq
  obtain ⟨ps,rfl,e⟩:=vals_nums rv
  have hl':ps.length=ns.length:=by rw [← e,List.length_map]
  have hI:=ints_are ps
  rw [e] at hI
  refine sorted_ints pl.isList hI (by rw [List.length_map];omega) fun out ns' a1 a2 a3=>?_
  obtain ⟨c,ec⟩:=sortedAll_at s.heap (ps.map fun p=>Value.int p.1 p.2) out
  have big:64≤sizeLine:=by decide
  have lz:(ns'.map V.int).length≤sizeLine:=by rw [List.length_map,a2.length_eq];omega
  exact ⟨.ref (s.heap.objs.size+1),_,I.laid (t':=s.toks) (a:=s.heap.objs.size+1) (fun b o e=>sortedAll_old e) (Nat.le_succ _) (show ObjOk X.prog X.w _ _ _ (.lst (ns'.map V.int)) from ⟨lz,out.toList,c,vals_of_ints a1,by simpa using ec⟩),rfl,q ns' _ a2 a3 (I.hok.fresh (Nat.le_succ _))⟩
end
theorem args_maxD (a v:Value):argsOk "max" ⟨[a],[(Str.ofString "default",v)]⟩:=by unfold argsOk;kernel_rfl
section
variable {prog:Program} {w:World} {A:Around} {R:Result→Shared→Prop} {I:Addr} {fp wr:List Addr} {n:Nat} {P:Nat→Value→Prop} {St:Nat→Heap→Prop}
def besO:Option Value→Array Value
  |none=>#[]
  |some v=>#[v,v]
theorem maxD_loop (W:Walks prog w A.in1 I fp wr n P St) (bt:Nat→Nat→Bool) (cm:CmpOf prog w A.in1 .Gt P bt) (S:Addr) (nf:S∉fp) {d:Value} {x:Str} (k:Nat) :
    ∀ (j:Nat) (s:Shared) (b:Option Value) (c:Nat),n=j+k→St j s.heap→(∀ v,b=some v→0<j∧P (argBest bt (j-1)) v)→(b=none→j=0)→
    s.heap.get? S=some { cls:=.type "list",dict:=none,data:=.seq (besO b) c,slots:=#[] }→
    (∀ v h' tk,(n=0∧v=d∨0<n∧P (argBest bt (n-1)) v)→(∀ q o,q∉wr→q≠S→s.heap.get? q=some o→h'.get? q=some o)→R (.ok (.ret v)) { s with heap:=h',toks:=tk })→
    codeAny (model prog w) A (.builtin "max.loop" ⟨[.ref I,.none,.ref S],[(x,d)]⟩) R s:=by
  have nw:S∉wr:=fun h=>nf (W.sub _ h)
  have nm:(toString "max"++toString ".loop" : String) = "max.loop":=by decide
  induction k with
  | zero=>
    intro j s b c hn sa hb hb0 hS go
    have e:n=j:=hn
    subst e
    refine codeAny_builtin PySem.F.entry_max_loop ?_
    rw [Around.under_plainId PySem.F.plain_max_loop _]
    refine wpAny_bind (m:=seqItems? (.ref S)) (wpAny_seqItems hS rfl (wpAny_bind (m:=tryCatch (pyNext (.ref I)) _) (wpAny_tryCatch (W.done s _ _ sa fun h' tk k1=>?_))))
    cases b with
    |none=>exact wpAny_bind (wpAny_rule (wpAny_pure (go d h' tk (.inl ⟨hb0 rfl,rfl⟩) fun q o hq _ e=>k1 q o hq e)))
    | some v=>
      obtain ⟨j0,hv⟩:=hb v rfl
      refine wpAny_bind (m:=updateSeq S (fun _=>#[])) (wpAny_updateSeq (hz:=(show 2≤sizeLine by decide)) (k1 S _ nw hS) rfl (wpAny_bind (wpAny_letGo (wpAny_pure (go v _ tk (.inr ⟨j0,hv⟩) fun q o hq hqS e=>?_)))))
      rw [Heap.get?_update_other _ _ (Ne.symm hqS)]
      exact k1 q o hq e
  | succ k ih=>
    intro j s b c hn sa hb hb0 hS go
    refine codeAny_builtin PySem.F.entry_max_loop ?_
    rw [Around.under_plainId PySem.F.plain_max_loop _]
    refine wpAny_bind (m:=seqItems? (.ref S)) (wpAny_seqItems hS rfl (wpAny_bind (m:=tryCatch (pyNext (.ref I)) _) (wpAny_tryCatch (W.item j s _ _ (by omega) sa fun u h' tk hu sa' k1=>?_))))
    have hS':=k1 S _ nw hS
    have put:∀ v:Value,P (argBest bt j) v→codeAny (model prog w) A (.builtin "max.loop" ⟨[.ref I,.none,.ref S],[(x,d)]⟩) R { s with heap:=h'.update S (Obj.mapSeq fun _=>#[v,v]),toks:=tk }:=fun v hv=>by
      refine ih (j+1) _ (some v) _ (by omega) (W.frame _ _ _ sa' fun q hq o e=>?_) (fun v' e=>?_) (fun e=>by cases e) (Heap.get?_update_self _ hS' rfl) fun v' h'' tk'' hv' k2=>?_
      · rw [Heap.get?_update_other _ _ (fun h:S=q=>nf (by rw [h];exact hq))];exact e
      · cases e;exact ⟨Nat.succ_pos _,hv⟩
      · refine go v' h'' tk'' hv' fun q o hq hqS e=>k2 q o hq hqS ?_
        rw [Heap.get?_update_other _ _ (Ne.symm hqS)]
        exact k1 q o hq e
    cases b with
    | none=>
      have j0:=hb0 rfl
      subst j0
      refine wpAny_bind (m:=updateSeq S (fun _=>#[u,u])) (wpAny_updateSeq hS' rfl ?_)
      rw [nm]
      exact wpAny_pure ⟨plainId_quiet PySem.F.plain_max_loop _,put u hu⟩
    | some v=>
      obtain ⟨j0,hv⟩:=hb v rfl
      obtain ⟨i,rfl⟩:∃ i,j=i+1:=⟨j-1,by omega⟩
      have hv':P (argBest bt i) v:=hv
      refine wpAny_bind (m:=tryCatch (holding [u,u] (richCompare .Gt u v >>= _)) _) (wpAny_tryCatch (wpAny_holding (wpAny_bind (cm (i+1) (argBest bt i) u v _ _ _ hu hv' (wpAny_bind (wpAny_holding (wpAny_truthy_bool (wpAny_bind (wpAny_letGo (wpAny_pure ?_))))))))))
      cases ht:bt (i+1) (argBest bt i) with
      | true=>
        refine wpAny_bind (m:=updateSeq S (fun _=>#[u,u])) (wpAny_updateSeq (hz:=(show 2≤sizeLine by decide)) hS' rfl (wpAny_bind (wpAny_letGo ?_)))
        rw [nm]
        exact wpAny_pure ⟨plainId_quiet PySem.F.plain_max_loop _,put u (by simp only [argBest,ht,if_true];exact hu)⟩
      | false=>
        refine wpAny_bind (wpAny_letGo ?_)
        rw [nm]
        refine wpAny_pure ⟨plainId_quiet PySem.F.plain_max_loop _,ih (i+2) _ (some v) c (by omega) sa' (fun v' e=>?_) (fun e=>by cases e) hS' fun v' h'' tk'' hv'' k2=>go v' h'' tk'' hv'' fun q o hq hqS e=>k2 q o hq hqS (k1 q o hq e)⟩
        cases e
        exact ⟨Nat.succ_pos _,by show P (argBest bt (i+1)) v;simp only [argBest,ht,Bool.false_eq_true,if_false];exact hv'⟩
end
section
variable {prog:Program} {w:World} {A:Around} {E:Value→Shared→Prop} {s:Shared} {l:Addr} {xs:Array (Int×Tok)}
theorem maxD_ints {d:Value} {Q:Value→Shared→Prop} (hh:A.handled=none) (hl:s.heap.IsList l (intItems xs))
    (h0:xs.size=0→∀ h' tk,(∀ b o,s.heap.get? b=some o→h'.get? b=some o)→Q d { s with heap:=h',toks:=tk })
    (h:0<xs.size→∀ v h' tk,(intItems xs)[argBest (fun i j=>decide (numAt xs i > numAt xs j)) (xs.size-1)]?=some v→(∀ b o,s.heap.get? b=some o→h'.get? b=some o)→Q v { s with heap:=h',toks:=tk }) :
    wpAny (model prog w) A (call (.builtin "max") [.ref l] [(Str.ofString "default",d)]) Q E s:=by
  have nm:(toString "max"++toString ".loop" : String) = "max.loop":=by decide
  refine kmb_tree PySem.F.kind_max PySem.F.plain_max PySem.F.entry_max (args_maxD _ _) ?_
  show wpAny _ A.in1 (Builtin.Builtins.bindParams "max" ["key","default"] 0 ⟨[],[(Str.ofString "default",d)]⟩ >>= _) _ _ s
  refine wpAny_bind (wpAny_of_eq (show Builtin.Builtins.bindParams "max" ["key","default"] 0 ⟨[],[(Str.ofString "default",d)]⟩=pure [none,some d] from rfl) ?_)
  refine wpAny_bind (wpAny_pure ?_)
  refine wpAny_bind (iter_intList hl fun s₂ e st hfp hlI=>?_)
  subst e
  refine wpAny_bind (wpAny_newObj_type ?_)
  have W:=Walks.list (prog:=prog) (w:=w) (A:=A.in1) hh _ l hlI (intItems xs)
  have sz:(intItems xs).size=xs.size:=by simp [intItems]
  rw [sz] at W
  have nf:(s.heap.push { cls:=.type "list_iterator",data:=.fields #[.ref l,.int 0 0] }).objs.size∉[s.heap.objs.size,l]:=fun hm=>Nat.lt_irrefl _ (hfp _ hm)
  rw [nm]
  have sa:=W.frame _ _ _ st fun b _ o e=>Heap.get?_push_of_some { cls:=.type "list",dict:=none,data:=.seq ([]:List Value).toArray } e
  refine wpAny_pure ⟨plainId_quiet PySem.F.plain_max_loop _,maxD_loop W _ (CmpOf.ints_gt (numAt xs) (fun _ _=>intItems_at)) _ nf xs.size 0 _ none _ (Nat.zero_add _).symm sa (fun _ e=>by cases e) (fun _=>rfl) (Heap.get?_push_size _ rfl) fun v h' tk hv hk=>?_⟩
  have ok:∀ b o,s.heap.get? b=some o→h'.get? b=some o:=old_kept fun b o hbw e=>hk b o hbw (Nat.ne_of_lt (Heap.lt_size e)) (Heap.get?_push_of_some _ e)
  rcases hv with ⟨z,rfl⟩|⟨z,hv⟩
  · exact h0 z h' tk ok
  · exact h z v h' tk (by simpa [intItems] using hv) ok
end
section
variable {X:Cx}
def rMaxD (K:PySem.W.Frag):List V→Hp→VK→Prop:=fun xs H Q=>∃ p ns,xs=[.ref p]∧SqL K H p (ns.map V.int)∧(ns=[]→Q .non H)∧∀ b,b∈ns→(∀ x∈ns,x≤b)→Q (.int b) H
theorem pe_maxD {e:Expr} {t:TA} {p kp cp pos:Pos} {j:Nat} (hc:X.calm=true) (ha:PA X [e] t) (hg:Gl X "max") (hm:X.mg "max" = none) (hst:starEach [e] X.env=[(false,eval e X.env)]:=by rfl) :
    PE X (.Call (.Name "max" p) [e] [⟨some "default",.Constant .none j cp,kp⟩] pos) (tCB (rMaxD X.K) t):=by
  intro pins s σ H Q I h
  refine wpAny_Call_Name_kw (ld_blt I hg hm (show bootBuiltins "max" = some (.builtin "max") by decide +kernel) ?_ (by decide) (by decide))
  refine callWith_kw (thn (ha pos pins s σ H _ I h) fun us s1 ⟨vs,H1,I1,r1,q1⟩=>?_) (by rw [hst];rfl) (by rw [hst];rfl)
  · obtain ⟨p,ns,rfl,hq,q0,q⟩:=q1
    obtain ⟨u,rfl,ru⟩:=vals1 r1
    cases (show u=Value.ref p from ru)
    refine thn (pk_cons (nm:=some "default") (kpos:=kp) pe_non pk_nil pos pins s1 σ H1 (fun zs H2=>zs=[.non]∧H2=H1) I1 ⟨rfl,rfl⟩) fun kvs s2 ⟨zs,H2,I2,r2,ez,eH⟩=>?_
    subst ez
    subst eH
    obtain ⟨u,rfl,ru⟩:=vals1 r2
    cases (show u=Value.none from ru)
    obtain ⟨its,rv,pl,hz⟩:=I2.list hq
    obtain ⟨ps,rfl,e⟩:=vals_nums rv
    have hl:ps.length=ns.length:=by rw [← e,List.length_map]
    have pl':=pl.isList
    rw [items_eq] at pl'
    refine maxD_ints (I2.ok.hd hc) pl' (fun z h' tk k=>?_) fun z v h' tk hv k=>?_
    · exact ⟨.non,H2,I2.kept k,rfl,q0 (List.length_eq_zero_iff.mp (by simp at z;subst z;simpa using hl.symm))⟩
    · have hb:=argBest_gt (numAt ps.toArray) (ps.toArray.size-1)
      generalize argBest (fun i j=>decide (numAt ps.toArray i > numAt ps.toArray j)) (ps.toArray.size-1)=m at hv hb
      have z':0<ps.length:=by simpa using z
      have hm:m<ns.length:=by have:=hb.1;simp at this;omega
      obtain ⟨t,rfl⟩:=intItems_at hv
      rw [numAt_eq e hm]
      refine ⟨.int ns[m],H2,I2.kept k,⟨_,rfl⟩,q _ (List.getElem_mem hm) fun x hx=>?_⟩
      obtain ⟨i,hi,rfl⟩:=List.getElem_of_mem hx
      have:=hb.2 i (by simp;omega)
      rw [numAt_eq e hi,numAt_eq e hm] at this
      exact this
end
end L2
namespace Cm
open PySem L2
def top (i:Nat):Stmt:=PySem.Challenge.pw_lanescribe_k31_whole_spans_lie_within_on.main.body.getD i (.Pass ⟨0,0,0,0⟩)
def drK (c:Addr) (a r s:Int):List (Key×V):=[(.inr "cells",.ref c),(.inr "at",.int a),(.inr "rest",.int r),(.inr "seed",.int s)]
theorem pat {c:Addr} {a r s x:Int}:putK (drK c a r s) (.inr "at") (.int x)=drK c x r s:=by rfl
theorem prest {c:Addr} {a r s x:Int}:putK (drK c a r s) (.inr "rest") (.int x)=drK c a x s:=by rfl
theorem pseed {c:Addr} {a r s x:Int}:putK (drK c a r s) (.inr "seed") (.int x)=drK c a r x:=by rfl
theorem gcells {H:Hp} {p c:Addr} {a r s:Int} (h:H p=some (.dK (drK c a r s))):DGet H p (.str "cells") (some (.ref c)):=DGet.k (k:=Sum.inr "cells") h
theorem gat {H:Hp} {p c:Addr} {a r s:Int} (h:H p=some (.dK (drK c a r s))):DGet H p (.str "at") (some (.int a)):=DGet.k (k:=Sum.inr "at") h
theorem grest {H:Hp} {p c:Addr} {a r s:Int} (h:H p=some (.dK (drK c a r s))):DGet H p (.str "rest") (some (.int r)):=DGet.k (k:=Sum.inr "rest") h
theorem gseed {H:Hp} {p c:Addr} {a r s:Int} (h:H p=some (.dK (drK c a r s))):DGet H p (.str "seed") (some (.int s)):=DGet.k (k:=Sum.inr "seed") h
abbrev Big:Int:=2305843009213693951
structure Dr (H:Hp) (p c:Addr):Prop where
  ex:∃ (ns:List Int) (a r s:Int),H p=some (.dK (drK c a r s))∧H c=some (.lst (ns.map V.int))∧ns.length≤63∧0≤a∧a≤ns.length∧0≤r∧0≤s∧s<Big
theorem Dr.mono {H H':Hp} {p c:Addr} (d:Dr H p c) (h:Same H H'):Dr H' p c:=by
  obtain ⟨ns,a,r,s,h1,h2,k⟩:=d.ex
  exact ⟨ns,a,r,s,h _ _ h1,h _ _ h2,k⟩
theorem Dr.ne {H:Hp} {p c q:Addr} {o:HO} (d:Dr H p c) (h:H q=some o) (hd:∀ kvs,o≠.dK kvs):q≠p:=by
  obtain ⟨ns,a,r,s,h1,_⟩:=d.ex
  exact ne_of h h1 (hd _)
theorem Dr.put {H:Hp} {p c q:Addr} {o:HO} (d:Dr H p c) (h1:q≠p) (h2:q≠c):Dr (upd H q o) p c:=by
  obtain ⟨ns,a,r,s,e1,e2,k⟩:=d.ex
  exact ⟨ns,a,r,s,by rw [upd_ne h1.symm];exact e1,by rw [upd_ne h2.symm];exact e2,k⟩
theorem Dr.cell {H:Hp} {p c:Addr} (d:Dr H p c):∃ xs,H c=some (.lst xs):=by
  obtain ⟨ns,a,r,s,e1,e2,k⟩:=d.ex
  exact ⟨_,e2⟩
theorem Dr.neN {H:Hp} {p c q:Addr} (d:Dr H p c) (h:H q=none):p≠q:=by
  obtain ⟨ns,a,r,s,h1,_⟩:=d.ex
  exact ne_of_none h1 h
structure Txt (K:PySem.W.Frag) (mg:Str→Option Value):Prop where
  len:mg "len" = none
  range:mg "range" = none
  list:mg "list" = none
  tuple:mg "tuple" = none
  str:mg "str" = none
  bool:mg "bool" = none
  int:mg "int" = none
  min:mg "min" = none
  repr:mg "repr" = none
  all:mg "all" = none
  any:mg "any" = none
  isinstance:mg "isinstance" = none
section
variable {P:Program} {w:World} {K:PySem.W.Frag} {mg:Str→Option Value} {base:Heap}
def spBegin (K:PySem.W.Frag):Sp:=fun vs H Q _=>∃ (a:Addr) (ns:List Int),vs=[.ref a]∧SqL K H a (ns.map V.int)∧ns.length≤63∧∀ (p c:Addr) (H':Hp),Dr H' p c→Same H H'→H p=none→Q (.ref p) H'
theorem scB:FnScope ["_law_script","_law_seed","_law_cell"] ["_law_script"] (defScope (top 14)):=⟨rfl,rfl,rfl,by decide +kernel,rfl,by decide +kernel,by decide +kernel⟩
theorem ok_begin {f:Addr} {fd:FuncData} (F:Fun K "_law_begin" "_law_begin" (top 14) f fd) (T:Txt K mg):FnOk P w K mg base CX0 1 f fd ["_law_script"] (spBegin K):=by
  refine F.ok scB (fun vs H Q E h=>?_) (fun cdv A outer s H vs Q E hr h=>?_)
  · obtain ⟨a,ns,rfl,_⟩:=h
    rfl
  · obtain ⟨a,ns,rfl,hS,hlen,k⟩:=h
    refine ⟨_,(pss_cons (ps_set (i:=1) scB.nd rfl (Or.inl rfl) pe_int)
      (pss_cons (ps_for PassesOwn.never rfl (pi_list (pe_slice sl_list (pv 0) po_none (po_some pe_int))) (pg_name (i:=2) scB.nd rfl (Or.inl rfl))
        (pss_one (ps_set (i:=1) scB.nd rfl (Or.inl rfl) (pe_op op_mod (pe_op op_add (pe_op op_add (pe_op op_mul (pv 1) pe_int) (pe_op op_mul (pv 2) pe_int)) pe_int) pe_int))))
      (pss_one (ps_ret (pe_disp (pps_cons pe_str (pe_callTy call_list_of (by rfl) T.list bt_list (pa_cons (pe_slice sl_list (pv 0) po_none (po_some pe_int)) pa_nil)) (pps_cons pe_str pe_int (pps_cons pe_str pe_int (pps_cons pe_str (pv 1) pps_nil)))) rfl rfl (List.cons_ne_nil _ _) (by show 4≤15;decide)))))),?_⟩
    have hcut:cutV (ns.map V.int) none (some 63)=ns.map V.int:=by
      show ((ns.map V.int).drop (HT.sIx _ 0 none)).take (HT.sIx _ _ (some ((63:Nat):Int))-HT.sIx _ 0 none)=_
      rw [HT.sIx_none,HT.sIx_nat,List.drop_zero,Nat.sub_zero,List.take_of_length_le]
      rw [List.length_map];omega
    refine ⟨_,rfl,_,rfl,a,_,rfl,hS,fun q hq=>⟨q,rfl,⟨_,SqL.of upd_same⟩,?_⟩⟩
    rw [hcut]
    have hS':∀ o,SqL K (upd H q o) a (ns.map V.int):=fun o=>(show Same H (upd H q o) from fun b u e=>by rw [upd_ne (ne_of_none e hq)];exact e).seq hS
    refine for_list (K:=K) (a:=q) (xs:=ns.map V.int) (fun i σ H2=>∃ (z:Int) (v:Option V),σ=[some (.ref a),some (.int z),v]∧0≤z∧z<Big∧H2=upd H q (.lst (ns.map V.int)))
      ⟨20011,none,rfl,by decide,by decide,rfl⟩ (fun i σ H2 _ ⟨_,_,_,_,_,e⟩=>by rw [e];exact SqL.of upd_same) ?_ ?_
    · rintro i y σ H2 hi ⟨z,v,rfl,h0,h1,rfl⟩
      obtain ⟨n,-,rfl⟩:=List.mem_map.mp (List.mem_of_getElem? hi)
      refine ⟨_,rfl,_,_,rfl,rfl,.inl ⟨by omega,by simp only [Big] at h1;omega⟩,_,rfl,_,_,rfl,rfl,.inr ⟨by decide,by decide⟩,_,_,rfl,rfl,_,_,rfl,rfl,_,_,rfl,rfl,(by show (0:Int)<2305843009213693951;decide),?_⟩
      exact ⟨_,_,rfl,Int.emod_nonneg _ (by decide),Int.emod_lt_of_pos _ (by decide),rfl⟩
    · rintro σ H2 ⟨z,v,rfl,h0,h1,rfl⟩
      intro p hp
      have s1:Same H (upd (upd H q (.lst (ns.map V.int))) p (.dK [])):=(Same.new hq).trans (Same.new hp)
      refine ⟨_,rfl,_,rfl,a,_,rfl,s1.seq hS,fun q2 hq2=>⟨q2,_,rfl,.inl (SqL.of upd_same),fun l hl=>⟨_,rfl,?_,drK l 0 0 z,rfl,by show 4≤15;decide,?_⟩⟩⟩
      · exact (Same.new hl) _ _ ((Same.new hq2) _ _ upd_same)
      · rw [hcut]
        have hpl:(upd (upd (upd (upd H q (.lst (ns.map V.int))) p (.dK [])) q2 (.lst (ns.map V.int))) l (.lst (ns.map V.int))) p=some (.dK []):=(Same.new (by rw [hcut] at hl;exact hl)) _ _ ((Same.new hq2) _ _ upd_same)
        have hlp:l≠p:=ne_of upd_same hpl (by intro z;cases z)
        refine k p l _ ⟨ns,0,0,z,upd_same,by rw [upd_ne hlp];exact upd_same,hlen,by decide,by omega,by decide,h0,h1⟩ ?_ ((Same.new hq).free hp)
        intro b u e
        have e1:=((Same.new (q:=l) (o:=.lst (ns.map V.int)) (by rw [hcut] at hl;exact hl)) _ _ ((Same.new hq2) _ _ (s1 b u e)))
        rw [upd_ne (ne_of_none ((Same.new hq) b u e) hp)]
        exact e1
def spPick:Sp:=fun vs H Q _=>∃ (p c:Addr) (m:Int),vs=[.ref p,.int m]∧Dr H p c∧0<m∧m<340282366920938463463374607431768211456∧∀ (r:Int) (H':Hp),0≤r→r<m→Dr H' p c→But p H H'→Q (.int r) H'
theorem scP:FnScope ["_law_d","_law_many","_law_cell","_law_digit","_law_one"] ["_law_d","_law_many"] (defScope (top 15)):=⟨rfl,rfl,rfl,by decide +kernel,rfl,by decide +kernel,by decide +kernel⟩
theorem ok_pick {f:Addr} {fd:FuncData} (F:Fun K "_law_pick" "_law_pick" (top 15) f fd) (T:Txt K mg):FnOk P w K mg base CX0 1 f fd ["_law_d","_law_many"] spPick:=by
  refine F.ok scP (fun vs H Q E h=>?_) (fun cdv A outer s H vs Q E hr h=>?_)
  · obtain ⟨p,c,m,rfl,_⟩:=h
    rfl
  · obtain ⟨p,c,m,rfl,D,m0,m1,k⟩:=h
    have hu:=hu_of hr
    refine ⟨_,(pss_cons
  (ps_if (PW.pt (pw_and (pt_cmpR op_eq (pe_dget hu (pv 0) pe_str (fun _ _=>rfl)) pe_int (nomark _)) (pw_and1 (pt_cmpR op_lt (pe_dget hu (pv 0) pe_str (fun _ _=>rfl)) (pe_callB call_len_seq (by rfl) T.len bt_len (pa_cons (pe_dget hu (pv 0) pe_str (fun _ _=>rfl)) pa_nil)) (nomark _))))) (pss_cons
  (ps_set (i:=2) scP.nd rfl (Or.inl rfl) (pe_ix ix_list (pe_dget hu (pv 0) pe_str (fun _ _=>rfl)) (pe_dget hu (pv 0) pe_str (fun _ _=>rfl)) (fun _ _=>rfl)))
  (pss_cons
  (ps_dput hu (pv 0) pe_str (pe_op op_add (pe_dget hu (pv 0) pe_str (fun _ _=>rfl)) pe_int) rfl)
  (pss_one
  (ps_if (pt_cmpR op_ge (pv 2) (pe_op op_pow pe_int pe_int) (nomark _)) (pss_one
  (ps_dput hu (pv 0) pe_str (pv 2) rfl)) (pss_one
  (ps_dput hu (pv 0) pe_str (pe_op op_mod (pe_op op_add (pe_op op_add (pe_op op_mul (pe_dget hu (pv 0) pe_str (fun _ _=>rfl)) pe_int) (pe_op op_mul (pv 2) pe_int)) pe_int) pe_int) rfl)))))) pss_nil)
  (pss_cons
  (ps_if (pt_cmpR op_gt (pe_dget hu (pv 0) pe_str (fun _ _=>rfl)) pe_int (nomark _)) (pss_cons
  (ps_set (i:=3) scP.nd rfl (Or.inl rfl) (pe_op op_mod (pe_dget hu (pv 0) pe_str (fun _ _=>rfl)) (pv 1)))
  (pss_cons
  (ps_dput hu (pv 0) pe_str (pe_op op_fdivW (pe_dget hu (pv 0) pe_str (fun _ _=>rfl)) (pv 1)) rfl)
  (pss_one
  (ps_ret (pv 3))))) pss_nil)
  (pss_cons
  (ps_set (i:=4) scP.nd rfl (Or.inl rfl) (pe_op op_mod (pe_op op_mul (pe_dget hu (pv 0) pe_str (fun _ _=>rfl)) (pe_dget hu (pv 0) pe_str (fun _ _=>rfl))) pe_int))
  (pss_cons
  (ps_dput hu (pv 0) pe_str (pe_op op_mod (pe_op op_add (pe_op op_add (pe_op op_mul (pv 4) pe_int) (pe_op op_mul (pe_dget hu (pv 0) pe_str (fun _ _=>rfl)) pe_int)) pe_int) pe_int) rfl)
  (pss_one
  (ps_ret (pe_op op_mod (pe_op op_fdiv (pe_dget hu (pv 0) pe_str (fun _ _=>rfl)) pe_int) (pv 1)))))))),?_⟩
    obtain ⟨ns,a,r,sd,h1,h2,hl,a0,a1,r0,s0,s1⟩:=D.ex
    have npc:c≠p:=ne_of h2 h1 (by intro z;cases z)
    have small:∀ {x y z:Int},(drK c x y z).length<sizeLine:=fun {x y z}=>small1000 (by show 4≤1000;decide)
    refine seq_by (fun σ' H'=>∃ (a' r' sd':Int) (v:Option V),σ'=[some (.ref p),some (.int m),v,none,none]∧H' p=some (.dK (drK c a' r' sd'))∧But p H H'∧0≤a'∧a'≤ns.length∧0≤r'∧0≤sd'∧sd'<Big) ?_ ?_
    · rintro σ' H1 ⟨a',r',sd',v,rfl,e1,bt,b0,b1,c0,d0,d1⟩
      have hc1:∀ o,(upd H1 p o) c=some (.lst (ns.map V.int)):=fun o=>by rw [upd_ne npc];exact bt c _ h2 npc
      refine ⟨_,rfl,p,_,rfl,grest e1,_,_,rfl,rfl,_,rfl,?_⟩
      refine ite2 (fun hpos=>?_) (fun _=>?_)
      · refine ⟨_,rfl,p,_,rfl,grest e1,_,rfl,_,_,rfl,rfl,m0,?_⟩
        refine ⟨_,rfl,p,_,rfl,grest e1,_,rfl,_,_,rfl,rfl,⟨m0,m1⟩,_,rfl,p,_,rfl,DPut.k (k:=Sum.inr "rest") e1 small,_,rfl,?_⟩
        rw [prest]
        exact k _ _ (Int.emod_nonneg _ (by omega)) (Int.emod_lt_of_pos _ m0) ⟨ns,a',r' / m,sd',upd_same,hc1 _,hl,b0,b1,Int.ediv_nonneg c0 (by omega),d0,d1⟩ (bt.trans But.upd)
      · have sq:CMul sd' sd':=.inl ⟨by omega,by simp only [Big] at d1;omega⟩
        refine ⟨_,rfl,p,_,rfl,gseed e1,_,rfl,p,_,rfl,gseed e1,_,_,rfl,rfl,sq,_,_,rfl,rfl,(by show (0:Int)<2305843009213693951;decide),?_⟩
        have u0:=Int.emod_nonneg (sd'*sd') (show (2305843009213693951:Int)≠0 by decide)
        have u1:=Int.emod_lt_of_pos (sd'*sd') (show (0:Int)<2305843009213693951 by decide)
        refine ⟨_,rfl,_,_,rfl,rfl,.inr ⟨by decide,by decide⟩,_,rfl,p,_,rfl,gseed e1,_,_,rfl,rfl,.inr ⟨by decide,by decide⟩,_,_,rfl,rfl,_,_,rfl,rfl,_,_,rfl,rfl,(by show (0:Int)<2305843009213693951;decide),_,rfl,p,_,rfl,DPut.k (k:=Sum.inr "seed") e1 small,?_⟩
        rw [pseed]
        generalize hsd:(sd'*sd' % 2305843009213693951*7+sd'*40503+12345) % 2305843009213693951=sn
        have v0:0≤sn:=hsd ▸ Int.emod_nonneg _ (by decide)
        have v1:sn<Big:=hsd ▸ Int.emod_lt_of_pos _ (by decide)
        refine ⟨_,rfl,p,_,rfl,gseed upd_same,_,_,rfl,rfl,⟨by decide,by decide⟩,_,rfl,_,_,rfl,rfl,m0,?_⟩
        exact k _ _ (Int.emod_nonneg _ (by omega)) (Int.emod_lt_of_pos _ m0) ⟨ns,a',r',sn,upd_same,hc1 _,hl,b0,b1,c0,v0,v1⟩ (bt.trans But.upd)
    · intro N hN
      refine ⟨_,rfl,p,_,rfl,grest h1,rfl,_,rfl,?_⟩
      refine ite2 (fun hz=>?_) (fun _=>?_)
      · refine ⟨_,rfl,p,_,rfl,gat h1,_,rfl,p,_,rfl,gcells h1,c,_,rfl,.inl (SqL.of h2),_,_,rfl,rfl,_,rfl,?_⟩
        rw [List.length_map]
        refine ite2 (fun hlt=>?_) (fun _=>?_)
        · have hlt:a<ns.length:=of_decide_eq_true hlt
          obtain ⟨z,hz'⟩:∃ z,ns[a.toNat]?=some z:=⟨_,List.getElem?_eq_getElem (by omega)⟩
          have hat:atI (ns.map V.int) a=some (.int z):=by
            have e:(a:Int)=((a.toNat:Nat):Int):=by omega
            rw [e]
            refine atI_nat ?_
            rw [List.getElem?_map,hz'];rfl
          refine ⟨_,rfl,p,_,rfl,gcells h1,_,rfl,p,_,rfl,gat h1,c,_,_,_,rfl,rfl,SqL.of h2,hat,?_⟩
          refine ⟨_,rfl,p,_,rfl,gat h1,_,_,rfl,rfl,_,rfl,p,_,rfl,DPut.k (k:=Sum.inr "at") h1 small,?_⟩
          rw [pat]
          refine ⟨_,rfl,_,_,rfl,rfl,⟨by decide,by decide,by decide⟩,_,_,rfl,rfl,_,rfl,?_⟩
          refine ite2 (fun hge=>?_) (fun _=>?_)
          · refine ⟨_,rfl,_,rfl,p,_,rfl,DPut.k (k:=Sum.inr "rest") upd_same small,?_⟩
            rw [prest]
            have hge:(10:Int) ^ 18≤z:=of_decide_eq_true hge
            exact hN _ _ ⟨a+1,z,sd,_,rfl,upd_same,But.upd.trans But.upd,by omega,by omega,by omega,s0,s1⟩
          · refine ⟨_,rfl,p,_,rfl,gseed upd_same,_,_,rfl,rfl,.inr ⟨by decide,by decide⟩,_,rfl,_,_,rfl,rfl,.inr ⟨by decide,by decide⟩,_,_,rfl,rfl,_,_,rfl,rfl,_,_,rfl,rfl,(by show (0:Int)<2305843009213693951;decide),_,rfl,p,_,rfl,DPut.k (k:=Sum.inr "seed") upd_same small,?_⟩
            rw [pseed]
            exact hN _ _ ⟨a+1,r,_,_,rfl,upd_same,But.upd.trans But.upd,by omega,by omega,r0,Int.emod_nonneg _ (by decide),Int.emod_lt_of_pos _ (by decide)⟩
        · exact hN _ _ ⟨a,r,sd,_,rfl,h1,But.refl,a0,a1,r0,s0,s1⟩
      · exact hN _ _ ⟨a,r,sd,_,rfl,h1,But.refl,a0,a1,r0,s0,s1⟩
end
end Cm
namespace Cm
open PySem L2
section
variable {P:Program} {w:World} {K:PySem.W.Frag} {mg:Str→Option Value} {base:Heap}
theorem Dr.dk {H:Hp} {p c:Addr} (d:Dr H p c):∃ kvs,H p=some (.dK kvs):=by
  obtain ⟨ns,a,r,s,h1,_⟩:=d.ex
  exact ⟨_,h1⟩
theorem Dr.seq {H H':Hp} {p c a:Addr} {xs:List V} (d:Dr H p c) (e:But p H H') (h:SqL K H a xs):SqL K H' a xs:=let ⟨_,hp⟩:=d.dk;e.seq hp h
theorem Dr.new {H:Hp} {p c q:Addr} {o:HO} (d:Dr H p c) (h:H q=none):Dr (upd H q o) p c:=d.mono (Same.new h)
def spOf (K:PySem.W.Frag):Sp:=fun vs H Q _=>∃ (p c q:Addr) (xs:List V),vs=[.ref p,.ref q]∧Dr H p c∧SqL K H q xs∧xs≠[]∧xs.length≤1000∧∀ (x:V) (H':Hp),x∈xs→Dr H' p c→But p H H'→Q x H'
theorem scO:FnScope ["_law_d","_law_things"] ["_law_d","_law_things"] (defScope (top 16)):=⟨rfl,rfl,rfl,by decide +kernel,rfl,by decide +kernel,by decide +kernel⟩
theorem ok_of {f fP:Addr} {fd fdP:FuncData} (F:Fun K "_law_of" "_law_of" (top 16) f fd) (T:Txt K mg) (DP:Def K mg "_law_pick" (top 15) ["_law_d","_law_many"] fP fdP):FnOk P w K mg base CX0 2 f fd ["_law_d","_law_things"] (spOf K):=by
  have GP:FnOk P w K mg base CX0 1 fP fdP ["_law_d","_law_many"] spPick:=ok_pick DP.F T
  refine F.ok scO (fun vs H Q E h=>?_) (fun cdv A outer s H vs Q E hr h=>?_)
  · obtain ⟨p,c,q,xs,rfl,_⟩:=h
    rfl
  · obtain ⟨p,c,q,xs,rfl,D,hq,hne,hl,k⟩:=h
    refine ⟨_,(pss_one (ps_ret (pe_ix ix_list (pv 1) (pe_call GP hr rfl DP.mg DP.F.kp DP.b .nil pass0 (pa_cons (pv 0) (pa_cons (pe_callB call_len_seq (by rfl) T.len bt_len (pa_cons (pv 1) pa_nil)) pa_nil))) (fun _ _=>rfl)))),?_⟩
    have hpos:0<xs.length:=List.length_pos_iff.mpr hne
    refine ⟨_,rfl,_,rfl,_,rfl,q,xs,rfl,(.inl hq),p,c,_,rfl,D,by omega,by omega,fun r H' r0 r1 D' bt=>?_⟩
    obtain ⟨j,rfl⟩:=Int.eq_ofNat_of_zero_le r0
    have hx:j<xs.length:=by omega
    exact ⟨q,xs,_,xs[j],rfl,rfl,D.seq bt hq,atI_nat (List.getElem?_eq_getElem hx),k _ _ (List.getElem_mem hx) D' bt⟩
def spS (K:PySem.W.Frag):Nat→Sp
  |0=>fun _ _ _ _=>False
  |n+1=>fun vs H Q _=>∃ (x y:V) (d:PyData),vs=[x,y]∧Rep K H x d∧Rep K H y d∧pdDep d≤n∧pdMax d≤100000∧∀ H':Hp,Same H H'→Q (.bl true) H'
theorem scS:FnScope ["_law_found","_law_due"] ["_law_found","_law_due"] (defScope (top 17)):=⟨rfl,rfl,rfl,by decide +kernel,rfl,by decide +kernel,by decide +kernel⟩
theorem bl_true {Q:VK} {v:V} {H:Hp} (h:Q (.bl true) H):Q (.bl (decide (v=v))) H:=by rw [decide_eq_true rfl];exact h
theorem ok_same {f:Addr} {fd:FuncData} (DS:Def K mg "_law_same" (top 17) ["_law_found","_law_due"] f fd) (T:Txt K mg) (n:Nat):FnOk P w K mg base CX0 n f fd ["_law_found","_law_due"] (spS K n):=by
  refine Nat.rec (motive:=fun n=>FnOk P w K mg base CX0 n f fd ["_law_found","_law_due"] (spS K n)) ⟨fun _ _ _ _ h=>h.elim,fun _ _ _ _ _ _ _ _ _ _ _ _ _ h=>h.elim⟩ (fun n GS=>?_) n
  refine DS.F.ok scS (fun vs H Q E h=>?_) (fun cdv A outer s H vs Q E hr h=>?_)
  · obtain ⟨x,y,d,rfl,_⟩:=h
    rfl
  · obtain ⟨x,y,d,rfl,hx,hy,hn,hm,k⟩:=h
    refine ⟨_,(pss_cons
  (ps_if (pt_cmpR op_isN (pv 1) pe_non (nomark _)) (pss_one
  (ps_ret (pe_cmpR op_isN (pv 0) pe_non (nomark _)))) pss_nil)
  (pss_cons
  (ps_if (PW.pt (pw_or (pt_val (pe_callB call_isT (by rfl) T.isinstance bt_isinstance (pa_cons (pv 1) (pa_cons (pe_ty rfl T.bool bt_bool) pa_nil)))) (pw_or1 (pt_val (pe_callB call_isT (by rfl) T.isinstance bt_isinstance (pa_cons (pv 0) (pa_cons (pe_ty rfl T.bool bt_bool) pa_nil))))))) (pss_one
  (ps_ret (pe_and (pe_callB call_isT (by rfl) T.isinstance bt_isinstance (pa_cons (pv 1) (pa_cons (pe_ty rfl T.bool bt_bool) pa_nil))) (pe_and (pe_callB call_isT (by rfl) T.isinstance bt_isinstance (pa_cons (pv 0) (pa_cons (pe_ty rfl T.bool bt_bool) pa_nil))) (pe_one (pe_cmpR op_eq (pv 0) (pv 1) (nomark _))))))) pss_nil)
  (pss_cons
  (ps_if (pt_val (pe_callB call_isT2 (by rfl) T.isinstance bt_isinstance (pa_cons (pv 1) (pa_cons (pe_tup (pa_cons (pe_ty rfl T.int bt_int) (pa_cons (pe_ty rfl T.str bt_str) pa_nil))) pa_nil)))) (pss_one
  (ps_ret (pe_and (pe_callB call_isT2 (by rfl) T.isinstance bt_isinstance (pa_cons (pv 0) (pa_cons (pe_tup (pa_cons (pe_ty rfl T.int bt_int) (pa_cons (pe_ty rfl T.str bt_str) pa_nil))) pa_nil))) (pe_and (pe_cmpR op_eq (pe_callB call_isT (by rfl) T.isinstance bt_isinstance (pa_cons (pv 0) (pa_cons (pe_ty rfl T.int bt_int) pa_nil))) (pe_callB call_isT (by rfl) T.isinstance bt_isinstance (pa_cons (pv 1) (pa_cons (pe_ty rfl T.int bt_int) pa_nil))) (nomark _)) (pe_one (pe_cmpR op_eq (pv 0) (pv 1) (nomark _))))))) pss_nil)
  (pss_cons
  (ps_if (PW.pt (pw_or (pt_cmpR op_ne (pe_callB call_isT (by rfl) T.isinstance bt_isinstance (pa_cons (pv 1) (pa_cons (pe_ty rfl T.list bt_list) pa_nil))) (pe_callB call_isT (by rfl) T.isinstance bt_isinstance (pa_cons (pv 0) (pa_cons (pe_ty rfl T.list bt_list) pa_nil))) (nomark _)) (pw_or1 (pt_cmpR op_ne (pe_callB call_isT (by rfl) T.isinstance bt_isinstance (pa_cons (pv 1) (pa_cons (pe_ty rfl T.tuple bt_tuple) pa_nil))) (pe_callB call_isT (by rfl) T.isinstance bt_isinstance (pa_cons (pv 0) (pa_cons (pe_ty rfl T.tuple bt_tuple) pa_nil))) (nomark _))))) (pss_one
  (ps_ret pe_bl)) pss_nil)
  (pss_one
  (ps_ret (pe_and (pe_cmpR op_eq (pe_callB call_len_seq (by rfl) T.len bt_len (pa_cons (pv 0) pa_nil)) (pe_callB call_len_seq (by rfl) T.len bt_len (pa_cons (pv 1) pa_nil)) (nomark _)) (pe_one (pe_callB (call_allB rfl) (by rfl) T.all bt_all (pa_cons (pe_comp (own:=["_law_k"]) (js:=[0,1]) (N':=["_law_k","_law_found","_law_due"]) (CompScope.of (osc:=defScope (top 17)) (N:=["_law_found","_law_due"]) rfl rfl ⟨rfl,by decide +kernel,by decide +kernel,by decide +kernel,rfl,by decide +kernel⟩) rfl (pi_range1 rfl T.range (pa_cons (pe_callB call_len_seq (by rfl) T.len bt_len (pa_cons (pv 1) pa_nil)) pa_nil)) (fun _ _ _ _ _=>(pg_name (i:=0) (show List.Nodup (["_law_k","_law_found","_law_due"]:List Str) by decide +kernel) rfl (Or.inl rfl) (Or.inr rfl))) (fun _ _ _ _ _=>pifs_nil) (fun _ _ _ _ _=>(pe_call GS hr rfl DS.mg DS.F.kp DS.b .nil pass0 (pa_cons (pe_ix (r:=rIx K) ix_seq (pv 1) (pv 0) (fun _ _=>rfl)) (pa_cons (pe_ix (r:=rIx K) ix_seq (pv 2) (pv 0) (fun _ _=>rfl)) pa_nil))))) pa_nil)))))))))),?_⟩
    have z2:2≤sizeLine:=by decide
    cases hx with
    | non=>
      cases hy
      refine ⟨_,rfl,rfl,_,rfl,ifT rfl ?_⟩
      exact ⟨_,rfl,rfl,k _ (Same.refl _)⟩
    | bl b=>
      cases hy
      refine ⟨_,rfl,rfl,_,rfl,ifF rfl ?_⟩
      refine ⟨_,rfl,_,_,_,_,rfl,(.bl b),rfl,_,rfl,ifT rfl (ifT rfl ?_)⟩
      exact ⟨_,rfl,_,_,_,_,rfl,(.bl b),rfl,_,rfl,ifT rfl ⟨_,rfl,_,_,_,_,rfl,(.bl b),rfl,_,rfl,ifT rfl ⟨_,rfl,_,rfl,rfl,bl_true (k _ (Same.refl _))⟩⟩⟩
    | int i=>
      cases hy
      refine ⟨_,rfl,rfl,_,rfl,ifF rfl ?_⟩
      refine ⟨_,rfl,_,_,_,_,rfl,(.int i),rfl,_,rfl,ifF rfl ?_⟩
      refine ⟨_,rfl,_,_,_,_,rfl,(.int i),rfl,_,rfl,ifF rfl ?_⟩
      refine ⟨_,rfl,z2,fun p hp=>⟨_,p,_,_,_,_,rfl,upd_same,.int i,rfl,_,rfl,ifT rfl ?_⟩⟩
      refine ⟨_,rfl,z2,fun p2 hp2=>⟨_,p2,_,_,_,_,rfl,upd_same,.int i,rfl,_,rfl,ifT rfl ?_⟩⟩
      refine ⟨_,rfl,_,_,_,_,rfl,.int i,rfl,_,rfl,_,_,_,_,rfl,.int i,rfl,rfl,_,rfl,?_⟩
      exact ifT rfl ⟨_,rfl,_,rfl,rfl,bl_true (k _ ((Same.new hp).trans (Same.new hp2)))⟩
    | str z=>
      cases hy
      refine ⟨_,rfl,rfl,_,rfl,ifF rfl ?_⟩
      refine ⟨_,rfl,_,_,_,_,rfl,(.str z),rfl,_,rfl,ifF rfl ?_⟩
      refine ⟨_,rfl,_,_,_,_,rfl,(.str z),rfl,_,rfl,ifF rfl ?_⟩
      refine ⟨_,rfl,z2,fun p hp=>⟨_,p,_,_,_,_,rfl,upd_same,.str z,rfl,_,rfl,ifT rfl ?_⟩⟩
      refine ⟨_,rfl,z2,fun p2 hp2=>⟨_,p2,_,_,_,_,rfl,upd_same,.str z,rfl,_,rfl,ifT rfl ?_⟩⟩
      refine ⟨_,rfl,_,_,_,_,rfl,.str z,rfl,_,rfl,_,_,_,_,rfl,.str z,rfl,rfl,_,rfl,?_⟩
      exact ifT rfl ⟨_,rfl,_,rfl,rfl,bl_true (k _ ((Same.new hp).trans (Same.new hp2)))⟩
    | tup g rs=>
      cases hy with
      | tup g2 rs2=>
        rename_i a1 xs1 ds a2 xs2
        refine ⟨_,rfl,rfl,_,rfl,ifF rfl ?_⟩
        refine ⟨_,rfl,_,_,_,_,rfl,(.tup g2 rs2),rfl,_,rfl,ifF rfl ?_⟩
        refine ⟨_,rfl,_,_,_,_,rfl,(.tup g rs),rfl,_,rfl,ifF rfl ?_⟩
        refine ⟨_,rfl,z2,fun p hp=>⟨_,p,_,_,_,_,rfl,upd_same,Rep.same (.tup g2 rs2) (Same.new hp),rfl,_,rfl,ifF rfl ?_⟩⟩
        have s1:Same H (upd H p (.tup [.ty "int",.ty "str"])):=Same.new hp
        refine ⟨_,rfl,_,_,_,_,rfl,(Rep.same (.tup g2 rs2) s1),rfl,_,rfl,_,_,_,_,rfl,(Rep.same (.tup g rs) s1),rfl,rfl,_,rfl,ifF rfl ?_⟩
        refine ⟨_,rfl,_,_,_,_,rfl,(Rep.same (.tup g2 rs2) s1),rfl,_,rfl,_,_,_,_,rfl,(Rep.same (.tup g rs) s1),rfl,rfl,_,rfl,ifF rfl ?_⟩
        refine ⟨_,rfl,_,_,rfl,.inr (s1.tup g),_,rfl,_,_,rfl,.inr (s1.tup g2),rfl,_,rfl,?_⟩
        have l1:=rs.length
        have l2:=rs2.length
        have hm':xs2.length≤100000:=by simp only [pdMax] at hm;omega
        have hl:xs1.length=xs2.length:=by omega
        generalize upd H p (.tup [.ty "int",.ty "str"])=H1 at s1 ⊢
        refine ifT (by rw [hl];simp) ?_
        obtain ⟨n,rfl⟩:∃ n',n=n'+1:=⟨n-1,by simp only [pdDep] at hn;omega⟩
        refine ⟨_,rfl,_,_,rfl,.inr (s1.tup g2),_,rfl,by omega,by omega,?_⟩
        refine comp_range (n:=xs2.length) (fun i ys σ' H'=>∃ (v:Option V),ys=(List.replicate i true).map V.bl∧σ'=[v,some _,some _]∧Same H1 H') (by exact Nat.le_trans hm' (by decide)) ⟨none,rfl,rfl,Same.refl _⟩ ?_ ?_
        · rintro i ys σ' H' hi hys ⟨v,rfl,rfl,s2⟩ N hN
          obtain ⟨d1,e1,r1⟩:=rs.get' (i:=i) (x:=xs1[i]) (List.getElem?_eq_getElem (by omega))
          obtain ⟨d2,e2,r2⟩:=rs2.get' (i:=i) (x:=xs2[i]) (List.getElem?_eq_getElem hi)
          rw [e1] at e2
          cases e2
          have m1:=List.mem_of_getElem? e1
          have q1:=pdDep_le m1
          have q2:=pdMax_le m1
          have at1:atI xs1 (0+(i:Int))=some xs1[i]:=by rw [Int.zero_add];exact atI_nat (List.getElem?_eq_getElem (by omega))
          have at2:atI xs2 (0+(i:Int))=some xs2[i]:=by rw [Int.zero_add];exact atI_nat (List.getElem?_eq_getElem hi)
          refine ⟨_,rfl,_,rfl,.inr (.inl ⟨_,_,_,_,rfl,rfl,(s1.trans s2).tup g,at1,?_⟩)⟩
          refine ⟨_,rfl,_,rfl,.inr (.inl ⟨_,_,_,_,rfl,rfl,(s1.trans s2).tup g2,at2,?_⟩)⟩
          refine ⟨_,_,d1,rfl,r1.same (s1.trans s2),r2.same (s1.trans s2),?_,?_,fun H'' s3=>?_⟩
          · simp only [pdDep] at hn;omega
          · simp only [pdMax] at hm;omega
          exact hN _ _ _ (by simp) ⟨_,by rw [List.replicate_succ',List.map_append];rfl,rfl,s2.trans s3⟩
        · rintro ys σ' H' hys ⟨v,rfl,rfl,s2⟩
          refine ⟨by rw [List.length_map,List.length_replicate];exact Nat.le_trans hm' (by decide),fun q hq=>⟨q,_,rfl,SqL.of upd_same,?_⟩⟩
          show Q (.bl ((List.replicate xs2.length true).all id)) _
          rw [show (List.replicate xs2.length true).all id=true by simp]
          exact k _ ((s1.trans s2).trans (Same.new hq))
    | lst g rs=>
      cases hy with
      | lst g2 rs2=>
        rename_i a1 xs1 ds a2 xs2
        refine ⟨_,rfl,rfl,_,rfl,ifF rfl ?_⟩
        refine ⟨_,rfl,_,_,_,_,rfl,(.lst g2 rs2),rfl,_,rfl,ifF rfl ?_⟩
        refine ⟨_,rfl,_,_,_,_,rfl,(.lst g rs),rfl,_,rfl,ifF rfl ?_⟩
        refine ⟨_,rfl,z2,fun p hp=>⟨_,p,_,_,_,_,rfl,upd_same,Rep.same (.lst g2 rs2) (Same.new hp),rfl,_,rfl,ifF rfl ?_⟩⟩
        have s1:Same H (upd H p (.tup [.ty "int",.ty "str"])):=Same.new hp
        refine ⟨_,rfl,_,_,_,_,rfl,(Rep.same (.lst g2 rs2) s1),rfl,_,rfl,_,_,_,_,rfl,(Rep.same (.lst g rs) s1),rfl,rfl,_,rfl,ifF rfl ?_⟩
        refine ⟨_,rfl,_,_,_,_,rfl,(Rep.same (.lst g2 rs2) s1),rfl,_,rfl,_,_,_,_,rfl,(Rep.same (.lst g rs) s1),rfl,rfl,_,rfl,ifF rfl ?_⟩
        refine ⟨_,rfl,_,_,rfl,.inl (s1.seq g),_,rfl,_,_,rfl,.inl (s1.seq g2),rfl,_,rfl,?_⟩
        have l1:=rs.length
        have l2:=rs2.length
        have hm':xs2.length≤100000:=by simp only [pdMax] at hm;omega
        have hl:xs1.length=xs2.length:=by omega
        generalize upd H p (.tup [.ty "int",.ty "str"])=H1 at s1 ⊢
        refine ifT (by rw [hl];simp) ?_
        obtain ⟨n,rfl⟩:∃ n',n=n'+1:=⟨n-1,by simp only [pdDep] at hn;omega⟩
        refine ⟨_,rfl,_,_,rfl,.inl (s1.seq g2),_,rfl,by omega,by omega,?_⟩
        refine comp_range (n:=xs2.length) (fun i ys σ' H'=>∃ (v:Option V),ys=(List.replicate i true).map V.bl∧σ'=[v,some _,some _]∧Same H1 H') (by exact Nat.le_trans hm' (by decide)) ⟨none,rfl,rfl,Same.refl _⟩ ?_ ?_
        · rintro i ys σ' H' hi hys ⟨v,rfl,rfl,s2⟩ N hN
          obtain ⟨d1,e1,r1⟩:=rs.get' (i:=i) (x:=xs1[i]) (List.getElem?_eq_getElem (by omega))
          obtain ⟨d2,e2,r2⟩:=rs2.get' (i:=i) (x:=xs2[i]) (List.getElem?_eq_getElem hi)
          rw [e1] at e2
          cases e2
          have m1:=List.mem_of_getElem? e1
          have q1:=pdDep_le m1
          have q2:=pdMax_le m1
          have at1:atI xs1 (0+(i:Int))=some xs1[i]:=by rw [Int.zero_add];exact atI_nat (List.getElem?_eq_getElem (by omega))
          have at2:atI xs2 (0+(i:Int))=some xs2[i]:=by rw [Int.zero_add];exact atI_nat (List.getElem?_eq_getElem hi)
          refine ⟨_,rfl,_,rfl,.inl ⟨_,_,_,_,rfl,rfl,(s1.trans s2).seq g,at1,?_⟩⟩
          refine ⟨_,rfl,_,rfl,.inl ⟨_,_,_,_,rfl,rfl,(s1.trans s2).seq g2,at2,?_⟩⟩
          refine ⟨_,_,d1,rfl,r1.same (s1.trans s2),r2.same (s1.trans s2),?_,?_,fun H'' s3=>?_⟩
          · simp only [pdDep] at hn;omega
          · simp only [pdMax] at hm;omega
          exact hN _ _ _ (by simp) ⟨_,by rw [List.replicate_succ',List.map_append];rfl,rfl,s2.trans s3⟩
        · rintro ys σ' H' hys ⟨v,rfl,rfl,s2⟩
          refine ⟨by rw [List.length_map,List.length_replicate];exact Nat.le_trans hm' (by decide),fun q hq=>⟨q,_,rfl,SqL.of upd_same,?_⟩⟩
          show Q (.bl ((List.replicate xs2.length true).all id)) _
          rw [show (List.replicate xs2.length true).all id=true by simp]
          exact k _ ((s1.trans s2).trans (Same.new hq))
end
end Cm
namespace Cm
open PySem L2
def Lc (x:Str):Prop:=∀ c∈x.cps.toList,97≤c∧c≤122
structure Nm (x:Str):Prop where
  lo:1≤x.length
  hi:x.length≤8
  lc:Lc x
theorem Lc.app {x y:Str} (a:Lc x) (b:Lc y):Lc (x++y):=fun c hc=>by
  rw [Str.cps_append,Array.toList_append,List.mem_append] at hc
  exact hc.elim (a c) (b c)
theorem join_cps (sep:Str) (hs:sep.cps.toList=[]):∀ ys:List Str,(Str.join sep ys).cps.toList=(ys.map (·.cps.toList)).flatten
  |[]=>rfl
  |[x]=>by show x.cps.toList=_;simp
  | x::y::r=>by
    show (x++sep++Str.join sep (y::r)).cps.toList=_
    rw [Str.cps_append,Array.toList_append,Str.cps_append,Array.toList_append,hs,List.append_nil,join_cps sep hs (y::r),List.map_cons (l:=y::r),List.flatten_cons]
theorem txt_join (sep:Str) (ys:List Str):PySem.Txt.join sep ys=Str.join sep ys:=by
  show PySem.Builtin.Str.glued sep ys=_
  rw [PySem.StrLaws.glued_eq_join]
theorem len_cps (x:Str):x.length=x.cps.toList.length:=by simp [Str.length]
section
variable {P:Program} {w:World} {K:PySem.W.Frag} {mg:Str→Option Value} {base:Heap}
def spWord:Sp:=fun vs H Q _=>∃ (p dc:Addr),vs=[.ref p]∧Dr H p dc∧∀ (x:Str) (H':Hp),Nm x→Dr H' p dc→But p H H'→Q (.str x) H'
theorem scW:FnScope ["_law_d","_law_letters","_law_first","_law_size","_law_some"] ["_law_d"] (defScope (top 18)):=⟨rfl,rfl,rfl,by decide +kernel,rfl,by decide +kernel,by decide +kernel⟩
theorem letters_at {i:Int} {c:Nat} (h:atI ("abcdefghijklmnopqrstuvwxyz" : Str).cps.toList i=some c):97≤c∧c≤122:=by
  have:c∈("abcdefghijklmnopqrstuvwxyz" : Str).cps.toList:=by
    unfold atI at h
    obtain ⟨j,_,e⟩:=Option.bind_eq_some_iff.mp h
    exact List.mem_of_getElem? e
  have all:∀ c∈("abcdefghijklmnopqrstuvwxyz" : Str).cps.toList,97≤c∧c≤122:=by decide +kernel
  exact all c this
theorem ok_word {f fP fO:Addr} {fd fdP fdO:FuncData} (F:Fun K "_law_word" "_law_word" (top 18) f fd) (T:Txt K mg) (DP:Def K mg "_law_pick" (top 15) ["_law_d","_law_many"] fP fdP) (DO:Def K mg "_law_of" (top 16) ["_law_d","_law_things"] fO fdO) :
    FnOk P w K mg base CX0 3 f fd ["_law_d"] spWord:=by
  have GP:FnOk P w K mg base CX0 1 fP fdP ["_law_d","_law_many"] spPick:=ok_pick DP.F T
  have GO:FnOk P w K mg base CX0 2 fO fdO ["_law_d","_law_things"] (spOf K):=ok_of DO.F T DP
  refine F.ok scW (fun vs H Q E h=>?_) (fun cdv A outer s H vs Q E hr h=>?_)
  · obtain ⟨p,dc,rfl,_⟩:=h
    rfl
  · obtain ⟨p,dc,rfl,D,k⟩:=h
    have hr1:Room 1 _:=hr.mono (by decide)
    refine ⟨_,(pss_cons
  (ps_set (i:=1) scW.nd rfl (Or.inr rfl) pe_str)
  (pss_cons
  (ps_set (i:=2) scW.nd rfl (Or.inl rfl) (pe_call GO hr rfl DO.mg DO.F.kp DO.b .nil pass0 (pa_cons (pv 0) (pa_cons (pe_lst (pa_cons pe_str (pa_cons pe_str (pa_cons pe_str (pa_cons pe_str (pa_cons pe_str pa_nil)))))) pa_nil))))
  (pss_cons
  (ps_set (i:=3) scW.nd rfl (Or.inl rfl) (pe_op op_add pe_int (pe_call GP hr1 rfl DP.mg DP.F.kp DP.b .nil pass0 (pa_cons (pv 0) (pa_cons (pe_op op_sub pe_int (pe_callB call_len_str (by rfl) T.len bt_len (pa_cons (pv 2) pa_nil))) pa_nil)))))
  (pss_cons
  (ps_set (i:=4) scW.nd rfl (Or.inl rfl) (pe_bm PySem.F.plainAttrs_str PySem.F.slot_str_join PySem.F.type_str_join mt_join pe_str (pa_cons (pe_comp (own:=["_law_k"]) (js:=[1,0]) (N':=["_law_k","_law_letters","_law_d"]) (CompScope.of (osc:=defScope (top 18)) (N:=["_law_d","_law_letters","_law_first","_law_size","_law_some"]) rfl rfl ⟨rfl,by decide +kernel,by decide +kernel,by decide +kernel,rfl,by decide +kernel⟩) rfl (pi_range1 rfl T.range (pa_cons (pv 3) pa_nil)) (fun _ _ _ _ _=>(pg_name (i:=0) (show List.Nodup (["_law_k","_law_letters","_law_d"]:List Str) by decide +kernel) rfl (Or.inl rfl) (Or.inr rfl))) (fun _ _ _ _ _=>pifs_nil) (fun _ _ _ _ _=>(pe_ix (r:=rIxS) ix_str (pv 1) (pe_call GP hr1 rfl DP.mg DP.F.kp DP.b .nil pass0 (pa_cons (pv 2) (pa_cons pe_int pa_nil))) (fun _ _=>rfl)))) pa_nil)))
  (pss_one
  (ps_ret (pe_ix ix_list (pe_lst (pa_cons (pe_op op_add_str (pv 2) (pv 4)) (pa_cons (pe_op op_add_str (pv 4) (pv 2)) pa_nil))) (pe_call GP hr1 rfl DP.mg DP.F.kp DP.b .nil pass0 (pa_cons (pv 0) (pa_cons pe_int pa_nil))) (fun _ _=>rfl)))))))),?_⟩
    refine ⟨_,rfl,(show 5≤sizeLine by decide),fun q hq=>?_⟩
    refine ⟨p,dc,q,_,rfl,D.new hq,SqL.of upd_same,by simp,by simp,fun x H1 hx D1 b1=>?_⟩
    obtain ⟨z,rfl,hz,lz⟩:∃ z:Str,x=.str z∧z.length≤7∧Lc z:=by
      simp only [List.mem_cons,List.not_mem_nil,or_false] at hx
      rcases hx with rfl|rfl|rfl|rfl|rfl
      all_goals exact ⟨_,rfl,by decide +kernel,by unfold Lc;decide +kernel⟩
    refine ⟨_,rfl,_,rfl,z,rfl,Nat.le_trans hz (by decide),_,_,rfl,rfl,p,dc,_,rfl,D1,by omega,by omega,fun r H2 r0 r1 D2 b2=>?_⟩
    refine ⟨_,_,rfl,rfl,?_⟩
    refine ⟨rfl,_,rfl,_,rfl,by omega,by omega,?_⟩
    refine comp_range (n:=(1+r).toNat) (fun i ys σ' H'=>∃ (cs:List Str) (v:Option V),ys=cs.map V.str∧σ'=[v,some (.str "abcdefghijklmnopqrstuvwxyz"),some (.ref p)]∧Dr H' p dc∧But p H2 H'∧∀ c∈cs,c.length=1∧Lc c) (Nat.le_trans (show (1+r).toNat≤8 by omega) (by decide)) ⟨[],none,rfl,rfl,D2,But.refl,fun _ h=>nomatch h⟩ ?_ ?_
    · rintro i ys σ' H' hi hys ⟨cs,v,rfl,rfl,D3,b3,hc⟩ N hN
      refine ⟨_,rfl,_,rfl,p,dc,_,rfl,D3,by decide,by decide,fun r' H4 r0' r1' D4 b4=>?_⟩
      obtain ⟨j,rfl⟩:=Int.eq_ofNat_of_zero_le r0'
      obtain ⟨c,hcj⟩:∃ c,("abcdefghijklmnopqrstuvwxyz" : Str).cps.toList[j]?=some c:=⟨_,List.getElem?_eq_getElem (by show j<26;omega)⟩
      have hat:atI ("abcdefghijklmnopqrstuvwxyz" : Str).cps.toList (j:Int)=some c:=atI_nat hcj
      refine ⟨_,_,c,rfl,rfl,(show 26≤sizeLine by decide),hat,?_⟩
      refine hN _ _ _ (by simpa using hys) ⟨cs++[⟨#[c]⟩],_,by simp,rfl,D4,b3.trans b4,fun c' hc'=>?_⟩
      rcases List.mem_append.mp hc' with hc'|hc'
      · exact hc c' hc'
      · obtain rfl:c'=⟨#[c]⟩:=by simpa using hc'
        refine ⟨rfl,fun x hx=>?_⟩
        obtain rfl:x=c:=by simpa using hx
        exact letters_at hat
    · rintro ys σ' H' hys ⟨cs,v,rfl,rfl,D3,b3,hc⟩
      rw [List.length_map] at hys
      refine ⟨by rw [List.length_map,hys];exact Nat.le_trans (show (1+r).toNat≤8 by omega) (by decide),fun q2 hq2=>?_⟩
      have hsum:(cs.map (·.length)).sum=cs.length:=by
        clear hys
        induction cs with
        |nil=>rfl
        |cons c t ih=>rw [List.map_cons,List.sum_cons,ih fun d hd=>hc d (List.mem_cons_of_mem _ hd),(hc c List.mem_cons_self).1,List.length_cons,Nat.add_comm]
      refine ⟨_,q2,cs,rfl,rfl,SqL.of upd_same,by rw [hsum,show (Str.ofString "").length=0 from rfl];omega,?_⟩
      rw [txt_join]
      have jl:(Str.join (Str.ofString "") cs).length=cs.length:=by
        rw [len_cps,join_cps _ rfl,List.length_flatten,List.map_map,← hsum]
        congr 1
      have jc:Lc (Str.join (Str.ofString "") cs):=fun x hx=>by
        rw [join_cps _ rfl] at hx
        obtain ⟨l,hl,hxl⟩:=List.mem_flatten.mp hx
        obtain ⟨c,hcm,rfl⟩:=List.mem_map.mp hl
        exact (hc c hcm).2 x hxl
      generalize Str.join (Str.ofString "") cs=js at jl jc
      have hj8:js.length+z.length≤8∧1≤js.length:=by omega
      refine ⟨_,rfl,_,rfl,_,_,rfl,rfl,Nat.le_trans (show z.length+js.length≤8 by omega) (by decide),_,rfl,_,rfl,_,_,rfl,rfl,Nat.le_trans (show js.length+z.length≤8 by omega) (by decide),(show 2≤sizeLine by decide),fun q3 hq3=>?_⟩
      have D4:Dr _ p dc:=(D3.new (o:=.lst (cs.map V.str)) hq2).new (o:=.lst [.str (z++js),.str (js++z)]) hq3
      refine ⟨_,rfl,p,dc,_,rfl,D4,by decide,by decide,fun r' H5 r0' r1' D5 b5=>?_⟩
      have nm1:Nm (z++js):=⟨by rw [Str.length_append];omega,by rw [Str.length_append];omega,lz.app jc⟩
      have nm2:Nm (js++z):=⟨by rw [Str.length_append];omega,by rw [Str.length_append];omega,jc.app lz⟩
      have bt:But p H H5:=((((But.new hq).trans b1).trans b2).trans b3).trans (((But.new hq2).trans (But.new hq3)).trans b5)
      have hq5:SqL K H5 q3 [.str (z++js),.str (js++z)]:=D4.seq b5 (SqL.of upd_same)
      by_cases h0:r'=0
      · subst h0
        exact ⟨_,_,_,_,rfl,rfl,hq5,rfl,k _ _ nm1 D5 bt⟩
      · obtain rfl:r'=1:=by omega
        exact ⟨_,_,_,_,rfl,rfl,hq5,rfl,k _ _ nm2 D5 bt⟩
def spWords (K:PySem.W.Frag):Sp:=fun vs H Q _=>∃ (p dc:Addr) (m:Int),vs=[.ref p,.int m]∧Dr H p dc∧0≤m∧m≤60∧∀ (q:Addr) (ys:List Str) (H':Hp),H' q=some (.lst (ys.map V.str))→H q=none→(ys.length:Int)=m→(∀ y∈ys,Nm y)→ys.Nodup→Dr H' p dc→But p H H'→Q (.ref q) H'
theorem scWs:FnScope ["_law_d","_law_many","_law_found","_law_k","_law_word_here","_law_step"] ["_law_d","_law_many"] (defScope (top 19)):=⟨rfl,rfl,rfl,by decide +kernel,rfl,by decide +kernel,by decide +kernel⟩
def wd (t:Nat):Str:=⟨#[97+t % 8,113+t / 8 % 8]⟩
theorem wd_nm (t:Nat):Nm (wd t):=⟨by show 1≤2;decide,by show 2≤8;decide,fun c hc=>by
  have:c=97+t % 8∨c=113+t / 8 % 8:=by simpa [wd] using hc
  omega⟩
theorem wd_inj {k s s':Nat} (h:wd (k+s)=wd (k+s')) (h1:s<64) (h2:s'<64):s=s':=by
  have e:(#[97+(k+s) % 8,113+(k+s) / 8 % 8]:Array Nat)=#[97+(k+s') % 8,113+(k+s') / 8 % 8]:=congrArg Str.cps h
  have e1:97+(k+s) % 8=97+(k+s') % 8∧113+(k+s) / 8 % 8=113+(k+s') / 8 % 8:=by simpa using congrArg Array.toList e
  omega
theorem sub_len {α:Type} [DecidableEq α]:∀ {l ys:List α},l.Nodup→(∀ x∈l,x∈ys)→l.length≤ys.length
  |[],_,_,_=>Nat.zero_le _
  | a::l,ys,nd,hs=>by
    obtain ⟨n1,n2⟩:=List.nodup_cons.mp nd
    have ha:=hs a List.mem_cons_self
    have q:=sub_len (ys:=ys.erase a) n2 fun x hx=>(List.mem_erase_of_ne (by intro z;exact n1 (z ▸ hx))).mpr (hs x (List.mem_cons_of_mem _ hx))
    rw [List.length_erase_of_mem ha] at q
    have:=List.length_pos_of_mem ha
    rw [List.length_cons];omega
theorem nd_map {α β:Type} {f:α→β}:∀ {l:List α},l.Nodup→(∀ a∈l,∀ b∈l,f a=f b→a=b)→(l.map f).Nodup
  |[],_,_=>List.nodup_nil
  | a::l,nd,h=>by
    obtain ⟨n1,n2⟩:=List.nodup_cons.mp nd
    rw [List.map_cons]
    refine List.nodup_cons.mpr ⟨fun m=>?_,nd_map n2 fun x hx y hy=>h x (List.mem_cons_of_mem _ hx) y (List.mem_cons_of_mem _ hy)⟩
    obtain ⟨b,hb,e⟩:=List.mem_map.mp m
    exact n1 (h b (List.mem_cons_of_mem _ hb) a List.mem_cons_self e ▸ hb)
theorem wd_new {k:Nat} {ys:List Str} (hl:ys.length<64) (h:∀ s,s<64→wd (k+s)∈ys):False:=by
  have nd:((List.range 64).map fun s=>wd (k+s)).Nodup:=nd_map List.nodup_range fun a ha b hb e=>wd_inj e (List.mem_range.mp ha) (List.mem_range.mp hb)
  have q:=sub_len nd fun x hx=>by
    obtain ⟨s,hs,rfl⟩:=List.mem_map.mp hx
    exact h s (List.mem_range.mp hs)
  rw [List.length_map,List.length_range] at q
  omega
theorem ok_words {f fP fO fW:Addr} {fd fdP fdO fdW:FuncData} (F:Fun K "_law_words" "_law_words" (top 19) f fd) (T:Txt K mg) (DP:Def K mg "_law_pick" (top 15) ["_law_d","_law_many"] fP fdP) (DO:Def K mg "_law_of" (top 16) ["_law_d","_law_things"] fO fdO)
    (DW:Def K mg "_law_word" (top 18) ["_law_d"] fW fdW):FnOk P w K mg base CX0 4 f fd ["_law_d","_law_many"] (spWords K):=by
  have GW:FnOk P w K mg base CX0 3 fW fdW ["_law_d"] spWord:=ok_word DW.F T DP DO
  refine F.ok scWs (fun vs H Q E h=>?_) (fun cdv A outer s H vs Q E hr h=>?_)
  · obtain ⟨p,dc,m,rfl,_⟩:=h
    rfl
  · obtain ⟨p,dc,m,rfl,D,m0,m1,k⟩:=h
    refine ⟨_,(pss_cons
  (ps_set (i:=2) scWs.nd rfl (Or.inl rfl) (pe_lst pa_nil))
  (pss_cons
  (ps_for PassesOwn.never rfl (pi_range1 rfl T.range (pa_cons (pv 1) pa_nil)) (pg_name (i:=3) scWs.nd rfl (Or.inl rfl)) (pss_cons
  (ps_set (i:=4) scWs.nd rfl (Or.inl rfl) (pe_call GW hr rfl DW.mg DW.F.kp DW.b .nil pass0 (pa_cons (pv 0) pa_nil)))
  (pss_cons
  (ps_for PassesOwn.never rfl (pi_range1 rfl T.range (pa_cons pe_int pa_nil)) (pg_name (i:=5) scWs.nd rfl (Or.inl rfl)) (pss_one
  (ps_if (pt_cmpR op_in_seq (pv 4) (pv 2) rfl) (pss_one
  (ps_set (i:=4) scWs.nd rfl (Or.inl rfl) (pe_op op_add_str (pe_ix ix_str pe_str (pe_op op_mod (pe_op op_add (pv 3) (pv 5)) pe_int) (fun _ _=>rfl)) (pe_ix ix_str pe_str (pe_op op_mod (pe_op op_fdiv (pe_op op_add (pv 3) (pv 5)) pe_int) pe_int) (fun _ _=>rfl))))) pss_nil)))
  (pss_one
  (ps_expr (pe_bm PySem.F.plainAttrs_list PySem.F.slot_list_append PySem.F.type_list_append mt_append (pv 2) (pa_cons (pv 4) pa_nil)))))))
  (pss_one
  (ps_ret (pv 2))))),?_⟩
    refine ⟨(show 0≤sizeLine by decide),fun q hq=>?_⟩
    refine ⟨_,rfl,m,rfl,by omega,by omega,?_⟩
    refine for_range (n:=m.toNat) (fun i σ H1=>∃ (ys:List Str) (a b c:Option V),σ=[some (.ref p),some (.int m),some (.ref q),a,b,c]∧H1 q=some (.lst (ys.map V.str))∧ys.length=i∧(∀ y∈ys,Nm y)∧ys.Nodup∧Dr H1 p dc∧But p H H1)
      ⟨[],none,none,none,rfl,upd_same,rfl,(fun _ h=>by cases h),List.nodup_nil,D.new hq,But.new hq⟩ ?_ ?_
    · rintro i σ H1 hi ⟨ys,a,b,c,rfl,e1,hl,hy,nd,D1,b1⟩
      refine ⟨_,rfl,p,dc,rfl,D1,fun x H2 nx D2 b2=>?_⟩
      have e2:H2 q=some (.lst (ys.map V.str)):=b2 q _ e1 (D1.ne e1 (by intro kvs z;cases z))
      refine ⟨_,rfl,by decide,by decide,?_⟩
      refine for_range (n:=64) (fun j σ H3=>∃ (z:Str) (c:Option V),σ=[some (.ref p),some (.int m),some (.ref q),some (.int (0+(i:Int))),some (.str z),c]∧Nm z∧H3=H2∧(z∉ys∨∀ s,s<j→wd (i+s)∈ys)) ⟨x,_,rfl,nx,rfl,.inr fun s hs=>absurd hs (Nat.not_lt_zero _)⟩ ?_ ?_
      · rintro j σ H3 hj ⟨z,c,rfl,nz,rfl,hz⟩
        refine ⟨_,rfl,_,rfl,q,_,rfl,.inl (SqL.of e2),rfl,?_,_,rfl,?_⟩
        · rw [List.all_eq_true]
          intro v hv
          obtain ⟨y,_,rfl⟩:=List.mem_map.mp hv
          rfl
        · have hin:inV (.str z) (ys.map V.str)=true↔z∈ys:=by
            unfold inV
            rw [List.any_map,List.any_eq_true]
            constructor
            · rintro ⟨y,hy1,hy2⟩
              have:y=z:=by simpa [eqV] using hy2
              exact this ▸ hy1
            · intro hz'
              exact ⟨z,hz',by simp [eqV]⟩
          refine ite2 (fun hc=>?_) (fun hc=>⟨z,_,rfl,nz,rfl,.inl fun hz'=>hc (hin.mpr hz')⟩)
          have hz1:=hin.mp hc
          have hz2:∀ s,s<j→wd (i+s)∈ys:=hz.elim (fun n=>absurd hz1 n) id
          have u1:(0+(i:Int)+(0+(j:Int))) % 8=(((i+j) % 8:Nat):Int):=by omega
          have u2:(0+(i:Int)+(0+(j:Int))) / 8 % 8=(((i+j) / 8 % 8:Nat):Int):=by omega
          have h1:("abcdefgh" : Str).cps.toList[(i+j) % 8]?=some (97+(i+j) % 8):=by
            have:=Nat.mod_lt (i+j) (show 0<8 by decide)
            generalize (i+j) % 8=m8 at this
            revert m8;decide +kernel
          have h2:("qrstuvwx" : Str).cps.toList[(i+j) / 8 % 8]?=some (113+(i+j) / 8 % 8):=by
            have:=Nat.mod_lt ((i+j) / 8) (show 0<8 by decide)
            generalize (i+j) / 8 % 8=m8 at this
            revert m8;decide +kernel
          refine ⟨_,rfl,_,rfl,_,_,rfl,rfl,_,_,rfl,rfl,(by show (0:Int)<8;decide),_,_,_,rfl,rfl,(show 8≤sizeLine by decide),(by rw [u1];exact atI_nat h1),?_⟩
          refine ⟨_,rfl,_,rfl,_,_,rfl,rfl,_,_,rfl,rfl,⟨by decide,by decide⟩,_,_,rfl,rfl,(by show (0:Int)<8;decide),_,_,_,rfl,rfl,(show 8≤sizeLine by decide),(by rw [u2];exact atI_nat h2),?_⟩
          refine ⟨_,_,rfl,rfl,(show 1+1≤sizeLine by decide),wd (i+j),_,rfl,wd_nm _,rfl,?_⟩
          by_cases hw:wd (i+j)∈ys
          · refine .inr fun s hs=>?_
            by_cases hsj:s=j
            · rw [hsj];exact hw
            · exact hz2 s (by omega)
          · exact .inl hw
      · rintro σ H3 ⟨z,c,rfl,nz,rfl,hz⟩
        have znew:z∉ys:=hz.elim id fun h=>(wd_new (by omega) h).elim
        refine ⟨_,rfl,.inl ⟨rfl,_,SqL.of e2⟩,_,rfl,q,_,_,rfl,rfl,e2,by rw [List.length_map];exact small1000 (by omega),?_⟩
        have nqc:q≠dc:=by
          obtain ⟨xs,e⟩:=D.cell
          exact (ne_of_none e hq).symm
        have nqp:q≠p:=D2.ne e2 (by intro kvs z;cases z)
        refine ⟨ys++[z],_,_,_,rfl,by rw [upd_same];simp,by simp [hl],fun y hy'=>(List.mem_append.mp hy').elim (hy y) (fun h=>by rw [List.mem_singleton.mp h];exact nz),nd_snoc nd znew,D2.put nqp nqc,fun b o e hb=>?_⟩
        rw [upd_ne (ne_of_none e hq)]
        exact (b1.trans b2) b o e hb
    · rintro σ H1 ⟨ys,a,b,c,rfl,e1,hl,hy,nd,D1,b1⟩
      exact ⟨_,rfl,k q ys H1 e1 hq (by omega) hy nd D1 b1⟩
end
end Cm
namespace Cm
open PySem L2
theorem uni:∀ c<128,Unicode.isAlpha c=(decide (65≤c∧c≤90) || decide (97≤c∧c≤122))∧Unicode.isLower c=decide (97≤c∧c≤122)∧Unicode.isUpper c=decide (65≤c∧c≤90)∧Unicode.isTitle c=false:=by decide +kernel
def nameB (x:Str):Bool:=decide (x.length≤8) && (x.cps.all (·<128) && ((x.length > 0 && x.cps.all Unicode.isAlpha) && (x.cps.any Unicode.isLower && !x.cps.any fun c=>Unicode.isUpper c || Unicode.isTitle c)))
theorem nameB_iff (x:Str):nameB x=true↔Nm x:=by
  unfold nameB
  simp only [Bool.and_eq_true,decide_eq_true_eq,Bool.not_eq_true',← Array.all_toList,← Array.any_toList,List.all_eq_true,List.any_eq_true,List.any_eq_false]
  constructor
  · rintro ⟨h8,ha,⟨h0,hal⟩,⟨c0,hc0,hl0⟩,hu⟩
    refine ⟨h0,h8,fun c hc=>?_⟩
    have c1:c<128:=ha c hc
    obtain ⟨u1,u2,u3,u4⟩:=uni c c1
    have a1:=hal c hc
    have a2:=hu c hc
    rw [u1] at a1
    rw [u3,u4] at a2
    simp at a1 a2
    omega
  · rintro ⟨h0,h8,lc⟩
    have cc:∀ c∈x.cps.toList,c<128∧97≤c∧c≤122:=fun c hc=>⟨by have:=lc c hc;omega,lc c hc⟩
    refine ⟨h8,fun c hc=>(cc c hc).1,⟨h0,fun c hc=>?_⟩,?_,fun c hc=>?_⟩
    · rw [(uni c (cc c hc).1).1];simp [(cc c hc).2]
    · rw [len_cps] at h0
      obtain ⟨c,hc⟩:=List.exists_mem_of_length_pos (show 0<x.cps.toList.length by omega)
      exact ⟨c,hc,by rw [(uni c (cc c hc).1).2.1];simp [(cc c hc).2]⟩
    · rw [(uni c (cc c hc).1).2.2.1,(uni c (cc c hc).1).2.2.2]
      have:=(cc c hc).2
      simp;omega
structure TxtK (mg:Str→Option Value):Prop where
  ml:∃ t,mg "MOST_LETTERS" = some (.int 8 t)
section
variable {P:Program} {w:World} {K:PySem.W.Frag} {mg:Str→Option Value} {base:Heap}
def spIsName:Sp:=fun vs H Q _=>∃ x:Str,vs=[.str x]∧x.length≤sizeLine∧Q (.bl (nameB x)) H
theorem scIN:FnScope ["text"] ["text"] (defScope (top 5)):=⟨rfl,rfl,rfl,by decide +kernel,rfl,by decide +kernel,by decide +kernel⟩
theorem ok_isname {f:Addr} {fd:FuncData} (F:Fun K "is_name" "is_name" (top 5) f fd) (T:Txt K mg) (TK:TxtK mg):FnOk P w K mg base CX0 1 f fd ["text"] spIsName:=by
  refine F.ok scIN (fun vs H Q E h=>?_) (fun cdv A outer s H vs Q E hr h=>?_)
  · obtain ⟨x,rfl,_⟩:=h
    rfl
  · obtain ⟨x,rfl,hl,k⟩:=h
    obtain ⟨t8,m8⟩:=TK.ml
    refine ⟨_,(pss_one
  (ps_ret (pe_and (pe_cmpR op_le (pe_callB call_len_str (by rfl) T.len bt_len (pa_cons (pv 0) pa_nil)) (pe_glob (v:=.int 8) rfl m8 ⟨_,rfl⟩) (nomark _)) (pe_and (pe_bm0 PySem.F.plainAttrs_str PySem.F.slot_str_isascii PySem.F.type_str_isascii mt_isascii (pv 0)) (pe_and (pe_bm0 PySem.F.plainAttrs_str PySem.F.slot_str_isalpha PySem.F.type_str_isalpha mt_isalpha (pv 0)) (pe_one (pe_bm0 PySem.F.plainAttrs_str PySem.F.slot_str_islower PySem.F.type_str_islower mt_islower (pv 0)))))))),?_⟩
    refine ⟨_,rfl,x,rfl,hl,_,_,rfl,rfl,_,rfl,?_⟩
    unfold nameB at k
    by_cases h8:x.length≤8
    · refine ifT (by simp;omega) ⟨_,rfl,rfl,x,rfl,rfl,_,rfl,?_⟩
      rw [decide_eq_true h8,Bool.true_and] at k
      cases h1:x.cps.all (·<128) with
      |false=>rw [h1] at k;exact ifF h1 k
      | true=>
        rw [h1,Bool.true_and] at k
        refine ifT h1 ⟨_,rfl,rfl,x,rfl,rfl,_,rfl,?_⟩
        cases h2:(x.length > 0 && x.cps.all Unicode.isAlpha) with
        |false=>rw [h2] at k;exact ifF h2 k
        | true=>
          rw [h2,Bool.true_and] at k
          exact ifT h2 ⟨_,rfl,rfl,x,rfl,rfl,k⟩
    · refine ifF (by simp;omega) ?_
      rw [decide_eq_false h8,Bool.false_and] at k
      exact k
end
end Cm
namespace Cm
open PySem L2 PySem.W
inductive Th
  |lost (n:Int)
  |ev (p t:Int) (k:Str) (vs:List Int)
theorem reps_int {K:Frag} {H:Hp}:∀ us:List Int,Reps K H (us.map V.int) (us.map PyData.int)
  |[]=>.nil
  |u::r=>.cons (.int u) (reps_int r)
theorem dep_int:∀ us:List Int,pdDeps (us.map PyData.int)=0
  |[]=>rfl
  |u::r=>by simp only [List.map_cons,pdDeps,pdDep];rw [dep_int r];rfl
theorem eq_int:∀ us vs:List Int,pdEqs (us.map PyData.int) (vs.map PyData.int)=decide (us=vs)
  |[],[]=>rfl
  |[],_::_=>by simp [pdEqs]
  |_::_,[]=>by simp [pdEqs]
  | u::r,v::q=>by
    simp only [List.map_cons,pdEqs,pdEq]
    rw [eq_int r q]
    by_cases h:u=v
    · subst h;simp
    · simp [h]
theorem sqt_upd {K:Frag} {H:Hp} {a q:Addr} {xs ys:List V} {o:HO} (h:SqT K H a xs) (hq:H q=some (.lst ys)):SqT K (upd H q o) a xs:=by
  rcases h with (h|⟨u,h⟩)|h
  · exact .inl (.inl (by rw [upd_ne (ne_of h hq (by intro z;cases z))];exact h))
  · exact .inl (.inr ⟨u,by rw [upd_ne (ne_of h hq (by intro z;cases z))];exact h⟩)
  · exact .inr h
inductive ThAt (K:Frag) (H:Hp):V→Th→Prop
  |lost {a:Addr} {n:Int}:SqT K H a [.str "lost",.int n]→ThAt K H (.ref a) (.lost n)
  |ev {a b:Addr} {p t:Int} {k:Str} {us:List Int}:SqT K H a [.str "event",.int p,.int t,.str k,.ref b]→SqT K H b (us.map V.int)→ThAt K H (.ref a) (.ev p t k us)
def thD:Th→PyData
  |.lost n=>.tuple [.str "lost",.int n]
  |.ev p t k vs=>.tuple [.str "event",.int p,.int t,.str k,.tuple (vs.map PyData.int)]
theorem ThAt.rep {K:Frag} {H:Hp} {x:V} {th:Th} (h:ThAt K H x th):Rep K H x (thD th):=by
  cases h with
  |lost sq=>exact .tup sq (.cons (.str _) (.cons (.int _) .nil))
  |ev sq sqz=>exact .tup sq (.cons (.str _) (.cons (.int _) (.cons (.int _) (.cons (.str _) (.cons (.tup sqz (reps_int _)) .nil)))))
theorem ThAt.upd {K:Frag} {H:Hp} {x:V} {th:Th} {q:Addr} {ys:List V} {o:HO} (h:ThAt K H x th) (hq:H q=some (.lst ys)):ThAt K (upd H q o) x th:=by
  cases h with
  |lost sq=>exact .lost (sqt_upd sq hq)
  |ev sq sqz=>exact .ev (sqt_upd sq hq) (sqt_upd sqz hq)
theorem ThAt.same {K:Frag} {H H':Hp} {x:V} {th:Th} (h:ThAt K H x th) (s:Same H H'):ThAt K H' x th:=by
  cases h with
  |lost sq=>exact .lost (s.tup sq)
  |ev sq sqz=>exact .ev (s.tup sq) (s.tup sqz)
inductive ThsAt (K:Frag) (H:Hp):List V→List Th→Prop
  |nil:ThsAt K H [] []
  |cons {x:V} {xs:List V} {th:Th} {ths:List Th}:ThAt K H x th→ThsAt K H xs ths→ThsAt K H (x::xs) (th::ths)
theorem ThsAt.upd {K:Frag} {H:Hp} {q:Addr} {ys:List V} {o:HO}:∀ {ths:List Th} {xs:List V},ThsAt K H xs ths→H q=some (.lst ys)→ThsAt K (upd H q o) xs ths
  |_,_,.nil,_=>.nil
  |_,_,.cons r rs,h=>.cons (r.upd h) (rs.upd h)
theorem ThsAt.same {K:Frag} {H H':Hp}:∀ {ths:List Th} {xs:List V},ThsAt K H xs ths→Same H H'→ThsAt K H' xs ths
  |_,_,.nil,_=>.nil
  |_,_,.cons r rs,h=>.cons (r.same h) (rs.same h)
theorem ThsAt.snoc {K:Frag} {H:Hp} {x:V} {th:Th} (hx:ThAt K H x th):∀ {ths:List Th} {xs:List V},ThsAt K H xs ths→ThsAt K H (xs++[x]) (ths++[th])
  |_,_,.nil=>.cons hx .nil
  |_,_,.cons r rs=>.cons r (ThsAt.snoc hx rs)
theorem ThsAt.length {K:Frag} {H:Hp}:∀ {ths:List Th} {xs:List V},ThsAt K H xs ths→xs.length=ths.length
  |_,_,.nil=>rfl
  |_,_,.cons _ rs=>by rw [List.length_cons,List.length_cons,rs.length]
theorem ThsAt.rep {K:Frag} {H:Hp}:∀ {ths:List Th} {xs:List V},ThsAt K H xs ths→Reps K H xs (ths.map thD)
  |_,_,.nil=>.nil
  |_,_,.cons r rs=>.cons r.rep rs.rep
theorem th_dep (th:Th):pdDep (thD th)≤2:=by
  cases th with
  |lost n=>simp [thD,pdDep,pdDeps]
  | ev p t k us=>
    simp only [thD,pdDep,pdDeps]
    rw [dep_int]
    decide
theorem ths_dep:∀ ths:List Th,pdDeps (ths.map thD)≤2
  |[]=>by simp [pdDeps]
  | th::r=>by
    have h1:=th_dep th
    have h2:=ths_dep r
    simp only [List.map_cons,pdDeps]
    omega
theorem eq_nilD (ds:List PyData):pdEq (.list ds) (.list [])=ds.isEmpty:=by
  cases ds <;> simp [pdEq,pdEqs]
theorem tIf_any {tc:TT} {t u:TS} {D:Ends} {σ:St} {H:Hp} (S:Hp→Prop) (h:∀ Q:Bool→Hp→Prop,(∀ b H1,S H1→Q b H1)→tc σ H Q) (h1:∀ H1,S H1→t D σ H1) (h2:∀ H1,S H1→u D σ H1):tIfS tc t u D σ H:=
  h _ fun b H1 s=>by
    cases b with
    |true=>exact h1 H1 s
    |false=>exact h2 H1 s
theorem ThsAt.at {K:Frag} {H:Hp}:∀ {ths:List Th} {xs:List V} {i:Nat} {x:V},ThsAt K H xs ths→xs[i]?=some x→∃ th,ths[i]?=some th∧ThAt K H x th
  |_,_,_,_,.nil,e=>by simp at e
  |_,_,0,_,.cons r _,e=>by simp at e;subst e;exact ⟨_,rfl,r⟩
  | _,_,i+1,_,.cons _ rs,e=>by
    obtain ⟨th,e1,t⟩:=ThsAt.at (i:=i) rs (by simpa using e)
    exact ⟨th,by simpa using e1,t⟩
structure Spn where
  nm:Str
  fi:Int
  la:Option Int
  de:Nat
def laV:Option Int→V
  |none=>.non
  |some l=>.int l
def spV (s:Spn):List V:=[.str s.nm,.int s.fi,laV s.la,.int s.de]
def SpAt (K:Frag) (H:Hp) (x:V) (s:Spn):Prop:=∃ a,x=.ref a∧SqT K H a (spV s)
def PrAt (K:Frag) (H:Hp) (x:V) (p:Str×Str):Prop:=∃ a,x=.ref a∧SqT K H a [.str p.1,.str p.2]
inductive Pd {α β:Type} (R:α→β→Prop):List α→List β→Prop
  |nil:Pd R [] []
  |cons {x:α} {y:β} {xs:List α} {ys:List β}:R x y→Pd R xs ys→Pd R (x::xs) (y::ys)
theorem Pd.map {α β:Type} {R R':α→β→Prop} (h:∀ x y,R x y→R' x y):∀ {xs:List α} {ys:List β},Pd R xs ys→Pd R' xs ys
  |_,_,.nil=>.nil
  |_,_,.cons r t=>.cons (h _ _ r) (Pd.map h t)
theorem Pd.len {α β:Type} {R:α→β→Prop}:∀ {xs:List α} {ys:List β},Pd R xs ys→xs.length=ys.length
  |_,_,.nil=>rfl
  |_,_,.cons _ t=>by rw [List.length_cons,List.length_cons,t.len]
theorem Pd.at {α β:Type} {R:α→β→Prop}:∀ {xs:List α} {ys:List β} {i:Nat} {x:α},Pd R xs ys→xs[i]?=some x→∃ y,ys[i]?=some y∧R x y
  |_,_,_,_,.nil,e=>by simp at e
  |_,_,0,_,.cons r _,e=>by simp at e;subst e;exact ⟨_,rfl,r⟩
  | _,_,i+1,_,.cons _ rs,e=>by
    obtain ⟨y,e1,t⟩:=Pd.at (i:=i) rs (by simpa using e)
    exact ⟨y,by simpa using e1,t⟩
theorem Pd.at' {α β:Type} {R:α→β→Prop}:∀ {xs:List α} {ys:List β} {i:Nat} {y:β},Pd R xs ys→ys[i]?=some y→∃ x,xs[i]?=some x∧R x y
  |_,_,_,_,.nil,e=>by simp at e
  |_,_,0,_,.cons r _,e=>by simp at e;subst e;exact ⟨_,rfl,r⟩
  | _,_,i+1,_,.cons _ rs,e=>by
    obtain ⟨y,e1,t⟩:=Pd.at' (i:=i) rs (by simpa using e)
    exact ⟨y,by simpa using e1,t⟩
theorem Pd.snoc {α β:Type} {R:α→β→Prop} {x:α} {y:β} (h:R x y):∀ {xs:List α} {ys:List β},Pd R xs ys→Pd R (xs++[x]) (ys++[y])
  |_,_,.nil=>.cons h .nil
  |_,_,.cons r t=>.cons r (t.snoc h)
theorem Pd.set {α β:Type} {R:α→β→Prop} {x:α} {y:β} (h:R x y):∀ {xs:List α} {ys:List β} (i:Nat),Pd R xs ys→Pd R (xs.set i x) (ys.set i y)
  |_,_,_,.nil=>.nil
  |_,_,0,.cons r t=>.cons h t
  |_,_,i+1,.cons r t=>.cons r (t.set h i)
theorem Pd.take {α β:Type} {R:α→β→Prop}:∀ {xs:List α} {ys:List β} (i:Nat),Pd R xs ys→Pd R (xs.take i) (ys.take i)
  |_,_,_,.nil=>by simp;exact .nil
  |_,_,0,.cons r t=>.nil
  |_,_,i+1,.cons r t=>.cons r (t.take i)
theorem take_snoc {α:Type} {l:List α} {i:Nat} {x:α} (h:l[i]?=some x):l.take (i+1)=l.take i++[x]:=by
  rw [List.take_add_one,h];rfl
theorem SpAt.same {K:Frag} {H H':Hp} {x:V} {s:Spn} (h:SpAt K H x s) (e:Same H H'):SpAt K H' x s:=let ⟨a,q,t⟩:=h;⟨a,q,e.tup t⟩
theorem SpAt.upd {K:Frag} {H:Hp} {x:V} {s:Spn} {q:Addr} {ys:List V} {o:HO} (h:SpAt K H x s) (hq:H q=some (.lst ys)):SpAt K (upd H q o) x s:=let ⟨a,z,t⟩:=h;⟨a,z,sqt_upd t hq⟩
theorem PrAt.same {K:Frag} {H H':Hp} {x:V} {s:Str×Str} (h:PrAt K H x s) (e:Same H H'):PrAt K H' x s:=let ⟨a,q,t⟩:=h;⟨a,q,e.tup t⟩
abbrev SpsAt (K:Frag) (H:Hp):=Pd (SpAt K H)
abbrev PrsAt (K:Frag) (H:Hp):=Pd (PrAt K H)
def namesP (ps:List (Str×Str)):List Str:=ps.flatMap fun p=>[p.1,p.2]
structure PrOk (ps:List (Str×Str)):Prop where
  nd:(namesP ps).Nodup
  nm:∀ x∈namesP ps,Nm x
  le:ps.length≤3
theorem inV_str (x:Str):∀ ys:List Str,inV (.str x) (ys.map V.str)=decide (x∈ys)
  |[]=>rfl
  | y::r=>by
    have ih:=inV_str x r
    unfold inV at ih ⊢
    rw [List.map_cons,List.any_cons,ih]
    by_cases h:x=y
    · subst h;simp [eqV]
    · have:¬ y=x:=fun z=>h z.symm
      simp [eqV,h,this]
theorem flat_str:∀ ys:List Str,(ys.map V.str).all flatV=true
  |[]=>rfl
  |y::r=>by rw [List.map_cons,List.all_cons,flat_str r];rfl
theorem inV_int (x:Int):∀ ys:List Int,inV (.int x) (ys.map V.int)=decide (x∈ys)
  |[]=>rfl
  | y::r=>by
    have ih:=inV_int x r
    unfold inV at ih ⊢
    rw [List.map_cons,List.any_cons,ih]
    by_cases h:x=y
    · subst h;simp [eqV]
    · have:¬ y=x:=fun z=>h z.symm
      simp [eqV,h,this]
theorem flat_int:∀ ys:List Int,(ys.map V.int).all flatV=true
  |[]=>rfl
  |y::r=>by rw [List.map_cons,List.all_cons,flat_int r];rfl
theorem cut_pre {xs:List V} {a:Nat} (h:a≤xs.length):cutV xs none (some (a:Int))=xs.take a:=by
  show (xs.drop (HT.sIx _ 0 none)).take (HT.sIx _ _ (some (a:Int))-HT.sIx _ 0 none)=_
  rw [HT.sIx_none,HT.sIx_nat,List.drop_zero,Nat.sub_zero]
  congr 1
  omega
theorem cut_drop (xs:List V) (k:Nat) (h:k≤xs.length):cutV xs (some (k:Int)) none=xs.drop k:=by
  unfold cutV
  rw [HT.sIx_nat,HT.sIx_none,Nat.min_eq_left h]
  exact List.take_of_length_le (by rw [List.length_drop];omega)
theorem upd_twice {H:Hp} {a:Addr} {x y:HO}:upd (upd H a x) a y=upd H a y:=funext fun b=>by
  by_cases h:b=a
  · subst h;rw [upd_same,upd_same]
  · rw [upd_ne h,upd_ne h,upd_ne h]
end Cm
namespace Cm
open PySem L2 PySem.W
theorem pi_tupK {X:Cx} {tg l:Expr} {tl:TE} {K:PySem.W.Frag} (hK:X.K=K) (hl:PE X l tl):PI X tg l (iTup K tl):=by
  subst hK
  exact pi_tup hl
theorem comp2_lt {K:Frag} {a:Addr} {xs:List V} {ins:List (List V)} {H0:Hp} {F:List V→Hp→Prop} {σ0:St} (e0:∃ u v,σ0=[u,v]) (hq:SqL K H0 a xs) (hp:Pd (fun x zs=>∃ b,x=V.ref b∧SqT K H0 b zs) xs ins) (hl:ins.flatten.length≤sizeLine) (hF:F ins.flatten H0) :
    ∃ W:Nat→Nat→List V→St→Hp→Prop,(∃ m,W 0 m [] σ0 H0)∧CTurn2 (Itl K a) (gName 0) tYes (iTup K (tVar 0)) (gName 1) tYes (tVar 1) F W:=by
  have pl:=hp.len
  refine ⟨fun i m ys σ H=>m=xs.length-i∧i≤xs.length∧H=H0∧(∃ u v,σ=[u,v])∧ys=(ins.take i).flatten,⟨xs.length,by simp,Nat.zero_le _,rfl,e0,by simp⟩,?_⟩
  rintro i m ys σ H ⟨rfl,hi,rfl,⟨u,v,rfl⟩,rfl⟩
  by_cases hlt:i<xs.length
  · refine .inr ⟨⟨xs,xs[i],hq,by simp [hlt]⟩,fun x H' y=>?_⟩
    obtain ⟨rfl,y⟩:=y
    have ex:=y xs hq
    obtain ⟨zs,ez,b,rfl,hz⟩:=hp.at ex
    have hil:i<ins.length:=by omega
    have et:ins.take (i+1)=ins.take i++[zs]:=take_snoc ez
    have lz:((ins.take i).flatten++zs).length≤sizeLine:=by
      refine Nat.le_trans ?_ hl
      have e:ins.flatten=(ins.take i).flatten++zs++(ins.drop (i+1)).flatten:=by
        conv=>lhs;rw [← List.take_append_drop (i+1) ins,List.flatten_append,et,List.flatten_append]
        simp
      rw [e]
      simp only [List.length_append]
      omega
    dsimp only [gName,tYes,List.set]
    rw [if_pos rfl]
    refine ⟨_,rfl,b,rfl,⟨zs,hz⟩,fun j m ys' σ' H2=>m=zs.length-j∧j≤zs.length∧H2=H'∧(∃ v,σ'=[some (.ref b),v])∧ys'=(ins.take i).flatten++zs.take j,⟨zs.length,by simp,Nat.zero_le _,rfl,⟨v,rfl⟩,by simp⟩,?_⟩
    rintro j m ys' σ' H2 ⟨rfl,hj,rfl,⟨v,rfl⟩,rfl⟩
    by_cases hjt:j<zs.length
    · refine .inr ⟨⟨zs,zs[j],hz,by simp [hjt]⟩,?_,fun x H3 y=>?_⟩
      · rw [List.length_append,List.length_take]
        rw [List.length_append] at lz
        omega
      · obtain ⟨rfl,y⟩:=y
        have ex:=y zs hz
        dsimp only [gName,tYes,List.set]
        rw [if_pos rfl]
        exact ⟨x,rfl,_,(by omega),rfl,hjt,rfl,⟨_,rfl⟩,by rw [take_snoc ex,List.append_assoc]⟩
    · have e:j=zs.length:=by omega
      subst e
      refine .inl ⟨⟨zs,hz,Nat.le_refl _⟩,xs.length-(i+1),by omega,rfl,hlt,rfl,⟨_,_,rfl⟩,?_⟩
      rw [et,List.flatten_append,List.take_length]
      simp
  · have e:i=xs.length:=by omega
    subst e
    refine .inl ⟨⟨xs,hq,Nat.le_refl _⟩,?_⟩
    rw [show ins.take xs.length=ins from by rw [pl,List.take_length]]
    exact hF
theorem prs_ins {K:Frag} {H:Hp}:∀ {xs:List V} {ps:List (Str×Str)},PrsAt K H xs ps→Pd (fun x zs=>∃ b,x=V.ref b∧SqT K H b zs) xs (ps.map fun p=>[V.str p.1,V.str p.2])
  |_,_,.nil=>.nil
  |_,_,.cons r t=>.cons r (prs_ins t)
theorem flat_names:∀ ps:List (Str×Str),(ps.map fun p=>[V.str p.1,V.str p.2]).flatten=(namesP ps).map V.str
  |[]=>rfl
  | p::r=>by
    have:=flat_names r
    rw [List.map_cons,List.flatten_cons,this]
    rfl
theorem names_len:∀ ps:List (Str×Str),(namesP ps).length=2*ps.length
  |[]=>rfl
  | p::r=>by
    have:=names_len r
    show ([p.1,p.2]++namesP r).length=_
    rw [List.length_append,this,List.length_cons]
    simp
    omega
section
variable {P:Program} {w:World} {K:PySem.W.Frag} {mg:Str→Option Value} {base:Heap}
abbrev NNp:List Str:=["pairs","names","at","name"]
theorem scNp:FnScope NNp ["pairs"] (defScope (top 7)):=⟨rfl,rfl,rfl,by decide +kernel,rfl,by decide +kernel,by decide +kernel⟩
def spNp (K:Frag):Sp:=fun vs H Q _=>∃ (q:Addr) (xs:List V) (ps:List (Str×Str)),vs=[.ref q]∧SqL K H q xs∧PrsAt K H xs ps∧PrOk ps∧∀ H',Same H H'→Q .non H'
theorem ok_np {f fI:Addr} {fd fdI:FuncData} (F:Fun K "need_pairs" "need_pairs" (top 7) f fd) (T:Txt K mg) (TK':TxtK mg) (hen:mg "enumerate" = none) (DI:Def K mg "is_name" (top 5) ["text"] fI fdI):FnOk P w K mg base CX0 2 f fd ["pairs"] (spNp K):=by
  have GI:FnOk P w K mg base CX0 1 fI fdI ["text"] spIsName:=ok_isname DI.F T TK'
  refine F.ok scNp (fun vs H Q E h=>?_) (fun cdv A outer s H vs Q E hr h=>?_)
  · obtain ⟨q,xs,ps,rfl,_⟩:=h
    rfl
  · obtain ⟨q,xs,ps,rfl,hq,pe,ok,k⟩:=h
    refine ⟨_,(pss_cons
  (ps_setComp2 (g:=gName 0) (g2:=gName 1) (tt:=tYes) (tt2:=tYes) (te:=tVar 1) (wi2:=iTup K (tVar 0)) (i:=1) (own:=["pair","name"]) (js:=[]) (N':=["pair","name"]) (CompScope.of (osc:=defScope (top 7)) (N:=NNp) rfl rfl ⟨rfl,by decide +kernel,by decide +kernel,by decide +kernel,rfl,by decide +kernel⟩) rfl scNp.nd rfl rfl (pi_list (pv 0)) (fun _ _ _ _ _=>(pg_name (i:=0) (show List.Nodup (["pair","name"]:List Str) by decide +kernel) rfl (Or.inl rfl) (Or.inr rfl))) (fun _ _ _ _ _=>pifs_nil) (fun _ _ _ _ _=>pi_tupK rfl (pv 0)) (fun _ _=>rfl) (fun _ _ _ _ _=>(pg_name (i:=1) (show List.Nodup (["pair","name"]:List Str) by decide +kernel) rfl (Or.inl rfl) (Or.inr rfl))) (fun _ _ _ _ _=>pifs_nil) (fun _ _ _ _ _=>pv 1))
  (pss_one
  (ps_for PassesOwn.never rfl (pi_enumL rfl hen bt_enumerate (pa_cons (pv 1) pa_nil)) (pg_tup rfl (pgs_cons (pg_name (i:=2) scNp.nd rfl (Or.inl rfl)) (pgs_cons (pg_name (i:=3) scNp.nd rfl (Or.inl rfl)) pgs_nil))) (pss_one
    (ps_if (PW.pt (pw_or (pt_not (pt_val (pe_call GI hr rfl DI.mg DI.F.kp DI.b .nil pass0 (pa_cons (pv 3) pa_nil)))) (pw_or1 (pt_cmpR op_in_seq (pv 3) (pe_slice sl_list (pv 1) po_none (po_some (pv 2))) rfl)))) (pss_one ps_never) pss_nil))))),?_⟩
    have big:1000≤sizeLine:=by decide
    have nl:=names_len ps
    have le:=ok.le
    refine ⟨_,rfl,q,rfl,⟨xs,hq⟩,?_⟩
    refine comp2_lt ⟨_,_,rfl⟩ hq (prs_ins pe) (by rw [flat_names,List.length_map];omega) ?_
    rw [flat_names]
    refine ⟨by rw [List.length_map];omega,fun p hp=>?_⟩
    have s1:Same H (upd H p (.lst ((namesP ps).map V.str))):=Same.new hp
    have h1:(upd H p (.lst ((namesP ps).map V.str))) p=some (.lst ((namesP ps).map V.str)):=upd_same
    generalize upd H p (.lst ((namesP ps).map V.str))=H1 at s1 h1 ⊢
    try dsimp only [gName]
    refine ⟨_,rfl,p,rfl,⟨_,SqL.of h1⟩,?_⟩
    refine for_enumL (K:=K) (a:=p) (xs:=(namesP ps).map V.str) (fun i σ' H'=>(∃ u2 u3,σ'=[some (.ref q),some (.ref p),u2,u3])∧Same H1 H') ⟨⟨_,_,rfl⟩,Same.refl _⟩ (fun i σ' H' _ ⟨_,s'⟩=>SqL.of (s' _ _ h1)) ?_ ?_
    · rintro i v σ' H2 t hv ⟨⟨u2,u3,rfl⟩,s2⟩ ht
      rw [List.getElem?_map] at hv
      obtain ⟨x,hx,rfl⟩:∃ x,(namesP ps)[i]?=some x∧V.str x=v:=by
        cases hj:(namesP ps)[i]? with
        |none=>rw [hj] at hv;cases hv
        |some x=>rw [hj] at hv;exact ⟨x,rfl,by simpa using hv⟩
      have s3:Same H2 (upd H2 t (.tup [.int (i:Nat),.str x])):=Same.new ht
      refine ⟨t,_,rfl,SqT.of upd_same,rfl,_,_,rfl,_,_,rfl,rfl,?_⟩
      have S3:=s2.trans s3
      generalize upd H2 t (.tup [.int (i:Nat),.str x])=H3 at s3 S3 ⊢
      have mx:=List.mem_of_getElem? hx
      have nx:=ok.nm x mx
      have bx:nameB x=true:=(nameB_iff x).mpr nx
      have x8:=nx.hi
      refine ⟨_,rfl,x,rfl,by omega,?_⟩
      rw [bx]
      refine ⟨true,rfl,ifF rfl ?_⟩
      refine ⟨_,rfl,_,rfl,_,rfl,_,rfl,p,_,rfl,SqL.of (S3 _ _ h1),fun l hl=>?_⟩
      have il:i<(namesP ps).length:=(List.getElem?_eq_some_iff.mp hx).1
      rw [cut_pre (show i≤((namesP ps).map V.str).length by rw [List.length_map];omega),← List.map_take]
      refine ⟨l,_,rfl,.inl (SqL.of upd_same),rfl,flat_str _,?_⟩
      have nin:¬ x∈(namesP ps).take i:=fun m=>by
        have nd:=ok.nd
        rw [← List.take_append_drop i (namesP ps),List.nodup_append] at nd
        refine nd.2.2 x m x ?_ rfl
        rw [List.drop_eq_getElem_cons il]
        rw [List.getElem?_eq_getElem il] at hx
        injection hx with hx
        rw [hx]
        exact List.mem_cons_self ..
      refine ⟨_,rfl,ifF ?_ ?_⟩
      · show inV (.str x) (((namesP ps).take i).map V.str)=false
        rw [inV_str]
        exact decide_eq_false nin
      · exact ⟨⟨_,_,rfl⟩,S3.trans (Same.new hl)⟩
    · rintro σ' H' ⟨_,s'⟩
      exact k H' (s1.trans s')
end
end Cm
namespace Cm
open PySem L2 PySem.W
def fellow (ps:List (Str×Str)) (k:Str):Option Str:=(ps.find? fun q=>decide (q.2=k)).map (·.1)
def clS (s:Spn) (p:Int):Spn:=⟨s.nm,s.fi,some p,s.de⟩
structure Ws where
  fo:List Spn
  lo:List Int
  ar:List Nat
def closeS (z:Ws) (op:Str) (p:Int):Ws:=match z.ar.getLast? with
  |none=>⟨z.fo,z.lo++[p],z.ar⟩
  | some j=>match z.fo[j]? with
    |none=>z
    |some s=>if s.nm=op then ⟨z.fo.set j (clS s p),z.lo,z.ar.dropLast⟩ else ⟨z.fo,z.lo++[p],z.ar⟩
def stepS (ps:List (Str×Str)) (z:Ws):Th→Ws
  |.lost _=>⟨z.fo,z.lo,[]⟩
  | .ev p _ k _=>if k∈ps.map (·.1) then ⟨z.fo++[⟨k,p,none,z.ar.length⟩],z.lo,z.ar++[z.fo.length]⟩
    else match fellow ps k with
      |none=>z
      |some op=>closeS z op p
def runS (ps:List (Str×Str)) (ths:List Th):Ws:=ths.foldl (stepS ps) ⟨[],[],[]⟩
structure WsOk (z:Ws) (n:Nat):Prop where
  ar:∀ j∈z.ar,j<z.fo.length
  fl:z.fo.length≤n
  ll:z.lo.length≤n
  al:z.ar.length≤n
theorem WsOk.step {ps:List (Str×Str)} {z:Ws} {n:Nat} (h:WsOk z n) (th:Th):WsOk (stepS ps z th) (n+1):=by
  obtain ⟨h1,h2,h3,h4⟩:=h
  have same:WsOk z (n+1):=⟨h1,by omega,by omega,by omega⟩
  have more:∀ p:Int,WsOk ⟨z.fo,z.lo++[p],z.ar⟩ (n+1):=fun p=>⟨h1,by show z.fo.length≤_;omega,by simp;omega,by show z.ar.length≤_;omega⟩
  cases th with
  |lost m=>exact ⟨fun j m=>(by cases m),by show z.fo.length≤_;omega,by show z.lo.length≤_;omega,Nat.zero_le _⟩
  | ev p t k us=>
    show WsOk (if k∈ps.map (·.1) then _ else _) _
    split
    · refine ⟨fun j m=>?_,by simp;omega,by show z.lo.length≤_;omega,by simp;omega⟩
      simp only [List.length_append,List.length_cons,List.length_nil]
      rcases List.mem_append.mp m with m|m
      · have:=h1 j m;omega
      · simp at m;omega
    · cases fellow ps k with
      |none=>exact same
      | some op=>
        show WsOk (closeS z op p) _
        unfold closeS
        split
        · exact more p
        · split
          · exact same
          · split
            · refine ⟨fun i m=>?_,by simp;omega,by show z.lo.length≤_;omega,by simp;omega⟩
              rw [List.length_set]
              exact h1 i (List.dropLast_subset _ m)
            · exact more p
section
variable {P:Program} {w:World} {K:PySem.W.Frag} {mg:Str→Option Value} {base:Heap}
abbrev NCl:List Str:=["found","at","last"]
theorem scCl:FnScope NCl ["found","at","last"] (defScope (top 9)):=⟨rfl,rfl,rfl,by decide +kernel,rfl,by decide +kernel,by decide +kernel⟩
def spCl (K:Frag):Sp:=fun vs H Q _=>∃ (lf:Addr) (xs:List V) (fo:List Spn) (j:Nat) (s:Spn) (p:Int),vs=[.ref lf,.int j,.int p]∧H lf=some (.lst xs)∧SpsAt K H xs fo∧fo[j]?=some s∧
  ∀ H' xs',But lf H H'→H' lf=some (.lst xs')→SpsAt K H' xs' (fo.set j (clS s p))→Q .non H'
theorem ok_cl {f:Addr} {fd:FuncData} (F:Fun K "close" "close" (top 9) f fd):FnOk P w K mg base CX0 1 f fd ["found","at","last"] (spCl K):=by
  refine F.ok scCl (fun vs H Q E h=>?_) (fun cdv A outer s H vs Q E hr h=>?_)
  · obtain ⟨lf,xs,fo,j,s,p,rfl,_⟩:=h
    rfl
  · obtain ⟨lf,xs,fo,j,s',p,rfl,hf,sp,hs,k⟩:=h
    refine ⟨_,(pss_one
  (ps_asg (pe_op op_catA (pe_op op_catA (pe_slice sl_tupW (pe_ix ix_list (pv 0) (pv 1) (fun _ _=>rfl)) po_none (po_some pe_int)) (pe_tup (pa_cons (pv 2) pa_nil))) (pe_slice sl_tupW (pe_ix ix_list (pv 0) (pv 1) (fun _ _=>rfl)) (po_some pe_int) po_none)) (pg_sub (pv 0) (pv 1) set_list))),?_⟩
    obtain ⟨x,hx,a,rfl,ha⟩:=sp.at' hs
    have c1:cutV (spV s') none (some 2)=[.str s'.nm,.int s'.fi]:=cut_pre (xs:=spV s') (a:=2) (by show 2≤4;decide)
    have c2:cutV (spV s') (some 3) none=[.int s'.de]:=cut_drop (spV s') 3 (by show 3≤4;decide)
    refine ⟨_,rfl,_,rfl,lf,xs,_,_,rfl,rfl,SqL.of hf,atI_nat (j:=j) hx,_,rfl,a,_,rfl,ha,fun e=>?_,fun p1 hp1=>?_⟩
    · have:=congrArg List.length (c1.symm.trans e)
      simp [spV] at this
    rw [c1]
    have s1:Same H (upd H p1 (.tup [.str s'.nm,.int s'.fi])):=Same.new hp1
    have e1:(upd H p1 (.tup [.str s'.nm,.int s'.fi])) p1=some (.tup [.str s'.nm,.int s'.fi]):=upd_same
    generalize upd H p1 (.tup [.str s'.nm,.int s'.fi])=H1 at s1 e1 ⊢
    refine ⟨_,rfl,(show 1≤sizeLine by decide),fun p2 hp2=>?_⟩
    have s2:Same H1 (upd H1 p2 (.tup [.int p])):=Same.new hp2
    have e2:(upd H1 p2 (.tup [.int p])) p2=some (.tup [.int p]):=upd_same
    generalize upd H1 p2 (.tup [.int p])=H2 at s2 e2 ⊢
    refine ⟨p1,p2,_,_,rfl,rfl,SqT.of (s2 _ _ e1),SqT.of e2,(show 3≤sizeLine by decide),(fun z=>by cases z),(fun z=>by cases z),fun p3 hp3=>?_⟩
    have s3:Same H2 (upd H2 p3 (.tup [.str s'.nm,.int s'.fi,.int p])):=Same.new hp3
    have e3:(upd H2 p3 (.tup [.str s'.nm,.int s'.fi,.int p])) p3=some (.tup [.str s'.nm,.int s'.fi,.int p]):=upd_same
    have S3:=s1.trans (s2.trans s3)
    show tSl _ _ _ _ _ (upd H2 p3 (.tup [.str s'.nm,.int s'.fi,.int p])) _
    generalize upd H2 p3 (.tup [.str s'.nm,.int s'.fi,.int p])=H3 at s3 e3 S3 ⊢
    refine ⟨_,rfl,_,rfl,lf,xs,_,_,rfl,rfl,SqL.of (S3 _ _ hf),atI_nat (j:=j) hx,_,rfl,a,_,rfl,S3.tup ha,fun e=>?_,fun p4 hp4=>?_⟩
    · have:=congrArg List.length (c2.symm.trans e)
      simp [spV] at this
    rw [c2]
    have s4:Same H3 (upd H3 p4 (.tup [.int s'.de])):=Same.new hp4
    have e4:(upd H3 p4 (.tup [.int s'.de])) p4=some (.tup [.int s'.de]):=upd_same
    generalize upd H3 p4 (.tup [.int s'.de])=H4 at s4 e4 ⊢
    refine ⟨p3,p4,_,_,rfl,rfl,SqT.of (s4 _ _ e3),SqT.of e4,(show 4≤sizeLine by decide),(fun z=>by cases z),(fun z=>by cases z),fun p5 hp5=>?_⟩
    have s5:Same H4 (upd H4 p5 (.tup (spV (clS s' p)))):=Same.new hp5
    have e5:(upd H4 p5 (.tup (spV (clS s' p)))) p5=some (.tup (spV (clS s' p))):=upd_same
    have S5:=S3.trans (s4.trans s5)
    show gSub _ _ _ _ _ (upd H4 p5 (.tup (spV (clS s' p)))) _
    generalize upd H4 p5 (.tup (spV (clS s' p)))=H5 at s5 e5 S5 ⊢
    have hf5:=S5 _ _ hf
    have sp5:SpsAt K H5 xs fo:=sp.map fun _ _ q=>q.same S5
    have jl:j<xs.length:=(List.getElem?_eq_some_iff.mp hx).1
    refine ⟨_,rfl,_,rfl,lf,xs,_,j,rfl,rfl,hf5,?_,?_⟩
    · unfold ixN
      simp
      omega
    · refine k _ (xs.set j (.ref p5)) (fun b o e hb=>by rw [upd_ne hb];exact S5 _ _ e) upd_same ?_
      refine Pd.set ⟨p5,rfl,sqt_upd (SqT.of e5) hf5⟩ j (sp5.map fun _ _ q=>q.upd hf5)
end
end Cm
namespace Cm
open PySem L2 PySem.W
def kvP (ps:List (Str×Str)):List (Key×V):=ps.map fun q=>(.inr q.2,.str q.1)
theorem val_kvP (k:Str):∀ ps:List (Str×Str),valV (kvP ps) (.inr k)=(fellow ps k).map V.str
  |[]=>rfl
  | p::r=>by
    have ih:=val_kvP k r
    unfold kvP fellow at ih ⊢
    rw [List.map_cons,List.find?_cons]
    by_cases h:p.2=k
    · rw [valV_pos (by rw [h]),decide_eq_true h]
      rfl
    · rw [valV_neg (fun e=>h (by injection e)),decide_eq_false h]
      exact ih
theorem closings_nd {ps:List (Str×Str)} (h:(namesP ps).Nodup):(ps.map (·.2)).Nodup:=by
  have:(ps.map (·.2)).Sublist (namesP ps):=by
    induction ps with
    |nil=>exact List.Sublist.refl _
    | cons p r ih=>
      have h':(p.1::p.2::namesP r).Nodup:=h
      have h2:(namesP r).Nodup:=(List.nodup_cons.mp (List.nodup_cons.mp h').2).2
      exact List.Sublist.cons _ (List.Sublist.cons_cons _ (ih h2))
  exact this.nodup h
theorem put_kvP {ps:List (Str×Str)} {i:Nat} {p:Str×Str} (nd:(ps.map (·.2)).Nodup) (h:ps[i]?=some p):putK (kvP (ps.take i)) (.inr p.2) (.str p.1)=kvP (ps.take (i+1)):=by
  have il:=(List.getElem?_eq_some_iff.mp h).1
  have hn:valV (kvP (ps.take i)) (.inr p.2)=none:=by
    rw [val_kvP]
    unfold fellow
    have:(ps.take i).find? (fun q=>decide (q.2=p.2))=none:=by
      rw [List.find?_eq_none]
      intro q hq
      have nin:¬ p.2∈(ps.map (·.2)).take i:=fun m=>by
        have nd':=nd
        rw [← List.take_append_drop i (ps.map (·.2)),List.nodup_append] at nd'
        refine nd'.2.2 _ m p.2 ?_ rfl
        have il':i<(ps.map (·.2)).length:=by rw [List.length_map];exact il
        rw [List.drop_eq_getElem_cons il']
        have:(ps.map (·.2))[i]=p.2:=by
          rw [List.getElem?_eq_getElem il] at h
          injection h with h
          rw [List.getElem_map,h]
        rw [this]
        exact List.mem_cons_self ..
      rw [decide_eq_true_eq]
      intro e
      refine nin ?_
      rw [← List.map_take,← e]
      exact List.mem_map_of_mem hq
    rw [this]
    rfl
  rw [putK_new _ hn,take_snoc h]
  unfold kvP
  rw [List.map_append]
  rfl
def gPr (K:PySem.W.Frag):TG:=gTup K 2 (gCons (gName 0) (gCons (gName 1) gNil))
structure WF (H:Hp) (lf ll la lop fd:Addr):Prop where
  f1:H lf=none
  f2:H ll=none
  f3:H la=none
  n1:lf≠ll
  n2:lf≠la
  n3:ll≠la
  o1:lop≠lf
  o2:lop≠ll
  o3:lop≠la
structure WH (K:Frag) (H:Hp) (lf ll la lop fd:Addr) (ps:List (Str×Str)) (z:Ws) (H':Hp):Prop where
  sm:Same H H'
  xs:∃ xs,H' lf=some (.lst xs)∧SpsAt K H' xs z.fo
  hl:H' ll=some (.lst (z.lo.map V.int))
  ha:H' la=some (.lst (z.ar.map fun n:Nat=>V.int n))
  ho:H' lop=some (.lst ((ps.map (·.1)).map V.str))
  hd:H' fd=some (.dK (kvP ps))
section
variable {K:Frag} {H H' H'':Hp} {lf ll la lop fd:Addr} {ps:List (Str×Str)} {z:Ws}
theorem WH.same (h:WH K H lf ll la lop fd ps z H') (e:Same H' H''):WH K H lf ll la lop fd ps z H'':=by
  obtain ⟨sm,⟨xs,h1,h2⟩,hl,ha,ho,hd⟩:=h
  exact ⟨sm.trans e,⟨xs,e _ _ h1,h2.map fun _ _ q=>q.same e⟩,e _ _ hl,e _ _ ha,e _ _ ho,e _ _ hd⟩
theorem WH.putL (W:WF H lf ll la lop fd) (h:WH K H lf ll la lop fd ps z H') (lo:List Int):WH K H lf ll la lop fd ps ⟨z.fo,lo,z.ar⟩ (upd H' ll (.lst (lo.map V.int))):=by
  obtain ⟨sm,⟨xs,h1,h2⟩,hl,ha,ho,hd⟩:=h
  refine ⟨fun b o e=>by rw [upd_ne (ne_of_none e W.f2)];exact sm b o e,⟨xs,by rw [upd_ne W.n1];exact h1,h2.map fun _ _ q=>q.upd hl⟩,upd_same,by rw [upd_ne W.n3.symm];exact ha,by rw [upd_ne W.o2];exact ho,?_⟩
  rw [upd_ne (fun e=>by rw [e,hl] at hd;cases hd)];exact hd
theorem WH.putA (W:WF H lf ll la lop fd) (h:WH K H lf ll la lop fd ps z H') (ar:List Nat):WH K H lf ll la lop fd ps ⟨z.fo,z.lo,ar⟩ (upd H' la (.lst (ar.map fun n:Nat=>V.int n))):=by
  obtain ⟨sm,⟨xs,h1,h2⟩,hl,ha,ho,hd⟩:=h
  refine ⟨fun b o e=>by rw [upd_ne (ne_of_none e W.f3)];exact sm b o e,⟨xs,by rw [upd_ne W.n2];exact h1,h2.map fun _ _ q=>q.upd ha⟩,by rw [upd_ne W.n3];exact hl,upd_same,by rw [upd_ne W.o3];exact ho,?_⟩
  rw [upd_ne (fun e=>by rw [e,ha] at hd;cases hd)];exact hd
theorem WH.putF (W:WF H lf ll la lop fd) (h:WH K H lf ll la lop fd ps z H') {xs:List V} {fo:List Spn} (b:But lf H' H'') (e:H'' lf=some (.lst xs)) (sp:SpsAt K H'' xs fo):WH K H lf ll la lop fd ps ⟨fo,z.lo,z.ar⟩ H'':=by
  obtain ⟨sm,⟨xs',h1,h2⟩,hl,ha,ho,hd⟩:=h
  refine ⟨fun c o e=>b c o (sm c o e) (ne_of_none e W.f1),⟨xs,e,sp⟩,b _ _ hl W.n1.symm,b _ _ ha W.n2.symm,b _ _ ho W.o1,b _ _ hd fun e=>?_⟩
  rw [e,h1] at hd;cases hd
end
section
variable {P:Program} {w:World} {K:PySem.W.Frag} {mg:Str→Option Value} {base:Heap}
abbrev NWk:List Str:=["told","pairs","openings","fellows","found","lone","around","thing"]
theorem scWk:FnScope NWk ["told","pairs"] (defScope (top 8)):=⟨rfl,rfl,rfl,by decide +kernel,rfl,by decide +kernel,by decide +kernel⟩
def spWk (K:Frag):Sp:=fun vs H Q _=>∃ (lt q:Addr) (ts xs:List V) (ths:List Th) (ps:List (Str×Str)),vs=[.ref lt,.ref q]∧SqL K H lt ts∧ThsAt K H ts ths∧ths.length≤40∧SqL K H q xs∧PrsAt K H xs ps∧PrOk ps∧
  ∀ (t lf ll:Addr) (ys:List V) (H':Hp),Same H H'→H lf=none→H ll=none→lf≠ll→H' t=some (.tup [.ref lf,.ref ll])→H' lf=some (.lst ys)→SpsAt K H' ys (runS ps ths).fo→H' ll=some (.lst ((runS ps ths).lo.map V.int))→Q (.ref t) H'
theorem ok_wk {f fN fC:Addr} {fd fdN fdC:FuncData} (F:Fun K "walked" "walked" (top 8) f fd) (T:Txt K mg) (DN:Def K mg "need_pairs" (top 7) ["pairs"] fN fdN) (GN:FnOk P w K mg base CX0 2 fN fdN ["pairs"] (spNp K)) (DC:Def K mg "close" (top 9) ["found","at","last"] fC fdC):FnOk P w K mg base CX0 3 f fd ["told","pairs"] (spWk K):=by
  have GC:FnOk P w K mg base CX0 1 fC fdC ["found","at","last"] (spCl K):=ok_cl DC.F
  refine F.ok scWk (fun vs H Q E h=>?_) (fun cdv A outer s H vs Q E hr h=>?_)
  · obtain ⟨lt,q,ts,xs,ths,ps,rfl,_⟩:=h
    rfl
  · obtain ⟨lt,q,ts,xs,ths,ps,rfl,htl,tha,tl,hq,pe,ok,k⟩:=h
    have hu:(A.deeper (PyProof.Rows.envOfC "walked" (defScope (top 8)) s.heap.objs.size f cdv)).units+1<cLine:=by have:=hr.un;omega
    have hr1:Room 1 _:=hr.mono (by decide)
    refine ⟨_,(pss_cons
  (ps_expr (pe_call GN hr rfl DN.mg DN.F.kp DN.b .nil pass0 (pa_cons (pv 1) pa_nil)))
  (pss_cons
  (ps_setComp (g:=gPr K) (i:=2) (own:=["opening","closing"]) (js:=[]) (N':=["opening","closing"]) (CompScope.of (osc:=defScope (top 8)) (N:=NWk) rfl rfl ⟨rfl,by decide +kernel,by decide +kernel,by decide +kernel,rfl,by decide +kernel⟩) rfl scWk.nd rfl rfl (pi_list (pv 1)) (fun _ _ _ _ _=>(pg_tup rfl (pgs_cons (pg_name (i:=0) (show List.Nodup (["opening","closing"]:List Str) by decide +kernel) rfl (Or.inl rfl) (Or.inr rfl)) (pgs_cons (pg_name (i:=1) (show List.Nodup (["opening","closing"]:List Str) by decide +kernel) rfl (Or.inl rfl) (Or.inr rfl)) pgs_nil)))) (fun _ _ _ _ _=>pifs_nil) (fun _ _ _ _ _=>(pv 0)))
  (pss_cons
  (ps_setDComp (g:=gPr K) (i:=3) (own:=["opening","closing"]) (js:=[]) (N':=["opening","closing"]) (CompScope.of (osc:=defScope (top 8)) (N:=NWk) rfl rfl ⟨rfl,by decide +kernel,by decide +kernel,by decide +kernel,rfl,by decide +kernel⟩) rfl scWk.nd rfl rfl (pi_list (pv 1)) (fun _ _ _ _ _=>(pg_tup rfl (pgs_cons (pg_name (i:=0) (show List.Nodup (["opening","closing"]:List Str) by decide +kernel) rfl (Or.inl rfl) (Or.inr rfl)) (pgs_cons (pg_name (i:=1) (show List.Nodup (["opening","closing"]:List Str) by decide +kernel) rfl (Or.inl rfl) (Or.inr rfl)) pgs_nil)))) (fun _ _ _ _ _=>pifs_nil) (fun _ _ _ _ _=>(pv 1)) (fun _ _ _ _ _=>(pv 0)))
  (pss_cons (ps_set (i:=4) scWk.nd rfl (Or.inl rfl) (pe_lst pa_nil))
  (pss_cons (ps_set (i:=5) scWk.nd rfl (Or.inl rfl) (pe_lst pa_nil))
  (pss_cons (ps_set (i:=6) scWk.nd rfl (Or.inl rfl) (pe_lst pa_nil))
  (pss_cons
  (ps_for PassesOwn.never rfl (pi_list (pv 0)) (pg_name (i:=7) scWk.nd rfl (Or.inl rfl)) (pss_one
    (ps_if (pt_cmpR op_eq (pe_ix ix_tup (pv 7) pe_int (fun _ _=>rfl)) pe_str (nomark _)) (pss_one (ps_expr (pe_bm0 PySem.F.plainAttrs_list PySem.F.slot_list_clear PySem.F.type_list_clear mt_clear (pv 6)))) (pss_one
    (ps_if (pt_cmpR op_in_seq (pe_ix ix_tup (pv 7) pe_int (fun _ _=>rfl)) (pv 2) rfl) (pss_cons
      (ps_expr (pe_bm PySem.F.plainAttrs_list PySem.F.slot_list_append PySem.F.type_list_append mt_append (pv 6) (pa_cons (pe_callB call_len_seq (by rfl) T.len bt_len (pa_cons (pv 4) pa_nil)) pa_nil)))
      (pss_one (ps_expr (pe_bm PySem.F.plainAttrs_list PySem.F.slot_list_append PySem.F.type_list_append mt_append (pv 4) (pa_cons (pe_tup (pa_cons (pe_ix ix_tup (pv 7) pe_int (fun _ _=>rfl)) (pa_cons (pe_ix ix_tup (pv 7) pe_int (fun _ _=>rfl)) (pa_cons pe_non (pa_cons (pe_op op_sub (pe_callB call_len_seq (by rfl) T.len bt_len (pa_cons (pv 6) pa_nil)) pe_int) pa_nil))))) pa_nil))))) (pss_one
    (ps_if (pt_cmp (pc_din hu (pe_ix ix_tup (pv 7) pe_int (fun _ _=>rfl)) (pv 3))) (pss_one
      (ps_if (PW.pt (pw_and (pt_cmpR op_gt (pe_callB call_len_seq (by rfl) T.len bt_len (pa_cons (pv 6) pa_nil)) pe_int (nomark _)) (pw_and1 (pt_cmpR op_eq (pe_ix ix_tup (pe_ix ix_list (pv 4) (pe_ix ix_list (pv 6) (pe_un un_neg pe_int) (fun _ _=>rfl)) (fun _ _=>rfl)) pe_int (fun _ _=>rfl)) (pe_dget hu (pv 3) (pe_ix ix_tup (pv 7) pe_int (fun _ _=>rfl)) (fun _ _=>rfl)) (nomark _)))))
        (pss_one (ps_expr (pe_call GC hr1 rfl DC.mg DC.F.kp DC.b .nil pass0 (pa_cons (pv 4) (pa_cons (pe_bm0 PySem.F.plainAttrs_list PySem.F.slot_list_pop PySem.F.type_list_pop mt_pop (pv 6)) (pa_cons (pe_ix ix_tup (pv 7) pe_int (fun _ _=>rfl)) pa_nil))))))
        (pss_one (ps_expr (pe_bm PySem.F.plainAttrs_list PySem.F.slot_list_append PySem.F.type_list_append mt_append (pv 5) (pa_cons (pe_ix ix_tup (pv 7) pe_int (fun _ _=>rfl)) pa_nil)))))) pss_nil)))))))
  (pss_one (ps_ret (pe_tup (pa_cons (pv 4) (pa_cons (pv 5) pa_nil)))))))))))),?_⟩
    have big:1000≤sizeLine:=by decide
    have pl:=pe.len
    have le:=ok.le
    refine ⟨_,rfl,q,xs,ps,rfl,hq,pe,ok,fun H0 s0=>?_⟩
    have hq0:=s0.seq hq
    have pe0:PrsAt K H0 xs ps:=pe.map fun _ _ z=>z.same s0
    refine ⟨_,rfl,q,rfl,⟨xs,hq0⟩,?_⟩
    refine comp_list (K:=K) (a:=q) (xs:=xs) (fun i ys σ' H'=>H'=H0∧(∃ u v,σ'=[u,v])∧ys=((ps.take i).map (·.1)).map V.str) (by omega) ⟨rfl,⟨_,_,rfl⟩,rfl⟩ (fun i ys σ H' _ e=>by rw [e.1];exact hq0) ?_ ?_
    · rintro i x ys σ' H' hx yl ⟨rfl,⟨u,v,rfl⟩,rfl⟩ N hN
      obtain ⟨p,hp,b,rfl,hb⟩:=pe0.at hx
      refine ⟨b,_,rfl,hb,rfl,_,_,rfl,_,_,rfl,rfl,?_⟩
      refine ⟨_,rfl,hN _ _ _ (by rw [List.length_append,yl];rfl) ⟨rfl,⟨_,_,rfl⟩,?_⟩⟩
      rw [take_snoc hp]
      simp
    · rintro ys σ' H' yl ⟨rfl,_,rfl⟩
      rw [show ps.take xs.length=ps from by rw [pl,List.take_length]] at yl ⊢
      refine ⟨by rw [List.length_map,List.length_map];omega,fun lop hlop=>?_⟩
      have s1:Same H' (upd H' lop (.lst ((ps.map (·.1)).map V.str))):=Same.new hlop
      have h1:(upd H' lop (.lst ((ps.map (·.1)).map V.str))) lop=some (.lst ((ps.map (·.1)).map V.str)):=upd_same
      generalize upd H' lop (.lst ((ps.map (·.1)).map V.str))=H1 at s1 h1 ⊢
      have hlopn:=Same.free s0 hlop
      have S1:=s0.trans s1
      have hq1:=s1.seq hq0
      have pe1:PrsAt K H1 xs ps:=pe0.map fun _ _ z=>z.same s1
      try dsimp only [gName]
      refine ⟨_,rfl,q,rfl,⟨xs,hq1⟩,fun fd' hfd=>?_⟩
      have nd:=closings_nd ok.nd
      refine ⟨fun i m σ' H'=>m=xs.length-i∧i≤xs.length∧H'=upd H1 fd' (.dK (kvP (ps.take i)))∧∃ u v,σ'=[u,v],⟨xs.length,by simp,Nat.zero_le _,rfl,_,_,rfl⟩,?_⟩
      rintro i m σ' H' ⟨rfl,hi,rfl,u,v,rfl⟩
      have sq2:SqL K (upd H1 fd' (.dK (kvP (ps.take i)))) q xs:=(Same.new hfd).seq hq1
      by_cases hlt:i<xs.length
      · refine .inr ⟨⟨xs,xs[i],sq2,by simp [hlt]⟩,fun x H' y=>?_⟩
        obtain ⟨rfl,y⟩:=y
        obtain ⟨p,hp,b,rfl,hb⟩:=pe1.at (y xs sq2)
        refine ⟨b,_,rfl,(Same.new hfd).tup hb,rfl,_,_,rfl,_,_,rfl,rfl,?_⟩
        dsimp only [tYes]
        rw [if_pos rfl]
        refine ⟨_,rfl,_,rfl,kvP (ps.take i),.inr p.2,upd_same,rfl,?_,xs.length-(i+1),by omega,rfl,hlt,?_,_,_,rfl⟩
        · unfold kvP
          rw [List.length_map,List.length_take]
          omega
        · rw [put_kvP nd hp,upd_twice]
      · have e:i=xs.length:=by omega
        subst e
        refine .inl ⟨⟨xs,sq2,Nat.le_refl _⟩,?_⟩
        rw [show ps.take xs.length=ps from by rw [pl,List.take_length]]
        have s2:Same H1 (upd H1 fd' (.dK (kvP ps))):=Same.new hfd
        have h2:(upd H1 fd' (.dK (kvP ps))) fd'=some (.dK (kvP ps)):=upd_same
        generalize upd H1 fd' (.dK (kvP ps))=H2 at s2 h2 ⊢
        have S2:=S1.trans s2
        try dsimp only [gName]
        refine ⟨(show 0≤sizeLine by decide),fun lf hlf=>?_⟩
        have s3:Same H2 (upd H2 lf (.lst [])):=Same.new hlf
        have h3:(upd H2 lf (.lst [])) lf=some (.lst []):=upd_same
        generalize upd H2 lf (.lst [])=H3 at s3 h3 ⊢
        refine ⟨(show 0≤sizeLine by decide),fun ll hll=>?_⟩
        have s4:Same H3 (upd H3 ll (.lst [])):=Same.new hll
        have h4:(upd H3 ll (.lst [])) ll=some (.lst []):=upd_same
        generalize upd H3 ll (.lst [])=H4 at s4 h4 ⊢
        refine ⟨(show 0≤sizeLine by decide),fun la hla=>?_⟩
        have s5:Same H4 (upd H4 la (.lst [])):=Same.new hla
        have h5:(upd H4 la (.lst [])) la=some (.lst []):=upd_same
        generalize upd H4 la (.lst [])=H5 at s5 h5 ⊢
        have S3:=S2.trans s3
        have S4:=S3.trans s4
        have S5:=S4.trans s5
        have s35:=s4.trans s5
        have WFr:WF H lf ll la lop fd':=⟨Same.free S2 hlf,Same.free S3 hll,Same.free S4 hla,fun e=>(by rw [← e,h3] at hll;cases hll),fun e=>(by rw [← e,s4 _ _ h3] at hla;cases hla),fun e=>(by rw [← e,h4] at hla;cases hla),fun e=>(by rw [← e,s2 _ _ h1] at hlf;cases hlf),fun e=>(by rw [← e,s3 _ _ (s2 _ _ h1)] at hll;cases hll),fun e=>(by rw [← e,s4 _ _ (s3 _ _ (s2 _ _ h1))] at hla;cases hla)⟩
        have W0:WH K H lf ll la lop fd' ps ⟨[],[],[]⟩ H5:=⟨S5,⟨[],s35 _ _ h3,.nil⟩,s5 _ _ h4,h5,s35 _ _ (s3 _ _ (s2 _ _ h1)),s35 _ _ (s3 _ _ h2)⟩
        clear h1 h2 h3 h4 h5 s1 s2 s3 s4 s5 S1 S2 S3 S4 S5 s35 hlf hll hla hlop hfd sq2 hq1 hq0 pe0 pe1 s0 u v hlopn
        have tln:=tha.length
        refine ⟨_,rfl,lt,rfl,⟨ts,W0.sm.seq htl⟩,?_⟩
        refine for_list (K:=K) (a:=lt) (xs:=ts) (fun i σ' H'=>(∃ u7,σ'=[some (.ref lt),some (.ref q),some (.ref lop),some (.ref fd'),some (.ref lf),some (.ref ll),some (.ref la),u7])∧∃ z,z=(ths.take i).foldl (stepS ps) ⟨[],[],[]⟩∧WsOk z i∧WH K H lf ll la lop fd' ps z H') ⟨⟨_,rfl⟩,_,rfl,⟨(fun j m=>by cases m),Nat.le_refl _,Nat.le_refl _,Nat.le_refl _⟩,W0⟩ (fun i σ' H' _ ⟨_,z,_,_,wh⟩=>wh.sm.seq htl) ?_ ?_
        · clear W0
          rintro i x σ' H1 hx ⟨⟨u7,rfl⟩,z,ez,zo,wh⟩
          obtain ⟨th,hth,ta⟩:=(tha.same wh.sm).at hx
          have il:i<ths.length:=(List.getElem?_eq_some_iff.mp hth).1
          have go:∀ (z':Ws) (H':Hp),z'=stepS ps z th→WH K H lf ll la lop fd' ps z' H'→(∃ u7,[some (V.ref lt),some (V.ref q),some (V.ref lop),some (V.ref fd'),some (V.ref lf),some (V.ref ll),some (V.ref la),some x]=[some (.ref lt),some (.ref q),some (.ref lop),some (.ref fd'),some (.ref lf),some (.ref ll),some (.ref la),u7])∧∃ z,z=(ths.take (i+1)).foldl (stepS ps) ⟨[],[],[]⟩∧WsOk z (i+1)∧WH K H lf ll la lop fd' ps z H':=fun z' H' e wh'=>
            ⟨⟨_,rfl⟩,z',by rw [take_snoc hth,List.foldl_append,← ez];exact e,by rw [e];exact zo.step th,wh'⟩
          have z1:=zo.ar
          have z2:=zo.fl
          have z3:=zo.ll
          have z4:=zo.al
          clear zo ez
          cases ta with
          | @lost a n sq=>
            refine ⟨_,rfl,a,_,_,_,rfl,rfl,sq,atI_nat (j:=0) rfl,rfl,_,rfl,ifT (by simp) ?_⟩
            refine ⟨_,rfl,.inl ⟨rfl,_,SqL.of wh.ha⟩,la,_,rfl,rfl,wh.ha,?_⟩
            exact go _ _ rfl (wh.putA WFr [])
          | @ev a b p t kk us sq sqz=>
            refine ⟨_,rfl,a,_,_,_,rfl,rfl,sq,atI_nat (j:=0) rfl,rfl,_,rfl,ifF (by decide +kernel) ?_⟩
            try dsimp only [tNext]
            refine ⟨_,rfl,a,_,_,_,rfl,rfl,sq,atI_nat (j:=3) rfl,_,rfl,lop,_,rfl,.inl (SqL.of wh.ho),rfl,flat_str _,_,rfl,?_⟩
            by_cases ho:kk∈ps.map (·.1)
            · refine ifT (by show inV (.str kk) _=true;rw [inV_str];exact decide_eq_true ho) ?_
              obtain ⟨ys,hys,sps⟩:=wh.xs
              have yl:=sps.len
              refine ⟨_,rfl,.inl ⟨rfl,_,SqL.of wh.ha⟩,_,rfl,lf,ys,rfl,.inl (SqL.of hys),la,_,_,rfl,rfl,wh.ha,by rw [List.length_map];omega,?_⟩
              have e1:(z.ar.map fun n:Nat=>V.int n)++[V.int (ys.length:Nat)]=(z.ar++[z.fo.length]).map fun n:Nat=>V.int n:=by rw [List.map_append,yl];rfl
              rw [e1]
              have wh1:=wh.putA WFr (z.ar++[z.fo.length])
              have sq1:=sqt_upd (o:=.lst ((z.ar++[z.fo.length]).map fun n:Nat=>V.int n)) sq wh.ha
              generalize upd H1 la (.lst ((z.ar++[z.fo.length]).map fun n:Nat=>V.int n))=H2 at wh1 sq1 ⊢
              obtain ⟨ys1,hys1,sps1⟩:=wh1.xs
              have yl1:ys1.length=z.fo.length:=sps1.len
              have al1:(z.ar++[z.fo.length]).length=z.ar.length+1:=by simp
              refine ⟨_,rfl,.inl ⟨rfl,_,SqL.of hys1⟩,_,rfl,a,_,_,_,rfl,rfl,sq1,atI_nat (j:=3) rfl,_,rfl,a,_,_,_,rfl,rfl,sq1,atI_nat (j:=1) rfl,_,rfl,la,_,rfl,.inl (SqL.of wh1.ha),_,_,rfl,rfl,(show 4≤sizeLine by decide),fun tp htp=>?_⟩
              have e2:([V.str kk,V.int p,V.non,V.int (((((z.ar++[z.fo.length]).map fun n:Nat=>V.int n).length:Nat):Int)-1)]:List V)=spV ⟨kk,p,none,z.ar.length⟩:=by
                rw [List.length_map,al1]
                rw [show (((z.ar.length+1:Nat):Int)-1)=(z.ar.length:Int) by omega]
                rfl
              have wh2:=wh1.same (Same.new (o:=.tup (spV ⟨kk,p,none,z.ar.length⟩)) htp)
              have hys2:=Same.new (o:=.tup (spV ⟨kk,p,none,z.ar.length⟩)) htp _ _ hys1
              have sps2:SpsAt K (upd H2 tp (.tup (spV ⟨kk,p,none,z.ar.length⟩))) ys1 z.fo:=sps1.map fun _ _ q=>q.same (Same.new htp)
              have h2:(upd H2 tp (.tup (spV ⟨kk,p,none,z.ar.length⟩))) tp=some (.tup (spV ⟨kk,p,none,z.ar.length⟩)):=upd_same
              rw [← e2] at wh2 h2 hys2 sps2
              refine ⟨lf,ys1,_,rfl,rfl,hys2,by omega,?_⟩
              generalize upd H2 tp _=H3 at wh2 h2 hys2 sps2 ⊢
              rw [e2] at h2
              refine go _ _ ?_ (wh2.putF WFr But.upd upd_same (Pd.snoc ⟨tp,rfl,sqt_upd (SqT.of h2) hys2⟩ (sps2.map fun _ _ q=>q.upd hys2)))
              show _=(if kk∈ps.map (·.1) then _ else _)
              rw [if_pos ho]
            · refine ifF (by show inV (.str kk) _=false;rw [inV_str];exact decide_eq_false ho) ?_
              try dsimp only [tNext]
              have st:stepS ps z (.ev p t kk us)=match fellow ps kk with|none=>z|some op=>closeS z op p:=by
                show (if kk∈ps.map (·.1) then _ else _)=_
                rw [if_neg ho]
                all_goals (cases fellow ps kk <;> rfl)
              have dg:=DGet.k (k:=.inr kk) wh.hd
              rw [val_kvP] at dg
              refine ⟨_,rfl,a,_,_,_,rfl,rfl,sq,atI_nat (j:=3) rfl,_,rfl,fd',_,rfl,dg,_,rfl,?_⟩
              cases hfe:fellow ps kk with
              | none=>
                refine ifF rfl ?_
                refine go z _ ?_ wh
                rw [st,hfe]
              | some op=>
                rw [hfe] at st dg
                have st:stepS ps z (.ev p t kk us)=closeS z op p:=st
                have dg:DGet H1 fd' (.str kk) (some (.str op)):=dg
                refine ifT rfl ?_
                obtain ⟨ys,hys,sps⟩:=wh.xs
                have yl:=sps.len
                have alone:closeS z op p=⟨z.fo,z.lo++[p],z.ar⟩→∀ D:Ends,(∀ H',WH K H lf ll la lop fd' ps (stepS ps z (.ev p t kk us)) H'→D.nx [some (V.ref lt),some (V.ref q),some (V.ref lop),some (V.ref fd'),some (V.ref lf),some (V.ref ll),some (V.ref la),some (.ref a)] H')→D.nx [some (V.ref lt),some (V.ref q),some (V.ref lop),some (V.ref fd'),some (V.ref lf),some (V.ref ll),some (V.ref la),some (.ref a)] (upd H1 ll (.lst ((z.lo.map V.int)++[V.int p]))):=fun e D hD=>by
                  refine hD _ ?_
                  rw [st,e]
                  have:=wh.putL WFr (z.lo++[p])
                  rw [List.map_append] at this
                  exact this
                have lz:(z.ar.map fun n:Nat=>V.int n).length=z.ar.length:=List.length_map ..
                refine ⟨_,rfl,la,_,rfl,.inl (SqL.of wh.ha),_,_,rfl,rfl,_,rfl,?_⟩
                rcases List.eq_nil_or_concat z.ar with ea|⟨r,j,ea⟩
                · refine ifF (by rw [lz,ea];rfl) ?_
                  refine ⟨_,rfl,.inl ⟨rfl,_,SqL.of wh.hl⟩,_,rfl,a,_,_,_,rfl,rfl,sq,atI_nat (j:=1) rfl,ll,_,_,rfl,rfl,wh.hl,by rw [List.length_map];omega,?_⟩
                  exact alone (by unfold closeS;rw [ea];rfl) _ fun H' w'=>go _ _ rfl w'
                · rw [List.concat_eq_append] at ea
                  have mj:j∈z.ar:=by rw [ea];simp
                  have jl:=z1 j mj
                  obtain ⟨s',hs'⟩:∃ s',z.fo[j]?=some s':=⟨_,List.getElem?_eq_getElem jl⟩
                  obtain ⟨x',hx',a',rfl,ha'⟩:=sps.at' hs'
                  have la1:atI (z.ar.map fun n:Nat=>V.int n) (-1)=some (.int j):=by
                    rw [ea]
                    unfold atI ixN
                    simp
                    rw [if_pos (by omega),show (-1+((r.length:Int)+1)).toNat=r.length by omega]
                    show (List.map (fun n:Nat=>V.int n) r++[V.int j])[r.length]?=_
                    rw [List.getElem?_append_right (by simp)]
                    simp
                  refine ifT (by rw [lz,ea];simp) ?_
                  refine ⟨_,rfl,_,rfl,_,rfl,la,_,_,_,rfl,rfl,SqL.of wh.ha,la1,lf,ys,_,_,rfl,rfl,SqL.of hys,atI_nat (j:=j) hx',a',_,_,_,rfl,rfl,ha',atI_nat (j:=0) rfl,_,rfl,_,rfl,a,_,_,_,rfl,rfl,sq,atI_nat (j:=3) rfl,fd',_,rfl,dg,rfl,_,rfl,?_⟩
                  have cs:closeS z op p=if s'.nm=op then ⟨z.fo.set j (clS s' p),z.lo,z.ar.dropLast⟩ else ⟨z.fo,z.lo++[p],z.ar⟩:=by
                    unfold closeS
                    rw [show z.ar.getLast?=some j from by rw [ea];simp]
                    show (match z.fo[j]? with|none=>z|some s=>if s.nm=op then _ else _)=_
                    rw [hs']
                  by_cases hn:s'.nm=op
                  · rw [if_pos hn] at cs
                    refine ifT (by simp [hn]) ?_
                    refine ⟨_,rfl,_,rfl,.inl ⟨rfl,_,SqL.of wh.ha⟩,la,_,.int j,rfl,rfl,wh.ha,by rw [ea];simp,?_⟩
                    have e1:(z.ar.map fun n:Nat=>V.int n).dropLast=z.ar.dropLast.map fun n:Nat=>V.int n:=List.map_dropLast.symm
                    rw [e1]
                    have wh1:=wh.putA WFr z.ar.dropLast
                    have sq1:=sqt_upd (o:=.lst (z.ar.dropLast.map fun n:Nat=>V.int n)) sq wh.ha
                    have hys1:(upd H1 la (.lst (z.ar.dropLast.map fun n:Nat=>V.int n))) lf=some (.lst ys):=by rw [upd_ne WFr.n2];exact hys
                    have sps1:SpsAt K (upd H1 la (.lst (z.ar.dropLast.map fun n:Nat=>V.int n))) ys z.fo:=sps.map fun _ _ q=>q.upd wh.ha
                    generalize upd H1 la (.lst (z.ar.dropLast.map fun n:Nat=>V.int n))=H2 at wh1 sq1 hys1 sps1 ⊢
                    refine ⟨_,rfl,a,_,_,_,rfl,rfl,sq1,atI_nat (j:=1) rfl,?_⟩
                    refine ⟨lf,ys,z.fo,j,s',p,rfl,hys1,sps1,hs',fun H' xs' b' hx' sp'=>?_⟩
                    exact go _ _ (by rw [st,cs]) (wh1.putF WFr b' hx' sp')
                  · rw [if_neg hn] at cs
                    refine ifF (by simp [hn]) ?_
                    refine ⟨_,rfl,.inl ⟨rfl,_,SqL.of wh.hl⟩,_,rfl,a,_,_,_,rfl,rfl,sq,atI_nat (j:=1) rfl,ll,_,_,rfl,rfl,wh.hl,by rw [List.length_map];omega,?_⟩
                    exact alone cs _ fun H' w'=>go _ _ rfl w'
        · rintro σ' H' ⟨⟨u7,rfl⟩,z,ez,zo,wh⟩
          rw [tln,List.take_length] at ez
          refine ⟨_,rfl,_,rfl,(show 2≤sizeLine by decide),fun tp htp=>?_⟩
          have wh2:=wh.same (Same.new (o:=.tup [.ref lf,.ref ll]) htp)
          obtain ⟨ys,hys,sps⟩:=wh2.xs
          rw [ez] at sps
          have hl:=wh2.hl
          rw [ez] at hl
          exact k tp lf ll ys _ wh2.sm WFr.f1 WFr.f2 WFr.n1 upd_same hys sps hl
end
end Cm
namespace Cm
open PySem L2 PySem.W
def gSp (K:PySem.W.Frag):TG:=gTup K 4 (gCons (gName 0) (gCons (gName 1) (gCons (gName 2) (gCons (gName 3) gNil))))
def InW (K:Frag) (vs:List V) (H:Hp) (ths:List Th) (ps:List (Str×Str)):Prop:=∃ (lt q:Addr) (ts xs:List V),vs=[.ref lt,.ref q]∧SqL K H lt ts∧ThsAt K H ts ths∧ths.length≤40∧SqL K H q xs∧PrsAt K H xs ps∧PrOk ps
section
variable {P:Program} {w:World} {K:PySem.W.Frag} {mg:Str→Option Value} {base:Heap}
abbrev NSp:List Str:=["told","pairs","found","lone"]
theorem scSp:FnScope NSp ["told","pairs"] (defScope (top 10)):=⟨rfl,rfl,rfl,by decide +kernel,rfl,by decide +kernel,by decide +kernel⟩
theorem scSt:FnScope NSp ["told","pairs"] (defScope (top 11)):=⟨rfl,rfl,rfl,by decide +kernel,rfl,by decide +kernel,by decide +kernel⟩
def spSp (K:Frag):Sp:=fun vs H Q _=>∃ ths ps,InW K vs H ths ps∧∀ (lf:Addr) (ys:List V) (H':Hp),Same H H'→H lf=none→H' lf=some (.lst ys)→SpsAt K H' ys (runS ps ths).fo→Q (.ref lf) H'
def spSt (K:Frag):Sp:=fun vs H Q _=>∃ ths ps,InW K vs H ths ps∧∀ (ll:Addr) (H':Hp),Same H H'→H ll=none→H' ll=some (.lst ((runS ps ths).lo.map V.int))→Q (.ref ll) H'
theorem ok_sp {f fW:Addr} {fd fdW:FuncData} (F:Fun K "spans" "spans" (top 10) f fd) (DW:Def K mg "walked" (top 8) ["told","pairs"] fW fdW) (GW:FnOk P w K mg base CX0 3 fW fdW ["told","pairs"] (spWk K)):FnOk P w K mg base CX0 4 f fd ["told","pairs"] (spSp K):=by
  refine F.ok scSp (fun vs H Q E h=>?_) (fun cdv A outer s H vs Q E hr h=>?_)
  · obtain ⟨ths,ps,⟨lt,q,ts,xs,rfl,_⟩,_⟩:=h
    rfl
  · obtain ⟨ths,ps,⟨lt,q,ts,xs,rfl,h1,h2,h3,h4,h5,h6⟩,k⟩:=h
    refine ⟨_,(pss_cons
  (ps_asg (pe_call GW hr rfl DW.mg DW.F.kp DW.b .nil pass0 (pa_cons (pv 0) (pa_cons (pv 1) pa_nil))) (pg_tup rfl (pgs_cons (pg_name (i:=2) scSp.nd rfl (Or.inl rfl)) (pgs_cons (pg_name (i:=3) scSp.nd rfl (Or.inl rfl)) pgs_nil))))
  (pss_one (ps_ret (pv 2)))),?_⟩
    refine ⟨_,rfl,_,rfl,lt,q,ts,xs,ths,ps,rfl,h1,h2,h3,h4,h5,h6,fun t lf ll ys H' s' n1 n2 n3 ht hf sp hl=>?_⟩
    exact ⟨t,_,rfl,SqT.of ht,rfl,_,_,rfl,_,_,rfl,rfl,_,rfl,k lf ys H' s' n1 hf sp⟩
theorem ok_st {f fW:Addr} {fd fdW:FuncData} (F:Fun K "strays" "strays" (top 11) f fd) (DW:Def K mg "walked" (top 8) ["told","pairs"] fW fdW) (GW:FnOk P w K mg base CX0 3 fW fdW ["told","pairs"] (spWk K)):FnOk P w K mg base CX0 4 f fd ["told","pairs"] (spSt K):=by
  refine F.ok scSt (fun vs H Q E h=>?_) (fun cdv A outer s H vs Q E hr h=>?_)
  · obtain ⟨ths,ps,⟨lt,q,ts,xs,rfl,_⟩,_⟩:=h
    rfl
  · obtain ⟨ths,ps,⟨lt,q,ts,xs,rfl,h1,h2,h3,h4,h5,h6⟩,k⟩:=h
    refine ⟨_,(pss_cons
  (ps_asg (pe_call GW hr rfl DW.mg DW.F.kp DW.b .nil pass0 (pa_cons (pv 0) (pa_cons (pv 1) pa_nil))) (pg_tup rfl (pgs_cons (pg_name (i:=2) scSt.nd rfl (Or.inl rfl)) (pgs_cons (pg_name (i:=3) scSt.nd rfl (Or.inl rfl)) pgs_nil))))
  (pss_one (ps_ret (pv 3)))),?_⟩
    refine ⟨_,rfl,_,rfl,lt,q,ts,xs,ths,ps,rfl,h1,h2,h3,h4,h5,h6,fun t lf ll ys H' s' n1 n2 n3 ht hf sp hl=>?_⟩
    exact ⟨t,_,rfl,SqT.of ht,rfl,_,_,rfl,_,_,rfl,rfl,_,rfl,k ll H' s' n2 hl⟩
def deI (fo:List Spn):List Int:=fo.map fun s=>(s.de:Int)
theorem run_len (ps:List (Str×Str)) (ths:List Th):WsOk (runS ps ths) ths.length:=by
  have key:∀ (ths:List Th) (z:Ws) (n:Nat),WsOk z n→WsOk (ths.foldl (stepS ps) z) (n+ths.length):=by
    intro ths
    induction ths with
    |nil=>intro z n h;exact h
    | cons th r ih=>
      intro z n h
      have:=ih (stepS ps z th) (n+1) (h.step th)
      rw [List.length_cons,show n+(r.length+1)=n+1+r.length by omega]
      exact this
  have:=key ths ⟨[],[],[]⟩ 0 ⟨(fun j m=>by cases m),Nat.le_refl _,Nat.le_refl _,Nat.le_refl _⟩
  rw [Nat.zero_add] at this
  exact this
theorem scDp:FnScope ["told","pairs"] ["told","pairs"] (defScope (top 12)):=⟨rfl,rfl,rfl,by decide +kernel,rfl,by decide +kernel,by decide +kernel⟩
def spDp (K:Frag):Sp:=fun vs H Q _=>∃ ths ps,InW K vs H ths ps∧((runS ps ths).fo=[]→∀ H',Same H H'→Q .non H')∧∀ b,b∈deI (runS ps ths).fo→(∀ x∈deI (runS ps ths).fo,x≤b)→∀ H',Same H H'→Q (.int b) H'
theorem ok_dp {f fS:Addr} {fd fdS:FuncData} (F:Fun K "deepest" "deepest" (top 12) f fd) (hmax:mg "max" = none) (DS:Def K mg "spans" (top 10) ["told","pairs"] fS fdS) (GS:FnOk P w K mg base CX0 4 fS fdS ["told","pairs"] (spSp K)):FnOk P w K mg base CX0 5 f fd ["told","pairs"] (spDp K):=by
  refine F.ok scDp (fun vs H Q E h=>?_) (fun cdv A outer s H vs Q E hr h=>?_)
  · obtain ⟨ths,ps,⟨lt,q,ts,xs,rfl,_⟩,_⟩:=h
    rfl
  · obtain ⟨ths,ps,⟨lt,q,ts,xs,rfl,h1,h2,h3,h4,h5,h6⟩,k0,k⟩:=h
    refine ⟨_,(pss_one
  (ps_ret (pe_maxD rfl (pa_cons (pe_comp (g:=gSp K) (te:=tVar 3) (own:=["opening","first","last","depth"]) (js:=[]) (N':=["opening","first","last","depth"]) (CompScope.of (osc:=defScope (top 12)) (N:=["told","pairs"]) rfl rfl ⟨rfl,by decide +kernel,by decide +kernel,by decide +kernel,rfl,by decide +kernel⟩) rfl (pi_list (pe_call GS hr rfl DS.mg DS.F.kp DS.b .nil pass0 (pa_cons (pv 0) (pa_cons (pv 1) pa_nil)))) (fun _ _ _ _ _=>(pg_tup rfl (pgs_cons (pg_name (i:=0) (show List.Nodup (["opening","first","last","depth"]:List Str) by decide +kernel) rfl (Or.inl rfl) (Or.inr rfl)) (pgs_cons (pg_name (i:=1) (show List.Nodup (["opening","first","last","depth"]:List Str) by decide +kernel) rfl (Or.inl rfl) (Or.inr rfl)) (pgs_cons (pg_name (i:=2) (show List.Nodup (["opening","first","last","depth"]:List Str) by decide +kernel) rfl (Or.inl rfl) (Or.inr rfl)) (pgs_cons (pg_name (i:=3) (show List.Nodup (["opening","first","last","depth"]:List Str) by decide +kernel) rfl (Or.inl rfl) (Or.inr rfl)) pgs_nil)))))) (fun _ _ _ _ _=>pifs_nil) (fun _ _ _ _ _=>(pv 3))) pa_nil) (by rfl) hmax))),?_⟩
    have big:1000≤sizeLine:=by decide
    have fl:=(run_len ps ths).fl
    refine ⟨_,rfl,_,rfl,ths,ps,⟨lt,q,ts,xs,rfl,h1,h2,h3,h4,h5,h6⟩,fun lf ys H1 s1 n1 hf sp=>?_⟩
    generalize (runS ps ths).fo=fo at sp fl k0 k
    have yl:=sp.len
    refine ⟨lf,rfl,⟨ys,SqL.of hf⟩,?_⟩
    refine comp_list (K:=K) (a:=lf) (xs:=ys) (fun i zs σ' H'=>H'=H1∧(∃ a b c d,σ'=[a,b,c,d])∧zs=(deI (fo.take i)).map V.int) (by omega) ⟨rfl,⟨_,_,_,_,rfl⟩,rfl⟩ (fun i ys σ H' _ e=>by rw [e.1];exact SqL.of hf) ?_ ?_
    · rintro i x zs σ' H' hx zl ⟨rfl,⟨a,b,c,d,rfl⟩,rfl⟩ N hN
      obtain ⟨s',hs',a',rfl,ha'⟩:=sp.at hx
      refine ⟨a',_,rfl,ha',rfl,_,_,rfl,_,_,rfl,_,_,rfl,_,_,rfl,rfl,?_⟩
      refine ⟨_,rfl,hN _ _ _ (by rw [List.length_append,zl];rfl) ⟨rfl,⟨_,_,_,_,rfl⟩,?_⟩⟩
      rw [take_snoc hs']
      simp [deI]
    · rintro zs σ' H' zl ⟨rfl,_,rfl⟩
      rw [show fo.take ys.length=fo from by rw [yl,List.take_length]] at zl ⊢
      refine ⟨by rw [List.length_map];unfold deI;rw [List.length_map];omega,fun p hp=>?_⟩
      have s2:Same H' (upd H' p (.lst ((deI fo).map V.int))):=Same.new hp
      refine ⟨p,deI fo,rfl,SqL.of upd_same,fun e=>k0 ?_ _ (s1.trans s2),fun b hb hx=>k b hb hx _ (s1.trans s2)⟩
      exact List.map_eq_nil_iff.mp e
end
end Cm
namespace Cm
open PySem L2 PySem.W
def RowV:Int→List Th→Prop
  |_,[]=>True
  |pl,.lost n::r=>1≤n∧RowV (pl+n) r
  |pl,.ev p _ _ _::r=>p=pl∧RowV (pl+1) r
def plAft:Int→List Th→Int
  |pl,[]=>pl
  |pl,.lost n::r=>plAft (pl+n) r
  |pl,.ev _ _ _ _::r=>plAft (pl+1) r
theorem RowV.lost {n:Int} (hn:1≤n):∀ {ths:List Th} {pl:Int},RowV pl ths→RowV pl (ths++[.lost n])∧plAft pl (ths++[.lost n])=plAft pl ths+n
  |[],pl,_=>⟨⟨hn,trivial⟩,rfl⟩
  |.lost m::r,pl,⟨h1,h2⟩=>⟨⟨h1,(RowV.lost hn h2).1⟩,(RowV.lost hn h2).2⟩
  |.ev p t k us::r,pl,⟨h1,h2⟩=>⟨⟨h1,(RowV.lost hn h2).1⟩,(RowV.lost hn h2).2⟩
theorem RowV.ev {p t:Int} {k:Str} {us:List Int}:∀ {ths:List Th} {pl:Int},RowV pl ths→p=plAft pl ths→RowV pl (ths++[.ev p t k us])∧plAft pl (ths++[.ev p t k us])=plAft pl ths+1
  |[],pl,_,e=>⟨⟨e,trivial⟩,rfl⟩
  |.lost m::r,pl,⟨h1,h2⟩,e=>⟨⟨h1,(RowV.ev h2 e).1⟩,(RowV.ev h2 e).2⟩
  |.ev _ _ _ _::r,pl,⟨h1,h2⟩,e=>⟨⟨h1,(RowV.ev h2 e).1⟩,(RowV.ev h2 e).2⟩
theorem ThAt.but {K:Frag} {H H':Hp} {p dc:Addr} {x:V} {th:Th} (h:ThAt K H x th) (D:Dr H p dc) (b:But p H H'):ThAt K H' x th:=by
  obtain ⟨kvs,hp⟩:=D.dk
  cases h with
  |lost sq=>exact .lost (b.tup hp sq)
  |ev sq sqz=>exact .ev (b.tup hp sq) (b.tup hp sqz)
theorem ThsAt.but {K:Frag} {H H':Hp} {p dc:Addr}:∀ {ths:List Th} {xs:List V},ThsAt K H xs ths→Dr H p dc→But p H H'→ThsAt K H' xs ths
  |_,_,.nil,_,_=>.nil
  |_,_,.cons r rs,D,b=>.cons (r.but D b) (rs.but D b)
theorem at_last {xs:List V} {x:V}:atI (xs++[x]) (-1)=some x:=by
  unfold atI ixN
  simp
  rw [if_pos (by omega),show (-1+((xs.length:Int)+1)).toNat=xs.length by omega]
  show (xs++[x])[xs.length]?=_
  rw [List.getElem?_append_right (by simp)]
  simp
section
variable {P:Program} {w:World} {K:PySem.W.Frag} {mg:Str→Option Value} {base:Heap}
abbrev NSr:List Str:=["_law_d","_law_names","_law_told","_law_place","_law_time","_law_step"]
theorem scSr:FnScope NSr ["_law_d","_law_names"] (defScope (top 20)):=⟨rfl,rfl,rfl,by decide +kernel,rfl,by decide +kernel,by decide +kernel⟩
def spSr (K:Frag):Sp:=fun vs H Q _=>∃ (p dc q:Addr) (ns:List Str),vs=[.ref p,.ref q]∧Dr H p dc∧H q=some (.lst (ns.map V.str))∧q≠p∧ns≠[]∧ns.length≤100∧
  ∀ (l:Addr) (xs:List V) (ths:List Th) (H':Hp),H l=none→H' l=some (.lst xs)→ThsAt K H' xs ths→ths.length≤40→RowV 0 ths→Dr H' p dc→But p H H'→Q (.ref l) H'
theorem ok_sr {f fP fO:Addr} {fd fdP fdO:FuncData} (F:Fun K "_law_span_row" "_law_span_row" (top 20) f fd) (T:Txt K mg) (DP:Def K mg "_law_pick" (top 15) ["_law_d","_law_many"] fP fdP) (DO:Def K mg "_law_of" (top 16) ["_law_d","_law_things"] fO fdO):FnOk P w K mg base CX0 3 f fd ["_law_d","_law_names"] (spSr K):=by
  have GP:FnOk P w K mg base CX0 1 fP fdP ["_law_d","_law_many"] spPick:=ok_pick DP.F T
  have GO:FnOk P w K mg base CX0 2 fO fdO ["_law_d","_law_things"] (spOf K):=ok_of DO.F T DP
  refine F.ok scSr (fun vs H Q E h=>?_) (fun cdv A outer s H vs Q E hr h=>?_)
  · obtain ⟨p,dc,q,ns,rfl,_⟩:=h
    rfl
  · obtain ⟨p,dc,q,ns,rfl,D,hq,nqp,nne,nl,k⟩:=h
    have hr1:Room 1 _:=hr.mono (by decide)
    refine ⟨_,(pss_cons
  (ps_set (i:=2) scSr.nd rfl (Or.inl rfl) (pe_lst pa_nil))
  (pss_cons
  (ps_asg (pe_tup (pa_cons pe_int (pa_cons pe_int pa_nil))) (pg_tup rfl (pgs_cons (pg_name (i:=3) scSr.nd rfl (Or.inl rfl)) (pgs_cons (pg_name (i:=4) scSr.nd rfl (Or.inl rfl)) pgs_nil))))
  (pss_cons
  (ps_for PassesOwn.never rfl (pi_range1 rfl T.range (pa_cons (pe_call GP hr1 rfl DP.mg DP.F.kp DP.b .nil pass0 (pa_cons (pv 0) (pa_cons pe_int pa_nil))) pa_nil)) (pg_name (i:=5) scSr.nd rfl (Or.inl rfl)) (pss_cons
  (ps_set (i:=4) scSr.nd rfl (Or.inl rfl) (pe_op op_add (pv 4) (pe_call GP hr1 rfl DP.mg DP.F.kp DP.b .nil pass0 (pa_cons (pv 0) (pa_cons pe_int pa_nil)))))
  (pss_one
  (ps_if (PW.pt (pw_and (pt_cmpR op_eq (pe_call GP hr1 rfl DP.mg DP.F.kp DP.b .nil pass0 (pa_cons (pv 0) (pa_cons pe_int pa_nil))) pe_int (nomark _)) (pw_and1 (PW.pt (pw_or (pt_cmpR (op_eqD hr.units) (pv 2) (pe_lst pa_nil) (nomark _)) (pw_or1 (pt_cmpR op_eq (pe_ix ix_tup (pe_ix ix_list (pv 2) (pe_un un_neg pe_int) (fun _ _=>rfl)) pe_int (fun _ _=>rfl)) pe_str (nomark _)))))))) (pss_cons
  (ps_expr (pe_bm PySem.F.plainAttrs_list PySem.F.slot_list_append PySem.F.type_list_append mt_append (pv 2) (pa_cons (pe_tup (pa_cons pe_str (pa_cons (pe_op op_add pe_int (pe_call GP hr1 rfl DP.mg DP.F.kp DP.b .nil pass0 (pa_cons (pv 0) (pa_cons pe_int pa_nil)))) pa_nil))) pa_nil)))
  (pss_one
  (ps_set (i:=3) scSr.nd rfl (Or.inl rfl) (pe_op op_add (pv 3) (pe_ix ix_tup (pe_ix ix_list (pv 2) (pe_un un_neg pe_int) (fun _ _=>rfl)) pe_int (fun _ _=>rfl)))))) (pss_cons
  (ps_expr (pe_bm PySem.F.plainAttrs_list PySem.F.slot_list_append PySem.F.type_list_append mt_append (pv 2) (pa_cons (pe_tup (pa_cons pe_str (pa_cons (pv 3) (pa_cons (pv 4) (pa_cons (pe_call GO hr rfl DO.mg DO.F.kp DO.b .nil pass0 (pa_cons (pv 0) (pa_cons (pv 1) pa_nil))) (pa_cons (pe_tup (pa_cons (pv 5) pa_nil)) pa_nil)))))) pa_nil)))
  (pss_one
  (ps_set (i:=3) scSr.nd rfl (Or.inl rfl) (pe_op op_add (pv 3) pe_int))))))))
  (pss_one (ps_ret (pv 2)))))),?_⟩
    have z1:1≤sizeLine:=by decide
    have z2:2≤sizeLine:=by decide
    have z5:5≤sizeLine:=by decide
    have big:1000≤sizeLine:=by decide
    refine ⟨(show 0≤sizeLine by decide),fun l hl=>?_⟩
    have lp:l≠p:=(D.neN hl).symm
    have lc:l≠dc:=by
      obtain ⟨zs,e⟩:=D.cell
      exact (ne_of_none e hl).symm
    have s1:Same H (upd H l (.lst [])):=Same.new hl
    have h1:(upd H l (.lst [])) l=some (.lst []):=upd_same
    have D1:=D.mono s1
    generalize upd H l (.lst [])=H0 at s1 h1 D1 ⊢
    refine ⟨z2,fun t0 ht0=>⟨t0,_,rfl,SqT.of upd_same,rfl,_,_,rfl,_,_,rfl,rfl,?_⟩⟩
    have s0:Same H0 (upd H0 t0 (.tup [.int 0,.int 0])):=Same.new ht0
    have s1:=s1.trans s0
    have h1:=s0 _ _ h1
    have D1:=D1.mono s0
    generalize upd H0 t0 (.tup [.int 0,.int 0])=H1 at s1 h1 D1 ⊢
    refine ⟨_,rfl,p,dc,_,rfl,D1,by decide,by decide,fun m H2 m0 m1 D2 b2=>?_⟩
    obtain ⟨n,rfl⟩:∃ n:Nat,m=(n:Int):=⟨m.toNat,by omega⟩
    have h2:=b2 _ _ h1 lp
    have B2:But p H H2:=s1.but.trans b2
    refine ⟨(n:Int),rfl,by omega,by omega,for_range (n:=n) (fun i σ' H'=>∃ (pl τ:Int) (u5:Option V) (ths:List Th) (xs:List V),σ'=[some (.ref p),some (.ref q),some (.ref l),some (.int pl),some (.int τ),u5]∧H' l=some (.lst xs)∧ThsAt K H' xs ths∧ths.length=i∧RowV 0 ths∧plAft 0 ths=pl∧Dr H' p dc∧But p H H') ⟨0,0,none,[],[],rfl,h2,.nil,rfl,trivial,rfl,D2,B2⟩ ?_ ?_⟩
    · clear h2 B2 D2 b2 D1 h1 s1
      rintro i σ' H3 hi ⟨pl,τ,u5,ths,xs,rfl,hxs,ta,tl,rv,pa,D3,B3⟩
      have xl:=ta.length
      refine ⟨_,rfl,_,rfl,p,dc,_,rfl,D3,by decide,by decide,fun r H4 r0 r1 D4 b4=>⟨_,_,rfl,rfl,?_⟩⟩
      have hx4:=b4 _ _ hxs lp
      have ta4:=ta.but D3 b4
      have B4:=B3.trans b4
      clear hxs ta D3 B3 b4
      dsimp only [gName,List.set]
      refine tIf_any (fun H'=>H' l=some (.lst xs)∧ThsAt K H' xs ths∧Dr H' p dc∧But p H H') (fun Q' hQ=>?_) (fun H5 ⟨hx5,ta5,D5,B5⟩=>?_) (fun H5 ⟨hx5,ta5,D5,B5⟩=>?_)
      · refine ⟨_,rfl,p,dc,_,rfl,D4,by decide,by decide,fun r' H5 r0' r1' D5 b5=>?_⟩
        have hx5:=b5 _ _ hx4 lp
        have ta5:=ta4.but D4 b5
        have B5:=B4.trans b5
        have fin:∀ b H',Same H5 H'→Q' b H':=fun b H' e=>hQ b H' ⟨e _ _ hx5,ta5.same e,D5.mono e,B5.trans e.but⟩
        refine ⟨rfl,_,rfl,?_⟩
        by_cases hr0:r'=0
        · refine ifT (by simp [hr0]) ?_
          refine ⟨_,rfl,(show 0≤sizeLine by decide),fun le hle=>?_⟩
          have s6:Same H5 (upd H5 le (.lst [])):=Same.new hle
          refine ⟨.list (ths.map thD),.list [],.lst (SqL.of (s6 _ _ hx5)) (ta5.same s6).rep,.lst (SqL.of upd_same) .nil,?_,_,rfl,?_⟩
          · have:=ths_dep ths
            simp only [pdDep];omega
          · rw [eq_nilD]
            rcases List.eq_nil_or_concat ths with et|⟨rs,th,et⟩
            · subst et
              exact ifT rfl (fin _ _ s6)
            · rw [List.concat_eq_append] at et
              have nn:xs≠[]:=fun z=>by rw [z,et] at xl;simp at xl
              obtain ⟨rx,x,ex⟩:∃ rx x,xs=rx++[x]:=⟨xs.dropLast,xs.getLast nn,(List.dropLast_concat_getLast nn).symm⟩
              refine ifF (by rw [et];simp) ?_
              have tx:∃ th',ThAt K (upd H5 le (.lst [])) x th':=by
                obtain ⟨t',_,h'⟩:=(ta5.same s6).at (i:=rx.length) (x:=x) (by rw [ex,List.getElem?_append_right (Nat.le_refl _)];simp)
                exact ⟨t',h'⟩
              obtain ⟨th',tx⟩:=tx
              refine ⟨_,rfl,_,rfl,l,_,_,x,rfl,rfl,SqL.of (s6 _ _ hx5),(by rw [ex];exact at_last),?_⟩
              cases tx with
              |@lost a n sq=>exact ⟨a,_,_,_,rfl,rfl,sq,atI_nat (j:=0) rfl,rfl,_,rfl,fin _ _ s6⟩
              |@ev a b p' t' k' us sq sqz=>exact ⟨a,_,_,_,rfl,rfl,sq,atI_nat (j:=0) rfl,rfl,_,rfl,fin _ _ s6⟩
        · exact ifF (by simp [hr0]) (fin _ _ (Same.refl _))
      · refine ⟨_,rfl,.inl ⟨rfl,_,SqL.of hx5⟩,_,rfl,p,dc,_,rfl,D5,by decide,by decide,fun r' H6 r0' r1' D6 b6=>⟨_,_,rfl,rfl,z2,fun t ht=>?_⟩⟩
        have hx6:=b6 _ _ hx5 lp
        have ta6:=ta5.but D5 b6
        have B6:=B5.trans b6
        generalize hH:upd H6 t _=H7
        have s7:Same H6 H7:=by rw [← hH];exact Same.new ht
        have h7:H7 t=some (.tup [.str "lost",.int (1+r')]):=by rw [← hH];exact upd_same
        clear hH
        have D7:=D6.mono s7
        have B7:=B6.trans s7.but
        have hx7:=s7 _ _ hx6
        refine ⟨l,xs,_,rfl,rfl,hx7,by omega,?_⟩
        have th7:ThAt K H7 (.ref t) (.lost (1+r')):=.lost (SqT.of h7)
        have ta8:=ThsAt.snoc (th7.upd (o:=.lst (xs++[.ref t])) hx7) ((ta6.same s7).upd (o:=.lst (xs++[.ref t])) hx7)
        have D8:=D7.put (o:=.lst (xs++[.ref t])) lp lc
        have B8:But p H (upd H7 l (.lst (xs++[.ref t]))):=fun c o e hc=>by rw [upd_ne (ne_of_none e hl)];exact B7 c o e hc
        have sq8:=sqt_upd (o:=.lst (xs++[.ref t])) (K:=K) (SqT.of h7) hx7
        have h8:(upd H7 l (.lst (xs++[.ref t]))) l=some (.lst (xs++[.ref t])):=upd_same
        generalize upd H7 l (.lst (xs++[.ref t]))=H8 at ta8 D8 B8 sq8 h8 ⊢
        refine ⟨_,rfl,_,rfl,_,rfl,l,_,_,_,rfl,rfl,SqL.of h8,at_last,t,_,_,_,rfl,rfl,sq8,atI_nat (j:=1) rfl,_,_,rfl,rfl,?_⟩
        have rv':=RowV.lost (n:=1+r') (by omega) rv
        exact ⟨pl+(1+r'),_,_,_,_,rfl,h8,ta8,by rw [List.length_append,tl];rfl,rv'.1,by rw [rv'.2,pa],D8,B8⟩
      · have hq5:=B5 _ _ hq nqp
        refine ⟨_,rfl,.inl ⟨rfl,_,SqL.of hx5⟩,_,rfl,_,rfl,_,rfl,_,rfl,p,dc,q,_,rfl,D5,SqL.of hq5,(fun z=>nne (List.map_eq_nil_iff.mp z)),by rw [List.length_map];omega,fun v H6 hv D6 b6=>?_⟩
        obtain ⟨kk,mk,rfl⟩:=List.mem_map.mp hv
        have hx6:=b6 _ _ hx5 lp
        have ta6:=ta5.but D5 b6
        have B6:=B5.trans b6
        refine ⟨_,rfl,z1,fun t1 ht1=>⟨z5,fun t ht=>?_⟩⟩
        have s7:Same H6 (upd H6 t1 (.tup [.int (0+i)])):=Same.new ht1
        have h7:(upd H6 t1 (.tup [.int (0+i)])) t1=some (.tup [.int (0+i)]):=upd_same
        generalize upd H6 t1 (.tup [.int (0+i)])=H7 at s7 h7 ht ⊢
        generalize hH:upd H7 t _=H8
        have s8:Same H7 H8:=by rw [← hH];exact Same.new ht
        have h8:H8 t=some (.tup [.str "event",.int pl,.int (τ+r),.str kk,.ref t1]):=by rw [← hH];exact upd_same
        clear hH
        have S8:=s7.trans s8
        have D8:=D6.mono S8
        have B8:=B6.trans S8.but
        have h78:=s8 _ _ h7
        have hx8:=S8 _ _ hx6
        refine ⟨l,xs,_,rfl,rfl,hx8,by omega,?_⟩
        have th8:ThAt K H8 (.ref t) (.ev pl (τ+r) kk [0+i]):=.ev (SqT.of h8) (SqT.of h78)
        have ta9:=ThsAt.snoc (th8.upd (o:=.lst (xs++[.ref t])) hx8) ((ta6.same S8).upd (o:=.lst (xs++[.ref t])) hx8)
        have D9:=D8.put (o:=.lst (xs++[.ref t])) lp lc
        have B9:But p H (upd H8 l (.lst (xs++[.ref t]))):=fun c o e hc=>by rw [upd_ne (ne_of_none e hl)];exact B8 c o e hc
        have h9:(upd H8 l (.lst (xs++[.ref t]))) l=some (.lst (xs++[.ref t])):=upd_same
        generalize upd H8 l (.lst (xs++[.ref t]))=H9 at ta9 D9 B9 h9 ⊢
        have rv':=RowV.ev (t:=τ+r) (k:=kk) (us:=[0+i]) rv pa.symm
        refine ⟨_,rfl,_,_,rfl,rfl,?_⟩
        exact ⟨pl+1,_,_,_,_,rfl,h9,ta9,by rw [List.length_append,tl];rfl,rv'.1,by rw [rv'.2,pa],D9,B9⟩
    · rintro σ' H3 ⟨pl,τ,u5,ths,xs,rfl,hxs,ta,tl,rv,pa,D3,B3⟩
      exact ⟨_,rfl,k l xs ths H3 hl hxs ta (by omega) rv D3 B3⟩
end
end Cm
namespace Cm
open PySem L2 PySem.W
def prsOf (ys:List Str):Nat→List (Str×Str)
  |0=>[]
  | n+1=>match ys with
    |a::b::r=>(a,b)::prsOf r n
    |_=>[]
theorem prs_names:∀ (n:Nat) (ys:List Str),2*n≤ys.length→namesP (prsOf ys n)=ys.take (2*n)∧(prsOf ys n).length=n
  |0,_,_=>by simp [prsOf,namesP]
  |n+1,[],h=>by simp at h
  |n+1,[a],h=>by simp at h;omega
  | n+1,a::b::r,h=>by
    obtain ⟨h1,h2⟩:=prs_names n r (by simp at h;omega)
    refine ⟨?_,?_⟩
    · rw [prsOf]
      show [a,b]++namesP (prsOf r n)=(a::b::r).take (2*n+2)
      rw [h1]
      rfl
    · rw [prsOf]
      show ((a,b)::prsOf r n).length=n+1
      rw [List.length_cons,h2]
theorem prs_at:∀ (n:Nat) (ys:List Str) (i:Nat) (a b:Str),i<n→ys[2*i]?=some a→ys[2*i+1]?=some b→2*n≤ys.length→(prsOf ys n)[i]?=some (a,b)
  |0,_,i,_,_,h,_,_,_=>by omega
  |n+1,[],i,_,_,_,h,_,_=>by simp at h
  |n+1,[x],i,_,_,_,_,h,_=>by simp at h
  | n+1,x::y::r,0,a,b,_,h1,h2,_=>by
    simp at h1 h2
    subst h1 h2
    rw [prsOf]
    rfl
  | n+1,x::y::r,i+1,a,b,hi,h1,h2,hl=>by
    have:=prs_at n r i a b (by omega) (by simpa [Nat.mul_succ] using h1) (by simpa [Nat.mul_succ] using h2) (by simp at hl;omega)
    rw [prsOf]
    show ((x,y)::prsOf r n)[i+1]?=_
    simpa using this
theorem prs_ok {ys:List Str} {n:Nat} (hl:2*n≤ys.length) (nd:ys.Nodup) (nm:∀ y∈ys,Nm y) (h3:n≤3):PrOk (prsOf ys n):=by
  obtain ⟨h1,h2⟩:=prs_names n ys hl
  refine ⟨by rw [h1];exact (List.take_sublist _ _).nodup nd,fun x m=>?_,by omega⟩
  rw [h1] at m
  exact nm x (List.mem_of_mem_take m)
def unbF (f l:Int):Bool→List Th→Bool
  |_,[]=>false
  |h,.lost _::r=>unbF f l false r
  |h,.ev p _ _ _::r=>if p=f then unbF f l true r else if p=l then h else unbF f l h r
section
variable {P:Program} {w:World} {K:PySem.W.Frag} {mg:Str→Option Value} {base:Heap}
abbrev NPp:List Str:=["_law_d","_law_names","_law_many"]
theorem scPp:FnScope NPp ["_law_d"] (defScope (top 21)):=⟨rfl,rfl,rfl,by decide +kernel,rfl,by decide +kernel,by decide +kernel⟩
def spPp (K:Frag):Sp:=fun vs H Q _=>∃ (p dc:Addr),vs=[.ref p]∧Dr H p dc∧∀ (t tp q:Addr) (ys:List Str) (xs:List V) (ps:List (Str×Str)) (H':Hp),H' t=some (.tup [.ref tp,.ref q])→H' q=some (.lst (ys.map V.str))→H q=none→H' tp=some (.tup xs)→PrsAt K H' xs ps→PrOk ps→ys.length=7→Dr H' p dc→But p H H'→Q (.ref t) H'
theorem ok_pp {f fP fWs:Addr} {fd fdP fdWs:FuncData} (F:Fun K "_law_span_pairs" "_law_span_pairs" (top 21) f fd) (T:Txt K mg) (DP:Def K mg "_law_pick" (top 15) ["_law_d","_law_many"] fP fdP) (DWs:Def K mg "_law_words" (top 19) ["_law_d","_law_many"] fWs fdWs) (GWs:FnOk P w K mg base CX0 4 fWs fdWs ["_law_d","_law_many"] (spWords K)):FnOk P w K mg base CX0 5 f fd ["_law_d"] (spPp K):=by
  have GP:FnOk P w K mg base CX0 1 fP fdP ["_law_d","_law_many"] spPick:=ok_pick DP.F T
  refine F.ok scPp (fun vs H Q E h=>?_) (fun cdv A outer s H vs Q E hr h=>?_)
  · obtain ⟨p,dc,rfl,_⟩:=h
    rfl
  · obtain ⟨p,dc,rfl,D,k⟩:=h
    have hr1:Room 1 _:=hr.mono (by decide)
    refine ⟨_,(pss_cons
  (ps_set (i:=1) scPp.nd rfl (Or.inr rfl) (pe_call GWs hr rfl DWs.mg DWs.F.kp DWs.b .nil pass0 (pa_cons (pv 0) (pa_cons pe_int pa_nil))))
  (pss_cons
  (ps_set (i:=2) scPp.nd rfl (Or.inl rfl) (pe_call GP hr1 rfl DP.mg DP.F.kp DP.b .nil pass0 (pa_cons (pv 0) (pa_cons pe_int pa_nil))))
  (pss_one
  (ps_ret (pe_tup (pa_cons (pe_callTy call_tuple_of (by rfl) T.tuple bt_tuple (pa_cons (pe_comp (g:=gName 0) (te:=tTup (tCons (tOp (rIxL K) (tVar 1) (tOp (rI CMul fun i j=>.int (i*j)) (tC (.int 2)) (tVar 0))) (tCons (tOp (rIxL K) (tVar 1) (tOp (rI0 fun i j=>.int (i+j)) (tOp (rI CMul fun i j=>.int (i*j)) (tC (.int 2)) (tVar 0)) (tC (.int 1)))) tNil))) (own:=["_law_at"]) (js:=[1]) (N':=["_law_at","_law_names"]) (CompScope.of (osc:=defScope (top 21)) (N:=NPp) rfl rfl ⟨rfl,by decide +kernel,by decide +kernel,by decide +kernel,rfl,by decide +kernel⟩) rfl (pi_range1 rfl T.range (pa_cons (pv 2) pa_nil)) (fun _ _ _ _ _=>(pg_name (i:=0) (show List.Nodup (["_law_at","_law_names"]:List Str) by decide +kernel) rfl (Or.inl rfl) (Or.inr rfl))) (fun _ _ _ _ _=>pifs_nil) (fun _ _ _ _ _=>(pe_tup (pa_cons (pe_ix (r:=rIxL K) ix_list (pv 1) (pe_op op_mul pe_int (pv 0)) (fun _ _=>rfl)) (pa_cons (pe_ix (r:=rIxL K) ix_list (pv 1) (pe_op op_add (pe_op op_mul pe_int (pv 0)) pe_int) (fun _ _=>rfl)) pa_nil))))) pa_nil)) (pa_cons (pv 1) pa_nil))))))),?_⟩
    have z2:2≤sizeLine:=by decide
    have big:1000≤sizeLine:=by decide
    refine ⟨_,rfl,p,dc,7,rfl,D,by decide,by decide,fun q ys H1 hq hqn yl nm nd D1 b1=>?_⟩
    have yl7:ys.length=7:=by omega
    refine ⟨_,rfl,p,dc,_,rfl,D1,by decide,by decide,fun m H2 m0 m1 D2 b2=>?_⟩
    obtain ⟨n,rfl⟩:∃ n:Nat,m=(n:Int):=⟨m.toNat,by omega⟩
    have nqp:q≠p:=D1.ne hq (by intro _ z;cases z)
    have hq2:=b2 _ _ hq nqp
    have B2:=b1.trans b2
    have n3:n≤3:=by omega
    have pk:=prs_ok (ys:=ys) (n:=n) (by omega) nd nm n3
    obtain ⟨_,pl⟩:=prs_names n ys (by omega)
    refine ⟨_,rfl,n,rfl,by omega,by omega,?_⟩
    refine comp_range (n:=n) (fun i zs σ' H'=>(∃ v,σ'=[v,some (.ref q)])∧Same H2 H'∧PrsAt K H' zs ((prsOf ys n).take i)) (by omega) ⟨⟨none,rfl⟩,Same.refl _,.nil⟩ ?_ ?_
    · rintro i zs σ' H3 hi zl ⟨⟨v,rfl⟩,s3,pe⟩ N hN
      have i1:2*i<ys.length:=by omega
      have i2:2*i+1<ys.length:=by omega
      have a1:ys[2*i]?=some ys[2*i]:=List.getElem?_eq_getElem i1
      have a2:ys[2*i+1]?=some ys[2*i+1]:=List.getElem?_eq_getElem i2
      have c1:CMul 2 (0+(i:Int)):=.inl ⟨by decide,by decide⟩
      have e1:atI (ys.map V.str) (2*(0+(i:Int)))=some (.str ys[2*i]):=by
        rw [show (2*(0+(i:Int)))=((2*i:Nat):Int) by omega]
        exact atI_nat (by rw [List.getElem?_map,a1];rfl)
      have e2:atI (ys.map V.str) (2*(0+(i:Int))+1)=some (.str ys[2*i+1]):=by
        rw [show (2*(0+(i:Int))+1)=((2*i+1:Nat):Int) by omega]
        exact atI_nat (by rw [List.getElem?_map,a2];rfl)
      refine ⟨_,rfl,_,rfl,_,_,rfl,rfl,c1,q,_,_,_,rfl,rfl,SqL.of (s3 _ _ hq2),e1,_,rfl,_,rfl,_,_,rfl,rfl,c1,_,_,rfl,rfl,q,_,_,_,rfl,rfl,SqL.of (s3 _ _ hq2),e2,z2,fun t ht=>?_⟩
      have s4:Same H3 (upd H3 t (.tup [.str ys[2*i],.str ys[2*i+1]])):=Same.new ht
      refine hN _ _ _ (by rw [List.length_append,zl];rfl) ⟨⟨_,rfl⟩,s3.trans s4,?_⟩
      rw [take_snoc (prs_at n ys i _ _ hi a1 a2 (by omega))]
      exact Pd.snoc ⟨t,rfl,SqT.of upd_same⟩ (pe.map fun _ _ z=>z.same s4)
    · rintro zs σ' H3 zl ⟨_,s3,pe⟩
      rw [show (prsOf ys n).take n=prsOf ys n from by conv=>lhs;rw [← pl];rw [pl,List.take_of_length_le (by omega)]] at pe
      refine ⟨by omega,fun l hl=>?_⟩
      have s4:Same H3 (upd H3 l (.lst zs)):=Same.new hl
      refine ⟨l,zs,rfl,.inl ⟨SqL.of upd_same,fun tp htp=>?_⟩⟩
      have s5:Same (upd H3 l (.lst zs)) (upd (upd H3 l (.lst zs)) tp (.tup zs)):=Same.new htp
      have h5:(upd (upd H3 l (.lst zs)) tp (.tup zs)) tp=some (.tup zs):=upd_same
      have S5:=s3.trans (s4.trans s5)
      have pe5:PrsAt K (upd (upd H3 l (.lst zs)) tp (.tup zs)) zs (prsOf ys n):=pe.map fun _ _ z=>z.same (s4.trans s5)
      generalize upd (upd H3 l (.lst zs)) tp (.tup zs)=H5 at s5 h5 S5 pe5 ⊢
      refine ⟨_,rfl,z2,fun t ht=>?_⟩
      have s6:Same H5 (upd H5 t (.tup [.ref tp,.ref q])):=Same.new ht
      have S6:=S5.trans s6
      exact k t tp q ys zs (prsOf ys n) _ upd_same (S6 _ _ hq2) hqn (s6 _ _ h5) (pe5.map fun _ _ z=>z.same s6) pk yl7 (D2.mono S6) (B2.trans S6.but)
abbrev NUb:List Str:=["_law_told","_law_first","_law_last","_law_here","_law_thing"]
theorem scUb:FnScope NUb ["_law_told","_law_first","_law_last"] (defScope (top 22)):=⟨rfl,rfl,rfl,by decide +kernel,rfl,by decide +kernel,by decide +kernel⟩
def spUb (K:Frag):Sp:=fun vs H Q _=>∃ (lt:Addr) (ts:List V) (ths:List Th) (f l:Int),vs=[.ref lt,.int f,.int l]∧SqL K H lt ts∧ThsAt K H ts ths∧Q (.bl (unbF f l false ths)) H
theorem ok_ub {f:Addr} {fd:FuncData} (F:Fun K "_law_unbroken" "_law_unbroken" (top 22) f fd):FnOk P w K mg base CX0 1 f fd ["_law_told","_law_first","_law_last"] (spUb K):=by
  refine F.ok scUb (fun vs H Q E h=>?_) (fun cdv A outer s H vs Q E hr h=>?_)
  · obtain ⟨lt,ts,ths,f,l,rfl,_⟩:=h
    rfl
  · obtain ⟨lt,ts,ths,f,l,rfl,hlt,ta,k⟩:=h
    refine ⟨_,(pss_cons
  (ps_set (i:=3) scUb.nd rfl (Or.inl rfl) pe_bl)
  (pss_cons
  (ps_for PassesOwn.never rfl (pi_list (pv 0)) (pg_name (i:=4) scUb.nd rfl (Or.inl rfl)) (pss_one
  (ps_if (PW.pt (pw_and (pt_cmpR op_eq (pe_ix ix_tup (pv 4) pe_int (fun _ _=>rfl)) pe_str (nomark _)) (pw_and1 (pt_cmpR op_eq (pe_ix ix_tup (pv 4) pe_int (fun _ _=>rfl)) (pv 1) (nomark _))))) (pss_one
  (ps_set (i:=3) scUb.nd rfl (Or.inl rfl) pe_bl)) (pss_one
  (ps_if (PW.pt (pw_and (pt_cmpR op_eq (pe_ix ix_tup (pv 4) pe_int (fun _ _=>rfl)) pe_str (nomark _)) (pw_and1 (pt_cmpR op_eq (pe_ix ix_tup (pv 4) pe_int (fun _ _=>rfl)) (pv 2) (nomark _))))) (pss_one
  (ps_ret (pv 3))) (pss_one
  (ps_if (pt_cmpR op_eq (pe_ix ix_tup (pv 4) pe_int (fun _ _=>rfl)) pe_str (nomark _)) (pss_one
  (ps_set (i:=3) scUb.nd rfl (Or.inl rfl) pe_bl)) pss_nil)))))))
  (pss_one
  (ps_ret pe_bl)))),?_⟩
    have tl:=ta.length
    refine ⟨_,rfl,lt,rfl,⟨ts,hlt⟩,?_⟩
    refine for_list (K:=K) (a:=lt) (xs:=ts) (fun i σ' H'=>H'=H∧∃ (h:Bool) (u:Option V),σ'=[some (.ref lt),some (.int f),some (.int l),some (.bl h),u]∧unbF f l h (ths.drop i)=unbF f l false ths) ⟨rfl,false,none,rfl,rfl⟩ (fun i σ' H' _ e=>by rw [e.1];exact hlt) ?_ ?_
    · rintro i x σ' H' hx ⟨rfl,h,u,rfl,eu⟩
      obtain ⟨th,hth,tx⟩:=ta.at hx
      have il:=(List.getElem?_eq_some_iff.mp hth).1
      have dr:ths.drop i=th::ths.drop (i+1):=by rw [List.drop_eq_getElem_cons il];rw [List.getElem?_eq_getElem il] at hth;injection hth with hth;rw [hth]
      rw [dr] at eu
      cases tx with
      | @lost a n sq=>
        refine ⟨_,rfl,a,_,_,_,rfl,rfl,sq,atI_nat (j:=0) rfl,rfl,_,rfl,ifF (by decide +kernel) (ifF rfl ?_)⟩
        try dsimp only [tNext]
        refine ⟨_,rfl,a,_,_,_,rfl,rfl,sq,atI_nat (j:=0) rfl,rfl,_,rfl,ifF (by decide +kernel) (ifF rfl ?_)⟩
        try dsimp only [tNext]
        refine ⟨_,rfl,a,_,_,_,rfl,rfl,sq,atI_nat (j:=0) rfl,rfl,_,rfl,ifT (by simp) ?_⟩
        exact ⟨rfl,false,_,rfl,eu⟩
      | @ev a b p t kk us sq sqz=>
        have eu:(if p=f then unbF f l true (ths.drop (i+1)) else if p=l then h else unbF f l h (ths.drop (i+1)))=unbF f l false ths:=eu
        refine ⟨_,rfl,a,_,_,_,rfl,rfl,sq,atI_nat (j:=0) rfl,rfl,_,rfl,ifT (by simp) ?_⟩
        refine ⟨_,rfl,a,_,_,_,rfl,rfl,sq,atI_nat (j:=1) rfl,_,rfl,rfl,_,rfl,?_⟩
        by_cases hp:p=f
        · rw [if_pos hp] at eu
          refine ifT (by simp [hp]) ?_
          exact ⟨rfl,true,_,rfl,eu⟩
        · rw [if_neg hp] at eu
          refine ifF (by simp [hp]) ?_
          try dsimp only [tNext]
          refine ⟨_,rfl,a,_,_,_,rfl,rfl,sq,atI_nat (j:=0) rfl,rfl,_,rfl,ifT (by simp) ?_⟩
          refine ⟨_,rfl,a,_,_,_,rfl,rfl,sq,atI_nat (j:=1) rfl,_,rfl,rfl,_,rfl,?_⟩
          by_cases hl:p=l
          · rw [if_pos hl] at eu
            refine ifT (by simp [hl]) ?_
            rw [← eu] at k
            exact ⟨_,rfl,k⟩
          · rw [if_neg hl] at eu
            refine ifF (by simp [hl]) ?_
            try dsimp only [tNext]
            refine ⟨_,rfl,a,_,_,_,rfl,rfl,sq,atI_nat (j:=0) rfl,rfl,_,rfl,ifF (by decide +kernel) ?_⟩
            exact ⟨rfl,h,_,rfl,eu⟩
    · rintro σ' H' ⟨rfl,h,u,rfl,eu⟩
      rw [tl,List.drop_length] at eu
      rw [← eu] at k
      exact k
end
end Cm
namespace Cm
open PySem L2 PySem.W
def evF (S:Str→Bool):Th→Option Int
  |.lost _=>none
  |.ev p _ k _=>if S k=true then some p else none
def evP (S:Str→Bool) (ths:List Th):List Int:=ths.filterMap (evF S)
theorem evP_snoc (S:Str→Bool) (ths:List Th) (th:Th):evP S (ths++[th])=evP S ths++(evF S th).toList:=by
  unfold evP
  rw [List.filterMap_append]
  congr 1
theorem row_ge:∀ {ths:List Th} {pl:Int},RowV pl ths→pl≤plAft pl ths
  |[],pl,_=>Int.le_refl _
  |.lost n::r,pl,⟨h1,h2⟩=>by have:=row_ge h2;show pl≤plAft (pl+n) r;omega
  |.ev p _ _ _::r,pl,⟨h1,h2⟩=>by have:=row_ge h2;show pl≤plAft (pl+1) r;omega
theorem row_app:∀ {a b:List Th} {pl:Int},RowV pl (a++b)↔RowV pl a∧RowV (plAft pl a) b
  |[],b,pl=>by show _↔True∧_;rw [true_and];rfl
  | .lost n::r,b,pl=>by
    show (1≤n∧RowV (pl+n) (r++b))↔(1≤n∧RowV (pl+n) r)∧RowV (plAft (pl+n) r) b
    rw [row_app,and_assoc]
  | .ev p _ _ _::r,b,pl=>by
    show (p=pl∧RowV (pl+1) (r++b))↔(p=pl∧RowV (pl+1) r)∧RowV (plAft (pl+1) r) b
    rw [row_app,and_assoc]
theorem aft_app:∀ (a b:List Th) (pl:Int),plAft pl (a++b)=plAft (plAft pl a) b
  |[],_,_=>rfl
  |.lost n::r,b,pl=>aft_app r b (pl+n)
  |.ev _ _ _ _::r,b,pl=>aft_app r b (pl+1)
theorem evP_lt {S:Str→Bool}:∀ {ths:List Th} {pl:Int},RowV pl ths→∀ p∈evP S ths,pl≤p∧p<plAft pl ths
  |[],pl,_,p,m=>by cases m
  | .lost n::r,pl,⟨h1,h2⟩,p,m=>by
    have:=evP_lt h2 p m
    show pl≤p∧p<plAft (pl+n) r
    omega
  | .ev q t k us::r,pl,⟨h1,h2⟩,p,m=>by
    have g:=row_ge h2
    show pl≤p∧p<plAft (pl+1) r
    have m':p∈(if S k=true then some q else none).toList++evP S r:=by
      unfold evP at m ⊢
      rw [List.filterMap_cons] at m
      cases h:S k with
      |true=>simp [evF,h] at m ⊢;exact m
      |false=>simp [evF,h] at m ⊢;exact m
    rcases List.mem_append.mp m' with m|m
    · cases h:S k with
      |true=>simp [h] at m;omega
      |false=>simp [h] at m
    · have:=evP_lt h2 p m;omega
theorem evP_asc {S:Str→Bool}:∀ {ths:List Th} {pl:Int},RowV pl ths→(evP S ths).Pairwise (·<·)
  |[],pl,_=>.nil
  |.lost n::r,pl,⟨h1,h2⟩=>(show (evP S r).Pairwise (·<·) from evP_asc h2)
  | .ev q t k us::r,pl,⟨h1,h2⟩=>by
    unfold evP
    rw [List.filterMap_cons]
    cases h:S k with
    |false=>simp [evF,h];exact evP_asc h2
    | true=>
      simp only [evF,h,if_true]
      refine List.Pairwise.cons (fun p m=>?_) (evP_asc h2)
      have:=evP_lt h2 p m
      omega
def scanF (f:Int):Bool→List Th→Bool
  |h,[]=>h
  |_,.lost _::r=>scanF f false r
  |h,.ev p _ _ _::r=>scanF f (if p=f then true else h) r
theorem scan_app (f:Int):∀ (a b:List Th) (h:Bool),scanF f h (a++b)=scanF f (scanF f h a) b
  |[],_,_=>rfl
  |.lost _::r,b,h=>scan_app f r b false
  |.ev p _ _ _::r,b,h=>scan_app f r b _
theorem unb_scan {f l t:Int} {k:Str} {us:List Int} {rest:List Th} (hf:f≠l):∀ {pre:List Th} {h:Bool},(∀ p∈evP (fun _=>true) pre,p≠l)→unbF f l h (pre++.ev l t k us::rest)=scanF f h pre
  | [],h,_=>by
    show (if l=f then _ else if l=l then h else _)=h
    rw [if_neg (Ne.symm hf),if_pos rfl]
  |.lost _::r,h,hp=>unb_scan hf (pre:=r) (h:=false) hp
  | .ev p t' k' us'::r,h,hp=>by
    have e:evP (fun _=>true) (.ev p t' k' us'::r)=p::evP (fun _=>true) r:=rfl
    rw [e] at hp
    have hpl:=hp p (List.mem_cons_self ..)
    have ih:∀ h',unbF f l h' (r++.ev l t k us::rest)=scanF f h' r:=fun h'=>unb_scan hf (pre:=r) (h:=h') fun q m=>hp q (List.mem_cons_of_mem _ m)
    show (if p=f then unbF f l true (r++_) else if p=l then h else unbF f l h (r++_))=scanF f (if p=f then true else h) r
    by_cases hpf:p=f
    · rw [if_pos hpf,if_pos hpf,ih]
    · rw [if_neg hpf,if_neg hpf,if_neg hpl,ih]
def live (pre:List Th) (s:Spn):Bool:=s.la.isNone && scanF s.fi false pre
def idxF (Q:Spn→Bool):Nat→List Spn→List Nat
  |_,[]=>[]
  |n,s::r=>if Q s=true then n::idxF Q (n+1) r else idxF Q (n+1) r
theorem idx_len (Q:Spn→Bool):∀ (fo:List Spn) (n:Nat),(idxF Q n fo).length=(fo.filter Q).length
  |[],_=>rfl
  | s::r,n=>by
    show (if Q s=true then n::idxF Q (n+1) r else idxF Q (n+1) r).length=_
    rw [List.filter_cons]
    split
    · rw [List.length_cons,List.length_cons,idx_len Q r]
    · exact idx_len Q r _
theorem idx_app (Q:Spn→Bool) (s:Spn):∀ (fo:List Spn) (n:Nat),idxF Q n (fo++[s])=idxF Q n fo++(if Q s=true then [n+fo.length] else [])
  | [],n=>by
    show (if Q s=true then n::idxF Q (n+1) [] else idxF Q (n+1) [])=_
    rfl
  | x::r,n=>by
    have ih:=idx_app Q s r (n+1)
    show (if Q x=true then n::idxF Q (n+1) (r++[s]) else idxF Q (n+1) (r++[s]))=(if Q x=true then n::idxF Q (n+1) r else idxF Q (n+1) r)++_
    rw [ih,List.length_cons,show n+(r.length+1)=n+1+r.length by omega]
    split <;> rfl
theorem idx_congr {Q Q':Spn→Bool}:∀ {fo:List Spn} {n:Nat},(∀ s∈fo,Q s=Q' s)→idxF Q n fo=idxF Q' n fo
  |[],_,_=>rfl
  | s::r,n,h=>by
    show (if Q s=true then n::idxF Q (n+1) r else idxF Q (n+1) r)=(if Q' s=true then n::idxF Q' (n+1) r else idxF Q' (n+1) r)
    rw [h s (List.mem_cons_self ..),idx_congr fun t m=>h t (List.mem_cons_of_mem _ m)]
theorem idx_none {Q:Spn→Bool}:∀ {fo:List Spn} {n:Nat},(∀ s∈fo,Q s=false)→idxF Q n fo=[]
  |[],_,_=>rfl
  | s::r,n,h=>by
    show (if Q s=true then n::idxF Q (n+1) r else idxF Q (n+1) r)=[]
    rw [h s (List.mem_cons_self ..),if_neg (by decide)]
    exact idx_none fun t m=>h t (List.mem_cons_of_mem _ m)
theorem idx_mem {Q:Spn→Bool}:∀ {fo:List Spn} {n j:Nat},j∈idxF Q n fo↔∃ i s,j=n+i∧fo[i]?=some s∧Q s=true
  |[],n,j=>⟨fun m=>(by cases m),fun ⟨_,_,_,e,_⟩=>(by simp at e)⟩
  | x::r,n,j=>by
    have ih:=@idx_mem Q r (n+1) j
    have key:j∈idxF Q n (x::r)↔(Q x=true∧j=n)∨j∈idxF Q (n+1) r:=by
      show j∈(if Q x=true then n::idxF Q (n+1) r else idxF Q (n+1) r)↔_
      split
      · rename_i h;simp [h]
      · rename_i h;simp [h]
    rw [key,ih]
    constructor
    · rintro (⟨h,rfl⟩|⟨i,s,rfl,e,h⟩)
      · exact ⟨0,x,rfl,rfl,h⟩
      · exact ⟨i+1,s,by omega,by simpa using e,h⟩
    · rintro ⟨i,s,rfl,e,h⟩
      cases i with
      |zero=>simp at e;subst e;exact .inl ⟨h,rfl⟩
      |succ i=>exact .inr ⟨i,s,by omega,by simpa using e,h⟩
theorem idx_asc {Q:Spn→Bool}:∀ {fo:List Spn} {n:Nat},(idxF Q n fo).Pairwise (·<·)
  |[],_=>.nil
  | x::r,n=>by
    show (if Q x=true then n::idxF Q (n+1) r else idxF Q (n+1) r).Pairwise _
    split
    · refine List.Pairwise.cons (fun j m=>?_) idx_asc
      obtain ⟨i,_,rfl,_⟩:=idx_mem.mp m
      omega
    · exact idx_asc
theorem asc_ext:∀ {a b:List Nat},a.Pairwise (·<·)→b.Pairwise (·<·)→(∀ j,j∈a↔j∈b)→a=b
  |[],[],_,_,_=>rfl
  |[],y::b,_,_,h=>absurd ((h y).mpr (List.mem_cons_self ..)) (by simp)
  |x::a,[],_,_,h=>absurd ((h x).mp (List.mem_cons_self ..)) (by simp)
  | x::a,y::b,.cons h1 h2,.cons h3 h4,h=>by
    have e:x=y:=by
      rcases List.mem_cons.mp ((h x).mp (List.mem_cons_self ..)) with e|m
      · exact e
      · rcases List.mem_cons.mp ((h y).mpr (List.mem_cons_self ..)) with e|m'
        · exact e.symm
        · have:=h3 x m;have:=h1 y m';omega
    subst e
    congr 1
    refine asc_ext h2 h4 fun j=>?_
    have hj:=h j
    rw [List.mem_cons,List.mem_cons] at hj
    constructor
    · intro m
      rcases hj.mp (.inr m) with e|m'
      · have:=h1 j m;omega
      · exact m'
    · intro m
      rcases hj.mpr (.inr m) with e|m'
      · have:=h3 j m;omega
      · exact m'
theorem last_max {l:List Nat} {j:Nat} (ha:l.Pairwise (·<·)) (hl:l.getLast?=some j):(∀ i∈l,i≤j)∧∀ i,i∈l.dropLast↔i∈l∧i≠j:=by
  have nn:l≠[]:=fun z=>by rw [z] at hl;cases hl
  have e:l=l.dropLast++[j]:=by
    have:=(List.dropLast_concat_getLast nn).symm
    rw [List.getLast?_eq_some_getLast nn] at hl
    injection hl with hl
    rw [hl] at this
    exact this
  have ha':=ha
  rw [e,List.pairwise_append] at ha'
  have lt:∀ i∈l.dropLast,i<j:=fun i m=>ha'.2.2 i m j (by simp)
  constructor
  · intro i m
    rw [e] at m
    rcases List.mem_append.mp m with m|m
    · exact Nat.le_of_lt (lt i m)
    · simp at m;omega
  · intro i
    constructor
    · intro m
      refine ⟨by rw [e];exact List.mem_append_left _ m,?_⟩
      have:=lt i m
      omega
    · rintro ⟨m,ne⟩
      rw [e] at m
      rcases List.mem_append.mp m with m|m
      · exact m
      · simp at m;exact absurd m ne
def overB (f:Int) (s:Spn):Bool:=match s.la with
  |none=>true
  |some l=>decide (f<l)
def within (al:List Th) (fo:List Spn) (i:Nat) (f:Int):List Spn:=((fo.take i).filter (overB f)).filter fun s=>unbF s.fi f false al
theorem within_mem {al:List Th} {fo:List Spn} {i:Nat} {f:Int} {s:Spn}:s∈within al fo i f↔s∈fo.take i∧overB f s=true∧unbF s.fi f false al=true:=by
  unfold within
  rw [List.mem_filter,List.mem_filter,and_assoc]
theorem within_len (al:List Th) (fo:List Spn) (i:Nat) (f:Int):(within al fo i f).length=((fo.take i).filter fun s=>overB f s && unbF s.fi f false al).length:=by
  unfold within
  rw [List.filter_filter]
  congr 2
  funext s
  rw [Bool.and_comm]
theorem filter_set_len {Q:Spn→Bool} {c s:Spn} (h:Q c=Q s):∀ (l:List Spn) (j:Nat),l[j]?=some s→((l.set j c).filter Q).length=(l.filter Q).length
  |[],_,e=>by simp at e
  | x::r,0,e=>by
    simp at e
    subst e
    rw [List.set_cons_zero,List.filter_cons,List.filter_cons,h]
    split <;> rfl
  | x::r,j+1,e=>by
    have ih:=filter_set_len h r j (by simpa using e)
    rw [List.set_cons_succ,List.filter_cons,List.filter_cons]
    split
    · rw [List.length_cons,List.length_cons,ih]
    · exact ih
theorem ends_set {c s:Spn} {p:Int} (hc:c.la=some p) (hs:s.la=none):∀ (l:List Spn) (j:Nat),l[j]?=some s→((l.set j c).filterMap (·.la)).Perm (p::l.filterMap (·.la))
  |[],_,e=>by simp at e
  | x::r,0,e=>by
    simp at e
    subst e
    rw [List.set_cons_zero,List.filterMap_cons,List.filterMap_cons,hc,hs]
  | x::r,j+1,e=>by
    have ih:=ends_set hc hs r j (by simpa using e)
    rw [List.set_cons_succ,List.filterMap_cons,List.filterMap_cons]
    cases x.la with
    |none=>exact ih
    |some l=>exact (ih.cons l).trans (List.Perm.swap ..)
structure Wi (ps:List (Str×Str)) (al pre:List Th) (z:Ws):Prop where
  fi:z.fo.map (·.fi)=evP (fun k=>decide (k∈ps.map (·.1))) pre
  la:∀ s∈z.fo,∀ l,s.la=some l→s.fi<l∧l<plAft 0 pre
  ar:z.ar=idxF (live pre) 0 z.fo
  de:∀ (i:Nat) (s:Spn),z.fo[i]?=some s→(within al z.fo i s.fi).length=s.de
  op:∀ (i:Nat) (s:Spn),z.fo[i]?=some s→live pre s=true→∀ s'∈within al z.fo i s.fi,s'.la=none
  cl:∀ (i:Nat) (s:Spn) (l:Int),z.fo[i]?=some s→s.la=some l→∀ s'∈within al z.fo i s.fi,overB l s'=true
  en:(z.fo.filterMap (·.la)++z.lo).Perm (evP (fun k=>decide (k∈ps.map (·.2))) pre)
theorem Wi.nil (ps:List (Str×Str)) (al:List Th):Wi ps al [] ⟨[],[],[]⟩:=
  ⟨rfl,(fun s m=>by cases m),rfl,(fun i s e=>by simp at e),(fun i s e=>by simp at e),(fun i s l e=>by simp at e),List.Perm.refl _⟩
theorem fellow_iff {ps:List (Str×Str)} {k:Str}:(fellow ps k).isSome=true↔k∈ps.map (·.2):=by
  unfold fellow
  rw [Option.isSome_map,List.find?_isSome]
  constructor
  · rintro ⟨q,m,e⟩
    rw [decide_eq_true_eq] at e
    exact List.mem_map.mpr ⟨q,m,e⟩
  · intro m
    obtain ⟨q,m,e⟩:=List.mem_map.mp m
    exact ⟨q,m,decide_eq_true e⟩
theorem open_not_close:∀ {ps:List (Str×Str)} {k:Str},(namesP ps).Nodup→k∈ps.map (·.1)→¬ k∈ps.map (·.2)
  |[],_,_,m=>by cases m
  | p::r,k,nd,m=>by
    have nd':(p.1::p.2::namesP r).Nodup:=nd
    obtain ⟨h1,h2⟩:=List.nodup_cons.mp nd'
    obtain ⟨h3,h4⟩:=List.nodup_cons.mp h2
    have in1:∀ x,x∈r.map (·.1)→x∈namesP r:=fun x m=>by
      obtain ⟨q,mq,rfl⟩:=List.mem_map.mp m
      exact List.mem_flatMap.mpr ⟨q,mq,by simp⟩
    have in2:∀ x,x∈r.map (·.2)→x∈namesP r:=fun x m=>by
      obtain ⟨q,mq,rfl⟩:=List.mem_map.mp m
      exact List.mem_flatMap.mpr ⟨q,mq,by simp⟩
    intro m2
    rw [List.map_cons] at m m2
    rcases List.mem_cons.mp m with rfl|m
    · rcases List.mem_cons.mp m2 with e|m2
      · exact h1 (by rw [e];exact List.mem_cons_self ..)
      · exact h1 (List.mem_cons_of_mem _ (in2 _ m2))
    · rcases List.mem_cons.mp m2 with rfl|m2
      · exact h3 (in1 _ m)
      · exact open_not_close h4 m m2
end Cm
namespace Cm
open PySem L2 PySem.W
theorem perm_end {a b c:List Int} {p:Int} (h:(a++b).Perm c):(a++(b++[p])).Perm (c++[p]):=by
  rw [← List.append_assoc]
  exact h.append_right [p]
theorem Wi.fi_lt {ps:List (Str×Str)} {al pre:List Th} {z:Ws} (h:Wi ps al pre z) (rv:RowV 0 pre):∀ s∈z.fo,s.fi<plAft 0 pre:=fun s m=>by
  have:s.fi∈evP (fun k=>decide (k∈ps.map (·.1))) pre:=by
    rw [← h.fi]
    exact List.mem_map_of_mem m
  exact (evP_lt rv _ this).2
theorem Wi.pass {ps:List (Str×Str)} {al pre:List Th} {z:Ws} {p t:Int} {k:Str} {us:List Int} {lo:List Int} (h:Wi ps al pre z) (rv:RowV 0 pre) (hp:p=plAft 0 pre) (ho:¬ k∈ps.map (·.1))
    (en:(z.fo.filterMap (·.la)++lo).Perm (evP (fun k=>decide (k∈ps.map (·.2))) (pre++[.ev p t k us]))):Wi ps al (pre++[.ev p t k us]) ⟨z.fo,lo,z.ar⟩:=by
  have fl:=h.fi_lt rv
  have aft:plAft 0 (pre++[.ev p t k us])=plAft 0 pre+1:=aft_app pre _ 0
  have lv:∀ s∈z.fo,live (pre++[.ev p t k us]) s=live pre s:=fun s m=>by
    have:=fl s m
    unfold live
    rw [scan_app]
    show (_ && (if p=s.fi then true else scanF s.fi false pre))=_
    rw [if_neg (by omega)]
  refine ⟨?_,fun s m l e=>?_,?_,h.de,fun i s e l=>h.op i s e ?_,h.cl,en⟩
  · rw [h.fi,evP_snoc]
    simp [evF,ho]
  · have:=h.la s m l e
    omega
  · show z.ar=_
    rw [h.ar]
    exact (idx_congr lv).symm
  · rw [← lv s (List.mem_of_getElem? e)]
    exact l
theorem Wi.step {ps:List (Str×Str)} {al pre rest:List Th} {z:Ws} (h:Wi ps al pre z) (nd:(namesP ps).Nodup) (th:Th) (ea:al=pre++th::rest) (rva:RowV 0 al):Wi ps al (pre++[th]) (stepS ps z th):=by
  have rv:RowV 0 pre:=by rw [ea] at rva;exact (row_app.mp rva).1
  have rv2:RowV (plAft 0 pre) (th::rest):=by rw [ea] at rva;exact (row_app.mp rva).2
  have fl:=h.fi_lt rv
  cases th with
  | lost n=>
    have n1:1≤n:=rv2.1
    have aft:plAft 0 (pre++[.lost n])=plAft 0 pre+n:=aft_app pre _ 0
    have dead:∀ s:Spn,live (pre++[.lost n]) s=false:=fun s=>by
      unfold live
      rw [scan_app]
      show (_ && false)=false
      rw [Bool.and_false]
    show Wi ps al _ ⟨z.fo,z.lo,[]⟩
    refine ⟨?_,fun s m l e=>?_,(idx_none fun s _=>dead s).symm,h.de,fun i s e l=>?_,h.cl,?_⟩
    · rw [h.fi,evP_snoc]
      simp [evF]
    · have:=h.la s m l e
      omega
    · rw [dead] at l;cases l
    · rw [evP_snoc]
      simp only [evF,Option.toList,List.append_nil]
      exact h.en
  | ev p t k us=>
    have hp:p=plAft 0 pre:=rv2.1
    have aft:plAft 0 (pre++[.ev p t k us])=plAft 0 pre+1:=aft_app pre _ 0
    by_cases ho:k∈ps.map (·.1)
    · have hc:=open_not_close nd ho
      have st:stepS ps z (.ev p t k us)=⟨z.fo++[⟨k,p,none,z.ar.length⟩],z.lo,z.ar++[z.fo.length]⟩:=if_pos ho
      rw [st]
      have lv:∀ s∈z.fo,live (pre++[.ev p t k us]) s=live pre s:=fun s m=>by
        have:=fl s m
        unfold live
        rw [scan_app]
        show (_ && (if p=s.fi then true else scanF s.fi false pre))=_
        rw [if_neg (by omega)]
      have lv0:live (pre++[.ev p t k us]) ⟨k,p,none,z.ar.length⟩=true:=by
        unfold live
        rw [scan_app]
        show (true && (if p=p then true else _))=true
        rw [if_pos rfl];rfl
      have same:∀ s∈z.fo,(overB p s && unbF s.fi p false al)=live pre s:=fun s m=>by
        have f1:=fl s m
        have u:unbF s.fi p false al=scanF s.fi false pre:=by
          rw [ea]
          refine unb_scan (by omega) fun q mq=>?_
          have:=(evP_lt rv q mq).2
          omega
        rw [u]
        unfold live overB
        cases hl:s.la with
        |none=>rfl
        | some l=>
          have:=(h.la s m l hl).2
          show (decide (p<l) && _)=(false && _)
          rw [decide_eq_false (by omega),Bool.false_and]
      have tk:∀ i,i≤z.fo.length→(z.fo++[(⟨k,p,none,z.ar.length⟩:Spn)]).take i=z.fo.take i:=fun i hi=>List.take_append_of_le_length hi
      have wi:∀ i f,i≤z.fo.length→within al (z.fo++[(⟨k,p,none,z.ar.length⟩:Spn)]) i f=within al z.fo i f:=fun i f hi=>by
        unfold within
        rw [tk i hi]
      have ge:∀ (i:Nat) (s:Spn),(z.fo++[(⟨k,p,none,z.ar.length⟩:Spn)])[i]?=some s→(z.fo[i]?=some s∧i<z.fo.length)∨(i=z.fo.length∧s=⟨k,p,none,z.ar.length⟩):=fun i s e=>by
        rcases Nat.lt_or_ge i z.fo.length with hi|hi
        · rw [List.getElem?_append_left hi] at e
          exact .inl ⟨e,hi⟩
        · rw [List.getElem?_append_right hi] at e
          have hi':i-z.fo.length=0:=by
            rcases Nat.eq_zero_or_pos (i-z.fo.length) with z0|z0
            · exact z0
            · rw [List.getElem?_eq_none (by simp;omega)] at e;cases e
          rw [hi'] at e
          simp at e
          exact .inr ⟨by omega,e.symm⟩
      refine ⟨?_,fun s m l e=>?_,?_,fun i s e=>?_,fun i s e l=>?_,fun i s l e el=>?_,?_⟩
      · rw [List.map_append,h.fi,evP_snoc]
        simp [evF,ho]
      · rcases List.mem_append.mp m with m|m
        · have:=h.la s m l e
          omega
        · simp at m
          subst m
          cases e
      · show z.ar++[z.fo.length]=_
        rw [idx_app,if_pos lv0,Nat.zero_add,idx_congr lv,← h.ar]
      · rcases ge i s e with ⟨e,hi⟩|⟨rfl,rfl⟩
        · rw [wi i _ (Nat.le_of_lt hi)]
          exact h.de i s e
        · rw [wi _ _ (Nat.le_refl _),within_len,List.take_length]
          show (z.fo.filter fun s=>overB p s && unbF s.fi p false al).length=z.ar.length
          rw [List.filter_congr same,h.ar,idx_len]
      · rcases ge i s e with ⟨e,hi⟩|⟨rfl,rfl⟩
        · rw [wi i _ (Nat.le_of_lt hi)]
          rw [lv s (List.mem_of_getElem? e)] at l
          exact h.op i s e l
        · rw [wi _ _ (Nat.le_refl _)]
          intro s' m
          obtain ⟨m1,m2,m3⟩:=within_mem.mp m
          rw [List.take_length] at m1
          have q:=same s' m1
          have m2:overB p s'=true:=m2
          have m3:unbF s'.fi p false al=true:=m3
          rw [m2,m3] at q
          unfold live at q
          cases hl:s'.la with
          |none=>rfl
          |some l=>rw [hl] at q;cases q
      · rcases ge i s e with ⟨e,hi⟩|⟨rfl,rfl⟩
        · rw [wi i _ (Nat.le_of_lt hi)]
          exact h.cl i s l e el
        · cases el
      · rw [List.filterMap_append,evP_snoc]
        simp only [evF,hc,decide_false,Bool.false_eq_true,if_false,Option.toList,List.append_nil]
        show ((z.fo.filterMap (fun s:Spn=>s.la)++[])++z.lo).Perm _
        rw [List.append_nil]
        exact h.en
    · have st:stepS ps z (.ev p t k us)=match fellow ps k with|none=>z|some op=>closeS z op p:=by
        show (if k∈ps.map (·.1) then _ else _)=_
        rw [if_neg ho]
        all_goals (cases fellow ps k <;> rfl)
      cases hf:fellow ps k with
      | none=>
        rw [st,hf]
        have hc:¬ k∈ps.map (·.2):=fun m=>by
          have:=fellow_iff.mpr m
          rw [hf] at this
          cases this
        refine h.pass rv hp ho ?_
        rw [evP_snoc]
        simp only [evF,hc,decide_false,Bool.false_eq_true,if_false,Option.toList,List.append_nil]
        exact h.en
      | some op=>
        have hc:k∈ps.map (·.2):=fellow_iff.mp (by rw [hf];rfl)
        have ep:evP (fun k=>decide (k∈ps.map (·.2))) (pre++[.ev p t k us])=evP (fun k=>decide (k∈ps.map (·.2))) pre++[p]:=by
          rw [evP_snoc]
          simp [evF,hc]
        have st:stepS ps z (.ev p t k us)=closeS z op p:=by rw [st,hf]
        rw [st]
        have alone:Wi ps al (pre++[.ev p t k us]) ⟨z.fo,z.lo++[p],z.ar⟩:=h.pass rv hp ho (by rw [ep];exact perm_end h.en)
        unfold closeS
        cases hg:z.ar.getLast? with
        |none=>exact alone
        | some j=>
          have mj:j∈z.ar:=List.mem_of_getLast? hg
          have mj':=mj
          rw [h.ar] at mj'
          obtain ⟨i,s,ej,es,ls⟩:=idx_mem.mp mj'
          rw [Nat.zero_add] at ej
          subst ej
          show Wi ps al _ (match z.fo[j]? with|none=>z|some s=>if s.nm=op then ⟨z.fo.set j (clS s p),z.lo,z.ar.dropLast⟩ else ⟨z.fo,z.lo++[p],z.ar⟩)
          rw [es]
          show Wi ps al _ (if s.nm=op then ⟨z.fo.set j (clS s p),z.lo,z.ar.dropLast⟩ else ⟨z.fo,z.lo++[p],z.ar⟩)
          by_cases hn:s.nm=op
          · rw [if_pos hn]
            have ms:=List.mem_of_getElem? es
            have sla:s.la=none:=by
              unfold live at ls
              cases hl:s.la with
              |none=>rfl
              |some l=>rw [hl] at ls;cases ls
            have sfi:=fl s ms
            have asc:=idx_asc (Q:=live pre) (fo:=z.fo) (n:=0)
            rw [← h.ar] at asc
            obtain ⟨mx,dl⟩:=last_max asc hg
            have lv:∀ s∈z.fo,live (pre++[.ev p t k us]) s=live pre s:=fun s m=>by
              have:=fl s m
              unfold live
              rw [scan_app]
              show (_ && (if p=s.fi then true else scanF s.fi false pre))=_
              rw [if_neg (by omega)]
            have lc:live (pre++[.ev p t k us]) (clS s p)=false:=rfl
            have jl:=(List.getElem?_eq_some_iff.mp es).1
            have at_:∀ (i:Nat) (s1:Spn),(z.fo.set j (clS s p))[i]?=some s1→(i=j∧s1=clS s p)∨(i≠j∧z.fo[i]?=some s1):=fun i s1 e=>by
              by_cases hi:i=j
              · subst hi
                rw [List.getElem?_set_self jl] at e
                injection e with e
                exact .inl ⟨rfl,e.symm⟩
              · rw [List.getElem?_set_ne (Ne.symm hi)] at e
                exact .inr ⟨hi,e⟩
            have wi:∀ i f,i≤j→within al (z.fo.set j (clS s p)) i f=within al z.fo i f:=fun i f hi=>by
              unfold within
              rw [List.take_set,List.set_eq_of_length_le (by rw [List.length_take];omega)]
            refine ⟨?_,fun s' m l e=>?_,?_,fun i s1 e=>?_,fun i s1 e l=>?_,fun i s1 l e el=>?_,?_⟩
            · show (z.fo.set j (clS s p)).map (·.fi)=_
              rw [List.map_set,evP_snoc]
              have:(z.fo.map (·.fi)).set j (clS s p).fi=z.fo.map (·.fi):=by
                refine List.ext_getElem? fun i=>?_
                by_cases hi:i=j
                · subst hi
                  rw [List.getElem?_set_self (by rw [List.length_map];exact jl),List.getElem?_map,es]
                  rfl
                · rw [List.getElem?_set_ne (Ne.symm hi)]
              rw [this,h.fi]
              simp [evF,ho]
            · rcases List.mem_or_eq_of_mem_set m with m|rfl
              · have:=h.la s' m l e
                omega
              · have e:some p=some l:=e
                injection e with e
                subst e
                exact ⟨by show s.fi<p;omega,by omega⟩
            · show z.ar.dropLast=idxF _ 0 (z.fo.set j (clS s p))
              refine asc_ext (List.Pairwise.sublist (List.dropLast_sublist _) asc) idx_asc fun i=>?_
              rw [dl,h.ar,idx_mem,idx_mem]
              constructor
              · rintro ⟨⟨i',s1,rfl,e1,l1⟩,ne⟩
                rw [Nat.zero_add] at ne ⊢
                exact ⟨i',s1,(Nat.zero_add _).symm,by rw [List.getElem?_set_ne (Ne.symm ne)];exact e1,by rw [lv s1 (List.mem_of_getElem? e1)];exact l1⟩
              · rintro ⟨i',s1,rfl,e1,l1⟩
                rw [Nat.zero_add]
                rcases at_ i' s1 e1 with ⟨rfl,rfl⟩|⟨ne,e1⟩
                · rw [lc] at l1;cases l1
                · exact ⟨⟨i',s1,(Nat.zero_add _).symm,e1,by rw [← lv s1 (List.mem_of_getElem? e1)];exact l1⟩,ne⟩
            · rcases at_ i s1 e with ⟨rfl,rfl⟩|⟨ne,e⟩
              · rw [wi _ _ (Nat.le_refl _)]
                exact h.de i s es
              · have f1:=fl s1 (List.mem_of_getElem? e)
                rw [← h.de i s1 e,within_len,within_len,List.take_set]
                rcases Nat.lt_or_ge j i with hji|hji
                · refine filter_set_len (s:=s) ?_ _ j (by rw [List.getElem?_take_of_lt hji];exact es)
                  have o1:overB s1.fi (clS s p)=true:=by
                    show decide (s1.fi<p)=true
                    exact decide_eq_true (by omega)
                  have o2:overB s1.fi s=true:=by
                    unfold overB
                    rw [sla]
                  show (overB s1.fi (clS s p) && unbF s.fi s1.fi false al)=(overB s1.fi s && unbF s.fi s1.fi false al)
                  rw [o1,o2]
                · rw [List.set_eq_of_length_le (by rw [List.length_take];omega)]
            · rcases at_ i s1 e with ⟨rfl,rfl⟩|⟨ne,e⟩
              · rw [lc] at l;cases l
              · rw [lv s1 (List.mem_of_getElem? e)] at l
                have mi:i∈z.ar:=by
                  rw [h.ar]
                  exact idx_mem.mpr ⟨i,s1,(Nat.zero_add _).symm,e,l⟩
                rw [wi i _ (mx i mi)]
                exact h.op i s1 e l
            · rcases at_ i s1 e with ⟨rfl,rfl⟩|⟨ne,e⟩
              · rw [wi _ _ (Nat.le_refl _)]
                intro s' m
                have:=h.op i s es ls s' m
                unfold overB
                rw [this]
              · intro s' m
                obtain ⟨m1,m2,m3⟩:=within_mem.mp m
                rw [List.take_set] at m1
                rcases List.mem_or_eq_of_mem_set m1 with m1|rfl
                · exact h.cl i s1 l e el s' (within_mem.mpr ⟨m1,m2,m3⟩)
                · have:=(h.la s1 (List.mem_of_getElem? e) l el).2
                  show decide (l<p)=true
                  exact decide_eq_true (by omega)
            · rw [ep]
              have q:=ends_set (c:=clS s p) (s:=s) (p:=p) rfl sla z.fo j es
              show ((z.fo.set j (clS s p)).filterMap (·.la)++z.lo).Perm _
              refine (q.append_right z.lo).trans ?_
              refine (List.Perm.cons p h.en).trans ?_
              exact (List.perm_append_singleton p _).symm
          · rw [if_neg hn]
            exact alone
theorem run_wi {ps:List (Str×Str)} {ths:List Th} (nd:(namesP ps).Nodup) (rv:RowV 0 ths):Wi ps ths ths (runS ps ths):=by
  have key:∀ (rest pre:List Th) (z:Ws),ths=pre++rest→Wi ps ths pre z→Wi ps ths ths (rest.foldl (stepS ps) z):=by
    intro rest
    induction rest with
    |nil=>intro pre z e h;rw [List.append_nil] at e;rw [← e] at h;exact h
    | cons th r ih=>
      intro pre z e h
      exact ih (pre++[th]) _ (by rw [e];simp) (h.step nd th e rv)
  exact key ths [] _ rfl (Wi.nil ps ths)
theorem lt_le {l:List Int} (h:l.Pairwise (·<·)):l.Pairwise (·≤·):=h.imp fun h=>Int.le_of_lt h
theorem evP_sub {S:Str→Bool}:∀ (ths:List Th),∀ p∈evP S ths,p∈evP (fun _=>true) ths
  |[],p,m=>m
  |.lost n::r,p,m=>evP_sub r p m
  | .ev q t k us::r,p,m=>by
    show p∈q::evP (fun _=>true) r
    unfold evP at m
    rw [List.filterMap_cons] at m
    cases h:S k with
    | true=>
      simp only [evF,h,if_true] at m
      rcases List.mem_cons.mp m with rfl|m
      · exact List.mem_cons_self ..
      · exact List.mem_cons_of_mem _ (evP_sub r p m)
    | false=>
      simp only [evF,h,Bool.false_eq_true,if_false] at m
      exact List.mem_cons_of_mem _ (evP_sub r p m)
end Cm
namespace Cm
open PySem L2 PySem.W
structure Walk (J:It) (H:Hp) (xs:List V):Prop where
  go:∀ i,i<xs.length→J.go i H
  yl:∀ i x H',J.yld i H x H'→i<xs.length→H'=H∧xs[i]?=some x
  st:J.stop xs.length H
theorem walk_l {K:Frag} {H:Hp} {a:Addr} {xs:List V} (h:SqL K H a xs):Walk (Itl K a) H xs:=
  ⟨fun i hi=>⟨xs,xs[i],h,by simp [hi]⟩,fun i x H' y _=>⟨y.1,y.2 xs h⟩,⟨xs,h,Nat.le_refl _⟩⟩
theorem walk_t {K:Frag} {H:Hp} {a:Addr} {xs:List V} (h:SqT K H a xs):Walk (Itt K a) H xs:=
  ⟨fun i hi=>⟨xs,xs[i],h,by simp [hi]⟩,fun i x H' y _=>⟨y.1,y.2 xs h⟩,⟨xs,h,Nat.le_refl _⟩⟩
theorem comp_rd {β:Type} {R:V→β→Prop} {J:It} {H0:Hp} {xs:List V} {ys:List β} {tt:TT} {te:TE} {σr:St} {F:List V→Hp→Prop} (Pz:List V→List β→Prop) (p0:Pz [] []) (w:Walk J H0 xs) (hp:Pd R xs ys) (hl:ys.length≤sizeLine) (f:β→Bool)
    (ht:∀ x y,R x y→EvT tt (some x::σr) H0 (f y)) (he:∀ x y zs bs,R x y→f y=true→Pz zs bs→∃ v,EvE te (some x::σr) H0 v∧Pz (zs++[v]) (bs++[y])) (hz:∀ zs bs,Pz zs bs→zs.length=bs.length) (hF:∀ zs,Pz zs (ys.filter f)→F zs H0) :
    ∃ W:Nat→Nat→List V→St→Hp→Prop,(∃ m,W 0 m [] (none::σr) H0)∧CTurn J (gName 0) tt te F W:=by
  have pl:=hp.len
  refine ⟨fun i m zs σ H=>m=xs.length-i∧i≤xs.length∧H=H0∧(∃ u,σ=u::σr)∧Pz zs ((ys.take i).filter f),⟨xs.length,by simp,Nat.zero_le _,rfl,⟨none,rfl⟩,p0⟩,?_⟩
  rintro i m zs σ H ⟨rfl,hi,rfl,⟨u,rfl⟩,pz⟩
  by_cases hlt:i<xs.length
  · have zl:=hz _ _ pz
    have fl:((ys.take i).filter f).length≤i:=Nat.le_trans (List.length_filter_le _ _) (by rw [List.length_take];omega)
    refine .inr ⟨w.go i hlt,by omega,fun x H' y=>?_⟩
    obtain ⟨rfl,ex⟩:=w.yl i x H' y hlt
    obtain ⟨b,eb,r⟩:=hp.at ex
    dsimp only [gName,List.set]
    refine ht x b r _ ?_
    have tk:=take_snoc eb
    cases hf:f b with
    | true=>
      rw [if_pos rfl]
      obtain ⟨v,ev,pz'⟩:=he x b zs _ r hf pz
      refine ev _ ⟨xs.length-(i+1),by omega,rfl,hlt,rfl,⟨_,rfl⟩,?_⟩
      rw [tk,List.filter_append]
      simpa [hf] using pz'
    | false=>
      rw [if_neg (by decide)]
      refine ⟨xs.length-(i+1),by omega,rfl,hlt,rfl,⟨_,rfl⟩,?_⟩
      rw [tk,List.filter_append]
      simpa [hf] using pz
  · have e:i=xs.length:=by omega
    subst e
    rw [pl,List.take_length] at pz
    exact .inl ⟨w.st,hF zs pz⟩
theorem comp_fn {β:Type} {R:V→β→Prop} {J:It} {H0:Hp} {xs:List V} {ys:List β} {tt:TT} {te:TE} {σr:St} {F:List V→Hp→Prop} (w:Walk J H0 xs) (hp:Pd R xs ys) (hl:ys.length≤sizeLine) (f:β→Bool) (e:β→V)
    (ht:∀ x y,R x y→EvT tt (some x::σr) H0 (f y)) (he:∀ x y,R x y→f y=true→EvE te (some x::σr) H0 (e y)) (hF:F ((ys.filter f).map e) H0) :
    ∃ W:Nat→Nat→List V→St→Hp→Prop,(∃ m,W 0 m [] (none::σr) H0)∧CTurn J (gName 0) tt te F W:=by
  refine comp_rd (fun zs bs=>zs=bs.map e) rfl w hp hl f ht (fun x y zs bs r hf pz=>⟨e y,he x y r hf,?_⟩) (fun zs bs pz=>by rw [pz,List.length_map]) fun zs pz=>by rw [pz];exact hF
  rw [pz,List.map_append]
  rfl
theorem comp_it {β:Type} {R:V→β→Prop} {J:It} {H0:Hp} {xs:List V} {ys:List β} {tt:TT} {σr:St} {F:List V→Hp→Prop} (w:Walk J H0 xs) (hp:Pd R xs ys) (hl:ys.length≤sizeLine) (f:β→Bool)
    (ht:∀ x y,R x y→EvT tt (some x::σr) H0 (f y)) (hF:∀ zs,Pd R zs (ys.filter f)→F zs H0) :
    ∃ W:Nat→Nat→List V→St→Hp→Prop,(∃ m,W 0 m [] (none::σr) H0)∧CTurn J (gName 0) tt (tVar 0) F W:=by
  refine comp_rd (Pd R) .nil w hp hl f ht (fun x y zs bs r hf pz=>⟨x,fun Q q=>⟨_,rfl,q⟩,pz.snoc r⟩) (fun zs bs pz=>pz.len) hF
theorem ths_pd {K:Frag} {H:Hp}:∀ {ths:List Th} {xs:List V},ThsAt K H xs ths→Pd (ThAt K H) xs ths
  |_,_,.nil=>.nil
  |_,_,.cons r rs=>.cons r (ths_pd rs)
theorem yes_ev {σ:St} {H:Hp}:EvT tYes σ H true:=fun _ h=>h
theorem filter_true {α:Type} (l:List α):l.filter (fun _=>true)=l:=by
  induction l with
  |nil=>rfl
  |cons x r ih=>rw [List.filter_cons,if_pos rfl,ih]
def laD:Option Int→PyData
  |none=>.none
  |some l=>.int l
def spD (s:Spn):PyData:=.tuple [.str s.nm,.int s.fi,laD s.la,.int s.de]
theorem SpAt.rep {K:Frag} {H:Hp} {x:V} {s:Spn} (h:SpAt K H x s):Rep K H x (spD s):=by
  obtain ⟨a,rfl,sq⟩:=h
  refine .tup sq (.cons (.str _) (.cons (.int _) (.cons ?_ (.cons (.int _) .nil))))
  cases s.la with
  |none=>exact .non
  |some l=>exact .int _
theorem sps_rep {K:Frag} {H:Hp}:∀ {xs:List V} {fo:List Spn},SpsAt K H xs fo→Reps K H xs (fo.map spD)
  |_,_,.nil=>.nil
  |_,_,.cons r t=>.cons r.rep (sps_rep t)
theorem sp_dep:∀ fo:List Spn,pdDeps (fo.map spD)≤1
  |[]=>by simp [pdDeps]
  | s::r=>by
    have h2:=sp_dep r
    have h1:pdDep (spD s)≤1:=by
      unfold spD
      cases s.la <;> simp [pdDep,pdDeps,laD]
    simp only [List.map_cons,pdDeps]
    omega
theorem evs_eq (S:Str→Bool):∀ ths:List Th,(ths.filter fun th=>(evF S th).isSome).map (fun th=>V.int ((evF (fun _=>true) th).getD 0))=(evP S ths).map V.int
  |[]=>rfl
  | .lost n::r=>by
    have ih:=evs_eq S r
    rw [List.filter_cons,if_neg (by simp [evF]),ih]
    rfl
  | .ev p t k us::r=>by
    have ih:=evs_eq S r
    unfold evP at ih ⊢
    rw [List.filter_cons,List.filterMap_cons]
    cases h:S k with
    | true=>
      have e:evF S (.ev p t k us)=some p:=by show (if S k=true then _ else _)=_;rw [if_pos h]
      rw [e,if_pos (show (some p).isSome=true from rfl),List.map_cons,ih]
      rfl
    | false=>
      have e:evF S (.ev p t k us)=none:=by show (if S k=true then _ else _)=_;rw [if_neg (by rw [h];decide)]
      rw [e,if_neg (show ¬ (none:Option Int).isSome=true by decide),ih]
end Cm
namespace Cm
open PySem L2 PySem.W
theorem ends_eq:∀ fo:List Spn,(fo.filter fun s=>s.la.isSome).map (fun s=>laV s.la)=(fo.filterMap fun s=>s.la).map V.int
  |[]=>rfl
  | s::r=>by
    have ih:=ends_eq r
    rw [List.filter_cons,List.filterMap_cons]
    cases h:s.la with
    |none=>rw [if_neg (show ¬ (none:Option Int).isSome=true by decide),ih]
    | some l=>
      rw [if_pos (show (some l).isSome=true from rfl),List.map_cons,ih,h]
      rfl
section
variable {P:Program} {w:World} {K:PySem.W.Frag} {mg:Str→Option Value} {base:Heap}
def spLaw (K:PySem.W.Frag):Sp:=fun vs H Q _=>∃ (a:Addr) (ns:List Int),vs=[.ref a]∧SqL K H a (ns.map V.int)∧ns.length≤63∧∀ H',Q (.bl true) H'
abbrev NLaw:List Str:=["_law_script","_law_d","_law_pairs","_law_names","_law_told","_law_found","_law_places","_law_at","_law_opening","_law_first","_law_last","_law_deep","_law_over","_law_within","_law_closings","_law_ends","_law_closed","_law_openings","_law_opened"]
theorem scLaw:FnScope NLaw ["_law_script"] (defScope (top 23)):=⟨rfl,rfl,rfl,by decide +kernel,rfl,by decide +kernel,by decide +kernel⟩
theorem ok_law {f fB fS fPp fSr fSp fSt fDp fUb:Addr} {fd fdB fdS fdPp fdSr fdSp fdSt fdDp fdUb:FuncData} (F:Fun K "law" "law" (top 23) f fd) (T:Txt K mg) (hsorted:mg "sorted" = none) (hmax:mg "max" = none)
    (DB:Def K mg "_law_begin" (top 14) ["_law_script"] fB fdB) (DS:Def K mg "_law_same" (top 17) ["_law_found","_law_due"] fS fdS)
    (DPp:Def K mg "_law_span_pairs" (top 21) ["_law_d"] fPp fdPp) (GPp:FnOk P w K mg base CX0 5 fPp fdPp ["_law_d"] (spPp K))
    (DSr:Def K mg "_law_span_row" (top 20) ["_law_d","_law_names"] fSr fdSr) (GSr:FnOk P w K mg base CX0 3 fSr fdSr ["_law_d","_law_names"] (spSr K))
    (DSp:Def K mg "spans" (top 10) ["told","pairs"] fSp fdSp) (GSp:FnOk P w K mg base CX0 4 fSp fdSp ["told","pairs"] (spSp K))
    (DSt:Def K mg "strays" (top 11) ["told","pairs"] fSt fdSt) (GSt:FnOk P w K mg base CX0 4 fSt fdSt ["told","pairs"] (spSt K))
    (DDp:Def K mg "deepest" (top 12) ["told","pairs"] fDp fdDp) (GDp:FnOk P w K mg base CX0 5 fDp fdDp ["told","pairs"] (spDp K))
    (DUb:Def K mg "_law_unbroken" (top 22) ["_law_told","_law_first","_law_last"] fUb fdUb):FnOk P w K mg base CX0 12 f fd ["_law_script"] (spLaw K):=by
  have GB:FnOk P w K mg base CX0 1 fB fdB ["_law_script"] (spBegin K):=ok_begin DB.F T
  have GS:FnOk P w K mg base CX0 10 fS fdS ["_law_found","_law_due"] (spS K 10):=ok_same DS T 10
  have GUb:FnOk P w K mg base CX0 1 fUb fdUb ["_law_told","_law_first","_law_last"] (spUb K):=ok_ub DUb.F
  refine F.ok scLaw (fun vs H Q E h=>?_) (fun cdv A outer s H vs Q E hr h=>?_)
  · obtain ⟨a,ns,rfl,_⟩:=h
    rfl
  · obtain ⟨sa,ns,rfl,hS,hlen,k⟩:=h
    have hr1:Room 1 _:=hr.mono (by decide)
    have hr3:Room 3 _:=hr.mono (by decide)
    have hr4:Room 4 _:=hr.mono (by decide)
    have hr5:Room 5 _:=hr.mono (by decide)
    have hr10:Room 10 _:=hr.mono (by decide)
    refine ⟨_,(pss_cons (ps_set (i:=1) scLaw.nd rfl (Or.inl rfl) (pe_call GB hr1 rfl DB.mg DB.F.kp DB.b .nil pass0 (pa_cons (pv 0) pa_nil)))
  (pss_cons (ps_asg (pe_call GPp hr5 rfl DPp.mg DPp.F.kp DPp.b .nil pass0 (pa_cons (pv 1) pa_nil)) (pg_tup rfl (pgs_cons (pg_name (i:=2) scLaw.nd rfl (Or.inl rfl)) (pgs_cons (pg_name (i:=3) scLaw.nd rfl (Or.inl rfl)) pgs_nil))))
  (pss_cons (ps_set (i:=4) scLaw.nd rfl (Or.inr rfl) (pe_call GSr hr3 rfl DSr.mg DSr.F.kp DSr.b .nil pass0 (pa_cons (pv 1) (pa_cons (pe_slice sl_list (pv 3) po_none (po_some (pe_op op_add (pe_op op_mul pe_int (pe_callB call_len_seq (by rfl) T.len bt_len (pa_cons (pv 2) pa_nil))) pe_int))) pa_nil))))
  (pss_cons (ps_set (i:=5) scLaw.nd rfl (Or.inl rfl) (pe_call GSp hr4 rfl DSp.mg DSp.F.kp DSp.b .nil pass0 (pa_cons (pv 4) (pa_cons (pe_callTy call_list_of (by rfl) T.list bt_list (pa_cons (pv 2) pa_nil)) pa_nil))))
  (pss_cons (ps_setComp (g:=gName 0) (i:=6) (own:=["_law_thing"]) (js:=[]) (N':=["_law_thing"]) (CompScope.of (osc:=defScope (top 23)) (N:=NLaw) rfl rfl ⟨rfl,by decide +kernel,by decide +kernel,by decide +kernel,rfl,by decide +kernel⟩) rfl scLaw.nd rfl rfl (pi_list (pv 4)) (fun _ _ _ _ _=>(pg_name (i:=0) (show List.Nodup (["_law_thing"]:List Str) by decide +kernel) rfl (Or.inl rfl) (Or.inr rfl))) (fun _ _ _ _ _=>pifs_one (pt_cmpR op_eq (pe_ix (r:=rIxT K) ix_tup (pv 0) pe_int (fun _ _=>rfl)) pe_str (nomark _))) (fun _ _ _ _ _=>(pe_ix (r:=rIxT K) ix_tup (pv 0) pe_int (fun _ _=>rfl))))
  (pss_cons (ps_if (pt_cmpR (op_neL hr.units) (pe_comp (g:=gName 0) (own:=["_law_span"]) (js:=[]) (N':=["_law_span"]) (CompScope.of (osc:=defScope (top 23)) (N:=NLaw) rfl rfl ⟨rfl,by decide +kernel,by decide +kernel,by decide +kernel,rfl,by decide +kernel⟩) rfl (pi_list (pv 5)) (fun _ _ _ _ _=>(pg_name (i:=0) (show List.Nodup (["_law_span"]:List Str) by decide +kernel) rfl (Or.inl rfl) (Or.inr rfl))) (fun _ _ _ _ _=>pifs_nil) (fun _ _ _ _ _=>(pe_ix (r:=rIxT K) ix_tup (pv 0) pe_int (fun _ _=>rfl)))) (pe_callB call_sortedL (by rfl) hsorted bt_sorted (pa_cons (pe_comp (g:=gName 0) (own:=["_law_span"]) (js:=[]) (N':=["_law_span"]) (CompScope.of (osc:=defScope (top 23)) (N:=NLaw) rfl rfl ⟨rfl,by decide +kernel,by decide +kernel,by decide +kernel,rfl,by decide +kernel⟩) rfl (pi_list (pv 5)) (fun _ _ _ _ _=>(pg_name (i:=0) (show List.Nodup (["_law_span"]:List Str) by decide +kernel) rfl (Or.inl rfl) (Or.inr rfl))) (fun _ _ _ _ _=>pifs_nil) (fun _ _ _ _ _=>(pe_ix (r:=rIxT K) ix_tup (pv 0) pe_int (fun _ _=>rfl)))) pa_nil)) (nomark _)) (pss_one ps_never) pss_nil)
  (pss_cons (ps_for PassesOwn.never rfl (pi_range1 rfl T.range (pa_cons (pe_callB call_len_seq (by rfl) T.len bt_len (pa_cons (pv 5) pa_nil)) pa_nil)) (pg_name (i:=7) scLaw.nd rfl (Or.inl rfl)) (pss_cons (ps_asg (pe_ix ix_list (pv 5) (pv 7) (fun _ _=>rfl)) (pg_tup rfl (pgs_cons (pg_name (i:=8) scLaw.nd rfl (Or.inl rfl)) (pgs_cons (pg_name (i:=9) scLaw.nd rfl (Or.inr rfl)) (pgs_cons (pg_name (i:=10) scLaw.nd rfl (Or.inr rfl)) (pgs_cons (pg_name (i:=11) scLaw.nd rfl (Or.inl rfl)) pgs_nil))))))
  (pss_cons (ps_if (PW.pt (pw_or (PW.pt (pw_and (pt_cmpR op_notN (pv 10) pe_non (nomark _)) (pw_and1 (pt_not (pt_cmpR op_lt (pv 9) (pv 10) (nomark _)))))) (pw_or1 (pt_cmpR op_notIn_seq (pv 9) (pv 6) rfl)))) (pss_one ps_never) pss_nil)
  (pss_cons (ps_setComp (g:=gName 0) (i:=12) (own:=["_law_span"]) (js:=[9]) (N':=["_law_span","_law_first"]) (CompScope.of (osc:=defScope (top 23)) (N:=NLaw) rfl rfl ⟨rfl,by decide +kernel,by decide +kernel,by decide +kernel,rfl,by decide +kernel⟩) rfl scLaw.nd rfl rfl (pi_list (pe_slice sl_list (pv 5) po_none (po_some (pv 7)))) (fun _ _ _ _ _=>(pg_name (i:=0) (show List.Nodup (["_law_span","_law_first"]:List Str) by decide +kernel) rfl (Or.inl rfl) (Or.inr rfl))) (fun _ _ _ _ _=>pifs_one (PW.pt (pw_or (pt_cmpR op_isN (pe_ix (r:=rIxT K) ix_tup (pv 0) pe_int (fun _ _=>rfl)) pe_non (nomark _)) (pw_or1 (pt_cmpR op_gt (pe_ix (r:=rIxT K) ix_tup (pv 0) pe_int (fun _ _=>rfl)) (pv 1) (nomark _)))))) (fun _ _ _ _ _=>(pv 0)))
  (pss_cons (ps_setComp (g:=gName 0) (i:=13) (own:=["_law_span"]) (js:=[4,9]) (N':=["_law_span","_law_told","_law_first"]) (CompScope.of (osc:=defScope (top 23)) (N:=NLaw) rfl rfl ⟨rfl,by decide +kernel,by decide +kernel,by decide +kernel,rfl,by decide +kernel⟩) rfl scLaw.nd rfl rfl (pi_list (pv 12)) (fun _ _ _ _ _=>(pg_name (i:=0) (show List.Nodup (["_law_span","_law_told","_law_first"]:List Str) by decide +kernel) rfl (Or.inl rfl) (Or.inr rfl))) (fun _ _ _ _ _=>pifs_one (pt_val (pe_call GUb hr1 rfl DUb.mg DUb.F.kp DUb.b .nil pass0 (pa_cons (pv 1) (pa_cons (pe_ix (r:=rIxT K) ix_tup (pv 0) pe_int (fun _ _=>rfl)) (pa_cons (pv 2) pa_nil)))))) (fun _ _ _ _ _=>(pv 0)))
  (pss_cons (ps_if (pt_cmpR op_ne (pv 11) (pe_callB call_len_seq (by rfl) T.len bt_len (pa_cons (pv 13) pa_nil)) (nomark _)) (pss_one ps_never) pss_nil)
  (pss_one (ps_if (PW.pt (pw_and (pt_cmpR op_notN (pv 10) pe_non (nomark _)) (pw_and1 (pt_not (pt_val (pe_callB (call_allB rfl) (by rfl) T.all bt_all (pa_cons (pe_comp (g:=gName 0) (own:=["_law_span"]) (js:=[10]) (N':=["_law_span","_law_last"]) (CompScope.of (osc:=defScope (top 23)) (N:=NLaw) rfl rfl ⟨rfl,by decide +kernel,by decide +kernel,by decide +kernel,rfl,by decide +kernel⟩) rfl (pi_list (pv 13)) (fun _ _ _ _ _=>(pg_name (i:=0) (show List.Nodup (["_law_span","_law_last"]:List Str) by decide +kernel) rfl (Or.inl rfl) (Or.inr rfl))) (fun _ _ _ _ _=>pifs_nil) (fun _ _ _ _ _=>(pe_or (pe_cmpR op_isN (pe_ix (r:=rIxT K) ix_tup (pv 0) pe_int (fun _ _=>rfl)) pe_non (nomark _)) (pe_one (pe_cmpR op_gt (pe_ix (r:=rIxT K) ix_tup (pv 0) pe_int (fun _ _=>rfl)) (pv 1) (nomark _)))))) pa_nil))))))) (pss_one ps_never) pss_nil))))))))
  (pss_cons (ps_set (i:=14) scLaw.nd rfl (Or.inr rfl) (pe_comp (g:=gName 0) (own:=["_law_pair"]) (js:=[]) (N':=["_law_pair"]) (CompScope.of (osc:=defScope (top 23)) (N:=NLaw) rfl rfl ⟨rfl,by decide +kernel,by decide +kernel,by decide +kernel,rfl,by decide +kernel⟩) rfl (pi_tup (pv 2)) (fun _ _ _ _ _=>(pg_name (i:=0) (show List.Nodup (["_law_pair"]:List Str) by decide +kernel) rfl (Or.inl rfl) (Or.inr rfl))) (fun _ _ _ _ _=>pifs_nil) (fun _ _ _ _ _=>(pe_ix (r:=rIxT K) ix_tup (pv 0) pe_int (fun _ _=>rfl)))))
  (pss_cons (ps_setComp (g:=gName 0) (i:=15) (own:=["_law_span"]) (js:=[]) (N':=["_law_span"]) (CompScope.of (osc:=defScope (top 23)) (N:=NLaw) rfl rfl ⟨rfl,by decide +kernel,by decide +kernel,by decide +kernel,rfl,by decide +kernel⟩) rfl scLaw.nd rfl rfl (pi_list (pv 5)) (fun _ _ _ _ _=>(pg_name (i:=0) (show List.Nodup (["_law_span"]:List Str) by decide +kernel) rfl (Or.inl rfl) (Or.inr rfl))) (fun _ _ _ _ _=>pifs_one (pt_cmpR op_notN (pe_ix (r:=rIxT K) ix_tup (pv 0) pe_int (fun _ _=>rfl)) pe_non (nomark _))) (fun _ _ _ _ _=>(pe_ix (r:=rIxT K) ix_tup (pv 0) pe_int (fun _ _=>rfl))))
  (pss_cons (ps_setComp (g:=gName 0) (i:=16) (own:=["_law_thing"]) (js:=[14]) (N':=["_law_thing","_law_closings"]) (CompScope.of (osc:=defScope (top 23)) (N:=NLaw) rfl rfl ⟨rfl,by decide +kernel,by decide +kernel,by decide +kernel,rfl,by decide +kernel⟩) rfl scLaw.nd rfl rfl (pi_list (pv 4)) (fun _ _ _ _ _=>(pg_name (i:=0) (show List.Nodup (["_law_thing","_law_closings"]:List Str) by decide +kernel) rfl (Or.inl rfl) (Or.inr rfl))) (fun _ _ _ _ _=>pifs_one (PW.pt (pw_and (pt_cmpR op_eq (pe_ix (r:=rIxT K) ix_tup (pv 0) pe_int (fun _ _=>rfl)) pe_str (nomark _)) (pw_and1 (pt_cmpR (r:=rIn K false) op_in_seq (pe_ix (r:=rIxT K) ix_tup (pv 0) pe_int (fun _ _=>rfl)) (pv 1) rfl))))) (fun _ _ _ _ _=>(pe_ix (r:=rIxT K) ix_tup (pv 0) pe_int (fun _ _=>rfl))))
  (pss_cons (ps_if (pt_cmpR (op_neL hr.units) (pe_callB call_sortedL (by rfl) hsorted bt_sorted (pa_cons (pe_op op_cat (pv 15) (pe_call GSt hr4 rfl DSt.mg DSt.F.kp DSt.b .nil pass0 (pa_cons (pv 4) (pa_cons (pe_callTy call_list_of (by rfl) T.list bt_list (pa_cons (pv 2) pa_nil)) pa_nil)))) pa_nil)) (pv 16) (nomark _)) (pss_one ps_never) pss_nil)
  (pss_cons (ps_set (i:=17) scLaw.nd rfl (Or.inr rfl) (pe_comp (g:=gName 0) (own:=["_law_pair"]) (js:=[]) (N':=["_law_pair"]) (CompScope.of (osc:=defScope (top 23)) (N:=NLaw) rfl rfl ⟨rfl,by decide +kernel,by decide +kernel,by decide +kernel,rfl,by decide +kernel⟩) rfl (pi_tup (pv 2)) (fun _ _ _ _ _=>(pg_name (i:=0) (show List.Nodup (["_law_pair"]:List Str) by decide +kernel) rfl (Or.inl rfl) (Or.inr rfl))) (fun _ _ _ _ _=>pifs_nil) (fun _ _ _ _ _=>(pe_ix (r:=rIxT K) ix_tup (pv 0) pe_int (fun _ _=>rfl)))))
  (pss_cons (ps_setComp (g:=gName 0) (i:=18) (own:=["_law_thing"]) (js:=[17]) (N':=["_law_thing","_law_openings"]) (CompScope.of (osc:=defScope (top 23)) (N:=NLaw) rfl rfl ⟨rfl,by decide +kernel,by decide +kernel,by decide +kernel,rfl,by decide +kernel⟩) rfl scLaw.nd rfl rfl (pi_list (pv 4)) (fun _ _ _ _ _=>(pg_name (i:=0) (show List.Nodup (["_law_thing","_law_openings"]:List Str) by decide +kernel) rfl (Or.inl rfl) (Or.inr rfl))) (fun _ _ _ _ _=>pifs_one (PW.pt (pw_and (pt_cmpR op_eq (pe_ix (r:=rIxT K) ix_tup (pv 0) pe_int (fun _ _=>rfl)) pe_str (nomark _)) (pw_and1 (pt_cmpR (r:=rIn K false) op_in_seq (pe_ix (r:=rIxT K) ix_tup (pv 0) pe_int (fun _ _=>rfl)) (pv 1) rfl))))) (fun _ _ _ _ _=>(pe_ix (r:=rIxT K) ix_tup (pv 0) pe_int (fun _ _=>rfl))))
  (pss_cons (ps_set (i:=11) scLaw.nd rfl (Or.inl rfl) (pe_ifExp (pt_cmpR (op_neL hr.units) (pv 5) (pe_lst pa_nil) (nomark _)) (pe_callB (call_maxL rfl) (by rfl) hmax bt_max (pa_cons (pe_comp (g:=gName 0) (own:=["_law_span"]) (js:=[]) (N':=["_law_span"]) (CompScope.of (osc:=defScope (top 23)) (N:=NLaw) rfl rfl ⟨rfl,by decide +kernel,by decide +kernel,by decide +kernel,rfl,by decide +kernel⟩) rfl (pi_list (pv 5)) (fun _ _ _ _ _=>(pg_name (i:=0) (show List.Nodup (["_law_span"]:List Str) by decide +kernel) rfl (Or.inl rfl) (Or.inr rfl))) (fun _ _ _ _ _=>pifs_nil) (fun _ _ _ _ _=>(pe_ix (r:=rIxT K) ix_tup (pv 0) pe_int (fun _ _=>rfl)))) pa_nil)) pe_non))
  (pss_one (ps_ret (pe_and (pe_cmpR (op_eqD hr.units) (pe_comp (g:=gName 0) (own:=["_law_span"]) (js:=[]) (N':=["_law_span"]) (CompScope.of (osc:=defScope (top 23)) (N:=NLaw) rfl rfl ⟨rfl,by decide +kernel,by decide +kernel,by decide +kernel,rfl,by decide +kernel⟩) rfl (pi_list (pv 5)) (fun _ _ _ _ _=>(pg_name (i:=0) (show List.Nodup (["_law_span"]:List Str) by decide +kernel) rfl (Or.inl rfl) (Or.inr rfl))) (fun _ _ _ _ _=>pifs_nil) (fun _ _ _ _ _=>(pe_ix (r:=rIxT K) ix_tup (pv 0) pe_int (fun _ _=>rfl)))) (pv 18) (nomark _)) (pe_one (pe_call GS hr10 rfl DS.mg DS.F.kp DS.b .nil pass0 (pa_cons (pe_call GDp hr5 rfl DDp.mg DDp.F.kp DDp.b .nil pass0 (pa_cons (pv 4) (pa_cons (pe_callTy call_list_of (by rfl) T.list bt_list (pa_cons (pv 2) pa_nil)) pa_nil))) (pa_cons (pv 11) pa_nil))))))))))))))))))))),?_⟩
    have big:1000≤sizeLine:=by decide
    refine ⟨_,rfl,sa,ns,rfl,hS,hlen,fun p dc H0 D0 s0 _=>?_⟩
    refine ⟨_,rfl,p,dc,rfl,D0,fun t tp q ys xs ps H1 ht hq hqn htp pe ok y7 D1 b1=>?_⟩
    have pl:=pe.len
    have pk:=ok.le
    refine ⟨t,_,rfl,SqT.of ht,rfl,_,_,rfl,_,_,rfl,rfl,?_⟩
    have c1:CMul 2 (xs.length:Int):=.inl ⟨by decide,by decide⟩
    refine ⟨_,rfl,_,rfl,_,rfl,tp,xs,rfl,.inr (SqT.of htp),_,_,rfl,rfl,c1,_,_,rfl,rfl,_,rfl,q,_,rfl,SqL.of hq,fun qs hqs=>?_⟩
    have yl:(ys.map V.str).length=7:=by rw [List.length_map];exact y7
    have ec:cutV (ys.map V.str) none (some (2*(xs.length:Int)+1))=(ys.take (2*xs.length+1)).map V.str:=by
      rw [show (2*(xs.length:Int)+1)=((2*xs.length+1:Nat):Int) by omega,cut_pre (by rw [yl];omega),← List.map_take]
    have s2:Same H1 (upd H1 qs (.lst ((ys.take (2*xs.length+1)).map V.str))):=Same.new hqs
    have h2:(upd H1 qs (.lst ((ys.take (2*xs.length+1)).map V.str))) qs=some (.lst ((ys.take (2*xs.length+1)).map V.str)):=upd_same
    have D2:=D1.mono s2
    rw [← ec] at s2 h2 D2
    refine ⟨p,dc,qs,ys.take (2*xs.length+1),rfl,D2,(by rw [h2,ec]),(D1.neN hqs).symm,fun z=>?_,by rw [List.length_take];omega,fun lt ts ths H3 hltn htl ta tl rv D3 b3=>?_⟩
    · have:=congrArg List.length z
      rw [List.length_take,y7] at this
      simp at this
    have npt:tp≠p:=D1.ne htp (by intro _ z;cases z)
    have htp3:=b3 _ _ (s2 _ _ htp) npt
    have pe3:PrsAt K H3 xs ps:=pe.map fun x y z=>by
      obtain ⟨kvs,hp⟩:=D1.dk
      obtain ⟨a,rfl,sq⟩:=z.same s2
      obtain ⟨kvs',hp'⟩:=D2.dk
      exact ⟨a,rfl,b3.tup hp' sq⟩
    clear s2 h2 D2 b3 b1 D1 D0 s0 hqs ec yl hq hqn ht htp pe hltn c1
    have wi:=run_wi ok.nd rv
    have wl:=run_len ps ths
    refine ⟨_,rfl,_,rfl,tp,xs,rfl,.inr (SqT.of htp3),fun q1 hq1=>?_⟩
    have s4:Same H3 (upd H3 q1 (.lst xs)):=Same.new hq1
    refine ⟨ths,ps,⟨lt,q1,ts,xs,rfl,SqL.of (s4 _ _ htl),ta.same s4,tl,SqL.of upd_same,pe3.map fun _ _ z=>z.same s4,ok⟩,fun lf fs H5 s5 hlf hf sp=>?_⟩
    have S5:=s4.trans s5
    generalize hz:runS ps ths=z at wi wl sp
    have f40:z.fo.length≤40:=Nat.le_trans wl.fl tl
    have fl:=sp.len
    have tl5:=S5 _ _ htl
    have ta5:=ths_pd (ta.same S5)
    refine ⟨_,rfl,lt,rfl,⟨ts,SqL.of tl5⟩,?_⟩
    refine comp_fn (σr:=[]) (walk_l (SqL.of tl5)) ta5 (by omega) (fun th=>(evF (fun _=>true) th).isSome) (fun th=>.int ((evF (fun _=>true) th).getD 0)) ?_ ?_ ?_
    · rintro x th tx Q' q'
      cases tx with
      |@lost a n sq=>exact ⟨_,rfl,a,_,_,_,rfl,rfl,sq,atI_nat (j:=0) rfl,rfl,_,rfl,q'⟩
      |@ev a b p t kk us sq sqz=>exact ⟨_,rfl,a,_,_,_,rfl,rfl,sq,atI_nat (j:=0) rfl,rfl,_,rfl,q'⟩
    · rintro x th tx hf Q' q'
      cases tx with
      |@lost a n sq=>cases hf
      |@ev a b p t kk us sq sqz=>exact ⟨_,rfl,a,_,_,_,rfl,rfl,sq,atI_nat (j:=1) rfl,q'⟩
    rw [evs_eq]
    have plc:(evP (fun _=>true) ths).length≤40:=Nat.le_trans (List.length_filterMap_le ..) tl
    refine ⟨by rw [List.length_map];omega,fun lp hlp=>?_⟩
    have s6:Same H5 (upd H5 lp (.lst ((evP (fun _=>true) ths).map V.int))):=Same.new hlp
    have h6:(upd H5 lp (.lst ((evP (fun _=>true) ths).map V.int))) lp=some (.lst ((evP (fun _=>true) ths).map V.int)):=upd_same
    generalize upd H5 lp (.lst ((evP (fun _=>true) ths).map V.int))=H6 at s6 h6 ⊢
    have hf6:=s6 _ _ hf
    have sp6:SpsAt K H6 fs z.fo:=sp.map fun _ _ z=>z.same s6
    have tl6:=s6 _ _ tl5
    have ta6:=ta.same (S5.trans s6)
    have htp6:=(S5.trans s6) _ _ htp3
    have pe6:PrsAt K H6 xs ps:=pe3.map fun _ _ z=>z.same (S5.trans s6)
    clear s4 s5 S5 tl5 ta5 hf sp htl ta htp3 pe3 hlf hq1 hlp s6 D3
    try dsimp only [gName]
    have firsts:∀ (H':Hp) (F:List V→Hp→Prop),Same H6 H'→F ((z.fo.map (·.fi)).map V.int) H'→∃ W:Nat→Nat→List V→St→Hp→Prop,(∃ m,W 0 m [] [none] H')∧CTurn (Itl K lf) (gName 0) tYes (tOp (rIxT K) (tVar 0) (tC (.int 1))) F W:=fun H' F e q'=>by
      refine comp_fn (σr:=[]) (walk_l (SqL.of (e _ _ hf6))) (sp6.map fun _ _ z=>z.same e) (by omega) (fun _=>true) (fun s=>.int s.fi) (fun _ _ _=>yes_ev) ?_ ?_
      · rintro x s' ⟨a,rfl,sq⟩ _ Q' q'
        exact ⟨_,rfl,a,_,_,_,rfl,rfl,sq,atI_nat (j:=1) rfl,q'⟩
      · rw [filter_true]
        rw [List.map_map] at q'
        exact q'
    have zfl:((z.fo.map (·.fi)).map V.int).length≤sizeLine:=by rw [List.length_map,List.length_map];omega
    have asc:(z.fo.map (·.fi)).Pairwise (·≤·):=by
      rw [wi.fi]
      exact lt_le (evP_asc rv)
    refine ⟨_,rfl,lf,rfl,⟨fs,SqL.of hf6⟩,firsts _ _ (Same.refl _) ⟨zfl,fun l1 hl1=>?_⟩⟩
    have s7:Same H6 (upd H6 l1 (.lst ((z.fo.map (·.fi)).map V.int))):=Same.new hl1
    have h7:(upd H6 l1 (.lst ((z.fo.map (·.fi)).map V.int))) l1=some (.lst ((z.fo.map (·.fi)).map V.int)):=upd_same
    generalize upd H6 l1 (.lst ((z.fo.map (·.fi)).map V.int))=H7 at s7 h7 ⊢
    refine ⟨_,rfl,lf,rfl,⟨fs,SqL.of (s7 _ _ hf6)⟩,firsts _ _ s7 ⟨zfl,fun l2 hl2=>?_⟩⟩
    have s8:Same H7 (upd H7 l2 (.lst ((z.fo.map (·.fi)).map V.int))):=Same.new hl2
    refine ⟨l2,z.fo.map (·.fi),rfl,SqL.of upd_same,by rw [List.length_map];omega,fun ns' l3 pm so hl3=>?_⟩
    have en:ns'=z.fo.map (·.fi):=PySem.W.ksm_same pm so asc
    subst en
    have s9:=s8.trans (Same.new (o:=.lst ((z.fo.map (·.fi)).map V.int)) hl3)
    refine ⟨(z.fo.map (·.fi)).map PyData.int,(z.fo.map (·.fi)).map PyData.int,.lst (SqL.of (s9 _ _ h7)) (reps_int _),.lst (SqL.of upd_same) (reps_int _),by rw [dep_int];decide,_,rfl,ifF (by rw [eq_int];simp) ?_⟩
    have S9:=s7.trans s9
    generalize upd (upd H7 l2 _) l3 _=H9 at s9 S9
    clear s7 h7 hl1 s8 hl2 s9 hl3 pm so
    try dsimp only [tNext]
    refine ⟨_,rfl,lf,fs,rfl,.inl (SqL.of (S9 _ _ hf6)),(fs.length:Int),rfl,by omega,by omega,for_range (n:=fs.length) (fun i σ' H'=>(∃ u7 u8 u9 u10 u11 u12 u13,σ'=[some (.ref sa),some (.ref p),some (.ref tp),some (.ref q),some (.ref lt),some (.ref lf),some (.ref lp),u7,u8,u9,u10,u11,u12,u13,none,none,none,none,none])∧Same H6 H') ⟨⟨_,_,_,_,_,_,_,rfl⟩,S9⟩ ?_ ?_⟩
    · clear S9
      rintro i σ' H10 hi ⟨⟨u7,u8,u9,u10,u11,u12,u13,rfl⟩,s10⟩
      have hx:fs[i]?=some fs[i]:=List.getElem?_eq_getElem hi
      obtain ⟨s',hs',a,ea,sq⟩:=sp6.at hx
      rw [ea] at hx
      have ms:=List.mem_of_getElem? hs'
      have w1:=wi.de i s' hs'
      have w2:=wi.cl i s'
      have w3:=wi.la s' ms
      have pin:s'.fi∈evP (fun _=>true) ths:=by
        refine evP_sub _ _ (?_:s'.fi∈evP (fun k=>decide (k∈ps.map (·.1))) ths)
        rw [← wi.fi]
        exact List.mem_map_of_mem ms
      obtain ⟨nm,fi,la,de⟩:=s'
      have sq10:=s10.tup sq
      refine ⟨_,rfl,_,rfl,lf,fs,_,_,rfl,rfl,SqL.of (s10 _ _ hf6),(by rw [Int.zero_add];exact atI_nat hx),a,_,rfl,sq10,rfl,_,_,rfl,_,_,rfl,_,_,rfl,_,_,rfl,rfl,?_⟩
      have hf10:=s10 _ _ hf6
      have lpi:inV (.int fi) ((evP (fun _=>true) ths).map V.int)=true:=by rw [inV_int];exact decide_eq_true pin
      have w1:(within ths z.fo i fi).length=de:=w1
      have over:∀ (x:V) (s1:Spn) (H':Hp),SpAt K H' x s1→EvT (tOr (tTest (tOp (fun x y H Q=>y=.non∧Q (.bl (decide (x=.non))) H) (tOp (rIxT K) (tVar 0) (tC (.int 2))) (tC .non))) (tTest (tOp (rI0 fun i j=>.bl (decide (j<i))) (tOp (rIxT K) (tVar 0) (tC (.int 2))) (tVar 1)))) [some x,some (.int fi)] H' (overB fi s1):=by
        rintro x ⟨nm1,fi1,la1,de1⟩ H' ⟨a1,rfl,sq1⟩ Q' q'
        cases la1 with
        |none=>exact ⟨_,rfl,a1,_,_,_,rfl,rfl,sq1,atI_nat (j:=2) rfl,rfl,_,rfl,ifT rfl q'⟩
        |some l1=>exact ⟨_,rfl,a1,_,_,_,rfl,rfl,sq1,atI_nat (j:=2) rfl,rfl,_,rfl,ifF rfl ⟨_,rfl,a1,_,_,_,rfl,rfl,sq1,atI_nat (j:=2) rfl,_,rfl,_,_,rfl,rfl,_,rfl,q'⟩⟩
      have sp10:SpsAt K H10 fs z.fo:=sp6.map fun _ _ z=>z.same s10
      have tkl:(z.fo.take i).length≤40:=by rw [List.length_take];omega
      have t1:∀ (Q':Bool→Hp→Prop) (u7 u8 u11 u12 u13:Option V),Q' false H10→tOr (tAnd (tTest (tOp (fun x y H Q=>y=.non∧Q (.bl (!decide (x=.non))) H) (tVar 10) (tC .non))) (tNot (tTest (tOp (rI0 fun i j=>.bl (decide (i<j))) (tVar 9) (tVar 10))))) (tTest (tOp (rIn K true) (tVar 9) (tVar 6))) [some (.ref sa),some (.ref p),some (.ref tp),some (.ref q),some (.ref lt),some (.ref lf),some (.ref lp),u7,u8,some (.int fi),some (laV la),u11,u12,u13,none,none,none,none,none] H10 Q':=by
        intro Q' u7 u8 u11 u12 u13 q'
        have c:∀ Q'':Bool→Hp→Prop,Q'' false H10→tTest (tOp (rIn K true) (tVar 9) (tVar 6)) [some (.ref sa),some (.ref p),some (.ref tp),some (.ref q),some (.ref lt),some (.ref lf),some (.ref lp),u7,u8,some (.int fi),some (laV la),u11,u12,u13,none,none,none,none,none] H10 Q'':=fun Q'' q''=>by
          refine ⟨_,rfl,_,rfl,lp,_,rfl,.inl (SqL.of (s10 _ _ h6)),rfl,flat_int _,_,rfl,?_⟩
          show Q'' (!inV (.int fi) ((evP (fun _=>true) ths).map V.int)) H10
          rw [lpi]
          exact q''
        cases la with
        |none=>exact ⟨_,rfl,rfl,_,rfl,ifF rfl (ifF rfl (c _ q'))⟩
        | some l=>
          have:=(w3 l rfl).1
          refine ⟨_,rfl,rfl,_,rfl,ifT rfl ⟨_,rfl,_,rfl,_,_,rfl,rfl,_,rfl,ifF ?_ (c _ q')⟩⟩
          show (!decide (fi<l))=false
          rw [decide_eq_true this]
          rfl
      refine t1 _ _ _ _ _ _ ?_
      refine ifF rfl ?_
      try dsimp only [tNext]
      refine ⟨_,rfl,_,rfl,_,rfl,lf,fs,rfl,SqL.of hf10,fun l1 hl1=>?_⟩
      rw [show cutV fs none (some (0+(i:Int)))=fs.take i from by rw [Int.zero_add];exact cut_pre (Nat.le_of_lt hi)]
      have s11:Same H10 (upd H10 l1 (.lst (fs.take i))):=Same.new hl1
      have h11:(upd H10 l1 (.lst (fs.take i))) l1=some (.lst (fs.take i)):=upd_same
      generalize upd H10 l1 (.lst (fs.take i))=H11 at s11 h11 ⊢
      refine ⟨l1,rfl,⟨_,SqL.of h11⟩,?_⟩
      refine comp_it (σr:=[some (.int fi)]) (walk_l (SqL.of h11)) ((sp10.take i).map fun _ _ z=>z.same s11) (by omega) (overB fi) (fun x y r=>over x y _ r) fun zs pz=>?_
      have zl:=pz.len
      have ol:((z.fo.take i).filter (overB fi)).length≤40:=Nat.le_trans (List.length_filter_le _ _) tkl
      refine ⟨by omega,fun lo hlo=>?_⟩
      have s12:Same H11 (upd H11 lo (.lst zs)):=Same.new hlo
      have h12:(upd H11 lo (.lst zs)) lo=some (.lst zs):=upd_same
      generalize upd H11 lo (.lst zs)=H12 at s12 h12 ⊢
      have S12:=s10.trans (s11.trans s12)
      try dsimp only [gName]
      refine ⟨_,rfl,lo,rfl,⟨_,SqL.of h12⟩,?_⟩
      refine comp_it (σr:=[some (.ref lt),some (.int fi)]) (walk_l (SqL.of h12)) (pz.map fun _ _ z=>z.same s12) (by omega) (fun s1=>unbF s1.fi fi false ths) ?_ fun ws pw=>?_
      · rintro x s1 ⟨a1,rfl,sq1⟩ Q' q'
        exact ⟨_,rfl,_,rfl,a1,_,_,_,rfl,rfl,sq1,atI_nat (j:=1) rfl,_,rfl,lt,ts,ths,s1.fi,fi,rfl,SqL.of (S12 _ _ tl6),ta6.same S12,_,rfl,q'⟩
      have wl':=pw.len
      have wle:(within ths z.fo i fi).length≤40:=by
        unfold within
        exact Nat.le_trans (List.length_filter_le _ _) ol
      have pw:SpsAt K H12 ws (within ths z.fo i fi):=pw
      have wl':ws.length=(within ths z.fo i fi).length:=wl'
      refine ⟨by omega,fun lw hlw=>?_⟩
      have s13:Same H12 (upd H12 lw (.lst ws)):=Same.new hlw
      have h13:(upd H12 lw (.lst ws)) lw=some (.lst ws):=upd_same
      generalize upd H12 lw (.lst ws)=H13 at s13 h13 ⊢
      have S13:=S12.trans s13
      try dsimp only [gName]
      refine ⟨_,rfl,_,rfl,lw,_,rfl,.inl (SqL.of h13),rfl,_,rfl,ifF ?_ ?_⟩
      · rw [wl',w1]
        simp
      try dsimp only [tNext]
      cases la with
      |none=>exact ⟨_,rfl,rfl,_,rfl,ifF rfl (ifF rfl ⟨⟨_,_,_,_,_,_,_,rfl⟩,S13⟩)⟩
      | some l=>
        refine ⟨_,rfl,rfl,_,rfl,ifT rfl ?_⟩
        refine ⟨_,rfl,lw,rfl,⟨_,SqL.of h13⟩,?_⟩
        refine comp_fn (σr:=[some (.int l)]) (walk_l (SqL.of h13)) (pw.map fun _ _ z=>z.same s13) (by omega) (fun _=>true) (fun s1=>.bl (overB l s1)) (fun _ _ _=>yes_ev) ?_ ?_
        · rintro x ⟨nm1,fi1,la1,de1⟩ ⟨a1,rfl,sq1⟩ _ Q' q'
          cases la1 with
          |none=>exact ⟨_,rfl,a1,_,_,_,rfl,rfl,sq1,atI_nat (j:=2) rfl,rfl,_,rfl,ifT rfl q'⟩
          |some l1=>exact ⟨_,rfl,a1,_,_,_,rfl,rfl,sq1,atI_nat (j:=2) rfl,rfl,_,rfl,ifF rfl ⟨_,rfl,a1,_,_,_,rfl,rfl,sq1,atI_nat (j:=2) rfl,_,rfl,_,_,rfl,rfl,q'⟩⟩
        rw [filter_true]
        refine ⟨by rw [List.length_map];omega,fun lb hlb=>?_⟩
        have eb:(within ths z.fo i fi).map (fun s1=>V.bl (overB l s1))=((within ths z.fo i fi).map (overB l)).map V.bl:=by rw [List.map_map];rfl
        refine ⟨lb,(within ths z.fo i fi).map (overB l),rfl,SqL.of (by rw [upd_same,eb]),?_⟩
        have al:((within ths z.fo i fi).map (overB l)).all id=true:=by
          rw [List.all_eq_true]
          intro b mb
          obtain ⟨s1,m1,rfl⟩:=List.mem_map.mp mb
          exact w2 l hs' rfl s1 m1
        refine ⟨_,rfl,ifF ?_ ⟨⟨_,_,_,_,_,_,_,rfl⟩,S13.trans (Same.new hlb)⟩⟩
        show (!((within ths z.fo i fi).map (overB l)).all id)=false
        rw [al]
        rfl
    · rintro σ' H10 ⟨⟨u7,u8,u9,u10,u11,u12,u13,rfl⟩,s10⟩
      have pairs:∀ (H':Hp) (j:Nat) (F:List V→Hp→Prop) (e:Str×Str→Str),Same H6 H'→(∀ p:Str×Str,([V.str p.1,V.str p.2]:List V)[j]?=some (.str (e p)))→F ((ps.map e).map V.str) H'→∃ W:Nat→Nat→List V→St→Hp→Prop,(∃ m,W 0 m [] [none] H')∧CTurn (Itt K tp) (gName 0) tYes (tOp (rIxT K) (tVar 0) (tC (.int j))) F W:=fun H' j F e s' hj q'=>by
        refine comp_fn (σr:=[]) (walk_t (s'.tup (SqT.of htp6))) (pe6.map fun _ _ z=>z.same s') (by omega) (fun _=>true) (fun p=>.str (e p)) (fun _ _ _=>yes_ev) ?_ ?_
        · rintro x p' ⟨a,rfl,sq⟩ _ Q' q'
          exact ⟨_,rfl,a,_,_,_,rfl,rfl,sq,atI_nat (j:=j) (hj p'),q'⟩
        · rw [filter_true]
          rw [List.map_map] at q'
          exact q'
      have thing:∀ (lc:Addr) (H':Hp) (ws:List Str) (F:List V→Hp→Prop),Same H6 H'→H' lc=some (.lst (ws.map V.str))→F ((evP (fun k=>decide (k∈ws)) ths).map V.int) H'→∃ W:Nat→Nat→List V→St→Hp→Prop,(∃ m,W 0 m [] [none,some (.ref lc)] H')∧CTurn (Itl K lt) (gName 0) (tAnd (tTest (tOp rEq (tOp (rIxT K) (tVar 0) (tC (.int 0))) (tC (.str "event")))) (tTest (tOp (rIn K false) (tOp (rIxT K) (tVar 0) (tC (.int 3))) (tVar 1)))) (tOp (rIxT K) (tVar 0) (tC (.int 1))) F W:=fun lc H' ws F s' hlc q'=>by
        refine comp_fn (σr:=[some (.ref lc)]) (walk_l (SqL.of (s' _ _ tl6))) (ths_pd (ta6.same s')) (by omega) (fun th=>(evF (fun k=>decide (k∈ws)) th).isSome) (fun th=>.int ((evF (fun _=>true) th).getD 0)) ?_ ?_ ?_
        · rintro x th tx Q' q'
          cases tx with
          |@lost a n sq=>exact ⟨_,rfl,a,_,_,_,rfl,rfl,sq,atI_nat (j:=0) rfl,rfl,_,rfl,ifF (by decide +kernel) q'⟩
          | @ev a b p t kk us sq sqz=>
            refine ⟨_,rfl,a,_,_,_,rfl,rfl,sq,atI_nat (j:=0) rfl,rfl,_,rfl,ifT (by simp) ?_⟩
            refine ⟨_,rfl,a,_,_,_,rfl,rfl,sq,atI_nat (j:=3) rfl,_,rfl,lc,_,rfl,.inl (SqL.of hlc),rfl,flat_str _,_,rfl,?_⟩
            have e:(evF (fun k=>decide (k∈ws)) (.ev p t kk us)).isSome=decide (kk∈ws):=by
              show (if decide (kk∈ws)=true then some p else none).isSome=_
              by_cases h:kk∈ws
              · rw [decide_eq_true h];rfl
              · rw [decide_eq_false h];rfl
            rw [e] at q'
            show Q' (inV (.str kk) (ws.map V.str)) H'
            rw [inV_str]
            exact q'
        · rintro x th tx hf Q' q'
          cases tx with
          |@lost a n sq=>cases hf
          |@ev a b p t kk us sq sqz=>exact ⟨_,rfl,a,_,_,_,rfl,rfl,sq,atI_nat (j:=1) rfl,q'⟩
        · rw [evs_eq]
          exact q'
      refine ⟨_,rfl,tp,rfl,⟨xs,s10.tup (SqT.of htp6)⟩,pairs _ 1 _ (·.2) s10 (fun _=>rfl) ⟨by rw [List.length_map,List.length_map];omega,fun lc hlc=>?_⟩⟩
      have s11:Same H10 (upd H10 lc (.lst ((ps.map (·.2)).map V.str))):=Same.new hlc
      have h11:(upd H10 lc (.lst ((ps.map (·.2)).map V.str))) lc=some (.lst ((ps.map (·.2)).map V.str)):=upd_same
      generalize upd H10 lc (.lst ((ps.map (·.2)).map V.str))=H11 at s11 h11 ⊢
      have S11:=s10.trans s11
      try dsimp only [gName]
      refine ⟨_,rfl,lf,rfl,⟨fs,SqL.of (S11 _ _ hf6)⟩,?_⟩
      refine comp_fn (σr:=[]) (walk_l (SqL.of (S11 _ _ hf6))) (sp6.map fun _ _ z=>z.same S11) (by omega) (fun s=>s.la.isSome) (fun s=>laV s.la) ?_ ?_ ?_
      · rintro x ⟨nm1,fi1,la1,de1⟩ ⟨a1,rfl,sq1⟩ Q' q'
        cases la1 with
        |none=>exact ⟨_,rfl,a1,_,_,_,rfl,rfl,sq1,atI_nat (j:=2) rfl,rfl,_,rfl,q'⟩
        |some l1=>exact ⟨_,rfl,a1,_,_,_,rfl,rfl,sq1,atI_nat (j:=2) rfl,rfl,_,rfl,q'⟩
      · rintro x s1 ⟨a1,rfl,sq1⟩ hf Q' q'
        exact ⟨_,rfl,a1,_,_,_,rfl,rfl,sq1,atI_nat (j:=2) rfl,q'⟩
      rw [ends_eq]
      have el:(z.fo.filterMap (fun s=>s.la)).length≤40:=Nat.le_trans (List.length_filterMap_le ..) f40
      refine ⟨by rw [List.length_map];omega,fun le hle=>?_⟩
      have s12:Same H11 (upd H11 le (.lst ((z.fo.filterMap (fun s=>s.la)).map V.int))):=Same.new hle
      have h12:(upd H11 le (.lst ((z.fo.filterMap (fun s=>s.la)).map V.int))) le=some (.lst ((z.fo.filterMap (fun s=>s.la)).map V.int)):=upd_same
      generalize upd H11 le (.lst ((z.fo.filterMap (fun s=>s.la)).map V.int))=H12 at s12 h12 ⊢
      have S12:=S11.trans s12
      try dsimp only [gName]
      have cll:(evP (fun k=>decide (k∈ps.map (·.2))) ths).length≤40:=Nat.le_trans (List.length_filterMap_le ..) tl
      refine ⟨_,rfl,lt,rfl,⟨ts,SqL.of (S12 _ _ tl6)⟩,thing lc _ (ps.map (·.2)) _ S12 (s12 _ _ h11) ⟨by rw [List.length_map];omega,fun ld hld=>?_⟩⟩
      have s13:Same H12 (upd H12 ld (.lst ((evP (fun k=>decide (k∈ps.map (·.2))) ths).map V.int))):=Same.new hld
      have h13:(upd H12 ld (.lst ((evP (fun k=>decide (k∈ps.map (·.2))) ths).map V.int))) ld=some (.lst ((evP (fun k=>decide (k∈ps.map (·.2))) ths).map V.int)):=upd_same
      generalize upd H12 ld (.lst ((evP (fun k=>decide (k∈ps.map (·.2))) ths).map V.int))=H13 at s13 h13 ⊢
      have S13:=S12.trans s13
      try dsimp only [gName]
      refine ⟨_,rfl,_,rfl,_,rfl,tp,xs,rfl,.inr (S13.tup (SqT.of htp6)),fun q1 hq1=>?_⟩
      have s14:Same H13 (upd H13 q1 (.lst xs)):=Same.new hq1
      have S14:=S13.trans s14
      refine ⟨ths,ps,⟨lt,q1,ts,xs,rfl,SqL.of (S14 _ _ tl6),ta6.same S14,tl,SqL.of upd_same,pe6.map fun _ _ z=>z.same S14,ok⟩,fun ll H15 s15 hll hl=>?_⟩
      rw [hz] at hl
      have s35:=s14.trans s15
      have lll:z.lo.length≤40:=Nat.le_trans wl.ll tl
      refine ⟨le,ll,_,_,rfl,rfl,s35 _ _ (s13 _ _ h12),hl,by rw [List.length_map,List.length_map];omega,fun lq hlq=>?_⟩
      rw [← List.map_append]
      have s16:Same H15 (upd H15 lq (.lst ((z.fo.filterMap (fun s=>s.la)++z.lo).map V.int))):=Same.new hlq
      have enl:=wi.en.length_eq
      refine ⟨lq,_,rfl,SqL.of upd_same,by rw [enl];omega,fun ns' l3 pm so hl3=>?_⟩
      have en:ns'=evP (fun k=>decide (k∈ps.map (·.2))) ths:=PySem.W.ksm_same (pm.trans wi.en) so (lt_le (evP_asc rv))
      subst en
      have s17:=s35.trans (s16.trans (Same.new (o:=.lst ((evP (fun k=>decide (k∈ps.map (·.2))) ths).map V.int)) hl3))
      refine ⟨_,rfl,(evP (fun k=>decide (k∈ps.map (·.2))) ths).map PyData.int,(evP (fun k=>decide (k∈ps.map (·.2))) ths).map PyData.int,.lst (SqL.of upd_same) (reps_int _),.lst (SqL.of (s17 _ _ h13)) (reps_int _),by rw [dep_int];decide,_,rfl,ifF (by rw [eq_int];simp) ?_⟩
      have S17:=S13.trans s17
      generalize upd (upd H15 lq _) l3 _=H17 at s17 S17
      clear s17 s16 s35 s15 s14 S14 hl hll hlq hl3 hq1 s13 S13 h13 hld s12 S12 h12 hle s11 S11 h11 hlc s10 pm so
      try dsimp only [tNext]
      refine ⟨_,rfl,tp,rfl,⟨xs,S17.tup (SqT.of htp6)⟩,pairs _ 0 _ (·.1) S17 (fun _=>rfl) ⟨by rw [List.length_map,List.length_map];omega,fun lo hlo=>?_⟩⟩
      have s18:Same H17 (upd H17 lo (.lst ((ps.map (·.1)).map V.str))):=Same.new hlo
      have h18:(upd H17 lo (.lst ((ps.map (·.1)).map V.str))) lo=some (.lst ((ps.map (·.1)).map V.str)):=upd_same
      generalize upd H17 lo (.lst ((ps.map (·.1)).map V.str))=H18 at s18 h18 ⊢
      have S18:=S17.trans s18
      try dsimp only [gName]
      have opl:(evP (fun k=>decide (k∈ps.map (·.1))) ths).length≤40:=Nat.le_trans (List.length_filterMap_le ..) tl
      refine ⟨_,rfl,lt,rfl,⟨ts,SqL.of (S18 _ _ tl6)⟩,thing lo _ (ps.map (·.1)) _ S18 h18 ⟨by rw [List.length_map];omega,fun lx hlx=>?_⟩⟩
      have s19:Same H18 (upd H18 lx (.lst ((evP (fun k=>decide (k∈ps.map (·.1))) ths).map V.int))):=Same.new hlx
      have h19:(upd H18 lx (.lst ((evP (fun k=>decide (k∈ps.map (·.1))) ths).map V.int))) lx=some (.lst ((evP (fun k=>decide (k∈ps.map (·.1))) ths).map V.int)):=upd_same
      generalize upd H18 lx (.lst ((evP (fun k=>decide (k∈ps.map (·.1))) ths).map V.int))=H19 at s19 h19 ⊢
      have S19:=S18.trans s19
      try dsimp only [gName]
      have rf:=sps_rep (sp6.map fun _ _ z=>z.same S19)
      have hf19:=S19 _ _ hf6
      refine ⟨_,rfl,(show 0≤sizeLine by decide),fun l0 hl0=>?_⟩
      have s20:Same H19 (upd H19 l0 (.lst [])):=Same.new hl0
      refine ⟨z.fo.map spD,[],.lst (SqL.of (s20 _ _ hf19)) (rf.same s20),.lst (SqL.of upd_same) .nil,Nat.le_trans (sp_dep _) (by decide),_,rfl,?_⟩
      have S20:=S19.trans s20
      generalize upd H19 l0 (.lst [])=H20 at s20 S20 ⊢
      rcases List.eq_nil_or_concat z.fo with e0|⟨r0,x0,e0⟩
      · refine ifF (by rw [e0];rfl) ?_
        try dsimp only [gName]
        refine ⟨_,rfl,lf,rfl,⟨fs,SqL.of (S20 _ _ hf6)⟩,firsts _ _ S20 ⟨zfl,fun l1 hl1=>?_⟩⟩
        have s21:=Same.new (o:=.lst ((z.fo.map (·.fi)).map V.int)) hl1
        refine ⟨_,rfl,.list ((z.fo.map (·.fi)).map PyData.int),.list ((evP (fun k=>decide (k∈ps.map (·.1))) ths).map PyData.int),.lst (SqL.of upd_same) (reps_int _),.lst (SqL.of (s21 _ _ (s20 _ _ h19))) (reps_int _),?_,_,rfl,ifT ?_ ?_⟩
        · simp only [pdDep]
          rw [dep_int]
          decide
        · show pdEqs _ _=true
          rw [eq_int,wi.fi]
          simp
        have S21:=(S20).trans s21
        generalize upd _ l1 (.lst ((z.fo.map (·.fi)).map V.int))=H21 at s21 S21
        refine ⟨_,rfl,_,rfl,tp,xs,rfl,.inr (S21.tup (SqT.of htp6)),fun q1 hq1=>?_⟩
        have s22:Same H21 (upd H21 q1 (.lst xs)):=Same.new hq1
        have S22:=S21.trans s22
        refine ⟨ths,ps,⟨lt,q1,ts,xs,rfl,SqL.of (S22 _ _ tl6),ta6.same S22,tl,SqL.of upd_same,pe6.map fun _ _ z=>z.same S22,ok⟩,?_,?_⟩
        · rintro _ H' s'
          exact ⟨_,rfl,.non,.non,.none,rfl,.non,.non,by simp [pdDep],by simp [pdMax],fun H' _=>k H'⟩
        · rw [hz,e0]
          rintro b hb
          cases hb
      · have ne:z.fo≠[]:=fun z=>by rw [z] at e0;simp at e0
        have pq:(!pdEqs (z.fo.map spD) [])=true:=by
          cases hz':z.fo with
          |nil=>exact absurd hz' ne
          |cons _ _=>simp [pdEqs]
        refine ifT pq ?_
        refine ⟨_,rfl,lf,rfl,⟨fs,SqL.of (S20 _ _ hf6)⟩,?_⟩
        refine comp_fn (σr:=[]) (walk_l (SqL.of (S20 _ _ hf6))) (sp6.map fun _ _ z=>z.same S20) (by omega) (fun _=>true) (fun s=>.int s.de) (fun _ _ _=>yes_ev) ?_ ?_
        · rintro x s1 ⟨a1,rfl,sq1⟩ _ Q' q'
          exact ⟨_,rfl,a1,_,_,_,rfl,rfl,sq1,atI_nat (j:=3) rfl,q'⟩
        rw [filter_true]
        refine ⟨by rw [List.length_map];omega,fun lm hlm=>?_⟩
        have ed:z.fo.map (fun s=>V.int (s.de:Int))=(deI z.fo).map V.int:=by unfold deI;rw [List.map_map];rfl
        have sm:=Same.new (o:=.lst (z.fo.map (fun s=>V.int (s.de:Int)))) hlm
        have hm:(upd H20 lm (.lst (z.fo.map (fun s=>V.int (s.de:Int))))) lm=some (.lst ((deI z.fo).map V.int)):=by rw [upd_same,ed]
        refine ⟨lm,deI z.fo,rfl,SqL.of hm,(fun e=>ne (List.map_eq_nil_iff.mp e)),fun b hb hx=>?_⟩
        have s20:=s20.trans sm
        have S20:=S20.trans sm
        generalize upd H20 lm _=H20' at s20 S20
        try dsimp only [gName]
        refine ⟨_,rfl,lf,rfl,⟨fs,SqL.of (S20 _ _ hf6)⟩,firsts _ _ S20 ⟨zfl,fun l1 hl1=>?_⟩⟩
        have s21:=Same.new (o:=.lst ((z.fo.map (·.fi)).map V.int)) hl1
        refine ⟨_,rfl,.list ((z.fo.map (·.fi)).map PyData.int),.list ((evP (fun k=>decide (k∈ps.map (·.1))) ths).map PyData.int),.lst (SqL.of upd_same) (reps_int _),.lst (SqL.of (s21 _ _ (s20 _ _ h19))) (reps_int _),?_,_,rfl,ifT ?_ ?_⟩
        · simp only [pdDep]
          rw [dep_int]
          decide
        · show pdEqs _ _=true
          rw [eq_int,wi.fi]
          simp
        have S21:=(S20).trans s21
        generalize upd _ l1 (.lst ((z.fo.map (·.fi)).map V.int))=H21 at s21 S21
        refine ⟨_,rfl,_,rfl,tp,xs,rfl,.inr (S21.tup (SqT.of htp6)),fun q1 hq1=>?_⟩
        have s22:Same H21 (upd H21 q1 (.lst xs)):=Same.new hq1
        have S22:=S21.trans s22
        refine ⟨ths,ps,⟨lt,q1,ts,xs,rfl,SqL.of (S22 _ _ tl6),ta6.same S22,tl,SqL.of upd_same,pe6.map fun _ _ z=>z.same S22,ok⟩,?_,?_⟩
        · rw [hz]
          exact fun e=>absurd e ne
        · rw [hz]
          intro b' hb' hx' H' s'
          have eb:b'=b:=Int.le_antisymm (hx b' hb') (hx' b hb)
          subst eb
          exact ⟨_,rfl,.int b',.int b',.int b',rfl,.int _,.int _,by simp [pdDep],by simp [pdMax],fun H' _=>k H'⟩
end
end Cm
namespace Cm
open PySem L2 PySem.W
theorem all_mk {l:PySem.W.OpenLaw} {w:World} {K:PySem.W.Frag} {h:Heap} {mg:Str→Option Value} {fa fB fP fO fS fW fWs fSr fPp fUb fI fNp fWk fCl fSp fSt fDp fLa:Addr} (X:K.In h) (G:h.Ns mainGlobals mg) (hfa:mg "law" = some (.ref fa))
    {odB anB odP anP odO anO odS anS odW anW odWs anWs odSr anSr odPp anPp odUb anUb odI anI odNp anNp odWk anWk odCl anCl odSp anSp odSt anSt odDp anDp odLa anLa:Option Addr} {slB slP slO slS slW slWs slSr slPp slUb slI slNp slWk slCl slSp slSt slDp slLa:Array (Option Value)} {t0:Nat} {ocB kVB dcB pmB cdB ctB ocP kVP dcP pmP cdP ctP ocO kVO dcO pmO cdO ctO ocS kVS dcS pmS cdS ctS ocW kVW dcW pmW cdW ctW ocWs kVWs dcWs pmWs cdWs ctWs ocSr kVSr dcSr pmSr cdSr ctSr ocPp kVPp dcPp pmPp cdPp ctPp ocUb kVUb dcUb pmUb cdUb ctUb ocI kVI dcI pmI cdI ctI ocNp kVNp dcNp pmNp cdNp ctNp ocWk kVWk dcWk pmWk cdWk ctWk ocCl kVCl dcCl pmCl cdCl ctCl ocSp kVSp dcSp pmSp cdSp ctSp ocSt kVSt dcSt pmSt cdSt ctSt ocDp kVDp dcDp pmDp cdDp ctDp ocLa kVLa dcLa pmLa cdLa ctLa:Value}
    (aB:PySem.W.nsIn K mainGlobals "_law_begin" = some (some (.ref fB)))
    (lB:K.lookup fB=some ⟨ocB,odB,.func (PySem.W.fnOf "_law_begin" "_law_begin" (defArgs (top 14)) (defBody (top 14)) (defScope (top 14)) .none kVB dcB pmB anB cdB ctB),slB⟩)
    (cB:PySem.W.codeIn K cdB "_law_begin" = true)
    (kB:PySem.W.keepIn K (.ref fB)=true)
    (aP:PySem.W.nsIn K mainGlobals "_law_pick" = some (some (.ref fP)))
    (lP:K.lookup fP=some ⟨ocP,odP,.func (PySem.W.fnOf "_law_pick" "_law_pick" (defArgs (top 15)) (defBody (top 15)) (defScope (top 15)) .none kVP dcP pmP anP cdP ctP),slP⟩)
    (cP:PySem.W.codeIn K cdP "_law_pick" = true)
    (kP:PySem.W.keepIn K (.ref fP)=true)
    (aO:PySem.W.nsIn K mainGlobals "_law_of" = some (some (.ref fO)))
    (lO:K.lookup fO=some ⟨ocO,odO,.func (PySem.W.fnOf "_law_of" "_law_of" (defArgs (top 16)) (defBody (top 16)) (defScope (top 16)) .none kVO dcO pmO anO cdO ctO),slO⟩)
    (cO:PySem.W.codeIn K cdO "_law_of" = true)
    (kO:PySem.W.keepIn K (.ref fO)=true)
    (aS:PySem.W.nsIn K mainGlobals "_law_same" = some (some (.ref fS)))
    (lS:K.lookup fS=some ⟨ocS,odS,.func (PySem.W.fnOf "_law_same" "_law_same" (defArgs (top 17)) (defBody (top 17)) (defScope (top 17)) .none kVS dcS pmS anS cdS ctS),slS⟩)
    (cS:PySem.W.codeIn K cdS "_law_same" = true)
    (kS:PySem.W.keepIn K (.ref fS)=true)
    (aW:PySem.W.nsIn K mainGlobals "_law_word" = some (some (.ref fW)))
    (lW:K.lookup fW=some ⟨ocW,odW,.func (PySem.W.fnOf "_law_word" "_law_word" (defArgs (top 18)) (defBody (top 18)) (defScope (top 18)) .none kVW dcW pmW anW cdW ctW),slW⟩)
    (cW:PySem.W.codeIn K cdW "_law_word" = true)
    (kW:PySem.W.keepIn K (.ref fW)=true)
    (aWs:PySem.W.nsIn K mainGlobals "_law_words" = some (some (.ref fWs)))
    (lWs:K.lookup fWs=some ⟨ocWs,odWs,.func (PySem.W.fnOf "_law_words" "_law_words" (defArgs (top 19)) (defBody (top 19)) (defScope (top 19)) .none kVWs dcWs pmWs anWs cdWs ctWs),slWs⟩)
    (cWs:PySem.W.codeIn K cdWs "_law_words" = true)
    (kWs:PySem.W.keepIn K (.ref fWs)=true)
    (aSr:PySem.W.nsIn K mainGlobals "_law_span_row" = some (some (.ref fSr)))
    (lSr:K.lookup fSr=some ⟨ocSr,odSr,.func (PySem.W.fnOf "_law_span_row" "_law_span_row" (defArgs (top 20)) (defBody (top 20)) (defScope (top 20)) .none kVSr dcSr pmSr anSr cdSr ctSr),slSr⟩)
    (cSr:PySem.W.codeIn K cdSr "_law_span_row" = true)
    (kSr:PySem.W.keepIn K (.ref fSr)=true)
    (aPp:PySem.W.nsIn K mainGlobals "_law_span_pairs" = some (some (.ref fPp)))
    (lPp:K.lookup fPp=some ⟨ocPp,odPp,.func (PySem.W.fnOf "_law_span_pairs" "_law_span_pairs" (defArgs (top 21)) (defBody (top 21)) (defScope (top 21)) .none kVPp dcPp pmPp anPp cdPp ctPp),slPp⟩)
    (cPp:PySem.W.codeIn K cdPp "_law_span_pairs" = true)
    (kPp:PySem.W.keepIn K (.ref fPp)=true)
    (aUb:PySem.W.nsIn K mainGlobals "_law_unbroken" = some (some (.ref fUb)))
    (lUb:K.lookup fUb=some ⟨ocUb,odUb,.func (PySem.W.fnOf "_law_unbroken" "_law_unbroken" (defArgs (top 22)) (defBody (top 22)) (defScope (top 22)) .none kVUb dcUb pmUb anUb cdUb ctUb),slUb⟩)
    (cUb:PySem.W.codeIn K cdUb "_law_unbroken" = true)
    (kUb:PySem.W.keepIn K (.ref fUb)=true)
    (aI:PySem.W.nsIn K mainGlobals "is_name" = some (some (.ref fI)))
    (lI:K.lookup fI=some ⟨ocI,odI,.func (PySem.W.fnOf "is_name" "is_name" (defArgs (top 5)) (defBody (top 5)) (defScope (top 5)) .none kVI dcI pmI anI cdI ctI),slI⟩)
    (cI:PySem.W.codeIn K cdI "is_name" = true)
    (kI:PySem.W.keepIn K (.ref fI)=true)
    (aNp:PySem.W.nsIn K mainGlobals "need_pairs" = some (some (.ref fNp)))
    (lNp:K.lookup fNp=some ⟨ocNp,odNp,.func (PySem.W.fnOf "need_pairs" "need_pairs" (defArgs (top 7)) (defBody (top 7)) (defScope (top 7)) .none kVNp dcNp pmNp anNp cdNp ctNp),slNp⟩)
    (cNp:PySem.W.codeIn K cdNp "need_pairs" = true)
    (kNp:PySem.W.keepIn K (.ref fNp)=true)
    (aWk:PySem.W.nsIn K mainGlobals "walked" = some (some (.ref fWk)))
    (lWk:K.lookup fWk=some ⟨ocWk,odWk,.func (PySem.W.fnOf "walked" "walked" (defArgs (top 8)) (defBody (top 8)) (defScope (top 8)) .none kVWk dcWk pmWk anWk cdWk ctWk),slWk⟩)
    (cWk:PySem.W.codeIn K cdWk "walked" = true)
    (kWk:PySem.W.keepIn K (.ref fWk)=true)
    (aCl:PySem.W.nsIn K mainGlobals "close" = some (some (.ref fCl)))
    (lCl:K.lookup fCl=some ⟨ocCl,odCl,.func (PySem.W.fnOf "close" "close" (defArgs (top 9)) (defBody (top 9)) (defScope (top 9)) .none kVCl dcCl pmCl anCl cdCl ctCl),slCl⟩)
    (cCl:PySem.W.codeIn K cdCl "close" = true)
    (kCl:PySem.W.keepIn K (.ref fCl)=true)
    (aSp:PySem.W.nsIn K mainGlobals "spans" = some (some (.ref fSp)))
    (lSp:K.lookup fSp=some ⟨ocSp,odSp,.func (PySem.W.fnOf "spans" "spans" (defArgs (top 10)) (defBody (top 10)) (defScope (top 10)) .none kVSp dcSp pmSp anSp cdSp ctSp),slSp⟩)
    (cSp:PySem.W.codeIn K cdSp "spans" = true)
    (kSp:PySem.W.keepIn K (.ref fSp)=true)
    (aSt:PySem.W.nsIn K mainGlobals "strays" = some (some (.ref fSt)))
    (lSt:K.lookup fSt=some ⟨ocSt,odSt,.func (PySem.W.fnOf "strays" "strays" (defArgs (top 11)) (defBody (top 11)) (defScope (top 11)) .none kVSt dcSt pmSt anSt cdSt ctSt),slSt⟩)
    (cSt:PySem.W.codeIn K cdSt "strays" = true)
    (kSt:PySem.W.keepIn K (.ref fSt)=true)
    (aDp:PySem.W.nsIn K mainGlobals "deepest" = some (some (.ref fDp)))
    (lDp:K.lookup fDp=some ⟨ocDp,odDp,.func (PySem.W.fnOf "deepest" "deepest" (defArgs (top 12)) (defBody (top 12)) (defScope (top 12)) .none kVDp dcDp pmDp anDp cdDp ctDp),slDp⟩)
    (cDp:PySem.W.codeIn K cdDp "deepest" = true)
    (kDp:PySem.W.keepIn K (.ref fDp)=true)
    (aLa:PySem.W.nsIn K mainGlobals "law" = some (some (.ref fLa)))
    (lLa:K.lookup fLa=some ⟨ocLa,odLa,.func (PySem.W.fnOf "law" "law" (defArgs (top 23)) (defBody (top 23)) (defScope (top 23)) .none kVLa dcLa pmLa anLa cdLa ctLa),slLa⟩)
    (cLa:PySem.W.codeIn K cdLa "law" = true)
    (kLa:PySem.W.keepIn K (.ref fLa)=true)
    (z_len:PySem.W.nsIn K mainGlobals "len" = some none)
    (z_range:PySem.W.nsIn K mainGlobals "range" = some none)
    (z_list:PySem.W.nsIn K mainGlobals "list" = some none)
    (z_tuple:PySem.W.nsIn K mainGlobals "tuple" = some none)
    (z_str:PySem.W.nsIn K mainGlobals "str" = some none)
    (z_bool:PySem.W.nsIn K mainGlobals "bool" = some none)
    (z_int:PySem.W.nsIn K mainGlobals "int" = some none)
    (z_min:PySem.W.nsIn K mainGlobals "min" = some none)
    (z_repr:PySem.W.nsIn K mainGlobals "repr" = some none)
    (z_all:PySem.W.nsIn K mainGlobals "all" = some none)
    (z_any:PySem.W.nsIn K mainGlobals "any" = some none)
    (z_isinstance:PySem.W.nsIn K mainGlobals "isinstance" = some none)
    (z_enumerate:PySem.W.nsIn K mainGlobals "enumerate" = some none)
    (z_sorted:PySem.W.nsIn K mainGlobals "sorted" = some none)
    (z_max:PySem.W.nsIn K mainGlobals "max" = some none)
    (i_MOST_LETTERS:PySem.W.nsIn K mainGlobals "MOST_LETTERS" = some (some (.int 8 t0))) :
    ∃ fd:FuncData,(∀ (s:Shared) (v:Value),BindsTo s fd ⟨[v],[]⟩ [("_law_script",v)])∧∀ base:Heap,K.In base→base.Ns mainGlobals mg→FnOk l.prog w K mg base CX0 12 fa fd ["_law_script"] (spLaw K):=by
  have e:=hfa.symm.trans (PySem.W.mg_of X G aLa)
  cases e
  have T:Txt K mg:=⟨PySem.W.mg_none_of X G z_len,PySem.W.mg_none_of X G z_range,PySem.W.mg_none_of X G z_list,PySem.W.mg_none_of X G z_tuple,PySem.W.mg_none_of X G z_str,PySem.W.mg_none_of X G z_bool,PySem.W.mg_none_of X G z_int,PySem.W.mg_none_of X G z_min,PySem.W.mg_none_of X G z_repr,PySem.W.mg_none_of X G z_all,PySem.W.mg_none_of X G z_any,PySem.W.mg_none_of X G z_isinstance⟩
  have FB:=fun_mk (st:=top 14) lB cB kB
  have bB:=FB.binds (ps:=["_law_script"]) fun _ _ _ _ _ _ us hl=>by obtain ⟨_,rfl⟩:=len1 hl;rfl
  have DB:Def K mg "_law_begin" (top 14) ["_law_script"] fB _:=⟨FB,PySem.W.mg_of X G aB,bB⟩
  have FP:=fun_mk (st:=top 15) lP cP kP
  have bP:=FP.binds (ps:=["_law_d","_law_many"]) fun _ _ _ _ _ _ us hl=>by obtain ⟨_,_,rfl⟩:=len2 hl;rfl
  have DP:Def K mg "_law_pick" (top 15) ["_law_d","_law_many"] fP _:=⟨FP,PySem.W.mg_of X G aP,bP⟩
  have FO:=fun_mk (st:=top 16) lO cO kO
  have bO:=FO.binds (ps:=["_law_d","_law_things"]) fun _ _ _ _ _ _ us hl=>by obtain ⟨_,_,rfl⟩:=len2 hl;rfl
  have DO:Def K mg "_law_of" (top 16) ["_law_d","_law_things"] fO _:=⟨FO,PySem.W.mg_of X G aO,bO⟩
  have FS:=fun_mk (st:=top 17) lS cS kS
  have bS:=FS.binds (ps:=["_law_found","_law_due"]) fun _ _ _ _ _ _ us hl=>by obtain ⟨_,_,rfl⟩:=len2 hl;rfl
  have DS:Def K mg "_law_same" (top 17) ["_law_found","_law_due"] fS _:=⟨FS,PySem.W.mg_of X G aS,bS⟩
  have FW:=fun_mk (st:=top 18) lW cW kW
  have bW:=FW.binds (ps:=["_law_d"]) fun _ _ _ _ _ _ us hl=>by obtain ⟨_,rfl⟩:=len1 hl;rfl
  have DW:Def K mg "_law_word" (top 18) ["_law_d"] fW _:=⟨FW,PySem.W.mg_of X G aW,bW⟩
  have FWs:=fun_mk (st:=top 19) lWs cWs kWs
  have bWs:=FWs.binds (ps:=["_law_d","_law_many"]) fun _ _ _ _ _ _ us hl=>by obtain ⟨_,_,rfl⟩:=len2 hl;rfl
  have DWs:Def K mg "_law_words" (top 19) ["_law_d","_law_many"] fWs _:=⟨FWs,PySem.W.mg_of X G aWs,bWs⟩
  have FSr:=fun_mk (st:=top 20) lSr cSr kSr
  have bSr:=FSr.binds (ps:=["_law_d","_law_names"]) fun _ _ _ _ _ _ us hl=>by obtain ⟨_,_,rfl⟩:=len2 hl;rfl
  have DSr:Def K mg "_law_span_row" (top 20) ["_law_d","_law_names"] fSr _:=⟨FSr,PySem.W.mg_of X G aSr,bSr⟩
  have FPp:=fun_mk (st:=top 21) lPp cPp kPp
  have bPp:=FPp.binds (ps:=["_law_d"]) fun _ _ _ _ _ _ us hl=>by obtain ⟨_,rfl⟩:=len1 hl;rfl
  have DPp:Def K mg "_law_span_pairs" (top 21) ["_law_d"] fPp _:=⟨FPp,PySem.W.mg_of X G aPp,bPp⟩
  have FUb:=fun_mk (st:=top 22) lUb cUb kUb
  have bUb:=FUb.binds (ps:=["_law_told","_law_first","_law_last"]) fun _ _ _ _ _ _ us hl=>by obtain ⟨_,_,_,rfl⟩:=len3 hl;rfl
  have DUb:Def K mg "_law_unbroken" (top 22) ["_law_told","_law_first","_law_last"] fUb _:=⟨FUb,PySem.W.mg_of X G aUb,bUb⟩
  have FI:=fun_mk (st:=top 5) lI cI kI
  have bI:=FI.binds (ps:=["text"]) fun _ _ _ _ _ _ us hl=>by obtain ⟨_,rfl⟩:=len1 hl;rfl
  have DI:Def K mg "is_name" (top 5) ["text"] fI _:=⟨FI,PySem.W.mg_of X G aI,bI⟩
  have FNp:=fun_mk (st:=top 7) lNp cNp kNp
  have bNp:=FNp.binds (ps:=["pairs"]) fun _ _ _ _ _ _ us hl=>by obtain ⟨_,rfl⟩:=len1 hl;rfl
  have DNp:Def K mg "need_pairs" (top 7) ["pairs"] fNp _:=⟨FNp,PySem.W.mg_of X G aNp,bNp⟩
  have FWk:=fun_mk (st:=top 8) lWk cWk kWk
  have bWk:=FWk.binds (ps:=["told","pairs"]) fun _ _ _ _ _ _ us hl=>by obtain ⟨_,_,rfl⟩:=len2 hl;rfl
  have DWk:Def K mg "walked" (top 8) ["told","pairs"] fWk _:=⟨FWk,PySem.W.mg_of X G aWk,bWk⟩
  have FCl:=fun_mk (st:=top 9) lCl cCl kCl
  have bCl:=FCl.binds (ps:=["found","at","last"]) fun _ _ _ _ _ _ us hl=>by obtain ⟨_,_,_,rfl⟩:=len3 hl;rfl
  have DCl:Def K mg "close" (top 9) ["found","at","last"] fCl _:=⟨FCl,PySem.W.mg_of X G aCl,bCl⟩
  have FSp:=fun_mk (st:=top 10) lSp cSp kSp
  have bSp:=FSp.binds (ps:=["told","pairs"]) fun _ _ _ _ _ _ us hl=>by obtain ⟨_,_,rfl⟩:=len2 hl;rfl
  have DSp:Def K mg "spans" (top 10) ["told","pairs"] fSp _:=⟨FSp,PySem.W.mg_of X G aSp,bSp⟩
  have FSt:=fun_mk (st:=top 11) lSt cSt kSt
  have bSt:=FSt.binds (ps:=["told","pairs"]) fun _ _ _ _ _ _ us hl=>by obtain ⟨_,_,rfl⟩:=len2 hl;rfl
  have DSt:Def K mg "strays" (top 11) ["told","pairs"] fSt _:=⟨FSt,PySem.W.mg_of X G aSt,bSt⟩
  have FDp:=fun_mk (st:=top 12) lDp cDp kDp
  have bDp:=FDp.binds (ps:=["told","pairs"]) fun _ _ _ _ _ _ us hl=>by obtain ⟨_,_,rfl⟩:=len2 hl;rfl
  have DDp:Def K mg "deepest" (top 12) ["told","pairs"] fDp _:=⟨FDp,PySem.W.mg_of X G aDp,bDp⟩
  have FLa:=fun_mk (st:=top 23) lLa cLa kLa
  have TK':TxtK mg:=⟨⟨_,PySem.W.mg_of X G i_MOST_LETTERS⟩⟩
  have hen:=PySem.W.mg_none_of X G z_enumerate
  have hso:=PySem.W.mg_none_of X G z_sorted
  have hmx:=PySem.W.mg_none_of X G z_max
  have GWk:∀ base:Heap,FnOk l.prog w K mg base CX0 3 fWk _ ["told","pairs"] (spWk K):=fun base=>ok_wk FWk T DNp (ok_np FNp T TK' hen DI) DCl
  exact ⟨PySem.W.fnOf "law" "law" (defArgs (top 23)) (defBody (top 23)) (defScope (top 23)) .none kVLa dcLa pmLa anLa cdLa ctLa,fun s v=>.of_eq rfl,fun base _ _=>ok_law FLa T hso hmx DB DS DPp (ok_pp FPp T DP DWs (ok_words FWs T DP DO DW)) DSr (ok_sr FSr T DP DO) DSp (ok_sp FSp DWk (GWk base)) DSt (ok_st FSt DWk (GWk base)) DDp (ok_dp FDp hmx DSp (ok_sp FSp DWk (GWk base))) DUb⟩
end Cm
open PySem PySem.W PyProof.Rows
set_option maxRecDepth 100000 in
set_option maxHeartbeats 0 in
theorem PySem.Challenge.cw_lanescribe_k31_whole_spans_lie_within_on_holds : PySem.Challenge.rw_lanescribe_k31_whole_spans_lie_within_on.Holds := by
  w_on
  refine Kd.head ?hw (by rfl) (by rfl) (by rfl) ?hc
  (case hw=>w_witness2)
  k_fill
  refine L2.walk_of (l:=PySem.Challenge.rw_lanescribe_k31_whole_spans_lie_within_on) (n:=63) (k:=12) (x:="_law_script") (CX:=fun _=>L2.CX0) (sp:=fun w=>Cm.spLaw _) rfl (by decide) rfl ⟨rfl,by decide,by decide,rfl⟩ (fun w h Y=>PySem.W.kIn_of Y) ?F (fun _ _ a ns hl _ hS=>⟨a,ns,rfl,hS,hl,fun _=>rfl⟩) fun _ _ _ _ _ z=>z
  case F=>
    intro w mg fa h KX G hmg
    refine' Cm.all_mk KX G hmg ?aB ?lB ?cB ?kB ?aP ?lP ?cP ?kP ?aO ?lO ?cO ?kO ?aS ?lS ?cS ?kS ?aW ?lW ?cW ?kW ?aWs ?lWs ?cWs ?kWs ?aSr ?lSr ?cSr ?kSr ?aPp ?lPp ?cPp ?kPp ?aUb ?lUb ?cUb ?kUb ?aI ?lI ?cI ?kI ?aNp ?lNp ?cNp ?kNp ?aWk ?lWk ?cWk ?kWk ?aCl ?lCl ?cCl ?kCl ?aSp ?lSp ?cSp ?kSp ?aSt ?lSt ?cSt ?kSt ?aDp ?lDp ?cDp ?kDp ?aLa ?lLa ?cLa ?kLa ?z_len ?z_range ?z_list ?z_tuple ?z_str ?z_bool ?z_int ?z_min ?z_repr ?z_all ?z_any ?z_isinstance ?z_enumerate ?z_sorted ?z_max ?i_MOST_LETTERS
    (case aB=>k_is)
    (case lB=>k_is)
    (case cB=>k_is)
    (case kB=>k_is)
    (case aP=>k_is)
    (case lP=>k_is)
    (case cP=>k_is)
    (case kP=>k_is)
    (case aO=>k_is)
    (case lO=>k_is)
    (case cO=>k_is)
    (case kO=>k_is)
    (case aS=>k_is)
    (case lS=>k_is)
    (case cS=>k_is)
    (case kS=>k_is)
    (case aW=>k_is)
    (case lW=>k_is)
    (case cW=>k_is)
    (case kW=>k_is)
    (case aWs=>k_is)
    (case lWs=>k_is)
    (case cWs=>k_is)
    (case kWs=>k_is)
    (case aSr=>k_is)
    (case lSr=>k_is)
    (case cSr=>k_is)
    (case kSr=>k_is)
    (case aPp=>k_is)
    (case lPp=>k_is)
    (case cPp=>k_is)
    (case kPp=>k_is)
    (case aUb=>k_is)
    (case lUb=>k_is)
    (case cUb=>k_is)
    (case kUb=>k_is)
    (case aI=>k_is)
    (case lI=>k_is)
    (case cI=>k_is)
    (case kI=>k_is)
    (case aNp=>k_is)
    (case lNp=>k_is)
    (case cNp=>k_is)
    (case kNp=>k_is)
    (case aWk=>k_is)
    (case lWk=>k_is)
    (case cWk=>k_is)
    (case kWk=>k_is)
    (case aCl=>k_is)
    (case lCl=>k_is)
    (case cCl=>k_is)
    (case kCl=>k_is)
    (case aSp=>k_is)
    (case lSp=>k_is)
    (case cSp=>k_is)
    (case kSp=>k_is)
    (case aSt=>k_is)
    (case lSt=>k_is)
    (case cSt=>k_is)
    (case kSt=>k_is)
    (case aDp=>k_is)
    (case lDp=>k_is)
    (case cDp=>k_is)
    (case kDp=>k_is)
    (case aLa=>k_is)
    (case lLa=>k_is)
    (case cLa=>k_is)
    (case kLa=>k_is)
    (case z_len=>k_is)
    (case z_range=>k_is)
    (case z_list=>k_is)
    (case z_tuple=>k_is)
    (case z_str=>k_is)
    (case z_bool=>k_is)
    (case z_int=>k_is)
    (case z_min=>k_is)
    (case z_repr=>k_is)
    (case z_all=>k_is)
    (case z_any=>k_is)
    (case z_isinstance=>k_is)
    (case z_enumerate=>k_is)
    (case z_sorted=>k_is)
    (case z_max=>k_is)
    (case i_MOST_LETTERS=>k_is)
