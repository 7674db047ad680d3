import PyProof.Rows.All
import Wide.All
import OpenK.AllK
import Wide.FinOn
import KE.KNestM
import Lean
import PyProof.EqAt
import PyProof.EqKinds
import PyProof.TupleCall
import PyProof.StationsW
import PyProof.ExcBaseAll.ValueError
import PyProof.InstStoreFacts
import PyProof.RulesAs
import PyProof.RulesDel
import KE.KLam
import PyProof.ExcArgsOwn
import PyProof.AutoListH
import PyProof.StrWalks
import PyProof.StrBlockH
import PyProof.WalkInts
import PyProof.SeqI3
import PyProof.Rows.SetFrom
import PyProof.ZipIter
import KE.KTabLook
import PyProof.StrLaws
import KE.KIntText
import KE.KStrOpen
import PyProof.StrLawsTight
import PyProof.Rows.StrFit
import PyProof.Draws
import PyProof.EnumMake
import PyProof.StrCalls2
import PyProof.Rows.StrSplitJoin
import PyProof.CollectIter
import PyProof.StrBlock2
import PyProof.StrLawsAffix
import PySem.Challenge.RW_lanescribe_k33_dumps_bent_and_mended
set_option Elab.async false
set_option linter.all false
set_option maxRecDepth 1000000
set_option maxHeartbeats 0
namespace Kd
open PySem PySem.W
noncomputable section
theorem left_boot {p q:Program} {loose:List Str} {Xt:Shared→Bool} {α:Type} {Yf:Shared→α} {Ya:World→α} {N:Nat} (e:opening p=plainProg p.main.scope.names) (hN:Nat.ble 600 N=true) (f:∀ s,fenceModules? p s=some s)
    (h:∀ (w:World) (os:OsState),(topFrom treeTable p w N ⟨boot_heap w.params,Array.mk [],boot_drawn,boot_toks,os⟩).map (fun s=>(openSeen q loose (importedModules p.main.body) Xt true s,Yf s))=some (openGood q loose,Ya w)):LeftO p q loose Xt Yf Ya N:=fun w=>by
  obtain ⟨⟨h',gs,d,k,os⟩,e1,e2⟩:=Option.map_eq_some_iff.mp (boot_open e hN f w)
  obtain ⟨rfl,rfl,rfl,rfl⟩:h'=boot_heap w.params∧gs=Array.mk []∧d=boot_drawn∧k=boot_toks:=by simpa using e2
  unfold openEnds
  rw [e1]
  exact h w os
abbrev u (x:String):Str:=Str.ofString x
abbrev vs (x:String) (t:Nat):Value:=.str (Str.ofString x) t
abbrev vi (x:Int) (t:Nat):Value:=.int x t
abbrev vr (x:Nat):Value:=.ref x
abbrev de (P:Params) (x:String) (t:Nat) (v:Value):DictEntry:={ hash:=PyData.keyHash P (Str.ofString x),key:=.str (Str.ofString x) t,val:=v }
def tp (i:Nat):Stmt:=PySem.Challenge.pw_lanescribe_k33_dumps_bent_and_mended.main.body.getD i (.Pass ⟨0,0,0,0⟩)
def meth (i j:Nat):Stmt:=match tp i with
  |.ClassDef _ _ _ body _ _ _ _ _ _ _=>body.getD j (.Pass ⟨0,0,0,0⟩)
  |_=>.Pass ⟨0,0,0,0⟩
def dA (s:Stmt):Arguments:=match s with
  |.FunctionDef _ a _ _ _ _ _ _ _ _=>a
  |_=>{ posonlyargs:=[],args:=[],vararg:=none,kwonlyargs:=[],kw_defaults:=[],kwarg:=none,defaults:=[] }
def dB (s:Stmt):List Stmt:=match s with
  |.FunctionDef _ _ b _ _ _ _ _ _ _=>b
  |_=>[]
def dS (s:Stmt):Scope:=match s with
  |.FunctionDef _ _ _ _ _ _ sc _ _ _=>sc
  |_=>{ kind:=.function,names:=[],isGenerator:=false,isCoroutine:=false }
abbrev TA (i:Nat):Arguments:=dA (tp i)
abbrev TB (i:Nat):List Stmt:=dB (tp i)
abbrev TS (i:Nat):Scope:=dS (tp i)
abbrev MA (i j:Nat):Arguments:=dA (meth i j)
abbrev MB (i j:Nat):List Stmt:=dB (meth i j)
abbrev MS (i j:Nat):Scope:=dS (meth i j)
def KK:Params→Frag:=fun P=>
  ((nat_lit 2,{ cls:=Value.none,data:=Data.dict #[] }):Addr×Obj)::
  ((nat_lit 3,{ cls:=Value.type "dict",data:=Data.dict #[de P "__name__" 165 (vs "law_lanescribe_k33_dumps_bent_and_mended" 344),de P "__doc__" 166 (Value.none),de P "__package__" 167 (Value.none),de P "__loader__" 168 (Value.builtin "__main__.__loader__#opaque"),de P "__spec__" 169 (Value.none),de P "__annotations__" 170 (vr 6),de P "__builtins__" 171 (vr 4),de P "__file__" 173 (vs "/claim/cut.py" 172),de P "__cached__" 174 (Value.none),de P "ScribeError" 218 (vr 32),de P "BadDump" 243 (vr 52),de P "MOST_LETTERS" 247 (vi 8 246),de P "is_name" 254 (vr 61),de P "place_behind" 265 (vr 68),de P "MOST_FIGURES" 269 (vi 30 268),de P "number_of" 278 (vr 75),de P "read_row" 286 (vr 82),de P "read_lost" 294 (vr 89),de P "read_event" 300 (vr 94),de P "goes_on" 309 (vr 101),de P "read_rows" 325 (vr 108),de P "read_dump" 334 (vr 115),de P "mended" 343 (vr 122),de P "_law_begin" 354 (vr 129),de P "_law_pick" 365 (vr 136),de P "_law_of" 373 (vr 143),de P "_law_far" 381 (vr 150),de P "_law_same" 387 (vr 155),de P "_law_word" 393 (vr 160),de P "_law_bound" 401 (vr 167),de P "_law_is_name" 407 (vr 172),de P "_law_number_in" 413 (vr 177),de P "_law_thing_row" 419 (vr 182),de P "_law_dump" 425 (vr 187),de P "_law_dump_told" 431 (vr 192),de P "_law_thing_in" 437 (vr 197),de P "_law_dump_read" 450 (vr 204),de P "_law_bent_dump" 467 (vr 211),de P "_law_ask_dump" 476 (vr 218),de P "law" 490 (vr 225)] 40 }):Addr×Obj)::
  ((nat_lit 15,{ cls:=Value.type "tuple",data:=Data.seq #[Value.type "ValueError"] }):Addr×Obj)::
  ((nat_lit 22,{ cls:=Value.type "tuple",data:=Data.seq #[vs "" 201,vs "scribeerror" 202] }):Addr×Obj)::
  ((nat_lit 23,{ cls:=Value.type "tuple",data:=Data.seq #[] }):Addr×Obj)::
  ((nat_lit 25,{ cls:=Value.type "tuple",data:=Data.seq #[vs "self" 206,vs "words" 207,vs "word" 208] }):Addr×Obj)::
  ((nat_lit 26,{ cls:=Value.type "tuple",data:=Data.seq #[] }):Addr×Obj)::
  ((nat_lit 28,{ cls:=Value.type "code",data:=Data.fields #[vs "__init__" 203,vs "ScribeError.__init__" 204,vs "/claim/cut.py" 205,vi 4 0,vi 3 0,vi 0 0,vi 0 0,vi 3 0,vr 23,Value.bool true,vi 181 0,vr 24,Value.none,vr 25,vr 26,vr 27,vi 209 0,vi 4 0,vs "/claim/cut.py" 210] }):Addr×Obj)::
  ((nat_lit 29,{ cls:=Value.type "function",data:=Data.func { name:=u "__init__",qualname:=u "ScribeError.__init__",params:=MA 1 0,body:=FuncBody.stmts (MB 1 0),scope:=MS 1 0,globals:=3,closure:=[],defaults:=vr 22,kwdefaults:=Value.none,pyModule:=vs "lanescribe.errors" 187,code:=vr 28 } }):Addr×Obj)::
  ((nat_lit 30,{ cls:=Value.type "tuple",data:=Data.seq #[vs "word" 212] }):Addr×Obj)::
  ((nat_lit 31,{ cls:=Value.type "dict",data:=Data.dict #[de P "__module__" 196 (vs "lanescribe.errors" 187),de P "__firstlineno__" 200 (vi 2 199),de P "__init__" 211 (vr 29),de P "__static_attributes__" 213 (vr 30),de P "__weakref__" 215 (vr 33),de P "__doc__" 216 (Value.none)] 3 }):Addr×Obj)::
  ((nat_lit 32,{ cls:=Value.type "type",data:=Data.cls { name:=u "ScribeError",bases:=[Value.type "ValueError"],mro:=[vr 32,Value.type "ValueError",Value.type "Exception",Value.type "BaseException",Value.type "object"],ns:=31,qualname:=u "ScribeError",subclasses:=[vr 52] },slots:=#[some (vr 15),none,some (vs "ScribeError" 189),some (vs "ScribeError" 197),some (Value.builtin "ValueError.__new__"),some (Value.bool true)] }):Addr×Obj)::
  ((nat_lit 33,{ cls:=Value.type "getset_descriptor",data:=Data.fields #[vs "__weakref__" 214,vr 32,Value.builtin "ExceptionGroup.__weakref__",Value.none] }):Addr×Obj)::
  ((nat_lit 36,{ cls:=Value.type "tuple",data:=Data.seq #[vr 32] }):Addr×Obj)::
  ((nat_lit 43,{ cls:=Value.type "tuple",data:=Data.seq #[] }):Addr×Obj)::
  ((nat_lit 45,{ cls:=Value.type "tuple",data:=Data.seq #[vs "self" 234,vs "row" 235] }):Addr×Obj)::
  ((nat_lit 46,{ cls:=Value.type "tuple",data:=Data.seq #[] }):Addr×Obj)::
  ((nat_lit 48,{ cls:=Value.type "code",data:=Data.fields #[vs "__init__" 231,vs "BadDump.__init__" 232,vs "/claim/cut.py" 233,vi 9 0,vi 2 0,vi 0 0,vi 0 0,vi 3 0,vr 43,Value.bool true,vi 181 0,vr 44,Value.none,vr 45,vr 46,vr 47,vi 236 0,vi 9 0,vs "/claim/cut.py" 237] }):Addr×Obj)::
  ((nat_lit 49,{ cls:=Value.type "function",data:=Data.func { name:=u "__init__",qualname:=u "BadDump.__init__",params:=MA 2 0,body:=FuncBody.stmts (MB 2 0),scope:=MS 2 0,globals:=3,closure:=[],defaults:=Value.none,kwdefaults:=Value.none,pyModule:=vs "lanescribe.errors" 187,code:=vr 48 } }):Addr×Obj)::
  ((nat_lit 50,{ cls:=Value.type "tuple",data:=Data.seq #[vs "row" 239] }):Addr×Obj)::
  ((nat_lit 51,{ cls:=Value.type "dict",data:=Data.dict #[de P "__module__" 226 (vs "lanescribe.errors" 187),de P "__firstlineno__" 230 (vi 7 229),de P "__init__" 238 (vr 49),de P "__static_attributes__" 240 (vr 50),de P "__doc__" 241 (Value.none)] 2 }):Addr×Obj)::
  ((nat_lit 52,{ cls:=Value.type "type",data:=Data.cls { name:=u "BadDump",bases:=[vr 32],mro:=[vr 52,vr 32,Value.type "ValueError",Value.type "Exception",Value.type "BaseException",Value.type "object"],ns:=51,qualname:=u "BadDump" },slots:=#[some (vr 36),none,some (vs "BadDump" 219),some (vs "BadDump" 227),some (Value.builtin "ValueError.__new__"),some (Value.bool true)] }):Addr×Obj)::
  ((nat_lit 55,{ cls:=Value.type "tuple",data:=Data.seq #[] }):Addr×Obj)::
  ((nat_lit 57,{ cls:=Value.type "tuple",data:=Data.seq #[vs "text" 251] }):Addr×Obj)::
  ((nat_lit 58,{ cls:=Value.type "tuple",data:=Data.seq #[] }):Addr×Obj)::
  ((nat_lit 60,{ cls:=Value.type "code",data:=Data.fields #[vs "is_name" 248,vs "is_name" 249,vs "/claim/cut.py" 250,vi 14 0,vi 1 0,vi 0 0,vi 0 0,vi 3 0,vr 55,Value.bool true,vi 181 0,vr 56,Value.none,vr 57,vr 58,vr 59,vi 252 0,vi 14 0,vs "/claim/cut.py" 253] }):Addr×Obj)::
  ((nat_lit 61,{ cls:=Value.type "function",data:=Data.func { name:=u "is_name",qualname:=u "is_name",params:=TA 5,body:=FuncBody.stmts (TB 5),scope:=TS 5,globals:=3,closure:=[],defaults:=Value.none,kwdefaults:=Value.none,pyModule:=vs "lanescribe.kinds" 244,code:=vr 60 } }):Addr×Obj)::
  ((nat_lit 62,{ cls:=Value.type "tuple",data:=Data.seq #[] }):Addr×Obj)::
  ((nat_lit 64,{ cls:=Value.type "tuple",data:=Data.seq #[vs "place" 260,vs "told" 261,vs "thing" 262] }):Addr×Obj)::
  ((nat_lit 65,{ cls:=Value.type "tuple",data:=Data.seq #[] }):Addr×Obj)::
  ((nat_lit 67,{ cls:=Value.type "code",data:=Data.fields #[vs "place_behind" 257,vs "place_behind" 258,vs "/claim/cut.py" 259,vi 17 0,vi 2 0,vi 0 0,vi 0 0,vi 3 0,vr 62,Value.bool true,vi 181 0,vr 63,Value.none,vr 64,vr 65,vr 66,vi 263 0,vi 17 0,vs "/claim/cut.py" 264] }):Addr×Obj)::
  ((nat_lit 68,{ cls:=Value.type "function",data:=Data.func { name:=u "place_behind",qualname:=u "place_behind",params:=TA 7,body:=FuncBody.stmts (TB 7),scope:=TS 7,globals:=3,closure:=[],defaults:=Value.none,kwdefaults:=Value.none,pyModule:=vs "lanescribe.lanes" 255,code:=vr 67 } }):Addr×Obj)::
  ((nat_lit 69,{ cls:=Value.type "tuple",data:=Data.seq #[] }):Addr×Obj)::
  ((nat_lit 71,{ cls:=Value.type "tuple",data:=Data.seq #[vs "word" 273,vs "figures" 274,vs "number" 275] }):Addr×Obj)::
  ((nat_lit 72,{ cls:=Value.type "tuple",data:=Data.seq #[] }):Addr×Obj)::
  ((nat_lit 74,{ cls:=Value.type "code",data:=Data.fields #[vs "number_of" 270,vs "number_of" 271,vs "/claim/cut.py" 272,vi 23 0,vi 1 0,vi 0 0,vi 0 0,vi 3 0,vr 69,Value.bool true,vi 181 0,vr 70,Value.none,vr 71,vr 72,vr 73,vi 276 0,vi 23 0,vs "/claim/cut.py" 277] }):Addr×Obj)::
  ((nat_lit 75,{ cls:=Value.type "function",data:=Data.func { name:=u "number_of",qualname:=u "number_of",params:=TA 10,body:=FuncBody.stmts (TB 10),scope:=TS 10,globals:=3,closure:=[],defaults:=Value.none,kwdefaults:=Value.none,pyModule:=vs "lanescribe.dumps" 266,code:=vr 74 } }):Addr×Obj)::
  ((nat_lit 76,{ cls:=Value.type "tuple",data:=Data.seq #[] }):Addr×Obj)::
  ((nat_lit 78,{ cls:=Value.type "tuple",data:=Data.seq #[vs "row" 282,vs "words" 283] }):Addr×Obj)::
  ((nat_lit 79,{ cls:=Value.type "tuple",data:=Data.seq #[] }):Addr×Obj)::
  ((nat_lit 81,{ cls:=Value.type "code",data:=Data.fields #[vs "read_row" 279,vs "read_row" 280,vs "/claim/cut.py" 281,vi 29 0,vi 1 0,vi 0 0,vi 0 0,vi 3 0,vr 76,Value.bool true,vi 181 0,vr 77,Value.none,vr 78,vr 79,vr 80,vi 284 0,vi 29 0,vs "/claim/cut.py" 285] }):Addr×Obj)::
  ((nat_lit 82,{ cls:=Value.type "function",data:=Data.func { name:=u "read_row",qualname:=u "read_row",params:=TA 11,body:=FuncBody.stmts (TB 11),scope:=TS 11,globals:=3,closure:=[],defaults:=Value.none,kwdefaults:=Value.none,pyModule:=vs "lanescribe.dumps" 266,code:=vr 81 } }):Addr×Obj)::
  ((nat_lit 83,{ cls:=Value.type "tuple",data:=Data.seq #[] }):Addr×Obj)::
  ((nat_lit 85,{ cls:=Value.type "tuple",data:=Data.seq #[vs "words" 290,vs "many" 291] }):Addr×Obj)::
  ((nat_lit 86,{ cls:=Value.type "tuple",data:=Data.seq #[] }):Addr×Obj)::
  ((nat_lit 88,{ cls:=Value.type "code",data:=Data.fields #[vs "read_lost" 287,vs "read_lost" 288,vs "/claim/cut.py" 289,vi 34 0,vi 1 0,vi 0 0,vi 0 0,vi 3 0,vr 83,Value.bool true,vi 181 0,vr 84,Value.none,vr 85,vr 86,vr 87,vi 292 0,vi 34 0,vs "/claim/cut.py" 293] }):Addr×Obj)::
  ((nat_lit 89,{ cls:=Value.type "function",data:=Data.func { name:=u "read_lost",qualname:=u "read_lost",params:=TA 12,body:=FuncBody.stmts (TB 12),scope:=TS 12,globals:=3,closure:=[],defaults:=Value.none,kwdefaults:=Value.none,pyModule:=vs "lanescribe.dumps" 266,code:=vr 88 } }):Addr×Obj)::
  ((nat_lit 90,{ cls:=Value.type "tuple",data:=Data.seq #[] }):Addr×Obj)::
  ((nat_lit 93,{ cls:=Value.type "code",data:=Data.fields #[vs "read_event" 295,vs "read_event" 296,vs "/claim/cut.py" 297,vi 37 0,vi 1 0,vi 0 0,vi 0 0,vi 3 0,vr 90,Value.bool true,vi 181 0,vr 91,Value.none,Value.none,Value.none,vr 92,vi 298 0,vi 37 0,vs "/claim/cut.py" 299] }):Addr×Obj)::
  ((nat_lit 94,{ cls:=Value.type "function",data:=Data.func { name:=u "read_event",qualname:=u "read_event",params:=TA 13,body:=FuncBody.stmts (TB 13),scope:=TS 13,globals:=3,closure:=[],defaults:=Value.none,kwdefaults:=Value.none,pyModule:=vs "lanescribe.dumps" 266,code:=vr 93 } }):Addr×Obj)::
  ((nat_lit 95,{ cls:=Value.type "tuple",data:=Data.seq #[] }):Addr×Obj)::
  ((nat_lit 97,{ cls:=Value.type "tuple",data:=Data.seq #[vs "thing" 304,vs "place" 305,vs "time" 306] }):Addr×Obj)::
  ((nat_lit 98,{ cls:=Value.type "tuple",data:=Data.seq #[] }):Addr×Obj)::
  ((nat_lit 100,{ cls:=Value.type "code",data:=Data.fields #[vs "goes_on" 301,vs "goes_on" 302,vs "/claim/cut.py" 303,vi 44 0,vi 3 0,vi 0 0,vi 0 0,vi 3 0,vr 95,Value.bool true,vi 181 0,vr 96,Value.none,vr 97,vr 98,vr 99,vi 307 0,vi 44 0,vs "/claim/cut.py" 308] }):Addr×Obj)::
  ((nat_lit 101,{ cls:=Value.type "function",data:=Data.func { name:=u "goes_on",qualname:=u "goes_on",params:=TA 14,body:=FuncBody.stmts (TB 14),scope:=TS 14,globals:=3,closure:=[],defaults:=Value.none,kwdefaults:=Value.none,pyModule:=vs "lanescribe.dumps" 266,code:=vr 100 } }):Addr×Obj)::
  ((nat_lit 102,{ cls:=Value.type "tuple",data:=Data.seq #[] }):Addr×Obj)::
  ((nat_lit 104,{ cls:=Value.type "tuple",data:=Data.seq #[vs "text" 313,vs "rows" 314,vs "rest" 315,vs "told" 316,vs "place" 317,vs "time" 318,vs "number" 319,vs "row" 320,vs "thing" 321,vs "wrong" 322] }):Addr×Obj)::
  ((nat_lit 105,{ cls:=Value.type "tuple",data:=Data.seq #[] }):Addr×Obj)::
  ((nat_lit 107,{ cls:=Value.type "code",data:=Data.fields #[vs "read_rows" 310,vs "read_rows" 311,vs "/claim/cut.py" 312,vi 48 0,vi 1 0,vi 0 0,vi 0 0,vi 3 0,vr 102,Value.bool true,vi 181 0,vr 103,Value.none,vr 104,vr 105,vr 106,vi 323 0,vi 48 0,vs "/claim/cut.py" 324] }):Addr×Obj)::
  ((nat_lit 108,{ cls:=Value.type "function",data:=Data.func { name:=u "read_rows",qualname:=u "read_rows",params:=TA 15,body:=FuncBody.stmts (TB 15),scope:=TS 15,globals:=3,closure:=[],defaults:=Value.none,kwdefaults:=Value.none,pyModule:=vs "lanescribe.dumps" 266,code:=vr 107 } }):Addr×Obj)::
  ((nat_lit 109,{ cls:=Value.type "tuple",data:=Data.seq #[] }):Addr×Obj)::
  ((nat_lit 111,{ cls:=Value.type "tuple",data:=Data.seq #[vs "text" 329,vs "told" 330,vs "wrong" 331] }):Addr×Obj)::
  ((nat_lit 112,{ cls:=Value.type "tuple",data:=Data.seq #[] }):Addr×Obj)::
  ((nat_lit 114,{ cls:=Value.type "code",data:=Data.fields #[vs "read_dump" 326,vs "read_dump" 327,vs "/claim/cut.py" 328,vi 63 0,vi 1 0,vi 0 0,vi 0 0,vi 3 0,vr 109,Value.bool true,vi 181 0,vr 110,Value.none,vr 111,vr 112,vr 113,vi 332 0,vi 63 0,vs "/claim/cut.py" 333] }):Addr×Obj)::
  ((nat_lit 115,{ cls:=Value.type "function",data:=Data.func { name:=u "read_dump",qualname:=u "read_dump",params:=TA 16,body:=FuncBody.stmts (TB 16),scope:=TS 16,globals:=3,closure:=[],defaults:=Value.none,kwdefaults:=Value.none,pyModule:=vs "lanescribe.dumps" 266,code:=vr 114 } }):Addr×Obj)::
  ((nat_lit 116,{ cls:=Value.type "tuple",data:=Data.seq #[] }):Addr×Obj)::
  ((nat_lit 118,{ cls:=Value.type "tuple",data:=Data.seq #[vs "text" 338,vs "told" 339,vs "wrong" 340] }):Addr×Obj)::
  ((nat_lit 119,{ cls:=Value.type "tuple",data:=Data.seq #[] }):Addr×Obj)::
  ((nat_lit 121,{ cls:=Value.type "code",data:=Data.fields #[vs "mended" 335,vs "mended" 336,vs "/claim/cut.py" 337,vi 68 0,vi 1 0,vi 0 0,vi 0 0,vi 3 0,vr 116,Value.bool true,vi 181 0,vr 117,Value.none,vr 118,vr 119,vr 120,vi 341 0,vi 68 0,vs "/claim/cut.py" 342] }):Addr×Obj)::
  ((nat_lit 122,{ cls:=Value.type "function",data:=Data.func { name:=u "mended",qualname:=u "mended",params:=TA 17,body:=FuncBody.stmts (TB 17),scope:=TS 17,globals:=3,closure:=[],defaults:=Value.none,kwdefaults:=Value.none,pyModule:=vs "lanescribe.dumps" 266,code:=vr 121 } }):Addr×Obj)::
  ((nat_lit 123,{ cls:=Value.type "tuple",data:=Data.seq #[] }):Addr×Obj)::
  ((nat_lit 125,{ cls:=Value.type "tuple",data:=Data.seq #[vs "_law_script" 349,vs "_law_seed" 350,vs "_law_cell" 351] }):Addr×Obj)::
  ((nat_lit 126,{ cls:=Value.type "tuple",data:=Data.seq #[] }):Addr×Obj)::
  ((nat_lit 128,{ cls:=Value.type "code",data:=Data.fields #[vs "_law_begin" 346,vs "_law_begin" 347,vs "/claim/cut.py" 348,vi 72 0,vi 1 0,vi 0 0,vi 0 0,vi 3 0,vr 123,Value.bool true,vi 181 0,vr 124,Value.none,vr 125,vr 126,vr 127,vi 352 0,vi 72 0,vs "/claim/cut.py" 353] }):Addr×Obj)::
  ((nat_lit 129,{ cls:=Value.type "function",data:=Data.func { name:=u "_law_begin",qualname:=u "_law_begin",params:=TA 19,body:=FuncBody.stmts (TB 19),scope:=TS 19,globals:=3,closure:=[],defaults:=Value.none,kwdefaults:=Value.none,pyModule:=vs "law_lanescribe_k33_dumps_bent_and_mended" 344,code:=vr 128 } }):Addr×Obj)::
  ((nat_lit 130,{ cls:=Value.type "tuple",data:=Data.seq #[] }):Addr×Obj)::
  ((nat_lit 132,{ cls:=Value.type "tuple",data:=Data.seq #[vs "_law_d" 358,vs "_law_many" 359,vs "_law_cell" 360,vs "_law_digit" 361,vs "_law_one" 362] }):Addr×Obj)::
  ((nat_lit 133,{ cls:=Value.type "tuple",data:=Data.seq #[] }):Addr×Obj)::
  ((nat_lit 135,{ cls:=Value.type "code",data:=Data.fields #[vs "_law_pick" 355,vs "_law_pick" 356,vs "/claim/cut.py" 357,vi 77 0,vi 2 0,vi 0 0,vi 0 0,vi 3 0,vr 130,Value.bool true,vi 181 0,vr 131,Value.none,vr 132,vr 133,vr 134,vi 363 0,vi 77 0,vs "/claim/cut.py" 364] }):Addr×Obj)::
  ((nat_lit 136,{ cls:=Value.type "function",data:=Data.func { name:=u "_law_pick",qualname:=u "_law_pick",params:=TA 20,body:=FuncBody.stmts (TB 20),scope:=TS 20,globals:=3,closure:=[],defaults:=Value.none,kwdefaults:=Value.none,pyModule:=vs "law_lanescribe_k33_dumps_bent_and_mended" 344,code:=vr 135 } }):Addr×Obj)::
  ((nat_lit 137,{ cls:=Value.type "tuple",data:=Data.seq #[] }):Addr×Obj)::
  ((nat_lit 139,{ cls:=Value.type "tuple",data:=Data.seq #[vs "_law_d" 369,vs "_law_things" 370] }):Addr×Obj)::
  ((nat_lit 140,{ cls:=Value.type "tuple",data:=Data.seq #[] }):Addr×Obj)::
  ((nat_lit 142,{ cls:=Value.type "code",data:=Data.fields #[vs "_law_of" 366,vs "_law_of" 367,vs "/claim/cut.py" 368,vi 92 0,vi 2 0,vi 0 0,vi 0 0,vi 3 0,vr 137,Value.bool true,vi 181 0,vr 138,Value.none,vr 139,vr 140,vr 141,vi 371 0,vi 92 0,vs "/claim/cut.py" 372] }):Addr×Obj)::
  ((nat_lit 143,{ cls:=Value.type "function",data:=Data.func { name:=u "_law_of",qualname:=u "_law_of",params:=TA 21,body:=FuncBody.stmts (TB 21),scope:=TS 21,globals:=3,closure:=[],defaults:=Value.none,kwdefaults:=Value.none,pyModule:=vs "law_lanescribe_k33_dumps_bent_and_mended" 344,code:=vr 142 } }):Addr×Obj)::
  ((nat_lit 144,{ cls:=Value.type "tuple",data:=Data.seq #[] }):Addr×Obj)::
  ((nat_lit 146,{ cls:=Value.type "tuple",data:=Data.seq #[vs "_law_d" 377,vs "_law_number" 378] }):Addr×Obj)::
  ((nat_lit 147,{ cls:=Value.type "tuple",data:=Data.seq #[] }):Addr×Obj)::
  ((nat_lit 149,{ cls:=Value.type "code",data:=Data.fields #[vs "_law_far" 374,vs "_law_far" 375,vs "/claim/cut.py" 376,vi 94 0,vi 1 0,vi 0 0,vi 0 0,vi 3 0,vr 144,Value.bool true,vi 181 0,vr 145,Value.none,vr 146,vr 147,vr 148,vi 379 0,vi 94 0,vs "/claim/cut.py" 380] }):Addr×Obj)::
  ((nat_lit 150,{ cls:=Value.type "function",data:=Data.func { name:=u "_law_far",qualname:=u "_law_far",params:=TA 22,body:=FuncBody.stmts (TB 22),scope:=TS 22,globals:=3,closure:=[],defaults:=Value.none,kwdefaults:=Value.none,pyModule:=vs "law_lanescribe_k33_dumps_bent_and_mended" 344,code:=vr 149 } }):Addr×Obj)::
  ((nat_lit 151,{ cls:=Value.type "tuple",data:=Data.seq #[] }):Addr×Obj)::
  ((nat_lit 154,{ cls:=Value.type "code",data:=Data.fields #[vs "_law_same" 382,vs "_law_same" 383,vs "/claim/cut.py" 384,vi 97 0,vi 2 0,vi 0 0,vi 0 0,vi 3 0,vr 151,Value.bool true,vi 181 0,vr 152,Value.none,Value.none,Value.none,vr 153,vi 385 0,vi 97 0,vs "/claim/cut.py" 386] }):Addr×Obj)::
  ((nat_lit 155,{ cls:=Value.type "function",data:=Data.func { name:=u "_law_same",qualname:=u "_law_same",params:=TA 23,body:=FuncBody.stmts (TB 23),scope:=TS 23,globals:=3,closure:=[],defaults:=Value.none,kwdefaults:=Value.none,pyModule:=vs "law_lanescribe_k33_dumps_bent_and_mended" 344,code:=vr 154 } }):Addr×Obj)::
  ((nat_lit 156,{ cls:=Value.type "tuple",data:=Data.seq #[] }):Addr×Obj)::
  ((nat_lit 159,{ cls:=Value.type "code",data:=Data.fields #[vs "_law_word" 388,vs "_law_word" 389,vs "/claim/cut.py" 390,vi 107 0,vi 1 0,vi 0 0,vi 0 0,vi 3 0,vr 156,Value.bool true,vi 181 0,vr 157,Value.none,Value.none,Value.none,vr 158,vi 391 0,vi 107 0,vs "/claim/cut.py" 392] }):Addr×Obj)::
  ((nat_lit 160,{ cls:=Value.type "function",data:=Data.func { name:=u "_law_word",qualname:=u "_law_word",params:=TA 24,body:=FuncBody.stmts (TB 24),scope:=TS 24,globals:=3,closure:=[],defaults:=Value.none,kwdefaults:=Value.none,pyModule:=vs "law_lanescribe_k33_dumps_bent_and_mended" 344,code:=vr 159 } }):Addr×Obj)::
  ((nat_lit 161,{ cls:=Value.type "tuple",data:=Data.seq #[] }):Addr×Obj)::
  ((nat_lit 163,{ cls:=Value.type "tuple",data:=Data.seq #[vs "_law_d" 397,vs "_law_near" 398] }):Addr×Obj)::
  ((nat_lit 164,{ cls:=Value.type "tuple",data:=Data.seq #[] }):Addr×Obj)::
  ((nat_lit 166,{ cls:=Value.type "code",data:=Data.fields #[vs "_law_bound" 394,vs "_law_bound" 395,vs "/claim/cut.py" 396,vi 113 0,vi 1 0,vi 0 0,vi 0 0,vi 3 0,vr 161,Value.bool true,vi 181 0,vr 162,Value.none,vr 163,vr 164,vr 165,vi 399 0,vi 113 0,vs "/claim/cut.py" 400] }):Addr×Obj)::
  ((nat_lit 167,{ cls:=Value.type "function",data:=Data.func { name:=u "_law_bound",qualname:=u "_law_bound",params:=TA 25,body:=FuncBody.stmts (TB 25),scope:=TS 25,globals:=3,closure:=[],defaults:=Value.none,kwdefaults:=Value.none,pyModule:=vs "law_lanescribe_k33_dumps_bent_and_mended" 344,code:=vr 166 } }):Addr×Obj)::
  ((nat_lit 168,{ cls:=Value.type "tuple",data:=Data.seq #[] }):Addr×Obj)::
  ((nat_lit 171,{ cls:=Value.type "code",data:=Data.fields #[vs "_law_is_name" 402,vs "_law_is_name" 403,vs "/claim/cut.py" 404,vi 116 0,vi 1 0,vi 0 0,vi 0 0,vi 3 0,vr 168,Value.bool true,vi 181 0,vr 169,Value.none,Value.none,Value.none,vr 170,vi 405 0,vi 116 0,vs "/claim/cut.py" 406] }):Addr×Obj)::
  ((nat_lit 172,{ cls:=Value.type "function",data:=Data.func { name:=u "_law_is_name",qualname:=u "_law_is_name",params:=TA 26,body:=FuncBody.stmts (TB 26),scope:=TS 26,globals:=3,closure:=[],defaults:=Value.none,kwdefaults:=Value.none,pyModule:=vs "law_lanescribe_k33_dumps_bent_and_mended" 344,code:=vr 171 } }):Addr×Obj)::
  ((nat_lit 173,{ cls:=Value.type "tuple",data:=Data.seq #[] }):Addr×Obj)::
  ((nat_lit 176,{ cls:=Value.type "code",data:=Data.fields #[vs "_law_number_in" 408,vs "_law_number_in" 409,vs "/claim/cut.py" 410,vi 118 0,vi 2 0,vi 0 0,vi 0 0,vi 3 0,vr 173,Value.bool true,vi 181 0,vr 174,Value.none,Value.none,Value.none,vr 175,vi 411 0,vi 118 0,vs "/claim/cut.py" 412] }):Addr×Obj)::
  ((nat_lit 177,{ cls:=Value.type "function",data:=Data.func { name:=u "_law_number_in",qualname:=u "_law_number_in",params:=TA 27,body:=FuncBody.stmts (TB 27),scope:=TS 27,globals:=3,closure:=[],defaults:=Value.none,kwdefaults:=Value.none,pyModule:=vs "law_lanescribe_k33_dumps_bent_and_mended" 344,code:=vr 176 } }):Addr×Obj)::
  ((nat_lit 178,{ cls:=Value.type "tuple",data:=Data.seq #[] }):Addr×Obj)::
  ((nat_lit 181,{ cls:=Value.type "code",data:=Data.fields #[vs "_law_thing_row" 414,vs "_law_thing_row" 415,vs "/claim/cut.py" 416,vi 123 0,vi 1 0,vi 0 0,vi 0 0,vi 3 0,vr 178,Value.bool true,vi 181 0,vr 179,Value.none,Value.none,Value.none,vr 180,vi 417 0,vi 123 0,vs "/claim/cut.py" 418] }):Addr×Obj)::
  ((nat_lit 182,{ cls:=Value.type "function",data:=Data.func { name:=u "_law_thing_row",qualname:=u "_law_thing_row",params:=TA 28,body:=FuncBody.stmts (TB 28),scope:=TS 28,globals:=3,closure:=[],defaults:=Value.none,kwdefaults:=Value.none,pyModule:=vs "law_lanescribe_k33_dumps_bent_and_mended" 344,code:=vr 181 } }):Addr×Obj)::
  ((nat_lit 183,{ cls:=Value.type "tuple",data:=Data.seq #[] }):Addr×Obj)::
  ((nat_lit 186,{ cls:=Value.type "code",data:=Data.fields #[vs "_law_dump" 420,vs "_law_dump" 421,vs "/claim/cut.py" 422,vi 127 0,vi 1 0,vi 0 0,vi 0 0,vi 3 0,vr 183,Value.bool true,vi 181 0,vr 184,Value.none,Value.none,Value.none,vr 185,vi 423 0,vi 127 0,vs "/claim/cut.py" 424] }):Addr×Obj)::
  ((nat_lit 187,{ cls:=Value.type "function",data:=Data.func { name:=u "_law_dump",qualname:=u "_law_dump",params:=TA 29,body:=FuncBody.stmts (TB 29),scope:=TS 29,globals:=3,closure:=[],defaults:=Value.none,kwdefaults:=Value.none,pyModule:=vs "law_lanescribe_k33_dumps_bent_and_mended" 344,code:=vr 186 } }):Addr×Obj)::
  ((nat_lit 188,{ cls:=Value.type "tuple",data:=Data.seq #[] }):Addr×Obj)::
  ((nat_lit 191,{ cls:=Value.type "code",data:=Data.fields #[vs "_law_dump_told" 426,vs "_law_dump_told" 427,vs "/claim/cut.py" 428,vi 129 0,vi 1 0,vi 0 0,vi 0 0,vi 3 0,vr 188,Value.bool true,vi 181 0,vr 189,Value.none,Value.none,Value.none,vr 190,vi 429 0,vi 129 0,vs "/claim/cut.py" 430] }):Addr×Obj)::
  ((nat_lit 192,{ cls:=Value.type "function",data:=Data.func { name:=u "_law_dump_told",qualname:=u "_law_dump_told",params:=TA 30,body:=FuncBody.stmts (TB 30),scope:=TS 30,globals:=3,closure:=[],defaults:=Value.none,kwdefaults:=Value.none,pyModule:=vs "law_lanescribe_k33_dumps_bent_and_mended" 344,code:=vr 191 } }):Addr×Obj)::
  ((nat_lit 193,{ cls:=Value.type "tuple",data:=Data.seq #[] }):Addr×Obj)::
  ((nat_lit 196,{ cls:=Value.type "code",data:=Data.fields #[vs "_law_thing_in" 432,vs "_law_thing_in" 433,vs "/claim/cut.py" 434,vi 143 0,vi 1 0,vi 0 0,vi 0 0,vi 3 0,vr 193,Value.bool true,vi 181 0,vr 194,Value.none,Value.none,Value.none,vr 195,vi 435 0,vi 143 0,vs "/claim/cut.py" 436] }):Addr×Obj)::
  ((nat_lit 197,{ cls:=Value.type "function",data:=Data.func { name:=u "_law_thing_in",qualname:=u "_law_thing_in",params:=TA 31,body:=FuncBody.stmts (TB 31),scope:=TS 31,globals:=3,closure:=[],defaults:=Value.none,kwdefaults:=Value.none,pyModule:=vs "law_lanescribe_k33_dumps_bent_and_mended" 344,code:=vr 196 } }):Addr×Obj)::
  ((nat_lit 198,{ cls:=Value.type "tuple",data:=Data.seq #[] }):Addr×Obj)::
  ((nat_lit 200,{ cls:=Value.type "tuple",data:=Data.seq #[vs "_law_text" 441,vs "_law_rows" 442,vs "_law_found" 443,vs "_law_place" 444,vs "_law_time" 445,vs "_law_at" 446,vs "_law_thing" 447] }):Addr×Obj)::
  ((nat_lit 201,{ cls:=Value.type "tuple",data:=Data.seq #[] }):Addr×Obj)::
  ((nat_lit 203,{ cls:=Value.type "code",data:=Data.fields #[vs "_law_dump_read" 438,vs "_law_dump_read" 439,vs "/claim/cut.py" 440,vi 154 0,vi 1 0,vi 0 0,vi 0 0,vi 3 0,vr 198,Value.bool true,vi 181 0,vr 199,Value.none,vr 200,vr 201,vr 202,vi 448 0,vi 154 0,vs "/claim/cut.py" 449] }):Addr×Obj)::
  ((nat_lit 204,{ cls:=Value.type "function",data:=Data.func { name:=u "_law_dump_read",qualname:=u "_law_dump_read",params:=TA 32,body:=FuncBody.stmts (TB 32),scope:=TS 32,globals:=3,closure:=[],defaults:=Value.none,kwdefaults:=Value.none,pyModule:=vs "law_lanescribe_k33_dumps_bent_and_mended" 344,code:=vr 203 } }):Addr×Obj)::
  ((nat_lit 205,{ cls:=Value.type "tuple",data:=Data.seq #[] }):Addr×Obj)::
  ((nat_lit 207,{ cls:=Value.type "tuple",data:=Data.seq #[vs "_law_d" 454,vs "_law_text" 455,vs "_law_rows" 456,vs "_law_at" 457,vs "_law_to" 458,vs "_law_words" 459,vs "_law_one" 460,vs "_law_bits" 461,vs "_law_way" 462,vs "_law_more" 463,vs "_law_spot" 464] }):Addr×Obj)::
  ((nat_lit 208,{ cls:=Value.type "tuple",data:=Data.seq #[] }):Addr×Obj)::
  ((nat_lit 210,{ cls:=Value.type "code",data:=Data.fields #[vs "_law_bent_dump" 451,vs "_law_bent_dump" 452,vs "/claim/cut.py" 453,vi 171 0,vi 2 0,vi 0 0,vi 0 0,vi 3 0,vr 205,Value.bool true,vi 181 0,vr 206,Value.none,vr 207,vr 208,vr 209,vi 465 0,vi 171 0,vs "/claim/cut.py" 466] }):Addr×Obj)::
  ((nat_lit 211,{ cls:=Value.type "function",data:=Data.func { name:=u "_law_bent_dump",qualname:=u "_law_bent_dump",params:=TA 33,body:=FuncBody.stmts (TB 33),scope:=TS 33,globals:=3,closure:=[],defaults:=Value.none,kwdefaults:=Value.none,pyModule:=vs "law_lanescribe_k33_dumps_bent_and_mended" 344,code:=vr 210 } }):Addr×Obj)::
  ((nat_lit 212,{ cls:=Value.type "tuple",data:=Data.seq #[] }):Addr×Obj)::
  ((nat_lit 214,{ cls:=Value.type "tuple",data:=Data.seq #[vs "_law_text" 471,vs "_law_told" 472,vs "e" 473] }):Addr×Obj)::
  ((nat_lit 215,{ cls:=Value.type "tuple",data:=Data.seq #[] }):Addr×Obj)::
  ((nat_lit 217,{ cls:=Value.type "code",data:=Data.fields #[vs "_law_ask_dump" 468,vs "_law_ask_dump" 469,vs "/claim/cut.py" 470,vi 194 0,vi 1 0,vi 0 0,vi 0 0,vi 3 0,vr 212,Value.bool true,vi 181 0,vr 213,Value.none,vr 214,vr 215,vr 216,vi 474 0,vi 194 0,vs "/claim/cut.py" 475] }):Addr×Obj)::
  ((nat_lit 218,{ cls:=Value.type "function",data:=Data.func { name:=u "_law_ask_dump",qualname:=u "_law_ask_dump",params:=TA 34,body:=FuncBody.stmts (TB 34),scope:=TS 34,globals:=3,closure:=[],defaults:=Value.none,kwdefaults:=Value.none,pyModule:=vs "law_lanescribe_k33_dumps_bent_and_mended" 344,code:=vr 217 } }):Addr×Obj)::
  ((nat_lit 219,{ cls:=Value.type "tuple",data:=Data.seq #[] }):Addr×Obj)::
  ((nat_lit 221,{ cls:=Value.type "tuple",data:=Data.seq #[vs "_law_script" 480,vs "_law_d" 481,vs "_law_whole" 482,vs "_law_turn" 483,vs "_law_text" 484,vs "_law_step" 485,vs "_law_found" 486,vs "_law_wrong" 487] }):Addr×Obj)::
  ((nat_lit 222,{ cls:=Value.type "tuple",data:=Data.seq #[] }):Addr×Obj)::
  ((nat_lit 224,{ cls:=Value.type "code",data:=Data.fields #[vs "law" 477,vs "law" 478,vs "/claim/cut.py" 479,vi 200 0,vi 1 0,vi 0 0,vi 0 0,vi 3 0,vr 219,Value.bool true,vi 181 0,vr 220,Value.none,vr 221,vr 222,vr 223,vi 488 0,vi 200 0,vs "/claim/cut.py" 489] }):Addr×Obj)::
  ((nat_lit 225,{ cls:=Value.type "function",data:=Data.func { name:=u "law",qualname:=u "law",params:=TA 35,body:=FuncBody.stmts (TB 35),scope:=TS 35,globals:=3,closure:=[],defaults:=Value.none,kwdefaults:=Value.none,pyModule:=vs "law_lanescribe_k33_dumps_bent_and_mended" 344,code:=vr 224 } }):Addr×Obj)::[]
def asK:List Addr:=[2,3,15,22,23,25,26,28,29,30,31,32,33,36,43,45,46,48,49,50,51,52,55,57,58,60,61,62,64,65,67,68,69,71,72,74,75,76,78,79,81,82,83,85,86,88,89,90,93,94,95,97,98,100,101,102,104,105,107,108,109,111,112,114,115,116,118,119,121,122,123,125,126,128,129,130,132,133,135,136,137,139,140,142,143,144,146,147,149,150,151,154,155,156,159,160,161,163,164,166,167,168,171,172,173,176,177,178,181,182,183,186,187,188,191,192,193,196,197,198,200,201,203,204,205,207,208,210,211,212,214,215,217,218,219,221,222,224,225]
theorem eK:∀ P,asK=(KK P).map (·.1):=fun P=>by kernel_rfl
def vw:Program:={ PySem.Challenge.pw_lanescribe_k33_dumps_bent_and_mended with main:={ PySem.Challenge.pw_lanescribe_k33_dumps_bent_and_mended.main with body:=[tp 1,tp 2,tp 4,tp 5,tp 7,tp 9,tp 10,tp 11,tp 12,tp 13,tp 14,tp 15,tp 16,tp 17,tp 19,tp 20,tp 21,tp 22,tp 23,tp 24,tp 25,tp 26,tp 27,tp 28,tp 29,tp 30,tp 31,tp 32,tp 33,tp 34,tp 35] } }
def ls:List Str:=[u "ScribeError"]
def lv:List (Str×WData):=[]
abbrev Xt:Shared→Bool:=fun s=>xlAt vw lv s && recOk (RowW.records (OpenRow.toRowW PySem.Challenge.rw_lanescribe_k33_dumps_bent_and_mended.row)) s
abbrev hk:Hook:=kHook KK asK eK
theorem said:PySem.Challenge.rw_lanescribe_k33_dumps_bent_and_mended.wellSaid=true:=by kernel_rfl
theorem openP:opening (OpenRow.toRowW PySem.Challenge.rw_lanescribe_k33_dumps_bent_and_mended.row).prog=plainProg (OpenRow.toRowW PySem.Challenge.rw_lanescribe_k33_dumps_bent_and_mended.row).prog.main.scope.names:=by kernel_rfl
theorem by_parts {p:Program} {w:World} {N L:Nat} {s0 s':Shared} {t':Thread} {m0:Nat} {ann:Option Value} {β:Type} {F:Shared→β} {X:β} (h1:(s0.heap.isNs mainGlobals && s0.gens.size == 0)=true) (h2:s0.heap.objs.size=m0) (h3:s0.heap.nsMap mainGlobals "__annotations__" = ann)
    (chain:∀ r,topRun treeTable p w m0 ann L s' t'=some r→topRun treeTable p w m0 ann N s0 (topStub p)=some r)
    (last:((topRun treeTable p w m0 ann L s' t').bind fun s₁=>match staticsOk (importedModules p.main.body) s0.heap s₁.heap && namesBound p s₁.heap && gensDone s₁ && laidKept s0.heap s₁.heap with
      |true=>some s₁
      |false=>none).map F=some X):(topFrom treeTable p w N s0).map F=some X:=by
  cases hA:topRun treeTable p w m0 ann L s' t' with
  |none=>rw [hA] at last;cases last
  | some r=>
    have e:=chain r hA
    unfold topFrom
    rw [h1,h2,h3,e]
    rw [hA] at last
    exact last
abbrev pp:Program:=(OpenRow.toRowW PySem.Challenge.rw_lanescribe_k33_dumps_bent_and_mended.row).prog
def env:Env:={ scope:=pp.main.scope,locals:=mainNs,globals:=mainNs,cells:=[],code:=vr 13,frame:=some 14 }
abbrev cd:Code:=.body (behindTheImports pp) env
abbrev fp:Pos:={ line:=0,col:=0,endLine:=0,endCol:=0 }
abbrev an:Option Value:=some (vr 6)
abbrev S_0 (w:World) (os:OsState):Shared:=⟨boot_heap w.params,Array.mk [],boot_drawn,boot_toks,os⟩
def o0 (P:Params):Obj:={ cls:=Value.type "tuple",data:=Data.seq #[] }
def o1 (P:Params):Obj:={ cls:=Value.none,data:=Data.fields #[] }
def o2 (P:Params):Obj:={ cls:=Value.type "code",data:=Data.fields #[vs "<module>" 182,vs "<module>" 183,vs "/claim/cut.py" 184,vi 1 0,vi 0 0,vi 0 0,vi 0 0,vi 0 0,vr 11,Value.bool false,vi 181 0,vr 12,Value.none,Value.none,Value.none,Value.none,vi 185 0,vi 1 0,vs "/claim/cut.py" 186] }
def o3 (P:Params):Obj:={ cls:=Value.type "frame",slots:=#[some (vr 13),some (vr 3),some (vr 3),none,some (vs "__main__" 164),none,some (vr 0)] }
def h_a (P:Params):Heap:=⟨⟨boot_o_0 P::boot_o_1 P::boot_o_2 P::boot_o_3 P::boot_o_4 P::boot_o_5 P::boot_o_6 P::boot_o_7 P::boot_o_8 P::boot_o_9 P::boot_o_10 P::o0 P::o1 P::o2 P::o3 P::[]⟩,{ }⟩
abbrev S_a (w:World) (os:OsState):Shared:=⟨h_a w.params,Array.mk [],{ },187,os⟩
abbrev p_a:Pos:={ line:=0,col:=0,endLine:=0,endCol:=0 }
def h_b (P:Params):Heap:=⟨⟨boot_o_0 P::boot_o_1 P::boot_o_2 P::boot_o_3 P::boot_o_4 P::boot_o_5 P::boot_o_6 P::boot_o_7 P::boot_o_8 P::boot_o_9 P::boot_o_10 P::o0 P::o1 P::o2 P::o3 P::[]⟩,{ }⟩
abbrev S_b (w:World) (os:OsState):Shared:=⟨h_b w.params,Array.mk [],{ },187,os⟩
abbrev p_b:Pos:={ line:=0,col:=0,endLine:=0,endCol:=0 }
theorem r_a (w:World) (os:OsState):topGo treeTable pp w 11 an 12 (S_0 w os) (topStub pp)=some (S_a w os,⟨denote treeTable cd,cd,p_a,[topFrame fp]⟩):=by kernel_rfl
theorem r_b (w:World) (os:OsState):segRun treeTable pp w 11 an 1 1 (S_a w os) (blockOf (behindTheImports pp) env cd p_a [topFrame fp])=some (.next,S_b w os,cd,p_b):=by kernel_rfl
abbrev l_z:List Stmt:=(behindTheImports pp).drop 0
theorem all_l:behindTheImports pp=l_z:=by kernel_rfl
theorem last (w:World) (os:OsState):((topRun treeTable pp w 11 an 1842 (S_b w os) (restOf l_z env cd p_b [topFrame fp])).bind fun s₁=>match staticsOk (importedModules pp.main.body) (S_0 w os).heap s₁.heap && namesBound pp s₁.heap && gensDone s₁ && laidKept (S_0 w os).heap s₁.heap with
      |true=>some s₁
      |false=>none).map (fun s=>(openSeen vw ls (importedModules pp.main.body) Xt true s,hk.obs s))=some (openGood vw ls,hk.val w):=by kernel_rfl
theorem chain (w:World) (os:OsState) (r:Shared) (h:topRun treeTable pp w 11 an 1842 (S_b w os) (restOf l_z env cd p_b [topFrame fp])=some r):topRun treeTable pp w 11 an 1855 (S_0 w os) (topStub pp)=some r:=by
  have k:topRun treeTable pp w 11 an 1842 (S_b w os) (restOf l_z env cd p_b [topFrame fp])=some r:=h
  rw [← all_l] at k
  exact go_top (n:=12) (N:=1843) (r_a w os) (piece_block (n:=1) (N:=1842) (r_b w os) k)
theorem run (w:World) (os:OsState):(topFrom treeTable pp w 1855 (S_0 w os)).map (fun s=>(openSeen vw ls (importedModules pp.main.body) Xt true s,hk.obs s))=some (openGood vw ls,hk.val w):=by_parts (s0:=S_0 w os) (by kernel_rfl) (by kernel_rfl) (by kernel_rfl) (chain w os) (last w os)
theorem left:LeftO (OpenRow.toRowW PySem.Challenge.rw_lanescribe_k33_dumps_bent_and_mended.row).prog vw ls Xt hk.obs hk.val 1855:=left_boot openP (by decide) (fun s=>by kernel_rfl) run
theorem head (hw:(OpenRow.toRowW PySem.Challenge.rw_lanescribe_k33_dumps_bent_and_mended.row).promised) {d:DefRec} {kwd:List (Str×Expr)} (hdef:defOf vw PySem.Challenge.rw_lanescribe_k33_dumps_bent_and_mended.row.name=some (d,kwd)) (hp:PySem.Challenge.rw_lanescribe_k33_dumps_bent_and_mended.row.prog.theDef PySem.Challenge.rw_lanescribe_k33_dumps_bent_and_mended.row.name=some (d.params,d.body,d.scope)) (hk1:kwWritten? d.params.kwonlyargs d.params.kw_defaults=some kwd)
    (hc:WalkO vw ls (XL vw lv) (kHook KK asK eK).says (OpenRow.toRowW PySem.Challenge.rw_lanescribe_k33_dumps_bent_and_mended.row) d kwd fun f vs=>PySem.call f vs):PySem.Challenge.rw_lanescribe_k33_dumps_bent_and_mended.Holds:=
  holds_law said fun said'=>holds_open (q:=vw) (loose:=ls) (Xt:=Xt) (XP:=XL vw lv) (Yf:=hk.obs) (Ya:=hk.val) (YP:=hk.says) (N:=1855) left hk.of hk.keeps (fun s e=>xl_of s (Bool.and_eq_true_iff.mp e).1) XL.keeps hdef hp hk1 (fun s e=>recFacts_of (Bool.and_eq_true_iff.mp e).2) (by rfl) said' (by decide +kernel) ⟨rfl,rfl,rfl,rfl,rfl,by decide +kernel⟩ hw hc
end
end Kd
namespace L2
open PySem PySem.Spec PyProof.Rows
abbrev Key:=Sum Int Str
def keyIs:Key→Value→Bool
  |.inl k,v=>Value.isInt k v
  |.inr x,v=>Value.isStrOf x v
def keyH (w:World):Key→Int
  |.inl k=>hashInt k
  |.inr x=>hashStr w x
theorem keyIs_shape:∀ {k:Key} {v:Value},keyIs k v=true→(∃ i t,k=Sum.inl i∧v=Value.int i t)∨(∃ x t,k=Sum.inr x∧v=Value.str x t)
  | .inl i,v,h=>by
    obtain ⟨t,e⟩:=Value.isInt_shape (k:=i) (v:=v) h
    exact .inl ⟨i,t,rfl,e⟩
  | .inr x,v,h=>by
    obtain ⟨t,e⟩:=Value.isStrOf_shape (x:=x) (v:=v) h
    exact .inr ⟨x,t,rfl,e⟩
theorem keyIs_int (i:Int) (t:Tok):keyIs (.inl i) (.int i t)=true:=by simp [keyIs,Value.isInt]
theorem keyIs_str (x:Str) (t:Tok):keyIs (.inr x) (.str x t)=true:=by simp [keyIs,Value.isStrOf]
theorem key_ll (a b:Int):decide ((Sum.inl a:Key)=Sum.inl b)=(a == b):=by
  by_cases e:a=b
  · subst e;simp
  · have h:¬ (Sum.inl a:Key)=Sum.inl b:=fun q=>e (Sum.inl.inj q)
    rw [decide_eq_false h]
    exact (beq_eq_false_iff_ne.mpr e).symm
theorem key_rr (a b:Str):decide ((Sum.inr a:Key)=Sum.inr b)=decide (a=b):=by
  by_cases e:a=b
  · subst e;simp
  · have h:¬ (Sum.inr a:Key)=Sum.inr b:=fun q=>e (Sum.inr.inj q)
    rw [decide_eq_false h,decide_eq_false e]
theorem key_lr (a:Int) (b:Str):decide ((Sum.inl a:Key)=Sum.inr b)=false:=decide_eq_false (fun q=>nomatch q)
theorem key_rl (a:Str) (b:Int):decide ((Sum.inr a:Key)=Sum.inl b)=false:=decide_eq_false (fun q=>nomatch q)
def mixKind (prog:Program) (w:World):PySem.KeyKind prog w Key where
  is:=keyIs
  hash:=keyH w
  inj:=fun v a b ha hb=>by
    rcases keyIs_shape ha with ⟨i,t,rfl,rfl⟩|⟨x,t,rfl,rfl⟩
    · rcases keyIs_shape hb with ⟨j,u,rfl,e⟩|⟨y,u,rfl,e⟩
      · injection e with e1 _;rw [e1]
      · exact nomatch e
    · rcases keyIs_shape hb with ⟨j,u,rfl,e⟩|⟨y,u,rfl,e⟩
      · exact nomatch e
      · injection e with e1 _;rw [e1]
  byValue:=fun k v h=>by
    rcases keyIs_shape h with ⟨i,t,rfl,rfl⟩|⟨x,t,rfl,rfl⟩ <;> rfl
  pyHash:=fun hv h=>by
    rcases keyIs_shape hv with ⟨i,t,rfl,rfl⟩|⟨x,t,rfl,rfl⟩
    · exact wpAny_pyHash_int h
    · exact wpAny_pyHash_str h
  eqBool:=fun hu hv h=>by
    rcases keyIs_shape hu with ⟨i,t,rfl,rfl⟩|⟨x,t,rfl,rfl⟩
    · rcases keyIs_shape hv with ⟨j,u,rfl,rfl⟩|⟨y,u,rfl,rfl⟩
      · rw [key_ll] at h;exact wpAny_eqBool_int h
      · rw [key_lr] at h;exact SeqAt.EqAt.int_str i t y u _ _ _ _ h
    · rcases keyIs_shape hv with ⟨j,u,rfl,rfl⟩|⟨y,u,rfl,rfl⟩
      · rw [key_rl] at h;exact SeqAt.EqAt.str_int x t j u _ _ _ _ h
      · rw [key_rr] at h;exact wpAny_eqBool_str h
  «strs»:=fun k x t v h=>by
    rcases keyIs_shape h with ⟨i,u,rfl,e⟩|⟨y,u,rfl,e⟩
    · exact nomatch e
    · injection e with e1 _
      subst e1
      cases v <;> rfl
theorem mixKind_int (prog:Program) (w:World) (i:Int) (t:Tok):(mixKind prog w).is (.inl i) (.int i t)=true:=keyIs_int i t
theorem mixKind_str (prog:Program) (w:World) (x:Str) (t:Tok):(mixKind prog w).is (.inr x) (.str x t)=true:=keyIs_str x t
end L2
namespace L2
open PySem PySem.Spec PyProof.Rows
inductive V where
  |non|bl (b:Bool)|int (i:Int)|str (x:Str)|byt (b:Array UInt8)|flt (b:UInt64)|ref (a:Addr)|ty (n:String)
  deriving DecidableEq
def RelV:V→Value→Prop
  |.non,u=>u=Value.none
  |.bl b,u=>u=Value.bool b
  |.int i,u=>∃ t,u=Value.int i t
  |.str x,u=>∃ t,u=Value.str x t
  |.byt b,u=>∃ t,u=Value.bytes b t
  |.flt b,u=>∃ t,u=Value.float b t
  |.ref a,u=>u=Value.ref a
  |.ty n,u=>u=Value.type n
abbrev Vals:List V→List Value→Prop:=Paired RelV
theorem Vals.length {xs:List V} {us:List Value} (r:Vals xs us):xs.length=us.length:=Paired.length r
theorem Vals.get:∀ {xs:List V} {us:List Value} {i:Nat} {x:V},Vals xs us→xs[i]?=some x→∃ u,us[i]?=some u∧RelV x u
  |_,_,_,_,.nil,e=>by simp at e
  |_,_,0,_,.cons r _,e=>by simp at e;subst e;exact ⟨_,rfl,r⟩
  | _,_,i+1,x,.cons _ t,e=>by
    obtain ⟨u,h1,h2⟩:=Vals.get (i:=i) (x:=x) t (by simpa using e)
    exact ⟨u,by simpa using h1,h2⟩
theorem Vals.set {x:V} {u:Value} (r:RelV x u):∀ {xs:List V} {us:List Value} (i:Nat),Vals xs us→Vals (xs.set i x) (us.set i u)
  |_,_,_,.nil=>.nil
  |_,_,0,.cons _ t=>.cons r t
  |_,_,i+1,.cons q t=>.cons q (Vals.set r i t)
theorem Vals.append:∀ {xs ys:List V} {us ws:List Value},Vals xs us→Vals ys ws→Vals (xs++ys) (us++ws)
  |_,_,_,_,.nil,s=>s
  |_,_,_,_,.cons r t,s=>.cons r (Vals.append t s)
theorem Vals.take:∀ {xs:List V} {us:List Value} (n:Nat),Vals xs us→Vals (xs.take n) (us.take n)
  |_,_,0,_=>.nil
  |_,_,_+1,.nil=>.nil
  |_,_,n+1,.cons r t=>.cons r (Vals.take n t)
theorem Vals.drop:∀ {xs:List V} {us:List Value} (n:Nat),Vals xs us→Vals (xs.drop n) (us.drop n)
  |_,_,0,r=>r
  |_,_,_+1,.nil=>.nil
  |_,_,n+1,.cons _ t=>Vals.drop n t
def RelO:Option V→Option Value→Prop
  |some v,some u=>RelV v u
  |none,none=>True
  |_,_=>False
def KV {κ:Type}:List (κ×V)→List (κ×Value)→Prop:=Paired fun (p:κ×V) (q:κ×Value)=>p.1=q.1∧RelV p.2 q.2
def kV:Key→V
  |.inl i=>.int i
  |.inr x=>.str x
inductive HO where
  |lst (xs:List V)
  |tup (xs:List V)
  |dK (kvs:List (Key×V))|dT (kvs:List (List Key×V))
  |set (S:Int→Bool) (n:Nat)
  |ins (C dx:Addr) (fs:List (Str×V))
  |own (x:Addr)
  |xd (fs:List (Str×V))
  |met (f x:Addr)
  |rng (lo hi:Int)
  |frz (o:Obj) (u:HO)
  |tbl (ps:Array Value)
  |ext (φ:Heap→Prop)
abbrev Hp:=Addr→Option HO
def upd (H:Hp) (a:Addr) (o:HO):Hp:=fun b=>if b=a then some o else H b
theorem upd_same {H:Hp} {a:Addr} {o:HO}:upd H a o a=some o:=by unfold upd;rw [if_pos rfl]
theorem upd_ne {H:Hp} {a b:Addr} {o:HO} (h:b≠a):upd H a o b=H b:=by unfold upd;rw [if_neg h]
theorem ne_of {H:Hp} {a b:Addr} {o u:HO} (h:H a=some o) (h':H b=some u) (d:o≠u):a≠b:=by
  intro e;subst e;rw [h] at h';exact d (Option.some.inj h')
theorem ne_of_none {H:Hp} {a b:Addr} {o:HO} (h:H a=some o) (h':H b=none):a≠b:=by
  intro e;subst e;rw [h] at h';cases h'
section
variable (P:Program) (w:World)
def ObjOk (H:Hp) (h:Heap) (a:Addr):HO→Prop
  |.lst xs=>xs.length≤sizeLine∧∃ (its:List Value) (n:Nat),Vals xs its∧h.get? a=some { cls:=.type "list",data:=.seq its.toArray n }
  |.tup xs=>xs.length≤sizeLine∧∃ its:List Value,Vals xs its∧IsTup h a its.toArray
  |.dK kvs=>kvs.length≤sizeLine∧(a == sysModules)=false∧∃ vs,KV kvs vs∧h.DictOf (mixKind P w) a vs
  |.dT kvs=>kvs.length≤sizeLine∧(a == sysModules)=false∧∃ xs:List (List Key×Addr×Value),
      Paired (fun (p:List Key×V) (q:List Key×Addr×Value)=>p.1=q.1∧H q.2.1=some (.tup (p.1.map kV))∧RelV p.2 q.2.2) kvs xs∧
      ∃ o es ep,h.get? a=some o∧o.ExactDict∧o.data=.dict es ep∧es.toList=xs.map (entryOfKey (tupleKind (mixKind P w)))∧(xs.map (·.1)).Nodup
  |.set S n=>h.SetOf (intKind P w) a S n
  |.ins C dx fs=>H dx=some (.own a)∧fs.length≤1000∧dx≠a∧h.get? a=some (PySem.W.instObj C dx)∧
      ∃ mA,h.Ns1 dx mA∧(∀ f,RelO (fs.lookup f) (mA f))∧PySem.Within mA (fs.map (·.1))
  |.own _=>∃ o,h.get? a=some o
  |.xd fs=>∃ mA,h.Ns1 a mA∧∀ f,RelO (fs.lookup f) (mA f)
  |.rng lo hi=>∃ t u v,h.get? a=some { cls:=.type "range",data:=.fields #[.int lo t,.int hi u,.int 1 v] }
  |.frz o u=>h.get? a=some o∧ObjOk H h a u
  |.tbl ps=>h.get? a=some { cls:=.none,data:=.fields ps }
  |.met f x=>h.get? a=some (PySem.W.methodObj (.ref f) (.ref x))
  |.ext φ=>φ h∧(∃ o,h.get? a=some o)∧∀ h1 h2:Heap,φ h1→(∀ o,h1.get? a=some o→h2.get? a=some o)→φ h2
def HOk (H:Hp) (h:Heap):Prop:=∀ a o,H a=some o→ObjOk P w H h a o
end
section
variable {P:Program} {w:World} {H H':Hp} {h h':Heap} {a:Addr} {o:HO}
theorem ObjOk.lt (x:ObjOk P w H h a o):a<h.objs.size:=by
  cases o with
  |lst xs=>obtain ⟨_,_,_,_,e⟩:=x;exact Heap.lt_size e
  |tup xs=>obtain ⟨_,_,_,p⟩:=x;exact p.lt
  |dK kvs=>obtain ⟨_,_,_,_,o,_,_,e,_⟩:=x;exact Heap.lt_size e
  |dT kvs=>obtain ⟨_,_,_,_,o,_,_,e,_⟩:=x;exact Heap.lt_size e
  |set S n=>obtain ⟨o,_,_,_,e,_⟩:=x;exact Heap.lt_size e
  |ins C dx fs=>obtain ⟨_,_,_,e,_⟩:=x;exact Heap.lt_size e
  |own y=>obtain ⟨_,e⟩:=x;exact Heap.lt_size e
  |xd fs=>obtain ⟨_,⟨_,_,_,e,_⟩,_⟩:=x;exact Heap.lt_size e
  |rng lo hi=>obtain ⟨_,_,_,e⟩:=x;exact Heap.lt_size e
  |frz ob u=>obtain ⟨e,_⟩:=x;exact Heap.lt_size e
  |tbl ps=>exact Heap.lt_size (show h.get? a=some _ from x)
  |met f y=>exact Heap.lt_size (show h.get? a=some _ from x)
  |ext φ=>obtain ⟨_,⟨_,e⟩,_⟩:=x;exact Heap.lt_size e
theorem Paired.mapP {α β:Type} {F G:α→β→Prop}:∀ {l₁:List α} {l₂:List β},Paired F l₁ l₂→(∀ a b,F a b→G a b)→Paired G l₁ l₂
  |_,_,.nil,_=>.nil
  |_,_,.cons r t,f=>.cons (f _ _ r) (Paired.mapP t f)
theorem ObjOk.stay (x:ObjOk P w H h a o) (k:∀ b u,(b=a∨H b=some (.own a))→h.get? b=some u→h'.get? b=some u)
    (ho:∀ b,H b=some (.own a)→H' b=some (.own a)) (ht:∀ b xs,H b=some (.tup xs)→H' b=some (.tup xs)):ObjOk P w H' h' a o:=by
  induction o with
  |lst xs=>obtain ⟨z,its,n,r,e⟩:=x;exact ⟨z,its,n,r,k _ _ (.inl rfl) e⟩
  |tup xs=>obtain ⟨z,its,r,ob,e,c⟩:=x;exact ⟨z,its,r,ob,k _ _ (.inl rfl) e,c⟩
  |dK kvs=>obtain ⟨z,y,vs,r,ob,es,ep,e,c⟩:=x;exact ⟨z,y,vs,r,ob,es,ep,k _ _ (.inl rfl) e,c⟩
  | dT kvs=>
    obtain ⟨z,y,xs,r,ob,es,ep,e,c⟩:=x
    exact ⟨z,y,xs,Paired.mapP r fun p q z=>⟨z.1,ht _ _ z.2.1,z.2.2⟩,ob,es,ep,k _ _ (.inl rfl) e,c⟩
  |set S n=>obtain ⟨ob,es,ep,t,e,c⟩:=x;exact ⟨ob,es,ep,t,k _ _ (.inl rfl) e,c⟩
  | ins C dx fs=>
    obtain ⟨d,z,ne,e,mA,⟨od,es,ep,e2,c⟩,r⟩:=x
    exact ⟨ho _ d,z,ne,k _ _ (.inl rfl) e,mA,⟨od,es,ep,k _ _ (.inr d) e2,c⟩,r⟩
  |own y=>obtain ⟨ob,e⟩:=x;exact ⟨ob,k _ _ (.inl rfl) e⟩
  |xd fs=>obtain ⟨mA,⟨od,es,ep,e,c⟩,r⟩:=x;exact ⟨mA,⟨od,es,ep,k _ _ (.inl rfl) e,c⟩,r⟩
  |rng lo hi=>obtain ⟨t,u,v,e⟩:=x;exact ⟨t,u,v,k _ _ (.inl rfl) e⟩
  |frz ob u ih=>obtain ⟨e,q⟩:=x;exact ⟨k _ _ (.inl rfl) e,ih q⟩
  | tbl ps=>
    have e:h.get? a=some { cls:=.none,data:=.fields ps }:=x
    show h'.get? a=some { cls:=.none,data:=.fields ps }
    exact k a _ (.inl rfl) e
  | met f y=>
    have e:h.get? a=some (PySem.W.methodObj (.ref f) (.ref y)):=x
    show h'.get? a=some (PySem.W.methodObj (.ref f) (.ref y))
    exact k a _ (.inl rfl) e
  |ext φ=>obtain ⟨p,⟨o,e⟩,st⟩:=x;exact ⟨st _ _ p fun o q=>k _ _ (.inl rfl) q,⟨o,k _ _ (.inl rfl) e⟩,st⟩
theorem HOk.lt (x:HOk P w H h) (e:H a=some o):a<h.objs.size:=(x a o e).lt
theorem HOk.fresh (x:HOk P w H h) (e:h.objs.size≤a):H a=none:=by
  cases q:H a with
  |none=>rfl
  |some u=>exact absurd (Nat.lt_of_lt_of_le (x.lt q) e) (Nat.lt_irrefl _)
theorem HOk.kept (x:HOk P w H h) (k:∀ b u,h.get? b=some u→h'.get? b=some u):HOk P w H h':=fun a o e=>
  (x a o e).stay (fun b u _ q=>k b u q) (fun _ q=>q) fun _ _ q=>q
theorem HOk.laid (x:HOk P w H h) (k:∀ b u,h.get? b=some u→h'.get? b=some u) (hp:h.objs.size≤a) (new:ObjOk P w (upd H a o) h' a o):HOk P w (upd H a o) h':=fun b u e=>by
  have hn:=x.fresh hp
  by_cases hb:b=a
  · subst hb;rw [upd_same] at e;cases e;exact new
  · rw [upd_ne hb] at e
    exact (x b u e).stay (fun c v _ q=>k c v q) (fun c q=>by rw [upd_ne (ne_of_none q hn)];exact q) fun c xs q=>by rw [upd_ne (ne_of_none q hn)];exact q
end
def Rd (H:Hp) (a:Addr) (u:HO):Prop:=H a=some u∨∃ o,H a=some (.frz o u)
theorem Rd.ok {P:Program} {w:World} {H:Hp} {h:Heap} {a:Addr} {u:HO} (r:Rd H a u) (x:HOk P w H h):ObjOk P w H h a u:=by
  rcases r with r|⟨o,r⟩
  · exact x a u r
  · obtain ⟨_,q⟩:=x a _ r
    exact q
def Mut:Option HO→Prop
  |some (.lst _)=>True
  |some (.dK _)=>True
  |some (.dT _)=>True
  |some (.set _ _)=>True
  |some (.ins _ _ _)=>True
  |some (.ext _)=>True
  |_=>False
section
variable {P:Program} {w:World} {H:Hp} {h h':Heap} {x e:Addr} {o':HO}
theorem HOk.write (ok:HOk P w H h) (mu:Mut (H x)) (he:e=x∨H e=some (.own x)) (k:∀ b u,b≠e→h.get? b=some u→h'.get? b=some u) (heo:∃ u,h'.get? e=some u)
    (new:ObjOk P w (upd H x o') h' x o'):HOk P w (upd H x o') h':=fun b u q=>by
  have nown:∀ c y,H c=some (.own y)→c≠x:=fun c y r z=>by subst z;rw [r] at mu;exact mu
  have ntup:∀ c xs,H c=some (.tup xs)→c≠x:=fun c xs r z=>by subst z;rw [r] at mu;exact mu
  by_cases hb:b=x
  · subst hb;rw [upd_same] at q;cases q;exact new
  · rw [upd_ne hb] at q
    by_cases hbe:b=e
    · have q':H b=some (.own x):=by
        rcases he with z|z
        · exact absurd (hbe.trans z) hb
        · rw [hbe];exact z
      rw [q] at q';cases q'
      obtain ⟨v,hv⟩:=heo
      exact ⟨v,by rw [hbe];exact hv⟩
    · refine (ok b u q).stay (fun c v hc r=>k c v ?_ r) (fun c r=>by rw [upd_ne (nown c b r)];exact r) fun c xs r=>by rw [upd_ne (ntup c xs r)];exact r
      rcases hc with rfl|hc
      · exact hbe
      · rintro rfl
        rcases he with z|z
        · exact nown c b hc z
        · rw [hc] at z;cases z;exact hb rfl
end
structure Un (fs ex:List Addr) (H H':Hp) (h h':Heap):Prop where
  keep:∀ b o,h.get? b=some o→H b=none→b∉fs→b∉ex→h'.get? b=some o
  slot:∀ b o,h.get? b=some o→H b=none→b∈fs→b∉ex→∃ sl,h'.get? b=some { o with slots:=sl }
  free:∀ b o,h.get? b=some o→H b=none→b∉ex→H' b=none
  there:∀ b o,h.get? b=some o→b∉ex→∃ o',h'.get? b=some o'
  tups:∀ b xs,H b=some (.tup xs)→H' b=some (.tup xs)
  frzs:∀ b o u,H b=some (.frz o u)→H' b=some (.frz o u)
  tbls:∀ b ps,H b=some (.tbl ps)→∃ more,H' b=some (.tbl (ps++more))
section
variable {fs fs' ex ex':List Addr} {H H1 H2:Hp} {h h1 h2 h':Heap} {a x e:Addr} {o:HO}
theorem Un.any (u:Un fs ex H H1 h h1) {b:Addr} {ob:Obj} (q:h.get? b=some ob) (n:H b=none) (hx:b∉ex):∃ sl,h1.get? b=some { ob with slots:=sl }:=by
  by_cases hb:b∈fs
  · exact u.slot b ob q n hb hx
  · exact ⟨ob.slots,u.keep b ob q n hb hx⟩
theorem Un.kept (k:∀ b u,h.get? b=some u→h'.get? b=some u):Un fs ex H H h h':=
  ⟨fun b ob q _ _ _=>k b ob q,fun b ob q _ _ _=>⟨ob.slots,k b ob q⟩,fun _ _ _ n _=>n,fun b ob q _=>⟨ob,k b ob q⟩,fun _ _ q=>q,fun _ _ _ q=>q,fun _ ps q=>⟨#[],by rw [q];simp⟩⟩
theorem Un.refl:Un fs ex H H h h:=Un.kept fun _ _ q=>q
theorem Un.laid (k:∀ b u,h.get? b=some u→h'.get? b=some u) (hp:h.objs.size≤a) (hn:H a=none):Un fs ex H (upd H a o) h h' where
  keep:=fun b u q _ _ _=>k b u q
  slot:=fun b u q _ _ _=>⟨u.slots,k b u q⟩
  free:=fun b u q n _=>by rw [upd_ne (Nat.ne_of_lt (Nat.lt_of_lt_of_le (Heap.lt_size q) hp))];exact n
  there:=fun b u q _=>⟨u,k b u q⟩
  tups:=fun b xs q=>by rw [upd_ne (ne_of_none q hn)];exact q
  frzs:=fun b u xs q=>by rw [upd_ne (ne_of_none q hn)];exact q
  tbls:=fun b ps q=>⟨#[],by rw [upd_ne (ne_of_none q hn),q];simp⟩
theorem Un.write (mu:Mut (H x)) (he:e=x∨H e=some (.own x)) (k:∀ b u,b≠e→h.get? b=some u→h'.get? b=some u) (heo:∃ u,h'.get? e=some u):Un fs ex H (upd H x o) h h':=by
  have hx:∀ b,H b=none→b≠x:=fun b n z=>by subst z;rw [n] at mu;exact mu
  have hb:∀ b,H b=none→b≠e:=fun b n z=>by
    subst z
    rcases he with r|r
    · exact hx b n r
    · rw [n] at r;cases r
  have hm:∀ b u,H b=some u→¬ Mut (some u)→b≠x:=fun b u q nm z=>by subst z;rw [q] at mu;exact nm mu
  refine ⟨fun b u q n _ _=>k b u (hb b n) q,fun b u q n _ _=>⟨u.slots,k b u (hb b n) q⟩,fun b u q n _=>by rw [upd_ne (hx b n)];exact n,fun b u q _=>?_,
    fun b xs q=>by rw [upd_ne (hm b _ q fun z=>z)];exact q,fun b u xs q=>by rw [upd_ne (hm b _ q fun z=>z)];exact q,fun b ps q=>⟨#[],by rw [upd_ne (hm b _ q fun z=>z),q];simp⟩⟩
  by_cases hbe:b=e
  · subst hbe;exact heo
  · exact ⟨u,k b u hbe q⟩
end
def trk (h:Heap) (H:Hp):List Addr:=(List.range h.objs.size).filter fun a=>(H a).isSome
def hidT (h:Heap) (H:Hp):Heap:=PySem.W.hideAll h (trk h H)
theorem hidT_size (h:Heap) (H:Hp):(hidT h H).objs.size=h.objs.size:=PySem.W.hideAll_size _ _
theorem hidT_get {h:Heap} {H:Hp} {b:Addr} {o:Obj} (e:h.get? b=some o) (n:H b=none):(hidT h H).get? b=some o:=
  PySem.W.hideAll_get _ e fun hm=>by
    have q:(H b).isSome=true:=(List.mem_filter.mp hm).2
    rw [n] at q;simp at q
theorem of_hidT {h:Heap} {H:Hp} {b:Addr} {o:Obj} (e:(hidT h H).get? b=some o):h.get? b=some o∧H b=none:=by
  have e':h.get? b=some o:=PySem.W.of_hideAll (trk h H) e
  refine ⟨e',?_⟩
  cases q:H b with
  |none=>rfl
  | some x=>
    have hm:b∈trk h H:=List.mem_filter.mpr ⟨List.mem_range.mpr (Heap.lt_size e'),by simp [q]⟩
    have z:(hidT h H).get? b=none:=PySem.W.hideAll_none (trk h H) hm
    rw [z] at e;cases e
end L2
namespace L2
open PySem PySem.Spec PyProof.Rows
structure Mod (K:PySem.W.Frag) (mg:Str→Option Value) (base:Heap):Prop where
  kin:K.In base
  glob:base.Ns mainGlobals mg
  blt:∃ mb,base.Ns builtinsNs mb∧∀ x:Str,x ≠ "__name__"→mb x=bootBuiltins x
  nolimit:base.NoLimit
structure Cx where
  prog:Program
  w:World
  K:PySem.W.Frag
  mg:Str→Option Value
  base:Heap
  A:Around
  N:List Str
  s₀:Shared
  H₀:Hp
  env:Env
  outer:List Env
  stack:List Env
  ex:List Addr
  fn:Str→Bool
  calm:Bool
  pn:List (Addr×Obj)
  xe:Value→Shared→Prop
def frs (l:List Env):List Addr:=l.filterMap (·.frame)
abbrev Cx.fs (X:Cx):List Addr:=frs X.outer
def Vis (sc:Scope) (x:Str):Prop:=sc.names.lookup x=some .local∨sc.names.lookup x=some .cell∨sc.names.lookup x=some .free
def Loc (sc:Scope) (x:Str):Prop:=sc.names.lookup x=some .local∨sc.names.lookup x=some .cell
def Look (env:Env) (h:Heap) (m:Str→Option Value) (x:Str) (u:Value):Prop:=
  (env.kindOf x=some .local∧m x=some u)∨((env.kindOf x=some .cell∨env.kindOf x=some .free)∧∃ c,env.cells.lookup x=some c∧h.IsCell c (some u))
structure Cx.Ok (X:Cx):Prop where
  mod:Mod X.K X.mg X.base
  kind:X.env.scope.kind=.function
  glob:X.env.globals=mainGlobals
  blt:X.env.builtins=builtinsNs
  above:X.s₀.heap.objs.size≤X.env.locals
  inj:∀ x y c,X.env.cells.lookup x=some c→X.env.cells.lookup y=some c→x=y
  has:∀ x,(X.env.kindOf x=some .cell∨X.env.kindOf x=some .free)→∃ c,X.env.cells.lookup x=some c
  cab:∀ x c,X.fn x=true→X.env.cells.lookup x=some c→X.s₀.heap.objs.size≤c
  hd:X.calm=true→X.A.handled=none
  frames:X.A.frames=some X.stack
  stk:X.stack=X.outer∨(X.stack=X.env::X.outer∧X.env.frame=some X.env.locals)
  exf:∀ b∈X.ex,b≠X.env.locals∧∀ x c,X.env.cells.lookup x=some c→c≠b
  bs:∀ b o,X.base.get? b=some o→X.s₀.heap.get? b=some o∧X.H₀ b=none
  bsz:X.base.objs.size≤X.s₀.heap.objs.size
  noex:∀ b o,X.base.get? b=some o→b∉X.ex
  exfs:∀ b∈X.ex,b∉X.fs
  funs:X.s₀.heap.FunFrames X.base X.outer
  frf:∀ b∈X.fs,X.H₀ b=none
structure Inv (X:Cx) (pins:List (Addr×Obj)) (σ:List (Option V)) (H:Hp) (s:Shared):Prop where
  ok:X.Ok
  os:s.os=X.s₀.os
  bare:AllBare s.gens
  base:Un X.fs X.ex X.H₀ H X.s₀.heap s.heap
  loc:∃ m,s.heap.Ns X.env.locals m∧∀ (i:Nat) (x:Str) (v:V),X.N[i]?=some x→σ[i]?=some (some v)→Vis X.env.scope x→∃ u,RelV v u∧Look X.env s.heap m x u
  cell:∀ x c,X.env.cells.lookup x=some c→∃ v,s.heap.IsCell c v
  free:H X.env.locals=none
  freeC:∀ x c,X.env.cells.lookup x=some c→H c=none
  pin:∀ p∈X.pn++pins,s.heap.get? p.1=some p.2∧H p.1=none∧p.1≠X.env.locals∧p.1∉X.fs∧∀ v,p.2.data≠.cell v
  hok:HOk X.prog X.w H s.heap
  len:σ.length=X.N.length
section
variable {X:Cx} {pins:List (Addr×Obj)} {σ:List (Option V)} {H H':Hp} {s:Shared} {h':Heap}
theorem Cx.Ok.nofr (ok:X.Ok) {b:Addr} {o:Obj} (e:X.base.get? b=some o):b∉X.fs:=fun hb=>by
  have:=(ok.funs.mem hb).1
  rw [e] at this;cases this
theorem Inv.bs (I:Inv X pins σ H s):∀ b o,X.base.get? b=some o→s.heap.get? b=some o∧H b=none:=fun b o e=>
  ⟨I.base.keep b o (I.ok.bs b o e).1 (I.ok.bs b o e).2 (I.ok.nofr e) (I.ok.noex b o e),I.base.free b o (I.ok.bs b o e).1 (I.ok.bs b o e).2 (I.ok.noex b o e)⟩
theorem Inv.bk (I:Inv X pins σ H s):∀ b o,X.base.get? b=some o→s.heap.get? b=some o:=fun b o e=>(I.bs b o e).1
theorem Inv.mod (I:Inv X pins σ H s):Mod X.K X.mg X.base:=I.ok.mod
theorem Inv.kIn (I:Inv X pins σ H s):X.K.In s.heap:=I.ok.mod.kin.keeps I.bk
theorem Inv.fr (I:Inv X pins σ H s):∃ m,Fr X.base X.env.locals s.heap m:=
  let ⟨m,hn,_⟩:=I.loc
  ⟨m,hn,I.bk,Nat.le_trans I.ok.bsz I.ok.above⟩
theorem Inv.lt (I:Inv X pins σ H s):X.env.locals<s.heap.objs.size:=let ⟨_,hn,_⟩:=I.loc;hn.lt
theorem Inv.sz (I:Inv X pins σ H s):X.s₀.heap.objs.size≤s.heap.objs.size:=Nat.le_trans I.ok.above (Nat.le_of_lt I.lt)
theorem Inv.nofs (I:Inv X pins σ H s) {a:Addr} (h:s.heap.objs.size≤a):a∉X.fs:=fun hb=>by
  obtain ⟨_,o,ho,_⟩:=I.ok.funs.mem hb
  exact absurd (Nat.lt_of_lt_of_le (Heap.lt_size ho) (Nat.le_trans I.sz h)) (Nat.lt_irrefl _)
theorem Inv.cne (I:Inv X pins σ H s):∀ x c,X.env.cells.lookup x=some c→c≠X.env.locals:=fun x c e z=>by
  obtain ⟨v,o,ho,hd⟩:=I.cell x c e
  obtain ⟨m,⟨o',es,ep,ho',hd',_⟩,_⟩:=I.loc
  rw [z,ho'] at ho;cases ho;rw [hd'] at hd;cases hd
theorem Inv.funs (I:Inv X pins σ H s):s.heap.FunFrames X.base X.outer:=by
  have all:∀ (l:List Env),(∀ b∈frs l,b∈X.fs)→X.s₀.heap.FunFrames X.base l→s.heap.FunFrames X.base l:=by
    intro l
    induction l with
    |nil=>intro _ _;trivial
    | cons env r ih=>
      intro hs hl
      obtain ⟨hk,⟨L,o,hf,hn,ho,hd⟩,hr⟩:=hl
      have hL:L∈X.fs:=hs L (by unfold frs;rw [List.filterMap_cons,hf];exact List.mem_cons_self)
      obtain ⟨sl,e⟩:=I.base.slot L o ho (I.ok.frf L hL) hL fun z=>I.ok.exfs L z hL
      exact ⟨hk,⟨L,_,hf,hn,e,hd⟩,ih (fun b hb=>hs b (by unfold frs;rw [List.filterMap_cons,hf];exact List.mem_cons_of_mem _ hb)) hr⟩
  exact all X.outer (fun _ hb=>hb) I.ok.funs
theorem Inv.stack (I:Inv X pins σ H s):s.heap.FunFrames X.base X.stack:=by
  rcases I.ok.stk with e|⟨e,hf⟩
  · rw [e];exact I.funs
  · rw [e]
    obtain ⟨m,hn,_⟩:=I.loc
    refine .cons (by rw [I.ok.kind];decide) hf hn ?_ I.funs
    exact Heap.get?_none_of_le (Nat.le_trans I.ok.bsz I.ok.above)
theorem Inv.stkSub (I:Inv X pins σ H s):∀ b∈frs X.stack,b∈X.env.locals::X.fs:=fun b hb=>by
  rcases I.ok.stk with e|⟨e,hf⟩
  · rw [e] at hb;exact List.mem_cons_of_mem _ hb
  · rw [e] at hb
    unfold frs at hb
    rw [List.filterMap_cons,hf] at hb
    exact hb
theorem Inv.stkFree (I:Inv X pins σ H s):∀ b∈frs X.stack,H b=none:=fun b hb=>by
  rcases List.mem_cons.mp (I.stkSub b hb) with e|hb
  · rw [e];exact I.free
  · obtain ⟨_,o,ho,_⟩:=I.ok.funs.mem hb
    exact I.base.free b o ho (I.ok.frf b hb) fun z=>I.ok.exfs b z hb
theorem Inv.step {g':Array GenState} {t':Nat} {d':Drawn} {ch:List Addr} (I:Inv X pins σ H s)
    (hch:∀ b∈ch,(b∈X.ex∨X.s₀.heap.objs.size≤b)∧b≠X.env.locals∧(∀ x c,X.env.cells.lookup x=some c→c≠b)∧∀ p∈X.pn++pins,p.1≠b)
    (keep:∀ b o,b≠X.env.locals→b∉X.fs→b∉ch→s.heap.get? b=some o→H b=none→h'.get? b=some o)
    (slot:∀ b o,b≠X.env.locals→b∈X.fs→b∉ch→s.heap.get? b=some o→H b=none→∃ sl,h'.get? b=some { o with slots:=sl }) (free:∀ b o,b∉ch→s.heap.get? b=some o→H b=none→H' b=none)
    (there:∀ b o,b∉ch→s.heap.get? b=some o→∃ o',h'.get? b=some o')
    (tups:∀ b xs,H b=some (.tup xs)→H' b=some (.tup xs)) (frzs:∀ b o u,H b=some (.frz o u)→H' b=some (.frz o u)) (tbls:∀ b ps,H b=some (.tbl ps)→∃ more,H' b=some (.tbl (ps++more)))
    (ns:∀ m,s.heap.Ns X.env.locals m→h'.Ns X.env.locals m) (hok:HOk X.prog X.w H' h') (hg:AllBare g') :
    Inv X pins σ H' { s with heap:=h',gens:=g',drawn:=d',toks:=t' }:=by
  have neL:∀ b o,X.s₀.heap.get? b=some o→b≠X.env.locals:=fun b o e=>Nat.ne_of_lt (Nat.lt_of_lt_of_le (Heap.lt_size e) I.ok.above)
  have neC:∀ b o,X.s₀.heap.get? b=some o→b∉X.ex→b∉ch:=fun b o e hx hb=>by
    rcases (hch b hb).1 with z|z
    · exact hx z
    · exact absurd (Nat.lt_of_lt_of_le (Heap.lt_size e) z) (Nat.lt_irrefl _)
  have cellK:∀ x c,X.env.cells.lookup x=some c→∀ v,s.heap.IsCell c v→h'.IsCell c v:=fun x c e v ⟨o,ho,hd⟩=>by
    have nch:c∉ch:=fun z=>(hch c z).2.2.1 x c e rfl
    by_cases hc:c∈X.fs
    · obtain ⟨sl,q⟩:=slot c o (I.cne x c e) hc nch ho (I.freeC x c e)
      exact ⟨_,q,hd⟩
    · exact ⟨o,keep c o (I.cne x c e) hc nch ho (I.freeC x c e),hd⟩
  refine ⟨I.ok,I.os,hg,⟨fun b o e n hb hx=>?_,fun b o e n hb hx=>?_,fun b o e n hx=>?_,fun b o e hx=>?_,fun b xs e=>tups b xs (I.base.tups b xs e),fun b o xs e=>frzs b o xs (I.base.frzs b o xs e),fun b ps e=>?_⟩,?_,fun x c e=>?_,?_,fun x c e=>?_,fun p hp=>?_,hok,I.len⟩
  · exact keep b o (neL b o e) hb (neC b o e hx) (I.base.keep b o e n hb hx) (I.base.free b o e n hx)
  · obtain ⟨sl,e1⟩:=I.base.slot b o e n hb hx
    obtain ⟨sl',e2⟩:=slot b _ (neL b o e) hb (neC b o e hx) e1 (I.base.free b o e n hx)
    exact ⟨sl',e2⟩
  · obtain ⟨o',e1⟩:=I.base.there b o e hx
    exact free b o' (neC b o e hx) e1 (I.base.free b o e n hx)
  · obtain ⟨o',e1⟩:=I.base.there b o e hx
    exact there b o' (neC b o e hx) e1
  · obtain ⟨m1,e1⟩:=I.base.tbls b ps e
    obtain ⟨m2,e2⟩:=tbls b _ e1
    exact ⟨m1++m2,by rw [e2,Array.append_assoc]⟩
  · obtain ⟨m,hn,hl⟩:=I.loc
    refine ⟨m,ns m hn,fun i x v e1 e2 e3=>?_⟩
    obtain ⟨u,r,l⟩:=hl i x v e1 e2 e3
    refine ⟨u,r,?_⟩
    rcases l with l|⟨k,c,e,z⟩
    · exact .inl l
    · exact .inr ⟨k,c,e,cellK x c e _ z⟩
  · obtain ⟨v,z⟩:=I.cell x c e
    exact ⟨v,cellK x c e v z⟩
  · obtain ⟨m,⟨o,_,_,ho,_⟩,_⟩:=I.loc
    exact free _ o (fun z=>(hch _ z).2.1 rfl) ho I.free
  · obtain ⟨v,o,ho,hd⟩:=I.cell x c e
    exact free c o (fun z=>(hch c z).2.2.1 x c e rfl) ho (I.freeC x c e)
  · obtain ⟨e,n,ne,nf,d⟩:=I.pin p hp
    have nch:p.1∉ch:=fun z=>(hch p.1 z).2.2.2 p hp rfl
    exact ⟨keep p.1 p.2 ne nf nch e n,free p.1 p.2 nch e n,ne,nf,d⟩
theorem Inv.un {t':Nat} (I:Inv X pins σ H s) (u:Un X.fs [] H H' s.heap h') (hok:HOk X.prog X.w H' h'):Inv X pins σ H' { s with heap:=h',toks:=t' }:=by
  obtain ⟨m,⟨o,es,ep,ho,r⟩,_⟩:=id I.loc
  obtain ⟨sl,hL⟩:=u.any ho I.free (by simp)
  exact I.step (g':=s.gens) (d':=s.drawn) (ch:=[]) (fun _ z=>nomatch z) (fun b o _ hb _ e n=>u.keep b o e n hb (by simp)) (fun b o _ hb _ e n=>u.slot b o e n hb (by simp)) (fun b o _ e n=>u.free b o e n (by simp)) (fun b o _ e=>u.there b o e (by simp)) u.tups u.frzs u.tbls (fun m' hm=>by
    obtain ⟨o',es',ep',ho',r'⟩:=hm
    rw [ho] at ho';cases ho'
    exact ⟨_,es',ep',hL,r'⟩) hok I.bare
theorem Inv.call {g':Array GenState} {t':Nat} {d':Drawn} {ch:List Addr} (I:Inv X pins σ H s) (u:Un (frs X.stack) ch H H' s.heap h') (hok:HOk X.prog X.w H' h') (hg:AllBare g')
    (hch:∀ b∈ch,(b∈X.ex∨X.s₀.heap.objs.size≤b)∧b≠X.env.locals∧(∀ x c,X.env.cells.lookup x=some c→c≠b)∧∀ p∈X.pn++pins,p.1≠b) :
    Inv X pins σ H' { s with heap:=h',gens:=g',drawn:=d',toks:=t' }:=by
  obtain ⟨m,⟨o,es,ep,ho,r⟩,_⟩:=id I.loc
  obtain ⟨sl,hL⟩:=u.any ho I.free fun z=>(hch _ z).2.1 rfl
  exact I.step (ch:=ch) hch (fun b o hL hb hc e n=>u.keep b o e n (fun z=>(List.mem_cons.mp (I.stkSub b z)).elim hL hb) hc) (fun b o _ _ hc e n=>u.any e n hc) (fun b o hc e n=>u.free b o e n hc) (fun b o hc e=>u.there b o e hc) u.tups u.frzs u.tbls (fun m' hm=>by
    obtain ⟨o',es',ep',ho',r'⟩:=hm
    rw [ho] at ho';cases ho'
    exact ⟨_,es',ep',hL,r'⟩) hok hg
theorem Inv.turned {t':Nat} {it:Addr} (I:Inv X pins σ H s) (k:∀ b o,b≠it→s.heap.get? b=some o→h'.get? b=some o) (hn:H it=none) (hL:it≠X.env.locals)
    (h1:it∈X.ex∨X.s₀.heap.objs.size≤it) (h2:∀ x c,X.env.cells.lookup x=some c→c≠it) (h3:∀ p∈X.pn++pins,p.1≠it):Inv X pins σ H { s with heap:=h',toks:=t' }:=by
  have nit:∀ b u,H b=some u→b≠it:=fun b u e z=>by rw [z,hn] at e;cases e
  refine I.step (g':=s.gens) (d':=s.drawn) (ch:=[it]) (fun b hb=>?_) (fun b o _ _ hc e _=>k b o (fun z=>hc (by simp [z])) e) (fun b o _ _ hc e _=>⟨o.slots,k b o (fun z=>hc (by simp [z])) e⟩) (fun _ _ _ _ n=>n)
    (fun b o hc e=>⟨o,k b o (fun z=>hc (by simp [z])) e⟩) (fun _ _ e=>e) (fun _ _ _ e=>e) (fun b ps e=>⟨#[],by rw [e];simp⟩) (fun m hm=>?_) (fun b u e=>?_) I.bare
  · have e:b=it:=by simpa using hb
    subst e
    exact ⟨h1,hL,h2,h3⟩
  · obtain ⟨o,es,ep,ho,r⟩:=hm
    exact ⟨o,es,ep,k _ o (Ne.symm hL) ho,r⟩
  · refine (I.hok b u e).stay (fun c v hc q=>k c v ?_ q) (fun _ q=>q) fun _ _ q=>q
    rcases hc with z|z
    · rw [z];exact nit b u e
    · exact nit c _ z
theorem Inv.tok (I:Inv X pins σ H s) (t:Nat):Inv X pins σ H { s with toks:=t }:=I.un (h':=s.heap) (t':=t) Un.refl I.hok
theorem Inv.kept {t':Nat} (I:Inv X pins σ H s) (k:∀ b u,s.heap.get? b=some u→h'.get? b=some u):Inv X pins σ H { s with heap:=h',toks:=t' }:=I.un (Un.kept k) (I.hok.kept k)
theorem Inv.laid {a:Addr} {o:HO} {t':Nat} (I:Inv X pins σ H s) (k:∀ b u,s.heap.get? b=some u→h'.get? b=some u) (hp:s.heap.objs.size≤a) (new:ObjOk X.prog X.w (upd H a o) h' a o) :
    Inv X pins σ (upd H a o) { s with heap:=h',toks:=t' }:=I.un (Un.laid k hp (I.hok.fresh hp)) (I.hok.laid k hp new)
theorem Inv.write {x e:Addr} {o:HO} {t':Nat} (I:Inv X pins σ H s) (mu:Mut (H x)) (he:e=x∨H e=some (.own x)) (k:∀ b u,b≠e→s.heap.get? b=some u→h'.get? b=some u) (heo:∃ u,h'.get? e=some u)
    (new:ObjOk X.prog X.w (upd H x o) h' x o):Inv X pins σ (upd H x o) { s with heap:=h',toks:=t' }:=I.un (Un.write mu he k heo) (I.hok.write mu he k heo new)
theorem Inv.pins_of {pins':List (Addr×Obj)} (I:Inv X pins σ H s) (h:∀ p∈pins',s.heap.get? p.1=some p.2∧H p.1=none∧p.1≠X.env.locals∧p.1∉X.fs∧∀ v,p.2.data≠.cell v):Inv X pins' σ H s:=
  ⟨I.ok,I.os,I.bare,I.base,I.loc,I.cell,I.free,I.freeC,fun p hp=>(List.mem_append.mp hp).elim (fun z=>I.pin p (List.mem_append_left _ z)) (h p),I.hok,I.len⟩
theorem nodup_ix {N:List Str} (hN:N.Nodup) {i j:Nat} {x:Str} (a:N[i]?=some x) (b:N[j]?=some x):i=j:=by
  obtain ⟨h1,e1⟩:=List.getElem?_eq_some_iff.mp a
  obtain ⟨h2,e2⟩:=List.getElem?_eq_some_iff.mp b
  exact (List.getElem_inj hN).mp (e1.trans e2.symm)
theorem store_ok2 {M:Model} {A:Around} {E:Value→Shared→Prop} {i:Nat} {x:Str} {v:V} {u:Value} {Q:Unit→Shared→Prop} (I:Inv X pins σ H s) (hN:X.N.Nodup) (hi:X.N[i]?=some x) (hx:Loc X.env.scope x) (r:RelV v u)
    (h:∀ s',Inv X pins (σ.set i (some v)) H s'→(∃ a,Heap.SameBut a s.heap s'.heap∧(a=X.env.locals∨X.env.cells.lookup x=some a))→Q () s') (hf:X.fn x=true∨X.env.scope.names.lookup x=some .local:=by first|exact .inl rfl|exact .inr rfl|assumption):wpAny M A (storeName X.env x u) Q E s:=by
  obtain ⟨m,hn,hl⟩:=id I.loc
  have hcls:(X.env.scope.kind == .class || (X.env.scope.kind == .module && X.env.locals != X.env.globals))=false:=by rw [I.ok.kind];rfl
  have hiσ:i<σ.length:=by rw [I.len];exact (List.getElem?_eq_some_iff.mp hi).1
  have cne:=I.cne
  have tracked:∀ {a:Addr} {h':Heap},(∃ o,s.heap.get? a=some o∧H a=none)→Heap.SameBut a s.heap h'→HOk X.prog X.w H h':=fun {a h'} ha hs b ob e=>by
    obtain ⟨_,_,hfree⟩:=ha
    refine (I.hok b ob e).stay (fun c w' hc q=>(hs.2 c ?_).trans q) (fun _ q=>q) fun _ _ q=>q
    rintro rfl
    rcases hc with rfl|hc
    · rw [hfree] at e;cases e
    · rw [hfree] at hc;cases hc
  rcases hx with hk|hk
  · refine wpAny_storeName_local hk hn (fun h' hn' hs=>?_) hcls
    obtain ⟨oL,_,_,hoL,_⟩:=id hn
    refine h _ ⟨I.ok,I.os,I.bare,⟨fun b o e n hb hx=>?_,fun b o e n hb hx=>?_,I.base.free,fun b o e hx=>?_,I.base.tups,I.base.frzs,I.base.tbls⟩,⟨_,hn',fun j y v' e1 e2 e3=>?_⟩,fun y c e=>?_,I.free,I.freeC,fun p hp=>?_,tracked ⟨oL,hoL,I.free⟩ hs,by simpa using I.len⟩ ⟨_,hs,.inl rfl⟩
    · exact (hs.2 b (Nat.ne_of_lt (Nat.lt_of_lt_of_le (Heap.lt_size e) I.ok.above))).trans (I.base.keep b o e n hb hx)
    · obtain ⟨sl,e1⟩:=I.base.slot b o e n hb hx
      exact ⟨sl,(hs.2 b (Nat.ne_of_lt (Nat.lt_of_lt_of_le (Heap.lt_size e) I.ok.above))).trans e1⟩
    · obtain ⟨o',e1⟩:=I.base.there b o e hx
      exact ⟨o',(hs.2 b (Nat.ne_of_lt (Nat.lt_of_lt_of_le (Heap.lt_size e) I.ok.above))).trans e1⟩
    · by_cases hj:j=i
      · subst hj
        rw [hi] at e1;cases e1
        rw [List.getElem?_set_self hiσ] at e2
        cases e2
        exact ⟨u,r,.inl ⟨hk,by simp⟩⟩
      · rw [List.getElem?_set_ne (Ne.symm hj)] at e2
        obtain ⟨u',r',q⟩:=hl j y v' e1 e2 e3
        refine ⟨u',r',?_⟩
        rcases q with ⟨k,e⟩|⟨k,c,e,z⟩
        · refine .inl ⟨k,?_⟩
          have:y≠x:=fun e=>hj (nodup_ix hN e1 (e ▸ hi))
          simp [this,e]
        · exact .inr ⟨k,c,e,z.sameBut hs (cne y c e)⟩
    · obtain ⟨w',z⟩:=I.cell y c e
      exact ⟨w',z.sameBut hs (cne y c e)⟩
    · obtain ⟨e,n,ne,nf,d⟩:=I.pin p hp
      exact ⟨(hs.2 p.1 ne).trans e,n,ne,nf,d⟩
  · have hfn:X.fn x=true:=by
      rcases hf with z|z
      · exact z
      · rw [z] at hk;cases hk
    obtain ⟨c,hc⟩:=I.ok.has x (.inl hk)
    obtain ⟨w',z⟩:=I.cell x c hc
    refine wpAny_storeName_cell I.ok.kind hk hc z (fun h' hc' hs=>?_)
    obtain ⟨oc,hoc,hocd⟩:=id z
    refine h { s with heap:=h' } ⟨I.ok,I.os,I.bare,⟨fun b o e n hb hx=>?_,fun b o e n hb hx=>?_,I.base.free,fun b o e hx=>?_,I.base.tups,I.base.frzs,I.base.tbls⟩,⟨m,hn.sameBut hs (Ne.symm (cne x c hc)),fun j y v' e1 e2 e3=>?_⟩,fun y c' e=>?_,I.free,I.freeC,fun p hp=>?_,tracked ⟨oc,hoc,I.freeC x c hc⟩ hs,by simpa using I.len⟩ ⟨c,hs,.inr hc⟩
    · exact (hs.2 b (Nat.ne_of_lt (Nat.lt_of_lt_of_le (Heap.lt_size e) (I.ok.cab x c hfn hc)))).trans (I.base.keep b o e n hb hx)
    · obtain ⟨sl,e1⟩:=I.base.slot b o e n hb hx
      exact ⟨sl,(hs.2 b (Nat.ne_of_lt (Nat.lt_of_lt_of_le (Heap.lt_size e) (I.ok.cab x c hfn hc)))).trans e1⟩
    · obtain ⟨o',e1⟩:=I.base.there b o e hx
      exact ⟨o',(hs.2 b (Nat.ne_of_lt (Nat.lt_of_lt_of_le (Heap.lt_size e) (I.ok.cab x c hfn hc)))).trans e1⟩
    · by_cases hj:j=i
      · subst hj
        rw [hi] at e1;cases e1
        rw [List.getElem?_set_self hiσ] at e2
        cases e2
        exact ⟨u,r,.inr ⟨.inl hk,c,hc,hc'⟩⟩
      · rw [List.getElem?_set_ne (Ne.symm hj)] at e2
        obtain ⟨u',r',q⟩:=hl j y v' e1 e2 e3
        refine ⟨u',r',?_⟩
        rcases q with q|⟨k,c',e,z'⟩
        · exact .inl q
        · refine .inr ⟨k,c',e,z'.sameBut hs ?_⟩
          rintro rfl
          exact hj (nodup_ix hN e1 (I.ok.inj _ _ _ e hc ▸ hi))
    · by_cases hcc:c'=c
      · subst hcc;exact ⟨_,hc'⟩
      · obtain ⟨w2,z2⟩:=I.cell y c' e
        exact ⟨w2,z2.sameBut hs hcc⟩
    · obtain ⟨e,n,ne,nf,d⟩:=I.pin p hp
      refine ⟨(hs.2 p.1 ?_).trans e,n,ne,nf,d⟩
      intro q
      rw [q,hoc] at e
      have q':oc=p.2:=Option.some.inj e
      exact d w' (by rw [← q'];exact hocd)
theorem store_ok {M:Model} {A:Around} {E:Value→Shared→Prop} {i:Nat} {x:Str} {v:V} {u:Value} {Q:Unit→Shared→Prop} (I:Inv X pins σ H s) (hN:X.N.Nodup) (hi:X.N[i]?=some x) (hx:Loc X.env.scope x) (r:RelV v u)
    (h:∀ s',Inv X pins (σ.set i (some v)) H s'→Q () s') (hf:X.fn x=true∨X.env.scope.names.lookup x=some .local:=by first|exact .inl rfl|exact .inr rfl|assumption):wpAny M A (storeName X.env x u) Q E s:=
  store_ok2 I hN hi hx r (fun s' I' _=>h s' I') hf
theorem Inv.call' {s':Shared} {ch:List Addr} (I:Inv X pins σ H s) (ho:s'.os=s.os) (u:Un (frs X.stack) ch H H' s.heap s'.heap) (hok:HOk X.prog X.w H' s'.heap) (hg:AllBare s'.gens)
    (hch:∀ b∈ch,(b∈X.ex∨X.s₀.heap.objs.size≤b)∧b≠X.env.locals∧(∀ x c,X.env.cells.lookup x=some c→c≠b)∧∀ p∈X.pn++pins,p.1≠b):Inv X pins σ H' s':=by
  obtain ⟨h',g',d',t',o'⟩:=s'
  have e:o'=s.os:=ho
  subst e
  exact I.call (g':=g') (t':=t') (d':=d') u hok hg hch
end
abbrev XK:=Value→Option Addr→Hp→Prop
abbrev St:=List (Option V)
abbrev VK:=V→Hp→Prop
abbrev TE:=St→Hp→VK→Prop
abbrev TT:=St→Hp→(Bool→Hp→Prop)→Prop
abbrev TA:=St→Hp→(List V→Hp→Prop)→Prop
structure Ends where
  nx:St→Hp→Prop
  rt:VK
  bk:St→Hp→Prop:=fun _ _=>False
  ct:St→Hp→Prop:=fun _ _=>False
abbrev TS:=Ends→St→Hp→Prop
def EP (X:Cx) (pins:List (Addr×Obj)) (σ:St) (Q:VK) (u:Value) (s':Shared):Prop:=∃ v H',Inv X pins σ H' s'∧RelV v u∧Q v H'
def TP (X:Cx) (pins:List (Addr×Obj)) (σ:St) (Q:Bool→Hp→Prop) (b:Bool) (s':Shared):Prop:=∃ H',Inv X pins σ H' s'∧Q b H'
def AP (X:Cx) (pins:List (Addr×Obj)) (σ:St) (Q:List V→Hp→Prop) (us:List Value) (s':Shared):Prop:=∃ vs H',Inv X pins σ H' s'∧Vals vs us∧Q vs H'
def SP (X:Cx) (pins:List (Addr×Obj)) (D:Ends) (f:Flow) (s':Shared):Prop:=
  match f with
  |.next=>∃ σ' H',Inv X pins σ' H' s'∧D.nx σ' H'
  |.brk=>∃ σ' H',Inv X pins σ' H' s'∧D.bk σ' H'
  |.cont=>∃ σ' H',Inv X pins σ' H' s'∧D.ct σ' H'
  |.ret u=>∃ v σ' H',Inv X pins σ' H' s'∧RelV v u∧D.rt v H'
def PE (X:Cx) (e:Expr) (t:TE):Prop:=
  ∀ (pins:List (Addr×Obj)) (s:Shared) (σ:St) (H:Hp) (Q:VK),Inv X pins σ H s→t σ H Q→wpAny (model X.prog X.w) X.A (eval e X.env) (EP X pins σ Q) X.xe s
def PT (X:Cx) (e:Expr) (t:TT):Prop:=
  ∀ (pins:List (Addr×Obj)) (s:Shared) (σ:St) (H:Hp) (Q:Bool→Hp→Prop),Inv X pins σ H s→t σ H Q→wpAny (model X.prog X.w) X.A (isTrue e X.env (eval e X.env)) (TP X pins σ Q) X.xe s
def PW (X:Cx) (e:Expr) (t:TT):Prop:=
  ∀ (whole:Sem Value) (pins:List (Addr×Obj)) (s:Shared) (σ:St) (H:Hp) (Q:Bool→Hp→Prop),Inv X pins σ H s→t σ H Q→wpAny (model X.prog X.w) X.A (isTrue e X.env whole) (TP X pins σ Q) X.xe s
theorem PW.pt {X:Cx} {e:Expr} {t:TT} (h:PW X e t):PT X e t:=h _
def PA (X:Cx) (es:List Expr) (t:TA):Prop:=
  ∀ (pos:Pos) (pins:List (Addr×Obj)) (s:Shared) (σ:St) (H:Hp) (Q:List V→Hp→Prop),Inv X pins σ H s→t σ H Q→wpAny (model X.prog X.w) X.A (spliced (backTo pos (starEach es X.env))) (AP X pins σ Q) X.xe s
def PS (X:Cx) (st:Stmt) (t:TS):Prop:=
  ∀ (pins:List (Addr×Obj)) (s:Shared) (σ:St) (H:Hp) (D:Ends),Inv X pins σ H s→t D σ H→wpAny (model X.prog X.w) X.A (exec st X.env) (SP X pins D) X.xe s
def PSs (X:Cx) (st:List Stmt) (t:TS):Prop:=
  ∀ (pins:List (Addr×Obj)) (s:Shared) (σ:St) (H:Hp) (D:Ends),Inv X pins σ H s→t D σ H→wpAny (model X.prog X.w) X.A (execs st X.env) (SP X pins D) X.xe s
theorem thn {α:Type} {t:Sem α} {Q Q':α→Shared→Prop} {M:Model} {A:Around} {E:Value→Shared→Prop} {s:Shared} (h:wpAny M A t Q E s) (hQ:∀ a s,Q a s→Q' a s):wpAny M A t Q' E s:=wpAny_mono h hQ fun _ _ x=>x
end L2
namespace L2
open PySem PySem.Spec PyProof.Rows
section
variable {X:Cx}
theorem bin {a b:Expr} {ta tb:TE} (ha:PE X a ta) (hb:PE X b tb) {pins:List (Addr×Obj)} {s:Shared} {σ:St} {H:Hp} {R:V→V→Hp→Prop} (I:Inv X pins σ H s) (h:ta σ H fun x H1=>tb σ H1 fun y H2=>R x y H2)
    {α:Type} {Q:α→Shared→Prop} {f:Value→Value→Sem α}
    (hf:∀ v u s2 x y H2,Inv X pins σ H2 s2→RelV x v→RelV y u→R x y H2→wpAny (model X.prog X.w) X.A (f v u) Q X.xe s2) :
    wpAny (model X.prog X.w) X.A (eval a X.env) (fun v s₁=>wpAny (model X.prog X.w) X.A (eval b X.env) (fun u s₂=>wpAny (model X.prog X.w) X.A (f v u) Q X.xe s₂) X.xe s₁) X.xe s:=by
  refine thn (ha pins s σ H _ I h) fun v s1 ⟨x,H1,I1,r1,q1⟩=>?_
  refine thn (hb pins s1 σ H1 _ I1 q1) fun u s2 ⟨y,H2,I2,r2,q2⟩=>?_
  exact hf v u s2 x y H2 I2 r1 r2 q2
def tVar (i:Nat):TE:=fun σ H Q=>∃ v,σ[i]?=some (some v)∧Q v H
def tC (v:V):TE:=fun _ H Q=>Q v H
theorem pe_var {i:Nat} {x:Str} {pos:Pos} (hN:X.N[i]?=some x) (hv:Vis X.env.scope x) (hd:(x == ("__debug__" : Str))=false:=by decide) (hcd:(x == ("__classdict__" : Str))=false:=by decide):PE X (.Name x pos) (tVar i):=by
  intro pins s σ H Q I h
  obtain ⟨v,e,h⟩:=h
  obtain ⟨m,hn,hl⟩:=I.loc
  obtain ⟨u,r,l⟩:=hl i x v hN e hv
  have fin:EP X pins σ Q u s:=⟨v,H,I,r,h⟩
  rcases l with ⟨hk,hm⟩|⟨hk,c,hc,hcell⟩
  · exact wpAny_Name (wpAny_loadName_local I.ok.kind hk hn hm fin) hd
  · rcases hk with hk|hk
    · exact wpAny_Name (wpAny_loadName_cell I.ok.kind hk hc hcell fin) hd
    · exact wpAny_Name (wpAny_loadName_free I.ok.kind hk hc hcell fin hcd) hd
theorem pe_int {i j pos}:PE X (.Constant (.int i) j pos) (tC (.int i)):=fun _ _ _ H _ I h=>wpAny_Constant_int ⟨.int i,H,I.tok _,⟨_,rfl⟩,h⟩
theorem pe_bl {b j pos}:PE X (.Constant (.bool b) j pos) (tC (.bl b)):=fun _ _ _ H _ I h=>Constant_bool ⟨.bl b,H,I,rfl,h⟩
theorem pe_non {j pos}:PE X (.Constant .none j pos) (tC .non):=fun _ _ _ H _ I h=>Constant_none ⟨.non,H,I,rfl,h⟩
theorem pe_str {x j pos}:PE X (.Constant (.str x) j pos) (tC (.str x)):=fun _ _ _ H _ I h=>Calls.Constant_str ⟨.str x,H,I.tok _,⟨_,rfl⟩,h⟩
def Gl (X:Cx) (x:Str):Prop:=X.env.kindOf x=some .globalImplicit
theorem ld_glob {E:Value→Shared→Prop} {pins:List (Addr×Obj)} {s:Shared} {σ:St} {H:Hp} {x:Str} {u:Value} {pos:Pos} {Q:Value→Shared→Prop} (I:Inv X pins σ H s) (hg:Gl X x) (hm:X.mg x=some u) (h:Q u s)
    (hd:(x == ("__debug__" : Str))=false:=by decide):wpAny (model X.prog X.w) X.A (eval (.Name x pos) X.env) Q E s:=
  Calls.Name_function_global I.ok.kind hg (Calls.loadGlobal_global (by rw [I.ok.glob];exact I.mod.glob.keeps I.bk) hm h) hd
theorem ld_blt {E:Value→Shared→Prop} {pins:List (Addr×Obj)} {s:Shared} {σ:St} {H:Hp} {x:Str} {u:Value} {pos:Pos} {Q:Value→Shared→Prop} (I:Inv X pins σ H s) (hg:Gl X x) (hm:X.mg x=none) (hv:bootBuiltins x=some u) (h:Q u s)
    (hn:x ≠ "__name__":=by decide) (hd:(x == ("__debug__" : Str))=false:=by decide):wpAny (model X.prog X.w) X.A (eval (.Name x pos) X.env) Q E s:=by
  obtain ⟨mb,h1,h2⟩:=I.mod.blt
  exact Calls.Name_function_global I.ok.kind hg (Calls.loadGlobal_builtin (by rw [I.ok.glob];exact I.mod.glob.keeps I.bk) hm (by rw [I.ok.blt];exact h1.keeps I.bk) ((h2 x hn).trans hv) h) hd
theorem pe_glob {x:Str} {v:V} {u:Value} {pos:Pos} (hg:Gl X x) (hm:X.mg x=some u) (r:RelV v u) (hd:(x == ("__debug__" : Str))=false:=by decide):PE X (.Name x pos) (tC v):=
  fun _ _ _ H _ I h=>ld_glob I hg hm ⟨v,H,I,r,h⟩ hd
theorem pe_bltn {x:Str} {v:V} {u:Value} {pos:Pos} (hg:Gl X x) (hm:X.mg x=none) (hv:bootBuiltins x=some u) (r:RelV v u) (hn:x ≠ "__name__":=by decide) (hd:(x == ("__debug__" : Str))=false:=by decide):PE X (.Name x pos) (tC v):=
  fun _ _ _ H _ I h=>ld_blt I hg hm hv ⟨v,H,I,r,h⟩ hn hd
variable {a b:Expr} {ta tb:TE} {pos:Pos}
def PC (X:Cx) (op:CmpOp) (a b:Expr) (t:TE):Prop:=
  ∀ (pins:List (Addr×Obj)) (s:Shared) (σ:St) (H:Hp) (Q:VK),Inv X pins σ H s→t σ H Q→
    wpAny (model X.prog X.w) X.A (eval a X.env) (fun v s₁=>wpAny (model X.prog X.w) X.A (eval b X.env) (fun u s₂=>wpAny (model X.prog X.w) X.A (compareOp op v u) (EP X pins σ Q) X.xe s₂) X.xe s₁) X.xe s
def tB (t:TE):TT:=fun σ H Q=>t σ H fun x H1=>∃ c,x=.bl c∧Q c H1
theorem pt_cmp {op:CmpOp} {t:TE} (h:PC X op a b t) (h1:behindInMarks op b=false:=by first|exact nobehind _ (by decide) (by decide)|rfl):PT X (.Compare a [op] [b] pos) (tB t):=by
  intro pins s σ H Q I hw
  refine wpAny_isTrue_Compare1 (thn (h pins s σ H _ I hw) fun v s1 h1=>thn h1 fun u s2 h2=>thn h2 fun c s3 ⟨x,H1,I1,r1,q1⟩=>?_) h1
  obtain ⟨d,rfl,q⟩:=q1
  cases r1
  exact wpAny_truthy_bool ⟨H1,I1,q⟩
theorem pt_val {e:Expr} {t:TE} (h:PE X e t) (he:∀ whole,isTrue e X.env whole=(do let v ← whole;standAt e.pos;holding [v] (truthy v)):=by intro _;rfl):PT X e (tB t):=by
  intro pins s σ H Q I hw
  refine isTrue_plain (thn (h pins s σ H _ I hw) fun v s1 ⟨x,H1,I1,r1,q1⟩=>?_) (he _)
  obtain ⟨d,rfl,q⟩:=q1
  cases r1
  exact wpAny_truthy_bool ⟨H1,I1,q⟩
variable {tA tB':TT} {rest:List Expr}
def tAnd (t u:TT):TT:=fun σ H Q=>t σ H fun c H1=>if c=true then u σ H1 Q else Q false H1
def tOr (t u:TT):TT:=fun σ H Q=>t σ H fun c H1=>if c=true then Q true H1 else u σ H1 Q
def tNot (t:TT):TT:=fun σ H Q=>t σ H fun c H1=>Q (!c) H1
theorem pw_and1 (ha:PT X a tA):PW X (.BoolOp .And [a] pos) tA:=by
  intro wh pins s σ H Q I h
  refine isTrue_and (thn (ha pins s σ H Q I h) fun c s1 e=>?_)
  cases c with
  |true=>exact isTrue_and_nil e
  |false=>exact e
theorem pw_or1 (ha:PT X a tA):PW X (.BoolOp .Or [a] pos) tA:=by
  intro wh pins s σ H Q I h
  refine isTrue_or (thn (ha pins s σ H Q I h) fun c s1 e=>?_)
  cases c with
  |false=>exact isTrue_or_nil e
  |true=>exact e
theorem pw_and (ha:PT X a tA) (hb:PW X (.BoolOp .And (b::rest) pos) tB'):PW X (.BoolOp .And (a::b::rest) pos) (tAnd tA tB'):=by
  intro wh pins s σ H Q I h
  refine isTrue_and (thn (ha pins s σ H _ I h) fun c s1 ⟨H1,I1,q1⟩=>?_)
  cases c with
  |true=>exact hb wh pins s1 σ H1 Q I1 q1
  |false=>exact ⟨H1,I1,q1⟩
theorem pw_or (ha:PT X a tA) (hb:PW X (.BoolOp .Or (b::rest) pos) tB'):PW X (.BoolOp .Or (a::b::rest) pos) (tOr tA tB'):=by
  intro wh pins s σ H Q I h
  refine isTrue_or (thn (ha pins s σ H _ I h) fun c s1 ⟨H1,I1,q1⟩=>?_)
  cases c with
  |true=>exact ⟨H1,I1,q1⟩
  |false=>exact hb wh pins s1 σ H1 Q I1 q1
theorem pt_not (ha:PT X a tA):PT X (.UnaryOp .Not a pos) (tNot tA):=by
  intro pins s σ H Q I h
  exact isTrue_not (ha pins s σ H (fun c H1=>Q (!c) H1) I h)
def tAndV (ta tb:TE):TE:=fun σ H Q=>ta σ H fun x H1=>∃ c,x=.bl c∧if c=true then tb σ H1 Q else Q (.bl false) H1
def tOrV (ta tb:TE):TE:=fun σ H Q=>ta σ H fun x H1=>∃ c,x=.bl c∧if c=true then Q (.bl true) H1 else tb σ H1 Q
theorem pe_one {op} {t:TE} (h:PE X a t):PE X (.BoolOp op [a] pos) t:=fun pins s σ H Q I hw=>BoolOp_one (h pins s σ H Q I hw)
theorem pe_and (ha:PE X a ta) (hb:PE X (.BoolOp .And (b::rest) pos) tb):PE X (.BoolOp .And (a::b::rest) pos) (tAndV ta tb):=by
  intro pins s σ H Q I h
  refine BoolOp_and (thn (ha pins s σ H _ I h) fun v s1 ⟨x,H1,I1,r1,q1⟩=>?_)
  obtain ⟨c,rfl,q1⟩:=q1
  cases r1
  refine wpAny_truthy_bool ?_
  cases c with
  |true=>exact hb pins s1 σ H1 Q I1 q1
  |false=>exact ⟨.bl false,H1,I1,rfl,q1⟩
theorem pe_or (ha:PE X a ta) (hb:PE X (.BoolOp .Or (b::rest) pos) tb):PE X (.BoolOp .Or (a::b::rest) pos) (tOrV ta tb):=by
  intro pins s σ H Q I h
  refine BoolOp_or (thn (ha pins s σ H _ I h) fun v s1 ⟨x,H1,I1,r1,q1⟩=>?_)
  obtain ⟨c,rfl,q1⟩:=q1
  cases r1
  refine wpAny_truthy_bool ?_
  cases c with
  |false=>exact hb pins s1 σ H1 Q I1 q1
  |true=>exact ⟨.bl true,H1,I1,rfl,q1⟩
def tIf (t:TT) (ta tb:TE):TE:=fun σ H Q=>t σ H fun c H1=>if c=true then ta σ H1 Q else tb σ H1 Q
theorem pe_ifExp {c:Expr} (hc:PT X c tA) (ha:PE X a ta) (hb:PE X b tb):PE X (.IfExp c a b pos) (tIf tA ta tb):=by
  intro pins s σ H Q I h
  refine wpAny_IfExp (thn (hc pins s σ H _ I h) fun d s1 ⟨H1,I1,q1⟩=>?_)
  cases d with
  |true=>exact ha pins s1 σ H1 Q I1 q1
  |false=>exact hb pins s1 σ H1 Q I1 q1
end
end L2
namespace L2
open PySem PySem.Spec PyProof.Rows
def SqL (K:PySem.W.Frag) (H:Hp) (a:Addr) (xs:List V):Prop:=
  Rd H a (.lst xs)∨
    ∃ (o:Obj) (its:Array Value) (n:Nat),K.lookup a=some o∧o.cls=.type "list"∧o.dict=none∧o.data=.seq its n∧its.size≤sizeLine∧Vals xs its.toList
def SqT (K:PySem.W.Frag) (H:Hp) (a:Addr) (xs:List V):Prop:=
  Rd H a (.tup xs)∨
    ∃ (o:Obj) (its:Array Value) (n:Nat),K.lookup a=some o∧o.cls=.type "tuple"∧o.data=.seq its n∧its.size≤sizeLine∧Vals xs its.toList
def absV:Value→Option V
  |.none=>some .non
  |.bool b=>some (.bl b)
  |.int i _=>some (.int i)
  |.str x _=>some (.str x)
  |.bytes b _=>some (.byt b)
  |.float b _=>some (.flt b)
  |.ref a=>some (.ref a)
  |.type n=>some (.ty n)
  |_=>none
theorem RelV.abs {x:V} {u:Value} (r:RelV x u):absV u=some x:=by
  cases x with
  |non=>cases r;rfl
  |bl _=>cases r;rfl
  |int _=>obtain ⟨t,rfl⟩:=r;rfl
  |str _=>obtain ⟨t,rfl⟩:=r;rfl
  |byt _=>obtain ⟨t,rfl⟩:=r;rfl
  |flt _=>obtain ⟨t,rfl⟩:=r;rfl
  |ref _=>cases r;rfl
  |ty _=>cases r;rfl
theorem RelV.inj {x y:V} {u:Value} (r:RelV x u) (q:RelV y u):x=y:=Option.some.inj (r.abs.symm.trans q.abs)
theorem Vals.inj:∀ {xs ys:List V} {us:List Value},Vals xs us→Vals ys us→xs=ys
  |_,_,_,.nil,.nil=>rfl
  |_,_,_,.cons r t,.cons r' t'=>by rw [r.inj r',Vals.inj t t']
section
variable {X:Cx} {pins:List (Addr×Obj)} {σ:St} {H:Hp} {s:Shared} {a:Addr} {xs ys:List V}
theorem SqL.of {K:PySem.W.Frag} (h:H a=some (.lst xs)):SqL K H a xs:=.inl (.inl h)
theorem SqT.of {K:PySem.W.Frag} (h:H a=some (.tup xs)):SqT K H a xs:=.inl (.inl h)
theorem Inv.list (I:Inv X pins σ H s) (h:SqL X.K H a xs):∃ its:List Value,Vals xs its∧PlainL s.heap a its.toArray∧xs.length≤sizeLine:=by
  rcases h with h|⟨o,its,n,hk,hc,hd,hs,hz,r⟩
  · obtain ⟨z,its,n,r,e⟩:=h.ok I.hok
    exact ⟨its,r,⟨_,n,e,rfl,rfl,rfl⟩,z⟩
  · refine ⟨its.toList,r,⟨o,n,I.kIn a o hk,hc,hd,by simpa using hs⟩,?_⟩
    have e:=r.length
    simp only [Array.length_toList] at e
    omega
theorem Inv.tuple (I:Inv X pins σ H s) (h:SqT X.K H a xs):∃ its:List Value,Vals xs its∧IsTup s.heap a its.toArray∧xs.length≤sizeLine:=by
  rcases h with h|⟨o,its,n,hk,hc,hs,hz,r⟩
  · obtain ⟨z,its,r,p⟩:=h.ok I.hok
    exact ⟨its,r,p,z⟩
  · refine ⟨its.toList,r,⟨o,I.kIn a o hk,hc,n,by simpa using hs⟩,?_⟩
    have e:=r.length
    simp only [Array.length_toList] at e
    omega
theorem Inv.list_inj (I:Inv X pins σ H s) (h:SqL X.K H a xs) (h':SqL X.K H a ys):xs=ys:=by
  obtain ⟨its,r,⟨o,n,e,_,_,d⟩,_⟩:=I.list h
  obtain ⟨its',r',⟨o',n',e',_,_,d'⟩,_⟩:=I.list h'
  rw [e] at e';cases e'
  rw [d] at d'
  injection d' with d1 _
  have:its=its':=by simpa using congrArg Array.toList d1
  subst this
  exact r.inj r'
theorem Inv.tuple_inj (I:Inv X pins σ H s) (h:SqT X.K H a xs) (h':SqT X.K H a ys):xs=ys:=by
  obtain ⟨its,r,⟨o,e,_,n,d⟩,_⟩:=I.tuple h
  obtain ⟨its',r',⟨o',e',_,n',d'⟩,_⟩:=I.tuple h'
  rw [e] at e';cases e'
  rw [d] at d'
  injection d' with d1 _
  have:its=its':=by simpa using congrArg Array.toList d1
  subst this
  exact r.inj r'
end
abbrev Cx.wish (X:Cx) (E:Value→Shared→Prop):Cx:={ X with xe:=E }
abbrev Cx.nox (X:Cx):Cx:=X.wish fun _ _=>False
theorem Cx.Ok.wish {X:Cx} (ok:X.Ok) (E:Value→Shared→Prop):(X.wish E).Ok:=
  ⟨ok.mod,ok.kind,ok.glob,ok.blt,ok.above,ok.inj,ok.has,ok.cab,ok.hd,ok.frames,ok.stk,ok.exf,ok.bs,ok.bsz,ok.noex,ok.exfs,ok.funs,ok.frf⟩
theorem Cx.Ok.unwish {X:Cx} {E:Value→Shared→Prop} (ok:(X.wish E).Ok):X.Ok:=
  ⟨ok.mod,ok.kind,ok.glob,ok.blt,ok.above,ok.inj,ok.has,ok.cab,ok.hd,ok.frames,ok.stk,ok.exf,ok.bs,ok.bsz,ok.noex,ok.exfs,ok.funs,ok.frf⟩
section
variable {X:Cx} {pins:List (Addr×Obj)} {σ:St} {H:Hp} {s:Shared} {E:Value→Shared→Prop}
theorem Inv.wish (I:Inv X pins σ H s) (E:Value→Shared→Prop):Inv (X.wish E) pins σ H s:=⟨I.ok.wish E,I.os,I.bare,I.base,I.loc,I.cell,I.free,I.freeC,I.pin,I.hok,I.len⟩
theorem Inv.unwish (I:Inv (X.wish E) pins σ H s):Inv X pins σ H s:=⟨I.ok.unwish,I.os,I.bare,I.base,I.loc,I.cell,I.free,I.freeC,I.pin,I.hok,I.len⟩
theorem SP.unwish {D:Ends} {f:Flow} {s':Shared} (h:SP (X.wish E) pins D f s'):SP X pins D f s':=by
  cases f with
  |next=>obtain ⟨σ',H',I,q⟩:=h;exact ⟨σ',H',I.unwish,q⟩
  |brk=>obtain ⟨σ',H',I,q⟩:=h;exact ⟨σ',H',I.unwish,q⟩
  |cont=>obtain ⟨σ',H',I,q⟩:=h;exact ⟨σ',H',I.unwish,q⟩
  |ret u=>obtain ⟨v,σ',H',I,r,q⟩:=h;exact ⟨v,σ',H',I.unwish,r,q⟩
theorem PSs.nox {st:List Stmt} {t:TS} (h:PSs X.nox st t):PSs X st t:=fun pins s σ H D I hw=>
  wpAny_mono (h pins s σ H D (I.wish _) hw) (fun _ _ q=>q.unwish) fun _ _ z=>False.elim z
end
section
variable {X:Cx} {st:Stmt} {rest:List Stmt} {t u:TS} {e:Expr} {te:TE} {pos:Pos}
def tNext:TS:=fun D σ H=>D.nx σ H
def tSeq (t u:TS):TS:=fun D σ H=>t { D with nx:=u D } σ H
theorem pss_nil:PSs X [] tNext:=fun _ _ σ H _ I h=>wpAny_execs_nil ⟨σ,H,I,h⟩
theorem pss_cons (h1:PS X st t) (h2:PSs X rest u):PSs X (st::rest) (tSeq t u):=by
  intro pins s σ H D I h
  refine wpAny_execs_cons (thn (h1 pins s σ H { D with nx:=u D } I h) fun f s1 q=>?_)
  cases f with
  | next=>
    obtain ⟨σ',H',I',q⟩:=q
    exact h2 pins s1 σ' H' D I' q
  |ret v=>exact q
  |brk=>exact q
  |cont=>exact q
theorem pss_one (h1:PS X st t):PSs X [st] t:=by
  intro pins s σ H D I h
  refine wpAny_execs_cons (thn (h1 pins s σ H D I h) fun f s1 q=>?_)
  cases f with
  |next=>exact wpAny_execs_nil q
  |ret v=>exact q
  |brk=>exact q
  |cont=>exact q
theorem Inv.quiet {pins:List (Addr×Obj)} {σ:St} {H:Hp} {s:Shared} (I:Inv X pins σ H s):interactive X.env=false:=by simp [interactive,I.ok.kind]
def tDrop (te:TE):TS:=fun D σ H=>te σ H fun _ H1=>D.nx σ H1
theorem ps_expr (he:PE X e te) (hs:swapsWith e none pos.line X.env=pure false:=by rfl):PS X (.Expr e pos) (tDrop te):=by
  intro pins s σ H D I h
  exact wpAny_Expr_any (thn (he pins s σ H _ I h) fun v s1 ⟨x,H1,I1,r1,q1⟩=>⟨σ,H1,I1,q1⟩) I.quiet hs
def tRet (te:TE):TS:=fun D σ H=>te σ H D.rt
theorem ps_ret (he:PE X e te):PS X (.Return (some e) pos) (tRet te):=by
  intro pins s σ H D I h
  exact wpAny_Return_some (thn (he pins s σ H _ I h) fun v s1 ⟨x,H1,I1,r1,q1⟩=>⟨x,σ,H1,I1,r1,q1⟩)
def tIfS (c:TT) (t u:TS):TS:=fun D σ H=>c σ H fun b H1=>if b=true then t D σ H1 else u D σ H1
theorem ps_if {c:Expr} {a b:List Stmt} {tc:TT} (hc:PT X c tc) (ha:PSs X a t) (hb:PSs X b u):PS X (.If c a b pos) (tIfS tc t u):=by
  intro pins s σ H D I h
  refine wpAny_If (thn (hc pins s σ H _ I h) fun d s1 ⟨H1,I1,q1⟩=>?_)
  cases d with
  |true=>exact ha pins s1 σ H1 D I1 q1
  |false=>exact hb pins s1 σ H1 D I1 q1
def tNever:TS:=fun _ _ _=>False
theorem ps_never:PS X st tNever:=fun _ _ _ _ _ _ h=>h.elim
end
abbrev TG:=V→St→Hp→(St→Hp→Prop)→Prop
abbrev TGs:=List V→St→Hp→(St→Hp→Prop)→Prop
def PG (X:Cx) (target:Expr) (t:TG):Prop:=
  ∀ (pins:List (Addr×Obj)) (s:Shared) (σ:St) (H:Hp) (v:V) (u:Value) (Q:St→Hp→Prop),Inv X pins σ H s→RelV v u→t v σ H Q→
    wpAny (model X.prog X.w) X.A (assign target X.env u) (fun _ s'=>∃ σ' H',Inv X pins σ' H' s'∧Q σ' H') X.xe s
def PGs (X:Cx) (ts:List Expr) (t:TGs):Prop:=
  ∀ (pins:List (Addr×Obj)) (s:Shared) (σ:St) (H:Hp) (vs:List V) (us:List Value) (Q:St→Hp→Prop),Inv X pins σ H s→Vals vs us→t vs σ H Q→
    wpAny (model X.prog X.w) X.A (assignInOrder ((assignEach ts X.env).map (·.2)) us) (fun _ s'=>∃ σ' H',Inv X pins σ' H' s'∧Q σ' H') X.xe s
abbrev TSet:=V→V→V→Hp→(Hp→Prop)→Prop
def PSet (X:Cx) (t:TSet):Prop:=
  ∀ (pins:List (Addr×Obj)) (s:Shared) (σ:St) (H:Hp) (o i v:V) (ov iv u:Value) (Q:Hp→Prop),Inv X pins σ H s→RelV o ov→RelV i iv→RelV v u→t o i v H Q→
    wpAny (model X.prog X.w) X.A (setItem ov iv u) (fun _ s'=>∃ H',Inv X pins σ H' s'∧Q H') X.xe s
abbrev TIp:=V→V→Hp→VK→Prop
def PIp (X:Cx) (op:Operator) (t:TIp):Prop:=
  ∀ (pins:List (Addr×Obj)) (s:Shared) (σ:St) (H:Hp) (x y:V) (v u:Value) (Q:VK),Inv X pins σ H s→RelV x v→RelV y u→t x y H Q→
    wpAny (model X.prog X.w) X.A (inplaceOp op v u) (EP X pins σ Q) X.xe s
section
variable {X:Cx} {pos:Pos}
def gName (i:Nat):TG:=fun v σ H Q=>Q (σ.set i (some v)) H
theorem pg_name {i:Nat} {x:Str} (hN:X.N.Nodup) (hi:X.N[i]?=some x) (hx:Loc X.env.scope x) (hf:X.fn x=true∨X.env.scope.names.lookup x=some .local:=by first|exact .inl rfl|exact .inr rfl|assumption):PG X (.Name x pos) (gName i):=by
  intro pins s σ H v u Q I r h
  exact wpAny_assign_Name (store_ok I hN hi hx r (fun s' I'=>⟨_,H,I',h⟩) hf)
def gNil:TGs:=fun vs σ H Q=>vs=[]∧Q σ H
def gCons (t:TG) (u:TGs):TGs:=fun vs σ H Q=>∃ v r,vs=v::r∧t v σ H fun σ' H'=>u r σ' H' Q
theorem pgs_nil:PGs X [] gNil:=by
  intro pins s σ H vs us Q I r h
  obtain ⟨e,h⟩:=h
  subst e
  cases r
  exact assignInOrder_nil ⟨σ,H,I,h⟩
theorem pgs_cons {e:Expr} {es:List Expr} {t:TG} {u:TGs} (h1:PG X e t) (h2:PGs X es u)
    (hs:(assignEach (e::es) X.env).map (·.2)=assign e X.env::(assignEach es X.env).map (·.2):=by rfl):PGs X (e::es) (gCons t u):=by
  intro pins s σ H vs us Q I r h
  obtain ⟨v,vr,e1,h⟩:=h
  subst e1
  cases r with
  | cons r rr=>
    rw [hs]
    refine assignInOrder_cons (thn (h1 pins s σ H _ _ _ I r h) fun _ s1 ⟨σ1,H1,I1,q1⟩=>?_)
    exact h2 pins s1 σ1 H1 _ _ Q I1 rr q1
def gTup (K:PySem.W.Frag) (n:Nat) (t:TGs):TG:=fun v σ H Q=>∃ a xs,v=.ref a∧SqT K H a xs∧xs.length=n∧t xs σ H Q
theorem pg_tup {es:List Expr} {k:Nat} {t:TGs} {n:Nat} (hc:X.calm=true) (h:PGs X es t)
    (hn:(assignEach es X.env).length=n:=by rfl) (hst:(assignEach es X.env).findIdx? (·.1)=none:=by rfl):PG X (.Tuple es k pos) (gTup X.K n t):=by
  intro pins s σ H v u Q I r hw
  obtain ⟨a,xs,e1,hq,hl,hw⟩:=hw
  subst e1
  cases r
  obtain ⟨its,rv,ht,hz⟩:=I.tuple hq
  refine assign_Tuple_tuple (I.ok.hd hc) ht (by simp [hn,← hl,rv.length]) hst fun h' hx=>?_
  have I1:Inv X pins σ H { s with heap:=h' }:=I.kept (t':=s.toks) fun b o e=>hx b o (Nat.ne_of_lt (Heap.lt_size e)) e
  exact h pins _ σ H xs _ Q I1 (by simpa using rv) hw
def gSub (to ti:TE) (t:TSet):TG:=fun v σ H Q=>to σ H fun o H1=>ti σ H1 fun i H2=>t o i v H2 fun H3=>Q σ H3
theorem pg_sub {o i:Expr} {to ti:TE} {t:TSet} (ho:PE X o to) (hi:PE X i ti) (hs:PSet X t)
    (ha:∀ v,assign (.Subscript o i pos) X.env v=(do
      let ov ← holding [v] (eval o X.env)
      let iv ← holding [v,ov] (eval i X.env)
      standAt pos
      holding [v,ov,iv] (setItem ov iv v)
      release [v,ov,iv] []):=by intro _;rfl):PG X (.Subscript o i pos) (gSub to ti t):=by
  intro pins s σ H v u Q I r h
  rw [ha]
  refine wpAny_bind (wpAny_holding (thn (ho pins s σ H _ I h) fun ov s1 ⟨x,H1,I1,r1,q1⟩=>?_))
  refine wpAny_bind (wpAny_holding (thn (hi pins s1 σ H1 _ I1 q1) fun iv s2 ⟨y,H2,I2,r2,q2⟩=>?_))
  refine wpAny_bind (wpAny_standAt (wpAny_bind (wpAny_holding (thn (hs pins s2 σ H2 x y v ov iv u _ I2 r1 r2 r q2) fun _ s3 ⟨H3,I3,q3⟩=>?_))))
  exact wpAny_release ⟨σ,H3,I3,q3⟩
def tAsg (te:TE) (g:TG):TS:=fun D σ H=>te σ H fun x H1=>g x σ H1 D.nx
theorem ps_asg {tg e:Expr} {te:TE} {g:TG} (he:PE X e te) (hg:PG X tg g) (hs:swapsWithSole [tg] e pos.line X.env=pure false:=by rfl) (hw:swappedStores [tg] e X.env=pure none:=by rfl)
    (h1:(assignEach [tg] X.env).map (·.2)=[assign tg X.env]:=by rfl):PS X (.Assign [tg] e pos) (tAsg te g):=by
  intro pins s σ H D I h
  refine wpAny_Assign_stores (thn (he pins s σ H _ I h) fun v s1 ⟨x,H1,I1,r1,q1⟩=>?_) hs hw
  rw [h1]
  exact thn (hg pins s1 σ H1 x v _ I1 r1 q1) fun _ s2 q=>q
theorem ps_set {i:Nat} {x:Str} {e:Expr} {te:TE} {pos':Pos} (hN:X.N.Nodup) (hi:X.N[i]?=some x) (hx:Loc X.env.scope x) (he:PE X e te) (hs:swapsWith e (some (.Name x pos')) pos.line X.env=pure false:=by rfl) (hf:X.fn x=true∨X.env.scope.names.lookup x=some .local:=by first|exact .inl rfl|exact .inr rfl|assumption) :
    PS X (.Assign [.Name x pos'] e pos) (tAsg te (gName i)):=by
  intro pins s σ H D I h
  refine wpAny_Assign_Name (thn (he pins s σ H _ I h) fun v s1 ⟨y,H1,I1,r1,q1⟩=>?_) hs
  exact store_ok I1 hN hi hx r1 (fun s2 I2=>⟨_,H1,I2,q1⟩) hf
def tPar (i j:Nat) (ta:TA):TS:=fun D σ H=>ta σ H fun vs H1=>∃ v w,vs=[v,w]∧D.nx ((σ.set i (some v)).set j (some w)) H1
theorem ps_par {i j:Nat} {x y:Str} {a b:Expr} {ta:TA} {px py pt:Pos} {kt k2 pt2} (hc:X.calm=true) (hN:X.N.Nodup) (hi:X.N[i]?=some x) (hj:X.N[j]?=some y) (hij:i≠j)
    (hx:X.env.scope.names.lookup x=some .local) (hy:X.env.scope.names.lookup y=some .local) (ha:PA X [a,b] ta)
    (hw:swappedStores [.Tuple [.Name x px,.Name y py] kt pt] (.Tuple [a,b] k2 pt2) X.env=pure (some [x,y]))
    (hs:swapsWithSole [.Tuple [.Name x px,.Name y py] kt pt] (.Tuple [a,b] k2 pt2) pos.line X.env=pure false:=by rfl) :
    PS X (.Assign [.Tuple [.Name x px,.Name y py] kt pt] (.Tuple [a,b] k2 pt2) pos) (tPar i j ta):=by
  intro pins s σ H D I h
  rw [exec_Assign_arm]
  refine wpAny_bind (wpAny_standAt ?_)
  rw [hs]
  refine wpAny_bind (wpAny_pure ?_)
  rw [if_neg (by decide)]
  refine wpAny_bind (Tuple_ (thn (ha _ pins s σ H _ I h) fun us s1 ⟨vs,H1,I1,r1,q1⟩=>?_))
  obtain ⟨v,w,e1,q1⟩:=q1
  subst e1
  obtain ⟨u1,u2,rfl,rv,rw'⟩:∃ u1 u2,us=[u1,u2]∧RelV v u1∧RelV w u2:=by
    cases r1 with
    | cons p q=>
      cases q with
      | cons p' q'=>
        cases q'
        exact ⟨_,_,rfl,p,p'⟩
  refine wpAny_newObj_type ?_ (by show 2≤sizeLine;decide)
  have I2:Inv X pins σ H1 { s1 with heap:=s1.heap.push { cls:=.type "tuple",data:=.seq [u1,u2].toArray } }:=I1.kept (t':=s1.toks) fun b o e=>Heap.get?_push_of_some _ e
  rw [hw]
  refine wpAny_bind (wpAny_pure ?_)
  show wpAny (model X.prog X.w) X.A (do rule "assign.swapped-stores";let items ← unpackItems (.ref s1.heap.objs.size) 2 none;assignInOrder [fun v=>bindName X.env y v,fun v=>bindName X.env x v] items.reverse;pure Flow.next) _ _ _
  refine wpAny_bind (wpAny_rule (wpAny_bind (unpackItems_tuple (items:=#[u1,u2]) (I.ok.hd hc) (IsTup.new s1.heap _) fun h' hx'=>?_)))
  have I3:=I2.kept (h':=h') (t':=s1.toks) fun b o e=>hx' b o (Nat.ne_of_lt (Heap.lt_size e)) e
  show wpAny _ _ (assignInOrder [fun v=>bindName X.env y v,fun v=>bindName X.env x v] [u2,u1] >>= fun _=>pure Flow.next) _ _ _
  refine wpAny_bind (assignInOrder_cons (wpAny_bindName (store_ok I3 hN hj (.inl hy) rw' (fun s2 I4=>?_) (.inr hy))))
  refine assignInOrder_cons (wpAny_bindName (store_ok I4 hN hi (.inl hx) rv (fun s3 I5=>assignInOrder_nil (wpAny_pure ?_)) (.inr hx)))
  rw [List.set_comm _ _ (Ne.symm hij)] at I5
  exact ⟨_,H1,I5,q1⟩
def tAug (i:Nat) (te:TE) (ti:TIp):TS:=fun D σ H=>∃ x,σ[i]?=some (some x)∧te σ H fun y H1=>ti x y H1 fun z H2=>D.nx (σ.set i (some z)) H2
theorem ps_aug {i:Nat} {x:Str} {e:Expr} {te:TE} {op:Operator} {ti:TIp} {pos':Pos} (hN:X.N.Nodup) (hi:X.N[i]?=some x) (hx:Loc X.env.scope x) (he:PE X e te) (ho:PIp X op ti) (hf:X.fn x=true∨X.env.scope.names.lookup x=some .local:=by first|exact .inl rfl|exact .inr rfl|assumption) :
    PS X (.AugAssign (.Name x pos') op e pos) (tAug i te ti):=by
  intro pins s σ H D I h
  obtain ⟨v,e1,h⟩:=h
  obtain ⟨m,hn,hl⟩:=I.loc
  have vis:Vis X.env.scope x:=by rcases hx with k|k;exact .inl k;exact .inr (.inl k)
  obtain ⟨u,r,l⟩:=hl i x v hi e1 vis
  refine wpAny_AugAssign_Name ?_
  have go:wpAny (model X.prog X.w) X.A (eval e X.env) (fun w s₂=>wpAny (model X.prog X.w) X.A (inplaceOp op u w) (fun r s₃=>wpAny (model X.prog X.w) X.A (storeName X.env x r) (fun _=>SP X pins D .next) X.xe s₃) X.xe s₂) X.xe s:=by
    refine thn (he pins s σ H _ I h) fun w s1 ⟨y,H1,I1,r1,q1⟩=>?_
    refine thn (ho pins s1 σ H1 v y u w _ I1 r r1 q1) fun z s2 ⟨zv,H2,I2,r2,q2⟩=>?_
    exact store_ok I2 hN hi hx r2 (fun s3 I3=>⟨_,H2,I3,q2⟩) hf
  rcases l with ⟨hk,hm⟩|⟨hk,c,hc,hcell⟩
  · exact wpAny_loadName_local I.ok.kind hk hn hm go
  · rcases hk with hk|hk
    · exact wpAny_loadName_cell I.ok.kind hk hc hcell go
    · rcases hx with k|k
      · have:X.env.scope.names.lookup x=some .free:=hk
        rw [k] at this;cases this
      · have:X.env.scope.names.lookup x=some .free:=hk
        rw [k] at this;cases this
end
section
variable {X:Cx} {pos:Pos}
end
structure It where
  go:Nat→Hp→Prop
  yld:Nat→Hp→V→Hp→Prop
  stop:Nat→Hp→Prop
def FpOk (X:Cx) (pins:List (Addr×Obj)) (H:Hp) (b:Addr):Prop:=
  H b=none∧b≠X.env.locals∧b∉X.fs∧(b∈X.ex∨X.s₀.heap.objs.size≤b)∧(∀ x c,X.env.cells.lookup x=some c→c≠b)∧∀ p∈X.pn++pins,p.1≠b
theorem Inv.fpOk {X:Cx} {pins:List (Addr×Obj)} {σ:St} {H H':Hp} {s:Shared} {b:Addr} (I:Inv X pins σ H s) (hb:s.heap.objs.size≤b) (hn:H' b=none):FpOk X pins H' b:=by
  refine ⟨hn,Nat.ne_of_gt (Nat.lt_of_lt_of_le I.lt hb),I.nofs hb,.inr (Nat.le_trans I.sz hb),fun x c e z=>?_,fun p hp z=>?_⟩
  · obtain ⟨v,q⟩:=I.cell x c e
    exact absurd (Nat.lt_of_lt_of_le q.lt (by rw [z];exact hb)) (Nat.lt_irrefl _)
  · exact absurd (Nat.lt_of_lt_of_le (Heap.lt_size (I.pin p hp).1) (by rw [z];exact hb)) (Nat.lt_irrefl _)
structure Turn (P:Program) (w:World) (K:PySem.W.Frag) (tg:Expr) (J:It) (fp:List Addr) (it:Addr) (tn:Nat→Heap→Prop):Prop where
  mem:it∈fp
  obj:∀ i h,tn i h→∀ b∈fp,∃ o,h.get? b=some o∧∀ v,o.data≠.cell v
  keep:∀ i h h',tn i h→(∀ b∈fp,∀ o,h.get? b=some o→h'.get? b=some o)→tn i h'
  item:∀ (X:Cx),X.prog=P→X.w=w→X.K=K→X.calm=true→∀ (i:Nat) (pins:List (Addr×Obj)) (s:Shared) (σ:St) (H:Hp) (E:Value→Shared→Prop),Inv X pins σ H s→(∀ b∈fp,FpOk X pins H b)→tn i s.heap→J.go i H→
    wpAny (model P w) X.A (pyNext (.ref it)) (fun r s1=>∃ u,r=some u∧
      wpAny (model P w) X.A (letOwnedTupleGo tg (.ref it) u) (fun _ s2=>∃ x H',Inv X pins σ H' s2∧RelV x u∧J.yld i H x H'∧tn (i+1) s2.heap∧∀ b∈fp,H' b=none) E s1) E s
  done:∀ (X:Cx),X.prog=P→X.w=w→X.K=K→X.calm=true→∀ (i:Nat) (pins:List (Addr×Obj)) (s:Shared) (σ:St) (H:Hp) (E:Value→Shared→Prop),Inv X pins σ H s→(∀ b∈fp,FpOk X pins H b)→tn i s.heap→J.stop i H→
    wpAny (model P w) X.A (pyNext (.ref it)) (fun r s1=>r=none∧Inv X pins σ H s1) E s
  self:∀ (A:Around) (i:Nat) (s:Shared) (Q:Value→Shared→Prop) (E:Value→Shared→Prop),tn i s.heap→Q (.ref it) s→wpAny (model P w) A (pyIter (.ref it)) Q E s
abbrev TI:=St→Hp→(It→Hp→Prop)→Prop
def PIE (X:Cx) (pins:List (Addr×Obj)) (σ:St) (tg:Expr) (R:It→Hp→Prop) (itv:Value) (s2:Shared):Prop:=
  ∃ (it:Addr) (fp:List Addr) (tn:Nat→Heap→Prop) (J:It) (H':Hp),itv=.ref it∧Inv X pins σ H' s2∧Turn X.prog X.w X.K tg J fp it tn∧tn 0 s2.heap∧(∀ b∈fp,FpOk X pins H' b)∧R J H'
def PI (X:Cx) (tg iter:Expr) (wi:TI):Prop:=
  ∀ (pins:List (Addr×Obj)) (s:Shared) (σ:St) (H:Hp) (R:It→Hp→Prop),Inv X pins σ H s→wi σ H R→
    wpAny (model X.prog X.w) X.A (eval iter X.env) (fun v s1=>wpAny (model X.prog X.w) X.A (pyIter v) (PIE X pins σ tg R) X.xe s1) X.xe s
theorem go_of {M:Model} {A:Around} {E:Value→Shared→Prop} {s:Shared} {tg:Expr} {it:Addr} {u:Value} {o:Obj} {n:String} {vs:Array Value} {Q:Unit→Shared→Prop} (ho:s.heap.get? it=some o) (hc:o.cls=.type n) (hd:o.data=.fields vs)
    (hn:["enumerate","zip","dict_itemiterator","dict_reverseitemiterator","odict_iterator","itertools.zip_longest","itertools.pairwise"].contains n=false) (hQ:Q () s):wpAny M A (letOwnedTupleGo tg (.ref it) u) Q E s:=by
  unfold letOwnedTupleGo
  cases tg <;> first
    |exact wpAny_pure hQ
    |(cases u <;> first
        |exact wpAny_pure hQ
        | (refine wpAny_bind (wpAny_load ho ?_)
           rw [hc,hd]
           show wpAny M A (if (["enumerate","zip","dict_itemiterator","dict_reverseitemiterator","odict_iterator","itertools.zip_longest","itertools.pairwise"].contains n && vs[0]? == some (rawInt _))=true then _ else _) Q E s
           rw [if_neg (by intro h;rw [hn,Bool.false_and] at h;cases h)]
           exact wpAny_pure hQ))
def Itl (K:PySem.W.Frag) (a:Addr):It:=
  ⟨fun i H=>∃ xs x,SqL K H a xs∧xs[i]?=some x,fun i H x H'=>H'=H∧∀ xs,SqL K H a xs→xs[i]?=some x,fun i H=>∃ xs,SqL K H a xs∧xs.length≤i⟩
def Itt (K:PySem.W.Frag) (a:Addr):It:=
  ⟨fun i H=>∃ xs x,SqT K H a xs∧xs[i]?=some x,fun i H x H'=>H'=H∧∀ xs,SqT K H a xs→xs[i]?=some x,fun i H=>∃ xs,SqT K H a xs∧xs.length≤i⟩
def Itr (lo:Int) (n:Nat):It:=⟨fun i _=>i<n,fun i H x H'=>H'=H∧x=.int (lo+i),fun i _=>n≤i⟩
theorem turn_list {P:Program} {w:World} {K:PySem.W.Frag} {tg:Expr} (a it:Addr):Turn P w K tg (Itl K a) [it] it (fun i h=>h.IsListIter it a i) where
  mem:=by simp
  obj:=fun i h st b hb=>by
    have e:b=it:=by simpa using hb
    subst e
    obtain ⟨o,e,c,d⟩:=st
    exact ⟨o,e,fun v z=>by rw [d] at z;cases z⟩
  keep:=fun i h h' st k=>st.at fun o e=>k it (by simp) o e
  item:=by
    intro X hP hw hK hc i pins s σ H E I hf st hg
    subst hP hw hK
    obtain ⟨xs,x,hq,hx⟩:=hg
    obtain ⟨its,rv,p,hz⟩:=I.list hq
    obtain ⟨u,hu,ru⟩:=rv.get hx
    obtain ⟨f0,f1,f2,f3,f4,f5⟩:=hf it (by simp)
    refine wpAny_pyNext_list_item st p.isList (x:=u) (by simpa using hu) fun h' st' sb=>?_
    have I1:Inv X pins σ H { s with heap:=h' }:=I.turned (t':=s.toks) (fun b o hb e=>(sb.2 b hb).trans e) f0 f1 f3 f4 f5
    obtain ⟨o,e,c,d⟩:=id st'
    exact ⟨u,rfl,go_of (s:={ s with heap:=h' }) e c d (by decide) ⟨x,H,I1,ru,⟨rfl,fun ys hy=>by rw [I.list_inj hy hq];exact hx⟩,st',fun b hb=>(hf b hb).1⟩⟩
  done:=by
    intro X hP hw hK hc i pins s σ H E I hf st hg
    subst hP hw hK
    obtain ⟨xs,hq,hx⟩:=hg
    obtain ⟨its,rv,p,hz⟩:=I.list hq
    obtain ⟨f0,f1,f2,f3,f4,f5⟩:=hf it (by simp)
    have hl:=rv.length
    exact wpAny_pyNext_list_end (I.ok.hd hc) st p.isList (by simp;omega) fun h' eb=>⟨rfl,I.turned (t':=s.toks) (fun b o hb e=>eb b o hb e) f0 f1 f3 f4 f5⟩
  self:=fun _ _ _ _ _ st h=>wpAny_pyIter_listiter st h
theorem turn_tuple {P:Program} {w:World} {K:PySem.W.Frag} {tg:Expr} (a it:Addr):Turn P w K tg (Itt K a) [it] it (fun i h=>h.IsTupleIter it a i) where
  mem:=by simp
  obj:=fun i h st b hb=>by
    have e:b=it:=by simpa using hb
    subst e
    obtain ⟨o,e,c,d⟩:=st
    exact ⟨o,e,fun v z=>by rw [d] at z;cases z⟩
  keep:=fun i h h' st k=>st.at fun o e=>k it (by simp) o e
  item:=by
    intro X hP hw hK hc i pins s σ H E I hf st hg
    subst hP hw hK
    obtain ⟨xs,x,hq,hx⟩:=hg
    obtain ⟨its,rv,p,hz⟩:=I.tuple hq
    obtain ⟨u,hu,ru⟩:=rv.get hx
    obtain ⟨f0,f1,f2,f3,f4,f5⟩:=hf it (by simp)
    refine wpAny_pyNext_tuple_item st (show s.heap.IsTuple a its.toArray from p) (x:=u) (by simpa using hu) fun h' st' sb=>?_
    have I1:Inv X pins σ H { s with heap:=h' }:=I.turned (t':=s.toks) (fun b o hb e=>(sb.2 b hb).trans e) f0 f1 f3 f4 f5
    obtain ⟨o,e,c,d⟩:=id st'
    exact ⟨u,rfl,go_of (s:={ s with heap:=h' }) e c d (by decide) ⟨x,H,I1,ru,⟨rfl,fun ys hy=>by rw [I.tuple_inj hy hq];exact hx⟩,st',fun b hb=>(hf b hb).1⟩⟩
  done:=by
    intro X hP hw hK hc i pins s σ H E I hf st hg
    subst hP hw hK
    obtain ⟨xs,hq,hx⟩:=hg
    obtain ⟨its,rv,p,hz⟩:=I.tuple hq
    obtain ⟨f0,f1,f2,f3,f4,f5⟩:=hf it (by simp)
    have hl:=rv.length
    exact wpAny_pyNext_tuple_end (I.ok.hd hc) st (show s.heap.IsTuple a its.toArray from p) (by simp;omega) fun h' eb=>⟨rfl,I.turned (t':=s.toks) (fun b o hb e=>eb b o hb e) f0 f1 f3 f4 f5⟩
  self:=fun _ _ _ _ _ st h=>wpAny_pyIter_tupleiter st h
theorem turn_range {P:Program} {w:World} {K:PySem.W.Frag} {tg:Expr} (it:Addr) (lo:Int) (n:Nat):Turn P w K tg (Itr lo n) [it] it (fun i h=>IsRangeIter h it (lo+(i:Nat)*1) ((n:Int)-(i:Nat)) 1) where
  mem:=by simp
  obj:=fun i h st b hb=>by
    have e:b=it:=by simpa using hb
    subst e
    exact ⟨_,st,fun v z=>by
      have z':Data.fields _=Data.cell v:=z
      cases z'⟩
  keep:=fun i h h' st k=>k it (by simp) _ st
  item:=by
    intro X hP hw hK hc i pins s σ H E I hf st hg
    subst hP hw hK
    obtain ⟨f0,f1,f2,f3,f4,f5⟩:=hf it (by simp)
    have W:=Walks.range (prog:=X.prog) (w:=X.w) (I.ok.hd hc) it lo 1 n
    refine W.item i s _ _ hg st fun v h' tk hv st' kk=>?_
    obtain ⟨t,rfl⟩:=hv
    have I1:Inv X pins σ H { s with heap:=h',toks:=tk }:=I.turned (fun b o hb e=>kk b o (by simpa using hb) e) f0 f1 f3 f4 f5
    refine ⟨_,rfl,go_of (s:={ s with heap:=h',toks:=tk }) (n:="range_iterator") st' rfl rfl (by decide) ⟨.int (lo+i),H,I1,⟨t,?_⟩,⟨rfl,rfl⟩,st',fun b hb=>(hf b hb).1⟩⟩
    rw [Int.mul_one]
  done:=by
    intro X hP hw hK hc i pins s σ H E I hf st hg
    subst hP hw hK
    obtain ⟨f0,f1,f2,f3,f4,f5⟩:=hf it (by simp)
    exact wpAny_pyNext_range_end (I.ok.hd hc) st (by have:n≤i:=hg;omega) fun h' eb=>⟨rfl,I.turned (t':=s.toks) (fun b o hb e=>eb b o hb e) f0 f1 f3 f4 f5⟩
  self:=fun _ _ _ _ _ st h=>wpAny_pyIter_rangeiter st h
end L2
namespace L2
open PySem PySem.Spec PyProof.Rows
section
variable {X:Cx} {tg:Expr}
def iList (K:PySem.W.Frag) (tl:TE):TI:=fun σ H R=>tl σ H fun x H1=>∃ a,x=.ref a∧(∃ xs,SqL K H1 a xs)∧R (Itl K a) H1
def iTup (K:PySem.W.Frag) (tl:TE):TI:=fun σ H R=>tl σ H fun x H1=>∃ a,x=.ref a∧(∃ xs,SqT K H1 a xs)∧R (Itt K a) H1
theorem pi_list {l:Expr} {tl:TE} (hl:PE X l tl):PI X tg l (iList X.K tl):=by
  intro pins s σ H R I h
  refine thn (hl pins s σ H _ I h) fun v s1 ⟨x,H1,I1,r1,q1⟩=>?_
  obtain ⟨a,e,⟨xs,hq⟩,q⟩:=q1
  subst e
  cases r1
  obtain ⟨its,rv,p,hz⟩:=I1.list hq
  refine wpAny_pyIter_list p.isList ?_
  refine ⟨s1.heap.objs.size,[s1.heap.objs.size],_,_,H1,rfl,I1.kept (t':=s1.toks) fun b o e=>Heap.get?_push_of_some _ e,turn_list a _,⟨_,Heap.get?_push_size _ rfl,rfl,rfl⟩,fun b hb=>?_,q⟩
  have e:b=s1.heap.objs.size:=by simpa using hb
  subst e
  exact I1.fpOk (Nat.le_refl _) (I1.hok.fresh (Nat.le_refl _))
theorem pi_tup {l:Expr} {tl:TE} (hl:PE X l tl):PI X tg l (iTup X.K tl):=by
  intro pins s σ H R I h
  refine thn (hl pins s σ H _ I h) fun v s1 ⟨x,H1,I1,r1,q1⟩=>?_
  obtain ⟨a,e,⟨xs,hq⟩,q⟩:=q1
  subst e
  cases r1
  obtain ⟨its,rv,p,hz⟩:=I1.tuple hq
  refine wpAny_pyIter_tuple (show s1.heap.IsTuple a its.toArray from p) ?_
  refine ⟨s1.heap.objs.size,[s1.heap.objs.size],_,_,H1,rfl,I1.kept (t':=s1.toks) fun b o e=>Heap.get?_push_of_some _ e,turn_tuple a _,⟨_,Heap.get?_push_size _ rfl,rfl,rfl⟩,fun b hb=>?_,q⟩
  have e:b=s1.heap.objs.size:=by simpa using hb
  subst e
  exact I1.fpOk (Nat.le_refl _) (I1.hok.fresh (Nat.le_refl _))
theorem range_it {pins:List (Addr×Obj)} {σ:St} {H:Hp} {s:Shared} {R:It→Hp→Prop} {E:Value→Shared→Prop} {lo hi:Int} {t u v:Tok} {tk:Nat} (I:Inv X pins σ H s) (h1:-(2 ^ 62)≤lo) (h2:lo<2 ^ 62) (h3:-(2 ^ 62)≤hi) (h4:hi<2 ^ 62)
    (q:R (Itr lo (hi-lo).toNat) H):wpAny (model X.prog X.w) X.A (pyIter (.ref s.heap.objs.size)) (PIE X pins σ tg R) E { s with heap:=s.heap.push { cls:=.type "range",data:=.fields #[.int lo t,.int hi u,.int 1 v] },toks:=tk }:=by
  refine wpAny_pyIter_range (IsRange.new ..) (small_one h1 h2 h3 h4) ?_
  have I1:Inv X pins σ H { s with heap:=s.heap.push { cls:=.type "range",data:=.fields #[.int lo t,.int hi u,.int 1 v] },toks:=tk }:=I.kept fun b o e=>Heap.get?_push_of_some _ e
  refine ⟨(s.heap.push { cls:=.type "range",data:=.fields #[.int lo t,.int hi u,.int 1 v] }).objs.size,[(s.heap.push { cls:=.type "range",data:=.fields #[.int lo t,.int hi u,.int 1 v] }).objs.size],_,_,H,rfl,
    I1.kept (t':=tk) fun b o e=>Heap.get?_push_of_some _ e,turn_range _ lo (hi-lo).toNat,?_,fun b hb=>?_,q⟩
  · have e1:lo+((0:Nat):Int)*1=lo:=by simp
    have e2:(((hi-lo).toNat:Nat):Int)-((0:Nat):Int)=Builtin.Range.rangeSize lo hi 1:=by rw [rangeSize_one];split <;> omega
    show IsRangeIter _ _ (lo+((0:Nat):Int)*1) ((((hi-lo).toNat:Nat):Int)-((0:Nat):Int)) 1
    rw [e1,e2]
    exact Heap.get?_push_size _ rfl
  · have e:b=(s.heap.push { cls:=.type "range",data:=.fields #[.int lo t,.int hi u,.int 1 v] }).objs.size:=by simpa using hb
    subst e
    exact I1.fpOk (Nat.le_refl _) (I1.hok.fresh (Nat.le_refl _))
def iRng1 (ta:TA):TI:=fun σ H R=>ta σ H fun vs H1=>∃ j:Int,vs=[.int j]∧-(2 ^ 62)≤j∧j<2 ^ 62∧R (Itr 0 j.toNat) H1
theorem pi_range1 {a:Expr} {ta:TA} {p pos:Pos} (hg:Gl X "range") (hm:X.mg "range" = none) (ha:PA X [a] ta) (hs:starEach [a] X.env=[(false,eval a X.env)]:=by rfl):PI X tg (.Call (.Name "range" p) [a] [] pos) (iRng1 ta):=by
  intro pins s σ H R I h
  refine Call_ (ld_blt I hg hm boot_range (PyProof.Rows.callWith_type1 (thn (ha pos pins s σ H _ I h) fun us s1 ⟨vs,H1,I1,r1,q1⟩=>?_) hs rfl))
  obtain ⟨j,e,q1,q2,q⟩:=q1
  subst e
  cases r1 with
  | cons r rr=>
    cases rr
    obtain ⟨t,rfl⟩:=r
    exact call_range_1 (range_it I1 (by omega) (by omega) q1 q2 (by simpa using q))
def tFor (wi:TI) (g:TG) (tb:TS):TS:=fun D σ H=>wi σ H fun J H1=>∃ W:Nat→Nat→St→Hp→Prop,(∃ m,W 0 m σ H1)∧∀ i m σ H,W i m σ H→
  (J.stop i H∧D.nx σ H)∨(J.go i H∧∃ N:St→Hp→Prop,(∀ σ' H',N σ' H'→∃ m',m'<m∧W (i+1) m' σ' H')∧∀ x H',J.yld i H x H'→g x σ H' fun σ2 H2=>tb { D with nx:=N,ct:=N,bk:=D.nx } σ2 H2)
def pinsAt (fp:List Addr) (h:Heap):List (Addr×Obj):=fp.filterMap fun b=>(h.get? b).map fun o=>(b,o)
theorem mem_pinsAt {fp:List Addr} {h:Heap} {b:Addr} {o:Obj} (hb:b∈fp) (e:h.get? b=some o):(b,o)∈pinsAt fp h:=List.mem_filterMap.mpr ⟨b,hb,by rw [e];rfl⟩
theorem of_pinsAt {fp:List Addr} {h:Heap} {p:Addr×Obj} (hp:p∈pinsAt fp h):p.1∈fp∧h.get? p.1=some p.2:=by
  obtain ⟨b,hb,e⟩:=List.mem_filterMap.mp hp
  cases q:h.get? b with
  |none=>rw [q] at e;cases e
  | some o=>
    rw [q] at e
    have e':(b,o)=p:=Option.some.inj e
    subst e'
    exact ⟨hb,q⟩
theorem Inv.pinned {pins:List (Addr×Obj)} {σ:St} {H:Hp} {s:Shared} {fp:List Addr} (I:Inv X pins σ H s) (hf:∀ b∈fp,FpOk X pins H b) (ho:∀ b∈fp,∃ o,s.heap.get? b=some o∧∀ v,o.data≠.cell v):Inv X (pins++pinsAt fp s.heap) σ H s:=
  I.pins_of fun p hp=>(List.mem_append.mp hp).elim (fun z=>I.pin p (List.mem_append_right _ z)) fun z=>by
    obtain ⟨hb,e⟩:=of_pinsAt z
    obtain ⟨f0,f1,f2,_⟩:=hf p.1 hb
    obtain ⟨o,e',d⟩:=ho p.1 hb
    rw [e] at e';cases e'
    exact ⟨e,f0,f1,f2,d⟩
theorem Inv.unpinned {pins pl:List (Addr×Obj)} {σ:St} {H:Hp} {s:Shared} (I:Inv X (pins++pl) σ H s):Inv X pins σ H s:=I.pins_of fun p hp=>I.pin p (List.mem_append_right _ (List.mem_append_left _ hp))
theorem ps_for {iter:Expr} {body:List Stmt} {wi:TI} {g:TG} {tb:TS} {pos:Pos} (hp:PassesOwn (model X.prog X.w) X.A X.env X.xe) (hc:X.calm=true) (hi:PI X tg iter wi) (hg:PG X tg g) (hb:PSs X body tb)
    (hs:∀ x,foldedSetIterable iter X.env x=pure x:=by intro _;rfl):PS X (.For tg iter body [] pos) (tFor wi g tb):=by
  intro pins s σ H D I h
  refine wpAny_For (thn (hi pins s σ H _ I h) fun v s1 h1=>thn h1 fun itv s2 h2=>?_) hs
  obtain ⟨it,fp,tn,J,H2,e,I2,T,st2,f2,W,⟨m0,w0⟩,turn⟩:=h2
  subst e
  have stat:∀ {H':Hp},(∀ b∈fp,H' b=none)→∀ b∈fp,FpOk X pins H' b:=fun hn b hb=>⟨hn b hb,(f2 b hb).2⟩
  refine codeAny_forLoop_any (fun n s'=>∃ i σ' H',Inv X pins σ' H' s'∧tn i s'.heap∧(∀ b∈fp,H' b=none)∧W i n σ' H') ?_ m0 ⟨0,σ,H2,I2,st2,fun b hb=>(f2 b hb).1,w0⟩
  rintro n s3 ⟨i,σ3,H3,I3,st3,fr3,w3⟩
  rcases turn i n σ3 H3 w3 with ⟨stop,qn⟩|⟨go,N,hN,step⟩
  · refine wpAny_passesOwn hp (thn (T.done X rfl rfl rfl hc i pins s3 σ3 H3 X.xe I3 (stat fr3) st3 stop) fun r s4 ⟨hr,I4⟩=>?_)
    subst hr
    exact wpAny_execs_nil ⟨σ3,H3,I4,qn⟩
  · refine wpAny_passesOwn hp (thn (T.item X rfl rfl rfl hc i pins s3 σ3 H3 X.xe I3 (stat fr3) st3 go) fun r s4 ⟨u,hr,h4⟩=>?_)
    subst hr
    refine wpAny_passesOwn hp (thn h4 fun _ s5 ⟨x,H5,I5,r5,y5,st5,fr5⟩=>?_)
    have I5':=I5.pinned (stat fr5) (T.obj _ _ st5)
    refine wpAny_passesOwn hp (thn (hg _ s5 σ3 H5 x u _ I5' r5 (step x H5 y5)) fun _ s6 ⟨σ6,H6,I6,q6⟩=>?_)
    refine wpAny_passesOwn hp (thn (hb _ s6 σ6 H6 _ I6 q6) fun f s7 q7=>?_)
    have again:∀ {σ7:St} {H7:Hp},Inv X (pins++pinsAt fp s5.heap) σ7 H7 s7→N σ7 H7→∃ m,m<n∧∃ i σ' H',Inv X pins σ' H' s7∧tn i s7.heap∧(∀ b∈fp,H' b=none)∧W i m σ' H':=fun {σ7 H7} I7 n7=>by
      obtain ⟨m',hm,w7⟩:=hN σ7 H7 n7
      refine ⟨m',hm,i+1,σ7,H7,I7.unpinned,T.keep _ _ _ st5 fun b hb o e=>(I7.pin (b,o) (List.mem_append_right _ (List.mem_append_right _ (mem_pinsAt hb e)))).1,fun b hb=>?_,w7⟩
      obtain ⟨o,e,d⟩:=T.obj _ _ st5 b hb
      exact (I7.pin (b,o) (List.mem_append_right _ (List.mem_append_right _ (mem_pinsAt hb e)))).2.1
    cases f with
    |next=>obtain ⟨σ7,H7,I7,n7⟩:=q7;exact again I7 n7
    |cont=>obtain ⟨σ7,H7,I7,n7⟩:=q7;exact again I7 n7
    |brk=>obtain ⟨σ7,H7,I7,q7⟩:=q7;exact ⟨σ7,H7,I7.unpinned,q7⟩
    |ret v=>obtain ⟨x7,σ7,H7,I7,r7,q7⟩:=q7;exact ⟨x7,σ7,H7,I7.unpinned,r7,q7⟩
end
theorem for_list {K:PySem.W.Frag} {a:Addr} {xs:List V} {g:TG} {tb:TS} {D:Ends} {σ:St} {H:Hp} (Pv:Nat→St→Hp→Prop) (h0:Pv 0 σ H) (hl:∀ i σ H,i≤xs.length→Pv i σ H→SqL K H a xs)
    (hs:∀ i x σ H,xs[i]?=some x→Pv i σ H→g x σ H fun σ2 H2=>tb { D with nx:=Pv (i+1),ct:=Pv (i+1),bk:=D.nx } σ2 H2) (hd:∀ σ H,Pv xs.length σ H→D.nx σ H) :
    ∃ W:Nat→Nat→St→Hp→Prop,(∃ m,W 0 m σ H)∧∀ i m σ H,W i m σ H→
      ((Itl K a).stop i H∧D.nx σ H)∨((Itl K a).go i H∧∃ N:St→Hp→Prop,(∀ σ' H',N σ' H'→∃ m',m'<m∧W (i+1) m' σ' H')∧∀ x H',(Itl K a).yld i H x H'→g x σ H' fun σ2 H2=>tb { D with nx:=N,ct:=N,bk:=D.nx } σ2 H2):=by
  refine ⟨fun i m σ H=>m=xs.length-i∧i≤xs.length∧Pv i σ H,⟨xs.length,by simp,Nat.zero_le _,h0⟩,?_⟩
  rintro i m σ H ⟨rfl,hi,p⟩
  have q:=hl i σ H hi p
  by_cases hlt:i<xs.length
  · refine .inr ⟨⟨xs,xs[i],q,by simp [hlt]⟩,Pv (i+1),fun σ' H' p'=>⟨xs.length-(i+1),by omega,rfl,hlt,p'⟩,fun x H' y=>?_⟩
    obtain ⟨e,y⟩:=y
    subst e
    exact hs i x σ _ (y xs q) p
  · have e:i=xs.length:=by omega
    subst e
    exact .inl ⟨⟨xs,q,Nat.le_refl _⟩,hd σ H p⟩
theorem for_range {lo:Int} {n:Nat} {g:TG} {tb:TS} {D:Ends} {σ:St} {H:Hp} (Pv:Nat→St→Hp→Prop) (h0:Pv 0 σ H)
    (hs:∀ i σ H,i<n→Pv i σ H→g (.int (lo+i)) σ H fun σ2 H2=>tb { D with nx:=Pv (i+1),ct:=Pv (i+1),bk:=D.nx } σ2 H2) (hd:∀ σ H,Pv n σ H→D.nx σ H) :
    ∃ W:Nat→Nat→St→Hp→Prop,(∃ m,W 0 m σ H)∧∀ i m σ H,W i m σ H→
      ((Itr lo n).stop i H∧D.nx σ H)∨((Itr lo n).go i H∧∃ N:St→Hp→Prop,(∀ σ' H',N σ' H'→∃ m',m'<m∧W (i+1) m' σ' H')∧∀ x H',(Itr lo n).yld i H x H'→g x σ H' fun σ2 H2=>tb { D with nx:=N,ct:=N,bk:=D.nx } σ2 H2):=by
  refine ⟨fun i m σ H=>m=n-i∧i≤n∧Pv i σ H,⟨n,by simp,Nat.zero_le _,h0⟩,?_⟩
  rintro i m σ H ⟨rfl,hi,p⟩
  by_cases hlt:i<n
  · refine .inr ⟨hlt,Pv (i+1),fun σ' H' p'=>⟨n-(i+1),by omega,rfl,hlt,p'⟩,fun x H' y=>?_⟩
    obtain ⟨e,y⟩:=y
    subst e y
    exact hs i σ _ hlt p
  · have e:i=n:=by omega
    subst e
    exact .inl ⟨Nat.le_refl _,hd σ H p⟩
end L2
namespace L2
open PySem PySem.Spec PyProof.Rows
abbrev R2:=V→V→Hp→VK→Prop
def OpR (X:Cx) (f:Value→Value→Sem Value) (r:R2):Prop:=
  ∀ (pins:List (Addr×Obj)) (s:Shared) (σ:St) (H:Hp) (x y:V) (v u:Value) (Q:VK),Inv X pins σ H s→RelV x v→RelV y u→r x y H Q→
    wpAny (model X.prog X.w) X.A (f v u) (EP X pins σ Q) X.xe s
def UnR (X:Cx) (f:Value→Sem Value) (r:V→Hp→VK→Prop):Prop:=
  ∀ (pins:List (Addr×Obj)) (s:Shared) (σ:St) (H:Hp) (x:V) (v:Value) (Q:VK),Inv X pins σ H s→RelV x v→r x H Q→
    wpAny (model X.prog X.w) X.A (f v) (EP X pins σ Q) X.xe s
def CallR (X:Cx) (f:Value) (r:List V→Hp→VK→Prop):Prop:=
  ∀ (pins:List (Addr×Obj)) (s:Shared) (σ:St) (H:Hp) (xs:List V) (us:List Value) (Q:VK),Inv X pins σ H s→Vals xs us→r xs H Q→
    wpAny (model X.prog X.w) X.A (call f us) (EP X pins σ Q) X.xe s
def tOp (r:R2) (ta tb:TE):TE:=fun σ H Q=>ta σ H fun x H1=>tb σ H1 fun y H2=>r x y H2 Q
def tUn (r:V→Hp→VK→Prop) (ta:TE):TE:=fun σ H Q=>ta σ H fun x H1=>r x H1 Q
def rI (C:Int→Int→Prop) (g:Int→Int→V):R2:=fun x y H Q=>∃ i j,x=.int i∧y=.int j∧C i j∧Q (g i j) H
def rI0 (g:Int→Int→V):R2:=fun x y H Q=>∃ i j,x=.int i∧y=.int j∧Q (g i j) H
def rU (g:Int→V):V→Hp→VK→Prop:=fun x H Q=>∃ i,x=.int i∧Q (g i) H
section
variable {X:Cx} {a b c:Expr} {ta tb tc:TE} {pos:Pos}
theorem binT (ha:PE X a ta) (hb:PE X b tb) {pins:List (Addr×Obj)} {s:Shared} {σ:St} {H:Hp} {R:V→V→Hp→Prop} (I:Inv X pins σ H s)
    (h:ta σ H fun x H1=>tb σ H1 fun y H2=>R x y H2) {Q:Value→Shared→Prop} {f:Value→Value→Sem Value}
    (hf:∀ v u s2 x y H2,Inv X pins σ H2 s2→RelV x v→RelV y u→R x y H2→wpAny (model X.prog X.w) X.A (f v u) Q X.xe s2) :
    wpAny (model X.prog X.w) X.A (eval a X.env) (fun v s₁=>wpAny (model X.prog X.w) X.A (eval b X.env) (fun u s₂=>wpAny (model X.prog X.w) X.A (f v u) Q X.xe s₂) X.xe s₁) X.xe s:=by
  refine thn (ha pins s σ H _ I h) fun v s1 ⟨x,H1,I1,r1,q1⟩=>?_
  refine thn (hb pins s1 σ H1 _ I1 q1) fun u s2 ⟨y,H2,I2,r2,q2⟩=>?_
  exact hf v u s2 x y H2 I2 r1 r2 q2
theorem pe_op {op:Operator} {r:R2} (ho:OpR X (binaryOp op) r) (ha:PE X a ta) (hb:PE X b tb):PE X (.BinOp a op b pos) (tOp r ta tb):=by
  intro pins s σ H Q I h
  exact wpAny_BinOp (binT ha hb I h fun v u s2 x y H2 I2 rx ry q=>ho pins s2 σ H2 x y v u Q I2 rx ry q)
theorem pe_un {op:UnaryOp} {r:V→Hp→VK→Prop} (ho:UnR X (unaryOp op) r) (ha:PE X a ta):PE X (.UnaryOp op a pos) (tUn r ta):=by
  intro pins s σ H Q I h
  exact UnaryOp_ (thn (ha pins s σ H _ I h) fun v s1 ⟨x,H1,I1,r1,q1⟩=>ho pins s1 σ H1 x v Q I1 r1 q1)
theorem opI {f:Value→Value→Sem Value} {C:Int→Int→Prop} {g:Int→Int→Int}
    (rule:∀ (i j:Int) (t u:Tok) (s:Shared) (Q:Value→Shared→Prop) (E:Value→Shared→Prop),C i j→Q (.int (g i j) s.toks) { s with toks:=s.toks+1 }→wpAny (model X.prog X.w) X.A (f (.int i t) (.int j u)) Q E s) :
    OpR X f (rI C fun i j=>.int (g i j)):=by
  intro pins s σ H x y v u Q I rx ry h
  obtain ⟨i,j,rfl,rfl,hc,q⟩:=h
  obtain ⟨t,rfl⟩:=rx
  obtain ⟨t',rfl⟩:=ry
  exact rule i j t t' s _ _ hc ⟨.int (g i j),H,I.tok _,⟨_,rfl⟩,q⟩
theorem opI0 {f:Value→Value→Sem Value} {g:Int→Int→Int}
    (rule:∀ (i j:Int) (t u:Tok) (s:Shared) (Q:Value→Shared→Prop) (E:Value→Shared→Prop),Q (.int (g i j) s.toks) { s with toks:=s.toks+1 }→wpAny (model X.prog X.w) X.A (f (.int i t) (.int j u)) Q E s) :
    OpR X f (rI0 fun i j=>.int (g i j)):=by
  intro pins s σ H x y v u Q I rx ry h
  obtain ⟨i,j,rfl,rfl,q⟩:=h
  obtain ⟨t,rfl⟩:=rx
  obtain ⟨t',rfl⟩:=ry
  exact rule i j t t' s _ _ ⟨.int (g i j),H,I.tok _,⟨_,rfl⟩,q⟩
theorem opB0 {f:Value→Value→Sem Value} {g:Int→Int→Bool}
    (rule:∀ (i j:Int) (t u:Tok) (s:Shared) (Q:Value→Shared→Prop) (E:Value→Shared→Prop),Q (.bool (g i j)) s→wpAny (model X.prog X.w) X.A (f (.int i t) (.int j u)) Q E s) :
    OpR X f (rI0 fun i j=>.bl (g i j)):=by
  intro pins s σ H x y v u Q I rx ry h
  obtain ⟨i,j,rfl,rfl,q⟩:=h
  obtain ⟨t,rfl⟩:=rx
  obtain ⟨t',rfl⟩:=ry
  exact rule i j t t' s _ _ ⟨.bl (g i j),H,I,rfl,q⟩
def CDiv (i j:Int):Prop:=0<j∧j<1073741824
def CPow (i j:Int):Prop:=0≤j∧j≤1000000∧i.natAbs<2 ^ 64
def CMul (i j:Int):Prop:=(-(2 ^ 64)<i∧i<2 ^ 64)∨(-(2 ^ 64)<j∧j<2 ^ 64)
theorem CMul.ok {i j:Int} (h:CMul i j):IntMulOk i j:=by
  rcases h with ⟨h1,h2⟩|⟨h1,h2⟩
  · exact .of_left (intBits_le_64 h1 h2)
  · exact .of_right (intBits_le_64 h1 h2)
theorem op_add:OpR X (binaryOp .Add) (rI0 fun i j=>.int (i+j)):=opI0 fun _ _ _ _ _ _ _ q=>add_int q
theorem op_sub:OpR X (binaryOp .Sub) (rI0 fun i j=>.int (i-j)):=opI0 fun _ _ _ _ _ _ _ q=>sub_int q
theorem op_mul:OpR X (binaryOp .Mult) (rI CMul fun i j=>.int (i*j)):=opI fun _ _ _ _ _ _ _ hc q=>mul_int q hc.ok
theorem op_fdiv:OpR X (binaryOp .FloorDiv) (rI CDiv fun i j=>.int (i / j)):=opI fun i j _ _ _ _ _ hc q=>by
  have h1:(0:Int)<j:=hc.1
  have h2:j<1073741824:=hc.2
  exact floordiv_int (by omega) (by rw [Int.fdiv_eq_ediv_of_nonneg i (by omega)];exact q) (.inl (PyProof.noPylong_small (by omega)))
theorem op_mod:OpR X (binaryOp .Mod) (rI (fun _ j=>0<j) fun i j=>.int (i % j)):=opI fun i j _ _ _ _ _ hc q=>by
  have h1:(0:Int)<j:=hc
  exact mod_int' (by omega) (by rw [Int.fmod_eq_emod_of_nonneg i (by omega)];exact q)
theorem op_pow:OpR X (binaryOp .Pow) (rI CPow fun i j=>.int (i ^ j.toNat)):=opI fun _ _ _ _ _ _ _ hc q=>pow_int_small hc.1 hc.2.1 hc.2.2 q
theorem iop_add:OpR X (inplaceOp .Add) (rI0 fun i j=>.int (i+j)):=opI0 fun _ _ _ _ _ _ _ q=>iadd_int q
theorem unI {f:Value→Sem Value} {g:Int→Int}
    (rule:∀ (i:Int) (t:Tok) (s:Shared) (Q:Value→Shared→Prop) (E:Value→Shared→Prop),Q (.int (g i) s.toks) { s with toks:=s.toks+1 }→wpAny (model X.prog X.w) X.A (f (.int i t)) Q E s) :
    UnR X f (rU fun i=>.int (g i)):=by
  intro pins s σ H x v Q I rx h
  obtain ⟨i,rfl,q⟩:=h
  obtain ⟨t,rfl⟩:=rx
  exact rule i t s _ _ ⟨.int (g i),H,I.tok _,⟨_,rfl⟩,q⟩
theorem un_neg:UnR X (unaryOp .USub) (rU fun i=>.int (-i)):=unI fun _ _ _ _ _ q=>neg_int q
end
def scal:V→V→Bool
  |.non,.non=>true|.non,.int _=>true|.int _,.non=>true|.non,.bl _=>true|.bl _,.non=>true|.non,.str _=>true|.str _,.non=>true
  |.int _,.int _=>true|.bl _,.bl _=>true|.str _,.str _=>true|.byt _,.byt _=>true
  |.int _,.str _=>true|.str _,.int _=>true|.bl _,.str _=>true|.str _,.bl _=>true
  |_,_=>false
def rEq:R2:=fun x y H Q=>scal x y=true∧Q (.bl (decide (x=y))) H
def rNe:R2:=fun x y H Q=>scal x y=true∧Q (.bl (!decide (x=y))) H
theorem dec_int {i j:Int}:decide (V.int i=V.int j)=(i == j):=by
  rw [Bool.eq_iff_iff]
  simp
theorem dec_bl {i j:Bool}:decide (V.bl i=V.bl j)=(i == j):=by
  rw [Bool.eq_iff_iff]
  simp
theorem dec_str {i j:Str}:decide (V.str i=V.str j)=(i == j):=by
  rw [Bool.eq_iff_iff]
  simp
theorem dec_byt {i j:Array UInt8}:decide (V.byt i=V.byt j)=(i.toList == j.toList):=by
  rw [Bool.eq_iff_iff]
  cases i
  cases j
  simp
section
variable {X:Cx} {a b c:Expr} {ta tb tc:TE} {pos:Pos}
theorem fin_bl {pins:List (Addr×Obj)} {σ:St} {H:Hp} {s:Shared} {Q:VK} {k k':Bool} (I:Inv X pins σ H s) (q:Q (.bl k) H) (e:k=k'):EP X pins σ Q (.bool k') s:=by
  subst e
  exact ⟨.bl k,H,I,rfl,q⟩
theorem op_eq:OpR X (compareOp .Eq) rEq:=by
  intro pins s σ H x y v u Q I rx ry h
  obtain ⟨hs,q⟩:=h
  cases x with
  | non=>
    cases rx
    cases y with
    |non=>cases ry;exact PySem.EqNone.eq_none_none (fin_bl I q (by simp))
    |bl j=>cases ry;exact PySem.EqNone.eq_none_bool (fin_bl I q (by simp))
    |int j=>obtain ⟨t',rfl⟩:=ry;exact PySem.EqNone.eq_none_int (fin_bl I q (by simp))
    |str j=>obtain ⟨t',rfl⟩:=ry;exact PySem.EqNone.eq_none_str (fin_bl I q (by simp))
    |_=>exact absurd (show false=true from hs) Bool.false_ne_true
  | bl i=>
    cases rx
    cases y with
    |non=>cases ry;exact PySem.EqNone.eq_bool_none (fin_bl I q (by simp))
    |bl j=>cases ry;exact eq_bool (fin_bl I q dec_bl)
    |str j=>obtain ⟨t',rfl⟩:=ry;exact PySem.EqMixed.eq_bool_str (fin_bl I q (by simp))
    |_=>exact absurd (show false=true from hs) Bool.false_ne_true
  | int i=>
    obtain ⟨t,rfl⟩:=rx
    cases y with
    |non=>cases ry;exact PySem.EqNone.eq_int_none (fin_bl I q (by simp))
    |int j=>obtain ⟨t',rfl⟩:=ry;exact eq_int (fin_bl I q dec_int)
    |str j=>obtain ⟨t',rfl⟩:=ry;exact PySem.EqMixed.eq_int_str (fin_bl I q (by simp))
    |_=>exact absurd (show false=true from hs) Bool.false_ne_true
  | str i=>
    obtain ⟨t,rfl⟩:=rx
    cases y with
    |non=>cases ry;exact PySem.EqNone.eq_str_none (fin_bl I q (by simp))
    |bl j=>cases ry;exact PySem.EqMixed.eq_str_bool (fin_bl I q (by simp))
    |int j=>obtain ⟨t',rfl⟩:=ry;exact PySem.EqMixed.eq_str_int (fin_bl I q (by simp))
    |str j=>obtain ⟨t',rfl⟩:=ry;exact eq_str (fin_bl I q dec_str)
    |_=>exact absurd (show false=true from hs) Bool.false_ne_true
  | byt i=>
    obtain ⟨t,rfl⟩:=rx
    cases y with
    |byt j=>obtain ⟨t',rfl⟩:=ry;exact PySem.W.eq_bytes (fin_bl I q dec_byt)
    |_=>exact absurd (show false=true from hs) Bool.false_ne_true
  |_=>cases y <;> exact absurd (show false=true from hs) Bool.false_ne_true
theorem op_ne:OpR X (compareOp .NotEq) rNe:=by
  intro pins s σ H x y v u Q I rx ry h
  obtain ⟨hs,q⟩:=h
  cases x with
  | non=>
    cases rx
    cases y with
    |non=>cases ry;exact PySem.EqNone.ne_none_none (fin_bl I q (by simp))
    |bl j=>cases ry;exact PySem.EqNone.ne_none_bool (fin_bl I q (by simp))
    |int j=>obtain ⟨t',rfl⟩:=ry;exact PySem.EqNone.ne_none_int (fin_bl I q (by simp))
    |str j=>obtain ⟨t',rfl⟩:=ry;exact PySem.EqNone.ne_none_str (fin_bl I q (by simp))
    |_=>exact absurd (show false=true from hs) Bool.false_ne_true
  | bl i=>
    cases rx
    cases y with
    |non=>cases ry;exact PySem.EqNone.ne_bool_none (fin_bl I q (by simp))
    |bl j=>cases ry;exact ne_bool (fin_bl I q (congrArg not dec_bl))
    |str j=>obtain ⟨t',rfl⟩:=ry;exact PySem.EqMixed.ne_bool_str (fin_bl I q (by simp))
    |_=>exact absurd (show false=true from hs) Bool.false_ne_true
  | int i=>
    obtain ⟨t,rfl⟩:=rx
    cases y with
    |non=>cases ry;exact PySem.EqNone.ne_int_none (fin_bl I q (by simp))
    |int j=>obtain ⟨t',rfl⟩:=ry;exact ne_int (fin_bl I q (congrArg not dec_int))
    |str j=>obtain ⟨t',rfl⟩:=ry;exact PySem.EqMixed.ne_int_str (fin_bl I q (by simp))
    |_=>exact absurd (show false=true from hs) Bool.false_ne_true
  | str i=>
    obtain ⟨t,rfl⟩:=rx
    cases y with
    |non=>cases ry;exact PySem.EqNone.ne_str_none (fin_bl I q (by simp))
    |bl j=>cases ry;exact PySem.EqMixed.ne_str_bool (fin_bl I q (by simp))
    |int j=>obtain ⟨t',rfl⟩:=ry;exact PySem.EqMixed.ne_str_int (fin_bl I q (by simp))
    |str j=>obtain ⟨t',rfl⟩:=ry;exact ne_str (fin_bl I q (congrArg not dec_str))
    |_=>exact absurd (show false=true from hs) Bool.false_ne_true
  | byt i=>
    obtain ⟨t,rfl⟩:=rx
    cases y with
    |byt j=>obtain ⟨t',rfl⟩:=ry;exact PySem.W.ne_bytes (fin_bl I q (congrArg not dec_byt))
    |_=>exact absurd (show false=true from hs) Bool.false_ne_true
  |_=>cases y <;> exact absurd (show false=true from hs) Bool.false_ne_true
theorem op_lt:OpR X (compareOp .Lt) (rI0 fun i j=>.bl (decide (i<j))):=opB0 fun _ _ _ _ _ _ _ q=>lt_int q
theorem op_le:OpR X (compareOp .LtE) (rI0 fun i j=>.bl (decide (i≤j))):=opB0 fun _ _ _ _ _ _ _ q=>le_int q
theorem op_gt:OpR X (compareOp .Gt) (rI0 fun i j=>.bl (decide (j<i))):=opB0 fun _ _ _ _ _ _ _ q=>gt_int q
theorem op_ge:OpR X (compareOp .GtE) (rI0 fun i j=>.bl (decide (j≤i))):=opB0 fun _ _ _ _ _ _ _ q=>ge_int q
theorem op_in_str:OpR X (compareOp .In) (fun x y H Q=>∃ i j,x=.str i∧y=.str j∧Q (.bl (!(Builtin.Str.occurrences j i 0 j.length 1).isEmpty)) H):=by
  intro pins s σ H x y v u Q I rx ry h
  obtain ⟨i,j,rfl,rfl,q⟩:=h
  obtain ⟨t,rfl⟩:=rx
  obtain ⟨t',rfl⟩:=ry
  exact in_str (fin_bl I q rfl)
theorem op_isN:OpR X (compareOp .Is) (fun x y H Q=>y=.non∧Q (.bl (decide (x=.non))) H):=by
  intro pins s σ H x y v u Q I rx ry h
  obtain ⟨rfl,q⟩:=h
  cases ry
  refine is_none_gen (fin_bl I q ?_)
  cases x <;> first
    |(cases rx;rfl)
    |(obtain ⟨t,rfl⟩:=rx;rfl)
theorem op_notN:OpR X (compareOp .IsNot) (fun x y H Q=>y=.non∧Q (.bl (!decide (x=.non))) H):=by
  intro pins s σ H x y v u Q I rx ry h
  obtain ⟨rfl,q⟩:=h
  cases ry
  refine isnot_none_gen (fin_bl I q ?_)
  cases x <;> first
    |(cases rx;rfl)
    |(obtain ⟨t,rfl⟩:=rx;rfl)
theorem nomark (b:Expr) {op:CmpOp} (h:op≠.In:=by decide) (h2:op≠.NotIn:=by decide):behindInMarks op b=false:=by
  have e1:(op == CmpOp.In)=false:=by cases op <;> first|rfl|exact absurd rfl h
  have e2:(op == CmpOp.NotIn)=false:=by cases op <;> first|rfl|exact absurd rfl h2
  cases b <;> simp [behindInMarks,e1,e2]
theorem pe_cmpR {op:CmpOp} {r:R2} (ho:OpR X (compareOp op) r) (ha:PE X a ta) (hb:PE X b tb) (hm:behindInMarks op b=false):PE X (.Compare a [op] [b] pos) (tOp r ta tb):=by
  intro pins s σ H Q I h
  exact wpAny_Compare1 (binT ha hb I h fun v u s2 x y H2 I2 rx ry q=>ho pins s2 σ H2 x y v u Q I2 rx ry q) hm
def tTest (t:TE):TT:=fun σ H Q=>t σ H fun x H'=>∃ k,x=.bl k∧Q k H'
theorem pt_cmpR {op:CmpOp} {r:R2} (ho:OpR X (compareOp op) r) (ha:PE X a ta) (hb:PE X b tb) (hm:behindInMarks op b=false):PT X (.Compare a [op] [b] pos) (tTest (tOp r ta tb)):=by
  intro pins s σ H Q I h
  refine wpAny_isTrue_Compare1 (thn (ha pins s σ H _ I h) fun v s1 ⟨x,H1,I1,r1,q1⟩=>thn (hb pins s1 σ H1 _ I1 q1) fun u s2 ⟨y,H2,I2,r2,q2⟩=>
    thn (ho pins s2 σ H2 x y v u _ I2 r1 r2 q2) fun c s3 ⟨z,H3,I3,r3,k,e,q3⟩=>?_) hm
  subst e
  cases r3
  exact wpAny_truthy_bool ⟨H3,I3,q3⟩
def tChain (r r':R2) (ta tb tc:TE):TE:=fun σ H Q=>ta σ H fun x H1=>tb σ H1 fun y H2=>r x y H2 fun z H3=>∃ k,z=.bl k∧
  (if k=true then tc σ H3 fun w' H4=>r' y w' H4 Q else Q (.bl false) H3)
theorem pe_chain {op op':CmpOp} {r r':R2} (ho:OpR X (compareOp op) r) (ho':OpR X (compareOp op') r') (ha:PE X a ta) (hb:PE X b tb) (hc:PE X c tc)
    (hm:lastMarks [op,op'] [b,c]=false:=by with_unfolding_all rfl):PE X (.Compare a [op,op'] [b,c] pos) (tChain r r' ta tb tc):=by
  intro pins s σ H Q I h
  refine Compare_chain (thn (ha pins s σ H _ I h) fun v s1 ⟨x,H1,I1,r1,q1⟩=>chain_link (thn (hb pins s1 σ H1 _ I1 q1) fun u s2 ⟨y,H2,I2,r2,q2⟩=>
    thn (ho pins s2 σ H2 x y v u _ I2 r1 r2 q2) fun d s3 ⟨z,H3,I3,r3,k,e,q3⟩=>?_)) hm
  subst e
  cases r3
  refine wpAny_truthy_bool ?_
  cases k with
  |false=>exact ite_ff ⟨.bl false,H3,I3,rfl,q3⟩
  |true=>exact ite_tt (chain_last (thn (hc pins s3 σ H3 _ I3 q3) fun w' s4 ⟨z',H4,I4,r4,q4⟩=>ho' pins s4 σ H4 y z' u w' Q I4 r2 r4 q4))
theorem pt_chain {op op':CmpOp} {r r':R2} (ho:OpR X (compareOp op) r) (ho':OpR X (compareOp op') r') (ha:PE X a ta) (hb:PE X b tb) (hc:PE X c tc)
    (hm:lastMarks [op,op'] [b,c]=false:=by with_unfolding_all rfl):PT X (.Compare a [op,op'] [b,c] pos) (tTest (tChain r r' ta tb tc)):=by
  intro pins s σ H Q I h
  refine isTrue_chain (thn (ha pins s σ H _ I h) fun v s1 ⟨x,H1,I1,r1,q1⟩=>test_link (thn (hb pins s1 σ H1 _ I1 q1) fun u s2 ⟨y,H2,I2,r2,q2⟩=>
    thn (ho pins s2 σ H2 x y v u _ I2 r1 r2 q2) fun d s3 ⟨z,H3,I3,r3,k,e,q3⟩=>?_)) hm
  subst e
  cases r3
  refine wpAny_truthy_bool ?_
  cases k with
  | false=>
    obtain ⟨k',e',q'⟩:=q3
    cases e'
    exact ite_ff ⟨H3,I3,q'⟩
  | true=>
    refine ite_tt (test_last (thn (hc pins s3 σ H3 _ I3 q3) fun w' s4 ⟨z',H4,I4,r4,q4⟩=>thn (ho' pins s4 σ H4 y z' u w' _ I4 r2 r4 q4) fun d' s5 ⟨z2,H5,I5,r5,k2,e2,q5⟩=>?_))
    subst e2
    cases r5
    exact wpAny_truthy_bool ⟨H5,I5,q5⟩
theorem line63:(sizeLine:Nat)<2 ^ 63:=by rw [sizeLine_eq];decide
theorem op_add_str:OpR X (binaryOp .Add) (fun x y H Q=>∃ i j,x=.str i∧y=.str j∧i.length+j.length≤sizeLine∧Q (.str (i++j)) H):=by
  intro pins s σ H x y v u Q I rx ry h
  obtain ⟨i,j,rfl,rfl,hz,q⟩:=h
  obtain ⟨t,rfl⟩:=rx
  obtain ⟨t',rfl⟩:=ry
  exact add_str (fun t' tk=>⟨.str (i++j),H,I.tok _,⟨_,rfl⟩,q⟩) hz
theorem vals1 {x:V} {us:List Value} (r:Vals [x] us):∃ u,us=[u]∧RelV x u:=by
  cases r with
  |cons r1 r2=>cases r2;exact ⟨_,rfl,r1⟩
theorem call_str_int:CallR X (.type "str") (fun xs H Q=>∃ i,xs=[.int i]∧i.natAbs.log2<1920∧Q (.str (toString i)) H):=by
  intro pins s σ H xs us Q I r h
  obtain ⟨i,rfl,hz,q⟩:=h
  obtain ⟨u,rfl,t,rfl⟩:=vals1 r
  exact PySem.P.str_of_int hz ⟨.str _,H,I.tok _,⟨_,rfl⟩,q⟩
end
end L2
namespace L2
open PySem PySem.Spec PyProof.Rows
theorem lookIn_ns {h:Heap} {dx:Addr} {mA:Str→Option Value} (n:h.Ns1 dx mA):∃ od,h.get? dx=some od∧∀ name,PySem.W.lookIn name od=some (mA name):=by
  obtain ⟨o,es,ep,ho,hd,hk,_,hm⟩:=n
  refine ⟨o,ho,fun name=>?_⟩
  have e:=hm name
  unfold nsFind findBy at e
  rw [← Array.find?_toList] at e
  unfold PySem.W.lookIn
  rw [hd]
  dsimp only
  split
  · rename_i y q
    rw [q] at e
    exact congrArg some e
  · rename_i q
    rw [q] at e
    have a:es.toList.any (·.refKey)=false:=by
      rw [List.any_eq_false]
      intro y hy
      obtain ⟨z,t,hkey⟩:=hk y (Array.mem_toList_iff.mp hy)
      simp [DictEntry.refKey,hkey]
    have a':¬ es.toList.any (·.refKey)=true:=by rw [a];exact Bool.false_ne_true
    rw [if_neg a']
    exact congrArg some e
section
variable {prog:Program} {w:World} {A:Around} {E:Value→Shared→Prop} {s:Shared} {K:PySem.W.Frag} {x dx C f:Addr} {mA:Str→Option Value} {name:Str} {v:Value}
end
def putF (f:Str) (v:V):List (Str×V)→List (Str×V)
  |[]=>[(f,v)]
  |(g,x)::r=>if g=f then (g,v)::r else (g,x)::putF f v r
theorem lookup_putF (f g:Str) (v:V):∀ fs:List (Str×V),(putF f v fs).lookup g=if g=f then some v else fs.lookup g
  | []=>by
    show List.lookup g [(f,v)]=_
    by_cases h:g=f
    · have hb:(g == f)=true:=beq_iff_eq.mpr h
      simp only [List.lookup,hb,if_pos h]
    · have hb:(g == f)=false:=beq_eq_false_iff_ne.mpr h
      simp only [List.lookup,hb,if_neg h]
  | (k,x)::r=>by
    have ih:=lookup_putF f g v r
    rw [show putF f v ((k,x)::r)=(if k=f then (k,v)::r else (k,x)::putF f v r) from rfl]
    by_cases hk:k=f
    · rw [if_pos hk]
      by_cases h:g=k
      · have hb:(g == k)=true:=beq_iff_eq.mpr h
        simp only [List.lookup,hb,if_pos (h.trans hk)]
      · have hb:(g == k)=false:=beq_eq_false_iff_ne.mpr h
        simp only [List.lookup,hb,if_neg (fun e:g=f=>h (e.trans hk.symm))]
    · rw [if_neg hk]
      by_cases h:g=k
      · have hb:(g == k)=true:=beq_iff_eq.mpr h
        simp only [List.lookup,hb,if_neg (fun e:g=f=>hk (h.symm.trans e))]
      · have hb:(g == k)=false:=beq_eq_false_iff_ne.mpr h
        simp only [List.lookup,hb]
        exact ih
theorem keys_putF (f:Str) (v:V):∀ fs:List (Str×V),f∈(putF f v fs).map (·.1)∧∀ g,g∈fs.map (·.1)→g∈(putF f v fs).map (·.1)
  |[]=>⟨by simp [putF],fun g h=>by simp at h⟩
  | (k,x)::r=>by
    obtain ⟨i1,i2⟩:=keys_putF f v r
    rw [show putF f v ((k,x)::r)=(if k=f then (k,v)::r else (k,x)::putF f v r) from rfl]
    by_cases hk:k=f
    · rw [if_pos hk]
      subst hk
      exact ⟨by simp,fun g h=>by simpa using h⟩
    · rw [if_neg hk]
      refine ⟨?_,fun g h=>?_⟩
      · rw [List.map_cons]
        exact List.mem_cons_of_mem _ i1
      · rw [List.map_cons] at h ⊢
        rcases List.mem_cons.mp h with e|e
        · exact List.mem_cons.mpr (.inl e)
        · exact List.mem_cons_of_mem _ (i2 g e)
theorem RelO.some_of {v:V} {o:Option Value} (r:RelO (some v) o):∃ u,o=some u∧RelV v u:=by
  cases o with
  |none=>exact (show False from r).elim
  |some u=>exact ⟨u,rfl,r⟩
theorem handed_of {v:V} {u:Value} (r:RelV v u):PySem.W.handedIn u=true:=by
  cases v with
  |non=>cases (show u=Value.none from r);rfl
  |bl b=>cases (show u=Value.bool b from r);rfl
  |int i=>obtain ⟨t,e⟩:=(show ∃ t,u=Value.int i t from r);cases e;rfl
  |str x=>obtain ⟨t,e⟩:=(show ∃ t,u=Value.str x t from r);cases e;rfl
  |byt b=>obtain ⟨t,e⟩:=(show ∃ t,u=Value.bytes b t from r);cases e;rfl
  |flt b=>obtain ⟨t,e⟩:=(show ∃ t,u=Value.float b t from r);cases e;rfl
  |ref a=>cases (show u=Value.ref a from r);rfl
  |ty n=>cases (show u=Value.type n from r);rfl
section
variable {P:Program} {w:World} {H H':Hp} {h h':Heap} {a C dx:Addr} {fs fs':List (Str×V)}
end
section
variable {X:Cx} {pins:List (Addr×Obj)} {σ:St} {H:Hp} {s:Shared} {a C dx:Addr} {fs:List (Str×V)} {f:Str} {v:V} {A:Around} {E:Value→Shared→Prop}
theorem attr_of {prog:Program} {w:World} {env:Env} {e:Expr} {f:Str} {pos:Pos} {s:Shared} {Q:Value→Shared→Prop} (hb:attributeBase e f env (eval e env)=eval e env)
    (h:wpAny (model prog w) A (eval e env) (fun o s₁=>wpAny (model prog w) A (getAttr o f true) Q E s₁) E s):wpAny (model prog w) A (eval (.Attribute e f pos) env) Q E s:=
  Attribute_any_ h (by rw [arm_eval_Attribute,hb])
end
section
variable {X:Cx} {o e value:Expr} {f:Str} {pos pos' tpos:Pos} {ta tv:TE}
end
section
variable {X:Cx} {pins:List (Addr×Obj)} {σ:St} {H:Hp} {s:Shared} {A:Around} {E:Value→Shared→Prop} {Q:Value→Shared→Prop} {c:Value} {b:Bool}
end
end L2
namespace L2
open PySem PySem.Spec PyProof.Rows
structure Room (k:Nat) (A:Around):Prop where
  hd:A.handled=none
  dp:A.depth+3*k+5<recursionLimit
  un:A.units+16*k+200<cLine
  gd:A.guards=some []
theorem Room.mono {j k:Nat} {A:Around} (r:Room k A) (h:j≤k):Room j A:=⟨r.hd,by have:=r.dp;omega,by have:=r.un;omega,r.gd⟩
theorem Room.deeper {k:Nat} {A:Around} (r:Room (k+1) A) (env:Env):Room k (A.deeper env):=
  ⟨r.hd,by have:=r.dp;show A.depth+1+3*k+5<_;omega,by have:=r.un;show A.units+3+16*k+200<_;omega,r.gd⟩
theorem make_depth {A:Around} {C:Addr} {us:List Value} {kw:List (Str×Value)}:(A.under (.builtin "type.__call__" ⟨.ref C::us,kw⟩)).depth=A.depth+1:=by
  first|rfl|simp [Around.under,Code.weight,Code.isCreation,Code.isGuard,Code.isCaller,Code.frames,Code.isFrame,guardIds]
theorem make_units {A:Around} {C:Addr} {us:List Value} {kw:List (Str×Value)}:(A.under (.builtin "type.__call__" ⟨.ref C::us,kw⟩)).units=A.units+1:=by
  first|rfl|simp [Around.under,Code.cUnits,Code.frames,Code.isFrame]
theorem Room.make {k:Nat} {A:Around} (r:Room (k+1) A) (C:Addr) (us:List Value) (kw:List (Str×Value)):Room k (A.under (.builtin "type.__call__" ⟨.ref C::us,kw⟩)):=
  ⟨r.hd,by have:=r.dp;rw [make_depth];omega,by have:=r.un;rw [make_units];omega,by have:=r.gd;first|exact this|(simpa [Around.under] using this)⟩
theorem Room.depth {k:Nat} {A:Around} (r:Room k A):A.depth<recursionLimit:=by have:=r.dp;omega
theorem Room.units {k:Nat} {A:Around} (r:Room k A):A.units+64<cLine:=by have:=r.un;omega
def tNil:TA:=fun _ H Q=>Q [] H
def tCons (ta:TE) (tr:TA):TA:=fun σ H Q=>ta σ H fun x H1=>tr σ H1 fun xs H2=>Q (x::xs) H2
section
variable {X:Cx} {e:Expr} {es:List Expr} {te:TE} {t:TA} {pos:Pos}
theorem pa_nil:PA X [] tNil:=fun _ _ _ _ H Q I h=>Calls.spliced_nil ⟨[],H,I,.nil,h⟩
theorem pa_cons (ha:PE X e te) (hr:PA X es t) (hs:starEach (e::es) X.env=(false,eval e X.env)::starEach es X.env:=by rfl):PA X (e::es) (tCons te t):=by
  intro pos pins s σ H Q I h
  rw [hs]
  show wpAny _ _ (spliced ((false,eval e X.env)::backTo pos (starEach es X.env))) _ _ s
  refine Calls.spliced_cons (thn (ha pins s σ H _ I h) fun u s1 ⟨x,H1,I1,r1,q1⟩=>?_)
  exact thn (hr pos pins s1 σ H1 _ I1 q1) fun us s2 ⟨xs,H2,I2,r2,q2⟩=>⟨x::xs,H2,I2,.cons r1 r2,q2⟩
def tTup (t:TA):TE:=fun σ H Q=>t σ H fun xs H1=>xs.length≤sizeLine∧∀ p,H1 p=none→Q (.ref p) (upd H1 p (.tup xs))
def tLst (t:TA):TE:=fun σ H Q=>t σ H fun xs H1=>xs.length≤sizeLine∧∀ p,H1 p=none→Q (.ref p) (upd H1 p (.lst xs))
theorem pe_tup {x1} (h:PA X es t):PE X (.Tuple es x1 pos) (tTup t):=by
  intro pins s σ H Q I hq
  refine wpAny_Tuple_spliced (thn (h pos pins s σ H _ I hq) fun us s1 ⟨xs,H1,I1,r,z,q⟩=>⟨by rw [← r.length];exact z,?_⟩)
  have hf:H1 s1.heap.objs.size=none:=I1.hok.fresh (Nat.le_refl _)
  refine ⟨.ref s1.heap.objs.size,upd H1 s1.heap.objs.size (.tup xs),I1.laid (t':=s1.toks) (fun b u e=>Heap.get?_push_of_some _ e) (Nat.le_refl _) ?_,rfl,q _ hf⟩
  exact ⟨z,us,r,⟨_,Heap.get?_push_size _ rfl,rfl,_,rfl⟩⟩
theorem pe_lst (h:PA X es t):PE X (.List es pos) (tLst t):=by
  intro pins s σ H Q I hq
  refine wpAny_List_spliced (thn (h pos pins s σ H _ I hq) fun us s1 ⟨xs,H1,I1,r,z,q⟩=>⟨by rw [← r.length];exact z,?_⟩)
  have hf:H1 s1.heap.objs.size=none:=I1.hok.fresh (Nat.le_refl _)
  refine ⟨.ref s1.heap.objs.size,upd H1 s1.heap.objs.size (.lst xs),I1.laid (t':=s1.toks) (fun b u e=>Heap.get?_push_of_some _ e) (Nat.le_refl _) ?_,rfl,q _ hf⟩
  exact ⟨z,us,0,r,Heap.get?_push_size _ rfl⟩
end
abbrev Sp:=List V→Hp→VK→XK→Prop
abbrev CXT:=List Env→Hp→Shared→XK→Value→Shared→Prop
structure Env0 (P:Program) (w:World) (K:PySem.W.Frag) (mg:Str→Option Value) (base:Heap) (A:Around) (outer:List Env) (s:Shared) (H:Hp):Prop where
  frames:A.frames=some outer
  mod:Mod K mg base
  bs:∀ b o,base.get? b=some o→s.heap.get? b=some o∧H b=none
  bsz:base.objs.size≤s.heap.objs.size
  funs:s.heap.FunFrames base outer
  frf:∀ b∈frs outer,H b=none
  hok:HOk P w H s.heap
  bare:AllBare s.gens
def CE (outer:List Env) (P:Program) (w:World) (H:Hp) (s:Shared) (Q:VK) (u:Value) (s':Shared):Prop:=
  ∃ v H',s'.os=s.os∧AllBare s'.gens∧Un (frs outer) [] H H' s.heap s'.heap∧HOk P w H' s'.heap∧RelV v u∧Q v H'
def CR (CX:CXT) (outer:List Env) (P:Program) (w:World) (H:Hp) (s:Shared) (Q:VK) (E:XK) (r:Result) (s':Shared):Prop:=
  match r with
  |.ok (.ret u)=>CE outer P w H s Q u s'
  |.ok _=>False
  |.error e=>CX outer H s E e s'
structure FnOk (P:Program) (w:World) (K:PySem.W.Frag) (mg:Str→Option Value) (base:Heap) (CX:CXT) (k:Nat) (f:Addr) (fd:FuncData) (ps:List Str) (sp:Sp):Prop where
  len:∀ vs H Q E,sp vs H Q E→vs.length=ps.length
  run:∀ (A:Around) (outer:List Env) (s:Shared) (H:Hp) (args:Args) (us:List Value) (vs:List V) (Q:VK) (E:XK),Room k A→Env0 P w K mg base A outer s H→BindsTo s fd args (ps.zip us)→Vals vs us→sp vs H Q E→
    codeAny (model P w) A (.call (.ref f) args) (CR CX outer P w H s Q E) s
theorem Env0.make {P:Program} {w:World} {K:PySem.W.Frag} {mg:Str→Option Value} {base:Heap} {A:Around} {outer:List Env} {s:Shared} {H:Hp} (e:Env0 P w K mg base A outer s H) (C:Addr) (us:List Value) (kw:List (Str×Value)) :
    Env0 P w K mg base (A.under (.builtin "type.__call__" ⟨.ref C::us,kw⟩)) outer s H:=⟨by first|exact e.frames|(simpa [Around.under,Code.envs,Code.isFrame,pushEnvs] using e.frames),e.mod,e.bs,e.bsz,e.funs,e.frf,e.hok,e.bare⟩
section
variable {X:Cx} {pins:List (Addr×Obj)} {σ:St} {H:Hp} {s s':Shared}
theorem Inv.env0 (I:Inv X pins σ H s):Env0 X.prog X.w X.K X.mg X.base X.A X.stack s H:=
  ⟨I.ok.frames,I.ok.mod,I.bs,Nat.le_trans I.ok.bsz I.sz,I.stack,I.stkFree,I.hok,I.bare⟩
theorem Inv.after {Q:VK} {u:Value} (I:Inv X pins σ H s) (h:CE X.stack X.prog X.w H s Q u s'):EP X pins σ Q u s':=by
  obtain ⟨v,H',os,bare,un,hok,r,q⟩:=h
  obtain ⟨hh,g,d,t,os'⟩:=s'
  obtain rfl:os'=s.os:=os
  exact ⟨v,H',I.call (h':=hh) (g':=g) (d':=d) (t':=t) (ch:=[]) un hok bare (fun b z=>absurd z (by simp)),r,q⟩
end
def tCall (sp:Sp) (dvs:List V) (E:XK) (t:TA):TE:=fun σ H Q=>t σ H fun vs H1=>sp (vs++dvs) H1 Q E
def Binds (K:PySem.W.Frag) (fd:FuncData) (ps:List Str) (ds:List Value):Prop:=
  ∀ (s:Shared) (us:List Value),K.In s.heap→(us++ds).length=ps.length→BindsTo s fd ⟨us,[]⟩ (ps.zip (us++ds))
theorem Binds.all {K:PySem.W.Frag} {fd:FuncData} {ps:List Str} (h:∀ us:List Value,us.length=ps.length→bindArgs fd ⟨us,[]⟩=pure (ps.zip us)):Binds K fd ps []:=fun s us _ hl=>by
  rw [List.append_nil] at hl ⊢
  exact .of_eq (h us hl)
def Passes (CX:CXT) (X:Cx) (E:XK):Prop:=∀ (pins:List (Addr×Obj)) (σ:St) (H:Hp) (s:Shared) (e:Value) (s':Shared),Inv X pins σ H s→CX X.stack H s E e s'→X.xe e s'
section
variable {X:Cx} {CX:CXT} {k:Nat} {f C:Addr} {fd:FuncData} {ps:List Str} {sp:Sp} {dvs:List V} {ds:List Value} {E:XK} {x m:Str} {p pos apos:Pos} {e o:Expr} {es:List Expr} {ta:TE} {t:TA}
theorem run_fn {pins:List (Addr×Obj)} {σ:St} {H:Hp} {s:Shared} {Q:VK} {us:List Value} {vs:List V} (F:FnOk X.prog X.w X.K X.mg X.base CX k f fd ps sp) (hr:Room k X.A) (hb:Binds X.K fd ps ds) (hd:Vals dvs ds) (hx:Passes CX X E)
    (I:Inv X pins σ H s) (r:Vals vs us) (h:sp (vs++dvs) H Q E):wpAny (model X.prog X.w) X.A (call (.ref f) us) (EP X pins σ Q) X.xe s:=by
  have r2:Vals (vs++dvs) (us++ds):=r.append hd
  have hl:(us++ds).length=ps.length:=by rw [← r2.length];exact F.len _ _ _ _ h
  refine wpAny_call (codeAny_mono (F.run X.A X.stack s H ⟨us,[]⟩ (us++ds) (vs++dvs) Q E hr I.env0 (hb s us I.kIn hl) r2 h) fun r s' hq=>?_)
  cases r with
  |error e=>exact hx pins σ H s e s' I hq
  | ok fl=>
    cases fl with
    |ret u=>exact I.after hq
    |next=>exact False.elim hq
    |brk=>exact False.elim hq
    |cont=>exact False.elim hq
theorem pe_call (F:FnOk X.prog X.w X.K X.mg X.base CX k f fd ps sp) (hr:Room k X.A) (hg:Gl X x) (hm:X.mg x=some (.ref f)) (hk:PySem.W.keepIn X.K (.ref f)=true) (hb:Binds X.K fd ps ds) (hd:Vals dvs ds) (hx:Passes CX X E)
    (ha:PA X (e::es) t) (hdb:(x == ("__debug__" : Str))=false:=by decide) (he:starEach (e::es) X.env=(false,eval e X.env)::starEach es X.env:=by rfl) (hpl:(backTo pos (starEach es X.env)).any (·.1)=false:=by rfl) :
    PE X (.Call (.Name x p) (e::es) [] pos) (tCall sp dvs E t):=by
  intro pins s σ H Q I h
  refine wpAny_Call_Name_kw (ld_glob I hg hm ?_ hdb)
  refine PySem.W.callWith_K (h₀:=X.base) I.ok.mod.kin hk (thn (ha pos pins s σ H _ I h) fun us s1 ⟨vs,H1,I1,r,q⟩=>⟨I1.kIn,?_⟩) he hpl
  exact run_fn F hr hb hd hx I1 r q
end
section
variable {X:Cx} {CX:CXT} {k:Nat} {f C:Addr} {fd:FuncData} {ps ks:List Str} {sp:Sp} {E:XK} {x m:Str} {p pos apos kpos:Pos} {e o:Expr} {es:List Expr} {kws:List Keyword} {te ta:TE} {t tk:TA} {nm:Option Str}
variable {g:List Value→List Value→List Value} {gV:List V→List V→List V}
end
structure FnScope (N P:List Str) (sc:Scope):Prop where
  kind:sc.kind=.function
  co:sc.isCoroutine=false
  gen:sc.isGenerator=false
  nd:N.Nodup
  pre:N.take P.length=P
  par:∀ x∈P,sc.names.lookup x=some .local∨sc.names.lookup x=some .cell
  nofree:∀ y∈sc.names,y.2≠.free
theorem bindL_out {kindOf:Str→Option NameKind} {x:Str}:∀ {binds:List (Str×Value)} {m:Str→Option Value},(∀ v,(x,v)∉binds)→bindL kindOf binds m x=m x
  |[],_,_=>rfl
  | (n,v)::r,m,h=>by
    unfold bindL
    rw [bindL_out fun w hw=>h w (List.mem_cons_of_mem _ hw)]
    split
    · have:x≠n:=by rintro rfl;exact h v List.mem_cons_self
      simp [this]
    · rfl
theorem bindC_out {kindOf:Str→Option NameKind} {x:Str}:∀ {binds:List (Str×Value)} {m:Str→Option Value},(∀ v,(x,v)∉binds)→bindC kindOf binds m x=m x
  |[],_,_=>rfl
  | (n,v)::r,m,h=>by
    unfold bindC
    rw [bindC_out fun w hw=>h w (List.mem_cons_of_mem _ hw)]
    split
    · rfl
    · have:x≠n:=by rintro rfl;exact h v List.mem_cons_self
      simp [this]
theorem bindL_get {kindOf:Str→Option NameKind} {x:Str} {v:Value}:∀ {P:List Str} {vs:List Value} {i:Nat} {m:Str→Option Value},P.Nodup→P[i]?=some x→vs[i]?=some v→kindOf x=some .local→
    bindL kindOf (P.zip vs) m x=some v
  |[],_,_,_,_,h,_,_=>by simp at h
  |_::_,[],_,_,_,_,h,_=>by simp at h
  | p::P,w::vs,0,m,nd,h1,h2,hk=>by
    simp at h1 h2;subst h1;subst h2
    show bindL kindOf ((p,w)::P.zip vs) m p=_
    unfold bindL
    rw [bindL_out fun v hv=>(List.nodup_cons.mp nd).1 (List.of_mem_zip hv).1,if_pos hk]
    simp
  | p::P,w::vs,i+1,m,nd,h1,h2,hk=>by
    show bindL kindOf ((p,w)::P.zip vs) m x=_
    unfold bindL
    exact bindL_get (i:=i) (List.nodup_cons.mp nd).2 (by simpa using h1) (by simpa using h2) hk
theorem bindC_get {kindOf:Str→Option NameKind} {x:Str} {v:Value}:∀ {P:List Str} {vs:List Value} {i:Nat} {m:Str→Option Value},P.Nodup→P[i]?=some x→vs[i]?=some v→kindOf x≠some .local→
    bindC kindOf (P.zip vs) m x=some v
  |[],_,_,_,_,h,_,_=>by simp at h
  |_::_,[],_,_,_,_,h,_=>by simp at h
  | p::P,w::vs,0,m,nd,h1,h2,hk=>by
    simp at h1 h2;subst h1;subst h2
    show bindC kindOf ((p,w)::P.zip vs) m p=_
    unfold bindC
    rw [bindC_out fun v hv=>(List.nodup_cons.mp nd).1 (List.of_mem_zip hv).1,if_neg hk]
    simp
  | p::P,w::vs,i+1,m,nd,h1,h2,hk=>by
    show bindC kindOf ((p,w)::P.zip vs) m x=_
    unfold bindC
    exact bindC_get (i:=i) (List.nodup_cons.mp nd).2 (by simpa using h1) (by simpa using h2) hk
def start (N:List Str) (vs:List V):St:=vs.map some++List.replicate (N.length-vs.length) none
def cxOf (CX:CXT) (P:Program) (w:World) (K:PySem.W.Frag) (mg:Str→Option Value) (base:Heap) (N:List Str) (qual:Str) (scope:Scope) (f:Addr) (cd:Value) (A:Around) (outer:List Env) (s:Shared) (H:Hp) (E:XK):Cx where
  prog:=P
  w:=w
  K:=K
  mg:=mg
  base:=base
  A:=A.deeper (envOfC qual scope s.heap.objs.size f cd)
  N:=N
  s₀:=s
  H₀:=H
  env:=envOfC qual scope s.heap.objs.size f cd
  outer:=outer
  stack:=envOfC qual scope s.heap.objs.size f cd::outer
  ex:=[]
  calm:=true
  fn:=fun _=>true
  pn:=[]
  xe:=fun e s'=>wpAny (model P w) (A.deeper (envOfC qual scope s.heap.objs.size f cd)) (leaving (envOfC qual scope s.heap.objs.size f cd) e) (fun _ s''=>CX outer H s E e s'') (fun e' s''=>CX outer H s E e' s'') s'
theorem cell_has {sc:Scope} {n:Nat} {x:Str} (h:sc.names.lookup x=some .cell):∃ c,(cellsFrom n sc.names []).lookup x=some c:=by
  have q:=PySem.W.cellsFrom_some sc.names n [] (.inl h)
  exact Option.isSome_iff_exists.mp q
theorem inv_start {CX:CXT} {P:Program} {w:World} {K:PySem.W.Frag} {mg:Str→Option Value} {base:Heap} {N ps:List Str} {qual:Str} {scope:Scope} {f:Addr} {cd:Value} {A:Around} {outer:List Env} {s s1:Shared} {H:Hp} {E:XK} {us:List Value} {vs:List V}
    (S:FnScope N ps scope) (hd:A.handled=none) (e0:Env0 P w K mg base A outer s H) (hl:vs.length=ps.length) (r:Vals vs us)
    (x:InCallC s s.heap.objs.size (bindL (envOfC qual scope s.heap.objs.size f cd).kindOf (ps.zip us) fun _=>none) (cellsFrom (s.heap.objs.size+1) scope.names []) (bindC (envOfC qual scope s.heap.objs.size f cd).kindOf (ps.zip us) fun _=>none) s1) :
    Inv (cxOf CX P w K mg base N qual scope f cd A outer s H E) [] (start N vs) H s1:=by
  have hpl:ps.length≤N.length:=by have:=congrArg List.length S.pre;rw [List.length_take] at this;omega
  obtain ⟨h1,tk,rfl,hk⟩:=x.done
  have noA:∀ b:Addr,b∉(cxOf CX P w K mg base N qual scope f cd A outer s H E).ex:=fun b z=>absurd (show b∈([]:List Addr) from z) (by simp)
  refine ⟨⟨e0.mod,S.kind,rfl,rfl,Nat.le_refl _,fun y z c h1 h2=>?_,fun y hy=>?_,fun y c _ h=>?_,fun _=>hd,Around.frames_deeper e0.frames,.inr ⟨rfl,rfl⟩,fun b z=>absurd z (noA b),e0.bs,e0.bsz,fun b _ _=>noA b,fun b z=>absurd z (noA b),e0.funs,e0.frf⟩,
    rfl,e0.bare,Un.kept hk,⟨_,x.toInCall.ns,fun i y v h1 h2 h3=>?_⟩,fun y c h=>⟨_,x.cell y c h⟩,e0.hok.fresh (Nat.le_refl _),fun y c h=>?_,fun p hp=>absurd (show p∈([]:List (Addr×Obj)) from hp) (by simp),e0.hok.kept hk,?_⟩
  · exact name_of_addr x.apart (PySem.mem_of_lookup h1) (PySem.mem_of_lookup h2)
  · have hy:scope.names.lookup y=some .cell∨scope.names.lookup y=some .free:=hy
    rcases hy with hy|hy
    · exact cell_has hy
    · exact absurd rfl (S.nofree _ (PySem.mem_of_lookup hy))
  · exact Nat.le_of_lt (x.above y c (PySem.mem_of_lookup h))
  · have hi:i<vs.length:=by
      unfold start at h2
      by_cases hi:i<vs.length
      · exact hi
      · rw [List.getElem?_append_right (by simpa using hi)] at h2
        rw [List.getElem?_replicate] at h2
        split at h2 <;> cases h2
    have ha:vs[i]?=some v:=by
      unfold start at h2
      rw [List.getElem?_append_left (by simpa using hi),List.getElem?_map] at h2
      cases e:vs[i]? with
      |none=>rw [e] at h2;cases h2
      |some a=>rw [e] at h2;cases h2;rfl
    obtain ⟨u,hu,rv⟩:=r.get ha
    have hp:ps[i]?=some y:=by
      rw [← S.pre,List.getElem?_take_of_lt (by omega)];exact h1
    have ndP:ps.Nodup:=by rw [← S.pre];exact S.nd.sublist (List.take_sublist _ _)
    refine ⟨u,rv,?_⟩
    rcases S.par y (List.mem_of_getElem? hp) with k|k
    · exact .inl ⟨k,bindL_get ndP hp hu k⟩
    · obtain ⟨c,e⟩:=cell_has (n:=s.heap.objs.size+1) k
      refine .inr ⟨.inl k,c,e,?_⟩
      have q:=x.cell y c e
      rw [bindC_get ndP hp hu (by show scope.names.lookup y≠_;rw [k];decide)] at q
      exact q
  · exact e0.hok.fresh (Nat.le_of_lt (x.above y c (PySem.mem_of_lookup h)))
  · unfold start
    show _=N.length
    rw [List.length_append,List.length_map,List.length_replicate]
    omega
theorem fn_of {CX:CXT} {P:Program} {w:World} {K:PySem.W.Frag} {mg:Str→Option Value} {base:Heap} {k:Nat} {f:Addr} {name qual:Str} {params:Arguments} {body:List Stmt} {scope:Scope} {dV kV doc pm cdv ct oc:Value} {an od:Option Addr}
    {osl:Array (Option Value)} {N ps:List Str} {sp:Sp} (lk:K.lookup f=some ⟨oc,od,.func (PySem.W.fnOf name qual params body scope dV kV doc pm an cdv ct),osl⟩) (hcd:PySem.W.codeIn K cdv qual=true) (S:FnScope N ps scope)
    (len:∀ vs H Q E,sp vs H Q E→vs.length=ps.length)
    (hbody:∀ (A:Around) (outer:List Env) (s:Shared) (H:Hp) (vs:List V) (Q:VK) (E:XK),Room k (A.deeper (envOfC qual scope s.heap.objs.size f cdv))→sp vs H Q E→
      ∃ t,PSs (cxOf CX P w K mg base N qual scope f cdv A outer s H E) body t∧t { nx:=fun _ H'=>Q .non H',rt:=Q } (start N vs) H) :
    FnOk P w K mg base CX (k+1) f (PySem.W.fnOf name qual params body scope dV kV doc pm an cdv ct) ps sp:=by
  refine ⟨len,fun A outer s H args us vs Q E hr e0 hb r hsp=>?_⟩
  have hl:=len _ _ _ _ hsp
  have KX:K.In s.heap:=e0.mod.kin.keeps fun b o e=>(e0.bs b o e).1
  have lim:s.heap.NoLimit:=e0.mod.nolimit.keeps fun b o e=>(e0.bs b o e).1
  have hkind:∀ y∈ps.zip us,scope.names.lookup y.1=some .local∨(scope.names.lookup y.1=some .cell∧((cellsFrom (s.heap.objs.size+1) scope.names []).lookup y.1).isSome=true):=fun ⟨n,v⟩ hy=>by
    rcases S.par n (List.of_mem_zip hy).1 with q|q
    · exact .inl q
    · exact .inr ⟨q,PySem.W.cellsFrom_some _ _ _ (.inl q)⟩
  refine codeAny_call_function hr.depth (KX _ _ lk) rfl S.co S.gen rfl (PySem.W.codeRec_of KX hcd) (hb _ _ _ _ ?_)
  refine wpAny_newFunctionEnv_cells S.kind hkind fun env he s1 x=>?_
  subst he
  refine ⟨lim.keeps x.toInCall.keep,codeAny_func ?_⟩
  obtain ⟨t,ht,hq⟩:=hbody A outer s H vs Q E (hr.deeper _) hsp
  have I:Inv (cxOf CX P w K mg base N qual scope f cdv A outer s H E) [] (start N vs) H s1:=inv_start S hr.hd e0 hl r x
  refine wpAny_mono (ht [] s1 (start N vs) H _ I hq) (fun fl s' hs=>?_) fun e s' hs=>hs
  have fin:∀ {σ':St} {H':Hp} {v:V} {u:Value},Inv (cxOf CX P w K mg base N qual scope f cdv A outer s H E) [] σ' H' s'→RelV v u→Q v H'→CE outer P w H s Q u s':=
    fun {σ' H' v u} J rv q=>⟨v,H',J.os,J.bare,J.base,J.hok,rv,q⟩
  cases fl with
  | ret u=>
    obtain ⟨v,σ',H',J,rv,q⟩:=hs
    exact fin J rv q
  | next=>
    obtain ⟨σ',H',J,q⟩:=hs
    exact fin (v:=V.non) (u:=Value.none) J rfl q
  | brk=>
    obtain ⟨_,_,_,q⟩:=hs
    exact False.elim q
  | cont=>
    obtain ⟨_,_,_,q⟩:=hs
    exact False.elim q
end L2
namespace L2
open PySem PySem.Spec PyProof.Rows
section
variable {X:Cx} {x:Str} {p pos:Pos} {e:Expr} {es:List Expr} {t:TA} {id T:String} {r:List V→Hp→VK→Prop}
def tCB (r:List V→Hp→VK→Prop) (t:TA):TE:=fun σ H Q=>t σ H fun vs H1=>r vs H1 Q
theorem pe_callB (hc:CallR X (.builtin id) r) (hg:Gl X x) (hm:X.mg x=none) (hv:bootBuiltins x=some (.builtin id)) (ha:PA X (e::es) t) (hn:x ≠ "__name__":=by decide) (hdb:(x == ("__debug__" : Str))=false:=by decide)
    (he:starEach (e::es) X.env=(false,eval e X.env)::starEach es X.env:=by rfl) (hpl:(backTo pos (starEach es X.env)).any (·.1)=false:=by rfl):PE X (.Call (.Name x p) (e::es) [] pos) (tCB r t):=by
  intro pins s σ H Q I h
  refine wpAny_Call_Name_kw (ld_blt I hg hm hv ?_ hn hdb)
  exact PyProof.Rows.callWith_builtin1 (thn (ha pos pins s σ H _ I h) fun us s1 ⟨vs,H1,I1,r1,q1⟩=>hc pins s1 σ H1 vs us Q I1 r1 q1) he hpl
theorem pe_callTy (hc:CallR X (.type T) r) (hg:Gl X x) (hm:X.mg x=none) (hv:bootBuiltins x=some (.type T)) (ha:PA X (e::es) t) (hn:x ≠ "__name__":=by decide) (hdb:(x == ("__debug__" : Str))=false:=by decide)
    (he:starEach (e::es) X.env=(false,eval e X.env)::starEach es X.env:=by rfl) (hpl:(backTo pos (starEach es X.env)).any (·.1)=false:=by rfl):PE X (.Call (.Name x p) (e::es) [] pos) (tCB r t):=by
  intro pins s σ H Q I h
  refine wpAny_Call_Name_kw (ld_blt I hg hm hv ?_ hn hdb)
  exact PyProof.Rows.callWith_type1 (thn (ha pos pins s σ H _ I h) fun us s1 ⟨vs,H1,I1,r1,q1⟩=>hc pins s1 σ H1 vs us Q I1 r1 q1) he hpl
end
end L2
namespace HT
open PySem PyProof.Rows
section
open PySem.SeqAt
open PySem.AutoSeq1 (wpAny_loadPart')
open PySem.MeetsSeq PySem.MeetsSeq2 PySem.MeetsSeq3
end
section
variable {prog:Program} {w:World} {A:Around} {E:Value→Shared→Prop} {s:Shared}
def sIx (n d:Nat):Option Int→Nat
  |none=>d
  |some v=>if v<0 then (v+(n:Int)).toNat else min v.toNat n
theorem sIx_none (n d:Nat):sIx n d none=d:=rfl
theorem sIx_nat (n d k:Nat):sIx n d (some (k:Int))=min k n:=by
  show (if (k:Int)<0 then ((k:Int)+(n:Int)).toNat else min (k:Int).toNat n)=min k n
  rw [if_neg (by omega),Int.toNat_natCast]
theorem sIx_le (n d:Nat) (hd:d≤n) (o:Option Int):sIx n d o≤n:=by
  cases o with
  |none=>exact hd
  | some v=>
    show (if v<0 then (v+(n:Int)).toNat else min v.toNat n)≤n
    by_cases hv:v<0
    · rw [if_pos hv];omega
    · rw [if_neg hv];exact Nat.min_le_right _ _
theorem clip_eq (v:Int) (n d:Nat):(if v<0 then max (v+(n:Int)) 0 else min v (n:Int))=((sIx n d (some v):Nat):Int):=by
  show (if v<0 then max (v+(n:Int)) 0 else min v (n:Int))=(((if v<0 then (v+(n:Int)).toNat else min v.toNat n):Nat):Int)
  by_cases hv:v<0
  · simp only [if_pos hv];omega
  · simp only [if_neg hv];omega
theorem adjust_gen (lo hi:Option Int) (n:Nat):Builtin.Slice.sliceAdjust lo hi 1 (n:Int)=(((sIx n 0 lo:Nat):Int),((sIx n n hi:Nat):Int)):=by
  have h1:¬ ((1:Int)<0):=by omega
  unfold Builtin.Slice.sliceAdjust
  simp only [h1,if_false]
  refine Prod.ext ?_ ?_
  · cases lo with
    |none=>rfl
    |some v=>exact clip_eq v n 0
  · cases hi with
    |none=>rfl
    |some v=>exact clip_eq v n n
theorem places_gen (i j:Nat):Builtin.Slice.slicePlaces (i:Int) (j:Int) 1=j-i:=by
  unfold Builtin.Slice.slicePlaces
  have h1:(1:Int) > 0:=by omega
  simp only [h1,if_true,Int.ediv_one]
  split <;> omega
theorem slicePart_ {v:Value} {o:Option Int} {Q:Option Int→Shared→Prop} (p:IsPart v o) (h:Q o s):wpAny (model prog w) A (Builtin.Slice.slicePartIndex v) Q E s:=by
  cases p with
  |none=>exact slicePart_none h
  |int i t=>exact slicePart_int h
theorem sliceApplied_gen {sl:Addr} {vl vu:Value} {lo hi:Option Int} {n:Nat} {Q:Int×Int×Nat→Shared→Prop} (hs:s.heap.IsSliceOf sl vl vu .none) (pl:IsPart vl lo) (pu:IsPart vu hi)
    (h:Q (((sIx n 0 lo:Nat):Int),1,sIx n n hi-sIx n 0 lo) s):wpAny (model prog w) A (Builtin.Slice.sliceApplied (.ref sl) (pure (n:Int))) Q E s:=by
  obtain ⟨os,hos,hcs,hds⟩:=id hs
  unfold Builtin.Slice.sliceApplied Builtin.Slice.sliceFields
  refine wpAny_bind (wpAny_bind (wpAny_field hos hds (x:=vl) rfl (wpAny_bind (wpAny_field hos hds (x:=vu) rfl (wpAny_bind (wpAny_field hos hds (x:=.none) rfl (wpAny_pure ?_)))))))
  refine wpAny_bind (slicePart_none ?_)
  show wpAny _ _ (if ((1:Int) == 0)=true then _ else _) _ _ s
  rw [if_neg (by decide)]
  refine wpAny_bind (slicePart_ pl (wpAny_bind (slicePart_ pu (wpAny_bind (wpAny_pure ?_)))))
  show wpAny _ _ (match Builtin.Slice.sliceAdjust lo hi 1 (n:Int) with|(lo,hi)=>pure (lo,(1:Int),Builtin.Slice.slicePlaces lo hi 1)) _ _ s
  rw [adjust_gen lo hi n]
  show wpAny _ _ (pure (((sIx n 0 lo:Nat):Int),(1:Int),Builtin.Slice.slicePlaces ((sIx n 0 lo:Nat):Int) ((sIx n n hi:Nat):Int) 1)) _ _ s
  rw [places_gen]
  exact wpAny_pure h
theorem pick_gen (xs:Array Value) (i k:Nat):((List.range k).filterMap fun (m:Nat)=>xs[((i:Int)+(m:Int)*1).toNat]?).toArray=((xs.toList.drop i).take k).toArray:=by
  have e:(fun (m:Nat)=>xs[((i:Int)+(m:Int)*1).toNat]?)=fun m=>xs[i+m]?:=by
    funext m
    have:((i:Int)+(m:Int)*1).toNat=i+m:=by omega
    rw [this]
  rw [e]
  have:=pick_run xs i k
  rw [List.filterMap_map] at this
  have e2:((fun x=>xs[x]?) ∘ fun x=>i+x)=fun m=>xs[i+m]?:=rfl
  rw [e2] at this
  rw [this]
theorem getItem_tuple_cut {t sl:Addr} {items:Array Value} {vl vu:Value} {lo hi:Option Int} {Q:Value→Shared→Prop} (ht:IsTup s.heap t items) (hs:s.heap.IsSliceOf sl vl vu .none) (pl:IsPart vl lo) (pu:IsPart vu hi)
    (hw:¬ (sIx items.size 0 lo=0∧sIx items.size items.size hi=items.size))
    (h:Q (.ref s.heap.objs.size) { s with heap:=s.heap.push { cls:=.type "tuple",data:=.seq ((items.toList.drop (sIx items.size 0 lo)).take (sIx items.size items.size hi-sIx items.size 0 lo)).toArray } })
    (hsz:items.size≤sizeLine):wpAny (model prog w) A (getItem (.ref t) (.ref sl)) Q E s:=by
  have htake:sizeOk (.seq ((items.toList.drop (sIx items.size 0 lo)).take (sIx items.size items.size hi-sIx items.size 0 lo)).toArray):=by
    show ((items.toList.drop (sIx items.size 0 lo)).take (sIx items.size items.size hi-sIx items.size 0 lo)).toArray.size≤sizeLine
    rw [List.size_toArray,List.length_take,List.length_drop,Array.length_toList]
    omega
  have hj:sIx items.size items.size hi≤items.size:=sIx_le _ _ (Nat.le_refl _) hi
  obtain ⟨os,hos,hcs,hds⟩:=id hs
  have hTs:s.TypeIs (.ref sl) "slice":=⟨os,hos,hcs⟩
  unfold getItem
  try with_reducible refine wpAny_holding ?_
  first|refine wpAny_bind (wpAny_pure ?_)|skip
  refine wpAny_bind (wpAny_sequenceKey ht.typeIs (by decide) ?_)
  refine wpAny_bind (wpAny_callSpecial?_slot (name:=Str.ofString "__getitem__") ht.typeIs PyProof.Rows.slot_tuple_getitem
    (wpAny_call_entry PyProof.Rows.slot_tuple_getitem ht.typeIs entry_tuple_getitem ?_ (args_tuple_getitem _ _)))
  show wpAny _ _ (Builtin.Tuple.tupleItemsOf (.ref t) >>= _) _ _ s
  refine wpAny_bind (tupleItemsOf_ ht ?_)
  refine wpAny_bind (wpAny_typeOf hTs ?_)
  rw [if_pos (by decide)]
  refine wpAny_bind (sliceApplied_gen hs pl pu ?_)
  have hno:¬ ((((sIx items.size 0 lo:Nat):Int) == 0 && (1:Int) == 1 && (sIx items.size items.size hi-sIx items.size 0 lo) == items.size)=true):=by
    intro q
    rw [Bool.and_eq_true,Bool.and_eq_true] at q
    have q1:((sIx items.size 0 lo:Nat):Int)=0:=eq_of_beq q.1.1
    have q2:sIx items.size items.size hi-sIx items.size 0 lo=items.size:=eq_of_beq q.2
    exact hw ⟨by omega,by omega⟩
  show wpAny _ _ (if (((sIx items.size 0 lo:Nat):Int) == 0 && (1:Int) == 1 && (sIx items.size items.size hi-sIx items.size 0 lo) == items.size)=true then _ else _) _ _ s
  rw [if_neg hno,pick_gen]
  first
    |exact wpAny_bind (m:=Builtin.Tuple.tupleExact _) (wpAny_newObj_type (wpAny_pure ⟨_,rfl,wpAny_pure h⟩) htake)
    |exact wpAny_bind (m:=Builtin.Tuple.tupleExact _) (wpAny_newObj_type (wpAny_bind (wpAny_pure (wpAny_pure ⟨_,rfl,wpAny_pure h⟩))) htake)
    |exact wpAny_bind (wpAny_bind (m:=Builtin.Tuple.tupleExact _) (wpAny_newObj_type (wpAny_pure (wpAny_pure ⟨_,rfl,wpAny_pure h⟩)) htake))
    |exact wpAny_bind (wpAny_bind (m:=Builtin.Tuple.tupleExact _) (wpAny_newObj_type (wpAny_pure ⟨_,rfl,wpAny_pure h⟩) htake))
end
end HT
namespace L2
open PySem PySem.Spec PyProof.Rows
abbrev TO:=St→Hp→(Option Int→Hp→Prop)→Prop
def PO (X:Cx) (e:Option Expr) (t:TO):Prop:=
  ∀ (pins:List (Addr×Obj)) (s:Shared) (σ:St) (H:Hp) (Q:Option Int→Hp→Prop),Inv X pins σ H s→t σ H Q→
    wpAny (model X.prog X.w) X.A (evalPart e X.env) (fun u s'=>∃ o H',Inv X pins σ H' s'∧IsPart u o∧Q o H') X.xe s
def tNoPart:TO:=fun _ H Q=>Q none H
def tPart (t:TE):TO:=fun σ H Q=>t σ H fun x H1=>∃ i,x=.int i∧Q (some i) H1
section
variable {X:Cx} {e:Expr} {te:TE} {lo hi:Option Expr} {tl th:TO} {pos p2:Pos}
theorem po_none:PO X none tNoPart:=by
  intro pins s σ H Q I h
  rw [evalPart_none]
  exact wpAny_pure ⟨none,H,I,.none,h⟩
theorem po_some (h:PE X e te):PO X (some e) (tPart te):=by
  intro pins s σ H Q I hw
  rw [evalPart_some]
  refine thn (h pins s σ H _ I hw) fun u s1 ⟨x,H1,I1,r1,q1⟩=>?_
  obtain ⟨i,rfl,q⟩:=q1
  obtain ⟨t,rfl⟩:=r1
  exact ⟨some i,H1,I1,.int i t,q⟩
def SlR (X:Cx) (r:V→Option Int→Option Int→Hp→VK→Prop):Prop:=
  ∀ (pins:List (Addr×Obj)) (s:Shared) (σ:St) (H:Hp) (x:V) (v vl vu:Value) (lo hi:Option Int) (sl:Addr) (Q:VK),Inv X pins σ H s→RelV x v→s.heap.IsSliceOf sl vl vu .none→IsPart vl lo→IsPart vu hi→r x lo hi H Q→
    ∃ T id,typeLookup (.type T) "__getitem__" = pure (some (.builtin id))∧s.TypeIs v T∧wpAny (model X.prog X.w) X.A (getItem v (.ref sl)) (EP X pins σ Q) X.xe s
def tSl (r:V→Option Int→Option Int→Hp→VK→Prop) (te:TE) (tl th:TO):TE:=fun σ H Q=>te σ H fun x H1=>tl σ H1 fun l H2=>th σ H2 fun u H3=>r x l u H3 Q
theorem pe_slice {r:V→Option Int→Option Int→Hp→VK→Prop} (hr:SlR X r) (he:PE X e te) (hl:PO X lo tl) (hu:PO X hi th):PE X (.Subscript e (.Slice lo hi none p2) pos) (tSl r te tl th):=by
  intro pins s σ H Q I h
  refine Subscript_ (thn (he pins s σ H _ I h) fun v s1 ⟨x,H1,I1,r1,q1⟩=>?_)
  refine wpAny_Slice (thn (hl pins s1 σ H1 _ I1 q1) fun vl s2 ⟨l,H2,I2,pl,q2⟩=>thn (hu pins s2 σ H2 _ I2 q2) fun vu s3 ⟨u,H3,I3,pu,q3⟩=>?_)
  rw [evalPart_none]
  refine wpAny_pure ?_
  have I4:Inv X pins σ H3 { s3 with heap:=s3.heap.push { cls:=.type "slice",data:=.fields #[vl,vu,.none] } }:=I3.kept (t':=s3.toks) fun b ob q=>Heap.get?_push_of_some _ q
  obtain ⟨T,id,hT,ht,hg⟩:=hr pins { s3 with heap:=s3.heap.push { cls:=.type "slice",data:=.fields #[vl,vu,.none] } } σ H3 x v vl vu l u s3.heap.objs.size Q I4 r1 (Heap.IsSliceOf.new ..) pl pu q3
  show wpAny (model X.prog X.w) X.A (subscriptTail e (.Slice lo hi none p2) v (.ref s3.heap.objs.size)) (EP X pins σ Q) X.xe { s3 with heap:=s3.heap.push { cls:=.type "slice",data:=.fields #[vl,vu,.none] } }
  exact tail_any (ops:=[.ref s3.heap.objs.size,v]) ht hT hg (by with_unfolding_all rfl)
def cutV (xs:List V) (lo hi:Option Int):List V:=(xs.drop (HT.sIx xs.length 0 lo)).take (HT.sIx xs.length xs.length hi-HT.sIx xs.length 0 lo)
theorem cutV_length (xs:List V) (lo hi:Option Int):(cutV xs lo hi).length≤xs.length:=by
  unfold cutV
  rw [List.length_take,List.length_drop]
  omega
def rSlT (K:PySem.W.Frag):V→Option Int→Option Int→Hp→VK→Prop:=fun x lo hi H Q=>∃ a xs,x=.ref a∧SqT K H a xs∧
  ¬ (HT.sIx xs.length 0 lo=0∧HT.sIx xs.length xs.length hi=xs.length)∧∀ p,H p=none→Q (.ref p) (upd H p (.tup (cutV xs lo hi)))
theorem sl_tup:SlR X (rSlT X.K):=by
  intro pins s σ H x v vl vu lo hi sl Q I rx hs pl pu h
  obtain ⟨a,xs,rfl,hx,hw,q⟩:=h
  cases rx
  obtain ⟨its,r,ht,hz⟩:=I.tuple hx
  have hlen:its.toArray.size=xs.length:=by rw [List.size_toArray];exact r.length.symm
  refine ⟨"tuple",_,PyProof.Rows.slot_tuple_getitem.lookup,ht.typeIs,?_⟩
  refine HT.getItem_tuple_cut ht hs pl pu (by rw [hlen];exact hw) ?_ (by rw [hlen];exact hz)
  rw [hlen]
  refine ⟨.ref s.heap.objs.size,_,I.laid (t':=s.toks) (o:=.tup (cutV xs lo hi)) (fun b ob q=>Heap.get?_push_of_some _ q) (Nat.le_refl _) ?_,rfl,q _ (I.hok.fresh (Nat.le_refl _))⟩
  exact ⟨Nat.le_trans (cutV_length xs lo hi) hz,_,(r.drop (HT.sIx xs.length 0 lo)).take (HT.sIx xs.length xs.length hi-HT.sIx xs.length 0 lo),IsTup.new _ _⟩
end
end L2
namespace L2
open PySem PySem.Spec PyProof.Rows
def ixN (n:Nat) (i:Int):Option Nat:=if 0≤i then (if i<n then some i.toNat else none) else if -(n:Int)≤i then some (i+n).toNat else none
def atI {α:Type} (xs:List α) (i:Int):Option α:=(ixN xs.length i).bind fun j=>xs[j]?
theorem ixN_seq {n:Nat} {i:Int} {j:Nat} (h:ixN n i=some j):seqIndex? i n=some j∧j<n∧-(n:Int)≤i∧i<n:=by
  unfold ixN at h
  by_cases h0:0≤i
  · rw [if_pos h0] at h
    by_cases h1:i<n
    · rw [if_pos h1] at h
      have e:i.toNat=j:=Option.some.inj h
      exact ⟨by rw [seqIndex_of h0 h1,e],by omega,by omega,h1⟩
    · rw [if_neg h1] at h;cases h
  · rw [if_neg h0] at h
    by_cases h1:-(n:Int)≤i
    · rw [if_pos h1] at h
      have e:(i+n).toNat=j:=Option.some.inj h
      exact ⟨by rw [seqIndex_neg (by omega) h1,e],by omega,h1,by omega⟩
    · rw [if_neg h1] at h;cases h
theorem atI_get {α:Type} {xs:List α} {i:Int} {v:α} (h:atI xs i=some v):∃ j,seqIndex? i xs.length=some j∧xs[j]?=some v∧j<xs.length∧-(xs.length:Int)≤i∧i<xs.length:=by
  unfold atI at h
  cases e:ixN xs.length i with
  |none=>rw [e] at h;cases h
  | some j=>
    rw [e] at h
    obtain ⟨h1,h2,h3,h4⟩:=ixN_seq e
    exact ⟨j,h1,h,h2,h3,h4⟩
theorem atI_nat {α:Type} {xs:List α} {j:Nat} {v:α} (h:xs[j]?=some v):atI xs (j:Int)=some v:=by
  have hj:j<xs.length:=(List.getElem?_eq_some_iff.mp h).1
  have e:ixN xs.length (j:Int)=some j:=by
    unfold ixN
    rw [if_pos (by omega),if_pos (by omega)];simp
  unfold atI;rw [e];exact h
def PlainIx (b:Expr):Prop:=∀ o i,subscripted b false o i=operate [o,i] (getItem o i)
def IxR (X:Cx) (r:R2):Prop:=
  ∀ (value slice:Expr) (pins:List (Addr×Obj)) (s:Shared) (σ:St) (H:Hp) (x y:V) (v u:Value) (Q:VK),Inv X pins σ H s→RelV x v→RelV y u→r x y H Q→
    subscripted slice false v u=operate [v,u] (getItem v u)→wpAny (model X.prog X.w) X.A (subscriptTail value slice v u) (EP X pins σ Q) X.xe s
def MtR (X:Cx) (id:String) (r:V→List V→Hp→VK→Prop):Prop:=
  ∀ (pins:List (Addr×Obj)) (s:Shared) (σ:St) (H:Hp) (x:V) (xs:List V) (v:Value) (us:List Value) (Q:VK),Inv X pins σ H s→RelV x v→Vals xs us→r x xs H Q→
    wpAny (model X.prog X.w) X.A (call (.builtin id) (v::us)) (EP X pins σ Q) X.xe s
section
variable {X:Cx} {a b:Expr} {ta tb:TE} {pos:Pos}
theorem IxR.or {r r':R2} (h:IxR X r) (h':IxR X r'):IxR X (fun x y H Q=>r x y H Q∨r' x y H Q):=by
  intro value slice pins s σ H x y v u Q I rx ry q hs
  rcases q with q|q
  · exact h value slice pins s σ H x y v u Q I rx ry q hs
  · exact h' value slice pins s σ H x y v u Q I rx ry q hs
theorem pe_ix {r:R2} (hr:IxR X r) (ha:PE X a ta) (hb:PE X b tb) (hs:PlainIx b):PE X (.Subscript a b pos) (tOp r ta tb):=by
  intro pins s σ H Q I h
  exact Subscript_ (binT ha hb I h fun v u s2 x y H2 I2 rx ry q=>hr a b pins s2 σ H2 x y v u Q I2 rx ry q (hs _ _))
def rIxL (K:PySem.W.Frag):R2:=fun x y H Q=>∃ p xs i v,x=.ref p∧y=.int i∧SqL K H p xs∧atI xs i=some v∧Q v H
def rIxT (K:PySem.W.Frag):R2:=fun x y H Q=>∃ p xs i v,x=.ref p∧y=.int i∧SqT K H p xs∧atI xs i=some v∧Q v H
def rIxS:R2:=fun x y H Q=>∃ z i c,x=.str z∧y=.int i∧z.length≤sizeLine∧atI z.cps.toList i=some c∧Q (.str ⟨#[c]⟩) H
theorem ix_list:IxR X (rIxL X.K):=by
  intro value slice pins s σ H x y v u Q I rx ry h hs
  obtain ⟨p,xs,i,z,rfl,rfl,hq,he,q⟩:=h
  cases rx
  obtain ⟨t,rfl⟩:=ry
  obtain ⟨its,r,pl,hz⟩:=I.list hq
  obtain ⟨j,h1,h2,h3,h4,h5⟩:=atI_get he
  obtain ⟨w,ew,rw'⟩:=r.get h2
  have hl:=r.length
  have hn:=line63
  have fin:EP X pins σ Q w s:=⟨z,H,I,rw',q⟩
  by_cases h0:0≤i
  · have hj:i.toNat=j:=by
      rw [seqIndex_of h0 h5] at h1
      exact Option.some.inj h1
    exact item_listR pl.isList h0 (by omega) (by rw [hj];simpa using ew) fin hs
  · have hj:(i+(its.toArray.size:Int)).toNat=j:=by
      rw [seqIndex_neg (by omega) h4] at h1
      rw [List.size_toArray,← hl]
      exact Option.some.inj h1
    exact subscriptTail_builtinR (x:=w) pl.isList.typeIs slot_list_getitem.lookup
      (wpAny_getItem_list_neg (Q:=fun r s'=>r=w∧EP X pins σ Q r s') pl.isList (by omega) (by rw [List.size_toArray] <;> omega) (by omega) (by rw [hj];simpa using ew) ⟨rfl,fin⟩) hs
theorem ix_tup:IxR X (rIxT X.K):=by
  intro value slice pins s σ H x y v u Q I rx ry h hs
  obtain ⟨p,xs,i,z,rfl,rfl,hq,he,q⟩:=h
  cases rx
  obtain ⟨t,rfl⟩:=ry
  obtain ⟨its,r,pl,hz⟩:=I.tuple hq
  obtain ⟨j,h1,h2,h3,h4,h5⟩:=atI_get he
  obtain ⟨w,ew,rw'⟩:=r.get h2
  have hl:=r.length
  have hn:=line63
  have fin:EP X pins σ Q w s:=⟨z,H,I,rw',q⟩
  exact subscriptTail_builtinR (x:=w) pl.typeIs slot_tuple_getitem.lookup
    (getItem_tuple (j:=j) (Q:=fun r s'=>r=w∧EP X pins σ Q r s') pl (by omega) (by omega) (by rw [List.size_toArray,← hl];exact h1) (by simpa using ew) ⟨rfl,fin⟩) hs
theorem ix_str:IxR X rIxS:=by
  intro value slice pins s σ H x y v u Q I rx ry h hs
  obtain ⟨z,i,c,rfl,rfl,hz,he,q⟩:=h
  obtain ⟨t,rfl⟩:=rx
  obtain ⟨t',rfl⟩:=ry
  obtain ⟨j,h1,h2,h3,h4,h5⟩:=atI_get he
  have hl:z.cps.toList.length=z.length:=by simp [Str.length]
  rw [hl] at h1 h4 h5
  have hn:=line63
  exact tail_any (typeIs_str s z t) slot_str_getitem.lookup (getItem_str (c:=c) (by
    have e1:decide (i < -(2 ^ 63:Int))=false:=decide_eq_false (by omega)
    have e2:decide (i ≥ 2 ^ 63)=false:=decide_eq_false (by omega)
    rw [e1,e2,Bool.or_false]) (by rw [h1];simpa using h2) ⟨.str ⟨#[c]⟩,H,I.tok _,⟨_,rfl⟩,q⟩) hs
def rIx (K:PySem.W.Frag):R2:=fun x y H Q=>rIxL K x y H Q∨rIxT K x y H Q∨rIxS x y H Q
theorem ix_seq:IxR X (rIx X.K):=ix_list.or (ix_tup.or ix_str)
theorem mapSeq_set (its:List Value) (n j:Nat) (u:Value):Obj.mapSeq (·.setIfInBounds j u) { cls:=.type "list",data:=.seq its.toArray n }={ cls:=.type "list",data:=.seq (its.set j u).toArray n }:=by
  simp [Obj.mapSeq]
theorem Inv.lst {pins:List (Addr×Obj)} {σ:St} {H:Hp} {s:Shared} {p:Addr} {xs:List V} (I:Inv X pins σ H s) (h:H p=some (.lst xs)) :
    ∃ (its:List Value) (n:Nat),Vals xs its∧s.heap.get? p=some { cls:=.type "list",data:=.seq its.toArray n }∧xs.length≤sizeLine:=by
  obtain ⟨z,its,n,r,e⟩:=I.hok p _ h
  exact ⟨its,n,r,e,z⟩
theorem Inv.lstUpd {pins:List (Addr×Obj)} {σ:St} {H:Hp} {s:Shared} {p:Addr} {xs ys:List V} {its its':List Value} {n n':Nat} {f:Obj→Obj} (I:Inv X pins σ H s) (h:H p=some (.lst xs))
    (ho:s.heap.get? p=some { cls:=.type "list",data:=.seq its.toArray n }) (hf:f { cls:=.type "list",data:=.seq its.toArray n }={ cls:=.type "list",data:=.seq its'.toArray n' }) (r:Vals ys its') (hz:ys.length≤sizeLine) (t:Nat) :
    Inv X pins σ (upd H p (.lst ys)) { s with heap:=s.heap.update p f,toks:=t }:=by
  have e:(s.heap.update p f).get? p=some { cls:=.type "list",data:=.seq its'.toArray n' }:=by
    rw [Heap.get?_update_self f ho (by rw [hf] <;> rfl),hf]
  refine I.write (x:=p) (e:=p) (by rw [h];trivial) (.inl rfl) (fun b u hb q=>(Heap.get?_update_other _ _ (Ne.symm hb)).trans q) ⟨_,e⟩ ?_
  exact ⟨hz,its',n',r,e⟩
def rSetL:V→V→V→Hp→(Hp→Prop)→Prop:=fun o i v H Q=>∃ p xs k j,o=.ref p∧i=.int k∧H p=some (.lst xs)∧ixN xs.length k=some j∧Q (upd H p (.lst (xs.set j v)))
theorem set_list:PSet X rSetL:=by
  intro pins s σ H o i v ov iv u Q I ro ri rv h
  obtain ⟨p,xs,k,j,rfl,rfl,hp,hj,q⟩:=h
  cases ro
  obtain ⟨t,rfl⟩:=ri
  obtain ⟨its,n,r,ho,hz⟩:=I.lst hp
  obtain ⟨h1,h2,h3,h4⟩:=ixN_seq hj
  have hl:=r.length
  have hn:=line63
  have I':Inv X pins σ (upd H p (.lst (xs.set j v))) { s with heap:=s.heap.update p (Obj.mapSeq (·.setIfInBounds j u)) }:=
    I.lstUpd hp ho (mapSeq_set its n j u) (r.set rv j) (by rw [List.length_set];exact hz) s.toks
  by_cases h0:0≤k
  · have hk:k.toNat=j:=by
      rw [seqIndex_of h0 h4] at h1
      exact Option.some.inj h1
    exact PySem.W.ki_setAt ho h0 (by omega) (by rw [List.size_toArray,← hl];exact h4) (by rw [hk];exact ⟨_,I',q⟩)
  · have hk:(k+(its.toArray.size:Int)).toNat=j:=by
      rw [seqIndex_neg (by omega) h3] at h1
      rw [List.size_toArray,← hl]
      exact Option.some.inj h1
    exact PySem.W.ki_setBack ho (by omega) (by rw [List.size_toArray,← hl];exact h3) (by omega) (by rw [hk];exact ⟨_,I',q⟩)
theorem slice_bounds (lo hi:Option Int) (n:Nat):(sliceBounds lo hi none n).1=((HT.sIx n 0 lo:Nat):Int)∧(sliceBounds lo hi none n).2.1=((HT.sIx n n hi:Nat):Int)∧(sliceBounds lo hi none n).2.2=1:=by
  refine ⟨?_,?_,rfl⟩
  · cases lo with
    |none=>simp [sliceBounds,HT.sIx]
    | some i=>
      simp only [sliceBounds,HT.sIx,Option.getD_none,show (1:Int) > 0 by decide,if_true]
      by_cases h:i<0
      · simp only [h,if_true] <;> omega
      · simp only [h,if_false] <;> omega
  · cases hi with
    |none=>simp [sliceBounds,HT.sIx]
    | some i=>
      simp only [sliceBounds,HT.sIx,Option.getD_none,show (1:Int) > 0 by decide,if_true]
      by_cases h:i<0
      · simp only [h,if_true] <;> omega
      · simp only [h,if_false] <;> omega
theorem slicePick_cut (its:List Value) (lo hi:Option Int):slicePick its.toArray lo hi none=((its.drop (HT.sIx its.length 0 lo)).take (HT.sIx its.length its.length hi-HT.sIx its.length 0 lo)).toArray:=by
  obtain ⟨h1,h2,h3⟩:=slice_bounds lo hi its.toArray.size
  unfold slicePick
  rw [h1,h2,h3]
  simp only [sliceRange_one,pick_run,List.size_toArray] <;> rfl
def rSlL (K:PySem.W.Frag):V→Option Int→Option Int→Hp→VK→Prop:=fun x lo hi H Q=>∃ a xs,x=.ref a∧SqL K H a xs∧∀ p,H p=none→Q (.ref p) (upd H p (.lst (cutV xs lo hi)))
theorem sl_list:SlR X (rSlL X.K):=by
  intro pins s σ H x v vl vu lo hi sl Q I rx hs pl pu h
  obtain ⟨a,xs,rfl,hx,q⟩:=h
  cases rx
  obtain ⟨its,r,ht,hz⟩:=I.list hx
  have hlen:=r.length
  refine ⟨"list",_,slot_list_getitem.lookup,ht.isList.typeIs,?_⟩
  refine wpAny_getItem_list_slice ht.isList hs pl pu .none (by simp) ?_ (by rw [List.size_toArray] <;> omega)
  rw [slicePick_cut,← hlen]
  refine ⟨.ref s.heap.objs.size,_,I.laid (t':=s.toks) (o:=.lst (cutV xs lo hi)) (fun b ob q=>Heap.get?_push_of_some _ q) (Nat.le_refl _) ?_,rfl,q _ (I.hok.fresh (Nat.le_refl _))⟩
  exact ⟨Nat.le_trans (cutV_length xs lo hi) hz,_,0,(r.drop (HT.sIx xs.length 0 lo)).take (HT.sIx xs.length xs.length hi-HT.sIx xs.length 0 lo),Heap.get?_push_size _ rfl⟩
theorem call_len_seq:CallR X (.builtin "len") (fun xs H Q=>∃ p ys,xs=[.ref p]∧(SqL X.K H p ys∨SqT X.K H p ys)∧Q (.int ys.length) H):=by
  intro pins s σ H xs us Q I r h
  obtain ⟨p,ys,rfl,hq,q⟩:=h
  obtain ⟨u,rfl,rx⟩:=vals1 r
  cases rx
  have hn:=line63
  rcases hq with hq|hq
  · obtain ⟨its,r',pl,hz⟩:=I.list hq
    have hlen:=r'.length
    exact Calls.call_len_list pl.isList (by simp only [List.size_toArray] <;> omega) ⟨.int ys.length,H,I.tok _,⟨s.toks+1,by rw [List.size_toArray,hlen]⟩,q⟩
  · obtain ⟨its,r',pl,hz⟩:=I.tuple hq
    have hlen:=r'.length
    exact len_tuple pl (by simp only [List.size_toArray] <;> omega) ⟨.int ys.length,H,I.tok _,⟨s.toks+1,by rw [List.size_toArray,hlen]⟩,q⟩
theorem call_len_str:CallR X (.builtin "len") (fun xs H Q=>∃ z,xs=[.str z]∧z.length≤sizeLine∧Q (.int z.length) H):=by
  intro pins s σ H xs us Q I r h
  obtain ⟨z,rfl,hz,q⟩:=h
  obtain ⟨u,rfl,t,rfl⟩:=vals1 r
  have hn:=line63
  exact len_str (by omega) ⟨.int z.length,H,I.tok _,⟨_,rfl⟩,q⟩
theorem call_list_of:CallR X (.type "list") (fun xs H Q=>∃ p ys,xs=[.ref p]∧(SqL X.K H p ys∨SqT X.K H p ys)∧∀ l,H l=none→Q (.ref l) (upd H l (.lst ys))):=by
  intro pins s σ H xs us Q I r h
  obtain ⟨p,ys,rfl,hq,q⟩:=h
  obtain ⟨u,rfl,rx⟩:=vals1 r
  cases rx
  have fin:∀ (its:List Value),Vals ys its→ys.length≤sizeLine→∀ (h':Heap) (c':Nat),(∀ b o',s.heap.get? b=some o'→h'.get? b=some o')→
      h'.get? s.heap.objs.size=some { cls:=.type "list",dict:=none,data:=.seq its.toArray c',slots:=#[] }→EP X pins σ Q (.ref s.heap.objs.size) { s with heap:=h' }:=fun its r' hz h' c' kp e=>
    ⟨.ref s.heap.objs.size,_,I.laid (t':=s.toks) kp (Nat.le_refl _) (show ObjOk X.prog X.w _ h' _ (.lst ys) from ⟨hz,its,c',r',e⟩),rfl,q _ (I.hok.fresh (Nat.le_refl _))⟩
  rcases hq with hq|hq
  · obtain ⟨its,r',pl,hz⟩:=I.list hq
    have hlen:=r'.length
    obtain ⟨o,ho,hc,n,hd⟩:=pl.isList
    exact call_list_seq p (.inl rfl) ho hc hd (fun h' c' kp e=>fin its r' hz h' c' kp e) (by simp only [List.size_toArray] <;> omega)
  · obtain ⟨its,r',pl,hz⟩:=I.tuple hq
    have hlen:=r'.length
    obtain ⟨o,ho,hc,n,hd⟩:=pl
    exact call_list_seq p (.inr rfl) ho hc hd (fun h' c' kp e=>fin its r' hz h' c' kp e) (by simp only [List.size_toArray] <;> omega)
theorem call_tuple_of:CallR X (.type "tuple") (fun xs H Q=>∃ p ys,xs=[.ref p]∧((SqL X.K H p ys∧∀ l,H l=none→Q (.ref l) (upd H l (.tup ys)))∨(SqT X.K H p ys∧Q (.ref p) H))):=by
  intro pins s σ H xs us Q I r h
  obtain ⟨p,ys,rfl,h⟩:=h
  obtain ⟨u,rfl,rx⟩:=vals1 r
  cases rx
  rcases h with ⟨hq,q⟩|⟨hq,q⟩
  · obtain ⟨its,r',pl,hz⟩:=I.list hq
    have hlen:=r'.length
    refine call_tuple_list pl.isList (fun h' kp=>?_) (by simp only [List.size_toArray] <;> omega)
    have I1:Inv X pins σ H { s with heap:=h' }:=I.kept (t':=s.toks) kp
    have I2:Inv X pins σ (upd H h'.objs.size (.tup ys)) { s with heap:=h'.push { cls:=.type "tuple",data:=.seq its.toArray } }:=
      I1.laid (t':=s.toks) (fun b o e=>Heap.get?_push_of_some _ e) (Nat.le_refl _) (show ObjOk X.prog X.w _ _ _ (.tup ys) from ⟨hz,its,r',IsTup.new _ _⟩)
    exact ⟨.ref h'.objs.size,_,I2,rfl,q _ (I1.hok.fresh (Nat.le_refl _))⟩
  · obtain ⟨its,r',pl,hz⟩:=I.tuple hq
    exact call_tuple_same pl ⟨.ref p,H,I,rfl,q⟩
def tyV (K:PySem.W.Frag) (T:String) (x:V) (H:Hp):Prop:=match x with
  |.str _=>T = "str"
  |.int _=>T = "int"
  |.ref p=>(T = "list"∧∃ xs,SqL K H p xs)∨(T = "tuple"∧∃ o,K.lookup p=some o∧o.cls=.type "tuple"∧o.dict=none)∨
      (T = "dict"∧((∃ kvs,H p=some (.dK kvs))∨∃ kvs,H p=some (.dT kvs)))∨(T = "set"∧∃ S n,H p=some (.set S n))
  |_=>False
theorem tyV_is {pins:List (Addr×Obj)} {σ:St} {H:Hp} {s:Shared} {T:String} {x:V} {v:Value} (I:Inv X pins σ H s) (r:RelV x v) (ty:tyV X.K T x H) :
    s.TypeIs v T∧∀ a,v=.ref a→∃ ob,s.heap.get? a=some ob∧ob.dict=none:=by
  cases x with
  | str z=>
    obtain ⟨t,rfl⟩:=r
    cases (show T = "str" from ty)
    exact ⟨typeIs_str s z t,fun _ e=>nomatch e⟩
  | int i=>
    obtain ⟨t,rfl⟩:=r
    cases (show T = "int" from ty)
    exact ⟨typeIs_int s i t,fun _ e=>nomatch e⟩
  | ref p=>
    cases r
    rcases ty with ⟨rfl,xs,hq⟩|⟨rfl,o,hk,hc,hd⟩|⟨rfl,hk⟩|⟨rfl,S,n,hk⟩
    · obtain ⟨its,_,pl,_⟩:=I.list hq
      refine ⟨pl.isList.typeIs,fun a e=>?_⟩
      cases e
      obtain ⟨o,n,e,c,hd,_⟩:=pl
      exact ⟨o,e,hd⟩
    · refine ⟨⟨o,I.kIn p o hk,hc⟩,fun a e=>?_⟩
      cases e
      exact ⟨o,I.kIn _ o hk,hd⟩
    · have z:∃ o,s.heap.get? p=some o∧o.ExactDict:=by
        rcases hk with ⟨kvs,hk⟩|⟨kvs,hk⟩
        · obtain ⟨_,_,_,_,o,_,_,e,ex,_⟩:=I.hok p _ hk
          exact ⟨o,e,ex⟩
        · obtain ⟨_,_,_,_,o,_,_,e,ex,_⟩:=I.hok p _ hk
          exact ⟨o,e,ex⟩
      obtain ⟨o,e,ex⟩:=z
      refine ⟨⟨o,e,ex.1⟩,fun a e2=>?_⟩
      cases e2
      exact ⟨o,e,ex.2.1⟩
    · obtain ⟨o,_,_,_,e,ex,_⟩:=I.hok p _ hk
      refine ⟨⟨o,e,ex.1⟩,fun a e2=>?_⟩
      cases e2
      exact ⟨o,e,ex.2.1⟩
  |_=>exact False.elim ty
def tBM0 (K:PySem.W.Frag) (T:String) (r:V→List V→Hp→VK→Prop) (to:TE):TE:=fun σ H Q=>to σ H fun x H1=>tyV K T x H1∧r x [] H1 Q
def tBM (K:PySem.W.Frag) (T:String) (r:V→List V→Hp→VK→Prop) (to:TE) (t:TA):TE:=fun σ H Q=>to σ H fun x H1=>tyV K T x H1∧t σ H1 fun xs H2=>r x xs H2 Q
variable {o e:Expr} {es:List Expr} {to:TE} {t:TA} {name:Str} {apos cpos:Pos} {T id:String} {r:V→List V→Hp→VK→Prop}
theorem pe_bm0 (pa:PlainAttrs T) (slot:Slot T name id) (hty:typeOf (.builtin id)=pure (.type "method_descriptor")) (hm:MtR X id r) (ho:PE X o to)
    (hbase:attributeBase o name X.env (eval o X.env)=eval o X.env:=by rfl) (hline:(apos.endLine == cpos.line)=true:=by rfl):PE X (.Call (.Attribute o name apos) [] [] cpos) (tBM0 X.K T r to):=by
  intro pins s σ H Q I h
  refine wpAny_Call_method0_late hbase hline (thn (ho pins s σ H _ I h) fun v s1 ⟨x,H1,I1,r1,ty,q1⟩=>?_)
  obtain ⟨h1,h2⟩:=tyV_is I1 r1 ty
  exact ⟨T,id,pa,slot,hty,h1,h2,Calls.callWith_builtin rfl (PySem.evalArgs_none (hm pins s1 σ H1 x [] v [] Q I1 r1 .nil q1))⟩
theorem pe_bm (pa:PlainAttrs T) (slot:Slot T name id) (hty:typeOf (.builtin id)=pure (.type "method_descriptor")) (hm:MtR X id r) (ho:PE X o to) (ha:PA X (e::es) t)
    (hbase:attributeBase o name X.env (eval o X.env)=eval o X.env:=by rfl)
    (hfew:((backTo cpos (starEach (e::es) X.env)).all (fun x=>!x.1) && (backToKw cpos (keywordEach [] X.env)).all (fun x=>x.1.isSome)
      && decide ((e::es).length+([]:List Keyword).length+(if ([]:List Keyword).isEmpty then 0 else 1)<30))=true:=by rfl)
    (hline:(apos.endLine == cpos.line)=true:=by rfl) (hs:starEach (e::es) X.env=(false,eval e X.env)::starEach es X.env:=by rfl) (hplain:(backTo cpos (starEach es X.env)).any (·.1)=false:=by rfl) :
    PE X (.Call (.Attribute o name apos) (e::es) [] cpos) (tBM X.K T r to t):=by
  intro pins s σ H Q I h
  refine wpAny_Call_method_late hbase hfew hline rfl (thn (ho pins s σ H _ I h) fun v s1 ⟨x,H1,I1,r1,ty,q1⟩=>?_)
  obtain ⟨h1,h2⟩:=tyV_is I1 r1 ty
  refine ⟨T,id,pa,slot,hty,h1,h2,?_⟩
  have hA:=ha cpos pins s1 σ H1 _ I1 q1
  rw [hs] at hA ⊢
  refine Calls.callWith_builtin (by show (false || (backTo cpos (starEach es X.env)).any (·.1))=false;rw [hplain] <;> rfl) (Calls.evalArgs_plain ?_)
  exact thn hA fun us s2 ⟨vs,H2,I2,r2,q2⟩=>hm pins s2 σ H2 x vs v us Q I2 r1 r2 q2
end
end L2
namespace L2
open PySem PySem.Spec PyProof.Rows
def MtM (X:Cx) (id:String) (r:V→List V→Hp→VK→Prop):Prop:=
  ∀ (pins:List (Addr×Obj)) (s:Shared) (σ:St) (H:Hp) (x:V) (xs:List V) (v:Value) (us:List Value) (Q:VK),Inv X pins σ H s→RelV x v→Vals xs us→r x xs H Q→
    wpAny (model X.prog X.w) X.A (call (.builtin id) (v::us)) (EP X pins σ Q) X.xe s
theorem Vals.one:∀ {x:V} {us:List Value},Vals [x] us→∃ u,us=[u]∧RelV x u
  |_,_,.cons r .nil=>⟨_,rfl,r⟩
theorem Vals.eraseIdx:∀ {xs:List V} {us:List Value} (i:Nat),Vals xs us→Vals (xs.eraseIdx i) (us.eraseIdx i)
  |_,_,_,.nil=>.nil
  |_,_,0,.cons _ t=>t
  |_,_,i+1,.cons r t=>.cons r (Vals.eraseIdx i t)
theorem len_erase {α:Type}:∀ (l:List α) (i:Nat),(l.eraseIdx i).length≤l.length
  |[],_=>Nat.le_refl _
  |_::_,0=>Nat.le_succ _
  |_::r,i+1=>Nat.succ_le_succ (len_erase r i)
section
variable {X:Cx} {pins:List (Addr×Obj)} {σ:St} {H:Hp} {s:Shared} {l b:Addr} {xs ys zs:List V}
theorem Inv.lset {its its':List Value} {n:Nat} {f:Array Value→Array Value} {t':Nat} (I:Inv X pins σ H s) (hH:H l=some (.lst xs))
    (e:s.heap.get? l=some { cls:=.type "list",data:=.seq its.toArray n }) (hf:f its.toArray=its'.toArray) (hv:Vals ys its') (hz:ys.length≤sizeLine) :
    Inv X pins σ (upd H l (.lst ys)) { s with heap:=s.heap.update l (Obj.mapSeq f),toks:=t' }:=by
  have q:=PySem.IsL.update e f
  rw [hf] at q
  refine I.write (x:=l) (e:=l) (by rw [hH];exact trivial) (.inl rfl) (fun b' u hb hu=>(Heap.get?_update_other s.heap (Obj.mapSeq f) (Ne.symm hb)).trans hu) ⟨_,q⟩ ?_
  exact ⟨hz,its',_,hv,q⟩
theorem Inv.lnew {its:List Value} {t':Nat} (I:Inv X pins σ H s) (hv:Vals ys its) (hz:ys.length≤sizeLine) :
    Inv X pins σ (upd H s.heap.objs.size (.lst ys)) { s with heap:=s.heap.push { cls:=.type "list",data:=.seq its.toArray },toks:=t' }:=
  I.laid (fun _ _ q=>Heap.get?_push_of_some _ q) (Nat.le_refl _) ⟨hz,its,0,hv,Heap.get?_push_size _ rfl⟩
theorem Inv.fresh (I:Inv X pins σ H s):H s.heap.objs.size=none:=I.hok.fresh (Nat.le_refl _)
theorem Inv.lstM (I:Inv X pins σ H s) (hH:H l=some (.lst xs)):xs.length≤sizeLine∧∃ (its:List Value) (n:Nat),Vals xs its∧xs.length=its.length∧s.heap.get? l=some { cls:=.type "list",data:=.seq its.toArray n }:=by
  obtain ⟨z,its,n,r,e⟩:=I.hok l _ hH
  exact ⟨z,its,n,r,r.length,e⟩
theorem notLongL {n:Nat} (h:n≤sizeLine):Builtin.List.listTooLong n=false:=by
  unfold Builtin.List.listTooLong
  exact decide_eq_false (by omega)
end
section
variable {X:Cx}
def rAppend:V→List V→Hp→VK→Prop:=fun x vs H Q=>∃ l xs y,x=.ref l∧vs=[y]∧H l=some (.lst xs)∧xs.length<sizeLine∧Q .non (upd H l (.lst (xs++[y])))
theorem mt_append:MtM X "list.append" rAppend:=by
  intro pins s σ H x vs v us Q I rx rv h
  obtain ⟨l,xs,y,rfl,rfl,hH,hz,q⟩:=h
  cases rx
  obtain ⟨u,rfl,ru⟩:=rv.one
  obtain ⟨z,its,n,r,hl,e⟩:=I.lstM hH
  refine call_meets F.slot_list_append ⟨_,e,rfl⟩ F.entry_list_append (F.args_list_append_2 _ _) (PySem.list_append l its.toArray n u (by rw [List.size_toArray];omega)) ⟨e,?_⟩
  refine ⟨.non,_,I.lset (its':=its++[u]) hH e (by simp) (r.append (.cons ru .nil)) ?_,rfl,q⟩
  rw [List.length_append,List.length_singleton]
  omega
def rExtend:V→List V→Hp→VK→Prop:=fun x vs H Q=>∃ l b xs zs,x=.ref l∧vs=[.ref b]∧H l=some (.lst xs)∧H b=some (.lst zs)∧xs.length+zs.length≤sizeLine∧Q .non (upd H l (.lst (xs++zs)))
theorem mt_extend:MtM X "list.extend" rExtend:=by
  intro pins s σ H x vs v us Q I rx rv h
  obtain ⟨l,b,xs,zs,rfl,rfl,hH,hB,hz,q⟩:=h
  cases rx
  obtain ⟨u,rfl,ru⟩:=rv.one
  cases ru
  obtain ⟨z,its,n,r,hl,e⟩:=I.lstM hH
  obtain ⟨z2,its2,n2,r2,hl2,e2⟩:=I.lstM hB
  have hsz:its.toArray.size+its2.toArray.size≤sizeLine:=by rw [List.size_toArray,List.size_toArray];omega
  have hlong:¬ (!its.toArray.isEmpty && Builtin.List.listTooLong (its.toArray.size+its2.toArray.size))=true:=by
    rw [notLongL hsz,Bool.and_false]
    exact Bool.false_ne_true
  refine call_meets F.slot_list_extend ⟨_,e,rfl⟩ F.entry_list_extend (F.args_list_extend_2 _ _)
    (AutoSeq1.list_extend_list_list_0 l its.toArray n b its2.toArray n2 hlong (by rw [List.size_toArray];omega) (by omega)) ⟨e,e2,?_⟩
  refine ⟨.non,_,I.lset (its':=its++its2) hH e (by simp) (r.append r2) ?_,rfl,q⟩
  rw [List.length_append]
  omega
def rPopAt:V→List V→Hp→VK→Prop:=fun x vs H Q=>∃ l xs i k y,x=.ref l∧vs=[.int i]∧H l=some (.lst xs)∧-(2 ^ 63)≤i∧i<2 ^ 63∧seqIndex? i xs.length=some k∧xs[k]?=some y∧Q y (upd H l (.lst (xs.eraseIdx k)))
theorem mt_popAt:MtM X "list.pop" rPopAt:=by
  intro pins s σ H x vs v us Q I rx rv h
  obtain ⟨l,xs,i,k,y,rfl,rfl,hH,h1,h2,hk,hy,q⟩:=h
  cases rx
  obtain ⟨u,rfl,ru⟩:=rv.one
  obtain ⟨t,rfl⟩:=ru
  obtain ⟨z,its,n,r,hl,e⟩:=I.lstM hH
  obtain ⟨w,hw,rw'⟩:=r.get hy
  refine call_meets F.slot_list_pop ⟨_,e,rfl⟩ F.entry_list_pop (F.args_list_pop_2 _ _)
    (MeetsSeq.list_pop_at l its.toArray n i t k w (fitsIndex_both h1 h2) (by rw [List.size_toArray,← hl];exact hk) (by rw [← Array.getElem?_toList];exact hw) (by rw [List.size_toArray];omega)) ⟨e,?_⟩
  refine ⟨y,_,I.lset (its':=its.eraseIdx k) hH e ?_ (r.eraseIdx k) ?_,rw',q⟩
  · show its.toArray.eraseIdxIfInBounds k=(its.eraseIdx k).toArray
    rw [List.eraseIdxIfInBounds_toArray]
  · have:=len_erase xs k
    omega
def rCat:R2:=fun x y H Q=>∃ l b xs zs,x=.ref l∧y=.ref b∧H l=some (.lst xs)∧H b=some (.lst zs)∧xs.length+zs.length≤sizeLine∧∀ p,H p=none→Q (.ref p) (upd H p (.lst (xs++zs)))
theorem op_cat:OpR X (binaryOp .Add) rCat:=by
  intro pins s σ H x y v u Q I rx ry h
  obtain ⟨l,b,xs,zs,rfl,rfl,hH,hB,hz,q⟩:=h
  cases rx
  cases ry
  obtain ⟨z,its,n,r,hl,e⟩:=I.lstM hH
  obtain ⟨z2,its2,n2,r2,hl2,e2⟩:=I.lstM hB
  refine PySem.P.add_list e e2 ?_ (by rw [List.size_toArray,List.size_toArray];omega)
  have ea:its.toArray++its2.toArray=(its++its2).toArray:=by simp
  rw [ea]
  exact ⟨.ref _,_,I.lnew (t':=s.toks) (r.append r2) (by rw [List.length_append];omega),rfl,q _ I.fresh⟩
end
section
variable {prog:Program} {w:World} {A:Around} {E:Value→Shared→Prop} {s:Shared}
end
section
variable {X:Cx}
end
end L2
namespace L2
open PySem PySem.Spec PyProof.Rows
section
variable {κ:Type} [DecidableEq κ]
def valV (kvs:List (κ×V)) (k:κ):Option V:=(kvs.find? fun kv=>decide (kv.1=k)).map (·.2)
def putK (kvs:List (κ×V)) (k:κ) (v:V):List (κ×V):=
  if (kvs.any fun kv=>decide (kv.1=k))=true then kvs.map (fun kv=>if kv.1=k then (kv.1,v) else kv) else kvs++[(k,v)]
theorem valV_pos {p:κ×V} {r:List (κ×V)} {k:κ} (e:p.1=k):valV (p::r) k=some p.2:=by simp [valV,List.find?_cons,e]
theorem valV_neg {p:κ×V} {r:List (κ×V)} {k:κ} (e:¬ p.1=k):valV (p::r) k=valV r k:=by simp [valV,List.find?_cons,e]
theorem valV_any (k:κ):∀ kvs:List (κ×V),(kvs.any fun kv=>decide (kv.1=k))=(valV kvs k).isSome
  |[]=>rfl
  | p::r=>by
    rw [List.any_cons]
    by_cases e:p.1=k
    · simp only [valV_pos e,decide_eq_true e,Bool.true_or,Option.isSome_some]
    · rw [valV_neg e,decide_eq_false e,Bool.false_or];exact valV_any k r
theorem length_putK (kvs:List (κ×V)) (k:κ) (v:V):(putK kvs k v).length≤kvs.length+1:=by
  unfold putK
  split
  · rw [List.length_map];omega
  · rw [List.length_append,List.length_cons,List.length_nil];omega
theorem RelO.isSome_eq {o:Option V} {u:Option Value} (r:RelO o u):o.isSome=u.isSome:=by
  cases o with
  | none=>cases u with
    |none=>rfl
    |some _=>exact (show False from r).elim
  | some _=>cases u with
    |none=>exact (show False from r).elim
    |some _=>rfl
theorem KV.val {kvs:List (κ×V)} {vs:List (κ×Value)} (r:KV kvs vs) (k:κ):RelO (valV kvs k) (valueAt vs k):=by
  unfold KV at r
  induction r with
  |nil=>exact True.intro
  | @cons p q ps qs h t ih=>
    obtain ⟨h1,h2⟩:=h
    by_cases e:p.1=k
    · have e':q.1=k:=h1.symm.trans e
      have b:valueAt (q::qs) k=some q.2:=by simp [valueAt,List.find?_cons,e']
      rw [valV_pos e,b];exact h2
    · have e':¬ q.1=k:=fun z=>e (h1.trans z)
      have b:valueAt (q::qs) k=valueAt qs k:=by simp [valueAt,List.find?_cons,e']
      rw [valV_neg e,b];exact ih
theorem KV.any {kvs:List (κ×V)} {vs:List (κ×Value)} (r:KV kvs vs) (k:κ):(kvs.any fun kv=>decide (kv.1=k))=vs.any fun kv=>decide (kv.1=k):=by
  unfold KV at r
  induction r with
  |nil=>rfl
  |cons h t ih=>rw [List.any_cons,List.any_cons,ih,h.1]
theorem KV.repl {kvs:List (κ×V)} {vs:List (κ×Value)} (r:KV kvs vs) (k:κ) {y:V} {u:Value} (ry:RelV y u) :
    KV (kvs.map fun kv=>if kv.1=k then (kv.1,y) else kv) (vs.map fun kv=>if kv.1=k then (kv.1,u) else kv):=by
  unfold KV at r ⊢
  induction r with
  |nil=>exact .nil
  | @cons p q ps qs h t ih=>
    rw [List.map_cons,List.map_cons]
    refine .cons ?_ ih
    obtain ⟨h1,h2⟩:=h
    by_cases e:p.1=k
    · rw [if_pos e,if_pos (h1.symm.trans e)];exact ⟨h1,ry⟩
    · rw [if_neg e,if_neg (fun z=>e (h1.trans z))];exact ⟨h1,h2⟩
theorem KV.put {kvs:List (κ×V)} {vs:List (κ×Value)} (r:KV kvs vs) (k:κ) {y:V} {u:Value} (ry:RelV y u):KV (putK kvs k y) (stored vs k u):=by
  unfold putK stored
  rw [r.any k]
  by_cases e:(vs.any fun kv=>decide (kv.1=k))=true
  · rw [if_pos e,if_pos e];exact r.repl k ry
  · rw [if_neg e,if_neg e];exact Paired.snoc r ⟨rfl,ry⟩
theorem KV.length {kvs:List (κ×V)} {vs:List (κ×Value)} (r:KV kvs vs):kvs.length=vs.length:=Paired.length r
end
theorem kV_is {P:Program} {w:World} {k:Key} {u:Value} (r:RelV (kV k) u):(mixKind P w).is k u=true:=by
  cases k with
  |inl i=>obtain ⟨t,e⟩:=(show ∃ t,u=Value.int i t from r);subst e;exact mixKind_int P w i t
  |inr x=>obtain ⟨t,e⟩:=(show ∃ t,u=Value.str x t from r);subst e;exact mixKind_str P w x t
theorem items_are {P:Program} {w:World}:∀ {ks:List Key} {us:List Value},Vals (ks.map kV) us→ItemsAre (mixKind P w) ks us
  |[],_,r=>by rw [List.map_nil] at r;cases r;exact .nil
  | k::ks,_,r=>by
    rw [List.map_cons] at r
    cases r with
    |cons h t=>exact .cons (kV_is h) (items_are t)
abbrev KT (H:Hp):List (List Key×V)→List (List Key×Addr×Value)→Prop:=Paired fun p q=>p.1=q.1∧H q.2.1=some (.tup (p.1.map kV))∧RelV p.2 q.2.2
theorem KT.val {H:Hp} {kvs:List (List Key×V)} {xs:List (List Key×Addr×Value)} (r:KT H kvs xs) (k:List Key):RelO (valV kvs k) ((atKey xs k).map (·.2)):=by
  induction r with
  |nil=>exact True.intro
  | @cons p q ps qs h t ih=>
    obtain ⟨h1,_,h2⟩:=h
    by_cases e:p.1=k
    · have e':q.1=k:=h1.symm.trans e
      have b:atKey (q::qs) k=some q.2:=by simp [atKey,List.find?_cons,e']
      rw [valV_pos e,b];exact h2
    · have e':¬ q.1=k:=fun z=>e (h1.trans z)
      have b:atKey (q::qs) k=atKey qs k:=by simp [atKey,List.find?_cons,e']
      rw [valV_neg e,b];exact ih
theorem KT.repl {H:Hp} {kvs:List (List Key×V)} {xs:List (List Key×Addr×Value)} (r:KT H kvs xs) (k:List Key) {y:V} {u:Value} (ry:RelV y u) :
    KT H (kvs.map fun kv=>if kv.1=k then (kv.1,y) else kv) (xs.map (putAt k u)):=by
  induction r with
  |nil=>exact .nil
  | @cons p q ps qs h t ih=>
    rw [List.map_cons,List.map_cons]
    refine .cons ?_ ih
    obtain ⟨h1,h2,h3⟩:=h
    unfold putAt
    by_cases e:p.1=k
    · rw [if_pos e,if_pos (h1.symm.trans e)];exact ⟨h1,h2,ry⟩
    · rw [if_neg e,if_neg (fun z=>e (h1.trans z))];exact ⟨h1,h2,h3⟩
theorem KT.put {H:Hp} {kvs:List (List Key×V)} {xs:List (List Key×Addr×Value)} (r:KT H kvs xs) (k:List Key) {b:Addr} {y:V} {u:Value} (hb:H b=some (.tup (k.map kV))) (ry:RelV y u) :
    KT H (putK kvs k y) (storedH xs k b u):=by
  have e:(kvs.any fun kv=>decide (kv.1=k))=(atKey xs k).isSome:=by
    rw [valV_any,(r.val k).isSome_eq,Option.isSome_map]
  unfold putK storedH
  rw [e]
  by_cases q:(atKey xs k).isSome=true
  · rw [if_pos q,if_pos q];exact r.repl k ry
  · rw [if_neg q,if_neg q];exact Paired.snoc r ⟨rfl,hb,ry⟩
theorem KT.keeps {H H':Hp} {kvs:List (List Key×V)} {xs:List (List Key×Addr×Value)} (r:KT H kvs xs) (ht:∀ b ys,H b=some (.tup ys)→H' b=some (.tup ys)):KT H' kvs xs:=
  Paired.mapP r fun _ _ z=>⟨z.1,ht _ _ z.2.1,z.2.2⟩
section
variable {P:Program} {w:World} {H:Hp} {h:Heap} {a:Addr}
theorem rd_of {u:HO} (ok:HOk P w H h) (e:Rd H a u):ObjOk P w H h a u:=e.ok ok
theorem dk_rd {kvs:List (Key×V)} (ok:HOk P w H h) (e:Rd H a (.dK kvs)):kvs.length≤sizeLine∧(a == sysModules)=false∧∃ vs,KV kvs vs∧h.DictOf (mixKind P w) a vs:=
  show ObjOk P w H h a (.dK kvs) from rd_of ok e
theorem dk_of {kvs:List (Key×V)} (ok:HOk P w H h) (e:H a=some (.dK kvs)):kvs.length≤sizeLine∧(a == sysModules)=false∧∃ vs,KV kvs vs∧h.DictOf (mixKind P w) a vs:=dk_rd ok (.inl e)
theorem key_of {ks:List Key} (ok:HOk P w H h) (e:H a=some (.tup (ks.map kV))):(tupleKind (mixKind P w)).is h ks a:=by
  obtain ⟨_,its,r,o,h1,h2,n,h3⟩:=(show ObjOk P w H h a (.tup (ks.map kV)) from ok a _ e)
  exact ⟨o,its.toArray,n,h1,h2,h3,by simpa using items_are r⟩
theorem dt_rd {kvs:List (List Key×V)} (ok:HOk P w H h) (e:Rd H a (.dT kvs)):kvs.length≤sizeLine∧(a == sysModules)=false∧
    ∃ xs,KT H kvs xs∧h.DictOfH (tupleKind (mixKind P w)) a xs:=by
  obtain ⟨z,y,xs,r,o,es,ep,h1,h2,h3,h4,h5⟩:=(show ObjOk P w H h a (.dT kvs) from rd_of ok e)
  refine ⟨z,y,xs,r,o,es,ep,h1,h2,h3,h4,fun x hx=>?_,h5⟩
  have all:∀ {l:List (List Key×V)} {m:List (List Key×Addr×Value)},KT H l m→∀ x∈m,(tupleKind (mixKind P w)).is h x.1 x.2.1:=by
    intro l m q
    induction q with
    |nil=>intro x hx;exact nomatch hx
    | @cons p q ps qs hq t ih=>
      intro x hx
      rcases List.mem_cons.mp hx with e|hx
      · subst e
        exact key_of ok (by rw [← hq.1];exact hq.2.1)
      · exact ih x hx
  exact all r x hx
theorem dt_of {kvs:List (List Key×V)} (ok:HOk P w H h) (e:H a=some (.dT kvs)):kvs.length≤sizeLine∧(a == sysModules)=false∧
    ∃ xs,KT H kvs xs∧h.DictOfH (tupleKind (mixKind P w)) a xs:=dt_rd ok (.inl e)
end
def DGet (H:Hp) (a:Addr) (y:V) (r:Option V):Prop:=
  (∃ kvs k,Rd H a (.dK kvs)∧y=kV k∧r=valV kvs k)∨∃ kvs k b,Rd H a (.dT kvs)∧y=.ref b∧H b=some (.tup (k.map kV))∧r=valV kvs k
def DPut (H:Hp) (a:Addr) (y v:V) (H':Hp):Prop:=
  (∃ kvs k,H a=some (.dK kvs)∧y=kV k∧kvs.length<sizeLine∧H'=upd H a (.dK (putK kvs k v)))∨
  ∃ kvs k b,H a=some (.dT kvs)∧y=.ref b∧H b=some (.tup (k.map kV))∧kvs.length<sizeLine∧H'=upd H a (.dT (putK kvs k v))
theorem DGet.k {H:Hp} {a:Addr} {kvs:List (Key×V)} {k:Key} (e:H a=some (.dK kvs)):DGet H a (kV k) (valV kvs k):=.inl ⟨kvs,k,.inl e,rfl,rfl⟩
theorem DPut.k {H:Hp} {a:Addr} {kvs:List (Key×V)} {k:Key} {v:V} (e:H a=some (.dK kvs)) (hl:kvs.length<sizeLine):DPut H a (kV k) v (upd H a (.dK (putK kvs k v))):=.inl ⟨kvs,k,e,rfl,hl,rfl⟩
section
variable {X:Cx} {pins:List (Addr×Obj)} {σ:St} {H:Hp} {s:Shared} {a:Addr} {y v:V} {u r:Value} {o:Option V} {A:Around} {E:Value→Shared→Prop}
theorem Inv.big (I:Inv X pins σ H s):sysModules<s.heap.objs.size:=by
  have h:mainGlobals<s.heap.objs.size:=(I.mod.glob.keeps I.bk).lt
  exact Nat.lt_trans (by decide) h
theorem d_getItem {Q:Value→Shared→Prop} (hu:A.units+1<cLine) (I:Inv X pins σ H s) (g:DGet H a y (some v)) (ry:RelV y u) (h:∀ w' s',Inv X pins σ H s'→RelV v w'→Q w' s') :
    wpAny (model X.prog X.w) A (getItem (.ref a) u) Q E s:=by
  rcases g with ⟨kvs,k,e,ey,l⟩|⟨kvs,k,b,e,ey,eb,l⟩
  · subst ey
    obtain ⟨z,hd,vs,rel,dd⟩:=dk_rd I.hok e
    obtain ⟨w',hw,rw'⟩:=RelO.some_of (v:=v) (o:=valueAt vs k) (by rw [l];exact rel.val k)
    exact wpAny_getItem_of (kV_is ry) dd.mapOf hw (h w' _ (I.tok _) rw')
  · subst ey
    cases (show u=Value.ref b from ry)
    obtain ⟨z,hd,xs,rel,dd⟩:=dt_rd I.hok e
    obtain ⟨w',hw,rw'⟩:=RelO.some_of (v:=v) (o:=(atKey xs k).map (·.2)) (by rw [l];exact rel.val k)
    obtain ⟨p,hp,hp2⟩:=Option.map_eq_some_iff.mp hw
    refine wpAny_getItem_heap (tupleKind_room_in1 hu) (key_of I.hok eb) dd hp ?_
    rw [hp2]
    exact h w' _ (I.tok _) rw'
theorem d_write {h':Heap} {t':Nat} {ob:HO} (I:Inv X pins σ H s) (mu:Mut (H a)) (hs:Heap.SameBut a s.heap h') (he:∃ q,h'.get? a=some q) (new:ObjOk X.prog X.w (upd H a ob) h' a ob) :
    Inv X pins σ (upd H a ob) { s with heap:=h',toks:=t' }:=
  I.write (x:=a) (e:=a) mu (.inl rfl) (fun b q hb z=>(hs.2 b hb).trans z) he new
theorem dk_new {P:Program} {w:World} {H':Hp} {h':Heap} {kvs:List (Key×V)} {vs:List (Key×Value)} (z:kvs.length≤sizeLine) (hd:(a == sysModules)=false) (rel:KV kvs vs) (dd:h'.DictOf (mixKind P w) a vs) :
    ObjOk P w H' h' a (.dK kvs):=⟨z,hd,vs,rel,dd⟩
theorem d_setItem {H':Hp} {Q:Unit→Shared→Prop} (hu:A.units+1<cLine) (I:Inv X pins σ H s) (g:DPut H a y v H') (ry:RelV y u) (rv:RelV v r) (h:∀ s',Inv X pins σ H' s'→Q () s') :
    wpAny (model X.prog X.w) A (setItem (.ref a) u r) Q E s:=by
  rcases g with ⟨kvs,k,e,ey,l,eH⟩|⟨kvs,k,b,e,ey,eb,l,eH⟩
  · subst ey eH
    obtain ⟨z,hd,vs,rel,dd⟩:=dk_of I.hok e
    have hz:vs.length≤sizeLine:=by rw [← rel.length];exact z
    have hl:(putK kvs k v).length≤sizeLine:=by have:=length_putK kvs k v;omega
    refine wpAny_setItem_pairs (hsz:=hz) (kV_is ry) dd fun h' dd' hs=>h _ ?_
    have he:∃ q,h'.get? a=some q:=let ⟨q,_,_,hq,_⟩:=dd';⟨q,hq⟩
    exact d_write I (by rw [e];exact True.intro) hs he (dk_new hl hd (rel.put k rv) dd')
  · subst ey eH
    cases (show u=Value.ref b from ry)
    obtain ⟨z,hd,xs,rel,dd⟩:=dt_of I.hok e
    have hz:xs.length≤sizeLine:=by rw [← Paired.length rel];exact z
    have hl:(putK kvs k v).length≤sizeLine:=by have:=length_putK kvs k v;omega
    refine wpAny_setItem_heap (hsz:=hz) (tupleKind_room_in1 hu) (key_of I.hok eb) dd fun h' dd' hs=>h _ ?_
    obtain ⟨q,es,ep,hq,h2,h3,h4,_,h5⟩:=dd'
    refine d_write I (by rw [e];exact True.intro) hs ⟨q,hq⟩ ⟨hl,hd,_,(rel.put k eb rv).keeps fun c ys ec=>?_,q,es,ep,hq,h2,h3,h4,h5⟩
    rw [upd_ne (ne_of ec e (fun z=>nomatch z))]
    exact ec
end
section
variable {X:Cx} {pins:List (Addr×Obj)} {σ:St} {H:Hp} {s:Shared} {a:Addr} {kvs:List (Key×V)} {k:Key} {u:Value} {A:Around} {E:Value→Shared→Prop}
end
def NoSl (i:Expr):Prop:=∀ ov iv,subscripted i false ov iv=operate [ov,iv] (getItem ov iv)
theorem subD_of {prog:Program} {w:World} {A:Around} {E:Value→Shared→Prop} {s:Shared} {env:Env} {value slice:Expr} {pos:Pos} {T id:String} {Q:Value→Shared→Prop}
    (hl:typeLookup (.type T) "__getitem__" = pure (some (.builtin id))) (hs:NoSl slice)
    (h:wpAny (model prog w) A (eval value env) (fun o s₁=>wpAny (model prog w) A (eval slice env) (fun i s₂=>s₂.TypeIs o T∧wpAny (model prog w) A (getItem o i) Q E s₂) E s₁) E s) :
    wpAny (model prog w) A (eval (.Subscript value slice pos) env) Q E s:=by
  refine Subscript_ (wpAny_mono h (fun o s₁ h₁=>wpAny_mono h₁ (fun i s₂ h₂=>?_) fun _ _ x=>x) fun _ _ x=>x)
  obtain ⟨hT,h₂⟩:=h₂
  unfold subscriptTail
  refine wpAny_bind ?_
  rw [getitemInPython_of_ne hT.not_modules]
  refine wpAny_bind (wpAny_specialOf hT hl ?_)
  have fin:wpAny (model prog w) A (subscripted slice false o i) (fun r s₃=>wpAny (model prog w) A (letTemporaryGo value o r >>= fun _=>pure r) Q E s₃) E s₂:=by
    rw [hs o i]
    exact wpAny_operating (wpAny_mono h₂ (fun r s₃ h₃=>wpAny_bind (wpAny_letTemporaryGo (wpAny_pure h₃))) fun _ _ x=>x)
  first
    |exact wpAny_pure (wpAny_bind fin)
    |exact wpAny_bind (wpAny_pure (wpAny_bind fin))
    |exact wpAny_bind fin
theorem dict_typeIs {X:Cx} {pins:List (Addr×Obj)} {σ:St} {H:Hp} {s:Shared} {a:Addr} {y:V} {o:Option V} (I:Inv X pins σ H s) (g:DGet H a y o):s.TypeIs (.ref a) "dict":=by
  rcases g with ⟨kvs,k,e,_,_⟩|⟨kvs,k,b,e,_,_,_⟩
  · obtain ⟨_,_,vs,_,dd⟩:=dk_rd I.hok e
    exact dd.typeIs
  · obtain ⟨_,_,xs,_,dd⟩:=dt_rd I.hok e
    exact dd.typeIs
def tDGet (td ty:TE):TE:=fun σ H Q=>td σ H fun x H1=>ty σ H1 fun y H2=>∃ a v,x=.ref a∧DGet H2 a y (some v)∧Q v H2
def sDPut (td ty tv:TE):TS:=fun D σ H=>tv σ H fun v H1=>td σ H1 fun x H2=>ty σ H2 fun y H3=>∃ a H4,x=.ref a∧DPut H3 a y v H4∧D.nx σ H4
section
variable {X:Cx} {o i e value:Expr} {pos pos' tpos:Pos} {td ty tv:TE}
theorem pe_dget (hu:X.A.units+1<cLine) (ho:PE X o td) (hi:PE X i ty) (hs:NoSl i):PE X (.Subscript o i pos) (tDGet td ty):=by
  intro pins s σ H Q I h
  refine subD_of PySem.F.slot_dict_getitem.lookup hs (thn (ho pins s σ H _ I h) fun u s1 ⟨x,H1,I1,rx,q1⟩=>thn (hi pins s1 σ H1 _ I1 q1) fun iv s2 ⟨y,H2,I2,ry,a,v,ex,g,q2⟩=>?_)
  subst ex
  obtain rfl:u=Value.ref a:=rx
  exact ⟨dict_typeIs I2 g,d_getItem hu I2 g ry fun w' s3 I3 rw'=>⟨v,H2,I3,rw',q2⟩⟩
theorem ps_dput (hu:X.A.units+1<cLine) (ho:PE X o td) (hi:PE X i ty) (hv:PE X value tv) (hs:swapsWith value (some (.Subscript o i pos')) pos.line X.env=pure false) :
    PS X (.Assign [.Subscript o i pos'] value pos) (sDPut td ty tv):=by
  intro pins s σ H D I h
  refine wpAny_Assign_Subscript (thn (hv pins s σ H _ I h) fun r s1 ⟨v,H1,I1,rv,q1⟩=>thn (ho pins s1 σ H1 _ I1 q1) fun u s2 ⟨x,H2,I2,rx,q2⟩=>thn (hi pins s2 σ H2 _ I2 q2) fun iv s3 ⟨y,H3,I3,ry,a,H4,ex,g,q3⟩=>?_) hs
  subst ex
  obtain rfl:u=Value.ref a:=rx
  exact d_setItem hu I3 g ry rv fun s4 I4=>⟨σ,H4,I4,q3⟩
end
theorem dk_empty {P:Program} {w:World} {H:Hp} (h:Heap) (hb:sysModules<h.objs.size):ObjOk P w H (h.push { cls:=.type "dict",data:=.dict #[] }) h.objs.size (.dK []):=
  ⟨Nat.zero_le _,beq_eq_false_iff_ne.mpr (Ne.symm (Nat.ne_of_lt hb)),[],.nil,Heap.DictOf.new h⟩
section
variable {X:Cx} {pos:Pos}
end
def tPairs:List (TE×TE)→St→Hp→(List (V×V)→Hp→Prop)→Prop
  |[],_,H,Q=>Q [] H
  |(tk,tv)::r,σ,H,Q=>tk σ H fun x H1=>tv σ H1 fun y H2=>tPairs r σ H2 fun ps H3=>Q ((x,y)::ps) H3
abbrev VV:List (V×V)→List (Value×Value)→Prop:=Paired fun p q=>RelV p.1 q.1∧RelV p.2 q.2
def PPs (X:Cx) (pos:Pos) (keys:List (Option Expr)) (values:List Expr) (trs:List (TE×TE)):Prop:=
  ∀ (pins:List (Addr×Obj)) (s:Shared) (σ:St) (H:Hp) (Q:List (V×V)→Hp→Prop),Inv X pins σ H s→tPairs trs σ H Q→
    wpAny (model X.prog X.w) X.A (evalPairs (pairTrees keys values X.env pos)) (fun vs s'=>∃ ps H',Inv X pins σ H' s'∧VV ps vs∧Q ps H') X.xe s
theorem pps_nil {X:Cx} {pos:Pos}:PPs X pos [] [] []:=fun pins s σ H Q I h=>pairTrees_nil_walk ⟨[],H,I,.nil,h⟩
theorem pps_cons {X:Cx} {pos:Pos} {k v:Expr} {ks:List (Option Expr)} {vs:List Expr} {tk tv:TE} {trs:List (TE×TE)} (hk:PE X k tk) (hv:PE X v tv) (hr:PPs X pos ks vs trs) :
    PPs X pos (some k::ks) (v::vs) ((tk,tv)::trs):=fun pins s σ H Q I h=>
  pairTrees_cons_walk (thn (hk pins s σ H _ I h) fun u s1 ⟨x,H1,I1,rx,q1⟩=>thn (hv pins s1 σ H1 _ I1 q1) fun w2 s2 ⟨y,H2,I2,ry,q2⟩=>
    thn (hr pins s2 σ H2 _ I2 q2) fun ws s3 ⟨ps,H3,I3,rel,q3⟩=>⟨(x,y)::ps,H3,I3,.cons ⟨rx,ry⟩ rel,q3⟩)
def mergeK (kvs more:List (Key×V)):List (Key×V):=more.foldl (fun acc kv=>putK acc kv.1 kv.2) kvs
theorem KV.merge:∀ {more:List (Key×V)} {rs:List (Key×Value)} {kvs:List (Key×V)} {vs:List (Key×Value)},KV more rs→KV kvs vs→KV (mergeK kvs more) (merged vs rs):=by
  intro more rs kvs vs r
  unfold KV at r
  induction r generalizing kvs vs with
  |nil=>intro q;exact q
  | @cons p q ps qs h t ih=>
    intro r0
    have e:KV (putK kvs p.1 p.2) (stored vs q.1 q.2):=by
      have:=r0.put p.1 h.2
      rw [← h.1];exact this
    exact ih e
theorem length_mergeK:∀ (more kvs:List (Key×V)),(mergeK kvs more).length≤kvs.length+more.length
  |[],kvs=>by show kvs.length≤kvs.length+0;omega
  | p::r,kvs=>by
    have h1:=length_mergeK r (putK kvs p.1 p.2)
    have h2:=length_putK kvs p.1 p.2
    show (mergeK (putK kvs p.1 p.2) r).length≤_
    rw [List.length_cons];omega
theorem carries_of {P:Program} {w:World}:∀ {kvs:List (Key×V)} {ws:List (Value×Value)},VV (kvs.map fun kv=>(kV kv.1,kv.2)) ws→∃ rs,Carries (mixKind P w) ws rs∧KV kvs rs
  |[],_,r=>by rw [List.map_nil] at r;cases r;exact ⟨[],True.intro,.nil⟩
  | p::kvs,_,r=>by
    rw [List.map_cons] at r
    cases r with
    | @cons a b as bs h t=>
      obtain ⟨rs,c,q⟩:=carries_of (P:=P) (w:=w) t
      obtain ⟨b1,b2⟩:=b
      exact ⟨(p.1,b2)::rs,⟨kV_is h.1,rfl,c⟩,.cons ⟨rfl,h.2⟩ q⟩
def tDisp (trs:List (TE×TE)):TE:=fun σ H Q=>∀ p,H p=none→tPairs trs σ (upd H p (.dK [])) fun ps H2=>H2 p=some (.dK [])∧∃ kvs:List (Key×V),ps=kvs.map (fun kv=>(kV kv.1,kv.2))∧kvs.length≤15∧Q (.ref p) (upd H2 p (.dK (mergeK [] kvs)))
theorem pe_disp {X:Cx} {pos:Pos} {keys:List (Option Expr)} {values:List Expr} {trs:List (TE×TE)} (h:PPs X pos keys values trs) (hall:keys.all (·.isSome)=true) (hl:keys.length=values.length) (h0:keys≠[])
    (h15:keys.length≤15):PE X (.Dict keys values pos) (tDisp trs):=by
  intro pins s σ H Q I q
  have hn:=I.hok.fresh (Nat.le_refl s.heap.objs.size)
  have I1:=I.laid (a:=s.heap.objs.size) (o:=.dK []) (h':=s.heap.push { cls:=.type "dict",data:=.dict #[] }) (t':=s.toks) (fun _ _ q=>Heap.get?_push_of_some _ q) (Nat.le_refl _) (dk_empty s.heap I.big)
  refine wpAny_Dict_walk (knd:=mixKind X.prog X.w) hall hl h0 h15 (thn (h pins _ σ _ _ I1 (q _ hn)) fun ws s2 ⟨ps,H2,I2,rel,e,kvs,ep,lk,q2⟩=>?_)
  subst ep
  obtain ⟨rs,c,rk⟩:=carries_of (P:=X.prog) (w:=X.w) rel
  obtain ⟨z,hd,vs0,r0,dd⟩:=dk_of I2.hok e
  cases r0
  refine ⟨rs,c,dd,fun h' dd' hs=>⟨.ref s.heap.objs.size,_,?_,rfl,q2⟩⟩
  have hz:(mergeK [] kvs).length≤sizeLine:=by
    have h1:=length_mergeK kvs []
    rw [List.length_nil] at h1
    rw [sizeLine_eq];omega
  have he:∃ q,h'.get? s.heap.objs.size=some q:=let ⟨q,_,_,hq,_⟩:=dd';⟨q,hq⟩
  exact d_write I2 (by rw [e];exact True.intro) hs he (dk_new hz hd (rk.merge .nil) dd')
section
variable {X:Cx} {pins:List (Addr×Obj)} {σ:St} {H:Hp} {s:Shared} {a:Addr} {y d:V} {u r:Value} {o:Option V} {A:Around} {E:Value→Shared→Prop}
end
section
variable {X:Cx} {o e f:Expr} {apos cpos:Pos} {td ty tx:TE}
end
section
variable {X:Cx} {pins:List (Addr×Obj)} {σ:St} {H:Hp} {s:Shared} {a:Addr} {kvs:List (Key×V)} {A:Around} {E:Value→Shared→Prop}
end
section
variable {X:Cx} {pins:List (Addr×Obj)} {σ:St} {H:Hp} {s:Shared} {a:Addr} {y:V} {u:Value} {A:Around} {E:Value→Shared→Prop}
end
end L2
namespace Att
open PySem PySem.W PySem.Calls PyProof.Rows
theorem ints_of_wellAll {P:Params} {h:Heap}:∀ (ns:List Int) (vs:List Value),WellAll P h vs (ns.map WData.int)→IntsAre vs ns:=by
  intro ns
  induction ns with
  | nil=>
    intro vs w
    rw [List.map_nil] at w
    cases w
    exact .nil
  | cons n ns ih=>
    intro vs w
    rw [List.map_cons] at w
    cases w with
    | cons a b=>
      cases a
      exact .cons _ _ (ih _ b)
theorem script_of {l:OpenLaw} {n:Nat} (hn:l.most=some n) {P:Params} {h:Heap} {args:List WData} {vals:List Value}
    (hpre:l.row.toRowW.claim.pre args=true) (hwl:WellAll P h vals args) :
    ∃ a vs ns,vals=[Value.ref a]∧args=[WData.list (ns.map WData.int)]∧h.get? a=some { cls:=.type "list",data:=.seq vs.toArray }∧IntsAre vs ns∧ns.length≤n:=by
  have hsh:WShape.hasAll [] args [.list .int]=true:=(pre_splitW hpre).1
  have hc:l.pre.holds [] { args:=args }=true:=(pre_splitW hpre).2
  obtain ⟨d,r,rfl,h1,h2⟩:=hasAllW_cons hsh
  obtain rfl:=hasAllW_nil h2
  obtain ⟨xs,rfl,h3⟩:=hasW_list h1
  obtain ⟨ns,rfl⟩:=items_int h3
  have hlen:ns.length≤n:=by
    unfold OpenLaw.pre at hc
    have h4:(WTm.not (.lt (.lit (.int (n:Int))) (.len (.arg 0)))).holds [] { args:=[.list (ns.map .int)] }=true:=by
      have h4:=(holds_andW hc).1
      rw [hn] at h4
      exact h4
    have h5:=condW_of h4 (w_not (w_lt w_lit (w_len_list (w_arg rfl))))
    rw [List.length_map] at h5
    refine Nat.le_of_not_lt fun q=>?_
    have q':(n:Int)<((ns.length:Nat):Int):=by omega
    first
      |(rw [decide_eq_true q'] at h5;exact absurd h5 (by decide))
      |(simp at h5;omega)
  cases hwl with
  | cons w1 w2=>
    cases w2
    cases w1 with
    |list ho hall=>exact ⟨_,_,ns,rfl,rfl,ho,ints_of_wellAll ns _ hall,hlen⟩
theorem post_true (l:OpenLaw) (args:List WData):l.row.toRowW.claim.post args (.bool true) args=true:=
  postW_of (r:=l.row.toRowW) (X:=(true == true))
    (show WShape.has [] (.bool true) .bool=true by first|rfl|decide|simp [WShape.has,WShape.arms,WShape.armsAll])
    (show (WTm.eq .res (.lit (.bool true))).value [] { args:=args,res:=some (.bool true),after:=args }=some (.bool (true == true)) from w_eq_bool (w_res rfl) w_lit) rfl
theorem attach_call {l:OpenLaw} {n:Nat} {q:Program} {loose:List Str} {XP:(Str→Option Value)→Heap→Prop} {YP:World→Heap→Prop} {d:DefRec}
    (hn:l.most=some n) (hdf:d.params.defaults=[])
    (call:∀ (w:World) (s₀ s₁:Shared) (mg mb:Str→Option Value) (fa:Addr) (o:Obj) (pm cd doc:Value) (a:Addr) (vs:List Value) (ns:List Int),
      Ground q loose [] XP w s₀ mg mb s₁.heap→YP w s₁.heap→
      s₁.heap.get? fa=some o→o.data=.func (docDef d.name d.params d.body d.scope pm cd doc)→s₁.heap.CodeRec cd d.name→mg d.name=some (.ref fa)→
      s₁.heap.get? a=some { cls:=.type "list",data:=.seq vs.toArray }→IntsAre vs ns→ns.length≤n→s₁.gens=#[]→
      codeAny (model l.prog w) callerA (.call (.ref fa) ⟨[.ref a],[]⟩) (fun r s'=>r=.ok (.ret (.bool true))∧OldK s₁.heap s'.heap∧s'.os=s₁.os∧AllBare s'.gens) s₁) :
    WalkO q loose XP YP l.row.toRowW d [] (fun f vs=>PySem.call f vs):=by
  intro w s₀ s₁ mg mb G Y fa o pm cd doc dV kV ho hd hcd hD hmg hg args vals as hpre hlay hrd hwl hlo
  obtain rfl:dV=.none:=Dflts.none hD hdf
  obtain rfl:kV=.none:=Dflts.noKw hD
  obtain ⟨a,vs,ns,rfl,rfl,hobj,hints,hlen⟩:=script_of hn hpre hwl
  refine enter_call (codeAny_mono (call w s₀ s₁ mg mb fa o pm cd doc a vs ns G Y ho (fd_plain hd) hcd hmg hobj hints hlen hg) fun r s' hq=>?_)
  obtain ⟨rfl,h2,h3,h4⟩:=hq
  exact ⟨.inl ⟨.bool true,.bool true,[],rfl,fun _=>rfl,.bool true,post_true l _,fun _=>⟨List.Pairwise.nil,fun _ hm=>(nomatch hm)⟩⟩,h2,h3,h4⟩
section
variable {prog:Program} {w:World} {A:Around} {E:Value→Shared→Prop} {s:Shared} {K:Frag}
end
end Att
namespace L2
open PySem PySem.Spec PyProof.Rows
theorem vals_ints:∀ {vs:List Value} {ns:List Int},IntsAre vs ns→Vals (ns.map V.int) vs
  |_,_,.nil=>.nil
  |_,_,.cons n t h=>.cons ⟨t,rfl⟩ (vals_ints h)
def Only (H:Hp):Prop:=∀ b,H b=none∨∃ o xs,H b=some (.frz o (.lst xs))
theorem law_call {P:Program} {w:World} {K:PySem.W.Frag} {mg mb:Str→Option Value} {CX:CXT} {k:Nat} {fa a:Addr} {fd:FuncData} {x:Str} {sp:Sp} {s₁:Shared} {vs:List Value} {ns:List Int}
    (KX:K.In s₁.heap) (hns:s₁.heap.Ns mainGlobals mg) (hb:s₁.heap.Ns builtinsNs mb) (hbb:∀ x:Str,x ≠ "__name__"→mb x=bootBuiltins x) (hlim:s₁.heap.NoLimit) (hg:s₁.gens=#[])
    (ha:s₁.heap.get? a=some { cls:=.type "list",data:=.seq vs.toArray }) (hi:IntsAre vs ns) (hl:ns.length≤sizeLine) (hr:Room k callerA)
    (F:∀ base:Heap,K.In base→base.Ns mainGlobals mg→FnOk P w K mg base CX k fa fd [x] sp) (hbind:∀ (s:Shared) (u:Value),BindsTo s fd ⟨[u],[]⟩ [(x,u)])
    (hsp:∀ H:Hp,Only H→SqL K H a (ns.map V.int)→sp [.ref a] H (fun v _=>v=.bl true) fun _ _ _=>False)
    (hCX:∀ H e s',CX [] H s₁ (fun _ _ _=>False) e s'→False) :
    codeAny (model P w) callerA (.call (.ref fa) ⟨[.ref a],[]⟩) (fun r s'=>r=.ok (.ret (.bool true))∧OldK s₁.heap s'.heap∧s'.os=s₁.os∧AllBare s'.gens) s₁:=by
  have rv:=vals_ints hi
  have lenV:=hi.length
  have core:∀ H:Hp,Only H→SqL K H a (ns.map V.int)→HOk P w H s₁.heap→(∀ b,H b≠none→b=a)→(H a≠none→K.lookup a=none)→
      codeAny (model P w) callerA (.call (.ref fa) ⟨[.ref a],[]⟩) (fun r s'=>r=.ok (.ret (.bool true))∧OldK s₁.heap s'.heap∧s'.os=s₁.os∧AllBare s'.gens) s₁:=by
    intro H hO hS hok hA hK
    have base_of:∀ {b:Addr} {o:Obj},s₁.heap.get? b=some o→H b=none→(hidT s₁.heap H).get? b=some o:=fun e n=>hidT_get e n
    have noA:∀ {b:Addr} {o:Obj} {es:Array DictEntry} {ep:Nat},s₁.heap.get? b=some o→o.data=.dict es ep→H b=none:=fun {b o es ep} e d=>by
      cases q:H b with
      |none=>rfl
      | some u=>
        have e':b=a:=hA b (by rw [q];simp)
        subst e'
        rw [ha] at e;cases e
        have d':Data.seq vs.toArray _=Data.dict es ep:=d
        cases d'
    have nsK:∀ {b:Addr} {m:Str→Option Value},s₁.heap.Ns b m→(hidT s₁.heap H).Ns b m:=fun {b m} ⟨o,es,ep,e,d,r⟩=>⟨o,es,ep,base_of e (noA e d),d,r⟩
    have hKb:K.In (hidT s₁.heap H):=fun b o e=>base_of (KX b o e) (by
      cases q:H b with
      |none=>rfl
      | some u=>
        have e':b=a:=hA b (by rw [q];simp)
        subst e'
        rw [hK (by rw [q];simp)] at e;cases e)
    have hM:Mod K mg (hidT s₁.heap H):=⟨hKb,nsK hns,⟨mb,nsK hb,hbb⟩,let ⟨mc,h1,h2⟩:=hlim;⟨mc,nsK h1,h2⟩⟩
    have e0:Env0 P w K mg (hidT s₁.heap H) callerA [] s₁ H:=⟨rfl,hM,fun b o e=>of_hidT e,Nat.le_of_eq (hidT_size _ _),trivial,fun b hb=>absurd (show b∈([]:List Addr) from hb) (by simp),hok,.of_eq hg⟩
    refine codeAny_mono ((F _ hKb (nsK hns)).run callerA [] s₁ H ⟨[.ref a],[]⟩ [.ref a] [.ref a] _ _ hr e0 (hbind s₁ (.ref a)) (.cons rfl .nil) (hsp H hO hS)) fun r s' h=>?_
    cases r with
    |error e=>exact (hCX H e s' h).elim
    | ok fl=>
      cases fl with
      |next=>exact False.elim h
      |brk=>exact False.elim h
      |cont=>exact False.elim h
      | ret u=>
        obtain ⟨v,H',os,bare,un,hok',r',q⟩:=h
        have q':v=.bl true:=q
        subst q'
        obtain rfl:u=Value.bool true:=r'
        refine ⟨rfl,OldK.of_keep fun b o e=>?_,os,bare⟩
        cases q:H b with
        |none=>exact un.keep b o e q (by intro z;exact absurd (show b∈([]:List Addr) from z) (by simp)) (by simp)
        | some u=>
          rcases hO b with z|⟨ob,xs,z⟩
          · rw [q] at z;cases z
          · have z2:=un.frzs b ob _ z
            obtain ⟨e1,_⟩:=hok b _ z
            obtain ⟨e2,_⟩:=hok' b _ z2
            rw [e] at e1;cases e1
            exact e2
  cases hk:K.lookup a with
  | some o=>
    have e:=KX a o hk
    rw [ha] at e
    cases e
    refine core (fun _=>none) (fun _=>.inl rfl) (.inr ⟨_,vs.toArray,_,hk,rfl,rfl,rfl,by rw [List.size_toArray,lenV];exact hl,by simpa using rv⟩) (fun b u z=>by have z':(none:Option HO)=some u:=z;cases z') (fun b z=>absurd rfl z) fun z=>absurd rfl z
  | none=>
    refine core (fun b=>if b=a then some (.frz { cls:=.type "list",data:=.seq vs.toArray } (.lst (ns.map V.int))) else none) (fun b=>?_) (.inl (.inr ⟨{ cls:=.type "list",data:=.seq vs.toArray },if_pos rfl⟩)) (fun b u z=>?_) (fun b z=>?_) fun _=>hk
    · by_cases hb:b=a
      · exact .inr ⟨_,_,if_pos hb⟩
      · exact .inl (if_neg hb)
    · by_cases hb:b=a
      · have z':=(if_pos hb).symm.trans z
        cases z'
        subst hb
        exact ⟨ha,by rw [List.length_map];exact hl,vs,_,rv,ha⟩
      · have z':=(if_neg hb).symm.trans z
        cases z'
    · by_cases hb:b=a
      · exact hb
      · exact absurd (if_neg hb) z
end L2
namespace L2
open PySem PySem.Spec PyProof.Rows
theorem walk_of {l:PySem.W.OpenLaw} {n k:Nat} {q:Program} {loose:List Str} {XP:(Str→Option Value)→Heap→Prop} {YP:World→Heap→Prop} {d:DefRec} {K:Params→PySem.W.Frag} {CX:World→CXT} {sp:World→Sp} {x:Str}
    (hn:l.most=some n) (hn2:n≤sizeLine) (hdf:d.params.defaults=[]) (hr:Room k callerA)
    (hY:∀ (w:World) (h:Heap),YP w h→(K w.params).In h)
    (F:∀ (w:World) (mg:Str→Option Value) (fa:Addr) (h:Heap),(K w.params).In h→h.Ns mainGlobals mg→mg d.name=some (.ref fa)→
      ∃ fd:FuncData,(∀ (s:Shared) (u:Value),BindsTo s fd ⟨[u],[]⟩ [(x,u)])∧
        ∀ base:Heap,(K w.params).In base→base.Ns mainGlobals mg→FnOk l.prog w (K w.params) mg base (CX w) k fa fd [x] (sp w))
    (hsp:∀ (w:World) (H:Hp) (a:Addr) (ns:List Int),ns.length≤n→Only H→SqL (K w.params) H a (ns.map V.int)→sp w [.ref a] H (fun v _=>v=.bl true) fun _ _ _=>False)
    (hCX:∀ (w:World) (H:Hp) (s:Shared) (e:Value) (s':Shared),CX w [] H s (fun _ _ _=>False) e s'→False) :
    PySem.W.WalkO q loose XP YP l.row.toRowW d [] (fun f vs=>PySem.call f vs):=by
  refine Att.attach_call hn hdf fun w s₀ s₁ mg mb fa o pm cd doc a vs ns G Y ho hd hcd hmg hobj hints hlen hg=>?_
  have KX:=hY w _ Y
  obtain ⟨fd,hb,hF⟩:=F w mg fa _ KX G.T.g hmg
  exact law_call KX G.T.g G.T.b G.T.builtins G.T.nolimit hg hobj hints (Nat.le_trans hlen hn2) hr hF hb (fun H hO hS=>hsp w H a ns hlen hO hS) fun H e s'=>hCX w H s₁ e s'
end L2
namespace L2
open PySem PySem.Spec PyProof.Rows
def inClass (s:Stmt) (j:Nat):Stmt:=match s with
  |.ClassDef _ _ _ body _ _ _ _ _ _ _=>body.getD j (.Pass ⟨0,0,0,0⟩)
  |_=>.Pass ⟨0,0,0,0⟩
def defArgs (s:Stmt):Arguments:=match s with
  |.FunctionDef _ a _ _ _ _ _ _ _ _=>a
  |_=>{ posonlyargs:=[],args:=[],vararg:=none,kwonlyargs:=[],kw_defaults:=[],kwarg:=none,defaults:=[] }
def defBody (s:Stmt):List Stmt:=match s with
  |.FunctionDef _ _ b _ _ _ _ _ _ _=>b
  |_=>[]
def defScope (s:Stmt):Scope:=match s with
  |.FunctionDef _ _ _ _ _ _ sc _ _ _=>sc
  |_=>{ kind:=.function,names:=[],isGenerator:=false,isCoroutine:=false }
abbrev CX0:CXT:=fun _ _ _ _ _ _=>False
abbrev E0:XK:=fun _ _ _=>False
theorem pass0 {X:Cx}:Passes CX0 X E0:=fun _ _ _ _ _ _ _ h=>h.elim
structure Fun (K:PySem.W.Frag) (x qual:Str) (st:Stmt) (f:Addr) (fd:FuncData):Prop where
  ex:∃ (oc:Value) (od:Option Addr) (kV doc pm:Value) (an:Option Addr) (cdv ct:Value) (osl:Array (Option Value)),
    fd=PySem.W.fnOf x qual (defArgs st) (defBody st) (defScope st) .none kV doc pm an cdv ct∧K.lookup f=some ⟨oc,od,.func fd,osl⟩∧PySem.W.codeIn K cdv qual=true
  kp:PySem.W.keepIn K (.ref f)=true
section
variable {P:Program} {w:World} {K:PySem.W.Frag} {mg:Str→Option Value} {base:Heap}
theorem Fun.ok {x qual:Str} {st:Stmt} {f:Addr} {fd:FuncData} {N ps:List Str} {k:Nat} {sp:Sp} (F:Fun K x qual st f fd) (S:FnScope N ps (defScope st)) (len:∀ vs H Q E,sp vs H Q E→vs.length=ps.length)
    (hbody:∀ (cdv:Value) (A:Around) (outer:List Env) (s:Shared) (H:Hp) (vs:List V) (Q:VK) (E:XK),Room k (A.deeper (envOfC qual (defScope st) s.heap.objs.size f cdv))→sp vs H Q E→
      ∃ t,PSs (cxOf CX0 P w K mg base N qual (defScope st) f cdv A outer s H E).nox (defBody st) t∧t { nx:=fun _ H'=>Q .non H',rt:=Q } (start N vs) H):FnOk P w K mg base CX0 (k+1) f fd ps sp:=by
  obtain ⟨oc,od,kV,doc,pm,an,cdv,ct,osl,rfl,lk,hcd⟩:=F.ex
  refine fn_of lk hcd S len fun A outer s H vs Q E hr hsp=>?_
  obtain ⟨t,h,q⟩:=hbody cdv A outer s H vs Q E hr hsp
  exact ⟨t,h.nox,q⟩
theorem Fun.binds {x qual:Str} {st:Stmt} {f:Addr} {fd:FuncData} {ps:List Str} (F:Fun K x qual st f fd)
    (h:∀ (kV doc pm:Value) (an:Option Addr) (cdv ct:Value) (us:List Value),us.length=ps.length→bindArgs (PySem.W.fnOf x qual (defArgs st) (defBody st) (defScope st) .none kV doc pm an cdv ct) ⟨us,[]⟩=pure (ps.zip us)):Binds K fd ps []:=by
  obtain ⟨oc,od,kV,doc,pm,an,cdv,ct,osl,rfl,lk,hcd⟩:=F.ex
  exact .all (h kV doc pm an cdv ct)
theorem fun_mk {x qual:Str} {st:Stmt} {f:Addr} {oc:Value} {od an:Option Addr} {osl:Array (Option Value)} {kV doc pm cdv ct:Value} (l:K.lookup f=some ⟨oc,od,.func (PySem.W.fnOf x qual (defArgs st) (defBody st) (defScope st) .none kV doc pm an cdv ct),osl⟩)
    (c:PySem.W.codeIn K cdv qual=true) (k:PySem.W.keepIn K (.ref f)=true):Fun K x qual st f (PySem.W.fnOf x qual (defArgs st) (defBody st) (defScope st) .none kV doc pm an cdv ct):=⟨⟨oc,od,kV,doc,pm,an,cdv,ct,osl,rfl,l,c⟩,k⟩
end
theorem hu_of {A:Around} {k:Nat} (hr:Room k A):A.units+1<cLine:=Nat.lt_of_le_of_lt (Nat.add_le_add_left (by decide:1≤64) _) hr.units
theorem small1000 {n:Nat} (h:n≤1000):n<sizeLine:=Nat.lt_of_le_of_lt h (by decide)
section
variable {X:Cx}
theorem pv (i:Nat) {x:Str} {pos:Pos} (hN:X.N[i]?=some x:=by rfl) (hv:Vis X.env.scope x:=by first|exact Or.inl rfl|exact Or.inr (Or.inl rfl)|exact Or.inr (Or.inr rfl)) (hd:(x == ("__debug__" : Str))=false:=by decide)
    (hcd:(x == ("__classdict__" : Str))=false:=by decide):PE X (.Name x pos) (tVar i):=pe_var hN hv hd hcd
end
theorem ite2 {c A B:Prop} [Decidable c] (h1:c→A) (h2:¬ c→B):if c then A else B:=by
  by_cases h:c
  · rw [if_pos h]
    exact h1 h
  · rw [if_neg h]
    exact h2 h
def Same (H H':Hp):Prop:=∀ b o,H b=some o→H' b=some o
theorem Same.refl (H:Hp):Same H H:=fun _ _ h=>h
theorem Same.trans {H H1 H2:Hp} (a:Same H H1) (b:Same H1 H2):Same H H2:=fun c o h=>b c o (a c o h)
theorem Same.free {H H':Hp} (e:Same H H') {l:Addr} (h:H' l=Option.none):H l=Option.none:=by
  cases q:H l with
  |none=>rfl
  | some o=>
    rw [e l o q] at h
    cases h
theorem Same.seq {K:PySem.W.Frag} {H H':Hp} {a:Addr} {xs:List V} (e:Same H H') (h:SqL K H a xs):SqL K H' a xs:=by
  rcases h with (h|⟨o,h⟩)|h
  · exact .inl (.inl (e _ _ h))
  · exact .inl (.inr ⟨o,e _ _ h⟩)
  · exact .inr h
end L2
namespace L2
open PySem PySem.Spec PyProof.Rows
section
variable {X:Cx}
end
section
variable {κ:Type} [DecidableEq κ]
end
end L2
namespace L2
open PySem PySem.Spec PyProof.Rows
theorem closure_ok {env:Env} (scope:Scope) (h:∀ y∈scope.names,y.2=.free→∃ c,env.cells.lookup y.1=some c) :
    ∃ cl,closureFor scope env=pure cl∧(∀ x c,cl.lookup x=some c→env.cells.lookup x=some c)∧∀ x,(x,NameKind.free)∈scope.names→∃ c,cl.lookup x=some c:=by
  have go:∀ (names:List (Str×NameKind)) (acc:List (Str×Addr)),(∀ y∈names,y.2=.free→∃ c,env.cells.lookup y.1=some c)→(∀ x c,acc.lookup x=some c→env.cells.lookup x=some c)→
      ∃ cl,(forIn names acc fun x cs=>(match x with
        |(name,kind)=>if kind == NameKind.free then (do let c ← cellOf env name;pure (ForInStep.yield ((name,c)::cs))) else pure (ForInStep.yield cs):Sem (ForInStep (List (Str×Addr)))))=pure cl∧
        (∀ x c,cl.lookup x=some c→env.cells.lookup x=some c)∧(∀ x,(x,NameKind.free)∈names∨(∃ c,acc.lookup x=some c)→∃ c,cl.lookup x=some c):=by
    intro names
    induction names with
    |nil=>intro acc _ ha;exact ⟨acc,rfl,ha,fun x z=>z.elim (fun q=>nomatch q) id⟩
    | cons y r ih=>
      intro acc hy ha
      obtain ⟨n,k⟩:=y
      by_cases hk:k=.free
      · subst hk
        obtain ⟨c,hc⟩:=hy (n,.free) List.mem_cons_self rfl
        obtain ⟨cl,e,h1,h2⟩:=ih ((n,c)::acc) (fun z hz=>hy z (List.mem_cons_of_mem _ hz)) (fun x c' hx=>by
          rw [List.lookup_cons] at hx
          by_cases q:x == n
          · rw [q] at hx
            cases hx
            rw [beq_iff_eq.mp q];exact hc
          · rw [Bool.not_eq_true] at q
            rw [q] at hx
            exact ha x c' hx)
        refine ⟨cl,?_,h1,fun x z=>h2 x ?_⟩
        · rw [List.forIn_cons]
          simp only [beq_self_eq_true,if_true,cellOf,hc]
          exact e
        · have aux:∀ x,(∃ c',acc.lookup x=some c')→∃ c',((n,c)::acc).lookup x=some c':=fun x ⟨c',z⟩=>by
            rw [List.lookup_cons]
            by_cases q:x == n
            · rw [q];exact ⟨_,rfl⟩
            · rw [Bool.not_eq_true] at q
              rw [q];exact ⟨c',z⟩
          rcases z with z|z
          · rcases List.mem_cons.mp z with z|z
            · cases z
              exact .inr ⟨c,by rw [List.lookup_cons,beq_self_eq_true]⟩
            · exact .inl z
          · exact .inr (aux x z)
      · have hb:(k == NameKind.free)=false:=by simpa using hk
        obtain ⟨cl,e,h1,h2⟩:=ih acc (fun z hz=>hy z (List.mem_cons_of_mem _ hz)) ha
        refine ⟨cl,?_,h1,fun x z=>h2 x ?_⟩
        · rw [List.forIn_cons]
          simp only [hb,Bool.false_eq_true,if_false]
          exact e
        · rcases z with z|z
          · rcases List.mem_cons.mp z with z|z
            · cases z
              exact absurd rfl hk
            · exact .inl z
          · exact .inr z
  obtain ⟨cl,e,h1,h2⟩:=go scope.names [] h (fun x c z=>by simp at z)
  refine ⟨cl,?_,h1,fun x z=>h2 x (.inl z)⟩
  unfold closureFor
  exact (congrArg (fun (m:Sem (List (Str×Addr)))=>m >>= fun cs=>pure cs) e).trans rfl
def cxComp (X:Cx) (scope:Scope) (N':List Str) (cl:List (Str×Addr)) (C:Addr) (s₀:Shared) (H₀:Hp) (ex:List Addr):Cx where
  prog:=X.prog
  w:=X.w
  K:=X.K
  mg:=X.mg
  base:=X.base
  A:=X.A
  N:=N'
  s₀:=s₀
  H₀:=H₀
  env:=compEnvC scope cl C X.env
  outer:=X.stack
  stack:=X.stack
  ex:=ex
  fn:=fun _=>false
  calm:=X.calm
  pn:=[]
  xe:=fun _ _=>False
def compSt (k:Nat) (js:List Nat) (σ:St):St:=List.replicate k none++js.map fun j=>(σ[j]?).join
theorem compSt_len (k:Nat) (js:List Nat) (σ:St):(compSt k js σ).length=k+js.length:=by simp [compSt]
structure CompScope (X:Cx) (scope:Scope) (own:List Str) (js:List Nat) (N':List Str):Prop where
  kind:scope.kind=.function
  nocell:∀ y∈scope.names,y.2≠.cell
  names:∀ y∈scope.names,y.2=.local→scope.names.lookup y.1=some .local
  free:∀ y∈scope.names,y.2=.free→X.env.kindOf y.1=some .cell∨X.env.kindOf y.1=some .free
  nm:N'=own++js.map fun j=>X.N.getD j Str.empty
  fr:∀ j∈js,j<X.N.length∧(X.N.getD j Str.empty,NameKind.free)∈scope.names∧∀ k,(X.N.getD j Str.empty,k)∈scope.names→k=.free
theorem lookup_mem_free {names:List (Str×NameKind)} {x:Str} (h:(x,NameKind.free)∈names) (u:∀ k,(x,k)∈names→k=.free):names.lookup x=some .free:=by
  induction names with
  |nil=>cases h
  | cons y r ih=>
    obtain ⟨n,k⟩:=y
    rw [List.lookup_cons]
    by_cases q:x == n
    · rw [q]
      have e:x=n:=beq_iff_eq.mp q
      subst e
      rw [u k List.mem_cons_self]
    · rw [Bool.not_eq_true] at q
      rw [q]
      refine ih ?_ fun k hk=>u k (List.mem_cons_of_mem _ hk)
      rcases List.mem_cons.mp h with z|z
      · cases z
        rw [beq_self_eq_true] at q;cases q
      · exact z
theorem relabel_mem {scope:Scope} {env:Env} {x:Str} {k:NameKind} (h:(x,k)∈(relabel scope env).names) (hk:k=.cell∨k=.free) (hc:∀ y∈scope.names,y.2≠.cell):(x,NameKind.free)∈scope.names:=by
  unfold relabel at h
  obtain ⟨⟨n,k'⟩,hm,e⟩:=List.mem_map.mp h
  dsimp only at e
  by_cases q:(k' == NameKind.free && env.scope.kind == .function && env.kindOf n == some .cell)=true
  · rw [if_pos q] at e
    cases e
    rw [Bool.and_eq_true,Bool.and_eq_true] at q
    have:k'=.free:=by simpa using q.1.1
    rw [← this];exact hm
  · rw [if_neg q] at e
    cases e
    rcases hk with z|z
    · exact absurd z (hc _ hm)
    · rw [← z];exact hm
theorem lookup_relabel_free {env:Env} {x:Str}:∀ {names:List (Str×NameKind)},names.lookup x=some .free→
    (names.map fun (n,k)=>if (k == NameKind.free && env.scope.kind == .function && env.kindOf n == some .cell) then (n,NameKind.cell) else (n,k)).lookup x=some .cell∨
    (names.map fun (n,k)=>if (k == NameKind.free && env.scope.kind == .function && env.kindOf n == some .cell) then (n,NameKind.cell) else (n,k)).lookup x=some .free
  |[],h=>by simp at h
  | (n,k)::r,h=>by
    have ih:=@lookup_relabel_free env x r
    rw [List.lookup_cons] at h
    rw [List.map_cons]
    dsimp only
    by_cases q:x == n
    · rw [q] at h
      cases h
      by_cases c:(NameKind.free == NameKind.free && env.scope.kind == .function && env.kindOf n == some .cell)=true
      · rw [if_pos c,List.lookup_cons,q];exact .inl rfl
      · rw [if_neg c,List.lookup_cons,q];exact .inr rfl
    · rw [Bool.not_eq_true] at q
      rw [q] at h
      by_cases c:(k == NameKind.free && env.scope.kind == .function && env.kindOf n == some .cell)=true
      · rw [if_pos c,List.lookup_cons,q];exact ih h
      · rw [if_neg c,List.lookup_cons,q];exact ih h
section
variable {X:Cx} {pins:List (Addr×Obj)} {σ:St} {H:Hp} {s:Shared}
theorem Inv.comp {scope:Scope} {own:List Str} {js:List Nat} {N':List Str} {cl:List (Str×Addr)} {C:Addr} {h₁:Heap} {tk:Nat} {fp:List Addr} {m:Str→Option Value} (S:CompScope X scope own js N') (I:Inv X pins σ H s)
    (hc1:∀ x c,cl.lookup x=some c→X.env.cells.lookup x=some c) (hc2:∀ x,(x,NameKind.free)∈scope.names→∃ c,cl.lookup x=some c) (hC:s.heap.objs.size≤C) (hns:h₁.Ns C m) (hk:∀ b o,s.heap.get? b=some o→h₁.get? b=some o)
    (hf:∀ b∈fp,FpOk X pins H b∧b<s.heap.objs.size) (hHC:H C=none) (hfree:∀ b o,s.heap.get? b=some o→b≠C) :
    Inv (cxComp X scope N' cl C s H fp) [] (compSt own.length js σ) H { s with heap:=h₁,toks:=tk }:=by
  have ltx:∀ b o,X.s₀.heap.get? b=some o→b∉X.ex→b∉fp:=fun b o e hx hb=>by
    rcases (hf b hb).1.2.2.2.1 with z|z
    · exact hx z
    · exact absurd (Nat.lt_of_lt_of_le (Heap.lt_size e) z) (Nat.lt_irrefl _)
  refine ⟨⟨I.ok.mod,S.kind,I.ok.glob,I.ok.blt,hC,fun x y c h1 h2=>I.ok.inj x y c (hc1 x c h1) (hc1 y c h2),fun x hx=>?_,fun x c z=>(nomatch z),I.ok.hd,I.ok.frames,.inl rfl,fun b hb=>⟨Nat.ne_of_lt (Nat.lt_of_lt_of_le (hf b hb).2 hC),fun x c e=>(hf b hb).1.2.2.2.2.1 x c (hc1 x c e)⟩,I.bs,Nat.le_trans I.ok.bsz I.sz,fun b o e=>ltx b o (I.ok.bs b o e).1 (I.ok.noex b o e),fun b hb z=>?_,I.stack,I.stkFree⟩,
    rfl,I.bare,Un.kept hk,⟨m,hns,fun i x v e1 e2 e3=>?_⟩,fun x c e=>?_,hHC,fun x c e=>I.freeC x c (hc1 x c e),fun p hp=>absurd (show p∈([]:List (Addr×Obj)) from hp) (by simp),I.hok.kept hk,?_⟩
  · have hx':(relabel scope X.env).names.lookup x=some .cell∨(relabel scope X.env).names.lookup x=some .free:=hx
    rcases hx' with z|z
    · exact hc2 x (relabel_mem (PySem.mem_of_lookup z) (.inl rfl) S.nocell)
    · exact hc2 x (relabel_mem (PySem.mem_of_lookup z) (.inr rfl) S.nocell)
  · obtain ⟨_,f1,f2,_⟩:=(hf b hb).1
    rcases List.mem_cons.mp (I.stkSub b z) with q|q
    · exact f1 q
    · exact f2 q
  ·
    unfold compSt at e2
    by_cases hi:i<own.length
    · rw [List.getElem?_append_left (by simpa using hi),List.getElem?_replicate] at e2
      split at e2 <;> cases e2
    · rw [List.getElem?_append_right (by simpa using hi),List.length_replicate,List.getElem?_map] at e2
      cases ej:js[i-own.length]? with
      |none=>rw [ej] at e2;cases e2
      | some j=>
        rw [ej] at e2
        have e2':(σ[j]?).join=some v:=by simpa using e2
        have hσ:σ[j]?=some (some v):=by
          cases q:σ[j]? with
          |none=>rw [q] at e2';cases e2'
          |some o=>rw [q] at e2';exact congrArg some e2'
        have hj:=S.fr j (List.mem_of_getElem? ej)
        have hx:x=X.N.getD j Str.empty:=by
          have e1':N'[i]?=some x:=e1
          rw [S.nm,List.getElem?_append_right (by omega),List.getElem?_map,ej] at e1'
          exact (Option.some.inj e1').symm
        have hN:X.N[j]?=some x:=by
          rw [hx,List.getD_eq_getElem?_getD,List.getElem?_eq_getElem hj.1];rfl
        have hfr:scope.names.lookup x=some .free:=by rw [hx];exact lookup_mem_free hj.2.1 hj.2.2
        have hkx:=S.free (x,.free) (by rw [hx];exact hj.2.1) rfl
        have hvis:Vis X.env.scope x:=hkx.elim (fun z=>.inr (.inl z)) fun z=>.inr (.inr z)
        obtain ⟨mX,hnX,hlX⟩:=I.loc
        obtain ⟨u,r,l⟩:=hlX j x v hN hσ hvis
        refine ⟨u,r,.inr ⟨lookup_relabel_free hfr,?_⟩⟩
        rcases l with ⟨z,_⟩|⟨_,c,hc,hcell⟩
        · rcases hkx with q|q
          · have:=q.symm.trans z;cases this
          · have:=q.symm.trans z;cases this
        · obtain ⟨c',hc'⟩:=hc2 x (by rw [hx];exact hj.2.1)
          have:c'=c:=Option.some.inj ((hc1 x c' hc').symm.trans hc)
          subst this
          obtain ⟨o,ho,hd⟩:=hcell
          exact ⟨c',hc',o,hk _ _ ho,hd⟩
  · obtain ⟨v,o,ho,hd⟩:=I.cell x c (hc1 x c e)
    exact ⟨v,o,hk _ _ ho,hd⟩
  · rw [compSt_len]
    show _=N'.length
    rw [S.nm];simp
end
end L2
namespace L2
open PySem PySem.Spec PyProof.Rows
def PIfs (Y:Cx) (ifs:List Expr) (t:TT):Prop:=
  ∀ (pins:List (Addr×Obj)) (s:Shared) (σ:St) (H:Hp) (Q:Bool→Hp→Prop),Inv Y pins σ H s→t σ H Q→
    wpAny (model Y.prog Y.w) Y.A (forIn ifs true fun c r=>if r=true then do let ok ← isTrue c Y.env (eval c Y.env);pure (ForInStep.yield ok) else pure (ForInStep.yield r)) (TP Y pins σ Q) Y.xe s
def tYes:TT:=fun _ H Q=>Q true H
theorem pifs_nil {Y:Cx}:PIfs Y [] tYes:=fun _ _ _ H _ I h=>wpAny_tests_nil ⟨H,I,h⟩
abbrev accObj (us:List Value) (k:Nat):Obj:={ cls:=.type "list",data:=.seq us.toArray k }
def CTurn (J:It) (g:TG) (tt:TT) (te:TE) (F:List V→Hp→Prop) (W:Nat→Nat→List V→St→Hp→Prop):Prop:=
  ∀ i m ys σ H,W i m ys σ H→(J.stop i H∧F ys H)∨(J.go i H∧ys.length<sizeLine∧∀ x H1,J.yld i H x H1→g x σ H1 fun σ2 H2=>tt σ2 H2 fun b H3=>
    if b=true then te σ2 H3 fun y H4=>∃ m',m'<m∧W (i+1) m' (ys++[y]) σ2 H4 else ∃ m',m'<m∧W (i+1) m' ys σ2 H3)
theorem comp_loop {X:Cx} {scope:Scope} {N':List Str} {cl:List (Str×Addr)} {C acc it:Addr} {s₂:Shared} {H₂:Hp} {fp:List Addr} {tn:Nat→Heap→Prop} {J:It} {g:TG} {tt:TT} {te:TE} {F:List V→Hp→Prop}
    {elt tg iter:Expr} {ifs:List Expr} {pos:Pos} {R:Result→Shared→Prop} (W:Nat→Nat→List V→St→Hp→Prop) (turn:CTurn J g tt te F W) (T:Turn X.prog X.w X.K tg J fp it tn)
    (hg:PG (cxComp X scope N' cl C s₂ H₂ fp) tg g) (hc:PIfs (cxComp X scope N' cl C s₂ H₂ fp) ifs tt) (he:PE (cxComp X scope N' cl C s₂ H₂ fp) elt te) (hcalm:X.calm=true)
    (hfp:∀ b∈fp,b≠C∧b∉frs X.stack∧(∀ x c,cl.lookup x=some c→c≠b)∧b≠acc) (hacc:acc≠C∧acc∉frs X.stack∧(∀ x c,cl.lookup x=some c→c≠acc)∧s₂.heap.objs.size≤acc)
    (hR:∀ s' σ' H' ys us k,Inv (cxComp X scope N' cl C s₂ H₂ fp) [(acc,accObj us k)] σ' H' s'→Vals ys us→F ys H'→R (.ok .next) s')
    {s:Shared} {σ:St} {H:Hp} {m:Nat} (I:Inv (cxComp X scope N' cl C s₂ H₂ fp) [(acc,accObj [] 0)] σ H s) (st:tn 0 s.heap) (fr:∀ b∈fp,H b=none) (w0:W 0 m [] σ H) :
    codeAny (model X.prog X.w) X.A (.compLoop (.ListComp elt [⟨tg,iter,ifs,0⟩] scope pos) 0 (.ref it) (.ref acc) (compEnvC scope cl C X.env)) R s:=by
  refine codeAny_loop rfl (fun n s'=>∃ i ys us k σ' H',Vals ys us∧Inv (cxComp X scope N' cl C s₂ H₂ fp) [(acc,accObj us k)] σ' H' s'∧tn i s'.heap∧(∀ b∈fp,H' b=none)∧W i n ys σ' H') (fun n s3 hI=>?_) m ⟨0,[],[],0,σ,H,.nil,I,st,fr,w0⟩
  obtain ⟨i,ys,us,k,σ3,H3,rv,I3,st3,fr3,w3⟩:=hI
  show wpAny _ X.A ((compTurn (.ListComp elt [⟨tg,iter,ifs,0⟩] scope pos) 0 (.ref it) (.ref acc) (compEnvC scope cl C X.env)).onRaise (fun x=>do noteFrame x (compEnvC scope cl C X.env);theTreesLotGoes x)) _ _ s3
  refine wpAny_noted ?_
  rw [compTurn_list]
  have fpk:∀ {pins:List (Addr×Obj)} {H':Hp},(∀ p∈pins,p.1=acc∨p.1∈([]:List Addr))→(∀ b∈fp,H' b=none)→∀ b∈fp,FpOk (cxComp X scope N' cl C s₂ H₂ fp) pins H' b:=fun hp hn b hb=>
    ⟨hn b hb,(hfp b hb).1,(hfp b hb).2.1,.inl hb,(hfp b hb).2.2.1,fun p hp'=>by
      have hp'':p∈([]:List (Addr×Obj))++_:=hp'
      rcases hp p (by simpa using hp'') with z|z
      · rw [z];exact Ne.symm (hfp b hb).2.2.2
      · exact (nomatch z)⟩
  have fp1:=fpk (pins:=[(acc,accObj us k)]) (fun p hp=>.inl (by simp at hp;rw [hp])) fr3
  refine wpAny_bind (wpAny_standAt (wpAny_bind ?_))
  rcases turn i n ys σ3 H3 w3 with ⟨stop,qn⟩|⟨go,hz,step⟩
  · refine wpAny_mono (T.done (cxComp X scope N' cl C s₂ H₂ fp) rfl rfl rfl hcalm i _ s3 σ3 H3 (fun _ _=>False) I3 fp1 st3 stop) (fun r s4 ⟨hr,I4⟩=>?_) (fun _ _ z=>z.elim)
    subst hr
    exact wpAny_pure (hR s4 σ3 H3 ys us k I4 rv qn)
  · refine wpAny_mono (T.item (cxComp X scope N' cl C s₂ H₂ fp) rfl rfl rfl hcalm i _ s3 σ3 H3 (fun _ _=>False) I3 fp1 st3 go) (fun r s4 ⟨u,hr,h4⟩=>?_) (fun _ _ z=>z.elim)
    subst hr
    refine wpAny_bind (wpAny_mono h4 (fun _ s5 ⟨x,H5,I5,r5,y5,st5,fr5⟩=>?_) (fun _ _ z=>z.elim))
    have fp5:=fpk (pins:=[(acc,accObj us k)]) (fun p hp=>.inl (by simp at hp;rw [hp])) fr5
    have I5':=I5.pinned fp5 (T.obj _ _ st5)
    refine wpAny_bind (wpAny_mono (hg _ s5 σ3 H5 x u _ I5' r5 (step x H5 y5)) (fun _ s6 ⟨σ6,H6,I6,q6⟩=>?_) (fun _ _ z=>z.elim))
    refine wpAny_bind (wpAny_mono (hc _ s6 σ6 H6 _ I6 q6) (fun ok s7 ⟨H7,I7,q7⟩=>?_) (fun _ _ z=>z.elim))
    have again:∀ {s8:Shared} {σ8:St} {H8:Hp} {us8:List Value} {k8:Nat} {ys8:List V},Inv (cxComp X scope N' cl C s₂ H₂ fp) ([(acc,accObj us k)]++pinsAt fp s5.heap) σ8 H8 s8→tn (i+1) s8.heap∧∀ b∈fp,H8 b=none:=fun {s8 σ8 H8 us8 k8 ys8} I8=>
      ⟨T.keep _ _ _ st5 fun b hb o e=>(I8.pin (b,o) (List.mem_append_right _ (List.mem_append_right _ (mem_pinsAt hb e)))).1,fun b hb=>by
        obtain ⟨o,e,d⟩:=T.obj _ _ st5 b hb
        exact (I8.pin (b,o) (List.mem_append_right _ (List.mem_append_right _ (mem_pinsAt hb e)))).2.1⟩
    cases ok with
    | false=>
      rw [if_neg Bool.false_ne_true] at q7
      obtain ⟨m',hm,w7⟩:=q7
      obtain ⟨t1,t2⟩:=again (us8:=us) (k8:=k) (ys8:=ys) I7
      exact wpAny_pure ⟨rfl,m',hm,i+1,ys,us,k,σ6,H7,rv,I7.unpinned,t1,t2,w7⟩
    | true=>
      rw [if_pos rfl] at q7
      refine wpAny_bind (wpAny_bind (wpAny_mono (he _ s7 σ6 H7 _ I7 q7) (fun y s8 ⟨yv,H8,I8,r8,m',hm,w8⟩=>?_) (fun _ _ z=>z.elim)))
      obtain ⟨t1,t2⟩:=again (us8:=us) (k8:=k) (ys8:=ys) I8
      obtain ⟨e8,n8,l8,f8,d8⟩:=I8.pin (acc,accObj us k) (List.mem_append_right _ (List.mem_append_left _ List.mem_cons_self))
      have hlen:=rv.length
      have hz':us.toArray.size≤sizeLine:=by rw [List.size_toArray];omega
      refine wpAny_bind (call_meets PySem.F.slot_list_append ⟨_,e8,rfl⟩ PySem.F.entry_list_append (PySem.F.args_list_append_2 _ _) (PySem.list_append acc us.toArray k y hz') ⟨e8,?_⟩)
      have q:=PySem.IsL.update e8 (fun z=>z.push y)
      have I9:Inv (cxComp X scope N' cl C s₂ H₂ fp) [] σ6 H8 s8:=I8.pins_of fun p hp=>(nomatch hp)
      have I10:=I9.turned (t':=s8.toks) (it:=acc) (h':=s8.heap.update acc (Obj.mapSeq fun z=>z.push y)) (fun b o hb e=>(Heap.get?_update_other s8.heap _ (Ne.symm hb)).trans e) n8 hacc.1 (.inr hacc.2.2.2) hacc.2.2.1 (fun p hp=>(nomatch hp))
      have e':(us.toArray.push y)=(us++[y]).toArray:=by simp
      rw [e'] at q
      obtain ⟨k9,ek⟩:∃ k9,k9=(if ((us++[y]).toArray.size == us.toArray.size)=true then k else k+1):=⟨_,rfl⟩
      rw [← ek] at q
      have I11:=I10.pins_of (pins':=[(acc,accObj (us++[y]) k9)]) fun p hp=>by
        obtain rfl:p=(acc,accObj (us++[y]) k9):=by simpa using hp
        exact ⟨q,n8,hacc.1,hacc.2.1,fun v z=>by cases z⟩
      refine wpAny_pure (wpAny_pure ⟨rfl,m',hm,i+1,ys++[yv],us++[y],k9,σ6,H8,rv.append (.cons r8 .nil),I11,T.keep _ _ _ t1 fun b hb o e=>?_,t2,w8⟩)
      exact (Heap.get?_update_other s8.heap _ (hfp b hb).2.2.2.symm).trans e
def tComp (wi:TI) (g:TG) (tt:TT) (te:TE) (k:Nat) (js:List Nat):TE:=fun σ H Q=>wi σ H fun J H1=>∃ W:Nat→Nat→List V→St→Hp→Prop,(∃ m,W 0 m [] (compSt k js σ) H1)∧
  CTurn J g tt te (fun ys H2=>ys.length≤sizeLine∧∀ p,H2 p=none→Q (.ref p) (upd H2 p (.lst ys))) W
section
variable {X:Cx} {scope:Scope} {own:List Str} {js:List Nat} {N':List Str} {wi:TI} {g:TG} {tt:TT} {te:TE} {elt tg iter:Expr} {ifs:List Expr} {pos:Pos}
theorem comp_run {pins:List (Addr×Obj)} {σ:St} {H:Hp} {s:Shared} {it:Addr} {fp:List Addr} {tn:Nat→Heap→Prop} {J:It} {cl:List (Str×Addr)} {F:List V→Hp→Prop} {E:Value→Shared→Prop} {RR:Value→Addr→Result→Shared→Prop}
    (S:CompScope X scope own js N') (hcalm:X.calm=true) (hg:∀ cl C s₀ H₀ ex,PG (cxComp X scope N' cl C s₀ H₀ ex) tg g) (hc:∀ cl C s₀ H₀ ex,PIfs (cxComp X scope N' cl C s₀ H₀ ex) ifs tt) (he:∀ cl C s₀ H₀ ex,PE (cxComp X scope N' cl C s₀ H₀ ex) elt te)
    (hc1:∀ x c,cl.lookup x=some c→X.env.cells.lookup x=some c) (hc2:∀ x,(x,NameKind.free)∈scope.names→∃ c,cl.lookup x=some c)
    (I:Inv X pins σ H s) (T:Turn X.prog X.w X.K tg J fp it tn) (st:tn 0 s.heap) (hf:∀ b∈fp,FpOk X pins H b) (W:Nat→Nat→List V→St→Hp→Prop) {m0:Nat} (w0:W 0 m0 [] (compSt own.length js σ) H) (turn:CTurn J g tt te F W)
    (hF:∀ ys H',F ys H'→ys.length≤sizeLine)
    (fin:∀ acc C H' ys s' m,Inv X pins σ (upd H' acc (.lst ys)) s'→H' acc=none→s'.heap.Ns C m→(upd H' acc (.lst ys)) C=none→C≠X.env.locals→X.s₀.heap.objs.size≤C→(∀ x c,X.env.cells.lookup x=some c→c≠C)→(∀ p∈X.pn++pins,p.1≠C)→F ys H'→RR (.ref acc) C (.ok .next) s') :
    wpAny (model X.prog X.w) X.A (newList []) (fun acc s₃=>wpAny (model X.prog X.w) X.A (newFunctionEnv scope X.env.globals cl [] X.env.qual none .none (some X.env)) (fun cenv s₄=>
      codeAny (model X.prog X.w) X.A (.compStart (.ListComp elt [⟨tg,iter,ifs,0⟩] scope pos) 0 (.ref it) acc { cenv with scope:=relabel scope X.env }) (RR acc cenv.locals) s₄) E s₃) E s:=by
  refine wpAny_newObj_type (wpAny_newFunctionEnv S.nocell (by intro y hy;simp at hy) (fun h₁ hns₁ hsb₁=>?_) S.kind)
  dsimp only at hns₁ hsb₁ ⊢
  generalize hH2:s.heap.push { cls:=.type "list",dict:=none,data:=.seq ([]:List Value).toArray }=H2 at hns₁ hsb₁ ⊢
  have hC:H2.objs.size=s.heap.objs.size+1:=by rw [← hH2,Heap.size_push]
  have hDC:s.heap.objs.size≠H2.objs.size:=by rw [hC];exact Nat.ne_of_lt (Nat.lt_succ_self _)
  have hCle:s.heap.objs.size≤H2.objs.size:=by rw [hC];exact Nat.le_succ _
  have below:∀ b,b<s.heap.objs.size→b≠H2.objs.size∧b≠s.heap.objs.size:=fun b hb=>⟨by rw [hC];exact Nat.ne_of_lt (Nat.lt_succ_of_lt hb),Nat.ne_of_lt hb⟩
  have old:∀ b o,s.heap.get? b=some o→h₁.get? b=some o:=fun b o e=>hsb₁.extBut b o (below b (Heap.lt_size e)).1 (Heap.get?_push_of_some _ (hH2 ▸ Heap.get?_push_of_some _ e))
  have hacc:h₁.get? s.heap.objs.size=some (accObj [] 0):=hsb₁.extBut _ _ hDC (Heap.get?_push_of_some _ (hH2 ▸ Heap.get?_push_size _ rfl))
  generalize hCn:H2.objs.size=C at *
  generalize hAn:s.heap.objs.size=acc at *
  have cellLt:∀ x c,X.env.cells.lookup x=some c→c<acc:=fun x c e=>by
    obtain ⟨v,q⟩:=I.cell x c e
    rw [← hAn];exact q.lt
  have pinLt:∀ p∈X.pn++pins,p.1<acc:=fun p hp=>by rw [← hAn];exact Heap.lt_size (I.pin p hp).1
  have stkLt:∀ b∈frs X.stack,b<acc:=fun b hb=>by
    obtain ⟨_,o,ho,_⟩:=I.stack.mem hb
    rw [← hAn];exact Heap.lt_size ho
  have fpLt:∀ b∈fp,b<acc:=fun b hb=>by
    obtain ⟨o,e,_⟩:=T.obj _ _ st b hb
    rw [← hAn];exact Heap.lt_size e
  have hHC:H C=none:=I.hok.fresh (by rw [hAn];exact hCle)
  have hHA:H acc=none:=I.hok.fresh (by rw [hAn];exact Nat.le_refl _)
  have I1:Inv (cxComp X scope N' cl C s H fp) [] (compSt own.length js σ) H { s with heap:=h₁,toks:=s.toks+([]:List (Str×Value)).length }:=
    Inv.comp S I hc1 hc2 (by rw [hAn];exact hCle) hns₁ old (fun b hb=>⟨hf b hb,by rw [hAn];exact fpLt b hb⟩) hHC fun b o e=>(below b (by rw [← hAn];exact Heap.lt_size e)).1
  have I2:Inv (cxComp X scope N' cl C s H fp) [(acc,accObj [] 0)] (compSt own.length js σ) H { s with heap:=h₁,toks:=s.toks+([]:List (Str×Value)).length }:=I1.pins_of fun p hp=>by
    obtain rfl:p=(acc,accObj [] 0):=by simpa using hp
    exact ⟨hacc,hHA,hDC,fun z=>absurd (stkLt acc z) (Nat.lt_irrefl _),fun v z=>by cases z⟩
  have st1:tn 0 h₁:=T.keep _ _ _ st fun b hb o e=>old b o e
  have loop:∀ s₃:Shared,s₃={ s with heap:=h₁,toks:=s.toks+([]:List (Str×Value)).length }→
      codeAny (model X.prog X.w) X.A (.compLoop (.ListComp elt [⟨tg,iter,ifs,0⟩] scope pos) 0 (.ref it) (.ref acc) (compEnvC scope cl C X.env)) (RR (.ref acc) C) s₃:=by
    rintro s₃ rfl
    refine comp_loop W turn T (hg _ _ _ _ _) (hc _ _ _ _ _) (he _ _ _ _ _) hcalm
      (fun b hb=>⟨(below b (fpLt b hb)).1,fun z=>?_,fun x c e z=>(hf b hb).2.2.2.2.1 x c (hc1 x c e) z,(below b (fpLt b hb)).2⟩)
      ⟨hDC,fun z=>absurd (stkLt acc z) (Nat.lt_irrefl _),fun x c e z=>absurd (cellLt x c (hc1 x c e)) (by rw [z];exact Nat.lt_irrefl _),by rw [hAn];exact Nat.le_refl _⟩ ?_ I2 st1 (fun b hb=>(hf b hb).1) w0
    · rcases List.mem_cons.mp (I.stkSub b z) with q|q
      · exact (hf b hb).2.1 q
      · exact (hf b hb).2.2.1 q
    · intro s' σ' H' ys us k J' rv q
      obtain ⟨e',n',l',f',d'⟩:=J'.pin (acc,accObj us k) (List.mem_append_right _ List.mem_cons_self)
      have n'':H' acc=none:=n'
      obtain ⟨m,hm,_⟩:=J'.loc
      have oldLt:∀ b o,s.heap.get? b=some o→b<acc:=fun b o e=>by rw [← hAn];exact Heap.lt_size e
      have neA:∀ b o,s.heap.get? b=some o→b≠acc:=fun b o e=>Nat.ne_of_lt (oldLt b o e)
      have un:Un (frs X.stack) fp H (upd H' acc (.lst ys)) s.heap s'.heap:=⟨J'.base.keep,J'.base.slot,fun b o e n hx=>by rw [upd_ne (neA b o e)];exact J'.base.free b o e n hx,J'.base.there,
        fun b xs e=>by
          have z:=J'.base.tups b xs e
          rw [upd_ne (ne_of_none z n'')];exact z,
        fun b o u e=>by
          have z:=J'.base.frzs b o u e
          rw [upd_ne (ne_of_none z n'')];exact z,
        fun b ps e=>by
          obtain ⟨more,z⟩:=J'.base.tbls b ps e
          exact ⟨more,by rw [upd_ne (ne_of_none z n'')];exact z⟩⟩
      have hok:HOk X.prog X.w (upd H' acc (.lst ys)) s'.heap:=fun b u e=>by
        by_cases hb:b=acc
        · subst hb
          rw [upd_same] at e;cases e
          exact ⟨hF _ _ q,us,k,rv,e'⟩
        · rw [upd_ne hb] at e
          exact (J'.hok b u e).stay (fun c v _ z=>z) (fun c z=>by rw [upd_ne (ne_of_none z n'')];exact z) fun c xs z=>by rw [upd_ne (ne_of_none z n'')];exact z
      have IX:Inv X pins σ (upd H' acc (.lst ys)) s':=I.call' J'.os un hok J'.bare fun b hb=>⟨(hf b hb).2.2.2.1,(hf b hb).2.1,(hf b hb).2.2.2.2.1,(hf b hb).2.2.2.2.2⟩
      refine fin acc C H' ys s' m IX n'' hm ?_ ?_ ?_ ?_ ?_ q
      · rw [upd_ne (Ne.symm hDC)];exact J'.free
      · exact Nat.ne_of_gt (Nat.lt_of_lt_of_le I.lt (by rw [hAn];exact hCle))
      · exact Nat.le_trans I.sz (by rw [hAn];exact hCle)
      · exact fun x c e z=>absurd (Nat.lt_of_lt_of_le (cellLt x c e) hCle) (by rw [z];exact Nat.lt_irrefl _)
      · exact fun p hp z=>absurd (Nat.lt_of_lt_of_le (pinLt p hp) hCle) (by rw [z];exact Nat.lt_irrefl _)
  exact codeAny_compStart_list (loop _ rfl) (T.self _ 0 _ _ _ st1 (loop _ rfl))
theorem pe_comp (S:CompScope X scope own js N') (hcalm:X.calm=true) (hi:PI X tg iter wi) (hg:∀ cl C s₀ H₀ ex,PG (cxComp X scope N' cl C s₀ H₀ ex) tg g) (hc:∀ cl C s₀ H₀ ex,PIfs (cxComp X scope N' cl C s₀ H₀ ex) ifs tt)
    (he:∀ cl C s₀ H₀ ex,PE (cxComp X scope N' cl C s₀ H₀ ex) elt te) (hs:∀ x,foldedSetIterable iter X.env x=pure x:=by intro _;rfl):PE X (.ListComp elt [⟨tg,iter,ifs,0⟩] scope pos) (tComp wi g tt te own.length js):=by
  intro pins s σ H Q I h
  obtain ⟨cl,hcl,hc1,hc2⟩:=closure_ok (env:=X.env) scope fun y hy hk=>I.ok.has y.1 (S.free y hy hk)
  rw [eval_ListComp]
  refine wpAny_comprehension_free (use:=none) rfl hs hcl S.kind S.names (thn (hi pins s σ H _ I h) fun v s1 h1=>thn h1 fun itv s2 h2=>?_)
  obtain ⟨it,fp,tn,J,H2,e,I2,T,st2,f2,W,⟨m0,w0⟩,turn⟩:=h2
  subst e
  refine comp_run (RR:=fun acc C=>compPost (model X.prog X.w) X.A X.xe none (EP X pins σ Q) acc C) S hcalm hg hc he hc1 hc2 I2 T st2 f2 W w0 turn (fun ys H' q=>q.1) ?_
  intro acc C H' ys s' m IX na hm hCn hL hz hcn hpn q
  refine ⟨m,hm,fun h' hs'=>⟨.ref acc,_,?_,rfl,q.2 acc na⟩⟩
  exact IX.turned (t':=s'.toks) (it:=C) (fun b o hb e=>(hs'.2 b hb).trans e) hCn hL (.inr hz) hcn hpn
theorem ps_setComp {i:Nat} {x:Str} {pos' spos:Pos} (S:CompScope X scope own js N') (hcalm:X.calm=true) (hN:X.N.Nodup) (hx:X.N[i]?=some x) (hk:X.env.scope.names.lookup x=some .local) (hi:PI X tg iter wi) (hg:∀ cl C s₀ H₀ ex,PG (cxComp X scope N' cl C s₀ H₀ ex) tg g) (hc:∀ cl C s₀ H₀ ex,PIfs (cxComp X scope N' cl C s₀ H₀ ex) ifs tt)
    (he:∀ cl C s₀ H₀ ex,PE (cxComp X scope N' cl C s₀ H₀ ex) elt te) (hsw:swapsWith (.ListComp elt [⟨tg,iter,ifs,0⟩] scope pos) (some (.Name x pos')) spos.line X.env=pure true:=by rfl) (hs:∀ x,foldedSetIterable iter X.env x=pure x:=by intro _;rfl) :
    PS X (.Assign [.Name x pos'] (.ListComp elt [⟨tg,iter,ifs,0⟩] scope pos) spos) (tAsg (tComp wi g tt te own.length js) (gName i)):=by
  intro pins s σ H D I h
  obtain ⟨cl,hcl,hc1,hc2⟩:=closure_ok (env:=X.env) scope fun y hy hk=>I.ok.has y.1 (S.free y hy hk)
  rw [exec_Assign_Name_used _ _ _ _ hsw]
  refine wpAny_bind (wpAny_standAt (wpAny_bind ?_))
  show wpAny _ X.A (do let _ ← comprehension (.ListComp elt [⟨tg,iter,ifs,0⟩] scope pos) scope X.env _ (newList []) false (eval iter X.env) (some (assign (.Name x pos') X.env))) _ _ s
  refine wpAny_bind (wpAny_mono (wpAny_comprehension_free (use:=some (assign (.Name x pos') X.env)) (Q:=fun _ s'=>SP X pins D .next s') rfl hs hcl S.kind S.names
    (thn (hi pins s σ H _ I h) fun v s1 h1=>thn h1 fun itv s2 h2=>?_)) (fun _ s' hq=>wpAny_pure (wpAny_pure hq)) fun _ _ e=>e)
  obtain ⟨it,fp,tn,J,H2,e,I2,T,st2,f2,W,⟨m0,w0⟩,turn⟩:=h2
  subst e
  refine comp_run (RR:=fun acc C=>compPost (model X.prog X.w) X.A X.xe (some (assign (.Name x pos') X.env)) (fun _ s'=>SP X pins D .next s') acc C) S hcalm hg hc he hc1 hc2 I2 T st2 f2 W w0 turn (fun ys H' q=>q.1) ?_
  intro acc C H' ys s' m IX na hm hCn hL hz hcn hpn q
  show wpAny _ X.A (assign (.Name x pos') X.env (.ref acc)) _ _ s'
  refine wpAny_assign_Name (store_ok2 IX hN hx (.inl hk) (v:=.ref acc) rfl (fun s'' I'' hsb=>?_) (.inr hk))
  obtain ⟨a,hsb,ha⟩:=hsb
  have haC:C≠a:=by
    rcases ha with z|z
    · rw [z];exact hL
    · exact fun q=>hcn x a z q.symm
  refine ⟨m,hm.sameBut hsb haC,fun h' hs'=>⟨_,_,?_,q.2 acc na⟩⟩
  exact I''.turned (t':=s''.toks) (it:=C) (fun b o hb e=>(hs'.2 b hb).trans e) hCn hL (.inr hz) hcn hpn
end
end L2
namespace L2
open PySem PySem.Spec PyProof.Rows
section
variable {X:Cx}
def CDivW (i j:Int):Prop:=0<j∧j<340282366920938463463374607431768211456
theorem op_fdivW:OpR X (binaryOp .FloorDiv) (rI CDivW fun i j=>.int (i / j)):=opI fun i j _ _ _ _ _ hc q=>by
  rw [← Int.fdiv_eq_ediv_of_nonneg i (Int.le_of_lt hc.1)] at q
  have h1:(0:Int)<j:=hc.1
  have h2:j<340282366920938463463374607431768211456:=hc.2
  have hb:j.natAbs<340282366920938463463374607431768211456:=by omega
  have he:(2:Nat) ^ 128=340282366920938463463374607431768211456:=by decide +kernel
  have hl:j.natAbs.log2<128:=(Nat.log2_lt (by omega)).mpr (Nat.lt_of_lt_of_eq hb he.symm)
  exact floordiv_int (by have:=hc.1;omega) q (.inl (PyProof.noPylong_of_log2 (by omega)))
theorem comp_range {lo:Int} {n:Nat} {g:TG} {te:TE} {F:List V→Hp→Prop} {σ0:St} {H0:Hp} (Pv:Nat→List V→St→Hp→Prop) (hn:n≤sizeLine) (h0:Pv 0 [] σ0 H0)
    (hs:∀ i ys σ H,i<n→ys.length=i→Pv i ys σ H→∀ N:List V→St→Hp→Prop,(∀ ys' σ' H',ys'.length=i+1→Pv (i+1) ys' σ' H'→N ys' σ' H')→g (.int (lo+i)) σ H fun σ2 H2=>te σ2 H2 fun y H3=>N (ys++[y]) σ2 H3)
    (hd:∀ ys σ H,ys.length=n→Pv n ys σ H→F ys H) :
    ∃ W:Nat→Nat→List V→St→Hp→Prop,(∃ m,W 0 m [] σ0 H0)∧CTurn (Itr lo n) g tYes te F W:=by
  refine ⟨fun i m ys σ H=>m=n-i∧i≤n∧ys.length=i∧Pv i ys σ H,⟨n,by simp,Nat.zero_le _,rfl,h0⟩,?_⟩
  rintro i m ys σ H ⟨rfl,hi,hl,p⟩
  by_cases hlt:i<n
  · refine .inr ⟨hlt,by omega,fun x H' y=>?_⟩
    obtain ⟨e,y⟩:=y
    subst e y
    exact hs i ys σ _ hlt hl p (fun ys' σ' H'=>∃ m',m'<n-i∧m'=n-(i+1)∧i+1≤n∧ys'.length=i+1∧Pv (i+1) ys' σ' H') fun ys' σ' H' hl' q=>⟨n-(i+1),by omega,rfl,hlt,hl',q⟩
  · have e:i=n:=by omega
    subst e
    exact .inl ⟨Nat.le_refl _,hd ys σ H hl p⟩
theorem comp_list {K:PySem.W.Frag} {a:Addr} {xs:List V} {g:TG} {te:TE} {F:List V→Hp→Prop} {σ0:St} {H0:Hp} (Pv:Nat→List V→St→Hp→Prop) (hn:xs.length≤sizeLine) (h0:Pv 0 [] σ0 H0) (hq:∀ i ys σ H,i≤xs.length→Pv i ys σ H→SqL K H a xs)
    (hs:∀ i x ys σ H,xs[i]?=some x→ys.length=i→Pv i ys σ H→∀ N:List V→St→Hp→Prop,(∀ ys' σ' H',ys'.length=i+1→Pv (i+1) ys' σ' H'→N ys' σ' H')→g x σ H fun σ2 H2=>te σ2 H2 fun y H3=>N (ys++[y]) σ2 H3)
    (hd:∀ ys σ H,ys.length=xs.length→Pv xs.length ys σ H→F ys H) :
    ∃ W:Nat→Nat→List V→St→Hp→Prop,(∃ m,W 0 m [] σ0 H0)∧CTurn (Itl K a) g tYes te F W:=by
  refine ⟨fun i m ys σ H=>m=xs.length-i∧i≤xs.length∧ys.length=i∧Pv i ys σ H,⟨xs.length,by simp,Nat.zero_le _,rfl,h0⟩,?_⟩
  rintro i m ys σ H ⟨rfl,hi,hl,p⟩
  have q:=hq i ys σ H hi p
  by_cases hlt:i<xs.length
  · refine .inr ⟨⟨xs,xs[i],q,by simp [hlt]⟩,by omega,fun x H' y=>?_⟩
    obtain ⟨e,y⟩:=y
    subst e
    exact hs i x ys σ _ (y xs q) hl p (fun ys' σ' H'=>∃ m',m'<xs.length-i∧m'=xs.length-(i+1)∧i+1≤xs.length∧ys'.length=i+1∧Pv (i+1) ys' σ' H') fun ys' σ' H' hl' q=>⟨xs.length-(i+1),by omega,rfl,hlt,hl',q⟩
  · have e:i=xs.length:=by omega
    subst e
    exact .inl ⟨⟨xs,q,Nat.le_refl _⟩,hd ys σ H hl p⟩
theorem comp_tup {K:PySem.W.Frag} {a:Addr} {xs:List V} {g:TG} {te:TE} {F:List V→Hp→Prop} {σ0:St} {H0:Hp} (Pv:Nat→List V→St→Hp→Prop) (hn:xs.length≤sizeLine) (h0:Pv 0 [] σ0 H0) (hq:∀ i ys σ H,i≤xs.length→Pv i ys σ H→SqT K H a xs)
    (hs:∀ i x ys σ H,xs[i]?=some x→ys.length=i→Pv i ys σ H→∀ N:List V→St→Hp→Prop,(∀ ys' σ' H',ys'.length=i+1→Pv (i+1) ys' σ' H'→N ys' σ' H')→g x σ H fun σ2 H2=>te σ2 H2 fun y H3=>N (ys++[y]) σ2 H3)
    (hd:∀ ys σ H,ys.length=xs.length→Pv xs.length ys σ H→F ys H) :
    ∃ W:Nat→Nat→List V→St→Hp→Prop,(∃ m,W 0 m [] σ0 H0)∧CTurn (Itt K a) g tYes te F W:=by
  refine ⟨fun i m ys σ H=>m=xs.length-i∧i≤xs.length∧ys.length=i∧Pv i ys σ H,⟨xs.length,by simp,Nat.zero_le _,rfl,h0⟩,?_⟩
  rintro i m ys σ H ⟨rfl,hi,hl,p⟩
  have q:=hq i ys σ H hi p
  by_cases hlt:i<xs.length
  · refine .inr ⟨⟨xs,xs[i],q,by simp [hlt]⟩,by omega,fun x H' y=>?_⟩
    obtain ⟨e,y⟩:=y
    subst e
    exact hs i x ys σ _ (y xs q) hl p (fun ys' σ' H'=>∃ m',m'<xs.length-i∧m'=xs.length-(i+1)∧i+1≤xs.length∧ys'.length=i+1∧Pv (i+1) ys' σ' H') fun ys' σ' H' hl' q=>⟨xs.length-(i+1),by omega,rfl,hlt,hl',q⟩
  · have e:i=xs.length:=by omega
    subst e
    exact .inl ⟨⟨xs,q,Nat.le_refl _⟩,hd ys σ H hl p⟩
structure Def (K:PySem.W.Frag) (mg:Str→Option Value) (x:Str) (st:Stmt) (ps:List Str) (f:Addr) (fd:FuncData):Prop where
  F:Fun K x x st f fd
  mg:mg x=some (.ref f)
  b:Binds K fd ps []
def But (p:Addr) (H H':Hp):Prop:=∀ b o,H b=some o→b≠p→H' b=some o
theorem But.refl {p:Addr} {H:Hp}:But p H H:=fun _ _ h _=>h
theorem But.trans {p:Addr} {H H1 H2:Hp} (a:But p H H1) (b:But p H1 H2):But p H H2:=fun c o h hc=>b c o (a c o h hc) hc
theorem But.upd {p:Addr} {H:Hp} {o:HO}:But p H (upd H p o):=fun b u h hb=>by rw [upd_ne hb];exact h
theorem But.new {p q:Addr} {H:Hp} {o:HO} (h:H q=none):But p H (L2.upd H q o):=fun b u e _=>by rw [upd_ne (ne_of_none e h)];exact e
end
theorem seq_by {t u:TS} {D:Ends} {σ:St} {H:Hp} (M:St→Hp→Prop) (h2:∀ σ' H',M σ' H'→u D σ' H') (h1:∀ N:St→Hp→Prop,(∀ σ' H',M σ' H'→N σ' H')→t { D with nx:=N } σ H):tSeq t u D σ H:=h1 (u D) h2
theorem Same.new {H:Hp} {q:Addr} {o:HO} (h:H q=none):Same H (upd H q o):=fun b u e=>by rw [upd_ne (ne_of_none e h)];exact e
theorem Same.but {H H':Hp} {p:Addr} (h:Same H H'):But p H H':=fun b o e _=>h b o e
theorem Same.tup {K:PySem.W.Frag} {H H':Hp} {a:Addr} {xs:List V} (e:Same H H') (h:SqT K H a xs):SqT K H' a xs:=by
  rcases h with (h|⟨o,h⟩)|h
  · exact .inl (.inl (e _ _ h))
  · exact .inl (.inr ⟨o,e _ _ h⟩)
  · exact .inr h
theorem bt_len:bootBuiltins "len" = some (.builtin "len"):=by decide +kernel
theorem bt_list:bootBuiltins "list" = some (.type "list"):=by decide +kernel
theorem bt_tuple:bootBuiltins "tuple" = some (.type "tuple"):=by decide +kernel
theorem bt_str:bootBuiltins "str" = some (.type "str"):=by decide +kernel
theorem bt_int:bootBuiltins "int" = some (.type "int"):=by decide +kernel
theorem bt_bool:bootBuiltins "bool" = some (.type "bool"):=by decide +kernel
theorem bt_all:bootBuiltins "all" = some (.builtin "all"):=by decide +kernel
theorem bt_isinstance:bootBuiltins "isinstance" = some (.builtin "isinstance"):=by decide +kernel
end L2
namespace L2
open PySem PySem.Spec PyProof.Rows PySem.SeqAt
mutual
inductive Rep (K:PySem.W.Frag) (H:Hp):V→PyData→Prop
  |non:Rep K H .non .none
  |bl (b:Bool):Rep K H (.bl b) (.bool b)
  |int (i:Int):Rep K H (.int i) (.int i)
  |str (x:Str):Rep K H (.str x) (.str x)
  |tup {a:Addr} {xs:List V} {ds:List PyData}:SqT K H a xs→Reps K H xs ds→Rep K H (.ref a) (.tuple ds)
  |lst {a:Addr} {xs:List V} {ds:List PyData}:SqL K H a xs→Reps K H xs ds→Rep K H (.ref a) (.list ds)
inductive Reps (K:PySem.W.Frag) (H:Hp):List V→List PyData→Prop
  |nil:Reps K H [] []
  |cons {x:V} {d:PyData} {xs:List V} {ds:List PyData}:Rep K H x d→Reps K H xs ds→Reps K H (x::xs) (d::ds)
end
section
variable {K:PySem.W.Frag} {H H':Hp}
theorem Reps.length:∀ {xs:List V} {ds:List PyData},Reps K H xs ds→xs.length=ds.length
  |_,_,.nil=>rfl
  |_,_,.cons _ t=>by rw [List.length_cons,List.length_cons,Reps.length t]
mutual
theorem Rep.map (f1:∀ a xs,SqT K H a xs→SqT K H' a xs) (f2:∀ a xs,SqL K H a xs→SqL K H' a xs):∀ {v:V} {d:PyData},Rep K H v d→Rep K H' v d
  |_,_,.non=>.non
  |_,_,.bl b=>.bl b
  |_,_,.int i=>.int i
  |_,_,.str x=>.str x
  |_,_,.tup h r=>.tup (f1 _ _ h) (Reps.map f1 f2 r)
  |_,_,.lst h r=>.lst (f2 _ _ h) (Reps.map f1 f2 r)
theorem Reps.map (f1:∀ a xs,SqT K H a xs→SqT K H' a xs) (f2:∀ a xs,SqL K H a xs→SqL K H' a xs):∀ {v:List V} {d:List PyData},Reps K H v d→Reps K H' v d
  |_,_,.nil=>.nil
  |_,_,.cons h r=>.cons (Rep.map f1 f2 h) (Reps.map f1 f2 r)
end
theorem Rep.same {v:V} {d:PyData} (h:Rep K H v d) (e:Same H H'):Rep K H' v d:=h.map (fun _ _ z=>e.tup z) (fun _ _ z=>e.seq z)
theorem But.seq {p a:Addr} {xs:List V} {kvs:List (Key×V)} (e:But p H H') (hp:H p=some (.dK kvs)) (h:SqL K H a xs):SqL K H' a xs:=by
  rcases h with (h|⟨o,h⟩)|h
  · exact .inl (.inl (e _ _ h (ne_of h hp (by intro z;cases z))))
  · exact .inl (.inr ⟨o,e _ _ h (ne_of h hp (by intro z;cases z))⟩)
  · exact .inr h
theorem But.tup {p a:Addr} {xs:List V} {kvs:List (Key×V)} (e:But p H H') (hp:H p=some (.dK kvs)) (h:SqT K H a xs):SqT K H' a xs:=by
  rcases h with (h|⟨o,h⟩)|h
  · exact .inl (.inl (e _ _ h (ne_of h hp (by intro z;cases z))))
  · exact .inl (.inr ⟨o,e _ _ h (ne_of h hp (by intro z;cases z))⟩)
  · exact .inr h
theorem Rep.but {p:Addr} {kvs:List (Key×V)} {v:V} {d:PyData} (h:Rep K H v d) (e:But p H H') (hp:H p=some (.dK kvs)):Rep K H' v d:=h.map (fun _ _ z=>e.tup hp z) (fun _ _ z=>e.seq hp z)
theorem Reps.get':∀ {xs:List V} {ds:List PyData} {i:Nat} {x:V},Reps K H xs ds→xs[i]?=some x→∃ d,ds[i]?=some d∧Rep K H x d
  |_,_,_,_,.nil,e=>by simp at e
  |_,_,0,_,.cons r _,e=>by simp at e;subst e;exact ⟨_,rfl,r⟩
  | _,_,i+1,d,.cons _ t,e=>by
    obtain ⟨u,h1,h2⟩:=Reps.get' (i:=i) (x:=d) t (by simpa using e)
    exact ⟨u,by simpa using h1,h2⟩
end
section
variable {X:Cx} {pins:List (Addr×Obj)} {σ:St} {H:Hp} {s:Shared}
end
mutual
def pdEq:PyData→PyData→Bool
  |.none,.none=>true
  |.bool a,.bool b=>a == b
  |.bool a,.int b=>(if a then 1 else 0) == b
  |.int a,.bool b=>a == (if b then 1 else 0)
  |.int a,.int b=>a == b
  |.str a,.str b=>a == b
  |.tuple a,.tuple b=>pdEqs a b
  |.list a,.list b=>pdEqs a b
  |_,_=>false
def pdEqs:List PyData→List PyData→Bool
  |[],[]=>true
  |a::r,b::t=>pdEq a b && pdEqs r t
  |_,_=>false
end
theorem pdEqs_iff:∀ (ds es:List PyData),pdEqs ds es=((List.range (min ds.length es.length)).all (fun j=>pdEq (ds.getD j .none) (es.getD j .none)) && ds.length == es.length)
  |[],[]=>by simp [pdEqs]
  |[],_::_=>by simp [pdEqs]
  |_::_,[]=>by simp [pdEqs]
  | a::r,b::t=>by
    rw [pdEqs,pdEqs_iff r t,List.length_cons,List.length_cons,Nat.succ_min_succ,List.range_succ_eq_map,List.all_cons,List.all_map]
    simp only [List.getD_cons_zero,Bool.and_assoc]
    congr 1
    have e:(r.length+1 == t.length+1)=(r.length == t.length):=by
      rw [Bool.eq_iff_iff];simp
    rw [e]
    congr 1
end L2
namespace L2
open PySem PySem.Spec PyProof.Rows PySem.SeqAt
mutual
def pdDep:PyData→Nat
  |.tuple xs=>pdDeps xs+1
  |.list xs=>pdDeps xs+1
  |_=>0
def pdDeps:List PyData→Nat
  |[]=>0
  |d::r=>max (pdDep d) (pdDeps r)
end
section
variable {X:Cx} {pins:List (Addr×Obj)} {σ:St} {H:Hp} {s:Shared}
mutual
theorem Rep.fn (I:Inv X pins σ H s):∀ {v:V} {d e:PyData} {u:Value},Rep X.K H v d→Rep X.K H v e→RelV v u→d=e∧pdEq d d=true
  |_,_,_,_,.non,.non,_=>⟨rfl,rfl⟩
  |_,_,_,_,.bl b,.bl _,_=>⟨rfl,by simp [pdEq]⟩
  |_,_,_,_,.int i,.int _,_=>⟨rfl,by simp [pdEq]⟩
  |_,_,_,_,.str x,.str _,_=>⟨rfl,by simp [pdEq]⟩
  | _,_,_,_,.tup h1 r1,.tup h2 r2,r=>by
    have e:=I.tuple_inj h1 h2
    subst e
    obtain ⟨its,rv,_,_⟩:=I.tuple h1
    obtain ⟨e,q⟩:=Reps.fn I r1 r2 rv
    exact ⟨by rw [e],q⟩
  | _,_,_,_,.lst h1 r1,.lst h2 r2,r=>by
    have e:=I.list_inj h1 h2
    subst e
    obtain ⟨its,rv,_,_⟩:=I.list h1
    obtain ⟨e,q⟩:=Reps.fn I r1 r2 rv
    exact ⟨by rw [e],q⟩
  | _,_,_,_,.tup h1 _,.lst h2 _,r=>by
    obtain ⟨_,_,⟨o,e1,c1,_⟩,_⟩:=I.tuple h1
    obtain ⟨_,_,⟨o',n,e2,c2,_⟩,_⟩:=I.list h2
    rw [e1] at e2;cases e2
    rw [c1] at c2;injection c2 with z;exact absurd z (by decide)
  | _,_,_,_,.lst h2 _,.tup h1 _,r=>by
    obtain ⟨_,_,⟨o,e1,c1,_⟩,_⟩:=I.tuple h1
    obtain ⟨_,_,⟨o',n,e2,c2,_⟩,_⟩:=I.list h2
    rw [e1] at e2;cases e2
    rw [c1] at c2;injection c2 with z;exact absurd z (by decide)
theorem Reps.fn (I:Inv X pins σ H s):∀ {v:List V} {d e:List PyData} {u:List Value},Reps X.K H v d→Reps X.K H v e→Vals v u→d=e∧pdEqs d d=true
  |_,_,_,_,.nil,.nil,_=>⟨rfl,rfl⟩
  | _,_,_,_,.cons a b,.cons c d,.cons r rs=>by
    obtain ⟨e1,q1⟩:=Rep.fn I a c r
    obtain ⟨e2,q2⟩:=Reps.fn I b d rs
    exact ⟨by rw [e1,e2],by simp [pdEqs,q1,q2]⟩
end
theorem allEq {vs ws:List V} {ds es:List PyData} {us xs:List Value} {A:Around} (rs1:Reps X.K H vs ds) (rs2:Reps X.K H ws es) (rv1:Vals vs us) (rv2:Vals ws xs) :
    ((List.range (min us.toArray.size xs.toArray.size)).all (fun j=>pdEq (ds.getD j .none) (es.getD j .none)) && us.toArray.size == xs.toArray.size)=pdEqs ds es:=by
  rw [pdEqs_iff,List.size_toArray,List.size_toArray,← rv1.length,← rv2.length,rs1.length,rs2.length]
theorem rcT {l b:Addr} {vs ws:List V} {ds es:List PyData} {us xs:List Value} {A:Around} (rs1:Reps X.K H vs ds) (rs2:Reps X.K H ws es) (rv1:Vals vs us) (rv2:Vals ws xs) (p1:IsTup s.heap l us.toArray) (p2:IsTup s.heap b xs.toArray) (hu:A.units<cLine)
    (he:∀ j (h1:j<us.length) (h2:j<xs.length),EqAt A.in1 s us[j] xs[j] (pdEq (ds.getD j .none) (es.getD j .none))):RcAt A s (.ref l) (.ref b) (pdEq (.tuple ds) (.tuple es)):=by
  show RcAt A s (.ref l) (.ref b) (pdEqs ds es)
  rw [← allEq (A:=A) rs1 rs2 rv1 rv2]
  exact RcAt.tuples (show s.heap.IsTuple l us.toArray from p1) (show s.heap.IsTuple b xs.toArray from p2) hu fun j h1 h2=>by simpa using he j (by simpa using h1) (by simpa using h2)
theorem rcL {l b:Addr} {vs ws:List V} {ds es:List PyData} {us xs:List Value} {A:Around} (rs1:Reps X.K H vs ds) (rs2:Reps X.K H ws es) (rv1:Vals vs us) (rv2:Vals ws xs) (p1:s.heap.IsList l us.toArray) (p2:s.heap.IsList b xs.toArray) (hu:A.units<cLine)
    (he:∀ j (h1:j<us.length) (h2:j<xs.length),EqAt A.in1 s us[j] xs[j] (pdEq (ds.getD j .none) (es.getD j .none))):RcAt A s (.ref l) (.ref b) (pdEq (.list ds) (.list es)):=by
  show RcAt A s (.ref l) (.ref b) (pdEqs ds es)
  have q:=allEq (A:=A) rs1 rs2 rv1 rv2
  by_cases hz:us.toArray.size=xs.toArray.size
  · rw [← q,hz,Nat.min_self,beq_self_eq_true,Bool.and_true,← hz]
    exact RcAt.lists p1 p2 hz hu fun j h1 h2=>by simpa using he j (by simpa using h1) (by simpa using h2)
  · have e:pdEqs ds es=false:=by
      rw [← q]
      have:(us.toArray.size == xs.toArray.size)=false:=by simpa using hz
      rw [this,Bool.and_false]
    rw [e]
    exact RcAt.lists_lengths p1 p2 (by simpa using hz) hu
theorem eqT (I:Inv X pins σ H s) {l b:Addr} {vs ws:List V} {ds es:List PyData} {us xs:List Value} {A:Around} (h1:SqT X.K H l vs) (h2:SqT X.K H b ws) (rs1:Reps X.K H vs ds) (rs2:Reps X.K H ws es) (rv1:Vals vs us) (rv2:Vals ws xs) (p1:IsTup s.heap l us.toArray) (p2:IsTup s.heap b xs.toArray) (hu:A.units<cLine)
    (he:∀ j (h1:j<us.length) (h2:j<xs.length),EqAt A.in1 s us[j] xs[j] (pdEq (ds.getD j .none) (es.getD j .none))):EqAt A s (.ref l) (.ref b) (pdEq (.tuple ds) (.tuple es)):=by
  by_cases hlb:l=b
  · subst hlb
    obtain ⟨e,q⟩:=Rep.fn I (.tup h1 rs1) (.tup h2 rs2) (u:=.ref l) rfl
    rw [← e,q]
    exact EqAt.same _
  · exact EqAt.of_refs hlb (rcT rs1 rs2 rv1 rv2 p1 p2 hu he)
theorem eqL (I:Inv X pins σ H s) {l b:Addr} {vs ws:List V} {ds es:List PyData} {us xs:List Value} {A:Around} (h1:SqL X.K H l vs) (h2:SqL X.K H b ws) (rs1:Reps X.K H vs ds) (rs2:Reps X.K H ws es) (rv1:Vals vs us) (rv2:Vals ws xs) (p1:s.heap.IsList l us.toArray) (p2:s.heap.IsList b xs.toArray) (hu:A.units<cLine)
    (he:∀ j (h1:j<us.length) (h2:j<xs.length),EqAt A.in1 s us[j] xs[j] (pdEq (ds.getD j .none) (es.getD j .none))):EqAt A s (.ref l) (.ref b) (pdEq (.list ds) (.list es)):=by
  by_cases hlb:l=b
  · subst hlb
    obtain ⟨e,q⟩:=Rep.fn I (.lst h1 rs1) (.lst h2 rs2) (u:=.ref l) rfl
    rw [← e,q]
    exact EqAt.same _
  · exact EqAt.of_refs hlb (rcL rs1 rs2 rv1 rv2 p1 p2 hu he)
theorem hu00 {A:Around} {n:Nat} (h:A.units+n<cLine):A.units<cLine:=by omega
theorem hu0 {A:Around} {n:Nat} (h:A.units+(n+1)<cLine):A.units<cLine:=by omega
theorem hu1 {A:Around} {n:Nat} (h:A.units+(n+1)<cLine):A.in1.units+n<cLine:=by show A.units+1+n<cLine;omega
mutual
theorem eq_at (I:Inv X pins σ H s):∀ {v w:V} {d e:PyData} {u x:Value} {A:Around},Rep X.K H v d→Rep X.K H w e→RelV v u→RelV w x→A.units+pdDep d<cLine→EqAt A s u x (pdEq d e)
  | _,_,_,_,u,x,A,.non,.non,r1,r2,hu=>by
    cases (show u=Value.none from r1)
    cases (show x=Value.none from r2)
    exact EqAt.same _
  | _,_,_,_,u,x,A,.non,.bl b2,r1,r2,hu=>by
    cases (show u=Value.none from r1)
    cases (show x=Value.bool b2 from r2)
    exact EqAt.none_bool b2
  | _,_,_,_,u,x,A,.non,.int i2,r1,r2,hu=>by
    cases (show u=Value.none from r1)
    obtain ⟨t2,e2⟩:=(show ∃ t,x=Value.int i2 t from r2);subst e2
    exact EqAt.none_int i2 t2
  | _,_,_,_,u,x,A,.non,.str y2,r1,r2,hu=>by
    cases (show u=Value.none from r1)
    obtain ⟨t2,e2⟩:=(show ∃ t,x=Value.str y2 t from r2);subst e2
    exact EqAt.none_str y2 t2
  | _,_,_,_,u,x,A,.non,.lst h2 rs2,r1,r2,hu=>by
    cases (show u=Value.none from r1)
    cases (show x=Value.ref _ from r2);obtain ⟨its2,rv2,p2,_⟩:=I.list h2
    exact EqAt.none_list p2.isList (hu00 hu)
  | _,_,_,_,u,x,A,.non,.tup h2 rs2,r1,r2,hu=>by
    cases (show u=Value.none from r1)
    cases (show x=Value.ref _ from r2);obtain ⟨its2,rv2,p2,_⟩:=I.tuple h2
    exact EqAt.none_tuple p2 (hu00 hu)
  | _,_,_,_,u,x,A,.bl b1,.non,r1,r2,hu=>by
    cases (show u=Value.bool b1 from r1)
    cases (show x=Value.none from r2)
    exact EqAt.bool_none b1
  | _,_,_,_,u,x,A,.bl b1,.bl b2,r1,r2,hu=>by
    cases (show u=Value.bool b1 from r1)
    cases (show x=Value.bool b2 from r2)
    exact EqAt.bool_bool b1 b2
  | _,_,_,_,u,x,A,.bl b1,.int i2,r1,r2,hu=>by
    cases (show u=Value.bool b1 from r1)
    obtain ⟨t2,e2⟩:=(show ∃ t,x=Value.int i2 t from r2);subst e2
    exact EqAt.bool_int b1 i2 t2
  | _,_,_,_,u,x,A,.bl b1,.str y2,r1,r2,hu=>by
    cases (show u=Value.bool b1 from r1)
    obtain ⟨t2,e2⟩:=(show ∃ t,x=Value.str y2 t from r2);subst e2
    exact EqAt.bool_str b1 y2 t2
  | _,_,_,_,u,x,A,.bl b1,.lst h2 rs2,r1,r2,hu=>by
    cases (show u=Value.bool b1 from r1)
    cases (show x=Value.ref _ from r2);obtain ⟨its2,rv2,p2,_⟩:=I.list h2
    exact EqAt.bool_list b1 p2.isList (hu00 hu)
  | _,_,_,_,u,x,A,.bl b1,.tup h2 rs2,r1,r2,hu=>by
    cases (show u=Value.bool b1 from r1)
    cases (show x=Value.ref _ from r2);obtain ⟨its2,rv2,p2,_⟩:=I.tuple h2
    exact EqAt.bool_tuple b1 p2 (hu00 hu)
  | _,_,_,_,u,x,A,.int i1,.non,r1,r2,hu=>by
    obtain ⟨t1,e1⟩:=(show ∃ t,u=Value.int i1 t from r1);subst e1
    cases (show x=Value.none from r2)
    exact EqAt.int_none i1 t1
  | _,_,_,_,u,x,A,.int i1,.bl b2,r1,r2,hu=>by
    obtain ⟨t1,e1⟩:=(show ∃ t,u=Value.int i1 t from r1);subst e1
    cases (show x=Value.bool b2 from r2)
    exact EqAt.int_bool i1 t1 b2
  | _,_,_,_,u,x,A,.int i1,.int i2,r1,r2,hu=>by
    obtain ⟨t1,e1⟩:=(show ∃ t,u=Value.int i1 t from r1);subst e1
    obtain ⟨t2,e2⟩:=(show ∃ t,x=Value.int i2 t from r2);subst e2
    exact EqAt.int_int i1 t1 i2 t2
  | _,_,_,_,u,x,A,.int i1,.str y2,r1,r2,hu=>by
    obtain ⟨t1,e1⟩:=(show ∃ t,u=Value.int i1 t from r1);subst e1
    obtain ⟨t2,e2⟩:=(show ∃ t,x=Value.str y2 t from r2);subst e2
    exact EqAt.int_str i1 t1 y2 t2
  | _,_,_,_,u,x,A,.int i1,.lst h2 rs2,r1,r2,hu=>by
    obtain ⟨t1,e1⟩:=(show ∃ t,u=Value.int i1 t from r1);subst e1
    cases (show x=Value.ref _ from r2);obtain ⟨its2,rv2,p2,_⟩:=I.list h2
    exact EqAt.int_list i1 t1 p2.isList (hu00 hu)
  | _,_,_,_,u,x,A,.int i1,.tup h2 rs2,r1,r2,hu=>by
    obtain ⟨t1,e1⟩:=(show ∃ t,u=Value.int i1 t from r1);subst e1
    cases (show x=Value.ref _ from r2);obtain ⟨its2,rv2,p2,_⟩:=I.tuple h2
    exact EqAt.int_tuple i1 t1 p2 (hu00 hu)
  | _,_,_,_,u,x,A,.str y1,.non,r1,r2,hu=>by
    obtain ⟨t1,e1⟩:=(show ∃ t,u=Value.str y1 t from r1);subst e1
    cases (show x=Value.none from r2)
    exact EqAt.str_none y1 t1
  | _,_,_,_,u,x,A,.str y1,.bl b2,r1,r2,hu=>by
    obtain ⟨t1,e1⟩:=(show ∃ t,u=Value.str y1 t from r1);subst e1
    cases (show x=Value.bool b2 from r2)
    exact EqAt.str_bool y1 t1 b2
  | _,_,_,_,u,x,A,.str y1,.int i2,r1,r2,hu=>by
    obtain ⟨t1,e1⟩:=(show ∃ t,u=Value.str y1 t from r1);subst e1
    obtain ⟨t2,e2⟩:=(show ∃ t,x=Value.int i2 t from r2);subst e2
    exact EqAt.str_int y1 t1 i2 t2
  | _,_,_,_,u,x,A,.str y1,.str y2,r1,r2,hu=>by
    obtain ⟨t1,e1⟩:=(show ∃ t,u=Value.str y1 t from r1);subst e1
    obtain ⟨t2,e2⟩:=(show ∃ t,x=Value.str y2 t from r2);subst e2
    exact EqAt.str_str y1 t1 y2 t2
  | _,_,_,_,u,x,A,.str y1,.lst h2 rs2,r1,r2,hu=>by
    obtain ⟨t1,e1⟩:=(show ∃ t,u=Value.str y1 t from r1);subst e1
    cases (show x=Value.ref _ from r2);obtain ⟨its2,rv2,p2,_⟩:=I.list h2
    exact EqAt.str_list y1 t1 p2.isList (hu00 hu)
  | _,_,_,_,u,x,A,.str y1,.tup h2 rs2,r1,r2,hu=>by
    obtain ⟨t1,e1⟩:=(show ∃ t,u=Value.str y1 t from r1);subst e1
    cases (show x=Value.ref _ from r2);obtain ⟨its2,rv2,p2,_⟩:=I.tuple h2
    exact EqAt.str_tuple y1 t1 p2 (hu00 hu)
  | _,_,_,_,u,x,A,.lst h1 rs1,.non,r1,r2,hu=>by
    cases (show u=Value.ref _ from r1);obtain ⟨its1,rv1,p1,_⟩:=I.list h1
    cases (show x=Value.none from r2)
    exact EqAt.list_none p1.isList (hu00 hu)
  | _,_,_,_,u,x,A,.lst h1 rs1,.bl b2,r1,r2,hu=>by
    cases (show u=Value.ref _ from r1);obtain ⟨its1,rv1,p1,_⟩:=I.list h1
    cases (show x=Value.bool b2 from r2)
    exact EqAt.list_bool b2 p1.isList (hu00 hu)
  | _,_,_,_,u,x,A,.lst h1 rs1,.int i2,r1,r2,hu=>by
    cases (show u=Value.ref _ from r1);obtain ⟨its1,rv1,p1,_⟩:=I.list h1
    obtain ⟨t2,e2⟩:=(show ∃ t,x=Value.int i2 t from r2);subst e2
    exact EqAt.list_int i2 t2 p1.isList (hu00 hu)
  | _,_,_,_,u,x,A,.lst h1 rs1,.str y2,r1,r2,hu=>by
    cases (show u=Value.ref _ from r1);obtain ⟨its1,rv1,p1,_⟩:=I.list h1
    obtain ⟨t2,e2⟩:=(show ∃ t,x=Value.str y2 t from r2);subst e2
    exact EqAt.list_str y2 t2 p1.isList (hu00 hu)
  | _,_,_,_,u,x,A,.lst h1 rs1,.lst h2 rs2,r1,r2,hu=>by
    cases (show u=Value.ref _ from r1);obtain ⟨its1,rv1,p1,_⟩:=I.list h1
    cases (show x=Value.ref _ from r2);obtain ⟨its2,rv2,p2,_⟩:=I.list h2
    exact eqL I h1 h2 rs1 rs2 rv1 rv2 p1.isList p2.isList (hu0 hu) (eqs_at I rs1 rs2 rv1 rv2 (hu1 hu))
  | _,_,_,_,u,x,A,.lst h1 rs1,.tup h2 rs2,r1,r2,hu=>by
    cases (show u=Value.ref _ from r1);obtain ⟨its1,rv1,p1,_⟩:=I.list h1
    cases (show x=Value.ref _ from r2);obtain ⟨its2,rv2,p2,_⟩:=I.tuple h2
    exact EqAt.list_tuple p1.isList p2 (hu00 hu)
  | _,_,_,_,u,x,A,.tup h1 rs1,.non,r1,r2,hu=>by
    cases (show u=Value.ref _ from r1);obtain ⟨its1,rv1,p1,_⟩:=I.tuple h1
    cases (show x=Value.none from r2)
    exact EqAt.tuple_none p1 (hu00 hu)
  | _,_,_,_,u,x,A,.tup h1 rs1,.bl b2,r1,r2,hu=>by
    cases (show u=Value.ref _ from r1);obtain ⟨its1,rv1,p1,_⟩:=I.tuple h1
    cases (show x=Value.bool b2 from r2)
    exact EqAt.tuple_bool b2 p1 (hu00 hu)
  | _,_,_,_,u,x,A,.tup h1 rs1,.int i2,r1,r2,hu=>by
    cases (show u=Value.ref _ from r1);obtain ⟨its1,rv1,p1,_⟩:=I.tuple h1
    obtain ⟨t2,e2⟩:=(show ∃ t,x=Value.int i2 t from r2);subst e2
    exact EqAt.tuple_int i2 t2 p1 (hu00 hu)
  | _,_,_,_,u,x,A,.tup h1 rs1,.str y2,r1,r2,hu=>by
    cases (show u=Value.ref _ from r1);obtain ⟨its1,rv1,p1,_⟩:=I.tuple h1
    obtain ⟨t2,e2⟩:=(show ∃ t,x=Value.str y2 t from r2);subst e2
    exact EqAt.tuple_str y2 t2 p1 (hu00 hu)
  | _,_,_,_,u,x,A,.tup h1 rs1,.lst h2 rs2,r1,r2,hu=>by
    cases (show u=Value.ref _ from r1);obtain ⟨its1,rv1,p1,_⟩:=I.tuple h1
    cases (show x=Value.ref _ from r2);obtain ⟨its2,rv2,p2,_⟩:=I.list h2
    exact EqAt.tuple_list p1 p2.isList (hu00 hu)
  | _,_,_,_,u,x,A,.tup h1 rs1,.tup h2 rs2,r1,r2,hu=>by
    cases (show u=Value.ref _ from r1);obtain ⟨its1,rv1,p1,_⟩:=I.tuple h1
    cases (show x=Value.ref _ from r2);obtain ⟨its2,rv2,p2,_⟩:=I.tuple h2
    exact eqT I h1 h2 rs1 rs2 rv1 rv2 p1 p2 (hu0 hu) (eqs_at I rs1 rs2 rv1 rv2 (hu1 hu))
theorem eqs_at (I:Inv X pins σ H s):∀ {vs ws:List V} {ds es:List PyData} {us xs:List Value} {A:Around},Reps X.K H vs ds→Reps X.K H ws es→Vals vs us→Vals ws xs→A.units+pdDeps ds<cLine→
    ∀ j (h1:j<us.length) (h2:j<xs.length),EqAt A s us[j] xs[j] (pdEq (ds.getD j .none) (es.getD j .none))
  |_,_,_,_,_,_,_,.nil,_,.nil,_,_,j,h1,_=>absurd h1 (Nat.not_lt_zero _)
  |_,_,_,_,_,_,_,.cons _ _,.nil,.cons _ _,.nil,_,j,_,h2=>absurd h2 (Nat.not_lt_zero _)
  |_,_,_,_,_,_,_,.cons a b,.cons c d,.cons r rs,.cons t ts,hu,0,_,_=>eq_at I a c r t (by simp only [pdDeps] at hu;simp only [List.getD_cons_zero];omega)
  |_,_,_,_,_,_,_,.cons a b,.cons c d,.cons r rs,.cons t ts,hu,j+1,h1,h2=>eqs_at I b d rs ts (by simp only [pdDeps] at hu;omega) j (by simpa using h1) (by simpa using h2)
end
end
end L2
namespace L2
open PySem PySem.Spec PyProof.Rows PySem.SeqAt
section
variable {X:Cx}
theorem pdDep_le {e:PyData}:∀ {es:List PyData},e∈es→pdDep e≤pdDeps es
  |_::_,.head _=>by simp only [pdDeps];omega
  |_::r,.tail _ h=>by have:=pdDep_le h;simp only [pdDeps];omega
def tyD:PyData→String
  |.none=>"NoneType"
  |.bool _=>"bool"
  |.int _=>"int"
  |.str _=>"str"
  |.list _=>"list"
  |.tuple _=>"tuple"
  |.dict _=>"dict"
theorem isD {pins:List (Addr×Obj)} {σ:St} {H:Hp} {s:Shared} {A:Around} {E:Value→Shared→Prop} {Q:Value→Shared→Prop} {v:V} {d:PyData} {u c:Value} {b:Bool} (I:Inv X pins σ H s) (r:Rep X.K H v d) (rv:RelV v u)
    (e:PySem.W.kitOne X.K (.type (tyD d)) c=some b) (h:∀ tk,Q (.bool b) { s with toks:=tk }):wpAny (model X.prog X.w) A (call (.builtin "isinstance") [u,c]) Q E s:=by
  cases r with
  |non=>cases (show u=Value.none from rv);exact PySem.W.kia_one PySem.W.kitx_none I.kIn True.intro e (fun z=>nomatch z) h
  |bl y=>cases (show u=Value.bool y from rv);exact PySem.W.kia_one PySem.W.kitx_bool I.kIn True.intro e (fun z=>nomatch z) h
  |int i=>obtain ⟨t,q⟩:=(show ∃ t,u=Value.int i t from rv);cases q;exact PySem.W.kia_one PySem.W.kitx_int I.kIn True.intro e (fun z=>nomatch z) h
  |str y=>obtain ⟨t,q⟩:=(show ∃ t,u=Value.str y t from rv);cases q;exact PySem.W.kia_one PySem.W.kitx_str I.kIn True.intro e (fun z=>nomatch z) h
  | tup g _=>
    cases (show u=Value.ref _ from rv)
    obtain ⟨_,_,⟨o,h1,h2,_⟩,_⟩:=I.tuple g
    exact PySem.W.kia_one PySem.W.kitx_tuple I.kIn ⟨o,h1,h2⟩ e (fun z=>nomatch z) h
  | lst g _=>
    cases (show u=Value.ref _ from rv)
    obtain ⟨_,_,⟨o,n,h1,h2,_⟩,_⟩:=I.list g
    exact PySem.W.kia_one PySem.W.kitx_list I.kIn ⟨o,h1,h2⟩ e (fun z=>nomatch z) h
theorem isD2 {pins:List (Addr×Obj)} {σ:St} {H:Hp} {s:Shared} {A:Around} {E:Value→Shared→Prop} {Q:Value→Shared→Prop} {v:V} {d:PyData} {u:Value} {tp:Addr} {dd:Option Addr} {its:List Value} {n:Nat} {sl:Array (Option Value)} {b:Bool} (I:Inv X pins σ H s) (r:Rep X.K H v d) (rv:RelV v u)
    (htp:s.heap.get? tp=some ⟨.type "tuple",dd,.seq its.toArray n,sl⟩) (e:PySem.W.kitAny X.K (.type (tyD d)) its=some b) (h:∀ tk,Q (.bool b) { s with toks:=tk }):wpAny (model X.prog X.w) A (call (.builtin "isinstance") [u,.ref tp]) Q E s:=by
  cases r with
  |non=>cases (show u=Value.none from rv);exact PySem.W.kia_tup PySem.W.kitx_none I.kIn True.intro htp e (fun z=>nomatch z) h
  |bl y=>cases (show u=Value.bool y from rv);exact PySem.W.kia_tup PySem.W.kitx_bool I.kIn True.intro htp e (fun z=>nomatch z) h
  |int i=>obtain ⟨t,q⟩:=(show ∃ t,u=Value.int i t from rv);cases q;exact PySem.W.kia_tup PySem.W.kitx_int I.kIn True.intro htp e (fun z=>nomatch z) h
  |str y=>obtain ⟨t,q⟩:=(show ∃ t,u=Value.str y t from rv);cases q;exact PySem.W.kia_tup PySem.W.kitx_str I.kIn True.intro htp e (fun z=>nomatch z) h
  | tup g _=>
    cases (show u=Value.ref _ from rv)
    obtain ⟨_,_,⟨o,h1,h2,_⟩,_⟩:=I.tuple g
    exact PySem.W.kia_tup PySem.W.kitx_tuple I.kIn ⟨o,h1,h2⟩ htp e (fun z=>nomatch z) h
  | lst g _=>
    cases (show u=Value.ref _ from rv)
    obtain ⟨_,_,⟨o,n,h1,h2,_⟩,_⟩:=I.list g
    exact PySem.W.kia_tup PySem.W.kitx_list I.kIn ⟨o,h1,h2⟩ htp e (fun z=>nomatch z) h
def rIsT (K:PySem.W.Frag):List V→Hp→VK→Prop:=fun xs H Q=>∃ x n d b,xs=[x,.ty n]∧Rep K H x d∧PySem.W.kitOne K (.type (tyD d)) (.type n)=some b∧Q (.bl b) H
theorem call_isT:CallR X (.builtin "isinstance") (rIsT X.K):=by
  intro pins s σ H xs us Q I r h
  obtain ⟨x,n,d,b,rfl,hr,e,q⟩:=h
  cases r with
  | cons r1 r=>
    cases r with
    | cons r2 r=>
      cases r
      cases (show _=Value.type n from r2)
      exact isD I hr r1 e fun tk=>⟨.bl b,H,I.tok tk,rfl,q⟩
def rIsT2 (K:PySem.W.Frag):List V→Hp→VK→Prop:=fun xs H Q=>∃ x a n m d b,xs=[x,.ref a]∧H a=some (.tup [.ty n,.ty m])∧Rep K H x d∧PySem.W.kitAny K (.type (tyD d)) [.type n,.type m]=some b∧Q (.bl b) H
theorem call_isT2:CallR X (.builtin "isinstance") (rIsT2 X.K):=by
  intro pins s σ H xs us Q I r h
  obtain ⟨x,a,n,m,d,b,rfl,ha,hr,e,q⟩:=h
  cases r with
  | cons r1 r=>
    cases r with
    | cons r2 r=>
      cases r
      cases (show _=Value.ref a from r2)
      obtain ⟨z,its,rv,o,h1,h2,k,h3⟩:=(show ObjOk X.prog X.w H s.heap a (.tup [.ty n,.ty m]) from I.hok a _ ha)
      obtain ⟨cls,dd,data,sl⟩:=o
      simp only at h2 h3
      subst h2 h3
      cases rv with
      | cons g1 rv=>
        cases rv with
        | cons g2 rv=>
          cases rv
          cases (show _=Value.type n from g1)
          cases (show _=Value.type m from g2)
          exact isD2 I hr r1 h1 e fun tk=>⟨.bl b,H,I.tok tk,rfl,q⟩
theorem bools_of {xs:List V} {us:List Value}:∀ {bs:List Bool},xs=bs.map V.bl→Vals xs us→us=bs.map Value.bool:=by
  intro bs e r
  induction bs generalizing xs us with
  |nil=>subst e;cases r;rfl
  | cons b t ih=>
    subst e
    cases r with
    |cons r1 r=>rw [List.map_cons,ih rfl r,(show _=Value.bool b from r1)]
theorem range_all (bs:List Bool):(List.range bs.length).all (fun i=>bs.getD i false)=bs.all id:=by
  induction bs with
  |nil=>rfl
  |cons b t ih=>rw [List.length_cons,List.range_succ_eq_map,List.all_cons,List.all_map,List.all_cons,← ih];rfl
theorem truth_bools {P:Program} {w:World} {A:Around} {bs:List Bool}:TruthOf P w A (fun i v=>((bs.map Value.bool).toArray)[i]?=some v) fun i=>bs.getD i false:=fun i v s Q E hP hQ=>by
  dsimp only at hP hQ
  rw [List.getElem?_toArray,List.getElem?_map] at hP
  cases e:bs[i]? with
  |none=>rw [e] at hP;cases hP
  | some b=>
    rw [e] at hP
    cases hP
    rw [List.getD_eq_getElem?_getD,e] at hQ
    exact wpAny_pure hQ
def rAllB (K:PySem.W.Frag) (f:List Bool→Bool):List V→Hp→VK→Prop:=fun xs H Q=>∃ a bs,xs=[.ref a]∧SqL K H a (bs.map V.bl)∧Q (.bl (f bs)) H
theorem call_allB (hh:X.calm=true):CallR X (.builtin "all") (rAllB X.K fun bs=>bs.all id):=by
  intro pins s σ H xs us Q I r h
  obtain ⟨a,bs,rfl,hq,q⟩:=h
  cases r with
  | cons r1 r=>
    cases r
    cases (show _=Value.ref a from r1)
    obtain ⟨its,rv,p,hz⟩:=I.list hq
    have e:=bools_of rfl rv
    subst e
    refine PySem.call_all_walk (wpAny_pyIter_list p.isList ?_)
    have hne:a≠s.heap.objs.size:=(by obtain ⟨o,ho,_⟩:=p.isList;exact Nat.ne_of_lt (Heap.lt_size ho))
    refine ⟨s.heap.objs.size,_,_,_,_,_,_,rfl,Walks.list (A:=X.A.in1) (I.ok.hd hh) s.heap.objs.size a hne (bs.map Value.bool).toArray,⟨⟨_,Heap.get?_push_size _ rfl,rfl,rfl⟩,?_⟩,truth_bools,fun h' tk hk=>?_⟩
    · obtain ⟨o,ho,hc,n,hd⟩:=p.isList
      exact ⟨o,Heap.get?_push_of_some _ ho,hc,n,hd⟩
    · rw [List.size_toArray,List.length_map,range_all]
      exact ⟨.bl _,H,I.kept fun b o e=>hk b o (by simp;exact Nat.ne_of_lt (Heap.lt_size e)) (Heap.get?_push_of_some _ e),rfl,q⟩
theorem strs_of {us:List Value}:∀ {ys:List Str},Vals (ys.map V.str) us→StrsAre us ys:=by
  intro ys
  induction ys generalizing us with
  |nil=>intro r;cases r;exact .nil
  | cons y t ih=>
    intro r
    cases r with
    | cons r1 r=>
      obtain ⟨tk,e⟩:=(show ∃ t,_=Value.str y t from r1)
      subst e
      exact .cons _ _ (ih r)
def rJoin (K:PySem.W.Frag):V→List V→Hp→VK→Prop:=fun x vs H Q=>∃ z a ys,x=.str z∧vs=[.ref a]∧SqL K H a (ys.map V.str)∧(ys.map (·.length)).sum+ys.length*z.length≤16777216∧Q (.str (Txt.join z ys)) H
theorem mt_join:MtR X "str.join" (rJoin X.K):=by
  intro pins s σ H x vs v us Q I rx rv h
  obtain ⟨z,a,ys,rfl,rfl,hq,hl,q⟩:=h
  obtain ⟨t,e⟩:=(show ∃ t,v=Value.str z t from rx)
  subst e
  cases rv with
  | cons r1 r=>
    cases r
    cases (show _=Value.ref a from r1)
    obtain ⟨its,rs,p,hz⟩:=I.list hq
    exact join_list p.isList (by simpa using strs_of rs) hl fun t' k=>⟨.str _,H,I.tok k,⟨t',rfl⟩,q⟩
def rS0 (f:Str→Bool):V→List V→Hp→VK→Prop:=fun x vs H Q=>∃ z,x=.str z∧vs=[]∧Q (.bl (f z)) H
theorem mt_isascii:MtR X "str.isascii" (rS0 fun x=>x.cps.all (·<128)):=by
  intro pins s σ H x vs v us Q I rx rv h
  obtain ⟨z,rfl,rfl,q⟩:=h
  obtain ⟨t,e⟩:=(show ∃ t,v=Value.str z t from rx)
  subst e
  cases rv
  exact call_gives PySem.F.slot_str_isascii (typeIs_str _ _ _) PySem.F.entry_str_isascii (PySem.F.args_str_isascii_1 _) (gives_str_isascii z t) ⟨.bl _,H,I,rfl,q⟩
theorem mt_isalpha:MtR X "str.isalpha" (rS0 fun x=>x.length > 0 && x.cps.all Unicode.isAlpha):=by
  intro pins s σ H x vs v us Q I rx rv h
  obtain ⟨z,rfl,rfl,q⟩:=h
  obtain ⟨t,e⟩:=(show ∃ t,v=Value.str z t from rx)
  subst e
  cases rv
  exact call_gives PySem.F.slot_str_isalpha (typeIs_str _ _ _) PySem.F.entry_str_isalpha (PySem.F.args_str_isalpha_1 _) (gives_str_isalpha z t) ⟨.bl _,H,I,rfl,q⟩
theorem mt_islower:MtR X "str.islower" (rS0 fun x=>x.cps.any Unicode.isLower && !x.cps.any fun c=>Unicode.isUpper c || Unicode.isTitle c):=by
  intro pins s σ H x vs v us Q I rx rv h
  obtain ⟨z,rfl,rfl,q⟩:=h
  obtain ⟨t,e⟩:=(show ∃ t,v=Value.str z t from rx)
  subst e
  cases rv
  exact call_gives PySem.F.slot_str_islower (typeIs_str _ _ _) PySem.F.entry_str_islower (PySem.F.args_str_islower_1 _) (gives_str_islower z t) ⟨.bl _,H,I,rfl,q⟩
end
structure CompS (osc:Scope) (N:List Str) (scope:Scope) (own:List Str) (js:List Nat) (N':List Str):Prop where
  kind:scope.kind=.function
  nocell:∀ y∈scope.names,y.2≠.cell
  names:∀ y∈scope.names,y.2=.local→scope.names.lookup y.1=some .local
  free:∀ y∈scope.names,y.2=.free→osc.names.lookup y.1=some .cell∨osc.names.lookup y.1=some .free
  nm:N'=own++js.map fun j=>N.getD j Str.empty
  fr:∀ j∈js,j<N.length∧(N.getD j Str.empty,NameKind.free)∈scope.names∧∀ y∈scope.names,y.1=N.getD j Str.empty→y.2=.free
theorem CompScope.of {X:Cx} {osc scope:Scope} {N own N':List Str} {js:List Nat} (h1:X.env.scope=osc) (h2:X.N=N) (h:CompS osc N scope own js N'):CompScope X scope own js N':=by
  subst h1 h2
  exact ⟨h.kind,h.nocell,h.names,h.free,h.nm,fun j hj=>⟨(h.fr j hj).1,(h.fr j hj).2.1,fun k hk=>(h.fr j hj).2.2 _ hk rfl⟩⟩
mutual
def pdMax:PyData→Nat
  |.tuple xs=>max xs.length (pdMaxs xs)
  |.list xs=>max xs.length (pdMaxs xs)
  |_=>0
def pdMaxs:List PyData→Nat
  |[]=>0
  |d::r=>max (pdMax d) (pdMaxs r)
end
theorem pdMax_le {e:PyData}:∀ {es:List PyData},e∈es→pdMax e≤pdMaxs es
  |_::_,.head _=>by simp only [pdMaxs];omega
  |_::r,.tail _ h=>by have:=pdMax_le h;simp only [pdMaxs];omega
theorem pe_ty {X:Cx} {x:Str} {n:String} {pos:Pos} (hg:Gl X x) (hm:X.mg x=none) (hv:bootBuiltins x=some (.type n)) (hn:x ≠ "__name__":=by decide) (hd:(x == ("__debug__" : Str))=false:=by decide):PE X (.Name x pos) (tC (.ty n)):=pe_bltn (v:=.ty n) hg hm hv rfl hn hd
theorem ifT {c:Bool} {A B:Prop} (h:c=true) (q:A):if c=true then A else B:=by rw [if_pos h];exact q
theorem ifF {c:Bool} {A B:Prop} (h:c=false) (q:B):if c=true then A else B:=by rw [if_neg (by rw [h];exact Bool.false_ne_true)];exact q
section
variable {X:Cx} {a b c d:Expr} {ta tb tc td:TE} {pos:Pos}
end
end L2
namespace L2
open PySem PySem.Spec PyProof.Rows PySem.SeqAt
abbrev TF:=Str→St→Hp→VK→Prop
def PF (X:Cx) (es:List Expr) (t:TF):Prop:=
  ∀ (out:Str) (pins:List (Addr×Obj)) (s:Shared) (σ:St) (H:Hp) (Q:VK),Inv X pins σ H s→t out σ H Q→wpAny (model X.prog X.w) X.A (joinParts out (evalEach es X.env)) (EP X pins σ Q) X.xe s
def FmtV (x:V) (y:Str):Prop:=(x=.str y∧y.length≤sizeLine)∨∃ i:Int,x=.int i∧i.natAbs.log2<1920∧y=Str.ofString (toString i)
section
variable {X:Cx} {es:List Expr} {t:TF} {e:Expr} {te:TE} {pos:Pos}
theorem pf_nil:PF X [] (fun out _ H Q=>out.length≤sizeLine∧Q (.str out) H):=fun out pins s σ H Q I h=>joinParts_nil ⟨.str out,H,I.tok _,⟨_,rfl⟩,h.2⟩ h.1
theorem pf_txt {x:Str} {j:Nat} (hr:PF X es t) (hs:evalEach (.Constant (.str x) j pos::es) X.env=eval (.Constant (.str x) j pos) X.env::evalEach es X.env:=by rfl) :
    PF X (.Constant (.str x) j pos::es) (fun out σ H Q=>(out++x).length≤sizeLine∧t (out++x) σ H Q):=by
  intro out pins s σ H Q I h
  rw [hs]
  exact joinParts_cons (Calls.Constant_str ⟨h.1,hr (out++x) pins _ σ H Q (I.tok _) h.2⟩)
theorem pf_val (he:PE X e te) (hr:PF X es t) (hs:evalEach (.FormattedValue e (-1) none pos::es) X.env=eval (.FormattedValue e (-1) none pos) X.env::evalEach es X.env:=by rfl) :
    PF X (.FormattedValue e (-1) none pos::es) (fun out σ H Q=>te σ H fun x H1=>∃ y,FmtV x y∧(out++y).length≤sizeLine∧t (out++y) σ H1 Q):=by
  intro out pins s σ H Q I h
  rw [hs]
  refine joinParts_cons (FormattedValue_plain (thn (he pins s σ H _ I h) fun v s1 ⟨x,H1,I1,r1,y,fm,hl,q⟩=>?_))
  rcases fm with ⟨rfl,hy⟩|⟨i,rfl,hi,rfl⟩
  · obtain ⟨tk,rfl⟩:=r1
    exact formatField_str (fun t' tk=>⟨hl,hr _ pins _ σ H1 Q (I1.tok tk) q⟩) hy
  · obtain ⟨tk,rfl⟩:=r1
    exact formatField_int_small hi ⟨hl,hr _ pins _ σ H1 Q (I1.tok _) q⟩
def tFstr (t:TF):TE:=fun σ H Q=>t Str.empty σ H Q
theorem pe_fstr {e1 e2:Expr} (h:PF X (e1::e2::es) t) (hs:evalEach (e1::e2::es) X.env=eval e1 X.env::eval e2 X.env::evalEach es X.env:=by rfl):PE X (.JoinedStr (e1::e2::es) pos) (tFstr t):=by
  intro pins s σ H Q I hw
  refine JoinedStr_many ?_
  rw [← hs]
  exact h _ pins s σ H Q I hw
end
end L2
namespace L2
open PySem PySem.Spec PyProof.Rows PySem.SeqAt
section
variable {X:Cx} {CX:CXT} {k:Nat} {f C:Addr} {fd:FuncData} {ps:List Str} {sp:Sp} {E:XK}
end
end L2
namespace HT
open PySem PySem.Spec PyProof.Rows
section
variable {prog:Program} {w:World} {A:Around} {E:Value→Shared→Prop} {s:Shared}
theorem tup_slice {t sl:Addr} {items:Array Value} {a b c:Value} {lo step:Int} {n:Nat} {Q:Value→Shared→Prop} (ht:IsTup s.heap t items) (hs:s.heap.IsSliceOf sl a b c)
    (ha:∀ (A':Around) (Q':Int×Int×Nat→Shared→Prop) (E':Value→Shared→Prop),Q' (lo,step,n) s→wpAny (model prog w) A' (Builtin.Slice.sliceApplied (.ref sl) (pure (items.size:Int))) Q' E' s)
    (h1:(lo == 0 && step == 1 && n == items.size)=true→Q (.ref t) s)
    (h2:¬ (lo == 0 && step == 1 && n == items.size)=true→((List.range n).filterMap fun (k:Nat)=>items[(lo+(k:Int)*step).toNat]?).length≤sizeLine∧
      Q (.ref s.heap.objs.size) { s with heap:=s.heap.push { cls:=.type "tuple",data:=.seq ((List.range n).filterMap fun (k:Nat)=>items[(lo+(k:Int)*step).toNat]?).toArray } }) :
    wpAny (model prog w) A (getItem (.ref t) (.ref sl)) Q E s:=by
  obtain ⟨so,hso,hsc,hsd⟩:=id hs
  have hty:s.TypeIs (.ref sl) "slice":=⟨so,hso,hsc⟩
  obtain ⟨to,hto,htc,nt,htd⟩:=id ht
  unfold getItem
  try with_reducible refine wpAny_holding ?_
  first|refine wpAny_bind (wpAny_pure ?_)|skip
  refine wpAny_bind (wpAny_sequenceKey ht.typeIs (by decide) (wpAny_bind (wpAny_callSpecial?_slot (name:=Str.ofString "__getitem__") ht.typeIs PyProof.Rows.slot_tuple_getitem (wpAny_call_entry PyProof.Rows.slot_tuple_getitem ht.typeIs entry_tuple_getitem ?_ (args_tuple_getitem _ _)))))
  show wpAny _ _ (Builtin.Tuple.tupleItemsOf (.ref t) >>= _) _ _ s
  refine wpAny_bind (tupleItemsOf_ ht (wpAny_bind (wpAny_typeOf hty ?_)))
  rw [if_pos (by decide)]
  refine wpAny_bind (ha _ _ _ ?_)
  show wpAny _ _ (if (lo == 0 && step == 1 && n == items.size)=true then _ else _) _ _ s
  by_cases hw:(lo == 0 && step == 1 && n == items.size)=true
  · rw [if_pos hw]
    have hx:wpAny (model prog w) A.in1 (Builtin.Tuple.tupleIsExact (.ref t)) (fun b s'=>b=true∧s'=s) E s:=by
      unfold Builtin.Tuple.tupleIsExact
      refine wpAny_bind (wpAny_typeOf_ref hto ?_)
      rw [htc]
      exact wpAny_pure ⟨rfl,rfl⟩
    first
      |refine wpAny_bind (wpAny_mono hx (fun b s' h'=>?_) fun _ _ z=>z)
      |refine wpAny_bind (wpAny_bind (wpAny_mono hx (fun b s' h'=>?_) fun _ _ z=>z))
    obtain ⟨rfl,rfl⟩:=h'
    rw [if_pos rfl]
    first
      |exact wpAny_bind (wpAny_rule (wpAny_pure ⟨_,rfl,wpAny_pure (h1 hw)⟩))
      |exact wpAny_bind (wpAny_rule (wpAny_bind (wpAny_pure (wpAny_pure ⟨_,rfl,wpAny_pure (h1 hw)⟩))))
  · rw [if_neg hw]
    obtain ⟨hz,hq⟩:=h2 hw
    have hok:sizeOk (.seq ((List.range n).filterMap fun (k:Nat)=>items[(lo+(k:Int)*step).toNat]?).toArray):=by
      show (_:Array Value).size≤sizeLine
      rw [List.size_toArray];exact hz
    first
      |exact wpAny_bind (m:=Builtin.Tuple.tupleExact _) (wpAny_newObj_type (wpAny_pure ⟨_,rfl,wpAny_pure hq⟩) hok)
      |exact wpAny_bind (m:=Builtin.Tuple.tupleExact _) (wpAny_newObj_type (wpAny_bind (wpAny_pure (wpAny_pure ⟨_,rfl,wpAny_pure hq⟩))) hok)
      |exact wpAny_bind (wpAny_bind (m:=Builtin.Tuple.tupleExact _) (wpAny_newObj_type (wpAny_pure (wpAny_pure ⟨_,rfl,wpAny_pure hq⟩)) hok))
end
end HT
namespace L2
open PySem PySem.Spec PyProof.Rows PySem.SeqAt
section
variable {X:Cx}
def rSlW (K:PySem.W.Frag):V→Option Int→Option Int→Hp→VK→Prop:=fun x lo hi H Q=>∃ a xs,x=.ref a∧SqT K H a xs∧(cutV xs lo hi=xs→Q (.ref a) H)∧∀ p,H p=none→Q (.ref p) (upd H p (.tup (cutV xs lo hi)))
theorem sl_tupW:SlR X (rSlW X.K):=by
  intro pins s σ H x v vl vu lo hi sl Q I rx hs pl pu h
  obtain ⟨a,xs,rfl,hx,q1,q2⟩:=h
  by_cases hw:HT.sIx xs.length 0 lo=0∧HT.sIx xs.length xs.length hi=xs.length
  · cases (show v=Value.ref a from rx)
    obtain ⟨its,r,ht,hz⟩:=I.tuple hx
    have hlen:its.toArray.size=xs.length:=by rw [List.size_toArray];exact r.length.symm
    refine ⟨"tuple",_,PyProof.Rows.slot_tuple_getitem.lookup,ht.typeIs,?_⟩
    have e:cutV xs lo hi=xs:=by
      unfold cutV
      rw [hw.1,hw.2,List.drop_zero,Nat.sub_zero,List.take_length]
    refine HT.tup_slice ht hs (fun A' Q' E' q'=>HT.sliceApplied_gen hs pl pu q') (fun _=>⟨.ref a,H,I,rfl,q1 e⟩) fun hn=>(hn ?_).elim
    rw [hlen,hw.1,hw.2]
    simp
  · exact sl_tup pins s σ H _ v vl vu lo hi sl Q I rx hs pl pu ⟨a,xs,rfl,hx,hw,q2⟩
end
end L2
namespace L2
open PySem PySem.Spec PyProof.Rows PySem.SeqAt
section
variable {X:Cx}
end
section
variable {X:Cx} {CX:CXT} {k:Nat} {f C:Addr} {fd:FuncData} {ps:List Str} {sp:Sp} {E:XK}
end
end L2
namespace L2
open PySem PySem.Spec PyProof.Rows PySem.SeqAt
section
variable {X:Cx} {pins:List (Addr×Obj)} {σ:St} {H:Hp} {s:Shared} {h':Heap}
theorem Inv.turnLaid {a:Addr} {o:HO} {t':Nat} {fp:List Addr} (I:Inv X pins σ H s) (k:∀ b u,b∉fp→s.heap.get? b=some u→h'.get? b=some u) (ke:∀ b∈fp,∃ u,h'.get? b=some u) (hf:∀ b∈fp,FpOk X pins H b) (hp:s.heap.objs.size≤a) (new:ObjOk X.prog X.w (upd H a o) h' a o) :
    Inv X pins σ (upd H a o) { s with heap:=h',toks:=t' }:=by
  have hn:H a=none:=I.hok.fresh hp
  have off:∀ b u,H b=some u→b∉fp:=fun b u e z=>by rw [(hf b z).1] at e;cases e
  have up:∀ b u,H b=some u→(upd H a o) b=some u:=fun b u e=>by rw [upd_ne (ne_of_none e hn)];exact e
  refine I.step (g':=s.gens) (d':=s.drawn) (ch:=fp) (fun b hb=>?_) (fun b u _ _ hc e _=>k b u hc e) (fun b u _ _ hc e _=>⟨u.slots,k b u hc e⟩) (fun b u _ e n=>?_) (fun b u hc e=>⟨u,k b u hc e⟩) (fun b xs e=>up b _ e) (fun b u z e=>up b _ e) (fun b ps e=>⟨#[],by rw [up b _ e];simp⟩) (fun m hm=>?_) (fun b u e=>?_) I.bare
  · obtain ⟨_,f1,_,f3,f4,f5⟩:=hf b hb
    exact ⟨f3,f1,f4,f5⟩
  · rw [upd_ne (Nat.ne_of_lt (Nat.lt_of_lt_of_le (Heap.lt_size e) hp))];exact n
  · obtain ⟨u,es,ep,ho,r⟩:=hm
    exact ⟨u,es,ep,k _ u (fun z=>(hf _ z).2.1 rfl) ho,r⟩
  · by_cases hb:b=a
    · subst hb;rw [upd_same] at e;cases e;exact new
    · rw [upd_ne hb] at e
      refine (I.hok b u e).stay (fun c v hc q=>k c v ?_ q) (fun c q=>up c _ q) fun c xs q=>up c _ q
      rcases hc with rfl|z
      · exact off _ u e
      · exact off c _ z
theorem bt_enumerate:bootBuiltins "enumerate" = some (.type "enumerate"):=by decide +kernel
end
end L2
namespace L2
open PySem PySem.Spec PyProof.Rows PySem.SeqAt
def ExcOk (h:Heap) (H:Hp) (g:Heap) (e:Addr) (cls:Value) (dd:Option Addr):Prop:=
  ∃ oe vs,h.get? e=some oe∧oe.cls=cls∧oe.dict=dd∧oe.data=.fields vs∧g.get? e=none∧H e=none∧
    (vs[1]?=some .none∨∃ T oT ts,vs[1]?=some (.ref T)∧T≠e∧h.get? T=some oT∧oT.data=.fields ts∧ts[3]?=some .none∧g.get? T=none∧H T=none)
theorem mapF_dict (f:Array Value→Array Value) (o:Obj):(Obj.mapFields f o).dict=o.dict:=by
  obtain ⟨c,d,da,sl⟩:=o
  cases da <;> rfl
section
variable {M:Model} {A:Around} {E:Value→Shared→Prop} {s:Shared}
theorem entryX {base:Heap} {env:Env} {outer:List Env} {L e:Addr} {oe:Obj} {vs:Array Value} {head:Value} {hadNext:Bool} {Q:Unit→Shared→Prop} (hfr:A.frames=some (env::outer)) (hl:s.heap.FunFrames base (env::outer)) (hf:env.frame=some L)
    (he:s.heap.get? e=some oe) (hd:oe.data=.fields vs) (hsz:1<vs.size)
    (h:∀ (h':Heap) (T:Addr) (oe' oT:Obj) (vs' ts:Array Value),s.heap.objs.size≤T→h'.get? e=some oe'→oe'.cls=oe.cls→oe'.dict=oe.dict→oe'.data=.fields vs'→vs'[1]?=some (.ref T)→h'.get? T=some oT→oT.data=.fields ts→ts[3]?=some .none→
      (∀ b o,b≠e→b∉(env::outer).filterMap (·.frame)→s.heap.get? b=some o→h'.get? b=some o)→(∀ b o,b≠e→s.heap.get? b=some o→∃ sl,h'.get? b=some { o with slots:=sl })→Q () { s with heap:=h' }) :
    wpAny M A (do let a ← frameOf env;let pl ← entryPlaceOf L hadNext;let b ← EntryCells.newEntry head a .none (rawInt L) .none pl;setField (.ref e) 1 b) (fun _ s'=>wpAny M A (setFlight (.ref e) none) Q E s') E s:=by
  have hene:e∉(env::outer).filterMap (·.frame):=fun hm=>by
    obtain ⟨_,o,ho,hnf⟩:=hl.mem hm
    rw [he] at ho
    cases ho
    exact hnf vs hd
  refine wpAny_bind (wpAny_frameOf_fun hfr hl hf fun g hs=>wpAny_bind (wpAny_entryPlaceOf fun pl hpl=>?_))
  unfold EntryCells.newEntry newFields
  refine wpAny_bind (wpAny_newObj_type ?_ (hpl.sizeOk5 _ _ _ _ _))
  have ge:g.get? e=some oe:=(hs.2.1 e hene).trans he
  generalize hto:([head,.ref L,.none,rawInt L,.none]++(if pl.isEmpty then List.replicate 6 Value.none else pl)).toArray=tv
  have t3:3<tv.size:=by
    rw [← hto]
    simp only [List.size_toArray,List.length_append,List.length_cons,List.length_nil]
    omega
  have pe:=Heap.get?_push_of_some (h:=g) { cls:=.type "traceback",dict:=none,data:=.fields tv } ge
  refine wpAny_setField pe hd hsz ?_
  have ne:g.objs.size≠e:=Nat.ne_of_gt (Heap.lt_size ge)
  have d3:=Obj.data_mapFields hd (·.setIfInBounds 1 (Value.ref g.objs.size))
  have e3:=Heap.get?_update_self (Obj.mapFields (·.setIfInBounds 1 (Value.ref g.objs.size))) pe (Obj.isFreed_of_fields d3)
  have T3:=(Heap.get?_update_other (g.push { cls:=.type "traceback",dict:=none,data:=.fields tv }) (Obj.mapFields (·.setIfInBounds 1 (Value.ref g.objs.size))) (Ne.symm ne)).trans (Heap.get?_push_size g rfl)
  unfold setFlight
  refine wpAny_bind (wpAny_field e3 d3 (x:=.ref g.objs.size) (by simp [hsz]) ?_)
  rw [if_pos (show (Value.ref g.objs.size != Value.none)=true by simp)]
  refine wpAny_setField T3 rfl t3 ?_
  have hgz:s.heap.objs.size≤g.objs.size:=Nat.le_of_eq hs.1.symm
  have keep:∀ b o,b≠e→g.get? b=some o→(((g.push { cls:=.type "traceback",dict:=none,data:=.fields tv }).update e (Obj.mapFields (·.setIfInBounds 1 (Value.ref g.objs.size)))).update g.objs.size (Obj.mapFields (·.setIfInBounds 3 ((none:Option Addr).elim Value.none fun f=>rawInt f)))).get? b=some o:=fun b o hb hg=>by
    rw [Heap.get?_update_other _ _ (Nat.ne_of_gt (Heap.lt_size hg)),Heap.get?_update_other _ _ (Ne.symm hb)]
    exact Heap.get?_push_of_some _ hg
  refine h _ g.objs.size _ _ _ _ hgz (by rw [Heap.get?_update_other _ _ ne];exact e3) (Obj.cls_mapFields _ _) (mapF_dict _ _) d3 (by simp [hsz]) (Heap.get?_update_self _ T3 (Obj.isFreed_of_fields (Obj.data_mapFields rfl _))) (Obj.data_mapFields rfl _) (by simp [t3]) (fun b o hb hbf hbo=>keep b o hb ((hs.2.1 b hbf).trans hbo)) fun b o hb hbo=>?_
  obtain ⟨sl,q⟩:=hs.2.2 b o hbo
  exact ⟨sl,keep b _ hb q⟩
end
section
variable {X:Cx} {pins:List (Addr×Obj)} {σ:St} {H:Hp} {s:Shared} {e:Addr} {cls:Value} {dd:Option Addr}
theorem leaveX {A:Around} {Q:Unit→Shared→Prop} {E:Value→Shared→Prop} (I:Inv X pins σ H s) (hst:X.stack=X.env::X.outer) (hfm:X.env.frame=some X.env.locals) (hfr:A.frames=some X.stack) (hex:X.ex=[]) (x:ExcOk s.heap H X.s₀.heap e cls dd)
    (h:∀ h',ExcOk h' H X.s₀.heap e cls dd→Un (frs X.outer) [] X.H₀ H X.s₀.heap h'→HOk X.prog X.w H h'→Q () { s with heap:=h' }):wpAny (model X.prog X.w) A (leaving X.env (.ref e)) Q E s:=by
  have hl:=I.stack
  rw [hst] at hfr hl
  obtain ⟨oe,vs,h1,h2,h3,h4,h5,h6,h7⟩:=x
  have free:∀ b∈(X.env::X.outer).filterMap (·.frame),H b=none:=fun b hb=>I.stkFree b (by rw [hst];exact hb)
  have fin:∀ (h':Heap) (T:Addr) (oe' oT:Obj) (vs' ts:Array Value),X.s₀.heap.get? T=none→T≠e→H T=none→h'.get? e=some oe'→oe'.cls=oe.cls→oe'.dict=oe.dict→oe'.data=.fields vs'→vs'[1]?=some (.ref T)→h'.get? T=some oT→oT.data=.fields ts→ts[3]?=some .none→
      (∀ b o,b≠e→(H b≠none∨∃ o₀,X.s₀.heap.get? b=some o₀)→b∉(X.env::X.outer).filterMap (·.frame)→s.heap.get? b=some o→h'.get? b=some o)→(∀ b o,(∃ o₀,X.s₀.heap.get? b=some o₀)→s.heap.get? b=some o→∃ sl,h'.get? b=some { o with slots:=sl })→Q () { s with heap:=h' }:=by
    intro h' T oe' oT vs' ts hT hTe hTn g1 g2 g3 g4 g5 g6 g7 g8 kp ks
    refine h h' ⟨oe',vs',g1,g2.trans h2,g3.trans h3,g4,h5,h6,.inr ⟨T,oT,ts,g5,hTe,g6,g7,g8,hT,hTn⟩⟩ ?_ ?_
    · have B:=I.base
      rw [hex] at B
      have nl:∀ b o,X.s₀.heap.get? b=some o→b<X.s₀.heap.objs.size:=fun b o z=>Heap.lt_size z
      have ninF:∀ b,b<X.s₀.heap.objs.size→b∉frs X.outer→b∉(X.env::X.outer).filterMap (·.frame):=fun b hb hn hm=>by
        rw [List.filterMap_cons,hfm] at hm
        rcases List.mem_cons.mp hm with rfl|hm
        · exact absurd (Nat.lt_of_lt_of_le hb I.ok.above) (Nat.lt_irrefl _)
        · exact hn hm
      refine ⟨fun b o z n hb hx=>kp b o (fun q=>by subst q;rw [h5] at z;cases z) (.inr ⟨o,z⟩) (ninF b (nl b o z) hb) (B.keep b o z n hb hx),fun b o z n hb hx=>?_,B.free,fun b o z hx=>?_,B.tups,B.frzs,B.tbls⟩
      · obtain ⟨sl,q⟩:=B.slot b o z n hb hx
        obtain ⟨sl',q'⟩:=ks b _ ⟨o,z⟩ q
        exact ⟨sl',q'⟩
      · obtain ⟨o',q⟩:=B.there b o z hx
        obtain ⟨sl',q'⟩:=ks b _ ⟨o,z⟩ q
        exact ⟨_,q'⟩
    · intro b u hb
      refine (I.hok b u hb).stay (fun c v hc q=>kp c v ?_ (.inl ?_) ?_ q) (fun _ q=>q) fun _ _ q=>q
      · rintro rfl
        rcases hc with rfl|z
        · rw [h6] at hb;cases hb
        · rw [h6] at z;cases z
      · rcases hc with rfl|z
        · rw [hb];simp
        · rw [z];simp
      · intro hm
        have:=free c hm
        rcases hc with rfl|z
        · rw [this] at hb;cases hb
        · rw [this] at z;cases z
  unfold leaving noteFrame
  simp only [hfm]
  rcases h7 with h7|⟨T,oT,ts,t1,t2,t3,t4,t5,t6,t7⟩
  · refine wpAny_bind (wpAny_bind (wpAny_field h1 h4 h7 ?_))
    rw [if_neg (by decide)]
    refine entryX hfr hl hfm h1 h4 (Array.getElem?_eq_some_iff.mp h7).1 fun h' T oe' oT vs' ts hT g1 g2 g3 g4 g5 g6 g7 g8 kp ks=>?_
    have hTe:T≠e:=fun q=>by subst q;exact absurd (Nat.lt_of_lt_of_le (Heap.lt_size h1) hT) (Nat.lt_irrefl _)
    exact fin h' T oe' oT vs' ts (Heap.get?_none_of_le (Nat.le_trans I.sz hT)) hTe (I.hok.fresh hT) g1 g2 g3 g4 g5 g6 g7 g8 (fun b o hb _ hm z=>kp b o hb hm z) fun b o hb z=>ks b o (fun q=>by subst q;obtain ⟨_,hb⟩:=hb;rw [h5] at hb;cases hb) z
  · refine wpAny_bind (wpAny_bind (wpAny_field h1 h4 t1 ?_))
    rw [if_pos (show (Value.ref T != Value.none)=true by simp)]
    refine wpAny_bind (wpAny_field t3 t4 t5 ?_)
    rw [if_neg (show ¬ ((Value.none == rawInt X.env.locals)=true) by simp [rawInt])]
    refine wpAny_bind (wpAny_setField t3 t4 (Array.getElem?_eq_some_iff.mp t5).1 ?_)
    have other:∀ b,b≠T→(s.heap.update T (Obj.mapFields (·.setIfInBounds 3 Value.none))).get? b=s.heap.get? b:=fun b hb=>Heap.get?_update_other _ _ (Ne.symm hb)
    have noR:∀ b o,s.heap.get? b=some o→(∀ vs,o.data≠.fields vs)→b≠T:=fun b o hb hnf q=>by
      subst q
      rw [t3] at hb
      cases hb
      exact hnf ts t4
    refine entryX (s:={ s with heap:=s.heap.update T (Obj.mapFields (·.setIfInBounds 3 Value.none)) }) hfr (hl.of_keeps fun b o hb hnf=>⟨o,(other b (noR b o hb hnf)).trans hb,rfl⟩) hfm ((other e (Ne.symm t2)).trans h1) h4 (Array.getElem?_eq_some_iff.mp t1).1 fun h' T' oe' oT' vs' ts' hT g1 g2 g3 g4 g5 g6 g7 g8 kp ks=>?_
    have hT':s.heap.objs.size≤T':=by
      have z:(s.heap.update T (Obj.mapFields (·.setIfInBounds 3 Value.none))).objs.size=s.heap.objs.size:=Heap.size_update _ _ _
      exact Nat.le_trans (Nat.le_of_eq z.symm) hT
    have hTe:T'≠e:=fun q=>by subst q;exact absurd (Nat.lt_of_lt_of_le (Heap.lt_size h1) hT') (Nat.lt_irrefl _)
    refine fin h' T' oe' oT' vs' ts' (Heap.get?_none_of_le (Nat.le_trans I.sz hT')) hTe (I.hok.fresh hT') g1 g2 g3 g4 g5 g6 g7 g8 (fun b o hb hq hm z=>kp b o hb hm ((other b ?_).trans z)) fun b o hb z=>ks b o (fun q=>by subst q;obtain ⟨_,hb⟩:=hb;rw [h5] at hb;cases hb) ((other b ?_).trans z)
    · rintro rfl
      rcases hq with hq|hq
      · exact hq t7
      · obtain ⟨_,hq⟩:=hq
        rw [t6] at hq;cases hq
    · rintro rfl
      obtain ⟨_,hb⟩:=hb
      rw [t6] at hb;cases hb
end
def CX1 (P:Program) (w:World):CXT:=fun outer H s E e s'=>∃ (ea:Addr) (cls:Value) (dd:Option Addr) (H':Hp),e=.ref ea∧s'.os=s.os∧AllBare s'.gens∧Un (frs outer) [] H H' s.heap s'.heap∧HOk P w H' s'.heap∧ExcOk s'.heap H' s.heap ea cls dd∧E cls dd H'
section
variable {P:Program} {w:World} {K:PySem.W.Frag} {mg:Str→Option Value} {base:Heap} {N:List Str} {qual:Str} {scope:Scope} {f:Addr} {cd:Value} {A:Around} {outer:List Env} {s:Shared} {H:Hp} {E:XK}
theorem xe1 {pins:List (Addr×Obj)} {σ:St} {H':Hp} {s':Shared} {e:Addr} {cls:Value} {dd:Option Addr} (I:Inv (cxOf (CX1 P w) P w K mg base N qual scope f cd A outer s H E) pins σ H' s') (x:ExcOk s'.heap H' s.heap e cls dd) (h:E cls dd H') :
    (cxOf (CX1 P w) P w K mg base N qual scope f cd A outer s H E).xe (.ref e) s':=
  leaveX I rfl rfl I.ok.frames rfl x fun h' x' u k=>⟨e,cls,dd,H',rfl,I.os,I.bare,u,k,x',h⟩
end
end L2
namespace L2
open PySem PySem.Spec PyProof.Rows PySem.SeqAt PySem.W
def makesX (K:Frag) (C:Addr) (B newId:String):Bool:=match K.lookup C with
  |some ⟨_,_,.cls cd,sl⟩=>!cd.abstract && !cd.hasDel && (sl.toList[4]?).join == some (.builtin newId) && !cd.mro.isEmpty && cd.mro.contains (.ref C) && cd.mro.contains (.type B) && cd.mro.contains (.type "BaseException") && !cd.mro.contains (.type "AttributeError") && !cd.mro.contains (.type "NameError") &&
      specialIn K (.ref C) "__call__" == some (some (.builtin "type.__call__")) && instIn K (.ref C) (.type "type") == some true
  |_=>false
structure MakesX (M:Model) (h:Heap) (C:Addr) (B newId:String):Prop where
  obj:∃ oc od cd sl,h.get? C=some ⟨oc,od,.cls cd,sl⟩∧cd.abstract=false∧cd.hasDel=false∧cd.mro.isEmpty=false
  made:Looks M h (Bind.madeBy (.ref C)) (some newId)
  base:Looks M h (Bind.staticBase (.ref C)) (.ref C)
  self:Looks M h (isSubtype (.ref C) (.ref C)) true
  isB:Looks M h (isSubtype (.ref C) (.type B)) true
  isE:Looks M h (isSubtype (.ref C) (.type "BaseException")) true
  noA:Looks M h (isSubtype (.ref C) (.type "AttributeError")) false
  noN:Looks M h (isSubtype (.ref C) (.type "NameError")) false
  call:Looks M h (specialOf (.ref C) "__call__") (some (.builtin "type.__call__"))
  typ:Looks M h (isInstance (.ref C) (.type "type")) true
theorem makesX_of {K:Frag} {M:Model} {h:Heap} (X:K.In h) {C:Addr} {B newId:String} (e:makesX K C B newId=true):MakesX M h C B newId:=by
  unfold makesX at e
  split at e
  · rename_i oc od cd sl ho
    simp only [Bool.and_eq_true,Bool.not_eq_true',beq_iff_eq] at e
    obtain ⟨⟨⟨⟨⟨⟨⟨⟨⟨⟨e1,e2⟩,e3⟩,e4⟩,e5⟩,e6⟩,e7⟩,e8⟩,e9⟩,e10⟩,e11⟩:=e
    have hc:clsIn K C=some cd:=by unfold clsIn;rw [ho]
    have hm:Looks M h (mroOf (.ref C)) cd.mro:=(looks_clsIn X hc).andThen .now
    obtain ⟨c,l,hl⟩:∃ c l,cd.mro=c::l:=by
      cases q:cd.mro with
      |nil=>rw [q] at e4;cases e4
      |cons c l=>exact ⟨c,l,rfl⟩
    have made:Looks M h (Bind.madeBy (.ref C)) (some newId):=by
      intro A Q E s k q
      unfold Bind.madeBy
      refine wpAny_bind (hm A _ E s k ?_)
      rw [hl,List.forIn_cons]
      refine wpAny_bind (wpAny_bind (wpAny_bind (wpAny_bind (wpAny_loadPart (k _ _ (X _ _ ho)) (wpAny_pure ?_)))))
      dsimp only
      rw [← Array.getElem?_toList,e3]
      exact wpAny_pure (wpAny_pure (wpAny_pure q))
    have sub:∀ (v:Value) (b:Bool),cd.mro.contains v=b→Looks M h (isSubtype (.ref C) v) b:=fun v b z=>looks_mroIn X (by unfold mroIn;rw [hc,Option.bind_some,if_neg (by rw [e4];decide),z])
    refine ⟨⟨oc,od,cd,sl,X _ _ ho,e1,e2,e4⟩,made,?_,sub _ _ e5,sub _ _ e6,sub _ _ e7,sub _ _ e8,sub _ _ e9,looks_specialIn X e10,looks_instIn X e11⟩
    intro A Q E s k q
    unfold Bind.staticBase
    refine wpAny_bind (hm A _ E s k ?_)
    rw [hl,List.forIn_cons]
    exact wpAny_bind (wpAny_bind (wpAny_bind (made A _ E s k (wpAny_pure (wpAny_pure (wpAny_pure q))))))
  · cases e
abbrev excNew (C t:Addr):Obj:={ cls:=.ref C,data:=.fields #[.ref t,.none,.none,.none,.bool false,.none] }
section
variable {prog:Program} {w:World} {A:Around} {C:Addr} {R:Result→Shared→Prop} {h:Heap} {g:Array GenState} {d:Drawn} {t:Nat} {os:OsState} {B newId initId:String} {bm:List Value}
theorem newX (F:ExcBaseFacts B newId initId bm) {rest:List Value} (Y:MakesX (model prog w) h C B newId) (hrest:rest.length≤sizeLine)
    (hq:R (.ok (.ret (.ref (h.objs.size+1)))) ⟨(h.push { cls:=.type "tuple",data:=.seq rest.toArray }).push (excNew C h.objs.size),g,d,t,os⟩) :
    codeAny (model prog w) A (.call (.builtin newId) ⟨.ref C::rest,[]⟩) R ⟨h,g,d,t,os⟩:=by
  obtain ⟨⟨oc,od,cd,sl,hC,e1,e2,e4⟩,made,base,self,isB,isE,noA,noN,call,typ⟩:=Y
  have hstar:=F.noStar
  have hends:=F.ends
  refine codeAny_call_builtin_code (Code.quiet_builtin _ F.quiet) ?_
  simp only [checkBuiltinCall,F.newKind,F.newSplit,F.newRow]
  have here:Looks (model prog w) h (Bind.madeHere newId (.ref C)) ():=base.andThen (made.andThen (Looks.of_pure (by simp only [Option.map_some,bne_self_eq_false,Bool.false_eq_true,if_false])))
  repeat (first|simp only [bne_self_eq_false,Bool.false_eq_true,if_false]|lk)
  repeat (first|wp_step)
  refine PySem.codeAny_builtinAt F.entry ?_
  unfold Builtin.«BaseException.__new__»
  refine PySem.wpAt_bind ?_
  show PySem.wpAt _ _ _ (stack >>= _) _ _ _
  refine PySem.wpAt_bind (PySem.wpAt_stack fun p below=>PySem.wpAt_of_wpAny ?_)
  wp_walk
  refine PySem.wpAt_of_wpAny ?_
  rw [F.owner]
  have here2:Looks (model prog w) h (Bind.madeHere "BaseException.__new__" (.ref C)) ():=base.andThen (made.andThen (Looks.of_pure (by simp only [Option.map_some,F.canon,bne_self_eq_false,Bool.false_eq_true,if_false])))
  repeat (first|with_reducible refine here2.at ?_|with_reducible refine isB.at ?_|with_reducible refine noA.at ?_|with_reducible refine noN.at ?_|with_reducible refine wpAny_loadPart_at hC ?_|wp_step)
  show R _ _
  rw [Heap.size_push]
  exact hq
theorem makeX_core (F:ExcBaseFacts B newId initId bm) {rest:List Value} {init:Value} (Y:MakesX (model prog w) h C B newId) (hi:Looks (model prog w) h (typeLookup (.ref C) "__init__") (some init)) (hb:∀ self,Looks (model prog w) h (bindSpecial init self) (init,[self])) (hrest:rest.length≤sizeLine)
    (hq:codeAny (model prog w) (A.under (.builtin "type.__call__" ⟨.ref C::rest,[]⟩)) (.call init ⟨.ref (h.objs.size+1)::rest,[]⟩) (InitBack (h.objs.size+1) R) ⟨(h.push { cls:=.type "tuple",data:=.seq rest.toArray }).push (excNew C h.objs.size),g,d,t,os⟩) :
    codeAny (model prog w) A (.call (.ref C) ⟨rest,[]⟩) R ⟨h,g,d,t,os⟩:=by
  have Y':=Y
  obtain ⟨⟨oc,od,cd,sl,hC,e1,e2,e4⟩,made,base,self,isB,isE,noA,noN,call,typ⟩:=Y
  refine codeAny_of_tree ?_
  show wpAny _ _ (callAny (.ref C) _) _ _ _
  refine nd_load hC ?_
  show wpAny _ _ (callAny.viaDunder (.ref C) _) _ _ _
  unfold callAny.viaDunder
  refine wpAny_bind (call.at ?_)
  dsimp only
  rw [tc_bind]
  refine wpAny_bind (wpAny_pure (wpAny_bind (wpAny_pure (wpAny_pure (a:=Fin.again (.call (.builtin "type.__call__") ⟨.ref C::rest,[]⟩)) (And.intro rfl ?_)))))
  refine codeAny_call_builtin_at (Code.quiet_builtin _ (by decide +kernel)) entry_typeCall (check_slot tc_kind tc_split typ (tc_args _ _ _) ?_)
  unfold Builtin.«type.__call__»
  have hm:Looks (model prog w) h (mroOf (.ref C)) cd.mro:=((Looks.ld (part:=none) hC).andThen .now).andThen .now
  repeat (first|simp only [e4,Bool.false_eq_true,if_false]|with_reducible refine wpAny_call ?_|lk)
  refine newX F Y' hrest ?_
  have k:∀ b o,h.get? b=some o→((h.push { cls:=.type "tuple",data:=.seq rest.toArray }).push (excNew C h.objs.size)).get? b=some o:=fun b o e=>Heap.get?_push_of_some _ (Heap.get?_push_of_some _ e)
  have hx:((h.push { cls:=.type "tuple",data:=.seq rest.toArray }).push (excNew C h.objs.size)).get? (h.objs.size+1)=some (excNew C h.objs.size):=by
    have:=Heap.get?_push_size (h.push { cls:=.type "tuple",data:=.seq rest.toArray }) (o:=excNew C h.objs.size) rfl
    rwa [Heap.size_push] at this
  have t1:Looks (model prog w) ((h.push { cls:=.type "tuple",data:=.seq rest.toArray }).push (excNew C h.objs.size)) (typeOf (.ref (h.objs.size+1))) (.ref C):=(Looks.ld hx).andThen .now
  have s1:=self.keeps k
  have i1:=hi.keeps k
  have b1:=(hb (.ref (h.objs.size+1))).keeps k
  unfold isInstance callSpecial? specialOf
  repeat (first|with_reducible refine wpAny_call ?_|lk)
  refine codeAny_mono hq fun r s' z=>?_
  rcases r with e|(v|_|_|_) <;> first|exact z|exact z.elim|skip
  obtain ⟨rfl,z⟩:=z
  exact wpAny_pure (wpAny_pure z)
end
end L2
namespace L2
open PySem PySem.Spec PyProof.Rows PySem.SeqAt PySem.W Builtin.ObjectAttr
def excO (e C:Addr) (dd:Option Addr):HO:=.ext fun h=>∃ a0:Value,h.get? e=some { cls:=.ref C,dict:=dd,data:=.fields #[a0,.none,.none,.none,.bool false,.none] }
def exD (da:Addr) (fs:List (Str×V)):HO:=.ext fun h=>∃ mA,h.Ns1 da mA∧(∀ f,RelO (fs.lookup f) (mA f))∧PySem.Within mA (fs.map (·.1))
theorem excO_ok {P:Program} {w:World} {H:Hp} {h:Heap} {e C:Addr} {dd:Option Addr} {a0:Value} (x:h.get? e=some { cls:=.ref C,dict:=dd,data:=.fields #[a0,.none,.none,.none,.bool false,.none] }):ObjOk P w H h e (excO e C dd):=
  ⟨⟨a0,x⟩,⟨_,x⟩,fun h1 h2 ⟨a,z⟩ k=>⟨a,k _ z⟩⟩
theorem exD_ok {P:Program} {w:World} {H:Hp} {h:Heap} {da:Addr} {fs:List (Str×V)} {mA:Str→Option Value} (x:h.Ns1 da mA) (r:∀ f,RelO (fs.lookup f) (mA f)) (wi:PySem.Within mA (fs.map (·.1))):ObjOk P w H h da (exD da fs):=by
  obtain ⟨o,es,ep,ho,rest⟩:=id x
  refine ⟨⟨mA,x,r,wi⟩,⟨o,ho⟩,fun h1 h2 z k=>?_⟩
  obtain ⟨mB,⟨o',es',ep',ho',rest'⟩,r',wi'⟩:=z
  exact ⟨mB,⟨o',es',ep',k _ ho',rest'⟩,r',wi'⟩
theorem refuse_refs (self:Value) {bm:List Value} (hb:refuseLoop self "__setattr__" bm=pure ()) (hne:bm≠[]):∀ (rs:List Addr),refuseLoop self "__setattr__" (rs.map Value.ref++bm)=pure ()
  |[]=>hb
  | c::r=>by
    rw [List.map_cons,List.cons_append,refuseLoop_ref]
    exact refuse_refs self hb hne r
structure XCls (K:Frag) (C:Addr) (B newId:String):Prop where
  mks:makesX K C B newId=true
  sa:findIn K (.ref C) "__setattr__" = some (some (.builtin "object.__setattr__"))
  cd:∃ (cd:ClassData) (rs:List Addr) (bm:List Value),clsIn K C=some cd∧cd.hasDict=true∧cd.mro=rs.map Value.ref++bm∧bm≠[]∧(∀ self,refuseLoop self "__setattr__" bm=pure ())∧bm.contains (.type "object")=true
  kp:keepIn K (.ref C)=true
  ty:typeIn K (.ref C)=some (.type "type")
section
variable {prog:Program} {w:World} {A:Around} {R:Result→Shared→Prop} {s:Shared} {K:Frag} {x C:Addr} {name:Str}
theorem osaX {ox:Obj} {od:Option Obj} {tk:Tok} {v:Value} {B newId:String} (X:K.In s.heap) (I:InstAt s.heap x ox C od) (XC:XCls K C B newId) (ht:takerIn K C name=some none)
    (h:∀ b,wpAny (model prog w) A.in1 (Builtin.ObjectAttr.storeInOwnDict (.ref x) (.ref C) (.str name tk) name v b) (fun fin s'=>match fin with|.done f=>R (.ok f) s'|.again c'=>c'.quiet=true∧codeAny (model prog w) A c' R s') (fun e s'=>R (.error e) s') s) :
    codeAny (model prog w) A (.call (.builtin "object.__setattr__") ⟨[.ref x,.str name tk,v],[]⟩) R s:=by
  have SF:=PySem.F.store_object
  obtain ⟨cd,rs,bm,hc,hdct,hmro,hne,hrf,hob⟩:=XC.cd
  have ne:cd.mro.isEmpty=false:=by
    rw [hmro]
    cases rs with
    |nil=>cases bm with|nil=>exact absurd rfl hne|cons _ _=>rfl
    |cons _ _=>rfl
  have hcon:cd.mro.contains (.type "object")=true:=by
    rw [hmro,List.contains_eq_mem,decide_eq_true_eq]
    rw [List.contains_eq_mem,decide_eq_true_eq] at hob
    exact List.mem_append_right _ hob
  have sub:Looks (model prog w) s.heap (isInstance (.ref x) (.type "object")) true:=I.type.andThen (looks_mroIn X (by unfold mroIn;rw [hc,Option.bind_some,if_neg (by rw [ne];decide),hcon]))
  refine codeAny_call_builtin SF.slot.plain SF.entry (@check_slot (model prog w) _ _ s "object.__setattr__" "object" "__setattr__" (.ref x) [.str name tk,v] [] _ SF.kind SF.split sub (SF.args (.ref x) (.str name tk) v) ?_)
  obtain ⟨attr,ha,hr⟩:=Option.bind_eq_some_iff.mp ht
  have hm:Looks (model prog w) s.heap (mroOf (.ref C)) cd.mro:=(looks_clsIn X hc).andThen .now
  have L3:Looks (model prog w) s.heap (storeTaker? attr) none:=by
    cases attr with
    |none=>exact .now
    | some a=>
      obtain ⟨b,hb,q⟩:=Option.map_eq_some_iff.mp hr
      refine (looks_takesIn X hb).andThen ?_
      cases b with
      |false=>exact .now
      |true=>cases q
  rw [osa_eq,refuse_eq]
  refine wpAny_bind (wpAny_bind (I.type.here (wpAny_bind (hm.here ?_))))
  rw [hmro,refuse_refs _ (hrf _) hne]
  refine wpAny_pure (wpAny_bind (I.type.here (wpAny_bind ((looks_findIn X ha).here (wpAny_bind (L3.here ?_))))))
  exact h _
end
end L2
namespace L2
open PySem PySem.Spec PyProof.Rows PySem.SeqAt PySem.W Builtin.ObjectAttr
section
variable {prog:Program} {w:World} {A:Around} {E:Value→Shared→Prop} {s:Shared} {K:Frag} {x C:Addr} {name:Str} {v:Value} {tk:Tok} {Q:Fin→Shared→Prop} {vs:Array Value} {sl:Array (Option Value)}
theorem storeX_new {cd:ClassData} {b:Bool} (X:K.In s.heap) (hx:s.heap.get? x=some ⟨.ref C,none,.fields vs,sl⟩) (hc:clsIn K C=some cd) (hd:cd.hasDict=true)
    (h:∀ h',h'.Ns1 s.heap.objs.size (fun y=>if y=name then some v else none)→h'.get? x=some ⟨.ref C,some s.heap.objs.size,.fields vs,sl⟩→(∀ b o,b≠x→s.heap.get? b=some o→h'.get? b=some o)→Q (.done (.ret .none)) { s with heap:=h',toks:=s.toks+1 }) :
    wpAny (model prog w) A (storeInOwnDict (.ref x) (.ref C) (.str name tk) name v b) Q E s:=by
  unfold storeInOwnDict
  refine wpAny_bind (wpAny_pure (wpAny_bind (wpAny_bind (wpAny_loadPart hx (wpAny_bind (Looks.here (looks_clsIn X hc) ?_))))))
  rw [hd]
  have hx1:(s.heap.push { cls:=.type "dict",data:=.dict #[] }).get? x=some ⟨.ref C,none,.fields vs,sl⟩:=Heap.get?_push_of_some _ hx
  have hxs:x≠s.heap.objs.size:=Nat.ne_of_lt (Heap.lt_size hx)
  show wpAny _ _ (do
    let d ← alloc { cls:=Value.type "dict",data:=Data.dict #[] }
    update x fun o=>{ cls:=o.cls,dict:=some d,data:=o.data,slots:=o.slots }
    dictMade (Value.ref C) x d) _ _ _
  refine wpAny_bind (wpAny_alloc' (wpAny_bind (wpAny_update' hx1 ?_)))
  refine wpAny_pure ?_
  have hgd:((s.heap.push { cls:=.type "dict",data:=.dict #[] }).update x fun o=>{ cls:=o.cls,dict:=some s.heap.objs.size,data:=o.data,slots:=o.slots }).get? s.heap.objs.size=some { cls:=.type "dict",data:=.dict #[] }:=(Heap.get?_update_ne _ _ _ _ hxs.symm).trans (Heap.get?_push_at rfl rfl)
  have hnd:((s.heap.push { cls:=.type "dict",data:=.dict #[] }).update x fun o=>{ cls:=o.cls,dict:=some s.heap.objs.size,data:=o.data,slots:=o.slots }).Ns s.heap.objs.size (fun _=>none):=⟨_,#[],_,hgd,rfl,fun e he=>absurd he (by simp),fun _=>rfl⟩
  show wpAny _ _ (storeInDict s.heap.objs.size (.str name tk) name v) _ _ _
  unfold storeInDict newKeyGuard
  refine wpAny_bind (wpAny_pure (wpAny_bind (wpAny_nsSet1 (s:={ s with heap:=_ }) (Heap.Ns1.of_empty hnd) fun h' hn' hs=>?_)))
  obtain ⟨oD,esD,epD,hoD,hdD,hcD⟩:=hn'.count (PySem.Within.cons name v PySem.Within.nil)
  refine wpAny_bind (wpAny_lookBehind hoD (by rw [hdD];exact pastItsLine_dict (Nat.le_trans hcD (by rw [List.length_cons,List.length_nil,sizeLine_eq];omega))) ?_)
  refine wpAny_pure (h h' hn' ?_ fun b o hb hbo=>?_)
  · exact (hs.2 x hxs).trans (Heap.get?_update_self _ hx1 rfl)
  · exact (hs.2 b (Nat.ne_of_lt (Heap.lt_size hbo))).trans ((Heap.get?_update_ne _ _ _ _ hb).trans (Heap.get?_push_of_some _ hbo))
theorem storeX_old {cd:ClassData} {b:Bool} {da:Addr} {mA:Str→Option Value} {ns:List Str} (X:K.In s.heap) (hx:s.heap.get? x=some ⟨.ref C,some da,.fields vs,sl⟩) (hc:clsIn K C=some cd) (hd:cd.hasDict=true) (hn:s.heap.Ns1 da mA) (hw:PySem.Within mA ns) (hz:ns.length<1000)
    (h:∀ h',h'.Ns1 da (fun y=>if y=name then some v else mA y)→Heap.SameBut da s.heap h'→Q (.done (.ret .none)) { s with heap:=h',toks:=s.toks+1 }) :
    wpAny (model prog w) A (storeInOwnDict (.ref x) (.ref C) (.str name tk) name v b) Q E s:=by
  unfold storeInOwnDict
  refine wpAny_bind (wpAny_pure (wpAny_bind (wpAny_bind (wpAny_loadPart hx (wpAny_bind (Looks.here (looks_clsIn X hc) ?_))))))
  rw [hd]
  refine wpAny_pure (a:=some da) ?_
  show wpAny _ _ (storeInDict da (.str name tk) name v) _ _ _
  unfold storeInDict newKeyGuard
  refine wpAny_bind (wpAny_pure (wpAny_bind (wpAny_nsSet1 hn fun h' hn' hs=>?_)))
  obtain ⟨oD,esD,epD,hoD,hdD,hcD⟩:=hn'.count (PySem.Within.cons name v hw)
  refine wpAny_bind (wpAny_lookBehind hoD (by rw [hdD];exact pastItsLine_dict (Nat.le_trans hcD (by rw [List.length_cons,sizeLine_eq];omega))) ?_)
  exact wpAny_pure (h h' hn' hs)
end
section
variable {X:Cx} {pins:List (Addr×Obj)} {σ:St} {H:Hp} {s:Shared} {e C:Addr} {f:Str} {B newId:String} {A:Around} {E:Value→Shared→Prop} {y:V} {u:Value} {Q:Unit→Shared→Prop}
theorem exc_at {dd:Option Addr} (I:Inv X pins σ H s) (he:H e=some (excO e C dd)):∃ a0,s.heap.get? e=some { cls:=.ref C,dict:=dd,data:=.fields #[a0,.none,.none,.none,.bool false,.none] }:=(show ObjOk X.prog X.w H s.heap e (excO e C dd) from I.hok e _ he).1
theorem setX_new (I:Inv X pins σ H s) (he:H e=some (excO e C none)) (XC:XCls X.K C B newId) (ht:takerIn X.K C f=some none) (ry:RelV y u)
    (h:∀ da s',H da=none→Inv X pins σ (upd (upd H e (excO e C (some da))) da (exD da [(f,y)])) s'→Q () s'):wpAny (model X.prog X.w) A (setAttr (.ref e) f u) Q E s:=by
  obtain ⟨a0,hx⟩:=exc_at I he
  have J:InstAt s.heap e _ C none:=⟨hx,rfl,rfl,True.intro⟩
  obtain ⟨cd,rs,bm,hc,hdct,_⟩:=XC.cd
  refine set_plain I.kIn J XC.sa (osaX (s:={ s with toks:=s.toks+1 }) I.kIn J XC ht fun b=>storeX_new (s:={ s with toks:=s.toks+1 }) I.kIn hx hc hdct fun h' hn hx' hk=>?_)
  have fr:H s.heap.objs.size=none:=I.hok.fresh (Nat.le_refl _)
  have nes:e≠s.heap.objs.size:=Nat.ne_of_lt (Heap.lt_size hx)
  refine h s.heap.objs.size _ fr ?_
  have hx1:(s.heap.push emptyDict).get? e=some _:=Heap.get?_push_of_some _ hx
  have g1:(s.heap.push emptyDict).get? s.heap.objs.size=some emptyDict:=Heap.get?_push_size s.heap rfl
  have e3:(s.heap.push emptyDict).Ns s.heap.objs.size (fun _=>none):=⟨emptyDict,#[],_,g1,rfl,(fun e he=>absurd he (by simp)),fun _=>rfl⟩
  have I1:=I.laid (a:=s.heap.objs.size) (o:=exD s.heap.objs.size []) (h':=s.heap.push emptyDict) (t':=s.toks) (fun b u q=>Heap.get?_push_of_some _ q) (Nat.le_refl _) (exD_ok (Heap.Ns1.of_empty e3) (fun _=>True.intro) fun y hy=>absurd rfl hy)
  have hx2:=Heap.get?_update_self (fun o:Obj=>{ o with dict:=some s.heap.objs.size }) hx1 rfl
  have I2:=I1.write (x:=e) (e:=e) (o:=excO e C (some s.heap.objs.size)) (h':=(s.heap.push emptyDict).update e fun o=>{ o with dict:=some s.heap.objs.size }) (t':=s.toks) (by rw [upd_ne nes,he];exact True.intro) (.inl rfl)
    (fun b q hb z=>(Heap.get?_update_ne _ _ _ _ hb).trans z) ⟨_,hx2⟩ (excO_ok hx2)
  have I3:=I2.write (x:=s.heap.objs.size) (e:=s.heap.objs.size) (o:=exD s.heap.objs.size [(f,y)]) (h':=h') (t':=s.toks+1+1) (by rw [upd_ne nes.symm,upd_same];exact True.intro) (.inl rfl) (fun b q hb z=>?_) (let ⟨o,_,_,ho,_⟩:=hn;⟨o,ho⟩)
    (exD_ok hn (fun g=>?_) fun g hg=>?_)
  · have e1:upd (upd (upd H s.heap.objs.size (exD s.heap.objs.size [])) e (excO e C (some s.heap.objs.size))) s.heap.objs.size (exD s.heap.objs.size [(f,y)])=upd (upd H e (excO e C (some s.heap.objs.size))) s.heap.objs.size (exD s.heap.objs.size [(f,y)]):=by
      funext b
      unfold upd
      split
      · rfl
      · split
        · rfl
        · rfl
    rw [e1] at I3
    exact I3
  · by_cases hbe:b=e
    · subst hbe
      have z':some q=some _:=z.symm.trans hx2
      cases z'
      exact hx'
    · have z1:(s.heap.push emptyDict).get? b=some q:=(Heap.get?_update_ne _ _ _ _ hbe).symm.trans z
      have z2:s.heap.get? b=some q:=by
        rcases Heap.get?_push_cases z1 with z|z
        · exact absurd z.1 hb
        · exact z
      exact hk b q hbe z2
  · have e2:List.lookup g [(f,y)]=if g=f then some y else none:=lookup_putF f g y []
    rw [e2]
    by_cases q:g=f
    · rw [if_pos q,if_pos q];exact ry
    · rw [if_neg q,if_neg q];exact True.intro
  · by_cases q:g=f
    · subst q;simp
    · exact absurd (if_neg q) hg
end
end L2
namespace L2
open PySem PySem.Spec PyProof.Rows PySem.SeqAt PySem.W Builtin.ObjectAttr
section
variable {X:Cx} {CX:CXT} {k:Nat} {f C:Addr} {fd:FuncData} {ps:List Str} {sp:Sp} {dvs:List V} {ds:List Value} {E:XK} {B newId initId:String} {bm:List Value}
theorem run_makeX {pins:List (Addr×Obj)} {σ:St} {H:Hp} {s:Shared} {Q:VK} {us:List Value} {vs:List V} (BF:ExcBaseFacts B newId initId bm) (XC:XCls X.K C B newId) (hi:findIn X.K (.ref C) "__init__" = some (some (.ref f))) (hf:isFn X.K (.ref f)=true) (F:FnOk X.prog X.w X.K X.mg X.base CX k f fd ps sp) (hr:Room (k+1) X.A)
    (hb:Binds X.K fd ps ds) (hd:Vals dvs ds) (hx:Passes CX X E) (I:Inv X pins σ H s) (r:Vals vs us) (hz:us.length≤sizeLine)
    (h:∀ e,H e=none→sp (.ref e::(vs++dvs)) (upd H e (excO e C none)) (fun v H2=>v=.non∧Q (.ref e) H2) E) :
    wpAny (model X.prog X.w) X.A (call (.ref C) us) (EP X pins σ Q) X.xe s:=by
  obtain ⟨hh,g,d,t,os⟩:=s
  have hq:=h (hh.objs.size+1) (I.hok.fresh (Nat.le_succ _))
  have hget:((hh.push { cls:=.type "tuple",data:=.seq us.toArray }).push (excNew C hh.objs.size)).get? (hh.objs.size+1)=some (excNew C hh.objs.size):=by
    have:=Heap.get?_push_size (hh.push { cls:=.type "tuple",data:=.seq us.toArray }) (o:=excNew C hh.objs.size) rfl
    rwa [Heap.size_push] at this
  have I2:Inv X pins σ (upd H (hh.objs.size+1) (excO (hh.objs.size+1) C none)) ⟨(hh.push { cls:=.type "tuple",data:=.seq us.toArray }).push (excNew C hh.objs.size),g,d,t,os⟩:=
    I.laid (h':=(hh.push { cls:=.type "tuple",data:=.seq us.toArray }).push (excNew C hh.objs.size)) (t':=t) (fun b u q=>Heap.get?_push_of_some _ (Heap.get?_push_of_some _ q)) (Nat.le_succ _) (excO_ok hget)
  have r2:Vals (V.ref (hh.objs.size+1)::(vs++dvs)) (Value.ref (hh.objs.size+1)::(us++ds)):=.cons rfl (r.append hd)
  have hl:(Value.ref (hh.objs.size+1)::us++ds).length=ps.length:=by
    have e:=r2.length
    rw [F.len _ _ _ _ hq] at e
    exact e.symm
  refine wpAny_call (makeX_core BF (makesX_of I.kIn XC.mks) (looks_findIn I.kIn hi) (fun self=>bind_fn I.kIn self (beq_iff_eq.mp hf)) hz (codeAny_mono (F.run _ X.stack _ _ ⟨Value.ref (hh.objs.size+1)::us,[]⟩ (Value.ref (hh.objs.size+1)::(us++ds)) _ _ E (hr.make C us [])
    (I2.env0.make C us []) (hb _ (Value.ref (hh.objs.size+1)::us) I2.kIn hl) r2 hq) fun r s' hq'=>?_))
  match r,hq' with
  |.error e,hq'=>exact hx pins σ _ _ e s' I2 hq'
  | .ok (.ret u),hq'=>
    obtain ⟨v,H',I3,rv,ev,q3⟩:=I2.after hq'
    subst ev
    exact ⟨rv,⟨V.ref (hh.objs.size+1),H',I3,rfl,q3⟩⟩
def tMakeX (C:Addr) (sp:Sp) (dvs:List V) (E:XK) (t:TA):TE:=fun σ H Q=>t σ H fun vs H1=>∀ e,H1 e=none→sp (.ref e::(vs++dvs)) (upd H1 e (excO e C none)) (fun v H2=>v=.non∧Q (.ref e) H2) E
theorem pe_makeX {x:Str} {p pos:Pos} {e:Expr} {es:List Expr} {t:TA} (BF:ExcBaseFacts B newId initId bm) (XC:XCls X.K C B newId) (hi:findIn X.K (.ref C) "__init__" = some (some (.ref f))) (hf:isFn X.K (.ref f)=true) (F:FnOk X.prog X.w X.K X.mg X.base CX k f fd ps sp) (hr:Room (k+1) X.A)
    (hg:Gl X x) (hm:X.mg x=some (.ref C)) (hb:Binds X.K fd ps ds) (hd:Vals dvs ds) (hx:Passes CX X E) (ha:PA X (e::es) t) (hdb:(x == ("__debug__" : Str))=false:=by decide) (he:starEach (e::es) X.env=(false,eval e X.env)::starEach es X.env:=by rfl) (hpl:(backTo pos (starEach es X.env)).any (·.1)=false:=by rfl) (hle:ps.length≤20:=by decide) :
    PE X (.Call (.Name x p) (e::es) [] pos) (tMakeX C sp dvs E t):=by
  intro pins s σ H Q I h
  refine wpAny_Call_Name_kw (ld_glob I hg hm ?_ hdb)
  refine callWith_K (h₀:=X.base) I.ok.mod.kin XC.kp (thn (ha pos pins s σ H _ I h) fun us s1 ⟨vs,H1,I1,r,q⟩=>⟨I1.kIn,?_⟩) he hpl
  refine run_makeX BF XC hi hf F hr hb hd hx I1 r ?_ q
  have h1:=F.len _ _ _ _ (q (s1.heap.objs.size) (I1.hok.fresh (Nat.le_refl _)))
  rw [List.length_cons,List.length_append] at h1
  have h2:=r.length
  exact Nat.le_trans (show us.length≤20 by omega) (by decide)
end
end L2
namespace L2
open PySem PySem.Spec PyProof.Rows PySem.SeqAt PySem.W Builtin.ObjectAttr
def unt (H:Hp) (a:Addr):Hp:=fun b=>if b=a then none else H b
theorem unt_same {H:Hp} {a:Addr}:unt H a a=none:=if_pos rfl
theorem unt_ne {H:Hp} {a b:Addr} (h:b≠a):unt H a b=H b:=if_neg h
theorem unt_none {H:Hp} {a b:Addr} (h:H b=none):unt H a b=none:=by
  unfold unt
  split
  · rfl
  · exact h
section
variable {X:Cx} {pins:List (Addr×Obj)} {σ:St} {H:Hp} {s:Shared} {e C:Addr} {dd:Option Addr}
theorem Inv.unt (I:Inv X pins σ H s) (he:H e=some (excO e C dd)):Inv X pins σ (L2.unt H e) s:=by
  have up:∀ b u,H b=some u→u≠excO e C dd→L2.unt H e b=some u:=fun b u z hu=>by
    by_cases q:b=e
    · subst q;rw [he] at z;exact absurd (Option.some.inj z).symm hu
    · rw [unt_ne q];exact z
  refine ⟨I.ok,I.os,I.bare,⟨I.base.keep,I.base.slot,fun b o z n hx=>unt_none (I.base.free b o z n hx),I.base.there,fun b xs z=>up b _ (I.base.tups b xs z) (by intro q;cases q),fun b o u z=>up b _ (I.base.frzs b o u z) (by intro q;cases q),fun b ps z=>?_⟩,I.loc,I.cell,unt_none I.free,fun x c z=>unt_none (I.freeC x c z),fun p hp=>?_,fun b u z=>?_,I.len⟩
  · obtain ⟨m,q⟩:=I.base.tbls b ps z
    exact ⟨m,up b _ q (by intro q;cases q)⟩
  · obtain ⟨p1,p2,p3⟩:=I.pin p hp
    exact ⟨p1,unt_none p2,p3⟩
  · by_cases q:b=e
    · subst q;rw [unt_same] at z;cases z
    · rw [unt_ne q] at z
      exact (I.hok b u z).stay (fun c v _ r=>r) (fun c r=>up c _ r (by intro q;cases q)) fun c xs r=>up c _ r (by intro q;cases q)
def tRaise (X:Cx) (B newId:String) (W:XK) (te:TE):TS:=fun _ σ H=>te σ H fun x H1=>∃ e C dd,x=.ref e∧H1 e=some (excO e C dd)∧X.H₀ e=none∧XCls X.K C B newId∧W (.ref C) dd (unt H1 e)
theorem ps_raise {ex:Expr} {pos:Pos} {te:TE} {W:XK} {B newId:String} (he:PE X ex te) (hcalm:X.calm=true) (hex:X.ex=[])
    (hxe:∀ (pins:List (Addr×Obj)) (σ:St) (H':Hp) (s':Shared) (e:Addr) (cls:Value) (dd:Option Addr),Inv X pins σ H' s'→ExcOk s'.heap H' X.s₀.heap e cls dd→W cls dd H'→X.xe (.ref e) s'):PS X (.Raise (some ex) none pos) (tRaise X B newId W te):=by
  intro pins s σ H D I h
  rw [arm_exec_Raise]
  have key:∀ xs:Sem Value,wpAny (model X.prog X.w) X.A xs (EP X pins σ fun x H1=>∃ e C dd,x=.ref e∧H1 e=some (excO e C dd)∧X.H₀ e=none∧XCls X.K C B newId∧W (.ref C) dd (L2.unt H1 e)) X.xe s→wpAny (model X.prog X.w) X.A (raiseStmt X.env (some xs) none) (SP X pins D) X.xe s:=by
    intro xs hxs
    unfold raiseStmt
    refine wpAny_bind (thn hxs fun v s1 ⟨x,H1,I1,r1,e,C,dd,ex',hx,h0,XC,q⟩=>?_)
    subst ex'
    cases (show v=Value.ref e from r1)
    obtain ⟨a0,hg⟩:=exc_at I1 hx
    have Y:=makesX_of (M:=model X.prog X.w) I1.kIn XC.mks
    obtain ⟨⟨oc,od,cd,sl,hC,e1,e2,e4⟩,made,base,self,isB,isE,noA,noN,call,typ⟩:=Y
    have T1:Looks (model X.prog X.w) s1.heap (typeOf (.ref e)) (.ref C):=(Looks.ld hg).andThen .now
    have fin:X.xe (.ref e) s1:=by
      refine hxe pins σ _ s1 e (.ref C) dd (I1.unt hx) ⟨_,_,hg,rfl,rfl,rfl,?_,unt_same,.inl rfl⟩ q
      cases z:X.s₀.heap.get? e with
      |none=>rfl
      | some o=>
        have:=I1.base.free e o z h0 (by rw [hex];simp)
        rw [hx] at this;cases this
    have T2:Looks (model X.prog X.w) s1.heap (typeOf (.ref C)) (.type "type"):=looks_typeIn I1.kIn XC.ty
    have T3:Looks (model X.prog X.w) s1.heap (isInstance (.ref e) (.type "BaseException")) true:=T1.andThen isE
    have hh:X.A.handled=none:=I1.ok.hd hcalm
    clear I1 r1 hxs he h I XC made base self isB noA noN call typ
    obtain ⟨hp,g,d,tk,os⟩:=s1
    repeat (first|with_reducible refine wpAny_loadPart_at hg ?_|with_reducible refine T3.at ?_|with_reducible refine T1.at ?_|with_reducible refine T2.at ?_|wp_step)
    exact wpAny_raiseNew_none hh fin
  first
    |exact wpAny_bind (wpAny_standAt (key _ (wpAny_bind (thn (he pins s σ H _ I h) fun v s1 z=>wpAny_bind (wpAny_standAt (wpAny_pure z))))))
    |(simp only [evalOpt,Option.map];exact wpAny_bind (wpAny_standAt (key _ (wpAny_bind (thn (he pins s σ H _ I h) fun v s1 z=>wpAny_bind (wpAny_standAt (wpAny_pure z)))))))
end
end L2
namespace L2
open PySem PySem.Spec PyProof.Rows PySem.SeqAt PySem.W Builtin.ObjectAttr
section
variable {X:Cx} {pins:List (Addr×Obj)} {σ:St} {H:Hp} {s:Shared} {e C:Addr} {f:Str} {B newId initId:String} {bm:List Value} {A:Around} {E:Value→Shared→Prop} {y:V} {u:Value} {Q:Unit→Shared→Prop}
theorem setX_old {da:Addr} {fs:List (Str×V)} (I:Inv X pins σ H s) (he:H e=some (excO e C (some da))) (hd:H da=some (exD da fs)) (hl:fs.length<1000) (XC:XCls X.K C B newId) (ht:takerIn X.K C f=some none) (ry:RelV y u)
    (h:∀ s',Inv X pins σ (upd H da (exD da (putF f y fs))) s'→Q () s'):wpAny (model X.prog X.w) A (setAttr (.ref e) f u) Q E s:=by
  obtain ⟨a0,hx⟩:=exc_at I he
  obtain ⟨mA,hn,r,wi⟩:=(show ObjOk X.prog X.w H s.heap da (exD da fs) from I.hok da _ hd).1
  obtain ⟨od,hod,_⟩:=lookIn_ns hn
  have J:InstAt s.heap e _ C (some od):=⟨hx,rfl,rfl,hod⟩
  obtain ⟨cd,rs,bm,hc,hdct,_⟩:=XC.cd
  refine set_plain I.kIn J XC.sa (osaX (s:={ s with toks:=s.toks+1 }) I.kIn J XC ht fun b=>storeX_old (s:={ s with toks:=s.toks+1 }) (ns:=fs.map (·.1)) I.kIn hx hc hdct hn wi (by rw [List.length_map];exact hl) fun h' hn' hs=>?_)
  refine h _ (I.write (x:=da) (e:=da) (h':=h') (t':=s.toks+1+1) (by rw [hd];exact True.intro) (.inl rfl) (fun b q hb z=>(hs.2 b hb).trans z) (let ⟨o,_,_,ho,_⟩:=hn';⟨o,ho⟩) (exD_ok hn' (fun g=>?_) fun g hg=>?_))
  · show RelO ((putF f y fs).lookup g) (if g=f then some u else mA g)
    rw [lookup_putF]
    by_cases q:g=f
    · rw [if_pos q,if_pos q];exact ry
    · rw [if_neg q,if_neg q];exact r g
  · by_cases q:g=f
    · rw [q];exact (keys_putF f y fs).1
    · refine (keys_putF f y fs).2 g (wi g fun z=>hg ?_)
      show (if g=f then some u else mA g)=none
      rw [if_neg q];exact z
def sFldX (K:Frag) (B newId:String) (ta tv:TE) (f:Str):TS:=fun D σ H=>tv σ H fun y H1=>ta σ H1 fun x H2=>∃ e C,x=.ref e∧XCls K C B newId∧takerIn K C f=some none∧
  ((H2 e=some (excO e C none)∧∀ da,H2 da=none→D.nx σ (upd (upd H2 e (excO e C (some da))) da (exD da [(f,y)])))∨
    ∃ da fs,H2 e=some (excO e C (some da))∧H2 da=some (exD da fs)∧fs.length<1000∧D.nx σ (upd H2 da (exD da (putF f y fs))))
theorem ps_fldX {o value:Expr} {pos pos':Pos} {ta tv:TE} (ha:PE X o ta) (hv:PE X value tv) (hs:swapsWith value (some (.Attribute o f pos')) pos.line X.env=pure false):PS X (.Assign [.Attribute o f pos'] value pos) (sFldX X.K B newId ta tv f):=by
  intro pins s σ H D I h
  refine plainObj_wpAny_Assign_Attribute (thn (hv pins s σ H _ I h) fun u s1 ⟨y,H1,I1,ry,q⟩=>thn (ha pins s1 σ H1 _ I1 q) fun ov s2 ⟨x,H2,I2,rx,e,C,ex,XC,ht,q2⟩=>?_) hs
  subst ex
  cases (show ov=Value.ref e from rx)
  rcases q2 with ⟨he,q2⟩|⟨da,fs,he,hd,hl,q2⟩
  · exact setX_new I2 he XC ht ry fun da s' hda I3=>⟨σ,_,I3,q2 da hda⟩
  · exact setX_old I2 he hd hl XC ht ry fun s' I3=>⟨σ,_,I3,q2⟩
theorem call_initX (BF:ExcBaseFacts B newId initId bm):CallR X (.builtin initId) (fun xs H Q=>∃ e C dd y,xs=[.ref e,y]∧H e=some (excO e C dd)∧XCls X.K C B newId∧Q .non H):=by
  intro pins s σ H xs us Q I r h
  obtain ⟨e,C,dd,y,rfl,he,XC,q⟩:=h
  cases r with
  | cons r1 r=>
    cases r with
    | cons r2 r=>
      cases r
      rename_i u1 u2
      cases (show u1=Value.ref e from r1)
      obtain ⟨a0,hg⟩:=exc_at I he
      have Y:=makesX_of (M:=model X.prog X.w) I.kIn XC.mks
      have T1:Looks (model X.prog X.w) s.heap (typeOf (.ref e)) (.ref C):=(Looks.ld hg).andThen .now
      have T3:Looks (model X.prog X.w) s.heap (isInstance (.ref e) (.type B)) true:=T1.andThen Y.isB
      have hshort:=BF.noStar
      refine wpAny_call (codeAny_call_builtin BF.init.plain BF.initEntry ?_)
      simp only [checkBuiltinCall,BF.initKind,BF.initSplit,BF.initRow]
      refine wpAny_bind (T3.here ?_)
      simp only [Bool.not_true,Bool.false_eq_true,if_false]
      obtain ⟨oc,od,cd,sl,hC,e1,e2,e4⟩:=Y.obj
      have T2:=Y.typ
      obtain ⟨hp,g,d,tk,os⟩:=s
      unfold Bind.checkArgs
      repeat (first|with_reducible refine wpAny_loadPart_at hg ?_|with_reducible refine wpAny_loadPart_at hC ?_|with_reducible refine T1.at ?_|wp_step)
      have fin:∀ tk',EP X pins σ Q .none ⟨(hp.push { cls:=Value.type "tuple",data:=Data.seq #[u2] }).update e (Obj.mapFields fun x=>x.setIfInBounds 0 (Value.ref hp.objs.size)),g,d,tk',os⟩:=fun tk'=>by
        have hg':hp.get? e=some { cls:=.ref C,dict:=dd,data:=.fields #[a0,.none,.none,.none,.bool false,.none] }:=hg
        have hg1:=Heap.get?_push_of_some (h:=hp) { cls:=Value.type "tuple",data:=Data.seq #[u2] } hg'
        have hg2:=Heap.get?_update_self (Obj.mapFields fun x=>x.setIfInBounds 0 (Value.ref hp.objs.size)) hg1 rfl
        have I1:Inv X pins σ H ⟨hp.push { cls:=Value.type "tuple",data:=Data.seq #[u2] },g,d,tk',os⟩:=I.kept (s:=⟨hp,g,d,tk,os⟩) (t':=tk') fun b o z=>Heap.get?_push_of_some _ z
        have I2:=I1.write (x:=e) (e:=e) (o:=excO e C dd) (h':=(hp.push { cls:=Value.type "tuple",data:=Data.seq #[u2] }).update e (Obj.mapFields fun x=>x.setIfInBounds 0 (Value.ref hp.objs.size))) (t':=tk') (by rw [he];exact True.intro) (.inl rfl) (fun b q hb z=>(Heap.get?_update_ne _ _ _ _ hb).trans z) ⟨_,hg2⟩ (excO_ok (a0:=.ref hp.objs.size) hg2)
        have eH:upd H e (excO e C dd)=H:=by
          funext b
          unfold upd
          split
          · rename_i q;rw [q,he]
          · rfl
        rw [eH] at I2
        exact ⟨.non,H,I2,rfl,q⟩
      cases a0 <;> first|exact wpAny_pure (wpAny_pure (fin _))|exact wpAny_letGo (wpAny_pure (fin _))
end
end L2
namespace L2
open PySem PySem.Spec PyProof.Rows PySem.SeqAt PySem.W Builtin.ObjectAttr
section
variable {X:Cx} {CX:CXT} {k:Nat} {f C CS:Addr} {fd:FuncData} {ps:List Str} {sp:Sp} {dvs:List V} {ds:List Value} {E:XK} {m tn cn:Str} {T id:String} {p pos apos:Pos} {e:Expr} {es:List Expr} {t:TA} {r:List V→Hp→VK→Prop} {mc:Value}
def tCallR (r:List V→Hp→VK→Prop) (t:TA):TE:=fun σ H Q=>t σ H fun vs H1=>r vs H1 Q
theorem pe_typeMeth {pl:Sem Bool} (hg:Gl X tn) (hm:X.mg tn=none) (hv:bootBuiltins tn=some (.type T)) (ht:typeOf (.type T)=pure (.type "type")) (hs:Manifest.isStub T=false) (fc:findCls X.K (.type T) (.type "type") m=some (.val (.builtin id))) (hc:CallR X (.builtin id) r) (ha:PA X (e::es) t) (hh:handedIn (.builtin id)=true:=by rfl)
    (hn:tn ≠ "__name__":=by decide) (hdb:(tn == ("__debug__" : Str))=false:=by decide) (hst:starEach (e::es) X.env=(false,eval e X.env)::starEach es X.env:=by rfl) (hpl:(backTo pos (starEach es X.env)).any (·.1)=false:=by rfl)
    (hte:eval (.Call (.Attribute (.Name tn p) m apos) (e::es) [] pos) X.env=(do
      let ov ← eval (.Name tn p) X.env
      standAt apos.atName
      let (f,first) ← holding [ov] (getMethod ov m pl)
      callWith pos f first (backTo pos (starEach (e::es) X.env)) (backToKw pos (keywordEach [] X.env))):=by rfl) :
    PE X (.Call (.Attribute (.Name tn p) m apos) (e::es) [] pos) (tCallR r t):=by
  intro pins s σ H Q I h
  obtain ⟨mm,F⟩:=I.fr
  refine methodCall_KW (pl:=pl) (ld_blt I hg hm hv (method_type F I.ok.mod.kin ht hs fc hh ?_) hn hdb) hte
  exact callWith_builtin1 (thn (ha pos pins _ σ H _ (I.tok _) h) fun us s1 ⟨vs,H1,I1,r1,q1⟩=>hc pins s1 σ H1 vs us Q I1 r1 q1) hst hpl
theorem pe_clsMeth {pl:Sem Bool} (hg:Gl X cn) (hm:X.mg cn=some (.ref CS)) (sg:specialIn X.K (.ref CS) "__getattribute__" = some (some (.builtin "type.__getattribute__"))) (hr':readsIn X.K CS mc=true) (fc:findCls X.K (.ref CS) mc m=some (.val (.ref f))) (hk:keepIn X.K (.ref f)=true)
    (F:FnOk X.prog X.w X.K X.mg X.base CX k f fd ps sp) (hr:Room k X.A) (hb:Binds X.K fd ps ds) (hd:Vals dvs ds) (hx:Passes CX X E) (ha:PA X (e::es) t) (hdb:(cn == ("__debug__" : Str))=false:=by decide)
    (hst:starEach (e::es) X.env=(false,eval e X.env)::starEach es X.env:=by rfl) (hpl:(backTo pos (starEach es X.env)).any (·.1)=false:=by rfl)
    (hte:eval (.Call (.Attribute (.Name cn p) m apos) (e::es) [] pos) X.env=(do
      let ov ← eval (.Name cn p) X.env
      standAt apos.atName
      let (f,first) ← holding [ov] (getMethod ov m pl)
      callWith pos f first (backTo pos (starEach (e::es) X.env)) (backToKw pos (keywordEach [] X.env))):=by rfl) :
    PE X (.Call (.Attribute (.Name cn p) m apos) (e::es) [] pos) (tCall sp dvs E t):=by
  intro pins s σ H Q I h
  refine methodCall_KW (pl:=pl) (ld_glob I hg hm (method_cls I.kIn sg (cls_value I.kIn hr' fc rfl ?_)) hdb) hte
  refine callWith_K (first:=[]) (h₀:=X.base) I.ok.mod.kin hk (thn (ha pos pins _ σ H _ (I.tok _) h) fun us s1 ⟨vs,H1,I1,r,q⟩=>⟨I1.kIn,?_⟩) hst hpl
  exact run_fn F hr hb hd hx I1 r q
end
end L2
namespace L2
open PySem PySem.Spec PyProof.Rows
section
variable {X:Cx} {pins:List (Addr×Obj)} {σ:List (Option V)} {H H':Hp} {s:Shared} {h':Heap}
theorem Inv.stepN {g':Array GenState} {t':Nat} {d':Drawn} {ch:List Addr} (I:Inv X pins σ H s)
    (hch:∀ b∈ch,X.s₀.heap.get? b=none∧b≠X.env.locals∧(∀ x c,X.env.cells.lookup x=some c→c≠b)∧∀ p∈X.pn++pins,p.1≠b)
    (keep:∀ b o,b≠X.env.locals→b∉X.fs→b∉ch→s.heap.get? b=some o→H b=none→h'.get? b=some o)
    (slot:∀ b o,b≠X.env.locals→b∈X.fs→b∉ch→s.heap.get? b=some o→H b=none→∃ sl,h'.get? b=some { o with slots:=sl }) (free:∀ b o,b∉ch→s.heap.get? b=some o→H b=none→H' b=none)
    (there:∀ b o,b∉ch→s.heap.get? b=some o→∃ o',h'.get? b=some o')
    (tups:∀ b xs,H b=some (.tup xs)→H' b=some (.tup xs)) (frzs:∀ b o u,H b=some (.frz o u)→H' b=some (.frz o u)) (tbls:∀ b ps,H b=some (.tbl ps)→∃ more,H' b=some (.tbl (ps++more)))
    (ns:∀ m,s.heap.Ns X.env.locals m→h'.Ns X.env.locals m) (hok:HOk X.prog X.w H' h') (hg:AllBare g') :
    Inv X pins σ H' { s with heap:=h',gens:=g',drawn:=d',toks:=t' }:=by
  have neL:∀ b o,X.s₀.heap.get? b=some o→b≠X.env.locals:=fun b o e=>Nat.ne_of_lt (Nat.lt_of_lt_of_le (Heap.lt_size e) I.ok.above)
  have neC:∀ b o,X.s₀.heap.get? b=some o→b∉X.ex→b∉ch:=fun b o e hx hb=>by
    rw [(hch b hb).1] at e;cases e
  have cellK:∀ x c,X.env.cells.lookup x=some c→∀ v,s.heap.IsCell c v→h'.IsCell c v:=fun x c e v ⟨o,ho,hd⟩=>by
    have nch:c∉ch:=fun z=>(hch c z).2.2.1 x c e rfl
    by_cases hc:c∈X.fs
    · obtain ⟨sl,q⟩:=slot c o (I.cne x c e) hc nch ho (I.freeC x c e)
      exact ⟨_,q,hd⟩
    · exact ⟨o,keep c o (I.cne x c e) hc nch ho (I.freeC x c e),hd⟩
  refine ⟨I.ok,I.os,hg,⟨fun b o e n hb hx=>?_,fun b o e n hb hx=>?_,fun b o e n hx=>?_,fun b o e hx=>?_,fun b xs e=>tups b xs (I.base.tups b xs e),fun b o xs e=>frzs b o xs (I.base.frzs b o xs e),fun b ps e=>?_⟩,?_,fun x c e=>?_,?_,fun x c e=>?_,fun p hp=>?_,hok,I.len⟩
  · exact keep b o (neL b o e) hb (neC b o e hx) (I.base.keep b o e n hb hx) (I.base.free b o e n hx)
  · obtain ⟨sl,e1⟩:=I.base.slot b o e n hb hx
    obtain ⟨sl',e2⟩:=slot b _ (neL b o e) hb (neC b o e hx) e1 (I.base.free b o e n hx)
    exact ⟨sl',e2⟩
  · obtain ⟨o',e1⟩:=I.base.there b o e hx
    exact free b o' (neC b o e hx) e1 (I.base.free b o e n hx)
  · obtain ⟨o',e1⟩:=I.base.there b o e hx
    exact there b o' (neC b o e hx) e1
  · obtain ⟨m1,e1⟩:=I.base.tbls b ps e
    obtain ⟨m2,e2⟩:=tbls b _ e1
    exact ⟨m1++m2,by rw [e2,Array.append_assoc]⟩
  · obtain ⟨m,hn,hl⟩:=I.loc
    refine ⟨m,ns m hn,fun i x v e1 e2 e3=>?_⟩
    obtain ⟨u,r,l⟩:=hl i x v e1 e2 e3
    refine ⟨u,r,?_⟩
    rcases l with l|⟨k,c,e,z⟩
    · exact .inl l
    · exact .inr ⟨k,c,e,cellK x c e _ z⟩
  · obtain ⟨v,z⟩:=I.cell x c e
    exact ⟨v,cellK x c e v z⟩
  · obtain ⟨m,⟨o,_,_,ho,_⟩,_⟩:=I.loc
    exact free _ o (fun z=>(hch _ z).2.1 rfl) ho I.free
  · obtain ⟨v,o,ho,hd⟩:=I.cell x c e
    exact free c o (fun z=>(hch c z).2.2.1 x c e rfl) ho (I.freeC x c e)
  · obtain ⟨e,n,ne,nf,d⟩:=I.pin p hp
    have nch:p.1∉ch:=fun z=>(hch p.1 z).2.2.2 p hp rfl
    exact ⟨keep p.1 p.2 ne nf nch e n,free p.1 p.2 nch e n,ne,nf,d⟩
end
end L2
namespace L2
open PySem PySem.Spec PyProof.Rows PySem.SeqAt PySem.W Builtin.ObjectAttr
section
variable {X:Cx} {pins:List (Addr×Obj)} {σ σ0:St} {H H0:Hp} {s s0:Shared} {e:Addr} {cls:Value} {dd:Option Addr}
theorem catchX {A:Around} {Q:Unit→Shared→Prop} {E:Value→Shared→Prop} (I0:Inv X pins σ0 H0 s0) (I:Inv X pins σ H s) (hst:X.stack=X.env::X.outer) (hfm:X.env.frame=some X.env.locals) (hfr:A.frames=some X.stack) (hex:X.ex=[]) (hth:∀ b o,s0.heap.get? b=some o→∃ o',s.heap.get? b=some o') (x:ExcOk s.heap H s0.heap e cls dd)
    (h:∀ h',ExcOk h' H s0.heap e cls dd→Inv X pins σ H { s with heap:=h' }→Q () { s with heap:=h' }):wpAny (model X.prog X.w) A (noteFrame (.ref e) X.env) (fun _ s2=>wpAny (model X.prog X.w) A (setFlight (.ref e) none) Q E s2) E s:=by
  have hl:=I.stack
  rw [hst] at hfr hl
  obtain ⟨oe,vs,h1,h2,h3,h4,h5,h6,h7⟩:=x
  have free:∀ b∈(X.env::X.outer).filterMap (·.frame),H b=none:=fun b hb=>I.stkFree b (by rw [hst];exact hb)
  have old:∀ T,s0.heap.get? T=none→X.s₀.heap.get? T=none∧T≠X.env.locals∧(∀ x c,X.env.cells.lookup x=some c→c≠T)∧∀ p∈X.pn++pins,p.1≠T:=fun T hT=>by
    refine ⟨?_,?_,fun x c z q=>?_,fun p hp q=>?_⟩
    · cases z:X.s₀.heap.get? T with
      |none=>rfl
      | some o=>
        obtain ⟨o',q⟩:=I0.base.there T o z (by rw [hex];simp)
        rw [hT] at q;cases q
    · rintro rfl
      obtain ⟨_,⟨o,_,_,ho,_⟩,_⟩:=I0.loc
      rw [hT] at ho;cases ho
    · obtain ⟨v,o,ho,_⟩:=I0.cell x c z
      rw [q,hT] at ho;cases ho
    · have:=(I0.pin p hp).1
      rw [q,hT] at this;cases this
  have fin:∀ (ch:List Addr) (h':Heap) (T:Addr) (oe' oT:Obj) (vs' ts:Array Value),(∀ b∈ch,s0.heap.get? b=none∧H b=none)→s0.heap.get? T=none→T≠e→H T=none→h'.get? e=some oe'→oe'.cls=oe.cls→oe'.dict=oe.dict→oe'.data=.fields vs'→vs'[1]?=some (.ref T)→h'.get? T=some oT→oT.data=.fields ts→ts[3]?=some .none→
      (∀ b o,b∉ch→b∉(X.env::X.outer).filterMap (·.frame)→s.heap.get? b=some o→h'.get? b=some o)→(∀ b o,b∉ch→s.heap.get? b=some o→∃ sl,h'.get? b=some { o with slots:=sl })→Q () { s with heap:=h' }:=by
    intro ch h' T oe' oT vs' ts hch hT hTe hTn g1 g2 g3 g4 g5 g6 g7 g8 kp ks
    refine h h' ⟨oe',vs',g1,g2.trans h2,g3.trans h3,g4,h5,h6,.inr ⟨T,oT,ts,g5,hTe,g6,g7,g8,hT,hTn⟩⟩ ?_
    have ninF:∀ b,b≠X.env.locals→b∉X.fs→b∉(X.env::X.outer).filterMap (·.frame):=fun b hb hn hm=>by
      rw [List.filterMap_cons,hfm] at hm
      rcases List.mem_cons.mp hm with q|hm
      · exact hb q
      · exact hn hm
    refine I.stepN (ch:=ch) (g':=s.gens) (d':=s.drawn) (t':=s.toks) (fun b hb=>old b (hch b hb).1) (fun b o hL hf hc z _=>kp b o hc (ninF b hL hf) z) (fun b o _ _ hc z _=>ks b o hc z) (fun b o _ _ n=>n) (fun b o hc z=>let ⟨sl,q⟩:=ks b o hc z;⟨_,q⟩) (fun _ _ z=>z) (fun _ _ _ z=>z) (fun b ps z=>⟨#[],by rw [z];simp⟩) (fun m hm=>?_) (fun b u hb=>?_) I.bare
    · obtain ⟨o,es,ep,ho,hd,r⟩:=hm
      have hnl:X.env.locals∉ch:=fun z=>(old _ (hch _ z).1).2.1 rfl
      obtain ⟨sl,q⟩:=ks _ o hnl ho
      exact ⟨_,es,ep,q,hd,r⟩
    · refine (I.hok b u hb).stay (fun c v hc q=>kp c v (fun z=>?_) (fun hm=>?_) q) (fun _ q=>q) fun _ _ q=>q
      · have:=(hch c z).2
        rcases hc with rfl|w
        · rw [this] at hb;cases hb
        · rw [this] at w;cases w
      · have:=free c hm
        rcases hc with rfl|w
        · rw [this] at hb;cases hb
        · rw [this] at w;cases w
  have newT:∀ T,s.heap.objs.size≤T→s0.heap.get? T=none∧T≠e∧H T=none:=fun T hT=>by
    refine ⟨?_,fun q=>?_,I.hok.fresh hT⟩
    · cases z:s0.heap.get? T with
      |none=>rfl
      | some o=>
        obtain ⟨o',q⟩:=hth T o z
        exact absurd (Nat.lt_of_lt_of_le (Heap.lt_size q) hT) (Nat.lt_irrefl _)
    · subst q;exact absurd (Nat.lt_of_lt_of_le (Heap.lt_size h1) hT) (Nat.lt_irrefl _)
  unfold noteFrame
  simp only [hfm]
  rcases h7 with h7|⟨T,oT,ts,t1,t2,t3,t4,t5,t6,t7⟩
  · refine wpAny_bind (wpAny_field h1 h4 h7 ?_)
    rw [if_neg (by decide)]
    refine entryX hfr hl hfm h1 h4 (Array.getElem?_eq_some_iff.mp h7).1 fun h' T oe' oT vs' ts hT g1 g2 g3 g4 g5 g6 g7 g8 kp ks=>?_
    obtain ⟨n1,n2,n3⟩:=newT T hT
    exact fin [e] h' T oe' oT vs' ts (fun b hb=>by cases List.mem_singleton.mp hb;exact ⟨h5,h6⟩) n1 n2 n3 g1 g2 g3 g4 g5 g6 g7 g8 (fun b o hb hm z=>kp b o (fun q=>hb (by simp [q])) hm z) fun b o hb z=>ks b o (fun q=>hb (by simp [q])) z
  · refine wpAny_bind (wpAny_field h1 h4 t1 ?_)
    rw [if_pos (show (Value.ref T != Value.none)=true by simp)]
    refine wpAny_bind (wpAny_field t3 t4 t5 ?_)
    rw [if_neg (show ¬ ((Value.none == rawInt X.env.locals)=true) by simp [rawInt])]
    refine wpAny_bind (wpAny_setField t3 t4 (Array.getElem?_eq_some_iff.mp t5).1 ?_)
    have other:∀ b,b≠T→(s.heap.update T (Obj.mapFields (·.setIfInBounds 3 Value.none))).get? b=s.heap.get? b:=fun b hb=>Heap.get?_update_other _ _ (Ne.symm hb)
    have noR:∀ b o,s.heap.get? b=some o→(∀ vs,o.data≠.fields vs)→b≠T:=fun b o hb hnf q=>by
      subst q
      rw [t3] at hb
      cases hb
      exact hnf ts t4
    refine entryX (s:={ s with heap:=s.heap.update T (Obj.mapFields (·.setIfInBounds 3 Value.none)) }) hfr (hl.of_keeps fun b o hb hnf=>⟨o,(other b (noR b o hb hnf)).trans hb,rfl⟩) hfm ((other e (Ne.symm t2)).trans h1) h4 (Array.getElem?_eq_some_iff.mp t1).1 fun h' T' oe' oT' vs' ts' hT g1 g2 g3 g4 g5 g6 g7 g8 kp ks=>?_
    have hT':s.heap.objs.size≤T':=by
      have z:(s.heap.update T (Obj.mapFields (·.setIfInBounds 3 Value.none))).objs.size=s.heap.objs.size:=Heap.size_update _ _ _
      exact Nat.le_trans (Nat.le_of_eq z.symm) hT
    obtain ⟨n1,n2,n3⟩:=newT T' hT'
    refine fin [e,T] h' T' oe' oT' vs' ts' (fun b hb=>?_) n1 n2 n3 g1 g2 g3 g4 g5 g6 g7 g8 (fun b o hb hm z=>kp b o (fun q=>hb (by simp [q])) hm ((other b fun q=>hb (by simp [q])).trans z)) fun b o hb z=>ks b o (fun q=>hb (by simp [q])) ((other b fun q=>hb (by simp [q])).trans z)
    rcases List.mem_cons.mp hb with rfl|hb
    · exact ⟨h5,h6⟩
    · cases List.mem_singleton.mp hb;exact ⟨t6,t7⟩
end
end L2
namespace L2
open PySem PySem.Spec PyProof.Rows PySem.SeqAt PySem.W Builtin.ObjectAttr
theorem upd_id {h:Heap} {a:Addr} {o:Obj} {f:Obj→Obj} (e:h.get? a=some o) (hf:f o=o):h.update a f=h:=by
  obtain ⟨objs,l⟩:=h
  have e':objs[a]?=some o:=by
    unfold Heap.get? at e
    dsimp only at e
    split at e
    · cases e
    · exact e
  show (⟨objs.modify a f,l⟩:Heap)=⟨objs,l⟩
  congr 1
  obtain ⟨hlt,e2⟩:=Array.getElem?_eq_some_iff.mp e'
  refine Array.ext (by simp) fun i h1 h2=>?_
  rw [Array.getElem_modify]
  split
  · rename_i q
    subst q
    rw [e2,hf]
  · rfl
section
variable {X:Cx} {pins:List (Addr×Obj)} {σ σ0:St} {H H0:Hp} {s s0:Shared} {e:Addr} {cls:Value} {dd:Option Addr}
theorem Inv.drop (I:Inv X pins σ H s) (i:Nat):Inv X pins (σ.set i none) H s:=by
  obtain ⟨ok,os,bare,base,⟨m,hn,hl⟩,cell,free,freeC,pin,hok,len⟩:=I
  refine ⟨ok,os,bare,base,⟨m,hn,fun j x v e1 e2 e3=>?_⟩,cell,free,freeC,pin,hok,by simpa using len⟩
  by_cases hj:j=i
  · subst hj
    rw [List.getElem?_set] at e2
    split at e2 <;> simp_all
  · rw [List.getElem?_set_ne (Ne.symm hj)] at e2
    exact hl j x v e1 e2 e3
theorem unbindX {M:Model} {A:Around} {E:Value→Shared→Prop} {i:Nat} {x:Str} {pos:Pos} {Q:Unit→Shared→Prop} (I:Inv X pins σ H s) (hN:X.N.Nodup) (hi:X.N[i]?=some x) (hx:X.env.scope.names.lookup x=some .local)
    (h:∀ s',Inv X pins (σ.set i none) H s'→Q () s'):wpAny M A (do bindName X.env x .none;unbindBehindTheSuite X.env x pos) Q E s:=by
  have hcls:(X.env.scope.kind == .class || (X.env.scope.kind == .module && X.env.locals != X.env.globals))=false:=by rw [I.ok.kind];rfl
  have hiσ:i<σ.length:=by rw [I.len];exact (List.getElem?_eq_some_iff.mp hi).1
  refine wpAny_bind (wpAny_bindName (store_ok I hN hi (.inl hx) (v:=.non) (u:=.none) rfl (fun s1 I1=>?_) (.inr hx)))
  obtain ⟨m,hn,hl⟩:=id I1.loc
  obtain ⟨u,_,lk⟩:=hl i x .non hi (by rw [List.getElem?_set_self hiσ]) (.inl hx)
  have hv:m x=some u:=by
    rcases lk with ⟨_,z⟩|⟨k,_⟩
    · exact z
    · unfold Env.kindOf at k
      rw [hx] at k
      rcases k with k|k <;> cases k
  unfold unbindBehindTheSuite
  refine wpAny_onRaise (wpAny_unbindName_local hx hn hv hcls fun h' u' hn' hs=>?_)
  have I2:=I1.drop i
  rw [List.set_set] at I2
  obtain ⟨ok,os,bare,base,⟨m2,hn2,hl2⟩,cell,free,freeC,pin,hok,len⟩:=id I2
  obtain ⟨oL,_,_,hoL,_⟩:=id hn
  have neL:∀ b o,X.s₀.heap.get? b=some o→b≠X.env.locals:=fun b o e=>Nat.ne_of_lt (Nat.lt_of_lt_of_le (Heap.lt_size e) ok.above)
  refine h _ ⟨ok,os,bare,⟨fun b o e n hb hx=>?_,fun b o e n hb hx=>?_,base.free,fun b o e hx=>?_,base.tups,base.frzs,base.tbls⟩,⟨_,hn',fun j y v' e1 e2 e3=>?_⟩,fun y c e=>?_,free,freeC,fun p hp=>?_,fun b ob e=>?_,len⟩
  · exact (hs.2 b (neL b o e)).trans (base.keep b o e n hb hx)
  · obtain ⟨sl,e1⟩:=base.slot b o e n hb hx
    exact ⟨sl,(hs.2 b (neL b o e)).trans e1⟩
  · obtain ⟨o',e1⟩:=base.there b o e hx
    exact ⟨o',(hs.2 b (neL b o e)).trans e1⟩
  · have hj:j≠i:=fun q=>by
      subst q
      rw [List.getElem?_set_self hiσ] at e2;cases e2
    rw [List.getElem?_set_ne (Ne.symm hj)] at e2
    obtain ⟨u'',r',q⟩:=hl j y v' e1 (by rw [List.getElem?_set_ne (Ne.symm hj)];exact e2) e3
    refine ⟨u'',r',?_⟩
    rcases q with ⟨k,e⟩|⟨k,c,e,z⟩
    · refine .inl ⟨k,?_⟩
      have:y≠x:=fun e=>hj (nodup_ix hN e1 (e ▸ hi))
      simp [this,e]
    · exact .inr ⟨k,c,e,z.sameBut hs (I1.cne y c e)⟩
  · obtain ⟨w',z⟩:=I1.cell y c e
    exact ⟨w',z.sameBut hs (I1.cne y c e)⟩
  · obtain ⟨e,n,ne,nf,d⟩:=pin p hp
    exact ⟨(hs.2 p.1 ne).trans e,n,ne,nf,d⟩
  · refine (hok b ob e).stay (fun c w' hc q=>(hs.2 c ?_).trans q) (fun _ q=>q) fun _ _ q=>q
    rintro rfl
    rcases hc with rfl|hc
    · rw [free] at e;cases e
    · rw [free] at hc;cases hc
theorem setFlightX {M:Model} {A:Around} {Q:Unit→Shared→Prop} {E:Value→Shared→Prop} (x:ExcOk s.heap H s0.heap e cls dd) (h:Q () s):wpAny M A (setFlight (.ref e) none) Q E s:=by
  obtain ⟨oe,vs,h1,h2,h3,h4,h5,h6,h7⟩:=x
  unfold setFlight
  rcases h7 with h7|⟨T,oT,ts,t1,t2,t3,t4,t5,t6,t7⟩
  · refine wpAny_bind (wpAny_field h1 h4 h7 ?_)
    rw [if_neg (by decide)]
    exact wpAny_pure h
  · refine wpAny_bind (wpAny_field h1 h4 t1 ?_)
    rw [if_pos (show (Value.ref T != Value.none)=true by simp)]
    refine wpAny_setField t3 t4 (Array.getElem?_eq_some_iff.mp t5).1 ?_
    have:s.heap.update T (Obj.mapFields (·.setIfInBounds 3 ((none:Option Addr).elim Value.none fun f=>rawInt f)))=s.heap:=by
      refine upd_id t3 ?_
      obtain ⟨c,d,da,sl⟩:=oT
      cases (show da=.fields ts from t4)
      show (⟨c,d,.fields (ts.setIfInBounds 3 .none),sl⟩:Obj)=⟨c,d,.fields ts,sl⟩
      have:ts.setIfInBounds 3 .none=ts:=by
        obtain ⟨hlt,e2⟩:=Array.getElem?_eq_some_iff.mp t5
        refine Array.ext (by simp) fun i h1 h2=>?_
        rw [Array.getElem_setIfInBounds]
        split
        · rename_i q
          subst q
          exact e2.symm
        · rfl
      rw [this]
    rw [this]
    exact h
end
def hCx (X:Cx) (ea:Addr) (ps:List (Addr×Obj)):Cx:={ X with A:=X.A.mark (some (.ref ea)),calm:=false,pn:=X.pn++ps,xe:=fun _ _=>False }
section
variable {X:Cx} {pins:List (Addr×Obj)} {σ σ0:St} {H H0:Hp} {s s0:Shared} {e:Addr} {cls:Value} {dd:Option Addr}
theorem Cx.Ok.into (ok:X.Ok) {ea:Addr} {ps:List (Addr×Obj)}:(hCx X ea ps).Ok:=
  ⟨ok.mod,ok.kind,ok.glob,ok.blt,ok.above,ok.inj,ok.has,ok.cab,(fun h=>nomatch h),ok.frames,ok.stk,ok.exf,ok.bs,ok.bsz,ok.noex,ok.exfs,ok.funs,ok.frf⟩
theorem Inv.into (I:Inv X pins σ H s) {ea:Addr} {ps:List (Addr×Obj)} (hp:∀ p∈ps,s.heap.get? p.1=some p.2∧H p.1=none∧p.1≠X.env.locals∧p.1∉X.fs∧∀ v,p.2.data≠.cell v):Inv (hCx X ea ps) pins σ H s:=by
  refine ⟨I.ok.into,I.os,I.bare,I.base,I.loc,I.cell,I.free,I.freeC,fun p h=>?_,I.hok,I.len⟩
  rcases List.mem_append.mp h with h|h
  · rcases List.mem_append.mp h with h|h
    · exact I.pin p (List.mem_append_left _ h)
    · exact hp p h
  · exact I.pin p (List.mem_append_right _ h)
theorem Inv.outof {ea:Addr} {ps:List (Addr×Obj)} (I:Inv (hCx X ea ps) pins σ H s) (ok:X.Ok):Inv X pins σ H s:=by
  refine ⟨ok,I.os,I.bare,I.base,I.loc,I.cell,I.free,I.freeC,fun p h=>?_,I.hok,I.len⟩
  rcases List.mem_append.mp h with h|h
  · exact I.pin p (List.mem_append_left _ (List.mem_append_left _ h))
  · exact I.pin p (List.mem_append_right _ h)
theorem Inv.handle (I0:Inv X pins σ0 H0 s0) (I:Inv X pins σ H s) (x:ExcOk s.heap H s0.heap e cls dd):∃ ps oe,(e,oe)∈ps∧oe.cls=cls∧oe.dict=dd∧(∃ vs,oe.data=.fields vs)∧Inv (hCx X e ps) pins σ H s∧∀ {σ1 H1 s1},Inv (hCx X e ps) pins σ1 H1 s1→ExcOk s1.heap H1 s0.heap e cls dd:=by
  obtain ⟨oe,vs,h1,h2,h3,h4,h5,h6,h7⟩:=x
  have new:∀ T o vs,s0.heap.get? T=none→s.heap.get? T=some o→H T=none→o.data=.fields vs→s.heap.get? T=some o∧H T=none∧T≠X.env.locals∧T∉X.fs∧∀ v,o.data≠.cell v:=fun T o vs hT ho hn hd=>by
    refine ⟨ho,hn,?_,fun q=>?_,fun v q=>by rw [hd] at q;cases q⟩
    · rintro rfl
      obtain ⟨_,⟨o,_,_,ho,_⟩,_⟩:=I0.loc
      rw [hT] at ho;cases ho
    · obtain ⟨_,o,ho,_⟩:=I0.funs.mem q
      rw [hT] at ho;cases ho
  rcases h7 with h7|⟨T,oT,ts,t1,t2,t3,t4,t5,t6,t7⟩
  · refine ⟨[(e,oe)],oe,List.mem_singleton.mpr rfl,h2,h3,⟨_,h4⟩,I.into fun p hp=>?_,fun {σ1 H1 s1} I1=>?_⟩
    · cases List.mem_singleton.mp hp
      exact new e oe vs h5 h1 h6 h4
    · have p:=I1.pin (e,oe) (List.mem_append_left _ (List.mem_append_right _ (List.mem_singleton.mpr rfl)))
      exact ⟨oe,vs,p.1,h2,h3,h4,h5,p.2.1,.inl h7⟩
  · refine ⟨[(e,oe),(T,oT)],oe,List.mem_cons_self,h2,h3,⟨_,h4⟩,I.into fun p hp=>?_,fun {σ1 H1 s1} I1=>?_⟩
    · rcases List.mem_cons.mp hp with rfl|hp
      · exact new e oe vs h5 h1 h6 h4
      · cases List.mem_singleton.mp hp
        exact new T oT ts t6 t3 t7 t4
    · have p:=I1.pin (e,oe) (List.mem_append_left _ (List.mem_append_right _ List.mem_cons_self))
      have q:=I1.pin (T,oT) (List.mem_append_left _ (List.mem_append_right _ (List.mem_cons_of_mem _ (List.mem_singleton.mpr rfl))))
      exact ⟨oe,vs,p.1,h2,h3,h4,h5,p.2.1,.inr ⟨T,oT,ts,t1,t2,q.1,t4,t5,t6,q.2.1⟩⟩
theorem excMatchC {K:Frag} {P:Program} {w:World} {A:Around} {E:Value→Shared→Prop} {Q:Bool→Shared→Prop} {C Ce:Addr} {B newId:String} {b:Bool} {oe:Obj} (kin:K.In s.heap) (he:s.heap.get? e=some oe) (hcls:oe.cls=.ref Ce) (XC:XCls K C B newId) (hm:mroIn K Ce (.ref C)=some b) (h:Q b s) :
    wpAny (model P w) A (excMatches (.ref e) (.ref C)) Q E s:=by
  have Y:=makesX_of (M:=model P w) kin XC.mks
  obtain ⟨⟨oc,od,cd,sl,hC,_,_,_⟩,_,_,_,_,isE,_,_,_,typ⟩:=Y
  have T1:Looks (model P w) s.heap (typeOf (.ref e)) (.ref Ce):=hcls ▸ (Looks.ld he).andThen .now
  have T2:Looks (model P w) s.heap (typeOf (.ref C)) (.type "type"):=looks_typeIn kin XC.ty
  have T4:Looks (model P w) s.heap (isSubtype (.ref Ce) (.ref C)) b:=looks_mroIn kin hm
  have f:=tc_notTuple
  obtain ⟨hp,g,d,tk,os⟩:=s
  unfold excMatches
  repeat (first|with_reducible refine wpAny_loadPart_at hC ?_|with_reducible refine isE.at ?_|with_reducible refine T4.at ?_|with_reducible refine typ.at ?_|with_reducible refine T1.at ?_|with_reducible refine T2.at ?_|wp_step)
  cases b <;> (wp_walk;exact h)
end
end L2
namespace L2
open PySem PySem.Spec PyProof.Rows PySem.SeqAt PySem.W Builtin.ObjectAttr
abbrev THs:=Ends→Addr→Option Addr→St→Hp→Prop
def PH (X:Cx) (hs:List ExceptHandler) (th:THs):Prop:=
  ∀ (pins:List (Addr×Obj)) (s0:Shared) (σ0:St) (H0:Hp) (s:Shared) (σ:St) (H:Hp) (D:Ends) (ea Ce:Addr) (dd:Option Addr),Inv X pins σ0 H0 s0→Inv X pins σ H s→ExcOk s.heap H s0.heap ea (.ref Ce) dd→th D Ce dd σ H→wpAny (model X.prog X.w) X.A (handleBy (.ref ea) X.env hs) (SP X pins D) X.xe s
def asEnds (i:Nat) (D:Ends):Ends:=⟨fun σ H=>D.nx (σ.set i none) H,D.rt,fun σ H=>D.bk (σ.set i none) H,fun σ H=>D.ct (σ.set i none) H⟩
def tHand (K:Frag) (C:Addr) (B newId:String) (i:Nat) (tb:Addr→Addr→Option Addr→TS) (tr:THs):THs:=fun D Ce dd σ H=>XCls K C B newId∧∃ b,mroIn K Ce (.ref C)=some b∧if b then ∀ ea,tb ea Ce dd (asEnds i D) (σ.set i (some (.ref ea))) H else tr D Ce dd σ H
section
variable {X:Cx}
theorem ph_nil:PH X [] (fun _ _ _ _ _=>False):=fun _ _ _ _ _ _ _ _ _ _ _ _ _ _ h=>h.elim
theorem ph_cons {t:Expr} {n:Str} {b0:Stmt} {body:List Stmt} {pos:Pos} {rest:List ExceptHandler} {C:Addr} {B newId:String} {i:Nat} {tb:Addr→Addr→Option Addr→TS} {tr:THs} (hN:X.N.Nodup) (hi:X.N[i]?=some n) (hx:X.env.scope.names.lookup n=some .local)
    (ht:∀ ea ps,PE (hCx X ea ps) t (tC (.ref C))) (hb:∀ ea oe ps Ce dd,(ea,oe)∈ps→oe.cls=.ref Ce→oe.dict=dd→(∃ vs,oe.data=.fields vs)→PSs (hCx X ea ps) (b0::body) (tb ea Ce dd)) (hr:PH X rest tr) :
    PH X (.ExceptHandler (some t) (some n) (b0::body) pos::rest) (tHand X.K C B newId i tb tr):=by
  intro pins s0 σ0 H0 s σ H D ea Ce dd I0 I x h
  obtain ⟨XC,b,hm,hk⟩:=h
  obtain ⟨ps,oe,hmem,hc,hd,hvs,IH,back⟩:=I0.handle I x
  refine wpAny_handleBy_cons (codeAny_handlers_test (wpAny_mono (ht ea ps pins s σ H (fun v H1=>v=.ref C∧H1=H) IH ⟨rfl,rfl⟩) (fun c s1 z=>?_) fun _ _ z=>z.elim)) (by intro q;cases q)
  obtain ⟨v,H1,I1,r,rfl,rfl⟩:=z
  cases (show c=Value.ref C from r)
  have p:=I1.pin (ea,oe) (List.mem_append_left _ (List.mem_append_right _ hmem))
  refine excMatchC I1.kIn p.1 hc XC hm ?_
  cases b with
  |false=>exact hr pins s0 σ0 H0 s1 σ H1 D ea Ce dd I0 (I1.outof I.ok) (back I1) hk
  | true=>
    refine codeAny_handlers_suite_as (setFlightX (back I1) (store_ok (X:=hCx X ea ps) I1 hN hi (.inl hx) (v:=.ref ea) rfl (fun s2 I2=>wpAny_mono (hb ea oe ps Ce dd hmem hc hd hvs pins s2 _ _ (asEnds i D) I2 (hk ea)) (fun f s3 z=>?_) fun _ _ z=>z.elim) (.inr hx)))
    show wpAny _ X.A _ _ X.xe s3
    cases f with
    | next=>
      obtain ⟨σ',H',I3,q⟩:=z
      exact unbindX (I3.outof I.ok) hN hi hx fun s' I'=>⟨_,_,I',q⟩
    | brk=>
      obtain ⟨σ',H',I3,q⟩:=z
      exact unbindX (I3.outof I.ok) hN hi hx fun s' I'=>⟨_,_,I',q⟩
    | cont=>
      obtain ⟨σ',H',I3,q⟩:=z
      exact unbindX (I3.outof I.ok) hN hi hx fun s' I'=>⟨_,_,I',q⟩
    | ret u=>
      obtain ⟨v,σ',H',I3,r',q⟩:=z
      exact unbindX (I3.outof I.ok) hN hi hx fun s' I'=>⟨v,_,_,I',r',q⟩
end
section
variable {X:Cx}
def tryE (X:Cx) (pins:List (Addr×Obj)) (s0:Shared) (W:Addr→Option Addr→St→Hp→Prop):Value→Shared→Prop:=fun v s=>∃ ea Ce dd σ H,v=.ref ea∧Inv X pins σ H s∧(∀ b o,s0.heap.get? b=some o→∃ o',s.heap.get? b=some o')∧ExcOk s.heap H s0.heap ea (.ref Ce) dd∧W Ce dd σ H
abbrev TSX:=Ends→(Addr→Option Addr→St→Hp→Prop)→St→Hp→Prop
def PSX (X:Cx) (st:List Stmt) (t:TSX):Prop:=
  ∀ (pins:List (Addr×Obj)) (s:Shared) (σ:St) (H:Hp) (D:Ends) (W:Addr→Option Addr→St→Hp→Prop),Inv X pins σ H s→t D W σ H→wpAny (model X.prog X.w) X.A (execs st X.env) (SP X pins D) (tryE X pins s W) s
def tTry (t:TSX) (th:THs):TS:=fun D σ H=>t D (fun Ce dd σ' H'=>th D Ce dd σ' H') σ H
theorem ps_try {body:List Stmt} {h0:ExceptHandler} {hs:List ExceptHandler} {pos:Pos} {t:TSX} {th:THs} (hst:X.stack=X.env::X.outer) (hfm:X.env.frame=some X.env.locals) (hex:X.ex=[]) (hb:PSX X body t) (hh:PH X (h0::hs) th):PS X (.Try body (h0::hs) [] [] pos) (tTry t th):=by
  intro pins s σ H D I h
  refine wpAny_Try_except (wpAny_mono (hb pins s σ H D _ I h) (fun f s1 z=>?_) fun v s1 z=>?_)
  · cases f with
    |next=>exact wpAny_execs_nil z
    |brk=>exact z
    |cont=>exact z
    |ret u=>exact z
  · obtain ⟨ea,Ce,dd,σ1,H1,rfl,I1,th1,x,q⟩:=z
    refine catchX I I1 hst hfm I.ok.frames hex th1 x fun h' x' I2=>hh pins s σ H _ σ1 H1 D ea Ce dd I I2 x' q
end
end L2
namespace L2
open PySem PySem.Spec PyProof.Rows PySem.SeqAt PySem.W Builtin.ObjectAttr
section
variable {X:Cx}
end
end L2
namespace L2
open PySem PySem.Spec PyProof.Rows PySem.SeqAt PySem.W Builtin.ObjectAttr
structure XGet (K:Frag) (C:Addr) (f:Str):Prop where
  ga:findIn K (.ref C) "__getattribute__" = some (some (.builtin "BaseException.__getattribute__"))
  gh:findIn K (.ref C) "__getattr__" = some none
  hd:hasDictIn K C=true
  na:findIn K (.ref C) f=some none
  be:mroIn K C (.type "BaseException")=some true
section
variable {prog:Program} {w:World} {A:Around} {E:Value→Shared→Prop} {s:Shared} {K:Frag} {x C:Addr} {ox:Obj} {od:Option Obj} {name:Str} {expr:Bool} {Q:Value→Shared→Prop}
theorem getX {v:Value} (X:K.In s.heap) (I:InstAt s.heap x ox C od) (G:XGet K C name) (hf:findObj K C od name=some (.value v)) (hh:handedIn v=true) (h:Q v { s with toks:=s.toks+1 }):wpAny (model prog w) A (getAttr (.ref x) name expr) Q E s:=by
  obtain ⟨hp,g,d,t,os⟩:=s
  have L0:=I.type (M:=model prog w)
  have L1:=looks_findIn (M:=model prog w) X G.ga
  have L2:=looks_findIn (M:=model prog w) X G.gh
  have L3:=looks_find (M:=model prog w) X I hf
  have LB:Looks (model prog w) hp (isInstance (.ref x) (.type "BaseException")) true:=L0.andThen (looks_mroIn X G.be)
  have f3:=F.excAttr_ValueError.ga.bind (.ref x)
  have hx0:(expr && onTheHeap (Value.builtin "BaseException.__getattribute__"))=false:=by cases expr <;> rfl
  have hx2:(Value.builtin "BaseException.__getattribute__" == Value.builtin "object.__getattribute__")=false:=by decide +kernel
  have hx1:(onTheHeap (Value.ref C) && Value.builtin "BaseException.__getattribute__" == Value.builtin "object.__getattribute__")=false:=by rw [hx2];rfl
  unfold getAttr getAttrBy
  refine wpAny_bind (wpAny_mkText (wpAny_holding (wpAny_bind (L0.at (wpAny_bind (L1.at ?_))))))
  dsimp only
  rw [if_neg (by rw [hx1];decide)]
  unfold getAttrByItsOwn hookBefore
  rw [if_pos (show onTheHeap (Value.ref C)=true from rfl)]
  refine wpAny_bind (L2.at ?_)
  have key:∀ R:Result→Shared→Prop,R (.ok (.ret v)) ⟨hp,g,d,t+1,os⟩→codeAny (model prog w) A (.call (.builtin "BaseException.__getattribute__") ⟨[.ref x,.str name t],[]⟩) R ⟨hp,g,d,t+1,os⟩:=fun R hR=>by
    refine codeAny_call_builtin F.excAttr_ValueError.ga.plain F.entry_bexc_ga (check_slot (i:="BaseException.__getattribute__") (owner:="BaseException") (n:="__getattribute__") (by decide +kernel) (by decide +kernel) LB (F.args_bexc_ga _ _) ?_)
    refine wpAny_bind (wpAny_pure (wpAny_bind (wpAny_pure (wpAny_bind (L0.at (wpAny_bind (L3.at ?_)))))))
    exact wpAny_pure hR
  have done:wpAny (model prog w) A (handedOut v) Q E ⟨hp,g,d,t+1,os⟩:=by rw [handedOut_of hh];exact wpAny_pure h
  clear L0 L1 L2 L3 LB hf I G X
  repeat (any_goals (first|assumption|wp_step))
  exact key _ done
end
def tXat (K:Frag) (ea C:Addr) (dd:Option Addr) (ta:TE) (f:Str):TE:=fun σ H Q=>ta σ H fun x H1=>∃ da fs v,x=.ref ea∧dd=some da∧H1 da=some (exD da fs)∧XGet K C f∧fs.lookup f=some v∧Q v H1
section
variable {X:Cx} {e:Expr} {f:Str} {pos:Pos} {ta:TE} {ea C:Addr} {oe:Obj} {dd:Option Addr}
theorem pe_xat (hm:(ea,oe)∈X.pn) (hc:oe.cls=.ref C) (hdct:oe.dict=dd) (hd:∃ vs,oe.data=.fields vs) (he:PE X e ta) (hb:attributeBase e f X.env (eval e X.env)=eval e X.env:=by rfl):PE X (.Attribute e f pos) (tXat X.K ea C dd ta f):=by
  intro pins s σ H Q I h
  refine attr_of hb (thn (he pins s σ H _ I h) fun u s1 ⟨x,H1,I1,rx,da,fs,v,ex,ed,hH,G,l,q⟩=>?_)
  subst ex
  subst ed
  obtain rfl:u=Value.ref ea:=rx
  have p:=(I1.pin (ea,oe) (List.mem_append_left _ hm)).1
  obtain ⟨⟨mA,hn,r,wi⟩,_,_⟩:=I1.hok da _ hH
  obtain ⟨u,hu,ru⟩:=RelO.some_of (v:=v) (o:=mA f) (by rw [← l];exact r f)
  obtain ⟨od,ho,hl⟩:=lookIn_ns hn
  obtain ⟨vs,hvs⟩:=hd
  have J:PySem.W.InstAt s1.heap ea oe C (some od):=⟨p,hc,by unfold notCls;rw [hvs],by rw [hdct];exact ho⟩
  exact getX I1.kIn J G (findObj_own G.hd G.na rfl (by rw [hl,hu])) (handed_of ru) ⟨v,H1,I1.tok _,ru,q⟩
end
end L2
namespace L2
open PySem PySem.Spec PyProof.Rows
end L2
namespace L2
open PySem PySem.Spec PyProof.Rows
section
variable {P:Program} {w:World} {K:PySem.W.Frag} {mg:Str→Option Value} {base:Heap}
theorem Fun.ok1 {CX:CXT} {x qual:Str} {st:Stmt} {f:Addr} {fd:FuncData} {N ps:List Str} {k:Nat} {sp:Sp} (F:Fun K x qual st f fd) (S:FnScope N ps (defScope st)) (len:∀ vs H Q E,sp vs H Q E→vs.length=ps.length)
    (hbody:∀ (cdv:Value) (A:Around) (outer:List Env) (s:Shared) (H:Hp) (vs:List V) (Q:VK) (E:XK),Room k (A.deeper (envOfC qual (defScope st) s.heap.objs.size f cdv))→sp vs H Q E→
      ∃ t,PSs (cxOf CX P w K mg base N qual (defScope st) f cdv A outer s H E) (defBody st) t∧t { nx:=fun _ H'=>Q .non H',rt:=Q } (start N vs) H):FnOk P w K mg base CX (k+1) f fd ps sp:=by
  obtain ⟨oc,od,kV,doc,pm,an,cdv,ct,osl,rfl,lk,hcd⟩:=F.ex
  exact fn_of lk hcd S len fun A outer s H vs Q E hr hsp=>hbody cdv A outer s H vs Q E hr hsp
end
section
variable {X:Cx} {e:Expr} {f:Str} {pos:Pos} {ta:TE} {ea C:Addr} {oe:Obj} {ps:List (Addr×Obj)} {dd:Option Addr}
theorem pe_xatH (hm:(ea,oe)∈ps) (hc:oe.cls=.ref C) (hdct:oe.dict=dd) (hd:∃ vs,oe.data=.fields vs) (he:PE (hCx X ea ps) e ta) (hb:attributeBase e f X.env (eval e X.env)=eval e X.env:=by rfl):PE (hCx X ea ps) (.Attribute e f pos) (tXat X.K ea C dd ta f):=
  pe_xat (X:=hCx X ea ps) (List.mem_append_right _ hm) hc hdct hd he hb
end
end L2
namespace L2
open PySem PySem.Spec PyProof.Rows PySem.W
section
variable {P:Program} {w:World} {K:Frag} {mg:Str→Option Value} {base:Heap} {N:List Str} {qual:Str} {scope:Scope} {f:Addr} {cd:Value} {cl:List (Str×Addr)} {A:Around} {outer:List Env} {s:Shared} {H:Hp} {E:XK}
end
end L2
namespace L2
open PySem PySem.Spec PyProof.Rows PySem.W
section
variable {X:Cx} {pins:List (Addr×Obj)} {σ:St} {H:Hp} {s:Shared} {h':Heap} {P c':Addr} {ps more:Array Value} {qual:Str}
end
end L2
namespace L2
open PySem PySem.Spec PyProof.Rows PySem.W
section
variable {X:Cx} {CX:CXT} {k:Nat} {f C:Addr} {fd:FuncData} {ps:List Str} {sp:Shared→List Env→Sp} {E:XK} {x:Str} {p pos:Pos} {e:Expr} {es:List Expr} {t:TA}
end
end L2
namespace L2
open PySem PySem.Spec PyProof.Rows
end L2
namespace L2
open PySem PySem.Spec PyProof.Rows PySem.W
end L2
namespace L2
open PySem PySem.Spec PyProof.Rows PySem.SeqAt
section
variable {X:Cx}
def rInsert:V→List V→Hp→VK→Prop:=fun x vs H Q=>∃ (l:Addr) (xs:List V) (k:Nat) (y:V),x=.ref l∧vs=[.int k,y]∧H l=some (.lst xs)∧k≤xs.length∧xs.length<1000000∧Q .non (upd H l (.lst (xs.take k++y::xs.drop k)))
theorem mt_insert:MtM X "list.insert" rInsert:=by
  intro pins s σ H x vs v us Q I rx rv h
  obtain ⟨l,xs,k,y,rfl,rfl,hH,hk,hz,q⟩:=h
  cases rx
  cases rv with
  |cons r1 rv=>
   cases rv with
   |cons ru rv=>
    cases rv
    rename_i u
    obtain ⟨t,rfl⟩:=r1
    obtain ⟨z,its,n,r,hl,e⟩:=I.lstM hH
    have big:1000000≤sizeLine:=by decide
    have fit:¬ (!Builtin.List.listFitsIndex (k:Int))=true:=by
      rw [fitsIndex_both (by omega) (by omega)]
      decide
    have hsz:its.toArray.size≤sizeLine:=by rw [List.size_toArray];omega
    generalize hi:(k:Int)=i at fit
    refine call_meets F.slot_list_insert ⟨_,e,rfl⟩ F.entry_list_insert (F.args_list_insert_3 (.ref l) (.int i t) u) (AutoListH.list_insert_list_int_val_1 l its.toArray n i t u fit hsz) ⟨e,?_⟩
    subst hi
    have rt:Vals (xs.take k) (its.take k)∧Vals (xs.drop k) (its.drop k):=by
      clear hz q e hH hk hl z hsz fit
      induction r generalizing k with
      |nil=>rw [List.take_nil,List.take_nil,List.drop_nil,List.drop_nil];exact ⟨.nil,.nil⟩
      | cons a b ih=>
        cases k with
        |zero=>exact ⟨.nil,.cons a b⟩
        |succ k=>exact ⟨.cons a (ih (k:=k)).1,(ih (k:=k)).2⟩
    refine ⟨.non,_,I.lset (its':=its.take k++u::its.drop k) hH e ?_ (rt.1.append (.cons ru rt.2)) ?_,rfl,q⟩
    · have h1:min (k:Int).toNat its.toArray.size=k:=by rw [List.size_toArray,Int.toNat_natCast];omega
      show ((its.toArray.extract 0 (if (k:Int)<0 then ((k:Int)+((its.toArray.size:Nat):Int)).toNat else min (k:Int).toNat its.toArray.size)).push u++its.toArray.extract (if (k:Int)<0 then ((k:Int)+((its.toArray.size:Nat):Int)).toNat else min (k:Int).toNat its.toArray.size))=_
      rw [if_neg (by omega),h1]
      apply Array.ext'
      simp
      exact List.take_of_length_le (by rw [List.length_drop];omega)
    · rw [List.length_append,List.length_cons,List.length_take,List.length_drop]
      omega
end
end L2
namespace L2
open PySem PySem.Spec PyProof.Rows PySem.SeqAt
def Its (x:Str):It:=⟨fun i _=>i<x.cps.size,fun i H v H'=>H'=H∧∃ c,x.cps[i]?=some c∧v=.str ⟨#[c]⟩,fun i _=>x.cps.size≤i⟩
theorem turn_str {P:Program} {w:World} {K:PySem.W.Frag} {tg:Expr} (x:Str) (t:Tok) (it:Addr):Turn P w K tg (Its x) [it] it (fun i h=>h.IsStrIter it "str_ascii_iterator" x t i) where
  mem:=by simp
  obj:=fun i h st b hb=>by
    have e:b=it:=by simpa using hb
    subst e
    obtain ⟨o,e,c,d⟩:=st
    exact ⟨o,e,fun v z=>by rw [d] at z;cases z⟩
  keep:=fun i h h' st k=>let ⟨o,e,r⟩:=st;⟨o,k it (by simp) o e,r⟩
  item:=by
    intro X hP hw hK hc i pins s σ H E I hf st hg
    subst hP hw hK
    obtain ⟨f0,f1,f2,f3,f4,f5⟩:=hf it (by simp)
    have hg':i<x.cps.size:=hg
    have hx:x.cps[i]?=some (x.cps[i]'hg'):=Array.getElem?_eq_getElem hg'
    refine wpAny_pyNext_ascii_item st hx fun h' st' sb=>?_
    have I1:Inv X pins σ H { s with heap:=h',toks:=s.toks+1 }:=I.turned (t':=s.toks+1) (fun b o hb e=>(sb.2 b hb).trans e) f0 f1 f3 f4 f5
    obtain ⟨o,e,c,d⟩:=id st'
    exact ⟨_,rfl,go_of (s:={ s with heap:=h',toks:=s.toks+1 }) e c d (by decide) ⟨.str ⟨#[x.cps[i]'hg']⟩,H,I1,⟨_,rfl⟩,⟨rfl,_,hx,rfl⟩,st',fun b hb=>(hf b hb).1⟩⟩
  done:=by
    intro X hP hw hK hc i pins s σ H E I hf st hg
    subst hP hw hK
    obtain ⟨f0,f1,f2,f3,f4,f5⟩:=hf it (by simp)
    have hx:x.cps[i]?=none:=Array.getElem?_eq_none hg
    exact wpAny_pyNext_ascii_end (I.ok.hd hc) st hx fun h' eb=>⟨rfl,I.turned (t':=s.toks) (fun b o hb e=>eb b o hb e) f0 f1 f3 f4 f5⟩
  self:=fun _ _ _ _ _ st h=>wpAny_pyIter_striter_ascii st h
section
variable {X:Cx} {tg:Expr}
def iStr (tl:TE):TI:=fun σ H R=>tl σ H fun v H1=>∃ x,v=.str x∧x.cps.all (·<128)=true∧R (Its x) H1
theorem pi_str {l:Expr} {tl:TE} (hl:PE X l tl):PI X tg l (iStr tl):=by
  intro pins s σ H R I h
  refine thn (hl pins s σ H _ I h) fun v s1 ⟨y,H1,I1,r1,x,e,ha,q⟩=>?_
  subst e
  obtain ⟨t,rfl⟩:=r1
  refine wpAny_pyIter_ascii ha ?_
  refine ⟨s1.heap.objs.size,[s1.heap.objs.size],_,_,H1,rfl,I1.kept (t':=s1.toks) fun b o e=>Heap.get?_push_of_some _ e,turn_str x t _,⟨_,Heap.get?_push_size _ rfl,rfl,rfl⟩,fun b hb=>?_,q⟩
  have e:b=s1.heap.objs.size:=by simpa using hb
  subst e
  exact I1.fpOk (Nat.le_refl _) (I1.hok.fresh (Nat.le_refl _))
end
theorem comp_str {x:Str} {g:TG} {te:TE} {F:List V→Hp→Prop} {σ0:St} {H0:Hp} (Pv:Nat→List V→St→Hp→Prop) (hn:x.cps.size≤sizeLine) (h0:Pv 0 [] σ0 H0)
    (hs:∀ i c ys σ H,x.cps[i]?=some c→ys.length=i→Pv i ys σ H→∀ N:List V→St→Hp→Prop,(∀ ys' σ' H',ys'.length=i+1→Pv (i+1) ys' σ' H'→N ys' σ' H')→g (.str ⟨#[c]⟩) σ H fun σ2 H2=>te σ2 H2 fun y H3=>N (ys++[y]) σ2 H3)
    (hd:∀ ys σ H,ys.length=x.cps.size→Pv x.cps.size ys σ H→F ys H) :
    ∃ W:Nat→Nat→List V→St→Hp→Prop,(∃ m,W 0 m [] σ0 H0)∧CTurn (Its x) g tYes te F W:=by
  refine ⟨fun i m ys σ H=>m=x.cps.size-i∧i≤x.cps.size∧ys.length=i∧Pv i ys σ H,⟨x.cps.size,by simp,Nat.zero_le _,rfl,h0⟩,?_⟩
  rintro i m ys σ H ⟨rfl,hi,hl,p⟩
  by_cases hlt:i<x.cps.size
  · refine .inr ⟨hlt,by omega,fun v H' y=>?_⟩
    obtain ⟨e,c,hc,y⟩:=y
    subst e y
    exact hs i c ys σ _ hc hl p (fun ys' σ' H'=>∃ m',m'<x.cps.size-i∧m'=x.cps.size-(i+1)∧i+1≤x.cps.size∧ys'.length=i+1∧Pv (i+1) ys' σ' H') fun ys' σ' H' hl' q=>⟨x.cps.size-(i+1),by omega,rfl,hlt,hl',q⟩
  · have e:i=x.cps.size:=by omega
    subst e
    exact .inl ⟨Nat.le_refl _,hd ys σ H hl p⟩
end L2
namespace L2
open PySem PySem.Spec PyProof.Rows PySem.SeqAt
section
variable {X:Cx}
end
end L2
namespace L2
open PySem PySem.Spec PyProof.Rows PySem.SeqAt
section
variable {prog:Program} {w:World} {A:Around} {E:Value→Shared→Prop} {s:Shared} {l:Addr} {x y:Value}
end
section
variable {X:Cx} {pos:Pos}
end
end L2
namespace L2
open PySem PySem.Spec PyProof.Rows PySem.SeqAt
section
variable {X:Cx} {CX:CXT} {k:Nat} {f C:Addr} {fd:FuncData} {ps ks:List Str} {sp:Sp} {E:XK} {x m:Str} {p pos apos kpos:Pos} {e o:Expr} {es:List Expr} {kws:List Keyword} {te ta:TE} {t tk:TA}
variable {g:List Value→List Value→List Value} {gV:List V→List V→List V}
end
end L2
namespace L2
open PySem PySem.Spec PyProof.Rows PySem.W
end L2
namespace L2
open PySem PySem.Spec PyProof.Rows PySem.W
end L2
namespace L2
open PySem PySem.Spec PyProof.Rows
section
variable {X:Cx} {scope:Scope} {own:List Str} {js:List Nat} {N':List Str} {wi:TI} {g:TG} {tt:TT} {tk tv:TE} {ke ve tg iter:Expr} {ifs:List Expr} {pos:Pos}
end
end L2
namespace L2
open PySem PySem.Spec PyProof.Rows PySem.SeqAt
theorem len1 {α:Type} {us:List α} (h:us.length=1):∃ a,us=[a]:=List.length_eq_one_iff.mp h
theorem len2 {α:Type} {us:List α} (h:us.length=2):∃ a b,us=[a,b]:=by
  cases us with
  |nil=>cases h
  | cons a r=>
    obtain ⟨b,rfl⟩:=len1 (us:=r) (by simpa using h)
    exact ⟨a,b,rfl⟩
theorem len3 {α:Type} {us:List α} (h:us.length=3):∃ a b c,us=[a,b,c]:=by
  cases us with
  |nil=>cases h
  | cons a r=>
    obtain ⟨b,c,rfl⟩:=len2 (us:=r) (by simpa using h)
    exact ⟨a,b,c,rfl⟩
end L2
namespace L2
open PySem PySem.Spec PyProof.Rows
end L2
namespace L2
open PySem PySem.Spec PyProof.Rows
section
variable {X:Cx}
end
end L2
namespace L2
open PySem PySem.Spec PyProof.Rows
end L2
namespace L2
open PySem PySem.Spec PyProof.Rows PySem.SeqAt
section
variable {σ:St} {H:Hp} {ta tb tc:TE} {t u:TT} {x y z v:V} {r r':R2} {k k':Bool} {f:TF} {m n:Nat}
end
end L2
namespace L2
open PySem PySem.Spec PyProof.Rows PySem.SeqAt
variable {X:Cx}
section
variable {σ:St} {H:Hp} {ta tb:TE} {k k':Bool} {x y:V}
end
end L2
namespace L2
open PySem PySem.Spec PyProof.Rows PySem.SeqAt
section
variable {X:Cx}
end
end L2
namespace L2
open PySem PySem.Spec PyProof.Rows PySem.SeqAt
section
variable {X:Cx}
end
end L2
namespace L2
open PySem PySem.Spec PyProof.Rows PySem.SeqAt
section
variable {X:Cx}
end
end L2
namespace L2
open PySem PySem.Spec PyProof.Rows
section
variable {X:Cx} {pins:List (Addr×Obj)} {σ:St} {H:Hp} {s:Shared}
end
section
variable {X:Cx} {scope:Scope} {own:List Str} {js:List Nat} {N':List Str} {wi:TI} {g:TG} {tt:TT} {te:TE} {elt tg iter:Expr} {ifs:List Expr} {pos:Pos}
end
end L2
namespace L2
open PySem
end L2
namespace L2
open PySem PySem.Spec PyProof.Rows PySem.SeqAt
section
variable {prog:Program} {w:World} {A:Around} {E:Value→Shared→Prop} {s:Shared}
end
end L2
namespace L2
open PySem PySem.Spec PyProof.Rows PySem.SeqAt
section
variable {prog:Program} {w:World} {A:Around} {E:Value→Shared→Prop} {s:Shared}
end
end L2
namespace L2
open PySem PySem.Spec PyProof.Rows PySem.SeqAt
end L2
namespace L2
open PySem PySem.Spec PyProof.Rows PySem.SeqAt
variable {X:Cx}
end L2
namespace L2
open PySem PySem.Spec PyProof.Rows PySem.W PyProof.V
section
variable {X:Cx} {pins:List (Addr×Obj)} {σ:St} {H:Hp} {s:Shared} {a:Addr} {D:List (Str×PyData)}
end
end L2
namespace L2
open PySem PySem.Spec PyProof.Rows PySem.SeqAt PySem.Builtin PySem.Builtin.Str
def sub (x:Str) (a b:Nat):Str:=⟨((x.cps.toList.drop a).take (b-a)).toArray⟩
theorem idx_clip (a b len:Nat):strSliceIndices (some (a:Int)) (some (b:Int)) 1 len=strSliceIndices (some ((min a len:Nat):Int)) (some ((min b len:Nat):Int)) 1 len:=by
  have h1:¬ ((a:Int)<0):=by omega
  have h2:¬ ((b:Int)<0):=by omega
  have h3:¬ (((min a len:Nat):Int)<0):=by omega
  have h4:¬ (((min b len:Nat):Int)<0):=by omega
  have e1:max (0:Int) (min (a:Int) (len:Int))=max (0:Int) (min ((min a len:Nat):Int) (len:Int)):=by omega
  have e2:max (0:Int) (min (b:Int) (len:Int))=max (0:Int) (min ((min b len:Nat):Int) (len:Int)):=by omega
  simp only [strSliceIndices,h1,h2,h3,h4,if_false,show ((1:Int) > 0)=True from by simp,if_true]
  rw [e1,e2]
theorem idx_none {a b len:Nat} (h:b<a) (ha:a≤len):strSliceIndices (some (a:Int)) (some (b:Int)) 1 len=[]:=by
  have h1:¬ ((a:Int)<0):=by omega
  have h2:¬ ((b:Int)<0):=by omega
  have e1:max (0:Int) (min (a:Int) (len:Int))=a:=by omega
  have e2:max (0:Int) (min (b:Int) (len:Int))=b:=by omega
  simp only [strSliceIndices,sliceRange,h1,h2,if_false,e1,e2,show ((1:Int) > 0)=True from by simp,if_true]
  rw [if_neg (by omega)]
  rfl
theorem idx_pick (x:Str) (a b:Nat):(strSliceIndices (some (a:Int)) (some (b:Int)) 1 x.length).filterMap (x.cps[·]?)=(x.cps.toList.drop a).take (b-a)∧(strSliceIndices (some (a:Int)) (some (b:Int)) 1 x.length).length=((x.cps.toList.drop a).take (b-a)).length:=by
  have lx:x.cps.toList.length=x.length:=by simp [Str.length]
  rw [idx_clip]
  by_cases h:min a x.length≤min b x.length
  · rw [StrLaws.sliced_plain x h (Nat.min_le_right _ _),StrLaws.strSliceIndices_plain h (Nat.min_le_right _ _),List.length_map,List.length_range,List.length_take,List.length_drop,lx]
    refine ⟨?_,by omega⟩
    by_cases ha:a≤x.length
    · rw [Nat.min_eq_left ha]
      by_cases hb:b≤x.length
      · rw [Nat.min_eq_left hb]
      · rw [Nat.min_eq_right (by omega),List.take_of_length_le (by rw [List.length_drop];omega),List.take_of_length_le (by rw [List.length_drop];omega)]
    · rw [Nat.min_eq_right (by omega),List.drop_of_length_le (by omega),List.drop_of_length_le (by omega),List.take_nil,List.take_nil]
  · rw [idx_none (by omega) (Nat.min_le_right _ _)]
    have:b-a=0:=by omega
    rw [this,List.take_zero]
    exact ⟨rfl,rfl⟩
theorem slice_nat (x:Str) (a b:Nat):Txt.slice x (some (a:Int)) (some (b:Int))=sub x a b:=by
  obtain ⟨h1,h2⟩:=idx_pick x a b
  have lx:x.cps.toList.length=x.length:=by simp [Str.length]
  unfold Txt.slice sub
  split
  · rename_i h
    have h:(strSliceIndices (some (a:Int)) (some (b:Int)) 1 x.length).length=x.length:=by simpa using h
    have e:(x.cps.toList.drop a).take (b-a)=x.cps.toList:=by
      refine List.Sublist.eq_of_length ((List.take_sublist _ _).trans (List.drop_sublist _ _)) ?_
      rw [← h2,h,lx]
    rw [e]
  · rw [h1]
section
variable {X:Cx}
end
end L2
namespace L2
open PySem PySem.Spec PyProof.Rows PySem.SeqAt
section
variable {X:Cx}
theorem call_intT:CallR X (.type "int") (fun xs H Q=>∃ x n,xs=[.str x]∧PySem.intText? x=some n∧x.length≤640∧Q (.int n) H):=by
  intro pins s σ H xs us Q I r h
  obtain ⟨x,n,rfl,e,l,q⟩:=h
  obtain ⟨u,rfl,ru⟩:=vals1 r
  obtain ⟨t,rfl⟩:=ru
  exact PySem.W.KIN.call_text e l ⟨.int n,H,I.tok _,⟨_,rfl⟩,q⟩
end
open PySem.NumText in
theorem num_digits (m:Nat):AllDigits ((Nat.toDigits 10 m).map Char.toNat)∧(Nat.toDigits 10 m).map Char.toNat≠[]:=by
  refine ⟨fun c hc=>?_,fun e=>?_⟩
  · obtain ⟨ch,hch,e⟩:=List.mem_map.mp hc
    have r:=digit_range (Nat.isDigit_of_mem_toDigits (by decide) (by decide) hch)
    rw [← e]
    exact r
  · have h:=toDigits_len_ge 10 m
    rw [List.map_eq_nil_iff.mp e] at h
    exact absurd h (by decide)
open PySem.NumText in
theorem neg_signs (m:Nat):(PySem.Str.ofString (toString (Int.negSucc m))).cps.toList=45::(Nat.toDigits 10 (m+1)).map Char.toNat:=by
  rw [signs_ofString]
  show (("-"++Nat.repr (m+1):String)).toList.map Char.toNat=_
  rw [String.toList_append,Nat.toList_repr]
  rfl
theorem num_parts (i:Int):∃ ds:List Nat,(∀ c∈ds,48≤c∧c≤57)∧ds≠[]∧ds=(PySem.Str.ofString (toString ((i.natAbs:Nat):Int))).cps.toList∧((PySem.Str.ofString (toString i)).cps.toList=ds∨(PySem.Str.ofString (toString i)).cps.toList=45::ds)∧((PySem.Str.ofString (toString i)).length≤4300→PySem.intText? (PySem.Str.ofString (toString i))=some i):=by
  cases i with
  | ofNat m=>
    obtain ⟨h1,h2⟩:=num_digits m
    have e:=PySem.W.KIN.signs_num m
    refine ⟨_,h1,h2,e.symm,.inl e,fun hl=>?_⟩
    have:=PySem.intText_digits (x:=PySem.Str.ofString (toString (Int.ofNat m))) (by rw [show (Int.ofNat m)=((m:Nat):Int) from rfl,e];exact h1) (by rw [show (Int.ofNat m)=((m:Nat):Int) from rfl,e];exact h2) hl
    rw [this,show (Int.ofNat m)=((m:Nat):Int) from rfl,e,PySem.W.KIN.val_back]
  | negSucc m=>
    obtain ⟨h1,h2⟩:=num_digits (m+1)
    have e:=neg_signs m
    refine ⟨_,h1,h2,(PySem.W.KIN.signs_num (m+1)).symm,.inr e,fun hl=>?_⟩
    have:=PySem.intText_neg e h1 h2 hl
    rw [this,PySem.W.KIN.val_back]
    rfl
end L2
namespace L2
open PySem PySem.Spec PyProof.Rows PySem.SeqAt
section
variable {X:Cx}
end
end L2
namespace L2
open PySem PySem.Spec PyProof.Rows PySem.SeqAt PySem.Builtin PySem.Builtin.Str
def bnd (d n:Nat):Option Int→Nat
  |none=>d
  |some i=>(max 0 (min (if i<0 then i+n else i) n)).toNat
theorem clip_range (lo hi:Option Int) (len:Nat):strSliceIndices lo hi 1 len=sliceRange ((bnd 0 len lo:Nat):Int) ((bnd len len hi:Nat):Int) 1:=by
  have key:∀ (d:Nat) (i:Int),max (0:Int) (min (if i<0 then i+(len:Int) else i) (len:Int))=((bnd d len (some i):Nat):Int):=by
    intro d i
    show _=(((max 0 (min (if i<0 then i+(len:Int) else i) (len:Int))).toNat:Nat):Int)
    generalize (if i<0 then i+(len:Int) else i)=j
    omega
  cases lo with
  | none=>
    cases hi with
    |none=>rfl
    |some j=>rw [← key len j];rfl
  | some i=>
    cases hi with
    |none=>rw [← key 0 i];rfl
    |some j=>rw [← key 0 i,← key len j];rfl
theorem bnd_nat {d n a:Nat} (h:a≤n):bnd d n (some (a:Int))=a:=by
  unfold bnd
  simp only
  rw [if_neg (by omega)]
  omega
theorem bnd_le {d n:Nat} (o:Option Int) (h:d≤n):bnd d n o≤n:=by
  cases o with
  |none=>exact h
  | some i=>
    show (max 0 (min (if i<0 then i+(n:Int) else i) (n:Int))).toNat≤n
    omega
theorem idx_opt (lo hi:Option Int) (len:Nat):strSliceIndices lo hi 1 len=strSliceIndices (some ((bnd 0 len lo:Nat):Int)) (some ((bnd len len hi:Nat):Int)) 1 len:=by
  rw [clip_range,clip_range (some _),bnd_nat (bnd_le lo (Nat.zero_le _)),bnd_nat (bnd_le hi (Nat.le_refl _))]
theorem slice_opt (x:Str) (lo hi:Option Int):Txt.slice x lo hi=sub x (bnd 0 x.length lo) (bnd x.length x.length hi):=by
  rw [← slice_nat]
  unfold Txt.slice
  rw [idx_opt lo hi]
theorem bnd_end {d n a:Nat} (h:n≤a):bnd d n (some (a:Int))=n:=by
  unfold bnd
  simp only
  rw [if_neg (by omega)]
  omega
section
variable {X:Cx}
def rSlO:V→Option Int→Option Int→Hp→VK→Prop:=fun x lo hi H Q=>∃ z:Str,x=.str z∧z.length≤sizeLine∧Q (.str (sub z (bnd 0 z.length lo) (bnd z.length z.length hi))) H
theorem sl_strO:SlR X rSlO:=by
  intro pins s σ H x v vl vu lo hi sl Q I rx hs pl pu h
  obtain ⟨z,rfl,hz,q⟩:=h
  obtain ⟨t,rfl⟩:=rx
  rw [← slice_opt] at q
  cases pl with
  | none=>
    cases pu with
    |none=>exact ⟨"str",_,F.slot_str_getitem.lookup,typeIs_str _ _ _,wpAny_getItem_str_slice (l:=none) (u:=none) (st:=none) hs rfl (post_val_or_str ⟨Nat.le_trans (Txt.slice_le z none none) hz,fun t' k=>⟨.str _,H,I.tok _,⟨_,rfl⟩,q⟩⟩)⟩
    |int j uj=>exact ⟨"str",_,F.slot_str_getitem.lookup,typeIs_str _ _ _,wpAny_getItem_str_slice (l:=none) (u:=some (j,uj)) (st:=none) hs rfl (post_val_or_str ⟨Nat.le_trans (Txt.slice_le z none (some j)) hz,fun t' k=>⟨.str _,H,I.tok _,⟨_,rfl⟩,q⟩⟩)⟩
  | int i ui=>
    cases pu with
    |none=>exact ⟨"str",_,F.slot_str_getitem.lookup,typeIs_str _ _ _,wpAny_getItem_str_slice (l:=some (i,ui)) (u:=none) (st:=none) hs rfl (post_val_or_str ⟨Nat.le_trans (Txt.slice_le z (some i) none) hz,fun t' k=>⟨.str _,H,I.tok _,⟨_,rfl⟩,q⟩⟩)⟩
    |int j uj=>exact ⟨"str",_,F.slot_str_getitem.lookup,typeIs_str _ _ _,wpAny_getItem_str_slice (l:=some (i,ui)) (u:=some (j,uj)) (st:=none) hs rfl (post_val_or_str ⟨Nat.le_trans (Txt.slice_le z (some i) (some j)) hz,fun t' k=>⟨.str _,H,I.tok _,⟨_,rfl⟩,q⟩⟩)⟩
end
section
variable {X:Cx}
end
section
variable {X:Cx}
end
end L2
namespace L2
open PySem PySem.Spec PyProof.Rows PySem.SeqAt PySem.Builtin PySem.Builtin.Str
theorem str_ext' {a b:Str} (h:a.cps.toList=b.cps.toList):a=b:=by
  obtain ⟨⟨x⟩⟩:=a
  obtain ⟨⟨y⟩⟩:=b
  cases h
  rfl
theorem sub_toL (t:Str) (a b:Nat):(sub t a b).cps.toList=(t.cps.toList.drop a).take (b-a):=by
  unfold L2.sub
  rw [List.toList_toArray]
theorem len_toL (t:Str):t.length=t.cps.toList.length:=by simp [Str.length]
theorem sub_hi (t:Str) (a k:Nat):sub t a (bnd t.length t.length (some (k:Int)))=sub t a k:=by
  by_cases h:k≤t.length
  · rw [bnd_nat h]
  · rw [bnd_end (by omega)]
    refine str_ext' ?_
    rw [sub_toL,sub_toL,List.take_of_length_le (by rw [List.length_drop,← len_toL];omega),List.take_of_length_le (by rw [List.length_drop,← len_toL];omega)]
theorem sub_lo (t:Str) (k m:Nat) (hm:m≤t.length):sub t (bnd 0 t.length (some (k:Int))) m=sub t k m:=by
  by_cases h:k≤t.length
  · rw [bnd_nat h]
  · rw [bnd_end (by omega)]
    refine str_ext' ?_
    rw [sub_toL,sub_toL,show m-t.length=0 by omega,show m-k=0 by omega,List.take_zero,List.take_zero]
section
variable {X:Cx}
def rSlH:V→Option Int→Option Int→Hp→VK→Prop:=fun x lo hi H Q=>∃ (z:Str) (k:Nat),x=.str z∧lo=none∧hi=some ((k:Nat):Int)∧z.length≤sizeLine∧Q (.str (sub z 0 k)) H
theorem sl_strH:SlR X rSlH:=by
  intro pins s σ H x v vl vu lo hi sl Q I rx hs pl pu h
  obtain ⟨z,k,rfl,rfl,rfl,hz,q⟩:=h
  exact sl_strO pins s σ H _ v vl vu _ _ sl Q I rx hs pl pu ⟨z,rfl,hz,by rw [sub_hi];exact q⟩
def rSlL1:V→Option Int→Option Int→Hp→VK→Prop:=fun x lo hi H Q=>∃ (z:Str) (k:Nat),x=.str z∧lo=some ((k:Nat):Int)∧hi=none∧z.length≤sizeLine∧Q (.str (sub z k z.length)) H
theorem sl_strL:SlR X rSlL1:=by
  intro pins s σ H x v vl vu lo hi sl Q I rx hs pl pu h
  obtain ⟨z,k,rfl,rfl,rfl,hz,q⟩:=h
  exact sl_strO pins s σ H _ v vl vu _ _ sl Q I rx hs pl pu ⟨z,rfl,hz,by rw [show bnd z.length z.length none=z.length from rfl,sub_lo _ _ _ (Nat.le_refl _)];exact q⟩
end
end L2
namespace L2
open PySem PySem.Spec PyProof.Rows PySem.SeqAt
def isNon:Value→Bool
  |.none=>true
  |_=>false
def nonD:PyData→Bool
  |.none=>true
  |_=>false
section
variable {X:Cx}
theorem pdEq_non (d:PyData):pdEq d .none=nonD d:=by cases d <;> rfl
theorem non_rel {K:PySem.W.Frag} {H:Hp} {v:V} {d:PyData} {u:Value} (r:Rep K H v d) (rv:RelV v u):isNon u=nonD d:=by
  cases r with
  |non=>cases (show u=Value.none from rv);rfl
  |bl y=>cases (show u=Value.bool y from rv);rfl
  |int i=>obtain ⟨t,q⟩:=(show ∃ t,u=Value.int i t from rv);cases q;rfl
  |str y=>obtain ⟨t,q⟩:=(show ∃ t,u=Value.str y t from rv);cases q;rfl
  |tup g _=>cases (show u=Value.ref _ from rv);rfl
  |lst g _=>cases (show u=Value.ref _ from rv);rfl
theorem reps_mem {K:PySem.W.Frag} {H:Hp} {w:Value}:∀ {xs:List V} {ds:List PyData} {its:List Value},Reps K H xs ds→Vals xs its→w∈its→∃ x d,d∈ds∧Rep K H x d∧RelV x w
  | _,_,_,.cons h t,.cons r rs,m=>by
    rcases List.mem_cons.mp m with rfl|m
    · exact ⟨_,_,List.mem_cons_self,h,r⟩
    · obtain ⟨x,e,h1,h2,h3⟩:=reps_mem t rs m
      exact ⟨x,e,List.mem_cons_of_mem _ h1,h2,h3⟩
  |_,_,_,.nil,.nil,m=>by simp at m
theorem reps_any {K:PySem.W.Frag} {H:Hp}:∀ {xs:List V} {ds:List PyData} {its:List Value},Reps K H xs ds→Vals xs its→its.any isNon=ds.any nonD
  |_,_,_,.nil,.nil=>rfl
  |_,_,_,.cons h t,.cons r rs=>by rw [List.any_cons,List.any_cons,non_rel h r,reps_any t rs]
def rInN (K:PySem.W.Frag):R2:=fun x y H Q=>∃ p xs ds,x=.non∧y=.ref p∧SqL K H p xs∧Reps K H xs ds∧pdDeps ds≤60∧Q (.bl (ds.any nonD)) H
theorem op_inN (hu:X.A.units+64<cLine):OpR X (compareOp .In) (rInN X.K):=by
  intro pins s σ H x y v u Q I rx ry h
  obtain ⟨b,xs,ds,rfl,rfl,hq,rs,hd,q⟩:=h
  cases (show u=Value.ref b from ry)
  obtain ⟨its,r,pl,hz⟩:=I.list hq
  refine SeqAt.in_listAt isNon pl.isList (fun w hw=>?_) ⟨.bl _,H,I,rfl,?_⟩
  · obtain ⟨x',d,m,h1,h2⟩:=reps_mem rs r (by simpa using hw)
    rw [non_rel h1 h2,← pdEq_non]
    refine eq_at I h1 .non h2 rx ?_
    show X.A.units+1+pdDep d<cLine
    have:=pdDep_le m
    omega
  · rw [show its.toArray.any isNon=its.any isNon by simp,reps_any rs r]
    exact q
end
end L2
namespace L2
open PySem PySem.Spec PyProof.Rows PySem.SeqAt
section
variable {X:Cx} {pins:List (Addr×Obj)} {σ:St} {H:Hp} {s:Shared} {h':Heap}
theorem drawsI {prog:Program} {w:World} {A:Around} (hh:A.handled=none) (it l:Addr) (hne:l≠it) (items:Array Value) (i0:Nat) (h0:items.size≤i0):Draws prog w A it [it,l] 0 (fun i v=>False) (fun i h=>h.IsListIter it l i0∧h.IsList l items) where
  live:=fun _ _ st=>let ⟨o,ho,_⟩:=st.1;⟨o,ho⟩
  frame:=fun _ _ _ st hk=>⟨st.1.at fun o e=>hk it (by simp) o e,st.2.at fun o e=>hk l (by simp) o e⟩
  item:=fun i s Q E hi=>absurd hi (Nat.not_lt_zero _)
  done:=fun s Q E st hE=>wpAny_nextOf_list_end hh st.1 st.2 (by simp [h0]) hE
def IteL (K:PySem.W.Frag) (a:Addr):It:=
  ⟨fun i H=>∃ xs x,SqL K H a xs∧xs[i]?=some x,fun i H v H'=>∃ p x,H p=none∧v=.ref p∧(∀ xs,SqL K H a xs→xs[i]?=some x)∧H'=upd H p (.tup [.int i,x]),fun i H=>∃ xs,SqL K H a xs∧xs.length≤i⟩
theorem turn_enumL {P:Program} {w:World} {K:PySem.W.Frag} {elts:List Expr} {k1} {pos:Pos} (a e it:Addr) (hei:e≠it):Turn P w K (.Tuple elts k1 pos) (IteL K a) [e,it] e (fun i h=>(∃ old,IsEnum h e it i old)∧h.IsListIter it a i) where
  mem:=by simp
  obj:=fun i h st b hb=>by
    obtain ⟨⟨old,h1⟩,o,h2,_,h3⟩:=st
    rcases List.mem_cons.mp hb with rfl|hb
    · exact ⟨_,h1,fun v z=>by cases (show Data.fields _=Data.cell v from z)⟩
    · cases List.mem_singleton.mp hb
      exact ⟨o,h2,fun v z=>by rw [h3] at z;cases z⟩
  keep:=fun i h h' st k=>⟨let ⟨old,h1⟩:=st.1;⟨old,k e (by simp) _ h1⟩,st.2.at fun o z=>k it (by simp) o z⟩
  item:=by
    intro X hP hw hK hc i pins s σ H E I hf st hg
    subst hP hw hK
    obtain ⟨xs,x,hq,hx⟩:=hg
    obtain ⟨its,rv,p,hz⟩:=I.list hq
    obtain ⟨u,hu,ru⟩:=rv.get hx
    obtain ⟨⟨old,he⟩,ht⟩:=st
    have hit:s.heap.IsList a its.toArray:=p.isList
    have han:a≠it:=by
      rintro rfl
      obtain ⟨o1,h1,h2,_⟩:=id hit
      obtain ⟨o2,h3,h4,_⟩:=id ht
      rw [h1] at h3;cases h3
      rw [h2] at h4;exact absurd (Value.type.inj h4) (by decide)
    have hae:a≠e:=by
      rintro rfl
      obtain ⟨o1,h1,h2,_⟩:=id hit
      rw [he] at h1;cases h1
      exact absurd (Value.type.inj h2) (by decide)
    have D:=Draws.list (prog:=X.prog) (w:=X.w) (A:=X.A.in1) (I.ok.hd hc) it a han its.toArray
    have hlt:i<its.toArray.size:=by
      have:=(List.getElem?_eq_some_iff.mp hx).1
      have hl:=rv.length
      rw [List.size_toArray];omega
    refine wpAny_pyNext_enum_itemD D he ⟨ht,hit⟩ hlt hei (by simp [hei,Ne.symm hae]) fun y g tk hy ho hst' htup hsz hk=>?_
    have e1:y=u:=by
      have:its.toArray[i]?=some u:=by simpa using hu
      rw [this] at hy;exact (Option.some.inj hy).symm
    subst e1
    refine ⟨_,rfl,?_⟩
    have helt:e<s.heap.objs.size:=Heap.lt_size he
    have hilt:it<s.heap.objs.size:=let ⟨o,z,_⟩:=ht;Heap.lt_size z
    have I1:Inv X pins σ (upd H s.heap.objs.size (.tup [.int i,x])) { s with heap:=g,toks:=tk+1 }:=by
      refine I.turnLaid (fp:=[e,it]) (fun b o hb z=>hk b o (fun q=>hb (by simp [q])) (fun q=>hb (by simp [q])) z) (fun b hb=>?_) hf (Nat.le_refl _) ?_
      · rcases List.mem_cons.mp hb with rfl|hb
        · exact ⟨_,ho⟩
        · cases List.mem_singleton.mp hb
          exact let ⟨o,z,_⟩:=hst'.1;⟨o,z⟩
      · exact ⟨by show 2≤sizeLine;decide,[.int i tk,y],.cons ⟨_,rfl⟩ (.cons ru .nil),⟨_,htup,rfl,_,rfl⟩⟩
    have hno:∀ b∈[e,it],(upd H s.heap.objs.size (.tup [.int i,x])) b=none:=fun b hb=>by
      have hbl:b<s.heap.objs.size:=by
        rcases List.mem_cons.mp hb with rfl|hb
        · exact helt
        · cases List.mem_singleton.mp hb;exact hilt
      rw [upd_ne (Nat.ne_of_lt hbl)]
      exact (hf b hb).1
    refine wpAny_letOwnedTupleGo_enum ho fun g2 he2 hs2=>?_
    obtain ⟨f0,f1,f2,f3,f4,f5⟩:=hf e (by simp)
    refine ⟨.ref s.heap.objs.size,_,I1.turned (t':=tk+1) (fun b o hb z=>(hs2.2 b hb).trans z) (hno e (by simp)) f1 f3 f4 f5,rfl,⟨s.heap.objs.size,x,I.hok.fresh (Nat.le_refl _),rfl,fun ys hy=>by rw [I.list_inj hy hq];exact hx,rfl⟩,⟨⟨_,by simpa using he2⟩,?_⟩,hno⟩
    exact hst'.1.at fun o z=>(hs2.2 it (Ne.symm hei)).trans z
  done:=by
    intro X hP hw hK hc i pins s σ H E I hf st hg
    subst hP hw hK
    obtain ⟨xs,hq,hx⟩:=hg
    obtain ⟨its,rv,p,hz⟩:=I.list hq
    obtain ⟨⟨old,he⟩,ht⟩:=st
    obtain ⟨f0,f1,f2,f3,f4,f5⟩:=hf it (by simp)
    have hl:=rv.length
    have hit:s.heap.IsList a its.toArray:=p.isList
    have han:a≠it:=by
      rintro rfl
      obtain ⟨o1,h1,h2,_⟩:=id hit
      obtain ⟨o2,h3,h4,_⟩:=id ht
      rw [h1] at h3;cases h3
      rw [h2] at h4;exact absurd (Value.type.inj h4) (by decide)
    have D:=drawsI (prog:=X.prog) (w:=X.w) (A:=X.A.in1) (I.ok.hd hc) it a han its.toArray i (by rw [List.size_toArray];omega)
    exact wpAny_pyNext_enum_endD D he ⟨ht,hit⟩ fun h' ex=>⟨rfl,I.turned (t':=s.toks) (fun b o hb e=>ex b o hb e) f0 f1 f3 f4 f5⟩
  self:=fun _ _ _ _ _ st h=>let ⟨_,he⟩:=st.1;wpAny_pyIter_enum he h
def iEnumL (K:PySem.W.Frag) (ta:TA):TI:=fun σ H R=>ta σ H fun vs H1=>∃ a,vs=[.ref a]∧(∃ xs,SqL K H1 a xs)∧R (IteL K a) H1
theorem pi_enumL {elts:List Expr} {k1} {pt:Pos} {a:Expr} {ta:TA} {p pos:Pos} (hg:Gl X "enumerate") (hm:X.mg "enumerate" = none) (hv:bootBuiltins "enumerate" = some (.type "enumerate")) (ha:PA X [a] ta) (hs:starEach [a] X.env=[(false,eval a X.env)]:=by rfl):PI X (.Tuple elts k1 pt) (.Call (.Name "enumerate" p) [a] [] pos) (iEnumL X.K ta):=by
  intro pins s σ H R I h
  refine Call_ (ld_blt I hg hm hv (PyProof.Rows.callWith_type1 (thn (ha pos pins s σ H _ I h) fun us s1 ⟨vs,H1,I1,r1,q1⟩=>?_) hs rfl))
  obtain ⟨l,rfl,⟨xs,hq⟩,q⟩:=q1
  obtain ⟨u,rfl,e⟩:=vals1 r1
  cases (show u=Value.ref l from e)
  obtain ⟨its,rv,hp,hz⟩:=I1.list hq
  refine call_enumerate_list hp.isList fun g he hi _ hk=>wpAny_pyIter_enum he ?_
  refine ⟨s1.heap.objs.size+1,[s1.heap.objs.size+1,s1.heap.objs.size],_,_,H1,rfl,I1.kept (t':=s1.toks) hk,turn_enumL l _ s1.heap.objs.size (Nat.succ_ne_self _),⟨⟨_,he⟩,hi⟩,fun b hb=>?_,q⟩
  rcases List.mem_cons.mp hb with rfl|hb
  · exact I1.fpOk (Nat.le_succ _) (I1.hok.fresh (Nat.le_succ _))
  · cases List.mem_singleton.mp hb
    exact I1.fpOk (Nat.le_refl _) (I1.hok.fresh (Nat.le_refl _))
theorem for_enumL {K:PySem.W.Frag} {a:Addr} {xs:List V} {g:TG} {tb:TS} {D:Ends} {σ:St} {H:Hp} (Pv:Nat→St→Hp→Prop) (h0:Pv 0 σ H) (hl:∀ i σ H,i≤xs.length→Pv i σ H→SqL K H a xs)
    (hs:∀ i x σ H p,xs[i]?=some x→Pv i σ H→H p=none→g (.ref p) σ (upd H p (.tup [.int i,x])) fun σ2 H2=>tb { D with nx:=Pv (i+1),ct:=Pv (i+1),bk:=D.nx } σ2 H2)
    (hd:∀ σ H,Pv xs.length σ H→D.nx σ H) :
    ∃ W:Nat→Nat→St→Hp→Prop,(∃ m,W 0 m σ H)∧∀ i m σ H,W i m σ H→((IteL K a).stop i H∧D.nx σ H)∨((IteL K a).go i H∧∃ N:St→Hp→Prop,(∀ σ' H',N σ' H'→∃ m',m'<m∧W (i+1) m' σ' H')∧∀ x H',(IteL K a).yld i H x H'→g x σ H' fun σ2 H2=>tb { D with nx:=N,ct:=N,bk:=D.nx } σ2 H2):=by
  refine ⟨fun i m σ H=>m=xs.length-i∧i≤xs.length∧Pv i σ H,⟨xs.length,by simp,Nat.zero_le _,h0⟩,?_⟩
  rintro i m σ H ⟨rfl,hi,p⟩
  have q:=hl i σ H hi p
  by_cases hlt:i<xs.length
  · refine .inr ⟨⟨xs,xs[i],q,by simp [hlt]⟩,Pv (i+1),fun σ' H' z=>⟨xs.length-(i+1),by omega,rfl,hlt,z⟩,?_⟩
    rintro x H' ⟨p',y,hn,rfl,hy,rfl⟩
    exact hs i y σ H p' (hy xs q) p hn
  · have e:i=xs.length:=by omega
    subst e
    exact .inl ⟨⟨xs,q,Nat.le_refl _⟩,hd σ H p⟩
end
end L2
namespace L2
open PySem PySem.Spec PyProof.Rows PySem.SeqAt PySem.Builtin PySem.Builtin.Str
section
variable {X:Cx}
theorem mt_isdigit:MtR X "str.isdigit" (rS0 fun x=>Txt.isdigit x):=by
  intro pins s σ H x vs v us Q I rx rv h
  obtain ⟨z,rfl,rfl,q⟩:=h
  obtain ⟨t,e⟩:=(show ∃ t,v=Value.str z t from rx)
  subst e
  cases rv
  exact SC.isdigit ⟨.bl _,H,I,rfl,q⟩
def rRp:V→List V→Hp→VK→Prop:=fun x vs H Q=>∃ z y,x=.str z∧vs=[.str y]∧z.length≤sizeLine∧Q (.str (Txt.removeprefix z y)) H
theorem mt_removeprefix:MtR X "str.removeprefix" rRp:=by
  intro pins s σ H x vs v us Q I rx rv h
  obtain ⟨z,y,rfl,rfl,hz,q⟩:=h
  obtain ⟨t,e⟩:=(show ∃ t,v=Value.str z t from rx)
  subst e
  cases rv with
  | cons r1 r=>
    cases r
    obtain ⟨u,e⟩:=(show ∃ u,_=Value.str y u from r1)
    subst e
    exact SC.removeprefix (fun t' k=>⟨.str _,H,I.tok _,⟨_,rfl⟩,q⟩) hz
theorem parts_len (x y:Str) (hy:1≤y.length):(partsBetween x (occurrences x y 0 x.length (x.length+1)) y.length).length≤x.length+2:=by
  have h1:=StrLaws.occ_length_le x y 0 x.length (x.length+1)
  have:∀ (l:List Nat) (a:Nat),True:=fun _ _=>trivial
  have h2:(partsBetween x (occurrences x y 0 x.length (x.length+1)) y.length).length=(occurrences x y 0 x.length (x.length+1)).length+1:=by
    first
      |exact StrLaws.partsBetween_length ..
      |(unfold partsBetween;simp)
  omega
theorem strs_val:∀ {l:List (Str×Tok)},Vals ((l.map (·.1)).map V.str) (strValues l)
  |[]=>.nil
  |(x,t)::l=>.cons ⟨t,rfl⟩ (strs_val (l:=l))
def rSplit:V→List V→Hp→VK→Prop:=fun x vs H Q=>∃ z y,x=.str z∧vs=[.str y]∧1≤y.length∧z.length≤100000∧∀ p,H p=none→Q (.ref p) (upd H p (.lst ((Txt.split z y).map V.str)))
theorem mt_split:MtR X "str.split" rSplit:=by
  intro pins s σ H x vs v us Q I rx rv h
  obtain ⟨z,y,rfl,rfl,hy,hz,q⟩:=h
  obtain ⟨t,e⟩:=(show ∃ t,v=Value.str z t from rx)
  subst e
  cases rv with
  | cons r1 r=>
    cases r
    obtain ⟨u,e⟩:=(show ∃ u,_=Value.str y u from r1)
    subst e
    have big:200000≤sizeLine:=by decide
    have hy':(y.length == 0)=false:=by simp;omega
    have pl:=parts_len z y hy
    have wt:=split_weight z y hy
    have lay:∀ (us:List Value) (tk:Nat),Vals ((Txt.split z y).map V.str) us→EP X pins σ Q (.ref s.heap.objs.size) { s with toks:=tk,heap:=s.heap.push { cls:=.type "list",data:=.seq us.toArray } }:=fun us tk rv=>by
      refine ⟨.ref s.heap.objs.size,upd H s.heap.objs.size (.lst ((Txt.split z y).map V.str)),I.laid (t':=tk) (fun b o e=>Heap.get?_push_of_some _ e) (Nat.le_refl _) ?_,rfl,q _ (I.hok.fresh (Nat.le_refl _))⟩
      exact ⟨by rw [List.length_map];omega,us,0,rv,Heap.get?_push_size _ rfl⟩
    have one:Txt.split z y=[z]→Vals ((Txt.split z y).map V.str) [Value.str z t]:=fun e=>by rw [e];exact .cons ⟨t,rfl⟩ .nil
    cases h1:(decide (z.length<y.length) || decide (strKind z<strKind y))
    · cases hf:(occurrences z y 0 z.length (z.length+1)).isEmpty
      · refine call_meets F.slot_str_split (typeIs_str _ _ _) F.entry_str_split (F.args_str_split_2 _ _) (meets_str_split_sep z y t u h1 hy' hf (by omega) (by omega)) ?_
        have e:Txt.split z y=partsBetween z (occurrences z y 0 z.length (z.length+1)) y.length:=(if_neg (ne_true_of_eq_false h1)).trans (if_neg (ne_true_of_eq_false hf))
        have r:Vals ((Txt.split z y).map V.str) (strsFrom s.toks (partsBetween z (occurrences z y 0 z.length (z.length+1)) y.length)):=by
          rw [strsFrom_eq,e]
          have:=strs_val (l:=numbered s.toks (partsBetween z (occurrences z y 0 z.length (z.length+1)) y.length))
          rw [numbered_texts] at this
          exact this
        exact lay _ _ r
      · exact call_meets F.slot_str_split (typeIs_str _ _ _) F.entry_str_split (F.args_str_split_2 _ _) (meets_str_split_not_found z y t u h1 hy' hf) (lay _ s.toks (one ((if_neg (ne_true_of_eq_false h1)).trans (if_pos hf))))
    · exact call_meets F.slot_str_split (typeIs_str _ _ _) F.entry_str_split (F.args_str_split_2 _ _) (meets_str_split_cannot_occur z y t u h1) (lay _ s.toks (one (if_pos h1)))
end
section
variable {prog:Program} {w:World} {A:Around} {E:Value→Shared→Prop} {s:Shared} {l:Addr}
theorem unpackItems_star {its:List Value} {y:Value} {Q:List Value→Shared→Prop} (hh:A.handled=none) (hl:s.heap.IsList l (its++[y]).toArray) (hz:its.length+1≤sizeLine)
    (hQ:∀ s':Shared,(∀ b o,s.heap.get? b=some o→s'.heap.get? b=some o)→s'.gens=s.gens→s'.drawn=s.drawn→s'.os=s.os→Q [.ref s'.heap.objs.size,y] { s' with heap:=s'.heap.push { cls:=.type "list",data:=.seq its.toArray } }):wpAny (model prog w) A (unpackItems (.ref l) 2 (some 0)) Q E s:=by
  have hlt:l≠s.heap.objs.size:=by obtain ⟨o,ho,_⟩:=hl;exact Nat.ne_of_lt (Heap.lt_size ho)
  have hp:(s.heap.push { cls:=.type "list_iterator",data:=.fields #[.ref l,.int 0 0] }).IsList l (its++[y]).toArray:=let ⟨o,e,r⟩:=hl;⟨o,Heap.get?_push_of_some _ e,r⟩
  have it0:(s.heap.push { cls:=.type "list_iterator",data:=.fields #[.ref l,.int 0 0] }).IsListIter s.heap.objs.size l 0:=⟨_,Heap.get?_push_size _ rfl,rfl,rfl⟩
  unfold unpackItems
  refine wpAny_bind ?_
  unfold notIterableAtAll
  refine wpAny_bind (wpAny_specialOf hl.typeIs slot_list_iter.lookup ?_)
  refine wpAny_pure ?_
  simp only [Bool.false_eq_true,if_false]
  refine wpAny_bind (wpAny_holding (wpAny_pyIter_list hl ?_))
  refine wpAny_bind (wpAny_holding ?_)
  show wpAny _ _ (pure []) _ _ _
  refine wpAny_pure ?_
  rw [if_neg (by simp)]
  refine wpAny_bind (wpAny_holding ?_)
  refine wpAny_collect_iter (T:="list_iterator") (.inr (.inr (.inl rfl))) (Walks.list (A:=A.in1) hh s.heap.objs.size l hlt (its++[y]).toArray).toS (fun _ _ st=>let ⟨o,ho,hc,_⟩:=st.1;⟨o,ho,hc⟩) ⟨it0,hp⟩ ?_ (by simp) ?_ (by simp;omega)
  · intro b hb
    simp at hb
    rcases hb with rfl|rfl
    · exact Heap.lt_size (Heap.get?_push_size _ rfl)
    · obtain ⟨o,ho,_⟩:=hp;exact Heap.lt_size ho
  · intro s' acc hm ha
    have el:acc.toList=its++[y]:=by
      refine List.ext_getElem? fun j=>?_
      by_cases hj:j<acc.size
      · have:=ha.2 j acc[j] (by simp [hj])
        rw [Array.getElem?_toList,Array.getElem?_eq_getElem hj,← this]
        simp
      · have h2:acc.size=(its++[y]).length:=ha.1
        rw [List.getElem?_eq_none (by simpa using hj),List.getElem?_eq_none (by omega)]
    rw [el]
    have e1:(its++[y]).length-(2-1-0)=its.length:=by simp
    rw [if_neg (by simp),e1,List.take_left' rfl,List.drop_left' rfl]
    refine wpAny_bind (wpAny_newList (wpAny_pure ?_) (by omega))
    refine hQ s' (fun b o e=>hm.heap b o (fun z=>?_) (Heap.get?_push_of_some _ e)) hm.gens hm.drawn hm.os
    cases List.mem_singleton.mp z
    exact absurd (Heap.lt_size e) (Nat.lt_irrefl _)
end
section
variable {X:Cx} {pos:Pos}
theorem vals_snoc:∀ {xs:List V} {y:V} {us:List Value},Vals (xs++[y]) us→∃ vs u,us=vs++[u]∧Vals xs vs∧RelV y u
  |[],y,_,.cons r .nil=>⟨[],_,rfl,.nil,r⟩
  | x::xs,y,_,.cons r rs=>by
    obtain ⟨vs,u,rfl,h1,h2⟩:=vals_snoc rs
    exact ⟨_::vs,u,rfl,.cons r h1,h2⟩
def gStar (K:PySem.W.Frag) (t:TGs):TG:=fun v σ H Q=>∃ a xs y,v=.ref a∧SqL K H a (xs++[y])∧∀ p,H p=none→t [.ref p,y] σ (upd H p (.lst xs)) Q
theorem pg_star {es:List Expr} {k:Nat} {t:TGs} (hc:X.calm=true) (h:PGs X es t) (hn:(assignEach es X.env).length=2:=by rfl) (hst:(assignEach es X.env).findIdx? (·.1)=some 0:=by rfl):PG X (.Tuple es k pos) (gStar X.K t):=by
  intro pins s σ H v u Q I r hw
  obtain ⟨a,xs,y,e1,hq,hw⟩:=hw
  subst e1
  cases r
  obtain ⟨its,rv,hl,hz⟩:=I.list hq
  obtain ⟨vs,uy,rfl,rx,ry⟩:=vals_snoc rv
  rw [List.length_append] at hz
  have lx:=rx.length
  rw [arm_assign_Tuple]
  refine wpAny_bind (wpAny_standAt ?_)
  unfold unpack
  rw [hn,hst]
  refine wpAny_bind (wpAny_holding (unpackItems_star (I.ok.hd hc) hl.isList (by simp at hz;omega) fun s' kp e1 e2 e3=>?_))
  obtain ⟨hp,g,d,tk,os⟩:=s'
  cases e1
  cases e2
  cases e3
  have I1:Inv X pins σ H { s with heap:=hp,toks:=tk }:=I.kept (t':=tk) kp
  have I2:=I1.laid (t':=tk) (a:=hp.objs.size) (o:=.lst xs) (h':=hp.push { cls:=.type "list",data:=.seq vs.toArray }) (fun b o e=>Heap.get?_push_of_some _ e) (Nat.le_refl _) ⟨by simp at hz;omega,vs,0,rx,Heap.get?_push_size _ rfl⟩
  exact h pins _ σ _ [.ref hp.objs.size,y] _ Q I2 (.cons rfl (.cons ry .nil)) (hw _ (I1.hok.fresh (Nat.le_refl _)))
theorem pgs_star {e:Expr} {p:Pos} {es:List Expr} {t:TG} {u:TGs} (h1:PG X e t) (h2:PGs X es u) (hs:(assignEach (e::es) X.env).map (·.2)=assign e X.env::(assignEach es X.env).map (·.2):=by rfl)
    (hs':(assignEach (.Starred e p::es) X.env).map (·.2)=assign e X.env::(assignEach es X.env).map (·.2):=by rfl):PGs X (.Starred e p::es) (gCons t u):=by
  intro pins s σ H vs us Q I r h
  have:=pgs_cons h1 h2 hs pins s σ H vs us Q I r h
  rw [hs] at this
  rw [hs']
  exact this
end
end L2
namespace L2
open PySem PySem.Spec PyProof.Rows PySem.SeqAt PySem.Builtin
variable {X:Cx} {pos:Pos}
def tPar3 (i j l:Nat) (ta:TA):TS:=fun D σ H=>ta σ H fun vs H1=>∃ v w u,vs=[v,w,u]∧D.nx (((σ.set l (some u)).set j (some w)).set i (some v)) H1
theorem ps_par3 {i j l:Nat} {x y z:Str} {a b c:Expr} {ta:TA} {px py pz pt:Pos} {kt k2 pt2} (hc:X.calm=true) (hN:X.N.Nodup) (hi:X.N[i]?=some x) (hj:X.N[j]?=some y) (hl:X.N[l]?=some z)
    (hx:X.env.scope.names.lookup x=some .local) (hy:X.env.scope.names.lookup y=some .local) (hz:X.env.scope.names.lookup z=some .local) (ha:PA X [a,b,c] ta)
    (hw:swappedStores [.Tuple [.Name x px,.Name y py,.Name z pz] kt pt] (.Tuple [a,b,c] k2 pt2) X.env=pure (some [x,y,z]))
    (hs:swapsWithSole [.Tuple [.Name x px,.Name y py,.Name z pz] kt pt] (.Tuple [a,b,c] k2 pt2) pos.line X.env=pure false:=by rfl) :
    PS X (.Assign [.Tuple [.Name x px,.Name y py,.Name z pz] kt pt] (.Tuple [a,b,c] k2 pt2) pos) (tPar3 i j l ta):=by
  intro pins s σ H D I h
  rw [exec_Assign_arm]
  refine wpAny_bind (wpAny_standAt ?_)
  rw [hs]
  refine wpAny_bind (wpAny_pure ?_)
  rw [if_neg (by decide)]
  refine wpAny_bind (Tuple_ (thn (ha _ pins s σ H _ I h) fun us s1 ⟨vs,H1,I1,r1,q1⟩=>?_))
  obtain ⟨v,w,u,e1,q1⟩:=q1
  subst e1
  obtain ⟨u1,u2,u3,rfl,rv,rw',ru⟩:∃ u1 u2 u3,us=[u1,u2,u3]∧RelV v u1∧RelV w u2∧RelV u u3:=by
    cases r1 with
    | cons p q=>
      cases q with
      | cons p' q'=>
        cases q' with
        | cons p'' q''=>
          cases q''
          exact ⟨_,_,_,rfl,p,p',p''⟩
  refine wpAny_newObj_type ?_ (by show 3≤sizeLine;decide)
  have I2:Inv X pins σ H1 { s1 with heap:=s1.heap.push { cls:=.type "tuple",data:=.seq [u1,u2,u3].toArray } }:=I1.kept (t':=s1.toks) fun b o e=>Heap.get?_push_of_some _ e
  rw [hw]
  refine wpAny_bind (wpAny_pure ?_)
  show wpAny (model X.prog X.w) X.A (do rule "assign.swapped-stores";let items ← unpackItems (.ref s1.heap.objs.size) 3 none;assignInOrder [fun v=>bindName X.env z v,fun v=>bindName X.env y v,fun v=>bindName X.env x v] items.reverse;pure Flow.next) _ _ _
  refine wpAny_bind (wpAny_rule (wpAny_bind (unpackItems_tuple (items:=#[u1,u2,u3]) (I.ok.hd hc) (IsTup.new s1.heap _) fun h' hx'=>?_)))
  have I3:=I2.kept (h':=h') (t':=s1.toks) fun b o e=>hx' b o (Nat.ne_of_lt (Heap.lt_size e)) e
  show wpAny _ _ (assignInOrder [fun v=>bindName X.env z v,fun v=>bindName X.env y v,fun v=>bindName X.env x v] [u3,u2,u1] >>= fun _=>pure Flow.next) _ _ _
  refine wpAny_bind (assignInOrder_cons (wpAny_bindName (store_ok I3 hN hl (.inl hz) ru (fun s2 I4=>?_) (.inr hz))))
  refine assignInOrder_cons (wpAny_bindName (store_ok I4 hN hj (.inl hy) rw' (fun s3 I5=>?_) (.inr hy)))
  refine assignInOrder_cons (wpAny_bindName (store_ok I5 hN hi (.inl hx) rv (fun s4 I6=>assignInOrder_nil (wpAny_pure ?_)) (.inr hx)))
  exact ⟨_,H1,I6,q1⟩
end L2
namespace L2
open PySem PySem.Spec PyProof.Rows PySem.SeqAt PySem.W Builtin.ObjectAttr
def tCall1X (sp:Sp) (i j:Nat):TSX:=fun D W σ H=>∃ (v:V) (Qv:VK) (Ev:XK),σ[j]?=some (some v)∧sp [v] H Qv Ev∧(∀ v H',Qv v H'→D.nx (σ.set i (some v)) H')∧∀ cls dd H',Ev cls dd H'→∃ Ce,cls=.ref Ce∧W Ce dd σ H'
theorem psx_call1 {X:Cx} {k i j:Nat} {x a y p:Str} {px pa py pc pos:Pos} {f:Addr} {fd:FuncData} {sp:Sp} (hN:X.N.Nodup) (hi:X.N[i]?=some x) (hx:Loc X.env.scope x) (hj:X.N[j]?=some y) (hy:Vis X.env.scope y)
    (F:FnOk X.prog X.w X.K X.mg X.base (CX1 X.prog X.w) k f fd [p] sp) (hr:Room k X.A) (hg:Gl X a) (hm:X.mg a=some (.ref f)) (hk:PySem.W.keepIn X.K (.ref f)=true) (hb:Binds X.K fd [p] [])
    (hs:swapsWith (.Call (.Name a pa) [.Name y py] [] pc) (some (.Name x px)) pos.line X.env=pure false:=by rfl) (hf:X.fn x=true∨X.env.scope.names.lookup x=some .local:=by first|exact .inl rfl|exact .inr rfl|assumption)
    (hd:(y == ("__debug__" : Str))=false:=by decide) (hcd:(y == ("__classdict__" : Str))=false:=by decide) (hda:(a == ("__debug__" : Str))=false:=by decide)
    (he:starEach [.Name y py] X.env=(false,eval (.Name y py) X.env)::starEach [] X.env:=by rfl) (hpl:(backTo pc (starEach [] X.env)).any (·.1)=false:=by rfl) :
    PSX X [.Assign [.Name x px] (.Call (.Name a pa) [.Name y py] [] pc) pos] (tCall1X sp i j):=by
  intro pins s σ H D W I h
  obtain ⟨v,Qv,Ev,e,hsp,hv,hE⟩:=h
  have one:wpAny (model X.prog X.w) X.A (exec (.Assign [.Name x px] (.Call (.Name a pa) [.Name y py] [] pc) pos) X.env) (fun f s1=>f=.next∧∃ v H',Inv X pins (σ.set i (some v)) H' s1∧Qv v H') (tryE X pins s W) s:=by
    refine wpAny_Assign_Name (thn (Q:=EP X pins σ Qv) ?_ fun v s1 ⟨y,H1,I1,r1,q1⟩=>store_ok I1 hN hi hx r1 (fun s2 I2=>⟨rfl,y,H1,I2,q1⟩) hf) hs
    refine wpAny_Call_Name_kw (ld_glob I hg hm ?_ hda)
    have named:∀ Q':Value→Shared→Prop,(∀ u,RelV v u→Q' u s)→wpAny (model X.prog X.w) X.A (eval (.Name y py) X.env) Q' (tryE X pins s W) s:=fun Q' hq=>by
      obtain ⟨m,hn,hl⟩:=I.loc
      obtain ⟨u,r,l⟩:=hl j y v hj e hy
      rcases l with ⟨hk,hm⟩|⟨hk,c,hc,hcell⟩
      · exact wpAny_Name (wpAny_loadName_local I.ok.kind hk hn hm (hq u r)) hd
      · rcases hk with hk|hk
        · exact wpAny_Name (wpAny_loadName_cell I.ok.kind hk hc hcell (hq u r)) hd
        · exact wpAny_Name (wpAny_loadName_free I.ok.kind hk hc hcell (hq u r) hcd) hd
    refine PySem.W.callWith_K (h₀:=X.base) I.ok.mod.kin hk ?_ he hpl
    rw [he]
    show wpAny _ _ (spliced ((false,eval (.Name y py) X.env)::[])) _ _ s
    refine Calls.spliced_cons (named _ fun u r=>Calls.spliced_nil ⟨I.kIn,?_⟩)
    have r2:Vals [v] [u]:=.cons r .nil
    refine wpAny_call (codeAny_mono (F.run X.A X.stack s H ⟨[u],[]⟩ [u] [v] Qv Ev hr I.env0 (hb s [u] I.kIn rfl) r2 hsp) fun r s' hq=>?_)
    cases r with
    | error ev=>
      obtain ⟨ea,cls,dd,H',rfl,os,bare,un,hok,xo,q⟩:=hq
      obtain ⟨Ce,rfl,z⟩:=hE _ _ _ q
      exact ⟨ea,Ce,dd,σ,H',rfl,I.call' os un hok bare (fun b z=>absurd z (by simp)),fun b o z=>un.there b o z (by simp),xo,z⟩
    | ok fl=>
      cases fl with
      |ret u=>exact I.after hq
      |next=>exact False.elim hq
      |brk=>exact False.elim hq
      |cont=>exact False.elim hq
  refine wpAny_execs_cons (thn one fun fl s1 z=>?_)
  obtain ⟨rfl,v,H',I1,q⟩:=z
  exact wpAny_execs_nil ⟨_,_,I1,hv _ _ q⟩
end L2
namespace L2
open PySem PySem.Spec PyProof.Rows PySem.SeqAt PySem.W
variable {X:Cx}
theorem op_mul_str:OpR X (binaryOp .Mult) (fun x y H Q=>∃ (z:Str) (n:Int),x=.str z∧y=.int n∧MulOk z n∧Q (.str (Txt.mul z n)) H):=by
  intro pins s σ H x y v u Q I rx ry h
  obtain ⟨i,j,rfl,rfl,hz,q⟩:=h
  obtain ⟨t,rfl⟩:=rx
  obtain ⟨t',rfl⟩:=ry
  exact SB.mul hz fun t' k=>⟨.str _,H,I.tok _,⟨_,rfl⟩,q⟩
end L2
namespace Cm
open PySem L2
def top (i:Nat):Stmt:=PySem.Challenge.pw_lanescribe_k33_dumps_bent_and_mended.main.body.getD i (.Pass ⟨0,0,0,0⟩)
def drK (c:Addr) (a r s:Int):List (Key×V):=[(.inr "cells",.ref c),(.inr "at",.int a),(.inr "rest",.int r),(.inr "seed",.int s)]
theorem pat {c:Addr} {a r s x:Int}:putK (drK c a r s) (.inr "at") (.int x)=drK c x r s:=by rfl
theorem prest {c:Addr} {a r s x:Int}:putK (drK c a r s) (.inr "rest") (.int x)=drK c a x s:=by rfl
theorem pseed {c:Addr} {a r s x:Int}:putK (drK c a r s) (.inr "seed") (.int x)=drK c a r x:=by rfl
theorem gcells {H:Hp} {p c:Addr} {a r s:Int} (h:H p=some (.dK (drK c a r s))):DGet H p (.str "cells") (some (.ref c)):=DGet.k (k:=Sum.inr "cells") h
theorem gat {H:Hp} {p c:Addr} {a r s:Int} (h:H p=some (.dK (drK c a r s))):DGet H p (.str "at") (some (.int a)):=DGet.k (k:=Sum.inr "at") h
theorem grest {H:Hp} {p c:Addr} {a r s:Int} (h:H p=some (.dK (drK c a r s))):DGet H p (.str "rest") (some (.int r)):=DGet.k (k:=Sum.inr "rest") h
theorem gseed {H:Hp} {p c:Addr} {a r s:Int} (h:H p=some (.dK (drK c a r s))):DGet H p (.str "seed") (some (.int s)):=DGet.k (k:=Sum.inr "seed") h
abbrev Big:Int:=2305843009213693951
structure Dr (H:Hp) (p c:Addr):Prop where
  ex:∃ (ns:List Int) (a r s:Int),H p=some (.dK (drK c a r s))∧H c=some (.lst (ns.map V.int))∧ns.length≤63∧0≤a∧a≤ns.length∧0≤r∧0≤s∧s<Big
theorem Dr.mono {H H':Hp} {p c:Addr} (d:Dr H p c) (h:Same H H'):Dr H' p c:=by
  obtain ⟨ns,a,r,s,h1,h2,k⟩:=d.ex
  exact ⟨ns,a,r,s,h _ _ h1,h _ _ h2,k⟩
theorem Dr.ne {H:Hp} {p c q:Addr} {o:HO} (d:Dr H p c) (h:H q=some o) (hd:∀ kvs,o≠.dK kvs):q≠p:=by
  obtain ⟨ns,a,r,s,h1,_⟩:=d.ex
  exact ne_of h h1 (hd _)
theorem Dr.put {H:Hp} {p c q:Addr} {o:HO} (d:Dr H p c) (h1:q≠p) (h2:q≠c):Dr (upd H q o) p c:=by
  obtain ⟨ns,a,r,s,e1,e2,k⟩:=d.ex
  exact ⟨ns,a,r,s,by rw [upd_ne h1.symm];exact e1,by rw [upd_ne h2.symm];exact e2,k⟩
theorem Dr.cell {H:Hp} {p c:Addr} (d:Dr H p c):∃ xs,H c=some (.lst xs):=by
  obtain ⟨ns,a,r,s,e1,e2,k⟩:=d.ex
  exact ⟨_,e2⟩
theorem Dr.neN {H:Hp} {p c q:Addr} (d:Dr H p c) (h:H q=none):p≠q:=by
  obtain ⟨ns,a,r,s,h1,_⟩:=d.ex
  exact ne_of_none h1 h
structure Txt (K:PySem.W.Frag) (mg:Str→Option Value):Prop where
  len:mg "len" = none
  range:mg "range" = none
  list:mg "list" = none
  tuple:mg "tuple" = none
  str:mg "str" = none
  bool:mg "bool" = none
  int:mg "int" = none
  min:mg "min" = none
  repr:mg "repr" = none
  all:mg "all" = none
  any:mg "any" = none
  isinstance:mg "isinstance" = none
section
variable {P:Program} {w:World} {K:PySem.W.Frag} {mg:Str→Option Value} {base:Heap}
def spBegin (K:PySem.W.Frag):Sp:=fun vs H Q _=>∃ (a:Addr) (ns:List Int),vs=[.ref a]∧SqL K H a (ns.map V.int)∧ns.length≤63∧∀ (p c:Addr) (H':Hp),Dr H' p c→Same H H'→H p=none→Q (.ref p) H'
theorem scB:FnScope ["_law_script","_law_seed","_law_cell"] ["_law_script"] (defScope (top 19)):=⟨rfl,rfl,rfl,by decide +kernel,rfl,by decide +kernel,by decide +kernel⟩
theorem ok_begin {f:Addr} {fd:FuncData} (F:Fun K "_law_begin" "_law_begin" (top 19) f fd) (T:Txt K mg):FnOk P w K mg base CX0 1 f fd ["_law_script"] (spBegin K):=by
  refine F.ok scB (fun vs H Q E h=>?_) (fun cdv A outer s H vs Q E hr h=>?_)
  · obtain ⟨a,ns,rfl,_⟩:=h
    rfl
  · obtain ⟨a,ns,rfl,hS,hlen,k⟩:=h
    refine ⟨_,(pss_cons (ps_set (i:=1) scB.nd rfl (Or.inl rfl) pe_int)
      (pss_cons (ps_for PassesOwn.never rfl (pi_list (pe_slice sl_list (pv 0) po_none (po_some pe_int))) (pg_name (i:=2) scB.nd rfl (Or.inl rfl))
        (pss_one (ps_set (i:=1) scB.nd rfl (Or.inl rfl) (pe_op op_mod (pe_op op_add (pe_op op_add (pe_op op_mul (pv 1) pe_int) (pe_op op_mul (pv 2) pe_int)) pe_int) pe_int))))
      (pss_one (ps_ret (pe_disp (pps_cons pe_str (pe_callTy call_list_of (by rfl) T.list bt_list (pa_cons (pe_slice sl_list (pv 0) po_none (po_some pe_int)) pa_nil)) (pps_cons pe_str pe_int (pps_cons pe_str pe_int (pps_cons pe_str (pv 1) pps_nil)))) rfl rfl (List.cons_ne_nil _ _) (by show 4≤15;decide)))))),?_⟩
    have hcut:cutV (ns.map V.int) none (some 63)=ns.map V.int:=by
      show ((ns.map V.int).drop (HT.sIx _ 0 none)).take (HT.sIx _ _ (some ((63:Nat):Int))-HT.sIx _ 0 none)=_
      rw [HT.sIx_none,HT.sIx_nat,List.drop_zero,Nat.sub_zero,List.take_of_length_le]
      rw [List.length_map];omega
    refine ⟨_,rfl,_,rfl,a,_,rfl,hS,fun q hq=>⟨q,rfl,⟨_,SqL.of upd_same⟩,?_⟩⟩
    rw [hcut]
    have hS':∀ o,SqL K (upd H q o) a (ns.map V.int):=fun o=>(show Same H (upd H q o) from fun b u e=>by rw [upd_ne (ne_of_none e hq)];exact e).seq hS
    refine for_list (K:=K) (a:=q) (xs:=ns.map V.int) (fun i σ H2=>∃ (z:Int) (v:Option V),σ=[some (.ref a),some (.int z),v]∧0≤z∧z<Big∧H2=upd H q (.lst (ns.map V.int)))
      ⟨20011,none,rfl,by decide,by decide,rfl⟩ (fun i σ H2 _ ⟨_,_,_,_,_,e⟩=>by rw [e];exact SqL.of upd_same) ?_ ?_
    · rintro i y σ H2 hi ⟨z,v,rfl,h0,h1,rfl⟩
      obtain ⟨n,-,rfl⟩:=List.mem_map.mp (List.mem_of_getElem? hi)
      refine ⟨_,rfl,_,_,rfl,rfl,.inl ⟨by omega,by simp only [Big] at h1;omega⟩,_,rfl,_,_,rfl,rfl,.inr ⟨by decide,by decide⟩,_,_,rfl,rfl,_,_,rfl,rfl,_,_,rfl,rfl,(by show (0:Int)<2305843009213693951;decide),?_⟩
      exact ⟨_,_,rfl,Int.emod_nonneg _ (by decide),Int.emod_lt_of_pos _ (by decide),rfl⟩
    · rintro σ H2 ⟨z,v,rfl,h0,h1,rfl⟩
      intro p hp
      have s1:Same H (upd (upd H q (.lst (ns.map V.int))) p (.dK [])):=(Same.new hq).trans (Same.new hp)
      refine ⟨_,rfl,_,rfl,a,_,rfl,s1.seq hS,fun q2 hq2=>⟨q2,_,rfl,.inl (SqL.of upd_same),fun l hl=>⟨_,rfl,?_,drK l 0 0 z,rfl,by show 4≤15;decide,?_⟩⟩⟩
      · exact (Same.new hl) _ _ ((Same.new hq2) _ _ upd_same)
      · rw [hcut]
        have hpl:(upd (upd (upd (upd H q (.lst (ns.map V.int))) p (.dK [])) q2 (.lst (ns.map V.int))) l (.lst (ns.map V.int))) p=some (.dK []):=(Same.new (by rw [hcut] at hl;exact hl)) _ _ ((Same.new hq2) _ _ upd_same)
        have hlp:l≠p:=ne_of upd_same hpl (by intro z;cases z)
        refine k p l _ ⟨ns,0,0,z,upd_same,by rw [upd_ne hlp];exact upd_same,hlen,by decide,by omega,by decide,h0,h1⟩ ?_ ((Same.new hq).free hp)
        intro b u e
        have e1:=((Same.new (q:=l) (o:=.lst (ns.map V.int)) (by rw [hcut] at hl;exact hl)) _ _ ((Same.new hq2) _ _ (s1 b u e)))
        rw [upd_ne (ne_of_none ((Same.new hq) b u e) hp)]
        exact e1
def spPick:Sp:=fun vs H Q _=>∃ (p c:Addr) (m:Int),vs=[.ref p,.int m]∧Dr H p c∧0<m∧m<340282366920938463463374607431768211456∧∀ (r:Int) (H':Hp),0≤r→r<m→Dr H' p c→But p H H'→Q (.int r) H'
theorem scP:FnScope ["_law_d","_law_many","_law_cell","_law_digit","_law_one"] ["_law_d","_law_many"] (defScope (top 20)):=⟨rfl,rfl,rfl,by decide +kernel,rfl,by decide +kernel,by decide +kernel⟩
theorem ok_pick {f:Addr} {fd:FuncData} (F:Fun K "_law_pick" "_law_pick" (top 20) f fd) (T:Txt K mg):FnOk P w K mg base CX0 1 f fd ["_law_d","_law_many"] spPick:=by
  refine F.ok scP (fun vs H Q E h=>?_) (fun cdv A outer s H vs Q E hr h=>?_)
  · obtain ⟨p,c,m,rfl,_⟩:=h
    rfl
  · obtain ⟨p,c,m,rfl,D,m0,m1,k⟩:=h
    have hu:=hu_of hr
    refine ⟨_,(pss_cons
  (ps_if (PW.pt (pw_and (pt_cmpR op_eq (pe_dget hu (pv 0) pe_str (fun _ _=>rfl)) pe_int (nomark _)) (pw_and1 (pt_cmpR op_lt (pe_dget hu (pv 0) pe_str (fun _ _=>rfl)) (pe_callB call_len_seq (by rfl) T.len bt_len (pa_cons (pe_dget hu (pv 0) pe_str (fun _ _=>rfl)) pa_nil)) (nomark _))))) (pss_cons
  (ps_set (i:=2) scP.nd rfl (Or.inl rfl) (pe_ix ix_list (pe_dget hu (pv 0) pe_str (fun _ _=>rfl)) (pe_dget hu (pv 0) pe_str (fun _ _=>rfl)) (fun _ _=>rfl)))
  (pss_cons
  (ps_dput hu (pv 0) pe_str (pe_op op_add (pe_dget hu (pv 0) pe_str (fun _ _=>rfl)) pe_int) rfl)
  (pss_one
  (ps_if (pt_cmpR op_ge (pv 2) (pe_op op_pow pe_int pe_int) (nomark _)) (pss_one
  (ps_dput hu (pv 0) pe_str (pv 2) rfl)) (pss_one
  (ps_dput hu (pv 0) pe_str (pe_op op_mod (pe_op op_add (pe_op op_add (pe_op op_mul (pe_dget hu (pv 0) pe_str (fun _ _=>rfl)) pe_int) (pe_op op_mul (pv 2) pe_int)) pe_int) pe_int) rfl)))))) pss_nil)
  (pss_cons
  (ps_if (pt_cmpR op_gt (pe_dget hu (pv 0) pe_str (fun _ _=>rfl)) pe_int (nomark _)) (pss_cons
  (ps_set (i:=3) scP.nd rfl (Or.inl rfl) (pe_op op_mod (pe_dget hu (pv 0) pe_str (fun _ _=>rfl)) (pv 1)))
  (pss_cons
  (ps_dput hu (pv 0) pe_str (pe_op op_fdivW (pe_dget hu (pv 0) pe_str (fun _ _=>rfl)) (pv 1)) rfl)
  (pss_one
  (ps_ret (pv 3))))) pss_nil)
  (pss_cons
  (ps_set (i:=4) scP.nd rfl (Or.inl rfl) (pe_op op_mod (pe_op op_mul (pe_dget hu (pv 0) pe_str (fun _ _=>rfl)) (pe_dget hu (pv 0) pe_str (fun _ _=>rfl))) pe_int))
  (pss_cons
  (ps_dput hu (pv 0) pe_str (pe_op op_mod (pe_op op_add (pe_op op_add (pe_op op_mul (pv 4) pe_int) (pe_op op_mul (pe_dget hu (pv 0) pe_str (fun _ _=>rfl)) pe_int)) pe_int) pe_int) rfl)
  (pss_one
  (ps_ret (pe_op op_mod (pe_op op_fdiv (pe_dget hu (pv 0) pe_str (fun _ _=>rfl)) pe_int) (pv 1)))))))),?_⟩
    obtain ⟨ns,a,r,sd,h1,h2,hl,a0,a1,r0,s0,s1⟩:=D.ex
    have npc:c≠p:=ne_of h2 h1 (by intro z;cases z)
    have small:∀ {x y z:Int},(drK c x y z).length<sizeLine:=fun {x y z}=>small1000 (by show 4≤1000;decide)
    refine seq_by (fun σ' H'=>∃ (a' r' sd':Int) (v:Option V),σ'=[some (.ref p),some (.int m),v,none,none]∧H' p=some (.dK (drK c a' r' sd'))∧But p H H'∧0≤a'∧a'≤ns.length∧0≤r'∧0≤sd'∧sd'<Big) ?_ ?_
    · rintro σ' H1 ⟨a',r',sd',v,rfl,e1,bt,b0,b1,c0,d0,d1⟩
      have hc1:∀ o,(upd H1 p o) c=some (.lst (ns.map V.int)):=fun o=>by rw [upd_ne npc];exact bt c _ h2 npc
      refine ⟨_,rfl,p,_,rfl,grest e1,_,_,rfl,rfl,_,rfl,?_⟩
      refine ite2 (fun hpos=>?_) (fun _=>?_)
      · refine ⟨_,rfl,p,_,rfl,grest e1,_,rfl,_,_,rfl,rfl,m0,?_⟩
        refine ⟨_,rfl,p,_,rfl,grest e1,_,rfl,_,_,rfl,rfl,⟨m0,m1⟩,_,rfl,p,_,rfl,DPut.k (k:=Sum.inr "rest") e1 small,_,rfl,?_⟩
        rw [prest]
        exact k _ _ (Int.emod_nonneg _ (by omega)) (Int.emod_lt_of_pos _ m0) ⟨ns,a',r' / m,sd',upd_same,hc1 _,hl,b0,b1,Int.ediv_nonneg c0 (by omega),d0,d1⟩ (bt.trans But.upd)
      · have sq:CMul sd' sd':=.inl ⟨by omega,by simp only [Big] at d1;omega⟩
        refine ⟨_,rfl,p,_,rfl,gseed e1,_,rfl,p,_,rfl,gseed e1,_,_,rfl,rfl,sq,_,_,rfl,rfl,(by show (0:Int)<2305843009213693951;decide),?_⟩
        have u0:=Int.emod_nonneg (sd'*sd') (show (2305843009213693951:Int)≠0 by decide)
        have u1:=Int.emod_lt_of_pos (sd'*sd') (show (0:Int)<2305843009213693951 by decide)
        refine ⟨_,rfl,_,_,rfl,rfl,.inr ⟨by decide,by decide⟩,_,rfl,p,_,rfl,gseed e1,_,_,rfl,rfl,.inr ⟨by decide,by decide⟩,_,_,rfl,rfl,_,_,rfl,rfl,_,_,rfl,rfl,(by show (0:Int)<2305843009213693951;decide),_,rfl,p,_,rfl,DPut.k (k:=Sum.inr "seed") e1 small,?_⟩
        rw [pseed]
        generalize hsd:(sd'*sd' % 2305843009213693951*7+sd'*40503+12345) % 2305843009213693951=sn
        have v0:0≤sn:=hsd ▸ Int.emod_nonneg _ (by decide)
        have v1:sn<Big:=hsd ▸ Int.emod_lt_of_pos _ (by decide)
        refine ⟨_,rfl,p,_,rfl,gseed upd_same,_,_,rfl,rfl,⟨by decide,by decide⟩,_,rfl,_,_,rfl,rfl,m0,?_⟩
        exact k _ _ (Int.emod_nonneg _ (by omega)) (Int.emod_lt_of_pos _ m0) ⟨ns,a',r',sn,upd_same,hc1 _,hl,b0,b1,c0,v0,v1⟩ (bt.trans But.upd)
    · intro N hN
      refine ⟨_,rfl,p,_,rfl,grest h1,rfl,_,rfl,?_⟩
      refine ite2 (fun hz=>?_) (fun _=>?_)
      · refine ⟨_,rfl,p,_,rfl,gat h1,_,rfl,p,_,rfl,gcells h1,c,_,rfl,.inl (SqL.of h2),_,_,rfl,rfl,_,rfl,?_⟩
        rw [List.length_map]
        refine ite2 (fun hlt=>?_) (fun _=>?_)
        · have hlt:a<ns.length:=of_decide_eq_true hlt
          obtain ⟨z,hz'⟩:∃ z,ns[a.toNat]?=some z:=⟨_,List.getElem?_eq_getElem (by omega)⟩
          have hat:atI (ns.map V.int) a=some (.int z):=by
            have e:(a:Int)=((a.toNat:Nat):Int):=by omega
            rw [e]
            refine atI_nat ?_
            rw [List.getElem?_map,hz'];rfl
          refine ⟨_,rfl,p,_,rfl,gcells h1,_,rfl,p,_,rfl,gat h1,c,_,_,_,rfl,rfl,SqL.of h2,hat,?_⟩
          refine ⟨_,rfl,p,_,rfl,gat h1,_,_,rfl,rfl,_,rfl,p,_,rfl,DPut.k (k:=Sum.inr "at") h1 small,?_⟩
          rw [pat]
          refine ⟨_,rfl,_,_,rfl,rfl,⟨by decide,by decide,by decide⟩,_,_,rfl,rfl,_,rfl,?_⟩
          refine ite2 (fun hge=>?_) (fun _=>?_)
          · refine ⟨_,rfl,_,rfl,p,_,rfl,DPut.k (k:=Sum.inr "rest") upd_same small,?_⟩
            rw [prest]
            have hge:(10:Int) ^ 18≤z:=of_decide_eq_true hge
            exact hN _ _ ⟨a+1,z,sd,_,rfl,upd_same,But.upd.trans But.upd,by omega,by omega,by omega,s0,s1⟩
          · refine ⟨_,rfl,p,_,rfl,gseed upd_same,_,_,rfl,rfl,.inr ⟨by decide,by decide⟩,_,rfl,_,_,rfl,rfl,.inr ⟨by decide,by decide⟩,_,_,rfl,rfl,_,_,rfl,rfl,_,_,rfl,rfl,(by show (0:Int)<2305843009213693951;decide),_,rfl,p,_,rfl,DPut.k (k:=Sum.inr "seed") upd_same small,?_⟩
            rw [pseed]
            exact hN _ _ ⟨a+1,r,_,_,rfl,upd_same,But.upd.trans But.upd,by omega,by omega,r0,Int.emod_nonneg _ (by decide),Int.emod_lt_of_pos _ (by decide)⟩
        · exact hN _ _ ⟨a,r,sd,_,rfl,h1,But.refl,a0,a1,r0,s0,s1⟩
      · exact hN _ _ ⟨a,r,sd,_,rfl,h1,But.refl,a0,a1,r0,s0,s1⟩
end
end Cm
namespace Cm
open PySem L2
section
variable {P:Program} {w:World} {K:PySem.W.Frag} {mg:Str→Option Value} {base:Heap}
theorem Dr.dk {H:Hp} {p c:Addr} (d:Dr H p c):∃ kvs,H p=some (.dK kvs):=by
  obtain ⟨ns,a,r,s,h1,_⟩:=d.ex
  exact ⟨_,h1⟩
theorem Dr.seq {H H':Hp} {p c a:Addr} {xs:List V} (d:Dr H p c) (e:But p H H') (h:SqL K H a xs):SqL K H' a xs:=let ⟨_,hp⟩:=d.dk;e.seq hp h
theorem Dr.rep {H H':Hp} {p c:Addr} {v:V} {x:PyData} (d:Dr H p c) (e:But p H H') (h:Rep K H v x):Rep K H' v x:=let ⟨_,hp⟩:=d.dk;h.but e hp
theorem Dr.new {H:Hp} {p c q:Addr} {o:HO} (d:Dr H p c) (h:H q=none):Dr (upd H q o) p c:=d.mono (Same.new h)
def spOf (K:PySem.W.Frag):Sp:=fun vs H Q _=>∃ (p c q:Addr) (xs:List V),vs=[.ref p,.ref q]∧Dr H p c∧SqL K H q xs∧xs≠[]∧xs.length≤1000∧∀ (x:V) (H':Hp),x∈xs→Dr H' p c→But p H H'→Q x H'
theorem scO:FnScope ["_law_d","_law_things"] ["_law_d","_law_things"] (defScope (top 21)):=⟨rfl,rfl,rfl,by decide +kernel,rfl,by decide +kernel,by decide +kernel⟩
theorem ok_of {f fP:Addr} {fd fdP:FuncData} (F:Fun K "_law_of" "_law_of" (top 21) f fd) (T:Txt K mg) (DP:Def K mg "_law_pick" (top 20) ["_law_d","_law_many"] fP fdP):FnOk P w K mg base CX0 2 f fd ["_law_d","_law_things"] (spOf K):=by
  have GP:FnOk P w K mg base CX0 1 fP fdP ["_law_d","_law_many"] spPick:=ok_pick DP.F T
  refine F.ok scO (fun vs H Q E h=>?_) (fun cdv A outer s H vs Q E hr h=>?_)
  · obtain ⟨p,c,q,xs,rfl,_⟩:=h
    rfl
  · obtain ⟨p,c,q,xs,rfl,D,hq,hne,hl,k⟩:=h
    refine ⟨_,(pss_one (ps_ret (pe_ix ix_list (pv 1) (pe_call GP hr rfl DP.mg DP.F.kp DP.b .nil pass0 (pa_cons (pv 0) (pa_cons (pe_callB call_len_seq (by rfl) T.len bt_len (pa_cons (pv 1) pa_nil)) pa_nil))) (fun _ _=>rfl)))),?_⟩
    have hpos:0<xs.length:=List.length_pos_iff.mpr hne
    refine ⟨_,rfl,_,rfl,_,rfl,q,xs,rfl,(.inl hq),p,c,_,rfl,D,by omega,by omega,fun r H' r0 r1 D' bt=>?_⟩
    obtain ⟨j,rfl⟩:=Int.eq_ofNat_of_zero_le r0
    have hx:j<xs.length:=by omega
    exact ⟨q,xs,_,xs[j],rfl,rfl,D.seq bt hq,atI_nat (List.getElem?_eq_getElem hx),k _ _ (List.getElem_mem hx) D' bt⟩
def spS (K:PySem.W.Frag):Nat→Sp
  |0=>fun _ _ _ _=>False
  |n+1=>fun vs H Q _=>∃ (x y:V) (d:PyData),vs=[x,y]∧Rep K H x d∧Rep K H y d∧pdDep d≤n∧pdMax d≤100000∧∀ H':Hp,Same H H'→Q (.bl true) H'
theorem scS:FnScope ["_law_found","_law_due"] ["_law_found","_law_due"] (defScope (top 23)):=⟨rfl,rfl,rfl,by decide +kernel,rfl,by decide +kernel,by decide +kernel⟩
theorem bl_true {Q:VK} {v:V} {H:Hp} (h:Q (.bl true) H):Q (.bl (decide (v=v))) H:=by rw [decide_eq_true rfl];exact h
theorem ok_same {f:Addr} {fd:FuncData} (DS:Def K mg "_law_same" (top 23) ["_law_found","_law_due"] f fd) (T:Txt K mg) (n:Nat):FnOk P w K mg base CX0 n f fd ["_law_found","_law_due"] (spS K n):=by
  refine Nat.rec (motive:=fun n=>FnOk P w K mg base CX0 n f fd ["_law_found","_law_due"] (spS K n)) ⟨fun _ _ _ _ h=>h.elim,fun _ _ _ _ _ _ _ _ _ _ _ _ _ h=>h.elim⟩ (fun n GS=>?_) n
  refine DS.F.ok scS (fun vs H Q E h=>?_) (fun cdv A outer s H vs Q E hr h=>?_)
  · obtain ⟨x,y,d,rfl,_⟩:=h
    rfl
  · obtain ⟨x,y,d,rfl,hx,hy,hn,hm,k⟩:=h
    refine ⟨_,(pss_cons
  (ps_if (pt_cmpR op_isN (pv 1) pe_non (nomark _)) (pss_one
  (ps_ret (pe_cmpR op_isN (pv 0) pe_non (nomark _)))) pss_nil)
  (pss_cons
  (ps_if (PW.pt (pw_or (pt_val (pe_callB call_isT (by rfl) T.isinstance bt_isinstance (pa_cons (pv 1) (pa_cons (pe_ty rfl T.bool bt_bool) pa_nil)))) (pw_or1 (pt_val (pe_callB call_isT (by rfl) T.isinstance bt_isinstance (pa_cons (pv 0) (pa_cons (pe_ty rfl T.bool bt_bool) pa_nil))))))) (pss_one
  (ps_ret (pe_and (pe_callB call_isT (by rfl) T.isinstance bt_isinstance (pa_cons (pv 1) (pa_cons (pe_ty rfl T.bool bt_bool) pa_nil))) (pe_and (pe_callB call_isT (by rfl) T.isinstance bt_isinstance (pa_cons (pv 0) (pa_cons (pe_ty rfl T.bool bt_bool) pa_nil))) (pe_one (pe_cmpR op_eq (pv 0) (pv 1) (nomark _))))))) pss_nil)
  (pss_cons
  (ps_if (pt_val (pe_callB call_isT2 (by rfl) T.isinstance bt_isinstance (pa_cons (pv 1) (pa_cons (pe_tup (pa_cons (pe_ty rfl T.int bt_int) (pa_cons (pe_ty rfl T.str bt_str) pa_nil))) pa_nil)))) (pss_one
  (ps_ret (pe_and (pe_callB call_isT2 (by rfl) T.isinstance bt_isinstance (pa_cons (pv 0) (pa_cons (pe_tup (pa_cons (pe_ty rfl T.int bt_int) (pa_cons (pe_ty rfl T.str bt_str) pa_nil))) pa_nil))) (pe_and (pe_cmpR op_eq (pe_callB call_isT (by rfl) T.isinstance bt_isinstance (pa_cons (pv 0) (pa_cons (pe_ty rfl T.int bt_int) pa_nil))) (pe_callB call_isT (by rfl) T.isinstance bt_isinstance (pa_cons (pv 1) (pa_cons (pe_ty rfl T.int bt_int) pa_nil))) (nomark _)) (pe_one (pe_cmpR op_eq (pv 0) (pv 1) (nomark _))))))) pss_nil)
  (pss_cons
  (ps_if (PW.pt (pw_or (pt_cmpR op_ne (pe_callB call_isT (by rfl) T.isinstance bt_isinstance (pa_cons (pv 1) (pa_cons (pe_ty rfl T.list bt_list) pa_nil))) (pe_callB call_isT (by rfl) T.isinstance bt_isinstance (pa_cons (pv 0) (pa_cons (pe_ty rfl T.list bt_list) pa_nil))) (nomark _)) (pw_or1 (pt_cmpR op_ne (pe_callB call_isT (by rfl) T.isinstance bt_isinstance (pa_cons (pv 1) (pa_cons (pe_ty rfl T.tuple bt_tuple) pa_nil))) (pe_callB call_isT (by rfl) T.isinstance bt_isinstance (pa_cons (pv 0) (pa_cons (pe_ty rfl T.tuple bt_tuple) pa_nil))) (nomark _))))) (pss_one
  (ps_ret pe_bl)) pss_nil)
  (pss_one
  (ps_ret (pe_and (pe_cmpR op_eq (pe_callB call_len_seq (by rfl) T.len bt_len (pa_cons (pv 0) pa_nil)) (pe_callB call_len_seq (by rfl) T.len bt_len (pa_cons (pv 1) pa_nil)) (nomark _)) (pe_one (pe_callB (call_allB rfl) (by rfl) T.all bt_all (pa_cons (pe_comp (own:=["_law_k"]) (js:=[0,1]) (N':=["_law_k","_law_found","_law_due"]) (CompScope.of (osc:=defScope (top 23)) (N:=["_law_found","_law_due"]) rfl rfl ⟨rfl,by decide +kernel,by decide +kernel,by decide +kernel,rfl,by decide +kernel⟩) rfl (pi_range1 rfl T.range (pa_cons (pe_callB call_len_seq (by rfl) T.len bt_len (pa_cons (pv 1) pa_nil)) pa_nil)) (fun _ _ _ _ _=>(pg_name (i:=0) (show List.Nodup (["_law_k","_law_found","_law_due"]:List Str) by decide +kernel) rfl (Or.inl rfl) (Or.inr rfl))) (fun _ _ _ _ _=>pifs_nil) (fun _ _ _ _ _=>(pe_call GS hr rfl DS.mg DS.F.kp DS.b .nil pass0 (pa_cons (pe_ix (r:=rIx K) ix_seq (pv 1) (pv 0) (fun _ _=>rfl)) (pa_cons (pe_ix (r:=rIx K) ix_seq (pv 2) (pv 0) (fun _ _=>rfl)) pa_nil))))) pa_nil)))))))))),?_⟩
    have z2:2≤sizeLine:=by decide
    cases hx with
    | non=>
      cases hy
      refine ⟨_,rfl,rfl,_,rfl,ifT rfl ?_⟩
      exact ⟨_,rfl,rfl,k _ (Same.refl _)⟩
    | bl b=>
      cases hy
      refine ⟨_,rfl,rfl,_,rfl,ifF rfl ?_⟩
      refine ⟨_,rfl,_,_,_,_,rfl,(.bl b),rfl,_,rfl,ifT rfl (ifT rfl ?_)⟩
      exact ⟨_,rfl,_,_,_,_,rfl,(.bl b),rfl,_,rfl,ifT rfl ⟨_,rfl,_,_,_,_,rfl,(.bl b),rfl,_,rfl,ifT rfl ⟨_,rfl,_,rfl,rfl,bl_true (k _ (Same.refl _))⟩⟩⟩
    | int i=>
      cases hy
      refine ⟨_,rfl,rfl,_,rfl,ifF rfl ?_⟩
      refine ⟨_,rfl,_,_,_,_,rfl,(.int i),rfl,_,rfl,ifF rfl ?_⟩
      refine ⟨_,rfl,_,_,_,_,rfl,(.int i),rfl,_,rfl,ifF rfl ?_⟩
      refine ⟨_,rfl,z2,fun p hp=>⟨_,p,_,_,_,_,rfl,upd_same,.int i,rfl,_,rfl,ifT rfl ?_⟩⟩
      refine ⟨_,rfl,z2,fun p2 hp2=>⟨_,p2,_,_,_,_,rfl,upd_same,.int i,rfl,_,rfl,ifT rfl ?_⟩⟩
      refine ⟨_,rfl,_,_,_,_,rfl,.int i,rfl,_,rfl,_,_,_,_,rfl,.int i,rfl,rfl,_,rfl,?_⟩
      exact ifT rfl ⟨_,rfl,_,rfl,rfl,bl_true (k _ ((Same.new hp).trans (Same.new hp2)))⟩
    | str z=>
      cases hy
      refine ⟨_,rfl,rfl,_,rfl,ifF rfl ?_⟩
      refine ⟨_,rfl,_,_,_,_,rfl,(.str z),rfl,_,rfl,ifF rfl ?_⟩
      refine ⟨_,rfl,_,_,_,_,rfl,(.str z),rfl,_,rfl,ifF rfl ?_⟩
      refine ⟨_,rfl,z2,fun p hp=>⟨_,p,_,_,_,_,rfl,upd_same,.str z,rfl,_,rfl,ifT rfl ?_⟩⟩
      refine ⟨_,rfl,z2,fun p2 hp2=>⟨_,p2,_,_,_,_,rfl,upd_same,.str z,rfl,_,rfl,ifT rfl ?_⟩⟩
      refine ⟨_,rfl,_,_,_,_,rfl,.str z,rfl,_,rfl,_,_,_,_,rfl,.str z,rfl,rfl,_,rfl,?_⟩
      exact ifT rfl ⟨_,rfl,_,rfl,rfl,bl_true (k _ ((Same.new hp).trans (Same.new hp2)))⟩
    | tup g rs=>
      cases hy with
      | tup g2 rs2=>
        rename_i a1 xs1 ds a2 xs2
        refine ⟨_,rfl,rfl,_,rfl,ifF rfl ?_⟩
        refine ⟨_,rfl,_,_,_,_,rfl,(.tup g2 rs2),rfl,_,rfl,ifF rfl ?_⟩
        refine ⟨_,rfl,_,_,_,_,rfl,(.tup g rs),rfl,_,rfl,ifF rfl ?_⟩
        refine ⟨_,rfl,z2,fun p hp=>⟨_,p,_,_,_,_,rfl,upd_same,Rep.same (.tup g2 rs2) (Same.new hp),rfl,_,rfl,ifF rfl ?_⟩⟩
        have s1:Same H (upd H p (.tup [.ty "int",.ty "str"])):=Same.new hp
        refine ⟨_,rfl,_,_,_,_,rfl,(Rep.same (.tup g2 rs2) s1),rfl,_,rfl,_,_,_,_,rfl,(Rep.same (.tup g rs) s1),rfl,rfl,_,rfl,ifF rfl ?_⟩
        refine ⟨_,rfl,_,_,_,_,rfl,(Rep.same (.tup g2 rs2) s1),rfl,_,rfl,_,_,_,_,rfl,(Rep.same (.tup g rs) s1),rfl,rfl,_,rfl,ifF rfl ?_⟩
        refine ⟨_,rfl,_,_,rfl,.inr (s1.tup g),_,rfl,_,_,rfl,.inr (s1.tup g2),rfl,_,rfl,?_⟩
        have l1:=rs.length
        have l2:=rs2.length
        have hm':xs2.length≤100000:=by simp only [pdMax] at hm;omega
        have hl:xs1.length=xs2.length:=by omega
        generalize upd H p (.tup [.ty "int",.ty "str"])=H1 at s1 ⊢
        refine ifT (by rw [hl];simp) ?_
        obtain ⟨n,rfl⟩:∃ n',n=n'+1:=⟨n-1,by simp only [pdDep] at hn;omega⟩
        refine ⟨_,rfl,_,_,rfl,.inr (s1.tup g2),_,rfl,by omega,by omega,?_⟩
        refine comp_range (n:=xs2.length) (fun i ys σ' H'=>∃ (v:Option V),ys=(List.replicate i true).map V.bl∧σ'=[v,some _,some _]∧Same H1 H') (by exact Nat.le_trans hm' (by decide)) ⟨none,rfl,rfl,Same.refl _⟩ ?_ ?_
        · rintro i ys σ' H' hi hys ⟨v,rfl,rfl,s2⟩ N hN
          obtain ⟨d1,e1,r1⟩:=rs.get' (i:=i) (x:=xs1[i]) (List.getElem?_eq_getElem (by omega))
          obtain ⟨d2,e2,r2⟩:=rs2.get' (i:=i) (x:=xs2[i]) (List.getElem?_eq_getElem hi)
          rw [e1] at e2
          cases e2
          have m1:=List.mem_of_getElem? e1
          have q1:=pdDep_le m1
          have q2:=pdMax_le m1
          have at1:atI xs1 (0+(i:Int))=some xs1[i]:=by rw [Int.zero_add];exact atI_nat (List.getElem?_eq_getElem (by omega))
          have at2:atI xs2 (0+(i:Int))=some xs2[i]:=by rw [Int.zero_add];exact atI_nat (List.getElem?_eq_getElem hi)
          refine ⟨_,rfl,_,rfl,.inr (.inl ⟨_,_,_,_,rfl,rfl,(s1.trans s2).tup g,at1,?_⟩)⟩
          refine ⟨_,rfl,_,rfl,.inr (.inl ⟨_,_,_,_,rfl,rfl,(s1.trans s2).tup g2,at2,?_⟩)⟩
          refine ⟨_,_,d1,rfl,r1.same (s1.trans s2),r2.same (s1.trans s2),?_,?_,fun H'' s3=>?_⟩
          · simp only [pdDep] at hn;omega
          · simp only [pdMax] at hm;omega
          exact hN _ _ _ (by simp) ⟨_,by rw [List.replicate_succ',List.map_append];rfl,rfl,s2.trans s3⟩
        · rintro ys σ' H' hys ⟨v,rfl,rfl,s2⟩
          refine ⟨by rw [List.length_map,List.length_replicate];exact Nat.le_trans hm' (by decide),fun q hq=>⟨q,_,rfl,SqL.of upd_same,?_⟩⟩
          show Q (.bl ((List.replicate xs2.length true).all id)) _
          rw [show (List.replicate xs2.length true).all id=true by simp]
          exact k _ ((s1.trans s2).trans (Same.new hq))
    | lst g rs=>
      cases hy with
      | lst g2 rs2=>
        rename_i a1 xs1 ds a2 xs2
        refine ⟨_,rfl,rfl,_,rfl,ifF rfl ?_⟩
        refine ⟨_,rfl,_,_,_,_,rfl,(.lst g2 rs2),rfl,_,rfl,ifF rfl ?_⟩
        refine ⟨_,rfl,_,_,_,_,rfl,(.lst g rs),rfl,_,rfl,ifF rfl ?_⟩
        refine ⟨_,rfl,z2,fun p hp=>⟨_,p,_,_,_,_,rfl,upd_same,Rep.same (.lst g2 rs2) (Same.new hp),rfl,_,rfl,ifF rfl ?_⟩⟩
        have s1:Same H (upd H p (.tup [.ty "int",.ty "str"])):=Same.new hp
        refine ⟨_,rfl,_,_,_,_,rfl,(Rep.same (.lst g2 rs2) s1),rfl,_,rfl,_,_,_,_,rfl,(Rep.same (.lst g rs) s1),rfl,rfl,_,rfl,ifF rfl ?_⟩
        refine ⟨_,rfl,_,_,_,_,rfl,(Rep.same (.lst g2 rs2) s1),rfl,_,rfl,_,_,_,_,rfl,(Rep.same (.lst g rs) s1),rfl,rfl,_,rfl,ifF rfl ?_⟩
        refine ⟨_,rfl,_,_,rfl,.inl (s1.seq g),_,rfl,_,_,rfl,.inl (s1.seq g2),rfl,_,rfl,?_⟩
        have l1:=rs.length
        have l2:=rs2.length
        have hm':xs2.length≤100000:=by simp only [pdMax] at hm;omega
        have hl:xs1.length=xs2.length:=by omega
        generalize upd H p (.tup [.ty "int",.ty "str"])=H1 at s1 ⊢
        refine ifT (by rw [hl];simp) ?_
        obtain ⟨n,rfl⟩:∃ n',n=n'+1:=⟨n-1,by simp only [pdDep] at hn;omega⟩
        refine ⟨_,rfl,_,_,rfl,.inl (s1.seq g2),_,rfl,by omega,by omega,?_⟩
        refine comp_range (n:=xs2.length) (fun i ys σ' H'=>∃ (v:Option V),ys=(List.replicate i true).map V.bl∧σ'=[v,some _,some _]∧Same H1 H') (by exact Nat.le_trans hm' (by decide)) ⟨none,rfl,rfl,Same.refl _⟩ ?_ ?_
        · rintro i ys σ' H' hi hys ⟨v,rfl,rfl,s2⟩ N hN
          obtain ⟨d1,e1,r1⟩:=rs.get' (i:=i) (x:=xs1[i]) (List.getElem?_eq_getElem (by omega))
          obtain ⟨d2,e2,r2⟩:=rs2.get' (i:=i) (x:=xs2[i]) (List.getElem?_eq_getElem hi)
          rw [e1] at e2
          cases e2
          have m1:=List.mem_of_getElem? e1
          have q1:=pdDep_le m1
          have q2:=pdMax_le m1
          have at1:atI xs1 (0+(i:Int))=some xs1[i]:=by rw [Int.zero_add];exact atI_nat (List.getElem?_eq_getElem (by omega))
          have at2:atI xs2 (0+(i:Int))=some xs2[i]:=by rw [Int.zero_add];exact atI_nat (List.getElem?_eq_getElem hi)
          refine ⟨_,rfl,_,rfl,.inl ⟨_,_,_,_,rfl,rfl,(s1.trans s2).seq g,at1,?_⟩⟩
          refine ⟨_,rfl,_,rfl,.inl ⟨_,_,_,_,rfl,rfl,(s1.trans s2).seq g2,at2,?_⟩⟩
          refine ⟨_,_,d1,rfl,r1.same (s1.trans s2),r2.same (s1.trans s2),?_,?_,fun H'' s3=>?_⟩
          · simp only [pdDep] at hn;omega
          · simp only [pdMax] at hm;omega
          exact hN _ _ _ (by simp) ⟨_,by rw [List.replicate_succ',List.map_append];rfl,rfl,s2.trans s3⟩
        · rintro ys σ' H' hys ⟨v,rfl,rfl,s2⟩
          refine ⟨by rw [List.length_map,List.length_replicate];exact Nat.le_trans hm' (by decide),fun q hq=>⟨q,_,rfl,SqL.of upd_same,?_⟩⟩
          show Q (.bl ((List.replicate xs2.length true).all id)) _
          rw [show (List.replicate xs2.length true).all id=true by simp]
          exact k _ ((s1.trans s2).trans (Same.new hq))
end
end Cm
namespace Cm
open PySem L2
def Lc (x:Str):Prop:=∀ c∈x.cps.toList,97≤c∧c≤122
structure Nm (x:Str):Prop where
  lo:1≤x.length
  hi:x.length≤8
  lc:Lc x
theorem Lc.app {x y:Str} (a:Lc x) (b:Lc y):Lc (x++y):=fun c hc=>by
  rw [Str.cps_append,Array.toList_append,List.mem_append] at hc
  exact hc.elim (a c) (b c)
theorem join_cps (sep:Str) (hs:sep.cps.toList=[]):∀ ys:List Str,(Str.join sep ys).cps.toList=(ys.map (·.cps.toList)).flatten
  |[]=>rfl
  |[x]=>by show x.cps.toList=_;simp
  | x::y::r=>by
    show (x++sep++Str.join sep (y::r)).cps.toList=_
    rw [Str.cps_append,Array.toList_append,Str.cps_append,Array.toList_append,hs,List.append_nil,join_cps sep hs (y::r),List.map_cons (l:=y::r),List.flatten_cons]
theorem txt_join (sep:Str) (ys:List Str):PySem.Txt.join sep ys=Str.join sep ys:=by
  show PySem.Builtin.Str.glued sep ys=_
  rw [PySem.StrLaws.glued_eq_join]
theorem len_cps (x:Str):x.length=x.cps.toList.length:=by simp [Str.length]
section
variable {P:Program} {w:World} {K:PySem.W.Frag} {mg:Str→Option Value} {base:Heap}
def spWord:Sp:=fun vs H Q _=>∃ (p dc:Addr),vs=[.ref p]∧Dr H p dc∧∀ (x:Str) (H':Hp),Nm x→Dr H' p dc→But p H H'→Q (.str x) H'
theorem scW:FnScope ["_law_d","_law_letters","_law_first","_law_size","_law_some"] ["_law_d"] (defScope (top 24)):=⟨rfl,rfl,rfl,by decide +kernel,rfl,by decide +kernel,by decide +kernel⟩
theorem letters_at {i:Int} {c:Nat} (h:atI ("abcdefghijklmnopqrstuvwxyz" : Str).cps.toList i=some c):97≤c∧c≤122:=by
  have:c∈("abcdefghijklmnopqrstuvwxyz" : Str).cps.toList:=by
    unfold atI at h
    obtain ⟨j,_,e⟩:=Option.bind_eq_some_iff.mp h
    exact List.mem_of_getElem? e
  have all:∀ c∈("abcdefghijklmnopqrstuvwxyz" : Str).cps.toList,97≤c∧c≤122:=by decide +kernel
  exact all c this
theorem ok_word {f fP fO:Addr} {fd fdP fdO:FuncData} (F:Fun K "_law_word" "_law_word" (top 24) f fd) (T:Txt K mg) (DP:Def K mg "_law_pick" (top 20) ["_law_d","_law_many"] fP fdP) (DO:Def K mg "_law_of" (top 21) ["_law_d","_law_things"] fO fdO) :
    FnOk P w K mg base CX0 3 f fd ["_law_d"] spWord:=by
  have GP:FnOk P w K mg base CX0 1 fP fdP ["_law_d","_law_many"] spPick:=ok_pick DP.F T
  have GO:FnOk P w K mg base CX0 2 fO fdO ["_law_d","_law_things"] (spOf K):=ok_of DO.F T DP
  refine F.ok scW (fun vs H Q E h=>?_) (fun cdv A outer s H vs Q E hr h=>?_)
  · obtain ⟨p,dc,rfl,_⟩:=h
    rfl
  · obtain ⟨p,dc,rfl,D,k⟩:=h
    have hr1:Room 1 _:=hr.mono (by decide)
    refine ⟨_,(pss_cons
  (ps_set (i:=1) scW.nd rfl (Or.inr rfl) pe_str)
  (pss_cons
  (ps_set (i:=2) scW.nd rfl (Or.inl rfl) (pe_call GO hr rfl DO.mg DO.F.kp DO.b .nil pass0 (pa_cons (pv 0) (pa_cons (pe_lst (pa_cons pe_str (pa_cons pe_str (pa_cons pe_str (pa_cons pe_str (pa_cons pe_str pa_nil)))))) pa_nil))))
  (pss_cons
  (ps_set (i:=3) scW.nd rfl (Or.inl rfl) (pe_op op_add pe_int (pe_call GP hr1 rfl DP.mg DP.F.kp DP.b .nil pass0 (pa_cons (pv 0) (pa_cons (pe_op op_sub pe_int (pe_callB call_len_str (by rfl) T.len bt_len (pa_cons (pv 2) pa_nil))) pa_nil)))))
  (pss_cons
  (ps_set (i:=4) scW.nd rfl (Or.inl rfl) (pe_bm PySem.F.plainAttrs_str PySem.F.slot_str_join PySem.F.type_str_join mt_join pe_str (pa_cons (pe_comp (own:=["_law_k"]) (js:=[1,0]) (N':=["_law_k","_law_letters","_law_d"]) (CompScope.of (osc:=defScope (top 24)) (N:=["_law_d","_law_letters","_law_first","_law_size","_law_some"]) rfl rfl ⟨rfl,by decide +kernel,by decide +kernel,by decide +kernel,rfl,by decide +kernel⟩) rfl (pi_range1 rfl T.range (pa_cons (pv 3) pa_nil)) (fun _ _ _ _ _=>(pg_name (i:=0) (show List.Nodup (["_law_k","_law_letters","_law_d"]:List Str) by decide +kernel) rfl (Or.inl rfl) (Or.inr rfl))) (fun _ _ _ _ _=>pifs_nil) (fun _ _ _ _ _=>(pe_ix (r:=rIxS) ix_str (pv 1) (pe_call GP hr1 rfl DP.mg DP.F.kp DP.b .nil pass0 (pa_cons (pv 2) (pa_cons pe_int pa_nil))) (fun _ _=>rfl)))) pa_nil)))
  (pss_one
  (ps_ret (pe_ix ix_list (pe_lst (pa_cons (pe_op op_add_str (pv 2) (pv 4)) (pa_cons (pe_op op_add_str (pv 4) (pv 2)) pa_nil))) (pe_call GP hr1 rfl DP.mg DP.F.kp DP.b .nil pass0 (pa_cons (pv 0) (pa_cons pe_int pa_nil))) (fun _ _=>rfl)))))))),?_⟩
    refine ⟨_,rfl,(show 5≤sizeLine by decide),fun q hq=>?_⟩
    refine ⟨p,dc,q,_,rfl,D.new hq,SqL.of upd_same,by simp,by simp,fun x H1 hx D1 b1=>?_⟩
    obtain ⟨z,rfl,hz,lz⟩:∃ z:Str,x=.str z∧z.length≤7∧Lc z:=by
      simp only [List.mem_cons,List.not_mem_nil,or_false] at hx
      rcases hx with rfl|rfl|rfl|rfl|rfl
      all_goals exact ⟨_,rfl,by decide +kernel,by unfold Lc;decide +kernel⟩
    refine ⟨_,rfl,_,rfl,z,rfl,Nat.le_trans hz (by decide),_,_,rfl,rfl,p,dc,_,rfl,D1,by omega,by omega,fun r H2 r0 r1 D2 b2=>?_⟩
    refine ⟨_,_,rfl,rfl,?_⟩
    refine ⟨rfl,_,rfl,_,rfl,by omega,by omega,?_⟩
    refine comp_range (n:=(1+r).toNat) (fun i ys σ' H'=>∃ (cs:List Str) (v:Option V),ys=cs.map V.str∧σ'=[v,some (.str "abcdefghijklmnopqrstuvwxyz"),some (.ref p)]∧Dr H' p dc∧But p H2 H'∧∀ c∈cs,c.length=1∧Lc c) (Nat.le_trans (show (1+r).toNat≤8 by omega) (by decide)) ⟨[],none,rfl,rfl,D2,But.refl,fun _ h=>nomatch h⟩ ?_ ?_
    · rintro i ys σ' H' hi hys ⟨cs,v,rfl,rfl,D3,b3,hc⟩ N hN
      refine ⟨_,rfl,_,rfl,p,dc,_,rfl,D3,by decide,by decide,fun r' H4 r0' r1' D4 b4=>?_⟩
      obtain ⟨j,rfl⟩:=Int.eq_ofNat_of_zero_le r0'
      obtain ⟨c,hcj⟩:∃ c,("abcdefghijklmnopqrstuvwxyz" : Str).cps.toList[j]?=some c:=⟨_,List.getElem?_eq_getElem (by show j<26;omega)⟩
      have hat:atI ("abcdefghijklmnopqrstuvwxyz" : Str).cps.toList (j:Int)=some c:=atI_nat hcj
      refine ⟨_,_,c,rfl,rfl,(show 26≤sizeLine by decide),hat,?_⟩
      refine hN _ _ _ (by simpa using hys) ⟨cs++[⟨#[c]⟩],_,by simp,rfl,D4,b3.trans b4,fun c' hc'=>?_⟩
      rcases List.mem_append.mp hc' with hc'|hc'
      · exact hc c' hc'
      · obtain rfl:c'=⟨#[c]⟩:=by simpa using hc'
        refine ⟨rfl,fun x hx=>?_⟩
        obtain rfl:x=c:=by simpa using hx
        exact letters_at hat
    · rintro ys σ' H' hys ⟨cs,v,rfl,rfl,D3,b3,hc⟩
      rw [List.length_map] at hys
      refine ⟨by rw [List.length_map,hys];exact Nat.le_trans (show (1+r).toNat≤8 by omega) (by decide),fun q2 hq2=>?_⟩
      have hsum:(cs.map (·.length)).sum=cs.length:=by
        clear hys
        induction cs with
        |nil=>rfl
        |cons c t ih=>rw [List.map_cons,List.sum_cons,ih fun d hd=>hc d (List.mem_cons_of_mem _ hd),(hc c List.mem_cons_self).1,List.length_cons,Nat.add_comm]
      refine ⟨_,q2,cs,rfl,rfl,SqL.of upd_same,by rw [hsum,show (Str.ofString "").length=0 from rfl];omega,?_⟩
      rw [txt_join]
      have jl:(Str.join (Str.ofString "") cs).length=cs.length:=by
        rw [len_cps,join_cps _ rfl,List.length_flatten,List.map_map,← hsum]
        congr 1
      have jc:Lc (Str.join (Str.ofString "") cs):=fun x hx=>by
        rw [join_cps _ rfl] at hx
        obtain ⟨l,hl,hxl⟩:=List.mem_flatten.mp hx
        obtain ⟨c,hcm,rfl⟩:=List.mem_map.mp hl
        exact (hc c hcm).2 x hxl
      generalize Str.join (Str.ofString "") cs=js at jl jc
      have hj8:js.length+z.length≤8∧1≤js.length:=by omega
      refine ⟨_,rfl,_,rfl,_,_,rfl,rfl,Nat.le_trans (show z.length+js.length≤8 by omega) (by decide),_,rfl,_,rfl,_,_,rfl,rfl,Nat.le_trans (show js.length+z.length≤8 by omega) (by decide),(show 2≤sizeLine by decide),fun q3 hq3=>?_⟩
      have D4:Dr _ p dc:=(D3.new (o:=.lst (cs.map V.str)) hq2).new (o:=.lst [.str (z++js),.str (js++z)]) hq3
      refine ⟨_,rfl,p,dc,_,rfl,D4,by decide,by decide,fun r' H5 r0' r1' D5 b5=>?_⟩
      have nm1:Nm (z++js):=⟨by rw [Str.length_append];omega,by rw [Str.length_append];omega,lz.app jc⟩
      have nm2:Nm (js++z):=⟨by rw [Str.length_append];omega,by rw [Str.length_append];omega,jc.app lz⟩
      have bt:But p H H5:=((((But.new hq).trans b1).trans b2).trans b3).trans (((But.new hq2).trans (But.new hq3)).trans b5)
      have hq5:SqL K H5 q3 [.str (z++js),.str (js++z)]:=D4.seq b5 (SqL.of upd_same)
      by_cases h0:r'=0
      · subst h0
        exact ⟨_,_,_,_,rfl,rfl,hq5,rfl,k _ _ nm1 D5 bt⟩
      · obtain rfl:r'=1:=by omega
        exact ⟨_,_,_,_,rfl,rfl,hq5,rfl,k _ _ nm2 D5 bt⟩
end
end Cm
namespace Cm
open PySem L2
theorem uni:∀ c<128,Unicode.isAlpha c=(decide (65≤c∧c≤90) || decide (97≤c∧c≤122))∧Unicode.isLower c=decide (97≤c∧c≤122)∧Unicode.isUpper c=decide (65≤c∧c≤90)∧Unicode.isTitle c=false:=by decide +kernel
def nameB (x:Str):Bool:=decide (x.length≤8) && (x.cps.all (·<128) && ((x.length > 0 && x.cps.all Unicode.isAlpha) && (x.cps.any Unicode.isLower && !x.cps.any fun c=>Unicode.isUpper c || Unicode.isTitle c)))
theorem nameB_iff (x:Str):nameB x=true↔Nm x:=by
  unfold nameB
  simp only [Bool.and_eq_true,decide_eq_true_eq,Bool.not_eq_true',← Array.all_toList,← Array.any_toList,List.all_eq_true,List.any_eq_true,List.any_eq_false]
  constructor
  · rintro ⟨h8,ha,⟨h0,hal⟩,⟨c0,hc0,hl0⟩,hu⟩
    refine ⟨h0,h8,fun c hc=>?_⟩
    have c1:c<128:=ha c hc
    obtain ⟨u1,u2,u3,u4⟩:=uni c c1
    have a1:=hal c hc
    have a2:=hu c hc
    rw [u1] at a1
    rw [u3,u4] at a2
    simp at a1 a2
    omega
  · rintro ⟨h0,h8,lc⟩
    have cc:∀ c∈x.cps.toList,c<128∧97≤c∧c≤122:=fun c hc=>⟨by have:=lc c hc;omega,lc c hc⟩
    refine ⟨h8,fun c hc=>(cc c hc).1,⟨h0,fun c hc=>?_⟩,?_,fun c hc=>?_⟩
    · rw [(uni c (cc c hc).1).1];simp [(cc c hc).2]
    · rw [len_cps] at h0
      obtain ⟨c,hc⟩:=List.exists_mem_of_length_pos (show 0<x.cps.toList.length by omega)
      exact ⟨c,hc,by rw [(uni c (cc c hc).1).2.1];simp [(cc c hc).2]⟩
    · rw [(uni c (cc c hc).1).2.2.1,(uni c (cc c hc).1).2.2.2]
      have:=(cc c hc).2
      simp;omega
structure TxtK (mg:Str→Option Value):Prop where
  ml:∃ t,mg "MOST_LETTERS" = some (.int 8 t)
section
variable {P:Program} {w:World} {K:PySem.W.Frag} {mg:Str→Option Value} {base:Heap}
def spIsName:Sp:=fun vs H Q _=>∃ x:Str,vs=[.str x]∧x.length≤sizeLine∧Q (.bl (nameB x)) H
theorem scIN:FnScope ["text"] ["text"] (defScope (top 5)):=⟨rfl,rfl,rfl,by decide +kernel,rfl,by decide +kernel,by decide +kernel⟩
theorem ok_isname {f:Addr} {fd:FuncData} (F:Fun K "is_name" "is_name" (top 5) f fd) (T:Txt K mg) (TK:TxtK mg):FnOk P w K mg base CX0 1 f fd ["text"] spIsName:=by
  refine F.ok scIN (fun vs H Q E h=>?_) (fun cdv A outer s H vs Q E hr h=>?_)
  · obtain ⟨x,rfl,_⟩:=h
    rfl
  · obtain ⟨x,rfl,hl,k⟩:=h
    obtain ⟨t8,m8⟩:=TK.ml
    refine ⟨_,(pss_one
  (ps_ret (pe_and (pe_cmpR op_le (pe_callB call_len_str (by rfl) T.len bt_len (pa_cons (pv 0) pa_nil)) (pe_glob (v:=.int 8) rfl m8 ⟨_,rfl⟩) (nomark _)) (pe_and (pe_bm0 PySem.F.plainAttrs_str PySem.F.slot_str_isascii PySem.F.type_str_isascii mt_isascii (pv 0)) (pe_and (pe_bm0 PySem.F.plainAttrs_str PySem.F.slot_str_isalpha PySem.F.type_str_isalpha mt_isalpha (pv 0)) (pe_one (pe_bm0 PySem.F.plainAttrs_str PySem.F.slot_str_islower PySem.F.type_str_islower mt_islower (pv 0)))))))),?_⟩
    refine ⟨_,rfl,x,rfl,hl,_,_,rfl,rfl,_,rfl,?_⟩
    unfold nameB at k
    by_cases h8:x.length≤8
    · refine ifT (by simp;omega) ⟨_,rfl,rfl,x,rfl,rfl,_,rfl,?_⟩
      rw [decide_eq_true h8,Bool.true_and] at k
      cases h1:x.cps.all (·<128) with
      |false=>rw [h1] at k;exact ifF h1 k
      | true=>
        rw [h1,Bool.true_and] at k
        refine ifT h1 ⟨_,rfl,rfl,x,rfl,rfl,_,rfl,?_⟩
        cases h2:(x.length > 0 && x.cps.all Unicode.isAlpha) with
        |false=>rw [h2] at k;exact ifF h2 k
        | true=>
          rw [h2,Bool.true_and] at k
          exact ifT h2 ⟨_,rfl,rfl,x,rfl,rfl,k⟩
    · refine ifF (by simp;omega) ?_
      rw [decide_eq_false h8,Bool.false_and] at k
      exact k
end
abbrev Far:Int:=200000000000000000000000000000
def Asc (x:Str):Prop:=x.cps.all (·<128)=true
end Cm
namespace Cm
open PySem L2 PySem.W
section
variable {P:Program} {w:World} {K:PySem.W.Frag} {mg:Str→Option Value} {base:Heap}
def spFar:Sp:=fun vs H Q _=>∃ (p dc:Addr),vs=[.ref p]∧Dr H p dc∧∀ (z:Int) (H':Hp),-Far≤z→z≤Far→Dr H' p dc→But p H H'→Q (.int z) H'
theorem scFar:FnScope ["_law_d","_law_number"] ["_law_d"] (defScope (top 22)):=⟨rfl,rfl,rfl,by decide +kernel,rfl,by decide +kernel,by decide +kernel⟩
theorem ok_far {f fP:Addr} {fd fdP:FuncData} (F:Fun K "_law_far" "_law_far" (top 22) f fd) (T:Txt K mg) (DP:Def K mg "_law_pick" (top 20) ["_law_d","_law_many"] fP fdP):FnOk P w K mg base CX0 2 f fd ["_law_d"] spFar:=by
  have GP:FnOk P w K mg base CX0 1 fP fdP ["_law_d","_law_many"] spPick:=ok_pick DP.F T
  refine F.ok scFar (fun vs H Q E h=>?_) (fun cdv A outer s H vs Q E hr h=>?_)
  · obtain ⟨p,dc,rfl,_⟩:=h
    rfl
  · obtain ⟨p,dc,rfl,D,k⟩:=h
    refine ⟨_,(pss_cons
  (ps_set (i:=1) scFar.nd rfl (Or.inl rfl) (pe_op op_add (pe_op op_pow pe_int pe_int) (pe_call GP hr rfl DP.mg DP.F.kp DP.b .nil pass0 (pa_cons (pv 0) (pa_cons (pe_op op_pow pe_int pe_int) pa_nil)))))
  (pss_one
  (ps_ret (pe_ix ix_list (pe_lst (pa_cons (pv 1) (pa_cons (pe_op op_sub pe_int (pv 1)) pa_nil))) (pe_call GP hr rfl DP.mg DP.F.kp DP.b .nil pass0 (pa_cons (pv 0) (pa_cons pe_int pa_nil))) (fun _ _=>rfl))))),?_⟩
    have c1:CPow 10 9:=⟨by decide,by decide,by decide⟩
    have c2:CPow 10 29:=⟨by decide,by decide,by decide⟩
    have p1:(10:Int) ^ (9:Int).toNat=1000000000:=by decide
    have p2:(10:Int) ^ (29:Int).toNat=100000000000000000000000000000:=by decide +kernel
    refine ⟨_,_,rfl,rfl,c1,_,rfl,_,_,rfl,rfl,c2,p,dc,_,rfl,D,by rw [p2];decide,by rw [p2];decide,fun r H1 a1 b1 D1 t1=>⟨_,_,rfl,rfl,?_⟩⟩
    rw [p2] at b1
    rw [p1]
    have z1:1000000000+r≤Far:=by simp only [Far];omega
    refine ⟨_,rfl,_,rfl,_,_,rfl,rfl,(show 2≤sizeLine by decide),fun q1 h1=>?_⟩
    have D2:=D1.new (o:=.lst [.int (1000000000+r),.int (0-(1000000000+r))]) h1
    refine ⟨_,rfl,p,dc,_,rfl,D2,by decide,by decide,fun r2 H2 a2 b2 D3 t2=>?_⟩
    have e1:SqL K H2 q1 [.int (1000000000+r),.int (0-(1000000000+r))]:=D2.seq t2 (SqL.of upd_same)
    have bt:But p H H2:=t1.trans ((But.new h1).trans t2)
    by_cases h0:r2=0
    · subst h0
      exact ⟨_,_,_,_,rfl,rfl,e1,rfl,k _ _ (by simp only [Far] at *;omega) z1 D3 bt⟩
    · obtain rfl:r2=1:=by omega
      exact ⟨_,_,_,_,rfl,rfl,e1,rfl,k _ _ (by simp only [Far] at *;omega) (by simp only [Far] at *;omega) D3 bt⟩
end
end Cm
namespace Cm
open PySem L2
section
variable {P:Program} {w:World} {K:PySem.W.Frag} {mg:Str→Option Value} {base:Heap}
def spBound:Sp:=fun vs H Q _=>∃ (p dc:Addr),vs=[.ref p]∧Dr H p dc∧∀ (z:Int) (H':Hp),-999999≤z→z≤999999→Dr H' p dc→But p H H'→Q (.int z) H'
theorem scBd:FnScope ["_law_d","_law_near"] ["_law_d"] (defScope (top 25)):=⟨rfl,rfl,rfl,by decide +kernel,rfl,by decide +kernel,by decide +kernel⟩
theorem ok_bound {f fP fO:Addr} {fd fdP fdO:FuncData} (F:Fun K "_law_bound" "_law_bound" (top 25) f fd) (T:Txt K mg) (DP:Def K mg "_law_pick" (top 20) ["_law_d","_law_many"] fP fdP) (DO:Def K mg "_law_of" (top 21) ["_law_d","_law_things"] fO fdO) :
    FnOk P w K mg base CX0 3 f fd ["_law_d"] spBound:=by
  have GP:FnOk P w K mg base CX0 1 fP fdP ["_law_d","_law_many"] spPick:=ok_pick DP.F T
  have GO:FnOk P w K mg base CX0 2 fO fdO ["_law_d","_law_things"] (spOf K):=ok_of DO.F T DP
  refine F.ok scBd (fun vs H Q E h=>?_) (fun cdv A outer s H vs Q E hr h=>?_)
  · obtain ⟨p,dc,rfl,_⟩:=h
    rfl
  · obtain ⟨p,dc,rfl,D,k⟩:=h
    have hr1:Room 1 _:=hr.mono (by decide)
    refine ⟨_,(pss_cons
  (ps_set (i:=1) scBd.nd rfl (Or.inl rfl) (pe_lst (pa_cons pe_int (pa_cons pe_int (pa_cons pe_int (pa_cons (pe_call GP hr1 rfl DP.mg DP.F.kp DP.b .nil pass0 (pa_cons (pv 0) (pa_cons pe_int pa_nil))) (pa_cons (pe_op op_sub (pe_call GP hr1 rfl DP.mg DP.F.kp DP.b .nil pass0 (pa_cons (pv 0) (pa_cons pe_int pa_nil))) pe_int) pa_nil)))))))
  (pss_one
  (ps_ret (pe_call GO hr rfl DO.mg DO.F.kp DO.b .nil pass0 (pa_cons (pv 0) (pa_cons (pe_op op_cat (pv 1) (pe_lst (pa_cons pe_int (pa_cons (pe_un un_neg pe_int) (pa_cons (pe_op op_sub (pe_call GP hr1 rfl DP.mg DP.F.kp DP.b .nil pass0 (pa_cons (pv 0) (pa_cons pe_int pa_nil))) pe_int) pa_nil))))) pa_nil)))))),?_⟩
    refine ⟨_,rfl,p,dc,_,rfl,D,by decide,by decide,fun r1 H1 a1 b1 D1 t1=>?_⟩
    refine ⟨_,rfl,p,dc,_,rfl,D1,by decide,by decide,fun r2 H2 a2 b2 D2 t2=>⟨_,_,rfl,rfl,(show 5≤sizeLine by decide),fun q1 h1=>?_⟩⟩
    have D2':=D2.new (o:=.lst [.int 0,.int 0,.int 5,.int r1,.int (r2-20)]) h1
    refine ⟨_,rfl,_,rfl,_,rfl,_,rfl,p,dc,_,rfl,D2',by decide,by decide,fun r3 H3 a3 b3 D3 t3=>⟨_,_,rfl,rfl,(show 3≤sizeLine by decide),fun q2 h2=>?_⟩⟩
    have e1:H3 q1=some (.lst [.int 0,.int 0,.int 5,.int r1,.int (r2-20)]):=t3 q1 _ upd_same (D2'.ne upd_same (by intro kvs z;cases z))
    refine ⟨q1,q2,_,_,rfl,rfl,(Same.new h2) _ _ e1,upd_same,(show 5+3≤sizeLine by decide),fun q3 h3=>?_⟩
    have D4:=(D3.new (o:=.lst [.int 999999,.int (-999999),.int (r3-999999)]) h2)
    refine ⟨p,dc,q3,_,rfl,D4.new h3,SqL.of upd_same,by simp,by simp,fun x H5 hx D5 t5=>?_⟩
    obtain ⟨z,rfl,z0,z1⟩:∃ z:Int,x=.int z∧-999999≤z∧z≤999999:=by
      simp only [List.cons_append,List.nil_append,List.mem_cons,List.not_mem_nil,or_false] at hx
      rcases hx with rfl|rfl|rfl|rfl|rfl|rfl|rfl|rfl
      all_goals exact ⟨_,rfl,by omega,by omega⟩
    exact k z H5 z0 z1 D5 (((t1.trans t2).trans (But.new h1)).trans (((t3.trans (But.new h2)).trans (But.new h3)).trans t5))
end
end Cm
namespace Cm
open PySem L2 PySem.W
abbrev numT (i:Int):Str:=Str.ofString (toString i)
abbrev N30:Int:=1000000000000000000000000000000
def nOk (i:Int):Prop:=-N30<i∧i<N30
inductive Th
  |lost (n:Int)
  |ev (p t:Int) (k:Str) (vs:List Int)
def ThOk:Th→Prop
  |.lost n=>1≤n∧n<N30
  |.ev p t k vs=>nOk p∧nOk t∧Nm k∧vs.length≤5∧∀ v∈vs,nOk v
def thD:Th→PyData
  |.lost n=>.tuple [.str "lost",.int n]
  |.ev p t k vs=>.tuple [.str "event",.int p,.int t,.str k,.tuple (vs.map PyData.int)]
def wordsT:Th→List Str
  |.lost n=>["lost",numT n]
  |.ev p t k vs=>[("event" : Str),numT p,numT t,k]++vs.map numT
def rowT (th:Th):Str:=Str.join " " (wordsT th)
def dumpT (ths:List Th):Str:=Str.join "" (ths.map fun th=>rowT th++"\n")
theorem str_ext {a b:Str} (h:a.cps.toList=b.cps.toList):a=b:=by
  obtain ⟨⟨x⟩⟩:=a
  obtain ⟨⟨y⟩⟩:=b
  cases h
  rfl
theorem nOk.len {i:Int} (h:nOk i):i.natAbs.log2<1920∧(numT i).length≤32:=by
  obtain ⟨h1,h2⟩:=h
  simp only [N30] at h1 h2
  constructor
  · have h3:i.natAbs<2 ^ 128:=by omega
    by_cases h0:i.natAbs=0
    · rw [h0];decide
    · exact Nat.lt_trans ((Nat.log2_lt h0).mpr h3) (by decide)
  · have:=int_text_length_le10 (a:=i) (k:=30) (by decide) (by omega)
    have e:(Str.ofString (toString i)).length=(toString i).length:=ofString_length _
    show (Str.ofString (toString i)).length≤32
    omega
theorem words_ne (th:Th):wordsT th≠[]:=by cases th <;> simp [wordsT]
theorem words_len {th:Th} (h:ThOk th):(wordsT th).length≤9∧∀ x∈wordsT th,x.length≤32:=by
  cases th with
  | lost n=>
    refine ⟨by simp [wordsT],fun x hx=>?_⟩
    simp [wordsT] at hx
    rcases hx with rfl|rfl
    · decide +kernel
    · exact (nOk.len ⟨by have:=h.1;simp only [N30];omega,h.2⟩).2
  | ev p t k vs=>
    refine ⟨by simp [wordsT];have:=h.2.2.2.1;omega,fun x hx=>?_⟩
    simp [wordsT] at hx
    rcases hx with rfl|rfl|rfl|rfl|⟨v,hv,rfl⟩
    · decide +kernel
    · exact h.1.len.2
    · exact h.2.1.len.2
    · exact Nat.le_trans h.2.2.1.hi (by decide)
    · exact (h.2.2.2.2 v hv).len.2
theorem join_tl (c:Nat) (p:Str):∀ r:List Str,∃ rest,(Str.join ⟨#[c]⟩ (p::r)).cps.toList=p.cps.toList++rest∧((r=[]∧rest=[])∨(r≠[]∧rest=c::(Str.join ⟨#[c]⟩ r).cps.toList))
  |[]=>⟨[],by show p.cps.toList=_;simp,.inl ⟨rfl,rfl⟩⟩
  |q::r=>⟨_,by show (p++⟨#[c]⟩++Str.join ⟨#[c]⟩ (q::r)).cps.toList=p.cps.toList++(c::(Str.join ⟨#[c]⟩ (q::r)).cps.toList);simp [Str.cps_append],.inr ⟨by simp,rfl⟩⟩
theorem split_ne (x:Str) (c:Nat):Txt.split x ⟨#[c]⟩≠[]:=by
  intro h
  have h1:=StrLaws.join_split x ⟨#[c]⟩
  unfold Txt.split at h
  split at h
  · cases h
  · split at h
    · cases h
    · have:=congrArg List.length h
      have e:(Builtin.Str.partsBetween x (Builtin.Str.occurrences x ⟨#[c]⟩ 0 x.length (x.length+1)) 1).length=(Builtin.Str.occurrences x ⟨#[c]⟩ 0 x.length (x.length+1)).length+1:=by
        first
          |exact StrLaws.partsBetween_length ..
          |(unfold Builtin.Str.partsBetween;simp)
      have h2:(Builtin.Str.partsBetween x (Builtin.Str.occurrences x ⟨#[c]⟩ 0 x.length (x.length+1)) 1).length=0:=this
      omega
theorem c_space:((" " : Str))=⟨#[32]⟩:=by decide +kernel
theorem c_line:(("\n" : Str))=⟨#[10]⟩:=by decide +kernel
theorem dump_cons (th:Th) (ths:List Th):dumpT (th::ths)=rowT th++"\n"++dumpT ths:=by
  refine str_ext ?_
  unfold dumpT
  rw [join_cps _ rfl,List.map_cons]
  simp only [List.map_cons,List.flatten_cons,Str.cps_append,Array.toList_append]
  rw [join_cps _ rfl]
end Cm
namespace Cm
open PySem L2 PySem.W
theorem dig_uni:∀ c<128,48≤c∧c≤57→Unicode.isDigit c=true:=by decide +kernel
structure TxtF (mg:Str→Option Value):Prop where
  mf:∃ t,mg "MOST_FIGURES" = some (.int 30 t)
section
variable {P:Program} {w:World} {K:PySem.W.Frag} {mg:Str→Option Value} {base:Heap}
theorem scNo:FnScope ["word","figures","number"] ["word"] (defScope (top 10)):=⟨rfl,rfl,rfl,by decide +kernel,rfl,by decide +kernel,by decide +kernel⟩
theorem scRl:FnScope ["words","many"] ["words"] (defScope (top 12)):=⟨rfl,rfl,rfl,by decide +kernel,rfl,by decide +kernel,by decide +kernel⟩
end
end Cm
namespace Cm
open PySem L2 PySem.W
theorem cut_drop (xs:List V) (k:Nat) (h:k≤xs.length):cutV xs (some (k:Int)) none=xs.drop k:=by
  unfold cutV
  rw [HT.sIx_nat,HT.sIx_none,Nat.min_eq_left h]
  exact List.take_of_length_le (by rw [List.length_drop];omega)
theorem cut_mid (xs:List V) (j k:Nat) (h:k≤xs.length) (hj:j≤k):cutV xs (some (j:Int)) (some (k:Int))=(xs.drop j).take (k-j):=by
  unfold cutV
  rw [HT.sIx_nat,HT.sIx_nat,Nat.min_eq_left h,Nat.min_eq_left (by omega)]
theorem reps_int {K:Frag} {H:Hp}:∀ ns:List Int,Reps K H (ns.map V.int) (ns.map PyData.int)
  |[]=>.nil
  |x::r=>.cons (.int x) (reps_int r)
section
variable {P:Program} {w:World} {K:PySem.W.Frag} {mg:Str→Option Value} {base:Heap}
theorem scRe:FnScope ["words","numbers"] ["words"] (defScope (top 13)):=⟨rfl,rfl,rfl,by decide +kernel,rfl,by decide +kernel,by decide +kernel⟩
theorem scRr:FnScope ["row","words"] ["row"] (defScope (top 11)):=⟨rfl,rfl,rfl,by decide +kernel,rfl,by decide +kernel,by decide +kernel⟩
end
end Cm
namespace Cm
open PySem L2 PySem.W
theorem sum_le {m:Nat}:∀ {ys:List Str},(∀ y∈ys,y.length≤m)→(ys.map (·.length)).sum≤ys.length*m
  |[],_=>by simp
  | y::r,h=>by
    have h1:=h y (List.mem_cons_self ..)
    have h2:=sum_le (m:=m) fun y m=>h y (List.mem_cons_of_mem _ m)
    rw [List.map_cons,List.sum_cons,List.length_cons,Nat.succ_mul]
    omega
theorem row_len {th:Th} (h:ThOk th):(rowT th).length≤400:=by
  obtain ⟨h1,h2⟩:=words_len h
  have h3:=sum_le h2
  unfold rowT
  have hn:=words_ne th
  generalize wordsT th=ws at h1 h2 h3 hn
  cases ws with
  |nil=>exact absurd rfl hn
  | cons a l=>
    rw [PyProof.Rows.len_join_cons,show ((" " : Str)).length=1 from by decide +kernel]
    rw [List.length_cons] at h1 h3
    have:(l.length+1)*32≤9*32:=Nat.mul_le_mul_right 32 h1
    omega
theorem lost_row (n:Int):("lost " : Str)++numT n=rowT (.lost n):=by
  show _=(("lost" : Str)++" "++numT n)
  rw [show (("lost" : Str)++" ") = "lost " from by decide +kernel]
section
variable {P:Program} {w:World} {K:PySem.W.Frag} {mg:Str→Option Value} {base:Heap}
def spRx (K:Frag):Sp:=fun vs H Q _=>∃ (x:V) (th:Th),vs=[x]∧Rep K H x (thD th)∧ThOk th∧∀ H',Same H H'→Q (.str (rowT th)) H'
end
end Cm
namespace Cm
open PySem L2 PySem.W
section
variable {P:Program} {w:World} {K:PySem.W.Frag} {mg:Str→Option Value} {base:Heap}
def spDu (K:Frag):Sp:=fun vs H Q _=>∃ (q:Addr) (xs:List V) (ths:List Th),vs=[.ref q]∧SqL K H q xs∧Reps K H xs (ths.map thD)∧(∀ th∈ths,ThOk th)∧ths.length≤12∧∀ H',Same H H'→Q (.str (dumpT ths)) H'
theorem reps_at {K:Frag} {H:Hp}:∀ {xs:List V} {ds:List PyData} {i:Nat} {x:V},Reps K H xs ds→xs[i]?=some x→∃ d,ds[i]?=some d∧Rep K H x d
  | x'::_,_,0,x,.cons r _,h=>by
    have:x'=x:=by simpa using h
    subst this
    exact ⟨_,rfl,r⟩
  | _,_,i+1,x,.cons _ rs,h=>by
    rw [List.getElem?_cons_succ] at h
    obtain ⟨d,h1,h2⟩:=reps_at rs h
    exact ⟨d,by rw [List.getElem?_cons_succ];exact h1,h2⟩
  |_,_,_,_,.nil,h=>by simp at h
theorem dump_fin {Q:VK} {H:Hp} {q:Addr} {ths:List Th} (ht:∀ th∈ths,ThOk th) (hl:ths.length≤12) (hq:H q=some (.lst ((ths.map fun th=>rowT th++"\n").map V.str))) (k:Q (.str (dumpT ths)) H):rJoin K (.str "") [.ref q] H Q:=by
  refine ⟨"",q,ths.map fun th=>rowT th++"\n",rfl,rfl,SqL.of hq,?_,by rw [txt_join];exact k⟩
  have h1:∀ y∈ths.map fun th=>rowT th++"\n",y.length≤500:=fun y m=>by
    obtain ⟨th,mt,rfl⟩:=List.mem_map.mp m
    have:=row_len (ht th mt)
    rw [Str.length_append,show (("\n" : Str)).length=1 from by decide +kernel]
    omega
  have h2:=sum_le h1
  rw [List.length_map] at h2
  have:ths.length*500≤12*500:=Nat.mul_le_mul_right 500 hl
  have e:(("" : Str)).length=0:=by decide +kernel
  rw [e]
  omega
theorem scLd:FnScope ["_law_told"] ["_law_told"] (defScope (top 29)):=⟨rfl,rfl,rfl,by decide +kernel,rfl,by decide +kernel,by decide +kernel⟩
theorem ok_ld {f fR:Addr} {fd fdR:FuncData} (F:Fun K "_law_dump" "_law_dump" (top 29) f fd) (DR:Def K mg "_law_thing_row" (top 28) ["_law_thing"] fR fdR) (GR:FnOk P w K mg base CX0 1 fR fdR ["_law_thing"] (spRx K)):FnOk P w K mg base CX0 2 f fd ["_law_told"] (spDu K):=by
  refine F.ok scLd (fun vs H Q E h=>?_) (fun cdv A outer s H vs Q E hr h=>?_)
  · obtain ⟨q,xs,ths,rfl,_⟩:=h
    rfl
  · obtain ⟨q,xs,ths,rfl,sq,rs,ht,hl,k⟩:=h
    refine ⟨_,(pss_one
  (ps_ret (pe_bm PySem.F.plainAttrs_str PySem.F.slot_str_join PySem.F.type_str_join mt_join pe_str (pa_cons (pe_comp (g:=gName 0) (te:=tOp (fun x y H Q=>∃ i j,x=V.str i∧y=V.str j∧i.length+j.length≤sizeLine∧Q (V.str (i++j)) H) (tCall (spRx K) [] E0 (tCons (tVar 0) tNil)) (tC (V.str "\n"))) (own:=["_law_thing"]) (js:=[]) (N':=["_law_thing"]) (CompScope.of (osc:=defScope (top 29)) (N:=["_law_told"]) rfl rfl ⟨rfl,by decide +kernel,by decide +kernel,by decide +kernel,rfl,by decide +kernel⟩) rfl (pi_list (pv 0)) (fun _ _ _ _ _=>(pg_name (i:=0) (show List.Nodup (["_law_thing"]:List Str) by decide +kernel) rfl (Or.inl rfl) (Or.inr rfl))) (fun _ _ _ _ _=>pifs_nil) (fun _ _ _ _ _=>(pe_op op_add_str (pe_call GR hr rfl DR.mg DR.F.kp DR.b .nil pass0 (pa_cons (pv 0) pa_nil)) pe_str))) pa_nil)))),?_⟩
    have xl:=rs.length
    rw [List.length_map] at xl
    have big:20000≤sizeLine:=by decide
    refine ⟨rfl,_,rfl,q,rfl,⟨_,sq⟩,?_⟩
    refine comp_list (K:=K) (a:=q) (xs:=xs) (fun i ys σ' H'=>(∃ v,σ'=[v])∧Same H H'∧ys=((ths.take i).map fun th=>rowT th++"\n").map V.str) (by omega) ⟨⟨none,rfl⟩,Same.refl _,rfl⟩ (fun i ys σ' H' _ ⟨_,s1,_⟩=>Same.seq s1 sq) ?_ ?_
    · rintro i x ys σ' H1 hx hy ⟨⟨v,rfl⟩,s1,rfl⟩ N hN
      obtain ⟨d,hd,rd⟩:=reps_at rs hx
      rw [List.getElem?_map] at hd
      cases hj:ths[i]? with
      |none=>rw [hj] at hd;cases hd
      | some th=>
        rw [hj] at hd
        have hd:thD th=d:=by simpa using hd
        subst hd
        have to:=ht th (List.mem_of_getElem? hj)
        have rl:=row_len to
        have e1:(("\n" : Str)).length=1:=by decide +kernel
        refine ⟨_,rfl,x,th,rfl,rd.same s1,to,fun H2 s2=>⟨_,_,rfl,rfl,by omega,hN _ _ _ (by simpa using hy) ⟨⟨_,rfl⟩,s1.trans s2,?_⟩⟩⟩
        rw [List.take_add_one,hj,List.map_append,List.map_append]
        rfl
    · rintro ys σ' H1 hy ⟨⟨v,rfl⟩,s1,rfl⟩
      have e9:ths.take xs.length=ths:=List.take_of_length_le (by omega)
      rw [e9]
      refine ⟨by simp;omega,fun l hl'=>?_⟩
      exact dump_fin ht hl upd_same (k _ (s1.trans (Same.new hl')))
end
end Cm
namespace Cm
open PySem L2 PySem.W
def rStrV:List V→Hp→VK→Prop:=fun xs H Q=>(∃ x:Str,xs=[.str x]∧Q (.str x) H)∨(∃ i:Int,xs=[.int i]∧i.natAbs.log2<1920∧Q (.str (numT i)) H)
theorem call_strV {X:Cx}:CallR X (.type "str") rStrV:=by
  intro pins s σ H xs us Q I r h
  rcases h with ⟨x,rfl,q⟩|⟨i,rfl,hi,q⟩
  · obtain ⟨u,rfl,t,rfl⟩:=L2.vals1 r
    exact PySem.P.str_of_str ⟨.str _,H,I,⟨_,rfl⟩,q⟩
  · exact call_str_int pins s σ H _ us Q I r ⟨i,rfl,hi,q⟩
section
variable {P:Program} {w:World} {K:PySem.W.Frag} {mg:Str→Option Value} {base:Heap}
theorem scTw:FnScope ["_law_thing"] ["_law_thing"] (defScope (top 28)):=⟨rfl,rfl,rfl,by decide +kernel,rfl,by decide +kernel,by decide +kernel⟩
theorem ok_tw {f:Addr} {fd:FuncData} (F:Fun K "_law_thing_row" "_law_thing_row" (top 28) f fd) (T:Txt K mg):FnOk P w K mg base CX0 1 f fd ["_law_thing"] (spRx K):=by
  refine F.ok scTw (fun vs H Q E h=>?_) (fun cdv A outer s H vs Q E hr h=>?_)
  · obtain ⟨x,th,rfl,_⟩:=h
    rfl
  · obtain ⟨x,th,rfl,rd,ht,k⟩:=h
    refine ⟨_,(pss_cons
  (ps_if (pt_cmpR op_eq (pe_ix ix_tup (pv 0) pe_int (fun _ _=>rfl)) pe_str (nomark _)) (pss_one
  (ps_ret (pe_op op_add_str pe_str (pe_callTy call_str_int (by rfl) T.str bt_str (pa_cons (pe_ix ix_tup (pv 0) pe_int (fun _ _=>rfl)) pa_nil))))) pss_nil)
  (pss_one
  (ps_ret (pe_bm PySem.F.plainAttrs_str PySem.F.slot_str_join PySem.F.type_str_join mt_join pe_str (pa_cons (pe_op op_cat (pe_comp (g:=gName 0) (own:=["_law_part"]) (js:=[]) (N':=["_law_part"]) (CompScope.of (osc:=defScope (top 28)) (N:=["_law_thing"]) rfl rfl ⟨rfl,by decide +kernel,by decide +kernel,by decide +kernel,rfl,by decide +kernel⟩) rfl (pi_tup (pe_slice sl_tupW (pv 0) po_none (po_some pe_int))) (fun _ _ _ _ _=>(pg_name (i:=0) (show List.Nodup (["_law_part"]:List Str) by decide +kernel) rfl (Or.inl rfl) (Or.inr rfl))) (fun _ _ _ _ _=>pifs_nil) (fun _ _ _ _ _=>(pe_callTy (r:=rStrV) call_strV (by rfl) T.str bt_str (pa_cons (pv 0) pa_nil)))) (pe_comp (g:=gName 0) (own:=["_law_number"]) (js:=[]) (N':=["_law_number"]) (CompScope.of (osc:=defScope (top 28)) (N:=["_law_thing"]) rfl rfl ⟨rfl,by decide +kernel,by decide +kernel,by decide +kernel,rfl,by decide +kernel⟩) rfl (pi_tup (pe_ix ix_tup (pv 0) pe_int (fun _ _=>rfl))) (fun _ _ _ _ _=>(pg_name (i:=0) (show List.Nodup (["_law_number"]:List Str) by decide +kernel) rfl (Or.inl rfl) (Or.inr rfl))) (fun _ _ _ _ _=>pifs_nil) (fun _ _ _ _ _=>(pe_callTy (r:=rStrV) call_strV (by rfl) T.str bt_str (pa_cons (pv 0) pa_nil))))) pa_nil))))),?_⟩
    have rl:=row_len ht
    have big:20000≤sizeLine:=by decide
    cases th with
    | lost n=>
      have hn:nOk n:=⟨by have:=ht.1;simp only [N30];omega,ht.2⟩
      have il:=hn.len
      cases rd with
      |@tup a xs _ sq rs=>
      cases rs with
      |cons r1 rs=>
      cases rs with
      |cons r2 rs=>
      cases rs
      cases r1
      cases r2
      have e5:(("lost " : Str)).length=5:=by decide +kernel
      refine ⟨_,rfl,a,_,_,_,rfl,rfl,sq,atI_nat (j:=0) rfl,rfl,_,rfl,ifT (by simp) ?_⟩
      refine ⟨_,rfl,a,_,_,_,rfl,rfl,sq,atI_nat (j:=1) rfl,n,rfl,il.1,_,_,rfl,rfl,?_,?_⟩
      · show (("lost " : Str)).length+(numT n).length≤sizeLine
        omega
      · show Q (.str (("lost " : Str)++numT n)) H
        rw [lost_row]
        exact k _ (Same.refl _)
    | ev p t kk us=>
      obtain ⟨n1,n2,nk,lu,nu⟩:=ht
      cases rd with
      |@tup a xs _ sq rs=>
      cases rs with
      |cons r1 rs=>
      cases rs with
      |cons r2 rs=>
      cases rs with
      |cons r3 rs=>
      cases rs with
      |cons r4 rs=>
      cases rs with
      |cons r5 rs=>
      cases rs
      cases r1
      cases r2
      cases r3
      cases r4
      cases r5 with
      |@tup b zs _ sqz rz=>
      have ez:zs=us.map V.int:=by
        clear sqz k lu nu rl sq
        induction us generalizing zs with
        |nil=>cases rz;rfl
        |cons u us ih=>cases rz with|cons r rz=>cases r;rw [ih rz];rfl
      subst ez
      refine ⟨_,rfl,a,_,_,_,rfl,rfl,sq,atI_nat (j:=0) rfl,rfl,_,rfl,ifF (by decide +kernel) ?_⟩
      try dsimp only [tNext]
      refine ⟨rfl,_,rfl,_,rfl,a,_,rfl,sq,fun e=>?_,fun c hc=>?_⟩
      · have:cutV [V.str "event",V.int p,V.int t,V.str kk,V.ref b] none (some 4)=[V.str "event",V.int p,V.int t,V.str kk]:=rfl
        rw [this] at e
        cases e
      have e4:cutV [V.str "event",V.int p,V.int t,V.str kk,V.ref b] none (some 4)=[V.str "event",V.int p,V.int t,V.str kk]:=rfl
      rw [e4]
      have s1:Same H (upd H c (.tup [V.str "event",V.int p,V.int t,V.str kk])):=Same.new hc
      have h1:(upd H c (.tup [V.str "event",V.int p,V.int t,V.str kk])) c=some (.tup [V.str "event",V.int p,V.int t,V.str kk]):=upd_same
      generalize upd H c (.tup [V.str "event",V.int p,V.int t,V.str kk])=H1 at s1 h1 ⊢
      refine ⟨c,rfl,⟨_,SqT.of h1⟩,?_⟩
      refine comp_tup (K:=K) (a:=c) (xs:=[V.str "event",V.int p,V.int t,V.str kk]) (fun i ys σ' H'=>(∃ v,σ'=[v])∧H'=H1∧ys=(([("event" : Str),numT p,numT t,kk].take i)).map V.str) (show 4≤sizeLine by decide) ⟨⟨none,rfl⟩,rfl,rfl⟩ (fun i ys σ' H' _ ⟨_,e,_⟩=>by rw [e];exact SqT.of h1) ?_ ?_
      · rintro i x ys σ' H' hx hy ⟨⟨v,rfl⟩,rfl,rfl⟩ N hN
        match i,hx with
        | 0,hx=>
          have hx:V.str "event" = x:=by simpa using hx
          subst hx
          exact ⟨_,rfl,.inl ⟨_,rfl,hN _ _ _ rfl ⟨⟨_,rfl⟩,rfl,rfl⟩⟩⟩
        | 1,hx=>
          have hx:V.int p=x:=by simpa using hx
          subst hx
          exact ⟨_,rfl,.inr ⟨p,rfl,n1.len.1,hN _ _ _ rfl ⟨⟨_,rfl⟩,rfl,rfl⟩⟩⟩
        | 2,hx=>
          have hx:V.int t=x:=by simpa using hx
          subst hx
          exact ⟨_,rfl,.inr ⟨t,rfl,n2.len.1,hN _ _ _ rfl ⟨⟨_,rfl⟩,rfl,rfl⟩⟩⟩
        | 3,hx=>
          have hx:V.str kk=x:=by simpa using hx
          subst hx
          exact ⟨_,rfl,.inl ⟨_,rfl,hN _ _ _ rfl ⟨⟨_,rfl⟩,rfl,rfl⟩⟩⟩
        |i+4,hx=>simp at hx
      rintro ys σ' H' hy ⟨⟨v,rfl⟩,rfl,rfl⟩
      refine ⟨show 4≤sizeLine by decide,fun l1 hl1=>?_⟩
      have e44:(([("event" : Str),numT p,numT t,kk].take [V.str "event",V.int p,V.int t,V.str kk].length)).map V.str=[.str "event",.str (numT p),.str (numT t),.str kk]:=rfl
      rw [e44]
      have s2:Same H' (upd H' l1 (.lst [.str "event",.str (numT p),.str (numT t),.str kk])):=Same.new hl1
      have h2:(upd H' l1 (.lst [.str "event",.str (numT p),.str (numT t),.str kk])) l1=some (.lst [.str "event",.str (numT p),.str (numT t),.str kk]):=upd_same
      generalize upd H' l1 (.lst [.str "event",.str (numT p),.str (numT t),.str kk])=H2 at s2 h2 ⊢
      have S2:=s1.trans s2
      refine ⟨_,rfl,a,_,_,_,rfl,rfl,S2.tup sq,atI_nat (j:=4) rfl,b,rfl,⟨_,S2.tup sqz⟩,?_⟩
      refine comp_tup (K:=K) (a:=b) (xs:=us.map V.int) (fun i ys σ' H'=>(∃ v,σ'=[v])∧H'=H2∧ys=((us.take i).map numT).map V.str) (by simp;omega) ⟨⟨none,rfl⟩,rfl,rfl⟩ (fun i ys σ' H' _ ⟨_,e,_⟩=>by rw [e];exact S2.tup sqz) ?_ ?_
      · rintro i x ys σ' H3 hx hy ⟨⟨v,rfl⟩,rfl,rfl⟩ N hN
        rw [List.getElem?_map] at hx
        cases hj:us[i]? with
        |none=>rw [hj] at hx;cases hx
        | some j=>
          rw [hj] at hx
          have hx:V.int j=x:=by simpa using hx
          subst hx
          refine ⟨_,rfl,.inr ⟨j,rfl,(nu j (List.mem_of_getElem? hj)).len.1,hN _ _ _ (by simpa using hy) ⟨⟨_,rfl⟩,rfl,?_⟩⟩⟩
          rw [List.take_add_one,hj,List.map_append,List.map_append]
          rfl
      · rintro ys σ' H3 hy ⟨⟨v,rfl⟩,rfl,rfl⟩
        have e9:us.take (us.map V.int).length=us:=List.take_of_length_le (by simp)
        rw [e9]
        refine ⟨by simp;omega,fun l2 hl2=>?_⟩
        have s3:=Same.new (o:=.lst ((us.map numT).map V.str)) hl2
        refine ⟨l1,l2,_,_,rfl,rfl,s3 _ _ h2,upd_same,by simp;omega,fun l3 hl3=>?_⟩
        have s4:=Same.new (o:=.lst ([V.str "event",.str (numT p),.str (numT t),.str kk]++(us.map numT).map V.str)) hl3
        obtain ⟨w1,w2⟩:=words_len (th:=.ev p t kk us) ⟨n1,n2,nk,lu,nu⟩
        have w3:=sum_le w2
        have w4:(wordsT (.ev p t kk us)).length*32≤9*32:=Nat.mul_le_mul_right 32 w1
        have w5:((" " : Str)).length=1:=by decide +kernel
        refine ⟨" ",l3,wordsT (.ev p t kk us),rfl,rfl,?_,by rw [w5];omega,?_⟩
        · have:(wordsT (.ev p t kk us)).map V.str=[V.str "event",.str (numT p),.str (numT t),.str kk]++(us.map numT).map V.str:=by simp [wordsT]
          rw [this]
          exact SqL.of upd_same
        · rw [txt_join]
          exact k _ (S2.trans (Same.trans s3 s4))
end
end Cm
namespace Cm
open PySem L2 PySem.W
theorem sqt_upd {K:Frag} {H:Hp} {a q:Addr} {xs ys:List V} {o:HO} (h:SqT K H a xs) (hq:H q=some (.lst ys)):SqT K (upd H q o) a xs:=by
  rcases h with (h|⟨u,h⟩)|h
  · exact .inl (.inl (by rw [upd_ne (ne_of h hq (by intro z;cases z))];exact h))
  · exact .inl (.inr ⟨u,by rw [upd_ne (ne_of h hq (by intro z;cases z))];exact h⟩)
  · exact .inr h
inductive ThAt (K:Frag) (H:Hp):V→Th→Prop
  |lost {a:Addr} {n:Int}:SqT K H a [.str "lost",.int n]→ThAt K H (.ref a) (.lost n)
  |ev {a b:Addr} {p t:Int} {k:Str} {us:List Int}:SqT K H a [.str "event",.int p,.int t,.str k,.ref b]→SqT K H b (us.map V.int)→ThAt K H (.ref a) (.ev p t k us)
theorem ints_of {K:Frag} {H:Hp}:∀ {us:List Int} {zs:List V},Reps K H zs (us.map PyData.int)→zs=us.map V.int
  |[],_,.nil=>rfl
  |u::us,_,.cons r rz=>by cases r;rw [ints_of rz];rfl
theorem th_at {K:Frag} {H:Hp} {x:V} {th:Th} (rd:Rep K H x (thD th)):ThAt K H x th:=by
  cases th with
  | lost n=>
    cases rd with
    |@tup a xs _ sq rs=>
    cases rs with
    |cons r1 rs=>
    cases rs with
    |cons r2 rs=>
    cases rs
    cases r1
    cases r2
    exact .lost sq
  | ev p t kk us=>
    cases rd with
    |@tup a xs _ sq rs=>
    cases rs with
    |cons r1 rs=>
    cases rs with
    |cons r2 rs=>
    cases rs with
    |cons r3 rs=>
    cases rs with
    |cons r4 rs=>
    cases rs with
    |cons r5 rs=>
    cases rs
    cases r1
    cases r2
    cases r3
    cases r4
    cases r5 with
    |@tup b zs _ sqz rz=>
    have ez:=ints_of rz
    subst ez
    exact .ev sq sqz
theorem ThAt.rep {K:Frag} {H:Hp} {x:V} {th:Th} (h:ThAt K H x th):Rep K H x (thD th):=by
  cases h with
  |lost sq=>exact .tup sq (.cons (.str _) (.cons (.int _) .nil))
  |ev sq sqz=>exact .tup sq (.cons (.str _) (.cons (.int _) (.cons (.int _) (.cons (.str _) (.cons (.tup sqz (reps_int _)) .nil)))))
theorem ThAt.upd {K:Frag} {H:Hp} {x:V} {th:Th} {q:Addr} {ys:List V} {o:HO} (h:ThAt K H x th) (hq:H q=some (.lst ys)):ThAt K (upd H q o) x th:=by
  cases h with
  |lost sq=>exact .lost (sqt_upd sq hq)
  |ev sq sqz=>exact .ev (sqt_upd sq hq) (sqt_upd sqz hq)
theorem ThAt.same {K:Frag} {H H':Hp} {x:V} {th:Th} (h:ThAt K H x th) (s:Same H H'):ThAt K H' x th:=by
  cases h with
  |lost sq=>exact .lost (s.tup sq)
  |ev sq sqz=>exact .ev (s.tup sq) (s.tup sqz)
inductive ThsAt (K:Frag) (H:Hp):List V→List Th→Prop
  |nil:ThsAt K H [] []
  |cons {x:V} {xs:List V} {th:Th} {ths:List Th}:ThAt K H x th→ThsAt K H xs ths→ThsAt K H (x::xs) (th::ths)
theorem ThsAt.rep {K:Frag} {H:Hp}:∀ {ths:List Th} {xs:List V},ThsAt K H xs ths→Reps K H xs (ths.map thD)
  |_,_,.nil=>.nil
  |_,_,.cons r rs=>.cons r.rep rs.rep
theorem ThsAt.upd {K:Frag} {H:Hp} {q:Addr} {ys:List V} {o:HO}:∀ {ths:List Th} {xs:List V},ThsAt K H xs ths→H q=some (.lst ys)→ThsAt K (upd H q o) xs ths
  |_,_,.nil,_=>.nil
  |_,_,.cons r rs,h=>.cons (r.upd h) (rs.upd h)
theorem ThsAt.same {K:Frag} {H H':Hp}:∀ {ths:List Th} {xs:List V},ThsAt K H xs ths→Same H H'→ThsAt K H' xs ths
  |_,_,.nil,_=>.nil
  |_,_,.cons r rs,h=>.cons (r.same h) (rs.same h)
theorem ThsAt.snoc {K:Frag} {H:Hp} {x:V} {th:Th} (hx:ThAt K H x th):∀ {ths:List Th} {xs:List V},ThsAt K H xs ths→ThsAt K H (xs++[x]) (ths++[th])
  |_,_,.nil=>.cons hx .nil
  |_,_,.cons r rs=>.cons r (ThsAt.snoc hx rs)
theorem ThsAt.length {K:Frag} {H:Hp}:∀ {ths:List Th} {xs:List V},ThsAt K H xs ths→xs.length=ths.length
  |_,_,.nil=>rfl
  |_,_,.cons _ rs=>by rw [List.length_cons,List.length_cons,rs.length]
def widthT:Th→Int
  |.lost n=>n
  |.ev _ _ _ _=>1
def timeT:Th→Option Int→Option Int
  |.lost _,tm=>tm
  |.ev _ t _ _,_=>some t
def goesP:Th→Int→Option Int→Prop
  |.lost _,_,_=>True
  |.ev p t _ _,pl,tm=>p=pl∧∀ u,tm=some u→u≤t
def Valid:Int→Option Int→List Th→Prop
  |_,_,[]=>True
  |pl,tm,th::r=>goesP th pl tm∧Valid (pl+widthT th) (timeT th tm) r
def tmV:Option Int→V
  |none=>.non
  |some t=>.int t
section
variable {P:Program} {w:World} {K:PySem.W.Frag} {mg:Str→Option Value} {base:Heap}
def spGo (K:Frag):Sp:=fun vs H Q _=>∃ (x:V) (th:Th) (pl:Int) (tm:Option Int),vs=[x,.int pl,tmV tm]∧ThAt K H x th∧goesP th pl tm∧Q (.bl true) H
theorem scGo:FnScope ["thing","place","time"] ["thing","place","time"] (defScope (top 14)):=⟨rfl,rfl,rfl,by decide +kernel,rfl,by decide +kernel,by decide +kernel⟩
theorem ok_go {f:Addr} {fd:FuncData} (F:Fun K "goes_on" "goes_on" (top 14) f fd):FnOk P w K mg base CX0 1 f fd ["thing","place","time"] (spGo K):=by
  refine F.ok scGo (fun vs H Q E h=>?_) (fun cdv A outer s H vs Q E hr h=>?_)
  · obtain ⟨x,th,pl,tm,rfl,_⟩:=h
    rfl
  · obtain ⟨x,th,pl,tm,rfl,ta,go,k⟩:=h
    refine ⟨_,(pss_cons
  (ps_if (pt_cmpR op_eq (pe_ix ix_tup (pv 0) pe_int (fun _ _=>rfl)) pe_str (nomark _)) (pss_one
  (ps_ret pe_bl)) pss_nil)
  (pss_one
  (ps_ret (pe_and (pe_cmpR op_eq (pe_ix ix_tup (pv 0) pe_int (fun _ _=>rfl)) (pv 1) (nomark _)) (pe_one (pe_or (pe_cmpR op_isN (pv 2) pe_non (nomark _)) (pe_one (pe_cmpR op_ge (pe_ix ix_tup (pv 0) pe_int (fun _ _=>rfl)) (pv 2) (nomark _))))))))),?_⟩
    cases ta with
    |@lost a n sq=>exact ⟨_,rfl,a,_,_,_,rfl,rfl,sq,atI_nat (j:=0) rfl,rfl,_,rfl,ifT (by simp) k⟩
    | @ev a b p t kk us sq sqz=>
      obtain ⟨rfl,ht⟩:=go
      refine ⟨_,rfl,a,_,_,_,rfl,rfl,sq,atI_nat (j:=0) rfl,rfl,_,rfl,ifF (by decide +kernel) ?_⟩
      try dsimp only [tNext]
      refine ⟨_,rfl,a,_,_,_,rfl,rfl,sq,atI_nat (j:=1) rfl,_,rfl,rfl,_,rfl,ifT (decide_eq_true rfl) ?_⟩
      cases tm with
      |none=>exact ⟨_,rfl,rfl,_,rfl,ifT rfl k⟩
      | some u=>
        have:=ht u rfl
        refine ⟨_,rfl,rfl,_,rfl,ifF rfl ⟨_,rfl,a,_,_,_,rfl,rfl,sq,atI_nat (j:=2) rfl,_,rfl,_,_,rfl,rfl,?_⟩⟩
        show Q (.bl (decide (u≤t))) H
        rw [decide_eq_true this]
        exact k
def spPb (K:Frag):Sp:=fun vs H Q _=>∃ (pl:Int) (q:Addr) (x:V) (th:Th),vs=[.int pl,.ref q]∧SqL K H q [x]∧ThAt K H x th∧Q (.int (pl+widthT th)) H
theorem scPb:FnScope ["place","told","thing"] ["place","told"] (defScope (top 7)):=⟨rfl,rfl,rfl,by decide +kernel,rfl,by decide +kernel,by decide +kernel⟩
theorem ok_pb {f:Addr} {fd:FuncData} (F:Fun K "place_behind" "place_behind" (top 7) f fd):FnOk P w K mg base CX0 1 f fd ["place","told"] (spPb K):=by
  refine F.ok scPb (fun vs H Q E h=>?_) (fun cdv A outer s H vs Q E hr h=>?_)
  · obtain ⟨pl,q,x,th,rfl,_⟩:=h
    rfl
  · obtain ⟨pl,q,x,th,rfl,sq,ta,k⟩:=h
    refine ⟨_,(pss_cons
  (ps_for PassesOwn.never rfl (pi_list (pv 1)) (pg_name (i:=2) scPb.nd rfl (Or.inl rfl)) (pss_one
    (ps_aug (i:=0) scPb.nd rfl (Or.inl rfl) (pe_ifExp (pt_cmpR op_eq (pe_ix ix_tup (pv 2) pe_int (fun _ _=>rfl)) pe_str (nomark _)) (pe_ix ix_tup (pv 2) pe_int (fun _ _=>rfl)) pe_int) iop_add)))
  (pss_one (ps_ret (pv 0)))),?_⟩
    refine ⟨_,rfl,q,rfl,⟨_,sq⟩,?_⟩
    refine for_list (K:=K) (a:=q) (xs:=[x]) (fun i σ' H'=>H'=H∧(∃ u,σ'=[some (.int (if i=0 then pl else pl+widthT th)),some (.ref q),u])) ⟨rfl,none,rfl⟩ (fun i σ' H' _ ⟨e,_⟩=>by rw [e];exact sq) ?_ ?_
    · rintro i y σ' H' hy ⟨rfl,u,rfl⟩
      match i,hy with
      | 0,hy=>
        have hy:x=y:=by simpa using hy
        subst hy
        cases ta with
        | @lost a n sqa=>
          refine ⟨_,rfl,_,rfl,a,_,_,_,rfl,rfl,sqa,atI_nat (j:=0) rfl,rfl,_,rfl,ifT (by simp) ?_⟩
          refine ⟨_,rfl,a,_,_,_,rfl,rfl,sqa,atI_nat (j:=1) rfl,_,_,rfl,rfl,rfl,_,rfl⟩
        | @ev a b p t kk us sqa sqz=>
          refine ⟨_,rfl,_,rfl,a,_,_,_,rfl,rfl,sqa,atI_nat (j:=0) rfl,rfl,_,rfl,ifF (by decide +kernel) ?_⟩
          refine ⟨_,_,rfl,rfl,rfl,_,rfl⟩
      |i+1,hy=>simp at hy
    · rintro σ' H' ⟨rfl,u,rfl⟩
      exact ⟨_,rfl,k⟩
end
end Cm
namespace Cm
open PySem L2 PySem.W PySem.NumText
theorem fig_back:∀ c,48≤c∧c≤57→(Nat.digitChar (c-48)).toNat=c:=by
  intro c h
  obtain ⟨h1,h2⟩:=h
  have:∀ k<10,(Nat.digitChar (48+k-48)).toNat=48+k:=by decide
  have:=this (c-48) (by omega)
  rwa [show 48+(c-48)=c by omega] at this
theorem val_lt:∀ (n:Nat) (ds:List Nat),ds.length=n→(∀ c∈ds,48≤c∧c≤57)→digitsVal ds<10 ^ n
  | 0,ds,h,_=>by
    have:ds=[]:=List.length_eq_zero_iff.mp h
    subst this
    decide
  | n+1,ds,h,hd=>by
    obtain ⟨xs,c,rfl⟩:∃ xs c,ds=xs++[c]:=by
      have hne:ds≠[]:=by rintro rfl;simp at h
      exact ⟨ds.dropLast,ds.getLast hne,(List.dropLast_concat_getLast hne).symm⟩
    have ih:=val_lt n xs (by simp at h;omega) (fun c m=>hd c (List.mem_append_left _ m))
    have hc:=hd c (by simp)
    rw [digitsVal_snoc,Nat.pow_succ]
    omega
theorem digs_back:∀ (n:Nat) (ds:List Nat),ds.length=n+1→(∀ c∈ds,48≤c∧c≤57)→(ds.head?=some 48→ds=[48])→(Nat.toDigits 10 (digitsVal ds)).map Char.toNat=ds
  | 0,ds,h,hd,_=>by
    match ds,h with
    | [c],_=>
      have hc:=hd c (by simp)
      have e:digitsVal [c]=c-48:=by show 0*10+(c-48)=_;omega
      rw [e,Nat.toDigits_of_lt_base (by omega)]
      show [(Nat.digitChar (c-48)).toNat]=[c]
      rw [fig_back c hc]
  | n+1,ds,h,hd,h0=>by
    obtain ⟨xs,c,rfl⟩:∃ xs c,ds=xs++[c]:=by
      have hne:ds≠[]:=by rintro rfl;simp at h
      exact ⟨ds.dropLast,ds.getLast hne,(List.dropLast_concat_getLast hne).symm⟩
    have hl:xs.length=n+1:=by simp at h;omega
    have hc:=hd c (by simp)
    have hx:xs.head?≠some 48:=by
      intro z
      have:(xs++[c]).head?=some 48:=by rw [List.head?_append,z];rfl
      have:=congrArg List.length (h0 this)
      rw [List.length_append,hl] at this
      simp at this
    have ih:=digs_back n xs hl (fun c m=>hd c (List.mem_append_left _ m)) (fun z=>absurd z hx)
    have pos:0<digitsVal xs:=by
      rcases Nat.eq_zero_or_pos (digitsVal xs) with z|z
      · rw [z] at ih
        exact absurd (by rw [← ih];rfl) hx
      · exact z
    have t:=Nat.toDigits_append_toDigits (b:=10) (n:=digitsVal xs) (d:=c-48) (by decide) pos (by omega)
    have e:digitsVal (xs++[c])=10*digitsVal xs+(c-48):=by rw [digitsVal_snoc];omega
    rw [e,← t,List.map_append,ih,Nat.toDigits_of_lt_base (by omega)]
    show xs++[(Nat.digitChar (c-48)).toNat]=xs++[c]
    rw [fig_back c hc]
theorem dig_head (m:Nat):((Nat.toDigits 10 m).map Char.toNat).head?=some 48→m=0:=by
  induction m using Nat.strongRecOn with
  | _ m ih=>
    intro h
    by_cases hm:m<10
    · rw [Nat.toDigits_of_lt_base hm] at h
      have:∀ k<10,([Nat.digitChar k].map Char.toNat).head?=some 48→k=0:=by decide
      exact this m hm h
    · have t:=Nat.toDigits_append_toDigits (b:=10) (n:=m / 10) (d:=m % 10) (by decide) (by omega) (Nat.mod_lt m (by decide))
      rw [Nat.div_add_mod] at t
      rw [← t,List.map_append,List.head?_append] at h
      have ne:(Nat.toDigits 10 (m / 10)).map Char.toNat≠[]:=(num_digits (m / 10)).2
      cases e:((Nat.toDigits 10 (m / 10)).map Char.toNat).head? with
      |none=>exact absurd (List.head?_eq_none_iff.mp e) ne
      | some c=>
        rw [e] at h
        have h:c=48:=by simpa using h
        subst h
        have:=ih (m / 10) (by omega) e
        omega
def figs (x:List Nat):List Nat:=if x.take 1=[45] then x.drop 1 else x
structure Canon (x:List Nat):Prop where
  lo:1≤(figs x).length
  hi:(figs x).length≤30
  fi:∀ c∈figs x,48≤c∧c≤57
  ze:(figs x).head?=some 48→x=[48]
theorem canon_of (i:Int) (h:nOk i):Canon (numT i).cps.toList:=by
  have h:-1000000000000000000000000000000<i∧i<1000000000000000000000000000000:=h
  have six:∀ m:Nat,m<1000000000000000000000000000000→((Nat.toDigits 10 m).map Char.toNat).length≤30:=fun m hm=>by
    rw [← PySem.W.KIN.signs_num m,← len_cps]
    exact PyProof.Rows.toString_length_le (by omega) (by decide) (by show ((m:Nat):Int)<10 ^ 30;omega)
  cases i with
  | ofNat m=>
    have e:(numT (Int.ofNat m)).cps.toList=(Nat.toDigits 10 m).map Char.toNat:=PySem.W.KIN.signs_num m
    obtain ⟨h1,h2⟩:=num_digits m
    have f:figs (numT (Int.ofNat m)).cps.toList=(Nat.toDigits 10 m).map Char.toNat:=by
      rw [e]
      unfold figs
      rw [if_neg]
      intro z
      cases hq:(Nat.toDigits 10 m).map Char.toNat with
      |nil=>rw [hq] at z;cases z
      | cons c r=>
        rw [hq] at z
        have:c=45:=by simpa using z
        have:=h1 c (by rw [hq];simp)
        omega
    refine ⟨by rw [f];exact List.length_pos_iff.mpr h2,by rw [f];exact six m (by simp at h;omega),by rw [f];exact h1,?_⟩
    rw [f,e]
    intro z
    have:=dig_head m z
    subst this
    rfl
  | negSucc m=>
    have e:(numT (Int.negSucc m)).cps.toList=45::(Nat.toDigits 10 (m+1)).map Char.toNat:=neg_signs m
    obtain ⟨h1,h2⟩:=num_digits (m+1)
    have f:figs (numT (Int.negSucc m)).cps.toList=(Nat.toDigits 10 (m+1)).map Char.toNat:=by
      rw [e];rfl
    refine ⟨by rw [f];exact List.length_pos_iff.mpr h2,by rw [f];exact six (m+1) (by omega),by rw [f];exact h1,?_⟩
    rw [f]
    intro z
    have:=dig_head (m+1) z
    omega
theorem of_canon {x:List Nat} (h:Canon x):∃ i:Int,nOk i∧x=(numT i).cps.toList:=by
  obtain ⟨lo,hi,fi,ze⟩:=h
  obtain ⟨n,hn⟩:∃ n,(figs x).length=n+1:=⟨(figs x).length-1,by omega⟩
  have vl:=val_lt _ (figs x) rfl fi
  have p6:10 ^ (figs x).length≤10 ^ 30:=Nat.pow_le_pow_right (by decide) hi
  have e6:(10:Nat) ^ 30=1000000000000000000000000000000:=by decide +kernel
  by_cases h45:x.take 1=[45]
  · have ef:figs x=x.drop 1:=by unfold figs;rw [if_pos h45]
    have ex:x=45::figs x:=by
      rw [ef]
      have:=List.take_append_drop 1 x
      rw [h45] at this
      exact this.symm
    have nz:(figs x).head?≠some 48:=by
      intro z
      rw [ze z] at h45
      cases h45
    have bk:=digs_back n (figs x) hn fi (fun z=>absurd z nz)
    have pos:0<digitsVal (figs x):=by
      rcases Nat.eq_zero_or_pos (digitsVal (figs x)) with z|z
      · rw [z] at bk
        exact absurd (by rw [← bk];rfl) nz
      · exact z
    obtain ⟨m,hm⟩:∃ m,digitsVal (figs x)=m+1:=⟨digitsVal (figs x)-1,by omega⟩
    refine ⟨Int.negSucc m,?_,?_⟩
    · exact ⟨by simp only [N30];omega,by simp only [N30];omega⟩
    · rw [show (numT (Int.negSucc m)).cps.toList=_ from neg_signs m,← hm,bk]
      exact ex
  · have ef:figs x=x:=by unfold figs;rw [if_neg h45]
    rw [ef] at lo hi fi ze hn vl p6
    have bk:=digs_back n x hn fi ze
    refine ⟨Int.ofNat (digitsVal x),?_,?_⟩
    · exact ⟨by simp only [N30];show _<((digitsVal x:Nat):Int);omega,by simp only [N30];show ((digitsVal x:Nat):Int)<_;omega⟩
    · rw [show (numT (Int.ofNat (digitsVal x))).cps.toList=_ from PySem.W.KIN.signs_num (digitsVal x),bk]
theorem num_eq {i j:Int} (hi:nOk i) (h:numT i=numT j):i=j:=by
  obtain ⟨_,_,_,_,_,h1⟩:=num_parts i
  obtain ⟨_,_,_,_,_,h2⟩:=num_parts j
  have l:=hi.len.2
  have a:=h1 (by show (numT i).length≤4300;omega)
  have b:=h2 (by show (numT j).length≤4300;rw [← h];omega)
  rw [show Str.ofString (toString i)=Str.ofString (toString j) from h,b] at a
  exact (Option.some.inj a).symm
open Classical in
noncomputable def numO (x:Str):Option Int:=if h:∃ i,nOk i∧x=numT i then some h.choose else none
theorem numO_of {i:Int} (h:nOk i):numO (numT i)=some i:=by
  have e:∃ j,nOk j∧numT i=numT j:=⟨i,h,rfl⟩
  unfold numO
  rw [dif_pos e]
  exact congrArg some (num_eq h e.choose_spec.2).symm
theorem numO_none {x:Str} (h:∀ i,nOk i→x≠numT i):numO x=none:=by
  unfold numO
  rw [dif_neg]
  rintro ⟨i,hi,e⟩
  exact h i hi e
def oV:Option Int→V
  |none=>.non
  |some i=>.int i
def oD:Option Int→PyData
  |none=>.none
  |some i=>.int i
theorem oV_rep {K:Frag} {H:Hp}:∀ o:Option Int,Rep K H (oV o) (oD o)
  |none=>.non
  |some i=>.int i
end Cm
namespace Cm
open PySem L2 PySem.W PySem.NumText
abbrev FIGU:Str:="0123456789"
abbrev isF:Nat→Bool:=fun c=>decide (48≤c∧c≤57)
theorem occF:∀ c<128,(!(Builtin.Str.occurrences FIGU ⟨#[c]⟩ 0 FIGU.length 1).isEmpty)=decide (48≤c∧c≤57):=by decide +kernel
theorem asc_iff {x:Str}:Asc x↔∀ c∈x.cps.toList,c<128:=by
  unfold Asc
  rw [← Array.all_toList,List.all_eq_true]
  simp
theorem sub_cps (t:Str) (a b:Nat):(sub t a b).cps.toList=(t.cps.toList.drop a).take (b-a):=by
  unfold L2.sub
  rw [List.toList_toArray]
theorem sub_asc {t:Str} (h:Asc t) (a b:Nat):Asc (sub t a b):=by
  rw [asc_iff] at h ⊢
  intro c m
  rw [sub_cps] at m
  exact h c (List.mem_of_mem_drop (List.mem_of_mem_take m))
theorem sub_ln (t:Str) (a b:Nat):(sub t a b).length≤t.length:=by
  rw [len_cps,len_cps,sub_cps,List.length_take,List.length_drop]
  omega
section
variable {P:Program} {w:World} {K:PySem.W.Frag} {mg:Str→Option Value} {base:Heap}
def spNi:Sp:=fun vs H Q _=>∃ t:Str,vs=[.str t,.int 30]∧Asc t∧t.length≤50000∧∀ H',Same H H'→Q (oV (numO t)) H'
abbrev NNi:List Str:=["_law_text","_law_most","_law_figures"]
theorem scNi:FnScope NNi ["_law_text","_law_most"] (defScope (top 27)):=⟨rfl,rfl,rfl,by decide +kernel,rfl,by decide +kernel,by decide +kernel⟩
theorem no_num {t:Str} (h:¬ Canon t.cps.toList):∀ i,nOk i→t≠numT i:=fun i nb e=>h (by rw [e];exact canon_of i nb)
theorem ok_ni {f:Addr} {fd:FuncData} (F:Fun K "_law_number_in" "_law_number_in" (top 27) f fd) (T:Txt K mg):FnOk P w K mg base CX0 1 f fd ["_law_text","_law_most"] spNi:=by
  refine F.ok scNi (fun vs H Q E h=>?_) (fun cdv A outer s H vs Q E hr h=>?_)
  · obtain ⟨t,rfl,_⟩:=h
    rfl
  · obtain ⟨t,rfl,as,tl5,k⟩:=h
    have k:∀ H',Same H H'→(∀ i,nOk i→t=numT i→Q (.int i) H')∧((∀ i,nOk i→t≠numT i)→Q .non H'):=fun H' s'=>⟨fun i hi e=>by have:=k H' s';rw [e,numO_of hi] at this;exact this,fun hn=>by have:=k H' s';rw [numO_none hn] at this;exact this⟩
    refine ⟨_,(pss_cons
  (ps_set (i:=2) scNi.nd rfl (Or.inl rfl) (pe_ifExp (pt_cmpR op_eq (pe_slice sl_strH (pv 0) po_none (po_some pe_int)) pe_str (nomark _)) (pe_slice sl_strL (pv 0) (po_some pe_int) po_none) (pv 0)))
  (pss_cons
  (ps_if (PW.pt (pw_or (pt_not (pt_chain op_le op_le pe_int (pe_callB call_len_str (by rfl) T.len bt_len (pa_cons (pv 2) pa_nil)) (pv 1))) (pw_or1 (pt_not (pt_val (pe_callB (call_allB rfl) (by rfl) T.all bt_all (pa_cons (pe_comp (own:=["_law_sign"]) (js:=[]) (N':=["_law_sign"]) (CompScope.of (osc:=defScope (top 27)) (N:=NNi) rfl rfl ⟨rfl,by decide +kernel,by decide +kernel,by decide +kernel,rfl,by decide +kernel⟩) rfl (pi_str (pv 2)) (fun _ _ _ _ _=>(pg_name (i:=0) (show List.Nodup (["_law_sign"]:List Str) by decide +kernel) rfl (Or.inl rfl) (Or.inr rfl))) (fun _ _ _ _ _=>pifs_nil) (fun _ _ _ _ _=>(pe_cmpR op_in_str (pv 0) pe_str rfl))) pa_nil))))))) (pss_one
  (ps_ret pe_non)) pss_nil)
  (pss_one
  (ps_ret (pe_ifExp (PW.pt (pw_and (pt_cmpR op_eq (pe_ix ix_str (pv 2) pe_int (fun _ _=>rfl)) pe_str (nomark _)) (pw_and1 (pt_cmpR op_ne (pv 0) pe_str (nomark _))))) pe_non (pe_callTy call_intT (by rfl) T.int bt_int (pa_cons (pv 0) pa_nil))))))),?_⟩
    have big:200000≤sizeLine:=by decide
    try dsimp only [gName]
    refine seq_by (fun σ' H'=>∃ fg:Str,σ'=[some (.str t),some (.int 30),some (.str fg)]∧H'=H∧fg.cps.toList=figs t.cps.toList∧fg.length≤t.length∧Asc fg) ?nx fun N hN=>?st
    case st=>
      refine ⟨_,rfl,_,rfl,t,1,rfl,rfl,rfl,by omega,rfl,_,rfl,?_⟩
      have e1:(sub t 0 1).cps.toList=t.cps.toList.take 1:=by rw [sub_cps,List.drop_zero]
      by_cases h:sub t 0 1 = "-"
      · have h':t.cps.toList.take 1=[45]:=by rw [← e1,h];decide +kernel
        refine ifT (by simp [h]) ⟨_,rfl,_,rfl,t,1,rfl,rfl,rfl,by omega,hN _ _ ⟨_,rfl,rfl,?_,sub_ln _ _ _,sub_asc as _ _⟩⟩
        unfold figs
        rw [if_pos h',sub_cps,List.take_of_length_le (by rw [List.length_drop,← len_cps];omega)]
      · have h':¬ t.cps.toList.take 1=[45]:=fun z=>h (str_ext (by rw [e1,z];decide +kernel))
        refine ifF (by simp [h]) ⟨_,rfl,hN _ _ ⟨t,rfl,rfl,?_,Nat.le_refl _,as⟩⟩
        unfold figs
        rw [if_neg h']
    rintro σ' H' ⟨fg,rfl,rfl,hfg,lfg,afg⟩
    have lf:fg.length=(figs t.cps.toList).length:=by rw [len_cps,hfg]
    refine ⟨_,rfl,_,rfl,by omega,_,_,rfl,rfl,_,rfl,?_⟩
    by_cases h1:1≤fg.length
    · refine ifT (by simp;omega) ⟨_,rfl,_,_,rfl,rfl,_,rfl,?_⟩
      by_cases h6:fg.length≤30
      · refine ifF (by simp;omega) ?_
        refine ⟨_,rfl,fg,rfl,afg,?_⟩
        refine comp_str (x:=fg) (fun i ys σ'' H''=>∃ v,σ''=[v]∧H''=H'∧ys=((fg.cps.toList.take i).map fun c=>V.bl (isF c))) (by have:fg.cps.size=fg.length:=rfl;omega) ⟨none,rfl,rfl,by simp⟩ ?_ ?_
        · rintro i c ys σ'' H'' hc hy ⟨v,rfl,rfl,rfl⟩ N hN
          have hc':fg.cps.toList[i]?=some c:=by rw [Array.getElem?_toList];exact hc
          have c1:c<128:=asc_iff.mp afg c (List.mem_of_getElem? hc')
          refine ⟨_,rfl,_,_,rfl,rfl,?_⟩
          rw [occF c c1]
          refine hN _ _ _ (by simpa using hy) ⟨_,rfl,rfl,?_⟩
          rw [List.take_add_one,hc']
          simp
        · rintro ys σ'' H'' hy ⟨v,rfl,rfl,rfl⟩
          rw [List.take_of_length_le (by simp)]
          refine ⟨by rw [List.length_map];have:fg.cps.toList.length=fg.length:=rfl;omega,fun q hq=>?_⟩
          refine ⟨q,fg.cps.toList.map isF,rfl,?_,?_⟩
          · rw [List.map_map]
            exact SqL.of upd_same
          have k2:=k _ (Same.new (o:=.lst (fg.cps.toList.map fun c=>V.bl (isF c))) hq)
          dsimp only
          rw [List.all_map]
          refine ⟨_,rfl,?_⟩
          by_cases hall:∀ c∈fg.cps.toList,isF c=true
          · have e:(fg.cps.toList.all (id ∘ isF))=true:=List.all_eq_true.mpr hall
            rw [e]
            refine ifF rfl ?_
            obtain ⟨c0,r,hfl⟩:∃ c0 r,fg.cps.toList=c0::r:=by
              cases hfl:fg.cps.toList with
              |nil=>rw [len_cps,hfl] at h1;simp at h1
              |cons c0 r=>exact ⟨c0,r,rfl⟩
            have h0:fg.cps.toList[0]?=some c0:=by rw [hfl];rfl
            have fi:∀ c∈figs t.cps.toList,48≤c∧c≤57:=fun c m=>by
              rw [← hfg] at m
              have:=hall c m
              simpa using this
            refine ⟨_,rfl,fg,_,_,rfl,rfl,by omega,atI_nat (j:=0) h0,rfl,_,rfl,?_⟩
            have hd:(figs t.cps.toList).head?=some c0:=by rw [← hfg,hfl];rfl
            have good:((figs t.cps.toList).head?=some 48→t.cps.toList=[48])→∃ i,PySem.intText? t=some i∧nOk i∧t=numT i:=fun ze=>by
              obtain ⟨i,nb,e⟩:=of_canon ⟨by rw [← lf];exact h1,by rw [← lf];exact h6,fi,ze⟩
              have e:t=numT i:=str_ext e
              obtain ⟨_,_,_,_,_,hint⟩:=num_parts i
              have l:=nb.len.2
              exact ⟨i,by rw [e];exact hint (by show (numT i).length≤4300;omega),nb,e⟩
            have t7:t.length≤31:=by
              have:t.cps.toList.length≤(figs t.cps.toList).length+1:=by
                unfold figs
                split
                · rw [List.length_drop];omega
                · omega
              rw [← len_cps] at this
              omega
            have zs:(V.str ⟨#[c0]⟩=V.str "0")↔c0=48:=by
              rw [V.str.injEq]
              constructor
              · intro z
                have:=congrArg (fun x:Str=>x.cps.toList) z
                rw [show (("0" : Str)).cps.toList=[48] from by decide +kernel] at this
                simpa using this
              · rintro rfl
                decide +kernel
            by_cases hz:c0=48
            · refine ifT (decide_eq_true (zs.mpr hz)) ⟨_,rfl,rfl,_,rfl,?_⟩
              by_cases ht:t = "0"
              · obtain ⟨i,hi,nb,e⟩:=good fun _=>by rw [ht];decide +kernel
                refine ifF (by simp [ht]) ⟨_,rfl,t,i,rfl,hi,by omega,k2.1 i nb e⟩
              · refine ifT (by simp [ht]) (k2.2 (no_num fun c=>ht ?_))
                have:=c.ze (by rw [hd,hz])
                exact str_ext (by rw [this];decide +kernel)
            · obtain ⟨i,hi,nb,e⟩:=good fun z=>by rw [hd] at z;injection z with z;exact absurd z hz
              exact ifF (decide_eq_false (fun z=>hz (zs.mp z))) ⟨_,rfl,t,i,rfl,hi,by omega,k2.1 i nb e⟩
          · have e:(fg.cps.toList.all (id ∘ isF))=false:=by
              rw [← Bool.not_eq_true,List.all_eq_true]
              exact hall
            rw [e]
            refine ifT rfl (k2.2 (no_num fun c=>hall fun x m=>?_))
            rw [hfg] at m
            have:=c.fi x m
            simp;exact this
      · refine ifT (by simp;omega) ((k _ (Same.refl _)).2 (no_num fun c=>h6 (by rw [lf];exact c.hi)))
    · refine ifF (by simp;omega) ?_
      exact ⟨_,rfl,ifT rfl ((k _ (Same.refl _)).2 (no_num fun c=>h1 (by rw [lf];exact c.lo)))⟩
end
end Cm
namespace Cm
open PySem L2 PySem.W PySem.NumText
theorem rp_cps (x:Str):(Txt.removeprefix x "-").cps.toList=figs x.cps.toList:=by
  rw [StrLaws.removeprefix_eq,show (("-" : Str))=⟨#[45]⟩ from by decide +kernel]
  have key:(decide (0+(⟨#[45]⟩:Str).length≤x.length) && Builtin.Str.subAt x ⟨#[45]⟩ 0)=true↔x.cps.toList[0]?=some 45:=by
    rw [Bool.and_eq_true,decide_eq_true_eq]
    exact StrLaws.subAt_one x 45 0
  unfold figs
  cases hx:x.cps.toList with
  | nil=>
    rw [if_neg (fun z=>by have:=key.mp z;rw [hx] at this;cases this),if_neg (by simp),hx]
  | cons c r=>
    by_cases hc:c=45
    · subst hc
      rw [if_pos (key.mpr (by rw [hx];rfl)),if_pos (show List.take 1 (45::r)=[45] from rfl),len_cps,hx,List.toList_toArray]
      show r.take (r.length+1-1)=r
      simp
    · rw [if_neg (fun z=>by have:=key.mp z;rw [hx] at this;simp at this;exact hc this),if_neg (by simp [hc]),hx]
theorem uni_dig:∀ c<128,Unicode.isDigit c=true→48≤c∧c≤57:=by decide +kernel
theorem int_figs {x:Str} (fi:∀ c∈figs x.cps.toList,48≤c∧c≤57) (h1:1≤(figs x.cps.toList).length) (h30:(figs x.cps.toList).length≤30):∃ n:Int,PySem.intText? x=some n∧nOk n∧x.length≤31:=by
  have ne:figs x.cps.toList≠[]:=by intro z;rw [z] at h1;simp at h1
  have vl:=val_lt _ _ rfl fi
  have p6:10 ^ (figs x.cps.toList).length≤10 ^ 30:=Nat.pow_le_pow_right (by decide) h30
  have e6:(10:Nat) ^ 30=1000000000000000000000000000000:=by decide +kernel
  have n30:N30=1000000000000000000000000000000:=rfl
  by_cases h45:x.cps.toList.take 1=[45]
  · have ef:figs x.cps.toList=x.cps.toList.drop 1:=by unfold figs;rw [if_pos h45]
    have ex:x.cps.toList=45::figs x.cps.toList:=by
      rw [ef]
      have:=List.take_append_drop 1 x.cps.toList
      rw [h45] at this
      exact this.symm
    have lx:x.length=(figs x.cps.toList).length+1:=by rw [len_cps];conv=>lhs;rw [ex];simp
    refine ⟨_,PySem.intText_neg ex fi ne (by omega),⟨by omega,by omega⟩,by omega⟩
  · have ef:figs x.cps.toList=x.cps.toList:=by unfold figs;rw [if_neg h45]
    rw [ef] at fi h1 h30 ne vl p6
    have lx:x.length=x.cps.toList.length:=len_cps x
    exact ⟨_,PySem.intText_digits fi ne (by omega),⟨by omega,by omega⟩,by omega⟩
section
variable {P:Program} {w:World} {K:PySem.W.Frag} {mg:Str→Option Value} {base:Heap}
def spNoA:Sp:=fun vs H Q _=>∃ x:Str,vs=[.str x]∧Asc x∧x.length≤50000∧Q (oV (numO x)) H
theorem ok_noA {f:Addr} {fd:FuncData} (F:Fun K "number_of" "number_of" (top 10) f fd) (T:Txt K mg) (TF:TxtF mg):FnOk P w K mg base CX0 1 f fd ["word"] spNoA:=by
  refine F.ok scNo (fun vs H Q E h=>?_) (fun cdv A outer s H vs Q E hr h=>?_)
  · obtain ⟨x,rfl,_⟩:=h
    rfl
  · obtain ⟨x,rfl,as,xl,k⟩:=h
    obtain ⟨tm,mm⟩:=TF.mf
    refine ⟨_,(pss_cons
  (ps_set (i:=1) scNo.nd rfl (Or.inl rfl) (pe_bm PySem.F.plainAttrs_str PySem.F.slot_str_removeprefix PySem.F.type_str_removeprefix mt_removeprefix (pv 0) (pa_cons pe_str pa_nil)))
  (pss_cons
  (ps_if (PW.pt (pw_or (pt_not (pt_val (pe_bm0 PySem.F.plainAttrs_str PySem.F.slot_str_isascii PySem.F.type_str_isascii mt_isascii (pv 1)))) (pw_or (pt_not (pt_val (pe_bm0 PySem.F.plainAttrs_str PySem.F.slot_str_isdigit PySem.F.type_str_isdigit mt_isdigit (pv 1)))) (pw_or1 (pt_cmpR op_gt (pe_callB call_len_str (by rfl) T.len bt_len (pa_cons (pv 1) pa_nil)) (pe_glob (v:=.int 30) rfl mm ⟨_,rfl⟩) (nomark _)))))) (pss_one
  (ps_ret pe_non)) pss_nil)
  (pss_cons
  (ps_set (i:=2) scNo.nd rfl (Or.inl rfl) (pe_callTy call_intT (by rfl) T.int bt_int (pa_cons (pv 0) pa_nil)))
  (pss_one
  (ps_ret (pe_ifExp (pt_cmpR op_eq (pe_callTy call_str_int (by rfl) T.str bt_str (pa_cons (pv 2) pa_nil)) (pv 0) (nomark _)) (pv 2) pe_non)))))),?_⟩
    have big:100000≤sizeLine:=by decide
    have ef:=rp_cps x
    have none_of:¬ Canon x.cps.toList→Q .non H:=fun h=>by
      have:=k
      rw [numO_none (no_num h)] at this
      exact this
    refine ⟨_,rfl,rfl,x,"-",rfl,rfl,by omega,?_⟩
    generalize Txt.removeprefix x "-" = fg at ef
    have fl:fg.length=(figs x.cps.toList).length:=by rw [len_cps,ef]
    have fle:(figs x.cps.toList).length≤x.cps.toList.length:=by
      unfold figs
      split
      · rw [List.length_drop];omega
      · exact Nat.le_refl _
    rw [← len_cps] at fle
    have fas:fg.cps.all (·<128)=true:=by
      rw [← Array.all_toList,ef,List.all_eq_true]
      intro c m
      have:c∈x.cps.toList:=by
        unfold figs at m
        split at m
        · exact List.mem_of_mem_drop m
        · exact m
      simpa using asc_iff.mp as c this
    refine ⟨_,rfl,rfl,fg,rfl,rfl,_,rfl,ifF (by dsimp only;rw [fas];rfl) ?_⟩
    refine ⟨_,rfl,rfl,fg,rfl,rfl,_,rfl,?_⟩
    have dig:Txt.isdigit fg=true↔1≤(figs x.cps.toList).length∧∀ c∈figs x.cps.toList,48≤c∧c≤57:=by
      unfold Txt.isdigit
      rw [Bool.and_eq_true,← Array.all_toList,ef,List.all_eq_true,fl]
      constructor
      · rintro ⟨h1,h2⟩
        refine ⟨of_decide_eq_true h1,fun c m=>uni_dig c ?_ (h2 c m)⟩
        rw [← Array.all_toList,ef,List.all_eq_true] at fas
        simpa using fas c m
      · rintro ⟨h1,h2⟩
        exact ⟨decide_eq_true h1,fun c m=>dig_uni c (by have:=h2 c m;omega) (h2 c m)⟩
    by_cases hd:Txt.isdigit fg=true
    case neg=>
      refine ifT (by dsimp only;simp [hd]) (none_of fun c=>hd (dig.mpr ⟨c.lo,c.fi⟩))
    obtain ⟨g1,g2⟩:=dig.mp hd
    refine ifF (by dsimp only;rw [hd];rfl) ?_
    refine ⟨_,rfl,fg,rfl,by omega,_,_,rfl,rfl,_,rfl,?_⟩
    by_cases h30:fg.length≤30
    case neg=>exact ifT (by simp;omega) (none_of fun c=>h30 (by rw [fl];exact c.hi))
    refine ifF (by simp;omega) ?_
    obtain ⟨n,hn,no,x31⟩:=int_figs g2 g1 (by omega)
    refine ⟨_,rfl,x,n,rfl,hn,by omega,?_⟩
    refine ⟨_,rfl,n,rfl,no.len.1,_,rfl,rfl,_,rfl,?_⟩
    by_cases he:numT n=x
    · refine ifT (decide_eq_true (by rw [← he])) ⟨_,rfl,?_⟩
      rw [← he,numO_of no] at k
      exact k
    · refine ifF (decide_eq_false fun z=>he (by injection z)) ?_
      have:numO x=none:=numO_none fun i hi e=>by
        obtain ⟨_,_,_,_,_,hint⟩:=num_parts i
        have l:=hi.len.2
        have:=hint (by show (numT i).length≤4300;omega)
        rw [show Str.ofString (toString i)=x from e.symm,hn] at this
        injection this with this
        exact he (by rw [this];exact e.symm)
      rw [this] at k
      exact k
end
end Cm
namespace Cm
open PySem L2 PySem.W
noncomputable def numD (x:Str):Int:=(numO x).getD 0
noncomputable def lostO (r:List Str):Option Th:=match r with
  | [x]=>match numO x with
    |some n=>if 1≤n then some (.lost n) else none
    |none=>none
  |_=>none
noncomputable def evO (r:List Str):Option Th:=match r with
  |a::b::k::us=>if nameB k=true∧((a::b::us).all fun x=>(numO x).isSome)=true then some (.ev (numD a) (numD b) k (us.map numD)) else none
  |_=>none
noncomputable def thO (ws:List Str):Option Th:=match ws with
  |[]=>none
  |w::r=>if w = "lost" then lostO r else if w = "event" then evO r else none
def OAt (K:Frag) (H:Hp) (y:V):Option Th→Prop
  |none=>y=.non
  |some th=>ThAt K H y th
theorem num_getD {x:Str} (h:(numO x).isSome=true):numO x=some (numD x):=by
  unfold numD
  cases e:numO x with
  |none=>rw [e] at h;cases h
  |some i=>rfl
theorem any_none:∀ ws:List Str,(ws.map fun x=>oD (numO x)).any nonD=!(ws.all fun x=>(numO x).isSome)
  |[]=>rfl
  | x::r=>by
    rw [List.map_cons,List.any_cons,List.all_cons,any_none r,Bool.not_and]
    cases numO x <;> rfl
theorem vals_some:∀ {ws:List Str},(ws.all fun x=>(numO x).isSome)=true→(ws.map fun x=>oV (numO x))=(ws.map numD).map V.int
  |[],_=>rfl
  | x::r,h=>by
    rw [List.all_cons,Bool.and_eq_true] at h
    rw [List.map_cons,List.map_cons,List.map_cons,vals_some h.2,num_getD h.1]
    rfl
theorem reps_o {K:Frag} {H:Hp}:∀ ws:List Str,Reps K H (ws.map fun x=>oV (numO x)) (ws.map fun x=>oD (numO x))
  |[]=>.nil
  |x::r=>.cons (oV_rep _) (reps_o r)
theorem dep_o:∀ ws:List Str,pdDeps (ws.map fun x=>oD (numO x))=0
  |[]=>rfl
  | x::r=>by
    rw [List.map_cons]
    show max (pdDep (oD (numO x))) (pdDeps (r.map fun x=>oD (numO x)))=0
    rw [dep_o r]
    cases numO x <;> rfl
structure Words (ws:List Str):Prop where
  as:∀ x∈ws,Asc x
  le:∀ x∈ws,x.length≤50000
  ln:ws.length≤50001
section
variable {P:Program} {w:World} {K:PySem.W.Frag} {mg:Str→Option Value} {base:Heap}
def spRlA (K:Frag):Sp:=fun vs H Q _=>∃ (q:Addr) (w0:Str) (r:List Str),vs=[.ref q]∧SqL K H q ((w0::r).map V.str)∧Words (w0::r)∧∀ y H',Same H H'→OAt K H' y (lostO r)→Q y H'
theorem ok_rlA {f fN:Addr} {fd fdN:FuncData} (F:Fun K "read_lost" "read_lost" (top 12) f fd) (T:Txt K mg) (DN:Def K mg "number_of" (top 10) ["word"] fN fdN) (GN:FnOk P w K mg base CX0 1 fN fdN ["word"] spNoA):FnOk P w K mg base CX0 2 f fd ["words"] (spRlA K):=by
  refine F.ok scRl (fun vs H Q E h=>?_) (fun cdv A outer s H vs Q E hr h=>?_)
  · obtain ⟨q,w0,r,rfl,_⟩:=h
    rfl
  · obtain ⟨q,w0,r,rfl,sq,W,k⟩:=h
    refine ⟨_,(pss_cons
  (ps_set (i:=1) scRl.nd rfl (Or.inl rfl) (pe_ifExp (pt_cmpR op_eq (pe_callB call_len_seq (by rfl) T.len bt_len (pa_cons (pv 0) pa_nil)) pe_int (nomark _)) (pe_call GN hr rfl DN.mg DN.F.kp DN.b .nil pass0 (pa_cons (pe_ix ix_list (pv 0) pe_int (fun _ _=>rfl)) pa_nil)) pe_non))
  (pss_one
  (ps_ret (pe_ifExp (PW.pt (pw_or (pt_cmpR op_isN (pv 1) pe_non (nomark _)) (pw_or1 (pt_cmpR op_lt (pv 1) pe_int (nomark _))))) pe_non (pe_tup (pa_cons pe_str (pa_cons (pv 1) pa_nil))))))),?_⟩
    refine ⟨_,rfl,q,_,rfl,.inl sq,rfl,_,rfl,?_⟩
    by_cases h2:r.length=1
    · obtain ⟨x,rfl⟩:∃ x,r=[x]:=List.length_eq_one_iff.mp h2
      refine ifT (by simp) ?_
      refine ⟨_,rfl,q,_,_,_,rfl,rfl,sq,atI_nat (j:=1) rfl,x,rfl,W.as x (by simp),W.le x (by simp),?_⟩
      have k:∀ y H',Same H H'→OAt K H' y (match numO x with|some n=>if 1≤n then some (.lost n) else none|none=>none)→Q y H':=k
      cases hx:numO x with
      | none=>
        rw [hx] at k
        exact ⟨_,rfl,rfl,_,rfl,ifT rfl (k .non H (Same.refl _) rfl)⟩
      | some n=>
        rw [hx] at k
        refine ⟨_,rfl,rfl,_,rfl,ifF rfl ⟨_,rfl,_,_,rfl,rfl,_,rfl,?_⟩⟩
        by_cases h1:1≤n
        · refine ifF (by simp;omega) ⟨_,rfl,(show 2≤sizeLine by decide),fun p hp=>k _ _ (Same.new hp) ?_⟩
          show OAt K _ _ (if 1≤n then some (Th.lost n) else none)
          rw [if_pos h1]
          exact .lost (SqT.of upd_same)
        · refine ifT (by simp;omega) (k .non H (Same.refl _) ?_)
          show OAt K _ _ (if 1≤n then some (Th.lost n) else none)
          rw [if_neg h1]
          rfl
    · refine ifF (by simp;omega) ?_
      refine ⟨_,rfl,rfl,_,rfl,ifT rfl (k .non H (Same.refl _) ?_)⟩
      have:lostO r=none:=by
        match r,h2 with
        |[],_=>rfl
        |[x],h2=>exact absurd rfl h2
        |_::_::_,_=>rfl
      rw [this]
      rfl
end
end Cm
namespace Cm
open PySem L2 PySem.W
theorem evO_short {r:List Str} (h:r.length<3):evO r=none:=by
  match r,h with
  |[],_=>rfl
  |[_],_=>rfl
  |[_,_],_=>rfl
  |_::_::_::_,h=>simp at h;omega
section
variable {P:Program} {w:World} {K:PySem.W.Frag} {mg:Str→Option Value} {base:Heap}
def spReA (K:Frag):Sp:=fun vs H Q _=>∃ (q:Addr) (w0:Str) (r:List Str),vs=[.ref q]∧SqL K H q ((w0::r).map V.str)∧Words (w0::r)∧∀ y H',Same H H'→OAt K H' y (evO r)→Q y H'
theorem ok_reA {f fN fI:Addr} {fd fdN fdI:FuncData} (F:Fun K "read_event" "read_event" (top 13) f fd) (T:Txt K mg) (TK':TxtK mg) (DI:Def K mg "is_name" (top 5) ["text"] fI fdI) (DN:Def K mg "number_of" (top 10) ["word"] fN fdN) (GN:FnOk P w K mg base CX0 1 fN fdN ["word"] spNoA):FnOk P w K mg base CX0 2 f fd ["words"] (spReA K):=by
  have GI:FnOk P w K mg base CX0 1 fI fdI ["text"] spIsName:=ok_isname DI.F T TK'
  refine F.ok scRe (fun vs H Q E h=>?_) (fun cdv A outer s H vs Q E hr h=>?_)
  · obtain ⟨q,w0,r,rfl,_⟩:=h
    rfl
  · obtain ⟨q,w0,r,rfl,sq,W,k⟩:=h
    have hu:=hr.units
    refine ⟨_,(pss_cons
  (ps_if (PW.pt (pw_or (pt_cmpR op_lt (pe_callB call_len_seq (by rfl) T.len bt_len (pa_cons (pv 0) pa_nil)) pe_int (nomark _)) (pw_or1 (pt_not (pt_val (pe_call GI hr rfl DI.mg DI.F.kp DI.b .nil pass0 (pa_cons (pe_ix ix_list (pv 0) pe_int (fun _ _=>rfl)) pa_nil))))))) (pss_one
  (ps_ret pe_non)) pss_nil)
  (pss_cons
  (ps_setComp (g:=gName 0) (te:=tCall spNoA [] E0 (tCons (tVar 0) tNil)) (i:=1) (own:=["word"]) (js:=[]) (N':=["word"]) (CompScope.of (osc:=defScope (top 13)) (N:=["words","numbers"]) rfl rfl ⟨rfl,by decide +kernel,by decide +kernel,by decide +kernel,rfl,by decide +kernel⟩) rfl scRe.nd rfl rfl (pi_list (pe_op op_cat (pe_slice sl_list (pv 0) (po_some pe_int) (po_some pe_int)) (pe_slice sl_list (pv 0) (po_some pe_int) po_none))) (fun _ _ _ _ _=>(pg_name (i:=0) (show List.Nodup (["word"]:List Str) by decide +kernel) rfl (Or.inl rfl) (Or.inr rfl))) (fun _ _ _ _ _=>pifs_nil) (fun _ _ _ _ _=>(pe_call GN hr rfl DN.mg DN.F.kp DN.b .nil pass0 (pa_cons (pv 0) pa_nil))))
  (pss_cons
  (ps_if (pt_cmpR (op_inN hu) pe_non (pv 1) (by rfl)) (pss_one
  (ps_ret pe_non)) pss_nil)
  (pss_one
  (ps_ret (pe_tup (pa_cons pe_str (pa_cons (pe_ix ix_list (pv 1) pe_int (fun _ _=>rfl)) (pa_cons (pe_ix ix_list (pv 1) pe_int (fun _ _=>rfl)) (pa_cons (pe_ix ix_list (pv 0) pe_int (fun _ _=>rfl)) (pa_cons (pe_callTy call_tuple_of (by rfl) T.tuple bt_tuple (pa_cons (pe_slice sl_list (pv 1) (po_some pe_int) po_none) pa_nil)) pa_nil))))))))))),?_⟩
    have big:200000≤sizeLine:=by decide
    have wl:=W.ln
    refine ⟨_,rfl,q,_,rfl,.inl sq,_,_,rfl,rfl,_,rfl,?_⟩
    by_cases h3:r.length<3
    · refine ifT (by simp;omega) (k .non H (Same.refl _) ?_)
      rw [evO_short h3]
      rfl
    obtain ⟨a,b,kk,us,rfl⟩:∃ a b kk us,r=a::b::kk::us:=by
      match r,h3 with
      |a::b::kk::us,_=>exact ⟨a,b,kk,us,rfl⟩
      |[],h=>simp at h
      |[_],h=>simp at h
      |[_,_],h=>simp at h
    refine ifF (by simp;omega) ?_
    have kl:=W.le kk (by simp)
    have k:∀ y H',Same H H'→OAt K H' y (if nameB kk=true∧((a::b::us).all fun x=>(numO x).isSome)=true then some (.ev (numD a) (numD b) kk (us.map numD)) else none)→Q y H':=k
    refine ⟨_,rfl,q,_,_,_,rfl,rfl,sq,atI_nat (j:=3) rfl,kk,rfl,by omega,_,rfl,?_⟩
    cases hk:nameB kk with
    | false=>
      refine ifT rfl (k .non H (Same.refl _) ?_)
      rw [if_neg (by simp [hk])]
      rfl
    |true=>
    refine ifF rfl ?_
    try dsimp only [tNext]
    have us5:us.length≤50001:=by simp at wl;omega
    refine ⟨_,rfl,_,rfl,_,rfl,q,_,rfl,sq,fun p1 hp1=>?_⟩
    have e1:cutV ((w0::a::b::kk::us).map V.str) (some 1) (some 3)=[.str a,.str b]:=cut_mid _ 1 3 (by simp) (by decide)
    have e2:cutV ((w0::a::b::kk::us).map V.str) (some 4) none=us.map V.str:=cut_drop _ 4 (by simp)
    rw [e1]
    have s1:Same H (upd H p1 (.lst [.str a,.str b])):=Same.new hp1
    have h1:(upd H p1 (.lst [.str a,.str b])) p1=some (.lst [.str a,.str b]):=upd_same
    generalize upd H p1 (.lst [.str a,.str b])=H1 at s1 h1 ⊢
    refine ⟨_,rfl,_,rfl,q,_,rfl,Same.seq s1 sq,fun p2 hp2=>?_⟩
    rw [e2]
    have s2:Same H1 (upd H1 p2 (.lst (us.map V.str))):=Same.new hp2
    have h2:(upd H1 p2 (.lst (us.map V.str))) p2=some (.lst (us.map V.str)):=upd_same
    generalize upd H1 p2 (.lst (us.map V.str))=H2 at s2 h2 ⊢
    refine ⟨p1,p2,_,_,rfl,rfl,s2 _ _ h1,h2,by simp;omega,fun p3 hp3=>?_⟩
    have s3:Same H2 (upd H2 p3 (.lst ([.str a,.str b]++us.map V.str))):=Same.new hp3
    have h3':(upd H2 p3 (.lst ([.str a,.str b]++us.map V.str))) p3=some (.lst ((a::b::us).map V.str)):=upd_same
    generalize upd H2 p3 (.lst ([.str a,.str b]++us.map V.str))=H3 at s3 h3' ⊢
    have S3:=s1.trans (s2.trans s3)
    have WA:∀ x∈a::b::us,Asc x∧x.length≤50000:=fun x m=>by
      have:x∈w0::a::b::kk::us:=by
        rcases List.mem_cons.mp m with rfl|m
        · simp
        · rcases List.mem_cons.mp m with rfl|m
          · simp
          · simp [m]
      exact ⟨W.as x this,W.le x this⟩
    refine ⟨p3,rfl,⟨_,SqL.of h3'⟩,?_⟩
    refine comp_list (K:=K) (a:=p3) (xs:=(a::b::us).map V.str) (fun i ys σ' H'=>(∃ v,σ'=[v])∧H'=H3∧ys=((a::b::us).take i).map fun x=>oV (numO x)) (by simp;omega) ⟨⟨none,rfl⟩,rfl,rfl⟩ (fun i ys σ' H' _ ⟨_,e,_⟩=>by rw [e];exact SqL.of h3') ?_ ?_
    · rintro i x ys σ' H' hx hy ⟨⟨v,rfl⟩,rfl,rfl⟩ N hN
      rw [List.getElem?_map] at hx
      cases hj:(a::b::us)[i]? with
      |none=>rw [hj] at hx;cases hx
      | some j=>
        rw [hj] at hx
        have hx:V.str j=x:=by simpa using hx
        subst hx
        obtain ⟨j1,j2⟩:=WA j (List.mem_of_getElem? hj)
        refine ⟨_,rfl,j,rfl,j1,j2,hN _ _ _ (by simpa using hy) ⟨⟨_,rfl⟩,rfl,?_⟩⟩
        rw [List.take_add_one,hj,List.map_append]
        rfl
    rintro ys σ' H' hy ⟨⟨v,rfl⟩,rfl,rfl⟩
    have e9:(a::b::us).take ((a::b::us).map V.str).length=a::b::us:=List.take_of_length_le (by simp)
    rw [e9]
    refine ⟨by simp;omega,fun p4 hp4=>?_⟩
    have s4:Same H' (upd H' p4 (.lst ((a::b::us).map fun x=>oV (numO x)))):=Same.new hp4
    have h4:(upd H' p4 (.lst ((a::b::us).map fun x=>oV (numO x)))) p4=some (.lst ((a::b::us).map fun x=>oV (numO x))):=upd_same
    generalize upd H' p4 (.lst ((a::b::us).map fun x=>oV (numO x)))=H4 at s4 h4 ⊢
    refine ⟨_,rfl,p4,_,_,rfl,rfl,SqL.of h4,reps_o (a::b::us),by rw [dep_o];decide,_,rfl,?_⟩
    rw [any_none]
    cases hall:((a::b::us).all fun x=>(numO x).isSome) with
    | false=>
      refine ifT rfl (k .non H4 (S3.trans s4) ?_)
      rw [if_neg (by rw [hall];simp)]
      rfl
    |true=>
    refine ifF rfl ?_
    have ev:=vals_some hall
    rw [ev] at h4
    have h4:H4 p4=some (.lst (.int (numD a)::.int (numD b)::(us.map numD).map V.int)):=h4
    try dsimp only [tNext]
    refine ⟨_,rfl,p4,_,_,_,rfl,rfl,SqL.of h4,atI_nat (j:=0) rfl,_,rfl,p4,_,_,_,rfl,rfl,SqL.of h4,atI_nat (j:=1) rfl,_,rfl,q,_,_,_,rfl,rfl,Same.seq (Same.trans S3 s4) sq,atI_nat (j:=3) rfl,?_⟩
    refine ⟨_,rfl,_,rfl,p4,_,rfl,SqL.of h4,fun p5 hp5=>?_⟩
    have e5:cutV (.int (numD a)::.int (numD b)::(us.map numD).map V.int) (some 2) none=(us.map numD).map V.int:=cut_drop _ 2 (by simp)
    rw [e5]
    have s5:Same H4 (upd H4 p5 (.lst ((us.map numD).map V.int))):=Same.new hp5
    refine ⟨p5,(us.map numD).map V.int,rfl,.inl ⟨SqL.of upd_same,fun t6 ht6=>?_⟩⟩
    have s6:=Same.new (o:=.tup ((us.map numD).map V.int)) ht6
    refine ⟨(show 5≤sizeLine by decide),fun q7 hq7=>?_⟩
    have s7:=Same.new (o:=.tup [V.str "event",V.int (numD a),V.int (numD b),V.str kk,V.ref t6]) hq7
    refine k _ _ (S3.trans (s4.trans (s5.trans (Same.trans s6 s7)))) ?_
    rw [if_pos ⟨hk,hall⟩]
    exact .ev (SqT.of upd_same) (SqT.of (s7 _ _ upd_same))
theorem words_c {x:Str} (c:Nat) (as:Asc x) (xl:x.length≤50000):Words (Txt.split x ⟨#[c]⟩):=by
  have wt:=PyProof.Rows.split_weight x ⟨#[c]⟩ (Nat.le_refl 1)
  have mem:∀ y∈Txt.split x ⟨#[c]⟩,y.length≤((Txt.split x ⟨#[c]⟩).map (·.length)).sum:=fun y m=>by
    generalize Txt.split x ⟨#[c]⟩=l at m
    induction l with
    |nil=>cases m
    | cons z r ih=>
      rw [List.map_cons,List.sum_cons]
      rcases List.mem_cons.mp m with rfl|m
      · omega
      · have:=ih m;omega
  have ne:(Txt.split x ⟨#[c]⟩).length≠0:=fun h=>split_ne x c (List.length_eq_zero_iff.mp h)
  refine ⟨fun y m=>asc_iff.mpr fun d hd=>?_,fun y m=>by have:=mem y m;omega,by omega⟩
  have e:=StrLaws.join_split x ⟨#[c]⟩
  refine asc_iff.mp as d ?_
  rw [← e]
  clear e mem wt ne
  generalize Txt.split x ⟨#[c]⟩=l at m
  induction l with
  |nil=>cases m
  | cons z r ih=>
    obtain ⟨rest,e1,h⟩:=join_tl c z r
    rw [e1]
    rcases List.mem_cons.mp m with rfl|m
    · exact List.mem_append_left _ hd
    · refine List.mem_append_right _ ?_
      rcases h with ⟨rfl,_⟩|⟨_,rfl⟩
      · cases m
      · exact List.mem_cons_of_mem _ (ih m)
theorem words_of {x:Str} (as:Asc x) (xl:x.length≤50000):Words (Txt.split x " "):=by
  rw [c_space]
  exact words_c 32 as xl
def spRrA (K:Frag):Sp:=fun vs H Q _=>∃ x:Str,vs=[.str x]∧Asc x∧x.length≤50000∧∀ y H',Same H H'→OAt K H' y (thO (Txt.split x " "))→Q y H'
theorem ok_rrA {f fL fE:Addr} {fd fdL fdE:FuncData} (F:Fun K "read_row" "read_row" (top 11) f fd) (DL:Def K mg "read_lost" (top 12) ["words"] fL fdL) (GL:FnOk P w K mg base CX0 2 fL fdL ["words"] (spRlA K)) (DE:Def K mg "read_event" (top 13) ["words"] fE fdE) (GE:FnOk P w K mg base CX0 2 fE fdE ["words"] (spReA K)):FnOk P w K mg base CX0 3 f fd ["row"] (spRrA K):=by
  refine F.ok scRr (fun vs H Q E h=>?_) (fun cdv A outer s H vs Q E hr h=>?_)
  · obtain ⟨x,rfl,_⟩:=h
    rfl
  · obtain ⟨x,rfl,as,xl,k⟩:=h
    refine ⟨_,(pss_cons
  (ps_set (i:=1) scRr.nd rfl (Or.inl rfl) (pe_bm PySem.F.plainAttrs_str PySem.F.slot_str_split PySem.F.type_str_split mt_split (pv 0) (pa_cons pe_str pa_nil)))
  (pss_cons
  (ps_if (pt_cmpR op_eq (pe_ix ix_list (pv 1) pe_int (fun _ _=>rfl)) pe_str (nomark _)) (pss_one
  (ps_ret (pe_call GL hr rfl DL.mg DL.F.kp DL.b .nil pass0 (pa_cons (pv 1) pa_nil)))) pss_nil)
  (pss_one
  (ps_ret (pe_ifExp (pt_cmpR op_eq (pe_ix ix_list (pv 1) pe_int (fun _ _=>rfl)) pe_str (nomark _)) (pe_call GE hr rfl DE.mg DE.F.kp DE.b .nil pass0 (pa_cons (pv 1) pa_nil)) pe_non))))),?_⟩
    refine ⟨_,rfl,rfl,x," ",rfl,rfl,by decide +kernel,by omega,fun q hq=>?_⟩
    have W:=words_of as xl
    have ne:=split_ne x 32
    rw [← c_space] at ne
    generalize Txt.split x " " = ws at W ne k ⊢
    obtain ⟨w0,r,rfl⟩:∃ w0 r,ws=w0::r:=by cases ws with|nil=>exact absurd rfl ne|cons a b=>exact ⟨a,b,rfl⟩
    have s1:Same H (upd H q (.lst ((w0::r).map V.str))):=Same.new hq
    have h1:(upd H q (.lst ((w0::r).map V.str))) q=some (.lst ((w0::r).map V.str)):=upd_same
    generalize upd H q (.lst ((w0::r).map V.str))=H1 at s1 h1 ⊢
    have k:∀ y H',Same H H'→OAt K H' y (if w0 = "lost" then lostO r else if w0 = "event" then evO r else none)→Q y H':=k
    refine ⟨_,rfl,q,_,_,_,rfl,rfl,SqL.of h1,atI_nat (j:=0) rfl,rfl,_,rfl,?_⟩
    by_cases hl:w0 = "lost"
    · rw [if_pos hl] at k
      refine ifT (by simp [hl]) ?_
      exact ⟨_,rfl,q,w0,r,rfl,SqL.of h1,W,fun y H' s2 ry=>k y H' (s1.trans s2) ry⟩
    · rw [if_neg hl] at k
      refine ifF (by simp [hl]) ?_
      refine ⟨_,rfl,q,_,_,_,rfl,rfl,SqL.of h1,atI_nat (j:=0) rfl,rfl,_,rfl,?_⟩
      by_cases he:w0 = "event"
      · rw [if_pos he] at k
        refine ifT (by simp [he]) ?_
        exact ⟨_,rfl,q,w0,r,rfl,SqL.of h1,W,fun y H' s2 ry=>k y H' (s1.trans s2) ry⟩
      · rw [if_neg he] at k
        exact ifF (by simp [he]) (k .non H1 s1 rfl)
end
end Cm
namespace Cm
open PySem L2 PySem.W
def goesB:Th→Int→Option Int→Bool
  |.lost _,_,_=>true
  |.ev p t _ _,pl,none=>decide (p=pl)
  |.ev p t _ _,pl,some u=>decide (p=pl) && decide (u≤t)
noncomputable def readR:Int→Option Int→List Str→List Th
  |_,_,[]=>[]
  | pl,tm,x::r=>match thO (Txt.split x " ") with
    |none=>[]
    |some th=>if goesB th pl tm=true then th::readR (pl+widthT th) (timeT th tm) r else []
noncomputable def toldW (ws:List Str):List Th:=readR 0 none ws.dropLast
noncomputable def wrongW (ws:List Str):Option Nat:=if (toldW ws).length=ws.dropLast.length∧ws.getLast?=some "" then none else some (toldW ws).length
def wV:Option Nat→V
  |none=>.non
  |some n=>.int n
theorem read_stop {pl:Int} {tm:Option Int} {x:Str} {r:List Str} (h:thO (Txt.split x " ")=none):readR pl tm (x::r)=[]:=by
  show (match thO (Txt.split x " ") with|none=>[]|some th=>if goesB th pl tm=true then th::readR (pl+widthT th) (timeT th tm) r else [])=[]
  rw [h]
theorem read_bad {pl:Int} {tm:Option Int} {x:Str} {r:List Str} {th:Th} (h:thO (Txt.split x " ")=some th) (g:goesB th pl tm=false):readR pl tm (x::r)=[]:=by
  show (match thO (Txt.split x " ") with|none=>[]|some th=>if goesB th pl tm=true then th::readR (pl+widthT th) (timeT th tm) r else [])=[]
  rw [h]
  show (if goesB th pl tm=true then th::readR (pl+widthT th) (timeT th tm) r else [])=[]
  rw [if_neg (by rw [g];decide)]
theorem read_more {pl:Int} {tm:Option Int} {x:Str} {r:List Str} {th:Th} (h:thO (Txt.split x " ")=some th) (g:goesB th pl tm=true):readR pl tm (x::r)=th::readR (pl+widthT th) (timeT th tm) r:=by
  show (match thO (Txt.split x " ") with|none=>[]|some th=>if goesB th pl tm=true then th::readR (pl+widthT th) (timeT th tm) r else [])=_
  rw [h]
  show (if goesB th pl tm=true then th::readR (pl+widthT th) (timeT th tm) r else [])=_
  rw [if_pos g]
section
variable {P:Program} {w:World} {K:PySem.W.Frag} {mg:Str→Option Value} {base:Heap}
def spGoA (K:Frag):Sp:=fun vs H Q _=>∃ (x:V) (th:Th) (pl:Int) (tm:Option Int),vs=[x,.int pl,tmV tm]∧ThAt K H x th∧Q (.bl (goesB th pl tm)) H
theorem ok_goA {f:Addr} {fd:FuncData} (F:Fun K "goes_on" "goes_on" (top 14) f fd):FnOk P w K mg base CX0 1 f fd ["thing","place","time"] (spGoA K):=by
  refine F.ok scGo (fun vs H Q E h=>?_) (fun cdv A outer s H vs Q E hr h=>?_)
  · obtain ⟨x,th,pl,tm,rfl,_⟩:=h
    rfl
  · obtain ⟨x,th,pl,tm,rfl,ta,k⟩:=h
    refine ⟨_,(pss_cons
  (ps_if (pt_cmpR op_eq (pe_ix ix_tup (pv 0) pe_int (fun _ _=>rfl)) pe_str (nomark _)) (pss_one
  (ps_ret pe_bl)) pss_nil)
  (pss_one
  (ps_ret (pe_and (pe_cmpR op_eq (pe_ix ix_tup (pv 0) pe_int (fun _ _=>rfl)) (pv 1) (nomark _)) (pe_one (pe_or (pe_cmpR op_isN (pv 2) pe_non (nomark _)) (pe_one (pe_cmpR op_ge (pe_ix ix_tup (pv 0) pe_int (fun _ _=>rfl)) (pv 2) (nomark _))))))))),?_⟩
    cases ta with
    |@lost a n sq=>exact ⟨_,rfl,a,_,_,_,rfl,rfl,sq,atI_nat (j:=0) rfl,rfl,_,rfl,ifT (by simp) k⟩
    | @ev a b p t kk us sq sqz=>
      refine ⟨_,rfl,a,_,_,_,rfl,rfl,sq,atI_nat (j:=0) rfl,rfl,_,rfl,ifF (by decide +kernel) ?_⟩
      try dsimp only [tNext]
      refine ⟨_,rfl,a,_,_,_,rfl,rfl,sq,atI_nat (j:=1) rfl,_,rfl,rfl,_,rfl,?_⟩
      by_cases hp:p=pl
      · refine ifT (decide_eq_true (by rw [hp])) ?_
        cases tm with
        | none=>
          have k:Q (.bl (decide (p=pl))) H:=k
          rw [decide_eq_true hp] at k
          exact ⟨_,rfl,rfl,_,rfl,ifT rfl k⟩
        | some u=>
          have k:Q (.bl (decide (p=pl) && decide (u≤t))) H:=k
          rw [decide_eq_true hp,Bool.true_and] at k
          exact ⟨_,rfl,rfl,_,rfl,ifF rfl ⟨_,rfl,a,_,_,_,rfl,rfl,sq,atI_nat (j:=2) rfl,_,rfl,_,_,rfl,rfl,k⟩⟩
      · have nv:¬ V.int p=V.int pl:=fun e=>hp (by injection e)
        refine ifF (decide_eq_false nv) ?_
        have k:Q (.bl false) H:=by
          cases tm with
          | none=>
            have k:Q (.bl (decide (p=pl))) H:=k
            rwa [decide_eq_false hp] at k
          | some u=>
            have k:Q (.bl (decide (p=pl) && decide (u≤t))) H:=k
            rwa [decide_eq_false hp,Bool.false_and] at k
        exact k
abbrev NRs:List Str:=["text","rows","rest","told","place","time","number","row","thing","wrong"]
theorem scRs:FnScope NRs ["text"] (defScope (top 15)):=⟨rfl,rfl,rfl,by decide +kernel,rfl,by decide +kernel,by decide +kernel⟩
def spRsA (K:Frag):Sp:=fun vs H Q _=>∃ x:Str,vs=[.str x]∧Asc x∧x.length≤50000∧∀ (q l:Addr) (xs:List V) (H':Hp),Same H H'→H q=none→H l=none→H' q=some (.tup [.ref l,wV (wrongW (Txt.split x "\n"))])→H' l=some (.lst xs)→ThsAt K H' xs (toldW (Txt.split x "\n"))→Q (.ref q) H'
theorem ok_rsA {f fR fG fP:Addr} {fd fdR fdG fdP:FuncData} (F:Fun K "read_rows" "read_rows" (top 15) f fd) (T:Txt K mg) (hen:mg "enumerate" = none) (DR:Def K mg "read_row" (top 11) ["row"] fR fdR) (GR:FnOk P w K mg base CX0 3 fR fdR ["row"] (spRrA K)) (DG:Def K mg "goes_on" (top 14) ["thing","place","time"] fG fdG) (DP:Def K mg "place_behind" (top 7) ["place","told"] fP fdP):FnOk P w K mg base CX0 4 f fd ["text"] (spRsA K):=by
  have GG:FnOk P w K mg base CX0 1 fG fdG ["thing","place","time"] (spGoA K):=ok_goA DG.F
  have GP:FnOk P w K mg base CX0 1 fP fdP ["place","told"] (spPb K):=ok_pb DP.F
  refine F.ok scRs (fun vs H Q E h=>?_) (fun cdv A outer s H vs Q E hr h=>?_)
  · obtain ⟨x,rfl,_⟩:=h
    rfl
  · obtain ⟨x,rfl,as,xl,k⟩:=h
    have hr1:Room 1 _:=hr.mono (by decide)
    refine ⟨_,(pss_cons
  (ps_asg (pe_bm PySem.F.plainAttrs_str PySem.F.slot_str_split PySem.F.type_str_split mt_split (pv 0) (pa_cons pe_str pa_nil)) (pg_star rfl (pgs_star (pg_name (i:=1) scRs.nd rfl (Or.inl rfl)) (pgs_cons (pg_name (i:=2) scRs.nd rfl (Or.inl rfl)) pgs_nil))))
  (pss_cons (ps_set (i:=3) scRs.nd rfl (Or.inl rfl) (pe_lst pa_nil))
  (pss_cons (ps_set (i:=4) scRs.nd rfl (Or.inl rfl) pe_int)
  (pss_cons (ps_set (i:=5) scRs.nd rfl (Or.inl rfl) pe_non)
  (pss_cons (ps_for PassesOwn.never rfl (pi_enumL rfl hen bt_enumerate (pa_cons (pv 1) pa_nil)) (pg_tup rfl (pgs_cons (pg_name (i:=6) scRs.nd rfl (Or.inl rfl)) (pgs_cons (pg_name (i:=7) scRs.nd rfl (Or.inl rfl)) pgs_nil))) (pss_cons
    (ps_set (i:=8) scRs.nd rfl (Or.inl rfl) (pe_call GR hr rfl DR.mg DR.F.kp DR.b .nil pass0 (pa_cons (pv 7) pa_nil)))
    (pss_cons (ps_if (PW.pt (pw_or (pt_cmpR op_isN (pv 8) pe_non (nomark _)) (pw_or1 (pt_not (pt_val (pe_call GG hr1 rfl DG.mg DG.F.kp DG.b .nil pass0 (pa_cons (pv 8) (pa_cons (pv 4) (pa_cons (pv 5) pa_nil))))))))) (pss_one (ps_ret (pe_tup (pa_cons (pv 3) (pa_cons (pv 6) pa_nil))))) pss_nil)
    (pss_cons (ps_expr (pe_bm PySem.F.plainAttrs_list PySem.F.slot_list_append PySem.F.type_list_append mt_append (pv 3) (pa_cons (pv 8) pa_nil)))
    (pss_cons (ps_set (i:=4) scRs.nd rfl (Or.inl rfl) (pe_call GP hr1 rfl DP.mg DP.F.kp DP.b .nil pass0 (pa_cons (pv 4) (pa_cons (pe_lst (pa_cons (pv 8) pa_nil)) pa_nil))))
    (pss_one (ps_if (pt_cmpR op_eq (pe_ix ix_tup (pv 8) pe_int (fun _ _=>rfl)) pe_str (nomark _)) (pss_one (ps_set (i:=5) scRs.nd rfl (Or.inl rfl) (pe_ix ix_tup (pv 8) pe_int (fun _ _=>rfl)))) pss_nil)))))))
  (pss_cons (ps_set (i:=9) scRs.nd rfl (Or.inl rfl) (pe_ifExp (pt_cmpR op_eq (pv 2) pe_str (nomark _)) pe_non (pe_callB call_len_seq (by rfl) T.len bt_len (pa_cons (pv 1) pa_nil))))
  (pss_one (ps_ret (pe_tup (pa_cons (pv 3) (pa_cons (pv 9) pa_nil))))))))))),?_⟩
    have big:60000≤sizeLine:=by decide
    have W:=words_c 10 as xl
    have ne:=split_ne x 10
    rw [← c_line] at W ne
    refine ⟨_,rfl,rfl,x,"\n",rfl,rfl,by decide +kernel,by omega,fun q0 hq0=>?_⟩
    generalize Txt.split x "\n" = ws at W ne k ⊢
    obtain ⟨rows,rest,rfl⟩:∃ rows rest,ws=rows++[rest]:=⟨ws.dropLast,ws.getLast ne,(List.dropLast_concat_getLast ne).symm⟩
    have eT:toldW (rows++[rest])=readR 0 none rows:=by unfold toldW;rw [List.dropLast_concat]
    have eW:wrongW (rows++[rest])=if (readR 0 none rows).length=rows.length∧rest = "" then none else some (readR 0 none rows).length:=by
      unfold wrongW
      rw [eT,List.dropLast_concat,List.getLast?_concat]
      by_cases e:rest = ""
      · simp [e]
      · simp [e]
    rw [eT,eW] at k
    clear eT eW ne
    have rl:rows.length≤50000:=by have:=W.ln;rw [List.length_append] at this;simp at this;omega
    have s0:Same H (upd H q0 (.lst ((rows++[rest]).map V.str))):=Same.new hq0
    refine ⟨q0,rows.map V.str,.str rest,rfl,?_,fun qr hqr=>?_⟩
    · have:(rows++[rest]).map V.str=rows.map V.str++[V.str rest]:=by simp
      rw [this]
      exact SqL.of upd_same
    have s1:=s0.trans (Same.new (o:=.lst (rows.map V.str)) hqr)
    have h1:(upd (upd H q0 (.lst ((rows++[rest]).map V.str))) qr (.lst (rows.map V.str))) qr=some (.lst (rows.map V.str)):=upd_same
    generalize upd (upd H q0 (.lst ((rows++[rest]).map V.str))) qr (.lst (rows.map V.str))=H1 at s1 h1 ⊢
    refine ⟨_,_,rfl,_,_,rfl,rfl,?_⟩
    refine ⟨(show 0≤sizeLine by decide),fun lt hlt=>?_⟩
    have s2:Same H1 (upd H1 lt (.lst [])):=Same.new hlt
    have h2:(upd H1 lt (.lst [])) lt=some (.lst []):=upd_same
    generalize upd H1 lt (.lst [])=H2 at s2 h2 ⊢
    have S2:=s1.trans s2
    have hltn:H lt=none:=Same.free s1 hlt
    try dsimp only [gName]
    refine ⟨_,rfl,qr,rfl,⟨_,SqL.of (s2 _ _ h1)⟩,?_⟩
    refine for_enumL (K:=K) (a:=qr) (xs:=rows.map V.str) (fun i σ' H'=>(∃ (pl:Int) (tm:Option Int) (ths:List Th) (u6 u7 u8:Option V),σ'=[some (.str x),some (.ref qr),some (.str rest),some (.ref lt),some (.int pl),some (tmV tm),u6,u7,u8,none]∧ths.length=i∧readR 0 none rows=ths++readR pl tm (rows.drop i)∧∃ xs,H' lt=some (.lst xs)∧ThsAt K H' xs ths)∧Same H1 H') ⟨⟨0,none,[],none,none,none,rfl,rfl,rfl,[],h2,.nil⟩,s2⟩ (fun i σ' H' _ ⟨_,s'⟩=>SqL.of (s' _ _ h1)) ?_ ?_
    · rintro i v σ' H3 p hv ⟨⟨pl,tm,ths,u6,u7,u8,rfl,tl,rd,xs,hxs,ta⟩,s3⟩ hp
      rw [List.getElem?_map] at hv
      obtain ⟨row,hrow,rfl⟩:∃ row,rows[i]?=some row∧V.str row=v:=by
        cases hj:rows[i]? with
        |none=>rw [hj] at hv;cases hv
        |some row=>rw [hj] at hv;exact ⟨row,rfl,by simpa using hv⟩
      have il:=(List.getElem?_eq_some_iff.mp hrow).1
      have mr:row∈rows++[rest]:=List.mem_append_left _ (List.mem_of_getElem? hrow)
      have dr:rows.drop i=row::rows.drop (i+1):=by rw [List.drop_eq_getElem_cons il];rw [List.getElem?_eq_getElem il] at hrow;injection hrow with hrow;rw [hrow]
      rw [dr] at rd
      have s4:Same H3 (upd H3 p (.tup [.int (i:Nat),.str row])):=Same.new hp
      refine ⟨p,_,rfl,SqT.of upd_same,rfl,_,_,rfl,_,_,rfl,rfl,?_⟩
      have hxs4:=s4 _ _ hxs
      have ta4:=ta.same s4
      generalize upd H3 p (.tup [.int (i:Nat),.str row])=H4 at s4 hxs4 ta4 ⊢
      refine ⟨_,rfl,row,rfl,W.as row mr,W.le row mr,fun y H5 s5 oy=>?_⟩
      have hxs5:=s5 _ _ hxs4
      have ta5:=ta4.same s5
      have xl5:=ta5.length
      have S5:Same H1 H5:=s3.trans (s4.trans s5)
      have out:readR pl tm (row::rows.drop (i+1))=[]→∀ (q:Addr),H5 q=none→Q (.ref q) (upd H5 q (.tup [.ref lt,.int (i:Nat)])):=fun e q hq=>by
        have s6:=Same.new (o:=.tup [.ref lt,.int (i:Nat)]) hq
        rw [rd,e,List.append_nil,tl,if_neg (fun h=>Nat.lt_irrefl _ (h.1 ▸ il))] at k
        exact k q lt xs _ (s1.trans (Same.trans S5 s6)) (Same.free (Same.trans s1 S5) hq) hltn upd_same (s6 _ _ hxs5) (ta5.same s6)
      cases ho:thO (Txt.split row " ") with
      | none=>
        rw [ho] at oy
        have oy:y=.non:=oy
        subst oy
        exact ⟨_,rfl,rfl,_,rfl,ifT rfl ⟨_,rfl,_,rfl,(show 2≤sizeLine by decide),fun q hq=>out (read_stop ho) q hq⟩⟩
      |some th=>
      rw [ho] at oy
      have ty:ThAt K H5 y th:=oy
      have ny:¬ y=.non:=by rintro rfl;cases ty
      refine ⟨_,rfl,rfl,_,rfl,ifF (by simp [ny]) ⟨_,rfl,_,rfl,_,rfl,y,th,pl,tm,rfl,ty,_,rfl,?_⟩⟩
      cases hg:goesB th pl tm with
      |false=>exact ifT rfl ⟨_,rfl,_,rfl,(show 2≤sizeLine by decide),fun q hq=>out (read_bad ho hg) q hq⟩
      |true=>
      refine ifF rfl ?_
      try dsimp only [tNext]
      rw [read_more ho hg] at rd
      have rd':readR 0 none rows=(ths++[th])++readR (pl+widthT th) (timeT th tm) (rows.drop (i+1)):=by rw [rd];simp
      refine ⟨_,rfl,.inl ⟨rfl,_,SqL.of hxs5⟩,_,rfl,lt,xs,y,rfl,rfl,hxs5,Nat.lt_of_le_of_lt (show xs.length≤50000 by omega) (by decide),?_⟩
      have ta6:ThsAt K (upd H5 lt (.lst (xs++[y]))) (xs++[y]) (ths++[th]):=ThsAt.snoc (ty.upd hxs5) (ta5.upd hxs5)
      have ty6:ThAt K (upd H5 lt (.lst (xs++[y]))) y th:=ty.upd hxs5
      have S6:Same H1 (upd H5 lt (.lst (xs++[y]))):=fun b u e=>by
        rw [upd_ne (ne_of_none e hlt)]
        exact S5 _ _ e
      have h6:(upd H5 lt (.lst (xs++[y]))) lt=some (.lst (xs++[y])):=upd_same
      generalize upd H5 lt (.lst (xs++[y]))=H6 at ta6 ty6 S6 h6 ⊢
      refine ⟨_,rfl,_,rfl,(show 1≤sizeLine by decide),fun l7 hl7=>?_⟩
      have s7:Same H6 (upd H6 l7 (.lst [y])):=Same.new hl7
      have ty7:=ty6.same s7
      refine ⟨pl,l7,y,th,rfl,SqL.of upd_same,ty7,?_⟩
      have h7:=s7 _ _ h6
      have ta7:=ta6.same s7
      have S7:=S6.trans s7
      have tl7:(ths++[th]).length=i+1:=by rw [List.length_append,tl];rfl
      generalize upd H6 l7 (.lst [y])=H7 at s7 ty7 h7 ta7 S7 ⊢
      cases ty7 with
      | @lost a n sqa=>
        refine ⟨_,rfl,a,_,_,_,rfl,rfl,sqa,atI_nat (j:=0) rfl,rfl,_,rfl,ifF (by decide +kernel) ?_⟩
        exact ⟨⟨pl+widthT (.lost n),tm,_,_,_,_,rfl,tl7,rd',_,h7,ta7⟩,S7⟩
      | @ev a b p' t kk us sqa sqz=>
        refine ⟨_,rfl,a,_,_,_,rfl,rfl,sqa,atI_nat (j:=0) rfl,rfl,_,rfl,ifT (by simp) ?_⟩
        refine ⟨_,rfl,a,_,_,_,rfl,rfl,sqa,atI_nat (j:=2) rfl,?_⟩
        exact ⟨⟨pl+widthT (.ev p' t kk us),some t,_,_,_,_,rfl,tl7,rd',_,h7,ta7⟩,S7⟩
    · rintro σ' H3 ⟨⟨pl,tm,ths,u6,u7,u8,rfl,tl,rd,xs,hxs,ta⟩,s3⟩
      have e9:rows.drop (rows.map V.str).length=[]:=List.drop_eq_nil_of_le (by simp)
      rw [e9,show readR pl tm []=[] from rfl,List.append_nil] at rd
      rw [List.length_map] at tl
      rw [rd] at k
      refine ⟨_,rfl,rfl,_,rfl,?_⟩
      by_cases hrest:rest = ""
      · rw [if_pos ⟨tl,hrest⟩] at k
        refine ifT (by simp [hrest]) ?_
        refine ⟨_,rfl,_,rfl,(show 2≤sizeLine by decide),fun q hq=>?_⟩
        have s4:=Same.new (o:=.tup [.ref lt,.non]) hq
        exact k q lt xs _ (s1.trans (Same.trans s3 s4)) (Same.free (Same.trans s1 s3) hq) hltn upd_same (s4 _ _ hxs) (ta.same s4)
      · rw [if_neg (fun h=>hrest h.2),tl] at k
        refine ifF (by simp [hrest]) ?_
        refine ⟨_,rfl,qr,_,rfl,.inl (SqL.of (s3 _ _ h1)),?_⟩
        rw [List.length_map]
        refine ⟨_,rfl,_,rfl,(show 2≤sizeLine by decide),fun q hq=>?_⟩
        have s4:=Same.new (o:=.tup [.ref lt,.int (rows.length:Nat)]) hq
        exact k q lt xs _ (s1.trans (Same.trans s3 s4)) (Same.free (Same.trans s1 s3) hq) hltn upd_same (s4 _ _ hxs) (ta.same s4)
end
end Cm
namespace Cm
open PySem L2 PySem.W
theorem upd_twice {H:Hp} {a:Addr} {x y:HO}:upd (upd H a x) a y=upd H a y:=funext fun b=>by
  by_cases h:b=a
  · subst h;rw [upd_same,upd_same]
  · rw [upd_ne h,upd_ne h,upd_ne h]
structure FunD (K:PySem.W.Frag) (x qual:Str) (st:Stmt) (dV:Value) (f:Addr) (fd:FuncData):Prop where
  ex:∃ (oc:Value) (od:Option Addr) (kV doc pm:Value) (an:Option Addr) (cdv ct:Value) (osl:Array (Option Value)),
    fd=PySem.W.fnOf x qual (defArgs st) (defBody st) (defScope st) dV kV doc pm an cdv ct∧K.lookup f=some ⟨oc,od,.func fd,osl⟩∧PySem.W.codeIn K cdv qual=true
  kp:PySem.W.keepIn K (.ref f)=true
section
variable {P:Program} {w:World} {K:PySem.W.Frag} {mg:Str→Option Value} {base:Heap}
theorem FunD.binds {x qual:Str} {st:Stmt} {f T:Addr} {fd:FuncData} {ps:List Str} {ds:List Value} {oT:Obj} {items:Array Value} {n:Nat} (F:FunD K x qual st (.ref T) f fd) (hT:K.lookup T=some oT) (hd:oT.data=.seq items n)
    (h:∀ (kV doc pm:Value) (an:Option Addr) (cdv ct:Value) (s:Shared) (us:List Value),s.heap.get? T=some oT→(us++ds).length=ps.length→BindsTo s (PySem.W.fnOf x qual (defArgs st) (defBody st) (defScope st) (.ref T) kV doc pm an cdv ct) ⟨us,[]⟩ (ps.zip (us++ds))):Binds K fd ps ds:=by
  obtain ⟨oc,od,kV,doc,pm,an,cdv,ct,osl,rfl,lk,hcd⟩:=F.ex
  exact fun s us X hl=>h kV doc pm an cdv ct s us (X _ _ hT) hl
end
abbrev sSE:Stmt:=inClass (top 1) 0
abbrev sBD:Stmt:=inClass (top 2) 0
section
variable {P:Program} {w:World} {K:PySem.W.Frag} {mg:Str→Option Value} {base:Heap}
theorem FunD.ok1 {CX:CXT} {x qual:Str} {st:Stmt} {dV:Value} {f:Addr} {fd:FuncData} {N ps:List Str} {k:Nat} {sp:Sp} (F:FunD K x qual st dV f fd) (S:FnScope N ps (defScope st)) (len:∀ vs H Q E,sp vs H Q E→vs.length=ps.length)
    (hbody:∀ (cdv:Value) (A:Around) (outer:List Env) (s:Shared) (H:Hp) (vs:List V) (Q:VK) (E:XK),Room k (A.deeper (PyProof.Rows.envOfC qual (defScope st) s.heap.objs.size f cdv))→sp vs H Q E→
      ∃ t,PSs (cxOf CX P w K mg base N qual (defScope st) f cdv A outer s H E) (defBody st) t∧t { nx:=fun _ H'=>Q .non H',rt:=Q } (L2.start N vs) H):FnOk P w K mg base CX (k+1) f fd ps sp:=by
  obtain ⟨oc,od,kV,doc,pm,an,cdv,ct,osl,rfl,lk,hcd⟩:=F.ex
  exact fn_of lk hcd S len fun A outer s H vs Q E hr hsp=>hbody cdv A outer s H vs Q E hr hsp
structure ECls (K:Frag) (C:Addr):Prop where
  x:XCls K C "ValueError" "ValueError.__new__"
  w:takerIn K C "word" = some none
def spSE (K:Frag):Sp:=fun vs H Q _=>∃ (e C:Addr) (a:V) (b:V),vs=[.ref e,a,b]∧ECls K C∧H e=some (excO e C none)∧∀ da,H da=none→Q .non (upd (upd H e (excO e C (some da))) da (exD da [("word",b)]))
theorem scSE:FnScope ["self","words","word"] ["self","words","word"] (defScope sSE):=⟨rfl,rfl,rfl,by decide +kernel,rfl,by decide +kernel,by decide +kernel⟩
structure TxtE (K:Frag) (mg:Str→Option Value):Prop where
  ve:mg "ValueError" = none
  fc:findCls K (.type "ValueError") (.type "type") "__init__" = some (.val (.builtin "ValueError.__init__"))
theorem ok_se {CX:CXT} {f:Addr} {fd:FuncData} {dV:Value} (F:FunD K "__init__" "ScribeError.__init__" sSE dV f fd) (T:TxtE K mg):FnOk P w K mg base CX 1 f fd ["self","words","word"] (spSE K):=by
  refine F.ok1 scSE (fun vs H Q E h=>?_) (fun cdv A outer s H vs Q E hr h=>?_)
  · obtain ⟨e,C,a,b,rfl,_⟩:=h
    rfl
  · obtain ⟨e,C,a,b,rfl,EC,he,k⟩:=h
    refine ⟨_,(pss_cons (ps_expr (pe_typeMeth (by rfl) T.ve (by rfl) (by kernel_rfl) (by decide +kernel) T.fc (call_initX PySem.F.excBase_ValueError) (pa_cons (pv 0) (pa_cons (pv 1) pa_nil))))
      (pss_one (ps_fldX (B:="ValueError") (newId:="ValueError.__new__") (pv 0) (pv 2) rfl))),?_⟩
    exact ⟨_,rfl,_,rfl,e,C,_,_,rfl,he,EC.x,_,rfl,_,rfl,e,C,rfl,EC.x,EC.w,.inl ⟨he,k⟩⟩
structure MkOf (K:Frag) (mg:Str→Option Value) (cn:Str) (C f:Addr):Prop where
  mg:mg cn=some (.ref C)
  sg:specialIn K (.ref C) "__getattribute__" = some (some (.builtin "type.__getattribute__"))
  rd:∃ mc,readsIn K C mc=true∧findCls K (.ref C) mc "__init__" = some (.val (.ref f))
  kp:keepIn K (.ref f)=true
structure ECls2 (K:Frag) (C:Addr):Prop where
  e:ECls K C
  a:takerIn K C "row" = some none
def bdF (n:Int):List (Str×V):=putF "row" (.int n) [("word",.str "baddump")]
def spBD (K:Frag):Sp:=fun vs H Q _=>∃ (e C:Addr) (n:Int),vs=[.ref e,.int n]∧ECls2 K C∧H e=some (excO e C none)∧n.natAbs.log2<1920∧(Str.ofString (toString n)).length≤1000∧
  ∀ da,H da=none→Q .non (upd (upd (upd H e (excO e C (some da))) da (exD da [("word",.str "baddump")])) da (exD da (bdF n)))
theorem scBD:FnScope ["self","row"] ["self","row"] (defScope sBD):=⟨rfl,rfl,rfl,by decide +kernel,rfl,by decide +kernel,by decide +kernel⟩
theorem ok_bd {CX:CXT} {f cS fS:Addr} {fd fdS:FuncData} {dV:Value} (F:Fun K "__init__" "BadDump.__init__" sBD f fd) (T:TxtE K mg) (FS:FunD K "__init__" "ScribeError.__init__" sSE dV fS fdS) (bS:Binds K fdS ["self","words","word"] []) (MS:MkOf K mg "ScribeError" cS fS):FnOk P w K mg base CX 2 f fd ["self","row"] (spBD K):=by
  have GS:FnOk P w K mg base CX0 1 fS fdS ["self","words","word"] (spSE K):=ok_se FS T
  obtain ⟨mc,m1,m2⟩:=MS.rd
  refine F.ok1 scBD (fun vs H Q E h=>?_) (fun cdv A outer s H vs Q E hr h=>?_)
  · obtain ⟨e,C,n,rfl,_⟩:=h
    rfl
  · obtain ⟨e,C,n,rfl,EC,he,hn,hl,k⟩:=h
    refine ⟨_,(pss_cons (ps_expr (pe_clsMeth (E:=E0) (by rfl) MS.mg MS.sg m1 m2 MS.kp GS hr bS .nil pass0 (pa_cons (pv 0) (pa_cons (pe_fstr (pf_txt (pf_val (pv 1) pf_nil))) (pa_cons pe_str pa_nil)))))
      (pss_one (ps_fldX (B:="ValueError") (newId:="ValueError.__new__") (pv 0) (pv 1) rfl))),?_⟩
    have big:3000≤sizeLine:=by decide
    have e1:(("the dump is wrong at row " : Str)).length=25:=by decide +kernel
    refine ⟨_,rfl,?_,_,rfl,_,.inr ⟨n,rfl,hn,rfl⟩,?_,?_,e,C,_,_,rfl,EC.e,he,fun da hda=>⟨_,rfl,_,rfl,e,C,rfl,EC.e.x,EC.a,.inr ⟨da,_,?_,?_,?_,k da hda⟩⟩⟩
    all_goals (try rw [Str.empty_append])
    all_goals (try (first|omega|(simp only [Str.length_append,e1];omega)))
    · rw [upd_ne (ne_of_none he hda),upd_same]
    · rw [upd_same]
    · decide
end
section
variable {P:Program} {w:World} {K:PySem.W.Frag} {mg:Str→Option Value} {base:Heap}
def Thrown (H:Hp) (fs:List (Str×V)) (da:Addr) (H':Hp):Prop:=H da=none∧H'=upd H da (exD da fs)
theorem thrown_of {H:Hp} {e da C:Addr} {fs:List (Str×V)} (h1:H e=none) (h2:upd H e (excO e C none) da=none):Thrown H fs da (unt (upd (upd (upd H e (excO e C none)) e (excO e C (some da))) da (exD da fs)) e):=by
  have ne:da≠e:=fun q=>by subst q;rw [upd_same] at h2;cases h2
  rw [upd_ne ne] at h2
  refine ⟨h2,funext fun b=>?_⟩
  by_cases q:b=e
  · subst q
    rw [unt_same,upd_ne (Ne.symm ne),h1]
  · rw [unt_ne q]
    by_cases r:b=da
    · subst r;rw [upd_same,upd_same]
    · rw [upd_ne r,upd_ne q,upd_ne q,upd_ne r]
theorem none_back {H H1:Hp} {e:Addr} (h:Same H H1) (n:H1 e=none):H e=none:=by
  cases z:H e with
  |none=>rfl
  |some o=>have:=h _ _ z;rw [n] at this;cases this
structure DCls (K:Frag) (mg:Str→Option Value) (C f:Addr) (fd:FuncData):Prop where
  b:Binds K fd ["self","row"] []
  mg:mg "BadDump" = some (.ref C)
  e:ECls2 K C
  i:findIn K (.ref C) "__init__" = some (some (.ref f))
  n:isFn K (.ref f)=true
abbrev NRd:List Str:=["text","told","wrong"]
theorem scRd:FnScope NRd ["text"] (defScope (top 16)):=⟨rfl,rfl,rfl,by decide +kernel,rfl,by decide +kernel,by decide +kernel⟩
theorem scMe:FnScope NRd ["text"] (defScope (top 17)):=⟨rfl,rfl,rfl,by decide +kernel,rfl,by decide +kernel,by decide +kernel⟩
theorem wrong_le {ws:List Str} {n:Nat} (h:wrongW ws=some n):n≤ws.length:=by
  have key:∀ (rows:List Str) (pl:Int) (tm:Option Int),(readR pl tm rows).length≤rows.length:=by
    intro rows
    induction rows with
    |nil=>intro pl tm;exact Nat.le_refl _
    | cons x r ih=>
      intro pl tm
      cases ho:thO (Txt.split x " ") with
      |none=>rw [read_stop ho];exact Nat.zero_le _
      | some th=>
        cases hg:goesB th pl tm with
        |false=>rw [read_bad ho hg];exact Nat.zero_le _
        |true=>rw [read_more ho hg];exact Nat.succ_le_succ (ih _ _)
  unfold wrongW at h
  split at h
  · cases h
  · injection h with h
    subst h
    refine Nat.le_trans (key _ _ _) ?_
    rw [List.length_dropLast]
    omega
def spRdA (K:Frag) (cD:Addr):Sp:=fun vs H Q E=>∃ x:Str,vs=[.str x]∧Asc x∧x.length≤50000∧
  (wrongW (Txt.split x "\n")=none→∀ (l:Addr) (xs:List V) (H':Hp),Same H H'→H l=none→H' l=some (.lst xs)→ThsAt K H' xs (toldW (Txt.split x "\n"))→Q (.ref l) H')∧
  ∀ n:Nat,wrongW (Txt.split x "\n")=some n→∀ H1 da H',Same H H1→Thrown H1 (bdF n) da H'→E (.ref cD) (some da) H'
theorem ok_rdA {f fR cD fD:Addr} {fd fdR fdD:FuncData} (F:Fun K "read_dump" "read_dump" (top 16) f fd) (DR:Def K mg "read_rows" (top 15) ["text"] fR fdR) (GR:FnOk P w K mg base CX0 4 fR fdR ["text"] (spRsA K)) (WD:DCls K mg cD fD fdD) (GD:FnOk P w K mg base CX0 2 fD fdD ["self","row"] (spBD K)):FnOk P w K mg base (CX1 P w) 5 f fd ["text"] (spRdA K cD):=by
  refine F.ok1 scRd (fun vs H Q E h=>?_) (fun cdv A outer s H vs Q E hr h=>?_)
  · obtain ⟨x,rfl,_⟩:=h
    rfl
  · obtain ⟨x,rfl,as,xl,k,kx⟩:=h
    have hr3:Room 3 _:=hr.mono (by decide)
    refine ⟨_,(pss_cons
  (ps_asg (pe_call (E:=E0) GR hr rfl DR.mg DR.F.kp DR.b .nil pass0 (pa_cons (pv 0) pa_nil)) (pg_tup rfl (pgs_cons (pg_name (i:=1) scRd.nd rfl (Or.inl rfl)) (pgs_cons (pg_name (i:=2) scRd.nd rfl (Or.inl rfl)) pgs_nil))))
  (pss_cons (ps_if (pt_cmpR op_notN (pv 2) pe_non (nomark _)) (pss_one (ps_raise (B:="ValueError") (newId:="ValueError.__new__") (W:=E)
          (pe_makeX (E:=E0) PySem.F.excBase_ValueError WD.e.e.x WD.i WD.n GD hr3 (by rfl) WD.mg WD.b .nil pass0 (pa_cons (pv 2) pa_nil)) rfl rfl (fun pins σ H' s' e cls dd I x q=>xe1 I x q))) pss_nil)
  (pss_one (ps_ret (pv 1))))),?_⟩
    have wl:=(words_c 10 as xl).ln
    rw [← c_line] at wl
    refine ⟨_,rfl,x,rfl,as,xl,fun q l xs H1 s1 hq hl hq1 hl1 ta=>?_⟩
    refine ⟨q,_,rfl,SqT.of hq1,rfl,_,_,rfl,_,_,rfl,rfl,?_⟩
    cases hw:wrongW (Txt.split x "\n") with
    |none=>exact ⟨_,rfl,rfl,_,rfl,ifF rfl ⟨_,rfl,k hw l xs H1 s1 hl hl1 ta⟩⟩
    | some n=>
      have nl:=wrong_le hw
      have ok:nOk (n:Int):=⟨by simp only [N30];omega,by simp only [N30];omega⟩
      have tx:=ok.len
      refine ⟨_,rfl,rfl,_,rfl,ifT rfl ?_⟩
      refine ⟨_,rfl,fun e he=>?_⟩
      refine ⟨e,cD,n,rfl,WD.e,upd_same,tx.1,Nat.le_trans tx.2 (by decide),fun da hda=>⟨rfl,e,cD,some da,rfl,?_,none_back s1 he,WD.e.e.x,?_⟩⟩
      · have ne:e≠da:=fun q=>by subst q;rw [upd_same] at hda;cases hda
        rw [upd_twice,upd_ne ne,upd_same]
      · rw [upd_twice]
        exact kx n hw H1 da _ s1 (thrown_of he hda)
def spMeA (K:Frag):Sp:=fun vs H Q _=>∃ x:Str,vs=[.str x]∧Asc x∧x.length≤50000∧∀ (l:Addr) (xs:List V) (H':Hp),Same H H'→H l=none→H' l=some (.lst xs)→ThsAt K H' xs (toldW (Txt.split x "\n"))→Q (.ref l) H'
theorem ok_meA {f fR:Addr} {fd fdR:FuncData} (F:Fun K "mended" "mended" (top 17) f fd) (DR:Def K mg "read_rows" (top 15) ["text"] fR fdR) (GR:FnOk P w K mg base CX0 4 fR fdR ["text"] (spRsA K)):FnOk P w K mg base CX0 5 f fd ["text"] (spMeA K):=by
  refine F.ok scMe (fun vs H Q E h=>?_) (fun cdv A outer s H vs Q E hr h=>?_)
  · obtain ⟨x,rfl,_⟩:=h
    rfl
  · obtain ⟨x,rfl,as,xl,k⟩:=h
    refine ⟨_,(pss_cons
  (ps_asg (pe_call GR hr rfl DR.mg DR.F.kp DR.b .nil pass0 (pa_cons (pv 0) pa_nil)) (pg_tup rfl (pgs_cons (pg_name (i:=1) scMe.nd rfl (Or.inl rfl)) (pgs_cons (pg_name (i:=2) scMe.nd rfl (Or.inl rfl)) pgs_nil))))
  (pss_one (ps_ret (pv 1)))),?_⟩
    refine ⟨_,rfl,x,rfl,as,xl,fun q l xs H' s1 hq hl hq1 hl1 ta=>?_⟩
    refine ⟨q,_,rfl,SqT.of hq1,rfl,_,_,rfl,_,_,rfl,rfl,?_⟩
    exact ⟨_,rfl,k l xs H' s1 hl hl1 ta⟩
end
end Cm
namespace Cm
open PySem L2 PySem.W
theorem occ:∀ c<128,(!(Builtin.Str.occurrences ("abcdefghijklmnopqrstuvwxyz" : Str) ⟨#[c]⟩ 0 ("abcdefghijklmnopqrstuvwxyz" : Str).length 1).isEmpty)=decide (97≤c∧c≤122):=by decide +kernel
section
variable {P:Program} {w:World} {K:PySem.W.Frag} {mg:Str→Option Value} {base:Heap}
def spIsNm:Sp:=fun vs H Q _=>∃ x:Str,vs=[.str x]∧x.length≤50000∧Asc x∧∀ H',Same H H'→Q (.bl (nameB x)) H'
theorem scLN:FnScope ["_law_text"] ["_law_text"] (defScope (top 26)):=⟨rfl,rfl,rfl,by decide +kernel,rfl,by decide +kernel,by decide +kernel⟩
theorem nameB_letters (x:Str):nameB x=(decide (1≤x.length) && (decide (x.length≤8) && x.cps.toList.all fun c=>decide (97≤c∧c≤122))):=by
  have h:nameB x=true↔(decide (1≤x.length) && (decide (x.length≤8) && x.cps.toList.all fun c=>decide (97≤c∧c≤122)))=true:=by
    rw [nameB_iff]
    simp only [Bool.and_eq_true,decide_eq_true_eq,List.all_eq_true]
    exact ⟨fun h=>⟨h.lo,h.hi,fun c hc=>h.lc c hc⟩,fun h=>⟨h.1,h.2.1,fun c hc=>h.2.2 c hc⟩⟩
  cases e1:nameB x with
  |true=>exact (h.mp e1).symm
  | false=>
    cases e2:(decide (1≤x.length) && (decide (x.length≤8) && x.cps.toList.all fun c=>decide (97≤c∧c≤122))) with
    |false=>rfl
    |true=>rw [h.mpr e2] at e1;cases e1
theorem ok_isnm {f:Addr} {fd:FuncData} (F:Fun K "_law_is_name" "_law_is_name" (top 26) f fd) (T:Txt K mg):FnOk P w K mg base CX0 1 f fd ["_law_text"] spIsNm:=by
  refine F.ok scLN (fun vs H Q E h=>?_) (fun cdv A outer s H vs Q E hr h=>?_)
  · obtain ⟨x,rfl,_⟩:=h
    rfl
  · obtain ⟨x,rfl,hl,ha,k⟩:=h
    have big:50000≤sizeLine:=by decide
    refine ⟨_,(pss_one
  (ps_ret (pe_and (pe_chain op_le op_le pe_int (pe_callB call_len_str (by rfl) T.len bt_len (pa_cons (pv 0) pa_nil)) pe_int) (pe_one (pe_callB (call_allB rfl) (by rfl) T.all bt_all (pa_cons (pe_comp (own:=["_law_sign"]) (js:=[]) (N':=["_law_sign"]) (CompScope.of (osc:=defScope (top 26)) (N:=["_law_text"]) rfl rfl ⟨rfl,by decide +kernel,by decide +kernel,by decide +kernel,rfl,by decide +kernel⟩) rfl (pi_str (pv 0)) (fun _ _ _ _ _=>(pg_name (i:=0) (show List.Nodup (["_law_sign"]:List Str) by decide +kernel) rfl (Or.inl rfl) (Or.inr rfl))) (fun _ _ _ _ _=>pifs_nil) (fun _ _ _ _ _=>(pe_cmpR op_in_str (pv 0) pe_str rfl))) pa_nil)))))),?_⟩
    rw [nameB_letters] at k
    refine ⟨_,rfl,x,rfl,by omega,_,_,rfl,rfl,_,rfl,?_⟩
    by_cases h1:1≤x.length
    · rw [decide_eq_true h1,Bool.true_and] at k
      refine ifT (by simp;omega) ⟨_,_,rfl,rfl,_,rfl,?_⟩
      by_cases h8:x.length≤8
      · rw [decide_eq_true h8,Bool.true_and] at k
        refine ifT (by simp;omega) ⟨_,rfl,x,rfl,ha,?_⟩
        have hz:x.cps.size=x.length:=rfl
        refine comp_str (x:=x) (fun i ys σ' H'=>∃ v,σ'=[v]∧H'=H∧ys=((x.cps.toList.take i).map fun c=>V.bl (decide (97≤c∧c≤122)))) (by omega) ⟨none,rfl,rfl,by simp⟩ ?_ ?_
        · rintro i c ys σ' H' hc hy ⟨v,rfl,rfl,rfl⟩ N hN
          have hc':x.cps.toList[i]?=some c:=by rw [Array.getElem?_toList];exact hc
          have c1:c<128:=by
            have h':=ha
            unfold Asc at h'
            rw [← Array.all_toList,List.all_eq_true] at h'
            simpa using h' c (List.mem_of_getElem? hc')
          refine ⟨_,rfl,_,_,rfl,rfl,?_⟩
          rw [occ c c1]
          refine hN _ _ _ (by simpa using hy) ⟨_,rfl,rfl,?_⟩
          rw [List.take_add_one,hc']
          simp
        · rintro ys σ' H' hy ⟨v,rfl,rfl,rfl⟩
          rw [List.take_of_length_le (by simp)]
          refine ⟨by rw [List.length_map];have:x.cps.toList.length=x.length:=rfl;omega,fun q hq=>?_⟩
          refine ⟨q,x.cps.toList.map fun c=>decide (97≤c∧c≤122),rfl,?_,?_⟩
          · have:=SqL.of (K:=K) (H:=upd H' q (.lst (x.cps.toList.map fun c=>V.bl (decide (97≤c∧c≤122))))) (a:=q) (xs:=x.cps.toList.map fun c=>V.bl (decide (97≤c∧c≤122))) upd_same
            rw [List.map_map]
            exact this
          · dsimp only
            rw [List.all_map]
            exact k _ (Same.new hq)
      · rw [decide_eq_false h8,Bool.false_and] at k
        exact ifF (by simp;omega) (k H fun _ _ z=>z)
    · rw [decide_eq_false h1,Bool.false_and] at k
      exact ifF (by simp;omega) ⟨_,rfl,ifF rfl (k H fun _ _ z=>z)⟩
end
end Cm
namespace Cm
open PySem L2 PySem.W
section
variable {P:Program} {w:World} {K:PySem.W.Frag} {mg:Str→Option Value} {base:Heap}
def spTi (K:Frag):Sp:=fun vs H Q _=>∃ x:Str,vs=[.str x]∧Asc x∧x.length≤50000∧∀ y H',Same H H'→OAt K H' y (thO (Txt.split x " "))→Q y H'
abbrev NTi:List Str:=["_law_line","_law_words","_law_number","_law_numbers"]
theorem scTi:FnScope NTi ["_law_line"] (defScope (top 31)):=⟨rfl,rfl,rfl,by decide +kernel,rfl,by decide +kernel,by decide +kernel⟩
theorem ok_ti {f fN fI:Addr} {fd fdN fdI:FuncData} (F:Fun K "_law_thing_in" "_law_thing_in" (top 31) f fd) (T:Txt K mg) (DI:Def K mg "_law_is_name" (top 26) ["_law_text"] fI fdI) (DN:Def K mg "_law_number_in" (top 27) ["_law_text","_law_most"] fN fdN):FnOk P w K mg base CX0 2 f fd ["_law_line"] (spTi K):=by
  have GI:FnOk P w K mg base CX0 1 fI fdI ["_law_text"] spIsNm:=ok_isnm DI.F T
  have GN:FnOk P w K mg base CX0 1 fN fdN ["_law_text","_law_most"] spNi:=ok_ni DN.F T
  refine F.ok scTi (fun vs H Q E h=>?_) (fun cdv A outer s H vs Q E hr h=>?_)
  · obtain ⟨x,rfl,_⟩:=h
    rfl
  · obtain ⟨x,rfl,as,xl,k⟩:=h
    have hu:=hr.units
    refine ⟨_,(pss_cons
  (ps_set (i:=1) scTi.nd rfl (Or.inl rfl) (pe_bm PySem.F.plainAttrs_str PySem.F.slot_str_split PySem.F.type_str_split mt_split (pv 0) (pa_cons pe_str pa_nil)))
  (pss_cons
  (ps_if (pt_cmpR op_eq (pe_ix ix_list (pv 1) pe_int (fun _ _=>rfl)) pe_str (nomark _)) (pss_cons
    (ps_set (i:=2) scTi.nd rfl (Or.inl rfl) (pe_ifExp (pt_cmpR op_eq (pe_callB call_len_seq (by rfl) T.len bt_len (pa_cons (pv 1) pa_nil)) pe_int (nomark _)) (pe_call GN hr rfl DN.mg DN.F.kp DN.b .nil pass0 (pa_cons (pe_ix ix_list (pv 1) pe_int (fun _ _=>rfl)) (pa_cons pe_int pa_nil))) pe_non))
    (pss_one
    (ps_ret (pe_ifExp (PW.pt (pw_and (pt_cmpR op_notN (pv 2) pe_non (nomark _)) (pw_and1 (pt_cmpR op_gt (pv 2) pe_int (nomark _))))) (pe_tup (pa_cons pe_str (pa_cons (pv 2) pa_nil))) pe_non)))) pss_nil)
  (pss_cons
  (ps_if (PW.pt (pw_or (pt_cmpR op_ne (pe_ix ix_list (pv 1) pe_int (fun _ _=>rfl)) pe_str (nomark _)) (pw_or (pt_cmpR op_lt (pe_callB call_len_seq (by rfl) T.len bt_len (pa_cons (pv 1) pa_nil)) pe_int (nomark _)) (pw_or1 (pt_not (pt_val (pe_call GI hr rfl DI.mg DI.F.kp DI.b .nil pass0 (pa_cons (pe_ix ix_list (pv 1) pe_int (fun _ _=>rfl)) pa_nil)))))))) (pss_one
  (ps_ret pe_non)) pss_nil)
  (pss_cons
  (ps_setComp (g:=gName 0) (te:=tCall spNi [] E0 (tCons (tVar 0) (tCons (tC (.int 30)) tNil))) (i:=3) (own:=["_law_word_here"]) (js:=[]) (N':=["_law_word_here"]) (CompScope.of (osc:=defScope (top 31)) (N:=NTi) rfl rfl ⟨rfl,by decide +kernel,by decide +kernel,by decide +kernel,rfl,by decide +kernel⟩) rfl scTi.nd rfl rfl (pi_list (pe_op op_cat (pe_slice sl_list (pv 1) (po_some pe_int) (po_some pe_int)) (pe_slice sl_list (pv 1) (po_some pe_int) po_none))) (fun _ _ _ _ _=>(pg_name (i:=0) (show List.Nodup (["_law_word_here"]:List Str) by decide +kernel) rfl (Or.inl rfl) (Or.inr rfl))) (fun _ _ _ _ _=>pifs_nil) (fun _ _ _ _ _=>(pe_call GN hr rfl DN.mg DN.F.kp DN.b .nil pass0 (pa_cons (pv 0) (pa_cons pe_int pa_nil)))))
  (pss_cons
  (ps_if (pt_cmpR (op_inN hu) pe_non (pv 3) (by rfl)) (pss_one
  (ps_ret pe_non)) pss_nil)
  (pss_one
  (ps_ret (pe_tup (pa_cons pe_str (pa_cons (pe_ix ix_list (pv 3) pe_int (fun _ _=>rfl)) (pa_cons (pe_ix ix_list (pv 3) pe_int (fun _ _=>rfl)) (pa_cons (pe_ix ix_list (pv 1) pe_int (fun _ _=>rfl)) (pa_cons (pe_callTy call_tuple_of (by rfl) T.tuple bt_tuple (pa_cons (pe_slice sl_list (pv 3) (po_some pe_int) po_none) pa_nil)) pa_nil))))))))))))),?_⟩
    have big:200000≤sizeLine:=by decide
    refine ⟨_,rfl,rfl,x," ",rfl,rfl,by decide +kernel,by omega,fun q hq=>?_⟩
    have W:=words_of as xl
    have ne:=split_ne x 32
    rw [← c_space] at ne
    generalize Txt.split x " " = ws at W ne k ⊢
    obtain ⟨w0,r,rfl⟩:∃ w0 r,ws=w0::r:=by cases ws with|nil=>exact absurd rfl ne|cons a b=>exact ⟨a,b,rfl⟩
    have s0:Same H (upd H q (.lst ((w0::r).map V.str))):=Same.new hq
    have h0:(upd H q (.lst ((w0::r).map V.str))) q=some (.lst ((w0::r).map V.str)):=upd_same
    generalize upd H q (.lst ((w0::r).map V.str))=H0 at s0 h0 ⊢
    have sq:SqL K H0 q ((w0::r).map V.str):=SqL.of h0
    have k:∀ y H',Same H H'→OAt K H' y (if w0 = "lost" then lostO r else if w0 = "event" then evO r else none)→Q y H':=k
    have wl:=W.ln
    refine ⟨_,rfl,q,_,_,_,rfl,rfl,sq,atI_nat (j:=0) rfl,rfl,_,rfl,?_⟩
    by_cases hl:w0 = "lost"
    · rw [if_pos hl] at k
      refine ifT (by simp [hl]) ?_
      refine ⟨_,rfl,q,_,rfl,.inl sq,rfl,_,rfl,?_⟩
      by_cases h2:r.length=1
      · obtain ⟨z,rfl⟩:∃ z,r=[z]:=List.length_eq_one_iff.mp h2
        refine ifT (by simp) ?_
        refine ⟨_,rfl,q,_,_,_,rfl,rfl,sq,atI_nat (j:=1) rfl,z,rfl,W.as z (by simp),W.le z (by simp),fun H1 s1=>?_⟩
        have k:∀ y H',Same H H'→OAt K H' y (match numO z with|some n=>if 1≤n then some (.lost n) else none|none=>none)→Q y H':=k
        cases hz:numO z with
        | none=>
          rw [hz] at k
          exact ⟨_,rfl,rfl,_,rfl,ifF rfl (k .non H1 (s0.trans s1) rfl)⟩
        | some n=>
          rw [hz] at k
          refine ⟨_,rfl,rfl,_,rfl,ifT rfl ⟨_,rfl,_,_,rfl,rfl,_,rfl,?_⟩⟩
          by_cases h1:1≤n
          · refine ifT (by simp;omega) ⟨_,rfl,(show 2≤sizeLine by decide),fun p hp=>k _ _ (s0.trans (s1.trans (Same.new hp))) ?_⟩
            show OAt K _ _ (if 1≤n then some (Th.lost n) else none)
            rw [if_pos h1]
            exact .lost (SqT.of upd_same)
          · refine ifF (by simp;omega) (k .non H1 (s0.trans s1) ?_)
            show OAt K _ _ (if 1≤n then some (Th.lost n) else none)
            rw [if_neg h1]
            rfl
      · refine ifF (by simp;omega) ?_
        refine ⟨_,rfl,rfl,_,rfl,ifF rfl (k .non H0 s0 ?_)⟩
        have:lostO r=none:=by
          match r,h2 with
          |[],_=>rfl
          |[x],h2=>exact absurd rfl h2
          |_::_::_,_=>rfl
        rw [this]
        rfl
    rw [if_neg hl] at k
    refine ifF (by simp [hl]) ?_
    try dsimp only [tNext]
    refine ⟨_,rfl,q,_,_,_,rfl,rfl,sq,atI_nat (j:=0) rfl,rfl,_,rfl,?_⟩
    by_cases he:w0 = "event"
    rotate_left
    · rw [if_neg he] at k
      exact ifT (by simp [he]) (k .non H0 s0 rfl)
    rw [if_pos he] at k
    refine ifF (by simp [he]) ?_
    refine ⟨_,rfl,q,_,rfl,.inl sq,_,_,rfl,rfl,_,rfl,?_⟩
    by_cases h3:r.length<3
    · refine ifT (by simp;omega) (k .non H0 s0 ?_)
      rw [evO_short h3]
      rfl
    obtain ⟨a,b,kk,us,rfl⟩:∃ a b kk us,r=a::b::kk::us:=by
      match r,h3 with
      |a::b::kk::us,_=>exact ⟨a,b,kk,us,rfl⟩
      |[],h=>simp at h
      |[_],h=>simp at h
      |[_,_],h=>simp at h
    refine ifF (by simp;omega) ?_
    have kl:=W.le kk (by simp)
    have k:∀ y H',Same H H'→OAt K H' y (if nameB kk=true∧((a::b::us).all fun x=>(numO x).isSome)=true then some (.ev (numD a) (numD b) kk (us.map numD)) else none)→Q y H':=k
    refine ⟨_,rfl,q,_,_,_,rfl,rfl,sq,atI_nat (j:=3) rfl,kk,rfl,kl,W.as kk (by simp),fun Hn sn=>⟨_,rfl,?_⟩⟩
    have S0:=s0.trans sn
    have sq:=Same.seq sn sq
    cases hk:nameB kk with
    | false=>
      refine ifT rfl (k .non Hn S0 ?_)
      rw [if_neg (by simp [hk])]
      rfl
    |true=>
    refine ifF rfl ?_
    try dsimp only [tNext]
    have us5:us.length≤50001:=by simp at wl;omega
    refine ⟨_,rfl,_,rfl,_,rfl,q,_,rfl,sq,fun p1 hp1=>?_⟩
    have e1:cutV ((w0::a::b::kk::us).map V.str) (some 1) (some 3)=[.str a,.str b]:=cut_mid _ 1 3 (by simp) (by decide)
    have e2:cutV ((w0::a::b::kk::us).map V.str) (some 4) none=us.map V.str:=cut_drop _ 4 (by simp)
    rw [e1]
    have s1:Same Hn (upd Hn p1 (.lst [.str a,.str b])):=Same.new hp1
    have h1:(upd Hn p1 (.lst [.str a,.str b])) p1=some (.lst [.str a,.str b]):=upd_same
    generalize upd Hn p1 (.lst [.str a,.str b])=H1 at s1 h1 ⊢
    refine ⟨_,rfl,_,rfl,q,_,rfl,Same.seq s1 sq,fun p2 hp2=>?_⟩
    rw [e2]
    have s2:Same H1 (upd H1 p2 (.lst (us.map V.str))):=Same.new hp2
    have h2:(upd H1 p2 (.lst (us.map V.str))) p2=some (.lst (us.map V.str)):=upd_same
    generalize upd H1 p2 (.lst (us.map V.str))=H2 at s2 h2 ⊢
    refine ⟨p1,p2,_,_,rfl,rfl,s2 _ _ h1,h2,by simp;omega,fun p3 hp3=>?_⟩
    have s3:Same H2 (upd H2 p3 (.lst ([.str a,.str b]++us.map V.str))):=Same.new hp3
    have h3':(upd H2 p3 (.lst ([.str a,.str b]++us.map V.str))) p3=some (.lst ((a::b::us).map V.str)):=upd_same
    generalize upd H2 p3 (.lst ([.str a,.str b]++us.map V.str))=H3 at s3 h3' ⊢
    have S3:=s1.trans (s2.trans s3)
    have WA:∀ x∈a::b::us,Asc x∧x.length≤50000:=fun x m=>by
      have:x∈w0::a::b::kk::us:=by
        rcases List.mem_cons.mp m with rfl|m
        · simp
        · rcases List.mem_cons.mp m with rfl|m
          · simp
          · simp [m]
      exact ⟨W.as x this,W.le x this⟩
    refine ⟨p3,rfl,⟨_,SqL.of h3'⟩,?_⟩
    refine comp_list (K:=K) (a:=p3) (xs:=(a::b::us).map V.str) (fun i ys σ' H'=>(∃ v,σ'=[v])∧Same H3 H'∧ys=((a::b::us).take i).map fun x=>oV (numO x)) (by simp;omega) ⟨⟨none,rfl⟩,Same.refl _,rfl⟩ (fun i ys σ' H' _ ⟨_,e,_⟩=>SqL.of (e _ _ h3')) ?_ ?_
    · rintro i x ys σ' H' hx hy ⟨⟨v,rfl⟩,s',rfl⟩ N hN
      rw [List.getElem?_map] at hx
      cases hj:(a::b::us)[i]? with
      |none=>rw [hj] at hx;cases hx
      | some j=>
        rw [hj] at hx
        have hx:V.str j=x:=by simpa using hx
        subst hx
        obtain ⟨j1,j2⟩:=WA j (List.mem_of_getElem? hj)
        refine ⟨_,rfl,j,rfl,j1,j2,fun H'' s''=>hN _ _ _ (by simpa using hy) ⟨⟨_,rfl⟩,s'.trans s'',?_⟩⟩
        rw [List.take_add_one,hj,List.map_append]
        rfl
    rintro ys σ' H' hy ⟨⟨v,rfl⟩,s',rfl⟩
    have e9:(a::b::us).take ((a::b::us).map V.str).length=a::b::us:=List.take_of_length_le (by simp)
    rw [e9]
    refine ⟨by simp;omega,fun p4 hp4=>?_⟩
    have s4:Same H' (upd H' p4 (.lst ((a::b::us).map fun x=>oV (numO x)))):=Same.new hp4
    have h4:(upd H' p4 (.lst ((a::b::us).map fun x=>oV (numO x)))) p4=some (.lst ((a::b::us).map fun x=>oV (numO x))):=upd_same
    generalize upd H' p4 (.lst ((a::b::us).map fun x=>oV (numO x)))=H4 at s4 h4 ⊢
    have s4:Same H3 H4:=s'.trans s4
    refine ⟨_,rfl,p4,_,_,rfl,rfl,SqL.of h4,reps_o (a::b::us),by rw [dep_o];decide,_,rfl,?_⟩
    rw [any_none]
    cases hall:((a::b::us).all fun x=>(numO x).isSome) with
    | false=>
      refine ifT rfl (k .non H4 (S0.trans (S3.trans s4)) ?_)
      rw [if_neg (by rw [hall];simp)]
      rfl
    |true=>
    refine ifF rfl ?_
    have ev:=vals_some hall
    rw [ev] at h4
    have h4:H4 p4=some (.lst (.int (numD a)::.int (numD b)::(us.map numD).map V.int)):=h4
    try dsimp only [tNext]
    refine ⟨_,rfl,p4,_,_,_,rfl,rfl,SqL.of h4,atI_nat (j:=0) rfl,_,rfl,p4,_,_,_,rfl,rfl,SqL.of h4,atI_nat (j:=1) rfl,_,rfl,q,_,_,_,rfl,rfl,Same.seq (Same.trans S3 s4) sq,atI_nat (j:=3) rfl,?_⟩
    refine ⟨_,rfl,_,rfl,p4,_,rfl,SqL.of h4,fun p5 hp5=>?_⟩
    have e5:cutV (.int (numD a)::.int (numD b)::(us.map numD).map V.int) (some 2) none=(us.map numD).map V.int:=cut_drop _ 2 (by simp)
    rw [e5]
    have s5:Same H4 (upd H4 p5 (.lst ((us.map numD).map V.int))):=Same.new hp5
    refine ⟨p5,(us.map numD).map V.int,rfl,.inl ⟨SqL.of upd_same,fun t6 ht6=>?_⟩⟩
    have s6:=Same.new (o:=.tup ((us.map numD).map V.int)) ht6
    refine ⟨(show 5≤sizeLine by decide),fun q7 hq7=>?_⟩
    have s7:=Same.new (o:=.tup [V.str "event",V.int (numD a),V.int (numD b),V.str kk,V.ref t6]) hq7
    refine k _ _ (S0.trans (S3.trans (s4.trans (s5.trans (Same.trans s6 s7))))) ?_
    rw [if_pos ⟨hk,hall⟩]
    exact .ev (SqT.of upd_same) (SqT.of (s7 _ _ upd_same))
end
end Cm
namespace Cm
open PySem L2 PySem.W
section
variable {P:Program} {w:World} {K:PySem.W.Frag} {mg:Str→Option Value} {base:Heap}
abbrev NDr:List Str:=["_law_text","_law_rows","_law_found","_law_place","_law_time","_law_at","_law_thing"]
theorem scDr:FnScope NDr ["_law_text"] (defScope (top 32)):=⟨rfl,rfl,rfl,by decide +kernel,rfl,by decide +kernel,by decide +kernel⟩
theorem ok_dr {f fT:Addr} {fd fdT:FuncData} (F:Fun K "_law_dump_read" "_law_dump_read" (top 32) f fd) (T:Txt K mg) (DT:Def K mg "_law_thing_in" (top 31) ["_law_line"] fT fdT) (GT:FnOk P w K mg base CX0 2 fT fdT ["_law_line"] (spTi K)):FnOk P w K mg base CX0 3 f fd ["_law_text"] (spRsA K):=by
  refine F.ok scDr (fun vs H Q E h=>?_) (fun cdv A outer s H vs Q E hr h=>?_)
  · obtain ⟨x,rfl,_⟩:=h
    rfl
  · obtain ⟨x,rfl,as,xl,k⟩:=h
    refine ⟨_,(pss_cons
  (ps_set (i:=1) scDr.nd rfl (Or.inl rfl) (pe_bm PySem.F.plainAttrs_str PySem.F.slot_str_split PySem.F.type_str_split mt_split (pv 0) (pa_cons pe_str pa_nil)))
  (pss_cons
  (ps_par3 (i:=2) (j:=3) (l:=4) rfl scDr.nd rfl rfl rfl rfl rfl rfl (pa_cons (pe_lst pa_nil) (pa_cons pe_int (pa_cons pe_non pa_nil))) rfl)
  (pss_cons
  (ps_for PassesOwn.never rfl (pi_range1 rfl T.range (pa_cons (pe_callB call_len_seq (by rfl) T.len bt_len (pa_cons (pv 1) pa_nil)) pa_nil)) (pg_name (i:=5) scDr.nd rfl (Or.inl rfl)) (pss_cons
    (ps_set (i:=6) scDr.nd rfl (Or.inl rfl) (pe_call GT hr rfl DT.mg DT.F.kp DT.b .nil pass0 (pa_cons (pe_ix ix_list (pv 1) (pv 5) (fun _ _=>rfl)) pa_nil)))
    (pss_cons (ps_if (pt_cmpR op_eq (pv 5) (pe_op op_sub (pe_callB call_len_seq (by rfl) T.len bt_len (pa_cons (pv 1) pa_nil)) pe_int) (nomark _)) (pss_one (ps_ret (pe_tup (pa_cons (pv 2) (pa_cons (pe_ifExp (pt_cmpR op_eq (pe_ix ix_list (pv 1) (pv 5) (fun _ _=>rfl)) pe_str (nomark _)) pe_non (pv 5)) pa_nil))))) pss_nil)
    (pss_cons (ps_if (pt_cmpR op_isN (pv 6) pe_non (nomark _)) (pss_one (ps_ret (pe_tup (pa_cons (pv 2) (pa_cons (pv 5) pa_nil))))) pss_nil)
    (pss_cons (ps_if (PW.pt (pw_and (pt_cmpR op_eq (pe_ix ix_tup (pv 6) pe_int (fun _ _=>rfl)) pe_str (nomark _)) (pw_and1 (pt_cmpR op_ne (pe_ix ix_tup (pv 6) pe_int (fun _ _=>rfl)) (pv 3) (nomark _))))) (pss_one (ps_ret (pe_tup (pa_cons (pv 2) (pa_cons (pv 5) pa_nil))))) pss_nil)
    (pss_cons (ps_if (PW.pt (pw_and (pt_cmpR op_eq (pe_ix ix_tup (pv 6) pe_int (fun _ _=>rfl)) pe_str (nomark _)) (pw_and (pt_cmpR op_notN (pv 4) pe_non (nomark _)) (pw_and1 (pt_cmpR op_lt (pe_ix ix_tup (pv 6) pe_int (fun _ _=>rfl)) (pv 4) (nomark _)))))) (pss_one (ps_ret (pe_tup (pa_cons (pv 2) (pa_cons (pv 5) pa_nil))))) pss_nil)
    (pss_cons (ps_set (i:=3) scDr.nd rfl (Or.inl rfl) (pe_ifExp (pt_cmpR op_eq (pe_ix ix_tup (pv 6) pe_int (fun _ _=>rfl)) pe_str (nomark _)) (pe_op op_add (pv 3) (pe_ix ix_tup (pv 6) pe_int (fun _ _=>rfl))) (pe_op op_add (pv 3) pe_int)))
    (pss_cons (ps_set (i:=4) scDr.nd rfl (Or.inl rfl) (pe_ifExp (pt_cmpR op_eq (pe_ix ix_tup (pv 6) pe_int (fun _ _=>rfl)) pe_str (nomark _)) (pe_ix ix_tup (pv 6) pe_int (fun _ _=>rfl)) (pv 4)))
    (pss_one (ps_expr (pe_bm PySem.F.plainAttrs_list PySem.F.slot_list_append PySem.F.type_list_append mt_append (pv 2) (pa_cons (pv 6) pa_nil))))))))))))
  (pss_one ps_never)))),?_⟩
    have big:60000≤sizeLine:=by decide
    have W:=words_c 10 as xl
    have ne:=split_ne x 10
    rw [← c_line] at W ne
    refine ⟨_,rfl,rfl,x,"\n",rfl,rfl,by decide +kernel,by omega,fun q0 hq0=>?_⟩
    generalize Txt.split x "\n" = ws at W ne k ⊢
    obtain ⟨rows,rest,rfl⟩:∃ rows rest,ws=rows++[rest]:=⟨ws.dropLast,ws.getLast ne,(List.dropLast_concat_getLast ne).symm⟩
    have eT:toldW (rows++[rest])=readR 0 none rows:=by unfold toldW;rw [List.dropLast_concat]
    have eW:wrongW (rows++[rest])=if (readR 0 none rows).length=rows.length∧rest = "" then none else some (readR 0 none rows).length:=by
      unfold wrongW
      rw [eT,List.dropLast_concat,List.getLast?_concat]
      by_cases e:rest = ""
      · simp [e]
      · simp [e]
    rw [eT,eW] at k
    clear eT eW ne
    have wl:((rows++[rest]).map V.str).length=rows.length+1:=by simp
    have rl:rows.length≤50000:=by have:=W.ln;rw [List.length_append] at this;simp at this;omega
    have s1:Same H (upd H q0 (.lst ((rows++[rest]).map V.str))):=Same.new hq0
    have h1:(upd H q0 (.lst ((rows++[rest]).map V.str))) q0=some (.lst ((rows++[rest]).map V.str)):=upd_same
    generalize upd H q0 (.lst ((rows++[rest]).map V.str))=H1 at s1 h1 ⊢
    refine ⟨(show 0≤sizeLine by decide),fun lt hlt=>?_⟩
    have s2:Same H1 (upd H1 lt (.lst [])):=Same.new hlt
    have h2:(upd H1 lt (.lst [])) lt=some (.lst []):=upd_same
    generalize upd H1 lt (.lst [])=H2 at s2 h2 ⊢
    have hltn:H lt=none:=Same.free s1 hlt
    have S3:=s2
    have h3:=h2
    refine ⟨_,_,_,rfl,?_⟩
    try dsimp only [gName]
    refine ⟨_,rfl,q0,_,rfl,.inl (SqL.of (S3 _ _ h1)),?_⟩
    rw [wl]
    refine ⟨((rows.length+1:Nat):Int),rfl,by omega,by omega,for_range (n:=rows.length+1) (fun i σ' H'=>(∃ (pl:Int) (tm:Option Int) (ths:List Th) (u5 u6:Option V),σ'=[some (.str x),some (.ref q0),some (.ref lt),some (.int pl),some (tmV tm),u5,u6]∧ths.length=i∧i≤rows.length∧readR 0 none rows=ths++readR pl tm (rows.drop i)∧∃ xs,H' lt=some (.lst xs)∧ThsAt K H' xs ths)∧Same H1 H') ⟨⟨0,none,[],none,none,rfl,rfl,Nat.zero_le _,rfl,[],h3,.nil⟩,S3⟩ ?_ ?_⟩
    · rintro i σ' H4 hi ⟨⟨pl,tm,ths,u5,u6,rfl,tl,ir,rd,xs,hxs,ta⟩,s4⟩
      rw [Int.zero_add]
      have il:i<(rows++[rest]).length:=by simp;omega
      obtain ⟨row,hrow⟩:∃ row,(rows++[rest])[i]?=some row:=⟨_,List.getElem?_eq_getElem il⟩
      have mr:=List.mem_of_getElem? hrow
      have hv:((rows++[rest]).map V.str)[i]?=some (V.str row):=by rw [List.getElem?_map,hrow];rfl
      refine ⟨_,rfl,_,rfl,q0,_,_,_,rfl,rfl,SqL.of (s4 _ _ h1),atI_nat (j:=i) hv,row,rfl,W.as row mr,W.le row mr,fun y H5 s5 oy=>?_⟩
      have hxs5:=s5 _ _ hxs
      have ta5:=ta.same s5
      have xl5:=ta5.length
      have S5:Same H1 H5:=s4.trans s5
      refine ⟨_,rfl,_,rfl,q0,_,rfl,.inl (SqL.of (S5 _ _ h1)),_,_,rfl,rfl,rfl,_,rfl,?_⟩
      by_cases hlast:i=rows.length
      · refine ifT (decide_eq_true (by rw [wl];congr 1;omega)) ?_
        have e9:rows.drop i=[]:=List.drop_eq_nil_of_le (by omega)
        rw [e9,show readR pl tm []=[] from rfl,List.append_nil] at rd
        have er:row=rest:=by
          rw [hlast,List.getElem?_append_right (Nat.le_refl _),Nat.sub_self] at hrow
          simpa using hrow.symm
        subst er
        rw [rd] at k
        refine ⟨_,rfl,_,rfl,_,rfl,q0,_,_,_,rfl,rfl,SqL.of (S5 _ _ h1),atI_nat (j:=i) hv,rfl,_,rfl,?_⟩
        by_cases hrest:row = ""
        · rw [if_pos ⟨by omega,hrest⟩] at k
          refine ifT (by simp [hrest]) ⟨(show 2≤sizeLine by decide),fun q hq=>?_⟩
          have s6:=Same.new (o:=.tup [.ref lt,.non]) hq
          exact k q lt xs _ (s1.trans (Same.trans S5 s6)) (Same.free (Same.trans s1 S5) hq) hltn upd_same (s6 _ _ hxs5) (ta5.same s6)
        · rw [if_neg (fun h=>hrest h.2),tl] at k
          refine ifF (by simp [hrest]) ⟨_,rfl,(show 2≤sizeLine by decide),fun q hq=>?_⟩
          have s6:=Same.new (o:=.tup [.ref lt,.int (i:Nat)]) hq
          exact k q lt xs _ (s1.trans (Same.trans S5 s6)) (Same.free (Same.trans s1 S5) hq) hltn upd_same (s6 _ _ hxs5) (ta5.same s6)
      have il:i<rows.length:=by omega
      have hrow:rows[i]?=some row:=by rw [List.getElem?_append_left il] at hrow;exact hrow
      have dr:rows.drop i=row::rows.drop (i+1):=by rw [List.drop_eq_getElem_cons il];rw [List.getElem?_eq_getElem il] at hrow;injection hrow with hrow;rw [hrow]
      rw [dr] at rd
      refine ifF (decide_eq_false (by rw [wl];intro e;injection e with e;omega)) ?_
      try dsimp only [tNext]
      have out:readR pl tm (row::rows.drop (i+1))=[]→∀ (q:Addr),H5 q=none→Q (.ref q) (upd H5 q (.tup [.ref lt,.int (i:Nat)])):=fun e q hq=>by
        have s6:=Same.new (o:=.tup [.ref lt,.int (i:Nat)]) hq
        rw [rd,e,List.append_nil,tl,if_neg (fun h=>Nat.lt_irrefl _ (h.1 ▸ il))] at k
        exact k q lt xs _ (s1.trans (Same.trans S5 s6)) (Same.free (Same.trans s1 S5) hq) hltn upd_same (s6 _ _ hxs5) (ta5.same s6)
      cases ho:thO (Txt.split row " ") with
      | none=>
        rw [ho] at oy
        have oy:y=.non:=oy
        subst oy
        exact ⟨_,rfl,rfl,_,rfl,ifT rfl ⟨_,rfl,_,rfl,(show 2≤sizeLine by decide),fun q hq=>out (read_stop ho) q hq⟩⟩
      |some th=>
      rw [ho] at oy
      have ty:ThAt K H5 y th:=oy
      have ny:¬ y=.non:=by rintro rfl;cases ty
      refine ⟨_,rfl,rfl,_,rfl,ifF (by simp [ny]) ?_⟩
      try dsimp only [tNext]
      have ta6:ThsAt K (upd H5 lt (.lst (xs++[y]))) (xs++[y]) (ths++[th]):=ThsAt.snoc (ty.upd hxs5) (ta5.upd hxs5)
      have S6:Same H1 (upd H5 lt (.lst (xs++[y]))):=fun b u e=>by
        rw [upd_ne (ne_of_none e hlt)]
        exact S5 _ _ e
      have h6:(upd H5 lt (.lst (xs++[y]))) lt=some (.lst (xs++[y])):=upd_same
      have tl7:(ths++[th]).length=i+1:=by rw [List.length_append,tl];rfl
      have xs5:xs.length<sizeLine:=Nat.lt_of_le_of_lt (show xs.length≤50000 by omega) (by decide)
      have more:goesB th pl tm=true→readR 0 none rows=(ths++[th])++readR (pl+widthT th) (timeT th tm) (rows.drop (i+1)):=fun g=>by rw [rd,read_more ho g];simp
      cases ty with
      | @lost a n sqa=>
        refine ⟨_,rfl,a,_,_,_,rfl,rfl,sqa,atI_nat (j:=0) rfl,rfl,_,rfl,ifF (by decide +kernel) ?_⟩
        try dsimp only [tNext]
        refine ⟨_,rfl,a,_,_,_,rfl,rfl,sqa,atI_nat (j:=0) rfl,rfl,_,rfl,ifF (by decide +kernel) ?_⟩
        try dsimp only [tNext]
        refine ⟨_,rfl,a,_,_,_,rfl,rfl,sqa,atI_nat (j:=0) rfl,rfl,_,rfl,ifT (by simp) ?_⟩
        refine ⟨_,rfl,_,rfl,a,_,_,_,rfl,rfl,sqa,atI_nat (j:=1) rfl,_,_,rfl,rfl,?_⟩
        refine ⟨_,rfl,a,_,_,_,rfl,rfl,sqa,atI_nat (j:=0) rfl,rfl,_,rfl,ifF (by decide +kernel) ?_⟩
        refine ⟨_,rfl,_,rfl,.inl ⟨rfl,_,SqL.of hxs5⟩,_,rfl,lt,xs,_,rfl,rfl,hxs5,xs5,?_⟩
        exact ⟨⟨pl+widthT (.lost n),tm,_,_,_,rfl,tl7,by omega,more rfl,_,h6,ta6⟩,S6⟩
      | @ev a b p' t kk us sqa sqz=>
        refine ⟨_,rfl,a,_,_,_,rfl,rfl,sqa,atI_nat (j:=0) rfl,rfl,_,rfl,ifT (by simp) ?_⟩
        refine ⟨_,rfl,a,_,_,_,rfl,rfl,sqa,atI_nat (j:=1) rfl,_,rfl,rfl,_,rfl,?_⟩
        by_cases hp:p'=pl
        rotate_left
        · have hg:goesB (.ev p' t kk us) pl tm=false:=by
            cases tm with
            |none=>exact decide_eq_false hp
            |some u=>show (decide (p'=pl) && decide (u≤t))=false;rw [decide_eq_false hp];rfl
          exact ifT (by simp [hp]) ⟨_,rfl,_,rfl,(show 2≤sizeLine by decide),fun q hq=>out (read_bad ho hg) q hq⟩
        refine ifF (by simp [hp]) ?_
        try dsimp only [tNext]
        refine ⟨_,rfl,a,_,_,_,rfl,rfl,sqa,atI_nat (j:=0) rfl,rfl,_,rfl,ifT (by simp) ?_⟩
        have fin:goesB (.ev p' t kk us) pl tm=true→readR 0 none rows=(ths++[Th.ev p' t kk us])++readR (pl+1) (some t) (rows.drop (i+1)):=more
        cases tm with
        | none=>
          refine ⟨_,rfl,rfl,_,rfl,ifF rfl ?_⟩
          try dsimp only [tNext]
          refine ⟨_,rfl,a,_,_,_,rfl,rfl,sqa,atI_nat (j:=0) rfl,rfl,_,rfl,ifF (by decide +kernel) ?_⟩
          refine ⟨_,rfl,_,_,rfl,rfl,?_⟩
          refine ⟨_,rfl,a,_,_,_,rfl,rfl,sqa,atI_nat (j:=0) rfl,rfl,_,rfl,ifT (by simp) ?_⟩
          refine ⟨_,rfl,a,_,_,_,rfl,rfl,sqa,atI_nat (j:=2) rfl,?_⟩
          refine ⟨_,rfl,.inl ⟨rfl,_,SqL.of hxs5⟩,_,rfl,lt,xs,_,rfl,rfl,hxs5,xs5,?_⟩
          exact ⟨⟨pl+1,some t,_,_,_,rfl,tl7,by omega,fin (decide_eq_true hp),_,h6,ta6⟩,S6⟩
        | some u=>
          refine ⟨_,rfl,rfl,_,rfl,ifT rfl ?_⟩
          refine ⟨_,rfl,a,_,_,_,rfl,rfl,sqa,atI_nat (j:=2) rfl,_,rfl,_,_,rfl,rfl,_,rfl,?_⟩
          by_cases ht:u≤t
          rotate_left
          · have hg:goesB (.ev p' t kk us) pl (some u)=false:=by show (decide (p'=pl) && decide (u≤t))=false;rw [decide_eq_false ht,Bool.and_false]
            exact ifT (by simp;omega) ⟨_,rfl,_,rfl,(show 2≤sizeLine by decide),fun q hq=>out (read_bad ho hg) q hq⟩
          refine ifF (by simp;omega) ?_
          try dsimp only [tNext]
          refine ⟨_,rfl,a,_,_,_,rfl,rfl,sqa,atI_nat (j:=0) rfl,rfl,_,rfl,ifF (by decide +kernel) ?_⟩
          refine ⟨_,rfl,_,_,rfl,rfl,?_⟩
          refine ⟨_,rfl,a,_,_,_,rfl,rfl,sqa,atI_nat (j:=0) rfl,rfl,_,rfl,ifT (by simp) ?_⟩
          refine ⟨_,rfl,a,_,_,_,rfl,rfl,sqa,atI_nat (j:=2) rfl,?_⟩
          refine ⟨_,rfl,.inl ⟨rfl,_,SqL.of hxs5⟩,_,rfl,lt,xs,_,rfl,rfl,hxs5,xs5,?_⟩
          exact ⟨⟨pl+1,some t,_,_,_,rfl,tl7,by omega,fin (by show (decide (p'=pl) && decide (u≤t))=true;rw [decide_eq_true hp,decide_eq_true ht];rfl),_,h6,ta6⟩,S6⟩
    · rintro σ' H4 ⟨⟨pl,tm,ths,u5,u6,rfl,tl,ir,_⟩,_⟩
      omega
end
end Cm
namespace Cm
open PySem L2 PySem.W
section
variable {P:Program} {w:World} {K:PySem.W.Frag} {mg:Str→Option Value} {base:Heap}
structure DCls2 (K:Frag) (mg:Str→Option Value) (C f:Addr) (fd:FuncData):Prop where
  d:DCls K mg C f fd
  m:mroIn K C (.ref C)=some true
  g:XGet K C "row"
def spAd (K:Frag):Sp:=fun vs H Q _=>∃ x:Str,vs=[.str x]∧Asc x∧x.length≤50000∧
  (wrongW (Txt.split x "\n")=none→∀ (l:Addr) (xs:List V) (H':Hp),Same H H'→H l=none→H' l=some (.lst xs)→ThsAt K H' xs (toldW (Txt.split x "\n"))→Q (.ref l) H')∧
  ∀ n:Nat,wrongW (Txt.split x "\n")=some n→∀ H',Same H H'→Q (.int n) H'
abbrev NAd:List Str:=["_law_text","_law_told","e"]
theorem scAd:FnScope NAd ["_law_text"] (defScope (top 34)):=⟨rfl,rfl,rfl,by decide +kernel,rfl,by decide +kernel,by decide +kernel⟩
theorem ok_ad {CX:CXT} {f fR cD fD:Addr} {fd fdR fdD:FuncData} (F:Fun K "_law_ask_dump" "_law_ask_dump" (top 34) f fd) (DR:Def K mg "read_dump" (top 16) ["text"] fR fdR) (GR:FnOk P w K mg base (CX1 P w) 5 fR fdR ["text"] (spRdA K cD)) (WD:DCls2 K mg cD fD fdD):FnOk P w K mg base CX 6 f fd ["_law_text"] (spAd K):=by
  refine F.ok1 scAd (fun vs H Q E h=>?_) (fun cdv A outer s H vs Q E hr h=>?_)
  · obtain ⟨x,rfl,_⟩:=h
    rfl
  · obtain ⟨x,rfl,as,xl,k,kx⟩:=h
    refine ⟨_,(pss_cons (ps_try rfl rfl rfl (psx_call1 (i:=1) (j:=0) scAd.nd rfl (Or.inl rfl) rfl (Or.inl rfl) GR hr rfl DR.mg DR.F.kp DR.b)
        (ph_cons (i:=2) (C:=cD) (B:="ValueError") (newId:="ValueError.__new__") scAd.nd rfl rfl (fun ea ps=>pe_glob (by rfl) WD.d.mg rfl) (fun ea oe ps Ce dd hm hc hd hvs=>pss_one (ps_set (i:=1) scAd.nd rfl (Or.inl rfl) (pe_xatH hm hc hd hvs (pv 2))))
        ph_nil))
      (pss_one (ps_ret (pv 1)))),?_⟩
    refine ⟨_,fun v H'=>(∃ (l:Addr) (xs:List V),v=.ref l∧wrongW (Txt.split x "\n")=none∧Same H H'∧H l=none∧H' l=some (.lst xs)∧ThsAt K H' xs (toldW (Txt.split x "\n"))),fun cls dd H'=>∃ (n:Nat) (H1:Hp) (da:Addr),cls=.ref cD∧dd=some da∧wrongW (Txt.split x "\n")=some n∧Same H H1∧Thrown H1 (bdF n) da H',rfl,⟨x,rfl,as,xl,fun hw l xs H' s1 hl hl1 ta=>⟨l,xs,rfl,hw,s1,hl,hl1,ta⟩,fun n hw H1 da H' s1 th=>⟨n,H1,da,rfl,rfl,hw,s1,th⟩⟩,?_,?_⟩
    · rintro v H' ⟨l,xs,rfl,hw,s1,hl,hl1,ta⟩
      exact ⟨_,rfl,k hw l xs H' s1 hl hl1 ta⟩
    · rintro cls dd H' ⟨n,H1,da,rfl,rfl,hw,s1,hda,rfl⟩
      refine ⟨cD,rfl,WD.d.e.e.x,true,WD.m,fun ea=>?_⟩
      exact ⟨_,rfl,da,bdF n,_,rfl,rfl,upd_same,WD.g,rfl,_,rfl,kx n hw _ (s1.trans (Same.new hda))⟩
end
end Cm
namespace Cm
open PySem L2 PySem.W
theorem dump_len {ths:List Th} (h:∀ th∈ths,ThOk th) (hl:ths.length≤12):(dumpT ths).length≤6000:=by
  have key:∀ ths:List Th,(∀ th∈ths,ThOk th)→(dumpT ths).length≤ths.length*500:=by
    intro ths
    induction ths with
    |nil=>intro _;decide +kernel
    | cons th r ih=>
      intro h
      have h1:=row_len (h th (List.mem_cons_self ..))
      have h2:=ih fun t m=>h t (List.mem_cons_of_mem _ m)
      rw [dump_cons,Str.length_append,Str.length_append,show (("\n" : Str)).length=1 from by decide +kernel,List.length_cons,Nat.succ_mul]
      omega
  have h1:=key ths h
  have h2:ths.length*500≤12*500:=Nat.mul_le_mul_right 500 hl
  omega
structure Dump (ths:List Th):Prop where
  ok:∀ th∈ths,ThOk th
  le:ths.length≤12
  va:Valid 0 none ths
theorem ThAt.but {K:Frag} {H H':Hp} {p dc:Addr} {x:V} {th:Th} (h:ThAt K H x th) (D:Dr H p dc) (b:But p H H'):ThAt K H' x th:=th_at (D.rep b h.rep)
theorem ThsAt.but {K:Frag} {H H':Hp} {p dc:Addr}:∀ {ths:List Th} {xs:List V},ThsAt K H xs ths→Dr H p dc→But p H H'→ThsAt K H' xs ths
  |_,_,.nil,_,_=>.nil
  |_,_,.cons r rs,D,b=>.cons (r.but D b) (rs.but D b)
def aft:Int→Option Int→List Th→Int×Option Int
  |pl,tm,[]=>(pl,tm)
  |pl,tm,th::r=>aft (pl+widthT th) (timeT th tm) r
theorem aft_snoc (th:Th):∀ (ths:List Th) (pl:Int) (tm:Option Int),aft pl tm (ths++[th])=((aft pl tm ths).1+widthT th,timeT th (aft pl tm ths).2)
  |[],_,_=>rfl
  |t::r,pl,tm=>aft_snoc th r (pl+widthT t) (timeT t tm)
theorem valid_snoc {th:Th}:∀ {ths:List Th} {pl:Int} {tm:Option Int},Valid pl tm ths→goesP th (aft pl tm ths).1 (aft pl tm ths).2→Valid pl tm (ths++[th])
  |[],_,_,_,g=>⟨g,trivial⟩
  |_::_,_,_,⟨h1,h2⟩,g=>⟨h1,valid_snoc h2 g⟩
section
variable {P:Program} {w:World} {K:PySem.W.Frag} {mg:Str→Option Value} {base:Heap}
structure Told (ths:List Th) (pl τ:Int) (i:Nat):Prop where
  ok:∀ th∈ths,ThOk th
  ln:ths.length=i
  va:Valid 0 none ths
  pe:(aft 0 none ths).1=pl
  tm:∀ u,(aft 0 none ths).2=some u→u≤τ
  t0:-(Far+10)≤τ
  t1:τ≤Far+10+500*(i:Int)
  p0:0≤pl
  p1:pl≤200000000000000000000*(i:Int)
theorem Told.lost {ths:List Th} {pl τ δ n:Int} {i:Nat} (h:Told ths pl τ i) (hi:i≤11) (d0:0≤δ) (d1:δ≤500) (n0:1≤n) (n1:n≤200000000000000000000):Told (ths++[.lost n]) (pl+n) (τ+δ) (i+1):=by
  obtain ⟨ok,ln,va,ep,tm,t0,t1,p0,p1⟩:=h
  refine ⟨fun th m=>?_,by simp [ln],valid_snoc va trivial,?_,fun u e=>?_,by omega,by omega,by omega,by omega⟩
  · rcases List.mem_append.mp m with m|m
    · exact ok th m
    · simp at m;subst m;exact ⟨n0,by simp only [N30];omega⟩
  · rw [aft_snoc,ep];rfl
  · rw [aft_snoc] at e
    have:=tm u e
    omega
theorem Told.ev {ths:List Th} {pl τ δ:Int} {k:Str} {us:List Int} {i:Nat} (h:Told ths pl τ i) (hi:i≤11) (d0:0≤δ) (d1:δ≤500) (nk:Nm k) (lu:us.length≤5) (nu:∀ u∈us,-999999≤u∧u≤999999):Told (ths++[.ev pl (τ+δ) k us]) (pl+1) (τ+δ) (i+1):=by
  obtain ⟨ok,ln,va,ep,tm,t0,t1,p0,p1⟩:=h
  have far:Far=200000000000000000000000000000:=rfl
  have n30:N30=1000000000000000000000000000000:=rfl
  refine ⟨fun th m=>?_,by simp [ln],valid_snoc va ⟨ep.symm,fun u e=>?_⟩,?_,fun u e=>?_,by omega,by omega,by omega,by omega⟩
  · rcases List.mem_append.mp m with m|m
    · exact ok th m
    · simp at m;subst m;exact ⟨⟨by omega,by omega⟩,⟨by omega,by omega⟩,nk,lu,fun u m=>⟨by have:=nu u m;omega,by have:=nu u m;omega⟩⟩
  · have:=tm u e
    omega
  · rw [aft_snoc,ep];rfl
  · rw [aft_snoc] at e
    injection e with e
    omega
theorem at_last (xs:List V) (y:V):atI (xs++[y]) (-1)=some y:=by
  unfold atI ixN
  rw [if_neg (by decide),if_pos (by rw [List.length_append,List.length_singleton];omega)]
  show (xs++[y])[((-1:Int)+((xs++[y]).length:Nat)).toNat]?=some y
  have e:((-1:Int)+((xs++[y]).length:Nat)).toNat=xs.length:=by rw [List.length_append,List.length_singleton];omega
  rw [e]
  simp
def spDt (K:Frag):Sp:=fun vs H Q _=>∃ (p dc:Addr),vs=[.ref p]∧Dr H p dc∧∀ (l:Addr) (xs:List V) (ths:List Th) (H':Hp),H l=none→H' l=some (.lst xs)→ThsAt K H' xs ths→Dump ths→Dr H' p dc→But p H H'→Q (.ref l) H'
abbrev NDt:List Str:=["_law_d","_law_told","_law_place","_law_time","_law_step","_law_values"]
theorem scDt:FnScope NDt ["_law_d"] (defScope (top 30)):=⟨rfl,rfl,rfl,by decide +kernel,rfl,by decide +kernel,by decide +kernel⟩
theorem ok_dt {f fP fO fF fW fB:Addr} {fd fdP fdO fdF fdW fdB:FuncData} (F:Fun K "_law_dump_told" "_law_dump_told" (top 30) f fd) (T:Txt K mg) (DP:Def K mg "_law_pick" (top 20) ["_law_d","_law_many"] fP fdP) (DO:Def K mg "_law_of" (top 21) ["_law_d","_law_things"] fO fdO) (DF:Def K mg "_law_far" (top 22) ["_law_d"] fF fdF) (DW:Def K mg "_law_word" (top 24) ["_law_d"] fW fdW) (DB:Def K mg "_law_bound" (top 25) ["_law_d"] fB fdB):FnOk P w K mg base CX0 4 f fd ["_law_d"] (spDt K):=by
  have GP:FnOk P w K mg base CX0 1 fP fdP ["_law_d","_law_many"] spPick:=ok_pick DP.F T
  have GO:FnOk P w K mg base CX0 2 fO fdO ["_law_d","_law_things"] (spOf K):=ok_of DO.F T DP
  have GF:FnOk P w K mg base CX0 2 fF fdF ["_law_d"] spFar:=ok_far DF.F T DP
  have GW:FnOk P w K mg base CX0 3 fW fdW ["_law_d"] spWord:=ok_word DW.F T DP DO
  have GB:FnOk P w K mg base CX0 3 fB fdB ["_law_d"] spBound:=ok_bound DB.F T DP DO
  refine F.ok scDt (fun vs H Q E h=>?_) (fun cdv A outer s H vs Q E hr h=>?_)
  · obtain ⟨p,dc,rfl,_⟩:=h
    rfl
  · obtain ⟨p,dc,rfl,D,k⟩:=h
    have hr1:Room 1 _:=hr.mono (by decide)
    have hr2:Room 2 _:=hr.mono (by decide)
    refine ⟨_,(pss_cons
  (ps_set (i:=1) scDt.nd rfl (Or.inl rfl) (pe_lst pa_nil))
  (pss_cons
  (ps_set (i:=2) scDt.nd rfl (Or.inl rfl) pe_int)
  (pss_cons
  (ps_set (i:=3) scDt.nd rfl (Or.inl rfl) (pe_call GO hr2 rfl DO.mg DO.F.kp DO.b .nil pass0 (pa_cons (pv 0) (pa_cons (pe_lst (pa_cons pe_int (pa_cons (pe_un un_neg pe_int) (pa_cons (pe_call GF hr2 rfl DF.mg DF.F.kp DF.b .nil pass0 (pa_cons (pv 0) pa_nil)) pa_nil)))) pa_nil))))
  (pss_cons
  (ps_for PassesOwn.never rfl (pi_range1 rfl T.range (pa_cons (pe_call GP hr1 rfl DP.mg DP.F.kp DP.b .nil pass0 (pa_cons (pv 0) (pa_cons pe_int pa_nil))) pa_nil)) (pg_name (i:=4) scDt.nd rfl (Or.inl rfl)) (pss_cons
  (ps_set (i:=3) scDt.nd rfl (Or.inl rfl) (pe_op op_add (pv 3) (pe_call GO hr2 rfl DO.mg DO.F.kp DO.b .nil pass0 (pa_cons (pv 0) (pa_cons (pe_lst (pa_cons pe_int (pa_cons pe_int (pa_cons (pe_call GP hr1 rfl DP.mg DP.F.kp DP.b .nil pass0 (pa_cons (pv 0) (pa_cons pe_int pa_nil))) pa_nil)))) pa_nil)))))
  (pss_one
  (ps_if (pt_cmpR op_eq (pe_call GP hr1 rfl DP.mg DP.F.kp DP.b .nil pass0 (pa_cons (pv 0) (pa_cons pe_int pa_nil))) pe_int (nomark _)) (pss_cons
  (ps_expr (pe_bm PySem.F.plainAttrs_list PySem.F.slot_list_append PySem.F.type_list_append mt_append (pv 1) (pa_cons (pe_tup (pa_cons pe_str (pa_cons (pe_op op_add pe_int (pe_call GO hr2 rfl DO.mg DO.F.kp DO.b .nil pass0 (pa_cons (pv 0) (pa_cons (pe_lst (pa_cons pe_int (pa_cons pe_int (pa_cons (pe_call GP hr1 rfl DP.mg DP.F.kp DP.b .nil pass0 (pa_cons (pv 0) (pa_cons (pe_op op_pow pe_int pe_int) pa_nil))) pa_nil)))) pa_nil)))) pa_nil))) pa_nil)))
  (pss_one
  (ps_set (i:=2) scDt.nd rfl (Or.inl rfl) (pe_op op_add (pv 2) (pe_ix ix_tup (pe_ix ix_list (pv 1) (pe_un un_neg pe_int) (fun _ _=>rfl)) pe_int (fun _ _=>rfl)))))) (pss_cons
  (ps_set (i:=5) scDt.nd rfl (Or.inl rfl) (pe_callTy call_tuple_of (by rfl) T.tuple bt_tuple (pa_cons (pe_comp (g:=gName 0) (te:=tCall (spOf K) [] E0 (tCons (tVar 1) (tCons (tLst (tCons (tC (.int 0)) (tCons (tCall spBound [] E0 (tCons (tVar 1) tNil)) tNil))) tNil))) (own:=["_law_at"]) (js:=[0]) (N':=["_law_at","_law_d"]) (CompScope.of (osc:=defScope (top 30)) (N:=NDt) rfl rfl ⟨rfl,by decide +kernel,by decide +kernel,by decide +kernel,rfl,by decide +kernel⟩) rfl (pi_range1 rfl T.range (pa_cons (pe_call GP hr1 rfl DP.mg DP.F.kp DP.b .nil pass0 (pa_cons (pv 0) (pa_cons pe_int pa_nil))) pa_nil)) (fun _ _ _ _ _=>(pg_name (i:=0) (show List.Nodup (["_law_at","_law_d"]:List Str) by decide +kernel) rfl (Or.inl rfl) (Or.inr rfl))) (fun _ _ _ _ _=>pifs_nil) (fun _ _ _ _ _=>(pe_call GO hr2 rfl DO.mg DO.F.kp DO.b .nil pass0 (pa_cons (pv 1) (pa_cons (pe_lst (pa_cons pe_int (pa_cons (pe_call GB hr rfl DB.mg DB.F.kp DB.b .nil pass0 (pa_cons (pv 1) pa_nil)) pa_nil))) pa_nil))))) pa_nil)))
  (pss_cons
  (ps_expr (pe_bm PySem.F.plainAttrs_list PySem.F.slot_list_append PySem.F.type_list_append mt_append (pv 1) (pa_cons (pe_tup (pa_cons pe_str (pa_cons (pv 2) (pa_cons (pv 3) (pa_cons (pe_call GW hr rfl DW.mg DW.F.kp DW.b .nil pass0 (pa_cons (pv 0) pa_nil)) (pa_cons (pv 5) pa_nil)))))) pa_nil)))
  (pss_one
  (ps_set (i:=2) scDt.nd rfl (Or.inl rfl) (pe_op op_add (pv 2) pe_int)))))))))
  (pss_one
  (ps_ret (pv 1))))))),?_⟩
    have z3:3≤sizeLine:=by decide
    have z9:1000≤sizeLine:=by decide
    refine ⟨(show 0≤sizeLine by decide),fun l hl=>?_⟩
    have lp:l≠p:=(D.neN hl).symm
    have lc:l≠dc:=by
      obtain ⟨ms,ba,br,bs,e1,e2,_⟩:=D.ex
      rintro rfl
      rw [e2] at hl
      cases hl
    have s1:Same H (upd H l (.lst [])):=Same.new hl
    have h1:(upd H l (.lst [])) l=some (.lst []):=upd_same
    have D1:=D.mono s1
    generalize upd H l (.lst [])=H1 at s1 h1 D1 ⊢
    refine ⟨_,rfl,_,rfl,_,rfl,p,dc,rfl,D1,fun z H2 z0 z1 D2 b2=>⟨z3,fun q1 hq1=>?_⟩⟩
    refine ⟨p,dc,q1,[.int 0,.int (-7),.int z],rfl,D2.new hq1,SqL.of upd_same,by simp,by simp,fun v H3 hv D3 b3=>?_⟩
    obtain ⟨τ,rfl,t0,t1⟩:∃ τ:Int,v=.int τ∧-(Far+10)≤τ∧τ≤Far+10:=by
      simp only [Far] at *
      simp only [List.mem_cons,List.not_mem_nil,or_false] at hv
      rcases hv with rfl|rfl|rfl
      · exact ⟨_,rfl,by omega,by omega⟩
      · exact ⟨_,rfl,by omega,by omega⟩
      · exact ⟨_,rfl,by omega,by omega⟩
    have B3:But p H1 H3:=b2.trans ((But.new hq1).trans b3)
    have h3:H3 l=some (.lst []):=B3 l _ h1 (D1.ne h1 (by intro _ z;cases z))
    refine ⟨_,rfl,p,dc,_,rfl,D3,by decide,by decide,fun m H4 m0 m1 D4 b4=>?_⟩
    obtain ⟨n,rfl⟩:∃ n:Nat,m=(n:Int):=⟨m.toNat,by omega⟩
    have h4:H4 l=some (.lst []):=b4 l _ h3 (D3.ne h3 (by intro _ z;cases z))
    have B4:But p H H4:=s1.but.trans (B3.trans b4)
    refine ⟨(n:Int),rfl,by omega,by omega,for_range (n:=n) (fun i σ' H'=>∃ (pl τ:Int) (u4 u5:Option V) (ths:List Th) (xs:List V),σ'=[some (.ref p),some (.ref l),some (.int pl),some (.int τ),u4,u5]∧H' l=some (.lst xs)∧ThsAt K H' xs ths∧Told ths pl τ i∧Dr H' p dc∧But p H H') ⟨0,τ,none,none,[],[],rfl,h4,.nil,⟨by simp,rfl,trivial,rfl,(fun u z=>by cases z),t0,by omega,by omega,by omega⟩,D4,B4⟩ ?_ ?_⟩
    · clear t0 t1 h3 h4 B3 B4 D3 D4 D2 D1 b2 b3 b4 hq1 h1
      rintro i σ' H1' hi ⟨pl,τ,u4,u5,ths,xs,rfl,hxs,ta,td,D1,B1⟩
      have ln:=td.ln
      have key:∀ {Ha Hb:Hp},Ha l=some (.lst xs)→ThsAt K Ha xs ths→Dr Ha p dc→But p Ha Hb→Hb l=some (.lst xs)∧ThsAt K Hb xs ths:=fun h t d b=>⟨b l _ h (d.ne h (by intro _ z;cases z)),t.but d b⟩
      refine ⟨_,rfl,_,rfl,_,rfl,p,dc,_,rfl,D1,by decide,by decide,fun r H2 r0 r1 D2 b2=>⟨z3,fun q2 hq2=>?_⟩⟩
      refine ⟨p,dc,q2,[.int 0,.int 1,.int r],rfl,D2.new hq2,SqL.of upd_same,by simp,by simp,fun v H3 hv D3 b3=>?_⟩
      obtain ⟨δ,rfl,d0,d1⟩:∃ δ:Int,v=.int δ∧0≤δ∧δ≤500:=by
        simp only [List.mem_cons,List.not_mem_nil,or_false] at hv
        rcases hv with rfl|rfl|rfl
        · exact ⟨_,rfl,by omega,by omega⟩
        · exact ⟨_,rfl,by omega,by omega⟩
        · exact ⟨_,rfl,by omega,by omega⟩
      have b13:But p H1' H3:=b2.trans ((But.new hq2).trans b3)
      obtain ⟨hx3,ta3⟩:=key hxs ta D1 b13
      have B3:=B1.trans b13
      refine ⟨_,_,rfl,rfl,?_⟩
      refine ⟨_,rfl,p,dc,_,rfl,D3,by decide,by decide,fun m4 H4 m0 m1 D4 b4=>⟨rfl,_,rfl,?_⟩⟩
      obtain ⟨hx4,ta4⟩:=key hx3 ta3 D3 b4
      have B4:=B3.trans b4
      clear hxs ta D1 B1 b2 D2 hq2 hv b3 b13 hx3 ta3 D3 B3 b4
      have xl:=ta4.length
      refine ite2 (fun _=>?_) (fun _=>?_)
      ·
        have p20:(10:Int) ^ (20:Int).toNat=100000000000000000000:=by decide +kernel
        have c20:CPow 10 20:=⟨by decide,by decide,by decide⟩
        refine ⟨_,rfl,.inl ⟨rfl,_,SqL.of hx4⟩,?_⟩
        refine ⟨_,rfl,_,rfl,_,_,rfl,rfl,c20,p,dc,_,rfl,D4,by rw [p20];decide,by rw [p20];decide,fun r5 H5 r50 r51 D5 b5=>⟨z3,fun q5 hq5=>?_⟩⟩
        rw [p20] at r51
        refine ⟨p,dc,q5,[.int 0,.int 3,.int r5],rfl,D5.new hq5,SqL.of upd_same,by simp,by simp,fun v6 H6 hv6 D6 b6=>?_⟩
        obtain ⟨ν,rfl,n0,n1⟩:∃ ν:Int,v6=.int ν∧0≤ν∧ν≤100000000000000000000:=by
          simp only [List.mem_cons,List.not_mem_nil,or_false] at hv6
          rcases hv6 with rfl|rfl|rfl
          · exact ⟨_,rfl,by omega,by omega⟩
          · exact ⟨_,rfl,by omega,by omega⟩
          · exact ⟨_,rfl,by omega,by omega⟩
        have b46:But p H4 H6:=b5.trans ((But.new hq5).trans b6)
        obtain ⟨hx6,ta6⟩:=key hx4 ta4 D4 b46
        have B6:=B4.trans b46
        refine ⟨_,_,rfl,rfl,(show 2≤sizeLine by decide),fun t7 ht7=>?_⟩
        have s7:Same H6 (upd H6 t7 (.tup [.str "lost",.int (1+ν)])):=Same.new ht7
        have th7:ThAt K (upd H6 t7 (.tup [.str "lost",.int (1+ν)])) (.ref t7) (.lost (1+ν)):=.lost (SqT.of upd_same)
        have hx7:=s7 _ _ hx6
        have ta7:=ta6.same s7
        have D7:=D6.mono s7
        have B7:=B6.trans s7.but
        generalize upd H6 t7 (.tup [.str "lost",.int (1+ν)])=H7 at s7 th7 hx7 ta7 D7 B7 ⊢
        refine ⟨l,xs,.ref t7,rfl,rfl,hx7,Nat.lt_of_le_of_lt (show xs.length≤12 by omega) (by decide),?_⟩
        have h8:(upd H7 l (.lst (xs++[.ref t7]))) l=some (.lst (xs++[.ref t7])):=upd_same
        have ta8:ThsAt K (upd H7 l (.lst (xs++[.ref t7]))) (xs++[.ref t7]) (ths++[.lost (1+ν)]):=ThsAt.snoc (th7.upd hx7) (ta7.upd hx7)
        have th8:ThAt K (upd H7 l (.lst (xs++[.ref t7]))) (.ref t7) (.lost (1+ν)):=th7.upd hx7
        have D8:=D7.put (o:=.lst (xs++[.ref t7])) lp lc
        have B8:But p H (upd H7 l (.lst (xs++[.ref t7]))):=fun b o e nb=>by
          rw [upd_ne (ne_of_none e hl)]
          exact B7 b o e nb
        generalize upd H7 l (.lst (xs++[.ref t7]))=H8 at h8 ta8 th8 D8 B8 ⊢
        cases th8 with
        |lost sq8=>
        refine ⟨_,rfl,_,rfl,_,rfl,l,_,_,_,rfl,rfl,SqL.of h8,at_last _ _,t7,_,_,_,rfl,rfl,sq8,atI_nat (j:=1) rfl,_,_,rfl,rfl,?_⟩
        exact ⟨pl+(1+ν),τ+δ,_,_,_,_,rfl,h8,ta8,td.lost (by omega) d0 d1 (by omega) (by omega),D8,B8⟩
      ·
        refine ⟨_,rfl,p,dc,_,rfl,D4,by decide,by decide,fun m5 H5 m50 m51 D5 b5=>?_⟩
        obtain ⟨n5,rfl⟩:∃ n5:Nat,m5=(n5:Int):=⟨m5.toNat,by omega⟩
        obtain ⟨hx5,ta5⟩:=key hx4 ta4 D4 b5
        have B5:=B4.trans b5
        refine ⟨(n5:Int),rfl,by omega,by omega,?_⟩
        refine comp_range (lo:=0) (n:=n5) (fun j ys σ' H'=>∃ us:List Int,(∃ v,σ'=[v,some (.ref p)])∧ys=us.map V.int∧us.length=j∧(∀ u∈us,-999999≤u∧u≤999999)∧Dr H' p dc∧But p H5 H') (by omega) ⟨[],⟨none,rfl⟩,rfl,rfl,by simp,D5,But.refl⟩ ?_ ?_
        · rintro j ys σ' H6 hj hyl ⟨us,⟨v,rfl⟩,rfl,ul,un,D6,b6⟩ N hN
          refine ⟨_,rfl,_,rfl,p,dc,rfl,D6,fun z7 H7 z70 z71 D7 b7=>⟨(show 2≤sizeLine by decide),fun q7 hq7=>?_⟩⟩
          refine ⟨p,dc,q7,[.int 0,.int z7],rfl,D7.new hq7,SqL.of upd_same,by simp,by simp,fun v8 H8 hv8 D8 b8=>?_⟩
          obtain ⟨u,rfl,u0,u1⟩:∃ u:Int,v8=.int u∧-999999≤u∧u≤999999:=by
            simp only [List.mem_cons,List.not_mem_nil,or_false] at hv8
            rcases hv8 with rfl|rfl
            · exact ⟨_,rfl,by omega,by omega⟩
            · exact ⟨_,rfl,by omega,by omega⟩
          refine hN _ _ _ (by simp [ul]) ⟨us++[u],⟨_,rfl⟩,by simp,by simp [ul],fun w m=>?_,D8,b6.trans (b7.trans ((But.new hq7).trans b8))⟩
          rcases List.mem_append.mp m with m|m
          · exact un w m
          · simp at m;subst m;exact ⟨u0,u1⟩
        rintro ys σ' H6 hyl ⟨us,⟨v,rfl⟩,rfl,ul,un,D6,b6⟩
        obtain ⟨hx6,ta6⟩:=key hx5 ta5 D5 b6
        have B6:=B5.trans b6
        refine ⟨by simp;omega,fun l7 hl7=>?_⟩
        refine ⟨l7,us.map V.int,rfl,.inl ⟨SqL.of upd_same,fun t7 ht7=>?_⟩⟩
        have s7:Same H6 (upd (upd H6 l7 (.lst (us.map V.int))) t7 (.tup (us.map V.int))):=(Same.new hl7).trans (Same.new ht7)
        have h7:(upd (upd H6 l7 (.lst (us.map V.int))) t7 (.tup (us.map V.int))) t7=some (.tup (us.map V.int)):=upd_same
        have hx7:=s7 _ _ hx6
        have ta7:=ta6.same s7
        have D7:=D6.mono s7
        have B7:=B6.trans s7.but
        generalize upd (upd H6 l7 (.lst (us.map V.int))) t7 (.tup (us.map V.int))=H7 at s7 h7 hx7 ta7 D7 B7 ⊢
        refine ⟨_,rfl,.inl ⟨rfl,_,SqL.of hx7⟩,?_⟩
        refine ⟨_,rfl,_,rfl,_,rfl,p,dc,rfl,D7,fun kk H8 nk D8 b8=>?_⟩
        obtain ⟨hx8,ta8⟩:=key hx7 ta7 D7 b8
        have h8:H8 t7=some (.tup (us.map V.int)):=b8 t7 _ h7 (D7.ne h7 (by intro _ z;cases z))
        have B8:=B7.trans b8
        refine ⟨_,rfl,(show 5≤sizeLine by decide),fun t9 ht9=>?_⟩
        have s9:Same H8 (upd H8 t9 (.tup [.str "event",.int pl,.int (τ+δ),.str kk,.ref t7])):=Same.new ht9
        have th9:ThAt K (upd H8 t9 (.tup [.str "event",.int pl,.int (τ+δ),.str kk,.ref t7])) (.ref t9) (.ev pl (τ+δ) kk us):=.ev (SqT.of upd_same) (SqT.of (s9 _ _ h8))
        have hx9:=s9 _ _ hx8
        have ta9:=ta8.same s9
        have D9:=D8.mono s9
        have B9:=B8.trans s9.but
        generalize upd H8 t9 (.tup [.str "event",.int pl,.int (τ+δ),.str kk,.ref t7])=H9 at s9 th9 hx9 ta9 D9 B9 ⊢
        refine ⟨l,xs,.ref t9,rfl,rfl,hx9,Nat.lt_of_le_of_lt (show xs.length≤12 by omega) (by decide),?_⟩
        have ta10:ThsAt K (upd H9 l (.lst (xs++[.ref t9]))) (xs++[.ref t9]) (ths++[.ev pl (τ+δ) kk us]):=ThsAt.snoc (th9.upd hx9) (ta9.upd hx9)
        have D10:=D9.put (o:=.lst (xs++[.ref t9])) lp lc
        have B10:But p H (upd H9 l (.lst (xs++[.ref t9]))):=fun b o e nb=>by
          rw [upd_ne (ne_of_none e hl)]
          exact B9 b o e nb
        refine ⟨_,rfl,_,_,rfl,rfl,?_⟩
        exact ⟨pl+1,τ+δ,_,_,_,_,rfl,upd_same,ta10,td.ev (by omega) d0 d1 nk (by omega) un,D10,B10⟩
    · rintro σ' H1' ⟨pl,τ,u4,u5,ths,xs,rfl,hxs,ta,td,D1,B1⟩
      exact ⟨_,rfl,k l xs ths H1' hl hxs ta ⟨td.ok,by have:=td.ln;omega,td.va⟩ D1 B1⟩
end
end Cm
namespace Cm
open PySem L2 PySem.W
def wt (ys:List Str):Nat:=(ys.map (·.length)).sum+ys.length
def AscL (ys:List Str):Prop:=∀ y∈ys,Asc y
theorem wt_nil:wt []=0:=rfl
theorem wt_cons (y:Str) (ys:List Str):wt (y::ys)=y.length+1+wt ys:=by
  unfold wt
  rw [List.map_cons,List.sum_cons,List.length_cons]
  omega
theorem wt_app:∀ xs ys:List Str,wt (xs++ys)=wt xs+wt ys
  |[],ys=>by rw [List.nil_append,wt_nil];omega
  |x::xs,ys=>by rw [List.cons_append,wt_cons,wt_cons,wt_app xs ys];omega
theorem wt_set {v a:Str}:∀ {ys:List Str} {i:Nat},ys[i]?=some a→wt (ys.set i v)+a.length=wt ys+v.length
  |[],i,h=>by simp at h
  | y::ys,0,h=>by
    have h:y=a:=by simpa using h
    subst h
    rw [List.set_cons_zero,wt_cons,wt_cons]
    omega
  | y::ys,i+1,h=>by
    have h:ys[i]?=some a:=by simpa using h
    have:=wt_set (v:=v) h
    rw [List.set_cons_succ,wt_cons,wt_cons]
    omega
theorem wt_cut (ys:List Str) (k:Nat):wt (ys.take k)+wt (ys.drop k)=wt ys:=by
  rw [← wt_app,List.take_append_drop]
theorem wt_ins (y:Str) (ys:List Str) (k:Nat):wt (ys.take k++y::ys.drop k)=wt ys+y.length+1:=by
  have:=wt_cut ys k
  rw [wt_app,wt_cons]
  omega
theorem wt_erase:∀ (ys:List Str) (k:Nat),wt (ys.eraseIdx k)≤wt ys
  |[],k=>by rw [List.eraseIdx_nil];exact Nat.le_refl _
  |y::ys,0=>by rw [List.eraseIdx_cons_zero,wt_cons];omega
  | y::ys,k+1=>by
    have:=wt_erase ys k
    rw [List.eraseIdx_cons_succ,wt_cons,wt_cons]
    omega
theorem wt_mem {y:Str}:∀ {ys:List Str},y∈ys→y.length+1≤wt ys
  |[],h=>by cases h
  | z::ys,h=>by
    rw [wt_cons]
    rcases List.mem_cons.mp h with rfl|h
    · omega
    · have:=wt_mem h;omega
theorem wt_swap {ys:List Str} {i j:Nat} {a b:Str} (hi:ys[i]?=some a) (hj:ys[j]?=some b):wt ((ys.set i b).set j a)=wt ys:=by
  have h1:=wt_set (v:=b) hi
  have h2:(ys.set i b)[j]?=some b:=by
    rw [List.getElem?_set]
    have:=(List.getElem?_eq_some_iff.mp hi).1
    split
    · simp [this]
    · exact hj
  have h3:=wt_set (v:=a) h2
  omega
theorem wt_split (x:Str) (c:Nat):wt (Txt.split x ⟨#[c]⟩)≤x.length+1:=PyProof.Rows.split_weight x ⟨#[c]⟩ (Nat.le_refl 1)
theorem join_wt (c:Nat) (ys:List Str):(Txt.join ⟨#[c]⟩ ys).length≤wt ys:=by
  rw [show Txt.join ⟨#[c]⟩ ys=Str.join ⟨#[c]⟩ ys from StrLaws.glued_eq_join _ _]
  cases ys with
  |nil=>exact Nat.zero_le _
  | cons a l=>
    rw [PyProof.Rows.len_join_cons]
    have e:(⟨#[c]⟩:Str).length=1:=rfl
    unfold wt
    rw [e,List.length_cons]
    omega
theorem asc_join {c:Nat} (hc:c<128) {ys:List Str} (h:AscL ys):Asc (Txt.join ⟨#[c]⟩ ys):=by
  rw [show Txt.join ⟨#[c]⟩ ys=Str.join ⟨#[c]⟩ ys from StrLaws.glued_eq_join _ _,asc_iff]
  induction ys with
  |nil=>intro d hd;cases hd
  | cons z r ih=>
    obtain ⟨rest,e1,h1⟩:=join_tl c z r
    intro d hd
    rw [e1] at hd
    rcases List.mem_append.mp hd with hd|hd
    · exact asc_iff.mp (h z (List.mem_cons_self ..)) d hd
    · rcases h1 with ⟨_,rfl⟩|⟨_,rfl⟩
      · cases hd
      · rcases List.mem_cons.mp hd with rfl|hd
        · exact hc
        · exact ih (fun y m=>h y (List.mem_cons_of_mem _ m)) d hd
theorem AscL.set {ys:List Str} {i:Nat} {v:Str} (h:AscL ys) (hv:Asc v):AscL (ys.set i v):=fun y m=>by
  rcases List.mem_or_eq_of_mem_set m with m|rfl
  · exact h y m
  · exact hv
theorem AscL.erase {ys:List Str} {i:Nat} (h:AscL ys):AscL (ys.eraseIdx i):=fun y m=>h y (List.mem_of_mem_eraseIdx m)
theorem AscL.app {xs ys:List Str} (h:AscL xs) (h':AscL ys):AscL (xs++ys):=fun y m=>(List.mem_append.mp m).elim (h y) (h' y)
theorem AscL.take {ys:List Str} {k:Nat} (h:AscL ys):AscL (ys.take k):=fun y m=>h y (List.mem_of_mem_take m)
theorem AscL.drop {ys:List Str} {k:Nat} (h:AscL ys):AscL (ys.drop k):=fun y m=>h y (List.mem_of_mem_drop m)
theorem AscL.ins {ys:List Str} {k:Nat} {v:Str} (h:AscL ys) (hv:Asc v):AscL (ys.take k++v::ys.drop k):=h.take.app fun y m=>by
  rcases List.mem_cons.mp m with rfl|m
  · exact hv
  · exact h.drop y m
theorem asc_cat {x y:Str} (a:Asc x) (b:Asc y):Asc (x++y):=by
  rw [asc_iff] at *
  intro c hc
  rw [Str.cps_append,Array.toList_append] at hc
  rcases List.mem_append.mp hc with h|h
  · exact a c h
  · exact b c h
end Cm
namespace Cm
open PySem L2 PySem.W
theorem sub_head (z:Str) (k:Nat):(sub z 0 k).length≤z.length∧(sub z 0 k).length≤k:=by
  rw [len_cps,len_cps,sub_cps,List.length_take,List.length_drop]
  omega
theorem sub_tail (z:Str) (k:Nat):(sub z k z.length).length=z.length-k:=by
  rw [len_cps,sub_cps,List.length_take,List.length_drop,← len_cps]
  omega
section
variable {P:Program} {w:World} {K:PySem.W.Frag} {mg:Str→Option Value} {base:Heap}
abbrev NBd:List Str:=["_law_d","_law_text","_law_rows","_law_at","_law_to","_law_words","_law_one","_law_bits","_law_way","_law_more","_law_spot"]
theorem scBe:FnScope NBd ["_law_d","_law_text"] (defScope (top 33)):=⟨rfl,rfl,rfl,by decide +kernel,rfl,by decide +kernel,by decide +kernel⟩
theorem bd_tail {f fP fO:Addr} {fdP fdO:FuncData} (T:Txt K mg) (DP:Def K mg "_law_pick" (top 20) ["_law_d","_law_many"] fP fdP) (DO:Def K mg "_law_of" (top 21) ["_law_d","_law_things"] fO fdO)
    {cdv:Value} {A:Around} {outer:List Env} {s:Shared} {H:Hp} {E:XK} (hr:Room 2 (A.deeper (PyProof.Rows.envOfC "_law_bent_dump" (defScope (top 33)) s.heap.objs.size f cdv))) :
    ∃ t:TS,PSs (cxOf CX0 P w K mg base NBd "_law_bent_dump" (defScope (top 33)) f cdv A outer s H E).nox ((defBody (top 33)).drop 10) t∧
      ∀ (p dc l:Addr) (ys:List Str) (wy:Int) (u1 u3 u4 u5 u6 u7 u9:Option V) (H5:Hp) (Q:VK) (N:St→Hp→Prop),H5 l=some (.lst (ys.map V.str))→AscL ys→wt ys≤60000→Dr H5 p dc→(∀ y H',Asc y→y.length≤wt ys+1→Dr H' p dc→But p H5 H'→Q (.str y) H')→
        t { nx:=N,rt:=Q } [some (.ref p),u1,some (.ref l),u3,u4,u5,u6,u7,some (.int wy),u9,none] H5:=by
  have GP:FnOk P w K mg base CX0 1 fP fdP ["_law_d","_law_many"] spPick:=ok_pick DP.F T
  have GO:FnOk P w K mg base CX0 2 fO fdO ["_law_d","_law_things"] (spOf K):=ok_of DO.F T DP
  have hr1:Room 1 _:=hr.mono (by decide)
  refine ⟨_,(pss_cons
    (ps_set (i:=1) scBe.nd rfl (Or.inl rfl) (pe_bm PySem.F.plainAttrs_str PySem.F.slot_str_join PySem.F.type_str_join mt_join pe_str (pa_cons (pv 2) pa_nil)))
    (pss_cons
    (ps_set (i:=10) scBe.nd rfl (Or.inl rfl) (pe_call GP hr1 rfl DP.mg DP.F.kp DP.b .nil pass0 (pa_cons (pv 0) (pa_cons (pe_op op_add (pe_callB call_len_str (by rfl) T.len bt_len (pa_cons (pv 1) pa_nil)) pe_int) pa_nil))))
    (pss_cons
    (ps_if (pt_cmpR op_eq (pv 8) pe_int (nomark _)) (pss_one (ps_ret (pe_slice sl_strH (pv 1) po_none (po_some (pv 10))))) pss_nil)
    (pss_cons
    (ps_if (pt_cmpR op_eq (pv 8) pe_int (nomark _)) (pss_one (ps_ret (pe_op op_add_str (pe_op op_add_str (pe_slice sl_strH (pv 1) po_none (po_some (pv 10))) (pe_call GO hr rfl DO.mg DO.F.kp DO.b .nil pass0 (pa_cons (pv 0) (pa_cons (pe_lst (pa_cons pe_str (pa_cons pe_str (pa_cons pe_str (pa_cons pe_str (pa_cons pe_str pa_nil)))))) pa_nil)))) (pe_slice sl_strL (pv 1) (po_some (pv 10)) po_none)))) pss_nil)
    (pss_one
    (ps_ret (pe_ifExp (pt_cmpR op_eq (pv 8) pe_int (nomark _)) (pe_op op_add_str (pe_slice sl_strH (pv 1) po_none (po_some (pv 10))) (pe_slice sl_strL (pv 1) (po_some (pe_op op_add (pv 10) pe_int)) po_none)) (pv 1)))))))),?_⟩
  intro p dc l ys wy u1 u3 u4 u5 u6 u7 u9 H5 Q N hl as wl D k
  have big:70000≤sizeLine:=by decide
  have c1:(("\n" : Str)).length=1:=by decide +kernel
  have jw:=join_wt 10 ys
  have ja:=asc_join (c:=10) (by decide) as
  rw [← c_line] at jw ja
  have ws:(ys.map (·.length)).sum+ys.length=wt ys:=rfl
  refine ⟨rfl,_,rfl,"\n",l,ys,rfl,rfl,SqL.of hl,by rw [c1];omega,?_⟩
  generalize Txt.join "\n" ys=z at jw ja ⊢
  refine ⟨_,rfl,_,rfl,z,rfl,by omega,_,_,rfl,rfl,p,dc,_,rfl,D,by omega,by omega,fun r H6 r0 r1 D6 b6=>?_⟩
  obtain ⟨r,rfl⟩:=Int.eq_ofNat_of_zero_le r0
  obtain ⟨h1,h2⟩:=sub_head z r
  refine ⟨_,rfl,rfl,_,rfl,?_⟩
  by_cases w6:wy=6
  · refine ifT (by simp [w6]) ?_
    exact ⟨_,rfl,_,rfl,_,rfl,z,r,rfl,rfl,rfl,by omega,k _ _ (sub_asc ja _ _) (by omega) D6 b6⟩
  refine ifF (by simpa using w6) ?_
  try dsimp only [tNext]
  refine ⟨_,rfl,rfl,_,rfl,?_⟩
  by_cases w7:wy=7
  · refine ifT (by simp [w7]) ?_
    refine ⟨_,rfl,_,rfl,_,rfl,z,r,rfl,rfl,rfl,by omega,_,rfl,(show 5≤sizeLine by decide),fun q hq=>?_⟩
    refine ⟨p,dc,q,_,rfl,D6.new hq,SqL.of upd_same,by simp,by simp,fun y H7 hy D7 b7=>?_⟩
    obtain ⟨c,rfl,ca,cl⟩:∃ c:Str,y=.str c∧Asc c∧c.length=1:=by
      simp only [List.mem_cons,List.not_mem_nil,or_false] at hy
      rcases hy with rfl|rfl|rfl|rfl|rfl
      all_goals exact ⟨_,rfl,by unfold Asc;decide +kernel,by decide +kernel⟩
    refine ⟨_,_,rfl,rfl,by omega,_,rfl,_,rfl,_,rfl,z,r,rfl,rfl,rfl,by omega,_,_,rfl,rfl,?_,?_⟩
    · rw [Str.length_append]
      have:=sub_tail z r
      omega
    · refine k _ _ (asc_cat (asc_cat (sub_asc ja _ _) ca) (sub_asc ja _ _)) ?_ D7 ((b6.trans (But.new hq)).trans b7)
      rw [Str.length_append,Str.length_append]
      have:=sub_tail z r
      omega
  refine ifF (by simpa using w7) ?_
  try dsimp only [tNext]
  refine ⟨_,rfl,rfl,_,rfl,?_⟩
  by_cases w8:wy=8
  · refine ifT (by simp [w8]) ?_
    refine ⟨_,rfl,_,rfl,_,rfl,z,r,rfl,rfl,rfl,by omega,_,rfl,_,rfl,_,_,rfl,rfl,_,rfl,z,r+1,rfl,rfl,rfl,by omega,_,_,rfl,rfl,?_,?_⟩
    · have:=sub_tail z (r+1)
      omega
    · refine k _ _ (asc_cat (sub_asc ja _ _) (sub_asc ja _ _)) ?_ D6 b6
      rw [Str.length_append]
      have:=sub_tail z (r+1)
      omega
  · refine ifF (by simpa using w8) ?_
    exact ⟨_,rfl,k _ _ ja (by omega) D6 b6⟩
end
end Cm
namespace Cm
open PySem L2 PySem.W
section
variable {P:Program} {w:World} {K:PySem.W.Frag} {mg:Str→Option Value} {base:Heap}
def spBe (K:Frag):Sp:=fun vs H Q _=>∃ (p dc:Addr) (x:Str),vs=[.ref p,.str x]∧Dr H p dc∧Asc x∧x.length≤13000∧∀ y H',Asc y→y.length≤2*x.length+60→Dr H' p dc→But p H H'→Q (.str y) H'
structure PAq (X:Cx) (es:List Expr) (t:TA):Prop where
  out:PA X es t
structure PEq (X:Cx) (e:Expr) (t:TE):Prop where
  out:PE X e t
structure PSq (X:Cx) (st:Stmt) (t:TS):Prop where
  out:PS X st t
structure PSsq (X:Cx) (ss:List Stmt) (t:TS):Prop where
  out:PSs X ss t
theorem psq_of {X:Cx} {st:Stmt} {t:TS} (h:PS X st t):PSq X st t:=⟨h⟩
theorem pssq_of {X:Cx} {ss:List Stmt} {t:TS} (h:PSs X ss t):PSsq X ss t:=⟨h⟩
theorem pssq_cons {X:Cx} {st:Stmt} {ss:List Stmt} {t u:TS} (h1:PSq X st t) (h2:PSsq X ss u):PSsq X (st::ss) (tSeq t u):=⟨pss_cons h1.out h2.out⟩
theorem peq_lst {X:Cx} {es:List Expr} {t:TA} {pos:Pos} (h:PAq X es t):PEq X (.List es pos) (tLst t):=⟨pe_lst h.out⟩
theorem psq_set {X:Cx} {pos:Pos} {i:Nat} {x:Str} {e:Expr} {te:TE} {pos':Pos} (hN:X.N.Nodup) (hi:X.N[i]?=some x) (hx:Loc X.env.scope x) (he:PEq X e te) (hs:swapsWith e (some (.Name x pos')) pos.line X.env=pure false:=by rfl)
    (hf:X.fn x=true∨X.env.scope.names.lookup x=some .local:=by first|exact .inl rfl|exact .inr rfl|assumption):PSq X (.Assign [.Name x pos'] e pos) (tAsg te (gName i)):=⟨ps_set hN hi hx he.out hs hf⟩
theorem paq_nil {X:Cx}:PAq X [] tNil:=⟨pa_nil⟩
theorem paq_cons {X:Cx} {e:Expr} {es:List Expr} {te:TE} {t:TA} (ha:PE X e te) (hr:PAq X es t) (hs:starEach (e::es) X.env=(false,eval e X.env)::starEach es X.env:=by rfl):PAq X (e::es) (tCons te t):=⟨pa_cons ha hr.out hs⟩
noncomputable def bitsL:List Str:=["0","1","01","-0","-3","","lost","event","ab","Ab",Txt.mul "9" 30,Txt.mul "9" 31," "]
theorem bits_ok:∀ y∈bitsL,Asc y∧y.length≤31:=by
  have h:(bitsL.all fun y=>(y.cps.all (·<128)) && decide (y.length≤31))=true:=by decide +kernel
  intro y m
  have:=List.all_eq_true.mp h y m
  rw [Bool.and_eq_true,decide_eq_true_eq] at this
  exact this
theorem cut_pre {xs:List V} {a:Nat} (h:a≤xs.length):cutV xs none (some (a:Int))=xs.take a:=by
  show (xs.drop (HT.sIx _ 0 none)).take (HT.sIx _ _ (some (a:Int))-HT.sIx _ 0 none)=_
  rw [HT.sIx_none,HT.sIx_nat,List.drop_zero,Nat.sub_zero]
  congr 1
  omega
theorem er_map:∀ (ys:List Str) (k:Nat),(ys.map V.str).eraseIdx k=(ys.eraseIdx k).map V.str
  |[],k=>by rw [List.map_nil,List.eraseIdx_nil,List.eraseIdx_nil];rfl
  |y::ys,0=>rfl
  |y::ys,k+1=>by rw [List.map_cons,List.eraseIdx_cons_succ,List.eraseIdx_cons_succ,List.map_cons,er_map ys k]
theorem mul_ok30:MulOk "9" 30:=⟨by decide,by decide +kernel,by decide +kernel⟩
theorem mul_ok31:MulOk "9" 31:=⟨by decide,by decide +kernel,by decide +kernel⟩
theorem ok_be {f fP fO:Addr} {fd fdP fdO:FuncData} (F:Fun K "_law_bent_dump" "_law_bent_dump" (top 33) f fd) (T:Txt K mg) (DP:Def K mg "_law_pick" (top 20) ["_law_d","_law_many"] fP fdP) (DO:Def K mg "_law_of" (top 21) ["_law_d","_law_things"] fO fdO):FnOk P w K mg base CX0 3 f fd ["_law_d","_law_text"] (spBe K):=by
  have GP:FnOk P w K mg base CX0 1 fP fdP ["_law_d","_law_many"] spPick:=ok_pick DP.F T
  have GO:FnOk P w K mg base CX0 2 fO fdO ["_law_d","_law_things"] (spOf K):=ok_of DO.F T DP
  refine F.ok scBe (fun vs H Q E h=>?_) (fun cdv A outer s H vs Q E hr h=>?_)
  · obtain ⟨p,dc,x,rfl,_⟩:=h
    rfl
  · obtain ⟨p,dc,x,rfl,D,as,xl,k⟩:=h
    have hr1:Room 1 _:=hr.mono (by decide)
    obtain ⟨tT,hT,useT⟩:=bd_tail (P:=P) (w:=w) (base:=base) (f:=f) (cdv:=cdv) (A:=A) (outer:=outer) (s:=s) (H:=H) (E:=E) T DP DO hr
    refine ⟨_,(PSsq.out (pssq_cons (psq_of (ps_set (i:=2) scBe.nd rfl (Or.inl rfl) (pe_bm PySem.F.plainAttrs_str PySem.F.slot_str_split PySem.F.type_str_split mt_split (pv 1) (pa_cons pe_str pa_nil))))
  (pssq_cons (psq_of (ps_par (i:=3) (j:=4) rfl scBe.nd rfl rfl (by decide) rfl rfl (pa_cons (pe_call GP hr1 rfl DP.mg DP.F.kp DP.b .nil pass0 (pa_cons (pv 0) (pa_cons (pe_callB call_len_seq (by rfl) T.len bt_len (pa_cons (pv 2) pa_nil)) pa_nil))) (pa_cons (pe_call GP hr1 rfl DP.mg DP.F.kp DP.b .nil pass0 (pa_cons (pv 0) (pa_cons (pe_callB call_len_seq (by rfl) T.len bt_len (pa_cons (pv 2) pa_nil)) pa_nil))) pa_nil)) rfl))
  (pssq_cons (psq_of (ps_set (i:=5) scBe.nd rfl (Or.inl rfl) (pe_bm PySem.F.plainAttrs_str PySem.F.slot_str_split PySem.F.type_str_split mt_split (pe_ix ix_list (pv 2) (pv 3) (fun _ _=>rfl)) (pa_cons pe_str pa_nil))))
  (pssq_cons (psq_of (ps_set (i:=6) scBe.nd rfl (Or.inl rfl) (pe_call GP hr1 rfl DP.mg DP.F.kp DP.b .nil pass0 (pa_cons (pv 0) (pa_cons (pe_callB call_len_seq (by rfl) T.len bt_len (pa_cons (pv 5) pa_nil)) pa_nil)))))
  (pssq_cons (psq_set (i:=7) scBe.nd rfl (Or.inl rfl) (peq_lst (paq_cons pe_str (paq_cons pe_str (paq_cons pe_str (paq_cons pe_str (paq_cons pe_str (paq_cons pe_str (paq_cons pe_str (paq_cons pe_str (paq_cons pe_str (paq_cons pe_str (paq_cons (pe_op op_mul_str pe_str pe_int) (paq_cons (pe_op op_mul_str pe_str pe_int) (paq_cons pe_str paq_nil)))))))))))))))
  (pssq_cons (psq_of (ps_set (i:=8) scBe.nd rfl (Or.inl rfl) (pe_call GP hr1 rfl DP.mg DP.F.kp DP.b .nil pass0 (pa_cons (pv 0) (pa_cons pe_int pa_nil)))))
  (pssq_cons (psq_of (ps_if (pt_cmpR op_lt (pv 8) pe_int (nomark _)) (pss_cons (ps_set (i:=9) scBe.nd rfl (Or.inl rfl) (pe_ix ix_list (pe_lst (pa_cons (pe_lst (pa_cons (pe_call GO hr rfl DO.mg DO.F.kp DO.b .nil pass0 (pa_cons (pv 0) (pa_cons (pv 7) pa_nil))) pa_nil)) (pa_cons (pe_lst (pa_cons (pe_ix ix_list (pv 5) (pv 6) (fun _ _=>rfl)) (pa_cons (pe_ix ix_list (pv 5) (pv 6) (fun _ _=>rfl)) pa_nil))) (pa_cons (pe_lst pa_nil) pa_nil)))) (pv 8) (fun _ _=>rfl))) (pss_one (ps_asg (pe_bm PySem.F.plainAttrs_str PySem.F.slot_str_join PySem.F.type_str_join mt_join pe_str (pa_cons (pe_op op_cat (pe_op op_cat (pe_slice sl_list (pv 5) po_none (po_some (pv 6))) (pv 9)) (pe_slice sl_list (pv 5) (po_some (pe_op op_add (pv 6) pe_int)) po_none)) pa_nil)) (pg_sub (pv 2) (pv 3) set_list)))) pss_nil))
  (pssq_cons (psq_of (ps_if (pt_cmpR op_eq (pv 8) pe_int (nomark _)) (pss_one (ps_expr (pe_bm PySem.F.plainAttrs_list PySem.F.slot_list_pop PySem.F.type_list_pop mt_popAt (pv 2) (pa_cons (pv 3) pa_nil)))) pss_nil))
  (pssq_cons (psq_of (ps_if (pt_cmpR op_eq (pv 8) pe_int (nomark _)) (pss_one (ps_expr (pe_bm PySem.F.plainAttrs_list PySem.F.slot_list_insert PySem.F.type_list_insert mt_insert (pv 2) (pa_cons (pv 4) (pa_cons (pe_ix ix_list (pv 2) (pv 3) (fun _ _=>rfl)) pa_nil))))) pss_nil))
  (pssq_cons (psq_of (ps_if (pt_cmpR op_eq (pv 8) pe_int (nomark _)) (pss_one (ps_asg (pe_tup (pa_cons (pe_ix ix_list (pv 2) (pv 4) (fun _ _=>rfl)) (pa_cons (pe_ix ix_list (pv 2) (pv 3) (fun _ _=>rfl)) pa_nil))) (pg_tup rfl (pgs_cons (pg_sub (pv 2) (pv 3) set_list) (pgs_cons (pg_sub (pv 2) (pv 4) set_list) pgs_nil))))) pss_nil))
  (pssq_of hT)))))))))))),?_⟩
    have big:300000≤sizeLine:=by decide
    have W:=words_c 10 as (by omega)
    have ne:=split_ne x 10
    have wx:=wt_split x 10
    rw [← c_line] at W ne wx
    refine ⟨_,rfl,rfl,x,"\n",rfl,rfl,by decide +kernel,by omega,fun l hl=>?_⟩
    generalize Txt.split x "\n" = ws at W ne wx ⊢
    have D1:=D.new (o:=.lst (ws.map V.str)) hl
    have npl:l≠p:=(D.neN hl).symm
    have nld:l≠dc:=by
      obtain ⟨zs,e⟩:=D.cell
      exact (ne_of_none e hl).symm
    have b1:But p H (upd H l (.lst (ws.map V.str))):=But.new hl
    have h1:(upd H l (.lst (ws.map V.str))) l=some (.lst (ws.map V.str)):=upd_same
    generalize upd H l (.lst (ws.map V.str))=H1 at D1 b1 h1 ⊢
    have wl:(ws.map V.str).length=ws.length:=List.length_map ..
    have w0:0<ws.length:=by cases ws with|nil=>exact absurd rfl ne|cons _ _=>simp
    have w5:=W.ln
    refine ⟨_,rfl,_,rfl,l,_,rfl,.inl (SqL.of h1),p,dc,_,rfl,D1,by rw [wl];omega,by rw [wl];omega,fun a H2 a0 a1 D2 t2=>?_⟩
    have h2:=t2 _ _ h1 npl
    refine ⟨_,rfl,_,rfl,l,_,rfl,.inl (SqL.of h2),p,dc,_,rfl,D2,by rw [wl];omega,by rw [wl];omega,fun b H3 c0 c1 D3 t3=>⟨_,_,rfl,?_⟩⟩
    have h3:=t3 _ _ h2 npl
    have b3:=(b1.trans t2).trans t3
    obtain ⟨a,rfl⟩:=Int.eq_ofNat_of_zero_le a0
    obtain ⟨b,rfl⟩:=Int.eq_ofNat_of_zero_le c0
    rw [wl] at a1 c1
    have al:a<ws.length:=by omega
    have bl:b<ws.length:=by omega
    obtain ⟨row,hrow⟩:∃ row,ws[a]?=some row:=⟨_,List.getElem?_eq_getElem al⟩
    obtain ⟨row2,hrow2⟩:∃ row,ws[b]?=some row:=⟨_,List.getElem?_eq_getElem bl⟩
    have mr:=List.mem_of_getElem? hrow
    have mr2:=List.mem_of_getElem? hrow2
    have hv:(ws.map V.str)[a]?=some (V.str row):=by rw [List.getElem?_map,hrow];rfl
    have hv2:(ws.map V.str)[b]?=some (V.str row2):=by rw [List.getElem?_map,hrow2];rfl
    have aw:AscL ws:=W.as
    have rwt:=wt_mem mr
    have rwt2:=wt_mem mr2
    refine ⟨_,rfl,_,rfl,l,_,_,_,rfl,rfl,SqL.of h3,atI_nat (j:=a) hv,rfl,row," ",rfl,rfl,by decide +kernel,by omega,fun q hq=>?_⟩
    have Vz:=words_of (W.as row mr) (by omega)
    have nz:=split_ne row 32
    have wr:=wt_split row 32
    rw [← c_space] at nz wr
    generalize Txt.split row " " = zs at Vz nz wr ⊢
    have D4:=D3.new (o:=.lst (zs.map V.str)) hq
    have npq:q≠p:=(D3.neN hq).symm
    have h4:=Same.new (o:=.lst (zs.map V.str)) hq _ _ h3
    have g4:(upd H3 q (.lst (zs.map V.str))) q=some (.lst (zs.map V.str)):=upd_same
    have b4:But p H (upd H3 q (.lst (zs.map V.str))):=b3.trans (But.new hq)
    generalize upd H3 q (.lst (zs.map V.str))=H4 at D4 h4 g4 b4 ⊢
    have zl:(zs.map V.str).length=zs.length:=List.length_map ..
    have z0:0<zs.length:=by cases zs with|nil=>exact absurd rfl nz|cons _ _=>simp
    have z5:=Vz.ln
    refine ⟨_,rfl,_,rfl,q,_,rfl,.inl (SqL.of g4),p,dc,_,rfl,D4,by rw [zl];omega,by rw [zl];omega,fun o H5 o0 o1 D5 t5=>?_⟩
    obtain ⟨o,rfl⟩:=Int.eq_ofNat_of_zero_le o0
    rw [zl] at o1
    have ol:o<zs.length:=by omega
    have h5:=t5 _ _ h4 npl
    have g5:=t5 _ _ g4 npq
    have b5:=b4.trans t5
    refine ⟨_,_,rfl,rfl,mul_ok30,_,_,rfl,rfl,mul_ok31,(show 13≤sizeLine by decide),fun m hm=>?_⟩
    have npm:m≠p:=(D5.neN hm).symm
    generalize hH:upd H5 m _=H6
    have S6:Same H5 H6:=by rw [← hH];exact Same.new hm
    have b56:But p H5 H6:=by rw [← hH];exact But.new hm
    have m6:H6 m=some (.lst (bitsL.map V.str)):=by rw [← hH];exact upd_same
    have D6:=D5.mono S6
    clear hH
    refine ⟨_,rfl,p,dc,_,rfl,D6,by decide,by decide,fun wy H7 v0 v1 D7 t7=>?_⟩
    have h7:=t7 _ _ (S6 _ _ h5) npl
    have g7:=t7 _ _ (S6 _ _ g5) npq
    have m7:=t7 _ _ m6 npm
    have b7:=(b5.trans b56).trans t7
    have fin:∀ (ys:List Str) (H8:Hp) (u9:Option V),H8 l=some (.lst (ys.map V.str))→AscL ys→wt ys≤2*x.length+50→Dr H8 p dc→But p H H8→tT { nx:=fun _ H'=>Q .non H',rt:=Q } [some (.ref p),some (.str x),some (.ref l),some (.int a),some (.int b),some (.ref q),some (.int o),some (.ref m),some (.int wy),u9,none] H8:=
      fun ys H8 u9 e ay w8 D8 b8=>useT p dc l ys wy _ _ _ _ _ _ _ H8 Q _ e ay (by omega) D8 fun y H' ya yl D' b'=>k y H' ya (by omega) D' (b8.trans b')
    have put:∀ {H8:Hp} {ys:List Str} {u9:Option V},H8 l=some (.lst (ws.map V.str))→AscL ys→wt ys≤2*x.length+50→Dr H8 p dc→But p H H8→tT { nx:=fun _ H'=>Q .non H',rt:=Q } [some (.ref p),some (.str x),some (.ref l),some (.int a),some (.int b),some (.ref q),some (.int o),some (.ref m),some (.int wy),u9,none] (upd H8 l (.lst (ys.map V.str))):=
      fun {H8 ys u9} e ay w8 D8 b8=>fin ys _ u9 upd_same ay w8 (D8.put npl nld) fun c o e' hc=>by rw [upd_ne (ne_of_none e' hl)];exact b8 c o e' hc
    refine ⟨_,rfl,_,_,rfl,rfl,_,rfl,?_⟩
    by_cases hw:wy<3
    · refine ifT (by simpa using hw) ?_
      obtain ⟨wd,hwd⟩:∃ wd,zs[o]?=some wd:=⟨_,List.getElem?_eq_getElem ol⟩
      have mw:=List.mem_of_getElem? hwd
      have hu:(zs.map V.str)[o]?=some (V.str wd):=by rw [List.getElem?_map,hwd];rfl
      refine ⟨_,rfl,_,rfl,p,dc,m,_,rfl,D7,SqL.of m7,by simp [bitsL],by rw [List.length_map];decide,fun y H8 hy D8 t8=>?_⟩
      have h8:=t8 _ _ h7 npl
      have g8:=t8 _ _ g7 npq
      have b8:=b7.trans t8
      obtain ⟨yw,rfl,ya,yl⟩:∃ yw:Str,y=.str yw∧Asc yw∧yw.length≤31:=by
        obtain ⟨yw,myw,rfl⟩:=List.mem_map.mp hy
        exact ⟨yw,rfl,bits_ok yw myw⟩
      refine ⟨(show 1≤sizeLine by decide),fun l1 hl1=>?_⟩
      have s9:Same H8 (upd H8 l1 (.lst [.str yw])):=Same.new hl1
      have e9:(upd H8 l1 (.lst [.str yw])) l1=some (.lst ([yw].map V.str)):=upd_same
      generalize upd H8 l1 (.lst [.str yw])=H9 at s9 e9 ⊢
      have g9:=s9 _ _ g8
      refine ⟨_,rfl,_,rfl,q,_,_,_,rfl,rfl,SqL.of g9,atI_nat (j:=o) hu,_,rfl,_,rfl,q,_,_,_,rfl,rfl,SqL.of g9,atI_nat (j:=o) hu,(show 2≤sizeLine by decide),fun l2 hl2=>?_⟩
      have s10:Same H9 (upd H9 l2 (.lst [.str wd,.str wd])):=Same.new hl2
      have e10:(upd H9 l2 (.lst [.str wd,.str wd])) l2=some (.lst ([wd,wd].map V.str)):=upd_same
      generalize upd H9 l2 (.lst [.str wd,.str wd])=H10 at s10 e10 ⊢
      refine ⟨(show 0≤sizeLine by decide),fun l3 hl3=>?_⟩
      have s11:Same H10 (upd H10 l3 (.lst [])):=Same.new hl3
      have e11:(upd H10 l3 (.lst [])) l3=some (.lst (([]:List Str).map V.str)):=upd_same
      generalize upd H10 l3 (.lst [])=H11 at s11 e11 ⊢
      refine ⟨(show 3≤sizeLine by decide),fun l4 hl4=>?_⟩
      have s12:Same H11 (upd H11 l4 (.lst [.ref l1,.ref l2,.ref l3])):=Same.new hl4
      have e12:(upd H11 l4 (.lst [.ref l1,.ref l2,.ref l3])) l4=some (.lst [.ref l1,.ref l2,.ref l3]):=upd_same
      generalize upd H11 l4 (.lst [.ref l1,.ref l2,.ref l3])=H12 at s12 e12 ⊢
      have S12:Same H8 H12:=s9.trans (s10.trans (s11.trans s12))
      obtain ⟨wn,rfl⟩:=Int.eq_ofNat_of_zero_le v0
      have awd:Asc wd:=Vz.as wd mw
      obtain ⟨lm,ms,hlm,am,wm,hix⟩:∃ (lm:Addr) (ms:List Str),H12 lm=some (.lst (ms.map V.str))∧AscL ms∧wt ms≤2*(wd.length+1)+32∧([V.ref l1,V.ref l2,V.ref l3]:List V)[wn]?=some (.ref lm):=by
        match wn,hw with
        |0,_=>exact ⟨l1,[yw],s12 _ _ (s11 _ _ (s10 _ _ e9)),fun y m=>by rw [List.mem_singleton.mp m];exact ya,by rw [wt_cons,wt_nil];omega,rfl⟩
        |1,_=>exact ⟨l2,[wd,wd],s12 _ _ (s11 _ _ e10),fun y m=>by (simp at m;rw [m];exact awd),by rw [wt_cons,wt_cons,wt_nil];omega,rfl⟩
        |2,_=>exact ⟨l3,[],s12 _ _ e11,(fun y m=>by cases m),Nat.zero_le _,rfl⟩
        |n+3,h=>omega
      refine ⟨_,rfl,l4,_,_,_,rfl,rfl,SqL.of e12,atI_nat (j:=wn) hix,?_⟩
      have h12:=S12 _ _ h8
      have g12:=S12 _ _ g8
      have D12:=D8.mono S12
      have zc:wt (zs.take o)+wt (zs.drop (o+1))+wd.length+1=wt zs:=by
        have c1:=wt_cut zs o
        rw [List.drop_eq_getElem_cons ol,wt_cons] at c1
        rw [List.getElem?_eq_getElem ol] at hwd
        injection hwd with hwd
        rw [hwd] at c1
        omega
      have mwd:=wt_mem mw
      have mlen:ms.length≤wt ms:=Nat.le_add_left _ _
      refine ⟨rfl,_,rfl,_,rfl,_,rfl,q,_,rfl,SqL.of g12,fun k1 hk1=>?_⟩
      rw [cut_pre (show o≤(zs.map V.str).length by rw [zl];omega),← List.map_take]
      have s13:Same H12 (upd H12 k1 (.lst ((zs.take o).map V.str))):=Same.new hk1
      have e13:(upd H12 k1 (.lst ((zs.take o).map V.str))) k1=some (.lst ((zs.take o).map V.str)):=upd_same
      generalize upd H12 k1 (.lst ((zs.take o).map V.str))=H13 at s13 e13 ⊢
      refine ⟨_,rfl,k1,lm,_,_,rfl,rfl,e13,s13 _ _ hlm,by (simp;omega),fun k2 hk2=>?_⟩
      rw [← List.map_append]
      have s14:Same H13 (upd H13 k2 (.lst ((zs.take o++ms).map V.str))):=Same.new hk2
      have e14:(upd H13 k2 (.lst ((zs.take o++ms).map V.str))) k2=some (.lst ((zs.take o++ms).map V.str)):=upd_same
      generalize upd H13 k2 (.lst ((zs.take o++ms).map V.str))=H14 at s14 e14 ⊢
      refine ⟨_,rfl,_,rfl,_,_,rfl,rfl,_,rfl,q,_,rfl,SqL.of (s14 _ _ (s13 _ _ g12)),fun k3 hk3=>?_⟩
      rw [show ((o:Int)+1)=((o+1:Nat):Int) from rfl,cut_drop _ (o+1) (by rw [zl];omega),← List.map_drop]
      have s15:Same H14 (upd H14 k3 (.lst ((zs.drop (o+1)).map V.str))):=Same.new hk3
      have e15:(upd H14 k3 (.lst ((zs.drop (o+1)).map V.str))) k3=some (.lst ((zs.drop (o+1)).map V.str)):=upd_same
      generalize upd H14 k3 (.lst ((zs.drop (o+1)).map V.str))=H15 at s15 e15 ⊢
      refine ⟨k2,k3,_,_,rfl,rfl,s15 _ _ e14,e15,by (simp;omega),fun k4 hk4=>?_⟩
      rw [← List.map_append]
      have s16:Same H15 (upd H15 k4 (.lst ((zs.take o++ms++zs.drop (o+1)).map V.str))):=Same.new hk4
      have e16:(upd H15 k4 (.lst ((zs.take o++ms++zs.drop (o+1)).map V.str))) k4=some (.lst ((zs.take o++ms++zs.drop (o+1)).map V.str)):=upd_same
      generalize upd H15 k4 (.lst ((zs.take o++ms++zs.drop (o+1)).map V.str))=H16 at s16 e16 ⊢
      have az:AscL zs:=Vz.as
      have an:AscL (zs.take o++ms++zs.drop (o+1)):=(az.take.app am).app az.drop
      have wn':wt (zs.take o++ms++zs.drop (o+1))=wt (zs.take o)+wt ms+wt (zs.drop (o+1)):=by rw [wt_app,wt_app]
      have jw:=join_wt 32 (zs.take o++ms++zs.drop (o+1))
      have ja:=asc_join (c:=32) (by decide) an
      rw [← c_space] at jw ja
      have c1:((" " : Str)).length=1:=by decide +kernel
      have wdef:((zs.take o++ms++zs.drop (o+1)).map (·.length)).sum+(zs.take o++ms++zs.drop (o+1)).length=wt (zs.take o++ms++zs.drop (o+1)):=rfl
      refine ⟨" ",k4,zs.take o++ms++zs.drop (o+1),rfl,rfl,SqL.of e16,by rw [c1];omega,?_⟩
      generalize Txt.join " " (zs.take o++ms++zs.drop (o+1))=jt at jw ja ⊢
      have S16:Same H12 H16:=s13.trans (s14.trans (s15.trans s16))
      have h16:=S16 _ _ h12
      have D16:=D12.mono S16
      have b16:But p H H16:=b8.trans fun c u e hc=>S16 _ _ (S12 _ _ e)
      refine ⟨_,rfl,_,rfl,l,_,_,a,rfl,rfl,h16,?_,?_⟩
      · unfold ixN
        rw [wl]
        simp
        omega
      have w3:¬ ((wn:Int)=3):=by omega
      have w4:¬ ((wn:Int)=4):=by omega
      have w6:¬ ((wn:Int)=5):=by omega
      refine ⟨_,rfl,rfl,_,rfl,ifF (by simpa using w3) ?_⟩
      try dsimp only [tNext]
      refine ⟨_,rfl,rfl,_,rfl,ifF (by simpa using w4) ?_⟩
      try dsimp only [tNext]
      refine ⟨_,rfl,rfl,_,rfl,ifF (by simpa using w6) ?_⟩
      try dsimp only [tNext]
      have ws':=wt_set (v:=jt) hrow
      rw [show (ws.map V.str).set a (V.str jt)=(ws.set a jt).map V.str from by rw [List.map_set]]
      exact put h16 (aw.set ja) (by omega) D16 b16
    refine ifF (by simpa using hw) ?_
    try dsimp only [tNext]
    refine ⟨_,rfl,rfl,_,rfl,?_⟩
    by_cases w3:wy=3
    · refine ifT (by simp [w3]) ?_
      refine ⟨_,rfl,.inl ⟨rfl,_,SqL.of h7⟩,_,rfl,l,_,_,a,V.str row,rfl,rfl,h7,by omega,by omega,?_,hv,?_⟩
      · unfold seqIndex?
        rw [wl]
        simp
        omega
      refine ⟨_,rfl,rfl,_,rfl,ifF (by simp [w3]) ?_⟩
      try dsimp only [tNext]
      refine ⟨_,rfl,rfl,_,rfl,ifF (by simp [w3]) ?_⟩
      try dsimp only [tNext]
      rw [er_map]
      have:=wt_erase ws a
      exact put h7 aw.erase (by omega) D7 b7
    refine ifF (by simpa using w3) ?_
    try dsimp only [tNext]
    refine ⟨_,rfl,rfl,_,rfl,?_⟩
    by_cases w4:wy=4
    · refine ifT (by simp [w4]) ?_
      refine ⟨_,rfl,.inl ⟨rfl,_,SqL.of h7⟩,_,rfl,_,rfl,_,rfl,l,_,_,_,rfl,rfl,SqL.of h7,atI_nat (j:=a) hv,l,_,b,_,rfl,rfl,h7,by rw [wl];omega,by rw [wl];omega,?_⟩
      refine ⟨_,rfl,rfl,_,rfl,ifF (by simp [w4]) ?_⟩
      try dsimp only [tNext]
      have e:(ws.map V.str).take b++V.str row::(ws.map V.str).drop b=(ws.take b++row::ws.drop b).map V.str:=by rw [List.map_append,List.map_cons,List.map_take,List.map_drop]
      rw [e]
      exact put h7 (aw.ins (aw row mr)) (by rw [wt_ins];omega) D7 b7
    refine ifF (by simpa using w4) ?_
    try dsimp only [tNext]
    refine ⟨_,rfl,rfl,_,rfl,?_⟩
    by_cases w5':wy=5
    · refine ifT (by simp [w5']) ?_
      refine ⟨_,rfl,_,rfl,l,_,_,_,rfl,rfl,SqL.of h7,atI_nat (j:=b) hv2,_,rfl,_,rfl,l,_,_,_,rfl,rfl,SqL.of h7,atI_nat (j:=a) hv,(show 2≤sizeLine by decide),fun tp htp=>?_⟩
      have s8:Same H7 (upd H7 tp (.tup [.str row2,.str row])):=Same.new htp
      have h8:=s8 _ _ h7
      have b8:But p H (upd H7 tp (.tup [.str row2,.str row])):=b7.trans (But.new htp)
      have D8:=D7.mono s8
      refine ⟨tp,_,rfl,SqT.of upd_same,rfl,_,_,rfl,_,rfl,_,rfl,l,_,_,a,rfl,rfl,h8,?_,?_⟩
      · unfold ixN
        rw [wl]
        simp
        omega
      generalize upd H7 tp (.tup [.str row2,.str row])=H8 at h8 b8 D8 ⊢
      refine ⟨_,_,rfl,_,rfl,_,rfl,l,_,_,b,rfl,rfl,upd_same,?_,?_⟩
      · unfold ixN
        rw [List.length_set,wl]
        simp
        omega
      rw [upd_twice]
      have e:((ws.map V.str).set a (V.str row2)).set b (V.str row)=((ws.set a row2).set b row).map V.str:=by rw [List.map_set,List.map_set]
      rw [e]
      exact ⟨rfl,put h8 ((aw.set (aw row2 mr2)).set (aw row mr)) (by rw [wt_swap hrow hrow2];omega) D8 b8⟩
    refine ifF (by simpa using w5') ?_
    exact fin ws H7 _ h7 aw (by omega) D7 b7
end
end Cm
namespace Cm
open PySem L2 PySem.W
theorem asc_num (i:Int):Asc (numT i):=by
  rw [asc_iff]
  obtain ⟨ds,h1,_,_,h2,_⟩:=num_parts i
  intro c hc
  rcases h2 with h|h
  · rw [h] at hc
    have:=h1 c hc;omega
  · rw [h] at hc
    rcases List.mem_cons.mp hc with rfl|hc
    · omega
    · have:=h1 c hc;omega
theorem asc_nm {x:Str} (h:Nm x):Asc x:=by
  rw [asc_iff]
  intro c hc
  have:=h.lc c hc
  omega
theorem asc_words {th:Th} (h:ThOk th):AscL (wordsT th):=by
  have a1:Asc ("lost" : Str):=by unfold Asc;decide +kernel
  have a2:Asc ("event" : Str):=by unfold Asc;decide +kernel
  cases th with
  | lost n=>
    intro x hx
    simp [wordsT] at hx
    rcases hx with rfl|rfl
    · exact a1
    · exact asc_num n
  | ev p t k us=>
    intro x hx
    simp [wordsT] at hx
    rcases hx with rfl|rfl|rfl|rfl|⟨u,_,rfl⟩
    · exact a2
    · exact asc_num p
    · exact asc_num t
    · exact asc_nm h.2.2.1
    · exact asc_num u
theorem asc_row {th:Th} (h:ThOk th):Asc (rowT th):=by
  have e:=asc_join (c:=32) (by decide) (asc_words h)
  rw [← c_space,show Txt.join " " (wordsT th)=Str.join " " (wordsT th) from StrLaws.glued_eq_join _ _] at e
  exact e
theorem asc_dump:∀ {ths:List Th},(∀ th∈ths,ThOk th)→Asc (dumpT ths)
  |[],_=>by unfold Asc;decide +kernel
  | th::r,h=>by
    rw [dump_cons]
    exact asc_cat (asc_cat (asc_row (h th (List.mem_cons_self ..))) (by unfold Asc;decide +kernel)) (asc_dump fun t m=>h t (List.mem_cons_of_mem _ m))
theorem read_mem:∀ {rows:List Str} {pl:Int} {tm:Option Int} {th:Th},th∈readR pl tm rows→∃ x∈rows,thO (Txt.split x " ")=some th
  |[],_,_,_,h=>by cases h
  | x::r,pl,tm,th,h=>by
    cases ho:thO (Txt.split x " ") with
    |none=>rw [read_stop ho] at h;cases h
    | some t=>
      cases hg:goesB t pl tm with
      |false=>rw [read_bad ho hg] at h;cases h
      | true=>
        rw [read_more ho hg] at h
        rcases List.mem_cons.mp h with rfl|h
        · exact ⟨x,List.mem_cons_self ..,ho⟩
        · obtain ⟨y,m,e⟩:=read_mem h
          exact ⟨y,List.mem_cons_of_mem _ m,e⟩
theorem read_len:∀ (rows:List Str) (pl:Int) (tm:Option Int),(readR pl tm rows).length≤rows.length
  |[],_,_=>Nat.le_refl _
  | x::r,pl,tm=>by
    cases ho:thO (Txt.split x " ") with
    |none=>rw [read_stop ho];exact Nat.zero_le _
    | some th=>
      cases hg:goesB th pl tm with
      |false=>rw [read_bad ho hg];exact Nat.zero_le _
      |true=>rw [read_more ho hg];exact Nat.succ_le_succ (read_len r _ _)
theorem max_ints:∀ us:List Int,pdMaxs (us.map PyData.int)=0
  |[]=>rfl
  |u::r=>by simp only [List.map_cons,pdMaxs,pdMax];rw [max_ints r];rfl
theorem dep_ints:∀ us:List Int,pdDeps (us.map PyData.int)=0
  |[]=>rfl
  |u::r=>by simp only [List.map_cons,pdDeps,pdDep];rw [dep_ints r];rfl
theorem th_depA (th:Th):pdDep (thD th)≤2:=by
  cases th with
  |lost n=>simp [thD,pdDep,pdDeps]
  | ev p t k us=>
    simp only [thD,pdDep,pdDeps]
    rw [dep_ints]
    decide
theorem th_maxA {ws:List Str} {th:Th} (h:thO ws=some th) (hl:ws.length≤50001):pdMax (thD th)≤50001:=by
  cases th with
  |lost n=>simp [thD,pdMax,pdMaxs]
  | ev p t k us=>
    have ul:us.length≤ws.length:=by
      cases ws with
      |nil=>cases h
      | cons w0 r=>
        change (if w0 = "lost" then lostO r else if w0 = "event" then evO r else none)=_ at h
        split at h
        · unfold lostO at h
          split at h
          · split at h
            · split at h
              · cases h
              · cases h
            · cases h
          · cases h
        · split at h
          · unfold evO at h
            split at h
            · split at h
              · injection h with h
                injection h with _ _ _ h
                rw [← h,List.length_map,List.length_cons,List.length_cons,List.length_cons,List.length_cons]
                omega
              · cases h
            · cases h
          · cases h
    simp only [thD,pdMax,pdMaxs,List.length_cons,List.length_nil,List.length_map]
    rw [max_ints]
    omega
theorem ths_depA:∀ ths:List Th,pdDeps (ths.map thD)≤2
  |[]=>by simp [pdDeps]
  | th::r=>by
    have h1:=th_depA th
    have h2:=ths_depA r
    simp only [List.map_cons,pdDeps]
    omega
theorem ths_maxA:∀ ths:List Th,(∀ th∈ths,pdMax (thD th)≤50001)→pdMaxs (ths.map thD)≤50001
  |[],_=>by simp [pdMaxs]
  | th::r,h=>by
    have h1:=h th (List.mem_cons_self ..)
    have h2:=ths_maxA r fun t m=>h t (List.mem_cons_of_mem _ m)
    simp only [List.map_cons,pdMaxs]
    omega
theorem told_dep {x:Str} (as:Asc x) (xl:x.length≤50000):pdDep (.list ((toldW (Txt.split x "\n")).map thD))≤3∧pdMax (.list ((toldW (Txt.split x "\n")).map thD))≤100000:=by
  have W:=words_c 10 as xl
  rw [← c_line] at W
  generalize Txt.split x "\n" = ws at W ⊢
  have h1:=ths_depA (toldW ws)
  have h3:(toldW ws).length≤ws.dropLast.length:=read_len _ _ _
  have h4:=W.ln
  rw [List.length_dropLast] at h3
  have h2:pdMaxs ((toldW ws).map thD)≤50001:=by
    refine ths_maxA _ fun th m=>?_
    obtain ⟨y,my,e⟩:=read_mem m
    have my:=List.dropLast_subset _ my
    exact th_maxA e (words_of (W.as y my) (W.le y my)).ln
  constructor
  · show pdDeps ((toldW ws).map thD)+1≤3
    omega
  · simp only [pdMax,List.length_map]
    omega
theorem wrong_a:wrongW (Txt.split "\n" "\n")=some 0:=by
  have e:Txt.split ("\n" : Str) "\n" = [("" : Str),""]:=by decide +kernel
  have t:Txt.split ("" : Str) " " = [("" : Str)]:=by decide +kernel
  have o:thO (Txt.split ("" : Str) " ")=none:=by
    rw [t]
    show (if ("" : Str) = "lost" then lostO [] else if ("" : Str) = "event" then evO [] else none)=none
    rw [if_neg (by decide +kernel),if_neg (by decide +kernel)]
  have r:toldW [("" : Str),""]=[]:=read_stop o
  rw [e]
  unfold wrongW
  rw [r]
  simp
theorem wrong_b:wrongW (Txt.split "lost 1" "\n")=some 0:=by
  have e:Txt.split ("lost 1" : Str) "\n" = [("lost 1" : Str)]:=by decide +kernel
  have r:toldW [("lost 1" : Str)]=[]:=rfl
  rw [e]
  unfold wrongW
  rw [r]
  have:¬ (("lost 1" : Str) = ""):=by decide +kernel
  simp [this]
theorem wrong_c:wrongW (Txt.split "lost 0\n" "\n")=some 0:=by
  have e:Txt.split ("lost 0\n" : Str) "\n" = [("lost 0" : Str),""]:=by decide +kernel
  have t:Txt.split ("lost 0" : Str) " " = [("lost" : Str),"0"]:=by decide +kernel
  have n0:numO "0" = some 0:=by
    have z:("0" : Str)=numT 0:=by decide +kernel
    rw [z]
    exact numO_of ⟨by decide,by decide⟩
  have o:thO (Txt.split ("lost 0" : Str) " ")=none:=by
    rw [t]
    show (if ("lost" : Str) = "lost" then lostO ["0"] else if ("lost" : Str) = "event" then evO ["0"] else none)=none
    rw [if_pos rfl]
    show (match numO "0" with|some n=>if 1≤n then some (Th.lost n) else none|none=>none)=none
    rw [n0]
    rfl
  have r:toldW [("lost 0" : Str),""]=[]:=read_stop o
  rw [e]
  unfold wrongW
  rw [r]
  simp
section
variable {P:Program} {w:World} {K:PySem.W.Frag} {mg:Str→Option Value} {base:Heap}
def spLaw (K:PySem.W.Frag):Sp:=fun vs H Q _=>∃ (a:Addr) (ns:List Int),vs=[.ref a]∧SqL K H a (ns.map V.int)∧ns.length≤63∧∀ H',Q (.bl true) H'
abbrev NLaw:List Str:=["_law_script","_law_d","_law_whole","_law_turn","_law_text","_law_step","_law_found","_law_wrong"]
theorem scLaw:FnScope NLaw ["_law_script"] (defScope (top 35)):=⟨rfl,rfl,rfl,by decide +kernel,rfl,by decide +kernel,by decide +kernel⟩
theorem ok_law {f fB fP fS fDt fLd fBe fDr fMe fAd:Addr} {fd fdB fdP fdS fdDt fdLd fdBe fdDr fdMe fdAd:FuncData} (F:Fun K "law" "law" (top 35) f fd) (T:Txt K mg)
    (DB:Def K mg "_law_begin" (top 19) ["_law_script"] fB fdB) (DP:Def K mg "_law_pick" (top 20) ["_law_d","_law_many"] fP fdP) (DS:Def K mg "_law_same" (top 23) ["_law_found","_law_due"] fS fdS)
    (DDt:Def K mg "_law_dump_told" (top 30) ["_law_d"] fDt fdDt) (GDt:FnOk P w K mg base CX0 4 fDt fdDt ["_law_d"] (spDt K))
    (DLd:Def K mg "_law_dump" (top 29) ["_law_told"] fLd fdLd) (GLd:FnOk P w K mg base CX0 2 fLd fdLd ["_law_told"] (spDu K))
    (DBe:Def K mg "_law_bent_dump" (top 33) ["_law_d","_law_text"] fBe fdBe) (GBe:FnOk P w K mg base CX0 3 fBe fdBe ["_law_d","_law_text"] (spBe K))
    (DDr:Def K mg "_law_dump_read" (top 32) ["_law_text"] fDr fdDr) (GDr:FnOk P w K mg base CX0 3 fDr fdDr ["_law_text"] (spRsA K))
    (DMe:Def K mg "mended" (top 17) ["text"] fMe fdMe) (GMe:FnOk P w K mg base CX0 5 fMe fdMe ["text"] (spMeA K))
    (DAd:Def K mg "_law_ask_dump" (top 34) ["_law_text"] fAd fdAd) (GAd:FnOk P w K mg base CX0 6 fAd fdAd ["_law_text"] (spAd K)):FnOk P w K mg base CX0 12 f fd ["_law_script"] (spLaw K):=by
  have GB:FnOk P w K mg base CX0 1 fB fdB ["_law_script"] (spBegin K):=ok_begin DB.F T
  have GP:FnOk P w K mg base CX0 1 fP fdP ["_law_d","_law_many"] spPick:=ok_pick DP.F T
  have GS:FnOk P w K mg base CX0 10 fS fdS ["_law_found","_law_due"] (spS K 10):=ok_same DS T 10
  refine F.ok scLaw (fun vs H Q E h=>?_) (fun cdv A outer s H vs Q E hr h=>?_)
  · obtain ⟨a,ns,rfl,_⟩:=h
    rfl
  · obtain ⟨sa,ns,rfl,hS,hlen,k⟩:=h
    have hr1:Room 1 _:=hr.mono (by decide)
    have hr2:Room 2 _:=hr.mono (by decide)
    have hr3:Room 3 _:=hr.mono (by decide)
    have hr4:Room 4 _:=hr.mono (by decide)
    have hr5:Room 5 _:=hr.mono (by decide)
    have hr6:Room 6 _:=hr.mono (by decide)
    have hr10:Room 10 _:=hr.mono (by decide)
    refine ⟨_,(pss_cons
  (ps_set (i:=1) scLaw.nd rfl (Or.inl rfl) (pe_call GB hr1 rfl DB.mg DB.F.kp DB.b .nil pass0 (pa_cons (pv 0) pa_nil)))
  (pss_cons
  (ps_set (i:=2) scLaw.nd rfl (Or.inl rfl) (pe_call GLd hr2 rfl DLd.mg DLd.F.kp DLd.b .nil pass0 (pa_cons (pe_call GDt hr4 rfl DDt.mg DDt.F.kp DDt.b .nil pass0 (pa_cons (pv 1) pa_nil)) pa_nil)))
  (pss_cons
  (ps_for PassesOwn.never rfl (pi_range1 rfl T.range (pa_cons pe_int pa_nil)) (pg_name (i:=3) scLaw.nd rfl (Or.inl rfl)) (pss_cons
  (ps_set (i:=4) scLaw.nd rfl (Or.inl rfl) (pv 2))
  (pss_cons
  (ps_for PassesOwn.never rfl (pi_range1 rfl T.range (pa_cons (pe_op op_add pe_int (pe_call GP hr1 rfl DP.mg DP.F.kp DP.b .nil pass0 (pa_cons (pv 1) (pa_cons pe_int pa_nil)))) pa_nil)) (pg_name (i:=5) scLaw.nd rfl (Or.inl rfl)) (pss_one
  (ps_set (i:=4) scLaw.nd rfl (Or.inl rfl) (pe_call GBe hr3 rfl DBe.mg DBe.F.kp DBe.b .nil pass0 (pa_cons (pv 1) (pa_cons (pv 4) pa_nil))))))
  (pss_cons
  (ps_asg (pe_call GDr hr3 rfl DDr.mg DDr.F.kp DDr.b .nil pass0 (pa_cons (pv 4) pa_nil)) (pg_tup rfl (pgs_cons (pg_name (i:=6) scLaw.nd rfl (Or.inl rfl)) (pgs_cons (pg_name (i:=7) scLaw.nd rfl (Or.inl rfl)) pgs_nil))))
  (pss_cons
  (ps_if (pt_not (pt_val (pe_call GS hr10 rfl DS.mg DS.F.kp DS.b .nil pass0 (pa_cons (pe_call GMe hr5 rfl DMe.mg DMe.F.kp DMe.b .nil pass0 (pa_cons (pv 4) pa_nil)) (pa_cons (pv 6) pa_nil))))) (pss_one ps_never) pss_nil)
  (pss_one
  (ps_if (pt_not (pt_val (pe_call GS hr10 rfl DS.mg DS.F.kp DS.b .nil pass0 (pa_cons (pe_call GAd hr6 rfl DAd.mg DAd.F.kp DAd.b .nil pass0 (pa_cons (pv 4) pa_nil)) (pa_cons (pe_ifExp (pt_cmpR op_isN (pv 7) pe_non (nomark _)) (pv 6) (pv 7)) pa_nil))))) (pss_one ps_never) pss_nil)))))))
  (pss_one
  (ps_ret (pe_call GS hr10 rfl DS.mg DS.F.kp DS.b .nil pass0 (pa_cons (pe_lst (pa_cons (pe_call GAd hr6 rfl DAd.mg DAd.F.kp DAd.b .nil pass0 (pa_cons pe_str pa_nil)) (pa_cons (pe_call GAd hr6 rfl DAd.mg DAd.F.kp DAd.b .nil pass0 (pa_cons pe_str pa_nil)) (pa_cons (pe_call GAd hr6 rfl DAd.mg DAd.F.kp DAd.b .nil pass0 (pa_cons pe_str pa_nil)) pa_nil)))) (pa_cons (pe_lst (pa_cons pe_int (pa_cons pe_int (pa_cons pe_int pa_nil)))) pa_nil)))))))),?_⟩
    have z3:3≤sizeLine:=by decide
    refine ⟨_,rfl,sa,ns,rfl,hS,hlen,fun p dc H0 D0 s0 _=>?_⟩
    refine ⟨_,rfl,p,dc,rfl,D0,fun l xs ths H1 hl hl1 ta Du D1 b1=>?_⟩
    refine ⟨l,xs,ths,rfl,SqL.of hl1,ta.rep,Du.ok,Du.le,fun H2 s2=>?_⟩
    have D2:=D1.mono s2
    have aw:=asc_dump Du.ok
    have lw:=dump_len Du.ok Du.le
    generalize dumpT ths=whole at aw lw ⊢
    clear ta Du hl hl1 b1 s2 D1 D0 s0
    refine ⟨6,rfl,by decide,by decide,for_range (n:=6) (fun i σ H'=>(∃ u3 u4 u5 u6 u7,σ=[some (.ref sa),some (.ref p),some (.str whole),u3,u4,u5,u6,u7])∧Dr H' p dc) ⟨⟨none,none,none,none,none,rfl⟩,D2⟩ ?_ ?_⟩
    · clear D2
      rintro i σ H3 hi ⟨⟨u3,u4,u5,u6,u7,rfl⟩,D3⟩
      refine ⟨_,rfl,_,rfl,p,dc,_,rfl,D3,by decide,by decide,fun m H4 m0 m1 D4 b4=>?_⟩
      obtain ⟨n,rfl⟩:∃ n:Nat,m=(n:Int):=⟨m.toNat,by omega⟩
      refine ⟨_,_,rfl,rfl,((n+1:Nat):Int),(by show [V.int (1+(n:Int))]=_;rw [Int.add_comm];rfl),by omega,by omega,?_⟩
      refine for_range (n:=n+1) (fun j σ H'=>(∃ (x:Str) (u5:Option V),σ=[some (.ref sa),some (.ref p),some (.str whole),some (.int (0+i)),some (.str x),u5,u6,u7]∧Asc x∧(j=0→x.length≤6000)∧(j=1→x.length≤12060)∧x.length≤24180)∧Dr H' p dc) ⟨⟨whole,u5,rfl,aw,fun _=>lw,(fun z=>by omega),by omega⟩,D4⟩ ?_ ?_
      · rintro j σ H5 hj ⟨⟨x,u5,rfl,ax,x0,x1,x2⟩,D5⟩
        refine ⟨_,rfl,_,rfl,p,dc,x,rfl,D5,ax,by omega,fun y H6 ay ly D6 b6=>?_⟩
        exact ⟨⟨y,_,rfl,ay,(fun z=>by omega),(fun z=>by omega),by omega⟩,D6⟩
      · rintro σ H5 ⟨⟨x,u5,rfl,ax,_,_,x2⟩,D5⟩
        have xl:x.length≤50000:=by omega
        have td:=told_dep ax xl
        refine ⟨_,rfl,x,rfl,ax,xl,fun q l xs H6 s6 hq hl hq6 hl6 ta6=>?_⟩
        refine ⟨q,_,rfl,SqT.of hq6,rfl,_,_,rfl,_,_,rfl,rfl,?_⟩
        refine ⟨_,rfl,x,rfl,ax,xl,fun l7 xs7 H7 s7 hn7 hl7 ta7=>?_⟩
        refine ⟨_,rfl,.ref l7,.ref l,.list ((toldW (Txt.split x "\n")).map thD),rfl,.lst (SqL.of hl7) ta7.rep,.lst (SqL.of (s7 _ _ hl6)) (ta6.same s7).rep,Nat.le_trans td.1 (by decide),td.2,fun H8 s8=>⟨true,rfl,ifF rfl ?_⟩⟩
        try dsimp only [tNext]
        have S8:=s7.trans s8
        have hl8:=S8 _ _ hl6
        have ta8:=ta6.same S8
        refine ⟨_,rfl,x,rfl,ax,xl,fun hw l9 xs9 H9 s9 hn9 hl9 ta9=>?_,fun n hw H9 s9=>?_⟩
        · rw [hw]
          refine ⟨_,rfl,rfl,_,rfl,ifT rfl ⟨_,rfl,.ref l9,.ref l,.list ((toldW (Txt.split x "\n")).map thD),rfl,.lst (SqL.of hl9) ta9.rep,.lst (SqL.of (s9 _ _ hl8)) (ta8.same s9).rep,Nat.le_trans td.1 (by decide),td.2,fun H10 s10=>⟨true,rfl,ifF rfl ?_⟩⟩⟩
          exact ⟨⟨_,_,_,_,_,rfl⟩,D5.mono (s6.trans (S8.trans (s9.trans s10)))⟩
        · rw [hw]
          refine ⟨_,rfl,rfl,_,rfl,ifF rfl ⟨_,rfl,.int n,.int n,.int n,rfl,.int _,.int _,by simp [pdDep],by simp [pdMax],fun H10 s10=>⟨true,rfl,ifF rfl ?_⟩⟩⟩
          exact ⟨⟨_,_,_,_,_,rfl⟩,D5.mono (s6.trans (S8.trans (s9.trans s10)))⟩
    · rintro σ H3 ⟨⟨u3,u4,u5,u6,u7,rfl⟩,D3⟩
      refine ⟨"\n",rfl,by unfold Asc;decide +kernel,by decide +kernel,fun hw=>(by rw [wrong_a] at hw;cases hw),fun n hw H4 s4=>?_⟩
      rw [wrong_a] at hw
      cases hw
      refine ⟨"lost 1",rfl,by unfold Asc;decide +kernel,by decide +kernel,fun hw=>(by rw [wrong_b] at hw;cases hw),fun n hw H5 s5=>?_⟩
      rw [wrong_b] at hw
      cases hw
      refine ⟨"lost 0\n",rfl,by unfold Asc;decide +kernel,by decide +kernel,fun hw=>(by rw [wrong_c] at hw;cases hw),fun n hw H6 s6=>?_⟩
      rw [wrong_c] at hw
      cases hw
      refine ⟨z3,fun qa hqa=>⟨z3,fun qb hqb=>?_⟩⟩
      exact ⟨.ref qa,.ref qb,.list [.int 0,.int 0,.int 0],rfl,.lst (SqL.of (Same.new hqb _ _ upd_same)) (.cons (.int _) (.cons (.int _) (.cons (.int _) .nil))),.lst (SqL.of upd_same) (.cons (.int _) (.cons (.int _) (.cons (.int _) .nil))),by simp [pdDep,pdDeps],by simp [pdMax,pdMaxs],fun H9 s9=>k _⟩
end
end Cm
namespace Cm
open PySem L2 PySem.W
def xbm (B:String):List Value:=[.type B,.type "Exception",.type "BaseException",.type "object"]
theorem rl_ve (self:Value):refuseLoop self "__setattr__" (xbm "ValueError")=pure ():=by kernel_rfl
def xcd (K:Frag) (C:Addr) (rs:List Addr) (bm:List Value):Bool:=match clsIn K C with
  |some cd=>cd.hasDict && (cd.mro == rs.map Value.ref++bm)
  |none=>false
theorem xcls_of {K:Frag} {C:Addr} {B n:String} {rs:List Addr} (h1:makesX K C B n=true) (h2:findIn K (.ref C) "__setattr__" = some (some (.builtin "object.__setattr__"))) (h3:xcd K C rs (xbm B)=true) (h4:keepIn K (.ref C)=true) (h5:typeIn K (.ref C)=some (.type "type"))
    (hr:∀ self,refuseLoop self "__setattr__" (xbm B)=pure ()):XCls K C B n:=by
  refine ⟨h1,h2,?_,h4,h5⟩
  unfold xcd at h3
  split at h3
  · rename_i cd hc
    rw [Bool.and_eq_true,beq_iff_eq] at h3
    refine ⟨cd,rs,xbm B,hc,h3.1,h3.2,by simp [xbm],hr,?_⟩
    unfold xbm
    simp
  · cases h3
theorem all_mk {l:PySem.W.OpenLaw} {w:World} {K:PySem.W.Frag} {h:Heap} {mg:Str→Option Value} {fa fB fP fO fFr fS fW fBd fIN fNi fTr fLd fDt fTi fDr fBe fAd fI fPb fNo fRr fRl fRe fGo fRs fRd fMe fLa qS fSE TS qD fiD:Addr} (X:K.In h) (G:h.Ns mainGlobals mg) (hfa:mg "law" = some (.ref fa))
    {odB anB odP anP odO anO odFr anFr odS anS odW anW odBd anBd odIN anIN odNi anNi odTr anTr odLd anLd odDt anDt odTi anTi odDr anDr odBe anBe odAd anAd odI anI odPb anPb odNo anNo odRr anRr odRl anRl odRe anRe odGo anGo odRs anRs odRd anRd odMe anMe odLa anLa odSE anSE odTS odiD aniD:Option Addr} {slB slP slO slFr slS slW slBd slIN slNi slTr slLd slDt slTi slDr slBe slAd slI slPb slNo slRr slRl slRe slGo slRs slRd slMe slLa slSE slTS sliD:Array (Option Value)} {t0 t1 nTS:Nat} {ocB kVB dcB pmB cdB ctB ocP kVP dcP pmP cdP ctP ocO kVO dcO pmO cdO ctO ocFr kVFr dcFr pmFr cdFr ctFr ocS kVS dcS pmS cdS ctS ocW kVW dcW pmW cdW ctW ocBd kVBd dcBd pmBd cdBd ctBd ocIN kVIN dcIN pmIN cdIN ctIN ocNi kVNi dcNi pmNi cdNi ctNi ocTr kVTr dcTr pmTr cdTr ctTr ocLd kVLd dcLd pmLd cdLd ctLd ocDt kVDt dcDt pmDt cdDt ctDt ocTi kVTi dcTi pmTi cdTi ctTi ocDr kVDr dcDr pmDr cdDr ctDr ocBe kVBe dcBe pmBe cdBe ctBe ocAd kVAd dcAd pmAd cdAd ctAd ocI kVI dcI pmI cdI ctI ocPb kVPb dcPb pmPb cdPb ctPb ocNo kVNo dcNo pmNo cdNo ctNo ocRr kVRr dcRr pmRr cdRr ctRr ocRl kVRl dcRl pmRl cdRl ctRl ocRe kVRe dcRe pmRe cdRe ctRe ocGo kVGo dcGo pmGo cdGo ctGo ocRs kVRs dcRs pmRs cdRs ctRs ocRd kVRd dcRd pmRd cdRd ctRd ocMe kVMe dcMe pmMe cdMe ctMe ocLa kVLa dcLa pmLa cdLa ctLa ocSE kVSE dcSE pmSE cdSE ctSE dS1 dS2 ocTS ociD kViD dciD pmiD cdiD ctiD:Value}
    (aB:PySem.W.nsIn K mainGlobals "_law_begin" = some (some (.ref fB)))
    (lB:K.lookup fB=some ⟨ocB,odB,.func (PySem.W.fnOf "_law_begin" "_law_begin" (defArgs (top 19)) (defBody (top 19)) (defScope (top 19)) .none kVB dcB pmB anB cdB ctB),slB⟩)
    (cB:PySem.W.codeIn K cdB "_law_begin" = true)
    (kB:PySem.W.keepIn K (.ref fB)=true)
    (aP:PySem.W.nsIn K mainGlobals "_law_pick" = some (some (.ref fP)))
    (lP:K.lookup fP=some ⟨ocP,odP,.func (PySem.W.fnOf "_law_pick" "_law_pick" (defArgs (top 20)) (defBody (top 20)) (defScope (top 20)) .none kVP dcP pmP anP cdP ctP),slP⟩)
    (cP:PySem.W.codeIn K cdP "_law_pick" = true)
    (kP:PySem.W.keepIn K (.ref fP)=true)
    (aO:PySem.W.nsIn K mainGlobals "_law_of" = some (some (.ref fO)))
    (lO:K.lookup fO=some ⟨ocO,odO,.func (PySem.W.fnOf "_law_of" "_law_of" (defArgs (top 21)) (defBody (top 21)) (defScope (top 21)) .none kVO dcO pmO anO cdO ctO),slO⟩)
    (cO:PySem.W.codeIn K cdO "_law_of" = true)
    (kO:PySem.W.keepIn K (.ref fO)=true)
    (aFr:PySem.W.nsIn K mainGlobals "_law_far" = some (some (.ref fFr)))
    (lFr:K.lookup fFr=some ⟨ocFr,odFr,.func (PySem.W.fnOf "_law_far" "_law_far" (defArgs (top 22)) (defBody (top 22)) (defScope (top 22)) .none kVFr dcFr pmFr anFr cdFr ctFr),slFr⟩)
    (cFr:PySem.W.codeIn K cdFr "_law_far" = true)
    (kFr:PySem.W.keepIn K (.ref fFr)=true)
    (aS:PySem.W.nsIn K mainGlobals "_law_same" = some (some (.ref fS)))
    (lS:K.lookup fS=some ⟨ocS,odS,.func (PySem.W.fnOf "_law_same" "_law_same" (defArgs (top 23)) (defBody (top 23)) (defScope (top 23)) .none kVS dcS pmS anS cdS ctS),slS⟩)
    (cS:PySem.W.codeIn K cdS "_law_same" = true)
    (kS:PySem.W.keepIn K (.ref fS)=true)
    (aW:PySem.W.nsIn K mainGlobals "_law_word" = some (some (.ref fW)))
    (lW:K.lookup fW=some ⟨ocW,odW,.func (PySem.W.fnOf "_law_word" "_law_word" (defArgs (top 24)) (defBody (top 24)) (defScope (top 24)) .none kVW dcW pmW anW cdW ctW),slW⟩)
    (cW:PySem.W.codeIn K cdW "_law_word" = true)
    (kW:PySem.W.keepIn K (.ref fW)=true)
    (aBd:PySem.W.nsIn K mainGlobals "_law_bound" = some (some (.ref fBd)))
    (lBd:K.lookup fBd=some ⟨ocBd,odBd,.func (PySem.W.fnOf "_law_bound" "_law_bound" (defArgs (top 25)) (defBody (top 25)) (defScope (top 25)) .none kVBd dcBd pmBd anBd cdBd ctBd),slBd⟩)
    (cBd:PySem.W.codeIn K cdBd "_law_bound" = true)
    (kBd:PySem.W.keepIn K (.ref fBd)=true)
    (aIN:PySem.W.nsIn K mainGlobals "_law_is_name" = some (some (.ref fIN)))
    (lIN:K.lookup fIN=some ⟨ocIN,odIN,.func (PySem.W.fnOf "_law_is_name" "_law_is_name" (defArgs (top 26)) (defBody (top 26)) (defScope (top 26)) .none kVIN dcIN pmIN anIN cdIN ctIN),slIN⟩)
    (cIN:PySem.W.codeIn K cdIN "_law_is_name" = true)
    (kIN:PySem.W.keepIn K (.ref fIN)=true)
    (aNi:PySem.W.nsIn K mainGlobals "_law_number_in" = some (some (.ref fNi)))
    (lNi:K.lookup fNi=some ⟨ocNi,odNi,.func (PySem.W.fnOf "_law_number_in" "_law_number_in" (defArgs (top 27)) (defBody (top 27)) (defScope (top 27)) .none kVNi dcNi pmNi anNi cdNi ctNi),slNi⟩)
    (cNi:PySem.W.codeIn K cdNi "_law_number_in" = true)
    (kNi:PySem.W.keepIn K (.ref fNi)=true)
    (aTr:PySem.W.nsIn K mainGlobals "_law_thing_row" = some (some (.ref fTr)))
    (lTr:K.lookup fTr=some ⟨ocTr,odTr,.func (PySem.W.fnOf "_law_thing_row" "_law_thing_row" (defArgs (top 28)) (defBody (top 28)) (defScope (top 28)) .none kVTr dcTr pmTr anTr cdTr ctTr),slTr⟩)
    (cTr:PySem.W.codeIn K cdTr "_law_thing_row" = true)
    (kTr:PySem.W.keepIn K (.ref fTr)=true)
    (aLd:PySem.W.nsIn K mainGlobals "_law_dump" = some (some (.ref fLd)))
    (lLd:K.lookup fLd=some ⟨ocLd,odLd,.func (PySem.W.fnOf "_law_dump" "_law_dump" (defArgs (top 29)) (defBody (top 29)) (defScope (top 29)) .none kVLd dcLd pmLd anLd cdLd ctLd),slLd⟩)
    (cLd:PySem.W.codeIn K cdLd "_law_dump" = true)
    (kLd:PySem.W.keepIn K (.ref fLd)=true)
    (aDt:PySem.W.nsIn K mainGlobals "_law_dump_told" = some (some (.ref fDt)))
    (lDt:K.lookup fDt=some ⟨ocDt,odDt,.func (PySem.W.fnOf "_law_dump_told" "_law_dump_told" (defArgs (top 30)) (defBody (top 30)) (defScope (top 30)) .none kVDt dcDt pmDt anDt cdDt ctDt),slDt⟩)
    (cDt:PySem.W.codeIn K cdDt "_law_dump_told" = true)
    (kDt:PySem.W.keepIn K (.ref fDt)=true)
    (aTi:PySem.W.nsIn K mainGlobals "_law_thing_in" = some (some (.ref fTi)))
    (lTi:K.lookup fTi=some ⟨ocTi,odTi,.func (PySem.W.fnOf "_law_thing_in" "_law_thing_in" (defArgs (top 31)) (defBody (top 31)) (defScope (top 31)) .none kVTi dcTi pmTi anTi cdTi ctTi),slTi⟩)
    (cTi:PySem.W.codeIn K cdTi "_law_thing_in" = true)
    (kTi:PySem.W.keepIn K (.ref fTi)=true)
    (aDr:PySem.W.nsIn K mainGlobals "_law_dump_read" = some (some (.ref fDr)))
    (lDr:K.lookup fDr=some ⟨ocDr,odDr,.func (PySem.W.fnOf "_law_dump_read" "_law_dump_read" (defArgs (top 32)) (defBody (top 32)) (defScope (top 32)) .none kVDr dcDr pmDr anDr cdDr ctDr),slDr⟩)
    (cDr:PySem.W.codeIn K cdDr "_law_dump_read" = true)
    (kDr:PySem.W.keepIn K (.ref fDr)=true)
    (aBe:PySem.W.nsIn K mainGlobals "_law_bent_dump" = some (some (.ref fBe)))
    (lBe:K.lookup fBe=some ⟨ocBe,odBe,.func (PySem.W.fnOf "_law_bent_dump" "_law_bent_dump" (defArgs (top 33)) (defBody (top 33)) (defScope (top 33)) .none kVBe dcBe pmBe anBe cdBe ctBe),slBe⟩)
    (cBe:PySem.W.codeIn K cdBe "_law_bent_dump" = true)
    (kBe:PySem.W.keepIn K (.ref fBe)=true)
    (aAd:PySem.W.nsIn K mainGlobals "_law_ask_dump" = some (some (.ref fAd)))
    (lAd:K.lookup fAd=some ⟨ocAd,odAd,.func (PySem.W.fnOf "_law_ask_dump" "_law_ask_dump" (defArgs (top 34)) (defBody (top 34)) (defScope (top 34)) .none kVAd dcAd pmAd anAd cdAd ctAd),slAd⟩)
    (cAd:PySem.W.codeIn K cdAd "_law_ask_dump" = true)
    (kAd:PySem.W.keepIn K (.ref fAd)=true)
    (aI:PySem.W.nsIn K mainGlobals "is_name" = some (some (.ref fI)))
    (lI:K.lookup fI=some ⟨ocI,odI,.func (PySem.W.fnOf "is_name" "is_name" (defArgs (top 5)) (defBody (top 5)) (defScope (top 5)) .none kVI dcI pmI anI cdI ctI),slI⟩)
    (cI:PySem.W.codeIn K cdI "is_name" = true)
    (kI:PySem.W.keepIn K (.ref fI)=true)
    (aPb:PySem.W.nsIn K mainGlobals "place_behind" = some (some (.ref fPb)))
    (lPb:K.lookup fPb=some ⟨ocPb,odPb,.func (PySem.W.fnOf "place_behind" "place_behind" (defArgs (top 7)) (defBody (top 7)) (defScope (top 7)) .none kVPb dcPb pmPb anPb cdPb ctPb),slPb⟩)
    (cPb:PySem.W.codeIn K cdPb "place_behind" = true)
    (kPb:PySem.W.keepIn K (.ref fPb)=true)
    (aNo:PySem.W.nsIn K mainGlobals "number_of" = some (some (.ref fNo)))
    (lNo:K.lookup fNo=some ⟨ocNo,odNo,.func (PySem.W.fnOf "number_of" "number_of" (defArgs (top 10)) (defBody (top 10)) (defScope (top 10)) .none kVNo dcNo pmNo anNo cdNo ctNo),slNo⟩)
    (cNo:PySem.W.codeIn K cdNo "number_of" = true)
    (kNo:PySem.W.keepIn K (.ref fNo)=true)
    (aRr:PySem.W.nsIn K mainGlobals "read_row" = some (some (.ref fRr)))
    (lRr:K.lookup fRr=some ⟨ocRr,odRr,.func (PySem.W.fnOf "read_row" "read_row" (defArgs (top 11)) (defBody (top 11)) (defScope (top 11)) .none kVRr dcRr pmRr anRr cdRr ctRr),slRr⟩)
    (cRr:PySem.W.codeIn K cdRr "read_row" = true)
    (kRr:PySem.W.keepIn K (.ref fRr)=true)
    (aRl:PySem.W.nsIn K mainGlobals "read_lost" = some (some (.ref fRl)))
    (lRl:K.lookup fRl=some ⟨ocRl,odRl,.func (PySem.W.fnOf "read_lost" "read_lost" (defArgs (top 12)) (defBody (top 12)) (defScope (top 12)) .none kVRl dcRl pmRl anRl cdRl ctRl),slRl⟩)
    (cRl:PySem.W.codeIn K cdRl "read_lost" = true)
    (kRl:PySem.W.keepIn K (.ref fRl)=true)
    (aRe:PySem.W.nsIn K mainGlobals "read_event" = some (some (.ref fRe)))
    (lRe:K.lookup fRe=some ⟨ocRe,odRe,.func (PySem.W.fnOf "read_event" "read_event" (defArgs (top 13)) (defBody (top 13)) (defScope (top 13)) .none kVRe dcRe pmRe anRe cdRe ctRe),slRe⟩)
    (cRe:PySem.W.codeIn K cdRe "read_event" = true)
    (kRe:PySem.W.keepIn K (.ref fRe)=true)
    (aGo:PySem.W.nsIn K mainGlobals "goes_on" = some (some (.ref fGo)))
    (lGo:K.lookup fGo=some ⟨ocGo,odGo,.func (PySem.W.fnOf "goes_on" "goes_on" (defArgs (top 14)) (defBody (top 14)) (defScope (top 14)) .none kVGo dcGo pmGo anGo cdGo ctGo),slGo⟩)
    (cGo:PySem.W.codeIn K cdGo "goes_on" = true)
    (kGo:PySem.W.keepIn K (.ref fGo)=true)
    (aRs:PySem.W.nsIn K mainGlobals "read_rows" = some (some (.ref fRs)))
    (lRs:K.lookup fRs=some ⟨ocRs,odRs,.func (PySem.W.fnOf "read_rows" "read_rows" (defArgs (top 15)) (defBody (top 15)) (defScope (top 15)) .none kVRs dcRs pmRs anRs cdRs ctRs),slRs⟩)
    (cRs:PySem.W.codeIn K cdRs "read_rows" = true)
    (kRs:PySem.W.keepIn K (.ref fRs)=true)
    (aRd:PySem.W.nsIn K mainGlobals "read_dump" = some (some (.ref fRd)))
    (lRd:K.lookup fRd=some ⟨ocRd,odRd,.func (PySem.W.fnOf "read_dump" "read_dump" (defArgs (top 16)) (defBody (top 16)) (defScope (top 16)) .none kVRd dcRd pmRd anRd cdRd ctRd),slRd⟩)
    (cRd:PySem.W.codeIn K cdRd "read_dump" = true)
    (kRd:PySem.W.keepIn K (.ref fRd)=true)
    (aMe:PySem.W.nsIn K mainGlobals "mended" = some (some (.ref fMe)))
    (lMe:K.lookup fMe=some ⟨ocMe,odMe,.func (PySem.W.fnOf "mended" "mended" (defArgs (top 17)) (defBody (top 17)) (defScope (top 17)) .none kVMe dcMe pmMe anMe cdMe ctMe),slMe⟩)
    (cMe:PySem.W.codeIn K cdMe "mended" = true)
    (kMe:PySem.W.keepIn K (.ref fMe)=true)
    (aLa:PySem.W.nsIn K mainGlobals "law" = some (some (.ref fLa)))
    (lLa:K.lookup fLa=some ⟨ocLa,odLa,.func (PySem.W.fnOf "law" "law" (defArgs (top 35)) (defBody (top 35)) (defScope (top 35)) .none kVLa dcLa pmLa anLa cdLa ctLa),slLa⟩)
    (cLa:PySem.W.codeIn K cdLa "law" = true)
    (kLa:PySem.W.keepIn K (.ref fLa)=true)
    (z_len:PySem.W.nsIn K mainGlobals "len" = some none)
    (z_range:PySem.W.nsIn K mainGlobals "range" = some none)
    (z_list:PySem.W.nsIn K mainGlobals "list" = some none)
    (z_tuple:PySem.W.nsIn K mainGlobals "tuple" = some none)
    (z_str:PySem.W.nsIn K mainGlobals "str" = some none)
    (z_bool:PySem.W.nsIn K mainGlobals "bool" = some none)
    (z_int:PySem.W.nsIn K mainGlobals "int" = some none)
    (z_min:PySem.W.nsIn K mainGlobals "min" = some none)
    (z_repr:PySem.W.nsIn K mainGlobals "repr" = some none)
    (z_all:PySem.W.nsIn K mainGlobals "all" = some none)
    (z_any:PySem.W.nsIn K mainGlobals "any" = some none)
    (z_isinstance:PySem.W.nsIn K mainGlobals "isinstance" = some none)
    (z_enumerate:PySem.W.nsIn K mainGlobals "enumerate" = some none)
    (i_MOST_LETTERS:PySem.W.nsIn K mainGlobals "MOST_LETTERS" = some (some (.int 8 t0)))
    (i_MOST_FIGURES:PySem.W.nsIn K mainGlobals "MOST_FIGURES" = some (some (.int 30 t1)))
    (z_ValueError:PySem.W.nsIn K mainGlobals "ValueError" = some none)
    (a_qS:PySem.W.nsIn K mainGlobals "ScribeError" = some (some (.ref qS)))
    (aSE:PySem.W.findIn K (.ref qS) "__init__" = some (some (.ref fSE)))
    (lSE:K.lookup fSE=some ⟨ocSE,odSE,.func (PySem.W.fnOf "__init__" "ScribeError.__init__" (defArgs sSE) (defBody sSE) (defScope sSE) (.ref TS) kVSE dcSE pmSE anSE cdSE ctSE),slSE⟩)
    (cSE:PySem.W.codeIn K cdSE "ScribeError.__init__" = true)
    (kSE:PySem.W.keepIn K (.ref fSE)=true)
    (lTS:K.lookup TS=some ⟨ocTS,odTS,.seq #[dS1,dS2] nTS,slTS⟩)
    (fc:PySem.W.findCls K (.type "ValueError") (.type "type") "__init__" = some (.val (.builtin "ValueError.__init__")))
    (sg:PySem.W.specialIn K (.ref qS) "__getattribute__" = some (some (.builtin "type.__getattribute__")))
    (rd1:PySem.W.readsIn K qS (.type "type")=true)
    (rd2:PySem.W.findCls K (.ref qS) (.type "type") "__init__" = some (.val (.ref fSE)))
    (a_qD:PySem.W.nsIn K mainGlobals "BadDump" = some (some (.ref qD)))
    (x1D:makesX K qD "ValueError" "ValueError.__new__" = true)
    (x2D:PySem.W.findIn K (.ref qD) "__setattr__" = some (some (.builtin "object.__setattr__")))
    (x3D:xcd K qD [qD,qS] (xbm "ValueError")=true)
    (x4D:PySem.W.keepIn K (.ref qD)=true)
    (x5D:PySem.W.typeIn K (.ref qD)=some (.type "type"))
    (tkD_word:PySem.W.takerIn K qD "word" = some none)
    (tkD_row:PySem.W.takerIn K qD "row" = some none)
    (b_iD:PySem.W.findIn K (.ref qD) "__init__" = some (some (.ref fiD)))
    (liD:K.lookup fiD=some ⟨ociD,odiD,.func (PySem.W.fnOf "__init__" "BadDump.__init__" (defArgs sBD) (defBody sBD) (defScope sBD) .none kViD dciD pmiD aniD cdiD ctiD),sliD⟩)
    (ciD:PySem.W.codeIn K cdiD "BadDump.__init__" = true)
    (kiD:PySem.W.keepIn K (.ref fiD)=true)
    (n_iD:PySem.W.isFn K (.ref fiD)=true)
    (mmD:PySem.W.mroIn K qD (.ref qD)=some true)
    (g1D:PySem.W.findIn K (.ref qD) "__getattribute__" = some (some (.builtin "BaseException.__getattribute__")))
    (g2D:PySem.W.findIn K (.ref qD) "__getattr__" = some none)
    (g3D:PySem.W.hasDictIn K qD=true)
    (g4D:PySem.W.findIn K (.ref qD) "row" = some none)
    (g5D:PySem.W.mroIn K qD (.type "BaseException")=some true) :
    ∃ fd:FuncData,(∀ (s:Shared) (v:Value),BindsTo s fd ⟨[v],[]⟩ [("_law_script",v)])∧∀ base:Heap,K.In base→base.Ns mainGlobals mg→FnOk l.prog w K mg base CX0 12 fa fd ["_law_script"] (spLaw K):=by
  have e:=hfa.symm.trans (PySem.W.mg_of X G aLa)
  cases e
  have T:Txt K mg:=⟨PySem.W.mg_none_of X G z_len,PySem.W.mg_none_of X G z_range,PySem.W.mg_none_of X G z_list,PySem.W.mg_none_of X G z_tuple,PySem.W.mg_none_of X G z_str,PySem.W.mg_none_of X G z_bool,PySem.W.mg_none_of X G z_int,PySem.W.mg_none_of X G z_min,PySem.W.mg_none_of X G z_repr,PySem.W.mg_none_of X G z_all,PySem.W.mg_none_of X G z_any,PySem.W.mg_none_of X G z_isinstance⟩
  have FB:=fun_mk (st:=top 19) lB cB kB
  have bB:=FB.binds (ps:=["_law_script"]) fun _ _ _ _ _ _ us hl=>by obtain ⟨_,rfl⟩:=len1 hl;rfl
  have DB:Def K mg "_law_begin" (top 19) ["_law_script"] fB _:=⟨FB,PySem.W.mg_of X G aB,bB⟩
  have FP:=fun_mk (st:=top 20) lP cP kP
  have bP:=FP.binds (ps:=["_law_d","_law_many"]) fun _ _ _ _ _ _ us hl=>by obtain ⟨_,_,rfl⟩:=len2 hl;rfl
  have DP:Def K mg "_law_pick" (top 20) ["_law_d","_law_many"] fP _:=⟨FP,PySem.W.mg_of X G aP,bP⟩
  have FO:=fun_mk (st:=top 21) lO cO kO
  have bO:=FO.binds (ps:=["_law_d","_law_things"]) fun _ _ _ _ _ _ us hl=>by obtain ⟨_,_,rfl⟩:=len2 hl;rfl
  have DO:Def K mg "_law_of" (top 21) ["_law_d","_law_things"] fO _:=⟨FO,PySem.W.mg_of X G aO,bO⟩
  have FFr:=fun_mk (st:=top 22) lFr cFr kFr
  have bFr:=FFr.binds (ps:=["_law_d"]) fun _ _ _ _ _ _ us hl=>by obtain ⟨_,rfl⟩:=len1 hl;rfl
  have DFr:Def K mg "_law_far" (top 22) ["_law_d"] fFr _:=⟨FFr,PySem.W.mg_of X G aFr,bFr⟩
  have FS:=fun_mk (st:=top 23) lS cS kS
  have bS:=FS.binds (ps:=["_law_found","_law_due"]) fun _ _ _ _ _ _ us hl=>by obtain ⟨_,_,rfl⟩:=len2 hl;rfl
  have DS:Def K mg "_law_same" (top 23) ["_law_found","_law_due"] fS _:=⟨FS,PySem.W.mg_of X G aS,bS⟩
  have FW:=fun_mk (st:=top 24) lW cW kW
  have bW:=FW.binds (ps:=["_law_d"]) fun _ _ _ _ _ _ us hl=>by obtain ⟨_,rfl⟩:=len1 hl;rfl
  have DW:Def K mg "_law_word" (top 24) ["_law_d"] fW _:=⟨FW,PySem.W.mg_of X G aW,bW⟩
  have FBd:=fun_mk (st:=top 25) lBd cBd kBd
  have bBd:=FBd.binds (ps:=["_law_d"]) fun _ _ _ _ _ _ us hl=>by obtain ⟨_,rfl⟩:=len1 hl;rfl
  have DBd:Def K mg "_law_bound" (top 25) ["_law_d"] fBd _:=⟨FBd,PySem.W.mg_of X G aBd,bBd⟩
  have FIN:=fun_mk (st:=top 26) lIN cIN kIN
  have bIN:=FIN.binds (ps:=["_law_text"]) fun _ _ _ _ _ _ us hl=>by obtain ⟨_,rfl⟩:=len1 hl;rfl
  have DIN:Def K mg "_law_is_name" (top 26) ["_law_text"] fIN _:=⟨FIN,PySem.W.mg_of X G aIN,bIN⟩
  have FNi:=fun_mk (st:=top 27) lNi cNi kNi
  have bNi:=FNi.binds (ps:=["_law_text","_law_most"]) fun _ _ _ _ _ _ us hl=>by obtain ⟨_,_,rfl⟩:=len2 hl;rfl
  have DNi:Def K mg "_law_number_in" (top 27) ["_law_text","_law_most"] fNi _:=⟨FNi,PySem.W.mg_of X G aNi,bNi⟩
  have FTr:=fun_mk (st:=top 28) lTr cTr kTr
  have bTr:=FTr.binds (ps:=["_law_thing"]) fun _ _ _ _ _ _ us hl=>by obtain ⟨_,rfl⟩:=len1 hl;rfl
  have DTr:Def K mg "_law_thing_row" (top 28) ["_law_thing"] fTr _:=⟨FTr,PySem.W.mg_of X G aTr,bTr⟩
  have FLd:=fun_mk (st:=top 29) lLd cLd kLd
  have bLd:=FLd.binds (ps:=["_law_told"]) fun _ _ _ _ _ _ us hl=>by obtain ⟨_,rfl⟩:=len1 hl;rfl
  have DLd:Def K mg "_law_dump" (top 29) ["_law_told"] fLd _:=⟨FLd,PySem.W.mg_of X G aLd,bLd⟩
  have FDt:=fun_mk (st:=top 30) lDt cDt kDt
  have bDt:=FDt.binds (ps:=["_law_d"]) fun _ _ _ _ _ _ us hl=>by obtain ⟨_,rfl⟩:=len1 hl;rfl
  have DDt:Def K mg "_law_dump_told" (top 30) ["_law_d"] fDt _:=⟨FDt,PySem.W.mg_of X G aDt,bDt⟩
  have FTi:=fun_mk (st:=top 31) lTi cTi kTi
  have bTi:=FTi.binds (ps:=["_law_line"]) fun _ _ _ _ _ _ us hl=>by obtain ⟨_,rfl⟩:=len1 hl;rfl
  have DTi:Def K mg "_law_thing_in" (top 31) ["_law_line"] fTi _:=⟨FTi,PySem.W.mg_of X G aTi,bTi⟩
  have FDr:=fun_mk (st:=top 32) lDr cDr kDr
  have bDr:=FDr.binds (ps:=["_law_text"]) fun _ _ _ _ _ _ us hl=>by obtain ⟨_,rfl⟩:=len1 hl;rfl
  have DDr:Def K mg "_law_dump_read" (top 32) ["_law_text"] fDr _:=⟨FDr,PySem.W.mg_of X G aDr,bDr⟩
  have FBe:=fun_mk (st:=top 33) lBe cBe kBe
  have bBe:=FBe.binds (ps:=["_law_d","_law_text"]) fun _ _ _ _ _ _ us hl=>by obtain ⟨_,_,rfl⟩:=len2 hl;rfl
  have DBe:Def K mg "_law_bent_dump" (top 33) ["_law_d","_law_text"] fBe _:=⟨FBe,PySem.W.mg_of X G aBe,bBe⟩
  have FAd:=fun_mk (st:=top 34) lAd cAd kAd
  have bAd:=FAd.binds (ps:=["_law_text"]) fun _ _ _ _ _ _ us hl=>by obtain ⟨_,rfl⟩:=len1 hl;rfl
  have DAd:Def K mg "_law_ask_dump" (top 34) ["_law_text"] fAd _:=⟨FAd,PySem.W.mg_of X G aAd,bAd⟩
  have FI:=fun_mk (st:=top 5) lI cI kI
  have bI:=FI.binds (ps:=["text"]) fun _ _ _ _ _ _ us hl=>by obtain ⟨_,rfl⟩:=len1 hl;rfl
  have DI:Def K mg "is_name" (top 5) ["text"] fI _:=⟨FI,PySem.W.mg_of X G aI,bI⟩
  have FPb:=fun_mk (st:=top 7) lPb cPb kPb
  have bPb:=FPb.binds (ps:=["place","told"]) fun _ _ _ _ _ _ us hl=>by obtain ⟨_,_,rfl⟩:=len2 hl;rfl
  have DPb:Def K mg "place_behind" (top 7) ["place","told"] fPb _:=⟨FPb,PySem.W.mg_of X G aPb,bPb⟩
  have FNo:=fun_mk (st:=top 10) lNo cNo kNo
  have bNo:=FNo.binds (ps:=["word"]) fun _ _ _ _ _ _ us hl=>by obtain ⟨_,rfl⟩:=len1 hl;rfl
  have DNo:Def K mg "number_of" (top 10) ["word"] fNo _:=⟨FNo,PySem.W.mg_of X G aNo,bNo⟩
  have FRr:=fun_mk (st:=top 11) lRr cRr kRr
  have bRr:=FRr.binds (ps:=["row"]) fun _ _ _ _ _ _ us hl=>by obtain ⟨_,rfl⟩:=len1 hl;rfl
  have DRr:Def K mg "read_row" (top 11) ["row"] fRr _:=⟨FRr,PySem.W.mg_of X G aRr,bRr⟩
  have FRl:=fun_mk (st:=top 12) lRl cRl kRl
  have bRl:=FRl.binds (ps:=["words"]) fun _ _ _ _ _ _ us hl=>by obtain ⟨_,rfl⟩:=len1 hl;rfl
  have DRl:Def K mg "read_lost" (top 12) ["words"] fRl _:=⟨FRl,PySem.W.mg_of X G aRl,bRl⟩
  have FRe:=fun_mk (st:=top 13) lRe cRe kRe
  have bRe:=FRe.binds (ps:=["words"]) fun _ _ _ _ _ _ us hl=>by obtain ⟨_,rfl⟩:=len1 hl;rfl
  have DRe:Def K mg "read_event" (top 13) ["words"] fRe _:=⟨FRe,PySem.W.mg_of X G aRe,bRe⟩
  have FGo:=fun_mk (st:=top 14) lGo cGo kGo
  have bGo:=FGo.binds (ps:=["thing","place","time"]) fun _ _ _ _ _ _ us hl=>by obtain ⟨_,_,_,rfl⟩:=len3 hl;rfl
  have DGo:Def K mg "goes_on" (top 14) ["thing","place","time"] fGo _:=⟨FGo,PySem.W.mg_of X G aGo,bGo⟩
  have FRs:=fun_mk (st:=top 15) lRs cRs kRs
  have bRs:=FRs.binds (ps:=["text"]) fun _ _ _ _ _ _ us hl=>by obtain ⟨_,rfl⟩:=len1 hl;rfl
  have DRs:Def K mg "read_rows" (top 15) ["text"] fRs _:=⟨FRs,PySem.W.mg_of X G aRs,bRs⟩
  have FRd:=fun_mk (st:=top 16) lRd cRd kRd
  have bRd:=FRd.binds (ps:=["text"]) fun _ _ _ _ _ _ us hl=>by obtain ⟨_,rfl⟩:=len1 hl;rfl
  have DRd:Def K mg "read_dump" (top 16) ["text"] fRd _:=⟨FRd,PySem.W.mg_of X G aRd,bRd⟩
  have FMe:=fun_mk (st:=top 17) lMe cMe kMe
  have bMe:=FMe.binds (ps:=["text"]) fun _ _ _ _ _ _ us hl=>by obtain ⟨_,rfl⟩:=len1 hl;rfl
  have DMe:Def K mg "mended" (top 17) ["text"] fMe _:=⟨FMe,PySem.W.mg_of X G aMe,bMe⟩
  have FLa:=fun_mk (st:=top 35) lLa cLa kLa
  have TE:TxtE K mg:=⟨PySem.W.mg_none_of X G z_ValueError,fc⟩
  have FSE:FunD K "__init__" "ScribeError.__init__" sSE (.ref TS) fSE _:=⟨⟨_,_,_,_,_,_,_,_,_,rfl,lSE,cSE⟩,kSE⟩
  have bSE:=FSE.binds (ps:=["self","words","word"]) (ds:=[]) lTS rfl fun kV doc pm an cdv ct s us hT hl=>(by rw [List.append_nil] at hl ⊢;obtain ⟨_,_,_,rfl⟩:=len3 hl;exact BindsTo.of_defaults rfl hT rfl rfl rfl)
  have MS:MkOf K mg "ScribeError" qS fSE:=⟨PySem.W.mg_of X G a_qS,sg,⟨_,rd1,rd2⟩,kSE⟩
  have FiD:=fun_mk (st:=sBD) liD ciD kiD
  have bbD:=FiD.binds (ps:=["self","row"]) fun _ _ _ _ _ _ us hl=>by obtain ⟨_,_,rfl⟩:=len2 hl;rfl
  have XCD:XCls K qD "ValueError" "ValueError.__new__":=xcls_of x1D x2D x3D x4D x5D rl_ve
  have XGD:XGet K qD "row":=⟨g1D,g2D,g3D,g4D,g5D⟩
  have TK':TxtK mg:=⟨⟨_,PySem.W.mg_of X G i_MOST_LETTERS⟩⟩
  have TF:TxtF mg:=⟨⟨_,PySem.W.mg_of X G i_MOST_FIGURES⟩⟩
  have hen:=PySem.W.mg_none_of X G z_enumerate
  have WD:DCls K mg qD fiD _:=⟨bbD,PySem.W.mg_of X G a_qD,⟨⟨XCD,tkD_word⟩,tkD_row⟩,b_iD,n_iD⟩
  have WD2:DCls2 K mg qD fiD _:=⟨WD,mmD,XGD⟩
  have GD:∀ base:Heap,FnOk l.prog w K mg base CX0 2 fiD _ ["self","row"] (spBD K):=fun base=>ok_bd FiD TE FSE bSE MS
  have GNo:∀ base:Heap,FnOk l.prog w K mg base CX0 1 fNo _ ["word"] spNoA:=fun base=>ok_noA FNo T TF
  have GRr:∀ base:Heap,FnOk l.prog w K mg base CX0 3 fRr _ ["row"] (spRrA K):=fun base=>ok_rrA FRr DRl (ok_rlA FRl T DNo (GNo base)) DRe (ok_reA FRe T TK' DI DNo (GNo base))
  have GRs:∀ base:Heap,FnOk l.prog w K mg base CX0 4 fRs _ ["text"] (spRsA K):=fun base=>ok_rsA FRs T hen DRr (GRr base) DGo DPb
  exact ⟨PySem.W.fnOf "law" "law" (defArgs (top 35)) (defBody (top 35)) (defScope (top 35)) .none kVLa dcLa pmLa anLa cdLa ctLa,fun s v=>.of_eq rfl,fun base _ _=>ok_law FLa T DB DP DS DDt (ok_dt FDt T DP DO DFr DW DBd) DLd (ok_ld FLd DTr (ok_tw FTr T)) DBe (ok_be FBe T DP DO) DDr (ok_dr FDr T DTi (ok_ti FTi T DIN DNi)) DMe (ok_meA FMe DRs (GRs base)) DAd (ok_ad FAd DRd (ok_rdA FRd DRs (GRs base) WD (GD base)) WD2)⟩
end Cm
open PySem PySem.W PyProof.Rows
set_option maxRecDepth 100000 in
set_option maxHeartbeats 0 in
theorem PySem.Challenge.cw_lanescribe_k33_dumps_bent_and_mended_holds : PySem.Challenge.rw_lanescribe_k33_dumps_bent_and_mended.Holds := by
  w_on
  refine Kd.head ?hw (by rfl) (by rfl) (by rfl) ?hc
  (case hw=>w_witness2)
  k_fill
  refine L2.walk_of (l:=PySem.Challenge.rw_lanescribe_k33_dumps_bent_and_mended) (n:=63) (k:=12) (x:="_law_script") (CX:=fun _=>L2.CX0) (sp:=fun w=>Cm.spLaw _) rfl (by decide) rfl ⟨rfl,by decide,by decide,rfl⟩ (fun w h Y=>PySem.W.kIn_of Y) ?F (fun _ _ a ns hl _ hS=>⟨a,ns,rfl,hS,hl,fun _=>rfl⟩) fun _ _ _ _ _ z=>z
  case F=>
    intro w mg fa h KX G hmg
    refine' Cm.all_mk KX G hmg ?aB ?lB ?cB ?kB ?aP ?lP ?cP ?kP ?aO ?lO ?cO ?kO ?aFr ?lFr ?cFr ?kFr ?aS ?lS ?cS ?kS ?aW ?lW ?cW ?kW ?aBd ?lBd ?cBd ?kBd ?aIN ?lIN ?cIN ?kIN ?aNi ?lNi ?cNi ?kNi ?aTr ?lTr ?cTr ?kTr ?aLd ?lLd ?cLd ?kLd ?aDt ?lDt ?cDt ?kDt ?aTi ?lTi ?cTi ?kTi ?aDr ?lDr ?cDr ?kDr ?aBe ?lBe ?cBe ?kBe ?aAd ?lAd ?cAd ?kAd ?aI ?lI ?cI ?kI ?aPb ?lPb ?cPb ?kPb ?aNo ?lNo ?cNo ?kNo ?aRr ?lRr ?cRr ?kRr ?aRl ?lRl ?cRl ?kRl ?aRe ?lRe ?cRe ?kRe ?aGo ?lGo ?cGo ?kGo ?aRs ?lRs ?cRs ?kRs ?aRd ?lRd ?cRd ?kRd ?aMe ?lMe ?cMe ?kMe ?aLa ?lLa ?cLa ?kLa ?z_len ?z_range ?z_list ?z_tuple ?z_str ?z_bool ?z_int ?z_min ?z_repr ?z_all ?z_any ?z_isinstance ?z_enumerate ?i_MOST_LETTERS ?i_MOST_FIGURES ?z_ValueError ?a_qS ?aSE ?lSE ?cSE ?kSE ?lTS ?fc ?sg ?rd1 ?rd2 ?a_qD ?x1D ?x2D ?x3D ?x4D ?x5D ?tkD_word ?tkD_row ?b_iD ?liD ?ciD ?kiD ?n_iD ?mmD ?g1D ?g2D ?g3D ?g4D ?g5D
    (case aB=>k_is)
    (case lB=>k_is)
    (case cB=>k_is)
    (case kB=>k_is)
    (case aP=>k_is)
    (case lP=>k_is)
    (case cP=>k_is)
    (case kP=>k_is)
    (case aO=>k_is)
    (case lO=>k_is)
    (case cO=>k_is)
    (case kO=>k_is)
    (case aFr=>k_is)
    (case lFr=>k_is)
    (case cFr=>k_is)
    (case kFr=>k_is)
    (case aS=>k_is)
    (case lS=>k_is)
    (case cS=>k_is)
    (case kS=>k_is)
    (case aW=>k_is)
    (case lW=>k_is)
    (case cW=>k_is)
    (case kW=>k_is)
    (case aBd=>k_is)
    (case lBd=>k_is)
    (case cBd=>k_is)
    (case kBd=>k_is)
    (case aIN=>k_is)
    (case lIN=>k_is)
    (case cIN=>k_is)
    (case kIN=>k_is)
    (case aNi=>k_is)
    (case lNi=>k_is)
    (case cNi=>k_is)
    (case kNi=>k_is)
    (case aTr=>k_is)
    (case lTr=>k_is)
    (case cTr=>k_is)
    (case kTr=>k_is)
    (case aLd=>k_is)
    (case lLd=>k_is)
    (case cLd=>k_is)
    (case kLd=>k_is)
    (case aDt=>k_is)
    (case lDt=>k_is)
    (case cDt=>k_is)
    (case kDt=>k_is)
    (case aTi=>k_is)
    (case lTi=>k_is)
    (case cTi=>k_is)
    (case kTi=>k_is)
    (case aDr=>k_is)
    (case lDr=>k_is)
    (case cDr=>k_is)
    (case kDr=>k_is)
    (case aBe=>k_is)
    (case lBe=>k_is)
    (case cBe=>k_is)
    (case kBe=>k_is)
    (case aAd=>k_is)
    (case lAd=>k_is)
    (case cAd=>k_is)
    (case kAd=>k_is)
    (case aI=>k_is)
    (case lI=>k_is)
    (case cI=>k_is)
    (case kI=>k_is)
    (case aPb=>k_is)
    (case lPb=>k_is)
    (case cPb=>k_is)
    (case kPb=>k_is)
    (case aNo=>k_is)
    (case lNo=>k_is)
    (case cNo=>k_is)
    (case kNo=>k_is)
    (case aRr=>k_is)
    (case lRr=>k_is)
    (case cRr=>k_is)
    (case kRr=>k_is)
    (case aRl=>k_is)
    (case lRl=>k_is)
    (case cRl=>k_is)
    (case kRl=>k_is)
    (case aRe=>k_is)
    (case lRe=>k_is)
    (case cRe=>k_is)
    (case kRe=>k_is)
    (case aGo=>k_is)
    (case lGo=>k_is)
    (case cGo=>k_is)
    (case kGo=>k_is)
    (case aRs=>k_is)
    (case lRs=>k_is)
    (case cRs=>k_is)
    (case kRs=>k_is)
    (case aRd=>k_is)
    (case lRd=>k_is)
    (case cRd=>k_is)
    (case kRd=>k_is)
    (case aMe=>k_is)
    (case lMe=>k_is)
    (case cMe=>k_is)
    (case kMe=>k_is)
    (case aLa=>k_is)
    (case lLa=>k_is)
    (case cLa=>k_is)
    (case kLa=>k_is)
    (case z_len=>k_is)
    (case z_range=>k_is)
    (case z_list=>k_is)
    (case z_tuple=>k_is)
    (case z_str=>k_is)
    (case z_bool=>k_is)
    (case z_int=>k_is)
    (case z_min=>k_is)
    (case z_repr=>k_is)
    (case z_all=>k_is)
    (case z_any=>k_is)
    (case z_isinstance=>k_is)
    (case z_enumerate=>k_is)
    (case i_MOST_LETTERS=>k_is)
    (case i_MOST_FIGURES=>k_is)
    (case z_ValueError=>k_is)
    (case a_qS=>k_is)
    (case aSE=>k_is)
    (case lSE=>k_is)
    (case cSE=>k_is)
    (case kSE=>k_is)
    (case lTS=>k_is)
    (case fc=>k_is)
    (case sg=>k_is)
    (case rd1=>k_is)
    (case rd2=>k_is)
    (case a_qD=>k_is)
    (case x1D=>kernel_rfl)
    (case x2D=>k_is)
    (case x3D=>kernel_rfl)
    (case x4D=>k_is)
    (case x5D=>k_is)
    (case tkD_word=>k_is)
    (case tkD_row=>k_is)
    (case b_iD=>k_is)
    (case liD=>k_is)
    (case ciD=>k_is)
    (case kiD=>k_is)
    (case n_iD=>k_is)
    (case mmD=>k_is)
    (case g1D=>k_is)
    (case g2D=>k_is)
    (case g3D=>k_is)
    (case g4D=>k_is)
    (case g5D=>k_is)
