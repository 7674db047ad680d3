import PyProof.Rows.All
import Wide.All
import OpenK.AllK
import Wide.FinOn
import KE.KNestM
import Lean
import PyProof.EqAt
import PyProof.EqKinds
import PyProof.TupleCall
import PyProof.StationsW
import PyProof.ExcBaseAll.ValueError
import PyProof.InstStoreFacts
import PyProof.RulesAs
import PyProof.RulesDel
import KE.KLam
import PyProof.ExcArgsOwn
import PyProof.AutoListH
import PyProof.StrWalks
import PyProof.StrBlockH
import PyProof.WalkInts
import PyProof.SeqI3
import PyProof.Rows.SetFrom
import PyProof.ZipIter
import KE.KTabLook
import PyProof.StrLaws
import KE.KIntText
import KE.KStrOpen
import PyProof.StrLawsTight
import PyProof.Rows.StrFit
import PyProof.Draws
import PyProof.EnumMake
import PyProof.StrCalls2
import PyProof.Rows.StrSplitJoin
import PyProof.CollectIter
import PyProof.StrBlock2
import PyProof.Rows.SortWalk
import PyProof.Rows.CallKwBuiltin
import KE.KMinBuiltin
import KE.KRevSl
import PyProof.DictItemsLoops
import PyProof.CollectWalk
import PyProof.ListRange
import KE.KSortAsk
import PySem.Challenge.RW_lanescribe_k28_rows_laid_into_one
set_option Elab.async false
set_option linter.all false
set_option maxRecDepth 1000000
set_option maxHeartbeats 0
namespace Kd
open PySem PySem.W
noncomputable section
theorem left_boot {p q:Program} {loose:List Str} {Xt:Shared->Bool} {α:Type} {Yf:Shared->α} {Ya:World->α} {N:Nat} (e:opening p=plainProg p.main.scope.names) (hN:Nat.ble 600 N=true) (f:∀ s,fenceModules? p s=some s)
 (h:∀ (w:World) (os:OsState),(topFrom treeTable p w N ⟨boot_heap w.params,Array.mk [],boot_drawn,boot_toks,os⟩).map (fun s=>(openSeen q loose (importedModules p.main.body) Xt true s,Yf s))=some (openGood q loose,Ya w)):LeftO p q loose Xt Yf Ya N:=fun w=>by
 obtain ⟨⟨h',gs,d,k,os⟩,e1,e2⟩:=Option.map_eq_some_iff.mp (boot_open e hN f w)
 obtain ⟨rfl,rfl,rfl,rfl⟩:h'=boot_heap w.params/\gs=Array.mk []/\d=boot_drawn/\k=boot_toks:=by simpa using e2
 unfold openEnds
 rw [e1]
 exact h w os
abbrev u (x:String):Str:=Str.ofString x
abbrev vs (x:String) (t:Nat):Value:=.str (Str.ofString x) t
abbrev vi (x:Int) (t:Nat):Value:=.int x t
abbrev vr (x:Nat):Value:=.ref x
abbrev vt (x:String):Value:=.type x
abbrev vn:Value:=.none
abbrev vb:Value:=.bool true
abbrev vf (t:Nat):Value:=.str (Str.ofString "/claim/cut.py") t
abbrev ot (x:Array Value):Obj:={ cls:=.type "tuple",data:=Data.seq x }
abbrev oc (x:Array Value):Obj:={ cls:=.type "code",data:=Data.fields x }
abbrev of (n q:String) (a:Arguments) (b:List Stmt) (s:Scope) (d m c:Value):Obj:={ cls:=.type "function",data:=Data.func { name:=Str.ofString n,qualname:=Str.ofString q,params:=a,body:=FuncBody.stmts b,scope:=s,globals:=3,closure:=[],defaults:=d,kwdefaults:=.none,pyModule:=m,code:=c } }
abbrev de (P:Params) (x:String) (t:Nat) (v:Value):DictEntry:={ hash:=PyData.keyHash P (Str.ofString x),key:=.str (Str.ofString x) t,val:=v }
def tp (i:Nat):Stmt:=PySem.Challenge.pw_lanescribe_k28_rows_laid_into_one.main.body.getD i (.Pass ⟨0,0,0,0⟩)
def meth (i j:Nat):Stmt:=match tp i with
 |.ClassDef _ _ _ body _ _ _ _ _ _ _=>body.getD j (.Pass ⟨0,0,0,0⟩)
 |_=>.Pass ⟨0,0,0,0⟩
def dA (s:Stmt):Arguments:=match s with
 |.FunctionDef _ a _ _ _ _ _ _ _ _=>a
 |_=>{ posonlyargs:=[],args:=[],vararg:=none,kwonlyargs:=[],kw_defaults:=[],kwarg:=none,defaults:=[] }
def dB (s:Stmt):List Stmt:=match s with
 |.FunctionDef _ _ b _ _ _ _ _ _ _=>b
 |_=>[]
def dS (s:Stmt):Scope:=match s with
 |.FunctionDef _ _ _ _ _ _ sc _ _ _=>sc
 |_=>{ kind:=.function,names:=[],isGenerator:=false,isCoroutine:=false }
abbrev TA (i:Nat):Arguments:=dA (tp i)
abbrev TB (i:Nat):List Stmt:=dB (tp i)
abbrev TS (i:Nat):Scope:=dS (tp i)
abbrev MA (i j:Nat):Arguments:=dA (meth i j)
abbrev MB (i j:Nat):List Stmt:=dB (meth i j)
abbrev MS (i j:Nat):Scope:=dS (meth i j)
abbrev og (n q:String) (a:Arguments) (b:List Stmt) (s:Scope):Obj:={ cls:=.none,data:=Data.func { name:=Str.ofString n,qualname:=Str.ofString q,params:=a,body:=FuncBody.stmts b,scope:=s,globals:=0,closure:=[],defaults:=.none,kwdefaults:=.none } }
abbrev gt (n:String) (i:Nat):Obj:=og n n (TA i) (TB i) (TS i)
abbrev gm (n q:String) (i j:Nat):Obj:=og n q (MA i j) (MB i j) (MS i j)
abbrev ft (n:String) (i:Nat):Value->Value->Value->Obj:=of n n (TA i) (TB i) (TS i)
abbrev fm (n q:String) (i j:Nat):Value->Value->Value->Obj:=of n q (MA i j) (MB i j) (MS i j)
abbrev oq (n:String) (a:Nat) (q:String) (b c:Nat) (l k:Int) (r s:Nat) (x y z:Value) (t:Int) (d:Nat):Obj:=oc #[vs n a,vs q b,vf c,vi l 0,vi k 0,vi 0 0,vi 0 0,vi 3 0,vr r,vb,vi 181 0,vr s,vn,x,y,z,vi t 0,vi l 0,vf d]
abbrev ok (n:String) (a b c:Nat) (l k:Int) (r s:Nat) (x y z:Value) (t:Int) (d:Nat):Obj:=oq n a n b c l k r s x y z t d
abbrev z1:Value:=vs "lanescribe.errors" 187
abbrev z2:Value:=vs "law_lanescribe_k28_rows_laid_into_one" 352
abbrev z3:Value:=vs "lanescribe.merge" 328
def o0:Obj:=ot #[]
def o1:Obj:={ cls:=vn,data:=Data.fields #[] }
def o2:Obj:=oc #[vs "<module>" 182,vs "<module>" 183,vf 184,vi 1 0,vi 0 0,vi 0 0,vi 0 0,vi 0 0,vr 11,Value.bool false,vi 181 0,vr 12,vn,vn,vn,vn,vi 185 0,vi 1 0,vf 186]
def o3:Obj:={ cls:=vt "frame",slots:=#[some (vr 13),some (vr 3),some (vr 3),none,some (vs "__main__" 164),none,some (vr 0)] }
def o4 (P:Params):Obj:={ cls:=vt "dict",data:=Data.dict #[de P "__name__" 165 z1,de P "__doc__" 166 (vn),de P "__package__" 167 (vn),de P "__loader__" 168 (Value.builtin "__main__.__loader__#opaque"),de P "__spec__" 169 (vn),de P "__annotations__" 170 (vr 6),de P "__builtins__" 171 (vr 4),de P "__file__" 173 (vf 172),de P "__cached__" 174 (vn),de P "ScribeError" 218 (vr 32),de P "BadSize" 243 (vr 53),de P "BadCause" 268 (vr 73),de P "BadValue" 293 (vr 92),de P "Missing" 323 (vr 112)] 14 }
def o5:Obj:={ cls:=vn,data:=Data.fields #[vi 2 0,vi 0 0,vr 20,vi 7 0,vi 0 0,vr 41,vi 11 0,vi 0 0,vr 61,vi 15 0,vi 0 0,vr 81,vi 20 0,vi 0 0,vr 100] }
def o6:Obj:=ot #[vt "ValueError"]
def o7:Obj:={ cls:=vt "builtin_function_or_method",data:=Data.fields #[Value.builtin "type.__prepare__",vt "type"] }
def o8 (P:Params):Obj:={ cls:=vt "dict",data:=Data.dict #[de P "__module__" 196 z1,de P "__qualname__" 198 (vs "ScribeError" 197),de P "__firstlineno__" 200 (vi 2 199),de P "__init__" 211 (vr 29),de P "__static_attributes__" 213 (vr 30)] 5 }
def o9:Obj:={ cls:=vn,data:=Data.fields #[vi 4 0,vi 4 0,vr 28] }
def o10:Obj:=oc #[vs "ScribeError" 191,vs "ScribeError" 192,vf 193,vi 2 0,vi 0 0,vi 0 0,vi 0 0,vi 0 0,vr 18,Value.bool false,vi 181 0,vr 19,vn,vn,vn,vn,vi 194 0,vi 2 0,vf 195]
def o11:Obj:={ cls:=vt "frame",slots:=#[some (vr 20),some (vr 3),some (vr 17),none,some z1,none,some (vr 0)] }
def o12:Obj:=ot #[vs "" 201,vs "scribeerror" 202]
def o13:Obj:=ot #[vs "self" 206,vs "words" 207,vs "word" 208]
def o14:Obj:=gm "__init__" "ScribeError.__init__" 1 0
def o15:Obj:=oq "__init__" 203 "ScribeError.__init__" 204 205 4 3 23 24 (vr 25) (vr 26) (vr 27) 209 210
def o16:Obj:=fm "__init__" "ScribeError.__init__" 1 0 (vr 22) z1 (vr 28)
def o17:Obj:=ot #[vs "word" 212]
def o18 (P:Params):Obj:={ cls:=vt "dict",data:=Data.dict #[de P "__module__" 196 z1,de P "__firstlineno__" 200 (vi 2 199),de P "__init__" 211 (vr 29),de P "__static_attributes__" 213 (vr 30),de P "__weakref__" 215 (vr 33),de P "__doc__" 216 (vn)] 3 }
def o19:Obj:={ cls:=vt "type",data:=Data.cls { name:=u "ScribeError",bases:=[vt "ValueError"],mro:=[vr 32,vt "ValueError",vt "Exception",vt "BaseException",vt "object"],ns:=31,qualname:=u "ScribeError",subclasses:=[vr 53,vr 73,vr 92] },slots:=#[some (vr 15),none,some (vs "ScribeError" 189),some (vs "ScribeError" 197),some (Value.builtin "ValueError.__new__"),some (vb)] }
def o20:Obj:={ cls:=vt "getset_descriptor",data:=Data.fields #[vs "__weakref__" 214,vr 32,Value.builtin "ExceptionGroup.__weakref__",vn] }
def o21:Obj:={ cls:=vt "super",data:=Data.fields #[vr 32,vr 32,vr 32] }
def o22:Obj:={ cls:=vt "builtin_function_or_method",data:=Data.fields #[Value.builtin "object.__init_subclass__",vr 32] }
def o23:Obj:=ot #[vr 32]
def o24 (P:Params):Obj:={ cls:=vt "dict",data:=Data.dict #[de P "__module__" 226 z1,de P "__qualname__" 228 (vs "BadSize" 227),de P "__firstlineno__" 230 (vi 7 229),de P "__init__" 239 (vr 50),de P "__static_attributes__" 240 (vr 51)] 5 }
def o25:Obj:={ cls:=vn,data:=Data.fields #[vi 9 0,vi 4 0,vr 49] }
def o26:Obj:=oc #[vs "BadSize" 221,vs "BadSize" 222,vf 223,vi 7 0,vi 0 0,vi 0 0,vi 0 0,vi 0 0,vr 39,Value.bool false,vi 181 0,vr 40,vn,vn,vn,vn,vi 224 0,vi 7 0,vf 225]
def o27:Obj:={ cls:=vt "frame",slots:=#[some (vr 41),some (vr 3),some (vr 38),none,some z1,none,some (vr 0)] }
def o28:Obj:=ot #[vs "" 231]
def o29:Obj:=ot #[vs "self" 235,vs "words" 236]
def o30:Obj:=gm "__init__" "BadSize.__init__" 2 0
def o31:Obj:=oq "__init__" 232 "BadSize.__init__" 233 234 9 2 44 45 (vr 46) (vr 47) (vr 48) 237 238
def o32:Obj:=fm "__init__" "BadSize.__init__" 2 0 (vr 43) z1 (vr 49)
def o33 (P:Params):Obj:={ cls:=vt "dict",data:=Data.dict #[de P "__module__" 226 z1,de P "__firstlineno__" 230 (vi 7 229),de P "__init__" 239 (vr 50),de P "__static_attributes__" 240 (vr 51),de P "__doc__" 241 (vn)] 2 }
def o34:Obj:={ cls:=vt "type",data:=Data.cls { name:=u "BadSize",bases:=[vr 32],mro:=[vr 53,vr 32,vt "ValueError",vt "Exception",vt "BaseException",vt "object"],ns:=52,qualname:=u "BadSize" },slots:=#[some (vr 36),none,some (vs "BadSize" 219),some (vs "BadSize" 227),some (Value.builtin "ValueError.__new__"),some (vb)] }
def o35:Obj:={ cls:=vt "super",data:=Data.fields #[vr 53,vr 53,vr 53] }
def o36:Obj:={ cls:=vt "builtin_function_or_method",data:=Data.fields #[Value.builtin "object.__init_subclass__",vr 53] }
def o37 (P:Params):Obj:={ cls:=vt "dict",data:=Data.dict #[de P "__module__" 251 z1,de P "__qualname__" 253 (vs "BadCause" 252),de P "__firstlineno__" 255 (vi 11 254),de P "__init__" 264 (vr 70),de P "__static_attributes__" 265 (vr 71)] 5 }
def o38:Obj:={ cls:=vn,data:=Data.fields #[vi 13 0,vi 4 0,vr 69] }
def o39:Obj:=oc #[vs "BadCause" 246,vs "BadCause" 247,vf 248,vi 11 0,vi 0 0,vi 0 0,vi 0 0,vi 0 0,vr 59,Value.bool false,vi 181 0,vr 60,vn,vn,vn,vn,vi 249 0,vi 11 0,vf 250]
def o40:Obj:={ cls:=vt "frame",slots:=#[some (vr 61),some (vr 3),some (vr 58),none,some z1,none,some (vr 0)] }
def o41:Obj:=ot #[vs "" 256]
def o42:Obj:=ot #[vs "self" 260,vs "words" 261]
def o43:Obj:=gm "__init__" "BadCause.__init__" 3 0
def o44:Obj:=oq "__init__" 257 "BadCause.__init__" 258 259 13 2 64 65 (vr 66) (vr 67) (vr 68) 262 263
def o45:Obj:=fm "__init__" "BadCause.__init__" 3 0 (vr 63) z1 (vr 69)
def o46 (P:Params):Obj:={ cls:=vt "dict",data:=Data.dict #[de P "__module__" 251 z1,de P "__firstlineno__" 255 (vi 11 254),de P "__init__" 264 (vr 70),de P "__static_attributes__" 265 (vr 71),de P "__doc__" 266 (vn)] 2 }
def o47:Obj:={ cls:=vt "type",data:=Data.cls { name:=u "BadCause",bases:=[vr 32],mro:=[vr 73,vr 32,vt "ValueError",vt "Exception",vt "BaseException",vt "object"],ns:=72,qualname:=u "BadCause" },slots:=#[some (vr 56),none,some (vs "BadCause" 244),some (vs "BadCause" 252),some (Value.builtin "ValueError.__new__"),some (vb)] }
def o48:Obj:={ cls:=vt "super",data:=Data.fields #[vr 73,vr 73,vr 73] }
def o49:Obj:={ cls:=vt "builtin_function_or_method",data:=Data.fields #[Value.builtin "object.__init_subclass__",vr 73] }
def o50 (P:Params):Obj:={ cls:=vt "dict",data:=Data.dict #[de P "__module__" 276 z1,de P "__qualname__" 278 (vs "BadValue" 277),de P "__firstlineno__" 280 (vi 15 279),de P "__init__" 288 (vr 89),de P "__static_attributes__" 290 (vr 90)] 5 }
def o51:Obj:={ cls:=vn,data:=Data.fields #[vi 17 0,vi 4 0,vr 88] }
def o52:Obj:=oc #[vs "BadValue" 271,vs "BadValue" 272,vf 273,vi 15 0,vi 0 0,vi 0 0,vi 0 0,vi 0 0,vr 79,Value.bool false,vi 181 0,vr 80,vn,vn,vn,vn,vi 274 0,vi 15 0,vf 275]
def o53:Obj:={ cls:=vt "frame",slots:=#[some (vr 81),some (vr 3),some (vr 78),none,some z1,none,some (vr 0)] }
def o54:Obj:=ot #[vs "self" 284,vs "at" 285]
def o55:Obj:=gm "__init__" "BadValue.__init__" 4 0
def o56:Obj:=oq "__init__" 281 "BadValue.__init__" 282 283 17 2 83 84 (vr 85) (vr 86) (vr 87) 286 287
def o57:Obj:=fm "__init__" "BadValue.__init__" 4 0 vn z1 (vr 88)
def o58:Obj:=ot #[vs "at" 289]
def o59 (P:Params):Obj:={ cls:=vt "dict",data:=Data.dict #[de P "__module__" 276 z1,de P "__firstlineno__" 280 (vi 15 279),de P "__init__" 288 (vr 89),de P "__static_attributes__" 290 (vr 90),de P "__doc__" 291 (vn)] 2 }
def o60:Obj:={ cls:=vt "type",data:=Data.cls { name:=u "BadValue",bases:=[vr 32],mro:=[vr 92,vr 32,vt "ValueError",vt "Exception",vt "BaseException",vt "object"],ns:=91,qualname:=u "BadValue" },slots:=#[some (vr 76),none,some (vs "BadValue" 269),some (vs "BadValue" 277),some (Value.builtin "ValueError.__new__"),some (vb)] }
def o61:Obj:={ cls:=vt "super",data:=Data.fields #[vr 92,vr 92,vr 92] }
def o62:Obj:={ cls:=vt "builtin_function_or_method",data:=Data.fields #[Value.builtin "object.__init_subclass__",vr 92] }
def o63:Obj:=ot #[vt "LookupError"]
def o64 (P:Params):Obj:={ cls:=vt "dict",data:=Data.dict #[de P "__module__" 301 z1,de P "__qualname__" 303 (vs "Missing" 302),de P "__firstlineno__" 305 (vi 20 304),de P "__init__" 316 (vr 109),de P "__static_attributes__" 318 (vr 110)] 5 }
def o65:Obj:={ cls:=vn,data:=Data.fields #[vi 22 0,vi 4 0,vr 108] }
def o66:Obj:=oc #[vs "Missing" 296,vs "Missing" 297,vf 298,vi 20 0,vi 0 0,vi 0 0,vi 0 0,vi 0 0,vr 98,Value.bool false,vi 181 0,vr 99,vn,vn,vn,vn,vi 299 0,vi 20 0,vf 300]
def o67:Obj:={ cls:=vt "frame",slots:=#[some (vr 100),some (vr 3),some (vr 97),none,some z1,none,some (vr 0)] }
def o68:Obj:=ot #[vs "" 306,vs "missing" 307]
def o69:Obj:=ot #[vs "self" 311,vs "words" 312,vs "word" 313]
def o70:Obj:=gm "__init__" "Missing.__init__" 5 0
def o71:Obj:=oq "__init__" 308 "Missing.__init__" 309 310 22 3 103 104 (vr 105) (vr 106) (vr 107) 314 315
def o72:Obj:=fm "__init__" "Missing.__init__" 5 0 (vr 102) z1 (vr 108)
def o73:Obj:=ot #[vs "word" 317]
def o74 (P:Params):Obj:={ cls:=vt "dict",data:=Data.dict #[de P "__module__" 301 z1,de P "__firstlineno__" 305 (vi 20 304),de P "__init__" 316 (vr 109),de P "__static_attributes__" 318 (vr 110),de P "__weakref__" 320 (vr 113),de P "__doc__" 321 (vn)] 3 }
def o75:Obj:={ cls:=vt "type",data:=Data.cls { name:=u "Missing",bases:=[vt "LookupError"],mro:=[vr 112,vt "LookupError",vt "Exception",vt "BaseException",vt "object"],ns:=111,qualname:=u "Missing" },slots:=#[some (vr 95),none,some (vs "Missing" 294),some (vs "Missing" 302),some (Value.builtin "LookupError.__new__"),some (vb)] }
def o76:Obj:={ cls:=vt "getset_descriptor",data:=Data.fields #[vs "__weakref__" 319,vr 112,Value.builtin "ExceptionGroup.__weakref__",vn] }
def o77:Obj:={ cls:=vt "super",data:=Data.fields #[vr 112,vr 112,vr 112] }
def o78:Obj:={ cls:=vt "builtin_function_or_method",data:=Data.fields #[Value.builtin "object.__init_subclass__",vr 112] }
def o79 (P:Params):Obj:={ cls:=vt "dict",data:=Data.dict #[de P "__name__" 165 z2,de P "__doc__" 166 (vn),de P "__package__" 167 (vn),de P "__loader__" 168 (Value.builtin "__main__.__loader__#opaque"),de P "__spec__" 169 (vn),de P "__annotations__" 170 (vr 6),de P "__builtins__" 171 (vr 4),de P "__file__" 173 (vf 172),de P "__cached__" 174 (vn),de P "ScribeError" 218 (vr 32),de P "BadSize" 243 (vr 53),de P "BadCause" 268 (vr 73),de P "BadValue" 293 (vr 92),de P "Missing" 323 (vr 112),de P "LIMIT" 325 (vi 999999 324),de P "MOST_LANES" 327 (vi 6 326),de P "need_cause" 339 (vr 122),de P "ties_of" 345 (vr 127),de P "merged" 351 (vr 132),de P "_law_begin" 362 (vr 139),de P "_law_pick" 373 (vr 146),de P "_law_of" 381 (vr 153),de P "_law_far" 389 (vr 160),de P "_law_same" 395 (vr 165),de P "_law_ask" 405 (vr 172)] 25 }
def o80:Obj:={ cls:=vn,data:=Data.fields #[vi 2 0,vi 0 0,vr 20,vi 7 0,vi 0 0,vr 41,vi 11 0,vi 0 0,vr 61,vi 15 0,vi 0 0,vr 81,vi 20 0,vi 0 0,vr 100,vi 28 0,vi 0 0,vr 121,vi 33 0,vi 0 0,vr 126,vi 37 0,vi 0 0,vr 131,vi 43 0,vi 0 0,vr 138,vi 48 0,vi 0 0,vr 145,vi 63 0,vi 0 0,vr 152,vi 65 0,vi 0 0,vr 159,vi 68 0,vi 0 0,vr 164,vi 78 0,vi 0 0,vr 171] }
def o81:Obj:=ot #[vs "lane" 333,vs "time" 334,vs "other" 335,vs "second" 336]
def o82:Obj:=gt "need_cause" 9
def o83:Obj:=ok "need_cause" 330 331 332 28 4 116 117 (vr 118) (vr 119) (vr 120) 337 338
def o84:Obj:=ft "need_cause" 9 vn z3 (vr 121)
def o85:Obj:=gt "ties_of" 10
def o86:Obj:=ok "ties_of" 340 341 342 33 1 123 124 vn vn (vr 125) 343 344
def o87:Obj:=ft "ties_of" 10 vn z3 (vr 126)
def o88:Obj:=gt "merged" 11
def o89:Obj:=ok "merged" 346 347 348 37 2 128 129 vn vn (vr 130) 349 350
def o90:Obj:=ft "merged" 11 vn z3 (vr 131)
def o91:Obj:=ot #[vs "_law_script" 357,vs "_law_seed" 358,vs "_law_cell" 359]
def o92:Obj:=gt "_law_begin" 13
def o93:Obj:=ok "_law_begin" 354 355 356 43 1 133 134 (vr 135) (vr 136) (vr 137) 360 361
def o94:Obj:=ft "_law_begin" 13 vn z2 (vr 138)
def o95:Obj:=ot #[vs "_law_d" 366,vs "_law_many" 367,vs "_law_cell" 368,vs "_law_digit" 369,vs "_law_one" 370]
def o96:Obj:=gt "_law_pick" 14
def o97:Obj:=ok "_law_pick" 363 364 365 48 2 140 141 (vr 142) (vr 143) (vr 144) 371 372
def o98:Obj:=ft "_law_pick" 14 vn z2 (vr 145)
def o99:Obj:=ot #[vs "_law_d" 377,vs "_law_things" 378]
def o100:Obj:=gt "_law_of" 15
def o101:Obj:=ok "_law_of" 374 375 376 63 2 147 148 (vr 149) (vr 150) (vr 151) 379 380
def o102:Obj:=ft "_law_of" 15 vn z2 (vr 152)
def o103:Obj:=ot #[vs "_law_d" 385,vs "_law_number" 386]
def o104:Obj:=gt "_law_far" 16
def o105:Obj:=ok "_law_far" 382 383 384 65 1 154 155 (vr 156) (vr 157) (vr 158) 387 388
def o106:Obj:=ft "_law_far" 16 vn z2 (vr 159)
def o107:Obj:=gt "_law_same" 17
def o108:Obj:=ok "_law_same" 390 391 392 68 2 161 162 vn vn (vr 163) 393 394
def o109:Obj:=ft "_law_same" 17 vn z2 (vr 164)
def o110:Obj:=ot #[vs "_law_ask_here" 399,vs "_law_told" 400,vs "_law_word" 401,vs "e" 402]
def o111:Obj:=gt "_law_ask" 18
def o112:Obj:=ok "_law_ask" 396 397 398 78 1 166 167 (vr 168) (vr 169) (vr 170) 403 404
def o113:Obj:=ft "_law_ask" 18 vn z2 (vr 171)
def KK:Params->Frag:=fun P=>
 (nat_lit 2,{ cls:=vn,data:=Data.dict #[] })::
 (nat_lit 3,{ cls:=vt "dict",data:=Data.dict #[de P "__name__" 165 z2,de P "__doc__" 166 (vn),de P "__package__" 167 (vn),de P "__loader__" 168 (Value.builtin "__main__.__loader__#opaque"),de P "__spec__" 169 (vn),de P "__annotations__" 170 (vr 6),de P "__builtins__" 171 (vr 4),de P "__file__" 173 (vf 172),de P "__cached__" 174 (vn),de P "ScribeError" 218 (vr 32),de P "BadSize" 243 (vr 53),de P "BadCause" 268 (vr 73),de P "BadValue" 293 (vr 92),de P "Missing" 323 (vr 112),de P "LIMIT" 325 (vi 999999 324),de P "MOST_LANES" 327 (vi 6 326),de P "need_cause" 339 (vr 122),de P "ties_of" 345 (vr 127),de P "merged" 351 (vr 132),de P "_law_begin" 362 (vr 139),de P "_law_pick" 373 (vr 146),de P "_law_of" 381 (vr 153),de P "_law_far" 389 (vr 160),de P "_law_same" 395 (vr 165),de P "_law_ask" 405 (vr 172),de P "_law_told_rows" 419 (vr 179),de P "_law_causes" 425 (vr 184),de P "_law_ties_by" 431 (vr 189),de P "_law_laid" 437 (vr 194),de P "law" 443 (vr 199)] 30 })::
 (nat_lit 15,o6)::
 (nat_lit 22,o12)::
 (nat_lit 23,o0)::
 (nat_lit 25,o13)::
 (nat_lit 26,o0)::
 (nat_lit 28,o15)::
 (nat_lit 29,o16)::
 (nat_lit 30,o17)::
 (nat_lit 31,o18 P)::
 (nat_lit 32,o19)::
 (nat_lit 33,o20)::
 (nat_lit 36,o23)::
 (nat_lit 43,o28)::
 (nat_lit 44,o0)::
 (nat_lit 46,o29)::
 (nat_lit 47,o0)::
 (nat_lit 49,o31)::
 (nat_lit 50,o32)::
 (nat_lit 51,o0)::
 (nat_lit 52,o33 P)::
 (nat_lit 53,o34)::
 (nat_lit 56,o23)::
 (nat_lit 63,o41)::
 (nat_lit 64,o0)::
 (nat_lit 66,o42)::
 (nat_lit 67,o0)::
 (nat_lit 69,o44)::
 (nat_lit 70,o45)::
 (nat_lit 71,o0)::
 (nat_lit 72,o46 P)::
 (nat_lit 73,o47)::
 (nat_lit 76,o23)::
 (nat_lit 83,o0)::
 (nat_lit 85,o54)::
 (nat_lit 86,o0)::
 (nat_lit 88,o56)::
 (nat_lit 89,o57)::
 (nat_lit 90,o58)::
 (nat_lit 91,o59 P)::
 (nat_lit 92,o60)::
 (nat_lit 95,o63)::
 (nat_lit 102,o68)::
 (nat_lit 103,o0)::
 (nat_lit 105,o69)::
 (nat_lit 106,o0)::
 (nat_lit 108,o71)::
 (nat_lit 109,o72)::
 (nat_lit 110,o73)::
 (nat_lit 111,o74 P)::
 (nat_lit 112,o75)::
 (nat_lit 113,o76)::
 (nat_lit 116,o0)::
 (nat_lit 118,o81)::
 (nat_lit 119,o0)::
 (nat_lit 121,o83)::
 (nat_lit 122,o84)::
 (nat_lit 123,o0)::
 (nat_lit 126,o86)::
 (nat_lit 127,o87)::
 (nat_lit 128,o0)::
 (nat_lit 131,o89)::
 (nat_lit 132,o90)::
 (nat_lit 133,o0)::
 (nat_lit 135,o91)::
 (nat_lit 136,o0)::
 (nat_lit 138,o93)::
 (nat_lit 139,o94)::
 (nat_lit 140,o0)::
 (nat_lit 142,o95)::
 (nat_lit 143,o0)::
 (nat_lit 145,o97)::
 (nat_lit 146,o98)::
 (nat_lit 147,o0)::
 (nat_lit 149,o99)::
 (nat_lit 150,o0)::
 (nat_lit 152,o101)::
 (nat_lit 153,o102)::
 (nat_lit 154,o0)::
 (nat_lit 156,o103)::
 (nat_lit 157,o0)::
 (nat_lit 159,o105)::
 (nat_lit 160,o106)::
 (nat_lit 161,o0)::
 (nat_lit 164,o108)::
 (nat_lit 165,o109)::
 (nat_lit 166,o0)::
 (nat_lit 168,o110)::
 (nat_lit 169,o0)::
 (nat_lit 171,o112)::
 (nat_lit 172,o113)::
 (nat_lit 173,o0)::
 (nat_lit 175,ot #[vs "_law_d" 409,vs "_law_lanes" 410,vs "_law_rows" 411,vs "_law_lane" 412,vs "_law_place" 413,vs "_law_time" 414,vs "_law_told" 415,vs "_law_step" 416])::
 (nat_lit 176,o0)::
 (nat_lit 178,ok "_law_told_rows" 406 407 408 90 2 173 174 (vr 175) (vr 176) (vr 177) 417 418)::
 (nat_lit 179,ft "_law_told_rows" 19 vn z2 (vr 178))::
 (nat_lit 180,o0)::
 (nat_lit 183,ok "_law_causes" 420 421 422 103 3 180 181 vn vn (vr 182) 423 424)::
 (nat_lit 184,ft "_law_causes" 20 vn z2 (vr 183))::
 (nat_lit 185,o0)::
 (nat_lit 188,ok "_law_ties_by" 426 427 428 112 1 185 186 vn vn (vr 187) 429 430)::
 (nat_lit 189,ft "_law_ties_by" 21 vn z2 (vr 188))::
 (nat_lit 190,o0)::
 (nat_lit 193,ok "_law_laid" 432 433 434 114 2 190 191 vn vn (vr 192) 435 436)::
 (nat_lit 194,ft "_law_laid" 22 vn z2 (vr 193))::
 (nat_lit 195,o0)::
 (nat_lit 198,ok "law" 438 439 440 126 1 195 196 vn vn (vr 197) 441 442)::
 (nat_lit 199,ft "law" 23 vn z2 (vr 198))::[]
def asK:List Addr:=[2,3,15,22,23,25,26,28,29,30,31,32,33,36,43,44,46,47,49,50,51,52,53,56,63,64,66,67,69,70,71,72,73,76,83,85,86,88,89,90,91,92,95,102,103,105,106,108,109,110,111,112,113,116,118,119,121,122,123,126,127,128,131,132,133,135,136,138,139,140,142,143,145,146,147,149,150,152,153,154,156,157,159,160,161,164,165,166,168,169,171,172,173,175,176,178,179,180,183,184,185,188,189,190,193,194,195,198,199]
theorem eK:∀ P,asK=(KK P).map (·.1):=fun P=>by kernel_rfl
def vw:Program:={ PySem.Challenge.pw_lanescribe_k28_rows_laid_into_one with main:={ PySem.Challenge.pw_lanescribe_k28_rows_laid_into_one.main with body:=[tp 1,tp 2,tp 3,tp 4,tp 5,tp 6,tp 7,tp 9,tp 10,tp 11,tp 13,tp 14,tp 15,tp 16,tp 17,tp 18,tp 19,tp 20,tp 21,tp 22,tp 23] } }
def ls:List Str:=[u "ScribeError",u "BadSize",u "BadCause",u "Missing"]
def lv:List (Str×WData):=[]
abbrev Xt:Shared->Bool:=fun s=>xlAt vw lv s && recOk (RowW.records (OpenRow.toRowW PySem.Challenge.rw_lanescribe_k28_rows_laid_into_one.row)) s
abbrev hk:Hook:=kmHook KK asK eK [129,196]
theorem said:PySem.Challenge.rw_lanescribe_k28_rows_laid_into_one.wellSaid=true:=by kernel_rfl
theorem openP:opening (OpenRow.toRowW PySem.Challenge.rw_lanescribe_k28_rows_laid_into_one.row).prog=plainProg (OpenRow.toRowW PySem.Challenge.rw_lanescribe_k28_rows_laid_into_one.row).prog.main.scope.names:=by kernel_rfl
theorem by_parts {p:Program} {w:World} {N L:Nat} {s0 s':Shared} {t':Thread} {m0:Nat} {ann:Option Value} {β:Type} {F:Shared->β} {X:β} (h1:(s0.heap.isNs mainGlobals && s0.gens.size == 0)=true) (h2:s0.heap.objs.size=m0) (h3:s0.heap.nsMap mainGlobals "__annotations__" = ann)
 (chain:∀ r,topRun treeTable p w m0 ann L s' t'=some r->topRun treeTable p w m0 ann N s0 (topStub p)=some r)
 (last:((topRun treeTable p w m0 ann L s' t').bind fun s₁=>match staticsOk (importedModules p.main.body) s0.heap s₁.heap && namesBound p s₁.heap && gensDone s₁ && laidKept s0.heap s₁.heap with
  |true=>some s₁
  |false=>none).map F=some X):(topFrom treeTable p w N s0).map F=some X:=by
 cases hA:topRun treeTable p w m0 ann L s' t' with
 |none=>rw [hA] at last;cases last
 | some r=>
   have e:=chain r hA
   unfold topFrom
   rw [h1,h2,h3,e]
   rw [hA] at last
   exact last
abbrev pp:Program:=(OpenRow.toRowW PySem.Challenge.rw_lanescribe_k28_rows_laid_into_one.row).prog
def env:Env:={ scope:=pp.main.scope,locals:=mainNs,globals:=mainNs,cells:=[],code:=vr 13,frame:=some 14 }
abbrev cd:Code:=.body (behindTheImports pp) env
abbrev fp:Pos:={ line:=0,col:=0,endLine:=0,endCol:=0 }
abbrev an:Option Value:=some (vr 6)
abbrev S_0 (w:World) (os:OsState):Shared:=⟨boot_heap w.params,Array.mk [],boot_drawn,boot_toks,os⟩
def h_a (P:Params):Heap:=⟨⟨boot_o_0 P::boot_o_1 P::boot_o_2 P::boot_o_3 P::boot_o_4 P::boot_o_5 P::boot_o_6 P::boot_o_7 P::boot_o_8 P::boot_o_9 P::boot_o_10 P::o0::o1::o2::o3::[]⟩,{ }⟩
abbrev S_a (w:World) (os:OsState):Shared:=⟨h_a w.params,Array.mk [],{ },187,os⟩
abbrev p_a:Pos:={ line:=0,col:=0,endLine:=0,endCol:=0 }
def h_b (P:Params):Heap:=⟨⟨boot_o_0 P::boot_o_1 P::boot_o_2 P::boot_o_3 P::boot_o_4 P::boot_o_5 P::boot_o_6 P::boot_o_7 P::boot_o_8 P::boot_o_9 P::boot_o_10 P::o0::o1::o2::o3::[]⟩,{ }⟩
abbrev S_b (w:World) (os:OsState):Shared:=⟨h_b w.params,Array.mk [],{ },187,os⟩
abbrev p_b:Pos:={ line:=0,col:=0,endLine:=0,endCol:=0 }
theorem r_a (w:World) (os:OsState):topGo treeTable pp w 11 an 12 (S_0 w os) (topStub pp)=some (S_a w os,⟨denote treeTable cd,cd,p_a,[topFrame fp]⟩):=by kernel_rfl
theorem r_b (w:World) (os:OsState):segRun treeTable pp w 11 an 1 1 (S_a w os) (blockOf (behindTheImports pp) env cd p_a [topFrame fp])=some (.next,S_b w os,cd,p_b):=by kernel_rfl
def h_c6 (P:Params):Heap:=⟨⟨boot_o_0 P::boot_o_1 P::boot_o_2 P::o4 P::boot_o_4 P::boot_o_5 P::boot_o_6 P::boot_o_7 P::boot_o_8 P::boot_o_9 P::boot_o_10 P::o0::o5::o2::o3::o6::o7::o8 P::o0::o9::o10::o11::o12::o0::o1::o13::o0::o14::o15::o16::o17::o18 P::o19::o20::o21::o22::o23::o7::o24 P::o0::o25::o26::o27::o28::o0::o1::o29::o0::o30::o31::o32::o0::o33 P::o34::o35::o36::o23::o7::o37 P::o0::o38::o39::o40::o41::o0::o1::o42::o0::o43::o44::o45::o0::o46 P::o47::o48::o49::o23::o7::o50 P::o0::o51::o52::o53::o0::o1::o54::o0::o55::o56::o57::o58::o59 P::o60::o61::o62::o63::o7::o64 P::o0::o65::o66::o67::o68::o0::o1::o69::o0::o70::o71::o72::o73::o74 P::o75::o76::o77::o78::[]⟩,{ }⟩
abbrev S_c6 (w:World) (os:OsState):Shared:=⟨h_c6 w.params,Array.mk [],{ },324,os⟩
abbrev p_c6:Pos:={ line:=20,col:=0,endLine:=24,endCol:=24 }
abbrev l_6:List Stmt:=((behindTheImports pp).drop 0).take 6
theorem r_6 (w:World) (os:OsState):segRun treeTable pp w 11 an 1 1191 (S_b w os) (piecesOf l_6 env cd p_b [topFrame fp])=some (.next,S_c6 w os,cd,p_c6):=by kernel_rfl
def h_c19 (P:Params):Heap:=⟨⟨boot_o_0 P::boot_o_1 P::boot_o_2 P::o79 P::boot_o_4 P::boot_o_5 P::boot_o_6 P::boot_o_7 P::boot_o_8 P::boot_o_9 P::boot_o_10 P::o0::o80::o2::o3::o6::o7::o8 P::o0::o9::o10::o11::o12::o0::o1::o13::o0::o14::o15::o16::o17::o18 P::o19::o20::o21::o22::o23::o7::o24 P::o0::o25::o26::o27::o28::o0::o1::o29::o0::o30::o31::o32::o0::o33 P::o34::o35::o36::o23::o7::o37 P::o0::o38::o39::o40::o41::o0::o1::o42::o0::o43::o44::o45::o0::o46 P::o47::o48::o49::o23::o7::o50 P::o0::o51::o52::o53::o0::o1::o54::o0::o55::o56::o57::o58::o59 P::o60::o61::o62::o63::o7::o64 P::o0::o65::o66::o67::o68::o0::o1::o69::o0::o70::o71::o72::o73::o74 P::o75::o76::o77::o78::o0::o1::o81::o0::o82::o83::o84::o0::o1::o85::o86::o87::o0::o1::o88::o89::o90::o0::o1::o91::o0::o92::o93::o94::o0::o1::o95::o0::o96::o97::o98::o0::o1::o99::o0::o100::o101::o102::o0::o1::o103::o0::o104::o105::o106::o0::o1::o107::o108::o109::o0::o1::o110::o0::o111::o112::o113::[]⟩,{ }⟩
abbrev S_c19 (w:World) (os:OsState):Shared:=⟨h_c19 w.params,Array.mk [],{ },406,os⟩
abbrev p_c19:Pos:={ line:=78,col:=0,endLine:=89,endCol:=33 }
abbrev l_19:List Stmt:=((behindTheImports pp).drop 6).take 13
theorem r_19 (w:World) (os:OsState):segRun treeTable pp w 11 an 1 303 (S_c6 w os) (piecesOf l_19 env cd p_c6 [topFrame fp])=some (.next,S_c19 w os,cd,p_c19):=by kernel_rfl
abbrev l_z:List Stmt:=(behindTheImports pp).drop 19
theorem all_l:behindTheImports pp=(l_6++(l_19++l_z)):=by kernel_rfl
theorem last (w:World) (os:OsState):((topRun treeTable pp w 11 an 641 (S_c19 w os) (restOf l_z env cd p_c19 [topFrame fp])).bind fun s₁=>match staticsOk (importedModules pp.main.body) (S_0 w os).heap s₁.heap && namesBound pp s₁.heap && gensDone s₁ && laidKept (S_0 w os).heap s₁.heap with
 |true=>some s₁
 |false=>none).map (fun s=>(openSeen vw ls (importedModules pp.main.body) Xt true s,hk.obs s))=some (openGood vw ls,hk.val w):=by kernel_rfl
theorem chain (w:World) (os:OsState) (r:Shared) (h:topRun treeTable pp w 11 an 641 (S_c19 w os) (restOf l_z env cd p_c19 [topFrame fp])=some r):topRun treeTable pp w 11 an 2148 (S_0 w os) (topStub pp)=some r:=by
 have k:topRun treeTable pp w 11 an 2135 (S_b w os) (restOf (l_6++(l_19++l_z)) env cd p_b [topFrame fp])=some r:=piece_app (r_6 w os) (piece_app (r_19 w os) (h))
 rw [← all_l] at k
 exact go_top (n:=12) (N:=2136) (r_a w os) (piece_block (n:=1) (N:=2135) (r_b w os) k)
theorem run (w:World) (os:OsState):(topFrom treeTable pp w 2148 (S_0 w os)).map (fun s=>(openSeen vw ls (importedModules pp.main.body) Xt true s,hk.obs s))=some (openGood vw ls,hk.val w):=by_parts (s0:=S_0 w os) (by kernel_rfl) (by kernel_rfl) (by kernel_rfl) (chain w os) (last w os)
theorem left:LeftO (OpenRow.toRowW PySem.Challenge.rw_lanescribe_k28_rows_laid_into_one.row).prog vw ls Xt hk.obs hk.val 2148:=left_boot openP (by decide) (fun s=>by kernel_rfl) run
theorem head (hw:(OpenRow.toRowW PySem.Challenge.rw_lanescribe_k28_rows_laid_into_one.row).promised) {d:DefRec} {kwd:List (Str×Expr)} (hdef:defOf vw PySem.Challenge.rw_lanescribe_k28_rows_laid_into_one.row.name=some (d,kwd)) (hp:PySem.Challenge.rw_lanescribe_k28_rows_laid_into_one.row.prog.theDef PySem.Challenge.rw_lanescribe_k28_rows_laid_into_one.row.name=some (d.params,d.body,d.scope)) (hk1:kwWritten? d.params.kwonlyargs d.params.kw_defaults=some kwd)
 (hc:WalkO vw ls (XL vw lv) (kmHook KK asK eK [129,196]).says (OpenRow.toRowW PySem.Challenge.rw_lanescribe_k28_rows_laid_into_one.row) d kwd fun f vs=>PySem.call f vs):PySem.Challenge.rw_lanescribe_k28_rows_laid_into_one.Holds:=
 holds_law said fun said'=>holds_open (q:=vw) (loose:=ls) (Xt:=Xt) (XP:=XL vw lv) (Yf:=hk.obs) (Ya:=hk.val) (YP:=hk.says) (N:=2148) left hk.of hk.keeps (fun s e=>xl_of s (Bool.and_eq_true_iff.mp e).1) XL.keeps hdef hp hk1 (fun s e=>recFacts_of (Bool.and_eq_true_iff.mp e).2) (by rfl) said' (by decide +kernel) ⟨rfl,rfl,rfl,rfl,rfl,by decide +kernel⟩ hw hc
end
end Kd
namespace L2
open PySem PySem.Spec PyProof.Rows
abbrev Key:=Sum Int Str
def keyIs:Key->Value->Bool
 |.inl k,v=>Value.isInt k v
 |.inr x,v=>Value.isStrOf x v
def keyH (w:World):Key->Int
 |.inl k=>hashInt k
 |.inr x=>hashStr w x
theorem keyIs_shape:∀ {k:Key} {v:Value},keyIs k v=true->(∃ i t,k=Sum.inl i/\v=Value.int i t)∨(∃ x t,k=Sum.inr x/\v=Value.str x t)
 | .inl i,v,h=>by
   obtain ⟨t,e⟩:=Value.isInt_shape (k:=i) (v:=v) h
   exact .inl ⟨i,t,rfl,e⟩
 | .inr x,v,h=>by
   obtain ⟨t,e⟩:=Value.isStrOf_shape (x:=x) (v:=v) h
   exact .inr ⟨x,t,rfl,e⟩
theorem keyIs_int (i:Int) (t:Tok):keyIs (.inl i) (.int i t)=true:=by simp [keyIs,Value.isInt]
theorem keyIs_str (x:Str) (t:Tok):keyIs (.inr x) (.str x t)=true:=by simp [keyIs,Value.isStrOf]
theorem key_ll (a b:Int):decide ((Sum.inl a:Key)=Sum.inl b)=(a == b):=by
 by_cases e:a=b
 ·subst e;simp
 ·have h:¬ (Sum.inl a:Key)=Sum.inl b:=fun q=>e (Sum.inl.inj q)
  rw [decide_eq_false h]
  exact (beq_eq_false_iff_ne.mpr e).symm
theorem key_rr (a b:Str):decide ((Sum.inr a:Key)=Sum.inr b)=decide (a=b):=by
 by_cases e:a=b
 ·subst e;simp
 ·have h:¬ (Sum.inr a:Key)=Sum.inr b:=fun q=>e (Sum.inr.inj q)
  rw [decide_eq_false h,decide_eq_false e]
theorem key_lr (a:Int) (b:Str):decide ((Sum.inl a:Key)=Sum.inr b)=false:=decide_eq_false (fun q=>nomatch q)
theorem key_rl (a:Str) (b:Int):decide ((Sum.inr a:Key)=Sum.inl b)=false:=decide_eq_false (fun q=>nomatch q)
def mixKind (prog:Program) (w:World):PySem.KeyKind prog w Key where
 is:=keyIs
 hash:=keyH w
 inj:=fun v a b ha hb=>by
  rcases keyIs_shape ha with ⟨i,t,rfl,rfl⟩|⟨x,t,rfl,rfl⟩
  ·rcases keyIs_shape hb with ⟨j,u,rfl,e⟩|⟨y,u,rfl,e⟩
   ·injection e with e1 _;rw [e1]
   ·exact nomatch e
  ·rcases keyIs_shape hb with ⟨j,u,rfl,e⟩|⟨y,u,rfl,e⟩
   ·exact nomatch e
   ·injection e with e1 _;rw [e1]
 byValue:=fun k v h=>by
  rcases keyIs_shape h with ⟨i,t,rfl,rfl⟩|⟨x,t,rfl,rfl⟩ <;> rfl
 pyHash:=fun hv h=>by
  rcases keyIs_shape hv with ⟨i,t,rfl,rfl⟩|⟨x,t,rfl,rfl⟩
  ·exact wpAny_pyHash_int h
  ·exact wpAny_pyHash_str h
 eqBool:=fun hu hv h=>by
  rcases keyIs_shape hu with ⟨i,t,rfl,rfl⟩|⟨x,t,rfl,rfl⟩
  ·rcases keyIs_shape hv with ⟨j,u,rfl,rfl⟩|⟨y,u,rfl,rfl⟩
   ·rw [key_ll] at h;exact wpAny_eqBool_int h
   ·rw [key_lr] at h;exact SeqAt.EqAt.int_str i t y u _ _ _ _ h
  ·rcases keyIs_shape hv with ⟨j,u,rfl,rfl⟩|⟨y,u,rfl,rfl⟩
   ·rw [key_rl] at h;exact SeqAt.EqAt.str_int x t j u _ _ _ _ h
   ·rw [key_rr] at h;exact wpAny_eqBool_str h
 «strs»:=fun k x t v h=>by
  rcases keyIs_shape h with ⟨i,u,rfl,e⟩|⟨y,u,rfl,e⟩
  ·exact nomatch e
  ·injection e with e1 _
   subst e1
   cases v <;> rfl
theorem mixKind_int (prog:Program) (w:World) (i:Int) (t:Tok):(mixKind prog w).is (.inl i) (.int i t)=true:=keyIs_int i t
theorem mixKind_str (prog:Program) (w:World) (x:Str) (t:Tok):(mixKind prog w).is (.inr x) (.str x t)=true:=keyIs_str x t
inductive V where
 |non|bl (b:Bool)|int (i:Int)|str (x:Str)|byt (b:Array UInt8)|flt (b:UInt64)|ref (a:Addr)|ty (n:String)
 deriving DecidableEq
def RelV:V->Value->Prop
 |.non,u=>u=Value.none
 |.bl b,u=>u=Value.bool b
 |.int i,u=>∃ t,u=Value.int i t
 |.str x,u=>∃ t,u=Value.str x t
 |.byt b,u=>∃ t,u=Value.bytes b t
 |.flt b,u=>∃ t,u=Value.float b t
 |.ref a,u=>u=Value.ref a
 |.ty n,u=>u=Value.type n
abbrev Vals:List V->List Value->Prop:=Paired RelV
theorem Vals.length {xs:List V} {us:List Value} (r:Vals xs us):xs.length=us.length:=Paired.length r
theorem Vals.get:∀ {xs:List V} {us:List Value} {i:Nat} {x:V},Vals xs us->xs[i]?=some x->∃ u,us[i]?=some u/\RelV x u
 |_,_,_,_,.nil,e=>by simp at e
 |_,_,0,_,.cons r _,e=>by simp at e;subst e;exact ⟨_,rfl,r⟩
 | _,_,i+1,x,.cons _ t,e=>by
   obtain ⟨u,h1,h2⟩:=Vals.get (i:=i) (x:=x) t (by simpa using e)
   exact ⟨u,by simpa using h1,h2⟩
theorem Vals.append:∀ {xs ys:List V} {us ws:List Value},Vals xs us->Vals ys ws->Vals (xs++ys) (us++ws)
 |_,_,_,_,.nil,s=>s
 |_,_,_,_,.cons r t,s=>.cons r (Vals.append t s)
theorem Vals.take:∀ {xs:List V} {us:List Value} (n:Nat),Vals xs us->Vals (xs.take n) (us.take n)
 |_,_,0,_=>.nil
 |_,_,_+1,.nil=>.nil
 |_,_,n+1,.cons r t=>.cons r (Vals.take n t)
theorem Vals.drop:∀ {xs:List V} {us:List Value} (n:Nat),Vals xs us->Vals (xs.drop n) (us.drop n)
 |_,_,0,r=>r
 |_,_,_+1,.nil=>.nil
 |_,_,n+1,.cons _ t=>Vals.drop n t
def RelO:Option V->Option Value->Prop
 |some v,some u=>RelV v u
 |none,none=>True
 |_,_=>False
def KV {κ:Type}:List (κ×V)->List (κ×Value)->Prop:=Paired fun (p:κ×V) (q:κ×Value)=>p.1=q.1/\RelV p.2 q.2
def kV:Key->V
 |.inl i=>.int i
 |.inr x=>.str x
inductive HO where
 |lst (xs:List V)
 |tup (xs:List V)
 |dK (kvs:List (Key×V))|dT (kvs:List (List Key×V))
 |set (S:Int->Bool) (n:Nat)
 |ins (C dx:Addr) (fs:List (Str×V))
 |own (x:Addr)
 |xd (fs:List (Str×V))
 |met (f x:Addr)
 |rng (lo hi:Int)
 |frz (o:Obj) (u:HO)
 |tbl (ps:Array Value)
 |ext (φ:Heap->Prop)
abbrev Hp:=Addr->Option HO
def upd (H:Hp) (a:Addr) (o:HO):Hp:=fun b=>if b=a then some o else H b
theorem upd_same {H:Hp} {a:Addr} {o:HO}:upd H a o a=some o:=by unfold upd;rw [if_pos rfl]
theorem upd_ne {H:Hp} {a b:Addr} {o:HO} (h:b≠a):upd H a o b=H b:=by unfold upd;rw [if_neg h]
theorem ne_of {H:Hp} {a b:Addr} {o u:HO} (h:H a=some o) (h':H b=some u) (d:o≠u):a≠b:=by
 intro e;subst e;rw [h] at h';exact d (Option.some.inj h')
theorem ne_of_none {H:Hp} {a b:Addr} {o:HO} (h:H a=some o) (h':H b=none):a≠b:=by
 intro e;subst e;rw [h] at h';cases h'
section
variable (P:Program) (w:World)
def ObjOk (H:Hp) (h:Heap) (a:Addr):HO->Prop
 |.lst xs=>xs.length≤sizeLine/\∃ (its:List Value) (n:Nat),Vals xs its/\h.get? a=some { cls:=.type "list",data:=.seq its.toArray n }
 |.tup xs=>xs.length≤sizeLine/\∃ its:List Value,Vals xs its/\IsTup h a its.toArray
 |.dK kvs=>kvs.length≤sizeLine/\(a == sysModules)=false/\∃ vs,KV kvs vs/\h.DictOf (mixKind P w) a vs
 |.dT kvs=>kvs.length≤sizeLine/\(a == sysModules)=false/\∃ xs:List (List Key×Addr×Value),
  Paired (fun (p:List Key×V) (q:List Key×Addr×Value)=>p.1=q.1/\H q.2.1=some (.tup (p.1.map kV))/\RelV p.2 q.2.2) kvs xs/\
  ∃ o es ep,h.get? a=some o/\o.ExactDict/\o.data=.dict es ep/\es.toList=xs.map (entryOfKey (tupleKind (mixKind P w)))/\(xs.map (·.1)).Nodup
 |.set S n=>h.SetOf (intKind P w) a S n
 |.ins C dx fs=>H dx=some (.own a)/\fs.length≤1000/\dx≠a/\h.get? a=some (PySem.W.instObj C dx)/\
  ∃ mA,h.Ns1 dx mA/\(∀ f,RelO (fs.lookup f) (mA f))/\PySem.Within mA (fs.map (·.1))
 |.own _=>∃ o,h.get? a=some o
 |.xd fs=>∃ mA,h.Ns1 a mA/\∀ f,RelO (fs.lookup f) (mA f)
 |.rng lo hi=>∃ t u v,h.get? a=some { cls:=.type "range",data:=.fields #[.int lo t,.int hi u,.int 1 v] }
 |.frz o u=>h.get? a=some o/\ObjOk H h a u
 |.tbl ps=>h.get? a=some { cls:=.none,data:=.fields ps }
 |.met f x=>h.get? a=some (PySem.W.methodObj (.ref f) (.ref x))
 |.ext φ=>φ h/\(∃ o,h.get? a=some o)/\∀ h1 h2:Heap,φ h1->(∀ o,h1.get? a=some o->h2.get? a=some o)->φ h2
def HOk (H:Hp) (h:Heap):Prop:=∀ a o,H a=some o->ObjOk P w H h a o
end
section
variable {P:Program} {w:World} {H H':Hp} {h h':Heap} {a:Addr} {o:HO}
theorem ObjOk.lt (x:ObjOk P w H h a o):a<h.objs.size:=by
 cases o with
 |lst xs=>obtain ⟨_,_,_,_,e⟩:=x;exact Heap.lt_size e
 |tup xs=>obtain ⟨_,_,_,p⟩:=x;exact p.lt
 |dK kvs=>obtain ⟨_,_,_,_,o,_,_,e,_⟩:=x;exact Heap.lt_size e
 |dT kvs=>obtain ⟨_,_,_,_,o,_,_,e,_⟩:=x;exact Heap.lt_size e
 |set S n=>obtain ⟨o,_,_,_,e,_⟩:=x;exact Heap.lt_size e
 |ins C dx fs=>obtain ⟨_,_,_,e,_⟩:=x;exact Heap.lt_size e
 |own y=>obtain ⟨_,e⟩:=x;exact Heap.lt_size e
 |xd fs=>obtain ⟨_,⟨_,_,_,e,_⟩,_⟩:=x;exact Heap.lt_size e
 |rng lo hi=>obtain ⟨_,_,_,e⟩:=x;exact Heap.lt_size e
 |frz ob u=>obtain ⟨e,_⟩:=x;exact Heap.lt_size e
 |tbl ps=>exact Heap.lt_size (show h.get? a=some _ from x)
 |met f y=>exact Heap.lt_size (show h.get? a=some _ from x)
 |ext φ=>obtain ⟨_,⟨_,e⟩,_⟩:=x;exact Heap.lt_size e
theorem Paired.mapP {α β:Type} {F G:α->β->Prop}:∀ {l₁:List α} {l₂:List β},Paired F l₁ l₂->(∀ a b,F a b->G a b)->Paired G l₁ l₂
 |_,_,.nil,_=>.nil
 |_,_,.cons r t,f=>.cons (f _ _ r) (Paired.mapP t f)
theorem ObjOk.stay (x:ObjOk P w H h a o) (k:∀ b u,(b=a∨H b=some (.own a))->h.get? b=some u->h'.get? b=some u)
 (ho:∀ b,H b=some (.own a)->H' b=some (.own a)) (ht:∀ b xs,H b=some (.tup xs)->H' b=some (.tup xs)):ObjOk P w H' h' a o:=by
 induction o with
 |lst xs=>obtain ⟨z,its,n,r,e⟩:=x;exact ⟨z,its,n,r,k _ _ (.inl rfl) e⟩
 |tup xs=>obtain ⟨z,its,r,ob,e,c⟩:=x;exact ⟨z,its,r,ob,k _ _ (.inl rfl) e,c⟩
 |dK kvs=>obtain ⟨z,y,vs,r,ob,es,ep,e,c⟩:=x;exact ⟨z,y,vs,r,ob,es,ep,k _ _ (.inl rfl) e,c⟩
 | dT kvs=>
   obtain ⟨z,y,xs,r,ob,es,ep,e,c⟩:=x
   exact ⟨z,y,xs,Paired.mapP r fun p q z=>⟨z.1,ht _ _ z.2.1,z.2.2⟩,ob,es,ep,k _ _ (.inl rfl) e,c⟩
 |set S n=>obtain ⟨ob,es,ep,t,e,c⟩:=x;exact ⟨ob,es,ep,t,k _ _ (.inl rfl) e,c⟩
 | ins C dx fs=>
   obtain ⟨d,z,ne,e,mA,⟨od,es,ep,e2,c⟩,r⟩:=x
   exact ⟨ho _ d,z,ne,k _ _ (.inl rfl) e,mA,⟨od,es,ep,k _ _ (.inr d) e2,c⟩,r⟩
 |own y=>obtain ⟨ob,e⟩:=x;exact ⟨ob,k _ _ (.inl rfl) e⟩
 |xd fs=>obtain ⟨mA,⟨od,es,ep,e,c⟩,r⟩:=x;exact ⟨mA,⟨od,es,ep,k _ _ (.inl rfl) e,c⟩,r⟩
 |rng lo hi=>obtain ⟨t,u,v,e⟩:=x;exact ⟨t,u,v,k _ _ (.inl rfl) e⟩
 |frz ob u ih=>obtain ⟨e,q⟩:=x;exact ⟨k _ _ (.inl rfl) e,ih q⟩
 | tbl ps=>
   have e:h.get? a=some { cls:=.none,data:=.fields ps }:=x
   show h'.get? a=some { cls:=.none,data:=.fields ps }
   exact k a _ (.inl rfl) e
 | met f y=>
   have e:h.get? a=some (PySem.W.methodObj (.ref f) (.ref y)):=x
   show h'.get? a=some (PySem.W.methodObj (.ref f) (.ref y))
   exact k a _ (.inl rfl) e
 |ext φ=>obtain ⟨p,⟨o,e⟩,st⟩:=x;exact ⟨st _ _ p fun o q=>k _ _ (.inl rfl) q,⟨o,k _ _ (.inl rfl) e⟩,st⟩
theorem HOk.lt (x:HOk P w H h) (e:H a=some o):a<h.objs.size:=(x a o e).lt
theorem HOk.fresh (x:HOk P w H h) (e:h.objs.size≤a):H a=none:=by
 cases q:H a with
 |none=>rfl
 |some u=>exact absurd (Nat.lt_of_lt_of_le (x.lt q) e) (Nat.lt_irrefl _)
theorem HOk.kept (x:HOk P w H h) (k:∀ b u,h.get? b=some u->h'.get? b=some u):HOk P w H h':=fun a o e=>
 (x a o e).stay (fun b u _ q=>k b u q) (fun _ q=>q) fun _ _ q=>q
theorem HOk.laid (x:HOk P w H h) (k:∀ b u,h.get? b=some u->h'.get? b=some u) (hp:h.objs.size≤a) (new:ObjOk P w (upd H a o) h' a o):HOk P w (upd H a o) h':=fun b u e=>by
 have hn:=x.fresh hp
 by_cases hb:b=a
 ·subst hb;rw [upd_same] at e;cases e;exact new
 ·rw [upd_ne hb] at e
  exact (x b u e).stay (fun c v _ q=>k c v q) (fun c q=>by rw [upd_ne (ne_of_none q hn)];exact q) fun c xs q=>by rw [upd_ne (ne_of_none q hn)];exact q
end
def Rd (H:Hp) (a:Addr) (u:HO):Prop:=H a=some u∨∃ o,H a=some (.frz o u)
theorem Rd.ok {P:Program} {w:World} {H:Hp} {h:Heap} {a:Addr} {u:HO} (r:Rd H a u) (x:HOk P w H h):ObjOk P w H h a u:=by
 rcases r with r|⟨o,r⟩
 ·exact x a u r
 ·obtain ⟨_,q⟩:=x a _ r
  exact q
def Mut:Option HO->Prop
 |some (.lst _)=>True
 |some (.dK _)=>True
 |some (.dT _)=>True
 |some (.set _ _)=>True
 |some (.ins _ _ _)=>True
 |some (.ext _)=>True
 |_=>False
section
variable {P:Program} {w:World} {H:Hp} {h h':Heap} {x e:Addr} {o':HO}
theorem HOk.write (ok:HOk P w H h) (mu:Mut (H x)) (he:e=x∨H e=some (.own x)) (k:∀ b u,b≠e->h.get? b=some u->h'.get? b=some u) (heo:∃ u,h'.get? e=some u)
 (new:ObjOk P w (upd H x o') h' x o'):HOk P w (upd H x o') h':=fun b u q=>by
 have nown:∀ c y,H c=some (.own y)->c≠x:=fun c y r z=>by subst z;rw [r] at mu;exact mu
 have ntup:∀ c xs,H c=some (.tup xs)->c≠x:=fun c xs r z=>by subst z;rw [r] at mu;exact mu
 by_cases hb:b=x
 ·subst hb;rw [upd_same] at q;cases q;exact new
 ·rw [upd_ne hb] at q
  by_cases hbe:b=e
  ·have q':H b=some (.own x):=by
    rcases he with z|z
    ·exact absurd (hbe.trans z) hb
    ·rw [hbe];exact z
   rw [q] at q';cases q'
   obtain ⟨v,hv⟩:=heo
   exact ⟨v,by rw [hbe];exact hv⟩
  ·refine (ok b u q).stay (fun c v hc r=>k c v ?_ r) (fun c r=>by rw [upd_ne (nown c b r)];exact r) fun c xs r=>by rw [upd_ne (ntup c xs r)];exact r
   rcases hc with rfl|hc
   ·exact hbe
   ·rintro rfl
    rcases he with z|z
    ·exact nown c b hc z
    ·rw [hc] at z;cases z;exact hb rfl
end
structure Un (fs ex:List Addr) (H H':Hp) (h h':Heap):Prop where
 keep:∀ b o,h.get? b=some o->H b=none->b∉fs->b∉ex->h'.get? b=some o
 slot:∀ b o,h.get? b=some o->H b=none->b∈fs->b∉ex->∃ sl,h'.get? b=some { o with slots:=sl }
 free:∀ b o,h.get? b=some o->H b=none->b∉ex->H' b=none
 there:∀ b o,h.get? b=some o->b∉ex->∃ o',h'.get? b=some o'
 tups:∀ b xs,H b=some (.tup xs)->H' b=some (.tup xs)
 frzs:∀ b o u,H b=some (.frz o u)->H' b=some (.frz o u)
 tbls:∀ b ps,H b=some (.tbl ps)->∃ more,H' b=some (.tbl (ps++more))
section
variable {fs fs' ex ex':List Addr} {H H1 H2:Hp} {h h1 h2 h':Heap} {a x e:Addr} {o:HO}
theorem Un.any (u:Un fs ex H H1 h h1) {b:Addr} {ob:Obj} (q:h.get? b=some ob) (n:H b=none) (hx:b∉ex):∃ sl,h1.get? b=some { ob with slots:=sl }:=by
 by_cases hb:b∈fs
 ·exact u.slot b ob q n hb hx
 ·exact ⟨ob.slots,u.keep b ob q n hb hx⟩
theorem Un.kept (k:∀ b u,h.get? b=some u->h'.get? b=some u):Un fs ex H H h h':=
 ⟨fun b ob q _ _ _=>k b ob q,fun b ob q _ _ _=>⟨ob.slots,k b ob q⟩,fun _ _ _ n _=>n,fun b ob q _=>⟨ob,k b ob q⟩,fun _ _ q=>q,fun _ _ _ q=>q,fun _ ps q=>⟨#[],by rw [q];simp⟩⟩
theorem Un.refl:Un fs ex H H h h:=Un.kept fun _ _ q=>q
theorem Un.laid (k:∀ b u,h.get? b=some u->h'.get? b=some u) (hp:h.objs.size≤a) (hn:H a=none):Un fs ex H (upd H a o) h h' where
 keep:=fun b u q _ _ _=>k b u q
 slot:=fun b u q _ _ _=>⟨u.slots,k b u q⟩
 free:=fun b u q n _=>by rw [upd_ne (Nat.ne_of_lt (Nat.lt_of_lt_of_le (Heap.lt_size q) hp))];exact n
 there:=fun b u q _=>⟨u,k b u q⟩
 tups:=fun b xs q=>by rw [upd_ne (ne_of_none q hn)];exact q
 frzs:=fun b u xs q=>by rw [upd_ne (ne_of_none q hn)];exact q
 tbls:=fun b ps q=>⟨#[],by rw [upd_ne (ne_of_none q hn),q];simp⟩
theorem Un.write (mu:Mut (H x)) (he:e=x∨H e=some (.own x)) (k:∀ b u,b≠e->h.get? b=some u->h'.get? b=some u) (heo:∃ u,h'.get? e=some u):Un fs ex H (upd H x o) h h':=by
 have hx:∀ b,H b=none->b≠x:=fun b n z=>by subst z;rw [n] at mu;exact mu
 have hb:∀ b,H b=none->b≠e:=fun b n z=>by
  subst z
  rcases he with r|r
  ·exact hx b n r
  ·rw [n] at r;cases r
 have hm:∀ b u,H b=some u->¬ Mut (some u)->b≠x:=fun b u q nm z=>by subst z;rw [q] at mu;exact nm mu
 refine ⟨fun b u q n _ _=>k b u (hb b n) q,fun b u q n _ _=>⟨u.slots,k b u (hb b n) q⟩,fun b u q n _=>by rw [upd_ne (hx b n)];exact n,fun b u q _=>?_,
  fun b xs q=>by rw [upd_ne (hm b _ q fun z=>z)];exact q,fun b u xs q=>by rw [upd_ne (hm b _ q fun z=>z)];exact q,fun b ps q=>⟨#[],by rw [upd_ne (hm b _ q fun z=>z),q];simp⟩⟩
 by_cases hbe:b=e
 ·subst hbe;exact heo
 ·exact ⟨u,k b u hbe q⟩
end
def trk (h:Heap) (H:Hp):List Addr:=(List.range h.objs.size).filter fun a=>(H a).isSome
def hidT (h:Heap) (H:Hp):Heap:=PySem.W.hideAll h (trk h H)
theorem hidT_size (h:Heap) (H:Hp):(hidT h H).objs.size=h.objs.size:=PySem.W.hideAll_size _ _
theorem hidT_get {h:Heap} {H:Hp} {b:Addr} {o:Obj} (e:h.get? b=some o) (n:H b=none):(hidT h H).get? b=some o:=
 PySem.W.hideAll_get _ e fun hm=>by
  have q:(H b).isSome=true:=(List.mem_filter.mp hm).2
  rw [n] at q;simp at q
theorem of_hidT {h:Heap} {H:Hp} {b:Addr} {o:Obj} (e:(hidT h H).get? b=some o):h.get? b=some o/\H b=none:=by
 have e':h.get? b=some o:=PySem.W.of_hideAll (trk h H) e
 refine ⟨e',?_⟩
 cases q:H b with
 |none=>rfl
 | some x=>
   have hm:b∈trk h H:=List.mem_filter.mpr ⟨List.mem_range.mpr (Heap.lt_size e'),by simp [q]⟩
   have z:(hidT h H).get? b=none:=PySem.W.hideAll_none (trk h H) hm
   rw [z] at e;cases e
structure Mod (K:PySem.W.Frag) (mg:Str->Option Value) (base:Heap):Prop where
 kin:K.In base
 glob:base.Ns mainGlobals mg
 blt:∃ mb,base.Ns builtinsNs mb/\∀ x:Str,x ≠ "__name__"->mb x=bootBuiltins x
 nolimit:base.NoLimit
structure Cx where
 prog:Program
 w:World
 K:PySem.W.Frag
 mg:Str->Option Value
 base:Heap
 A:Around
 N:List Str
 s₀:Shared
 H₀:Hp
 env:Env
 outer:List Env
 stack:List Env
 ex:List Addr
 fn:Str->Bool
 calm:Bool
 pn:List (Addr×Obj)
 xe:Value->Shared->Prop
def frs (l:List Env):List Addr:=l.filterMap (·.frame)
abbrev Cx.fs (X:Cx):List Addr:=frs X.outer
def Vis (sc:Scope) (x:Str):Prop:=sc.names.lookup x=some .local∨sc.names.lookup x=some .cell∨sc.names.lookup x=some .free
def Loc (sc:Scope) (x:Str):Prop:=sc.names.lookup x=some .local∨sc.names.lookup x=some .cell
def Look (env:Env) (h:Heap) (m:Str->Option Value) (x:Str) (u:Value):Prop:=
 (env.kindOf x=some .local/\m x=some u)∨((env.kindOf x=some .cell∨env.kindOf x=some .free)/\∃ c,env.cells.lookup x=some c/\h.IsCell c (some u))
structure Cx.Ok (X:Cx):Prop where
 mod:Mod X.K X.mg X.base
 kind:X.env.scope.kind=.function
 glob:X.env.globals=mainGlobals
 blt:X.env.builtins=builtinsNs
 above:X.s₀.heap.objs.size≤X.env.locals
 inj:∀ x y c,X.env.cells.lookup x=some c->X.env.cells.lookup y=some c->x=y
 has:∀ x,(X.env.kindOf x=some .cell∨X.env.kindOf x=some .free)->∃ c,X.env.cells.lookup x=some c
 cab:∀ x c,X.fn x=true->X.env.cells.lookup x=some c->X.s₀.heap.objs.size≤c
 hd:X.calm=true->X.A.handled=none
 frames:X.A.frames=some X.stack
 stk:X.stack=X.outer∨(X.stack=X.env::X.outer/\X.env.frame=some X.env.locals)
 exf:∀ b∈X.ex,b≠X.env.locals/\∀ x c,X.env.cells.lookup x=some c->c≠b
 bs:∀ b o,X.base.get? b=some o->X.s₀.heap.get? b=some o/\X.H₀ b=none
 bsz:X.base.objs.size≤X.s₀.heap.objs.size
 noex:∀ b o,X.base.get? b=some o->b∉X.ex
 exfs:∀ b∈X.ex,b∉X.fs
 funs:X.s₀.heap.FunFrames X.base X.outer
 frf:∀ b∈X.fs,X.H₀ b=none
structure Inv (X:Cx) (pins:List (Addr×Obj)) (σ:List (Option V)) (H:Hp) (s:Shared):Prop where
 ok:X.Ok
 os:s.os=X.s₀.os
 bare:AllBare s.gens
 base:Un X.fs X.ex X.H₀ H X.s₀.heap s.heap
 loc:∃ m,s.heap.Ns X.env.locals m/\∀ (i:Nat) (x:Str) (v:V),X.N[i]?=some x->σ[i]?=some (some v)->Vis X.env.scope x->∃ u,RelV v u/\Look X.env s.heap m x u
 cell:∀ x c,X.env.cells.lookup x=some c->∃ v,s.heap.IsCell c v
 free:H X.env.locals=none
 freeC:∀ x c,X.env.cells.lookup x=some c->H c=none
 pin:∀ p∈X.pn++pins,s.heap.get? p.1=some p.2/\H p.1=none/\p.1≠X.env.locals/\p.1∉X.fs/\∀ v,p.2.data≠.cell v
 hok:HOk X.prog X.w H s.heap
 len:σ.length=X.N.length
section
variable {X:Cx} {pins:List (Addr×Obj)} {σ:List (Option V)} {H H':Hp} {s:Shared} {h':Heap}
theorem Cx.Ok.nofr (ok:X.Ok) {b:Addr} {o:Obj} (e:X.base.get? b=some o):b∉X.fs:=fun hb=>by
 have:=(ok.funs.mem hb).1
 rw [e] at this;cases this
theorem Inv.bs (I:Inv X pins σ H s):∀ b o,X.base.get? b=some o->s.heap.get? b=some o/\H b=none:=fun b o e=>
 ⟨I.base.keep b o (I.ok.bs b o e).1 (I.ok.bs b o e).2 (I.ok.nofr e) (I.ok.noex b o e),I.base.free b o (I.ok.bs b o e).1 (I.ok.bs b o e).2 (I.ok.noex b o e)⟩
theorem Inv.bk (I:Inv X pins σ H s):∀ b o,X.base.get? b=some o->s.heap.get? b=some o:=fun b o e=>(I.bs b o e).1
theorem Inv.mod (I:Inv X pins σ H s):Mod X.K X.mg X.base:=I.ok.mod
theorem Inv.kIn (I:Inv X pins σ H s):X.K.In s.heap:=I.ok.mod.kin.keeps I.bk
theorem Inv.fr (I:Inv X pins σ H s):∃ m,Fr X.base X.env.locals s.heap m:=
 let ⟨m,hn,_⟩:=I.loc
 ⟨m,hn,I.bk,Nat.le_trans I.ok.bsz I.ok.above⟩
theorem Inv.lt (I:Inv X pins σ H s):X.env.locals<s.heap.objs.size:=let ⟨_,hn,_⟩:=I.loc;hn.lt
theorem Inv.sz (I:Inv X pins σ H s):X.s₀.heap.objs.size≤s.heap.objs.size:=Nat.le_trans I.ok.above (Nat.le_of_lt I.lt)
theorem Inv.nofs (I:Inv X pins σ H s) {a:Addr} (h:s.heap.objs.size≤a):a∉X.fs:=fun hb=>by
 obtain ⟨_,o,ho,_⟩:=I.ok.funs.mem hb
 exact absurd (Nat.lt_of_lt_of_le (Heap.lt_size ho) (Nat.le_trans I.sz h)) (Nat.lt_irrefl _)
theorem Inv.cne (I:Inv X pins σ H s):∀ x c,X.env.cells.lookup x=some c->c≠X.env.locals:=fun x c e z=>by
 obtain ⟨v,o,ho,hd⟩:=I.cell x c e
 obtain ⟨m,⟨o',es,ep,ho',hd',_⟩,_⟩:=I.loc
 rw [z,ho'] at ho;cases ho;rw [hd'] at hd;cases hd
theorem Inv.funs (I:Inv X pins σ H s):s.heap.FunFrames X.base X.outer:=by
 have all:∀ (l:List Env),(∀ b∈frs l,b∈X.fs)->X.s₀.heap.FunFrames X.base l->s.heap.FunFrames X.base l:=by
  intro l
  induction l with
  |nil=>intro _ _;trivial
  | cons env r ih=>
    intro hs hl
    obtain ⟨hk,⟨L,o,hf,hn,ho,hd⟩,hr⟩:=hl
    have hL:L∈X.fs:=hs L (by unfold frs;rw [List.filterMap_cons,hf];exact List.mem_cons_self)
    obtain ⟨sl,e⟩:=I.base.slot L o ho (I.ok.frf L hL) hL fun z=>I.ok.exfs L z hL
    exact ⟨hk,⟨L,_,hf,hn,e,hd⟩,ih (fun b hb=>hs b (by unfold frs;rw [List.filterMap_cons,hf];exact List.mem_cons_of_mem _ hb)) hr⟩
 exact all X.outer (fun _ hb=>hb) I.ok.funs
theorem Inv.stack (I:Inv X pins σ H s):s.heap.FunFrames X.base X.stack:=by
 rcases I.ok.stk with e|⟨e,hf⟩
 ·rw [e];exact I.funs
 ·rw [e]
  obtain ⟨m,hn,_⟩:=I.loc
  refine .cons (by rw [I.ok.kind];decide) hf hn ?_ I.funs
  exact Heap.get?_none_of_le (Nat.le_trans I.ok.bsz I.ok.above)
theorem Inv.stkSub (I:Inv X pins σ H s):∀ b∈frs X.stack,b∈X.env.locals::X.fs:=fun b hb=>by
 rcases I.ok.stk with e|⟨e,hf⟩
 ·rw [e] at hb;exact List.mem_cons_of_mem _ hb
 ·rw [e] at hb
  unfold frs at hb
  rw [List.filterMap_cons,hf] at hb
  exact hb
theorem Inv.stkFree (I:Inv X pins σ H s):∀ b∈frs X.stack,H b=none:=fun b hb=>by
 rcases List.mem_cons.mp (I.stkSub b hb) with e|hb
 ·rw [e];exact I.free
 ·obtain ⟨_,o,ho,_⟩:=I.ok.funs.mem hb
  exact I.base.free b o ho (I.ok.frf b hb) fun z=>I.ok.exfs b z hb
theorem Inv.step {g':Array GenState} {t':Nat} {d':Drawn} {ch:List Addr} (I:Inv X pins σ H s)
 (hch:∀ b∈ch,(b∈X.ex∨X.s₀.heap.objs.size≤b)/\b≠X.env.locals/\(∀ x c,X.env.cells.lookup x=some c->c≠b)/\∀ p∈X.pn++pins,p.1≠b)
 (keep:∀ b o,b≠X.env.locals->b∉X.fs->b∉ch->s.heap.get? b=some o->H b=none->h'.get? b=some o)
 (slot:∀ b o,b≠X.env.locals->b∈X.fs->b∉ch->s.heap.get? b=some o->H b=none->∃ sl,h'.get? b=some { o with slots:=sl }) (free:∀ b o,b∉ch->s.heap.get? b=some o->H b=none->H' b=none)
 (there:∀ b o,b∉ch->s.heap.get? b=some o->∃ o',h'.get? b=some o')
 (tups:∀ b xs,H b=some (.tup xs)->H' b=some (.tup xs)) (frzs:∀ b o u,H b=some (.frz o u)->H' b=some (.frz o u)) (tbls:∀ b ps,H b=some (.tbl ps)->∃ more,H' b=some (.tbl (ps++more)))
 (ns:∀ m,s.heap.Ns X.env.locals m->h'.Ns X.env.locals m) (hok:HOk X.prog X.w H' h') (hg:AllBare g') :
 Inv X pins σ H' { s with heap:=h',gens:=g',drawn:=d',toks:=t' }:=by
 have neL:∀ b o,X.s₀.heap.get? b=some o->b≠X.env.locals:=fun b o e=>Nat.ne_of_lt (Nat.lt_of_lt_of_le (Heap.lt_size e) I.ok.above)
 have neC:∀ b o,X.s₀.heap.get? b=some o->b∉X.ex->b∉ch:=fun b o e hx hb=>by
  rcases (hch b hb).1 with z|z
  ·exact hx z
  ·exact absurd (Nat.lt_of_lt_of_le (Heap.lt_size e) z) (Nat.lt_irrefl _)
 have cellK:∀ x c,X.env.cells.lookup x=some c->∀ v,s.heap.IsCell c v->h'.IsCell c v:=fun x c e v ⟨o,ho,hd⟩=>by
  have nch:c∉ch:=fun z=>(hch c z).2.2.1 x c e rfl
  by_cases hc:c∈X.fs
  ·obtain ⟨sl,q⟩:=slot c o (I.cne x c e) hc nch ho (I.freeC x c e)
   exact ⟨_,q,hd⟩
  ·exact ⟨o,keep c o (I.cne x c e) hc nch ho (I.freeC x c e),hd⟩
 refine ⟨I.ok,I.os,hg,⟨fun b o e n hb hx=>?_,fun b o e n hb hx=>?_,fun b o e n hx=>?_,fun b o e hx=>?_,fun b xs e=>tups b xs (I.base.tups b xs e),fun b o xs e=>frzs b o xs (I.base.frzs b o xs e),fun b ps e=>?_⟩,?_,fun x c e=>?_,?_,fun x c e=>?_,fun p hp=>?_,hok,I.len⟩
 ·exact keep b o (neL b o e) hb (neC b o e hx) (I.base.keep b o e n hb hx) (I.base.free b o e n hx)
 ·obtain ⟨sl,e1⟩:=I.base.slot b o e n hb hx
  obtain ⟨sl',e2⟩:=slot b _ (neL b o e) hb (neC b o e hx) e1 (I.base.free b o e n hx)
  exact ⟨sl',e2⟩
 ·obtain ⟨o',e1⟩:=I.base.there b o e hx
  exact free b o' (neC b o e hx) e1 (I.base.free b o e n hx)
 ·obtain ⟨o',e1⟩:=I.base.there b o e hx
  exact there b o' (neC b o e hx) e1
 ·obtain ⟨m1,e1⟩:=I.base.tbls b ps e
  obtain ⟨m2,e2⟩:=tbls b _ e1
  exact ⟨m1++m2,by rw [e2,Array.append_assoc]⟩
 ·obtain ⟨m,hn,hl⟩:=I.loc
  refine ⟨m,ns m hn,fun i x v e1 e2 e3=>?_⟩
  obtain ⟨u,r,l⟩:=hl i x v e1 e2 e3
  refine ⟨u,r,?_⟩
  rcases l with l|⟨k,c,e,z⟩
  ·exact .inl l
  ·exact .inr ⟨k,c,e,cellK x c e _ z⟩
 ·obtain ⟨v,z⟩:=I.cell x c e
  exact ⟨v,cellK x c e v z⟩
 ·obtain ⟨m,⟨o,_,_,ho,_⟩,_⟩:=I.loc
  exact free _ o (fun z=>(hch _ z).2.1 rfl) ho I.free
 ·obtain ⟨v,o,ho,hd⟩:=I.cell x c e
  exact free c o (fun z=>(hch c z).2.2.1 x c e rfl) ho (I.freeC x c e)
 ·obtain ⟨e,n,ne,nf,d⟩:=I.pin p hp
  have nch:p.1∉ch:=fun z=>(hch p.1 z).2.2.2 p hp rfl
  exact ⟨keep p.1 p.2 ne nf nch e n,free p.1 p.2 nch e n,ne,nf,d⟩
theorem Inv.un {t':Nat} (I:Inv X pins σ H s) (u:Un X.fs [] H H' s.heap h') (hok:HOk X.prog X.w H' h'):Inv X pins σ H' { s with heap:=h',toks:=t' }:=by
 obtain ⟨m,⟨o,es,ep,ho,r⟩,_⟩:=id I.loc
 obtain ⟨sl,hL⟩:=u.any ho I.free (by simp)
 exact I.step (g':=s.gens) (d':=s.drawn) (ch:=[]) (fun _ z=>nomatch z) (fun b o _ hb _ e n=>u.keep b o e n hb (by simp)) (fun b o _ hb _ e n=>u.slot b o e n hb (by simp)) (fun b o _ e n=>u.free b o e n (by simp)) (fun b o _ e=>u.there b o e (by simp)) u.tups u.frzs u.tbls (fun m' hm=>by
  obtain ⟨o',es',ep',ho',r'⟩:=hm
  rw [ho] at ho';cases ho'
  exact ⟨_,es',ep',hL,r'⟩) hok I.bare
theorem Inv.call {g':Array GenState} {t':Nat} {d':Drawn} {ch:List Addr} (I:Inv X pins σ H s) (u:Un (frs X.stack) ch H H' s.heap h') (hok:HOk X.prog X.w H' h') (hg:AllBare g')
 (hch:∀ b∈ch,(b∈X.ex∨X.s₀.heap.objs.size≤b)/\b≠X.env.locals/\(∀ x c,X.env.cells.lookup x=some c->c≠b)/\∀ p∈X.pn++pins,p.1≠b) :
 Inv X pins σ H' { s with heap:=h',gens:=g',drawn:=d',toks:=t' }:=by
 obtain ⟨m,⟨o,es,ep,ho,r⟩,_⟩:=id I.loc
 obtain ⟨sl,hL⟩:=u.any ho I.free fun z=>(hch _ z).2.1 rfl
 exact I.step (ch:=ch) hch (fun b o hL hb hc e n=>u.keep b o e n (fun z=>(List.mem_cons.mp (I.stkSub b z)).elim hL hb) hc) (fun b o _ _ hc e n=>u.any e n hc) (fun b o hc e n=>u.free b o e n hc) (fun b o hc e=>u.there b o e hc) u.tups u.frzs u.tbls (fun m' hm=>by
  obtain ⟨o',es',ep',ho',r'⟩:=hm
  rw [ho] at ho';cases ho'
  exact ⟨_,es',ep',hL,r'⟩) hok hg
theorem Inv.turned {t':Nat} {it:Addr} (I:Inv X pins σ H s) (k:∀ b o,b≠it->s.heap.get? b=some o->h'.get? b=some o) (hn:H it=none) (hL:it≠X.env.locals)
 (h1:it∈X.ex∨X.s₀.heap.objs.size≤it) (h2:∀ x c,X.env.cells.lookup x=some c->c≠it) (h3:∀ p∈X.pn++pins,p.1≠it):Inv X pins σ H { s with heap:=h',toks:=t' }:=by
 have nit:∀ b u,H b=some u->b≠it:=fun b u e z=>by rw [z,hn] at e;cases e
 refine I.step (g':=s.gens) (d':=s.drawn) (ch:=[it]) (fun b hb=>?_) (fun b o _ _ hc e _=>k b o (fun z=>hc (by simp [z])) e) (fun b o _ _ hc e _=>⟨o.slots,k b o (fun z=>hc (by simp [z])) e⟩) (fun _ _ _ _ n=>n)
  (fun b o hc e=>⟨o,k b o (fun z=>hc (by simp [z])) e⟩) (fun _ _ e=>e) (fun _ _ _ e=>e) (fun b ps e=>⟨#[],by rw [e];simp⟩) (fun m hm=>?_) (fun b u e=>?_) I.bare
 ·have e:b=it:=by simpa using hb
  subst e
  exact ⟨h1,hL,h2,h3⟩
 ·obtain ⟨o,es,ep,ho,r⟩:=hm
  exact ⟨o,es,ep,k _ o (Ne.symm hL) ho,r⟩
 ·refine (I.hok b u e).stay (fun c v hc q=>k c v ?_ q) (fun _ q=>q) fun _ _ q=>q
  rcases hc with z|z
  ·rw [z];exact nit b u e
  ·exact nit c _ z
theorem Inv.tok (I:Inv X pins σ H s) (t:Nat):Inv X pins σ H { s with toks:=t }:=I.un (h':=s.heap) (t':=t) Un.refl I.hok
theorem Inv.kept {t':Nat} (I:Inv X pins σ H s) (k:∀ b u,s.heap.get? b=some u->h'.get? b=some u):Inv X pins σ H { s with heap:=h',toks:=t' }:=I.un (Un.kept k) (I.hok.kept k)
theorem Inv.laid {a:Addr} {o:HO} {t':Nat} (I:Inv X pins σ H s) (k:∀ b u,s.heap.get? b=some u->h'.get? b=some u) (hp:s.heap.objs.size≤a) (new:ObjOk X.prog X.w (upd H a o) h' a o) :
 Inv X pins σ (upd H a o) { s with heap:=h',toks:=t' }:=I.un (Un.laid k hp (I.hok.fresh hp)) (I.hok.laid k hp new)
theorem Inv.write {x e:Addr} {o:HO} {t':Nat} (I:Inv X pins σ H s) (mu:Mut (H x)) (he:e=x∨H e=some (.own x)) (k:∀ b u,b≠e->s.heap.get? b=some u->h'.get? b=some u) (heo:∃ u,h'.get? e=some u)
 (new:ObjOk X.prog X.w (upd H x o) h' x o):Inv X pins σ (upd H x o) { s with heap:=h',toks:=t' }:=I.un (Un.write mu he k heo) (I.hok.write mu he k heo new)
theorem Inv.pins_of {pins':List (Addr×Obj)} (I:Inv X pins σ H s) (h:∀ p∈pins',s.heap.get? p.1=some p.2/\H p.1=none/\p.1≠X.env.locals/\p.1∉X.fs/\∀ v,p.2.data≠.cell v):Inv X pins' σ H s:=
 ⟨I.ok,I.os,I.bare,I.base,I.loc,I.cell,I.free,I.freeC,fun p hp=>(List.mem_append.mp hp).elim (fun z=>I.pin p (List.mem_append_left _ z)) (h p),I.hok,I.len⟩
theorem nodup_ix {N:List Str} (hN:N.Nodup) {i j:Nat} {x:Str} (a:N[i]?=some x) (b:N[j]?=some x):i=j:=by
 obtain ⟨h1,e1⟩:=List.getElem?_eq_some_iff.mp a
 obtain ⟨h2,e2⟩:=List.getElem?_eq_some_iff.mp b
 exact (List.getElem_inj hN).mp (e1.trans e2.symm)
theorem store_ok2 {M:Model} {A:Around} {E:Value->Shared->Prop} {i:Nat} {x:Str} {v:V} {u:Value} {Q:Unit->Shared->Prop} (I:Inv X pins σ H s) (hN:X.N.Nodup) (hi:X.N[i]?=some x) (hx:Loc X.env.scope x) (r:RelV v u)
 (h:∀ s',Inv X pins (σ.set i (some v)) H s'->(∃ a,Heap.SameBut a s.heap s'.heap/\(a=X.env.locals∨X.env.cells.lookup x=some a))->Q () s') (hf:X.fn x=true∨X.env.scope.names.lookup x=some .local:=by first|exact .inl rfl|exact .inr rfl|assumption):wpAny M A (storeName X.env x u) Q E s:=by
 obtain ⟨m,hn,hl⟩:=id I.loc
 have hcls:(X.env.scope.kind == .class || (X.env.scope.kind == .module && X.env.locals != X.env.globals))=false:=by rw [I.ok.kind];rfl
 have hiσ:i<σ.length:=by rw [I.len];exact (List.getElem?_eq_some_iff.mp hi).1
 have cne:=I.cne
 have tracked:∀ {a:Addr} {h':Heap},(∃ o,s.heap.get? a=some o/\H a=none)->Heap.SameBut a s.heap h'->HOk X.prog X.w H h':=fun {a h'} ha hs b ob e=>by
  obtain ⟨_,_,hfree⟩:=ha
  refine (I.hok b ob e).stay (fun c w' hc q=>(hs.2 c ?_).trans q) (fun _ q=>q) fun _ _ q=>q
  rintro rfl
  rcases hc with rfl|hc
  ·rw [hfree] at e;cases e
  ·rw [hfree] at hc;cases hc
 rcases hx with hk|hk
 ·refine wpAny_storeName_local hk hn (fun h' hn' hs=>?_) hcls
  obtain ⟨oL,_,_,hoL,_⟩:=id hn
  refine h _ ⟨I.ok,I.os,I.bare,⟨fun b o e n hb hx=>?_,fun b o e n hb hx=>?_,I.base.free,fun b o e hx=>?_,I.base.tups,I.base.frzs,I.base.tbls⟩,⟨_,hn',fun j y v' e1 e2 e3=>?_⟩,fun y c e=>?_,I.free,I.freeC,fun p hp=>?_,tracked ⟨oL,hoL,I.free⟩ hs,by simpa using I.len⟩ ⟨_,hs,.inl rfl⟩
  ·exact (hs.2 b (Nat.ne_of_lt (Nat.lt_of_lt_of_le (Heap.lt_size e) I.ok.above))).trans (I.base.keep b o e n hb hx)
  ·obtain ⟨sl,e1⟩:=I.base.slot b o e n hb hx
   exact ⟨sl,(hs.2 b (Nat.ne_of_lt (Nat.lt_of_lt_of_le (Heap.lt_size e) I.ok.above))).trans e1⟩
  ·obtain ⟨o',e1⟩:=I.base.there b o e hx
   exact ⟨o',(hs.2 b (Nat.ne_of_lt (Nat.lt_of_lt_of_le (Heap.lt_size e) I.ok.above))).trans e1⟩
  ·by_cases hj:j=i
   ·subst hj
    rw [hi] at e1;cases e1
    rw [List.getElem?_set_self hiσ] at e2
    cases e2
    exact ⟨u,r,.inl ⟨hk,by simp⟩⟩
   ·rw [List.getElem?_set_ne (Ne.symm hj)] at e2
    obtain ⟨u',r',q⟩:=hl j y v' e1 e2 e3
    refine ⟨u',r',?_⟩
    rcases q with ⟨k,e⟩|⟨k,c,e,z⟩
    ·refine .inl ⟨k,?_⟩
     have:y≠x:=fun e=>hj (nodup_ix hN e1 (e ▸ hi))
     simp [this,e]
    ·exact .inr ⟨k,c,e,z.sameBut hs (cne y c e)⟩
  ·obtain ⟨w',z⟩:=I.cell y c e
   exact ⟨w',z.sameBut hs (cne y c e)⟩
  ·obtain ⟨e,n,ne,nf,d⟩:=I.pin p hp
   exact ⟨(hs.2 p.1 ne).trans e,n,ne,nf,d⟩
 ·have hfn:X.fn x=true:=by
   rcases hf with z|z
   ·exact z
   ·rw [z] at hk;cases hk
  obtain ⟨c,hc⟩:=I.ok.has x (.inl hk)
  obtain ⟨w',z⟩:=I.cell x c hc
  refine wpAny_storeName_cell I.ok.kind hk hc z (fun h' hc' hs=>?_)
  obtain ⟨oc,hoc,hocd⟩:=id z
  refine h { s with heap:=h' } ⟨I.ok,I.os,I.bare,⟨fun b o e n hb hx=>?_,fun b o e n hb hx=>?_,I.base.free,fun b o e hx=>?_,I.base.tups,I.base.frzs,I.base.tbls⟩,⟨m,hn.sameBut hs (Ne.symm (cne x c hc)),fun j y v' e1 e2 e3=>?_⟩,fun y c' e=>?_,I.free,I.freeC,fun p hp=>?_,tracked ⟨oc,hoc,I.freeC x c hc⟩ hs,by simpa using I.len⟩ ⟨c,hs,.inr hc⟩
  ·exact (hs.2 b (Nat.ne_of_lt (Nat.lt_of_lt_of_le (Heap.lt_size e) (I.ok.cab x c hfn hc)))).trans (I.base.keep b o e n hb hx)
  ·obtain ⟨sl,e1⟩:=I.base.slot b o e n hb hx
   exact ⟨sl,(hs.2 b (Nat.ne_of_lt (Nat.lt_of_lt_of_le (Heap.lt_size e) (I.ok.cab x c hfn hc)))).trans e1⟩
  ·obtain ⟨o',e1⟩:=I.base.there b o e hx
   exact ⟨o',(hs.2 b (Nat.ne_of_lt (Nat.lt_of_lt_of_le (Heap.lt_size e) (I.ok.cab x c hfn hc)))).trans e1⟩
  ·by_cases hj:j=i
   ·subst hj
    rw [hi] at e1;cases e1
    rw [List.getElem?_set_self hiσ] at e2
    cases e2
    exact ⟨u,r,.inr ⟨.inl hk,c,hc,hc'⟩⟩
   ·rw [List.getElem?_set_ne (Ne.symm hj)] at e2
    obtain ⟨u',r',q⟩:=hl j y v' e1 e2 e3
    refine ⟨u',r',?_⟩
    rcases q with q|⟨k,c',e,z'⟩
    ·exact .inl q
    ·refine .inr ⟨k,c',e,z'.sameBut hs ?_⟩
     rintro rfl
     exact hj (nodup_ix hN e1 (I.ok.inj _ _ _ e hc ▸ hi))
  ·by_cases hcc:c'=c
   ·subst hcc;exact ⟨_,hc'⟩
   ·obtain ⟨w2,z2⟩:=I.cell y c' e
    exact ⟨w2,z2.sameBut hs hcc⟩
  ·obtain ⟨e,n,ne,nf,d⟩:=I.pin p hp
   refine ⟨(hs.2 p.1 ?_).trans e,n,ne,nf,d⟩
   intro q
   rw [q,hoc] at e
   have q':oc=p.2:=Option.some.inj e
   exact d w' (by rw [← q'];exact hocd)
theorem store_ok {M:Model} {A:Around} {E:Value->Shared->Prop} {i:Nat} {x:Str} {v:V} {u:Value} {Q:Unit->Shared->Prop} (I:Inv X pins σ H s) (hN:X.N.Nodup) (hi:X.N[i]?=some x) (hx:Loc X.env.scope x) (r:RelV v u)
 (h:∀ s',Inv X pins (σ.set i (some v)) H s'->Q () s') (hf:X.fn x=true∨X.env.scope.names.lookup x=some .local:=by first|exact .inl rfl|exact .inr rfl|assumption):wpAny M A (storeName X.env x u) Q E s:=
 store_ok2 I hN hi hx r (fun s' I' _=>h s' I') hf
theorem Inv.call' {s':Shared} {ch:List Addr} (I:Inv X pins σ H s) (ho:s'.os=s.os) (u:Un (frs X.stack) ch H H' s.heap s'.heap) (hok:HOk X.prog X.w H' s'.heap) (hg:AllBare s'.gens)
 (hch:∀ b∈ch,(b∈X.ex∨X.s₀.heap.objs.size≤b)/\b≠X.env.locals/\(∀ x c,X.env.cells.lookup x=some c->c≠b)/\∀ p∈X.pn++pins,p.1≠b):Inv X pins σ H' s':=by
 obtain ⟨h',g',d',t',o'⟩:=s'
 have e:o'=s.os:=ho
 subst e
 exact I.call (g':=g') (t':=t') (d':=d') u hok hg hch
end
abbrev XK:=Value->Option Addr->Hp->Prop
abbrev St:=List (Option V)
abbrev VK:=V->Hp->Prop
abbrev TE:=St->Hp->VK->Prop
abbrev TT:=St->Hp->(Bool->Hp->Prop)->Prop
abbrev TA:=St->Hp->(List V->Hp->Prop)->Prop
structure Ends where
 nx:St->Hp->Prop
 rt:VK
 bk:St->Hp->Prop:=fun _ _=>False
 ct:St->Hp->Prop:=fun _ _=>False
abbrev TS:=Ends->St->Hp->Prop
def EP (X:Cx) (pins:List (Addr×Obj)) (σ:St) (Q:VK) (u:Value) (s':Shared):Prop:=∃ v H',Inv X pins σ H' s'/\RelV v u/\Q v H'
def TP (X:Cx) (pins:List (Addr×Obj)) (σ:St) (Q:Bool->Hp->Prop) (b:Bool) (s':Shared):Prop:=∃ H',Inv X pins σ H' s'/\Q b H'
def AP (X:Cx) (pins:List (Addr×Obj)) (σ:St) (Q:List V->Hp->Prop) (us:List Value) (s':Shared):Prop:=∃ vs H',Inv X pins σ H' s'/\Vals vs us/\Q vs H'
def SP (X:Cx) (pins:List (Addr×Obj)) (D:Ends) (f:Flow) (s':Shared):Prop:=
 match f with
 |.next=>∃ σ' H',Inv X pins σ' H' s'/\D.nx σ' H'
 |.brk=>∃ σ' H',Inv X pins σ' H' s'/\D.bk σ' H'
 |.cont=>∃ σ' H',Inv X pins σ' H' s'/\D.ct σ' H'
 |.ret u=>∃ v σ' H',Inv X pins σ' H' s'/\RelV v u/\D.rt v H'
def PE (X:Cx) (e:Expr) (t:TE):Prop:=
 ∀ (pins:List (Addr×Obj)) (s:Shared) (σ:St) (H:Hp) (Q:VK),Inv X pins σ H s->t σ H Q->wpAny (model X.prog X.w) X.A (eval e X.env) (EP X pins σ Q) X.xe s
def PT (X:Cx) (e:Expr) (t:TT):Prop:=
 ∀ (pins:List (Addr×Obj)) (s:Shared) (σ:St) (H:Hp) (Q:Bool->Hp->Prop),Inv X pins σ H s->t σ H Q->wpAny (model X.prog X.w) X.A (isTrue e X.env (eval e X.env)) (TP X pins σ Q) X.xe s
def PW (X:Cx) (e:Expr) (t:TT):Prop:=
 ∀ (whole:Sem Value) (pins:List (Addr×Obj)) (s:Shared) (σ:St) (H:Hp) (Q:Bool->Hp->Prop),Inv X pins σ H s->t σ H Q->wpAny (model X.prog X.w) X.A (isTrue e X.env whole) (TP X pins σ Q) X.xe s
theorem PW.pt {X:Cx} {e:Expr} {t:TT} (h:PW X e t):PT X e t:=h _
def PA (X:Cx) (es:List Expr) (t:TA):Prop:=
 ∀ (pos:Pos) (pins:List (Addr×Obj)) (s:Shared) (σ:St) (H:Hp) (Q:List V->Hp->Prop),Inv X pins σ H s->t σ H Q->wpAny (model X.prog X.w) X.A (spliced (backTo pos (starEach es X.env))) (AP X pins σ Q) X.xe s
def PS (X:Cx) (st:Stmt) (t:TS):Prop:=
 ∀ (pins:List (Addr×Obj)) (s:Shared) (σ:St) (H:Hp) (D:Ends),Inv X pins σ H s->t D σ H->wpAny (model X.prog X.w) X.A (exec st X.env) (SP X pins D) X.xe s
def PSs (X:Cx) (st:List Stmt) (t:TS):Prop:=
 ∀ (pins:List (Addr×Obj)) (s:Shared) (σ:St) (H:Hp) (D:Ends),Inv X pins σ H s->t D σ H->wpAny (model X.prog X.w) X.A (execs st X.env) (SP X pins D) X.xe s
theorem thn {α:Type} {t:Sem α} {Q Q':α->Shared->Prop} {M:Model} {A:Around} {E:Value->Shared->Prop} {s:Shared} (h:wpAny M A t Q E s) (hQ:∀ a s,Q a s->Q' a s):wpAny M A t Q' E s:=wpAny_mono h hQ fun _ _ x=>x
section
variable {X:Cx}
theorem bin {a b:Expr} {ta tb:TE} (ha:PE X a ta) (hb:PE X b tb) {pins:List (Addr×Obj)} {s:Shared} {σ:St} {H:Hp} {R:V->V->Hp->Prop} (I:Inv X pins σ H s) (h:ta σ H fun x H1=>tb σ H1 fun y H2=>R x y H2)
 {α:Type} {Q:α->Shared->Prop} {f:Value->Value->Sem α}
 (hf:∀ v u s2 x y H2,Inv X pins σ H2 s2->RelV x v->RelV y u->R x y H2->wpAny (model X.prog X.w) X.A (f v u) Q X.xe s2) :
 wpAny (model X.prog X.w) X.A (eval a X.env) (fun v s₁=>wpAny (model X.prog X.w) X.A (eval b X.env) (fun u s₂=>wpAny (model X.prog X.w) X.A (f v u) Q X.xe s₂) X.xe s₁) X.xe s:=by
 refine thn (ha pins s σ H _ I h) fun v s1 ⟨x,H1,I1,r1,q1⟩=>?_
 refine thn (hb pins s1 σ H1 _ I1 q1) fun u s2 ⟨y,H2,I2,r2,q2⟩=>?_
 exact hf v u s2 x y H2 I2 r1 r2 q2
def tVar (i:Nat):TE:=fun σ H Q=>∃ v,σ[i]?=some (some v)/\Q v H
def tC (v:V):TE:=fun _ H Q=>Q v H
theorem pe_var {i:Nat} {x:Str} {pos:Pos} (hN:X.N[i]?=some x) (hv:Vis X.env.scope x) (hd:(x == ("__debug__" : Str))=false:=by decide) (hcd:(x == ("__classdict__" : Str))=false:=by decide):PE X (.Name x pos) (tVar i):=by
 intro pins s σ H Q I h
 obtain ⟨v,e,h⟩:=h
 obtain ⟨m,hn,hl⟩:=I.loc
 obtain ⟨u,r,l⟩:=hl i x v hN e hv
 have fin:EP X pins σ Q u s:=⟨v,H,I,r,h⟩
 rcases l with ⟨hk,hm⟩|⟨hk,c,hc,hcell⟩
 ·exact wpAny_Name (wpAny_loadName_local I.ok.kind hk hn hm fin) hd
 ·rcases hk with hk|hk
  ·exact wpAny_Name (wpAny_loadName_cell I.ok.kind hk hc hcell fin) hd
  ·exact wpAny_Name (wpAny_loadName_free I.ok.kind hk hc hcell fin hcd) hd
theorem pe_int {i j pos}:PE X (.Constant (.int i) j pos) (tC (.int i)):=fun _ _ _ H _ I h=>wpAny_Constant_int ⟨.int i,H,I.tok _,⟨_,rfl⟩,h⟩
theorem pe_bl {b j pos}:PE X (.Constant (.bool b) j pos) (tC (.bl b)):=fun _ _ _ H _ I h=>Constant_bool ⟨.bl b,H,I,rfl,h⟩
theorem pe_non {j pos}:PE X (.Constant .none j pos) (tC .non):=fun _ _ _ H _ I h=>Constant_none ⟨.non,H,I,rfl,h⟩
theorem pe_str {x j pos}:PE X (.Constant (.str x) j pos) (tC (.str x)):=fun _ _ _ H _ I h=>Calls.Constant_str ⟨.str x,H,I.tok _,⟨_,rfl⟩,h⟩
def Gl (X:Cx) (x:Str):Prop:=X.env.kindOf x=some .globalImplicit
theorem ld_glob {E:Value->Shared->Prop} {pins:List (Addr×Obj)} {s:Shared} {σ:St} {H:Hp} {x:Str} {u:Value} {pos:Pos} {Q:Value->Shared->Prop} (I:Inv X pins σ H s) (hg:Gl X x) (hm:X.mg x=some u) (h:Q u s)
 (hd:(x == ("__debug__" : Str))=false:=by decide):wpAny (model X.prog X.w) X.A (eval (.Name x pos) X.env) Q E s:=
 Calls.Name_function_global I.ok.kind hg (Calls.loadGlobal_global (by rw [I.ok.glob];exact I.mod.glob.keeps I.bk) hm h) hd
theorem ld_blt {E:Value->Shared->Prop} {pins:List (Addr×Obj)} {s:Shared} {σ:St} {H:Hp} {x:Str} {u:Value} {pos:Pos} {Q:Value->Shared->Prop} (I:Inv X pins σ H s) (hg:Gl X x) (hm:X.mg x=none) (hv:bootBuiltins x=some u) (h:Q u s)
 (hn:x ≠ "__name__":=by decide) (hd:(x == ("__debug__" : Str))=false:=by decide):wpAny (model X.prog X.w) X.A (eval (.Name x pos) X.env) Q E s:=by
 obtain ⟨mb,h1,h2⟩:=I.mod.blt
 exact Calls.Name_function_global I.ok.kind hg (Calls.loadGlobal_builtin (by rw [I.ok.glob];exact I.mod.glob.keeps I.bk) hm (by rw [I.ok.blt];exact h1.keeps I.bk) ((h2 x hn).trans hv) h) hd
theorem pe_glob {x:Str} {v:V} {u:Value} {pos:Pos} (hg:Gl X x) (hm:X.mg x=some u) (r:RelV v u) (hd:(x == ("__debug__" : Str))=false:=by decide):PE X (.Name x pos) (tC v):=
 fun _ _ _ H _ I h=>ld_glob I hg hm ⟨v,H,I,r,h⟩ hd
theorem pe_bltn {x:Str} {v:V} {u:Value} {pos:Pos} (hg:Gl X x) (hm:X.mg x=none) (hv:bootBuiltins x=some u) (r:RelV v u) (hn:x ≠ "__name__":=by decide) (hd:(x == ("__debug__" : Str))=false:=by decide):PE X (.Name x pos) (tC v):=
 fun _ _ _ H _ I h=>ld_blt I hg hm hv ⟨v,H,I,r,h⟩ hn hd
variable {a b:Expr} {ta tb:TE} {pos:Pos}
def PC (X:Cx) (op:CmpOp) (a b:Expr) (t:TE):Prop:=
 ∀ (pins:List (Addr×Obj)) (s:Shared) (σ:St) (H:Hp) (Q:VK),Inv X pins σ H s->t σ H Q->
   wpAny (model X.prog X.w) X.A (eval a X.env) (fun v s₁=>wpAny (model X.prog X.w) X.A (eval b X.env) (fun u s₂=>wpAny (model X.prog X.w) X.A (compareOp op v u) (EP X pins σ Q) X.xe s₂) X.xe s₁) X.xe s
def tB (t:TE):TT:=fun σ H Q=>t σ H fun x H1=>∃ c,x=.bl c/\Q c H1
theorem pt_cmp {op:CmpOp} {t:TE} (h:PC X op a b t) (h1:behindInMarks op b=false:=by first|exact nobehind _ (by decide) (by decide)|rfl):PT X (.Compare a [op] [b] pos) (tB t):=by
 intro pins s σ H Q I hw
 refine wpAny_isTrue_Compare1 (thn (h pins s σ H _ I hw) fun v s1 h1=>thn h1 fun u s2 h2=>thn h2 fun c s3 ⟨x,H1,I1,r1,q1⟩=>?_) h1
 obtain ⟨d,rfl,q⟩:=q1
 cases r1
 exact wpAny_truthy_bool ⟨H1,I1,q⟩
theorem pt_val {e:Expr} {t:TE} (h:PE X e t) (he:∀ whole,isTrue e X.env whole=(do let v ← whole;standAt e.pos;holding [v] (truthy v)):=by intro _;rfl):PT X e (tB t):=by
 intro pins s σ H Q I hw
 refine isTrue_plain (thn (h pins s σ H _ I hw) fun v s1 ⟨x,H1,I1,r1,q1⟩=>?_) (he _)
 obtain ⟨d,rfl,q⟩:=q1
 cases r1
 exact wpAny_truthy_bool ⟨H1,I1,q⟩
variable {tA tB':TT} {rest:List Expr}
def tAnd (t u:TT):TT:=fun σ H Q=>t σ H fun c H1=>if c=true then u σ H1 Q else Q false H1
def tOr (t u:TT):TT:=fun σ H Q=>t σ H fun c H1=>if c=true then Q true H1 else u σ H1 Q
def tNot (t:TT):TT:=fun σ H Q=>t σ H fun c H1=>Q (!c) H1
theorem pw_and1 (ha:PT X a tA):PW X (.BoolOp .And [a] pos) tA:=by
 intro wh pins s σ H Q I h
 refine isTrue_and (thn (ha pins s σ H Q I h) fun c s1 e=>?_)
 cases c with
 |true=>exact isTrue_and_nil e
 |false=>exact e
theorem pw_or1 (ha:PT X a tA):PW X (.BoolOp .Or [a] pos) tA:=by
 intro wh pins s σ H Q I h
 refine isTrue_or (thn (ha pins s σ H Q I h) fun c s1 e=>?_)
 cases c with
 |false=>exact isTrue_or_nil e
 |true=>exact e
theorem pw_and (ha:PT X a tA) (hb:PW X (.BoolOp .And (b::rest) pos) tB'):PW X (.BoolOp .And (a::b::rest) pos) (tAnd tA tB'):=by
 intro wh pins s σ H Q I h
 refine isTrue_and (thn (ha pins s σ H _ I h) fun c s1 ⟨H1,I1,q1⟩=>?_)
 cases c with
 |true=>exact hb wh pins s1 σ H1 Q I1 q1
 |false=>exact ⟨H1,I1,q1⟩
theorem pw_or (ha:PT X a tA) (hb:PW X (.BoolOp .Or (b::rest) pos) tB'):PW X (.BoolOp .Or (a::b::rest) pos) (tOr tA tB'):=by
 intro wh pins s σ H Q I h
 refine isTrue_or (thn (ha pins s σ H _ I h) fun c s1 ⟨H1,I1,q1⟩=>?_)
 cases c with
 |true=>exact ⟨H1,I1,q1⟩
 |false=>exact hb wh pins s1 σ H1 Q I1 q1
theorem pt_not (ha:PT X a tA):PT X (.UnaryOp .Not a pos) (tNot tA):=by
 intro pins s σ H Q I h
 exact isTrue_not (ha pins s σ H (fun c H1=>Q (!c) H1) I h)
def tAndV (ta tb:TE):TE:=fun σ H Q=>ta σ H fun x H1=>∃ c,x=.bl c/\if c=true then tb σ H1 Q else Q (.bl false) H1
theorem pe_one {op} {t:TE} (h:PE X a t):PE X (.BoolOp op [a] pos) t:=fun pins s σ H Q I hw=>BoolOp_one (h pins s σ H Q I hw)
theorem pe_and (ha:PE X a ta) (hb:PE X (.BoolOp .And (b::rest) pos) tb):PE X (.BoolOp .And (a::b::rest) pos) (tAndV ta tb):=by
 intro pins s σ H Q I h
 refine BoolOp_and (thn (ha pins s σ H _ I h) fun v s1 ⟨x,H1,I1,r1,q1⟩=>?_)
 obtain ⟨c,rfl,q1⟩:=q1
 cases r1
 refine wpAny_truthy_bool ?_
 cases c with
 |true=>exact hb pins s1 σ H1 Q I1 q1
 |false=>exact ⟨.bl false,H1,I1,rfl,q1⟩
def tIf (t:TT) (ta tb:TE):TE:=fun σ H Q=>t σ H fun c H1=>if c=true then ta σ H1 Q else tb σ H1 Q
theorem pe_ifExp {c:Expr} (hc:PT X c tA) (ha:PE X a ta) (hb:PE X b tb):PE X (.IfExp c a b pos) (tIf tA ta tb):=by
 intro pins s σ H Q I h
 refine wpAny_IfExp (thn (hc pins s σ H _ I h) fun d s1 ⟨H1,I1,q1⟩=>?_)
 cases d with
 |true=>exact ha pins s1 σ H1 Q I1 q1
 |false=>exact hb pins s1 σ H1 Q I1 q1
end
def SqL (K:PySem.W.Frag) (H:Hp) (a:Addr) (xs:List V):Prop:=
 Rd H a (.lst xs)∨
  ∃ (o:Obj) (its:Array Value) (n:Nat),K.lookup a=some o/\o.cls=.type "list"/\o.dict=none/\o.data=.seq its n/\its.size≤sizeLine/\Vals xs its.toList
def SqT (K:PySem.W.Frag) (H:Hp) (a:Addr) (xs:List V):Prop:=
 Rd H a (.tup xs)∨
  ∃ (o:Obj) (its:Array Value) (n:Nat),K.lookup a=some o/\o.cls=.type "tuple"/\o.data=.seq its n/\its.size≤sizeLine/\Vals xs its.toList
def absV:Value->Option V
 |.none=>some .non
 |.bool b=>some (.bl b)
 |.int i _=>some (.int i)
 |.str x _=>some (.str x)
 |.bytes b _=>some (.byt b)
 |.float b _=>some (.flt b)
 |.ref a=>some (.ref a)
 |.type n=>some (.ty n)
 |_=>none
theorem RelV.abs {x:V} {u:Value} (r:RelV x u):absV u=some x:=by
 cases x with
 |non=>cases r;rfl
 |bl _=>cases r;rfl
 |int _=>obtain ⟨t,rfl⟩:=r;rfl
 |str _=>obtain ⟨t,rfl⟩:=r;rfl
 |byt _=>obtain ⟨t,rfl⟩:=r;rfl
 |flt _=>obtain ⟨t,rfl⟩:=r;rfl
 |ref _=>cases r;rfl
 |ty _=>cases r;rfl
theorem RelV.inj {x y:V} {u:Value} (r:RelV x u) (q:RelV y u):x=y:=Option.some.inj (r.abs.symm.trans q.abs)
theorem Vals.inj:∀ {xs ys:List V} {us:List Value},Vals xs us->Vals ys us->xs=ys
 |_,_,_,.nil,.nil=>rfl
 |_,_,_,.cons r t,.cons r' t'=>by rw [r.inj r',Vals.inj t t']
section
variable {X:Cx} {pins:List (Addr×Obj)} {σ:St} {H:Hp} {s:Shared} {a:Addr} {xs ys:List V}
theorem SqL.of {K:PySem.W.Frag} (h:H a=some (.lst xs)):SqL K H a xs:=.inl (.inl h)
theorem SqT.of {K:PySem.W.Frag} (h:H a=some (.tup xs)):SqT K H a xs:=.inl (.inl h)
theorem Inv.list (I:Inv X pins σ H s) (h:SqL X.K H a xs):∃ its:List Value,Vals xs its/\PlainL s.heap a its.toArray/\xs.length≤sizeLine:=by
 rcases h with h|⟨o,its,n,hk,hc,hd,hs,hz,r⟩
 ·obtain ⟨z,its,n,r,e⟩:=h.ok I.hok
  exact ⟨its,r,⟨_,n,e,rfl,rfl,rfl⟩,z⟩
 ·refine ⟨its.toList,r,⟨o,n,I.kIn a o hk,hc,hd,by simpa using hs⟩,?_⟩
  have e:=r.length
  simp only [Array.length_toList] at e
  omega
theorem Inv.tuple (I:Inv X pins σ H s) (h:SqT X.K H a xs):∃ its:List Value,Vals xs its/\IsTup s.heap a its.toArray/\xs.length≤sizeLine:=by
 rcases h with h|⟨o,its,n,hk,hc,hs,hz,r⟩
 ·obtain ⟨z,its,r,p⟩:=h.ok I.hok
  exact ⟨its,r,p,z⟩
 ·refine ⟨its.toList,r,⟨o,I.kIn a o hk,hc,n,by simpa using hs⟩,?_⟩
  have e:=r.length
  simp only [Array.length_toList] at e
  omega
theorem Inv.list_inj (I:Inv X pins σ H s) (h:SqL X.K H a xs) (h':SqL X.K H a ys):xs=ys:=by
 obtain ⟨its,r,⟨o,n,e,_,_,d⟩,_⟩:=I.list h
 obtain ⟨its',r',⟨o',n',e',_,_,d'⟩,_⟩:=I.list h'
 rw [e] at e';cases e'
 rw [d] at d'
 injection d' with d1 _
 have:its=its':=by simpa using congrArg Array.toList d1
 subst this
 exact r.inj r'
theorem Inv.tuple_inj (I:Inv X pins σ H s) (h:SqT X.K H a xs) (h':SqT X.K H a ys):xs=ys:=by
 obtain ⟨its,r,⟨o,e,_,n,d⟩,_⟩:=I.tuple h
 obtain ⟨its',r',⟨o',e',_,n',d'⟩,_⟩:=I.tuple h'
 rw [e] at e';cases e'
 rw [d] at d'
 injection d' with d1 _
 have:its=its':=by simpa using congrArg Array.toList d1
 subst this
 exact r.inj r'
end
abbrev Cx.wish (X:Cx) (E:Value->Shared->Prop):Cx:={ X with xe:=E }
abbrev Cx.nox (X:Cx):Cx:=X.wish fun _ _=>False
theorem Cx.Ok.wish {X:Cx} (ok:X.Ok) (E:Value->Shared->Prop):(X.wish E).Ok:=
 ⟨ok.mod,ok.kind,ok.glob,ok.blt,ok.above,ok.inj,ok.has,ok.cab,ok.hd,ok.frames,ok.stk,ok.exf,ok.bs,ok.bsz,ok.noex,ok.exfs,ok.funs,ok.frf⟩
theorem Cx.Ok.unwish {X:Cx} {E:Value->Shared->Prop} (ok:(X.wish E).Ok):X.Ok:=
 ⟨ok.mod,ok.kind,ok.glob,ok.blt,ok.above,ok.inj,ok.has,ok.cab,ok.hd,ok.frames,ok.stk,ok.exf,ok.bs,ok.bsz,ok.noex,ok.exfs,ok.funs,ok.frf⟩
section
variable {X:Cx} {pins:List (Addr×Obj)} {σ:St} {H:Hp} {s:Shared} {E:Value->Shared->Prop}
theorem Inv.wish (I:Inv X pins σ H s) (E:Value->Shared->Prop):Inv (X.wish E) pins σ H s:=⟨I.ok.wish E,I.os,I.bare,I.base,I.loc,I.cell,I.free,I.freeC,I.pin,I.hok,I.len⟩
theorem Inv.unwish (I:Inv (X.wish E) pins σ H s):Inv X pins σ H s:=⟨I.ok.unwish,I.os,I.bare,I.base,I.loc,I.cell,I.free,I.freeC,I.pin,I.hok,I.len⟩
theorem SP.unwish {D:Ends} {f:Flow} {s':Shared} (h:SP (X.wish E) pins D f s'):SP X pins D f s':=by
 cases f with
 |next=>obtain ⟨σ',H',I,q⟩:=h;exact ⟨σ',H',I.unwish,q⟩
 |brk=>obtain ⟨σ',H',I,q⟩:=h;exact ⟨σ',H',I.unwish,q⟩
 |cont=>obtain ⟨σ',H',I,q⟩:=h;exact ⟨σ',H',I.unwish,q⟩
 |ret u=>obtain ⟨v,σ',H',I,r,q⟩:=h;exact ⟨v,σ',H',I.unwish,r,q⟩
theorem PSs.nox {st:List Stmt} {t:TS} (h:PSs X.nox st t):PSs X st t:=fun pins s σ H D I hw=>
 wpAny_mono (h pins s σ H D (I.wish _) hw) (fun _ _ q=>q.unwish) fun _ _ z=>False.elim z
end
section
variable {X:Cx} {st:Stmt} {rest:List Stmt} {t u:TS} {e:Expr} {te:TE} {pos:Pos}
def tNext:TS:=fun D σ H=>D.nx σ H
def tSeq (t u:TS):TS:=fun D σ H=>t { D with nx:=u D } σ H
theorem pss_nil:PSs X [] tNext:=fun _ _ σ H _ I h=>wpAny_execs_nil ⟨σ,H,I,h⟩
theorem pss_cons (h1:PS X st t) (h2:PSs X rest u):PSs X (st::rest) (tSeq t u):=by
 intro pins s σ H D I h
 refine wpAny_execs_cons (thn (h1 pins s σ H { D with nx:=u D } I h) fun f s1 q=>?_)
 cases f with
 | next=>
   obtain ⟨σ',H',I',q⟩:=q
   exact h2 pins s1 σ' H' D I' q
 |ret v=>exact q
 |brk=>exact q
 |cont=>exact q
theorem pss_one (h1:PS X st t):PSs X [st] t:=by
 intro pins s σ H D I h
 refine wpAny_execs_cons (thn (h1 pins s σ H D I h) fun f s1 q=>?_)
 cases f with
 |next=>exact wpAny_execs_nil q
 |ret v=>exact q
 |brk=>exact q
 |cont=>exact q
theorem Inv.quiet {pins:List (Addr×Obj)} {σ:St} {H:Hp} {s:Shared} (I:Inv X pins σ H s):interactive X.env=false:=by simp [interactive,I.ok.kind]
def tDrop (te:TE):TS:=fun D σ H=>te σ H fun _ H1=>D.nx σ H1
theorem ps_expr (he:PE X e te) (hs:swapsWith e none pos.line X.env=pure false:=by rfl):PS X (.Expr e pos) (tDrop te):=by
 intro pins s σ H D I h
 exact wpAny_Expr_any (thn (he pins s σ H _ I h) fun v s1 ⟨x,H1,I1,r1,q1⟩=>⟨σ,H1,I1,q1⟩) I.quiet hs
def tRet (te:TE):TS:=fun D σ H=>te σ H D.rt
theorem ps_ret (he:PE X e te):PS X (.Return (some e) pos) (tRet te):=by
 intro pins s σ H D I h
 exact wpAny_Return_some (thn (he pins s σ H _ I h) fun v s1 ⟨x,H1,I1,r1,q1⟩=>⟨x,σ,H1,I1,r1,q1⟩)
def tIfS (c:TT) (t u:TS):TS:=fun D σ H=>c σ H fun b H1=>if b=true then t D σ H1 else u D σ H1
theorem ps_if {c:Expr} {a b:List Stmt} {tc:TT} (hc:PT X c tc) (ha:PSs X a t) (hb:PSs X b u):PS X (.If c a b pos) (tIfS tc t u):=by
 intro pins s σ H D I h
 refine wpAny_If (thn (hc pins s σ H _ I h) fun d s1 ⟨H1,I1,q1⟩=>?_)
 cases d with
 |true=>exact ha pins s1 σ H1 D I1 q1
 |false=>exact hb pins s1 σ H1 D I1 q1
def tNever:TS:=fun _ _ _=>False
theorem ps_never:PS X st tNever:=fun _ _ _ _ _ _ h=>h.elim
end
abbrev TG:=V->St->Hp->(St->Hp->Prop)->Prop
abbrev TGs:=List V->St->Hp->(St->Hp->Prop)->Prop
def PG (X:Cx) (target:Expr) (t:TG):Prop:=
 ∀ (pins:List (Addr×Obj)) (s:Shared) (σ:St) (H:Hp) (v:V) (u:Value) (Q:St->Hp->Prop),Inv X pins σ H s->RelV v u->t v σ H Q->
   wpAny (model X.prog X.w) X.A (assign target X.env u) (fun _ s'=>∃ σ' H',Inv X pins σ' H' s'/\Q σ' H') X.xe s
def PGs (X:Cx) (ts:List Expr) (t:TGs):Prop:=
 ∀ (pins:List (Addr×Obj)) (s:Shared) (σ:St) (H:Hp) (vs:List V) (us:List Value) (Q:St->Hp->Prop),Inv X pins σ H s->Vals vs us->t vs σ H Q->
   wpAny (model X.prog X.w) X.A (assignInOrder ((assignEach ts X.env).map (·.2)) us) (fun _ s'=>∃ σ' H',Inv X pins σ' H' s'/\Q σ' H') X.xe s
section
variable {X:Cx} {pos:Pos}
def gName (i:Nat):TG:=fun v σ H Q=>Q (σ.set i (some v)) H
theorem pg_name {i:Nat} {x:Str} (hN:X.N.Nodup) (hi:X.N[i]?=some x) (hx:Loc X.env.scope x) (hf:X.fn x=true∨X.env.scope.names.lookup x=some .local:=by first|exact .inl rfl|exact .inr rfl|assumption):PG X (.Name x pos) (gName i):=by
 intro pins s σ H v u Q I r h
 exact wpAny_assign_Name (store_ok I hN hi hx r (fun s' I'=>⟨_,H,I',h⟩) hf)
def gNil:TGs:=fun vs σ H Q=>vs=[]/\Q σ H
def gCons (t:TG) (u:TGs):TGs:=fun vs σ H Q=>∃ v r,vs=v::r/\t v σ H fun σ' H'=>u r σ' H' Q
theorem pgs_nil:PGs X [] gNil:=by
 intro pins s σ H vs us Q I r h
 obtain ⟨e,h⟩:=h
 subst e
 cases r
 exact assignInOrder_nil ⟨σ,H,I,h⟩
theorem pgs_cons {e:Expr} {es:List Expr} {t:TG} {u:TGs} (h1:PG X e t) (h2:PGs X es u)
 (hs:(assignEach (e::es) X.env).map (·.2)=assign e X.env::(assignEach es X.env).map (·.2):=by rfl):PGs X (e::es) (gCons t u):=by
 intro pins s σ H vs us Q I r h
 obtain ⟨v,vr,e1,h⟩:=h
 subst e1
 cases r with
 | cons r rr=>
   rw [hs]
   refine assignInOrder_cons (thn (h1 pins s σ H _ _ _ I r h) fun _ s1 ⟨σ1,H1,I1,q1⟩=>?_)
   exact h2 pins s1 σ1 H1 _ _ Q I1 rr q1
def gTup (K:PySem.W.Frag) (n:Nat) (t:TGs):TG:=fun v σ H Q=>∃ a xs,v=.ref a/\SqT K H a xs/\xs.length=n/\t xs σ H Q
theorem pg_tup {es:List Expr} {k:Nat} {t:TGs} {n:Nat} (hc:X.calm=true) (h:PGs X es t)
 (hn:(assignEach es X.env).length=n:=by rfl) (hst:(assignEach es X.env).findIdx? (·.1)=none:=by rfl):PG X (.Tuple es k pos) (gTup X.K n t):=by
 intro pins s σ H v u Q I r hw
 obtain ⟨a,xs,e1,hq,hl,hw⟩:=hw
 subst e1
 cases r
 obtain ⟨its,rv,ht,hz⟩:=I.tuple hq
 refine assign_Tuple_tuple (I.ok.hd hc) ht (by simp [hn,← hl,rv.length]) hst fun h' hx=>?_
 have I1:Inv X pins σ H { s with heap:=h' }:=I.kept (t':=s.toks) fun b o e=>hx b o (Nat.ne_of_lt (Heap.lt_size e)) e
 exact h pins _ σ H xs _ Q I1 (by simpa using rv) hw
def tAsg (te:TE) (g:TG):TS:=fun D σ H=>te σ H fun x H1=>g x σ H1 D.nx
theorem ps_asg {tg e:Expr} {te:TE} {g:TG} (he:PE X e te) (hg:PG X tg g) (hs:swapsWithSole [tg] e pos.line X.env=pure false:=by rfl) (hw:swappedStores [tg] e X.env=pure none:=by rfl)
 (h1:(assignEach [tg] X.env).map (·.2)=[assign tg X.env]:=by rfl):PS X (.Assign [tg] e pos) (tAsg te g):=by
 intro pins s σ H D I h
 refine wpAny_Assign_stores (thn (he pins s σ H _ I h) fun v s1 ⟨x,H1,I1,r1,q1⟩=>?_) hs hw
 rw [h1]
 exact thn (hg pins s1 σ H1 x v _ I1 r1 q1) fun _ s2 q=>q
theorem ps_set {i:Nat} {x:Str} {e:Expr} {te:TE} {pos':Pos} (hN:X.N.Nodup) (hi:X.N[i]?=some x) (hx:Loc X.env.scope x) (he:PE X e te) (hs:swapsWith e (some (.Name x pos')) pos.line X.env=pure false:=by rfl) (hf:X.fn x=true∨X.env.scope.names.lookup x=some .local:=by first|exact .inl rfl|exact .inr rfl|assumption) :
 PS X (.Assign [.Name x pos'] e pos) (tAsg te (gName i)):=by
 intro pins s σ H D I h
 refine wpAny_Assign_Name (thn (he pins s σ H _ I h) fun v s1 ⟨y,H1,I1,r1,q1⟩=>?_) hs
 exact store_ok I1 hN hi hx r1 (fun s2 I2=>⟨_,H1,I2,q1⟩) hf
end
section
variable {X:Cx} {pos:Pos}
end
structure It where
 go:Nat->Hp->Prop
 yld:Nat->Hp->V->Hp->Prop
 stop:Nat->Hp->Prop
def FpOk (X:Cx) (pins:List (Addr×Obj)) (H:Hp) (b:Addr):Prop:=
 H b=none/\b≠X.env.locals/\b∉X.fs/\(b∈X.ex∨X.s₀.heap.objs.size≤b)/\(∀ x c,X.env.cells.lookup x=some c->c≠b)/\∀ p∈X.pn++pins,p.1≠b
theorem Inv.fpOk {X:Cx} {pins:List (Addr×Obj)} {σ:St} {H H':Hp} {s:Shared} {b:Addr} (I:Inv X pins σ H s) (hb:s.heap.objs.size≤b) (hn:H' b=none):FpOk X pins H' b:=by
 refine ⟨hn,Nat.ne_of_gt (Nat.lt_of_lt_of_le I.lt hb),I.nofs hb,.inr (Nat.le_trans I.sz hb),fun x c e z=>?_,fun p hp z=>?_⟩
 ·obtain ⟨v,q⟩:=I.cell x c e
  exact absurd (Nat.lt_of_lt_of_le q.lt (by rw [z];exact hb)) (Nat.lt_irrefl _)
 ·exact absurd (Nat.lt_of_lt_of_le (Heap.lt_size (I.pin p hp).1) (by rw [z];exact hb)) (Nat.lt_irrefl _)
structure Turn (P:Program) (w:World) (K:PySem.W.Frag) (tg:Expr) (J:It) (fp:List Addr) (it:Addr) (tn:Nat->Heap->Prop):Prop where
 mem:it∈fp
 obj:∀ i h,tn i h->∀ b∈fp,∃ o,h.get? b=some o/\∀ v,o.data≠.cell v
 keep:∀ i h h',tn i h->(∀ b∈fp,∀ o,h.get? b=some o->h'.get? b=some o)->tn i h'
 item:∀ (X:Cx),X.prog=P->X.w=w->X.K=K->X.calm=true->∀ (i:Nat) (pins:List (Addr×Obj)) (s:Shared) (σ:St) (H:Hp) (E:Value->Shared->Prop),Inv X pins σ H s->(∀ b∈fp,FpOk X pins H b)->tn i s.heap->J.go i H->
  wpAny (model P w) X.A (pyNext (.ref it)) (fun r s1=>∃ u,r=some u/\
   wpAny (model P w) X.A (letOwnedTupleGo tg (.ref it) u) (fun _ s2=>∃ x H',Inv X pins σ H' s2/\RelV x u/\J.yld i H x H'/\tn (i+1) s2.heap/\∀ b∈fp,H' b=none) E s1) E s
 done:∀ (X:Cx),X.prog=P->X.w=w->X.K=K->X.calm=true->∀ (i:Nat) (pins:List (Addr×Obj)) (s:Shared) (σ:St) (H:Hp) (E:Value->Shared->Prop),Inv X pins σ H s->(∀ b∈fp,FpOk X pins H b)->tn i s.heap->J.stop i H->
  wpAny (model P w) X.A (pyNext (.ref it)) (fun r s1=>r=none/\Inv X pins σ H s1) E s
 self:∀ (A:Around) (i:Nat) (s:Shared) (Q:Value->Shared->Prop) (E:Value->Shared->Prop),tn i s.heap->Q (.ref it) s->wpAny (model P w) A (pyIter (.ref it)) Q E s
abbrev TI:=St->Hp->(It->Hp->Prop)->Prop
def PIE (X:Cx) (pins:List (Addr×Obj)) (σ:St) (tg:Expr) (R:It->Hp->Prop) (itv:Value) (s2:Shared):Prop:=
 ∃ (it:Addr) (fp:List Addr) (tn:Nat->Heap->Prop) (J:It) (H':Hp),itv=.ref it/\Inv X pins σ H' s2/\Turn X.prog X.w X.K tg J fp it tn/\tn 0 s2.heap/\(∀ b∈fp,FpOk X pins H' b)/\R J H'
def PI (X:Cx) (tg iter:Expr) (wi:TI):Prop:=
 ∀ (pins:List (Addr×Obj)) (s:Shared) (σ:St) (H:Hp) (R:It->Hp->Prop),Inv X pins σ H s->wi σ H R->
   wpAny (model X.prog X.w) X.A (eval iter X.env) (fun v s1=>wpAny (model X.prog X.w) X.A (pyIter v) (PIE X pins σ tg R) X.xe s1) X.xe s
theorem go_of {M:Model} {A:Around} {E:Value->Shared->Prop} {s:Shared} {tg:Expr} {it:Addr} {u:Value} {o:Obj} {n:String} {vs:Array Value} {Q:Unit->Shared->Prop} (ho:s.heap.get? it=some o) (hc:o.cls=.type n) (hd:o.data=.fields vs)
 (hn:["enumerate","zip","dict_itemiterator","dict_reverseitemiterator","odict_iterator","itertools.zip_longest","itertools.pairwise"].contains n=false) (hQ:Q () s):wpAny M A (letOwnedTupleGo tg (.ref it) u) Q E s:=by
 unfold letOwnedTupleGo
 cases tg <;> first
  |exact wpAny_pure hQ
  |(cases u <;> first
   |exact wpAny_pure hQ
   | (refine wpAny_bind (wpAny_load ho ?_)
      rw [hc,hd]
      show wpAny M A (if (["enumerate","zip","dict_itemiterator","dict_reverseitemiterator","odict_iterator","itertools.zip_longest","itertools.pairwise"].contains n && vs[0]? == some (rawInt _))=true then _ else _) Q E s
      rw [if_neg (by intro h;rw [hn,Bool.false_and] at h;cases h)]
      exact wpAny_pure hQ))
def Itl (K:PySem.W.Frag) (a:Addr):It:=
 ⟨fun i H=>∃ xs x,SqL K H a xs/\xs[i]?=some x,fun i H x H'=>H'=H/\∀ xs,SqL K H a xs->xs[i]?=some x,fun i H=>∃ xs,SqL K H a xs/\xs.length≤i⟩
def Itr (lo:Int) (n:Nat):It:=⟨fun i _=>i<n,fun i H x H'=>H'=H/\x=.int (lo+i),fun i _=>n≤i⟩
theorem turn_list {P:Program} {w:World} {K:PySem.W.Frag} {tg:Expr} (a it:Addr):Turn P w K tg (Itl K a) [it] it (fun i h=>h.IsListIter it a i) where
 mem:=by simp
 obj:=fun i h st b hb=>by
  have e:b=it:=by simpa using hb
  subst e
  obtain ⟨o,e,c,d⟩:=st
  exact ⟨o,e,fun v z=>by rw [d] at z;cases z⟩
 keep:=fun i h h' st k=>st.at fun o e=>k it (by simp) o e
 item:=by
  intro X hP hw hK hc i pins s σ H E I hf st hg
  subst hP hw hK
  obtain ⟨xs,x,hq,hx⟩:=hg
  obtain ⟨its,rv,p,hz⟩:=I.list hq
  obtain ⟨u,hu,ru⟩:=rv.get hx
  obtain ⟨f0,f1,f2,f3,f4,f5⟩:=hf it (by simp)
  refine wpAny_pyNext_list_item st p.isList (x:=u) (by simpa using hu) fun h' st' sb=>?_
  have I1:Inv X pins σ H { s with heap:=h' }:=I.turned (t':=s.toks) (fun b o hb e=>(sb.2 b hb).trans e) f0 f1 f3 f4 f5
  obtain ⟨o,e,c,d⟩:=id st'
  exact ⟨u,rfl,go_of (s:={ s with heap:=h' }) e c d (by decide) ⟨x,H,I1,ru,⟨rfl,fun ys hy=>by rw [I.list_inj hy hq];exact hx⟩,st',fun b hb=>(hf b hb).1⟩⟩
 done:=by
  intro X hP hw hK hc i pins s σ H E I hf st hg
  subst hP hw hK
  obtain ⟨xs,hq,hx⟩:=hg
  obtain ⟨its,rv,p,hz⟩:=I.list hq
  obtain ⟨f0,f1,f2,f3,f4,f5⟩:=hf it (by simp)
  have hl:=rv.length
  exact wpAny_pyNext_list_end (I.ok.hd hc) st p.isList (by simp;omega) fun h' eb=>⟨rfl,I.turned (t':=s.toks) (fun b o hb e=>eb b o hb e) f0 f1 f3 f4 f5⟩
 self:=fun _ _ _ _ _ st h=>wpAny_pyIter_listiter st h
theorem turn_range {P:Program} {w:World} {K:PySem.W.Frag} {tg:Expr} (it:Addr) (lo:Int) (n:Nat):Turn P w K tg (Itr lo n) [it] it (fun i h=>IsRangeIter h it (lo+(i:Nat)*1) ((n:Int)-(i:Nat)) 1) where
 mem:=by simp
 obj:=fun i h st b hb=>by
  have e:b=it:=by simpa using hb
  subst e
  exact ⟨_,st,fun v z=>by
   have z':Data.fields _=Data.cell v:=z
   cases z'⟩
 keep:=fun i h h' st k=>k it (by simp) _ st
 item:=by
  intro X hP hw hK hc i pins s σ H E I hf st hg
  subst hP hw hK
  obtain ⟨f0,f1,f2,f3,f4,f5⟩:=hf it (by simp)
  have W:=Walks.range (prog:=X.prog) (w:=X.w) (I.ok.hd hc) it lo 1 n
  refine W.item i s _ _ hg st fun v h' tk hv st' kk=>?_
  obtain ⟨t,rfl⟩:=hv
  have I1:Inv X pins σ H { s with heap:=h',toks:=tk }:=I.turned (fun b o hb e=>kk b o (by simpa using hb) e) f0 f1 f3 f4 f5
  refine ⟨_,rfl,go_of (s:={ s with heap:=h',toks:=tk }) (n:="range_iterator") st' rfl rfl (by decide) ⟨.int (lo+i),H,I1,⟨t,?_⟩,⟨rfl,rfl⟩,st',fun b hb=>(hf b hb).1⟩⟩
  rw [Int.mul_one]
 done:=by
  intro X hP hw hK hc i pins s σ H E I hf st hg
  subst hP hw hK
  obtain ⟨f0,f1,f2,f3,f4,f5⟩:=hf it (by simp)
  exact wpAny_pyNext_range_end (I.ok.hd hc) st (by have:n≤i:=hg;omega) fun h' eb=>⟨rfl,I.turned (t':=s.toks) (fun b o hb e=>eb b o hb e) f0 f1 f3 f4 f5⟩
 self:=fun _ _ _ _ _ st h=>wpAny_pyIter_rangeiter st h
section
variable {X:Cx} {tg:Expr}
def iList (K:PySem.W.Frag) (tl:TE):TI:=fun σ H R=>tl σ H fun x H1=>∃ a,x=.ref a/\(∃ xs,SqL K H1 a xs)/\R (Itl K a) H1
theorem pi_list {l:Expr} {tl:TE} (hl:PE X l tl):PI X tg l (iList X.K tl):=by
 intro pins s σ H R I h
 refine thn (hl pins s σ H _ I h) fun v s1 ⟨x,H1,I1,r1,q1⟩=>?_
 obtain ⟨a,e,⟨xs,hq⟩,q⟩:=q1
 subst e
 cases r1
 obtain ⟨its,rv,p,hz⟩:=I1.list hq
 refine wpAny_pyIter_list p.isList ?_
 refine ⟨s1.heap.objs.size,[s1.heap.objs.size],_,_,H1,rfl,I1.kept (t':=s1.toks) fun b o e=>Heap.get?_push_of_some _ e,turn_list a _,⟨_,Heap.get?_push_size _ rfl,rfl,rfl⟩,fun b hb=>?_,q⟩
 have e:b=s1.heap.objs.size:=by simpa using hb
 subst e
 exact I1.fpOk (Nat.le_refl _) (I1.hok.fresh (Nat.le_refl _))
theorem range_it {pins:List (Addr×Obj)} {σ:St} {H:Hp} {s:Shared} {R:It->Hp->Prop} {E:Value->Shared->Prop} {lo hi:Int} {t u v:Tok} {tk:Nat} (I:Inv X pins σ H s) (h1:-(2 ^ 62)≤lo) (h2:lo<2 ^ 62) (h3:-(2 ^ 62)≤hi) (h4:hi<2 ^ 62)
 (q:R (Itr lo (hi-lo).toNat) H):wpAny (model X.prog X.w) X.A (pyIter (.ref s.heap.objs.size)) (PIE X pins σ tg R) E { s with heap:=s.heap.push { cls:=.type "range",data:=.fields #[.int lo t,.int hi u,.int 1 v] },toks:=tk }:=by
 refine wpAny_pyIter_range (IsRange.new ..) (small_one h1 h2 h3 h4) ?_
 have I1:Inv X pins σ H { s with heap:=s.heap.push { cls:=.type "range",data:=.fields #[.int lo t,.int hi u,.int 1 v] },toks:=tk }:=I.kept fun b o e=>Heap.get?_push_of_some _ e
 refine ⟨(s.heap.push { cls:=.type "range",data:=.fields #[.int lo t,.int hi u,.int 1 v] }).objs.size,[(s.heap.push { cls:=.type "range",data:=.fields #[.int lo t,.int hi u,.int 1 v] }).objs.size],_,_,H,rfl,
  I1.kept (t':=tk) fun b o e=>Heap.get?_push_of_some _ e,turn_range _ lo (hi-lo).toNat,?_,fun b hb=>?_,q⟩
 ·have e1:lo+((0:Nat):Int)*1=lo:=by simp
  have e2:(((hi-lo).toNat:Nat):Int)-((0:Nat):Int)=Builtin.Range.rangeSize lo hi 1:=by rw [rangeSize_one];split <;> omega
  show IsRangeIter _ _ (lo+((0:Nat):Int)*1) ((((hi-lo).toNat:Nat):Int)-((0:Nat):Int)) 1
  rw [e1,e2]
  exact Heap.get?_push_size _ rfl
 ·have e:b=(s.heap.push { cls:=.type "range",data:=.fields #[.int lo t,.int hi u,.int 1 v] }).objs.size:=by simpa using hb
  subst e
  exact I1.fpOk (Nat.le_refl _) (I1.hok.fresh (Nat.le_refl _))
def iRng1 (ta:TA):TI:=fun σ H R=>ta σ H fun vs H1=>∃ j:Int,vs=[.int j]/\-(2 ^ 62)≤j/\j<2 ^ 62/\R (Itr 0 j.toNat) H1
theorem pi_range1 {a:Expr} {ta:TA} {p pos:Pos} (hg:Gl X "range") (hm:X.mg "range" = none) (ha:PA X [a] ta) (hs:starEach [a] X.env=[(false,eval a X.env)]:=by rfl):PI X tg (.Call (.Name "range" p) [a] [] pos) (iRng1 ta):=by
 intro pins s σ H R I h
 refine Call_ (ld_blt I hg hm boot_range (PyProof.Rows.callWith_type1 (thn (ha pos pins s σ H _ I h) fun us s1 ⟨vs,H1,I1,r1,q1⟩=>?_) hs rfl))
 obtain ⟨j,e,q1,q2,q⟩:=q1
 subst e
 cases r1 with
 | cons r rr=>
   cases rr
   obtain ⟨t,rfl⟩:=r
   exact call_range_1 (range_it I1 (by omega) (by omega) q1 q2 (by simpa using q))
def tFor (wi:TI) (g:TG) (tb:TS):TS:=fun D σ H=>wi σ H fun J H1=>∃ W:Nat->Nat->St->Hp->Prop,(∃ m,W 0 m σ H1)/\∀ i m σ H,W i m σ H->
 (J.stop i H/\D.nx σ H)∨(J.go i H/\∃ N:St->Hp->Prop,(∀ σ' H',N σ' H'->∃ m',m'<m/\W (i+1) m' σ' H')/\∀ x H',J.yld i H x H'->g x σ H' fun σ2 H2=>tb { D with nx:=N,ct:=N,bk:=D.nx } σ2 H2)
def pinsAt (fp:List Addr) (h:Heap):List (Addr×Obj):=fp.filterMap fun b=>(h.get? b).map fun o=>(b,o)
theorem mem_pinsAt {fp:List Addr} {h:Heap} {b:Addr} {o:Obj} (hb:b∈fp) (e:h.get? b=some o):(b,o)∈pinsAt fp h:=List.mem_filterMap.mpr ⟨b,hb,by rw [e];rfl⟩
theorem of_pinsAt {fp:List Addr} {h:Heap} {p:Addr×Obj} (hp:p∈pinsAt fp h):p.1∈fp/\h.get? p.1=some p.2:=by
 obtain ⟨b,hb,e⟩:=List.mem_filterMap.mp hp
 cases q:h.get? b with
 |none=>rw [q] at e;cases e
 | some o=>
   rw [q] at e
   have e':(b,o)=p:=Option.some.inj e
   subst e'
   exact ⟨hb,q⟩
theorem Inv.pinned {pins:List (Addr×Obj)} {σ:St} {H:Hp} {s:Shared} {fp:List Addr} (I:Inv X pins σ H s) (hf:∀ b∈fp,FpOk X pins H b) (ho:∀ b∈fp,∃ o,s.heap.get? b=some o/\∀ v,o.data≠.cell v):Inv X (pins++pinsAt fp s.heap) σ H s:=
 I.pins_of fun p hp=>(List.mem_append.mp hp).elim (fun z=>I.pin p (List.mem_append_right _ z)) fun z=>by
  obtain ⟨hb,e⟩:=of_pinsAt z
  obtain ⟨f0,f1,f2,_⟩:=hf p.1 hb
  obtain ⟨o,e',d⟩:=ho p.1 hb
  rw [e] at e';cases e'
  exact ⟨e,f0,f1,f2,d⟩
theorem Inv.unpinned {pins pl:List (Addr×Obj)} {σ:St} {H:Hp} {s:Shared} (I:Inv X (pins++pl) σ H s):Inv X pins σ H s:=I.pins_of fun p hp=>I.pin p (List.mem_append_right _ (List.mem_append_left _ hp))
theorem ps_for {iter:Expr} {body:List Stmt} {wi:TI} {g:TG} {tb:TS} {pos:Pos} (hp:PassesOwn (model X.prog X.w) X.A X.env X.xe) (hc:X.calm=true) (hi:PI X tg iter wi) (hg:PG X tg g) (hb:PSs X body tb)
 (hs:∀ x,foldedSetIterable iter X.env x=pure x:=by intro _;rfl):PS X (.For tg iter body [] pos) (tFor wi g tb):=by
 intro pins s σ H D I h
 refine wpAny_For (thn (hi pins s σ H _ I h) fun v s1 h1=>thn h1 fun itv s2 h2=>?_) hs
 obtain ⟨it,fp,tn,J,H2,e,I2,T,st2,f2,W,⟨m0,w0⟩,turn⟩:=h2
 subst e
 have stat:∀ {H':Hp},(∀ b∈fp,H' b=none)->∀ b∈fp,FpOk X pins H' b:=fun hn b hb=>⟨hn b hb,(f2 b hb).2⟩
 refine codeAny_forLoop_any (fun n s'=>∃ i σ' H',Inv X pins σ' H' s'/\tn i s'.heap/\(∀ b∈fp,H' b=none)/\W i n σ' H') ?_ m0 ⟨0,σ,H2,I2,st2,fun b hb=>(f2 b hb).1,w0⟩
 rintro n s3 ⟨i,σ3,H3,I3,st3,fr3,w3⟩
 rcases turn i n σ3 H3 w3 with ⟨stop,qn⟩|⟨go,N,hN,step⟩
 ·refine wpAny_passesOwn hp (thn (T.done X rfl rfl rfl hc i pins s3 σ3 H3 X.xe I3 (stat fr3) st3 stop) fun r s4 ⟨hr,I4⟩=>?_)
  subst hr
  exact wpAny_execs_nil ⟨σ3,H3,I4,qn⟩
 ·refine wpAny_passesOwn hp (thn (T.item X rfl rfl rfl hc i pins s3 σ3 H3 X.xe I3 (stat fr3) st3 go) fun r s4 ⟨u,hr,h4⟩=>?_)
  subst hr
  refine wpAny_passesOwn hp (thn h4 fun _ s5 ⟨x,H5,I5,r5,y5,st5,fr5⟩=>?_)
  have I5':=I5.pinned (stat fr5) (T.obj _ _ st5)
  refine wpAny_passesOwn hp (thn (hg _ s5 σ3 H5 x u _ I5' r5 (step x H5 y5)) fun _ s6 ⟨σ6,H6,I6,q6⟩=>?_)
  refine wpAny_passesOwn hp (thn (hb _ s6 σ6 H6 _ I6 q6) fun f s7 q7=>?_)
  have again:∀ {σ7:St} {H7:Hp},Inv X (pins++pinsAt fp s5.heap) σ7 H7 s7->N σ7 H7->∃ m,m<n/\∃ i σ' H',Inv X pins σ' H' s7/\tn i s7.heap/\(∀ b∈fp,H' b=none)/\W i m σ' H':=fun {σ7 H7} I7 n7=>by
   obtain ⟨m',hm,w7⟩:=hN σ7 H7 n7
   refine ⟨m',hm,i+1,σ7,H7,I7.unpinned,T.keep _ _ _ st5 fun b hb o e=>(I7.pin (b,o) (List.mem_append_right _ (List.mem_append_right _ (mem_pinsAt hb e)))).1,fun b hb=>?_,w7⟩
   obtain ⟨o,e,d⟩:=T.obj _ _ st5 b hb
   exact (I7.pin (b,o) (List.mem_append_right _ (List.mem_append_right _ (mem_pinsAt hb e)))).2.1
  cases f with
  |next=>obtain ⟨σ7,H7,I7,n7⟩:=q7;exact again I7 n7
  |cont=>obtain ⟨σ7,H7,I7,n7⟩:=q7;exact again I7 n7
  |brk=>obtain ⟨σ7,H7,I7,q7⟩:=q7;exact ⟨σ7,H7,I7.unpinned,q7⟩
  |ret v=>obtain ⟨x7,σ7,H7,I7,r7,q7⟩:=q7;exact ⟨x7,σ7,H7,I7.unpinned,r7,q7⟩
end
theorem for_list {K:PySem.W.Frag} {a:Addr} {xs:List V} {g:TG} {tb:TS} {D:Ends} {σ:St} {H:Hp} (Pv:Nat->St->Hp->Prop) (h0:Pv 0 σ H) (hl:∀ i σ H,i≤xs.length->Pv i σ H->SqL K H a xs)
 (hs:∀ i x σ H,xs[i]?=some x->Pv i σ H->g x σ H fun σ2 H2=>tb { D with nx:=Pv (i+1),ct:=Pv (i+1),bk:=D.nx } σ2 H2) (hd:∀ σ H,Pv xs.length σ H->D.nx σ H) :
 ∃ W:Nat->Nat->St->Hp->Prop,(∃ m,W 0 m σ H)/\∀ i m σ H,W i m σ H->
   ((Itl K a).stop i H/\D.nx σ H)∨((Itl K a).go i H/\∃ N:St->Hp->Prop,(∀ σ' H',N σ' H'->∃ m',m'<m/\W (i+1) m' σ' H')/\∀ x H',(Itl K a).yld i H x H'->g x σ H' fun σ2 H2=>tb { D with nx:=N,ct:=N,bk:=D.nx } σ2 H2):=by
 refine ⟨fun i m σ H=>m=xs.length-i/\i≤xs.length/\Pv i σ H,⟨xs.length,by simp,Nat.zero_le _,h0⟩,?_⟩
 rintro i m σ H ⟨rfl,hi,p⟩
 have q:=hl i σ H hi p
 by_cases hlt:i<xs.length
 ·refine .inr ⟨⟨xs,xs[i],q,by simp [hlt]⟩,Pv (i+1),fun σ' H' p'=>⟨xs.length-(i+1),by omega,rfl,hlt,p'⟩,fun x H' y=>?_⟩
  obtain ⟨e,y⟩:=y
  subst e
  exact hs i x σ _ (y xs q) p
 ·have e:i=xs.length:=by omega
  subst e
  exact .inl ⟨⟨xs,q,Nat.le_refl _⟩,hd σ H p⟩
theorem for_range {lo:Int} {n:Nat} {g:TG} {tb:TS} {D:Ends} {σ:St} {H:Hp} (Pv:Nat->St->Hp->Prop) (h0:Pv 0 σ H)
 (hs:∀ i σ H,i<n->Pv i σ H->g (.int (lo+i)) σ H fun σ2 H2=>tb { D with nx:=Pv (i+1),ct:=Pv (i+1),bk:=D.nx } σ2 H2) (hd:∀ σ H,Pv n σ H->D.nx σ H) :
 ∃ W:Nat->Nat->St->Hp->Prop,(∃ m,W 0 m σ H)/\∀ i m σ H,W i m σ H->
   ((Itr lo n).stop i H/\D.nx σ H)∨((Itr lo n).go i H/\∃ N:St->Hp->Prop,(∀ σ' H',N σ' H'->∃ m',m'<m/\W (i+1) m' σ' H')/\∀ x H',(Itr lo n).yld i H x H'->g x σ H' fun σ2 H2=>tb { D with nx:=N,ct:=N,bk:=D.nx } σ2 H2):=by
 refine ⟨fun i m σ H=>m=n-i/\i≤n/\Pv i σ H,⟨n,by simp,Nat.zero_le _,h0⟩,?_⟩
 rintro i m σ H ⟨rfl,hi,p⟩
 by_cases hlt:i<n
 ·refine .inr ⟨hlt,Pv (i+1),fun σ' H' p'=>⟨n-(i+1),by omega,rfl,hlt,p'⟩,fun x H' y=>?_⟩
  obtain ⟨e,y⟩:=y
  subst e y
  exact hs i σ _ hlt p
 ·have e:i=n:=by omega
  subst e
  exact .inl ⟨Nat.le_refl _,hd σ H p⟩
abbrev R2:=V->V->Hp->VK->Prop
def OpR (X:Cx) (f:Value->Value->Sem Value) (r:R2):Prop:=
 ∀ (pins:List (Addr×Obj)) (s:Shared) (σ:St) (H:Hp) (x y:V) (v u:Value) (Q:VK),Inv X pins σ H s->RelV x v->RelV y u->r x y H Q->
   wpAny (model X.prog X.w) X.A (f v u) (EP X pins σ Q) X.xe s
def UnR (X:Cx) (f:Value->Sem Value) (r:V->Hp->VK->Prop):Prop:=
 ∀ (pins:List (Addr×Obj)) (s:Shared) (σ:St) (H:Hp) (x:V) (v:Value) (Q:VK),Inv X pins σ H s->RelV x v->r x H Q->
   wpAny (model X.prog X.w) X.A (f v) (EP X pins σ Q) X.xe s
def CallR (X:Cx) (f:Value) (r:List V->Hp->VK->Prop):Prop:=
 ∀ (pins:List (Addr×Obj)) (s:Shared) (σ:St) (H:Hp) (xs:List V) (us:List Value) (Q:VK),Inv X pins σ H s->Vals xs us->r xs H Q->
   wpAny (model X.prog X.w) X.A (call f us) (EP X pins σ Q) X.xe s
def tOp (r:R2) (ta tb:TE):TE:=fun σ H Q=>ta σ H fun x H1=>tb σ H1 fun y H2=>r x y H2 Q
def tUn (r:V->Hp->VK->Prop) (ta:TE):TE:=fun σ H Q=>ta σ H fun x H1=>r x H1 Q
def rI (C:Int->Int->Prop) (g:Int->Int->V):R2:=fun x y H Q=>∃ i j,x=.int i/\y=.int j/\C i j/\Q (g i j) H
def rI0 (g:Int->Int->V):R2:=fun x y H Q=>∃ i j,x=.int i/\y=.int j/\Q (g i j) H
def rU (g:Int->V):V->Hp->VK->Prop:=fun x H Q=>∃ i,x=.int i/\Q (g i) H
section
variable {X:Cx} {a b c:Expr} {ta tb tc:TE} {pos:Pos}
theorem binT (ha:PE X a ta) (hb:PE X b tb) {pins:List (Addr×Obj)} {s:Shared} {σ:St} {H:Hp} {R:V->V->Hp->Prop} (I:Inv X pins σ H s)
 (h:ta σ H fun x H1=>tb σ H1 fun y H2=>R x y H2) {Q:Value->Shared->Prop} {f:Value->Value->Sem Value}
 (hf:∀ v u s2 x y H2,Inv X pins σ H2 s2->RelV x v->RelV y u->R x y H2->wpAny (model X.prog X.w) X.A (f v u) Q X.xe s2) :
 wpAny (model X.prog X.w) X.A (eval a X.env) (fun v s₁=>wpAny (model X.prog X.w) X.A (eval b X.env) (fun u s₂=>wpAny (model X.prog X.w) X.A (f v u) Q X.xe s₂) X.xe s₁) X.xe s:=by
 refine thn (ha pins s σ H _ I h) fun v s1 ⟨x,H1,I1,r1,q1⟩=>?_
 refine thn (hb pins s1 σ H1 _ I1 q1) fun u s2 ⟨y,H2,I2,r2,q2⟩=>?_
 exact hf v u s2 x y H2 I2 r1 r2 q2
theorem pe_op {op:Operator} {r:R2} (ho:OpR X (binaryOp op) r) (ha:PE X a ta) (hb:PE X b tb):PE X (.BinOp a op b pos) (tOp r ta tb):=by
 intro pins s σ H Q I h
 exact wpAny_BinOp (binT ha hb I h fun v u s2 x y H2 I2 rx ry q=>ho pins s2 σ H2 x y v u Q I2 rx ry q)
theorem pe_un {op:UnaryOp} {r:V->Hp->VK->Prop} (ho:UnR X (unaryOp op) r) (ha:PE X a ta):PE X (.UnaryOp op a pos) (tUn r ta):=by
 intro pins s σ H Q I h
 exact UnaryOp_ (thn (ha pins s σ H _ I h) fun v s1 ⟨x,H1,I1,r1,q1⟩=>ho pins s1 σ H1 x v Q I1 r1 q1)
theorem opI {f:Value->Value->Sem Value} {C:Int->Int->Prop} {g:Int->Int->Int}
 (rule:∀ (i j:Int) (t u:Tok) (s:Shared) (Q:Value->Shared->Prop) (E:Value->Shared->Prop),C i j->Q (.int (g i j) s.toks) { s with toks:=s.toks+1 }->wpAny (model X.prog X.w) X.A (f (.int i t) (.int j u)) Q E s) :
 OpR X f (rI C fun i j=>.int (g i j)):=by
 intro pins s σ H x y v u Q I rx ry h
 obtain ⟨i,j,rfl,rfl,hc,q⟩:=h
 obtain ⟨t,rfl⟩:=rx
 obtain ⟨t',rfl⟩:=ry
 exact rule i j t t' s _ _ hc ⟨.int (g i j),H,I.tok _,⟨_,rfl⟩,q⟩
theorem opI0 {f:Value->Value->Sem Value} {g:Int->Int->Int}
 (rule:∀ (i j:Int) (t u:Tok) (s:Shared) (Q:Value->Shared->Prop) (E:Value->Shared->Prop),Q (.int (g i j) s.toks) { s with toks:=s.toks+1 }->wpAny (model X.prog X.w) X.A (f (.int i t) (.int j u)) Q E s) :
 OpR X f (rI0 fun i j=>.int (g i j)):=by
 intro pins s σ H x y v u Q I rx ry h
 obtain ⟨i,j,rfl,rfl,q⟩:=h
 obtain ⟨t,rfl⟩:=rx
 obtain ⟨t',rfl⟩:=ry
 exact rule i j t t' s _ _ ⟨.int (g i j),H,I.tok _,⟨_,rfl⟩,q⟩
theorem opB0 {f:Value->Value->Sem Value} {g:Int->Int->Bool}
 (rule:∀ (i j:Int) (t u:Tok) (s:Shared) (Q:Value->Shared->Prop) (E:Value->Shared->Prop),Q (.bool (g i j)) s->wpAny (model X.prog X.w) X.A (f (.int i t) (.int j u)) Q E s) :
 OpR X f (rI0 fun i j=>.bl (g i j)):=by
 intro pins s σ H x y v u Q I rx ry h
 obtain ⟨i,j,rfl,rfl,q⟩:=h
 obtain ⟨t,rfl⟩:=rx
 obtain ⟨t',rfl⟩:=ry
 exact rule i j t t' s _ _ ⟨.bl (g i j),H,I,rfl,q⟩
def CDiv (i j:Int):Prop:=0<j/\j<1073741824
def CPow (i j:Int):Prop:=0≤j/\j≤1000000/\i.natAbs<2 ^ 64
def CMul (i j:Int):Prop:=(-(2 ^ 64)<i/\i<2 ^ 64)∨(-(2 ^ 64)<j/\j<2 ^ 64)
theorem CMul.ok {i j:Int} (h:CMul i j):IntMulOk i j:=by
 rcases h with ⟨h1,h2⟩|⟨h1,h2⟩
 ·exact .of_left (intBits_le_64 h1 h2)
 ·exact .of_right (intBits_le_64 h1 h2)
theorem op_add:OpR X (binaryOp .Add) (rI0 fun i j=>.int (i+j)):=opI0 fun _ _ _ _ _ _ _ q=>add_int q
theorem op_sub:OpR X (binaryOp .Sub) (rI0 fun i j=>.int (i-j)):=opI0 fun _ _ _ _ _ _ _ q=>sub_int q
theorem op_mul:OpR X (binaryOp .Mult) (rI CMul fun i j=>.int (i*j)):=opI fun _ _ _ _ _ _ _ hc q=>mul_int q hc.ok
theorem op_fdiv:OpR X (binaryOp .FloorDiv) (rI CDiv fun i j=>.int (i / j)):=opI fun i j _ _ _ _ _ hc q=>by
 have h1:(0:Int)<j:=hc.1
 have h2:j<1073741824:=hc.2
 exact floordiv_int (by omega) (by rw [Int.fdiv_eq_ediv_of_nonneg i (by omega)];exact q) (.inl (PyProof.noPylong_small (by omega)))
theorem op_mod:OpR X (binaryOp .Mod) (rI (fun _ j=>0<j) fun i j=>.int (i % j)):=opI fun i j _ _ _ _ _ hc q=>by
 have h1:(0:Int)<j:=hc
 exact mod_int' (by omega) (by rw [Int.fmod_eq_emod_of_nonneg i (by omega)];exact q)
theorem op_pow:OpR X (binaryOp .Pow) (rI CPow fun i j=>.int (i ^ j.toNat)):=opI fun _ _ _ _ _ _ _ hc q=>pow_int_small hc.1 hc.2.1 hc.2.2 q
theorem unI {f:Value->Sem Value} {g:Int->Int}
 (rule:∀ (i:Int) (t:Tok) (s:Shared) (Q:Value->Shared->Prop) (E:Value->Shared->Prop),Q (.int (g i) s.toks) { s with toks:=s.toks+1 }->wpAny (model X.prog X.w) X.A (f (.int i t)) Q E s) :
 UnR X f (rU fun i=>.int (g i)):=by
 intro pins s σ H x v Q I rx h
 obtain ⟨i,rfl,q⟩:=h
 obtain ⟨t,rfl⟩:=rx
 exact rule i t s _ _ ⟨.int (g i),H,I.tok _,⟨_,rfl⟩,q⟩
theorem un_neg:UnR X (unaryOp .USub) (rU fun i=>.int (-i)):=unI fun _ _ _ _ _ q=>neg_int q
end
def scal:V->V->Bool
 |.non,.non=>true|.non,.int _=>true|.int _,.non=>true|.non,.bl _=>true|.bl _,.non=>true|.non,.str _=>true|.str _,.non=>true
 |.int _,.int _=>true|.bl _,.bl _=>true|.str _,.str _=>true|.byt _,.byt _=>true
 |.int _,.str _=>true|.str _,.int _=>true|.bl _,.str _=>true|.str _,.bl _=>true
 |_,_=>false
def rEq:R2:=fun x y H Q=>scal x y=true/\Q (.bl (decide (x=y))) H
def rNe:R2:=fun x y H Q=>scal x y=true/\Q (.bl (!decide (x=y))) H
theorem dec_int {i j:Int}:decide (V.int i=V.int j)=(i == j):=by
 rw [Bool.eq_iff_iff]
 simp
theorem dec_bl {i j:Bool}:decide (V.bl i=V.bl j)=(i == j):=by
 rw [Bool.eq_iff_iff]
 simp
theorem dec_str {i j:Str}:decide (V.str i=V.str j)=(i == j):=by
 rw [Bool.eq_iff_iff]
 simp
theorem dec_byt {i j:Array UInt8}:decide (V.byt i=V.byt j)=(i.toList == j.toList):=by
 rw [Bool.eq_iff_iff]
 cases i
 cases j
 simp
section
variable {X:Cx} {a b c:Expr} {ta tb tc:TE} {pos:Pos}
theorem fin_bl {pins:List (Addr×Obj)} {σ:St} {H:Hp} {s:Shared} {Q:VK} {k k':Bool} (I:Inv X pins σ H s) (q:Q (.bl k) H) (e:k=k'):EP X pins σ Q (.bool k') s:=by
 subst e
 exact ⟨.bl k,H,I,rfl,q⟩
theorem op_eq:OpR X (compareOp .Eq) rEq:=by
 intro pins s σ H x y v u Q I rx ry h
 obtain ⟨hs,q⟩:=h
 cases x with
 | non=>
   cases rx
   cases y with
   |non=>cases ry;exact PySem.EqNone.eq_none_none (fin_bl I q (by simp))
   |bl j=>cases ry;exact PySem.EqNone.eq_none_bool (fin_bl I q (by simp))
   |int j=>obtain ⟨t',rfl⟩:=ry;exact PySem.EqNone.eq_none_int (fin_bl I q (by simp))
   |str j=>obtain ⟨t',rfl⟩:=ry;exact PySem.EqNone.eq_none_str (fin_bl I q (by simp))
   |_=>exact absurd (show false=true from hs) Bool.false_ne_true
 | bl i=>
   cases rx
   cases y with
   |non=>cases ry;exact PySem.EqNone.eq_bool_none (fin_bl I q (by simp))
   |bl j=>cases ry;exact eq_bool (fin_bl I q dec_bl)
   |str j=>obtain ⟨t',rfl⟩:=ry;exact PySem.EqMixed.eq_bool_str (fin_bl I q (by simp))
   |_=>exact absurd (show false=true from hs) Bool.false_ne_true
 | int i=>
   obtain ⟨t,rfl⟩:=rx
   cases y with
   |non=>cases ry;exact PySem.EqNone.eq_int_none (fin_bl I q (by simp))
   |int j=>obtain ⟨t',rfl⟩:=ry;exact eq_int (fin_bl I q dec_int)
   |str j=>obtain ⟨t',rfl⟩:=ry;exact PySem.EqMixed.eq_int_str (fin_bl I q (by simp))
   |_=>exact absurd (show false=true from hs) Bool.false_ne_true
 | str i=>
   obtain ⟨t,rfl⟩:=rx
   cases y with
   |non=>cases ry;exact PySem.EqNone.eq_str_none (fin_bl I q (by simp))
   |bl j=>cases ry;exact PySem.EqMixed.eq_str_bool (fin_bl I q (by simp))
   |int j=>obtain ⟨t',rfl⟩:=ry;exact PySem.EqMixed.eq_str_int (fin_bl I q (by simp))
   |str j=>obtain ⟨t',rfl⟩:=ry;exact eq_str (fin_bl I q dec_str)
   |_=>exact absurd (show false=true from hs) Bool.false_ne_true
 | byt i=>
   obtain ⟨t,rfl⟩:=rx
   cases y with
   |byt j=>obtain ⟨t',rfl⟩:=ry;exact PySem.W.eq_bytes (fin_bl I q dec_byt)
   |_=>exact absurd (show false=true from hs) Bool.false_ne_true
 |_=>cases y <;> exact absurd (show false=true from hs) Bool.false_ne_true
theorem op_ne:OpR X (compareOp .NotEq) rNe:=by
 intro pins s σ H x y v u Q I rx ry h
 obtain ⟨hs,q⟩:=h
 cases x with
 | non=>
   cases rx
   cases y with
   |non=>cases ry;exact PySem.EqNone.ne_none_none (fin_bl I q (by simp))
   |bl j=>cases ry;exact PySem.EqNone.ne_none_bool (fin_bl I q (by simp))
   |int j=>obtain ⟨t',rfl⟩:=ry;exact PySem.EqNone.ne_none_int (fin_bl I q (by simp))
   |str j=>obtain ⟨t',rfl⟩:=ry;exact PySem.EqNone.ne_none_str (fin_bl I q (by simp))
   |_=>exact absurd (show false=true from hs) Bool.false_ne_true
 | bl i=>
   cases rx
   cases y with
   |non=>cases ry;exact PySem.EqNone.ne_bool_none (fin_bl I q (by simp))
   |bl j=>cases ry;exact ne_bool (fin_bl I q (congrArg not dec_bl))
   |str j=>obtain ⟨t',rfl⟩:=ry;exact PySem.EqMixed.ne_bool_str (fin_bl I q (by simp))
   |_=>exact absurd (show false=true from hs) Bool.false_ne_true
 | int i=>
   obtain ⟨t,rfl⟩:=rx
   cases y with
   |non=>cases ry;exact PySem.EqNone.ne_int_none (fin_bl I q (by simp))
   |int j=>obtain ⟨t',rfl⟩:=ry;exact ne_int (fin_bl I q (congrArg not dec_int))
   |str j=>obtain ⟨t',rfl⟩:=ry;exact PySem.EqMixed.ne_int_str (fin_bl I q (by simp))
   |_=>exact absurd (show false=true from hs) Bool.false_ne_true
 | str i=>
   obtain ⟨t,rfl⟩:=rx
   cases y with
   |non=>cases ry;exact PySem.EqNone.ne_str_none (fin_bl I q (by simp))
   |bl j=>cases ry;exact PySem.EqMixed.ne_str_bool (fin_bl I q (by simp))
   |int j=>obtain ⟨t',rfl⟩:=ry;exact PySem.EqMixed.ne_str_int (fin_bl I q (by simp))
   |str j=>obtain ⟨t',rfl⟩:=ry;exact ne_str (fin_bl I q (congrArg not dec_str))
   |_=>exact absurd (show false=true from hs) Bool.false_ne_true
 | byt i=>
   obtain ⟨t,rfl⟩:=rx
   cases y with
   |byt j=>obtain ⟨t',rfl⟩:=ry;exact PySem.W.ne_bytes (fin_bl I q (congrArg not dec_byt))
   |_=>exact absurd (show false=true from hs) Bool.false_ne_true
 |_=>cases y <;> exact absurd (show false=true from hs) Bool.false_ne_true
theorem op_lt:OpR X (compareOp .Lt) (rI0 fun i j=>.bl (decide (i<j))):=opB0 fun _ _ _ _ _ _ _ q=>lt_int q
theorem op_le:OpR X (compareOp .LtE) (rI0 fun i j=>.bl (decide (i≤j))):=opB0 fun _ _ _ _ _ _ _ q=>le_int q
theorem op_gt:OpR X (compareOp .Gt) (rI0 fun i j=>.bl (decide (j<i))):=opB0 fun _ _ _ _ _ _ _ q=>gt_int q
theorem op_ge:OpR X (compareOp .GtE) (rI0 fun i j=>.bl (decide (j≤i))):=opB0 fun _ _ _ _ _ _ _ q=>ge_int q
theorem op_isN:OpR X (compareOp .Is) (fun x y H Q=>y=.non/\Q (.bl (decide (x=.non))) H):=by
 intro pins s σ H x y v u Q I rx ry h
 obtain ⟨rfl,q⟩:=h
 cases ry
 refine is_none_gen (fin_bl I q ?_)
 cases x <;> first
  |(cases rx;rfl)
  |(obtain ⟨t,rfl⟩:=rx;rfl)
theorem nomark (b:Expr) {op:CmpOp} (h:op≠.In:=by decide) (h2:op≠.NotIn:=by decide):behindInMarks op b=false:=by
 have e1:(op == CmpOp.In)=false:=by cases op <;> first|rfl|exact absurd rfl h
 have e2:(op == CmpOp.NotIn)=false:=by cases op <;> first|rfl|exact absurd rfl h2
 cases b <;> simp [behindInMarks,e1,e2]
theorem pe_cmpR {op:CmpOp} {r:R2} (ho:OpR X (compareOp op) r) (ha:PE X a ta) (hb:PE X b tb) (hm:behindInMarks op b=false):PE X (.Compare a [op] [b] pos) (tOp r ta tb):=by
 intro pins s σ H Q I h
 exact wpAny_Compare1 (binT ha hb I h fun v u s2 x y H2 I2 rx ry q=>ho pins s2 σ H2 x y v u Q I2 rx ry q) hm
def tTest (t:TE):TT:=fun σ H Q=>t σ H fun x H'=>∃ k,x=.bl k/\Q k H'
theorem pt_cmpR {op:CmpOp} {r:R2} (ho:OpR X (compareOp op) r) (ha:PE X a ta) (hb:PE X b tb) (hm:behindInMarks op b=false):PT X (.Compare a [op] [b] pos) (tTest (tOp r ta tb)):=by
 intro pins s σ H Q I h
 refine wpAny_isTrue_Compare1 (thn (ha pins s σ H _ I h) fun v s1 ⟨x,H1,I1,r1,q1⟩=>thn (hb pins s1 σ H1 _ I1 q1) fun u s2 ⟨y,H2,I2,r2,q2⟩=>
  thn (ho pins s2 σ H2 x y v u _ I2 r1 r2 q2) fun c s3 ⟨z,H3,I3,r3,k,e,q3⟩=>?_) hm
 subst e
 cases r3
 exact wpAny_truthy_bool ⟨H3,I3,q3⟩
def tChain (r r':R2) (ta tb tc:TE):TE:=fun σ H Q=>ta σ H fun x H1=>tb σ H1 fun y H2=>r x y H2 fun z H3=>∃ k,z=.bl k/\
 (if k=true then tc σ H3 fun w' H4=>r' y w' H4 Q else Q (.bl false) H3)
theorem pt_chain {op op':CmpOp} {r r':R2} (ho:OpR X (compareOp op) r) (ho':OpR X (compareOp op') r') (ha:PE X a ta) (hb:PE X b tb) (hc:PE X c tc)
 (hm:lastMarks [op,op'] [b,c]=false:=by with_unfolding_all rfl):PT X (.Compare a [op,op'] [b,c] pos) (tTest (tChain r r' ta tb tc)):=by
 intro pins s σ H Q I h
 refine isTrue_chain (thn (ha pins s σ H _ I h) fun v s1 ⟨x,H1,I1,r1,q1⟩=>test_link (thn (hb pins s1 σ H1 _ I1 q1) fun u s2 ⟨y,H2,I2,r2,q2⟩=>
  thn (ho pins s2 σ H2 x y v u _ I2 r1 r2 q2) fun d s3 ⟨z,H3,I3,r3,k,e,q3⟩=>?_)) hm
 subst e
 cases r3
 refine wpAny_truthy_bool ?_
 cases k with
 | false=>
   obtain ⟨k',e',q'⟩:=q3
   cases e'
   exact ite_ff ⟨H3,I3,q'⟩
 | true=>
   refine ite_tt (test_last (thn (hc pins s3 σ H3 _ I3 q3) fun w' s4 ⟨z',H4,I4,r4,q4⟩=>thn (ho' pins s4 σ H4 y z' u w' _ I4 r2 r4 q4) fun d' s5 ⟨z2,H5,I5,r5,k2,e2,q5⟩=>?_))
   subst e2
   cases r5
   exact wpAny_truthy_bool ⟨H5,I5,q5⟩
theorem line63:(sizeLine:Nat)<2 ^ 63:=by rw [sizeLine_eq];decide
theorem op_add_str:OpR X (binaryOp .Add) (fun x y H Q=>∃ i j,x=.str i/\y=.str j/\i.length+j.length≤sizeLine/\Q (.str (i++j)) H):=by
 intro pins s σ H x y v u Q I rx ry h
 obtain ⟨i,j,rfl,rfl,hz,q⟩:=h
 obtain ⟨t,rfl⟩:=rx
 obtain ⟨t',rfl⟩:=ry
 exact add_str (fun t' tk=>⟨.str (i++j),H,I.tok _,⟨_,rfl⟩,q⟩) hz
theorem vals1 {x:V} {us:List Value} (r:Vals [x] us):∃ u,us=[u]/\RelV x u:=by
 cases r with
 |cons r1 r2=>cases r2;exact ⟨_,rfl,r1⟩
theorem call_str_int:CallR X (.type "str") (fun xs H Q=>∃ i,xs=[.int i]/\i.natAbs.log2<1920/\Q (.str (toString i)) H):=by
 intro pins s σ H xs us Q I r h
 obtain ⟨i,rfl,hz,q⟩:=h
 obtain ⟨u,rfl,t,rfl⟩:=vals1 r
 exact PySem.P.str_of_int hz ⟨.str _,H,I.tok _,⟨_,rfl⟩,q⟩
end
theorem lookIn_ns {h:Heap} {dx:Addr} {mA:Str->Option Value} (n:h.Ns1 dx mA):∃ od,h.get? dx=some od/\∀ name,PySem.W.lookIn name od=some (mA name):=by
 obtain ⟨o,es,ep,ho,hd,hk,_,hm⟩:=n
 refine ⟨o,ho,fun name=>?_⟩
 have e:=hm name
 unfold nsFind findBy at e
 rw [← Array.find?_toList] at e
 unfold PySem.W.lookIn
 rw [hd]
 dsimp only
 split
 ·rename_i y q
  rw [q] at e
  exact congrArg some e
 ·rename_i q
  rw [q] at e
  have a:es.toList.any (·.refKey)=false:=by
   rw [List.any_eq_false]
   intro y hy
   obtain ⟨z,t,hkey⟩:=hk y (Array.mem_toList_iff.mp hy)
   simp [DictEntry.refKey,hkey]
  have a':¬ es.toList.any (·.refKey)=true:=by rw [a];exact Bool.false_ne_true
  rw [if_neg a']
  exact congrArg some e
section
variable {prog:Program} {w:World} {A:Around} {E:Value->Shared->Prop} {s:Shared} {K:PySem.W.Frag} {x dx C f:Addr} {mA:Str->Option Value} {name:Str} {v:Value}
end
def putF (f:Str) (v:V):List (Str×V)->List (Str×V)
 |[]=>[(f,v)]
 |(g,x)::r=>if g=f then (g,v)::r else (g,x)::putF f v r
theorem lookup_putF (f g:Str) (v:V):∀ fs:List (Str×V),(putF f v fs).lookup g=if g=f then some v else fs.lookup g
 | []=>by
   show List.lookup g [(f,v)]=_
   by_cases h:g=f
   ·have hb:(g == f)=true:=beq_iff_eq.mpr h
    simp only [List.lookup,hb,if_pos h]
   ·have hb:(g == f)=false:=beq_eq_false_iff_ne.mpr h
    simp only [List.lookup,hb,if_neg h]
 | (k,x)::r=>by
   have ih:=lookup_putF f g v r
   rw [show putF f v ((k,x)::r)=(if k=f then (k,v)::r else (k,x)::putF f v r) from rfl]
   by_cases hk:k=f
   ·rw [if_pos hk]
    by_cases h:g=k
    ·have hb:(g == k)=true:=beq_iff_eq.mpr h
     simp only [List.lookup,hb,if_pos (h.trans hk)]
    ·have hb:(g == k)=false:=beq_eq_false_iff_ne.mpr h
     simp only [List.lookup,hb,if_neg (fun e:g=f=>h (e.trans hk.symm))]
   ·rw [if_neg hk]
    by_cases h:g=k
    ·have hb:(g == k)=true:=beq_iff_eq.mpr h
     simp only [List.lookup,hb,if_neg (fun e:g=f=>hk (h.symm.trans e))]
    ·have hb:(g == k)=false:=beq_eq_false_iff_ne.mpr h
     simp only [List.lookup,hb]
     exact ih
theorem keys_putF (f:Str) (v:V):∀ fs:List (Str×V),f∈(putF f v fs).map (·.1)/\∀ g,g∈fs.map (·.1)->g∈(putF f v fs).map (·.1)
 |[]=>⟨by simp [putF],fun g h=>by simp at h⟩
 | (k,x)::r=>by
   obtain ⟨i1,i2⟩:=keys_putF f v r
   rw [show putF f v ((k,x)::r)=(if k=f then (k,v)::r else (k,x)::putF f v r) from rfl]
   by_cases hk:k=f
   ·rw [if_pos hk]
    subst hk
    exact ⟨by simp,fun g h=>by simpa using h⟩
   ·rw [if_neg hk]
    refine ⟨?_,fun g h=>?_⟩
    ·rw [List.map_cons]
     exact List.mem_cons_of_mem _ i1
    ·rw [List.map_cons] at h ⊢
     rcases List.mem_cons.mp h with e|e
     ·exact List.mem_cons.mpr (.inl e)
     ·exact List.mem_cons_of_mem _ (i2 g e)
theorem RelO.some_of {v:V} {o:Option Value} (r:RelO (some v) o):∃ u,o=some u/\RelV v u:=by
 cases o with
 |none=>exact (show False from r).elim
 |some u=>exact ⟨u,rfl,r⟩
theorem handed_of {v:V} {u:Value} (r:RelV v u):PySem.W.handedIn u=true:=by
 cases v with
 |non=>cases (show u=Value.none from r);rfl
 |bl b=>cases (show u=Value.bool b from r);rfl
 |int i=>obtain ⟨t,e⟩:=(show ∃ t,u=Value.int i t from r);cases e;rfl
 |str x=>obtain ⟨t,e⟩:=(show ∃ t,u=Value.str x t from r);cases e;rfl
 |byt b=>obtain ⟨t,e⟩:=(show ∃ t,u=Value.bytes b t from r);cases e;rfl
 |flt b=>obtain ⟨t,e⟩:=(show ∃ t,u=Value.float b t from r);cases e;rfl
 |ref a=>cases (show u=Value.ref a from r);rfl
 |ty n=>cases (show u=Value.type n from r);rfl
section
variable {P:Program} {w:World} {H H':Hp} {h h':Heap} {a C dx:Addr} {fs fs':List (Str×V)}
end
section
variable {X:Cx} {pins:List (Addr×Obj)} {σ:St} {H:Hp} {s:Shared} {a C dx:Addr} {fs:List (Str×V)} {f:Str} {v:V} {A:Around} {E:Value->Shared->Prop}
theorem attr_of {prog:Program} {w:World} {env:Env} {e:Expr} {f:Str} {pos:Pos} {s:Shared} {Q:Value->Shared->Prop} (hb:attributeBase e f env (eval e env)=eval e env)
 (h:wpAny (model prog w) A (eval e env) (fun o s₁=>wpAny (model prog w) A (getAttr o f true) Q E s₁) E s):wpAny (model prog w) A (eval (.Attribute e f pos) env) Q E s:=
 Attribute_any_ h (by rw [arm_eval_Attribute,hb])
end
section
variable {X:Cx} {o e value:Expr} {f:Str} {pos pos' tpos:Pos} {ta tv:TE}
end
section
variable {X:Cx} {pins:List (Addr×Obj)} {σ:St} {H:Hp} {s:Shared} {A:Around} {E:Value->Shared->Prop} {Q:Value->Shared->Prop} {c:Value} {b:Bool}
end
structure Room (k:Nat) (A:Around):Prop where
 hd:A.handled=none
 dp:A.depth+3*k+5<recursionLimit
 un:A.units+16*k+200<cLine
 gd:A.guards=some []
theorem Room.mono {j k:Nat} {A:Around} (r:Room k A) (h:j≤k):Room j A:=⟨r.hd,by have:=r.dp;omega,by have:=r.un;omega,r.gd⟩
theorem Room.deeper {k:Nat} {A:Around} (r:Room (k+1) A) (env:Env):Room k (A.deeper env):=
 ⟨r.hd,by have:=r.dp;show A.depth+1+3*k+5<_;omega,by have:=r.un;show A.units+3+16*k+200<_;omega,r.gd⟩
theorem Room.in1 {k:Nat} {A:Around} (r:Room (k+1) A):Room k A.in1:=
 ⟨r.hd,by have:=r.dp;show A.depth+3*k+5<_;omega,by have:=r.un;show A.units+1+16*k+200<_;omega,r.gd⟩
theorem make_depth {A:Around} {C:Addr} {us:List Value} {kw:List (Str×Value)}:(A.under (.builtin "type.__call__" ⟨.ref C::us,kw⟩)).depth=A.depth+1:=by
 first|rfl|simp [Around.under,Code.weight,Code.isCreation,Code.isGuard,Code.isCaller,Code.frames,Code.isFrame,guardIds]
theorem make_units {A:Around} {C:Addr} {us:List Value} {kw:List (Str×Value)}:(A.under (.builtin "type.__call__" ⟨.ref C::us,kw⟩)).units=A.units+1:=by
 first|rfl|simp [Around.under,Code.cUnits,Code.frames,Code.isFrame]
theorem Room.make {k:Nat} {A:Around} (r:Room (k+1) A) (C:Addr) (us:List Value) (kw:List (Str×Value)):Room k (A.under (.builtin "type.__call__" ⟨.ref C::us,kw⟩)):=
 ⟨r.hd,by have:=r.dp;rw [make_depth];omega,by have:=r.un;rw [make_units];omega,by have:=r.gd;first|exact this|(simpa [Around.under] using this)⟩
theorem Room.depth {k:Nat} {A:Around} (r:Room k A):A.depth<recursionLimit:=by have:=r.dp;omega
theorem Room.units {k:Nat} {A:Around} (r:Room k A):A.units+64<cLine:=by have:=r.un;omega
def tNil:TA:=fun _ H Q=>Q [] H
def tCons (ta:TE) (tr:TA):TA:=fun σ H Q=>ta σ H fun x H1=>tr σ H1 fun xs H2=>Q (x::xs) H2
section
variable {X:Cx} {e:Expr} {es:List Expr} {te:TE} {t:TA} {pos:Pos}
theorem pa_nil:PA X [] tNil:=fun _ _ _ _ H Q I h=>Calls.spliced_nil ⟨[],H,I,.nil,h⟩
theorem pa_cons (ha:PE X e te) (hr:PA X es t) (hs:starEach (e::es) X.env=(false,eval e X.env)::starEach es X.env:=by rfl):PA X (e::es) (tCons te t):=by
 intro pos pins s σ H Q I h
 rw [hs]
 show wpAny _ _ (spliced ((false,eval e X.env)::backTo pos (starEach es X.env))) _ _ s
 refine Calls.spliced_cons (thn (ha pins s σ H _ I h) fun u s1 ⟨x,H1,I1,r1,q1⟩=>?_)
 exact thn (hr pos pins s1 σ H1 _ I1 q1) fun us s2 ⟨xs,H2,I2,r2,q2⟩=>⟨x::xs,H2,I2,.cons r1 r2,q2⟩
def tTup (t:TA):TE:=fun σ H Q=>t σ H fun xs H1=>xs.length≤sizeLine/\∀ p,H1 p=none->Q (.ref p) (upd H1 p (.tup xs))
def tLst (t:TA):TE:=fun σ H Q=>t σ H fun xs H1=>xs.length≤sizeLine/\∀ p,H1 p=none->Q (.ref p) (upd H1 p (.lst xs))
theorem pe_tup {x1} (h:PA X es t):PE X (.Tuple es x1 pos) (tTup t):=by
 intro pins s σ H Q I hq
 refine wpAny_Tuple_spliced (thn (h pos pins s σ H _ I hq) fun us s1 ⟨xs,H1,I1,r,z,q⟩=>⟨by rw [← r.length];exact z,?_⟩)
 have hf:H1 s1.heap.objs.size=none:=I1.hok.fresh (Nat.le_refl _)
 refine ⟨.ref s1.heap.objs.size,upd H1 s1.heap.objs.size (.tup xs),I1.laid (t':=s1.toks) (fun b u e=>Heap.get?_push_of_some _ e) (Nat.le_refl _) ?_,rfl,q _ hf⟩
 exact ⟨z,us,r,⟨_,Heap.get?_push_size _ rfl,rfl,_,rfl⟩⟩
theorem pe_lst (h:PA X es t):PE X (.List es pos) (tLst t):=by
 intro pins s σ H Q I hq
 refine wpAny_List_spliced (thn (h pos pins s σ H _ I hq) fun us s1 ⟨xs,H1,I1,r,z,q⟩=>⟨by rw [← r.length];exact z,?_⟩)
 have hf:H1 s1.heap.objs.size=none:=I1.hok.fresh (Nat.le_refl _)
 refine ⟨.ref s1.heap.objs.size,upd H1 s1.heap.objs.size (.lst xs),I1.laid (t':=s1.toks) (fun b u e=>Heap.get?_push_of_some _ e) (Nat.le_refl _) ?_,rfl,q _ hf⟩
 exact ⟨z,us,0,r,Heap.get?_push_size _ rfl⟩
end
abbrev Sp:=List V->Hp->VK->XK->Prop
abbrev CXT:=List Env->Hp->Shared->XK->Value->Shared->Prop
structure Env0 (P:Program) (w:World) (K:PySem.W.Frag) (mg:Str->Option Value) (base:Heap) (A:Around) (outer:List Env) (s:Shared) (H:Hp):Prop where
 frames:A.frames=some outer
 mod:Mod K mg base
 bs:∀ b o,base.get? b=some o->s.heap.get? b=some o/\H b=none
 bsz:base.objs.size≤s.heap.objs.size
 funs:s.heap.FunFrames base outer
 frf:∀ b∈frs outer,H b=none
 hok:HOk P w H s.heap
 bare:AllBare s.gens
def CE (outer:List Env) (P:Program) (w:World) (H:Hp) (s:Shared) (Q:VK) (u:Value) (s':Shared):Prop:=
 ∃ v H',s'.os=s.os/\AllBare s'.gens/\Un (frs outer) [] H H' s.heap s'.heap/\HOk P w H' s'.heap/\RelV v u/\Q v H'
def CR (CX:CXT) (outer:List Env) (P:Program) (w:World) (H:Hp) (s:Shared) (Q:VK) (E:XK) (r:Result) (s':Shared):Prop:=
 match r with
 |.ok (.ret u)=>CE outer P w H s Q u s'
 |.ok _=>False
 |.error e=>CX outer H s E e s'
structure FnOk (P:Program) (w:World) (K:PySem.W.Frag) (mg:Str->Option Value) (base:Heap) (CX:CXT) (k:Nat) (f:Addr) (fd:FuncData) (ps:List Str) (sp:Sp):Prop where
 len:∀ vs H Q E,sp vs H Q E->vs.length=ps.length
 run:∀ (A:Around) (outer:List Env) (s:Shared) (H:Hp) (args:Args) (us:List Value) (vs:List V) (Q:VK) (E:XK),Room k A->Env0 P w K mg base A outer s H->BindsTo s fd args (ps.zip us)->Vals vs us->sp vs H Q E->
  codeAny (model P w) A (.call (.ref f) args) (CR CX outer P w H s Q E) s
theorem FnOk.mono {P:Program} {w:World} {K:PySem.W.Frag} {mg:Str->Option Value} {base:Heap} {CX:CXT} {j k:Nat} {f:Addr} {fd:FuncData} {ps:List Str} {sp:Sp} (F:FnOk P w K mg base CX j f fd ps sp) (h:j≤k) :
 FnOk P w K mg base CX k f fd ps sp:=⟨F.len,fun A outer s H args us vs Q E hr=>F.run A outer s H args us vs Q E (hr.mono h)⟩
theorem Env0.make {P:Program} {w:World} {K:PySem.W.Frag} {mg:Str->Option Value} {base:Heap} {A:Around} {outer:List Env} {s:Shared} {H:Hp} (e:Env0 P w K mg base A outer s H) (C:Addr) (us:List Value) (kw:List (Str×Value)) :
 Env0 P w K mg base (A.under (.builtin "type.__call__" ⟨.ref C::us,kw⟩)) outer s H:=⟨by first|exact e.frames|(simpa [Around.under,Code.envs,Code.isFrame,pushEnvs] using e.frames),e.mod,e.bs,e.bsz,e.funs,e.frf,e.hok,e.bare⟩
section
variable {X:Cx} {pins:List (Addr×Obj)} {σ:St} {H:Hp} {s s':Shared}
theorem Inv.env0 (I:Inv X pins σ H s):Env0 X.prog X.w X.K X.mg X.base X.A X.stack s H:=
 ⟨I.ok.frames,I.ok.mod,I.bs,Nat.le_trans I.ok.bsz I.sz,I.stack,I.stkFree,I.hok,I.bare⟩
theorem Inv.after {Q:VK} {u:Value} (I:Inv X pins σ H s) (h:CE X.stack X.prog X.w H s Q u s'):EP X pins σ Q u s':=by
 obtain ⟨v,H',os,bare,un,hok,r,q⟩:=h
 obtain ⟨hh,g,d,t,os'⟩:=s'
 obtain rfl:os'=s.os:=os
 exact ⟨v,H',I.call (h':=hh) (g':=g) (d':=d) (t':=t) (ch:=[]) un hok bare (fun b z=>absurd z (by simp)),r,q⟩
end
def tCall (sp:Sp) (dvs:List V) (E:XK) (t:TA):TE:=fun σ H Q=>t σ H fun vs H1=>sp (vs++dvs) H1 Q E
def Binds (K:PySem.W.Frag) (fd:FuncData) (ps:List Str) (ds:List Value):Prop:=
 ∀ (s:Shared) (us:List Value),K.In s.heap->(us++ds).length=ps.length->BindsTo s fd ⟨us,[]⟩ (ps.zip (us++ds))
theorem Binds.all {K:PySem.W.Frag} {fd:FuncData} {ps:List Str} (h:∀ us:List Value,us.length=ps.length->bindArgs fd ⟨us,[]⟩=pure (ps.zip us)):Binds K fd ps []:=fun s us _ hl=>by
 rw [List.append_nil] at hl ⊢
 exact .of_eq (h us hl)
def Passes (CX:CXT) (X:Cx) (E:XK):Prop:=∀ (pins:List (Addr×Obj)) (σ:St) (H:Hp) (s:Shared) (e:Value) (s':Shared),Inv X pins σ H s->CX X.stack H s E e s'->X.xe e s'
section
variable {X:Cx} {CX:CXT} {k:Nat} {f C:Addr} {fd:FuncData} {ps:List Str} {sp:Sp} {dvs:List V} {ds:List Value} {E:XK} {x m:Str} {p pos apos:Pos} {e o:Expr} {es:List Expr} {ta:TE} {t:TA}
theorem run_fn {pins:List (Addr×Obj)} {σ:St} {H:Hp} {s:Shared} {Q:VK} {us:List Value} {vs:List V} (F:FnOk X.prog X.w X.K X.mg X.base CX k f fd ps sp) (hr:Room k X.A) (hb:Binds X.K fd ps ds) (hd:Vals dvs ds) (hx:Passes CX X E)
 (I:Inv X pins σ H s) (r:Vals vs us) (h:sp (vs++dvs) H Q E):wpAny (model X.prog X.w) X.A (call (.ref f) us) (EP X pins σ Q) X.xe s:=by
 have r2:Vals (vs++dvs) (us++ds):=r.append hd
 have hl:(us++ds).length=ps.length:=by rw [← r2.length];exact F.len _ _ _ _ h
 refine wpAny_call (codeAny_mono (F.run X.A X.stack s H ⟨us,[]⟩ (us++ds) (vs++dvs) Q E hr I.env0 (hb s us I.kIn hl) r2 h) fun r s' hq=>?_)
 cases r with
 |error e=>exact hx pins σ H s e s' I hq
 | ok fl=>
   cases fl with
   |ret u=>exact I.after hq
   |next=>exact False.elim hq
   |brk=>exact False.elim hq
   |cont=>exact False.elim hq
theorem pe_call (F:FnOk X.prog X.w X.K X.mg X.base CX k f fd ps sp) (hr:Room k X.A) (hg:Gl X x) (hm:X.mg x=some (.ref f)) (hk:PySem.W.keepIn X.K (.ref f)=true) (hb:Binds X.K fd ps ds) (hd:Vals dvs ds) (hx:Passes CX X E)
 (ha:PA X (e::es) t) (hdb:(x == ("__debug__" : Str))=false:=by decide) (he:starEach (e::es) X.env=(false,eval e X.env)::starEach es X.env:=by rfl) (hpl:(backTo pos (starEach es X.env)).any (·.1)=false:=by rfl) :
 PE X (.Call (.Name x p) (e::es) [] pos) (tCall sp dvs E t):=by
 intro pins s σ H Q I h
 refine wpAny_Call_Name_kw (ld_glob I hg hm ?_ hdb)
 refine PySem.W.callWith_K (h₀:=X.base) I.ok.mod.kin hk (thn (ha pos pins s σ H _ I h) fun us s1 ⟨vs,H1,I1,r,q⟩=>⟨I1.kIn,?_⟩) he hpl
 exact run_fn F hr hb hd hx I1 r q
end
def PK (X:Cx) (kws:List Keyword) (t:TA):Prop:=
 ∀ (pos:Pos) (pins:List (Addr×Obj)) (s:Shared) (σ:St) (H:Hp) (Q:List V->Hp->Prop),Inv X pins σ H s->t σ H Q->wpAny (model X.prog X.w) X.A (evalAll ((backToKw pos (keywordEach kws X.env)).map (·.2))) (AP X pins σ Q) X.xe s
section
variable {X:Cx} {CX:CXT} {k:Nat} {f C:Addr} {fd:FuncData} {ps ks:List Str} {sp:Sp} {E:XK} {x m:Str} {p pos apos kpos:Pos} {e o:Expr} {es:List Expr} {kws:List Keyword} {te ta:TE} {t tk:TA} {nm:Option Str}
theorem pk_nil:PK X [] tNil:=fun _ _ _ _ H Q I h=>wpAny_evalAll_nil ⟨[],H,I,.nil,h⟩
theorem pk_cons (ha:PE X e te) (hr:PK X kws t):PK X (⟨nm,e,kpos⟩::kws) (tCons te t):=by
 intro pos pins s σ H Q I h
 show wpAny _ _ (evalAll ((do let v ← eval e X.env;standAt pos;pure v)::(backToKw pos (keywordEach kws X.env)).map (·.2))) _ _ s
 refine wpAny_evalAll_cons (wpAny_bind (thn (ha pins s σ H _ I h) fun u s1 ⟨x,H1,I1,r1,q1⟩=>wpAny_bind (wpAny_standAt (wpAny_pure ?_))))
 exact thn (hr pos pins s1 σ H1 _ I1 q1) fun us s2 ⟨xs,H2,I2,r2,q2⟩=>⟨x::xs,H2,I2,.cons r1 r2,q2⟩
variable {g:List Value->List Value->List Value} {gV:List V->List V->List V}
end
structure FnScope (N P:List Str) (sc:Scope):Prop where
 kind:sc.kind=.function
 co:sc.isCoroutine=false
 gen:sc.isGenerator=false
 nd:N.Nodup
 pre:N.take P.length=P
 par:∀ x∈P,sc.names.lookup x=some .local∨sc.names.lookup x=some .cell
 nofree:∀ y∈sc.names,y.2≠.free
theorem bindL_out {kindOf:Str->Option NameKind} {x:Str}:∀ {binds:List (Str×Value)} {m:Str->Option Value},(∀ v,(x,v)∉binds)->bindL kindOf binds m x=m x
 |[],_,_=>rfl
 | (n,v)::r,m,h=>by
   unfold bindL
   rw [bindL_out fun w hw=>h w (List.mem_cons_of_mem _ hw)]
   split
   ·have:x≠n:=by rintro rfl;exact h v List.mem_cons_self
    simp [this]
   ·rfl
theorem bindC_out {kindOf:Str->Option NameKind} {x:Str}:∀ {binds:List (Str×Value)} {m:Str->Option Value},(∀ v,(x,v)∉binds)->bindC kindOf binds m x=m x
 |[],_,_=>rfl
 | (n,v)::r,m,h=>by
   unfold bindC
   rw [bindC_out fun w hw=>h w (List.mem_cons_of_mem _ hw)]
   split
   ·rfl
   ·have:x≠n:=by rintro rfl;exact h v List.mem_cons_self
    simp [this]
theorem bindL_get {kindOf:Str->Option NameKind} {x:Str} {v:Value}:∀ {P:List Str} {vs:List Value} {i:Nat} {m:Str->Option Value},P.Nodup->P[i]?=some x->vs[i]?=some v->kindOf x=some .local->
 bindL kindOf (P.zip vs) m x=some v
 |[],_,_,_,_,h,_,_=>by simp at h
 |_::_,[],_,_,_,_,h,_=>by simp at h
 | p::P,w::vs,0,m,nd,h1,h2,hk=>by
   simp at h1 h2;subst h1;subst h2
   show bindL kindOf ((p,w)::P.zip vs) m p=_
   unfold bindL
   rw [bindL_out fun v hv=>(List.nodup_cons.mp nd).1 (List.of_mem_zip hv).1,if_pos hk]
   simp
 | p::P,w::vs,i+1,m,nd,h1,h2,hk=>by
   show bindL kindOf ((p,w)::P.zip vs) m x=_
   unfold bindL
   exact bindL_get (i:=i) (List.nodup_cons.mp nd).2 (by simpa using h1) (by simpa using h2) hk
theorem bindC_get {kindOf:Str->Option NameKind} {x:Str} {v:Value}:∀ {P:List Str} {vs:List Value} {i:Nat} {m:Str->Option Value},P.Nodup->P[i]?=some x->vs[i]?=some v->kindOf x≠some .local->
 bindC kindOf (P.zip vs) m x=some v
 |[],_,_,_,_,h,_,_=>by simp at h
 |_::_,[],_,_,_,_,h,_=>by simp at h
 | p::P,w::vs,0,m,nd,h1,h2,hk=>by
   simp at h1 h2;subst h1;subst h2
   show bindC kindOf ((p,w)::P.zip vs) m p=_
   unfold bindC
   rw [bindC_out fun v hv=>(List.nodup_cons.mp nd).1 (List.of_mem_zip hv).1,if_neg hk]
   simp
 | p::P,w::vs,i+1,m,nd,h1,h2,hk=>by
   show bindC kindOf ((p,w)::P.zip vs) m x=_
   unfold bindC
   exact bindC_get (i:=i) (List.nodup_cons.mp nd).2 (by simpa using h1) (by simpa using h2) hk
def start (N:List Str) (vs:List V):St:=vs.map some++List.replicate (N.length-vs.length) none
def cxOf (CX:CXT) (P:Program) (w:World) (K:PySem.W.Frag) (mg:Str->Option Value) (base:Heap) (N:List Str) (qual:Str) (scope:Scope) (f:Addr) (cd:Value) (A:Around) (outer:List Env) (s:Shared) (H:Hp) (E:XK):Cx where
 prog:=P
 w:=w
 K:=K
 mg:=mg
 base:=base
 A:=A.deeper (envOfC qual scope s.heap.objs.size f cd)
 N:=N
 s₀:=s
 H₀:=H
 env:=envOfC qual scope s.heap.objs.size f cd
 outer:=outer
 stack:=envOfC qual scope s.heap.objs.size f cd::outer
 ex:=[]
 calm:=true
 fn:=fun _=>true
 pn:=[]
 xe:=fun e s'=>wpAny (model P w) (A.deeper (envOfC qual scope s.heap.objs.size f cd)) (leaving (envOfC qual scope s.heap.objs.size f cd) e) (fun _ s''=>CX outer H s E e s'') (fun e' s''=>CX outer H s E e' s'') s'
theorem cell_has {sc:Scope} {n:Nat} {x:Str} (h:sc.names.lookup x=some .cell):∃ c,(cellsFrom n sc.names []).lookup x=some c:=by
 have q:=PySem.W.cellsFrom_some sc.names n [] (.inl h)
 exact Option.isSome_iff_exists.mp q
theorem inv_start {CX:CXT} {P:Program} {w:World} {K:PySem.W.Frag} {mg:Str->Option Value} {base:Heap} {N ps:List Str} {qual:Str} {scope:Scope} {f:Addr} {cd:Value} {A:Around} {outer:List Env} {s s1:Shared} {H:Hp} {E:XK} {us:List Value} {vs:List V}
 (S:FnScope N ps scope) (hd:A.handled=none) (e0:Env0 P w K mg base A outer s H) (hl:vs.length=ps.length) (r:Vals vs us)
 (x:InCallC s s.heap.objs.size (bindL (envOfC qual scope s.heap.objs.size f cd).kindOf (ps.zip us) fun _=>none) (cellsFrom (s.heap.objs.size+1) scope.names []) (bindC (envOfC qual scope s.heap.objs.size f cd).kindOf (ps.zip us) fun _=>none) s1) :
 Inv (cxOf CX P w K mg base N qual scope f cd A outer s H E) [] (start N vs) H s1:=by
 have hpl:ps.length≤N.length:=by have:=congrArg List.length S.pre;rw [List.length_take] at this;omega
 obtain ⟨h1,tk,rfl,hk⟩:=x.done
 have noA:∀ b:Addr,b∉(cxOf CX P w K mg base N qual scope f cd A outer s H E).ex:=fun b z=>absurd (show b∈([]:List Addr) from z) (by simp)
 refine ⟨⟨e0.mod,S.kind,rfl,rfl,Nat.le_refl _,fun y z c h1 h2=>?_,fun y hy=>?_,fun y c _ h=>?_,fun _=>hd,Around.frames_deeper e0.frames,.inr ⟨rfl,rfl⟩,fun b z=>absurd z (noA b),e0.bs,e0.bsz,fun b _ _=>noA b,fun b z=>absurd z (noA b),e0.funs,e0.frf⟩,
  rfl,e0.bare,Un.kept hk,⟨_,x.toInCall.ns,fun i y v h1 h2 h3=>?_⟩,fun y c h=>⟨_,x.cell y c h⟩,e0.hok.fresh (Nat.le_refl _),fun y c h=>?_,fun p hp=>absurd (show p∈([]:List (Addr×Obj)) from hp) (by simp),e0.hok.kept hk,?_⟩
 ·exact name_of_addr x.apart (PySem.mem_of_lookup h1) (PySem.mem_of_lookup h2)
 ·have hy:scope.names.lookup y=some .cell∨scope.names.lookup y=some .free:=hy
  rcases hy with hy|hy
  ·exact cell_has hy
  ·exact absurd rfl (S.nofree _ (PySem.mem_of_lookup hy))
 ·exact Nat.le_of_lt (x.above y c (PySem.mem_of_lookup h))
 ·have hi:i<vs.length:=by
   unfold start at h2
   by_cases hi:i<vs.length
   ·exact hi
   ·rw [List.getElem?_append_right (by simpa using hi)] at h2
    rw [List.getElem?_replicate] at h2
    split at h2 <;> cases h2
  have ha:vs[i]?=some v:=by
   unfold start at h2
   rw [List.getElem?_append_left (by simpa using hi),List.getElem?_map] at h2
   cases e:vs[i]? with
   |none=>rw [e] at h2;cases h2
   |some a=>rw [e] at h2;cases h2;rfl
  obtain ⟨u,hu,rv⟩:=r.get ha
  have hp:ps[i]?=some y:=by
   rw [← S.pre,List.getElem?_take_of_lt (by omega)];exact h1
  have ndP:ps.Nodup:=by rw [← S.pre];exact S.nd.sublist (List.take_sublist _ _)
  refine ⟨u,rv,?_⟩
  rcases S.par y (List.mem_of_getElem? hp) with k|k
  ·exact .inl ⟨k,bindL_get ndP hp hu k⟩
  ·obtain ⟨c,e⟩:=cell_has (n:=s.heap.objs.size+1) k
   refine .inr ⟨.inl k,c,e,?_⟩
   have q:=x.cell y c e
   rw [bindC_get ndP hp hu (by show scope.names.lookup y≠_;rw [k];decide)] at q
   exact q
 ·exact e0.hok.fresh (Nat.le_of_lt (x.above y c (PySem.mem_of_lookup h)))
 ·unfold start
  show _=N.length
  rw [List.length_append,List.length_map,List.length_replicate]
  omega
theorem fn_of {CX:CXT} {P:Program} {w:World} {K:PySem.W.Frag} {mg:Str->Option Value} {base:Heap} {k:Nat} {f:Addr} {name qual:Str} {params:Arguments} {body:List Stmt} {scope:Scope} {dV kV doc pm cdv ct oc:Value} {an od:Option Addr}
 {osl:Array (Option Value)} {N ps:List Str} {sp:Sp} (lk:K.lookup f=some ⟨oc,od,.func (PySem.W.fnOf name qual params body scope dV kV doc pm an cdv ct),osl⟩) (hcd:PySem.W.codeIn K cdv qual=true) (S:FnScope N ps scope)
 (len:∀ vs H Q E,sp vs H Q E->vs.length=ps.length)
 (hbody:∀ (A:Around) (outer:List Env) (s:Shared) (H:Hp) (vs:List V) (Q:VK) (E:XK),Room k (A.deeper (envOfC qual scope s.heap.objs.size f cdv))->sp vs H Q E->
  ∃ t,PSs (cxOf CX P w K mg base N qual scope f cdv A outer s H E) body t/\t { nx:=fun _ H'=>Q .non H',rt:=Q } (start N vs) H) :
 FnOk P w K mg base CX (k+1) f (PySem.W.fnOf name qual params body scope dV kV doc pm an cdv ct) ps sp:=by
 refine ⟨len,fun A outer s H args us vs Q E hr e0 hb r hsp=>?_⟩
 have hl:=len _ _ _ _ hsp
 have KX:K.In s.heap:=e0.mod.kin.keeps fun b o e=>(e0.bs b o e).1
 have lim:s.heap.NoLimit:=e0.mod.nolimit.keeps fun b o e=>(e0.bs b o e).1
 have hkind:∀ y∈ps.zip us,scope.names.lookup y.1=some .local∨(scope.names.lookup y.1=some .cell/\((cellsFrom (s.heap.objs.size+1) scope.names []).lookup y.1).isSome=true):=fun ⟨n,v⟩ hy=>by
  rcases S.par n (List.of_mem_zip hy).1 with q|q
  ·exact .inl q
  ·exact .inr ⟨q,PySem.W.cellsFrom_some _ _ _ (.inl q)⟩
 refine codeAny_call_function hr.depth (KX _ _ lk) rfl S.co S.gen rfl (PySem.W.codeRec_of KX hcd) (hb _ _ _ _ ?_)
 refine wpAny_newFunctionEnv_cells S.kind hkind fun env he s1 x=>?_
 subst he
 refine ⟨lim.keeps x.toInCall.keep,codeAny_func ?_⟩
 obtain ⟨t,ht,hq⟩:=hbody A outer s H vs Q E (hr.deeper _) hsp
 have I:Inv (cxOf CX P w K mg base N qual scope f cdv A outer s H E) [] (start N vs) H s1:=inv_start S hr.hd e0 hl r x
 refine wpAny_mono (ht [] s1 (start N vs) H _ I hq) (fun fl s' hs=>?_) fun e s' hs=>hs
 have fin:∀ {σ':St} {H':Hp} {v:V} {u:Value},Inv (cxOf CX P w K mg base N qual scope f cdv A outer s H E) [] σ' H' s'->RelV v u->Q v H'->CE outer P w H s Q u s':=
  fun {σ' H' v u} J rv q=>⟨v,H',J.os,J.bare,J.base,J.hok,rv,q⟩
 cases fl with
 | ret u=>
   obtain ⟨v,σ',H',J,rv,q⟩:=hs
   exact fin J rv q
 | next=>
   obtain ⟨σ',H',J,q⟩:=hs
   exact fin (v:=V.non) (u:=Value.none) J rfl q
 | brk=>
   obtain ⟨_,_,_,q⟩:=hs
   exact False.elim q
 | cont=>
   obtain ⟨_,_,_,q⟩:=hs
   exact False.elim q
section
variable {X:Cx} {x:Str} {p pos:Pos} {e:Expr} {es:List Expr} {t:TA} {id T:String} {r:List V->Hp->VK->Prop}
def tCB (r:List V->Hp->VK->Prop) (t:TA):TE:=fun σ H Q=>t σ H fun vs H1=>r vs H1 Q
theorem pe_callB (hc:CallR X (.builtin id) r) (hg:Gl X x) (hm:X.mg x=none) (hv:bootBuiltins x=some (.builtin id)) (ha:PA X (e::es) t) (hn:x ≠ "__name__":=by decide) (hdb:(x == ("__debug__" : Str))=false:=by decide)
 (he:starEach (e::es) X.env=(false,eval e X.env)::starEach es X.env:=by rfl) (hpl:(backTo pos (starEach es X.env)).any (·.1)=false:=by rfl):PE X (.Call (.Name x p) (e::es) [] pos) (tCB r t):=by
 intro pins s σ H Q I h
 refine wpAny_Call_Name_kw (ld_blt I hg hm hv ?_ hn hdb)
 exact PyProof.Rows.callWith_builtin1 (thn (ha pos pins s σ H _ I h) fun us s1 ⟨vs,H1,I1,r1,q1⟩=>hc pins s1 σ H1 vs us Q I1 r1 q1) he hpl
theorem pe_callTy (hc:CallR X (.type T) r) (hg:Gl X x) (hm:X.mg x=none) (hv:bootBuiltins x=some (.type T)) (ha:PA X (e::es) t) (hn:x ≠ "__name__":=by decide) (hdb:(x == ("__debug__" : Str))=false:=by decide)
 (he:starEach (e::es) X.env=(false,eval e X.env)::starEach es X.env:=by rfl) (hpl:(backTo pos (starEach es X.env)).any (·.1)=false:=by rfl):PE X (.Call (.Name x p) (e::es) [] pos) (tCB r t):=by
 intro pins s σ H Q I h
 refine wpAny_Call_Name_kw (ld_blt I hg hm hv ?_ hn hdb)
 exact PyProof.Rows.callWith_type1 (thn (ha pos pins s σ H _ I h) fun us s1 ⟨vs,H1,I1,r1,q1⟩=>hc pins s1 σ H1 vs us Q I1 r1 q1) he hpl
end
end L2
namespace HT
open PySem PyProof.Rows
section
open PySem.SeqAt
open PySem.AutoSeq1 (wpAny_loadPart')
open PySem.MeetsSeq PySem.MeetsSeq2 PySem.MeetsSeq3
end
section
variable {prog:Program} {w:World} {A:Around} {E:Value->Shared->Prop} {s:Shared}
def sIx (n d:Nat):Option Int->Nat
 |none=>d
 |some v=>if v<0 then (v+(n:Int)).toNat else min v.toNat n
theorem sIx_none (n d:Nat):sIx n d none=d:=rfl
theorem sIx_nat (n d k:Nat):sIx n d (some (k:Int))=min k n:=by
 show (if (k:Int)<0 then ((k:Int)+(n:Int)).toNat else min (k:Int).toNat n)=min k n
 rw [if_neg (by omega),Int.toNat_natCast]
theorem sIx_le (n d:Nat) (hd:d≤n) (o:Option Int):sIx n d o≤n:=by
 cases o with
 |none=>exact hd
 | some v=>
   show (if v<0 then (v+(n:Int)).toNat else min v.toNat n)≤n
   by_cases hv:v<0
   ·rw [if_pos hv];omega
   ·rw [if_neg hv];exact Nat.min_le_right _ _
theorem clip_eq (v:Int) (n d:Nat):(if v<0 then max (v+(n:Int)) 0 else min v (n:Int))=((sIx n d (some v):Nat):Int):=by
 show (if v<0 then max (v+(n:Int)) 0 else min v (n:Int))=(((if v<0 then (v+(n:Int)).toNat else min v.toNat n):Nat):Int)
 by_cases hv:v<0
 ·simp only [if_pos hv];omega
 ·simp only [if_neg hv];omega
theorem adjust_gen (lo hi:Option Int) (n:Nat):Builtin.Slice.sliceAdjust lo hi 1 (n:Int)=(((sIx n 0 lo:Nat):Int),((sIx n n hi:Nat):Int)):=by
 have h1:¬ ((1:Int)<0):=by omega
 unfold Builtin.Slice.sliceAdjust
 simp only [h1,if_false]
 refine Prod.ext ?_ ?_
 ·cases lo with
  |none=>rfl
  |some v=>exact clip_eq v n 0
 ·cases hi with
  |none=>rfl
  |some v=>exact clip_eq v n n
theorem places_gen (i j:Nat):Builtin.Slice.slicePlaces (i:Int) (j:Int) 1=j-i:=by
 unfold Builtin.Slice.slicePlaces
 have h1:(1:Int) > 0:=by omega
 simp only [h1,if_true,Int.ediv_one]
 split <;> omega
theorem slicePart_ {v:Value} {o:Option Int} {Q:Option Int->Shared->Prop} (p:IsPart v o) (h:Q o s):wpAny (model prog w) A (Builtin.Slice.slicePartIndex v) Q E s:=by
 cases p with
 |none=>exact slicePart_none h
 |int i t=>exact slicePart_int h
theorem sliceApplied_gen {sl:Addr} {vl vu:Value} {lo hi:Option Int} {n:Nat} {Q:Int×Int×Nat->Shared->Prop} (hs:s.heap.IsSliceOf sl vl vu .none) (pl:IsPart vl lo) (pu:IsPart vu hi)
 (h:Q (((sIx n 0 lo:Nat):Int),1,sIx n n hi-sIx n 0 lo) s):wpAny (model prog w) A (Builtin.Slice.sliceApplied (.ref sl) (pure (n:Int))) Q E s:=by
 obtain ⟨os,hos,hcs,hds⟩:=id hs
 unfold Builtin.Slice.sliceApplied Builtin.Slice.sliceFields
 refine wpAny_bind (wpAny_bind (wpAny_field hos hds (x:=vl) rfl (wpAny_bind (wpAny_field hos hds (x:=vu) rfl (wpAny_bind (wpAny_field hos hds (x:=.none) rfl (wpAny_pure ?_)))))))
 refine wpAny_bind (slicePart_none ?_)
 show wpAny _ _ (if ((1:Int) == 0)=true then _ else _) _ _ s
 rw [if_neg (by decide)]
 refine wpAny_bind (slicePart_ pl (wpAny_bind (slicePart_ pu (wpAny_bind (wpAny_pure ?_)))))
 show wpAny _ _ (match Builtin.Slice.sliceAdjust lo hi 1 (n:Int) with|(lo,hi)=>pure (lo,(1:Int),Builtin.Slice.slicePlaces lo hi 1)) _ _ s
 rw [adjust_gen lo hi n]
 show wpAny _ _ (pure (((sIx n 0 lo:Nat):Int),(1:Int),Builtin.Slice.slicePlaces ((sIx n 0 lo:Nat):Int) ((sIx n n hi:Nat):Int) 1)) _ _ s
 rw [places_gen]
 exact wpAny_pure h
theorem pick_gen (xs:Array Value) (i k:Nat):((List.range k).filterMap fun (m:Nat)=>xs[((i:Int)+(m:Int)*1).toNat]?).toArray=((xs.toList.drop i).take k).toArray:=by
 have e:(fun (m:Nat)=>xs[((i:Int)+(m:Int)*1).toNat]?)=fun m=>xs[i+m]?:=by
  funext m
  have:((i:Int)+(m:Int)*1).toNat=i+m:=by omega
  rw [this]
 rw [e]
 have:=pick_run xs i k
 rw [List.filterMap_map] at this
 have e2:((fun x=>xs[x]?) ∘ fun x=>i+x)=fun m=>xs[i+m]?:=rfl
 rw [e2] at this
 rw [this]
theorem getItem_tuple_cut {t sl:Addr} {items:Array Value} {vl vu:Value} {lo hi:Option Int} {Q:Value->Shared->Prop} (ht:IsTup s.heap t items) (hs:s.heap.IsSliceOf sl vl vu .none) (pl:IsPart vl lo) (pu:IsPart vu hi)
 (hw:¬ (sIx items.size 0 lo=0/\sIx items.size items.size hi=items.size))
 (h:Q (.ref s.heap.objs.size) { s with heap:=s.heap.push { cls:=.type "tuple",data:=.seq ((items.toList.drop (sIx items.size 0 lo)).take (sIx items.size items.size hi-sIx items.size 0 lo)).toArray } })
 (hsz:items.size≤sizeLine):wpAny (model prog w) A (getItem (.ref t) (.ref sl)) Q E s:=by
 have htake:sizeOk (.seq ((items.toList.drop (sIx items.size 0 lo)).take (sIx items.size items.size hi-sIx items.size 0 lo)).toArray):=by
  show ((items.toList.drop (sIx items.size 0 lo)).take (sIx items.size items.size hi-sIx items.size 0 lo)).toArray.size≤sizeLine
  rw [List.size_toArray,List.length_take,List.length_drop,Array.length_toList]
  omega
 have hj:sIx items.size items.size hi≤items.size:=sIx_le _ _ (Nat.le_refl _) hi
 obtain ⟨os,hos,hcs,hds⟩:=id hs
 have hTs:s.TypeIs (.ref sl) "slice":=⟨os,hos,hcs⟩
 unfold getItem
 try with_reducible refine wpAny_holding ?_
 first|refine wpAny_bind (wpAny_pure ?_)|skip
 refine wpAny_bind (wpAny_sequenceKey ht.typeIs (by decide) ?_)
 refine wpAny_bind (wpAny_callSpecial?_slot (name:=Str.ofString "__getitem__") ht.typeIs PyProof.Rows.slot_tuple_getitem
  (wpAny_call_entry PyProof.Rows.slot_tuple_getitem ht.typeIs entry_tuple_getitem ?_ (args_tuple_getitem _ _)))
 show wpAny _ _ (Builtin.Tuple.tupleItemsOf (.ref t) >>= _) _ _ s
 refine wpAny_bind (tupleItemsOf_ ht ?_)
 refine wpAny_bind (wpAny_typeOf hTs ?_)
 rw [if_pos (by decide)]
 refine wpAny_bind (sliceApplied_gen hs pl pu ?_)
 have hno:¬ ((((sIx items.size 0 lo:Nat):Int) == 0 && (1:Int) == 1 && (sIx items.size items.size hi-sIx items.size 0 lo) == items.size)=true):=by
  intro q
  rw [Bool.and_eq_true,Bool.and_eq_true] at q
  have q1:((sIx items.size 0 lo:Nat):Int)=0:=eq_of_beq q.1.1
  have q2:sIx items.size items.size hi-sIx items.size 0 lo=items.size:=eq_of_beq q.2
  exact hw ⟨by omega,by omega⟩
 show wpAny _ _ (if (((sIx items.size 0 lo:Nat):Int) == 0 && (1:Int) == 1 && (sIx items.size items.size hi-sIx items.size 0 lo) == items.size)=true then _ else _) _ _ s
 rw [if_neg hno,pick_gen]
 first
  |exact wpAny_bind (m:=Builtin.Tuple.tupleExact _) (wpAny_newObj_type (wpAny_pure ⟨_,rfl,wpAny_pure h⟩) htake)
  |exact wpAny_bind (m:=Builtin.Tuple.tupleExact _) (wpAny_newObj_type (wpAny_bind (wpAny_pure (wpAny_pure ⟨_,rfl,wpAny_pure h⟩))) htake)
  |exact wpAny_bind (wpAny_bind (m:=Builtin.Tuple.tupleExact _) (wpAny_newObj_type (wpAny_pure (wpAny_pure ⟨_,rfl,wpAny_pure h⟩)) htake))
  |exact wpAny_bind (wpAny_bind (m:=Builtin.Tuple.tupleExact _) (wpAny_newObj_type (wpAny_pure ⟨_,rfl,wpAny_pure h⟩) htake))
end
end HT
namespace L2
open PySem PySem.Spec PyProof.Rows
abbrev TO:=St->Hp->(Option Int->Hp->Prop)->Prop
def PO (X:Cx) (e:Option Expr) (t:TO):Prop:=
 ∀ (pins:List (Addr×Obj)) (s:Shared) (σ:St) (H:Hp) (Q:Option Int->Hp->Prop),Inv X pins σ H s->t σ H Q->
   wpAny (model X.prog X.w) X.A (evalPart e X.env) (fun u s'=>∃ o H',Inv X pins σ H' s'/\IsPart u o/\Q o H') X.xe s
def tNoPart:TO:=fun _ H Q=>Q none H
def tPart (t:TE):TO:=fun σ H Q=>t σ H fun x H1=>∃ i,x=.int i/\Q (some i) H1
section
variable {X:Cx} {e:Expr} {te:TE} {lo hi:Option Expr} {tl th:TO} {pos p2:Pos}
theorem po_none:PO X none tNoPart:=by
 intro pins s σ H Q I h
 rw [evalPart_none]
 exact wpAny_pure ⟨none,H,I,.none,h⟩
theorem po_some (h:PE X e te):PO X (some e) (tPart te):=by
 intro pins s σ H Q I hw
 rw [evalPart_some]
 refine thn (h pins s σ H _ I hw) fun u s1 ⟨x,H1,I1,r1,q1⟩=>?_
 obtain ⟨i,rfl,q⟩:=q1
 obtain ⟨t,rfl⟩:=r1
 exact ⟨some i,H1,I1,.int i t,q⟩
def SlR (X:Cx) (r:V->Option Int->Option Int->Hp->VK->Prop):Prop:=
 ∀ (pins:List (Addr×Obj)) (s:Shared) (σ:St) (H:Hp) (x:V) (v vl vu:Value) (lo hi:Option Int) (sl:Addr) (Q:VK),Inv X pins σ H s->RelV x v->s.heap.IsSliceOf sl vl vu .none->IsPart vl lo->IsPart vu hi->r x lo hi H Q->
   ∃ T id,typeLookup (.type T) "__getitem__" = pure (some (.builtin id))/\s.TypeIs v T/\wpAny (model X.prog X.w) X.A (getItem v (.ref sl)) (EP X pins σ Q) X.xe s
def tSl (r:V->Option Int->Option Int->Hp->VK->Prop) (te:TE) (tl th:TO):TE:=fun σ H Q=>te σ H fun x H1=>tl σ H1 fun l H2=>th σ H2 fun u H3=>r x l u H3 Q
theorem pe_slice {r:V->Option Int->Option Int->Hp->VK->Prop} (hr:SlR X r) (he:PE X e te) (hl:PO X lo tl) (hu:PO X hi th):PE X (.Subscript e (.Slice lo hi none p2) pos) (tSl r te tl th):=by
 intro pins s σ H Q I h
 refine Subscript_ (thn (he pins s σ H _ I h) fun v s1 ⟨x,H1,I1,r1,q1⟩=>?_)
 refine wpAny_Slice (thn (hl pins s1 σ H1 _ I1 q1) fun vl s2 ⟨l,H2,I2,pl,q2⟩=>thn (hu pins s2 σ H2 _ I2 q2) fun vu s3 ⟨u,H3,I3,pu,q3⟩=>?_)
 rw [evalPart_none]
 refine wpAny_pure ?_
 have I4:Inv X pins σ H3 { s3 with heap:=s3.heap.push { cls:=.type "slice",data:=.fields #[vl,vu,.none] } }:=I3.kept (t':=s3.toks) fun b ob q=>Heap.get?_push_of_some _ q
 obtain ⟨T,id,hT,ht,hg⟩:=hr pins { s3 with heap:=s3.heap.push { cls:=.type "slice",data:=.fields #[vl,vu,.none] } } σ H3 x v vl vu l u s3.heap.objs.size Q I4 r1 (Heap.IsSliceOf.new ..) pl pu q3
 show wpAny (model X.prog X.w) X.A (subscriptTail e (.Slice lo hi none p2) v (.ref s3.heap.objs.size)) (EP X pins σ Q) X.xe { s3 with heap:=s3.heap.push { cls:=.type "slice",data:=.fields #[vl,vu,.none] } }
 exact tail_any (ops:=[.ref s3.heap.objs.size,v]) ht hT hg (by with_unfolding_all rfl)
def cutV (xs:List V) (lo hi:Option Int):List V:=(xs.drop (HT.sIx xs.length 0 lo)).take (HT.sIx xs.length xs.length hi-HT.sIx xs.length 0 lo)
theorem cutV_length (xs:List V) (lo hi:Option Int):(cutV xs lo hi).length≤xs.length:=by
 unfold cutV
 rw [List.length_take,List.length_drop]
 omega
def rSlT (K:PySem.W.Frag):V->Option Int->Option Int->Hp->VK->Prop:=fun x lo hi H Q=>∃ a xs,x=.ref a/\SqT K H a xs/\
 ¬ (HT.sIx xs.length 0 lo=0/\HT.sIx xs.length xs.length hi=xs.length)/\∀ p,H p=none->Q (.ref p) (upd H p (.tup (cutV xs lo hi)))
theorem sl_tup:SlR X (rSlT X.K):=by
 intro pins s σ H x v vl vu lo hi sl Q I rx hs pl pu h
 obtain ⟨a,xs,rfl,hx,hw,q⟩:=h
 cases rx
 obtain ⟨its,r,ht,hz⟩:=I.tuple hx
 have hlen:its.toArray.size=xs.length:=by rw [List.size_toArray];exact r.length.symm
 refine ⟨"tuple",_,PyProof.Rows.slot_tuple_getitem.lookup,ht.typeIs,?_⟩
 refine HT.getItem_tuple_cut ht hs pl pu (by rw [hlen];exact hw) ?_ (by rw [hlen];exact hz)
 rw [hlen]
 refine ⟨.ref s.heap.objs.size,_,I.laid (t':=s.toks) (o:=.tup (cutV xs lo hi)) (fun b ob q=>Heap.get?_push_of_some _ q) (Nat.le_refl _) ?_,rfl,q _ (I.hok.fresh (Nat.le_refl _))⟩
 exact ⟨Nat.le_trans (cutV_length xs lo hi) hz,_,(r.drop (HT.sIx xs.length 0 lo)).take (HT.sIx xs.length xs.length hi-HT.sIx xs.length 0 lo),IsTup.new _ _⟩
end
def ixN (n:Nat) (i:Int):Option Nat:=if 0≤i then (if i<n then some i.toNat else none) else if -(n:Int)≤i then some (i+n).toNat else none
def atI {α:Type} (xs:List α) (i:Int):Option α:=(ixN xs.length i).bind fun j=>xs[j]?
theorem ixN_seq {n:Nat} {i:Int} {j:Nat} (h:ixN n i=some j):seqIndex? i n=some j/\j<n/\-(n:Int)≤i/\i<n:=by
 unfold ixN at h
 by_cases h0:0≤i
 ·rw [if_pos h0] at h
  by_cases h1:i<n
  ·rw [if_pos h1] at h
   have e:i.toNat=j:=Option.some.inj h
   exact ⟨by rw [seqIndex_of h0 h1,e],by omega,by omega,h1⟩
  ·rw [if_neg h1] at h;cases h
 ·rw [if_neg h0] at h
  by_cases h1:-(n:Int)≤i
  ·rw [if_pos h1] at h
   have e:(i+n).toNat=j:=Option.some.inj h
   exact ⟨by rw [seqIndex_neg (by omega) h1,e],by omega,h1,by omega⟩
  ·rw [if_neg h1] at h;cases h
theorem atI_get {α:Type} {xs:List α} {i:Int} {v:α} (h:atI xs i=some v):∃ j,seqIndex? i xs.length=some j/\xs[j]?=some v/\j<xs.length/\-(xs.length:Int)≤i/\i<xs.length:=by
 unfold atI at h
 cases e:ixN xs.length i with
 |none=>rw [e] at h;cases h
 | some j=>
   rw [e] at h
   obtain ⟨h1,h2,h3,h4⟩:=ixN_seq e
   exact ⟨j,h1,h,h2,h3,h4⟩
theorem atI_nat {α:Type} {xs:List α} {j:Nat} {v:α} (h:xs[j]?=some v):atI xs (j:Int)=some v:=by
 have hj:j<xs.length:=(List.getElem?_eq_some_iff.mp h).1
 have e:ixN xs.length (j:Int)=some j:=by
  unfold ixN
  rw [if_pos (by omega),if_pos (by omega)];simp
 unfold atI;rw [e];exact h
def PlainIx (b:Expr):Prop:=∀ o i,subscripted b false o i=operate [o,i] (getItem o i)
def IxR (X:Cx) (r:R2):Prop:=
 ∀ (value slice:Expr) (pins:List (Addr×Obj)) (s:Shared) (σ:St) (H:Hp) (x y:V) (v u:Value) (Q:VK),Inv X pins σ H s->RelV x v->RelV y u->r x y H Q->
   subscripted slice false v u=operate [v,u] (getItem v u)->wpAny (model X.prog X.w) X.A (subscriptTail value slice v u) (EP X pins σ Q) X.xe s
def MtR (X:Cx) (id:String) (r:V->List V->Hp->VK->Prop):Prop:=
 ∀ (pins:List (Addr×Obj)) (s:Shared) (σ:St) (H:Hp) (x:V) (xs:List V) (v:Value) (us:List Value) (Q:VK),Inv X pins σ H s->RelV x v->Vals xs us->r x xs H Q->
   wpAny (model X.prog X.w) X.A (call (.builtin id) (v::us)) (EP X pins σ Q) X.xe s
section
variable {X:Cx} {a b:Expr} {ta tb:TE} {pos:Pos}
theorem IxR.or {r r':R2} (h:IxR X r) (h':IxR X r'):IxR X (fun x y H Q=>r x y H Q∨r' x y H Q):=by
 intro value slice pins s σ H x y v u Q I rx ry q hs
 rcases q with q|q
 ·exact h value slice pins s σ H x y v u Q I rx ry q hs
 ·exact h' value slice pins s σ H x y v u Q I rx ry q hs
theorem pe_ix {r:R2} (hr:IxR X r) (ha:PE X a ta) (hb:PE X b tb) (hs:PlainIx b):PE X (.Subscript a b pos) (tOp r ta tb):=by
 intro pins s σ H Q I h
 exact Subscript_ (binT ha hb I h fun v u s2 x y H2 I2 rx ry q=>hr a b pins s2 σ H2 x y v u Q I2 rx ry q (hs _ _))
def rIxL (K:PySem.W.Frag):R2:=fun x y H Q=>∃ p xs i v,x=.ref p/\y=.int i/\SqL K H p xs/\atI xs i=some v/\Q v H
def rIxT (K:PySem.W.Frag):R2:=fun x y H Q=>∃ p xs i v,x=.ref p/\y=.int i/\SqT K H p xs/\atI xs i=some v/\Q v H
def rIxS:R2:=fun x y H Q=>∃ z i c,x=.str z/\y=.int i/\z.length≤sizeLine/\atI z.cps.toList i=some c/\Q (.str ⟨#[c]⟩) H
theorem ix_list:IxR X (rIxL X.K):=by
 intro value slice pins s σ H x y v u Q I rx ry h hs
 obtain ⟨p,xs,i,z,rfl,rfl,hq,he,q⟩:=h
 cases rx
 obtain ⟨t,rfl⟩:=ry
 obtain ⟨its,r,pl,hz⟩:=I.list hq
 obtain ⟨j,h1,h2,h3,h4,h5⟩:=atI_get he
 obtain ⟨w,ew,rw'⟩:=r.get h2
 have hl:=r.length
 have hn:=line63
 have fin:EP X pins σ Q w s:=⟨z,H,I,rw',q⟩
 by_cases h0:0≤i
 ·have hj:i.toNat=j:=by
   rw [seqIndex_of h0 h5] at h1
   exact Option.some.inj h1
  exact item_listR pl.isList h0 (by omega) (by rw [hj];simpa using ew) fin hs
 ·have hj:(i+(its.toArray.size:Int)).toNat=j:=by
   rw [seqIndex_neg (by omega) h4] at h1
   rw [List.size_toArray,← hl]
   exact Option.some.inj h1
  exact subscriptTail_builtinR (x:=w) pl.isList.typeIs slot_list_getitem.lookup
   (wpAny_getItem_list_neg (Q:=fun r s'=>r=w/\EP X pins σ Q r s') pl.isList (by omega) (by rw [List.size_toArray] <;> omega) (by omega) (by rw [hj];simpa using ew) ⟨rfl,fin⟩) hs
theorem ix_tup:IxR X (rIxT X.K):=by
 intro value slice pins s σ H x y v u Q I rx ry h hs
 obtain ⟨p,xs,i,z,rfl,rfl,hq,he,q⟩:=h
 cases rx
 obtain ⟨t,rfl⟩:=ry
 obtain ⟨its,r,pl,hz⟩:=I.tuple hq
 obtain ⟨j,h1,h2,h3,h4,h5⟩:=atI_get he
 obtain ⟨w,ew,rw'⟩:=r.get h2
 have hl:=r.length
 have hn:=line63
 have fin:EP X pins σ Q w s:=⟨z,H,I,rw',q⟩
 exact subscriptTail_builtinR (x:=w) pl.typeIs slot_tuple_getitem.lookup
  (getItem_tuple (j:=j) (Q:=fun r s'=>r=w/\EP X pins σ Q r s') pl (by omega) (by omega) (by rw [List.size_toArray,← hl];exact h1) (by simpa using ew) ⟨rfl,fin⟩) hs
theorem ix_str:IxR X rIxS:=by
 intro value slice pins s σ H x y v u Q I rx ry h hs
 obtain ⟨z,i,c,rfl,rfl,hz,he,q⟩:=h
 obtain ⟨t,rfl⟩:=rx
 obtain ⟨t',rfl⟩:=ry
 obtain ⟨j,h1,h2,h3,h4,h5⟩:=atI_get he
 have hl:z.cps.toList.length=z.length:=by simp [Str.length]
 rw [hl] at h1 h4 h5
 have hn:=line63
 exact tail_any (typeIs_str s z t) slot_str_getitem.lookup (getItem_str (c:=c) (by
  have e1:decide (i < -(2 ^ 63:Int))=false:=decide_eq_false (by omega)
  have e2:decide (i ≥ 2 ^ 63)=false:=decide_eq_false (by omega)
  rw [e1,e2,Bool.or_false]) (by rw [h1];simpa using h2) ⟨.str ⟨#[c]⟩,H,I.tok _,⟨_,rfl⟩,q⟩) hs
def rIx (K:PySem.W.Frag):R2:=fun x y H Q=>rIxL K x y H Q∨rIxT K x y H Q∨rIxS x y H Q
theorem ix_seq:IxR X (rIx X.K):=ix_list.or (ix_tup.or ix_str)
theorem slice_bounds (lo hi:Option Int) (n:Nat):(sliceBounds lo hi none n).1=((HT.sIx n 0 lo:Nat):Int)/\(sliceBounds lo hi none n).2.1=((HT.sIx n n hi:Nat):Int)/\(sliceBounds lo hi none n).2.2=1:=by
 refine ⟨?_,?_,rfl⟩
 ·cases lo with
  |none=>simp [sliceBounds,HT.sIx]
  | some i=>
    simp only [sliceBounds,HT.sIx,Option.getD_none,show (1:Int) > 0 by decide,if_true]
    by_cases h:i<0
    ·simp only [h,if_true] <;> omega
    ·simp only [h,if_false] <;> omega
 ·cases hi with
  |none=>simp [sliceBounds,HT.sIx]
  | some i=>
    simp only [sliceBounds,HT.sIx,Option.getD_none,show (1:Int) > 0 by decide,if_true]
    by_cases h:i<0
    ·simp only [h,if_true] <;> omega
    ·simp only [h,if_false] <;> omega
theorem slicePick_cut (its:List Value) (lo hi:Option Int):slicePick its.toArray lo hi none=((its.drop (HT.sIx its.length 0 lo)).take (HT.sIx its.length its.length hi-HT.sIx its.length 0 lo)).toArray:=by
 obtain ⟨h1,h2,h3⟩:=slice_bounds lo hi its.toArray.size
 unfold slicePick
 rw [h1,h2,h3]
 simp only [sliceRange_one,pick_run,List.size_toArray] <;> rfl
def rSlL (K:PySem.W.Frag):V->Option Int->Option Int->Hp->VK->Prop:=fun x lo hi H Q=>∃ a xs,x=.ref a/\SqL K H a xs/\∀ p,H p=none->Q (.ref p) (upd H p (.lst (cutV xs lo hi)))
theorem sl_list:SlR X (rSlL X.K):=by
 intro pins s σ H x v vl vu lo hi sl Q I rx hs pl pu h
 obtain ⟨a,xs,rfl,hx,q⟩:=h
 cases rx
 obtain ⟨its,r,ht,hz⟩:=I.list hx
 have hlen:=r.length
 refine ⟨"list",_,slot_list_getitem.lookup,ht.isList.typeIs,?_⟩
 refine wpAny_getItem_list_slice ht.isList hs pl pu .none (by simp) ?_ (by rw [List.size_toArray] <;> omega)
 rw [slicePick_cut,← hlen]
 refine ⟨.ref s.heap.objs.size,_,I.laid (t':=s.toks) (o:=.lst (cutV xs lo hi)) (fun b ob q=>Heap.get?_push_of_some _ q) (Nat.le_refl _) ?_,rfl,q _ (I.hok.fresh (Nat.le_refl _))⟩
 exact ⟨Nat.le_trans (cutV_length xs lo hi) hz,_,0,(r.drop (HT.sIx xs.length 0 lo)).take (HT.sIx xs.length xs.length hi-HT.sIx xs.length 0 lo),Heap.get?_push_size _ rfl⟩
theorem call_len_seq:CallR X (.builtin "len") (fun xs H Q=>∃ p ys,xs=[.ref p]/\(SqL X.K H p ys∨SqT X.K H p ys)/\Q (.int ys.length) H):=by
 intro pins s σ H xs us Q I r h
 obtain ⟨p,ys,rfl,hq,q⟩:=h
 obtain ⟨u,rfl,rx⟩:=vals1 r
 cases rx
 have hn:=line63
 rcases hq with hq|hq
 ·obtain ⟨its,r',pl,hz⟩:=I.list hq
  have hlen:=r'.length
  exact Calls.call_len_list pl.isList (by simp only [List.size_toArray] <;> omega) ⟨.int ys.length,H,I.tok _,⟨s.toks+1,by rw [List.size_toArray,hlen]⟩,q⟩
 ·obtain ⟨its,r',pl,hz⟩:=I.tuple hq
  have hlen:=r'.length
  exact len_tuple pl (by simp only [List.size_toArray] <;> omega) ⟨.int ys.length,H,I.tok _,⟨s.toks+1,by rw [List.size_toArray,hlen]⟩,q⟩
theorem call_list_of:CallR X (.type "list") (fun xs H Q=>∃ p ys,xs=[.ref p]/\(SqL X.K H p ys∨SqT X.K H p ys)/\∀ l,H l=none->Q (.ref l) (upd H l (.lst ys))):=by
 intro pins s σ H xs us Q I r h
 obtain ⟨p,ys,rfl,hq,q⟩:=h
 obtain ⟨u,rfl,rx⟩:=vals1 r
 cases rx
 have fin:∀ (its:List Value),Vals ys its->ys.length≤sizeLine->∀ (h':Heap) (c':Nat),(∀ b o',s.heap.get? b=some o'->h'.get? b=some o')->
  h'.get? s.heap.objs.size=some { cls:=.type "list",dict:=none,data:=.seq its.toArray c',slots:=#[] }->EP X pins σ Q (.ref s.heap.objs.size) { s with heap:=h' }:=fun its r' hz h' c' kp e=>
  ⟨.ref s.heap.objs.size,_,I.laid (t':=s.toks) kp (Nat.le_refl _) (show ObjOk X.prog X.w _ h' _ (.lst ys) from ⟨hz,its,c',r',e⟩),rfl,q _ (I.hok.fresh (Nat.le_refl _))⟩
 rcases hq with hq|hq
 ·obtain ⟨its,r',pl,hz⟩:=I.list hq
  have hlen:=r'.length
  obtain ⟨o,ho,hc,n,hd⟩:=pl.isList
  exact call_list_seq p (.inl rfl) ho hc hd (fun h' c' kp e=>fin its r' hz h' c' kp e) (by simp only [List.size_toArray] <;> omega)
 ·obtain ⟨its,r',pl,hz⟩:=I.tuple hq
  have hlen:=r'.length
  obtain ⟨o,ho,hc,n,hd⟩:=pl
  exact call_list_seq p (.inr rfl) ho hc hd (fun h' c' kp e=>fin its r' hz h' c' kp e) (by simp only [List.size_toArray] <;> omega)
def tyV (K:PySem.W.Frag) (T:String) (x:V) (H:Hp):Prop:=match x with
 |.str _=>T = "str"
 |.int _=>T = "int"
 |.ref p=>(T = "list"/\∃ xs,SqL K H p xs)∨(T = "tuple"/\∃ o,K.lookup p=some o/\o.cls=.type "tuple"/\o.dict=none)∨
  (T = "dict"/\((∃ kvs,H p=some (.dK kvs))∨∃ kvs,H p=some (.dT kvs)))∨(T = "set"/\∃ S n,H p=some (.set S n))
 |_=>False
theorem tyV_is {pins:List (Addr×Obj)} {σ:St} {H:Hp} {s:Shared} {T:String} {x:V} {v:Value} (I:Inv X pins σ H s) (r:RelV x v) (ty:tyV X.K T x H) :
 s.TypeIs v T/\∀ a,v=.ref a->∃ ob,s.heap.get? a=some ob/\ob.dict=none:=by
 cases x with
 | str z=>
   obtain ⟨t,rfl⟩:=r
   cases (show T = "str" from ty)
   exact ⟨typeIs_str s z t,fun _ e=>nomatch e⟩
 | int i=>
   obtain ⟨t,rfl⟩:=r
   cases (show T = "int" from ty)
   exact ⟨typeIs_int s i t,fun _ e=>nomatch e⟩
 | ref p=>
   cases r
   rcases ty with ⟨rfl,xs,hq⟩|⟨rfl,o,hk,hc,hd⟩|⟨rfl,hk⟩|⟨rfl,S,n,hk⟩
   ·obtain ⟨its,_,pl,_⟩:=I.list hq
    refine ⟨pl.isList.typeIs,fun a e=>?_⟩
    cases e
    obtain ⟨o,n,e,c,hd,_⟩:=pl
    exact ⟨o,e,hd⟩
   ·refine ⟨⟨o,I.kIn p o hk,hc⟩,fun a e=>?_⟩
    cases e
    exact ⟨o,I.kIn _ o hk,hd⟩
   ·have z:∃ o,s.heap.get? p=some o/\o.ExactDict:=by
     rcases hk with ⟨kvs,hk⟩|⟨kvs,hk⟩
     ·obtain ⟨_,_,_,_,o,_,_,e,ex,_⟩:=I.hok p _ hk
      exact ⟨o,e,ex⟩
     ·obtain ⟨_,_,_,_,o,_,_,e,ex,_⟩:=I.hok p _ hk
      exact ⟨o,e,ex⟩
    obtain ⟨o,e,ex⟩:=z
    refine ⟨⟨o,e,ex.1⟩,fun a e2=>?_⟩
    cases e2
    exact ⟨o,e,ex.2.1⟩
   ·obtain ⟨o,_,_,_,e,ex,_⟩:=I.hok p _ hk
    refine ⟨⟨o,e,ex.1⟩,fun a e2=>?_⟩
    cases e2
    exact ⟨o,e,ex.2.1⟩
 |_=>exact False.elim ty
def tBM (K:PySem.W.Frag) (T:String) (r:V->List V->Hp->VK->Prop) (to:TE) (t:TA):TE:=fun σ H Q=>to σ H fun x H1=>tyV K T x H1/\t σ H1 fun xs H2=>r x xs H2 Q
variable {o e:Expr} {es:List Expr} {to:TE} {t:TA} {name:Str} {apos cpos:Pos} {T id:String} {r:V->List V->Hp->VK->Prop}
theorem pe_bm (pa:PlainAttrs T) (slot:Slot T name id) (hty:typeOf (.builtin id)=pure (.type "method_descriptor")) (hm:MtR X id r) (ho:PE X o to) (ha:PA X (e::es) t)
 (hbase:attributeBase o name X.env (eval o X.env)=eval o X.env:=by rfl)
 (hfew:((backTo cpos (starEach (e::es) X.env)).all (fun x=>!x.1) && (backToKw cpos (keywordEach [] X.env)).all (fun x=>x.1.isSome)
  && decide ((e::es).length+([]:List Keyword).length+(if ([]:List Keyword).isEmpty then 0 else 1)<30))=true:=by rfl)
 (hline:(apos.endLine == cpos.line)=true:=by rfl) (hs:starEach (e::es) X.env=(false,eval e X.env)::starEach es X.env:=by rfl) (hplain:(backTo cpos (starEach es X.env)).any (·.1)=false:=by rfl) :
 PE X (.Call (.Attribute o name apos) (e::es) [] cpos) (tBM X.K T r to t):=by
 intro pins s σ H Q I h
 refine wpAny_Call_method_late hbase hfew hline rfl (thn (ho pins s σ H _ I h) fun v s1 ⟨x,H1,I1,r1,ty,q1⟩=>?_)
 obtain ⟨h1,h2⟩:=tyV_is I1 r1 ty
 refine ⟨T,id,pa,slot,hty,h1,h2,?_⟩
 have hA:=ha cpos pins s1 σ H1 _ I1 q1
 rw [hs] at hA ⊢
 refine Calls.callWith_builtin (by show (false || (backTo cpos (starEach es X.env)).any (·.1))=false;rw [hplain] <;> rfl) (Calls.evalArgs_plain ?_)
 exact thn hA fun us s2 ⟨vs,H2,I2,r2,q2⟩=>hm pins s2 σ H2 x vs v us Q I2 r1 r2 q2
end
def MtM (X:Cx) (id:String) (r:V->List V->Hp->VK->Prop):Prop:=
 ∀ (pins:List (Addr×Obj)) (s:Shared) (σ:St) (H:Hp) (x:V) (xs:List V) (v:Value) (us:List Value) (Q:VK),Inv X pins σ H s->RelV x v->Vals xs us->r x xs H Q->
   wpAny (model X.prog X.w) X.A (call (.builtin id) (v::us)) (EP X pins σ Q) X.xe s
theorem Vals.one:∀ {x:V} {us:List Value},Vals [x] us->∃ u,us=[u]/\RelV x u
 |_,_,.cons r .nil=>⟨_,rfl,r⟩
section
variable {X:Cx} {pins:List (Addr×Obj)} {σ:St} {H:Hp} {s:Shared} {l b:Addr} {xs ys zs:List V}
theorem Inv.lset {its its':List Value} {n:Nat} {f:Array Value->Array Value} {t':Nat} (I:Inv X pins σ H s) (hH:H l=some (.lst xs))
 (e:s.heap.get? l=some { cls:=.type "list",data:=.seq its.toArray n }) (hf:f its.toArray=its'.toArray) (hv:Vals ys its') (hz:ys.length≤sizeLine) :
 Inv X pins σ (upd H l (.lst ys)) { s with heap:=s.heap.update l (Obj.mapSeq f),toks:=t' }:=by
 have q:=PySem.IsL.update e f
 rw [hf] at q
 refine I.write (x:=l) (e:=l) (by rw [hH];exact trivial) (.inl rfl) (fun b' u hb hu=>(Heap.get?_update_other s.heap (Obj.mapSeq f) (Ne.symm hb)).trans hu) ⟨_,q⟩ ?_
 exact ⟨hz,its',_,hv,q⟩
theorem Inv.lnew {its:List Value} {t':Nat} (I:Inv X pins σ H s) (hv:Vals ys its) (hz:ys.length≤sizeLine) :
 Inv X pins σ (upd H s.heap.objs.size (.lst ys)) { s with heap:=s.heap.push { cls:=.type "list",data:=.seq its.toArray },toks:=t' }:=
 I.laid (fun _ _ q=>Heap.get?_push_of_some _ q) (Nat.le_refl _) ⟨hz,its,0,hv,Heap.get?_push_size _ rfl⟩
theorem Inv.fresh (I:Inv X pins σ H s):H s.heap.objs.size=none:=I.hok.fresh (Nat.le_refl _)
theorem Inv.lstM (I:Inv X pins σ H s) (hH:H l=some (.lst xs)):xs.length≤sizeLine/\∃ (its:List Value) (n:Nat),Vals xs its/\xs.length=its.length/\s.heap.get? l=some { cls:=.type "list",data:=.seq its.toArray n }:=by
 obtain ⟨z,its,n,r,e⟩:=I.hok l _ hH
 exact ⟨z,its,n,r,r.length,e⟩
theorem notLongL {n:Nat} (h:n≤sizeLine):Builtin.List.listTooLong n=false:=by
 unfold Builtin.List.listTooLong
 exact decide_eq_false (by omega)
end
section
variable {X:Cx}
def rAppend:V->List V->Hp->VK->Prop:=fun x vs H Q=>∃ l xs y,x=.ref l/\vs=[y]/\H l=some (.lst xs)/\xs.length<sizeLine/\Q .non (upd H l (.lst (xs++[y])))
theorem mt_append:MtM X "list.append" rAppend:=by
 intro pins s σ H x vs v us Q I rx rv h
 obtain ⟨l,xs,y,rfl,rfl,hH,hz,q⟩:=h
 cases rx
 obtain ⟨u,rfl,ru⟩:=rv.one
 obtain ⟨z,its,n,r,hl,e⟩:=I.lstM hH
 refine call_meets F.slot_list_append ⟨_,e,rfl⟩ F.entry_list_append (F.args_list_append_2 _ _) (PySem.list_append l its.toArray n u (by rw [List.size_toArray];omega)) ⟨e,?_⟩
 refine ⟨.non,_,I.lset (its':=its++[u]) hH e (by simp) (r.append (.cons ru .nil)) ?_,rfl,q⟩
 rw [List.length_append,List.length_singleton]
 omega
def rExtend:V->List V->Hp->VK->Prop:=fun x vs H Q=>∃ l b xs zs,x=.ref l/\vs=[.ref b]/\H l=some (.lst xs)/\H b=some (.lst zs)/\xs.length+zs.length≤sizeLine/\Q .non (upd H l (.lst (xs++zs)))
theorem mt_extend:MtM X "list.extend" rExtend:=by
 intro pins s σ H x vs v us Q I rx rv h
 obtain ⟨l,b,xs,zs,rfl,rfl,hH,hB,hz,q⟩:=h
 cases rx
 obtain ⟨u,rfl,ru⟩:=rv.one
 cases ru
 obtain ⟨z,its,n,r,hl,e⟩:=I.lstM hH
 obtain ⟨z2,its2,n2,r2,hl2,e2⟩:=I.lstM hB
 have hsz:its.toArray.size+its2.toArray.size≤sizeLine:=by rw [List.size_toArray,List.size_toArray];omega
 have hlong:¬ (!its.toArray.isEmpty && Builtin.List.listTooLong (its.toArray.size+its2.toArray.size))=true:=by
  rw [notLongL hsz,Bool.and_false]
  exact Bool.false_ne_true
 refine call_meets F.slot_list_extend ⟨_,e,rfl⟩ F.entry_list_extend (F.args_list_extend_2 _ _)
  (AutoSeq1.list_extend_list_list_0 l its.toArray n b its2.toArray n2 hlong (by rw [List.size_toArray];omega) (by omega)) ⟨e,e2,?_⟩
 refine ⟨.non,_,I.lset (its':=its++its2) hH e (by simp) (r.append r2) ?_,rfl,q⟩
 rw [List.length_append]
 omega
def rCat:R2:=fun x y H Q=>∃ l b xs zs,x=.ref l/\y=.ref b/\H l=some (.lst xs)/\H b=some (.lst zs)/\xs.length+zs.length≤sizeLine/\∀ p,H p=none->Q (.ref p) (upd H p (.lst (xs++zs)))
theorem op_cat:OpR X (binaryOp .Add) rCat:=by
 intro pins s σ H x y v u Q I rx ry h
 obtain ⟨l,b,xs,zs,rfl,rfl,hH,hB,hz,q⟩:=h
 cases rx
 cases ry
 obtain ⟨z,its,n,r,hl,e⟩:=I.lstM hH
 obtain ⟨z2,its2,n2,r2,hl2,e2⟩:=I.lstM hB
 refine PySem.P.add_list e e2 ?_ (by rw [List.size_toArray,List.size_toArray];omega)
 have ea:its.toArray++its2.toArray=(its++its2).toArray:=by simp
 rw [ea]
 exact ⟨.ref _,_,I.lnew (t':=s.toks) (r.append r2) (by rw [List.length_append];omega),rfl,q _ I.fresh⟩
end
section
variable {prog:Program} {w:World} {A:Around} {E:Value->Shared->Prop} {s:Shared}
end
section
variable {X:Cx}
end
section
variable {κ:Type} [DecidableEq κ]
def valV (kvs:List (κ×V)) (k:κ):Option V:=(kvs.find? fun kv=>decide (kv.1=k)).map (·.2)
def putK (kvs:List (κ×V)) (k:κ) (v:V):List (κ×V):=
 if (kvs.any fun kv=>decide (kv.1=k))=true then kvs.map (fun kv=>if kv.1=k then (kv.1,v) else kv) else kvs++[(k,v)]
theorem valV_pos {p:κ×V} {r:List (κ×V)} {k:κ} (e:p.1=k):valV (p::r) k=some p.2:=by simp [valV,List.find?_cons,e]
theorem valV_neg {p:κ×V} {r:List (κ×V)} {k:κ} (e:¬ p.1=k):valV (p::r) k=valV r k:=by simp [valV,List.find?_cons,e]
theorem valV_any (k:κ):∀ kvs:List (κ×V),(kvs.any fun kv=>decide (kv.1=k))=(valV kvs k).isSome
 |[]=>rfl
 | p::r=>by
   rw [List.any_cons]
   by_cases e:p.1=k
   ·simp only [valV_pos e,decide_eq_true e,Bool.true_or,Option.isSome_some]
   ·rw [valV_neg e,decide_eq_false e,Bool.false_or];exact valV_any k r
theorem length_putK (kvs:List (κ×V)) (k:κ) (v:V):(putK kvs k v).length≤kvs.length+1:=by
 unfold putK
 split
 ·rw [List.length_map];omega
 ·rw [List.length_append,List.length_cons,List.length_nil];omega
theorem RelO.isSome_eq {o:Option V} {u:Option Value} (r:RelO o u):o.isSome=u.isSome:=by
 cases o with
 | none=>cases u with
   |none=>rfl
   |some _=>exact (show False from r).elim
 | some _=>cases u with
   |none=>exact (show False from r).elim
   |some _=>rfl
theorem KV.val {kvs:List (κ×V)} {vs:List (κ×Value)} (r:KV kvs vs) (k:κ):RelO (valV kvs k) (valueAt vs k):=by
 unfold KV at r
 induction r with
 |nil=>exact True.intro
 | @cons p q ps qs h t ih=>
   obtain ⟨h1,h2⟩:=h
   by_cases e:p.1=k
   ·have e':q.1=k:=h1.symm.trans e
    have b:valueAt (q::qs) k=some q.2:=by simp [valueAt,List.find?_cons,e']
    rw [valV_pos e,b];exact h2
   ·have e':¬ q.1=k:=fun z=>e (h1.trans z)
    have b:valueAt (q::qs) k=valueAt qs k:=by simp [valueAt,List.find?_cons,e']
    rw [valV_neg e,b];exact ih
theorem KV.any {kvs:List (κ×V)} {vs:List (κ×Value)} (r:KV kvs vs) (k:κ):(kvs.any fun kv=>decide (kv.1=k))=vs.any fun kv=>decide (kv.1=k):=by
 unfold KV at r
 induction r with
 |nil=>rfl
 |cons h t ih=>rw [List.any_cons,List.any_cons,ih,h.1]
theorem KV.repl {kvs:List (κ×V)} {vs:List (κ×Value)} (r:KV kvs vs) (k:κ) {y:V} {u:Value} (ry:RelV y u) :
 KV (kvs.map fun kv=>if kv.1=k then (kv.1,y) else kv) (vs.map fun kv=>if kv.1=k then (kv.1,u) else kv):=by
 unfold KV at r ⊢
 induction r with
 |nil=>exact .nil
 | @cons p q ps qs h t ih=>
   rw [List.map_cons,List.map_cons]
   refine .cons ?_ ih
   obtain ⟨h1,h2⟩:=h
   by_cases e:p.1=k
   ·rw [if_pos e,if_pos (h1.symm.trans e)];exact ⟨h1,ry⟩
   ·rw [if_neg e,if_neg (fun z=>e (h1.trans z))];exact ⟨h1,h2⟩
theorem KV.put {kvs:List (κ×V)} {vs:List (κ×Value)} (r:KV kvs vs) (k:κ) {y:V} {u:Value} (ry:RelV y u):KV (putK kvs k y) (stored vs k u):=by
 unfold putK stored
 rw [r.any k]
 by_cases e:(vs.any fun kv=>decide (kv.1=k))=true
 ·rw [if_pos e,if_pos e];exact r.repl k ry
 ·rw [if_neg e,if_neg e];exact Paired.snoc r ⟨rfl,ry⟩
theorem KV.length {kvs:List (κ×V)} {vs:List (κ×Value)} (r:KV kvs vs):kvs.length=vs.length:=Paired.length r
end
theorem kV_is {P:Program} {w:World} {k:Key} {u:Value} (r:RelV (kV k) u):(mixKind P w).is k u=true:=by
 cases k with
 |inl i=>obtain ⟨t,e⟩:=(show ∃ t,u=Value.int i t from r);subst e;exact mixKind_int P w i t
 |inr x=>obtain ⟨t,e⟩:=(show ∃ t,u=Value.str x t from r);subst e;exact mixKind_str P w x t
theorem items_are {P:Program} {w:World}:∀ {ks:List Key} {us:List Value},Vals (ks.map kV) us->ItemsAre (mixKind P w) ks us
 |[],_,r=>by rw [List.map_nil] at r;cases r;exact .nil
 | k::ks,_,r=>by
   rw [List.map_cons] at r
   cases r with
   |cons h t=>exact .cons (kV_is h) (items_are t)
abbrev KT (H:Hp):List (List Key×V)->List (List Key×Addr×Value)->Prop:=Paired fun p q=>p.1=q.1/\H q.2.1=some (.tup (p.1.map kV))/\RelV p.2 q.2.2
theorem KT.val {H:Hp} {kvs:List (List Key×V)} {xs:List (List Key×Addr×Value)} (r:KT H kvs xs) (k:List Key):RelO (valV kvs k) ((atKey xs k).map (·.2)):=by
 induction r with
 |nil=>exact True.intro
 | @cons p q ps qs h t ih=>
   obtain ⟨h1,_,h2⟩:=h
   by_cases e:p.1=k
   ·have e':q.1=k:=h1.symm.trans e
    have b:atKey (q::qs) k=some q.2:=by simp [atKey,List.find?_cons,e']
    rw [valV_pos e,b];exact h2
   ·have e':¬ q.1=k:=fun z=>e (h1.trans z)
    have b:atKey (q::qs) k=atKey qs k:=by simp [atKey,List.find?_cons,e']
    rw [valV_neg e,b];exact ih
theorem KT.repl {H:Hp} {kvs:List (List Key×V)} {xs:List (List Key×Addr×Value)} (r:KT H kvs xs) (k:List Key) {y:V} {u:Value} (ry:RelV y u) :
 KT H (kvs.map fun kv=>if kv.1=k then (kv.1,y) else kv) (xs.map (putAt k u)):=by
 induction r with
 |nil=>exact .nil
 | @cons p q ps qs h t ih=>
   rw [List.map_cons,List.map_cons]
   refine .cons ?_ ih
   obtain ⟨h1,h2,h3⟩:=h
   unfold putAt
   by_cases e:p.1=k
   ·rw [if_pos e,if_pos (h1.symm.trans e)];exact ⟨h1,h2,ry⟩
   ·rw [if_neg e,if_neg (fun z=>e (h1.trans z))];exact ⟨h1,h2,h3⟩
theorem KT.put {H:Hp} {kvs:List (List Key×V)} {xs:List (List Key×Addr×Value)} (r:KT H kvs xs) (k:List Key) {b:Addr} {y:V} {u:Value} (hb:H b=some (.tup (k.map kV))) (ry:RelV y u) :
 KT H (putK kvs k y) (storedH xs k b u):=by
 have e:(kvs.any fun kv=>decide (kv.1=k))=(atKey xs k).isSome:=by
  rw [valV_any,(r.val k).isSome_eq,Option.isSome_map]
 unfold putK storedH
 rw [e]
 by_cases q:(atKey xs k).isSome=true
 ·rw [if_pos q,if_pos q];exact r.repl k ry
 ·rw [if_neg q,if_neg q];exact Paired.snoc r ⟨rfl,hb,ry⟩
theorem KT.keeps {H H':Hp} {kvs:List (List Key×V)} {xs:List (List Key×Addr×Value)} (r:KT H kvs xs) (ht:∀ b ys,H b=some (.tup ys)->H' b=some (.tup ys)):KT H' kvs xs:=
 Paired.mapP r fun _ _ z=>⟨z.1,ht _ _ z.2.1,z.2.2⟩
section
variable {P:Program} {w:World} {H:Hp} {h:Heap} {a:Addr}
theorem rd_of {u:HO} (ok:HOk P w H h) (e:Rd H a u):ObjOk P w H h a u:=e.ok ok
theorem dk_rd {kvs:List (Key×V)} (ok:HOk P w H h) (e:Rd H a (.dK kvs)):kvs.length≤sizeLine/\(a == sysModules)=false/\∃ vs,KV kvs vs/\h.DictOf (mixKind P w) a vs:=
 show ObjOk P w H h a (.dK kvs) from rd_of ok e
theorem dk_of {kvs:List (Key×V)} (ok:HOk P w H h) (e:H a=some (.dK kvs)):kvs.length≤sizeLine/\(a == sysModules)=false/\∃ vs,KV kvs vs/\h.DictOf (mixKind P w) a vs:=dk_rd ok (.inl e)
theorem key_of {ks:List Key} (ok:HOk P w H h) (e:H a=some (.tup (ks.map kV))):(tupleKind (mixKind P w)).is h ks a:=by
 obtain ⟨_,its,r,o,h1,h2,n,h3⟩:=(show ObjOk P w H h a (.tup (ks.map kV)) from ok a _ e)
 exact ⟨o,its.toArray,n,h1,h2,h3,by simpa using items_are r⟩
theorem dt_rd {kvs:List (List Key×V)} (ok:HOk P w H h) (e:Rd H a (.dT kvs)):kvs.length≤sizeLine/\(a == sysModules)=false/\
 ∃ xs,KT H kvs xs/\h.DictOfH (tupleKind (mixKind P w)) a xs:=by
 obtain ⟨z,y,xs,r,o,es,ep,h1,h2,h3,h4,h5⟩:=(show ObjOk P w H h a (.dT kvs) from rd_of ok e)
 refine ⟨z,y,xs,r,o,es,ep,h1,h2,h3,h4,fun x hx=>?_,h5⟩
 have all:∀ {l:List (List Key×V)} {m:List (List Key×Addr×Value)},KT H l m->∀ x∈m,(tupleKind (mixKind P w)).is h x.1 x.2.1:=by
  intro l m q
  induction q with
  |nil=>intro x hx;exact nomatch hx
  | @cons p q ps qs hq t ih=>
    intro x hx
    rcases List.mem_cons.mp hx with e|hx
    ·subst e
     exact key_of ok (by rw [← hq.1];exact hq.2.1)
    ·exact ih x hx
 exact all r x hx
theorem dt_of {kvs:List (List Key×V)} (ok:HOk P w H h) (e:H a=some (.dT kvs)):kvs.length≤sizeLine/\(a == sysModules)=false/\
 ∃ xs,KT H kvs xs/\h.DictOfH (tupleKind (mixKind P w)) a xs:=dt_rd ok (.inl e)
end
def DGet (H:Hp) (a:Addr) (y:V) (r:Option V):Prop:=
 (∃ kvs k,Rd H a (.dK kvs)/\y=kV k/\r=valV kvs k)∨∃ kvs k b,Rd H a (.dT kvs)/\y=.ref b/\H b=some (.tup (k.map kV))/\r=valV kvs k
def DPut (H:Hp) (a:Addr) (y v:V) (H':Hp):Prop:=
 (∃ kvs k,H a=some (.dK kvs)/\y=kV k/\kvs.length<sizeLine/\H'=upd H a (.dK (putK kvs k v)))∨
 ∃ kvs k b,H a=some (.dT kvs)/\y=.ref b/\H b=some (.tup (k.map kV))/\kvs.length<sizeLine/\H'=upd H a (.dT (putK kvs k v))
theorem DGet.k {H:Hp} {a:Addr} {kvs:List (Key×V)} {k:Key} (e:H a=some (.dK kvs)):DGet H a (kV k) (valV kvs k):=.inl ⟨kvs,k,.inl e,rfl,rfl⟩
theorem DPut.k {H:Hp} {a:Addr} {kvs:List (Key×V)} {k:Key} {v:V} (e:H a=some (.dK kvs)) (hl:kvs.length<sizeLine):DPut H a (kV k) v (upd H a (.dK (putK kvs k v))):=.inl ⟨kvs,k,e,rfl,hl,rfl⟩
section
variable {X:Cx} {pins:List (Addr×Obj)} {σ:St} {H:Hp} {s:Shared} {a:Addr} {y v:V} {u r:Value} {o:Option V} {A:Around} {E:Value->Shared->Prop}
theorem Inv.big (I:Inv X pins σ H s):sysModules<s.heap.objs.size:=by
 have h:mainGlobals<s.heap.objs.size:=(I.mod.glob.keeps I.bk).lt
 exact Nat.lt_trans (by decide) h
theorem d_getItem {Q:Value->Shared->Prop} (hu:A.units+1<cLine) (I:Inv X pins σ H s) (g:DGet H a y (some v)) (ry:RelV y u) (h:∀ w' s',Inv X pins σ H s'->RelV v w'->Q w' s') :
 wpAny (model X.prog X.w) A (getItem (.ref a) u) Q E s:=by
 rcases g with ⟨kvs,k,e,ey,l⟩|⟨kvs,k,b,e,ey,eb,l⟩
 ·subst ey
  obtain ⟨z,hd,vs,rel,dd⟩:=dk_rd I.hok e
  obtain ⟨w',hw,rw'⟩:=RelO.some_of (v:=v) (o:=valueAt vs k) (by rw [l];exact rel.val k)
  exact wpAny_getItem_of (kV_is ry) dd.mapOf hw (h w' _ (I.tok _) rw')
 ·subst ey
  cases (show u=Value.ref b from ry)
  obtain ⟨z,hd,xs,rel,dd⟩:=dt_rd I.hok e
  obtain ⟨w',hw,rw'⟩:=RelO.some_of (v:=v) (o:=(atKey xs k).map (·.2)) (by rw [l];exact rel.val k)
  obtain ⟨p,hp,hp2⟩:=Option.map_eq_some_iff.mp hw
  refine wpAny_getItem_heap (tupleKind_room_in1 hu) (key_of I.hok eb) dd hp ?_
  rw [hp2]
  exact h w' _ (I.tok _) rw'
theorem d_write {h':Heap} {t':Nat} {ob:HO} (I:Inv X pins σ H s) (mu:Mut (H a)) (hs:Heap.SameBut a s.heap h') (he:∃ q,h'.get? a=some q) (new:ObjOk X.prog X.w (upd H a ob) h' a ob) :
 Inv X pins σ (upd H a ob) { s with heap:=h',toks:=t' }:=
 I.write (x:=a) (e:=a) mu (.inl rfl) (fun b q hb z=>(hs.2 b hb).trans z) he new
theorem dk_new {P:Program} {w:World} {H':Hp} {h':Heap} {kvs:List (Key×V)} {vs:List (Key×Value)} (z:kvs.length≤sizeLine) (hd:(a == sysModules)=false) (rel:KV kvs vs) (dd:h'.DictOf (mixKind P w) a vs) :
 ObjOk P w H' h' a (.dK kvs):=⟨z,hd,vs,rel,dd⟩
theorem d_setItem {H':Hp} {Q:Unit->Shared->Prop} (hu:A.units+1<cLine) (I:Inv X pins σ H s) (g:DPut H a y v H') (ry:RelV y u) (rv:RelV v r) (h:∀ s',Inv X pins σ H' s'->Q () s') :
 wpAny (model X.prog X.w) A (setItem (.ref a) u r) Q E s:=by
 rcases g with ⟨kvs,k,e,ey,l,eH⟩|⟨kvs,k,b,e,ey,eb,l,eH⟩
 ·subst ey eH
  obtain ⟨z,hd,vs,rel,dd⟩:=dk_of I.hok e
  have hz:vs.length≤sizeLine:=by rw [← rel.length];exact z
  have hl:(putK kvs k v).length≤sizeLine:=by have:=length_putK kvs k v;omega
  refine wpAny_setItem_pairs (hsz:=hz) (kV_is ry) dd fun h' dd' hs=>h _ ?_
  have he:∃ q,h'.get? a=some q:=let ⟨q,_,_,hq,_⟩:=dd';⟨q,hq⟩
  exact d_write I (by rw [e];exact True.intro) hs he (dk_new hl hd (rel.put k rv) dd')
 ·subst ey eH
  cases (show u=Value.ref b from ry)
  obtain ⟨z,hd,xs,rel,dd⟩:=dt_of I.hok e
  have hz:xs.length≤sizeLine:=by rw [← Paired.length rel];exact z
  have hl:(putK kvs k v).length≤sizeLine:=by have:=length_putK kvs k v;omega
  refine wpAny_setItem_heap (hsz:=hz) (tupleKind_room_in1 hu) (key_of I.hok eb) dd fun h' dd' hs=>h _ ?_
  obtain ⟨q,es,ep,hq,h2,h3,h4,_,h5⟩:=dd'
  refine d_write I (by rw [e];exact True.intro) hs ⟨q,hq⟩ ⟨hl,hd,_,(rel.put k eb rv).keeps fun c ys ec=>?_,q,es,ep,hq,h2,h3,h4,h5⟩
  rw [upd_ne (ne_of ec e (fun z=>nomatch z))]
  exact ec
end
section
variable {X:Cx} {pins:List (Addr×Obj)} {σ:St} {H:Hp} {s:Shared} {a:Addr} {kvs:List (Key×V)} {k:Key} {u:Value} {A:Around} {E:Value->Shared->Prop}
end
def NoSl (i:Expr):Prop:=∀ ov iv,subscripted i false ov iv=operate [ov,iv] (getItem ov iv)
theorem subD_of {prog:Program} {w:World} {A:Around} {E:Value->Shared->Prop} {s:Shared} {env:Env} {value slice:Expr} {pos:Pos} {T id:String} {Q:Value->Shared->Prop}
 (hl:typeLookup (.type T) "__getitem__" = pure (some (.builtin id))) (hs:NoSl slice)
 (h:wpAny (model prog w) A (eval value env) (fun o s₁=>wpAny (model prog w) A (eval slice env) (fun i s₂=>s₂.TypeIs o T/\wpAny (model prog w) A (getItem o i) Q E s₂) E s₁) E s) :
 wpAny (model prog w) A (eval (.Subscript value slice pos) env) Q E s:=by
 refine Subscript_ (wpAny_mono h (fun o s₁ h₁=>wpAny_mono h₁ (fun i s₂ h₂=>?_) fun _ _ x=>x) fun _ _ x=>x)
 obtain ⟨hT,h₂⟩:=h₂
 unfold subscriptTail
 refine wpAny_bind ?_
 rw [getitemInPython_of_ne hT.not_modules]
 refine wpAny_bind (wpAny_specialOf hT hl ?_)
 have fin:wpAny (model prog w) A (subscripted slice false o i) (fun r s₃=>wpAny (model prog w) A (letTemporaryGo value o r >>= fun _=>pure r) Q E s₃) E s₂:=by
  rw [hs o i]
  exact wpAny_operating (wpAny_mono h₂ (fun r s₃ h₃=>wpAny_bind (wpAny_letTemporaryGo (wpAny_pure h₃))) fun _ _ x=>x)
 first
  |exact wpAny_pure (wpAny_bind fin)
  |exact wpAny_bind (wpAny_pure (wpAny_bind fin))
  |exact wpAny_bind fin
theorem dict_typeIs {X:Cx} {pins:List (Addr×Obj)} {σ:St} {H:Hp} {s:Shared} {a:Addr} {y:V} {o:Option V} (I:Inv X pins σ H s) (g:DGet H a y o):s.TypeIs (.ref a) "dict":=by
 rcases g with ⟨kvs,k,e,_,_⟩|⟨kvs,k,b,e,_,_,_⟩
 ·obtain ⟨_,_,vs,_,dd⟩:=dk_rd I.hok e
  exact dd.typeIs
 ·obtain ⟨_,_,xs,_,dd⟩:=dt_rd I.hok e
  exact dd.typeIs
def tDGet (td ty:TE):TE:=fun σ H Q=>td σ H fun x H1=>ty σ H1 fun y H2=>∃ a v,x=.ref a/\DGet H2 a y (some v)/\Q v H2
def sDPut (td ty tv:TE):TS:=fun D σ H=>tv σ H fun v H1=>td σ H1 fun x H2=>ty σ H2 fun y H3=>∃ a H4,x=.ref a/\DPut H3 a y v H4/\D.nx σ H4
section
variable {X:Cx} {o i e value:Expr} {pos pos' tpos:Pos} {td ty tv:TE}
theorem pe_dget (hu:X.A.units+1<cLine) (ho:PE X o td) (hi:PE X i ty) (hs:NoSl i):PE X (.Subscript o i pos) (tDGet td ty):=by
 intro pins s σ H Q I h
 refine subD_of PySem.F.slot_dict_getitem.lookup hs (thn (ho pins s σ H _ I h) fun u s1 ⟨x,H1,I1,rx,q1⟩=>thn (hi pins s1 σ H1 _ I1 q1) fun iv s2 ⟨y,H2,I2,ry,a,v,ex,g,q2⟩=>?_)
 subst ex
 obtain rfl:u=Value.ref a:=rx
 exact ⟨dict_typeIs I2 g,d_getItem hu I2 g ry fun w' s3 I3 rw'=>⟨v,H2,I3,rw',q2⟩⟩
theorem ps_dput (hu:X.A.units+1<cLine) (ho:PE X o td) (hi:PE X i ty) (hv:PE X value tv) (hs:swapsWith value (some (.Subscript o i pos')) pos.line X.env=pure false) :
 PS X (.Assign [.Subscript o i pos'] value pos) (sDPut td ty tv):=by
 intro pins s σ H D I h
 refine wpAny_Assign_Subscript (thn (hv pins s σ H _ I h) fun r s1 ⟨v,H1,I1,rv,q1⟩=>thn (ho pins s1 σ H1 _ I1 q1) fun u s2 ⟨x,H2,I2,rx,q2⟩=>thn (hi pins s2 σ H2 _ I2 q2) fun iv s3 ⟨y,H3,I3,ry,a,H4,ex,g,q3⟩=>?_) hs
 subst ex
 obtain rfl:u=Value.ref a:=rx
 exact d_setItem hu I3 g ry rv fun s4 I4=>⟨σ,H4,I4,q3⟩
end
theorem dk_empty {P:Program} {w:World} {H:Hp} (h:Heap) (hb:sysModules<h.objs.size):ObjOk P w H (h.push { cls:=.type "dict",data:=.dict #[] }) h.objs.size (.dK []):=
 ⟨Nat.zero_le _,beq_eq_false_iff_ne.mpr (Ne.symm (Nat.ne_of_lt hb)),[],.nil,Heap.DictOf.new h⟩
section
variable {X:Cx} {pos:Pos}
end
def tPairs:List (TE×TE)->St->Hp->(List (V×V)->Hp->Prop)->Prop
 |[],_,H,Q=>Q [] H
 |(tk,tv)::r,σ,H,Q=>tk σ H fun x H1=>tv σ H1 fun y H2=>tPairs r σ H2 fun ps H3=>Q ((x,y)::ps) H3
abbrev VV:List (V×V)->List (Value×Value)->Prop:=Paired fun p q=>RelV p.1 q.1/\RelV p.2 q.2
def PPs (X:Cx) (pos:Pos) (keys:List (Option Expr)) (values:List Expr) (trs:List (TE×TE)):Prop:=
 ∀ (pins:List (Addr×Obj)) (s:Shared) (σ:St) (H:Hp) (Q:List (V×V)->Hp->Prop),Inv X pins σ H s->tPairs trs σ H Q->
   wpAny (model X.prog X.w) X.A (evalPairs (pairTrees keys values X.env pos)) (fun vs s'=>∃ ps H',Inv X pins σ H' s'/\VV ps vs/\Q ps H') X.xe s
theorem pps_nil {X:Cx} {pos:Pos}:PPs X pos [] [] []:=fun pins s σ H Q I h=>pairTrees_nil_walk ⟨[],H,I,.nil,h⟩
theorem pps_cons {X:Cx} {pos:Pos} {k v:Expr} {ks:List (Option Expr)} {vs:List Expr} {tk tv:TE} {trs:List (TE×TE)} (hk:PE X k tk) (hv:PE X v tv) (hr:PPs X pos ks vs trs) :
 PPs X pos (some k::ks) (v::vs) ((tk,tv)::trs):=fun pins s σ H Q I h=>
 pairTrees_cons_walk (thn (hk pins s σ H _ I h) fun u s1 ⟨x,H1,I1,rx,q1⟩=>thn (hv pins s1 σ H1 _ I1 q1) fun w2 s2 ⟨y,H2,I2,ry,q2⟩=>
  thn (hr pins s2 σ H2 _ I2 q2) fun ws s3 ⟨ps,H3,I3,rel,q3⟩=>⟨(x,y)::ps,H3,I3,.cons ⟨rx,ry⟩ rel,q3⟩)
def mergeK (kvs more:List (Key×V)):List (Key×V):=more.foldl (fun acc kv=>putK acc kv.1 kv.2) kvs
theorem KV.merge:∀ {more:List (Key×V)} {rs:List (Key×Value)} {kvs:List (Key×V)} {vs:List (Key×Value)},KV more rs->KV kvs vs->KV (mergeK kvs more) (merged vs rs):=by
 intro more rs kvs vs r
 unfold KV at r
 induction r generalizing kvs vs with
 |nil=>intro q;exact q
 | @cons p q ps qs h t ih=>
   intro r0
   have e:KV (putK kvs p.1 p.2) (stored vs q.1 q.2):=by
    have:=r0.put p.1 h.2
    rw [← h.1];exact this
   exact ih e
theorem length_mergeK:∀ (more kvs:List (Key×V)),(mergeK kvs more).length≤kvs.length+more.length
 |[],kvs=>by show kvs.length≤kvs.length+0;omega
 | p::r,kvs=>by
   have h1:=length_mergeK r (putK kvs p.1 p.2)
   have h2:=length_putK kvs p.1 p.2
   show (mergeK (putK kvs p.1 p.2) r).length≤_
   rw [List.length_cons];omega
theorem carries_of {P:Program} {w:World}:∀ {kvs:List (Key×V)} {ws:List (Value×Value)},VV (kvs.map fun kv=>(kV kv.1,kv.2)) ws->∃ rs,Carries (mixKind P w) ws rs/\KV kvs rs
 |[],_,r=>by rw [List.map_nil] at r;cases r;exact ⟨[],True.intro,.nil⟩
 | p::kvs,_,r=>by
   rw [List.map_cons] at r
   cases r with
   | @cons a b as bs h t=>
     obtain ⟨rs,c,q⟩:=carries_of (P:=P) (w:=w) t
     obtain ⟨b1,b2⟩:=b
     exact ⟨(p.1,b2)::rs,⟨kV_is h.1,rfl,c⟩,.cons ⟨rfl,h.2⟩ q⟩
def tDisp (trs:List (TE×TE)):TE:=fun σ H Q=>∀ p,H p=none->tPairs trs σ (upd H p (.dK [])) fun ps H2=>H2 p=some (.dK [])/\∃ kvs:List (Key×V),ps=kvs.map (fun kv=>(kV kv.1,kv.2))/\kvs.length≤15/\Q (.ref p) (upd H2 p (.dK (mergeK [] kvs)))
theorem pe_disp {X:Cx} {pos:Pos} {keys:List (Option Expr)} {values:List Expr} {trs:List (TE×TE)} (h:PPs X pos keys values trs) (hall:keys.all (·.isSome)=true) (hl:keys.length=values.length) (h0:keys≠[])
 (h15:keys.length≤15):PE X (.Dict keys values pos) (tDisp trs):=by
 intro pins s σ H Q I q
 have hn:=I.hok.fresh (Nat.le_refl s.heap.objs.size)
 have I1:=I.laid (a:=s.heap.objs.size) (o:=.dK []) (h':=s.heap.push { cls:=.type "dict",data:=.dict #[] }) (t':=s.toks) (fun _ _ q=>Heap.get?_push_of_some _ q) (Nat.le_refl _) (dk_empty s.heap I.big)
 refine wpAny_Dict_walk (knd:=mixKind X.prog X.w) hall hl h0 h15 (thn (h pins _ σ _ _ I1 (q _ hn)) fun ws s2 ⟨ps,H2,I2,rel,e,kvs,ep,lk,q2⟩=>?_)
 subst ep
 obtain ⟨rs,c,rk⟩:=carries_of (P:=X.prog) (w:=X.w) rel
 obtain ⟨z,hd,vs0,r0,dd⟩:=dk_of I2.hok e
 cases r0
 refine ⟨rs,c,dd,fun h' dd' hs=>⟨.ref s.heap.objs.size,_,?_,rfl,q2⟩⟩
 have hz:(mergeK [] kvs).length≤sizeLine:=by
  have h1:=length_mergeK kvs []
  rw [List.length_nil] at h1
  rw [sizeLine_eq];omega
 have he:∃ q,h'.get? s.heap.objs.size=some q:=let ⟨q,_,_,hq,_⟩:=dd';⟨q,hq⟩
 exact d_write I2 (by rw [e];exact True.intro) hs he (dk_new hz hd (rk.merge .nil) dd')
section
variable {X:Cx} {pins:List (Addr×Obj)} {σ:St} {H:Hp} {s:Shared} {a:Addr} {y d:V} {u r:Value} {o:Option V} {A:Around} {E:Value->Shared->Prop}
end
section
variable {X:Cx} {o e f:Expr} {apos cpos:Pos} {td ty tx:TE}
end
section
variable {X:Cx} {pins:List (Addr×Obj)} {σ:St} {H:Hp} {s:Shared} {a:Addr} {kvs:List (Key×V)} {A:Around} {E:Value->Shared->Prop}
end
section
variable {X:Cx} {pins:List (Addr×Obj)} {σ:St} {H:Hp} {s:Shared} {a:Addr} {y:V} {u:Value} {A:Around} {E:Value->Shared->Prop}
end
end L2
namespace Att
open PySem PySem.W PySem.Calls PyProof.Rows
theorem ints_of_wellAll {P:Params} {h:Heap}:∀ (ns:List Int) (vs:List Value),WellAll P h vs (ns.map WData.int)->IntsAre vs ns:=by
 intro ns
 induction ns with
 | nil=>
   intro vs w
   rw [List.map_nil] at w
   cases w
   exact .nil
 | cons n ns ih=>
   intro vs w
   rw [List.map_cons] at w
   cases w with
   | cons a b=>
     cases a
     exact .cons _ _ (ih _ b)
theorem script_of {l:OpenLaw} {n:Nat} (hn:l.most=some n) {P:Params} {h:Heap} {args:List WData} {vals:List Value}
 (hpre:l.row.toRowW.claim.pre args=true) (hwl:WellAll P h vals args) :
 ∃ a vs ns,vals=[Value.ref a]/\args=[WData.list (ns.map WData.int)]/\h.get? a=some { cls:=.type "list",data:=.seq vs.toArray }/\IntsAre vs ns/\ns.length≤n:=by
 have hsh:WShape.hasAll [] args [.list .int]=true:=(pre_splitW hpre).1
 have hc:l.pre.holds [] { args:=args }=true:=(pre_splitW hpre).2
 obtain ⟨d,r,rfl,h1,h2⟩:=hasAllW_cons hsh
 obtain rfl:=hasAllW_nil h2
 obtain ⟨xs,rfl,h3⟩:=hasW_list h1
 obtain ⟨ns,rfl⟩:=items_int h3
 have hlen:ns.length≤n:=by
  unfold OpenLaw.pre at hc
  have h4:(WTm.not (.lt (.lit (.int (n:Int))) (.len (.arg 0)))).holds [] { args:=[.list (ns.map .int)] }=true:=by
   have h4:=(holds_andW hc).1
   rw [hn] at h4
   exact h4
  have h5:=condW_of h4 (w_not (w_lt w_lit (w_len_list (w_arg rfl))))
  rw [List.length_map] at h5
  refine Nat.le_of_not_lt fun q=>?_
  have q':(n:Int)<((ns.length:Nat):Int):=by omega
  first
   |(rw [decide_eq_true q'] at h5;exact absurd h5 (by decide))
   |(simp at h5;omega)
 cases hwl with
 | cons w1 w2=>
   cases w2
   cases w1 with
   |list ho hall=>exact ⟨_,_,ns,rfl,rfl,ho,ints_of_wellAll ns _ hall,hlen⟩
theorem post_true (l:OpenLaw) (args:List WData):l.row.toRowW.claim.post args (.bool true) args=true:=
 postW_of (r:=l.row.toRowW) (X:=(true == true))
  (show WShape.has [] (.bool true) .bool=true by first|rfl|decide|simp [WShape.has,WShape.arms,WShape.armsAll])
  (show (WTm.eq .res (.lit (.bool true))).value [] { args:=args,res:=some (.bool true),after:=args }=some (.bool (true == true)) from w_eq_bool (w_res rfl) w_lit) rfl
theorem attach_call {l:OpenLaw} {n:Nat} {q:Program} {loose:List Str} {XP:(Str->Option Value)->Heap->Prop} {YP:World->Heap->Prop} {d:DefRec}
 (hn:l.most=some n) (hdf:d.params.defaults=[])
 (call:∀ (w:World) (s₀ s₁:Shared) (mg mb:Str->Option Value) (fa:Addr) (o:Obj) (pm cd doc:Value) (a:Addr) (vs:List Value) (ns:List Int),
  Ground q loose [] XP w s₀ mg mb s₁.heap->YP w s₁.heap->
  s₁.heap.get? fa=some o->o.data=.func (docDef d.name d.params d.body d.scope pm cd doc)->s₁.heap.CodeRec cd d.name->mg d.name=some (.ref fa)->
  s₁.heap.get? a=some { cls:=.type "list",data:=.seq vs.toArray }->IntsAre vs ns->ns.length≤n->s₁.gens=#[]->
  codeAny (model l.prog w) callerA (.call (.ref fa) ⟨[.ref a],[]⟩) (fun r s'=>r=.ok (.ret (.bool true))/\OldK s₁.heap s'.heap/\s'.os=s₁.os/\AllBare s'.gens) s₁) :
 WalkO q loose XP YP l.row.toRowW d [] (fun f vs=>PySem.call f vs):=by
 intro w s₀ s₁ mg mb G Y fa o pm cd doc dV kV ho hd hcd hD hmg hg args vals as hpre hlay hrd hwl hlo
 obtain rfl:dV=.none:=Dflts.none hD hdf
 obtain rfl:kV=.none:=Dflts.noKw hD
 obtain ⟨a,vs,ns,rfl,rfl,hobj,hints,hlen⟩:=script_of hn hpre hwl
 refine enter_call (codeAny_mono (call w s₀ s₁ mg mb fa o pm cd doc a vs ns G Y ho (fd_plain hd) hcd hmg hobj hints hlen hg) fun r s' hq=>?_)
 obtain ⟨rfl,h2,h3,h4⟩:=hq
 exact ⟨.inl ⟨.bool true,.bool true,[],rfl,fun _=>rfl,.bool true,post_true l _,fun _=>⟨List.Pairwise.nil,fun _ hm=>(nomatch hm)⟩⟩,h2,h3,h4⟩
section
variable {prog:Program} {w:World} {A:Around} {E:Value->Shared->Prop} {s:Shared} {K:Frag}
end
end Att
namespace L2
open PySem PySem.Spec PyProof.Rows
theorem vals_ints:∀ {vs:List Value} {ns:List Int},IntsAre vs ns->Vals (ns.map V.int) vs
 |_,_,.nil=>.nil
 |_,_,.cons n t h=>.cons ⟨t,rfl⟩ (vals_ints h)
def inClass (s:Stmt) (j:Nat):Stmt:=match s with
 |.ClassDef _ _ _ body _ _ _ _ _ _ _=>body.getD j (.Pass ⟨0,0,0,0⟩)
 |_=>.Pass ⟨0,0,0,0⟩
def defArgs (s:Stmt):Arguments:=match s with
 |.FunctionDef _ a _ _ _ _ _ _ _ _=>a
 |_=>{ posonlyargs:=[],args:=[],vararg:=none,kwonlyargs:=[],kw_defaults:=[],kwarg:=none,defaults:=[] }
def defBody (s:Stmt):List Stmt:=match s with
 |.FunctionDef _ _ b _ _ _ _ _ _ _=>b
 |_=>[]
def defScope (s:Stmt):Scope:=match s with
 |.FunctionDef _ _ _ _ _ _ sc _ _ _=>sc
 |_=>{ kind:=.function,names:=[],isGenerator:=false,isCoroutine:=false }
abbrev CX0:CXT:=fun _ _ _ _ _ _=>False
abbrev E0:XK:=fun _ _ _=>False
theorem pass0 {X:Cx}:Passes CX0 X E0:=fun _ _ _ _ _ _ _ h=>h.elim
structure Fun (K:PySem.W.Frag) (x qual:Str) (st:Stmt) (f:Addr) (fd:FuncData):Prop where
 ex:∃ (oc:Value) (od:Option Addr) (kV doc pm:Value) (an:Option Addr) (cdv ct:Value) (osl:Array (Option Value)),
  fd=PySem.W.fnOf x qual (defArgs st) (defBody st) (defScope st) .none kV doc pm an cdv ct/\K.lookup f=some ⟨oc,od,.func fd,osl⟩/\PySem.W.codeIn K cdv qual=true
 kp:PySem.W.keepIn K (.ref f)=true
section
variable {P:Program} {w:World} {K:PySem.W.Frag} {mg:Str->Option Value} {base:Heap}
theorem Fun.ok {x qual:Str} {st:Stmt} {f:Addr} {fd:FuncData} {N ps:List Str} {k:Nat} {sp:Sp} (F:Fun K x qual st f fd) (S:FnScope N ps (defScope st)) (len:∀ vs H Q E,sp vs H Q E->vs.length=ps.length)
 (hbody:∀ (cdv:Value) (A:Around) (outer:List Env) (s:Shared) (H:Hp) (vs:List V) (Q:VK) (E:XK),Room k (A.deeper (envOfC qual (defScope st) s.heap.objs.size f cdv))->sp vs H Q E->
  ∃ t,PSs (cxOf CX0 P w K mg base N qual (defScope st) f cdv A outer s H E).nox (defBody st) t/\t { nx:=fun _ H'=>Q .non H',rt:=Q } (start N vs) H):FnOk P w K mg base CX0 (k+1) f fd ps sp:=by
 obtain ⟨oc,od,kV,doc,pm,an,cdv,ct,osl,rfl,lk,hcd⟩:=F.ex
 refine fn_of lk hcd S len fun A outer s H vs Q E hr hsp=>?_
 obtain ⟨t,h,q⟩:=hbody cdv A outer s H vs Q E hr hsp
 exact ⟨t,h.nox,q⟩
theorem Fun.binds {x qual:Str} {st:Stmt} {f:Addr} {fd:FuncData} {ps:List Str} (F:Fun K x qual st f fd)
 (h:∀ (kV doc pm:Value) (an:Option Addr) (cdv ct:Value) (us:List Value),us.length=ps.length->bindArgs (PySem.W.fnOf x qual (defArgs st) (defBody st) (defScope st) .none kV doc pm an cdv ct) ⟨us,[]⟩=pure (ps.zip us)):Binds K fd ps []:=by
 obtain ⟨oc,od,kV,doc,pm,an,cdv,ct,osl,rfl,lk,hcd⟩:=F.ex
 exact .all (h kV doc pm an cdv ct)
theorem fun_mk {x qual:Str} {st:Stmt} {f:Addr} {oc:Value} {od an:Option Addr} {osl:Array (Option Value)} {kV doc pm cdv ct:Value} (l:K.lookup f=some ⟨oc,od,.func (PySem.W.fnOf x qual (defArgs st) (defBody st) (defScope st) .none kV doc pm an cdv ct),osl⟩)
 (c:PySem.W.codeIn K cdv qual=true) (k:PySem.W.keepIn K (.ref f)=true):Fun K x qual st f (PySem.W.fnOf x qual (defArgs st) (defBody st) (defScope st) .none kV doc pm an cdv ct):=⟨⟨oc,od,kV,doc,pm,an,cdv,ct,osl,rfl,l,c⟩,k⟩
end
theorem hu_of {A:Around} {k:Nat} (hr:Room k A):A.units+1<cLine:=Nat.lt_of_le_of_lt (Nat.add_le_add_left (by decide:1≤64) _) hr.units
theorem small1000 {n:Nat} (h:n≤1000):n<sizeLine:=Nat.lt_of_le_of_lt h (by decide)
section
variable {X:Cx}
theorem pv (i:Nat) {x:Str} {pos:Pos} (hN:X.N[i]?=some x:=by rfl) (hv:Vis X.env.scope x:=by first|exact Or.inl rfl|exact Or.inr (Or.inl rfl)|exact Or.inr (Or.inr rfl)) (hd:(x == ("__debug__" : Str))=false:=by decide)
 (hcd:(x == ("__classdict__" : Str))=false:=by decide):PE X (.Name x pos) (tVar i):=pe_var hN hv hd hcd
end
theorem ite2 {c A B:Prop} [Decidable c] (h1:c->A) (h2:¬ c->B):if c then A else B:=by
 by_cases h:c
 ·rw [if_pos h]
  exact h1 h
 ·rw [if_neg h]
  exact h2 h
def Same (H H':Hp):Prop:=∀ b o,H b=some o->H' b=some o
theorem Same.refl (H:Hp):Same H H:=fun _ _ h=>h
theorem Same.trans {H H1 H2:Hp} (a:Same H H1) (b:Same H1 H2):Same H H2:=fun c o h=>b c o (a c o h)
theorem Same.free {H H':Hp} (e:Same H H') {l:Addr} (h:H' l=Option.none):H l=Option.none:=by
 cases q:H l with
 |none=>rfl
 | some o=>
   rw [e l o q] at h
   cases h
theorem Same.seq {K:PySem.W.Frag} {H H':Hp} {a:Addr} {xs:List V} (e:Same H H') (h:SqL K H a xs):SqL K H' a xs:=by
 rcases h with (h|⟨o,h⟩)|h
 ·exact .inl (.inl (e _ _ h))
 ·exact .inl (.inr ⟨o,e _ _ h⟩)
 ·exact .inr h
section
variable {X:Cx}
end
section
variable {κ:Type} [DecidableEq κ]
end
theorem closure_ok {env:Env} (scope:Scope) (h:∀ y∈scope.names,y.2=.free->∃ c,env.cells.lookup y.1=some c) :
 ∃ cl,closureFor scope env=pure cl/\(∀ x c,cl.lookup x=some c->env.cells.lookup x=some c)/\∀ x,(x,NameKind.free)∈scope.names->∃ c,cl.lookup x=some c:=by
 have go:∀ (names:List (Str×NameKind)) (acc:List (Str×Addr)),(∀ y∈names,y.2=.free->∃ c,env.cells.lookup y.1=some c)->(∀ x c,acc.lookup x=some c->env.cells.lookup x=some c)->
  ∃ cl,(forIn names acc fun x cs=>(match x with
    |(name,kind)=>if kind == NameKind.free then (do let c ← cellOf env name;pure (ForInStep.yield ((name,c)::cs))) else pure (ForInStep.yield cs):Sem (ForInStep (List (Str×Addr)))))=pure cl/\
    (∀ x c,cl.lookup x=some c->env.cells.lookup x=some c)/\(∀ x,(x,NameKind.free)∈names∨(∃ c,acc.lookup x=some c)->∃ c,cl.lookup x=some c):=by
  intro names
  induction names with
  |nil=>intro acc _ ha;exact ⟨acc,rfl,ha,fun x z=>z.elim (fun q=>nomatch q) id⟩
  | cons y r ih=>
    intro acc hy ha
    obtain ⟨n,k⟩:=y
    by_cases hk:k=.free
    ·subst hk
     obtain ⟨c,hc⟩:=hy (n,.free) List.mem_cons_self rfl
     obtain ⟨cl,e,h1,h2⟩:=ih ((n,c)::acc) (fun z hz=>hy z (List.mem_cons_of_mem _ hz)) (fun x c' hx=>by
      rw [List.lookup_cons] at hx
      by_cases q:x == n
      ·rw [q] at hx
       cases hx
       rw [beq_iff_eq.mp q];exact hc
      ·rw [Bool.not_eq_true] at q
       rw [q] at hx
       exact ha x c' hx)
     refine ⟨cl,?_,h1,fun x z=>h2 x ?_⟩
     ·rw [List.forIn_cons]
      simp only [beq_self_eq_true,if_true,cellOf,hc]
      exact e
     ·have aux:∀ x,(∃ c',acc.lookup x=some c')->∃ c',((n,c)::acc).lookup x=some c':=fun x ⟨c',z⟩=>by
       rw [List.lookup_cons]
       by_cases q:x == n
       ·rw [q];exact ⟨_,rfl⟩
       ·rw [Bool.not_eq_true] at q
        rw [q];exact ⟨c',z⟩
      rcases z with z|z
      ·rcases List.mem_cons.mp z with z|z
       ·cases z
        exact .inr ⟨c,by rw [List.lookup_cons,beq_self_eq_true]⟩
       ·exact .inl z
      ·exact .inr (aux x z)
    ·have hb:(k == NameKind.free)=false:=by simpa using hk
     obtain ⟨cl,e,h1,h2⟩:=ih acc (fun z hz=>hy z (List.mem_cons_of_mem _ hz)) ha
     refine ⟨cl,?_,h1,fun x z=>h2 x ?_⟩
     ·rw [List.forIn_cons]
      simp only [hb,Bool.false_eq_true,if_false]
      exact e
     ·rcases z with z|z
      ·rcases List.mem_cons.mp z with z|z
       ·cases z
        exact absurd rfl hk
       ·exact .inl z
      ·exact .inr z
 obtain ⟨cl,e,h1,h2⟩:=go scope.names [] h (fun x c z=>by simp at z)
 refine ⟨cl,?_,h1,fun x z=>h2 x (.inl z)⟩
 unfold closureFor
 exact (congrArg (fun (m:Sem (List (Str×Addr)))=>m >>= fun cs=>pure cs) e).trans rfl
def cxComp (X:Cx) (scope:Scope) (N':List Str) (cl:List (Str×Addr)) (C:Addr) (s₀:Shared) (H₀:Hp) (ex:List Addr):Cx where
 prog:=X.prog
 w:=X.w
 K:=X.K
 mg:=X.mg
 base:=X.base
 A:=X.A
 N:=N'
 s₀:=s₀
 H₀:=H₀
 env:=compEnvC scope cl C X.env
 outer:=X.stack
 stack:=X.stack
 ex:=ex
 fn:=fun _=>false
 calm:=X.calm
 pn:=[]
 xe:=fun _ _=>False
def compSt (k:Nat) (js:List Nat) (σ:St):St:=List.replicate k none++js.map fun j=>(σ[j]?).join
theorem compSt_len (k:Nat) (js:List Nat) (σ:St):(compSt k js σ).length=k+js.length:=by simp [compSt]
structure CompScope (X:Cx) (scope:Scope) (own:List Str) (js:List Nat) (N':List Str):Prop where
 kind:scope.kind=.function
 nocell:∀ y∈scope.names,y.2≠.cell
 names:∀ y∈scope.names,y.2=.local->scope.names.lookup y.1=some .local
 free:∀ y∈scope.names,y.2=.free->X.env.kindOf y.1=some .cell∨X.env.kindOf y.1=some .free
 nm:N'=own++js.map fun j=>X.N.getD j Str.empty
 fr:∀ j∈js,j<X.N.length/\(X.N.getD j Str.empty,NameKind.free)∈scope.names/\∀ k,(X.N.getD j Str.empty,k)∈scope.names->k=.free
theorem lookup_mem_free {names:List (Str×NameKind)} {x:Str} (h:(x,NameKind.free)∈names) (u:∀ k,(x,k)∈names->k=.free):names.lookup x=some .free:=by
 induction names with
 |nil=>cases h
 | cons y r ih=>
   obtain ⟨n,k⟩:=y
   rw [List.lookup_cons]
   by_cases q:x == n
   ·rw [q]
    have e:x=n:=beq_iff_eq.mp q
    subst e
    rw [u k List.mem_cons_self]
   ·rw [Bool.not_eq_true] at q
    rw [q]
    refine ih ?_ fun k hk=>u k (List.mem_cons_of_mem _ hk)
    rcases List.mem_cons.mp h with z|z
    ·cases z
     rw [beq_self_eq_true] at q;cases q
    ·exact z
theorem relabel_mem {scope:Scope} {env:Env} {x:Str} {k:NameKind} (h:(x,k)∈(relabel scope env).names) (hk:k=.cell∨k=.free) (hc:∀ y∈scope.names,y.2≠.cell):(x,NameKind.free)∈scope.names:=by
 unfold relabel at h
 obtain ⟨⟨n,k'⟩,hm,e⟩:=List.mem_map.mp h
 dsimp only at e
 by_cases q:(k' == NameKind.free && env.scope.kind == .function && env.kindOf n == some .cell)=true
 ·rw [if_pos q] at e
  cases e
  rw [Bool.and_eq_true,Bool.and_eq_true] at q
  have:k'=.free:=by simpa using q.1.1
  rw [← this];exact hm
 ·rw [if_neg q] at e
  cases e
  rcases hk with z|z
  ·exact absurd z (hc _ hm)
  ·rw [← z];exact hm
theorem lookup_relabel_free {env:Env} {x:Str}:∀ {names:List (Str×NameKind)},names.lookup x=some .free->
 (names.map fun (n,k)=>if (k == NameKind.free && env.scope.kind == .function && env.kindOf n == some .cell) then (n,NameKind.cell) else (n,k)).lookup x=some .cell∨
 (names.map fun (n,k)=>if (k == NameKind.free && env.scope.kind == .function && env.kindOf n == some .cell) then (n,NameKind.cell) else (n,k)).lookup x=some .free
 |[],h=>by simp at h
 | (n,k)::r,h=>by
   have ih:=@lookup_relabel_free env x r
   rw [List.lookup_cons] at h
   rw [List.map_cons]
   dsimp only
   by_cases q:x == n
   ·rw [q] at h
    cases h
    by_cases c:(NameKind.free == NameKind.free && env.scope.kind == .function && env.kindOf n == some .cell)=true
    ·rw [if_pos c,List.lookup_cons,q];exact .inl rfl
    ·rw [if_neg c,List.lookup_cons,q];exact .inr rfl
   ·rw [Bool.not_eq_true] at q
    rw [q] at h
    by_cases c:(k == NameKind.free && env.scope.kind == .function && env.kindOf n == some .cell)=true
    ·rw [if_pos c,List.lookup_cons,q];exact ih h
    ·rw [if_neg c,List.lookup_cons,q];exact ih h
section
variable {X:Cx} {pins:List (Addr×Obj)} {σ:St} {H:Hp} {s:Shared}
theorem Inv.comp {scope:Scope} {own:List Str} {js:List Nat} {N':List Str} {cl:List (Str×Addr)} {C:Addr} {h₁:Heap} {tk:Nat} {fp:List Addr} {m:Str->Option Value} (S:CompScope X scope own js N') (I:Inv X pins σ H s)
 (hc1:∀ x c,cl.lookup x=some c->X.env.cells.lookup x=some c) (hc2:∀ x,(x,NameKind.free)∈scope.names->∃ c,cl.lookup x=some c) (hC:s.heap.objs.size≤C) (hns:h₁.Ns C m) (hk:∀ b o,s.heap.get? b=some o->h₁.get? b=some o)
 (hf:∀ b∈fp,FpOk X pins H b/\b<s.heap.objs.size) (hHC:H C=none) (hfree:∀ b o,s.heap.get? b=some o->b≠C) :
 Inv (cxComp X scope N' cl C s H fp) [] (compSt own.length js σ) H { s with heap:=h₁,toks:=tk }:=by
 have ltx:∀ b o,X.s₀.heap.get? b=some o->b∉X.ex->b∉fp:=fun b o e hx hb=>by
  rcases (hf b hb).1.2.2.2.1 with z|z
  ·exact hx z
  ·exact absurd (Nat.lt_of_lt_of_le (Heap.lt_size e) z) (Nat.lt_irrefl _)
 refine ⟨⟨I.ok.mod,S.kind,I.ok.glob,I.ok.blt,hC,fun x y c h1 h2=>I.ok.inj x y c (hc1 x c h1) (hc1 y c h2),fun x hx=>?_,fun x c z=>(nomatch z),I.ok.hd,I.ok.frames,.inl rfl,fun b hb=>⟨Nat.ne_of_lt (Nat.lt_of_lt_of_le (hf b hb).2 hC),fun x c e=>(hf b hb).1.2.2.2.2.1 x c (hc1 x c e)⟩,I.bs,Nat.le_trans I.ok.bsz I.sz,fun b o e=>ltx b o (I.ok.bs b o e).1 (I.ok.noex b o e),fun b hb z=>?_,I.stack,I.stkFree⟩,
  rfl,I.bare,Un.kept hk,⟨m,hns,fun i x v e1 e2 e3=>?_⟩,fun x c e=>?_,hHC,fun x c e=>I.freeC x c (hc1 x c e),fun p hp=>absurd (show p∈([]:List (Addr×Obj)) from hp) (by simp),I.hok.kept hk,?_⟩
 ·have hx':(relabel scope X.env).names.lookup x=some .cell∨(relabel scope X.env).names.lookup x=some .free:=hx
  rcases hx' with z|z
  ·exact hc2 x (relabel_mem (PySem.mem_of_lookup z) (.inl rfl) S.nocell)
  ·exact hc2 x (relabel_mem (PySem.mem_of_lookup z) (.inr rfl) S.nocell)
 ·obtain ⟨_,f1,f2,_⟩:=(hf b hb).1
  rcases List.mem_cons.mp (I.stkSub b z) with q|q
  ·exact f1 q
  ·exact f2 q
 ·
  unfold compSt at e2
  by_cases hi:i<own.length
  ·rw [List.getElem?_append_left (by simpa using hi),List.getElem?_replicate] at e2
   split at e2 <;> cases e2
  ·rw [List.getElem?_append_right (by simpa using hi),List.length_replicate,List.getElem?_map] at e2
   cases ej:js[i-own.length]? with
   |none=>rw [ej] at e2;cases e2
   | some j=>
     rw [ej] at e2
     have e2':(σ[j]?).join=some v:=by simpa using e2
     have hσ:σ[j]?=some (some v):=by
      cases q:σ[j]? with
      |none=>rw [q] at e2';cases e2'
      |some o=>rw [q] at e2';exact congrArg some e2'
     have hj:=S.fr j (List.mem_of_getElem? ej)
     have hx:x=X.N.getD j Str.empty:=by
      have e1':N'[i]?=some x:=e1
      rw [S.nm,List.getElem?_append_right (by omega),List.getElem?_map,ej] at e1'
      exact (Option.some.inj e1').symm
     have hN:X.N[j]?=some x:=by
      rw [hx,List.getD_eq_getElem?_getD,List.getElem?_eq_getElem hj.1];rfl
     have hfr:scope.names.lookup x=some .free:=by rw [hx];exact lookup_mem_free hj.2.1 hj.2.2
     have hkx:=S.free (x,.free) (by rw [hx];exact hj.2.1) rfl
     have hvis:Vis X.env.scope x:=hkx.elim (fun z=>.inr (.inl z)) fun z=>.inr (.inr z)
     obtain ⟨mX,hnX,hlX⟩:=I.loc
     obtain ⟨u,r,l⟩:=hlX j x v hN hσ hvis
     refine ⟨u,r,.inr ⟨lookup_relabel_free hfr,?_⟩⟩
     rcases l with ⟨z,_⟩|⟨_,c,hc,hcell⟩
     ·rcases hkx with q|q
      ·have:=q.symm.trans z;cases this
      ·have:=q.symm.trans z;cases this
     ·obtain ⟨c',hc'⟩:=hc2 x (by rw [hx];exact hj.2.1)
      have:c'=c:=Option.some.inj ((hc1 x c' hc').symm.trans hc)
      subst this
      obtain ⟨o,ho,hd⟩:=hcell
      exact ⟨c',hc',o,hk _ _ ho,hd⟩
 ·obtain ⟨v,o,ho,hd⟩:=I.cell x c (hc1 x c e)
  exact ⟨v,o,hk _ _ ho,hd⟩
 ·rw [compSt_len]
  show _=N'.length
  rw [S.nm];simp
end
def PIfs (Y:Cx) (ifs:List Expr) (t:TT):Prop:=
 ∀ (pins:List (Addr×Obj)) (s:Shared) (σ:St) (H:Hp) (Q:Bool->Hp->Prop),Inv Y pins σ H s->t σ H Q->
   wpAny (model Y.prog Y.w) Y.A (forIn ifs true fun c r=>if r=true then do let ok ← isTrue c Y.env (eval c Y.env);pure (ForInStep.yield ok) else pure (ForInStep.yield r)) (TP Y pins σ Q) Y.xe s
def tYes:TT:=fun _ H Q=>Q true H
theorem pifs_nil {Y:Cx}:PIfs Y [] tYes:=fun _ _ _ H _ I h=>wpAny_tests_nil ⟨H,I,h⟩
theorem pifs_one {Y:Cx} {c:Expr} {t:TT} (h:PT Y c t):PIfs Y [c] t:=fun pins s σ H Q I hw=>wpAny_tests_one (h pins s σ H Q I hw)
abbrev accObj (us:List Value) (k:Nat):Obj:={ cls:=.type "list",data:=.seq us.toArray k }
def CTurn (J:It) (g:TG) (tt:TT) (te:TE) (F:List V->Hp->Prop) (W:Nat->Nat->List V->St->Hp->Prop):Prop:=
 ∀ i m ys σ H,W i m ys σ H->(J.stop i H/\F ys H)∨(J.go i H/\ys.length<sizeLine/\∀ x H1,J.yld i H x H1->g x σ H1 fun σ2 H2=>tt σ2 H2 fun b H3=>
   if b=true then te σ2 H3 fun y H4=>∃ m',m'<m/\W (i+1) m' (ys++[y]) σ2 H4 else ∃ m',m'<m/\W (i+1) m' ys σ2 H3)
theorem comp_loop {X:Cx} {scope:Scope} {N':List Str} {cl:List (Str×Addr)} {C acc it:Addr} {s₂:Shared} {H₂:Hp} {fp:List Addr} {tn:Nat->Heap->Prop} {J:It} {g:TG} {tt:TT} {te:TE} {F:List V->Hp->Prop}
 {elt tg iter:Expr} {ifs:List Expr} {pos:Pos} {R:Result->Shared->Prop} (W:Nat->Nat->List V->St->Hp->Prop) (turn:CTurn J g tt te F W) (T:Turn X.prog X.w X.K tg J fp it tn)
 (hg:PG (cxComp X scope N' cl C s₂ H₂ fp) tg g) (hc:PIfs (cxComp X scope N' cl C s₂ H₂ fp) ifs tt) (he:PE (cxComp X scope N' cl C s₂ H₂ fp) elt te) (hcalm:X.calm=true)
 (hfp:∀ b∈fp,b≠C/\b∉frs X.stack/\(∀ x c,cl.lookup x=some c->c≠b)/\b≠acc) (hacc:acc≠C/\acc∉frs X.stack/\(∀ x c,cl.lookup x=some c->c≠acc)/\s₂.heap.objs.size≤acc)
 (hR:∀ s' σ' H' ys us k,Inv (cxComp X scope N' cl C s₂ H₂ fp) [(acc,accObj us k)] σ' H' s'->Vals ys us->F ys H'->R (.ok .next) s')
 {s:Shared} {σ:St} {H:Hp} {m:Nat} (I:Inv (cxComp X scope N' cl C s₂ H₂ fp) [(acc,accObj [] 0)] σ H s) (st:tn 0 s.heap) (fr:∀ b∈fp,H b=none) (w0:W 0 m [] σ H) :
 codeAny (model X.prog X.w) X.A (.compLoop (.ListComp elt [⟨tg,iter,ifs,0⟩] scope pos) 0 (.ref it) (.ref acc) (compEnvC scope cl C X.env)) R s:=by
 refine codeAny_loop rfl (fun n s'=>∃ i ys us k σ' H',Vals ys us/\Inv (cxComp X scope N' cl C s₂ H₂ fp) [(acc,accObj us k)] σ' H' s'/\tn i s'.heap/\(∀ b∈fp,H' b=none)/\W i n ys σ' H') (fun n s3 hI=>?_) m ⟨0,[],[],0,σ,H,.nil,I,st,fr,w0⟩
 obtain ⟨i,ys,us,k,σ3,H3,rv,I3,st3,fr3,w3⟩:=hI
 show wpAny _ X.A ((compTurn (.ListComp elt [⟨tg,iter,ifs,0⟩] scope pos) 0 (.ref it) (.ref acc) (compEnvC scope cl C X.env)).onRaise (fun x=>do noteFrame x (compEnvC scope cl C X.env);theTreesLotGoes x)) _ _ s3
 refine wpAny_noted ?_
 rw [compTurn_list]
 have fpk:∀ {pins:List (Addr×Obj)} {H':Hp},(∀ p∈pins,p.1=acc∨p.1∈([]:List Addr))->(∀ b∈fp,H' b=none)->∀ b∈fp,FpOk (cxComp X scope N' cl C s₂ H₂ fp) pins H' b:=fun hp hn b hb=>
  ⟨hn b hb,(hfp b hb).1,(hfp b hb).2.1,.inl hb,(hfp b hb).2.2.1,fun p hp'=>by
   have hp'':p∈([]:List (Addr×Obj))++_:=hp'
   rcases hp p (by simpa using hp'') with z|z
   ·rw [z];exact Ne.symm (hfp b hb).2.2.2
   ·exact (nomatch z)⟩
 have fp1:=fpk (pins:=[(acc,accObj us k)]) (fun p hp=>.inl (by simp at hp;rw [hp])) fr3
 refine wpAny_bind (wpAny_standAt (wpAny_bind ?_))
 rcases turn i n ys σ3 H3 w3 with ⟨stop,qn⟩|⟨go,hz,step⟩
 ·refine wpAny_mono (T.done (cxComp X scope N' cl C s₂ H₂ fp) rfl rfl rfl hcalm i _ s3 σ3 H3 (fun _ _=>False) I3 fp1 st3 stop) (fun r s4 ⟨hr,I4⟩=>?_) (fun _ _ z=>z.elim)
  subst hr
  exact wpAny_pure (hR s4 σ3 H3 ys us k I4 rv qn)
 ·refine wpAny_mono (T.item (cxComp X scope N' cl C s₂ H₂ fp) rfl rfl rfl hcalm i _ s3 σ3 H3 (fun _ _=>False) I3 fp1 st3 go) (fun r s4 ⟨u,hr,h4⟩=>?_) (fun _ _ z=>z.elim)
  subst hr
  refine wpAny_bind (wpAny_mono h4 (fun _ s5 ⟨x,H5,I5,r5,y5,st5,fr5⟩=>?_) (fun _ _ z=>z.elim))
  have fp5:=fpk (pins:=[(acc,accObj us k)]) (fun p hp=>.inl (by simp at hp;rw [hp])) fr5
  have I5':=I5.pinned fp5 (T.obj _ _ st5)
  refine wpAny_bind (wpAny_mono (hg _ s5 σ3 H5 x u _ I5' r5 (step x H5 y5)) (fun _ s6 ⟨σ6,H6,I6,q6⟩=>?_) (fun _ _ z=>z.elim))
  refine wpAny_bind (wpAny_mono (hc _ s6 σ6 H6 _ I6 q6) (fun ok s7 ⟨H7,I7,q7⟩=>?_) (fun _ _ z=>z.elim))
  have again:∀ {s8:Shared} {σ8:St} {H8:Hp} {us8:List Value} {k8:Nat} {ys8:List V},Inv (cxComp X scope N' cl C s₂ H₂ fp) ([(acc,accObj us k)]++pinsAt fp s5.heap) σ8 H8 s8->tn (i+1) s8.heap/\∀ b∈fp,H8 b=none:=fun {s8 σ8 H8 us8 k8 ys8} I8=>
   ⟨T.keep _ _ _ st5 fun b hb o e=>(I8.pin (b,o) (List.mem_append_right _ (List.mem_append_right _ (mem_pinsAt hb e)))).1,fun b hb=>by
    obtain ⟨o,e,d⟩:=T.obj _ _ st5 b hb
    exact (I8.pin (b,o) (List.mem_append_right _ (List.mem_append_right _ (mem_pinsAt hb e)))).2.1⟩
  cases ok with
  | false=>
    rw [if_neg Bool.false_ne_true] at q7
    obtain ⟨m',hm,w7⟩:=q7
    obtain ⟨t1,t2⟩:=again (us8:=us) (k8:=k) (ys8:=ys) I7
    exact wpAny_pure ⟨rfl,m',hm,i+1,ys,us,k,σ6,H7,rv,I7.unpinned,t1,t2,w7⟩
  | true=>
    rw [if_pos rfl] at q7
    refine wpAny_bind (wpAny_bind (wpAny_mono (he _ s7 σ6 H7 _ I7 q7) (fun y s8 ⟨yv,H8,I8,r8,m',hm,w8⟩=>?_) (fun _ _ z=>z.elim)))
    obtain ⟨t1,t2⟩:=again (us8:=us) (k8:=k) (ys8:=ys) I8
    obtain ⟨e8,n8,l8,f8,d8⟩:=I8.pin (acc,accObj us k) (List.mem_append_right _ (List.mem_append_left _ List.mem_cons_self))
    have hlen:=rv.length
    have hz':us.toArray.size≤sizeLine:=by rw [List.size_toArray];omega
    refine wpAny_bind (call_meets PySem.F.slot_list_append ⟨_,e8,rfl⟩ PySem.F.entry_list_append (PySem.F.args_list_append_2 _ _) (PySem.list_append acc us.toArray k y hz') ⟨e8,?_⟩)
    have q:=PySem.IsL.update e8 (fun z=>z.push y)
    have I9:Inv (cxComp X scope N' cl C s₂ H₂ fp) [] σ6 H8 s8:=I8.pins_of fun p hp=>(nomatch hp)
    have I10:=I9.turned (t':=s8.toks) (it:=acc) (h':=s8.heap.update acc (Obj.mapSeq fun z=>z.push y)) (fun b o hb e=>(Heap.get?_update_other s8.heap _ (Ne.symm hb)).trans e) n8 hacc.1 (.inr hacc.2.2.2) hacc.2.2.1 (fun p hp=>(nomatch hp))
    have e':(us.toArray.push y)=(us++[y]).toArray:=by simp
    rw [e'] at q
    obtain ⟨k9,ek⟩:∃ k9,k9=(if ((us++[y]).toArray.size == us.toArray.size)=true then k else k+1):=⟨_,rfl⟩
    rw [← ek] at q
    have I11:=I10.pins_of (pins':=[(acc,accObj (us++[y]) k9)]) fun p hp=>by
     obtain rfl:p=(acc,accObj (us++[y]) k9):=by simpa using hp
     exact ⟨q,n8,hacc.1,hacc.2.1,fun v z=>by cases z⟩
    refine wpAny_pure (wpAny_pure ⟨rfl,m',hm,i+1,ys++[yv],us++[y],k9,σ6,H8,rv.append (.cons r8 .nil),I11,T.keep _ _ _ t1 fun b hb o e=>?_,t2,w8⟩)
    exact (Heap.get?_update_other s8.heap _ (hfp b hb).2.2.2.symm).trans e
def tComp (wi:TI) (g:TG) (tt:TT) (te:TE) (k:Nat) (js:List Nat):TE:=fun σ H Q=>wi σ H fun J H1=>∃ W:Nat->Nat->List V->St->Hp->Prop,(∃ m,W 0 m [] (compSt k js σ) H1)/\
 CTurn J g tt te (fun ys H2=>ys.length≤sizeLine/\∀ p,H2 p=none->Q (.ref p) (upd H2 p (.lst ys))) W
section
variable {X:Cx} {scope:Scope} {own:List Str} {js:List Nat} {N':List Str} {wi:TI} {g:TG} {tt:TT} {te:TE} {elt tg iter:Expr} {ifs:List Expr} {pos:Pos}
theorem comp_run {pins:List (Addr×Obj)} {σ:St} {H:Hp} {s:Shared} {it:Addr} {fp:List Addr} {tn:Nat->Heap->Prop} {J:It} {cl:List (Str×Addr)} {F:List V->Hp->Prop} {E:Value->Shared->Prop} {RR:Value->Addr->Result->Shared->Prop}
 (S:CompScope X scope own js N') (hcalm:X.calm=true) (hg:∀ cl C s₀ H₀ ex,PG (cxComp X scope N' cl C s₀ H₀ ex) tg g) (hc:∀ cl C s₀ H₀ ex,PIfs (cxComp X scope N' cl C s₀ H₀ ex) ifs tt) (he:∀ cl C s₀ H₀ ex,PE (cxComp X scope N' cl C s₀ H₀ ex) elt te)
 (hc1:∀ x c,cl.lookup x=some c->X.env.cells.lookup x=some c) (hc2:∀ x,(x,NameKind.free)∈scope.names->∃ c,cl.lookup x=some c)
 (I:Inv X pins σ H s) (T:Turn X.prog X.w X.K tg J fp it tn) (st:tn 0 s.heap) (hf:∀ b∈fp,FpOk X pins H b) (W:Nat->Nat->List V->St->Hp->Prop) {m0:Nat} (w0:W 0 m0 [] (compSt own.length js σ) H) (turn:CTurn J g tt te F W)
 (hF:∀ ys H',F ys H'->ys.length≤sizeLine)
 (fin:∀ acc C H' ys s' m,Inv X pins σ (upd H' acc (.lst ys)) s'->H' acc=none->s'.heap.Ns C m->(upd H' acc (.lst ys)) C=none->C≠X.env.locals->X.s₀.heap.objs.size≤C->(∀ x c,X.env.cells.lookup x=some c->c≠C)->(∀ p∈X.pn++pins,p.1≠C)->F ys H'->RR (.ref acc) C (.ok .next) s') :
 wpAny (model X.prog X.w) X.A (newList []) (fun acc s₃=>wpAny (model X.prog X.w) X.A (newFunctionEnv scope X.env.globals cl [] X.env.qual none .none (some X.env)) (fun cenv s₄=>
  codeAny (model X.prog X.w) X.A (.compStart (.ListComp elt [⟨tg,iter,ifs,0⟩] scope pos) 0 (.ref it) acc { cenv with scope:=relabel scope X.env }) (RR acc cenv.locals) s₄) E s₃) E s:=by
 refine wpAny_newObj_type (wpAny_newFunctionEnv S.nocell (by intro y hy;simp at hy) (fun h₁ hns₁ hsb₁=>?_) S.kind)
 dsimp only at hns₁ hsb₁ ⊢
 generalize hH2:s.heap.push { cls:=.type "list",dict:=none,data:=.seq ([]:List Value).toArray }=H2 at hns₁ hsb₁ ⊢
 have hC:H2.objs.size=s.heap.objs.size+1:=by rw [← hH2,Heap.size_push]
 have hDC:s.heap.objs.size≠H2.objs.size:=by rw [hC];exact Nat.ne_of_lt (Nat.lt_succ_self _)
 have hCle:s.heap.objs.size≤H2.objs.size:=by rw [hC];exact Nat.le_succ _
 have below:∀ b,b<s.heap.objs.size->b≠H2.objs.size/\b≠s.heap.objs.size:=fun b hb=>⟨by rw [hC];exact Nat.ne_of_lt (Nat.lt_succ_of_lt hb),Nat.ne_of_lt hb⟩
 have old:∀ b o,s.heap.get? b=some o->h₁.get? b=some o:=fun b o e=>hsb₁.extBut b o (below b (Heap.lt_size e)).1 (Heap.get?_push_of_some _ (hH2 ▸ Heap.get?_push_of_some _ e))
 have hacc:h₁.get? s.heap.objs.size=some (accObj [] 0):=hsb₁.extBut _ _ hDC (Heap.get?_push_of_some _ (hH2 ▸ Heap.get?_push_size _ rfl))
 generalize hCn:H2.objs.size=C at *
 generalize hAn:s.heap.objs.size=acc at *
 have cellLt:∀ x c,X.env.cells.lookup x=some c->c<acc:=fun x c e=>by
  obtain ⟨v,q⟩:=I.cell x c e
  rw [← hAn];exact q.lt
 have pinLt:∀ p∈X.pn++pins,p.1<acc:=fun p hp=>by rw [← hAn];exact Heap.lt_size (I.pin p hp).1
 have stkLt:∀ b∈frs X.stack,b<acc:=fun b hb=>by
  obtain ⟨_,o,ho,_⟩:=I.stack.mem hb
  rw [← hAn];exact Heap.lt_size ho
 have fpLt:∀ b∈fp,b<acc:=fun b hb=>by
  obtain ⟨o,e,_⟩:=T.obj _ _ st b hb
  rw [← hAn];exact Heap.lt_size e
 have hHC:H C=none:=I.hok.fresh (by rw [hAn];exact hCle)
 have hHA:H acc=none:=I.hok.fresh (by rw [hAn];exact Nat.le_refl _)
 have I1:Inv (cxComp X scope N' cl C s H fp) [] (compSt own.length js σ) H { s with heap:=h₁,toks:=s.toks+([]:List (Str×Value)).length }:=
  Inv.comp S I hc1 hc2 (by rw [hAn];exact hCle) hns₁ old (fun b hb=>⟨hf b hb,by rw [hAn];exact fpLt b hb⟩) hHC fun b o e=>(below b (by rw [← hAn];exact Heap.lt_size e)).1
 have I2:Inv (cxComp X scope N' cl C s H fp) [(acc,accObj [] 0)] (compSt own.length js σ) H { s with heap:=h₁,toks:=s.toks+([]:List (Str×Value)).length }:=I1.pins_of fun p hp=>by
  obtain rfl:p=(acc,accObj [] 0):=by simpa using hp
  exact ⟨hacc,hHA,hDC,fun z=>absurd (stkLt acc z) (Nat.lt_irrefl _),fun v z=>by cases z⟩
 have st1:tn 0 h₁:=T.keep _ _ _ st fun b hb o e=>old b o e
 have loop:∀ s₃:Shared,s₃={ s with heap:=h₁,toks:=s.toks+([]:List (Str×Value)).length }->
  codeAny (model X.prog X.w) X.A (.compLoop (.ListComp elt [⟨tg,iter,ifs,0⟩] scope pos) 0 (.ref it) (.ref acc) (compEnvC scope cl C X.env)) (RR (.ref acc) C) s₃:=by
  rintro s₃ rfl
  refine comp_loop W turn T (hg _ _ _ _ _) (hc _ _ _ _ _) (he _ _ _ _ _) hcalm
   (fun b hb=>⟨(below b (fpLt b hb)).1,fun z=>?_,fun x c e z=>(hf b hb).2.2.2.2.1 x c (hc1 x c e) z,(below b (fpLt b hb)).2⟩)
   ⟨hDC,fun z=>absurd (stkLt acc z) (Nat.lt_irrefl _),fun x c e z=>absurd (cellLt x c (hc1 x c e)) (by rw [z];exact Nat.lt_irrefl _),by rw [hAn];exact Nat.le_refl _⟩ ?_ I2 st1 (fun b hb=>(hf b hb).1) w0
  ·rcases List.mem_cons.mp (I.stkSub b z) with q|q
   ·exact (hf b hb).2.1 q
   ·exact (hf b hb).2.2.1 q
  ·intro s' σ' H' ys us k J' rv q
   obtain ⟨e',n',l',f',d'⟩:=J'.pin (acc,accObj us k) (List.mem_append_right _ List.mem_cons_self)
   have n'':H' acc=none:=n'
   obtain ⟨m,hm,_⟩:=J'.loc
   have oldLt:∀ b o,s.heap.get? b=some o->b<acc:=fun b o e=>by rw [← hAn];exact Heap.lt_size e
   have neA:∀ b o,s.heap.get? b=some o->b≠acc:=fun b o e=>Nat.ne_of_lt (oldLt b o e)
   have un:Un (frs X.stack) fp H (upd H' acc (.lst ys)) s.heap s'.heap:=⟨J'.base.keep,J'.base.slot,fun b o e n hx=>by rw [upd_ne (neA b o e)];exact J'.base.free b o e n hx,J'.base.there,
    fun b xs e=>by
     have z:=J'.base.tups b xs e
     rw [upd_ne (ne_of_none z n'')];exact z,
    fun b o u e=>by
     have z:=J'.base.frzs b o u e
     rw [upd_ne (ne_of_none z n'')];exact z,
    fun b ps e=>by
     obtain ⟨more,z⟩:=J'.base.tbls b ps e
     exact ⟨more,by rw [upd_ne (ne_of_none z n'')];exact z⟩⟩
   have hok:HOk X.prog X.w (upd H' acc (.lst ys)) s'.heap:=fun b u e=>by
    by_cases hb:b=acc
    ·subst hb
     rw [upd_same] at e;cases e
     exact ⟨hF _ _ q,us,k,rv,e'⟩
    ·rw [upd_ne hb] at e
     exact (J'.hok b u e).stay (fun c v _ z=>z) (fun c z=>by rw [upd_ne (ne_of_none z n'')];exact z) fun c xs z=>by rw [upd_ne (ne_of_none z n'')];exact z
   have IX:Inv X pins σ (upd H' acc (.lst ys)) s':=I.call' J'.os un hok J'.bare fun b hb=>⟨(hf b hb).2.2.2.1,(hf b hb).2.1,(hf b hb).2.2.2.2.1,(hf b hb).2.2.2.2.2⟩
   refine fin acc C H' ys s' m IX n'' hm ?_ ?_ ?_ ?_ ?_ q
   ·rw [upd_ne (Ne.symm hDC)];exact J'.free
   ·exact Nat.ne_of_gt (Nat.lt_of_lt_of_le I.lt (by rw [hAn];exact hCle))
   ·exact Nat.le_trans I.sz (by rw [hAn];exact hCle)
   ·exact fun x c e z=>absurd (Nat.lt_of_lt_of_le (cellLt x c e) hCle) (by rw [z];exact Nat.lt_irrefl _)
   ·exact fun p hp z=>absurd (Nat.lt_of_lt_of_le (pinLt p hp) hCle) (by rw [z];exact Nat.lt_irrefl _)
 exact codeAny_compStart_list (loop _ rfl) (T.self _ 0 _ _ _ st1 (loop _ rfl))
theorem pe_comp (S:CompScope X scope own js N') (hcalm:X.calm=true) (hi:PI X tg iter wi) (hg:∀ cl C s₀ H₀ ex,PG (cxComp X scope N' cl C s₀ H₀ ex) tg g) (hc:∀ cl C s₀ H₀ ex,PIfs (cxComp X scope N' cl C s₀ H₀ ex) ifs tt)
 (he:∀ cl C s₀ H₀ ex,PE (cxComp X scope N' cl C s₀ H₀ ex) elt te) (hs:∀ x,foldedSetIterable iter X.env x=pure x:=by intro _;rfl):PE X (.ListComp elt [⟨tg,iter,ifs,0⟩] scope pos) (tComp wi g tt te own.length js):=by
 intro pins s σ H Q I h
 obtain ⟨cl,hcl,hc1,hc2⟩:=closure_ok (env:=X.env) scope fun y hy hk=>I.ok.has y.1 (S.free y hy hk)
 rw [eval_ListComp]
 refine wpAny_comprehension_free (use:=none) rfl hs hcl S.kind S.names (thn (hi pins s σ H _ I h) fun v s1 h1=>thn h1 fun itv s2 h2=>?_)
 obtain ⟨it,fp,tn,J,H2,e,I2,T,st2,f2,W,⟨m0,w0⟩,turn⟩:=h2
 subst e
 refine comp_run (RR:=fun acc C=>compPost (model X.prog X.w) X.A X.xe none (EP X pins σ Q) acc C) S hcalm hg hc he hc1 hc2 I2 T st2 f2 W w0 turn (fun ys H' q=>q.1) ?_
 intro acc C H' ys s' m IX na hm hCn hL hz hcn hpn q
 refine ⟨m,hm,fun h' hs'=>⟨.ref acc,_,?_,rfl,q.2 acc na⟩⟩
 exact IX.turned (t':=s'.toks) (it:=C) (fun b o hb e=>(hs'.2 b hb).trans e) hCn hL (.inr hz) hcn hpn
theorem ps_setComp {i:Nat} {x:Str} {pos' spos:Pos} (S:CompScope X scope own js N') (hcalm:X.calm=true) (hN:X.N.Nodup) (hx:X.N[i]?=some x) (hk:X.env.scope.names.lookup x=some .local) (hi:PI X tg iter wi) (hg:∀ cl C s₀ H₀ ex,PG (cxComp X scope N' cl C s₀ H₀ ex) tg g) (hc:∀ cl C s₀ H₀ ex,PIfs (cxComp X scope N' cl C s₀ H₀ ex) ifs tt)
 (he:∀ cl C s₀ H₀ ex,PE (cxComp X scope N' cl C s₀ H₀ ex) elt te) (hsw:swapsWith (.ListComp elt [⟨tg,iter,ifs,0⟩] scope pos) (some (.Name x pos')) spos.line X.env=pure true:=by rfl) (hs:∀ x,foldedSetIterable iter X.env x=pure x:=by intro _;rfl) :
 PS X (.Assign [.Name x pos'] (.ListComp elt [⟨tg,iter,ifs,0⟩] scope pos) spos) (tAsg (tComp wi g tt te own.length js) (gName i)):=by
 intro pins s σ H D I h
 obtain ⟨cl,hcl,hc1,hc2⟩:=closure_ok (env:=X.env) scope fun y hy hk=>I.ok.has y.1 (S.free y hy hk)
 rw [exec_Assign_Name_used _ _ _ _ hsw]
 refine wpAny_bind (wpAny_standAt (wpAny_bind ?_))
 show wpAny _ X.A (do let _ ← comprehension (.ListComp elt [⟨tg,iter,ifs,0⟩] scope pos) scope X.env _ (newList []) false (eval iter X.env) (some (assign (.Name x pos') X.env))) _ _ s
 refine wpAny_bind (wpAny_mono (wpAny_comprehension_free (use:=some (assign (.Name x pos') X.env)) (Q:=fun _ s'=>SP X pins D .next s') rfl hs hcl S.kind S.names
  (thn (hi pins s σ H _ I h) fun v s1 h1=>thn h1 fun itv s2 h2=>?_)) (fun _ s' hq=>wpAny_pure (wpAny_pure hq)) fun _ _ e=>e)
 obtain ⟨it,fp,tn,J,H2,e,I2,T,st2,f2,W,⟨m0,w0⟩,turn⟩:=h2
 subst e
 refine comp_run (RR:=fun acc C=>compPost (model X.prog X.w) X.A X.xe (some (assign (.Name x pos') X.env)) (fun _ s'=>SP X pins D .next s') acc C) S hcalm hg hc he hc1 hc2 I2 T st2 f2 W w0 turn (fun ys H' q=>q.1) ?_
 intro acc C H' ys s' m IX na hm hCn hL hz hcn hpn q
 show wpAny _ X.A (assign (.Name x pos') X.env (.ref acc)) _ _ s'
 refine wpAny_assign_Name (store_ok2 IX hN hx (.inl hk) (v:=.ref acc) rfl (fun s'' I'' hsb=>?_) (.inr hk))
 obtain ⟨a,hsb,ha⟩:=hsb
 have haC:C≠a:=by
  rcases ha with z|z
  ·rw [z];exact hL
  ·exact fun q=>hcn x a z q.symm
 refine ⟨m,hm.sameBut hsb haC,fun h' hs'=>⟨_,_,?_,q.2 acc na⟩⟩
 exact I''.turned (t':=s''.toks) (it:=C) (fun b o hb e=>(hs'.2 b hb).trans e) hCn hL (.inr hz) hcn hpn
end
section
variable {X:Cx}
def CDivW (i j:Int):Prop:=0<j/\j<340282366920938463463374607431768211456
theorem op_fdivW:OpR X (binaryOp .FloorDiv) (rI CDivW fun i j=>.int (i / j)):=opI fun i j _ _ _ _ _ hc q=>by
 rw [← Int.fdiv_eq_ediv_of_nonneg i (Int.le_of_lt hc.1)] at q
 have h1:(0:Int)<j:=hc.1
 have h2:j<340282366920938463463374607431768211456:=hc.2
 have hb:j.natAbs<340282366920938463463374607431768211456:=by omega
 have he:(2:Nat) ^ 128=340282366920938463463374607431768211456:=by decide +kernel
 have hl:j.natAbs.log2<128:=(Nat.log2_lt (by omega)).mpr (Nat.lt_of_lt_of_eq hb he.symm)
 exact floordiv_int (by have:=hc.1;omega) q (.inl (PyProof.noPylong_of_log2 (by omega)))
theorem comp_range {lo:Int} {n:Nat} {g:TG} {te:TE} {F:List V->Hp->Prop} {σ0:St} {H0:Hp} (Pv:Nat->List V->St->Hp->Prop) (hn:n≤sizeLine) (h0:Pv 0 [] σ0 H0)
 (hs:∀ i ys σ H,i<n->ys.length=i->Pv i ys σ H->∀ N:List V->St->Hp->Prop,(∀ ys' σ' H',ys'.length=i+1->Pv (i+1) ys' σ' H'->N ys' σ' H')->g (.int (lo+i)) σ H fun σ2 H2=>te σ2 H2 fun y H3=>N (ys++[y]) σ2 H3)
 (hd:∀ ys σ H,ys.length=n->Pv n ys σ H->F ys H) :
 ∃ W:Nat->Nat->List V->St->Hp->Prop,(∃ m,W 0 m [] σ0 H0)/\CTurn (Itr lo n) g tYes te F W:=by
 refine ⟨fun i m ys σ H=>m=n-i/\i≤n/\ys.length=i/\Pv i ys σ H,⟨n,by simp,Nat.zero_le _,rfl,h0⟩,?_⟩
 rintro i m ys σ H ⟨rfl,hi,hl,p⟩
 by_cases hlt:i<n
 ·refine .inr ⟨hlt,by omega,fun x H' y=>?_⟩
  obtain ⟨e,y⟩:=y
  subst e y
  exact hs i ys σ _ hlt hl p (fun ys' σ' H'=>∃ m',m'<n-i/\m'=n-(i+1)/\i+1≤n/\ys'.length=i+1/\Pv (i+1) ys' σ' H') fun ys' σ' H' hl' q=>⟨n-(i+1),by omega,rfl,hlt,hl',q⟩
 ·have e:i=n:=by omega
  subst e
  exact .inl ⟨Nat.le_refl _,hd ys σ H hl p⟩
theorem comp_list {K:PySem.W.Frag} {a:Addr} {xs:List V} {g:TG} {te:TE} {F:List V->Hp->Prop} {σ0:St} {H0:Hp} (Pv:Nat->List V->St->Hp->Prop) (hn:xs.length≤sizeLine) (h0:Pv 0 [] σ0 H0) (hq:∀ i ys σ H,i≤xs.length->Pv i ys σ H->SqL K H a xs)
 (hs:∀ i x ys σ H,xs[i]?=some x->ys.length=i->Pv i ys σ H->∀ N:List V->St->Hp->Prop,(∀ ys' σ' H',ys'.length=i+1->Pv (i+1) ys' σ' H'->N ys' σ' H')->g x σ H fun σ2 H2=>te σ2 H2 fun y H3=>N (ys++[y]) σ2 H3)
 (hd:∀ ys σ H,ys.length=xs.length->Pv xs.length ys σ H->F ys H) :
 ∃ W:Nat->Nat->List V->St->Hp->Prop,(∃ m,W 0 m [] σ0 H0)/\CTurn (Itl K a) g tYes te F W:=by
 refine ⟨fun i m ys σ H=>m=xs.length-i/\i≤xs.length/\ys.length=i/\Pv i ys σ H,⟨xs.length,by simp,Nat.zero_le _,rfl,h0⟩,?_⟩
 rintro i m ys σ H ⟨rfl,hi,hl,p⟩
 have q:=hq i ys σ H hi p
 by_cases hlt:i<xs.length
 ·refine .inr ⟨⟨xs,xs[i],q,by simp [hlt]⟩,by omega,fun x H' y=>?_⟩
  obtain ⟨e,y⟩:=y
  subst e
  exact hs i x ys σ _ (y xs q) hl p (fun ys' σ' H'=>∃ m',m'<xs.length-i/\m'=xs.length-(i+1)/\i+1≤xs.length/\ys'.length=i+1/\Pv (i+1) ys' σ' H') fun ys' σ' H' hl' q=>⟨xs.length-(i+1),by omega,rfl,hlt,hl',q⟩
 ·have e:i=xs.length:=by omega
  subst e
  exact .inl ⟨⟨xs,q,Nat.le_refl _⟩,hd ys σ H hl p⟩
structure Def (K:PySem.W.Frag) (mg:Str->Option Value) (x:Str) (st:Stmt) (ps:List Str) (f:Addr) (fd:FuncData):Prop where
 F:Fun K x x st f fd
 mg:mg x=some (.ref f)
 b:Binds K fd ps []
def But (p:Addr) (H H':Hp):Prop:=∀ b o,H b=some o->b≠p->H' b=some o
theorem But.refl {p:Addr} {H:Hp}:But p H H:=fun _ _ h _=>h
theorem But.trans {p:Addr} {H H1 H2:Hp} (a:But p H H1) (b:But p H1 H2):But p H H2:=fun c o h hc=>b c o (a c o h hc) hc
theorem But.upd {p:Addr} {H:Hp} {o:HO}:But p H (upd H p o):=fun b u h hb=>by rw [upd_ne hb];exact h
theorem But.new {p q:Addr} {H:Hp} {o:HO} (h:H q=none):But p H (L2.upd H q o):=fun b u e _=>by rw [upd_ne (ne_of_none e h)];exact e
end
theorem seq_by {t u:TS} {D:Ends} {σ:St} {H:Hp} (M:St->Hp->Prop) (h2:∀ σ' H',M σ' H'->u D σ' H') (h1:∀ N:St->Hp->Prop,(∀ σ' H',M σ' H'->N σ' H')->t { D with nx:=N } σ H):tSeq t u D σ H:=h1 (u D) h2
theorem Same.new {H:Hp} {q:Addr} {o:HO} (h:H q=none):Same H (upd H q o):=fun b u e=>by rw [upd_ne (ne_of_none e h)];exact e
theorem Same.tup {K:PySem.W.Frag} {H H':Hp} {a:Addr} {xs:List V} (e:Same H H') (h:SqT K H a xs):SqT K H' a xs:=by
 rcases h with (h|⟨o,h⟩)|h
 ·exact .inl (.inl (e _ _ h))
 ·exact .inl (.inr ⟨o,e _ _ h⟩)
 ·exact .inr h
theorem bt_len:bootBuiltins "len" = some (.builtin "len"):=by decide +kernel
theorem bt_list:bootBuiltins "list" = some (.type "list"):=by decide +kernel
theorem bt_tuple:bootBuiltins "tuple" = some (.type "tuple"):=by decide +kernel
theorem bt_str:bootBuiltins "str" = some (.type "str"):=by decide +kernel
theorem bt_int:bootBuiltins "int" = some (.type "int"):=by decide +kernel
theorem bt_bool:bootBuiltins "bool" = some (.type "bool"):=by decide +kernel
theorem bt_min:bootBuiltins "min" = some (.builtin "min"):=by decide +kernel
theorem bt_all:bootBuiltins "all" = some (.builtin "all"):=by decide +kernel
theorem bt_isinstance:bootBuiltins "isinstance" = some (.builtin "isinstance"):=by decide +kernel
theorem bt_sorted:bootBuiltins "sorted" = some (.builtin "sorted"):=by decide +kernel
end L2
namespace L2
open PySem PySem.Spec PyProof.Rows PySem.SeqAt
mutual
inductive Rep (K:PySem.W.Frag) (H:Hp):V->PyData->Prop
 |non:Rep K H .non .none
 |bl (b:Bool):Rep K H (.bl b) (.bool b)
 |int (i:Int):Rep K H (.int i) (.int i)
 |str (x:Str):Rep K H (.str x) (.str x)
 |tup {a:Addr} {xs:List V} {ds:List PyData}:SqT K H a xs->Reps K H xs ds->Rep K H (.ref a) (.tuple ds)
 |lst {a:Addr} {xs:List V} {ds:List PyData}:SqL K H a xs->Reps K H xs ds->Rep K H (.ref a) (.list ds)
inductive Reps (K:PySem.W.Frag) (H:Hp):List V->List PyData->Prop
 |nil:Reps K H [] []
 |cons {x:V} {d:PyData} {xs:List V} {ds:List PyData}:Rep K H x d->Reps K H xs ds->Reps K H (x::xs) (d::ds)
end
section
variable {K:PySem.W.Frag} {H H':Hp}
theorem Reps.length:∀ {xs:List V} {ds:List PyData},Reps K H xs ds->xs.length=ds.length
 |_,_,.nil=>rfl
 |_,_,.cons _ t=>by rw [List.length_cons,List.length_cons,Reps.length t]
mutual
theorem Rep.map (f1:∀ a xs,SqT K H a xs->SqT K H' a xs) (f2:∀ a xs,SqL K H a xs->SqL K H' a xs):∀ {v:V} {d:PyData},Rep K H v d->Rep K H' v d
 |_,_,.non=>.non
 |_,_,.bl b=>.bl b
 |_,_,.int i=>.int i
 |_,_,.str x=>.str x
 |_,_,.tup h r=>.tup (f1 _ _ h) (Reps.map f1 f2 r)
 |_,_,.lst h r=>.lst (f2 _ _ h) (Reps.map f1 f2 r)
theorem Reps.map (f1:∀ a xs,SqT K H a xs->SqT K H' a xs) (f2:∀ a xs,SqL K H a xs->SqL K H' a xs):∀ {v:List V} {d:List PyData},Reps K H v d->Reps K H' v d
 |_,_,.nil=>.nil
 |_,_,.cons h r=>.cons (Rep.map f1 f2 h) (Reps.map f1 f2 r)
end
theorem Rep.same {v:V} {d:PyData} (h:Rep K H v d) (e:Same H H'):Rep K H' v d:=h.map (fun _ _ z=>e.tup z) (fun _ _ z=>e.seq z)
theorem But.seq {p a:Addr} {xs:List V} {kvs:List (Key×V)} (e:But p H H') (hp:H p=some (.dK kvs)) (h:SqL K H a xs):SqL K H' a xs:=by
 rcases h with (h|⟨o,h⟩)|h
 ·exact .inl (.inl (e _ _ h (ne_of h hp (by intro z;cases z))))
 ·exact .inl (.inr ⟨o,e _ _ h (ne_of h hp (by intro z;cases z))⟩)
 ·exact .inr h
theorem Reps.get':∀ {xs:List V} {ds:List PyData} {i:Nat} {x:V},Reps K H xs ds->xs[i]?=some x->∃ d,ds[i]?=some d/\Rep K H x d
 |_,_,_,_,.nil,e=>by simp at e
 |_,_,0,_,.cons r _,e=>by simp at e;subst e;exact ⟨_,rfl,r⟩
 | _,_,i+1,d,.cons _ t,e=>by
   obtain ⟨u,h1,h2⟩:=Reps.get' (i:=i) (x:=d) t (by simpa using e)
   exact ⟨u,by simpa using h1,h2⟩
end
section
variable {X:Cx} {pins:List (Addr×Obj)} {σ:St} {H:Hp} {s:Shared}
end
mutual
def pdEq:PyData->PyData->Bool
 |.none,.none=>true
 |.bool a,.bool b=>a == b
 |.bool a,.int b=>(if a then 1 else 0) == b
 |.int a,.bool b=>a == (if b then 1 else 0)
 |.int a,.int b=>a == b
 |.str a,.str b=>a == b
 |.tuple a,.tuple b=>pdEqs a b
 |.list a,.list b=>pdEqs a b
 |_,_=>false
def pdEqs:List PyData->List PyData->Bool
 |[],[]=>true
 |a::r,b::t=>pdEq a b && pdEqs r t
 |_,_=>false
end
theorem pdEqs_iff:∀ (ds es:List PyData),pdEqs ds es=((List.range (min ds.length es.length)).all (fun j=>pdEq (ds.getD j .none) (es.getD j .none)) && ds.length == es.length)
 |[],[]=>by simp [pdEqs]
 |[],_::_=>by simp [pdEqs]
 |_::_,[]=>by simp [pdEqs]
 | a::r,b::t=>by
   rw [pdEqs,pdEqs_iff r t,List.length_cons,List.length_cons,Nat.succ_min_succ,List.range_succ_eq_map,List.all_cons,List.all_map]
   simp only [List.getD_cons_zero,Bool.and_assoc]
   congr 1
   have e:(r.length+1 == t.length+1)=(r.length == t.length):=by
    rw [Bool.eq_iff_iff];simp
   rw [e]
   congr 1
mutual
def pdDep:PyData->Nat
 |.tuple xs=>pdDeps xs+1
 |.list xs=>pdDeps xs+1
 |_=>0
def pdDeps:List PyData->Nat
 |[]=>0
 |d::r=>max (pdDep d) (pdDeps r)
end
section
variable {X:Cx} {pins:List (Addr×Obj)} {σ:St} {H:Hp} {s:Shared}
mutual
theorem Rep.fn (I:Inv X pins σ H s):∀ {v:V} {d e:PyData} {u:Value},Rep X.K H v d->Rep X.K H v e->RelV v u->d=e/\pdEq d d=true
 |_,_,_,_,.non,.non,_=>⟨rfl,rfl⟩
 |_,_,_,_,.bl b,.bl _,_=>⟨rfl,by simp [pdEq]⟩
 |_,_,_,_,.int i,.int _,_=>⟨rfl,by simp [pdEq]⟩
 |_,_,_,_,.str x,.str _,_=>⟨rfl,by simp [pdEq]⟩
 | _,_,_,_,.tup h1 r1,.tup h2 r2,r=>by
   have e:=I.tuple_inj h1 h2
   subst e
   obtain ⟨its,rv,_,_⟩:=I.tuple h1
   obtain ⟨e,q⟩:=Reps.fn I r1 r2 rv
   exact ⟨by rw [e],q⟩
 | _,_,_,_,.lst h1 r1,.lst h2 r2,r=>by
   have e:=I.list_inj h1 h2
   subst e
   obtain ⟨its,rv,_,_⟩:=I.list h1
   obtain ⟨e,q⟩:=Reps.fn I r1 r2 rv
   exact ⟨by rw [e],q⟩
 | _,_,_,_,.tup h1 _,.lst h2 _,r=>by
   obtain ⟨_,_,⟨o,e1,c1,_⟩,_⟩:=I.tuple h1
   obtain ⟨_,_,⟨o',n,e2,c2,_⟩,_⟩:=I.list h2
   rw [e1] at e2;cases e2
   rw [c1] at c2;injection c2 with z;exact absurd z (by decide)
 | _,_,_,_,.lst h2 _,.tup h1 _,r=>by
   obtain ⟨_,_,⟨o,e1,c1,_⟩,_⟩:=I.tuple h1
   obtain ⟨_,_,⟨o',n,e2,c2,_⟩,_⟩:=I.list h2
   rw [e1] at e2;cases e2
   rw [c1] at c2;injection c2 with z;exact absurd z (by decide)
theorem Reps.fn (I:Inv X pins σ H s):∀ {v:List V} {d e:List PyData} {u:List Value},Reps X.K H v d->Reps X.K H v e->Vals v u->d=e/\pdEqs d d=true
 |_,_,_,_,.nil,.nil,_=>⟨rfl,rfl⟩
 | _,_,_,_,.cons a b,.cons c d,.cons r rs=>by
   obtain ⟨e1,q1⟩:=Rep.fn I a c r
   obtain ⟨e2,q2⟩:=Reps.fn I b d rs
   exact ⟨by rw [e1,e2],by simp [pdEqs,q1,q2]⟩
end
theorem allEq {vs ws:List V} {ds es:List PyData} {us xs:List Value} {A:Around} (rs1:Reps X.K H vs ds) (rs2:Reps X.K H ws es) (rv1:Vals vs us) (rv2:Vals ws xs) :
 ((List.range (min us.toArray.size xs.toArray.size)).all (fun j=>pdEq (ds.getD j .none) (es.getD j .none)) && us.toArray.size == xs.toArray.size)=pdEqs ds es:=by
 rw [pdEqs_iff,List.size_toArray,List.size_toArray,← rv1.length,← rv2.length,rs1.length,rs2.length]
theorem rcT {l b:Addr} {vs ws:List V} {ds es:List PyData} {us xs:List Value} {A:Around} (rs1:Reps X.K H vs ds) (rs2:Reps X.K H ws es) (rv1:Vals vs us) (rv2:Vals ws xs) (p1:IsTup s.heap l us.toArray) (p2:IsTup s.heap b xs.toArray) (hu:A.units<cLine)
 (he:∀ j (h1:j<us.length) (h2:j<xs.length),EqAt A.in1 s us[j] xs[j] (pdEq (ds.getD j .none) (es.getD j .none))):RcAt A s (.ref l) (.ref b) (pdEq (.tuple ds) (.tuple es)):=by
 show RcAt A s (.ref l) (.ref b) (pdEqs ds es)
 rw [← allEq (A:=A) rs1 rs2 rv1 rv2]
 exact RcAt.tuples (show s.heap.IsTuple l us.toArray from p1) (show s.heap.IsTuple b xs.toArray from p2) hu fun j h1 h2=>by simpa using he j (by simpa using h1) (by simpa using h2)
theorem rcL {l b:Addr} {vs ws:List V} {ds es:List PyData} {us xs:List Value} {A:Around} (rs1:Reps X.K H vs ds) (rs2:Reps X.K H ws es) (rv1:Vals vs us) (rv2:Vals ws xs) (p1:s.heap.IsList l us.toArray) (p2:s.heap.IsList b xs.toArray) (hu:A.units<cLine)
 (he:∀ j (h1:j<us.length) (h2:j<xs.length),EqAt A.in1 s us[j] xs[j] (pdEq (ds.getD j .none) (es.getD j .none))):RcAt A s (.ref l) (.ref b) (pdEq (.list ds) (.list es)):=by
 show RcAt A s (.ref l) (.ref b) (pdEqs ds es)
 have q:=allEq (A:=A) rs1 rs2 rv1 rv2
 by_cases hz:us.toArray.size=xs.toArray.size
 ·rw [← q,hz,Nat.min_self,beq_self_eq_true,Bool.and_true,← hz]
  exact RcAt.lists p1 p2 hz hu fun j h1 h2=>by simpa using he j (by simpa using h1) (by simpa using h2)
 ·have e:pdEqs ds es=false:=by
   rw [← q]
   have:(us.toArray.size == xs.toArray.size)=false:=by simpa using hz
   rw [this,Bool.and_false]
  rw [e]
  exact RcAt.lists_lengths p1 p2 (by simpa using hz) hu
theorem eqT (I:Inv X pins σ H s) {l b:Addr} {vs ws:List V} {ds es:List PyData} {us xs:List Value} {A:Around} (h1:SqT X.K H l vs) (h2:SqT X.K H b ws) (rs1:Reps X.K H vs ds) (rs2:Reps X.K H ws es) (rv1:Vals vs us) (rv2:Vals ws xs) (p1:IsTup s.heap l us.toArray) (p2:IsTup s.heap b xs.toArray) (hu:A.units<cLine)
 (he:∀ j (h1:j<us.length) (h2:j<xs.length),EqAt A.in1 s us[j] xs[j] (pdEq (ds.getD j .none) (es.getD j .none))):EqAt A s (.ref l) (.ref b) (pdEq (.tuple ds) (.tuple es)):=by
 by_cases hlb:l=b
 ·subst hlb
  obtain ⟨e,q⟩:=Rep.fn I (.tup h1 rs1) (.tup h2 rs2) (u:=.ref l) rfl
  rw [← e,q]
  exact EqAt.same _
 ·exact EqAt.of_refs hlb (rcT rs1 rs2 rv1 rv2 p1 p2 hu he)
theorem eqL (I:Inv X pins σ H s) {l b:Addr} {vs ws:List V} {ds es:List PyData} {us xs:List Value} {A:Around} (h1:SqL X.K H l vs) (h2:SqL X.K H b ws) (rs1:Reps X.K H vs ds) (rs2:Reps X.K H ws es) (rv1:Vals vs us) (rv2:Vals ws xs) (p1:s.heap.IsList l us.toArray) (p2:s.heap.IsList b xs.toArray) (hu:A.units<cLine)
 (he:∀ j (h1:j<us.length) (h2:j<xs.length),EqAt A.in1 s us[j] xs[j] (pdEq (ds.getD j .none) (es.getD j .none))):EqAt A s (.ref l) (.ref b) (pdEq (.list ds) (.list es)):=by
 by_cases hlb:l=b
 ·subst hlb
  obtain ⟨e,q⟩:=Rep.fn I (.lst h1 rs1) (.lst h2 rs2) (u:=.ref l) rfl
  rw [← e,q]
  exact EqAt.same _
 ·exact EqAt.of_refs hlb (rcL rs1 rs2 rv1 rv2 p1 p2 hu he)
theorem hu00 {A:Around} {n:Nat} (h:A.units+n<cLine):A.units<cLine:=by omega
theorem hu0 {A:Around} {n:Nat} (h:A.units+(n+1)<cLine):A.units<cLine:=by omega
theorem hu1 {A:Around} {n:Nat} (h:A.units+(n+1)<cLine):A.in1.units+n<cLine:=by show A.units+1+n<cLine;omega
mutual
theorem eq_at (I:Inv X pins σ H s):∀ {v w:V} {d e:PyData} {u x:Value} {A:Around},Rep X.K H v d->Rep X.K H w e->RelV v u->RelV w x->A.units+pdDep d<cLine->EqAt A s u x (pdEq d e)
 | _,_,_,_,u,x,A,.non,.non,r1,r2,hu=>by
   cases (show u=Value.none from r1)
   cases (show x=Value.none from r2)
   exact EqAt.same _
 | _,_,_,_,u,x,A,.non,.bl b2,r1,r2,hu=>by
   cases (show u=Value.none from r1)
   cases (show x=Value.bool b2 from r2)
   exact EqAt.none_bool b2
 | _,_,_,_,u,x,A,.non,.int i2,r1,r2,hu=>by
   cases (show u=Value.none from r1)
   obtain ⟨t2,e2⟩:=(show ∃ t,x=Value.int i2 t from r2);subst e2
   exact EqAt.none_int i2 t2
 | _,_,_,_,u,x,A,.non,.str y2,r1,r2,hu=>by
   cases (show u=Value.none from r1)
   obtain ⟨t2,e2⟩:=(show ∃ t,x=Value.str y2 t from r2);subst e2
   exact EqAt.none_str y2 t2
 | _,_,_,_,u,x,A,.non,.lst h2 rs2,r1,r2,hu=>by
   cases (show u=Value.none from r1)
   cases (show x=Value.ref _ from r2);obtain ⟨its2,rv2,p2,_⟩:=I.list h2
   exact EqAt.none_list p2.isList (hu00 hu)
 | _,_,_,_,u,x,A,.non,.tup h2 rs2,r1,r2,hu=>by
   cases (show u=Value.none from r1)
   cases (show x=Value.ref _ from r2);obtain ⟨its2,rv2,p2,_⟩:=I.tuple h2
   exact EqAt.none_tuple p2 (hu00 hu)
 | _,_,_,_,u,x,A,.bl b1,.non,r1,r2,hu=>by
   cases (show u=Value.bool b1 from r1)
   cases (show x=Value.none from r2)
   exact EqAt.bool_none b1
 | _,_,_,_,u,x,A,.bl b1,.bl b2,r1,r2,hu=>by
   cases (show u=Value.bool b1 from r1)
   cases (show x=Value.bool b2 from r2)
   exact EqAt.bool_bool b1 b2
 | _,_,_,_,u,x,A,.bl b1,.int i2,r1,r2,hu=>by
   cases (show u=Value.bool b1 from r1)
   obtain ⟨t2,e2⟩:=(show ∃ t,x=Value.int i2 t from r2);subst e2
   exact EqAt.bool_int b1 i2 t2
 | _,_,_,_,u,x,A,.bl b1,.str y2,r1,r2,hu=>by
   cases (show u=Value.bool b1 from r1)
   obtain ⟨t2,e2⟩:=(show ∃ t,x=Value.str y2 t from r2);subst e2
   exact EqAt.bool_str b1 y2 t2
 | _,_,_,_,u,x,A,.bl b1,.lst h2 rs2,r1,r2,hu=>by
   cases (show u=Value.bool b1 from r1)
   cases (show x=Value.ref _ from r2);obtain ⟨its2,rv2,p2,_⟩:=I.list h2
   exact EqAt.bool_list b1 p2.isList (hu00 hu)
 | _,_,_,_,u,x,A,.bl b1,.tup h2 rs2,r1,r2,hu=>by
   cases (show u=Value.bool b1 from r1)
   cases (show x=Value.ref _ from r2);obtain ⟨its2,rv2,p2,_⟩:=I.tuple h2
   exact EqAt.bool_tuple b1 p2 (hu00 hu)
 | _,_,_,_,u,x,A,.int i1,.non,r1,r2,hu=>by
   obtain ⟨t1,e1⟩:=(show ∃ t,u=Value.int i1 t from r1);subst e1
   cases (show x=Value.none from r2)
   exact EqAt.int_none i1 t1
 | _,_,_,_,u,x,A,.int i1,.bl b2,r1,r2,hu=>by
   obtain ⟨t1,e1⟩:=(show ∃ t,u=Value.int i1 t from r1);subst e1
   cases (show x=Value.bool b2 from r2)
   exact EqAt.int_bool i1 t1 b2
 | _,_,_,_,u,x,A,.int i1,.int i2,r1,r2,hu=>by
   obtain ⟨t1,e1⟩:=(show ∃ t,u=Value.int i1 t from r1);subst e1
   obtain ⟨t2,e2⟩:=(show ∃ t,x=Value.int i2 t from r2);subst e2
   exact EqAt.int_int i1 t1 i2 t2
 | _,_,_,_,u,x,A,.int i1,.str y2,r1,r2,hu=>by
   obtain ⟨t1,e1⟩:=(show ∃ t,u=Value.int i1 t from r1);subst e1
   obtain ⟨t2,e2⟩:=(show ∃ t,x=Value.str y2 t from r2);subst e2
   exact EqAt.int_str i1 t1 y2 t2
 | _,_,_,_,u,x,A,.int i1,.lst h2 rs2,r1,r2,hu=>by
   obtain ⟨t1,e1⟩:=(show ∃ t,u=Value.int i1 t from r1);subst e1
   cases (show x=Value.ref _ from r2);obtain ⟨its2,rv2,p2,_⟩:=I.list h2
   exact EqAt.int_list i1 t1 p2.isList (hu00 hu)
 | _,_,_,_,u,x,A,.int i1,.tup h2 rs2,r1,r2,hu=>by
   obtain ⟨t1,e1⟩:=(show ∃ t,u=Value.int i1 t from r1);subst e1
   cases (show x=Value.ref _ from r2);obtain ⟨its2,rv2,p2,_⟩:=I.tuple h2
   exact EqAt.int_tuple i1 t1 p2 (hu00 hu)
 | _,_,_,_,u,x,A,.str y1,.non,r1,r2,hu=>by
   obtain ⟨t1,e1⟩:=(show ∃ t,u=Value.str y1 t from r1);subst e1
   cases (show x=Value.none from r2)
   exact EqAt.str_none y1 t1
 | _,_,_,_,u,x,A,.str y1,.bl b2,r1,r2,hu=>by
   obtain ⟨t1,e1⟩:=(show ∃ t,u=Value.str y1 t from r1);subst e1
   cases (show x=Value.bool b2 from r2)
   exact EqAt.str_bool y1 t1 b2
 | _,_,_,_,u,x,A,.str y1,.int i2,r1,r2,hu=>by
   obtain ⟨t1,e1⟩:=(show ∃ t,u=Value.str y1 t from r1);subst e1
   obtain ⟨t2,e2⟩:=(show ∃ t,x=Value.int i2 t from r2);subst e2
   exact EqAt.str_int y1 t1 i2 t2
 | _,_,_,_,u,x,A,.str y1,.str y2,r1,r2,hu=>by
   obtain ⟨t1,e1⟩:=(show ∃ t,u=Value.str y1 t from r1);subst e1
   obtain ⟨t2,e2⟩:=(show ∃ t,x=Value.str y2 t from r2);subst e2
   exact EqAt.str_str y1 t1 y2 t2
 | _,_,_,_,u,x,A,.str y1,.lst h2 rs2,r1,r2,hu=>by
   obtain ⟨t1,e1⟩:=(show ∃ t,u=Value.str y1 t from r1);subst e1
   cases (show x=Value.ref _ from r2);obtain ⟨its2,rv2,p2,_⟩:=I.list h2
   exact EqAt.str_list y1 t1 p2.isList (hu00 hu)
 | _,_,_,_,u,x,A,.str y1,.tup h2 rs2,r1,r2,hu=>by
   obtain ⟨t1,e1⟩:=(show ∃ t,u=Value.str y1 t from r1);subst e1
   cases (show x=Value.ref _ from r2);obtain ⟨its2,rv2,p2,_⟩:=I.tuple h2
   exact EqAt.str_tuple y1 t1 p2 (hu00 hu)
 | _,_,_,_,u,x,A,.lst h1 rs1,.non,r1,r2,hu=>by
   cases (show u=Value.ref _ from r1);obtain ⟨its1,rv1,p1,_⟩:=I.list h1
   cases (show x=Value.none from r2)
   exact EqAt.list_none p1.isList (hu00 hu)
 | _,_,_,_,u,x,A,.lst h1 rs1,.bl b2,r1,r2,hu=>by
   cases (show u=Value.ref _ from r1);obtain ⟨its1,rv1,p1,_⟩:=I.list h1
   cases (show x=Value.bool b2 from r2)
   exact EqAt.list_bool b2 p1.isList (hu00 hu)
 | _,_,_,_,u,x,A,.lst h1 rs1,.int i2,r1,r2,hu=>by
   cases (show u=Value.ref _ from r1);obtain ⟨its1,rv1,p1,_⟩:=I.list h1
   obtain ⟨t2,e2⟩:=(show ∃ t,x=Value.int i2 t from r2);subst e2
   exact EqAt.list_int i2 t2 p1.isList (hu00 hu)
 | _,_,_,_,u,x,A,.lst h1 rs1,.str y2,r1,r2,hu=>by
   cases (show u=Value.ref _ from r1);obtain ⟨its1,rv1,p1,_⟩:=I.list h1
   obtain ⟨t2,e2⟩:=(show ∃ t,x=Value.str y2 t from r2);subst e2
   exact EqAt.list_str y2 t2 p1.isList (hu00 hu)
 | _,_,_,_,u,x,A,.lst h1 rs1,.lst h2 rs2,r1,r2,hu=>by
   cases (show u=Value.ref _ from r1);obtain ⟨its1,rv1,p1,_⟩:=I.list h1
   cases (show x=Value.ref _ from r2);obtain ⟨its2,rv2,p2,_⟩:=I.list h2
   exact eqL I h1 h2 rs1 rs2 rv1 rv2 p1.isList p2.isList (hu0 hu) (eqs_at I rs1 rs2 rv1 rv2 (hu1 hu))
 | _,_,_,_,u,x,A,.lst h1 rs1,.tup h2 rs2,r1,r2,hu=>by
   cases (show u=Value.ref _ from r1);obtain ⟨its1,rv1,p1,_⟩:=I.list h1
   cases (show x=Value.ref _ from r2);obtain ⟨its2,rv2,p2,_⟩:=I.tuple h2
   exact EqAt.list_tuple p1.isList p2 (hu00 hu)
 | _,_,_,_,u,x,A,.tup h1 rs1,.non,r1,r2,hu=>by
   cases (show u=Value.ref _ from r1);obtain ⟨its1,rv1,p1,_⟩:=I.tuple h1
   cases (show x=Value.none from r2)
   exact EqAt.tuple_none p1 (hu00 hu)
 | _,_,_,_,u,x,A,.tup h1 rs1,.bl b2,r1,r2,hu=>by
   cases (show u=Value.ref _ from r1);obtain ⟨its1,rv1,p1,_⟩:=I.tuple h1
   cases (show x=Value.bool b2 from r2)
   exact EqAt.tuple_bool b2 p1 (hu00 hu)
 | _,_,_,_,u,x,A,.tup h1 rs1,.int i2,r1,r2,hu=>by
   cases (show u=Value.ref _ from r1);obtain ⟨its1,rv1,p1,_⟩:=I.tuple h1
   obtain ⟨t2,e2⟩:=(show ∃ t,x=Value.int i2 t from r2);subst e2
   exact EqAt.tuple_int i2 t2 p1 (hu00 hu)
 | _,_,_,_,u,x,A,.tup h1 rs1,.str y2,r1,r2,hu=>by
   cases (show u=Value.ref _ from r1);obtain ⟨its1,rv1,p1,_⟩:=I.tuple h1
   obtain ⟨t2,e2⟩:=(show ∃ t,x=Value.str y2 t from r2);subst e2
   exact EqAt.tuple_str y2 t2 p1 (hu00 hu)
 | _,_,_,_,u,x,A,.tup h1 rs1,.lst h2 rs2,r1,r2,hu=>by
   cases (show u=Value.ref _ from r1);obtain ⟨its1,rv1,p1,_⟩:=I.tuple h1
   cases (show x=Value.ref _ from r2);obtain ⟨its2,rv2,p2,_⟩:=I.list h2
   exact EqAt.tuple_list p1 p2.isList (hu00 hu)
 | _,_,_,_,u,x,A,.tup h1 rs1,.tup h2 rs2,r1,r2,hu=>by
   cases (show u=Value.ref _ from r1);obtain ⟨its1,rv1,p1,_⟩:=I.tuple h1
   cases (show x=Value.ref _ from r2);obtain ⟨its2,rv2,p2,_⟩:=I.tuple h2
   exact eqT I h1 h2 rs1 rs2 rv1 rv2 p1 p2 (hu0 hu) (eqs_at I rs1 rs2 rv1 rv2 (hu1 hu))
theorem eqs_at (I:Inv X pins σ H s):∀ {vs ws:List V} {ds es:List PyData} {us xs:List Value} {A:Around},Reps X.K H vs ds->Reps X.K H ws es->Vals vs us->Vals ws xs->A.units+pdDeps ds<cLine->
 ∀ j (h1:j<us.length) (h2:j<xs.length),EqAt A s us[j] xs[j] (pdEq (ds.getD j .none) (es.getD j .none))
 |_,_,_,_,_,_,_,.nil,_,.nil,_,_,j,h1,_=>absurd h1 (Nat.not_lt_zero _)
 |_,_,_,_,_,_,_,.cons _ _,.nil,.cons _ _,.nil,_,j,_,h2=>absurd h2 (Nat.not_lt_zero _)
 |_,_,_,_,_,_,_,.cons a b,.cons c d,.cons r rs,.cons t ts,hu,0,_,_=>eq_at I a c r t (by simp only [pdDeps] at hu;simp only [List.getD_cons_zero];omega)
 |_,_,_,_,_,_,_,.cons a b,.cons c d,.cons r rs,.cons t ts,hu,j+1,h1,h2=>eqs_at I b d rs ts (by simp only [pdDeps] at hu;omega) j (by simpa using h1) (by simpa using h2)
end
theorem rc_at (I:Inv X pins σ H s):∀ {v w:V} {d e:PyData} {u x:Value} {A:Around},Rep X.K H v d->Rep X.K H w e->RelV v u->RelV w x->A.units+pdDep d<cLine->RcAt A s u x (pdEq d e)
 | _,_,_,_,u,x,A,.non,.non,r1,r2,hu=>by
   cases (show u=Value.none from r1)
   cases (show x=Value.none from r2)
   exact RcAt.none_none
 | _,_,_,_,u,x,A,.non,.bl b2,r1,r2,hu=>by
   cases (show u=Value.none from r1)
   cases (show x=Value.bool b2 from r2)
   exact RcAt.none_bool b2
 | _,_,_,_,u,x,A,.non,.int i2,r1,r2,hu=>by
   cases (show u=Value.none from r1)
   obtain ⟨t2,e2⟩:=(show ∃ t,x=Value.int i2 t from r2);subst e2
   exact RcAt.none_int i2 t2
 | _,_,_,_,u,x,A,.non,.str y2,r1,r2,hu=>by
   cases (show u=Value.none from r1)
   obtain ⟨t2,e2⟩:=(show ∃ t,x=Value.str y2 t from r2);subst e2
   exact RcAt.none_str y2 t2
 | _,_,_,_,u,x,A,.non,.lst h2 rs2,r1,r2,hu=>by
   cases (show u=Value.none from r1)
   cases (show x=Value.ref _ from r2);obtain ⟨its2,rv2,p2,_⟩:=I.list h2
   exact RcAt.none_list p2.isList (hu00 hu)
 | _,_,_,_,u,x,A,.non,.tup h2 rs2,r1,r2,hu=>by
   cases (show u=Value.none from r1)
   cases (show x=Value.ref _ from r2);obtain ⟨its2,rv2,p2,_⟩:=I.tuple h2
   exact RcAt.none_tuple p2 (hu00 hu)
 | _,_,_,_,u,x,A,.bl b1,.non,r1,r2,hu=>by
   cases (show u=Value.bool b1 from r1)
   cases (show x=Value.none from r2)
   exact RcAt.bool_none b1
 | _,_,_,_,u,x,A,.bl b1,.bl b2,r1,r2,hu=>by
   cases (show u=Value.bool b1 from r1)
   cases (show x=Value.bool b2 from r2)
   exact RcAt.bool_bool b1 b2
 | _,_,_,_,u,x,A,.bl b1,.int i2,r1,r2,hu=>by
   cases (show u=Value.bool b1 from r1)
   obtain ⟨t2,e2⟩:=(show ∃ t,x=Value.int i2 t from r2);subst e2
   exact RcAt.bool_int b1 i2 t2
 | _,_,_,_,u,x,A,.bl b1,.str y2,r1,r2,hu=>by
   cases (show u=Value.bool b1 from r1)
   obtain ⟨t2,e2⟩:=(show ∃ t,x=Value.str y2 t from r2);subst e2
   exact RcAt.bool_str b1 y2 t2
 | _,_,_,_,u,x,A,.bl b1,.lst h2 rs2,r1,r2,hu=>by
   cases (show u=Value.bool b1 from r1)
   cases (show x=Value.ref _ from r2);obtain ⟨its2,rv2,p2,_⟩:=I.list h2
   exact RcAt.bool_list b1 p2.isList (hu00 hu)
 | _,_,_,_,u,x,A,.bl b1,.tup h2 rs2,r1,r2,hu=>by
   cases (show u=Value.bool b1 from r1)
   cases (show x=Value.ref _ from r2);obtain ⟨its2,rv2,p2,_⟩:=I.tuple h2
   exact RcAt.bool_tuple b1 p2 (hu00 hu)
 | _,_,_,_,u,x,A,.int i1,.non,r1,r2,hu=>by
   obtain ⟨t1,e1⟩:=(show ∃ t,u=Value.int i1 t from r1);subst e1
   cases (show x=Value.none from r2)
   exact RcAt.int_none i1 t1
 | _,_,_,_,u,x,A,.int i1,.bl b2,r1,r2,hu=>by
   obtain ⟨t1,e1⟩:=(show ∃ t,u=Value.int i1 t from r1);subst e1
   cases (show x=Value.bool b2 from r2)
   exact RcAt.int_bool i1 t1 b2
 | _,_,_,_,u,x,A,.int i1,.int i2,r1,r2,hu=>by
   obtain ⟨t1,e1⟩:=(show ∃ t,u=Value.int i1 t from r1);subst e1
   obtain ⟨t2,e2⟩:=(show ∃ t,x=Value.int i2 t from r2);subst e2
   exact RcAt.int_int i1 t1 i2 t2
 | _,_,_,_,u,x,A,.int i1,.str y2,r1,r2,hu=>by
   obtain ⟨t1,e1⟩:=(show ∃ t,u=Value.int i1 t from r1);subst e1
   obtain ⟨t2,e2⟩:=(show ∃ t,x=Value.str y2 t from r2);subst e2
   exact RcAt.int_str i1 t1 y2 t2
 | _,_,_,_,u,x,A,.int i1,.lst h2 rs2,r1,r2,hu=>by
   obtain ⟨t1,e1⟩:=(show ∃ t,u=Value.int i1 t from r1);subst e1
   cases (show x=Value.ref _ from r2);obtain ⟨its2,rv2,p2,_⟩:=I.list h2
   exact RcAt.int_list i1 t1 p2.isList (hu00 hu)
 | _,_,_,_,u,x,A,.int i1,.tup h2 rs2,r1,r2,hu=>by
   obtain ⟨t1,e1⟩:=(show ∃ t,u=Value.int i1 t from r1);subst e1
   cases (show x=Value.ref _ from r2);obtain ⟨its2,rv2,p2,_⟩:=I.tuple h2
   exact RcAt.int_tuple i1 t1 p2 (hu00 hu)
 | _,_,_,_,u,x,A,.str y1,.non,r1,r2,hu=>by
   obtain ⟨t1,e1⟩:=(show ∃ t,u=Value.str y1 t from r1);subst e1
   cases (show x=Value.none from r2)
   exact RcAt.str_none y1 t1
 | _,_,_,_,u,x,A,.str y1,.bl b2,r1,r2,hu=>by
   obtain ⟨t1,e1⟩:=(show ∃ t,u=Value.str y1 t from r1);subst e1
   cases (show x=Value.bool b2 from r2)
   exact RcAt.str_bool y1 t1 b2
 | _,_,_,_,u,x,A,.str y1,.int i2,r1,r2,hu=>by
   obtain ⟨t1,e1⟩:=(show ∃ t,u=Value.str y1 t from r1);subst e1
   obtain ⟨t2,e2⟩:=(show ∃ t,x=Value.int i2 t from r2);subst e2
   exact RcAt.str_int y1 t1 i2 t2
 | _,_,_,_,u,x,A,.str y1,.str y2,r1,r2,hu=>by
   obtain ⟨t1,e1⟩:=(show ∃ t,u=Value.str y1 t from r1);subst e1
   obtain ⟨t2,e2⟩:=(show ∃ t,x=Value.str y2 t from r2);subst e2
   exact RcAt.str_str y1 t1 y2 t2
 | _,_,_,_,u,x,A,.str y1,.lst h2 rs2,r1,r2,hu=>by
   obtain ⟨t1,e1⟩:=(show ∃ t,u=Value.str y1 t from r1);subst e1
   cases (show x=Value.ref _ from r2);obtain ⟨its2,rv2,p2,_⟩:=I.list h2
   exact RcAt.str_list y1 t1 p2.isList (hu00 hu)
 | _,_,_,_,u,x,A,.str y1,.tup h2 rs2,r1,r2,hu=>by
   obtain ⟨t1,e1⟩:=(show ∃ t,u=Value.str y1 t from r1);subst e1
   cases (show x=Value.ref _ from r2);obtain ⟨its2,rv2,p2,_⟩:=I.tuple h2
   exact RcAt.str_tuple y1 t1 p2 (hu00 hu)
 | _,_,_,_,u,x,A,.lst h1 rs1,.non,r1,r2,hu=>by
   cases (show u=Value.ref _ from r1);obtain ⟨its1,rv1,p1,_⟩:=I.list h1
   cases (show x=Value.none from r2)
   exact RcAt.list_none p1.isList (hu00 hu)
 | _,_,_,_,u,x,A,.lst h1 rs1,.bl b2,r1,r2,hu=>by
   cases (show u=Value.ref _ from r1);obtain ⟨its1,rv1,p1,_⟩:=I.list h1
   cases (show x=Value.bool b2 from r2)
   exact RcAt.list_bool b2 p1.isList (hu00 hu)
 | _,_,_,_,u,x,A,.lst h1 rs1,.int i2,r1,r2,hu=>by
   cases (show u=Value.ref _ from r1);obtain ⟨its1,rv1,p1,_⟩:=I.list h1
   obtain ⟨t2,e2⟩:=(show ∃ t,x=Value.int i2 t from r2);subst e2
   exact RcAt.list_int i2 t2 p1.isList (hu00 hu)
 | _,_,_,_,u,x,A,.lst h1 rs1,.str y2,r1,r2,hu=>by
   cases (show u=Value.ref _ from r1);obtain ⟨its1,rv1,p1,_⟩:=I.list h1
   obtain ⟨t2,e2⟩:=(show ∃ t,x=Value.str y2 t from r2);subst e2
   exact RcAt.list_str y2 t2 p1.isList (hu00 hu)
 | _,_,_,_,u,x,A,.lst h1 rs1,.lst h2 rs2,r1,r2,hu=>by
   cases (show u=Value.ref _ from r1);obtain ⟨its1,rv1,p1,_⟩:=I.list h1
   cases (show x=Value.ref _ from r2);obtain ⟨its2,rv2,p2,_⟩:=I.list h2
   exact rcL rs1 rs2 rv1 rv2 p1.isList p2.isList (hu0 hu) (eqs_at I rs1 rs2 rv1 rv2 (hu1 hu))
 | _,_,_,_,u,x,A,.lst h1 rs1,.tup h2 rs2,r1,r2,hu=>by
   cases (show u=Value.ref _ from r1);obtain ⟨its1,rv1,p1,_⟩:=I.list h1
   cases (show x=Value.ref _ from r2);obtain ⟨its2,rv2,p2,_⟩:=I.tuple h2
   exact RcAt.list_tuple p1.isList p2 (hu00 hu)
 | _,_,_,_,u,x,A,.tup h1 rs1,.non,r1,r2,hu=>by
   cases (show u=Value.ref _ from r1);obtain ⟨its1,rv1,p1,_⟩:=I.tuple h1
   cases (show x=Value.none from r2)
   exact RcAt.tuple_none p1 (hu00 hu)
 | _,_,_,_,u,x,A,.tup h1 rs1,.bl b2,r1,r2,hu=>by
   cases (show u=Value.ref _ from r1);obtain ⟨its1,rv1,p1,_⟩:=I.tuple h1
   cases (show x=Value.bool b2 from r2)
   exact RcAt.tuple_bool b2 p1 (hu00 hu)
 | _,_,_,_,u,x,A,.tup h1 rs1,.int i2,r1,r2,hu=>by
   cases (show u=Value.ref _ from r1);obtain ⟨its1,rv1,p1,_⟩:=I.tuple h1
   obtain ⟨t2,e2⟩:=(show ∃ t,x=Value.int i2 t from r2);subst e2
   exact RcAt.tuple_int i2 t2 p1 (hu00 hu)
 | _,_,_,_,u,x,A,.tup h1 rs1,.str y2,r1,r2,hu=>by
   cases (show u=Value.ref _ from r1);obtain ⟨its1,rv1,p1,_⟩:=I.tuple h1
   obtain ⟨t2,e2⟩:=(show ∃ t,x=Value.str y2 t from r2);subst e2
   exact RcAt.tuple_str y2 t2 p1 (hu00 hu)
 | _,_,_,_,u,x,A,.tup h1 rs1,.lst h2 rs2,r1,r2,hu=>by
   cases (show u=Value.ref _ from r1);obtain ⟨its1,rv1,p1,_⟩:=I.tuple h1
   cases (show x=Value.ref _ from r2);obtain ⟨its2,rv2,p2,_⟩:=I.list h2
   exact RcAt.tuple_list p1 p2.isList (hu00 hu)
 | _,_,_,_,u,x,A,.tup h1 rs1,.tup h2 rs2,r1,r2,hu=>by
   cases (show u=Value.ref _ from r1);obtain ⟨its1,rv1,p1,_⟩:=I.tuple h1
   cases (show x=Value.ref _ from r2);obtain ⟨its2,rv2,p2,_⟩:=I.tuple h2
   exact rcT rs1 rs2 rv1 rv2 p1 p2 (hu0 hu) (eqs_at I rs1 rs2 rv1 rv2 (hu1 hu))
end
section
variable {X:Cx}
def rEqD (K:PySem.W.Frag):R2:=fun x y H Q=>∃ d e,Rep K H x d/\Rep K H y e/\pdDep d≤60/\Q (.bl (pdEq d e)) H
theorem op_eqD (hu:X.A.units+64<cLine):OpR X (compareOp .Eq) (rEqD X.K):=by
 intro pins s σ H x y v u Q I rx ry h
 obtain ⟨d,e,h1,h2,hd,q⟩:=h
 exact rc_at I h1 h2 rx ry (by omega) _ _ _ _ ⟨.bl _,H,I,rfl,q⟩
def rNeT (K:PySem.W.Frag):R2:=fun x y H Q=>∃ d e,Rep K H x (.tuple d)/\Rep K H y (.tuple e)/\pdDeps d≤60/\Q (.bl (!pdEqs d e)) H
theorem op_neT (hu:X.A.units+64<cLine):OpR X (compareOp .NotEq) (rNeT X.K):=by
 intro pins s σ H x y v u Q I rx ry h
 obtain ⟨d,e,h1,h2,hd,q⟩:=h
 cases h1 with
 | tup g1 rs1=>
   cases h2 with
   | tup g2 rs2=>
     cases (show v=Value.ref _ from rx)
     cases (show u=Value.ref _ from ry)
     obtain ⟨its1,rv1,p1,_⟩:=I.tuple g1
     obtain ⟨its2,rv2,p2,_⟩:=I.tuple g2
     have hz:=allEq (X:=X) (H:=H) (A:=X.A) rs1 rs2 rv1 rv2
     have hw:=RcNeAt.tuples (A:=X.A) (show s.heap.IsTuple _ its1.toArray from p1) (show s.heap.IsTuple _ its2.toArray from p2) (by omega)
      (e:=fun j=>pdEq (d.getD j .none) (e.getD j .none)) (fun j h1 h2=>by simpa using eqs_at I rs1 rs2 rv1 rv2 (A:=X.A.in1) (by show X.A.units+1+_<_;omega) j (by simpa using h1) (by simpa using h2))
     rw [hz] at hw
     exact hw _ _ _ _ ⟨.bl _,H,I,rfl,q⟩
theorem pdDep_le {e:PyData}:∀ {es:List PyData},e∈es->pdDep e≤pdDeps es
 |_::_,.head _=>by simp only [pdDeps];omega
 |_::r,.tail _ h=>by have:=pdDep_le h;simp only [pdDeps];omega
def tyD:PyData->String
 |.none=>"NoneType"
 |.bool _=>"bool"
 |.int _=>"int"
 |.str _=>"str"
 |.list _=>"list"
 |.tuple _=>"tuple"
 |.dict _=>"dict"
theorem isD {pins:List (Addr×Obj)} {σ:St} {H:Hp} {s:Shared} {A:Around} {E:Value->Shared->Prop} {Q:Value->Shared->Prop} {v:V} {d:PyData} {u c:Value} {b:Bool} (I:Inv X pins σ H s) (r:Rep X.K H v d) (rv:RelV v u)
 (e:PySem.W.kitOne X.K (.type (tyD d)) c=some b) (h:∀ tk,Q (.bool b) { s with toks:=tk }):wpAny (model X.prog X.w) A (call (.builtin "isinstance") [u,c]) Q E s:=by
 cases r with
 |non=>cases (show u=Value.none from rv);exact PySem.W.kia_one PySem.W.kitx_none I.kIn True.intro e (fun z=>nomatch z) h
 |bl y=>cases (show u=Value.bool y from rv);exact PySem.W.kia_one PySem.W.kitx_bool I.kIn True.intro e (fun z=>nomatch z) h
 |int i=>obtain ⟨t,q⟩:=(show ∃ t,u=Value.int i t from rv);cases q;exact PySem.W.kia_one PySem.W.kitx_int I.kIn True.intro e (fun z=>nomatch z) h
 |str y=>obtain ⟨t,q⟩:=(show ∃ t,u=Value.str y t from rv);cases q;exact PySem.W.kia_one PySem.W.kitx_str I.kIn True.intro e (fun z=>nomatch z) h
 | tup g _=>
   cases (show u=Value.ref _ from rv)
   obtain ⟨_,_,⟨o,h1,h2,_⟩,_⟩:=I.tuple g
   exact PySem.W.kia_one PySem.W.kitx_tuple I.kIn ⟨o,h1,h2⟩ e (fun z=>nomatch z) h
 | lst g _=>
   cases (show u=Value.ref _ from rv)
   obtain ⟨_,_,⟨o,n,h1,h2,_⟩,_⟩:=I.list g
   exact PySem.W.kia_one PySem.W.kitx_list I.kIn ⟨o,h1,h2⟩ e (fun z=>nomatch z) h
theorem isD2 {pins:List (Addr×Obj)} {σ:St} {H:Hp} {s:Shared} {A:Around} {E:Value->Shared->Prop} {Q:Value->Shared->Prop} {v:V} {d:PyData} {u:Value} {tp:Addr} {dd:Option Addr} {its:List Value} {n:Nat} {sl:Array (Option Value)} {b:Bool} (I:Inv X pins σ H s) (r:Rep X.K H v d) (rv:RelV v u)
 (htp:s.heap.get? tp=some ⟨.type "tuple",dd,.seq its.toArray n,sl⟩) (e:PySem.W.kitAny X.K (.type (tyD d)) its=some b) (h:∀ tk,Q (.bool b) { s with toks:=tk }):wpAny (model X.prog X.w) A (call (.builtin "isinstance") [u,.ref tp]) Q E s:=by
 cases r with
 |non=>cases (show u=Value.none from rv);exact PySem.W.kia_tup PySem.W.kitx_none I.kIn True.intro htp e (fun z=>nomatch z) h
 |bl y=>cases (show u=Value.bool y from rv);exact PySem.W.kia_tup PySem.W.kitx_bool I.kIn True.intro htp e (fun z=>nomatch z) h
 |int i=>obtain ⟨t,q⟩:=(show ∃ t,u=Value.int i t from rv);cases q;exact PySem.W.kia_tup PySem.W.kitx_int I.kIn True.intro htp e (fun z=>nomatch z) h
 |str y=>obtain ⟨t,q⟩:=(show ∃ t,u=Value.str y t from rv);cases q;exact PySem.W.kia_tup PySem.W.kitx_str I.kIn True.intro htp e (fun z=>nomatch z) h
 | tup g _=>
   cases (show u=Value.ref _ from rv)
   obtain ⟨_,_,⟨o,h1,h2,_⟩,_⟩:=I.tuple g
   exact PySem.W.kia_tup PySem.W.kitx_tuple I.kIn ⟨o,h1,h2⟩ htp e (fun z=>nomatch z) h
 | lst g _=>
   cases (show u=Value.ref _ from rv)
   obtain ⟨_,_,⟨o,n,h1,h2,_⟩,_⟩:=I.list g
   exact PySem.W.kia_tup PySem.W.kitx_list I.kIn ⟨o,h1,h2⟩ htp e (fun z=>nomatch z) h
def rIsT (K:PySem.W.Frag):List V->Hp->VK->Prop:=fun xs H Q=>∃ x n d b,xs=[x,.ty n]/\Rep K H x d/\PySem.W.kitOne K (.type (tyD d)) (.type n)=some b/\Q (.bl b) H
theorem call_isT:CallR X (.builtin "isinstance") (rIsT X.K):=by
 intro pins s σ H xs us Q I r h
 obtain ⟨x,n,d,b,rfl,hr,e,q⟩:=h
 cases r with
 | cons r1 r=>
   cases r with
   | cons r2 r=>
     cases r
     cases (show _=Value.type n from r2)
     exact isD I hr r1 e fun tk=>⟨.bl b,H,I.tok tk,rfl,q⟩
def rIsT2 (K:PySem.W.Frag):List V->Hp->VK->Prop:=fun xs H Q=>∃ x a n m d b,xs=[x,.ref a]/\H a=some (.tup [.ty n,.ty m])/\Rep K H x d/\PySem.W.kitAny K (.type (tyD d)) [.type n,.type m]=some b/\Q (.bl b) H
theorem call_isT2:CallR X (.builtin "isinstance") (rIsT2 X.K):=by
 intro pins s σ H xs us Q I r h
 obtain ⟨x,a,n,m,d,b,rfl,ha,hr,e,q⟩:=h
 cases r with
 | cons r1 r=>
   cases r with
   | cons r2 r=>
     cases r
     cases (show _=Value.ref a from r2)
     obtain ⟨z,its,rv,o,h1,h2,k,h3⟩:=(show ObjOk X.prog X.w H s.heap a (.tup [.ty n,.ty m]) from I.hok a _ ha)
     obtain ⟨cls,dd,data,sl⟩:=o
     simp only at h2 h3
     subst h2 h3
     cases rv with
     | cons g1 rv=>
       cases rv with
       | cons g2 rv=>
         cases rv
         cases (show _=Value.type n from g1)
         cases (show _=Value.type m from g2)
         exact isD2 I hr r1 h1 e fun tk=>⟨.bl b,H,I.tok tk,rfl,q⟩
theorem bools_of {xs:List V} {us:List Value}:∀ {bs:List Bool},xs=bs.map V.bl->Vals xs us->us=bs.map Value.bool:=by
 intro bs e r
 induction bs generalizing xs us with
 |nil=>subst e;cases r;rfl
 | cons b t ih=>
   subst e
   cases r with
   |cons r1 r=>rw [List.map_cons,ih rfl r,(show _=Value.bool b from r1)]
theorem range_all (bs:List Bool):(List.range bs.length).all (fun i=>bs.getD i false)=bs.all id:=by
 induction bs with
 |nil=>rfl
 |cons b t ih=>rw [List.length_cons,List.range_succ_eq_map,List.all_cons,List.all_map,List.all_cons,← ih];rfl
theorem truth_bools {P:Program} {w:World} {A:Around} {bs:List Bool}:TruthOf P w A (fun i v=>((bs.map Value.bool).toArray)[i]?=some v) fun i=>bs.getD i false:=fun i v s Q E hP hQ=>by
 dsimp only at hP hQ
 rw [List.getElem?_toArray,List.getElem?_map] at hP
 cases e:bs[i]? with
 |none=>rw [e] at hP;cases hP
 | some b=>
   rw [e] at hP
   cases hP
   rw [List.getD_eq_getElem?_getD,e] at hQ
   exact wpAny_pure hQ
def rAllB (K:PySem.W.Frag) (f:List Bool->Bool):List V->Hp->VK->Prop:=fun xs H Q=>∃ a bs,xs=[.ref a]/\SqL K H a (bs.map V.bl)/\Q (.bl (f bs)) H
theorem call_allB (hh:X.calm=true):CallR X (.builtin "all") (rAllB X.K fun bs=>bs.all id):=by
 intro pins s σ H xs us Q I r h
 obtain ⟨a,bs,rfl,hq,q⟩:=h
 cases r with
 | cons r1 r=>
   cases r
   cases (show _=Value.ref a from r1)
   obtain ⟨its,rv,p,hz⟩:=I.list hq
   have e:=bools_of rfl rv
   subst e
   refine PySem.call_all_walk (wpAny_pyIter_list p.isList ?_)
   have hne:a≠s.heap.objs.size:=(by obtain ⟨o,ho,_⟩:=p.isList;exact Nat.ne_of_lt (Heap.lt_size ho))
   refine ⟨s.heap.objs.size,_,_,_,_,_,_,rfl,Walks.list (A:=X.A.in1) (I.ok.hd hh) s.heap.objs.size a hne (bs.map Value.bool).toArray,⟨⟨_,Heap.get?_push_size _ rfl,rfl,rfl⟩,?_⟩,truth_bools,fun h' tk hk=>?_⟩
   ·obtain ⟨o,ho,hc,n,hd⟩:=p.isList
    exact ⟨o,Heap.get?_push_of_some _ ho,hc,n,hd⟩
   ·rw [List.size_toArray,List.length_map,range_all]
    exact ⟨.bl _,H,I.kept fun b o e=>hk b o (by simp;exact Nat.ne_of_lt (Heap.lt_size e)) (Heap.get?_push_of_some _ e),rfl,q⟩
end
structure CompS (osc:Scope) (N:List Str) (scope:Scope) (own:List Str) (js:List Nat) (N':List Str):Prop where
 kind:scope.kind=.function
 nocell:∀ y∈scope.names,y.2≠.cell
 names:∀ y∈scope.names,y.2=.local->scope.names.lookup y.1=some .local
 free:∀ y∈scope.names,y.2=.free->osc.names.lookup y.1=some .cell∨osc.names.lookup y.1=some .free
 nm:N'=own++js.map fun j=>N.getD j Str.empty
 fr:∀ j∈js,j<N.length/\(N.getD j Str.empty,NameKind.free)∈scope.names/\∀ y∈scope.names,y.1=N.getD j Str.empty->y.2=.free
theorem CompScope.of {X:Cx} {osc scope:Scope} {N own N':List Str} {js:List Nat} (h1:X.env.scope=osc) (h2:X.N=N) (h:CompS osc N scope own js N'):CompScope X scope own js N':=by
 subst h1 h2
 exact ⟨h.kind,h.nocell,h.names,h.free,h.nm,fun j hj=>⟨(h.fr j hj).1,(h.fr j hj).2.1,fun k hk=>(h.fr j hj).2.2 _ hk rfl⟩⟩
mutual
def pdMax:PyData->Nat
 |.tuple xs=>max xs.length (pdMaxs xs)
 |.list xs=>max xs.length (pdMaxs xs)
 |_=>0
def pdMaxs:List PyData->Nat
 |[]=>0
 |d::r=>max (pdMax d) (pdMaxs r)
end
theorem pdMax_le {e:PyData}:∀ {es:List PyData},e∈es->pdMax e≤pdMaxs es
 |_::_,.head _=>by simp only [pdMaxs];omega
 |_::r,.tail _ h=>by have:=pdMax_le h;simp only [pdMaxs];omega
theorem pe_ty {X:Cx} {x:Str} {n:String} {pos:Pos} (hg:Gl X x) (hm:X.mg x=none) (hv:bootBuiltins x=some (.type n)) (hn:x ≠ "__name__":=by decide) (hd:(x == ("__debug__" : Str))=false:=by decide):PE X (.Name x pos) (tC (.ty n)):=pe_bltn (v:=.ty n) hg hm hv rfl hn hd
theorem ifT {c:Bool} {A B:Prop} (h:c=true) (q:A):if c=true then A else B:=by rw [if_pos h];exact q
theorem ifF {c:Bool} {A B:Prop} (h:c=false) (q:B):if c=true then A else B:=by rw [if_neg (by rw [h];exact Bool.false_ne_true)];exact q
section
variable {X:Cx} {a b c d:Expr} {ta tb tc td:TE} {pos:Pos}
end
abbrev TF:=Str->St->Hp->VK->Prop
def PF (X:Cx) (es:List Expr) (t:TF):Prop:=
 ∀ (out:Str) (pins:List (Addr×Obj)) (s:Shared) (σ:St) (H:Hp) (Q:VK),Inv X pins σ H s->t out σ H Q->wpAny (model X.prog X.w) X.A (joinParts out (evalEach es X.env)) (EP X pins σ Q) X.xe s
def FmtV (x:V) (y:Str):Prop:=(x=.str y/\y.length≤sizeLine)∨∃ i:Int,x=.int i/\i.natAbs.log2<1920/\y=Str.ofString (toString i)
section
variable {X:Cx} {es:List Expr} {t:TF} {e:Expr} {te:TE} {pos:Pos}
theorem pf_nil:PF X [] (fun out _ H Q=>out.length≤sizeLine/\Q (.str out) H):=fun out pins s σ H Q I h=>joinParts_nil ⟨.str out,H,I.tok _,⟨_,rfl⟩,h.2⟩ h.1
theorem pf_txt {x:Str} {j:Nat} (hr:PF X es t) (hs:evalEach (.Constant (.str x) j pos::es) X.env=eval (.Constant (.str x) j pos) X.env::evalEach es X.env:=by rfl) :
 PF X (.Constant (.str x) j pos::es) (fun out σ H Q=>(out++x).length≤sizeLine/\t (out++x) σ H Q):=by
 intro out pins s σ H Q I h
 rw [hs]
 exact joinParts_cons (Calls.Constant_str ⟨h.1,hr (out++x) pins _ σ H Q (I.tok _) h.2⟩)
theorem pf_val (he:PE X e te) (hr:PF X es t) (hs:evalEach (.FormattedValue e (-1) none pos::es) X.env=eval (.FormattedValue e (-1) none pos) X.env::evalEach es X.env:=by rfl) :
 PF X (.FormattedValue e (-1) none pos::es) (fun out σ H Q=>te σ H fun x H1=>∃ y,FmtV x y/\(out++y).length≤sizeLine/\t (out++y) σ H1 Q):=by
 intro out pins s σ H Q I h
 rw [hs]
 refine joinParts_cons (FormattedValue_plain (thn (he pins s σ H _ I h) fun v s1 ⟨x,H1,I1,r1,y,fm,hl,q⟩=>?_))
 rcases fm with ⟨rfl,hy⟩|⟨i,rfl,hi,rfl⟩
 ·obtain ⟨tk,rfl⟩:=r1
  exact formatField_str (fun t' tk=>⟨hl,hr _ pins _ σ H1 Q (I1.tok tk) q⟩) hy
 ·obtain ⟨tk,rfl⟩:=r1
  exact formatField_int_small hi ⟨hl,hr _ pins _ σ H1 Q (I1.tok _) q⟩
def tFstr (t:TF):TE:=fun σ H Q=>t Str.empty σ H Q
theorem pe_fstr {e1 e2:Expr} (h:PF X (e1::e2::es) t) (hs:evalEach (e1::e2::es) X.env=eval e1 X.env::eval e2 X.env::evalEach es X.env:=by rfl):PE X (.JoinedStr (e1::e2::es) pos) (tFstr t):=by
 intro pins s σ H Q I hw
 refine JoinedStr_many ?_
 rw [← hs]
 exact h _ pins s σ H Q I hw
end
section
variable {X:Cx} {CX:CXT} {k:Nat} {f C:Addr} {fd:FuncData} {ps:List Str} {sp:Sp} {E:XK}
end
end L2
namespace HT
open PySem PySem.Spec PyProof.Rows
section
variable {prog:Program} {w:World} {A:Around} {E:Value->Shared->Prop} {s:Shared}
theorem tup_slice {t sl:Addr} {items:Array Value} {a b c:Value} {lo step:Int} {n:Nat} {Q:Value->Shared->Prop} (ht:IsTup s.heap t items) (hs:s.heap.IsSliceOf sl a b c)
 (ha:∀ (A':Around) (Q':Int×Int×Nat->Shared->Prop) (E':Value->Shared->Prop),Q' (lo,step,n) s->wpAny (model prog w) A' (Builtin.Slice.sliceApplied (.ref sl) (pure (items.size:Int))) Q' E' s)
 (h1:(lo == 0 && step == 1 && n == items.size)=true->Q (.ref t) s)
 (h2:¬ (lo == 0 && step == 1 && n == items.size)=true->((List.range n).filterMap fun (k:Nat)=>items[(lo+(k:Int)*step).toNat]?).length≤sizeLine/\
  Q (.ref s.heap.objs.size) { s with heap:=s.heap.push { cls:=.type "tuple",data:=.seq ((List.range n).filterMap fun (k:Nat)=>items[(lo+(k:Int)*step).toNat]?).toArray } }) :
 wpAny (model prog w) A (getItem (.ref t) (.ref sl)) Q E s:=by
 obtain ⟨so,hso,hsc,hsd⟩:=id hs
 have hty:s.TypeIs (.ref sl) "slice":=⟨so,hso,hsc⟩
 obtain ⟨to,hto,htc,nt,htd⟩:=id ht
 unfold getItem
 try with_reducible refine wpAny_holding ?_
 first|refine wpAny_bind (wpAny_pure ?_)|skip
 refine wpAny_bind (wpAny_sequenceKey ht.typeIs (by decide) (wpAny_bind (wpAny_callSpecial?_slot (name:=Str.ofString "__getitem__") ht.typeIs PyProof.Rows.slot_tuple_getitem (wpAny_call_entry PyProof.Rows.slot_tuple_getitem ht.typeIs entry_tuple_getitem ?_ (args_tuple_getitem _ _)))))
 show wpAny _ _ (Builtin.Tuple.tupleItemsOf (.ref t) >>= _) _ _ s
 refine wpAny_bind (tupleItemsOf_ ht (wpAny_bind (wpAny_typeOf hty ?_)))
 rw [if_pos (by decide)]
 refine wpAny_bind (ha _ _ _ ?_)
 show wpAny _ _ (if (lo == 0 && step == 1 && n == items.size)=true then _ else _) _ _ s
 by_cases hw:(lo == 0 && step == 1 && n == items.size)=true
 ·rw [if_pos hw]
  have hx:wpAny (model prog w) A.in1 (Builtin.Tuple.tupleIsExact (.ref t)) (fun b s'=>b=true/\s'=s) E s:=by
   unfold Builtin.Tuple.tupleIsExact
   refine wpAny_bind (wpAny_typeOf_ref hto ?_)
   rw [htc]
   exact wpAny_pure ⟨rfl,rfl⟩
  first
   |refine wpAny_bind (wpAny_mono hx (fun b s' h'=>?_) fun _ _ z=>z)
   |refine wpAny_bind (wpAny_bind (wpAny_mono hx (fun b s' h'=>?_) fun _ _ z=>z))
  obtain ⟨rfl,rfl⟩:=h'
  rw [if_pos rfl]
  first
   |exact wpAny_bind (wpAny_rule (wpAny_pure ⟨_,rfl,wpAny_pure (h1 hw)⟩))
   |exact wpAny_bind (wpAny_rule (wpAny_bind (wpAny_pure (wpAny_pure ⟨_,rfl,wpAny_pure (h1 hw)⟩))))
 ·rw [if_neg hw]
  obtain ⟨hz,hq⟩:=h2 hw
  have hok:sizeOk (.seq ((List.range n).filterMap fun (k:Nat)=>items[(lo+(k:Int)*step).toNat]?).toArray):=by
   show (_:Array Value).size≤sizeLine
   rw [List.size_toArray];exact hz
  first
   |exact wpAny_bind (m:=Builtin.Tuple.tupleExact _) (wpAny_newObj_type (wpAny_pure ⟨_,rfl,wpAny_pure hq⟩) hok)
   |exact wpAny_bind (m:=Builtin.Tuple.tupleExact _) (wpAny_newObj_type (wpAny_bind (wpAny_pure (wpAny_pure ⟨_,rfl,wpAny_pure hq⟩))) hok)
   |exact wpAny_bind (wpAny_bind (m:=Builtin.Tuple.tupleExact _) (wpAny_newObj_type (wpAny_pure (wpAny_pure ⟨_,rfl,wpAny_pure hq⟩)) hok))
end
end HT
namespace L2
open PySem PySem.Spec PyProof.Rows PySem.SeqAt
section
variable {X:Cx}
def rSlW (K:PySem.W.Frag):V->Option Int->Option Int->Hp->VK->Prop:=fun x lo hi H Q=>∃ a xs,x=.ref a/\SqT K H a xs/\(cutV xs lo hi=xs->Q (.ref a) H)/\∀ p,H p=none->Q (.ref p) (upd H p (.tup (cutV xs lo hi)))
theorem sl_tupW:SlR X (rSlW X.K):=by
 intro pins s σ H x v vl vu lo hi sl Q I rx hs pl pu h
 obtain ⟨a,xs,rfl,hx,q1,q2⟩:=h
 by_cases hw:HT.sIx xs.length 0 lo=0/\HT.sIx xs.length xs.length hi=xs.length
 ·cases (show v=Value.ref a from rx)
  obtain ⟨its,r,ht,hz⟩:=I.tuple hx
  have hlen:its.toArray.size=xs.length:=by rw [List.size_toArray];exact r.length.symm
  refine ⟨"tuple",_,PyProof.Rows.slot_tuple_getitem.lookup,ht.typeIs,?_⟩
  have e:cutV xs lo hi=xs:=by
   unfold cutV
   rw [hw.1,hw.2,List.drop_zero,Nat.sub_zero,List.take_length]
  refine HT.tup_slice ht hs (fun A' Q' E' q'=>HT.sliceApplied_gen hs pl pu q') (fun _=>⟨.ref a,H,I,rfl,q1 e⟩) fun hn=>(hn ?_).elim
  rw [hlen,hw.1,hw.2]
  simp
 ·exact sl_tup pins s σ H _ v vl vu lo hi sl Q I rx hs pl pu ⟨a,xs,rfl,hx,hw,q2⟩
end
section
variable {X:Cx}
end
section
variable {X:Cx} {CX:CXT} {k:Nat} {f C:Addr} {fd:FuncData} {ps:List Str} {sp:Sp} {E:XK}
end
section
variable {X:Cx} {pins:List (Addr×Obj)} {σ:St} {H:Hp} {s:Shared} {h':Heap}
theorem Inv.turnLaid {a:Addr} {o:HO} {t':Nat} {fp:List Addr} (I:Inv X pins σ H s) (k:∀ b u,b∉fp->s.heap.get? b=some u->h'.get? b=some u) (ke:∀ b∈fp,∃ u,h'.get? b=some u) (hf:∀ b∈fp,FpOk X pins H b) (hp:s.heap.objs.size≤a) (new:ObjOk X.prog X.w (upd H a o) h' a o) :
 Inv X pins σ (upd H a o) { s with heap:=h',toks:=t' }:=by
 have hn:H a=none:=I.hok.fresh hp
 have off:∀ b u,H b=some u->b∉fp:=fun b u e z=>by rw [(hf b z).1] at e;cases e
 have up:∀ b u,H b=some u->(upd H a o) b=some u:=fun b u e=>by rw [upd_ne (ne_of_none e hn)];exact e
 refine I.step (g':=s.gens) (d':=s.drawn) (ch:=fp) (fun b hb=>?_) (fun b u _ _ hc e _=>k b u hc e) (fun b u _ _ hc e _=>⟨u.slots,k b u hc e⟩) (fun b u _ e n=>?_) (fun b u hc e=>⟨u,k b u hc e⟩) (fun b xs e=>up b _ e) (fun b u z e=>up b _ e) (fun b ps e=>⟨#[],by rw [up b _ e];simp⟩) (fun m hm=>?_) (fun b u e=>?_) I.bare
 ·obtain ⟨_,f1,_,f3,f4,f5⟩:=hf b hb
  exact ⟨f3,f1,f4,f5⟩
 ·rw [upd_ne (Nat.ne_of_lt (Nat.lt_of_lt_of_le (Heap.lt_size e) hp))];exact n
 ·obtain ⟨u,es,ep,ho,r⟩:=hm
  exact ⟨u,es,ep,k _ u (fun z=>(hf _ z).2.1 rfl) ho,r⟩
 ·by_cases hb:b=a
  ·subst hb;rw [upd_same] at e;cases e;exact new
  ·rw [upd_ne hb] at e
   refine (I.hok b u e).stay (fun c v hc q=>k c v ?_ q) (fun c q=>up c _ q) fun c xs q=>up c _ q
   rcases hc with rfl|z
   ·exact off _ u e
   ·exact off c _ z
theorem bt_enumerate:bootBuiltins "enumerate" = some (.type "enumerate"):=by decide +kernel
end
def ExcOk (h:Heap) (H:Hp) (g:Heap) (e:Addr) (cls:Value) (dd:Option Addr):Prop:=
 ∃ oe vs,h.get? e=some oe/\oe.cls=cls/\oe.dict=dd/\oe.data=.fields vs/\g.get? e=none/\H e=none/\
   (vs[1]?=some .none∨∃ T oT ts,vs[1]?=some (.ref T)/\T≠e/\h.get? T=some oT/\oT.data=.fields ts/\ts[3]?=some .none/\g.get? T=none/\H T=none)
theorem ExcOk.mono {h:Heap} {H:Hp} {g g':Heap} {e:Addr} {cls:Value} {dd:Option Addr} (x:ExcOk h H g e cls dd) (hl:∀ b,g.get? b=none->g'.get? b=none):ExcOk h H g' e cls dd:=by
 obtain ⟨oe,vs,h1,h2,h3,h4,h5,h6,h7⟩:=x
 refine ⟨oe,vs,h1,h2,h3,h4,hl _ h5,h6,?_⟩
 rcases h7 with h7|⟨T,oT,ts,a,b,c,d,f,gT,i⟩
 ·exact .inl h7
 ·exact .inr ⟨T,oT,ts,a,b,c,d,f,hl _ gT,i⟩
theorem mapF_dict (f:Array Value->Array Value) (o:Obj):(Obj.mapFields f o).dict=o.dict:=by
 obtain ⟨c,d,da,sl⟩:=o
 cases da <;> rfl
section
variable {M:Model} {A:Around} {E:Value->Shared->Prop} {s:Shared}
theorem entryX {base:Heap} {env:Env} {outer:List Env} {L e:Addr} {oe:Obj} {vs:Array Value} {head:Value} {hadNext:Bool} {Q:Unit->Shared->Prop} (hfr:A.frames=some (env::outer)) (hl:s.heap.FunFrames base (env::outer)) (hf:env.frame=some L)
 (he:s.heap.get? e=some oe) (hd:oe.data=.fields vs) (hsz:1<vs.size)
 (h:∀ (h':Heap) (T:Addr) (oe' oT:Obj) (vs' ts:Array Value),s.heap.objs.size≤T->h'.get? e=some oe'->oe'.cls=oe.cls->oe'.dict=oe.dict->oe'.data=.fields vs'->vs'[1]?=some (.ref T)->h'.get? T=some oT->oT.data=.fields ts->ts[3]?=some .none->
  (∀ b o,b≠e->b∉(env::outer).filterMap (·.frame)->s.heap.get? b=some o->h'.get? b=some o)->(∀ b o,b≠e->s.heap.get? b=some o->∃ sl,h'.get? b=some { o with slots:=sl })->Q () { s with heap:=h' }) :
 wpAny M A (do let a ← frameOf env;let pl ← entryPlaceOf L hadNext;let b ← EntryCells.newEntry head a .none (rawInt L) .none pl;setField (.ref e) 1 b) (fun _ s'=>wpAny M A (setFlight (.ref e) none) Q E s') E s:=by
 have hene:e∉(env::outer).filterMap (·.frame):=fun hm=>by
  obtain ⟨_,o,ho,hnf⟩:=hl.mem hm
  rw [he] at ho
  cases ho
  exact hnf vs hd
 refine wpAny_bind (wpAny_frameOf_fun hfr hl hf fun g hs=>wpAny_bind (wpAny_entryPlaceOf fun pl hpl=>?_))
 unfold EntryCells.newEntry newFields
 refine wpAny_bind (wpAny_newObj_type ?_ (hpl.sizeOk5 _ _ _ _ _))
 have ge:g.get? e=some oe:=(hs.2.1 e hene).trans he
 generalize hto:([head,.ref L,.none,rawInt L,.none]++(if pl.isEmpty then List.replicate 6 Value.none else pl)).toArray=tv
 have t3:3<tv.size:=by
  rw [← hto]
  simp only [List.size_toArray,List.length_append,List.length_cons,List.length_nil]
  omega
 have pe:=Heap.get?_push_of_some (h:=g) { cls:=.type "traceback",dict:=none,data:=.fields tv } ge
 refine wpAny_setField pe hd hsz ?_
 have ne:g.objs.size≠e:=Nat.ne_of_gt (Heap.lt_size ge)
 have d3:=Obj.data_mapFields hd (·.setIfInBounds 1 (Value.ref g.objs.size))
 have e3:=Heap.get?_update_self (Obj.mapFields (·.setIfInBounds 1 (Value.ref g.objs.size))) pe (Obj.isFreed_of_fields d3)
 have T3:=(Heap.get?_update_other (g.push { cls:=.type "traceback",dict:=none,data:=.fields tv }) (Obj.mapFields (·.setIfInBounds 1 (Value.ref g.objs.size))) (Ne.symm ne)).trans (Heap.get?_push_size g rfl)
 unfold setFlight
 refine wpAny_bind (wpAny_field e3 d3 (x:=.ref g.objs.size) (by simp [hsz]) ?_)
 rw [if_pos (show (Value.ref g.objs.size != Value.none)=true by simp)]
 refine wpAny_setField T3 rfl t3 ?_
 have hgz:s.heap.objs.size≤g.objs.size:=Nat.le_of_eq hs.1.symm
 have keep:∀ b o,b≠e->g.get? b=some o->(((g.push { cls:=.type "traceback",dict:=none,data:=.fields tv }).update e (Obj.mapFields (·.setIfInBounds 1 (Value.ref g.objs.size)))).update g.objs.size (Obj.mapFields (·.setIfInBounds 3 ((none:Option Addr).elim Value.none fun f=>rawInt f)))).get? b=some o:=fun b o hb hg=>by
  rw [Heap.get?_update_other _ _ (Nat.ne_of_gt (Heap.lt_size hg)),Heap.get?_update_other _ _ (Ne.symm hb)]
  exact Heap.get?_push_of_some _ hg
 refine h _ g.objs.size _ _ _ _ hgz (by rw [Heap.get?_update_other _ _ ne];exact e3) (Obj.cls_mapFields _ _) (mapF_dict _ _) d3 (by simp [hsz]) (Heap.get?_update_self _ T3 (Obj.isFreed_of_fields (Obj.data_mapFields rfl _))) (Obj.data_mapFields rfl _) (by simp [t3]) (fun b o hb hbf hbo=>keep b o hb ((hs.2.1 b hbf).trans hbo)) fun b o hb hbo=>?_
 obtain ⟨sl,q⟩:=hs.2.2 b o hbo
 exact ⟨sl,keep b _ hb q⟩
end
section
variable {X:Cx} {pins:List (Addr×Obj)} {σ:St} {H:Hp} {s:Shared} {e:Addr} {cls:Value} {dd:Option Addr}
theorem leaveX {A:Around} {Q:Unit->Shared->Prop} {E:Value->Shared->Prop} (I:Inv X pins σ H s) (hst:X.stack=X.env::X.outer) (hfm:X.env.frame=some X.env.locals) (hfr:A.frames=some X.stack) (hex:X.ex=[]) (x:ExcOk s.heap H X.s₀.heap e cls dd)
 (h:∀ h',ExcOk h' H X.s₀.heap e cls dd->Un (frs X.outer) [] X.H₀ H X.s₀.heap h'->HOk X.prog X.w H h'->Q () { s with heap:=h' }):wpAny (model X.prog X.w) A (leaving X.env (.ref e)) Q E s:=by
 have hl:=I.stack
 rw [hst] at hfr hl
 obtain ⟨oe,vs,h1,h2,h3,h4,h5,h6,h7⟩:=x
 have free:∀ b∈(X.env::X.outer).filterMap (·.frame),H b=none:=fun b hb=>I.stkFree b (by rw [hst];exact hb)
 have fin:∀ (h':Heap) (T:Addr) (oe' oT:Obj) (vs' ts:Array Value),X.s₀.heap.get? T=none->T≠e->H T=none->h'.get? e=some oe'->oe'.cls=oe.cls->oe'.dict=oe.dict->oe'.data=.fields vs'->vs'[1]?=some (.ref T)->h'.get? T=some oT->oT.data=.fields ts->ts[3]?=some .none->
  (∀ b o,b≠e->(H b≠none∨∃ o₀,X.s₀.heap.get? b=some o₀)->b∉(X.env::X.outer).filterMap (·.frame)->s.heap.get? b=some o->h'.get? b=some o)->(∀ b o,(∃ o₀,X.s₀.heap.get? b=some o₀)->s.heap.get? b=some o->∃ sl,h'.get? b=some { o with slots:=sl })->Q () { s with heap:=h' }:=by
  intro h' T oe' oT vs' ts hT hTe hTn g1 g2 g3 g4 g5 g6 g7 g8 kp ks
  refine h h' ⟨oe',vs',g1,g2.trans h2,g3.trans h3,g4,h5,h6,.inr ⟨T,oT,ts,g5,hTe,g6,g7,g8,hT,hTn⟩⟩ ?_ ?_
  ·have B:=I.base
   rw [hex] at B
   have nl:∀ b o,X.s₀.heap.get? b=some o->b<X.s₀.heap.objs.size:=fun b o z=>Heap.lt_size z
   have ninF:∀ b,b<X.s₀.heap.objs.size->b∉frs X.outer->b∉(X.env::X.outer).filterMap (·.frame):=fun b hb hn hm=>by
    rw [List.filterMap_cons,hfm] at hm
    rcases List.mem_cons.mp hm with rfl|hm
    ·exact absurd (Nat.lt_of_lt_of_le hb I.ok.above) (Nat.lt_irrefl _)
    ·exact hn hm
   refine ⟨fun b o z n hb hx=>kp b o (fun q=>by subst q;rw [h5] at z;cases z) (.inr ⟨o,z⟩) (ninF b (nl b o z) hb) (B.keep b o z n hb hx),fun b o z n hb hx=>?_,B.free,fun b o z hx=>?_,B.tups,B.frzs,B.tbls⟩
   ·obtain ⟨sl,q⟩:=B.slot b o z n hb hx
    obtain ⟨sl',q'⟩:=ks b _ ⟨o,z⟩ q
    exact ⟨sl',q'⟩
   ·obtain ⟨o',q⟩:=B.there b o z hx
    obtain ⟨sl',q'⟩:=ks b _ ⟨o,z⟩ q
    exact ⟨_,q'⟩
  ·intro b u hb
   refine (I.hok b u hb).stay (fun c v hc q=>kp c v ?_ (.inl ?_) ?_ q) (fun _ q=>q) fun _ _ q=>q
   ·rintro rfl
    rcases hc with rfl|z
    ·rw [h6] at hb;cases hb
    ·rw [h6] at z;cases z
   ·rcases hc with rfl|z
    ·rw [hb];simp
    ·rw [z];simp
   ·intro hm
    have:=free c hm
    rcases hc with rfl|z
    ·rw [this] at hb;cases hb
    ·rw [this] at z;cases z
 unfold leaving noteFrame
 simp only [hfm]
 rcases h7 with h7|⟨T,oT,ts,t1,t2,t3,t4,t5,t6,t7⟩
 ·refine wpAny_bind (wpAny_bind (wpAny_field h1 h4 h7 ?_))
  rw [if_neg (by decide)]
  refine entryX hfr hl hfm h1 h4 (Array.getElem?_eq_some_iff.mp h7).1 fun h' T oe' oT vs' ts hT g1 g2 g3 g4 g5 g6 g7 g8 kp ks=>?_
  have hTe:T≠e:=fun q=>by subst q;exact absurd (Nat.lt_of_lt_of_le (Heap.lt_size h1) hT) (Nat.lt_irrefl _)
  exact fin h' T oe' oT vs' ts (Heap.get?_none_of_le (Nat.le_trans I.sz hT)) hTe (I.hok.fresh hT) g1 g2 g3 g4 g5 g6 g7 g8 (fun b o hb _ hm z=>kp b o hb hm z) fun b o hb z=>ks b o (fun q=>by subst q;obtain ⟨_,hb⟩:=hb;rw [h5] at hb;cases hb) z
 ·refine wpAny_bind (wpAny_bind (wpAny_field h1 h4 t1 ?_))
  rw [if_pos (show (Value.ref T != Value.none)=true by simp)]
  refine wpAny_bind (wpAny_field t3 t4 t5 ?_)
  rw [if_neg (show ¬ ((Value.none == rawInt X.env.locals)=true) by simp [rawInt])]
  refine wpAny_bind (wpAny_setField t3 t4 (Array.getElem?_eq_some_iff.mp t5).1 ?_)
  have other:∀ b,b≠T->(s.heap.update T (Obj.mapFields (·.setIfInBounds 3 Value.none))).get? b=s.heap.get? b:=fun b hb=>Heap.get?_update_other _ _ (Ne.symm hb)
  have noR:∀ b o,s.heap.get? b=some o->(∀ vs,o.data≠.fields vs)->b≠T:=fun b o hb hnf q=>by
   subst q
   rw [t3] at hb
   cases hb
   exact hnf ts t4
  refine entryX (s:={ s with heap:=s.heap.update T (Obj.mapFields (·.setIfInBounds 3 Value.none)) }) hfr (hl.of_keeps fun b o hb hnf=>⟨o,(other b (noR b o hb hnf)).trans hb,rfl⟩) hfm ((other e (Ne.symm t2)).trans h1) h4 (Array.getElem?_eq_some_iff.mp t1).1 fun h' T' oe' oT' vs' ts' hT g1 g2 g3 g4 g5 g6 g7 g8 kp ks=>?_
  have hT':s.heap.objs.size≤T':=by
   have z:(s.heap.update T (Obj.mapFields (·.setIfInBounds 3 Value.none))).objs.size=s.heap.objs.size:=Heap.size_update _ _ _
   exact Nat.le_trans (Nat.le_of_eq z.symm) hT
  have hTe:T'≠e:=fun q=>by subst q;exact absurd (Nat.lt_of_lt_of_le (Heap.lt_size h1) hT') (Nat.lt_irrefl _)
  refine fin h' T' oe' oT' vs' ts' (Heap.get?_none_of_le (Nat.le_trans I.sz hT')) hTe (I.hok.fresh hT') g1 g2 g3 g4 g5 g6 g7 g8 (fun b o hb hq hm z=>kp b o hb hm ((other b ?_).trans z)) fun b o hb z=>ks b o (fun q=>by subst q;obtain ⟨_,hb⟩:=hb;rw [h5] at hb;cases hb) ((other b ?_).trans z)
  ·rintro rfl
   rcases hq with hq|hq
   ·exact hq t7
   ·obtain ⟨_,hq⟩:=hq
    rw [t6] at hq;cases hq
  ·rintro rfl
   obtain ⟨_,hb⟩:=hb
   rw [t6] at hb;cases hb
end
def CX1 (P:Program) (w:World):CXT:=fun outer H s E e s'=>∃ (ea:Addr) (cls:Value) (dd:Option Addr) (H':Hp),e=.ref ea/\s'.os=s.os/\AllBare s'.gens/\Un (frs outer) [] H H' s.heap s'.heap/\HOk P w H' s'.heap/\ExcOk s'.heap H' s.heap ea cls dd/\E cls dd H'
section
variable {P:Program} {w:World} {K:PySem.W.Frag} {mg:Str->Option Value} {base:Heap} {N:List Str} {qual:Str} {scope:Scope} {f:Addr} {cd:Value} {A:Around} {outer:List Env} {s:Shared} {H:Hp} {E:XK}
theorem xe1 {pins:List (Addr×Obj)} {σ:St} {H':Hp} {s':Shared} {e:Addr} {cls:Value} {dd:Option Addr} (I:Inv (cxOf (CX1 P w) P w K mg base N qual scope f cd A outer s H E) pins σ H' s') (x:ExcOk s'.heap H' s.heap e cls dd) (h:E cls dd H') :
 (cxOf (CX1 P w) P w K mg base N qual scope f cd A outer s H E).xe (.ref e) s':=
 leaveX I rfl rfl I.ok.frames rfl x fun h' x' u k=>⟨e,cls,dd,H',rfl,I.os,I.bare,u,k,x',h⟩
theorem pass1 {E':XK} (hE:∀ cls dd H',E' cls dd H'->E cls dd H'):Passes (CX1 P w) (cxOf (CX1 P w) P w K mg base N qual scope f cd A outer s H E) E':=by
 intro pins σ H1 s1 e s' I h
 obtain ⟨ea,cls,dd,H',rfl,os,bare,un,hok,x,q⟩:=h
 obtain ⟨hh,g,d,t,os'⟩:=s'
 obtain rfl:os'=s1.os:=os
 have I':Inv (cxOf (CX1 P w) P w K mg base N qual scope f cd A outer s H E) pins σ H' ⟨hh,g,d,t,s1.os⟩:=I.call (h':=hh) (g':=g) (d':=d) (t':=t) (ch:=[]) un hok bare (fun b z=>absurd z (by simp))
 refine xe1 I' (x.mono fun b hb=>?_) (hE _ _ _ q)
 cases z:s.heap.get? b with
 |none=>rfl
 | some o=>
   obtain ⟨o',q'⟩:=I.base.there b o z (by intro hz;cases hz)
   rw [hb] at q';cases q'
end
end L2
namespace L2
open PySem PySem.Spec PyProof.Rows PySem.SeqAt PySem.W
def makesX (K:Frag) (C:Addr) (B newId:String):Bool:=match K.lookup C with
 |some ⟨_,_,.cls cd,sl⟩=>!cd.abstract && !cd.hasDel && (sl.toList[4]?).join == some (.builtin newId) && !cd.mro.isEmpty && cd.mro.contains (.ref C) && cd.mro.contains (.type B) && cd.mro.contains (.type "BaseException") && !cd.mro.contains (.type "AttributeError") && !cd.mro.contains (.type "NameError") &&
  specialIn K (.ref C) "__call__" == some (some (.builtin "type.__call__")) && instIn K (.ref C) (.type "type") == some true
 |_=>false
structure MakesX (M:Model) (h:Heap) (C:Addr) (B newId:String):Prop where
 obj:∃ oc od cd sl,h.get? C=some ⟨oc,od,.cls cd,sl⟩/\cd.abstract=false/\cd.hasDel=false/\cd.mro.isEmpty=false
 made:Looks M h (Bind.madeBy (.ref C)) (some newId)
 base:Looks M h (Bind.staticBase (.ref C)) (.ref C)
 self:Looks M h (isSubtype (.ref C) (.ref C)) true
 isB:Looks M h (isSubtype (.ref C) (.type B)) true
 isE:Looks M h (isSubtype (.ref C) (.type "BaseException")) true
 noA:Looks M h (isSubtype (.ref C) (.type "AttributeError")) false
 noN:Looks M h (isSubtype (.ref C) (.type "NameError")) false
 call:Looks M h (specialOf (.ref C) "__call__") (some (.builtin "type.__call__"))
 typ:Looks M h (isInstance (.ref C) (.type "type")) true
theorem makesX_of {K:Frag} {M:Model} {h:Heap} (X:K.In h) {C:Addr} {B newId:String} (e:makesX K C B newId=true):MakesX M h C B newId:=by
 unfold makesX at e
 split at e
 ·rename_i oc od cd sl ho
  simp only [Bool.and_eq_true,Bool.not_eq_true',beq_iff_eq] at e
  obtain ⟨⟨⟨⟨⟨⟨⟨⟨⟨⟨e1,e2⟩,e3⟩,e4⟩,e5⟩,e6⟩,e7⟩,e8⟩,e9⟩,e10⟩,e11⟩:=e
  have hc:clsIn K C=some cd:=by unfold clsIn;rw [ho]
  have hm:Looks M h (mroOf (.ref C)) cd.mro:=(looks_clsIn X hc).andThen .now
  obtain ⟨c,l,hl⟩:∃ c l,cd.mro=c::l:=by
   cases q:cd.mro with
   |nil=>rw [q] at e4;cases e4
   |cons c l=>exact ⟨c,l,rfl⟩
  have made:Looks M h (Bind.madeBy (.ref C)) (some newId):=by
   intro A Q E s k q
   unfold Bind.madeBy
   refine wpAny_bind (hm A _ E s k ?_)
   rw [hl,List.forIn_cons]
   refine wpAny_bind (wpAny_bind (wpAny_bind (wpAny_bind (wpAny_loadPart (k _ _ (X _ _ ho)) (wpAny_pure ?_)))))
   dsimp only
   rw [← Array.getElem?_toList,e3]
   exact wpAny_pure (wpAny_pure (wpAny_pure q))
  have sub:∀ (v:Value) (b:Bool),cd.mro.contains v=b->Looks M h (isSubtype (.ref C) v) b:=fun v b z=>looks_mroIn X (by unfold mroIn;rw [hc,Option.bind_some,if_neg (by rw [e4];decide),z])
  refine ⟨⟨oc,od,cd,sl,X _ _ ho,e1,e2,e4⟩,made,?_,sub _ _ e5,sub _ _ e6,sub _ _ e7,sub _ _ e8,sub _ _ e9,looks_specialIn X e10,looks_instIn X e11⟩
  intro A Q E s k q
  unfold Bind.staticBase
  refine wpAny_bind (hm A _ E s k ?_)
  rw [hl,List.forIn_cons]
  exact wpAny_bind (wpAny_bind (wpAny_bind (made A _ E s k (wpAny_pure (wpAny_pure (wpAny_pure q))))))
 ·cases e
abbrev excNew (C t:Addr):Obj:={ cls:=.ref C,data:=.fields #[.ref t,.none,.none,.none,.bool false,.none] }
section
variable {prog:Program} {w:World} {A:Around} {C:Addr} {R:Result->Shared->Prop} {h:Heap} {g:Array GenState} {d:Drawn} {t:Nat} {os:OsState} {B newId initId:String} {bm:List Value}
theorem newX (F:ExcBaseFacts B newId initId bm) {rest:List Value} (Y:MakesX (model prog w) h C B newId) (hrest:rest.length≤sizeLine)
 (hq:R (.ok (.ret (.ref (h.objs.size+1)))) ⟨(h.push { cls:=.type "tuple",data:=.seq rest.toArray }).push (excNew C h.objs.size),g,d,t,os⟩) :
 codeAny (model prog w) A (.call (.builtin newId) ⟨.ref C::rest,[]⟩) R ⟨h,g,d,t,os⟩:=by
 obtain ⟨⟨oc,od,cd,sl,hC,e1,e2,e4⟩,made,base,self,isB,isE,noA,noN,call,typ⟩:=Y
 have hstar:=F.noStar
 have hends:=F.ends
 refine codeAny_call_builtin_code (Code.quiet_builtin _ F.quiet) ?_
 simp only [checkBuiltinCall,F.newKind,F.newSplit,F.newRow]
 have here:Looks (model prog w) h (Bind.madeHere newId (.ref C)) ():=base.andThen (made.andThen (Looks.of_pure (by simp only [Option.map_some,bne_self_eq_false,Bool.false_eq_true,if_false])))
 repeat (first|simp only [bne_self_eq_false,Bool.false_eq_true,if_false]|lk)
 repeat (first|wp_step)
 refine PySem.codeAny_builtinAt F.entry ?_
 unfold Builtin.«BaseException.__new__»
 refine PySem.wpAt_bind ?_
 show PySem.wpAt _ _ _ (stack >>= _) _ _ _
 refine PySem.wpAt_bind (PySem.wpAt_stack fun p below=>PySem.wpAt_of_wpAny ?_)
 wp_walk
 refine PySem.wpAt_of_wpAny ?_
 rw [F.owner]
 have here2:Looks (model prog w) h (Bind.madeHere "BaseException.__new__" (.ref C)) ():=base.andThen (made.andThen (Looks.of_pure (by simp only [Option.map_some,F.canon,bne_self_eq_false,Bool.false_eq_true,if_false])))
 repeat (first|with_reducible refine here2.at ?_|with_reducible refine isB.at ?_|with_reducible refine noA.at ?_|with_reducible refine noN.at ?_|with_reducible refine wpAny_loadPart_at hC ?_|wp_step)
 show R _ _
 rw [Heap.size_push]
 exact hq
theorem makeX_core (F:ExcBaseFacts B newId initId bm) {rest:List Value} {init:Value} (Y:MakesX (model prog w) h C B newId) (hi:Looks (model prog w) h (typeLookup (.ref C) "__init__") (some init)) (hb:∀ self,Looks (model prog w) h (bindSpecial init self) (init,[self])) (hrest:rest.length≤sizeLine)
 (hq:codeAny (model prog w) (A.under (.builtin "type.__call__" ⟨.ref C::rest,[]⟩)) (.call init ⟨.ref (h.objs.size+1)::rest,[]⟩) (InitBack (h.objs.size+1) R) ⟨(h.push { cls:=.type "tuple",data:=.seq rest.toArray }).push (excNew C h.objs.size),g,d,t,os⟩) :
 codeAny (model prog w) A (.call (.ref C) ⟨rest,[]⟩) R ⟨h,g,d,t,os⟩:=by
 have Y':=Y
 obtain ⟨⟨oc,od,cd,sl,hC,e1,e2,e4⟩,made,base,self,isB,isE,noA,noN,call,typ⟩:=Y
 refine codeAny_of_tree ?_
 show wpAny _ _ (callAny (.ref C) _) _ _ _
 refine nd_load hC ?_
 show wpAny _ _ (callAny.viaDunder (.ref C) _) _ _ _
 unfold callAny.viaDunder
 refine wpAny_bind (call.at ?_)
 dsimp only
 rw [tc_bind]
 refine wpAny_bind (wpAny_pure (wpAny_bind (wpAny_pure (wpAny_pure (a:=Fin.again (.call (.builtin "type.__call__") ⟨.ref C::rest,[]⟩)) (And.intro rfl ?_)))))
 refine codeAny_call_builtin_at (Code.quiet_builtin _ (by decide +kernel)) entry_typeCall (check_slot tc_kind tc_split typ (tc_args _ _ _) ?_)
 unfold Builtin.«type.__call__»
 have hm:Looks (model prog w) h (mroOf (.ref C)) cd.mro:=((Looks.ld (part:=none) hC).andThen .now).andThen .now
 repeat (first|simp only [e4,Bool.false_eq_true,if_false]|with_reducible refine wpAny_call ?_|lk)
 refine newX F Y' hrest ?_
 have k:∀ b o,h.get? b=some o->((h.push { cls:=.type "tuple",data:=.seq rest.toArray }).push (excNew C h.objs.size)).get? b=some o:=fun b o e=>Heap.get?_push_of_some _ (Heap.get?_push_of_some _ e)
 have hx:((h.push { cls:=.type "tuple",data:=.seq rest.toArray }).push (excNew C h.objs.size)).get? (h.objs.size+1)=some (excNew C h.objs.size):=by
  have:=Heap.get?_push_size (h.push { cls:=.type "tuple",data:=.seq rest.toArray }) (o:=excNew C h.objs.size) rfl
  rwa [Heap.size_push] at this
 have t1:Looks (model prog w) ((h.push { cls:=.type "tuple",data:=.seq rest.toArray }).push (excNew C h.objs.size)) (typeOf (.ref (h.objs.size+1))) (.ref C):=(Looks.ld hx).andThen .now
 have s1:=self.keeps k
 have i1:=hi.keeps k
 have b1:=(hb (.ref (h.objs.size+1))).keeps k
 unfold isInstance callSpecial? specialOf
 repeat (first|with_reducible refine wpAny_call ?_|lk)
 refine codeAny_mono hq fun r s' z=>?_
 rcases r with e|(v|_|_|_) <;> first|exact z|exact z.elim|skip
 obtain ⟨rfl,z⟩:=z
 exact wpAny_pure (wpAny_pure z)
end
end L2
namespace L2
open PySem PySem.Spec PyProof.Rows PySem.SeqAt PySem.W Builtin.ObjectAttr
def excO (e C:Addr) (dd:Option Addr):HO:=.ext fun h=>∃ a0:Value,h.get? e=some { cls:=.ref C,dict:=dd,data:=.fields #[a0,.none,.none,.none,.bool false,.none] }
def exD (da:Addr) (fs:List (Str×V)):HO:=.ext fun h=>∃ mA,h.Ns1 da mA/\(∀ f,RelO (fs.lookup f) (mA f))/\PySem.Within mA (fs.map (·.1))
theorem excO_ok {P:Program} {w:World} {H:Hp} {h:Heap} {e C:Addr} {dd:Option Addr} {a0:Value} (x:h.get? e=some { cls:=.ref C,dict:=dd,data:=.fields #[a0,.none,.none,.none,.bool false,.none] }):ObjOk P w H h e (excO e C dd):=
 ⟨⟨a0,x⟩,⟨_,x⟩,fun h1 h2 ⟨a,z⟩ k=>⟨a,k _ z⟩⟩
theorem exD_ok {P:Program} {w:World} {H:Hp} {h:Heap} {da:Addr} {fs:List (Str×V)} {mA:Str->Option Value} (x:h.Ns1 da mA) (r:∀ f,RelO (fs.lookup f) (mA f)) (wi:PySem.Within mA (fs.map (·.1))):ObjOk P w H h da (exD da fs):=by
 obtain ⟨o,es,ep,ho,rest⟩:=id x
 refine ⟨⟨mA,x,r,wi⟩,⟨o,ho⟩,fun h1 h2 z k=>?_⟩
 obtain ⟨mB,⟨o',es',ep',ho',rest'⟩,r',wi'⟩:=z
 exact ⟨mB,⟨o',es',ep',k _ ho',rest'⟩,r',wi'⟩
theorem refuse_refs (self:Value) {bm:List Value} (hb:refuseLoop self "__setattr__" bm=pure ()) (hne:bm≠[]):∀ (rs:List Addr),refuseLoop self "__setattr__" (rs.map Value.ref++bm)=pure ()
 |[]=>hb
 | c::r=>by
   rw [List.map_cons,List.cons_append,refuseLoop_ref]
   exact refuse_refs self hb hne r
structure XCls (K:Frag) (C:Addr) (B newId:String):Prop where
 mks:makesX K C B newId=true
 sa:findIn K (.ref C) "__setattr__" = some (some (.builtin "object.__setattr__"))
 cd:∃ (cd:ClassData) (rs:List Addr) (bm:List Value),clsIn K C=some cd/\cd.hasDict=true/\cd.mro=rs.map Value.ref++bm/\bm≠[]/\(∀ self,refuseLoop self "__setattr__" bm=pure ())/\bm.contains (.type "object")=true
 kp:keepIn K (.ref C)=true
 ty:typeIn K (.ref C)=some (.type "type")
section
variable {prog:Program} {w:World} {A:Around} {R:Result->Shared->Prop} {s:Shared} {K:Frag} {x C:Addr} {name:Str}
theorem osaX {ox:Obj} {od:Option Obj} {tk:Tok} {v:Value} {B newId:String} (X:K.In s.heap) (I:InstAt s.heap x ox C od) (XC:XCls K C B newId) (ht:takerIn K C name=some none)
 (h:∀ b,wpAny (model prog w) A.in1 (Builtin.ObjectAttr.storeInOwnDict (.ref x) (.ref C) (.str name tk) name v b) (fun fin s'=>match fin with|.done f=>R (.ok f) s'|.again c'=>c'.quiet=true/\codeAny (model prog w) A c' R s') (fun e s'=>R (.error e) s') s) :
 codeAny (model prog w) A (.call (.builtin "object.__setattr__") ⟨[.ref x,.str name tk,v],[]⟩) R s:=by
 have SF:=PySem.F.store_object
 obtain ⟨cd,rs,bm,hc,hdct,hmro,hne,hrf,hob⟩:=XC.cd
 have ne:cd.mro.isEmpty=false:=by
  rw [hmro]
  cases rs with
  |nil=>cases bm with|nil=>exact absurd rfl hne|cons _ _=>rfl
  |cons _ _=>rfl
 have hcon:cd.mro.contains (.type "object")=true:=by
  rw [hmro,List.contains_eq_mem,decide_eq_true_eq]
  rw [List.contains_eq_mem,decide_eq_true_eq] at hob
  exact List.mem_append_right _ hob
 have sub:Looks (model prog w) s.heap (isInstance (.ref x) (.type "object")) true:=I.type.andThen (looks_mroIn X (by unfold mroIn;rw [hc,Option.bind_some,if_neg (by rw [ne];decide),hcon]))
 refine codeAny_call_builtin SF.slot.plain SF.entry (@check_slot (model prog w) _ _ s "object.__setattr__" "object" "__setattr__" (.ref x) [.str name tk,v] [] _ SF.kind SF.split sub (SF.args (.ref x) (.str name tk) v) ?_)
 obtain ⟨attr,ha,hr⟩:=Option.bind_eq_some_iff.mp ht
 have hm:Looks (model prog w) s.heap (mroOf (.ref C)) cd.mro:=(looks_clsIn X hc).andThen .now
 have L3:Looks (model prog w) s.heap (storeTaker? attr) none:=by
  cases attr with
  |none=>exact .now
  | some a=>
    obtain ⟨b,hb,q⟩:=Option.map_eq_some_iff.mp hr
    refine (looks_takesIn X hb).andThen ?_
    cases b with
    |false=>exact .now
    |true=>cases q
 rw [osa_eq,refuse_eq]
 refine wpAny_bind (wpAny_bind (I.type.here (wpAny_bind (hm.here ?_))))
 rw [hmro,refuse_refs _ (hrf _) hne]
 refine wpAny_pure (wpAny_bind (I.type.here (wpAny_bind ((looks_findIn X ha).here (wpAny_bind (L3.here ?_))))))
 exact h _
end
section
variable {prog:Program} {w:World} {A:Around} {E:Value->Shared->Prop} {s:Shared} {K:Frag} {x C:Addr} {name:Str} {v:Value} {tk:Tok} {Q:Fin->Shared->Prop} {vs:Array Value} {sl:Array (Option Value)}
theorem storeX_new {cd:ClassData} {b:Bool} (X:K.In s.heap) (hx:s.heap.get? x=some ⟨.ref C,none,.fields vs,sl⟩) (hc:clsIn K C=some cd) (hd:cd.hasDict=true)
 (h:∀ h',h'.Ns1 s.heap.objs.size (fun y=>if y=name then some v else none)->h'.get? x=some ⟨.ref C,some s.heap.objs.size,.fields vs,sl⟩->(∀ b o,b≠x->s.heap.get? b=some o->h'.get? b=some o)->Q (.done (.ret .none)) { s with heap:=h',toks:=s.toks+1 }) :
 wpAny (model prog w) A (storeInOwnDict (.ref x) (.ref C) (.str name tk) name v b) Q E s:=by
 unfold storeInOwnDict
 refine wpAny_bind (wpAny_pure (wpAny_bind (wpAny_bind (wpAny_loadPart hx (wpAny_bind (Looks.here (looks_clsIn X hc) ?_))))))
 rw [hd]
 have hx1:(s.heap.push { cls:=.type "dict",data:=.dict #[] }).get? x=some ⟨.ref C,none,.fields vs,sl⟩:=Heap.get?_push_of_some _ hx
 have hxs:x≠s.heap.objs.size:=Nat.ne_of_lt (Heap.lt_size hx)
 show wpAny _ _ (do
  let d ← alloc { cls:=Value.type "dict",data:=Data.dict #[] }
  update x fun o=>{ cls:=o.cls,dict:=some d,data:=o.data,slots:=o.slots }
  dictMade (Value.ref C) x d) _ _ _
 refine wpAny_bind (wpAny_alloc' (wpAny_bind (wpAny_update' hx1 ?_)))
 refine wpAny_pure ?_
 have hgd:((s.heap.push { cls:=.type "dict",data:=.dict #[] }).update x fun o=>{ cls:=o.cls,dict:=some s.heap.objs.size,data:=o.data,slots:=o.slots }).get? s.heap.objs.size=some { cls:=.type "dict",data:=.dict #[] }:=(Heap.get?_update_ne _ _ _ _ hxs.symm).trans (Heap.get?_push_at rfl rfl)
 have hnd:((s.heap.push { cls:=.type "dict",data:=.dict #[] }).update x fun o=>{ cls:=o.cls,dict:=some s.heap.objs.size,data:=o.data,slots:=o.slots }).Ns s.heap.objs.size (fun _=>none):=⟨_,#[],_,hgd,rfl,fun e he=>absurd he (by simp),fun _=>rfl⟩
 show wpAny _ _ (storeInDict s.heap.objs.size (.str name tk) name v) _ _ _
 unfold storeInDict newKeyGuard
 refine wpAny_bind (wpAny_pure (wpAny_bind (wpAny_nsSet1 (s:={ s with heap:=_ }) (Heap.Ns1.of_empty hnd) fun h' hn' hs=>?_)))
 obtain ⟨oD,esD,epD,hoD,hdD,hcD⟩:=hn'.count (PySem.Within.cons name v PySem.Within.nil)
 refine wpAny_bind (wpAny_lookBehind hoD (by rw [hdD];exact pastItsLine_dict (Nat.le_trans hcD (by rw [List.length_cons,List.length_nil,sizeLine_eq];omega))) ?_)
 refine wpAny_pure (h h' hn' ?_ fun b o hb hbo=>?_)
 ·exact (hs.2 x hxs).trans (Heap.get?_update_self _ hx1 rfl)
 ·exact (hs.2 b (Nat.ne_of_lt (Heap.lt_size hbo))).trans ((Heap.get?_update_ne _ _ _ _ hb).trans (Heap.get?_push_of_some _ hbo))
theorem storeX_old {cd:ClassData} {b:Bool} {da:Addr} {mA:Str->Option Value} {ns:List Str} (X:K.In s.heap) (hx:s.heap.get? x=some ⟨.ref C,some da,.fields vs,sl⟩) (hc:clsIn K C=some cd) (hd:cd.hasDict=true) (hn:s.heap.Ns1 da mA) (hw:PySem.Within mA ns) (hz:ns.length<1000)
 (h:∀ h',h'.Ns1 da (fun y=>if y=name then some v else mA y)->Heap.SameBut da s.heap h'->Q (.done (.ret .none)) { s with heap:=h',toks:=s.toks+1 }) :
 wpAny (model prog w) A (storeInOwnDict (.ref x) (.ref C) (.str name tk) name v b) Q E s:=by
 unfold storeInOwnDict
 refine wpAny_bind (wpAny_pure (wpAny_bind (wpAny_bind (wpAny_loadPart hx (wpAny_bind (Looks.here (looks_clsIn X hc) ?_))))))
 rw [hd]
 refine wpAny_pure (a:=some da) ?_
 show wpAny _ _ (storeInDict da (.str name tk) name v) _ _ _
 unfold storeInDict newKeyGuard
 refine wpAny_bind (wpAny_pure (wpAny_bind (wpAny_nsSet1 hn fun h' hn' hs=>?_)))
 obtain ⟨oD,esD,epD,hoD,hdD,hcD⟩:=hn'.count (PySem.Within.cons name v hw)
 refine wpAny_bind (wpAny_lookBehind hoD (by rw [hdD];exact pastItsLine_dict (Nat.le_trans hcD (by rw [List.length_cons,sizeLine_eq];omega))) ?_)
 exact wpAny_pure (h h' hn' hs)
end
section
variable {X:Cx} {pins:List (Addr×Obj)} {σ:St} {H:Hp} {s:Shared} {e C:Addr} {f:Str} {B newId:String} {A:Around} {E:Value->Shared->Prop} {y:V} {u:Value} {Q:Unit->Shared->Prop}
theorem exc_at {dd:Option Addr} (I:Inv X pins σ H s) (he:H e=some (excO e C dd)):∃ a0,s.heap.get? e=some { cls:=.ref C,dict:=dd,data:=.fields #[a0,.none,.none,.none,.bool false,.none] }:=(show ObjOk X.prog X.w H s.heap e (excO e C dd) from I.hok e _ he).1
theorem setX_new (I:Inv X pins σ H s) (he:H e=some (excO e C none)) (XC:XCls X.K C B newId) (ht:takerIn X.K C f=some none) (ry:RelV y u)
 (h:∀ da s',H da=none->Inv X pins σ (upd (upd H e (excO e C (some da))) da (exD da [(f,y)])) s'->Q () s'):wpAny (model X.prog X.w) A (setAttr (.ref e) f u) Q E s:=by
 obtain ⟨a0,hx⟩:=exc_at I he
 have J:InstAt s.heap e _ C none:=⟨hx,rfl,rfl,True.intro⟩
 obtain ⟨cd,rs,bm,hc,hdct,_⟩:=XC.cd
 refine set_plain I.kIn J XC.sa (osaX (s:={ s with toks:=s.toks+1 }) I.kIn J XC ht fun b=>storeX_new (s:={ s with toks:=s.toks+1 }) I.kIn hx hc hdct fun h' hn hx' hk=>?_)
 have fr:H s.heap.objs.size=none:=I.hok.fresh (Nat.le_refl _)
 have nes:e≠s.heap.objs.size:=Nat.ne_of_lt (Heap.lt_size hx)
 refine h s.heap.objs.size _ fr ?_
 have hx1:(s.heap.push emptyDict).get? e=some _:=Heap.get?_push_of_some _ hx
 have g1:(s.heap.push emptyDict).get? s.heap.objs.size=some emptyDict:=Heap.get?_push_size s.heap rfl
 have e3:(s.heap.push emptyDict).Ns s.heap.objs.size (fun _=>none):=⟨emptyDict,#[],_,g1,rfl,(fun e he=>absurd he (by simp)),fun _=>rfl⟩
 have I1:=I.laid (a:=s.heap.objs.size) (o:=exD s.heap.objs.size []) (h':=s.heap.push emptyDict) (t':=s.toks) (fun b u q=>Heap.get?_push_of_some _ q) (Nat.le_refl _) (exD_ok (Heap.Ns1.of_empty e3) (fun _=>True.intro) fun y hy=>absurd rfl hy)
 have hx2:=Heap.get?_update_self (fun o:Obj=>{ o with dict:=some s.heap.objs.size }) hx1 rfl
 have I2:=I1.write (x:=e) (e:=e) (o:=excO e C (some s.heap.objs.size)) (h':=(s.heap.push emptyDict).update e fun o=>{ o with dict:=some s.heap.objs.size }) (t':=s.toks) (by rw [upd_ne nes,he];exact True.intro) (.inl rfl)
  (fun b q hb z=>(Heap.get?_update_ne _ _ _ _ hb).trans z) ⟨_,hx2⟩ (excO_ok hx2)
 have I3:=I2.write (x:=s.heap.objs.size) (e:=s.heap.objs.size) (o:=exD s.heap.objs.size [(f,y)]) (h':=h') (t':=s.toks+1+1) (by rw [upd_ne nes.symm,upd_same];exact True.intro) (.inl rfl) (fun b q hb z=>?_) (let ⟨o,_,_,ho,_⟩:=hn;⟨o,ho⟩)
  (exD_ok hn (fun g=>?_) fun g hg=>?_)
 ·have e1:upd (upd (upd H s.heap.objs.size (exD s.heap.objs.size [])) e (excO e C (some s.heap.objs.size))) s.heap.objs.size (exD s.heap.objs.size [(f,y)])=upd (upd H e (excO e C (some s.heap.objs.size))) s.heap.objs.size (exD s.heap.objs.size [(f,y)]):=by
   funext b
   unfold upd
   split
   ·rfl
   ·split
    ·rfl
    ·rfl
  rw [e1] at I3
  exact I3
 ·by_cases hbe:b=e
  ·subst hbe
   have z':some q=some _:=z.symm.trans hx2
   cases z'
   exact hx'
  ·have z1:(s.heap.push emptyDict).get? b=some q:=(Heap.get?_update_ne _ _ _ _ hbe).symm.trans z
   have z2:s.heap.get? b=some q:=by
    rcases Heap.get?_push_cases z1 with z|z
    ·exact absurd z.1 hb
    ·exact z
   exact hk b q hbe z2
 ·have e2:List.lookup g [(f,y)]=if g=f then some y else none:=lookup_putF f g y []
  rw [e2]
  by_cases q:g=f
  ·rw [if_pos q,if_pos q];exact ry
  ·rw [if_neg q,if_neg q];exact True.intro
 ·by_cases q:g=f
  ·subst q;simp
  ·exact absurd (if_neg q) hg
end
section
variable {X:Cx} {CX:CXT} {k:Nat} {f C:Addr} {fd:FuncData} {ps:List Str} {sp:Sp} {dvs:List V} {ds:List Value} {E:XK} {B newId initId:String} {bm:List Value}
theorem run_makeX {pins:List (Addr×Obj)} {σ:St} {H:Hp} {s:Shared} {Q:VK} {us:List Value} {vs:List V} (BF:ExcBaseFacts B newId initId bm) (XC:XCls X.K C B newId) (hi:findIn X.K (.ref C) "__init__" = some (some (.ref f))) (hf:isFn X.K (.ref f)=true) (F:FnOk X.prog X.w X.K X.mg X.base CX k f fd ps sp) (hr:Room (k+1) X.A)
 (hb:Binds X.K fd ps ds) (hd:Vals dvs ds) (hx:Passes CX X E) (I:Inv X pins σ H s) (r:Vals vs us) (hz:us.length≤sizeLine)
 (h:∀ e,H e=none->sp (.ref e::(vs++dvs)) (upd H e (excO e C none)) (fun v H2=>v=.non/\Q (.ref e) H2) E) :
 wpAny (model X.prog X.w) X.A (call (.ref C) us) (EP X pins σ Q) X.xe s:=by
 obtain ⟨hh,g,d,t,os⟩:=s
 have hq:=h (hh.objs.size+1) (I.hok.fresh (Nat.le_succ _))
 have hget:((hh.push { cls:=.type "tuple",data:=.seq us.toArray }).push (excNew C hh.objs.size)).get? (hh.objs.size+1)=some (excNew C hh.objs.size):=by
  have:=Heap.get?_push_size (hh.push { cls:=.type "tuple",data:=.seq us.toArray }) (o:=excNew C hh.objs.size) rfl
  rwa [Heap.size_push] at this
 have I2:Inv X pins σ (upd H (hh.objs.size+1) (excO (hh.objs.size+1) C none)) ⟨(hh.push { cls:=.type "tuple",data:=.seq us.toArray }).push (excNew C hh.objs.size),g,d,t,os⟩:=
  I.laid (h':=(hh.push { cls:=.type "tuple",data:=.seq us.toArray }).push (excNew C hh.objs.size)) (t':=t) (fun b u q=>Heap.get?_push_of_some _ (Heap.get?_push_of_some _ q)) (Nat.le_succ _) (excO_ok hget)
 have r2:Vals (V.ref (hh.objs.size+1)::(vs++dvs)) (Value.ref (hh.objs.size+1)::(us++ds)):=.cons rfl (r.append hd)
 have hl:(Value.ref (hh.objs.size+1)::us++ds).length=ps.length:=by
  have e:=r2.length
  rw [F.len _ _ _ _ hq] at e
  exact e.symm
 refine wpAny_call (makeX_core BF (makesX_of I.kIn XC.mks) (looks_findIn I.kIn hi) (fun self=>bind_fn I.kIn self (beq_iff_eq.mp hf)) hz (codeAny_mono (F.run _ X.stack _ _ ⟨Value.ref (hh.objs.size+1)::us,[]⟩ (Value.ref (hh.objs.size+1)::(us++ds)) _ _ E (hr.make C us [])
  (I2.env0.make C us []) (hb _ (Value.ref (hh.objs.size+1)::us) I2.kIn hl) r2 hq) fun r s' hq'=>?_))
 match r,hq' with
 |.error e,hq'=>exact hx pins σ _ _ e s' I2 hq'
 | .ok (.ret u),hq'=>
   obtain ⟨v,H',I3,rv,ev,q3⟩:=I2.after hq'
   subst ev
   exact ⟨rv,⟨V.ref (hh.objs.size+1),H',I3,rfl,q3⟩⟩
def tMakeX (C:Addr) (sp:Sp) (dvs:List V) (E:XK) (t:TA):TE:=fun σ H Q=>t σ H fun vs H1=>∀ e,H1 e=none->sp (.ref e::(vs++dvs)) (upd H1 e (excO e C none)) (fun v H2=>v=.non/\Q (.ref e) H2) E
theorem pe_makeX {x:Str} {p pos:Pos} {e:Expr} {es:List Expr} {t:TA} (BF:ExcBaseFacts B newId initId bm) (XC:XCls X.K C B newId) (hi:findIn X.K (.ref C) "__init__" = some (some (.ref f))) (hf:isFn X.K (.ref f)=true) (F:FnOk X.prog X.w X.K X.mg X.base CX k f fd ps sp) (hr:Room (k+1) X.A)
 (hg:Gl X x) (hm:X.mg x=some (.ref C)) (hb:Binds X.K fd ps ds) (hd:Vals dvs ds) (hx:Passes CX X E) (ha:PA X (e::es) t) (hdb:(x == ("__debug__" : Str))=false:=by decide) (he:starEach (e::es) X.env=(false,eval e X.env)::starEach es X.env:=by rfl) (hpl:(backTo pos (starEach es X.env)).any (·.1)=false:=by rfl) (hle:ps.length≤20:=by decide) :
 PE X (.Call (.Name x p) (e::es) [] pos) (tMakeX C sp dvs E t):=by
 intro pins s σ H Q I h
 refine wpAny_Call_Name_kw (ld_glob I hg hm ?_ hdb)
 refine callWith_K (h₀:=X.base) I.ok.mod.kin XC.kp (thn (ha pos pins s σ H _ I h) fun us s1 ⟨vs,H1,I1,r,q⟩=>⟨I1.kIn,?_⟩) he hpl
 refine run_makeX BF XC hi hf F hr hb hd hx I1 r ?_ q
 have h1:=F.len _ _ _ _ (q (s1.heap.objs.size) (I1.hok.fresh (Nat.le_refl _)))
 rw [List.length_cons,List.length_append] at h1
 have h2:=r.length
 exact Nat.le_trans (show us.length≤20 by omega) (by decide)
end
def unt (H:Hp) (a:Addr):Hp:=fun b=>if b=a then none else H b
theorem unt_same {H:Hp} {a:Addr}:unt H a a=none:=if_pos rfl
theorem unt_ne {H:Hp} {a b:Addr} (h:b≠a):unt H a b=H b:=if_neg h
theorem unt_none {H:Hp} {a b:Addr} (h:H b=none):unt H a b=none:=by
 unfold unt
 split
 ·rfl
 ·exact h
section
variable {X:Cx} {pins:List (Addr×Obj)} {σ:St} {H:Hp} {s:Shared} {e C:Addr} {dd:Option Addr}
theorem Inv.unt (I:Inv X pins σ H s) (he:H e=some (excO e C dd)):Inv X pins σ (L2.unt H e) s:=by
 have up:∀ b u,H b=some u->u≠excO e C dd->L2.unt H e b=some u:=fun b u z hu=>by
  by_cases q:b=e
  ·subst q;rw [he] at z;exact absurd (Option.some.inj z).symm hu
  ·rw [unt_ne q];exact z
 refine ⟨I.ok,I.os,I.bare,⟨I.base.keep,I.base.slot,fun b o z n hx=>unt_none (I.base.free b o z n hx),I.base.there,fun b xs z=>up b _ (I.base.tups b xs z) (by intro q;cases q),fun b o u z=>up b _ (I.base.frzs b o u z) (by intro q;cases q),fun b ps z=>?_⟩,I.loc,I.cell,unt_none I.free,fun x c z=>unt_none (I.freeC x c z),fun p hp=>?_,fun b u z=>?_,I.len⟩
 ·obtain ⟨m,q⟩:=I.base.tbls b ps z
  exact ⟨m,up b _ q (by intro q;cases q)⟩
 ·obtain ⟨p1,p2,p3⟩:=I.pin p hp
  exact ⟨p1,unt_none p2,p3⟩
 ·by_cases q:b=e
  ·subst q;rw [unt_same] at z;cases z
  ·rw [unt_ne q] at z
   exact (I.hok b u z).stay (fun c v _ r=>r) (fun c r=>up c _ r (by intro q;cases q)) fun c xs r=>up c _ r (by intro q;cases q)
def tRaise (X:Cx) (B newId:String) (W:XK) (te:TE):TS:=fun _ σ H=>te σ H fun x H1=>∃ e C dd,x=.ref e/\H1 e=some (excO e C dd)/\X.H₀ e=none/\XCls X.K C B newId/\W (.ref C) dd (unt H1 e)
theorem ps_raise {ex:Expr} {pos:Pos} {te:TE} {W:XK} {B newId:String} (he:PE X ex te) (hcalm:X.calm=true) (hex:X.ex=[])
 (hxe:∀ (pins:List (Addr×Obj)) (σ:St) (H':Hp) (s':Shared) (e:Addr) (cls:Value) (dd:Option Addr),Inv X pins σ H' s'->ExcOk s'.heap H' X.s₀.heap e cls dd->W cls dd H'->X.xe (.ref e) s'):PS X (.Raise (some ex) none pos) (tRaise X B newId W te):=by
 intro pins s σ H D I h
 rw [arm_exec_Raise]
 have key:∀ xs:Sem Value,wpAny (model X.prog X.w) X.A xs (EP X pins σ fun x H1=>∃ e C dd,x=.ref e/\H1 e=some (excO e C dd)/\X.H₀ e=none/\XCls X.K C B newId/\W (.ref C) dd (L2.unt H1 e)) X.xe s->wpAny (model X.prog X.w) X.A (raiseStmt X.env (some xs) none) (SP X pins D) X.xe s:=by
  intro xs hxs
  unfold raiseStmt
  refine wpAny_bind (thn hxs fun v s1 ⟨x,H1,I1,r1,e,C,dd,ex',hx,h0,XC,q⟩=>?_)
  subst ex'
  cases (show v=Value.ref e from r1)
  obtain ⟨a0,hg⟩:=exc_at I1 hx
  have Y:=makesX_of (M:=model X.prog X.w) I1.kIn XC.mks
  obtain ⟨⟨oc,od,cd,sl,hC,e1,e2,e4⟩,made,base,self,isB,isE,noA,noN,call,typ⟩:=Y
  have T1:Looks (model X.prog X.w) s1.heap (typeOf (.ref e)) (.ref C):=(Looks.ld hg).andThen .now
  have fin:X.xe (.ref e) s1:=by
   refine hxe pins σ _ s1 e (.ref C) dd (I1.unt hx) ⟨_,_,hg,rfl,rfl,rfl,?_,unt_same,.inl rfl⟩ q
   cases z:X.s₀.heap.get? e with
   |none=>rfl
   | some o=>
     have:=I1.base.free e o z h0 (by rw [hex];simp)
     rw [hx] at this;cases this
  have T2:Looks (model X.prog X.w) s1.heap (typeOf (.ref C)) (.type "type"):=looks_typeIn I1.kIn XC.ty
  have T3:Looks (model X.prog X.w) s1.heap (isInstance (.ref e) (.type "BaseException")) true:=T1.andThen isE
  have hh:X.A.handled=none:=I1.ok.hd hcalm
  clear I1 r1 hxs he h I XC made base self isB noA noN call typ
  obtain ⟨hp,g,d,tk,os⟩:=s1
  repeat (first|with_reducible refine wpAny_loadPart_at hg ?_|with_reducible refine T3.at ?_|with_reducible refine T1.at ?_|with_reducible refine T2.at ?_|wp_step)
  exact wpAny_raiseNew_none hh fin
 first
  |exact wpAny_bind (wpAny_standAt (key _ (wpAny_bind (thn (he pins s σ H _ I h) fun v s1 z=>wpAny_bind (wpAny_standAt (wpAny_pure z))))))
  |(simp only [evalOpt,Option.map];exact wpAny_bind (wpAny_standAt (key _ (wpAny_bind (thn (he pins s σ H _ I h) fun v s1 z=>wpAny_bind (wpAny_standAt (wpAny_pure z)))))))
end
section
variable {X:Cx} {pins:List (Addr×Obj)} {σ:St} {H:Hp} {s:Shared} {e C:Addr} {f:Str} {B newId initId:String} {bm:List Value} {A:Around} {E:Value->Shared->Prop} {y:V} {u:Value} {Q:Unit->Shared->Prop}
theorem setX_old {da:Addr} {fs:List (Str×V)} (I:Inv X pins σ H s) (he:H e=some (excO e C (some da))) (hd:H da=some (exD da fs)) (hl:fs.length<1000) (XC:XCls X.K C B newId) (ht:takerIn X.K C f=some none) (ry:RelV y u)
 (h:∀ s',Inv X pins σ (upd H da (exD da (putF f y fs))) s'->Q () s'):wpAny (model X.prog X.w) A (setAttr (.ref e) f u) Q E s:=by
 obtain ⟨a0,hx⟩:=exc_at I he
 obtain ⟨mA,hn,r,wi⟩:=(show ObjOk X.prog X.w H s.heap da (exD da fs) from I.hok da _ hd).1
 obtain ⟨od,hod,_⟩:=lookIn_ns hn
 have J:InstAt s.heap e _ C (some od):=⟨hx,rfl,rfl,hod⟩
 obtain ⟨cd,rs,bm,hc,hdct,_⟩:=XC.cd
 refine set_plain I.kIn J XC.sa (osaX (s:={ s with toks:=s.toks+1 }) I.kIn J XC ht fun b=>storeX_old (s:={ s with toks:=s.toks+1 }) (ns:=fs.map (·.1)) I.kIn hx hc hdct hn wi (by rw [List.length_map];exact hl) fun h' hn' hs=>?_)
 refine h _ (I.write (x:=da) (e:=da) (h':=h') (t':=s.toks+1+1) (by rw [hd];exact True.intro) (.inl rfl) (fun b q hb z=>(hs.2 b hb).trans z) (let ⟨o,_,_,ho,_⟩:=hn';⟨o,ho⟩) (exD_ok hn' (fun g=>?_) fun g hg=>?_))
 ·show RelO ((putF f y fs).lookup g) (if g=f then some u else mA g)
  rw [lookup_putF]
  by_cases q:g=f
  ·rw [if_pos q,if_pos q];exact ry
  ·rw [if_neg q,if_neg q];exact r g
 ·by_cases q:g=f
  ·rw [q];exact (keys_putF f y fs).1
  ·refine (keys_putF f y fs).2 g (wi g fun z=>hg ?_)
   show (if g=f then some u else mA g)=none
   rw [if_neg q];exact z
def sFldX (K:Frag) (B newId:String) (ta tv:TE) (f:Str):TS:=fun D σ H=>tv σ H fun y H1=>ta σ H1 fun x H2=>∃ e C,x=.ref e/\XCls K C B newId/\takerIn K C f=some none/\
 ((H2 e=some (excO e C none)/\∀ da,H2 da=none->D.nx σ (upd (upd H2 e (excO e C (some da))) da (exD da [(f,y)])))∨
   ∃ da fs,H2 e=some (excO e C (some da))/\H2 da=some (exD da fs)/\fs.length<1000/\D.nx σ (upd H2 da (exD da (putF f y fs))))
theorem ps_fldX {o value:Expr} {pos pos':Pos} {ta tv:TE} (ha:PE X o ta) (hv:PE X value tv) (hs:swapsWith value (some (.Attribute o f pos')) pos.line X.env=pure false):PS X (.Assign [.Attribute o f pos'] value pos) (sFldX X.K B newId ta tv f):=by
 intro pins s σ H D I h
 refine plainObj_wpAny_Assign_Attribute (thn (hv pins s σ H _ I h) fun u s1 ⟨y,H1,I1,ry,q⟩=>thn (ha pins s1 σ H1 _ I1 q) fun ov s2 ⟨x,H2,I2,rx,e,C,ex,XC,ht,q2⟩=>?_) hs
 subst ex
 cases (show ov=Value.ref e from rx)
 rcases q2 with ⟨he,q2⟩|⟨da,fs,he,hd,hl,q2⟩
 ·exact setX_new I2 he XC ht ry fun da s' hda I3=>⟨σ,_,I3,q2 da hda⟩
 ·exact setX_old I2 he hd hl XC ht ry fun s' I3=>⟨σ,_,I3,q2⟩
theorem call_initX (BF:ExcBaseFacts B newId initId bm):CallR X (.builtin initId) (fun xs H Q=>∃ e C dd y,xs=[.ref e,y]/\H e=some (excO e C dd)/\XCls X.K C B newId/\Q .non H):=by
 intro pins s σ H xs us Q I r h
 obtain ⟨e,C,dd,y,rfl,he,XC,q⟩:=h
 cases r with
 | cons r1 r=>
   cases r with
   | cons r2 r=>
     cases r
     rename_i u1 u2
     cases (show u1=Value.ref e from r1)
     obtain ⟨a0,hg⟩:=exc_at I he
     have Y:=makesX_of (M:=model X.prog X.w) I.kIn XC.mks
     have T1:Looks (model X.prog X.w) s.heap (typeOf (.ref e)) (.ref C):=(Looks.ld hg).andThen .now
     have T3:Looks (model X.prog X.w) s.heap (isInstance (.ref e) (.type B)) true:=T1.andThen Y.isB
     have hshort:=BF.noStar
     refine wpAny_call (codeAny_call_builtin BF.init.plain BF.initEntry ?_)
     simp only [checkBuiltinCall,BF.initKind,BF.initSplit,BF.initRow]
     refine wpAny_bind (T3.here ?_)
     simp only [Bool.not_true,Bool.false_eq_true,if_false]
     obtain ⟨oc,od,cd,sl,hC,e1,e2,e4⟩:=Y.obj
     have T2:=Y.typ
     obtain ⟨hp,g,d,tk,os⟩:=s
     unfold Bind.checkArgs
     repeat (first|with_reducible refine wpAny_loadPart_at hg ?_|with_reducible refine wpAny_loadPart_at hC ?_|with_reducible refine T1.at ?_|wp_step)
     have fin:∀ tk',EP X pins σ Q .none ⟨(hp.push { cls:=Value.type "tuple",data:=Data.seq #[u2] }).update e (Obj.mapFields fun x=>x.setIfInBounds 0 (Value.ref hp.objs.size)),g,d,tk',os⟩:=fun tk'=>by
      have hg':hp.get? e=some { cls:=.ref C,dict:=dd,data:=.fields #[a0,.none,.none,.none,.bool false,.none] }:=hg
      have hg1:=Heap.get?_push_of_some (h:=hp) { cls:=Value.type "tuple",data:=Data.seq #[u2] } hg'
      have hg2:=Heap.get?_update_self (Obj.mapFields fun x=>x.setIfInBounds 0 (Value.ref hp.objs.size)) hg1 rfl
      have I1:Inv X pins σ H ⟨hp.push { cls:=Value.type "tuple",data:=Data.seq #[u2] },g,d,tk',os⟩:=I.kept (s:=⟨hp,g,d,tk,os⟩) (t':=tk') fun b o z=>Heap.get?_push_of_some _ z
      have I2:=I1.write (x:=e) (e:=e) (o:=excO e C dd) (h':=(hp.push { cls:=Value.type "tuple",data:=Data.seq #[u2] }).update e (Obj.mapFields fun x=>x.setIfInBounds 0 (Value.ref hp.objs.size))) (t':=tk') (by rw [he];exact True.intro) (.inl rfl) (fun b q hb z=>(Heap.get?_update_ne _ _ _ _ hb).trans z) ⟨_,hg2⟩ (excO_ok (a0:=.ref hp.objs.size) hg2)
      have eH:upd H e (excO e C dd)=H:=by
       funext b
       unfold upd
       split
       ·rename_i q;rw [q,he]
       ·rfl
      rw [eH] at I2
      exact ⟨.non,H,I2,rfl,q⟩
     cases a0 <;> first|exact wpAny_pure (wpAny_pure (fin _))|exact wpAny_letGo (wpAny_pure (fin _))
end
section
variable {X:Cx} {CX:CXT} {k:Nat} {f C CS:Addr} {fd:FuncData} {ps:List Str} {sp:Sp} {dvs:List V} {ds:List Value} {E:XK} {m tn cn:Str} {T id:String} {p pos apos:Pos} {e:Expr} {es:List Expr} {t:TA} {r:List V->Hp->VK->Prop} {mc:Value}
def tCallR (r:List V->Hp->VK->Prop) (t:TA):TE:=fun σ H Q=>t σ H fun vs H1=>r vs H1 Q
theorem pe_typeMeth {pl:Sem Bool} (hg:Gl X tn) (hm:X.mg tn=none) (hv:bootBuiltins tn=some (.type T)) (ht:typeOf (.type T)=pure (.type "type")) (hs:Manifest.isStub T=false) (fc:findCls X.K (.type T) (.type "type") m=some (.val (.builtin id))) (hc:CallR X (.builtin id) r) (ha:PA X (e::es) t) (hh:handedIn (.builtin id)=true:=by rfl)
 (hn:tn ≠ "__name__":=by decide) (hdb:(tn == ("__debug__" : Str))=false:=by decide) (hst:starEach (e::es) X.env=(false,eval e X.env)::starEach es X.env:=by rfl) (hpl:(backTo pos (starEach es X.env)).any (·.1)=false:=by rfl)
 (hte:eval (.Call (.Attribute (.Name tn p) m apos) (e::es) [] pos) X.env=(do
  let ov ← eval (.Name tn p) X.env
  standAt apos.atName
  let (f,first) ← holding [ov] (getMethod ov m pl)
  callWith pos f first (backTo pos (starEach (e::es) X.env)) (backToKw pos (keywordEach [] X.env))):=by rfl) :
 PE X (.Call (.Attribute (.Name tn p) m apos) (e::es) [] pos) (tCallR r t):=by
 intro pins s σ H Q I h
 obtain ⟨mm,F⟩:=I.fr
 refine methodCall_KW (pl:=pl) (ld_blt I hg hm hv (method_type F I.ok.mod.kin ht hs fc hh ?_) hn hdb) hte
 exact callWith_builtin1 (thn (ha pos pins _ σ H _ (I.tok _) h) fun us s1 ⟨vs,H1,I1,r1,q1⟩=>hc pins s1 σ H1 vs us Q I1 r1 q1) hst hpl
theorem pe_clsMeth {pl:Sem Bool} (hg:Gl X cn) (hm:X.mg cn=some (.ref CS)) (sg:specialIn X.K (.ref CS) "__getattribute__" = some (some (.builtin "type.__getattribute__"))) (hr':readsIn X.K CS mc=true) (fc:findCls X.K (.ref CS) mc m=some (.val (.ref f))) (hk:keepIn X.K (.ref f)=true)
 (F:FnOk X.prog X.w X.K X.mg X.base CX k f fd ps sp) (hr:Room k X.A) (hb:Binds X.K fd ps ds) (hd:Vals dvs ds) (hx:Passes CX X E) (ha:PA X (e::es) t) (hdb:(cn == ("__debug__" : Str))=false:=by decide)
 (hst:starEach (e::es) X.env=(false,eval e X.env)::starEach es X.env:=by rfl) (hpl:(backTo pos (starEach es X.env)).any (·.1)=false:=by rfl)
 (hte:eval (.Call (.Attribute (.Name cn p) m apos) (e::es) [] pos) X.env=(do
  let ov ← eval (.Name cn p) X.env
  standAt apos.atName
  let (f,first) ← holding [ov] (getMethod ov m pl)
  callWith pos f first (backTo pos (starEach (e::es) X.env)) (backToKw pos (keywordEach [] X.env))):=by rfl) :
 PE X (.Call (.Attribute (.Name cn p) m apos) (e::es) [] pos) (tCall sp dvs E t):=by
 intro pins s σ H Q I h
 refine methodCall_KW (pl:=pl) (ld_glob I hg hm (method_cls I.kIn sg (cls_value I.kIn hr' fc rfl ?_)) hdb) hte
 refine callWith_K (first:=[]) (h₀:=X.base) I.ok.mod.kin hk (thn (ha pos pins _ σ H _ (I.tok _) h) fun us s1 ⟨vs,H1,I1,r,q⟩=>⟨I1.kIn,?_⟩) hst hpl
 exact run_fn F hr hb hd hx I1 r q
end
end L2
namespace L2
open PySem PySem.Spec PyProof.Rows
section
variable {X:Cx} {pins:List (Addr×Obj)} {σ:List (Option V)} {H H':Hp} {s:Shared} {h':Heap}
theorem Inv.stepN {g':Array GenState} {t':Nat} {d':Drawn} {ch:List Addr} (I:Inv X pins σ H s)
 (hch:∀ b∈ch,X.s₀.heap.get? b=none/\b≠X.env.locals/\(∀ x c,X.env.cells.lookup x=some c->c≠b)/\∀ p∈X.pn++pins,p.1≠b)
 (keep:∀ b o,b≠X.env.locals->b∉X.fs->b∉ch->s.heap.get? b=some o->H b=none->h'.get? b=some o)
 (slot:∀ b o,b≠X.env.locals->b∈X.fs->b∉ch->s.heap.get? b=some o->H b=none->∃ sl,h'.get? b=some { o with slots:=sl }) (free:∀ b o,b∉ch->s.heap.get? b=some o->H b=none->H' b=none)
 (there:∀ b o,b∉ch->s.heap.get? b=some o->∃ o',h'.get? b=some o')
 (tups:∀ b xs,H b=some (.tup xs)->H' b=some (.tup xs)) (frzs:∀ b o u,H b=some (.frz o u)->H' b=some (.frz o u)) (tbls:∀ b ps,H b=some (.tbl ps)->∃ more,H' b=some (.tbl (ps++more)))
 (ns:∀ m,s.heap.Ns X.env.locals m->h'.Ns X.env.locals m) (hok:HOk X.prog X.w H' h') (hg:AllBare g') :
 Inv X pins σ H' { s with heap:=h',gens:=g',drawn:=d',toks:=t' }:=by
 have neL:∀ b o,X.s₀.heap.get? b=some o->b≠X.env.locals:=fun b o e=>Nat.ne_of_lt (Nat.lt_of_lt_of_le (Heap.lt_size e) I.ok.above)
 have neC:∀ b o,X.s₀.heap.get? b=some o->b∉X.ex->b∉ch:=fun b o e hx hb=>by
  rw [(hch b hb).1] at e;cases e
 have cellK:∀ x c,X.env.cells.lookup x=some c->∀ v,s.heap.IsCell c v->h'.IsCell c v:=fun x c e v ⟨o,ho,hd⟩=>by
  have nch:c∉ch:=fun z=>(hch c z).2.2.1 x c e rfl
  by_cases hc:c∈X.fs
  ·obtain ⟨sl,q⟩:=slot c o (I.cne x c e) hc nch ho (I.freeC x c e)
   exact ⟨_,q,hd⟩
  ·exact ⟨o,keep c o (I.cne x c e) hc nch ho (I.freeC x c e),hd⟩
 refine ⟨I.ok,I.os,hg,⟨fun b o e n hb hx=>?_,fun b o e n hb hx=>?_,fun b o e n hx=>?_,fun b o e hx=>?_,fun b xs e=>tups b xs (I.base.tups b xs e),fun b o xs e=>frzs b o xs (I.base.frzs b o xs e),fun b ps e=>?_⟩,?_,fun x c e=>?_,?_,fun x c e=>?_,fun p hp=>?_,hok,I.len⟩
 ·exact keep b o (neL b o e) hb (neC b o e hx) (I.base.keep b o e n hb hx) (I.base.free b o e n hx)
 ·obtain ⟨sl,e1⟩:=I.base.slot b o e n hb hx
  obtain ⟨sl',e2⟩:=slot b _ (neL b o e) hb (neC b o e hx) e1 (I.base.free b o e n hx)
  exact ⟨sl',e2⟩
 ·obtain ⟨o',e1⟩:=I.base.there b o e hx
  exact free b o' (neC b o e hx) e1 (I.base.free b o e n hx)
 ·obtain ⟨o',e1⟩:=I.base.there b o e hx
  exact there b o' (neC b o e hx) e1
 ·obtain ⟨m1,e1⟩:=I.base.tbls b ps e
  obtain ⟨m2,e2⟩:=tbls b _ e1
  exact ⟨m1++m2,by rw [e2,Array.append_assoc]⟩
 ·obtain ⟨m,hn,hl⟩:=I.loc
  refine ⟨m,ns m hn,fun i x v e1 e2 e3=>?_⟩
  obtain ⟨u,r,l⟩:=hl i x v e1 e2 e3
  refine ⟨u,r,?_⟩
  rcases l with l|⟨k,c,e,z⟩
  ·exact .inl l
  ·exact .inr ⟨k,c,e,cellK x c e _ z⟩
 ·obtain ⟨v,z⟩:=I.cell x c e
  exact ⟨v,cellK x c e v z⟩
 ·obtain ⟨m,⟨o,_,_,ho,_⟩,_⟩:=I.loc
  exact free _ o (fun z=>(hch _ z).2.1 rfl) ho I.free
 ·obtain ⟨v,o,ho,hd⟩:=I.cell x c e
  exact free c o (fun z=>(hch c z).2.2.1 x c e rfl) ho (I.freeC x c e)
 ·obtain ⟨e,n,ne,nf,d⟩:=I.pin p hp
  have nch:p.1∉ch:=fun z=>(hch p.1 z).2.2.2 p hp rfl
  exact ⟨keep p.1 p.2 ne nf nch e n,free p.1 p.2 nch e n,ne,nf,d⟩
end
end L2
namespace L2
open PySem PySem.Spec PyProof.Rows PySem.SeqAt PySem.W Builtin.ObjectAttr
section
variable {X:Cx} {pins:List (Addr×Obj)} {σ σ0:St} {H H0:Hp} {s s0:Shared} {e:Addr} {cls:Value} {dd:Option Addr}
theorem catchX {A:Around} {Q:Unit->Shared->Prop} {E:Value->Shared->Prop} (I0:Inv X pins σ0 H0 s0) (I:Inv X pins σ H s) (hst:X.stack=X.env::X.outer) (hfm:X.env.frame=some X.env.locals) (hfr:A.frames=some X.stack) (hex:X.ex=[]) (hth:∀ b o,s0.heap.get? b=some o->∃ o',s.heap.get? b=some o') (x:ExcOk s.heap H s0.heap e cls dd)
 (h:∀ h',ExcOk h' H s0.heap e cls dd->Inv X pins σ H { s with heap:=h' }->Q () { s with heap:=h' }):wpAny (model X.prog X.w) A (noteFrame (.ref e) X.env) (fun _ s2=>wpAny (model X.prog X.w) A (setFlight (.ref e) none) Q E s2) E s:=by
 have hl:=I.stack
 rw [hst] at hfr hl
 obtain ⟨oe,vs,h1,h2,h3,h4,h5,h6,h7⟩:=x
 have free:∀ b∈(X.env::X.outer).filterMap (·.frame),H b=none:=fun b hb=>I.stkFree b (by rw [hst];exact hb)
 have old:∀ T,s0.heap.get? T=none->X.s₀.heap.get? T=none/\T≠X.env.locals/\(∀ x c,X.env.cells.lookup x=some c->c≠T)/\∀ p∈X.pn++pins,p.1≠T:=fun T hT=>by
  refine ⟨?_,?_,fun x c z q=>?_,fun p hp q=>?_⟩
  ·cases z:X.s₀.heap.get? T with
   |none=>rfl
   | some o=>
     obtain ⟨o',q⟩:=I0.base.there T o z (by rw [hex];simp)
     rw [hT] at q;cases q
  ·rintro rfl
   obtain ⟨_,⟨o,_,_,ho,_⟩,_⟩:=I0.loc
   rw [hT] at ho;cases ho
  ·obtain ⟨v,o,ho,_⟩:=I0.cell x c z
   rw [q,hT] at ho;cases ho
  ·have:=(I0.pin p hp).1
   rw [q,hT] at this;cases this
 have fin:∀ (ch:List Addr) (h':Heap) (T:Addr) (oe' oT:Obj) (vs' ts:Array Value),(∀ b∈ch,s0.heap.get? b=none/\H b=none)->s0.heap.get? T=none->T≠e->H T=none->h'.get? e=some oe'->oe'.cls=oe.cls->oe'.dict=oe.dict->oe'.data=.fields vs'->vs'[1]?=some (.ref T)->h'.get? T=some oT->oT.data=.fields ts->ts[3]?=some .none->
  (∀ b o,b∉ch->b∉(X.env::X.outer).filterMap (·.frame)->s.heap.get? b=some o->h'.get? b=some o)->(∀ b o,b∉ch->s.heap.get? b=some o->∃ sl,h'.get? b=some { o with slots:=sl })->Q () { s with heap:=h' }:=by
  intro ch h' T oe' oT vs' ts hch hT hTe hTn g1 g2 g3 g4 g5 g6 g7 g8 kp ks
  refine h h' ⟨oe',vs',g1,g2.trans h2,g3.trans h3,g4,h5,h6,.inr ⟨T,oT,ts,g5,hTe,g6,g7,g8,hT,hTn⟩⟩ ?_
  have ninF:∀ b,b≠X.env.locals->b∉X.fs->b∉(X.env::X.outer).filterMap (·.frame):=fun b hb hn hm=>by
   rw [List.filterMap_cons,hfm] at hm
   rcases List.mem_cons.mp hm with q|hm
   ·exact hb q
   ·exact hn hm
  refine I.stepN (ch:=ch) (g':=s.gens) (d':=s.drawn) (t':=s.toks) (fun b hb=>old b (hch b hb).1) (fun b o hL hf hc z _=>kp b o hc (ninF b hL hf) z) (fun b o _ _ hc z _=>ks b o hc z) (fun b o _ _ n=>n) (fun b o hc z=>let ⟨sl,q⟩:=ks b o hc z;⟨_,q⟩) (fun _ _ z=>z) (fun _ _ _ z=>z) (fun b ps z=>⟨#[],by rw [z];simp⟩) (fun m hm=>?_) (fun b u hb=>?_) I.bare
  ·obtain ⟨o,es,ep,ho,hd,r⟩:=hm
   have hnl:X.env.locals∉ch:=fun z=>(old _ (hch _ z).1).2.1 rfl
   obtain ⟨sl,q⟩:=ks _ o hnl ho
   exact ⟨_,es,ep,q,hd,r⟩
  ·refine (I.hok b u hb).stay (fun c v hc q=>kp c v (fun z=>?_) (fun hm=>?_) q) (fun _ q=>q) fun _ _ q=>q
   ·have:=(hch c z).2
    rcases hc with rfl|w
    ·rw [this] at hb;cases hb
    ·rw [this] at w;cases w
   ·have:=free c hm
    rcases hc with rfl|w
    ·rw [this] at hb;cases hb
    ·rw [this] at w;cases w
 have newT:∀ T,s.heap.objs.size≤T->s0.heap.get? T=none/\T≠e/\H T=none:=fun T hT=>by
  refine ⟨?_,fun q=>?_,I.hok.fresh hT⟩
  ·cases z:s0.heap.get? T with
   |none=>rfl
   | some o=>
     obtain ⟨o',q⟩:=hth T o z
     exact absurd (Nat.lt_of_lt_of_le (Heap.lt_size q) hT) (Nat.lt_irrefl _)
  ·subst q;exact absurd (Nat.lt_of_lt_of_le (Heap.lt_size h1) hT) (Nat.lt_irrefl _)
 unfold noteFrame
 simp only [hfm]
 rcases h7 with h7|⟨T,oT,ts,t1,t2,t3,t4,t5,t6,t7⟩
 ·refine wpAny_bind (wpAny_field h1 h4 h7 ?_)
  rw [if_neg (by decide)]
  refine entryX hfr hl hfm h1 h4 (Array.getElem?_eq_some_iff.mp h7).1 fun h' T oe' oT vs' ts hT g1 g2 g3 g4 g5 g6 g7 g8 kp ks=>?_
  obtain ⟨n1,n2,n3⟩:=newT T hT
  exact fin [e] h' T oe' oT vs' ts (fun b hb=>by cases List.mem_singleton.mp hb;exact ⟨h5,h6⟩) n1 n2 n3 g1 g2 g3 g4 g5 g6 g7 g8 (fun b o hb hm z=>kp b o (fun q=>hb (by simp [q])) hm z) fun b o hb z=>ks b o (fun q=>hb (by simp [q])) z
 ·refine wpAny_bind (wpAny_field h1 h4 t1 ?_)
  rw [if_pos (show (Value.ref T != Value.none)=true by simp)]
  refine wpAny_bind (wpAny_field t3 t4 t5 ?_)
  rw [if_neg (show ¬ ((Value.none == rawInt X.env.locals)=true) by simp [rawInt])]
  refine wpAny_bind (wpAny_setField t3 t4 (Array.getElem?_eq_some_iff.mp t5).1 ?_)
  have other:∀ b,b≠T->(s.heap.update T (Obj.mapFields (·.setIfInBounds 3 Value.none))).get? b=s.heap.get? b:=fun b hb=>Heap.get?_update_other _ _ (Ne.symm hb)
  have noR:∀ b o,s.heap.get? b=some o->(∀ vs,o.data≠.fields vs)->b≠T:=fun b o hb hnf q=>by
   subst q
   rw [t3] at hb
   cases hb
   exact hnf ts t4
  refine entryX (s:={ s with heap:=s.heap.update T (Obj.mapFields (·.setIfInBounds 3 Value.none)) }) hfr (hl.of_keeps fun b o hb hnf=>⟨o,(other b (noR b o hb hnf)).trans hb,rfl⟩) hfm ((other e (Ne.symm t2)).trans h1) h4 (Array.getElem?_eq_some_iff.mp t1).1 fun h' T' oe' oT' vs' ts' hT g1 g2 g3 g4 g5 g6 g7 g8 kp ks=>?_
  have hT':s.heap.objs.size≤T':=by
   have z:(s.heap.update T (Obj.mapFields (·.setIfInBounds 3 Value.none))).objs.size=s.heap.objs.size:=Heap.size_update _ _ _
   exact Nat.le_trans (Nat.le_of_eq z.symm) hT
  obtain ⟨n1,n2,n3⟩:=newT T' hT'
  refine fin [e,T] h' T' oe' oT' vs' ts' (fun b hb=>?_) n1 n2 n3 g1 g2 g3 g4 g5 g6 g7 g8 (fun b o hb hm z=>kp b o (fun q=>hb (by simp [q])) hm ((other b fun q=>hb (by simp [q])).trans z)) fun b o hb z=>ks b o (fun q=>hb (by simp [q])) ((other b fun q=>hb (by simp [q])).trans z)
  rcases List.mem_cons.mp hb with rfl|hb
  ·exact ⟨h5,h6⟩
  ·cases List.mem_singleton.mp hb;exact ⟨t6,t7⟩
end
theorem upd_id {h:Heap} {a:Addr} {o:Obj} {f:Obj->Obj} (e:h.get? a=some o) (hf:f o=o):h.update a f=h:=by
 obtain ⟨objs,l⟩:=h
 have e':objs[a]?=some o:=by
  unfold Heap.get? at e
  dsimp only at e
  split at e
  ·cases e
  ·exact e
 show (⟨objs.modify a f,l⟩:Heap)=⟨objs,l⟩
 congr 1
 obtain ⟨hlt,e2⟩:=Array.getElem?_eq_some_iff.mp e'
 refine Array.ext (by simp) fun i h1 h2=>?_
 rw [Array.getElem_modify]
 split
 ·rename_i q
  subst q
  rw [e2,hf]
 ·rfl
section
variable {X:Cx} {pins:List (Addr×Obj)} {σ σ0:St} {H H0:Hp} {s s0:Shared} {e:Addr} {cls:Value} {dd:Option Addr}
theorem Inv.drop (I:Inv X pins σ H s) (i:Nat):Inv X pins (σ.set i none) H s:=by
 obtain ⟨ok,os,bare,base,⟨m,hn,hl⟩,cell,free,freeC,pin,hok,len⟩:=I
 refine ⟨ok,os,bare,base,⟨m,hn,fun j x v e1 e2 e3=>?_⟩,cell,free,freeC,pin,hok,by simpa using len⟩
 by_cases hj:j=i
 ·subst hj
  rw [List.getElem?_set] at e2
  split at e2 <;> simp_all
 ·rw [List.getElem?_set_ne (Ne.symm hj)] at e2
  exact hl j x v e1 e2 e3
theorem unbindX {M:Model} {A:Around} {E:Value->Shared->Prop} {i:Nat} {x:Str} {pos:Pos} {Q:Unit->Shared->Prop} (I:Inv X pins σ H s) (hN:X.N.Nodup) (hi:X.N[i]?=some x) (hx:X.env.scope.names.lookup x=some .local)
 (h:∀ s',Inv X pins (σ.set i none) H s'->Q () s'):wpAny M A (do bindName X.env x .none;unbindBehindTheSuite X.env x pos) Q E s:=by
 have hcls:(X.env.scope.kind == .class || (X.env.scope.kind == .module && X.env.locals != X.env.globals))=false:=by rw [I.ok.kind];rfl
 have hiσ:i<σ.length:=by rw [I.len];exact (List.getElem?_eq_some_iff.mp hi).1
 refine wpAny_bind (wpAny_bindName (store_ok I hN hi (.inl hx) (v:=.non) (u:=.none) rfl (fun s1 I1=>?_) (.inr hx)))
 obtain ⟨m,hn,hl⟩:=id I1.loc
 obtain ⟨u,_,lk⟩:=hl i x .non hi (by rw [List.getElem?_set_self hiσ]) (.inl hx)
 have hv:m x=some u:=by
  rcases lk with ⟨_,z⟩|⟨k,_⟩
  ·exact z
  ·unfold Env.kindOf at k
   rw [hx] at k
   rcases k with k|k <;> cases k
 unfold unbindBehindTheSuite
 refine wpAny_onRaise (wpAny_unbindName_local hx hn hv hcls fun h' u' hn' hs=>?_)
 have I2:=I1.drop i
 rw [List.set_set] at I2
 obtain ⟨ok,os,bare,base,⟨m2,hn2,hl2⟩,cell,free,freeC,pin,hok,len⟩:=id I2
 obtain ⟨oL,_,_,hoL,_⟩:=id hn
 have neL:∀ b o,X.s₀.heap.get? b=some o->b≠X.env.locals:=fun b o e=>Nat.ne_of_lt (Nat.lt_of_lt_of_le (Heap.lt_size e) ok.above)
 refine h _ ⟨ok,os,bare,⟨fun b o e n hb hx=>?_,fun b o e n hb hx=>?_,base.free,fun b o e hx=>?_,base.tups,base.frzs,base.tbls⟩,⟨_,hn',fun j y v' e1 e2 e3=>?_⟩,fun y c e=>?_,free,freeC,fun p hp=>?_,fun b ob e=>?_,len⟩
 ·exact (hs.2 b (neL b o e)).trans (base.keep b o e n hb hx)
 ·obtain ⟨sl,e1⟩:=base.slot b o e n hb hx
  exact ⟨sl,(hs.2 b (neL b o e)).trans e1⟩
 ·obtain ⟨o',e1⟩:=base.there b o e hx
  exact ⟨o',(hs.2 b (neL b o e)).trans e1⟩
 ·have hj:j≠i:=fun q=>by
   subst q
   rw [List.getElem?_set_self hiσ] at e2;cases e2
  rw [List.getElem?_set_ne (Ne.symm hj)] at e2
  obtain ⟨u'',r',q⟩:=hl j y v' e1 (by rw [List.getElem?_set_ne (Ne.symm hj)];exact e2) e3
  refine ⟨u'',r',?_⟩
  rcases q with ⟨k,e⟩|⟨k,c,e,z⟩
  ·refine .inl ⟨k,?_⟩
   have:y≠x:=fun e=>hj (nodup_ix hN e1 (e ▸ hi))
   simp [this,e]
  ·exact .inr ⟨k,c,e,z.sameBut hs (I1.cne y c e)⟩
 ·obtain ⟨w',z⟩:=I1.cell y c e
  exact ⟨w',z.sameBut hs (I1.cne y c e)⟩
 ·obtain ⟨e,n,ne,nf,d⟩:=pin p hp
  exact ⟨(hs.2 p.1 ne).trans e,n,ne,nf,d⟩
 ·refine (hok b ob e).stay (fun c w' hc q=>(hs.2 c ?_).trans q) (fun _ q=>q) fun _ _ q=>q
  rintro rfl
  rcases hc with rfl|hc
  ·rw [free] at e;cases e
  ·rw [free] at hc;cases hc
theorem setFlightX {M:Model} {A:Around} {Q:Unit->Shared->Prop} {E:Value->Shared->Prop} (x:ExcOk s.heap H s0.heap e cls dd) (h:Q () s):wpAny M A (setFlight (.ref e) none) Q E s:=by
 obtain ⟨oe,vs,h1,h2,h3,h4,h5,h6,h7⟩:=x
 unfold setFlight
 rcases h7 with h7|⟨T,oT,ts,t1,t2,t3,t4,t5,t6,t7⟩
 ·refine wpAny_bind (wpAny_field h1 h4 h7 ?_)
  rw [if_neg (by decide)]
  exact wpAny_pure h
 ·refine wpAny_bind (wpAny_field h1 h4 t1 ?_)
  rw [if_pos (show (Value.ref T != Value.none)=true by simp)]
  refine wpAny_setField t3 t4 (Array.getElem?_eq_some_iff.mp t5).1 ?_
  have:s.heap.update T (Obj.mapFields (·.setIfInBounds 3 ((none:Option Addr).elim Value.none fun f=>rawInt f)))=s.heap:=by
   refine upd_id t3 ?_
   obtain ⟨c,d,da,sl⟩:=oT
   cases (show da=.fields ts from t4)
   show (⟨c,d,.fields (ts.setIfInBounds 3 .none),sl⟩:Obj)=⟨c,d,.fields ts,sl⟩
   have:ts.setIfInBounds 3 .none=ts:=by
    obtain ⟨hlt,e2⟩:=Array.getElem?_eq_some_iff.mp t5
    refine Array.ext (by simp) fun i h1 h2=>?_
    rw [Array.getElem_setIfInBounds]
    split
    ·rename_i q
     subst q
     exact e2.symm
    ·rfl
   rw [this]
  rw [this]
  exact h
end
def hCx (X:Cx) (ea:Addr) (ps:List (Addr×Obj)):Cx:={ X with A:=X.A.mark (some (.ref ea)),calm:=false,pn:=X.pn++ps,xe:=fun _ _=>False }
section
variable {X:Cx} {pins:List (Addr×Obj)} {σ σ0:St} {H H0:Hp} {s s0:Shared} {e:Addr} {cls:Value} {dd:Option Addr}
theorem Cx.Ok.into (ok:X.Ok) {ea:Addr} {ps:List (Addr×Obj)}:(hCx X ea ps).Ok:=
 ⟨ok.mod,ok.kind,ok.glob,ok.blt,ok.above,ok.inj,ok.has,ok.cab,(fun h=>nomatch h),ok.frames,ok.stk,ok.exf,ok.bs,ok.bsz,ok.noex,ok.exfs,ok.funs,ok.frf⟩
theorem Inv.into (I:Inv X pins σ H s) {ea:Addr} {ps:List (Addr×Obj)} (hp:∀ p∈ps,s.heap.get? p.1=some p.2/\H p.1=none/\p.1≠X.env.locals/\p.1∉X.fs/\∀ v,p.2.data≠.cell v):Inv (hCx X ea ps) pins σ H s:=by
 refine ⟨I.ok.into,I.os,I.bare,I.base,I.loc,I.cell,I.free,I.freeC,fun p h=>?_,I.hok,I.len⟩
 rcases List.mem_append.mp h with h|h
 ·rcases List.mem_append.mp h with h|h
  ·exact I.pin p (List.mem_append_left _ h)
  ·exact hp p h
 ·exact I.pin p (List.mem_append_right _ h)
theorem Inv.outof {ea:Addr} {ps:List (Addr×Obj)} (I:Inv (hCx X ea ps) pins σ H s) (ok:X.Ok):Inv X pins σ H s:=by
 refine ⟨ok,I.os,I.bare,I.base,I.loc,I.cell,I.free,I.freeC,fun p h=>?_,I.hok,I.len⟩
 rcases List.mem_append.mp h with h|h
 ·exact I.pin p (List.mem_append_left _ (List.mem_append_left _ h))
 ·exact I.pin p (List.mem_append_right _ h)
theorem Inv.handle (I0:Inv X pins σ0 H0 s0) (I:Inv X pins σ H s) (x:ExcOk s.heap H s0.heap e cls dd):∃ ps oe,(e,oe)∈ps/\oe.cls=cls/\oe.dict=dd/\(∃ vs,oe.data=.fields vs)/\Inv (hCx X e ps) pins σ H s/\∀ {σ1 H1 s1},Inv (hCx X e ps) pins σ1 H1 s1->ExcOk s1.heap H1 s0.heap e cls dd:=by
 obtain ⟨oe,vs,h1,h2,h3,h4,h5,h6,h7⟩:=x
 have new:∀ T o vs,s0.heap.get? T=none->s.heap.get? T=some o->H T=none->o.data=.fields vs->s.heap.get? T=some o/\H T=none/\T≠X.env.locals/\T∉X.fs/\∀ v,o.data≠.cell v:=fun T o vs hT ho hn hd=>by
  refine ⟨ho,hn,?_,fun q=>?_,fun v q=>by rw [hd] at q;cases q⟩
  ·rintro rfl
   obtain ⟨_,⟨o,_,_,ho,_⟩,_⟩:=I0.loc
   rw [hT] at ho;cases ho
  ·obtain ⟨_,o,ho,_⟩:=I0.funs.mem q
   rw [hT] at ho;cases ho
 rcases h7 with h7|⟨T,oT,ts,t1,t2,t3,t4,t5,t6,t7⟩
 ·refine ⟨[(e,oe)],oe,List.mem_singleton.mpr rfl,h2,h3,⟨_,h4⟩,I.into fun p hp=>?_,fun {σ1 H1 s1} I1=>?_⟩
  ·cases List.mem_singleton.mp hp
   exact new e oe vs h5 h1 h6 h4
  ·have p:=I1.pin (e,oe) (List.mem_append_left _ (List.mem_append_right _ (List.mem_singleton.mpr rfl)))
   exact ⟨oe,vs,p.1,h2,h3,h4,h5,p.2.1,.inl h7⟩
 ·refine ⟨[(e,oe),(T,oT)],oe,List.mem_cons_self,h2,h3,⟨_,h4⟩,I.into fun p hp=>?_,fun {σ1 H1 s1} I1=>?_⟩
  ·rcases List.mem_cons.mp hp with rfl|hp
   ·exact new e oe vs h5 h1 h6 h4
   ·cases List.mem_singleton.mp hp
    exact new T oT ts t6 t3 t7 t4
  ·have p:=I1.pin (e,oe) (List.mem_append_left _ (List.mem_append_right _ List.mem_cons_self))
   have q:=I1.pin (T,oT) (List.mem_append_left _ (List.mem_append_right _ (List.mem_cons_of_mem _ (List.mem_singleton.mpr rfl))))
   exact ⟨oe,vs,p.1,h2,h3,h4,h5,p.2.1,.inr ⟨T,oT,ts,t1,t2,q.1,t4,t5,t6,q.2.1⟩⟩
theorem excMatchC {K:Frag} {P:Program} {w:World} {A:Around} {E:Value->Shared->Prop} {Q:Bool->Shared->Prop} {C Ce:Addr} {B newId:String} {b:Bool} {oe:Obj} (kin:K.In s.heap) (he:s.heap.get? e=some oe) (hcls:oe.cls=.ref Ce) (XC:XCls K C B newId) (hm:mroIn K Ce (.ref C)=some b) (h:Q b s) :
 wpAny (model P w) A (excMatches (.ref e) (.ref C)) Q E s:=by
 have Y:=makesX_of (M:=model P w) kin XC.mks
 obtain ⟨⟨oc,od,cd,sl,hC,_,_,_⟩,_,_,_,_,isE,_,_,_,typ⟩:=Y
 have T1:Looks (model P w) s.heap (typeOf (.ref e)) (.ref Ce):=hcls ▸ (Looks.ld he).andThen .now
 have T2:Looks (model P w) s.heap (typeOf (.ref C)) (.type "type"):=looks_typeIn kin XC.ty
 have T4:Looks (model P w) s.heap (isSubtype (.ref Ce) (.ref C)) b:=looks_mroIn kin hm
 have f:=tc_notTuple
 obtain ⟨hp,g,d,tk,os⟩:=s
 unfold excMatches
 repeat (first|with_reducible refine wpAny_loadPart_at hC ?_|with_reducible refine isE.at ?_|with_reducible refine T4.at ?_|with_reducible refine typ.at ?_|with_reducible refine T1.at ?_|with_reducible refine T2.at ?_|wp_step)
 cases b <;> (wp_walk;exact h)
end
abbrev THs:=Ends->Addr->Option Addr->St->Hp->Prop
def PH (X:Cx) (hs:List ExceptHandler) (th:THs):Prop:=
 ∀ (pins:List (Addr×Obj)) (s0:Shared) (σ0:St) (H0:Hp) (s:Shared) (σ:St) (H:Hp) (D:Ends) (ea Ce:Addr) (dd:Option Addr),Inv X pins σ0 H0 s0->Inv X pins σ H s->ExcOk s.heap H s0.heap ea (.ref Ce) dd->th D Ce dd σ H->wpAny (model X.prog X.w) X.A (handleBy (.ref ea) X.env hs) (SP X pins D) X.xe s
def asEnds (i:Nat) (D:Ends):Ends:=⟨fun σ H=>D.nx (σ.set i none) H,D.rt,fun σ H=>D.bk (σ.set i none) H,fun σ H=>D.ct (σ.set i none) H⟩
def tHand (K:Frag) (C:Addr) (B newId:String) (i:Nat) (tb:Addr->Addr->Option Addr->TS) (tr:THs):THs:=fun D Ce dd σ H=>XCls K C B newId/\∃ b,mroIn K Ce (.ref C)=some b/\if b then ∀ ea,tb ea Ce dd (asEnds i D) (σ.set i (some (.ref ea))) H else tr D Ce dd σ H
section
variable {X:Cx}
theorem ph_nil:PH X [] (fun _ _ _ _ _=>False):=fun _ _ _ _ _ _ _ _ _ _ _ _ _ _ h=>h.elim
theorem ph_cons {t:Expr} {n:Str} {b0:Stmt} {body:List Stmt} {pos:Pos} {rest:List ExceptHandler} {C:Addr} {B newId:String} {i:Nat} {tb:Addr->Addr->Option Addr->TS} {tr:THs} (hN:X.N.Nodup) (hi:X.N[i]?=some n) (hx:X.env.scope.names.lookup n=some .local)
 (ht:∀ ea ps,PE (hCx X ea ps) t (tC (.ref C))) (hb:∀ ea oe ps Ce dd,(ea,oe)∈ps->oe.cls=.ref Ce->oe.dict=dd->(∃ vs,oe.data=.fields vs)->PSs (hCx X ea ps) (b0::body) (tb ea Ce dd)) (hr:PH X rest tr) :
 PH X (.ExceptHandler (some t) (some n) (b0::body) pos::rest) (tHand X.K C B newId i tb tr):=by
 intro pins s0 σ0 H0 s σ H D ea Ce dd I0 I x h
 obtain ⟨XC,b,hm,hk⟩:=h
 obtain ⟨ps,oe,hmem,hc,hd,hvs,IH,back⟩:=I0.handle I x
 refine wpAny_handleBy_cons (codeAny_handlers_test (wpAny_mono (ht ea ps pins s σ H (fun v H1=>v=.ref C/\H1=H) IH ⟨rfl,rfl⟩) (fun c s1 z=>?_) fun _ _ z=>z.elim)) (by intro q;cases q)
 obtain ⟨v,H1,I1,r,rfl,rfl⟩:=z
 cases (show c=Value.ref C from r)
 have p:=I1.pin (ea,oe) (List.mem_append_left _ (List.mem_append_right _ hmem))
 refine excMatchC I1.kIn p.1 hc XC hm ?_
 cases b with
 |false=>exact hr pins s0 σ0 H0 s1 σ H1 D ea Ce dd I0 (I1.outof I.ok) (back I1) hk
 | true=>
   refine codeAny_handlers_suite_as (setFlightX (back I1) (store_ok (X:=hCx X ea ps) I1 hN hi (.inl hx) (v:=.ref ea) rfl (fun s2 I2=>wpAny_mono (hb ea oe ps Ce dd hmem hc hd hvs pins s2 _ _ (asEnds i D) I2 (hk ea)) (fun f s3 z=>?_) fun _ _ z=>z.elim) (.inr hx)))
   show wpAny _ X.A _ _ X.xe s3
   cases f with
   | next=>
     obtain ⟨σ',H',I3,q⟩:=z
     exact unbindX (I3.outof I.ok) hN hi hx fun s' I'=>⟨_,_,I',q⟩
   | brk=>
     obtain ⟨σ',H',I3,q⟩:=z
     exact unbindX (I3.outof I.ok) hN hi hx fun s' I'=>⟨_,_,I',q⟩
   | cont=>
     obtain ⟨σ',H',I3,q⟩:=z
     exact unbindX (I3.outof I.ok) hN hi hx fun s' I'=>⟨_,_,I',q⟩
   | ret u=>
     obtain ⟨v,σ',H',I3,r',q⟩:=z
     exact unbindX (I3.outof I.ok) hN hi hx fun s' I'=>⟨v,_,_,I',r',q⟩
end
section
variable {X:Cx}
def tryE (X:Cx) (pins:List (Addr×Obj)) (s0:Shared) (W:Addr->Option Addr->St->Hp->Prop):Value->Shared->Prop:=fun v s=>∃ ea Ce dd σ H,v=.ref ea/\Inv X pins σ H s/\(∀ b o,s0.heap.get? b=some o->∃ o',s.heap.get? b=some o')/\ExcOk s.heap H s0.heap ea (.ref Ce) dd/\W Ce dd σ H
abbrev TSX:=Ends->(Addr->Option Addr->St->Hp->Prop)->St->Hp->Prop
def PSX (X:Cx) (st:List Stmt) (t:TSX):Prop:=
 ∀ (pins:List (Addr×Obj)) (s:Shared) (σ:St) (H:Hp) (D:Ends) (W:Addr->Option Addr->St->Hp->Prop),Inv X pins σ H s->t D W σ H->wpAny (model X.prog X.w) X.A (execs st X.env) (SP X pins D) (tryE X pins s W) s
def tTry (t:TSX) (th:THs):TS:=fun D σ H=>t D (fun Ce dd σ' H'=>th D Ce dd σ' H') σ H
theorem ps_try {body:List Stmt} {h0:ExceptHandler} {hs:List ExceptHandler} {pos:Pos} {t:TSX} {th:THs} (hst:X.stack=X.env::X.outer) (hfm:X.env.frame=some X.env.locals) (hex:X.ex=[]) (hb:PSX X body t) (hh:PH X (h0::hs) th):PS X (.Try body (h0::hs) [] [] pos) (tTry t th):=by
 intro pins s σ H D I h
 refine wpAny_Try_except (wpAny_mono (hb pins s σ H D _ I h) (fun f s1 z=>?_) fun v s1 z=>?_)
 ·cases f with
  |next=>exact wpAny_execs_nil z
  |brk=>exact z
  |cont=>exact z
  |ret u=>exact z
 ·obtain ⟨ea,Ce,dd,σ1,H1,rfl,I1,th1,x,q⟩:=z
  refine catchX I I1 hst hfm I.ok.frames hex th1 x fun h' x' I2=>hh pins s σ H _ σ1 H1 D ea Ce dd I I2 x' q
end
structure Thunk (P:Program) (w:World) (K:Frag) (mg:Str->Option Value) (base:Heap) (g:Heap) (H₀:Hp) (fr:List Addr) (k:Nat) (f:Addr) (H:Hp) (Qv:VK) (Ev:XK):Prop where
 fn:∀ s:Shared,HOk P w H s.heap->∃ fo fd,s.heap.get? f=some fo/\fo.data=.func fd
 run:∀ (A:Around) (outer:List Env) (s:Shared),Room k A->Env0 P w K mg base A outer s H->(∀ b o,g.get? b=some o->H₀ b=none->b∉fr->s.heap.get? b=some o)->codeAny (model P w) A (.call (.ref f) ⟨[],[]⟩) (CR (CX1 P w) outer P w H s Qv Ev) s
section
variable {X:Cx}
theorem keeps_F {M:Model} {f:Addr} (h:Heap) (z:∃ fo fd,h.get? f=some fo/\fo.data=.func fd):∃ k,(k=Keeper.frame∨k=Keeper.machine∨k=Keeper.boundFrame)/\Looks M h (keeperOf (.ref f)) k:=by
 obtain ⟨fo,fd,e,d⟩:=z
 obtain ⟨c,di,da,sl⟩:=fo
 cases (show da=.func fd from d)
 exact ⟨.frame,.inl rfl,(Looks.ld (part:=none) e).andThen .now⟩
def tThunk (X:Cx) (k i j:Nat):TSX:=fun D W σ H=>∃ f Qv Ev,σ[j]?=some (some (.ref f))/\Thunk X.prog X.w X.K X.mg X.base X.s₀.heap X.H₀ X.fs k f H Qv Ev/\(∀ v H',Qv v H'->D.nx (σ.set i (some v)) H')/\∀ cls dd H',Ev cls dd H'->∃ Ce,cls=.ref Ce/\W Ce dd σ H'
theorem psx_thunk {k i j:Nat} {x a:Str} {px pa pc pos:Pos} (hN:X.N.Nodup) (hi:X.N[i]?=some x) (hx:Loc X.env.scope x) (hj:X.N[j]?=some a) (ha:Vis X.env.scope a) (hex:X.ex=[]) (hr:Room k X.A) (hs:swapsWith (.Call (.Name a pa) [] [] pc) (some (.Name x px)) pos.line X.env=pure false:=by rfl) (hf:X.fn x=true∨X.env.scope.names.lookup x=some .local:=by first|exact .inl rfl|exact .inr rfl|assumption)
 (hd:(a == ("__debug__" : Str))=false:=by decide) (hcd:(a == ("__classdict__" : Str))=false:=by decide) :
 PSX X [.Assign [.Name x px] (.Call (.Name a pa) [] [] pc) pos] (tThunk X k i j):=by
 intro pins s σ H D W I h
 obtain ⟨f,Qv,Ev,e,T,hv,he⟩:=h
 have kp:∀ b o,X.s₀.heap.get? b=some o->X.H₀ b=none->b∉X.fs->s.heap.get? b=some o:=fun b o z n hb=>I.base.keep b o z n hb (by rw [hex];simp)
 have fin:∀ t:Sem Flow,wpAny (model X.prog X.w) X.A t (fun f s1=>f=.next/\∃ v H',Inv X pins (σ.set i (some v)) H' s1/\Qv v H') (tryE X pins s W) s->wpAny (model X.prog X.w) X.A t (SP X pins D) (tryE X pins s W) s:=fun t ht=>thn ht fun f s1 ⟨q,v,H',I1,z⟩=>by subst q;exact ⟨_,_,I1,hv _ _ z⟩
 have one:wpAny (model X.prog X.w) X.A (exec (.Assign [.Name x px] (.Call (.Name a pa) [] [] pc) pos) X.env) (fun f s1=>f=.next/\∃ v H',Inv X pins (σ.set i (some v)) H' s1/\Qv v H') (tryE X pins s W) s:=by
  refine wpAny_Assign_Name (thn (Q:=EP X pins σ Qv) ?_ fun v s1 ⟨y,H1,I1,r1,q1⟩=>store_ok I1 hN hi hx r1 (fun s2 I2=>⟨rfl,y,H1,I2,q1⟩) hf) hs
  refine wpAny_Call_Name_kw ?_
  have named:∀ Q':Value->Shared->Prop,Q' (.ref f) s->wpAny (model X.prog X.w) X.A (eval (.Name a pa) X.env) Q' (tryE X pins s W) s:=fun Q' hq=>by
   obtain ⟨m,hn,hl⟩:=I.loc
   obtain ⟨u,r,l⟩:=hl j a (.ref f) hj e ha
   cases (show u=Value.ref f from r)
   rcases l with ⟨hk,hm⟩|⟨hk,c,hc,hcell⟩
   ·exact wpAny_Name (wpAny_loadName_local I.ok.kind hk hn hm hq) hd
   ·rcases hk with hk|hk
    ·exact wpAny_Name (wpAny_loadName_cell I.ok.kind hk hc hcell hq) hd
    ·exact wpAny_Name (wpAny_loadName_free I.ok.kind hk hc hcell hq hcd) hd
  refine named _ ?_
  obtain ⟨fo,fd,g1,g2⟩:=T.fn s I.hok
  refine callWith_of (P:=fun h=>∃ fo fd,h.get? f=some fo/\fo.data=.func fd) rfl keeps_F (evalArgs_nil3 ⟨⟨fo,fd,g1,g2⟩,?_⟩)
  refine wpAny_call (codeAny_mono (T.run X.A X.stack s hr I.env0 kp) fun r s' hq=>?_)
  cases r with
  | error ev=>
    obtain ⟨ea,cls,dd,H',rfl,os,bare,un,hok,xo,q⟩:=hq
    obtain ⟨Ce,rfl,z⟩:=he _ _ _ q
    refine ⟨ea,Ce,dd,σ,H',rfl,I.call' os un hok bare (fun b z=>absurd z (by simp)),fun b o z=>un.there b o z (by simp),xo,z⟩
  | ok fl=>
    cases fl with
    |ret u=>exact I.after hq
    |next=>exact False.elim hq
    |brk=>exact False.elim hq
    |cont=>exact False.elim hq
 refine wpAny_execs_cons (thn one fun fl s1 z=>?_)
 obtain ⟨rfl,v,H',I1,q⟩:=z
 exact wpAny_execs_nil ⟨_,_,I1,hv _ _ q⟩
end
structure XGet (K:Frag) (C:Addr) (f:Str):Prop where
 ga:findIn K (.ref C) "__getattribute__" = some (some (.builtin "BaseException.__getattribute__"))
 gh:findIn K (.ref C) "__getattr__" = some none
 hd:hasDictIn K C=true
 na:findIn K (.ref C) f=some none
 be:mroIn K C (.type "BaseException")=some true
section
variable {prog:Program} {w:World} {A:Around} {E:Value->Shared->Prop} {s:Shared} {K:Frag} {x C:Addr} {ox:Obj} {od:Option Obj} {name:Str} {expr:Bool} {Q:Value->Shared->Prop}
theorem getX {v:Value} (X:K.In s.heap) (I:InstAt s.heap x ox C od) (G:XGet K C name) (hf:findObj K C od name=some (.value v)) (hh:handedIn v=true) (h:Q v { s with toks:=s.toks+1 }):wpAny (model prog w) A (getAttr (.ref x) name expr) Q E s:=by
 obtain ⟨hp,g,d,t,os⟩:=s
 have L0:=I.type (M:=model prog w)
 have L1:=looks_findIn (M:=model prog w) X G.ga
 have L2:=looks_findIn (M:=model prog w) X G.gh
 have L3:=looks_find (M:=model prog w) X I hf
 have LB:Looks (model prog w) hp (isInstance (.ref x) (.type "BaseException")) true:=L0.andThen (looks_mroIn X G.be)
 have f3:=F.excAttr_ValueError.ga.bind (.ref x)
 have hx0:(expr && onTheHeap (Value.builtin "BaseException.__getattribute__"))=false:=by cases expr <;> rfl
 have hx2:(Value.builtin "BaseException.__getattribute__" == Value.builtin "object.__getattribute__")=false:=by decide +kernel
 have hx1:(onTheHeap (Value.ref C) && Value.builtin "BaseException.__getattribute__" == Value.builtin "object.__getattribute__")=false:=by rw [hx2];rfl
 unfold getAttr getAttrBy
 refine wpAny_bind (wpAny_mkText (wpAny_holding (wpAny_bind (L0.at (wpAny_bind (L1.at ?_))))))
 dsimp only
 rw [if_neg (by rw [hx1];decide)]
 unfold getAttrByItsOwn hookBefore
 rw [if_pos (show onTheHeap (Value.ref C)=true from rfl)]
 refine wpAny_bind (L2.at ?_)
 have key:∀ R:Result->Shared->Prop,R (.ok (.ret v)) ⟨hp,g,d,t+1,os⟩->codeAny (model prog w) A (.call (.builtin "BaseException.__getattribute__") ⟨[.ref x,.str name t],[]⟩) R ⟨hp,g,d,t+1,os⟩:=fun R hR=>by
  refine codeAny_call_builtin F.excAttr_ValueError.ga.plain F.entry_bexc_ga (check_slot (i:="BaseException.__getattribute__") (owner:="BaseException") (n:="__getattribute__") (by decide +kernel) (by decide +kernel) LB (F.args_bexc_ga _ _) ?_)
  refine wpAny_bind (wpAny_pure (wpAny_bind (wpAny_pure (wpAny_bind (L0.at (wpAny_bind (L3.at ?_)))))))
  exact wpAny_pure hR
 have done:wpAny (model prog w) A (handedOut v) Q E ⟨hp,g,d,t+1,os⟩:=by rw [handedOut_of hh];exact wpAny_pure h
 clear L0 L1 L2 L3 LB hf I G X
 repeat (any_goals (first|assumption|wp_step))
 exact key _ done
end
def tXat (K:Frag) (ea C:Addr) (dd:Option Addr) (ta:TE) (f:Str):TE:=fun σ H Q=>ta σ H fun x H1=>∃ da fs v,x=.ref ea/\dd=some da/\H1 da=some (exD da fs)/\XGet K C f/\fs.lookup f=some v/\Q v H1
section
variable {X:Cx} {e:Expr} {f:Str} {pos:Pos} {ta:TE} {ea C:Addr} {oe:Obj} {dd:Option Addr}
theorem pe_xat (hm:(ea,oe)∈X.pn) (hc:oe.cls=.ref C) (hdct:oe.dict=dd) (hd:∃ vs,oe.data=.fields vs) (he:PE X e ta) (hb:attributeBase e f X.env (eval e X.env)=eval e X.env:=by rfl):PE X (.Attribute e f pos) (tXat X.K ea C dd ta f):=by
 intro pins s σ H Q I h
 refine attr_of hb (thn (he pins s σ H _ I h) fun u s1 ⟨x,H1,I1,rx,da,fs,v,ex,ed,hH,G,l,q⟩=>?_)
 subst ex
 subst ed
 obtain rfl:u=Value.ref ea:=rx
 have p:=(I1.pin (ea,oe) (List.mem_append_left _ hm)).1
 obtain ⟨⟨mA,hn,r,wi⟩,_,_⟩:=I1.hok da _ hH
 obtain ⟨u,hu,ru⟩:=RelO.some_of (v:=v) (o:=mA f) (by rw [← l];exact r f)
 obtain ⟨od,ho,hl⟩:=lookIn_ns hn
 obtain ⟨vs,hvs⟩:=hd
 have J:PySem.W.InstAt s1.heap ea oe C (some od):=⟨p,hc,by unfold notCls;rw [hvs],by rw [hdct];exact ho⟩
 exact getX I1.kIn J G (findObj_own G.hd G.na rfl (by rw [hl,hu])) (handed_of ru) ⟨v,H1,I1.tok _,ru,q⟩
end
end L2
namespace L2
open PySem PySem.Spec PyProof.Rows
structure FnOkS (P:Program) (w:World) (K:PySem.W.Frag) (mg:Str->Option Value) (base:Heap) (CX:CXT) (k:Nat) (f:Addr) (fd:FuncData) (ps:List Str) (sp:Shared->List Env->Sp):Prop where
 len:∀ s outer vs H Q E,sp s outer vs H Q E->vs.length=ps.length
 run:∀ (A:Around) (outer:List Env) (s:Shared) (H:Hp) (args:Args) (us:List Value) (vs:List V) (Q:VK) (E:XK),Room k A->Env0 P w K mg base A outer s H->BindsTo s fd args (ps.zip us)->Vals vs us->sp s outer vs H Q E->
  codeAny (model P w) A (.call (.ref f) args) (CR CX outer P w H s Q E) s
theorem fnS_of {CX:CXT} {P:Program} {w:World} {K:PySem.W.Frag} {mg:Str->Option Value} {base:Heap} {k:Nat} {f:Addr} {name qual:Str} {params:Arguments} {body:List Stmt} {scope:Scope} {dV kV doc pm cdv ct oc:Value} {an od:Option Addr}
 {osl:Array (Option Value)} {N ps:List Str} {sp:Shared->List Env->Sp} (lk:K.lookup f=some ⟨oc,od,.func (PySem.W.fnOf name qual params body scope dV kV doc pm an cdv ct),osl⟩) (hcd:PySem.W.codeIn K cdv qual=true) (S:FnScope N ps scope)
 (len:∀ s outer vs H Q E,sp s outer vs H Q E->vs.length=ps.length)
 (hbody:∀ (A:Around) (outer:List Env) (s:Shared) (H:Hp) (vs:List V) (Q:VK) (E:XK),Room k (A.deeper (envOfC qual scope s.heap.objs.size f cdv))->sp s outer vs H Q E->
  ∃ t,PSs (cxOf CX P w K mg base N qual scope f cdv A outer s H E) body t/\t { nx:=fun _ H'=>Q .non H',rt:=Q } (start N vs) H) :
 FnOkS P w K mg base CX (k+1) f (PySem.W.fnOf name qual params body scope dV kV doc pm an cdv ct) ps sp:=by
 refine ⟨len,fun A outer s H args us vs Q E hr e0 hb r hsp=>?_⟩
 have hl:=len _ _ _ _ _ _ hsp
 have KX:K.In s.heap:=e0.mod.kin.keeps fun b o e=>(e0.bs b o e).1
 have lim:s.heap.NoLimit:=e0.mod.nolimit.keeps fun b o e=>(e0.bs b o e).1
 have hkind:∀ y∈ps.zip us,scope.names.lookup y.1=some .local∨(scope.names.lookup y.1=some .cell/\((cellsFrom (s.heap.objs.size+1) scope.names []).lookup y.1).isSome=true):=fun ⟨n,v⟩ hy=>by
  rcases S.par n (List.of_mem_zip hy).1 with q|q
  ·exact .inl q
  ·exact .inr ⟨q,PySem.W.cellsFrom_some _ _ _ (.inl q)⟩
 refine codeAny_call_function hr.depth (KX _ _ lk) rfl S.co S.gen rfl (PySem.W.codeRec_of KX hcd) (hb _ _ _ _ ?_)
 refine wpAny_newFunctionEnv_cells S.kind hkind fun env he s1 x=>?_
 subst he
 refine ⟨lim.keeps x.toInCall.keep,codeAny_func ?_⟩
 obtain ⟨t,ht,hq⟩:=hbody A outer s H vs Q E (hr.deeper _) hsp
 have I:Inv (cxOf CX P w K mg base N qual scope f cdv A outer s H E) [] (start N vs) H s1:=inv_start S hr.hd e0 hl r x
 refine wpAny_mono (ht [] s1 (start N vs) H _ I hq) (fun fl s' hs=>?_) fun e s' hs=>hs
 have fin:∀ {σ':St} {H':Hp} {v:V} {u:Value},Inv (cxOf CX P w K mg base N qual scope f cdv A outer s H E) [] σ' H' s'->RelV v u->Q v H'->CE outer P w H s Q u s':=
  fun {σ' H' v u} J rv q=>⟨v,H',J.os,J.bare,J.base,J.hok,rv,q⟩
 cases fl with
 | ret u=>
   obtain ⟨v,σ',H',J,rv,q⟩:=hs
   exact fin J rv q
 | next=>
   obtain ⟨σ',H',J,q⟩:=hs
   exact fin (v:=V.non) (u:=Value.none) J rfl q
 | brk=>
   obtain ⟨_,_,_,q⟩:=hs
   exact False.elim q
 | cont=>
   obtain ⟨_,_,_,q⟩:=hs
   exact False.elim q
section
variable {P:Program} {w:World} {K:PySem.W.Frag} {mg:Str->Option Value} {base:Heap}
theorem Fun.okS {CX:CXT} {x qual:Str} {st:Stmt} {f:Addr} {fd:FuncData} {N ps:List Str} {k:Nat} {sp:Shared->List Env->Sp} (F:Fun K x qual st f fd) (S:FnScope N ps (defScope st)) (len:∀ s outer vs H Q E,sp s outer vs H Q E->vs.length=ps.length)
 (hbody:∀ (cdv:Value) (A:Around) (outer:List Env) (s:Shared) (H:Hp) (vs:List V) (Q:VK) (E:XK),Room k (A.deeper (envOfC qual (defScope st) s.heap.objs.size f cdv))->sp s outer vs H Q E->
  ∃ t,PSs (cxOf CX P w K mg base N qual (defScope st) f cdv A outer s H E) (defBody st) t/\t { nx:=fun _ H'=>Q .non H',rt:=Q } (start N vs) H):FnOkS P w K mg base CX (k+1) f fd ps sp:=by
 obtain ⟨oc,od,kV,doc,pm,an,cdv,ct,osl,rfl,lk,hcd⟩:=F.ex
 exact fnS_of lk hcd S len fun A outer s H vs Q E hr hsp=>hbody cdv A outer s H vs Q E hr hsp
theorem Fun.ok1 {CX:CXT} {x qual:Str} {st:Stmt} {f:Addr} {fd:FuncData} {N ps:List Str} {k:Nat} {sp:Sp} (F:Fun K x qual st f fd) (S:FnScope N ps (defScope st)) (len:∀ vs H Q E,sp vs H Q E->vs.length=ps.length)
 (hbody:∀ (cdv:Value) (A:Around) (outer:List Env) (s:Shared) (H:Hp) (vs:List V) (Q:VK) (E:XK),Room k (A.deeper (envOfC qual (defScope st) s.heap.objs.size f cdv))->sp vs H Q E->
  ∃ t,PSs (cxOf CX P w K mg base N qual (defScope st) f cdv A outer s H E) (defBody st) t/\t { nx:=fun _ H'=>Q .non H',rt:=Q } (start N vs) H):FnOk P w K mg base CX (k+1) f fd ps sp:=by
 obtain ⟨oc,od,kV,doc,pm,an,cdv,ct,osl,rfl,lk,hcd⟩:=F.ex
 exact fn_of lk hcd S len fun A outer s H vs Q E hr hsp=>hbody cdv A outer s H vs Q E hr hsp
end
section
variable {X:Cx} {e:Expr} {f:Str} {pos:Pos} {ta:TE} {ea C:Addr} {oe:Obj} {ps:List (Addr×Obj)} {dd:Option Addr}
theorem pe_xatH (hm:(ea,oe)∈ps) (hc:oe.cls=.ref C) (hdct:oe.dict=dd) (hd:∃ vs,oe.data=.fields vs) (he:PE (hCx X ea ps) e ta) (hb:attributeBase e f X.env (eval e X.env)=eval e X.env:=by rfl):PE (hCx X ea ps) (.Attribute e f pos) (tXat X.K ea C dd ta f):=
 pe_xat (X:=hCx X ea ps) (List.mem_append_right _ hm) hc hdct hd he hb
end
end L2
namespace L2
open PySem PySem.Spec PyProof.Rows PySem.W
def codeO (c:Addr) (qual:Str):HO:=.ext fun h=>h.CodeRec (.ref c) qual
theorem codeO_ok {P:Program} {w:World} {H:Hp} {h:Heap} {c:Addr} {qual:Str} (x:h.CodeRec (.ref c) qual):ObjOk P w H h c (codeO c qual):=by
 obtain ⟨c',o,vs,t,e,g,r⟩:=id x
 cases e
 refine ⟨x,⟨o,g⟩,fun h1 h2 z k=>?_⟩
 obtain ⟨c',o',vs',t',e',g',r'⟩:=z
 cases e'
 exact ⟨c,o',vs',t',rfl,k _ g',r'⟩
def lamO (f:Addr) (o:Obj):HO:=.ext fun h=>h.get? f=some o
theorem lamO_ok {P:Program} {w:World} {H:Hp} {h:Heap} {f:Addr} {o:Obj} (x:h.get? f=some o):ObjOk P w H h f (lamO f o):=⟨x,⟨o,x⟩,fun h1 h2 z k=>k _ z⟩
def cxLam (P:Program) (w:World) (K:Frag) (mg:Str->Option Value) (base:Heap) (N:List Str) (qual:Str) (scope:Scope) (f:Addr) (cd:Value) (cl:List (Str×Addr)) (A:Around) (outer:List Env) (s:Shared) (H:Hp) (E:XK):Cx where
 prog:=P
 w:=w
 K:=K
 mg:=mg
 base:=base
 A:=A.deeper (envX qual scope s.heap.objs.size f cd cl)
 N:=N
 s₀:=s
 H₀:=H
 env:=envX qual scope s.heap.objs.size f cd cl
 outer:=outer
 stack:=envX qual scope s.heap.objs.size f cd cl::outer
 ex:=[]
 calm:=true
 fn:=fun _=>false
 pn:=[]
 xe:=fun e s'=>wpAny (model P w) (A.deeper (envX qual scope s.heap.objs.size f cd cl)) (leaving (envX qual scope s.heap.objs.size f cd cl) e) (fun _ s''=>CX1 P w outer H s E e s'') (fun e' s''=>CX1 P w outer H s E e' s'') s'
section
variable {P:Program} {w:World} {K:Frag} {mg:Str->Option Value} {base:Heap} {N:List Str} {qual:Str} {scope:Scope} {f:Addr} {cd:Value} {cl:List (Str×Addr)} {A:Around} {outer:List Env} {s:Shared} {H:Hp} {E:XK}
theorem xeL {pins:List (Addr×Obj)} {σ:St} {H':Hp} {s':Shared} {e:Addr} {cls:Value} {dd:Option Addr} (I:Inv (cxLam P w K mg base N qual scope f cd cl A outer s H E) pins σ H' s') (x:ExcOk s'.heap H' s.heap e cls dd) (h:E cls dd H') :
 (cxLam P w K mg base N qual scope f cd cl A outer s H E).xe (.ref e) s':=
 leaveX I rfl rfl I.ok.frames rfl x fun h' x' u k=>⟨e,cls,dd,H',rfl,I.os,I.bare,u,k,x',h⟩
theorem passL {E':XK} (hE:∀ cls dd H',E' cls dd H'->E cls dd H'):Passes (CX1 P w) (cxLam P w K mg base N qual scope f cd cl A outer s H E) E':=by
 intro pins σ H1 s1 e s' I h
 obtain ⟨ea,cls,dd,H',rfl,os,bare,un,hok,x,q⟩:=h
 have I':Inv (cxLam P w K mg base N qual scope f cd cl A outer s H E) pins σ H' s':=I.call' (ch:=[]) os un hok bare (fun b z=>absurd z (by simp))
 refine xeL I' (x.mono fun b hb=>?_) (hE _ _ _ q)
 cases z:s.heap.get? b with
 |none=>rfl
 | some o=>
   obtain ⟨o',q'⟩:=I.base.there b o z (by intro hz;cases hz)
   rw [hb] at q';cases q'
structure Clos (scope:Scope) (cl:List (Str×Addr)) (N:List Str) (g:Heap) (H:Hp) (fr:List Addr) (σ:St):Prop where
 inj:∀ x y c,cl.lookup x=some c->cl.lookup y=some c->x=y
 has:∀ x,(scope.names.lookup x=some .cell∨scope.names.lookup x=some .free)->∃ c,cl.lookup x=some c
 cell:∀ x c,cl.lookup x=some c->(∃ v,g.IsCell c v)/\H c=none/\c∉fr
 val:∀ (i:Nat) x v,N[i]?=some x->σ[i]?=some (some v)->scope.names.lookup x=some .free/\∃ c u,cl.lookup x=some c/\RelV v u/\g.IsCell c (some u)
 len:σ.length=N.length
theorem thunk_lam {g:Heap} {fr:List Addr} {σ:St} {k:Nat} {name:Str} {params:Arguments} {body:Expr} {pm ctv:Value} {c':Addr} {Qv:VK} {t:TE} (ho:H f=some (lamO f (kla_obj name qual params body scope cl pm c' ctv)))
 (hc:H c'=some (codeO c' qual)) (C:Clos scope cl N g H fr σ) (hbind:bindArgs (kla_fn name qual params body scope cl pm (.ref c') ctv) ⟨[],[]⟩=pure [])
 (hco:scope.isCoroutine=false) (hgen:scope.isGenerator=false) (hk:scope.kind=.function) (hcell:∀ x∈scope.names,x.2≠.cell)
 (hb:∀ (A:Around) (outer:List Env) (s:Shared),Room k (A.deeper (envX qual scope s.heap.objs.size f (.ref c') cl))->PE (cxLam P w K mg base N qual scope f (.ref c') cl A outer s H E) body t) (hq:t σ H Qv):Thunk P w K mg base g H fr (k+1) f H Qv E:=by
 refine ⟨fun s hok=>⟨_,_,(hok f _ ho).1,rfl⟩,fun A outer s hr e0 kp=>?_⟩
 have lim:s.heap.NoLimit:=e0.mod.nolimit.keeps fun b o e=>(e0.bs b o e).1
 refine kla_callFunE hr.depth (e0.hok f _ ho).1 rfl hco hgen rfl (e0.hok c' _ hc).1 ?_
 rw [hbind]
 refine wpAny_pure (wpAny_newFunctionEnv hcell (fun y hy=>absurd hy (by simp)) (fun h₁ hns hsb=>⟨lim.fresh _ hsb,?_⟩) hk)
 show codeAny _ _ (.expr body (envX qual scope s.heap.objs.size f (.ref c') cl)) _ _
 have hk₁:∀ b o,s.heap.get? b=some o->h₁.get? b=some o:=fun b o e=>hsb.extBut b o (Nat.ne_of_lt (Heap.lt_size e)) (Heap.get?_push_of_some _ e)
 have isC:∀ x c v,cl.lookup x=some c->g.IsCell c v->h₁.IsCell c v:=fun x c v e z=>by
  obtain ⟨_,h2,h3⟩:=C.cell x c e
  obtain ⟨o,ho,hd⟩:=z
  exact ⟨o,hk₁ _ _ (kp _ _ ho h2 h3),hd⟩
 have noA:∀ b:Addr,b∉([]:List Addr):=fun b z=>absurd z (by simp)
 have I:Inv (cxLam P w K mg base N qual scope f (.ref c') cl A outer s H E) [] σ H { s with heap:=h₁,toks:=s.toks+0 }:=by
  refine ⟨⟨e0.mod,hk,rfl,rfl,Nat.le_refl _,C.inj,fun y hy=>C.has y hy,fun y c z=>absurd z (by simp [cxLam]),fun _=>hr.hd,Around.frames_deeper e0.frames,.inr ⟨rfl,rfl⟩,fun b z=>absurd z (noA b),e0.bs,e0.bsz,fun b _ _=>noA b,fun b z=>absurd z (noA b),e0.funs,e0.frf⟩,
   rfl,e0.bare,Un.kept hk₁,⟨_,hns,fun i y v h1 h2 h3=>?_⟩,fun y c h=>?_,e0.hok.fresh (Nat.le_refl _),fun y c h=>(C.cell y c h).2.1,fun p hp=>absurd (show p∈([]:List (Addr×Obj)) from hp) (by simp),e0.hok.kept hk₁,C.len⟩
  ·obtain ⟨fr',c,u,e,r,z⟩:=C.val i y v h1 h2
   exact ⟨u,r,.inr ⟨.inr fr',c,e,isC y c _ e z⟩⟩
  ·obtain ⟨⟨v,z⟩,_⟩:=C.cell y c h
   exact ⟨v,isC y c v h z⟩
 exact kla_codeExpr (wpAny_mono (hb A outer s (hr.deeper _) [] _ σ H Qv I hq) (fun u s' ⟨v,H',J,rv,q⟩=>⟨v,H',J.os,J.bare,J.base,J.hok,rv,q⟩) fun _ _ y=>y)
end
section
variable {X:Cx} {pins:List (Addr×Obj)} {σ:St} {H:Hp} {s:Shared} {h':Heap} {P c':Addr} {ps more:Array Value} {qual:Str}
theorem Inv.grow {t':Nat} (I:Inv X pins σ H s) (hP:H P=some (.tbl ps)) (hx:Heap.ExtBut P s.heap h') (hc:s.heap.objs.size≤c') (hcr:h'.CodeRec (.ref c') qual) (hp:h'.get? P=some { cls:=.none,data:=.fields (ps++more) }) :
 Inv X pins σ (upd (upd H P (.tbl (ps++more))) c' (codeO c' qual)) { s with heap:=h',toks:=t' }:=by
 have hPl:P<s.heap.objs.size:=I.hok.lt hP
 have hcP:c'≠P:=fun q=>by subst q;exact absurd (Nat.lt_of_lt_of_le hPl hc) (Nat.lt_irrefl _)
 have lt:∀ b o,s.heap.get? b=some o->b≠c':=fun b o e q=>by subst q;exact absurd (Nat.lt_of_lt_of_le (Heap.lt_size e) hc) (Nat.lt_irrefl _)
 have neP:∀ b,H b=none->b≠P:=fun b e q=>by subst q;rw [hP] at e;cases e
 have kp:∀ b o,s.heap.get? b=some o->H b=none->h'.get? b=some o:=fun b o e n=>hx b o (neP b n) e
 have up:∀ b u,H b=some u->(∀ qs,u≠.tbl qs)->upd (upd H P (.tbl (ps++more))) c' (codeO c' qual) b=some u:=fun b u e ne=>by
  have h1:b≠c':=fun q=>by subst q;exact absurd (Nat.lt_of_lt_of_le (I.hok.lt e) hc) (Nat.lt_irrefl _)
  have h2:b≠P:=fun q=>by subst q;rw [hP] at e;exact ne _ (Option.some.inj e).symm
  rw [upd_ne h1,upd_ne h2];exact e
 refine I.stepN (ch:=[]) (g':=s.gens) (d':=s.drawn) (t':=t') (fun b hb=>absurd hb (by simp)) (fun b o _ _ _ e n=>kp b o e n) (fun b o _ _ _ e n=>⟨o.slots,kp b o e n⟩) (fun b o _ e n=>?_) (fun b o _ e=>?_) (fun b xs e=>up b _ e (by intro _ q;cases q)) (fun b o u e=>up b _ e (by intro _ q;cases q)) (fun b qs e=>?_) (fun m hm=>?_) (fun b u e=>?_) I.bare
 ·rw [upd_ne (lt b o e),upd_ne (neP b n)];exact n
 ·by_cases q:b=P
  ·subst q;exact ⟨_,hp⟩
  ·exact ⟨o,hx b o q e⟩
 ·have h1:b≠c':=fun q=>by subst q;exact absurd (Nat.lt_of_lt_of_le (I.hok.lt e) hc) (Nat.lt_irrefl _)
  by_cases q:b=P
  ·subst q
   rw [hP] at e
   cases e
   exact ⟨more,by rw [upd_ne h1,upd_same]⟩
  ·exact ⟨#[],by rw [upd_ne h1,upd_ne q,e];simp⟩
 ·obtain ⟨o,es,ep,e,r⟩:=hm
  exact ⟨o,es,ep,kp _ _ e I.free,r⟩
 ·by_cases h1:b=c'
  ·subst h1
   rw [upd_same] at e
   cases e
   exact codeO_ok hcr
  ·rw [upd_ne h1] at e
   by_cases h2:b=P
   ·subst h2
    rw [upd_same] at e
    cases e
    exact hp
   ·rw [upd_ne h2] at e
    refine (I.hok b u e).stay (fun c v hc' q=>hx c v ?_ q) (fun c q=>up c _ q (by intro _ z;cases z)) fun c xs q=>up c _ q (by intro _ z;cases z)
    rintro rfl
    rcases hc' with rfl|z
    ·exact h2 rfl
    ·rw [hP] at z;cases z
structure CodeTab (X:Cx) (c P:Addr):Prop where
 code:X.env.code=.ref c
 hd:CodeHd X.base c P
 bl:X.base.BuiltinsAt X.mg P
 gP:mainGlobals≠P
def Lam (H:Hp) (P:Addr) (lp:Pos) (qual:Str) (c':Addr) (H1:Hp):Prop:=
 ∃ ps,H P=some (.tbl ps)/\((codeAmong lp ps.toList=none/\H c'=none/\c'≠P/\H1=upd (upd H P (.tbl (ps++#[rawInt lp.line,rawInt lp.col,.ref c']))) c' (codeO c' qual))∨(codeAmong lp ps.toList=some (.ref c')/\H c'=some (codeO c' qual)/\H1=H))
def TabOk (H:Hp) (P:Addr) (lp:Pos) (qual:Str):Prop:=∃ ps,H P=some (.tbl ps)/\TriplesOk ps.toList/\(codeAmong lp ps.toList=none∨∃ c',codeAmong lp ps.toList=some (.ref c')/\H c'=some (codeO c' qual))
def tLam (X:Cx) (P:Addr) (params:Arguments) (body:Expr) (scope:Scope) (lp:Pos) (cl:List (Str×Addr)):TE:=fun _ H Q=>TabOk H P lp (X.env.qual++"<lambda>")/\∀ c' H1,Lam H P lp (X.env.qual++"<lambda>") c' H1->∀ f ctv,H1 f=none->Q (.ref f) (upd H1 f (lamO f (kla_obj "<lambda>" (X.env.qual++"<lambda>") params body scope cl ((X.mg "__name__").getD .none) c' ctv)))
theorem pe_lam {c:Addr} {params:Arguments} {body:Expr} {scope:Scope} {lp:Pos} {cl:List (Str×Addr)} (T:CodeTab X c P) (hdef:defaultsOf params X.env=([],[])) (hcl:closureFor scope X.env=pure cl):PE X (.Lambda params body scope lp) (tLam X P params body scope lp cl):=by
 intro pins s σ H Q I h
 obtain ⟨⟨ps,hP,ht,hor⟩,h⟩:=h
 refine kla_eval hdef ?_
 have hPo:s.heap.get? P=some (tabObj ps):=I.hok P _ hP
 have hg:s.heap.Ns mainGlobals X.mg:=by
  obtain ⟨o,es,ep,e,r⟩:=I.ok.mod.glob
  exact ⟨o,es,ep,I.bk _ _ e,r⟩
 have hb:s.heap.BuiltinsAt X.mg P:=by
  obtain ⟨bm,o,b1,b2,b3,b4,b5,b6⟩:=T.bl
  exact ⟨bm,o,b1,b2,b3,b4,I.bk _ _ b5,b6⟩
 rcases hor with hn|⟨c',hf,hc'⟩
 ·refine kla_makeFunction (mg:=X.mg) hcl I.ok.glob hg T.code (T.hd.keeps I.bk) hPo ht hn T.gP hb fun c' ctv h' tk hx hge hlt hrec htb=>?_
  have I1:=I.grow (t':=tk) hP hx hge hrec htb
  have hPl:P<s.heap.objs.size:=I.hok.lt hP
  have fr:upd (upd H P (.tbl (ps++#[rawInt lp.line,rawInt lp.col,.ref c']))) c' (codeO c' (X.env.qual++"<lambda>")) h'.objs.size=none:=I1.hok.fresh (Nat.le_refl _)
  refine ⟨.ref h'.objs.size,_,I1.laid (a:=h'.objs.size) (t':=tk) (fun b u e=>Heap.get?_push_of_some _ e) (Nat.le_refl _) (lamO_ok (Heap.get?_push_size _ rfl)),rfl,h c' _ ⟨ps,hP,.inl ⟨hn,I.hok.fresh hge,fun q=>?_,rfl⟩⟩ _ ctv fr⟩
  subst q
  exact absurd (Nat.lt_of_lt_of_le hPl hge) (Nat.lt_irrefl _)
 ·refine kla_makeFunctionHit (mg:=X.mg) hcl I.ok.glob hg T.code (T.hd.keeps I.bk) hPo ht hf hb fun ctv h' tk hk hsz=>?_
  have fr:H h'.objs.size=none:=I.hok.fresh hsz
  exact ⟨.ref h'.objs.size,_,I.laid (a:=h'.objs.size) (h':=h'.push _) (t':=tk) (fun b u e=>Heap.get?_push_of_some _ (hk b u e)) hsz (lamO_ok (Heap.get?_push_size _ rfl)),rfl,h c' _ ⟨ps,hP,.inr ⟨hf,hc',rfl⟩⟩ _ ctv fr⟩
end
section
variable {X:Cx} {CX:CXT} {k:Nat} {f C:Addr} {fd:FuncData} {ps:List Str} {sp:Shared->List Env->Sp} {E:XK} {x:Str} {p pos:Pos} {e:Expr} {es:List Expr} {t:TA}
theorem run_fnS {pins:List (Addr×Obj)} {σ:St} {H:Hp} {s:Shared} {Q:VK} {us:List Value} {vs:List V} (F:FnOkS X.prog X.w X.K X.mg X.base CX k f fd ps sp) (hr:Room k X.A) (hb:Binds X.K fd ps []) (hx:Passes CX X E)
 (I:Inv X pins σ H s) (r:Vals vs us) (h:sp s X.stack vs H Q E):wpAny (model X.prog X.w) X.A (call (.ref f) us) (EP X pins σ Q) X.xe s:=by
 have hl:us.length=ps.length:=by rw [← r.length];exact F.len _ _ _ _ _ _ h
 have hb':=hb s us I.kIn (by rw [List.append_nil];exact hl)
 rw [List.append_nil] at hb'
 refine wpAny_call (codeAny_mono (F.run X.A X.stack s H ⟨us,[]⟩ us vs Q E hr I.env0 hb' r h) fun r s' hq=>?_)
 cases r with
 |error e=>exact hx pins σ H s e s' I hq
 | ok fl=>
   cases fl with
   |ret u=>exact I.after hq
   |next=>exact False.elim hq
   |brk=>exact False.elim hq
   |cont=>exact False.elim hq
theorem pe_callS {r:St->List V->Hp->VK->Prop} (F:FnOkS X.prog X.w X.K X.mg X.base CX k f fd ps sp) (hr:Room k X.A) (hg:Gl X x) (hm:X.mg x=some (.ref f)) (hk:PySem.W.keepIn X.K (.ref f)=true) (hb:Binds X.K fd ps []) (hx:Passes CX X E)
 (hsp:∀ pins σ H s vs Q,Inv X pins σ H s->r σ vs H Q->sp s X.stack vs H Q E) (ha:PA X (e::es) t) (hdb:(x == ("__debug__" : Str))=false:=by decide) (he:starEach (e::es) X.env=(false,eval e X.env)::starEach es X.env:=by rfl) (hpl:(backTo pos (starEach es X.env)).any (·.1)=false:=by rfl) :
 PE X (.Call (.Name x p) (e::es) [] pos) (fun σ H Q=>t σ H fun vs H1=>r σ vs H1 Q):=by
 intro pins s σ H Q I h
 refine wpAny_Call_Name_kw (ld_glob I hg hm ?_ hdb)
 refine PySem.W.callWith_K (h₀:=X.base) I.ok.mod.kin hk (thn (ha pos pins s σ H _ I h) fun us s1 ⟨vs,H1,I1,r,q⟩=>⟨I1.kIn,?_⟩) he hpl
 exact run_fnS F hr hb hx I1 r (hsp _ _ _ _ _ _ I1 q)
theorem lookup_of_mem_keys {cl:List (Str×Addr)} {x:Str} (h:x∈cl.map (·.1)):∃ c,cl.lookup x=some c:=by
 induction cl with
 |nil=>simp at h
 | cons q r ih=>
   obtain ⟨y,c⟩:=q
   rw [List.lookup_cons]
   by_cases e:(x == y)=true
   ·exact ⟨c,by rw [e]⟩
   ·have e':(x == y)=false:=by simpa using e
    rw [e']
    refine ih ?_
    rcases List.mem_cons.mp h with z|z
    ·exact absurd (beq_iff_eq.mpr z) e
    ·exact z
def freeV (js:List Nat) (σ:St):St:=js.map fun j=>(σ[j]?).join
theorem clos_of {pins:List (Addr×Obj)} {σ:St} {H:Hp} {s:Shared} {scope:Scope} {cl:List (Str×Addr)} {NL:List Str} {js:List Nat} (I:Inv X pins σ H s) (hcl:∀ p∈cl,X.env.cells.lookup p.1=some p.2) (hfn:∀ x,X.fn x=true)
 (hhas:∀ p∈scope.names,(p.2=.cell∨p.2=.free)->p.1∈cl.map (·.1)) (hfree:∀ x∈NL,scope.names.lookup x=some .free) (hown:∀ x∈NL,X.env.scope.names.lookup x=some .cell) (hN:NL.map some=js.map fun j=>X.N[j]?) (hst:X.stack=X.env::X.outer) (hfm:X.env.frame=some X.env.locals) :
 Clos scope cl NL s.heap H (frs X.stack) (freeV js σ):=by
 have sub:∀ x c,cl.lookup x=some c->X.env.cells.lookup x=some c:=fun x c e=>hcl (x,c) (PySem.mem_of_lookup e)
 have hlen:js.length=NL.length:=by simpa using (congrArg List.length hN).symm
 refine ⟨fun x y c h1 h2=>I.ok.inj x y c (sub x c h1) (sub y c h2),fun x hx=>?_,fun x c e=>⟨I.cell x c (sub x c e),I.freeC x c (sub x c e),fun hm=>?_⟩,fun i x v h1 h2=>?_,by unfold freeV;rw [List.length_map];exact hlen⟩
 ·refine lookup_of_mem_keys ?_
  rcases hx with hx|hx
  ·exact hhas _ (PySem.mem_of_lookup hx) (.inl rfl)
  ·exact hhas _ (PySem.mem_of_lookup hx) (.inr rfl)
 ·rcases List.mem_cons.mp (I.stkSub c hm) with q|q
  ·exact I.cne x c (sub x c e) q
  ·obtain ⟨_,o,ho,_⟩:=I.ok.funs.mem q
   exact absurd (Nat.lt_of_lt_of_le (Heap.lt_size ho) (I.ok.cab x c (hfn x) (sub x c e))) (Nat.lt_irrefl _)
 ·have hx:x∈NL:=List.mem_of_getElem? h1
  have e1:(js.map fun j=>X.N[j]?)[i]?=some (some x):=by rw [← hN,List.getElem?_map,h1];rfl
  rw [List.getElem?_map] at e1
  obtain ⟨j,hj,e1⟩:=Option.map_eq_some_iff.mp e1
  unfold freeV at h2
  rw [List.getElem?_map,hj] at h2
  have h3:σ[j]?=some (some v):=by
   have h2:(σ[j]?).join=some v:=Option.some.inj h2
   cases e:σ[j]? with
   |none=>rw [e] at h2;cases h2
   | some a=>rw [e] at h2;cases a with
     |none=>cases h2
     |some b=>exact congrArg some h2
  obtain ⟨m,hn,hl⟩:=I.loc
  obtain ⟨u,r,lk⟩:=hl j x v e1 h3 (.inr (.inl (hown x hx)))
  refine ⟨hfree x hx,?_⟩
  rcases lk with ⟨kk,_⟩|⟨_,c,hc,z⟩
  ·have kk:X.env.scope.names.lookup x=some .local:=kk
   rw [hown x hx] at kk;cases kk
  ·obtain ⟨c2,e2⟩:=lookup_of_mem_keys (hhas _ (PySem.mem_of_lookup (hfree x hx)) (.inr rfl))
   have:=sub x c2 e2
   rw [hc] at this
   cases this
   exact ⟨c,u,e2,r,z⟩
end
end L2
namespace L2
open PySem PySem.Spec PyProof.Rows
end L2
namespace L2
open PySem PySem.Spec PyProof.Rows PySem.W
def tabIn (K:Frag) (c:Addr):Option Addr:=match K.lookup c with
 | some o=>(match o.data with
   | .fields vs=>(match (vs[11]?:Option Value),vs.getD 18 .none,vs.getD 7 .none,vs.getD 9 .none,vs.getD 10 .none with
     |some (Value.ref P),.str _ _,.int _ _,.bool _,.int _ _=>if (o.cls == .type "code" && c != P)=true then some P else none
     |_,_,_,_,_=>none)
   |_=>none)
 |none=>none
theorem hd_of {K:Frag} {h:Heap} {c P:Addr} (X:K.In h) (e:tabIn K c=some P):CodeHd h c P:=by
 unfold tabIn at e
 split at e
 ·rename_i o ho
  split at e
  ·rename_i vs hd
   split at e
   ·rename_i P' x18 t18 x7 t7 x9 x10 t10 h11 h18 h7 h9 h10
    split at e
    ·rename_i hc
     cases e
     simp only [Bool.and_eq_true,beq_iff_eq,bne_iff_ne] at hc
     refine ⟨o,vs,x18,t18,x7,t7,x9,x10,t10,X _ _ ho,hc.1,hd,h11,?_,h18,h7,h9,h10,hc.2⟩
     rw [Array.getD_eq_getD_getElem?,h11]
     rfl
    ·cases e
   ·cases e
  ·cases e
 ·cases e
end L2
namespace L2
open PySem PySem.Spec PyProof.Rows PySem.SeqAt
section
variable {X:Cx}
def rInsert:V->List V->Hp->VK->Prop:=fun x vs H Q=>∃ (l:Addr) (xs:List V) (k:Nat) (y:V),x=.ref l/\vs=[.int k,y]/\H l=some (.lst xs)/\k≤xs.length/\xs.length<1000000/\Q .non (upd H l (.lst (xs.take k++y::xs.drop k)))
theorem mt_insert:MtM X "list.insert" rInsert:=by
 intro pins s σ H x vs v us Q I rx rv h
 obtain ⟨l,xs,k,y,rfl,rfl,hH,hk,hz,q⟩:=h
 cases rx
 cases rv with
 |cons r1 rv=>
  cases rv with
  |cons ru rv=>
   cases rv
   rename_i u
   obtain ⟨t,rfl⟩:=r1
   obtain ⟨z,its,n,r,hl,e⟩:=I.lstM hH
   have big:1000000≤sizeLine:=by decide
   have fit:¬ (!Builtin.List.listFitsIndex (k:Int))=true:=by
    rw [fitsIndex_both (by omega) (by omega)]
    decide
   have hsz:its.toArray.size≤sizeLine:=by rw [List.size_toArray];omega
   generalize hi:(k:Int)=i at fit
   refine call_meets F.slot_list_insert ⟨_,e,rfl⟩ F.entry_list_insert (F.args_list_insert_3 (.ref l) (.int i t) u) (AutoListH.list_insert_list_int_val_1 l its.toArray n i t u fit hsz) ⟨e,?_⟩
   subst hi
   have rt:Vals (xs.take k) (its.take k)/\Vals (xs.drop k) (its.drop k):=by
    clear hz q e hH hk hl z hsz fit
    induction r generalizing k with
    |nil=>rw [List.take_nil,List.take_nil,List.drop_nil,List.drop_nil];exact ⟨.nil,.nil⟩
    | cons a b ih=>
      cases k with
      |zero=>exact ⟨.nil,.cons a b⟩
      |succ k=>exact ⟨.cons a (ih (k:=k)).1,(ih (k:=k)).2⟩
   refine ⟨.non,_,I.lset (its':=its.take k++u::its.drop k) hH e ?_ (rt.1.append (.cons ru rt.2)) ?_,rfl,q⟩
   ·have h1:min (k:Int).toNat its.toArray.size=k:=by rw [List.size_toArray,Int.toNat_natCast];omega
    show ((its.toArray.extract 0 (if (k:Int)<0 then ((k:Int)+((its.toArray.size:Nat):Int)).toNat else min (k:Int).toNat its.toArray.size)).push u++its.toArray.extract (if (k:Int)<0 then ((k:Int)+((its.toArray.size:Nat):Int)).toNat else min (k:Int).toNat its.toArray.size))=_
    rw [if_neg (by omega),h1]
    apply Array.ext'
    simp
    exact List.take_of_length_le (by rw [List.length_drop];omega)
   ·rw [List.length_append,List.length_cons,List.length_take,List.length_drop]
    omega
end
section
variable {X:Cx} {tg:Expr}
end
section
variable {X:Cx}
end
section
variable {prog:Program} {w:World} {A:Around} {E:Value->Shared->Prop} {s:Shared} {l:Addr} {x y:Value}
end
section
variable {X:Cx} {pos:Pos}
end
section
variable {X:Cx} {CX:CXT} {k:Nat} {f C:Addr} {fd:FuncData} {ps ks:List Str} {sp:Sp} {E:XK} {x m:Str} {p pos apos kpos:Pos} {e o:Expr} {es:List Expr} {kws:List Keyword} {te ta:TE} {t tk:TA}
variable {g:List Value->List Value->List Value} {gV:List V->List V->List V}
end
end L2
namespace L2
open PySem PySem.Spec PyProof.Rows PySem.W
theorem codeAmong_snoc2 {pos p:Pos} {c:Value} (l:List Value) (h:TriplesOk l):codeAmong pos (l++[rawInt p.line,rawInt p.col,c])=(codeAmong pos l).or (if (p.line:Int) == pos.line && (p.col:Int) == pos.col then some c else none):=by
 fun_induction TriplesOk l with
 |case1=>simp [codeAmong,rawInt]
 | case2 a t b u c' rest ih=>
   show codeAmong pos (.int a t::.int b u::c'::(rest++_))=_
   rw [codeAmong,codeAmong]
   split
   ·rfl
   ·exact ih h
 |case3=>exact h.elim
theorem triples_snoc {p:Pos} {c:Value} (l:List Value) (h:TriplesOk l):TriplesOk (l++[rawInt p.line,rawInt p.col,c]):=by
 fun_induction TriplesOk l with
 |case1=>simp [TriplesOk,rawInt]
 |case2 a t b u c' rest ih=>exact ih h
 |case3=>exact h.elim
def TabI (H:Hp) (T:Addr) (qual:Str) (lps:List Pos):Prop:=
 ∃ ps,H T=some (.tbl ps)/\TriplesOk ps.toList/\∀ lp∈lps,codeAmong lp ps.toList=none∨∃ c',codeAmong lp ps.toList=some (.ref c')/\H c'=some (codeO c' qual)
theorem TabI.tab {H:Hp} {T:Addr} {qual:Str} {lps:List Pos} {lp:Pos} (h:TabI H T qual lps) (m:lp∈lps):TabOk H T lp qual:=by
 obtain ⟨ps,h1,h2,h3⟩:=h
 exact ⟨ps,h1,h2,h3 lp m⟩
theorem TabI.keep {H H':Hp} {T:Addr} {qual:Str} {lps:List Pos} (h:TabI H T qual lps) (k:∀ b u,H b=some u->(∀ kvs,u≠.dK kvs)->H' b=some u):TabI H' T qual lps:=by
 obtain ⟨ps,h1,h2,h3⟩:=h
 refine ⟨ps,k _ _ h1 (by intro _ z;cases z),h2,fun lp m=>?_⟩
 rcases h3 lp m with z|⟨c',z,e⟩
 ·exact .inl z
 ·exact .inr ⟨c',z,k _ _ e (by intro _ z;cases z)⟩
theorem TabI.same {H H':Hp} {T:Addr} {qual:Str} {lps:List Pos} (h:TabI H T qual lps) (s:Same H H'):TabI H' T qual lps:=h.keep fun b u e _=>s b u e
theorem Lam.code {H H1:Hp} {T c':Addr} {lp:Pos} {qual:Str} (h:Lam H T lp qual c' H1):H1 c'=some (codeO c' qual):=by
 obtain ⟨ps,h1,⟨_,_,_,rfl⟩|⟨_,h2,rfl⟩⟩:=h
 ·exact upd_same
 ·exact h2
theorem Lam.keep {H H1:Hp} {T c':Addr} {lp:Pos} {qual:Str} (h:Lam H T lp qual c' H1) {b:Addr} {u:HO} (e:H b=some u) (ne:∀ ps,u≠.tbl ps):H1 b=some u:=by
 obtain ⟨ps,h1,⟨_,h2,_,rfl⟩|⟨_,h2,rfl⟩⟩:=h
 ·rw [upd_ne (ne_of_none e h2),upd_ne (ne_of e h1 (ne _))];exact e
 ·exact e
theorem TabI.lam {H H1:Hp} {T c':Addr} {lp:Pos} {qual:Str} {lps:List Pos} (h:TabI H T qual lps) (l:Lam H T lp qual c' H1):TabI H1 T qual lps:=by
 obtain ⟨ps,h1,h2,h3⟩:=h
 obtain ⟨ps',e1,l⟩:=l
 rw [h1] at e1
 cases e1
 rcases l with ⟨hn,hc,ne,rfl⟩|⟨_,_,rfl⟩
 ·refine ⟨ps++#[rawInt lp.line,rawInt lp.col,.ref c'],by rw [upd_ne ne.symm,upd_same],?_,fun lp' m=>?_⟩
  ·rw [Array.toList_append]
   exact triples_snoc _ h2
  ·rw [Array.toList_append]
   show codeAmong lp' (ps.toList++[rawInt lp.line,rawInt lp.col,.ref c'])=none∨∃ c'',codeAmong lp' (ps.toList++[rawInt lp.line,rawInt lp.col,.ref c'])=Option.some (Value.ref c'')/\_
   rw [codeAmong_snoc2 _ h2]
   rcases h3 lp' m with z|⟨c'',z,e⟩
   ·rw [z]
    by_cases q:((lp.line:Int) == lp'.line && (lp.col:Int) == lp'.col)=true
    ·rw [if_pos q]
     exact .inr ⟨c',rfl,upd_same⟩
    ·rw [if_neg q]
     exact .inl rfl
   ·rw [z]
    refine .inr ⟨c'',rfl,?_⟩
    rw [upd_ne (ne_of_none e hc),upd_ne (ne_of e h1 (by intro z;cases z))];exact e
 ·exact ⟨ps,h1,h2,h3⟩
theorem law_callM {P:Program} {w:World} {K:PySem.W.Frag} {mg mb:Str->Option Value} {CX:CXT} {k:Nat} {fa a:Addr} {Ts:List Addr} {fd:FuncData} {x:Str} {sp:Sp} {s₁:Shared} {vs:List Value} {ns:List Int}
 (KX:K.In s₁.heap) (hns:s₁.heap.Ns mainGlobals mg) (hb:s₁.heap.Ns builtinsNs mb) (hbb:∀ x:Str,x ≠ "__name__"->mb x=bootBuiltins x) (hlim:s₁.heap.NoLimit) (hg:s₁.gens=#[])
 (ha:s₁.heap.get? a=some { cls:=.type "list",data:=.seq vs.toArray }) (hi:IntsAre vs ns) (hl:ns.length≤sizeLine) (hr:Room k callerA)
 (hT:∀ T∈Ts,s₁.heap.get? T=some (tabObj #[])/\K.lookup T=none/\∃ c,PySem.W.CodeHd s₁.heap c T)
 (F:∀ base:Heap,K.In base->base.Ns mainGlobals mg->(∀ b o,s₁.heap.get? b=some o->b∉Ts->b≠a->base.get? b=some o)->FnOk P w K mg base CX k fa fd [x] sp) (hbind:∀ (s:Shared) (u:Value),BindsTo s fd ⟨[u],[]⟩ [(x,u)])
 (hsp:∀ H:Hp,(∀ T∈Ts,H T=some (.tbl #[]))->SqL K H a (ns.map V.int)->sp [.ref a] H (fun v _=>v=.bl true) fun _ _ _=>False)
 (hCX:∀ H e s',CX [] H s₁ (fun _ _ _=>False) e s'->False) :
 codeAny (model P w) callerA (.call (.ref fa) ⟨[.ref a],[]⟩) (fun r s'=>r=.ok (.ret (.bool true))/\OldK s₁.heap s'.heap/\s'.os=s₁.os/\AllBare s'.gens) s₁:=by
 have rv:=vals_ints hi
 have lenV:=hi.length
 have haT:a∉Ts:=fun q=>by have:=(hT a q).1;rw [ha] at this;cases this
 have core:∀ H0:Hp,(∀ b,H0 b=none∨(b=a/\K.lookup a=none/\H0 b=some (.frz { cls:=.type "list",data:=.seq vs.toArray } (.lst (ns.map V.int)))))->SqL K (fun b=>if b∈Ts then some (.tbl #[]) else H0 b) a (ns.map V.int)->
  codeAny (model P w) callerA (.call (.ref fa) ⟨[.ref a],[]⟩) (fun r s'=>r=.ok (.ret (.bool true))/\OldK s₁.heap s'.heap/\s'.os=s₁.os/\AllBare s'.gens) s₁:=by
  intro H0 hO hS
  generalize hH:(fun b=>if b∈Ts then some (HO.tbl #[]) else H0 b:Hp)=H at hS
  have HT:∀ T∈Ts,H T=some (.tbl #[]):=fun T m=>by rw [← hH];exact if_pos m
  have Hne:∀ b,b∉Ts->H b=H0 b:=fun b e=>by rw [← hH];exact if_neg e
  have Hn:∀ b,b∉Ts->b≠a->H b=none:=fun b h1 h2=>by
   rw [Hne b h1]
   rcases hO b with z|⟨z,_⟩
   ·exact z
   ·exact absurd z h2
  have hok:HOk P w H s₁.heap:=fun b u e=>by
   by_cases q:b∈Ts
   ·rw [HT b q] at e;cases e
    exact (hT b q).1
   ·rw [Hne b q] at e
    rcases hO b with z|⟨rfl,_,z⟩
    ·rw [z] at e;cases e
    ·rw [z] at e;cases e
     exact ⟨ha,by rw [List.length_map];exact hl,vs,_,rv,ha⟩
  have nsN:∀ {b:Addr} {o:Obj} {es:Array DictEntry} {ep:Nat},s₁.heap.get? b=some o->o.data=.dict es ep->H b=none:=fun {b o es ep} e d=>by
   refine Hn b (fun q=>?_) (fun q=>?_)
   ·rw [(hT b q).1] at e;cases e;cases d
   ·subst q;rw [ha] at e;cases e;cases d
  have nsK:∀ {b:Addr} {m:Str->Option Value},s₁.heap.Ns b m->(hidT s₁.heap H).Ns b m:=fun {b m} ⟨o,es,ep,e,d,r⟩=>⟨o,es,ep,hidT_get e (nsN e d),d,r⟩
  have hKb:K.In (hidT s₁.heap H):=fun b o e=>by
   refine hidT_get (KX b o e) ?_
   have q:b∉Ts:=fun m=>by rw [(hT b m).2.1] at e;cases e
   rw [Hne b q]
   rcases hO b with z|⟨rfl,z,_⟩
   ·exact z
   ·rw [z] at e;cases e
  have hM:Mod K mg (hidT s₁.heap H):=⟨hKb,nsK hns,⟨mb,nsK hb,hbb⟩,let ⟨mc,h1,h2⟩:=hlim;⟨mc,nsK h1,h2⟩⟩
  have e0:Env0 P w K mg (hidT s₁.heap H) callerA [] s₁ H:=⟨rfl,hM,fun b o e=>of_hidT e,Nat.le_of_eq (hidT_size _ _),trivial,fun b hb=>absurd (show b∈([]:List Addr) from hb) (by simp),hok,.of_eq hg⟩
  refine codeAny_mono ((F _ hKb (nsK hns) fun b o e h1 h2=>hidT_get e (Hn b h1 h2)).run callerA [] s₁ H ⟨[.ref a],[]⟩ [.ref a] [.ref a] _ _ hr e0 (hbind s₁ (.ref a)) (.cons rfl .nil) (hsp H HT hS)) fun r s' h=>?_
  cases r with
  |error e=>exact (hCX H e s' h).elim
  | ok fl=>
    cases fl with
    |next=>exact False.elim h
    |brk=>exact False.elim h
    |cont=>exact False.elim h
    | ret u=>
      obtain ⟨v,H',os,bare,un,hok',r',q⟩:=h
      cases (show v=.bl true from q)
      cases (show u=Value.bool true from r')
      have was:∀ b o,s₁.heap.get? b=some o->b∉Ts->s'.heap.get? b=some o:=fun b o e h1=>by
       rcases hO b with z|⟨rfl,_,z⟩
       ·exact un.keep b o e (by rw [Hne b h1];exact z) (by intro z;exact absurd (show b∈([]:List Addr) from z) (by simp)) (by simp)
       ·have z2:=un.frzs b _ _ ((Hne b h1).trans z)
        obtain ⟨e2,_⟩:=hok' b _ z2
        rw [ha] at e;cases e
        exact e2
      have tbs:∀ T∈Ts,∃ more,s'.heap.get? T=some { cls:=.none,data:=.fields (#[]++more) }:=fun T m=>by
       obtain ⟨more,hm⟩:=un.tbls T #[] (HT T m)
       exact ⟨more,hok' T _ hm⟩
      refine ⟨rfl,⟨fun b o e=>?_,fun b o e=>?_⟩,os,bare⟩
      ·by_cases h1:b∈Ts
       ·obtain ⟨more,tb⟩:=tbs b h1
        obtain ⟨h2,_,c,hc⟩:=hT b h1
        rw [h2] at e;cases e
        exact .inr (.inl ⟨(hc.tab h2).isCodeTable,rfl,#[],more,rfl,tb⟩)
       ·exact .inl (was b o e h1)
      ·by_cases h1:b∈Ts
       ·obtain ⟨more,tb⟩:=tbs b h1
        exact ⟨_,tb⟩
       ·exact ⟨o,was b o e h1⟩
 cases hk:K.lookup a with
 | some o=>
   have e:=KX a o hk
   rw [ha] at e
   cases e
   exact core (fun _=>none) (fun _=>.inl rfl) (.inr ⟨_,vs.toArray,_,hk,rfl,rfl,rfl,by rw [List.size_toArray,lenV];exact hl,by simpa using rv⟩)
 | none=>
   refine core (fun b=>if b=a then some (.frz { cls:=.type "list",data:=.seq vs.toArray } (.lst (ns.map V.int))) else none) (fun b=>?_) (.inl (.inr ⟨_,(if_neg haT).trans (if_pos rfl)⟩))
   by_cases h:b=a
   ·exact .inr ⟨h,hk,if_pos h⟩
   ·exact .inl (if_neg h)
theorem walk_ofM {l:PySem.W.OpenLaw} {n k:Nat} {q:Program} {loose:List Str} {XP:(Str->Option Value)->Heap->Prop} {YP:World->Heap->Prop} {d:DefRec} {K:Params->PySem.W.Frag} {CX:World->CXT} {x:Str} {Ts:List Addr}
 (hn:l.most=some n) (hn2:n≤sizeLine) (hdf:d.params.defaults=[]) (hr:Room k callerA)
 (hY:∀ (w:World) (h:Heap),YP w h->(K w.params).In h) (hYT:∀ (w:World) (h:Heap),YP w h->∀ T∈Ts,h.get? T=some (tabObj #[]))
 (F:∀ (w:World) (mg:Str->Option Value) (fa:Addr) (h:Heap),(K w.params).In h->h.Ns mainGlobals mg->mg d.name=some (.ref fa)->
  ∃ (fd:FuncData) (sp:Sp),(∀ (s:Shared) (u:Value),BindsTo s fd ⟨[u],[]⟩ [(x,u)])/\(∀ T∈Ts,(K w.params).lookup T=none/\∃ c,tabIn (K w.params) c=some T)/\
    (∀ (H:Hp) (a:Addr) (ns:List Int),ns.length≤n->(∀ T∈Ts,H T=some (.tbl #[]))->SqL (K w.params) H a (ns.map V.int)->sp [.ref a] H (fun v _=>v=.bl true) fun _ _ _=>False)/\
    ∀ base:Heap,(K w.params).In base->base.Ns mainGlobals mg->(∀ T∈Ts,base.BuiltinsAt mg T/\mainGlobals≠T)->FnOk l.prog w (K w.params) mg base (CX w) k fa fd [x] sp)
 (hCX:∀ (w:World) (H:Hp) (s:Shared) (e:Value) (s':Shared),CX w [] H s (fun _ _ _=>False) e s'->False) :
 PySem.W.WalkO q loose XP YP l.row.toRowW d [] (fun f vs=>PySem.call f vs):=by
 refine Att.attach_call hn hdf fun w s₀ s₁ mg mb fa o pm cd doc a vs ns G Y ho hd hcd hmg hobj hints hlen hg=>?_
 have KX:=hY w _ Y
 have TX:=hYT w _ Y
 obtain ⟨fd,sp,hb,ht,hsp,hF⟩:=F w mg fa _ KX G.T.g hmg
 obtain ⟨bm,ob,b1,b2,b3,b4,b5,b6⟩:=G.T.bmain
 have gT:∀ T∈Ts,mainGlobals≠T:=fun T m q=>by
  obtain ⟨o,es,ep,e,hd,_⟩:=G.T.g
  rw [q,TX T m] at e;cases e;cases hd
 have bT:bm∉Ts:=fun m=>by
  rw [TX _ m] at b3;cases b3;cases b4
 have ba:bm≠a:=fun q=>by
  rw [q,hobj] at b3;cases b3;cases b6
 have bG:bm≠mainGlobals:=fun q=>by
  obtain ⟨o,es,ep,e,hd,_⟩:=G.T.g
  rw [q,e] at b3;cases b3;rw [hd] at b6;cases b6
 exact law_callM KX G.T.g G.T.b G.T.builtins G.T.nolimit hg hobj hints (Nat.le_trans hlen hn2) hr (fun T m=>⟨TX T m,(ht T m).1,let ⟨c,z⟩:=(ht T m).2;⟨c,hd_of KX z⟩⟩) (fun base kb nb old=>hF base kb nb fun T m=>⟨⟨bm,ob,b1,b2,bG,fun q=>bT (q ▸ m),old _ _ b3 bT ba,b4,b5,b6⟩,gT T m⟩) hb (fun H hH hS=>hsp H a ns hlen hH hS) fun H e s'=>hCX w H s₁ e s'
end L2
namespace L2
open PySem PySem.Spec PyProof.Rows
section
variable {X:Cx} {scope:Scope} {own:List Str} {js:List Nat} {N':List Str} {wi:TI} {g:TG} {tt:TT} {tk tv:TE} {ke ve tg iter:Expr} {ifs:List Expr} {pos:Pos}
end
end L2
namespace L2
open PySem PySem.Spec PyProof.Rows PySem.SeqAt
theorem len1 {α:Type} {us:List α} (h:us.length=1):∃ a,us=[a]:=List.length_eq_one_iff.mp h
theorem len2 {α:Type} {us:List α} (h:us.length=2):∃ a b,us=[a,b]:=by
 cases us with
 |nil=>cases h
 | cons a r=>
   obtain ⟨b,rfl⟩:=len1 (us:=r) (by simpa using h)
   exact ⟨a,b,rfl⟩
theorem len3 {α:Type} {us:List α} (h:us.length=3):∃ a b c,us=[a,b,c]:=by
 cases us with
 |nil=>cases h
 | cons a r=>
   obtain ⟨b,c,rfl⟩:=len2 (us:=r) (by simpa using h)
   exact ⟨a,b,c,rfl⟩
theorem len4 {α:Type} {us:List α} (h:us.length=4):∃ a b c d,us=[a,b,c,d]:=by
 cases us with
 |nil=>cases h
 | cons a r=>
   obtain ⟨b,c,d,rfl⟩:=len3 (us:=r) (by simpa using h)
   exact ⟨a,b,c,d,rfl⟩
end L2
namespace L2
open PySem PySem.Spec PyProof.Rows
section
variable {X:Cx}
end
theorem comp_listF {K:PySem.W.Frag} {a:Addr} {xs:List V} {g:TG} {tt:TT} {te:TE} {F:List V->Hp->Prop} {σ0:St} {H0:Hp} (Pv:Nat->List V->St->Hp->Prop) (hn:xs.length≤sizeLine) (h0:Pv 0 [] σ0 H0) (hq:∀ i ys σ H,i≤xs.length->Pv i ys σ H->SqL K H a xs)
 (hs:∀ i x ys σ H,xs[i]?=some x->Pv i ys σ H->∀ N:List V->St->Hp->Prop,(∀ ys' σ' H',Pv (i+1) ys' σ' H'->ys'.length≤ys.length+1->N ys' σ' H')->g x σ H fun σ2 H2=>tt σ2 H2 fun b H3=>if b=true then te σ2 H3 fun y H4=>N (ys++[y]) σ2 H4 else N ys σ2 H3)
 (hd:∀ ys σ H,ys.length≤xs.length->Pv xs.length ys σ H->F ys H) :
 ∃ W:Nat->Nat->List V->St->Hp->Prop,(∃ m,W 0 m [] σ0 H0)/\CTurn (Itl K a) g tt te F W:=by
 refine ⟨fun i m ys σ H=>m=xs.length-i/\i≤xs.length/\ys.length≤i/\Pv i ys σ H,⟨xs.length,by simp,Nat.zero_le _,Nat.zero_le _,h0⟩,?_⟩
 rintro i m ys σ H ⟨rfl,hi,hl,p⟩
 have q:=hq i ys σ H hi p
 by_cases hlt:i<xs.length
 ·refine .inr ⟨⟨xs,xs[i],q,by simp [hlt]⟩,by omega,fun x H' y=>?_⟩
  obtain ⟨e,y⟩:=y
  subst e
  refine hs i x ys σ _ (y xs q) p (fun ys' σ' H'=>∃ m',m'<xs.length-i/\m'=xs.length-(i+1)/\i+1≤xs.length/\ys'.length≤i+1/\Pv (i+1) ys' σ' H') fun ys' σ' H' q hl'=>⟨xs.length-(i+1),by omega,rfl,hlt,by omega,q⟩
 ·have e:i=xs.length:=by omega
  subst e
  exact .inl ⟨⟨xs,q,Nat.le_refl _⟩,hd ys σ H hl p⟩
end L2
namespace L2
open PySem PySem.Spec PyProof.Rows PySem.SeqAt
def EvE (t:TE) (σ:St) (H:Hp) (v:V):Prop:=∀ Q:VK,Q v H->t σ H Q
def EvT (t:TT) (σ:St) (H:Hp) (b:Bool):Prop:=∀ Q:Bool->Hp->Prop,Q b H->t σ H Q
def EvR (r:R2) (x y:V) (H:Hp) (v:V):Prop:=∀ Q:VK,Q v H->r x y H Q
def EvF (t:TF) (σ:St) (H:Hp) (m:Nat):Prop:=∀ (out:Str) (Q:VK),out.length+m≤sizeLine->(∀ y,Q (.str y) H)->t out σ H Q
section
variable {σ:St} {H:Hp} {ta tb tc:TE} {t u:TT} {x y z v:V} {r r':R2} {k k':Bool} {f:TF} {m n:Nat}
theorem EvE.var {i:Nat} (h:σ[i]?=some (some v)):EvE (tVar i) σ H v:=fun Q q=>⟨v,h,q⟩
theorem EvE.con:EvE (tC v) σ H v:=fun Q q=>q
theorem EvE.op (a:EvE ta σ H x) (b:EvE tb σ H y) (c:EvR r x y H v):EvE (tOp r ta tb) σ H v:=fun Q q=>a _ (b _ (c _ q))
theorem EvE.neg {i:Int} (a:EvE ta σ H (.int i)):EvE (tUn (rU fun i=>.int (-i)) ta) σ H (.int (-i)):=fun Q q=>a _ ⟨i,rfl,q⟩
theorem EvR.i0 {g:Int->Int->V} {i j:Int}:EvR (rI0 g) (.int i) (.int j) H (g i j):=fun Q q=>⟨i,j,rfl,rfl,q⟩
theorem EvR.eq (h:scal x y=true):EvR rEq x y H (.bl (decide (x=y))):=fun Q q=>⟨h,q⟩
theorem EvT.test {t:TE} (a:EvE t σ H (.bl k)):EvT (tTest t) σ H k:=fun Q q=>a _ ⟨k,rfl,q⟩
theorem EvE.chain (a:EvE ta σ H x) (b:EvE tb σ H y) (c:EvE tc σ H z) (h:EvR r x y H (.bl k)) (h':EvR r' y z H (.bl k')):EvE (tChain r r' ta tb tc) σ H (.bl (k && k')):=fun Q q=>a _ (b _ (h _ ⟨k,rfl,by
 cases k with
 |false=>exact ifF rfl q
 |true=>exact ifT rfl (c _ (h' _ q))⟩))
theorem EvT.not (a:EvT t σ H k):EvT (tNot t) σ H (!k):=fun Q q=>a _ q
theorem EvT.or (a:EvT t σ H k) (b:EvT u σ H k'):EvT (tOr t u) σ H (k || k'):=fun Q q=>a _ (by
 cases k with
 |false=>exact ifF rfl (b _ q)
 |true=>exact ifT rfl q)
theorem EvT.iff {D:Ends} {a b:TS} (h:EvT t σ H k) (q:if k=true then a D σ H else b D σ H):tIfS t a b D σ H:=h _ q
theorem EvF.nil:EvF (fun out _ H Q=>out.length≤sizeLine/\Q (.str out) H) σ H 0:=fun out Q l q=>⟨l,q _⟩
theorem EvF.txt {x:Str} (l:x.length≤m) (h:EvF f σ H n):EvF (fun out σ H Q=>(out++x).length≤sizeLine/\f (out++x) σ H Q) σ H (m+n):=fun out Q lo q=>by
 have:=Str.length_append out x
 exact ⟨by omega,h _ Q (by omega) q⟩
theorem EvF.int {te:TE} {i:Int} (a:EvE te σ H (.int i)) (hi:i.natAbs.log2<1920/\(Str.ofString (toString i)).length≤1000) (h:EvF f σ H n):EvF (fun out σ H Q=>te σ H fun x H1=>∃ y,FmtV x y/\(out++y).length≤sizeLine/\f (out++y) σ H1 Q) σ H (1000+n):=fun out Q lo q=>by
 have:=Str.length_append out (Str.ofString (toString i))
 have:=hi.2
 exact a _ ⟨_,.inr ⟨i,rfl,hi.1,rfl⟩,by omega,h _ Q (by omega) q⟩
end
variable {X:Cx}
def rNeL (K:PySem.W.Frag):R2:=fun x y H Q=>∃ d e,Rep K H x (.list d)/\Rep K H y (.list e)/\pdDeps d≤60/\Q (.bl (!pdEqs d e)) H
theorem op_neL (hu:X.A.units+64<cLine):OpR X (compareOp .NotEq) (rNeL X.K):=by
 intro pins s σ H x y v u Q I rx ry h
 obtain ⟨d,e,h1,h2,hd,q⟩:=h
 cases h1 with
 | lst g1 rs1=>
   cases h2 with
   | lst g2 rs2=>
     cases (show v=Value.ref _ from rx)
     cases (show u=Value.ref _ from ry)
     obtain ⟨its1,rv1,p1,_⟩:=I.list g1
     obtain ⟨its2,rv2,p2,_⟩:=I.list g2
     have hz:=allEq (X:=X) (H:=H) (A:=X.A) rs1 rs2 rv1 rv2
     by_cases hs:its1.toArray.size=its2.toArray.size
     ·have hw:=RcNeAt.lists (A:=X.A) p1.isList p2.isList hs (by omega)
       (e:=fun j=>pdEq (d.getD j .none) (e.getD j .none)) (fun j h1 h2=>by simpa using eqs_at I rs1 rs2 rv1 rv2 (A:=X.A.in1) (by show X.A.units+1+_<_;omega) j (by simpa using h1) (by simpa using h2))
      rw [← hs,Nat.min_self,beq_self_eq_true,Bool.and_true] at hz
      rw [hz] at hw
      exact hw _ _ _ _ ⟨.bl _,H,I,rfl,q⟩
     ·have hw:=RcNeAt.lists_lengths (A:=X.A) p1.isList p2.isList (by simpa using hs) (by omega)
      have:pdEqs d e=false:=by
       rw [← hz,beq_eq_false_iff_ne.mpr hs,Bool.and_false]
      rw [this] at q
      exact hw _ _ _ _ ⟨.bl _,H,I,rfl,q⟩
section
variable {σ:St} {H:Hp} {ta tb:TE} {k k':Bool} {x y:V}
theorem EvR.ne (h:scal x y=true):EvR rNe x y H (.bl (!decide (x=y))):=fun Q q=>⟨h,q⟩
end
section
variable {X:Cx}
end
section
variable {X:Cx}
end
section
variable {X:Cx}
end
end L2
namespace L2
open PySem PySem.Spec PyProof.Rows
section
variable {X:Cx} {pins:List (Addr×Obj)} {σ:St} {H:Hp} {s:Shared}
end
section
variable {X:Cx} {scope:Scope} {own:List Str} {js:List Nat} {N':List Str} {wi:TI} {g:TG} {tt:TT} {te:TE} {elt tg iter:Expr} {ifs:List Expr} {pos:Pos}
end
end L2
namespace L2
open PySem
def relS (sc osc:Scope):Scope:=
 { sc with names:=sc.names.map fun (n,k)=>if (k == .free && osc.kind == .function && osc.names.lookup n == some .cell) then (n,.cell) else (n,k) }
theorem pi_listK {X:Cx} {tg l:Expr} {tl:TE} {K:PySem.W.Frag} (hK:X.K=K) (hl:PE X l tl):PI X tg l (iList K tl):=by
 subst hK
 exact pi_list hl
end L2
namespace L2
open PySem PySem.Spec PyProof.Rows PySem.SeqAt
section
variable {prog:Program} {w:World} {A:Around} {E:Value->Shared->Prop} {s:Shared}
end
section
variable {prog:Program} {w:World} {A:Around} {E:Value->Shared->Prop} {s:Shared}
end
variable {X:Cx}
end L2
namespace L2
open PySem PySem.Spec PyProof.Rows PySem.W PyProof.V
section
variable {X:Cx} {pins:List (Addr×Obj)} {σ:St} {H:Hp} {s:Shared} {a:Addr} {D:List (Str×PyData)}
end
end L2
namespace L2
open PySem PySem.Spec PyProof.Rows PySem.SeqAt PySem.Builtin PySem.Builtin.Str
section
variable {X:Cx}
end
end L2
namespace L2
open PySem PySem.Spec PyProof.Rows PySem.SeqAt
section
variable {X:Cx}
end
section
variable {X:Cx}
end
end L2
namespace L2
open PySem PySem.Spec PyProof.Rows PySem.SeqAt PySem.Builtin PySem.Builtin.Str
section
variable {X:Cx}
end
section
variable {X:Cx}
end
section
variable {X:Cx}
end
section
variable {X:Cx}
end
end L2
namespace L2
open PySem PySem.Spec PyProof.Rows PySem.SeqAt
section
variable {X:Cx}
end
section
variable {X:Cx} {pins:List (Addr×Obj)} {σ:St} {H:Hp} {s:Shared} {h':Heap}
theorem drawsI {prog:Program} {w:World} {A:Around} (hh:A.handled=none) (it l:Addr) (hne:l≠it) (items:Array Value) (i0:Nat) (h0:items.size≤i0):Draws prog w A it [it,l] 0 (fun i v=>False) (fun i h=>h.IsListIter it l i0/\h.IsList l items) where
 live:=fun _ _ st=>let ⟨o,ho,_⟩:=st.1;⟨o,ho⟩
 frame:=fun _ _ _ st hk=>⟨st.1.at fun o e=>hk it (by simp) o e,st.2.at fun o e=>hk l (by simp) o e⟩
 item:=fun i s Q E hi=>absurd hi (Nat.not_lt_zero _)
 done:=fun s Q E st hE=>wpAny_nextOf_list_end hh st.1 st.2 (by simp [h0]) hE
def IteL (K:PySem.W.Frag) (a:Addr):It:=
 ⟨fun i H=>∃ xs x,SqL K H a xs/\xs[i]?=some x,fun i H v H'=>∃ p x,H p=none/\v=.ref p/\(∀ xs,SqL K H a xs->xs[i]?=some x)/\H'=upd H p (.tup [.int i,x]),fun i H=>∃ xs,SqL K H a xs/\xs.length≤i⟩
theorem turn_enumL {P:Program} {w:World} {K:PySem.W.Frag} {elts:List Expr} {k1} {pos:Pos} (a e it:Addr) (hei:e≠it):Turn P w K (.Tuple elts k1 pos) (IteL K a) [e,it] e (fun i h=>(∃ old,IsEnum h e it i old)/\h.IsListIter it a i) where
 mem:=by simp
 obj:=fun i h st b hb=>by
  obtain ⟨⟨old,h1⟩,o,h2,_,h3⟩:=st
  rcases List.mem_cons.mp hb with rfl|hb
  ·exact ⟨_,h1,fun v z=>by cases (show Data.fields _=Data.cell v from z)⟩
  ·cases List.mem_singleton.mp hb
   exact ⟨o,h2,fun v z=>by rw [h3] at z;cases z⟩
 keep:=fun i h h' st k=>⟨let ⟨old,h1⟩:=st.1;⟨old,k e (by simp) _ h1⟩,st.2.at fun o z=>k it (by simp) o z⟩
 item:=by
  intro X hP hw hK hc i pins s σ H E I hf st hg
  subst hP hw hK
  obtain ⟨xs,x,hq,hx⟩:=hg
  obtain ⟨its,rv,p,hz⟩:=I.list hq
  obtain ⟨u,hu,ru⟩:=rv.get hx
  obtain ⟨⟨old,he⟩,ht⟩:=st
  have hit:s.heap.IsList a its.toArray:=p.isList
  have han:a≠it:=by
   rintro rfl
   obtain ⟨o1,h1,h2,_⟩:=id hit
   obtain ⟨o2,h3,h4,_⟩:=id ht
   rw [h1] at h3;cases h3
   rw [h2] at h4;exact absurd (Value.type.inj h4) (by decide)
  have hae:a≠e:=by
   rintro rfl
   obtain ⟨o1,h1,h2,_⟩:=id hit
   rw [he] at h1;cases h1
   exact absurd (Value.type.inj h2) (by decide)
  have D:=Draws.list (prog:=X.prog) (w:=X.w) (A:=X.A.in1) (I.ok.hd hc) it a han its.toArray
  have hlt:i<its.toArray.size:=by
   have:=(List.getElem?_eq_some_iff.mp hx).1
   have hl:=rv.length
   rw [List.size_toArray];omega
  refine wpAny_pyNext_enum_itemD D he ⟨ht,hit⟩ hlt hei (by simp [hei,Ne.symm hae]) fun y g tk hy ho hst' htup hsz hk=>?_
  have e1:y=u:=by
   have:its.toArray[i]?=some u:=by simpa using hu
   rw [this] at hy;exact (Option.some.inj hy).symm
  subst e1
  refine ⟨_,rfl,?_⟩
  have helt:e<s.heap.objs.size:=Heap.lt_size he
  have hilt:it<s.heap.objs.size:=let ⟨o,z,_⟩:=ht;Heap.lt_size z
  have I1:Inv X pins σ (upd H s.heap.objs.size (.tup [.int i,x])) { s with heap:=g,toks:=tk+1 }:=by
   refine I.turnLaid (fp:=[e,it]) (fun b o hb z=>hk b o (fun q=>hb (by simp [q])) (fun q=>hb (by simp [q])) z) (fun b hb=>?_) hf (Nat.le_refl _) ?_
   ·rcases List.mem_cons.mp hb with rfl|hb
    ·exact ⟨_,ho⟩
    ·cases List.mem_singleton.mp hb
     exact let ⟨o,z,_⟩:=hst'.1;⟨o,z⟩
   ·exact ⟨by show 2≤sizeLine;decide,[.int i tk,y],.cons ⟨_,rfl⟩ (.cons ru .nil),⟨_,htup,rfl,_,rfl⟩⟩
  have hno:∀ b∈[e,it],(upd H s.heap.objs.size (.tup [.int i,x])) b=none:=fun b hb=>by
   have hbl:b<s.heap.objs.size:=by
    rcases List.mem_cons.mp hb with rfl|hb
    ·exact helt
    ·cases List.mem_singleton.mp hb;exact hilt
   rw [upd_ne (Nat.ne_of_lt hbl)]
   exact (hf b hb).1
  refine wpAny_letOwnedTupleGo_enum ho fun g2 he2 hs2=>?_
  obtain ⟨f0,f1,f2,f3,f4,f5⟩:=hf e (by simp)
  refine ⟨.ref s.heap.objs.size,_,I1.turned (t':=tk+1) (fun b o hb z=>(hs2.2 b hb).trans z) (hno e (by simp)) f1 f3 f4 f5,rfl,⟨s.heap.objs.size,x,I.hok.fresh (Nat.le_refl _),rfl,fun ys hy=>by rw [I.list_inj hy hq];exact hx,rfl⟩,⟨⟨_,by simpa using he2⟩,?_⟩,hno⟩
  exact hst'.1.at fun o z=>(hs2.2 it (Ne.symm hei)).trans z
 done:=by
  intro X hP hw hK hc i pins s σ H E I hf st hg
  subst hP hw hK
  obtain ⟨xs,hq,hx⟩:=hg
  obtain ⟨its,rv,p,hz⟩:=I.list hq
  obtain ⟨⟨old,he⟩,ht⟩:=st
  obtain ⟨f0,f1,f2,f3,f4,f5⟩:=hf it (by simp)
  have hl:=rv.length
  have hit:s.heap.IsList a its.toArray:=p.isList
  have han:a≠it:=by
   rintro rfl
   obtain ⟨o1,h1,h2,_⟩:=id hit
   obtain ⟨o2,h3,h4,_⟩:=id ht
   rw [h1] at h3;cases h3
   rw [h2] at h4;exact absurd (Value.type.inj h4) (by decide)
  have D:=drawsI (prog:=X.prog) (w:=X.w) (A:=X.A.in1) (I.ok.hd hc) it a han its.toArray i (by rw [List.size_toArray];omega)
  exact wpAny_pyNext_enum_endD D he ⟨ht,hit⟩ fun h' ex=>⟨rfl,I.turned (t':=s.toks) (fun b o hb e=>ex b o hb e) f0 f1 f3 f4 f5⟩
 self:=fun _ _ _ _ _ st h=>let ⟨_,he⟩:=st.1;wpAny_pyIter_enum he h
def iEnumL (K:PySem.W.Frag) (ta:TA):TI:=fun σ H R=>ta σ H fun vs H1=>∃ a,vs=[.ref a]/\(∃ xs,SqL K H1 a xs)/\R (IteL K a) H1
theorem pi_enumL {elts:List Expr} {k1} {pt:Pos} {a:Expr} {ta:TA} {p pos:Pos} (hg:Gl X "enumerate") (hm:X.mg "enumerate" = none) (hv:bootBuiltins "enumerate" = some (.type "enumerate")) (ha:PA X [a] ta) (hs:starEach [a] X.env=[(false,eval a X.env)]:=by rfl):PI X (.Tuple elts k1 pt) (.Call (.Name "enumerate" p) [a] [] pos) (iEnumL X.K ta):=by
 intro pins s σ H R I h
 refine Call_ (ld_blt I hg hm hv (PyProof.Rows.callWith_type1 (thn (ha pos pins s σ H _ I h) fun us s1 ⟨vs,H1,I1,r1,q1⟩=>?_) hs rfl))
 obtain ⟨l,rfl,⟨xs,hq⟩,q⟩:=q1
 obtain ⟨u,rfl,e⟩:=vals1 r1
 cases (show u=Value.ref l from e)
 obtain ⟨its,rv,hp,hz⟩:=I1.list hq
 refine call_enumerate_list hp.isList fun g he hi _ hk=>wpAny_pyIter_enum he ?_
 refine ⟨s1.heap.objs.size+1,[s1.heap.objs.size+1,s1.heap.objs.size],_,_,H1,rfl,I1.kept (t':=s1.toks) hk,turn_enumL l _ s1.heap.objs.size (Nat.succ_ne_self _),⟨⟨_,he⟩,hi⟩,fun b hb=>?_,q⟩
 rcases List.mem_cons.mp hb with rfl|hb
 ·exact I1.fpOk (Nat.le_succ _) (I1.hok.fresh (Nat.le_succ _))
 ·cases List.mem_singleton.mp hb
  exact I1.fpOk (Nat.le_refl _) (I1.hok.fresh (Nat.le_refl _))
end
end L2
namespace L2
open PySem PySem.Spec PyProof.Rows PySem.SeqAt PySem.Builtin PySem.Builtin.Str
section
variable {X:Cx}
end
section
variable {prog:Program} {w:World} {A:Around} {E:Value->Shared->Prop} {s:Shared} {l:Addr}
end
section
variable {X:Cx} {pos:Pos}
end
end L2
namespace L2
open PySem PySem.Spec PyProof.Rows PySem.SeqAt PySem.Builtin
variable {X:Cx} {pos:Pos}
def tPar3 (i j l:Nat) (ta:TA):TS:=fun D σ H=>ta σ H fun vs H1=>∃ v w u,vs=[v,w,u]/\D.nx (((σ.set l (some u)).set j (some w)).set i (some v)) H1
theorem ps_par3 {i j l:Nat} {x y z:Str} {a b c:Expr} {ta:TA} {px py pz pt:Pos} {kt k2 pt2} (hc:X.calm=true) (hN:X.N.Nodup) (hi:X.N[i]?=some x) (hj:X.N[j]?=some y) (hl:X.N[l]?=some z)
 (hx:X.env.scope.names.lookup x=some .local) (hy:X.env.scope.names.lookup y=some .local) (hz:X.env.scope.names.lookup z=some .local) (ha:PA X [a,b,c] ta)
 (hw:swappedStores [.Tuple [.Name x px,.Name y py,.Name z pz] kt pt] (.Tuple [a,b,c] k2 pt2) X.env=pure (some [x,y,z]))
 (hs:swapsWithSole [.Tuple [.Name x px,.Name y py,.Name z pz] kt pt] (.Tuple [a,b,c] k2 pt2) pos.line X.env=pure false:=by rfl) :
 PS X (.Assign [.Tuple [.Name x px,.Name y py,.Name z pz] kt pt] (.Tuple [a,b,c] k2 pt2) pos) (tPar3 i j l ta):=by
 intro pins s σ H D I h
 rw [exec_Assign_arm]
 refine wpAny_bind (wpAny_standAt ?_)
 rw [hs]
 refine wpAny_bind (wpAny_pure ?_)
 rw [if_neg (by decide)]
 refine wpAny_bind (Tuple_ (thn (ha _ pins s σ H _ I h) fun us s1 ⟨vs,H1,I1,r1,q1⟩=>?_))
 obtain ⟨v,w,u,e1,q1⟩:=q1
 subst e1
 obtain ⟨u1,u2,u3,rfl,rv,rw',ru⟩:∃ u1 u2 u3,us=[u1,u2,u3]/\RelV v u1/\RelV w u2/\RelV u u3:=by
  cases r1 with
  | cons p q=>
    cases q with
    | cons p' q'=>
      cases q' with
      | cons p'' q''=>
        cases q''
        exact ⟨_,_,_,rfl,p,p',p''⟩
 refine wpAny_newObj_type ?_ (by show 3≤sizeLine;decide)
 have I2:Inv X pins σ H1 { s1 with heap:=s1.heap.push { cls:=.type "tuple",data:=.seq [u1,u2,u3].toArray } }:=I1.kept (t':=s1.toks) fun b o e=>Heap.get?_push_of_some _ e
 rw [hw]
 refine wpAny_bind (wpAny_pure ?_)
 show wpAny (model X.prog X.w) X.A (do rule "assign.swapped-stores";let items ← unpackItems (.ref s1.heap.objs.size) 3 none;assignInOrder [fun v=>bindName X.env z v,fun v=>bindName X.env y v,fun v=>bindName X.env x v] items.reverse;pure Flow.next) _ _ _
 refine wpAny_bind (wpAny_rule (wpAny_bind (unpackItems_tuple (items:=#[u1,u2,u3]) (I.ok.hd hc) (IsTup.new s1.heap _) fun h' hx'=>?_)))
 have I3:=I2.kept (h':=h') (t':=s1.toks) fun b o e=>hx' b o (Nat.ne_of_lt (Heap.lt_size e)) e
 show wpAny _ _ (assignInOrder [fun v=>bindName X.env z v,fun v=>bindName X.env y v,fun v=>bindName X.env x v] [u3,u2,u1] >>= fun _=>pure Flow.next) _ _ _
 refine wpAny_bind (assignInOrder_cons (wpAny_bindName (store_ok I3 hN hl (.inl hz) ru (fun s2 I4=>?_) (.inr hz))))
 refine assignInOrder_cons (wpAny_bindName (store_ok I4 hN hj (.inl hy) rw' (fun s3 I5=>?_) (.inr hy)))
 refine assignInOrder_cons (wpAny_bindName (store_ok I5 hN hi (.inl hx) rv (fun s4 I6=>assignInOrder_nil (wpAny_pure ?_)) (.inr hx)))
 exact ⟨_,H1,I6,q1⟩
end L2
namespace L2
open PySem PySem.Spec PyProof.Rows PySem.SeqAt PySem.W Builtin.ObjectAttr
end L2
namespace L2
open PySem PySem.Spec PyProof.Rows PySem.SeqAt PySem.W
variable {X:Cx}
end L2
namespace L2
open PySem PySem.Spec PyProof.Rows
def CTurnS (J:It) (g:TG) (tt:TT) (te:TE) (F:List V->St->Hp->Prop) (W:Nat->Nat->List V->St->Hp->Prop):Prop:=
 ∀ i m ys σ H,W i m ys σ H->(J.stop i H/\F ys σ H)∨(J.go i H/\ys.length<sizeLine/\∀ x H1,J.yld i H x H1->g x σ H1 fun σ2 H2=>tt σ2 H2 fun b H3=>
   if b=true then te σ2 H3 fun y H4=>∃ m',m'<m/\W (i+1) m' (ys++[y]) σ2 H4 else ∃ m',m'<m/\W (i+1) m' ys σ2 H3)
def CTurn2 (J:It) (g:TG) (tt:TT) (wi2:TI) (g2:TG) (tt2:TT) (te:TE) (F:List V->Hp->Prop) (W:Nat->Nat->List V->St->Hp->Prop):Prop:=
 ∀ i m ys σ H,W i m ys σ H->(J.stop i H/\F ys H)∨(J.go i H/\∀ x H1,J.yld i H x H1->g x σ H1 fun σ2 H2=>tt σ2 H2 fun b H3=>
   if b=true then wi2 σ2 H3 fun J2 H4=>∃ W2:Nat->Nat->List V->St->Hp->Prop,(∃ m2,W2 0 m2 ys σ2 H4)/\CTurnS J2 g2 tt2 te (fun ys' σ' H'=>∃ m',m'<m/\W (i+1) m' ys' σ' H') W2
   else ∃ m',m'<m/\W (i+1) m' ys σ2 H3)
theorem compTurn_in (elt:Expr) (g0:Comprehension) (target iter:Expr) (ifs:List Expr) (scope:Scope) (pos:Pos) (it acc:Value) (env:Env) :
 compTurn (.ListComp elt [g0,⟨target,iter,ifs,0⟩] scope pos) 1 it acc env=(do
  standAt iter.pos
  match ← pyNext it with
  |none=>pure (.done .next)
  | some v=>
    letOwnedTupleGo target it v
    assign target env v
    let mut ok:=true
    for c in ifs do
     if ok then ok ← isTrue c env (eval c env)
    if ok then
     (do let _ ← call (.builtin "list.append") [acc,← eval elt env])
    again (.compLoop (.ListComp elt [g0,⟨target,iter,ifs,0⟩] scope pos) 1 it acc env)):=by rfl
theorem compTurn_out (elt target iter:Expr) (ifs:List Expr) (target2 iter2:Expr) (ifs2:List Expr) (scope:Scope) (pos:Pos) (it acc:Value) (env:Env) :
 compTurn (.ListComp elt [⟨target,iter,ifs,0⟩,⟨target2,iter2,ifs2,0⟩] scope pos) 0 it acc env=(do
  standAt iter.pos
  match ← pyNext it with
  |none=>pure (.done .next)
  | some v=>
    letOwnedTupleGo target it v
    assign target env v
    let mut ok:=true
    for c in ifs do
     if ok then ok ← isTrue c env (eval c env)
    if ok then
     let x ← eval iter2 env
     standAt iter2.pos
     let x ← foldedSetIterable iter2 env x
     let _ ← runOwn (.compStart (.ListComp elt [⟨target,iter,ifs,0⟩,⟨target2,iter2,ifs2,0⟩] scope pos) 1 (← holding [x] (pyIter x)) acc env) env
    again (.compLoop (.ListComp elt [⟨target,iter,ifs,0⟩,⟨target2,iter2,ifs2,0⟩] scope pos) 0 it acc env)):=by rfl
theorem codeAny_compStart_in {prog:Program} {w:World} {A:Around} {R:Result->Shared->Prop} {s:Shared} {elt g0 target iter ifs scope pos it acc env}
 (h0:codeAny (model prog w) A (.compLoop (.ListComp elt [g0,⟨target,iter,ifs,0⟩] scope pos) 1 it acc env) R s)
 (h:wpAny (model prog w) A (pyIter it) (fun it' s'=>codeAny (model prog w) A (.compLoop (.ListComp elt [g0,⟨target,iter,ifs,0⟩] scope pos) 1 it' acc env) R s')
  (notedBy (model prog w) A env fun x s'=>R (.error x) s') s) :
 codeAny (model prog w) A (.compStart (.ListComp elt [g0,⟨target,iter,ifs,0⟩] scope pos) 1 it acc env) R s:=by
 refine codeAny_of_tree ?_
 show wpAny _ _ ((compStart (.ListComp elt [g0,⟨target,iter,ifs,0⟩] scope pos) 1 it acc env).onRaise (fun x=>do noteFrame x env;standAt theWindowsPlace)) _ _ s
 refine wpAny_notedAt ?_
 unfold compStart
 show wpAny _ _ (ask >>= _) _ _ s
 refine wpAny_bind (wpAny_askSetting (wpAny_ite ?_))
 split
 ·first
   |exact wpAny_bind (wpAny_pure (wpAny_pure (And.intro rfl h0)))
   |exact wpAny_pure (And.intro rfl h0)
 ·first
   |exact wpAny_bind (wpAny_rule (wpAny_bind (wpAny_standAt (wpAny_bind (wpAny_mono h (fun it' s' h'=>wpAny_pure (And.intro rfl h')) fun _ _ x=>x)))))
   |(refine wpAny_bind (wpAny_rule ?_);show wpAny _ _ (standAt iter.pos >>= _) _ _ s;exact wpAny_bind (wpAny_standAt (wpAny_bind (wpAny_mono h (fun it' s' h'=>wpAny_pure (And.intro rfl h')) fun _ _ x=>x))))
theorem comp_inner {Y:Cx} {ps:List (Addr×Obj)} {acc it:Addr} {fp:List Addr} {tn:Nat->Heap->Prop} {J:It} {g:TG} {tt:TT} {te:TE} {F:List V->St->Hp->Prop}
 {elt tg iter:Expr} {g0:Comprehension} {ifs:List Expr} {scope:Scope} {pos:Pos} {R:Result->Shared->Prop} (W:Nat->Nat->List V->St->Hp->Prop) (turn:CTurnS J g tt te F W) (T:Turn Y.prog Y.w Y.K tg J fp it tn)
 (hg:PG Y tg g) (hc:PIfs Y ifs tt) (he:PE Y elt te) (hcalm:Y.calm=true) (hx:∀ v s,¬ Y.xe v s)
 (hfp:∀ b∈fp,b≠Y.env.locals/\b∉Y.fs/\(b∈Y.ex∨Y.s₀.heap.objs.size≤b)/\(∀ x c,Y.env.cells.lookup x=some c->c≠b)/\(∀ p∈Y.pn++ps,p.1≠b)/\b≠acc)
 (hacc:acc≠Y.env.locals/\acc∉Y.fs/\(acc∈Y.ex∨Y.s₀.heap.objs.size≤acc)/\(∀ x c,Y.env.cells.lookup x=some c->c≠acc)/\∀ p∈Y.pn++ps,p.1≠acc)
 (hR:∀ s' σ' H' ys us k,Inv Y ((acc,accObj us k)::ps) σ' H' s'->Vals ys us->F ys σ' H'->R (.ok .next) s')
 {s:Shared} {σ:St} {H:Hp} {m:Nat} {ys0:List V} {us0:List Value} {k0:Nat} (rv0:Vals ys0 us0) (I:Inv Y ((acc,accObj us0 k0)::ps) σ H s) (st:tn 0 s.heap) (fr:∀ b∈fp,H b=none) (w0:W 0 m ys0 σ H) :
 codeAny (model Y.prog Y.w) Y.A (.compLoop (.ListComp elt [g0,⟨tg,iter,ifs,0⟩] scope pos) 1 (.ref it) (.ref acc) Y.env) R s:=by
 refine codeAny_loop rfl (fun n s'=>∃ i ys us k σ' H',Vals ys us/\Inv Y ((acc,accObj us k)::ps) σ' H' s'/\tn i s'.heap/\(∀ b∈fp,H' b=none)/\W i n ys σ' H') (fun n s3 hI=>?_) m ⟨0,ys0,us0,k0,σ,H,rv0,I,st,fr,w0⟩
 obtain ⟨i,ys,us,k,σ3,H3,rv,I3,st3,fr3,w3⟩:=hI
 show wpAny _ Y.A ((compTurn (.ListComp elt [g0,⟨tg,iter,ifs,0⟩] scope pos) 1 (.ref it) (.ref acc) Y.env).onRaise (fun x=>do noteFrame x Y.env;theTreesLotGoes x)) _ _ s3
 refine wpAny_noted ?_
 rw [compTurn_in]
 have fpk:∀ {H':Hp},(∀ b∈fp,H' b=none)->∀ b∈fp,FpOk Y ((acc,accObj us k)::ps) H' b:=fun hn b hb=>
  ⟨hn b hb,(hfp b hb).1,(hfp b hb).2.1,(hfp b hb).2.2.1,(hfp b hb).2.2.2.1,fun p hp'=>by
   rcases List.mem_append.mp hp' with z|z
   ·exact (hfp b hb).2.2.2.2.1 p (List.mem_append_left _ z)
   ·rcases List.mem_cons.mp z with rfl|z
    ·exact Ne.symm (hfp b hb).2.2.2.2.2
    ·exact (hfp b hb).2.2.2.2.1 p (List.mem_append_right _ z)⟩
 have fp1:=fpk fr3
 refine wpAny_bind (wpAny_standAt (wpAny_bind ?_))
 rcases turn i n ys σ3 H3 w3 with ⟨stop,qn⟩|⟨go,hz,step⟩
 ·refine wpAny_mono (T.done Y rfl rfl rfl hcalm i _ s3 σ3 H3 (fun _ _=>False) I3 fp1 st3 stop) (fun r s4 ⟨hr,I4⟩=>?_) (fun _ _ z=>z.elim)
  subst hr
  exact wpAny_pure (hR s4 σ3 H3 ys us k I4 rv qn)
 ·refine wpAny_mono (T.item Y rfl rfl rfl hcalm i _ s3 σ3 H3 (fun _ _=>False) I3 fp1 st3 go) (fun r s4 ⟨u,hr,h4⟩=>?_) (fun _ _ z=>z.elim)
  subst hr
  refine wpAny_bind (wpAny_mono h4 (fun _ s5 ⟨x,H5,I5,r5,y5,st5,fr5⟩=>?_) (fun _ _ z=>z.elim))
  have fp5:=fpk fr5
  have I5':=I5.pinned fp5 (T.obj _ _ st5)
  refine wpAny_bind (wpAny_mono (hg _ s5 σ3 H5 x u _ I5' r5 (step x H5 y5)) (fun _ s6 ⟨σ6,H6,I6,q6⟩=>?_) (fun v s z=>(hx v s z).elim))
  refine wpAny_bind (wpAny_mono (hc _ s6 σ6 H6 _ I6 q6) (fun ok s7 ⟨H7,I7,q7⟩=>?_) (fun v s z=>(hx v s z).elim))
  have again:∀ {s8:Shared} {σ8:St} {H8:Hp},Inv Y (((acc,accObj us k)::ps)++pinsAt fp s5.heap) σ8 H8 s8->tn (i+1) s8.heap/\∀ b∈fp,H8 b=none:=fun {s8 σ8 H8} I8=>
   ⟨T.keep _ _ _ st5 fun b hb o e=>(I8.pin (b,o) (List.mem_append_right _ (List.mem_append_right _ (mem_pinsAt hb e)))).1,fun b hb=>by
    obtain ⟨o,e,d⟩:=T.obj _ _ st5 b hb
    exact (I8.pin (b,o) (List.mem_append_right _ (List.mem_append_right _ (mem_pinsAt hb e)))).2.1⟩
  cases ok with
  | false=>
    rw [if_neg Bool.false_ne_true] at q7
    obtain ⟨m',hm,w7⟩:=q7
    obtain ⟨t1,t2⟩:=again I7
    exact wpAny_pure ⟨rfl,m',hm,i+1,ys,us,k,σ6,H7,rv,I7.unpinned,t1,t2,w7⟩
  | true=>
    rw [if_pos rfl] at q7
    refine wpAny_bind (wpAny_bind (wpAny_mono (he _ s7 σ6 H7 _ I7 q7) (fun y s8 ⟨yv,H8,I8,r8,m',hm,w8⟩=>?_) (fun v s z=>(hx v s z).elim)))
    obtain ⟨t1,t2⟩:=again I8
    obtain ⟨e8,n8,l8,f8,d8⟩:=I8.pin (acc,accObj us k) (List.mem_append_right _ (List.mem_append_left _ List.mem_cons_self))
    have hlen:=rv.length
    have hz':us.toArray.size≤sizeLine:=by rw [List.size_toArray];omega
    refine wpAny_bind (call_meets PySem.F.slot_list_append ⟨_,e8,rfl⟩ PySem.F.entry_list_append (PySem.F.args_list_append_2 _ _) (PySem.list_append acc us.toArray k y hz') ⟨e8,?_⟩)
    have q:=PySem.IsL.update e8 (fun z=>z.push y)
    have I9:Inv Y ps σ6 H8 s8:=I8.pins_of fun p hp=>I8.pin p (List.mem_append_right _ (List.mem_append_left _ (List.mem_cons_of_mem _ hp)))
    have I10:=I9.turned (t':=s8.toks) (it:=acc) (h':=s8.heap.update acc (Obj.mapSeq fun z=>z.push y)) (fun b o hb e=>(Heap.get?_update_other s8.heap _ (Ne.symm hb)).trans e) n8 hacc.1 hacc.2.2.1 hacc.2.2.2.1 hacc.2.2.2.2
    have e':(us.toArray.push y)=(us++[y]).toArray:=by simp
    rw [e'] at q
    obtain ⟨k9,ek⟩:∃ k9,k9=(if ((us++[y]).toArray.size == us.toArray.size)=true then k else k+1):=⟨_,rfl⟩
    rw [← ek] at q
    have I11:=I10.pins_of (pins':=(acc,accObj (us++[y]) k9)::ps) fun p hp=>by
     rcases List.mem_cons.mp hp with rfl|hp
     ·exact ⟨q,n8,hacc.1,hacc.2.1,fun v z=>by cases z⟩
     ·exact I10.pin p (List.mem_append_right _ hp)
    refine wpAny_pure (wpAny_pure ⟨rfl,m',hm,i+1,ys++[yv],us++[y],k9,σ6,H8,rv.append (.cons r8 .nil),I11,T.keep _ _ _ t1 fun b hb o e=>?_,t2,w8⟩)
    exact (Heap.get?_update_other s8.heap _ (hfp b hb).2.2.2.2.2.symm).trans e
theorem comp_loop2 {X:Cx} {scope:Scope} {N':List Str} {cl:List (Str×Addr)} {C acc it:Addr} {s₂:Shared} {H₂:Hp} {fp:List Addr} {tn:Nat->Heap->Prop} {J:It} {g g2:TG} {tt tt2:TT} {wi2:TI} {te:TE} {F:List V->Hp->Prop}
 {elt tg iter tg2 iter2:Expr} {ifs ifs2:List Expr} {pos:Pos} {R:Result->Shared->Prop} (W:Nat->Nat->List V->St->Hp->Prop) (turn:CTurn2 J g tt wi2 g2 tt2 te F W) (T:Turn X.prog X.w X.K tg J fp it tn)
 (hg:PG (cxComp X scope N' cl C s₂ H₂ fp) tg g) (hc:PIfs (cxComp X scope N' cl C s₂ H₂ fp) ifs tt) (hi2:PI (cxComp X scope N' cl C s₂ H₂ fp) tg2 iter2 wi2) (hs2:∀ x,foldedSetIterable iter2 (compEnvC scope cl C X.env) x=pure x) (hg2:PG (cxComp X scope N' cl C s₂ H₂ fp) tg2 g2) (hc2:PIfs (cxComp X scope N' cl C s₂ H₂ fp) ifs2 tt2) (he:PE (cxComp X scope N' cl C s₂ H₂ fp) elt te) (hcalm:X.calm=true)
 (hfp:∀ b∈fp,b≠C/\b∉frs X.stack/\(∀ x c,cl.lookup x=some c->c≠b)/\b≠acc) (hacc:acc≠C/\acc∉frs X.stack/\(∀ x c,cl.lookup x=some c->c≠acc)/\s₂.heap.objs.size≤acc)
 (hR:∀ s' σ' H' ys us k,Inv (cxComp X scope N' cl C s₂ H₂ fp) [(acc,accObj us k)] σ' H' s'->Vals ys us->F ys H'->R (.ok .next) s')
 {s:Shared} {σ:St} {H:Hp} {m:Nat} (I:Inv (cxComp X scope N' cl C s₂ H₂ fp) [(acc,accObj [] 0)] σ H s) (st:tn 0 s.heap) (fr:∀ b∈fp,H b=none) (w0:W 0 m [] σ H) :
 codeAny (model X.prog X.w) X.A (.compLoop (.ListComp elt [⟨tg,iter,ifs,0⟩,⟨tg2,iter2,ifs2,0⟩] scope pos) 0 (.ref it) (.ref acc) (compEnvC scope cl C X.env)) R s:=by
 refine codeAny_loop rfl (fun n s'=>∃ i ys us k σ' H',Vals ys us/\Inv (cxComp X scope N' cl C s₂ H₂ fp) [(acc,accObj us k)] σ' H' s'/\tn i s'.heap/\(∀ b∈fp,H' b=none)/\W i n ys σ' H') (fun n s3 hI=>?_) m ⟨0,[],[],0,σ,H,.nil,I,st,fr,w0⟩
 obtain ⟨i,ys,us,k,σ3,H3,rv,I3,st3,fr3,w3⟩:=hI
 show wpAny _ X.A ((compTurn (.ListComp elt [⟨tg,iter,ifs,0⟩,⟨tg2,iter2,ifs2,0⟩] scope pos) 0 (.ref it) (.ref acc) (compEnvC scope cl C X.env)).onRaise (fun x=>do noteFrame x (compEnvC scope cl C X.env);theTreesLotGoes x)) _ _ s3
 refine wpAny_noted ?_
 rw [compTurn_out]
 have fpk:∀ {pins:List (Addr×Obj)} {H':Hp},(∀ p∈pins,p.1=acc∨p.1∈([]:List Addr))->(∀ b∈fp,H' b=none)->∀ b∈fp,FpOk (cxComp X scope N' cl C s₂ H₂ fp) pins H' b:=fun hp hn b hb=>
  ⟨hn b hb,(hfp b hb).1,(hfp b hb).2.1,.inl hb,(hfp b hb).2.2.1,fun p hp'=>by
   have hp'':p∈([]:List (Addr×Obj))++_:=hp'
   rcases hp p (by simpa using hp'') with z|z
   ·rw [z];exact Ne.symm (hfp b hb).2.2.2
   ·exact (nomatch z)⟩
 have fp1:=fpk (pins:=[(acc,accObj us k)]) (fun p hp=>.inl (by simp at hp;rw [hp])) fr3
 refine wpAny_bind (wpAny_standAt (wpAny_bind ?_))
 rcases turn i n ys σ3 H3 w3 with ⟨stop,qn⟩|⟨go,step⟩
 ·refine wpAny_mono (T.done (cxComp X scope N' cl C s₂ H₂ fp) rfl rfl rfl hcalm i _ s3 σ3 H3 (fun _ _=>False) I3 fp1 st3 stop) (fun r s4 ⟨hr,I4⟩=>?_) (fun _ _ z=>z.elim)
  subst hr
  exact wpAny_pure (hR s4 σ3 H3 ys us k I4 rv qn)
 ·refine wpAny_mono (T.item (cxComp X scope N' cl C s₂ H₂ fp) rfl rfl rfl hcalm i _ s3 σ3 H3 (fun _ _=>False) I3 fp1 st3 go) (fun r s4 ⟨u,hr,h4⟩=>?_) (fun _ _ z=>z.elim)
  subst hr
  refine wpAny_bind (wpAny_mono h4 (fun _ s5 ⟨x,H5,I5,r5,y5,st5,fr5⟩=>?_) (fun _ _ z=>z.elim))
  have fp5:=fpk (pins:=[(acc,accObj us k)]) (fun p hp=>.inl (by simp at hp;rw [hp])) fr5
  have I5':=I5.pinned fp5 (T.obj _ _ st5)
  refine wpAny_bind (wpAny_mono (hg _ s5 σ3 H5 x u _ I5' r5 (step x H5 y5)) (fun _ s6 ⟨σ6,H6,I6,q6⟩=>?_) (fun _ _ z=>z.elim))
  refine wpAny_bind (wpAny_mono (hc _ s6 σ6 H6 _ I6 q6) (fun ok s7 ⟨H7,I7,q7⟩=>?_) (fun _ _ z=>z.elim))
  have again:∀ {s8:Shared} {σ8:St} {H8:Hp} {us8:List Value} {k8:Nat},Inv (cxComp X scope N' cl C s₂ H₂ fp) ((acc,accObj us8 k8)::pinsAt fp s5.heap) σ8 H8 s8->Inv (cxComp X scope N' cl C s₂ H₂ fp) [(acc,accObj us8 k8)] σ8 H8 s8/\tn (i+1) s8.heap/\∀ b∈fp,H8 b=none:=fun {s8 σ8 H8 us8 k8} I8=>
   ⟨Inv.unpinned (pins:=[(acc,accObj us8 k8)]) I8,T.keep _ _ _ st5 fun b hb o e=>(I8.pin (b,o) (List.mem_append_right _ (List.mem_cons_of_mem _ (mem_pinsAt hb e)))).1,fun b hb=>by
    obtain ⟨o,e,d⟩:=T.obj _ _ st5 b hb
    exact (I8.pin (b,o) (List.mem_append_right _ (List.mem_cons_of_mem _ (mem_pinsAt hb e)))).2.1⟩
  cases ok with
  | false=>
    rw [if_neg Bool.false_ne_true] at q7
    obtain ⟨m',hm,w7⟩:=q7
    obtain ⟨I7',t1,t2⟩:=again I7
    exact wpAny_pure ⟨rfl,m',hm,i+1,ys,us,k,σ6,H7,rv,I7',t1,t2,w7⟩
  | true=>
    rw [if_pos rfl] at q7
    refine wpAny_bind (wpAny_mono (hi2 _ s7 σ6 H7 _ I7 q7) (fun v s8 h8=>?_) (fun _ _ z=>z.elim))
    refine wpAny_bind (wpAny_standAt ?_)
    rw [hs2 v]
    refine wpAny_bind (wpAny_pure ?_)
    refine wpAny_bind (wpAny_holding (wpAny_mono h8 (fun itv s9 h9=>?_) (fun _ _ z=>z.elim)))
    obtain ⟨it2,fp2,tn2,J2,H9,e9,I9,T2,st9,f9,W2,⟨m2,w2⟩,turn2⟩:=h9
    subst e9
    have loop:∀ Q:Flow->Shared->Prop,(∀ s10,(∃ m',m'<n/\∃ i ys us k σ' H',Vals ys us/\Inv (cxComp X scope N' cl C s₂ H₂ fp) [(acc,accObj us k)] σ' H' s10/\tn i s10.heap/\(∀ b∈fp,H' b=none)/\W i m' ys σ' H')->Q .next s10)->
     codeAny (model X.prog X.w) X.A (.compLoop (.ListComp elt [⟨tg,iter,ifs,0⟩,⟨tg2,iter2,ifs2,0⟩] scope pos) 1 (.ref it2) (.ref acc) (compEnvC scope cl C X.env)) (fun r s'=>match r with|.ok f=>Q f s'|.error e=>cameBackBy (model X.prog X.w) X.A (compEnvC scope cl C X.env) (notedBy (model X.prog X.w) X.A (compEnvC scope cl C X.env) fun x s'=>R (.error x) s') e s') s9:=by
     intro Q hQ
     refine comp_inner (Y:=cxComp X scope N' cl C s₂ H₂ fp) (ps:=pinsAt fp s5.heap) W2 turn2 T2 hg2 hc2 he hcalm (fun _ _ z=>z) (fun b hb=>?_) ⟨hacc.1,hacc.2.1,.inr hacc.2.2.2,hacc.2.2.1,fun p hp z=>?_⟩ (fun s' σ' H' ys' us' k' I' rv' q'=>?_) rv I9 st9 (fun b hb=>(f9 b hb).1) w2
     ·obtain ⟨_,a1,a2,a3,a4,a5⟩:=f9 b hb
      refine ⟨a1,a2,a3,a4,fun p hp=>?_,fun z=>?_⟩
      ·rcases List.mem_append.mp hp with y|y
       ·exact a5 p (List.mem_append_left _ y)
       ·exact a5 p (List.mem_append_right _ (List.mem_cons_of_mem _ y))
      ·exact a5 (acc,accObj us k) (List.mem_append_right _ List.mem_cons_self) z.symm
     ·have hp':p∈([]:List (Addr×Obj))++pinsAt fp s5.heap:=hp
      rw [List.nil_append] at hp'
      obtain ⟨hb,_⟩:=of_pinsAt hp'
      exact (hfp _ hb).2.2.2 z
     ·obtain ⟨m',hm,w'⟩:=q'
      obtain ⟨I8',t1,t2⟩:=again I'
      exact hQ s' ⟨m',hm,i+1,ys',us',k',σ',H',rv',I8',t1,t2,w'⟩
    refine wpAny_bind (wpAny_runOwn (codeAny_compStart_in (loop _ fun s10 q=>?_) (T2.self _ 0 _ _ _ st9 (loop _ fun s10 q=>?_))))
    ·obtain ⟨m',hm,q⟩:=q
     exact wpAny_pure ⟨rfl,m',hm,q⟩
    ·obtain ⟨m',hm,q⟩:=q
     exact wpAny_pure ⟨rfl,m',hm,q⟩
def tComp2 (wi:TI) (g:TG) (tt:TT) (wi2:TI) (g2:TG) (tt2:TT) (te:TE) (k:Nat) (js:List Nat):TE:=fun σ H Q=>wi σ H fun J H1=>∃ W:Nat->Nat->List V->St->Hp->Prop,(∃ m,W 0 m [] (compSt k js σ) H1)/\
 CTurn2 J g tt wi2 g2 tt2 te (fun ys H2=>ys.length≤sizeLine/\∀ p,H2 p=none->Q (.ref p) (upd H2 p (.lst ys))) W
section
variable {X:Cx} {scope:Scope} {own:List Str} {js:List Nat} {N':List Str} {wi wi2:TI} {g g2:TG} {tt tt2:TT} {te:TE} {elt tg iter tg2 iter2:Expr} {ifs ifs2:List Expr} {pos:Pos}
theorem comp_run2 {pins:List (Addr×Obj)} {σ:St} {H:Hp} {s:Shared} {it:Addr} {fp:List Addr} {tn:Nat->Heap->Prop} {J:It} {cl:List (Str×Addr)} {F:List V->Hp->Prop} {E:Value->Shared->Prop} {RR:Value->Addr->Result->Shared->Prop}
 (S:CompScope X scope own js N') (hcalm:X.calm=true) (hg:∀ cl C s₀ H₀ ex,PG (cxComp X scope N' cl C s₀ H₀ ex) tg g) (hc:∀ cl C s₀ H₀ ex,PIfs (cxComp X scope N' cl C s₀ H₀ ex) ifs tt) (hi2:∀ cl C s₀ H₀ ex,PI (cxComp X scope N' cl C s₀ H₀ ex) tg2 iter2 wi2) (hs2:∀ env x,foldedSetIterable iter2 env x=pure x) (hg2:∀ cl C s₀ H₀ ex,PG (cxComp X scope N' cl C s₀ H₀ ex) tg2 g2) (hc2':∀ cl C s₀ H₀ ex,PIfs (cxComp X scope N' cl C s₀ H₀ ex) ifs2 tt2) (he:∀ cl C s₀ H₀ ex,PE (cxComp X scope N' cl C s₀ H₀ ex) elt te)
 (hc1:∀ x c,cl.lookup x=some c->X.env.cells.lookup x=some c) (hc2:∀ x,(x,NameKind.free)∈scope.names->∃ c,cl.lookup x=some c)
 (I:Inv X pins σ H s) (T:Turn X.prog X.w X.K tg J fp it tn) (st:tn 0 s.heap) (hf:∀ b∈fp,FpOk X pins H b) (W:Nat->Nat->List V->St->Hp->Prop) {m0:Nat} (w0:W 0 m0 [] (compSt own.length js σ) H) (turn:CTurn2 J g tt wi2 g2 tt2 te F W)
 (hF:∀ ys H',F ys H'->ys.length≤sizeLine)
 (fin:∀ acc C H' ys s' m,Inv X pins σ (upd H' acc (.lst ys)) s'->H' acc=none->s'.heap.Ns C m->(upd H' acc (.lst ys)) C=none->C≠X.env.locals->X.s₀.heap.objs.size≤C->(∀ x c,X.env.cells.lookup x=some c->c≠C)->(∀ p∈X.pn++pins,p.1≠C)->F ys H'->RR (.ref acc) C (.ok .next) s') :
 wpAny (model X.prog X.w) X.A (newList []) (fun acc s₃=>wpAny (model X.prog X.w) X.A (newFunctionEnv scope X.env.globals cl [] X.env.qual none .none (some X.env)) (fun cenv s₄=>
  codeAny (model X.prog X.w) X.A (.compStart (.ListComp elt [⟨tg,iter,ifs,0⟩,⟨tg2,iter2,ifs2,0⟩] scope pos) 0 (.ref it) acc { cenv with scope:=relabel scope X.env }) (RR acc cenv.locals) s₄) E s₃) E s:=by
 refine wpAny_newObj_type (wpAny_newFunctionEnv S.nocell (by intro y hy;simp at hy) (fun h₁ hns₁ hsb₁=>?_) S.kind)
 dsimp only at hns₁ hsb₁ ⊢
 generalize hH2:s.heap.push { cls:=.type "list",dict:=none,data:=.seq ([]:List Value).toArray }=H2 at hns₁ hsb₁ ⊢
 have hC:H2.objs.size=s.heap.objs.size+1:=by rw [← hH2,Heap.size_push]
 have hDC:s.heap.objs.size≠H2.objs.size:=by rw [hC];exact Nat.ne_of_lt (Nat.lt_succ_self _)
 have hCle:s.heap.objs.size≤H2.objs.size:=by rw [hC];exact Nat.le_succ _
 have below:∀ b,b<s.heap.objs.size->b≠H2.objs.size/\b≠s.heap.objs.size:=fun b hb=>⟨by rw [hC];exact Nat.ne_of_lt (Nat.lt_succ_of_lt hb),Nat.ne_of_lt hb⟩
 have old:∀ b o,s.heap.get? b=some o->h₁.get? b=some o:=fun b o e=>hsb₁.extBut b o (below b (Heap.lt_size e)).1 (Heap.get?_push_of_some _ (hH2 ▸ Heap.get?_push_of_some _ e))
 have hacc:h₁.get? s.heap.objs.size=some (accObj [] 0):=hsb₁.extBut _ _ hDC (Heap.get?_push_of_some _ (hH2 ▸ Heap.get?_push_size _ rfl))
 generalize hCn:H2.objs.size=C at *
 generalize hAn:s.heap.objs.size=acc at *
 have cellLt:∀ x c,X.env.cells.lookup x=some c->c<acc:=fun x c e=>by
  obtain ⟨v,q⟩:=I.cell x c e
  rw [← hAn];exact q.lt
 have pinLt:∀ p∈X.pn++pins,p.1<acc:=fun p hp=>by rw [← hAn];exact Heap.lt_size (I.pin p hp).1
 have stkLt:∀ b∈frs X.stack,b<acc:=fun b hb=>by
  obtain ⟨_,o,ho,_⟩:=I.stack.mem hb
  rw [← hAn];exact Heap.lt_size ho
 have fpLt:∀ b∈fp,b<acc:=fun b hb=>by
  obtain ⟨o,e,_⟩:=T.obj _ _ st b hb
  rw [← hAn];exact Heap.lt_size e
 have hHC:H C=none:=I.hok.fresh (by rw [hAn];exact hCle)
 have hHA:H acc=none:=I.hok.fresh (by rw [hAn];exact Nat.le_refl _)
 have I1:Inv (cxComp X scope N' cl C s H fp) [] (compSt own.length js σ) H { s with heap:=h₁,toks:=s.toks+([]:List (Str×Value)).length }:=
  Inv.comp S I hc1 hc2 (by rw [hAn];exact hCle) hns₁ old (fun b hb=>⟨hf b hb,by rw [hAn];exact fpLt b hb⟩) hHC fun b o e=>(below b (by rw [← hAn];exact Heap.lt_size e)).1
 have I2:Inv (cxComp X scope N' cl C s H fp) [(acc,accObj [] 0)] (compSt own.length js σ) H { s with heap:=h₁,toks:=s.toks+([]:List (Str×Value)).length }:=I1.pins_of fun p hp=>by
  obtain rfl:p=(acc,accObj [] 0):=by simpa using hp
  exact ⟨hacc,hHA,hDC,fun z=>absurd (stkLt acc z) (Nat.lt_irrefl _),fun v z=>by cases z⟩
 have st1:tn 0 h₁:=T.keep _ _ _ st fun b hb o e=>old b o e
 have loop:∀ s₃:Shared,s₃={ s with heap:=h₁,toks:=s.toks+([]:List (Str×Value)).length }->
  codeAny (model X.prog X.w) X.A (.compLoop (.ListComp elt [⟨tg,iter,ifs,0⟩,⟨tg2,iter2,ifs2,0⟩] scope pos) 0 (.ref it) (.ref acc) (compEnvC scope cl C X.env)) (RR (.ref acc) C) s₃:=by
  rintro s₃ rfl
  refine comp_loop2 W turn T (hg _ _ _ _ _) (hc _ _ _ _ _) (hi2 _ _ _ _ _) (hs2 _) (hg2 _ _ _ _ _) (hc2' _ _ _ _ _) (he _ _ _ _ _) hcalm
   (fun b hb=>⟨(below b (fpLt b hb)).1,fun z=>?_,fun x c e z=>(hf b hb).2.2.2.2.1 x c (hc1 x c e) z,(below b (fpLt b hb)).2⟩)
   ⟨hDC,fun z=>absurd (stkLt acc z) (Nat.lt_irrefl _),fun x c e z=>absurd (cellLt x c (hc1 x c e)) (by rw [z];exact Nat.lt_irrefl _),by rw [hAn];exact Nat.le_refl _⟩ ?_ I2 st1 (fun b hb=>(hf b hb).1) w0
  ·rcases List.mem_cons.mp (I.stkSub b z) with q|q
   ·exact (hf b hb).2.1 q
   ·exact (hf b hb).2.2.1 q
  ·intro s' σ' H' ys us k J' rv q
   obtain ⟨e',n',l',f',d'⟩:=J'.pin (acc,accObj us k) (List.mem_append_right _ List.mem_cons_self)
   have n'':H' acc=none:=n'
   obtain ⟨m,hm,_⟩:=J'.loc
   have oldLt:∀ b o,s.heap.get? b=some o->b<acc:=fun b o e=>by rw [← hAn];exact Heap.lt_size e
   have neA:∀ b o,s.heap.get? b=some o->b≠acc:=fun b o e=>Nat.ne_of_lt (oldLt b o e)
   have un:Un (frs X.stack) fp H (upd H' acc (.lst ys)) s.heap s'.heap:=⟨J'.base.keep,J'.base.slot,fun b o e n hx=>by rw [upd_ne (neA b o e)];exact J'.base.free b o e n hx,J'.base.there,
    fun b xs e=>by
     have z:=J'.base.tups b xs e
     rw [upd_ne (ne_of_none z n'')];exact z,
    fun b o u e=>by
     have z:=J'.base.frzs b o u e
     rw [upd_ne (ne_of_none z n'')];exact z,
    fun b ps e=>by
     obtain ⟨more,z⟩:=J'.base.tbls b ps e
     exact ⟨more,by rw [upd_ne (ne_of_none z n'')];exact z⟩⟩
   have hok:HOk X.prog X.w (upd H' acc (.lst ys)) s'.heap:=fun b u e=>by
    by_cases hb:b=acc
    ·subst hb
     rw [upd_same] at e;cases e
     exact ⟨hF _ _ q,us,k,rv,e'⟩
    ·rw [upd_ne hb] at e
     exact (J'.hok b u e).stay (fun c v _ z=>z) (fun c z=>by rw [upd_ne (ne_of_none z n'')];exact z) fun c xs z=>by rw [upd_ne (ne_of_none z n'')];exact z
   have IX:Inv X pins σ (upd H' acc (.lst ys)) s':=I.call' J'.os un hok J'.bare fun b hb=>⟨(hf b hb).2.2.2.1,(hf b hb).2.1,(hf b hb).2.2.2.2.1,(hf b hb).2.2.2.2.2⟩
   refine fin acc C H' ys s' m IX n'' hm ?_ ?_ ?_ ?_ ?_ q
   ·rw [upd_ne (Ne.symm hDC)];exact J'.free
   ·exact Nat.ne_of_gt (Nat.lt_of_lt_of_le I.lt (by rw [hAn];exact hCle))
   ·exact Nat.le_trans I.sz (by rw [hAn];exact hCle)
   ·exact fun x c e z=>absurd (Nat.lt_of_lt_of_le (cellLt x c e) hCle) (by rw [z];exact Nat.lt_irrefl _)
   ·exact fun p hp z=>absurd (Nat.lt_of_lt_of_le (pinLt p hp) hCle) (by rw [z];exact Nat.lt_irrefl _)
 exact codeAny_compStart_list (loop _ rfl) (T.self _ 0 _ _ _ st1 (loop _ rfl))
theorem ps_setComp2 {i:Nat} {x:Str} {pos' spos:Pos} (S:CompScope X scope own js N') (hcalm:X.calm=true) (hN:X.N.Nodup) (hx:X.N[i]?=some x) (hk:X.env.scope.names.lookup x=some .local) (hi:PI X tg iter wi) (hg:∀ cl C s₀ H₀ ex,PG (cxComp X scope N' cl C s₀ H₀ ex) tg g) (hc:∀ cl C s₀ H₀ ex,PIfs (cxComp X scope N' cl C s₀ H₀ ex) ifs tt)
 (hi2:∀ cl C s₀ H₀ ex,PI (cxComp X scope N' cl C s₀ H₀ ex) tg2 iter2 wi2) (hs2:∀ env x,foldedSetIterable iter2 env x=pure x) (hg2:∀ cl C s₀ H₀ ex,PG (cxComp X scope N' cl C s₀ H₀ ex) tg2 g2) (hc2':∀ cl C s₀ H₀ ex,PIfs (cxComp X scope N' cl C s₀ H₀ ex) ifs2 tt2) (he:∀ cl C s₀ H₀ ex,PE (cxComp X scope N' cl C s₀ H₀ ex) elt te) (hsw:swapsWith (.ListComp elt [⟨tg,iter,ifs,0⟩,⟨tg2,iter2,ifs2,0⟩] scope pos) (some (.Name x pos')) spos.line X.env=pure true:=by rfl) (hs:∀ x,foldedSetIterable iter X.env x=pure x:=by intro _;rfl) :
 PS X (.Assign [.Name x pos'] (.ListComp elt [⟨tg,iter,ifs,0⟩,⟨tg2,iter2,ifs2,0⟩] scope pos) spos) (tAsg (tComp2 wi g tt wi2 g2 tt2 te own.length js) (gName i)):=by
 intro pins s σ H D I h
 obtain ⟨cl,hcl,hc1,hc2⟩:=closure_ok (env:=X.env) scope fun y hy hk=>I.ok.has y.1 (S.free y hy hk)
 rw [exec_Assign_Name_used _ _ _ _ hsw]
 refine wpAny_bind (wpAny_standAt (wpAny_bind ?_))
 show wpAny _ X.A (do let _ ← comprehension (.ListComp elt [⟨tg,iter,ifs,0⟩,⟨tg2,iter2,ifs2,0⟩] scope pos) scope X.env _ (newList []) false (eval iter X.env) (some (assign (.Name x pos') X.env))) _ _ s
 refine wpAny_bind (wpAny_mono (wpAny_comprehension_free (use:=some (assign (.Name x pos') X.env)) (Q:=fun _ s'=>SP X pins D .next s') rfl hs hcl S.kind S.names
  (thn (hi pins s σ H _ I h) fun v s1 h1=>thn h1 fun itv s2 h2=>?_)) (fun _ s' hq=>wpAny_pure (wpAny_pure hq)) fun _ _ e=>e)
 obtain ⟨it,fp,tn,J,H2,e,I2,T,st2,f2,W,⟨m0,w0⟩,turn⟩:=h2
 subst e
 refine comp_run2 (RR:=fun acc C=>compPost (model X.prog X.w) X.A X.xe (some (assign (.Name x pos') X.env)) (fun _ s'=>SP X pins D .next s') acc C) S hcalm hg hc hi2 hs2 hg2 hc2' he hc1 hc2 I2 T st2 f2 W w0 turn (fun ys H' q=>q.1) ?_
 intro acc C H' ys s' m IX na hm hCn hL hz hcn hpn q
 show wpAny _ X.A (assign (.Name x pos') X.env (.ref acc)) _ _ s'
 refine wpAny_assign_Name (store_ok2 IX hN hx (.inl hk) (v:=.ref acc) rfl (fun s'' I'' hsb=>?_) (.inr hk))
 obtain ⟨a,hsb,ha⟩:=hsb
 have haC:C≠a:=by
  rcases ha with z|z
  ·rw [z];exact hL
  ·exact fun q=>hcn x a z q.symm
 refine ⟨m,hm.sameBut hsb haC,fun h' hs'=>⟨_,_,?_,q.2 acc na⟩⟩
 exact I''.turned (t':=s''.toks) (it:=C) (fun b o hb e=>(hs'.2 b hb).trans e) hCn hL (.inr hz) hcn hpn
end
section
variable {X:Cx}
end
section
variable {prog:Program} {w:World} {A:Around} {R:Result->Shared->Prop} {I:Addr} {fp wr:List Addr} {n:Nat} {P:Nat->Value->Prop} {St:Nat->Heap->Prop}
end
section
variable {prog:Program} {w:World} {A:Around} {E:Value->Shared->Prop} {s:Shared} {l:Addr} {xs:Array (Int×Tok)}
end
section
variable {X:Cx}
end
section
variable {X:Cx} {scope:Scope} {own:List Str} {js:List Nat} {N':List Str} {wi:TI} {g:TG} {tt:TT} {te:TE} {tf:St->TE} {elt tg iter:Expr} {ifs:List Expr} {pos:Pos}
end
end L2
namespace L2
open PySem PySem.Spec PyProof.Rows PySem.SeqAt
section
variable {prog:Program} {w:World} {A:Around} {E:Value->Shared->Prop} {s:Shared} {l:Addr} {x y z:Value}
end
section
variable {X:Cx} {pos:Pos}
end
section
variable {X:Cx}
end
section
variable {X:Cx} {CX:CXT} {k:Nat} {f C:Addr} {fd:FuncData} {ps ks:List Str} {sp:Sp} {E:XK} {m:Str} {pos apos:Pos} {o:Expr} {kws:List Keyword} {ta:TE} {tk:TA} {g:List Value->List Value->List Value} {gV:List V->List V->List V}
end
section
variable {prog:Program} {w:World} {A:Around} {R:Result->Shared->Prop} {I:Addr} {fp wr:List Addr} {G:Array GenState->Array GenState->Prop} {n:Nat} {P:Nat->Value->Prop} {St:Nat->Shared->Prop}
end
section
open PySem.F
variable {prog:Program} {w:World} {A:Around} {E:Value->Shared->Prop} {s:Shared}
end
section
variable {X:Cx}
end
section
variable {prog:Program} {w:World} {A:Around} {E:Value->Shared->Prop} {s:Shared} {K:Type} [DecidableEq K] {knd:KeyKind prog w K}
end
section
variable {X:Cx}
end
section
variable {P:Program} {w:World} {A:Around} {E:Value->Shared->Prop} {s:Shared} {a:Addr} {ns:List Int}
end
section
variable {P:Program} {w:World} {A:Around} {R:Result->Shared->Prop} {I:Addr} {fp wr:List Addr} {G:Array GenState->Array GenState->Prop} {n:Nat} {Pv:Nat->Value->Prop} {St:Nat->Shared->Prop}
end
section
variable {P:Program} {w:World} {A:Around} {E:Value->Shared->Prop} {s:Shared}
end
section
variable {P:Program} {w:World} {A:Around} {E:Value->Shared->Prop} {s:Shared} {I a:Addr} {i n ep:Nat} {o:Obj} {es:Array (Int×Value)} {t:SetTable}
end
section
variable {P:Program} {w:World} {A:Around} {E:Value->Shared->Prop} {s:Shared}
variable {a:Addr} {ep:Nat} {o:Obj} {es:Array (Int×Value)} {t:SetTable} {Q:Option (Value×Nat)->Shared->Prop}
end
section
variable {P:Program} {w:World} {A:Around} {E:Value->Shared->Prop} {s:Shared}
end
section
variable {P:Program} {w:World} {A:Around} {E:Value->Shared->Prop} {s:Shared}
end
section
variable {X:Cx} {pins:List (Addr×Obj)} {σ:List (Option V)} {H:Hp} {s:Shared}
end
section
variable {X:Cx}
end
end L2
namespace L2
open PySem PySem.Spec PyProof.Rows PySem.SeqAt PySem.W
abbrev vl (rk:Nat->Int) (p:Array Nat) (k:Nat):Int:=rk (p.getD k 0)
def UpTo (rk:Nat->Int) (p:Array Nat) (m:Nat):Prop:=∀ i j,i<j->j<m->vl rk p i<vl rk p j
def DnTo (rk:Nat->Int) (p:Array Nat) (m:Nat):Prop:=∀ i j,i<j->j<m->vl rk p j<vl rk p i
def PmR (n:Nat) (p:Array Nat):Prop:=p.toList.Perm (List.range n)
theorem PmR.size {n:Nat} {p:Array Nat} (h:PmR n p):p.size=n:=by have:=List.Perm.length_eq h;simpa using this
theorem getD_of {p:Array Nat} {k:Nat} (h:k<p.size):p.getD k 0=p[k]:=by simp [Array.getD,h]
theorem PmR.lt {n:Nat} {p:Array Nat} (h:PmR n p) {k:Nat} (hk:k<n):p.getD k 0<n:=by
 have hz:=h.size
 rw [getD_of (by omega)]
 exact List.mem_range.mp ((List.Perm.mem_iff h).mp (by simp))
theorem PmR.inj {n:Nat} {p:Array Nat} (h:PmR n p) {k l:Nat} (hk:k<n) (hl:l<n) (e:p.getD k 0=p.getD l 0):k=l:=by
 have hz:=h.size
 rw [getD_of (by omega),getD_of (by omega)] at e
 have nd:p.toList.Nodup:=(List.Perm.nodup_iff h).mpr List.nodup_range
 have pw:=List.pairwise_iff_getElem.mp nd
 have hq:p.toList.length=p.size:=Array.length_toList ..
 have hk':k<p.toList.length:=by omega
 have hl':l<p.toList.length:=by omega
 rcases Nat.lt_trichotomy k l with z|z|z
 ·exact absurd (by rw [Array.getElem_toList,Array.getElem_toList];exact e) (pw k l hk' hl' z)
 ·exact z
 ·exact absurd (by rw [Array.getElem_toList,Array.getElem_toList];exact e.symm) (pw l k hl' hk' z)
structure Rk (n:Nat) (rk:Nat->Int) (cmp:Nat->Nat->(Bool->Shared->Prop)->Shared->Prop) (s:Shared):Prop where
 inj:∀ i j,i<n->j<n->rk i=rk j->i=j
 ask:∀ i j C,i<n->j<n->C (decide (rk i<rk j)) s->cmp i j C s
section
variable {n:Nat} {rk:Nat->Int} {cmp:Nat->Nat->(Bool->Shared->Prop)->Shared->Prop} {s:Shared}
theorem vl_ne {p:Array Nat} (X:Rk n rk cmp s) (h:PmR n p) {k l:Nat} (hk:k<n) (hl:l<n) (ne:k≠l):vl rk p k≠vl rk p l:=fun e=>ne (h.inj hk hl (X.inj _ _ (h.lt hk) (h.lt hl) e))
theorem UpTo.next {p:Array Nat} {a:Nat} (U:UpTo rk p a) (h1:1≤a) (h:vl rk p (a-1)<vl rk p a):UpTo rk p (a+1):=fun i j hij hj=>by
 by_cases q:j<a
 ·exact U i j hij q
 ·obtain rfl:j=a:=by omega
  by_cases q2:i=j-1
  ·rw [q2];exact h
  ·exact Int.lt_trans (U i (j-1) (by omega) (by omega)) h
theorem DnTo.next {p:Array Nat} {a:Nat} (U:DnTo rk p a) (h1:1≤a) (h:vl rk p a<vl rk p (a-1)):DnTo rk p (a+1):=fun i j hij hj=>by
 by_cases q:j<a
 ·exact U i j hij q
 ·obtain rfl:j=a:=by omega
  by_cases q2:i=j-1
  ·rw [q2];exact h
  ·exact Int.lt_trans h (U i (j-1) (by omega) (by omega))
theorem asc_wp (X:Rk n rk cmp s) {p:Array Nat} (hp:PmR n p) {Q:Nat->Shared->Prop}:∀ (f a:Nat),1≤a->a+f≤n->UpTo rk p a->(∀ m,a≤m->m≤a+f->UpTo rk p m->(m=a+f∨vl rk p m<vl rk p (m-1))->Q m s)->(kas_asc p f a).kasWp cmp Q s
 |0,a,h1,h2,U,go=>go a (Nat.le_refl _) (Nat.le_refl _) U (.inl rfl)
 | f+1,a,h1,h2,U,go=>by
   refine X.ask _ _ _ (hp.lt (by omega)) (hp.lt (by omega)) ?_
   by_cases c:vl rk p a<vl rk p (a-1)
   ·rw [decide_eq_true c]
    dsimp only
    rw [if_pos rfl]
    exact go a (Nat.le_refl _) (by omega) U (.inr c)
   ·rw [decide_eq_false c]
    dsimp only
    rw [if_neg (by decide)]
    have:=vl_ne X hp (k:=a) (l:=a-1) (by omega) (by omega) (by omega)
    exact asc_wp X hp f (a+1) (by omega) (by omega) (U.next h1 (by omega)) fun m m1 m2 U' e=>go m (by omega) (by omega) U' (e.imp (fun e=>by omega) id)
theorem desc_wp (X:Rk n rk cmp s) {p:Array Nat} (hp:PmR n p) {Q:Array Nat×Nat×Nat->Shared->Prop}:∀ (f a:Nat),1≤a->a+f≤n->DnTo rk p a->(∀ m,a≤m->m≤a+f->DnTo rk p m->Q (p,m,0) s)->(kas_desc f p a 0).kasWp cmp Q s
 |0,a,h1,h2,U,go=>go a (Nat.le_refl _) (Nat.le_refl _) U
 | f+1,a,h1,h2,U,go=>by
   refine X.ask _ _ _ (hp.lt (by omega)) (hp.lt (by omega)) ?_
   by_cases c:vl rk p a<vl rk p (a-1)
   ·rw [decide_eq_true c]
    dsimp only
    rw [if_pos rfl,if_neg (by omega)]
    exact desc_wp X hp f (a+1) (by omega) (by omega) (U.next h1 c) fun m m1 m2 U'=>go m (by omega) (by omega) U'
   ·rw [decide_eq_false c]
    dsimp only
    rw [if_neg (by decide)]
    have:=vl_ne X hp (k:=a) (l:=a-1) (by omega) (by omega) (by omega)
    refine X.ask _ _ _ (hp.lt (by omega)) (hp.lt (by omega)) ?_
    rw [decide_eq_true (show rk (p.getD (a-1) 0)<rk (p.getD a 0) by have:=c;simp only [vl] at *;omega)]
    dsimp only
    rw [if_pos rfl]
    exact go a (Nat.le_refl _) (by omega) U
theorem rev_vl {p:Array Nat} {m:Nat} (hm:m≤p.size) {k:Nat} (hk:k<m):vl rk (kas_rev p 0 m) k=vl rk p (m-1-k):=by
 unfold vl kas_rev
 rw [Array.getD_eq_getD_getElem?,getElem?_mirror_all hm,if_pos ⟨Nat.zero_le _,hk⟩,Nat.zero_add,← Array.getD_eq_getD_getElem?]
theorem PmR.rev {p:Array Nat} (h:PmR n p) (i j:Nat):PmR n (kas_rev p i j):=(Array.perm_iff_toList_perm.mp (mirror_perm _ _ _ _)).trans h
theorem tail_wp (X:Rk n rk cmp s) {p:Array Nat} (hp:PmR n p) {m:Nat} {Q:Nat×Array Nat->Shared->Prop} (h1:1≤m) (h2:m≤n) (D:DnTo rk p m) (go:∀ m' p',1≤m'->m'≤n->PmR n p'->UpTo rk p' m'->Q (m',p') s):(kas_tail3 m n p).kasWp cmp Q s:=by
 unfold kas_tail3
 rw [KasT.kasWp_bind]
 have hz:=hp.size
 refine asc_wp X (hp.rev 0 m) _ m h1 (by omega) (fun i j hij hj=>?_) fun m' a b U _=>go m' _ (by omega) (by omega) (hp.rev 0 m) U
 rw [rev_vl (by omega) (by omega),rev_vl (by omega) hj]
 exact D _ _ (by omega) (by omega)
theorem count_wp (X:Rk n rk cmp s) {p:Array Nat} (hp:PmR n p) {Q:Nat×Array Nat->Shared->Prop} (h1:1≤n) (go:∀ m' p',1≤m'->m'≤n->PmR n p'->UpTo rk p' m'->Q (m',p') s):(kas_count n p).kasWp cmp Q s:=by
 unfold kas_count
 rw [KasT.kasWp_bind]
 refine asc_wp X hp _ 1 (Nat.le_refl _) (by omega) (fun i j hij hj=>by omega) fun m a b U e=>?_
 by_cases q:m=n
 ·rw [if_pos (by simpa using q)]
  exact go m p a (by omega) hp U
 ·rw [if_neg (by simpa using q)]
  have c:vl rk p m<vl rk p (m-1):=e.resolve_left (by omega)
  by_cases q1:m > 1
  ·rw [if_pos q1]
   refine X.ask _ _ _ (hp.lt (by omega)) (hp.lt (by omega)) ?_
   rw [decide_eq_true (U 0 (m-1) (by omega) (by omega))]
   dsimp only
   rw [if_pos rfl]
   exact go m p a (by omega) hp U
  ·rw [if_neg q1]
   obtain rfl:m=1:=by omega
   unfold kas_descPart
   rw [KasT.kasWp_bind]
   refine desc_wp X hp _ 2 (by omega) (by omega) (fun i j hij hj=>?_) fun m' a' b' D=>?_
   ·obtain rfl:i=0:=by omega
    obtain rfl:j=1:=by omega
    exact c
   ·dsimp only
    rw [if_neg (by omega)]
    exact tail_wp X hp (by omega) (by omega) D go
theorem place_wp (X:Rk n rk cmp s) {p:Array Nat} (hp:PmR n p) {k:Nat} (hk:k<n) {Q:Nat->Shared->Prop}:∀ (f l r:Nat),l≤r->r≤k->r-l≤f->(∀ i,i<l->vl rk p i<vl rk p k)->(∀ i,r≤i->i<k->vl rk p k<vl rk p i)->
 (∀ m,m≤k->(∀ i,i<m->vl rk p i<vl rk p k)->(∀ i,m≤i->i<k->vl rk p k<vl rk p i)->Q m s)->UpTo rk p k->(kas_place p k f l r).kasWp cmp Q s
 | 0,l,r,h1,h2,h3,a1,a2,go,U=>by
   obtain rfl:l=r:=by omega
   exact go l h2 a1 a2
 | f+1,l,r,h1,h2,h3,a1,a2,go,U=>by
   unfold kas_place
   by_cases q:l ≥ r
   ·rw [if_pos q]
    obtain rfl:l=r:=by omega
    exact go l h2 a1 a2
   ·rw [if_neg q]
    refine X.ask _ _ _ (hp.lt hk) (hp.lt (by omega)) ?_
    have ne:=vl_ne X hp (k:=k) (l:=(l+r) / 2) hk (by omega) (by omega)
    by_cases c:vl rk p k<vl rk p ((l+r) / 2)
    ·rw [decide_eq_true c]
     dsimp only
     rw [if_pos rfl]
     refine place_wp X hp hk f l _ (by omega) (by omega) (by omega) a1 (fun i h4 h5=>?_) go U
     by_cases z:i=(l+r) / 2
     ·rw [z];exact c
     ·exact Int.lt_trans c (U _ _ (by omega) h5)
    ·rw [decide_eq_false c]
     dsimp only
     rw [if_neg (by decide)]
     refine place_wp X hp hk f _ r (by omega) (by omega) (by omega) (fun i h4=>?_) a2 go U
     by_cases z:i=(l+r) / 2
     ·rw [z];omega
     ·have:=U i ((l+r) / 2) (by omega) (by omega)
      omega
theorem bub_vl {p:Array Nat} {k l j:Nat} (hk:k<p.size) (hl:l≤k):vl rk (bubble p k (k-l)) j=if j=l then vl rk p k else if l<j/\j≤k then vl rk p (j-1) else vl rk p j:=by
 have e:k-(k-l)=l:=by omega
 unfold vl
 rw [Array.getD_eq_getD_getElem?,getElem?_bubble hk _ (by omega),e]
 by_cases c:j=l
 ·rw [if_pos c,if_pos c,← Array.getD_eq_getD_getElem?]
 ·rw [if_neg c,if_neg c]
  by_cases d:l<j/\j≤k
  ·rw [if_pos d,if_pos d,← Array.getD_eq_getD_getElem?]
  ·rw [if_neg d,if_neg d,← Array.getD_eq_getD_getElem?]
theorem bin_wp (X:Rk n rk cmp s) {Q:Array Nat->Shared->Prop} (go:∀ p',PmR n p'->UpTo rk p' n->Q p' s):∀ (f:Nat) (p:Array Nat) (k:Nat),PmR n p->UpTo rk p k->k+f=n->(kas_bin f p k).kasWp cmp Q s
 |0,p,k,hp,U,e=>go p hp (by rw [← e];exact U)
 | f+1,p,k,hp,U,e=>by
   unfold kas_bin
   rw [KasT.kasWp_bind]
   have hz:=hp.size
   refine place_wp X hp (by omega) k 0 k (by omega) (by omega) (by omega) (fun i h=>by omega) (fun i h1 h2=>by omega) (fun l hl a1 a2=>?_) U
   refine bin_wp X go f _ (k+1) ((Array.perm_iff_toList_perm.mp (bubble_perm _ _ _)).trans hp) (fun i j hij hj=>?_) (by omega)
   rw [bub_vl (by omega) hl,bub_vl (by omega) hl]
   by_cases c1:j=l
   ·rw [if_pos c1,if_neg (by omega),if_neg (by omega)]
    exact a1 i (by omega)
   ·rw [if_neg c1]
    by_cases c2:l<j/\j≤k
    ·rw [if_pos c2]
     by_cases c3:i=l
     ·rw [if_pos c3]
      exact a2 _ (by omega) (by omega)
     ·rw [if_neg c3]
      by_cases c4:l<i/\i≤k
      ·rw [if_pos c4]
       exact U _ _ (by omega) (by omega)
      ·rw [if_neg c4]
       exact U _ _ (by omega) (by omega)
    ·rw [if_neg c2,if_neg (by omega),if_neg (by omega)]
     exact U _ _ hij (by omega)
theorem sort_wp (X:Rk n rk cmp s) {Q:Array Nat->Shared->Prop} (h1:1≤n) (go:∀ p',PmR n p'->UpTo rk p' n->Q p' s):(kas_sort n).kasWp cmp Q s:=by
 unfold kas_sort
 rw [KasT.kasWp_bind]
 refine count_wp X (p:=(List.range n).toArray) (by unfold PmR;exact .refl _) h1 fun m p a b hp U=>?_
 dsimp only
 by_cases c:m<n
 ·rw [if_pos c,Nat.max_eq_left a]
  exact bin_wp X go _ p m hp U (by omega)
 ·rw [if_neg c]
  obtain rfl:m=n:=by omega
  exact go p hp U
end
abbrev Tri:=Int×Int×Int
def rkT (x:Tri):Int:=x.1*1000000000000+x.2.1*1000000+x.2.2
structure TrOk (x:Tri):Prop where
 a:0≤x.2.1/\x.2.1<1000000
 b:0≤x.2.2/\x.2.2<1000000
theorem rkT_inj {x y:Tri} (hx:TrOk x) (hy:TrOk y) (e:rkT x=rkT y):x=y:=by
 obtain ⟨x1,x2,x3⟩:=x
 obtain ⟨y1,y2,y3⟩:=y
 obtain ⟨⟨a1,a2⟩,b1,b2⟩:=hx
 obtain ⟨⟨c1,c2⟩,d1,d2⟩:=hy
 simp only [rkT] at *
 have:x1=y1:=by omega
 have:x2=y2:=by omega
 have:x3=y3:=by omega
 subst_vars
 rfl
def TriAt (h:Heap) (v:Value) (x:Tri):Prop:=∃ b t1 t2 t3,v=.ref b/\IsTup h b #[.int x.1 t1,.int x.2.1 t2,.int x.2.2 t3]
theorem keyLt_tup (f:Bool) (x y:Value):keyLt' (tuples' f) x y=(do
 let xs ← Builtin.List.listItems x;let ys ← Builtin.List.listItems y
 for ((p,q),i) in (xs.toList.zip ys.toList).zipIdx do
  if !(← eqBool p q) then return ← oneLt' (f && i == 0) p q
 return xs.size<ys.size):=rfl
section
variable {prog:Program} {w:World} {A:Around} {E:Value->Shared->Prop} {s:Shared}
theorem one_lt {f:Bool} {a b:Int} {t u:Tok} {Q:Bool->Shared->Prop} (h:Q (decide (a<b)) s):wpAny (model prog w) A (oneLt' f (.int a t) (.int b u)) Q E s:=by
 cases f with
 |true=>exact oneLt_int h
 | false=>
   rw [oneLt'_eq]
   refine wpAny_bind (m:=richCompare .Lt (.int a t) (.int b u)) ?_
   refine PyProof.Rows.lt_int (Q:=fun r s'=>wpAny (model prog w) A (truthOfDropped r) Q E s') ?_
   exact wpAny_truthy_bool h
theorem items_tup {a:Addr} {xs:Array Value} {Q:Array Value->Shared->Prop} (h:IsTup s.heap a xs) (q:Q xs s):wpAny (model prog w) A (Builtin.List.listItems (.ref a)) Q E s:=by
 obtain ⟨o,ho,hc,n,hd⟩:=h
 exact listItems_at ho hd q
theorem keyLt_tri {f:Bool} {x y:Value} {a b:Tri} {C:Bool->Shared->Prop} (hx:TriAt s.heap x a) (hy:TriAt s.heap y b) (oa:TrOk a) (ob:TrOk b) (h:C (decide (rkT a<rkT b)) s):wpAny (model prog w) A (keyLt' (tuples' f) x y) C (fun _ _=>False) s:=by
 obtain ⟨p,t1,t2,t3,rfl,h1⟩:=hx
 obtain ⟨q,u1,u2,u3,rfl,h2⟩:=hy
 rw [keyLt_tup]
 refine wpAny_bind (items_tup h1 (wpAny_bind (items_tup h2 ?_)))
 simp only [List.zip_cons_cons,List.zip_nil_right,List.zipIdx_cons,List.zipIdx_nil,List.forIn_cons,List.forIn_nil]
 have h0:a=b->C false s:=fun e=>by
  rw [decide_eq_false (show ¬ rkT a<rkT b by rw [e];exact Int.lt_irrefl _)] at h
  exact h
 obtain ⟨a1,a2,a3⟩:=a
 obtain ⟨b1,b2,b3⟩:=b
 obtain ⟨⟨o1,o2⟩,o3,o4⟩:=oa
 obtain ⟨⟨o5,o6⟩,o7,o8⟩:=ob
 simp only [rkT] at h
 dsimp only at o1 o2 o3 o4 o5 o6 o7 o8 h ⊢
 have no:∀ {x y:Int},x≠y->(x == y)=false:=fun q=>by simpa using q
 refine wpAny_bind (wpAny_bind (wpAny_bind (wpAny_eqBool_int ?_)))
 by_cases c1:a1=b1
 ·rw [show (a1 == b1)=true by simpa using c1]
  refine wpAny_pure ?_
  refine wpAny_bind (wpAny_bind (wpAny_eqBool_int ?_))
  by_cases c2:a2=b2
  ·rw [show (a2 == b2)=true by simpa using c2]
   refine wpAny_pure ?_
   refine wpAny_bind (wpAny_bind (wpAny_eqBool_int ?_))
   by_cases c3:a3=b3
   ·rw [show (a3 == b3)=true by simpa using c3]
    exact wpAny_pure (wpAny_pure (wpAny_pure (h0 (by rw [c1,c2,c3]))))
   rw [no c3]
   refine wpAny_bind (one_lt (wpAny_pure (wpAny_pure (wpAny_pure ?_))))
   rwa [show decide (a3<b3)=decide (a1*1000000000000+a2*1000000+a3<b1*1000000000000+b2*1000000+b3) by rw [decide_eq_decide];omega]
  ·rw [no c2]
   refine wpAny_bind (one_lt (wpAny_pure (wpAny_pure (wpAny_pure ?_))))
   rwa [show decide (a2<b2)=decide (a1*1000000000000+a2*1000000+a3<b1*1000000000000+b2*1000000+b3) by rw [decide_eq_decide];omega]
 ·rw [no c1]
  refine wpAny_bind (one_lt (wpAny_pure (wpAny_pure (wpAny_pure ?_))))
  rwa [show decide (a1<b1)=decide (a1*1000000000000+a2*1000000+a3<b1*1000000000000+b2*1000000+b3) by rw [decide_eq_decide];omega]
theorem mapM_wp {α β:Type} {f:α->Sem β} {R:α->β->Prop} (hf:∀ v r,R v r->∀ Q':β->Shared->Prop,Q' r s->wpAny (model prog w) A (f v) Q' E s):∀ {l:List α} {rs:List β},Paired R l rs->∀ {Q:List β->Shared->Prop},Q rs s->wpAny (model prog w) A (l.mapM f) Q E s
 |_,_,.nil,Q,h=>by rw [List.mapM_nil];exact wpAny_pure h
 | _,_,.cons r1 r,Q,h=>by
   rw [List.mapM_cons]
   exact wpAny_bind (hf _ _ r1 _ (wpAny_bind (mapM_wp hf r (wpAny_pure h))))
theorem first_tri {v:Value} {x:Tri} (h:TriAt s.heap v x):∃ t,∀ Q':Option Value->Shared->Prop,Q' (some (.int x.1 t)) s->wpAny (model prog w) A (firstOfTuple' v) Q' E s:=by
 obtain ⟨b,t1,t2,t3,rfl,h1⟩:=h
 refine ⟨t1,fun Q' q=>?_⟩
 rw [kas_first_eq]
 obtain ⟨o,ho,hc,n,hd⟩:=id h1
 refine wpAny_bind (wpAny_typeOf (T:="tuple") ⟨o,ho,hc⟩ ?_)
 rw [if_neg (by decide)]
 exact wpAny_bind (items_tup h1 (wpAny_pure q))
theorem firsts_ints:∀ {vs:List Value} {xs:List Tri},Paired (TriAt s.heap) vs xs->∃ us:List Value,IntsAre us (xs.map (·.1))/\Paired (fun v r=>∀ Q':Option Value->Shared->Prop,Q' r s->wpAny (model prog w) A (firstOfTuple' v) Q' E s) vs (us.map some)
 |_,_,.nil=>⟨[],.nil,.nil⟩
 | _,_,.cons h r=>by
   obtain ⟨us,i,p⟩:=firsts_ints r
   obtain ⟨t,q⟩:=first_tri (prog:=prog) (w:=w) (A:=A) (E:=E) h
   exact ⟨_::us,.cons _ t i,.cons q p⟩
theorem kind_tri {vs:List Value} {xs:List Tri} {Q:SortKind->Shared->Prop} (hp:Paired (TriAt s.heap) vs xs) (h:∀ f,Q (tuples' f) s):wpAny (model prog w) A (keyKind' vs.toArray) Q E s:=by
 obtain ⟨us,i,p⟩:=firsts_ints (prog:=prog) (w:=w) (A:=A) (E:=E) hp
 rw [keyKind'_eq,List.mapM_toArray]
 refine wpAny_bind ?_
 rw [map_eq_pure_bind]
 refine wpAny_bind (mapM_wp (fun v r q=>q) p (wpAny_pure ?_))
 rw [if_pos (by simp)]
 refine wpAny_bind (wpAny_rule ?_)
 have e:(us.map some).toArray.filterMap id=us.toArray:=by simp
 rw [e,oneTypeOnly'_eq,List.mapM_toArray,mapM_typeOf_ints i]
 simp only [map_pure,pure_bind]
 split
 ·exact wpAny_pure (h _)
 ·exact wpAny_pure (h _)
end
theorem sort_keyed (a fa:Addr):Builtin.«list.sort» ⟨[.ref a],[("key",.ref fa)]⟩=(do
 let items ← Builtin.List.listItems (.ref a)
 Builtin.List.listUpdate (.ref a) fun _=>#[]
 let before ← seqEpoch a
 let held ← newTuple items.toList
 let ks ← newList []
 holding [held,ks] do
  rule "list.sort.key"
  for x in items do
   match ← (call (.ref fa) [x]).attempt with
   |.ok k=>Builtin.List.listUpdate ks (·.push k)
   | .error e=>
     rule "list.sort.key-raised"
     let made ← Builtin.List.listItems ks
     Builtin.List.listUpdate ks fun _=>#[]
     letGo made.toList.reverse [e]
     Builtin.List.listUpdate (.ref a) fun _=>items;throw e
  let keys ← Builtin.List.listItems ks
  let kind ← if items.size<2 then pure general' else keyKind' keys
  let ((),s) ← (if items.size<2 then pure () else sortRuns').run (SortSt.mk' kind (keys.zip items) #[] 7 none)
  Builtin.List.listUpdate ks fun _=>#[]
  letGo ((arrOf s).map (·.1)).toList (failedOf s).toList
  let touched:=(← seqEpoch a) != before
  Builtin.List.listUpdate (.ref a) fun _=>(arrOf s).map (·.2)
  if let some e:=failedOf s then rule "list.sort.comparison-raised";throw e
  if touched then rule "list.sort.modified";raiseError "ValueError" "list modified during sort"
  ret .none):=by
 rfl
section
variable {prog:Program} {w:World} {A:Around} {E:Value->Shared->Prop} {s:Shared}
theorem forIn_inv {α:Type} {g:α->PUnit->Sem (ForInStep PUnit)} {l:List α} {Q:PUnit->Shared->Prop} (J:Nat->Shared->Prop) (step:∀ i x s,l[i]?=some x->J i s->wpAny (model prog w) A (g x ⟨⟩) (fun r s'=>r=.yield ⟨⟩/\J (i+1) s') E s) (fin:∀ s',J l.length s'->Q ⟨⟩ s') :
 ∀ (k:Nat) (m:List α) (s:Shared),l.drop k=m->k≤l.length->J k s->wpAny (model prog w) A (forIn m ⟨⟩ g) Q E s
 | k,[],s,e,hk,j=>by
   rw [List.forIn_nil]
   have:l.length≤k:=List.drop_eq_nil_iff.mp e
   obtain rfl:k=l.length:=by omega
   exact wpAny_pure (fin s j)
 | k,x::m,s,e,hk,j=>by
   have hx:l[k]?=some x:=by rw [← List.head?_drop,e];rfl
   have hlt:k<l.length:=(List.getElem?_eq_some_iff.mp hx).1
   rw [List.forIn_cons]
   refine wpAny_bind (wpAny_mono (step k x s hx j) (fun r s' q=>?_) fun _ _ z=>z)
   obtain ⟨rfl,q⟩:=q
   exact forIn_inv J step fin (k+1) m s' (by rw [← List.drop_drop,e];rfl) hlt q
theorem paired_getD {α β:Type} {R:α->β->Prop} {d:α} {e:β}:∀ {l:List α} {m:List β},Paired R l m->∀ i,i<l.length->R (l.getD i d) (m.getD i e)
 |_,_,.nil,i,h=>by simp at h
 |_,_,.cons r1 r,0,h=>r1
 |_,_,.cons r1 r,i+1,h=>paired_getD r i (by simpa using h)
theorem nodup_getD {α:Type} {d:α} {l:List α} (nd:l.Nodup) {i k:Nat} (hi:i<l.length) (hk:k<l.length) (e:l.getD i d=l.getD k d):i=k:=by
 rw [List.getD_eq_getElem?_getD,List.getD_eq_getElem?_getD,List.getElem?_eq_getElem hi,List.getElem?_eq_getElem hk] at e
 have pw:=List.pairwise_iff_getElem.mp nd
 rcases Nat.lt_trichotomy i k with z|z|z
 ·exact absurd e (pw i k hi hk z)
 ·exact z
 ·exact absurd e.symm (pw k i hk hi z)
theorem sort_key {a fa:Addr} {vs:List Value} {n:Nat} {xs:List Tri} {P:PySem.Fin->Shared->Prop} (ho:s.heap.get? a=some (seqObj "list" vs.toArray n)) (h64:vs.length<64) (hx:xs.length=vs.length) (ok:∀ x∈xs,TrOk x) (nd:xs.Nodup)
 (J:Nat->List Value->Shared->Prop)
 (at_:∀ e kl s',J e kl s'->s'.heap.get? a=some (seqObj "list" #[] e)/\∃ c,s'.heap.get? (s.heap.objs.size+1)=some (seqObj "list" kl.toArray c))
 (h0:∀ e,(((s.heap.update a (Obj.mapSeq fun _=>#[])).push (seqObj "tuple" vs.toArray 0)).push (seqObj "list" #[] 0)).get? a=some (seqObj "list" #[] e)->J e [] { s with heap:=((s.heap.update a (Obj.mapSeq fun _=>#[])).push (seqObj "tuple" vs.toArray 0)).push (seqObj "list" #[] 0) })
 (step:∀ e kl x s',J e kl s'->vs[kl.length]?=some x->wpAny (model prog w) A (call (.ref fa) [x]) (fun k s''=>(∃ c,s''.heap.get? (s.heap.objs.size+1)=some (seqObj "list" kl.toArray c))/\J e (kl++[k]) { s'' with heap:=s''.heap.update (s.heap.objs.size+1) (Obj.mapSeq (·.push k)) }) (fun _ _=>False) s')
 (fin:∀ e kl s',J e kl s'->kl.length=vs.length->Paired (TriAt s'.heap) kl xs/\∀ p:Array Nat,PmR vs.length p->UpTo (fun i=>rkT (xs.getD i (0,0,0))) p vs.length->P (.done (.ret .none)) { s' with heap:=(s'.heap.update (s.heap.objs.size+1) (Obj.mapSeq fun _=>#[])).update a (Obj.mapSeq fun _=>(p.toList.map fun i=>vs.getD i .none).toArray) }) :
 wpAny (model prog w) A (Builtin.«list.sort» ⟨[.ref a],[("key",.ref fa)]⟩) P E s:=by
 have ha:a<s.heap.objs.size:=Heap.lt_size ho
 have vz:vs.length≤sizeLine:=Nat.le_trans (Nat.le_of_lt h64) (by decide)
 rw [sort_keyed]
 refine wpAny_bind (listItems_at ho rfl ?_)
 refine wpAny_bind (listUpdate_at ho rfl ?_ (by rw [List.size_toArray];exact vz) (Nat.zero_le _))
 obtain ⟨e1,ho1⟩:∃ e1,(s.heap.update a (Obj.mapSeq fun _=>(#[]:Array Value))).get? a=some (seqObj "list" #[] e1):=⟨_,get?_update_seq ho fun _=>#[]⟩
 refine wpAny_bind (seqEpoch_at ho1 rfl ?_)
 refine wpAny_bind (wpAny_newTuple ?_ vz)
 refine wpAny_bind (wpAny_newList ?_ (Nat.zero_le _))
 dsimp only
 have hks:((s.heap.update a (Obj.mapSeq fun _=>(#[]:Array Value))).push { cls:=.type "tuple",data:=.seq vs.toArray.toList.toArray }).objs.size=s.heap.objs.size+1:=by rw [size_push',Heap.size_update]
 rw [hks]
 refine wpAny_holding (wpAny_bind (wpAny_rule ?_))
 show wpAny (model prog w) A _ P E { s with heap:=((s.heap.update a (Obj.mapSeq fun _=>(#[]:Array Value))).push (seqObj "tuple" vs.toArray 0)).push (seqObj "list" #[] 0) }
 refine wpAny_bind ?_
 rw [← Array.forIn_toList]
 refine forIn_inv (l:=vs) (fun i s'=>∃ kl,kl.length=i/\J e1 kl s') ?_ (fun s' j=>?_) 0 vs _ rfl (Nat.zero_le _) ⟨[],rfl,h0 e1 (Heap.get?_push_of_some _ (Heap.get?_push_of_some _ ho1))⟩
 ·rintro i x s' hxi ⟨kl,rfl,j⟩
  refine wpAny_bind (wpAny_attempt (wpAny_mono (step e1 kl x s' j hxi) (fun k s'' q=>?_) fun _ _ z=>z.elim))
  obtain ⟨⟨c,ec⟩,q⟩:=q
  have kz:kl.length<vs.length:=(List.getElem?_eq_some_iff.mp hxi).1
  refine wpAny_bind (listUpdate_at ec rfl ?_ (by rw [List.size_toArray];omega) (by rw [Array.size_push,List.size_toArray];omega))
  exact wpAny_pure ⟨rfl,kl++[k],by simp,q⟩
 ·obtain ⟨kl,hl,j⟩:=j
  obtain ⟨hA,c,hK⟩:=at_ e1 kl s' j
  obtain ⟨pt,go⟩:=fin e1 kl s' j hl
  refine wpAny_bind (listItems_at hK rfl ?_)
  have xl:xs.length=kl.length:=by omega
  have itz:(kl.toArray.zip vs.toArray).size=vs.length:=by simp [hl]
  have it1:∀ i,i<vs.length->(kas_item (kl.toArray.zip vs.toArray) i).1=kl.getD i .none:=fun i hi=>by
   unfold kas_item
   rw [Array.getD_eq_getD_getElem?,List.getD_eq_getElem?_getD]
   simp [hi,hl]
  have it2:∀ i,i<vs.length->(kas_item (kl.toArray.zip vs.toArray) i).2=vs.getD i .none:=fun i hi=>by
   unfold kas_item
   rw [Array.getD_eq_getD_getElem?,List.getD_eq_getElem?_getD]
   simp [hi,hl]
  have tail:∀ (st':SortSt) (p:Array Nat),arrOf st'=p.map (kas_item (kl.toArray.zip vs.toArray))->failedOf st'=none->PmR vs.length p->UpTo (fun i=>rkT (xs.getD i (0,0,0))) p vs.length->
   wpAny (model prog w) A (do
    Builtin.List.listUpdate (.ref (s.heap.objs.size+1)) fun _=>#[]
    letGo ((arrOf st').map (·.1)).toList (failedOf st').toList
    let touched:=(← seqEpoch a) != e1
    Builtin.List.listUpdate (.ref a) fun _=>(arrOf st').map (·.2)
    if let some e:=failedOf st' then rule "list.sort.comparison-raised";throw e
    if touched then rule "list.sort.modified";raiseError "ValueError" "list modified during sort"
    ret .none) P E s':=fun st' p ha' hf hp hu=>by
   have hpz:=hp.size
   have hout:(arrOf st').map (·.2)=(p.toList.map fun i=>vs.getD i .none).toArray:=by
    apply Array.toList_inj.mp
    rw [ha',Array.map_map,Array.toList_map]
    exact List.map_congr_left fun i hi=>it2 i (List.mem_range.mp ((List.Perm.mem_iff hp).mp hi))
   have ne:a≠s.heap.objs.size+1:=Nat.ne_of_lt (Nat.lt_succ_of_lt ha)
   refine wpAny_bind (listUpdate_at hK rfl ?_ (by rw [List.size_toArray];omega) (Nat.zero_le _))
   refine wpAny_bind (wpAny_letGo ?_)
   have hA2:(s'.heap.update (s.heap.objs.size+1) (Obj.mapSeq fun _=>(#[]:Array Value))).get? a=some (seqObj "list" #[] e1):=(Heap.get?_update_other _ _ (Ne.symm ne)).trans hA
   refine wpAny_bind (seqEpoch_at (s:={ s' with heap:=s'.heap.update (s.heap.objs.size+1) (Obj.mapSeq fun _=>#[]) }) hA2 rfl ?_)
   refine wpAny_bind (listUpdate_at (s:={ s' with heap:=s'.heap.update (s.heap.objs.size+1) (Obj.mapSeq fun _=>#[]) }) hA2 rfl ?_ (Nat.zero_le _) ?_)
   ·rw [hf,hout]
    simp only [bne_self_eq_false,Bool.false_eq_true,if_false]
    exact wpAny_pure (go p hp hu)
   ·rw [hout,List.size_toArray,List.length_map,Array.length_toList,hpz]
    omega
  by_cases h2:vs.length<2
  ·rw [if_pos (by simpa using h2),if_pos (by simpa using h2)]
   refine wpAny_bind (wpAny_pure ?_)
   refine wpAny_bind (wpAny_pure ?_)
   refine tail _ (List.range vs.length).toArray ?_ rfl (.refl _) (fun i k h3 h4=>by omega)
   have e:=kas_range (kl.toArray.zip vs.toArray)
   rw [itz] at e
   exact e.symm
  ·rw [if_neg (by simpa using h2),if_neg (by simpa using h2)]
   refine wpAny_bind (kind_tri pt fun f=>?_)
   have est:SortSt.mk' (tuples' f) (kl.toArray.zip vs.toArray) #[] 7 none=kas_st (tuples' f) (kl.toArray.zip vs.toArray) (List.range vs.length).toArray:=by
    have e:=kas_range (kl.toArray.zip vs.toArray)
    rw [itz] at e
    unfold kas_st
    rw [e]
   have pat:∀ i,i<vs.length->TriAt s'.heap (kl.getD i .none) (xs.getD i (0,0,0)):=fun i hi=>paired_getD pt i (by omega)
   have mem:∀ i,i<vs.length->xs.getD i (0,0,0)∈xs:=fun i hi=>by
    rw [List.getD_eq_getElem?_getD,List.getElem?_eq_getElem (by omega)]
    exact List.getElem_mem _
   have R:Rk vs.length (fun i=>rkT (xs.getD i (0,0,0))) (kas_cmp prog w A (tuples' f) (kl.toArray.zip vs.toArray)) s':=by
    refine ⟨fun i k hi hk e=>?_,fun i k C hi hk h=>?_⟩
    ·have e':=rkT_inj (ok _ (mem i hi)) (ok _ (mem k hk)) e
     exact nodup_getD nd (by omega) (by omega) e'
    ·unfold kas_cmp
     rw [it1 i hi,it1 k hk]
     exact keyLt_tri (pat i hi) (pat k hk) (ok _ (mem i hi)) (ok _ (mem k hk)) h
   have run:=kas_runs (E:=E) (prog:=prog) (w:=w) (A:=A) (κ:=tuples' f) (it:=kl.toArray.zip vs.toArray) (n:=vs.length) (s:=s') (Q:=fun _ st' s''=>s''=s'/\∃ p:Array Nat,arrOf st'=p.map (kas_item (kl.toArray.zip vs.toArray))/\failedOf st'=none/\PmR vs.length p/\UpTo (fun i=>rkT (xs.getD i (0,0,0))) p vs.length)
    (G:=fun p s''=>s''=s'/\PmR vs.length p/\UpTo (fun i=>rkT (xs.getD i (0,0,0))) p vs.length) (by omega) h64 (fun p' st' s'' a1 a2 a3 a4=>⟨a4.1,p',a2,a3,a4.2.1,a4.2.2⟩) (sort_wp R (by omega) fun p' hp hu=>⟨rfl,hp,hu⟩)
   rw [← est] at run
   refine wpAny_bind (wpAny_mono run ?_ fun _ _ e=>e)
   rintro ⟨⟨⟩,st'⟩ s'' ⟨rfl,p,b1,b2,b3,b4⟩
   exact tail st' p b1 b2 b3 b4
end
theorem args_sortedK (a v:Value):argsOk "sorted" ⟨[a],[("key",v)]⟩:=by unfold argsOk;kernel_rfl
theorem args_sortK (a v:Value):argsOk "list.sort" ⟨[a],[("key",v)]⟩:=by unfold argsOk;kernel_rfl
abbrev triV (x:Tri):List V:=[.int x.1,.int x.2.1,.int x.2.2]
theorem vals_refs:∀ {bs:List Addr} {us:List Value},Vals (bs.map V.ref) us->us=bs.map Value.ref
 |[],_,.nil=>rfl
 |b::bs,_,.cons r1 r=>by rw [vals_refs r,show _=Value.ref b from r1];rfl
theorem refs_vals:∀ bs:List Addr,Vals (bs.map V.ref) (bs.map Value.ref)
 |[]=>.nil
 |b::bs=>.cons rfl (refs_vals bs)
theorem vals_pick {xs:List V} {vs:List Value} (r:Vals xs vs):∀ p:List Nat,(∀ i∈p,i<xs.length)->Vals (p.map fun i=>xs.getD i .non) (p.map fun i=>vs.getD i .none)
 |[],_=>.nil
 | i::p,h=>by
   refine .cons ?_ (vals_pick r p fun j hj=>h j (List.mem_cons_of_mem _ hj))
   have go:∀ {xs:List V} {vs:List Value},Vals xs vs->∀ i,i<xs.length->RelV (xs.getD i .non) (vs.getD i .none):=fun r=>by
    intro i
    induction r generalizing i with
    |nil=>intro h;simp at h
    | cons r1 r ih=>
      intro h
      cases i with
      |zero=>exact r1
      |succ i=>exact ih i (by simpa using h)
   exact go r i (h i (List.mem_cons_self ..))
section
variable {X:Cx}
theorem sortedK_run {pins:List (Addr×Obj)} {σ:St} {H:Hp} {s:Shared} {p f:Addr} {xs:List V} {trs:List Tri} {Q:VK} (I:Inv X pins σ H s) (hq:SqL X.K H p xs) (h64:xs.length<64) (hx:trs.length=xs.length) (ok:∀ x∈trs,TrOk x) (nd:trs.Nodup)
 (KF:∀ (s':Shared) (H':Hp) (i:Nat) (x:V) (u:Value) (tr:Tri),Same H H'->Inv X pins σ H' s'->xs[i]?=some x->trs[i]?=some tr->RelV x u->wpAny (model X.prog X.w) X.A.in1.in1 (call (.ref f) [u]) (EP X pins σ fun v H''=>∃ b,v=.ref b/\H'' b=some (.tup (triV tr))/\Same H' H'') (fun _ _=>False) s')
 (q:∀ (o:List Nat) l H',o.Perm (List.range xs.length)->o.Pairwise (fun i j=>rkT (trs.getD i (0,0,0))<rkT (trs.getD j (0,0,0)))->H' l=some (.lst (o.map fun i=>xs.getD i .non))->H l=none->Same H H'->Q (.ref l) H') :
 wpAny (model X.prog X.w) X.A (call (.builtin "sorted") [.ref p] [("key",.ref f)]) (EP X pins σ Q) X.xe s:=by
 obtain ⟨vs,rv,pl,hz⟩:=I.list hq
 have vl:vs.length=xs.length:=rv.length.symm
 have vz:vs.length≤sizeLine:=by rw [vl];exact hz
 refine call_function_entry_kw kind_sorted plain_sorted entry_sorted (args_sortedK _ _) ?_
 unfold Builtin.«sorted»
 refine wpAny_bind (m:=checkCount "sorted" 1 1 _) (wpAny_pure ?_)
 refine wpAny_bind (collect_list pl.isList ?_ vz)
 have k1:∀ b o,s.heap.get? b=some o->((s.heap.push (seqObj "list" #[] 0)).update s.heap.objs.size (Obj.mapSeq (·++vs.toArray))).get? b=some o:=fun b o e=>(Heap.get?_update_other _ _ (Nat.ne_of_gt (Heap.lt_size e))).trans (Heap.get?_push_of_some _ e)
 have I1:=I.kept (t':=s.toks) k1
 have z1:((s.heap.push (seqObj "list" #[] 0)).update s.heap.objs.size (Obj.mapSeq (·++vs.toArray))).objs.size=s.heap.objs.size+1:=by rw [Heap.size_update,size_push']
 generalize ((s.heap.push (seqObj "list" #[] 0)).update s.heap.objs.size (Obj.mapSeq (·++vs.toArray)))=h1 at k1 I1 z1 ⊢
 refine wpAny_bind (wpAny_newList ?_ vz)
 have hoL:(h1.push (seqObj "list" vs.toArray 0)).get? h1.objs.size=some (seqObj "list" vs.toArray 0):=Heap.get?_push_size _ rfl
 show wpAny _ _ _ _ _ { s with heap:=h1.push (seqObj "list" vs.toArray 0) }
 refine wpAny_bind (wpAny_holding (wpAny_call_entry_kw slot_list_sort ⟨_,hoL,rfl⟩ entry_list_sort ?_ (args_sortK _ _)))
 have hLz:(h1.push (seqObj "list" vs.toArray 0)).objs.size=h1.objs.size+1:=size_push' ..
 generalize hhL:h1.push (seqObj "list" vs.toArray 0)=hL at hoL hLz ⊢
 have k2:∀ b o,h1.get? b=some o->hL.get? b=some o:=fun b o e=>by rw [← hhL];exact Heap.get?_push_of_some _ e
 have nL:H h1.objs.size=none:=I1.hok.fresh (Nat.le_refl _)
 have nT:H hL.objs.size=none:=I1.hok.fresh (by rw [hLz];exact Nat.le_succ _)
 have nK:H (hL.objs.size+1)=none:=I1.hok.fresh (by rw [hLz];exact Nat.le_succ_of_le (Nat.le_succ _))
 have LT:h1.objs.size≠hL.objs.size:=by rw [hLz];exact Nat.ne_of_lt (Nat.lt_succ_self _)
 have LK:h1.objs.size≠hL.objs.size+1:=by rw [hLz];exact Nat.ne_of_lt (Nat.lt_succ_of_lt (Nat.lt_succ_self _))
 have TK:hL.objs.size≠hL.objs.size+1:=Nat.ne_of_lt (Nat.lt_succ_self _)
 let H3:Nat->Hp:=fun e=>upd (upd (upd H h1.objs.size (lamO h1.objs.size (seqObj "list" #[] e))) hL.objs.size (.tup xs)) (hL.objs.size+1) (.lst [])
 have h3:∀ e b o,H b=some o->H3 e b=some o:=fun e b o eb=>by
  show upd _ _ _ b=some o
  rw [upd_ne (fun z=>by rw [z,nK] at eb;cases eb),upd_ne (fun z=>by rw [z,nT] at eb;cases eb),upd_ne (fun z=>by rw [z,nL] at eb;cases eb)]
  exact eb
 have h3L:∀ e,H3 e h1.objs.size=some (lamO h1.objs.size (seqObj "list" #[] e)):=fun e=>by
  show upd _ _ _ _=_
  rw [upd_ne LK,upd_ne LT,upd_same]
 refine sort_key (s:={ s with heap:=hL }) (xs:=trs) hoL (by omega) (by omega) ok nd (fun e kl s'=>∃ (bs:List Addr) (H':Hp),kl=bs.map Value.ref/\Inv X pins σ H' s'/\(∀ b o,b≠hL.objs.size+1->H3 e b=some o->H' b=some o)/\H' (hL.objs.size+1)=some (.lst (bs.map V.ref))/\∀ (i:Nat) b,bs[i]?=some b->∃ tr,trs[i]?=some tr/\H' b=some (.tup (triV tr))) ?_ ?_ ?_ ?_
 ·rintro e kl s' ⟨bs,H',rfl,J,kp,hK,hb⟩
  refine ⟨(J.hok _ _ (kp _ _ LK (h3L e))).1,?_⟩
  obtain ⟨_,its,n,r,_,g⟩:=J.lstM hK
  rw [vals_refs r] at g
  exact ⟨n,g⟩
 ·intro e he
  obtain ⟨e',ge⟩:∃ e',(hL.update h1.objs.size (Obj.mapSeq fun _=>(#[]:Array Value))).get? h1.objs.size=some (seqObj "list" #[] e'):=⟨_,get?_update_seq hoL fun _=>#[]⟩
  have ee:e'=e:=by
   have:=Heap.get?_push_of_some (seqObj "list" #[] 0) (Heap.get?_push_of_some (seqObj "tuple" vs.toArray 0) ge)
   rw [he] at this
   injection this with this
   injection this with _ _ this _
   injection this with _ this
   exact this.symm
  subst ee
  have I2:=I1.laid (a:=h1.objs.size) (o:=lamO h1.objs.size (seqObj "list" #[] e')) (h':=hL.update h1.objs.size (Obj.mapSeq fun _=>#[])) (t':=s.toks) (fun b o eb=>(Heap.get?_update_other _ _ (Nat.ne_of_gt (Heap.lt_size eb))).trans (k2 b o eb)) (Nat.le_refl _) (lamO_ok ge)
  have zz:(hL.update h1.objs.size (Obj.mapSeq fun _=>(#[]:Array Value))).objs.size=hL.objs.size:=Heap.size_update ..
  have I3:=I2.laid (a:=hL.objs.size) (o:=.tup xs) (h':=(hL.update h1.objs.size (Obj.mapSeq fun _=>#[])).push (seqObj "tuple" vs.toArray 0)) (t':=s.toks) (fun b o eb=>Heap.get?_push_of_some _ eb) (Nat.le_of_eq zz) (show ObjOk X.prog X.w _ _ _ (.tup xs) from ⟨hz,vs,rv,by rw [← zz];exact IsTup.new _ _⟩)
  have z3:((hL.update h1.objs.size (Obj.mapSeq fun _=>(#[]:Array Value))).push (seqObj "tuple" vs.toArray 0)).objs.size=hL.objs.size+1:=by rw [size_push',zz]
  have I4:=I3.laid (a:=hL.objs.size+1) (o:=.lst []) (h':=((hL.update h1.objs.size (Obj.mapSeq fun _=>#[])).push (seqObj "tuple" vs.toArray 0)).push (seqObj "list" #[] 0)) (t':=s.toks) (fun b o eb=>Heap.get?_push_of_some _ eb) (Nat.le_of_eq z3) (show ObjOk X.prog X.w _ _ _ (.lst []) from ⟨Nat.zero_le _,[],0,.nil,by rw [← z3];exact Heap.get?_push_size _ rfl⟩)
  exact ⟨[],_,rfl,I4,fun b o _ eb=>eb,upd_same,fun i b eb=>by simp at eb⟩
 ·rintro e kl u s' ⟨bs,H',rfl,J,kp,hK,hb⟩ hu
  rw [List.length_map] at hu
  have hi:bs.length<vs.length:=(List.getElem?_eq_some_iff.mp hu).1
  have sm:Same H H':=fun b o eb=>kp b o (fun z=>by rw [z,nK] at eb;cases eb) (h3 e b o eb)
  have rx:∃ x,xs[bs.length]?=some x/\RelV x u:=by
   have:=vals_pick rv [bs.length] (fun i hi'=>by simp at hi';omega)
   cases this with
   | cons r1 _=>
     refine ⟨_,List.getElem?_eq_getElem (show bs.length<xs.length by omega),?_⟩
     have e1:xs.getD bs.length .non=xs[bs.length]'(by omega):=by rw [List.getD_eq_getElem?_getD,List.getElem?_eq_getElem (show bs.length<xs.length by omega)];rfl
     have e2:vs.getD bs.length .none=u:=by rw [List.getD_eq_getElem?_getD,hu];rfl
     dsimp only at r1
     rw [e1,e2] at r1
     exact r1
  obtain ⟨x,ex,rx⟩:=rx
  have et:=List.getElem?_eq_getElem (show bs.length<trs.length by omega)
  refine wpAny_mono (KF s' H' bs.length x u _ sm J ex et rx) (fun k s'' z=>?_) fun _ _ z=>z
  obtain ⟨v,H'',J2,rv2,b,rfl,hbb,s2⟩:=z
  cases (show k=Value.ref b from rv2)
  have hK2:=s2 _ _ hK
  obtain ⟨_,its,n,r,_,g⟩:=J2.lstM hK2
  have ei:=vals_refs r
  rw [ei] at g r
  refine ⟨⟨n,g⟩,bs++[b],_,by rw [List.map_append];rfl,J2.lset (t':=s''.toks) (ys:=(bs++[b]).map V.ref) (its':=(bs++[b]).map Value.ref) hK2 g (by rw [List.push_toArray,List.map_append];rfl) (refs_vals _) (by rw [List.length_map,List.length_append,List.length_singleton];omega),fun c o nc ec=>?_,upd_same,fun j c ec=>?_⟩
  ·rw [upd_ne nc]
   exact s2 _ _ (kp c o nc ec)
  ·by_cases q:j<bs.length
   ·rw [List.getElem?_append_left q] at ec
    obtain ⟨tr,e1,e2⟩:=hb j c ec
    have e3:=s2 _ _ e2
    refine ⟨tr,e1,?_⟩
    rw [upd_ne (fun z=>by rw [z,hK2] at e3;cases e3)]
    exact e3
   ·rw [List.getElem?_append_right (by omega)] at ec
    obtain ⟨h5,rfl⟩:=List.getElem?_eq_some_iff.mp ec
    simp only [List.length_singleton] at h5
    obtain rfl:j=bs.length:=by omega
    refine ⟨_,et,?_⟩
    simp only [Nat.sub_self,List.getElem_cons_zero]
    rw [upd_ne (fun z=>by rw [z,hK2] at hbb;cases hbb)]
    exact hbb
 ·rintro e kl s' ⟨bs,H',rfl,J,kp,hK,hb⟩ hl
  rw [List.length_map] at hl
  have tri:∀ b (tr:Tri),H' b=some (.tup (triV tr))->TriAt s'.heap (.ref b) tr:=fun b tr eb=>by
   obtain ⟨its,r,ht,_⟩:=J.tuple (SqT.of eb)
   cases r with
   | cons r1 r=>
     cases r with
     | cons r2 r=>
       cases r with
       | cons r3 r=>
         cases r
         obtain ⟨t1,rfl⟩:=r1
         obtain ⟨t2,rfl⟩:=r2
         obtain ⟨t3,rfl⟩:=r3
         exact ⟨b,t1,t2,t3,rfl,ht⟩
  have pr:∀ (bs:List Addr) (ts:List Tri),bs.length=ts.length->(∀ (i:Nat) b,bs[i]?=some b->∃ tr,ts[i]?=some tr/\H' b=some (.tup (triV tr)))->Paired (TriAt s'.heap) (bs.map Value.ref) ts:=fun bs=>by
   induction bs with
   | nil=>
     intro ts hz _
     cases ts with
     |nil=>exact .nil
     |cons _ _=>simp at hz
   | cons b bs ih=>
     intro ts hz h
     cases ts with
     |nil=>simp at hz
     | cons t ts=>
       obtain ⟨tr,e1,e2⟩:=h 0 b rfl
       cases e1
       exact .cons (tri b t e2) (ih ts (by simpa using hz) fun i c ec=>by simpa using h (i+1) c (by simpa using ec))
  refine ⟨pr bs trs (by omega) hb,fun o ho hu=>⟨_,rfl,wpAny_pure ⟨_,rfl,?_⟩⟩⟩
  obtain ⟨_,its,n,r,_,g⟩:=J.lstM hK
  have J2:=J.lset (t':=s'.toks) (ys:=[]) (its':=[]) (f:=fun _=>#[]) hK g rfl .nil (Nat.zero_le _)
  have hL':=kp _ _ LK (h3L e)
  have hL2:upd H' (hL.objs.size+1) (.lst []) h1.objs.size=some (lamO h1.objs.size (seqObj "list" #[] e)):=by rw [upd_ne LK];exact hL'
  have gL:(s'.heap.update (hL.objs.size+1) (Obj.mapSeq fun _=>(#[]:Array Value))).get? h1.objs.size=some (seqObj "list" #[] e):=(Heap.get?_update_other _ _ (Ne.symm LK)).trans (J.hok _ _ hL').1
  have om:∀ i∈o.toList,i<xs.length:=fun i hi=>by
   have:=List.mem_range.mp ((List.Perm.mem_iff ho).mp hi)
   omega
  have oz:=ho.size
  have vo:=vals_pick rv o.toList om
  have ol:(o.toList.map fun i=>xs.getD i .non).length≤sizeLine:=by rw [List.length_map,Array.length_toList,oz,vl];exact hz
  have qL:=PySem.IsL.update gL (fun _=>(o.toList.map fun i=>vs.getD i .none).toArray)
  have J3:=J2.write (x:=h1.objs.size) (e:=h1.objs.size) (o:=.lst (o.toList.map fun i=>xs.getD i .non)) (h':=(s'.heap.update (hL.objs.size+1) (Obj.mapSeq fun _=>#[])).update h1.objs.size (Obj.mapSeq fun _=>(o.toList.map fun i=>vs.getD i .none).toArray)) (t':=s'.toks) (by rw [hL2];exact trivial) (.inl rfl) (fun b u hb' hu'=>(Heap.get?_update_other _ _ (Ne.symm hb')).trans hu') ⟨_,qL⟩ ⟨ol,_,_,vo,qL⟩
  refine ⟨.ref h1.objs.size,_,J3,rfl,q o.toList h1.objs.size _ (by rw [← vl];exact ho) ?_ upd_same nL fun b u eb=>?_⟩
  ·refine List.pairwise_iff_getElem.mpr fun i j hi hj hij=>?_
   have:=hu i j hij (by rw [← oz];simpa using hj)
   simp only [L2.vl] at this
   rw [getD_of (by simpa using hi),getD_of (by simpa using hj)] at this
   simpa using this
  ·rw [upd_ne (fun z=>by rw [z,nL] at eb;cases eb),upd_ne (fun z=>by rw [z,nK] at eb;cases eb)]
   exact kp b u (fun z=>by rw [z,nK] at eb;cases eb) (h3 e b u eb)
end
section
variable {P:Program} {w:World} {K:Frag} {mg:Str->Option Value} {base:Heap} {N:List Str} {qual pn:Str} {scope:Scope} {f:Addr} {cl:List (Str×Addr)} {A:Around} {outer:List Env} {s:Shared} {H:Hp} {E:XK}
theorem lam1 {σ:St} {fr:List Addr} {k:Nat} {name:Str} {params:Arguments} {body:Expr} {pm ctv:Value} {c':Addr} {Qv:VK} {t:TE} {x:V} {u:Value} (ho:H f=some (lamO f (kla_obj name qual params body scope cl pm c' ctv)))
 (hc:H c'=some (codeO c' qual)) (C:Clos scope cl N s.heap H fr σ) (hbind:∀ v,bindArgs (kla_fn name qual params body scope cl pm (.ref c') ctv) ⟨[v],[]⟩=pure [(pn,v)])
 (hpn:scope.names.lookup pn=some .local) (hnf:pn∉N) (hco:scope.isCoroutine=false) (hgen:scope.isGenerator=false) (hk:scope.kind=.function) (hcell:∀ x∈scope.names,x.2≠.cell)
 (hb:PE (cxLam P w K mg base (pn::N) qual scope f (.ref c') cl A outer s H E) body t) (hq:t (some x::σ) H Qv) (hr:Room (k+1) A) (e0:Env0 P w K mg base A outer s H) (r:RelV x u) :
 codeAny (model P w) A (.call (.ref f) ⟨[u],[]⟩) (CR (CX1 P w) outer P w H s Qv E) s:=by
 have lim:s.heap.NoLimit:=e0.mod.nolimit.keeps fun b o e=>(e0.bs b o e).1
 refine kla_callFunE hr.depth (e0.hok f _ ho).1 rfl hco hgen rfl (e0.hok c' _ hc).1 ?_
 rw [hbind]
 refine wpAny_pure (wpAny_newFunctionEnv hcell (fun y hy=>by simp at hy;rw [hy];exact hpn) (fun h₁ hns hsb=>⟨lim.fresh _ hsb,?_⟩) hk)
 show codeAny _ _ (.expr body (envX qual scope s.heap.objs.size f (.ref c') cl)) _ _
 have hk₁:∀ b o,s.heap.get? b=some o->h₁.get? b=some o:=fun b o e=>hsb.extBut b o (Nat.ne_of_lt (Heap.lt_size e)) (Heap.get?_push_of_some _ e)
 have isC:∀ x c v,cl.lookup x=some c->s.heap.IsCell c v->h₁.IsCell c v:=fun x c v e z=>by
  obtain ⟨o,ho,hd⟩:=z
  exact ⟨o,hk₁ _ _ ho,hd⟩
 have noA:∀ b:Addr,b∉([]:List Addr):=fun b z=>absurd z (by simp)
 have I:Inv (cxLam P w K mg base (pn::N) qual scope f (.ref c') cl A outer s H E) [] (some x::σ) H { s with heap:=h₁,toks:=s.toks+1 }:=by
  refine ⟨⟨e0.mod,hk,rfl,rfl,Nat.le_refl _,C.inj,fun y hy=>C.has y hy,fun y c z=>absurd z (by simp [cxLam]),fun _=>hr.hd,Around.frames_deeper e0.frames,.inr ⟨rfl,rfl⟩,fun b z=>absurd z (noA b),e0.bs,e0.bsz,fun b _ _=>noA b,fun b z=>absurd z (noA b),e0.funs,e0.frf⟩,
   rfl,e0.bare,Un.kept hk₁,⟨_,hns,fun i y v h1 h2 h3=>?_⟩,fun y c h=>?_,e0.hok.fresh (Nat.le_refl _),fun y c h=>(C.cell y c h).2.1,fun p hp=>absurd (show p∈([]:List (Addr×Obj)) from hp) (by simp),e0.hok.kept hk₁,by simp [cxLam,C.len]⟩
  ·cases i with
   | zero=>
     simp only [cxLam,List.getElem?_cons_zero] at h1 h2
     cases h1
     cases h2
     exact ⟨u,r,.inl ⟨hpn,by simp⟩⟩
   | succ i=>
     obtain ⟨fr',c,u,e,r,z⟩:=C.val i y v (by simpa [cxLam] using h1) (by simpa using h2)
     exact ⟨u,r,.inr ⟨.inr fr',c,e,isC y c _ e z⟩⟩
  ·obtain ⟨⟨v,z⟩,_⟩:=C.cell y c h
   exact ⟨v,isC y c v h z⟩
 exact kla_codeExpr (wpAny_mono (hb [] _ (some x::σ) H Qv I hq) (fun u s' ⟨v,H',J,rv,q⟩=>⟨v,H',J.os,J.bare,J.base,J.hok,rv,q⟩) fun _ _ y=>y)
end
section
variable {X:Cx}
def tSortK (X:Cx) (Pt:Addr) (params:Arguments) (body:Expr) (scope:Scope) (lp:Pos) (cl:List (Str×Addr)) (js:List Nat) (tb:TE) (t:TA):TE:=fun σ H Q=>t σ H fun vs H1=>TabOk H1 Pt lp (X.env.qual++"<lambda>")/\∀ c' H2,Lam H1 Pt lp (X.env.qual++"<lambda>") c' H2->∀ f H3,H2 f=none->(∃ ctv,H3=upd H2 f (lamO f (kla_obj "<lambda>" (X.env.qual++"<lambda>") params body scope cl ((X.mg "__name__").getD .none) c' ctv)))->
 ∃ (p:Addr) (xs:List V) (trs:List Tri),vs=[.ref p]/\SqL X.K H3 p xs/\xs.length<64/\trs.length=xs.length/\(∀ x∈trs,TrOk x)/\trs.Nodup/\
   (∀ (i:Nat) x tr H',Same H3 H'->xs[i]?=some x->trs[i]?=some tr->tb (some x::freeV js σ) H' fun v H''=>∃ b,v=.ref b/\H'' b=some (.tup (triV tr))/\Same H' H'')/\
   ∀ (o:List Nat) l H',o.Perm (List.range xs.length)->o.Pairwise (fun i j=>rkT (trs.getD i (0,0,0))<rkT (trs.getD j (0,0,0)))->H' l=some (.lst (o.map fun i=>xs.getD i .non))->H3 l=none->Same H3 H'->Q (.ref l) H'
theorem pe_sortedK {c Pt:Addr} {k:Nat} {e:Expr} {t:TA} {p kp pos:Pos} {params:Arguments} {body:Expr} {scope:Scope} {lp:Pos} {cl:List (Str×Addr)} {NL:List Str} {js:List Nat} {pn:Str} {tb:TE} (T:CodeTab X c Pt) (hr:Room (k+1) X.A.in1.in1) (ha:PA X [e] t) (hg:Gl X "sorted") (hm:X.mg "sorted" = none)
 (hdef:defaultsOf params X.env=([],[])) (hcf:closureFor scope X.env=pure cl) (hcl:∀ p∈cl,X.env.cells.lookup p.1=some p.2) (hfn:∀ x,X.fn x=true)
 (hhas:∀ p∈scope.names,(p.2=.cell∨p.2=.free)->p.1∈cl.map (·.1)) (hfree:∀ x∈NL,scope.names.lookup x=some .free) (hown:∀ x∈NL,X.env.scope.names.lookup x=some .cell) (hN:NL.map some=js.map fun j=>X.N[j]?) (hst:X.stack=X.env::X.outer) (hfm:X.env.frame=some X.env.locals)
 (hbind:∀ (f c':Addr) (ctv v:Value),bindArgs (kla_fn "<lambda>" (X.env.qual++"<lambda>") params body scope cl ((X.mg "__name__").getD .none) (.ref c') ctv) ⟨[v],[]⟩=pure [(pn,v)])
 (hpn:scope.names.lookup pn=some .local) (hnf:pn∉NL) (hco:scope.isCoroutine=false) (hgen:scope.isGenerator=false) (hk:scope.kind=.function) (hcell:∀ x∈scope.names,x.2≠.cell)
 (hb:∀ (f c':Addr) (A:Around) (outer:List Env) (s:Shared) (H:Hp),PE (cxLam X.prog X.w X.K X.mg X.base (pn::NL) (X.env.qual++"<lambda>") scope f (.ref c') cl A outer s H E0) body tb) (hstr:starEach [e] X.env=[(false,eval e X.env)]:=by rfl) :
 PE X (.Call (.Name "sorted" p) [e] [⟨some "key",.Lambda params body scope lp,kp⟩] pos) (tSortK X Pt params body scope lp cl js tb t):=by
 intro pins s σ H Q I h
 refine wpAny_Call_Name_kw (ld_blt I hg hm bt_sorted ?_ (by decide) (by decide))
 refine callWith_kw (thn (ha pos pins s σ H _ I h) fun us s1 ⟨vs,H1,I1,r1,q1⟩=>?_) (by rw [hstr];rfl) (by rw [hstr];rfl)
 obtain ⟨tk,q1⟩:=q1
 refine thn (pk_cons (nm:=some "key") (kpos:=kp) (pe_lam T hdef hcf) pk_nil pos pins s1 σ H1 (fun zs H3=>∃ c' H2 f,Lam H1 Pt lp (X.env.qual++"<lambda>") c' H2/\H2 f=none/\zs=[.ref f]/\∃ ctv,H3=upd H2 f (lamO f (kla_obj "<lambda>" (X.env.qual++"<lambda>") params body scope cl ((X.mg "__name__").getD .none) c' ctv))) I1 ⟨tk,fun c' H2 lm f ctv hf=>⟨c',H2,f,lm,hf,rfl,ctv,rfl⟩⟩) fun kvs s2 ⟨zs,H3,I2,r2,c',H2,f,lm,hf,ez,eH⟩=>?_
 subst ez
 obtain ⟨u,rfl,ru⟩:=vals1 r2
 cases (show u=Value.ref f from ru)
 obtain ⟨l,xs,trs,rfl,hq,h64,hx,ok,nd,hkey,fin⟩:=q1 c' H2 lm f H3 hf eH
 obtain ⟨u,rfl,ru⟩:=vals1 r1
 cases (show u=Value.ref l from ru)
 obtain ⟨ctv,eH⟩:=eH
 have hc2:H2 c'=some (codeO c' (X.env.qual++"<lambda>")):=by
  obtain ⟨ps,_,⟨_,_,_,rfl⟩|⟨_,e2,rfl⟩⟩:=lm
  ·exact upd_same
  ·exact e2
 have h3f:H3 f=some (lamO f (kla_obj "<lambda>" (X.env.qual++"<lambda>") params body scope cl ((X.mg "__name__").getD .none) c' ctv)):=by rw [eH];exact upd_same
 have h3c:H3 c'=some (codeO c' (X.env.qual++"<lambda>")):=by
  rw [eH,upd_ne (fun z=>by rw [z,hf] at hc2;cases hc2)]
  exact hc2
 refine sortedK_run I2 hq h64 hx ok nd (fun s' H' i x u tr sm J ex et rx=>?_) fun o l' H' a1 a2 a3 a4 a5=>fin o l' H' a1 a2 a3 a4 a5
 have e0:=J.env0
 have C:=clos_of J hcl hfn hhas hfree hown hN hst hfm
 refine wpAny_call (codeAny_mono (lam1 (E:=E0) (A:=X.A.in1.in1) (outer:=X.stack) (sm _ _ h3f) (sm _ _ h3c) C (hbind f c' ctv) hpn hnf hco hgen hk hcell (hb f c' _ _ _ _) (hkey i x tr H' sm ex et) hr ⟨by simpa using e0.frames,e0.mod,e0.bs,e0.bsz,e0.funs,e0.frf,e0.hok,e0.bare⟩ rx) fun z s'' hz=>?_)
 match z,hz with
 | .error e,hz=>
   obtain ⟨_,_,_,_,_,_,_,_,_,_,q⟩:=hz
   exact q.elim
 |.ok (.ret u),hz=>exact J.after hz
end
section
variable {prog:Program} {w:World} {A:Around} {E:Value->Shared->Prop} {s:Shared}
theorem TriAt.typeIs {v:Value} {x:Tri} (h:TriAt s.heap v x):s.TypeIs v "tuple":=by
 obtain ⟨b,t1,t2,t3,rfl,o,ho,hc,n,hd⟩:=h
 exact ⟨o,ho,hc⟩
theorem lt_tri_tree {x y:Value} {a b:Tri} {Q:PySem.Fin->Shared->Prop} (hx:TriAt s.heap x a) (hy:TriAt s.heap y b) (oa:TrOk a) (ob:TrOk b) (h:Q (.done (.ret (.bool (decide (rkT a<rkT b))))) s):wpAny (model prog w) A (Builtin.«tuple.__lt__» ⟨[x,y],[]⟩) Q E s:=by
 have hTb:=hy.typeIs
 obtain ⟨p,t1,t2,t3,rfl,op,hop,hcp,np,hdp⟩:=hx
 obtain ⟨q,u1,u2,u3,rfl,oq,hoq,hcq,nq,hdq⟩:=hy
 show wpAny _ _ (isInstance (.ref q) (.type "tuple") >>= _) _ _ s
 refine wpAny_bind (wpAny_isInstance hTb isSubtype_tuple_tuple ?_)
 simp only [Bool.not_true,Bool.false_eq_true,if_false]
 refine wpAny_bind (wpAny_tupleItemsOf hop hdp ?_)
 refine wpAny_bind (wpAny_tupleItemsOf hoq hdq ?_)
 simp only [List.zip_cons_cons,List.zip_nil_right,List.forIn_cons,List.forIn_nil]
 have h0:a=b->Q (.done (.ret (.bool false))) s:=fun e=>by
  rw [decide_eq_false (show ¬ rkT a<rkT b by rw [e];exact Int.lt_irrefl _)] at h
  exact h
 obtain ⟨a1,a2,a3⟩:=a
 obtain ⟨b1,b2,b3⟩:=b
 obtain ⟨⟨o1,o2⟩,o3,o4⟩:=oa
 obtain ⟨⟨o5,o6⟩,o7,o8⟩:=ob
 simp only [rkT] at h
 dsimp only at o1 o2 o3 o4 o5 o6 o7 o8 h ⊢
 have no:∀ {x y:Int},x≠y->(x == y)=false:=fun q=>by simpa using q
 refine wpAny_bind (wpAny_bind (wpAny_bind (wpAny_eqBool_int ?_)))
 by_cases c1:a1=b1
 ·rw [show (a1 == b1)=true by simpa using c1]
  refine wpAny_pure (wpAny_bind (wpAny_bind (wpAny_eqBool_int ?_)))
  by_cases c2:a2=b2
  ·rw [show (a2 == b2)=true by simpa using c2]
   refine wpAny_pure (wpAny_bind (wpAny_bind (wpAny_eqBool_int ?_)))
   by_cases c3:a3=b3
   ·rw [show (a3 == b3)=true by simpa using c3]
    exact wpAny_pure (wpAny_pure (wpAny_pure (h0 (by rw [c1,c2,c3]))))
   ·rw [no c3]
    refine wpAny_bind (wpAny_rule (wpAny_bind (PyProof.Rows.lt_int (wpAny_bind (wpAny_pure (wpAny_pure (wpAny_pure (wpAny_pure ?_))))))))
    rwa [show decide (a3<b3)=decide (a1*1000000000000+a2*1000000+a3<b1*1000000000000+b2*1000000+b3) by rw [decide_eq_decide];omega]
  ·rw [no c2]
   refine wpAny_bind (wpAny_rule (wpAny_bind (PyProof.Rows.lt_int (wpAny_bind (wpAny_pure (wpAny_pure (wpAny_pure (wpAny_pure ?_))))))))
   rwa [show decide (a2<b2)=decide (a1*1000000000000+a2*1000000+a3<b1*1000000000000+b2*1000000+b3) by rw [decide_eq_decide];omega]
 ·rw [no c1]
  refine wpAny_bind (wpAny_rule (wpAny_bind (PyProof.Rows.lt_int (wpAny_bind (wpAny_pure (wpAny_pure (wpAny_pure (wpAny_pure ?_))))))))
  rwa [show decide (a1<b1)=decide (a1*1000000000000+a2*1000000+a3<b1*1000000000000+b2*1000000+b3) by rw [decide_eq_decide];omega]
theorem lt_tri {x y:Value} {a b:Tri} {Q:Value->Shared->Prop} (hu:A.units<cLine) (hx:TriAt s.heap x a) (hy:TriAt s.heap y b) (oa:TrOk a) (ob:TrOk b) (h:Q (.bool (decide (rkT a<rkT b))) s):wpAny (model prog w) A (richCompare .Lt x y) Q E s:=
 wpAny_richCompare_same_room (op:=.Lt) hx.typeIs hy.typeIs PySem.F.slot_tuple_lt (wpAny_call_entry PySem.F.slot_tuple_lt hx.typeIs PySem.F.entry_tuple_lt (lt_tri_tree hx hy oa ob ⟨_,rfl,(fun e=>nomatch e),h⟩) (PySem.F.args_tuple_lt_2 _ _)) hu
abbrev KpS (wr:List Addr) (S:Addr) (h h':Heap):Prop:=∀ b o,b∉wr->b≠S->h.get? b=some o->h'.get? b=some o
def CmpAt (prog:Program) (w:World) (A:Around) (wr:List Addr) (S:Addr) (h1:Heap) (P:Nat->Value->Prop) (bt:Nat->Nat->Bool):Prop:=
 ∀ i j vi vj (s:Shared) (Q:Value->Shared->Prop) (E:Value->Shared->Prop),KpS wr S h1 s.heap->P i vi->P j vj->Q (.bool (bt i j)) s->wpAny (model prog w) A (richCompare .Lt vi vj) Q E s
theorem min_loopG {R:Result->Shared->Prop} {I:Addr} {fp wr:List Addr} {n:Nat} {P:Nat->Value->Prop} {St:Nat->Heap->Prop} (W:Walks prog w A.in1 I fp wr n P St) (bt:Nat->Nat->Bool) (S:Addr) (hSf:S∉fp) (h1:Heap) (hcmp:CmpAt prog w A.in1 wr S h1 P bt) :
 ∀ (k j:Nat) (s:Shared) (vb:Value) (c:Nat),n-(j+1)=k->j+1≤n->St (j+1) s.heap->KpS wr S h1 s.heap->P (argBest bt j) vb->s.heap.get? S=some { cls:=.type "list",dict:=none,data:=.seq #[vb,vb] c,slots:=#[] }->
 (∀ v h' tk,P (argBest bt (n-1)) v->KpS wr S s.heap h'->R (.ok (.ret v)) { s with heap:=h',toks:=tk })->
 codeAny (model prog w) A (.builtin "min.loop" ⟨[.ref I,.none,.ref S],[]⟩) R s:=by
 have hSw:S∉wr:=fun h=>hSf (W.sub _ h)
 have nm:(toString "min"++toString ".loop" : String) = "min.loop":=by decide
 intro k
 induction k with
 | zero=>
   intro j s vb c hk hj hst hg hPb hS hR
   have hin:j+1=n:=by omega
   refine codeAny_builtin PySem.F.entry_min_loop ?_
   rw [Around.under_plainId PySem.F.plain_min_loop _]
   show wpAny _ A.in1 (seqItems? (.ref S) >>= _) _ _ s
   refine wpAny_bind (wpAny_seqItems hS rfl ?_)
   show wpAny _ A.in1 (tryCatch (pyNext (.ref I)) _ >>= _) _ _ s
   refine wpAny_bind (wpAny_tryCatch (W.done s _ _ (hin ▸ hst) fun h' tk hk'=>?_))
   have hS':=hk' S _ hSw hS
   show wpAny _ A.in1 (updateSeq S (fun _=>#[]) >>= _) _ _ _
   refine wpAny_bind (wpAny_updateSeq hS' rfl (wpAny_bind (wpAny_letGo (wpAny_pure ?_))))
   exact hR vb _ tk (by rw [← hin];exact hPb) fun b o hbw hbS e=>(Heap.get?_update_other _ _ (Ne.symm hbS)).trans (hk' b o hbw e)
 | succ k ih=>
   intro j s vb c hk hj hst hg hPb hS hR
   have hlt:j+1<n:=by omega
   refine codeAny_builtin PySem.F.entry_min_loop ?_
   rw [Around.under_plainId PySem.F.plain_min_loop _]
   show wpAny _ A.in1 (seqItems? (.ref S) >>= _) _ _ s
   refine wpAny_bind (wpAny_seqItems hS rfl ?_)
   show wpAny _ A.in1 (tryCatch (pyNext (.ref I)) _ >>= _) _ _ s
   refine wpAny_bind (wpAny_tryCatch (W.item (j+1) s _ _ hlt hst fun v h' tk hP hst' hk'=>?_))
   have hS':=hk' S _ hSw hS
   have hg':KpS wr S h1 h':=fun b o x1 x2 e=>hk' b o x1 (hg b o x1 x2 e)
   show wpAny _ A.in1 (tryCatch (holding [v,v] (richCompare .Lt v vb >>= _)) _ >>= _) _ _ _
   refine wpAny_bind (wpAny_tryCatch (wpAny_holding (wpAny_bind (hcmp (j+1) (argBest bt j) v vb _ _ _ hg' hP hPb ?_))))
   refine wpAny_bind (wpAny_holding (wpAny_truthy_bool ?_))
   refine wpAny_bind (wpAny_letGo (wpAny_pure ?_))
   have other:∀ b o (f:Obj->Obj),b≠S->h'.get? b=some o->(h'.update S f).get? b=some o:=fun b o f hbS e=>(Heap.get?_update_other _ _ (Ne.symm hbS)).trans e
   cases hb:bt (j+1) (argBest bt j) with
   | true=>
     simp only [if_true]
     refine wpAny_bind (wpAny_updateSeq hS' rfl (wpAny_bind (wpAny_letGo ?_)))
     rw [nm]
     exact wpAny_pure ⟨plainId_quiet PySem.F.plain_min_loop _,ih (j+1) _ v _ (by omega) hlt (W.frame _ _ _ hst' fun b hbf o e=>other b o _ (fun h=>hSf (h ▸ hbf)) e) (fun b o x1 x2 e=>other b o _ x2 (hg' b o x1 x2 e)) (by simp only [argBest,hb,if_true];exact hP) (Heap.get?_update_self _ hS' rfl)
      fun v' h'' tk'' hP' hk''=>hR v' h'' tk'' hP' fun b o x1 x2 e=>hk'' b o x1 x2 (other b o _ x2 (hk' b o x1 e))⟩
   | false=>
     simp only [Bool.false_eq_true,if_false]
     refine wpAny_bind (wpAny_letGo ?_)
     rw [nm]
     exact wpAny_pure ⟨plainId_quiet PySem.F.plain_min_loop _,ih (j+1) _ vb c (by omega) hlt hst' hg' (by simp only [argBest,hb,Bool.false_eq_true,if_false];exact hPb) hS' fun v' h'' tk'' hP' hk''=>hR v' h'' tk'' hP' fun b o x1 x2 e=>hk'' b o x1 x2 (hk' b o x1 e)⟩
theorem paired_at {α β:Type} {R:α->β->Prop}:∀ {xs:List α} {ys:List β} {i:Nat} {x:α},Paired R xs ys->xs[i]?=some x->∃ y,ys[i]?=some y/\R x y
 |_,_,0,_,.cons h _,e=>⟨_,rfl,by cases e;exact h⟩
 |_,_,i+1,_,.cons _ t,e=>paired_at (i:=i) t (by simpa using e)
 |_,_,i,_,.nil,e=>by simp at e
theorem TriAt.keep {h h':Heap} {v:Value} {x:Tri} (t:TriAt h v x) (k:∀ b o,h.get? b=some o->h'.get? b=some o):TriAt h' v x:=by
 obtain ⟨b,t1,t2,t3,rfl,o,ho,r⟩:=t
 exact ⟨b,t1,t2,t3,rfl,o,k _ _ ho,r⟩
theorem min_tri {l:Addr} {vs:List Value} {ts:List Tri} {Q:Value->Shared->Prop} (hh:A.handled=none) (hu:A.in1.units<cLine) (hl:s.heap.IsList l vs.toArray) (hp:Paired (TriAt s.heap) vs ts) (ok:∀ t∈ts,TrOk t) (hne:0<vs.length)
 (h:∀ v h' tk,vs[argBest (fun i j=>decide (rkT (ts.getD i (0,0,0))<rkT (ts.getD j (0,0,0)))) (vs.length-1)]?=some v->(∀ b o,s.heap.get? b=some o->h'.get? b=some o)->Q v { s with heap:=h',toks:=tk }) :
 wpAny (model prog w) A (call (.builtin "min") [.ref l]) Q E s:=by
 have nm:(toString "min"++toString ".loop" : String) = "min.loop":=by decide
 have hlt:l<s.heap.objs.size:=by obtain ⟨_,e,_⟩:=hl;exact Heap.lt_size e
 refine call_function_tree PySem.F.kind_min PySem.F.plain_min PySem.F.entry_min (PySem.F.args_min1 _) ?_
 show wpAny _ A.in1 (Builtin.Builtins.bindParams "min" ["key","default"] 0 ⟨[],[]⟩ >>= _) _ _ s
 refine wpAny_bind (wpAny_of_eq (show Builtin.Builtins.bindParams "min" ["key","default"] 0 ⟨[],[]⟩=pure [none,none] from rfl) ?_)
 refine wpAny_bind (wpAny_pure ?_)
 refine wpAny_bind (wpAny_pyIter_list hl ?_)
 refine wpAny_bind (wpAny_newObj_type ?_)
 rw [nm]
 refine wpAny_pure ⟨plainId_quiet PySem.F.plain_min_loop _,?_⟩
 have hI:l≠s.heap.objs.size:=Nat.ne_of_lt hlt
 have W:=Walks.list (prog:=prog) (w:=w) (A:=A.in1) hh s.heap.objs.size l hI vs.toArray
 have k2:∀ b o,s.heap.get? b=some o->(s.heap.push { cls:=.type "list_iterator",data:=.fields #[.ref l,.int 0 0] }).get? b=some o:=fun b o e=>Heap.get?_push_of_some _ e
 have st2:(s.heap.push { cls:=.type "list_iterator",data:=.fields #[.ref l,.int 0 0] }).IsListIter s.heap.objs.size l 0/\(s.heap.push { cls:=.type "list_iterator",data:=.fields #[.ref l,.int 0 0] }).IsList l vs.toArray:=⟨⟨_,Heap.get?_push_size _ rfl,rfl,rfl⟩,hl.push _⟩
 have z2:(s.heap.push { cls:=.type "list_iterator",data:=.fields #[.ref l,.int 0 0] }).objs.size=s.heap.objs.size+1:=Heap.size_push ..
 generalize s.heap.push { cls:=.type "list_iterator",data:=.fields #[.ref l,.int 0 0] }=h2 at k2 st2 z2 ⊢
 have hS:(h2.push { cls:=.type "list",data:=.seq #[] }).get? h2.objs.size=some { cls:=.type "list",dict:=none,data:=.seq #[] 0,slots:=#[] }:=Heap.get?_push_size _ rfl
 have k3:∀ b o,h2.get? b=some o->(h2.push { cls:=.type "list",data:=.seq #[] }).get? b=some o:=fun b o e=>Heap.get?_push_of_some _ e
 generalize h2.push { cls:=.type "list",data:=.seq #[] }=h3 at hS k3 ⊢
 have st3:=W.frame _ _ h3 st2 fun b _ o e=>k3 b o e
 have hSf:h2.objs.size∉[s.heap.objs.size,l]:=fun hm=>by
  rw [z2] at hm
  rcases List.mem_cons.mp hm with e|hm
  ·exact Nat.succ_ne_self _ e
  ·have e:=List.mem_singleton.mp hm
   rw [← e] at hlt
   exact Nat.not_succ_lt_self hlt
 generalize h2.objs.size=S at hS hSf z2 ⊢
 have hSw:S∉[s.heap.objs.size]:=fun h=>hSf (W.sub _ h)
 have old:∀ {h'},KpS [s.heap.objs.size] S h3 h'->∀ b o,s.heap.get? b=some o->h'.get? b=some o:=fun k b o e=>by
  have lt:=Heap.lt_size e
  exact k b o (fun hm=>Nat.ne_of_lt lt (List.mem_singleton.mp hm)) (fun z=>Nat.lt_irrefl _ (Nat.lt_trans lt (by rw [z,z2];exact Nat.lt_succ_self _))) (k3 b o (k2 b o e))
 have hcmp:CmpAt prog w A.in1 [s.heap.objs.size] S h3 (fun i v=>vs.toArray[i]?=some v) (fun i j=>decide (rkT (ts.getD i (0,0,0))<rkT (ts.getD j (0,0,0)))):=fun i j vi vj s' Q' E' kp e1 e2 hq=>by
  obtain ⟨t1,g1,r1⟩:=paired_at hp (show vs[i]?=some vi by simpa using e1)
  obtain ⟨t2,g2,r2⟩:=paired_at hp (show vs[j]?=some vj by simpa using e2)
  refine lt_tri hu (r1.keep (old kp)) (r2.keep (old kp)) (ok _ (List.mem_of_getElem? g1)) (ok _ (List.mem_of_getElem? g2)) ?_
  dsimp only at hq
  rw [List.getD_eq_getElem?_getD,List.getD_eq_getElem?_getD,g1,g2] at hq
  exact hq
 have hn:0<vs.toArray.size:=by simpa using hne
 refine codeAny_builtin PySem.F.entry_min_loop ?_
 rw [Around.under_plainId PySem.F.plain_min_loop _]
 show wpAny _ A.in1 (seqItems? (.ref S) >>= _) _ _ _
 refine wpAny_bind (wpAny_seqItems hS rfl ?_)
 show wpAny _ A.in1 (tryCatch (pyNext (.ref s.heap.objs.size)) _ >>= _) _ _ _
 refine wpAny_bind (wpAny_tryCatch (W.item 0 _ _ _ hn st3 fun v h' tk hP hst' hk'=>?_))
 have hS':=hk' S _ hSw hS
 have other:∀ b o (f:Obj->Obj),b≠S->h'.get? b=some o->(h'.update S f).get? b=some o:=fun b o f hbS e=>(Heap.get?_update_other _ _ (Ne.symm hbS)).trans e
 show wpAny _ A.in1 (updateSeq S (fun _=>#[v,v]) >>= _) _ _ _
 refine wpAny_bind (wpAny_updateSeq hS' rfl ?_)
 rw [nm]
 refine wpAny_pure ⟨plainId_quiet PySem.F.plain_min_loop _,min_loopG W _ S hSf h3 hcmp _ 0 _ v _ rfl hn (W.frame _ _ _ hst' fun b hbf o e=>other b o _ (fun h=>hSf (h ▸ hbf)) e) (fun b o x1 x2 e=>other b o _ x2 (hk' b o x1 e)) hP (Heap.get?_update_self _ hS' rfl) fun v' h'' tk'' hP' hk''=>?_⟩
 exact h v' h'' tk'' (by simpa using hP') (old fun b o x1 x2 e=>hk'' b o x1 x2 (other b o _ x2 (hk' b o x1 e)))
end
section
variable {X:Cx} {K:PySem.W.Frag}
def TriIn (K:PySem.W.Frag) (H:Hp) (v:V) (t:Tri):Prop:=∃ b,v=.ref b/\SqT K H b (triV t)
def rMinT (K:PySem.W.Frag):List V->Hp->VK->Prop:=fun xs H Q=>∃ p vs ts,xs=[.ref p]/\SqL K H p vs/\Paired (TriIn K H) vs ts/\(∀ t∈ts,TrOk t)/\vs≠[]/\∀ (i:Nat) v t,vs[i]?=some v->ts[i]?=some t->(∀ t'∈ts,rkT t≤rkT t')->Q v H
theorem tri_vals {pins:List (Addr×Obj)} {σ:St} {H:Hp} {s:Shared} (I:Inv X pins σ H s):∀ {vs:List V} {us:List Value} {ts:List Tri},Vals vs us->Paired (TriIn X.K H) vs ts->Paired (TriAt s.heap) us ts
 |_,_,_,.nil,.nil=>.nil
 | _,_,_,.cons r rs,.cons ⟨b,e,h⟩ ps=>by
   subst e
   cases (show _=Value.ref b from r)
   refine .cons ?_ (tri_vals I rs ps)
   obtain ⟨its,r,ht,_⟩:=I.tuple h
   cases r with
   | cons r1 r=>
     cases r with
     | cons r2 r=>
       cases r with
       | cons r3 r=>
         cases r
         obtain ⟨t1,rfl⟩:=r1
         obtain ⟨t2,rfl⟩:=r2
         obtain ⟨t3,rfl⟩:=r3
         exact ⟨b,t1,t2,t3,rfl,ht⟩
theorem vals_at:∀ {vs:List V} {us:List Value} {i:Nat} {u:Value},Vals vs us->us[i]?=some u->∃ v,vs[i]?=some v/\RelV v u
 |_,_,0,_,.cons h _,e=>⟨_,rfl,by cases e;exact h⟩
 |_,_,i+1,_,.cons _ t,e=>vals_at (i:=i) t (by simpa using e)
 |_,_,i,_,.nil,e=>by simp at e
theorem call_minT (hK:X.K=K) (hc:X.calm=true) (hu:X.A.units+64<cLine):CallR X (.builtin "min") (rMinT K):=by
 subst hK
 intro pins s σ H xs us Q I r h
 obtain ⟨p,vs,ts,rfl,hq,ht,ok,hne,q⟩:=h
 obtain ⟨u,rfl,ru⟩:=vals1 r
 cases (show u=Value.ref p from ru)
 obtain ⟨its,rv,pl,hz⟩:=I.list hq
 have tr:=tri_vals I rv ht
 have l1:=rv.length
 have l2:=Paired.length ht
 have hpos:0<vs.length:=List.length_pos_iff.mpr hne
 refine min_tri (I.ok.hd hc) (by show X.A.units+1<_;omega) pl.isList tr ok (by omega) fun v h' tk hv k=>?_
 have hb:=argBest_lt (fun i=>rkT (ts.getD i (0,0,0))) (its.length-1)
 generalize argBest (fun i j=>decide (rkT (ts.getD i (0,0,0))<rkT (ts.getD j (0,0,0)))) (its.length-1)=m at hv hb
 obtain ⟨v',e',rel⟩:=vals_at rv hv
 obtain ⟨t,et,_⟩:=paired_at ht e'
 refine ⟨v',H,I.kept k,rel,q m v' t e' et fun t' ht'=>?_⟩
 obtain ⟨j,hj,rfl⟩:=List.getElem_of_mem ht'
 have:=hb.2 j (by omega)
 rw [List.getD_eq_getElem?_getD,List.getD_eq_getElem?_getD,et,List.getElem?_eq_getElem hj] at this
 exact this
end
end L2
namespace Bf
abbrev Tie:=Int×Int×Int
section
variable {ties:List Tie} {n:Nat} {a:Int} {s:St} {v:Int}
end
end Bf
namespace Bf
section
variable {ties:List Tie} {n:Nat} {a:Int} {s:St} {v:Int}
end
end Bf
namespace Cm
open PySem L2
def top (i:Nat):Stmt:=PySem.Challenge.pw_lanescribe_k28_rows_laid_into_one.main.body.getD i (.Pass ⟨0,0,0,0⟩)
def drK (c:Addr) (a r s:Int):List (Key×V):=[(.inr "cells",.ref c),(.inr "at",.int a),(.inr "rest",.int r),(.inr "seed",.int s)]
theorem pat {c:Addr} {a r s x:Int}:putK (drK c a r s) (.inr "at") (.int x)=drK c x r s:=by rfl
theorem prest {c:Addr} {a r s x:Int}:putK (drK c a r s) (.inr "rest") (.int x)=drK c a x s:=by rfl
theorem pseed {c:Addr} {a r s x:Int}:putK (drK c a r s) (.inr "seed") (.int x)=drK c a r x:=by rfl
theorem gcells {H:Hp} {p c:Addr} {a r s:Int} (h:H p=some (.dK (drK c a r s))):DGet H p (.str "cells") (some (.ref c)):=DGet.k (k:=Sum.inr "cells") h
theorem gat {H:Hp} {p c:Addr} {a r s:Int} (h:H p=some (.dK (drK c a r s))):DGet H p (.str "at") (some (.int a)):=DGet.k (k:=Sum.inr "at") h
theorem grest {H:Hp} {p c:Addr} {a r s:Int} (h:H p=some (.dK (drK c a r s))):DGet H p (.str "rest") (some (.int r)):=DGet.k (k:=Sum.inr "rest") h
theorem gseed {H:Hp} {p c:Addr} {a r s:Int} (h:H p=some (.dK (drK c a r s))):DGet H p (.str "seed") (some (.int s)):=DGet.k (k:=Sum.inr "seed") h
abbrev Big:Int:=2305843009213693951
structure Dr (H:Hp) (p c:Addr):Prop where
 ex:∃ (ns:List Int) (a r s:Int),H p=some (.dK (drK c a r s))/\H c=some (.lst (ns.map V.int))/\ns.length≤63/\0≤a/\a≤ns.length/\0≤r/\0≤s/\s<Big
theorem Dr.mono {H H':Hp} {p c:Addr} (d:Dr H p c) (h:Same H H'):Dr H' p c:=by
 obtain ⟨ns,a,r,s,h1,h2,k⟩:=d.ex
 exact ⟨ns,a,r,s,h _ _ h1,h _ _ h2,k⟩
theorem Dr.ne {H:Hp} {p c q:Addr} {o:HO} (d:Dr H p c) (h:H q=some o) (hd:∀ kvs,o≠.dK kvs):q≠p:=by
 obtain ⟨ns,a,r,s,h1,_⟩:=d.ex
 exact ne_of h h1 (hd _)
theorem Dr.put {H:Hp} {p c q:Addr} {o:HO} (d:Dr H p c) (h1:q≠p) (h2:q≠c):Dr (upd H q o) p c:=by
 obtain ⟨ns,a,r,s,e1,e2,k⟩:=d.ex
 exact ⟨ns,a,r,s,by rw [upd_ne h1.symm];exact e1,by rw [upd_ne h2.symm];exact e2,k⟩
theorem Dr.cell {H:Hp} {p c:Addr} (d:Dr H p c):∃ xs,H c=some (.lst xs):=by
 obtain ⟨ns,a,r,s,e1,e2,k⟩:=d.ex
 exact ⟨_,e2⟩
structure Txt (K:PySem.W.Frag) (mg:Str->Option Value):Prop where
 len:mg "len" = none
 range:mg "range" = none
 list:mg "list" = none
 tuple:mg "tuple" = none
 str:mg "str" = none
 bool:mg "bool" = none
 int:mg "int" = none
 min:mg "min" = none
 repr:mg "repr" = none
 all:mg "all" = none
 any:mg "any" = none
 isinstance:mg "isinstance" = none
section
variable {P:Program} {w:World} {K:PySem.W.Frag} {mg:Str->Option Value} {base:Heap}
def spBegin (K:PySem.W.Frag):Sp:=fun vs H Q _=>∃ (a:Addr) (ns:List Int),vs=[.ref a]/\SqL K H a (ns.map V.int)/\ns.length≤63/\∀ (p c:Addr) (H':Hp),Dr H' p c->Same H H'->H p=none->Q (.ref p) H'
theorem scB:FnScope ["_law_script","_law_seed","_law_cell"] ["_law_script"] (defScope (top 13)):=⟨rfl,rfl,rfl,by decide +kernel,rfl,by decide +kernel,by decide +kernel⟩
theorem ok_begin {f:Addr} {fd:FuncData} (F:Fun K "_law_begin" "_law_begin" (top 13) f fd) (T:Txt K mg):FnOk P w K mg base CX0 1 f fd ["_law_script"] (spBegin K):=by
 refine F.ok scB (fun vs H Q E h=>?_) (fun cdv A outer s H vs Q E hr h=>?_)
 ·obtain ⟨a,ns,rfl,_⟩:=h
  rfl
 ·obtain ⟨a,ns,rfl,hS,hlen,k⟩:=h
  refine ⟨_,(pss_cons (ps_set (i:=1) scB.nd rfl (Or.inl rfl) pe_int)
   (pss_cons (ps_for PassesOwn.never rfl (pi_list (pe_slice sl_list (pv 0) po_none (po_some pe_int))) (pg_name (i:=2) scB.nd rfl (Or.inl rfl))
    (pss_one (ps_set (i:=1) scB.nd rfl (Or.inl rfl) (pe_op op_mod (pe_op op_add (pe_op op_add (pe_op op_mul (pv 1) pe_int) (pe_op op_mul (pv 2) pe_int)) pe_int) pe_int))))
   (pss_one (ps_ret (pe_disp (pps_cons pe_str (pe_callTy call_list_of (by rfl) T.list bt_list (pa_cons (pe_slice sl_list (pv 0) po_none (po_some pe_int)) pa_nil)) (pps_cons pe_str pe_int (pps_cons pe_str pe_int (pps_cons pe_str (pv 1) pps_nil)))) rfl rfl (List.cons_ne_nil _ _) (by show 4≤15;decide)))))),?_⟩
  have hcut:cutV (ns.map V.int) none (some 63)=ns.map V.int:=by
   show ((ns.map V.int).drop (HT.sIx _ 0 none)).take (HT.sIx _ _ (some ((63:Nat):Int))-HT.sIx _ 0 none)=_
   rw [HT.sIx_none,HT.sIx_nat,List.drop_zero,Nat.sub_zero,List.take_of_length_le]
   rw [List.length_map];omega
  refine ⟨_,rfl,_,rfl,a,_,rfl,hS,fun q hq=>⟨q,rfl,⟨_,SqL.of upd_same⟩,?_⟩⟩
  rw [hcut]
  have hS':∀ o,SqL K (upd H q o) a (ns.map V.int):=fun o=>(show Same H (upd H q o) from fun b u e=>by rw [upd_ne (ne_of_none e hq)];exact e).seq hS
  refine for_list (K:=K) (a:=q) (xs:=ns.map V.int) (fun i σ H2=>∃ (z:Int) (v:Option V),σ=[some (.ref a),some (.int z),v]/\0≤z/\z<Big/\H2=upd H q (.lst (ns.map V.int)))
   ⟨20011,none,rfl,by decide,by decide,rfl⟩ (fun i σ H2 _ ⟨_,_,_,_,_,e⟩=>by rw [e];exact SqL.of upd_same) ?_ ?_
  ·rintro i y σ H2 hi ⟨z,v,rfl,h0,h1,rfl⟩
   obtain ⟨n,-,rfl⟩:=List.mem_map.mp (List.mem_of_getElem? hi)
   refine ⟨_,rfl,_,_,rfl,rfl,.inl ⟨by omega,by simp only [Big] at h1;omega⟩,_,rfl,_,_,rfl,rfl,.inr ⟨by decide,by decide⟩,_,_,rfl,rfl,_,_,rfl,rfl,_,_,rfl,rfl,(by show (0:Int)<2305843009213693951;decide),?_⟩
   exact ⟨_,_,rfl,Int.emod_nonneg _ (by decide),Int.emod_lt_of_pos _ (by decide),rfl⟩
  ·rintro σ H2 ⟨z,v,rfl,h0,h1,rfl⟩
   intro p hp
   have s1:Same H (upd (upd H q (.lst (ns.map V.int))) p (.dK [])):=(Same.new hq).trans (Same.new hp)
   refine ⟨_,rfl,_,rfl,a,_,rfl,s1.seq hS,fun q2 hq2=>⟨q2,_,rfl,.inl (SqL.of upd_same),fun l hl=>⟨_,rfl,?_,drK l 0 0 z,rfl,by show 4≤15;decide,?_⟩⟩⟩
   ·exact (Same.new hl) _ _ ((Same.new hq2) _ _ upd_same)
   ·rw [hcut]
    have hpl:(upd (upd (upd (upd H q (.lst (ns.map V.int))) p (.dK [])) q2 (.lst (ns.map V.int))) l (.lst (ns.map V.int))) p=some (.dK []):=(Same.new (by rw [hcut] at hl;exact hl)) _ _ ((Same.new hq2) _ _ upd_same)
    have hlp:l≠p:=ne_of upd_same hpl (by intro z;cases z)
    refine k p l _ ⟨ns,0,0,z,upd_same,by rw [upd_ne hlp];exact upd_same,hlen,by decide,by omega,by decide,h0,h1⟩ ?_ ((Same.new hq).free hp)
    intro b u e
    have e1:=((Same.new (q:=l) (o:=.lst (ns.map V.int)) (by rw [hcut] at hl;exact hl)) _ _ ((Same.new hq2) _ _ (s1 b u e)))
    rw [upd_ne (ne_of_none ((Same.new hq) b u e) hp)]
    exact e1
def spPick:Sp:=fun vs H Q _=>∃ (p c:Addr) (m:Int),vs=[.ref p,.int m]/\Dr H p c/\0<m/\m<340282366920938463463374607431768211456/\∀ (r:Int) (H':Hp),0≤r->r<m->Dr H' p c->But p H H'->Q (.int r) H'
theorem scP:FnScope ["_law_d","_law_many","_law_cell","_law_digit","_law_one"] ["_law_d","_law_many"] (defScope (top 14)):=⟨rfl,rfl,rfl,by decide +kernel,rfl,by decide +kernel,by decide +kernel⟩
theorem ok_pick {f:Addr} {fd:FuncData} (F:Fun K "_law_pick" "_law_pick" (top 14) f fd) (T:Txt K mg):FnOk P w K mg base CX0 1 f fd ["_law_d","_law_many"] spPick:=by
 refine F.ok scP (fun vs H Q E h=>?_) (fun cdv A outer s H vs Q E hr h=>?_)
 ·obtain ⟨p,c,m,rfl,_⟩:=h
  rfl
 ·obtain ⟨p,c,m,rfl,D,m0,m1,k⟩:=h
  have hu:=hu_of hr
  refine ⟨_,(pss_cons
 (ps_if (PW.pt (pw_and (pt_cmpR op_eq (pe_dget hu (pv 0) pe_str (fun _ _=>rfl)) pe_int (nomark _)) (pw_and1 (pt_cmpR op_lt (pe_dget hu (pv 0) pe_str (fun _ _=>rfl)) (pe_callB call_len_seq (by rfl) T.len bt_len (pa_cons (pe_dget hu (pv 0) pe_str (fun _ _=>rfl)) pa_nil)) (nomark _))))) (pss_cons
 (ps_set (i:=2) scP.nd rfl (Or.inl rfl) (pe_ix ix_list (pe_dget hu (pv 0) pe_str (fun _ _=>rfl)) (pe_dget hu (pv 0) pe_str (fun _ _=>rfl)) (fun _ _=>rfl)))
 (pss_cons
 (ps_dput hu (pv 0) pe_str (pe_op op_add (pe_dget hu (pv 0) pe_str (fun _ _=>rfl)) pe_int) rfl)
 (pss_one
 (ps_if (pt_cmpR op_ge (pv 2) (pe_op op_pow pe_int pe_int) (nomark _)) (pss_one
 (ps_dput hu (pv 0) pe_str (pv 2) rfl)) (pss_one
 (ps_dput hu (pv 0) pe_str (pe_op op_mod (pe_op op_add (pe_op op_add (pe_op op_mul (pe_dget hu (pv 0) pe_str (fun _ _=>rfl)) pe_int) (pe_op op_mul (pv 2) pe_int)) pe_int) pe_int) rfl)))))) pss_nil)
 (pss_cons
 (ps_if (pt_cmpR op_gt (pe_dget hu (pv 0) pe_str (fun _ _=>rfl)) pe_int (nomark _)) (pss_cons
 (ps_set (i:=3) scP.nd rfl (Or.inl rfl) (pe_op op_mod (pe_dget hu (pv 0) pe_str (fun _ _=>rfl)) (pv 1)))
 (pss_cons
 (ps_dput hu (pv 0) pe_str (pe_op op_fdivW (pe_dget hu (pv 0) pe_str (fun _ _=>rfl)) (pv 1)) rfl)
 (pss_one
 (ps_ret (pv 3))))) pss_nil)
 (pss_cons
 (ps_set (i:=4) scP.nd rfl (Or.inl rfl) (pe_op op_mod (pe_op op_mul (pe_dget hu (pv 0) pe_str (fun _ _=>rfl)) (pe_dget hu (pv 0) pe_str (fun _ _=>rfl))) pe_int))
 (pss_cons
 (ps_dput hu (pv 0) pe_str (pe_op op_mod (pe_op op_add (pe_op op_add (pe_op op_mul (pv 4) pe_int) (pe_op op_mul (pe_dget hu (pv 0) pe_str (fun _ _=>rfl)) pe_int)) pe_int) pe_int) rfl)
 (pss_one
 (ps_ret (pe_op op_mod (pe_op op_fdiv (pe_dget hu (pv 0) pe_str (fun _ _=>rfl)) pe_int) (pv 1)))))))),?_⟩
  obtain ⟨ns,a,r,sd,h1,h2,hl,a0,a1,r0,s0,s1⟩:=D.ex
  have npc:c≠p:=ne_of h2 h1 (by intro z;cases z)
  have small:∀ {x y z:Int},(drK c x y z).length<sizeLine:=fun {x y z}=>small1000 (by show 4≤1000;decide)
  refine seq_by (fun σ' H'=>∃ (a' r' sd':Int) (v:Option V),σ'=[some (.ref p),some (.int m),v,none,none]/\H' p=some (.dK (drK c a' r' sd'))/\But p H H'/\0≤a'/\a'≤ns.length/\0≤r'/\0≤sd'/\sd'<Big) ?_ ?_
  ·rintro σ' H1 ⟨a',r',sd',v,rfl,e1,bt,b0,b1,c0,d0,d1⟩
   have hc1:∀ o,(upd H1 p o) c=some (.lst (ns.map V.int)):=fun o=>by rw [upd_ne npc];exact bt c _ h2 npc
   refine ⟨_,rfl,p,_,rfl,grest e1,_,_,rfl,rfl,_,rfl,?_⟩
   refine ite2 (fun hpos=>?_) (fun _=>?_)
   ·refine ⟨_,rfl,p,_,rfl,grest e1,_,rfl,_,_,rfl,rfl,m0,?_⟩
    refine ⟨_,rfl,p,_,rfl,grest e1,_,rfl,_,_,rfl,rfl,⟨m0,m1⟩,_,rfl,p,_,rfl,DPut.k (k:=Sum.inr "rest") e1 small,_,rfl,?_⟩
    rw [prest]
    exact k _ _ (Int.emod_nonneg _ (by omega)) (Int.emod_lt_of_pos _ m0) ⟨ns,a',r' / m,sd',upd_same,hc1 _,hl,b0,b1,Int.ediv_nonneg c0 (by omega),d0,d1⟩ (bt.trans But.upd)
   ·have sq:CMul sd' sd':=.inl ⟨by omega,by simp only [Big] at d1;omega⟩
    refine ⟨_,rfl,p,_,rfl,gseed e1,_,rfl,p,_,rfl,gseed e1,_,_,rfl,rfl,sq,_,_,rfl,rfl,(by show (0:Int)<2305843009213693951;decide),?_⟩
    have u0:=Int.emod_nonneg (sd'*sd') (show (2305843009213693951:Int)≠0 by decide)
    have u1:=Int.emod_lt_of_pos (sd'*sd') (show (0:Int)<2305843009213693951 by decide)
    refine ⟨_,rfl,_,_,rfl,rfl,.inr ⟨by decide,by decide⟩,_,rfl,p,_,rfl,gseed e1,_,_,rfl,rfl,.inr ⟨by decide,by decide⟩,_,_,rfl,rfl,_,_,rfl,rfl,_,_,rfl,rfl,(by show (0:Int)<2305843009213693951;decide),_,rfl,p,_,rfl,DPut.k (k:=Sum.inr "seed") e1 small,?_⟩
    rw [pseed]
    generalize hsd:(sd'*sd' % 2305843009213693951*7+sd'*40503+12345) % 2305843009213693951=sn
    have v0:0≤sn:=hsd ▸ Int.emod_nonneg _ (by decide)
    have v1:sn<Big:=hsd ▸ Int.emod_lt_of_pos _ (by decide)
    refine ⟨_,rfl,p,_,rfl,gseed upd_same,_,_,rfl,rfl,⟨by decide,by decide⟩,_,rfl,_,_,rfl,rfl,m0,?_⟩
    exact k _ _ (Int.emod_nonneg _ (by omega)) (Int.emod_lt_of_pos _ m0) ⟨ns,a',r',sn,upd_same,hc1 _,hl,b0,b1,c0,v0,v1⟩ (bt.trans But.upd)
  ·intro N hN
   refine ⟨_,rfl,p,_,rfl,grest h1,rfl,_,rfl,?_⟩
   refine ite2 (fun hz=>?_) (fun _=>?_)
   ·refine ⟨_,rfl,p,_,rfl,gat h1,_,rfl,p,_,rfl,gcells h1,c,_,rfl,.inl (SqL.of h2),_,_,rfl,rfl,_,rfl,?_⟩
    rw [List.length_map]
    refine ite2 (fun hlt=>?_) (fun _=>?_)
    ·have hlt:a<ns.length:=of_decide_eq_true hlt
     obtain ⟨z,hz'⟩:∃ z,ns[a.toNat]?=some z:=⟨_,List.getElem?_eq_getElem (by omega)⟩
     have hat:atI (ns.map V.int) a=some (.int z):=by
      have e:(a:Int)=((a.toNat:Nat):Int):=by omega
      rw [e]
      refine atI_nat ?_
      rw [List.getElem?_map,hz'];rfl
     refine ⟨_,rfl,p,_,rfl,gcells h1,_,rfl,p,_,rfl,gat h1,c,_,_,_,rfl,rfl,SqL.of h2,hat,?_⟩
     refine ⟨_,rfl,p,_,rfl,gat h1,_,_,rfl,rfl,_,rfl,p,_,rfl,DPut.k (k:=Sum.inr "at") h1 small,?_⟩
     rw [pat]
     refine ⟨_,rfl,_,_,rfl,rfl,⟨by decide,by decide,by decide⟩,_,_,rfl,rfl,_,rfl,?_⟩
     refine ite2 (fun hge=>?_) (fun _=>?_)
     ·refine ⟨_,rfl,_,rfl,p,_,rfl,DPut.k (k:=Sum.inr "rest") upd_same small,?_⟩
      rw [prest]
      have hge:(10:Int) ^ 18≤z:=of_decide_eq_true hge
      exact hN _ _ ⟨a+1,z,sd,_,rfl,upd_same,But.upd.trans But.upd,by omega,by omega,by omega,s0,s1⟩
     ·refine ⟨_,rfl,p,_,rfl,gseed upd_same,_,_,rfl,rfl,.inr ⟨by decide,by decide⟩,_,rfl,_,_,rfl,rfl,.inr ⟨by decide,by decide⟩,_,_,rfl,rfl,_,_,rfl,rfl,_,_,rfl,rfl,(by show (0:Int)<2305843009213693951;decide),_,rfl,p,_,rfl,DPut.k (k:=Sum.inr "seed") upd_same small,?_⟩
      rw [pseed]
      exact hN _ _ ⟨a+1,r,_,_,rfl,upd_same,But.upd.trans But.upd,by omega,by omega,r0,Int.emod_nonneg _ (by decide),Int.emod_lt_of_pos _ (by decide)⟩
    ·exact hN _ _ ⟨a,r,sd,_,rfl,h1,But.refl,a0,a1,r0,s0,s1⟩
   ·exact hN _ _ ⟨a,r,sd,_,rfl,h1,But.refl,a0,a1,r0,s0,s1⟩
end
section
variable {P:Program} {w:World} {K:PySem.W.Frag} {mg:Str->Option Value} {base:Heap}
theorem Dr.dk {H:Hp} {p c:Addr} (d:Dr H p c):∃ kvs,H p=some (.dK kvs):=by
 obtain ⟨ns,a,r,s,h1,_⟩:=d.ex
 exact ⟨_,h1⟩
theorem Dr.seq {H H':Hp} {p c a:Addr} {xs:List V} (d:Dr H p c) (e:But p H H') (h:SqL K H a xs):SqL K H' a xs:=let ⟨_,hp⟩:=d.dk;e.seq hp h
theorem Dr.new {H:Hp} {p c q:Addr} {o:HO} (d:Dr H p c) (h:H q=none):Dr (upd H q o) p c:=d.mono (Same.new h)
def spOf (K:PySem.W.Frag):Sp:=fun vs H Q _=>∃ (p c q:Addr) (xs:List V),vs=[.ref p,.ref q]/\Dr H p c/\SqL K H q xs/\xs≠[]/\xs.length≤1000/\∀ (x:V) (H':Hp),x∈xs->Dr H' p c->But p H H'->Q x H'
theorem scO:FnScope ["_law_d","_law_things"] ["_law_d","_law_things"] (defScope (top 15)):=⟨rfl,rfl,rfl,by decide +kernel,rfl,by decide +kernel,by decide +kernel⟩
theorem ok_of {f fP:Addr} {fd fdP:FuncData} (F:Fun K "_law_of" "_law_of" (top 15) f fd) (T:Txt K mg) (DP:Def K mg "_law_pick" (top 14) ["_law_d","_law_many"] fP fdP):FnOk P w K mg base CX0 2 f fd ["_law_d","_law_things"] (spOf K):=by
 have GP:FnOk P w K mg base CX0 1 fP fdP ["_law_d","_law_many"] spPick:=ok_pick DP.F T
 refine F.ok scO (fun vs H Q E h=>?_) (fun cdv A outer s H vs Q E hr h=>?_)
 ·obtain ⟨p,c,q,xs,rfl,_⟩:=h
  rfl
 ·obtain ⟨p,c,q,xs,rfl,D,hq,hne,hl,k⟩:=h
  refine ⟨_,(pss_one (ps_ret (pe_ix ix_list (pv 1) (pe_call GP hr rfl DP.mg DP.F.kp DP.b .nil pass0 (pa_cons (pv 0) (pa_cons (pe_callB call_len_seq (by rfl) T.len bt_len (pa_cons (pv 1) pa_nil)) pa_nil))) (fun _ _=>rfl)))),?_⟩
  have hpos:0<xs.length:=List.length_pos_iff.mpr hne
  refine ⟨_,rfl,_,rfl,_,rfl,q,xs,rfl,(.inl hq),p,c,_,rfl,D,by omega,by omega,fun r H' r0 r1 D' bt=>?_⟩
  obtain ⟨j,rfl⟩:=Int.eq_ofNat_of_zero_le r0
  have hx:j<xs.length:=by omega
  exact ⟨q,xs,_,xs[j],rfl,rfl,D.seq bt hq,atI_nat (List.getElem?_eq_getElem hx),k _ _ (List.getElem_mem hx) D' bt⟩
def spS (K:PySem.W.Frag):Nat->Sp
 |0=>fun _ _ _ _=>False
 |n+1=>fun vs H Q _=>∃ (x y:V) (d:PyData),vs=[x,y]/\Rep K H x d/\Rep K H y d/\pdDep d≤n/\pdMax d≤100000/\∀ H':Hp,Same H H'->Q (.bl true) H'
theorem scS:FnScope ["_law_found","_law_due"] ["_law_found","_law_due"] (defScope (top 17)):=⟨rfl,rfl,rfl,by decide +kernel,rfl,by decide +kernel,by decide +kernel⟩
theorem bl_true {Q:VK} {v:V} {H:Hp} (h:Q (.bl true) H):Q (.bl (decide (v=v))) H:=by rw [decide_eq_true rfl];exact h
theorem ok_same {f:Addr} {fd:FuncData} (DS:Def K mg "_law_same" (top 17) ["_law_found","_law_due"] f fd) (T:Txt K mg) (n:Nat):FnOk P w K mg base CX0 n f fd ["_law_found","_law_due"] (spS K n):=by
 refine Nat.rec (motive:=fun n=>FnOk P w K mg base CX0 n f fd ["_law_found","_law_due"] (spS K n)) ⟨fun _ _ _ _ h=>h.elim,fun _ _ _ _ _ _ _ _ _ _ _ _ _ h=>h.elim⟩ (fun n GS=>?_) n
 refine DS.F.ok scS (fun vs H Q E h=>?_) (fun cdv A outer s H vs Q E hr h=>?_)
 ·obtain ⟨x,y,d,rfl,_⟩:=h
  rfl
 ·obtain ⟨x,y,d,rfl,hx,hy,hn,hm,k⟩:=h
  refine ⟨_,(pss_cons
 (ps_if (pt_cmpR op_isN (pv 1) pe_non (nomark _)) (pss_one
 (ps_ret (pe_cmpR op_isN (pv 0) pe_non (nomark _)))) pss_nil)
 (pss_cons
 (ps_if (PW.pt (pw_or (pt_val (pe_callB call_isT (by rfl) T.isinstance bt_isinstance (pa_cons (pv 1) (pa_cons (pe_ty rfl T.bool bt_bool) pa_nil)))) (pw_or1 (pt_val (pe_callB call_isT (by rfl) T.isinstance bt_isinstance (pa_cons (pv 0) (pa_cons (pe_ty rfl T.bool bt_bool) pa_nil))))))) (pss_one
 (ps_ret (pe_and (pe_callB call_isT (by rfl) T.isinstance bt_isinstance (pa_cons (pv 1) (pa_cons (pe_ty rfl T.bool bt_bool) pa_nil))) (pe_and (pe_callB call_isT (by rfl) T.isinstance bt_isinstance (pa_cons (pv 0) (pa_cons (pe_ty rfl T.bool bt_bool) pa_nil))) (pe_one (pe_cmpR op_eq (pv 0) (pv 1) (nomark _))))))) pss_nil)
 (pss_cons
 (ps_if (pt_val (pe_callB call_isT2 (by rfl) T.isinstance bt_isinstance (pa_cons (pv 1) (pa_cons (pe_tup (pa_cons (pe_ty rfl T.int bt_int) (pa_cons (pe_ty rfl T.str bt_str) pa_nil))) pa_nil)))) (pss_one
 (ps_ret (pe_and (pe_callB call_isT2 (by rfl) T.isinstance bt_isinstance (pa_cons (pv 0) (pa_cons (pe_tup (pa_cons (pe_ty rfl T.int bt_int) (pa_cons (pe_ty rfl T.str bt_str) pa_nil))) pa_nil))) (pe_and (pe_cmpR op_eq (pe_callB call_isT (by rfl) T.isinstance bt_isinstance (pa_cons (pv 0) (pa_cons (pe_ty rfl T.int bt_int) pa_nil))) (pe_callB call_isT (by rfl) T.isinstance bt_isinstance (pa_cons (pv 1) (pa_cons (pe_ty rfl T.int bt_int) pa_nil))) (nomark _)) (pe_one (pe_cmpR op_eq (pv 0) (pv 1) (nomark _))))))) pss_nil)
 (pss_cons
 (ps_if (PW.pt (pw_or (pt_cmpR op_ne (pe_callB call_isT (by rfl) T.isinstance bt_isinstance (pa_cons (pv 1) (pa_cons (pe_ty rfl T.list bt_list) pa_nil))) (pe_callB call_isT (by rfl) T.isinstance bt_isinstance (pa_cons (pv 0) (pa_cons (pe_ty rfl T.list bt_list) pa_nil))) (nomark _)) (pw_or1 (pt_cmpR op_ne (pe_callB call_isT (by rfl) T.isinstance bt_isinstance (pa_cons (pv 1) (pa_cons (pe_ty rfl T.tuple bt_tuple) pa_nil))) (pe_callB call_isT (by rfl) T.isinstance bt_isinstance (pa_cons (pv 0) (pa_cons (pe_ty rfl T.tuple bt_tuple) pa_nil))) (nomark _))))) (pss_one
 (ps_ret pe_bl)) pss_nil)
 (pss_one
 (ps_ret (pe_and (pe_cmpR op_eq (pe_callB call_len_seq (by rfl) T.len bt_len (pa_cons (pv 0) pa_nil)) (pe_callB call_len_seq (by rfl) T.len bt_len (pa_cons (pv 1) pa_nil)) (nomark _)) (pe_one (pe_callB (call_allB rfl) (by rfl) T.all bt_all (pa_cons (pe_comp (own:=["_law_k"]) (js:=[0,1]) (N':=["_law_k","_law_found","_law_due"]) (CompScope.of (osc:=defScope (top 17)) (N:=["_law_found","_law_due"]) rfl rfl ⟨rfl,by decide +kernel,by decide +kernel,by decide +kernel,rfl,by decide +kernel⟩) rfl (pi_range1 rfl T.range (pa_cons (pe_callB call_len_seq (by rfl) T.len bt_len (pa_cons (pv 1) pa_nil)) pa_nil)) (fun _ _ _ _ _=>(pg_name (i:=0) (show List.Nodup (["_law_k","_law_found","_law_due"]:List Str) by decide +kernel) rfl (Or.inl rfl) (Or.inr rfl))) (fun _ _ _ _ _=>pifs_nil) (fun _ _ _ _ _=>(pe_call GS hr rfl DS.mg DS.F.kp DS.b .nil pass0 (pa_cons (pe_ix (r:=rIx K) ix_seq (pv 1) (pv 0) (fun _ _=>rfl)) (pa_cons (pe_ix (r:=rIx K) ix_seq (pv 2) (pv 0) (fun _ _=>rfl)) pa_nil))))) pa_nil)))))))))),?_⟩
  have z2:2≤sizeLine:=by decide
  cases hx with
  | non=>
    cases hy
    refine ⟨_,rfl,rfl,_,rfl,ifT rfl ?_⟩
    exact ⟨_,rfl,rfl,k _ (Same.refl _)⟩
  | bl b=>
    cases hy
    refine ⟨_,rfl,rfl,_,rfl,ifF rfl ?_⟩
    refine ⟨_,rfl,_,_,_,_,rfl,(.bl b),rfl,_,rfl,ifT rfl (ifT rfl ?_)⟩
    exact ⟨_,rfl,_,_,_,_,rfl,(.bl b),rfl,_,rfl,ifT rfl ⟨_,rfl,_,_,_,_,rfl,(.bl b),rfl,_,rfl,ifT rfl ⟨_,rfl,_,rfl,rfl,bl_true (k _ (Same.refl _))⟩⟩⟩
  | int i=>
    cases hy
    refine ⟨_,rfl,rfl,_,rfl,ifF rfl ?_⟩
    refine ⟨_,rfl,_,_,_,_,rfl,(.int i),rfl,_,rfl,ifF rfl ?_⟩
    refine ⟨_,rfl,_,_,_,_,rfl,(.int i),rfl,_,rfl,ifF rfl ?_⟩
    refine ⟨_,rfl,z2,fun p hp=>⟨_,p,_,_,_,_,rfl,upd_same,.int i,rfl,_,rfl,ifT rfl ?_⟩⟩
    refine ⟨_,rfl,z2,fun p2 hp2=>⟨_,p2,_,_,_,_,rfl,upd_same,.int i,rfl,_,rfl,ifT rfl ?_⟩⟩
    refine ⟨_,rfl,_,_,_,_,rfl,.int i,rfl,_,rfl,_,_,_,_,rfl,.int i,rfl,rfl,_,rfl,?_⟩
    exact ifT rfl ⟨_,rfl,_,rfl,rfl,bl_true (k _ ((Same.new hp).trans (Same.new hp2)))⟩
  | str z=>
    cases hy
    refine ⟨_,rfl,rfl,_,rfl,ifF rfl ?_⟩
    refine ⟨_,rfl,_,_,_,_,rfl,(.str z),rfl,_,rfl,ifF rfl ?_⟩
    refine ⟨_,rfl,_,_,_,_,rfl,(.str z),rfl,_,rfl,ifF rfl ?_⟩
    refine ⟨_,rfl,z2,fun p hp=>⟨_,p,_,_,_,_,rfl,upd_same,.str z,rfl,_,rfl,ifT rfl ?_⟩⟩
    refine ⟨_,rfl,z2,fun p2 hp2=>⟨_,p2,_,_,_,_,rfl,upd_same,.str z,rfl,_,rfl,ifT rfl ?_⟩⟩
    refine ⟨_,rfl,_,_,_,_,rfl,.str z,rfl,_,rfl,_,_,_,_,rfl,.str z,rfl,rfl,_,rfl,?_⟩
    exact ifT rfl ⟨_,rfl,_,rfl,rfl,bl_true (k _ ((Same.new hp).trans (Same.new hp2)))⟩
  | tup g rs=>
    cases hy with
    | tup g2 rs2=>
      rename_i a1 xs1 ds a2 xs2
      refine ⟨_,rfl,rfl,_,rfl,ifF rfl ?_⟩
      refine ⟨_,rfl,_,_,_,_,rfl,(.tup g2 rs2),rfl,_,rfl,ifF rfl ?_⟩
      refine ⟨_,rfl,_,_,_,_,rfl,(.tup g rs),rfl,_,rfl,ifF rfl ?_⟩
      refine ⟨_,rfl,z2,fun p hp=>⟨_,p,_,_,_,_,rfl,upd_same,Rep.same (.tup g2 rs2) (Same.new hp),rfl,_,rfl,ifF rfl ?_⟩⟩
      have s1:Same H (upd H p (.tup [.ty "int",.ty "str"])):=Same.new hp
      refine ⟨_,rfl,_,_,_,_,rfl,(Rep.same (.tup g2 rs2) s1),rfl,_,rfl,_,_,_,_,rfl,(Rep.same (.tup g rs) s1),rfl,rfl,_,rfl,ifF rfl ?_⟩
      refine ⟨_,rfl,_,_,_,_,rfl,(Rep.same (.tup g2 rs2) s1),rfl,_,rfl,_,_,_,_,rfl,(Rep.same (.tup g rs) s1),rfl,rfl,_,rfl,ifF rfl ?_⟩
      refine ⟨_,rfl,_,_,rfl,.inr (s1.tup g),_,rfl,_,_,rfl,.inr (s1.tup g2),rfl,_,rfl,?_⟩
      have l1:=rs.length
      have l2:=rs2.length
      have hm':xs2.length≤100000:=by simp only [pdMax] at hm;omega
      have hl:xs1.length=xs2.length:=by omega
      generalize upd H p (.tup [.ty "int",.ty "str"])=H1 at s1 ⊢
      refine ifT (by rw [hl];simp) ?_
      obtain ⟨n,rfl⟩:∃ n',n=n'+1:=⟨n-1,by simp only [pdDep] at hn;omega⟩
      refine ⟨_,rfl,_,_,rfl,.inr (s1.tup g2),_,rfl,by omega,by omega,?_⟩
      refine comp_range (n:=xs2.length) (fun i ys σ' H'=>∃ (v:Option V),ys=(List.replicate i true).map V.bl/\σ'=[v,some _,some _]/\Same H1 H') (by exact Nat.le_trans hm' (by decide)) ⟨none,rfl,rfl,Same.refl _⟩ ?_ ?_
      ·rintro i ys σ' H' hi hys ⟨v,rfl,rfl,s2⟩ N hN
       obtain ⟨d1,e1,r1⟩:=rs.get' (i:=i) (x:=xs1[i]) (List.getElem?_eq_getElem (by omega))
       obtain ⟨d2,e2,r2⟩:=rs2.get' (i:=i) (x:=xs2[i]) (List.getElem?_eq_getElem hi)
       rw [e1] at e2
       cases e2
       have m1:=List.mem_of_getElem? e1
       have q1:=pdDep_le m1
       have q2:=pdMax_le m1
       have at1:atI xs1 (0+(i:Int))=some xs1[i]:=by rw [Int.zero_add];exact atI_nat (List.getElem?_eq_getElem (by omega))
       have at2:atI xs2 (0+(i:Int))=some xs2[i]:=by rw [Int.zero_add];exact atI_nat (List.getElem?_eq_getElem hi)
       refine ⟨_,rfl,_,rfl,.inr (.inl ⟨_,_,_,_,rfl,rfl,(s1.trans s2).tup g,at1,?_⟩)⟩
       refine ⟨_,rfl,_,rfl,.inr (.inl ⟨_,_,_,_,rfl,rfl,(s1.trans s2).tup g2,at2,?_⟩)⟩
       refine ⟨_,_,d1,rfl,r1.same (s1.trans s2),r2.same (s1.trans s2),?_,?_,fun H'' s3=>?_⟩
       ·simp only [pdDep] at hn;omega
       ·simp only [pdMax] at hm;omega
       exact hN _ _ _ (by simp) ⟨_,by rw [List.replicate_succ',List.map_append];rfl,rfl,s2.trans s3⟩
      ·rintro ys σ' H' hys ⟨v,rfl,rfl,s2⟩
       refine ⟨by rw [List.length_map,List.length_replicate];exact Nat.le_trans hm' (by decide),fun q hq=>⟨q,_,rfl,SqL.of upd_same,?_⟩⟩
       show Q (.bl ((List.replicate xs2.length true).all id)) _
       rw [show (List.replicate xs2.length true).all id=true by simp]
       exact k _ ((s1.trans s2).trans (Same.new hq))
  | lst g rs=>
    cases hy with
    | lst g2 rs2=>
      rename_i a1 xs1 ds a2 xs2
      refine ⟨_,rfl,rfl,_,rfl,ifF rfl ?_⟩
      refine ⟨_,rfl,_,_,_,_,rfl,(.lst g2 rs2),rfl,_,rfl,ifF rfl ?_⟩
      refine ⟨_,rfl,_,_,_,_,rfl,(.lst g rs),rfl,_,rfl,ifF rfl ?_⟩
      refine ⟨_,rfl,z2,fun p hp=>⟨_,p,_,_,_,_,rfl,upd_same,Rep.same (.lst g2 rs2) (Same.new hp),rfl,_,rfl,ifF rfl ?_⟩⟩
      have s1:Same H (upd H p (.tup [.ty "int",.ty "str"])):=Same.new hp
      refine ⟨_,rfl,_,_,_,_,rfl,(Rep.same (.lst g2 rs2) s1),rfl,_,rfl,_,_,_,_,rfl,(Rep.same (.lst g rs) s1),rfl,rfl,_,rfl,ifF rfl ?_⟩
      refine ⟨_,rfl,_,_,_,_,rfl,(Rep.same (.lst g2 rs2) s1),rfl,_,rfl,_,_,_,_,rfl,(Rep.same (.lst g rs) s1),rfl,rfl,_,rfl,ifF rfl ?_⟩
      refine ⟨_,rfl,_,_,rfl,.inl (s1.seq g),_,rfl,_,_,rfl,.inl (s1.seq g2),rfl,_,rfl,?_⟩
      have l1:=rs.length
      have l2:=rs2.length
      have hm':xs2.length≤100000:=by simp only [pdMax] at hm;omega
      have hl:xs1.length=xs2.length:=by omega
      generalize upd H p (.tup [.ty "int",.ty "str"])=H1 at s1 ⊢
      refine ifT (by rw [hl];simp) ?_
      obtain ⟨n,rfl⟩:∃ n',n=n'+1:=⟨n-1,by simp only [pdDep] at hn;omega⟩
      refine ⟨_,rfl,_,_,rfl,.inl (s1.seq g2),_,rfl,by omega,by omega,?_⟩
      refine comp_range (n:=xs2.length) (fun i ys σ' H'=>∃ (v:Option V),ys=(List.replicate i true).map V.bl/\σ'=[v,some _,some _]/\Same H1 H') (by exact Nat.le_trans hm' (by decide)) ⟨none,rfl,rfl,Same.refl _⟩ ?_ ?_
      ·rintro i ys σ' H' hi hys ⟨v,rfl,rfl,s2⟩ N hN
       obtain ⟨d1,e1,r1⟩:=rs.get' (i:=i) (x:=xs1[i]) (List.getElem?_eq_getElem (by omega))
       obtain ⟨d2,e2,r2⟩:=rs2.get' (i:=i) (x:=xs2[i]) (List.getElem?_eq_getElem hi)
       rw [e1] at e2
       cases e2
       have m1:=List.mem_of_getElem? e1
       have q1:=pdDep_le m1
       have q2:=pdMax_le m1
       have at1:atI xs1 (0+(i:Int))=some xs1[i]:=by rw [Int.zero_add];exact atI_nat (List.getElem?_eq_getElem (by omega))
       have at2:atI xs2 (0+(i:Int))=some xs2[i]:=by rw [Int.zero_add];exact atI_nat (List.getElem?_eq_getElem hi)
       refine ⟨_,rfl,_,rfl,.inl ⟨_,_,_,_,rfl,rfl,(s1.trans s2).seq g,at1,?_⟩⟩
       refine ⟨_,rfl,_,rfl,.inl ⟨_,_,_,_,rfl,rfl,(s1.trans s2).seq g2,at2,?_⟩⟩
       refine ⟨_,_,d1,rfl,r1.same (s1.trans s2),r2.same (s1.trans s2),?_,?_,fun H'' s3=>?_⟩
       ·simp only [pdDep] at hn;omega
       ·simp only [pdMax] at hm;omega
       exact hN _ _ _ (by simp) ⟨_,by rw [List.replicate_succ',List.map_append];rfl,rfl,s2.trans s3⟩
      ·rintro ys σ' H' hys ⟨v,rfl,rfl,s2⟩
       refine ⟨by rw [List.length_map,List.length_replicate];exact Nat.le_trans hm' (by decide),fun q hq=>⟨q,_,rfl,SqL.of upd_same,?_⟩⟩
       show Q (.bl ((List.replicate xs2.length true).all id)) _
       rw [show (List.replicate xs2.length true).all id=true by simp]
       exact k _ ((s1.trans s2).trans (Same.new hq))
end
end Cm
namespace Cm
open PySem L2 PySem.W
abbrev Tie:=Bf.Tie
def TieAt (H:Hp) (x:V) (e:Tie):Prop:=∃ b,x=.ref b/\H b=some (.tup [.int e.1,.int e.2.1,.int e.2.2])
def TK (H H':Hp):Prop:=∀ b xs,H b=some (.tup xs)->H' b=some (.tup xs)
theorem TK.but {H H':Hp} {p dc:Addr} (D:Dr H p dc) (b:But p H H'):TK H H':=fun q xs e=>b q _ e (D.ne e (by intro kvs z;cases z))
theorem ties_tk {H H':Hp} (k:TK H H'):∀ {xs:List V} {es:List Tie},Paired (TieAt H) xs es->Paired (TieAt H') xs es
 |_,_,.nil=>.nil
 |_,_,.cons ⟨b,e,h⟩ t=>.cons ⟨b,e,k _ _ h⟩ (ties_tk k t)
theorem Same.tk {H H':Hp} (s:Same H H'):TK H H':=fun b xs e=>s b _ e
structure TxtC (mg:Str->Option Value):Prop where
 lim:∃ t,mg "LIMIT" = some (.int 999999 t)
 ml:∃ t,mg "MOST_LANES" = some (.int 6 t)
section
variable {P:Program} {w:World} {K:PySem.W.Frag} {mg:Str->Option Value} {base:Heap}
theorem Paired.snoc {α β:Type} {R:α->β->Prop} {x:α} {y:β} (h:R x y):∀ {xs:List α} {ys:List β},Paired R xs ys->Paired R (xs++[x]) (ys++[y])
 |_,_,.nil=>.cons h .nil
 |_,_,.cons a t=>.cons a (Paired.snoc h t)
theorem Paired.app {α β:Type} {R:α->β->Prop} {xs2:List α} {ys2:List β} (h:Paired R xs2 ys2):∀ {xs:List α} {ys:List β},Paired R xs ys->Paired R (xs++xs2) (ys++ys2)
 |_,_,.nil=>h
 |_,_,.cons a t=>.cons a (Paired.app h t)
end
theorem _root_.L2.EvR.ixL {K:PySem.W.Frag} {H:Hp} {a:Addr} {xs:List V} {i:Int} {v:V} (h:SqL K H a xs) (e:atI xs i=some v):EvR (rIx K) (.ref a) (.int i) H v:=fun Q q=>.inl ⟨a,xs,i,v,rfl,rfl,h,e,q⟩
theorem row_at {ns:List Int} {i:Int} (h0:0≤i) (h1:i<ns.length):atI (ns.map V.int) i=some (.int (ns.getD i.toNat 0)):=by
 obtain ⟨j,rfl⟩:=Int.eq_ofNat_of_zero_le h0
 have hj:j<ns.length:=by omega
 refine atI_nat (j:=j) ?_
 rw [List.getElem?_map,List.getElem?_eq_getElem hj]
 simp [hj]
theorem _root_.L2.EvR.ixT {K:PySem.W.Frag} {H:Hp} {a:Addr} {xs:List V} {i:Int} {v:V} (h:SqT K H a xs) (e:atI xs i=some v):EvR (rIx K) (.ref a) (.int i) H v:=fun Q q=>.inr (.inl ⟨a,xs,i,v,rfl,rfl,h,e,q⟩)
structure Cau where
 a:Int
 t:Int
 b:Int
 u:Int
structure OkC (n:Int) (c:Cau):Prop where
 a:0≤c.a/\c.a<n
 b:0≤c.b/\c.b<n
 ne:c.a≠c.b
 t:0≤c.t/\c.t<999999
 u:0≤c.u/\c.u<999999
def CauAt (H:Hp) (x:V) (c:Cau):Prop:=∃ p,x=.ref p/\H p=some (.tup [.int c.a,.int c.t,.int c.b,.int c.u])
def tieC (c:Cau):Tie:=(c.b,c.a,c.t-c.u+1)
theorem pd_map {α β:Type} {R S:α->β->Prop} (f:∀ x y,R x y->S x y):∀ {xs:List α} {ys:List β},Paired R xs ys->Paired S xs ys
 |_,_,.nil=>.nil
 |_,_,.cons a t=>.cons (f _ _ a) (pd_map f t)
theorem pd_get {α β:Type} {R:α->β->Prop}:∀ {xs:List α} {ys:List β} {i:Nat} {x:α},Paired R xs ys->xs[i]?=some x->∃ y,ys[i]?=some y/\R x y
 |_,_,0,_,.cons h _,e=>⟨_,rfl,by cases e;exact h⟩
 |_,_,i+1,_,.cons _ t,e=>pd_get (i:=i) t (by simpa using e)
 |_,_,i,_,.nil,e=>by simp at e
theorem caus_same {H H':Hp} {xs:List V} {cs:List Cau} (s:Same H H') (h:Paired (CauAt H) xs cs):Paired (CauAt H') xs cs:=pd_map (fun _ _ ⟨p,e,z⟩=>⟨p,e,s _ _ z⟩) h
section
variable {P:Program} {w:World} {K:PySem.W.Frag} {mg:Str->Option Value} {base:Heap}
def spNc:Sp:=fun vs H Q _=>∃ c:Cau,vs=[.int c.a,.int c.t,.int c.b,.int c.u]/\OkC 6 c/\Q .non H
theorem scNc:FnScope ["lane","time","other","second"] ["lane","time","other","second"] (defScope (top 9)):=⟨rfl,rfl,rfl,by decide +kernel,rfl,by decide +kernel,by decide +kernel⟩
theorem ok_nc {f:Addr} {fd:FuncData} (F:Fun K "need_cause" "need_cause" (top 9) f fd) (TC:TxtC mg):FnOk P w K mg base CX0 1 f fd ["lane","time","other","second"] spNc:=by
 refine F.ok scNc (fun vs H Q E h=>?_) (fun cdv A outer s H vs Q E hr h=>?_)
 ·obtain ⟨c,rfl,_⟩:=h
  rfl
 ·obtain ⟨c,rfl,o,k⟩:=h
  obtain ⟨t,ml⟩:=TC.ml
  obtain ⟨t',li⟩:=TC.lim
  refine ⟨_,(pss_cons (ps_if (PW.pt (pw_or (pt_not (pt_chain op_le op_lt pe_int (pv 0) (pe_glob (v:=.int 6) rfl ml ⟨_,rfl⟩))) (pw_or (pt_not (pt_chain op_le op_lt pe_int (pv 2) (pe_glob (v:=.int 6) rfl ml ⟨_,rfl⟩))) (pw_or1 (pt_cmpR op_eq (pv 0) (pv 2) (nomark _)))))) (pss_one ps_never) pss_nil)
   (pss_one (ps_if (PW.pt (pw_or (pt_not (pt_chain op_le op_lt pe_int (pv 1) (pe_glob (v:=.int 999999) rfl li ⟨_,rfl⟩))) (pw_or1 (pt_not (pt_chain op_le op_lt pe_int (pv 3) (pe_glob (v:=.int 999999) rfl li ⟨_,rfl⟩)))))) (pss_one ps_never) pss_nil))),?_⟩
  refine ⟨_,rfl,_,_,rfl,rfl,_,rfl,ifT (by simpa using o.a.1) ⟨_,_,rfl,rfl,_,rfl,ifF (by simpa using o.a.2) ?_⟩⟩
  refine ⟨_,rfl,_,_,rfl,rfl,_,rfl,ifT (by simpa using o.b.1) ⟨_,_,rfl,rfl,_,rfl,ifF (by simpa using o.b.2) ?_⟩⟩
  refine ⟨_,rfl,_,rfl,rfl,_,rfl,ifF (by simpa using o.ne) ?_⟩
  refine ⟨_,rfl,_,_,rfl,rfl,_,rfl,ifT (by simpa using o.t.1) ⟨_,_,rfl,rfl,_,rfl,ifF (by simpa using o.t.2) ?_⟩⟩
  exact ⟨_,rfl,_,_,rfl,rfl,_,rfl,ifT (by simpa using o.u.1) ⟨_,_,rfl,rfl,_,rfl,ifF (by simpa using o.u.2) k⟩⟩
def spTo (K:PySem.W.Frag):Sp:=fun vs H Q _=>∃ (q:Addr) (xs:List V) (cs:List Cau),vs=[.ref q]/\SqL K H q xs/\Paired (CauAt H) xs cs/\(∀ c∈cs,OkC 6 c)/\cs.length≤100/\∀ r ys H',H' r=some (.lst ys)->Paired (TieAt H') ys (cs.map tieC)->H r=none->Same H H'->Q (.ref r) H'
abbrev NTo:List Str:=["causes","lane","time","other","second"]
theorem scTo:FnScope NTo ["causes"] (defScope (top 10)):=⟨rfl,rfl,rfl,by decide +kernel,rfl,by decide +kernel,by decide +kernel⟩
def gT4 (K:PySem.W.Frag):TG:=gTup K 4 (gCons (gName 0) (gCons (gName 1) (gCons (gName 2) (gCons (gName 3) gNil))))
theorem ok_to {f fN:Addr} {fd fdN:FuncData} (F:Fun K "ties_of" "ties_of" (top 10) f fd) (TC:TxtC mg) (DN:Def K mg "need_cause" (top 9) ["lane","time","other","second"] fN fdN):FnOk P w K mg base CX0 2 f fd ["causes"] (spTo K):=by
 have GN:FnOk P w K mg base CX0 1 fN fdN ["lane","time","other","second"] spNc:=ok_nc DN.F TC
 refine F.ok scTo (fun vs H Q E h=>?_) (fun cdv A outer s H vs Q E hr h=>?_)
 ·obtain ⟨q,xs,cs,rfl,_⟩:=h
  rfl
 ·obtain ⟨q,xs,cs,rfl,hq,pc,ok,cl,k⟩:=h
  refine ⟨_,(pss_cons (ps_for PassesOwn.never rfl (pi_list (pv 0)) (pg_tup rfl (pgs_cons (pg_name (i:=1) scTo.nd rfl (Or.inl rfl)) (pgs_cons (pg_name (i:=2) scTo.nd rfl (Or.inl rfl)) (pgs_cons (pg_name (i:=3) scTo.nd rfl (Or.inl rfl)) (pgs_cons (pg_name (i:=4) scTo.nd rfl (Or.inl rfl)) pgs_nil)))))
   (pss_one (ps_expr (pe_call GN hr rfl DN.mg DN.F.kp DN.b .nil pass0 (pa_cons (pv 1) (pa_cons (pv 2) (pa_cons (pv 3) (pa_cons (pv 4) pa_nil))))))))
   (pss_one (ps_ret (pe_comp (g:=gT4 K) (own:=["lane","time","other","second"]) (js:=[]) (N':=["lane","time","other","second"]) (CompScope.of (osc:=defScope (top 10)) (N:=NTo) rfl rfl ⟨rfl,by decide +kernel,by decide +kernel,by decide +kernel,rfl,by decide +kernel⟩) rfl (pi_list (pv 0))
    (fun _ _ _ _ _=>(pg_tup rfl (pgs_cons (pg_name (i:=0) (show List.Nodup (["lane","time","other","second"]:List Str) by decide +kernel) rfl (Or.inl rfl) (Or.inr rfl)) (pgs_cons (pg_name (i:=1) (show List.Nodup (["lane","time","other","second"]:List Str) by decide +kernel) rfl (Or.inl rfl) (Or.inr rfl)) (pgs_cons (pg_name (i:=2) (show List.Nodup (["lane","time","other","second"]:List Str) by decide +kernel) rfl (Or.inl rfl) (Or.inr rfl)) (pgs_cons (pg_name (i:=3) (show List.Nodup (["lane","time","other","second"]:List Str) by decide +kernel) rfl (Or.inl rfl) (Or.inr rfl)) pgs_nil)))))) (fun _ _ _ _ _=>pifs_nil)
    (fun _ _ _ _ _=>pe_tup (pa_cons (pv 2) (pa_cons (pv 0) (pa_cons (pe_op op_add (pe_op op_sub (pv 1) (pv 3)) pe_int) pa_nil)))))))),?_⟩
  have z3:3≤sizeLine:=by decide
  have xl:=Paired.length pc
  refine ⟨_,rfl,q,rfl,⟨_,hq⟩,for_list (K:=K) (a:=q) (xs:=xs) (fun i σ H'=>(∃ a b c d,σ=[some (.ref q),a,b,c,d])/\H'=H) ⟨⟨none,none,none,none,rfl⟩,rfl⟩ (fun i σ H' _ ⟨_,e⟩=>by rw [e];exact hq) ?_ ?_⟩
  ·rintro i x σ H' hi ⟨⟨a,b,c,d,rfl⟩,rfl⟩
   obtain ⟨c,hc,b',rfl,hb⟩:=pd_get pc hi
   refine ⟨b',_,rfl,SqT.of hb,rfl,_,_,rfl,_,_,rfl,_,_,rfl,_,_,rfl,rfl,?_⟩
   exact ⟨_,rfl,_,rfl,_,rfl,_,rfl,c,rfl,ok c (List.mem_of_getElem? hc),⟨_,_,_,_,rfl⟩,rfl⟩
  ·rintro σ H' ⟨⟨a,b,c,d,rfl⟩,rfl⟩
   refine ⟨_,rfl,q,rfl,⟨_,hq⟩,?_⟩
   refine comp_list (K:=K) (a:=q) (xs:=xs) (fun i ys σ' H2=>(∃ v0 v1 v2 v3,σ'=[v0,v1,v2,v3])/\Same H' H2/\Paired (TieAt H2) ys ((cs.take i).map tieC)) (Nat.le_trans (show xs.length≤100 by omega) (by decide)) ⟨⟨none,none,none,none,rfl⟩,Same.refl _,.nil⟩ (fun i ys σ H2 _ e=>e.2.1.seq hq) ?_ ?_
   ·rintro i x ys σ' H2 hi hy ⟨⟨v0,v1,v2,v3,rfl⟩,s2,pe⟩ N hN
    obtain ⟨c,hc,b',rfl,hb⟩:=pd_get (caus_same s2 pc) hi
    refine ⟨b',_,rfl,SqT.of hb,rfl,_,_,rfl,_,_,rfl,_,_,rfl,_,_,rfl,rfl,?_⟩
    refine ⟨_,rfl,_,rfl,_,rfl,_,rfl,_,_,rfl,rfl,_,_,rfl,rfl,z3,fun p hp=>?_⟩
    refine hN _ _ _ (by rw [List.length_append,hy];rfl) ⟨⟨_,_,_,_,rfl⟩,s2.trans (Same.new hp),?_⟩
    rw [List.take_add_one,hc,List.map_append]
    exact Paired.snoc ⟨p,rfl,upd_same⟩ (ties_tk (Same.tk (Same.new hp)) pe)
   ·rintro ys σ' H2 hy ⟨⟨v0,v1,v2,v3,rfl⟩,s2,pe⟩
    rw [xl,List.take_length] at pe
    refine ⟨by rw [hy];exact Nat.le_trans (show xs.length≤100 by omega) (by decide),fun r hr'=>?_⟩
    exact k r ys _ upd_same (ties_tk (Same.tk (Same.new hr')) pe) (s2.free hr') (s2.trans (Same.new hr'))
end
def retE:Stmt->Expr
 |.Return (some e) _=>e
 |_=>.Constant .none 0 ⟨0,0,0,0⟩
def keyE:Expr->Expr
 |.Call _ _ (k::_) _=>k.value
 |e=>e
def lParams:Expr->Arguments
 |.Lambda p _ _ _=>p
 |_=>{ posonlyargs:=[],args:=[],vararg:=none,kwonlyargs:=[],kw_defaults:=[],kwarg:=none,defaults:=[] }
def lBody:Expr->Expr
 |.Lambda _ b _ _=>b
 |e=>e
def lScope:Expr->Scope
 |.Lambda _ _ s _=>s
 |_=>{ kind:=.function,names:=[],isGenerator:=false,isCoroutine:=false }
def lPos:Expr->Pos
 |.Lambda _ _ _ p=>p
 |_=>⟨0,0,0,0⟩
def noS:Stmt:=.Pass ⟨0,0,0,0⟩
def lamM:Expr:=keyE (retE ((defBody (top 11)).getD 2 noS))
abbrev qM:Str:="merged.<locals>."++"<lambda>"
abbrev Thg:=V×Option (Int×Int)
def EvA (H:Hp) (x:Thg):Prop:=∃ p,x.1=.ref p/\match x.2 with
 |some it=>∃ rest,H p=some (.tup (.str "event"::.int it.1::.int it.2::rest))
 |none=>∃ k rest,H p=some (.tup (.str k::rest))/\k ≠ "event"
theorem EvA.tk {H H':Hp} {x:Thg} (h:EvA H x) (k:TK H H'):EvA H' x:=by
 obtain ⟨v,o⟩:=x
 obtain ⟨p,e,z⟩:=h
 refine ⟨p,e,?_⟩
 cases o with
 | some it=>
   obtain ⟨rest,z⟩:=z
   exact ⟨rest,k _ _ z⟩
 | none=>
   obtain ⟨s,rest,z,ne⟩:=z
   exact ⟨s,rest,k _ _ z,ne⟩
def RwA (H:Hp) (v:V) (r:List Thg):Prop:=∃ a,v=.ref a/\H a=some (.lst (r.map (·.1)))/\∀ x∈r,EvA H x
abbrev Prr:=Nat×V×Int×Int
def evRow (k:Nat) (r:List Thg):List Prr:=r.filterMap fun x=>x.2.map fun it=>(k,x.1,it.1,it.2)
def evTo (rs:List (List Thg)) (i:Nat):List Prr:=(List.range i).flatMap fun k=>evRow k (rs.getD k [])
theorem evTo_succ (rs:List (List Thg)) (i:Nat):evTo rs (i+1)=evTo rs i++evRow i (rs.getD i []):=by unfold evTo;rw [List.range_succ,List.flatMap_append];simp
def PrA (H:Hp) (v:V) (x:Prr):Prop:=∃ b,v=.ref b/\H b=some (.tup [.int x.1,x.2.1])
theorem prs_tk {H H':Hp} (k:TK H H') {vs:List V} {ps:List Prr} (h:Paired (PrA H) vs ps):Paired (PrA H') vs ps:=pd_map (fun _ _ ⟨b,e,z⟩=>⟨b,e,k _ _ z⟩) h
def keyP (ns:List Int) (x:Prr):Tri:=(ns.getD x.1 0+x.2.2.2,x.1,x.2.2.1)
theorem lam_keeps {H H1:Hp} {T c' f':Addr} {lp:Pos} {qual:Str} (lm:Lam H T lp qual c' H1) (hf:H1 f'=none) {o:HO}:∀ b u,H b=some u->(∀ qs,u≠.tbl qs)->(upd H1 f' o) b=some u:=fun b u e ne=>by
 have e9:=lm.keep e ne
 rw [upd_ne (ne_of_none e9 hf)];exact e9
theorem ev_mem {rs:List (List Thg)} {n:Nat} {x:Prr} (h:x∈evTo rs n):x.1<n/\(x.2.1,some (x.2.2.1,x.2.2.2))∈rs.getD x.1 []:=by
 unfold evTo at h
 obtain ⟨k,hk,h⟩:=List.mem_flatMap.mp h
 unfold evRow at h
 obtain ⟨⟨v,o⟩,ht,e⟩:=List.mem_filterMap.mp h
 cases o with
 |none=>simp at e
 | some it=>
   simp only [Option.map_some,Option.some.injEq] at e
   subst e
   exact ⟨List.mem_range.mp hk,ht⟩
theorem perm_pick {α:Type} {d:α} {l:List α} {o:List Nat} (h:o.Perm (List.range l.length)):(o.map fun i=>l.getD i d).Perm l:=by
 refine (h.map _).trans (List.Perm.of_eq (List.ext_getElem (by simp) fun i q1 q2=>?_))
 simp [q2]
theorem pd_pick {α β:Type} {R:α->β->Prop} {d:α} {e:β} {l:List α} {m:List β} (h:Paired R l m):∀ o:List Nat,(∀ i∈o,i<l.length)->Paired R (o.map fun i=>l.getD i d) (o.map fun i=>m.getD i e)
 |[],_=>.nil
 |i::o,q=>.cons (paired_getD h i (q i (List.mem_cons_self ..))) (pd_pick h o fun j hj=>q j (List.mem_cons_of_mem _ hj))
section
variable {P:Program} {w:World} {K:PySem.W.Frag} {mg:Str->Option Value} {base:Heap}
structure RowsIn (K:PySem.W.Frag) (H:Hp) (q:Addr) (ys:List V) (rs:List (List Thg)):Prop where
 sq:SqL K H q ys
 at_:Paired (RwA H) ys rs
 few:rs.length≤6
 sml:∀ r∈rs,r.length≤100
 all:(evTo rs rs.length).length<64
 pl:∀ x∈evTo rs rs.length,0≤x.2.2.1/\x.2.2.1<1000000
 nd:((evTo rs rs.length).map fun x=>(x.1,x.2.2.1)).Nodup
def spMg (K:PySem.W.Frag) (Tt:Addr):Sp:=fun vs H Q _=>∃ (q r:Addr) (ys:List V) (rs:List (List Thg)) (ns:List Int),vs=[.ref q,.ref r]/\RowsIn K H q ys rs/\SqL K H r (ns.map V.int)/\ns.length=rs.length/\TabI H Tt qM [lPos lamM]/\
 ∀ l vs ps H',ps.Perm (evTo rs rs.length)->ps.Pairwise (fun a b=>rkT (keyP ns a)<rkT (keyP ns b))->H' l=some (.lst vs)->Paired (PrA H') vs ps->H l=none->(∀ b u,H b=some u->((∀ qs,u≠.tbl qs)∨b≠Tt)->H' b=some u)->TabI H' Tt qM [lPos lamM]->Q (.ref l) H'
abbrev NMg:List Str:=["rows","row","pairs"]
theorem scMg:FnScope NMg ["rows","row"] (defScope (top 11)):=⟨rfl,rfl,rfl,by decide +kernel,rfl,by decide +kernel,by decide +kernel⟩
def clM (n:Nat):List (Str×Addr):=[("row",n+1)]
theorem ok_mg {f c Tt:Addr} {oc kV doc pm ct:Value} {od an:Option Addr} {osl:Array (Option Value)}
 (lk:K.lookup f=some ⟨oc,od,.func (PySem.W.fnOf "merged" "merged" (defArgs (top 11)) (defBody (top 11)) (defScope (top 11)) .none kV doc pm an (.ref c) ct),osl⟩) (hcd:PySem.W.codeIn K (.ref c) "merged" = true)
 (HT:CodeHd base c Tt) (HB:base.BuiltinsAt mg Tt) (HG:mainGlobals≠Tt) (T:Txt K mg) (hso:mg "sorted" = none) (hen:mg "enumerate" = none) :
 FnOk P w K mg base CX0 4 f (PySem.W.fnOf "merged" "merged" (defArgs (top 11)) (defBody (top 11)) (defScope (top 11)) .none kV doc pm an (.ref c) ct) ["rows","row"] (spMg K Tt):=by
 refine fn_of lk hcd scMg (fun vs H Q E h=>?_) (fun A outer s H vs Q E hr h=>?_)
 ·obtain ⟨q,r,ys,rs,ns,rfl,_⟩:=h
  rfl
 ·obtain ⟨q,r,ys,rs,ns,rfl,R,hr',nl,tb,k⟩:=h
  have CT:CodeTab (cxOf CX0 P w K mg base NMg "merged" (defScope (top 11)) f (.ref c) A outer s H E) c Tt:=⟨rfl,HT,HB,HG⟩
  have h1:∀ q∈clM s.heap.objs.size,(PyProof.Rows.envOfC "merged" (defScope (top 11)) s.heap.objs.size f (.ref c)).cells.lookup q.1=some q.2:=by
   intro q hq
   cases List.mem_singleton.mp hq
   rfl
  have hrr:Room (0+1) (A.deeper (PyProof.Rows.envOfC "merged" (defScope (top 11)) s.heap.objs.size f (.ref c))).in1.in1:=hr.in1.in1
  refine ⟨_,(pss_cons (ps_if (pt_cmpR op_ne (pe_callB call_len_seq (by rfl) T.len bt_len (pa_cons (pv 1) pa_nil)) (pe_callB call_len_seq (by rfl) T.len bt_len (pa_cons (pv 0) pa_nil)) (nomark _)) (pss_one ps_never) pss_nil)
   (pss_cons (ps_setComp2 (g:=gTup K 2 (gCons (gName 0) (gCons (gName 1) gNil))) (g2:=gName 2) (tt:=tYes) (wi2:=iList K (tVar 1)) (i:=2) (own:=["lane","told","thing"]) (js:=[]) (N':=["lane","told","thing"]) (CompScope.of (osc:=defScope (top 11)) (N:=NMg) rfl rfl ⟨rfl,by decide +kernel,by decide +kernel,by decide +kernel,rfl,by decide +kernel⟩) rfl scMg.nd rfl rfl (pi_enumL rfl hen bt_enumerate (pa_cons (pv 0) pa_nil))
    (fun _ _ _ _ _=>(pg_tup rfl (pgs_cons (pg_name (i:=0) (show List.Nodup (["lane","told","thing"]:List Str) by decide +kernel) rfl (Or.inl rfl) (Or.inr rfl)) (pgs_cons (pg_name (i:=1) (show List.Nodup (["lane","told","thing"]:List Str) by decide +kernel) rfl (Or.inl rfl) (Or.inr rfl)) pgs_nil)))) (fun _ _ _ _ _=>pifs_nil) (fun _ _ _ _ _=>pi_listK rfl (pv 1)) (fun _ _=>rfl)
    (fun _ _ _ _ _=>(pg_name (i:=2) (show List.Nodup (["lane","told","thing"]:List Str) by decide +kernel) rfl (Or.inl rfl) (Or.inr rfl))) (fun _ _ _ _ _=>pifs_one (pt_cmpR op_eq (pe_ix (r:=rIx K) ix_seq (pv 2) pe_int (fun _ _=>rfl)) pe_str (nomark _))) (fun _ _ _ _ _=>pe_tup (pa_cons (pv 0) (pa_cons (pv 2) pa_nil))))
   (pss_one (ps_ret (pe_sortedK (cl:=clM s.heap.objs.size) (NL:=["row"]) (js:=[1]) (pn:="pair") CT hrr (pa_cons (pv 2) pa_nil) rfl hso rfl rfl h1 (fun _=>rfl) (by show ∀ p:Str×NameKind,p∈_->(p.2=NameKind.cell∨p.2=NameKind.free)->p.1∈(["row"]:List Str);decide +kernel) (by decide +kernel) (show ∀ x∈(["row"]:List Str),(defScope (top 11)).names.lookup x=some .cell by decide +kernel) rfl rfl rfl (fun _ _ _ _=>rfl) (by decide +kernel) (by decide +kernel) rfl rfl rfl (by decide +kernel)
    (fun _ _ _ _ _ _=>pe_tup (pa_cons (pe_op op_add (pe_ix (r:=rIx K) ix_seq (pv 1) (pe_ix (r:=rIx K) ix_seq (pv 0) pe_int (fun _ _=>rfl)) (fun _ _=>rfl)) (pe_ix (r:=rIx K) ix_seq (pe_ix (r:=rIx K) ix_seq (pv 0) pe_int (fun _ _=>rfl)) pe_int (fun _ _=>rfl))) (pa_cons (pe_ix (r:=rIx K) ix_seq (pv 0) pe_int (fun _ _=>rfl)) (pa_cons (pe_ix (r:=rIx K) ix_seq (pe_ix (r:=rIx K) ix_seq (pv 0) pe_int (fun _ _=>rfl)) pe_int (fun _ _=>rfl)) pa_nil))))))))),?_⟩
  have yl:=Paired.length R.at_
  have few:=R.few
  have z2:2≤sizeLine:=by decide
  refine seq_by (fun σ' H'=>σ'=[some (.ref q),some (.ref r),none]/\H=H') ?nx0 fun N hN=>?st0
  case st0=>exact ⟨_,rfl,r,_,rfl,.inl hr',_,rfl,q,_,rfl,.inl R.sq,rfl,_,rfl,ifF (by rw [List.length_map,yl,nl];simp) (hN _ _ ⟨rfl,rfl⟩)⟩
  rintro σ' H' ⟨rfl,rfl⟩
  refine seq_by (fun σ' H'=>∃ a vs,σ'=[some (.ref q),some (.ref r),some (.ref a)]/\Same H H'/\H' a=some (.lst vs)/\Paired (PrA H') vs (evTo rs rs.length)) ?nx1 fun N hN=>?st1
  case st1=>
   refine ⟨_,rfl,q,rfl,⟨_,R.sq⟩,fun i m vs σ H'=>m=ys.length-i/\i≤ys.length/\Same H H'/\(∃ a b c,σ=[a,b,c])/\Paired (PrA H') vs (evTo rs i)/\vs.length≤100*i,⟨ys.length,by simp,Nat.zero_le _,Same.refl _,⟨none,none,none,rfl⟩,.nil,Nat.le_refl _⟩,?_⟩
   rintro i m vs σ H1 ⟨rfl,hi,s1,⟨u0,u1,u2,rfl⟩,pp,vl⟩
   by_cases hlt:i<ys.length
   ·refine .inr ⟨⟨_,ys[i],s1.seq R.sq,List.getElem?_eq_getElem hlt⟩,?_⟩
    rintro x H' ⟨p,yv,hn,rfl,hy,rfl⟩
    obtain ⟨rw',hrw,a,rfl,ha,ea⟩:=pd_get R.at_ (hy _ (s1.seq R.sq))
    have rl:=R.sml rw' (List.mem_of_getElem? hrw)
    have s2:Same H (upd H1 p (.tup [.int i,.ref a])):=s1.trans (Same.new hn)
    have erd:rs.getD i []=rw':=by rw [List.getD_eq_getElem?_getD,hrw];rfl
    have pp2:=prs_tk (Same.tk (Same.new (o:=.tup [.int i,.ref a]) hn)) pp
    refine ⟨p,_,rfl,SqT.of upd_same,rfl,_,_,rfl,_,_,rfl,rfl,?_⟩
    dsimp only [gName,tYes,List.set]
    rw [if_pos rfl]
    generalize upd H1 p (.tup [.int i,.ref a])=H2 at s2 pp2 ⊢
    have ha2:=s2 _ _ ha
    refine ⟨_,rfl,a,rfl,⟨_,SqL.of ha2⟩,fun j m vs' σ' H3=>m=rw'.length-j/\j≤rw'.length/\Same H2 H3/\(∃ v,σ'=[some (.int i),some (.ref a),v])/\Paired (PrA H3) vs' (evTo rs i++evRow i (rw'.take j))/\vs'.length≤100*i+j,⟨rw'.length,by simp,Nat.zero_le _,Same.refl _,⟨_,rfl⟩,by simpa [evRow] using pp2,by omega⟩,?_⟩
    rintro j m vs' σ' H3 ⟨rfl,hj,s3,⟨v,rfl⟩,pp3,vl3⟩
    have ha3:=s3 _ _ ha2
    by_cases hjt:j<rw'.length
    ·have hjl:j<(rw'.map (·.1)).length:=by rw [List.length_map];exact hjt
     refine .inr ⟨⟨_,(rw'.map (·.1))[j],SqL.of ha3,List.getElem?_eq_getElem hjl⟩,Nat.le_trans (show vs'.length+1≤1000 by omega) (by decide),?_⟩
     rintro x H4 ⟨rfl,y⟩
     have hx:=y _ (SqL.of ha3)
     rw [List.getElem?_map] at hx
     obtain ⟨th,hth,rfl⟩:=Option.map_eq_some_iff.mp hx
     have et:evRow i (rw'.take (j+1))=evRow i (rw'.take j)++evRow i [th]:=by
      unfold evRow
      rw [List.take_add_one,hth,List.filterMap_append]
      rfl
     obtain ⟨tv,to⟩:=th
     obtain ⟨pt,e,z⟩:=(ea _ (List.mem_of_getElem? hth)).tk (Same.tk (s2.trans s3))
     dsimp only at e z
     subst e
     dsimp only [gName,List.set]
     cases to with
     | some it=>
       obtain ⟨rest,z⟩:=z
       refine EvE.op (EvE.op (EvE.var rfl) EvE.con (EvR.ixT (SqT.of z) (atI_nat (j:=0) rfl))) EvE.con (EvR.eq rfl) _ ⟨_,rfl,ifT (by simp) ?_⟩
       refine ⟨_,rfl,_,rfl,z2,fun b hb=>⟨rw'.length-(j+1),by omega,rfl,hjt,s3.trans (Same.new hb),⟨_,rfl⟩,?_,by rw [List.length_append,List.length_singleton];omega⟩⟩
       rw [et,← List.append_assoc]
       exact Paired.app (.cons ⟨b,rfl,upd_same⟩ .nil) (prs_tk (Same.tk (Same.new hb)) pp3)
     | none=>
       obtain ⟨kk,rest,z,ne⟩:=z
       refine EvE.op (EvE.op (EvE.var rfl) EvE.con (EvR.ixT (SqT.of z) (atI_nat (j:=0) rfl))) EvE.con (EvR.eq rfl) _ ⟨_,rfl,ifF (by simpa using ne) ?_⟩
       refine ⟨rw'.length-(j+1),by omega,rfl,hjt,s3,⟨_,rfl⟩,?_,by omega⟩
       rw [et,show evRow i [((V.ref pt,none):Thg)]=[] from rfl,List.append_nil]
       exact pp3
    ·have ej:j=rw'.length:=by omega
     subst ej
     rw [List.take_length] at pp3
     refine .inl ⟨⟨_,SqL.of ha3,by rw [List.length_map];exact Nat.le_refl _⟩,ys.length-(i+1),by omega,rfl,hlt,s2.trans s3,⟨_,_,_,rfl⟩,?_,by omega⟩
     rw [evTo_succ,erd]
     exact pp3
   ·have ei:i=ys.length:=by omega
    subst ei
    refine .inl ⟨⟨_,s1.seq R.sq,Nat.le_refl _⟩,Nat.le_trans (show vs.length≤1000 by omega) (by decide),fun l hl=>?_⟩
    rw [yl] at pp
    exact hN _ _ ⟨l,vs,rfl,s1.trans (Same.new hl),upd_same,prs_tk (Same.tk (Same.new hl)) pp⟩
  rintro σ' H1 ⟨a,vs,rfl,s1,ha,pp⟩
  have tb1:=tb.same s1
  have vl:=Paired.length pp
  have all:=R.all
  refine ⟨_,rfl,tb1.tab (List.mem_singleton.mpr rfl),fun c' H2 lm f' H3 hf eH=>?_⟩
  have kp:∀ b u,H1 b=some u->(∀ qs,u≠.tbl qs)->H3 b=some u:=by
   obtain ⟨ctv,eH⟩:=eH
   rw [eH]
   exact lam_keeps lm hf
  have tb3:TabI H3 Tt qM [lPos lamM]:=by
   obtain ⟨ctv,eH⟩:=eH
   rw [eH]
   exact (tb1.lam lm).same (Same.new hf)
  have fr3:∀ l,H3 l=none->H1 l=none:=fun l hl=>by
   cases z:H1 l with
   |none=>rfl
   | some u=>
     by_cases q:∃ qs,u=.tbl qs
     ·obtain ⟨qs,rfl⟩:=q
      obtain ⟨ctv,eH⟩:=eH
      obtain ⟨ps,hP,lm⟩:=lm
      rw [eH] at hl
      have e2:∃ u,H2 l=some u:=by
       rcases lm with ⟨_,hc,ne,rfl⟩|⟨_,_,rfl⟩
       ·rw [upd_ne (ne_of_none z hc)]
        by_cases q:l=Tt
        ·subst q;exact ⟨_,upd_same⟩
        ·rw [upd_ne q];exact ⟨_,z⟩
       ·exact ⟨_,z⟩
      obtain ⟨u,e2⟩:=e2
      rw [upd_ne (ne_of_none e2 hf),e2] at hl
      cases hl
     ·have:=kp l u z fun qs e=>q ⟨qs,e⟩
      rw [hl] at this
      cases this
  have kp2:∀ b u,H1 b=some u->b≠Tt->H3 b=some u:=fun b u e ne=>by
   obtain ⟨ctv,eH⟩:=eH
   obtain ⟨ps,hP,lm⟩:=lm
   have e2:H2 b=some u:=by
    rcases lm with ⟨_,hc,_,rfl⟩|⟨_,_,rfl⟩
    ·rw [upd_ne (ne_of_none e hc),upd_ne ne];exact e
    ·exact e
   rw [eH,upd_ne (ne_of_none e2 hf)]
   exact e2
  clear lm eH hf
  have tk3:TK H1 H3:=fun b xs e=>kp b _ e (by intro _ z;cases z)
  have ha3:=kp _ _ ha (by intro _ z;cases z)
  have pp3:=prs_tk tk3 pp
  have sq3:∀ H',Same H3 H'->SqL K H' r (ns.map V.int):=fun H' sm=>by
   rcases s1.seq hr' with (z|⟨o,z⟩)|z
   ·exact .inl (.inl (sm _ _ (kp _ _ z (by intro _ z;cases z))))
   ·exact .inl (.inr ⟨o,sm _ _ (kp _ _ z (by intro _ z;cases z))⟩)
   ·exact .inr z
  have evs:∀ x∈evTo rs rs.length,x.1<rs.length/\∃ pt rest,x.2.1=.ref pt/\H3 pt=some (.tup (.str "event"::.int x.2.2.1::.int x.2.2.2::rest)):=fun x hx=>by
   obtain ⟨h4,h5⟩:=ev_mem hx
   obtain ⟨rw',hrw,a',_,_,ea⟩:=pd_get R.at_ (List.getElem?_eq_getElem (show x.1<ys.length by omega))
   have erd:rs.getD x.1 []=rw':=by rw [List.getD_eq_getElem?_getD,hrw];rfl
   rw [erd] at h5
   obtain ⟨pt,e,rest,z⟩:=ea _ h5
   exact ⟨h4,pt,rest,e,tk3 _ _ (s1 _ _ z)⟩
  have z3:3≤sizeLine:=by decide
  refine ⟨a,vs,(evTo rs rs.length).map (keyP ns),rfl,SqL.of ha3,by omega,by rw [List.length_map];omega,fun y hy=>?_,?_,fun i x tr H' sm ex et=>?_,fun o l H' op os hl hn sm=>?_⟩
  ·obtain ⟨x,hx,rfl⟩:=List.mem_map.mp hy
   have h4:=(evs x hx).1
   have h5:=R.pl x hx
   exact ⟨⟨by simp only [keyP];omega,by simp only [keyP];omega⟩,h5⟩
  ·have:=R.nd
   rw [List.Nodup,List.pairwise_map] at this ⊢
   refine this.imp fun {x y} ne e=>ne ?_
   simp only [keyP,Prod.mk.injEq] at e ⊢
   exact ⟨by omega,e.2.2⟩
  ·obtain ⟨pr,hpr,b,rfl,hb⟩:=pd_get pp3 ex
   rw [List.getElem?_map,hpr] at et
   cases et
   obtain ⟨h4,pt,rest,e,z⟩:=evs pr (List.mem_of_getElem? hpr)
   have hb:=sm _ _ hb
   have z:=sm _ _ z
   have hR:=sq3 H' sm
   rw [e] at hb
   refine EvE.op (EvE.op (EvE.var rfl) (EvE.op (EvE.var rfl) EvE.con (EvR.ixT (SqT.of hb) (atI_nat (j:=0) rfl))) (EvR.ixL hR (row_at (by omega) (by omega)))) (EvE.op (EvE.op (EvE.var rfl) EvE.con (EvR.ixT (SqT.of hb) (atI_nat (j:=1) rfl))) EvE.con (EvR.ixT (SqT.of z) (atI_nat (j:=2) rfl))) EvR.i0 _ ?_
   refine EvE.op (EvE.var rfl) EvE.con (EvR.ixT (SqT.of hb) (atI_nat (j:=0) rfl)) _ ?_
   refine EvE.op (EvE.op (EvE.var rfl) EvE.con (EvR.ixT (SqT.of hb) (atI_nat (j:=1) rfl))) EvE.con (EvR.ixT (SqT.of z) (atI_nat (j:=1) rfl)) _ ?_
   refine ⟨z3,fun p hp=>⟨p,rfl,?_,Same.new hp⟩⟩
   rw [upd_same,Int.toNat_natCast]
   rfl
  ·rw [vl] at op
   have om:∀ i∈o,i<vs.length:=fun i hi=>by
    have:=List.mem_range.mp (op.mem_iff.mp hi)
    omega
   have pk:∀ i∈o,((evTo rs rs.length).map (keyP ns)).getD i (0,0,0)=keyP ns ((evTo rs rs.length).getD i (0,.non,0,0)):=fun i hi=>by
    have hi':i<(evTo rs rs.length).length:=by have:=om i hi;omega
    rw [List.getD_eq_getElem?_getD,List.getD_eq_getElem?_getD,List.getElem?_map,List.getElem?_eq_getElem hi']
    rfl
   refine k l _ (o.map fun i=>(evTo rs rs.length).getD i (0,.non,0,0)) H' (perm_pick op) ?_ hl (prs_tk (Same.tk sm) (pd_pick pp3 o om)) ?_ (fun b u e ne=>sm _ _ (ne.elim (kp _ _ (s1 _ _ e)) (kp2 _ _ (s1 _ _ e)))) (tb3.same sm)
   ·rw [List.pairwise_map]
    refine List.Pairwise.imp_of_mem (fun {i j} hi hj h=>?_) os
    rw [pk i hi,pk j hj] at h
    exact h
   ·exact s1.free (fr3 l hn)
end
theorem atI_last {ys:List V} {x:V} (h:ys[ys.length-1]?=some x):atI ys (-1)=some x:=by
 have hl:ys.length-1<ys.length:=(List.getElem?_eq_some_iff.mp h).1
 unfold atI ixN
 rw [if_neg (by decide),if_pos (by omega)]
 show ys[(-1+(ys.length:Int)).toNat]?=_
 rw [show (-1+(ys.length:Int)).toNat=ys.length-1 by omega]
 exact h
inductive Tg where
 |ev (pl tm:Int) (nm:Str) (ln st:Int)
 |lo (k:Int)
def TgA (H:Hp) (x:V):Tg->Prop
 |.ev pl tm nm ln st=>∃ p t,x=.ref p/\H p=some (.tup [.str "event",.int pl,.int tm,.str nm,.ref t])/\H t=some (.tup [.int ln,.int st])
 |.lo k=>∃ p,x=.ref p/\H p=some (.tup [.str "lost",.int k])
def tgD:Tg->PyData
 |.ev pl tm nm ln st=>.tuple [.str "event",.int pl,.int tm,.str nm,.tuple [.int ln,.int st]]
 |.lo k=>.tuple [.str "lost",.int k]
def tgO:Tg->Option (Int×Int)
 |.ev pl tm _ _ _=>some (pl,tm)
 |.lo _=>none
theorem TgA.tk {H H':Hp} {x:V} (k:TK H H'):∀ {g:Tg},TgA H x g->TgA H' x g
 |.ev _ _ _ _ _,⟨p,t,e,h1,h2⟩=>⟨p,t,e,k _ _ h1,k _ _ h2⟩
 |.lo _,⟨p,e,h1⟩=>⟨p,e,k _ _ h1⟩
theorem TgA.ev {H:Hp} {x:V}:∀ {g:Tg},TgA H x g->EvA H (x,tgO g)
 |.ev _ _ _ _ _,⟨p,t,e,h1,_⟩=>⟨p,e,_,h1⟩
 |.lo _,⟨p,e,h1⟩=>⟨p,e,_,_,h1,by decide⟩
theorem TgA.rep {K:PySem.W.Frag} {H:Hp} {x:V}:∀ {g:Tg},TgA H x g->Rep K H x (tgD g)
 | .ev _ _ _ _ _,⟨p,t,e,h1,h2⟩=>by
   subst e
   exact .tup (SqT.of h1) (.cons (.str _) (.cons (.int _) (.cons (.int _) (.cons (.str _) (.cons (.tup (SqT.of h2) (.cons (.int _) (.cons (.int _) .nil))) .nil)))))
 | .lo _,⟨p,e,h1⟩=>by
   subst e
   exact .tup (SqT.of h1) (.cons (.str _) (.cons (.int _) .nil))
theorem tgs_tk {H H':Hp} (k:TK H H') {xs:List V} {gs:List Tg} (h:Paired (TgA H) xs gs):Paired (TgA H') xs gs:=pd_map (fun _ _ z=>z.tk k) h
theorem tgs_rep {K:PySem.W.Frag} {H:Hp}:∀ {xs:List V} {gs:List Tg},Paired (TgA H) xs gs->Reps K H xs (gs.map tgD)
 |_,_,.nil=>.nil
 |_,_,.cons a t=>.cons a.rep (tgs_rep t)
theorem tgs_dep:∀ gs:List Tg,pdDeps (gs.map tgD)≤2
 |[]=>by simp [pdDeps]
 | g::r=>by
   have:=tgs_dep r
   rw [List.map_cons]
   cases g <;> simp only [pdDeps,pdDep,tgD] <;> omega
theorem tgs_max:∀ gs:List Tg,pdMaxs (gs.map tgD)≤5
 |[]=>by simp [pdMaxs]
 | g::r=>by
   have:=tgs_max r
   rw [List.map_cons]
   cases g <;> simp only [pdMaxs,pdMax,tgD,List.length_cons,List.length_nil] <;> omega
structure Rw (gs:List Tg) (pl tm:Int) (m:Nat):Prop where
 up:(gs.filterMap tgO).Pairwise (fun a b=>a.1<b.1)
 lo:∀ e∈gs.filterMap tgO,0≤e.1/\e.1<pl/\0≤e.2/\e.2≤tm
 n:(gs.filterMap tgO).length≤m
 l:gs.length≤2*m
theorem Rw.ev {gs:List Tg} {pl tm:Int} {m:Nat} (up:(gs.filterMap tgO).Pairwise (fun a b=>a.1<b.1)) (lo:∀ e∈gs.filterMap tgO,0≤e.1/\e.1<pl/\0≤e.2/\e.2≤tm) (hn:(gs.filterMap tgO).length≤m) {nm:Str} {ln st:Int} (l2:gs.length≤2*m+1) (p0:0≤pl) (t0:0≤tm):Rw (gs++[Tg.ev pl tm nm ln st]) (pl+1) tm (m+1):=by
 have e:(gs++[Tg.ev pl tm nm ln st]).filterMap tgO=gs.filterMap tgO++[(pl,tm)]:=by rw [List.filterMap_append];rfl
 refine ⟨?_,fun x hx=>?_,?_,?_⟩
 ·rw [e,List.pairwise_append]
  refine ⟨up,List.pairwise_singleton _ _,fun a ha b hb=>?_⟩
  cases List.mem_singleton.mp hb
  exact (lo a ha).2.1
 ·rw [e] at hx
  rcases List.mem_append.mp hx with z|z
  ·have:=lo x z
   omega
  ·cases List.mem_singleton.mp z
   simp only
   omega
 ·rw [e,List.length_append]
  exact Nat.add_le_add_right hn 1
 ·rw [List.length_append,List.length_singleton]
  omega
def RA (nq:Addr) (H:Hp) (v:V) (gs:List Tg):Prop:=∃ a xs,v=.ref a/\a≠nq/\H a=some (.lst xs)/\Paired (TgA H) xs gs
theorem RA.kp {nq:Addr} {H H':Hp} {v:V} {gs:List Tg} (h:RA nq H v gs) (k1:TK H H') (k2:∀ b xs,H b=some (.lst xs)->b≠nq->H' b=some (.lst xs)):RA nq H' v gs:=by
 obtain ⟨a,xs,e,n,h1,h2⟩:=h
 exact ⟨a,xs,e,n,k2 _ _ h1 n,tgs_tk k1 h2⟩
theorem or_same {b:Bool} {A B:Prop} (h:A) (k:b=false->A->B):if b=true then A else B:=by
 cases b
 ·exact k rfl h
 ·exact h
section
variable {P:Program} {w:World} {K:PySem.W.Frag} {mg:Str->Option Value} {base:Heap}
def spTr:Sp:=fun vs H Q _=>∃ (p dc:Addr) (n:Nat),vs=[.ref p,.int n]/\Dr H p dc/\n≤6/\∀ q ys gss H',H' q=some (.lst ys)->Paired (RA q H') ys gss->gss.length=n->(∀ gs∈gss,Rw gs 1000 1000 6)->H q=none->Dr H' p dc->But p H H'->Q (.ref q) H'
abbrev NTr:List Str:=["_law_d","_law_lanes","_law_rows","_law_lane","_law_place","_law_time","_law_told","_law_step"]
theorem scTr:FnScope NTr ["_law_d","_law_lanes"] (defScope (top 19)):=⟨rfl,rfl,rfl,by decide +kernel,rfl,by decide +kernel,by decide +kernel⟩
theorem ok_tr {f fP fO:Addr} {fd fdP fdO:FuncData} (F:Fun K "_law_told_rows" "_law_told_rows" (top 19) f fd) (T:Txt K mg) (DP:Def K mg "_law_pick" (top 14) ["_law_d","_law_many"] fP fdP) (DO:Def K mg "_law_of" (top 15) ["_law_d","_law_things"] fO fdO):FnOk P w K mg base CX0 3 f fd ["_law_d","_law_lanes"] spTr:=by
 have GP:FnOk P w K mg base CX0 1 fP fdP ["_law_d","_law_many"] spPick:=ok_pick DP.F T
 have GO:FnOk P w K mg base CX0 2 fO fdO ["_law_d","_law_things"] (spOf K):=ok_of DO.F T DP
 refine F.ok scTr (fun vs H Q E h=>?_) (fun cdv A outer s H vs Q E hr h=>?_)
 ·obtain ⟨p,dc,n,rfl,_⟩:=h
  rfl
 ·obtain ⟨p,dc,n,rfl,D0,n6,k⟩:=h
  have hr1:Room 1 _:=hr.mono (by decide)
  have hr2:Room 2 _:=hr.mono (by decide)
  refine ⟨_,(pss_cons (ps_set (i:=2) scTr.nd rfl (by first|exact Or.inl rfl|exact Or.inr rfl) (pe_lst pa_nil))
   (pss_cons (ps_for PassesOwn.never rfl (pi_range1 rfl T.range (pa_cons (pv 1) pa_nil)) (pg_name (i:=3) scTr.nd rfl (by first|exact Or.inl rfl|exact Or.inr rfl))
   (pss_cons (ps_par3 (i:=4) (j:=5) (l:=6) rfl scTr.nd rfl rfl rfl rfl rfl rfl (pa_cons pe_int (pa_cons pe_int (pa_cons (pe_lst pa_nil) pa_nil))) rfl)
   (pss_cons (ps_for PassesOwn.never rfl (pi_range1 rfl T.range (pa_cons (pe_call GP hr1 rfl DP.mg DP.F.kp DP.b .nil pass0 (pa_cons (pv 0) (pa_cons pe_int pa_nil))) pa_nil)) (pg_name (i:=7) scTr.nd rfl (by first|exact Or.inl rfl|exact Or.inr rfl))
   (pss_cons (ps_set (i:=5) scTr.nd rfl (by first|exact Or.inl rfl|exact Or.inr rfl) (pe_op op_add (pv 5) (pe_call GO hr2 rfl DO.mg DO.F.kp DO.b .nil pass0 (pa_cons (pv 0) (pa_cons (pe_lst (pa_cons pe_int (pa_cons pe_int (pa_cons pe_int (pa_cons (pe_call GP hr1 rfl DP.mg DP.F.kp DP.b .nil pass0 (pa_cons (pv 0) (pa_cons pe_int pa_nil))) pa_nil))))) pa_nil)))))
   (pss_cons (ps_if (PW.pt (pw_and (pt_cmpR op_eq (pe_call GP hr1 rfl DP.mg DP.F.kp DP.b .nil pass0 (pa_cons (pv 0) (pa_cons pe_int pa_nil))) pe_int (nomark _)) (pw_and1 (PW.pt (pw_or (pt_cmpR (op_eqD hr.units) (pv 6) (pe_lst pa_nil) (nomark _)) (pw_or1 (pt_cmpR op_eq (pe_ix (r:=rIx K) ix_seq (pe_ix (r:=rIx K) ix_seq (pv 6) (pe_un un_neg pe_int) (fun _ _=>rfl)) pe_int (fun _ _=>rfl)) pe_str (nomark _)))))))) (pss_cons (ps_expr (pe_bm PySem.F.plainAttrs_list PySem.F.slot_list_append PySem.F.type_list_append mt_append (pv 6) (pa_cons (pe_tup (pa_cons pe_str (pa_cons (pe_op op_add pe_int (pe_call GP hr1 rfl DP.mg DP.F.kp DP.b .nil pass0 (pa_cons (pv 0) (pa_cons pe_int pa_nil)))) pa_nil))) pa_nil)))
   (pss_one (ps_set (i:=4) scTr.nd rfl (by first|exact Or.inl rfl|exact Or.inr rfl) (pe_op op_add (pv 4) (pe_ix (r:=rIx K) ix_seq (pe_ix (r:=rIx K) ix_seq (pv 6) (pe_un un_neg pe_int) (fun _ _=>rfl)) pe_int (fun _ _=>rfl)))))) pss_nil)
   (pss_cons (ps_expr (pe_bm PySem.F.plainAttrs_list PySem.F.slot_list_append PySem.F.type_list_append mt_append (pv 6) (pa_cons (pe_tup (pa_cons pe_str (pa_cons (pv 4) (pa_cons (pv 5) (pa_cons (pe_call GO hr2 rfl DO.mg DO.F.kp DO.b .nil pass0 (pa_cons (pv 0) (pa_cons (pe_lst (pa_cons pe_str (pa_cons pe_str pa_nil))) pa_nil))) (pa_cons (pe_tup (pa_cons (pv 3) (pa_cons (pv 7) pa_nil))) pa_nil)))))) pa_nil)))
   (pss_one (ps_set (i:=4) scTr.nd rfl (by first|exact Or.inl rfl|exact Or.inr rfl) (pe_op op_add (pv 4) pe_int)))))))
   (pss_one (ps_expr (pe_bm PySem.F.plainAttrs_list PySem.F.slot_list_append PySem.F.type_list_append mt_append (pv 2) (pa_cons (pv 6) pa_nil)))))))
   (pss_one (ps_ret (pv 2))))),?_⟩
  have z0:0≤sizeLine:=by decide
  refine ⟨z0,fun rq hrq=>?_⟩
  dsimp only [gName,List.set]
  have b1:But p H (upd H rq (.lst [])):=fun b u e _=>Same.new hrq b u e
  have e1:upd H rq (.lst []) rq=some (.lst []):=upd_same
  have D1:Dr (upd H rq (.lst [])) p dc:=D0.new hrq
  generalize upd H rq (.lst [])=H1 at b1 e1 D1 ⊢
  refine ⟨_,rfl,_,rfl,by omega,by omega,?_⟩
  refine for_range (n:=n) (fun i σ' H'=>∃ v3 v4 v5 v6 v7 ys gss,σ'=[some (.ref p),some (.int n),some (.ref rq),v3,v4,v5,v6,v7]/\H' rq=some (.lst ys)/\Paired (RA rq H') ys gss/\gss.length=i/\(∀ gs∈gss,Rw gs 1000 1000 6)/\Dr H' p dc/\But p H H') ⟨none,none,none,none,none,[],[],rfl,e1,.nil,rfl,fun gs h=>by simp at h,D1,b1⟩ ?_ ?_
  ·rintro i σ' H2 hi ⟨v3,v4,v5,v6,v7,ys,gss,rfl,hq,pr,gl,rw',D2,b2⟩
   dsimp only [gName]
   refine ⟨z0,fun te hte=>⟨_,_,_,rfl,?_⟩⟩
   dsimp only [List.set]
   have tdc:te≠dc:=by
    obtain ⟨cx,hcx⟩:=D2.cell
    exact Ne.symm (ne_of_none hcx hte)
   have trq:te≠rq:=Ne.symm (ne_of_none hq hte)
   have b3:But p H2 (upd H2 te (.lst [])):=fun b u e _=>Same.new hte b u e
   have e3:upd H2 te (.lst []) te=some (.lst []):=upd_same
   have D3:Dr (upd H2 te (.lst [])) p dc:=D2.new hte
   generalize upd H2 te (.lst [])=H3 at b3 e3 D3 ⊢
   refine seq_by (fun σ' H'=>∃ (v4 v5 v7:Option V) (xs:List V) (gs:List Tg),σ'=[some (.ref p),some (.int n),some (.ref rq),some (.int (0+(i:Int))),v4,v5,some (.ref te),v7]/\H' te=some (.lst xs)/\Paired (TgA H') xs gs/\Rw gs 1000 1000 6/\Dr H' p dc/\But p H2 H') ?nx1 fun N hN=>?st1
   case st1=>
    refine ⟨_,rfl,p,dc,_,rfl,D3,by decide,by decide,fun r H4 r0 r1 D4 b4=>?_⟩
    have e4:=b4 _ _ e3 (D3.ne e3 (by intro _ z;cases z))
    refine ⟨_,rfl,by omega,by omega,?_⟩
    refine for_range (n:=r.toNat) (fun j σ' H'=>∃ (pl tm:Int) (v7:Option V) (xs:List V) (gs:List Tg),σ'=[some (.ref p),some (.int n),some (.ref rq),some (.int (0+(i:Int))),some (.int pl),some (.int tm),some (.ref te),v7]/\H' te=some (.lst xs)/\Paired (TgA H') xs gs/\Rw gs pl tm j/\0≤pl/\pl≤5*(j:Int)/\0≤tm/\tm≤29*(j:Int)/\Dr H' p dc/\But p H2 H') ⟨0,0,_,[],[],rfl,e4,.nil,⟨.nil,fun e h=>by simp at h,by simp,by simp⟩,by omega,by omega,by omega,by omega,D4,b3.trans b4⟩ ?_ ?_
    ·rintro j σ' H5 hj ⟨pl,tm,v7,xs,gs,rfl,ht,pt,R,p0,p1,t0,t1,D5,b5⟩
     dsimp only [gName]
     refine seq_by (fun σ' H'=>∃ (tm':Int),σ'=[some (.ref p),some (.int n),some (.ref rq),some (.int (0+(i:Int))),some (.int pl),some (.int tm'),some (.ref te),some (.int (0+(j:Int)))]/\tm≤tm'/\tm'≤tm+29/\H' te=some (.lst xs)/\Paired (TgA H') xs gs/\Dr H' p dc/\But p H2 H') ?nx2 fun N2 hN2=>?st2
     case st2=>
      refine ⟨_,rfl,_,rfl,_,rfl,p,dc,_,rfl,D5,by decide,by decide,fun r2 H6 r3 r4 D6 b6=>⟨(by show 4≤sizeLine;decide),fun l hl=>⟨p,dc,l,_,rfl,D6.new hl,SqL.of upd_same,by simp,by simp,fun x H7 hx D7 b7=>?_⟩⟩⟩
      have hx:∃ t:Int,x=.int t/\0≤t/\t≤29:=by
       simp only [List.mem_cons,List.not_mem_nil,or_false] at hx
       rcases hx with rfl|rfl|rfl|rfl
       ·exact ⟨0,rfl,by decide,by decide⟩
       ·exact ⟨1,rfl,by decide,by decide⟩
       ·exact ⟨2,rfl,by decide,by decide⟩
       ·exact ⟨r2,rfl,by omega,by omega⟩
      obtain ⟨t,rfl,u0,u1⟩:=hx
      have bb:But p H5 H7:=(b6.trans fun b u e _=>Same.new hl b u e).trans b7
      exact ⟨_,_,rfl,rfl,hN2 _ _ ⟨tm+t,rfl,by omega,by omega,bb _ _ ht (D5.ne ht (by intro _ z;cases z)),tgs_tk (TK.but D5 bb) pt,D7,b5.trans bb⟩⟩
     rintro σ' H6 ⟨tm',rfl,l1,l2,ht,pt,D6,b6⟩
     clear D5 b5
     have xl:=Paired.length pt
     have gl2:=R.l
     refine seq_by (fun σ' H'=>∃ (pl':Int) (xs':List V) (gs':List Tg),σ'=[some (.ref p),some (.int n),some (.ref rq),some (.int (0+(i:Int))),some (.int pl'),some (.int tm'),some (.ref te),some (.int (0+(j:Int)))]/\pl≤pl'/\pl'≤pl+4/\H' te=some (.lst xs')/\Paired (TgA H') xs' gs'/\gs'.filterMap tgO=gs.filterMap tgO/\gs'.length≤gs.length+1/\Dr H' p dc/\But p H2 H') ?nx3 fun N3 hN3=>?st3
     case st3=>
      refine ⟨_,rfl,p,dc,_,rfl,D6,by decide,by decide,fun r2 H7 r3 r4 D7 b7=>?_⟩
      have ht7:=b7 _ _ ht (D6.ne ht (by intro _ z;cases z))
      have pt7:=tgs_tk (TK.but D6 b7) pt
      have b7:=b6.trans b7
      have skip:N3 [some (.ref p),some (.int n),some (.ref rq),some (.int (0+(i:Int))),some (.int pl),some (.int tm'),some (.ref te),some (.int (0+(j:Int)))] H7:=hN3 _ _ ⟨pl,xs,gs,rfl,by omega,by omega,ht7,pt7,rfl,by omega,D7,b7⟩
      refine ⟨rfl,_,rfl,?_⟩
      refine ite2 (fun z=>?_) (fun z=>skip)
      clear skip
      refine ⟨_,rfl,z0,fun l hl=>?_⟩
      have s8:Same H7 (upd H7 l (.lst [])):=Same.new hl
      have e8:upd H7 l (.lst []) l=some (.lst []):=upd_same
      have D8:Dr (upd H7 l (.lst [])) p dc:=D7.new hl
      generalize upd H7 l (.lst [])=H8 at s8 e8 D8 ⊢
      have ht8:=s8 _ _ ht7
      have pt8:=tgs_tk (Same.tk s8) pt7
      have b8:But p H2 H8:=b7.trans fun b u e _=>s8 b u e
      have skip:N3 [some (.ref p),some (.int n),some (.ref rq),some (.int (0+(i:Int))),some (.int pl),some (.int tm'),some (.ref te),some (.int (0+(j:Int)))] H8:=hN3 _ _ ⟨pl,xs,gs,rfl,by omega,by omega,ht8,pt8,rfl,by omega,D8,b8⟩
      have dp:=tgs_dep gs
      refine ⟨.list (gs.map tgD),.list [],.lst (SqL.of ht8) (tgs_rep pt8),.lst (SqL.of e8) .nil,by simp only [pdDep];omega,_,rfl,or_same ?_ fun z2 th=>?_⟩
      ·refine ⟨_,rfl,.inl ⟨rfl,_,SqL.of ht8⟩,?_⟩
       refine ⟨_,rfl,p,dc,_,rfl,D8,by decide,by decide,fun r5 H9 r6 r7 D9 b9=>⟨_,_,rfl,rfl,(by show 2≤sizeLine;decide),fun pe hpe=>?_⟩⟩
       have bb:But p H8 (upd H9 pe (.tup [.str "lost",.int (1+r5)])):=b9.trans fun b u e _=>Same.new hpe b u e
       have e9:upd H9 pe (.tup [.str "lost",.int (1+r5)]) pe=some (.tup [.str "lost",.int (1+r5)]):=upd_same
       have D10:Dr (upd H9 pe (.tup [.str "lost",.int (1+r5)])) p dc:=D9.new hpe
       generalize upd H9 pe (.tup [.str "lost",.int (1+r5)])=H10 at bb e9 D10 ⊢
       have ht10:=bb _ _ ht8 (D8.ne ht8 (by intro _ z;cases z))
       refine ⟨te,_,_,rfl,rfl,ht10,Nat.lt_of_le_of_lt (show _≤20 by omega) (by decide),?_⟩
       have kq:TK H10 (upd H10 te (.lst (xs++[.ref pe]))):=fun b zs e=>by
        rw [upd_ne (ne_of e ht10 (by intro z;cases z))]
        exact e
       have pl10:=kq _ _ e9
       refine EvE.op (EvE.var rfl) (EvE.op (EvE.op (EvE.var rfl) (EvE.neg EvE.con) (EvR.ixL (SqL.of upd_same) (atI_last (x:=.ref pe) (by simp)))) EvE.con (EvR.ixT (SqT.of pl10) (atI_nat (j:=1) rfl))) EvR.i0 _ ?_
       refine hN3 _ _ ⟨pl+(1+r5),xs++[.ref pe],gs++[.lo (1+r5)],rfl,by omega,by omega,upd_same,Paired.snoc ⟨pe,rfl,pl10⟩ (tgs_tk kq (tgs_tk (TK.but D8 bb) pt8)),by rw [List.filterMap_append];simp [tgO],by rw [List.length_append];exact Nat.le_refl _,D10.put (D10.ne ht10 (by intro _ z;cases z)) tdc,fun b u e ne=>?_⟩
       rw [upd_ne (ne_of_none e hte)]
       exact bb _ _ (b8 _ _ e ne) ne
      ·have ne:xs≠[]:=fun z=>by
        rw [z] at xl
        cases gs with
        |nil=>simp [pdEq,pdEqs] at z2
        |cons g r=>simp at xl
       have hl':xs.length-1<xs.length:=by
        have:=List.length_pos_iff.mpr ne
        omega
       have hx:=List.getElem?_eq_getElem hl'
       generalize xs[xs.length-1]=x at hx
       obtain ⟨g,hg,tg⟩:=pd_get pt8 hx
       cases g with
       | ev a1 a2 a3 a4 a5=>
         obtain ⟨p',t',rfl,e1,e2⟩:=tg
         exact EvE.op (EvE.op (EvE.op (EvE.var rfl) (EvE.neg EvE.con) (EvR.ixL (SqL.of ht8) (atI_last hx))) EvE.con (EvR.ixT (SqT.of e1) (atI_nat (j:=0) rfl))) EvE.con (EvR.eq rfl) _ ⟨_,rfl,ifT (by simp) th⟩
       | lo a1=>
         obtain ⟨p',rfl,e1⟩:=tg
         exact EvE.op (EvE.op (EvE.op (EvE.var rfl) (EvE.neg EvE.con) (EvR.ixL (SqL.of ht8) (atI_last hx))) EvE.con (EvR.ixT (SqT.of e1) (atI_nat (j:=0) rfl))) EvE.con (EvR.eq rfl) _ ⟨_,rfl,ifF (by rw [decide_eq_false_iff_not];intro z;exact absurd (V.str.inj z) (by decide)) skip⟩
     rintro σ' H7 ⟨pl',xs',gs',rfl,l3,l4,ht,pt,eg,gl3,D7,b7⟩
     have xl':=Paired.length pt
     refine ⟨_,rfl,.inl ⟨rfl,_,SqL.of ht⟩,_,rfl,_,rfl,_,rfl,(by show 2≤sizeLine;decide),fun l hl=>⟨p,dc,l,_,rfl,D7.new hl,SqL.of upd_same,by simp,by simp,fun x H8 hx D8 b8=>?_⟩⟩
     have hx:∃ nm:Str,x=.str nm:=by
      simp only [List.mem_cons,List.not_mem_nil,or_false] at hx
      rcases hx with rfl|rfl
      ·exact ⟨_,rfl⟩
      ·exact ⟨_,rfl⟩
     obtain ⟨nm,rfl⟩:=hx
     refine ⟨_,rfl,_,rfl,(by show 2≤sizeLine;decide),fun ps hps=>⟨(by show 5≤sizeLine;decide),fun pe hpe=>?_⟩⟩
     have bA:But p H7 H8:=(fun b u e ne=>b8 _ _ (Same.new hl b u e) ne:But p H7 H8)
     have sA:Same H8 (upd H8 ps (.tup [.int (0+(i:Int)),.int (0+(j:Int))])):=Same.new hps
     have e1:upd H8 ps (.tup [.int (0+(i:Int)),.int (0+(j:Int))]) ps=some (.tup [.int (0+(i:Int)),.int (0+(j:Int))]):=upd_same
     generalize upd H8 ps (.tup [.int (0+(i:Int)),.int (0+(j:Int))])=HA at sA e1 hpe ⊢
     have sB:Same HA (upd HA pe (.tup [.str "event",.int pl',.int tm',.str nm,.ref ps])):=Same.new hpe
     have e2:upd HA pe (.tup [.str "event",.int pl',.int tm',.str nm,.ref ps]) pe=some (.tup [.str "event",.int pl',.int tm',.str nm,.ref ps]):=upd_same
     generalize upd HA pe (.tup [.str "event",.int pl',.int tm',.str nm,.ref ps])=HB at sB e2 ⊢
     have sAB:=sA.trans sB
     have bb:But p H7 HB:=bA.trans fun b u e _=>sAB b u e
     have D9:=D8.mono sAB
     have ht9:=bb _ _ ht (D7.ne ht (by intro _ z;cases z))
     refine ⟨te,_,_,rfl,rfl,ht9,Nat.lt_of_le_of_lt (show _≤20 by omega) (by decide),?_⟩
     have kq:TK HB (upd HB te (.lst (xs'++[.ref pe]))):=fun b zs e=>by
      rw [upd_ne (ne_of e ht9 (by intro z;cases z))]
      exact e
     refine ⟨_,rfl,_,_,rfl,rfl,?_⟩
     refine ⟨pl'+1,tm',_,xs'++[.ref pe],gs'++[.ev pl' tm' nm (0+(i:Int)) (0+(j:Int))],rfl,upd_same,Paired.snoc ⟨pe,ps,rfl,kq _ _ e2,kq _ _ (sB _ _ e1)⟩ (tgs_tk kq (tgs_tk (TK.but D7 bb) pt)),Rw.ev (by rw [eg];exact R.up) (fun e he=>?_) (by rw [eg];exact R.n) (by omega) (by omega) (by omega),by omega,by omega,by omega,by omega,D9.put (D9.ne ht9 (by intro _ z;cases z)) tdc,fun b u e ne=>?_⟩
     ·rw [eg] at he
      have:=R.lo e he
      omega
     ·rw [upd_ne (ne_of_none e hte)]
      exact bb _ _ (b7 _ _ e ne) ne
    ·rintro σ' H5 ⟨pl,tm,v7,xs,gs,rfl,ht,pt,R,p0,p1,t0,t1,D5,b5⟩
     have rn:r.toNat≤6:=by omega
     exact hN _ _ ⟨_,_,_,xs,gs,rfl,ht,pt,⟨R.up,fun e he=>by have:=R.lo e he;omega,Nat.le_trans R.n rn,by have:=R.l;omega⟩,D5,b5⟩
   rintro σ' H4 ⟨v4,v5,v7,xs,gs,rfl,ht,pt,R,D4,b4⟩
   have hq4:=b4 _ _ hq (D2.ne hq (by intro _ z;cases z))
   have yl:=Paired.length pr
   refine ⟨_,rfl,.inl ⟨rfl,_,SqL.of hq4⟩,_,rfl,rq,_,_,rfl,rfl,hq4,Nat.lt_of_le_of_lt (show _≤6 by omega) (by decide),?_⟩
   have kq:TK H4 (upd H4 rq (.lst (ys++[.ref te]))):=fun b zs e=>by
    rw [upd_ne (ne_of e hq4 (by intro z;cases z))]
    exact e
   refine ⟨_,_,_,_,_,ys++[.ref te],gss++[gs],rfl,upd_same,Paired.snoc ⟨te,xs,rfl,trq,by rw [upd_ne trq];exact ht,tgs_tk kq pt⟩ (pd_map (fun v g z=>(z.kp (TK.but D2 b4) fun b zs e _=>b4 _ _ e (D2.ne e (by intro _ z;cases z))).kp kq fun b zs e ne=>by rw [upd_ne ne];exact e) pr),by rw [List.length_append,gl];rfl,fun g hg=>?_,D4.put (D4.ne hq4 (by intro _ z;cases z)) ?_,fun b u e ne=>?_⟩
   ·rcases List.mem_append.mp hg with z|z
    ·exact rw' g z
    ·cases List.mem_singleton.mp z
     exact R
   ·obtain ⟨cx,hcx⟩:=D0.cell
    exact Ne.symm (ne_of_none hcx hrq)
   ·rw [upd_ne (ne_of_none e hrq)]
    exact b4 _ _ (b2 _ _ e ne) ne
  ·rintro σ' H2 ⟨v3,v4,v5,v6,v7,ys,gss,rfl,hq,pr,gl,rw',D2,b2⟩
   exact ⟨_,rfl,k rq ys gss H2 hq pr gl rw' hrq D2 b2⟩
end
theorem _root_.L2.CompScope.ofN {X:Cx} {osc sc0 scope:Scope} {N0 own N':List Str} {js:List Nat} {cl:List (Str×Addr)} {C:Addr} {s₀:Shared} {H₀:Hp} {ex:List Addr} (h1:X.env.scope=osc) (h:CompS (relS sc0 osc) N0 scope own js N'):CompScope (cxComp X sc0 N0 cl C s₀ H₀ ex) scope own js N':=by
 subst h1
 exact CompScope.of (osc:=relS sc0 X.env.scope) (N:=N0) rfl rfl h
theorem mod_ne {a k n:Int} (h0:0≤a) (h1:a<n) (h2:1≤k) (h3:k<n):0≤(a+k) % n/\(a+k) % n<n/\a≠(a+k) % n:=by
 by_cases h:a+k<n
 ·rw [Int.emod_eq_of_lt (by omega) h]
  omega
 ·have e:(a+k) % n=a+k-n:=by
   rw [show a+k=(a+k-n)+n*1 by omega,Int.add_mul_emod_self_left,Int.emod_eq_of_lt (by omega) (by omega)]
   omega
  rw [e]
  omega
section
variable {P:Program} {w:World} {K:PySem.W.Frag} {mg:Str->Option Value} {base:Heap}
def spTy (K:PySem.W.Frag):Sp:=fun vs H Q _=>∃ (q:Addr) (xs:List V) (cs:List Cau),vs=[.ref q]/\SqL K H q xs/\Paired (CauAt H) xs cs/\cs.length≤100/\∀ r ys H',H' r=some (.lst ys)->Paired (TieAt H') ys (cs.map tieC)->H r=none->Same H H'->Q (.ref r) H'
theorem scTy:FnScope ["_law_causes_here"] ["_law_causes_here"] (defScope (top 21)):=⟨rfl,rfl,rfl,by decide +kernel,rfl,by decide +kernel,by decide +kernel⟩
theorem ok_ty {f:Addr} {fd:FuncData} (F:Fun K "_law_ties_by" "_law_ties_by" (top 21) f fd):FnOk P w K mg base CX0 1 f fd ["_law_causes_here"] (spTy K):=by
 refine F.ok scTy (fun vs H Q E h=>?_) (fun cdv A outer s H vs Q E hr h=>?_)
 ·obtain ⟨q,xs,cs,rfl,_⟩:=h
  rfl
 ·obtain ⟨q,xs,cs,rfl,hq,pc,cl,k⟩:=h
  refine ⟨_,(pss_one (ps_ret (pe_comp (g:=gT4 K) (own:=["_law_one","_law_time","_law_other","_law_second"]) (js:=[]) (N':=["_law_one","_law_time","_law_other","_law_second"]) (CompScope.of (osc:=defScope (top 21)) (N:=["_law_causes_here"]) rfl rfl ⟨rfl,by decide +kernel,by decide +kernel,by decide +kernel,rfl,by decide +kernel⟩) rfl (pi_list (pv 0))
   (fun _ _ _ _ _=>(pg_tup rfl (pgs_cons (pg_name (i:=0) (show List.Nodup (["_law_one","_law_time","_law_other","_law_second"]:List Str) by decide +kernel) rfl (Or.inl rfl) (Or.inr rfl)) (pgs_cons (pg_name (i:=1) (show List.Nodup (["_law_one","_law_time","_law_other","_law_second"]:List Str) by decide +kernel) rfl (Or.inl rfl) (Or.inr rfl)) (pgs_cons (pg_name (i:=2) (show List.Nodup (["_law_one","_law_time","_law_other","_law_second"]:List Str) by decide +kernel) rfl (Or.inl rfl) (Or.inr rfl)) (pgs_cons (pg_name (i:=3) (show List.Nodup (["_law_one","_law_time","_law_other","_law_second"]:List Str) by decide +kernel) rfl (Or.inl rfl) (Or.inr rfl)) pgs_nil)))))) (fun _ _ _ _ _=>pifs_nil)
   (fun _ _ _ _ _=>pe_tup (pa_cons (pv 2) (pa_cons (pv 0) (pa_cons (pe_op op_add (pe_op op_sub (pv 1) (pv 3)) pe_int) pa_nil))))))),?_⟩
  have z3:3≤sizeLine:=by decide
  have xl:=Paired.length pc
  refine ⟨_,rfl,q,rfl,⟨_,hq⟩,?_⟩
  refine comp_list (K:=K) (a:=q) (xs:=xs) (fun i ys σ' H2=>(∃ v0 v1 v2 v3,σ'=[v0,v1,v2,v3])/\Same H H2/\Paired (TieAt H2) ys ((cs.take i).map tieC)) (Nat.le_trans (show xs.length≤100 by omega) (by decide)) ⟨⟨none,none,none,none,rfl⟩,Same.refl _,.nil⟩ (fun i ys σ H2 _ e=>e.2.1.seq hq) ?_ ?_
  ·rintro i x ys σ' H2 hi hy ⟨⟨v0,v1,v2,v3,rfl⟩,s2,pe⟩ N hN
   obtain ⟨c,hc,b',rfl,hb⟩:=pd_get (caus_same s2 pc) hi
   refine ⟨b',_,rfl,SqT.of hb,rfl,_,_,rfl,_,_,rfl,_,_,rfl,_,_,rfl,rfl,?_⟩
   refine ⟨_,rfl,_,rfl,_,rfl,_,rfl,_,_,rfl,rfl,_,_,rfl,rfl,z3,fun p hp=>?_⟩
   refine hN _ _ _ (by rw [List.length_append,hy];rfl) ⟨⟨_,_,_,_,rfl⟩,s2.trans (Same.new hp),?_⟩
   rw [List.take_add_one,hc,List.map_append]
   exact Paired.snoc ⟨p,rfl,upd_same⟩ (ties_tk (Same.tk (Same.new hp)) pe)
  ·rintro ys σ' H2 hy ⟨⟨v0,v1,v2,v3,rfl⟩,s2,pe⟩
   rw [xl,List.take_length] at pe
   refine ⟨by rw [hy];exact Nat.le_trans (show xs.length≤100 by omega) (by decide),fun r hr'=>?_⟩
   exact k r ys _ upd_same (ties_tk (Same.tk (Same.new hr')) pe) (s2.free hr') (s2.trans (Same.new hr'))
def TmA (H:Hp) (v:V):Prop:=∃ (a:Addr) (ns:List Int),v=.ref a/\H a=some (.lst (ns.map V.int))/\ns≠[]/\ns.length≤20/\∀ t∈ns,0≤t/\t≤1000
theorem TmA.kp {H H':Hp} {v:V} {p dc:Addr} (h:TmA H v) (D:Dr H p dc) (b:But p H H'):TmA H' v:=by
 obtain ⟨a,ns,e,h1,h2⟩:=h
 exact ⟨a,ns,e,b _ _ h1 (D.ne h1 (by intro _ z;cases z)),h2⟩
def spCa:Sp:=fun vs H Q _=>∃ (p dc q nq:Addr) (n:Nat) (ys:List V) (gss:List (List Tg)),vs=[.ref p,.int n,.ref q]/\Dr H p dc/\n≤6/\H q=some (.lst ys)/\Paired (RA nq H) ys gss/\gss.length=n/\(∀ gs∈gss,Rw gs 1000 1000 6)/\
 ∀ r xs cs H',H' r=some (.lst xs)->Paired (CauAt H') xs cs->(∀ c∈cs,OkC n c)->cs.length≤7->H r=none->Dr H' p dc->But p H H'->Q (.ref r) H'
abbrev NCa:List Str:=["_law_d","_law_lanes","_law_rows","_law_found","_law_times","_law_step","_law_one","_law_other"]
theorem scCa:FnScope NCa ["_law_d","_law_lanes","_law_rows"] (defScope (top 20)):=⟨rfl,rfl,rfl,by decide +kernel,rfl,by decide +kernel,by decide +kernel⟩
theorem ok_ca {f fP fO:Addr} {fd fdP fdO:FuncData} (F:Fun K "_law_causes" "_law_causes" (top 20) f fd) (T:Txt K mg) (DP:Def K mg "_law_pick" (top 14) ["_law_d","_law_many"] fP fdP) (DO:Def K mg "_law_of" (top 15) ["_law_d","_law_things"] fO fdO):FnOk P w K mg base CX0 3 f fd ["_law_d","_law_lanes","_law_rows"] spCa:=by
 have GP:FnOk P w K mg base CX0 1 fP fdP ["_law_d","_law_many"] spPick:=ok_pick DP.F T
 have GO:FnOk P w K mg base CX0 2 fO fdO ["_law_d","_law_things"] (spOf K):=ok_of DO.F T DP
 refine F.ok scCa (fun vs H Q E h=>?_) (fun cdv A outer s H vs Q E hr h=>?_)
 ·obtain ⟨p,dc,q,nq,n,ys,gss,rfl,_⟩:=h
  rfl
 ·obtain ⟨p,dc,q,nq,n,ys,gss,rfl,D0,n6,hq,pr,gl,rw',k⟩:=h
  have hr1:Room 1 _:=hr.mono (by decide)
  have hr2:Room 2 _:=hr.mono (by decide)
  refine ⟨_,(pss_cons (ps_set (i:=3) scCa.nd rfl (by first|exact Or.inl rfl|exact Or.inr rfl) (pe_lst pa_nil))
   (pss_cons (ps_setComp (i:=4) (g:=gName 0) (own:=["_law_told"]) (js:=[0]) (N':=["_law_told","_law_d"]) (CompScope.of (osc:=defScope (top 20)) (N:=NCa) rfl rfl ⟨rfl,by decide +kernel,by decide +kernel,by decide +kernel,rfl,by decide +kernel⟩) rfl scCa.nd rfl rfl (pi_listK (K:=K) rfl (pv 2)) (fun _ _ _ _ _=>(pg_name (i:=0) (show List.Nodup (["_law_told","_law_d"]:List Str) by decide +kernel) rfl (Or.inl rfl) (Or.inr rfl))) (fun _ _ _ _ _=>pifs_nil) (fun _ _ _ _ _=>(pe_op op_cat (pe_comp (g:=gName 0) (own:=["_law_thing"]) (js:=[]) (N':=["_law_thing"]) (CompScope.ofN (osc:=defScope (top 20)) rfl ⟨rfl,by decide +kernel,by decide +kernel,by decide +kernel,rfl,by decide +kernel⟩) rfl (pi_listK (K:=K) rfl (pv 0)) (fun _ _ _ _ _=>(pg_name (i:=0) (show List.Nodup (["_law_thing"]:List Str) by decide +kernel) rfl (Or.inl rfl) (Or.inr rfl))) (fun _ _ _ _ _=>pifs_one (pt_cmpR op_eq (pe_ix (r:=rIx K) ix_seq (pv 0) pe_int (fun _ _=>rfl)) pe_str (nomark _))) (fun _ _ _ _ _=>(pe_ix (r:=rIx K) ix_seq (pv 0) pe_int (fun _ _=>rfl)))) (pe_lst (pa_cons (pe_call GP hr1 rfl DP.mg DP.F.kp DP.b .nil pass0 (pa_cons (pv 1) (pa_cons pe_int pa_nil))) pa_nil)))))
   (pss_cons (ps_if (pt_cmpR op_gt (pv 1) pe_int (nomark _)) (pss_one (ps_for PassesOwn.never rfl (pi_range1 rfl T.range (pa_cons (pe_call GP hr1 rfl DP.mg DP.F.kp DP.b .nil pass0 (pa_cons (pv 0) (pa_cons pe_int pa_nil))) pa_nil)) (pg_name (i:=5) scCa.nd rfl (by first|exact Or.inl rfl|exact Or.inr rfl))
   (pss_cons (ps_set (i:=6) scCa.nd rfl (by first|exact Or.inl rfl|exact Or.inr rfl) (pe_call GP hr1 rfl DP.mg DP.F.kp DP.b .nil pass0 (pa_cons (pv 0) (pa_cons (pv 1) pa_nil))))
   (pss_cons (ps_set (i:=7) scCa.nd rfl (by first|exact Or.inl rfl|exact Or.inr rfl) (pe_op op_mod (pe_op op_add (pe_op op_add (pv 6) pe_int) (pe_call GP hr1 rfl DP.mg DP.F.kp DP.b .nil pass0 (pa_cons (pv 0) (pa_cons (pe_op op_sub (pv 1) pe_int) pa_nil)))) (pv 1)))
   (pss_one (ps_expr (pe_bm PySem.F.plainAttrs_list PySem.F.slot_list_append PySem.F.type_list_append mt_append (pv 3) (pa_cons (pe_tup (pa_cons (pv 6) (pa_cons (pe_call GO hr2 rfl DO.mg DO.F.kp DO.b .nil pass0 (pa_cons (pv 0) (pa_cons (pe_ix (r:=rIx K) ix_seq (pv 4) (pv 6) (fun _ _=>rfl)) pa_nil))) (pa_cons (pv 7) (pa_cons (pe_call GO hr2 rfl DO.mg DO.F.kp DO.b .nil pass0 (pa_cons (pv 0) (pa_cons (pe_ix (r:=rIx K) ix_seq (pv 4) (pv 7) (fun _ _=>rfl)) pa_nil))) pa_nil))))) pa_nil)))))))) pss_nil)
   (pss_one (ps_ret (pv 3)))))),?_⟩
  have z0:0≤sizeLine:=by decide
  refine ⟨z0,fun fq hfq=>?_⟩
  dsimp only [gName,List.set]
  have s1:Same H (upd H fq (.lst [])):=Same.new hfq
  have e1:upd H fq (.lst []) fq=some (.lst []):=upd_same
  have D1:Dr (upd H fq (.lst [])) p dc:=D0.new hfq
  have b1:But p H (upd H fq (.lst [])):=fun b u e _=>s1 b u e
  have fdc:fq≠dc:=by
   obtain ⟨cx,hcx⟩:=D0.cell
   exact Ne.symm (ne_of_none hcx hfq)
  generalize upd H fq (.lst [])=H1 at s1 e1 D1 b1 ⊢
  have yl:=Paired.length pr
  refine seq_by (fun σ' H'=>∃ (tq:Addr) (zs:List V),σ'=[some (.ref p),some (.int n),some (.ref q),some (.ref fq),some (.ref tq),none,none,none]/\H' tq=some (.lst zs)/\zs.length=n/\(∀ z∈zs,TmA H' z)/\Dr H' p dc/\But p H1 H'/\H1 tq=none/\(∀ z∈zs,z≠.ref fq)) ?nx1 fun N hN=>?st1
  case st1=>
   refine ⟨_,rfl,q,rfl,⟨_,SqL.of (s1 _ _ hq)⟩,?_⟩
   refine comp_list (K:=K) (a:=q) (xs:=ys) (fun i zs σ' H'=>(∃ v,σ'=[v,some (.ref p)])/\Dr H' p dc/\But p H1 H'/\∀ z∈zs,TmA H' z/\z≠.ref fq) (Nat.le_trans (show ys.length≤6 by omega) (by decide)) ⟨⟨none,rfl⟩,D1,fun b u e _=>e,fun z h=>by simp at h⟩ (fun i zs σ H' _ e=>SqL.of (e.2.2.1 _ _ (s1 _ _ hq) (D1.ne (s1 _ _ hq) (by intro _ z;cases z)))) ?_ ?_
   ·rintro i x zs σ' H2 hi hy ⟨⟨v,rfl⟩,D2,b2,tm⟩ M hM
    obtain ⟨gs,hg,a,xs,rfl,_,ha,pt⟩:=pd_get pr hi
    have R:=rw' gs (List.mem_of_getElem? hg)
    have ha:=b2 _ _ (s1 _ _ ha) (D1.ne (s1 _ _ ha) (by intro _ z;cases z))
    have pt:=tgs_tk (TK.but D1 b2) (tgs_tk (Same.tk s1) pt)
    have xl:=Paired.length pt
    have gl2:=R.l
    have gn:=R.n
    dsimp only [gName]
    refine ⟨_,rfl,a,rfl,⟨_,SqL.of ha⟩,?_⟩
    refine comp_listF (K:=K) (a:=a) (xs:=xs) (fun j us σ' H'=>(∃ v,σ'=[v])/\H'=H2/\us=(((gs.take j).filterMap tgO).map fun e=>e.2).map V.int) (Nat.le_trans (show xs.length≤12 by omega) (by decide)) ⟨⟨none,rfl⟩,rfl,rfl⟩ (fun j us σ H' _ e=>by rw [e.2.1];exact SqL.of ha) ?_ ?_
    ·rintro j x us σ' H' hj ⟨⟨v,rfl⟩,rfl,rfl⟩ M2 hM2
     obtain ⟨g,hg2,tg⟩:=pd_get pt hj
     dsimp only [gName]
     cases g with
     | ev a1 a2 a3 a4 a5=>
       obtain ⟨p',t',rfl,e1',e2'⟩:=tg
       refine EvE.op (EvE.op (EvE.var rfl) EvE.con (EvR.ixT (SqT.of e1') (atI_nat (j:=0) rfl))) EvE.con (EvR.eq rfl) _ ⟨_,rfl,ifT (by simp) ?_⟩
       refine EvE.op (EvE.var rfl) EvE.con (EvR.ixT (SqT.of e1') (atI_nat (j:=2) rfl)) _ (hM2 _ _ _ ⟨⟨_,rfl⟩,rfl,?_⟩ (by simp))
       rw [List.take_add_one,hg2,List.filterMap_append,List.map_append,List.map_append]
       rfl
     | lo a1=>
       obtain ⟨p',rfl,e1'⟩:=tg
       refine EvE.op (EvE.op (EvE.var rfl) EvE.con (EvR.ixT (SqT.of e1') (atI_nat (j:=0) rfl))) EvE.con (EvR.eq rfl) _ ⟨_,rfl,ifF (by rw [decide_eq_false_iff_not];intro z;exact absurd (V.str.inj z) (by decide)) (hM2 _ _ _ ⟨⟨_,rfl⟩,rfl,?_⟩ (by omega))⟩
       rw [List.take_add_one,hg2,List.filterMap_append]
       simp [tgO]
    ·rintro us σ' H' hu ⟨⟨v,rfl⟩,rfl,rfl⟩
     have el:gs.take xs.length=gs:=List.take_of_length_le (by omega)
     rw [el]
     have ul:((gs.filterMap tgO).map fun e=>e.2).length≤6:=by rw [List.length_map];exact gn
     have ub:∀ t∈(gs.filterMap tgO).map (fun e=>e.2),0≤t/\t≤1000:=fun t ht=>by
      obtain ⟨e,he,rfl⟩:=List.mem_map.mp ht
      exact (R.lo e he).2.2
     generalize (gs.filterMap tgO).map (fun e=>e.2)=us at ul ub ⊢
     refine ⟨by rw [List.length_map];exact Nat.le_trans ul (by decide),fun l hl=>?_⟩
     have s3:Same H' (upd H' l (.lst (us.map V.int))):=Same.new hl
     have e3:upd H' l (.lst (us.map V.int)) l=some (.lst (us.map V.int)):=upd_same
     generalize upd H' l (.lst (us.map V.int))=H3 at s3 e3 ⊢
     have D3:=D2.mono s3
     refine ⟨_,rfl,p,dc,_,rfl,D3,by decide,by decide,fun r H4 r0 r1 D4 b4=>⟨(by show 1≤sizeLine;decide),fun l2 hl2=>?_⟩⟩
     have e4:=b4 _ _ e3 (D3.ne e3 (by intro _ z;cases z))
     refine ⟨l,l2,_,_,rfl,rfl,Same.new hl2 _ _ e4,upd_same,by rw [List.length_map];exact Nat.le_trans (show _≤7 by simp;omega) (by decide),fun l3 hl3=>?_⟩
     have s5:=(Same.new (o:=.lst [V.int r]) hl2).trans (Same.new (o:=.lst (us.map V.int++[V.int r])) hl3)
     have D5:=D4.mono s5
     have bb:But p H' (upd (upd H4 l2 (.lst [V.int r])) l3 (.lst (us.map V.int++[V.int r]))):=fun b u e ne=>s5 _ _ (b4 _ _ (s3 _ _ e) ne)
     refine hM _ _ _ (by rw [List.length_append,hy];rfl) ⟨⟨_,rfl⟩,D5,b2.trans bb,fun z hz=>?_⟩
     rcases List.mem_append.mp hz with h|h
     ·exact ⟨(tm z h).1.kp D2 bb,(tm z h).2⟩
     ·cases List.mem_singleton.mp h
      refine ⟨⟨l3,us++[r],rfl,by rw [upd_same,List.map_append];rfl,by simp,by rw [List.length_append,List.length_singleton];omega,fun t ht=>?_⟩,fun z=>?_⟩
      ·rcases List.mem_append.mp ht with h|h
       ·exact ub t h
       ·cases List.mem_singleton.mp h
        omega
      ·have f4:=bb _ _ (b2 _ _ e1 (D1.ne e1 (by intro _ z;cases z))) (D1.ne e1 (by intro _ z;cases z))
       have f5:=Same.new (o:=.lst [V.int r]) hl2 _ _ (b4 _ _ (s3 _ _ (b2 _ _ e1 (D1.ne e1 (by intro _ z;cases z)))) (D1.ne e1 (by intro _ z;cases z)))
       cases z
       rw [hl3] at f5
       cases f5
   ·rintro zs σ' H2 hy ⟨⟨v,rfl⟩,D2,b2,tm⟩
    refine ⟨by rw [hy];exact Nat.le_trans (show ys.length≤6 by omega) (by decide),fun l hl=>?_⟩
    have s3:Same H2 (upd H2 l (.lst zs)):=Same.new hl
    have nl:H1 l=none:=by
     cases hz:H1 l with
     |none=>rfl
     | some u=>
       by_cases e:l=p
       ·obtain ⟨kv,hkv⟩:=D2.dk
        rw [← e,hl] at hkv
        cases hkv
       ·have:=b2 _ _ hz e
        rw [hl] at this
        cases this
    exact hN _ _ ⟨l,zs,rfl,upd_same,by omega,fun z hz=>(tm z hz).1.kp D2 (fun b u e _=>s3 b u e),D2.mono s3,b2.trans fun b u e _=>s3 b u e,nl,fun z hz=>(tm z hz).2⟩
  rintro σ' H2 ⟨tq,zs,rfl,htq,zl,tm,D2,b2,ntq,zf⟩
  have f2:=b2 _ _ e1 (D1.ne e1 (by intro _ z;cases z))
  have ftq:fq≠tq:=ne_of_none e1 ntq
  refine seq_by (fun σ' H'=>∃ (v5 v6 v7:Option V) (xs:List V) (cs:List Cau),σ'=[some (.ref p),some (.int n),some (.ref q),some (.ref fq),some (.ref tq),v5,v6,v7]/\H' fq=some (.lst xs)/\Paired (CauAt H') xs cs/\(∀ c∈cs,OkC n c)/\cs.length≤7/\Dr H' p dc/\But p H H') ?nx2 fun N hN=>?st2
  case st2=>
   refine ⟨_,rfl,_,_,rfl,rfl,_,rfl,?_⟩
   refine ite2 (fun z=>?_) (fun z=>hN _ _ ⟨none,none,none,[],[],rfl,f2,.nil,fun c h=>by simp at h,by simp,D2,b1.trans b2⟩)
   have n2:2≤n:=by
    have:(1:Int)<n:=by simpa using z
    omega
   refine ⟨_,rfl,p,dc,_,rfl,D2,by decide,by decide,fun r H3 r0 r1 D3 b3=>?_⟩
   have f3:=b3 _ _ f2 (D2.ne f2 (by intro _ z;cases z))
   refine ⟨_,rfl,by omega,by omega,?_⟩
   refine for_range (n:=r.toNat) (fun i σ' H'=>∃ (v5 v6 v7:Option V) (xs:List V) (cs:List Cau),σ'=[some (.ref p),some (.int n),some (.ref q),some (.ref fq),some (.ref tq),v5,v6,v7]/\H' fq=some (.lst xs)/\Paired (CauAt H') xs cs/\(∀ c∈cs,OkC n c)/\cs.length=i/\Dr H' p dc/\∀ b u,H2 b=some u->b≠p->b≠fq->H' b=some u) ⟨none,none,none,[],[],rfl,f3,.nil,fun c h=>by simp at h,rfl,D3,fun b u e n1 _=>b3 _ _ e n1⟩ ?_ ?_
   ·rintro i σ' H4 hi ⟨v5,v6,v7,xs,cs,rfl,hf,pc,ok,cl,D4,b4⟩
    have xl:=Paired.length pc
    dsimp only [gName]
    refine ⟨_,rfl,_,rfl,p,dc,_,rfl,D4,by omega,by omega,fun a1 H5 a0 a2 D5 b5=>?_⟩
    refine ⟨_,rfl,_,_,rfl,rfl,_,rfl,_,rfl,_,_,rfl,rfl,p,dc,_,rfl,D5,by omega,by omega,fun k1 H6 k0 k2 D6 b6=>⟨_,_,rfl,rfl,_,rfl,_,_,rfl,rfl,(show (0:Int)<n by omega),?_⟩⟩
    have mm:=mod_ne (a:=a1) (k:=1+k1) (n:=n) a0 (by omega) (by omega) (by omega)
    rw [← Int.add_assoc] at mm
    dsimp only [gName,List.set]
    generalize (a1+1+k1) % (n:Int)=o1 at mm ⊢
    obtain ⟨m0,m1,m2⟩:=mm
    obtain ⟨a1,rfl⟩:=Int.eq_ofNat_of_zero_le a0
    obtain ⟨o1,rfl⟩:=Int.eq_ofNat_of_zero_le m0
    have b6:But p H4 H6:=b5.trans b6
    have c6:∀ b u,H2 b=some u->b≠p->b≠fq->H6 b=some u:=fun b u e x1 x2=>b6 _ _ (b4 _ _ e x1 x2) x1
    have hf:=b6 _ _ hf (D4.ne hf (by intro _ z;cases z))
    have pc:=pd_map (fun _ _ ⟨q',e,z⟩=>(⟨q',e,b6 _ _ z (D4.ne z (by intro _ y;cases y))⟩:CauAt H6 _ _)) pc
    have ht:=c6 _ _ htq (D2.ne htq (by intro _ z;cases z)) (Ne.symm ftq)
    have hA:a1<zs.length:=by omega
    have hB:o1<zs.length:=by omega
    have ea:=List.getElem?_eq_getElem hA
    have eb:=List.getElem?_eq_getElem hB
    generalize zs[a1]=za at ea
    generalize zs[o1]=zb at eb
    have ea':atI zs (a1:Int)=some za:=atI_nat (j:=a1) ea
    have eb':atI zs (o1:Int)=some zb:=atI_nat (j:=o1) eb
    obtain ⟨ta,na,rfl,ga,ga1,ga2,ga3⟩:=tm za (List.mem_of_getElem? ea)
    obtain ⟨tb,nb,rfl,gb,gb1,gb2,gb3⟩:=tm zb (List.mem_of_getElem? eb)
    have na1:ta≠fq:=fun e=>zf _ (List.mem_of_getElem? ea) (by rw [e])
    have nb1:tb≠fq:=fun e=>zf _ (List.mem_of_getElem? eb) (by rw [e])
    have ga:=c6 _ _ ga (D2.ne ga (by intro _ z;cases z)) na1
    have gb:=c6 _ _ gb (D2.ne gb (by intro _ z;cases z)) nb1
    refine ⟨_,rfl,.inl ⟨rfl,_,SqL.of hf⟩,_,rfl,_,rfl,?_⟩
    refine EvE.op (EvE.var rfl) (EvE.var rfl) (EvR.ixL (SqL.of ht) ea') _ ?_
    refine ⟨p,dc,ta,_,rfl,D6,SqL.of ga,by simpa using ga1,by rw [List.length_map];omega,fun x1 H7 hx1 D7 b7=>?_⟩
    obtain ⟨t1,ht1,rfl⟩:=List.mem_map.mp hx1
    have u1:=ga3 t1 ht1
    refine ⟨_,rfl,_,rfl,?_⟩
    have ht7:=b7 _ _ ht (D6.ne ht (by intro _ z;cases z))
    have gb7:=b7 _ _ gb (D6.ne gb (by intro _ z;cases z))
    refine EvE.op (EvE.var rfl) (EvE.var rfl) (EvR.ixL (SqL.of ht7) eb') _ ?_
    refine ⟨p,dc,tb,_,rfl,D7,SqL.of gb7,by simpa using gb1,by rw [List.length_map];omega,fun x2 H8 hx2 D8 b8=>?_⟩
    obtain ⟨t2,ht2,rfl⟩:=List.mem_map.mp hx2
    have u2:=gb3 t2 ht2
    refine ⟨(by show 4≤sizeLine;decide),fun pe hpe=>?_⟩
    have s9:Same H8 (upd H8 pe (.tup [.int a1,.int t1,.int o1,.int t2])):=Same.new hpe
    have e9:upd H8 pe (.tup [.int a1,.int t1,.int o1,.int t2]) pe=some (.tup [.int a1,.int t1,.int o1,.int t2]):=upd_same
    have D9:Dr (upd H8 pe (.tup [.int a1,.int t1,.int o1,.int t2])) p dc:=D8.new hpe
    generalize upd H8 pe (.tup [.int a1,.int t1,.int o1,.int t2])=H9 at s9 e9 D9 ⊢
    have b9:But p H6 H9:=(b7.trans b8).trans fun b u e _=>s9 b u e
    have hf:=b9 _ _ hf (D6.ne hf (by intro _ z;cases z))
    have pc:=pd_map (fun _ _ ⟨q',e,z⟩=>(⟨q',e,b9 _ _ z (D6.ne z (by intro _ y;cases y))⟩:CauAt H9 _ _)) pc
    refine ⟨fq,_,_,rfl,rfl,hf,Nat.lt_of_le_of_lt (show _≤20 by omega) (by decide),?_⟩
    have kq:TK H9 (upd H9 fq (.lst (xs++[.ref pe]))):=fun b zs e=>by
     rw [upd_ne (ne_of e hf (by intro z;cases z))]
     exact e
    refine ⟨_,_,_,xs++[.ref pe],cs++[⟨a1,t1,o1,t2⟩],rfl,upd_same,Paired.snoc ⟨pe,rfl,kq _ _ e9⟩ (pd_map (fun _ _ ⟨q',e,z⟩=>⟨q',e,kq _ _ z⟩) pc),fun c hc=>?_,by rw [List.length_append,cl];rfl,D9.put (D9.ne hf (by intro _ z;cases z)) fdc,fun b u e x1 x2=>?_⟩
    ·rcases List.mem_append.mp hc with h|h
     ·exact ok c h
     ·cases List.mem_singleton.mp h
      exact ⟨⟨by omega,by omega⟩,⟨by omega,by omega⟩,m2,⟨u1.1,Int.lt_of_le_of_lt u1.2 (by decide)⟩,⟨u2.1,Int.lt_of_le_of_lt u2.2 (by decide)⟩⟩
    ·rw [upd_ne x2]
     exact b9 _ _ (c6 _ _ e x1 x2) x1
   ·rintro σ' H4 ⟨v5,v6,v7,xs,cs,rfl,hf,pc,ok,cl,D4,b4⟩
    exact hN _ _ ⟨_,_,_,xs,cs,rfl,hf,pc,ok,by omega,D4,fun b u e ne=>b4 _ _ (b2 _ _ (b1 _ _ e ne) ne) ne (ne_of_none e hfq)⟩
  rintro σ' H3 ⟨v5,v6,v7,xs,cs,rfl,hf,pc,ok,cl,D3,b3⟩
  exact ⟨_,rfl,k fq xs cs H3 hf pc ok cl hfq D3 b3⟩
end
theorem _root_.L2.sl_tupK {X:Cx} {K:PySem.W.Frag} (hK:X.K=K):SlR X (rSlW K):=by
 subst hK
 exact sl_tupW
theorem _root_.L2.op_eqDK {X:Cx} {K:PySem.W.Frag} (hK:X.K=K) (hu:X.A.units+64<cLine):OpR X (compareOp .Eq) (rEqD K):=by
 subst hK
 exact op_eqD hu
theorem _root_.L2.op_neTK {X:Cx} {K:PySem.W.Frag} (hK:X.K=K) (hu:X.A.units+64<cLine):OpR X (compareOp .NotEq) (rNeT K):=by
 subst hK
 exact op_neT hu
theorem only_one {α β:Type} [DecidableEq β] {f:α->β}:∀ {l:List α},(l.map f).Nodup->∀ {x:α},x∈l->l.filter (fun y=>decide (f y=f x))=[x]
 | a::r,h,x,m=>by
   rw [List.map_cons,List.nodup_cons] at h
   rcases List.mem_cons.mp m with e|m
   ·subst e
    rw [List.filter_cons_of_pos (by simp),List.filter_eq_nil_iff.mpr]
    intro y hy z
    exact h.1 (List.mem_map.mpr ⟨y,hy,by simpa using z⟩)
   ·rw [List.filter_cons_of_neg,only_one h.2 m]
    intro z
    exact h.1 (List.mem_map.mpr ⟨x,m,by rw [of_decide_eq_true z]⟩)
theorem key_nodup {ns:List Int} {l:List Prr} (h:(l.map fun x=>(x.1,x.2.2.1)).Nodup):(l.map (keyP ns)).Nodup:=by
 rw [List.Nodup,List.pairwise_map] at h ⊢
 refine h.imp fun {a b} ne e=>ne ?_
 simp only [keyP,Prod.mk.injEq] at e
 rw [e.2.2,show a.1=b.1 by omega]
theorem evTo_mono (rs:List (List Thg)) {i:Nat}:∀ {n:Nat},i≤n->(evTo rs i).length≤(evTo rs n).length
 |0,h=>by rw [Nat.le_zero.mp h];exact Nat.le_refl _
 | n+1,h=>by
   by_cases e:i=n+1
   ·rw [e];exact Nat.le_refl _
   ·have:=evTo_mono rs (i:=i) (n:=n) (by omega)
    rw [evTo_succ,List.length_append]
    omega
def triD (t:Tri):List PyData:=[.int t.1,.int t.2.1,.int t.2.2]
theorem triD_eq (a b:Tri):pdEqs (triD a) (triD b)=decide (a=b):=by
 obtain ⟨a1,a2,a3⟩:=a
 obtain ⟨b1,b2,b3⟩:=b
 by_cases h:(a1,a2,a3)=(b1,b2,b3)
 ·cases h
  simp [triD,pdEqs,pdEq]
 ·rw [decide_eq_false h]
  refine Bool.eq_false_iff.mpr fun z=>h ?_
  simp [triD,pdEqs,pdEq] at z
  rw [z.1,z.2.1,z.2.2]
theorem triD_rep {K:PySem.W.Frag} {H:Hp} {b:Addr} {t:Tri} (h:SqT K H b (triV t)):Rep K H (.ref b) (.tuple (triD t)):=.tup h (.cons (.int _) (.cons (.int _) (.cons (.int _) .nil)))
def FdA (ns:List Int) (H:Hp) (v:V) (x:Prr):Prop:=∃ b,v=.ref b/\H b=some (.tup [.int (keyP ns x).1,.int x.1,.int x.2.2.1,x.2.1])
theorem fds_tk {ns:List Int} {H H':Hp} (k:TK H H') {vs:List V} {ps:List Prr} (h:Paired (FdA ns H) vs ps):Paired (FdA ns H') vs ps:=pd_map (fun _ _ ⟨b,e,z⟩=>⟨b,e,k _ _ z⟩) h
theorem sl_fd {K:PySem.W.Frag} {H:Hp} {Q:VK} {ns:List Int} {b:Addr} {x:Prr} (hb:H b=some (.tup [.int (keyP ns x).1,.int x.1,.int x.2.2.1,x.2.1])) (h:∀ p,H p=none->Q (.ref p) (upd H p (.tup (triV (keyP ns x))))):rSlW K (.ref b) none (some 3) H Q:=⟨b,_,rfl,SqT.of hb,⟨fun e=>absurd (show (3:Nat)=4 from congrArg List.length e) (by decide),fun p hp=>h p hp⟩⟩
def TrA (H:Hp) (v:V) (t:Tri):Prop:=∃ b,v=.ref b/\H b=some (.tup (triV t))
theorem tris_same {H H':Hp} (s:Same H H') {vs:List V} {ts:List Tri} (h:Paired (TrA H) vs ts):Paired (TrA H') vs ts:=pd_map (fun _ _ ⟨b,e,z⟩=>⟨b,e,s _ _ z⟩) h
theorem tris_in {K:PySem.W.Frag} {H:Hp} {vs:List V} {ts:List Tri} (h:Paired (TrA H) vs ts):Paired (TriIn K H) vs ts:=pd_map (fun _ _ ⟨b,e,z⟩=>⟨b,e,SqT.of z⟩) h
section
variable {P:Program} {w:World} {K:PySem.W.Frag} {mg:Str->Option Value} {base:Heap}
def spLd (K:PySem.W.Frag):Sp:=fun vs H Q _=>∃ (q r:Addr) (ys:List V) (rs:List (List Thg)) (ns:List Int),vs=[.ref q,.ref r]/\RowsIn K H q ys rs/\SqL K H r (ns.map V.int)/\ns.length=rs.length/\
 ∀ l vs ps H',ps.Perm (evTo rs rs.length)->ps.Pairwise (fun a b=>rkT (keyP ns a)<rkT (keyP ns b))->H' l=some (.lst vs)->Paired (PrA H') vs ps->H l=none->Same H H'->Q (.ref l) H'
abbrev NLd:List Str:=["_law_rows","_law_row","_law_found","_law_lane","_law_thing","_law_laid_here","_law_step","_law_first"]
theorem scLd:FnScope NLd ["_law_rows","_law_row"] (defScope (top 22)):=⟨rfl,rfl,rfl,by decide +kernel,rfl,by decide +kernel,by decide +kernel⟩
theorem ok_ld {f:Addr} {fd:FuncData} (F:Fun K "_law_laid" "_law_laid" (top 22) f fd) (T:Txt K mg):FnOk P w K mg base CX0 1 f fd ["_law_rows","_law_row"] (spLd K):=by
 refine F.ok scLd (fun vs H Q E h=>?_) (fun cdv A outer s H vs Q E hr h=>?_)
 ·obtain ⟨q,r,ys,rs,ns,rfl,_⟩:=h
  rfl
 ·obtain ⟨q,r,ys,rs,ns,rfl,R,hr',nl,k⟩:=h
  refine ⟨_,(pss_cons (ps_set (i:=2) scLd.nd rfl (by first|exact Or.inl rfl|exact Or.inr rfl) (pe_lst pa_nil))
   (pss_cons (ps_for PassesOwn.never rfl (pi_range1 rfl T.range (pa_cons (pe_callB call_len_seq (by rfl) T.len bt_len (pa_cons (pv 0) pa_nil)) pa_nil)) (pg_name (i:=3) scLd.nd rfl (by first|exact Or.inl rfl|exact Or.inr rfl))
   (pss_one (ps_for PassesOwn.never rfl (pi_listK (K:=K) rfl (pe_ix (r:=rIx K) ix_seq (pv 0) (pv 3) (fun _ _=>rfl))) (pg_name (i:=4) scLd.nd rfl (by first|exact Or.inl rfl|exact Or.inr rfl))
   (pss_one (ps_if (pt_cmpR op_eq (pe_ix (r:=rIx K) ix_seq (pv 4) pe_int (fun _ _=>rfl)) pe_str (nomark _)) (pss_one (ps_expr (pe_bm PySem.F.plainAttrs_list PySem.F.slot_list_append PySem.F.type_list_append mt_append (pv 2) (pa_cons (pe_tup (pa_cons (pe_op op_add (pe_ix (r:=rIx K) ix_seq (pv 4) pe_int (fun _ _=>rfl)) (pe_ix (r:=rIx K) ix_seq (pv 1) (pv 3) (fun _ _=>rfl))) (pa_cons (pv 3) (pa_cons (pe_ix (r:=rIx K) ix_seq (pv 4) pe_int (fun _ _=>rfl)) (pa_cons (pv 4) pa_nil))))) pa_nil)))) pss_nil)))))
   (pss_cons (ps_set (i:=5) scLd.nd rfl (by first|exact Or.inl rfl|exact Or.inr rfl) (pe_lst pa_nil))
   (pss_cons (ps_for PassesOwn.never rfl (pi_range1 rfl T.range (pa_cons (pe_callB call_len_seq (by rfl) T.len bt_len (pa_cons (pv 2) pa_nil)) pa_nil)) (pg_name (i:=6) scLd.nd rfl (by first|exact Or.inl rfl|exact Or.inr rfl))
   (pss_cons (ps_set (i:=7) scLd.nd rfl (by first|exact Or.inl rfl|exact Or.inr rfl) (pe_callB (call_minT (K:=K) rfl rfl hr.units) (by rfl) T.min bt_min (pa_cons (pe_comp (g:=gName 0) (own:=["_law_one"]) (js:=[]) (N':=["_law_one"]) (CompScope.of (osc:=defScope (top 22)) (N:=NLd) rfl rfl ⟨rfl,by decide +kernel,by decide +kernel,by decide +kernel,rfl,by decide +kernel⟩) rfl (pi_listK (K:=K) rfl (pv 2)) (fun _ _ _ _ _=>(pg_name (i:=0) (show List.Nodup (["_law_one"]:List Str) by decide +kernel) rfl (Or.inl rfl) (Or.inr rfl))) (fun _ _ _ _ _=>pifs_nil) (fun _ _ _ _ _=>(pe_slice (sl_tupK (K:=K) rfl) (pv 0) po_none (po_some pe_int)))) pa_nil)))
   (pss_cons (ps_expr (pe_bm PySem.F.plainAttrs_list PySem.F.slot_list_extend PySem.F.type_list_extend mt_extend (pv 5) (pa_cons (pe_comp (g:=gName 0) (own:=["_law_one"]) (js:=[7]) (N':=["_law_one","_law_first"]) (CompScope.of (osc:=defScope (top 22)) (N:=NLd) rfl rfl ⟨rfl,by decide +kernel,by decide +kernel,by decide +kernel,rfl,by decide +kernel⟩) rfl (pi_listK (K:=K) rfl (pv 2)) (fun _ _ _ _ _=>(pg_name (i:=0) (show List.Nodup (["_law_one","_law_first"]:List Str) by decide +kernel) rfl (Or.inl rfl) (Or.inr rfl))) (fun _ _ _ _ _=>pifs_one (pt_cmpR (op_eqDK (K:=K) rfl hr.units) (pe_slice (sl_tupK (K:=K) rfl) (pv 0) po_none (po_some pe_int)) (pv 1) (nomark _))) (fun _ _ _ _ _=>(pe_tup (pa_cons (pe_ix (r:=rIx K) ix_seq (pv 0) pe_int (fun _ _=>rfl)) (pa_cons (pe_ix (r:=rIx K) ix_seq (pv 0) pe_int (fun _ _=>rfl)) pa_nil))))) pa_nil)))
   (pss_one (ps_setComp (i:=2) (g:=gName 0) (own:=["_law_one"]) (js:=[7]) (N':=["_law_one","_law_first"]) (CompScope.of (osc:=defScope (top 22)) (N:=NLd) rfl rfl ⟨rfl,by decide +kernel,by decide +kernel,by decide +kernel,rfl,by decide +kernel⟩) rfl scLd.nd rfl rfl (pi_listK (K:=K) rfl (pv 2)) (fun _ _ _ _ _=>(pg_name (i:=0) (show List.Nodup (["_law_one","_law_first"]:List Str) by decide +kernel) rfl (Or.inl rfl) (Or.inr rfl))) (fun _ _ _ _ _=>pifs_one (pt_cmpR (op_neTK (K:=K) rfl hr.units) (pe_slice (sl_tupK (K:=K) rfl) (pv 0) po_none (po_some pe_int)) (pv 1) (nomark _))) (fun _ _ _ _ _=>pv 0))))))
   (pss_one (ps_ret (pv 5))))))),?_⟩
  have z0:0≤sizeLine:=by decide
  have few:=R.few
  have yl:=Paired.length R.at_
  have all64:=R.all
  refine ⟨z0,fun fq hfq=>?_⟩
  have s1:Same H (upd H fq (.lst [])):=Same.new hfq
  have e1:upd H fq (.lst []) fq=some (.lst []):=upd_same
  generalize upd H fq (.lst [])=H1 at s1 e1 ⊢
  dsimp only [gName,List.set]
  refine seq_by (fun σ' H'=>∃ (v3 v4:Option V) (us:List V),σ'=[some (.ref q),some (.ref r),some (.ref fq),v3,v4,none,none,none]/\H' fq=some (.lst us)/\Paired (FdA ns H') us (evTo rs rs.length)/\Same H H') ?nx1 fun N hN=>?st1
  case st1=>
   refine ⟨_,rfl,q,_,rfl,.inl (s1.seq R.sq),(rs.length:Int),by rw [yl],by omega,by omega,?_⟩
   refine for_range (n:=(rs.length:Int).toNat) (fun i σ' H'=>∃ (v3 v4:Option V) (us:List V),σ'=[some (.ref q),some (.ref r),some (.ref fq),v3,v4,none,none,none]/\H' fq=some (.lst us)/\Paired (FdA ns H') us (evTo rs i)/\Same H H') ⟨none,none,[],rfl,e1,.nil,s1⟩ ?_ ?_
   ·rintro i σ' H2 hi ⟨v3,v4,us,rfl,hf,pf,s2⟩
    have hi':i<rs.length:=by omega
    have hy:i<ys.length:=by omega
    have ey:=List.getElem?_eq_getElem hy
    generalize ys[i]=y at ey
    obtain ⟨row,hrow,a,rfl,ha,ev⟩:=pd_get R.at_ ey
    have er:rs.getD i []=row:=by rw [List.getD_eq_getElem?_getD,hrow];rfl
    have m1:=evTo_mono rs (show i+1≤rs.length by omega)
    rw [evTo_succ,er,List.length_append] at m1
    dsimp only [gName,List.set]
    rw [Int.zero_add]
    refine EvE.op (EvE.var rfl) (EvE.var rfl) (EvR.ixL (s2.seq R.sq) (atI_nat (j:=i) ey)) _ ⟨a,rfl,⟨_,SqL.of (s2 _ _ ha)⟩,?_⟩
    refine for_list (K:=K) (a:=a) (xs:=row.map (·.1)) (fun j σ' H'=>∃ (v4:Option V) (us:List V),σ'=[some (.ref q),some (.ref r),some (.ref fq),some (.int i),v4,none,none,none]/\H' fq=some (.lst us)/\Paired (FdA ns H') us (evTo rs i++evRow i (row.take j))/\Same H H') ⟨_,us,rfl,hf,by rw [List.take_zero];exact (List.append_nil (evTo rs i)).symm ▸ pf,s2⟩ (fun j σ H' _ ⟨_,_,_,_,_,s3⟩=>SqL.of (s3 _ _ ha)) ?_ ?_
    ·rintro j x σ' H3 hj ⟨v4,us,rfl,hf,pf,s3⟩
     rw [List.getElem?_map] at hj
     obtain ⟨⟨v,o⟩,hg,rfl⟩:=Option.map_eq_some_iff.mp hj
     obtain ⟨p',e',z⟩:=ev _ (List.mem_of_getElem? hg)
     dsimp only at e'
     subst e'
     have ul:=Paired.length pf
     have rt:(evRow i (row.take j)).length≤(evRow i row).length:=by
      unfold evRow
      exact ((List.take_sublist j row).filterMap _).length_le
     rw [List.length_append] at ul
     dsimp only [gName,List.set]
     cases o with
     | some it=>
       obtain ⟨rest,hz⟩:=z
       have hz:=s3 _ _ hz
       refine EvE.op (EvE.op (EvE.var rfl) EvE.con (EvR.ixT (SqT.of hz) (atI_nat (j:=0) rfl))) EvE.con (EvR.eq rfl) _ ⟨_,rfl,ifT (by simp) ?_⟩
       refine ⟨_,rfl,.inl ⟨rfl,_,SqL.of hf⟩,?_⟩
       refine EvE.op (EvE.op (EvE.var rfl) EvE.con (EvR.ixT (SqT.of hz) (atI_nat (j:=2) rfl))) (EvE.op (EvE.var rfl) (EvE.var rfl) (EvR.ixL (s3.seq hr') (row_at (by omega) (by omega)))) EvR.i0 _ ⟨_,rfl,?_⟩
       refine EvE.op (EvE.var rfl) EvE.con (EvR.ixT (SqT.of hz) (atI_nat (j:=1) rfl)) _ ⟨_,rfl,(by show 4≤sizeLine;decide),fun pe hpe=>?_⟩
       rw [Int.toNat_natCast,Int.add_comm]
       have s4:Same H3 (upd H3 pe (.tup [.int (ns.getD i 0+it.2),.int i,.int it.1,.ref p'])):=Same.new hpe
       have e4:upd H3 pe (.tup [.int (ns.getD i 0+it.2),.int i,.int it.1,.ref p']) pe=some (.tup [.int (ns.getD i 0+it.2),.int i,.int it.1,.ref p']):=upd_same
       generalize upd H3 pe (.tup [.int (ns.getD i 0+it.2),.int i,.int it.1,.ref p'])=H4 at s4 e4 ⊢
       have hf4:=s4 _ _ hf
       refine ⟨fq,_,_,rfl,rfl,hf4,Nat.lt_of_le_of_lt (show _≤64 by omega) (by decide),?_⟩
       have kq:TK H4 (upd H4 fq (.lst (us++[.ref pe]))):=fun b zs e=>by
        rw [upd_ne (ne_of e hf4 (by intro z;cases z))]
        exact e
       refine ⟨_,us++[.ref pe],rfl,upd_same,?_,fun b u e=>?_⟩
       ·have e5:evTo rs i++evRow i (row.take (j+1))=(evTo rs i++evRow i (row.take j))++[(i,.ref p',it.1,it.2)]:=by
         unfold evRow
         rw [List.take_add_one,hg,List.filterMap_append,List.append_assoc]
         rfl
        rw [e5]
        exact Paired.snoc ⟨pe,rfl,kq _ _ e4⟩ (fds_tk kq (fds_tk (Same.tk s4) pf))
       ·rw [upd_ne (ne_of_none e hfq)]
        exact s4 _ _ (s3 _ _ e)
     | none=>
       obtain ⟨kk,rest,hz,ne⟩:=z
       have hz:=s3 _ _ hz
       refine EvE.op (EvE.op (EvE.var rfl) EvE.con (EvR.ixT (SqT.of hz) (atI_nat (j:=0) rfl))) EvE.con (EvR.eq rfl) _ ⟨_,rfl,ifF (by simpa using ne) ⟨_,us,rfl,hf,?_,s3⟩⟩
       have e5:evRow i (row.take (j+1))=evRow i (row.take j):=by
        unfold evRow
        rw [List.take_add_one,hg,List.filterMap_append]
        simp
       rw [e5]
       exact pf
    ·rintro σ' H3 ⟨v4,us,rfl,hf,pf,s3⟩
     rw [List.length_map,List.take_length,← er,← evTo_succ] at pf
     exact ⟨_,_,us,rfl,hf,pf,s3⟩
   ·rintro σ' H2 ⟨v3,v4,us,rfl,hf,pf,s2⟩
    rw [Int.toNat_natCast] at pf
    exact hN _ _ ⟨v3,v4,us,rfl,hf,pf,s2⟩
  rintro σ' H2 ⟨v3,v4,us,rfl,hf,pf,s2⟩
  have ul:=Paired.length pf
  have trok:∀ x∈evTo rs rs.length,TrOk (keyP ns x):=fun x hx=>by
   have h1:=(ev_mem hx).1
   have h2:=R.pl x hx
   exact ⟨by simp only [keyP];omega,by simp only [keyP];omega⟩
  have nd:=R.nd
  have nd:=key_nodup (ns:=ns) nd
  generalize evTo rs rs.length=ev at *
  refine ⟨z0,fun lq hlq=>?_⟩
  have s3:Same H2 (upd H2 lq (.lst [])):=Same.new hlq
  have e3:upd H2 lq (.lst []) lq=some (.lst []):=upd_same
  have nlq:H lq=none:=s2.free hlq
  have flq:fq≠lq:=ne_of_none hf hlq
  generalize upd H2 lq (.lst [])=H3 at s3 e3 ⊢
  have hf:=s3 _ _ hf
  have pf:=fds_tk (Same.tk s3) pf
  have s3:=s2.trans s3
  dsimp only [gName,List.set]
  refine ⟨_,rfl,fq,_,rfl,.inl (SqL.of hf),(ev.length:Int),by rw [ul],by omega,by omega,?_⟩
  refine for_range (n:=(ev.length:Int).toNat) (fun i σ' H'=>∃ (fq':Addr) (v6 v7:Option V) (us ws:List V) (fs ls:List Prr),σ'=[some (.ref q),some (.ref r),some (.ref fq'),v3,v4,some (.ref lq),v6,v7]/\H' fq'=some (.lst us)/\Paired (FdA ns H') us fs/\H' lq=some (.lst ws)/\Paired (PrA H') ws ls/\fs.length+i=ev.length/\(ls++fs).Perm ev/\ls.Pairwise (fun a b=>rkT (keyP ns a)<rkT (keyP ns b))/\(∀ a∈ls,∀ b∈fs,rkT (keyP ns a)<rkT (keyP ns b))/\Same H H'/\fq'≠lq) ⟨fq,none,none,us,[],ev,[],rfl,hf,pf,e3,.nil,by omega,List.Perm.refl _,.nil,fun a h=>by simp at h,s3,flq⟩ ?_ ?_
  ·rintro i σ' H4 hi ⟨fq',v6,v7,us,ws,fs,ls,rfl,hf,pf,hl,pl,fl,pm,ps,lt,s4,ne⟩
   have ul:=Paired.length pf
   have wl:=Paired.length pl
   have pml:=pm.length_eq
   rw [List.length_append] at pml
   have fne:fs≠[]:=fun z=>by rw [z] at fl;simp at fl;omega
   have mem:∀ x∈fs,x∈ev:=fun x hx=>pm.mem_iff.mp (List.mem_append_right _ hx)
   have ndf:(fs.map (keyP ns)).Nodup:=by
    have:=(pm.map (keyP ns)).nodup_iff.mpr nd
    rw [List.map_append,List.nodup_append] at this
    exact this.2.1
   dsimp only [gName,List.set]
   refine seq_by (fun σ' H'=>∃ (b:Addr) (x0:Prr),σ'=[some (.ref q),some (.ref r),some (.ref fq'),v3,v4,some (.ref lq),some (.int (0+(i:Int))),some (.ref b)]/\H' b=some (.tup (triV (keyP ns x0)))/\x0∈fs/\(∀ y∈fs,rkT (keyP ns x0)≤rkT (keyP ns y))/\Same H4 H') ?nx2 fun N hN=>?st2
   case st2=>
    refine ⟨_,rfl,fq',rfl,⟨_,SqL.of hf⟩,?_⟩
    refine comp_list (K:=K) (a:=fq') (xs:=us) (fun j zs σ' H'=>(∃ v,σ'=[v])/\Same H4 H'/\Paired (TrA H') zs ((fs.take j).map (keyP ns))) (Nat.le_trans (show us.length≤64 by omega) (by decide)) ⟨⟨none,rfl⟩,Same.refl _,.nil⟩ (fun j zs σ H' _ e=>SqL.of (e.2.1 _ _ hf)) ?_ ?_
    ·rintro j x zs σ' H5 hj hz ⟨⟨v,rfl⟩,s5,pz⟩ M hM
     obtain ⟨y,hy,b,rfl,hb⟩:=pd_get pf hj
     dsimp only [gName]
     refine ⟨_,rfl,_,rfl,sl_fd (s5 _ _ hb) fun p hp=>?_⟩
     refine hM _ _ _ (by rw [List.length_append,hz];rfl) ⟨⟨_,rfl⟩,s5.trans (Same.new hp),?_⟩
     rw [List.take_add_one,hy,List.map_append]
     exact Paired.snoc ⟨p,rfl,upd_same⟩ (tris_same (Same.new hp) pz)
    ·rintro zs σ' H5 hz ⟨⟨v,rfl⟩,s5,pz⟩
     rw [ul,List.take_length] at pz
     have zl:=Paired.length pz
     rw [List.length_map] at zl
     refine ⟨by rw [hz];exact Nat.le_trans (show us.length≤64 by omega) (by decide),fun l hl'=>?_⟩
     have s6:Same H5 (upd H5 l (.lst zs)):=Same.new hl'
     refine ⟨l,zs,_,rfl,SqL.of upd_same,tris_in (tris_same s6 pz),fun t ht=>?_,fun z=>?_,fun i0 v t ev' et hmin=>?_⟩
     ·obtain ⟨x,hx,rfl⟩:=List.mem_map.mp ht
      exact trok x (mem x hx)
     ·rw [z] at zl
      exact fne (List.length_eq_zero_iff.mp zl.symm)
     ·obtain ⟨t',et',b,rfl,hb⟩:=pd_get (tris_same s6 pz) ev'
      rw [et] at et'
      cases et'
      rw [List.getElem?_map] at et
      obtain ⟨x0,hx0,rfl⟩:=Option.map_eq_some_iff.mp et
      exact hN _ _ ⟨b,x0,rfl,hb,List.mem_of_getElem? hx0,fun y hy=>hmin _ (List.mem_map.mpr ⟨y,hy,rfl⟩),s5.trans s6⟩
   rintro σ' H5 ⟨b0,x0,rfl,hb0,mx,min,s5⟩
   have hf:=s5 _ _ hf
   have pf:=fds_tk (Same.tk s5) pf
   have hl:=s5 _ _ hl
   have pl:=prs_tk (Same.tk s5) pl
   have s5:=s4.trans s5
   clear s4
   have one:=only_one ndf mx
   refine seq_by (fun σ' H'=>∃ (ws':List V),σ'=[some (.ref q),some (.ref r),some (.ref fq'),v3,v4,some (.ref lq),some (.int (0+(i:Int))),some (.ref b0)]/\H' fq'=some (.lst us)/\Paired (FdA ns H') us fs/\H' lq=some (.lst ws')/\Paired (PrA H') ws' (ls++[x0])/\H' b0=some (.tup (triV (keyP ns x0)))/\Same H H') ?nx3 fun N hN=>?st3
   case st3=>
    refine ⟨_,rfl,.inl ⟨rfl,_,SqL.of hl⟩,_,rfl,fq',rfl,⟨_,SqL.of hf⟩,?_⟩
    refine comp_listF (K:=K) (a:=fq') (xs:=us) (fun j zs σ' H'=>(∃ v,σ'=[v,some (.ref b0)])/\Same H5 H'/\Paired (PrA H') zs ((fs.take j).filter fun y=>decide (keyP ns y=keyP ns x0))) (Nat.le_trans (show us.length≤64 by omega) (by decide)) ⟨⟨none,rfl⟩,Same.refl _,.nil⟩ (fun j zs σ H' _ e=>SqL.of (e.2.1 _ _ hf)) ?_ ?_
    ·rintro j x zs σ' H6 hj ⟨⟨v,rfl⟩,s6,pz⟩ M hM
     obtain ⟨y,hy,b,rfl,hb⟩:=pd_get pf hj
     dsimp only [gName]
     refine ⟨_,rfl,_,rfl,sl_fd (s6 _ _ hb) fun p hp=>⟨_,rfl,_,_,triD_rep (SqT.of upd_same),triD_rep (SqT.of ((s6.trans (Same.new hp)) _ _ hb0)),by simp [pdDep,pdDeps,triD],_,rfl,?_⟩⟩
     have s7:=s6.trans (Same.new (o:=.tup (triV (keyP ns y))) hp)
     have pz7:=prs_tk (Same.tk (Same.new (o:=.tup (triV (keyP ns y))) hp)) pz
     generalize upd H6 p (.tup (triV (keyP ns y)))=H7 at s7 pz7 ⊢
     rw [show pdEq (.tuple (triD (keyP ns y))) (.tuple (triD (keyP ns x0)))=decide (keyP ns y=keyP ns x0) from triD_eq _ _]
     refine ite2 (fun z=>?_) (fun z=>?_)
     ·have hb7:=s7 _ _ hb
      refine EvE.op (EvE.var rfl) EvE.con (EvR.ixT (SqT.of hb7) (atI_nat (j:=1) rfl)) _ ?_
      refine EvE.op (EvE.var rfl) EvE.con (EvR.ixT (SqT.of hb7) (atI_nat (j:=3) rfl)) _ ⟨(by show 2≤sizeLine;decide),fun p2 hp2=>?_⟩
      refine hM _ _ _ ⟨⟨_,rfl⟩,s7.trans (Same.new hp2),?_⟩ (by simp)
      rw [List.take_add_one,hy,List.filter_append,Option.toList_some,List.filter_cons_of_pos (p:=fun y=>decide (keyP ns y=keyP ns x0)) z]
      exact Paired.snoc ⟨p2,rfl,upd_same⟩ (prs_tk (Same.tk (Same.new hp2)) pz7)
     ·refine hM _ _ _ ⟨⟨_,rfl⟩,s7,?_⟩ (by omega)
      rw [List.take_add_one,hy,List.filter_append,Option.toList_some,List.filter_cons_of_neg (p:=fun y=>decide (keyP ns y=keyP ns x0)) z,List.filter_nil,List.append_nil]
      exact pz7
    ·rintro zs σ' H6 hz ⟨⟨v,rfl⟩,s6,pz⟩
     rw [ul,List.take_length,one] at pz
     have zl:=Paired.length pz
     rw [List.length_singleton] at zl
     refine ⟨by rw [zl];decide,fun l hl'=>?_⟩
     have s7:Same H6 (upd H6 l (.lst zs)):=Same.new hl'
     have e7:upd H6 l (.lst zs) l=some (.lst zs):=upd_same
     have lne:lq≠l:=ne_of_none (s6 _ _ hl) hl'
     generalize upd H6 l (.lst zs)=H7 at s7 e7 ⊢
     have s57:=s6.trans s7
     have hl7:=s57 _ _ hl
     refine ⟨lq,l,_,_,rfl,rfl,hl7,e7,?_,hN _ _ ?_⟩
     ·exact Nat.le_trans (show _≤200 by omega) (by decide)
     ·have kq:TK H7 (upd H7 lq (.lst (ws++zs))):=fun b zs' e=>by
       rw [upd_ne (ne_of e hl7 (by intro z;cases z))]
       exact e
      refine ⟨ws++zs,rfl,by rw [upd_ne ne];exact s57 _ _ hf,fds_tk kq (fds_tk (Same.tk s57) pf),upd_same,Paired.app (prs_tk kq (prs_tk (Same.tk s7) pz)) (prs_tk kq (prs_tk (Same.tk s57) pl)),?_,fun b u e=>?_⟩
      ·exact kq _ _ (s57 _ _ hb0)
      ·rw [upd_ne (ne_of_none e nlq)]
       exact s57 _ _ (s5 _ _ e)
   rintro σ' H6 ⟨ws',rfl,hf,pf,hl,pl,hb0,s6⟩
   refine ⟨_,rfl,fq',rfl,⟨_,SqL.of hf⟩,?_⟩
   refine comp_listF (K:=K) (a:=fq') (xs:=us) (fun j zs σ' H'=>(∃ v,σ'=[v,some (.ref b0)])/\Same H6 H'/\Paired (FdA ns H') zs ((fs.take j).filter fun y=>!decide (keyP ns y=keyP ns x0))) (Nat.le_trans (show us.length≤64 by omega) (by decide)) ⟨⟨none,rfl⟩,Same.refl _,.nil⟩ (fun j zs σ H' _ e=>SqL.of (e.2.1 _ _ hf)) ?_ ?_
   ·rintro j x zs σ' H7 hj ⟨⟨v,rfl⟩,s7,pz⟩ M hM
    obtain ⟨y,hy,b,rfl,hb⟩:=pd_get pf hj
    dsimp only [gName]
    refine ⟨_,rfl,_,rfl,sl_fd (s7 _ _ hb) fun p hp=>⟨_,rfl,_,_,triD_rep (SqT.of upd_same),triD_rep (SqT.of ((s7.trans (Same.new hp)) _ _ hb0)),by simp [pdDep,pdDeps,triD],_,rfl,?_⟩⟩
    have s8:=s7.trans (Same.new (o:=.tup (triV (keyP ns y))) hp)
    have pz8:=fds_tk (Same.tk (Same.new (o:=.tup (triV (keyP ns y))) hp)) pz
    generalize upd H7 p (.tup (triV (keyP ns y)))=H8 at s8 pz8 ⊢
    rw [triD_eq]
    refine ite2 (fun z=>?_) (fun z=>?_)
    ·refine ⟨_,rfl,hM _ _ _ ⟨⟨_,rfl⟩,s8,?_⟩ (by simp)⟩
     rw [List.take_add_one,hy,List.filter_append,Option.toList_some,List.filter_cons_of_pos (p:=fun y=>!decide (keyP ns y=keyP ns x0)) z]
     exact Paired.snoc ⟨b,rfl,s8 _ _ hb⟩ pz8
    ·refine hM _ _ _ ⟨⟨_,rfl⟩,s8,?_⟩ (by omega)
     rw [List.take_add_one,hy,List.filter_append,Option.toList_some,List.filter_cons_of_neg (p:=fun y=>!decide (keyP ns y=keyP ns x0)) z,List.filter_nil,List.append_nil]
     exact pz8
   ·rintro zs σ' H7 hz ⟨⟨v,rfl⟩,s7,pz⟩
    rw [ul,List.take_length] at pz
    refine ⟨Nat.le_trans hz (Nat.le_trans (show us.length≤64 by omega) (by decide)),fun l hl'=>?_⟩
    have s8:Same H7 (upd H7 l (.lst zs)):=Same.new hl'
    have s68:=s7.trans s8
    have pm2:([x0]++fs.filter fun y=>!decide (keyP ns y=keyP ns x0)).Perm fs:=by
     have:=List.filter_append_perm (fun y=>decide (keyP ns y=keyP ns x0)) fs
     rw [one] at this
     exact this
    have l2:=pm2.length_eq
    rw [List.length_append,List.length_singleton] at l2
    refine ⟨l,_,_,zs,ws',_,ls++[x0],rfl,upd_same,fds_tk (Same.tk s8) pz,s68 _ _ hl,prs_tk (Same.tk s68) pl,by omega,?_,?_,?_,s6.trans s68,Ne.symm (ne_of_none (s7 _ _ hl) hl')⟩
    ·rw [List.append_assoc]
     exact (pm2.append_left ls).trans pm
    ·rw [List.pairwise_append]
     refine ⟨ps,List.pairwise_singleton _ _,fun a ha b hb=>?_⟩
     cases List.mem_singleton.mp hb
     exact lt a ha x0 mx
    ·intro a ha b hb
     obtain ⟨hb1,hb2⟩:=List.mem_filter.mp hb
     rcases List.mem_append.mp ha with h|h
     ·exact lt a h b hb1
     ·cases List.mem_singleton.mp h
      have le:=min b hb1
      have ne':rkT (keyP ns x0)≠rkT (keyP ns b):=fun e=>by
       have:=rkT_inj (trok _ (mem _ mx)) (trok _ (mem _ hb1)) e
       rw [this] at hb2
       simp at hb2
      omega
  ·rintro σ' H4 ⟨fq',v6,v7,us,ws,fs,ls,rfl,hf,pf,hl,pl,fl,pm,ps,lt,s4,ne⟩
   rw [Int.toNat_natCast] at fl
   have f0:fs=[]:=List.length_eq_zero_iff.mp (by omega)
   subst f0
   rw [List.append_nil] at pm
   exact ⟨_,rfl,k lq ws ls H4 pm ps hl pl nlq s4⟩
end
def topA (i:Nat):Stmt:=PySem.Challenge.pw_lanescribe_k28_rows_laid_into_one.main.body.getD i (.Pass ⟨0,0,0,0⟩)
def Caught (K:Frag) (cB cS cM Ce:Addr) (fs:List (Str×V)) (wd:Str):Prop:=
 (mroIn K Ce (.ref cB)=some true/\XGet K Ce "at"/\∃ n:Int,fs.lookup ("at" : Str)=some (.int n)/\n.natAbs.log2<1920/\("badvalue " : Str).length+(toString n:Str).length≤sizeLine/\wd=("badvalue " : Str)++(toString n:Str))∨
 (mroIn K Ce (.ref cB)=some false/\mroIn K Ce (.ref cS)=some true/\XGet K Ce "word"/\fs.lookup ("word" : Str)=some (.str wd))∨
 (mroIn K Ce (.ref cB)=some false/\mroIn K Ce (.ref cS)=some false/\mroIn K Ce (.ref cM)=some true/\XGet K Ce "word"/\fs.lookup ("word" : Str)=some (.str wd))
section
variable {P:Program} {w:World} {K:PySem.W.Frag} {mg:Str->Option Value} {base:Heap}
def spAsk (P:Program) (w:World) (K:PySem.W.Frag) (mg:Str->Option Value) (base:Heap) (k:Nat) (cB cS cM:Addr):Shared->List Env->Sp:=fun s outer vs H Q _=>∃ g Qv Ev,vs=[.ref g]/\Thunk P w K mg base s.heap H (frs outer) k g H Qv Ev/\
 (∀ v H',Qv v H'->∀ l,H' l=none->Q (.ref l) (upd H' l (.lst [.str "",v])))/\
 ∀ cls dd H',Ev cls dd H'->∃ Ce da fs wd,cls=.ref Ce/\dd=some da/\H' da=some (exD da fs)/\Caught K cB cS cM Ce fs wd/\∀ l,H' l=none->Q (.ref l) (upd H' l (.lst [.str wd,.non]))
structure TxtA (K:PySem.W.Frag) (mg:Str->Option Value) (cB cS cM:Addr):Prop where
 str:mg "str" = none
 bv:mg "BadValue" = some (.ref cB)
 se:mg "ScribeError" = some (.ref cS)
 mi:mg "Missing" = some (.ref cM)
 xb:∃ B n,XCls K cB B n
 xs:∃ B n,XCls K cS B n
 xm:∃ B n,XCls K cM B n
theorem scAsk:FnScope ["_law_ask_here","_law_told","_law_word","e"] ["_law_ask_here"] (defScope (topA 18)):=⟨rfl,rfl,rfl,by decide +kernel,rfl,by decide +kernel,by decide +kernel⟩
theorem ok_ask {CX:CXT} {f cB cS cM:Addr} {fd:FuncData} {k:Nat} (F:Fun K "_law_ask" "_law_ask" (topA 18) f fd) (T:TxtA K mg cB cS cM):FnOkS P w K mg base CX (k+1) f fd ["_law_ask_here"] (spAsk P w K mg base k cB cS cM):=by
 obtain ⟨B1,n1,x1⟩:=T.xb
 obtain ⟨B2,n2,x2⟩:=T.xs
 obtain ⟨B3,n3,x3⟩:=T.xm
 refine F.okS scAsk (fun s outer vs H Q E h=>?_) (fun cdv A outer s H vs Q E hr h=>?_)
 ·obtain ⟨g,Qv,Ev,rfl,_⟩:=h
  rfl
 ·obtain ⟨g,Qv,Ev,rfl,Th,hv,he⟩:=h
  refine ⟨_,(pss_cons (ps_set (i:=1) scAsk.nd rfl (Or.inl rfl) pe_non)
   (pss_cons (ps_set (i:=2) scAsk.nd rfl (Or.inl rfl) pe_str)
   (pss_cons (ps_try rfl rfl rfl (psx_thunk (k:=k) (i:=1) (j:=0) scAsk.nd rfl (Or.inl rfl) rfl (Or.inl rfl) rfl hr)
    (ph_cons (i:=3) (C:=cB) (B:=B1) (newId:=n1) scAsk.nd rfl rfl (fun ea ps=>pe_glob (by rfl) T.bv rfl) (fun ea oe ps Ce dd hm hc hd hvs=>pss_one (ps_set (i:=2) scAsk.nd rfl (Or.inl rfl) (pe_op op_add_str pe_str (pe_callTy call_str_int (by rfl) T.str bt_str (pa_cons (pe_xatH hm hc hd hvs (pv 3)) pa_nil)))))
    (ph_cons (i:=3) (C:=cS) (B:=B2) (newId:=n2) scAsk.nd rfl rfl (fun ea ps=>pe_glob (by rfl) T.se rfl) (fun ea oe ps Ce dd hm hc hd hvs=>pss_one (ps_set (i:=2) scAsk.nd rfl (Or.inl rfl) (pe_xatH hm hc hd hvs (pv 3))))
    (ph_cons (i:=3) (C:=cM) (B:=B3) (newId:=n3) scAsk.nd rfl rfl (fun ea ps=>pe_glob (by rfl) T.mi rfl) (fun ea oe ps Ce dd hm hc hd hvs=>pss_one (ps_set (i:=2) scAsk.nd rfl (Or.inl rfl) (pe_xatH hm hc hd hvs (pv 3))))
    ph_nil))))
   (pss_one (ps_ret (pe_lst (pa_cons (pv 2) (pa_cons (pv 1) pa_nil)))))))),?_⟩
  have small:∀ x y:V,[x,y].length≤sizeLine:=fun x y=>by rw [sizeLine_eq];show 2≤16777216;decide
  refine ⟨g,Qv,Ev,rfl,Th,fun v H' q=>?_,fun cls dd H' q=>?_⟩
  ·exact ⟨_,rfl,_,rfl,small _ _,fun p hp=>hv v H' q p hp⟩
  ·obtain ⟨Ce,da,fs,wd,rfl,rfl,hd,hc,hq⟩:=he _ _ _ q
   refine ⟨Ce,rfl,x1,?_⟩
   rcases hc with ⟨m1,G,n,l,z,zz,rfl⟩|⟨m1,m2,G,l⟩|⟨m1,m2,m3,G,l⟩
   ·refine ⟨true,m1,fun ea=>?_⟩
    exact ⟨_,rfl,da,fs,_,rfl,rfl,hd,G,l,n,rfl,z,_,_,rfl,rfl,zz,_,rfl,_,rfl,small _ _,fun p hp=>hq p hp⟩
   ·refine ⟨false,m1,x2,true,m2,fun ea=>?_⟩
    exact ⟨_,rfl,da,fs,_,rfl,rfl,hd,G,l,_,rfl,_,rfl,small _ _,fun p hp=>hq p hp⟩
   ·refine ⟨false,m1,x2,false,m2,x3,true,m3,fun ea=>?_⟩
    exact ⟨_,rfl,da,fs,_,rfl,rfl,hd,G,l,_,rfl,_,rfl,small _ _,fun p hp=>hq p hp⟩
end
structure FunD (K:PySem.W.Frag) (x qual:Str) (st:Stmt) (dV:Value) (f:Addr) (fd:FuncData):Prop where
 ex:∃ (oc:Value) (od:Option Addr) (kV doc pm:Value) (an:Option Addr) (cdv ct:Value) (osl:Array (Option Value)),
  fd=PySem.W.fnOf x qual (defArgs st) (defBody st) (defScope st) dV kV doc pm an cdv ct/\K.lookup f=some ⟨oc,od,.func fd,osl⟩/\PySem.W.codeIn K cdv qual=true
 kp:PySem.W.keepIn K (.ref f)=true
section
variable {P:Program} {w:World} {K:PySem.W.Frag} {mg:Str->Option Value} {base:Heap}
theorem FunD.binds {x qual:Str} {st:Stmt} {f T:Addr} {fd:FuncData} {ps:List Str} {ds:List Value} {oT:Obj} {items:Array Value} {n:Nat} (F:FunD K x qual st (.ref T) f fd) (hT:K.lookup T=some oT) (hd:oT.data=.seq items n)
 (h:∀ (kV doc pm:Value) (an:Option Addr) (cdv ct:Value) (s:Shared) (us:List Value),s.heap.get? T=some oT->(us++ds).length=ps.length->BindsTo s (PySem.W.fnOf x qual (defArgs st) (defBody st) (defScope st) (.ref T) kV doc pm an cdv ct) ⟨us,[]⟩ (ps.zip (us++ds))):Binds K fd ps ds:=by
 obtain ⟨oc,od,kV,doc,pm,an,cdv,ct,osl,rfl,lk,hcd⟩:=F.ex
 exact fun s us X hl=>h kV doc pm an cdv ct s us (X _ _ hT) hl
end
abbrev sSE:Stmt:=inClass (top 1) 0
section
variable {P:Program} {w:World} {K:PySem.W.Frag} {mg:Str->Option Value} {base:Heap}
theorem FunD.ok1 {CX:CXT} {x qual:Str} {st:Stmt} {dV:Value} {f:Addr} {fd:FuncData} {N ps:List Str} {k:Nat} {sp:Sp} (F:FunD K x qual st dV f fd) (S:FnScope N ps (defScope st)) (len:∀ vs H Q E,sp vs H Q E->vs.length=ps.length)
 (hbody:∀ (cdv:Value) (A:Around) (outer:List Env) (s:Shared) (H:Hp) (vs:List V) (Q:VK) (E:XK),Room k (A.deeper (PyProof.Rows.envOfC qual (defScope st) s.heap.objs.size f cdv))->sp vs H Q E->
  ∃ t,PSs (cxOf CX P w K mg base N qual (defScope st) f cdv A outer s H E) (defBody st) t/\t { nx:=fun _ H'=>Q .non H',rt:=Q } (L2.start N vs) H):FnOk P w K mg base CX (k+1) f fd ps sp:=by
 obtain ⟨oc,od,kV,doc,pm,an,cdv,ct,osl,rfl,lk,hcd⟩:=F.ex
 exact fn_of lk hcd S len fun A outer s H vs Q E hr hsp=>hbody cdv A outer s H vs Q E hr hsp
structure ECls (K:Frag) (C:Addr):Prop where
 x:XCls K C "ValueError" "ValueError.__new__"
 w:takerIn K C "word" = some none
def spSE (K:Frag):Sp:=fun vs H Q _=>∃ (e C:Addr) (a:V) (b:V),vs=[.ref e,a,b]/\ECls K C/\H e=some (excO e C none)/\∀ da,H da=none->Q .non (upd (upd H e (excO e C (some da))) da (exD da [("word",b)]))
theorem scSE:FnScope ["self","words","word"] ["self","words","word"] (defScope sSE):=⟨rfl,rfl,rfl,by decide +kernel,rfl,by decide +kernel,by decide +kernel⟩
structure TxtE (K:Frag) (mg:Str->Option Value):Prop where
 ve:mg "ValueError" = none
 fc:findCls K (.type "ValueError") (.type "type") "__init__" = some (.val (.builtin "ValueError.__init__"))
theorem ok_se {CX:CXT} {f:Addr} {fd:FuncData} {dV:Value} (F:FunD K "__init__" "ScribeError.__init__" sSE dV f fd) (T:TxtE K mg):FnOk P w K mg base CX 1 f fd ["self","words","word"] (spSE K):=by
 refine F.ok1 scSE (fun vs H Q E h=>?_) (fun cdv A outer s H vs Q E hr h=>?_)
 ·obtain ⟨e,C,a,b,rfl,_⟩:=h
  rfl
 ·obtain ⟨e,C,a,b,rfl,EC,he,k⟩:=h
  refine ⟨_,(pss_cons (ps_expr (pe_typeMeth (by rfl) T.ve (by rfl) (by kernel_rfl) (by decide +kernel) T.fc (call_initX PySem.F.excBase_ValueError) (pa_cons (pv 0) (pa_cons (pv 1) pa_nil))))
   (pss_one (ps_fldX (B:="ValueError") (newId:="ValueError.__new__") (pv 0) (pv 2) rfl))),?_⟩
  exact ⟨_,rfl,_,rfl,e,C,_,_,rfl,he,EC.x,_,rfl,_,rfl,e,C,rfl,EC.x,EC.w,.inl ⟨he,k⟩⟩
structure MkOf (K:Frag) (mg:Str->Option Value) (cn:Str) (C f:Addr):Prop where
 mg:mg cn=some (.ref C)
 sg:specialIn K (.ref C) "__getattribute__" = some (some (.builtin "type.__getattribute__"))
 rd:∃ mc,readsIn K C mc=true/\findCls K (.ref C) mc "__init__" = some (.val (.ref f))
 kp:keepIn K (.ref f)=true
end
section
variable {P:Program} {w:World} {K:PySem.W.Frag} {mg:Str->Option Value} {base:Heap}
def spW (K:Frag) (wd:Str):Sp:=fun vs H Q _=>∃ (e C:Addr) (a:V),vs=[.ref e,a]/\ECls K C/\H e=some (excO e C none)/\∀ da,H da=none->Q .non (upd (upd H e (excO e C (some da))) da (exD da [("word",.str wd)]))
abbrev sBadSize:Stmt:=inClass (top 2) 0
theorem scBadSize:FnScope ["self","words"] ["self","words"] (defScope sBadSize):=⟨rfl,rfl,rfl,by decide +kernel,rfl,by decide +kernel,by decide +kernel⟩
theorem ok_BadSize {CX:CXT} {f cS fS:Addr} {fd fdS:FuncData} {dV dW:Value} (F:FunD K "__init__" "BadSize.__init__" sBadSize dW f fd) (T:TxtE K mg) (FS:FunD K "__init__" "ScribeError.__init__" sSE dV fS fdS) (bS:Binds K fdS ["self","words","word"] []) (MS:MkOf K mg "ScribeError" cS fS):FnOk P w K mg base CX 2 f fd ["self","words"] (spW K "badsize"):=by
 have GS:FnOk P w K mg base CX0 1 fS fdS ["self","words","word"] (spSE K):=ok_se FS T
 obtain ⟨mc,m1,m2⟩:=MS.rd
 refine F.ok1 scBadSize (fun vs H Q E h=>?_) (fun cdv A outer s H vs Q E hr h=>?_)
 ·obtain ⟨e,C,a,rfl,_⟩:=h
  rfl
 ·obtain ⟨e,C,a,rfl,EC,he,k⟩:=h
  refine ⟨_,(pss_one (ps_expr (pe_clsMeth (E:=E0) (by rfl) MS.mg MS.sg m1 m2 MS.kp GS hr bS .nil pass0 (pa_cons (pv 0) (pa_cons (pv 1) (pa_cons pe_str pa_nil)))))),?_⟩
  exact ⟨_,rfl,_,rfl,e,C,_,_,rfl,EC,he,k⟩
abbrev sBadCause:Stmt:=inClass (top 3) 0
theorem scBadCause:FnScope ["self","words"] ["self","words"] (defScope sBadCause):=⟨rfl,rfl,rfl,by decide +kernel,rfl,by decide +kernel,by decide +kernel⟩
theorem ok_BadCause {CX:CXT} {f cS fS:Addr} {fd fdS:FuncData} {dV dW:Value} (F:FunD K "__init__" "BadCause.__init__" sBadCause dW f fd) (T:TxtE K mg) (FS:FunD K "__init__" "ScribeError.__init__" sSE dV fS fdS) (bS:Binds K fdS ["self","words","word"] []) (MS:MkOf K mg "ScribeError" cS fS):FnOk P w K mg base CX 2 f fd ["self","words"] (spW K "badcause"):=by
 have GS:FnOk P w K mg base CX0 1 fS fdS ["self","words","word"] (spSE K):=ok_se FS T
 obtain ⟨mc,m1,m2⟩:=MS.rd
 refine F.ok1 scBadCause (fun vs H Q E h=>?_) (fun cdv A outer s H vs Q E hr h=>?_)
 ·obtain ⟨e,C,a,rfl,_⟩:=h
  rfl
 ·obtain ⟨e,C,a,rfl,EC,he,k⟩:=h
  refine ⟨_,(pss_one (ps_expr (pe_clsMeth (E:=E0) (by rfl) MS.mg MS.sg m1 m2 MS.kp GS hr bS .nil pass0 (pa_cons (pv 0) (pa_cons (pv 1) (pa_cons pe_str pa_nil)))))),?_⟩
  exact ⟨_,rfl,_,rfl,e,C,_,_,rfl,EC,he,k⟩
def Thrown (H:Hp) (fs:List (Str×V)) (da:Addr) (H':Hp):Prop:=H da=none/\H'=upd H da (exD da fs)
theorem thrown_of {H:Hp} {e da C:Addr} {fs:List (Str×V)} (h1:H e=none) (h2:upd H e (excO e C none) da=none):Thrown H fs da (unt (upd (upd (upd H e (excO e C none)) e (excO e C (some da))) da (exD da fs)) e):=by
 have ne:da≠e:=fun q=>by subst q;rw [upd_same] at h2;cases h2
 rw [upd_ne ne] at h2
 refine ⟨h2,funext fun b=>?_⟩
 by_cases q:b=e
 ·subst q
  rw [unt_same,upd_ne (Ne.symm ne),h1]
 ·rw [unt_ne q]
  by_cases r:b=da
  ·subst r;rw [upd_same,upd_same]
  ·rw [upd_ne r,upd_ne q,upd_ne q,upd_ne r]
theorem none_back {H H1:Hp} {e:Addr} (h:Same H H1) (n:H1 e=none):H e=none:=by
 cases z:H e with
 |none=>rfl
 |some o=>have:=h _ _ z;rw [n] at this;cases this
structure WCls (K:Frag) (mg:Str->Option Value) (x:Str) (C f:Addr) (fd:FuncData):Prop where
 b:Binds K fd ["self","words"] []
 mg:mg x=some (.ref C)
 e:ECls K C
 i:findIn K (.ref C) "__init__" = some (some (.ref f))
 n:isFn K (.ref f)=true
end
section
variable {P:Program} {w:World} {K:PySem.W.Frag} {mg:Str->Option Value} {base:Heap}
abbrev Far:Int:=1000000000000000000000000000000
def spFar:Sp:=fun vs H Q _=>∃ (p dc:Addr),vs=[.ref p]/\Dr H p dc/\∀ (z:Int) (H':Hp),-Far≤z->z≤Far->Dr H' p dc->But p H H'->Q (.int z) H'
theorem scFar:FnScope ["_law_d","_law_number"] ["_law_d"] (defScope (top 16)):=⟨rfl,rfl,rfl,by decide +kernel,rfl,by decide +kernel,by decide +kernel⟩
theorem ok_far {f fP:Addr} {fd fdP:FuncData} (F:Fun K "_law_far" "_law_far" (top 16) f fd) (T:Txt K mg) (DP:Def K mg "_law_pick" (top 14) ["_law_d","_law_many"] fP fdP):FnOk P w K mg base CX0 2 f fd ["_law_d"] spFar:=by
 have GP:FnOk P w K mg base CX0 1 fP fdP ["_law_d","_law_many"] spPick:=ok_pick DP.F T
 refine F.ok scFar (fun vs H Q E h=>?_) (fun cdv A outer s H vs Q E hr h=>?_)
 ·obtain ⟨p,dc,rfl,_⟩:=h
  rfl
 ·obtain ⟨p,dc,rfl,D,k⟩:=h
  refine ⟨_,(pss_cons
 (ps_set (i:=1) scFar.nd rfl (Or.inl rfl) (pe_op op_add (pe_op op_pow pe_int pe_int) (pe_call GP hr rfl DP.mg DP.F.kp DP.b .nil pass0 (pa_cons (pv 0) (pa_cons (pe_op op_pow pe_int pe_int) pa_nil)))))
 (pss_one
 (ps_ret (pe_ix ix_list (pe_lst (pa_cons (pv 1) (pa_cons (pe_op op_sub pe_int (pv 1)) pa_nil))) (pe_call GP hr rfl DP.mg DP.F.kp DP.b .nil pass0 (pa_cons (pv 0) (pa_cons pe_int pa_nil))) (fun _ _=>rfl))))),?_⟩
  have c1:CPow 10 9:=⟨by decide,by decide,by decide⟩
  have c2:CPow 10 29:=⟨by decide,by decide,by decide⟩
  have p1:(10:Int) ^ (9:Int).toNat=1000000000:=by decide
  have p2:(10:Int) ^ (29:Int).toNat=100000000000000000000000000000:=by decide +kernel
  refine ⟨_,_,rfl,rfl,c1,_,rfl,_,_,rfl,rfl,c2,p,dc,_,rfl,D,by rw [p2];decide,by rw [p2];decide,fun r H1 a1 b1 D1 t1=>⟨_,_,rfl,rfl,?_⟩⟩
  rw [p2] at b1
  rw [p1]
  have z1:1000000000+r≤Far:=by simp only [Far];omega
  refine ⟨_,rfl,_,rfl,_,_,rfl,rfl,(show 2≤sizeLine by decide),fun q1 h1=>?_⟩
  have D2:=D1.new (o:=.lst [.int (1000000000+r),.int (0-(1000000000+r))]) h1
  refine ⟨_,rfl,p,dc,_,rfl,D2,by decide,by decide,fun r2 H2 a2 b2 D3 t2=>?_⟩
  have e1:SqL K H2 q1 [.int (1000000000+r),.int (0-(1000000000+r))]:=D2.seq t2 (SqL.of upd_same)
  have bt:But p H H2:=t1.trans ((But.new h1).trans t2)
  by_cases h0:r2=0
  ·subst h0
   exact ⟨_,_,_,_,rfl,rfl,e1,rfl,k _ _ (by simp only [Far] at *;omega) z1 D3 bt⟩
  ·obtain rfl:r2=1:=by omega
   exact ⟨_,_,_,_,rfl,rfl,e1,rfl,k _ _ (by simp only [Far] at *;omega) (by simp only [Far] at *;omega) D3 bt⟩
end
theorem far_len {i:Int} (h1:-(Far+2)≤i) (h2:i≤Far+2):i.natAbs.log2<1920/\(Str.ofString (toString i)).length≤1000:=by
 simp only [Far] at h1 h2
 constructor
 ·have h3:i.natAbs<2 ^ 128:=by omega
  by_cases h0:i.natAbs=0
  ·rw [h0];decide
  ·exact Nat.lt_trans ((Nat.log2_lt h0).mpr h3) (by decide)
 ·have:=int_text_length_le10 (a:=i) (k:=31) (by decide) (by omega)
  have e:(Str.ofString (toString i)).length=(toString i).length:=ofString_length _
  omega
def TxI (i:Int):Prop:=-(Far+2)≤i/\i≤Far+2
theorem TxI.len {i:Int} (h:TxI i):i.natAbs.log2<1920/\(Str.ofString (toString i)).length≤1000:=far_len h.1 h.2
theorem raise_w {X:Cx} {W:XK} {C:Addr} {wd:Str} {tf:TF} {m:Nat} {σ:St} {H:Hp} {D:Ends} {E':XK} (hf:EvF tf σ H m) (hm:m≤sizeLine) (EC:ECls X.K C) (sm:Same X.H₀ H)
 (kx:∀ da H',Thrown H [("word",.str wd)] da H'->W (.ref C) (some da) H'):tRaise X "ValueError" "ValueError.__new__" W (tMakeX C (spW X.K wd) [] E' (tCons (tFstr tf) tNil)) D σ H:=by
 refine hf Str.empty _ (by rw [show Str.empty.length=0 from rfl];omega) fun y=>?_
 intro e he
 refine ⟨e,C,_,rfl,EC,upd_same,fun da hda=>⟨rfl,e,C,some da,rfl,?_,none_back sm he,EC.x,kx da _ (thrown_of he hda)⟩⟩
 have ne:e≠da:=fun q=>by subst q;rw [upd_same] at hda;cases hda
 rw [upd_ne ne,upd_same]
structure CauB (c:Cau):Prop where
 a:TxI c.a
 t:TxI c.t
 b:TxI c.b
 u:TxI c.u
def okcB (c:Cau):Bool:=!(!(decide (0≤c.a) && decide (c.a<6)) || (!(decide (0≤c.b) && decide (c.b<6)) || decide (V.int c.a=V.int c.b))) && !(!(decide (0≤c.t) && decide (c.t<999999)) || !(decide (0≤c.u) && decide (c.u<999999)))
section
variable {P:Program} {w:World} {K:PySem.W.Frag} {mg:Str->Option Value} {base:Heap}
def spNc1 (cC:Addr):Sp:=fun vs H Q E=>∃ c:Cau,vs=[.int c.a,.int c.t,.int c.b,.int c.u]/\CauB c/\(okcB c=true->Q .non H)/\(okcB c=false->∀ da H',Thrown H [("word",.str "badcause")] da H'->E (.ref cC) (some da) H')
theorem ok_nc1 {f cC fC:Addr} {fd fdC:FuncData} (F:Fun K "need_cause" "need_cause" (top 9) f fd) (TC:TxtC mg) (WC:WCls K mg "BadCause" cC fC fdC) (GC:FnOk P w K mg base CX0 2 fC fdC ["self","words"] (spW K "badcause")):FnOk P w K mg base (CX1 P w) 4 f fd ["lane","time","other","second"] (spNc1 cC):=by
 refine F.ok1 scNc (fun vs H Q E h=>?_) (fun cdv A outer s H vs Q E hr h=>?_)
 ·obtain ⟨c,rfl,_⟩:=h
  rfl
 ·obtain ⟨c,rfl,B,k,kx⟩:=h
  obtain ⟨t,ml⟩:=TC.ml
  obtain ⟨t',li⟩:=TC.lim
  refine ⟨_,(pss_cons (ps_if (PW.pt (pw_or (pt_not (pt_chain op_le op_lt pe_int (pv 0) (pe_glob (v:=.int 6) rfl ml ⟨_,rfl⟩))) (pw_or (pt_not (pt_chain op_le op_lt pe_int (pv 2) (pe_glob (v:=.int 6) rfl ml ⟨_,rfl⟩))) (pw_or1 (pt_cmpR op_eq (pv 0) (pv 2) (nomark _)))))) (pss_one (ps_raise (B:="ValueError") (newId:="ValueError.__new__") (W:=E)
   (pe_makeX (E:=E0) PySem.F.excBase_ValueError WC.e.x WC.i WC.n GC hr (by rfl) WC.mg WC.b .nil pass0 (pa_cons (pe_fstr (pf_val (pv 0) (pf_txt (pf_val (pv 2) (pf_txt pf_nil))))) pa_nil)) rfl rfl (fun pins σ H' s' e cls dd I x q=>xe1 I x q))) pss_nil)
   (pss_one (ps_if (PW.pt (pw_or (pt_not (pt_chain op_le op_lt pe_int (pv 1) (pe_glob (v:=.int 999999) rfl li ⟨_,rfl⟩))) (pw_or1 (pt_not (pt_chain op_le op_lt pe_int (pv 3) (pe_glob (v:=.int 999999) rfl li ⟨_,rfl⟩)))))) (pss_one (ps_raise (B:="ValueError") (newId:="ValueError.__new__") (W:=E)
    (pe_makeX (E:=E0) PySem.F.excBase_ValueError WC.e.x WC.i WC.n GC hr (by rfl) WC.mg WC.b .nil pass0 (pa_cons (pe_fstr (pf_val (pv 1) (pf_txt (pf_val (pv 3) (pf_txt pf_nil))))) pa_nil)) rfl rfl (fun pins σ H' s' e cls dd I x q=>xe1 I x q))) pss_nil))),?_⟩
  refine EvT.iff (EvT.or (EvT.not (EvT.test (EvE.chain EvE.con (EvE.var rfl) EvE.con EvR.i0 EvR.i0))) (EvT.or (EvT.not (EvT.test (EvE.chain EvE.con (EvE.var rfl) EvE.con EvR.i0 EvR.i0))) (EvT.test (EvE.op (EvE.var rfl) (EvE.var rfl) (EvR.eq rfl))))) (ite2 (fun h=>?_) (fun h=>?_))
  ·refine raise_w (EvF.int (EvE.var rfl) B.a.len (EvF.txt (m:=100) (by decide +kernel) (EvF.int (EvE.var rfl) B.b.len (EvF.txt (m:=100) (by decide +kernel) EvF.nil)))) (by decide) WC.e (Same.refl _) (kx ?_)
   unfold okcB
   rw [h];rfl
  ·have h:=Bool.eq_false_iff.mpr h
   refine EvT.iff (EvT.or (EvT.not (EvT.test (EvE.chain EvE.con (EvE.var rfl) EvE.con EvR.i0 EvR.i0))) (EvT.not (EvT.test (EvE.chain EvE.con (EvE.var rfl) EvE.con EvR.i0 EvR.i0)))) (ite2 (fun h2=>?_) (fun h2=>?_))
   ·refine raise_w (EvF.int (EvE.var rfl) B.t.len (EvF.txt (m:=100) (by decide +kernel) (EvF.int (EvE.var rfl) B.u.len (EvF.txt (m:=100) (by decide +kernel) EvF.nil)))) (by decide) WC.e (Same.refl _) (kx ?_)
    unfold okcB
    rw [h,h2];rfl
   ·refine k ?_
    have h2:=Bool.eq_false_iff.mpr h2
    unfold okcB
    rw [h,h2];rfl
def spToX (K:PySem.W.Frag) (cC:Addr):Sp:=fun vs H Q E=>∃ (q:Addr) (xs:List V) (cs:List Cau),vs=[.ref q]/\SqL K H q xs/\Paired (CauAt H) xs cs/\(∀ c∈cs,CauB c)/\cs.all okcB=false/\∀ da H',Thrown H [("word",.str "badcause")] da H'->E (.ref cC) (some da) H'
theorem ok_toX {f fN cC fC:Addr} {fd fdN fdC:FuncData} (F:Fun K "ties_of" "ties_of" (top 10) f fd) (TC:TxtC mg) (DN:Def K mg "need_cause" (top 9) ["lane","time","other","second"] fN fdN) (WC:WCls K mg "BadCause" cC fC fdC) (GC:FnOk P w K mg base CX0 2 fC fdC ["self","words"] (spW K "badcause")):FnOk P w K mg base (CX1 P w) 5 f fd ["causes"] (spToX K cC):=by
 have GN:FnOk P w K mg base (CX1 P w) 4 fN fdN ["lane","time","other","second"] (spNc1 cC):=ok_nc1 DN.F TC WC GC
 refine F.ok1 scTo (fun vs H Q E h=>?_) (fun cdv A outer s H vs Q E hr h=>?_)
 ·obtain ⟨q,xs,cs,rfl,_⟩:=h
  rfl
 ·obtain ⟨q,xs,cs,rfl,hq,pc,cb,bad,kx⟩:=h
  refine ⟨_,(pss_cons (ps_for PassesOwn.leaving rfl (pi_list (pv 0)) (pg_tup rfl (pgs_cons (pg_name (i:=1) scTo.nd rfl (Or.inl rfl)) (pgs_cons (pg_name (i:=2) scTo.nd rfl (Or.inl rfl)) (pgs_cons (pg_name (i:=3) scTo.nd rfl (Or.inl rfl)) (pgs_cons (pg_name (i:=4) scTo.nd rfl (Or.inl rfl)) pgs_nil)))))
   (pss_one (ps_expr (pe_call (E:=E) GN hr rfl DN.mg DN.F.kp DN.b .nil (pass1 fun _ _ _ h=>h) (pa_cons (pv 1) (pa_cons (pv 2) (pa_cons (pv 3) (pa_cons (pv 4) pa_nil))))))))
   (pss_one ps_never)),?_⟩
  have xl:=Paired.length pc
  refine ⟨_,rfl,q,rfl,⟨_,hq⟩,for_list (K:=K) (a:=q) (xs:=xs) (fun i σ H'=>(∃ a b c d,σ=[some (.ref q),a,b,c,d])/\H=H'/\∀ c∈cs.take i,okcB c=true) ⟨⟨none,none,none,none,rfl⟩,rfl,by simp⟩ (fun i σ H' _ ⟨_,e,_⟩=>by rw [← e];exact hq) ?_ ?_⟩
  ·rintro i x σ H' hi ⟨⟨a,b,c,d,rfl⟩,rfl,hok⟩
   obtain ⟨c,hc,b',rfl,hb⟩:=pd_get pc hi
   refine ⟨b',_,rfl,SqT.of hb,rfl,_,_,rfl,_,_,rfl,_,_,rfl,_,_,rfl,rfl,?_⟩
   refine ⟨_,rfl,_,rfl,_,rfl,_,rfl,c,rfl,cb c (List.mem_of_getElem? hc),fun ok=>⟨⟨_,_,_,_,rfl⟩,rfl,fun c' hc'=>?_⟩,fun _=>kx⟩
   rw [List.take_add_one,hc] at hc'
   rcases List.mem_append.mp hc' with z|z
   ·exact hok _ z
   ·obtain rfl:c'=c:=by simpa using z
    exact ok
  ·rintro σ H' ⟨⟨a,b,c,d,rfl⟩,rfl,hok⟩
   rw [xl,List.take_length] at hok
   rw [List.all_eq_true.mpr hok] at bad
   cases bad
def spMgX (K:PySem.W.Frag) (cZ:Addr):Sp:=fun vs H Q E=>∃ (q r:Addr) (ys zs:List V),vs=[.ref q,.ref r]/\SqL K H q ys/\SqL K H r zs/\zs.length≠ys.length/\zs.length≤1000/\ys.length≤1000/\∀ da H',Thrown H [("word",.str "badsize")] da H'->E (.ref cZ) (some da) H'
theorem ok_mgX {f cZ fZ:Addr} {fd fdZ:FuncData} (F:Fun K "merged" "merged" (top 11) f fd) (T:Txt K mg) (WZ:WCls K mg "BadSize" cZ fZ fdZ) (GZ:FnOk P w K mg base CX0 2 fZ fdZ ["self","words"] (spW K "badsize")):FnOk P w K mg base (CX1 P w) 4 f fd ["rows","row"] (spMgX K cZ):=by
 refine F.ok1 scMg (fun vs H Q E h=>?_) (fun cdv A outer s H vs Q E hr h=>?_)
 ·obtain ⟨q,r,ys,zs,rfl,_⟩:=h
  rfl
 ·obtain ⟨q,r,ys,zs,rfl,hq,hr',ne,zl,yl,kx⟩:=h
  refine ⟨_,(pss_cons (ps_if (pt_cmpR op_ne (pe_callB call_len_seq (by rfl) T.len bt_len (pa_cons (pv 1) pa_nil)) (pe_callB call_len_seq (by rfl) T.len bt_len (pa_cons (pv 0) pa_nil)) (nomark _)) (pss_one (ps_raise (B:="ValueError") (newId:="ValueError.__new__") (W:=E)
   (pe_makeX (E:=E0) PySem.F.excBase_ValueError WZ.e.x WZ.i WZ.n GZ hr (by rfl) WZ.mg WZ.b .nil pass0 (pa_cons (pe_fstr (pf_val (pe_callB call_len_seq (by rfl) T.len bt_len (pa_cons (pv 1) pa_nil)) (pf_txt (pf_val (pe_callB call_len_seq (by rfl) T.len bt_len (pa_cons (pv 0) pa_nil)) (pf_txt pf_nil))))) pa_nil)) rfl rfl (fun pins σ H' s' e cls dd I x q=>xe1 I x q))) pss_nil)
   (pss_cons ps_never (pss_one ps_never))),?_⟩
  have e1:∀ {σ:St} (h1:σ[1]?=some (some (.ref r))),EvE (tCB (fun xs H_1 Q=>∃ p ys,xs=[V.ref p]/\(SqL K H_1 p ys∨SqT K H_1 p ys)/\Q (V.int ys.length) H_1) (tCons (tVar 1) tNil)) σ H (.int zs.length):=fun h1 Q q=>⟨_,h1,r,zs,rfl,.inl hr',q⟩
  have e0:∀ {σ:St} (h1:σ[0]?=some (some (.ref q))),EvE (tCB (fun xs H_1 Q=>∃ p ys,xs=[V.ref p]/\(SqL K H_1 p ys∨SqT K H_1 p ys)/\Q (V.int ys.length) H_1) (tCons (tVar 0) tNil)) σ H (.int ys.length):=fun h1 Q q'=>⟨_,h1,q,ys,rfl,.inl hq,q'⟩
  have tx:∀ n:Nat,n≤1000->TxI n:=fun n h=>by unfold TxI Far;omega
  refine EvE.op (e1 rfl) (e0 rfl) (EvR.ne rfl) _ ⟨_,rfl,ifT (by simp;omega) ?_⟩
  exact raise_w (EvF.int (e1 rfl) (tx _ zl).len (EvF.txt (m:=100) (by decide +kernel) (EvF.int (e0 rfl) (tx _ yl).len (EvF.txt (m:=100) (by decide +kernel) EvF.nil)))) (by decide) WZ.e (Same.refl _) kx
end
def RT (H:Hp):List Thg->List Tg->Prop:=Paired fun x g=>TgA H x.1 g/\x.2=tgO g
theorem rt_of {H:Hp}:∀ {xs:List V} {gs:List Tg},Paired (TgA H) xs gs->∃ row:List Thg,row.map (·.1)=xs/\RT H row gs
 |_,_,.nil=>⟨[],rfl,.nil⟩
 | x::_,g::_,.cons h t=>by
   obtain ⟨row,e,r⟩:=rt_of t
   exact ⟨(x,tgO g)::row,by rw [List.map_cons,e],.cons ⟨h,rfl⟩ r⟩
theorem RT.ev {H:Hp}:∀ {row:List Thg} {gs:List Tg},RT H row gs->∀ x∈row,EvA H x
 | _,_,.cons h t,x,m=>by
   rcases List.mem_cons.mp m with e|m
   ·subst e
    obtain ⟨v,o⟩:=x
    obtain ⟨h1,h2⟩:=h
    dsimp only at h1 h2
    subst h2
    exact h1.ev
   ·exact RT.ev t x m
theorem rts_of {nq:Addr} {H:Hp}:∀ {ys:List V} {gss:List (List Tg)},Paired (RA nq H) ys gss->∃ rs:List (List Thg),Paired (RwA H) ys rs/\Paired (RT H) rs gss
 |_,_,.nil=>⟨[],.nil,.nil⟩
 | _,_,.cons ⟨a,xs,e,_,ha,pt⟩ t=>by
   obtain ⟨rs,p1,p2⟩:=rts_of t
   obtain ⟨row,er,rt⟩:=rt_of pt
   exact ⟨row::rs,.cons ⟨a,e,by rw [er];exact ha,rt.ev⟩ p1,.cons rt p2⟩
theorem RT.evs {H:Hp} (k:Nat):∀ {row:List Thg} {gs:List Tg},RT H row gs->(evRow k row).map (fun x=>(x.2.2.1,x.2.2.2))=gs.filterMap tgO
 |_,_,.nil=>rfl
 | (v,o)::row,g::gs,.cons h t=>by
   have ih:=RT.evs k t
   obtain ⟨_,h2⟩:=h
   dsimp only at h2
   subst h2
   unfold evRow at ih ⊢
   cases g with
   |ev a b c d e=>rw [List.filterMap_cons,List.filterMap_cons];simp only [tgO,Option.map_some,List.map_cons];rw [ih]
   |lo a=>rw [List.filterMap_cons,List.filterMap_cons];simp only [tgO,Option.map_none];exact ih
theorem RT.mem {H:Hp} {row:List Thg} {gs:List Tg} (h:RT H row gs) {x:Thg} (m:x∈row):∃ g∈gs,TgA H x.1 g/\x.2=tgO g:=by
 obtain ⟨i,hi⟩:=List.getElem?_of_mem m
 obtain ⟨g,hg,r⟩:=pd_get h hi
 exact ⟨g,List.mem_of_getElem? hg,r⟩
theorem rts_at {H:Hp} {rs:List (List Thg)} {gss:List (List Tg)} (h:Paired (RT H) rs gss) {i:Nat} (hi:i<rs.length):∃ gs∈gss,RT H (rs.getD i []) gs:=by
 obtain ⟨gs,hg,r⟩:=pd_get h (List.getElem?_eq_getElem hi)
 refine ⟨gs,List.mem_of_getElem? hg,?_⟩
 rw [List.getD_eq_getElem?_getD,List.getElem?_eq_getElem hi]
 exact r
theorem rows_in {K:PySem.W.Frag} {H:Hp} {q:Addr} {ys:List V} {rs:List (List Thg)} {gss:List (List Tg)} (hq:SqL K H q ys) (p1:Paired (RwA H) ys rs) (p2:Paired (RT H) rs gss) (gl:gss.length≤6) (rw':∀ gs∈gss,Rw gs 1000 1000 6):RowsIn K H q ys rs:=by
 have l2:=Paired.length p2
 have el:∀ i,i<rs.length->(evRow i (rs.getD i [])).length≤6:=fun i hi=>by
  obtain ⟨gs,mg,rt⟩:=rts_at p2 hi
  have:=congrArg List.length (rt.evs i)
  rw [List.length_map] at this
  rw [this]
  exact (rw' gs mg).n
 have all:∀ i,i≤rs.length->(evTo rs i).length≤6*i:=fun i=>by
  induction i with
  |zero=>intro _;exact Nat.le_refl _
  | succ i ih=>
    intro h
    have:=ih (by omega)
    have:=el i (by omega)
    rw [evTo_succ,List.length_append]
    omega
 refine ⟨hq,p1,by omega,fun r hr=>?_,by have:=all rs.length (Nat.le_refl _);omega,fun x hx=>?_,?_⟩
 ·obtain ⟨i,hi⟩:=List.getElem?_of_mem hr
  obtain ⟨gs,hg,rt⟩:=pd_get p2 hi
  have:=Paired.length rt
  have:=(rw' gs (List.mem_of_getElem? hg)).l
  omega
 ·obtain ⟨h1,h2⟩:=ev_mem hx
  obtain ⟨gs,mg,rt⟩:=rts_at p2 h1
  obtain ⟨g,m2,_,e⟩:=rt.mem h2
  have:=(rw' gs mg).lo (x.2.2.1,x.2.2.2) (List.mem_filterMap.mpr ⟨g,m2,e.symm⟩)
  dsimp only at this
  omega
 ·unfold evTo
  rw [List.map_flatMap,List.Nodup,List.pairwise_flatMap]
  refine ⟨fun i hi=>?_,?_⟩
  ·obtain ⟨gs,mg,rt⟩:=rts_at p2 (List.mem_range.mp hi)
   have up:=(rw' gs mg).up
   rw [← rt.evs i,List.pairwise_map] at up
   rw [List.pairwise_map]
   refine up.imp fun {a b} lt e=>?_
   simp only [Prod.mk.injEq] at e
   dsimp only at lt
   omega
  ·refine List.Pairwise.imp (fun {a b} hab x hx y hy e=>?_) List.pairwise_lt_range
   obtain ⟨u,hu,rfl⟩:=List.mem_map.mp hx
   obtain ⟨v,hv,rfl⟩:=List.mem_map.mp hy
   have lane:∀ (k:Nat) (row:List Thg) (z:Prr),z∈evRow k row->z.1=k:=fun k row z hz=>by
    unfold evRow at hz
    obtain ⟨⟨v',o⟩,_,e⟩:=List.mem_filterMap.mp hz
    cases o with
    |none=>simp at e
    | some it=>
      simp only [Option.map_some,Option.some.injEq] at e
      rw [← e]
   have e1:=lane _ _ _ hu
   have e2:=lane _ _ _ hv
   simp only [Prod.mk.injEq] at e
   omega
theorem one_order {ns:List Int} {ev ps qs:List Prr} (h1:ps.Perm ev) (h2:qs.Perm ev) (s1:ps.Pairwise fun a b=>rkT (keyP ns a)<rkT (keyP ns b)) (s2:qs.Pairwise fun a b=>rkT (keyP ns a)<rkT (keyP ns b)):ps=qs:=
 List.Perm.eq_of_pairwise (le:=fun a b=>rkT (keyP ns a)<rkT (keyP ns b)) (fun a b _ _ h1 h2=>absurd h1 (by omega)) s1 s2 (h1.trans h2.symm)
theorem pairs_rep {K:PySem.W.Frag} {H:Hp}:∀ {vs ws:List V} {ps:List Prr},(∀ x∈ps,∃ g,TgA H x.2.1 g)->Paired (PrA H) vs ps->Paired (PrA H) ws ps->∃ ds,Reps K H vs ds/\Reps K H ws ds/\pdDeps ds≤3/\pdMaxs ds≤5/\ds.length=ps.length
 |_,_,_,_,.nil,.nil=>⟨[],.nil,.nil,by simp [pdDeps],by simp [pdMaxs],rfl⟩
 | _,_,x::ps,hg,.cons ⟨b,e,hb⟩ t,.cons ⟨c,e',hc⟩ t'=>by
   subst e
   subst e'
   obtain ⟨g,tg⟩:=hg x (.head _)
   obtain ⟨ds,r1,r2,d1,d2,d3⟩:=pairs_rep (fun y hy=>hg y (.tail _ hy)) t t'
   have g1:=tgs_dep [g]
   have g2:=tgs_max [g]
   simp only [List.map_cons,List.map_nil,pdDeps,pdMaxs] at g1 g2
   refine ⟨.tuple [.int x.1,tgD g]::ds,.cons (.tup (SqT.of hb) (.cons (.int _) (.cons tg.rep .nil))) r1,.cons (.tup (SqT.of hc) (.cons (.int _) (.cons tg.rep .nil))) r2,?_,?_,by rw [List.length_cons,List.length_cons,d3]⟩
   ·simp only [pdDeps,pdDep]
    omega
   ·simp only [pdMaxs,pdMax,List.length_cons,List.length_nil]
    omega
theorem things_of {H:Hp} {rs:List (List Thg)} {gss:List (List Tg)} (p2:Paired (RT H) rs gss):∀ x∈evTo rs rs.length,∃ g,TgA H x.2.1 g:=fun x hx=>by
 obtain ⟨h1,h2⟩:=ev_mem hx
 obtain ⟨gs,_,rt⟩:=rts_at p2 h1
 obtain ⟨g,_,tg,_⟩:=rt.mem h2
 exact ⟨g,tg⟩
theorem fn_lift {P:Program} {w:World} {K:PySem.W.Frag} {mg:Str->Option Value} {base:Heap} {CX:CXT} {k:Nat} {f:Addr} {fd:FuncData} {ps:List Str} {sp:Sp} (F:FnOk P w K mg base CX0 k f fd ps sp):FnOk P w K mg base CX k f fd ps sp:=
 ⟨F.len,fun A outer s H args us vs Q E hr he hb hv hs=>codeAny_mono (F.run A outer s H args us vs Q E hr he hb hv hs) fun r s' h=>by
  cases r with
  |error e=>exact h.elim
  |ok fl=>cases fl <;> exact h⟩
theorem fn_or {P:Program} {w:World} {K:PySem.W.Frag} {mg:Str->Option Value} {base:Heap} {CX:CXT} {k:Nat} {f:Addr} {fd:FuncData} {ps:List Str} {sp sp':Sp} (F:FnOk P w K mg base CX k f fd ps sp) (F':FnOk P w K mg base CX k f fd ps sp'):FnOk P w K mg base CX k f fd ps (fun vs H Q E=>sp vs H Q E∨sp' vs H Q E):=
 ⟨fun vs H Q E h=>h.elim (F.len vs H Q E) (F'.len vs H Q E),fun A outer s H args us vs Q E hr he hb hv hs=>hs.elim (F.run A outer s H args us vs Q E hr he hb hv) (F'.run A outer s H args us vs Q E hr he hb hv)⟩
def forBody:Stmt->List Stmt
 |.For _ _ b _ _=>b
 |_=>[]
def lawSt (i:Nat):Stmt:=(forBody ((defBody (top 23)).getD 1 noS)).getD i noS
def noE:Expr:=.Constant .none 0 ⟨0,0,0,0⟩
def lamI:Stmt->Expr
 |.If (.Compare (.Subscript (.Call _ (e::_) _ _) _ _) _ _ _) _ _ _=>e
 |_=>noE
def lamJ:Stmt->Expr
 |.If (.BoolOp _ (.UnaryOp _ (.Call _ (.Call _ (e::_) _ _::_) _ _) _::_) _) _ _ _=>e
 |_=>noE
def lamP:Expr:=lamI (lawSt 6)
def lamQ:Expr:=lamJ (lawSt 12)
abbrev NP:List Str:=["_law_rows","_law_bad"]
abbrev NQ:List Str:=["_law_lent"]
structure LamOk (NL:List Str) (L:Expr):Prop where
 has:∀ q∈(lScope L).names,(q.2=.cell∨q.2=.free)->q.1∈NL
 free:∀ x∈NL,(lScope L).names.lookup x=some .free
 co:(lScope L).isCoroutine=false
 gen:(lScope L).isGenerator=false
 k:(lScope L).kind=.function
 nc:∀ x∈(lScope L).names,x.2≠.cell
theorem lamOkP:LamOk NP lamP:=⟨by decide +kernel,by decide +kernel,rfl,rfl,rfl,by decide +kernel⟩
theorem lamOkQ:LamOk NQ lamQ:=⟨by decide +kernel,by decide +kernel,rfl,rfl,rfl,by decide +kernel⟩
structure BadP (K:Frag) (cP cV cS:Addr):Prop where
 nv:mroIn K cP (.ref cV)=some false
 se:mroIn K cP (.ref cS)=some true
 gt:XGet K cP "word"
theorem ask_lam {X:Cx} {NL:List Str} {js:List Nat} {ν:St} {cV cS cM cP f c':Addr} {ctv:Value} {wd:Str} {L:Expr} {qual:Str} {cl:List (Str×Addr)} {pm:Value} {E:XK} {pins:List (Addr×Obj)} {σ:St} {H:Hp} {s:Shared} {Q:VK} {t:XK->TE} (LO:LamOk NL L)
 (hbind:∀ c' ctv,bindArgs (kla_fn "<lambda>" qual (lParams L) (lBody L) (lScope L) cl pm (.ref c') ctv) ⟨[],[]⟩=pure [])
 (hcl:∀ p∈cl,X.env.cells.lookup p.1=some p.2) (hclN:∀ x∈NL,x∈cl.map (·.1)) (hfn:∀ x,X.fn x=true) (hown:∀ x∈NL,X.env.scope.names.lookup x=some .cell) (hN:js.map (fun j=>X.N[j]?)=NL.map some) (hst:X.stack=X.env::X.outer) (hfm:X.env.frame=some X.env.locals)
 (hb:∀ (f c':Addr) (A:Around) (outer:List Env) (s:Shared) (H:Hp) (E:XK),Room 8 (A.deeper (envX qual (lScope L) s.heap.objs.size f (.ref c') cl))->PE (cxLam X.prog X.w X.K X.mg X.base NL qual (lScope L) f (.ref c') cl A outer s H E) (lBody L) (t E))
 (BP:BadP X.K cP cV cS) (I:Inv X pins σ H s) (ho:H f=some (lamO f (kla_obj "<lambda>" qual (lParams L) (lBody L) (lScope L) cl pm c' ctv))) (hc:H c'=some (codeO c' qual)) (ev:freeV js σ=ν)
 (h:t (fun cls dd H'=>cls=.ref cP/\∃ H1 da,dd=some da/\Same H H1/\Thrown H1 [("word",.str wd)] da H'/\∀ H2,Same H H2->∀ l,H2 l=none->Q (.ref l) (upd H2 l (.lst [.str wd,.non]))) ν H (fun v H'=>∀ l,H' l=none->Q (.ref l) (upd H' l (.lst [.str "",v])))):spAsk X.prog X.w X.K X.mg X.base 9 cV cS cM s X.stack [.ref f] H Q E:=by
 have Cl:=clos_of (scope:=lScope L) (NL:=NL) (js:=js) I hcl hfn (fun q hq h=>hclN _ (LO.has q hq h)) LO.free hown (by rw [← hN]) hst hfm
 rw [ev] at Cl
 refine ⟨f,_,_,rfl,thunk_lam (N:=NL) (k:=8) ho hc Cl (hbind _ _) LO.co LO.gen LO.k LO.nc (fun A outer s hr=>hb f c' A outer s H _ hr) h,fun v H' z l hl=>z l hl,?_⟩
 rintro cls dd H' ⟨rfl,H1,da,rfl,s1,⟨d0,rfl⟩,k⟩
 refine ⟨_,da,_,wd,rfl,rfl,upd_same,.inr (.inl ⟨BP.nv,BP.se,BP.gt,?_⟩),fun l hl=>?_⟩
 ·rw [List.lookup_cons,show (("word" : Str) == ("word" : Str))=true from by decide +kernel]
 ·exact k _ (fun b u e=>by rw [upd_ne (ne_of_none (s1 _ _ e) d0)];exact s1 _ _ e) l hl
theorem _root_.L2.call_list_ofK {X:Cx} {K:PySem.W.Frag} (hK:X.K=K):CallR X (.type "list") (fun xs H Q=>∃ p ys,xs=[.ref p]/\(SqL K H p ys∨SqT K H p ys)/\∀ l,H l=none->Q (.ref l) (upd H l (.lst ys))):=by
 subst hK
 exact call_list_of
abbrev qL:Str:="law.<locals>."++"<lambda>"
abbrev lps:List Pos:=[lPos lamP,lPos lamQ]
abbrev cloP (s:Shared):List (Str×Addr):=[("_law_rows",s.heap.objs.size+1+1+1+1),("_law_bad",s.heap.objs.size+1+1)]
abbrev cloQ (s:Shared):List (Str×Addr):=[("_law_lent",s.heap.objs.size+1+1+1)]
def rAskP (K:Frag) (qual:Str) (cl:List (Str×Addr)) (pm:Value):St->List V->Hp->VK->Prop:=fun σ vs H Q=>∃ f c' ctv lr lb ys zs,vs=[.ref f]/\H f=some (lamO f (kla_obj "<lambda>" qual (lParams lamP) (lBody lamP) (lScope lamP) cl pm c' ctv))/\H c'=some (codeO c' qual)/\
 σ[4]?=some (some (.ref lr))/\σ[8]?=some (some (.ref lb))/\H lr=some (.lst ys)/\H lb=some (.lst zs)/\zs.length≠ys.length/\zs.length≤1000/\ys.length≤1000/\∀ H2,Same H H2->∀ l,H2 l=none->Q (.ref l) (upd H2 l (.lst [.str "badsize",.non]))
theorem ask_P {X:Cx} {cV cS cM cZ fM:Addr} {fdM:FuncData} {qual:Str} {cl:List (Str×Addr)} {pm:Value} {E:XK} {pins:List (Addr×Obj)} {σ:St} {H:Hp} {s:Shared} {vs:List V} {Q:VK}
 (hcl:∀ p∈cl,X.env.cells.lookup p.1=some p.2) (hclN:∀ x∈NP,x∈cl.map (·.1)) (hfn:∀ x,X.fn x=true) (hown:∀ x∈NP,X.env.scope.names.lookup x=some .cell) (hN:([4,8].map fun j=>X.N[j]?)=NP.map some) (hst:X.stack=X.env::X.outer) (hfm:X.env.frame=some X.env.locals)
 (GX:FnOk X.prog X.w X.K X.mg X.base (CX1 X.prog X.w) 8 fM fdM ["rows","row"] (spMgX X.K cZ)) (mX:X.mg "merged" = some (.ref fM)) (kX:keepIn X.K (.ref fM)=true) (bX:Binds X.K fdM ["rows","row"] [])
 (BP:BadP X.K cZ cV cS) (I:Inv X pins σ H s) (h:rAskP X.K qual cl pm σ vs H Q):spAsk X.prog X.w X.K X.mg X.base 9 cV cS cM s X.stack vs H Q E:=by
 obtain ⟨f,c',ctv,lr,lb,ys,zs,rfl,ho,hc,h4,h8,hr,hb,ne,zl,yl,k⟩:=h
 refine ask_lam (js:=[4,8]) (ν:=[some (.ref lr),some (.ref lb)]) (wd:="badsize") (t:=fun E=>tCall (spMgX X.K cZ) [] E (tCons (tVar 0) (tCons (tVar 1) tNil))) lamOkP (fun _ _=>rfl) hcl hclN hfn hown hN hst hfm (fun f c' A outer s H E hr=>pe_call GX hr (by rfl) mX kX bX .nil (passL fun _ _ _ h=>h) (pa_cons (pv 0) (pa_cons (pv 1) pa_nil))) BP I ho hc ?_ ⟨_,rfl,_,rfl,lr,lb,ys,zs,rfl,SqL.of hr,SqL.of hb,ne,zl,yl,fun da H' th=>⟨rfl,H,da,rfl,Same.refl _,th,k⟩⟩
 unfold freeV
 rw [List.map_cons,List.map_cons,List.map_nil,h4,h8]
 rfl
def spToA (K:PySem.W.Frag) (cC:Addr):Sp:=fun vs H Q E=>spTo K vs H Q E∨spToX K cC vs H Q E
def rAskQ (K:Frag) (qual:Str) (cl:List (Str×Addr)) (pm:Value):St->List V->Hp->VK->Prop:=fun σ vs H Q=>∃ f c' ctv lq xs cs,vs=[.ref f]/\H f=some (lamO f (kla_obj "<lambda>" qual (lParams lamQ) (lBody lamQ) (lScope lamQ) cl pm c' ctv))/\H c'=some (codeO c' qual)/\
 σ[7]?=some (some (.ref lq))/\H lq=some (.lst xs)/\Paired (CauAt H) xs cs/\
 (((∀ c∈cs,OkC 6 c)/\cs.length≤100/\∀ r ys H',H' r=some (.lst ys)->Paired (TieAt H') ys (cs.map tieC)->Same H H'->∀ l,H' l=none->Q (.ref l) (upd H' l (.lst [.str "",.ref r])))∨
  ((∀ c∈cs,CauB c)/\cs.all okcB=false/\∀ H2,Same H H2->∀ l,H2 l=none->Q (.ref l) (upd H2 l (.lst [.str "badcause",.non]))))
theorem ask_Q {X:Cx} {cV cS cM cC fT:Addr} {fdT:FuncData} {qual:Str} {cl:List (Str×Addr)} {pm:Value} {E:XK} {pins:List (Addr×Obj)} {σ:St} {H:Hp} {s:Shared} {vs:List V} {Q:VK}
 (hcl:∀ p∈cl,X.env.cells.lookup p.1=some p.2) (hclN:∀ x∈NQ,x∈cl.map (·.1)) (hfn:∀ x,X.fn x=true) (hown:∀ x∈NQ,X.env.scope.names.lookup x=some .cell) (hN:([7].map fun j=>X.N[j]?)=NQ.map some) (hst:X.stack=X.env::X.outer) (hfm:X.env.frame=some X.env.locals)
 (GY:FnOk X.prog X.w X.K X.mg X.base (CX1 X.prog X.w) 8 fT fdT ["causes"] (spToA X.K cC)) (mX:X.mg "ties_of" = some (.ref fT)) (kX:keepIn X.K (.ref fT)=true) (bX:Binds X.K fdT ["causes"] [])
 (BP:BadP X.K cC cV cS) (I:Inv X pins σ H s) (h:rAskQ X.K qual cl pm σ vs H Q):spAsk X.prog X.w X.K X.mg X.base 9 cV cS cM s X.stack vs H Q E:=by
 obtain ⟨f,c',ctv,lq,xs,cs,rfl,ho,hc,h7,hq,pc,hh⟩:=h
 refine ask_lam (js:=[7]) (ν:=[some (.ref lq)]) (wd:="badcause") (t:=fun E=>tCall (spToA X.K cC) [] E (tCons (tVar 0) tNil)) lamOkQ (fun _ _=>rfl) hcl hclN hfn hown hN hst hfm (fun f c' A outer s H E hr=>pe_call GY hr (by rfl) mX kX bX .nil (passL fun _ _ _ h=>h) (pa_cons (pv 0) pa_nil)) BP I ho hc ?_ ⟨_,rfl,?_⟩
 ·unfold freeV
  rw [List.map_cons,List.map_nil,h7]
  rfl
 ·rcases hh with ⟨ok,cl',k⟩|⟨cb,bad,k⟩
  ·exact .inl ⟨lq,xs,cs,rfl,SqL.of hq,pc,ok,cl',fun r ys H' hr pt _ s1=>k r ys H' hr pt s1⟩
  ·exact .inr ⟨lq,xs,cs,rfl,SqL.of hq,pc,cb,bad,fun da H' th=>⟨rfl,H,da,rfl,Same.refl _,th,k⟩⟩
abbrev Kq (H H':Hp):Prop:=∀ b u,H b=some u->(∀ qs,u≠.tbl qs)->(∀ kv,u≠.dK kv)->H' b=some u
theorem kq_same {H H':Hp} (s:Same H H'):Kq H H':=fun b u e _ _=>s b u e
theorem kq_but {H H':Hp} {p dc:Addr} (D:Dr H p dc) (b:But p H H'):Kq H H':=fun c u e _ nd=>b c u e (D.ne e nd)
theorem Kq.lst {H H':Hp} (k:Kq H H') {a:Addr} {xs:List V} (e:H a=some (.lst xs)):H' a=some (.lst xs):=k _ _ e (by intro _ z;cases z) (by intro _ z;cases z)
theorem Kq.tk {H H':Hp} (k:Kq H H'):TK H H':=fun b xs e=>k _ _ e (by intro _ z;cases z) (by intro _ z;cases z)
theorem Kq.trans {H H' H'':Hp} (k:Kq H H') (k':Kq H' H''):Kq H H'':=fun b u e x y=>k' _ _ (k _ _ e x y) x y
theorem rws_kq {H H':Hp} (k:Kq H H') {ys:List V} {rs:List (List Thg)} (h:Paired (RwA H) ys rs):Paired (RwA H') ys rs:=pd_map (fun _ _ ⟨a,e,z,ev⟩=>⟨a,e,k.lst z,fun x hx=>(ev x hx).tk k.tk⟩) h
theorem ras_kq {nq:Addr} {H H':Hp} (k:Kq H H') {ys:List V} {gss:List (List Tg)} (h:Paired (RA nq H) ys gss):Paired (RA nq H') ys gss:=pd_map (fun _ _ z=>z.kp k.tk fun _ _ e _=>k.lst e) h
theorem cut1_len {xs:List V} {n:Nat} (h:xs.length=n) (n1:1≤n):(cutV xs (some 1) none).length=n-1:=by
 have e1:HT.sIx n 0 (some 1)=1:=by
  unfold HT.sIx
  simp
  omega
 have e2:HT.sIx n n none=n:=rfl
 unfold cutV
 rw [h,e1,e2,List.length_take,List.length_drop,h]
 omega
theorem rts_kq {H H':Hp} (k:Kq H H') {rs:List (List Thg)} {gss:List (List Tg)} (h:Paired (RT H) rs gss):Paired (RT H') rs gss:=pd_map (fun _ _ z=>pd_map (fun _ _ y=>⟨y.1.tk k.tk,y.2⟩) z) h
theorem rt_rep {K:PySem.W.Frag} {H:Hp}:∀ {row:List Thg} {gs:List Tg},RT H row gs->Reps K H (row.map (·.1)) (gs.map tgD)
 |_,_,.nil=>.nil
 |_,_,.cons a t=>.cons a.1.rep (rt_rep t)
theorem rows_rep {K:PySem.W.Frag} {H:Hp}:∀ {ys:List V} {rs:List (List Thg)} {gss:List (List Tg)},Paired (RwA H) ys rs->Paired (RT H) rs gss->Reps K H ys (gss.map fun gs=>.list (gs.map tgD))
 |_,_,_,.nil,.nil=>.nil
 | _,_,_,.cons ⟨a,e,ha,_⟩ t,.cons r u=>by
   subst e
   exact .cons (.lst (SqL.of ha) (rt_rep r)) (rows_rep t u)
theorem rows_dep:∀ gss:List (List Tg),pdDeps (gss.map fun gs=>PyData.list (gs.map tgD))≤3
 |[]=>by simp [pdDeps]
 | g::r=>by
   have:=rows_dep r
   have:=tgs_dep g
   rw [List.map_cons]
   simp only [pdDeps,pdDep]
   omega
theorem Paired.ins {α β:Type} {R:α->β->Prop} {x:α} {y:β} (h:R x y):∀ {xs:List α} {ys:List β} (k:Nat),Paired R xs ys->Paired R (xs.take k++x::xs.drop k) (ys.take k++y::ys.drop k)
 |_,_,0,p=>.cons h p
 |_,_,_+1,.nil=>.cons h .nil
 |_,_,k+1,.cons a t=>.cons a (Paired.ins h k t)
theorem okC_B {c:Cau} (o:OkC 6 c):CauB c:=by
 have h1:=o.a
 have h2:=o.b
 have h3:=o.t
 have h4:=o.u
 refine ⟨?_,?_,?_,?_⟩ <;> unfold TxI Far <;> omega
def oddC:List Cau:=[⟨0,1,0,1⟩,⟨0,1,6,1⟩,⟨-1,1,0,1⟩,⟨0,-1,1,1⟩,⟨0,1,1,999999⟩,⟨0,999999,1,0⟩]
theorem oddC_bad:∀ c∈oddC,CauB c/\okcB c=false:=fun c hc=>by
 simp only [oddC,List.mem_cons,List.not_mem_nil,or_false] at hc
 rcases hc with rfl|rfl|rfl|rfl|rfl|rfl <;> refine ⟨⟨?_,?_,?_,?_⟩,rfl⟩ <;> unfold TxI Far <;> decide
def tieP (e:Tie):PyData:=.tuple [.int e.1,.int e.2.1,.int e.2.2]
def cauD (c:Cau):PyData:=.tuple [.int c.a,.int c.t,.int c.b,.int c.u]
theorem ties_reps {K:PySem.W.Frag} {H:Hp}:∀ {xs:List V} {es:List Tie},Paired (TieAt H) xs es->Reps K H xs (es.map tieP)
 |_,_,.nil=>.nil
 | _,_,.cons ⟨b,e,h⟩ t=>by
   subst e
   exact .cons (.tup (SqT.of h) (.cons (.int _) (.cons (.int _) (.cons (.int _) .nil)))) (ties_reps t)
theorem caus_reps {K:PySem.W.Frag} {H:Hp}:∀ {xs:List V} {cs:List Cau},Paired (CauAt H) xs cs->Reps K H xs (cs.map cauD)
 |_,_,.nil=>.nil
 | _,_,.cons ⟨b,e,h⟩ t=>by
   subst e
   exact .cons (.tup (SqT.of h) (.cons (.int _) (.cons (.int _) (.cons (.int _) (.cons (.int _) .nil))))) (caus_reps t)
theorem ties_deps:∀ es:List Tie,pdDeps (es.map tieP)≤1/\pdMaxs (es.map tieP)≤3
 |[]=>by simp [pdDeps,pdMaxs]
 | e::r=>by
   have:=ties_deps r
   rw [List.map_cons]
   simp only [pdDeps,pdDep,pdMaxs,pdMax,tieP,List.length_cons,List.length_nil]
   omega
theorem caus_deps:∀ es:List Cau,pdDeps (es.map cauD)≤1/\pdEqs (es.map cauD) (es.map cauD)=true
 |[]=>by simp [pdDeps,pdEqs]
 | e::r=>by
   have:=caus_deps r
   rw [List.map_cons]
   refine ⟨?_,?_⟩
   ·simp only [pdDeps,pdDep,cauD]
    omega
   ·simp [pdEqs,pdEq,cauD,this.2]
theorem tgs_eqs:∀ gs:List Tg,pdEqs (gs.map tgD) (gs.map tgD)=true
 |[]=>rfl
 | g::r=>by
   rw [List.map_cons]
   cases g <;> simp [pdEqs,pdEq,tgD,tgs_eqs r]
theorem rows_eqs:∀ gss:List (List Tg),pdEqs (gss.map fun gs=>PyData.list (gs.map tgD)) (gss.map fun gs=>PyData.list (gs.map tgD))=true
 |[]=>rfl
 | g::r=>by
   rw [List.map_cons]
   simp [pdEqs,pdEq,tgs_eqs g,rows_eqs r]
theorem ints_eqs:∀ xs:List Int,pdEqs (xs.map PyData.int) (xs.map PyData.int)=true
 |[]=>rfl
 | x::r=>by
   rw [List.map_cons]
   simp [pdEqs,pdEq,ints_eqs r]
theorem ints_deps:∀ xs:List Int,pdDeps (xs.map PyData.int)≤1
 |[]=>by simp [pdDeps]
 | x::r=>by
   have:=ints_deps r
   rw [List.map_cons]
   simp only [pdDeps,pdDep]
   omega
theorem ints_reps {K:PySem.W.Frag} {H:Hp}:∀ ns:List Int,Reps K H (ns.map V.int) (ns.map PyData.int)
 |[]=>.nil
 |n::r=>.cons (.int n) (ints_reps r)
structure KL (Tt Tm p dc:Addr) (H:Hp):Prop where
 D:Dr H p dc
 tb:TabI H Tt qL lps
 tm:TabI H Tm qM [lPos lamM]
theorem KL.same {Tt Tm p dc:Addr} {H H':Hp} (h:KL Tt Tm p dc H) (s:Same H H'):KL Tt Tm p dc H':=⟨h.D.mono s,h.tb.same s,h.tm.same s⟩
theorem KL.but {Tt Tm p dc:Addr} {H H':Hp} (h:KL Tt Tm p dc H) (D':Dr H' p dc) (b:But p H H'):KL Tt Tm p dc H':=⟨D',h.tb.keep fun q u e ne=>b q u e (h.D.ne e ne),h.tm.keep fun q u e ne=>b q u e (h.D.ne e ne)⟩
theorem tab_put {H:Hp} {T w:Addr} {qual:Str} {lps:List Pos} {ys zs:List V} (h:TabI H T qual lps) (hw:H w=some (.lst ys)):TabI (upd H w (.lst zs)) T qual lps:=by
 obtain ⟨ps,h1,h2,h3⟩:=h
 refine ⟨ps,?_,h2,fun lp m=>?_⟩
 ·rw [upd_ne (fun z=>by subst z;rw [hw] at h1;cases h1)];exact h1
 ·rcases h3 lp m with h|⟨c',a,b⟩
  ·exact .inl h
  ·refine .inr ⟨c',a,?_⟩
   rw [upd_ne (fun z=>by subst z;rw [hw] at b;cases b)];exact b
theorem KL.put {Tt Tm p dc w:Addr} {H:Hp} {ys zs:List V} (h:KL Tt Tm p dc H) (hw:H w=some (.lst ys)) (n:w≠dc):KL Tt Tm p dc (upd H w (.lst zs)):=⟨h.D.put (h.D.ne hw (by intro _ z;cases z)) n,tab_put h.tb hw,tab_put h.tm hw⟩
abbrev KpX (T:Addr) (H H':Hp):Prop:=∀ b u,H b=some u->((∀ qs,u≠.tbl qs)∨b≠T)->H' b=some u
theorem KpX.tab {T T':Addr} {H H':Hp} {qual:Str} {lps:List Pos} (k:KpX T H H') (ne:T'≠T) (h:TabI H T' qual lps):TabI H' T' qual lps:=by
 obtain ⟨ps,h1,h2,h3⟩:=h
 refine ⟨ps,k _ _ h1 (.inr ne),h2,fun lp m=>?_⟩
 rcases h3 lp m with h|⟨c',a,b⟩
 ·exact .inl h
 ·exact .inr ⟨c',a,k _ _ b (.inl (by intro _ z;cases z))⟩
theorem KpX.tk {T:Addr} {H H':Hp} (k:KpX T H H'):TK H H':=fun b xs e=>k _ _ e (.inl (by intro _ z;cases z))
theorem KpX.lst {T:Addr} {H H':Hp} (k:KpX T H H') {a:Addr} {xs:List V} (e:H a=some (.lst xs)):H' a=some (.lst xs):=k _ _ e (.inl (by intro _ z;cases z))
theorem KpX.dr {T:Addr} {H H':Hp} (k:KpX T H H') {p dc:Addr} (D:Dr H p dc):Dr H' p dc:=by
 obtain ⟨ns,a,r,s,h1,h2,h3⟩:=D.ex
 exact ⟨ns,a,r,s,k _ _ h1 (.inl (by intro _ z;cases z)),k _ _ h2 (.inl (by intro _ z;cases z)),h3⟩
theorem lam_kpx {H H1:Hp} {T c' f':Addr} {lp:Pos} {qual:Str} (lm:Lam H T lp qual c' H1) (hf:H1 f'=none) {o:HO}:KpX T H (upd H1 f' o):=fun b u e ne=>by
 have e2:H1 b=some u:=by
  rcases ne with ne|ne
  ·exact lm.keep e ne
  ·obtain ⟨ps,hP,lm⟩:=lm
   rcases lm with ⟨_,hc,_,rfl⟩|⟨_,_,rfl⟩
   ·rw [upd_ne (ne_of_none e hc),upd_ne ne];exact e
   ·exact e
 rw [upd_ne (ne_of_none e2 hf)]
 exact e2
section
variable {P:Program} {w:World} {K:PySem.W.Frag} {mg:Str->Option Value} {base:Heap}
def spLaw (K:PySem.W.Frag) (Tt Tm:Addr) (tbs:Array Value):Sp:=fun vs H Q _=>∃ (a:Addr) (ns:List Int),vs=[.ref a]/\SqL K H a (ns.map V.int)/\ns.length≤63/\H Tt=some (.tbl tbs)/\H Tm=some (.tbl tbs)/\∀ H',Q (.bl true) H'
abbrev NW:List Str:=["_law_script","_law_d","_law_turn","_law_lanes","_law_rows","_law_row","_law_handed","_law_lent","_law_bad","_law_causes_here","_law_word","_law_odd","_law_due"]
theorem scLaw:FnScope NW ["_law_script"] (defScope (top 23)):=⟨rfl,rfl,rfl,by decide +kernel,rfl,by decide +kernel,by decide +kernel⟩
theorem ok_law {f c Tt Tm fB fP fO fF fS fTr fCa fTy fLd fTo fN fMg fA cV cS cM cZ cC:Addr} {fdB fdP fdO fdF fdS fdTr fdCa fdTy fdLd fdTo fdN fdMg fdA:FuncData} {oc kV doc pm ct:Value} {od an:Option Addr} {osl:Array (Option Value)} {tbs:Array Value}
 (lk:K.lookup f=some ⟨oc,od,.func (PySem.W.fnOf "law" "law" (defArgs (top 23)) (defBody (top 23)) (defScope (top 23)) .none kV doc pm an (.ref c) ct),osl⟩) (hcd:PySem.W.codeIn K (.ref c) "law" = true)
 (HT:CodeHd base c Tt) (HB:base.BuiltinsAt mg Tt) (HG:mainGlobals≠Tt) (tri:TriplesOk tbs.toList) (cn:∀ lp,codeAmong lp tbs.toList=none) (ntm:Tt≠Tm)
 (T:Txt K mg) (TC:TxtC mg) (BZ:BadP K cZ cV cS) (BC:BadP K cC cV cS)
 (DB:Def K mg "_law_begin" (top 13) ["_law_script"] fB fdB) (DP:Def K mg "_law_pick" (top 14) ["_law_d","_law_many"] fP fdP) (DO:Def K mg "_law_of" (top 15) ["_law_d","_law_things"] fO fdO) (DF:Def K mg "_law_far" (top 16) ["_law_d"] fF fdF) (DS:Def K mg "_law_same" (top 17) ["_law_found","_law_due"] fS fdS)
 (DTr:Def K mg "_law_told_rows" (top 19) ["_law_d","_law_lanes"] fTr fdTr) (DCa:Def K mg "_law_causes" (top 20) ["_law_d","_law_lanes","_law_rows"] fCa fdCa) (DTy:Def K mg "_law_ties_by" (top 21) ["_law_causes_here"] fTy fdTy) (DLd:Def K mg "_law_laid" (top 22) ["_law_rows","_law_row"] fLd fdLd)
 (DTo:Def K mg "ties_of" (top 10) ["causes"] fTo fdTo) (DN:Def K mg "need_cause" (top 9) ["lane","time","other","second"] fN fdN)
 (GMg:FnOk P w K mg base CX0 4 fMg fdMg ["rows","row"] (spMg K Tm)) (mMg:mg "merged" = some (.ref fMg)) (kMg:keepIn K (.ref fMg)=true) (bMg:Binds K fdMg ["rows","row"] [])
 (GX:FnOk P w K mg base (CX1 P w) 8 fMg fdMg ["rows","row"] (spMgX K cZ)) (GY:FnOk P w K mg base (CX1 P w) 8 fTo fdTo ["causes"] (spToA K cC))
 (GA:FnOkS P w K mg base CX0 10 fA fdA ["_law_ask_here"] (spAsk P w K mg base 9 cV cS cM)) (hA:mg "_law_ask" = some (.ref fA)) (kA:keepIn K (.ref fA)=true) (bA:Binds K fdA ["_law_ask_here"] []) :
 FnOk P w K mg base CX0 12 f (PySem.W.fnOf "law" "law" (defArgs (top 23)) (defBody (top 23)) (defScope (top 23)) .none kV doc pm an (.ref c) ct) ["_law_script"] (spLaw K Tt Tm tbs):=by
 have GB:FnOk P w K mg base CX0 1 fB fdB ["_law_script"] (spBegin K):=ok_begin DB.F T
 have GP:FnOk P w K mg base CX0 1 fP fdP ["_law_d","_law_many"] spPick:=ok_pick DP.F T
 have GO:FnOk P w K mg base CX0 2 fO fdO ["_law_d","_law_things"] (spOf K):=ok_of DO.F T DP
 have GF:FnOk P w K mg base CX0 2 fF fdF ["_law_d"] spFar:=ok_far DF.F T DP
 have GS:FnOk P w K mg base CX0 6 fS fdS ["_law_found","_law_due"] (spS K 6):=ok_same DS T 6
 have GTr:FnOk P w K mg base CX0 3 fTr fdTr ["_law_d","_law_lanes"] spTr:=ok_tr DTr.F T DP DO
 have GCa:FnOk P w K mg base CX0 3 fCa fdCa ["_law_d","_law_lanes","_law_rows"] spCa:=ok_ca DCa.F T DP DO
 have GTy:FnOk P w K mg base CX0 1 fTy fdTy ["_law_causes_here"] (spTy K):=ok_ty DTy.F
 have GLd:FnOk P w K mg base CX0 1 fLd fdLd ["_law_rows","_law_row"] (spLd K):=ok_ld DLd.F T
 have GTo:FnOk P w K mg base CX0 2 fTo fdTo ["causes"] (spTo K):=ok_to DTo.F TC DN
 refine fn_of lk hcd scLaw (fun vs H Q E h=>?_) (fun A outer s H vs Q E hr h=>?_)
 ·obtain ⟨a,ns,rfl,_⟩:=h
  rfl
 ·obtain ⟨sa,ss,rfl,hS,hlen,hTb,hTm,k⟩:=h
  have hr1:Room 1 _:=hr.mono (by decide)
  have hr2:Room 2 _:=hr.mono (by decide)
  have hr3:Room 3 _:=hr.mono (by decide)
  have hr4:Room 4 _:=hr.mono (by decide)
  have hr6:Room 6 _:=hr.mono (by decide)
  have hr10:Room 10 _:=hr.mono (by decide)
  have CT:CodeTab (cxOf CX0 P w K mg base NW "law" (defScope (top 23)) f (.ref c) A outer s H E) c Tt:=⟨rfl,HT,HB,HG⟩
  have h1P:∀ q∈cloP s,(PyProof.Rows.envOfC "law" (defScope (top 23)) s.heap.objs.size f (.ref c)).cells.lookup q.1=some q.2:=by
   intro q hq
   rcases List.mem_cons.mp hq with rfl|hq
   ·rfl
   ·cases List.mem_singleton.mp hq
    rfl
  have h1Q:∀ q∈cloQ s,(PyProof.Rows.envOfC "law" (defScope (top 23)) s.heap.objs.size f (.ref c)).cells.lookup q.1=some q.2:=by
   intro q hq
   cases List.mem_singleton.mp hq
   rfl
  have h1PN:∀ x∈NP,x∈(cloP s).map (·.1):=by
   have:∀ x∈NP,x∈(["_law_rows","_law_bad"]:List Str):=by decide +kernel
   exact this
  have h1QN:∀ x∈NQ,x∈(cloQ s).map (·.1):=by
   have:∀ x∈NQ,x∈(["_law_lent"]:List Str):=by decide +kernel
   exact this
  have h3P:∀ x∈NP,(defScope (top 23)).names.lookup x=some .cell:=by decide +kernel
  have h3Q:∀ x∈NQ,(defScope (top 23)).names.lookup x=some .cell:=by decide +kernel
  refine ⟨_,(pss_cons (ps_set (i:=1) scLaw.nd rfl (by first|exact Or.inl rfl|exact Or.inr rfl) (pe_call GB hr1 rfl DB.mg DB.F.kp DB.b .nil pass0 (pa_cons (pv 0) pa_nil)))
   (pss_cons (ps_for PassesOwn.leaving rfl (pi_range1 rfl T.range (pa_cons pe_int pa_nil)) (pg_name (i:=2) scLaw.nd rfl (by first|exact Or.inl rfl|exact Or.inr rfl))
   (pss_cons (ps_set (i:=3) scLaw.nd rfl (by first|exact Or.inl rfl|exact Or.inr rfl) (pe_op op_add pe_int (pe_call GP hr1 rfl DP.mg DP.F.kp DP.b .nil pass0 (pa_cons (pv 1) (pa_cons pe_int pa_nil)))))
   (pss_cons (ps_set (i:=4) scLaw.nd rfl (by first|exact Or.inl rfl|exact Or.inr rfl) (pe_call GTr hr3 rfl DTr.mg DTr.F.kp DTr.b .nil pass0 (pa_cons (pv 1) (pa_cons (pv 3) pa_nil))))
   (pss_cons (ps_setComp (i:=5) (g:=gName 0) (own:=["_law_lane"]) (js:=[1]) (N':=["_law_lane","_law_d"]) (CompScope.of (osc:=defScope (top 23)) (N:=NW) rfl rfl ⟨rfl,by decide +kernel,by decide +kernel,by decide +kernel,rfl,by decide +kernel⟩) rfl scLaw.nd rfl rfl (pi_range1 rfl T.range (pa_cons (pv 3) pa_nil)) (fun _ _ _ _ _=>(pg_name (i:=0) (show List.Nodup (["_law_lane","_law_d"]:List Str) by decide +kernel) rfl (Or.inl rfl) (Or.inr rfl))) (fun _ _ _ _ _=>pifs_nil) (fun _ _ _ _ _=>(pe_call GO hr2 rfl DO.mg DO.F.kp DO.b .nil pass0 (pa_cons (pv 1) (pa_cons (pe_lst (pa_cons pe_int (pa_cons pe_int (pa_cons (pe_call GP hr1 rfl DP.mg DP.F.kp DP.b .nil pass0 (pa_cons (pv 1) (pa_cons pe_int pa_nil))) (pa_cons (pe_call GF hr2 rfl DF.mg DF.F.kp DF.b .nil pass0 (pa_cons (pv 1) pa_nil)) pa_nil))))) pa_nil)))))
   (pss_cons (ps_asg (pe_tup (pa_cons (pe_comp (g:=gName 0) (own:=["_law_told"]) (js:=[]) (N':=["_law_told"]) (CompScope.of (osc:=defScope (top 23)) (N:=NW) rfl rfl ⟨rfl,by decide +kernel,by decide +kernel,by decide +kernel,rfl,by decide +kernel⟩) rfl (pi_listK (K:=K) rfl (pv 4)) (fun _ _ _ _ _=>(pg_name (i:=0) (show List.Nodup (["_law_told"]:List Str) by decide +kernel) rfl (Or.inl rfl) (Or.inr rfl))) (fun _ _ _ _ _=>pifs_nil) (fun _ _ _ _ _=>(pe_callTy (call_list_ofK (K:=K) rfl) (by rfl) T.list bt_list (pa_cons (pv 0) pa_nil)))) (pa_cons (pe_callTy (call_list_ofK (K:=K) rfl) (by rfl) T.list bt_list (pa_cons (pv 5) pa_nil)) pa_nil))) (pg_tup rfl (pgs_cons (pg_name (i:=6) scLaw.nd rfl (by first|exact Or.inl rfl|exact Or.inr rfl)) (pgs_cons (pg_name (i:=7) scLaw.nd rfl (by first|exact Or.inl rfl|exact Or.inr rfl)) pgs_nil))))
   (pss_cons (ps_if (PW.pt (pw_or (pt_not (pt_val (pe_call GS hr6 rfl DS.mg DS.F.kp DS.b .nil pass0 (pa_cons (pe_call GMg hr4 rfl mMg kMg bMg .nil pass0 (pa_cons (pv 6) (pa_cons (pv 7) pa_nil))) (pa_cons (pe_call GLd hr1 rfl DLd.mg DLd.F.kp DLd.b .nil pass0 (pa_cons (pv 4) (pa_cons (pv 5) pa_nil))) pa_nil))))) (pw_or (pt_cmpR (op_neL hr.units) (pv 6) (pv 4) (nomark _)) (pw_or1 (pt_cmpR (op_neL hr.units) (pv 7) (pv 5) (nomark _)))))) (pss_one ps_never) pss_nil)
   (pss_cons (ps_set (i:=8) scLaw.nd rfl (by first|exact Or.inl rfl|exact Or.inr rfl) (pe_call GO hr2 rfl DO.mg DO.F.kp DO.b .nil pass0 (pa_cons (pv 1) (pa_cons (pe_lst (pa_cons (pe_slice sl_list (pv 5) (po_some pe_int) po_none) (pa_cons (pe_op op_cat (pv 5) (pe_lst (pa_cons pe_int pa_nil))) (pa_cons (pe_lst pa_nil) pa_nil)))) pa_nil))))
   (pss_cons (ps_if (pt_cmpR op_ne (pe_ix (r:=rIxL K) ix_list (pe_callS (E:=E0) (r:=rAskP K qL (cloP s) ((mg "__name__").getD .none)) GA hr10 (by rfl) hA kA bA pass0 (fun pins σ H s' vs Q I h=>ask_P h1P h1PN (fun _=>rfl) h3P rfl rfl rfl GX mMg kMg bMg BZ I h) (pa_cons (pe_lam CT rfl rfl) pa_nil)) pe_int (fun _ _=>rfl)) pe_str (nomark _)) (pss_one ps_never) pss_nil)
   (pss_cons (ps_set (i:=9) scLaw.nd rfl (by first|exact Or.inl rfl|exact Or.inr rfl) (pe_call GCa hr3 rfl DCa.mg DCa.F.kp DCa.b .nil pass0 (pa_cons (pv 1) (pa_cons (pv 3) (pa_cons (pv 4) pa_nil)))))
   (pss_cons (ps_set (i:=10) scLaw.nd rfl (by first|exact Or.inl rfl|exact Or.inr rfl) pe_str)
   (pss_cons (ps_if (pt_cmpR op_eq (pe_call GP hr1 rfl DP.mg DP.F.kp DP.b .nil pass0 (pa_cons (pv 1) (pa_cons pe_int pa_nil))) pe_int (nomark _)) (pss_cons (ps_set (i:=11) scLaw.nd rfl (by first|exact Or.inl rfl|exact Or.inr rfl) (pe_lst (pa_cons (pe_tup (pa_cons pe_int (pa_cons pe_int (pa_cons pe_int (pa_cons pe_int pa_nil))))) (pa_cons (pe_tup (pa_cons pe_int (pa_cons pe_int (pa_cons pe_int (pa_cons pe_int pa_nil))))) (pa_cons (pe_tup (pa_cons (pe_un un_neg pe_int) (pa_cons pe_int (pa_cons pe_int (pa_cons pe_int pa_nil))))) (pa_cons (pe_tup (pa_cons pe_int (pa_cons (pe_un un_neg pe_int) (pa_cons pe_int (pa_cons pe_int pa_nil))))) (pa_cons (pe_tup (pa_cons pe_int (pa_cons pe_int (pa_cons pe_int (pa_cons pe_int pa_nil))))) (pa_cons (pe_tup (pa_cons pe_int (pa_cons pe_int (pa_cons pe_int (pa_cons pe_int pa_nil))))) pa_nil))))))))
   (pss_cons (ps_expr (pe_bm PySem.F.plainAttrs_list PySem.F.slot_list_insert PySem.F.type_list_insert mt_insert (pv 9) (pa_cons (pe_call GP hr1 rfl DP.mg DP.F.kp DP.b .nil pass0 (pa_cons (pv 1) (pa_cons (pe_op op_add (pe_callB call_len_seq (by rfl) T.len bt_len (pa_cons (pv 9) pa_nil)) pe_int) pa_nil))) (pa_cons (pe_call GO hr2 rfl DO.mg DO.F.kp DO.b .nil pass0 (pa_cons (pv 1) (pa_cons (pv 11) pa_nil))) pa_nil))))
   (pss_one (ps_set (i:=10) scLaw.nd rfl (by first|exact Or.inl rfl|exact Or.inr rfl) pe_str)))) pss_nil)
   (pss_cons (ps_set (i:=7) scLaw.nd rfl (by first|exact Or.inl rfl|exact Or.inr rfl) (pe_callTy (call_list_ofK (K:=K) rfl) (by rfl) T.list bt_list (pa_cons (pv 9) pa_nil)))
   (pss_cons (ps_set (i:=12) scLaw.nd rfl (by first|exact Or.inl rfl|exact Or.inr rfl) (pe_ifExp (pt_cmpR op_eq (pv 10) pe_str (nomark _)) (pe_call GTy hr1 rfl DTy.mg DTy.F.kp DTy.b .nil pass0 (pa_cons (pv 9) pa_nil)) pe_non))
   (pss_one (ps_if (PW.pt (pw_or (pt_not (pt_val (pe_call GS hr6 rfl DS.mg DS.F.kp DS.b .nil pass0 (pa_cons (pe_callS (E:=E0) (r:=rAskQ K qL (cloQ s) ((mg "__name__").getD .none)) GA hr10 (by rfl) hA kA bA pass0 (fun pins σ H s' vs Q I h=>ask_Q h1Q h1QN (fun _=>rfl) h3Q rfl rfl rfl GY DTo.mg DTo.F.kp DTo.b BC I h) (pa_cons (pe_lam CT rfl rfl) pa_nil)) (pa_cons (pe_lst (pa_cons (pv 10) (pa_cons (pv 12) pa_nil))) pa_nil))))) (pw_or1 (pt_cmpR (op_neL hr.units) (pv 7) (pv 9) (nomark _))))) (pss_one ps_never) pss_nil)))))))))))))))
   (pss_one (ps_ret (pe_call GS hr6 rfl DS.mg DS.F.kp DS.b .nil pass0 (pa_cons (pe_call GTo hr2 rfl DTo.mg DTo.F.kp DTo.b .nil pass0 (pa_cons (pe_lst (pa_cons (pe_tup (pa_cons pe_int (pa_cons pe_int (pa_cons pe_int (pa_cons pe_int pa_nil))))) pa_nil)) pa_nil)) (pa_cons (pe_lst (pa_cons (pe_tup (pa_cons pe_int (pa_cons pe_int (pa_cons pe_int pa_nil)))) pa_nil)) pa_nil))))))),?_⟩
  have z0:0≤sizeLine:=by decide
  have q1m:lPos lamP∈lps:=List.mem_cons_self ..
  have q2m:lPos lamQ∈lps:=List.mem_cons_of_mem _ (List.mem_cons_self ..)
  refine ⟨_,rfl,sa,ss,rfl,hS,hlen,fun p dc H0 D0 s0 _=>?_⟩
  have L0:KL Tt Tm p dc H0:=⟨D0,⟨tbs,s0 _ _ hTb,tri,fun lp m=>.inl (cn lp)⟩,⟨tbs,s0 _ _ hTm,tri,fun lp m=>.inl (cn lp)⟩⟩
  clear D0 s0
  dsimp only [gName,List.set]
  refine seq_by (fun σ' H'=>(∃ u2 u3 u4 u5 u6 u7 u8 u9 u10 u11 u12:Option V,σ'=[some (.ref sa),some (.ref p),u2,u3,u4,u5,u6,u7,u8,u9,u10,u11,u12])/\KL Tt Tm p dc H') ?nx0 fun N0 hN0=>?st0
  case st0=>
   refine ⟨3,rfl,by decide,by decide,?_⟩
   refine for_range (n:=3) (fun i σ' H'=>(∃ u2 u3 u4 u5 u6 u7 u8 u9 u10 u11 u12:Option V,σ'=[some (.ref sa),some (.ref p),u2,u3,u4,u5,u6,u7,u8,u9,u10,u11,u12])/\KL Tt Tm p dc H') ⟨⟨none,none,none,none,none,none,none,none,none,none,none,rfl⟩,L0⟩ ?_ ?_
   ·rintro i σ' H1 hi ⟨⟨u2,u3,u4,u5,u6,u7,u8,u9,u10,u11,u12,rfl⟩,L1⟩
    dsimp only [gName,List.set]
    refine ⟨_,rfl,p,dc,_,rfl,L1.D,by decide,by decide,fun r H2 r0 r1 D2 b2=>⟨_,_,rfl,rfl,?_⟩⟩
    have L2:=L1.but D2 b2
    obtain ⟨n,en⟩:=Int.eq_ofNat_of_zero_le (show 0≤1+r by omega)
    dsimp only
    rw [en]
    have n1:1≤n:=by omega
    have n6:n≤6:=by omega
    clear r0 r1 en b2 L1 D2
    refine ⟨_,rfl,_,rfl,p,dc,n,rfl,L2.D,n6,fun q ys gss H3 hq pr gl rw' nq D3 b3=>?_⟩
    have L3:=L2.but D3 b3
    clear L2 D3 b3 nq
    dsimp only [gName,List.set]
    obtain ⟨rs,p1,p2⟩:=rts_of pr
    have rl:=Paired.length p2
    have yl:=Paired.length p1
    refine seq_by (fun σ' H'=>∃ (rq:Addr) (ns:List Int),σ'=[some (.ref sa),some (.ref p),some (.int (0+(i:Int))),some (.int n),some (.ref q),some (.ref rq),u6,u7,u8,u9,u10,u11,u12]/\H' rq=some (.lst (ns.map V.int))/\ns.length=n/\KL Tt Tm p dc H'/\Kq H3 H') ?nx1 fun N hN=>?st1
    case st1=>
     refine ⟨_,rfl,_,rfl,by omega,by omega,?_⟩
     refine comp_range (n:=n) (fun j ys σ' H'=>(∃ v,σ'=[v,some (.ref p)])/\KL Tt Tm p dc H'/\Kq H3 H'/\∃ ns:List Int,ys=ns.map V.int) (Nat.le_trans n6 (by decide)) ⟨⟨none,rfl⟩,L3,kq_same (Same.refl _),[],rfl⟩ ?_ ?_
     ·rintro j ys σ' H4 hj hy ⟨⟨v,rfl⟩,L4,k4,ns,rfl⟩ M hM
      dsimp only [gName]
      refine ⟨_,rfl,_,rfl,p,dc,_,rfl,L4.D,by decide,by decide,fun r H5 r0 r1 D5 b5=>⟨_,rfl,p,dc,rfl,D5,fun z H6 z1 z2 D6 b6=>⟨(by show 4≤sizeLine;decide),fun l hl=>⟨p,dc,l,_,rfl,D6.new hl,SqL.of upd_same,by simp,by simp,fun x H7 hx D7 b7=>?_⟩⟩⟩⟩
      have hx:∃ t:Int,x=.int t:=by
       simp only [List.mem_cons,List.not_mem_nil,or_false] at hx
       rcases hx with rfl|rfl|rfl|rfl <;> exact ⟨_,rfl⟩
      obtain ⟨t,rfl⟩:=hx
      have bb:But p H4 H7:=((b5.trans b6).trans fun b u e _=>Same.new hl b u e).trans b7
      exact hM _ _ _ (by rw [List.length_append,hy];rfl) ⟨⟨_,rfl⟩,L4.but D7 bb,k4.trans (kq_but L4.D bb),ns++[t],by rw [List.map_append];rfl⟩
     ·rintro ys σ' H4 hy ⟨⟨v,rfl⟩,L4,k4,ns,rfl⟩
      refine ⟨by rw [hy];exact Nat.le_trans n6 (by decide),fun l hl=>?_⟩
      exact hN _ _ ⟨l,ns,rfl,upd_same,by rw [List.length_map] at hy;exact hy,L4.same (Same.new hl),k4.trans (kq_same (Same.new hl))⟩
    rintro σ' H4 ⟨rq,ns,rfl,hrq,nl,L4,k4⟩
    have hq:=k4.lst hq
    have p1:=rws_kq k4 p1
    have pr:=ras_kq k4 pr
    have p2:=rts_kq k4 p2
    clear L3 k4
    refine seq_by (fun σ' H'=>∃ (hq' lq:Addr) (zs:List V),σ'=[some (.ref sa),some (.ref p),some (.int (0+(i:Int))),some (.int n),some (.ref q),some (.ref rq),some (.ref hq'),some (.ref lq),u8,u9,u10,u11,u12]/\H' hq'=some (.lst zs)/\Paired (RwA H') zs rs/\H' lq=some (.lst (ns.map V.int))/\KL Tt Tm p dc H'/\Kq H4 H') ?nx2 fun N hN=>?st2
    case st2=>
     refine ⟨_,rfl,q,rfl,⟨_,SqL.of hq⟩,?_⟩
     refine comp_list (K:=K) (a:=q) (xs:=ys) (fun j zs σ' H'=>(∃ v,σ'=[v])/\Same H4 H'/\Paired (RwA H') zs (rs.take j)) (Nat.le_trans (show ys.length≤6 by omega) (by decide)) ⟨⟨none,rfl⟩,Same.refl _,.nil⟩ (fun j zs σ H' _ e=>SqL.of (e.2.1 _ _ hq)) ?_ ?_
     ·rintro j x zs σ' H5 hj hz ⟨⟨v,rfl⟩,s5,pz⟩ M hM
      obtain ⟨row,hrow,a,rfl,ha,ev⟩:=pd_get p1 hj
      dsimp only [gName]
      refine ⟨_,rfl,a,_,rfl,.inl (SqL.of (s5 _ _ ha)),fun l hl=>?_⟩
      have s6:=Same.new (o:=.lst (row.map (·.1))) hl
      refine hM _ _ _ (by rw [List.length_append,hz];rfl) ⟨⟨_,rfl⟩,s5.trans s6,?_⟩
      rw [List.take_add_one,hrow]
      exact Paired.snoc ⟨l,rfl,upd_same,fun x hx=>(ev x hx).tk (Same.tk (s5.trans s6))⟩ (rws_kq (kq_same s6) pz)
     ·rintro zs σ' H5 hz ⟨⟨v,rfl⟩,s5,pz⟩
      rw [yl,List.take_length] at pz
      refine ⟨by rw [hz];exact Nat.le_trans (show ys.length≤6 by omega) (by decide),fun l hl=>?_⟩
      have s6:Same H5 (upd H5 l (.lst zs)):=Same.new hl
      have e6:upd H5 l (.lst zs) l=some (.lst zs):=upd_same
      generalize upd H5 l (.lst zs)=H6 at s6 e6 ⊢
      have s46:=s5.trans s6
      refine ⟨_,rfl,rq,_,rfl,.inl (SqL.of (s46 _ _ hrq)),fun l2 hl2=>⟨(by show 2≤sizeLine;decide),fun t ht=>?_⟩⟩
      have s7:=(Same.new (o:=.lst (ns.map V.int)) hl2).trans (Same.new (o:=.tup [.ref l,.ref l2]) ht)
      have s47:=s46.trans s7
      refine ⟨t,_,rfl,SqT.of upd_same,rfl,_,_,rfl,_,_,rfl,rfl,hN _ _ ⟨l,l2,zs,rfl,s7 _ _ e6,rws_kq (kq_same (s6.trans s7)) pz,Same.new ht _ _ upd_same,L4.same s47,kq_same s47⟩⟩
    rintro σ' H5 ⟨hq',lq,zs,rfl,hh,pz,hlq,L5,k5⟩
    have hq:=k5.lst hq
    have hrq:=k5.lst hrq
    have p1:=rws_kq k5 p1
    have pr:=ras_kq k5 pr
    have p2:=rts_kq k5 p2
    clear L4 k5
    have zl:=Paired.length pz
    refine seq_by (fun σ' H'=>σ'=[some (.ref sa),some (.ref p),some (.int (0+(i:Int))),some (.int n),some (.ref q),some (.ref rq),some (.ref hq'),some (.ref lq),u8,u9,u10,u11,u12]/\KL Tt Tm p dc H'/\Kq H5 H') ?nx3 fun N hN=>?st3
    case st3=>
     have RA1:=rows_in (K:=K) (SqL.of hh) pz p2 (by omega) rw'
     refine ⟨_,rfl,_,rfl,hq',lq,zs,rs,ns,rfl,RA1,SqL.of hlq,by omega,L5.tm,fun l1 vs1 ps1 H6 pp1 so1 hl1 pv1 nl1 kx tm6=>?_⟩
     have kx:KpX Tm H5 H6:=kx
     have k6:Kq H5 H6:=fun b u e nt _=>kx b u e (.inl nt)
     have L6:KL Tt Tm p dc H6:=⟨kx.dr L5.D,kx.tab ntm L5.tb,tm6⟩
     have p26:=rts_kq k6 p2
     have RA2:=rows_in (K:=K) (SqL.of (k6.lst hq)) (rws_kq k6 p1) p26 (by omega) rw'
     refine ⟨_,rfl,_,rfl,q,rq,ys,rs,ns,rfl,RA2,SqL.of (k6.lst hrq),by omega,fun l2 vs2 ps2 H7 pp2 so2 hl2 pv2 nl2 s7=>?_⟩
     have eo:=one_order pp1 pp2 so1 so2
     subst eo
     have k7:Kq H5 H7:=k6.trans (kq_same s7)
     have p27:=rts_kq (kq_same s7) p26
     obtain ⟨ds,r1,r2,d1,d2,d3⟩:=pairs_rep (K:=K) (fun x hx=>things_of p27 x (pp1.mem_iff.mp hx)) (prs_tk (Same.tk s7) pv1) pv2
     have l64:=RA1.all
     have pl1:=pp1.length_eq
     refine ⟨_,_,.list ds,rfl,.lst (SqL.of (s7 _ _ hl1)) r1,.lst (SqL.of hl2) r2,by simp only [pdDep];omega,by simp only [pdMax];omega,fun H8 s8=>⟨_,rfl,ifF rfl ?_⟩⟩
     have k8:Kq H5 H8:=k7.trans (kq_same s8)
     have p28:=rts_kq (kq_same s8) p27
     have rd:=rows_dep gss
     have nd:=ints_deps ns
     refine ⟨_,rfl,_,rfl,_,_,.lst (SqL.of (k8.lst hh)) (rows_rep (rws_kq k8 pz) p28),.lst (SqL.of (k8.lst hq)) (rows_rep (rws_kq k8 p1) p28),by omega,_,rfl,ifF (by rw [rows_eqs];rfl) ?_⟩
     refine ⟨_,rfl,_,rfl,_,_,.lst (SqL.of (k8.lst hlq)) (ints_reps ns),.lst (SqL.of (k8.lst hrq)) (ints_reps ns),by omega,_,rfl,ifF (by rw [ints_eqs];rfl) ?_⟩
     exact hN _ _ ⟨rfl,(L6.same s7).same s8,k8⟩
    rintro σ' H6 ⟨rfl,L6,k6⟩
    have hq:=k6.lst hq
    have hrq:=k6.lst hrq
    have p1:=rws_kq k6 p1
    have pr:=ras_kq k6 pr
    have p2:=rts_kq k6 p2
    clear L5 k6 hh hlq pz
    refine seq_by (fun σ' H'=>∃ (lb:Addr) (bs:List V),σ'=[some (.ref sa),some (.ref p),some (.int (0+(i:Int))),some (.int n),some (.ref q),some (.ref rq),some (.ref hq'),some (.ref lq),some (.ref lb),u9,u10,u11,u12]/\H' lb=some (.lst bs)/\bs.length≠n/\bs.length≤1000/\KL Tt Tm p dc H'/\Kq H6 H') ?nx4 fun N hN=>?st4
    case st4=>
     refine ⟨_,rfl,_,rfl,_,rfl,rq,_,rfl,SqL.of hrq,fun l1 hl1=>?_⟩
     have ec:(cutV (ns.map V.int) (some 1) none).length≠n/\(cutV (ns.map V.int) (some 1) none).length≤1000:=by
      rw [cut1_len (n:=n) (by rw [List.length_map];exact nl) n1]
      omega
     generalize cutV (ns.map V.int) (some 1) none=cut at ec ⊢
     have sA:Same H6 (upd H6 l1 (.lst cut)):=Same.new hl1
     have e1:upd H6 l1 (.lst cut) l1=some (.lst cut):=upd_same
     generalize upd H6 l1 (.lst cut)=HA at sA e1 ⊢
     refine ⟨_,rfl,(by show 1≤sizeLine;decide),fun l0 hl0=>⟨rq,l0,_,_,rfl,rfl,Same.new hl0 _ _ (sA _ _ hrq),upd_same,by rw [List.length_map,nl];exact Nat.le_trans (show n+1≤7 by omega) (by decide),fun l2 hl2=>?_⟩⟩
     have sB:=(Same.new (o:=.lst [V.int 0]) hl0).trans (Same.new (o:=.lst (ns.map V.int++[V.int 0])) hl2)
     have e2:upd (upd HA l0 (.lst [V.int 0])) l2 (.lst (ns.map V.int++[V.int 0])) l2=some (.lst (ns.map V.int++[V.int 0])):=upd_same
     generalize upd (upd HA l0 (.lst [V.int 0])) l2 (.lst (ns.map V.int++[V.int 0]))=HB at sB e2 ⊢
     refine ⟨z0,fun l3 hl3=>⟨(by show 3≤sizeLine;decide),fun l4 hl4=>?_⟩⟩
     have sC:=(Same.new (o:=.lst []) hl3).trans (Same.new (o:=.lst [.ref l1,.ref l2,.ref l3]) hl4)
     have e3:=Same.new (o:=.lst [.ref l1,.ref l2,.ref l3]) hl4 _ _ (upd_same:upd HB l3 (.lst []) l3=some (.lst []))
     have e4:upd (upd HB l3 (.lst [])) l4 (.lst [.ref l1,.ref l2,.ref l3]) l4=some (.lst [.ref l1,.ref l2,.ref l3]):=upd_same
     generalize upd (upd HB l3 (.lst [])) l4 (.lst [.ref l1,.ref l2,.ref l3])=HC at sC e3 e4 ⊢
     have sAll:=(sA.trans sB).trans sC
     have LC:=L6.same sAll
     refine ⟨p,dc,l4,_,rfl,LC.D,SqL.of e4,by simp,by simp,fun x H7 hx D7 b7=>?_⟩
     have k7:=kq_but LC.D b7
     have fin:∀ (l:Addr) (bs:List V),HC l=some (.lst bs)->bs.length≠n->bs.length≤1000->x=.ref l->N [some (.ref sa),some (.ref p),some (.int (0+(i:Int))),some (.int n),some (.ref q),some (.ref rq),some (.ref hq'),some (.ref lq),some x,u9,u10,u11,u12] H7:=fun l bs e ne le ex=>by
      subst ex
      exact hN _ _ ⟨l,bs,rfl,k7.lst e,ne,le,LC.but D7 b7,(kq_same sAll).trans k7⟩
     simp only [List.mem_cons,List.not_mem_nil,or_false] at hx
     rcases hx with ex|ex|ex
     ·exact fin l1 cut (sC _ _ (sB _ _ e1)) ec.1 ec.2 ex
     ·exact fin l2 _ (sC _ _ e2) (by rw [List.length_append,List.length_map,nl];simp) (by rw [List.length_append,List.length_map,nl];simp;omega) ex
     ·exact fin l3 [] e3 (by simp;omega) (by simp) ex
    rintro σ' H7 ⟨lb,bs,rfl,hlb,bn,bl,L7,k7⟩
    have hq:=k7.lst hq
    have p1:=rws_kq k7 p1
    have pr:=ras_kq k7 pr
    have p2:=rts_kq k7 p2
    clear L6 k7 hrq
    refine seq_by (fun σ' H'=>σ'=[some (.ref sa),some (.ref p),some (.int (0+(i:Int))),some (.int n),some (.ref q),some (.ref rq),some (.ref hq'),some (.ref lq),some (.ref lb),u9,u10,u11,u12]/\KL Tt Tm p dc H'/\Kq H7 H') ?nx5 fun N hN=>?st5
    case st5=>
     refine ⟨L7.tb.tab q1m,fun c' H8 lm fl ctv hfl=>?_⟩
     have kx:KpX Tt H7 (upd H8 fl (lamO fl (kla_obj "<lambda>" qL (lParams lamP) (lBody lamP) (lScope lamP) (cloP s) ((mg "__name__").getD .none) c' ctv))):=lam_kpx lm hfl
     have tb8:TabI (upd H8 fl (lamO fl (kla_obj "<lambda>" qL (lParams lamP) (lBody lamP) (lScope lamP) (cloP s) ((mg "__name__").getD .none) c' ctv))) Tt qL lps:=(L7.tb.lam lm).same (Same.new hfl)
     refine ⟨fl,c',ctv,q,lb,ys,bs,rfl,upd_same,Same.new hfl _ _ lm.code,rfl,rfl,kx.lst hq,kx.lst hlb,by omega,bl,by omega,fun H2 s2 l hl=>?_⟩
     have L8:KL Tt Tm p dc (upd H8 fl (lamO fl (kla_obj "<lambda>" qL (lParams lamP) (lBody lamP) (lScope lamP) (cloP s) ((mg "__name__").getD .none) c' ctv))):=⟨kx.dr L7.D,tb8,kx.tab (Ne.symm ntm) L7.tm⟩
     have s3:=s2.trans (Same.new (o:=.lst [.str "badsize",.non]) hl)
     refine ⟨l,_,0,_,rfl,rfl,SqL.of upd_same,rfl,rfl,_,rfl,ifF (by simp) (hN _ _ ⟨rfl,L8.same s3,fun b u e nt _=>s3 _ _ (kx b u e (.inl nt))⟩)⟩
    rintro σ' H8 ⟨rfl,L8,k8⟩
    have hq:=k8.lst hq
    have p1:=rws_kq k8 p1
    have pr:=ras_kq k8 pr
    have p2:=rts_kq k8 p2
    clear L7 k8 hlb bn bl
    refine seq_by (fun σ' H'=>∃ (cq:Addr) (xs:List V) (cs:List Cau),σ'=[some (.ref sa),some (.ref p),some (.int (0+(i:Int))),some (.int n),some (.ref q),some (.ref rq),some (.ref hq'),some (.ref lq),some (.ref lb),some (.ref cq),u10,u11,u12]/\H' cq=some (.lst xs)/\Paired (CauAt H') xs cs/\(∀ c∈cs,OkC n c)/\cs.length≤7/\cq≠dc/\KL Tt Tm p dc H') ?nx6 fun N hN=>?st6
    case st6=>
     refine ⟨_,rfl,_,rfl,_,rfl,p,dc,q,q,n,ys,gss,rfl,L8.D,n6,hq,pr,gl,rw',fun r xs cs H9 hr9 pc ok cl nr D9 b9=>?_⟩
     have rdc:r≠dc:=by
      obtain ⟨cx,hcx⟩:=L8.D.cell
      exact Ne.symm (ne_of_none hcx nr)
     exact hN _ _ ⟨r,xs,cs,rfl,hr9,pc,ok,cl,rdc,L8.but D9 b9⟩
    rintro σ' H9 ⟨cq,xs,cs,rfl,hcq,pc,ok,cl,cd,L9⟩
    clear L8 hq p1 p2 pr
    refine seq_by (fun σ' H'=>σ'=[some (.ref sa),some (.ref p),some (.int (0+(i:Int))),some (.int n),some (.ref q),some (.ref rq),some (.ref hq'),some (.ref lq),some (.ref lb),some (.ref cq),some (.str ""),u11,u12]/\H9=H') ?nxw fun N hN=>?stw
    case stw=>exact hN _ _ ⟨rfl,rfl⟩
    rintro σ' H9' ⟨rfl,rfl⟩
    refine seq_by (fun σ' H'=>∃ (wd:Str) (u11:Option V) (xs:List V) (cs:List Cau),σ'=[some (.ref sa),some (.ref p),some (.int (0+(i:Int))),some (.int n),some (.ref q),some (.ref rq),some (.ref hq'),some (.ref lq),some (.ref lb),some (.ref cq),some (.str wd),u11,u12]/\H' cq=some (.lst xs)/\Paired (CauAt H') xs cs/\cs.length≤8/\((wd = ""/\∀ c∈cs,OkC 6 c)∨(wd = "badcause"/\(∀ c∈cs,CauB c)/\cs.all okcB=false))/\KL Tt Tm p dc H') ?nx7 fun N hN=>?st7
    case st7=>
     have ok6:∀ c∈cs,OkC 6 c:=fun c h=>by
      have o:=ok c h
      exact ⟨by have:=o.a;omega,by have:=o.b;omega,o.ne,o.t,o.u⟩
     refine ⟨_,rfl,p,dc,_,rfl,L9.D,by decide,by decide,fun r H10 r0 r1 D10 b10=>?_⟩
     have k10:=kq_but L9.D b10
     have L10:=L9.but D10 b10
     have hcq:=k10.lst hcq
     have pc:=pd_map (fun _ _ ⟨q',e,z⟩=>(⟨q',e,k10.tk _ _ z⟩:CauAt H10 _ _)) pc
     refine ⟨rfl,_,rfl,ite2 (fun z=>?_) (fun z=>hN _ _ ⟨"",_,xs,cs,rfl,hcq,pc,by omega,.inl ⟨rfl,ok6⟩,L10⟩)⟩
     clear z
     refine seq_by (fun σ' H'=>∃ (oq:Addr) (os:List V),σ'=[some (.ref sa),some (.ref p),some (.int (0+(i:Int))),some (.int n),some (.ref q),some (.ref rq),some (.ref hq'),some (.ref lq),some (.ref lb),some (.ref cq),some (.str ""),some (.ref oq),u12]/\H' oq=some (.lst os)/\Paired (CauAt H') os oddC/\Same H10 H') ?nxo fun N2 hN2=>?sto
     case sto=>
      have z4:4≤sizeLine:=by decide
      refine ⟨z4,fun a1 h1=>⟨z4,fun a2 h2=>⟨_,rfl,z4,fun a3 h3=>⟨_,rfl,z4,fun a4 h4=>⟨z4,fun a5 h5=>⟨z4,fun a6 h6=>⟨(by show 6≤sizeLine;decide),fun l hl=>?_⟩⟩⟩⟩⟩⟩⟩
      have t1:=Same.new (o:=.tup [.int 0,.int 1,.int 0,.int 1]) h1
      have t2:=Same.new (o:=.tup [.int 0,.int 1,.int 6,.int 1]) h2
      have t3:=Same.new (o:=.tup [.int (-1),.int 1,.int 0,.int 1]) h3
      have t4:=Same.new (o:=.tup [.int 0,.int (-1),.int 1,.int 1]) h4
      have t5:=Same.new (o:=.tup [.int 0,.int 1,.int 1,.int 999999]) h5
      have t6:=Same.new (o:=.tup [.int 0,.int 999999,.int 1,.int 0]) h6
      have t7:=Same.new (o:=.lst [.ref a1,.ref a2,.ref a3,.ref a4,.ref a5,.ref a6]) hl
      refine hN2 _ _ ⟨l,_,rfl,upd_same,.cons ⟨a1,rfl,t7 _ _ (t6 _ _ (t5 _ _ (t4 _ _ (t3 _ _ (t2 _ _ upd_same)))))⟩ (.cons ⟨a2,rfl,t7 _ _ (t6 _ _ (t5 _ _ (t4 _ _ (t3 _ _ upd_same))))⟩ (.cons ⟨a3,rfl,t7 _ _ (t6 _ _ (t5 _ _ (t4 _ _ upd_same)))⟩ (.cons ⟨a4,rfl,t7 _ _ (t6 _ _ (t5 _ _ upd_same))⟩ (.cons ⟨a5,rfl,t7 _ _ (t6 _ _ upd_same)⟩ (.cons ⟨a6,rfl,t7 _ _ upd_same⟩ .nil))))),(((((t1.trans t2).trans t3).trans t4).trans t5).trans t6).trans t7⟩
     rintro σ' H11 ⟨oq,os,rfl,hoq,po,s11⟩
     have hcq:=s11 _ _ hcq
     have pc:=caus_same s11 pc
     have L11:=L10.same s11
     have xl:=Paired.length pc
     have ol:=Paired.length po
     refine seq_by (fun σ' H'=>∃ (xs:List V) (cs:List Cau),σ'=[some (.ref sa),some (.ref p),some (.int (0+(i:Int))),some (.int n),some (.ref q),some (.ref rq),some (.ref hq'),some (.ref lq),some (.ref lb),some (.ref cq),some (.str ""),some (.ref oq),u12]/\H' cq=some (.lst xs)/\Paired (CauAt H') xs cs/\cs.length≤8/\(∀ c∈cs,CauB c)/\cs.all okcB=false/\KL Tt Tm p dc H') ?nxi fun N3 hN3=>?sti
     case sti=>
      refine ⟨_,rfl,.inl ⟨rfl,_,SqL.of hcq⟩,_,rfl,_,rfl,cq,_,rfl,.inl (SqL.of hcq),_,_,rfl,rfl,p,dc,_,rfl,L11.D,by omega,by omega,fun k1 H12 k0 k2 D12 b12=>?_⟩
      have L12:=L11.but D12 b12
      have kk:=kq_but L11.D b12
      refine ⟨_,rfl,_,rfl,p,dc,oq,os,rfl,D12,SqL.of (kk.lst hoq),(fun z=>by rw [z] at ol;cases ol),(by rw [ol];decide),fun x H13 hx D13 b13=>?_⟩
      have L13:=L12.but D13 b13
      have kk:=kk.trans (kq_but D12 b13)
      obtain ⟨j,hj⟩:=List.getElem?_of_mem hx
      obtain ⟨c1,hc1,cx⟩:=pd_get po hj
      have mc:=List.mem_of_getElem? hc1
      obtain ⟨k1,rfl⟩:=Int.eq_ofNat_of_zero_le k0
      have hcq3:=kk.lst hcq
      refine ⟨cq,xs,k1,x,rfl,rfl,hcq3,by omega,Nat.lt_of_le_of_lt (show xs.length≤10 by omega) (by decide),?_⟩
      have kq2:TK H13 (upd H13 cq (.lst (xs.take k1++x::xs.drop k1))):=fun b zs e=>by
       rw [upd_ne (ne_of e hcq3 (by intro z;cases z))]
       exact e
      have mv:∀ {v:V} {c:Cau},CauAt H11 v c->CauAt (upd H13 cq (.lst (xs.take k1++x::xs.drop k1))) v c:=fun ⟨q',e,z⟩=>⟨q',e,kq2 _ _ (kk.tk _ _ z)⟩
      have mem:∀ c∈cs.take k1++c1::cs.drop k1,c∈cs∨c=c1:=fun c hc=>by
       rcases List.mem_append.mp hc with h|h
       ·exact .inl (List.mem_of_mem_take h)
       ·rcases List.mem_cons.mp h with h|h
        ·exact .inr h
        ·exact .inl (List.mem_of_mem_drop h)
      refine hN3 _ _ ⟨_,cs.take k1++c1::cs.drop k1,rfl,upd_same,Paired.ins (mv cx) k1 (pd_map (fun _ _ z=>mv z) pc),?_,fun c hc=>?_,?_,L13.put hcq3 cd⟩
      ·rw [List.length_append,List.length_cons,List.length_take,List.length_drop]
       omega
      ·rcases mem c hc with h|h
       ·exact okC_B (ok6 c h)
       ·rw [h]
        exact (oddC_bad c1 mc).1
      ·rw [List.all_eq_false]
       exact ⟨c1,List.mem_append_right _ (List.mem_cons_self ..),by rw [(oddC_bad c1 mc).2];simp⟩
     rintro σ' H12 ⟨xs,cs,rfl,hcq,pc,cl,cb,bad,L12⟩
     exact hN _ _ ⟨"badcause",_,xs,cs,rfl,hcq,pc,cl,.inr ⟨rfl,cb,bad⟩,L12⟩
    rintro σ' H10 ⟨wd,u11,xs,cs,rfl,hcq,pc,cl,wk,L10⟩
    clear L9 ok
    have xl:=Paired.length pc
    refine seq_by (fun σ' H'=>∃ (lt:Addr),σ'=[some (.ref sa),some (.ref p),some (.int (0+(i:Int))),some (.int n),some (.ref q),some (.ref rq),some (.ref hq'),some (.ref lt),some (.ref lb),some (.ref cq),some (.str wd),u11,u12]/\H' lt=some (.lst xs)/\Same H10 H') ?nx8 fun N hN=>?st8
    case st8=>exact ⟨_,rfl,cq,xs,rfl,.inl (SqL.of hcq),fun l hl=>hN _ _ ⟨l,rfl,upd_same,Same.new hl⟩⟩
    rintro σ' H11 ⟨lt,rfl,hlt,s11⟩
    have hcq:=s11 _ _ hcq
    have pc:=caus_same s11 pc
    have L11:=L10.same s11
    clear L10 s11
    refine seq_by (fun σ' H'=>∃ (dv:V),σ'=[some (.ref sa),some (.ref p),some (.int (0+(i:Int))),some (.int n),some (.ref q),some (.ref rq),some (.ref hq'),some (.ref lt),some (.ref lb),some (.ref cq),some (.str wd),u11,some dv]/\Same H11 H'/\((wd = ""/\(∀ c∈cs,OkC 6 c)/\∃ r ts,dv=.ref r/\H' r=some (.lst ts)/\Paired (TieAt H') ts (cs.map tieC))∨(wd = "badcause"/\dv=.non/\(∀ c∈cs,CauB c)/\cs.all okcB=false))) ?nx9 fun N hN=>?st9
    case st9=>
     refine EvE.op (EvE.var rfl) EvE.con (EvR.eq rfl) _ ⟨_,rfl,?_⟩
     rcases wk with ⟨rfl,ok⟩|⟨rfl,cb,bad⟩
     ·refine ifT (by simp) ?_
      refine ⟨_,rfl,cq,xs,cs,rfl,SqL.of hcq,pc,by omega,fun r ts H12 hr12 pt _ s12=>?_⟩
      exact hN _ _ ⟨.ref r,rfl,s12,.inl ⟨rfl,ok,r,ts,rfl,hr12,pt⟩⟩
     ·exact ifF (by rw [decide_eq_false_iff_not];intro z;exact absurd (V.str.inj z) (by decide)) (hN _ _ ⟨.non,rfl,Same.refl _,.inr ⟨rfl,rfl,cb,bad⟩⟩)
    rintro σ' H12 ⟨dv,rfl,s12,dk⟩
    have hcq:=s12 _ _ hcq
    have hlt:=s12 _ _ hlt
    have pc:=caus_same s12 pc
    have L12:=L11.same s12
    clear L11 s12 wk
    refine ⟨L12.tb.tab q2m,fun c' H13 lm fl ctv hfl=>?_⟩
    have kx:KpX Tt H12 (upd H13 fl (lamO fl (kla_obj "<lambda>" qL (lParams lamQ) (lBody lamQ) (lScope lamQ) (cloQ s) ((mg "__name__").getD .none) c' ctv))):=lam_kpx lm hfl
    have tb8:TabI (upd H13 fl (lamO fl (kla_obj "<lambda>" qL (lParams lamQ) (lBody lamQ) (lScope lamQ) (cloQ s) ((mg "__name__").getD .none) c' ctv))) Tt qL lps:=(L12.tb.lam lm).same (Same.new hfl)
    have L13:KL Tt Tm p dc (upd H13 fl (lamO fl (kla_obj "<lambda>" qL (lParams lamQ) (lBody lamQ) (lScope lamQ) (cloQ s) ((mg "__name__").getD .none) c' ctv))):=⟨kx.dr L12.D,tb8,kx.tab (Ne.symm ntm) L12.tm⟩
    have hcq:=kx.lst hcq
    have hlt:=kx.lst hlt
    have pc:=pd_map (fun _ _ ⟨q',e,z⟩=>(⟨q',e,kx.tk _ _ z⟩:CauAt (upd H13 fl (lamO fl (kla_obj "<lambda>" qL (lParams lamQ) (lBody lamQ) (lScope lamQ) (cloQ s) ((mg "__name__").getD .none) c' ctv))) _ _)) pc
    refine ⟨fl,c',ctv,lt,xs,cs,rfl,upd_same,Same.new hfl _ _ lm.code,rfl,hlt,pc,?_⟩
    have cdp:=caus_deps cs
    have tdp:=ties_deps (cs.map tieC)
    have two:∀ H',Same (upd H13 fl (lamO fl (kla_obj "<lambda>" qL (lParams lamQ) (lBody lamQ) (lScope lamQ) (cloQ s) ((mg "__name__").getD .none) c' ctv))) H'->Rep K H' (.ref lt) (.list (cs.map cauD))/\Rep K H' (.ref cq) (.list (cs.map cauD)):=fun H' s'=>⟨.lst (SqL.of (s' _ _ hlt)) (caus_reps (caus_same s' pc)),.lst (SqL.of (s' _ _ hcq)) (caus_reps (caus_same s' pc))⟩
    rcases dk with ⟨rfl,ok,r,ts,rfl,hr12,pt⟩|⟨rfl,rfl,cb,bad⟩
    ·have hr13:=kx.lst hr12
     have pt13:=ties_tk kx.tk pt
     refine .inl ⟨ok,by omega,fun r2 ts2 H14 hr2 pt2 s14 l hl=>?_⟩
     have s15:=Same.new (o:=.lst [.str "",.ref r2]) hl
     refine ⟨_,rfl,_,rfl,(by show 2≤sizeLine;decide),fun l2 hl2=>?_⟩
     have s16:=Same.new (o:=.lst [.str "",.ref r]) hl2
     have sx:=s14.trans (s15.trans s16)
     refine ⟨_,_,.list [.str "",.list ((cs.map tieC).map tieP)],rfl,.lst (SqL.of (s16 _ _ upd_same)) (.cons (.str _) (.cons (.lst (SqL.of (s16 _ _ (s15 _ _ hr2))) (ties_reps (ties_tk (Same.tk (s15.trans s16)) pt2))) .nil)),.lst (SqL.of upd_same) (.cons (.str _) (.cons (.lst (SqL.of (sx _ _ hr13)) (ties_reps (ties_tk (Same.tk sx) pt13))) .nil)),?_,?_,fun H17 s17=>⟨_,rfl,ifF rfl ?_⟩⟩
     ·simp only [pdDep,pdDeps]
      omega
     ·simp only [pdMax,pdMaxs,List.length_cons,List.length_nil,List.length_map]
      omega
     ·have w:=two H17 (sx.trans s17)
      exact ⟨_,rfl,_,rfl,_,_,w.1,w.2,by omega,_,rfl,ifF (by rw [cdp.2];rfl) ⟨⟨_,_,_,_,_,_,_,_,_,_,_,rfl⟩,L13.same (sx.trans s17)⟩⟩
    ·refine .inr ⟨cb,bad,fun H14 s14 l hl=>?_⟩
     have s15:=Same.new (o:=.lst [.str "badcause",.non]) hl
     refine ⟨_,rfl,_,rfl,(by show 2≤sizeLine;decide),fun l2 hl2=>?_⟩
     have s16:=Same.new (o:=.lst [.str "badcause",.non]) hl2
     have sx:=s14.trans (s15.trans s16)
     refine ⟨_,_,.list [.str "badcause",.none],rfl,.lst (SqL.of (s16 _ _ upd_same)) (.cons (.str _) (.cons .non .nil)),.lst (SqL.of upd_same) (.cons (.str _) (.cons .non .nil)),by decide,by decide,fun H17 s17=>⟨_,rfl,ifF rfl ?_⟩⟩
     have w:=two H17 (sx.trans s17)
     exact ⟨_,rfl,_,rfl,_,_,w.1,w.2,by omega,_,rfl,ifF (by rw [cdp.2];rfl) ⟨⟨_,_,_,_,_,_,_,_,_,_,_,rfl⟩,L13.same (sx.trans s17)⟩⟩
   ·rintro σ' H1 ⟨⟨u2,u3,u4,u5,u6,u7,u8,u9,u10,u11,u12,rfl⟩,L1⟩
    exact hN0 _ _ ⟨⟨_,_,_,_,_,_,_,_,_,_,_,rfl⟩,L1⟩
  rintro σ' H1 ⟨⟨u2,u3,u4,u5,u6,u7,u8,u9,u10,u11,u12,rfl⟩,L1⟩
  refine ⟨(by show 4≤sizeLine;decide),fun a1 h1=>⟨(by show 1≤sizeLine;decide),fun l1 hl1=>?_⟩⟩
  refine ⟨l1,_,[⟨5,999998,0,0⟩],rfl,SqL.of upd_same,.cons ⟨a1,rfl,Same.new hl1 _ _ upd_same⟩ .nil,fun c hc=>?_,by simp,fun r ts H2 hr2 pt _ s2=>?_⟩
  ·cases List.mem_singleton.mp hc
   exact ⟨by decide,by decide,by decide,by decide,by decide⟩
  ·refine ⟨(by show 3≤sizeLine;decide),fun a2 h2=>⟨(by show 1≤sizeLine;decide),fun l2 hl2=>?_⟩⟩
   have t1:=Same.new (o:=.tup [.int 0,.int 5,.int 999999]) h2
   have t2:=Same.new (o:=.lst [.ref a2]) hl2
   have t3:=t1.trans t2
   refine ⟨_,_,.list [.tuple [.int 0,.int 5,.int 999999]],rfl,.lst (SqL.of (t3 _ _ hr2)) (ties_reps (ties_tk (Same.tk t3) pt)),.lst (SqL.of upd_same) (.cons (.tup (SqT.of (t2 _ _ upd_same)) (.cons (.int _) (.cons (.int _) (.cons (.int _) .nil)))) .nil),by decide,by decide,fun H3 _=>k _⟩
end
def xbm (B:String):List Value:=[.type B,.type "Exception",.type "BaseException",.type "object"]
theorem rl_ve (self:Value):refuseLoop self "__setattr__" (xbm "ValueError")=pure ():=by kernel_rfl
theorem rl_le (self:Value):refuseLoop self "__setattr__" (xbm "LookupError")=pure ():=by kernel_rfl
def xcd (K:Frag) (C:Addr) (rs:List Addr) (bm:List Value):Bool:=match clsIn K C with
 |some cd=>cd.hasDict && (cd.mro == rs.map Value.ref++bm)
 |none=>false
theorem xcls_of {K:Frag} {C:Addr} {B n:String} {rs:List Addr} (h1:makesX K C B n=true) (h2:findIn K (.ref C) "__setattr__" = some (some (.builtin "object.__setattr__"))) (h3:xcd K C rs (xbm B)=true) (h4:keepIn K (.ref C)=true) (h5:typeIn K (.ref C)=some (.type "type"))
 (hr:∀ self,refuseLoop self "__setattr__" (xbm B)=pure ()):XCls K C B n:=by
 refine ⟨h1,h2,?_,h4,h5⟩
 unfold xcd at h3
 split at h3
 ·rename_i cd hc
  rw [Bool.and_eq_true,beq_iff_eq] at h3
  refine ⟨cd,rs,xbm B,hc,h3.1,h3.2,by simp [xbm],hr,?_⟩
  unfold xbm
  simp
 ·cases h3
theorem all_mk {l:PySem.W.OpenLaw} {w:World} {K:PySem.W.Frag} {h:Heap} {mg:Str->Option Value} {fa fLa Tt cc fMg Tm ccm fB fP fO fF fS fA fTr fCa fTy fLd fTo fN qS qV qM fSE TS qZ fiZ TdZ qC fiC TdC:Addr} (X:K.In h) (G:h.Ns mainGlobals mg) (hfa:mg "law" = some (.ref fa))
 {odLa anLa odcc odMg anMg odccm odB anB odP anP odO anO odF anF odS anS odA anA odTr anTr odCa anCa odTy anTy odLd anLd odTo anTo odN anN odSE anSE odTS odiZ aniZ odTZ odiC aniC odTC:Option Addr} {slLa slcc slMg slccm slB slP slO slF slS slA slTr slCa slTy slLd slTo slN slSE slTS sliZ slTZ sliC slTC:Array (Option Value)} {t_LIMIT t_MOST_LANES nTS nTZ nTC:Nat} {ocLa kVLa dcLa pmLa ctLa w0 w1 w2 w3 w4 w5 w6 w7 w8 w9 w10 w12 w13 w14 w15 w16 w17 w18 occ ocMg kVMg dcMg pmMg ctMg v0 v1 v2 v3 v4 v5 v6 v7 v8 v9 v10 v12 v13 v14 v15 v16 v17 v18 occm ocB kVB dcB pmB cdB ctB ocP kVP dcP pmP cdP ctP ocO kVO dcO pmO cdO ctO ocF kVF dcF pmF cdF ctF ocS kVS dcS pmS cdS ctS ocA kVA dcA pmA cdA ctA ocTr kVTr dcTr pmTr cdTr ctTr ocCa kVCa dcCa pmCa cdCa ctCa ocTy kVTy dcTy pmTy cdTy ctTy ocLd kVLd dcLd pmLd cdLd ctLd ocTo kVTo dcTo pmTo cdTo ctTo ocN kVN dcN pmN cdN ctN ocSE kVSE dcSE pmSE cdSE ctSE dS1 dS2 ocTS ociZ kViZ dciZ pmiZ cdiZ ctiZ diZ ocTZ ociC kViC dciC pmiC cdiC ctiC diC ocTC:Value}
 (aLa:PySem.W.nsIn K mainGlobals "law" = some (some (.ref fLa)))
 (lLa:K.lookup fLa=some ⟨ocLa,odLa,.func (PySem.W.fnOf "law" "law" (defArgs (top 23)) (defBody (top 23)) (defScope (top 23)) .none kVLa dcLa pmLa anLa (.ref cc) ctLa),slLa⟩)
 (lcc:K.lookup cc=some ⟨occ,odcc,.fields #[w0,w1,w2,w3,w4,w5,w6,w7,w8,w9,w10,.ref Tt,w12,w13,w14,w15,w16,w17,w18],slcc⟩)
 (lTt:K.lookup Tt=none)
 (tb:L2.tabIn K cc=some Tt)
 (cLa:PySem.W.codeIn K (.ref cc) "law" = true)
 (aMg:PySem.W.nsIn K mainGlobals "merged" = some (some (.ref fMg)))
 (lMg:K.lookup fMg=some ⟨ocMg,odMg,.func (PySem.W.fnOf "merged" "merged" (defArgs (top 11)) (defBody (top 11)) (defScope (top 11)) .none kVMg dcMg pmMg anMg (.ref ccm) ctMg),slMg⟩)
 (lccm:K.lookup ccm=some ⟨occm,odccm,.fields #[v0,v1,v2,v3,v4,v5,v6,v7,v8,v9,v10,.ref Tm,v12,v13,v14,v15,v16,v17,v18],slccm⟩)
 (lTm:K.lookup Tm=none)
 (tbm:L2.tabIn K ccm=some Tm)
 (cMg:PySem.W.codeIn K (.ref ccm) "merged" = true)
 (kMg:PySem.W.keepIn K (.ref fMg)=true)
 (ntm:Tt≠Tm)
 (aB:PySem.W.nsIn K mainGlobals "_law_begin" = some (some (.ref fB)))
 (lB:K.lookup fB=some ⟨ocB,odB,.func (PySem.W.fnOf "_law_begin" "_law_begin" (defArgs (top 13)) (defBody (top 13)) (defScope (top 13)) .none kVB dcB pmB anB cdB ctB),slB⟩)
 (cB:PySem.W.codeIn K cdB "_law_begin" = true)
 (kB:PySem.W.keepIn K (.ref fB)=true)
 (aP:PySem.W.nsIn K mainGlobals "_law_pick" = some (some (.ref fP)))
 (lP:K.lookup fP=some ⟨ocP,odP,.func (PySem.W.fnOf "_law_pick" "_law_pick" (defArgs (top 14)) (defBody (top 14)) (defScope (top 14)) .none kVP dcP pmP anP cdP ctP),slP⟩)
 (cP:PySem.W.codeIn K cdP "_law_pick" = true)
 (kP:PySem.W.keepIn K (.ref fP)=true)
 (aO:PySem.W.nsIn K mainGlobals "_law_of" = some (some (.ref fO)))
 (lO:K.lookup fO=some ⟨ocO,odO,.func (PySem.W.fnOf "_law_of" "_law_of" (defArgs (top 15)) (defBody (top 15)) (defScope (top 15)) .none kVO dcO pmO anO cdO ctO),slO⟩)
 (cO:PySem.W.codeIn K cdO "_law_of" = true)
 (kO:PySem.W.keepIn K (.ref fO)=true)
 (aF:PySem.W.nsIn K mainGlobals "_law_far" = some (some (.ref fF)))
 (lF:K.lookup fF=some ⟨ocF,odF,.func (PySem.W.fnOf "_law_far" "_law_far" (defArgs (top 16)) (defBody (top 16)) (defScope (top 16)) .none kVF dcF pmF anF cdF ctF),slF⟩)
 (cF:PySem.W.codeIn K cdF "_law_far" = true)
 (kF:PySem.W.keepIn K (.ref fF)=true)
 (aS:PySem.W.nsIn K mainGlobals "_law_same" = some (some (.ref fS)))
 (lS:K.lookup fS=some ⟨ocS,odS,.func (PySem.W.fnOf "_law_same" "_law_same" (defArgs (top 17)) (defBody (top 17)) (defScope (top 17)) .none kVS dcS pmS anS cdS ctS),slS⟩)
 (cS:PySem.W.codeIn K cdS "_law_same" = true)
 (kS:PySem.W.keepIn K (.ref fS)=true)
 (aA:PySem.W.nsIn K mainGlobals "_law_ask" = some (some (.ref fA)))
 (lA:K.lookup fA=some ⟨ocA,odA,.func (PySem.W.fnOf "_law_ask" "_law_ask" (defArgs (top 18)) (defBody (top 18)) (defScope (top 18)) .none kVA dcA pmA anA cdA ctA),slA⟩)
 (cA:PySem.W.codeIn K cdA "_law_ask" = true)
 (kA:PySem.W.keepIn K (.ref fA)=true)
 (aTr:PySem.W.nsIn K mainGlobals "_law_told_rows" = some (some (.ref fTr)))
 (lTr:K.lookup fTr=some ⟨ocTr,odTr,.func (PySem.W.fnOf "_law_told_rows" "_law_told_rows" (defArgs (top 19)) (defBody (top 19)) (defScope (top 19)) .none kVTr dcTr pmTr anTr cdTr ctTr),slTr⟩)
 (cTr:PySem.W.codeIn K cdTr "_law_told_rows" = true)
 (kTr:PySem.W.keepIn K (.ref fTr)=true)
 (aCa:PySem.W.nsIn K mainGlobals "_law_causes" = some (some (.ref fCa)))
 (lCa:K.lookup fCa=some ⟨ocCa,odCa,.func (PySem.W.fnOf "_law_causes" "_law_causes" (defArgs (top 20)) (defBody (top 20)) (defScope (top 20)) .none kVCa dcCa pmCa anCa cdCa ctCa),slCa⟩)
 (cCa:PySem.W.codeIn K cdCa "_law_causes" = true)
 (kCa:PySem.W.keepIn K (.ref fCa)=true)
 (aTy:PySem.W.nsIn K mainGlobals "_law_ties_by" = some (some (.ref fTy)))
 (lTy:K.lookup fTy=some ⟨ocTy,odTy,.func (PySem.W.fnOf "_law_ties_by" "_law_ties_by" (defArgs (top 21)) (defBody (top 21)) (defScope (top 21)) .none kVTy dcTy pmTy anTy cdTy ctTy),slTy⟩)
 (cTy:PySem.W.codeIn K cdTy "_law_ties_by" = true)
 (kTy:PySem.W.keepIn K (.ref fTy)=true)
 (aLd:PySem.W.nsIn K mainGlobals "_law_laid" = some (some (.ref fLd)))
 (lLd:K.lookup fLd=some ⟨ocLd,odLd,.func (PySem.W.fnOf "_law_laid" "_law_laid" (defArgs (top 22)) (defBody (top 22)) (defScope (top 22)) .none kVLd dcLd pmLd anLd cdLd ctLd),slLd⟩)
 (cLd:PySem.W.codeIn K cdLd "_law_laid" = true)
 (kLd:PySem.W.keepIn K (.ref fLd)=true)
 (aTo:PySem.W.nsIn K mainGlobals "ties_of" = some (some (.ref fTo)))
 (lTo:K.lookup fTo=some ⟨ocTo,odTo,.func (PySem.W.fnOf "ties_of" "ties_of" (defArgs (top 10)) (defBody (top 10)) (defScope (top 10)) .none kVTo dcTo pmTo anTo cdTo ctTo),slTo⟩)
 (cTo:PySem.W.codeIn K cdTo "ties_of" = true)
 (kTo:PySem.W.keepIn K (.ref fTo)=true)
 (aN:PySem.W.nsIn K mainGlobals "need_cause" = some (some (.ref fN)))
 (lN:K.lookup fN=some ⟨ocN,odN,.func (PySem.W.fnOf "need_cause" "need_cause" (defArgs (top 9)) (defBody (top 9)) (defScope (top 9)) .none kVN dcN pmN anN cdN ctN),slN⟩)
 (cN:PySem.W.codeIn K cdN "need_cause" = true)
 (kN:PySem.W.keepIn K (.ref fN)=true)
 (z_len:PySem.W.nsIn K mainGlobals "len" = some none)
 (z_range:PySem.W.nsIn K mainGlobals "range" = some none)
 (z_list:PySem.W.nsIn K mainGlobals "list" = some none)
 (z_tuple:PySem.W.nsIn K mainGlobals "tuple" = some none)
 (z_str:PySem.W.nsIn K mainGlobals "str" = some none)
 (z_bool:PySem.W.nsIn K mainGlobals "bool" = some none)
 (z_int:PySem.W.nsIn K mainGlobals "int" = some none)
 (z_min:PySem.W.nsIn K mainGlobals "min" = some none)
 (z_repr:PySem.W.nsIn K mainGlobals "repr" = some none)
 (z_all:PySem.W.nsIn K mainGlobals "all" = some none)
 (z_any:PySem.W.nsIn K mainGlobals "any" = some none)
 (z_isinstance:PySem.W.nsIn K mainGlobals "isinstance" = some none)
 (z_sorted:PySem.W.nsIn K mainGlobals "sorted" = some none)
 (z_enumerate:PySem.W.nsIn K mainGlobals "enumerate" = some none)
 (z_ValueError:PySem.W.nsIn K mainGlobals "ValueError" = some none)
 (i_LIMIT:PySem.W.nsIn K mainGlobals "LIMIT" = some (some (.int 999999 t_LIMIT)))
 (i_MOST_LANES:PySem.W.nsIn K mainGlobals "MOST_LANES" = some (some (.int 6 t_MOST_LANES)))
 (a_qS:PySem.W.nsIn K mainGlobals "ScribeError" = some (some (.ref qS)))
 (a_qV:PySem.W.nsIn K mainGlobals "BadValue" = some (some (.ref qV)))
 (a_qM:PySem.W.nsIn K mainGlobals "Missing" = some (some (.ref qM)))
 (x1S:makesX K qS "ValueError" "ValueError.__new__" = true)
 (x2S:PySem.W.findIn K (.ref qS) "__setattr__" = some (some (.builtin "object.__setattr__")))
 (x3S:xcd K qS [qS] (xbm "ValueError")=true)
 (x4S:PySem.W.keepIn K (.ref qS)=true)
 (x5S:PySem.W.typeIn K (.ref qS)=some (.type "type"))
 (x1V:makesX K qV "ValueError" "ValueError.__new__" = true)
 (x2V:PySem.W.findIn K (.ref qV) "__setattr__" = some (some (.builtin "object.__setattr__")))
 (x3V:xcd K qV [qV,qS] (xbm "ValueError")=true)
 (x4V:PySem.W.keepIn K (.ref qV)=true)
 (x5V:PySem.W.typeIn K (.ref qV)=some (.type "type"))
 (x1M:makesX K qM "LookupError" "LookupError.__new__" = true)
 (x2M:PySem.W.findIn K (.ref qM) "__setattr__" = some (some (.builtin "object.__setattr__")))
 (x3M:xcd K qM [qM] (xbm "LookupError")=true)
 (x4M:PySem.W.keepIn K (.ref qM)=true)
 (x5M:PySem.W.typeIn K (.ref qM)=some (.type "type"))
 (aSE:PySem.W.findIn K (.ref qS) "__init__" = some (some (.ref fSE)))
 (lSE:K.lookup fSE=some ⟨ocSE,odSE,.func (PySem.W.fnOf "__init__" "ScribeError.__init__" (defArgs sSE) (defBody sSE) (defScope sSE) (.ref TS) kVSE dcSE pmSE anSE cdSE ctSE),slSE⟩)
 (cSE:PySem.W.codeIn K cdSE "ScribeError.__init__" = true)
 (kSE:PySem.W.keepIn K (.ref fSE)=true)
 (lTS:K.lookup TS=some ⟨ocTS,odTS,.seq #[dS1,dS2] nTS,slTS⟩)
 (fc:PySem.W.findCls K (.type "ValueError") (.type "type") "__init__" = some (.val (.builtin "ValueError.__init__")))
 (sg:PySem.W.specialIn K (.ref qS) "__getattribute__" = some (some (.builtin "type.__getattribute__")))
 (rd1:PySem.W.readsIn K qS (.type "type")=true)
 (rd2:PySem.W.findCls K (.ref qS) (.type "type") "__init__" = some (.val (.ref fSE)))
 (a_qZ:PySem.W.nsIn K mainGlobals "BadSize" = some (some (.ref qZ)))
 (x1Z:makesX K qZ "ValueError" "ValueError.__new__" = true)
 (x2Z:PySem.W.findIn K (.ref qZ) "__setattr__" = some (some (.builtin "object.__setattr__")))
 (x3Z:xcd K qZ [qZ,qS] (xbm "ValueError")=true)
 (x4Z:PySem.W.keepIn K (.ref qZ)=true)
 (x5Z:PySem.W.typeIn K (.ref qZ)=some (.type "type"))
 (tkZ:PySem.W.takerIn K qZ "word" = some none)
 (aiZ:PySem.W.findIn K (.ref qZ) "__init__" = some (some (.ref fiZ)))
 (liZ:K.lookup fiZ=some ⟨ociZ,odiZ,.func (PySem.W.fnOf "__init__" "BadSize.__init__" (defArgs sBadSize) (defBody sBadSize) (defScope sBadSize) (.ref TdZ) kViZ dciZ pmiZ aniZ cdiZ ctiZ),sliZ⟩)
 (ciZ:PySem.W.codeIn K cdiZ "BadSize.__init__" = true)
 (kiZ:PySem.W.keepIn K (.ref fiZ)=true)
 (biZ:PySem.W.findIn K (.ref qZ) "__init__" = some (some (.ref fiZ)))
 (niZ:PySem.W.isFn K (.ref fiZ)=true)
 (lTZ:K.lookup TdZ=some ⟨ocTZ,odTZ,.seq #[diZ] nTZ,slTZ⟩)
 (mvZ:PySem.W.mroIn K qZ (.ref qV)=some false)
 (msZ:PySem.W.mroIn K qZ (.ref qS)=some true)
 (g1Z:PySem.W.findIn K (.ref qZ) "__getattribute__" = some (some (.builtin "BaseException.__getattribute__")))
 (g2Z:PySem.W.findIn K (.ref qZ) "__getattr__" = some none)
 (g3Z:PySem.W.hasDictIn K qZ=true)
 (g4Z:PySem.W.findIn K (.ref qZ) "word" = some none)
 (g5Z:PySem.W.mroIn K qZ (.type "BaseException")=some true)
 (a_qC:PySem.W.nsIn K mainGlobals "BadCause" = some (some (.ref qC)))
 (x1C:makesX K qC "ValueError" "ValueError.__new__" = true)
 (x2C:PySem.W.findIn K (.ref qC) "__setattr__" = some (some (.builtin "object.__setattr__")))
 (x3C:xcd K qC [qC,qS] (xbm "ValueError")=true)
 (x4C:PySem.W.keepIn K (.ref qC)=true)
 (x5C:PySem.W.typeIn K (.ref qC)=some (.type "type"))
 (tkC:PySem.W.takerIn K qC "word" = some none)
 (aiC:PySem.W.findIn K (.ref qC) "__init__" = some (some (.ref fiC)))
 (liC:K.lookup fiC=some ⟨ociC,odiC,.func (PySem.W.fnOf "__init__" "BadCause.__init__" (defArgs sBadCause) (defBody sBadCause) (defScope sBadCause) (.ref TdC) kViC dciC pmiC aniC cdiC ctiC),sliC⟩)
 (ciC:PySem.W.codeIn K cdiC "BadCause.__init__" = true)
 (kiC:PySem.W.keepIn K (.ref fiC)=true)
 (biC:PySem.W.findIn K (.ref qC) "__init__" = some (some (.ref fiC)))
 (niC:PySem.W.isFn K (.ref fiC)=true)
 (lTC:K.lookup TdC=some ⟨ocTC,odTC,.seq #[diC] nTC,slTC⟩)
 (mvC:PySem.W.mroIn K qC (.ref qV)=some false)
 (msC:PySem.W.mroIn K qC (.ref qS)=some true)
 (g1C:PySem.W.findIn K (.ref qC) "__getattribute__" = some (some (.builtin "BaseException.__getattribute__")))
 (g2C:PySem.W.findIn K (.ref qC) "__getattr__" = some none)
 (g3C:PySem.W.hasDictIn K qC=true)
 (g4C:PySem.W.findIn K (.ref qC) "word" = some none)
 (g5C:PySem.W.mroIn K qC (.type "BaseException")=some true) :
 ∃ (fd:FuncData) (sp:Sp),(∀ (s:Shared) (u:Value),BindsTo s fd ⟨[u],[]⟩ [("_law_script",u)])/\(∀ T∈[Tm,Tt],K.lookup T=none/\∃ c,L2.tabIn K c=some T)/\
  (∀ (H:Hp) (a:Addr) (ns:List Int),ns.length≤63->(∀ T∈[Tm,Tt],H T=some (.tbl #[]))->SqL K H a (ns.map V.int)->sp [.ref a] H (fun v _=>v=.bl true) fun _ _ _=>False)/\
  ∀ base:Heap,K.In base->base.Ns mainGlobals mg->(∀ T∈[Tm,Tt],base.BuiltinsAt mg T/\mainGlobals≠T)->FnOk l.prog w K mg base CX0 12 fa fd ["_law_script"] sp:=by
 have e:=hfa.symm.trans (PySem.W.mg_of X G aLa)
 cases e
 have T:Txt K mg:=⟨PySem.W.mg_none_of X G z_len,PySem.W.mg_none_of X G z_range,PySem.W.mg_none_of X G z_list,PySem.W.mg_none_of X G z_tuple,PySem.W.mg_none_of X G z_str,PySem.W.mg_none_of X G z_bool,PySem.W.mg_none_of X G z_int,PySem.W.mg_none_of X G z_min,PySem.W.mg_none_of X G z_repr,PySem.W.mg_none_of X G z_all,PySem.W.mg_none_of X G z_any,PySem.W.mg_none_of X G z_isinstance⟩
 have TE:TxtE K mg:=⟨PySem.W.mg_none_of X G z_ValueError,fc⟩
 have FB:=fun_mk (st:=top 13) lB cB kB
 have bB:=FB.binds (ps:=["_law_script"]) fun _ _ _ _ _ _ us hl=>by obtain ⟨_,rfl⟩:=len1 hl;rfl
 have FP:=fun_mk (st:=top 14) lP cP kP
 have bP:=FP.binds (ps:=["_law_d","_law_many"]) fun _ _ _ _ _ _ us hl=>by obtain ⟨_,_,rfl⟩:=len2 hl;rfl
 have FO:=fun_mk (st:=top 15) lO cO kO
 have bO:=FO.binds (ps:=["_law_d","_law_things"]) fun _ _ _ _ _ _ us hl=>by obtain ⟨_,_,rfl⟩:=len2 hl;rfl
 have FF:=fun_mk (st:=top 16) lF cF kF
 have bF:=FF.binds (ps:=["_law_d"]) fun _ _ _ _ _ _ us hl=>by obtain ⟨_,rfl⟩:=len1 hl;rfl
 have FS:=fun_mk (st:=top 17) lS cS kS
 have bS:=FS.binds (ps:=["_law_found","_law_due"]) fun _ _ _ _ _ _ us hl=>by obtain ⟨_,_,rfl⟩:=len2 hl;rfl
 have FA:=fun_mk (st:=top 18) lA cA kA
 have bA:=FA.binds (ps:=["_law_ask_here"]) fun _ _ _ _ _ _ us hl=>by obtain ⟨_,rfl⟩:=len1 hl;rfl
 have FTr:=fun_mk (st:=top 19) lTr cTr kTr
 have bTr:=FTr.binds (ps:=["_law_d","_law_lanes"]) fun _ _ _ _ _ _ us hl=>by obtain ⟨_,_,rfl⟩:=len2 hl;rfl
 have FCa:=fun_mk (st:=top 20) lCa cCa kCa
 have bCa:=FCa.binds (ps:=["_law_d","_law_lanes","_law_rows"]) fun _ _ _ _ _ _ us hl=>by obtain ⟨_,_,_,rfl⟩:=len3 hl;rfl
 have FTy:=fun_mk (st:=top 21) lTy cTy kTy
 have bTy:=FTy.binds (ps:=["_law_causes_here"]) fun _ _ _ _ _ _ us hl=>by obtain ⟨_,rfl⟩:=len1 hl;rfl
 have FLd:=fun_mk (st:=top 22) lLd cLd kLd
 have bLd:=FLd.binds (ps:=["_law_rows","_law_row"]) fun _ _ _ _ _ _ us hl=>by obtain ⟨_,_,rfl⟩:=len2 hl;rfl
 have FTo:=fun_mk (st:=top 10) lTo cTo kTo
 have bTo:=FTo.binds (ps:=["causes"]) fun _ _ _ _ _ _ us hl=>by obtain ⟨_,rfl⟩:=len1 hl;rfl
 have FN:=fun_mk (st:=top 9) lN cN kN
 have bN:=FN.binds (ps:=["lane","time","other","second"]) fun _ _ _ _ _ _ us hl=>by obtain ⟨_,_,_,_,rfl⟩:=len4 hl;rfl
 have FSE:FunD K "__init__" "ScribeError.__init__" sSE (.ref TS) fSE _:=⟨⟨_,_,_,_,_,_,_,_,_,rfl,lSE,cSE⟩,kSE⟩
 have bSE:=FSE.binds (ps:=["self","words","word"]) (ds:=[]) lTS rfl fun kV doc pm an cdv ct s us hT hl=>(by rw [List.append_nil] at hl ⊢;obtain ⟨_,_,_,rfl⟩:=len3 hl;exact BindsTo.of_defaults rfl hT rfl rfl rfl)
 have MS:MkOf K mg "ScribeError" qS fSE:=⟨PySem.W.mg_of X G a_qS,sg,⟨_,rd1,rd2⟩,kSE⟩
 have FiZ:FunD K "__init__" "BadSize.__init__" sBadSize (.ref TdZ) fiZ _:=⟨⟨_,_,_,_,_,_,_,_,_,rfl,liZ,ciZ⟩,kiZ⟩
 have bbZ:=FiZ.binds (ps:=["self","words"]) (ds:=[]) lTZ rfl fun kV doc pm an cdv ct s us hT hl=>(by rw [List.append_nil] at hl ⊢;obtain ⟨_,_,rfl⟩:=len2 hl;exact BindsTo.of_defaults rfl hT rfl rfl rfl)
 have ECZ:ECls K qZ:=⟨xcls_of x1Z x2Z x3Z x4Z x5Z rl_ve,tkZ⟩
 have WCZ:WCls K mg "BadSize" qZ fiZ _:=⟨bbZ,PySem.W.mg_of X G a_qZ,ECZ,biZ,niZ⟩
 have FiC:FunD K "__init__" "BadCause.__init__" sBadCause (.ref TdC) fiC _:=⟨⟨_,_,_,_,_,_,_,_,_,rfl,liC,ciC⟩,kiC⟩
 have bbC:=FiC.binds (ps:=["self","words"]) (ds:=[]) lTC rfl fun kV doc pm an cdv ct s us hT hl=>(by rw [List.append_nil] at hl ⊢;obtain ⟨_,_,rfl⟩:=len2 hl;exact BindsTo.of_defaults rfl hT rfl rfl rfl)
 have ECC:ECls K qC:=⟨xcls_of x1C x2C x3C x4C x5C rl_ve,tkC⟩
 have WCC:WCls K mg "BadCause" qC fiC _:=⟨bbC,PySem.W.mg_of X G a_qC,ECC,biC,niC⟩
 have TA:TxtA K mg qV qS qM:=⟨PySem.W.mg_none_of X G z_str,PySem.W.mg_of X G a_qV,PySem.W.mg_of X G a_qS,PySem.W.mg_of X G a_qM,⟨_,_,xcls_of x1V x2V x3V x4V x5V rl_ve⟩,⟨_,_,xcls_of x1S x2S x3S x4S x5S rl_ve⟩,⟨_,_,xcls_of x1M x2M x3M x4M x5M rl_le⟩⟩
 have DB:Def K mg "_law_begin" (top 13) ["_law_script"] fB _:=⟨FB,PySem.W.mg_of X G aB,bB⟩
 have DP:Def K mg "_law_pick" (top 14) ["_law_d","_law_many"] fP _:=⟨FP,PySem.W.mg_of X G aP,bP⟩
 have DO:Def K mg "_law_of" (top 15) ["_law_d","_law_things"] fO _:=⟨FO,PySem.W.mg_of X G aO,bO⟩
 have DF:Def K mg "_law_far" (top 16) ["_law_d"] fF _:=⟨FF,PySem.W.mg_of X G aF,bF⟩
 have DS:Def K mg "_law_same" (top 17) ["_law_found","_law_due"] fS _:=⟨FS,PySem.W.mg_of X G aS,bS⟩
 have DA:Def K mg "_law_ask" (top 18) ["_law_ask_here"] fA _:=⟨FA,PySem.W.mg_of X G aA,bA⟩
 have DTr:Def K mg "_law_told_rows" (top 19) ["_law_d","_law_lanes"] fTr _:=⟨FTr,PySem.W.mg_of X G aTr,bTr⟩
 have DCa:Def K mg "_law_causes" (top 20) ["_law_d","_law_lanes","_law_rows"] fCa _:=⟨FCa,PySem.W.mg_of X G aCa,bCa⟩
 have DTy:Def K mg "_law_ties_by" (top 21) ["_law_causes_here"] fTy _:=⟨FTy,PySem.W.mg_of X G aTy,bTy⟩
 have DLd:Def K mg "_law_laid" (top 22) ["_law_rows","_law_row"] fLd _:=⟨FLd,PySem.W.mg_of X G aLd,bLd⟩
 have DTo:Def K mg "ties_of" (top 10) ["causes"] fTo _:=⟨FTo,PySem.W.mg_of X G aTo,bTo⟩
 have DN:Def K mg "need_cause" (top 9) ["lane","time","other","second"] fN _:=⟨FN,PySem.W.mg_of X G aN,bN⟩
 refine ⟨PySem.W.fnOf "law" "law" (defArgs (top 23)) (defBody (top 23)) (defScope (top 23)) .none kVLa dcLa pmLa anLa (.ref cc) ctLa,spLaw K Tt Tm #[],fun s v=>.of_eq rfl,fun T m=>by (rcases List.mem_cons.mp m with e|m);exact e ▸ ⟨lTm,ccm,tbm⟩;exact (List.mem_singleton.mp m) ▸ ⟨lTt,cc,tb⟩,fun H a ns hl hT hS=>⟨a,ns,rfl,hS,hl,hT _ (List.mem_cons_of_mem _ (List.mem_singleton.mpr rfl)),hT _ (List.mem_cons_self ..),fun _=>rfl⟩,fun base kb0' nsb hbt=>?_⟩
 obtain ⟨hbb,hg⟩:=hbt Tt (List.mem_cons_of_mem _ (List.mem_singleton.mpr rfl))
 obtain ⟨hbbm,hgm⟩:=hbt Tm (List.mem_cons_self ..)
 have FMg:=fun_mk (st:=top 11) lMg cMg kMg
 have bMg:=FMg.binds (ps:=["rows","row"]) fun _ _ _ _ _ _ us hl=>by obtain ⟨_,_,rfl⟩:=len2 hl;rfl
 have TC:TxtC mg:=⟨⟨_,PySem.W.mg_of X G i_LIMIT⟩,⟨_,PySem.W.mg_of X G i_MOST_LANES⟩⟩
 have BZ:BadP K qZ qV qS:=⟨mvZ,msZ,⟨g1Z,g2Z,g3Z,g4Z,g5Z⟩⟩
 have BC:BadP K qC qV qS:=⟨mvC,msC,⟨g1C,g2C,g3C,g4C,g5C⟩⟩
 have GBZ:=ok_BadSize (P:=l.prog) (w:=w) (base:=base) (CX:=CX0) FiZ TE FSE bSE MS
 have GBC:=ok_BadCause (P:=l.prog) (w:=w) (base:=base) (CX:=CX0) FiC TE FSE bSE MS
 have GX:=(ok_mgX (P:=l.prog) (w:=w) (base:=base) FMg T WCZ GBZ).mono (show 4≤8 by decide)
 have GY:FnOk l.prog w K mg base (CX1 l.prog w) 8 fTo _ ["causes"] (spToA K qC):=fn_or ((fn_lift (ok_to (P:=l.prog) (w:=w) (base:=base) DTo.F TC DN)).mono (by decide)) ((ok_toX (P:=l.prog) (w:=w) (base:=base) DTo.F TC DN WCC GBC).mono (by decide))
 have GA:=ok_ask (P:=l.prog) (w:=w) (base:=base) (CX:=CX0) (k:=9) DA.F TA
 exact ok_law lLa cLa (hd_of kb0' tb) hbb hg trivial (fun _=>rfl) ntm T TC BZ BC DB DP DO DF DS DTr DCa DTy DLd DTo DN (ok_mg lMg cMg (hd_of kb0' tbm) hbbm hgm T (PySem.W.mg_none_of X G z_sorted) (PySem.W.mg_none_of X G z_enumerate)) (PySem.W.mg_of X G aMg) kMg bMg GX GY GA (PySem.W.mg_of X G aA) kA bA
end Cm
open PySem PySem.W PyProof.Rows
set_option maxRecDepth 100000 in
set_option maxHeartbeats 0 in
theorem PySem.Challenge.cw_lanescribe_k28_rows_laid_into_one_holds : PySem.Challenge.rw_lanescribe_k28_rows_laid_into_one.Holds := by
 w_on
 refine Kd.head ?hw (by rfl) (by rfl) (by rfl) ?hc
 (case hw=>w_witness2)
 k_fill
 refine L2.walk_ofM (l:=PySem.Challenge.rw_lanescribe_k28_rows_laid_into_one) (n:=63) (k:=12) (x:="_law_script") (CX:=fun _=>L2.CX0) rfl (by decide) rfl ⟨rfl,by decide,by decide,rfl⟩ (fun w h Y=>PySem.W.km_in_of Y) (fun w h Y=>PySem.W.km_tabs_of Y) ?F (fun _ _ _ _ _ z=>z)
 case F=>
  intro w mg fa h KX G hmg
  refine' Cm.all_mk KX G hmg ?aLa ?lLa ?lcc ?lTt ?tb ?cLa ?aMg ?lMg ?lccm ?lTm ?tbm ?cMg ?kMg ?ntm ?aB ?lB ?cB ?kB ?aP ?lP ?cP ?kP ?aO ?lO ?cO ?kO ?aF ?lF ?cF ?kF ?aS ?lS ?cS ?kS ?aA ?lA ?cA ?kA ?aTr ?lTr ?cTr ?kTr ?aCa ?lCa ?cCa ?kCa ?aTy ?lTy ?cTy ?kTy ?aLd ?lLd ?cLd ?kLd ?aTo ?lTo ?cTo ?kTo ?aN ?lN ?cN ?kN ?z_len ?z_range ?z_list ?z_tuple ?z_str ?z_bool ?z_int ?z_min ?z_repr ?z_all ?z_any ?z_isinstance ?z_sorted ?z_enumerate ?z_ValueError ?i_LIMIT ?i_MOST_LANES ?a_qS ?a_qV ?a_qM ?x1S ?x2S ?x3S ?x4S ?x5S ?x1V ?x2V ?x3V ?x4V ?x5V ?x1M ?x2M ?x3M ?x4M ?x5M ?aSE ?lSE ?cSE ?kSE ?lTS ?fc ?sg ?rd1 ?rd2 ?a_qZ ?x1Z ?x2Z ?x3Z ?x4Z ?x5Z ?tkZ ?aiZ ?liZ ?ciZ ?kiZ ?biZ ?niZ ?lTZ ?mvZ ?msZ ?g1Z ?g2Z ?g3Z ?g4Z ?g5Z ?a_qC ?x1C ?x2C ?x3C ?x4C ?x5C ?tkC ?aiC ?liC ?ciC ?kiC ?biC ?niC ?lTC ?mvC ?msC ?g1C ?g2C ?g3C ?g4C ?g5C
  (case aLa=>k_is)
  (case lLa=>k_is)
  (case lcc=>k_is)
  (case lTt=>kernel_rfl)
  (case tb=>kernel_rfl)
  (case cLa=>k_is)
  (case aMg=>k_is)
  (case lMg=>k_is)
  (case lccm=>k_is)
  (case lTm=>kernel_rfl)
  (case tbm=>kernel_rfl)
  (case cMg=>k_is)
  (case kMg=>k_is)
  (case ntm=>decide)
  (case aB=>k_is)
  (case lB=>k_is)
  (case cB=>k_is)
  (case kB=>k_is)
  (case aP=>k_is)
  (case lP=>k_is)
  (case cP=>k_is)
  (case kP=>k_is)
  (case aO=>k_is)
  (case lO=>k_is)
  (case cO=>k_is)
  (case kO=>k_is)
  (case aF=>k_is)
  (case lF=>k_is)
  (case cF=>k_is)
  (case kF=>k_is)
  (case aS=>k_is)
  (case lS=>k_is)
  (case cS=>k_is)
  (case kS=>k_is)
  (case aA=>k_is)
  (case lA=>k_is)
  (case cA=>k_is)
  (case kA=>k_is)
  (case aTr=>k_is)
  (case lTr=>k_is)
  (case cTr=>k_is)
  (case kTr=>k_is)
  (case aCa=>k_is)
  (case lCa=>k_is)
  (case cCa=>k_is)
  (case kCa=>k_is)
  (case aTy=>k_is)
  (case lTy=>k_is)
  (case cTy=>k_is)
  (case kTy=>k_is)
  (case aLd=>k_is)
  (case lLd=>k_is)
  (case cLd=>k_is)
  (case kLd=>k_is)
  (case aTo=>k_is)
  (case lTo=>k_is)
  (case cTo=>k_is)
  (case kTo=>k_is)
  (case aN=>k_is)
  (case lN=>k_is)
  (case cN=>k_is)
  (case kN=>k_is)
  (case z_len=>k_is)
  (case z_range=>k_is)
  (case z_list=>k_is)
  (case z_tuple=>k_is)
  (case z_str=>k_is)
  (case z_bool=>k_is)
  (case z_int=>k_is)
  (case z_min=>k_is)
  (case z_repr=>k_is)
  (case z_all=>k_is)
  (case z_any=>k_is)
  (case z_isinstance=>k_is)
  (case z_sorted=>k_is)
  (case z_enumerate=>k_is)
  (case z_ValueError=>k_is)
  (case i_LIMIT=>k_is)
  (case i_MOST_LANES=>k_is)
  (case a_qS=>k_is)
  (case a_qV=>k_is)
  (case a_qM=>k_is)
  (case x1S=>kernel_rfl)
  (case x2S=>k_is)
  (case x3S=>kernel_rfl)
  (case x4S=>k_is)
  (case x5S=>k_is)
  (case x1V=>kernel_rfl)
  (case x2V=>k_is)
  (case x3V=>kernel_rfl)
  (case x4V=>k_is)
  (case x5V=>k_is)
  (case x1M=>kernel_rfl)
  (case x2M=>k_is)
  (case x3M=>kernel_rfl)
  (case x4M=>k_is)
  (case x5M=>k_is)
  (case aSE=>k_is)
  (case lSE=>k_is)
  (case cSE=>k_is)
  (case kSE=>k_is)
  (case lTS=>k_is)
  (case fc=>k_is)
  (case sg=>k_is)
  (case rd1=>k_is)
  (case rd2=>k_is)
  (case a_qZ=>k_is)
  (case x1Z=>kernel_rfl)
  (case x2Z=>k_is)
  (case x3Z=>kernel_rfl)
  (case x4Z=>k_is)
  (case x5Z=>k_is)
  (case tkZ=>k_is)
  (case aiZ=>k_is)
  (case liZ=>k_is)
  (case ciZ=>k_is)
  (case kiZ=>k_is)
  (case biZ=>k_is)
  (case niZ=>k_is)
  (case lTZ=>k_is)
  (case mvZ=>k_is)
  (case msZ=>k_is)
  (case g1Z=>k_is)
  (case g2Z=>k_is)
  (case g3Z=>k_is)
  (case g4Z=>k_is)
  (case g5Z=>k_is)
  (case a_qC=>k_is)
  (case x1C=>kernel_rfl)
  (case x2C=>k_is)
  (case x3C=>kernel_rfl)
  (case x4C=>k_is)
  (case x5C=>k_is)
  (case tkC=>k_is)
  (case aiC=>k_is)
  (case liC=>k_is)
  (case ciC=>k_is)
  (case kiC=>k_is)
  (case biC=>k_is)
  (case niC=>k_is)
  (case lTC=>k_is)
  (case mvC=>k_is)
  (case msC=>k_is)
  (case g1C=>k_is)
  (case g2C=>k_is)
  (case g3C=>k_is)
  (case g4C=>k_is)
  (case g5C=>k_is)
