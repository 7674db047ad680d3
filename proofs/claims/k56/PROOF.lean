import PyProof.Rows.All
import Wide.All
import OpenK.AllK
import Wide.FinOn
import KE.KNestM
import Lean
import PyProof.EqAt
import PyProof.EqKinds
import PyProof.TupleCall
import PyProof.StationsW
import PyProof.ExcBaseAll.ValueError
import PyProof.InstStoreFacts
import PyProof.RulesAs
import PyProof.RulesDel
import KE.KLam
import PyProof.ExcArgsOwn
import PyProof.AutoListH
import PyProof.StrWalks
import PyProof.StrBlockH
import PyProof.WalkInts
import PyProof.SeqI3
import PyProof.Rows.SetFrom
import PyProof.ZipIter
import KE.KTabLook
import PyProof.StrLaws
import KE.KIntText
import KE.KStrOpen
import PyProof.StrLawsTight
import PyProof.Rows.StrFit
import PyProof.Draws
import PyProof.EnumMake
import PyProof.StrCalls2
import PyProof.Rows.StrSplitJoin
import PyProof.CollectIter
import PyProof.StrBlock2
import PyProof.Rows.SortWalk
import PyProof.Rows.CallKwBuiltin
import KE.KMinBuiltin
import KE.KRevSl
import PyProof.DictItemsLoops
import PyProof.CollectWalk
import PyProof.ListRange
import KE.KSortAsk
import PySem.Challenge.RW_lanescribe_k56_whole_true_clocks_are_nev
set_option Elab.async false
set_option linter.all false
set_option maxRecDepth 1000000
set_option maxHeartbeats 0
namespace Kd
open PySem PySem.W
noncomputable section
theorem left_boot {p q:Program} {loose:List Str} {Xt:Shared->Bool} {α:Type} {Yf:Shared->α} {Ya:World->α} {N:Nat} (e:opening p=plainProg p.main.scope.names) (hN:Nat.ble 600 N=true) (f:∀ s,fenceModules? p s=some s)
 (h:∀ (w:World) (os:OsState),(topFrom treeTable p w N ⟨boot_heap w.params,Array.mk [],boot_drawn,boot_toks,os⟩).map (fun s=>(openSeen q loose (importedModules p.main.body) Xt true s,Yf s))=some (openGood q loose,Ya w)):LeftO p q loose Xt Yf Ya N:=fun w=>by
 obtain ⟨⟨h',gs,d,k,os⟩,e1,e2⟩:=Option.map_eq_some_iff.mp (boot_open e hN f w)
 obtain ⟨rfl,rfl,rfl,rfl⟩:h'=boot_heap w.params/\gs=Array.mk []/\d=boot_drawn/\k=boot_toks:=by simpa using e2
 unfold openEnds
 rw [e1]
 exact h w os
abbrev u (x:String):Str:=Str.ofString x
abbrev vs (x:String) (t:Nat):Value:=.str (Str.ofString x) t
abbrev vi (x:Int) (t:Nat):Value:=.int x t
abbrev vr (x:Nat):Value:=.ref x
abbrev vt (x:String):Value:=.type x
abbrev vn:Value:=.none
abbrev vb:Value:=.bool true
abbrev vf (t:Nat):Value:=.str (Str.ofString "/claim/cut.py") t
abbrev ot (x:Array Value):Obj:={ cls:=.type "tuple",data:=Data.seq x }
abbrev oc (x:Array Value):Obj:={ cls:=.type "code",data:=Data.fields x }
abbrev of (n q:String) (a:Arguments) (b:List Stmt) (s:Scope) (d m c:Value):Obj:={ cls:=.type "function",data:=Data.func { name:=Str.ofString n,qualname:=Str.ofString q,params:=a,body:=FuncBody.stmts b,scope:=s,globals:=3,closure:=[],defaults:=d,kwdefaults:=.none,pyModule:=m,code:=c } }
abbrev de (P:Params) (x:String) (t:Nat) (v:Value):DictEntry:={ hash:=PyData.keyHash P (Str.ofString x),key:=.str (Str.ofString x) t,val:=v }
def tp (i:Nat):Stmt:=PySem.Challenge.pw_lanescribe_k56_whole_true_clocks_are_nev.main.body.getD i (.Pass ⟨0,0,0,0⟩)
def meth (i j:Nat):Stmt:=match tp i with
 |.ClassDef _ _ _ body _ _ _ _ _ _ _=>body.getD j (.Pass ⟨0,0,0,0⟩)
 |_=>.Pass ⟨0,0,0,0⟩
def dA (s:Stmt):Arguments:=match s with
 |.FunctionDef _ a _ _ _ _ _ _ _ _=>a
 |_=>{ posonlyargs:=[],args:=[],vararg:=none,kwonlyargs:=[],kw_defaults:=[],kwarg:=none,defaults:=[] }
def dB (s:Stmt):List Stmt:=match s with
 |.FunctionDef _ _ b _ _ _ _ _ _ _=>b
 |_=>[]
def dS (s:Stmt):Scope:=match s with
 |.FunctionDef _ _ _ _ _ _ sc _ _ _=>sc
 |_=>{ kind:=.function,names:=[],isGenerator:=false,isCoroutine:=false }
abbrev TA (i:Nat):Arguments:=dA (tp i)
abbrev TB (i:Nat):List Stmt:=dB (tp i)
abbrev TS (i:Nat):Scope:=dS (tp i)
abbrev MA (i j:Nat):Arguments:=dA (meth i j)
abbrev MB (i j:Nat):List Stmt:=dB (meth i j)
abbrev MS (i j:Nat):Scope:=dS (meth i j)
abbrev og (n q:String) (a:Arguments) (b:List Stmt) (s:Scope):Obj:={ cls:=.none,data:=Data.func { name:=Str.ofString n,qualname:=Str.ofString q,params:=a,body:=FuncBody.stmts b,scope:=s,globals:=0,closure:=[],defaults:=.none,kwdefaults:=.none } }
abbrev gt (n:String) (i:Nat):Obj:=og n n (TA i) (TB i) (TS i)
abbrev gm (n q:String) (i j:Nat):Obj:=og n q (MA i j) (MB i j) (MS i j)
abbrev ft (n:String) (i:Nat):Value->Value->Value->Obj:=of n n (TA i) (TB i) (TS i)
abbrev fm (n q:String) (i j:Nat):Value->Value->Value->Obj:=of n q (MA i j) (MB i j) (MS i j)
abbrev oq (n:String) (a:Nat) (q:String) (b c:Nat) (l k:Int) (r s:Nat) (x y z:Value) (t:Int) (d:Nat):Obj:=oc #[vs n a,vs q b,vf c,vi l 0,vi k 0,vi 0 0,vi 0 0,vi 3 0,vr r,vb,vi 181 0,vr s,vn,x,y,z,vi t 0,vi l 0,vf d]
abbrev ok (n:String) (a b c:Nat) (l k:Int) (r s:Nat) (x y z:Value) (t:Int) (d:Nat):Obj:=oq n a n b c l k r s x y z t d
abbrev z1:Value:=vs "lanescribe.errors" 187
abbrev z2:Value:=vs "lanescribe.clocks" 296
abbrev z3:Value:=vs "law_lanescribe_k56_whole_true_clocks_are_nev" 429
abbrev z4:Value:=vs "lanescribe.merge" 393
def o0:Obj:=ot #[]
def o1:Obj:={ cls:=vn,data:=Data.fields #[] }
def o2:Obj:=oc #[vs "<module>" 182,vs "<module>" 183,vf 184,vi 1 0,vi 0 0,vi 0 0,vi 0 0,vi 0 0,vr 11,Value.bool false,vi 181 0,vr 12,vn,vn,vn,vn,vi 185 0,vi 1 0,vf 186]
def o3:Obj:={ cls:=vt "frame",slots:=#[some (vr 13),some (vr 3),some (vr 3),none,some (vs "__main__" 164),none,some (vr 0)] }
def o4 (P:Params):Obj:={ cls:=vt "dict",data:=Data.dict #[de P "__name__" 165 z2,de P "__doc__" 166 (vn),de P "__package__" 167 (vn),de P "__loader__" 168 (Value.builtin "__main__.__loader__#opaque"),de P "__spec__" 169 (vn),de P "__annotations__" 170 (vr 6),de P "__builtins__" 171 (vr 4),de P "__file__" 173 (vf 172),de P "__cached__" 174 (vn),de P "ScribeError" 218 (vr 32),de P "BadSize" 243 (vr 53),de P "BadTie" 268 (vr 73),de P "BadCause" 293 (vr 93),de P "LIMIT" 295 (vi 999999 294),de P "MOST_AMOUNT" 299 (vi 99999 298),de P "MOST_LANES" 301 (vi 6 300)] 16 }
def o5:Obj:={ cls:=vn,data:=Data.fields #[vi 2 0,vi 0 0,vr 20,vi 7 0,vi 0 0,vr 41,vi 11 0,vi 0 0,vr 61,vi 15 0,vi 0 0,vr 81] }
def o6:Obj:=ot #[vt "ValueError"]
def o7:Obj:={ cls:=vt "builtin_function_or_method",data:=Data.fields #[Value.builtin "type.__prepare__",vt "type"] }
def o8 (P:Params):Obj:={ cls:=vt "dict",data:=Data.dict #[de P "__module__" 196 z1,de P "__qualname__" 198 (vs "ScribeError" 197),de P "__firstlineno__" 200 (vi 2 199),de P "__init__" 211 (vr 29),de P "__static_attributes__" 213 (vr 30)] 5 }
def o9:Obj:={ cls:=vn,data:=Data.fields #[vi 4 0,vi 4 0,vr 28] }
def o10:Obj:=oc #[vs "ScribeError" 191,vs "ScribeError" 192,vf 193,vi 2 0,vi 0 0,vi 0 0,vi 0 0,vi 0 0,vr 18,Value.bool false,vi 181 0,vr 19,vn,vn,vn,vn,vi 194 0,vi 2 0,vf 195]
def o11:Obj:={ cls:=vt "frame",slots:=#[some (vr 20),some (vr 3),some (vr 17),none,some z1,none,some (vr 0)] }
def o12:Obj:=ot #[vs "" 201,vs "scribeerror" 202]
def o13:Obj:=ot #[vs "self" 206,vs "words" 207,vs "word" 208]
def o14:Obj:=gm "__init__" "ScribeError.__init__" 1 0
def o15:Obj:=oq "__init__" 203 "ScribeError.__init__" 204 205 4 3 23 24 (vr 25) (vr 26) (vr 27) 209 210
def o16:Obj:=fm "__init__" "ScribeError.__init__" 1 0 (vr 22) z1 (vr 28)
def o17:Obj:=ot #[vs "word" 212]
def o18 (P:Params):Obj:={ cls:=vt "dict",data:=Data.dict #[de P "__module__" 196 z1,de P "__firstlineno__" 200 (vi 2 199),de P "__init__" 211 (vr 29),de P "__static_attributes__" 213 (vr 30),de P "__weakref__" 215 (vr 33),de P "__doc__" 216 (vn)] 3 }
def o19:Obj:={ cls:=vt "type",data:=Data.cls { name:=u "ScribeError",bases:=[vt "ValueError"],mro:=[vr 32,vt "ValueError",vt "Exception",vt "BaseException",vt "object"],ns:=31,qualname:=u "ScribeError",subclasses:=[vr 53,vr 73,vr 93] },slots:=#[some (vr 15),none,some (vs "ScribeError" 189),some (vs "ScribeError" 197),some (Value.builtin "ValueError.__new__"),some (vb)] }
def o20:Obj:={ cls:=vt "getset_descriptor",data:=Data.fields #[vs "__weakref__" 214,vr 32,Value.builtin "ExceptionGroup.__weakref__",vn] }
def o21:Obj:={ cls:=vt "super",data:=Data.fields #[vr 32,vr 32,vr 32] }
def o22:Obj:={ cls:=vt "builtin_function_or_method",data:=Data.fields #[Value.builtin "object.__init_subclass__",vr 32] }
def o23:Obj:=ot #[vr 32]
def o24 (P:Params):Obj:={ cls:=vt "dict",data:=Data.dict #[de P "__module__" 226 z1,de P "__qualname__" 228 (vs "BadSize" 227),de P "__firstlineno__" 230 (vi 7 229),de P "__init__" 239 (vr 50),de P "__static_attributes__" 240 (vr 51)] 5 }
def o25:Obj:={ cls:=vn,data:=Data.fields #[vi 9 0,vi 4 0,vr 49] }
def o26:Obj:=oc #[vs "BadSize" 221,vs "BadSize" 222,vf 223,vi 7 0,vi 0 0,vi 0 0,vi 0 0,vi 0 0,vr 39,Value.bool false,vi 181 0,vr 40,vn,vn,vn,vn,vi 224 0,vi 7 0,vf 225]
def o27:Obj:={ cls:=vt "frame",slots:=#[some (vr 41),some (vr 3),some (vr 38),none,some z1,none,some (vr 0)] }
def o28:Obj:=ot #[vs "" 231]
def o29:Obj:=ot #[vs "self" 235,vs "words" 236]
def o30:Obj:=gm "__init__" "BadSize.__init__" 2 0
def o31:Obj:=oq "__init__" 232 "BadSize.__init__" 233 234 9 2 44 45 (vr 46) (vr 47) (vr 48) 237 238
def o32:Obj:=fm "__init__" "BadSize.__init__" 2 0 (vr 43) z1 (vr 49)
def o33 (P:Params):Obj:={ cls:=vt "dict",data:=Data.dict #[de P "__module__" 226 z1,de P "__firstlineno__" 230 (vi 7 229),de P "__init__" 239 (vr 50),de P "__static_attributes__" 240 (vr 51),de P "__doc__" 241 (vn)] 2 }
def o34:Obj:={ cls:=vt "type",data:=Data.cls { name:=u "BadSize",bases:=[vr 32],mro:=[vr 53,vr 32,vt "ValueError",vt "Exception",vt "BaseException",vt "object"],ns:=52,qualname:=u "BadSize" },slots:=#[some (vr 36),none,some (vs "BadSize" 219),some (vs "BadSize" 227),some (Value.builtin "ValueError.__new__"),some (vb)] }
def o35:Obj:={ cls:=vt "super",data:=Data.fields #[vr 53,vr 53,vr 53] }
def o36:Obj:={ cls:=vt "builtin_function_or_method",data:=Data.fields #[Value.builtin "object.__init_subclass__",vr 53] }
def o37 (P:Params):Obj:={ cls:=vt "dict",data:=Data.dict #[de P "__module__" 251 z1,de P "__qualname__" 253 (vs "BadTie" 252),de P "__firstlineno__" 255 (vi 11 254),de P "__init__" 264 (vr 70),de P "__static_attributes__" 265 (vr 71)] 5 }
def o38:Obj:={ cls:=vn,data:=Data.fields #[vi 13 0,vi 4 0,vr 69] }
def o39:Obj:=oc #[vs "BadTie" 246,vs "BadTie" 247,vf 248,vi 11 0,vi 0 0,vi 0 0,vi 0 0,vi 0 0,vr 59,Value.bool false,vi 181 0,vr 60,vn,vn,vn,vn,vi 249 0,vi 11 0,vf 250]
def o40:Obj:={ cls:=vt "frame",slots:=#[some (vr 61),some (vr 3),some (vr 58),none,some z1,none,some (vr 0)] }
def o41:Obj:=ot #[vs "" 256]
def o42:Obj:=ot #[vs "self" 260,vs "words" 261]
def o43:Obj:=gm "__init__" "BadTie.__init__" 3 0
def o44:Obj:=oq "__init__" 257 "BadTie.__init__" 258 259 13 2 64 65 (vr 66) (vr 67) (vr 68) 262 263
def o45:Obj:=fm "__init__" "BadTie.__init__" 3 0 (vr 63) z1 (vr 69)
def o46 (P:Params):Obj:={ cls:=vt "dict",data:=Data.dict #[de P "__module__" 251 z1,de P "__firstlineno__" 255 (vi 11 254),de P "__init__" 264 (vr 70),de P "__static_attributes__" 265 (vr 71),de P "__doc__" 266 (vn)] 2 }
def o47:Obj:={ cls:=vt "type",data:=Data.cls { name:=u "BadTie",bases:=[vr 32],mro:=[vr 73,vr 32,vt "ValueError",vt "Exception",vt "BaseException",vt "object"],ns:=72,qualname:=u "BadTie" },slots:=#[some (vr 56),none,some (vs "BadTie" 244),some (vs "BadTie" 252),some (Value.builtin "ValueError.__new__"),some (vb)] }
def o48:Obj:={ cls:=vt "super",data:=Data.fields #[vr 73,vr 73,vr 73] }
def o49:Obj:={ cls:=vt "builtin_function_or_method",data:=Data.fields #[Value.builtin "object.__init_subclass__",vr 73] }
def o50 (P:Params):Obj:={ cls:=vt "dict",data:=Data.dict #[de P "__module__" 276 z1,de P "__qualname__" 278 (vs "BadCause" 277),de P "__firstlineno__" 280 (vi 15 279),de P "__init__" 289 (vr 90),de P "__static_attributes__" 290 (vr 91)] 5 }
def o51:Obj:={ cls:=vn,data:=Data.fields #[vi 17 0,vi 4 0,vr 89] }
def o52:Obj:=oc #[vs "BadCause" 271,vs "BadCause" 272,vf 273,vi 15 0,vi 0 0,vi 0 0,vi 0 0,vi 0 0,vr 79,Value.bool false,vi 181 0,vr 80,vn,vn,vn,vn,vi 274 0,vi 15 0,vf 275]
def o53:Obj:={ cls:=vt "frame",slots:=#[some (vr 81),some (vr 3),some (vr 78),none,some z1,none,some (vr 0)] }
def o54:Obj:=ot #[vs "" 281]
def o55:Obj:=ot #[vs "self" 285,vs "words" 286]
def o56:Obj:=gm "__init__" "BadCause.__init__" 4 0
def o57:Obj:=oq "__init__" 282 "BadCause.__init__" 283 284 17 2 84 85 (vr 86) (vr 87) (vr 88) 287 288
def o58:Obj:=fm "__init__" "BadCause.__init__" 4 0 (vr 83) z1 (vr 89)
def o59 (P:Params):Obj:={ cls:=vt "dict",data:=Data.dict #[de P "__module__" 276 z1,de P "__firstlineno__" 280 (vi 15 279),de P "__init__" 289 (vr 90),de P "__static_attributes__" 290 (vr 91),de P "__doc__" 291 (vn)] 2 }
def o60:Obj:={ cls:=vt "type",data:=Data.cls { name:=u "BadCause",bases:=[vr 32],mro:=[vr 93,vr 32,vt "ValueError",vt "Exception",vt "BaseException",vt "object"],ns:=92,qualname:=u "BadCause" },slots:=#[some (vr 76),none,some (vs "BadCause" 269),some (vs "BadCause" 277),some (Value.builtin "ValueError.__new__"),some (vb)] }
def o61:Obj:={ cls:=vt "super",data:=Data.fields #[vr 93,vr 93,vr 93] }
def o62:Obj:={ cls:=vt "builtin_function_or_method",data:=Data.fields #[Value.builtin "object.__init_subclass__",vr 93] }
def o63 (P:Params):Obj:={ cls:=vt "dict",data:=Data.dict #[de P "__name__" 165 z4,de P "__doc__" 166 (vn),de P "__package__" 167 (vn),de P "__loader__" 168 (Value.builtin "__main__.__loader__#opaque"),de P "__spec__" 169 (vn),de P "__annotations__" 170 (vr 6),de P "__builtins__" 171 (vr 4),de P "__file__" 173 (vf 172),de P "__cached__" 174 (vn),de P "ScribeError" 218 (vr 32),de P "BadSize" 243 (vr 53),de P "BadTie" 268 (vr 73),de P "BadCause" 293 (vr 93),de P "LIMIT" 295 (vi 999999 294),de P "MOST_AMOUNT" 299 (vi 99999 298),de P "MOST_LANES" 301 (vi 6 300),de P "HIGHEST_MOST" 305 (vi 1000000000000 304),de P "GROUND" 308 (vi (-1) 307),de P "need_lanes" 315 (vr 102),de P "need_ties" 326 (vr 109),de P "need_most" 333 (vr 116),de P "need_all" 342 (vr 123),de P "bounds" 348 (vr 128),de P "raised" 354 (vr 133),de P "amounts" 361 (vr 139),de P "ring" 374 (vr 147),de P "ring_behind" 385 (vr 154),de P "meets" 392 (vr 160),de P "need_cause" 404 (vr 167)] 29 }
def o64:Obj:={ cls:=vn,data:=Data.fields #[vi 2 0,vi 0 0,vr 20,vi 7 0,vi 0 0,vr 41,vi 11 0,vi 0 0,vr 61,vi 15 0,vi 0 0,vr 81,vi 25 0,vi 0 0,vr 101,vi 28 0,vi 0 0,vr 108,vi 34 0,vi 0 0,vr 115,vi 37 0,vi 0 0,vr 122,vi 41 0,vi 0 0,vr 127,vi 44 0,vi 0 0,vr 132,vi 58 0,vi 0 0,vr 138,vi 62 0,vi 0 0,vr 146,vi 66 0,vi 0 0,vr 153,vi 73 0,vi 0 0,vr 159,vi 80 0,vi 0 0,vr 166] }
def o65:Obj:=ot #[vs "lanes" 312]
def o66:Obj:=gt "need_lanes" 11
def o67:Obj:=ok "need_lanes" 309 310 311 25 1 96 97 (vr 98) (vr 99) (vr 100) 313 314
def o68:Obj:=ft "need_lanes" 11 vn z2 (vr 101)
def o69:Obj:=ot #[vs "lanes" 319,vs "ties" 320,vs "one" 321,vs "other" 322,vs "least" 323]
def o70:Obj:=gt "need_ties" 12
def o71:Obj:=ok "need_ties" 316 317 318 28 2 103 104 (vr 105) (vr 106) (vr 107) 324 325
def o72:Obj:=ft "need_ties" 12 vn z2 (vr 108)
def o73:Obj:=ot #[vs "most" 330]
def o74:Obj:=gt "need_most" 13
def o75:Obj:=ok "need_most" 327 328 329 34 1 110 111 (vr 112) (vr 113) (vr 114) 331 332
def o76:Obj:=ft "need_most" 13 vn z2 (vr 115)
def o77:Obj:=ot #[vs "lanes" 337,vs "ties" 338,vs "most" 339]
def o78:Obj:=gt "need_all" 14
def o79:Obj:=ok "need_all" 334 335 336 37 3 117 118 (vr 119) (vr 120) (vr 121) 340 341
def o80:Obj:=ft "need_all" 14 vn z2 (vr 122)
def o81:Obj:=gt "bounds" 15
def o82:Obj:=ok "bounds" 343 344 345 41 2 124 125 vn vn (vr 126) 346 347
def o83:Obj:=ft "bounds" 15 vn z2 (vr 127)
def o84:Obj:=gt "raised" 16
def o85:Obj:=ok "raised" 349 350 351 44 2 129 130 vn vn (vr 131) 352 353
def o86:Obj:=ft "raised" 16 vn z2 (vr 132)
def o87 (P:Params):Obj:={ cls:=vt "dict",data:=Data.dict #[de P "most" 355 (vi 99999 298)] 1 }
def o88:Obj:=gt "amounts" 17
def o89:Obj:=oc #[vs "amounts" 356,vs "amounts" 357,vf 358,vi 58 0,vi 2 0,vi 0 0,vi 1 0,vi 3 0,vr 135,vb,vi 181 0,vr 136,vn,vn,vn,vr 137,vi 359 0,vi 58 0,vf 360]
def o90:Obj:={ cls:=vt "function",data:=Data.func { name:=u "amounts",qualname:=u "amounts",params:=TA 17,body:=FuncBody.stmts (TB 17),scope:=TS 17,globals:=3,closure:=[],defaults:=vn,kwdefaults:=vr 134,pyModule:=z2,code:=vr 138 } }
def o91 (P:Params):Obj:={ cls:=vt "dict",data:=Data.dict #[de P "most" 362 (vi 99999 298)] 1 }
def o92:Obj:=ot #[vs "lanes" 366,vs "ties" 367,vs "most" 368,vs "heights" 369,vs "raised_by" 370,vs "still" 371]
def o93:Obj:=gt "ring" 18
def o94:Obj:=oc #[vs "ring" 363,vs "ring" 364,vf 365,vi 62 0,vi 2 0,vi 0 0,vi 1 0,vi 3 0,vr 141,vb,vi 181 0,vr 142,vn,vr 143,vr 144,vr 145,vi 372 0,vi 62 0,vf 373]
def o95:Obj:={ cls:=vt "function",data:=Data.func { name:=u "ring",qualname:=u "ring",params:=TA 18,body:=FuncBody.stmts (TB 18),scope:=TS 18,globals:=3,closure:=[],defaults:=vn,kwdefaults:=vr 140,pyModule:=z2,code:=vr 146 } }
def o96:Obj:=ot #[vs "at" 378,vs "raised_by" 379,vs "many" 380,vs "turn" 381,vs "found" 382]
def o97:Obj:=gt "ring_behind" 19
def o98:Obj:=ok "ring_behind" 375 376 377 66 3 148 149 (vr 150) (vr 151) (vr 152) 383 384
def o99:Obj:=ft "ring_behind" 19 vn z2 (vr 153)
def o100 (P:Params):Obj:={ cls:=vt "dict",data:=Data.dict #[de P "most" 386 (vi 99999 298)] 1 }
def o101:Obj:=gt "meets" 20
def o102:Obj:=oc #[vs "meets" 387,vs "meets" 388,vf 389,vi 73 0,vi 3 0,vi 0 0,vi 1 0,vi 3 0,vr 156,vb,vi 181 0,vr 157,vn,vn,vn,vr 158,vi 390 0,vi 73 0,vf 391]
def o103:Obj:={ cls:=vt "function",data:=Data.func { name:=u "meets",qualname:=u "meets",params:=TA 20,body:=FuncBody.stmts (TB 20),scope:=TS 20,globals:=3,closure:=[],defaults:=vn,kwdefaults:=vr 155,pyModule:=z2,code:=vr 159 } }
def o104:Obj:=ot #[vs "lane" 398,vs "time" 399,vs "other" 400,vs "second" 401]
def o105:Obj:=gt "need_cause" 22
def o106:Obj:=ok "need_cause" 395 396 397 80 4 161 162 (vr 163) (vr 164) (vr 165) 402 403
def o107:Obj:=ft "need_cause" 22 vn z4 (vr 166)
def KK:Params->Frag:=fun P=>
 (nat_lit 2,{ cls:=vn,data:=Data.dict #[] })::
 (nat_lit 3,{ cls:=vt "dict",data:=Data.dict #[de P "__name__" 165 z3,de P "__doc__" 166 (vn),de P "__package__" 167 (vn),de P "__loader__" 168 (Value.builtin "__main__.__loader__#opaque"),de P "__spec__" 169 (vn),de P "__annotations__" 170 (vr 6),de P "__builtins__" 171 (vr 4),de P "__file__" 173 (vf 172),de P "__cached__" 174 (vn),de P "ScribeError" 218 (vr 32),de P "BadSize" 243 (vr 53),de P "BadTie" 268 (vr 73),de P "BadCause" 293 (vr 93),de P "LIMIT" 295 (vi 999999 294),de P "MOST_AMOUNT" 299 (vi 99999 298),de P "MOST_LANES" 301 (vi 6 300),de P "HIGHEST_MOST" 305 (vi 1000000000000 304),de P "GROUND" 308 (vi (-1) 307),de P "need_lanes" 315 (vr 102),de P "need_ties" 326 (vr 109),de P "need_most" 333 (vr 116),de P "need_all" 342 (vr 123),de P "bounds" 348 (vr 128),de P "raised" 354 (vr 133),de P "amounts" 361 (vr 139),de P "ring" 374 (vr 147),de P "ring_behind" 385 (vr 154),de P "meets" 392 (vr 160),de P "need_cause" 404 (vr 167),de P "ties_of" 410 (vr 172),de P "merged" 416 (vr 177),de P "ordered" 428 (vr 185),de P "_law_begin" 439 (vr 192),de P "_law_pick" 450 (vr 199),de P "_law_of" 458 (vr 206),de P "_law_same" 464 (vr 211),de P "_law_event_of" 470 (vr 216),de P "law" 476 (vr 221)] 38 })::
 (nat_lit 15,o6)::
 (nat_lit 22,o12)::
 (nat_lit 23,o0)::
 (nat_lit 25,o13)::
 (nat_lit 26,o0)::
 (nat_lit 28,o15)::
 (nat_lit 29,o16)::
 (nat_lit 30,o17)::
 (nat_lit 31,o18 P)::
 (nat_lit 32,o19)::
 (nat_lit 33,o20)::
 (nat_lit 36,o23)::
 (nat_lit 43,o28)::
 (nat_lit 44,o0)::
 (nat_lit 46,o29)::
 (nat_lit 47,o0)::
 (nat_lit 49,o31)::
 (nat_lit 50,o32)::
 (nat_lit 51,o0)::
 (nat_lit 52,o33 P)::
 (nat_lit 53,o34)::
 (nat_lit 56,o23)::
 (nat_lit 63,o41)::
 (nat_lit 64,o0)::
 (nat_lit 66,o42)::
 (nat_lit 67,o0)::
 (nat_lit 69,o44)::
 (nat_lit 70,o45)::
 (nat_lit 71,o0)::
 (nat_lit 72,o46 P)::
 (nat_lit 73,o47)::
 (nat_lit 76,o23)::
 (nat_lit 83,o54)::
 (nat_lit 84,o0)::
 (nat_lit 86,o55)::
 (nat_lit 87,o0)::
 (nat_lit 89,o57)::
 (nat_lit 90,o58)::
 (nat_lit 91,o0)::
 (nat_lit 92,o59 P)::
 (nat_lit 93,o60)::
 (nat_lit 96,o0)::
 (nat_lit 98,o65)::
 (nat_lit 99,o0)::
 (nat_lit 101,o67)::
 (nat_lit 102,o68)::
 (nat_lit 103,o0)::
 (nat_lit 105,o69)::
 (nat_lit 106,o0)::
 (nat_lit 108,o71)::
 (nat_lit 109,o72)::
 (nat_lit 110,o0)::
 (nat_lit 112,o73)::
 (nat_lit 113,o0)::
 (nat_lit 115,o75)::
 (nat_lit 116,o76)::
 (nat_lit 117,o0)::
 (nat_lit 119,o77)::
 (nat_lit 120,o0)::
 (nat_lit 122,o79)::
 (nat_lit 123,o80)::
 (nat_lit 124,o0)::
 (nat_lit 127,o82)::
 (nat_lit 128,o83)::
 (nat_lit 129,o0)::
 (nat_lit 132,o85)::
 (nat_lit 133,o86)::
 (nat_lit 134,o87 P)::
 (nat_lit 135,o0)::
 (nat_lit 138,o89)::
 (nat_lit 139,o90)::
 (nat_lit 140,o91 P)::
 (nat_lit 141,o0)::
 (nat_lit 143,o92)::
 (nat_lit 144,o0)::
 (nat_lit 146,o94)::
 (nat_lit 147,o95)::
 (nat_lit 148,o0)::
 (nat_lit 150,o96)::
 (nat_lit 151,o0)::
 (nat_lit 153,o98)::
 (nat_lit 154,o99)::
 (nat_lit 155,o100 P)::
 (nat_lit 156,o0)::
 (nat_lit 159,o102)::
 (nat_lit 160,o103)::
 (nat_lit 161,o0)::
 (nat_lit 163,o104)::
 (nat_lit 164,o0)::
 (nat_lit 166,o106)::
 (nat_lit 167,o107)::
 (nat_lit 168,o0)::
 (nat_lit 171,ok "ties_of" 405 406 407 85 1 168 169 vn vn (vr 170) 408 409)::
 (nat_lit 172,ft "ties_of" 23 vn z4 (vr 171))::
 (nat_lit 173,o0)::
 (nat_lit 176,ok "merged" 411 412 413 89 2 173 174 vn vn (vr 175) 414 415)::
 (nat_lit 177,ft "merged" 24 vn z4 (vr 176))::
 (nat_lit 178,{ cls:=vt "dict",data:=Data.dict #[de P "most" 417 (vi 99999 298)] 1 })::
 (nat_lit 179,o0)::
 (nat_lit 181,ot #[vs "rows" 421,vs "causes" 422,vs "most" 423,vs "ties" 424,vs "least" 425])::
 (nat_lit 182,o0)::
 (nat_lit 184,oc #[vs "ordered" 418,vs "ordered" 419,vf 420,vi 94 0,vi 2 0,vi 0 0,vi 1 0,vi 3 0,vr 179,vb,vi 181 0,vr 180,vn,vr 181,vr 182,vr 183,vi 426 0,vi 94 0,vf 427])::
 (nat_lit 185,{ cls:=vt "function",data:=Data.func { name:=u "ordered",qualname:=u "ordered",params:=TA 25,body:=FuncBody.stmts (TB 25),scope:=TS 25,globals:=3,closure:=[],defaults:=vn,kwdefaults:=vr 178,pyModule:=z4,code:=vr 184 } })::
 (nat_lit 186,o0)::
 (nat_lit 188,ot #[vs "_law_script" 434,vs "_law_seed" 435,vs "_law_cell" 436])::
 (nat_lit 189,o0)::
 (nat_lit 191,ok "_law_begin" 431 432 433 102 1 186 187 (vr 188) (vr 189) (vr 190) 437 438)::
 (nat_lit 192,ft "_law_begin" 27 vn z3 (vr 191))::
 (nat_lit 193,o0)::
 (nat_lit 195,ot #[vs "_law_d" 443,vs "_law_many" 444,vs "_law_cell" 445,vs "_law_digit" 446,vs "_law_one" 447])::
 (nat_lit 196,o0)::
 (nat_lit 198,ok "_law_pick" 440 441 442 107 2 193 194 (vr 195) (vr 196) (vr 197) 448 449)::
 (nat_lit 199,ft "_law_pick" 28 vn z3 (vr 198))::
 (nat_lit 200,o0)::
 (nat_lit 202,ot #[vs "_law_d" 454,vs "_law_things" 455])::
 (nat_lit 203,o0)::
 (nat_lit 205,ok "_law_of" 451 452 453 122 2 200 201 (vr 202) (vr 203) (vr 204) 456 457)::
 (nat_lit 206,ft "_law_of" 29 vn z3 (vr 205))::
 (nat_lit 207,o0)::
 (nat_lit 210,ok "_law_same" 459 460 461 124 2 207 208 vn vn (vr 209) 462 463)::
 (nat_lit 211,ft "_law_same" 30 vn z3 (vr 210))::
 (nat_lit 212,o0)::
 (nat_lit 215,ok "_law_event_of" 465 466 467 134 2 212 213 vn vn (vr 214) 468 469)::
 (nat_lit 216,ft "_law_event_of" 31 vn z3 (vr 215))::
 (nat_lit 217,o0)::
 (nat_lit 220,ok "law" 471 472 473 139 1 217 218 vn vn (vr 219) 474 475)::
 (nat_lit 221,ft "law" 32 vn z3 (vr 220))::[]
def asK:List Addr:=[2,3,15,22,23,25,26,28,29,30,31,32,33,36,43,44,46,47,49,50,51,52,53,56,63,64,66,67,69,70,71,72,73,76,83,84,86,87,89,90,91,92,93,96,98,99,101,102,103,105,106,108,109,110,112,113,115,116,117,119,120,122,123,124,127,128,129,132,133,134,135,138,139,140,141,143,144,146,147,148,150,151,153,154,155,156,159,160,161,163,164,166,167,168,171,172,173,176,177,178,179,181,182,184,185,186,188,189,191,192,193,195,196,198,199,200,202,203,205,206,207,210,211,212,215,216,217,220,221]
theorem eK:∀ P,asK=(KK P).map (·.1):=fun P=>by kernel_rfl
def vw:Program:={ PySem.Challenge.pw_lanescribe_k56_whole_true_clocks_are_nev with main:={ PySem.Challenge.pw_lanescribe_k56_whole_true_clocks_are_nev.main with body:=[tp 1,tp 2,tp 3,tp 4,tp 5,tp 7,tp 8,tp 9,tp 10,tp 11,tp 12,tp 13,tp 14,tp 15,tp 16,tp 19,tp 22,tp 23,tp 24,tp 27,tp 28,tp 29,tp 30,tp 31,tp 32] } }
def ls:List Str:=[u "ScribeError",u "BadSize",u "BadTie",u "BadCause",u "HIGHEST_MOST",u "amounts",u "ring",u "meets",u "ordered"]
def lv:List (Str×WData):=[(u "HIGHEST_MOST",WData.int 1000000000000)]
abbrev Xt:Shared->Bool:=fun s=>xlAt vw lv s && recOk (RowW.records (OpenRow.toRowW PySem.Challenge.rw_lanescribe_k56_whole_true_clocks_are_nev.row)) s
abbrev hk:Hook:=kmHook KK asK eK [174]
theorem said:PySem.Challenge.rw_lanescribe_k56_whole_true_clocks_are_nev.wellSaid=true:=by kernel_rfl
theorem openP:opening (OpenRow.toRowW PySem.Challenge.rw_lanescribe_k56_whole_true_clocks_are_nev.row).prog=plainProg (OpenRow.toRowW PySem.Challenge.rw_lanescribe_k56_whole_true_clocks_are_nev.row).prog.main.scope.names:=by kernel_rfl
theorem by_parts {p:Program} {w:World} {N L:Nat} {s0 s':Shared} {t':Thread} {m0:Nat} {ann:Option Value} {β:Type} {F:Shared->β} {X:β} (h1:(s0.heap.isNs mainGlobals && s0.gens.size == 0)=true) (h2:s0.heap.objs.size=m0) (h3:s0.heap.nsMap mainGlobals "__annotations__" = ann)
 (chain:∀ r,topRun treeTable p w m0 ann L s' t'=some r->topRun treeTable p w m0 ann N s0 (topStub p)=some r)
 (last:((topRun treeTable p w m0 ann L s' t').bind fun s₁=>match staticsOk (importedModules p.main.body) s0.heap s₁.heap && namesBound p s₁.heap && gensDone s₁ && laidKept s0.heap s₁.heap with
  |true=>some s₁
  |false=>none).map F=some X):(topFrom treeTable p w N s0).map F=some X:=by
 cases hA:topRun treeTable p w m0 ann L s' t' with
 |none=>rw [hA] at last;cases last
 | some r=>
   have e:=chain r hA
   unfold topFrom
   rw [h1,h2,h3,e]
   rw [hA] at last
   exact last
abbrev pp:Program:=(OpenRow.toRowW PySem.Challenge.rw_lanescribe_k56_whole_true_clocks_are_nev.row).prog
def env:Env:={ scope:=pp.main.scope,locals:=mainNs,globals:=mainNs,cells:=[],code:=vr 13,frame:=some 14 }
abbrev cd:Code:=.body (behindTheImports pp) env
abbrev fp:Pos:={ line:=0,col:=0,endLine:=0,endCol:=0 }
abbrev an:Option Value:=some (vr 6)
abbrev S_0 (w:World) (os:OsState):Shared:=⟨boot_heap w.params,Array.mk [],boot_drawn,boot_toks,os⟩
def h_a (P:Params):Heap:=⟨⟨boot_o_0 P::boot_o_1 P::boot_o_2 P::boot_o_3 P::boot_o_4 P::boot_o_5 P::boot_o_6 P::boot_o_7 P::boot_o_8 P::boot_o_9 P::boot_o_10 P::o0::o1::o2::o3::[]⟩,{ }⟩
abbrev S_a (w:World) (os:OsState):Shared:=⟨h_a w.params,Array.mk [],{ },187,os⟩
abbrev p_a:Pos:={ line:=0,col:=0,endLine:=0,endCol:=0 }
def h_b (P:Params):Heap:=⟨⟨boot_o_0 P::boot_o_1 P::boot_o_2 P::boot_o_3 P::boot_o_4 P::boot_o_5 P::boot_o_6 P::boot_o_7 P::boot_o_8 P::boot_o_9 P::boot_o_10 P::o0::o1::o2::o3::[]⟩,{ }⟩
abbrev S_b (w:World) (os:OsState):Shared:=⟨h_b w.params,Array.mk [],{ },187,os⟩
abbrev p_b:Pos:={ line:=0,col:=0,endLine:=0,endCol:=0 }
theorem r_a (w:World) (os:OsState):topGo treeTable pp w 11 an 12 (S_0 w os) (topStub pp)=some (S_a w os,⟨denote treeTable cd,cd,p_a,[topFrame fp]⟩):=by kernel_rfl
theorem r_b (w:World) (os:OsState):segRun treeTable pp w 11 an 1 1 (S_a w os) (blockOf (behindTheImports pp) env cd p_a [topFrame fp])=some (.next,S_b w os,cd,p_b):=by kernel_rfl
def h_c9 (P:Params):Heap:=⟨⟨boot_o_0 P::boot_o_1 P::boot_o_2 P::o4 P::boot_o_4 P::boot_o_5 P::boot_o_6 P::boot_o_7 P::boot_o_8 P::boot_o_9 P::boot_o_10 P::o0::o5::o2::o3::o6::o7::o8 P::o0::o9::o10::o11::o12::o0::o1::o13::o0::o14::o15::o16::o17::o18 P::o19::o20::o21::o22::o23::o7::o24 P::o0::o25::o26::o27::o28::o0::o1::o29::o0::o30::o31::o32::o0::o33 P::o34::o35::o36::o23::o7::o37 P::o0::o38::o39::o40::o41::o0::o1::o42::o0::o43::o44::o45::o0::o46 P::o47::o48::o49::o23::o7::o50 P::o0::o51::o52::o53::o54::o0::o1::o55::o0::o56::o57::o58::o0::o59 P::o60::o61::o62::[]⟩,{ }⟩
abbrev S_c9 (w:World) (os:OsState):Shared:=⟨h_c9 w.params,Array.mk [],{ },302,os⟩
abbrev p_c9:Pos:={ line:=22,col:=0,endLine:=22,endCol:=10 }
abbrev l_9:List Stmt:=((behindTheImports pp).drop 0).take 9
theorem r_9 (w:World) (os:OsState):segRun treeTable pp w 11 an 1 1006 (S_b w os) (piecesOf l_9 env cd p_b [topFrame fp])=some (.next,S_c9 w os,cd,p_c9):=by kernel_rfl
def h_c23 (P:Params):Heap:=⟨⟨boot_o_0 P::boot_o_1 P::boot_o_2 P::o63 P::boot_o_4 P::boot_o_5 P::boot_o_6 P::boot_o_7 P::boot_o_8 P::boot_o_9 P::boot_o_10 P::o0::o64::o2::o3::o6::o7::o8 P::o0::o9::o10::o11::o12::o0::o1::o13::o0::o14::o15::o16::o17::o18 P::o19::o20::o21::o22::o23::o7::o24 P::o0::o25::o26::o27::o28::o0::o1::o29::o0::o30::o31::o32::o0::o33 P::o34::o35::o36::o23::o7::o37 P::o0::o38::o39::o40::o41::o0::o1::o42::o0::o43::o44::o45::o0::o46 P::o47::o48::o49::o23::o7::o50 P::o0::o51::o52::o53::o54::o0::o1::o55::o0::o56::o57::o58::o0::o59 P::o60::o61::o62::o0::o1::o65::o0::o66::o67::o68::o0::o1::o69::o0::o70::o71::o72::o0::o1::o73::o0::o74::o75::o76::o0::o1::o77::o0::o78::o79::o80::o0::o1::o81::o82::o83::o0::o1::o84::o85::o86::o87 P::o0::o1::o88::o89::o90::o91 P::o0::o1::o92::o0::o93::o94::o95::o0::o1::o96::o0::o97::o98::o99::o100 P::o0::o1::o101::o102::o103::o0::o1::o104::o0::o105::o106::o107::[]⟩,{ }⟩
abbrev S_c23 (w:World) (os:OsState):Shared:=⟨h_c23 w.params,Array.mk [],{ },405,os⟩
abbrev p_c23:Pos:={ line:=80,col:=0,endLine:=84,endCol:=63 }
abbrev l_23:List Stmt:=((behindTheImports pp).drop 9).take 14
theorem r_23 (w:World) (os:OsState):segRun treeTable pp w 11 an 1 385 (S_c9 w os) (piecesOf l_23 env cd p_c9 [topFrame fp])=some (.next,S_c23 w os,cd,p_c23):=by kernel_rfl
abbrev l_z:List Stmt:=(behindTheImports pp).drop 23
theorem all_l:behindTheImports pp=(l_9++(l_23++l_z)):=by kernel_rfl
theorem last (w:World) (os:OsState):((topRun treeTable pp w 11 an 774 (S_c23 w os) (restOf l_z env cd p_c23 [topFrame fp])).bind fun s₁=>match staticsOk (importedModules pp.main.body) (S_0 w os).heap s₁.heap && namesBound pp s₁.heap && gensDone s₁ && laidKept (S_0 w os).heap s₁.heap with
 |true=>some s₁
 |false=>none).map (fun s=>(openSeen vw ls (importedModules pp.main.body) Xt true s,hk.obs s))=some (openGood vw ls,hk.val w):=by kernel_rfl
theorem chain (w:World) (os:OsState) (r:Shared) (h:topRun treeTable pp w 11 an 774 (S_c23 w os) (restOf l_z env cd p_c23 [topFrame fp])=some r):topRun treeTable pp w 11 an 2178 (S_0 w os) (topStub pp)=some r:=by
 have k:topRun treeTable pp w 11 an 2165 (S_b w os) (restOf (l_9++(l_23++l_z)) env cd p_b [topFrame fp])=some r:=piece_app (r_9 w os) (piece_app (r_23 w os) (h))
 rw [← all_l] at k
 exact go_top (n:=12) (N:=2166) (r_a w os) (piece_block (n:=1) (N:=2165) (r_b w os) k)
theorem run (w:World) (os:OsState):(topFrom treeTable pp w 2178 (S_0 w os)).map (fun s=>(openSeen vw ls (importedModules pp.main.body) Xt true s,hk.obs s))=some (openGood vw ls,hk.val w):=by_parts (s0:=S_0 w os) (by kernel_rfl) (by kernel_rfl) (by kernel_rfl) (chain w os) (last w os)
theorem left:LeftO (OpenRow.toRowW PySem.Challenge.rw_lanescribe_k56_whole_true_clocks_are_nev.row).prog vw ls Xt hk.obs hk.val 2178:=left_boot openP (by decide) (fun s=>by kernel_rfl) run
theorem head (hw:(OpenRow.toRowW PySem.Challenge.rw_lanescribe_k56_whole_true_clocks_are_nev.row).promised) {d:DefRec} {kwd:List (Str×Expr)} (hdef:defOf vw PySem.Challenge.rw_lanescribe_k56_whole_true_clocks_are_nev.row.name=some (d,kwd)) (hp:PySem.Challenge.rw_lanescribe_k56_whole_true_clocks_are_nev.row.prog.theDef PySem.Challenge.rw_lanescribe_k56_whole_true_clocks_are_nev.row.name=some (d.params,d.body,d.scope)) (hk1:kwWritten? d.params.kwonlyargs d.params.kw_defaults=some kwd)
 (hc:WalkO vw ls (XL vw lv) (kmHook KK asK eK [174]).says (OpenRow.toRowW PySem.Challenge.rw_lanescribe_k56_whole_true_clocks_are_nev.row) d kwd fun f vs=>PySem.call f vs):PySem.Challenge.rw_lanescribe_k56_whole_true_clocks_are_nev.Holds:=
 holds_law said fun said'=>holds_open (q:=vw) (loose:=ls) (Xt:=Xt) (XP:=XL vw lv) (Yf:=hk.obs) (Ya:=hk.val) (YP:=hk.says) (N:=2178) left hk.of hk.keeps (fun s e=>xl_of s (Bool.and_eq_true_iff.mp e).1) XL.keeps hdef hp hk1 (fun s e=>recFacts_of (Bool.and_eq_true_iff.mp e).2) (by rfl) said' (by decide +kernel) ⟨rfl,rfl,rfl,rfl,rfl,by decide +kernel⟩ hw hc
end
end Kd
namespace L2
open PySem PySem.Spec PyProof.Rows
abbrev Key:=Sum Int Str
def keyIs:Key->Value->Bool
 |.inl k,v=>Value.isInt k v
 |.inr x,v=>Value.isStrOf x v
def keyH (w:World):Key->Int
 |.inl k=>hashInt k
 |.inr x=>hashStr w x
theorem keyIs_shape:∀ {k:Key} {v:Value},keyIs k v=true->(∃ i t,k=Sum.inl i/\v=Value.int i t)∨(∃ x t,k=Sum.inr x/\v=Value.str x t)
 | .inl i,v,h=>by
   obtain ⟨t,e⟩:=Value.isInt_shape (k:=i) (v:=v) h
   exact .inl ⟨i,t,rfl,e⟩
 | .inr x,v,h=>by
   obtain ⟨t,e⟩:=Value.isStrOf_shape (x:=x) (v:=v) h
   exact .inr ⟨x,t,rfl,e⟩
theorem keyIs_int (i:Int) (t:Tok):keyIs (.inl i) (.int i t)=true:=by simp [keyIs,Value.isInt]
theorem keyIs_str (x:Str) (t:Tok):keyIs (.inr x) (.str x t)=true:=by simp [keyIs,Value.isStrOf]
theorem key_ll (a b:Int):decide ((Sum.inl a:Key)=Sum.inl b)=(a == b):=by
 by_cases e:a=b
 ·subst e;simp
 ·have h:¬ (Sum.inl a:Key)=Sum.inl b:=fun q=>e (Sum.inl.inj q)
  rw [decide_eq_false h]
  exact (beq_eq_false_iff_ne.mpr e).symm
theorem key_rr (a b:Str):decide ((Sum.inr a:Key)=Sum.inr b)=decide (a=b):=by
 by_cases e:a=b
 ·subst e;simp
 ·have h:¬ (Sum.inr a:Key)=Sum.inr b:=fun q=>e (Sum.inr.inj q)
  rw [decide_eq_false h,decide_eq_false e]
theorem key_lr (a:Int) (b:Str):decide ((Sum.inl a:Key)=Sum.inr b)=false:=decide_eq_false (fun q=>nomatch q)
theorem key_rl (a:Str) (b:Int):decide ((Sum.inr a:Key)=Sum.inl b)=false:=decide_eq_false (fun q=>nomatch q)
def mixKind (prog:Program) (w:World):PySem.KeyKind prog w Key where
 is:=keyIs
 hash:=keyH w
 inj:=fun v a b ha hb=>by
  rcases keyIs_shape ha with ⟨i,t,rfl,rfl⟩|⟨x,t,rfl,rfl⟩
  ·rcases keyIs_shape hb with ⟨j,u,rfl,e⟩|⟨y,u,rfl,e⟩
   ·injection e with e1 _;rw [e1]
   ·exact nomatch e
  ·rcases keyIs_shape hb with ⟨j,u,rfl,e⟩|⟨y,u,rfl,e⟩
   ·exact nomatch e
   ·injection e with e1 _;rw [e1]
 byValue:=fun k v h=>by
  rcases keyIs_shape h with ⟨i,t,rfl,rfl⟩|⟨x,t,rfl,rfl⟩ <;> rfl
 pyHash:=fun hv h=>by
  rcases keyIs_shape hv with ⟨i,t,rfl,rfl⟩|⟨x,t,rfl,rfl⟩
  ·exact wpAny_pyHash_int h
  ·exact wpAny_pyHash_str h
 eqBool:=fun hu hv h=>by
  rcases keyIs_shape hu with ⟨i,t,rfl,rfl⟩|⟨x,t,rfl,rfl⟩
  ·rcases keyIs_shape hv with ⟨j,u,rfl,rfl⟩|⟨y,u,rfl,rfl⟩
   ·rw [key_ll] at h;exact wpAny_eqBool_int h
   ·rw [key_lr] at h;exact SeqAt.EqAt.int_str i t y u _ _ _ _ h
  ·rcases keyIs_shape hv with ⟨j,u,rfl,rfl⟩|⟨y,u,rfl,rfl⟩
   ·rw [key_rl] at h;exact SeqAt.EqAt.str_int x t j u _ _ _ _ h
   ·rw [key_rr] at h;exact wpAny_eqBool_str h
 «strs»:=fun k x t v h=>by
  rcases keyIs_shape h with ⟨i,u,rfl,e⟩|⟨y,u,rfl,e⟩
  ·exact nomatch e
  ·injection e with e1 _
   subst e1
   cases v <;> rfl
theorem mixKind_int (prog:Program) (w:World) (i:Int) (t:Tok):(mixKind prog w).is (.inl i) (.int i t)=true:=keyIs_int i t
theorem mixKind_str (prog:Program) (w:World) (x:Str) (t:Tok):(mixKind prog w).is (.inr x) (.str x t)=true:=keyIs_str x t
inductive V where
 |non|bl (b:Bool)|int (i:Int)|str (x:Str)|byt (b:Array UInt8)|flt (b:UInt64)|ref (a:Addr)|ty (n:String)
 deriving DecidableEq
def RelV:V->Value->Prop
 |.non,u=>u=Value.none
 |.bl b,u=>u=Value.bool b
 |.int i,u=>∃ t,u=Value.int i t
 |.str x,u=>∃ t,u=Value.str x t
 |.byt b,u=>∃ t,u=Value.bytes b t
 |.flt b,u=>∃ t,u=Value.float b t
 |.ref a,u=>u=Value.ref a
 |.ty n,u=>u=Value.type n
abbrev Vals:List V->List Value->Prop:=Paired RelV
theorem Vals.length {xs:List V} {us:List Value} (r:Vals xs us):xs.length=us.length:=Paired.length r
theorem Vals.get:∀ {xs:List V} {us:List Value} {i:Nat} {x:V},Vals xs us->xs[i]?=some x->∃ u,us[i]?=some u/\RelV x u
 |_,_,_,_,.nil,e=>by simp at e
 |_,_,0,_,.cons r _,e=>by simp at e;subst e;exact ⟨_,rfl,r⟩
 | _,_,i+1,x,.cons _ t,e=>by
   obtain ⟨u,h1,h2⟩:=Vals.get (i:=i) (x:=x) t (by simpa using e)
   exact ⟨u,by simpa using h1,h2⟩
theorem Vals.append:∀ {xs ys:List V} {us ws:List Value},Vals xs us->Vals ys ws->Vals (xs++ys) (us++ws)
 |_,_,_,_,.nil,s=>s
 |_,_,_,_,.cons r t,s=>.cons r (Vals.append t s)
theorem Vals.take:∀ {xs:List V} {us:List Value} (n:Nat),Vals xs us->Vals (xs.take n) (us.take n)
 |_,_,0,_=>.nil
 |_,_,_+1,.nil=>.nil
 |_,_,n+1,.cons r t=>.cons r (Vals.take n t)
theorem Vals.drop:∀ {xs:List V} {us:List Value} (n:Nat),Vals xs us->Vals (xs.drop n) (us.drop n)
 |_,_,0,r=>r
 |_,_,_+1,.nil=>.nil
 |_,_,n+1,.cons _ t=>Vals.drop n t
def RelO:Option V->Option Value->Prop
 |some v,some u=>RelV v u
 |none,none=>True
 |_,_=>False
def KV {κ:Type}:List (κ×V)->List (κ×Value)->Prop:=Paired fun (p:κ×V) (q:κ×Value)=>p.1=q.1/\RelV p.2 q.2
def kV:Key->V
 |.inl i=>.int i
 |.inr x=>.str x
inductive HO where
 |lst (xs:List V)
 |tup (xs:List V)
 |dK (kvs:List (Key×V))|dT (kvs:List (List Key×V))
 |set (S:Int->Bool) (n:Nat)
 |ins (C dx:Addr) (fs:List (Str×V))
 |own (x:Addr)
 |xd (fs:List (Str×V))
 |met (f x:Addr)
 |rng (lo hi:Int)
 |frz (o:Obj) (u:HO)
 |tbl (ps:Array Value)
 |ext (φ:Heap->Prop)
abbrev Hp:=Addr->Option HO
def upd (H:Hp) (a:Addr) (o:HO):Hp:=fun b=>if b=a then some o else H b
theorem upd_same {H:Hp} {a:Addr} {o:HO}:upd H a o a=some o:=by unfold upd;rw [if_pos rfl]
theorem upd_ne {H:Hp} {a b:Addr} {o:HO} (h:b≠a):upd H a o b=H b:=by unfold upd;rw [if_neg h]
theorem upd_upd {H:Hp} {a:Addr} {o u:HO}:upd (upd H a o) a u=upd H a u:=by
 funext b;unfold upd;split <;> rfl
theorem ne_of {H:Hp} {a b:Addr} {o u:HO} (h:H a=some o) (h':H b=some u) (d:o≠u):a≠b:=by
 intro e;subst e;rw [h] at h';exact d (Option.some.inj h')
theorem ne_of_none {H:Hp} {a b:Addr} {o:HO} (h:H a=some o) (h':H b=none):a≠b:=by
 intro e;subst e;rw [h] at h';cases h'
section
variable (P:Program) (w:World)
def ObjOk (H:Hp) (h:Heap) (a:Addr):HO->Prop
 |.lst xs=>xs.length≤sizeLine/\∃ (its:List Value) (n:Nat),Vals xs its/\h.get? a=some { cls:=.type "list",data:=.seq its.toArray n }
 |.tup xs=>xs.length≤sizeLine/\∃ its:List Value,Vals xs its/\IsTup h a its.toArray
 |.dK kvs=>kvs.length≤sizeLine/\(a == sysModules)=false/\∃ vs,KV kvs vs/\h.DictOf (mixKind P w) a vs
 |.dT kvs=>kvs.length≤sizeLine/\(a == sysModules)=false/\∃ xs:List (List Key×Addr×Value),
  Paired (fun (p:List Key×V) (q:List Key×Addr×Value)=>p.1=q.1/\H q.2.1=some (.tup (p.1.map kV))/\RelV p.2 q.2.2) kvs xs/\
  ∃ o es ep,h.get? a=some o/\o.ExactDict/\o.data=.dict es ep/\es.toList=xs.map (entryOfKey (tupleKind (mixKind P w)))/\(xs.map (·.1)).Nodup
 |.set S n=>h.SetOf (intKind P w) a S n
 |.ins C dx fs=>H dx=some (.own a)/\fs.length≤1000/\dx≠a/\h.get? a=some (PySem.W.instObj C dx)/\
  ∃ mA,h.Ns1 dx mA/\(∀ f,RelO (fs.lookup f) (mA f))/\PySem.Within mA (fs.map (·.1))
 |.own _=>∃ o,h.get? a=some o
 |.xd fs=>∃ mA,h.Ns1 a mA/\∀ f,RelO (fs.lookup f) (mA f)
 |.rng lo hi=>∃ t u v,h.get? a=some { cls:=.type "range",data:=.fields #[.int lo t,.int hi u,.int 1 v] }
 |.frz o u=>h.get? a=some o/\ObjOk H h a u
 |.tbl ps=>h.get? a=some { cls:=.none,data:=.fields ps }
 |.met f x=>h.get? a=some (PySem.W.methodObj (.ref f) (.ref x))
 |.ext φ=>φ h/\(∃ o,h.get? a=some o)/\∀ h1 h2:Heap,φ h1->(∀ o,h1.get? a=some o->h2.get? a=some o)->φ h2
def HOk (H:Hp) (h:Heap):Prop:=∀ a o,H a=some o->ObjOk P w H h a o
end
section
variable {P:Program} {w:World} {H H':Hp} {h h':Heap} {a:Addr} {o:HO}
theorem ObjOk.lt (x:ObjOk P w H h a o):a<h.objs.size:=by
 cases o with
 |lst xs=>obtain ⟨_,_,_,_,e⟩:=x;exact Heap.lt_size e
 |tup xs=>obtain ⟨_,_,_,p⟩:=x;exact p.lt
 |dK kvs=>obtain ⟨_,_,_,_,o,_,_,e,_⟩:=x;exact Heap.lt_size e
 |dT kvs=>obtain ⟨_,_,_,_,o,_,_,e,_⟩:=x;exact Heap.lt_size e
 |set S n=>obtain ⟨o,_,_,_,e,_⟩:=x;exact Heap.lt_size e
 |ins C dx fs=>obtain ⟨_,_,_,e,_⟩:=x;exact Heap.lt_size e
 |own y=>obtain ⟨_,e⟩:=x;exact Heap.lt_size e
 |xd fs=>obtain ⟨_,⟨_,_,_,e,_⟩,_⟩:=x;exact Heap.lt_size e
 |rng lo hi=>obtain ⟨_,_,_,e⟩:=x;exact Heap.lt_size e
 |frz ob u=>obtain ⟨e,_⟩:=x;exact Heap.lt_size e
 |tbl ps=>exact Heap.lt_size (show h.get? a=some _ from x)
 |met f y=>exact Heap.lt_size (show h.get? a=some _ from x)
 |ext φ=>obtain ⟨_,⟨_,e⟩,_⟩:=x;exact Heap.lt_size e
theorem Paired.mapP {α β:Type} {F G:α->β->Prop}:∀ {l₁:List α} {l₂:List β},Paired F l₁ l₂->(∀ a b,F a b->G a b)->Paired G l₁ l₂
 |_,_,.nil,_=>.nil
 |_,_,.cons r t,f=>.cons (f _ _ r) (Paired.mapP t f)
theorem ObjOk.stay (x:ObjOk P w H h a o) (k:∀ b u,(b=a∨H b=some (.own a))->h.get? b=some u->h'.get? b=some u)
 (ho:∀ b,H b=some (.own a)->H' b=some (.own a)) (ht:∀ b xs,H b=some (.tup xs)->H' b=some (.tup xs)):ObjOk P w H' h' a o:=by
 induction o with
 |lst xs=>obtain ⟨z,its,n,r,e⟩:=x;exact ⟨z,its,n,r,k _ _ (.inl rfl) e⟩
 |tup xs=>obtain ⟨z,its,r,ob,e,c⟩:=x;exact ⟨z,its,r,ob,k _ _ (.inl rfl) e,c⟩
 |dK kvs=>obtain ⟨z,y,vs,r,ob,es,ep,e,c⟩:=x;exact ⟨z,y,vs,r,ob,es,ep,k _ _ (.inl rfl) e,c⟩
 | dT kvs=>
   obtain ⟨z,y,xs,r,ob,es,ep,e,c⟩:=x
   exact ⟨z,y,xs,Paired.mapP r fun p q z=>⟨z.1,ht _ _ z.2.1,z.2.2⟩,ob,es,ep,k _ _ (.inl rfl) e,c⟩
 |set S n=>obtain ⟨ob,es,ep,t,e,c⟩:=x;exact ⟨ob,es,ep,t,k _ _ (.inl rfl) e,c⟩
 | ins C dx fs=>
   obtain ⟨d,z,ne,e,mA,⟨od,es,ep,e2,c⟩,r⟩:=x
   exact ⟨ho _ d,z,ne,k _ _ (.inl rfl) e,mA,⟨od,es,ep,k _ _ (.inr d) e2,c⟩,r⟩
 |own y=>obtain ⟨ob,e⟩:=x;exact ⟨ob,k _ _ (.inl rfl) e⟩
 |xd fs=>obtain ⟨mA,⟨od,es,ep,e,c⟩,r⟩:=x;exact ⟨mA,⟨od,es,ep,k _ _ (.inl rfl) e,c⟩,r⟩
 |rng lo hi=>obtain ⟨t,u,v,e⟩:=x;exact ⟨t,u,v,k _ _ (.inl rfl) e⟩
 |frz ob u ih=>obtain ⟨e,q⟩:=x;exact ⟨k _ _ (.inl rfl) e,ih q⟩
 | tbl ps=>
   have e:h.get? a=some { cls:=.none,data:=.fields ps }:=x
   show h'.get? a=some { cls:=.none,data:=.fields ps }
   exact k a _ (.inl rfl) e
 | met f y=>
   have e:h.get? a=some (PySem.W.methodObj (.ref f) (.ref y)):=x
   show h'.get? a=some (PySem.W.methodObj (.ref f) (.ref y))
   exact k a _ (.inl rfl) e
 |ext φ=>obtain ⟨p,⟨o,e⟩,st⟩:=x;exact ⟨st _ _ p fun o q=>k _ _ (.inl rfl) q,⟨o,k _ _ (.inl rfl) e⟩,st⟩
theorem HOk.lt (x:HOk P w H h) (e:H a=some o):a<h.objs.size:=(x a o e).lt
theorem HOk.fresh (x:HOk P w H h) (e:h.objs.size≤a):H a=none:=by
 cases q:H a with
 |none=>rfl
 |some u=>exact absurd (Nat.lt_of_lt_of_le (x.lt q) e) (Nat.lt_irrefl _)
theorem HOk.kept (x:HOk P w H h) (k:∀ b u,h.get? b=some u->h'.get? b=some u):HOk P w H h':=fun a o e=>
 (x a o e).stay (fun b u _ q=>k b u q) (fun _ q=>q) fun _ _ q=>q
theorem HOk.laid (x:HOk P w H h) (k:∀ b u,h.get? b=some u->h'.get? b=some u) (hp:h.objs.size≤a) (new:ObjOk P w (upd H a o) h' a o):HOk P w (upd H a o) h':=fun b u e=>by
 have hn:=x.fresh hp
 by_cases hb:b=a
 ·subst hb;rw [upd_same] at e;cases e;exact new
 ·rw [upd_ne hb] at e
  exact (x b u e).stay (fun c v _ q=>k c v q) (fun c q=>by rw [upd_ne (ne_of_none q hn)];exact q) fun c xs q=>by rw [upd_ne (ne_of_none q hn)];exact q
end
def Rd (H:Hp) (a:Addr) (u:HO):Prop:=H a=some u∨∃ o,H a=some (.frz o u)
theorem Rd.ok {P:Program} {w:World} {H:Hp} {h:Heap} {a:Addr} {u:HO} (r:Rd H a u) (x:HOk P w H h):ObjOk P w H h a u:=by
 rcases r with r|⟨o,r⟩
 ·exact x a u r
 ·obtain ⟨_,q⟩:=x a _ r
  exact q
def Mut:Option HO->Prop
 |some (.lst _)=>True
 |some (.dK _)=>True
 |some (.dT _)=>True
 |some (.set _ _)=>True
 |some (.ins _ _ _)=>True
 |some (.ext _)=>True
 |_=>False
section
variable {P:Program} {w:World} {H:Hp} {h h':Heap} {x e:Addr} {o':HO}
theorem HOk.write (ok:HOk P w H h) (mu:Mut (H x)) (he:e=x∨H e=some (.own x)) (k:∀ b u,b≠e->h.get? b=some u->h'.get? b=some u) (heo:∃ u,h'.get? e=some u)
 (new:ObjOk P w (upd H x o') h' x o'):HOk P w (upd H x o') h':=fun b u q=>by
 have nown:∀ c y,H c=some (.own y)->c≠x:=fun c y r z=>by subst z;rw [r] at mu;exact mu
 have ntup:∀ c xs,H c=some (.tup xs)->c≠x:=fun c xs r z=>by subst z;rw [r] at mu;exact mu
 by_cases hb:b=x
 ·subst hb;rw [upd_same] at q;cases q;exact new
 ·rw [upd_ne hb] at q
  by_cases hbe:b=e
  ·have q':H b=some (.own x):=by
    rcases he with z|z
    ·exact absurd (hbe.trans z) hb
    ·rw [hbe];exact z
   rw [q] at q';cases q'
   obtain ⟨v,hv⟩:=heo
   exact ⟨v,by rw [hbe];exact hv⟩
  ·refine (ok b u q).stay (fun c v hc r=>k c v ?_ r) (fun c r=>by rw [upd_ne (nown c b r)];exact r) fun c xs r=>by rw [upd_ne (ntup c xs r)];exact r
   rcases hc with rfl|hc
   ·exact hbe
   ·rintro rfl
    rcases he with z|z
    ·exact nown c b hc z
    ·rw [hc] at z;cases z;exact hb rfl
end
structure Un (fs ex:List Addr) (H H':Hp) (h h':Heap):Prop where
 keep:∀ b o,h.get? b=some o->H b=none->b∉fs->b∉ex->h'.get? b=some o
 slot:∀ b o,h.get? b=some o->H b=none->b∈fs->b∉ex->∃ sl,h'.get? b=some { o with slots:=sl }
 free:∀ b o,h.get? b=some o->H b=none->b∉ex->H' b=none
 there:∀ b o,h.get? b=some o->b∉ex->∃ o',h'.get? b=some o'
 tups:∀ b xs,H b=some (.tup xs)->H' b=some (.tup xs)
 frzs:∀ b o u,H b=some (.frz o u)->H' b=some (.frz o u)
 tbls:∀ b ps,H b=some (.tbl ps)->∃ more,H' b=some (.tbl (ps++more))
section
variable {fs fs' ex ex':List Addr} {H H1 H2:Hp} {h h1 h2 h':Heap} {a x e:Addr} {o:HO}
theorem Un.any (u:Un fs ex H H1 h h1) {b:Addr} {ob:Obj} (q:h.get? b=some ob) (n:H b=none) (hx:b∉ex):∃ sl,h1.get? b=some { ob with slots:=sl }:=by
 by_cases hb:b∈fs
 ·exact u.slot b ob q n hb hx
 ·exact ⟨ob.slots,u.keep b ob q n hb hx⟩
theorem Un.kept (k:∀ b u,h.get? b=some u->h'.get? b=some u):Un fs ex H H h h':=
 ⟨fun b ob q _ _ _=>k b ob q,fun b ob q _ _ _=>⟨ob.slots,k b ob q⟩,fun _ _ _ n _=>n,fun b ob q _=>⟨ob,k b ob q⟩,fun _ _ q=>q,fun _ _ _ q=>q,fun _ ps q=>⟨#[],by rw [q];simp⟩⟩
theorem Un.refl:Un fs ex H H h h:=Un.kept fun _ _ q=>q
theorem Un.laid (k:∀ b u,h.get? b=some u->h'.get? b=some u) (hp:h.objs.size≤a) (hn:H a=none):Un fs ex H (upd H a o) h h' where
 keep:=fun b u q _ _ _=>k b u q
 slot:=fun b u q _ _ _=>⟨u.slots,k b u q⟩
 free:=fun b u q n _=>by rw [upd_ne (Nat.ne_of_lt (Nat.lt_of_lt_of_le (Heap.lt_size q) hp))];exact n
 there:=fun b u q _=>⟨u,k b u q⟩
 tups:=fun b xs q=>by rw [upd_ne (ne_of_none q hn)];exact q
 frzs:=fun b u xs q=>by rw [upd_ne (ne_of_none q hn)];exact q
 tbls:=fun b ps q=>⟨#[],by rw [upd_ne (ne_of_none q hn),q];simp⟩
theorem Un.write (mu:Mut (H x)) (he:e=x∨H e=some (.own x)) (k:∀ b u,b≠e->h.get? b=some u->h'.get? b=some u) (heo:∃ u,h'.get? e=some u):Un fs ex H (upd H x o) h h':=by
 have hx:∀ b,H b=none->b≠x:=fun b n z=>by subst z;rw [n] at mu;exact mu
 have hb:∀ b,H b=none->b≠e:=fun b n z=>by
  subst z
  rcases he with r|r
  ·exact hx b n r
  ·rw [n] at r;cases r
 have hm:∀ b u,H b=some u->¬ Mut (some u)->b≠x:=fun b u q nm z=>by subst z;rw [q] at mu;exact nm mu
 refine ⟨fun b u q n _ _=>k b u (hb b n) q,fun b u q n _ _=>⟨u.slots,k b u (hb b n) q⟩,fun b u q n _=>by rw [upd_ne (hx b n)];exact n,fun b u q _=>?_,
  fun b xs q=>by rw [upd_ne (hm b _ q fun z=>z)];exact q,fun b u xs q=>by rw [upd_ne (hm b _ q fun z=>z)];exact q,fun b ps q=>⟨#[],by rw [upd_ne (hm b _ q fun z=>z),q];simp⟩⟩
 by_cases hbe:b=e
 ·subst hbe;exact heo
 ·exact ⟨u,k b u hbe q⟩
end
def trk (h:Heap) (H:Hp):List Addr:=(List.range h.objs.size).filter fun a=>(H a).isSome
def hidT (h:Heap) (H:Hp):Heap:=PySem.W.hideAll h (trk h H)
theorem hidT_size (h:Heap) (H:Hp):(hidT h H).objs.size=h.objs.size:=PySem.W.hideAll_size _ _
theorem hidT_get {h:Heap} {H:Hp} {b:Addr} {o:Obj} (e:h.get? b=some o) (n:H b=none):(hidT h H).get? b=some o:=
 PySem.W.hideAll_get _ e fun hm=>by
  have q:(H b).isSome=true:=(List.mem_filter.mp hm).2
  rw [n] at q;simp at q
theorem of_hidT {h:Heap} {H:Hp} {b:Addr} {o:Obj} (e:(hidT h H).get? b=some o):h.get? b=some o/\H b=none:=by
 have e':h.get? b=some o:=PySem.W.of_hideAll (trk h H) e
 refine ⟨e',?_⟩
 cases q:H b with
 |none=>rfl
 | some x=>
   have hm:b∈trk h H:=List.mem_filter.mpr ⟨List.mem_range.mpr (Heap.lt_size e'),by simp [q]⟩
   have z:(hidT h H).get? b=none:=PySem.W.hideAll_none (trk h H) hm
   rw [z] at e;cases e
structure Mod (K:PySem.W.Frag) (mg:Str->Option Value) (base:Heap):Prop where
 kin:K.In base
 glob:base.Ns mainGlobals mg
 blt:∃ mb,base.Ns builtinsNs mb/\∀ x:Str,x ≠ "__name__"->mb x=bootBuiltins x
 nolimit:base.NoLimit
structure Cx where
 prog:Program
 w:World
 K:PySem.W.Frag
 mg:Str->Option Value
 base:Heap
 A:Around
 N:List Str
 s₀:Shared
 H₀:Hp
 env:Env
 outer:List Env
 stack:List Env
 ex:List Addr
 fn:Str->Bool
 calm:Bool
 pn:List (Addr×Obj)
 xe:Value->Shared->Prop
def frs (l:List Env):List Addr:=l.filterMap (·.frame)
abbrev Cx.fs (X:Cx):List Addr:=frs X.outer
def Vis (sc:Scope) (x:Str):Prop:=sc.names.lookup x=some .local∨sc.names.lookup x=some .cell∨sc.names.lookup x=some .free
def Loc (sc:Scope) (x:Str):Prop:=sc.names.lookup x=some .local∨sc.names.lookup x=some .cell
def Look (env:Env) (h:Heap) (m:Str->Option Value) (x:Str) (u:Value):Prop:=
 (env.kindOf x=some .local/\m x=some u)∨((env.kindOf x=some .cell∨env.kindOf x=some .free)/\∃ c,env.cells.lookup x=some c/\h.IsCell c (some u))
structure Cx.Ok (X:Cx):Prop where
 mod:Mod X.K X.mg X.base
 kind:X.env.scope.kind=.function
 glob:X.env.globals=mainGlobals
 blt:X.env.builtins=builtinsNs
 above:X.s₀.heap.objs.size≤X.env.locals
 inj:∀ x y c,X.env.cells.lookup x=some c->X.env.cells.lookup y=some c->x=y
 has:∀ x,(X.env.kindOf x=some .cell∨X.env.kindOf x=some .free)->∃ c,X.env.cells.lookup x=some c
 cab:∀ x c,X.fn x=true->X.env.cells.lookup x=some c->X.s₀.heap.objs.size≤c
 hd:X.calm=true->X.A.handled=none
 frames:X.A.frames=some X.stack
 stk:X.stack=X.outer∨(X.stack=X.env::X.outer/\X.env.frame=some X.env.locals)
 exf:∀ b∈X.ex,b≠X.env.locals/\∀ x c,X.env.cells.lookup x=some c->c≠b
 bs:∀ b o,X.base.get? b=some o->X.s₀.heap.get? b=some o/\X.H₀ b=none
 bsz:X.base.objs.size≤X.s₀.heap.objs.size
 noex:∀ b o,X.base.get? b=some o->b∉X.ex
 exfs:∀ b∈X.ex,b∉X.fs
 funs:X.s₀.heap.FunFrames X.base X.outer
 frf:∀ b∈X.fs,X.H₀ b=none
structure Inv (X:Cx) (pins:List (Addr×Obj)) (σ:List (Option V)) (H:Hp) (s:Shared):Prop where
 ok:X.Ok
 os:s.os=X.s₀.os
 bare:AllBare s.gens
 base:Un X.fs X.ex X.H₀ H X.s₀.heap s.heap
 loc:∃ m,s.heap.Ns X.env.locals m/\∀ (i:Nat) (x:Str) (v:V),X.N[i]?=some x->σ[i]?=some (some v)->Vis X.env.scope x->∃ u,RelV v u/\Look X.env s.heap m x u
 cell:∀ x c,X.env.cells.lookup x=some c->∃ v,s.heap.IsCell c v
 free:H X.env.locals=none
 freeC:∀ x c,X.env.cells.lookup x=some c->H c=none
 pin:∀ p∈X.pn++pins,s.heap.get? p.1=some p.2/\H p.1=none/\p.1≠X.env.locals/\p.1∉X.fs/\∀ v,p.2.data≠.cell v
 hok:HOk X.prog X.w H s.heap
 len:σ.length=X.N.length
section
variable {X:Cx} {pins:List (Addr×Obj)} {σ:List (Option V)} {H H':Hp} {s:Shared} {h':Heap}
theorem Cx.Ok.nofr (ok:X.Ok) {b:Addr} {o:Obj} (e:X.base.get? b=some o):b∉X.fs:=fun hb=>by
 have:=(ok.funs.mem hb).1
 rw [e] at this;cases this
theorem Inv.bs (I:Inv X pins σ H s):∀ b o,X.base.get? b=some o->s.heap.get? b=some o/\H b=none:=fun b o e=>
 ⟨I.base.keep b o (I.ok.bs b o e).1 (I.ok.bs b o e).2 (I.ok.nofr e) (I.ok.noex b o e),I.base.free b o (I.ok.bs b o e).1 (I.ok.bs b o e).2 (I.ok.noex b o e)⟩
theorem Inv.bk (I:Inv X pins σ H s):∀ b o,X.base.get? b=some o->s.heap.get? b=some o:=fun b o e=>(I.bs b o e).1
theorem Inv.mod (I:Inv X pins σ H s):Mod X.K X.mg X.base:=I.ok.mod
theorem Inv.kIn (I:Inv X pins σ H s):X.K.In s.heap:=I.ok.mod.kin.keeps I.bk
theorem Inv.lt (I:Inv X pins σ H s):X.env.locals<s.heap.objs.size:=let ⟨_,hn,_⟩:=I.loc;hn.lt
theorem Inv.sz (I:Inv X pins σ H s):X.s₀.heap.objs.size≤s.heap.objs.size:=Nat.le_trans I.ok.above (Nat.le_of_lt I.lt)
theorem Inv.nofs (I:Inv X pins σ H s) {a:Addr} (h:s.heap.objs.size≤a):a∉X.fs:=fun hb=>by
 obtain ⟨_,o,ho,_⟩:=I.ok.funs.mem hb
 exact absurd (Nat.lt_of_lt_of_le (Heap.lt_size ho) (Nat.le_trans I.sz h)) (Nat.lt_irrefl _)
theorem Inv.cne (I:Inv X pins σ H s):∀ x c,X.env.cells.lookup x=some c->c≠X.env.locals:=fun x c e z=>by
 obtain ⟨v,o,ho,hd⟩:=I.cell x c e
 obtain ⟨m,⟨o',es,ep,ho',hd',_⟩,_⟩:=I.loc
 rw [z,ho'] at ho;cases ho;rw [hd'] at hd;cases hd
theorem Inv.funs (I:Inv X pins σ H s):s.heap.FunFrames X.base X.outer:=by
 have all:∀ (l:List Env),(∀ b∈frs l,b∈X.fs)->X.s₀.heap.FunFrames X.base l->s.heap.FunFrames X.base l:=by
  intro l
  induction l with
  |nil=>intro _ _;trivial
  | cons env r ih=>
    intro hs hl
    obtain ⟨hk,⟨L,o,hf,hn,ho,hd⟩,hr⟩:=hl
    have hL:L∈X.fs:=hs L (by unfold frs;rw [List.filterMap_cons,hf];exact List.mem_cons_self)
    obtain ⟨sl,e⟩:=I.base.slot L o ho (I.ok.frf L hL) hL fun z=>I.ok.exfs L z hL
    exact ⟨hk,⟨L,_,hf,hn,e,hd⟩,ih (fun b hb=>hs b (by unfold frs;rw [List.filterMap_cons,hf];exact List.mem_cons_of_mem _ hb)) hr⟩
 exact all X.outer (fun _ hb=>hb) I.ok.funs
theorem Inv.stack (I:Inv X pins σ H s):s.heap.FunFrames X.base X.stack:=by
 rcases I.ok.stk with e|⟨e,hf⟩
 ·rw [e];exact I.funs
 ·rw [e]
  obtain ⟨m,hn,_⟩:=I.loc
  refine .cons (by rw [I.ok.kind];decide) hf hn ?_ I.funs
  exact Heap.get?_none_of_le (Nat.le_trans I.ok.bsz I.ok.above)
theorem Inv.stkSub (I:Inv X pins σ H s):∀ b∈frs X.stack,b∈X.env.locals::X.fs:=fun b hb=>by
 rcases I.ok.stk with e|⟨e,hf⟩
 ·rw [e] at hb;exact List.mem_cons_of_mem _ hb
 ·rw [e] at hb
  unfold frs at hb
  rw [List.filterMap_cons,hf] at hb
  exact hb
theorem Inv.stkFree (I:Inv X pins σ H s):∀ b∈frs X.stack,H b=none:=fun b hb=>by
 rcases List.mem_cons.mp (I.stkSub b hb) with e|hb
 ·rw [e];exact I.free
 ·obtain ⟨_,o,ho,_⟩:=I.ok.funs.mem hb
  exact I.base.free b o ho (I.ok.frf b hb) fun z=>I.ok.exfs b z hb
theorem Inv.step {g':Array GenState} {t':Nat} {d':Drawn} {ch:List Addr} (I:Inv X pins σ H s)
 (hch:∀ b∈ch,(b∈X.ex∨X.s₀.heap.objs.size≤b)/\b≠X.env.locals/\(∀ x c,X.env.cells.lookup x=some c->c≠b)/\∀ p∈X.pn++pins,p.1≠b)
 (keep:∀ b o,b≠X.env.locals->b∉X.fs->b∉ch->s.heap.get? b=some o->H b=none->h'.get? b=some o)
 (slot:∀ b o,b≠X.env.locals->b∈X.fs->b∉ch->s.heap.get? b=some o->H b=none->∃ sl,h'.get? b=some { o with slots:=sl }) (free:∀ b o,b∉ch->s.heap.get? b=some o->H b=none->H' b=none)
 (there:∀ b o,b∉ch->s.heap.get? b=some o->∃ o',h'.get? b=some o')
 (tups:∀ b xs,H b=some (.tup xs)->H' b=some (.tup xs)) (frzs:∀ b o u,H b=some (.frz o u)->H' b=some (.frz o u)) (tbls:∀ b ps,H b=some (.tbl ps)->∃ more,H' b=some (.tbl (ps++more)))
 (ns:∀ m,s.heap.Ns X.env.locals m->h'.Ns X.env.locals m) (hok:HOk X.prog X.w H' h') (hg:AllBare g') :
 Inv X pins σ H' { s with heap:=h',gens:=g',drawn:=d',toks:=t' }:=by
 have neL:∀ b o,X.s₀.heap.get? b=some o->b≠X.env.locals:=fun b o e=>Nat.ne_of_lt (Nat.lt_of_lt_of_le (Heap.lt_size e) I.ok.above)
 have neC:∀ b o,X.s₀.heap.get? b=some o->b∉X.ex->b∉ch:=fun b o e hx hb=>by
  rcases (hch b hb).1 with z|z
  ·exact hx z
  ·exact absurd (Nat.lt_of_lt_of_le (Heap.lt_size e) z) (Nat.lt_irrefl _)
 have cellK:∀ x c,X.env.cells.lookup x=some c->∀ v,s.heap.IsCell c v->h'.IsCell c v:=fun x c e v ⟨o,ho,hd⟩=>by
  have nch:c∉ch:=fun z=>(hch c z).2.2.1 x c e rfl
  by_cases hc:c∈X.fs
  ·obtain ⟨sl,q⟩:=slot c o (I.cne x c e) hc nch ho (I.freeC x c e)
   exact ⟨_,q,hd⟩
  ·exact ⟨o,keep c o (I.cne x c e) hc nch ho (I.freeC x c e),hd⟩
 refine ⟨I.ok,I.os,hg,⟨fun b o e n hb hx=>?_,fun b o e n hb hx=>?_,fun b o e n hx=>?_,fun b o e hx=>?_,fun b xs e=>tups b xs (I.base.tups b xs e),fun b o xs e=>frzs b o xs (I.base.frzs b o xs e),fun b ps e=>?_⟩,?_,fun x c e=>?_,?_,fun x c e=>?_,fun p hp=>?_,hok,I.len⟩
 ·exact keep b o (neL b o e) hb (neC b o e hx) (I.base.keep b o e n hb hx) (I.base.free b o e n hx)
 ·obtain ⟨sl,e1⟩:=I.base.slot b o e n hb hx
  obtain ⟨sl',e2⟩:=slot b _ (neL b o e) hb (neC b o e hx) e1 (I.base.free b o e n hx)
  exact ⟨sl',e2⟩
 ·obtain ⟨o',e1⟩:=I.base.there b o e hx
  exact free b o' (neC b o e hx) e1 (I.base.free b o e n hx)
 ·obtain ⟨o',e1⟩:=I.base.there b o e hx
  exact there b o' (neC b o e hx) e1
 ·obtain ⟨m1,e1⟩:=I.base.tbls b ps e
  obtain ⟨m2,e2⟩:=tbls b _ e1
  exact ⟨m1++m2,by rw [e2,Array.append_assoc]⟩
 ·obtain ⟨m,hn,hl⟩:=I.loc
  refine ⟨m,ns m hn,fun i x v e1 e2 e3=>?_⟩
  obtain ⟨u,r,l⟩:=hl i x v e1 e2 e3
  refine ⟨u,r,?_⟩
  rcases l with l|⟨k,c,e,z⟩
  ·exact .inl l
  ·exact .inr ⟨k,c,e,cellK x c e _ z⟩
 ·obtain ⟨v,z⟩:=I.cell x c e
  exact ⟨v,cellK x c e v z⟩
 ·obtain ⟨m,⟨o,_,_,ho,_⟩,_⟩:=I.loc
  exact free _ o (fun z=>(hch _ z).2.1 rfl) ho I.free
 ·obtain ⟨v,o,ho,hd⟩:=I.cell x c e
  exact free c o (fun z=>(hch c z).2.2.1 x c e rfl) ho (I.freeC x c e)
 ·obtain ⟨e,n,ne,nf,d⟩:=I.pin p hp
  have nch:p.1∉ch:=fun z=>(hch p.1 z).2.2.2 p hp rfl
  exact ⟨keep p.1 p.2 ne nf nch e n,free p.1 p.2 nch e n,ne,nf,d⟩
theorem Inv.un {t':Nat} (I:Inv X pins σ H s) (u:Un X.fs [] H H' s.heap h') (hok:HOk X.prog X.w H' h'):Inv X pins σ H' { s with heap:=h',toks:=t' }:=by
 obtain ⟨m,⟨o,es,ep,ho,r⟩,_⟩:=id I.loc
 obtain ⟨sl,hL⟩:=u.any ho I.free (by simp)
 exact I.step (g':=s.gens) (d':=s.drawn) (ch:=[]) (fun _ z=>nomatch z) (fun b o _ hb _ e n=>u.keep b o e n hb (by simp)) (fun b o _ hb _ e n=>u.slot b o e n hb (by simp)) (fun b o _ e n=>u.free b o e n (by simp)) (fun b o _ e=>u.there b o e (by simp)) u.tups u.frzs u.tbls (fun m' hm=>by
  obtain ⟨o',es',ep',ho',r'⟩:=hm
  rw [ho] at ho';cases ho'
  exact ⟨_,es',ep',hL,r'⟩) hok I.bare
theorem Inv.call {g':Array GenState} {t':Nat} {d':Drawn} {ch:List Addr} (I:Inv X pins σ H s) (u:Un (frs X.stack) ch H H' s.heap h') (hok:HOk X.prog X.w H' h') (hg:AllBare g')
 (hch:∀ b∈ch,(b∈X.ex∨X.s₀.heap.objs.size≤b)/\b≠X.env.locals/\(∀ x c,X.env.cells.lookup x=some c->c≠b)/\∀ p∈X.pn++pins,p.1≠b) :
 Inv X pins σ H' { s with heap:=h',gens:=g',drawn:=d',toks:=t' }:=by
 obtain ⟨m,⟨o,es,ep,ho,r⟩,_⟩:=id I.loc
 obtain ⟨sl,hL⟩:=u.any ho I.free fun z=>(hch _ z).2.1 rfl
 exact I.step (ch:=ch) hch (fun b o hL hb hc e n=>u.keep b o e n (fun z=>(List.mem_cons.mp (I.stkSub b z)).elim hL hb) hc) (fun b o _ _ hc e n=>u.any e n hc) (fun b o hc e n=>u.free b o e n hc) (fun b o hc e=>u.there b o e hc) u.tups u.frzs u.tbls (fun m' hm=>by
  obtain ⟨o',es',ep',ho',r'⟩:=hm
  rw [ho] at ho';cases ho'
  exact ⟨_,es',ep',hL,r'⟩) hok hg
theorem Inv.turned {t':Nat} {it:Addr} (I:Inv X pins σ H s) (k:∀ b o,b≠it->s.heap.get? b=some o->h'.get? b=some o) (hn:H it=none) (hL:it≠X.env.locals)
 (h1:it∈X.ex∨X.s₀.heap.objs.size≤it) (h2:∀ x c,X.env.cells.lookup x=some c->c≠it) (h3:∀ p∈X.pn++pins,p.1≠it):Inv X pins σ H { s with heap:=h',toks:=t' }:=by
 have nit:∀ b u,H b=some u->b≠it:=fun b u e z=>by rw [z,hn] at e;cases e
 refine I.step (g':=s.gens) (d':=s.drawn) (ch:=[it]) (fun b hb=>?_) (fun b o _ _ hc e _=>k b o (fun z=>hc (by simp [z])) e) (fun b o _ _ hc e _=>⟨o.slots,k b o (fun z=>hc (by simp [z])) e⟩) (fun _ _ _ _ n=>n)
  (fun b o hc e=>⟨o,k b o (fun z=>hc (by simp [z])) e⟩) (fun _ _ e=>e) (fun _ _ _ e=>e) (fun b ps e=>⟨#[],by rw [e];simp⟩) (fun m hm=>?_) (fun b u e=>?_) I.bare
 ·have e:b=it:=by simpa using hb
  subst e
  exact ⟨h1,hL,h2,h3⟩
 ·obtain ⟨o,es,ep,ho,r⟩:=hm
  exact ⟨o,es,ep,k _ o (Ne.symm hL) ho,r⟩
 ·refine (I.hok b u e).stay (fun c v hc q=>k c v ?_ q) (fun _ q=>q) fun _ _ q=>q
  rcases hc with z|z
  ·rw [z];exact nit b u e
  ·exact nit c _ z
theorem Inv.tok (I:Inv X pins σ H s) (t:Nat):Inv X pins σ H { s with toks:=t }:=I.un (h':=s.heap) (t':=t) Un.refl I.hok
theorem Inv.kept {t':Nat} (I:Inv X pins σ H s) (k:∀ b u,s.heap.get? b=some u->h'.get? b=some u):Inv X pins σ H { s with heap:=h',toks:=t' }:=I.un (Un.kept k) (I.hok.kept k)
theorem Inv.laid {a:Addr} {o:HO} {t':Nat} (I:Inv X pins σ H s) (k:∀ b u,s.heap.get? b=some u->h'.get? b=some u) (hp:s.heap.objs.size≤a) (new:ObjOk X.prog X.w (upd H a o) h' a o) :
 Inv X pins σ (upd H a o) { s with heap:=h',toks:=t' }:=I.un (Un.laid k hp (I.hok.fresh hp)) (I.hok.laid k hp new)
theorem Inv.write {x e:Addr} {o:HO} {t':Nat} (I:Inv X pins σ H s) (mu:Mut (H x)) (he:e=x∨H e=some (.own x)) (k:∀ b u,b≠e->s.heap.get? b=some u->h'.get? b=some u) (heo:∃ u,h'.get? e=some u)
 (new:ObjOk X.prog X.w (upd H x o) h' x o):Inv X pins σ (upd H x o) { s with heap:=h',toks:=t' }:=I.un (Un.write mu he k heo) (I.hok.write mu he k heo new)
theorem Inv.pins_of {pins':List (Addr×Obj)} (I:Inv X pins σ H s) (h:∀ p∈pins',s.heap.get? p.1=some p.2/\H p.1=none/\p.1≠X.env.locals/\p.1∉X.fs/\∀ v,p.2.data≠.cell v):Inv X pins' σ H s:=
 ⟨I.ok,I.os,I.bare,I.base,I.loc,I.cell,I.free,I.freeC,fun p hp=>(List.mem_append.mp hp).elim (fun z=>I.pin p (List.mem_append_left _ z)) (h p),I.hok,I.len⟩
theorem nodup_ix {N:List Str} (hN:N.Nodup) {i j:Nat} {x:Str} (a:N[i]?=some x) (b:N[j]?=some x):i=j:=by
 obtain ⟨h1,e1⟩:=List.getElem?_eq_some_iff.mp a
 obtain ⟨h2,e2⟩:=List.getElem?_eq_some_iff.mp b
 exact (List.getElem_inj hN).mp (e1.trans e2.symm)
theorem store_ok2 {M:Model} {A:Around} {E:Value->Shared->Prop} {i:Nat} {x:Str} {v:V} {u:Value} {Q:Unit->Shared->Prop} (I:Inv X pins σ H s) (hN:X.N.Nodup) (hi:X.N[i]?=some x) (hx:Loc X.env.scope x) (r:RelV v u)
 (h:∀ s',Inv X pins (σ.set i (some v)) H s'->(∃ a,Heap.SameBut a s.heap s'.heap/\(a=X.env.locals∨X.env.cells.lookup x=some a))->Q () s') (hf:X.fn x=true∨X.env.scope.names.lookup x=some .local:=by first|exact .inl rfl|exact .inr rfl|assumption):wpAny M A (storeName X.env x u) Q E s:=by
 obtain ⟨m,hn,hl⟩:=id I.loc
 have hcls:(X.env.scope.kind == .class || (X.env.scope.kind == .module && X.env.locals != X.env.globals))=false:=by rw [I.ok.kind];rfl
 have hiσ:i<σ.length:=by rw [I.len];exact (List.getElem?_eq_some_iff.mp hi).1
 have cne:=I.cne
 have tracked:∀ {a:Addr} {h':Heap},(∃ o,s.heap.get? a=some o/\H a=none)->Heap.SameBut a s.heap h'->HOk X.prog X.w H h':=fun {a h'} ha hs b ob e=>by
  obtain ⟨_,_,hfree⟩:=ha
  refine (I.hok b ob e).stay (fun c w' hc q=>(hs.2 c ?_).trans q) (fun _ q=>q) fun _ _ q=>q
  rintro rfl
  rcases hc with rfl|hc
  ·rw [hfree] at e;cases e
  ·rw [hfree] at hc;cases hc
 rcases hx with hk|hk
 ·refine wpAny_storeName_local hk hn (fun h' hn' hs=>?_) hcls
  obtain ⟨oL,_,_,hoL,_⟩:=id hn
  refine h _ ⟨I.ok,I.os,I.bare,⟨fun b o e n hb hx=>?_,fun b o e n hb hx=>?_,I.base.free,fun b o e hx=>?_,I.base.tups,I.base.frzs,I.base.tbls⟩,⟨_,hn',fun j y v' e1 e2 e3=>?_⟩,fun y c e=>?_,I.free,I.freeC,fun p hp=>?_,tracked ⟨oL,hoL,I.free⟩ hs,by simpa using I.len⟩ ⟨_,hs,.inl rfl⟩
  ·exact (hs.2 b (Nat.ne_of_lt (Nat.lt_of_lt_of_le (Heap.lt_size e) I.ok.above))).trans (I.base.keep b o e n hb hx)
  ·obtain ⟨sl,e1⟩:=I.base.slot b o e n hb hx
   exact ⟨sl,(hs.2 b (Nat.ne_of_lt (Nat.lt_of_lt_of_le (Heap.lt_size e) I.ok.above))).trans e1⟩
  ·obtain ⟨o',e1⟩:=I.base.there b o e hx
   exact ⟨o',(hs.2 b (Nat.ne_of_lt (Nat.lt_of_lt_of_le (Heap.lt_size e) I.ok.above))).trans e1⟩
  ·by_cases hj:j=i
   ·subst hj
    rw [hi] at e1;cases e1
    rw [List.getElem?_set_self hiσ] at e2
    cases e2
    exact ⟨u,r,.inl ⟨hk,by simp⟩⟩
   ·rw [List.getElem?_set_ne (Ne.symm hj)] at e2
    obtain ⟨u',r',q⟩:=hl j y v' e1 e2 e3
    refine ⟨u',r',?_⟩
    rcases q with ⟨k,e⟩|⟨k,c,e,z⟩
    ·refine .inl ⟨k,?_⟩
     have:y≠x:=fun e=>hj (nodup_ix hN e1 (e ▸ hi))
     simp [this,e]
    ·exact .inr ⟨k,c,e,z.sameBut hs (cne y c e)⟩
  ·obtain ⟨w',z⟩:=I.cell y c e
   exact ⟨w',z.sameBut hs (cne y c e)⟩
  ·obtain ⟨e,n,ne,nf,d⟩:=I.pin p hp
   exact ⟨(hs.2 p.1 ne).trans e,n,ne,nf,d⟩
 ·have hfn:X.fn x=true:=by
   rcases hf with z|z
   ·exact z
   ·rw [z] at hk;cases hk
  obtain ⟨c,hc⟩:=I.ok.has x (.inl hk)
  obtain ⟨w',z⟩:=I.cell x c hc
  refine wpAny_storeName_cell I.ok.kind hk hc z (fun h' hc' hs=>?_)
  obtain ⟨oc,hoc,hocd⟩:=id z
  refine h { s with heap:=h' } ⟨I.ok,I.os,I.bare,⟨fun b o e n hb hx=>?_,fun b o e n hb hx=>?_,I.base.free,fun b o e hx=>?_,I.base.tups,I.base.frzs,I.base.tbls⟩,⟨m,hn.sameBut hs (Ne.symm (cne x c hc)),fun j y v' e1 e2 e3=>?_⟩,fun y c' e=>?_,I.free,I.freeC,fun p hp=>?_,tracked ⟨oc,hoc,I.freeC x c hc⟩ hs,by simpa using I.len⟩ ⟨c,hs,.inr hc⟩
  ·exact (hs.2 b (Nat.ne_of_lt (Nat.lt_of_lt_of_le (Heap.lt_size e) (I.ok.cab x c hfn hc)))).trans (I.base.keep b o e n hb hx)
  ·obtain ⟨sl,e1⟩:=I.base.slot b o e n hb hx
   exact ⟨sl,(hs.2 b (Nat.ne_of_lt (Nat.lt_of_lt_of_le (Heap.lt_size e) (I.ok.cab x c hfn hc)))).trans e1⟩
  ·obtain ⟨o',e1⟩:=I.base.there b o e hx
   exact ⟨o',(hs.2 b (Nat.ne_of_lt (Nat.lt_of_lt_of_le (Heap.lt_size e) (I.ok.cab x c hfn hc)))).trans e1⟩
  ·by_cases hj:j=i
   ·subst hj
    rw [hi] at e1;cases e1
    rw [List.getElem?_set_self hiσ] at e2
    cases e2
    exact ⟨u,r,.inr ⟨.inl hk,c,hc,hc'⟩⟩
   ·rw [List.getElem?_set_ne (Ne.symm hj)] at e2
    obtain ⟨u',r',q⟩:=hl j y v' e1 e2 e3
    refine ⟨u',r',?_⟩
    rcases q with q|⟨k,c',e,z'⟩
    ·exact .inl q
    ·refine .inr ⟨k,c',e,z'.sameBut hs ?_⟩
     rintro rfl
     exact hj (nodup_ix hN e1 (I.ok.inj _ _ _ e hc ▸ hi))
  ·by_cases hcc:c'=c
   ·subst hcc;exact ⟨_,hc'⟩
   ·obtain ⟨w2,z2⟩:=I.cell y c' e
    exact ⟨w2,z2.sameBut hs hcc⟩
  ·obtain ⟨e,n,ne,nf,d⟩:=I.pin p hp
   refine ⟨(hs.2 p.1 ?_).trans e,n,ne,nf,d⟩
   intro q
   rw [q,hoc] at e
   have q':oc=p.2:=Option.some.inj e
   exact d w' (by rw [← q'];exact hocd)
theorem store_ok {M:Model} {A:Around} {E:Value->Shared->Prop} {i:Nat} {x:Str} {v:V} {u:Value} {Q:Unit->Shared->Prop} (I:Inv X pins σ H s) (hN:X.N.Nodup) (hi:X.N[i]?=some x) (hx:Loc X.env.scope x) (r:RelV v u)
 (h:∀ s',Inv X pins (σ.set i (some v)) H s'->Q () s') (hf:X.fn x=true∨X.env.scope.names.lookup x=some .local:=by first|exact .inl rfl|exact .inr rfl|assumption):wpAny M A (storeName X.env x u) Q E s:=
 store_ok2 I hN hi hx r (fun s' I' _=>h s' I') hf
theorem Inv.call' {s':Shared} {ch:List Addr} (I:Inv X pins σ H s) (ho:s'.os=s.os) (u:Un (frs X.stack) ch H H' s.heap s'.heap) (hok:HOk X.prog X.w H' s'.heap) (hg:AllBare s'.gens)
 (hch:∀ b∈ch,(b∈X.ex∨X.s₀.heap.objs.size≤b)/\b≠X.env.locals/\(∀ x c,X.env.cells.lookup x=some c->c≠b)/\∀ p∈X.pn++pins,p.1≠b):Inv X pins σ H' s':=by
 obtain ⟨h',g',d',t',o'⟩:=s'
 have e:o'=s.os:=ho
 subst e
 exact I.call (g':=g') (t':=t') (d':=d') u hok hg hch
end
abbrev XK:=Value->Option Addr->Hp->Prop
abbrev St:=List (Option V)
abbrev VK:=V->Hp->Prop
abbrev TE:=St->Hp->VK->Prop
abbrev TT:=St->Hp->(Bool->Hp->Prop)->Prop
abbrev TA:=St->Hp->(List V->Hp->Prop)->Prop
structure Ends where
 nx:St->Hp->Prop
 rt:VK
 bk:St->Hp->Prop:=fun _ _=>False
 ct:St->Hp->Prop:=fun _ _=>False
abbrev TS:=Ends->St->Hp->Prop
def EP (X:Cx) (pins:List (Addr×Obj)) (σ:St) (Q:VK) (u:Value) (s':Shared):Prop:=∃ v H',Inv X pins σ H' s'/\RelV v u/\Q v H'
def TP (X:Cx) (pins:List (Addr×Obj)) (σ:St) (Q:Bool->Hp->Prop) (b:Bool) (s':Shared):Prop:=∃ H',Inv X pins σ H' s'/\Q b H'
def AP (X:Cx) (pins:List (Addr×Obj)) (σ:St) (Q:List V->Hp->Prop) (us:List Value) (s':Shared):Prop:=∃ vs H',Inv X pins σ H' s'/\Vals vs us/\Q vs H'
def SP (X:Cx) (pins:List (Addr×Obj)) (D:Ends) (f:Flow) (s':Shared):Prop:=
 match f with
 |.next=>∃ σ' H',Inv X pins σ' H' s'/\D.nx σ' H'
 |.brk=>∃ σ' H',Inv X pins σ' H' s'/\D.bk σ' H'
 |.cont=>∃ σ' H',Inv X pins σ' H' s'/\D.ct σ' H'
 |.ret u=>∃ v σ' H',Inv X pins σ' H' s'/\RelV v u/\D.rt v H'
def PE (X:Cx) (e:Expr) (t:TE):Prop:=
 ∀ (pins:List (Addr×Obj)) (s:Shared) (σ:St) (H:Hp) (Q:VK),Inv X pins σ H s->t σ H Q->wpAny (model X.prog X.w) X.A (eval e X.env) (EP X pins σ Q) X.xe s
def PT (X:Cx) (e:Expr) (t:TT):Prop:=
 ∀ (pins:List (Addr×Obj)) (s:Shared) (σ:St) (H:Hp) (Q:Bool->Hp->Prop),Inv X pins σ H s->t σ H Q->wpAny (model X.prog X.w) X.A (isTrue e X.env (eval e X.env)) (TP X pins σ Q) X.xe s
def PW (X:Cx) (e:Expr) (t:TT):Prop:=
 ∀ (whole:Sem Value) (pins:List (Addr×Obj)) (s:Shared) (σ:St) (H:Hp) (Q:Bool->Hp->Prop),Inv X pins σ H s->t σ H Q->wpAny (model X.prog X.w) X.A (isTrue e X.env whole) (TP X pins σ Q) X.xe s
theorem PW.pt {X:Cx} {e:Expr} {t:TT} (h:PW X e t):PT X e t:=h _
def PA (X:Cx) (es:List Expr) (t:TA):Prop:=
 ∀ (pos:Pos) (pins:List (Addr×Obj)) (s:Shared) (σ:St) (H:Hp) (Q:List V->Hp->Prop),Inv X pins σ H s->t σ H Q->wpAny (model X.prog X.w) X.A (spliced (backTo pos (starEach es X.env))) (AP X pins σ Q) X.xe s
def PS (X:Cx) (st:Stmt) (t:TS):Prop:=
 ∀ (pins:List (Addr×Obj)) (s:Shared) (σ:St) (H:Hp) (D:Ends),Inv X pins σ H s->t D σ H->wpAny (model X.prog X.w) X.A (exec st X.env) (SP X pins D) X.xe s
def PSs (X:Cx) (st:List Stmt) (t:TS):Prop:=
 ∀ (pins:List (Addr×Obj)) (s:Shared) (σ:St) (H:Hp) (D:Ends),Inv X pins σ H s->t D σ H->wpAny (model X.prog X.w) X.A (execs st X.env) (SP X pins D) X.xe s
theorem thn {α:Type} {t:Sem α} {Q Q':α->Shared->Prop} {M:Model} {A:Around} {E:Value->Shared->Prop} {s:Shared} (h:wpAny M A t Q E s) (hQ:∀ a s,Q a s->Q' a s):wpAny M A t Q' E s:=wpAny_mono h hQ fun _ _ x=>x
section
variable {X:Cx}
theorem bin {a b:Expr} {ta tb:TE} (ha:PE X a ta) (hb:PE X b tb) {pins:List (Addr×Obj)} {s:Shared} {σ:St} {H:Hp} {R:V->V->Hp->Prop} (I:Inv X pins σ H s) (h:ta σ H fun x H1=>tb σ H1 fun y H2=>R x y H2)
 {α:Type} {Q:α->Shared->Prop} {f:Value->Value->Sem α}
 (hf:∀ v u s2 x y H2,Inv X pins σ H2 s2->RelV x v->RelV y u->R x y H2->wpAny (model X.prog X.w) X.A (f v u) Q X.xe s2) :
 wpAny (model X.prog X.w) X.A (eval a X.env) (fun v s₁=>wpAny (model X.prog X.w) X.A (eval b X.env) (fun u s₂=>wpAny (model X.prog X.w) X.A (f v u) Q X.xe s₂) X.xe s₁) X.xe s:=by
 refine thn (ha pins s σ H _ I h) fun v s1 ⟨x,H1,I1,r1,q1⟩=>?_
 refine thn (hb pins s1 σ H1 _ I1 q1) fun u s2 ⟨y,H2,I2,r2,q2⟩=>?_
 exact hf v u s2 x y H2 I2 r1 r2 q2
def tVar (i:Nat):TE:=fun σ H Q=>∃ v,σ[i]?=some (some v)/\Q v H
def tC (v:V):TE:=fun _ H Q=>Q v H
theorem pe_var {i:Nat} {x:Str} {pos:Pos} (hN:X.N[i]?=some x) (hv:Vis X.env.scope x) (hd:(x == ("__debug__" : Str))=false:=by decide) (hcd:(x == ("__classdict__" : Str))=false:=by decide):PE X (.Name x pos) (tVar i):=by
 intro pins s σ H Q I h
 obtain ⟨v,e,h⟩:=h
 obtain ⟨m,hn,hl⟩:=I.loc
 obtain ⟨u,r,l⟩:=hl i x v hN e hv
 have fin:EP X pins σ Q u s:=⟨v,H,I,r,h⟩
 rcases l with ⟨hk,hm⟩|⟨hk,c,hc,hcell⟩
 ·exact wpAny_Name (wpAny_loadName_local I.ok.kind hk hn hm fin) hd
 ·rcases hk with hk|hk
  ·exact wpAny_Name (wpAny_loadName_cell I.ok.kind hk hc hcell fin) hd
  ·exact wpAny_Name (wpAny_loadName_free I.ok.kind hk hc hcell fin hcd) hd
theorem pe_int {i j pos}:PE X (.Constant (.int i) j pos) (tC (.int i)):=fun _ _ _ H _ I h=>wpAny_Constant_int ⟨.int i,H,I.tok _,⟨_,rfl⟩,h⟩
theorem pe_bl {b j pos}:PE X (.Constant (.bool b) j pos) (tC (.bl b)):=fun _ _ _ H _ I h=>Constant_bool ⟨.bl b,H,I,rfl,h⟩
theorem pe_non {j pos}:PE X (.Constant .none j pos) (tC .non):=fun _ _ _ H _ I h=>Constant_none ⟨.non,H,I,rfl,h⟩
theorem pe_str {x j pos}:PE X (.Constant (.str x) j pos) (tC (.str x)):=fun _ _ _ H _ I h=>Calls.Constant_str ⟨.str x,H,I.tok _,⟨_,rfl⟩,h⟩
def Gl (X:Cx) (x:Str):Prop:=X.env.kindOf x=some .globalImplicit
theorem ld_glob {E:Value->Shared->Prop} {pins:List (Addr×Obj)} {s:Shared} {σ:St} {H:Hp} {x:Str} {u:Value} {pos:Pos} {Q:Value->Shared->Prop} (I:Inv X pins σ H s) (hg:Gl X x) (hm:X.mg x=some u) (h:Q u s)
 (hd:(x == ("__debug__" : Str))=false:=by decide):wpAny (model X.prog X.w) X.A (eval (.Name x pos) X.env) Q E s:=
 Calls.Name_function_global I.ok.kind hg (Calls.loadGlobal_global (by rw [I.ok.glob];exact I.mod.glob.keeps I.bk) hm h) hd
theorem ld_blt {E:Value->Shared->Prop} {pins:List (Addr×Obj)} {s:Shared} {σ:St} {H:Hp} {x:Str} {u:Value} {pos:Pos} {Q:Value->Shared->Prop} (I:Inv X pins σ H s) (hg:Gl X x) (hm:X.mg x=none) (hv:bootBuiltins x=some u) (h:Q u s)
 (hn:x ≠ "__name__":=by decide) (hd:(x == ("__debug__" : Str))=false:=by decide):wpAny (model X.prog X.w) X.A (eval (.Name x pos) X.env) Q E s:=by
 obtain ⟨mb,h1,h2⟩:=I.mod.blt
 exact Calls.Name_function_global I.ok.kind hg (Calls.loadGlobal_builtin (by rw [I.ok.glob];exact I.mod.glob.keeps I.bk) hm (by rw [I.ok.blt];exact h1.keeps I.bk) ((h2 x hn).trans hv) h) hd
theorem pe_glob {x:Str} {v:V} {u:Value} {pos:Pos} (hg:Gl X x) (hm:X.mg x=some u) (r:RelV v u) (hd:(x == ("__debug__" : Str))=false:=by decide):PE X (.Name x pos) (tC v):=
 fun _ _ _ H _ I h=>ld_glob I hg hm ⟨v,H,I,r,h⟩ hd
theorem pe_bltn {x:Str} {v:V} {u:Value} {pos:Pos} (hg:Gl X x) (hm:X.mg x=none) (hv:bootBuiltins x=some u) (r:RelV v u) (hn:x ≠ "__name__":=by decide) (hd:(x == ("__debug__" : Str))=false:=by decide):PE X (.Name x pos) (tC v):=
 fun _ _ _ H _ I h=>ld_blt I hg hm hv ⟨v,H,I,r,h⟩ hn hd
variable {a b:Expr} {ta tb:TE} {pos:Pos}
def PC (X:Cx) (op:CmpOp) (a b:Expr) (t:TE):Prop:=
 ∀ (pins:List (Addr×Obj)) (s:Shared) (σ:St) (H:Hp) (Q:VK),Inv X pins σ H s->t σ H Q->
   wpAny (model X.prog X.w) X.A (eval a X.env) (fun v s₁=>wpAny (model X.prog X.w) X.A (eval b X.env) (fun u s₂=>wpAny (model X.prog X.w) X.A (compareOp op v u) (EP X pins σ Q) X.xe s₂) X.xe s₁) X.xe s
def tB (t:TE):TT:=fun σ H Q=>t σ H fun x H1=>∃ c,x=.bl c/\Q c H1
theorem pt_cmp {op:CmpOp} {t:TE} (h:PC X op a b t) (h1:behindInMarks op b=false:=by first|exact nobehind _ (by decide) (by decide)|rfl):PT X (.Compare a [op] [b] pos) (tB t):=by
 intro pins s σ H Q I hw
 refine wpAny_isTrue_Compare1 (thn (h pins s σ H _ I hw) fun v s1 h1=>thn h1 fun u s2 h2=>thn h2 fun c s3 ⟨x,H1,I1,r1,q1⟩=>?_) h1
 obtain ⟨d,rfl,q⟩:=q1
 cases r1
 exact wpAny_truthy_bool ⟨H1,I1,q⟩
theorem pt_val {e:Expr} {t:TE} (h:PE X e t) (he:∀ whole,isTrue e X.env whole=(do let v ← whole;standAt e.pos;holding [v] (truthy v)):=by intro _;rfl):PT X e (tB t):=by
 intro pins s σ H Q I hw
 refine isTrue_plain (thn (h pins s σ H _ I hw) fun v s1 ⟨x,H1,I1,r1,q1⟩=>?_) (he _)
 obtain ⟨d,rfl,q⟩:=q1
 cases r1
 exact wpAny_truthy_bool ⟨H1,I1,q⟩
variable {tA tB':TT} {rest:List Expr}
def tAnd (t u:TT):TT:=fun σ H Q=>t σ H fun c H1=>if c=true then u σ H1 Q else Q false H1
def tOr (t u:TT):TT:=fun σ H Q=>t σ H fun c H1=>if c=true then Q true H1 else u σ H1 Q
def tNot (t:TT):TT:=fun σ H Q=>t σ H fun c H1=>Q (!c) H1
theorem pw_and1 (ha:PT X a tA):PW X (.BoolOp .And [a] pos) tA:=by
 intro wh pins s σ H Q I h
 refine isTrue_and (thn (ha pins s σ H Q I h) fun c s1 e=>?_)
 cases c with
 |true=>exact isTrue_and_nil e
 |false=>exact e
theorem pw_or1 (ha:PT X a tA):PW X (.BoolOp .Or [a] pos) tA:=by
 intro wh pins s σ H Q I h
 refine isTrue_or (thn (ha pins s σ H Q I h) fun c s1 e=>?_)
 cases c with
 |false=>exact isTrue_or_nil e
 |true=>exact e
theorem pw_and (ha:PT X a tA) (hb:PW X (.BoolOp .And (b::rest) pos) tB'):PW X (.BoolOp .And (a::b::rest) pos) (tAnd tA tB'):=by
 intro wh pins s σ H Q I h
 refine isTrue_and (thn (ha pins s σ H _ I h) fun c s1 ⟨H1,I1,q1⟩=>?_)
 cases c with
 |true=>exact hb wh pins s1 σ H1 Q I1 q1
 |false=>exact ⟨H1,I1,q1⟩
theorem pw_or (ha:PT X a tA) (hb:PW X (.BoolOp .Or (b::rest) pos) tB'):PW X (.BoolOp .Or (a::b::rest) pos) (tOr tA tB'):=by
 intro wh pins s σ H Q I h
 refine isTrue_or (thn (ha pins s σ H _ I h) fun c s1 ⟨H1,I1,q1⟩=>?_)
 cases c with
 |true=>exact ⟨H1,I1,q1⟩
 |false=>exact hb wh pins s1 σ H1 Q I1 q1
theorem pt_not (ha:PT X a tA):PT X (.UnaryOp .Not a pos) (tNot tA):=by
 intro pins s σ H Q I h
 exact isTrue_not (ha pins s σ H (fun c H1=>Q (!c) H1) I h)
def tAndV (ta tb:TE):TE:=fun σ H Q=>ta σ H fun x H1=>∃ c,x=.bl c/\if c=true then tb σ H1 Q else Q (.bl false) H1
theorem pe_one {op} {t:TE} (h:PE X a t):PE X (.BoolOp op [a] pos) t:=fun pins s σ H Q I hw=>BoolOp_one (h pins s σ H Q I hw)
theorem pe_and (ha:PE X a ta) (hb:PE X (.BoolOp .And (b::rest) pos) tb):PE X (.BoolOp .And (a::b::rest) pos) (tAndV ta tb):=by
 intro pins s σ H Q I h
 refine BoolOp_and (thn (ha pins s σ H _ I h) fun v s1 ⟨x,H1,I1,r1,q1⟩=>?_)
 obtain ⟨c,rfl,q1⟩:=q1
 cases r1
 refine wpAny_truthy_bool ?_
 cases c with
 |true=>exact hb pins s1 σ H1 Q I1 q1
 |false=>exact ⟨.bl false,H1,I1,rfl,q1⟩
def tIf (t:TT) (ta tb:TE):TE:=fun σ H Q=>t σ H fun c H1=>if c=true then ta σ H1 Q else tb σ H1 Q
theorem pe_ifExp {c:Expr} (hc:PT X c tA) (ha:PE X a ta) (hb:PE X b tb):PE X (.IfExp c a b pos) (tIf tA ta tb):=by
 intro pins s σ H Q I h
 refine wpAny_IfExp (thn (hc pins s σ H _ I h) fun d s1 ⟨H1,I1,q1⟩=>?_)
 cases d with
 |true=>exact ha pins s1 σ H1 Q I1 q1
 |false=>exact hb pins s1 σ H1 Q I1 q1
end
def SqL (K:PySem.W.Frag) (H:Hp) (a:Addr) (xs:List V):Prop:=
 Rd H a (.lst xs)∨
  ∃ (o:Obj) (its:Array Value) (n:Nat),K.lookup a=some o/\o.cls=.type "list"/\o.dict=none/\o.data=.seq its n/\its.size≤sizeLine/\Vals xs its.toList
def SqT (K:PySem.W.Frag) (H:Hp) (a:Addr) (xs:List V):Prop:=
 Rd H a (.tup xs)∨
  ∃ (o:Obj) (its:Array Value) (n:Nat),K.lookup a=some o/\o.cls=.type "tuple"/\o.data=.seq its n/\its.size≤sizeLine/\Vals xs its.toList
def absV:Value->Option V
 |.none=>some .non
 |.bool b=>some (.bl b)
 |.int i _=>some (.int i)
 |.str x _=>some (.str x)
 |.bytes b _=>some (.byt b)
 |.float b _=>some (.flt b)
 |.ref a=>some (.ref a)
 |.type n=>some (.ty n)
 |_=>none
theorem RelV.abs {x:V} {u:Value} (r:RelV x u):absV u=some x:=by
 cases x with
 |non=>cases r;rfl
 |bl _=>cases r;rfl
 |int _=>obtain ⟨t,rfl⟩:=r;rfl
 |str _=>obtain ⟨t,rfl⟩:=r;rfl
 |byt _=>obtain ⟨t,rfl⟩:=r;rfl
 |flt _=>obtain ⟨t,rfl⟩:=r;rfl
 |ref _=>cases r;rfl
 |ty _=>cases r;rfl
theorem RelV.inj {x y:V} {u:Value} (r:RelV x u) (q:RelV y u):x=y:=Option.some.inj (r.abs.symm.trans q.abs)
theorem Vals.inj:∀ {xs ys:List V} {us:List Value},Vals xs us->Vals ys us->xs=ys
 |_,_,_,.nil,.nil=>rfl
 |_,_,_,.cons r t,.cons r' t'=>by rw [r.inj r',Vals.inj t t']
section
variable {X:Cx} {pins:List (Addr×Obj)} {σ:St} {H:Hp} {s:Shared} {a:Addr} {xs ys:List V}
theorem SqL.of {K:PySem.W.Frag} (h:H a=some (.lst xs)):SqL K H a xs:=.inl (.inl h)
theorem SqT.of {K:PySem.W.Frag} (h:H a=some (.tup xs)):SqT K H a xs:=.inl (.inl h)
theorem Inv.list (I:Inv X pins σ H s) (h:SqL X.K H a xs):∃ its:List Value,Vals xs its/\PlainL s.heap a its.toArray/\xs.length≤sizeLine:=by
 rcases h with h|⟨o,its,n,hk,hc,hd,hs,hz,r⟩
 ·obtain ⟨z,its,n,r,e⟩:=h.ok I.hok
  exact ⟨its,r,⟨_,n,e,rfl,rfl,rfl⟩,z⟩
 ·refine ⟨its.toList,r,⟨o,n,I.kIn a o hk,hc,hd,by simpa using hs⟩,?_⟩
  have e:=r.length
  simp only [Array.length_toList] at e
  omega
theorem Inv.tuple (I:Inv X pins σ H s) (h:SqT X.K H a xs):∃ its:List Value,Vals xs its/\IsTup s.heap a its.toArray/\xs.length≤sizeLine:=by
 rcases h with h|⟨o,its,n,hk,hc,hs,hz,r⟩
 ·obtain ⟨z,its,r,p⟩:=h.ok I.hok
  exact ⟨its,r,p,z⟩
 ·refine ⟨its.toList,r,⟨o,I.kIn a o hk,hc,n,by simpa using hs⟩,?_⟩
  have e:=r.length
  simp only [Array.length_toList] at e
  omega
theorem Inv.list_inj (I:Inv X pins σ H s) (h:SqL X.K H a xs) (h':SqL X.K H a ys):xs=ys:=by
 obtain ⟨its,r,⟨o,n,e,_,_,d⟩,_⟩:=I.list h
 obtain ⟨its',r',⟨o',n',e',_,_,d'⟩,_⟩:=I.list h'
 rw [e] at e';cases e'
 rw [d] at d'
 injection d' with d1 _
 have:its=its':=by simpa using congrArg Array.toList d1
 subst this
 exact r.inj r'
theorem Inv.tuple_inj (I:Inv X pins σ H s) (h:SqT X.K H a xs) (h':SqT X.K H a ys):xs=ys:=by
 obtain ⟨its,r,⟨o,e,_,n,d⟩,_⟩:=I.tuple h
 obtain ⟨its',r',⟨o',e',_,n',d'⟩,_⟩:=I.tuple h'
 rw [e] at e';cases e'
 rw [d] at d'
 injection d' with d1 _
 have:its=its':=by simpa using congrArg Array.toList d1
 subst this
 exact r.inj r'
end
abbrev Cx.wish (X:Cx) (E:Value->Shared->Prop):Cx:={ X with xe:=E }
abbrev Cx.nox (X:Cx):Cx:=X.wish fun _ _=>False
theorem Cx.Ok.wish {X:Cx} (ok:X.Ok) (E:Value->Shared->Prop):(X.wish E).Ok:=
 ⟨ok.mod,ok.kind,ok.glob,ok.blt,ok.above,ok.inj,ok.has,ok.cab,ok.hd,ok.frames,ok.stk,ok.exf,ok.bs,ok.bsz,ok.noex,ok.exfs,ok.funs,ok.frf⟩
theorem Cx.Ok.unwish {X:Cx} {E:Value->Shared->Prop} (ok:(X.wish E).Ok):X.Ok:=
 ⟨ok.mod,ok.kind,ok.glob,ok.blt,ok.above,ok.inj,ok.has,ok.cab,ok.hd,ok.frames,ok.stk,ok.exf,ok.bs,ok.bsz,ok.noex,ok.exfs,ok.funs,ok.frf⟩
section
variable {X:Cx} {pins:List (Addr×Obj)} {σ:St} {H:Hp} {s:Shared} {E:Value->Shared->Prop}
theorem Inv.wish (I:Inv X pins σ H s) (E:Value->Shared->Prop):Inv (X.wish E) pins σ H s:=⟨I.ok.wish E,I.os,I.bare,I.base,I.loc,I.cell,I.free,I.freeC,I.pin,I.hok,I.len⟩
theorem Inv.unwish (I:Inv (X.wish E) pins σ H s):Inv X pins σ H s:=⟨I.ok.unwish,I.os,I.bare,I.base,I.loc,I.cell,I.free,I.freeC,I.pin,I.hok,I.len⟩
theorem SP.unwish {D:Ends} {f:Flow} {s':Shared} (h:SP (X.wish E) pins D f s'):SP X pins D f s':=by
 cases f with
 |next=>obtain ⟨σ',H',I,q⟩:=h;exact ⟨σ',H',I.unwish,q⟩
 |brk=>obtain ⟨σ',H',I,q⟩:=h;exact ⟨σ',H',I.unwish,q⟩
 |cont=>obtain ⟨σ',H',I,q⟩:=h;exact ⟨σ',H',I.unwish,q⟩
 |ret u=>obtain ⟨v,σ',H',I,r,q⟩:=h;exact ⟨v,σ',H',I.unwish,r,q⟩
theorem PSs.nox {st:List Stmt} {t:TS} (h:PSs X.nox st t):PSs X st t:=fun pins s σ H D I hw=>
 wpAny_mono (h pins s σ H D (I.wish _) hw) (fun _ _ q=>q.unwish) fun _ _ z=>False.elim z
end
section
variable {X:Cx} {st:Stmt} {rest:List Stmt} {t u:TS} {e:Expr} {te:TE} {pos:Pos}
def tNext:TS:=fun D σ H=>D.nx σ H
def tSeq (t u:TS):TS:=fun D σ H=>t { D with nx:=u D } σ H
theorem pss_nil:PSs X [] tNext:=fun _ _ σ H _ I h=>wpAny_execs_nil ⟨σ,H,I,h⟩
theorem pss_cons (h1:PS X st t) (h2:PSs X rest u):PSs X (st::rest) (tSeq t u):=by
 intro pins s σ H D I h
 refine wpAny_execs_cons (thn (h1 pins s σ H { D with nx:=u D } I h) fun f s1 q=>?_)
 cases f with
 | next=>
   obtain ⟨σ',H',I',q⟩:=q
   exact h2 pins s1 σ' H' D I' q
 |ret v=>exact q
 |brk=>exact q
 |cont=>exact q
theorem pss_one (h1:PS X st t):PSs X [st] t:=by
 intro pins s σ H D I h
 refine wpAny_execs_cons (thn (h1 pins s σ H D I h) fun f s1 q=>?_)
 cases f with
 |next=>exact wpAny_execs_nil q
 |ret v=>exact q
 |brk=>exact q
 |cont=>exact q
def tBreak:TS:=fun D σ H=>D.bk σ H
theorem ps_break:PS X (.Break pos) tBreak:=fun _ _ σ H _ I h=>wpAny_Break ⟨σ,H,I,h⟩
theorem Inv.quiet {pins:List (Addr×Obj)} {σ:St} {H:Hp} {s:Shared} (I:Inv X pins σ H s):interactive X.env=false:=by simp [interactive,I.ok.kind]
def tDrop (te:TE):TS:=fun D σ H=>te σ H fun _ H1=>D.nx σ H1
theorem ps_expr (he:PE X e te) (hs:swapsWith e none pos.line X.env=pure false:=by rfl):PS X (.Expr e pos) (tDrop te):=by
 intro pins s σ H D I h
 exact wpAny_Expr_any (thn (he pins s σ H _ I h) fun v s1 ⟨x,H1,I1,r1,q1⟩=>⟨σ,H1,I1,q1⟩) I.quiet hs
def tRet (te:TE):TS:=fun D σ H=>te σ H D.rt
theorem ps_ret (he:PE X e te):PS X (.Return (some e) pos) (tRet te):=by
 intro pins s σ H D I h
 exact wpAny_Return_some (thn (he pins s σ H _ I h) fun v s1 ⟨x,H1,I1,r1,q1⟩=>⟨x,σ,H1,I1,r1,q1⟩)
def tIfS (c:TT) (t u:TS):TS:=fun D σ H=>c σ H fun b H1=>if b=true then t D σ H1 else u D σ H1
theorem ps_if {c:Expr} {a b:List Stmt} {tc:TT} (hc:PT X c tc) (ha:PSs X a t) (hb:PSs X b u):PS X (.If c a b pos) (tIfS tc t u):=by
 intro pins s σ H D I h
 refine wpAny_If (thn (hc pins s σ H _ I h) fun d s1 ⟨H1,I1,q1⟩=>?_)
 cases d with
 |true=>exact ha pins s1 σ H1 D I1 q1
 |false=>exact hb pins s1 σ H1 D I1 q1
def tNever:TS:=fun _ _ _=>False
theorem ps_never:PS X st tNever:=fun _ _ _ _ _ _ h=>h.elim
end
abbrev TG:=V->St->Hp->(St->Hp->Prop)->Prop
abbrev TGs:=List V->St->Hp->(St->Hp->Prop)->Prop
def PG (X:Cx) (target:Expr) (t:TG):Prop:=
 ∀ (pins:List (Addr×Obj)) (s:Shared) (σ:St) (H:Hp) (v:V) (u:Value) (Q:St->Hp->Prop),Inv X pins σ H s->RelV v u->t v σ H Q->
   wpAny (model X.prog X.w) X.A (assign target X.env u) (fun _ s'=>∃ σ' H',Inv X pins σ' H' s'/\Q σ' H') X.xe s
def PGs (X:Cx) (ts:List Expr) (t:TGs):Prop:=
 ∀ (pins:List (Addr×Obj)) (s:Shared) (σ:St) (H:Hp) (vs:List V) (us:List Value) (Q:St->Hp->Prop),Inv X pins σ H s->Vals vs us->t vs σ H Q->
   wpAny (model X.prog X.w) X.A (assignInOrder ((assignEach ts X.env).map (·.2)) us) (fun _ s'=>∃ σ' H',Inv X pins σ' H' s'/\Q σ' H') X.xe s
section
variable {X:Cx} {pos:Pos}
def gName (i:Nat):TG:=fun v σ H Q=>Q (σ.set i (some v)) H
theorem pg_name {i:Nat} {x:Str} (hN:X.N.Nodup) (hi:X.N[i]?=some x) (hx:Loc X.env.scope x) (hf:X.fn x=true∨X.env.scope.names.lookup x=some .local:=by first|exact .inl rfl|exact .inr rfl|assumption):PG X (.Name x pos) (gName i):=by
 intro pins s σ H v u Q I r h
 exact wpAny_assign_Name (store_ok I hN hi hx r (fun s' I'=>⟨_,H,I',h⟩) hf)
def gNil:TGs:=fun vs σ H Q=>vs=[]/\Q σ H
def gCons (t:TG) (u:TGs):TGs:=fun vs σ H Q=>∃ v r,vs=v::r/\t v σ H fun σ' H'=>u r σ' H' Q
theorem pgs_nil:PGs X [] gNil:=by
 intro pins s σ H vs us Q I r h
 obtain ⟨e,h⟩:=h
 subst e
 cases r
 exact assignInOrder_nil ⟨σ,H,I,h⟩
theorem pgs_cons {e:Expr} {es:List Expr} {t:TG} {u:TGs} (h1:PG X e t) (h2:PGs X es u)
 (hs:(assignEach (e::es) X.env).map (·.2)=assign e X.env::(assignEach es X.env).map (·.2):=by rfl):PGs X (e::es) (gCons t u):=by
 intro pins s σ H vs us Q I r h
 obtain ⟨v,vr,e1,h⟩:=h
 subst e1
 cases r with
 | cons r rr=>
   rw [hs]
   refine assignInOrder_cons (thn (h1 pins s σ H _ _ _ I r h) fun _ s1 ⟨σ1,H1,I1,q1⟩=>?_)
   exact h2 pins s1 σ1 H1 _ _ Q I1 rr q1
def gTup (K:PySem.W.Frag) (n:Nat) (t:TGs):TG:=fun v σ H Q=>∃ a xs,v=.ref a/\SqT K H a xs/\xs.length=n/\t xs σ H Q
theorem pg_tup {es:List Expr} {k:Nat} {t:TGs} {n:Nat} (hc:X.calm=true) (h:PGs X es t)
 (hn:(assignEach es X.env).length=n:=by rfl) (hst:(assignEach es X.env).findIdx? (·.1)=none:=by rfl):PG X (.Tuple es k pos) (gTup X.K n t):=by
 intro pins s σ H v u Q I r hw
 obtain ⟨a,xs,e1,hq,hl,hw⟩:=hw
 subst e1
 cases r
 obtain ⟨its,rv,ht,hz⟩:=I.tuple hq
 refine assign_Tuple_tuple (I.ok.hd hc) ht (by simp [hn,← hl,rv.length]) hst fun h' hx=>?_
 have I1:Inv X pins σ H { s with heap:=h' }:=I.kept (t':=s.toks) fun b o e=>hx b o (Nat.ne_of_lt (Heap.lt_size e)) e
 exact h pins _ σ H xs _ Q I1 (by simpa using rv) hw
def tAsg (te:TE) (g:TG):TS:=fun D σ H=>te σ H fun x H1=>g x σ H1 D.nx
theorem ps_asg {tg e:Expr} {te:TE} {g:TG} (he:PE X e te) (hg:PG X tg g) (hs:swapsWithSole [tg] e pos.line X.env=pure false:=by rfl) (hw:swappedStores [tg] e X.env=pure none:=by rfl)
 (h1:(assignEach [tg] X.env).map (·.2)=[assign tg X.env]:=by rfl):PS X (.Assign [tg] e pos) (tAsg te g):=by
 intro pins s σ H D I h
 refine wpAny_Assign_stores (thn (he pins s σ H _ I h) fun v s1 ⟨x,H1,I1,r1,q1⟩=>?_) hs hw
 rw [h1]
 exact thn (hg pins s1 σ H1 x v _ I1 r1 q1) fun _ s2 q=>q
theorem ps_set {i:Nat} {x:Str} {e:Expr} {te:TE} {pos':Pos} (hN:X.N.Nodup) (hi:X.N[i]?=some x) (hx:Loc X.env.scope x) (he:PE X e te) (hs:swapsWith e (some (.Name x pos')) pos.line X.env=pure false:=by rfl) (hf:X.fn x=true∨X.env.scope.names.lookup x=some .local:=by first|exact .inl rfl|exact .inr rfl|assumption) :
 PS X (.Assign [.Name x pos'] e pos) (tAsg te (gName i)):=by
 intro pins s σ H D I h
 refine wpAny_Assign_Name (thn (he pins s σ H _ I h) fun v s1 ⟨y,H1,I1,r1,q1⟩=>?_) hs
 exact store_ok I1 hN hi hx r1 (fun s2 I2=>⟨_,H1,I2,q1⟩) hf
def tPar (i j:Nat) (ta:TA):TS:=fun D σ H=>ta σ H fun vs H1=>∃ v w,vs=[v,w]/\D.nx ((σ.set i (some v)).set j (some w)) H1
theorem ps_par {i j:Nat} {x y:Str} {a b:Expr} {ta:TA} {px py pt:Pos} {kt k2 pt2} (hc:X.calm=true) (hN:X.N.Nodup) (hi:X.N[i]?=some x) (hj:X.N[j]?=some y) (hij:i≠j)
 (hx:X.env.scope.names.lookup x=some .local) (hy:X.env.scope.names.lookup y=some .local) (ha:PA X [a,b] ta)
 (hw:swappedStores [.Tuple [.Name x px,.Name y py] kt pt] (.Tuple [a,b] k2 pt2) X.env=pure (some [x,y]))
 (hs:swapsWithSole [.Tuple [.Name x px,.Name y py] kt pt] (.Tuple [a,b] k2 pt2) pos.line X.env=pure false:=by rfl) :
 PS X (.Assign [.Tuple [.Name x px,.Name y py] kt pt] (.Tuple [a,b] k2 pt2) pos) (tPar i j ta):=by
 intro pins s σ H D I h
 rw [exec_Assign_arm]
 refine wpAny_bind (wpAny_standAt ?_)
 rw [hs]
 refine wpAny_bind (wpAny_pure ?_)
 rw [if_neg (by decide)]
 refine wpAny_bind (Tuple_ (thn (ha _ pins s σ H _ I h) fun us s1 ⟨vs,H1,I1,r1,q1⟩=>?_))
 obtain ⟨v,w,e1,q1⟩:=q1
 subst e1
 obtain ⟨u1,u2,rfl,rv,rw'⟩:∃ u1 u2,us=[u1,u2]/\RelV v u1/\RelV w u2:=by
  cases r1 with
  | cons p q=>
    cases q with
    | cons p' q'=>
      cases q'
      exact ⟨_,_,rfl,p,p'⟩
 refine wpAny_newObj_type ?_ (by show 2≤sizeLine;decide)
 have I2:Inv X pins σ H1 { s1 with heap:=s1.heap.push { cls:=.type "tuple",data:=.seq [u1,u2].toArray } }:=I1.kept (t':=s1.toks) fun b o e=>Heap.get?_push_of_some _ e
 rw [hw]
 refine wpAny_bind (wpAny_pure ?_)
 show wpAny (model X.prog X.w) X.A (do rule "assign.swapped-stores";let items ← unpackItems (.ref s1.heap.objs.size) 2 none;assignInOrder [fun v=>bindName X.env y v,fun v=>bindName X.env x v] items.reverse;pure Flow.next) _ _ _
 refine wpAny_bind (wpAny_rule (wpAny_bind (unpackItems_tuple (items:=#[u1,u2]) (I.ok.hd hc) (IsTup.new s1.heap _) fun h' hx'=>?_)))
 have I3:=I2.kept (h':=h') (t':=s1.toks) fun b o e=>hx' b o (Nat.ne_of_lt (Heap.lt_size e)) e
 show wpAny _ _ (assignInOrder [fun v=>bindName X.env y v,fun v=>bindName X.env x v] [u2,u1] >>= fun _=>pure Flow.next) _ _ _
 refine wpAny_bind (assignInOrder_cons (wpAny_bindName (store_ok I3 hN hj (.inl hy) rw' (fun s2 I4=>?_) (.inr hy))))
 refine assignInOrder_cons (wpAny_bindName (store_ok I4 hN hi (.inl hx) rv (fun s3 I5=>assignInOrder_nil (wpAny_pure ?_)) (.inr hx)))
 rw [List.set_comm _ _ (Ne.symm hij)] at I5
 exact ⟨_,H1,I5,q1⟩
end
section
variable {X:Cx} {pos:Pos}
def tWhile (c:TT) (tb:TS):TS:=fun D σ H=>∃ W:Nat->St->Hp->Prop,(∃ m,W m σ H)/\∀ m σ H,W m σ H->
 c σ H fun b H1=>if b=true then ∃ N:St->Hp->Prop,(∀ σ' H',N σ' H'->∃ m',m'<m/\W m' σ' H')/\tb { D with nx:=N,ct:=N,bk:=D.nx } σ H1 else D.nx σ H1
theorem ps_while {c:Expr} {body:List Stmt} {tc:TT} {tb:TS} (hp:PassesOwn (model X.prog X.w) X.A X.env X.xe) (hc:PT X c tc) (hb:PSs X body tb):PS X (.While c body [] pos) (tWhile tc tb):=by
 intro pins s σ H D I h
 obtain ⟨W,⟨m0,w0⟩,turn⟩:=h
 refine wpAny_While (codeAny_whileLoop (fun n s'=>∃ σ' H',Inv X pins σ' H' s'/\W n σ' H') ?_ m0 ⟨σ,H,I,w0⟩)
 rintro n s1 ⟨σ1,H1,I1,w1⟩
 refine wpAny_passesOwn hp (thn (hc pins s1 σ1 H1 _ I1 (turn n σ1 H1 w1)) fun b s2 ⟨H2,I2,q2⟩=>?_)
 cases b with
 | true=>
   obtain ⟨N,hN,q2⟩:=q2
   rw [if_pos rfl]
   refine wpAny_passesOwn hp (thn (hb pins s2 σ1 H2 _ I2 q2) fun f s3 q3=>?_)
   cases f with
   | next=>
     obtain ⟨σ3,H3,I3,n3⟩:=q3
     obtain ⟨m',hm,w3⟩:=hN σ3 H3 n3
     exact ⟨m',hm,σ3,H3,I3,w3⟩
   | cont=>
     obtain ⟨σ3,H3,I3,n3⟩:=q3
     obtain ⟨m',hm,w3⟩:=hN σ3 H3 n3
     exact ⟨m',hm,σ3,H3,I3,w3⟩
   |brk=>exact q3
   |ret v=>exact q3
 | false=>
   rw [if_neg Bool.false_ne_true]
   exact wpAny_execs_nil ⟨σ1,H2,I2,q2⟩
end
structure It where
 go:Nat->Hp->Prop
 yld:Nat->Hp->V->Hp->Prop
 stop:Nat->Hp->Prop
def FpOk (X:Cx) (pins:List (Addr×Obj)) (H:Hp) (b:Addr):Prop:=
 H b=none/\b≠X.env.locals/\b∉X.fs/\(b∈X.ex∨X.s₀.heap.objs.size≤b)/\(∀ x c,X.env.cells.lookup x=some c->c≠b)/\∀ p∈X.pn++pins,p.1≠b
theorem Inv.fpOk {X:Cx} {pins:List (Addr×Obj)} {σ:St} {H H':Hp} {s:Shared} {b:Addr} (I:Inv X pins σ H s) (hb:s.heap.objs.size≤b) (hn:H' b=none):FpOk X pins H' b:=by
 refine ⟨hn,Nat.ne_of_gt (Nat.lt_of_lt_of_le I.lt hb),I.nofs hb,.inr (Nat.le_trans I.sz hb),fun x c e z=>?_,fun p hp z=>?_⟩
 ·obtain ⟨v,q⟩:=I.cell x c e
  exact absurd (Nat.lt_of_lt_of_le q.lt (by rw [z];exact hb)) (Nat.lt_irrefl _)
 ·exact absurd (Nat.lt_of_lt_of_le (Heap.lt_size (I.pin p hp).1) (by rw [z];exact hb)) (Nat.lt_irrefl _)
structure Turn (P:Program) (w:World) (K:PySem.W.Frag) (tg:Expr) (J:It) (fp:List Addr) (it:Addr) (tn:Nat->Heap->Prop):Prop where
 mem:it∈fp
 obj:∀ i h,tn i h->∀ b∈fp,∃ o,h.get? b=some o/\∀ v,o.data≠.cell v
 keep:∀ i h h',tn i h->(∀ b∈fp,∀ o,h.get? b=some o->h'.get? b=some o)->tn i h'
 item:∀ (X:Cx),X.prog=P->X.w=w->X.K=K->X.calm=true->∀ (i:Nat) (pins:List (Addr×Obj)) (s:Shared) (σ:St) (H:Hp) (E:Value->Shared->Prop),Inv X pins σ H s->(∀ b∈fp,FpOk X pins H b)->tn i s.heap->J.go i H->
  wpAny (model P w) X.A (pyNext (.ref it)) (fun r s1=>∃ u,r=some u/\
   wpAny (model P w) X.A (letOwnedTupleGo tg (.ref it) u) (fun _ s2=>∃ x H',Inv X pins σ H' s2/\RelV x u/\J.yld i H x H'/\tn (i+1) s2.heap/\∀ b∈fp,H' b=none) E s1) E s
 done:∀ (X:Cx),X.prog=P->X.w=w->X.K=K->X.calm=true->∀ (i:Nat) (pins:List (Addr×Obj)) (s:Shared) (σ:St) (H:Hp) (E:Value->Shared->Prop),Inv X pins σ H s->(∀ b∈fp,FpOk X pins H b)->tn i s.heap->J.stop i H->
  wpAny (model P w) X.A (pyNext (.ref it)) (fun r s1=>r=none/\Inv X pins σ H s1) E s
 self:∀ (A:Around) (i:Nat) (s:Shared) (Q:Value->Shared->Prop) (E:Value->Shared->Prop),tn i s.heap->Q (.ref it) s->wpAny (model P w) A (pyIter (.ref it)) Q E s
abbrev TI:=St->Hp->(It->Hp->Prop)->Prop
def PIE (X:Cx) (pins:List (Addr×Obj)) (σ:St) (tg:Expr) (R:It->Hp->Prop) (itv:Value) (s2:Shared):Prop:=
 ∃ (it:Addr) (fp:List Addr) (tn:Nat->Heap->Prop) (J:It) (H':Hp),itv=.ref it/\Inv X pins σ H' s2/\Turn X.prog X.w X.K tg J fp it tn/\tn 0 s2.heap/\(∀ b∈fp,FpOk X pins H' b)/\R J H'
def PI (X:Cx) (tg iter:Expr) (wi:TI):Prop:=
 ∀ (pins:List (Addr×Obj)) (s:Shared) (σ:St) (H:Hp) (R:It->Hp->Prop),Inv X pins σ H s->wi σ H R->
   wpAny (model X.prog X.w) X.A (eval iter X.env) (fun v s1=>wpAny (model X.prog X.w) X.A (pyIter v) (PIE X pins σ tg R) X.xe s1) X.xe s
theorem go_of {M:Model} {A:Around} {E:Value->Shared->Prop} {s:Shared} {tg:Expr} {it:Addr} {u:Value} {o:Obj} {n:String} {vs:Array Value} {Q:Unit->Shared->Prop} (ho:s.heap.get? it=some o) (hc:o.cls=.type n) (hd:o.data=.fields vs)
 (hn:["enumerate","zip","dict_itemiterator","dict_reverseitemiterator","odict_iterator","itertools.zip_longest","itertools.pairwise"].contains n=false) (hQ:Q () s):wpAny M A (letOwnedTupleGo tg (.ref it) u) Q E s:=by
 unfold letOwnedTupleGo
 cases tg <;> first
  |exact wpAny_pure hQ
  |(cases u <;> first
   |exact wpAny_pure hQ
   | (refine wpAny_bind (wpAny_load ho ?_)
      rw [hc,hd]
      show wpAny M A (if (["enumerate","zip","dict_itemiterator","dict_reverseitemiterator","odict_iterator","itertools.zip_longest","itertools.pairwise"].contains n && vs[0]? == some (rawInt _))=true then _ else _) Q E s
      rw [if_neg (by intro h;rw [hn,Bool.false_and] at h;cases h)]
      exact wpAny_pure hQ))
def Itl (K:PySem.W.Frag) (a:Addr):It:=
 ⟨fun i H=>∃ xs x,SqL K H a xs/\xs[i]?=some x,fun i H x H'=>H'=H/\∀ xs,SqL K H a xs->xs[i]?=some x,fun i H=>∃ xs,SqL K H a xs/\xs.length≤i⟩
def Itr (lo:Int) (n:Nat):It:=⟨fun i _=>i<n,fun i H x H'=>H'=H/\x=.int (lo+i),fun i _=>n≤i⟩
theorem turn_list {P:Program} {w:World} {K:PySem.W.Frag} {tg:Expr} (a it:Addr):Turn P w K tg (Itl K a) [it] it (fun i h=>h.IsListIter it a i) where
 mem:=by simp
 obj:=fun i h st b hb=>by
  have e:b=it:=by simpa using hb
  subst e
  obtain ⟨o,e,c,d⟩:=st
  exact ⟨o,e,fun v z=>by rw [d] at z;cases z⟩
 keep:=fun i h h' st k=>st.at fun o e=>k it (by simp) o e
 item:=by
  intro X hP hw hK hc i pins s σ H E I hf st hg
  subst hP hw hK
  obtain ⟨xs,x,hq,hx⟩:=hg
  obtain ⟨its,rv,p,hz⟩:=I.list hq
  obtain ⟨u,hu,ru⟩:=rv.get hx
  obtain ⟨f0,f1,f2,f3,f4,f5⟩:=hf it (by simp)
  refine wpAny_pyNext_list_item st p.isList (x:=u) (by simpa using hu) fun h' st' sb=>?_
  have I1:Inv X pins σ H { s with heap:=h' }:=I.turned (t':=s.toks) (fun b o hb e=>(sb.2 b hb).trans e) f0 f1 f3 f4 f5
  obtain ⟨o,e,c,d⟩:=id st'
  exact ⟨u,rfl,go_of (s:={ s with heap:=h' }) e c d (by decide) ⟨x,H,I1,ru,⟨rfl,fun ys hy=>by rw [I.list_inj hy hq];exact hx⟩,st',fun b hb=>(hf b hb).1⟩⟩
 done:=by
  intro X hP hw hK hc i pins s σ H E I hf st hg
  subst hP hw hK
  obtain ⟨xs,hq,hx⟩:=hg
  obtain ⟨its,rv,p,hz⟩:=I.list hq
  obtain ⟨f0,f1,f2,f3,f4,f5⟩:=hf it (by simp)
  have hl:=rv.length
  exact wpAny_pyNext_list_end (I.ok.hd hc) st p.isList (by simp;omega) fun h' eb=>⟨rfl,I.turned (t':=s.toks) (fun b o hb e=>eb b o hb e) f0 f1 f3 f4 f5⟩
 self:=fun _ _ _ _ _ st h=>wpAny_pyIter_listiter st h
theorem turn_range {P:Program} {w:World} {K:PySem.W.Frag} {tg:Expr} (it:Addr) (lo:Int) (n:Nat):Turn P w K tg (Itr lo n) [it] it (fun i h=>IsRangeIter h it (lo+(i:Nat)*1) ((n:Int)-(i:Nat)) 1) where
 mem:=by simp
 obj:=fun i h st b hb=>by
  have e:b=it:=by simpa using hb
  subst e
  exact ⟨_,st,fun v z=>by
   have z':Data.fields _=Data.cell v:=z
   cases z'⟩
 keep:=fun i h h' st k=>k it (by simp) _ st
 item:=by
  intro X hP hw hK hc i pins s σ H E I hf st hg
  subst hP hw hK
  obtain ⟨f0,f1,f2,f3,f4,f5⟩:=hf it (by simp)
  have W:=Walks.range (prog:=X.prog) (w:=X.w) (I.ok.hd hc) it lo 1 n
  refine W.item i s _ _ hg st fun v h' tk hv st' kk=>?_
  obtain ⟨t,rfl⟩:=hv
  have I1:Inv X pins σ H { s with heap:=h',toks:=tk }:=I.turned (fun b o hb e=>kk b o (by simpa using hb) e) f0 f1 f3 f4 f5
  refine ⟨_,rfl,go_of (s:={ s with heap:=h',toks:=tk }) (n:="range_iterator") st' rfl rfl (by decide) ⟨.int (lo+i),H,I1,⟨t,?_⟩,⟨rfl,rfl⟩,st',fun b hb=>(hf b hb).1⟩⟩
  rw [Int.mul_one]
 done:=by
  intro X hP hw hK hc i pins s σ H E I hf st hg
  subst hP hw hK
  obtain ⟨f0,f1,f2,f3,f4,f5⟩:=hf it (by simp)
  exact wpAny_pyNext_range_end (I.ok.hd hc) st (by have:n≤i:=hg;omega) fun h' eb=>⟨rfl,I.turned (t':=s.toks) (fun b o hb e=>eb b o hb e) f0 f1 f3 f4 f5⟩
 self:=fun _ _ _ _ _ st h=>wpAny_pyIter_rangeiter st h
section
variable {X:Cx} {tg:Expr}
def iList (K:PySem.W.Frag) (tl:TE):TI:=fun σ H R=>tl σ H fun x H1=>∃ a,x=.ref a/\(∃ xs,SqL K H1 a xs)/\R (Itl K a) H1
theorem pi_list {l:Expr} {tl:TE} (hl:PE X l tl):PI X tg l (iList X.K tl):=by
 intro pins s σ H R I h
 refine thn (hl pins s σ H _ I h) fun v s1 ⟨x,H1,I1,r1,q1⟩=>?_
 obtain ⟨a,e,⟨xs,hq⟩,q⟩:=q1
 subst e
 cases r1
 obtain ⟨its,rv,p,hz⟩:=I1.list hq
 refine wpAny_pyIter_list p.isList ?_
 refine ⟨s1.heap.objs.size,[s1.heap.objs.size],_,_,H1,rfl,I1.kept (t':=s1.toks) fun b o e=>Heap.get?_push_of_some _ e,turn_list a _,⟨_,Heap.get?_push_size _ rfl,rfl,rfl⟩,fun b hb=>?_,q⟩
 have e:b=s1.heap.objs.size:=by simpa using hb
 subst e
 exact I1.fpOk (Nat.le_refl _) (I1.hok.fresh (Nat.le_refl _))
theorem range_it {pins:List (Addr×Obj)} {σ:St} {H:Hp} {s:Shared} {R:It->Hp->Prop} {E:Value->Shared->Prop} {lo hi:Int} {t u v:Tok} {tk:Nat} (I:Inv X pins σ H s) (h1:-(2 ^ 62)≤lo) (h2:lo<2 ^ 62) (h3:-(2 ^ 62)≤hi) (h4:hi<2 ^ 62)
 (q:R (Itr lo (hi-lo).toNat) H):wpAny (model X.prog X.w) X.A (pyIter (.ref s.heap.objs.size)) (PIE X pins σ tg R) E { s with heap:=s.heap.push { cls:=.type "range",data:=.fields #[.int lo t,.int hi u,.int 1 v] },toks:=tk }:=by
 refine wpAny_pyIter_range (IsRange.new ..) (small_one h1 h2 h3 h4) ?_
 have I1:Inv X pins σ H { s with heap:=s.heap.push { cls:=.type "range",data:=.fields #[.int lo t,.int hi u,.int 1 v] },toks:=tk }:=I.kept fun b o e=>Heap.get?_push_of_some _ e
 refine ⟨(s.heap.push { cls:=.type "range",data:=.fields #[.int lo t,.int hi u,.int 1 v] }).objs.size,[(s.heap.push { cls:=.type "range",data:=.fields #[.int lo t,.int hi u,.int 1 v] }).objs.size],_,_,H,rfl,
  I1.kept (t':=tk) fun b o e=>Heap.get?_push_of_some _ e,turn_range _ lo (hi-lo).toNat,?_,fun b hb=>?_,q⟩
 ·have e1:lo+((0:Nat):Int)*1=lo:=by simp
  have e2:(((hi-lo).toNat:Nat):Int)-((0:Nat):Int)=Builtin.Range.rangeSize lo hi 1:=by rw [rangeSize_one];split <;> omega
  show IsRangeIter _ _ (lo+((0:Nat):Int)*1) ((((hi-lo).toNat:Nat):Int)-((0:Nat):Int)) 1
  rw [e1,e2]
  exact Heap.get?_push_size _ rfl
 ·have e:b=(s.heap.push { cls:=.type "range",data:=.fields #[.int lo t,.int hi u,.int 1 v] }).objs.size:=by simpa using hb
  subst e
  exact I1.fpOk (Nat.le_refl _) (I1.hok.fresh (Nat.le_refl _))
def iRng1 (ta:TA):TI:=fun σ H R=>ta σ H fun vs H1=>∃ j:Int,vs=[.int j]/\-(2 ^ 62)≤j/\j<2 ^ 62/\R (Itr 0 j.toNat) H1
def iRng2 (ta:TA):TI:=fun σ H R=>ta σ H fun vs H1=>∃ i j:Int,vs=[.int i,.int j]/\(-(2 ^ 62)≤i/\i<2 ^ 62/\-(2 ^ 62)≤j/\j<2 ^ 62)/\R (Itr i (j-i).toNat) H1
theorem pi_range1 {a:Expr} {ta:TA} {p pos:Pos} (hg:Gl X "range") (hm:X.mg "range" = none) (ha:PA X [a] ta) (hs:starEach [a] X.env=[(false,eval a X.env)]:=by rfl):PI X tg (.Call (.Name "range" p) [a] [] pos) (iRng1 ta):=by
 intro pins s σ H R I h
 refine Call_ (ld_blt I hg hm boot_range (PyProof.Rows.callWith_type1 (thn (ha pos pins s σ H _ I h) fun us s1 ⟨vs,H1,I1,r1,q1⟩=>?_) hs rfl))
 obtain ⟨j,e,q1,q2,q⟩:=q1
 subst e
 cases r1 with
 | cons r rr=>
   cases rr
   obtain ⟨t,rfl⟩:=r
   exact call_range_1 (range_it I1 (by omega) (by omega) q1 q2 (by simpa using q))
theorem pi_range2 {a b:Expr} {ta:TA} {p pos:Pos} (hg:Gl X "range") (hm:X.mg "range" = none) (ha:PA X [a,b] ta) (hs:starEach [a,b] X.env=[(false,eval a X.env),(false,eval b X.env)]:=by rfl) (hs2:starEach [b] X.env=[(false,eval b X.env)]:=by rfl) :
 PI X tg (.Call (.Name "range" p) [a,b] [] pos) (iRng2 ta):=by
 intro pins s σ H R I h
 refine Call_ (ld_blt I hg hm boot_range (PyProof.Rows.callWith_type1 (thn (ha pos pins s σ H _ I h) fun us s1 ⟨vs,H1,I1,r1,q1⟩=>?_) (by rw [hs,hs2]) (by rw [hs2];rfl)))
 obtain ⟨i,j,e,⟨q1,q2,q3,q4⟩,q⟩:=q1
 subst e
 cases r1 with
 | cons r rr=>
   cases rr with
   | cons r' rr=>
     cases rr
     obtain ⟨t,rfl⟩:=r
     obtain ⟨t',rfl⟩:=r'
     exact call_range_2 (range_it I1 q1 q2 q3 q4 q)
def tFor (wi:TI) (g:TG) (tb:TS):TS:=fun D σ H=>wi σ H fun J H1=>∃ W:Nat->Nat->St->Hp->Prop,(∃ m,W 0 m σ H1)/\∀ i m σ H,W i m σ H->
 (J.stop i H/\D.nx σ H)∨(J.go i H/\∃ N:St->Hp->Prop,(∀ σ' H',N σ' H'->∃ m',m'<m/\W (i+1) m' σ' H')/\∀ x H',J.yld i H x H'->g x σ H' fun σ2 H2=>tb { D with nx:=N,ct:=N,bk:=D.nx } σ2 H2)
def pinsAt (fp:List Addr) (h:Heap):List (Addr×Obj):=fp.filterMap fun b=>(h.get? b).map fun o=>(b,o)
theorem mem_pinsAt {fp:List Addr} {h:Heap} {b:Addr} {o:Obj} (hb:b∈fp) (e:h.get? b=some o):(b,o)∈pinsAt fp h:=List.mem_filterMap.mpr ⟨b,hb,by rw [e];rfl⟩
theorem of_pinsAt {fp:List Addr} {h:Heap} {p:Addr×Obj} (hp:p∈pinsAt fp h):p.1∈fp/\h.get? p.1=some p.2:=by
 obtain ⟨b,hb,e⟩:=List.mem_filterMap.mp hp
 cases q:h.get? b with
 |none=>rw [q] at e;cases e
 | some o=>
   rw [q] at e
   have e':(b,o)=p:=Option.some.inj e
   subst e'
   exact ⟨hb,q⟩
theorem Inv.pinned {pins:List (Addr×Obj)} {σ:St} {H:Hp} {s:Shared} {fp:List Addr} (I:Inv X pins σ H s) (hf:∀ b∈fp,FpOk X pins H b) (ho:∀ b∈fp,∃ o,s.heap.get? b=some o/\∀ v,o.data≠.cell v):Inv X (pins++pinsAt fp s.heap) σ H s:=
 I.pins_of fun p hp=>(List.mem_append.mp hp).elim (fun z=>I.pin p (List.mem_append_right _ z)) fun z=>by
  obtain ⟨hb,e⟩:=of_pinsAt z
  obtain ⟨f0,f1,f2,_⟩:=hf p.1 hb
  obtain ⟨o,e',d⟩:=ho p.1 hb
  rw [e] at e';cases e'
  exact ⟨e,f0,f1,f2,d⟩
theorem Inv.unpinned {pins pl:List (Addr×Obj)} {σ:St} {H:Hp} {s:Shared} (I:Inv X (pins++pl) σ H s):Inv X pins σ H s:=I.pins_of fun p hp=>I.pin p (List.mem_append_right _ (List.mem_append_left _ hp))
theorem ps_for {iter:Expr} {body:List Stmt} {wi:TI} {g:TG} {tb:TS} {pos:Pos} (hp:PassesOwn (model X.prog X.w) X.A X.env X.xe) (hc:X.calm=true) (hi:PI X tg iter wi) (hg:PG X tg g) (hb:PSs X body tb)
 (hs:∀ x,foldedSetIterable iter X.env x=pure x:=by intro _;rfl):PS X (.For tg iter body [] pos) (tFor wi g tb):=by
 intro pins s σ H D I h
 refine wpAny_For (thn (hi pins s σ H _ I h) fun v s1 h1=>thn h1 fun itv s2 h2=>?_) hs
 obtain ⟨it,fp,tn,J,H2,e,I2,T,st2,f2,W,⟨m0,w0⟩,turn⟩:=h2
 subst e
 have stat:∀ {H':Hp},(∀ b∈fp,H' b=none)->∀ b∈fp,FpOk X pins H' b:=fun hn b hb=>⟨hn b hb,(f2 b hb).2⟩
 refine codeAny_forLoop_any (fun n s'=>∃ i σ' H',Inv X pins σ' H' s'/\tn i s'.heap/\(∀ b∈fp,H' b=none)/\W i n σ' H') ?_ m0 ⟨0,σ,H2,I2,st2,fun b hb=>(f2 b hb).1,w0⟩
 rintro n s3 ⟨i,σ3,H3,I3,st3,fr3,w3⟩
 rcases turn i n σ3 H3 w3 with ⟨stop,qn⟩|⟨go,N,hN,step⟩
 ·refine wpAny_passesOwn hp (thn (T.done X rfl rfl rfl hc i pins s3 σ3 H3 X.xe I3 (stat fr3) st3 stop) fun r s4 ⟨hr,I4⟩=>?_)
  subst hr
  exact wpAny_execs_nil ⟨σ3,H3,I4,qn⟩
 ·refine wpAny_passesOwn hp (thn (T.item X rfl rfl rfl hc i pins s3 σ3 H3 X.xe I3 (stat fr3) st3 go) fun r s4 ⟨u,hr,h4⟩=>?_)
  subst hr
  refine wpAny_passesOwn hp (thn h4 fun _ s5 ⟨x,H5,I5,r5,y5,st5,fr5⟩=>?_)
  have I5':=I5.pinned (stat fr5) (T.obj _ _ st5)
  refine wpAny_passesOwn hp (thn (hg _ s5 σ3 H5 x u _ I5' r5 (step x H5 y5)) fun _ s6 ⟨σ6,H6,I6,q6⟩=>?_)
  refine wpAny_passesOwn hp (thn (hb _ s6 σ6 H6 _ I6 q6) fun f s7 q7=>?_)
  have again:∀ {σ7:St} {H7:Hp},Inv X (pins++pinsAt fp s5.heap) σ7 H7 s7->N σ7 H7->∃ m,m<n/\∃ i σ' H',Inv X pins σ' H' s7/\tn i s7.heap/\(∀ b∈fp,H' b=none)/\W i m σ' H':=fun {σ7 H7} I7 n7=>by
   obtain ⟨m',hm,w7⟩:=hN σ7 H7 n7
   refine ⟨m',hm,i+1,σ7,H7,I7.unpinned,T.keep _ _ _ st5 fun b hb o e=>(I7.pin (b,o) (List.mem_append_right _ (List.mem_append_right _ (mem_pinsAt hb e)))).1,fun b hb=>?_,w7⟩
   obtain ⟨o,e,d⟩:=T.obj _ _ st5 b hb
   exact (I7.pin (b,o) (List.mem_append_right _ (List.mem_append_right _ (mem_pinsAt hb e)))).2.1
  cases f with
  |next=>obtain ⟨σ7,H7,I7,n7⟩:=q7;exact again I7 n7
  |cont=>obtain ⟨σ7,H7,I7,n7⟩:=q7;exact again I7 n7
  |brk=>obtain ⟨σ7,H7,I7,q7⟩:=q7;exact ⟨σ7,H7,I7.unpinned,q7⟩
  |ret v=>obtain ⟨x7,σ7,H7,I7,r7,q7⟩:=q7;exact ⟨x7,σ7,H7,I7.unpinned,r7,q7⟩
end
theorem for_list {K:PySem.W.Frag} {a:Addr} {xs:List V} {g:TG} {tb:TS} {D:Ends} {σ:St} {H:Hp} (Pv:Nat->St->Hp->Prop) (h0:Pv 0 σ H) (hl:∀ i σ H,i≤xs.length->Pv i σ H->SqL K H a xs)
 (hs:∀ i x σ H,xs[i]?=some x->Pv i σ H->g x σ H fun σ2 H2=>tb { D with nx:=Pv (i+1),ct:=Pv (i+1),bk:=D.nx } σ2 H2) (hd:∀ σ H,Pv xs.length σ H->D.nx σ H) :
 ∃ W:Nat->Nat->St->Hp->Prop,(∃ m,W 0 m σ H)/\∀ i m σ H,W i m σ H->
   ((Itl K a).stop i H/\D.nx σ H)∨((Itl K a).go i H/\∃ N:St->Hp->Prop,(∀ σ' H',N σ' H'->∃ m',m'<m/\W (i+1) m' σ' H')/\∀ x H',(Itl K a).yld i H x H'->g x σ H' fun σ2 H2=>tb { D with nx:=N,ct:=N,bk:=D.nx } σ2 H2):=by
 refine ⟨fun i m σ H=>m=xs.length-i/\i≤xs.length/\Pv i σ H,⟨xs.length,by simp,Nat.zero_le _,h0⟩,?_⟩
 rintro i m σ H ⟨rfl,hi,p⟩
 have q:=hl i σ H hi p
 by_cases hlt:i<xs.length
 ·refine .inr ⟨⟨xs,xs[i],q,by simp [hlt]⟩,Pv (i+1),fun σ' H' p'=>⟨xs.length-(i+1),by omega,rfl,hlt,p'⟩,fun x H' y=>?_⟩
  obtain ⟨e,y⟩:=y
  subst e
  exact hs i x σ _ (y xs q) p
 ·have e:i=xs.length:=by omega
  subst e
  exact .inl ⟨⟨xs,q,Nat.le_refl _⟩,hd σ H p⟩
theorem for_range {lo:Int} {n:Nat} {g:TG} {tb:TS} {D:Ends} {σ:St} {H:Hp} (Pv:Nat->St->Hp->Prop) (h0:Pv 0 σ H)
 (hs:∀ i σ H,i<n->Pv i σ H->g (.int (lo+i)) σ H fun σ2 H2=>tb { D with nx:=Pv (i+1),ct:=Pv (i+1),bk:=D.nx } σ2 H2) (hd:∀ σ H,Pv n σ H->D.nx σ H) :
 ∃ W:Nat->Nat->St->Hp->Prop,(∃ m,W 0 m σ H)/\∀ i m σ H,W i m σ H->
   ((Itr lo n).stop i H/\D.nx σ H)∨((Itr lo n).go i H/\∃ N:St->Hp->Prop,(∀ σ' H',N σ' H'->∃ m',m'<m/\W (i+1) m' σ' H')/\∀ x H',(Itr lo n).yld i H x H'->g x σ H' fun σ2 H2=>tb { D with nx:=N,ct:=N,bk:=D.nx } σ2 H2):=by
 refine ⟨fun i m σ H=>m=n-i/\i≤n/\Pv i σ H,⟨n,by simp,Nat.zero_le _,h0⟩,?_⟩
 rintro i m σ H ⟨rfl,hi,p⟩
 by_cases hlt:i<n
 ·refine .inr ⟨hlt,Pv (i+1),fun σ' H' p'=>⟨n-(i+1),by omega,rfl,hlt,p'⟩,fun x H' y=>?_⟩
  obtain ⟨e,y⟩:=y
  subst e y
  exact hs i σ _ hlt p
 ·have e:i=n:=by omega
  subst e
  exact .inl ⟨Nat.le_refl _,hd σ H p⟩
theorem while_by {c:TT} {tb:TS} {D:Ends} {σ:St} {H:Hp} (Pv:St->Hp->Prop) (μ:St->Hp->Nat) (h0:Pv σ H)
 (hs:∀ σ H,Pv σ H->c σ H fun b H1=>if b=true then tb { D with nx:=fun σ' H'=>Pv σ' H'/\μ σ' H'<μ σ H,ct:=fun σ' H'=>Pv σ' H'/\μ σ' H'<μ σ H,bk:=D.nx } σ H1 else D.nx σ H1)
 (mono:∀ σ H Q Q',(∀ b H1,Q b H1->Q' b H1)->c σ H Q->c σ H Q'):tWhile c tb D σ H:=by
 refine ⟨fun m σ H=>m=μ σ H/\Pv σ H,⟨_,rfl,h0⟩,?_⟩
 rintro m σ H ⟨rfl,p⟩
 refine mono σ H _ _ (fun b H1 q=>?_) (hs σ H p)
 cases b with
 |true=>exact ⟨_,fun σ' H' ⟨p',l⟩=>⟨_,l,rfl,p'⟩,q⟩
 |false=>exact q
abbrev R2:=V->V->Hp->VK->Prop
def OpR (X:Cx) (f:Value->Value->Sem Value) (r:R2):Prop:=
 ∀ (pins:List (Addr×Obj)) (s:Shared) (σ:St) (H:Hp) (x y:V) (v u:Value) (Q:VK),Inv X pins σ H s->RelV x v->RelV y u->r x y H Q->
   wpAny (model X.prog X.w) X.A (f v u) (EP X pins σ Q) X.xe s
def UnR (X:Cx) (f:Value->Sem Value) (r:V->Hp->VK->Prop):Prop:=
 ∀ (pins:List (Addr×Obj)) (s:Shared) (σ:St) (H:Hp) (x:V) (v:Value) (Q:VK),Inv X pins σ H s->RelV x v->r x H Q->
   wpAny (model X.prog X.w) X.A (f v) (EP X pins σ Q) X.xe s
def CallR (X:Cx) (f:Value) (r:List V->Hp->VK->Prop):Prop:=
 ∀ (pins:List (Addr×Obj)) (s:Shared) (σ:St) (H:Hp) (xs:List V) (us:List Value) (Q:VK),Inv X pins σ H s->Vals xs us->r xs H Q->
   wpAny (model X.prog X.w) X.A (call f us) (EP X pins σ Q) X.xe s
def tOp (r:R2) (ta tb:TE):TE:=fun σ H Q=>ta σ H fun x H1=>tb σ H1 fun y H2=>r x y H2 Q
def tUn (r:V->Hp->VK->Prop) (ta:TE):TE:=fun σ H Q=>ta σ H fun x H1=>r x H1 Q
def rI (C:Int->Int->Prop) (g:Int->Int->V):R2:=fun x y H Q=>∃ i j,x=.int i/\y=.int j/\C i j/\Q (g i j) H
def rI0 (g:Int->Int->V):R2:=fun x y H Q=>∃ i j,x=.int i/\y=.int j/\Q (g i j) H
def rU (g:Int->V):V->Hp->VK->Prop:=fun x H Q=>∃ i,x=.int i/\Q (g i) H
section
variable {X:Cx} {a b c:Expr} {ta tb tc:TE} {pos:Pos}
theorem binT (ha:PE X a ta) (hb:PE X b tb) {pins:List (Addr×Obj)} {s:Shared} {σ:St} {H:Hp} {R:V->V->Hp->Prop} (I:Inv X pins σ H s)
 (h:ta σ H fun x H1=>tb σ H1 fun y H2=>R x y H2) {Q:Value->Shared->Prop} {f:Value->Value->Sem Value}
 (hf:∀ v u s2 x y H2,Inv X pins σ H2 s2->RelV x v->RelV y u->R x y H2->wpAny (model X.prog X.w) X.A (f v u) Q X.xe s2) :
 wpAny (model X.prog X.w) X.A (eval a X.env) (fun v s₁=>wpAny (model X.prog X.w) X.A (eval b X.env) (fun u s₂=>wpAny (model X.prog X.w) X.A (f v u) Q X.xe s₂) X.xe s₁) X.xe s:=by
 refine thn (ha pins s σ H _ I h) fun v s1 ⟨x,H1,I1,r1,q1⟩=>?_
 refine thn (hb pins s1 σ H1 _ I1 q1) fun u s2 ⟨y,H2,I2,r2,q2⟩=>?_
 exact hf v u s2 x y H2 I2 r1 r2 q2
theorem pe_op {op:Operator} {r:R2} (ho:OpR X (binaryOp op) r) (ha:PE X a ta) (hb:PE X b tb):PE X (.BinOp a op b pos) (tOp r ta tb):=by
 intro pins s σ H Q I h
 exact wpAny_BinOp (binT ha hb I h fun v u s2 x y H2 I2 rx ry q=>ho pins s2 σ H2 x y v u Q I2 rx ry q)
theorem pe_un {op:UnaryOp} {r:V->Hp->VK->Prop} (ho:UnR X (unaryOp op) r) (ha:PE X a ta):PE X (.UnaryOp op a pos) (tUn r ta):=by
 intro pins s σ H Q I h
 exact UnaryOp_ (thn (ha pins s σ H _ I h) fun v s1 ⟨x,H1,I1,r1,q1⟩=>ho pins s1 σ H1 x v Q I1 r1 q1)
theorem opI {f:Value->Value->Sem Value} {C:Int->Int->Prop} {g:Int->Int->Int}
 (rule:∀ (i j:Int) (t u:Tok) (s:Shared) (Q:Value->Shared->Prop) (E:Value->Shared->Prop),C i j->Q (.int (g i j) s.toks) { s with toks:=s.toks+1 }->wpAny (model X.prog X.w) X.A (f (.int i t) (.int j u)) Q E s) :
 OpR X f (rI C fun i j=>.int (g i j)):=by
 intro pins s σ H x y v u Q I rx ry h
 obtain ⟨i,j,rfl,rfl,hc,q⟩:=h
 obtain ⟨t,rfl⟩:=rx
 obtain ⟨t',rfl⟩:=ry
 exact rule i j t t' s _ _ hc ⟨.int (g i j),H,I.tok _,⟨_,rfl⟩,q⟩
theorem opI0 {f:Value->Value->Sem Value} {g:Int->Int->Int}
 (rule:∀ (i j:Int) (t u:Tok) (s:Shared) (Q:Value->Shared->Prop) (E:Value->Shared->Prop),Q (.int (g i j) s.toks) { s with toks:=s.toks+1 }->wpAny (model X.prog X.w) X.A (f (.int i t) (.int j u)) Q E s) :
 OpR X f (rI0 fun i j=>.int (g i j)):=by
 intro pins s σ H x y v u Q I rx ry h
 obtain ⟨i,j,rfl,rfl,q⟩:=h
 obtain ⟨t,rfl⟩:=rx
 obtain ⟨t',rfl⟩:=ry
 exact rule i j t t' s _ _ ⟨.int (g i j),H,I.tok _,⟨_,rfl⟩,q⟩
theorem opB0 {f:Value->Value->Sem Value} {g:Int->Int->Bool}
 (rule:∀ (i j:Int) (t u:Tok) (s:Shared) (Q:Value->Shared->Prop) (E:Value->Shared->Prop),Q (.bool (g i j)) s->wpAny (model X.prog X.w) X.A (f (.int i t) (.int j u)) Q E s) :
 OpR X f (rI0 fun i j=>.bl (g i j)):=by
 intro pins s σ H x y v u Q I rx ry h
 obtain ⟨i,j,rfl,rfl,q⟩:=h
 obtain ⟨t,rfl⟩:=rx
 obtain ⟨t',rfl⟩:=ry
 exact rule i j t t' s _ _ ⟨.bl (g i j),H,I,rfl,q⟩
def CDiv (i j:Int):Prop:=0<j/\j<1073741824
def CPow (i j:Int):Prop:=0≤j/\j≤1000000/\i.natAbs<2 ^ 64
def CMul (i j:Int):Prop:=(-(2 ^ 64)<i/\i<2 ^ 64)∨(-(2 ^ 64)<j/\j<2 ^ 64)
theorem CMul.ok {i j:Int} (h:CMul i j):IntMulOk i j:=by
 rcases h with ⟨h1,h2⟩|⟨h1,h2⟩
 ·exact .of_left (intBits_le_64 h1 h2)
 ·exact .of_right (intBits_le_64 h1 h2)
theorem op_add:OpR X (binaryOp .Add) (rI0 fun i j=>.int (i+j)):=opI0 fun _ _ _ _ _ _ _ q=>add_int q
theorem op_sub:OpR X (binaryOp .Sub) (rI0 fun i j=>.int (i-j)):=opI0 fun _ _ _ _ _ _ _ q=>sub_int q
theorem op_mul:OpR X (binaryOp .Mult) (rI CMul fun i j=>.int (i*j)):=opI fun _ _ _ _ _ _ _ hc q=>mul_int q hc.ok
theorem op_fdiv:OpR X (binaryOp .FloorDiv) (rI CDiv fun i j=>.int (i / j)):=opI fun i j _ _ _ _ _ hc q=>by
 have h1:(0:Int)<j:=hc.1
 have h2:j<1073741824:=hc.2
 exact floordiv_int (by omega) (by rw [Int.fdiv_eq_ediv_of_nonneg i (by omega)];exact q) (.inl (PyProof.noPylong_small (by omega)))
theorem op_mod:OpR X (binaryOp .Mod) (rI (fun _ j=>0<j) fun i j=>.int (i % j)):=opI fun i j _ _ _ _ _ hc q=>by
 have h1:(0:Int)<j:=hc
 exact mod_int' (by omega) (by rw [Int.fmod_eq_emod_of_nonneg i (by omega)];exact q)
theorem op_pow:OpR X (binaryOp .Pow) (rI CPow fun i j=>.int (i ^ j.toNat)):=opI fun _ _ _ _ _ _ _ hc q=>pow_int_small hc.1 hc.2.1 hc.2.2 q
theorem unI {f:Value->Sem Value} {g:Int->Int}
 (rule:∀ (i:Int) (t:Tok) (s:Shared) (Q:Value->Shared->Prop) (E:Value->Shared->Prop),Q (.int (g i) s.toks) { s with toks:=s.toks+1 }->wpAny (model X.prog X.w) X.A (f (.int i t)) Q E s) :
 UnR X f (rU fun i=>.int (g i)):=by
 intro pins s σ H x v Q I rx h
 obtain ⟨i,rfl,q⟩:=h
 obtain ⟨t,rfl⟩:=rx
 exact rule i t s _ _ ⟨.int (g i),H,I.tok _,⟨_,rfl⟩,q⟩
theorem un_neg:UnR X (unaryOp .USub) (rU fun i=>.int (-i)):=unI fun _ _ _ _ _ q=>neg_int q
end
def scal:V->V->Bool
 |.non,.non=>true|.non,.int _=>true|.int _,.non=>true|.non,.bl _=>true|.bl _,.non=>true|.non,.str _=>true|.str _,.non=>true
 |.int _,.int _=>true|.bl _,.bl _=>true|.str _,.str _=>true|.byt _,.byt _=>true
 |.int _,.str _=>true|.str _,.int _=>true|.bl _,.str _=>true|.str _,.bl _=>true
 |_,_=>false
def rEq:R2:=fun x y H Q=>scal x y=true/\Q (.bl (decide (x=y))) H
def rNe:R2:=fun x y H Q=>scal x y=true/\Q (.bl (!decide (x=y))) H
theorem dec_int {i j:Int}:decide (V.int i=V.int j)=(i == j):=by
 rw [Bool.eq_iff_iff]
 simp
theorem dec_bl {i j:Bool}:decide (V.bl i=V.bl j)=(i == j):=by
 rw [Bool.eq_iff_iff]
 simp
theorem dec_str {i j:Str}:decide (V.str i=V.str j)=(i == j):=by
 rw [Bool.eq_iff_iff]
 simp
theorem dec_byt {i j:Array UInt8}:decide (V.byt i=V.byt j)=(i.toList == j.toList):=by
 rw [Bool.eq_iff_iff]
 cases i
 cases j
 simp
section
variable {X:Cx} {a b c:Expr} {ta tb tc:TE} {pos:Pos}
theorem fin_bl {pins:List (Addr×Obj)} {σ:St} {H:Hp} {s:Shared} {Q:VK} {k k':Bool} (I:Inv X pins σ H s) (q:Q (.bl k) H) (e:k=k'):EP X pins σ Q (.bool k') s:=by
 subst e
 exact ⟨.bl k,H,I,rfl,q⟩
theorem op_eq:OpR X (compareOp .Eq) rEq:=by
 intro pins s σ H x y v u Q I rx ry h
 obtain ⟨hs,q⟩:=h
 cases x with
 | non=>
   cases rx
   cases y with
   |non=>cases ry;exact PySem.EqNone.eq_none_none (fin_bl I q (by simp))
   |bl j=>cases ry;exact PySem.EqNone.eq_none_bool (fin_bl I q (by simp))
   |int j=>obtain ⟨t',rfl⟩:=ry;exact PySem.EqNone.eq_none_int (fin_bl I q (by simp))
   |str j=>obtain ⟨t',rfl⟩:=ry;exact PySem.EqNone.eq_none_str (fin_bl I q (by simp))
   |_=>exact absurd (show false=true from hs) Bool.false_ne_true
 | bl i=>
   cases rx
   cases y with
   |non=>cases ry;exact PySem.EqNone.eq_bool_none (fin_bl I q (by simp))
   |bl j=>cases ry;exact eq_bool (fin_bl I q dec_bl)
   |str j=>obtain ⟨t',rfl⟩:=ry;exact PySem.EqMixed.eq_bool_str (fin_bl I q (by simp))
   |_=>exact absurd (show false=true from hs) Bool.false_ne_true
 | int i=>
   obtain ⟨t,rfl⟩:=rx
   cases y with
   |non=>cases ry;exact PySem.EqNone.eq_int_none (fin_bl I q (by simp))
   |int j=>obtain ⟨t',rfl⟩:=ry;exact eq_int (fin_bl I q dec_int)
   |str j=>obtain ⟨t',rfl⟩:=ry;exact PySem.EqMixed.eq_int_str (fin_bl I q (by simp))
   |_=>exact absurd (show false=true from hs) Bool.false_ne_true
 | str i=>
   obtain ⟨t,rfl⟩:=rx
   cases y with
   |non=>cases ry;exact PySem.EqNone.eq_str_none (fin_bl I q (by simp))
   |bl j=>cases ry;exact PySem.EqMixed.eq_str_bool (fin_bl I q (by simp))
   |int j=>obtain ⟨t',rfl⟩:=ry;exact PySem.EqMixed.eq_str_int (fin_bl I q (by simp))
   |str j=>obtain ⟨t',rfl⟩:=ry;exact eq_str (fin_bl I q dec_str)
   |_=>exact absurd (show false=true from hs) Bool.false_ne_true
 | byt i=>
   obtain ⟨t,rfl⟩:=rx
   cases y with
   |byt j=>obtain ⟨t',rfl⟩:=ry;exact PySem.W.eq_bytes (fin_bl I q dec_byt)
   |_=>exact absurd (show false=true from hs) Bool.false_ne_true
 |_=>cases y <;> exact absurd (show false=true from hs) Bool.false_ne_true
theorem op_ne:OpR X (compareOp .NotEq) rNe:=by
 intro pins s σ H x y v u Q I rx ry h
 obtain ⟨hs,q⟩:=h
 cases x with
 | non=>
   cases rx
   cases y with
   |non=>cases ry;exact PySem.EqNone.ne_none_none (fin_bl I q (by simp))
   |bl j=>cases ry;exact PySem.EqNone.ne_none_bool (fin_bl I q (by simp))
   |int j=>obtain ⟨t',rfl⟩:=ry;exact PySem.EqNone.ne_none_int (fin_bl I q (by simp))
   |str j=>obtain ⟨t',rfl⟩:=ry;exact PySem.EqNone.ne_none_str (fin_bl I q (by simp))
   |_=>exact absurd (show false=true from hs) Bool.false_ne_true
 | bl i=>
   cases rx
   cases y with
   |non=>cases ry;exact PySem.EqNone.ne_bool_none (fin_bl I q (by simp))
   |bl j=>cases ry;exact ne_bool (fin_bl I q (congrArg not dec_bl))
   |str j=>obtain ⟨t',rfl⟩:=ry;exact PySem.EqMixed.ne_bool_str (fin_bl I q (by simp))
   |_=>exact absurd (show false=true from hs) Bool.false_ne_true
 | int i=>
   obtain ⟨t,rfl⟩:=rx
   cases y with
   |non=>cases ry;exact PySem.EqNone.ne_int_none (fin_bl I q (by simp))
   |int j=>obtain ⟨t',rfl⟩:=ry;exact ne_int (fin_bl I q (congrArg not dec_int))
   |str j=>obtain ⟨t',rfl⟩:=ry;exact PySem.EqMixed.ne_int_str (fin_bl I q (by simp))
   |_=>exact absurd (show false=true from hs) Bool.false_ne_true
 | str i=>
   obtain ⟨t,rfl⟩:=rx
   cases y with
   |non=>cases ry;exact PySem.EqNone.ne_str_none (fin_bl I q (by simp))
   |bl j=>cases ry;exact PySem.EqMixed.ne_str_bool (fin_bl I q (by simp))
   |int j=>obtain ⟨t',rfl⟩:=ry;exact PySem.EqMixed.ne_str_int (fin_bl I q (by simp))
   |str j=>obtain ⟨t',rfl⟩:=ry;exact ne_str (fin_bl I q (congrArg not dec_str))
   |_=>exact absurd (show false=true from hs) Bool.false_ne_true
 | byt i=>
   obtain ⟨t,rfl⟩:=rx
   cases y with
   |byt j=>obtain ⟨t',rfl⟩:=ry;exact PySem.W.ne_bytes (fin_bl I q (congrArg not dec_byt))
   |_=>exact absurd (show false=true from hs) Bool.false_ne_true
 |_=>cases y <;> exact absurd (show false=true from hs) Bool.false_ne_true
theorem op_lt:OpR X (compareOp .Lt) (rI0 fun i j=>.bl (decide (i<j))):=opB0 fun _ _ _ _ _ _ _ q=>lt_int q
theorem op_le:OpR X (compareOp .LtE) (rI0 fun i j=>.bl (decide (i≤j))):=opB0 fun _ _ _ _ _ _ _ q=>le_int q
theorem op_gt:OpR X (compareOp .Gt) (rI0 fun i j=>.bl (decide (j<i))):=opB0 fun _ _ _ _ _ _ _ q=>gt_int q
theorem op_ge:OpR X (compareOp .GtE) (rI0 fun i j=>.bl (decide (j≤i))):=opB0 fun _ _ _ _ _ _ _ q=>ge_int q
theorem op_isN:OpR X (compareOp .Is) (fun x y H Q=>y=.non/\Q (.bl (decide (x=.non))) H):=by
 intro pins s σ H x y v u Q I rx ry h
 obtain ⟨rfl,q⟩:=h
 cases ry
 refine is_none_gen (fin_bl I q ?_)
 cases x <;> first
  |(cases rx;rfl)
  |(obtain ⟨t,rfl⟩:=rx;rfl)
theorem op_notN:OpR X (compareOp .IsNot) (fun x y H Q=>y=.non/\Q (.bl (!decide (x=.non))) H):=by
 intro pins s σ H x y v u Q I rx ry h
 obtain ⟨rfl,q⟩:=h
 cases ry
 refine isnot_none_gen (fin_bl I q ?_)
 cases x <;> first
  |(cases rx;rfl)
  |(obtain ⟨t,rfl⟩:=rx;rfl)
theorem nomark (b:Expr) {op:CmpOp} (h:op≠.In:=by decide) (h2:op≠.NotIn:=by decide):behindInMarks op b=false:=by
 have e1:(op == CmpOp.In)=false:=by cases op <;> first|rfl|exact absurd rfl h
 have e2:(op == CmpOp.NotIn)=false:=by cases op <;> first|rfl|exact absurd rfl h2
 cases b <;> simp [behindInMarks,e1,e2]
theorem pe_cmpR {op:CmpOp} {r:R2} (ho:OpR X (compareOp op) r) (ha:PE X a ta) (hb:PE X b tb) (hm:behindInMarks op b=false):PE X (.Compare a [op] [b] pos) (tOp r ta tb):=by
 intro pins s σ H Q I h
 exact wpAny_Compare1 (binT ha hb I h fun v u s2 x y H2 I2 rx ry q=>ho pins s2 σ H2 x y v u Q I2 rx ry q) hm
def tTest (t:TE):TT:=fun σ H Q=>t σ H fun x H'=>∃ k,x=.bl k/\Q k H'
theorem pt_cmpR {op:CmpOp} {r:R2} (ho:OpR X (compareOp op) r) (ha:PE X a ta) (hb:PE X b tb) (hm:behindInMarks op b=false):PT X (.Compare a [op] [b] pos) (tTest (tOp r ta tb)):=by
 intro pins s σ H Q I h
 refine wpAny_isTrue_Compare1 (thn (ha pins s σ H _ I h) fun v s1 ⟨x,H1,I1,r1,q1⟩=>thn (hb pins s1 σ H1 _ I1 q1) fun u s2 ⟨y,H2,I2,r2,q2⟩=>
  thn (ho pins s2 σ H2 x y v u _ I2 r1 r2 q2) fun c s3 ⟨z,H3,I3,r3,k,e,q3⟩=>?_) hm
 subst e
 cases r3
 exact wpAny_truthy_bool ⟨H3,I3,q3⟩
def tChain (r r':R2) (ta tb tc:TE):TE:=fun σ H Q=>ta σ H fun x H1=>tb σ H1 fun y H2=>r x y H2 fun z H3=>∃ k,z=.bl k/\
 (if k=true then tc σ H3 fun w' H4=>r' y w' H4 Q else Q (.bl false) H3)
theorem pe_chain {op op':CmpOp} {r r':R2} (ho:OpR X (compareOp op) r) (ho':OpR X (compareOp op') r') (ha:PE X a ta) (hb:PE X b tb) (hc:PE X c tc)
 (hm:lastMarks [op,op'] [b,c]=false:=by with_unfolding_all rfl):PE X (.Compare a [op,op'] [b,c] pos) (tChain r r' ta tb tc):=by
 intro pins s σ H Q I h
 refine Compare_chain (thn (ha pins s σ H _ I h) fun v s1 ⟨x,H1,I1,r1,q1⟩=>chain_link (thn (hb pins s1 σ H1 _ I1 q1) fun u s2 ⟨y,H2,I2,r2,q2⟩=>
  thn (ho pins s2 σ H2 x y v u _ I2 r1 r2 q2) fun d s3 ⟨z,H3,I3,r3,k,e,q3⟩=>?_)) hm
 subst e
 cases r3
 refine wpAny_truthy_bool ?_
 cases k with
 |false=>exact ite_ff ⟨.bl false,H3,I3,rfl,q3⟩
 |true=>exact ite_tt (chain_last (thn (hc pins s3 σ H3 _ I3 q3) fun w' s4 ⟨z',H4,I4,r4,q4⟩=>ho' pins s4 σ H4 y z' u w' Q I4 r2 r4 q4))
theorem pt_chain {op op':CmpOp} {r r':R2} (ho:OpR X (compareOp op) r) (ho':OpR X (compareOp op') r') (ha:PE X a ta) (hb:PE X b tb) (hc:PE X c tc)
 (hm:lastMarks [op,op'] [b,c]=false:=by with_unfolding_all rfl):PT X (.Compare a [op,op'] [b,c] pos) (tTest (tChain r r' ta tb tc)):=by
 intro pins s σ H Q I h
 refine isTrue_chain (thn (ha pins s σ H _ I h) fun v s1 ⟨x,H1,I1,r1,q1⟩=>test_link (thn (hb pins s1 σ H1 _ I1 q1) fun u s2 ⟨y,H2,I2,r2,q2⟩=>
  thn (ho pins s2 σ H2 x y v u _ I2 r1 r2 q2) fun d s3 ⟨z,H3,I3,r3,k,e,q3⟩=>?_)) hm
 subst e
 cases r3
 refine wpAny_truthy_bool ?_
 cases k with
 | false=>
   obtain ⟨k',e',q'⟩:=q3
   cases e'
   exact ite_ff ⟨H3,I3,q'⟩
 | true=>
   refine ite_tt (test_last (thn (hc pins s3 σ H3 _ I3 q3) fun w' s4 ⟨z',H4,I4,r4,q4⟩=>thn (ho' pins s4 σ H4 y z' u w' _ I4 r2 r4 q4) fun d' s5 ⟨z2,H5,I5,r5,k2,e2,q5⟩=>?_))
   subst e2
   cases r5
   exact wpAny_truthy_bool ⟨H5,I5,q5⟩
theorem line63:(sizeLine:Nat)<2 ^ 63:=by rw [sizeLine_eq];decide
theorem vals1 {x:V} {us:List Value} (r:Vals [x] us):∃ u,us=[u]/\RelV x u:=by
 cases r with
 |cons r1 r2=>cases r2;exact ⟨_,rfl,r1⟩
theorem call_int1:CallR X (.type "int") (fun xs H Q=>(∃ i,xs=[.int i]/\Q (.int i) H)∨∃ k,xs=[.bl k]/\Q (.int (if k then 1 else 0)) H):=by
 intro pins s σ H xs us Q I r h
 rcases h with ⟨i,rfl,q⟩|⟨k,rfl,q⟩
 ·obtain ⟨u,rfl,t,rfl⟩:=vals1 r
  exact call_int_int ⟨.int i,H,I,⟨_,rfl⟩,q⟩
 ·obtain ⟨u,rfl,r1⟩:=vals1 r
  cases r1
  exact call_int_bool ⟨.int (if k then 1 else 0),H,I.tok _,⟨_,rfl⟩,q⟩
end
section
variable {prog:Program} {w:World} {A:Around} {E:Value->Shared->Prop} {s:Shared} {K:PySem.W.Frag} {x dx C f:Addr} {mA:Str->Option Value} {name:Str} {v:Value}
end
theorem RelO.some_of {v:V} {o:Option Value} (r:RelO (some v) o):∃ u,o=some u/\RelV v u:=by
 cases o with
 |none=>exact (show False from r).elim
 |some u=>exact ⟨u,rfl,r⟩
section
variable {P:Program} {w:World} {H H':Hp} {h h':Heap} {a C dx:Addr} {fs fs':List (Str×V)}
end
section
variable {X:Cx} {pins:List (Addr×Obj)} {σ:St} {H:Hp} {s:Shared} {a C dx:Addr} {fs:List (Str×V)} {f:Str} {v:V} {A:Around} {E:Value->Shared->Prop}
end
section
variable {X:Cx} {o e value:Expr} {f:Str} {pos pos' tpos:Pos} {ta tv:TE}
end
section
variable {X:Cx} {pins:List (Addr×Obj)} {σ:St} {H:Hp} {s:Shared} {A:Around} {E:Value->Shared->Prop} {Q:Value->Shared->Prop} {c:Value} {b:Bool}
end
structure Room (k:Nat) (A:Around):Prop where
 hd:A.handled=none
 dp:A.depth+3*k+5<recursionLimit
 un:A.units+16*k+200<cLine
 gd:A.guards=some []
theorem Room.mono {j k:Nat} {A:Around} (r:Room k A) (h:j≤k):Room j A:=⟨r.hd,by have:=r.dp;omega,by have:=r.un;omega,r.gd⟩
theorem Room.deeper {k:Nat} {A:Around} (r:Room (k+1) A) (env:Env):Room k (A.deeper env):=
 ⟨r.hd,by have:=r.dp;show A.depth+1+3*k+5<_;omega,by have:=r.un;show A.units+3+16*k+200<_;omega,r.gd⟩
theorem Room.in1 {k:Nat} {A:Around} (r:Room (k+1) A):Room k A.in1:=
 ⟨r.hd,by have:=r.dp;show A.depth+3*k+5<_;omega,by have:=r.un;show A.units+1+16*k+200<_;omega,r.gd⟩
theorem Room.depth {k:Nat} {A:Around} (r:Room k A):A.depth<recursionLimit:=by have:=r.dp;omega
theorem Room.units {k:Nat} {A:Around} (r:Room k A):A.units+64<cLine:=by have:=r.un;omega
def tNil:TA:=fun _ H Q=>Q [] H
def tCons (ta:TE) (tr:TA):TA:=fun σ H Q=>ta σ H fun x H1=>tr σ H1 fun xs H2=>Q (x::xs) H2
section
variable {X:Cx} {e:Expr} {es:List Expr} {te:TE} {t:TA} {pos:Pos}
theorem pa_nil:PA X [] tNil:=fun _ _ _ _ H Q I h=>Calls.spliced_nil ⟨[],H,I,.nil,h⟩
theorem pa_cons (ha:PE X e te) (hr:PA X es t) (hs:starEach (e::es) X.env=(false,eval e X.env)::starEach es X.env:=by rfl):PA X (e::es) (tCons te t):=by
 intro pos pins s σ H Q I h
 rw [hs]
 show wpAny _ _ (spliced ((false,eval e X.env)::backTo pos (starEach es X.env))) _ _ s
 refine Calls.spliced_cons (thn (ha pins s σ H _ I h) fun u s1 ⟨x,H1,I1,r1,q1⟩=>?_)
 exact thn (hr pos pins s1 σ H1 _ I1 q1) fun us s2 ⟨xs,H2,I2,r2,q2⟩=>⟨x::xs,H2,I2,.cons r1 r2,q2⟩
def tTup (t:TA):TE:=fun σ H Q=>t σ H fun xs H1=>xs.length≤sizeLine/\∀ p,H1 p=none->Q (.ref p) (upd H1 p (.tup xs))
def tLst (t:TA):TE:=fun σ H Q=>t σ H fun xs H1=>xs.length≤sizeLine/\∀ p,H1 p=none->Q (.ref p) (upd H1 p (.lst xs))
theorem pe_tup {x1} (h:PA X es t):PE X (.Tuple es x1 pos) (tTup t):=by
 intro pins s σ H Q I hq
 refine wpAny_Tuple_spliced (thn (h pos pins s σ H _ I hq) fun us s1 ⟨xs,H1,I1,r,z,q⟩=>⟨by rw [← r.length];exact z,?_⟩)
 have hf:H1 s1.heap.objs.size=none:=I1.hok.fresh (Nat.le_refl _)
 refine ⟨.ref s1.heap.objs.size,upd H1 s1.heap.objs.size (.tup xs),I1.laid (t':=s1.toks) (fun b u e=>Heap.get?_push_of_some _ e) (Nat.le_refl _) ?_,rfl,q _ hf⟩
 exact ⟨z,us,r,⟨_,Heap.get?_push_size _ rfl,rfl,_,rfl⟩⟩
theorem pe_lst (h:PA X es t):PE X (.List es pos) (tLst t):=by
 intro pins s σ H Q I hq
 refine wpAny_List_spliced (thn (h pos pins s σ H _ I hq) fun us s1 ⟨xs,H1,I1,r,z,q⟩=>⟨by rw [← r.length];exact z,?_⟩)
 have hf:H1 s1.heap.objs.size=none:=I1.hok.fresh (Nat.le_refl _)
 refine ⟨.ref s1.heap.objs.size,upd H1 s1.heap.objs.size (.lst xs),I1.laid (t':=s1.toks) (fun b u e=>Heap.get?_push_of_some _ e) (Nat.le_refl _) ?_,rfl,q _ hf⟩
 exact ⟨z,us,0,r,Heap.get?_push_size _ rfl⟩
end
abbrev Sp:=List V->Hp->VK->XK->Prop
abbrev CXT:=List Env->Hp->Shared->XK->Value->Shared->Prop
structure Env0 (P:Program) (w:World) (K:PySem.W.Frag) (mg:Str->Option Value) (base:Heap) (A:Around) (outer:List Env) (s:Shared) (H:Hp):Prop where
 frames:A.frames=some outer
 mod:Mod K mg base
 bs:∀ b o,base.get? b=some o->s.heap.get? b=some o/\H b=none
 bsz:base.objs.size≤s.heap.objs.size
 funs:s.heap.FunFrames base outer
 frf:∀ b∈frs outer,H b=none
 hok:HOk P w H s.heap
 bare:AllBare s.gens
def CE (outer:List Env) (P:Program) (w:World) (H:Hp) (s:Shared) (Q:VK) (u:Value) (s':Shared):Prop:=
 ∃ v H',s'.os=s.os/\AllBare s'.gens/\Un (frs outer) [] H H' s.heap s'.heap/\HOk P w H' s'.heap/\RelV v u/\Q v H'
def CR (CX:CXT) (outer:List Env) (P:Program) (w:World) (H:Hp) (s:Shared) (Q:VK) (E:XK) (r:Result) (s':Shared):Prop:=
 match r with
 |.ok (.ret u)=>CE outer P w H s Q u s'
 |.ok _=>False
 |.error e=>CX outer H s E e s'
structure FnOk (P:Program) (w:World) (K:PySem.W.Frag) (mg:Str->Option Value) (base:Heap) (CX:CXT) (k:Nat) (f:Addr) (fd:FuncData) (ps:List Str) (sp:Sp):Prop where
 len:∀ vs H Q E,sp vs H Q E->vs.length=ps.length
 run:∀ (A:Around) (outer:List Env) (s:Shared) (H:Hp) (args:Args) (us:List Value) (vs:List V) (Q:VK) (E:XK),Room k A->Env0 P w K mg base A outer s H->BindsTo s fd args (ps.zip us)->Vals vs us->sp vs H Q E->
  codeAny (model P w) A (.call (.ref f) args) (CR CX outer P w H s Q E) s
section
variable {X:Cx} {pins:List (Addr×Obj)} {σ:St} {H:Hp} {s s':Shared}
theorem Inv.env0 (I:Inv X pins σ H s):Env0 X.prog X.w X.K X.mg X.base X.A X.stack s H:=
 ⟨I.ok.frames,I.ok.mod,I.bs,Nat.le_trans I.ok.bsz I.sz,I.stack,I.stkFree,I.hok,I.bare⟩
theorem Inv.after {Q:VK} {u:Value} (I:Inv X pins σ H s) (h:CE X.stack X.prog X.w H s Q u s'):EP X pins σ Q u s':=by
 obtain ⟨v,H',os,bare,un,hok,r,q⟩:=h
 obtain ⟨hh,g,d,t,os'⟩:=s'
 obtain rfl:os'=s.os:=os
 exact ⟨v,H',I.call (h':=hh) (g':=g) (d':=d) (t':=t) (ch:=[]) un hok bare (fun b z=>absurd z (by simp)),r,q⟩
end
def tCall (sp:Sp) (dvs:List V) (E:XK) (t:TA):TE:=fun σ H Q=>t σ H fun vs H1=>sp (vs++dvs) H1 Q E
def Binds (K:PySem.W.Frag) (fd:FuncData) (ps:List Str) (ds:List Value):Prop:=
 ∀ (s:Shared) (us:List Value),K.In s.heap->(us++ds).length=ps.length->BindsTo s fd ⟨us,[]⟩ (ps.zip (us++ds))
theorem Binds.all {K:PySem.W.Frag} {fd:FuncData} {ps:List Str} (h:∀ us:List Value,us.length=ps.length->bindArgs fd ⟨us,[]⟩=pure (ps.zip us)):Binds K fd ps []:=fun s us _ hl=>by
 rw [List.append_nil] at hl ⊢
 exact .of_eq (h us hl)
def Passes (CX:CXT) (X:Cx) (E:XK):Prop:=∀ (pins:List (Addr×Obj)) (σ:St) (H:Hp) (s:Shared) (e:Value) (s':Shared),Inv X pins σ H s->CX X.stack H s E e s'->X.xe e s'
section
variable {X:Cx} {CX:CXT} {k:Nat} {f C:Addr} {fd:FuncData} {ps:List Str} {sp:Sp} {dvs:List V} {ds:List Value} {E:XK} {x m:Str} {p pos apos:Pos} {e o:Expr} {es:List Expr} {ta:TE} {t:TA}
theorem run_fn {pins:List (Addr×Obj)} {σ:St} {H:Hp} {s:Shared} {Q:VK} {us:List Value} {vs:List V} (F:FnOk X.prog X.w X.K X.mg X.base CX k f fd ps sp) (hr:Room k X.A) (hb:Binds X.K fd ps ds) (hd:Vals dvs ds) (hx:Passes CX X E)
 (I:Inv X pins σ H s) (r:Vals vs us) (h:sp (vs++dvs) H Q E):wpAny (model X.prog X.w) X.A (call (.ref f) us) (EP X pins σ Q) X.xe s:=by
 have r2:Vals (vs++dvs) (us++ds):=r.append hd
 have hl:(us++ds).length=ps.length:=by rw [← r2.length];exact F.len _ _ _ _ h
 refine wpAny_call (codeAny_mono (F.run X.A X.stack s H ⟨us,[]⟩ (us++ds) (vs++dvs) Q E hr I.env0 (hb s us I.kIn hl) r2 h) fun r s' hq=>?_)
 cases r with
 |error e=>exact hx pins σ H s e s' I hq
 | ok fl=>
   cases fl with
   |ret u=>exact I.after hq
   |next=>exact False.elim hq
   |brk=>exact False.elim hq
   |cont=>exact False.elim hq
theorem pe_call (F:FnOk X.prog X.w X.K X.mg X.base CX k f fd ps sp) (hr:Room k X.A) (hg:Gl X x) (hm:X.mg x=some (.ref f)) (hk:PySem.W.keepIn X.K (.ref f)=true) (hb:Binds X.K fd ps ds) (hd:Vals dvs ds) (hx:Passes CX X E)
 (ha:PA X (e::es) t) (hdb:(x == ("__debug__" : Str))=false:=by decide) (he:starEach (e::es) X.env=(false,eval e X.env)::starEach es X.env:=by rfl) (hpl:(backTo pos (starEach es X.env)).any (·.1)=false:=by rfl) :
 PE X (.Call (.Name x p) (e::es) [] pos) (tCall sp dvs E t):=by
 intro pins s σ H Q I h
 refine wpAny_Call_Name_kw (ld_glob I hg hm ?_ hdb)
 refine PySem.W.callWith_K (h₀:=X.base) I.ok.mod.kin hk (thn (ha pos pins s σ H _ I h) fun us s1 ⟨vs,H1,I1,r,q⟩=>⟨I1.kIn,?_⟩) he hpl
 exact run_fn F hr hb hd hx I1 r q
end
def PK (X:Cx) (kws:List Keyword) (t:TA):Prop:=
 ∀ (pos:Pos) (pins:List (Addr×Obj)) (s:Shared) (σ:St) (H:Hp) (Q:List V->Hp->Prop),Inv X pins σ H s->t σ H Q->wpAny (model X.prog X.w) X.A (evalAll ((backToKw pos (keywordEach kws X.env)).map (·.2))) (AP X pins σ Q) X.xe s
section
variable {X:Cx} {CX:CXT} {k:Nat} {f C:Addr} {fd:FuncData} {ps ks:List Str} {sp:Sp} {E:XK} {x m:Str} {p pos apos kpos:Pos} {e o:Expr} {es:List Expr} {kws:List Keyword} {te ta:TE} {t tk:TA} {nm:Option Str}
theorem pk_nil:PK X [] tNil:=fun _ _ _ _ H Q I h=>wpAny_evalAll_nil ⟨[],H,I,.nil,h⟩
theorem pk_cons (ha:PE X e te) (hr:PK X kws t):PK X (⟨nm,e,kpos⟩::kws) (tCons te t):=by
 intro pos pins s σ H Q I h
 show wpAny _ _ (evalAll ((do let v ← eval e X.env;standAt pos;pure v)::(backToKw pos (keywordEach kws X.env)).map (·.2))) _ _ s
 refine wpAny_evalAll_cons (wpAny_bind (thn (ha pins s σ H _ I h) fun u s1 ⟨x,H1,I1,r1,q1⟩=>wpAny_bind (wpAny_standAt (wpAny_pure ?_))))
 exact thn (hr pos pins s1 σ H1 _ I1 q1) fun us s2 ⟨xs,H2,I2,r2,q2⟩=>⟨x::xs,H2,I2,.cons r1 r2,q2⟩
structure KBinds (K:PySem.W.Frag) (fd:FuncData) (ps ks:List Str) (g:List Value->List Value->List Value) (gV:List V->List V->List V):Prop where
 to:∀ (s:Shared) (us ws:List Value),K.In s.heap->(g us ws).length=ps.length->BindsTo s fd ⟨us,ks.zip ws⟩ (ps.zip (g us ws))
 rel:∀ {vs:List V} {us:List Value} {zs:List V} {ws:List Value},Vals vs us->Vals zs ws->Vals (gV vs zs) (g us ws)
def tCallK (sp:Sp) (gV:List V->List V->List V) (E:XK) (t tk:TA):TE:=fun σ H Q=>t σ H fun vs H1=>tk σ H1 fun zs H2=>sp (gV vs zs) H2 Q E
variable {g:List Value->List Value->List Value} {gV:List V->List V->List V}
theorem run_fnk {pins:List (Addr×Obj)} {σ:St} {H:Hp} {s:Shared} {Q:VK} {us ws:List Value} {vs zs:List V} (F:FnOk X.prog X.w X.K X.mg X.base CX k f fd ps sp) (hr:Room k X.A) (hb:KBinds X.K fd ps ks g gV) (hx:Passes CX X E)
 (I:Inv X pins σ H s) (r:Vals vs us) (rz:Vals zs ws) (h:sp (gV vs zs) H Q E):wpAny (model X.prog X.w) X.A (call (.ref f) us (ks.zip ws)) (EP X pins σ Q) X.xe s:=by
 have r2:=hb.rel r rz
 have hl:(g us ws).length=ps.length:=by rw [← r2.length];exact F.len _ _ _ _ h
 refine wpAny_call (codeAny_mono (F.run X.A X.stack s H ⟨us,ks.zip ws⟩ (g us ws) (gV vs zs) Q E hr I.env0 (hb.to s us ws I.kIn hl) r2 h) fun r s' hq=>?_)
 cases r with
 |error e=>exact hx pins σ H s e s' I hq
 | ok fl=>
   cases fl with
   |ret u=>exact I.after hq
   |next=>exact False.elim hq
   |brk=>exact False.elim hq
   |cont=>exact False.elim hq
theorem pe_callK (F:FnOk X.prog X.w X.K X.mg X.base CX k f fd ps sp) (hr:Room k X.A) (hg:Gl X x) (hm:X.mg x=some (.ref f)) (hk:PySem.W.keepIn X.K (.ref f)=true) (hb:KBinds X.K fd ps ks g gV) (hx:Passes CX X E)
 (ha:PA X (e::es) t) (hkw:PK X kws tk) (hall:(backToKw pos (keywordEach kws X.env)).all (·.1.isSome)=true:=by rfl) (hks:(backToKw pos (keywordEach kws X.env)).filterMap (·.1)=ks:=by rfl)
 (hdb:(x == ("__debug__" : Str))=false:=by decide) (he:starEach (e::es) X.env=(false,eval e X.env)::starEach es X.env:=by rfl)
 (hpl:((backTo pos (starEach (e::es) X.env)).any (·.1) || (backToKw pos (keywordEach kws X.env)).any (·.1.isNone))=false:=by rfl) :
 PE X (.Call (.Name x p) (e::es) kws pos) (tCallK sp gV E t tk):=by
 intro pins s σ H Q I h
 refine wpAny_Call_Name_kw (ld_glob I hg hm ?_ hdb)
 refine PySem.W.callWith_KW (h₀:=X.base) I.ok.mod.kin hk hall (thn (ha pos pins s σ H _ I h) fun us s1 ⟨vs,H1,I1,r,q⟩=>?_) hpl he
 refine thn (hkw pos pins s1 σ H1 _ I1 q) fun ws s2 ⟨zs,H2,I2,rz,q2⟩=>⟨I2.kIn,?_⟩
 rw [hks]
 exact run_fnk F hr hb hx I2 r rz q2
end
structure FnScope (N P:List Str) (sc:Scope):Prop where
 kind:sc.kind=.function
 co:sc.isCoroutine=false
 gen:sc.isGenerator=false
 nd:N.Nodup
 pre:N.take P.length=P
 par:∀ x∈P,sc.names.lookup x=some .local∨sc.names.lookup x=some .cell
 nofree:∀ y∈sc.names,y.2≠.free
theorem bindL_out {kindOf:Str->Option NameKind} {x:Str}:∀ {binds:List (Str×Value)} {m:Str->Option Value},(∀ v,(x,v)∉binds)->bindL kindOf binds m x=m x
 |[],_,_=>rfl
 | (n,v)::r,m,h=>by
   unfold bindL
   rw [bindL_out fun w hw=>h w (List.mem_cons_of_mem _ hw)]
   split
   ·have:x≠n:=by rintro rfl;exact h v List.mem_cons_self
    simp [this]
   ·rfl
theorem bindC_out {kindOf:Str->Option NameKind} {x:Str}:∀ {binds:List (Str×Value)} {m:Str->Option Value},(∀ v,(x,v)∉binds)->bindC kindOf binds m x=m x
 |[],_,_=>rfl
 | (n,v)::r,m,h=>by
   unfold bindC
   rw [bindC_out fun w hw=>h w (List.mem_cons_of_mem _ hw)]
   split
   ·rfl
   ·have:x≠n:=by rintro rfl;exact h v List.mem_cons_self
    simp [this]
theorem bindL_get {kindOf:Str->Option NameKind} {x:Str} {v:Value}:∀ {P:List Str} {vs:List Value} {i:Nat} {m:Str->Option Value},P.Nodup->P[i]?=some x->vs[i]?=some v->kindOf x=some .local->
 bindL kindOf (P.zip vs) m x=some v
 |[],_,_,_,_,h,_,_=>by simp at h
 |_::_,[],_,_,_,_,h,_=>by simp at h
 | p::P,w::vs,0,m,nd,h1,h2,hk=>by
   simp at h1 h2;subst h1;subst h2
   show bindL kindOf ((p,w)::P.zip vs) m p=_
   unfold bindL
   rw [bindL_out fun v hv=>(List.nodup_cons.mp nd).1 (List.of_mem_zip hv).1,if_pos hk]
   simp
 | p::P,w::vs,i+1,m,nd,h1,h2,hk=>by
   show bindL kindOf ((p,w)::P.zip vs) m x=_
   unfold bindL
   exact bindL_get (i:=i) (List.nodup_cons.mp nd).2 (by simpa using h1) (by simpa using h2) hk
theorem bindC_get {kindOf:Str->Option NameKind} {x:Str} {v:Value}:∀ {P:List Str} {vs:List Value} {i:Nat} {m:Str->Option Value},P.Nodup->P[i]?=some x->vs[i]?=some v->kindOf x≠some .local->
 bindC kindOf (P.zip vs) m x=some v
 |[],_,_,_,_,h,_,_=>by simp at h
 |_::_,[],_,_,_,_,h,_=>by simp at h
 | p::P,w::vs,0,m,nd,h1,h2,hk=>by
   simp at h1 h2;subst h1;subst h2
   show bindC kindOf ((p,w)::P.zip vs) m p=_
   unfold bindC
   rw [bindC_out fun v hv=>(List.nodup_cons.mp nd).1 (List.of_mem_zip hv).1,if_neg hk]
   simp
 | p::P,w::vs,i+1,m,nd,h1,h2,hk=>by
   show bindC kindOf ((p,w)::P.zip vs) m x=_
   unfold bindC
   exact bindC_get (i:=i) (List.nodup_cons.mp nd).2 (by simpa using h1) (by simpa using h2) hk
def start (N:List Str) (vs:List V):St:=vs.map some++List.replicate (N.length-vs.length) none
def cxOf (CX:CXT) (P:Program) (w:World) (K:PySem.W.Frag) (mg:Str->Option Value) (base:Heap) (N:List Str) (qual:Str) (scope:Scope) (f:Addr) (cd:Value) (A:Around) (outer:List Env) (s:Shared) (H:Hp) (E:XK):Cx where
 prog:=P
 w:=w
 K:=K
 mg:=mg
 base:=base
 A:=A.deeper (envOfC qual scope s.heap.objs.size f cd)
 N:=N
 s₀:=s
 H₀:=H
 env:=envOfC qual scope s.heap.objs.size f cd
 outer:=outer
 stack:=envOfC qual scope s.heap.objs.size f cd::outer
 ex:=[]
 calm:=true
 fn:=fun _=>true
 pn:=[]
 xe:=fun e s'=>wpAny (model P w) (A.deeper (envOfC qual scope s.heap.objs.size f cd)) (leaving (envOfC qual scope s.heap.objs.size f cd) e) (fun _ s''=>CX outer H s E e s'') (fun e' s''=>CX outer H s E e' s'') s'
theorem cell_has {sc:Scope} {n:Nat} {x:Str} (h:sc.names.lookup x=some .cell):∃ c,(cellsFrom n sc.names []).lookup x=some c:=by
 have q:=PySem.W.cellsFrom_some sc.names n [] (.inl h)
 exact Option.isSome_iff_exists.mp q
theorem inv_start {CX:CXT} {P:Program} {w:World} {K:PySem.W.Frag} {mg:Str->Option Value} {base:Heap} {N ps:List Str} {qual:Str} {scope:Scope} {f:Addr} {cd:Value} {A:Around} {outer:List Env} {s s1:Shared} {H:Hp} {E:XK} {us:List Value} {vs:List V}
 (S:FnScope N ps scope) (hd:A.handled=none) (e0:Env0 P w K mg base A outer s H) (hl:vs.length=ps.length) (r:Vals vs us)
 (x:InCallC s s.heap.objs.size (bindL (envOfC qual scope s.heap.objs.size f cd).kindOf (ps.zip us) fun _=>none) (cellsFrom (s.heap.objs.size+1) scope.names []) (bindC (envOfC qual scope s.heap.objs.size f cd).kindOf (ps.zip us) fun _=>none) s1) :
 Inv (cxOf CX P w K mg base N qual scope f cd A outer s H E) [] (start N vs) H s1:=by
 have hpl:ps.length≤N.length:=by have:=congrArg List.length S.pre;rw [List.length_take] at this;omega
 obtain ⟨h1,tk,rfl,hk⟩:=x.done
 have noA:∀ b:Addr,b∉(cxOf CX P w K mg base N qual scope f cd A outer s H E).ex:=fun b z=>absurd (show b∈([]:List Addr) from z) (by simp)
 refine ⟨⟨e0.mod,S.kind,rfl,rfl,Nat.le_refl _,fun y z c h1 h2=>?_,fun y hy=>?_,fun y c _ h=>?_,fun _=>hd,Around.frames_deeper e0.frames,.inr ⟨rfl,rfl⟩,fun b z=>absurd z (noA b),e0.bs,e0.bsz,fun b _ _=>noA b,fun b z=>absurd z (noA b),e0.funs,e0.frf⟩,
  rfl,e0.bare,Un.kept hk,⟨_,x.toInCall.ns,fun i y v h1 h2 h3=>?_⟩,fun y c h=>⟨_,x.cell y c h⟩,e0.hok.fresh (Nat.le_refl _),fun y c h=>?_,fun p hp=>absurd (show p∈([]:List (Addr×Obj)) from hp) (by simp),e0.hok.kept hk,?_⟩
 ·exact name_of_addr x.apart (PySem.mem_of_lookup h1) (PySem.mem_of_lookup h2)
 ·have hy:scope.names.lookup y=some .cell∨scope.names.lookup y=some .free:=hy
  rcases hy with hy|hy
  ·exact cell_has hy
  ·exact absurd rfl (S.nofree _ (PySem.mem_of_lookup hy))
 ·exact Nat.le_of_lt (x.above y c (PySem.mem_of_lookup h))
 ·have hi:i<vs.length:=by
   unfold start at h2
   by_cases hi:i<vs.length
   ·exact hi
   ·rw [List.getElem?_append_right (by simpa using hi)] at h2
    rw [List.getElem?_replicate] at h2
    split at h2 <;> cases h2
  have ha:vs[i]?=some v:=by
   unfold start at h2
   rw [List.getElem?_append_left (by simpa using hi),List.getElem?_map] at h2
   cases e:vs[i]? with
   |none=>rw [e] at h2;cases h2
   |some a=>rw [e] at h2;cases h2;rfl
  obtain ⟨u,hu,rv⟩:=r.get ha
  have hp:ps[i]?=some y:=by
   rw [← S.pre,List.getElem?_take_of_lt (by omega)];exact h1
  have ndP:ps.Nodup:=by rw [← S.pre];exact S.nd.sublist (List.take_sublist _ _)
  refine ⟨u,rv,?_⟩
  rcases S.par y (List.mem_of_getElem? hp) with k|k
  ·exact .inl ⟨k,bindL_get ndP hp hu k⟩
  ·obtain ⟨c,e⟩:=cell_has (n:=s.heap.objs.size+1) k
   refine .inr ⟨.inl k,c,e,?_⟩
   have q:=x.cell y c e
   rw [bindC_get ndP hp hu (by show scope.names.lookup y≠_;rw [k];decide)] at q
   exact q
 ·exact e0.hok.fresh (Nat.le_of_lt (x.above y c (PySem.mem_of_lookup h)))
 ·unfold start
  show _=N.length
  rw [List.length_append,List.length_map,List.length_replicate]
  omega
theorem fn_of {CX:CXT} {P:Program} {w:World} {K:PySem.W.Frag} {mg:Str->Option Value} {base:Heap} {k:Nat} {f:Addr} {name qual:Str} {params:Arguments} {body:List Stmt} {scope:Scope} {dV kV doc pm cdv ct oc:Value} {an od:Option Addr}
 {osl:Array (Option Value)} {N ps:List Str} {sp:Sp} (lk:K.lookup f=some ⟨oc,od,.func (PySem.W.fnOf name qual params body scope dV kV doc pm an cdv ct),osl⟩) (hcd:PySem.W.codeIn K cdv qual=true) (S:FnScope N ps scope)
 (len:∀ vs H Q E,sp vs H Q E->vs.length=ps.length)
 (hbody:∀ (A:Around) (outer:List Env) (s:Shared) (H:Hp) (vs:List V) (Q:VK) (E:XK),Room k (A.deeper (envOfC qual scope s.heap.objs.size f cdv))->sp vs H Q E->
  ∃ t,PSs (cxOf CX P w K mg base N qual scope f cdv A outer s H E) body t/\t { nx:=fun _ H'=>Q .non H',rt:=Q } (start N vs) H) :
 FnOk P w K mg base CX (k+1) f (PySem.W.fnOf name qual params body scope dV kV doc pm an cdv ct) ps sp:=by
 refine ⟨len,fun A outer s H args us vs Q E hr e0 hb r hsp=>?_⟩
 have hl:=len _ _ _ _ hsp
 have KX:K.In s.heap:=e0.mod.kin.keeps fun b o e=>(e0.bs b o e).1
 have lim:s.heap.NoLimit:=e0.mod.nolimit.keeps fun b o e=>(e0.bs b o e).1
 have hkind:∀ y∈ps.zip us,scope.names.lookup y.1=some .local∨(scope.names.lookup y.1=some .cell/\((cellsFrom (s.heap.objs.size+1) scope.names []).lookup y.1).isSome=true):=fun ⟨n,v⟩ hy=>by
  rcases S.par n (List.of_mem_zip hy).1 with q|q
  ·exact .inl q
  ·exact .inr ⟨q,PySem.W.cellsFrom_some _ _ _ (.inl q)⟩
 refine codeAny_call_function hr.depth (KX _ _ lk) rfl S.co S.gen rfl (PySem.W.codeRec_of KX hcd) (hb _ _ _ _ ?_)
 refine wpAny_newFunctionEnv_cells S.kind hkind fun env he s1 x=>?_
 subst he
 refine ⟨lim.keeps x.toInCall.keep,codeAny_func ?_⟩
 obtain ⟨t,ht,hq⟩:=hbody A outer s H vs Q E (hr.deeper _) hsp
 have I:Inv (cxOf CX P w K mg base N qual scope f cdv A outer s H E) [] (start N vs) H s1:=inv_start S hr.hd e0 hl r x
 refine wpAny_mono (ht [] s1 (start N vs) H _ I hq) (fun fl s' hs=>?_) fun e s' hs=>hs
 have fin:∀ {σ':St} {H':Hp} {v:V} {u:Value},Inv (cxOf CX P w K mg base N qual scope f cdv A outer s H E) [] σ' H' s'->RelV v u->Q v H'->CE outer P w H s Q u s':=
  fun {σ' H' v u} J rv q=>⟨v,H',J.os,J.bare,J.base,J.hok,rv,q⟩
 cases fl with
 | ret u=>
   obtain ⟨v,σ',H',J,rv,q⟩:=hs
   exact fin J rv q
 | next=>
   obtain ⟨σ',H',J,q⟩:=hs
   exact fin (v:=V.non) (u:=Value.none) J rfl q
 | brk=>
   obtain ⟨_,_,_,q⟩:=hs
   exact False.elim q
 | cont=>
   obtain ⟨_,_,_,q⟩:=hs
   exact False.elim q
section
variable {X:Cx} {x:Str} {p pos:Pos} {e:Expr} {es:List Expr} {t:TA} {id T:String} {r:List V->Hp->VK->Prop}
def tCB (r:List V->Hp->VK->Prop) (t:TA):TE:=fun σ H Q=>t σ H fun vs H1=>r vs H1 Q
theorem pe_callB (hc:CallR X (.builtin id) r) (hg:Gl X x) (hm:X.mg x=none) (hv:bootBuiltins x=some (.builtin id)) (ha:PA X (e::es) t) (hn:x ≠ "__name__":=by decide) (hdb:(x == ("__debug__" : Str))=false:=by decide)
 (he:starEach (e::es) X.env=(false,eval e X.env)::starEach es X.env:=by rfl) (hpl:(backTo pos (starEach es X.env)).any (·.1)=false:=by rfl):PE X (.Call (.Name x p) (e::es) [] pos) (tCB r t):=by
 intro pins s σ H Q I h
 refine wpAny_Call_Name_kw (ld_blt I hg hm hv ?_ hn hdb)
 exact PyProof.Rows.callWith_builtin1 (thn (ha pos pins s σ H _ I h) fun us s1 ⟨vs,H1,I1,r1,q1⟩=>hc pins s1 σ H1 vs us Q I1 r1 q1) he hpl
theorem pe_callTy (hc:CallR X (.type T) r) (hg:Gl X x) (hm:X.mg x=none) (hv:bootBuiltins x=some (.type T)) (ha:PA X (e::es) t) (hn:x ≠ "__name__":=by decide) (hdb:(x == ("__debug__" : Str))=false:=by decide)
 (he:starEach (e::es) X.env=(false,eval e X.env)::starEach es X.env:=by rfl) (hpl:(backTo pos (starEach es X.env)).any (·.1)=false:=by rfl):PE X (.Call (.Name x p) (e::es) [] pos) (tCB r t):=by
 intro pins s σ H Q I h
 refine wpAny_Call_Name_kw (ld_blt I hg hm hv ?_ hn hdb)
 exact PyProof.Rows.callWith_type1 (thn (ha pos pins s σ H _ I h) fun us s1 ⟨vs,H1,I1,r1,q1⟩=>hc pins s1 σ H1 vs us Q I1 r1 q1) he hpl
end
end L2
namespace HT
open PySem PyProof.Rows
section
open PySem.SeqAt
open PySem.AutoSeq1 (wpAny_loadPart')
open PySem.MeetsSeq PySem.MeetsSeq2 PySem.MeetsSeq3
end
section
variable {prog:Program} {w:World} {A:Around} {E:Value->Shared->Prop} {s:Shared}
def sIx (n d:Nat):Option Int->Nat
 |none=>d
 |some v=>if v<0 then (v+(n:Int)).toNat else min v.toNat n
theorem sIx_none (n d:Nat):sIx n d none=d:=rfl
theorem sIx_nat (n d k:Nat):sIx n d (some (k:Int))=min k n:=by
 show (if (k:Int)<0 then ((k:Int)+(n:Int)).toNat else min (k:Int).toNat n)=min k n
 rw [if_neg (by omega),Int.toNat_natCast]
end
end HT
namespace L2
open PySem PySem.Spec PyProof.Rows
abbrev TO:=St->Hp->(Option Int->Hp->Prop)->Prop
def PO (X:Cx) (e:Option Expr) (t:TO):Prop:=
 ∀ (pins:List (Addr×Obj)) (s:Shared) (σ:St) (H:Hp) (Q:Option Int->Hp->Prop),Inv X pins σ H s->t σ H Q->
   wpAny (model X.prog X.w) X.A (evalPart e X.env) (fun u s'=>∃ o H',Inv X pins σ H' s'/\IsPart u o/\Q o H') X.xe s
def tNoPart:TO:=fun _ H Q=>Q none H
def tPart (t:TE):TO:=fun σ H Q=>t σ H fun x H1=>∃ i,x=.int i/\Q (some i) H1
section
variable {X:Cx} {e:Expr} {te:TE} {lo hi:Option Expr} {tl th:TO} {pos p2:Pos}
theorem po_none:PO X none tNoPart:=by
 intro pins s σ H Q I h
 rw [evalPart_none]
 exact wpAny_pure ⟨none,H,I,.none,h⟩
theorem po_some (h:PE X e te):PO X (some e) (tPart te):=by
 intro pins s σ H Q I hw
 rw [evalPart_some]
 refine thn (h pins s σ H _ I hw) fun u s1 ⟨x,H1,I1,r1,q1⟩=>?_
 obtain ⟨i,rfl,q⟩:=q1
 obtain ⟨t,rfl⟩:=r1
 exact ⟨some i,H1,I1,.int i t,q⟩
def SlR (X:Cx) (r:V->Option Int->Option Int->Hp->VK->Prop):Prop:=
 ∀ (pins:List (Addr×Obj)) (s:Shared) (σ:St) (H:Hp) (x:V) (v vl vu:Value) (lo hi:Option Int) (sl:Addr) (Q:VK),Inv X pins σ H s->RelV x v->s.heap.IsSliceOf sl vl vu .none->IsPart vl lo->IsPart vu hi->r x lo hi H Q->
   ∃ T id,typeLookup (.type T) "__getitem__" = pure (some (.builtin id))/\s.TypeIs v T/\wpAny (model X.prog X.w) X.A (getItem v (.ref sl)) (EP X pins σ Q) X.xe s
def tSl (r:V->Option Int->Option Int->Hp->VK->Prop) (te:TE) (tl th:TO):TE:=fun σ H Q=>te σ H fun x H1=>tl σ H1 fun l H2=>th σ H2 fun u H3=>r x l u H3 Q
theorem pe_slice {r:V->Option Int->Option Int->Hp->VK->Prop} (hr:SlR X r) (he:PE X e te) (hl:PO X lo tl) (hu:PO X hi th):PE X (.Subscript e (.Slice lo hi none p2) pos) (tSl r te tl th):=by
 intro pins s σ H Q I h
 refine Subscript_ (thn (he pins s σ H _ I h) fun v s1 ⟨x,H1,I1,r1,q1⟩=>?_)
 refine wpAny_Slice (thn (hl pins s1 σ H1 _ I1 q1) fun vl s2 ⟨l,H2,I2,pl,q2⟩=>thn (hu pins s2 σ H2 _ I2 q2) fun vu s3 ⟨u,H3,I3,pu,q3⟩=>?_)
 rw [evalPart_none]
 refine wpAny_pure ?_
 have I4:Inv X pins σ H3 { s3 with heap:=s3.heap.push { cls:=.type "slice",data:=.fields #[vl,vu,.none] } }:=I3.kept (t':=s3.toks) fun b ob q=>Heap.get?_push_of_some _ q
 obtain ⟨T,id,hT,ht,hg⟩:=hr pins { s3 with heap:=s3.heap.push { cls:=.type "slice",data:=.fields #[vl,vu,.none] } } σ H3 x v vl vu l u s3.heap.objs.size Q I4 r1 (Heap.IsSliceOf.new ..) pl pu q3
 show wpAny (model X.prog X.w) X.A (subscriptTail e (.Slice lo hi none p2) v (.ref s3.heap.objs.size)) (EP X pins σ Q) X.xe { s3 with heap:=s3.heap.push { cls:=.type "slice",data:=.fields #[vl,vu,.none] } }
 exact tail_any (ops:=[.ref s3.heap.objs.size,v]) ht hT hg (by with_unfolding_all rfl)
def cutV (xs:List V) (lo hi:Option Int):List V:=(xs.drop (HT.sIx xs.length 0 lo)).take (HT.sIx xs.length xs.length hi-HT.sIx xs.length 0 lo)
theorem cutV_length (xs:List V) (lo hi:Option Int):(cutV xs lo hi).length≤xs.length:=by
 unfold cutV
 rw [List.length_take,List.length_drop]
 omega
end
def ixN (n:Nat) (i:Int):Option Nat:=if 0≤i then (if i<n then some i.toNat else none) else if -(n:Int)≤i then some (i+n).toNat else none
def atI {α:Type} (xs:List α) (i:Int):Option α:=(ixN xs.length i).bind fun j=>xs[j]?
theorem ixN_seq {n:Nat} {i:Int} {j:Nat} (h:ixN n i=some j):seqIndex? i n=some j/\j<n/\-(n:Int)≤i/\i<n:=by
 unfold ixN at h
 by_cases h0:0≤i
 ·rw [if_pos h0] at h
  by_cases h1:i<n
  ·rw [if_pos h1] at h
   have e:i.toNat=j:=Option.some.inj h
   exact ⟨by rw [seqIndex_of h0 h1,e],by omega,by omega,h1⟩
  ·rw [if_neg h1] at h;cases h
 ·rw [if_neg h0] at h
  by_cases h1:-(n:Int)≤i
  ·rw [if_pos h1] at h
   have e:(i+n).toNat=j:=Option.some.inj h
   exact ⟨by rw [seqIndex_neg (by omega) h1,e],by omega,h1,by omega⟩
  ·rw [if_neg h1] at h;cases h
theorem atI_get {α:Type} {xs:List α} {i:Int} {v:α} (h:atI xs i=some v):∃ j,seqIndex? i xs.length=some j/\xs[j]?=some v/\j<xs.length/\-(xs.length:Int)≤i/\i<xs.length:=by
 unfold atI at h
 cases e:ixN xs.length i with
 |none=>rw [e] at h;cases h
 | some j=>
   rw [e] at h
   obtain ⟨h1,h2,h3,h4⟩:=ixN_seq e
   exact ⟨j,h1,h,h2,h3,h4⟩
theorem atI_nat {α:Type} {xs:List α} {j:Nat} {v:α} (h:xs[j]?=some v):atI xs (j:Int)=some v:=by
 have hj:j<xs.length:=(List.getElem?_eq_some_iff.mp h).1
 have e:ixN xs.length (j:Int)=some j:=by
  unfold ixN
  rw [if_pos (by omega),if_pos (by omega)];simp
 unfold atI;rw [e];exact h
def PlainIx (b:Expr):Prop:=∀ o i,subscripted b false o i=operate [o,i] (getItem o i)
def IxR (X:Cx) (r:R2):Prop:=
 ∀ (value slice:Expr) (pins:List (Addr×Obj)) (s:Shared) (σ:St) (H:Hp) (x y:V) (v u:Value) (Q:VK),Inv X pins σ H s->RelV x v->RelV y u->r x y H Q->
   subscripted slice false v u=operate [v,u] (getItem v u)->wpAny (model X.prog X.w) X.A (subscriptTail value slice v u) (EP X pins σ Q) X.xe s
def MtR (X:Cx) (id:String) (r:V->List V->Hp->VK->Prop):Prop:=
 ∀ (pins:List (Addr×Obj)) (s:Shared) (σ:St) (H:Hp) (x:V) (xs:List V) (v:Value) (us:List Value) (Q:VK),Inv X pins σ H s->RelV x v->Vals xs us->r x xs H Q->
   wpAny (model X.prog X.w) X.A (call (.builtin id) (v::us)) (EP X pins σ Q) X.xe s
section
variable {X:Cx} {a b:Expr} {ta tb:TE} {pos:Pos}
theorem IxR.or {r r':R2} (h:IxR X r) (h':IxR X r'):IxR X (fun x y H Q=>r x y H Q∨r' x y H Q):=by
 intro value slice pins s σ H x y v u Q I rx ry q hs
 rcases q with q|q
 ·exact h value slice pins s σ H x y v u Q I rx ry q hs
 ·exact h' value slice pins s σ H x y v u Q I rx ry q hs
theorem pe_ix {r:R2} (hr:IxR X r) (ha:PE X a ta) (hb:PE X b tb) (hs:PlainIx b):PE X (.Subscript a b pos) (tOp r ta tb):=by
 intro pins s σ H Q I h
 exact Subscript_ (binT ha hb I h fun v u s2 x y H2 I2 rx ry q=>hr a b pins s2 σ H2 x y v u Q I2 rx ry q (hs _ _))
def rIxL (K:PySem.W.Frag):R2:=fun x y H Q=>∃ p xs i v,x=.ref p/\y=.int i/\SqL K H p xs/\atI xs i=some v/\Q v H
def rIxT (K:PySem.W.Frag):R2:=fun x y H Q=>∃ p xs i v,x=.ref p/\y=.int i/\SqT K H p xs/\atI xs i=some v/\Q v H
def rIxS:R2:=fun x y H Q=>∃ z i c,x=.str z/\y=.int i/\z.length≤sizeLine/\atI z.cps.toList i=some c/\Q (.str ⟨#[c]⟩) H
theorem ix_list:IxR X (rIxL X.K):=by
 intro value slice pins s σ H x y v u Q I rx ry h hs
 obtain ⟨p,xs,i,z,rfl,rfl,hq,he,q⟩:=h
 cases rx
 obtain ⟨t,rfl⟩:=ry
 obtain ⟨its,r,pl,hz⟩:=I.list hq
 obtain ⟨j,h1,h2,h3,h4,h5⟩:=atI_get he
 obtain ⟨w,ew,rw'⟩:=r.get h2
 have hl:=r.length
 have hn:=line63
 have fin:EP X pins σ Q w s:=⟨z,H,I,rw',q⟩
 by_cases h0:0≤i
 ·have hj:i.toNat=j:=by
   rw [seqIndex_of h0 h5] at h1
   exact Option.some.inj h1
  exact item_listR pl.isList h0 (by omega) (by rw [hj];simpa using ew) fin hs
 ·have hj:(i+(its.toArray.size:Int)).toNat=j:=by
   rw [seqIndex_neg (by omega) h4] at h1
   rw [List.size_toArray,← hl]
   exact Option.some.inj h1
  exact subscriptTail_builtinR (x:=w) pl.isList.typeIs slot_list_getitem.lookup
   (wpAny_getItem_list_neg (Q:=fun r s'=>r=w/\EP X pins σ Q r s') pl.isList (by omega) (by rw [List.size_toArray] <;> omega) (by omega) (by rw [hj];simpa using ew) ⟨rfl,fin⟩) hs
theorem ix_tup:IxR X (rIxT X.K):=by
 intro value slice pins s σ H x y v u Q I rx ry h hs
 obtain ⟨p,xs,i,z,rfl,rfl,hq,he,q⟩:=h
 cases rx
 obtain ⟨t,rfl⟩:=ry
 obtain ⟨its,r,pl,hz⟩:=I.tuple hq
 obtain ⟨j,h1,h2,h3,h4,h5⟩:=atI_get he
 obtain ⟨w,ew,rw'⟩:=r.get h2
 have hl:=r.length
 have hn:=line63
 have fin:EP X pins σ Q w s:=⟨z,H,I,rw',q⟩
 exact subscriptTail_builtinR (x:=w) pl.typeIs slot_tuple_getitem.lookup
  (getItem_tuple (j:=j) (Q:=fun r s'=>r=w/\EP X pins σ Q r s') pl (by omega) (by omega) (by rw [List.size_toArray,← hl];exact h1) (by simpa using ew) ⟨rfl,fin⟩) hs
theorem ix_str:IxR X rIxS:=by
 intro value slice pins s σ H x y v u Q I rx ry h hs
 obtain ⟨z,i,c,rfl,rfl,hz,he,q⟩:=h
 obtain ⟨t,rfl⟩:=rx
 obtain ⟨t',rfl⟩:=ry
 obtain ⟨j,h1,h2,h3,h4,h5⟩:=atI_get he
 have hl:z.cps.toList.length=z.length:=by simp [Str.length]
 rw [hl] at h1 h4 h5
 have hn:=line63
 exact tail_any (typeIs_str s z t) slot_str_getitem.lookup (getItem_str (c:=c) (by
  have e1:decide (i < -(2 ^ 63:Int))=false:=decide_eq_false (by omega)
  have e2:decide (i ≥ 2 ^ 63)=false:=decide_eq_false (by omega)
  rw [e1,e2,Bool.or_false]) (by rw [h1];simpa using h2) ⟨.str ⟨#[c]⟩,H,I.tok _,⟨_,rfl⟩,q⟩) hs
def rIx (K:PySem.W.Frag):R2:=fun x y H Q=>rIxL K x y H Q∨rIxT K x y H Q∨rIxS x y H Q
theorem ix_seq:IxR X (rIx X.K):=ix_list.or (ix_tup.or ix_str)
theorem slice_bounds (lo hi:Option Int) (n:Nat):(sliceBounds lo hi none n).1=((HT.sIx n 0 lo:Nat):Int)/\(sliceBounds lo hi none n).2.1=((HT.sIx n n hi:Nat):Int)/\(sliceBounds lo hi none n).2.2=1:=by
 refine ⟨?_,?_,rfl⟩
 ·cases lo with
  |none=>simp [sliceBounds,HT.sIx]
  | some i=>
    simp only [sliceBounds,HT.sIx,Option.getD_none,show (1:Int) > 0 by decide,if_true]
    by_cases h:i<0
    ·simp only [h,if_true] <;> omega
    ·simp only [h,if_false] <;> omega
 ·cases hi with
  |none=>simp [sliceBounds,HT.sIx]
  | some i=>
    simp only [sliceBounds,HT.sIx,Option.getD_none,show (1:Int) > 0 by decide,if_true]
    by_cases h:i<0
    ·simp only [h,if_true] <;> omega
    ·simp only [h,if_false] <;> omega
theorem slicePick_cut (its:List Value) (lo hi:Option Int):slicePick its.toArray lo hi none=((its.drop (HT.sIx its.length 0 lo)).take (HT.sIx its.length its.length hi-HT.sIx its.length 0 lo)).toArray:=by
 obtain ⟨h1,h2,h3⟩:=slice_bounds lo hi its.toArray.size
 unfold slicePick
 rw [h1,h2,h3]
 simp only [sliceRange_one,pick_run,List.size_toArray] <;> rfl
def rSlL (K:PySem.W.Frag):V->Option Int->Option Int->Hp->VK->Prop:=fun x lo hi H Q=>∃ a xs,x=.ref a/\SqL K H a xs/\∀ p,H p=none->Q (.ref p) (upd H p (.lst (cutV xs lo hi)))
theorem sl_list:SlR X (rSlL X.K):=by
 intro pins s σ H x v vl vu lo hi sl Q I rx hs pl pu h
 obtain ⟨a,xs,rfl,hx,q⟩:=h
 cases rx
 obtain ⟨its,r,ht,hz⟩:=I.list hx
 have hlen:=r.length
 refine ⟨"list",_,slot_list_getitem.lookup,ht.isList.typeIs,?_⟩
 refine wpAny_getItem_list_slice ht.isList hs pl pu .none (by simp) ?_ (by rw [List.size_toArray] <;> omega)
 rw [slicePick_cut,← hlen]
 refine ⟨.ref s.heap.objs.size,_,I.laid (t':=s.toks) (o:=.lst (cutV xs lo hi)) (fun b ob q=>Heap.get?_push_of_some _ q) (Nat.le_refl _) ?_,rfl,q _ (I.hok.fresh (Nat.le_refl _))⟩
 exact ⟨Nat.le_trans (cutV_length xs lo hi) hz,_,0,(r.drop (HT.sIx xs.length 0 lo)).take (HT.sIx xs.length xs.length hi-HT.sIx xs.length 0 lo),Heap.get?_push_size _ rfl⟩
theorem call_len_seq:CallR X (.builtin "len") (fun xs H Q=>∃ p ys,xs=[.ref p]/\(SqL X.K H p ys∨SqT X.K H p ys)/\Q (.int ys.length) H):=by
 intro pins s σ H xs us Q I r h
 obtain ⟨p,ys,rfl,hq,q⟩:=h
 obtain ⟨u,rfl,rx⟩:=vals1 r
 cases rx
 have hn:=line63
 rcases hq with hq|hq
 ·obtain ⟨its,r',pl,hz⟩:=I.list hq
  have hlen:=r'.length
  exact Calls.call_len_list pl.isList (by simp only [List.size_toArray] <;> omega) ⟨.int ys.length,H,I.tok _,⟨s.toks+1,by rw [List.size_toArray,hlen]⟩,q⟩
 ·obtain ⟨its,r',pl,hz⟩:=I.tuple hq
  have hlen:=r'.length
  exact len_tuple pl (by simp only [List.size_toArray] <;> omega) ⟨.int ys.length,H,I.tok _,⟨s.toks+1,by rw [List.size_toArray,hlen]⟩,q⟩
theorem call_list_of:CallR X (.type "list") (fun xs H Q=>∃ p ys,xs=[.ref p]/\(SqL X.K H p ys∨SqT X.K H p ys)/\∀ l,H l=none->Q (.ref l) (upd H l (.lst ys))):=by
 intro pins s σ H xs us Q I r h
 obtain ⟨p,ys,rfl,hq,q⟩:=h
 obtain ⟨u,rfl,rx⟩:=vals1 r
 cases rx
 have fin:∀ (its:List Value),Vals ys its->ys.length≤sizeLine->∀ (h':Heap) (c':Nat),(∀ b o',s.heap.get? b=some o'->h'.get? b=some o')->
  h'.get? s.heap.objs.size=some { cls:=.type "list",dict:=none,data:=.seq its.toArray c',slots:=#[] }->EP X pins σ Q (.ref s.heap.objs.size) { s with heap:=h' }:=fun its r' hz h' c' kp e=>
  ⟨.ref s.heap.objs.size,_,I.laid (t':=s.toks) kp (Nat.le_refl _) (show ObjOk X.prog X.w _ h' _ (.lst ys) from ⟨hz,its,c',r',e⟩),rfl,q _ (I.hok.fresh (Nat.le_refl _))⟩
 rcases hq with hq|hq
 ·obtain ⟨its,r',pl,hz⟩:=I.list hq
  have hlen:=r'.length
  obtain ⟨o,ho,hc,n,hd⟩:=pl.isList
  exact call_list_seq p (.inl rfl) ho hc hd (fun h' c' kp e=>fin its r' hz h' c' kp e) (by simp only [List.size_toArray] <;> omega)
 ·obtain ⟨its,r',pl,hz⟩:=I.tuple hq
  have hlen:=r'.length
  obtain ⟨o,ho,hc,n,hd⟩:=pl
  exact call_list_seq p (.inr rfl) ho hc hd (fun h' c' kp e=>fin its r' hz h' c' kp e) (by simp only [List.size_toArray] <;> omega)
def tyV (K:PySem.W.Frag) (T:String) (x:V) (H:Hp):Prop:=match x with
 |.str _=>T = "str"
 |.int _=>T = "int"
 |.ref p=>(T = "list"/\∃ xs,SqL K H p xs)∨(T = "tuple"/\∃ o,K.lookup p=some o/\o.cls=.type "tuple"/\o.dict=none)∨
  (T = "dict"/\((∃ kvs,H p=some (.dK kvs))∨∃ kvs,H p=some (.dT kvs)))∨(T = "set"/\∃ S n,H p=some (.set S n))
 |_=>False
theorem tyV_is {pins:List (Addr×Obj)} {σ:St} {H:Hp} {s:Shared} {T:String} {x:V} {v:Value} (I:Inv X pins σ H s) (r:RelV x v) (ty:tyV X.K T x H) :
 s.TypeIs v T/\∀ a,v=.ref a->∃ ob,s.heap.get? a=some ob/\ob.dict=none:=by
 cases x with
 | str z=>
   obtain ⟨t,rfl⟩:=r
   cases (show T = "str" from ty)
   exact ⟨typeIs_str s z t,fun _ e=>nomatch e⟩
 | int i=>
   obtain ⟨t,rfl⟩:=r
   cases (show T = "int" from ty)
   exact ⟨typeIs_int s i t,fun _ e=>nomatch e⟩
 | ref p=>
   cases r
   rcases ty with ⟨rfl,xs,hq⟩|⟨rfl,o,hk,hc,hd⟩|⟨rfl,hk⟩|⟨rfl,S,n,hk⟩
   ·obtain ⟨its,_,pl,_⟩:=I.list hq
    refine ⟨pl.isList.typeIs,fun a e=>?_⟩
    cases e
    obtain ⟨o,n,e,c,hd,_⟩:=pl
    exact ⟨o,e,hd⟩
   ·refine ⟨⟨o,I.kIn p o hk,hc⟩,fun a e=>?_⟩
    cases e
    exact ⟨o,I.kIn _ o hk,hd⟩
   ·have z:∃ o,s.heap.get? p=some o/\o.ExactDict:=by
     rcases hk with ⟨kvs,hk⟩|⟨kvs,hk⟩
     ·obtain ⟨_,_,_,_,o,_,_,e,ex,_⟩:=I.hok p _ hk
      exact ⟨o,e,ex⟩
     ·obtain ⟨_,_,_,_,o,_,_,e,ex,_⟩:=I.hok p _ hk
      exact ⟨o,e,ex⟩
    obtain ⟨o,e,ex⟩:=z
    refine ⟨⟨o,e,ex.1⟩,fun a e2=>?_⟩
    cases e2
    exact ⟨o,e,ex.2.1⟩
   ·obtain ⟨o,_,_,_,e,ex,_⟩:=I.hok p _ hk
    refine ⟨⟨o,e,ex.1⟩,fun a e2=>?_⟩
    cases e2
    exact ⟨o,e,ex.2.1⟩
 |_=>exact False.elim ty
def tBM (K:PySem.W.Frag) (T:String) (r:V->List V->Hp->VK->Prop) (to:TE) (t:TA):TE:=fun σ H Q=>to σ H fun x H1=>tyV K T x H1/\t σ H1 fun xs H2=>r x xs H2 Q
variable {o e:Expr} {es:List Expr} {to:TE} {t:TA} {name:Str} {apos cpos:Pos} {T id:String} {r:V->List V->Hp->VK->Prop}
theorem pe_bm (pa:PlainAttrs T) (slot:Slot T name id) (hty:typeOf (.builtin id)=pure (.type "method_descriptor")) (hm:MtR X id r) (ho:PE X o to) (ha:PA X (e::es) t)
 (hbase:attributeBase o name X.env (eval o X.env)=eval o X.env:=by rfl)
 (hfew:((backTo cpos (starEach (e::es) X.env)).all (fun x=>!x.1) && (backToKw cpos (keywordEach [] X.env)).all (fun x=>x.1.isSome)
  && decide ((e::es).length+([]:List Keyword).length+(if ([]:List Keyword).isEmpty then 0 else 1)<30))=true:=by rfl)
 (hline:(apos.endLine == cpos.line)=true:=by rfl) (hs:starEach (e::es) X.env=(false,eval e X.env)::starEach es X.env:=by rfl) (hplain:(backTo cpos (starEach es X.env)).any (·.1)=false:=by rfl) :
 PE X (.Call (.Attribute o name apos) (e::es) [] cpos) (tBM X.K T r to t):=by
 intro pins s σ H Q I h
 refine wpAny_Call_method_late hbase hfew hline rfl (thn (ho pins s σ H _ I h) fun v s1 ⟨x,H1,I1,r1,ty,q1⟩=>?_)
 obtain ⟨h1,h2⟩:=tyV_is I1 r1 ty
 refine ⟨T,id,pa,slot,hty,h1,h2,?_⟩
 have hA:=ha cpos pins s1 σ H1 _ I1 q1
 rw [hs] at hA ⊢
 refine Calls.callWith_builtin (by show (false || (backTo cpos (starEach es X.env)).any (·.1))=false;rw [hplain] <;> rfl) (Calls.evalArgs_plain ?_)
 exact thn hA fun us s2 ⟨vs,H2,I2,r2,q2⟩=>hm pins s2 σ H2 x vs v us Q I2 r1 r2 q2
end
def MtM (X:Cx) (id:String) (r:V->List V->Hp->VK->Prop):Prop:=
 ∀ (pins:List (Addr×Obj)) (s:Shared) (σ:St) (H:Hp) (x:V) (xs:List V) (v:Value) (us:List Value) (Q:VK),Inv X pins σ H s->RelV x v->Vals xs us->r x xs H Q->
   wpAny (model X.prog X.w) X.A (call (.builtin id) (v::us)) (EP X pins σ Q) X.xe s
theorem Vals.one:∀ {x:V} {us:List Value},Vals [x] us->∃ u,us=[u]/\RelV x u
 |_,_,.cons r .nil=>⟨_,rfl,r⟩
section
variable {X:Cx} {pins:List (Addr×Obj)} {σ:St} {H:Hp} {s:Shared} {l b:Addr} {xs ys zs:List V}
theorem Inv.lset {its its':List Value} {n:Nat} {f:Array Value->Array Value} {t':Nat} (I:Inv X pins σ H s) (hH:H l=some (.lst xs))
 (e:s.heap.get? l=some { cls:=.type "list",data:=.seq its.toArray n }) (hf:f its.toArray=its'.toArray) (hv:Vals ys its') (hz:ys.length≤sizeLine) :
 Inv X pins σ (upd H l (.lst ys)) { s with heap:=s.heap.update l (Obj.mapSeq f),toks:=t' }:=by
 have q:=PySem.IsL.update e f
 rw [hf] at q
 refine I.write (x:=l) (e:=l) (by rw [hH];exact trivial) (.inl rfl) (fun b' u hb hu=>(Heap.get?_update_other s.heap (Obj.mapSeq f) (Ne.symm hb)).trans hu) ⟨_,q⟩ ?_
 exact ⟨hz,its',_,hv,q⟩
theorem Inv.lnew {its:List Value} {t':Nat} (I:Inv X pins σ H s) (hv:Vals ys its) (hz:ys.length≤sizeLine) :
 Inv X pins σ (upd H s.heap.objs.size (.lst ys)) { s with heap:=s.heap.push { cls:=.type "list",data:=.seq its.toArray },toks:=t' }:=
 I.laid (fun _ _ q=>Heap.get?_push_of_some _ q) (Nat.le_refl _) ⟨hz,its,0,hv,Heap.get?_push_size _ rfl⟩
theorem Inv.fresh (I:Inv X pins σ H s):H s.heap.objs.size=none:=I.hok.fresh (Nat.le_refl _)
theorem Inv.lstM (I:Inv X pins σ H s) (hH:H l=some (.lst xs)):xs.length≤sizeLine/\∃ (its:List Value) (n:Nat),Vals xs its/\xs.length=its.length/\s.heap.get? l=some { cls:=.type "list",data:=.seq its.toArray n }:=by
 obtain ⟨z,its,n,r,e⟩:=I.hok l _ hH
 exact ⟨z,its,n,r,r.length,e⟩
theorem notLongL {n:Nat} (h:n≤sizeLine):Builtin.List.listTooLong n=false:=by
 unfold Builtin.List.listTooLong
 exact decide_eq_false (by omega)
end
section
variable {X:Cx}
def rAppend:V->List V->Hp->VK->Prop:=fun x vs H Q=>∃ l xs y,x=.ref l/\vs=[y]/\H l=some (.lst xs)/\xs.length<sizeLine/\Q .non (upd H l (.lst (xs++[y])))
theorem mt_append:MtM X "list.append" rAppend:=by
 intro pins s σ H x vs v us Q I rx rv h
 obtain ⟨l,xs,y,rfl,rfl,hH,hz,q⟩:=h
 cases rx
 obtain ⟨u,rfl,ru⟩:=rv.one
 obtain ⟨z,its,n,r,hl,e⟩:=I.lstM hH
 refine call_meets F.slot_list_append ⟨_,e,rfl⟩ F.entry_list_append (F.args_list_append_2 _ _) (PySem.list_append l its.toArray n u (by rw [List.size_toArray];omega)) ⟨e,?_⟩
 refine ⟨.non,_,I.lset (its':=its++[u]) hH e (by simp) (r.append (.cons ru .nil)) ?_,rfl,q⟩
 rw [List.length_append,List.length_singleton]
 omega
def rExtend:V->List V->Hp->VK->Prop:=fun x vs H Q=>∃ l b xs zs,x=.ref l/\vs=[.ref b]/\H l=some (.lst xs)/\H b=some (.lst zs)/\xs.length+zs.length≤sizeLine/\Q .non (upd H l (.lst (xs++zs)))
theorem mt_extend:MtM X "list.extend" rExtend:=by
 intro pins s σ H x vs v us Q I rx rv h
 obtain ⟨l,b,xs,zs,rfl,rfl,hH,hB,hz,q⟩:=h
 cases rx
 obtain ⟨u,rfl,ru⟩:=rv.one
 cases ru
 obtain ⟨z,its,n,r,hl,e⟩:=I.lstM hH
 obtain ⟨z2,its2,n2,r2,hl2,e2⟩:=I.lstM hB
 have hsz:its.toArray.size+its2.toArray.size≤sizeLine:=by rw [List.size_toArray,List.size_toArray];omega
 have hlong:¬ (!its.toArray.isEmpty && Builtin.List.listTooLong (its.toArray.size+its2.toArray.size))=true:=by
  rw [notLongL hsz,Bool.and_false]
  exact Bool.false_ne_true
 refine call_meets F.slot_list_extend ⟨_,e,rfl⟩ F.entry_list_extend (F.args_list_extend_2 _ _)
  (AutoSeq1.list_extend_list_list_0 l its.toArray n b its2.toArray n2 hlong (by rw [List.size_toArray];omega) (by omega)) ⟨e,e2,?_⟩
 refine ⟨.non,_,I.lset (its':=its++its2) hH e (by simp) (r.append r2) ?_,rfl,q⟩
 rw [List.length_append]
 omega
def rCat:R2:=fun x y H Q=>∃ l b xs zs,x=.ref l/\y=.ref b/\H l=some (.lst xs)/\H b=some (.lst zs)/\xs.length+zs.length≤sizeLine/\∀ p,H p=none->Q (.ref p) (upd H p (.lst (xs++zs)))
theorem op_cat:OpR X (binaryOp .Add) rCat:=by
 intro pins s σ H x y v u Q I rx ry h
 obtain ⟨l,b,xs,zs,rfl,rfl,hH,hB,hz,q⟩:=h
 cases rx
 cases ry
 obtain ⟨z,its,n,r,hl,e⟩:=I.lstM hH
 obtain ⟨z2,its2,n2,r2,hl2,e2⟩:=I.lstM hB
 refine PySem.P.add_list e e2 ?_ (by rw [List.size_toArray,List.size_toArray];omega)
 have ea:its.toArray++its2.toArray=(its++its2).toArray:=by simp
 rw [ea]
 exact ⟨.ref _,_,I.lnew (t':=s.toks) (r.append r2) (by rw [List.length_append];omega),rfl,q _ I.fresh⟩
end
section
variable {prog:Program} {w:World} {A:Around} {E:Value->Shared->Prop} {s:Shared}
end
section
variable {X:Cx}
end
section
variable {κ:Type} [DecidableEq κ]
def valV (kvs:List (κ×V)) (k:κ):Option V:=(kvs.find? fun kv=>decide (kv.1=k)).map (·.2)
def putK (kvs:List (κ×V)) (k:κ) (v:V):List (κ×V):=
 if (kvs.any fun kv=>decide (kv.1=k))=true then kvs.map (fun kv=>if kv.1=k then (kv.1,v) else kv) else kvs++[(k,v)]
theorem valV_pos {p:κ×V} {r:List (κ×V)} {k:κ} (e:p.1=k):valV (p::r) k=some p.2:=by simp [valV,List.find?_cons,e]
theorem valV_neg {p:κ×V} {r:List (κ×V)} {k:κ} (e:¬ p.1=k):valV (p::r) k=valV r k:=by simp [valV,List.find?_cons,e]
theorem valV_any (k:κ):∀ kvs:List (κ×V),(kvs.any fun kv=>decide (kv.1=k))=(valV kvs k).isSome
 |[]=>rfl
 | p::r=>by
   rw [List.any_cons]
   by_cases e:p.1=k
   ·simp only [valV_pos e,decide_eq_true e,Bool.true_or,Option.isSome_some]
   ·rw [valV_neg e,decide_eq_false e,Bool.false_or];exact valV_any k r
theorem valV_map (k j:κ) (y:V):∀ kvs:List (κ×V),valV (kvs.map fun kv=>if kv.1=k then (kv.1,y) else kv) j=(valV kvs j).map fun x=>if j=k then y else x
 |[]=>rfl
 | p::r=>by
   have ih:=valV_map k j y r
   rw [List.map_cons]
   by_cases h:p.1=k
   ·rw [if_pos h]
    by_cases e:p.1=j
    ·rw [valV_pos (p:=(p.1,y)) e,valV_pos e,Option.map_some,if_pos (e.symm.trans h)]
    ·rw [valV_neg (p:=(p.1,y)) e,valV_neg e,ih]
   ·rw [if_neg h]
    by_cases e:p.1=j
    ·rw [valV_pos (p:=p) e,valV_pos e,Option.map_some,if_neg (fun z=>h (e.trans z))]
    ·rw [valV_neg (p:=p) e,valV_neg e,ih]
theorem valV_snoc (k j:κ) (y:V):∀ kvs:List (κ×V),valV kvs k=none->valV (kvs++[(k,y)]) j=if j=k then some y else valV kvs j
 | [],_=>by
   by_cases e:k=j
   ·rw [if_pos e.symm];exact valV_pos (p:=(k,y)) e
   ·rw [if_neg (fun z=>e z.symm)];exact valV_neg (p:=(k,y)) e
 | p::r,hn=>by
   rw [List.cons_append]
   have hk:¬ p.1=k:=fun z=>by rw [valV_pos z] at hn;cases hn
   rw [valV_neg hk] at hn
   have ih:=valV_snoc k j y r hn
   by_cases e:p.1=j
   ·rw [valV_pos e,valV_pos e,if_neg (fun z=>hk (e.trans z))]
   ·rw [valV_neg e,valV_neg e,ih]
theorem valV_put (kvs:List (κ×V)) (k j:κ) (y:V):valV (putK kvs k y) j=if j=k then some y else valV kvs j:=by
 unfold putK
 by_cases a:(kvs.any fun kv=>decide (kv.1=k))=true
 ·rw [if_pos a,valV_map]
  rw [valV_any] at a
  by_cases e:j=k
  ·obtain ⟨x,hx⟩:=Option.isSome_iff_exists.mp a
   rw [if_pos e,e,hx,Option.map_some,if_pos rfl]
  ·rw [if_neg e]
   cases valV kvs j with
   |none=>rfl
   |some x=>rw [Option.map_some,if_neg e]
 ·rw [if_neg a]
  refine valV_snoc k j y kvs ?_
  rw [valV_any] at a
  cases q:valV kvs k with
  |none=>rfl
  |some x=>rw [q] at a;exact (a rfl).elim
theorem length_putK (kvs:List (κ×V)) (k:κ) (v:V):(putK kvs k v).length≤kvs.length+1:=by
 unfold putK
 split
 ·rw [List.length_map];omega
 ·rw [List.length_append,List.length_cons,List.length_nil];omega
theorem putK_new {kvs:List (κ×V)} {k:κ} (v:V) (h:valV kvs k=none):putK kvs k v=kvs++[(k,v)]:=by
 unfold putK
 rw [valV_any,h]
 exact if_neg (by decide)
theorem RelO.isSome_eq {o:Option V} {u:Option Value} (r:RelO o u):o.isSome=u.isSome:=by
 cases o with
 | none=>cases u with
   |none=>rfl
   |some _=>exact (show False from r).elim
 | some _=>cases u with
   |none=>exact (show False from r).elim
   |some _=>rfl
theorem KV.val {kvs:List (κ×V)} {vs:List (κ×Value)} (r:KV kvs vs) (k:κ):RelO (valV kvs k) (valueAt vs k):=by
 unfold KV at r
 induction r with
 |nil=>exact True.intro
 | @cons p q ps qs h t ih=>
   obtain ⟨h1,h2⟩:=h
   by_cases e:p.1=k
   ·have e':q.1=k:=h1.symm.trans e
    have b:valueAt (q::qs) k=some q.2:=by simp [valueAt,List.find?_cons,e']
    rw [valV_pos e,b];exact h2
   ·have e':¬ q.1=k:=fun z=>e (h1.trans z)
    have b:valueAt (q::qs) k=valueAt qs k:=by simp [valueAt,List.find?_cons,e']
    rw [valV_neg e,b];exact ih
theorem KV.any {kvs:List (κ×V)} {vs:List (κ×Value)} (r:KV kvs vs) (k:κ):(kvs.any fun kv=>decide (kv.1=k))=vs.any fun kv=>decide (kv.1=k):=by
 unfold KV at r
 induction r with
 |nil=>rfl
 |cons h t ih=>rw [List.any_cons,List.any_cons,ih,h.1]
theorem KV.repl {kvs:List (κ×V)} {vs:List (κ×Value)} (r:KV kvs vs) (k:κ) {y:V} {u:Value} (ry:RelV y u) :
 KV (kvs.map fun kv=>if kv.1=k then (kv.1,y) else kv) (vs.map fun kv=>if kv.1=k then (kv.1,u) else kv):=by
 unfold KV at r ⊢
 induction r with
 |nil=>exact .nil
 | @cons p q ps qs h t ih=>
   rw [List.map_cons,List.map_cons]
   refine .cons ?_ ih
   obtain ⟨h1,h2⟩:=h
   by_cases e:p.1=k
   ·rw [if_pos e,if_pos (h1.symm.trans e)];exact ⟨h1,ry⟩
   ·rw [if_neg e,if_neg (fun z=>e (h1.trans z))];exact ⟨h1,h2⟩
theorem KV.put {kvs:List (κ×V)} {vs:List (κ×Value)} (r:KV kvs vs) (k:κ) {y:V} {u:Value} (ry:RelV y u):KV (putK kvs k y) (stored vs k u):=by
 unfold putK stored
 rw [r.any k]
 by_cases e:(vs.any fun kv=>decide (kv.1=k))=true
 ·rw [if_pos e,if_pos e];exact r.repl k ry
 ·rw [if_neg e,if_neg e];exact Paired.snoc r ⟨rfl,ry⟩
theorem KV.length {kvs:List (κ×V)} {vs:List (κ×Value)} (r:KV kvs vs):kvs.length=vs.length:=Paired.length r
end
theorem kV_is {P:Program} {w:World} {k:Key} {u:Value} (r:RelV (kV k) u):(mixKind P w).is k u=true:=by
 cases k with
 |inl i=>obtain ⟨t,e⟩:=(show ∃ t,u=Value.int i t from r);subst e;exact mixKind_int P w i t
 |inr x=>obtain ⟨t,e⟩:=(show ∃ t,u=Value.str x t from r);subst e;exact mixKind_str P w x t
theorem items_are {P:Program} {w:World}:∀ {ks:List Key} {us:List Value},Vals (ks.map kV) us->ItemsAre (mixKind P w) ks us
 |[],_,r=>by rw [List.map_nil] at r;cases r;exact .nil
 | k::ks,_,r=>by
   rw [List.map_cons] at r
   cases r with
   |cons h t=>exact .cons (kV_is h) (items_are t)
abbrev KT (H:Hp):List (List Key×V)->List (List Key×Addr×Value)->Prop:=Paired fun p q=>p.1=q.1/\H q.2.1=some (.tup (p.1.map kV))/\RelV p.2 q.2.2
theorem KT.val {H:Hp} {kvs:List (List Key×V)} {xs:List (List Key×Addr×Value)} (r:KT H kvs xs) (k:List Key):RelO (valV kvs k) ((atKey xs k).map (·.2)):=by
 induction r with
 |nil=>exact True.intro
 | @cons p q ps qs h t ih=>
   obtain ⟨h1,_,h2⟩:=h
   by_cases e:p.1=k
   ·have e':q.1=k:=h1.symm.trans e
    have b:atKey (q::qs) k=some q.2:=by simp [atKey,List.find?_cons,e']
    rw [valV_pos e,b];exact h2
   ·have e':¬ q.1=k:=fun z=>e (h1.trans z)
    have b:atKey (q::qs) k=atKey qs k:=by simp [atKey,List.find?_cons,e']
    rw [valV_neg e,b];exact ih
theorem KT.repl {H:Hp} {kvs:List (List Key×V)} {xs:List (List Key×Addr×Value)} (r:KT H kvs xs) (k:List Key) {y:V} {u:Value} (ry:RelV y u) :
 KT H (kvs.map fun kv=>if kv.1=k then (kv.1,y) else kv) (xs.map (putAt k u)):=by
 induction r with
 |nil=>exact .nil
 | @cons p q ps qs h t ih=>
   rw [List.map_cons,List.map_cons]
   refine .cons ?_ ih
   obtain ⟨h1,h2,h3⟩:=h
   unfold putAt
   by_cases e:p.1=k
   ·rw [if_pos e,if_pos (h1.symm.trans e)];exact ⟨h1,h2,ry⟩
   ·rw [if_neg e,if_neg (fun z=>e (h1.trans z))];exact ⟨h1,h2,h3⟩
theorem KT.put {H:Hp} {kvs:List (List Key×V)} {xs:List (List Key×Addr×Value)} (r:KT H kvs xs) (k:List Key) {b:Addr} {y:V} {u:Value} (hb:H b=some (.tup (k.map kV))) (ry:RelV y u) :
 KT H (putK kvs k y) (storedH xs k b u):=by
 have e:(kvs.any fun kv=>decide (kv.1=k))=(atKey xs k).isSome:=by
  rw [valV_any,(r.val k).isSome_eq,Option.isSome_map]
 unfold putK storedH
 rw [e]
 by_cases q:(atKey xs k).isSome=true
 ·rw [if_pos q,if_pos q];exact r.repl k ry
 ·rw [if_neg q,if_neg q];exact Paired.snoc r ⟨rfl,hb,ry⟩
theorem KT.keeps {H H':Hp} {kvs:List (List Key×V)} {xs:List (List Key×Addr×Value)} (r:KT H kvs xs) (ht:∀ b ys,H b=some (.tup ys)->H' b=some (.tup ys)):KT H' kvs xs:=
 Paired.mapP r fun _ _ z=>⟨z.1,ht _ _ z.2.1,z.2.2⟩
section
variable {P:Program} {w:World} {H:Hp} {h:Heap} {a:Addr}
theorem rd_of {u:HO} (ok:HOk P w H h) (e:Rd H a u):ObjOk P w H h a u:=e.ok ok
theorem dk_rd {kvs:List (Key×V)} (ok:HOk P w H h) (e:Rd H a (.dK kvs)):kvs.length≤sizeLine/\(a == sysModules)=false/\∃ vs,KV kvs vs/\h.DictOf (mixKind P w) a vs:=
 show ObjOk P w H h a (.dK kvs) from rd_of ok e
theorem dk_of {kvs:List (Key×V)} (ok:HOk P w H h) (e:H a=some (.dK kvs)):kvs.length≤sizeLine/\(a == sysModules)=false/\∃ vs,KV kvs vs/\h.DictOf (mixKind P w) a vs:=dk_rd ok (.inl e)
theorem key_of {ks:List Key} (ok:HOk P w H h) (e:H a=some (.tup (ks.map kV))):(tupleKind (mixKind P w)).is h ks a:=by
 obtain ⟨_,its,r,o,h1,h2,n,h3⟩:=(show ObjOk P w H h a (.tup (ks.map kV)) from ok a _ e)
 exact ⟨o,its.toArray,n,h1,h2,h3,by simpa using items_are r⟩
theorem dt_rd {kvs:List (List Key×V)} (ok:HOk P w H h) (e:Rd H a (.dT kvs)):kvs.length≤sizeLine/\(a == sysModules)=false/\
 ∃ xs,KT H kvs xs/\h.DictOfH (tupleKind (mixKind P w)) a xs:=by
 obtain ⟨z,y,xs,r,o,es,ep,h1,h2,h3,h4,h5⟩:=(show ObjOk P w H h a (.dT kvs) from rd_of ok e)
 refine ⟨z,y,xs,r,o,es,ep,h1,h2,h3,h4,fun x hx=>?_,h5⟩
 have all:∀ {l:List (List Key×V)} {m:List (List Key×Addr×Value)},KT H l m->∀ x∈m,(tupleKind (mixKind P w)).is h x.1 x.2.1:=by
  intro l m q
  induction q with
  |nil=>intro x hx;exact nomatch hx
  | @cons p q ps qs hq t ih=>
    intro x hx
    rcases List.mem_cons.mp hx with e|hx
    ·subst e
     exact key_of ok (by rw [← hq.1];exact hq.2.1)
    ·exact ih x hx
 exact all r x hx
theorem dt_of {kvs:List (List Key×V)} (ok:HOk P w H h) (e:H a=some (.dT kvs)):kvs.length≤sizeLine/\(a == sysModules)=false/\
 ∃ xs,KT H kvs xs/\h.DictOfH (tupleKind (mixKind P w)) a xs:=dt_rd ok (.inl e)
end
def DGet (H:Hp) (a:Addr) (y:V) (r:Option V):Prop:=
 (∃ kvs k,Rd H a (.dK kvs)/\y=kV k/\r=valV kvs k)∨∃ kvs k b,Rd H a (.dT kvs)/\y=.ref b/\H b=some (.tup (k.map kV))/\r=valV kvs k
def DPut (H:Hp) (a:Addr) (y v:V) (H':Hp):Prop:=
 (∃ kvs k,H a=some (.dK kvs)/\y=kV k/\kvs.length<sizeLine/\H'=upd H a (.dK (putK kvs k v)))∨
 ∃ kvs k b,H a=some (.dT kvs)/\y=.ref b/\H b=some (.tup (k.map kV))/\kvs.length<sizeLine/\H'=upd H a (.dT (putK kvs k v))
theorem DGet.k {H:Hp} {a:Addr} {kvs:List (Key×V)} {k:Key} (e:H a=some (.dK kvs)):DGet H a (kV k) (valV kvs k):=.inl ⟨kvs,k,.inl e,rfl,rfl⟩
theorem DPut.k {H:Hp} {a:Addr} {kvs:List (Key×V)} {k:Key} {v:V} (e:H a=some (.dK kvs)) (hl:kvs.length<sizeLine):DPut H a (kV k) v (upd H a (.dK (putK kvs k v))):=.inl ⟨kvs,k,e,rfl,hl,rfl⟩
section
variable {X:Cx} {pins:List (Addr×Obj)} {σ:St} {H:Hp} {s:Shared} {a:Addr} {y v:V} {u r:Value} {o:Option V} {A:Around} {E:Value->Shared->Prop}
theorem Inv.big (I:Inv X pins σ H s):sysModules<s.heap.objs.size:=by
 have h:mainGlobals<s.heap.objs.size:=(I.mod.glob.keeps I.bk).lt
 exact Nat.lt_trans (by decide) h
theorem d_getItem {Q:Value->Shared->Prop} (hu:A.units+1<cLine) (I:Inv X pins σ H s) (g:DGet H a y (some v)) (ry:RelV y u) (h:∀ w' s',Inv X pins σ H s'->RelV v w'->Q w' s') :
 wpAny (model X.prog X.w) A (getItem (.ref a) u) Q E s:=by
 rcases g with ⟨kvs,k,e,ey,l⟩|⟨kvs,k,b,e,ey,eb,l⟩
 ·subst ey
  obtain ⟨z,hd,vs,rel,dd⟩:=dk_rd I.hok e
  obtain ⟨w',hw,rw'⟩:=RelO.some_of (v:=v) (o:=valueAt vs k) (by rw [l];exact rel.val k)
  exact wpAny_getItem_of (kV_is ry) dd.mapOf hw (h w' _ (I.tok _) rw')
 ·subst ey
  cases (show u=Value.ref b from ry)
  obtain ⟨z,hd,xs,rel,dd⟩:=dt_rd I.hok e
  obtain ⟨w',hw,rw'⟩:=RelO.some_of (v:=v) (o:=(atKey xs k).map (·.2)) (by rw [l];exact rel.val k)
  obtain ⟨p,hp,hp2⟩:=Option.map_eq_some_iff.mp hw
  refine wpAny_getItem_heap (tupleKind_room_in1 hu) (key_of I.hok eb) dd hp ?_
  rw [hp2]
  exact h w' _ (I.tok _) rw'
theorem d_write {h':Heap} {t':Nat} {ob:HO} (I:Inv X pins σ H s) (mu:Mut (H a)) (hs:Heap.SameBut a s.heap h') (he:∃ q,h'.get? a=some q) (new:ObjOk X.prog X.w (upd H a ob) h' a ob) :
 Inv X pins σ (upd H a ob) { s with heap:=h',toks:=t' }:=
 I.write (x:=a) (e:=a) mu (.inl rfl) (fun b q hb z=>(hs.2 b hb).trans z) he new
theorem dk_new {P:Program} {w:World} {H':Hp} {h':Heap} {kvs:List (Key×V)} {vs:List (Key×Value)} (z:kvs.length≤sizeLine) (hd:(a == sysModules)=false) (rel:KV kvs vs) (dd:h'.DictOf (mixKind P w) a vs) :
 ObjOk P w H' h' a (.dK kvs):=⟨z,hd,vs,rel,dd⟩
theorem d_setItem {H':Hp} {Q:Unit->Shared->Prop} (hu:A.units+1<cLine) (I:Inv X pins σ H s) (g:DPut H a y v H') (ry:RelV y u) (rv:RelV v r) (h:∀ s',Inv X pins σ H' s'->Q () s') :
 wpAny (model X.prog X.w) A (setItem (.ref a) u r) Q E s:=by
 rcases g with ⟨kvs,k,e,ey,l,eH⟩|⟨kvs,k,b,e,ey,eb,l,eH⟩
 ·subst ey eH
  obtain ⟨z,hd,vs,rel,dd⟩:=dk_of I.hok e
  have hz:vs.length≤sizeLine:=by rw [← rel.length];exact z
  have hl:(putK kvs k v).length≤sizeLine:=by have:=length_putK kvs k v;omega
  refine wpAny_setItem_pairs (hsz:=hz) (kV_is ry) dd fun h' dd' hs=>h _ ?_
  have he:∃ q,h'.get? a=some q:=let ⟨q,_,_,hq,_⟩:=dd';⟨q,hq⟩
  exact d_write I (by rw [e];exact True.intro) hs he (dk_new hl hd (rel.put k rv) dd')
 ·subst ey eH
  cases (show u=Value.ref b from ry)
  obtain ⟨z,hd,xs,rel,dd⟩:=dt_of I.hok e
  have hz:xs.length≤sizeLine:=by rw [← Paired.length rel];exact z
  have hl:(putK kvs k v).length≤sizeLine:=by have:=length_putK kvs k v;omega
  refine wpAny_setItem_heap (hsz:=hz) (tupleKind_room_in1 hu) (key_of I.hok eb) dd fun h' dd' hs=>h _ ?_
  obtain ⟨q,es,ep,hq,h2,h3,h4,_,h5⟩:=dd'
  refine d_write I (by rw [e];exact True.intro) hs ⟨q,hq⟩ ⟨hl,hd,_,(rel.put k eb rv).keeps fun c ys ec=>?_,q,es,ep,hq,h2,h3,h4,h5⟩
  rw [upd_ne (ne_of ec e (fun z=>nomatch z))]
  exact ec
end
section
variable {X:Cx} {pins:List (Addr×Obj)} {σ:St} {H:Hp} {s:Shared} {a:Addr} {kvs:List (Key×V)} {k:Key} {u:Value} {A:Around} {E:Value->Shared->Prop}
theorem d_len {Q:Value->Shared->Prop} (I:Inv X pins σ H s) (e:Rd H a (.dK kvs)) (h:∀ t s',Inv X pins σ H s'->Q (.int kvs.length t) s'):wpAny (model X.prog X.w) A (call (.builtin "len") [.ref a]) Q E s:=by
 obtain ⟨z,hd,vs,rel,dd⟩:=dk_rd I.hok e
 refine call_len_dict hd dd (by rw [← rel.length];rw [sizeLine_eq] at z;omega) ?_
 rw [← rel.length]
 exact h _ _ (I.tok _)
end
def NoSl (i:Expr):Prop:=∀ ov iv,subscripted i false ov iv=operate [ov,iv] (getItem ov iv)
theorem subD_of {prog:Program} {w:World} {A:Around} {E:Value->Shared->Prop} {s:Shared} {env:Env} {value slice:Expr} {pos:Pos} {T id:String} {Q:Value->Shared->Prop}
 (hl:typeLookup (.type T) "__getitem__" = pure (some (.builtin id))) (hs:NoSl slice)
 (h:wpAny (model prog w) A (eval value env) (fun o s₁=>wpAny (model prog w) A (eval slice env) (fun i s₂=>s₂.TypeIs o T/\wpAny (model prog w) A (getItem o i) Q E s₂) E s₁) E s) :
 wpAny (model prog w) A (eval (.Subscript value slice pos) env) Q E s:=by
 refine Subscript_ (wpAny_mono h (fun o s₁ h₁=>wpAny_mono h₁ (fun i s₂ h₂=>?_) fun _ _ x=>x) fun _ _ x=>x)
 obtain ⟨hT,h₂⟩:=h₂
 unfold subscriptTail
 refine wpAny_bind ?_
 rw [getitemInPython_of_ne hT.not_modules]
 refine wpAny_bind (wpAny_specialOf hT hl ?_)
 have fin:wpAny (model prog w) A (subscripted slice false o i) (fun r s₃=>wpAny (model prog w) A (letTemporaryGo value o r >>= fun _=>pure r) Q E s₃) E s₂:=by
  rw [hs o i]
  exact wpAny_operating (wpAny_mono h₂ (fun r s₃ h₃=>wpAny_bind (wpAny_letTemporaryGo (wpAny_pure h₃))) fun _ _ x=>x)
 first
  |exact wpAny_pure (wpAny_bind fin)
  |exact wpAny_bind (wpAny_pure (wpAny_bind fin))
  |exact wpAny_bind fin
theorem dict_typeIs {X:Cx} {pins:List (Addr×Obj)} {σ:St} {H:Hp} {s:Shared} {a:Addr} {y:V} {o:Option V} (I:Inv X pins σ H s) (g:DGet H a y o):s.TypeIs (.ref a) "dict":=by
 rcases g with ⟨kvs,k,e,_,_⟩|⟨kvs,k,b,e,_,_,_⟩
 ·obtain ⟨_,_,vs,_,dd⟩:=dk_rd I.hok e
  exact dd.typeIs
 ·obtain ⟨_,_,xs,_,dd⟩:=dt_rd I.hok e
  exact dd.typeIs
def tDGet (td ty:TE):TE:=fun σ H Q=>td σ H fun x H1=>ty σ H1 fun y H2=>∃ a v,x=.ref a/\DGet H2 a y (some v)/\Q v H2
def sDPut (td ty tv:TE):TS:=fun D σ H=>tv σ H fun v H1=>td σ H1 fun x H2=>ty σ H2 fun y H3=>∃ a H4,x=.ref a/\DPut H3 a y v H4/\D.nx σ H4
section
variable {X:Cx} {o i e value:Expr} {pos pos' tpos:Pos} {td ty tv:TE}
theorem pe_dget (hu:X.A.units+1<cLine) (ho:PE X o td) (hi:PE X i ty) (hs:NoSl i):PE X (.Subscript o i pos) (tDGet td ty):=by
 intro pins s σ H Q I h
 refine subD_of PySem.F.slot_dict_getitem.lookup hs (thn (ho pins s σ H _ I h) fun u s1 ⟨x,H1,I1,rx,q1⟩=>thn (hi pins s1 σ H1 _ I1 q1) fun iv s2 ⟨y,H2,I2,ry,a,v,ex,g,q2⟩=>?_)
 subst ex
 obtain rfl:u=Value.ref a:=rx
 exact ⟨dict_typeIs I2 g,d_getItem hu I2 g ry fun w' s3 I3 rw'=>⟨v,H2,I3,rw',q2⟩⟩
theorem ps_dput (hu:X.A.units+1<cLine) (ho:PE X o td) (hi:PE X i ty) (hv:PE X value tv) (hs:swapsWith value (some (.Subscript o i pos')) pos.line X.env=pure false) :
 PS X (.Assign [.Subscript o i pos'] value pos) (sDPut td ty tv):=by
 intro pins s σ H D I h
 refine wpAny_Assign_Subscript (thn (hv pins s σ H _ I h) fun r s1 ⟨v,H1,I1,rv,q1⟩=>thn (ho pins s1 σ H1 _ I1 q1) fun u s2 ⟨x,H2,I2,rx,q2⟩=>thn (hi pins s2 σ H2 _ I2 q2) fun iv s3 ⟨y,H3,I3,ry,a,H4,ex,g,q3⟩=>?_) hs
 subst ex
 obtain rfl:u=Value.ref a:=rx
 exact d_setItem hu I3 g ry rv fun s4 I4=>⟨σ,H4,I4,q3⟩
end
theorem dk_empty {P:Program} {w:World} {H:Hp} (h:Heap) (hb:sysModules<h.objs.size):ObjOk P w H (h.push { cls:=.type "dict",data:=.dict #[] }) h.objs.size (.dK []):=
 ⟨Nat.zero_le _,beq_eq_false_iff_ne.mpr (Ne.symm (Nat.ne_of_lt hb)),[],.nil,Heap.DictOf.new h⟩
def tDNewK:TE:=fun _ H Q=>∀ p,H p=none->Q (.ref p) (upd H p (.dK []))
section
variable {X:Cx} {pos:Pos}
theorem pe_dnewK:PE X (.Dict [] [] pos) tDNewK:=fun pins s σ H Q I h=>
 wpAny_Dict_empty ⟨.ref s.heap.objs.size,_,I.laid (a:=s.heap.objs.size) (o:=.dK []) (t':=s.toks) (fun _ _ q=>Heap.get?_push_of_some _ q) (Nat.le_refl _) (dk_empty s.heap I.big),rfl,h _ (I.hok.fresh (Nat.le_refl _))⟩
end
def tPairs:List (TE×TE)->St->Hp->(List (V×V)->Hp->Prop)->Prop
 |[],_,H,Q=>Q [] H
 |(tk,tv)::r,σ,H,Q=>tk σ H fun x H1=>tv σ H1 fun y H2=>tPairs r σ H2 fun ps H3=>Q ((x,y)::ps) H3
abbrev VV:List (V×V)->List (Value×Value)->Prop:=Paired fun p q=>RelV p.1 q.1/\RelV p.2 q.2
def PPs (X:Cx) (pos:Pos) (keys:List (Option Expr)) (values:List Expr) (trs:List (TE×TE)):Prop:=
 ∀ (pins:List (Addr×Obj)) (s:Shared) (σ:St) (H:Hp) (Q:List (V×V)->Hp->Prop),Inv X pins σ H s->tPairs trs σ H Q->
   wpAny (model X.prog X.w) X.A (evalPairs (pairTrees keys values X.env pos)) (fun vs s'=>∃ ps H',Inv X pins σ H' s'/\VV ps vs/\Q ps H') X.xe s
theorem pps_nil {X:Cx} {pos:Pos}:PPs X pos [] [] []:=fun pins s σ H Q I h=>pairTrees_nil_walk ⟨[],H,I,.nil,h⟩
theorem pps_cons {X:Cx} {pos:Pos} {k v:Expr} {ks:List (Option Expr)} {vs:List Expr} {tk tv:TE} {trs:List (TE×TE)} (hk:PE X k tk) (hv:PE X v tv) (hr:PPs X pos ks vs trs) :
 PPs X pos (some k::ks) (v::vs) ((tk,tv)::trs):=fun pins s σ H Q I h=>
 pairTrees_cons_walk (thn (hk pins s σ H _ I h) fun u s1 ⟨x,H1,I1,rx,q1⟩=>thn (hv pins s1 σ H1 _ I1 q1) fun w2 s2 ⟨y,H2,I2,ry,q2⟩=>
  thn (hr pins s2 σ H2 _ I2 q2) fun ws s3 ⟨ps,H3,I3,rel,q3⟩=>⟨(x,y)::ps,H3,I3,.cons ⟨rx,ry⟩ rel,q3⟩)
def mergeK (kvs more:List (Key×V)):List (Key×V):=more.foldl (fun acc kv=>putK acc kv.1 kv.2) kvs
theorem KV.merge:∀ {more:List (Key×V)} {rs:List (Key×Value)} {kvs:List (Key×V)} {vs:List (Key×Value)},KV more rs->KV kvs vs->KV (mergeK kvs more) (merged vs rs):=by
 intro more rs kvs vs r
 unfold KV at r
 induction r generalizing kvs vs with
 |nil=>intro q;exact q
 | @cons p q ps qs h t ih=>
   intro r0
   have e:KV (putK kvs p.1 p.2) (stored vs q.1 q.2):=by
    have:=r0.put p.1 h.2
    rw [← h.1];exact this
   exact ih e
theorem length_mergeK:∀ (more kvs:List (Key×V)),(mergeK kvs more).length≤kvs.length+more.length
 |[],kvs=>by show kvs.length≤kvs.length+0;omega
 | p::r,kvs=>by
   have h1:=length_mergeK r (putK kvs p.1 p.2)
   have h2:=length_putK kvs p.1 p.2
   show (mergeK (putK kvs p.1 p.2) r).length≤_
   rw [List.length_cons];omega
theorem carries_of {P:Program} {w:World}:∀ {kvs:List (Key×V)} {ws:List (Value×Value)},VV (kvs.map fun kv=>(kV kv.1,kv.2)) ws->∃ rs,Carries (mixKind P w) ws rs/\KV kvs rs
 |[],_,r=>by rw [List.map_nil] at r;cases r;exact ⟨[],True.intro,.nil⟩
 | p::kvs,_,r=>by
   rw [List.map_cons] at r
   cases r with
   | @cons a b as bs h t=>
     obtain ⟨rs,c,q⟩:=carries_of (P:=P) (w:=w) t
     obtain ⟨b1,b2⟩:=b
     exact ⟨(p.1,b2)::rs,⟨kV_is h.1,rfl,c⟩,.cons ⟨rfl,h.2⟩ q⟩
def tDisp (trs:List (TE×TE)):TE:=fun σ H Q=>∀ p,H p=none->tPairs trs σ (upd H p (.dK [])) fun ps H2=>H2 p=some (.dK [])/\∃ kvs:List (Key×V),ps=kvs.map (fun kv=>(kV kv.1,kv.2))/\kvs.length≤15/\Q (.ref p) (upd H2 p (.dK (mergeK [] kvs)))
theorem pe_disp {X:Cx} {pos:Pos} {keys:List (Option Expr)} {values:List Expr} {trs:List (TE×TE)} (h:PPs X pos keys values trs) (hall:keys.all (·.isSome)=true) (hl:keys.length=values.length) (h0:keys≠[])
 (h15:keys.length≤15):PE X (.Dict keys values pos) (tDisp trs):=by
 intro pins s σ H Q I q
 have hn:=I.hok.fresh (Nat.le_refl s.heap.objs.size)
 have I1:=I.laid (a:=s.heap.objs.size) (o:=.dK []) (h':=s.heap.push { cls:=.type "dict",data:=.dict #[] }) (t':=s.toks) (fun _ _ q=>Heap.get?_push_of_some _ q) (Nat.le_refl _) (dk_empty s.heap I.big)
 refine wpAny_Dict_walk (knd:=mixKind X.prog X.w) hall hl h0 h15 (thn (h pins _ σ _ _ I1 (q _ hn)) fun ws s2 ⟨ps,H2,I2,rel,e,kvs,ep,lk,q2⟩=>?_)
 subst ep
 obtain ⟨rs,c,rk⟩:=carries_of (P:=X.prog) (w:=X.w) rel
 obtain ⟨z,hd,vs0,r0,dd⟩:=dk_of I2.hok e
 cases r0
 refine ⟨rs,c,dd,fun h' dd' hs=>⟨.ref s.heap.objs.size,_,?_,rfl,q2⟩⟩
 have hz:(mergeK [] kvs).length≤sizeLine:=by
  have h1:=length_mergeK kvs []
  rw [List.length_nil] at h1
  rw [sizeLine_eq];omega
 have he:∃ q,h'.get? s.heap.objs.size=some q:=let ⟨q,_,_,hq,_⟩:=dd';⟨q,hq⟩
 exact d_write I2 (by rw [e];exact True.intro) hs he (dk_new hz hd (rk.merge .nil) dd')
section
variable {X:Cx} {pins:List (Addr×Obj)} {σ:St} {H:Hp} {s:Shared} {a:Addr} {y d:V} {u r:Value} {o:Option V} {A:Around} {E:Value->Shared->Prop}
end
section
variable {X:Cx} {o e f:Expr} {apos cpos:Pos} {td ty tx:TE}
end
section
variable {X:Cx} {pins:List (Addr×Obj)} {σ:St} {H:Hp} {s:Shared} {a:Addr} {kvs:List (Key×V)} {A:Around} {E:Value->Shared->Prop}
end
section
variable {X:Cx} {pins:List (Addr×Obj)} {σ:St} {H:Hp} {s:Shared} {a:Addr} {y:V} {u:Value} {A:Around} {E:Value->Shared->Prop}
end
end L2
namespace Att
open PySem PySem.W PySem.Calls PyProof.Rows
theorem ints_of_wellAll {P:Params} {h:Heap}:∀ (ns:List Int) (vs:List Value),WellAll P h vs (ns.map WData.int)->IntsAre vs ns:=by
 intro ns
 induction ns with
 | nil=>
   intro vs w
   rw [List.map_nil] at w
   cases w
   exact .nil
 | cons n ns ih=>
   intro vs w
   rw [List.map_cons] at w
   cases w with
   | cons a b=>
     cases a
     exact .cons _ _ (ih _ b)
theorem script_of {l:OpenLaw} {n:Nat} (hn:l.most=some n) {P:Params} {h:Heap} {args:List WData} {vals:List Value}
 (hpre:l.row.toRowW.claim.pre args=true) (hwl:WellAll P h vals args) :
 ∃ a vs ns,vals=[Value.ref a]/\args=[WData.list (ns.map WData.int)]/\h.get? a=some { cls:=.type "list",data:=.seq vs.toArray }/\IntsAre vs ns/\ns.length≤n:=by
 have hsh:WShape.hasAll [] args [.list .int]=true:=(pre_splitW hpre).1
 have hc:l.pre.holds [] { args:=args }=true:=(pre_splitW hpre).2
 obtain ⟨d,r,rfl,h1,h2⟩:=hasAllW_cons hsh
 obtain rfl:=hasAllW_nil h2
 obtain ⟨xs,rfl,h3⟩:=hasW_list h1
 obtain ⟨ns,rfl⟩:=items_int h3
 have hlen:ns.length≤n:=by
  unfold OpenLaw.pre at hc
  have h4:(WTm.not (.lt (.lit (.int (n:Int))) (.len (.arg 0)))).holds [] { args:=[.list (ns.map .int)] }=true:=by
   have h4:=(holds_andW hc).1
   rw [hn] at h4
   exact h4
  have h5:=condW_of h4 (w_not (w_lt w_lit (w_len_list (w_arg rfl))))
  rw [List.length_map] at h5
  refine Nat.le_of_not_lt fun q=>?_
  have q':(n:Int)<((ns.length:Nat):Int):=by omega
  first
   |(rw [decide_eq_true q'] at h5;exact absurd h5 (by decide))
   |(simp at h5;omega)
 cases hwl with
 | cons w1 w2=>
   cases w2
   cases w1 with
   |list ho hall=>exact ⟨_,_,ns,rfl,rfl,ho,ints_of_wellAll ns _ hall,hlen⟩
theorem post_true (l:OpenLaw) (args:List WData):l.row.toRowW.claim.post args (.bool true) args=true:=
 postW_of (r:=l.row.toRowW) (X:=(true == true))
  (show WShape.has [] (.bool true) .bool=true by first|rfl|decide|simp [WShape.has,WShape.arms,WShape.armsAll])
  (show (WTm.eq .res (.lit (.bool true))).value [] { args:=args,res:=some (.bool true),after:=args }=some (.bool (true == true)) from w_eq_bool (w_res rfl) w_lit) rfl
theorem attach_call {l:OpenLaw} {n:Nat} {q:Program} {loose:List Str} {XP:(Str->Option Value)->Heap->Prop} {YP:World->Heap->Prop} {d:DefRec}
 (hn:l.most=some n) (hdf:d.params.defaults=[])
 (call:∀ (w:World) (s₀ s₁:Shared) (mg mb:Str->Option Value) (fa:Addr) (o:Obj) (pm cd doc:Value) (a:Addr) (vs:List Value) (ns:List Int),
  Ground q loose [] XP w s₀ mg mb s₁.heap->YP w s₁.heap->
  s₁.heap.get? fa=some o->o.data=.func (docDef d.name d.params d.body d.scope pm cd doc)->s₁.heap.CodeRec cd d.name->mg d.name=some (.ref fa)->
  s₁.heap.get? a=some { cls:=.type "list",data:=.seq vs.toArray }->IntsAre vs ns->ns.length≤n->s₁.gens=#[]->
  codeAny (model l.prog w) callerA (.call (.ref fa) ⟨[.ref a],[]⟩) (fun r s'=>r=.ok (.ret (.bool true))/\OldK s₁.heap s'.heap/\s'.os=s₁.os/\AllBare s'.gens) s₁) :
 WalkO q loose XP YP l.row.toRowW d [] (fun f vs=>PySem.call f vs):=by
 intro w s₀ s₁ mg mb G Y fa o pm cd doc dV kV ho hd hcd hD hmg hg args vals as hpre hlay hrd hwl hlo
 obtain rfl:dV=.none:=Dflts.none hD hdf
 obtain rfl:kV=.none:=Dflts.noKw hD
 obtain ⟨a,vs,ns,rfl,rfl,hobj,hints,hlen⟩:=script_of hn hpre hwl
 refine enter_call (codeAny_mono (call w s₀ s₁ mg mb fa o pm cd doc a vs ns G Y ho (fd_plain hd) hcd hmg hobj hints hlen hg) fun r s' hq=>?_)
 obtain ⟨rfl,h2,h3,h4⟩:=hq
 exact ⟨.inl ⟨.bool true,.bool true,[],rfl,fun _=>rfl,.bool true,post_true l _,fun _=>⟨List.Pairwise.nil,fun _ hm=>(nomatch hm)⟩⟩,h2,h3,h4⟩
section
variable {prog:Program} {w:World} {A:Around} {E:Value->Shared->Prop} {s:Shared} {K:Frag}
end
end Att
namespace L2
open PySem PySem.Spec PyProof.Rows
theorem vals_ints:∀ {vs:List Value} {ns:List Int},IntsAre vs ns->Vals (ns.map V.int) vs
 |_,_,.nil=>.nil
 |_,_,.cons n t h=>.cons ⟨t,rfl⟩ (vals_ints h)
def defArgs (s:Stmt):Arguments:=match s with
 |.FunctionDef _ a _ _ _ _ _ _ _ _=>a
 |_=>{ posonlyargs:=[],args:=[],vararg:=none,kwonlyargs:=[],kw_defaults:=[],kwarg:=none,defaults:=[] }
def defBody (s:Stmt):List Stmt:=match s with
 |.FunctionDef _ _ b _ _ _ _ _ _ _=>b
 |_=>[]
def defScope (s:Stmt):Scope:=match s with
 |.FunctionDef _ _ _ _ _ _ sc _ _ _=>sc
 |_=>{ kind:=.function,names:=[],isGenerator:=false,isCoroutine:=false }
abbrev CX0:CXT:=fun _ _ _ _ _ _=>False
abbrev E0:XK:=fun _ _ _=>False
theorem pass0 {X:Cx}:Passes CX0 X E0:=fun _ _ _ _ _ _ _ h=>h.elim
structure Fun (K:PySem.W.Frag) (x qual:Str) (st:Stmt) (f:Addr) (fd:FuncData):Prop where
 ex:∃ (oc:Value) (od:Option Addr) (kV doc pm:Value) (an:Option Addr) (cdv ct:Value) (osl:Array (Option Value)),
  fd=PySem.W.fnOf x qual (defArgs st) (defBody st) (defScope st) .none kV doc pm an cdv ct/\K.lookup f=some ⟨oc,od,.func fd,osl⟩/\PySem.W.codeIn K cdv qual=true
 kp:PySem.W.keepIn K (.ref f)=true
section
variable {P:Program} {w:World} {K:PySem.W.Frag} {mg:Str->Option Value} {base:Heap}
theorem Fun.ok {x qual:Str} {st:Stmt} {f:Addr} {fd:FuncData} {N ps:List Str} {k:Nat} {sp:Sp} (F:Fun K x qual st f fd) (S:FnScope N ps (defScope st)) (len:∀ vs H Q E,sp vs H Q E->vs.length=ps.length)
 (hbody:∀ (cdv:Value) (A:Around) (outer:List Env) (s:Shared) (H:Hp) (vs:List V) (Q:VK) (E:XK),Room k (A.deeper (envOfC qual (defScope st) s.heap.objs.size f cdv))->sp vs H Q E->
  ∃ t,PSs (cxOf CX0 P w K mg base N qual (defScope st) f cdv A outer s H E).nox (defBody st) t/\t { nx:=fun _ H'=>Q .non H',rt:=Q } (start N vs) H):FnOk P w K mg base CX0 (k+1) f fd ps sp:=by
 obtain ⟨oc,od,kV,doc,pm,an,cdv,ct,osl,rfl,lk,hcd⟩:=F.ex
 refine fn_of lk hcd S len fun A outer s H vs Q E hr hsp=>?_
 obtain ⟨t,h,q⟩:=hbody cdv A outer s H vs Q E hr hsp
 exact ⟨t,h.nox,q⟩
theorem Fun.binds {x qual:Str} {st:Stmt} {f:Addr} {fd:FuncData} {ps:List Str} (F:Fun K x qual st f fd)
 (h:∀ (kV doc pm:Value) (an:Option Addr) (cdv ct:Value) (us:List Value),us.length=ps.length->bindArgs (PySem.W.fnOf x qual (defArgs st) (defBody st) (defScope st) .none kV doc pm an cdv ct) ⟨us,[]⟩=pure (ps.zip us)):Binds K fd ps []:=by
 obtain ⟨oc,od,kV,doc,pm,an,cdv,ct,osl,rfl,lk,hcd⟩:=F.ex
 exact .all (h kV doc pm an cdv ct)
theorem fun_mk {x qual:Str} {st:Stmt} {f:Addr} {oc:Value} {od an:Option Addr} {osl:Array (Option Value)} {kV doc pm cdv ct:Value} (l:K.lookup f=some ⟨oc,od,.func (PySem.W.fnOf x qual (defArgs st) (defBody st) (defScope st) .none kV doc pm an cdv ct),osl⟩)
 (c:PySem.W.codeIn K cdv qual=true) (k:PySem.W.keepIn K (.ref f)=true):Fun K x qual st f (PySem.W.fnOf x qual (defArgs st) (defBody st) (defScope st) .none kV doc pm an cdv ct):=⟨⟨oc,od,kV,doc,pm,an,cdv,ct,osl,rfl,l,c⟩,k⟩
end
theorem hu_of {A:Around} {k:Nat} (hr:Room k A):A.units+1<cLine:=Nat.lt_of_le_of_lt (Nat.add_le_add_left (by decide:1≤64) _) hr.units
theorem small1000 {n:Nat} (h:n≤1000):n<sizeLine:=Nat.lt_of_le_of_lt h (by decide)
section
variable {X:Cx}
theorem pv (i:Nat) {x:Str} {pos:Pos} (hN:X.N[i]?=some x:=by rfl) (hv:Vis X.env.scope x:=by first|exact Or.inl rfl|exact Or.inr (Or.inl rfl)|exact Or.inr (Or.inr rfl)) (hd:(x == ("__debug__" : Str))=false:=by decide)
 (hcd:(x == ("__classdict__" : Str))=false:=by decide):PE X (.Name x pos) (tVar i):=pe_var hN hv hd hcd
end
theorem ite2 {c A B:Prop} [Decidable c] (h1:c->A) (h2:¬ c->B):if c then A else B:=by
 by_cases h:c
 ·rw [if_pos h]
  exact h1 h
 ·rw [if_neg h]
  exact h2 h
def Same (H H':Hp):Prop:=∀ b o,H b=some o->H' b=some o
theorem Same.refl (H:Hp):Same H H:=fun _ _ h=>h
theorem Same.trans {H H1 H2:Hp} (a:Same H H1) (b:Same H1 H2):Same H H2:=fun c o h=>b c o (a c o h)
theorem Same.free {H H':Hp} (e:Same H H') {l:Addr} (h:H' l=Option.none):H l=Option.none:=by
 cases q:H l with
 |none=>rfl
 | some o=>
   rw [e l o q] at h
   cases h
theorem Same.seq {K:PySem.W.Frag} {H H':Hp} {a:Addr} {xs:List V} (e:Same H H') (h:SqL K H a xs):SqL K H' a xs:=by
 rcases h with (h|⟨o,h⟩)|h
 ·exact .inl (.inl (e _ _ h))
 ·exact .inl (.inr ⟨o,e _ _ h⟩)
 ·exact .inr h
section
variable {X:Cx}
theorem call_lenD:CallR X (.builtin "len") (fun xs H Q=>∃ a kvs,xs=[V.ref a]/\H a=some (.dK kvs)/\Q (.int kvs.length) H):=by
 intro pins s σ H xs us Q I r h
 obtain ⟨a,kvs,rfl,ha,q⟩:=h
 obtain ⟨u,rfl,ru⟩:=vals1 r
 cases ru
 exact d_len I (.inl ha) fun t s' I'=>⟨.int kvs.length,H,I',⟨t,rfl⟩,q⟩
end
section
variable {κ:Type} [DecidableEq κ]
end
theorem closure_ok {env:Env} (scope:Scope) (h:∀ y∈scope.names,y.2=.free->∃ c,env.cells.lookup y.1=some c) :
 ∃ cl,closureFor scope env=pure cl/\(∀ x c,cl.lookup x=some c->env.cells.lookup x=some c)/\∀ x,(x,NameKind.free)∈scope.names->∃ c,cl.lookup x=some c:=by
 have go:∀ (names:List (Str×NameKind)) (acc:List (Str×Addr)),(∀ y∈names,y.2=.free->∃ c,env.cells.lookup y.1=some c)->(∀ x c,acc.lookup x=some c->env.cells.lookup x=some c)->
  ∃ cl,(forIn names acc fun x cs=>(match x with
    |(name,kind)=>if kind == NameKind.free then (do let c ← cellOf env name;pure (ForInStep.yield ((name,c)::cs))) else pure (ForInStep.yield cs):Sem (ForInStep (List (Str×Addr)))))=pure cl/\
    (∀ x c,cl.lookup x=some c->env.cells.lookup x=some c)/\(∀ x,(x,NameKind.free)∈names∨(∃ c,acc.lookup x=some c)->∃ c,cl.lookup x=some c):=by
  intro names
  induction names with
  |nil=>intro acc _ ha;exact ⟨acc,rfl,ha,fun x z=>z.elim (fun q=>nomatch q) id⟩
  | cons y r ih=>
    intro acc hy ha
    obtain ⟨n,k⟩:=y
    by_cases hk:k=.free
    ·subst hk
     obtain ⟨c,hc⟩:=hy (n,.free) List.mem_cons_self rfl
     obtain ⟨cl,e,h1,h2⟩:=ih ((n,c)::acc) (fun z hz=>hy z (List.mem_cons_of_mem _ hz)) (fun x c' hx=>by
      rw [List.lookup_cons] at hx
      by_cases q:x == n
      ·rw [q] at hx
       cases hx
       rw [beq_iff_eq.mp q];exact hc
      ·rw [Bool.not_eq_true] at q
       rw [q] at hx
       exact ha x c' hx)
     refine ⟨cl,?_,h1,fun x z=>h2 x ?_⟩
     ·rw [List.forIn_cons]
      simp only [beq_self_eq_true,if_true,cellOf,hc]
      exact e
     ·have aux:∀ x,(∃ c',acc.lookup x=some c')->∃ c',((n,c)::acc).lookup x=some c':=fun x ⟨c',z⟩=>by
       rw [List.lookup_cons]
       by_cases q:x == n
       ·rw [q];exact ⟨_,rfl⟩
       ·rw [Bool.not_eq_true] at q
        rw [q];exact ⟨c',z⟩
      rcases z with z|z
      ·rcases List.mem_cons.mp z with z|z
       ·cases z
        exact .inr ⟨c,by rw [List.lookup_cons,beq_self_eq_true]⟩
       ·exact .inl z
      ·exact .inr (aux x z)
    ·have hb:(k == NameKind.free)=false:=by simpa using hk
     obtain ⟨cl,e,h1,h2⟩:=ih acc (fun z hz=>hy z (List.mem_cons_of_mem _ hz)) ha
     refine ⟨cl,?_,h1,fun x z=>h2 x ?_⟩
     ·rw [List.forIn_cons]
      simp only [hb,Bool.false_eq_true,if_false]
      exact e
     ·rcases z with z|z
      ·rcases List.mem_cons.mp z with z|z
       ·cases z
        exact absurd rfl hk
       ·exact .inl z
      ·exact .inr z
 obtain ⟨cl,e,h1,h2⟩:=go scope.names [] h (fun x c z=>by simp at z)
 refine ⟨cl,?_,h1,fun x z=>h2 x (.inl z)⟩
 unfold closureFor
 exact (congrArg (fun (m:Sem (List (Str×Addr)))=>m >>= fun cs=>pure cs) e).trans rfl
def cxComp (X:Cx) (scope:Scope) (N':List Str) (cl:List (Str×Addr)) (C:Addr) (s₀:Shared) (H₀:Hp) (ex:List Addr):Cx where
 prog:=X.prog
 w:=X.w
 K:=X.K
 mg:=X.mg
 base:=X.base
 A:=X.A
 N:=N'
 s₀:=s₀
 H₀:=H₀
 env:=compEnvC scope cl C X.env
 outer:=X.stack
 stack:=X.stack
 ex:=ex
 fn:=fun _=>false
 calm:=X.calm
 pn:=[]
 xe:=fun _ _=>False
def compSt (k:Nat) (js:List Nat) (σ:St):St:=List.replicate k none++js.map fun j=>(σ[j]?).join
theorem compSt_len (k:Nat) (js:List Nat) (σ:St):(compSt k js σ).length=k+js.length:=by simp [compSt]
structure CompScope (X:Cx) (scope:Scope) (own:List Str) (js:List Nat) (N':List Str):Prop where
 kind:scope.kind=.function
 nocell:∀ y∈scope.names,y.2≠.cell
 names:∀ y∈scope.names,y.2=.local->scope.names.lookup y.1=some .local
 free:∀ y∈scope.names,y.2=.free->X.env.kindOf y.1=some .cell∨X.env.kindOf y.1=some .free
 nm:N'=own++js.map fun j=>X.N.getD j Str.empty
 fr:∀ j∈js,j<X.N.length/\(X.N.getD j Str.empty,NameKind.free)∈scope.names/\∀ k,(X.N.getD j Str.empty,k)∈scope.names->k=.free
theorem lookup_mem_free {names:List (Str×NameKind)} {x:Str} (h:(x,NameKind.free)∈names) (u:∀ k,(x,k)∈names->k=.free):names.lookup x=some .free:=by
 induction names with
 |nil=>cases h
 | cons y r ih=>
   obtain ⟨n,k⟩:=y
   rw [List.lookup_cons]
   by_cases q:x == n
   ·rw [q]
    have e:x=n:=beq_iff_eq.mp q
    subst e
    rw [u k List.mem_cons_self]
   ·rw [Bool.not_eq_true] at q
    rw [q]
    refine ih ?_ fun k hk=>u k (List.mem_cons_of_mem _ hk)
    rcases List.mem_cons.mp h with z|z
    ·cases z
     rw [beq_self_eq_true] at q;cases q
    ·exact z
theorem relabel_mem {scope:Scope} {env:Env} {x:Str} {k:NameKind} (h:(x,k)∈(relabel scope env).names) (hk:k=.cell∨k=.free) (hc:∀ y∈scope.names,y.2≠.cell):(x,NameKind.free)∈scope.names:=by
 unfold relabel at h
 obtain ⟨⟨n,k'⟩,hm,e⟩:=List.mem_map.mp h
 dsimp only at e
 by_cases q:(k' == NameKind.free && env.scope.kind == .function && env.kindOf n == some .cell)=true
 ·rw [if_pos q] at e
  cases e
  rw [Bool.and_eq_true,Bool.and_eq_true] at q
  have:k'=.free:=by simpa using q.1.1
  rw [← this];exact hm
 ·rw [if_neg q] at e
  cases e
  rcases hk with z|z
  ·exact absurd z (hc _ hm)
  ·rw [← z];exact hm
theorem lookup_relabel_free {env:Env} {x:Str}:∀ {names:List (Str×NameKind)},names.lookup x=some .free->
 (names.map fun (n,k)=>if (k == NameKind.free && env.scope.kind == .function && env.kindOf n == some .cell) then (n,NameKind.cell) else (n,k)).lookup x=some .cell∨
 (names.map fun (n,k)=>if (k == NameKind.free && env.scope.kind == .function && env.kindOf n == some .cell) then (n,NameKind.cell) else (n,k)).lookup x=some .free
 |[],h=>by simp at h
 | (n,k)::r,h=>by
   have ih:=@lookup_relabel_free env x r
   rw [List.lookup_cons] at h
   rw [List.map_cons]
   dsimp only
   by_cases q:x == n
   ·rw [q] at h
    cases h
    by_cases c:(NameKind.free == NameKind.free && env.scope.kind == .function && env.kindOf n == some .cell)=true
    ·rw [if_pos c,List.lookup_cons,q];exact .inl rfl
    ·rw [if_neg c,List.lookup_cons,q];exact .inr rfl
   ·rw [Bool.not_eq_true] at q
    rw [q] at h
    by_cases c:(k == NameKind.free && env.scope.kind == .function && env.kindOf n == some .cell)=true
    ·rw [if_pos c,List.lookup_cons,q];exact ih h
    ·rw [if_neg c,List.lookup_cons,q];exact ih h
section
variable {X:Cx} {pins:List (Addr×Obj)} {σ:St} {H:Hp} {s:Shared}
theorem Inv.comp {scope:Scope} {own:List Str} {js:List Nat} {N':List Str} {cl:List (Str×Addr)} {C:Addr} {h₁:Heap} {tk:Nat} {fp:List Addr} {m:Str->Option Value} (S:CompScope X scope own js N') (I:Inv X pins σ H s)
 (hc1:∀ x c,cl.lookup x=some c->X.env.cells.lookup x=some c) (hc2:∀ x,(x,NameKind.free)∈scope.names->∃ c,cl.lookup x=some c) (hC:s.heap.objs.size≤C) (hns:h₁.Ns C m) (hk:∀ b o,s.heap.get? b=some o->h₁.get? b=some o)
 (hf:∀ b∈fp,FpOk X pins H b/\b<s.heap.objs.size) (hHC:H C=none) (hfree:∀ b o,s.heap.get? b=some o->b≠C) :
 Inv (cxComp X scope N' cl C s H fp) [] (compSt own.length js σ) H { s with heap:=h₁,toks:=tk }:=by
 have ltx:∀ b o,X.s₀.heap.get? b=some o->b∉X.ex->b∉fp:=fun b o e hx hb=>by
  rcases (hf b hb).1.2.2.2.1 with z|z
  ·exact hx z
  ·exact absurd (Nat.lt_of_lt_of_le (Heap.lt_size e) z) (Nat.lt_irrefl _)
 refine ⟨⟨I.ok.mod,S.kind,I.ok.glob,I.ok.blt,hC,fun x y c h1 h2=>I.ok.inj x y c (hc1 x c h1) (hc1 y c h2),fun x hx=>?_,fun x c z=>(nomatch z),I.ok.hd,I.ok.frames,.inl rfl,fun b hb=>⟨Nat.ne_of_lt (Nat.lt_of_lt_of_le (hf b hb).2 hC),fun x c e=>(hf b hb).1.2.2.2.2.1 x c (hc1 x c e)⟩,I.bs,Nat.le_trans I.ok.bsz I.sz,fun b o e=>ltx b o (I.ok.bs b o e).1 (I.ok.noex b o e),fun b hb z=>?_,I.stack,I.stkFree⟩,
  rfl,I.bare,Un.kept hk,⟨m,hns,fun i x v e1 e2 e3=>?_⟩,fun x c e=>?_,hHC,fun x c e=>I.freeC x c (hc1 x c e),fun p hp=>absurd (show p∈([]:List (Addr×Obj)) from hp) (by simp),I.hok.kept hk,?_⟩
 ·have hx':(relabel scope X.env).names.lookup x=some .cell∨(relabel scope X.env).names.lookup x=some .free:=hx
  rcases hx' with z|z
  ·exact hc2 x (relabel_mem (PySem.mem_of_lookup z) (.inl rfl) S.nocell)
  ·exact hc2 x (relabel_mem (PySem.mem_of_lookup z) (.inr rfl) S.nocell)
 ·obtain ⟨_,f1,f2,_⟩:=(hf b hb).1
  rcases List.mem_cons.mp (I.stkSub b z) with q|q
  ·exact f1 q
  ·exact f2 q
 ·
  unfold compSt at e2
  by_cases hi:i<own.length
  ·rw [List.getElem?_append_left (by simpa using hi),List.getElem?_replicate] at e2
   split at e2 <;> cases e2
  ·rw [List.getElem?_append_right (by simpa using hi),List.length_replicate,List.getElem?_map] at e2
   cases ej:js[i-own.length]? with
   |none=>rw [ej] at e2;cases e2
   | some j=>
     rw [ej] at e2
     have e2':(σ[j]?).join=some v:=by simpa using e2
     have hσ:σ[j]?=some (some v):=by
      cases q:σ[j]? with
      |none=>rw [q] at e2';cases e2'
      |some o=>rw [q] at e2';exact congrArg some e2'
     have hj:=S.fr j (List.mem_of_getElem? ej)
     have hx:x=X.N.getD j Str.empty:=by
      have e1':N'[i]?=some x:=e1
      rw [S.nm,List.getElem?_append_right (by omega),List.getElem?_map,ej] at e1'
      exact (Option.some.inj e1').symm
     have hN:X.N[j]?=some x:=by
      rw [hx,List.getD_eq_getElem?_getD,List.getElem?_eq_getElem hj.1];rfl
     have hfr:scope.names.lookup x=some .free:=by rw [hx];exact lookup_mem_free hj.2.1 hj.2.2
     have hkx:=S.free (x,.free) (by rw [hx];exact hj.2.1) rfl
     have hvis:Vis X.env.scope x:=hkx.elim (fun z=>.inr (.inl z)) fun z=>.inr (.inr z)
     obtain ⟨mX,hnX,hlX⟩:=I.loc
     obtain ⟨u,r,l⟩:=hlX j x v hN hσ hvis
     refine ⟨u,r,.inr ⟨lookup_relabel_free hfr,?_⟩⟩
     rcases l with ⟨z,_⟩|⟨_,c,hc,hcell⟩
     ·rcases hkx with q|q
      ·have:=q.symm.trans z;cases this
      ·have:=q.symm.trans z;cases this
     ·obtain ⟨c',hc'⟩:=hc2 x (by rw [hx];exact hj.2.1)
      have:c'=c:=Option.some.inj ((hc1 x c' hc').symm.trans hc)
      subst this
      obtain ⟨o,ho,hd⟩:=hcell
      exact ⟨c',hc',o,hk _ _ ho,hd⟩
 ·obtain ⟨v,o,ho,hd⟩:=I.cell x c (hc1 x c e)
  exact ⟨v,o,hk _ _ ho,hd⟩
 ·rw [compSt_len]
  show _=N'.length
  rw [S.nm];simp
end
def PIfs (Y:Cx) (ifs:List Expr) (t:TT):Prop:=
 ∀ (pins:List (Addr×Obj)) (s:Shared) (σ:St) (H:Hp) (Q:Bool->Hp->Prop),Inv Y pins σ H s->t σ H Q->
   wpAny (model Y.prog Y.w) Y.A (forIn ifs true fun c r=>if r=true then do let ok ← isTrue c Y.env (eval c Y.env);pure (ForInStep.yield ok) else pure (ForInStep.yield r)) (TP Y pins σ Q) Y.xe s
def tYes:TT:=fun _ H Q=>Q true H
theorem pifs_nil {Y:Cx}:PIfs Y [] tYes:=fun _ _ _ H _ I h=>wpAny_tests_nil ⟨H,I,h⟩
theorem pifs_one {Y:Cx} {c:Expr} {t:TT} (h:PT Y c t):PIfs Y [c] t:=fun pins s σ H Q I hw=>wpAny_tests_one (h pins s σ H Q I hw)
abbrev accObj (us:List Value) (k:Nat):Obj:={ cls:=.type "list",data:=.seq us.toArray k }
def CTurn (J:It) (g:TG) (tt:TT) (te:TE) (F:List V->Hp->Prop) (W:Nat->Nat->List V->St->Hp->Prop):Prop:=
 ∀ i m ys σ H,W i m ys σ H->(J.stop i H/\F ys H)∨(J.go i H/\ys.length<sizeLine/\∀ x H1,J.yld i H x H1->g x σ H1 fun σ2 H2=>tt σ2 H2 fun b H3=>
   if b=true then te σ2 H3 fun y H4=>∃ m',m'<m/\W (i+1) m' (ys++[y]) σ2 H4 else ∃ m',m'<m/\W (i+1) m' ys σ2 H3)
theorem comp_loop {X:Cx} {scope:Scope} {N':List Str} {cl:List (Str×Addr)} {C acc it:Addr} {s₂:Shared} {H₂:Hp} {fp:List Addr} {tn:Nat->Heap->Prop} {J:It} {g:TG} {tt:TT} {te:TE} {F:List V->Hp->Prop}
 {elt tg iter:Expr} {ifs:List Expr} {pos:Pos} {R:Result->Shared->Prop} (W:Nat->Nat->List V->St->Hp->Prop) (turn:CTurn J g tt te F W) (T:Turn X.prog X.w X.K tg J fp it tn)
 (hg:PG (cxComp X scope N' cl C s₂ H₂ fp) tg g) (hc:PIfs (cxComp X scope N' cl C s₂ H₂ fp) ifs tt) (he:PE (cxComp X scope N' cl C s₂ H₂ fp) elt te) (hcalm:X.calm=true)
 (hfp:∀ b∈fp,b≠C/\b∉frs X.stack/\(∀ x c,cl.lookup x=some c->c≠b)/\b≠acc) (hacc:acc≠C/\acc∉frs X.stack/\(∀ x c,cl.lookup x=some c->c≠acc)/\s₂.heap.objs.size≤acc)
 (hR:∀ s' σ' H' ys us k,Inv (cxComp X scope N' cl C s₂ H₂ fp) [(acc,accObj us k)] σ' H' s'->Vals ys us->F ys H'->R (.ok .next) s')
 {s:Shared} {σ:St} {H:Hp} {m:Nat} (I:Inv (cxComp X scope N' cl C s₂ H₂ fp) [(acc,accObj [] 0)] σ H s) (st:tn 0 s.heap) (fr:∀ b∈fp,H b=none) (w0:W 0 m [] σ H) :
 codeAny (model X.prog X.w) X.A (.compLoop (.ListComp elt [⟨tg,iter,ifs,0⟩] scope pos) 0 (.ref it) (.ref acc) (compEnvC scope cl C X.env)) R s:=by
 refine codeAny_loop rfl (fun n s'=>∃ i ys us k σ' H',Vals ys us/\Inv (cxComp X scope N' cl C s₂ H₂ fp) [(acc,accObj us k)] σ' H' s'/\tn i s'.heap/\(∀ b∈fp,H' b=none)/\W i n ys σ' H') (fun n s3 hI=>?_) m ⟨0,[],[],0,σ,H,.nil,I,st,fr,w0⟩
 obtain ⟨i,ys,us,k,σ3,H3,rv,I3,st3,fr3,w3⟩:=hI
 show wpAny _ X.A ((compTurn (.ListComp elt [⟨tg,iter,ifs,0⟩] scope pos) 0 (.ref it) (.ref acc) (compEnvC scope cl C X.env)).onRaise (fun x=>do noteFrame x (compEnvC scope cl C X.env);theTreesLotGoes x)) _ _ s3
 refine wpAny_noted ?_
 rw [compTurn_list]
 have fpk:∀ {pins:List (Addr×Obj)} {H':Hp},(∀ p∈pins,p.1=acc∨p.1∈([]:List Addr))->(∀ b∈fp,H' b=none)->∀ b∈fp,FpOk (cxComp X scope N' cl C s₂ H₂ fp) pins H' b:=fun hp hn b hb=>
  ⟨hn b hb,(hfp b hb).1,(hfp b hb).2.1,.inl hb,(hfp b hb).2.2.1,fun p hp'=>by
   have hp'':p∈([]:List (Addr×Obj))++_:=hp'
   rcases hp p (by simpa using hp'') with z|z
   ·rw [z];exact Ne.symm (hfp b hb).2.2.2
   ·exact (nomatch z)⟩
 have fp1:=fpk (pins:=[(acc,accObj us k)]) (fun p hp=>.inl (by simp at hp;rw [hp])) fr3
 refine wpAny_bind (wpAny_standAt (wpAny_bind ?_))
 rcases turn i n ys σ3 H3 w3 with ⟨stop,qn⟩|⟨go,hz,step⟩
 ·refine wpAny_mono (T.done (cxComp X scope N' cl C s₂ H₂ fp) rfl rfl rfl hcalm i _ s3 σ3 H3 (fun _ _=>False) I3 fp1 st3 stop) (fun r s4 ⟨hr,I4⟩=>?_) (fun _ _ z=>z.elim)
  subst hr
  exact wpAny_pure (hR s4 σ3 H3 ys us k I4 rv qn)
 ·refine wpAny_mono (T.item (cxComp X scope N' cl C s₂ H₂ fp) rfl rfl rfl hcalm i _ s3 σ3 H3 (fun _ _=>False) I3 fp1 st3 go) (fun r s4 ⟨u,hr,h4⟩=>?_) (fun _ _ z=>z.elim)
  subst hr
  refine wpAny_bind (wpAny_mono h4 (fun _ s5 ⟨x,H5,I5,r5,y5,st5,fr5⟩=>?_) (fun _ _ z=>z.elim))
  have fp5:=fpk (pins:=[(acc,accObj us k)]) (fun p hp=>.inl (by simp at hp;rw [hp])) fr5
  have I5':=I5.pinned fp5 (T.obj _ _ st5)
  refine wpAny_bind (wpAny_mono (hg _ s5 σ3 H5 x u _ I5' r5 (step x H5 y5)) (fun _ s6 ⟨σ6,H6,I6,q6⟩=>?_) (fun _ _ z=>z.elim))
  refine wpAny_bind (wpAny_mono (hc _ s6 σ6 H6 _ I6 q6) (fun ok s7 ⟨H7,I7,q7⟩=>?_) (fun _ _ z=>z.elim))
  have again:∀ {s8:Shared} {σ8:St} {H8:Hp} {us8:List Value} {k8:Nat} {ys8:List V},Inv (cxComp X scope N' cl C s₂ H₂ fp) ([(acc,accObj us k)]++pinsAt fp s5.heap) σ8 H8 s8->tn (i+1) s8.heap/\∀ b∈fp,H8 b=none:=fun {s8 σ8 H8 us8 k8 ys8} I8=>
   ⟨T.keep _ _ _ st5 fun b hb o e=>(I8.pin (b,o) (List.mem_append_right _ (List.mem_append_right _ (mem_pinsAt hb e)))).1,fun b hb=>by
    obtain ⟨o,e,d⟩:=T.obj _ _ st5 b hb
    exact (I8.pin (b,o) (List.mem_append_right _ (List.mem_append_right _ (mem_pinsAt hb e)))).2.1⟩
  cases ok with
  | false=>
    rw [if_neg Bool.false_ne_true] at q7
    obtain ⟨m',hm,w7⟩:=q7
    obtain ⟨t1,t2⟩:=again (us8:=us) (k8:=k) (ys8:=ys) I7
    exact wpAny_pure ⟨rfl,m',hm,i+1,ys,us,k,σ6,H7,rv,I7.unpinned,t1,t2,w7⟩
  | true=>
    rw [if_pos rfl] at q7
    refine wpAny_bind (wpAny_bind (wpAny_mono (he _ s7 σ6 H7 _ I7 q7) (fun y s8 ⟨yv,H8,I8,r8,m',hm,w8⟩=>?_) (fun _ _ z=>z.elim)))
    obtain ⟨t1,t2⟩:=again (us8:=us) (k8:=k) (ys8:=ys) I8
    obtain ⟨e8,n8,l8,f8,d8⟩:=I8.pin (acc,accObj us k) (List.mem_append_right _ (List.mem_append_left _ List.mem_cons_self))
    have hlen:=rv.length
    have hz':us.toArray.size≤sizeLine:=by rw [List.size_toArray];omega
    refine wpAny_bind (call_meets PySem.F.slot_list_append ⟨_,e8,rfl⟩ PySem.F.entry_list_append (PySem.F.args_list_append_2 _ _) (PySem.list_append acc us.toArray k y hz') ⟨e8,?_⟩)
    have q:=PySem.IsL.update e8 (fun z=>z.push y)
    have I9:Inv (cxComp X scope N' cl C s₂ H₂ fp) [] σ6 H8 s8:=I8.pins_of fun p hp=>(nomatch hp)
    have I10:=I9.turned (t':=s8.toks) (it:=acc) (h':=s8.heap.update acc (Obj.mapSeq fun z=>z.push y)) (fun b o hb e=>(Heap.get?_update_other s8.heap _ (Ne.symm hb)).trans e) n8 hacc.1 (.inr hacc.2.2.2) hacc.2.2.1 (fun p hp=>(nomatch hp))
    have e':(us.toArray.push y)=(us++[y]).toArray:=by simp
    rw [e'] at q
    obtain ⟨k9,ek⟩:∃ k9,k9=(if ((us++[y]).toArray.size == us.toArray.size)=true then k else k+1):=⟨_,rfl⟩
    rw [← ek] at q
    have I11:=I10.pins_of (pins':=[(acc,accObj (us++[y]) k9)]) fun p hp=>by
     obtain rfl:p=(acc,accObj (us++[y]) k9):=by simpa using hp
     exact ⟨q,n8,hacc.1,hacc.2.1,fun v z=>by cases z⟩
    refine wpAny_pure (wpAny_pure ⟨rfl,m',hm,i+1,ys++[yv],us++[y],k9,σ6,H8,rv.append (.cons r8 .nil),I11,T.keep _ _ _ t1 fun b hb o e=>?_,t2,w8⟩)
    exact (Heap.get?_update_other s8.heap _ (hfp b hb).2.2.2.symm).trans e
def tComp (wi:TI) (g:TG) (tt:TT) (te:TE) (k:Nat) (js:List Nat):TE:=fun σ H Q=>wi σ H fun J H1=>∃ W:Nat->Nat->List V->St->Hp->Prop,(∃ m,W 0 m [] (compSt k js σ) H1)/\
 CTurn J g tt te (fun ys H2=>ys.length≤sizeLine/\∀ p,H2 p=none->Q (.ref p) (upd H2 p (.lst ys))) W
section
variable {X:Cx} {scope:Scope} {own:List Str} {js:List Nat} {N':List Str} {wi:TI} {g:TG} {tt:TT} {te:TE} {elt tg iter:Expr} {ifs:List Expr} {pos:Pos}
theorem comp_run {pins:List (Addr×Obj)} {σ:St} {H:Hp} {s:Shared} {it:Addr} {fp:List Addr} {tn:Nat->Heap->Prop} {J:It} {cl:List (Str×Addr)} {F:List V->Hp->Prop} {E:Value->Shared->Prop} {RR:Value->Addr->Result->Shared->Prop}
 (S:CompScope X scope own js N') (hcalm:X.calm=true) (hg:∀ cl C s₀ H₀ ex,PG (cxComp X scope N' cl C s₀ H₀ ex) tg g) (hc:∀ cl C s₀ H₀ ex,PIfs (cxComp X scope N' cl C s₀ H₀ ex) ifs tt) (he:∀ cl C s₀ H₀ ex,PE (cxComp X scope N' cl C s₀ H₀ ex) elt te)
 (hc1:∀ x c,cl.lookup x=some c->X.env.cells.lookup x=some c) (hc2:∀ x,(x,NameKind.free)∈scope.names->∃ c,cl.lookup x=some c)
 (I:Inv X pins σ H s) (T:Turn X.prog X.w X.K tg J fp it tn) (st:tn 0 s.heap) (hf:∀ b∈fp,FpOk X pins H b) (W:Nat->Nat->List V->St->Hp->Prop) {m0:Nat} (w0:W 0 m0 [] (compSt own.length js σ) H) (turn:CTurn J g tt te F W)
 (hF:∀ ys H',F ys H'->ys.length≤sizeLine)
 (fin:∀ acc C H' ys s' m,Inv X pins σ (upd H' acc (.lst ys)) s'->H' acc=none->s'.heap.Ns C m->(upd H' acc (.lst ys)) C=none->C≠X.env.locals->X.s₀.heap.objs.size≤C->(∀ x c,X.env.cells.lookup x=some c->c≠C)->(∀ p∈X.pn++pins,p.1≠C)->F ys H'->RR (.ref acc) C (.ok .next) s') :
 wpAny (model X.prog X.w) X.A (newList []) (fun acc s₃=>wpAny (model X.prog X.w) X.A (newFunctionEnv scope X.env.globals cl [] X.env.qual none .none (some X.env)) (fun cenv s₄=>
  codeAny (model X.prog X.w) X.A (.compStart (.ListComp elt [⟨tg,iter,ifs,0⟩] scope pos) 0 (.ref it) acc { cenv with scope:=relabel scope X.env }) (RR acc cenv.locals) s₄) E s₃) E s:=by
 refine wpAny_newObj_type (wpAny_newFunctionEnv S.nocell (by intro y hy;simp at hy) (fun h₁ hns₁ hsb₁=>?_) S.kind)
 dsimp only at hns₁ hsb₁ ⊢
 generalize hH2:s.heap.push { cls:=.type "list",dict:=none,data:=.seq ([]:List Value).toArray }=H2 at hns₁ hsb₁ ⊢
 have hC:H2.objs.size=s.heap.objs.size+1:=by rw [← hH2,Heap.size_push]
 have hDC:s.heap.objs.size≠H2.objs.size:=by rw [hC];exact Nat.ne_of_lt (Nat.lt_succ_self _)
 have hCle:s.heap.objs.size≤H2.objs.size:=by rw [hC];exact Nat.le_succ _
 have below:∀ b,b<s.heap.objs.size->b≠H2.objs.size/\b≠s.heap.objs.size:=fun b hb=>⟨by rw [hC];exact Nat.ne_of_lt (Nat.lt_succ_of_lt hb),Nat.ne_of_lt hb⟩
 have old:∀ b o,s.heap.get? b=some o->h₁.get? b=some o:=fun b o e=>hsb₁.extBut b o (below b (Heap.lt_size e)).1 (Heap.get?_push_of_some _ (hH2 ▸ Heap.get?_push_of_some _ e))
 have hacc:h₁.get? s.heap.objs.size=some (accObj [] 0):=hsb₁.extBut _ _ hDC (Heap.get?_push_of_some _ (hH2 ▸ Heap.get?_push_size _ rfl))
 generalize hCn:H2.objs.size=C at *
 generalize hAn:s.heap.objs.size=acc at *
 have cellLt:∀ x c,X.env.cells.lookup x=some c->c<acc:=fun x c e=>by
  obtain ⟨v,q⟩:=I.cell x c e
  rw [← hAn];exact q.lt
 have pinLt:∀ p∈X.pn++pins,p.1<acc:=fun p hp=>by rw [← hAn];exact Heap.lt_size (I.pin p hp).1
 have stkLt:∀ b∈frs X.stack,b<acc:=fun b hb=>by
  obtain ⟨_,o,ho,_⟩:=I.stack.mem hb
  rw [← hAn];exact Heap.lt_size ho
 have fpLt:∀ b∈fp,b<acc:=fun b hb=>by
  obtain ⟨o,e,_⟩:=T.obj _ _ st b hb
  rw [← hAn];exact Heap.lt_size e
 have hHC:H C=none:=I.hok.fresh (by rw [hAn];exact hCle)
 have hHA:H acc=none:=I.hok.fresh (by rw [hAn];exact Nat.le_refl _)
 have I1:Inv (cxComp X scope N' cl C s H fp) [] (compSt own.length js σ) H { s with heap:=h₁,toks:=s.toks+([]:List (Str×Value)).length }:=
  Inv.comp S I hc1 hc2 (by rw [hAn];exact hCle) hns₁ old (fun b hb=>⟨hf b hb,by rw [hAn];exact fpLt b hb⟩) hHC fun b o e=>(below b (by rw [← hAn];exact Heap.lt_size e)).1
 have I2:Inv (cxComp X scope N' cl C s H fp) [(acc,accObj [] 0)] (compSt own.length js σ) H { s with heap:=h₁,toks:=s.toks+([]:List (Str×Value)).length }:=I1.pins_of fun p hp=>by
  obtain rfl:p=(acc,accObj [] 0):=by simpa using hp
  exact ⟨hacc,hHA,hDC,fun z=>absurd (stkLt acc z) (Nat.lt_irrefl _),fun v z=>by cases z⟩
 have st1:tn 0 h₁:=T.keep _ _ _ st fun b hb o e=>old b o e
 have loop:∀ s₃:Shared,s₃={ s with heap:=h₁,toks:=s.toks+([]:List (Str×Value)).length }->
  codeAny (model X.prog X.w) X.A (.compLoop (.ListComp elt [⟨tg,iter,ifs,0⟩] scope pos) 0 (.ref it) (.ref acc) (compEnvC scope cl C X.env)) (RR (.ref acc) C) s₃:=by
  rintro s₃ rfl
  refine comp_loop W turn T (hg _ _ _ _ _) (hc _ _ _ _ _) (he _ _ _ _ _) hcalm
   (fun b hb=>⟨(below b (fpLt b hb)).1,fun z=>?_,fun x c e z=>(hf b hb).2.2.2.2.1 x c (hc1 x c e) z,(below b (fpLt b hb)).2⟩)
   ⟨hDC,fun z=>absurd (stkLt acc z) (Nat.lt_irrefl _),fun x c e z=>absurd (cellLt x c (hc1 x c e)) (by rw [z];exact Nat.lt_irrefl _),by rw [hAn];exact Nat.le_refl _⟩ ?_ I2 st1 (fun b hb=>(hf b hb).1) w0
  ·rcases List.mem_cons.mp (I.stkSub b z) with q|q
   ·exact (hf b hb).2.1 q
   ·exact (hf b hb).2.2.1 q
  ·intro s' σ' H' ys us k J' rv q
   obtain ⟨e',n',l',f',d'⟩:=J'.pin (acc,accObj us k) (List.mem_append_right _ List.mem_cons_self)
   have n'':H' acc=none:=n'
   obtain ⟨m,hm,_⟩:=J'.loc
   have oldLt:∀ b o,s.heap.get? b=some o->b<acc:=fun b o e=>by rw [← hAn];exact Heap.lt_size e
   have neA:∀ b o,s.heap.get? b=some o->b≠acc:=fun b o e=>Nat.ne_of_lt (oldLt b o e)
   have un:Un (frs X.stack) fp H (upd H' acc (.lst ys)) s.heap s'.heap:=⟨J'.base.keep,J'.base.slot,fun b o e n hx=>by rw [upd_ne (neA b o e)];exact J'.base.free b o e n hx,J'.base.there,
    fun b xs e=>by
     have z:=J'.base.tups b xs e
     rw [upd_ne (ne_of_none z n'')];exact z,
    fun b o u e=>by
     have z:=J'.base.frzs b o u e
     rw [upd_ne (ne_of_none z n'')];exact z,
    fun b ps e=>by
     obtain ⟨more,z⟩:=J'.base.tbls b ps e
     exact ⟨more,by rw [upd_ne (ne_of_none z n'')];exact z⟩⟩
   have hok:HOk X.prog X.w (upd H' acc (.lst ys)) s'.heap:=fun b u e=>by
    by_cases hb:b=acc
    ·subst hb
     rw [upd_same] at e;cases e
     exact ⟨hF _ _ q,us,k,rv,e'⟩
    ·rw [upd_ne hb] at e
     exact (J'.hok b u e).stay (fun c v _ z=>z) (fun c z=>by rw [upd_ne (ne_of_none z n'')];exact z) fun c xs z=>by rw [upd_ne (ne_of_none z n'')];exact z
   have IX:Inv X pins σ (upd H' acc (.lst ys)) s':=I.call' J'.os un hok J'.bare fun b hb=>⟨(hf b hb).2.2.2.1,(hf b hb).2.1,(hf b hb).2.2.2.2.1,(hf b hb).2.2.2.2.2⟩
   refine fin acc C H' ys s' m IX n'' hm ?_ ?_ ?_ ?_ ?_ q
   ·rw [upd_ne (Ne.symm hDC)];exact J'.free
   ·exact Nat.ne_of_gt (Nat.lt_of_lt_of_le I.lt (by rw [hAn];exact hCle))
   ·exact Nat.le_trans I.sz (by rw [hAn];exact hCle)
   ·exact fun x c e z=>absurd (Nat.lt_of_lt_of_le (cellLt x c e) hCle) (by rw [z];exact Nat.lt_irrefl _)
   ·exact fun p hp z=>absurd (Nat.lt_of_lt_of_le (pinLt p hp) hCle) (by rw [z];exact Nat.lt_irrefl _)
 exact codeAny_compStart_list (loop _ rfl) (T.self _ 0 _ _ _ st1 (loop _ rfl))
theorem pe_comp (S:CompScope X scope own js N') (hcalm:X.calm=true) (hi:PI X tg iter wi) (hg:∀ cl C s₀ H₀ ex,PG (cxComp X scope N' cl C s₀ H₀ ex) tg g) (hc:∀ cl C s₀ H₀ ex,PIfs (cxComp X scope N' cl C s₀ H₀ ex) ifs tt)
 (he:∀ cl C s₀ H₀ ex,PE (cxComp X scope N' cl C s₀ H₀ ex) elt te) (hs:∀ x,foldedSetIterable iter X.env x=pure x:=by intro _;rfl):PE X (.ListComp elt [⟨tg,iter,ifs,0⟩] scope pos) (tComp wi g tt te own.length js):=by
 intro pins s σ H Q I h
 obtain ⟨cl,hcl,hc1,hc2⟩:=closure_ok (env:=X.env) scope fun y hy hk=>I.ok.has y.1 (S.free y hy hk)
 rw [eval_ListComp]
 refine wpAny_comprehension_free (use:=none) rfl hs hcl S.kind S.names (thn (hi pins s σ H _ I h) fun v s1 h1=>thn h1 fun itv s2 h2=>?_)
 obtain ⟨it,fp,tn,J,H2,e,I2,T,st2,f2,W,⟨m0,w0⟩,turn⟩:=h2
 subst e
 refine comp_run (RR:=fun acc C=>compPost (model X.prog X.w) X.A X.xe none (EP X pins σ Q) acc C) S hcalm hg hc he hc1 hc2 I2 T st2 f2 W w0 turn (fun ys H' q=>q.1) ?_
 intro acc C H' ys s' m IX na hm hCn hL hz hcn hpn q
 refine ⟨m,hm,fun h' hs'=>⟨.ref acc,_,?_,rfl,q.2 acc na⟩⟩
 exact IX.turned (t':=s'.toks) (it:=C) (fun b o hb e=>(hs'.2 b hb).trans e) hCn hL (.inr hz) hcn hpn
theorem ps_setComp {i:Nat} {x:Str} {pos' spos:Pos} (S:CompScope X scope own js N') (hcalm:X.calm=true) (hN:X.N.Nodup) (hx:X.N[i]?=some x) (hk:X.env.scope.names.lookup x=some .local) (hi:PI X tg iter wi) (hg:∀ cl C s₀ H₀ ex,PG (cxComp X scope N' cl C s₀ H₀ ex) tg g) (hc:∀ cl C s₀ H₀ ex,PIfs (cxComp X scope N' cl C s₀ H₀ ex) ifs tt)
 (he:∀ cl C s₀ H₀ ex,PE (cxComp X scope N' cl C s₀ H₀ ex) elt te) (hsw:swapsWith (.ListComp elt [⟨tg,iter,ifs,0⟩] scope pos) (some (.Name x pos')) spos.line X.env=pure true:=by rfl) (hs:∀ x,foldedSetIterable iter X.env x=pure x:=by intro _;rfl) :
 PS X (.Assign [.Name x pos'] (.ListComp elt [⟨tg,iter,ifs,0⟩] scope pos) spos) (tAsg (tComp wi g tt te own.length js) (gName i)):=by
 intro pins s σ H D I h
 obtain ⟨cl,hcl,hc1,hc2⟩:=closure_ok (env:=X.env) scope fun y hy hk=>I.ok.has y.1 (S.free y hy hk)
 rw [exec_Assign_Name_used _ _ _ _ hsw]
 refine wpAny_bind (wpAny_standAt (wpAny_bind ?_))
 show wpAny _ X.A (do let _ ← comprehension (.ListComp elt [⟨tg,iter,ifs,0⟩] scope pos) scope X.env _ (newList []) false (eval iter X.env) (some (assign (.Name x pos') X.env))) _ _ s
 refine wpAny_bind (wpAny_mono (wpAny_comprehension_free (use:=some (assign (.Name x pos') X.env)) (Q:=fun _ s'=>SP X pins D .next s') rfl hs hcl S.kind S.names
  (thn (hi pins s σ H _ I h) fun v s1 h1=>thn h1 fun itv s2 h2=>?_)) (fun _ s' hq=>wpAny_pure (wpAny_pure hq)) fun _ _ e=>e)
 obtain ⟨it,fp,tn,J,H2,e,I2,T,st2,f2,W,⟨m0,w0⟩,turn⟩:=h2
 subst e
 refine comp_run (RR:=fun acc C=>compPost (model X.prog X.w) X.A X.xe (some (assign (.Name x pos') X.env)) (fun _ s'=>SP X pins D .next s') acc C) S hcalm hg hc he hc1 hc2 I2 T st2 f2 W w0 turn (fun ys H' q=>q.1) ?_
 intro acc C H' ys s' m IX na hm hCn hL hz hcn hpn q
 show wpAny _ X.A (assign (.Name x pos') X.env (.ref acc)) _ _ s'
 refine wpAny_assign_Name (store_ok2 IX hN hx (.inl hk) (v:=.ref acc) rfl (fun s'' I'' hsb=>?_) (.inr hk))
 obtain ⟨a,hsb,ha⟩:=hsb
 have haC:C≠a:=by
  rcases ha with z|z
  ·rw [z];exact hL
  ·exact fun q=>hcn x a z q.symm
 refine ⟨m,hm.sameBut hsb haC,fun h' hs'=>⟨_,_,?_,q.2 acc na⟩⟩
 exact I''.turned (t':=s''.toks) (it:=C) (fun b o hb e=>(hs'.2 b hb).trans e) hCn hL (.inr hz) hcn hpn
end
section
variable {X:Cx}
def CDivW (i j:Int):Prop:=0<j/\j<340282366920938463463374607431768211456
theorem op_fdivW:OpR X (binaryOp .FloorDiv) (rI CDivW fun i j=>.int (i / j)):=opI fun i j _ _ _ _ _ hc q=>by
 rw [← Int.fdiv_eq_ediv_of_nonneg i (Int.le_of_lt hc.1)] at q
 have h1:(0:Int)<j:=hc.1
 have h2:j<340282366920938463463374607431768211456:=hc.2
 have hb:j.natAbs<340282366920938463463374607431768211456:=by omega
 have he:(2:Nat) ^ 128=340282366920938463463374607431768211456:=by decide +kernel
 have hl:j.natAbs.log2<128:=(Nat.log2_lt (by omega)).mpr (Nat.lt_of_lt_of_eq hb he.symm)
 exact floordiv_int (by have:=hc.1;omega) q (.inl (PyProof.noPylong_of_log2 (by omega)))
theorem comp_range {lo:Int} {n:Nat} {g:TG} {te:TE} {F:List V->Hp->Prop} {σ0:St} {H0:Hp} (Pv:Nat->List V->St->Hp->Prop) (hn:n≤sizeLine) (h0:Pv 0 [] σ0 H0)
 (hs:∀ i ys σ H,i<n->ys.length=i->Pv i ys σ H->∀ N:List V->St->Hp->Prop,(∀ ys' σ' H',ys'.length=i+1->Pv (i+1) ys' σ' H'->N ys' σ' H')->g (.int (lo+i)) σ H fun σ2 H2=>te σ2 H2 fun y H3=>N (ys++[y]) σ2 H3)
 (hd:∀ ys σ H,ys.length=n->Pv n ys σ H->F ys H) :
 ∃ W:Nat->Nat->List V->St->Hp->Prop,(∃ m,W 0 m [] σ0 H0)/\CTurn (Itr lo n) g tYes te F W:=by
 refine ⟨fun i m ys σ H=>m=n-i/\i≤n/\ys.length=i/\Pv i ys σ H,⟨n,by simp,Nat.zero_le _,rfl,h0⟩,?_⟩
 rintro i m ys σ H ⟨rfl,hi,hl,p⟩
 by_cases hlt:i<n
 ·refine .inr ⟨hlt,by omega,fun x H' y=>?_⟩
  obtain ⟨e,y⟩:=y
  subst e y
  exact hs i ys σ _ hlt hl p (fun ys' σ' H'=>∃ m',m'<n-i/\m'=n-(i+1)/\i+1≤n/\ys'.length=i+1/\Pv (i+1) ys' σ' H') fun ys' σ' H' hl' q=>⟨n-(i+1),by omega,rfl,hlt,hl',q⟩
 ·have e:i=n:=by omega
  subst e
  exact .inl ⟨Nat.le_refl _,hd ys σ H hl p⟩
theorem comp_list {K:PySem.W.Frag} {a:Addr} {xs:List V} {g:TG} {te:TE} {F:List V->Hp->Prop} {σ0:St} {H0:Hp} (Pv:Nat->List V->St->Hp->Prop) (hn:xs.length≤sizeLine) (h0:Pv 0 [] σ0 H0) (hq:∀ i ys σ H,i≤xs.length->Pv i ys σ H->SqL K H a xs)
 (hs:∀ i x ys σ H,xs[i]?=some x->ys.length=i->Pv i ys σ H->∀ N:List V->St->Hp->Prop,(∀ ys' σ' H',ys'.length=i+1->Pv (i+1) ys' σ' H'->N ys' σ' H')->g x σ H fun σ2 H2=>te σ2 H2 fun y H3=>N (ys++[y]) σ2 H3)
 (hd:∀ ys σ H,ys.length=xs.length->Pv xs.length ys σ H->F ys H) :
 ∃ W:Nat->Nat->List V->St->Hp->Prop,(∃ m,W 0 m [] σ0 H0)/\CTurn (Itl K a) g tYes te F W:=by
 refine ⟨fun i m ys σ H=>m=xs.length-i/\i≤xs.length/\ys.length=i/\Pv i ys σ H,⟨xs.length,by simp,Nat.zero_le _,rfl,h0⟩,?_⟩
 rintro i m ys σ H ⟨rfl,hi,hl,p⟩
 have q:=hq i ys σ H hi p
 by_cases hlt:i<xs.length
 ·refine .inr ⟨⟨xs,xs[i],q,by simp [hlt]⟩,by omega,fun x H' y=>?_⟩
  obtain ⟨e,y⟩:=y
  subst e
  exact hs i x ys σ _ (y xs q) hl p (fun ys' σ' H'=>∃ m',m'<xs.length-i/\m'=xs.length-(i+1)/\i+1≤xs.length/\ys'.length=i+1/\Pv (i+1) ys' σ' H') fun ys' σ' H' hl' q=>⟨xs.length-(i+1),by omega,rfl,hlt,hl',q⟩
 ·have e:i=xs.length:=by omega
  subst e
  exact .inl ⟨⟨xs,q,Nat.le_refl _⟩,hd ys σ H hl p⟩
structure Def (K:PySem.W.Frag) (mg:Str->Option Value) (x:Str) (st:Stmt) (ps:List Str) (f:Addr) (fd:FuncData):Prop where
 F:Fun K x x st f fd
 mg:mg x=some (.ref f)
 b:Binds K fd ps []
def But (p:Addr) (H H':Hp):Prop:=∀ b o,H b=some o->b≠p->H' b=some o
theorem But.refl {p:Addr} {H:Hp}:But p H H:=fun _ _ h _=>h
theorem But.trans {p:Addr} {H H1 H2:Hp} (a:But p H H1) (b:But p H1 H2):But p H H2:=fun c o h hc=>b c o (a c o h hc) hc
theorem But.upd {p:Addr} {H:Hp} {o:HO}:But p H (upd H p o):=fun b u h hb=>by rw [upd_ne hb];exact h
end
theorem seq_by {t u:TS} {D:Ends} {σ:St} {H:Hp} (M:St->Hp->Prop) (h2:∀ σ' H',M σ' H'->u D σ' H') (h1:∀ N:St->Hp->Prop,(∀ σ' H',M σ' H'->N σ' H')->t { D with nx:=N } σ H):tSeq t u D σ H:=h1 (u D) h2
theorem Same.new {H:Hp} {q:Addr} {o:HO} (h:H q=none):Same H (upd H q o):=fun b u e=>by rw [upd_ne (ne_of_none e h)];exact e
theorem Same.tup {K:PySem.W.Frag} {H H':Hp} {a:Addr} {xs:List V} (e:Same H H') (h:SqT K H a xs):SqT K H' a xs:=by
 rcases h with (h|⟨o,h⟩)|h
 ·exact .inl (.inl (e _ _ h))
 ·exact .inl (.inr ⟨o,e _ _ h⟩)
 ·exact .inr h
theorem bt_len:bootBuiltins "len" = some (.builtin "len"):=by decide +kernel
theorem bt_list:bootBuiltins "list" = some (.type "list"):=by decide +kernel
theorem bt_tuple:bootBuiltins "tuple" = some (.type "tuple"):=by decide +kernel
theorem bt_str:bootBuiltins "str" = some (.type "str"):=by decide +kernel
theorem bt_int:bootBuiltins "int" = some (.type "int"):=by decide +kernel
theorem bt_bool:bootBuiltins "bool" = some (.type "bool"):=by decide +kernel
theorem bt_all:bootBuiltins "all" = some (.builtin "all"):=by decide +kernel
theorem bt_isinstance:bootBuiltins "isinstance" = some (.builtin "isinstance"):=by decide +kernel
theorem bt_sorted:bootBuiltins "sorted" = some (.builtin "sorted"):=by decide +kernel
end L2
namespace L2
open PySem PySem.Spec PyProof.Rows PySem.SeqAt
mutual
inductive Rep (K:PySem.W.Frag) (H:Hp):V->PyData->Prop
 |non:Rep K H .non .none
 |bl (b:Bool):Rep K H (.bl b) (.bool b)
 |int (i:Int):Rep K H (.int i) (.int i)
 |str (x:Str):Rep K H (.str x) (.str x)
 |tup {a:Addr} {xs:List V} {ds:List PyData}:SqT K H a xs->Reps K H xs ds->Rep K H (.ref a) (.tuple ds)
 |lst {a:Addr} {xs:List V} {ds:List PyData}:SqL K H a xs->Reps K H xs ds->Rep K H (.ref a) (.list ds)
inductive Reps (K:PySem.W.Frag) (H:Hp):List V->List PyData->Prop
 |nil:Reps K H [] []
 |cons {x:V} {d:PyData} {xs:List V} {ds:List PyData}:Rep K H x d->Reps K H xs ds->Reps K H (x::xs) (d::ds)
end
section
variable {K:PySem.W.Frag} {H H':Hp}
theorem Reps.length:∀ {xs:List V} {ds:List PyData},Reps K H xs ds->xs.length=ds.length
 |_,_,.nil=>rfl
 |_,_,.cons _ t=>by rw [List.length_cons,List.length_cons,Reps.length t]
mutual
theorem Rep.map (f1:∀ a xs,SqT K H a xs->SqT K H' a xs) (f2:∀ a xs,SqL K H a xs->SqL K H' a xs):∀ {v:V} {d:PyData},Rep K H v d->Rep K H' v d
 |_,_,.non=>.non
 |_,_,.bl b=>.bl b
 |_,_,.int i=>.int i
 |_,_,.str x=>.str x
 |_,_,.tup h r=>.tup (f1 _ _ h) (Reps.map f1 f2 r)
 |_,_,.lst h r=>.lst (f2 _ _ h) (Reps.map f1 f2 r)
theorem Reps.map (f1:∀ a xs,SqT K H a xs->SqT K H' a xs) (f2:∀ a xs,SqL K H a xs->SqL K H' a xs):∀ {v:List V} {d:List PyData},Reps K H v d->Reps K H' v d
 |_,_,.nil=>.nil
 |_,_,.cons h r=>.cons (Rep.map f1 f2 h) (Reps.map f1 f2 r)
end
theorem Rep.same {v:V} {d:PyData} (h:Rep K H v d) (e:Same H H'):Rep K H' v d:=h.map (fun _ _ z=>e.tup z) (fun _ _ z=>e.seq z)
theorem But.seq {p a:Addr} {xs:List V} {kvs:List (Key×V)} (e:But p H H') (hp:H p=some (.dK kvs)) (h:SqL K H a xs):SqL K H' a xs:=by
 rcases h with (h|⟨o,h⟩)|h
 ·exact .inl (.inl (e _ _ h (ne_of h hp (by intro z;cases z))))
 ·exact .inl (.inr ⟨o,e _ _ h (ne_of h hp (by intro z;cases z))⟩)
 ·exact .inr h
theorem Reps.get':∀ {xs:List V} {ds:List PyData} {i:Nat} {x:V},Reps K H xs ds->xs[i]?=some x->∃ d,ds[i]?=some d/\Rep K H x d
 |_,_,_,_,.nil,e=>by simp at e
 |_,_,0,_,.cons r _,e=>by simp at e;subst e;exact ⟨_,rfl,r⟩
 | _,_,i+1,d,.cons _ t,e=>by
   obtain ⟨u,h1,h2⟩:=Reps.get' (i:=i) (x:=d) t (by simpa using e)
   exact ⟨u,by simpa using h1,h2⟩
end
section
variable {X:Cx} {pins:List (Addr×Obj)} {σ:St} {H:Hp} {s:Shared}
end
mutual
def pdEq:PyData->PyData->Bool
 |.none,.none=>true
 |.bool a,.bool b=>a == b
 |.bool a,.int b=>(if a then 1 else 0) == b
 |.int a,.bool b=>a == (if b then 1 else 0)
 |.int a,.int b=>a == b
 |.str a,.str b=>a == b
 |.tuple a,.tuple b=>pdEqs a b
 |.list a,.list b=>pdEqs a b
 |_,_=>false
def pdEqs:List PyData->List PyData->Bool
 |[],[]=>true
 |a::r,b::t=>pdEq a b && pdEqs r t
 |_,_=>false
end
theorem pdEqs_iff:∀ (ds es:List PyData),pdEqs ds es=((List.range (min ds.length es.length)).all (fun j=>pdEq (ds.getD j .none) (es.getD j .none)) && ds.length == es.length)
 |[],[]=>by simp [pdEqs]
 |[],_::_=>by simp [pdEqs]
 |_::_,[]=>by simp [pdEqs]
 | a::r,b::t=>by
   rw [pdEqs,pdEqs_iff r t,List.length_cons,List.length_cons,Nat.succ_min_succ,List.range_succ_eq_map,List.all_cons,List.all_map]
   simp only [List.getD_cons_zero,Bool.and_assoc]
   congr 1
   have e:(r.length+1 == t.length+1)=(r.length == t.length):=by
    rw [Bool.eq_iff_iff];simp
   rw [e]
   congr 1
mutual
def pdDep:PyData->Nat
 |.tuple xs=>pdDeps xs+1
 |.list xs=>pdDeps xs+1
 |_=>0
def pdDeps:List PyData->Nat
 |[]=>0
 |d::r=>max (pdDep d) (pdDeps r)
end
section
variable {X:Cx} {pins:List (Addr×Obj)} {σ:St} {H:Hp} {s:Shared}
mutual
theorem Rep.fn (I:Inv X pins σ H s):∀ {v:V} {d e:PyData} {u:Value},Rep X.K H v d->Rep X.K H v e->RelV v u->d=e/\pdEq d d=true
 |_,_,_,_,.non,.non,_=>⟨rfl,rfl⟩
 |_,_,_,_,.bl b,.bl _,_=>⟨rfl,by simp [pdEq]⟩
 |_,_,_,_,.int i,.int _,_=>⟨rfl,by simp [pdEq]⟩
 |_,_,_,_,.str x,.str _,_=>⟨rfl,by simp [pdEq]⟩
 | _,_,_,_,.tup h1 r1,.tup h2 r2,r=>by
   have e:=I.tuple_inj h1 h2
   subst e
   obtain ⟨its,rv,_,_⟩:=I.tuple h1
   obtain ⟨e,q⟩:=Reps.fn I r1 r2 rv
   exact ⟨by rw [e],q⟩
 | _,_,_,_,.lst h1 r1,.lst h2 r2,r=>by
   have e:=I.list_inj h1 h2
   subst e
   obtain ⟨its,rv,_,_⟩:=I.list h1
   obtain ⟨e,q⟩:=Reps.fn I r1 r2 rv
   exact ⟨by rw [e],q⟩
 | _,_,_,_,.tup h1 _,.lst h2 _,r=>by
   obtain ⟨_,_,⟨o,e1,c1,_⟩,_⟩:=I.tuple h1
   obtain ⟨_,_,⟨o',n,e2,c2,_⟩,_⟩:=I.list h2
   rw [e1] at e2;cases e2
   rw [c1] at c2;injection c2 with z;exact absurd z (by decide)
 | _,_,_,_,.lst h2 _,.tup h1 _,r=>by
   obtain ⟨_,_,⟨o,e1,c1,_⟩,_⟩:=I.tuple h1
   obtain ⟨_,_,⟨o',n,e2,c2,_⟩,_⟩:=I.list h2
   rw [e1] at e2;cases e2
   rw [c1] at c2;injection c2 with z;exact absurd z (by decide)
theorem Reps.fn (I:Inv X pins σ H s):∀ {v:List V} {d e:List PyData} {u:List Value},Reps X.K H v d->Reps X.K H v e->Vals v u->d=e/\pdEqs d d=true
 |_,_,_,_,.nil,.nil,_=>⟨rfl,rfl⟩
 | _,_,_,_,.cons a b,.cons c d,.cons r rs=>by
   obtain ⟨e1,q1⟩:=Rep.fn I a c r
   obtain ⟨e2,q2⟩:=Reps.fn I b d rs
   exact ⟨by rw [e1,e2],by simp [pdEqs,q1,q2]⟩
end
theorem allEq {vs ws:List V} {ds es:List PyData} {us xs:List Value} {A:Around} (rs1:Reps X.K H vs ds) (rs2:Reps X.K H ws es) (rv1:Vals vs us) (rv2:Vals ws xs) :
 ((List.range (min us.toArray.size xs.toArray.size)).all (fun j=>pdEq (ds.getD j .none) (es.getD j .none)) && us.toArray.size == xs.toArray.size)=pdEqs ds es:=by
 rw [pdEqs_iff,List.size_toArray,List.size_toArray,← rv1.length,← rv2.length,rs1.length,rs2.length]
theorem rcT {l b:Addr} {vs ws:List V} {ds es:List PyData} {us xs:List Value} {A:Around} (rs1:Reps X.K H vs ds) (rs2:Reps X.K H ws es) (rv1:Vals vs us) (rv2:Vals ws xs) (p1:IsTup s.heap l us.toArray) (p2:IsTup s.heap b xs.toArray) (hu:A.units<cLine)
 (he:∀ j (h1:j<us.length) (h2:j<xs.length),EqAt A.in1 s us[j] xs[j] (pdEq (ds.getD j .none) (es.getD j .none))):RcAt A s (.ref l) (.ref b) (pdEq (.tuple ds) (.tuple es)):=by
 show RcAt A s (.ref l) (.ref b) (pdEqs ds es)
 rw [← allEq (A:=A) rs1 rs2 rv1 rv2]
 exact RcAt.tuples (show s.heap.IsTuple l us.toArray from p1) (show s.heap.IsTuple b xs.toArray from p2) hu fun j h1 h2=>by simpa using he j (by simpa using h1) (by simpa using h2)
theorem rcL {l b:Addr} {vs ws:List V} {ds es:List PyData} {us xs:List Value} {A:Around} (rs1:Reps X.K H vs ds) (rs2:Reps X.K H ws es) (rv1:Vals vs us) (rv2:Vals ws xs) (p1:s.heap.IsList l us.toArray) (p2:s.heap.IsList b xs.toArray) (hu:A.units<cLine)
 (he:∀ j (h1:j<us.length) (h2:j<xs.length),EqAt A.in1 s us[j] xs[j] (pdEq (ds.getD j .none) (es.getD j .none))):RcAt A s (.ref l) (.ref b) (pdEq (.list ds) (.list es)):=by
 show RcAt A s (.ref l) (.ref b) (pdEqs ds es)
 have q:=allEq (A:=A) rs1 rs2 rv1 rv2
 by_cases hz:us.toArray.size=xs.toArray.size
 ·rw [← q,hz,Nat.min_self,beq_self_eq_true,Bool.and_true,← hz]
  exact RcAt.lists p1 p2 hz hu fun j h1 h2=>by simpa using he j (by simpa using h1) (by simpa using h2)
 ·have e:pdEqs ds es=false:=by
   rw [← q]
   have:(us.toArray.size == xs.toArray.size)=false:=by simpa using hz
   rw [this,Bool.and_false]
  rw [e]
  exact RcAt.lists_lengths p1 p2 (by simpa using hz) hu
theorem eqT (I:Inv X pins σ H s) {l b:Addr} {vs ws:List V} {ds es:List PyData} {us xs:List Value} {A:Around} (h1:SqT X.K H l vs) (h2:SqT X.K H b ws) (rs1:Reps X.K H vs ds) (rs2:Reps X.K H ws es) (rv1:Vals vs us) (rv2:Vals ws xs) (p1:IsTup s.heap l us.toArray) (p2:IsTup s.heap b xs.toArray) (hu:A.units<cLine)
 (he:∀ j (h1:j<us.length) (h2:j<xs.length),EqAt A.in1 s us[j] xs[j] (pdEq (ds.getD j .none) (es.getD j .none))):EqAt A s (.ref l) (.ref b) (pdEq (.tuple ds) (.tuple es)):=by
 by_cases hlb:l=b
 ·subst hlb
  obtain ⟨e,q⟩:=Rep.fn I (.tup h1 rs1) (.tup h2 rs2) (u:=.ref l) rfl
  rw [← e,q]
  exact EqAt.same _
 ·exact EqAt.of_refs hlb (rcT rs1 rs2 rv1 rv2 p1 p2 hu he)
theorem eqL (I:Inv X pins σ H s) {l b:Addr} {vs ws:List V} {ds es:List PyData} {us xs:List Value} {A:Around} (h1:SqL X.K H l vs) (h2:SqL X.K H b ws) (rs1:Reps X.K H vs ds) (rs2:Reps X.K H ws es) (rv1:Vals vs us) (rv2:Vals ws xs) (p1:s.heap.IsList l us.toArray) (p2:s.heap.IsList b xs.toArray) (hu:A.units<cLine)
 (he:∀ j (h1:j<us.length) (h2:j<xs.length),EqAt A.in1 s us[j] xs[j] (pdEq (ds.getD j .none) (es.getD j .none))):EqAt A s (.ref l) (.ref b) (pdEq (.list ds) (.list es)):=by
 by_cases hlb:l=b
 ·subst hlb
  obtain ⟨e,q⟩:=Rep.fn I (.lst h1 rs1) (.lst h2 rs2) (u:=.ref l) rfl
  rw [← e,q]
  exact EqAt.same _
 ·exact EqAt.of_refs hlb (rcL rs1 rs2 rv1 rv2 p1 p2 hu he)
theorem hu00 {A:Around} {n:Nat} (h:A.units+n<cLine):A.units<cLine:=by omega
theorem hu0 {A:Around} {n:Nat} (h:A.units+(n+1)<cLine):A.units<cLine:=by omega
theorem hu1 {A:Around} {n:Nat} (h:A.units+(n+1)<cLine):A.in1.units+n<cLine:=by show A.units+1+n<cLine;omega
mutual
theorem eq_at (I:Inv X pins σ H s):∀ {v w:V} {d e:PyData} {u x:Value} {A:Around},Rep X.K H v d->Rep X.K H w e->RelV v u->RelV w x->A.units+pdDep d<cLine->EqAt A s u x (pdEq d e)
 | _,_,_,_,u,x,A,.non,.non,r1,r2,hu=>by
   cases (show u=Value.none from r1)
   cases (show x=Value.none from r2)
   exact EqAt.same _
 | _,_,_,_,u,x,A,.non,.bl b2,r1,r2,hu=>by
   cases (show u=Value.none from r1)
   cases (show x=Value.bool b2 from r2)
   exact EqAt.none_bool b2
 | _,_,_,_,u,x,A,.non,.int i2,r1,r2,hu=>by
   cases (show u=Value.none from r1)
   obtain ⟨t2,e2⟩:=(show ∃ t,x=Value.int i2 t from r2);subst e2
   exact EqAt.none_int i2 t2
 | _,_,_,_,u,x,A,.non,.str y2,r1,r2,hu=>by
   cases (show u=Value.none from r1)
   obtain ⟨t2,e2⟩:=(show ∃ t,x=Value.str y2 t from r2);subst e2
   exact EqAt.none_str y2 t2
 | _,_,_,_,u,x,A,.non,.lst h2 rs2,r1,r2,hu=>by
   cases (show u=Value.none from r1)
   cases (show x=Value.ref _ from r2);obtain ⟨its2,rv2,p2,_⟩:=I.list h2
   exact EqAt.none_list p2.isList (hu00 hu)
 | _,_,_,_,u,x,A,.non,.tup h2 rs2,r1,r2,hu=>by
   cases (show u=Value.none from r1)
   cases (show x=Value.ref _ from r2);obtain ⟨its2,rv2,p2,_⟩:=I.tuple h2
   exact EqAt.none_tuple p2 (hu00 hu)
 | _,_,_,_,u,x,A,.bl b1,.non,r1,r2,hu=>by
   cases (show u=Value.bool b1 from r1)
   cases (show x=Value.none from r2)
   exact EqAt.bool_none b1
 | _,_,_,_,u,x,A,.bl b1,.bl b2,r1,r2,hu=>by
   cases (show u=Value.bool b1 from r1)
   cases (show x=Value.bool b2 from r2)
   exact EqAt.bool_bool b1 b2
 | _,_,_,_,u,x,A,.bl b1,.int i2,r1,r2,hu=>by
   cases (show u=Value.bool b1 from r1)
   obtain ⟨t2,e2⟩:=(show ∃ t,x=Value.int i2 t from r2);subst e2
   exact EqAt.bool_int b1 i2 t2
 | _,_,_,_,u,x,A,.bl b1,.str y2,r1,r2,hu=>by
   cases (show u=Value.bool b1 from r1)
   obtain ⟨t2,e2⟩:=(show ∃ t,x=Value.str y2 t from r2);subst e2
   exact EqAt.bool_str b1 y2 t2
 | _,_,_,_,u,x,A,.bl b1,.lst h2 rs2,r1,r2,hu=>by
   cases (show u=Value.bool b1 from r1)
   cases (show x=Value.ref _ from r2);obtain ⟨its2,rv2,p2,_⟩:=I.list h2
   exact EqAt.bool_list b1 p2.isList (hu00 hu)
 | _,_,_,_,u,x,A,.bl b1,.tup h2 rs2,r1,r2,hu=>by
   cases (show u=Value.bool b1 from r1)
   cases (show x=Value.ref _ from r2);obtain ⟨its2,rv2,p2,_⟩:=I.tuple h2
   exact EqAt.bool_tuple b1 p2 (hu00 hu)
 | _,_,_,_,u,x,A,.int i1,.non,r1,r2,hu=>by
   obtain ⟨t1,e1⟩:=(show ∃ t,u=Value.int i1 t from r1);subst e1
   cases (show x=Value.none from r2)
   exact EqAt.int_none i1 t1
 | _,_,_,_,u,x,A,.int i1,.bl b2,r1,r2,hu=>by
   obtain ⟨t1,e1⟩:=(show ∃ t,u=Value.int i1 t from r1);subst e1
   cases (show x=Value.bool b2 from r2)
   exact EqAt.int_bool i1 t1 b2
 | _,_,_,_,u,x,A,.int i1,.int i2,r1,r2,hu=>by
   obtain ⟨t1,e1⟩:=(show ∃ t,u=Value.int i1 t from r1);subst e1
   obtain ⟨t2,e2⟩:=(show ∃ t,x=Value.int i2 t from r2);subst e2
   exact EqAt.int_int i1 t1 i2 t2
 | _,_,_,_,u,x,A,.int i1,.str y2,r1,r2,hu=>by
   obtain ⟨t1,e1⟩:=(show ∃ t,u=Value.int i1 t from r1);subst e1
   obtain ⟨t2,e2⟩:=(show ∃ t,x=Value.str y2 t from r2);subst e2
   exact EqAt.int_str i1 t1 y2 t2
 | _,_,_,_,u,x,A,.int i1,.lst h2 rs2,r1,r2,hu=>by
   obtain ⟨t1,e1⟩:=(show ∃ t,u=Value.int i1 t from r1);subst e1
   cases (show x=Value.ref _ from r2);obtain ⟨its2,rv2,p2,_⟩:=I.list h2
   exact EqAt.int_list i1 t1 p2.isList (hu00 hu)
 | _,_,_,_,u,x,A,.int i1,.tup h2 rs2,r1,r2,hu=>by
   obtain ⟨t1,e1⟩:=(show ∃ t,u=Value.int i1 t from r1);subst e1
   cases (show x=Value.ref _ from r2);obtain ⟨its2,rv2,p2,_⟩:=I.tuple h2
   exact EqAt.int_tuple i1 t1 p2 (hu00 hu)
 | _,_,_,_,u,x,A,.str y1,.non,r1,r2,hu=>by
   obtain ⟨t1,e1⟩:=(show ∃ t,u=Value.str y1 t from r1);subst e1
   cases (show x=Value.none from r2)
   exact EqAt.str_none y1 t1
 | _,_,_,_,u,x,A,.str y1,.bl b2,r1,r2,hu=>by
   obtain ⟨t1,e1⟩:=(show ∃ t,u=Value.str y1 t from r1);subst e1
   cases (show x=Value.bool b2 from r2)
   exact EqAt.str_bool y1 t1 b2
 | _,_,_,_,u,x,A,.str y1,.int i2,r1,r2,hu=>by
   obtain ⟨t1,e1⟩:=(show ∃ t,u=Value.str y1 t from r1);subst e1
   obtain ⟨t2,e2⟩:=(show ∃ t,x=Value.int i2 t from r2);subst e2
   exact EqAt.str_int y1 t1 i2 t2
 | _,_,_,_,u,x,A,.str y1,.str y2,r1,r2,hu=>by
   obtain ⟨t1,e1⟩:=(show ∃ t,u=Value.str y1 t from r1);subst e1
   obtain ⟨t2,e2⟩:=(show ∃ t,x=Value.str y2 t from r2);subst e2
   exact EqAt.str_str y1 t1 y2 t2
 | _,_,_,_,u,x,A,.str y1,.lst h2 rs2,r1,r2,hu=>by
   obtain ⟨t1,e1⟩:=(show ∃ t,u=Value.str y1 t from r1);subst e1
   cases (show x=Value.ref _ from r2);obtain ⟨its2,rv2,p2,_⟩:=I.list h2
   exact EqAt.str_list y1 t1 p2.isList (hu00 hu)
 | _,_,_,_,u,x,A,.str y1,.tup h2 rs2,r1,r2,hu=>by
   obtain ⟨t1,e1⟩:=(show ∃ t,u=Value.str y1 t from r1);subst e1
   cases (show x=Value.ref _ from r2);obtain ⟨its2,rv2,p2,_⟩:=I.tuple h2
   exact EqAt.str_tuple y1 t1 p2 (hu00 hu)
 | _,_,_,_,u,x,A,.lst h1 rs1,.non,r1,r2,hu=>by
   cases (show u=Value.ref _ from r1);obtain ⟨its1,rv1,p1,_⟩:=I.list h1
   cases (show x=Value.none from r2)
   exact EqAt.list_none p1.isList (hu00 hu)
 | _,_,_,_,u,x,A,.lst h1 rs1,.bl b2,r1,r2,hu=>by
   cases (show u=Value.ref _ from r1);obtain ⟨its1,rv1,p1,_⟩:=I.list h1
   cases (show x=Value.bool b2 from r2)
   exact EqAt.list_bool b2 p1.isList (hu00 hu)
 | _,_,_,_,u,x,A,.lst h1 rs1,.int i2,r1,r2,hu=>by
   cases (show u=Value.ref _ from r1);obtain ⟨its1,rv1,p1,_⟩:=I.list h1
   obtain ⟨t2,e2⟩:=(show ∃ t,x=Value.int i2 t from r2);subst e2
   exact EqAt.list_int i2 t2 p1.isList (hu00 hu)
 | _,_,_,_,u,x,A,.lst h1 rs1,.str y2,r1,r2,hu=>by
   cases (show u=Value.ref _ from r1);obtain ⟨its1,rv1,p1,_⟩:=I.list h1
   obtain ⟨t2,e2⟩:=(show ∃ t,x=Value.str y2 t from r2);subst e2
   exact EqAt.list_str y2 t2 p1.isList (hu00 hu)
 | _,_,_,_,u,x,A,.lst h1 rs1,.lst h2 rs2,r1,r2,hu=>by
   cases (show u=Value.ref _ from r1);obtain ⟨its1,rv1,p1,_⟩:=I.list h1
   cases (show x=Value.ref _ from r2);obtain ⟨its2,rv2,p2,_⟩:=I.list h2
   exact eqL I h1 h2 rs1 rs2 rv1 rv2 p1.isList p2.isList (hu0 hu) (eqs_at I rs1 rs2 rv1 rv2 (hu1 hu))
 | _,_,_,_,u,x,A,.lst h1 rs1,.tup h2 rs2,r1,r2,hu=>by
   cases (show u=Value.ref _ from r1);obtain ⟨its1,rv1,p1,_⟩:=I.list h1
   cases (show x=Value.ref _ from r2);obtain ⟨its2,rv2,p2,_⟩:=I.tuple h2
   exact EqAt.list_tuple p1.isList p2 (hu00 hu)
 | _,_,_,_,u,x,A,.tup h1 rs1,.non,r1,r2,hu=>by
   cases (show u=Value.ref _ from r1);obtain ⟨its1,rv1,p1,_⟩:=I.tuple h1
   cases (show x=Value.none from r2)
   exact EqAt.tuple_none p1 (hu00 hu)
 | _,_,_,_,u,x,A,.tup h1 rs1,.bl b2,r1,r2,hu=>by
   cases (show u=Value.ref _ from r1);obtain ⟨its1,rv1,p1,_⟩:=I.tuple h1
   cases (show x=Value.bool b2 from r2)
   exact EqAt.tuple_bool b2 p1 (hu00 hu)
 | _,_,_,_,u,x,A,.tup h1 rs1,.int i2,r1,r2,hu=>by
   cases (show u=Value.ref _ from r1);obtain ⟨its1,rv1,p1,_⟩:=I.tuple h1
   obtain ⟨t2,e2⟩:=(show ∃ t,x=Value.int i2 t from r2);subst e2
   exact EqAt.tuple_int i2 t2 p1 (hu00 hu)
 | _,_,_,_,u,x,A,.tup h1 rs1,.str y2,r1,r2,hu=>by
   cases (show u=Value.ref _ from r1);obtain ⟨its1,rv1,p1,_⟩:=I.tuple h1
   obtain ⟨t2,e2⟩:=(show ∃ t,x=Value.str y2 t from r2);subst e2
   exact EqAt.tuple_str y2 t2 p1 (hu00 hu)
 | _,_,_,_,u,x,A,.tup h1 rs1,.lst h2 rs2,r1,r2,hu=>by
   cases (show u=Value.ref _ from r1);obtain ⟨its1,rv1,p1,_⟩:=I.tuple h1
   cases (show x=Value.ref _ from r2);obtain ⟨its2,rv2,p2,_⟩:=I.list h2
   exact EqAt.tuple_list p1 p2.isList (hu00 hu)
 | _,_,_,_,u,x,A,.tup h1 rs1,.tup h2 rs2,r1,r2,hu=>by
   cases (show u=Value.ref _ from r1);obtain ⟨its1,rv1,p1,_⟩:=I.tuple h1
   cases (show x=Value.ref _ from r2);obtain ⟨its2,rv2,p2,_⟩:=I.tuple h2
   exact eqT I h1 h2 rs1 rs2 rv1 rv2 p1 p2 (hu0 hu) (eqs_at I rs1 rs2 rv1 rv2 (hu1 hu))
theorem eqs_at (I:Inv X pins σ H s):∀ {vs ws:List V} {ds es:List PyData} {us xs:List Value} {A:Around},Reps X.K H vs ds->Reps X.K H ws es->Vals vs us->Vals ws xs->A.units+pdDeps ds<cLine->
 ∀ j (h1:j<us.length) (h2:j<xs.length),EqAt A s us[j] xs[j] (pdEq (ds.getD j .none) (es.getD j .none))
 |_,_,_,_,_,_,_,.nil,_,.nil,_,_,j,h1,_=>absurd h1 (Nat.not_lt_zero _)
 |_,_,_,_,_,_,_,.cons _ _,.nil,.cons _ _,.nil,_,j,_,h2=>absurd h2 (Nat.not_lt_zero _)
 |_,_,_,_,_,_,_,.cons a b,.cons c d,.cons r rs,.cons t ts,hu,0,_,_=>eq_at I a c r t (by simp only [pdDeps] at hu;simp only [List.getD_cons_zero];omega)
 |_,_,_,_,_,_,_,.cons a b,.cons c d,.cons r rs,.cons t ts,hu,j+1,h1,h2=>eqs_at I b d rs ts (by simp only [pdDeps] at hu;omega) j (by simpa using h1) (by simpa using h2)
end
end
section
variable {X:Cx}
theorem pdDep_le {e:PyData}:∀ {es:List PyData},e∈es->pdDep e≤pdDeps es
 |_::_,.head _=>by simp only [pdDeps];omega
 |_::r,.tail _ h=>by have:=pdDep_le h;simp only [pdDeps];omega
def tyD:PyData->String
 |.none=>"NoneType"
 |.bool _=>"bool"
 |.int _=>"int"
 |.str _=>"str"
 |.list _=>"list"
 |.tuple _=>"tuple"
 |.dict _=>"dict"
theorem isD {pins:List (Addr×Obj)} {σ:St} {H:Hp} {s:Shared} {A:Around} {E:Value->Shared->Prop} {Q:Value->Shared->Prop} {v:V} {d:PyData} {u c:Value} {b:Bool} (I:Inv X pins σ H s) (r:Rep X.K H v d) (rv:RelV v u)
 (e:PySem.W.kitOne X.K (.type (tyD d)) c=some b) (h:∀ tk,Q (.bool b) { s with toks:=tk }):wpAny (model X.prog X.w) A (call (.builtin "isinstance") [u,c]) Q E s:=by
 cases r with
 |non=>cases (show u=Value.none from rv);exact PySem.W.kia_one PySem.W.kitx_none I.kIn True.intro e (fun z=>nomatch z) h
 |bl y=>cases (show u=Value.bool y from rv);exact PySem.W.kia_one PySem.W.kitx_bool I.kIn True.intro e (fun z=>nomatch z) h
 |int i=>obtain ⟨t,q⟩:=(show ∃ t,u=Value.int i t from rv);cases q;exact PySem.W.kia_one PySem.W.kitx_int I.kIn True.intro e (fun z=>nomatch z) h
 |str y=>obtain ⟨t,q⟩:=(show ∃ t,u=Value.str y t from rv);cases q;exact PySem.W.kia_one PySem.W.kitx_str I.kIn True.intro e (fun z=>nomatch z) h
 | tup g _=>
   cases (show u=Value.ref _ from rv)
   obtain ⟨_,_,⟨o,h1,h2,_⟩,_⟩:=I.tuple g
   exact PySem.W.kia_one PySem.W.kitx_tuple I.kIn ⟨o,h1,h2⟩ e (fun z=>nomatch z) h
 | lst g _=>
   cases (show u=Value.ref _ from rv)
   obtain ⟨_,_,⟨o,n,h1,h2,_⟩,_⟩:=I.list g
   exact PySem.W.kia_one PySem.W.kitx_list I.kIn ⟨o,h1,h2⟩ e (fun z=>nomatch z) h
theorem isD2 {pins:List (Addr×Obj)} {σ:St} {H:Hp} {s:Shared} {A:Around} {E:Value->Shared->Prop} {Q:Value->Shared->Prop} {v:V} {d:PyData} {u:Value} {tp:Addr} {dd:Option Addr} {its:List Value} {n:Nat} {sl:Array (Option Value)} {b:Bool} (I:Inv X pins σ H s) (r:Rep X.K H v d) (rv:RelV v u)
 (htp:s.heap.get? tp=some ⟨.type "tuple",dd,.seq its.toArray n,sl⟩) (e:PySem.W.kitAny X.K (.type (tyD d)) its=some b) (h:∀ tk,Q (.bool b) { s with toks:=tk }):wpAny (model X.prog X.w) A (call (.builtin "isinstance") [u,.ref tp]) Q E s:=by
 cases r with
 |non=>cases (show u=Value.none from rv);exact PySem.W.kia_tup PySem.W.kitx_none I.kIn True.intro htp e (fun z=>nomatch z) h
 |bl y=>cases (show u=Value.bool y from rv);exact PySem.W.kia_tup PySem.W.kitx_bool I.kIn True.intro htp e (fun z=>nomatch z) h
 |int i=>obtain ⟨t,q⟩:=(show ∃ t,u=Value.int i t from rv);cases q;exact PySem.W.kia_tup PySem.W.kitx_int I.kIn True.intro htp e (fun z=>nomatch z) h
 |str y=>obtain ⟨t,q⟩:=(show ∃ t,u=Value.str y t from rv);cases q;exact PySem.W.kia_tup PySem.W.kitx_str I.kIn True.intro htp e (fun z=>nomatch z) h
 | tup g _=>
   cases (show u=Value.ref _ from rv)
   obtain ⟨_,_,⟨o,h1,h2,_⟩,_⟩:=I.tuple g
   exact PySem.W.kia_tup PySem.W.kitx_tuple I.kIn ⟨o,h1,h2⟩ htp e (fun z=>nomatch z) h
 | lst g _=>
   cases (show u=Value.ref _ from rv)
   obtain ⟨_,_,⟨o,n,h1,h2,_⟩,_⟩:=I.list g
   exact PySem.W.kia_tup PySem.W.kitx_list I.kIn ⟨o,h1,h2⟩ htp e (fun z=>nomatch z) h
def rIsT (K:PySem.W.Frag):List V->Hp->VK->Prop:=fun xs H Q=>∃ x n d b,xs=[x,.ty n]/\Rep K H x d/\PySem.W.kitOne K (.type (tyD d)) (.type n)=some b/\Q (.bl b) H
theorem call_isT:CallR X (.builtin "isinstance") (rIsT X.K):=by
 intro pins s σ H xs us Q I r h
 obtain ⟨x,n,d,b,rfl,hr,e,q⟩:=h
 cases r with
 | cons r1 r=>
   cases r with
   | cons r2 r=>
     cases r
     cases (show _=Value.type n from r2)
     exact isD I hr r1 e fun tk=>⟨.bl b,H,I.tok tk,rfl,q⟩
def rIsT2 (K:PySem.W.Frag):List V->Hp->VK->Prop:=fun xs H Q=>∃ x a n m d b,xs=[x,.ref a]/\H a=some (.tup [.ty n,.ty m])/\Rep K H x d/\PySem.W.kitAny K (.type (tyD d)) [.type n,.type m]=some b/\Q (.bl b) H
theorem call_isT2:CallR X (.builtin "isinstance") (rIsT2 X.K):=by
 intro pins s σ H xs us Q I r h
 obtain ⟨x,a,n,m,d,b,rfl,ha,hr,e,q⟩:=h
 cases r with
 | cons r1 r=>
   cases r with
   | cons r2 r=>
     cases r
     cases (show _=Value.ref a from r2)
     obtain ⟨z,its,rv,o,h1,h2,k,h3⟩:=(show ObjOk X.prog X.w H s.heap a (.tup [.ty n,.ty m]) from I.hok a _ ha)
     obtain ⟨cls,dd,data,sl⟩:=o
     simp only at h2 h3
     subst h2 h3
     cases rv with
     | cons g1 rv=>
       cases rv with
       | cons g2 rv=>
         cases rv
         cases (show _=Value.type n from g1)
         cases (show _=Value.type m from g2)
         exact isD2 I hr r1 h1 e fun tk=>⟨.bl b,H,I.tok tk,rfl,q⟩
theorem bools_of {xs:List V} {us:List Value}:∀ {bs:List Bool},xs=bs.map V.bl->Vals xs us->us=bs.map Value.bool:=by
 intro bs e r
 induction bs generalizing xs us with
 |nil=>subst e;cases r;rfl
 | cons b t ih=>
   subst e
   cases r with
   |cons r1 r=>rw [List.map_cons,ih rfl r,(show _=Value.bool b from r1)]
theorem range_all (bs:List Bool):(List.range bs.length).all (fun i=>bs.getD i false)=bs.all id:=by
 induction bs with
 |nil=>rfl
 |cons b t ih=>rw [List.length_cons,List.range_succ_eq_map,List.all_cons,List.all_map,List.all_cons,← ih];rfl
theorem truth_bools {P:Program} {w:World} {A:Around} {bs:List Bool}:TruthOf P w A (fun i v=>((bs.map Value.bool).toArray)[i]?=some v) fun i=>bs.getD i false:=fun i v s Q E hP hQ=>by
 dsimp only at hP hQ
 rw [List.getElem?_toArray,List.getElem?_map] at hP
 cases e:bs[i]? with
 |none=>rw [e] at hP;cases hP
 | some b=>
   rw [e] at hP
   cases hP
   rw [List.getD_eq_getElem?_getD,e] at hQ
   exact wpAny_pure hQ
def rAllB (K:PySem.W.Frag) (f:List Bool->Bool):List V->Hp->VK->Prop:=fun xs H Q=>∃ a bs,xs=[.ref a]/\SqL K H a (bs.map V.bl)/\Q (.bl (f bs)) H
theorem call_allB (hh:X.calm=true):CallR X (.builtin "all") (rAllB X.K fun bs=>bs.all id):=by
 intro pins s σ H xs us Q I r h
 obtain ⟨a,bs,rfl,hq,q⟩:=h
 cases r with
 | cons r1 r=>
   cases r
   cases (show _=Value.ref a from r1)
   obtain ⟨its,rv,p,hz⟩:=I.list hq
   have e:=bools_of rfl rv
   subst e
   refine PySem.call_all_walk (wpAny_pyIter_list p.isList ?_)
   have hne:a≠s.heap.objs.size:=(by obtain ⟨o,ho,_⟩:=p.isList;exact Nat.ne_of_lt (Heap.lt_size ho))
   refine ⟨s.heap.objs.size,_,_,_,_,_,_,rfl,Walks.list (A:=X.A.in1) (I.ok.hd hh) s.heap.objs.size a hne (bs.map Value.bool).toArray,⟨⟨_,Heap.get?_push_size _ rfl,rfl,rfl⟩,?_⟩,truth_bools,fun h' tk hk=>?_⟩
   ·obtain ⟨o,ho,hc,n,hd⟩:=p.isList
    exact ⟨o,Heap.get?_push_of_some _ ho,hc,n,hd⟩
   ·rw [List.size_toArray,List.length_map,range_all]
    exact ⟨.bl _,H,I.kept fun b o e=>hk b o (by simp;exact Nat.ne_of_lt (Heap.lt_size e)) (Heap.get?_push_of_some _ e),rfl,q⟩
end
structure CompS (osc:Scope) (N:List Str) (scope:Scope) (own:List Str) (js:List Nat) (N':List Str):Prop where
 kind:scope.kind=.function
 nocell:∀ y∈scope.names,y.2≠.cell
 names:∀ y∈scope.names,y.2=.local->scope.names.lookup y.1=some .local
 free:∀ y∈scope.names,y.2=.free->osc.names.lookup y.1=some .cell∨osc.names.lookup y.1=some .free
 nm:N'=own++js.map fun j=>N.getD j Str.empty
 fr:∀ j∈js,j<N.length/\(N.getD j Str.empty,NameKind.free)∈scope.names/\∀ y∈scope.names,y.1=N.getD j Str.empty->y.2=.free
theorem CompScope.of {X:Cx} {osc scope:Scope} {N own N':List Str} {js:List Nat} (h1:X.env.scope=osc) (h2:X.N=N) (h:CompS osc N scope own js N'):CompScope X scope own js N':=by
 subst h1 h2
 exact ⟨h.kind,h.nocell,h.names,h.free,h.nm,fun j hj=>⟨(h.fr j hj).1,(h.fr j hj).2.1,fun k hk=>(h.fr j hj).2.2 _ hk rfl⟩⟩
mutual
def pdMax:PyData->Nat
 |.tuple xs=>max xs.length (pdMaxs xs)
 |.list xs=>max xs.length (pdMaxs xs)
 |_=>0
def pdMaxs:List PyData->Nat
 |[]=>0
 |d::r=>max (pdMax d) (pdMaxs r)
end
theorem pdMax_le {e:PyData}:∀ {es:List PyData},e∈es->pdMax e≤pdMaxs es
 |_::_,.head _=>by simp only [pdMaxs];omega
 |_::r,.tail _ h=>by have:=pdMax_le h;simp only [pdMaxs];omega
theorem pe_ty {X:Cx} {x:Str} {n:String} {pos:Pos} (hg:Gl X x) (hm:X.mg x=none) (hv:bootBuiltins x=some (.type n)) (hn:x ≠ "__name__":=by decide) (hd:(x == ("__debug__" : Str))=false:=by decide):PE X (.Name x pos) (tC (.ty n)):=pe_bltn (v:=.ty n) hg hm hv rfl hn hd
theorem ifT {c:Bool} {A B:Prop} (h:c=true) (q:A):if c=true then A else B:=by rw [if_pos h];exact q
theorem ifF {c:Bool} {A B:Prop} (h:c=false) (q:B):if c=true then A else B:=by rw [if_neg (by rw [h];exact Bool.false_ne_true)];exact q
section
variable {X:Cx} {a b c d:Expr} {ta tb tc td:TE} {pos:Pos}
end
section
variable {X:Cx} {es:List Expr} {t:TF} {e:Expr} {te:TE} {pos:Pos}
end
section
variable {X:Cx} {CX:CXT} {k:Nat} {f C:Addr} {fd:FuncData} {ps:List Str} {sp:Sp} {E:XK}
end
end L2
namespace HT
open PySem PySem.Spec PyProof.Rows
section
variable {prog:Program} {w:World} {A:Around} {E:Value->Shared->Prop} {s:Shared}
end
end HT
namespace L2
open PySem PySem.Spec PyProof.Rows PySem.SeqAt
section
variable {X:Cx}
end
section
variable {X:Cx}
end
section
variable {X:Cx} {CX:CXT} {k:Nat} {f C:Addr} {fd:FuncData} {ps:List Str} {sp:Sp} {E:XK}
end
section
variable {X:Cx} {pins:List (Addr×Obj)} {σ:St} {H:Hp} {s:Shared} {h':Heap}
theorem Inv.turnLaid {a:Addr} {o:HO} {t':Nat} {fp:List Addr} (I:Inv X pins σ H s) (k:∀ b u,b∉fp->s.heap.get? b=some u->h'.get? b=some u) (ke:∀ b∈fp,∃ u,h'.get? b=some u) (hf:∀ b∈fp,FpOk X pins H b) (hp:s.heap.objs.size≤a) (new:ObjOk X.prog X.w (upd H a o) h' a o) :
 Inv X pins σ (upd H a o) { s with heap:=h',toks:=t' }:=by
 have hn:H a=none:=I.hok.fresh hp
 have off:∀ b u,H b=some u->b∉fp:=fun b u e z=>by rw [(hf b z).1] at e;cases e
 have up:∀ b u,H b=some u->(upd H a o) b=some u:=fun b u e=>by rw [upd_ne (ne_of_none e hn)];exact e
 refine I.step (g':=s.gens) (d':=s.drawn) (ch:=fp) (fun b hb=>?_) (fun b u _ _ hc e _=>k b u hc e) (fun b u _ _ hc e _=>⟨u.slots,k b u hc e⟩) (fun b u _ e n=>?_) (fun b u hc e=>⟨u,k b u hc e⟩) (fun b xs e=>up b _ e) (fun b u z e=>up b _ e) (fun b ps e=>⟨#[],by rw [up b _ e];simp⟩) (fun m hm=>?_) (fun b u e=>?_) I.bare
 ·obtain ⟨_,f1,_,f3,f4,f5⟩:=hf b hb
  exact ⟨f3,f1,f4,f5⟩
 ·rw [upd_ne (Nat.ne_of_lt (Nat.lt_of_lt_of_le (Heap.lt_size e) hp))];exact n
 ·obtain ⟨u,es,ep,ho,r⟩:=hm
  exact ⟨u,es,ep,k _ u (fun z=>(hf _ z).2.1 rfl) ho,r⟩
 ·by_cases hb:b=a
  ·subst hb;rw [upd_same] at e;cases e;exact new
  ·rw [upd_ne hb] at e
   refine (I.hok b u e).stay (fun c v hc q=>k c v ?_ q) (fun c q=>up c _ q) fun c xs q=>up c _ q
   rcases hc with rfl|z
   ·exact off _ u e
   ·exact off c _ z
theorem bt_enumerate:bootBuiltins "enumerate" = some (.type "enumerate"):=by decide +kernel
end
def ExcOk (h:Heap) (H:Hp) (g:Heap) (e:Addr) (cls:Value) (dd:Option Addr):Prop:=
 ∃ oe vs,h.get? e=some oe/\oe.cls=cls/\oe.dict=dd/\oe.data=.fields vs/\g.get? e=none/\H e=none/\
   (vs[1]?=some .none∨∃ T oT ts,vs[1]?=some (.ref T)/\T≠e/\h.get? T=some oT/\oT.data=.fields ts/\ts[3]?=some .none/\g.get? T=none/\H T=none)
section
variable {M:Model} {A:Around} {E:Value->Shared->Prop} {s:Shared}
end
section
variable {X:Cx} {pins:List (Addr×Obj)} {σ:St} {H:Hp} {s:Shared} {e:Addr} {cls:Value} {dd:Option Addr}
end
def CX1 (P:Program) (w:World):CXT:=fun outer H s E e s'=>∃ (ea:Addr) (cls:Value) (dd:Option Addr) (H':Hp),e=.ref ea/\s'.os=s.os/\AllBare s'.gens/\Un (frs outer) [] H H' s.heap s'.heap/\HOk P w H' s'.heap/\ExcOk s'.heap H' s.heap ea cls dd/\E cls dd H'
section
variable {P:Program} {w:World} {K:PySem.W.Frag} {mg:Str->Option Value} {base:Heap} {N:List Str} {qual:Str} {scope:Scope} {f:Addr} {cd:Value} {A:Around} {outer:List Env} {s:Shared} {H:Hp} {E:XK}
end
end L2
namespace L2
open PySem PySem.Spec PyProof.Rows PySem.SeqAt PySem.W
section
variable {prog:Program} {w:World} {A:Around} {C:Addr} {R:Result->Shared->Prop} {h:Heap} {g:Array GenState} {d:Drawn} {t:Nat} {os:OsState} {B newId initId:String} {bm:List Value}
end
end L2
namespace L2
open PySem PySem.Spec PyProof.Rows PySem.SeqAt PySem.W Builtin.ObjectAttr
section
variable {prog:Program} {w:World} {A:Around} {R:Result->Shared->Prop} {s:Shared} {K:Frag} {x C:Addr} {name:Str}
end
section
variable {prog:Program} {w:World} {A:Around} {E:Value->Shared->Prop} {s:Shared} {K:Frag} {x C:Addr} {name:Str} {v:Value} {tk:Tok} {Q:Fin->Shared->Prop} {vs:Array Value} {sl:Array (Option Value)}
end
section
variable {X:Cx} {pins:List (Addr×Obj)} {σ:St} {H:Hp} {s:Shared} {e C:Addr} {f:Str} {B newId:String} {A:Around} {E:Value->Shared->Prop} {y:V} {u:Value} {Q:Unit->Shared->Prop}
end
section
variable {X:Cx} {CX:CXT} {k:Nat} {f C:Addr} {fd:FuncData} {ps:List Str} {sp:Sp} {dvs:List V} {ds:List Value} {E:XK} {B newId initId:String} {bm:List Value}
end
section
variable {X:Cx} {pins:List (Addr×Obj)} {σ:St} {H:Hp} {s:Shared} {e C:Addr} {dd:Option Addr}
end
section
variable {X:Cx} {pins:List (Addr×Obj)} {σ:St} {H:Hp} {s:Shared} {e C:Addr} {f:Str} {B newId initId:String} {bm:List Value} {A:Around} {E:Value->Shared->Prop} {y:V} {u:Value} {Q:Unit->Shared->Prop}
end
section
variable {X:Cx} {CX:CXT} {k:Nat} {f C CS:Addr} {fd:FuncData} {ps:List Str} {sp:Sp} {dvs:List V} {ds:List Value} {E:XK} {m tn cn:Str} {T id:String} {p pos apos:Pos} {e:Expr} {es:List Expr} {t:TA} {r:List V->Hp->VK->Prop} {mc:Value}
end
end L2
namespace L2
open PySem PySem.Spec PyProof.Rows
section
variable {X:Cx} {pins:List (Addr×Obj)} {σ:List (Option V)} {H H':Hp} {s:Shared} {h':Heap}
theorem Inv.stepN {g':Array GenState} {t':Nat} {d':Drawn} {ch:List Addr} (I:Inv X pins σ H s)
 (hch:∀ b∈ch,X.s₀.heap.get? b=none/\b≠X.env.locals/\(∀ x c,X.env.cells.lookup x=some c->c≠b)/\∀ p∈X.pn++pins,p.1≠b)
 (keep:∀ b o,b≠X.env.locals->b∉X.fs->b∉ch->s.heap.get? b=some o->H b=none->h'.get? b=some o)
 (slot:∀ b o,b≠X.env.locals->b∈X.fs->b∉ch->s.heap.get? b=some o->H b=none->∃ sl,h'.get? b=some { o with slots:=sl }) (free:∀ b o,b∉ch->s.heap.get? b=some o->H b=none->H' b=none)
 (there:∀ b o,b∉ch->s.heap.get? b=some o->∃ o',h'.get? b=some o')
 (tups:∀ b xs,H b=some (.tup xs)->H' b=some (.tup xs)) (frzs:∀ b o u,H b=some (.frz o u)->H' b=some (.frz o u)) (tbls:∀ b ps,H b=some (.tbl ps)->∃ more,H' b=some (.tbl (ps++more)))
 (ns:∀ m,s.heap.Ns X.env.locals m->h'.Ns X.env.locals m) (hok:HOk X.prog X.w H' h') (hg:AllBare g') :
 Inv X pins σ H' { s with heap:=h',gens:=g',drawn:=d',toks:=t' }:=by
 have neL:∀ b o,X.s₀.heap.get? b=some o->b≠X.env.locals:=fun b o e=>Nat.ne_of_lt (Nat.lt_of_lt_of_le (Heap.lt_size e) I.ok.above)
 have neC:∀ b o,X.s₀.heap.get? b=some o->b∉X.ex->b∉ch:=fun b o e hx hb=>by
  rw [(hch b hb).1] at e;cases e
 have cellK:∀ x c,X.env.cells.lookup x=some c->∀ v,s.heap.IsCell c v->h'.IsCell c v:=fun x c e v ⟨o,ho,hd⟩=>by
  have nch:c∉ch:=fun z=>(hch c z).2.2.1 x c e rfl
  by_cases hc:c∈X.fs
  ·obtain ⟨sl,q⟩:=slot c o (I.cne x c e) hc nch ho (I.freeC x c e)
   exact ⟨_,q,hd⟩
  ·exact ⟨o,keep c o (I.cne x c e) hc nch ho (I.freeC x c e),hd⟩
 refine ⟨I.ok,I.os,hg,⟨fun b o e n hb hx=>?_,fun b o e n hb hx=>?_,fun b o e n hx=>?_,fun b o e hx=>?_,fun b xs e=>tups b xs (I.base.tups b xs e),fun b o xs e=>frzs b o xs (I.base.frzs b o xs e),fun b ps e=>?_⟩,?_,fun x c e=>?_,?_,fun x c e=>?_,fun p hp=>?_,hok,I.len⟩
 ·exact keep b o (neL b o e) hb (neC b o e hx) (I.base.keep b o e n hb hx) (I.base.free b o e n hx)
 ·obtain ⟨sl,e1⟩:=I.base.slot b o e n hb hx
  obtain ⟨sl',e2⟩:=slot b _ (neL b o e) hb (neC b o e hx) e1 (I.base.free b o e n hx)
  exact ⟨sl',e2⟩
 ·obtain ⟨o',e1⟩:=I.base.there b o e hx
  exact free b o' (neC b o e hx) e1 (I.base.free b o e n hx)
 ·obtain ⟨o',e1⟩:=I.base.there b o e hx
  exact there b o' (neC b o e hx) e1
 ·obtain ⟨m1,e1⟩:=I.base.tbls b ps e
  obtain ⟨m2,e2⟩:=tbls b _ e1
  exact ⟨m1++m2,by rw [e2,Array.append_assoc]⟩
 ·obtain ⟨m,hn,hl⟩:=I.loc
  refine ⟨m,ns m hn,fun i x v e1 e2 e3=>?_⟩
  obtain ⟨u,r,l⟩:=hl i x v e1 e2 e3
  refine ⟨u,r,?_⟩
  rcases l with l|⟨k,c,e,z⟩
  ·exact .inl l
  ·exact .inr ⟨k,c,e,cellK x c e _ z⟩
 ·obtain ⟨v,z⟩:=I.cell x c e
  exact ⟨v,cellK x c e v z⟩
 ·obtain ⟨m,⟨o,_,_,ho,_⟩,_⟩:=I.loc
  exact free _ o (fun z=>(hch _ z).2.1 rfl) ho I.free
 ·obtain ⟨v,o,ho,hd⟩:=I.cell x c e
  exact free c o (fun z=>(hch c z).2.2.1 x c e rfl) ho (I.freeC x c e)
 ·obtain ⟨e,n,ne,nf,d⟩:=I.pin p hp
  have nch:p.1∉ch:=fun z=>(hch p.1 z).2.2.2 p hp rfl
  exact ⟨keep p.1 p.2 ne nf nch e n,free p.1 p.2 nch e n,ne,nf,d⟩
end
end L2
namespace L2
open PySem PySem.Spec PyProof.Rows PySem.SeqAt PySem.W Builtin.ObjectAttr
section
variable {X:Cx} {pins:List (Addr×Obj)} {σ σ0:St} {H H0:Hp} {s s0:Shared} {e:Addr} {cls:Value} {dd:Option Addr}
end
section
variable {X:Cx} {pins:List (Addr×Obj)} {σ σ0:St} {H H0:Hp} {s s0:Shared} {e:Addr} {cls:Value} {dd:Option Addr}
end
section
variable {X:Cx} {pins:List (Addr×Obj)} {σ σ0:St} {H H0:Hp} {s s0:Shared} {e:Addr} {cls:Value} {dd:Option Addr}
end
section
variable {X:Cx}
end
section
variable {X:Cx}
end
section
variable {X:Cx}
end
section
variable {prog:Program} {w:World} {A:Around} {E:Value->Shared->Prop} {s:Shared} {K:Frag} {x C:Addr} {ox:Obj} {od:Option Obj} {name:Str} {expr:Bool} {Q:Value->Shared->Prop}
end
section
variable {X:Cx} {e:Expr} {f:Str} {pos:Pos} {ta:TE} {ea C:Addr} {oe:Obj} {dd:Option Addr}
end
end L2
namespace L2
open PySem PySem.Spec PyProof.Rows
section
variable {P:Program} {w:World} {K:PySem.W.Frag} {mg:Str->Option Value} {base:Heap}
end
section
variable {X:Cx} {e:Expr} {f:Str} {pos:Pos} {ta:TE} {ea C:Addr} {oe:Obj} {ps:List (Addr×Obj)} {dd:Option Addr}
end
end L2
namespace L2
open PySem PySem.Spec PyProof.Rows PySem.W
def codeO (c:Addr) (qual:Str):HO:=.ext fun h=>h.CodeRec (.ref c) qual
theorem codeO_ok {P:Program} {w:World} {H:Hp} {h:Heap} {c:Addr} {qual:Str} (x:h.CodeRec (.ref c) qual):ObjOk P w H h c (codeO c qual):=by
 obtain ⟨c',o,vs,t,e,g,r⟩:=id x
 cases e
 refine ⟨x,⟨o,g⟩,fun h1 h2 z k=>?_⟩
 obtain ⟨c',o',vs',t',e',g',r'⟩:=z
 cases e'
 exact ⟨c,o',vs',t',rfl,k _ g',r'⟩
def lamO (f:Addr) (o:Obj):HO:=.ext fun h=>h.get? f=some o
theorem lamO_ok {P:Program} {w:World} {H:Hp} {h:Heap} {f:Addr} {o:Obj} (x:h.get? f=some o):ObjOk P w H h f (lamO f o):=⟨x,⟨o,x⟩,fun h1 h2 z k=>k _ z⟩
def cxLam (P:Program) (w:World) (K:Frag) (mg:Str->Option Value) (base:Heap) (N:List Str) (qual:Str) (scope:Scope) (f:Addr) (cd:Value) (cl:List (Str×Addr)) (A:Around) (outer:List Env) (s:Shared) (H:Hp) (E:XK):Cx where
 prog:=P
 w:=w
 K:=K
 mg:=mg
 base:=base
 A:=A.deeper (envX qual scope s.heap.objs.size f cd cl)
 N:=N
 s₀:=s
 H₀:=H
 env:=envX qual scope s.heap.objs.size f cd cl
 outer:=outer
 stack:=envX qual scope s.heap.objs.size f cd cl::outer
 ex:=[]
 calm:=true
 fn:=fun _=>false
 pn:=[]
 xe:=fun e s'=>wpAny (model P w) (A.deeper (envX qual scope s.heap.objs.size f cd cl)) (leaving (envX qual scope s.heap.objs.size f cd cl) e) (fun _ s''=>CX1 P w outer H s E e s'') (fun e' s''=>CX1 P w outer H s E e' s'') s'
section
variable {P:Program} {w:World} {K:Frag} {mg:Str->Option Value} {base:Heap} {N:List Str} {qual:Str} {scope:Scope} {f:Addr} {cd:Value} {cl:List (Str×Addr)} {A:Around} {outer:List Env} {s:Shared} {H:Hp} {E:XK}
structure Clos (scope:Scope) (cl:List (Str×Addr)) (N:List Str) (g:Heap) (H:Hp) (fr:List Addr) (σ:St):Prop where
 inj:∀ x y c,cl.lookup x=some c->cl.lookup y=some c->x=y
 has:∀ x,(scope.names.lookup x=some .cell∨scope.names.lookup x=some .free)->∃ c,cl.lookup x=some c
 cell:∀ x c,cl.lookup x=some c->(∃ v,g.IsCell c v)/\H c=none/\c∉fr
 val:∀ (i:Nat) x v,N[i]?=some x->σ[i]?=some (some v)->scope.names.lookup x=some .free/\∃ c u,cl.lookup x=some c/\RelV v u/\g.IsCell c (some u)
 len:σ.length=N.length
end
section
variable {X:Cx} {pins:List (Addr×Obj)} {σ:St} {H:Hp} {s:Shared} {h':Heap} {P c':Addr} {ps more:Array Value} {qual:Str}
theorem Inv.grow {t':Nat} (I:Inv X pins σ H s) (hP:H P=some (.tbl ps)) (hx:Heap.ExtBut P s.heap h') (hc:s.heap.objs.size≤c') (hcr:h'.CodeRec (.ref c') qual) (hp:h'.get? P=some { cls:=.none,data:=.fields (ps++more) }) :
 Inv X pins σ (upd (upd H P (.tbl (ps++more))) c' (codeO c' qual)) { s with heap:=h',toks:=t' }:=by
 have hPl:P<s.heap.objs.size:=I.hok.lt hP
 have hcP:c'≠P:=fun q=>by subst q;exact absurd (Nat.lt_of_lt_of_le hPl hc) (Nat.lt_irrefl _)
 have lt:∀ b o,s.heap.get? b=some o->b≠c':=fun b o e q=>by subst q;exact absurd (Nat.lt_of_lt_of_le (Heap.lt_size e) hc) (Nat.lt_irrefl _)
 have neP:∀ b,H b=none->b≠P:=fun b e q=>by subst q;rw [hP] at e;cases e
 have kp:∀ b o,s.heap.get? b=some o->H b=none->h'.get? b=some o:=fun b o e n=>hx b o (neP b n) e
 have up:∀ b u,H b=some u->(∀ qs,u≠.tbl qs)->upd (upd H P (.tbl (ps++more))) c' (codeO c' qual) b=some u:=fun b u e ne=>by
  have h1:b≠c':=fun q=>by subst q;exact absurd (Nat.lt_of_lt_of_le (I.hok.lt e) hc) (Nat.lt_irrefl _)
  have h2:b≠P:=fun q=>by subst q;rw [hP] at e;exact ne _ (Option.some.inj e).symm
  rw [upd_ne h1,upd_ne h2];exact e
 refine I.stepN (ch:=[]) (g':=s.gens) (d':=s.drawn) (t':=t') (fun b hb=>absurd hb (by simp)) (fun b o _ _ _ e n=>kp b o e n) (fun b o _ _ _ e n=>⟨o.slots,kp b o e n⟩) (fun b o _ e n=>?_) (fun b o _ e=>?_) (fun b xs e=>up b _ e (by intro _ q;cases q)) (fun b o u e=>up b _ e (by intro _ q;cases q)) (fun b qs e=>?_) (fun m hm=>?_) (fun b u e=>?_) I.bare
 ·rw [upd_ne (lt b o e),upd_ne (neP b n)];exact n
 ·by_cases q:b=P
  ·subst q;exact ⟨_,hp⟩
  ·exact ⟨o,hx b o q e⟩
 ·have h1:b≠c':=fun q=>by subst q;exact absurd (Nat.lt_of_lt_of_le (I.hok.lt e) hc) (Nat.lt_irrefl _)
  by_cases q:b=P
  ·subst q
   rw [hP] at e
   cases e
   exact ⟨more,by rw [upd_ne h1,upd_same]⟩
  ·exact ⟨#[],by rw [upd_ne h1,upd_ne q,e];simp⟩
 ·obtain ⟨o,es,ep,e,r⟩:=hm
  exact ⟨o,es,ep,kp _ _ e I.free,r⟩
 ·by_cases h1:b=c'
  ·subst h1
   rw [upd_same] at e
   cases e
   exact codeO_ok hcr
  ·rw [upd_ne h1] at e
   by_cases h2:b=P
   ·subst h2
    rw [upd_same] at e
    cases e
    exact hp
   ·rw [upd_ne h2] at e
    refine (I.hok b u e).stay (fun c v hc' q=>hx c v ?_ q) (fun c q=>up c _ q (by intro _ z;cases z)) fun c xs q=>up c _ q (by intro _ z;cases z)
    rintro rfl
    rcases hc' with rfl|z
    ·exact h2 rfl
    ·rw [hP] at z;cases z
structure CodeTab (X:Cx) (c P:Addr):Prop where
 code:X.env.code=.ref c
 hd:CodeHd X.base c P
 bl:X.base.BuiltinsAt X.mg P
 gP:mainGlobals≠P
def Lam (H:Hp) (P:Addr) (lp:Pos) (qual:Str) (c':Addr) (H1:Hp):Prop:=
 ∃ ps,H P=some (.tbl ps)/\((codeAmong lp ps.toList=none/\H c'=none/\c'≠P/\H1=upd (upd H P (.tbl (ps++#[rawInt lp.line,rawInt lp.col,.ref c']))) c' (codeO c' qual))∨(codeAmong lp ps.toList=some (.ref c')/\H c'=some (codeO c' qual)/\H1=H))
def TabOk (H:Hp) (P:Addr) (lp:Pos) (qual:Str):Prop:=∃ ps,H P=some (.tbl ps)/\TriplesOk ps.toList/\(codeAmong lp ps.toList=none∨∃ c',codeAmong lp ps.toList=some (.ref c')/\H c'=some (codeO c' qual))
def tLam (X:Cx) (P:Addr) (params:Arguments) (body:Expr) (scope:Scope) (lp:Pos) (cl:List (Str×Addr)):TE:=fun _ H Q=>TabOk H P lp (X.env.qual++"<lambda>")/\∀ c' H1,Lam H P lp (X.env.qual++"<lambda>") c' H1->∀ f ctv,H1 f=none->Q (.ref f) (upd H1 f (lamO f (kla_obj "<lambda>" (X.env.qual++"<lambda>") params body scope cl ((X.mg "__name__").getD .none) c' ctv)))
theorem pe_lam {c:Addr} {params:Arguments} {body:Expr} {scope:Scope} {lp:Pos} {cl:List (Str×Addr)} (T:CodeTab X c P) (hdef:defaultsOf params X.env=([],[])) (hcl:closureFor scope X.env=pure cl):PE X (.Lambda params body scope lp) (tLam X P params body scope lp cl):=by
 intro pins s σ H Q I h
 obtain ⟨⟨ps,hP,ht,hor⟩,h⟩:=h
 refine kla_eval hdef ?_
 have hPo:s.heap.get? P=some (tabObj ps):=I.hok P _ hP
 have hg:s.heap.Ns mainGlobals X.mg:=by
  obtain ⟨o,es,ep,e,r⟩:=I.ok.mod.glob
  exact ⟨o,es,ep,I.bk _ _ e,r⟩
 have hb:s.heap.BuiltinsAt X.mg P:=by
  obtain ⟨bm,o,b1,b2,b3,b4,b5,b6⟩:=T.bl
  exact ⟨bm,o,b1,b2,b3,b4,I.bk _ _ b5,b6⟩
 rcases hor with hn|⟨c',hf,hc'⟩
 ·refine kla_makeFunction (mg:=X.mg) hcl I.ok.glob hg T.code (T.hd.keeps I.bk) hPo ht hn T.gP hb fun c' ctv h' tk hx hge hlt hrec htb=>?_
  have I1:=I.grow (t':=tk) hP hx hge hrec htb
  have hPl:P<s.heap.objs.size:=I.hok.lt hP
  have fr:upd (upd H P (.tbl (ps++#[rawInt lp.line,rawInt lp.col,.ref c']))) c' (codeO c' (X.env.qual++"<lambda>")) h'.objs.size=none:=I1.hok.fresh (Nat.le_refl _)
  refine ⟨.ref h'.objs.size,_,I1.laid (a:=h'.objs.size) (t':=tk) (fun b u e=>Heap.get?_push_of_some _ e) (Nat.le_refl _) (lamO_ok (Heap.get?_push_size _ rfl)),rfl,h c' _ ⟨ps,hP,.inl ⟨hn,I.hok.fresh hge,fun q=>?_,rfl⟩⟩ _ ctv fr⟩
  subst q
  exact absurd (Nat.lt_of_lt_of_le hPl hge) (Nat.lt_irrefl _)
 ·refine kla_makeFunctionHit (mg:=X.mg) hcl I.ok.glob hg T.code (T.hd.keeps I.bk) hPo ht hf hb fun ctv h' tk hk hsz=>?_
  have fr:H h'.objs.size=none:=I.hok.fresh hsz
  exact ⟨.ref h'.objs.size,_,I.laid (a:=h'.objs.size) (h':=h'.push _) (t':=tk) (fun b u e=>Heap.get?_push_of_some _ (hk b u e)) hsz (lamO_ok (Heap.get?_push_size _ rfl)),rfl,h c' _ ⟨ps,hP,.inr ⟨hf,hc',rfl⟩⟩ _ ctv fr⟩
end
section
variable {X:Cx} {CX:CXT} {k:Nat} {f C:Addr} {fd:FuncData} {ps:List Str} {sp:Shared->List Env->Sp} {E:XK} {x:Str} {p pos:Pos} {e:Expr} {es:List Expr} {t:TA}
theorem lookup_of_mem_keys {cl:List (Str×Addr)} {x:Str} (h:x∈cl.map (·.1)):∃ c,cl.lookup x=some c:=by
 induction cl with
 |nil=>simp at h
 | cons q r ih=>
   obtain ⟨y,c⟩:=q
   rw [List.lookup_cons]
   by_cases e:(x == y)=true
   ·exact ⟨c,by rw [e]⟩
   ·have e':(x == y)=false:=by simpa using e
    rw [e']
    refine ih ?_
    rcases List.mem_cons.mp h with z|z
    ·exact absurd (beq_iff_eq.mpr z) e
    ·exact z
def freeV (js:List Nat) (σ:St):St:=js.map fun j=>(σ[j]?).join
theorem clos_of {pins:List (Addr×Obj)} {σ:St} {H:Hp} {s:Shared} {scope:Scope} {cl:List (Str×Addr)} {NL:List Str} {js:List Nat} (I:Inv X pins σ H s) (hcl:∀ p∈cl,X.env.cells.lookup p.1=some p.2) (hfn:∀ x,X.fn x=true)
 (hhas:∀ p∈scope.names,(p.2=.cell∨p.2=.free)->p.1∈cl.map (·.1)) (hfree:∀ x∈NL,scope.names.lookup x=some .free) (hown:∀ x∈NL,X.env.scope.names.lookup x=some .cell) (hN:NL.map some=js.map fun j=>X.N[j]?) (hst:X.stack=X.env::X.outer) (hfm:X.env.frame=some X.env.locals) :
 Clos scope cl NL s.heap H (frs X.stack) (freeV js σ):=by
 have sub:∀ x c,cl.lookup x=some c->X.env.cells.lookup x=some c:=fun x c e=>hcl (x,c) (PySem.mem_of_lookup e)
 have hlen:js.length=NL.length:=by simpa using (congrArg List.length hN).symm
 refine ⟨fun x y c h1 h2=>I.ok.inj x y c (sub x c h1) (sub y c h2),fun x hx=>?_,fun x c e=>⟨I.cell x c (sub x c e),I.freeC x c (sub x c e),fun hm=>?_⟩,fun i x v h1 h2=>?_,by unfold freeV;rw [List.length_map];exact hlen⟩
 ·refine lookup_of_mem_keys ?_
  rcases hx with hx|hx
  ·exact hhas _ (PySem.mem_of_lookup hx) (.inl rfl)
  ·exact hhas _ (PySem.mem_of_lookup hx) (.inr rfl)
 ·rcases List.mem_cons.mp (I.stkSub c hm) with q|q
  ·exact I.cne x c (sub x c e) q
  ·obtain ⟨_,o,ho,_⟩:=I.ok.funs.mem q
   exact absurd (Nat.lt_of_lt_of_le (Heap.lt_size ho) (I.ok.cab x c (hfn x) (sub x c e))) (Nat.lt_irrefl _)
 ·have hx:x∈NL:=List.mem_of_getElem? h1
  have e1:(js.map fun j=>X.N[j]?)[i]?=some (some x):=by rw [← hN,List.getElem?_map,h1];rfl
  rw [List.getElem?_map] at e1
  obtain ⟨j,hj,e1⟩:=Option.map_eq_some_iff.mp e1
  unfold freeV at h2
  rw [List.getElem?_map,hj] at h2
  have h3:σ[j]?=some (some v):=by
   have h2:(σ[j]?).join=some v:=Option.some.inj h2
   cases e:σ[j]? with
   |none=>rw [e] at h2;cases h2
   | some a=>rw [e] at h2;cases a with
     |none=>cases h2
     |some b=>exact congrArg some h2
  obtain ⟨m,hn,hl⟩:=I.loc
  obtain ⟨u,r,lk⟩:=hl j x v e1 h3 (.inr (.inl (hown x hx)))
  refine ⟨hfree x hx,?_⟩
  rcases lk with ⟨kk,_⟩|⟨_,c,hc,z⟩
  ·have kk:X.env.scope.names.lookup x=some .local:=kk
   rw [hown x hx] at kk;cases kk
  ·obtain ⟨c2,e2⟩:=lookup_of_mem_keys (hhas _ (PySem.mem_of_lookup (hfree x hx)) (.inr rfl))
   have:=sub x c2 e2
   rw [hc] at this
   cases this
   exact ⟨c,u,e2,r,z⟩
end
end L2
namespace L2
open PySem PySem.Spec PyProof.Rows
end L2
namespace L2
open PySem PySem.Spec PyProof.Rows PySem.W
def tabIn (K:Frag) (c:Addr):Option Addr:=match K.lookup c with
 | some o=>(match o.data with
   | .fields vs=>(match (vs[11]?:Option Value),vs.getD 18 .none,vs.getD 7 .none,vs.getD 9 .none,vs.getD 10 .none with
     |some (Value.ref P),.str _ _,.int _ _,.bool _,.int _ _=>if (o.cls == .type "code" && c != P)=true then some P else none
     |_,_,_,_,_=>none)
   |_=>none)
 |none=>none
theorem hd_of {K:Frag} {h:Heap} {c P:Addr} (X:K.In h) (e:tabIn K c=some P):CodeHd h c P:=by
 unfold tabIn at e
 split at e
 ·rename_i o ho
  split at e
  ·rename_i vs hd
   split at e
   ·rename_i P' x18 t18 x7 t7 x9 x10 t10 h11 h18 h7 h9 h10
    split at e
    ·rename_i hc
     cases e
     simp only [Bool.and_eq_true,beq_iff_eq,bne_iff_ne] at hc
     refine ⟨o,vs,x18,t18,x7,t7,x9,x10,t10,X _ _ ho,hc.1,hd,h11,?_,h18,h7,h9,h10,hc.2⟩
     rw [Array.getD_eq_getD_getElem?,h11]
     rfl
    ·cases e
   ·cases e
  ·cases e
 ·cases e
end L2
namespace L2
open PySem PySem.Spec PyProof.Rows PySem.SeqAt
section
variable {X:Cx}
end
section
variable {X:Cx} {tg:Expr}
end
section
variable {X:Cx}
end
section
variable {prog:Program} {w:World} {A:Around} {E:Value->Shared->Prop} {s:Shared} {l:Addr} {x y:Value}
end
section
variable {X:Cx} {pos:Pos}
end
section
variable {X:Cx} {CX:CXT} {k:Nat} {f C:Addr} {fd:FuncData} {ps ks:List Str} {sp:Sp} {E:XK} {x m:Str} {p pos apos kpos:Pos} {e o:Expr} {es:List Expr} {kws:List Keyword} {te ta:TE} {t tk:TA}
variable {g:List Value->List Value->List Value} {gV:List V->List V->List V}
end
end L2
namespace L2
open PySem PySem.Spec PyProof.Rows PySem.W
theorem codeAmong_snoc2 {pos p:Pos} {c:Value} (l:List Value) (h:TriplesOk l):codeAmong pos (l++[rawInt p.line,rawInt p.col,c])=(codeAmong pos l).or (if (p.line:Int) == pos.line && (p.col:Int) == pos.col then some c else none):=by
 fun_induction TriplesOk l with
 |case1=>simp [codeAmong,rawInt]
 | case2 a t b u c' rest ih=>
   show codeAmong pos (.int a t::.int b u::c'::(rest++_))=_
   rw [codeAmong,codeAmong]
   split
   ·rfl
   ·exact ih h
 |case3=>exact h.elim
theorem triples_snoc {p:Pos} {c:Value} (l:List Value) (h:TriplesOk l):TriplesOk (l++[rawInt p.line,rawInt p.col,c]):=by
 fun_induction TriplesOk l with
 |case1=>simp [TriplesOk,rawInt]
 |case2 a t b u c' rest ih=>exact ih h
 |case3=>exact h.elim
def TabI (H:Hp) (T:Addr) (qual:Str) (lps:List Pos):Prop:=
 ∃ ps,H T=some (.tbl ps)/\TriplesOk ps.toList/\∀ lp∈lps,codeAmong lp ps.toList=none∨∃ c',codeAmong lp ps.toList=some (.ref c')/\H c'=some (codeO c' qual)
theorem TabI.tab {H:Hp} {T:Addr} {qual:Str} {lps:List Pos} {lp:Pos} (h:TabI H T qual lps) (m:lp∈lps):TabOk H T lp qual:=by
 obtain ⟨ps,h1,h2,h3⟩:=h
 exact ⟨ps,h1,h2,h3 lp m⟩
theorem TabI.keep {H H':Hp} {T:Addr} {qual:Str} {lps:List Pos} (h:TabI H T qual lps) (k:∀ b u,H b=some u->(∀ kvs,u≠.dK kvs)->H' b=some u):TabI H' T qual lps:=by
 obtain ⟨ps,h1,h2,h3⟩:=h
 refine ⟨ps,k _ _ h1 (by intro _ z;cases z),h2,fun lp m=>?_⟩
 rcases h3 lp m with z|⟨c',z,e⟩
 ·exact .inl z
 ·exact .inr ⟨c',z,k _ _ e (by intro _ z;cases z)⟩
theorem TabI.same {H H':Hp} {T:Addr} {qual:Str} {lps:List Pos} (h:TabI H T qual lps) (s:Same H H'):TabI H' T qual lps:=h.keep fun b u e _=>s b u e
theorem Lam.keep {H H1:Hp} {T c':Addr} {lp:Pos} {qual:Str} (h:Lam H T lp qual c' H1) {b:Addr} {u:HO} (e:H b=some u) (ne:∀ ps,u≠.tbl ps):H1 b=some u:=by
 obtain ⟨ps,h1,⟨_,h2,_,rfl⟩|⟨_,h2,rfl⟩⟩:=h
 ·rw [upd_ne (ne_of_none e h2),upd_ne (ne_of e h1 (ne _))];exact e
 ·exact e
theorem TabI.lam {H H1:Hp} {T c':Addr} {lp:Pos} {qual:Str} {lps:List Pos} (h:TabI H T qual lps) (l:Lam H T lp qual c' H1):TabI H1 T qual lps:=by
 obtain ⟨ps,h1,h2,h3⟩:=h
 obtain ⟨ps',e1,l⟩:=l
 rw [h1] at e1
 cases e1
 rcases l with ⟨hn,hc,ne,rfl⟩|⟨_,_,rfl⟩
 ·refine ⟨ps++#[rawInt lp.line,rawInt lp.col,.ref c'],by rw [upd_ne ne.symm,upd_same],?_,fun lp' m=>?_⟩
  ·rw [Array.toList_append]
   exact triples_snoc _ h2
  ·rw [Array.toList_append]
   show codeAmong lp' (ps.toList++[rawInt lp.line,rawInt lp.col,.ref c'])=none∨∃ c'',codeAmong lp' (ps.toList++[rawInt lp.line,rawInt lp.col,.ref c'])=Option.some (Value.ref c'')/\_
   rw [codeAmong_snoc2 _ h2]
   rcases h3 lp' m with z|⟨c'',z,e⟩
   ·rw [z]
    by_cases q:((lp.line:Int) == lp'.line && (lp.col:Int) == lp'.col)=true
    ·rw [if_pos q]
     exact .inr ⟨c',rfl,upd_same⟩
    ·rw [if_neg q]
     exact .inl rfl
   ·rw [z]
    refine .inr ⟨c'',rfl,?_⟩
    rw [upd_ne (ne_of_none e hc),upd_ne (ne_of e h1 (by intro z;cases z))];exact e
 ·exact ⟨ps,h1,h2,h3⟩
theorem law_callM {P:Program} {w:World} {K:PySem.W.Frag} {mg mb:Str->Option Value} {CX:CXT} {k:Nat} {fa a:Addr} {Ts:List Addr} {fd:FuncData} {x:Str} {sp:Sp} {s₁:Shared} {vs:List Value} {ns:List Int}
 (KX:K.In s₁.heap) (hns:s₁.heap.Ns mainGlobals mg) (hb:s₁.heap.Ns builtinsNs mb) (hbb:∀ x:Str,x ≠ "__name__"->mb x=bootBuiltins x) (hlim:s₁.heap.NoLimit) (hg:s₁.gens=#[])
 (ha:s₁.heap.get? a=some { cls:=.type "list",data:=.seq vs.toArray }) (hi:IntsAre vs ns) (hl:ns.length≤sizeLine) (hr:Room k callerA)
 (hT:∀ T∈Ts,s₁.heap.get? T=some (tabObj #[])/\K.lookup T=none/\∃ c,PySem.W.CodeHd s₁.heap c T)
 (F:∀ base:Heap,K.In base->base.Ns mainGlobals mg->(∀ b o,s₁.heap.get? b=some o->b∉Ts->b≠a->base.get? b=some o)->FnOk P w K mg base CX k fa fd [x] sp) (hbind:∀ (s:Shared) (u:Value),BindsTo s fd ⟨[u],[]⟩ [(x,u)])
 (hsp:∀ H:Hp,(∀ T∈Ts,H T=some (.tbl #[]))->SqL K H a (ns.map V.int)->sp [.ref a] H (fun v _=>v=.bl true) fun _ _ _=>False)
 (hCX:∀ H e s',CX [] H s₁ (fun _ _ _=>False) e s'->False) :
 codeAny (model P w) callerA (.call (.ref fa) ⟨[.ref a],[]⟩) (fun r s'=>r=.ok (.ret (.bool true))/\OldK s₁.heap s'.heap/\s'.os=s₁.os/\AllBare s'.gens) s₁:=by
 have rv:=vals_ints hi
 have lenV:=hi.length
 have haT:a∉Ts:=fun q=>by have:=(hT a q).1;rw [ha] at this;cases this
 have core:∀ H0:Hp,(∀ b,H0 b=none∨(b=a/\K.lookup a=none/\H0 b=some (.frz { cls:=.type "list",data:=.seq vs.toArray } (.lst (ns.map V.int)))))->SqL K (fun b=>if b∈Ts then some (.tbl #[]) else H0 b) a (ns.map V.int)->
  codeAny (model P w) callerA (.call (.ref fa) ⟨[.ref a],[]⟩) (fun r s'=>r=.ok (.ret (.bool true))/\OldK s₁.heap s'.heap/\s'.os=s₁.os/\AllBare s'.gens) s₁:=by
  intro H0 hO hS
  generalize hH:(fun b=>if b∈Ts then some (HO.tbl #[]) else H0 b:Hp)=H at hS
  have HT:∀ T∈Ts,H T=some (.tbl #[]):=fun T m=>by rw [← hH];exact if_pos m
  have Hne:∀ b,b∉Ts->H b=H0 b:=fun b e=>by rw [← hH];exact if_neg e
  have Hn:∀ b,b∉Ts->b≠a->H b=none:=fun b h1 h2=>by
   rw [Hne b h1]
   rcases hO b with z|⟨z,_⟩
   ·exact z
   ·exact absurd z h2
  have hok:HOk P w H s₁.heap:=fun b u e=>by
   by_cases q:b∈Ts
   ·rw [HT b q] at e;cases e
    exact (hT b q).1
   ·rw [Hne b q] at e
    rcases hO b with z|⟨rfl,_,z⟩
    ·rw [z] at e;cases e
    ·rw [z] at e;cases e
     exact ⟨ha,by rw [List.length_map];exact hl,vs,_,rv,ha⟩
  have nsN:∀ {b:Addr} {o:Obj} {es:Array DictEntry} {ep:Nat},s₁.heap.get? b=some o->o.data=.dict es ep->H b=none:=fun {b o es ep} e d=>by
   refine Hn b (fun q=>?_) (fun q=>?_)
   ·rw [(hT b q).1] at e;cases e;cases d
   ·subst q;rw [ha] at e;cases e;cases d
  have nsK:∀ {b:Addr} {m:Str->Option Value},s₁.heap.Ns b m->(hidT s₁.heap H).Ns b m:=fun {b m} ⟨o,es,ep,e,d,r⟩=>⟨o,es,ep,hidT_get e (nsN e d),d,r⟩
  have hKb:K.In (hidT s₁.heap H):=fun b o e=>by
   refine hidT_get (KX b o e) ?_
   have q:b∉Ts:=fun m=>by rw [(hT b m).2.1] at e;cases e
   rw [Hne b q]
   rcases hO b with z|⟨rfl,z,_⟩
   ·exact z
   ·rw [z] at e;cases e
  have hM:Mod K mg (hidT s₁.heap H):=⟨hKb,nsK hns,⟨mb,nsK hb,hbb⟩,let ⟨mc,h1,h2⟩:=hlim;⟨mc,nsK h1,h2⟩⟩
  have e0:Env0 P w K mg (hidT s₁.heap H) callerA [] s₁ H:=⟨rfl,hM,fun b o e=>of_hidT e,Nat.le_of_eq (hidT_size _ _),trivial,fun b hb=>absurd (show b∈([]:List Addr) from hb) (by simp),hok,.of_eq hg⟩
  refine codeAny_mono ((F _ hKb (nsK hns) fun b o e h1 h2=>hidT_get e (Hn b h1 h2)).run callerA [] s₁ H ⟨[.ref a],[]⟩ [.ref a] [.ref a] _ _ hr e0 (hbind s₁ (.ref a)) (.cons rfl .nil) (hsp H HT hS)) fun r s' h=>?_
  cases r with
  |error e=>exact (hCX H e s' h).elim
  | ok fl=>
    cases fl with
    |next=>exact False.elim h
    |brk=>exact False.elim h
    |cont=>exact False.elim h
    | ret u=>
      obtain ⟨v,H',os,bare,un,hok',r',q⟩:=h
      cases (show v=.bl true from q)
      cases (show u=Value.bool true from r')
      have was:∀ b o,s₁.heap.get? b=some o->b∉Ts->s'.heap.get? b=some o:=fun b o e h1=>by
       rcases hO b with z|⟨rfl,_,z⟩
       ·exact un.keep b o e (by rw [Hne b h1];exact z) (by intro z;exact absurd (show b∈([]:List Addr) from z) (by simp)) (by simp)
       ·have z2:=un.frzs b _ _ ((Hne b h1).trans z)
        obtain ⟨e2,_⟩:=hok' b _ z2
        rw [ha] at e;cases e
        exact e2
      have tbs:∀ T∈Ts,∃ more,s'.heap.get? T=some { cls:=.none,data:=.fields (#[]++more) }:=fun T m=>by
       obtain ⟨more,hm⟩:=un.tbls T #[] (HT T m)
       exact ⟨more,hok' T _ hm⟩
      refine ⟨rfl,⟨fun b o e=>?_,fun b o e=>?_⟩,os,bare⟩
      ·by_cases h1:b∈Ts
       ·obtain ⟨more,tb⟩:=tbs b h1
        obtain ⟨h2,_,c,hc⟩:=hT b h1
        rw [h2] at e;cases e
        exact .inr (.inl ⟨(hc.tab h2).isCodeTable,rfl,#[],more,rfl,tb⟩)
       ·exact .inl (was b o e h1)
      ·by_cases h1:b∈Ts
       ·obtain ⟨more,tb⟩:=tbs b h1
        exact ⟨_,tb⟩
       ·exact ⟨o,was b o e h1⟩
 cases hk:K.lookup a with
 | some o=>
   have e:=KX a o hk
   rw [ha] at e
   cases e
   exact core (fun _=>none) (fun _=>.inl rfl) (.inr ⟨_,vs.toArray,_,hk,rfl,rfl,rfl,by rw [List.size_toArray,lenV];exact hl,by simpa using rv⟩)
 | none=>
   refine core (fun b=>if b=a then some (.frz { cls:=.type "list",data:=.seq vs.toArray } (.lst (ns.map V.int))) else none) (fun b=>?_) (.inl (.inr ⟨_,(if_neg haT).trans (if_pos rfl)⟩))
   by_cases h:b=a
   ·exact .inr ⟨h,hk,if_pos h⟩
   ·exact .inl (if_neg h)
theorem walk_ofM {l:PySem.W.OpenLaw} {n k:Nat} {q:Program} {loose:List Str} {XP:(Str->Option Value)->Heap->Prop} {YP:World->Heap->Prop} {d:DefRec} {K:Params->PySem.W.Frag} {CX:World->CXT} {x:Str} {Ts:List Addr}
 (hn:l.most=some n) (hn2:n≤sizeLine) (hdf:d.params.defaults=[]) (hr:Room k callerA)
 (hY:∀ (w:World) (h:Heap),YP w h->(K w.params).In h) (hYT:∀ (w:World) (h:Heap),YP w h->∀ T∈Ts,h.get? T=some (tabObj #[]))
 (F:∀ (w:World) (mg:Str->Option Value) (fa:Addr) (h:Heap),(K w.params).In h->h.Ns mainGlobals mg->mg d.name=some (.ref fa)->
  ∃ (fd:FuncData) (sp:Sp),(∀ (s:Shared) (u:Value),BindsTo s fd ⟨[u],[]⟩ [(x,u)])/\(∀ T∈Ts,(K w.params).lookup T=none/\∃ c,tabIn (K w.params) c=some T)/\
    (∀ (H:Hp) (a:Addr) (ns:List Int),ns.length≤n->(∀ T∈Ts,H T=some (.tbl #[]))->SqL (K w.params) H a (ns.map V.int)->sp [.ref a] H (fun v _=>v=.bl true) fun _ _ _=>False)/\
    ∀ base:Heap,(K w.params).In base->base.Ns mainGlobals mg->(∀ T∈Ts,base.BuiltinsAt mg T/\mainGlobals≠T)->FnOk l.prog w (K w.params) mg base (CX w) k fa fd [x] sp)
 (hCX:∀ (w:World) (H:Hp) (s:Shared) (e:Value) (s':Shared),CX w [] H s (fun _ _ _=>False) e s'->False) :
 PySem.W.WalkO q loose XP YP l.row.toRowW d [] (fun f vs=>PySem.call f vs):=by
 refine Att.attach_call hn hdf fun w s₀ s₁ mg mb fa o pm cd doc a vs ns G Y ho hd hcd hmg hobj hints hlen hg=>?_
 have KX:=hY w _ Y
 have TX:=hYT w _ Y
 obtain ⟨fd,sp,hb,ht,hsp,hF⟩:=F w mg fa _ KX G.T.g hmg
 obtain ⟨bm,ob,b1,b2,b3,b4,b5,b6⟩:=G.T.bmain
 have gT:∀ T∈Ts,mainGlobals≠T:=fun T m q=>by
  obtain ⟨o,es,ep,e,hd,_⟩:=G.T.g
  rw [q,TX T m] at e;cases e;cases hd
 have bT:bm∉Ts:=fun m=>by
  rw [TX _ m] at b3;cases b3;cases b4
 have ba:bm≠a:=fun q=>by
  rw [q,hobj] at b3;cases b3;cases b6
 have bG:bm≠mainGlobals:=fun q=>by
  obtain ⟨o,es,ep,e,hd,_⟩:=G.T.g
  rw [q,e] at b3;cases b3;rw [hd] at b6;cases b6
 exact law_callM KX G.T.g G.T.b G.T.builtins G.T.nolimit hg hobj hints (Nat.le_trans hlen hn2) hr (fun T m=>⟨TX T m,(ht T m).1,let ⟨c,z⟩:=(ht T m).2;⟨c,hd_of KX z⟩⟩) (fun base kb nb old=>hF base kb nb fun T m=>⟨⟨bm,ob,b1,b2,bG,fun q=>bT (q ▸ m),old _ _ b3 bT ba,b4,b5,b6⟩,gT T m⟩) hb (fun H hH hS=>hsp H a ns hlen hH hS) fun H e s'=>hCX w H s₁ e s'
end L2
namespace L2
open PySem PySem.Spec PyProof.Rows
theorem compTurn_dict (ke ve target iter:Expr) (ifs:List Expr) (scope:Scope) (pos:Pos) (it:Value) (d:Addr) (env:Env) :
 compTurn (.DictComp ke ve [⟨target,iter,ifs,0⟩] scope pos) 0 it (.ref d) env=(do
  standAt iter.pos
  match ← pyNext it with
  |none=>pure (.done .next)
  | some v=>
    letOwnedTupleGo target it v
    assign target env v
    let mut ok:=true
    for c in ifs do
     if ok then ok ← isTrue c env (eval c env)
    if ok then
     (do
      let kv ← eval ke env
      let vv ← holding [kv] (eval ve env)
      standAt { ke.pos with endLine:=ve.pos.endLine,endCol:=ve.pos.endCol }
      holding [kv,vv] (dictSet d kv vv))
    again (.compLoop (.DictComp ke ve [⟨target,iter,ifs,0⟩] scope pos) 0 it (.ref d) env)):=by rfl
theorem codeAny_compStart_dict {prog:Program} {w:World} {A:Around} {R:Result->Shared->Prop} {s:Shared} {ke ve target iter ifs rest scope pos it acc env}
 (h0:codeAny (model prog w) A (.compLoop (.DictComp ke ve (⟨target,iter,ifs,0⟩::rest) scope pos) 0 it acc env) R s)
 (h:wpAny (model prog w) A (pyIter it) (fun it' s'=>codeAny (model prog w) A (.compLoop (.DictComp ke ve (⟨target,iter,ifs,0⟩::rest) scope pos) 0 it' acc env) R s')
  (notedBy (model prog w) A env fun x s'=>R (.error x) s') s) :
 codeAny (model prog w) A (.compStart (.DictComp ke ve (⟨target,iter,ifs,0⟩::rest) scope pos) 0 it acc env) R s:=by
 refine codeAny_of_tree ?_
 show wpAny _ _ ((compStart (.DictComp ke ve (⟨target,iter,ifs,0⟩::rest) scope pos) 0 it acc env).onRaise (fun x=>do noteFrame x env;standAt theWindowsPlace)) _ _ s
 refine wpAny_notedAt ?_
 unfold compStart
 show wpAny _ _ (ask >>= _) _ _ s
 refine wpAny_bind (wpAny_askSetting (wpAny_ite ?_))
 split
 ·first
   |exact wpAny_bind (wpAny_pure (wpAny_pure (And.intro rfl h0)))
   |exact wpAny_pure (And.intro rfl h0)
 ·first
   |exact wpAny_bind (wpAny_rule (wpAny_bind (wpAny_standAt (wpAny_bind (wpAny_mono h (fun it' s' h'=>wpAny_pure (And.intro rfl h')) fun _ _ x=>x)))))
   |(refine wpAny_bind (wpAny_rule ?_);show wpAny _ _ (standAt iter.pos >>= _) _ _ s;exact wpAny_bind (wpAny_standAt (wpAny_bind (wpAny_mono h (fun it' s' h'=>wpAny_pure (And.intro rfl h')) fun _ _ x=>x))))
theorem d_dictSet {X:Cx} {pins:List (Addr×Obj)} {σ:St} {H:Hp} {s:Shared} {a:Addr} {y v:V} {u r:Value} {A:Around} {E:Value->Shared->Prop} {kvs:List (Key×V)} {k:Key} {Q:Unit->Shared->Prop} (I:Inv X pins σ H s) (e:H a=some (.dK kvs)) (ey:y=kV k) (l:kvs.length<sizeLine) (ry:RelV y u) (rv:RelV v r)
 (h:∀ s',Inv X pins σ (upd H a (.dK (putK kvs k v))) s'->Q () s'):wpAny (model X.prog X.w) A (dictSet a u r) Q E s:=by
 subst ey
 obtain ⟨z,hd,vs,rel,dd⟩:=dk_of I.hok e
 have hz:vs.length≤sizeLine:=by rw [← rel.length];exact z
 have hl:(putK kvs k v).length≤sizeLine:=by have:=length_putK kvs k v;omega
 refine wpAny_dictSet_pairs (hsz:=hz) (kV_is ry) dd fun h' dd' hs=>h _ ?_
 have he:∃ q,h'.get? a=some q:=let ⟨q,_,_,hq,_⟩:=dd';⟨q,hq⟩
 exact d_write I (by rw [e];exact True.intro) hs he (dk_new hl hd (rel.put k rv) dd')
def DTurn (J:It) (g:TG) (tt:TT) (tk tv:TE) (acc:Addr) (F:Hp->Prop) (W:Nat->Nat->St->Hp->Prop):Prop:=
 ∀ i m σ H,W i m σ H->(J.stop i H/\F H)∨(J.go i H/\∀ x H1,J.yld i H x H1->g x σ H1 fun σ2 H2=>tt σ2 H2 fun b H3=>
   if b=true then tk σ2 H3 fun y H4=>tv σ2 H4 fun z H5=>∃ kvs k,H5 acc=some (.dK kvs)/\y=kV k/\kvs.length<sizeLine/\∃ m',m'<m/\W (i+1) m' σ2 (upd H5 acc (.dK (putK kvs k z))) else ∃ m',m'<m/\W (i+1) m' σ2 H3)
theorem dcomp_loop {X:Cx} {scope:Scope} {N':List Str} {cl:List (Str×Addr)} {C acc it:Addr} {s₂:Shared} {H₂:Hp} {fp:List Addr} {tn:Nat->Heap->Prop} {J:It} {g:TG} {tt:TT} {tk tv:TE} {F:Hp->Prop}
 {ke ve tg iter:Expr} {ifs:List Expr} {pos:Pos} {R:Result->Shared->Prop} (W:Nat->Nat->St->Hp->Prop) (turn:DTurn J g tt tk tv acc F W) (T:Turn X.prog X.w X.K tg J fp it tn)
 (hg:PG (cxComp X scope N' cl C s₂ H₂ fp) tg g) (hc:PIfs (cxComp X scope N' cl C s₂ H₂ fp) ifs tt) (hk:PE (cxComp X scope N' cl C s₂ H₂ fp) ke tk) (hv:PE (cxComp X scope N' cl C s₂ H₂ fp) ve tv) (hcalm:X.calm=true)
 (hfp:∀ b∈fp,b≠C/\b∉frs X.stack/\(∀ x c,cl.lookup x=some c->c≠b))
 (hR:∀ s' σ' H',Inv (cxComp X scope N' cl C s₂ H₂ fp) [] σ' H' s'->F H'->R (.ok .next) s')
 {s:Shared} {σ:St} {H:Hp} {m:Nat} (I:Inv (cxComp X scope N' cl C s₂ H₂ fp) [] σ H s) (st:tn 0 s.heap) (fr:∀ b∈fp,H b=none) (w0:W 0 m σ H) :
 codeAny (model X.prog X.w) X.A (.compLoop (.DictComp ke ve [⟨tg,iter,ifs,0⟩] scope pos) 0 (.ref it) (.ref acc) (compEnvC scope cl C X.env)) R s:=by
 refine codeAny_loop rfl (fun n s'=>∃ i σ' H',Inv (cxComp X scope N' cl C s₂ H₂ fp) [] σ' H' s'/\tn i s'.heap/\(∀ b∈fp,H' b=none)/\W i n σ' H') (fun n s3 hI=>?_) m ⟨0,σ,H,I,st,fr,w0⟩
 obtain ⟨i,σ3,H3,I3,st3,fr3,w3⟩:=hI
 show wpAny _ X.A ((compTurn (.DictComp ke ve [⟨tg,iter,ifs,0⟩] scope pos) 0 (.ref it) (.ref acc) (compEnvC scope cl C X.env)).onRaise (fun x=>do noteFrame x (compEnvC scope cl C X.env);theTreesLotGoes x)) _ _ s3
 refine wpAny_noted ?_
 rw [compTurn_dict]
 have fpk:∀ {H':Hp},(∀ b∈fp,H' b=none)->∀ b∈fp,FpOk (cxComp X scope N' cl C s₂ H₂ fp) [] H' b:=fun hn b hb=>
  ⟨hn b hb,(hfp b hb).1,(hfp b hb).2.1,.inl hb,(hfp b hb).2.2,fun p hp'=>by
   have hp'':p∈([]:List (Addr×Obj))++[]:=hp'
   exact absurd hp'' (by simp)⟩
 have fp1:=fpk fr3
 refine wpAny_bind (wpAny_standAt (wpAny_bind ?_))
 rcases turn i n σ3 H3 w3 with ⟨stop,qn⟩|⟨go,step⟩
 ·refine wpAny_mono (T.done (cxComp X scope N' cl C s₂ H₂ fp) rfl rfl rfl hcalm i _ s3 σ3 H3 (fun _ _=>False) I3 fp1 st3 stop) (fun r s4 ⟨hr,I4⟩=>?_) (fun _ _ z=>z.elim)
  subst hr
  exact wpAny_pure (hR s4 σ3 H3 I4 qn)
 ·refine wpAny_mono (T.item (cxComp X scope N' cl C s₂ H₂ fp) rfl rfl rfl hcalm i _ s3 σ3 H3 (fun _ _=>False) I3 fp1 st3 go) (fun r s4 ⟨u,hr,h4⟩=>?_) (fun _ _ z=>z.elim)
  subst hr
  refine wpAny_bind (wpAny_mono h4 (fun _ s5 ⟨x,H5,I5,r5,y5,st5,fr5⟩=>?_) (fun _ _ z=>z.elim))
  have fp5:=fpk fr5
  have I5':=I5.pinned fp5 (T.obj _ _ st5)
  refine wpAny_bind (wpAny_mono (hg _ s5 σ3 H5 x u _ I5' r5 (step x H5 y5)) (fun _ s6 ⟨σ6,H6,I6,q6⟩=>?_) (fun _ _ z=>z.elim))
  refine wpAny_bind (wpAny_mono (hc _ s6 σ6 H6 _ I6 q6) (fun ok s7 ⟨H7,I7,q7⟩=>?_) (fun _ _ z=>z.elim))
  have again:∀ {s8:Shared} {σ8:St} {H8:Hp},Inv (cxComp X scope N' cl C s₂ H₂ fp) ([]++pinsAt fp s5.heap) σ8 H8 s8->tn (i+1) s8.heap/\∀ b∈fp,H8 b=none:=fun {s8 σ8 H8} I8=>
   ⟨T.keep _ _ _ st5 fun b hb o e=>(I8.pin (b,o) (List.mem_append_right _ (List.mem_append_right _ (mem_pinsAt hb e)))).1,fun b hb=>by
    obtain ⟨o,e,d⟩:=T.obj _ _ st5 b hb
    exact (I8.pin (b,o) (List.mem_append_right _ (List.mem_append_right _ (mem_pinsAt hb e)))).2.1⟩
  cases ok with
  | false=>
    rw [if_neg Bool.false_ne_true] at q7
    obtain ⟨m',hm,w7⟩:=q7
    obtain ⟨t1,t2⟩:=again I7
    exact wpAny_pure ⟨rfl,m',hm,i+1,σ6,H7,I7.unpinned,t1,t2,w7⟩
  | true=>
    rw [if_pos rfl] at q7
    refine wpAny_bind (wpAny_bind (wpAny_mono (hk _ s7 σ6 H7 _ I7 q7) (fun y s8 ⟨yv,H8,I8,r8,q8⟩=>?_) (fun _ _ z=>z.elim)))
    refine wpAny_bind (wpAny_holding (wpAny_mono (hv _ s8 σ6 H8 _ I8 q8) (fun y2 s9 ⟨zv,H9,I9,r9,kvs,k,e9,ek,hl,m',hm,w9⟩=>?_) (fun _ _ z=>z.elim)))
    refine wpAny_bind (wpAny_standAt (wpAny_holding ?_))
    refine d_dictSet (X:=cxComp X scope N' cl C s₂ H₂ fp) I9 e9 ek hl r8 r9 fun s10 I10=>?_
    obtain ⟨t1,t2⟩:=again I10
    exact wpAny_pure ⟨rfl,m',hm,i+1,σ6,_,I10.unpinned,t1,t2,w9⟩
def tDComp (wi:TI) (g:TG) (tt:TT) (tk tv:TE) (k:Nat) (js:List Nat):TE:=fun σ H Q=>wi σ H fun J H1=>∀ acc,H1 acc=none->∃ W:Nat->Nat->St->Hp->Prop,(∃ m,W 0 m (compSt k js σ) (upd H1 acc (.dK [])))/\
 DTurn J g tt tk tv acc (fun H2=>Q (.ref acc) H2) W
section
variable {X:Cx} {scope:Scope} {own:List Str} {js:List Nat} {N':List Str} {wi:TI} {g:TG} {tt:TT} {tk tv:TE} {ke ve tg iter:Expr} {ifs:List Expr} {pos:Pos}
theorem dcomp_run {pins:List (Addr×Obj)} {σ:St} {H:Hp} {s:Shared} {it:Addr} {fp:List Addr} {tn:Nat->Heap->Prop} {J:It} {cl:List (Str×Addr)} {F:Addr->Hp->Prop} {E:Value->Shared->Prop} {RR:Value->Addr->Result->Shared->Prop}
 (S:CompScope X scope own js N') (hcalm:X.calm=true) (hg:∀ cl C s₀ H₀ ex,PG (cxComp X scope N' cl C s₀ H₀ ex) tg g) (hc:∀ cl C s₀ H₀ ex,PIfs (cxComp X scope N' cl C s₀ H₀ ex) ifs tt) (hk:∀ cl C s₀ H₀ ex,PE (cxComp X scope N' cl C s₀ H₀ ex) ke tk) (hv:∀ cl C s₀ H₀ ex,PE (cxComp X scope N' cl C s₀ H₀ ex) ve tv)
 (hc1:∀ x c,cl.lookup x=some c->X.env.cells.lookup x=some c) (hc2:∀ x,(x,NameKind.free)∈scope.names->∃ c,cl.lookup x=some c)
 (I:Inv X pins σ H s) (T:Turn X.prog X.w X.K tg J fp it tn) (st:tn 0 s.heap) (hf:∀ b∈fp,FpOk X pins H b)
 (hW:∀ acc,H acc=none->∃ W:Nat->Nat->St->Hp->Prop,(∃ m,W 0 m (compSt own.length js σ) (upd H acc (.dK [])))/\DTurn J g tt tk tv acc (F acc) W)
 (fin:∀ acc C H' s' m,Inv X pins σ H' s'->s'.heap.Ns C m->H' C=none->C≠X.env.locals->X.s₀.heap.objs.size≤C->(∀ x c,X.env.cells.lookup x=some c->c≠C)->(∀ p∈X.pn++pins,p.1≠C)->F acc H'->RR (.ref acc) C (.ok .next) s') :
 wpAny (model X.prog X.w) X.A newDict (fun acc s₃=>wpAny (model X.prog X.w) X.A (newFunctionEnv scope X.env.globals cl [] X.env.qual none .none (some X.env)) (fun cenv s₄=>
  codeAny (model X.prog X.w) X.A (.compStart (.DictComp ke ve [⟨tg,iter,ifs,0⟩] scope pos) 0 (.ref it) acc { cenv with scope:=relabel scope X.env }) (RR acc cenv.locals) s₄) E s₃) E s:=by
 refine wpAny_newObj_type (wpAny_newFunctionEnv S.nocell (by intro y hy;simp at hy) (fun h₁ hns₁ hsb₁=>?_) S.kind)
 dsimp only at hns₁ hsb₁ ⊢
 have hHA:H s.heap.objs.size=none:=I.hok.fresh (Nat.le_refl _)
 have IL:Inv X pins σ (upd H s.heap.objs.size (.dK [])) { s with heap:=s.heap.push { cls:=.type "dict",data:=.dict #[] },toks:=s.toks }:=I.laid (a:=s.heap.objs.size) (o:=.dK []) (t':=s.toks) (fun _ _ q=>Heap.get?_push_of_some _ q) (Nat.le_refl _) (dk_empty s.heap I.big)
 obtain ⟨W,⟨m0,w0⟩,turn⟩:=hW _ hHA
 have stL:tn 0 (s.heap.push { cls:=.type "dict",data:=.dict #[] }):=T.keep _ _ _ st fun b hb o e=>Heap.get?_push_of_some _ e
 have fpLt0:∀ b∈fp,b<s.heap.objs.size:=fun b hb=>by
  obtain ⟨o,e,_⟩:=T.obj _ _ st b hb
  exact Heap.lt_size e
 have hfL:∀ b∈fp,FpOk X pins (upd H s.heap.objs.size (.dK [])) b:=fun b hb=>by
  obtain ⟨f0,f⟩:=hf b hb
  exact ⟨by rw [upd_ne (Nat.ne_of_lt (fpLt0 b hb))];exact f0,f⟩
 generalize hH2:s.heap.push { cls:=.type "dict",dict:=none,data:=.dict #[] }=H2 at hns₁ hsb₁ IL stL ⊢
 have hC:H2.objs.size=s.heap.objs.size+1:=by rw [← hH2,Heap.size_push]
 generalize hHn:upd H s.heap.objs.size (.dK [])=HL at IL hfL w0
 generalize hAn:s.heap.objs.size=acc at *
 have below:∀ b,b<H2.objs.size->b≠H2.objs.size:=fun b hb=>Nat.ne_of_lt hb
 have old:∀ b o,H2.get? b=some o->h₁.get? b=some o:=fun b o e=>hsb₁.extBut b o (below b (Heap.lt_size e)) (Heap.get?_push_of_some _ e)
 generalize hCn:H2.objs.size=C at *
 have cellLt:∀ x c,X.env.cells.lookup x=some c->c<C:=fun x c e=>by
  obtain ⟨v,q⟩:=IL.cell x c e
  rw [← hCn];exact q.lt
 have pinLt:∀ p∈X.pn++pins,p.1<C:=fun p hp=>by rw [← hCn];exact Heap.lt_size (IL.pin p hp).1
 have fpLt:∀ b∈fp,b<C:=fun b hb=>Nat.lt_of_lt_of_le (fpLt0 b hb) (by rw [hC];exact Nat.le_succ _)
 have hHC:HL C=none:=IL.hok.fresh (by show H2.objs.size≤C;rw [hCn];exact Nat.le_refl _)
 have I1:Inv (cxComp X scope N' cl C { s with heap:=H2,toks:=s.toks } HL fp) [] (compSt own.length js σ) HL { s with heap:=h₁,toks:=s.toks+([]:List (Str×Value)).length }:=
  Inv.comp S IL hc1 hc2 (by show H2.objs.size≤C;rw [hCn];exact Nat.le_refl _) hns₁ old (fun b hb=>⟨hfL b hb,by show b<H2.objs.size;rw [hCn];exact fpLt b hb⟩) hHC fun b o e=>below b (by rw [← hCn];exact Heap.lt_size e)
 have st1:tn 0 h₁:=T.keep _ _ _ stL fun b hb o e=>old b o e
 have loop:∀ s₃:Shared,s₃={ s with heap:=h₁,toks:=s.toks+([]:List (Str×Value)).length }->
  codeAny (model X.prog X.w) X.A (.compLoop (.DictComp ke ve [⟨tg,iter,ifs,0⟩] scope pos) 0 (.ref it) (.ref acc) (compEnvC scope cl C X.env)) (RR (.ref acc) C) s₃:=by
  rintro s₃ rfl
  refine dcomp_loop W turn T (hg _ _ _ _ _) (hc _ _ _ _ _) (hk _ _ _ _ _) (hv _ _ _ _ _) hcalm
   (fun b hb=>⟨below b (fpLt b hb),fun z=>?_,fun x c e z=>(hfL b hb).2.2.2.2.1 x c (hc1 x c e) z⟩) ?_ I1 st1 (fun b hb=>(hfL b hb).1) w0
  ·rcases List.mem_cons.mp (IL.stkSub b z) with q|q
   ·exact (hfL b hb).2.1 q
   ·exact (hfL b hb).2.2.1 q
  ·intro s' σ' H' J' q
   obtain ⟨m,hm,_⟩:=J'.loc
   have IX:Inv X pins σ H' s':=IL.call' J'.os J'.base J'.hok J'.bare fun b hb=>⟨(hfL b hb).2.2.2.1,(hfL b hb).2.1,(hfL b hb).2.2.2.2.1,(hfL b hb).2.2.2.2.2⟩
   refine fin acc C H' s' m IX hm J'.free ?_ ?_ ?_ ?_ q
   ·exact Nat.ne_of_gt (Nat.lt_of_lt_of_le IL.lt (by show H2.objs.size≤C;rw [hCn];exact Nat.le_refl _))
   ·exact Nat.le_trans IL.sz (by show H2.objs.size≤C;rw [hCn];exact Nat.le_refl _)
   ·exact fun x c e z=>absurd (cellLt x c e) (by rw [z];exact Nat.lt_irrefl _)
   ·exact fun p hp z=>absurd (pinLt p hp) (by rw [z];exact Nat.lt_irrefl _)
 exact codeAny_compStart_dict (loop _ rfl) (T.self _ 0 _ _ _ st1 (loop _ rfl))
theorem ps_setDComp {i:Nat} {x:Str} {pos' spos:Pos} (S:CompScope X scope own js N') (hcalm:X.calm=true) (hN:X.N.Nodup) (hx:X.N[i]?=some x) (hk:X.env.scope.names.lookup x=some .local) (hi:PI X tg iter wi) (hg:∀ cl C s₀ H₀ ex,PG (cxComp X scope N' cl C s₀ H₀ ex) tg g) (hc:∀ cl C s₀ H₀ ex,PIfs (cxComp X scope N' cl C s₀ H₀ ex) ifs tt)
 (hke:∀ cl C s₀ H₀ ex,PE (cxComp X scope N' cl C s₀ H₀ ex) ke tk) (hve:∀ cl C s₀ H₀ ex,PE (cxComp X scope N' cl C s₀ H₀ ex) ve tv) (hsw:swapsWith (.DictComp ke ve [⟨tg,iter,ifs,0⟩] scope pos) (some (.Name x pos')) spos.line X.env=pure true:=by rfl) (hs:∀ x,foldedSetIterable iter X.env x=pure x:=by intro _;rfl) :
 PS X (.Assign [.Name x pos'] (.DictComp ke ve [⟨tg,iter,ifs,0⟩] scope pos) spos) (tAsg (tDComp wi g tt tk tv own.length js) (gName i)):=by
 intro pins s σ H D I h
 obtain ⟨cl,hcl,hc1,hc2⟩:=closure_ok (env:=X.env) scope fun y hy hk=>I.ok.has y.1 (S.free y hy hk)
 rw [exec_Assign_Name_used _ _ _ _ hsw]
 refine wpAny_bind (wpAny_standAt (wpAny_bind ?_))
 show wpAny _ X.A (do let _ ← comprehension (.DictComp ke ve [⟨tg,iter,ifs,0⟩] scope pos) scope X.env _ newDict false (eval iter X.env) (some (assign (.Name x pos') X.env))) _ _ s
 refine wpAny_bind (wpAny_mono (wpAny_comprehension_free (use:=some (assign (.Name x pos') X.env)) (Q:=fun _ s'=>SP X pins D .next s') rfl hs hcl S.kind S.names
  (thn (hi pins s σ H _ I h) fun v s1 h1=>thn h1 fun itv s2 h2=>?_)) (fun _ s' hq=>wpAny_pure (wpAny_pure hq)) fun _ _ e=>e)
 obtain ⟨it,fp,tn,J,H2,e,I2,T,st2,f2,hW⟩:=h2
 subst e
 refine dcomp_run (RR:=fun acc C=>compPost (model X.prog X.w) X.A X.xe (some (assign (.Name x pos') X.env)) (fun _ s'=>SP X pins D .next s') acc C) S hcalm hg hc hke hve hc1 hc2 I2 T st2 f2 hW ?_
 intro acc C H' s' m IX hm hCn hL hz hcn hpn q
 show wpAny _ X.A (assign (.Name x pos') X.env (.ref acc)) _ _ s'
 refine wpAny_assign_Name (store_ok2 IX hN hx (.inl hk) (v:=.ref acc) rfl (fun s'' I'' hsb=>?_) (.inr hk))
 obtain ⟨a,hsb,ha⟩:=hsb
 have haC:C≠a:=by
  rcases ha with z|z
  ·rw [z];exact hL
  ·exact fun q=>hcn x a z q.symm
 refine ⟨m,hm.sameBut hsb haC,fun h' hs'=>⟨_,_,?_,q⟩⟩
 exact I''.turned (t':=s''.toks) (it:=C) (fun b o hb e=>(hs'.2 b hb).trans e) hCn hL (.inr hz) hcn hpn
end
end L2
namespace L2
open PySem PySem.Spec PyProof.Rows PySem.SeqAt
theorem len1 {α:Type} {us:List α} (h:us.length=1):∃ a,us=[a]:=List.length_eq_one_iff.mp h
theorem len2 {α:Type} {us:List α} (h:us.length=2):∃ a b,us=[a,b]:=by
 cases us with
 |nil=>cases h
 | cons a r=>
   obtain ⟨b,rfl⟩:=len1 (us:=r) (by simpa using h)
   exact ⟨a,b,rfl⟩
theorem len3 {α:Type} {us:List α} (h:us.length=3):∃ a b c,us=[a,b,c]:=by
 cases us with
 |nil=>cases h
 | cons a r=>
   obtain ⟨b,c,rfl⟩:=len2 (us:=r) (by simpa using h)
   exact ⟨a,b,c,rfl⟩
theorem len4 {α:Type} {us:List α} (h:us.length=4):∃ a b c d,us=[a,b,c,d]:=by
 cases us with
 |nil=>cases h
 | cons a r=>
   obtain ⟨b,c,d,rfl⟩:=len3 (us:=r) (by simpa using h)
   exact ⟨a,b,c,d,rfl⟩
end L2
namespace L2
open PySem PySem.Spec PyProof.Rows
theorem dcomp_range {lo:Int} {n:Nat} {g:TG} {tk tv:TE} {acc:Addr} {F:Hp->Prop} {σ0:St} {H0:Hp} (Pv:Nat->St->Hp->Prop) (h0:Pv 0 σ0 H0)
 (hs:∀ i σ H,i<n->Pv i σ H->∀ N:St->Hp->Prop,(∀ σ' H',Pv (i+1) σ' H'->N σ' H')->g (.int (lo+i)) σ H fun σ2 H2=>tk σ2 H2 fun y H4=>tv σ2 H4 fun z H5=>∃ kvs k,H5 acc=some (.dK kvs)/\y=kV k/\kvs.length<sizeLine/\N σ2 (upd H5 acc (.dK (putK kvs k z))))
 (hd:∀ σ H,Pv n σ H->F H):∃ W:Nat->Nat->St->Hp->Prop,(∃ m,W 0 m σ0 H0)/\DTurn (Itr lo n) g tYes tk tv acc F W:=by
 refine ⟨fun i m σ H=>m=n-i/\i≤n/\Pv i σ H,⟨n,by simp,Nat.zero_le _,h0⟩,?_⟩
 rintro i m σ H ⟨rfl,hi,p⟩
 by_cases hlt:i<n
 ·refine .inr ⟨hlt,fun x H' y=>?_⟩
  obtain ⟨e,y⟩:=y
  subst e y
  exact hs i σ _ hlt p (fun σ' H'=>∃ m',m'<n-i/\m'=n-(i+1)/\i+1≤n/\Pv (i+1) σ' H') fun σ' H' q=>⟨n-(i+1),by omega,rfl,hlt,q⟩
 ·have e:i=n:=by omega
  subst e
  exact .inl ⟨Nat.le_refl _,hd σ H p⟩
theorem dget_int {H:Hp} {p:Addr} {kvs:List (Key×V)} {v:Int} {x:V} (h:H p=some (.dK kvs)) (e:valV kvs (.inl v)=some x):DGet H p (.int v) (some x):=by
 rw [← e];exact DGet.k (k:=Sum.inl v) h
theorem putK_old {kvs:List (Key×V)} {k:Key} {x v:V} (h:valV kvs k=some x):(putK kvs k v).length=kvs.length:=by
 unfold putK
 rw [if_pos ?_,List.length_map]
 unfold valV at h
 cases e:kvs.find? fun kv=>decide (kv.1=k) with
 |none=>rw [e] at h;cases h
 | some q=>
   rw [List.any_eq_true]
   exact ⟨q,List.mem_of_find?_eq_some e,by simpa using List.find?_some e⟩
theorem vals_nums:∀ {ns:List Int} {us:List Value},Vals (ns.map V.int) us->∃ ps:List (Int×Tok),us=ps.map (fun p=>Value.int p.1 p.2)/\ps.map (·.1)=ns
 |[],_,r=>by rw [List.map_nil] at r;cases r;exact ⟨[],rfl,rfl⟩
 | n::ns,_,r=>by
   rw [List.map_cons] at r
   cases r with
   | cons h t=>
     obtain ⟨tk,rfl⟩:=(show ∃ t,_=Value.int n t from h)
     obtain ⟨ps,e1,e2⟩:=vals_nums t
     exact ⟨(n,tk)::ps,by rw [e1];rfl,by rw [List.map_cons,e2]⟩
section
variable {X:Cx}
end
theorem comp_listF {K:PySem.W.Frag} {a:Addr} {xs:List V} {g:TG} {tt:TT} {te:TE} {F:List V->Hp->Prop} {σ0:St} {H0:Hp} (Pv:Nat->List V->St->Hp->Prop) (hn:xs.length≤sizeLine) (h0:Pv 0 [] σ0 H0) (hq:∀ i ys σ H,i≤xs.length->Pv i ys σ H->SqL K H a xs)
 (hs:∀ i x ys σ H,xs[i]?=some x->Pv i ys σ H->∀ N:List V->St->Hp->Prop,(∀ ys' σ' H',Pv (i+1) ys' σ' H'->ys'.length≤ys.length+1->N ys' σ' H')->g x σ H fun σ2 H2=>tt σ2 H2 fun b H3=>if b=true then te σ2 H3 fun y H4=>N (ys++[y]) σ2 H4 else N ys σ2 H3)
 (hd:∀ ys σ H,ys.length≤xs.length->Pv xs.length ys σ H->F ys H) :
 ∃ W:Nat->Nat->List V->St->Hp->Prop,(∃ m,W 0 m [] σ0 H0)/\CTurn (Itl K a) g tt te F W:=by
 refine ⟨fun i m ys σ H=>m=xs.length-i/\i≤xs.length/\ys.length≤i/\Pv i ys σ H,⟨xs.length,by simp,Nat.zero_le _,Nat.zero_le _,h0⟩,?_⟩
 rintro i m ys σ H ⟨rfl,hi,hl,p⟩
 have q:=hq i ys σ H hi p
 by_cases hlt:i<xs.length
 ·refine .inr ⟨⟨xs,xs[i],q,by simp [hlt]⟩,by omega,fun x H' y=>?_⟩
  obtain ⟨e,y⟩:=y
  subst e
  refine hs i x ys σ _ (y xs q) p (fun ys' σ' H'=>∃ m',m'<xs.length-i/\m'=xs.length-(i+1)/\i+1≤xs.length/\ys'.length≤i+1/\Pv (i+1) ys' σ' H') fun ys' σ' H' q hl'=>⟨xs.length-(i+1),by omega,rfl,hlt,by omega,q⟩
 ·have e:i=xs.length:=by omega
  subst e
  exact .inl ⟨⟨xs,q,Nat.le_refl _⟩,hd ys σ H hl p⟩
end L2
namespace L2
open PySem PySem.Spec PyProof.Rows PySem.SeqAt
def EvE (t:TE) (σ:St) (H:Hp) (v:V):Prop:=∀ Q:VK,Q v H->t σ H Q
def EvR (r:R2) (x y:V) (H:Hp) (v:V):Prop:=∀ Q:VK,Q v H->r x y H Q
section
variable {σ:St} {H:Hp} {ta tb tc:TE} {t u:TT} {x y z v:V} {r r':R2} {k k':Bool} {f:TF} {m n:Nat}
theorem EvE.var {i:Nat} (h:σ[i]?=some (some v)):EvE (tVar i) σ H v:=fun Q q=>⟨v,h,q⟩
theorem EvE.con:EvE (tC v) σ H v:=fun Q q=>q
theorem EvE.op (a:EvE ta σ H x) (b:EvE tb σ H y) (c:EvR r x y H v):EvE (tOp r ta tb) σ H v:=fun Q q=>a _ (b _ (c _ q))
theorem EvR.i0 {g:Int->Int->V} {i j:Int}:EvR (rI0 g) (.int i) (.int j) H (g i j):=fun Q q=>⟨i,j,rfl,rfl,q⟩
theorem EvR.eq (h:scal x y=true):EvR rEq x y H (.bl (decide (x=y))):=fun Q q=>⟨h,q⟩
theorem EvE.chain (a:EvE ta σ H x) (b:EvE tb σ H y) (c:EvE tc σ H z) (h:EvR r x y H (.bl k)) (h':EvR r' y z H (.bl k')):EvE (tChain r r' ta tb tc) σ H (.bl (k && k')):=fun Q q=>a _ (b _ (h _ ⟨k,rfl,by
 cases k with
 |false=>exact ifF rfl q
 |true=>exact ifT rfl (c _ (h' _ q))⟩))
end
variable {X:Cx}
def rNeL (K:PySem.W.Frag):R2:=fun x y H Q=>∃ d e,Rep K H x (.list d)/\Rep K H y (.list e)/\pdDeps d≤60/\Q (.bl (!pdEqs d e)) H
theorem op_neL (hu:X.A.units+64<cLine):OpR X (compareOp .NotEq) (rNeL X.K):=by
 intro pins s σ H x y v u Q I rx ry h
 obtain ⟨d,e,h1,h2,hd,q⟩:=h
 cases h1 with
 | lst g1 rs1=>
   cases h2 with
   | lst g2 rs2=>
     cases (show v=Value.ref _ from rx)
     cases (show u=Value.ref _ from ry)
     obtain ⟨its1,rv1,p1,_⟩:=I.list g1
     obtain ⟨its2,rv2,p2,_⟩:=I.list g2
     have hz:=allEq (X:=X) (H:=H) (A:=X.A) rs1 rs2 rv1 rv2
     by_cases hs:its1.toArray.size=its2.toArray.size
     ·have hw:=RcNeAt.lists (A:=X.A) p1.isList p2.isList hs (by omega)
       (e:=fun j=>pdEq (d.getD j .none) (e.getD j .none)) (fun j h1 h2=>by simpa using eqs_at I rs1 rs2 rv1 rv2 (A:=X.A.in1) (by show X.A.units+1+_<_;omega) j (by simpa using h1) (by simpa using h2))
      rw [← hs,Nat.min_self,beq_self_eq_true,Bool.and_true] at hz
      rw [hz] at hw
      exact hw _ _ _ _ ⟨.bl _,H,I,rfl,q⟩
     ·have hw:=RcNeAt.lists_lengths (A:=X.A) p1.isList p2.isList (by simpa using hs) (by omega)
      have:pdEqs d e=false:=by
       rw [← hz,beq_eq_false_iff_ne.mpr hs,Bool.and_false]
      rw [this] at q
      exact hw _ _ _ _ ⟨.bl _,H,I,rfl,q⟩
section
variable {σ:St} {H:Hp} {ta tb:TE} {k k':Bool} {x y:V}
theorem EvR.ne (h:scal x y=true):EvR rNe x y H (.bl (!decide (x=y))):=fun Q q=>⟨h,q⟩
end
section
variable {X:Cx}
end
section
variable {X:Cx}
end
section
variable {X:Cx}
end
end L2
namespace L2
open PySem PySem.Spec PyProof.Rows
section
variable {X:Cx} {pins:List (Addr×Obj)} {σ:St} {H:Hp} {s:Shared}
end
section
variable {X:Cx} {scope:Scope} {own:List Str} {js:List Nat} {N':List Str} {wi:TI} {g:TG} {tt:TT} {te:TE} {elt tg iter:Expr} {ifs:List Expr} {pos:Pos}
end
end L2
namespace L2
open PySem
theorem pi_listK {X:Cx} {tg l:Expr} {tl:TE} {K:PySem.W.Frag} (hK:X.K=K) (hl:PE X l tl):PI X tg l (iList K tl):=by
 subst hK
 exact pi_list hl
end L2
namespace L2
open PySem PySem.Spec PyProof.Rows PySem.SeqAt
section
variable {prog:Program} {w:World} {A:Around} {E:Value->Shared->Prop} {s:Shared}
end
section
variable {prog:Program} {w:World} {A:Around} {E:Value->Shared->Prop} {s:Shared}
end
variable {X:Cx}
end L2
namespace L2
open PySem PySem.Spec PyProof.Rows PySem.W PyProof.V
section
variable {X:Cx} {pins:List (Addr×Obj)} {σ:St} {H:Hp} {s:Shared} {a:Addr} {D:List (Str×PyData)}
end
end L2
namespace L2
open PySem PySem.Spec PyProof.Rows PySem.SeqAt PySem.Builtin PySem.Builtin.Str
section
variable {X:Cx}
end
end L2
namespace L2
open PySem PySem.Spec PyProof.Rows PySem.SeqAt
section
variable {X:Cx}
end
section
variable {X:Cx}
theorem op_isnotB:OpR X (compareOp .IsNot) (fun x y H Q=>∃ b c,x=.bl b/\y=.bl c/\Q (.bl (!(b == c))) H):=by
 intro pins s σ H x y v u Q I rx ry h
 obtain ⟨b,c,rfl,rfl,q⟩:=h
 cases (show v=Value.bool b from rx)
 cases (show u=Value.bool c from ry)
 cases b <;> cases c <;> exact (show wpAny _ _ (pure (Value.bool _)) _ _ s from wpAny_pure ⟨.bl _,H,I,rfl,q⟩)
end
end L2
namespace L2
open PySem PySem.Spec PyProof.Rows PySem.SeqAt PySem.Builtin PySem.Builtin.Str
section
variable {X:Cx}
end
section
variable {X:Cx}
end
section
variable {X:Cx}
end
section
variable {X:Cx}
end
end L2
namespace L2
open PySem PySem.Spec PyProof.Rows PySem.SeqAt
section
variable {X:Cx}
end
section
variable {X:Cx} {pins:List (Addr×Obj)} {σ:St} {H:Hp} {s:Shared} {h':Heap}
theorem drawsI {prog:Program} {w:World} {A:Around} (hh:A.handled=none) (it l:Addr) (hne:l≠it) (items:Array Value) (i0:Nat) (h0:items.size≤i0):Draws prog w A it [it,l] 0 (fun i v=>False) (fun i h=>h.IsListIter it l i0/\h.IsList l items) where
 live:=fun _ _ st=>let ⟨o,ho,_⟩:=st.1;⟨o,ho⟩
 frame:=fun _ _ _ st hk=>⟨st.1.at fun o e=>hk it (by simp) o e,st.2.at fun o e=>hk l (by simp) o e⟩
 item:=fun i s Q E hi=>absurd hi (Nat.not_lt_zero _)
 done:=fun s Q E st hE=>wpAny_nextOf_list_end hh st.1 st.2 (by simp [h0]) hE
def IteL (K:PySem.W.Frag) (a:Addr):It:=
 ⟨fun i H=>∃ xs x,SqL K H a xs/\xs[i]?=some x,fun i H v H'=>∃ p x,H p=none/\v=.ref p/\(∀ xs,SqL K H a xs->xs[i]?=some x)/\H'=upd H p (.tup [.int i,x]),fun i H=>∃ xs,SqL K H a xs/\xs.length≤i⟩
theorem turn_enumL {P:Program} {w:World} {K:PySem.W.Frag} {elts:List Expr} {k1} {pos:Pos} (a e it:Addr) (hei:e≠it):Turn P w K (.Tuple elts k1 pos) (IteL K a) [e,it] e (fun i h=>(∃ old,IsEnum h e it i old)/\h.IsListIter it a i) where
 mem:=by simp
 obj:=fun i h st b hb=>by
  obtain ⟨⟨old,h1⟩,o,h2,_,h3⟩:=st
  rcases List.mem_cons.mp hb with rfl|hb
  ·exact ⟨_,h1,fun v z=>by cases (show Data.fields _=Data.cell v from z)⟩
  ·cases List.mem_singleton.mp hb
   exact ⟨o,h2,fun v z=>by rw [h3] at z;cases z⟩
 keep:=fun i h h' st k=>⟨let ⟨old,h1⟩:=st.1;⟨old,k e (by simp) _ h1⟩,st.2.at fun o z=>k it (by simp) o z⟩
 item:=by
  intro X hP hw hK hc i pins s σ H E I hf st hg
  subst hP hw hK
  obtain ⟨xs,x,hq,hx⟩:=hg
  obtain ⟨its,rv,p,hz⟩:=I.list hq
  obtain ⟨u,hu,ru⟩:=rv.get hx
  obtain ⟨⟨old,he⟩,ht⟩:=st
  have hit:s.heap.IsList a its.toArray:=p.isList
  have han:a≠it:=by
   rintro rfl
   obtain ⟨o1,h1,h2,_⟩:=id hit
   obtain ⟨o2,h3,h4,_⟩:=id ht
   rw [h1] at h3;cases h3
   rw [h2] at h4;exact absurd (Value.type.inj h4) (by decide)
  have hae:a≠e:=by
   rintro rfl
   obtain ⟨o1,h1,h2,_⟩:=id hit
   rw [he] at h1;cases h1
   exact absurd (Value.type.inj h2) (by decide)
  have D:=Draws.list (prog:=X.prog) (w:=X.w) (A:=X.A.in1) (I.ok.hd hc) it a han its.toArray
  have hlt:i<its.toArray.size:=by
   have:=(List.getElem?_eq_some_iff.mp hx).1
   have hl:=rv.length
   rw [List.size_toArray];omega
  refine wpAny_pyNext_enum_itemD D he ⟨ht,hit⟩ hlt hei (by simp [hei,Ne.symm hae]) fun y g tk hy ho hst' htup hsz hk=>?_
  have e1:y=u:=by
   have:its.toArray[i]?=some u:=by simpa using hu
   rw [this] at hy;exact (Option.some.inj hy).symm
  subst e1
  refine ⟨_,rfl,?_⟩
  have helt:e<s.heap.objs.size:=Heap.lt_size he
  have hilt:it<s.heap.objs.size:=let ⟨o,z,_⟩:=ht;Heap.lt_size z
  have I1:Inv X pins σ (upd H s.heap.objs.size (.tup [.int i,x])) { s with heap:=g,toks:=tk+1 }:=by
   refine I.turnLaid (fp:=[e,it]) (fun b o hb z=>hk b o (fun q=>hb (by simp [q])) (fun q=>hb (by simp [q])) z) (fun b hb=>?_) hf (Nat.le_refl _) ?_
   ·rcases List.mem_cons.mp hb with rfl|hb
    ·exact ⟨_,ho⟩
    ·cases List.mem_singleton.mp hb
     exact let ⟨o,z,_⟩:=hst'.1;⟨o,z⟩
   ·exact ⟨by show 2≤sizeLine;decide,[.int i tk,y],.cons ⟨_,rfl⟩ (.cons ru .nil),⟨_,htup,rfl,_,rfl⟩⟩
  have hno:∀ b∈[e,it],(upd H s.heap.objs.size (.tup [.int i,x])) b=none:=fun b hb=>by
   have hbl:b<s.heap.objs.size:=by
    rcases List.mem_cons.mp hb with rfl|hb
    ·exact helt
    ·cases List.mem_singleton.mp hb;exact hilt
   rw [upd_ne (Nat.ne_of_lt hbl)]
   exact (hf b hb).1
  refine wpAny_letOwnedTupleGo_enum ho fun g2 he2 hs2=>?_
  obtain ⟨f0,f1,f2,f3,f4,f5⟩:=hf e (by simp)
  refine ⟨.ref s.heap.objs.size,_,I1.turned (t':=tk+1) (fun b o hb z=>(hs2.2 b hb).trans z) (hno e (by simp)) f1 f3 f4 f5,rfl,⟨s.heap.objs.size,x,I.hok.fresh (Nat.le_refl _),rfl,fun ys hy=>by rw [I.list_inj hy hq];exact hx,rfl⟩,⟨⟨_,by simpa using he2⟩,?_⟩,hno⟩
  exact hst'.1.at fun o z=>(hs2.2 it (Ne.symm hei)).trans z
 done:=by
  intro X hP hw hK hc i pins s σ H E I hf st hg
  subst hP hw hK
  obtain ⟨xs,hq,hx⟩:=hg
  obtain ⟨its,rv,p,hz⟩:=I.list hq
  obtain ⟨⟨old,he⟩,ht⟩:=st
  obtain ⟨f0,f1,f2,f3,f4,f5⟩:=hf it (by simp)
  have hl:=rv.length
  have hit:s.heap.IsList a its.toArray:=p.isList
  have han:a≠it:=by
   rintro rfl
   obtain ⟨o1,h1,h2,_⟩:=id hit
   obtain ⟨o2,h3,h4,_⟩:=id ht
   rw [h1] at h3;cases h3
   rw [h2] at h4;exact absurd (Value.type.inj h4) (by decide)
  have D:=drawsI (prog:=X.prog) (w:=X.w) (A:=X.A.in1) (I.ok.hd hc) it a han its.toArray i (by rw [List.size_toArray];omega)
  exact wpAny_pyNext_enum_endD D he ⟨ht,hit⟩ fun h' ex=>⟨rfl,I.turned (t':=s.toks) (fun b o hb e=>ex b o hb e) f0 f1 f3 f4 f5⟩
 self:=fun _ _ _ _ _ st h=>let ⟨_,he⟩:=st.1;wpAny_pyIter_enum he h
def iEnumL (K:PySem.W.Frag) (ta:TA):TI:=fun σ H R=>ta σ H fun vs H1=>∃ a,vs=[.ref a]/\(∃ xs,SqL K H1 a xs)/\R (IteL K a) H1
theorem pi_enumL {elts:List Expr} {k1} {pt:Pos} {a:Expr} {ta:TA} {p pos:Pos} (hg:Gl X "enumerate") (hm:X.mg "enumerate" = none) (hv:bootBuiltins "enumerate" = some (.type "enumerate")) (ha:PA X [a] ta) (hs:starEach [a] X.env=[(false,eval a X.env)]:=by rfl):PI X (.Tuple elts k1 pt) (.Call (.Name "enumerate" p) [a] [] pos) (iEnumL X.K ta):=by
 intro pins s σ H R I h
 refine Call_ (ld_blt I hg hm hv (PyProof.Rows.callWith_type1 (thn (ha pos pins s σ H _ I h) fun us s1 ⟨vs,H1,I1,r1,q1⟩=>?_) hs rfl))
 obtain ⟨l,rfl,⟨xs,hq⟩,q⟩:=q1
 obtain ⟨u,rfl,e⟩:=vals1 r1
 cases (show u=Value.ref l from e)
 obtain ⟨its,rv,hp,hz⟩:=I1.list hq
 refine call_enumerate_list hp.isList fun g he hi _ hk=>wpAny_pyIter_enum he ?_
 refine ⟨s1.heap.objs.size+1,[s1.heap.objs.size+1,s1.heap.objs.size],_,_,H1,rfl,I1.kept (t':=s1.toks) hk,turn_enumL l _ s1.heap.objs.size (Nat.succ_ne_self _),⟨⟨_,he⟩,hi⟩,fun b hb=>?_,q⟩
 rcases List.mem_cons.mp hb with rfl|hb
 ·exact I1.fpOk (Nat.le_succ _) (I1.hok.fresh (Nat.le_succ _))
 ·cases List.mem_singleton.mp hb
  exact I1.fpOk (Nat.le_refl _) (I1.hok.fresh (Nat.le_refl _))
end
end L2
namespace L2
open PySem PySem.Spec PyProof.Rows PySem.SeqAt PySem.Builtin PySem.Builtin.Str
section
variable {X:Cx}
end
section
variable {prog:Program} {w:World} {A:Around} {E:Value->Shared->Prop} {s:Shared} {l:Addr}
end
section
variable {X:Cx} {pos:Pos}
end
end L2
namespace L2
open PySem PySem.Spec PyProof.Rows PySem.SeqAt PySem.Builtin
variable {X:Cx} {pos:Pos}
end L2
namespace L2
open PySem PySem.Spec PyProof.Rows PySem.SeqAt PySem.W Builtin.ObjectAttr
end L2
namespace L2
open PySem PySem.Spec PyProof.Rows PySem.SeqAt PySem.W
variable {X:Cx}
end L2
namespace L2
open PySem PySem.Spec PyProof.Rows
def CTurnS (J:It) (g:TG) (tt:TT) (te:TE) (F:List V->St->Hp->Prop) (W:Nat->Nat->List V->St->Hp->Prop):Prop:=
 ∀ i m ys σ H,W i m ys σ H->(J.stop i H/\F ys σ H)∨(J.go i H/\ys.length<sizeLine/\∀ x H1,J.yld i H x H1->g x σ H1 fun σ2 H2=>tt σ2 H2 fun b H3=>
   if b=true then te σ2 H3 fun y H4=>∃ m',m'<m/\W (i+1) m' (ys++[y]) σ2 H4 else ∃ m',m'<m/\W (i+1) m' ys σ2 H3)
def CTurn2 (J:It) (g:TG) (tt:TT) (wi2:TI) (g2:TG) (tt2:TT) (te:TE) (F:List V->Hp->Prop) (W:Nat->Nat->List V->St->Hp->Prop):Prop:=
 ∀ i m ys σ H,W i m ys σ H->(J.stop i H/\F ys H)∨(J.go i H/\∀ x H1,J.yld i H x H1->g x σ H1 fun σ2 H2=>tt σ2 H2 fun b H3=>
   if b=true then wi2 σ2 H3 fun J2 H4=>∃ W2:Nat->Nat->List V->St->Hp->Prop,(∃ m2,W2 0 m2 ys σ2 H4)/\CTurnS J2 g2 tt2 te (fun ys' σ' H'=>∃ m',m'<m/\W (i+1) m' ys' σ' H') W2
   else ∃ m',m'<m/\W (i+1) m' ys σ2 H3)
theorem compTurn_in (elt:Expr) (g0:Comprehension) (target iter:Expr) (ifs:List Expr) (scope:Scope) (pos:Pos) (it acc:Value) (env:Env) :
 compTurn (.ListComp elt [g0,⟨target,iter,ifs,0⟩] scope pos) 1 it acc env=(do
  standAt iter.pos
  match ← pyNext it with
  |none=>pure (.done .next)
  | some v=>
    letOwnedTupleGo target it v
    assign target env v
    let mut ok:=true
    for c in ifs do
     if ok then ok ← isTrue c env (eval c env)
    if ok then
     (do let _ ← call (.builtin "list.append") [acc,← eval elt env])
    again (.compLoop (.ListComp elt [g0,⟨target,iter,ifs,0⟩] scope pos) 1 it acc env)):=by rfl
theorem compTurn_out (elt target iter:Expr) (ifs:List Expr) (target2 iter2:Expr) (ifs2:List Expr) (scope:Scope) (pos:Pos) (it acc:Value) (env:Env) :
 compTurn (.ListComp elt [⟨target,iter,ifs,0⟩,⟨target2,iter2,ifs2,0⟩] scope pos) 0 it acc env=(do
  standAt iter.pos
  match ← pyNext it with
  |none=>pure (.done .next)
  | some v=>
    letOwnedTupleGo target it v
    assign target env v
    let mut ok:=true
    for c in ifs do
     if ok then ok ← isTrue c env (eval c env)
    if ok then
     let x ← eval iter2 env
     standAt iter2.pos
     let x ← foldedSetIterable iter2 env x
     let _ ← runOwn (.compStart (.ListComp elt [⟨target,iter,ifs,0⟩,⟨target2,iter2,ifs2,0⟩] scope pos) 1 (← holding [x] (pyIter x)) acc env) env
    again (.compLoop (.ListComp elt [⟨target,iter,ifs,0⟩,⟨target2,iter2,ifs2,0⟩] scope pos) 0 it acc env)):=by rfl
theorem codeAny_compStart_in {prog:Program} {w:World} {A:Around} {R:Result->Shared->Prop} {s:Shared} {elt g0 target iter ifs scope pos it acc env}
 (h0:codeAny (model prog w) A (.compLoop (.ListComp elt [g0,⟨target,iter,ifs,0⟩] scope pos) 1 it acc env) R s)
 (h:wpAny (model prog w) A (pyIter it) (fun it' s'=>codeAny (model prog w) A (.compLoop (.ListComp elt [g0,⟨target,iter,ifs,0⟩] scope pos) 1 it' acc env) R s')
  (notedBy (model prog w) A env fun x s'=>R (.error x) s') s) :
 codeAny (model prog w) A (.compStart (.ListComp elt [g0,⟨target,iter,ifs,0⟩] scope pos) 1 it acc env) R s:=by
 refine codeAny_of_tree ?_
 show wpAny _ _ ((compStart (.ListComp elt [g0,⟨target,iter,ifs,0⟩] scope pos) 1 it acc env).onRaise (fun x=>do noteFrame x env;standAt theWindowsPlace)) _ _ s
 refine wpAny_notedAt ?_
 unfold compStart
 show wpAny _ _ (ask >>= _) _ _ s
 refine wpAny_bind (wpAny_askSetting (wpAny_ite ?_))
 split
 ·first
   |exact wpAny_bind (wpAny_pure (wpAny_pure (And.intro rfl h0)))
   |exact wpAny_pure (And.intro rfl h0)
 ·first
   |exact wpAny_bind (wpAny_rule (wpAny_bind (wpAny_standAt (wpAny_bind (wpAny_mono h (fun it' s' h'=>wpAny_pure (And.intro rfl h')) fun _ _ x=>x)))))
   |(refine wpAny_bind (wpAny_rule ?_);show wpAny _ _ (standAt iter.pos >>= _) _ _ s;exact wpAny_bind (wpAny_standAt (wpAny_bind (wpAny_mono h (fun it' s' h'=>wpAny_pure (And.intro rfl h')) fun _ _ x=>x))))
theorem comp_inner {Y:Cx} {ps:List (Addr×Obj)} {acc it:Addr} {fp:List Addr} {tn:Nat->Heap->Prop} {J:It} {g:TG} {tt:TT} {te:TE} {F:List V->St->Hp->Prop}
 {elt tg iter:Expr} {g0:Comprehension} {ifs:List Expr} {scope:Scope} {pos:Pos} {R:Result->Shared->Prop} (W:Nat->Nat->List V->St->Hp->Prop) (turn:CTurnS J g tt te F W) (T:Turn Y.prog Y.w Y.K tg J fp it tn)
 (hg:PG Y tg g) (hc:PIfs Y ifs tt) (he:PE Y elt te) (hcalm:Y.calm=true) (hx:∀ v s,¬ Y.xe v s)
 (hfp:∀ b∈fp,b≠Y.env.locals/\b∉Y.fs/\(b∈Y.ex∨Y.s₀.heap.objs.size≤b)/\(∀ x c,Y.env.cells.lookup x=some c->c≠b)/\(∀ p∈Y.pn++ps,p.1≠b)/\b≠acc)
 (hacc:acc≠Y.env.locals/\acc∉Y.fs/\(acc∈Y.ex∨Y.s₀.heap.objs.size≤acc)/\(∀ x c,Y.env.cells.lookup x=some c->c≠acc)/\∀ p∈Y.pn++ps,p.1≠acc)
 (hR:∀ s' σ' H' ys us k,Inv Y ((acc,accObj us k)::ps) σ' H' s'->Vals ys us->F ys σ' H'->R (.ok .next) s')
 {s:Shared} {σ:St} {H:Hp} {m:Nat} {ys0:List V} {us0:List Value} {k0:Nat} (rv0:Vals ys0 us0) (I:Inv Y ((acc,accObj us0 k0)::ps) σ H s) (st:tn 0 s.heap) (fr:∀ b∈fp,H b=none) (w0:W 0 m ys0 σ H) :
 codeAny (model Y.prog Y.w) Y.A (.compLoop (.ListComp elt [g0,⟨tg,iter,ifs,0⟩] scope pos) 1 (.ref it) (.ref acc) Y.env) R s:=by
 refine codeAny_loop rfl (fun n s'=>∃ i ys us k σ' H',Vals ys us/\Inv Y ((acc,accObj us k)::ps) σ' H' s'/\tn i s'.heap/\(∀ b∈fp,H' b=none)/\W i n ys σ' H') (fun n s3 hI=>?_) m ⟨0,ys0,us0,k0,σ,H,rv0,I,st,fr,w0⟩
 obtain ⟨i,ys,us,k,σ3,H3,rv,I3,st3,fr3,w3⟩:=hI
 show wpAny _ Y.A ((compTurn (.ListComp elt [g0,⟨tg,iter,ifs,0⟩] scope pos) 1 (.ref it) (.ref acc) Y.env).onRaise (fun x=>do noteFrame x Y.env;theTreesLotGoes x)) _ _ s3
 refine wpAny_noted ?_
 rw [compTurn_in]
 have fpk:∀ {H':Hp},(∀ b∈fp,H' b=none)->∀ b∈fp,FpOk Y ((acc,accObj us k)::ps) H' b:=fun hn b hb=>
  ⟨hn b hb,(hfp b hb).1,(hfp b hb).2.1,(hfp b hb).2.2.1,(hfp b hb).2.2.2.1,fun p hp'=>by
   rcases List.mem_append.mp hp' with z|z
   ·exact (hfp b hb).2.2.2.2.1 p (List.mem_append_left _ z)
   ·rcases List.mem_cons.mp z with rfl|z
    ·exact Ne.symm (hfp b hb).2.2.2.2.2
    ·exact (hfp b hb).2.2.2.2.1 p (List.mem_append_right _ z)⟩
 have fp1:=fpk fr3
 refine wpAny_bind (wpAny_standAt (wpAny_bind ?_))
 rcases turn i n ys σ3 H3 w3 with ⟨stop,qn⟩|⟨go,hz,step⟩
 ·refine wpAny_mono (T.done Y rfl rfl rfl hcalm i _ s3 σ3 H3 (fun _ _=>False) I3 fp1 st3 stop) (fun r s4 ⟨hr,I4⟩=>?_) (fun _ _ z=>z.elim)
  subst hr
  exact wpAny_pure (hR s4 σ3 H3 ys us k I4 rv qn)
 ·refine wpAny_mono (T.item Y rfl rfl rfl hcalm i _ s3 σ3 H3 (fun _ _=>False) I3 fp1 st3 go) (fun r s4 ⟨u,hr,h4⟩=>?_) (fun _ _ z=>z.elim)
  subst hr
  refine wpAny_bind (wpAny_mono h4 (fun _ s5 ⟨x,H5,I5,r5,y5,st5,fr5⟩=>?_) (fun _ _ z=>z.elim))
  have fp5:=fpk fr5
  have I5':=I5.pinned fp5 (T.obj _ _ st5)
  refine wpAny_bind (wpAny_mono (hg _ s5 σ3 H5 x u _ I5' r5 (step x H5 y5)) (fun _ s6 ⟨σ6,H6,I6,q6⟩=>?_) (fun v s z=>(hx v s z).elim))
  refine wpAny_bind (wpAny_mono (hc _ s6 σ6 H6 _ I6 q6) (fun ok s7 ⟨H7,I7,q7⟩=>?_) (fun v s z=>(hx v s z).elim))
  have again:∀ {s8:Shared} {σ8:St} {H8:Hp},Inv Y (((acc,accObj us k)::ps)++pinsAt fp s5.heap) σ8 H8 s8->tn (i+1) s8.heap/\∀ b∈fp,H8 b=none:=fun {s8 σ8 H8} I8=>
   ⟨T.keep _ _ _ st5 fun b hb o e=>(I8.pin (b,o) (List.mem_append_right _ (List.mem_append_right _ (mem_pinsAt hb e)))).1,fun b hb=>by
    obtain ⟨o,e,d⟩:=T.obj _ _ st5 b hb
    exact (I8.pin (b,o) (List.mem_append_right _ (List.mem_append_right _ (mem_pinsAt hb e)))).2.1⟩
  cases ok with
  | false=>
    rw [if_neg Bool.false_ne_true] at q7
    obtain ⟨m',hm,w7⟩:=q7
    obtain ⟨t1,t2⟩:=again I7
    exact wpAny_pure ⟨rfl,m',hm,i+1,ys,us,k,σ6,H7,rv,I7.unpinned,t1,t2,w7⟩
  | true=>
    rw [if_pos rfl] at q7
    refine wpAny_bind (wpAny_bind (wpAny_mono (he _ s7 σ6 H7 _ I7 q7) (fun y s8 ⟨yv,H8,I8,r8,m',hm,w8⟩=>?_) (fun v s z=>(hx v s z).elim)))
    obtain ⟨t1,t2⟩:=again I8
    obtain ⟨e8,n8,l8,f8,d8⟩:=I8.pin (acc,accObj us k) (List.mem_append_right _ (List.mem_append_left _ List.mem_cons_self))
    have hlen:=rv.length
    have hz':us.toArray.size≤sizeLine:=by rw [List.size_toArray];omega
    refine wpAny_bind (call_meets PySem.F.slot_list_append ⟨_,e8,rfl⟩ PySem.F.entry_list_append (PySem.F.args_list_append_2 _ _) (PySem.list_append acc us.toArray k y hz') ⟨e8,?_⟩)
    have q:=PySem.IsL.update e8 (fun z=>z.push y)
    have I9:Inv Y ps σ6 H8 s8:=I8.pins_of fun p hp=>I8.pin p (List.mem_append_right _ (List.mem_append_left _ (List.mem_cons_of_mem _ hp)))
    have I10:=I9.turned (t':=s8.toks) (it:=acc) (h':=s8.heap.update acc (Obj.mapSeq fun z=>z.push y)) (fun b o hb e=>(Heap.get?_update_other s8.heap _ (Ne.symm hb)).trans e) n8 hacc.1 hacc.2.2.1 hacc.2.2.2.1 hacc.2.2.2.2
    have e':(us.toArray.push y)=(us++[y]).toArray:=by simp
    rw [e'] at q
    obtain ⟨k9,ek⟩:∃ k9,k9=(if ((us++[y]).toArray.size == us.toArray.size)=true then k else k+1):=⟨_,rfl⟩
    rw [← ek] at q
    have I11:=I10.pins_of (pins':=(acc,accObj (us++[y]) k9)::ps) fun p hp=>by
     rcases List.mem_cons.mp hp with rfl|hp
     ·exact ⟨q,n8,hacc.1,hacc.2.1,fun v z=>by cases z⟩
     ·exact I10.pin p (List.mem_append_right _ hp)
    refine wpAny_pure (wpAny_pure ⟨rfl,m',hm,i+1,ys++[yv],us++[y],k9,σ6,H8,rv.append (.cons r8 .nil),I11,T.keep _ _ _ t1 fun b hb o e=>?_,t2,w8⟩)
    exact (Heap.get?_update_other s8.heap _ (hfp b hb).2.2.2.2.2.symm).trans e
theorem comp_loop2 {X:Cx} {scope:Scope} {N':List Str} {cl:List (Str×Addr)} {C acc it:Addr} {s₂:Shared} {H₂:Hp} {fp:List Addr} {tn:Nat->Heap->Prop} {J:It} {g g2:TG} {tt tt2:TT} {wi2:TI} {te:TE} {F:List V->Hp->Prop}
 {elt tg iter tg2 iter2:Expr} {ifs ifs2:List Expr} {pos:Pos} {R:Result->Shared->Prop} (W:Nat->Nat->List V->St->Hp->Prop) (turn:CTurn2 J g tt wi2 g2 tt2 te F W) (T:Turn X.prog X.w X.K tg J fp it tn)
 (hg:PG (cxComp X scope N' cl C s₂ H₂ fp) tg g) (hc:PIfs (cxComp X scope N' cl C s₂ H₂ fp) ifs tt) (hi2:PI (cxComp X scope N' cl C s₂ H₂ fp) tg2 iter2 wi2) (hs2:∀ x,foldedSetIterable iter2 (compEnvC scope cl C X.env) x=pure x) (hg2:PG (cxComp X scope N' cl C s₂ H₂ fp) tg2 g2) (hc2:PIfs (cxComp X scope N' cl C s₂ H₂ fp) ifs2 tt2) (he:PE (cxComp X scope N' cl C s₂ H₂ fp) elt te) (hcalm:X.calm=true)
 (hfp:∀ b∈fp,b≠C/\b∉frs X.stack/\(∀ x c,cl.lookup x=some c->c≠b)/\b≠acc) (hacc:acc≠C/\acc∉frs X.stack/\(∀ x c,cl.lookup x=some c->c≠acc)/\s₂.heap.objs.size≤acc)
 (hR:∀ s' σ' H' ys us k,Inv (cxComp X scope N' cl C s₂ H₂ fp) [(acc,accObj us k)] σ' H' s'->Vals ys us->F ys H'->R (.ok .next) s')
 {s:Shared} {σ:St} {H:Hp} {m:Nat} (I:Inv (cxComp X scope N' cl C s₂ H₂ fp) [(acc,accObj [] 0)] σ H s) (st:tn 0 s.heap) (fr:∀ b∈fp,H b=none) (w0:W 0 m [] σ H) :
 codeAny (model X.prog X.w) X.A (.compLoop (.ListComp elt [⟨tg,iter,ifs,0⟩,⟨tg2,iter2,ifs2,0⟩] scope pos) 0 (.ref it) (.ref acc) (compEnvC scope cl C X.env)) R s:=by
 refine codeAny_loop rfl (fun n s'=>∃ i ys us k σ' H',Vals ys us/\Inv (cxComp X scope N' cl C s₂ H₂ fp) [(acc,accObj us k)] σ' H' s'/\tn i s'.heap/\(∀ b∈fp,H' b=none)/\W i n ys σ' H') (fun n s3 hI=>?_) m ⟨0,[],[],0,σ,H,.nil,I,st,fr,w0⟩
 obtain ⟨i,ys,us,k,σ3,H3,rv,I3,st3,fr3,w3⟩:=hI
 show wpAny _ X.A ((compTurn (.ListComp elt [⟨tg,iter,ifs,0⟩,⟨tg2,iter2,ifs2,0⟩] scope pos) 0 (.ref it) (.ref acc) (compEnvC scope cl C X.env)).onRaise (fun x=>do noteFrame x (compEnvC scope cl C X.env);theTreesLotGoes x)) _ _ s3
 refine wpAny_noted ?_
 rw [compTurn_out]
 have fpk:∀ {pins:List (Addr×Obj)} {H':Hp},(∀ p∈pins,p.1=acc∨p.1∈([]:List Addr))->(∀ b∈fp,H' b=none)->∀ b∈fp,FpOk (cxComp X scope N' cl C s₂ H₂ fp) pins H' b:=fun hp hn b hb=>
  ⟨hn b hb,(hfp b hb).1,(hfp b hb).2.1,.inl hb,(hfp b hb).2.2.1,fun p hp'=>by
   have hp'':p∈([]:List (Addr×Obj))++_:=hp'
   rcases hp p (by simpa using hp'') with z|z
   ·rw [z];exact Ne.symm (hfp b hb).2.2.2
   ·exact (nomatch z)⟩
 have fp1:=fpk (pins:=[(acc,accObj us k)]) (fun p hp=>.inl (by simp at hp;rw [hp])) fr3
 refine wpAny_bind (wpAny_standAt (wpAny_bind ?_))
 rcases turn i n ys σ3 H3 w3 with ⟨stop,qn⟩|⟨go,step⟩
 ·refine wpAny_mono (T.done (cxComp X scope N' cl C s₂ H₂ fp) rfl rfl rfl hcalm i _ s3 σ3 H3 (fun _ _=>False) I3 fp1 st3 stop) (fun r s4 ⟨hr,I4⟩=>?_) (fun _ _ z=>z.elim)
  subst hr
  exact wpAny_pure (hR s4 σ3 H3 ys us k I4 rv qn)
 ·refine wpAny_mono (T.item (cxComp X scope N' cl C s₂ H₂ fp) rfl rfl rfl hcalm i _ s3 σ3 H3 (fun _ _=>False) I3 fp1 st3 go) (fun r s4 ⟨u,hr,h4⟩=>?_) (fun _ _ z=>z.elim)
  subst hr
  refine wpAny_bind (wpAny_mono h4 (fun _ s5 ⟨x,H5,I5,r5,y5,st5,fr5⟩=>?_) (fun _ _ z=>z.elim))
  have fp5:=fpk (pins:=[(acc,accObj us k)]) (fun p hp=>.inl (by simp at hp;rw [hp])) fr5
  have I5':=I5.pinned fp5 (T.obj _ _ st5)
  refine wpAny_bind (wpAny_mono (hg _ s5 σ3 H5 x u _ I5' r5 (step x H5 y5)) (fun _ s6 ⟨σ6,H6,I6,q6⟩=>?_) (fun _ _ z=>z.elim))
  refine wpAny_bind (wpAny_mono (hc _ s6 σ6 H6 _ I6 q6) (fun ok s7 ⟨H7,I7,q7⟩=>?_) (fun _ _ z=>z.elim))
  have again:∀ {s8:Shared} {σ8:St} {H8:Hp} {us8:List Value} {k8:Nat},Inv (cxComp X scope N' cl C s₂ H₂ fp) ((acc,accObj us8 k8)::pinsAt fp s5.heap) σ8 H8 s8->Inv (cxComp X scope N' cl C s₂ H₂ fp) [(acc,accObj us8 k8)] σ8 H8 s8/\tn (i+1) s8.heap/\∀ b∈fp,H8 b=none:=fun {s8 σ8 H8 us8 k8} I8=>
   ⟨Inv.unpinned (pins:=[(acc,accObj us8 k8)]) I8,T.keep _ _ _ st5 fun b hb o e=>(I8.pin (b,o) (List.mem_append_right _ (List.mem_cons_of_mem _ (mem_pinsAt hb e)))).1,fun b hb=>by
    obtain ⟨o,e,d⟩:=T.obj _ _ st5 b hb
    exact (I8.pin (b,o) (List.mem_append_right _ (List.mem_cons_of_mem _ (mem_pinsAt hb e)))).2.1⟩
  cases ok with
  | false=>
    rw [if_neg Bool.false_ne_true] at q7
    obtain ⟨m',hm,w7⟩:=q7
    obtain ⟨I7',t1,t2⟩:=again I7
    exact wpAny_pure ⟨rfl,m',hm,i+1,ys,us,k,σ6,H7,rv,I7',t1,t2,w7⟩
  | true=>
    rw [if_pos rfl] at q7
    refine wpAny_bind (wpAny_mono (hi2 _ s7 σ6 H7 _ I7 q7) (fun v s8 h8=>?_) (fun _ _ z=>z.elim))
    refine wpAny_bind (wpAny_standAt ?_)
    rw [hs2 v]
    refine wpAny_bind (wpAny_pure ?_)
    refine wpAny_bind (wpAny_holding (wpAny_mono h8 (fun itv s9 h9=>?_) (fun _ _ z=>z.elim)))
    obtain ⟨it2,fp2,tn2,J2,H9,e9,I9,T2,st9,f9,W2,⟨m2,w2⟩,turn2⟩:=h9
    subst e9
    have loop:∀ Q:Flow->Shared->Prop,(∀ s10,(∃ m',m'<n/\∃ i ys us k σ' H',Vals ys us/\Inv (cxComp X scope N' cl C s₂ H₂ fp) [(acc,accObj us k)] σ' H' s10/\tn i s10.heap/\(∀ b∈fp,H' b=none)/\W i m' ys σ' H')->Q .next s10)->
     codeAny (model X.prog X.w) X.A (.compLoop (.ListComp elt [⟨tg,iter,ifs,0⟩,⟨tg2,iter2,ifs2,0⟩] scope pos) 1 (.ref it2) (.ref acc) (compEnvC scope cl C X.env)) (fun r s'=>match r with|.ok f=>Q f s'|.error e=>cameBackBy (model X.prog X.w) X.A (compEnvC scope cl C X.env) (notedBy (model X.prog X.w) X.A (compEnvC scope cl C X.env) fun x s'=>R (.error x) s') e s') s9:=by
     intro Q hQ
     refine comp_inner (Y:=cxComp X scope N' cl C s₂ H₂ fp) (ps:=pinsAt fp s5.heap) W2 turn2 T2 hg2 hc2 he hcalm (fun _ _ z=>z) (fun b hb=>?_) ⟨hacc.1,hacc.2.1,.inr hacc.2.2.2,hacc.2.2.1,fun p hp z=>?_⟩ (fun s' σ' H' ys' us' k' I' rv' q'=>?_) rv I9 st9 (fun b hb=>(f9 b hb).1) w2
     ·obtain ⟨_,a1,a2,a3,a4,a5⟩:=f9 b hb
      refine ⟨a1,a2,a3,a4,fun p hp=>?_,fun z=>?_⟩
      ·rcases List.mem_append.mp hp with y|y
       ·exact a5 p (List.mem_append_left _ y)
       ·exact a5 p (List.mem_append_right _ (List.mem_cons_of_mem _ y))
      ·exact a5 (acc,accObj us k) (List.mem_append_right _ List.mem_cons_self) z.symm
     ·have hp':p∈([]:List (Addr×Obj))++pinsAt fp s5.heap:=hp
      rw [List.nil_append] at hp'
      obtain ⟨hb,_⟩:=of_pinsAt hp'
      exact (hfp _ hb).2.2.2 z
     ·obtain ⟨m',hm,w'⟩:=q'
      obtain ⟨I8',t1,t2⟩:=again I'
      exact hQ s' ⟨m',hm,i+1,ys',us',k',σ',H',rv',I8',t1,t2,w'⟩
    refine wpAny_bind (wpAny_runOwn (codeAny_compStart_in (loop _ fun s10 q=>?_) (T2.self _ 0 _ _ _ st9 (loop _ fun s10 q=>?_))))
    ·obtain ⟨m',hm,q⟩:=q
     exact wpAny_pure ⟨rfl,m',hm,q⟩
    ·obtain ⟨m',hm,q⟩:=q
     exact wpAny_pure ⟨rfl,m',hm,q⟩
def tComp2 (wi:TI) (g:TG) (tt:TT) (wi2:TI) (g2:TG) (tt2:TT) (te:TE) (k:Nat) (js:List Nat):TE:=fun σ H Q=>wi σ H fun J H1=>∃ W:Nat->Nat->List V->St->Hp->Prop,(∃ m,W 0 m [] (compSt k js σ) H1)/\
 CTurn2 J g tt wi2 g2 tt2 te (fun ys H2=>ys.length≤sizeLine/\∀ p,H2 p=none->Q (.ref p) (upd H2 p (.lst ys))) W
section
variable {X:Cx} {scope:Scope} {own:List Str} {js:List Nat} {N':List Str} {wi wi2:TI} {g g2:TG} {tt tt2:TT} {te:TE} {elt tg iter tg2 iter2:Expr} {ifs ifs2:List Expr} {pos:Pos}
theorem comp_run2 {pins:List (Addr×Obj)} {σ:St} {H:Hp} {s:Shared} {it:Addr} {fp:List Addr} {tn:Nat->Heap->Prop} {J:It} {cl:List (Str×Addr)} {F:List V->Hp->Prop} {E:Value->Shared->Prop} {RR:Value->Addr->Result->Shared->Prop}
 (S:CompScope X scope own js N') (hcalm:X.calm=true) (hg:∀ cl C s₀ H₀ ex,PG (cxComp X scope N' cl C s₀ H₀ ex) tg g) (hc:∀ cl C s₀ H₀ ex,PIfs (cxComp X scope N' cl C s₀ H₀ ex) ifs tt) (hi2:∀ cl C s₀ H₀ ex,PI (cxComp X scope N' cl C s₀ H₀ ex) tg2 iter2 wi2) (hs2:∀ env x,foldedSetIterable iter2 env x=pure x) (hg2:∀ cl C s₀ H₀ ex,PG (cxComp X scope N' cl C s₀ H₀ ex) tg2 g2) (hc2':∀ cl C s₀ H₀ ex,PIfs (cxComp X scope N' cl C s₀ H₀ ex) ifs2 tt2) (he:∀ cl C s₀ H₀ ex,PE (cxComp X scope N' cl C s₀ H₀ ex) elt te)
 (hc1:∀ x c,cl.lookup x=some c->X.env.cells.lookup x=some c) (hc2:∀ x,(x,NameKind.free)∈scope.names->∃ c,cl.lookup x=some c)
 (I:Inv X pins σ H s) (T:Turn X.prog X.w X.K tg J fp it tn) (st:tn 0 s.heap) (hf:∀ b∈fp,FpOk X pins H b) (W:Nat->Nat->List V->St->Hp->Prop) {m0:Nat} (w0:W 0 m0 [] (compSt own.length js σ) H) (turn:CTurn2 J g tt wi2 g2 tt2 te F W)
 (hF:∀ ys H',F ys H'->ys.length≤sizeLine)
 (fin:∀ acc C H' ys s' m,Inv X pins σ (upd H' acc (.lst ys)) s'->H' acc=none->s'.heap.Ns C m->(upd H' acc (.lst ys)) C=none->C≠X.env.locals->X.s₀.heap.objs.size≤C->(∀ x c,X.env.cells.lookup x=some c->c≠C)->(∀ p∈X.pn++pins,p.1≠C)->F ys H'->RR (.ref acc) C (.ok .next) s') :
 wpAny (model X.prog X.w) X.A (newList []) (fun acc s₃=>wpAny (model X.prog X.w) X.A (newFunctionEnv scope X.env.globals cl [] X.env.qual none .none (some X.env)) (fun cenv s₄=>
  codeAny (model X.prog X.w) X.A (.compStart (.ListComp elt [⟨tg,iter,ifs,0⟩,⟨tg2,iter2,ifs2,0⟩] scope pos) 0 (.ref it) acc { cenv with scope:=relabel scope X.env }) (RR acc cenv.locals) s₄) E s₃) E s:=by
 refine wpAny_newObj_type (wpAny_newFunctionEnv S.nocell (by intro y hy;simp at hy) (fun h₁ hns₁ hsb₁=>?_) S.kind)
 dsimp only at hns₁ hsb₁ ⊢
 generalize hH2:s.heap.push { cls:=.type "list",dict:=none,data:=.seq ([]:List Value).toArray }=H2 at hns₁ hsb₁ ⊢
 have hC:H2.objs.size=s.heap.objs.size+1:=by rw [← hH2,Heap.size_push]
 have hDC:s.heap.objs.size≠H2.objs.size:=by rw [hC];exact Nat.ne_of_lt (Nat.lt_succ_self _)
 have hCle:s.heap.objs.size≤H2.objs.size:=by rw [hC];exact Nat.le_succ _
 have below:∀ b,b<s.heap.objs.size->b≠H2.objs.size/\b≠s.heap.objs.size:=fun b hb=>⟨by rw [hC];exact Nat.ne_of_lt (Nat.lt_succ_of_lt hb),Nat.ne_of_lt hb⟩
 have old:∀ b o,s.heap.get? b=some o->h₁.get? b=some o:=fun b o e=>hsb₁.extBut b o (below b (Heap.lt_size e)).1 (Heap.get?_push_of_some _ (hH2 ▸ Heap.get?_push_of_some _ e))
 have hacc:h₁.get? s.heap.objs.size=some (accObj [] 0):=hsb₁.extBut _ _ hDC (Heap.get?_push_of_some _ (hH2 ▸ Heap.get?_push_size _ rfl))
 generalize hCn:H2.objs.size=C at *
 generalize hAn:s.heap.objs.size=acc at *
 have cellLt:∀ x c,X.env.cells.lookup x=some c->c<acc:=fun x c e=>by
  obtain ⟨v,q⟩:=I.cell x c e
  rw [← hAn];exact q.lt
 have pinLt:∀ p∈X.pn++pins,p.1<acc:=fun p hp=>by rw [← hAn];exact Heap.lt_size (I.pin p hp).1
 have stkLt:∀ b∈frs X.stack,b<acc:=fun b hb=>by
  obtain ⟨_,o,ho,_⟩:=I.stack.mem hb
  rw [← hAn];exact Heap.lt_size ho
 have fpLt:∀ b∈fp,b<acc:=fun b hb=>by
  obtain ⟨o,e,_⟩:=T.obj _ _ st b hb
  rw [← hAn];exact Heap.lt_size e
 have hHC:H C=none:=I.hok.fresh (by rw [hAn];exact hCle)
 have hHA:H acc=none:=I.hok.fresh (by rw [hAn];exact Nat.le_refl _)
 have I1:Inv (cxComp X scope N' cl C s H fp) [] (compSt own.length js σ) H { s with heap:=h₁,toks:=s.toks+([]:List (Str×Value)).length }:=
  Inv.comp S I hc1 hc2 (by rw [hAn];exact hCle) hns₁ old (fun b hb=>⟨hf b hb,by rw [hAn];exact fpLt b hb⟩) hHC fun b o e=>(below b (by rw [← hAn];exact Heap.lt_size e)).1
 have I2:Inv (cxComp X scope N' cl C s H fp) [(acc,accObj [] 0)] (compSt own.length js σ) H { s with heap:=h₁,toks:=s.toks+([]:List (Str×Value)).length }:=I1.pins_of fun p hp=>by
  obtain rfl:p=(acc,accObj [] 0):=by simpa using hp
  exact ⟨hacc,hHA,hDC,fun z=>absurd (stkLt acc z) (Nat.lt_irrefl _),fun v z=>by cases z⟩
 have st1:tn 0 h₁:=T.keep _ _ _ st fun b hb o e=>old b o e
 have loop:∀ s₃:Shared,s₃={ s with heap:=h₁,toks:=s.toks+([]:List (Str×Value)).length }->
  codeAny (model X.prog X.w) X.A (.compLoop (.ListComp elt [⟨tg,iter,ifs,0⟩,⟨tg2,iter2,ifs2,0⟩] scope pos) 0 (.ref it) (.ref acc) (compEnvC scope cl C X.env)) (RR (.ref acc) C) s₃:=by
  rintro s₃ rfl
  refine comp_loop2 W turn T (hg _ _ _ _ _) (hc _ _ _ _ _) (hi2 _ _ _ _ _) (hs2 _) (hg2 _ _ _ _ _) (hc2' _ _ _ _ _) (he _ _ _ _ _) hcalm
   (fun b hb=>⟨(below b (fpLt b hb)).1,fun z=>?_,fun x c e z=>(hf b hb).2.2.2.2.1 x c (hc1 x c e) z,(below b (fpLt b hb)).2⟩)
   ⟨hDC,fun z=>absurd (stkLt acc z) (Nat.lt_irrefl _),fun x c e z=>absurd (cellLt x c (hc1 x c e)) (by rw [z];exact Nat.lt_irrefl _),by rw [hAn];exact Nat.le_refl _⟩ ?_ I2 st1 (fun b hb=>(hf b hb).1) w0
  ·rcases List.mem_cons.mp (I.stkSub b z) with q|q
   ·exact (hf b hb).2.1 q
   ·exact (hf b hb).2.2.1 q
  ·intro s' σ' H' ys us k J' rv q
   obtain ⟨e',n',l',f',d'⟩:=J'.pin (acc,accObj us k) (List.mem_append_right _ List.mem_cons_self)
   have n'':H' acc=none:=n'
   obtain ⟨m,hm,_⟩:=J'.loc
   have oldLt:∀ b o,s.heap.get? b=some o->b<acc:=fun b o e=>by rw [← hAn];exact Heap.lt_size e
   have neA:∀ b o,s.heap.get? b=some o->b≠acc:=fun b o e=>Nat.ne_of_lt (oldLt b o e)
   have un:Un (frs X.stack) fp H (upd H' acc (.lst ys)) s.heap s'.heap:=⟨J'.base.keep,J'.base.slot,fun b o e n hx=>by rw [upd_ne (neA b o e)];exact J'.base.free b o e n hx,J'.base.there,
    fun b xs e=>by
     have z:=J'.base.tups b xs e
     rw [upd_ne (ne_of_none z n'')];exact z,
    fun b o u e=>by
     have z:=J'.base.frzs b o u e
     rw [upd_ne (ne_of_none z n'')];exact z,
    fun b ps e=>by
     obtain ⟨more,z⟩:=J'.base.tbls b ps e
     exact ⟨more,by rw [upd_ne (ne_of_none z n'')];exact z⟩⟩
   have hok:HOk X.prog X.w (upd H' acc (.lst ys)) s'.heap:=fun b u e=>by
    by_cases hb:b=acc
    ·subst hb
     rw [upd_same] at e;cases e
     exact ⟨hF _ _ q,us,k,rv,e'⟩
    ·rw [upd_ne hb] at e
     exact (J'.hok b u e).stay (fun c v _ z=>z) (fun c z=>by rw [upd_ne (ne_of_none z n'')];exact z) fun c xs z=>by rw [upd_ne (ne_of_none z n'')];exact z
   have IX:Inv X pins σ (upd H' acc (.lst ys)) s':=I.call' J'.os un hok J'.bare fun b hb=>⟨(hf b hb).2.2.2.1,(hf b hb).2.1,(hf b hb).2.2.2.2.1,(hf b hb).2.2.2.2.2⟩
   refine fin acc C H' ys s' m IX n'' hm ?_ ?_ ?_ ?_ ?_ q
   ·rw [upd_ne (Ne.symm hDC)];exact J'.free
   ·exact Nat.ne_of_gt (Nat.lt_of_lt_of_le I.lt (by rw [hAn];exact hCle))
   ·exact Nat.le_trans I.sz (by rw [hAn];exact hCle)
   ·exact fun x c e z=>absurd (Nat.lt_of_lt_of_le (cellLt x c e) hCle) (by rw [z];exact Nat.lt_irrefl _)
   ·exact fun p hp z=>absurd (Nat.lt_of_lt_of_le (pinLt p hp) hCle) (by rw [z];exact Nat.lt_irrefl _)
 exact codeAny_compStart_list (loop _ rfl) (T.self _ 0 _ _ _ st1 (loop _ rfl))
theorem ps_setComp2 {i:Nat} {x:Str} {pos' spos:Pos} (S:CompScope X scope own js N') (hcalm:X.calm=true) (hN:X.N.Nodup) (hx:X.N[i]?=some x) (hk:X.env.scope.names.lookup x=some .local) (hi:PI X tg iter wi) (hg:∀ cl C s₀ H₀ ex,PG (cxComp X scope N' cl C s₀ H₀ ex) tg g) (hc:∀ cl C s₀ H₀ ex,PIfs (cxComp X scope N' cl C s₀ H₀ ex) ifs tt)
 (hi2:∀ cl C s₀ H₀ ex,PI (cxComp X scope N' cl C s₀ H₀ ex) tg2 iter2 wi2) (hs2:∀ env x,foldedSetIterable iter2 env x=pure x) (hg2:∀ cl C s₀ H₀ ex,PG (cxComp X scope N' cl C s₀ H₀ ex) tg2 g2) (hc2':∀ cl C s₀ H₀ ex,PIfs (cxComp X scope N' cl C s₀ H₀ ex) ifs2 tt2) (he:∀ cl C s₀ H₀ ex,PE (cxComp X scope N' cl C s₀ H₀ ex) elt te) (hsw:swapsWith (.ListComp elt [⟨tg,iter,ifs,0⟩,⟨tg2,iter2,ifs2,0⟩] scope pos) (some (.Name x pos')) spos.line X.env=pure true:=by rfl) (hs:∀ x,foldedSetIterable iter X.env x=pure x:=by intro _;rfl) :
 PS X (.Assign [.Name x pos'] (.ListComp elt [⟨tg,iter,ifs,0⟩,⟨tg2,iter2,ifs2,0⟩] scope pos) spos) (tAsg (tComp2 wi g tt wi2 g2 tt2 te own.length js) (gName i)):=by
 intro pins s σ H D I h
 obtain ⟨cl,hcl,hc1,hc2⟩:=closure_ok (env:=X.env) scope fun y hy hk=>I.ok.has y.1 (S.free y hy hk)
 rw [exec_Assign_Name_used _ _ _ _ hsw]
 refine wpAny_bind (wpAny_standAt (wpAny_bind ?_))
 show wpAny _ X.A (do let _ ← comprehension (.ListComp elt [⟨tg,iter,ifs,0⟩,⟨tg2,iter2,ifs2,0⟩] scope pos) scope X.env _ (newList []) false (eval iter X.env) (some (assign (.Name x pos') X.env))) _ _ s
 refine wpAny_bind (wpAny_mono (wpAny_comprehension_free (use:=some (assign (.Name x pos') X.env)) (Q:=fun _ s'=>SP X pins D .next s') rfl hs hcl S.kind S.names
  (thn (hi pins s σ H _ I h) fun v s1 h1=>thn h1 fun itv s2 h2=>?_)) (fun _ s' hq=>wpAny_pure (wpAny_pure hq)) fun _ _ e=>e)
 obtain ⟨it,fp,tn,J,H2,e,I2,T,st2,f2,W,⟨m0,w0⟩,turn⟩:=h2
 subst e
 refine comp_run2 (RR:=fun acc C=>compPost (model X.prog X.w) X.A X.xe (some (assign (.Name x pos') X.env)) (fun _ s'=>SP X pins D .next s') acc C) S hcalm hg hc hi2 hs2 hg2 hc2' he hc1 hc2 I2 T st2 f2 W w0 turn (fun ys H' q=>q.1) ?_
 intro acc C H' ys s' m IX na hm hCn hL hz hcn hpn q
 show wpAny _ X.A (assign (.Name x pos') X.env (.ref acc)) _ _ s'
 refine wpAny_assign_Name (store_ok2 IX hN hx (.inl hk) (v:=.ref acc) rfl (fun s'' I'' hsb=>?_) (.inr hk))
 obtain ⟨a,hsb,ha⟩:=hsb
 have haC:C≠a:=by
  rcases ha with z|z
  ·rw [z];exact hL
  ·exact fun q=>hcn x a z q.symm
 refine ⟨m,hm.sameBut hsb haC,fun h' hs'=>⟨_,_,?_,q.2 acc na⟩⟩
 exact I''.turned (t':=s''.toks) (it:=C) (fun b o hb e=>(hs'.2 b hb).trans e) hCn hL (.inr hz) hcn hpn
end
theorem ints_are:∀ ps:List (Int×Tok),IntsAre (ps.map fun p=>Value.int p.1 p.2) (ps.map (·.1))
 |[]=>.nil
 |(n,t)::r=>.cons n t (ints_are r)
theorem vals_of_ints:∀ {us:List Value} {ns:List Int},IntsAre us ns->Vals (ns.map V.int) us
 |_,_,.nil=>.nil
 |_,_,.cons n t h=>.cons ⟨t,rfl⟩ (vals_of_ints h)
section
variable {X:Cx}
theorem call_sortedL:CallR X (.builtin "sorted") (fun xs H Q=>∃ p ns,xs=[.ref p]/\SqL X.K H p (ns.map V.int)/\ns.length<64/\∀ (ns':List Int) l,ns'.Perm ns->ns'.Pairwise (·≤·)->H l=none->Q (.ref l) (upd H l (.lst (ns'.map V.int)))):=by
 intro pins s σ H xs us Q I r h
 obtain ⟨p,ns,rfl,hq,hl,q⟩:=h
 obtain ⟨u,rfl,ru⟩:=vals1 r
 cases (show u=Value.ref p from ru)
 obtain ⟨its,rv,pl,hz⟩:=I.list hq
 obtain ⟨ps,rfl,e⟩:=vals_nums rv
 have hl':ps.length=ns.length:=by rw [← e,List.length_map]
 have hI:=ints_are ps
 rw [e] at hI
 refine sorted_ints pl.isList hI (by rw [List.length_map];omega) fun out ns' a1 a2 a3=>?_
 obtain ⟨c,ec⟩:=sortedAll_at s.heap (ps.map fun p=>Value.int p.1 p.2) out
 have big:64≤sizeLine:=by decide
 have lz:(ns'.map V.int).length≤sizeLine:=by rw [List.length_map,a2.length_eq];omega
 exact ⟨.ref (s.heap.objs.size+1),_,I.laid (t':=s.toks) (a:=s.heap.objs.size+1) (fun b o e=>sortedAll_old e) (Nat.le_succ _) (show ObjOk X.prog X.w _ _ _ (.lst (ns'.map V.int)) from ⟨lz,out.toList,c,vals_of_ints a1,by simpa using ec⟩),rfl,q ns' _ a2 a3 (I.hok.fresh (Nat.le_succ _))⟩
end
section
variable {prog:Program} {w:World} {A:Around} {R:Result->Shared->Prop} {I:Addr} {fp wr:List Addr} {n:Nat} {P:Nat->Value->Prop} {St:Nat->Heap->Prop}
end
section
variable {prog:Program} {w:World} {A:Around} {E:Value->Shared->Prop} {s:Shared} {l:Addr} {xs:Array (Int×Tok)}
end
section
variable {X:Cx}
end
section
variable {X:Cx} {scope:Scope} {own:List Str} {js:List Nat} {N':List Str} {wi:TI} {g:TG} {tt:TT} {te:TE} {tf:St->TE} {elt tg iter:Expr} {ifs:List Expr} {pos:Pos}
end
end L2
namespace L2
open PySem PySem.Spec PyProof.Rows PySem.SeqAt
section
variable {prog:Program} {w:World} {A:Around} {E:Value->Shared->Prop} {s:Shared} {l:Addr} {x y z:Value}
end
section
variable {X:Cx} {pos:Pos}
end
section
variable {X:Cx}
end
section
variable {X:Cx} {CX:CXT} {k:Nat} {f C:Addr} {fd:FuncData} {ps ks:List Str} {sp:Sp} {E:XK} {m:Str} {pos apos:Pos} {o:Expr} {kws:List Keyword} {ta:TE} {tk:TA} {g:List Value->List Value->List Value} {gV:List V->List V->List V}
end
section
variable {prog:Program} {w:World} {A:Around} {R:Result->Shared->Prop} {I:Addr} {fp wr:List Addr} {G:Array GenState->Array GenState->Prop} {n:Nat} {P:Nat->Value->Prop} {St:Nat->Shared->Prop}
end
section
open PySem.F
variable {prog:Program} {w:World} {A:Around} {E:Value->Shared->Prop} {s:Shared}
end
section
variable {X:Cx}
end
section
variable {prog:Program} {w:World} {A:Around} {E:Value->Shared->Prop} {s:Shared} {K:Type} [DecidableEq K] {knd:KeyKind prog w K}
end
section
variable {X:Cx}
end
section
variable {P:Program} {w:World} {A:Around} {E:Value->Shared->Prop} {s:Shared} {a:Addr} {ns:List Int}
end
section
variable {P:Program} {w:World} {A:Around} {R:Result->Shared->Prop} {I:Addr} {fp wr:List Addr} {G:Array GenState->Array GenState->Prop} {n:Nat} {Pv:Nat->Value->Prop} {St:Nat->Shared->Prop}
end
section
variable {P:Program} {w:World} {A:Around} {E:Value->Shared->Prop} {s:Shared}
end
section
variable {P:Program} {w:World} {A:Around} {E:Value->Shared->Prop} {s:Shared} {I a:Addr} {i n ep:Nat} {o:Obj} {es:Array (Int×Value)} {t:SetTable}
end
section
variable {P:Program} {w:World} {A:Around} {E:Value->Shared->Prop} {s:Shared}
variable {a:Addr} {ep:Nat} {o:Obj} {es:Array (Int×Value)} {t:SetTable} {Q:Option (Value×Nat)->Shared->Prop}
end
section
variable {P:Program} {w:World} {A:Around} {E:Value->Shared->Prop} {s:Shared}
end
section
variable {P:Program} {w:World} {A:Around} {E:Value->Shared->Prop} {s:Shared}
end
section
variable {X:Cx} {pins:List (Addr×Obj)} {σ:List (Option V)} {H:Hp} {s:Shared}
end
def rngO (a:Addr) (n:Nat):HO:=.ext fun h=>∃ t u v,IsRange h a 0 n 1 t u v
theorem rngO_ok {P:Program} {w:World} {H:Hp} {h:Heap} {a:Addr} {n:Nat} (x:∃ t u v,IsRange h a 0 n 1 t u v):ObjOk P w H h a (rngO a n):=by
 refine ⟨x,?_,fun h1 h2 z k=>?_⟩
 ·obtain ⟨t,u,v,e⟩:=x
  exact ⟨_,e⟩
 ·obtain ⟨t,u,v,e⟩:=z
  exact ⟨t,u,v,k _ e⟩
theorem bt_range:bootBuiltins "range" = some (.type "range"):=by decide +kernel
theorem vals_items {n:Nat} {acc:Array Value} (h:PySem.ItemsOf (fun i v=>∃ t,v=.int (0+i*1) t) acc n):Vals ((List.range n).map fun i:Nat=>V.int i) acc.toList:=by
 obtain ⟨hz,hv⟩:=h
 obtain ⟨l⟩:=acc
 simp only [List.size_toArray] at hz
 have hv':∀ (i:Nat) v,l[i]?=some v->∃ t,v=.int i t:=fun i v e=>by
  obtain ⟨t,q⟩:=hv i v (by simpa using e)
  exact ⟨t,by rw [q];simp⟩
 have go:∀ (l:List Value) (k:Nat),(∀ (i:Nat) v,l[i]?=some v->∃ t,v=.int ((k+i:Nat):Int) t)->Vals ((List.range' k l.length).map fun i:Nat=>V.int i) l:=fun l=>by
  induction l with
  |nil=>intro k _;exact .nil
  | cons x r ih=>
    intro k q
    rw [List.length_cons,List.range'_succ,List.map_cons]
    refine .cons ?_ (ih (k+1) fun i v e=>?_)
    ·obtain ⟨t,e⟩:=q 0 x rfl
     exact ⟨t,e⟩
    ·obtain ⟨t,e2⟩:=q (i+1) v (by simpa using e)
     exact ⟨t,by rw [e2];congr 2;omega⟩
 have:=go l 0 (fun i v e=>by simpa using hv' i v e)
 rw [hz] at this
 rwa [List.range_eq_range']
section
variable {X:Cx}
theorem call_rangeO:CallR X (.type "range") (fun xs H Q=>∃ n:Nat,xs=[.int n]/\∀ a,H a=none->Q (.ref a) (upd H a (rngO a n))):=by
 intro pins s σ H xs us Q I r h
 obtain ⟨n,rfl,q⟩:=h
 obtain ⟨u,rfl,t,rfl⟩:=vals1 r
 refine call_range_1 ⟨.ref s.heap.objs.size,_,I.laid (t':=s.toks+1+1) (fun b o e=>Heap.get?_push_of_some _ e) (Nat.le_refl _) (rngO_ok ⟨_,_,_,IsRange.new ..⟩),rfl,q _ (I.hok.fresh (Nat.le_refl _))⟩
theorem call_listR (hc:X.calm=true):CallR X (.type "list") (fun xs H Q=>∃ (a:Addr) (n:Nat),xs=[.ref a]/\H a=some (rngO a n)/\n≤1000/\∀ l,H l=none->Q (.ref l) (upd H l (.lst ((List.range n).map fun i:Nat=>V.int i)))):=by
 intro pins s σ H xs us Q I r h
 obtain ⟨a,n,rfl,ha,hl,q⟩:=h
 obtain ⟨u,rfl,ru⟩:=vals1 r
 cases (show u=Value.ref a from ru)
 obtain ⟨t,u,v,hr⟩:=(I.hok a _ ha).1
 refine call_list_range (I.ok.hd hc) hr (small_one (by decide) (by decide) (by omega) (by omega)) (n:=n) (by rw [rangeSize_one];split <;> omega) (by omega) fun h' tk acc c kp e it=>?_
 have lz:((List.range n).map fun i:Nat=>V.int i).length≤sizeLine:=by rw [List.length_map,List.length_range];exact Nat.le_trans hl (by decide)
 exact ⟨.ref s.heap.objs.size,_,I.laid (t':=tk) kp (Nat.le_refl _) (show ObjOk X.prog X.w _ _ _ (.lst ((List.range n).map fun i:Nat=>V.int i)) from ⟨lz,acc.toList,c,vals_items it,by simpa using e⟩),rfl,q _ (I.hok.fresh (Nat.le_refl _))⟩
end
end L2
namespace L2
open PySem PySem.Spec PyProof.Rows PySem.SeqAt PySem.W
abbrev vl (rk:Nat->Int) (p:Array Nat) (k:Nat):Int:=rk (p.getD k 0)
def UpTo (rk:Nat->Int) (p:Array Nat) (m:Nat):Prop:=∀ i j,i<j->j<m->vl rk p i<vl rk p j
def DnTo (rk:Nat->Int) (p:Array Nat) (m:Nat):Prop:=∀ i j,i<j->j<m->vl rk p j<vl rk p i
def PmR (n:Nat) (p:Array Nat):Prop:=p.toList.Perm (List.range n)
theorem PmR.size {n:Nat} {p:Array Nat} (h:PmR n p):p.size=n:=by have:=List.Perm.length_eq h;simpa using this
theorem getD_of {p:Array Nat} {k:Nat} (h:k<p.size):p.getD k 0=p[k]:=by simp [Array.getD,h]
theorem PmR.lt {n:Nat} {p:Array Nat} (h:PmR n p) {k:Nat} (hk:k<n):p.getD k 0<n:=by
 have hz:=h.size
 rw [getD_of (by omega)]
 exact List.mem_range.mp ((List.Perm.mem_iff h).mp (by simp))
theorem PmR.inj {n:Nat} {p:Array Nat} (h:PmR n p) {k l:Nat} (hk:k<n) (hl:l<n) (e:p.getD k 0=p.getD l 0):k=l:=by
 have hz:=h.size
 rw [getD_of (by omega),getD_of (by omega)] at e
 have nd:p.toList.Nodup:=(List.Perm.nodup_iff h).mpr List.nodup_range
 have pw:=List.pairwise_iff_getElem.mp nd
 have hq:p.toList.length=p.size:=Array.length_toList ..
 have hk':k<p.toList.length:=by omega
 have hl':l<p.toList.length:=by omega
 rcases Nat.lt_trichotomy k l with z|z|z
 ·exact absurd (by rw [Array.getElem_toList,Array.getElem_toList];exact e) (pw k l hk' hl' z)
 ·exact z
 ·exact absurd (by rw [Array.getElem_toList,Array.getElem_toList];exact e.symm) (pw l k hl' hk' z)
structure Rk (n:Nat) (rk:Nat->Int) (cmp:Nat->Nat->(Bool->Shared->Prop)->Shared->Prop) (s:Shared):Prop where
 inj:∀ i j,i<n->j<n->rk i=rk j->i=j
 ask:∀ i j C,i<n->j<n->C (decide (rk i<rk j)) s->cmp i j C s
section
variable {n:Nat} {rk:Nat->Int} {cmp:Nat->Nat->(Bool->Shared->Prop)->Shared->Prop} {s:Shared}
theorem vl_ne {p:Array Nat} (X:Rk n rk cmp s) (h:PmR n p) {k l:Nat} (hk:k<n) (hl:l<n) (ne:k≠l):vl rk p k≠vl rk p l:=fun e=>ne (h.inj hk hl (X.inj _ _ (h.lt hk) (h.lt hl) e))
theorem UpTo.next {p:Array Nat} {a:Nat} (U:UpTo rk p a) (h1:1≤a) (h:vl rk p (a-1)<vl rk p a):UpTo rk p (a+1):=fun i j hij hj=>by
 by_cases q:j<a
 ·exact U i j hij q
 ·obtain rfl:j=a:=by omega
  by_cases q2:i=j-1
  ·rw [q2];exact h
  ·exact Int.lt_trans (U i (j-1) (by omega) (by omega)) h
theorem DnTo.next {p:Array Nat} {a:Nat} (U:DnTo rk p a) (h1:1≤a) (h:vl rk p a<vl rk p (a-1)):DnTo rk p (a+1):=fun i j hij hj=>by
 by_cases q:j<a
 ·exact U i j hij q
 ·obtain rfl:j=a:=by omega
  by_cases q2:i=j-1
  ·rw [q2];exact h
  ·exact Int.lt_trans h (U i (j-1) (by omega) (by omega))
theorem asc_wp (X:Rk n rk cmp s) {p:Array Nat} (hp:PmR n p) {Q:Nat->Shared->Prop}:∀ (f a:Nat),1≤a->a+f≤n->UpTo rk p a->(∀ m,a≤m->m≤a+f->UpTo rk p m->(m=a+f∨vl rk p m<vl rk p (m-1))->Q m s)->(kas_asc p f a).kasWp cmp Q s
 |0,a,h1,h2,U,go=>go a (Nat.le_refl _) (Nat.le_refl _) U (.inl rfl)
 | f+1,a,h1,h2,U,go=>by
   refine X.ask _ _ _ (hp.lt (by omega)) (hp.lt (by omega)) ?_
   by_cases c:vl rk p a<vl rk p (a-1)
   ·rw [decide_eq_true c]
    dsimp only
    rw [if_pos rfl]
    exact go a (Nat.le_refl _) (by omega) U (.inr c)
   ·rw [decide_eq_false c]
    dsimp only
    rw [if_neg (by decide)]
    have:=vl_ne X hp (k:=a) (l:=a-1) (by omega) (by omega) (by omega)
    exact asc_wp X hp f (a+1) (by omega) (by omega) (U.next h1 (by omega)) fun m m1 m2 U' e=>go m (by omega) (by omega) U' (e.imp (fun e=>by omega) id)
theorem desc_wp (X:Rk n rk cmp s) {p:Array Nat} (hp:PmR n p) {Q:Array Nat×Nat×Nat->Shared->Prop}:∀ (f a:Nat),1≤a->a+f≤n->DnTo rk p a->(∀ m,a≤m->m≤a+f->DnTo rk p m->Q (p,m,0) s)->(kas_desc f p a 0).kasWp cmp Q s
 |0,a,h1,h2,U,go=>go a (Nat.le_refl _) (Nat.le_refl _) U
 | f+1,a,h1,h2,U,go=>by
   refine X.ask _ _ _ (hp.lt (by omega)) (hp.lt (by omega)) ?_
   by_cases c:vl rk p a<vl rk p (a-1)
   ·rw [decide_eq_true c]
    dsimp only
    rw [if_pos rfl,if_neg (by omega)]
    exact desc_wp X hp f (a+1) (by omega) (by omega) (U.next h1 c) fun m m1 m2 U'=>go m (by omega) (by omega) U'
   ·rw [decide_eq_false c]
    dsimp only
    rw [if_neg (by decide)]
    have:=vl_ne X hp (k:=a) (l:=a-1) (by omega) (by omega) (by omega)
    refine X.ask _ _ _ (hp.lt (by omega)) (hp.lt (by omega)) ?_
    rw [decide_eq_true (show rk (p.getD (a-1) 0)<rk (p.getD a 0) by have:=c;simp only [vl] at *;omega)]
    dsimp only
    rw [if_pos rfl]
    exact go a (Nat.le_refl _) (by omega) U
theorem rev_vl {p:Array Nat} {m:Nat} (hm:m≤p.size) {k:Nat} (hk:k<m):vl rk (kas_rev p 0 m) k=vl rk p (m-1-k):=by
 unfold vl kas_rev
 rw [Array.getD_eq_getD_getElem?,getElem?_mirror_all hm,if_pos ⟨Nat.zero_le _,hk⟩,Nat.zero_add,← Array.getD_eq_getD_getElem?]
theorem PmR.rev {p:Array Nat} (h:PmR n p) (i j:Nat):PmR n (kas_rev p i j):=(Array.perm_iff_toList_perm.mp (mirror_perm _ _ _ _)).trans h
theorem tail_wp (X:Rk n rk cmp s) {p:Array Nat} (hp:PmR n p) {m:Nat} {Q:Nat×Array Nat->Shared->Prop} (h1:1≤m) (h2:m≤n) (D:DnTo rk p m) (go:∀ m' p',1≤m'->m'≤n->PmR n p'->UpTo rk p' m'->Q (m',p') s):(kas_tail3 m n p).kasWp cmp Q s:=by
 unfold kas_tail3
 rw [KasT.kasWp_bind]
 have hz:=hp.size
 refine asc_wp X (hp.rev 0 m) _ m h1 (by omega) (fun i j hij hj=>?_) fun m' a b U _=>go m' _ (by omega) (by omega) (hp.rev 0 m) U
 rw [rev_vl (by omega) (by omega),rev_vl (by omega) hj]
 exact D _ _ (by omega) (by omega)
theorem count_wp (X:Rk n rk cmp s) {p:Array Nat} (hp:PmR n p) {Q:Nat×Array Nat->Shared->Prop} (h1:1≤n) (go:∀ m' p',1≤m'->m'≤n->PmR n p'->UpTo rk p' m'->Q (m',p') s):(kas_count n p).kasWp cmp Q s:=by
 unfold kas_count
 rw [KasT.kasWp_bind]
 refine asc_wp X hp _ 1 (Nat.le_refl _) (by omega) (fun i j hij hj=>by omega) fun m a b U e=>?_
 by_cases q:m=n
 ·rw [if_pos (by simpa using q)]
  exact go m p a (by omega) hp U
 ·rw [if_neg (by simpa using q)]
  have c:vl rk p m<vl rk p (m-1):=e.resolve_left (by omega)
  by_cases q1:m > 1
  ·rw [if_pos q1]
   refine X.ask _ _ _ (hp.lt (by omega)) (hp.lt (by omega)) ?_
   rw [decide_eq_true (U 0 (m-1) (by omega) (by omega))]
   dsimp only
   rw [if_pos rfl]
   exact go m p a (by omega) hp U
  ·rw [if_neg q1]
   obtain rfl:m=1:=by omega
   unfold kas_descPart
   rw [KasT.kasWp_bind]
   refine desc_wp X hp _ 2 (by omega) (by omega) (fun i j hij hj=>?_) fun m' a' b' D=>?_
   ·obtain rfl:i=0:=by omega
    obtain rfl:j=1:=by omega
    exact c
   ·dsimp only
    rw [if_neg (by omega)]
    exact tail_wp X hp (by omega) (by omega) D go
theorem place_wp (X:Rk n rk cmp s) {p:Array Nat} (hp:PmR n p) {k:Nat} (hk:k<n) {Q:Nat->Shared->Prop}:∀ (f l r:Nat),l≤r->r≤k->r-l≤f->(∀ i,i<l->vl rk p i<vl rk p k)->(∀ i,r≤i->i<k->vl rk p k<vl rk p i)->
 (∀ m,m≤k->(∀ i,i<m->vl rk p i<vl rk p k)->(∀ i,m≤i->i<k->vl rk p k<vl rk p i)->Q m s)->UpTo rk p k->(kas_place p k f l r).kasWp cmp Q s
 | 0,l,r,h1,h2,h3,a1,a2,go,U=>by
   obtain rfl:l=r:=by omega
   exact go l h2 a1 a2
 | f+1,l,r,h1,h2,h3,a1,a2,go,U=>by
   unfold kas_place
   by_cases q:l ≥ r
   ·rw [if_pos q]
    obtain rfl:l=r:=by omega
    exact go l h2 a1 a2
   ·rw [if_neg q]
    refine X.ask _ _ _ (hp.lt hk) (hp.lt (by omega)) ?_
    have ne:=vl_ne X hp (k:=k) (l:=(l+r) / 2) hk (by omega) (by omega)
    by_cases c:vl rk p k<vl rk p ((l+r) / 2)
    ·rw [decide_eq_true c]
     dsimp only
     rw [if_pos rfl]
     refine place_wp X hp hk f l _ (by omega) (by omega) (by omega) a1 (fun i h4 h5=>?_) go U
     by_cases z:i=(l+r) / 2
     ·rw [z];exact c
     ·exact Int.lt_trans c (U _ _ (by omega) h5)
    ·rw [decide_eq_false c]
     dsimp only
     rw [if_neg (by decide)]
     refine place_wp X hp hk f _ r (by omega) (by omega) (by omega) (fun i h4=>?_) a2 go U
     by_cases z:i=(l+r) / 2
     ·rw [z];omega
     ·have:=U i ((l+r) / 2) (by omega) (by omega)
      omega
theorem bub_vl {p:Array Nat} {k l j:Nat} (hk:k<p.size) (hl:l≤k):vl rk (bubble p k (k-l)) j=if j=l then vl rk p k else if l<j/\j≤k then vl rk p (j-1) else vl rk p j:=by
 have e:k-(k-l)=l:=by omega
 unfold vl
 rw [Array.getD_eq_getD_getElem?,getElem?_bubble hk _ (by omega),e]
 by_cases c:j=l
 ·rw [if_pos c,if_pos c,← Array.getD_eq_getD_getElem?]
 ·rw [if_neg c,if_neg c]
  by_cases d:l<j/\j≤k
  ·rw [if_pos d,if_pos d,← Array.getD_eq_getD_getElem?]
  ·rw [if_neg d,if_neg d,← Array.getD_eq_getD_getElem?]
theorem bin_wp (X:Rk n rk cmp s) {Q:Array Nat->Shared->Prop} (go:∀ p',PmR n p'->UpTo rk p' n->Q p' s):∀ (f:Nat) (p:Array Nat) (k:Nat),PmR n p->UpTo rk p k->k+f=n->(kas_bin f p k).kasWp cmp Q s
 |0,p,k,hp,U,e=>go p hp (by rw [← e];exact U)
 | f+1,p,k,hp,U,e=>by
   unfold kas_bin
   rw [KasT.kasWp_bind]
   have hz:=hp.size
   refine place_wp X hp (by omega) k 0 k (by omega) (by omega) (by omega) (fun i h=>by omega) (fun i h1 h2=>by omega) (fun l hl a1 a2=>?_) U
   refine bin_wp X go f _ (k+1) ((Array.perm_iff_toList_perm.mp (bubble_perm _ _ _)).trans hp) (fun i j hij hj=>?_) (by omega)
   rw [bub_vl (by omega) hl,bub_vl (by omega) hl]
   by_cases c1:j=l
   ·rw [if_pos c1,if_neg (by omega),if_neg (by omega)]
    exact a1 i (by omega)
   ·rw [if_neg c1]
    by_cases c2:l<j/\j≤k
    ·rw [if_pos c2]
     by_cases c3:i=l
     ·rw [if_pos c3]
      exact a2 _ (by omega) (by omega)
     ·rw [if_neg c3]
      by_cases c4:l<i/\i≤k
      ·rw [if_pos c4]
       exact U _ _ (by omega) (by omega)
      ·rw [if_neg c4]
       exact U _ _ (by omega) (by omega)
    ·rw [if_neg c2,if_neg (by omega),if_neg (by omega)]
     exact U _ _ hij (by omega)
theorem sort_wp (X:Rk n rk cmp s) {Q:Array Nat->Shared->Prop} (h1:1≤n) (go:∀ p',PmR n p'->UpTo rk p' n->Q p' s):(kas_sort n).kasWp cmp Q s:=by
 unfold kas_sort
 rw [KasT.kasWp_bind]
 refine count_wp X (p:=(List.range n).toArray) (by unfold PmR;exact .refl _) h1 fun m p a b hp U=>?_
 dsimp only
 by_cases c:m<n
 ·rw [if_pos c,Nat.max_eq_left a]
  exact bin_wp X go _ p m hp U (by omega)
 ·rw [if_neg c]
  obtain rfl:m=n:=by omega
  exact go p hp U
end
abbrev Tri:=Int×Int×Int
def rkT (x:Tri):Int:=x.1*1000000000000+x.2.1*1000000+x.2.2
structure TrOk (x:Tri):Prop where
 a:0≤x.2.1/\x.2.1<1000000
 b:0≤x.2.2/\x.2.2<1000000
theorem rkT_inj {x y:Tri} (hx:TrOk x) (hy:TrOk y) (e:rkT x=rkT y):x=y:=by
 obtain ⟨x1,x2,x3⟩:=x
 obtain ⟨y1,y2,y3⟩:=y
 obtain ⟨⟨a1,a2⟩,b1,b2⟩:=hx
 obtain ⟨⟨c1,c2⟩,d1,d2⟩:=hy
 simp only [rkT] at *
 have:x1=y1:=by omega
 have:x2=y2:=by omega
 have:x3=y3:=by omega
 subst_vars
 rfl
def TriAt (h:Heap) (v:Value) (x:Tri):Prop:=∃ b t1 t2 t3,v=.ref b/\IsTup h b #[.int x.1 t1,.int x.2.1 t2,.int x.2.2 t3]
theorem keyLt_tup (f:Bool) (x y:Value):keyLt' (tuples' f) x y=(do
 let xs ← Builtin.List.listItems x;let ys ← Builtin.List.listItems y
 for ((p,q),i) in (xs.toList.zip ys.toList).zipIdx do
  if !(← eqBool p q) then return ← oneLt' (f && i == 0) p q
 return xs.size<ys.size):=rfl
section
variable {prog:Program} {w:World} {A:Around} {E:Value->Shared->Prop} {s:Shared}
theorem one_lt {f:Bool} {a b:Int} {t u:Tok} {Q:Bool->Shared->Prop} (h:Q (decide (a<b)) s):wpAny (model prog w) A (oneLt' f (.int a t) (.int b u)) Q E s:=by
 cases f with
 |true=>exact oneLt_int h
 | false=>
   rw [oneLt'_eq]
   refine wpAny_bind (m:=richCompare .Lt (.int a t) (.int b u)) ?_
   refine PyProof.Rows.lt_int (Q:=fun r s'=>wpAny (model prog w) A (truthOfDropped r) Q E s') ?_
   exact wpAny_truthy_bool h
theorem items_tup {a:Addr} {xs:Array Value} {Q:Array Value->Shared->Prop} (h:IsTup s.heap a xs) (q:Q xs s):wpAny (model prog w) A (Builtin.List.listItems (.ref a)) Q E s:=by
 obtain ⟨o,ho,hc,n,hd⟩:=h
 exact listItems_at ho hd q
theorem keyLt_tri {f:Bool} {x y:Value} {a b:Tri} {C:Bool->Shared->Prop} (hx:TriAt s.heap x a) (hy:TriAt s.heap y b) (oa:TrOk a) (ob:TrOk b) (h:C (decide (rkT a<rkT b)) s):wpAny (model prog w) A (keyLt' (tuples' f) x y) C (fun _ _=>False) s:=by
 obtain ⟨p,t1,t2,t3,rfl,h1⟩:=hx
 obtain ⟨q,u1,u2,u3,rfl,h2⟩:=hy
 rw [keyLt_tup]
 refine wpAny_bind (items_tup h1 (wpAny_bind (items_tup h2 ?_)))
 simp only [List.zip_cons_cons,List.zip_nil_right,List.zipIdx_cons,List.zipIdx_nil,List.forIn_cons,List.forIn_nil]
 have h0:a=b->C false s:=fun e=>by
  rw [decide_eq_false (show ¬ rkT a<rkT b by rw [e];exact Int.lt_irrefl _)] at h
  exact h
 obtain ⟨a1,a2,a3⟩:=a
 obtain ⟨b1,b2,b3⟩:=b
 obtain ⟨⟨o1,o2⟩,o3,o4⟩:=oa
 obtain ⟨⟨o5,o6⟩,o7,o8⟩:=ob
 simp only [rkT] at h
 dsimp only at o1 o2 o3 o4 o5 o6 o7 o8 h ⊢
 have no:∀ {x y:Int},x≠y->(x == y)=false:=fun q=>by simpa using q
 refine wpAny_bind (wpAny_bind (wpAny_bind (wpAny_eqBool_int ?_)))
 by_cases c1:a1=b1
 ·rw [show (a1 == b1)=true by simpa using c1]
  refine wpAny_pure ?_
  refine wpAny_bind (wpAny_bind (wpAny_eqBool_int ?_))
  by_cases c2:a2=b2
  ·rw [show (a2 == b2)=true by simpa using c2]
   refine wpAny_pure ?_
   refine wpAny_bind (wpAny_bind (wpAny_eqBool_int ?_))
   by_cases c3:a3=b3
   ·rw [show (a3 == b3)=true by simpa using c3]
    exact wpAny_pure (wpAny_pure (wpAny_pure (h0 (by rw [c1,c2,c3]))))
   rw [no c3]
   refine wpAny_bind (one_lt (wpAny_pure (wpAny_pure (wpAny_pure ?_))))
   rwa [show decide (a3<b3)=decide (a1*1000000000000+a2*1000000+a3<b1*1000000000000+b2*1000000+b3) by rw [decide_eq_decide];omega]
  ·rw [no c2]
   refine wpAny_bind (one_lt (wpAny_pure (wpAny_pure (wpAny_pure ?_))))
   rwa [show decide (a2<b2)=decide (a1*1000000000000+a2*1000000+a3<b1*1000000000000+b2*1000000+b3) by rw [decide_eq_decide];omega]
 ·rw [no c1]
  refine wpAny_bind (one_lt (wpAny_pure (wpAny_pure (wpAny_pure ?_))))
  rwa [show decide (a1<b1)=decide (a1*1000000000000+a2*1000000+a3<b1*1000000000000+b2*1000000+b3) by rw [decide_eq_decide];omega]
theorem mapM_wp {α β:Type} {f:α->Sem β} {R:α->β->Prop} (hf:∀ v r,R v r->∀ Q':β->Shared->Prop,Q' r s->wpAny (model prog w) A (f v) Q' E s):∀ {l:List α} {rs:List β},Paired R l rs->∀ {Q:List β->Shared->Prop},Q rs s->wpAny (model prog w) A (l.mapM f) Q E s
 |_,_,.nil,Q,h=>by rw [List.mapM_nil];exact wpAny_pure h
 | _,_,.cons r1 r,Q,h=>by
   rw [List.mapM_cons]
   exact wpAny_bind (hf _ _ r1 _ (wpAny_bind (mapM_wp hf r (wpAny_pure h))))
theorem first_tri {v:Value} {x:Tri} (h:TriAt s.heap v x):∃ t,∀ Q':Option Value->Shared->Prop,Q' (some (.int x.1 t)) s->wpAny (model prog w) A (firstOfTuple' v) Q' E s:=by
 obtain ⟨b,t1,t2,t3,rfl,h1⟩:=h
 refine ⟨t1,fun Q' q=>?_⟩
 rw [kas_first_eq]
 obtain ⟨o,ho,hc,n,hd⟩:=id h1
 refine wpAny_bind (wpAny_typeOf (T:="tuple") ⟨o,ho,hc⟩ ?_)
 rw [if_neg (by decide)]
 exact wpAny_bind (items_tup h1 (wpAny_pure q))
theorem firsts_ints:∀ {vs:List Value} {xs:List Tri},Paired (TriAt s.heap) vs xs->∃ us:List Value,IntsAre us (xs.map (·.1))/\Paired (fun v r=>∀ Q':Option Value->Shared->Prop,Q' r s->wpAny (model prog w) A (firstOfTuple' v) Q' E s) vs (us.map some)
 |_,_,.nil=>⟨[],.nil,.nil⟩
 | _,_,.cons h r=>by
   obtain ⟨us,i,p⟩:=firsts_ints r
   obtain ⟨t,q⟩:=first_tri (prog:=prog) (w:=w) (A:=A) (E:=E) h
   exact ⟨_::us,.cons _ t i,.cons q p⟩
theorem kind_tri {vs:List Value} {xs:List Tri} {Q:SortKind->Shared->Prop} (hp:Paired (TriAt s.heap) vs xs) (h:∀ f,Q (tuples' f) s):wpAny (model prog w) A (keyKind' vs.toArray) Q E s:=by
 obtain ⟨us,i,p⟩:=firsts_ints (prog:=prog) (w:=w) (A:=A) (E:=E) hp
 rw [keyKind'_eq,List.mapM_toArray]
 refine wpAny_bind ?_
 rw [map_eq_pure_bind]
 refine wpAny_bind (mapM_wp (fun v r q=>q) p (wpAny_pure ?_))
 rw [if_pos (by simp)]
 refine wpAny_bind (wpAny_rule ?_)
 have e:(us.map some).toArray.filterMap id=us.toArray:=by simp
 rw [e,oneTypeOnly'_eq,List.mapM_toArray,mapM_typeOf_ints i]
 simp only [map_pure,pure_bind]
 split
 ·exact wpAny_pure (h _)
 ·exact wpAny_pure (h _)
end
theorem sort_keyed (a fa:Addr):Builtin.«list.sort» ⟨[.ref a],[("key",.ref fa)]⟩=(do
 let items ← Builtin.List.listItems (.ref a)
 Builtin.List.listUpdate (.ref a) fun _=>#[]
 let before ← seqEpoch a
 let held ← newTuple items.toList
 let ks ← newList []
 holding [held,ks] do
  rule "list.sort.key"
  for x in items do
   match ← (call (.ref fa) [x]).attempt with
   |.ok k=>Builtin.List.listUpdate ks (·.push k)
   | .error e=>
     rule "list.sort.key-raised"
     let made ← Builtin.List.listItems ks
     Builtin.List.listUpdate ks fun _=>#[]
     letGo made.toList.reverse [e]
     Builtin.List.listUpdate (.ref a) fun _=>items;throw e
  let keys ← Builtin.List.listItems ks
  let kind ← if items.size<2 then pure general' else keyKind' keys
  let ((),s) ← (if items.size<2 then pure () else sortRuns').run (SortSt.mk' kind (keys.zip items) #[] 7 none)
  Builtin.List.listUpdate ks fun _=>#[]
  letGo ((arrOf s).map (·.1)).toList (failedOf s).toList
  let touched:=(← seqEpoch a) != before
  Builtin.List.listUpdate (.ref a) fun _=>(arrOf s).map (·.2)
  if let some e:=failedOf s then rule "list.sort.comparison-raised";throw e
  if touched then rule "list.sort.modified";raiseError "ValueError" "list modified during sort"
  ret .none):=by
 rfl
section
variable {prog:Program} {w:World} {A:Around} {E:Value->Shared->Prop} {s:Shared}
theorem forIn_inv {α:Type} {g:α->PUnit->Sem (ForInStep PUnit)} {l:List α} {Q:PUnit->Shared->Prop} (J:Nat->Shared->Prop) (step:∀ i x s,l[i]?=some x->J i s->wpAny (model prog w) A (g x ⟨⟩) (fun r s'=>r=.yield ⟨⟩/\J (i+1) s') E s) (fin:∀ s',J l.length s'->Q ⟨⟩ s') :
 ∀ (k:Nat) (m:List α) (s:Shared),l.drop k=m->k≤l.length->J k s->wpAny (model prog w) A (forIn m ⟨⟩ g) Q E s
 | k,[],s,e,hk,j=>by
   rw [List.forIn_nil]
   have:l.length≤k:=List.drop_eq_nil_iff.mp e
   obtain rfl:k=l.length:=by omega
   exact wpAny_pure (fin s j)
 | k,x::m,s,e,hk,j=>by
   have hx:l[k]?=some x:=by rw [← List.head?_drop,e];rfl
   have hlt:k<l.length:=(List.getElem?_eq_some_iff.mp hx).1
   rw [List.forIn_cons]
   refine wpAny_bind (wpAny_mono (step k x s hx j) (fun r s' q=>?_) fun _ _ z=>z)
   obtain ⟨rfl,q⟩:=q
   exact forIn_inv J step fin (k+1) m s' (by rw [← List.drop_drop,e];rfl) hlt q
theorem paired_getD {α β:Type} {R:α->β->Prop} {d:α} {e:β}:∀ {l:List α} {m:List β},Paired R l m->∀ i,i<l.length->R (l.getD i d) (m.getD i e)
 |_,_,.nil,i,h=>by simp at h
 |_,_,.cons r1 r,0,h=>r1
 |_,_,.cons r1 r,i+1,h=>paired_getD r i (by simpa using h)
theorem nodup_getD {α:Type} {d:α} {l:List α} (nd:l.Nodup) {i k:Nat} (hi:i<l.length) (hk:k<l.length) (e:l.getD i d=l.getD k d):i=k:=by
 rw [List.getD_eq_getElem?_getD,List.getD_eq_getElem?_getD,List.getElem?_eq_getElem hi,List.getElem?_eq_getElem hk] at e
 have pw:=List.pairwise_iff_getElem.mp nd
 rcases Nat.lt_trichotomy i k with z|z|z
 ·exact absurd e (pw i k hi hk z)
 ·exact z
 ·exact absurd e.symm (pw k i hk hi z)
theorem sort_key {a fa:Addr} {vs:List Value} {n:Nat} {xs:List Tri} {P:PySem.Fin->Shared->Prop} (ho:s.heap.get? a=some (seqObj "list" vs.toArray n)) (h64:vs.length<64) (hx:xs.length=vs.length) (ok:∀ x∈xs,TrOk x) (nd:xs.Nodup)
 (J:Nat->List Value->Shared->Prop)
 (at_:∀ e kl s',J e kl s'->s'.heap.get? a=some (seqObj "list" #[] e)/\∃ c,s'.heap.get? (s.heap.objs.size+1)=some (seqObj "list" kl.toArray c))
 (h0:∀ e,(((s.heap.update a (Obj.mapSeq fun _=>#[])).push (seqObj "tuple" vs.toArray 0)).push (seqObj "list" #[] 0)).get? a=some (seqObj "list" #[] e)->J e [] { s with heap:=((s.heap.update a (Obj.mapSeq fun _=>#[])).push (seqObj "tuple" vs.toArray 0)).push (seqObj "list" #[] 0) })
 (step:∀ e kl x s',J e kl s'->vs[kl.length]?=some x->wpAny (model prog w) A (call (.ref fa) [x]) (fun k s''=>(∃ c,s''.heap.get? (s.heap.objs.size+1)=some (seqObj "list" kl.toArray c))/\J e (kl++[k]) { s'' with heap:=s''.heap.update (s.heap.objs.size+1) (Obj.mapSeq (·.push k)) }) (fun _ _=>False) s')
 (fin:∀ e kl s',J e kl s'->kl.length=vs.length->Paired (TriAt s'.heap) kl xs/\∀ p:Array Nat,PmR vs.length p->UpTo (fun i=>rkT (xs.getD i (0,0,0))) p vs.length->P (.done (.ret .none)) { s' with heap:=(s'.heap.update (s.heap.objs.size+1) (Obj.mapSeq fun _=>#[])).update a (Obj.mapSeq fun _=>(p.toList.map fun i=>vs.getD i .none).toArray) }) :
 wpAny (model prog w) A (Builtin.«list.sort» ⟨[.ref a],[("key",.ref fa)]⟩) P E s:=by
 have ha:a<s.heap.objs.size:=Heap.lt_size ho
 have vz:vs.length≤sizeLine:=Nat.le_trans (Nat.le_of_lt h64) (by decide)
 rw [sort_keyed]
 refine wpAny_bind (listItems_at ho rfl ?_)
 refine wpAny_bind (listUpdate_at ho rfl ?_ (by rw [List.size_toArray];exact vz) (Nat.zero_le _))
 obtain ⟨e1,ho1⟩:∃ e1,(s.heap.update a (Obj.mapSeq fun _=>(#[]:Array Value))).get? a=some (seqObj "list" #[] e1):=⟨_,get?_update_seq ho fun _=>#[]⟩
 refine wpAny_bind (seqEpoch_at ho1 rfl ?_)
 refine wpAny_bind (wpAny_newTuple ?_ vz)
 refine wpAny_bind (wpAny_newList ?_ (Nat.zero_le _))
 dsimp only
 have hks:((s.heap.update a (Obj.mapSeq fun _=>(#[]:Array Value))).push { cls:=.type "tuple",data:=.seq vs.toArray.toList.toArray }).objs.size=s.heap.objs.size+1:=by rw [size_push',Heap.size_update]
 rw [hks]
 refine wpAny_holding (wpAny_bind (wpAny_rule ?_))
 show wpAny (model prog w) A _ P E { s with heap:=((s.heap.update a (Obj.mapSeq fun _=>(#[]:Array Value))).push (seqObj "tuple" vs.toArray 0)).push (seqObj "list" #[] 0) }
 refine wpAny_bind ?_
 rw [← Array.forIn_toList]
 refine forIn_inv (l:=vs) (fun i s'=>∃ kl,kl.length=i/\J e1 kl s') ?_ (fun s' j=>?_) 0 vs _ rfl (Nat.zero_le _) ⟨[],rfl,h0 e1 (Heap.get?_push_of_some _ (Heap.get?_push_of_some _ ho1))⟩
 ·rintro i x s' hxi ⟨kl,rfl,j⟩
  refine wpAny_bind (wpAny_attempt (wpAny_mono (step e1 kl x s' j hxi) (fun k s'' q=>?_) fun _ _ z=>z.elim))
  obtain ⟨⟨c,ec⟩,q⟩:=q
  have kz:kl.length<vs.length:=(List.getElem?_eq_some_iff.mp hxi).1
  refine wpAny_bind (listUpdate_at ec rfl ?_ (by rw [List.size_toArray];omega) (by rw [Array.size_push,List.size_toArray];omega))
  exact wpAny_pure ⟨rfl,kl++[k],by simp,q⟩
 ·obtain ⟨kl,hl,j⟩:=j
  obtain ⟨hA,c,hK⟩:=at_ e1 kl s' j
  obtain ⟨pt,go⟩:=fin e1 kl s' j hl
  refine wpAny_bind (listItems_at hK rfl ?_)
  have xl:xs.length=kl.length:=by omega
  have itz:(kl.toArray.zip vs.toArray).size=vs.length:=by simp [hl]
  have it1:∀ i,i<vs.length->(kas_item (kl.toArray.zip vs.toArray) i).1=kl.getD i .none:=fun i hi=>by
   unfold kas_item
   rw [Array.getD_eq_getD_getElem?,List.getD_eq_getElem?_getD]
   simp [hi,hl]
  have it2:∀ i,i<vs.length->(kas_item (kl.toArray.zip vs.toArray) i).2=vs.getD i .none:=fun i hi=>by
   unfold kas_item
   rw [Array.getD_eq_getD_getElem?,List.getD_eq_getElem?_getD]
   simp [hi,hl]
  have tail:∀ (st':SortSt) (p:Array Nat),arrOf st'=p.map (kas_item (kl.toArray.zip vs.toArray))->failedOf st'=none->PmR vs.length p->UpTo (fun i=>rkT (xs.getD i (0,0,0))) p vs.length->
   wpAny (model prog w) A (do
    Builtin.List.listUpdate (.ref (s.heap.objs.size+1)) fun _=>#[]
    letGo ((arrOf st').map (·.1)).toList (failedOf st').toList
    let touched:=(← seqEpoch a) != e1
    Builtin.List.listUpdate (.ref a) fun _=>(arrOf st').map (·.2)
    if let some e:=failedOf st' then rule "list.sort.comparison-raised";throw e
    if touched then rule "list.sort.modified";raiseError "ValueError" "list modified during sort"
    ret .none) P E s':=fun st' p ha' hf hp hu=>by
   have hpz:=hp.size
   have hout:(arrOf st').map (·.2)=(p.toList.map fun i=>vs.getD i .none).toArray:=by
    apply Array.toList_inj.mp
    rw [ha',Array.map_map,Array.toList_map]
    exact List.map_congr_left fun i hi=>it2 i (List.mem_range.mp ((List.Perm.mem_iff hp).mp hi))
   have ne:a≠s.heap.objs.size+1:=Nat.ne_of_lt (Nat.lt_succ_of_lt ha)
   refine wpAny_bind (listUpdate_at hK rfl ?_ (by rw [List.size_toArray];omega) (Nat.zero_le _))
   refine wpAny_bind (wpAny_letGo ?_)
   have hA2:(s'.heap.update (s.heap.objs.size+1) (Obj.mapSeq fun _=>(#[]:Array Value))).get? a=some (seqObj "list" #[] e1):=(Heap.get?_update_other _ _ (Ne.symm ne)).trans hA
   refine wpAny_bind (seqEpoch_at (s:={ s' with heap:=s'.heap.update (s.heap.objs.size+1) (Obj.mapSeq fun _=>#[]) }) hA2 rfl ?_)
   refine wpAny_bind (listUpdate_at (s:={ s' with heap:=s'.heap.update (s.heap.objs.size+1) (Obj.mapSeq fun _=>#[]) }) hA2 rfl ?_ (Nat.zero_le _) ?_)
   ·rw [hf,hout]
    simp only [bne_self_eq_false,Bool.false_eq_true,if_false]
    exact wpAny_pure (go p hp hu)
   ·rw [hout,List.size_toArray,List.length_map,Array.length_toList,hpz]
    omega
  by_cases h2:vs.length<2
  ·rw [if_pos (by simpa using h2),if_pos (by simpa using h2)]
   refine wpAny_bind (wpAny_pure ?_)
   refine wpAny_bind (wpAny_pure ?_)
   refine tail _ (List.range vs.length).toArray ?_ rfl (.refl _) (fun i k h3 h4=>by omega)
   have e:=kas_range (kl.toArray.zip vs.toArray)
   rw [itz] at e
   exact e.symm
  ·rw [if_neg (by simpa using h2),if_neg (by simpa using h2)]
   refine wpAny_bind (kind_tri pt fun f=>?_)
   have est:SortSt.mk' (tuples' f) (kl.toArray.zip vs.toArray) #[] 7 none=kas_st (tuples' f) (kl.toArray.zip vs.toArray) (List.range vs.length).toArray:=by
    have e:=kas_range (kl.toArray.zip vs.toArray)
    rw [itz] at e
    unfold kas_st
    rw [e]
   have pat:∀ i,i<vs.length->TriAt s'.heap (kl.getD i .none) (xs.getD i (0,0,0)):=fun i hi=>paired_getD pt i (by omega)
   have mem:∀ i,i<vs.length->xs.getD i (0,0,0)∈xs:=fun i hi=>by
    rw [List.getD_eq_getElem?_getD,List.getElem?_eq_getElem (by omega)]
    exact List.getElem_mem _
   have R:Rk vs.length (fun i=>rkT (xs.getD i (0,0,0))) (kas_cmp prog w A (tuples' f) (kl.toArray.zip vs.toArray)) s':=by
    refine ⟨fun i k hi hk e=>?_,fun i k C hi hk h=>?_⟩
    ·have e':=rkT_inj (ok _ (mem i hi)) (ok _ (mem k hk)) e
     exact nodup_getD nd (by omega) (by omega) e'
    ·unfold kas_cmp
     rw [it1 i hi,it1 k hk]
     exact keyLt_tri (pat i hi) (pat k hk) (ok _ (mem i hi)) (ok _ (mem k hk)) h
   have run:=kas_runs (E:=E) (prog:=prog) (w:=w) (A:=A) (κ:=tuples' f) (it:=kl.toArray.zip vs.toArray) (n:=vs.length) (s:=s') (Q:=fun _ st' s''=>s''=s'/\∃ p:Array Nat,arrOf st'=p.map (kas_item (kl.toArray.zip vs.toArray))/\failedOf st'=none/\PmR vs.length p/\UpTo (fun i=>rkT (xs.getD i (0,0,0))) p vs.length)
    (G:=fun p s''=>s''=s'/\PmR vs.length p/\UpTo (fun i=>rkT (xs.getD i (0,0,0))) p vs.length) (by omega) h64 (fun p' st' s'' a1 a2 a3 a4=>⟨a4.1,p',a2,a3,a4.2.1,a4.2.2⟩) (sort_wp R (by omega) fun p' hp hu=>⟨rfl,hp,hu⟩)
   rw [← est] at run
   refine wpAny_bind (wpAny_mono run ?_ fun _ _ e=>e)
   rintro ⟨⟨⟩,st'⟩ s'' ⟨rfl,p,b1,b2,b3,b4⟩
   exact tail st' p b1 b2 b3 b4
end
theorem args_sortedK (a v:Value):argsOk "sorted" ⟨[a],[("key",v)]⟩:=by unfold argsOk;kernel_rfl
theorem args_sortK (a v:Value):argsOk "list.sort" ⟨[a],[("key",v)]⟩:=by unfold argsOk;kernel_rfl
abbrev triV (x:Tri):List V:=[.int x.1,.int x.2.1,.int x.2.2]
theorem vals_refs:∀ {bs:List Addr} {us:List Value},Vals (bs.map V.ref) us->us=bs.map Value.ref
 |[],_,.nil=>rfl
 |b::bs,_,.cons r1 r=>by rw [vals_refs r,show _=Value.ref b from r1];rfl
theorem refs_vals:∀ bs:List Addr,Vals (bs.map V.ref) (bs.map Value.ref)
 |[]=>.nil
 |b::bs=>.cons rfl (refs_vals bs)
theorem vals_pick {xs:List V} {vs:List Value} (r:Vals xs vs):∀ p:List Nat,(∀ i∈p,i<xs.length)->Vals (p.map fun i=>xs.getD i .non) (p.map fun i=>vs.getD i .none)
 |[],_=>.nil
 | i::p,h=>by
   refine .cons ?_ (vals_pick r p fun j hj=>h j (List.mem_cons_of_mem _ hj))
   have go:∀ {xs:List V} {vs:List Value},Vals xs vs->∀ i,i<xs.length->RelV (xs.getD i .non) (vs.getD i .none):=fun r=>by
    intro i
    induction r generalizing i with
    |nil=>intro h;simp at h
    | cons r1 r ih=>
      intro h
      cases i with
      |zero=>exact r1
      |succ i=>exact ih i (by simpa using h)
   exact go r i (h i (List.mem_cons_self ..))
section
variable {X:Cx}
theorem sortedK_run {pins:List (Addr×Obj)} {σ:St} {H:Hp} {s:Shared} {p f:Addr} {xs:List V} {trs:List Tri} {Q:VK} (I:Inv X pins σ H s) (hq:SqL X.K H p xs) (h64:xs.length<64) (hx:trs.length=xs.length) (ok:∀ x∈trs,TrOk x) (nd:trs.Nodup)
 (KF:∀ (s':Shared) (H':Hp) (i:Nat) (x:V) (u:Value) (tr:Tri),Same H H'->Inv X pins σ H' s'->xs[i]?=some x->trs[i]?=some tr->RelV x u->wpAny (model X.prog X.w) X.A.in1.in1 (call (.ref f) [u]) (EP X pins σ fun v H''=>∃ b,v=.ref b/\H'' b=some (.tup (triV tr))/\Same H' H'') (fun _ _=>False) s')
 (q:∀ (o:List Nat) l H',o.Perm (List.range xs.length)->o.Pairwise (fun i j=>rkT (trs.getD i (0,0,0))<rkT (trs.getD j (0,0,0)))->H' l=some (.lst (o.map fun i=>xs.getD i .non))->H l=none->Same H H'->Q (.ref l) H') :
 wpAny (model X.prog X.w) X.A (call (.builtin "sorted") [.ref p] [("key",.ref f)]) (EP X pins σ Q) X.xe s:=by
 obtain ⟨vs,rv,pl,hz⟩:=I.list hq
 have vl:vs.length=xs.length:=rv.length.symm
 have vz:vs.length≤sizeLine:=by rw [vl];exact hz
 refine call_function_entry_kw kind_sorted plain_sorted entry_sorted (args_sortedK _ _) ?_
 unfold Builtin.«sorted»
 refine wpAny_bind (m:=checkCount "sorted" 1 1 _) (wpAny_pure ?_)
 refine wpAny_bind (collect_list pl.isList ?_ vz)
 have k1:∀ b o,s.heap.get? b=some o->((s.heap.push (seqObj "list" #[] 0)).update s.heap.objs.size (Obj.mapSeq (·++vs.toArray))).get? b=some o:=fun b o e=>(Heap.get?_update_other _ _ (Nat.ne_of_gt (Heap.lt_size e))).trans (Heap.get?_push_of_some _ e)
 have I1:=I.kept (t':=s.toks) k1
 have z1:((s.heap.push (seqObj "list" #[] 0)).update s.heap.objs.size (Obj.mapSeq (·++vs.toArray))).objs.size=s.heap.objs.size+1:=by rw [Heap.size_update,size_push']
 generalize ((s.heap.push (seqObj "list" #[] 0)).update s.heap.objs.size (Obj.mapSeq (·++vs.toArray)))=h1 at k1 I1 z1 ⊢
 refine wpAny_bind (wpAny_newList ?_ vz)
 have hoL:(h1.push (seqObj "list" vs.toArray 0)).get? h1.objs.size=some (seqObj "list" vs.toArray 0):=Heap.get?_push_size _ rfl
 show wpAny _ _ _ _ _ { s with heap:=h1.push (seqObj "list" vs.toArray 0) }
 refine wpAny_bind (wpAny_holding (wpAny_call_entry_kw slot_list_sort ⟨_,hoL,rfl⟩ entry_list_sort ?_ (args_sortK _ _)))
 have hLz:(h1.push (seqObj "list" vs.toArray 0)).objs.size=h1.objs.size+1:=size_push' ..
 generalize hhL:h1.push (seqObj "list" vs.toArray 0)=hL at hoL hLz ⊢
 have k2:∀ b o,h1.get? b=some o->hL.get? b=some o:=fun b o e=>by rw [← hhL];exact Heap.get?_push_of_some _ e
 have nL:H h1.objs.size=none:=I1.hok.fresh (Nat.le_refl _)
 have nT:H hL.objs.size=none:=I1.hok.fresh (by rw [hLz];exact Nat.le_succ _)
 have nK:H (hL.objs.size+1)=none:=I1.hok.fresh (by rw [hLz];exact Nat.le_succ_of_le (Nat.le_succ _))
 have LT:h1.objs.size≠hL.objs.size:=by rw [hLz];exact Nat.ne_of_lt (Nat.lt_succ_self _)
 have LK:h1.objs.size≠hL.objs.size+1:=by rw [hLz];exact Nat.ne_of_lt (Nat.lt_succ_of_lt (Nat.lt_succ_self _))
 have TK:hL.objs.size≠hL.objs.size+1:=Nat.ne_of_lt (Nat.lt_succ_self _)
 let H3:Nat->Hp:=fun e=>upd (upd (upd H h1.objs.size (lamO h1.objs.size (seqObj "list" #[] e))) hL.objs.size (.tup xs)) (hL.objs.size+1) (.lst [])
 have h3:∀ e b o,H b=some o->H3 e b=some o:=fun e b o eb=>by
  show upd _ _ _ b=some o
  rw [upd_ne (fun z=>by rw [z,nK] at eb;cases eb),upd_ne (fun z=>by rw [z,nT] at eb;cases eb),upd_ne (fun z=>by rw [z,nL] at eb;cases eb)]
  exact eb
 have h3L:∀ e,H3 e h1.objs.size=some (lamO h1.objs.size (seqObj "list" #[] e)):=fun e=>by
  show upd _ _ _ _=_
  rw [upd_ne LK,upd_ne LT,upd_same]
 refine sort_key (s:={ s with heap:=hL }) (xs:=trs) hoL (by omega) (by omega) ok nd (fun e kl s'=>∃ (bs:List Addr) (H':Hp),kl=bs.map Value.ref/\Inv X pins σ H' s'/\(∀ b o,b≠hL.objs.size+1->H3 e b=some o->H' b=some o)/\H' (hL.objs.size+1)=some (.lst (bs.map V.ref))/\∀ (i:Nat) b,bs[i]?=some b->∃ tr,trs[i]?=some tr/\H' b=some (.tup (triV tr))) ?_ ?_ ?_ ?_
 ·rintro e kl s' ⟨bs,H',rfl,J,kp,hK,hb⟩
  refine ⟨(J.hok _ _ (kp _ _ LK (h3L e))).1,?_⟩
  obtain ⟨_,its,n,r,_,g⟩:=J.lstM hK
  rw [vals_refs r] at g
  exact ⟨n,g⟩
 ·intro e he
  obtain ⟨e',ge⟩:∃ e',(hL.update h1.objs.size (Obj.mapSeq fun _=>(#[]:Array Value))).get? h1.objs.size=some (seqObj "list" #[] e'):=⟨_,get?_update_seq hoL fun _=>#[]⟩
  have ee:e'=e:=by
   have:=Heap.get?_push_of_some (seqObj "list" #[] 0) (Heap.get?_push_of_some (seqObj "tuple" vs.toArray 0) ge)
   rw [he] at this
   injection this with this
   injection this with _ _ this _
   injection this with _ this
   exact this.symm
  subst ee
  have I2:=I1.laid (a:=h1.objs.size) (o:=lamO h1.objs.size (seqObj "list" #[] e')) (h':=hL.update h1.objs.size (Obj.mapSeq fun _=>#[])) (t':=s.toks) (fun b o eb=>(Heap.get?_update_other _ _ (Nat.ne_of_gt (Heap.lt_size eb))).trans (k2 b o eb)) (Nat.le_refl _) (lamO_ok ge)
  have zz:(hL.update h1.objs.size (Obj.mapSeq fun _=>(#[]:Array Value))).objs.size=hL.objs.size:=Heap.size_update ..
  have I3:=I2.laid (a:=hL.objs.size) (o:=.tup xs) (h':=(hL.update h1.objs.size (Obj.mapSeq fun _=>#[])).push (seqObj "tuple" vs.toArray 0)) (t':=s.toks) (fun b o eb=>Heap.get?_push_of_some _ eb) (Nat.le_of_eq zz) (show ObjOk X.prog X.w _ _ _ (.tup xs) from ⟨hz,vs,rv,by rw [← zz];exact IsTup.new _ _⟩)
  have z3:((hL.update h1.objs.size (Obj.mapSeq fun _=>(#[]:Array Value))).push (seqObj "tuple" vs.toArray 0)).objs.size=hL.objs.size+1:=by rw [size_push',zz]
  have I4:=I3.laid (a:=hL.objs.size+1) (o:=.lst []) (h':=((hL.update h1.objs.size (Obj.mapSeq fun _=>#[])).push (seqObj "tuple" vs.toArray 0)).push (seqObj "list" #[] 0)) (t':=s.toks) (fun b o eb=>Heap.get?_push_of_some _ eb) (Nat.le_of_eq z3) (show ObjOk X.prog X.w _ _ _ (.lst []) from ⟨Nat.zero_le _,[],0,.nil,by rw [← z3];exact Heap.get?_push_size _ rfl⟩)
  exact ⟨[],_,rfl,I4,fun b o _ eb=>eb,upd_same,fun i b eb=>by simp at eb⟩
 ·rintro e kl u s' ⟨bs,H',rfl,J,kp,hK,hb⟩ hu
  rw [List.length_map] at hu
  have hi:bs.length<vs.length:=(List.getElem?_eq_some_iff.mp hu).1
  have sm:Same H H':=fun b o eb=>kp b o (fun z=>by rw [z,nK] at eb;cases eb) (h3 e b o eb)
  have rx:∃ x,xs[bs.length]?=some x/\RelV x u:=by
   have:=vals_pick rv [bs.length] (fun i hi'=>by simp at hi';omega)
   cases this with
   | cons r1 _=>
     refine ⟨_,List.getElem?_eq_getElem (show bs.length<xs.length by omega),?_⟩
     have e1:xs.getD bs.length .non=xs[bs.length]'(by omega):=by rw [List.getD_eq_getElem?_getD,List.getElem?_eq_getElem (show bs.length<xs.length by omega)];rfl
     have e2:vs.getD bs.length .none=u:=by rw [List.getD_eq_getElem?_getD,hu];rfl
     dsimp only at r1
     rw [e1,e2] at r1
     exact r1
  obtain ⟨x,ex,rx⟩:=rx
  have et:=List.getElem?_eq_getElem (show bs.length<trs.length by omega)
  refine wpAny_mono (KF s' H' bs.length x u _ sm J ex et rx) (fun k s'' z=>?_) fun _ _ z=>z
  obtain ⟨v,H'',J2,rv2,b,rfl,hbb,s2⟩:=z
  cases (show k=Value.ref b from rv2)
  have hK2:=s2 _ _ hK
  obtain ⟨_,its,n,r,_,g⟩:=J2.lstM hK2
  have ei:=vals_refs r
  rw [ei] at g r
  refine ⟨⟨n,g⟩,bs++[b],_,by rw [List.map_append];rfl,J2.lset (t':=s''.toks) (ys:=(bs++[b]).map V.ref) (its':=(bs++[b]).map Value.ref) hK2 g (by rw [List.push_toArray,List.map_append];rfl) (refs_vals _) (by rw [List.length_map,List.length_append,List.length_singleton];omega),fun c o nc ec=>?_,upd_same,fun j c ec=>?_⟩
  ·rw [upd_ne nc]
   exact s2 _ _ (kp c o nc ec)
  ·by_cases q:j<bs.length
   ·rw [List.getElem?_append_left q] at ec
    obtain ⟨tr,e1,e2⟩:=hb j c ec
    have e3:=s2 _ _ e2
    refine ⟨tr,e1,?_⟩
    rw [upd_ne (fun z=>by rw [z,hK2] at e3;cases e3)]
    exact e3
   ·rw [List.getElem?_append_right (by omega)] at ec
    obtain ⟨h5,rfl⟩:=List.getElem?_eq_some_iff.mp ec
    simp only [List.length_singleton] at h5
    obtain rfl:j=bs.length:=by omega
    refine ⟨_,et,?_⟩
    simp only [Nat.sub_self,List.getElem_cons_zero]
    rw [upd_ne (fun z=>by rw [z,hK2] at hbb;cases hbb)]
    exact hbb
 ·rintro e kl s' ⟨bs,H',rfl,J,kp,hK,hb⟩ hl
  rw [List.length_map] at hl
  have tri:∀ b (tr:Tri),H' b=some (.tup (triV tr))->TriAt s'.heap (.ref b) tr:=fun b tr eb=>by
   obtain ⟨its,r,ht,_⟩:=J.tuple (SqT.of eb)
   cases r with
   | cons r1 r=>
     cases r with
     | cons r2 r=>
       cases r with
       | cons r3 r=>
         cases r
         obtain ⟨t1,rfl⟩:=r1
         obtain ⟨t2,rfl⟩:=r2
         obtain ⟨t3,rfl⟩:=r3
         exact ⟨b,t1,t2,t3,rfl,ht⟩
  have pr:∀ (bs:List Addr) (ts:List Tri),bs.length=ts.length->(∀ (i:Nat) b,bs[i]?=some b->∃ tr,ts[i]?=some tr/\H' b=some (.tup (triV tr)))->Paired (TriAt s'.heap) (bs.map Value.ref) ts:=fun bs=>by
   induction bs with
   | nil=>
     intro ts hz _
     cases ts with
     |nil=>exact .nil
     |cons _ _=>simp at hz
   | cons b bs ih=>
     intro ts hz h
     cases ts with
     |nil=>simp at hz
     | cons t ts=>
       obtain ⟨tr,e1,e2⟩:=h 0 b rfl
       cases e1
       exact .cons (tri b t e2) (ih ts (by simpa using hz) fun i c ec=>by simpa using h (i+1) c (by simpa using ec))
  refine ⟨pr bs trs (by omega) hb,fun o ho hu=>⟨_,rfl,wpAny_pure ⟨_,rfl,?_⟩⟩⟩
  obtain ⟨_,its,n,r,_,g⟩:=J.lstM hK
  have J2:=J.lset (t':=s'.toks) (ys:=[]) (its':=[]) (f:=fun _=>#[]) hK g rfl .nil (Nat.zero_le _)
  have hL':=kp _ _ LK (h3L e)
  have hL2:upd H' (hL.objs.size+1) (.lst []) h1.objs.size=some (lamO h1.objs.size (seqObj "list" #[] e)):=by rw [upd_ne LK];exact hL'
  have gL:(s'.heap.update (hL.objs.size+1) (Obj.mapSeq fun _=>(#[]:Array Value))).get? h1.objs.size=some (seqObj "list" #[] e):=(Heap.get?_update_other _ _ (Ne.symm LK)).trans (J.hok _ _ hL').1
  have om:∀ i∈o.toList,i<xs.length:=fun i hi=>by
   have:=List.mem_range.mp ((List.Perm.mem_iff ho).mp hi)
   omega
  have oz:=ho.size
  have vo:=vals_pick rv o.toList om
  have ol:(o.toList.map fun i=>xs.getD i .non).length≤sizeLine:=by rw [List.length_map,Array.length_toList,oz,vl];exact hz
  have qL:=PySem.IsL.update gL (fun _=>(o.toList.map fun i=>vs.getD i .none).toArray)
  have J3:=J2.write (x:=h1.objs.size) (e:=h1.objs.size) (o:=.lst (o.toList.map fun i=>xs.getD i .non)) (h':=(s'.heap.update (hL.objs.size+1) (Obj.mapSeq fun _=>#[])).update h1.objs.size (Obj.mapSeq fun _=>(o.toList.map fun i=>vs.getD i .none).toArray)) (t':=s'.toks) (by rw [hL2];exact trivial) (.inl rfl) (fun b u hb' hu'=>(Heap.get?_update_other _ _ (Ne.symm hb')).trans hu') ⟨_,qL⟩ ⟨ol,_,_,vo,qL⟩
  refine ⟨.ref h1.objs.size,_,J3,rfl,q o.toList h1.objs.size _ (by rw [← vl];exact ho) ?_ upd_same nL fun b u eb=>?_⟩
  ·refine List.pairwise_iff_getElem.mpr fun i j hi hj hij=>?_
   have:=hu i j hij (by rw [← oz];simpa using hj)
   simp only [L2.vl] at this
   rw [getD_of (by simpa using hi),getD_of (by simpa using hj)] at this
   simpa using this
  ·rw [upd_ne (fun z=>by rw [z,nL] at eb;cases eb),upd_ne (fun z=>by rw [z,nK] at eb;cases eb)]
   exact kp b u (fun z=>by rw [z,nK] at eb;cases eb) (h3 e b u eb)
end
section
variable {P:Program} {w:World} {K:Frag} {mg:Str->Option Value} {base:Heap} {N:List Str} {qual pn:Str} {scope:Scope} {f:Addr} {cl:List (Str×Addr)} {A:Around} {outer:List Env} {s:Shared} {H:Hp} {E:XK}
theorem lam1 {σ:St} {fr:List Addr} {k:Nat} {name:Str} {params:Arguments} {body:Expr} {pm ctv:Value} {c':Addr} {Qv:VK} {t:TE} {x:V} {u:Value} (ho:H f=some (lamO f (kla_obj name qual params body scope cl pm c' ctv)))
 (hc:H c'=some (codeO c' qual)) (C:Clos scope cl N s.heap H fr σ) (hbind:∀ v,bindArgs (kla_fn name qual params body scope cl pm (.ref c') ctv) ⟨[v],[]⟩=pure [(pn,v)])
 (hpn:scope.names.lookup pn=some .local) (hnf:pn∉N) (hco:scope.isCoroutine=false) (hgen:scope.isGenerator=false) (hk:scope.kind=.function) (hcell:∀ x∈scope.names,x.2≠.cell)
 (hb:PE (cxLam P w K mg base (pn::N) qual scope f (.ref c') cl A outer s H E) body t) (hq:t (some x::σ) H Qv) (hr:Room (k+1) A) (e0:Env0 P w K mg base A outer s H) (r:RelV x u) :
 codeAny (model P w) A (.call (.ref f) ⟨[u],[]⟩) (CR (CX1 P w) outer P w H s Qv E) s:=by
 have lim:s.heap.NoLimit:=e0.mod.nolimit.keeps fun b o e=>(e0.bs b o e).1
 refine kla_callFunE hr.depth (e0.hok f _ ho).1 rfl hco hgen rfl (e0.hok c' _ hc).1 ?_
 rw [hbind]
 refine wpAny_pure (wpAny_newFunctionEnv hcell (fun y hy=>by simp at hy;rw [hy];exact hpn) (fun h₁ hns hsb=>⟨lim.fresh _ hsb,?_⟩) hk)
 show codeAny _ _ (.expr body (envX qual scope s.heap.objs.size f (.ref c') cl)) _ _
 have hk₁:∀ b o,s.heap.get? b=some o->h₁.get? b=some o:=fun b o e=>hsb.extBut b o (Nat.ne_of_lt (Heap.lt_size e)) (Heap.get?_push_of_some _ e)
 have isC:∀ x c v,cl.lookup x=some c->s.heap.IsCell c v->h₁.IsCell c v:=fun x c v e z=>by
  obtain ⟨o,ho,hd⟩:=z
  exact ⟨o,hk₁ _ _ ho,hd⟩
 have noA:∀ b:Addr,b∉([]:List Addr):=fun b z=>absurd z (by simp)
 have I:Inv (cxLam P w K mg base (pn::N) qual scope f (.ref c') cl A outer s H E) [] (some x::σ) H { s with heap:=h₁,toks:=s.toks+1 }:=by
  refine ⟨⟨e0.mod,hk,rfl,rfl,Nat.le_refl _,C.inj,fun y hy=>C.has y hy,fun y c z=>absurd z (by simp [cxLam]),fun _=>hr.hd,Around.frames_deeper e0.frames,.inr ⟨rfl,rfl⟩,fun b z=>absurd z (noA b),e0.bs,e0.bsz,fun b _ _=>noA b,fun b z=>absurd z (noA b),e0.funs,e0.frf⟩,
   rfl,e0.bare,Un.kept hk₁,⟨_,hns,fun i y v h1 h2 h3=>?_⟩,fun y c h=>?_,e0.hok.fresh (Nat.le_refl _),fun y c h=>(C.cell y c h).2.1,fun p hp=>absurd (show p∈([]:List (Addr×Obj)) from hp) (by simp),e0.hok.kept hk₁,by simp [cxLam,C.len]⟩
  ·cases i with
   | zero=>
     simp only [cxLam,List.getElem?_cons_zero] at h1 h2
     cases h1
     cases h2
     exact ⟨u,r,.inl ⟨hpn,by simp⟩⟩
   | succ i=>
     obtain ⟨fr',c,u,e,r,z⟩:=C.val i y v (by simpa [cxLam] using h1) (by simpa using h2)
     exact ⟨u,r,.inr ⟨.inr fr',c,e,isC y c _ e z⟩⟩
  ·obtain ⟨⟨v,z⟩,_⟩:=C.cell y c h
   exact ⟨v,isC y c v h z⟩
 exact kla_codeExpr (wpAny_mono (hb [] _ (some x::σ) H Qv I hq) (fun u s' ⟨v,H',J,rv,q⟩=>⟨v,H',J.os,J.bare,J.base,J.hok,rv,q⟩) fun _ _ y=>y)
end
section
variable {X:Cx}
def tSortK (X:Cx) (Pt:Addr) (params:Arguments) (body:Expr) (scope:Scope) (lp:Pos) (cl:List (Str×Addr)) (js:List Nat) (tb:TE) (t:TA):TE:=fun σ H Q=>t σ H fun vs H1=>TabOk H1 Pt lp (X.env.qual++"<lambda>")/\∀ c' H2,Lam H1 Pt lp (X.env.qual++"<lambda>") c' H2->∀ f H3,H2 f=none->(∃ ctv,H3=upd H2 f (lamO f (kla_obj "<lambda>" (X.env.qual++"<lambda>") params body scope cl ((X.mg "__name__").getD .none) c' ctv)))->
 ∃ (p:Addr) (xs:List V) (trs:List Tri),vs=[.ref p]/\SqL X.K H3 p xs/\xs.length<64/\trs.length=xs.length/\(∀ x∈trs,TrOk x)/\trs.Nodup/\
   (∀ (i:Nat) x tr H',Same H3 H'->xs[i]?=some x->trs[i]?=some tr->tb (some x::freeV js σ) H' fun v H''=>∃ b,v=.ref b/\H'' b=some (.tup (triV tr))/\Same H' H'')/\
   ∀ (o:List Nat) l H',o.Perm (List.range xs.length)->o.Pairwise (fun i j=>rkT (trs.getD i (0,0,0))<rkT (trs.getD j (0,0,0)))->H' l=some (.lst (o.map fun i=>xs.getD i .non))->H3 l=none->Same H3 H'->Q (.ref l) H'
theorem pe_sortedK {c Pt:Addr} {k:Nat} {e:Expr} {t:TA} {p kp pos:Pos} {params:Arguments} {body:Expr} {scope:Scope} {lp:Pos} {cl:List (Str×Addr)} {NL:List Str} {js:List Nat} {pn:Str} {tb:TE} (T:CodeTab X c Pt) (hr:Room (k+1) X.A.in1.in1) (ha:PA X [e] t) (hg:Gl X "sorted") (hm:X.mg "sorted" = none)
 (hdef:defaultsOf params X.env=([],[])) (hcf:closureFor scope X.env=pure cl) (hcl:∀ p∈cl,X.env.cells.lookup p.1=some p.2) (hfn:∀ x,X.fn x=true)
 (hhas:∀ p∈scope.names,(p.2=.cell∨p.2=.free)->p.1∈cl.map (·.1)) (hfree:∀ x∈NL,scope.names.lookup x=some .free) (hown:∀ x∈NL,X.env.scope.names.lookup x=some .cell) (hN:NL.map some=js.map fun j=>X.N[j]?) (hst:X.stack=X.env::X.outer) (hfm:X.env.frame=some X.env.locals)
 (hbind:∀ (f c':Addr) (ctv v:Value),bindArgs (kla_fn "<lambda>" (X.env.qual++"<lambda>") params body scope cl ((X.mg "__name__").getD .none) (.ref c') ctv) ⟨[v],[]⟩=pure [(pn,v)])
 (hpn:scope.names.lookup pn=some .local) (hnf:pn∉NL) (hco:scope.isCoroutine=false) (hgen:scope.isGenerator=false) (hk:scope.kind=.function) (hcell:∀ x∈scope.names,x.2≠.cell)
 (hb:∀ (f c':Addr) (A:Around) (outer:List Env) (s:Shared) (H:Hp),PE (cxLam X.prog X.w X.K X.mg X.base (pn::NL) (X.env.qual++"<lambda>") scope f (.ref c') cl A outer s H E0) body tb) (hstr:starEach [e] X.env=[(false,eval e X.env)]:=by rfl) :
 PE X (.Call (.Name "sorted" p) [e] [⟨some "key",.Lambda params body scope lp,kp⟩] pos) (tSortK X Pt params body scope lp cl js tb t):=by
 intro pins s σ H Q I h
 refine wpAny_Call_Name_kw (ld_blt I hg hm bt_sorted ?_ (by decide) (by decide))
 refine callWith_kw (thn (ha pos pins s σ H _ I h) fun us s1 ⟨vs,H1,I1,r1,q1⟩=>?_) (by rw [hstr];rfl) (by rw [hstr];rfl)
 obtain ⟨tk,q1⟩:=q1
 refine thn (pk_cons (nm:=some "key") (kpos:=kp) (pe_lam T hdef hcf) pk_nil pos pins s1 σ H1 (fun zs H3=>∃ c' H2 f,Lam H1 Pt lp (X.env.qual++"<lambda>") c' H2/\H2 f=none/\zs=[.ref f]/\∃ ctv,H3=upd H2 f (lamO f (kla_obj "<lambda>" (X.env.qual++"<lambda>") params body scope cl ((X.mg "__name__").getD .none) c' ctv))) I1 ⟨tk,fun c' H2 lm f ctv hf=>⟨c',H2,f,lm,hf,rfl,ctv,rfl⟩⟩) fun kvs s2 ⟨zs,H3,I2,r2,c',H2,f,lm,hf,ez,eH⟩=>?_
 subst ez
 obtain ⟨u,rfl,ru⟩:=vals1 r2
 cases (show u=Value.ref f from ru)
 obtain ⟨l,xs,trs,rfl,hq,h64,hx,ok,nd,hkey,fin⟩:=q1 c' H2 lm f H3 hf eH
 obtain ⟨u,rfl,ru⟩:=vals1 r1
 cases (show u=Value.ref l from ru)
 obtain ⟨ctv,eH⟩:=eH
 have hc2:H2 c'=some (codeO c' (X.env.qual++"<lambda>")):=by
  obtain ⟨ps,_,⟨_,_,_,rfl⟩|⟨_,e2,rfl⟩⟩:=lm
  ·exact upd_same
  ·exact e2
 have h3f:H3 f=some (lamO f (kla_obj "<lambda>" (X.env.qual++"<lambda>") params body scope cl ((X.mg "__name__").getD .none) c' ctv)):=by rw [eH];exact upd_same
 have h3c:H3 c'=some (codeO c' (X.env.qual++"<lambda>")):=by
  rw [eH,upd_ne (fun z=>by rw [z,hf] at hc2;cases hc2)]
  exact hc2
 refine sortedK_run I2 hq h64 hx ok nd (fun s' H' i x u tr sm J ex et rx=>?_) fun o l' H' a1 a2 a3 a4 a5=>fin o l' H' a1 a2 a3 a4 a5
 have e0:=J.env0
 have C:=clos_of J hcl hfn hhas hfree hown hN hst hfm
 refine wpAny_call (codeAny_mono (lam1 (E:=E0) (A:=X.A.in1.in1) (outer:=X.stack) (sm _ _ h3f) (sm _ _ h3c) C (hbind f c' ctv) hpn hnf hco hgen hk hcell (hb f c' _ _ _ _) (hkey i x tr H' sm ex et) hr ⟨by simpa using e0.frames,e0.mod,e0.bs,e0.bsz,e0.funs,e0.frf,e0.hok,e0.bare⟩ rx) fun z s'' hz=>?_)
 match z,hz with
 | .error e,hz=>
   obtain ⟨_,_,_,_,_,_,_,_,_,_,q⟩:=hz
   exact q.elim
 |.ok (.ret u),hz=>exact J.after hz
end
end L2
namespace Bf
abbrev Tie:=Int×Int×Int
def Sat (h:Int->Int) (e:Tie):Prop:=h e.2.1+e.2.2≤h e.1
def put {α:Type} (f:Int->α) (a:Int) (x:α):Int->α:=fun b=>if b=a then x else f b
theorem put_same {α:Type} {f:Int->α} {a:Int} {x:α}:put f a x a=x:=if_pos rfl
theorem put_ne {α:Type} {f:Int->α} {a b:Int} {x:α} (h:b≠a):put f a x b=f b:=if_neg h
structure St where
 h:Int->Int
 by':Int->Option Tie
 r:Int->Nat
 ts:Int->Nat
 c:Nat
def St.raise (s:St) (k:Nat) (e:Tie):St:=⟨put s.h e.1 (s.h e.2.1+e.2.2),put s.by' e.1 (some e),put s.r e.1 k,put s.ts e.1 (s.c+1),s.c+1⟩
def St.zero:St:=⟨fun _=>0,fun _=>none,fun _=>0,fun _=>0,0⟩
structure Good (ties:List Tie) (k:Nat) (s:St):Prop where
 by1:∀ v e,s.by' v=some e->e.1=v/\e∈ties
 sl:∀ v e,s.by' v=some e->s.h v≤s.h e.2.1+e.2.2/\(s.ts v<s.ts e.2.1->s.h v<s.h e.2.1+e.2.2)
 rr:∀ v e,s.by' v=some e->s.r v≤s.r e.2.1+1/\1≤s.ts v
 no:∀ v,s.by' v=none->s.r v=0
 tc:∀ v,s.ts v≤s.c
 ti:∀ u v,s.ts u=s.ts v->1≤s.ts u->u=v
 nn:∀ v,0≤s.h v
 le:∀ g:Int->Int,(∀ v,0≤g v)->(∀ e∈ties,Sat g e)->∀ v,s.h v≤g v
 rk:∀ v,s.r v≤k
theorem Good.zero (ties:List Tie) (k:Nat):Good ties k St.zero:=⟨fun v e h=>by simp [St.zero] at h,fun v e h=>by simp [St.zero] at h,fun v e h=>by simp [St.zero] at h,fun v _=>rfl,fun v=>Nat.zero_le _,fun u v _ h=>by simp [St.zero] at h,fun v=>Int.le_refl _,fun g h0 _ v=>h0 v,fun v=>Nat.zero_le _⟩
theorem Good.up {ties:List Tie} {k k':Nat} {s:St} (G:Good ties k s) (h:k≤k'):Good ties k' s:=⟨G.by1,G.sl,G.rr,G.no,G.tc,G.ti,G.nn,G.le,fun v=>Nat.le_trans (G.rk v) h⟩
theorem Good.raise {ties:List Tie} {k:Nat} {s:St} {e:Tie} (G:Good ties k s) (m:e∈ties) (hne:e.1≠e.2.1) (hlt:s.h e.1<s.h e.2.1+e.2.2) (hr:k≤s.r e.2.1+1):Good ties k (s.raise k e):=by
 obtain ⟨o,t,l⟩:=e
 dsimp only at hne hlt hr
 have hto:t≠o:=Ne.symm hne
 refine ⟨fun v e h=>?_,fun v e h=>?_,fun v e h=>?_,fun v h=>?_,fun v=>?_,fun u v h h1=>?_,fun v=>?_,fun g h0 hg v=>?_,fun v=>?_⟩
 ·dsimp only [St.raise] at h
  by_cases q:v=o
  ·subst q;rw [put_same] at h;cases h;exact ⟨rfl,m⟩
  ·rw [put_ne q] at h;exact G.by1 v e h
 ·dsimp only [St.raise] at h ⊢
  by_cases q:v=o
  ·subst q
   rw [put_same] at h;cases h
   dsimp only
   rw [put_same,put_ne hto,put_same,put_ne hto]
   have:=G.tc t
   exact ⟨Int.le_refl _,fun z=>by omega⟩
  ·rw [put_ne q] at h
   have h1:=G.sl v e h
   have hb:=G.by1 v e h
   rw [put_ne q,put_ne q]
   by_cases q2:e.2.1=o
   ·rw [q2,put_same,put_same]
    rw [q2] at h1
    exact ⟨by omega,fun _=>by omega⟩
   ·rw [put_ne q2,put_ne q2];exact h1
 ·dsimp only [St.raise] at h ⊢
  by_cases q:v=o
  ·subst q
   rw [put_same] at h;cases h
   dsimp only
   rw [put_same,put_ne hto,put_same]
   exact ⟨hr,by omega⟩
  ·rw [put_ne q] at h
   have h1:=G.rr v e h
   rw [put_ne q,put_ne q]
   by_cases q2:e.2.1=o
   ·rw [q2,put_same]
    have:=G.rk v
    exact ⟨by omega,h1.2⟩
   ·rw [put_ne q2];exact h1
 ·dsimp only [St.raise] at h ⊢
  by_cases q:v=o
  ·subst q;rw [put_same] at h;cases h
  ·rw [put_ne q] at h ⊢;exact G.no v h
 ·dsimp only [St.raise]
  by_cases q:v=o
  ·subst q;rw [put_same];exact Nat.le_refl _
  ·rw [put_ne q];exact Nat.le_trans (G.tc v) (Nat.le_succ _)
 ·dsimp only [St.raise] at h h1
  by_cases q:u=o
  ·by_cases q2:v=o
   ·rw [q,q2]
   ·rw [q,put_same,put_ne q2] at h
    have:=G.tc v
    omega
  ·by_cases q2:v=o
   ·rw [q2,put_same,put_ne q] at h
    have:=G.tc u
    omega
   ·rw [put_ne q,put_ne q2] at h
    rw [put_ne q] at h1
    exact G.ti u v h h1
 ·dsimp only [St.raise]
  by_cases q:v=o
  ·subst q;rw [put_same];have:=G.nn v;omega
  ·rw [put_ne q];exact G.nn v
 ·dsimp only [St.raise]
  by_cases q:v=o
  ·subst q
   rw [put_same]
   have h1:=G.le g h0 hg t
   have h2:g t+l≤g v:=hg _ m
   omega
  ·rw [put_ne q];exact G.le g h0 hg v
 ·dsimp only [St.raise]
  by_cases q:v=o
  ·subst q;rw [put_same];exact Nat.le_refl _
  ·rw [put_ne q];exact G.rk v
structure Round (ties:List Tie) (k:Nat) (P S:List Tie) (s:St) (st:Option Int):Prop where
 g:Good ties k s
 p:∀ e∈P,Sat s.h e∨k≤s.r e.2.1
 q:∀ e∈S,Sat s.h e∨k≤s.r e.2.1+1
 n:st=none->∀ e∈P,Sat s.h e
 y:∀ v,st=some v->s.r v=k/\∃ e∈ties,e.1=v
theorem Round.first (ties:List Tie):Round ties 1 [] ties St.zero none:=⟨.zero ties 1,fun e h=>by simp at h,fun e _=>.inr (by simp [St.zero]),fun _ e h=>by simp at h,fun v h=>by cases h⟩
theorem Round.next {ties:List Tie} {k:Nat} {s:St} {v:Int} (R:Round ties k ties [] s (some v)):Round ties (k+1) [] ties s none:=
 ⟨R.g.up (Nat.le_succ _),fun e h=>by simp at h,fun e h=>(R.p e h).imp id fun z=>by omega,fun _ e h=>by simp at h,fun v h=>by cases h⟩
theorem Round.keep {ties:List Tie} {k:Nat} {P S:List Tie} {s:St} {st:Option Int} {e:Tie} (R:Round ties k P (e::S) s st) (h:¬ s.h e.1<s.h e.2.1+e.2.2):Round ties k (P++[e]) S s st:=by
 have he:Sat s.h e:=by unfold Sat;omega
 refine ⟨R.g,fun f hf=>?_,fun f hf=>R.q f (List.mem_cons_of_mem _ hf),fun hn f hf=>?_,R.y⟩
 ·rcases List.mem_append.mp hf with hf|hf
  ·exact R.p f hf
  ·cases List.mem_singleton.mp hf;exact .inl he
 ·rcases List.mem_append.mp hf with hf|hf
  ·exact R.n hn f hf
  ·cases List.mem_singleton.mp hf;exact he
theorem sat_raise {s:St} {k:Nat} {e f:Tie} (hlt:s.h e.1<s.h e.2.1+e.2.2) (hs:Sat s.h f) (hf:f.2.1≠e.1):Sat (s.raise k e).h f:=by
 unfold Sat at hs ⊢
 dsimp only [St.raise]
 rw [put_ne hf]
 by_cases q:f.1=e.1
 ·rw [q,put_same];rw [q] at hs;omega
 ·rw [put_ne q];exact hs
theorem Round.raise {ties:List Tie} {k:Nat} {P S:List Tie} {s:St} {st:Option Int} {e:Tie} (R:Round ties k P (e::S) s st) (m:e∈ties) (hne:e.1≠e.2.1) (hlt:s.h e.1<s.h e.2.1+e.2.2):Round ties k (P++[e]) S (s.raise k e) (some e.1):=by
 have hr:k≤s.r e.2.1+1:=by
  rcases R.q e List.mem_cons_self with z|z
  ·unfold Sat at z;omega
  ·exact z
 have rr:∀ v,s.r v≤(s.raise k e).r v:=fun v=>by
  dsimp only [St.raise]
  by_cases q:v=e.1
  ·subst q;rw [put_same];exact R.g.rk _
  ·rw [put_ne q];exact Nat.le_refl _
 have ro:(s.raise k e).r e.1=k:=put_same
 have keep:∀ f,Sat s.h f->Sat (s.raise k e).h f∨k≤(s.raise k e).r f.2.1:=fun f hf=>by
  by_cases q:f.2.1=e.1
  ·right;rw [q,ro];exact Nat.le_refl _
  ·left;exact sat_raise hlt hf q
 refine ⟨R.g.raise m hne hlt hr,fun f hf=>?_,fun f hf=>?_,(fun hn=>by cases hn),fun v hv=>?_⟩
 ·rcases List.mem_append.mp hf with hf|hf
  ·rcases R.p f hf with z|z
   ·exact keep f z
   ·exact .inr (Nat.le_trans z (rr _))
  ·cases List.mem_singleton.mp hf
   left
   unfold Sat
   dsimp only [St.raise]
   rw [put_same,put_ne (Ne.symm hne)]
   exact Int.le_refl _
 ·rcases R.q f (List.mem_cons_of_mem _ hf) with z|z
  ·exact (keep f z).imp id fun z=>by omega
  ·right;have:=rr f.2.1;omega
 ·cases hv
  exact ⟨ro,e,m,rfl⟩
theorem nodup_len:∀ (n:Nat) (a:Int) (l:List Int),l.Nodup->(∀ x∈l,a≤x/\x<a+n)->l.length≤n
 | 0,a,l,_,h=>by
   cases l with
   |nil=>exact Nat.le_refl _
   |cons x r=>have:=h x List.mem_cons_self;omega
 | n+1,a,l,nd,h=>by
   by_cases q:a+n∈l
   ·have h1:=nodup_len n a (l.erase (a+n)) (nd.erase _) fun x hx=>by
     have:=(List.Nodup.mem_erase_iff nd).mp hx
     have h2:=h x this.2
     have h3:=this.1
     refine ⟨h2.1,?_⟩
     omega
    rw [List.length_erase_of_mem q] at h1
    omega
   ·have h1:=nodup_len n a l nd fun x hx=>by
     have h2:=h x hx
     have h3:x≠a+n:=fun z=>q (z ▸ hx)
     exact ⟨h2.1,by omega⟩
    omega
def nx (s:St) (v:Int):Int:=match s.by' v with
 |some e=>e.2.1
 |none=>v
def it (s:St) (v:Int):Nat->Int
 |0=>v
 |i+1=>nx s (it s v i)
theorem it_add (s:St) (v:Int) (i:Nat):∀ j,it s v (i+j)=it s (it s v i) j
 |0=>rfl
 |j+1=>by show nx s (it s v (i+j))=nx s _;rw [it_add s v i j]
theorem nx_of {s:St} {v:Int} {e:Tie} (h:s.by' v=some e):nx s v=e.2.1:=by unfold nx;rw [h]
theorem exists_dup {f:Nat->Int}:∀ n,¬ ((List.range n).map f).Nodup->∃ i j,i<j/\j<n/\f i=f j
 |0,h=>absurd (by simp) h
 | n+1,h=>by
   rw [List.range_succ,List.map_append,List.map_cons,List.map_nil] at h
   by_cases q:((List.range n).map f).Nodup
   ·by_cases q2:f n∈(List.range n).map f
    ·obtain ⟨i,hi,e⟩:=List.mem_map.mp q2
     exact ⟨i,n,List.mem_range.mp hi,Nat.lt_succ_self _,e⟩
    ·exfalso
     refine h (List.nodup_append.mpr ⟨q,by simp,fun a ha b hb=>?_⟩)
     cases List.mem_singleton.mp hb
     exact fun z=>q2 (z ▸ ha)
   ·obtain ⟨i,j,h1,h2,h3⟩:=exists_dup n q
    exact ⟨i,j,h1,Nat.lt_succ_of_lt h2,h3⟩
section
variable {ties:List Tie} {n:Nat} {a:Int} {s:St} {v:Int}
structure Stuck (ties:List Tie) (n:Nat) (a:Int) (s:St) (v:Int):Prop where
 g:Good ties (n+1) s
 nd:∀ e∈ties,(a≤e.1/\e.1<a+n)/\(a≤e.2.1/\e.2.1<a+n)/\e.1≠e.2.1
 v0:a≤v/\v<a+n
 rv:s.r v=n+1
theorem Stuck.back (S:Stuck ties n a s v):∀ i,i≤n+1->n+1≤s.r (it s v i)+i/\(a≤it s v i/\it s v i<a+n)
 |0,_=>⟨by show n+1≤s.r v+0;have:=S.rv;omega,S.v0⟩
 | i+1,h=>by
   obtain ⟨h1,h2⟩:=S.back i (by omega)
   show n+1≤s.r (nx s (it s v i))+(i+1)/\(a≤nx s (it s v i)/\nx s (it s v i)<a+n)
   cases e:s.by' (it s v i) with
   |none=>have:=S.g.no _ e;omega
   | some t=>
     rw [nx_of e]
     have:=(S.g.rr _ _ e).1
     exact ⟨by omega,(S.nd t (S.g.by1 _ _ e).2).2.1⟩
theorem Stuck.has0 (S:Stuck ties n a s v) {i:Nat} (h:i≤n):∃ e,s.by' (it s v i)=some e:=by
 obtain ⟨h1,_⟩:=S.back i (by omega)
 cases e:s.by' (it s v i) with
 |none=>have:=S.g.no _ e;omega
 |some t=>exact ⟨t,rfl⟩
theorem Stuck.per (S:Stuck ties n a s v):∃ i d,1≤d/\i+d≤n/\∀ m,i≤m->it s v (m+d)=it s v m:=by
 have h1:¬ ((List.range (n+1)).map (it s v)).Nodup:=fun nd=>by
  have:=nodup_len n a _ nd fun x hx=>by
   obtain ⟨i,hi,e⟩:=List.mem_map.mp hx
   rw [← e]
   exact (S.back i (by have:=List.mem_range.mp hi;omega)).2
  simp at this
  omega
 obtain ⟨i,j,h2,h3,h4⟩:=exists_dup _ h1
 refine ⟨i,j-i,by omega,by omega,fun m hm=>?_⟩
 have e1:m+(j-i)=j+(m-i):=by omega
 have e2:it s v m=it s v (i+(m-i)):=by rw [Nat.add_sub_cancel' hm]
 rw [e1,e2,it_add,it_add,h4]
theorem Stuck.has (S:Stuck ties n a s v):∀ i,∃ e,s.by' (it s v i)=some e:=by
 obtain ⟨i0,d,h1,h2,h3⟩:=S.per
 intro i
 induction i using Nat.strongRecOn with
 | _ i ih=>
   by_cases h:i≤n
   ·exact S.has0 h
   ·have e:it s v i=it s v (i-d):=by
     have:=h3 (i-d) (by omega)
     rw [Nat.sub_add_cancel (by omega)] at this
     exact this
    rw [e]
    exact ih (i-d) (by omega)
theorem Stuck.loop (S:Stuck ties n a s v):∃ d,1≤d/\it s v (n+d)=it s v n:=by
 obtain ⟨i0,d,h1,h2,h3⟩:=S.per
 exact ⟨d,h1,h3 n (by omega)⟩
def tieAt (s:St) (v:Int) (i:Nat):Tie:=(s.by' (it s v i)).getD (0,0,0)
theorem Stuck.tie (S:Stuck ties n a s v) (i:Nat):s.by' (it s v i)=some (tieAt s v i):=by
 obtain ⟨e,h⟩:=S.has i
 unfold tieAt
 rw [h];rfl
theorem Stuck.one (S:Stuck ties n a s v) (i:Nat):(tieAt s v i).1=it s v i:=(S.g.by1 _ _ (S.tie i)).1
theorem Stuck.mem (S:Stuck ties n a s v) (i:Nat):tieAt s v i∈ties:=(S.g.by1 _ _ (S.tie i)).2
theorem Stuck.other (S:Stuck ties n a s v) (i:Nat):(tieAt s v i).2.1=it s v (i+1):=(nx_of (S.tie i)).symm
structure Ring (es:List Tie):Prop where
 ne:es≠[]
 link:∀ i,i+1<es.length->(es.getD i (0,0,0)).2.1=(es.getD (i+1) (0,0,0)).1
 close:(es.getD (es.length-1) (0,0,0)).2.1=(es.getD 0 (0,0,0)).1
 nd:(es.map (·.1)).Nodup
 pos:0<(es.map (·.2.2)).sum
def ringOf (s:St) (v:Int) (n m:Nat):List Tie:=(List.range m).map fun i=>tieAt s v (n+i)
theorem ringOf_get {s:St} {v:Int} {n m i:Nat} (h:i<m):(ringOf s v n m).getD i (0,0,0)=tieAt s v (n+i):=by
 unfold ringOf
 rw [List.getD_eq_getElem?_getD,List.getElem?_map,List.getElem?_range h];rfl
theorem ringOf_len {s:St} {v:Int} {n m:Nat}:(ringOf s v n m).length=m:=by unfold ringOf;simp
theorem Stuck.sum (S:Stuck ties n a s v):∀ m,s.h (it s v n)-s.h (it s v (n+m))≤((ringOf s v n m).map (·.2.2)).sum/\
 ((∃ i,i<m/\s.ts (it s v (n+i))<s.ts (it s v (n+i+1)))->s.h (it s v n)-s.h (it s v (n+m))<((ringOf s v n m).map (·.2.2)).sum)
 |0=>⟨by simp [ringOf],fun ⟨i,h,_⟩=>absurd h (Nat.not_lt_zero _)⟩
 | m+1=>by
   obtain ⟨h1,h2⟩:=S.sum m
   have e:((ringOf s v n (m+1)).map (·.2.2)).sum=((ringOf s v n m).map (·.2.2)).sum+(tieAt s v (n+m)).2.2:=by
    unfold ringOf
    rw [List.range_succ,List.map_append,List.map_append,List.sum_append]
    simp
   have h3:=S.g.sl _ _ (S.tie (n+m))
   rw [S.other] at h3
   have e2:n+(m+1)=n+m+1:=rfl
   rw [e,e2]
   refine ⟨by omega,fun ⟨i,hi,ht⟩=>?_⟩
   by_cases q:i<m
   ·have:=h2 ⟨i,q,ht⟩
    omega
   ·have:i=m:=by omega
    subst this
    have:=h3.2 ht
    omega
theorem Stuck.ring (S:Stuck ties n a s v) {m:Nat} (h0:it s v (n+(m+1))=it s v n) (h1:∀ i,1≤i->i≤m->it s v (n+i)≠it s v n):Ring (ringOf s v n (m+1))/\∀ e∈ringOf s v n (m+1),e∈ties:=by
 refine ⟨⟨?_,fun i hi=>?_,?_,?_,?_⟩,fun e he=>?_⟩
 ·intro z
  have:=congrArg List.length z
  rw [ringOf_len] at this
  simp at this
 ·rw [ringOf_len] at hi
  rw [ringOf_get (by omega),ringOf_get hi,S.other,S.one]
  rfl
 ·rw [ringOf_len,Nat.add_sub_cancel,ringOf_get (Nat.lt_succ_self _),ringOf_get (Nat.succ_pos _),S.other,S.one]
  exact h0
 ·unfold ringOf
  rw [List.map_map]
  have e:(fun i=>((fun e:Tie=>e.1) ∘ fun i=>tieAt s v (n+i)) i)=fun i=>it s v (n+i):=funext fun i=>S.one _
  show ((List.range (m+1)).map (fun i=>((fun e:Tie=>e.1) ∘ fun i=>tieAt s v (n+i)) i)).Nodup
  rw [e]
  refine Classical.byContradiction fun z=>?_
  obtain ⟨i,j,h2,h3,h4⟩:=exists_dup _ z
  have e1:it s v (n+i+(m+1-j))=it s v n:=by
   rw [it_add,h4,← it_add,← h0]
   congr 1
   omega
  exact h1 (i+(m+1-j)) (by omega) (by omega) (by rw [← Nat.add_assoc];exact e1)
 ·obtain ⟨_,h2⟩:=S.sum (m+1)
  rw [h0] at h2
  refine Int.lt_of_le_of_lt (Int.le_of_eq (Int.sub_self _).symm) (h2 (Classical.byContradiction fun z=>?_))
  have dn:∀ i,i<m+1->s.ts (it s v (n+i+1))≤s.ts (it s v (n+i)):=fun i hi=>by
   refine Classical.byContradiction fun q=>z ⟨i,hi,by omega⟩
  have mono:∀ i,1≤i->i≤m+1->s.ts (it s v (n+i))≤s.ts (it s v (n+1)):=by
   intro i
   induction i with
   |zero=>intro h;omega
   | succ i ih=>
     intro _ hi
     by_cases q:i=0
     ·subst q;exact Nat.le_refl _
     ·exact Nat.le_trans (dn i (by omega)) (ih (by omega) (by omega))
  have h3:=mono (m+1) (by omega) (Nat.le_refl _)
  rw [h0] at h3
  have h4:=dn 0 (Nat.succ_pos _)
  have h5:s.ts (it s v (n+1))=s.ts (it s v n):=Nat.le_antisymm h4 h3
  have h6:=(S.g.rr _ _ (S.tie n)).2
  have h7:=S.g.ti _ _ h5.symm h6
  have h8:=(S.nd _ (S.mem n)).2.2
  rw [S.one,S.other] at h8
  exact h8 h7
 ·unfold ringOf at he
  obtain ⟨i,_,rfl⟩:=List.mem_map.mp he
  exact S.mem _
end
theorem ring_sum {es:List Tie} {g:Int->Int} (R:Ring es) (h:∀ e∈es,Sat g e):False:=by
 have key:∀ m,m≤es.length->0<m->((es.take m).map (·.2.2)).sum≤g (es.getD 0 (0,0,0)).1-g (es.getD (m-1) (0,0,0)).2.1:=by
  intro m
  induction m with
  |zero=>intro _ h;exact absurd h (Nat.lt_irrefl _)
  | succ m ih=>
    intro hm _
    have hlt:m<es.length:=by omega
    have e1:es.take (m+1)=es.take m++[es.getD m (0,0,0)]:=by
     rw [List.take_succ,List.getD_eq_getElem?_getD,List.getElem?_eq_getElem hlt];rfl
    have hs:=h (es.getD m (0,0,0)) (by rw [List.getD_eq_getElem?_getD,List.getElem?_eq_getElem hlt];exact List.getElem_mem hlt)
    unfold Sat at hs
    rw [e1,List.map_append,List.sum_append]
    show _+([(es.getD m (0,0,0)).2.2]:List Int).sum≤_
    rw [List.sum_cons,List.sum_nil,Nat.add_sub_cancel]
    by_cases q:m=0
    ·subst q
     simp only [List.take_zero,List.map_nil,List.sum_nil]
     omega
    ·have h1:=ih (by omega) (by omega)
     have h2:=R.link (m-1) (by omega)
     rw [Nat.sub_add_cancel (by omega)] at h2
     rw [h2] at h1
     omega
 have hp:0<es.length:=List.length_pos_iff.mpr R.ne
 have h1:=key es.length (Nat.le_refl _) hp
 rw [List.take_length,R.close] at h1
 have:=R.pos
 omega
end Bf
namespace Bf
section
variable {ties:List Tie} {n:Nat} {a:Int} {s:St} {v:Int}
theorem Stuck.first (S:Stuck ties n a s v):∃ m,it s v (n+(m+1))=it s v n/\∀ i,1≤i->i≤m->it s v (n+i)≠it s v n:=by
 obtain ⟨d,h1,h2⟩:=S.loop
 have key:∀ d,1≤d->it s v (n+d)=it s v n->∃ m,it s v (n+(m+1))=it s v n/\∀ i,1≤i->i≤m->it s v (n+i)≠it s v n:=by
  intro d
  induction d using Nat.strongRecOn with
  | _ d ih=>
    intro h1 h2
    by_cases q:∃ i,1≤i/\i≤d-1/\it s v (n+i)=it s v n
    ·obtain ⟨i,a1,a2,a3⟩:=q
     exact ih i (by omega) a1 a3
    ·refine ⟨d-1,by rw [Nat.sub_add_cancel h1];exact h2,fun i a1 a2 a3=>q ⟨i,a1,a2,a3⟩⟩
 exact key d h1 h2
end
def Barred (all:List Tie):Prop:=∃ es,Ring es/\∀ e∈es,e∈all
theorem Stuck.barred {ties:List Tie} {n:Nat} {a:Int} {s:St} {v:Int} (S:Stuck ties n a s v):Barred ties:=by
 obtain ⟨m,h1,h2⟩:=S.first
 obtain ⟨R,h3⟩:=S.ring h1 h2
 exact ⟨_,R,h3⟩
theorem Barred.no {all:List Tie} (B:Barred all) {g:Int->Int} (h:∀ e∈all,Sat g e):False:=by
 obtain ⟨es,R,h1⟩:=B
 exact ring_sum R fun e he=>h e (h1 e he)
structure Least (all:List Tie) (h:Int->Int):Prop where
 sat:∀ e∈all,Sat h e
 nn:∀ v,0≤h v
 le:∀ g:Int->Int,(∀ v,0≤g v)->(∀ e∈all,Sat g e)->∀ v,h v≤g v
end Bf
namespace Cm
open PySem L2
def top (i:Nat):Stmt:=PySem.Challenge.pw_lanescribe_k56_whole_true_clocks_are_nev.main.body.getD i (.Pass ⟨0,0,0,0⟩)
def drK (c:Addr) (a r s:Int):List (Key×V):=[(.inr "cells",.ref c),(.inr "at",.int a),(.inr "rest",.int r),(.inr "seed",.int s)]
theorem pat {c:Addr} {a r s x:Int}:putK (drK c a r s) (.inr "at") (.int x)=drK c x r s:=by rfl
theorem prest {c:Addr} {a r s x:Int}:putK (drK c a r s) (.inr "rest") (.int x)=drK c a x s:=by rfl
theorem pseed {c:Addr} {a r s x:Int}:putK (drK c a r s) (.inr "seed") (.int x)=drK c a r x:=by rfl
theorem gcells {H:Hp} {p c:Addr} {a r s:Int} (h:H p=some (.dK (drK c a r s))):DGet H p (.str "cells") (some (.ref c)):=DGet.k (k:=Sum.inr "cells") h
theorem gat {H:Hp} {p c:Addr} {a r s:Int} (h:H p=some (.dK (drK c a r s))):DGet H p (.str "at") (some (.int a)):=DGet.k (k:=Sum.inr "at") h
theorem grest {H:Hp} {p c:Addr} {a r s:Int} (h:H p=some (.dK (drK c a r s))):DGet H p (.str "rest") (some (.int r)):=DGet.k (k:=Sum.inr "rest") h
theorem gseed {H:Hp} {p c:Addr} {a r s:Int} (h:H p=some (.dK (drK c a r s))):DGet H p (.str "seed") (some (.int s)):=DGet.k (k:=Sum.inr "seed") h
abbrev Big:Int:=2305843009213693951
structure Dr (H:Hp) (p c:Addr):Prop where
 ex:∃ (ns:List Int) (a r s:Int),H p=some (.dK (drK c a r s))/\H c=some (.lst (ns.map V.int))/\ns.length≤63/\0≤a/\a≤ns.length/\0≤r/\0≤s/\s<Big
theorem Dr.mono {H H':Hp} {p c:Addr} (d:Dr H p c) (h:Same H H'):Dr H' p c:=by
 obtain ⟨ns,a,r,s,h1,h2,k⟩:=d.ex
 exact ⟨ns,a,r,s,h _ _ h1,h _ _ h2,k⟩
theorem Dr.ne {H:Hp} {p c q:Addr} {o:HO} (d:Dr H p c) (h:H q=some o) (hd:∀ kvs,o≠.dK kvs):q≠p:=by
 obtain ⟨ns,a,r,s,h1,_⟩:=d.ex
 exact ne_of h h1 (hd _)
theorem Dr.put {H:Hp} {p c q:Addr} {o:HO} (d:Dr H p c) (h1:q≠p) (h2:q≠c):Dr (upd H q o) p c:=by
 obtain ⟨ns,a,r,s,e1,e2,k⟩:=d.ex
 exact ⟨ns,a,r,s,by rw [upd_ne h1.symm];exact e1,by rw [upd_ne h2.symm];exact e2,k⟩
theorem Dr.cell {H:Hp} {p c:Addr} (d:Dr H p c):∃ xs,H c=some (.lst xs):=by
 obtain ⟨ns,a,r,s,e1,e2,k⟩:=d.ex
 exact ⟨_,e2⟩
structure Txt (K:PySem.W.Frag) (mg:Str->Option Value):Prop where
 len:mg "len" = none
 range:mg "range" = none
 list:mg "list" = none
 tuple:mg "tuple" = none
 str:mg "str" = none
 bool:mg "bool" = none
 int:mg "int" = none
 min:mg "min" = none
 repr:mg "repr" = none
 all:mg "all" = none
 any:mg "any" = none
 isinstance:mg "isinstance" = none
section
variable {P:Program} {w:World} {K:PySem.W.Frag} {mg:Str->Option Value} {base:Heap}
def spBegin (K:PySem.W.Frag):Sp:=fun vs H Q _=>∃ (a:Addr) (ns:List Int),vs=[.ref a]/\SqL K H a (ns.map V.int)/\ns.length≤63/\∀ (p c:Addr) (H':Hp),Dr H' p c->Same H H'->H p=none->Q (.ref p) H'
theorem scB:FnScope ["_law_script","_law_seed","_law_cell"] ["_law_script"] (defScope (top 27)):=⟨rfl,rfl,rfl,by decide +kernel,rfl,by decide +kernel,by decide +kernel⟩
theorem ok_begin {f:Addr} {fd:FuncData} (F:Fun K "_law_begin" "_law_begin" (top 27) f fd) (T:Txt K mg):FnOk P w K mg base CX0 1 f fd ["_law_script"] (spBegin K):=by
 refine F.ok scB (fun vs H Q E h=>?_) (fun cdv A outer s H vs Q E hr h=>?_)
 ·obtain ⟨a,ns,rfl,_⟩:=h
  rfl
 ·obtain ⟨a,ns,rfl,hS,hlen,k⟩:=h
  refine ⟨_,(pss_cons (ps_set (i:=1) scB.nd rfl (Or.inl rfl) pe_int)
   (pss_cons (ps_for PassesOwn.never rfl (pi_list (pe_slice sl_list (pv 0) po_none (po_some pe_int))) (pg_name (i:=2) scB.nd rfl (Or.inl rfl))
    (pss_one (ps_set (i:=1) scB.nd rfl (Or.inl rfl) (pe_op op_mod (pe_op op_add (pe_op op_add (pe_op op_mul (pv 1) pe_int) (pe_op op_mul (pv 2) pe_int)) pe_int) pe_int))))
   (pss_one (ps_ret (pe_disp (pps_cons pe_str (pe_callTy call_list_of (by rfl) T.list bt_list (pa_cons (pe_slice sl_list (pv 0) po_none (po_some pe_int)) pa_nil)) (pps_cons pe_str pe_int (pps_cons pe_str pe_int (pps_cons pe_str (pv 1) pps_nil)))) rfl rfl (List.cons_ne_nil _ _) (by show 4≤15;decide)))))),?_⟩
  have hcut:cutV (ns.map V.int) none (some 63)=ns.map V.int:=by
   show ((ns.map V.int).drop (HT.sIx _ 0 none)).take (HT.sIx _ _ (some ((63:Nat):Int))-HT.sIx _ 0 none)=_
   rw [HT.sIx_none,HT.sIx_nat,List.drop_zero,Nat.sub_zero,List.take_of_length_le]
   rw [List.length_map];omega
  refine ⟨_,rfl,_,rfl,a,_,rfl,hS,fun q hq=>⟨q,rfl,⟨_,SqL.of upd_same⟩,?_⟩⟩
  rw [hcut]
  have hS':∀ o,SqL K (upd H q o) a (ns.map V.int):=fun o=>(show Same H (upd H q o) from fun b u e=>by rw [upd_ne (ne_of_none e hq)];exact e).seq hS
  refine for_list (K:=K) (a:=q) (xs:=ns.map V.int) (fun i σ H2=>∃ (z:Int) (v:Option V),σ=[some (.ref a),some (.int z),v]/\0≤z/\z<Big/\H2=upd H q (.lst (ns.map V.int)))
   ⟨20011,none,rfl,by decide,by decide,rfl⟩ (fun i σ H2 _ ⟨_,_,_,_,_,e⟩=>by rw [e];exact SqL.of upd_same) ?_ ?_
  ·rintro i y σ H2 hi ⟨z,v,rfl,h0,h1,rfl⟩
   obtain ⟨n,-,rfl⟩:=List.mem_map.mp (List.mem_of_getElem? hi)
   refine ⟨_,rfl,_,_,rfl,rfl,.inl ⟨by omega,by simp only [Big] at h1;omega⟩,_,rfl,_,_,rfl,rfl,.inr ⟨by decide,by decide⟩,_,_,rfl,rfl,_,_,rfl,rfl,_,_,rfl,rfl,(by show (0:Int)<2305843009213693951;decide),?_⟩
   exact ⟨_,_,rfl,Int.emod_nonneg _ (by decide),Int.emod_lt_of_pos _ (by decide),rfl⟩
  ·rintro σ H2 ⟨z,v,rfl,h0,h1,rfl⟩
   intro p hp
   have s1:Same H (upd (upd H q (.lst (ns.map V.int))) p (.dK [])):=(Same.new hq).trans (Same.new hp)
   refine ⟨_,rfl,_,rfl,a,_,rfl,s1.seq hS,fun q2 hq2=>⟨q2,_,rfl,.inl (SqL.of upd_same),fun l hl=>⟨_,rfl,?_,drK l 0 0 z,rfl,by show 4≤15;decide,?_⟩⟩⟩
   ·exact (Same.new hl) _ _ ((Same.new hq2) _ _ upd_same)
   ·rw [hcut]
    have hpl:(upd (upd (upd (upd H q (.lst (ns.map V.int))) p (.dK [])) q2 (.lst (ns.map V.int))) l (.lst (ns.map V.int))) p=some (.dK []):=(Same.new (by rw [hcut] at hl;exact hl)) _ _ ((Same.new hq2) _ _ upd_same)
    have hlp:l≠p:=ne_of upd_same hpl (by intro z;cases z)
    refine k p l _ ⟨ns,0,0,z,upd_same,by rw [upd_ne hlp];exact upd_same,hlen,by decide,by omega,by decide,h0,h1⟩ ?_ ((Same.new hq).free hp)
    intro b u e
    have e1:=((Same.new (q:=l) (o:=.lst (ns.map V.int)) (by rw [hcut] at hl;exact hl)) _ _ ((Same.new hq2) _ _ (s1 b u e)))
    rw [upd_ne (ne_of_none ((Same.new hq) b u e) hp)]
    exact e1
def spPick:Sp:=fun vs H Q _=>∃ (p c:Addr) (m:Int),vs=[.ref p,.int m]/\Dr H p c/\0<m/\m<340282366920938463463374607431768211456/\∀ (r:Int) (H':Hp),0≤r->r<m->Dr H' p c->But p H H'->Q (.int r) H'
theorem scP:FnScope ["_law_d","_law_many","_law_cell","_law_digit","_law_one"] ["_law_d","_law_many"] (defScope (top 28)):=⟨rfl,rfl,rfl,by decide +kernel,rfl,by decide +kernel,by decide +kernel⟩
theorem ok_pick {f:Addr} {fd:FuncData} (F:Fun K "_law_pick" "_law_pick" (top 28) f fd) (T:Txt K mg):FnOk P w K mg base CX0 1 f fd ["_law_d","_law_many"] spPick:=by
 refine F.ok scP (fun vs H Q E h=>?_) (fun cdv A outer s H vs Q E hr h=>?_)
 ·obtain ⟨p,c,m,rfl,_⟩:=h
  rfl
 ·obtain ⟨p,c,m,rfl,D,m0,m1,k⟩:=h
  have hu:=hu_of hr
  refine ⟨_,(pss_cons
 (ps_if (PW.pt (pw_and (pt_cmpR op_eq (pe_dget hu (pv 0) pe_str (fun _ _=>rfl)) pe_int (nomark _)) (pw_and1 (pt_cmpR op_lt (pe_dget hu (pv 0) pe_str (fun _ _=>rfl)) (pe_callB call_len_seq (by rfl) T.len bt_len (pa_cons (pe_dget hu (pv 0) pe_str (fun _ _=>rfl)) pa_nil)) (nomark _))))) (pss_cons
 (ps_set (i:=2) scP.nd rfl (Or.inl rfl) (pe_ix ix_list (pe_dget hu (pv 0) pe_str (fun _ _=>rfl)) (pe_dget hu (pv 0) pe_str (fun _ _=>rfl)) (fun _ _=>rfl)))
 (pss_cons
 (ps_dput hu (pv 0) pe_str (pe_op op_add (pe_dget hu (pv 0) pe_str (fun _ _=>rfl)) pe_int) rfl)
 (pss_one
 (ps_if (pt_cmpR op_ge (pv 2) (pe_op op_pow pe_int pe_int) (nomark _)) (pss_one
 (ps_dput hu (pv 0) pe_str (pv 2) rfl)) (pss_one
 (ps_dput hu (pv 0) pe_str (pe_op op_mod (pe_op op_add (pe_op op_add (pe_op op_mul (pe_dget hu (pv 0) pe_str (fun _ _=>rfl)) pe_int) (pe_op op_mul (pv 2) pe_int)) pe_int) pe_int) rfl)))))) pss_nil)
 (pss_cons
 (ps_if (pt_cmpR op_gt (pe_dget hu (pv 0) pe_str (fun _ _=>rfl)) pe_int (nomark _)) (pss_cons
 (ps_set (i:=3) scP.nd rfl (Or.inl rfl) (pe_op op_mod (pe_dget hu (pv 0) pe_str (fun _ _=>rfl)) (pv 1)))
 (pss_cons
 (ps_dput hu (pv 0) pe_str (pe_op op_fdivW (pe_dget hu (pv 0) pe_str (fun _ _=>rfl)) (pv 1)) rfl)
 (pss_one
 (ps_ret (pv 3))))) pss_nil)
 (pss_cons
 (ps_set (i:=4) scP.nd rfl (Or.inl rfl) (pe_op op_mod (pe_op op_mul (pe_dget hu (pv 0) pe_str (fun _ _=>rfl)) (pe_dget hu (pv 0) pe_str (fun _ _=>rfl))) pe_int))
 (pss_cons
 (ps_dput hu (pv 0) pe_str (pe_op op_mod (pe_op op_add (pe_op op_add (pe_op op_mul (pv 4) pe_int) (pe_op op_mul (pe_dget hu (pv 0) pe_str (fun _ _=>rfl)) pe_int)) pe_int) pe_int) rfl)
 (pss_one
 (ps_ret (pe_op op_mod (pe_op op_fdiv (pe_dget hu (pv 0) pe_str (fun _ _=>rfl)) pe_int) (pv 1)))))))),?_⟩
  obtain ⟨ns,a,r,sd,h1,h2,hl,a0,a1,r0,s0,s1⟩:=D.ex
  have npc:c≠p:=ne_of h2 h1 (by intro z;cases z)
  have small:∀ {x y z:Int},(drK c x y z).length<sizeLine:=fun {x y z}=>small1000 (by show 4≤1000;decide)
  refine seq_by (fun σ' H'=>∃ (a' r' sd':Int) (v:Option V),σ'=[some (.ref p),some (.int m),v,none,none]/\H' p=some (.dK (drK c a' r' sd'))/\But p H H'/\0≤a'/\a'≤ns.length/\0≤r'/\0≤sd'/\sd'<Big) ?_ ?_
  ·rintro σ' H1 ⟨a',r',sd',v,rfl,e1,bt,b0,b1,c0,d0,d1⟩
   have hc1:∀ o,(upd H1 p o) c=some (.lst (ns.map V.int)):=fun o=>by rw [upd_ne npc];exact bt c _ h2 npc
   refine ⟨_,rfl,p,_,rfl,grest e1,_,_,rfl,rfl,_,rfl,?_⟩
   refine ite2 (fun hpos=>?_) (fun _=>?_)
   ·refine ⟨_,rfl,p,_,rfl,grest e1,_,rfl,_,_,rfl,rfl,m0,?_⟩
    refine ⟨_,rfl,p,_,rfl,grest e1,_,rfl,_,_,rfl,rfl,⟨m0,m1⟩,_,rfl,p,_,rfl,DPut.k (k:=Sum.inr "rest") e1 small,_,rfl,?_⟩
    rw [prest]
    exact k _ _ (Int.emod_nonneg _ (by omega)) (Int.emod_lt_of_pos _ m0) ⟨ns,a',r' / m,sd',upd_same,hc1 _,hl,b0,b1,Int.ediv_nonneg c0 (by omega),d0,d1⟩ (bt.trans But.upd)
   ·have sq:CMul sd' sd':=.inl ⟨by omega,by simp only [Big] at d1;omega⟩
    refine ⟨_,rfl,p,_,rfl,gseed e1,_,rfl,p,_,rfl,gseed e1,_,_,rfl,rfl,sq,_,_,rfl,rfl,(by show (0:Int)<2305843009213693951;decide),?_⟩
    have u0:=Int.emod_nonneg (sd'*sd') (show (2305843009213693951:Int)≠0 by decide)
    have u1:=Int.emod_lt_of_pos (sd'*sd') (show (0:Int)<2305843009213693951 by decide)
    refine ⟨_,rfl,_,_,rfl,rfl,.inr ⟨by decide,by decide⟩,_,rfl,p,_,rfl,gseed e1,_,_,rfl,rfl,.inr ⟨by decide,by decide⟩,_,_,rfl,rfl,_,_,rfl,rfl,_,_,rfl,rfl,(by show (0:Int)<2305843009213693951;decide),_,rfl,p,_,rfl,DPut.k (k:=Sum.inr "seed") e1 small,?_⟩
    rw [pseed]
    generalize hsd:(sd'*sd' % 2305843009213693951*7+sd'*40503+12345) % 2305843009213693951=sn
    have v0:0≤sn:=hsd ▸ Int.emod_nonneg _ (by decide)
    have v1:sn<Big:=hsd ▸ Int.emod_lt_of_pos _ (by decide)
    refine ⟨_,rfl,p,_,rfl,gseed upd_same,_,_,rfl,rfl,⟨by decide,by decide⟩,_,rfl,_,_,rfl,rfl,m0,?_⟩
    exact k _ _ (Int.emod_nonneg _ (by omega)) (Int.emod_lt_of_pos _ m0) ⟨ns,a',r',sn,upd_same,hc1 _,hl,b0,b1,c0,v0,v1⟩ (bt.trans But.upd)
  ·intro N hN
   refine ⟨_,rfl,p,_,rfl,grest h1,rfl,_,rfl,?_⟩
   refine ite2 (fun hz=>?_) (fun _=>?_)
   ·refine ⟨_,rfl,p,_,rfl,gat h1,_,rfl,p,_,rfl,gcells h1,c,_,rfl,.inl (SqL.of h2),_,_,rfl,rfl,_,rfl,?_⟩
    rw [List.length_map]
    refine ite2 (fun hlt=>?_) (fun _=>?_)
    ·have hlt:a<ns.length:=of_decide_eq_true hlt
     obtain ⟨z,hz'⟩:∃ z,ns[a.toNat]?=some z:=⟨_,List.getElem?_eq_getElem (by omega)⟩
     have hat:atI (ns.map V.int) a=some (.int z):=by
      have e:(a:Int)=((a.toNat:Nat):Int):=by omega
      rw [e]
      refine atI_nat ?_
      rw [List.getElem?_map,hz'];rfl
     refine ⟨_,rfl,p,_,rfl,gcells h1,_,rfl,p,_,rfl,gat h1,c,_,_,_,rfl,rfl,SqL.of h2,hat,?_⟩
     refine ⟨_,rfl,p,_,rfl,gat h1,_,_,rfl,rfl,_,rfl,p,_,rfl,DPut.k (k:=Sum.inr "at") h1 small,?_⟩
     rw [pat]
     refine ⟨_,rfl,_,_,rfl,rfl,⟨by decide,by decide,by decide⟩,_,_,rfl,rfl,_,rfl,?_⟩
     refine ite2 (fun hge=>?_) (fun _=>?_)
     ·refine ⟨_,rfl,_,rfl,p,_,rfl,DPut.k (k:=Sum.inr "rest") upd_same small,?_⟩
      rw [prest]
      have hge:(10:Int) ^ 18≤z:=of_decide_eq_true hge
      exact hN _ _ ⟨a+1,z,sd,_,rfl,upd_same,But.upd.trans But.upd,by omega,by omega,by omega,s0,s1⟩
     ·refine ⟨_,rfl,p,_,rfl,gseed upd_same,_,_,rfl,rfl,.inr ⟨by decide,by decide⟩,_,rfl,_,_,rfl,rfl,.inr ⟨by decide,by decide⟩,_,_,rfl,rfl,_,_,rfl,rfl,_,_,rfl,rfl,(by show (0:Int)<2305843009213693951;decide),_,rfl,p,_,rfl,DPut.k (k:=Sum.inr "seed") upd_same small,?_⟩
      rw [pseed]
      exact hN _ _ ⟨a+1,r,_,_,rfl,upd_same,But.upd.trans But.upd,by omega,by omega,r0,Int.emod_nonneg _ (by decide),Int.emod_lt_of_pos _ (by decide)⟩
    ·exact hN _ _ ⟨a,r,sd,_,rfl,h1,But.refl,a0,a1,r0,s0,s1⟩
   ·exact hN _ _ ⟨a,r,sd,_,rfl,h1,But.refl,a0,a1,r0,s0,s1⟩
end
section
variable {P:Program} {w:World} {K:PySem.W.Frag} {mg:Str->Option Value} {base:Heap}
theorem Dr.dk {H:Hp} {p c:Addr} (d:Dr H p c):∃ kvs,H p=some (.dK kvs):=by
 obtain ⟨ns,a,r,s,h1,_⟩:=d.ex
 exact ⟨_,h1⟩
theorem Dr.seq {H H':Hp} {p c a:Addr} {xs:List V} (d:Dr H p c) (e:But p H H') (h:SqL K H a xs):SqL K H' a xs:=let ⟨_,hp⟩:=d.dk;e.seq hp h
theorem Dr.new {H:Hp} {p c q:Addr} {o:HO} (d:Dr H p c) (h:H q=none):Dr (upd H q o) p c:=d.mono (Same.new h)
def spOf (K:PySem.W.Frag):Sp:=fun vs H Q _=>∃ (p c q:Addr) (xs:List V),vs=[.ref p,.ref q]/\Dr H p c/\SqL K H q xs/\xs≠[]/\xs.length≤1000/\∀ (x:V) (H':Hp),x∈xs->Dr H' p c->But p H H'->Q x H'
theorem scO:FnScope ["_law_d","_law_things"] ["_law_d","_law_things"] (defScope (top 29)):=⟨rfl,rfl,rfl,by decide +kernel,rfl,by decide +kernel,by decide +kernel⟩
theorem ok_of {f fP:Addr} {fd fdP:FuncData} (F:Fun K "_law_of" "_law_of" (top 29) f fd) (T:Txt K mg) (DP:Def K mg "_law_pick" (top 28) ["_law_d","_law_many"] fP fdP):FnOk P w K mg base CX0 2 f fd ["_law_d","_law_things"] (spOf K):=by
 have GP:FnOk P w K mg base CX0 1 fP fdP ["_law_d","_law_many"] spPick:=ok_pick DP.F T
 refine F.ok scO (fun vs H Q E h=>?_) (fun cdv A outer s H vs Q E hr h=>?_)
 ·obtain ⟨p,c,q,xs,rfl,_⟩:=h
  rfl
 ·obtain ⟨p,c,q,xs,rfl,D,hq,hne,hl,k⟩:=h
  refine ⟨_,(pss_one (ps_ret (pe_ix ix_list (pv 1) (pe_call GP hr rfl DP.mg DP.F.kp DP.b .nil pass0 (pa_cons (pv 0) (pa_cons (pe_callB call_len_seq (by rfl) T.len bt_len (pa_cons (pv 1) pa_nil)) pa_nil))) (fun _ _=>rfl)))),?_⟩
  have hpos:0<xs.length:=List.length_pos_iff.mpr hne
  refine ⟨_,rfl,_,rfl,_,rfl,q,xs,rfl,(.inl hq),p,c,_,rfl,D,by omega,by omega,fun r H' r0 r1 D' bt=>?_⟩
  obtain ⟨j,rfl⟩:=Int.eq_ofNat_of_zero_le r0
  have hx:j<xs.length:=by omega
  exact ⟨q,xs,_,xs[j],rfl,rfl,D.seq bt hq,atI_nat (List.getElem?_eq_getElem hx),k _ _ (List.getElem_mem hx) D' bt⟩
def spS (K:PySem.W.Frag):Nat->Sp
 |0=>fun _ _ _ _=>False
 |n+1=>fun vs H Q _=>∃ (x y:V) (d:PyData),vs=[x,y]/\Rep K H x d/\Rep K H y d/\pdDep d≤n/\pdMax d≤100000/\∀ H':Hp,Same H H'->Q (.bl true) H'
theorem scS:FnScope ["_law_found","_law_due"] ["_law_found","_law_due"] (defScope (top 30)):=⟨rfl,rfl,rfl,by decide +kernel,rfl,by decide +kernel,by decide +kernel⟩
theorem bl_true {Q:VK} {v:V} {H:Hp} (h:Q (.bl true) H):Q (.bl (decide (v=v))) H:=by rw [decide_eq_true rfl];exact h
theorem ok_same {f:Addr} {fd:FuncData} (DS:Def K mg "_law_same" (top 30) ["_law_found","_law_due"] f fd) (T:Txt K mg) (n:Nat):FnOk P w K mg base CX0 n f fd ["_law_found","_law_due"] (spS K n):=by
 refine Nat.rec (motive:=fun n=>FnOk P w K mg base CX0 n f fd ["_law_found","_law_due"] (spS K n)) ⟨fun _ _ _ _ h=>h.elim,fun _ _ _ _ _ _ _ _ _ _ _ _ _ h=>h.elim⟩ (fun n GS=>?_) n
 refine DS.F.ok scS (fun vs H Q E h=>?_) (fun cdv A outer s H vs Q E hr h=>?_)
 ·obtain ⟨x,y,d,rfl,_⟩:=h
  rfl
 ·obtain ⟨x,y,d,rfl,hx,hy,hn,hm,k⟩:=h
  refine ⟨_,(pss_cons
 (ps_if (pt_cmpR op_isN (pv 1) pe_non (nomark _)) (pss_one
 (ps_ret (pe_cmpR op_isN (pv 0) pe_non (nomark _)))) pss_nil)
 (pss_cons
 (ps_if (PW.pt (pw_or (pt_val (pe_callB call_isT (by rfl) T.isinstance bt_isinstance (pa_cons (pv 1) (pa_cons (pe_ty rfl T.bool bt_bool) pa_nil)))) (pw_or1 (pt_val (pe_callB call_isT (by rfl) T.isinstance bt_isinstance (pa_cons (pv 0) (pa_cons (pe_ty rfl T.bool bt_bool) pa_nil))))))) (pss_one
 (ps_ret (pe_and (pe_callB call_isT (by rfl) T.isinstance bt_isinstance (pa_cons (pv 1) (pa_cons (pe_ty rfl T.bool bt_bool) pa_nil))) (pe_and (pe_callB call_isT (by rfl) T.isinstance bt_isinstance (pa_cons (pv 0) (pa_cons (pe_ty rfl T.bool bt_bool) pa_nil))) (pe_one (pe_cmpR op_eq (pv 0) (pv 1) (nomark _))))))) pss_nil)
 (pss_cons
 (ps_if (pt_val (pe_callB call_isT2 (by rfl) T.isinstance bt_isinstance (pa_cons (pv 1) (pa_cons (pe_tup (pa_cons (pe_ty rfl T.int bt_int) (pa_cons (pe_ty rfl T.str bt_str) pa_nil))) pa_nil)))) (pss_one
 (ps_ret (pe_and (pe_callB call_isT2 (by rfl) T.isinstance bt_isinstance (pa_cons (pv 0) (pa_cons (pe_tup (pa_cons (pe_ty rfl T.int bt_int) (pa_cons (pe_ty rfl T.str bt_str) pa_nil))) pa_nil))) (pe_and (pe_cmpR op_eq (pe_callB call_isT (by rfl) T.isinstance bt_isinstance (pa_cons (pv 0) (pa_cons (pe_ty rfl T.int bt_int) pa_nil))) (pe_callB call_isT (by rfl) T.isinstance bt_isinstance (pa_cons (pv 1) (pa_cons (pe_ty rfl T.int bt_int) pa_nil))) (nomark _)) (pe_one (pe_cmpR op_eq (pv 0) (pv 1) (nomark _))))))) pss_nil)
 (pss_cons
 (ps_if (PW.pt (pw_or (pt_cmpR op_ne (pe_callB call_isT (by rfl) T.isinstance bt_isinstance (pa_cons (pv 1) (pa_cons (pe_ty rfl T.list bt_list) pa_nil))) (pe_callB call_isT (by rfl) T.isinstance bt_isinstance (pa_cons (pv 0) (pa_cons (pe_ty rfl T.list bt_list) pa_nil))) (nomark _)) (pw_or1 (pt_cmpR op_ne (pe_callB call_isT (by rfl) T.isinstance bt_isinstance (pa_cons (pv 1) (pa_cons (pe_ty rfl T.tuple bt_tuple) pa_nil))) (pe_callB call_isT (by rfl) T.isinstance bt_isinstance (pa_cons (pv 0) (pa_cons (pe_ty rfl T.tuple bt_tuple) pa_nil))) (nomark _))))) (pss_one
 (ps_ret pe_bl)) pss_nil)
 (pss_one
 (ps_ret (pe_and (pe_cmpR op_eq (pe_callB call_len_seq (by rfl) T.len bt_len (pa_cons (pv 0) pa_nil)) (pe_callB call_len_seq (by rfl) T.len bt_len (pa_cons (pv 1) pa_nil)) (nomark _)) (pe_one (pe_callB (call_allB rfl) (by rfl) T.all bt_all (pa_cons (pe_comp (own:=["_law_k"]) (js:=[0,1]) (N':=["_law_k","_law_found","_law_due"]) (CompScope.of (osc:=defScope (top 30)) (N:=["_law_found","_law_due"]) rfl rfl ⟨rfl,by decide +kernel,by decide +kernel,by decide +kernel,rfl,by decide +kernel⟩) rfl (pi_range1 rfl T.range (pa_cons (pe_callB call_len_seq (by rfl) T.len bt_len (pa_cons (pv 1) pa_nil)) pa_nil)) (fun _ _ _ _ _=>(pg_name (i:=0) (show List.Nodup (["_law_k","_law_found","_law_due"]:List Str) by decide +kernel) rfl (Or.inl rfl) (Or.inr rfl))) (fun _ _ _ _ _=>pifs_nil) (fun _ _ _ _ _=>(pe_call GS hr rfl DS.mg DS.F.kp DS.b .nil pass0 (pa_cons (pe_ix (r:=rIx K) ix_seq (pv 1) (pv 0) (fun _ _=>rfl)) (pa_cons (pe_ix (r:=rIx K) ix_seq (pv 2) (pv 0) (fun _ _=>rfl)) pa_nil))))) pa_nil)))))))))),?_⟩
  have z2:2≤sizeLine:=by decide
  cases hx with
  | non=>
    cases hy
    refine ⟨_,rfl,rfl,_,rfl,ifT rfl ?_⟩
    exact ⟨_,rfl,rfl,k _ (Same.refl _)⟩
  | bl b=>
    cases hy
    refine ⟨_,rfl,rfl,_,rfl,ifF rfl ?_⟩
    refine ⟨_,rfl,_,_,_,_,rfl,(.bl b),rfl,_,rfl,ifT rfl (ifT rfl ?_)⟩
    exact ⟨_,rfl,_,_,_,_,rfl,(.bl b),rfl,_,rfl,ifT rfl ⟨_,rfl,_,_,_,_,rfl,(.bl b),rfl,_,rfl,ifT rfl ⟨_,rfl,_,rfl,rfl,bl_true (k _ (Same.refl _))⟩⟩⟩
  | int i=>
    cases hy
    refine ⟨_,rfl,rfl,_,rfl,ifF rfl ?_⟩
    refine ⟨_,rfl,_,_,_,_,rfl,(.int i),rfl,_,rfl,ifF rfl ?_⟩
    refine ⟨_,rfl,_,_,_,_,rfl,(.int i),rfl,_,rfl,ifF rfl ?_⟩
    refine ⟨_,rfl,z2,fun p hp=>⟨_,p,_,_,_,_,rfl,upd_same,.int i,rfl,_,rfl,ifT rfl ?_⟩⟩
    refine ⟨_,rfl,z2,fun p2 hp2=>⟨_,p2,_,_,_,_,rfl,upd_same,.int i,rfl,_,rfl,ifT rfl ?_⟩⟩
    refine ⟨_,rfl,_,_,_,_,rfl,.int i,rfl,_,rfl,_,_,_,_,rfl,.int i,rfl,rfl,_,rfl,?_⟩
    exact ifT rfl ⟨_,rfl,_,rfl,rfl,bl_true (k _ ((Same.new hp).trans (Same.new hp2)))⟩
  | str z=>
    cases hy
    refine ⟨_,rfl,rfl,_,rfl,ifF rfl ?_⟩
    refine ⟨_,rfl,_,_,_,_,rfl,(.str z),rfl,_,rfl,ifF rfl ?_⟩
    refine ⟨_,rfl,_,_,_,_,rfl,(.str z),rfl,_,rfl,ifF rfl ?_⟩
    refine ⟨_,rfl,z2,fun p hp=>⟨_,p,_,_,_,_,rfl,upd_same,.str z,rfl,_,rfl,ifT rfl ?_⟩⟩
    refine ⟨_,rfl,z2,fun p2 hp2=>⟨_,p2,_,_,_,_,rfl,upd_same,.str z,rfl,_,rfl,ifT rfl ?_⟩⟩
    refine ⟨_,rfl,_,_,_,_,rfl,.str z,rfl,_,rfl,_,_,_,_,rfl,.str z,rfl,rfl,_,rfl,?_⟩
    exact ifT rfl ⟨_,rfl,_,rfl,rfl,bl_true (k _ ((Same.new hp).trans (Same.new hp2)))⟩
  | tup g rs=>
    cases hy with
    | tup g2 rs2=>
      rename_i a1 xs1 ds a2 xs2
      refine ⟨_,rfl,rfl,_,rfl,ifF rfl ?_⟩
      refine ⟨_,rfl,_,_,_,_,rfl,(.tup g2 rs2),rfl,_,rfl,ifF rfl ?_⟩
      refine ⟨_,rfl,_,_,_,_,rfl,(.tup g rs),rfl,_,rfl,ifF rfl ?_⟩
      refine ⟨_,rfl,z2,fun p hp=>⟨_,p,_,_,_,_,rfl,upd_same,Rep.same (.tup g2 rs2) (Same.new hp),rfl,_,rfl,ifF rfl ?_⟩⟩
      have s1:Same H (upd H p (.tup [.ty "int",.ty "str"])):=Same.new hp
      refine ⟨_,rfl,_,_,_,_,rfl,(Rep.same (.tup g2 rs2) s1),rfl,_,rfl,_,_,_,_,rfl,(Rep.same (.tup g rs) s1),rfl,rfl,_,rfl,ifF rfl ?_⟩
      refine ⟨_,rfl,_,_,_,_,rfl,(Rep.same (.tup g2 rs2) s1),rfl,_,rfl,_,_,_,_,rfl,(Rep.same (.tup g rs) s1),rfl,rfl,_,rfl,ifF rfl ?_⟩
      refine ⟨_,rfl,_,_,rfl,.inr (s1.tup g),_,rfl,_,_,rfl,.inr (s1.tup g2),rfl,_,rfl,?_⟩
      have l1:=rs.length
      have l2:=rs2.length
      have hm':xs2.length≤100000:=by simp only [pdMax] at hm;omega
      have hl:xs1.length=xs2.length:=by omega
      generalize upd H p (.tup [.ty "int",.ty "str"])=H1 at s1 ⊢
      refine ifT (by rw [hl];simp) ?_
      obtain ⟨n,rfl⟩:∃ n',n=n'+1:=⟨n-1,by simp only [pdDep] at hn;omega⟩
      refine ⟨_,rfl,_,_,rfl,.inr (s1.tup g2),_,rfl,by omega,by omega,?_⟩
      refine comp_range (n:=xs2.length) (fun i ys σ' H'=>∃ (v:Option V),ys=(List.replicate i true).map V.bl/\σ'=[v,some _,some _]/\Same H1 H') (by exact Nat.le_trans hm' (by decide)) ⟨none,rfl,rfl,Same.refl _⟩ ?_ ?_
      ·rintro i ys σ' H' hi hys ⟨v,rfl,rfl,s2⟩ N hN
       obtain ⟨d1,e1,r1⟩:=rs.get' (i:=i) (x:=xs1[i]) (List.getElem?_eq_getElem (by omega))
       obtain ⟨d2,e2,r2⟩:=rs2.get' (i:=i) (x:=xs2[i]) (List.getElem?_eq_getElem hi)
       rw [e1] at e2
       cases e2
       have m1:=List.mem_of_getElem? e1
       have q1:=pdDep_le m1
       have q2:=pdMax_le m1
       have at1:atI xs1 (0+(i:Int))=some xs1[i]:=by rw [Int.zero_add];exact atI_nat (List.getElem?_eq_getElem (by omega))
       have at2:atI xs2 (0+(i:Int))=some xs2[i]:=by rw [Int.zero_add];exact atI_nat (List.getElem?_eq_getElem hi)
       refine ⟨_,rfl,_,rfl,.inr (.inl ⟨_,_,_,_,rfl,rfl,(s1.trans s2).tup g,at1,?_⟩)⟩
       refine ⟨_,rfl,_,rfl,.inr (.inl ⟨_,_,_,_,rfl,rfl,(s1.trans s2).tup g2,at2,?_⟩)⟩
       refine ⟨_,_,d1,rfl,r1.same (s1.trans s2),r2.same (s1.trans s2),?_,?_,fun H'' s3=>?_⟩
       ·simp only [pdDep] at hn;omega
       ·simp only [pdMax] at hm;omega
       exact hN _ _ _ (by simp) ⟨_,by rw [List.replicate_succ',List.map_append];rfl,rfl,s2.trans s3⟩
      ·rintro ys σ' H' hys ⟨v,rfl,rfl,s2⟩
       refine ⟨by rw [List.length_map,List.length_replicate];exact Nat.le_trans hm' (by decide),fun q hq=>⟨q,_,rfl,SqL.of upd_same,?_⟩⟩
       show Q (.bl ((List.replicate xs2.length true).all id)) _
       rw [show (List.replicate xs2.length true).all id=true by simp]
       exact k _ ((s1.trans s2).trans (Same.new hq))
  | lst g rs=>
    cases hy with
    | lst g2 rs2=>
      rename_i a1 xs1 ds a2 xs2
      refine ⟨_,rfl,rfl,_,rfl,ifF rfl ?_⟩
      refine ⟨_,rfl,_,_,_,_,rfl,(.lst g2 rs2),rfl,_,rfl,ifF rfl ?_⟩
      refine ⟨_,rfl,_,_,_,_,rfl,(.lst g rs),rfl,_,rfl,ifF rfl ?_⟩
      refine ⟨_,rfl,z2,fun p hp=>⟨_,p,_,_,_,_,rfl,upd_same,Rep.same (.lst g2 rs2) (Same.new hp),rfl,_,rfl,ifF rfl ?_⟩⟩
      have s1:Same H (upd H p (.tup [.ty "int",.ty "str"])):=Same.new hp
      refine ⟨_,rfl,_,_,_,_,rfl,(Rep.same (.lst g2 rs2) s1),rfl,_,rfl,_,_,_,_,rfl,(Rep.same (.lst g rs) s1),rfl,rfl,_,rfl,ifF rfl ?_⟩
      refine ⟨_,rfl,_,_,_,_,rfl,(Rep.same (.lst g2 rs2) s1),rfl,_,rfl,_,_,_,_,rfl,(Rep.same (.lst g rs) s1),rfl,rfl,_,rfl,ifF rfl ?_⟩
      refine ⟨_,rfl,_,_,rfl,.inl (s1.seq g),_,rfl,_,_,rfl,.inl (s1.seq g2),rfl,_,rfl,?_⟩
      have l1:=rs.length
      have l2:=rs2.length
      have hm':xs2.length≤100000:=by simp only [pdMax] at hm;omega
      have hl:xs1.length=xs2.length:=by omega
      generalize upd H p (.tup [.ty "int",.ty "str"])=H1 at s1 ⊢
      refine ifT (by rw [hl];simp) ?_
      obtain ⟨n,rfl⟩:∃ n',n=n'+1:=⟨n-1,by simp only [pdDep] at hn;omega⟩
      refine ⟨_,rfl,_,_,rfl,.inl (s1.seq g2),_,rfl,by omega,by omega,?_⟩
      refine comp_range (n:=xs2.length) (fun i ys σ' H'=>∃ (v:Option V),ys=(List.replicate i true).map V.bl/\σ'=[v,some _,some _]/\Same H1 H') (by exact Nat.le_trans hm' (by decide)) ⟨none,rfl,rfl,Same.refl _⟩ ?_ ?_
      ·rintro i ys σ' H' hi hys ⟨v,rfl,rfl,s2⟩ N hN
       obtain ⟨d1,e1,r1⟩:=rs.get' (i:=i) (x:=xs1[i]) (List.getElem?_eq_getElem (by omega))
       obtain ⟨d2,e2,r2⟩:=rs2.get' (i:=i) (x:=xs2[i]) (List.getElem?_eq_getElem hi)
       rw [e1] at e2
       cases e2
       have m1:=List.mem_of_getElem? e1
       have q1:=pdDep_le m1
       have q2:=pdMax_le m1
       have at1:atI xs1 (0+(i:Int))=some xs1[i]:=by rw [Int.zero_add];exact atI_nat (List.getElem?_eq_getElem (by omega))
       have at2:atI xs2 (0+(i:Int))=some xs2[i]:=by rw [Int.zero_add];exact atI_nat (List.getElem?_eq_getElem hi)
       refine ⟨_,rfl,_,rfl,.inl ⟨_,_,_,_,rfl,rfl,(s1.trans s2).seq g,at1,?_⟩⟩
       refine ⟨_,rfl,_,rfl,.inl ⟨_,_,_,_,rfl,rfl,(s1.trans s2).seq g2,at2,?_⟩⟩
       refine ⟨_,_,d1,rfl,r1.same (s1.trans s2),r2.same (s1.trans s2),?_,?_,fun H'' s3=>?_⟩
       ·simp only [pdDep] at hn;omega
       ·simp only [pdMax] at hm;omega
       exact hN _ _ _ (by simp) ⟨_,by rw [List.replicate_succ',List.map_append];rfl,rfl,s2.trans s3⟩
      ·rintro ys σ' H' hys ⟨v,rfl,rfl,s2⟩
       refine ⟨by rw [List.length_map,List.length_replicate];exact Nat.le_trans hm' (by decide),fun q hq=>⟨q,_,rfl,SqL.of upd_same,?_⟩⟩
       show Q (.bl ((List.replicate xs2.length true).all id)) _
       rw [show (List.replicate xs2.length true).all id=true by simp]
       exact k _ ((s1.trans s2).trans (Same.new hq))
end
end Cm
namespace Cm
open PySem L2 PySem.W
abbrev Tie:=Bf.Tie
def TieAt (H:Hp) (x:V) (e:Tie):Prop:=∃ b,x=.ref b/\H b=some (.tup [.int e.1,.int e.2.1,.int e.2.2])
def TK (H H':Hp):Prop:=∀ b xs,H b=some (.tup xs)->H' b=some (.tup xs)
theorem ties_tk {H H':Hp} (k:TK H H'):∀ {xs:List V} {es:List Tie},Paired (TieAt H) xs es->Paired (TieAt H') xs es
 |_,_,.nil=>.nil
 |_,_,.cons ⟨b,e,h⟩ t=>.cons ⟨b,e,k _ _ h⟩ (ties_tk k t)
theorem Same.tk {H H':Hp} (s:Same H H'):TK H H':=fun b xs e=>s b _ e
theorem ties_get {H:Hp}:∀ {xs:List V} {es:List Tie} {i:Nat} {x:V},Paired (TieAt H) xs es->xs[i]?=some x->∃ e,es[i]?=some e/\TieAt H x e
 |_,_,0,_,.cons h _,e=>⟨_,rfl,by cases e;exact h⟩
 |_,_,i+1,_,.cons _ t,e=>ties_get (i:=i) t (by simpa using e)
 |_,_,i,_,.nil,e=>by simp at e
structure OkTie (n:Int) (e:Tie):Prop where
 o:0≤e.1/\e.1<n
 t:0≤e.2.1/\e.2.1<n
 ne:e.1≠e.2.1
 l:-999999≤e.2.2/\e.2.2≤999999
structure TxtC (mg:Str->Option Value):Prop where
 lim:∃ t,mg "LIMIT" = some (.int 999999 t)
 ml:∃ t,mg "MOST_LANES" = some (.int 6 t)
 hm:∃ t,mg "HIGHEST_MOST" = some (.int 1000000000000 t)
 gr:∃ t,mg "GROUND" = some (.int (-1) t)
section
variable {P:Program} {w:World} {K:PySem.W.Frag} {mg:Str->Option Value} {base:Heap}
def spNL:Sp:=fun vs H Q _=>∃ n:Int,vs=[.int n]/\1≤n/\n≤6/\Q .non H
theorem scNL:FnScope ["lanes"] ["lanes"] (defScope (top 11)):=⟨rfl,rfl,rfl,by decide +kernel,rfl,by decide +kernel,by decide +kernel⟩
theorem ok_nl {f:Addr} {fd:FuncData} (F:Fun K "need_lanes" "need_lanes" (top 11) f fd) (TC:TxtC mg):FnOk P w K mg base CX0 1 f fd ["lanes"] spNL:=by
 refine F.ok scNL (fun vs H Q E h=>?_) (fun cdv A outer s H vs Q E hr h=>?_)
 ·obtain ⟨n,rfl,_⟩:=h
  rfl
 ·obtain ⟨n,rfl,h1,h2,k⟩:=h
  obtain ⟨t,ml⟩:=TC.ml
  refine ⟨_,(pss_one (ps_if (pt_not (pt_chain op_le op_le pe_int (pv 0) (pe_glob (v:=.int 6) rfl ml ⟨_,rfl⟩))) (pss_one ps_never) pss_nil)),?_⟩
  exact ⟨_,rfl,_,_,rfl,rfl,_,rfl,ifT (by simpa using h1) ⟨_,_,rfl,rfl,_,rfl,ifF (by simpa using h2) k⟩⟩
def spNT (K:PySem.W.Frag):Sp:=fun vs H Q _=>∃ (n:Int) (q:Addr) (xs:List V) (es:List Tie),vs=[.int n,.ref q]/\SqL K H q xs/\Paired (TieAt H) xs es/\(∀ e∈es,OkTie n e)/\Q .non H
theorem scNT:FnScope ["lanes","ties","one","other","least"] ["lanes","ties"] (defScope (top 12)):=⟨rfl,rfl,rfl,by decide +kernel,rfl,by decide +kernel,by decide +kernel⟩
theorem ok_nt {f:Addr} {fd:FuncData} (F:Fun K "need_ties" "need_ties" (top 12) f fd) (TC:TxtC mg):FnOk P w K mg base CX0 1 f fd ["lanes","ties"] (spNT K):=by
 refine F.ok scNT (fun vs H Q E h=>?_) (fun cdv A outer s H vs Q E hr h=>?_)
 ·obtain ⟨n,q,xs,es,rfl,_⟩:=h
  rfl
 ·obtain ⟨n,q,xs,es,rfl,hq,pe,ok,k⟩:=h
  obtain ⟨t,ml⟩:=TC.lim
  refine ⟨_,(pss_one (ps_for PassesOwn.never rfl (pi_list (pv 1)) (pg_tup rfl (pgs_cons (pg_name (i:=2) scNT.nd rfl (Or.inl rfl)) (pgs_cons (pg_name (i:=3) scNT.nd rfl (Or.inl rfl)) (pgs_cons (pg_name (i:=4) scNT.nd rfl (Or.inl rfl)) pgs_nil))))
   (pss_cons (ps_if (PW.pt (pw_or (pt_not (pt_chain op_le op_lt pe_int (pv 2) (pv 0))) (pw_or (pt_not (pt_chain op_le op_lt pe_int (pv 3) (pv 0))) (pw_or1 (pt_cmpR op_eq (pv 2) (pv 3) (nomark _)))))) (pss_one ps_never) pss_nil)
   (pss_one (ps_if (pt_not (pt_chain op_le op_le (pe_un un_neg (pe_glob (v:=.int 999999) rfl ml ⟨_,rfl⟩)) (pv 4) (pe_glob (v:=.int 999999) rfl ml ⟨_,rfl⟩))) (pss_one ps_never) pss_nil))))),?_⟩
  refine ⟨_,rfl,q,rfl,⟨_,hq⟩,for_list (K:=K) (a:=q) (xs:=xs) (fun i σ H'=>∃ a b c,σ=[some (.int n),some (.ref q),a,b,c]/\H'=H) ⟨none,none,none,rfl,rfl⟩ (fun i σ H' _ ⟨_,_,_,_,e⟩=>by rw [e];exact hq) ?_ ?_⟩
  ·rintro i x σ H' hi ⟨a,b,c,rfl,rfl⟩
   obtain ⟨e,he,a',rfl,h'⟩:=ties_get pe hi
   have o:=ok e (List.mem_of_getElem? he)
   refine ⟨a',_,rfl,SqT.of h',rfl,_,_,rfl,_,_,rfl,_,_,rfl,rfl,?_⟩
   refine ⟨_,rfl,_,_,rfl,rfl,_,rfl,ifT (by simpa using o.o.1) ⟨_,rfl,_,_,rfl,rfl,_,rfl,?_⟩⟩
   refine ifF (by simpa using o.o.2) ?_
   refine ⟨_,rfl,_,_,rfl,rfl,_,rfl,ifT (by simpa using o.t.1) ⟨_,rfl,_,_,rfl,rfl,_,rfl,ifF (by simpa using o.t.2) ?_⟩⟩
   refine ⟨_,rfl,_,rfl,rfl,_,rfl,ifF (by simpa using o.ne) ?_⟩
   refine ⟨_,rfl,_,rfl,_,_,rfl,rfl,_,rfl,ifT (by have:=o.l.1;simp;omega) ⟨_,_,rfl,rfl,_,rfl,ifF (by simpa using o.l.2) ?_⟩⟩
   exact ⟨_,_,_,rfl,rfl⟩
  ·rintro σ H' ⟨a,b,c,rfl,rfl⟩
   exact k
def spNM:Sp:=fun vs H Q _=>∃ n:Int,vs=[.int n]/\0≤n/\n≤1000000000000/\Q .non H
theorem scNM:FnScope ["most"] ["most"] (defScope (top 13)):=⟨rfl,rfl,rfl,by decide +kernel,rfl,by decide +kernel,by decide +kernel⟩
theorem ok_nm {f:Addr} {fd:FuncData} (F:Fun K "need_most" "need_most" (top 13) f fd) (TC:TxtC mg):FnOk P w K mg base CX0 1 f fd ["most"] spNM:=by
 refine F.ok scNM (fun vs H Q E h=>?_) (fun cdv A outer s H vs Q E hr h=>?_)
 ·obtain ⟨n,rfl,_⟩:=h
  rfl
 ·obtain ⟨n,rfl,h1,h2,k⟩:=h
  obtain ⟨t,ml⟩:=TC.hm
  refine ⟨_,(pss_one (ps_if (pt_not (pt_chain op_le op_le pe_int (pv 0) (pe_glob (v:=.int 1000000000000) rfl ml ⟨_,rfl⟩))) (pss_one ps_never) pss_nil)),?_⟩
  exact ⟨_,rfl,_,_,rfl,rfl,_,rfl,ifT (by simpa using h1) ⟨_,_,rfl,rfl,_,rfl,ifF (by simpa using h2) k⟩⟩
def spNA (K:PySem.W.Frag):Sp:=fun vs H Q _=>∃ (n m:Int) (q:Addr) (xs:List V) (es:List Tie),vs=[.int n,.ref q,.int m]/\1≤n/\n≤6/\0≤m/\m≤1000000000000/\SqL K H q xs/\Paired (TieAt H) xs es/\(∀ e∈es,OkTie n e)/\Q .non H
theorem scNA:FnScope ["lanes","ties","most"] ["lanes","ties","most"] (defScope (top 14)):=⟨rfl,rfl,rfl,by decide +kernel,rfl,by decide +kernel,by decide +kernel⟩
theorem ok_na {f fL fT fM:Addr} {fd fdL fdT fdM:FuncData} (F:Fun K "need_all" "need_all" (top 14) f fd) (TC:TxtC mg) (DL:Def K mg "need_lanes" (top 11) ["lanes"] fL fdL) (DT:Def K mg "need_ties" (top 12) ["lanes","ties"] fT fdT) (DM:Def K mg "need_most" (top 13) ["most"] fM fdM) :
 FnOk P w K mg base CX0 2 f fd ["lanes","ties","most"] (spNA K):=by
 have GL:FnOk P w K mg base CX0 1 fL fdL ["lanes"] spNL:=ok_nl DL.F TC
 have GT:FnOk P w K mg base CX0 1 fT fdT ["lanes","ties"] (spNT K):=ok_nt DT.F TC
 have GM:FnOk P w K mg base CX0 1 fM fdM ["most"] spNM:=ok_nm DM.F TC
 refine F.ok scNA (fun vs H Q E h=>?_) (fun cdv A outer s H vs Q E hr h=>?_)
 ·obtain ⟨n,m,q,xs,es,rfl,_⟩:=h
  rfl
 ·obtain ⟨n,m,q,xs,es,rfl,n1,n2,m1,m2,hq,pe,ok,k⟩:=h
  refine ⟨_,(pss_cons (ps_expr (pe_call GL hr rfl DL.mg DL.F.kp DL.b .nil pass0 (pa_cons (pv 0) pa_nil)))
   (pss_cons (ps_expr (pe_call GT hr rfl DT.mg DT.F.kp DT.b .nil pass0 (pa_cons (pv 0) (pa_cons (pv 1) pa_nil))))
   (pss_one (ps_expr (pe_call GM hr rfl DM.mg DM.F.kp DM.b .nil pass0 (pa_cons (pv 2) pa_nil)))))),?_⟩
  exact ⟨_,rfl,n,rfl,n1,n2,_,rfl,_,rfl,n,q,xs,es,rfl,hq,pe,ok,_,rfl,m,rfl,m1,m2,k⟩
def loT (i:Nat):Tie:=((i:Int),-1,0)
def hiT (m:Int) (i:Nat):Tie:=(-1,(i:Int),0-m)
def bnds (n:Nat) (m:Int):List Tie:=(List.range n).map loT++(List.range n).map (hiT m)
def spBo:Sp:=fun vs H Q _=>∃ (n:Nat) (m:Int),vs=[.int n,.int m]/\n≤100/\∀ (q:Addr) (xs:List V) (H':Hp),H' q=some (.lst xs)->Paired (TieAt H') xs (bnds n m)->H q=none->Same H H'->Q (.ref q) H'
theorem scBo:FnScope ["lanes","most","lowest"] ["lanes","most"] (defScope (top 15)):=⟨rfl,rfl,rfl,by decide +kernel,rfl,by decide +kernel,by decide +kernel⟩
theorem Paired.snoc {α β:Type} {R:α->β->Prop} {x:α} {y:β} (h:R x y):∀ {xs:List α} {ys:List β},Paired R xs ys->Paired R (xs++[x]) (ys++[y])
 |_,_,.nil=>.cons h .nil
 |_,_,.cons a t=>.cons a (Paired.snoc h t)
theorem Paired.app {α β:Type} {R:α->β->Prop} {xs2:List α} {ys2:List β} (h:Paired R xs2 ys2):∀ {xs:List α} {ys:List β},Paired R xs ys->Paired R (xs++xs2) (ys++ys2)
 |_,_,.nil=>h
 |_,_,.cons a t=>.cons a (Paired.app h t)
theorem ok_bo {f:Addr} {fd:FuncData} (F:Fun K "bounds" "bounds" (top 15) f fd) (T:Txt K mg) (TC:TxtC mg):FnOk P w K mg base CX0 1 f fd ["lanes","most"] spBo:=by
 refine F.ok scBo (fun vs H Q E h=>?_) (fun cdv A outer s H vs Q E hr h=>?_)
 ·obtain ⟨n,m,rfl,_⟩:=h
  rfl
 ·obtain ⟨n,m,rfl,hn,k⟩:=h
  obtain ⟨t,mgr⟩:=TC.gr
  refine ⟨_,(pss_cons (ps_setComp (g:=gName 0) (i:=2) (own:=["lane"]) (js:=[]) (N':=["lane"]) (CompScope.of (osc:=defScope (top 15)) (N:=["lanes","most","lowest"]) rfl rfl ⟨rfl,by decide +kernel,by decide +kernel,by decide +kernel,rfl,by decide +kernel⟩) rfl scBo.nd rfl rfl (pi_range1 rfl T.range (pa_cons (pv 0) pa_nil)) (fun _ _ _ _ _=>(pg_name (i:=0) (show List.Nodup (["lane"]:List Str) by decide +kernel) rfl (Or.inl rfl) (Or.inr rfl))) (fun _ _ _ _ _=>pifs_nil) (fun _ _ _ _ _=>pe_tup (pa_cons (pv 0) (pa_cons (pe_glob (v:=.int (-1)) rfl mgr ⟨_,rfl⟩) (pa_cons pe_int pa_nil)))))
   (pss_one (ps_ret (pe_op op_cat (pv 2) (pe_comp (g:=gName 0) (own:=["lane"]) (js:=[1]) (N':=["lane","most"]) (CompScope.of (osc:=defScope (top 15)) (N:=["lanes","most","lowest"]) rfl rfl ⟨rfl,by decide +kernel,by decide +kernel,by decide +kernel,rfl,by decide +kernel⟩) rfl (pi_range1 rfl T.range (pa_cons (pv 0) pa_nil)) (fun _ _ _ _ _=>(pg_name (i:=0) (show List.Nodup (["lane","most"]:List Str) by decide +kernel) rfl (Or.inl rfl) (Or.inr rfl))) (fun _ _ _ _ _=>pifs_nil) (fun _ _ _ _ _=>pe_tup (pa_cons (pe_glob (v:=.int (-1)) rfl mgr ⟨_,rfl⟩) (pa_cons (pv 0) (pa_cons (pe_op op_sub pe_int (pv 1)) pa_nil))))))))),?_⟩
  have z3:3≤sizeLine:=by decide
  refine ⟨_,rfl,_,rfl,by omega,by omega,?_⟩
  refine comp_range (n:=n) (fun i ys σ' H'=>∃ v,σ'=[v]/\Same H H'/\Paired (TieAt H') ys ((List.range i).map loT)) (Nat.le_trans hn (by decide)) ⟨none,rfl,Same.refl _,.nil⟩ ?_ ?_
  ·rintro i ys σ' H' hi hys ⟨v,rfl,s1,pe⟩ N hN
   refine ⟨_,rfl,z3,fun p hp=>?_⟩
   refine hN _ _ _ (by simp [hys]) ⟨_,rfl,s1.trans (Same.new hp),?_⟩
   rw [List.range_succ,List.map_append]
   refine Paired.snoc ⟨p,rfl,?_⟩ (ties_tk (Same.tk (Same.new hp)) pe)
   rw [upd_same,Int.zero_add];rfl
  ·rintro ys σ' H1 hys ⟨v,rfl,s1,pe⟩
   have ly:=Paired.length pe
   rw [List.length_map,List.length_range] at ly
   refine ⟨Nat.le_trans (Nat.le_of_eq ly) (Nat.le_trans hn (by decide)),fun q1 hq1=>?_⟩
   have s2:Same H (upd H1 q1 (.lst ys)):=s1.trans (Same.new hq1)
   refine ⟨_,rfl,_,rfl,_,rfl,by omega,by omega,?_⟩
   refine comp_range (n:=n) (fun i zs σ' H'=>∃ v,σ'=[v,some (.int m)]/\Same (upd H1 q1 (.lst ys)) H'/\Paired (TieAt H') zs ((List.range i).map (hiT m))) (Nat.le_trans hn (by decide)) ⟨none,rfl,Same.refl _,.nil⟩ ?_ ?_
   ·rintro i zs σ' H' hi hzs ⟨v,rfl,s3,pz⟩ N hN
    refine ⟨_,rfl,_,rfl,_,_,rfl,rfl,z3,fun p hp=>?_⟩
    refine hN _ _ _ (by simp [hzs]) ⟨_,rfl,s3.trans (Same.new hp),?_⟩
    rw [List.range_succ,List.map_append]
    refine Paired.snoc ⟨p,rfl,?_⟩ (ties_tk (Same.tk (Same.new hp)) pz)
    rw [upd_same,Int.zero_add];rfl
   ·rintro zs σ' H2 hzs ⟨v,rfl,s3,pz⟩
    have lz:=Paired.length pz
    rw [List.length_map,List.length_range] at lz
    refine ⟨Nat.le_trans (Nat.le_of_eq lz) (Nat.le_trans hn (by decide)),fun q2 hq2=>?_⟩
    have s4:Same H (upd H2 q2 (.lst zs)):=s2.trans (s3.trans (Same.new hq2))
    refine ⟨q1,q2,ys,zs,rfl,rfl,Same.new hq2 _ _ (s3 _ _ upd_same),upd_same,Nat.le_trans (by omega:ys.length+zs.length≤200) (by decide),fun q3 hq3=>?_⟩
    have s5:=s4.trans (Same.new (o:=.lst (ys++zs)) hq3)
    refine k q3 _ _ upd_same (Paired.app (ties_tk (Same.tk ((Same.new hq2).trans (Same.new hq3))) pz) (ties_tk (Same.tk ((Same.new hq1).trans (s3.trans ((Same.new hq2).trans (Same.new hq3))))) pe)) ?_ s5
    exact s4.free hq3
end
def Hts (n:Nat) (h:Int->Int) (kv:List (Key×V)):Prop:=∀ v:Int,-1≤v->v<n->valV kv (.inl v)=some (.int (h v))
def Bys (b:Int->Option Tie) (kv:List (Key×V)) (H:Hp):Prop:=∀ v:Int,match b v with
 |none=>valV kv (.inl v)=none
 |some e=>∃ x,valV kv (.inl v)=some x/\TieAt H x e
theorem Bys.some' {b:Int->Option Tie} {kv:List (Key×V)} {H:Hp} (h:Bys b kv H) {v:Int} {e:Tie} (hv:b v=some e):∃ x,valV kv (.inl v)=some x/\TieAt H x e:=by
 have:=h v
 rw [hv] at this
 exact this
theorem Bys.tk {b:Int->Option Tie} {kv:List (Key×V)} {H H':Hp} (h:Bys b kv H) (k:TK H H'):Bys b kv H':=fun v=>by
 have:=h v
 cases e:b v with
 |none=>rw [e] at this;exact this
 | some t=>
   rw [e] at this
   obtain ⟨x,h1,a,h2,h3⟩:=this
   exact ⟨x,h1,a,h2,k _ _ h3⟩
def stV:Option Int->V
 |none=>.non
 |some v=>.int v
structure Hps (n:Nat) (H0:Hp) (p1 p2:Addr) (S:Bf.St) (c:Nat) (H:Hp):Prop where
 k1:∃ kv,H p1=some (.dK kv)/\Hts n S.h kv/\kv.length=n+1
 k2:∃ kv,H p2=some (.dK kv)/\Bys S.by' kv H/\kv.length≤c
 sm:Same H0 H
 n1:H0 p1=none
 n2:H0 p2=none
 ne:p1≠p2
theorem Hps.same {n:Nat} {H0 H H':Hp} {p1 p2:Addr} {S:Bf.St} {c:Nat} (h:Hps n H0 p1 p2 S c H) (s:Same H H'):Hps n H0 p1 p2 S c H':=by
 obtain ⟨kv1,a1,a2,a3⟩:=h.k1
 obtain ⟨kv2,b1,b2,b3⟩:=h.k2
 exact ⟨⟨kv1,s _ _ a1,a2,a3⟩,⟨kv2,s _ _ b1,b2.tk (Same.tk s),b3⟩,h.sm.trans s,h.n1,h.n2,h.ne⟩
theorem Hps.more {n:Nat} {H0 H:Hp} {p1 p2:Addr} {S:Bf.St} {c c':Nat} (h:Hps n H0 p1 p2 S c H) (hc:c≤c'):Hps n H0 p1 p2 S c' H:=by
 obtain ⟨kv2,b1,b2,b3⟩:=h.k2
 exact ⟨h.k1,⟨kv2,b1,b2,Nat.le_trans b3 hc⟩,h.sm,h.n1,h.n2,h.ne⟩
def Ended (es:List Tie) (n:Nat) (S:Bf.St) (st:Option Int):Prop:=
 (st=none/\(∃ k,Bf.Good es k S)/\∀ e∈es,Bf.Sat S.h e)∨(∃ v,st=some v/\Bf.Stuck es (n+1) (-1) S v)
structure InTie (n:Nat) (e:Tie):Prop where
 o:-1≤e.1/\e.1<n
 t:-1≤e.2.1/\e.2.1<n
 ne:e.1≠e.2.1
section
variable {P:Program} {w:World} {K:PySem.W.Frag} {mg:Str->Option Value} {base:Heap}
def spRa (K:PySem.W.Frag):Sp:=fun vs H Q _=>∃ (n:Nat) (q:Addr) (xs:List V) (es:List Tie),vs=[.int n,.ref q]/\n≤6/\SqL K H q xs/\Paired (TieAt H) xs es/\es.length≤1000/\(∀ e∈es,InTie n e)/\
 ∀ (t p1 p2:Addr) (S:Bf.St) (st:Option Int) (c:Nat) (H':Hp),H' t=some (.tup [.ref p1,.ref p2,stV st])->Hps n H p1 p2 S c H'->Ended es n S st->Q (.ref t) H'
theorem scRa:FnScope ["lanes","ties","heights","raised_by","still","turn","one","other","least"] ["lanes","ties"] (defScope (top 16)):=⟨rfl,rfl,rfl,by decide +kernel,rfl,by decide +kernel,by decide +kernel⟩
theorem ok_ra {f:Addr} {fd:FuncData} (F:Fun K "raised" "raised" (top 16) f fd) (T:Txt K mg) (TC:TxtC mg):FnOk P w K mg base CX0 1 f fd ["lanes","ties"] (spRa K):=by
 refine F.ok scRa (fun vs H Q E h=>?_) (fun cdv A outer s H vs Q E hr h=>?_)
 ·obtain ⟨n,q,xs,es,rfl,_⟩:=h
  rfl
 ·obtain ⟨n,q,xs,es,rfl,hn,hq,pe,hl,hin,k⟩:=h
  obtain ⟨tg,mgr⟩:=TC.gr
  have hu:=hu_of hr
  refine ⟨_,(pss_cons
   (ps_setDComp (g:=gName 0) (i:=2) (own:=["lane"]) (js:=[]) (N':=["lane"]) (CompScope.of (osc:=defScope (top 16)) (N:=["lanes","ties","heights","raised_by","still","turn","one","other","least"]) rfl rfl ⟨rfl,by decide +kernel,by decide +kernel,by decide +kernel,rfl,by decide +kernel⟩) rfl scRa.nd rfl rfl (pi_range2 rfl T.range (pa_cons (pe_glob (v:=.int (-1)) rfl mgr ⟨_,rfl⟩) (pa_cons (pv 0) pa_nil))) (fun _ _ _ _ _=>(pg_name (i:=0) (show List.Nodup (["lane"]:List Str) by decide +kernel) rfl (Or.inl rfl) (Or.inr rfl))) (fun _ _ _ _ _=>pifs_nil) (fun _ _ _ _ _=>pv 0) (fun _ _ _ _ _=>pe_int))
   (pss_cons (ps_set (i:=3) scRa.nd rfl (Or.inl rfl) pe_dnewK)
   (pss_cons (ps_set (i:=4) scRa.nd rfl (Or.inl rfl) pe_non)
   (pss_cons (ps_for PassesOwn.never rfl (pi_range1 rfl T.range (pa_cons (pe_op op_add (pe_callB call_lenD (by rfl) T.len bt_len (pa_cons (pv 2) pa_nil)) pe_int) pa_nil)) (pg_name (i:=5) scRa.nd rfl (Or.inl rfl))
    (pss_cons (ps_set (i:=4) scRa.nd rfl (Or.inl rfl) pe_non)
    (pss_cons (ps_for PassesOwn.never rfl (pi_list (pv 1)) (pg_tup rfl (pgs_cons (pg_name (i:=6) scRa.nd rfl (Or.inl rfl)) (pgs_cons (pg_name (i:=7) scRa.nd rfl (Or.inl rfl)) (pgs_cons (pg_name (i:=8) scRa.nd rfl (Or.inl rfl)) pgs_nil))))
     (pss_one (ps_if (pt_cmpR op_gt (pe_op op_add (pe_dget hu (pv 2) (pv 7) (fun _ _=>rfl)) (pv 8)) (pe_dget hu (pv 2) (pv 6) (fun _ _=>rfl)) (nomark _))
      (pss_cons (ps_dput hu (pv 2) (pv 6) (pe_op op_add (pe_dget hu (pv 2) (pv 7) (fun _ _=>rfl)) (pv 8)) rfl)
      (pss_cons (ps_dput hu (pv 3) (pv 6) (pe_tup (pa_cons (pv 6) (pa_cons (pv 7) (pa_cons (pv 8) pa_nil)))) rfl)
      (pss_one (ps_set (i:=4) scRa.nd rfl (Or.inl rfl) (pv 6))))) pss_nil)))
    (pss_one (ps_if (pt_cmpR op_isN (pv 4) pe_non (nomark _)) (pss_one ps_break) pss_nil)))))
   (pss_one (ps_ret (pe_tup (pa_cons (pv 2) (pa_cons (pv 3) (pa_cons (pv 4) pa_nil)))))))))),?_⟩
  have z3:3≤sizeLine:=by decide
  have pl:=Paired.length pe
  refine ⟨_,rfl,_,_,rfl,⟨by decide,by decide,by omega,by omega⟩,fun p1 hp1=>?_⟩
  refine dcomp_range (n:=((n:Int) - -1).toNat) (fun i σ' H'=>∃ v kv,σ'=[v]/\H'=upd H p1 (.dK kv)/\kv.length=i/\∀ j:Int,valV kv (.inl j)=if -1≤j/\j < -1+i then some (.int 0) else none) ⟨none,[],rfl,rfl,rfl,fun j=>by rw [if_neg (by omega)];rfl⟩ ?_ ?_
  ·rintro i σ' H' hi ⟨v,kv,rfl,rfl,hk1,hk2⟩ N hN
   refine ⟨_,rfl,kv,Sum.inl (-1+(i:Int)),upd_same,rfl,Nat.lt_of_le_of_lt (by omega:kv.length≤10) (by decide),hN _ _ ⟨_,_,rfl,upd_upd,?_,fun j=>?_⟩⟩
   ·rw [putK_new _ (by rw [hk2,if_neg (by omega)]),List.length_append,hk1];rfl
   ·rw [valV_put,hk2]
    by_cases q:j=-1+(i:Int)
    ·rw [if_pos (by rw [q]),if_pos (by omega)]
    ·rw [if_neg (by intro z;exact q (Sum.inl.inj z))]
     by_cases q2:-1≤j/\j < -1+(i:Int)
     ·rw [if_pos q2,if_pos (by omega)]
     ·rw [if_neg q2,if_neg (by omega)]
  ·rintro σ' H' ⟨v,kv1,rfl,rfl,hk1,hk2⟩
   have hk1':kv1.length=n+1:=by omega
   intro p2 hp2
   have ne:p1≠p2:=fun z=>by rw [← z,upd_same] at hp2;cases hp2
   have hp2':H p2=none:=by rw [upd_ne (Ne.symm ne)] at hp2;exact hp2
   have h0:Hps n H p1 p2 Bf.St.zero 0 (upd (upd H p1 (.dK kv1)) p2 (.dK [])):=by
    refine ⟨⟨kv1,by rw [upd_ne ne,upd_same],fun v h1 h2=>?_,hk1'⟩,⟨[],upd_same,fun v=>rfl,Nat.le_refl _⟩,(Same.new hp1).trans (Same.new hp2),hp1,hp2',ne⟩
    rw [hk2,if_pos (by omega)];rfl
   have fin:∀ (S:Bf.St) (st:Option Int) (c:Nat) (σ':St) (H':Hp),(∃ v5 v6 v7 v8,σ'=[some (.int n),some (.ref q),some (.ref p1),some (.ref p2),some (stV st),v5,v6,v7,v8])->Hps n H p1 p2 S c H'->Ended es n S st->
    tRet (tTup (tCons (tVar 2) (tCons (tVar 3) (tCons (tVar 4) tNil)))) { nx:=fun _ H'=>Q .non H',rt:=Q } σ' H':=by
    rintro S st c σ' H' ⟨v5,v6,v7,v8,rfl⟩ hp en
    exact ⟨_,rfl,_,rfl,_,rfl,z3,fun t ht=>k t p1 p2 S st c _ upd_same (hp.same (Same.new ht)) en⟩
   have hq':∀ {S:Bf.St} {c:Nat} {H':Hp},Hps n H p1 p2 S c H'->SqL K H' q xs:=fun hp=>hp.sm.seq hq
   refine ⟨_,rfl,p1,kv1,rfl,by rw [upd_ne ne,upd_same],_,_,rfl,rfl,_,rfl,by omega,by omega,?_⟩
   refine for_range (n:=((kv1.length:Int)+1).toNat) (fun i σ' H'=>∃ S st,(∃ v5 v6 v7 v8,σ'=[some (.int n),some (.ref q),some (.ref p1),some (.ref p2),some (stV st),v5,v6,v7,v8])/\Hps n H p1 p2 S (i*1000) H'/\(i=0->Bf.Round es 1 [] es S none)/\(0<i->∃ v,st=some v/\Bf.Round es i es [] S (some v))) ?_ ?_ ?_
   ·exact ⟨Bf.St.zero,none,⟨none,none,none,none,rfl⟩,h0,fun _=>Bf.Round.first es,fun z=>absurd z (Nat.lt_irrefl _)⟩
   ·rintro i σ' H1 hi ⟨S,st,⟨v5,v6,v7,v8,rfl⟩,hp,r0,r1⟩
    have R:Bf.Round es (i+1) [] es S none:=by
     by_cases z:i=0
     ·subst z;exact r0 rfl
     ·obtain ⟨v,_,R⟩:=r1 (by omega)
      exact R.next
    clear r0 r1
    refine ⟨_,rfl,q,rfl,⟨_,hq' hp⟩,?_⟩
    refine for_list (K:=K) (a:=q) (xs:=xs) (fun j σ' H'=>∃ S st,(∃ v6 v7 v8,σ'=[some (.int n),some (.ref q),some (.ref p1),some (.ref p2),some (stV st),some (.int (0+i)),v6,v7,v8])/\Hps n H p1 p2 S (i*1000+j) H'/\Bf.Round es (i+1) (es.take j) (es.drop j) S st) ?_ (fun j σ' H' _ ⟨S,st,_,hp,_⟩=>hq' hp) ?_ ?_
    ·exact ⟨S,none,⟨_,_,_,rfl⟩,hp,by rw [List.take_zero,List.drop_zero];exact R⟩
    ·rintro j x σ' H2 hj ⟨S,st,⟨v6,v7,v8,rfl⟩,hp,R⟩
     obtain ⟨e,he,b,rfl,hb⟩:=ties_get (ties_tk (Same.tk hp.sm) pe) hj
     have hm:=List.mem_of_getElem? he
     have it:=hin e hm
     have hjl:j<es.length:=(List.getElem?_eq_some_iff.mp he).1
     have ed:es.drop j=e::es.drop (j+1):=by
      rw [List.drop_eq_getElem_cons hjl]
      rw [List.getElem?_eq_getElem hjl] at he
      rw [Option.some.inj he]
     have etk:es.take (j+1)=es.take j++[e]:=by
      rw [List.take_succ,he];rfl
     rw [ed] at R
     obtain ⟨kv,a1,a2,a3⟩:=hp.k1
     obtain ⟨kw,b1,b2,b3⟩:=hp.k2
     have kwl:kw.length<sizeLine:=Nat.lt_of_le_of_lt (show kw.length≤100000 by omega) (by decide)
     refine ⟨b,_,rfl,SqT.of hb,rfl,_,_,rfl,_,_,rfl,_,_,rfl,rfl,?_⟩
     refine ⟨_,rfl,_,rfl,p1,_,rfl,dget_int a1 (a2 _ it.t.1 it.t.2),_,rfl,_,_,rfl,rfl,_,rfl,_,rfl,p1,_,rfl,dget_int a1 (a2 _ it.o.1 it.o.2),_,_,rfl,rfl,_,rfl,?_⟩
     refine ite2 (fun hgt=>?_) (fun hgt=>?_)
     ·have hlt:S.h e.1<S.h e.2.1+e.2.2:=by simpa using hgt
      refine ⟨_,rfl,_,rfl,p1,_,rfl,dget_int a1 (a2 _ it.t.1 it.t.2),_,rfl,_,_,rfl,rfl,_,rfl,_,rfl,p1,_,rfl,DPut.k (k:=Sum.inl e.1) a1 (Nat.lt_of_le_of_lt (by omega:kv.length≤10) (by decide)),?_⟩
      refine ⟨_,rfl,_,rfl,_,rfl,z3,fun tt htt=>?_⟩
      have nt1:tt≠p1:=fun z=>by rw [z,upd_same] at htt;cases htt
      rw [upd_ne nt1] at htt
      have nt2:tt≠p2:=fun z=>by rw [z,b1] at htt;cases htt
      refine ⟨_,rfl,_,rfl,p2,_,rfl,DPut.k (k:=Sum.inl e.1) (kvs:=kw) (by rw [upd_ne (Ne.symm nt2),upd_ne (Ne.symm hp.ne)];exact b1) kwl,?_⟩
      refine ⟨_,rfl,?_⟩
      refine ⟨S.raise (i+1) e,some e.1,⟨_,_,_,rfl⟩,?_,by rw [etk];exact R.raise hm it.ne hlt⟩
      have kb:∀ b' u,H2 b'=some u->b'≠p1->b'≠p2->(upd (upd (upd H2 p1 (.dK (putK kv (.inl e.1) (.int (S.h e.2.1+e.2.2))))) tt (.tup [.int e.1,.int e.2.1,.int e.2.2])) p2 (.dK (putK kw (.inl e.1) (.ref tt)))) b'=some u:=fun b' u e' h1 h2=>by
       rw [upd_ne h2,upd_ne (ne_of_none e' htt),upd_ne h1];exact e'
      refine ⟨⟨putK kv (.inl e.1) (.int (S.h e.2.1+e.2.2)),by rw [upd_ne hp.ne,upd_ne (Ne.symm nt1),upd_same],fun v h1 h2=>?_,by rw [putK_old (a2 _ it.o.1 it.o.2),a3]⟩,⟨putK kw (.inl e.1) (.ref tt),upd_same,fun v=>?_,by have:=length_putK kw (Sum.inl e.1) (V.ref tt);omega⟩,fun b' u e'=>kb b' u (hp.sm _ _ e') (ne_of_none e' hp.n1) (ne_of_none e' hp.n2),hp.n1,hp.n2,hp.ne⟩
      ·rw [valV_put]
       show _=some (V.int (Bf.put S.h e.1 (S.h e.2.1+e.2.2) v))
       by_cases q:v=e.1
       ·rw [if_pos (by rw [q]),q,Bf.put_same]
       ·rw [if_neg (by intro z;exact q (Sum.inl.inj z)),Bf.put_ne q];exact a2 v h1 h2
      ·show match Bf.put S.by' e.1 (some e) v with|none=>_|some e=>_
       rw [valV_put]
       by_cases q:v=e.1
       ·rw [q,Bf.put_same]
        refine ⟨.ref tt,by rw [if_pos rfl],tt,rfl,?_⟩
        rw [upd_ne nt2,upd_same]
       ·rw [Bf.put_ne q]
        have hv:=b2 v
        cases eb:S.by' v with
        | none=>
          rw [eb] at hv
          show (if _ then _ else _)=none
          rw [if_neg (by intro z;exact q (Sum.inl.inj z))];exact hv
        | some t=>
          rw [eb] at hv
          obtain ⟨x,hx,b',hb1,hb2⟩:=hv
          refine ⟨x,by rw [if_neg (by intro z;exact q (Sum.inl.inj z))];exact hx,b',hb1,kb _ _ hb2 (ne_of hb2 a1 (by intro z;cases z)) (ne_of hb2 b1 (by intro z;cases z))⟩
     ·have hge:¬ S.h e.1<S.h e.2.1+e.2.2:=by simpa using hgt
      exact ⟨S,st,⟨_,_,_,rfl⟩,hp.more (by omega),by rw [etk];exact R.keep hge⟩
    ·rintro σ' H2 ⟨S,st,⟨v6,v7,v8,rfl⟩,hp,R⟩
     rw [pl,List.take_length,List.drop_length] at R
     cases st with
     | none=>
       refine ⟨_,rfl,rfl,_,rfl,ifT rfl ?_⟩
       exact fin S none _ _ _ ⟨_,_,_,_,rfl⟩ hp (.inl ⟨rfl,⟨_,R.g⟩,R.n rfl⟩)
     | some v=>
       refine ⟨_,rfl,rfl,_,rfl,ifF rfl ?_⟩
       exact ⟨S,some v,⟨_,_,_,_,rfl⟩,hp.more (by omega),fun z=>absurd z (Nat.succ_ne_zero _),fun _=>⟨v,rfl,R⟩⟩
   ·rintro σ' H1 ⟨S,st,⟨v5,v6,v7,v8,rfl⟩,hp,r0,r1⟩
    obtain ⟨v,rfl,R⟩:=r1 (by omega)
    have en:((kv1.length:Int)+1).toNat=n+1+1:=by omega
    rw [en] at R
    obtain ⟨hv1,e,hv2,hv3⟩:=R.y v rfl
    refine fin S (some v) _ _ _ ⟨_,_,_,_,rfl⟩ hp (.inr ⟨v,rfl,R.g,fun e he=>?_,?_,hv1⟩)
    ·have it:=hin e he
     exact ⟨⟨it.o.1,by have:=it.o.2;omega⟩,⟨it.t.1,by have:=it.t.2;omega⟩,it.ne⟩
    ·have it:=hin e hv2
     rw [← hv3]
     exact ⟨it.o.1,by have:=it.o.2;omega⟩
end
def allT (es:List Tie) (n:Nat) (m:Int):List Tie:=es++bnds n m
theorem bnds_in {n:Nat} {m:Int} {e:Tie} (h:e∈bnds n m):InTie n e:=by
 unfold bnds at h
 rcases List.mem_append.mp h with h|h
 ·obtain ⟨i,hi,rfl⟩:=List.mem_map.mp h
  have:=List.mem_range.mp hi
  exact ⟨⟨by show (-1:Int)≤(i:Int);omega,by show (i:Int)<n;omega⟩,⟨by show (-1:Int)≤-1;omega,by show (-1:Int)<n;omega⟩,by show (i:Int)≠-1;omega⟩
 ·obtain ⟨i,hi,rfl⟩:=List.mem_map.mp h
  have:=List.mem_range.mp hi
  exact ⟨⟨by show (-1:Int)≤-1;omega,by show (-1:Int)<n;omega⟩,⟨by show (-1:Int)≤(i:Int);omega,by show (i:Int)<n;omega⟩,by show (-1:Int)≠(i:Int);omega⟩
theorem OkTie.inT {n:Nat} {e:Tie} (h:OkTie n e):InTie n e:=⟨⟨by have:=h.o.1;omega,h.o.2⟩,⟨by have:=h.t.1;omega,h.t.2⟩,h.ne⟩
def amV (n:Nat) (h:Int->Int):List V:=(List.range n).map fun i:Nat=>V.int (h i)
structure TiesIn (K:PySem.W.Frag) (H:Hp) (q:Addr) (n:Nat) (es:List Tie):Prop where
 at_:∃ xs,H q=some (.lst xs)/\Paired (TieAt H) xs es
 ln:es.length≤900
 ok:∀ e∈es,OkTie n e
theorem TiesIn.same {K:PySem.W.Frag} {H H':Hp} {q:Addr} {n:Nat} {es:List Tie} (h:TiesIn K H q n es) (s:Same H H'):TiesIn K H' q n es:=by
 obtain ⟨xs,h1,h2⟩:=h.at_
 exact ⟨⟨xs,s _ _ h1,ties_tk (Same.tk s) h2⟩,h.ln,h.ok⟩
theorem bnds_len (n:Nat) (m:Int):(bnds n m).length=n+n:=by unfold bnds;simp
section
variable {P:Program} {w:World} {K:PySem.W.Frag} {mg:Str->Option Value} {base:Heap}
def spAm (K:PySem.W.Frag):Sp:=fun vs H Q _=>∃ (n:Nat) (q:Addr) (m:Int) (es:List Tie),vs=[.int n,.ref q,.int m]/\1≤n/\n≤6/\0≤m/\m≤1000000000000/\TiesIn K H q n es/\
 (∀ h,Bf.Least (allT es n m) h->∀ a H',H' a=some (.lst (amV n h))->H a=none->Same H H'->Q (.ref a) H')/\(Bf.Barred (allT es n m)->∀ H',Same H H'->Q .non H')
theorem scAm:FnScope ["lanes","ties","most","heights","raised_by","still"] ["lanes","ties","most"] (defScope (top 17)):=⟨rfl,rfl,rfl,by decide +kernel,rfl,by decide +kernel,by decide +kernel⟩
theorem ended_least {es:List Tie} {n:Nat} {S:Bf.St} (h:(∃ k,Bf.Good es k S)/\∀ e∈es,Bf.Sat S.h e):Bf.Least es S.h:=by
 obtain ⟨⟨k,G⟩,h2⟩:=h
 exact ⟨h2,G.nn,G.le⟩
theorem ok_am {f fN fB fR fL fT fM:Addr} {fd fdN fdB fdR fdL fdT fdM:FuncData} (F:Fun K "amounts" "amounts" (top 17) f fd) (T:Txt K mg) (TC:TxtC mg) (DN:Def K mg "need_all" (top 14) ["lanes","ties","most"] fN fdN) (DB:Def K mg "bounds" (top 15) ["lanes","most"] fB fdB) (DR:Def K mg "raised" (top 16) ["lanes","ties"] fR fdR)
 (DL:Def K mg "need_lanes" (top 11) ["lanes"] fL fdL) (DT:Def K mg "need_ties" (top 12) ["lanes","ties"] fT fdT) (DM:Def K mg "need_most" (top 13) ["most"] fM fdM):FnOk P w K mg base CX0 3 f fd ["lanes","ties","most"] (spAm K):=by
 have GN:FnOk P w K mg base CX0 2 fN fdN ["lanes","ties","most"] (spNA K):=ok_na DN.F TC DL DT DM
 have GB:FnOk P w K mg base CX0 1 fB fdB ["lanes","most"] spBo:=ok_bo DB.F T TC
 have GR:FnOk P w K mg base CX0 1 fR fdR ["lanes","ties"] (spRa K):=ok_ra DR.F T TC
 refine F.ok scAm (fun vs H Q E h=>?_) (fun cdv A outer s H vs Q E hr h=>?_)
 ·obtain ⟨n,q,m,es,rfl,_⟩:=h
  rfl
 ·obtain ⟨n,q,m,es,rfl,n1,n2,m1,m2,ti,k1,k2⟩:=h
  have hu:=hu_of hr
  have hr1:Room 1 _:=hr.mono (by decide)
  refine ⟨_,(pss_cons (ps_expr (pe_call GN hr rfl DN.mg DN.F.kp DN.b .nil pass0 (pa_cons (pv 0) (pa_cons (pv 1) (pa_cons (pv 2) pa_nil)))))
   (pss_cons (ps_asg (pe_call GR hr1 rfl DR.mg DR.F.kp DR.b .nil pass0 (pa_cons (pv 0) (pa_cons (pe_op op_cat (pv 1) (pe_call GB hr1 rfl DB.mg DB.F.kp DB.b .nil pass0 (pa_cons (pv 0) (pa_cons (pv 2) pa_nil)))) pa_nil))) (pg_tup rfl (pgs_cons (pg_name (i:=3) scAm.nd rfl (Or.inr rfl)) (pgs_cons (pg_name (i:=4) scAm.nd rfl (Or.inl rfl)) (pgs_cons (pg_name (i:=5) scAm.nd rfl (Or.inl rfl)) pgs_nil)))))
   (pss_one (ps_ret (pe_ifExp (pt_cmpR op_isN (pv 5) pe_non (nomark _)) (pe_comp (g:=gName 0) (own:=["lane"]) (js:=[3]) (N':=["lane","heights"]) (CompScope.of (osc:=defScope (top 17)) (N:=["lanes","ties","most","heights","raised_by","still"]) rfl rfl ⟨rfl,by decide +kernel,by decide +kernel,by decide +kernel,rfl,by decide +kernel⟩) rfl (pi_range1 rfl T.range (pa_cons (pv 0) pa_nil)) (fun _ _ _ _ _=>(pg_name (i:=0) (show List.Nodup (["lane","heights"]:List Str) by decide +kernel) rfl (Or.inl rfl) (Or.inr rfl))) (fun _ _ _ _ _=>pifs_nil) (fun _ _ _ _ _=>pe_dget hu (pv 1) (pv 0) (fun _ _=>rfl))) pe_non))))),?_⟩
  obtain ⟨xs,hq,pe⟩:=ti.at_
  have pl:=Paired.length pe
  have tl:=ti.ln
  refine ⟨_,rfl,_,rfl,_,rfl,n,m,q,xs,es,rfl,by omega,by omega,m1,m2,SqL.of hq,pe,ti.ok,?_⟩
  refine ⟨_,rfl,_,rfl,_,rfl,_,rfl,n,m,rfl,by omega,fun q1 ys H1 hq1 pb nq1 s1=>?_⟩
  have lb:=Paired.length pb
  rw [bnds_len] at lb
  refine ⟨q,q1,xs,ys,rfl,rfl,s1 _ _ hq,hq1,Nat.le_trans (show xs.length+ys.length≤1000 by omega) (by decide),fun q2 hq2=>?_⟩
  have s2:Same H (upd H1 q2 (.lst (xs++ys))):=s1.trans (Same.new hq2)
  refine ⟨n,q2,xs++ys,allT es n m,rfl,n2,SqL.of upd_same,Paired.app (ties_tk (Same.tk (Same.new hq2)) pb) (ties_tk (Same.tk s2) pe),?_,?_,fun t p1 p2 S st c H2 ht hp en=>?_⟩
  ·unfold allT;rw [List.length_append,bnds_len];omega
  ·intro e he
   rcases List.mem_append.mp he with he|he
   ·exact (ti.ok e he).inT
   ·exact bnds_in he
  have s3:Same H H2:=s2.trans hp.sm
  refine ⟨t,_,rfl,SqT.of ht,rfl,_,_,rfl,_,_,rfl,_,_,rfl,rfl,?_⟩
  rcases en with ⟨rfl,en⟩|⟨v,rfl,en⟩
  ·refine ⟨_,rfl,rfl,_,rfl,ifT rfl ?_⟩
   obtain ⟨kv,a1,a2,a3⟩:=hp.k1
   refine ⟨_,rfl,_,rfl,by omega,by omega,?_⟩
   refine comp_range (n:=n) (fun i zs σ' H'=>∃ v,σ'=[v,some (.ref p1)]/\H'=H2/\zs=amV i S.h) (Nat.le_trans n2 (by decide)) ⟨none,rfl,rfl,rfl⟩ ?_ ?_
   ·rintro i zs σ' H' hi hzs ⟨v,rfl,rfl,rfl⟩ N hN
    refine ⟨_,rfl,_,rfl,p1,_,rfl,dget_int a1 (a2 _ (by omega) (by omega)),?_⟩
    refine hN _ _ _ (by simp [hzs]) ⟨_,rfl,rfl,?_⟩
    unfold amV
    rw [List.range_succ,List.map_append,Int.zero_add];rfl
   ·rintro zs σ' H' hzs ⟨v,rfl,rfl,rfl⟩
    refine ⟨by rw [hzs];exact Nat.le_trans n2 (by decide),fun a ha=>?_⟩
    exact k1 _ (ended_least (n:=n) en) a _ upd_same (s3.free ha) (s3.trans (Same.new ha))
  ·refine ⟨_,rfl,rfl,_,rfl,ifF rfl ?_⟩
   exact k2 en.barred _ s3
def spRb:Sp:=fun vs H Q _=>∃ (v:Int) (p2:Addr) (n:Nat) (es:List Tie) (S:Bf.St) (kv:List (Key×V)),vs=[.int v,.ref p2,.int n]/\n≤100/\H p2=some (.dK kv)/\Bys S.by' kv H/\Bf.Stuck es n (-1) S v/\
 ∀ a ys rs H',H' a=some (.lst ys)->Paired (TieAt H') ys rs->Bf.Ring rs->(∀ e∈rs,e∈es)->rs.length≤n->H a=none->Same H H'->Q (.ref a) H'
theorem scRb:FnScope ["at","raised_by","many","turn","found"] ["at","raised_by","many"] (defScope (top 19)):=⟨rfl,rfl,rfl,by decide +kernel,rfl,by decide +kernel,by decide +kernel⟩
theorem ringOf_succ {S:Bf.St} {v:Int} {n m:Nat}:Bf.ringOf S v n (m+1)=Bf.ringOf S v n m++[Bf.tieAt S v (n+m)]:=by
 unfold Bf.ringOf
 rw [List.range_succ,List.map_append];rfl
theorem ok_rb {f:Addr} {fd:FuncData} (F:Fun K "ring_behind" "ring_behind" (top 19) f fd) (T:Txt K mg):FnOk P w K mg base CX0 1 f fd ["at","raised_by","many"] spRb:=by
 refine F.ok scRb (fun vs H Q E h=>?_) (fun cdv A outer s H vs Q E hr h=>?_)
 ·obtain ⟨v,p2,n,es,S,kv,rfl,_⟩:=h
  rfl
 ·obtain ⟨v,p2,n,es,S,kv,rfl,hn,hp2,hby,St,k⟩:=h
  have hu:=hu_of hr
  refine ⟨_,(pss_cons (ps_for PassesOwn.never rfl (pi_range1 rfl T.range (pa_cons (pv 2) pa_nil)) (pg_name (i:=3) scRb.nd rfl (Or.inl rfl)) (pss_one (ps_set (i:=0) scRb.nd rfl (Or.inl rfl) (pe_ix ix_tup (pe_dget hu (pv 1) (pv 0) (fun _ _=>rfl)) pe_int (fun _ _=>rfl)))))
   (pss_cons (ps_set (i:=4) scRb.nd rfl (Or.inl rfl) (pe_lst (pa_cons (pe_dget hu (pv 1) (pv 0) (fun _ _=>rfl)) pa_nil)))
   (pss_cons (ps_while PassesOwn.never (pt_cmpR op_ne (pe_ix ix_tup (pe_ix ix_list (pv 4) (pe_un un_neg pe_int) (fun _ _=>rfl)) pe_int (fun _ _=>rfl)) (pv 0) (nomark _)) (pss_one (ps_expr (pe_bm PySem.F.plainAttrs_list PySem.F.slot_list_append PySem.F.type_list_append mt_append (pv 4) (pa_cons (pe_dget hu (pv 1) (pe_ix ix_tup (pe_ix ix_list (pv 4) (pe_un un_neg pe_int) (fun _ _=>rfl)) pe_int (fun _ _=>rfl)) (fun _ _=>rfl)) pa_nil)))))
   (pss_one (ps_ret (pv 4)))))),?_⟩
  have tie:∀ i,∃ b,valV kv (.inl (Bf.it S v i))=some (.ref b)/\H b=some (.tup [.int (Bf.tieAt S v i).1,.int (Bf.tieAt S v i).2.1,.int (Bf.tieAt S v i).2.2]):=fun i=>by
   obtain ⟨x,h1,b,rfl,h2⟩:=hby.some' (St.tie i)
   exact ⟨b,h1,h2⟩
  refine ⟨_,rfl,_,rfl,by omega,by omega,?_⟩
  refine for_range (n:=(n:Int).toNat) (fun i σ' H'=>∃ u,σ'=[some (.int (Bf.it S v i)),some (.ref p2),some (.int n),u,none]/\H=H') ⟨none,rfl,rfl⟩ ?_ ?_
  ·rintro i σ' H' hi ⟨u,rfl,rfl⟩
   obtain ⟨b,h1,h2⟩:=tie i
   refine ⟨_,rfl,_,rfl,p2,_,rfl,dget_int hp2 h1,b,_,_,_,rfl,rfl,SqT.of h2,atI_nat (j:=1) rfl,?_⟩
   refine ⟨some (.int (0+i)),?_,rfl⟩
   show [some (V.int (Bf.tieAt S v i).2.1),some (V.ref p2),some (V.int n),some (V.int (0+i)),none]=_
   rw [St.other]
  ·rintro σ' H' ⟨u,rfl,rfl⟩
   rw [Int.toNat_natCast]
   obtain ⟨b0,h1,h2⟩:=tie n
   refine ⟨_,rfl,_,rfl,p2,_,rfl,dget_int hp2 h1,(show 1≤sizeLine by decide),fun a ha=>?_⟩
   obtain ⟨d,d1,d2⟩:=St.loop
   refine while_by (fun σ' H'=>∃ m ys u,σ'=[some (.int (Bf.it S v n)),some (.ref p2),some (.int n),u,some (.ref a)]/\H'=upd H a (.lst ys)/\Paired (TieAt H) ys (Bf.ringOf S v n (m+1))/\∀ i,1≤i->i≤m->Bf.it S v (n+i)≠Bf.it S v n)
    (fun σ' H'=>match H' a with|some (.lst ys)=>n+1-ys.length|_=>0) ?_ ?_ ?_
   ·refine ⟨0,[.ref b0],u,rfl,rfl,?_,fun i h1 h2=>by omega⟩
    rw [ringOf_succ]
    exact .cons ⟨b0,rfl,h2⟩ .nil
   ·rintro σ' H' ⟨m,ys,u,rfl,rfl,py,hm⟩
    have ly:=Paired.length py
    rw [Bf.ringOf_len] at ly
    have mn:m+1≤n:=by
     have nd:((List.range (m+1)).map fun i=>Bf.it S v (n+i)).Nodup:=by
      refine Classical.byContradiction fun z=>?_
      obtain ⟨i,j,a1,a2,a3⟩:=Bf.exists_dup _ z
      obtain ⟨i0,d,b1,b2,b3⟩:=St.per
      have e1:∀ t,Bf.it S v (n+i+t)=Bf.it S v (n+j+t):=fun t=>by rw [Bf.it_add,Bf.it_add S v (n+j),a3]
      have per:∀ q t,Bf.it S v (n+t+q*d)=Bf.it S v (n+t):=by
       intro q
       induction q with
       |zero=>intro t;rw [Nat.zero_mul,Nat.add_zero]
       | succ q ih=>
         intro t
         rw [Nat.succ_mul,← Nat.add_assoc,b3 _ (by omega),ih]
      have h5:=e1 (j*d-j)
      have e2:n+j+(j*d-j)=n+0+j*d:=by
       have:j≤j*d:=Nat.le_mul_of_pos_right j (by omega)
       omega
      rw [e2,per] at h5
      have e3:n+i+(j*d-j)=n+(i+(j*d-j)):=by omega
      rw [e3] at h5
      have key:∀ t,1≤t->Bf.it S v (n+t)=Bf.it S v n->m<t:=fun t t1 t2=>by
       refine Classical.byContradiction fun z=>hm t t1 (by omega) t2
      have e4:Bf.it S v (n+(j-i))=Bf.it S v n:=by
       have h6:=e1 (i*d-i)
       have e5:n+i+(i*d-i)=n+0+i*d:=by
        have:i≤i*d:=Nat.le_mul_of_pos_right i (by omega)
        omega
       have e6:n+j+(i*d-i)=n+(j-i)+i*d:=by
        have:i≤i*d:=Nat.le_mul_of_pos_right i (by omega)
        omega
       rw [e5,e6,per,per] at h6
       exact h6.symm
      have:=key (j-i) (by omega) e4
      omega
     have:=Bf.nodup_len n (-1) _ nd fun x hx=>by
      obtain ⟨i,_,rfl⟩:=List.mem_map.mp hx
      have:=(St.nd _ (St.mem (n+i))).1
      rw [St.one] at this
      exact this
     simpa using this
    have hlast:ys[m]?≠none:=by
     intro z
     rw [List.getElem?_eq_none_iff] at z
     omega
    obtain ⟨x,hx⟩:=Option.ne_none_iff_exists'.mp hlast
    obtain ⟨e,he,b,rfl,hb⟩:=ties_get py hx
    have ee:e=Bf.tieAt S v (n+m):=by
     have:=Bf.ringOf_get (s:=S) (v:=v) (n:=n) (m:=m+1) (i:=m) (Nat.lt_succ_self _)
     rw [List.getD_eq_getElem?_getD,he] at this
     exact this
    subst ee
    have nab:a≠b:=fun z=>by rw [z,hb] at ha;cases ha
    have hb':(upd H a (.lst ys)) b=some (.tup [.int (Bf.tieAt S v (n+m)).1,.int (Bf.tieAt S v (n+m)).2.1,.int (Bf.tieAt S v (n+m)).2.2]):=by rw [upd_ne (Ne.symm nab)];exact hb
    have atl:atI ys (-1)=some (.ref b):=by
     have e1:ys.length=m+1:=ly
     unfold atI ixN
     rw [if_neg (by decide),if_pos (by omega),e1]
     show ys[(-1+((m+1:Nat):Int)).toNat]?=_
     rw [show (-1+((m+1:Nat):Int)).toNat=m by omega]
     exact hx
    have np:p2≠a:=fun z=>by rw [z,ha] at hp2;cases hp2
    have hp2':(upd H a (.lst ys)) p2=some (.dK kv):=by rw [upd_ne np];exact hp2
    refine ⟨_,rfl,_,rfl,a,_,_,_,rfl,rfl,SqL.of upd_same,atl,b,_,_,_,rfl,rfl,SqT.of hb',atI_nat (j:=1) rfl,_,rfl,rfl,_,rfl,?_⟩
    refine ite2 (fun hne=>?_) (fun hne=>?_)
    ·obtain ⟨b1,g1,g2⟩:=tie (n+m+1)
     have g1':valV kv (.inl (Bf.tieAt S v (n+m)).2.1)=some (.ref b1):=by rw [St.other];exact g1
     refine ⟨_,rfl,.inl ⟨rfl,_,SqL.of upd_same⟩,_,rfl,_,rfl,_,rfl,a,_,_,_,rfl,rfl,SqL.of upd_same,atl,b,_,_,_,rfl,rfl,SqT.of hb',atI_nat (j:=1) rfl,p2,_,rfl,dget_int hp2' g1',a,_,_,rfl,rfl,upd_same,Nat.lt_of_le_of_lt (show ys.length≤1000 by omega) (by decide),?_⟩
     refine ⟨⟨m+1,ys++[.ref b1],u,rfl,upd_upd,?_,fun i i1 i2=>?_⟩,?_⟩
     ·rw [ringOf_succ]
      exact Paired.snoc ⟨b1,rfl,g2⟩ py
     ·by_cases q:i≤m
      ·exact hm i i1 q
      ·have:i=m+1:=by omega
       subst this
       rw [St.other] at hne
       intro z
       rw [← Nat.add_assoc] at z
       simp [z] at hne
     ·rw [upd_same,upd_same]
      show n+1-(ys++[_]).length<n+1-ys.length
      rw [List.length_append]
      show n+1-(ys.length+1)<_
      omega
    ·have hret:Bf.it S v (n+(m+1))=Bf.it S v n:=by
      rw [St.other] at hne
      rw [← Nat.add_assoc]
      simpa using hne
     obtain ⟨R,hR⟩:=St.ring hret hm
     have sm:Same H (upd H a (.lst ys)):=Same.new ha
     refine ⟨_,rfl,k a ys _ _ upd_same (ties_tk (Same.tk sm) py) R hR (by rw [Bf.ringOf_len];omega) ha sm⟩
   ·intro σ H Q Q' hQ h
    obtain ⟨x1,e1,y1,f1,h⟩:=h
    exact ⟨x1,e1,y1,f1,by
     obtain ⟨a1,b1,c1,d1,g1,g2,g3,g4,a2,b2,c2,d2,g5,g6,g7,g8,x2,e2,e3,k1,e4,h⟩:=h
     exact ⟨a1,b1,c1,d1,g1,g2,g3,g4,a2,b2,c2,d2,g5,g6,g7,g8,x2,e2,e3,k1,e4,hQ _ _ h⟩⟩
def spRi (K:PySem.W.Frag):Sp:=fun vs H Q _=>∃ (n:Nat) (q:Addr) (m:Int) (es:List Tie),vs=[.int n,.ref q,.int m]/\1≤n/\n≤6/\0≤m/\m≤1000000000000/\TiesIn K H q n es/\
 (∀ h,Bf.Least (allT es n m) h->∀ H',Same H H'->Q .non H')/\(∀ a ys rs H',H' a=some (.lst ys)->Paired (TieAt H') ys rs->Bf.Ring rs->(∀ e∈rs,e∈allT es n m)->rs.length≤n+1->H a=none->Same H H'->Q (.ref a) H')
theorem scRi:FnScope ["lanes","ties","most","heights","raised_by","still"] ["lanes","ties","most"] (defScope (top 18)):=⟨rfl,rfl,rfl,by decide +kernel,rfl,by decide +kernel,by decide +kernel⟩
theorem ok_ri {f fN fB fR fL fT fM fG:Addr} {fd fdN fdB fdR fdL fdT fdM fdG:FuncData} (F:Fun K "ring" "ring" (top 18) f fd) (T:Txt K mg) (TC:TxtC mg) (DN:Def K mg "need_all" (top 14) ["lanes","ties","most"] fN fdN) (DB:Def K mg "bounds" (top 15) ["lanes","most"] fB fdB) (DR:Def K mg "raised" (top 16) ["lanes","ties"] fR fdR)
 (DL:Def K mg "need_lanes" (top 11) ["lanes"] fL fdL) (DT:Def K mg "need_ties" (top 12) ["lanes","ties"] fT fdT) (DM:Def K mg "need_most" (top 13) ["most"] fM fdM) (DG:Def K mg "ring_behind" (top 19) ["at","raised_by","many"] fG fdG):FnOk P w K mg base CX0 3 f fd ["lanes","ties","most"] (spRi K):=by
 have GN:FnOk P w K mg base CX0 2 fN fdN ["lanes","ties","most"] (spNA K):=ok_na DN.F TC DL DT DM
 have GB:FnOk P w K mg base CX0 1 fB fdB ["lanes","most"] spBo:=ok_bo DB.F T TC
 have GR:FnOk P w K mg base CX0 1 fR fdR ["lanes","ties"] (spRa K):=ok_ra DR.F T TC
 have GG:FnOk P w K mg base CX0 1 fG fdG ["at","raised_by","many"] spRb:=ok_rb DG.F T
 refine F.ok scRi (fun vs H Q E h=>?_) (fun cdv A outer s H vs Q E hr h=>?_)
 ·obtain ⟨n,q,m,es,rfl,_⟩:=h
  rfl
 ·obtain ⟨n,q,m,es,rfl,n1,n2,m1,m2,ti,k1,k2⟩:=h
  have hu:=hu_of hr
  have hr1:Room 1 _:=hr.mono (by decide)
  refine ⟨_,(pss_cons (ps_expr (pe_call GN hr rfl DN.mg DN.F.kp DN.b .nil pass0 (pa_cons (pv 0) (pa_cons (pv 1) (pa_cons (pv 2) pa_nil)))))
   (pss_cons (ps_asg (pe_call GR hr1 rfl DR.mg DR.F.kp DR.b .nil pass0 (pa_cons (pv 0) (pa_cons (pe_op op_cat (pv 1) (pe_call GB hr1 rfl DB.mg DB.F.kp DB.b .nil pass0 (pa_cons (pv 0) (pa_cons (pv 2) pa_nil)))) pa_nil))) (pg_tup rfl (pgs_cons (pg_name (i:=3) scRi.nd rfl (Or.inl rfl)) (pgs_cons (pg_name (i:=4) scRi.nd rfl (Or.inl rfl)) (pgs_cons (pg_name (i:=5) scRi.nd rfl (Or.inl rfl)) pgs_nil)))))
   (pss_one (ps_ret (pe_ifExp (pt_cmpR op_isN (pv 5) pe_non (nomark _)) pe_non (pe_call GG hr1 rfl DG.mg DG.F.kp DG.b .nil pass0 (pa_cons (pv 5) (pa_cons (pv 4) (pa_cons (pe_callB call_lenD (by rfl) T.len bt_len (pa_cons (pv 3) pa_nil)) pa_nil))))))))),?_⟩
  obtain ⟨xs,hq,pe⟩:=ti.at_
  have pl:=Paired.length pe
  have tl:=ti.ln
  refine ⟨_,rfl,_,rfl,_,rfl,n,m,q,xs,es,rfl,by omega,by omega,m1,m2,SqL.of hq,pe,ti.ok,?_⟩
  refine ⟨_,rfl,_,rfl,_,rfl,_,rfl,n,m,rfl,by omega,fun q1 ys H1 hq1 pb nq1 s1=>?_⟩
  have lb:=Paired.length pb
  rw [bnds_len] at lb
  refine ⟨q,q1,xs,ys,rfl,rfl,s1 _ _ hq,hq1,Nat.le_trans (show xs.length+ys.length≤1000 by omega) (by decide),fun q2 hq2=>?_⟩
  have s2:Same H (upd H1 q2 (.lst (xs++ys))):=s1.trans (Same.new hq2)
  refine ⟨n,q2,xs++ys,allT es n m,rfl,n2,SqL.of upd_same,Paired.app (ties_tk (Same.tk (Same.new hq2)) pb) (ties_tk (Same.tk s2) pe),?_,?_,fun t p1 p2 S st c H2 ht hp en=>?_⟩
  ·unfold allT;rw [List.length_append,bnds_len];omega
  ·intro e he
   rcases List.mem_append.mp he with he|he
   ·exact (ti.ok e he).inT
   ·exact bnds_in he
  have s3:Same H H2:=s2.trans hp.sm
  refine ⟨t,_,rfl,SqT.of ht,rfl,_,_,rfl,_,_,rfl,_,_,rfl,rfl,?_⟩
  rcases en with ⟨rfl,en⟩|⟨v,rfl,en⟩
  ·refine ⟨_,rfl,rfl,_,rfl,ifT rfl ?_⟩
   exact k1 _ (ended_least (n:=n) en) _ s3
  ·refine ⟨_,rfl,rfl,_,rfl,ifF rfl ?_⟩
   obtain ⟨kv,a1,a2,a3⟩:=hp.k1
   obtain ⟨kw,b1,b2,b3⟩:=hp.k2
   refine ⟨_,rfl,_,rfl,_,rfl,p1,kv,rfl,a1,v,p2,n+1,allT es n m,S,kw,by rw [a3];rfl,by omega,b1,b2,en,fun a ys rs H' ha py R hR lr na s4=>?_⟩
   exact k2 a ys rs H' ha py R hR lr (s3.free na) (s3.trans s4)
end
section
variable {P:Program} {w:World} {K:PySem.W.Frag} {mg:Str->Option Value} {base:Heap}
end
end Cm
namespace Cm
open PySem L2 PySem.W PySem.SeqAt
section
variable {P:Program} {w:World} {K:PySem.W.Frag} {mg:Str->Option Value} {base:Heap}
end
end Cm
namespace Cm
open PySem L2 PySem.W
def AmAt (n:Nat) (all:List Tie) (H:Hp) (v:V):Option (Int->Int)->Prop
 |none=>v=.non/\Bf.Barred all
 |some h=>∃ a,v=.ref a/\H a=some (.lst (amV n h))/\Bf.Least all h
theorem reps_ints {K:PySem.W.Frag} {H:Hp}:∀ ns:List Int,Reps K H (ns.map V.int) (ns.map PyData.int)
 |[]=>.nil
 |n::r=>.cons (.int n) (reps_ints r)
theorem am_read {K:PySem.W.Frag} {n:Nat} {q:Addr} {m:Int} {es:List Tie} {H:Hp} {Q:VK} {E:XK} (n1:1≤n) (n2:n≤6) (m1:0≤m) (m2:m≤1000000000000) (ti:TiesIn K H q n es) (k:∀ v W H',AmAt n (allT es n m) H' v W->Same H H'->Q v H'):spAm K [.int n,.ref q,.int m] H Q E:=
 ⟨n,q,m,es,rfl,n1,n2,m1,m2,ti,fun h L a H' ha na s=>k (.ref a) (some h) H' ⟨a,rfl,ha,L⟩ s,fun B H' s=>k .non none H' ⟨rfl,B⟩ s⟩
def inB (m:Int) (ns:List Int):Bool:=ns.all fun a=>decide (0≤a) && decide (a≤m)
def tieB (ns:List Int) (e:Tie):Bool:=decide (ns.getD e.2.1.toNat 0+e.2.2≤ns.getD e.1.toNat 0)
def meetsB (es:List Tie) (ns:List Int) (m:Int):Bool:=inB m ns && es.all (tieB ns)
def gT3 (K:PySem.W.Frag):TG:=gTup K 3 (gCons (gName 0) (gCons (gName 1) (gCons (gName 2) gNil)))
section
variable {P:Program} {w:World} {K:PySem.W.Frag} {mg:Str->Option Value} {base:Heap}
theorem _root_.L2.EvR.ixL {K:PySem.W.Frag} {H:Hp} {a:Addr} {xs:List V} {i:Int} {v:V} (h:SqL K H a xs) (e:atI xs i=some v):EvR (rIx K) (.ref a) (.int i) H v:=fun Q q=>.inl ⟨a,xs,i,v,rfl,rfl,h,e,q⟩
theorem row_at {ns:List Int} {i:Int} (h0:0≤i) (h1:i<ns.length):atI (ns.map V.int) i=some (.int (ns.getD i.toNat 0)):=by
 obtain ⟨j,rfl⟩:=Int.eq_ofNat_of_zero_le h0
 have hj:j<ns.length:=by omega
 refine atI_nat (j:=j) ?_
 rw [List.getElem?_map,List.getElem?_eq_getElem hj]
 simp [hj]
end
section
variable {P:Program} {w:World} {K:PySem.W.Frag} {mg:Str->Option Value} {base:Heap}
def spMe (K:PySem.W.Frag):Sp:=fun vs H Q _=>∃ (n:Nat) (m:Int) (q r:Addr) (xs:List V) (es:List Tie) (ns:List Int),vs=[.int n,.ref q,.ref r,.int m]/\1≤n/\n≤6/\0≤m/\m≤1000000000000/\SqL K H q xs/\Paired (TieAt H) xs es/\(∀ e∈es,OkTie n e)/\SqL K H r (ns.map V.int)/\xs.length≤1000/\ns.length≤1000/\
 ∀ H',Same H H'->Q (.bl (decide (ns.length=n) && meetsB es ns m)) H'
theorem scMe:FnScope ["lanes","ties","row","most","within"] ["lanes","ties","row","most"] (defScope (top 20)):=⟨rfl,rfl,rfl,by decide +kernel,rfl,by decide +kernel,by decide +kernel⟩
theorem ok_me {f fN fL fT fM:Addr} {fd fdN fdL fdT fdM:FuncData} (F:Fun K "meets" "meets" (top 20) f fd) (T:Txt K mg) (TC:TxtC mg) (DN:Def K mg "need_all" (top 14) ["lanes","ties","most"] fN fdN)
 (DL:Def K mg "need_lanes" (top 11) ["lanes"] fL fdL) (DT:Def K mg "need_ties" (top 12) ["lanes","ties"] fT fdT) (DM:Def K mg "need_most" (top 13) ["most"] fM fdM):FnOk P w K mg base CX0 3 f fd ["lanes","ties","row","most"] (spMe K):=by
 have GN:FnOk P w K mg base CX0 2 fN fdN ["lanes","ties","most"] (spNA K):=ok_na DN.F TC DL DT DM
 refine F.ok scMe (fun vs H Q E h=>?_) (fun cdv A outer s H vs Q E hr h=>?_)
 ·obtain ⟨n,m,q,r,xs,es,ns,rfl,_⟩:=h
  rfl
 ·obtain ⟨n,m,q,r,xs,es,ns,rfl,n1,n2,m1,m2,hq,pe,ok,hrw,xl,nl,k⟩:=h
  refine ⟨_,(pss_cons (ps_expr (pe_call GN hr rfl DN.mg DN.F.kp DN.b .nil pass0 (pa_cons (pv 0) (pa_cons (pv 1) (pa_cons (pv 3) pa_nil)))))
   (pss_cons (ps_if (pt_cmpR op_ne (pe_callB call_len_seq (by rfl) T.len bt_len (pa_cons (pv 2) pa_nil)) (pv 0) (nomark _)) (pss_one (ps_ret pe_bl)) pss_nil)
   (pss_cons (ps_setComp (g:=gName 0) (i:=4) (own:=["amount"]) (js:=[3]) (N':=["amount","most"]) (CompScope.of (osc:=defScope (top 20)) (N:=["lanes","ties","row","most","within"]) rfl rfl ⟨rfl,by decide +kernel,by decide +kernel,by decide +kernel,rfl,by decide +kernel⟩) rfl scMe.nd rfl rfl (pi_list (pv 2)) (fun _ _ _ _ _=>(pg_name (i:=0) (show List.Nodup (["amount","most"]:List Str) by decide +kernel) rfl (Or.inl rfl) (Or.inr rfl))) (fun _ _ _ _ _=>pifs_nil) (fun _ _ _ _ _=>pe_chain op_le op_le pe_int (pv 0) (pv 1)))
   (pss_one (ps_ret (pe_and (pe_callB (call_allB rfl) (by rfl) T.all bt_all (pa_cons (pv 4) pa_nil)) (pe_one (pe_callB (call_allB rfl) (by rfl) T.all bt_all (pa_cons (pe_comp (g:=gT3 K) (own:=["one","other","least"]) (js:=[2]) (N':=["one","other","least","row"]) (CompScope.of (osc:=defScope (top 20)) (N:=["lanes","ties","row","most","within"]) rfl rfl ⟨rfl,by decide +kernel,by decide +kernel,by decide +kernel,rfl,by decide +kernel⟩) rfl (pi_list (pv 1))
    (fun _ _ _ _ _=>(pg_tup rfl (pgs_cons (pg_name (i:=0) (show List.Nodup (["one","other","least","row"]:List Str) by decide +kernel) rfl (Or.inl rfl) (Or.inr rfl)) (pgs_cons (pg_name (i:=1) (show List.Nodup (["one","other","least","row"]:List Str) by decide +kernel) rfl (Or.inl rfl) (Or.inr rfl)) (pgs_cons (pg_name (i:=2) (show List.Nodup (["one","other","least","row"]:List Str) by decide +kernel) rfl (Or.inl rfl) (Or.inr rfl)) pgs_nil))))) (fun _ _ _ _ _=>pifs_nil)
    (fun _ _ _ _ _=>pe_cmpR op_ge (pe_op op_sub (pe_ix (r:=rIx K) ix_seq (pv 3) (pv 0) (fun _ _=>rfl)) (pe_ix (r:=rIx K) ix_seq (pv 3) (pv 1) (fun _ _=>rfl))) (pv 2) (nomark _))) pa_nil))))))))),?_⟩
  have tl:=Paired.length pe
  refine ⟨_,rfl,_,rfl,_,rfl,n,m,q,xs,es,rfl,by omega,by omega,m1,m2,hq,pe,ok,?_⟩
  refine ⟨_,rfl,r,_,rfl,.inl hrw,_,rfl,rfl,_,rfl,ite2 (fun h=>?_) (fun h=>?_)⟩
  ·have e:ns.length≠n:=by
    intro z
    simp [z] at h
   have:=k _ (Same.refl _)
   rw [decide_eq_false e,Bool.false_and] at this
   exact this
  have e1:ns.length=n:=by
   simp at h
   omega
  clear h
  subst e1
  refine ⟨_,rfl,r,rfl,⟨_,hrw⟩,?_⟩
  refine comp_list (K:=K) (a:=r) (xs:=ns.map V.int) (fun i ys σ' H'=>H'=H/\(∃ v,σ'=[v,some (.int m)])/\ys=((ns.take i).map fun a=>V.bl (decide (0≤a) && decide (a≤m)))) (by rw [List.length_map];exact Nat.le_trans nl (by decide)) ⟨rfl,⟨none,rfl⟩,rfl⟩ (fun i ys σ H' _ e=>by rw [e.1];exact hrw) ?_ ?_
  ·rintro i x ys σ' H' hi hy ⟨rfl,⟨v,rfl⟩,rfl⟩ N hN
   rw [List.getElem?_map] at hi
   obtain ⟨a,ha,rfl⟩:=Option.map_eq_some_iff.mp hi
   dsimp only [gName]
   refine EvE.chain EvE.con (EvE.var rfl) (EvE.var rfl) EvR.i0 EvR.i0 _ ?_
   exact hN _ _ _ (by rw [List.length_append,hy];rfl) ⟨rfl,⟨_,rfl⟩,by rw [List.take_add_one,ha,List.map_append];rfl⟩
  ·rintro ys σ' H' hy ⟨rfl,⟨v,rfl⟩,rfl⟩
   have el:ns.take (ns.map V.int).length=ns:=by rw [List.length_map,List.take_length]
   rw [el]
   refine ⟨by rw [List.length_map];exact Nat.le_trans nl (by decide),fun a ha=>?_⟩
   have s1:Same H' (upd H' a (.lst (ns.map fun a=>V.bl (decide (0≤a) && decide (a≤m))))):=Same.new ha
   refine ⟨_,rfl,a,ns.map (fun a=>decide (0≤a) && decide (a≤m)),rfl,SqL.of (by rw [upd_same,List.map_map];rfl),_,rfl,ite2 (fun h=>?_) (fun h=>?_)⟩
   ·have e:inB m ns=true:=by
     dsimp only at h
     rw [List.all_map] at h
     exact h
    refine ⟨_,rfl,q,rfl,⟨_,s1.seq hq⟩,?_⟩
    refine comp_list (K:=K) (a:=q) (xs:=xs) (fun i ys σ' H''=>H''=upd H' a (.lst (ns.map fun a=>V.bl (decide (0≤a) && decide (a≤m))))/\(∃ v1 v2 v3,σ'=[v1,v2,v3,some (.ref r)])/\ys=((es.take i).map fun e=>V.bl (tieB ns e))) (Nat.le_trans xl (by decide)) ⟨rfl,⟨none,none,none,rfl⟩,rfl⟩ (fun i ys σ H'' _ e=>by rw [e.1];exact s1.seq hq) ?_ ?_
    ·rintro i x ys σ' H'' hi hy ⟨rfl,⟨v1,v2,v3,rfl⟩,rfl⟩ N hN
     obtain ⟨e',he,b,rfl,hb⟩:=ties_get pe hi
     have o:=ok e' (List.mem_of_getElem? he)
     have hb':=s1 _ _ hb
     refine ⟨b,_,rfl,SqT.of hb',rfl,_,_,rfl,_,_,rfl,_,_,rfl,rfl,?_⟩
     refine EvE.op (EvE.op (EvE.op (EvE.var rfl) (EvE.var rfl) (EvR.ixL (s1.seq hrw) (row_at o.o.1 o.o.2))) (EvE.op (EvE.var rfl) (EvE.var rfl) (EvR.ixL (s1.seq hrw) (row_at o.t.1 o.t.2))) EvR.i0) (EvE.var rfl) EvR.i0 _ ?_
     have et:decide (e'.2.2≤ns.getD e'.1.toNat 0-ns.getD e'.2.1.toNat 0)=tieB ns e':=by
      unfold tieB
      rw [decide_eq_decide]
      omega
     refine hN _ _ _ (by rw [List.length_append,hy];rfl) ⟨rfl,⟨_,_,_,rfl⟩,?_⟩
     rw [List.take_add_one,he,List.map_append,et];rfl
    ·rintro ys σ' H'' hy ⟨rfl,⟨v1,v2,v3,rfl⟩,rfl⟩
     have el2:es.take xs.length=es:=by rw [tl,List.take_length]
     rw [el2]
     refine ⟨by rw [List.length_map,← tl];exact Nat.le_trans xl (by decide),fun b hb=>?_⟩
     refine ⟨b,es.map (tieB ns),rfl,SqL.of (by rw [upd_same,List.map_map];rfl),?_⟩
     have:=k _ (s1.trans (Same.new (o:=.lst (es.map fun e=>V.bl (tieB ns e))) hb))
     unfold meetsB at this
     rw [e,Bool.true_and,decide_eq_true rfl,Bool.true_and] at this
     dsimp only
     rw [List.all_map]
     exact this
   ·have e:inB m ns=false:=by
     dsimp only at h
     rw [List.all_map] at h
     exact Bool.eq_false_iff.mpr h
    have:=k _ s1
    unfold meetsB at this
    rw [e,Bool.false_and,Bool.and_false] at this
    exact this
end
section
variable {P:Program} {w:World} {K:PySem.W.Frag} {mg:Str->Option Value} {base:Heap}
end
theorem _root_.L2.EvR.ixT {K:PySem.W.Frag} {H:Hp} {a:Addr} {xs:List V} {i:Int} {v:V} (h:SqT K H a xs) (e:atI xs i=some v):EvR (rIx K) (.ref a) (.int i) H v:=fun Q q=>.inr (.inl ⟨a,xs,i,v,rfl,rfl,h,e,q⟩)
section
variable {P:Program} {w:World} {K:PySem.W.Frag} {mg:Str->Option Value} {base:Heap}
end
def gOf (r:List Int) (v:Int):Int:=if 0≤v then r.getD v.toNat 0 else 0
theorem inB_at {m:Int} {r:List Int} (h:inB m r=true) {i:Nat} (hi:i<r.length):0≤r.getD i 0/\r.getD i 0≤m:=by
 unfold inB at h
 rw [List.all_eq_true] at h
 have:=h r[i] (List.getElem_mem hi)
 rw [Bool.and_eq_true,decide_eq_true_eq,decide_eq_true_eq] at this
 rw [List.getD_eq_getElem?_getD,List.getElem?_eq_getElem hi]
 exact this
theorem good_sat {es:List Tie} {r:List Int} {n:Nat} {m:Int} (hl:r.length=n) (h:meetsB es r m=true) (ok:∀ e∈es,OkTie n e):(∀ v,0≤gOf r v)/\∀ e∈allT es n m,Bf.Sat (gOf r) e:=by
 unfold meetsB at h
 rw [Bool.and_eq_true,List.all_eq_true] at h
 obtain ⟨h1,h2⟩:=h
 refine ⟨fun v=>?_,fun e he=>?_⟩
 ·unfold gOf
  split
  ·by_cases hv:v.toNat<r.length
   ·exact (inB_at h1 hv).1
   ·rw [List.getD_eq_getElem?_getD,List.getElem?_eq_none (by omega)]
    exact Int.le_refl _
  ·exact Int.le_refl _
 ·unfold allT at he
  rcases List.mem_append.mp he with he|he
  ·have o:=ok e he
   have:=h2 e he
   unfold tieB at this
   rw [decide_eq_true_eq] at this
   unfold Bf.Sat gOf
   rw [if_pos o.t.1,if_pos o.o.1]
   exact this
  ·unfold bnds at he
   rcases List.mem_append.mp he with he|he
   ·obtain ⟨i,hi,rfl⟩:=List.mem_map.mp he
    have hi':=List.mem_range.mp hi
    have:=inB_at h1 (i:=i) (by omega)
    show gOf r (-1)+0≤gOf r (i:Int)
    unfold gOf
    rw [if_neg (by decide),if_pos (by omega),Int.toNat_natCast]
    omega
   ·obtain ⟨i,hi,rfl⟩:=List.mem_map.mp he
    have hi':=List.mem_range.mp hi
    have:=inB_at h1 (i:=i) (by omega)
    show gOf r (i:Int)+(0-m)≤gOf r (-1)
    have e1:gOf r (i:Int)=r.getD i 0:=by unfold gOf;rw [if_pos (by omega),Int.toNat_natCast]
    have e2:gOf r (-1)=0:=rfl
    omega
def rowOf (n:Nat) (h:Int->Int):List Int:=(List.range n).map fun i:Nat=>h i
theorem rowOf_at {n:Nat} {h:Int->Int} {i:Nat} (hi:i<n):(rowOf n h).getD i 0=h i:=by
 unfold rowOf
 rw [List.getD_eq_getElem?_getD,List.getElem?_map,List.getElem?_range hi]
 rfl
theorem good_le {es:List Tie} {n t:Nat} {h:Int->Int} {r:List Int} (ok:∀ e∈es,OkTie n e) (L:Bf.Least (allT es n t) h) (hl:r.length=n) (hm:meetsB es r t=true) {i:Nat} (hi:i<n):h i≤r.getD i 0:=by
 obtain ⟨a,b⟩:=good_sat hl hm ok
 have:=L.le _ a b (i:Int)
 unfold gOf at this
 rw [if_pos (by omega),Int.toNat_natCast] at this
 exact this
def g21:List Value->List Value->List Value
 |[a,b],[c]=>[a,b,c]
 |_,_=>[]
def gV21:List V->List V->List V
 |[a,b],[c]=>[a,b,c]
 |_,_=>[]
section
variable {P:Program} {w:World} {K:PySem.W.Frag} {mg:Str->Option Value} {base:Heap}
theorem kb21 {x:Str} {st:Stmt} {f:Addr} {fd:FuncData} (F:Fun K x x st f fd) (h:∀ (kV doc pm:Value) (an:Option Addr) (cdv ct a b c:Value),bindArgs (PySem.W.fnOf x x (defArgs st) (defBody st) (defScope st) .none kV doc pm an cdv ct) ⟨[a,b],[("most",c)]⟩=pure (([("lanes" : Str),"ties","most"]:List Str).zip [a,b,c])) :
 KBinds K fd ["lanes","ties","most"] ["most"] g21 gV21:=by
 obtain ⟨oc,od,kV,doc,pm,an,cdv,ct,osl,rfl,lk,hcd⟩:=F.ex
 refine ⟨fun s us ws X hl=>?_,fun {vs us zs ws} r rz=>?_⟩
 ·match us,ws,hl with
  |[a,b],[c],_=>exact .of_eq (h kV doc pm an cdv ct a b c)
  |[],_,z=>simp [g21] at z
  |[_],_,z=>simp [g21] at z
  |[_,_],[],z=>simp [g21] at z
  |[_,_],_::_::_,z=>simp [g21] at z
  |_::_::_::_,_,z=>simp [g21] at z
 ·cases r with
  |nil=>exact .nil
  | cons r1 r=>
    cases r with
    |nil=>exact .nil
    | cons r2 r=>
      cases r with
      |cons r3 r=>exact .nil
      | nil=>
        cases rz with
        |nil=>exact .nil
        | cons z1 z=>
          cases z with
          |cons z2 z=>exact .nil
          |nil=>exact .cons r1 (.cons r2 (.cons z1 .nil))
def g31:List Value->List Value->List Value
 |[a,b,c],[d]=>[a,b,c,d]
 |_,_=>[]
def gV31:List V->List V->List V
 |[a,b,c],[d]=>[a,b,c,d]
 |_,_=>[]
theorem kb31 {x:Str} {st:Stmt} {f:Addr} {fd:FuncData} (F:Fun K x x st f fd) (h:∀ (kV doc pm:Value) (an:Option Addr) (cdv ct a b c d:Value),bindArgs (PySem.W.fnOf x x (defArgs st) (defBody st) (defScope st) .none kV doc pm an cdv ct) ⟨[a,b,c],[("most",d)]⟩=pure (([("lanes" : Str),"ties","row","most"]:List Str).zip [a,b,c,d])) :
 KBinds K fd ["lanes","ties","row","most"] ["most"] g31 gV31:=by
 obtain ⟨oc,od,kV,doc,pm,an,cdv,ct,osl,rfl,lk,hcd⟩:=F.ex
 refine ⟨fun s us ws X hl=>?_,fun {vs us zs ws} r rz=>?_⟩
 ·match us,ws,hl with
  |[a,b,c],[d],_=>exact .of_eq (h kV doc pm an cdv ct a b c d)
  |[],_,z=>simp [g31] at z
  |[_],_,z=>simp [g31] at z
  |[_,_],_,z=>simp [g31] at z
  |[_,_,_],[],z=>simp [g31] at z
  |[_,_,_],_::_::_,z=>simp [g31] at z
  |_::_::_::_::_,_,z=>simp [g31] at z
 ·cases r with
  |nil=>exact .nil
  | cons r1 r=>
    cases r with
    |nil=>exact .nil
    | cons r2 r=>
      cases r with
      |nil=>exact .nil
      | cons r3 r=>
        cases r with
        |cons r4 r=>exact .nil
        | nil=>
          cases rz with
          |nil=>exact .nil
          | cons z1 z=>
            cases z with
            |cons z2 z=>exact .nil
            |nil=>exact .cons r1 (.cons r2 (.cons r3 (.cons z1 .nil)))
end
theorem getD_l {l m:List Int} {i:Nat} (h:i<l.length):(l++m).getD i 0=l.getD i 0:=by
 rw [List.getD_eq_getElem?_getD,List.getElem?_append_left h,List.getD_eq_getElem?_getD]
theorem getD_r {l:List Int} {b:Int} {i:Nat} (h:l.length=i):(l++[b]).getD i 0=b:=by
 subst h
 rw [List.getD_eq_getElem?_getD,List.getElem?_append_right (Nat.le_refl _),Nat.sub_self];rfl
structure Cau where
 a:Int
 t:Int
 b:Int
 u:Int
structure OkC (n:Int) (c:Cau):Prop where
 a:0≤c.a/\c.a<n
 b:0≤c.b/\c.b<n
 ne:c.a≠c.b
 t:0≤c.t/\c.t<999999
 u:0≤c.u/\c.u<999999
def CauAt (H:Hp) (x:V) (c:Cau):Prop:=∃ p,x=.ref p/\H p=some (.tup [.int c.a,.int c.t,.int c.b,.int c.u])
def tieC (c:Cau):Tie:=(c.b,c.a,c.t-c.u+1)
theorem pd_map {α β:Type} {R S:α->β->Prop} (f:∀ x y,R x y->S x y):∀ {xs:List α} {ys:List β},Paired R xs ys->Paired S xs ys
 |_,_,.nil=>.nil
 |_,_,.cons a t=>.cons (f _ _ a) (pd_map f t)
theorem pd_get {α β:Type} {R:α->β->Prop}:∀ {xs:List α} {ys:List β} {i:Nat} {x:α},Paired R xs ys->xs[i]?=some x->∃ y,ys[i]?=some y/\R x y
 |_,_,0,_,.cons h _,e=>⟨_,rfl,by cases e;exact h⟩
 |_,_,i+1,_,.cons _ t,e=>pd_get (i:=i) t (by simpa using e)
 |_,_,i,_,.nil,e=>by simp at e
theorem caus_same {H H':Hp} {xs:List V} {cs:List Cau} (s:Same H H') (h:Paired (CauAt H) xs cs):Paired (CauAt H') xs cs:=pd_map (fun _ _ ⟨p,e,z⟩=>⟨p,e,s _ _ z⟩) h
theorem okC_tie {n:Int} (hn:n≤6) {c:Cau} (o:OkC n c):OkTie n (tieC c):=⟨o.b,o.a,Ne.symm o.ne,by have:=o.t;have:=o.u;simp only [tieC];omega⟩
section
variable {P:Program} {w:World} {K:PySem.W.Frag} {mg:Str->Option Value} {base:Heap}
def spNc:Sp:=fun vs H Q _=>∃ c:Cau,vs=[.int c.a,.int c.t,.int c.b,.int c.u]/\OkC 6 c/\Q .non H
theorem scNc:FnScope ["lane","time","other","second"] ["lane","time","other","second"] (defScope (top 22)):=⟨rfl,rfl,rfl,by decide +kernel,rfl,by decide +kernel,by decide +kernel⟩
theorem ok_nc {f:Addr} {fd:FuncData} (F:Fun K "need_cause" "need_cause" (top 22) f fd) (TC:TxtC mg):FnOk P w K mg base CX0 1 f fd ["lane","time","other","second"] spNc:=by
 refine F.ok scNc (fun vs H Q E h=>?_) (fun cdv A outer s H vs Q E hr h=>?_)
 ·obtain ⟨c,rfl,_⟩:=h
  rfl
 ·obtain ⟨c,rfl,o,k⟩:=h
  obtain ⟨t,ml⟩:=TC.ml
  obtain ⟨t',li⟩:=TC.lim
  refine ⟨_,(pss_cons (ps_if (PW.pt (pw_or (pt_not (pt_chain op_le op_lt pe_int (pv 0) (pe_glob (v:=.int 6) rfl ml ⟨_,rfl⟩))) (pw_or (pt_not (pt_chain op_le op_lt pe_int (pv 2) (pe_glob (v:=.int 6) rfl ml ⟨_,rfl⟩))) (pw_or1 (pt_cmpR op_eq (pv 0) (pv 2) (nomark _)))))) (pss_one ps_never) pss_nil)
   (pss_one (ps_if (PW.pt (pw_or (pt_not (pt_chain op_le op_lt pe_int (pv 1) (pe_glob (v:=.int 999999) rfl li ⟨_,rfl⟩))) (pw_or1 (pt_not (pt_chain op_le op_lt pe_int (pv 3) (pe_glob (v:=.int 999999) rfl li ⟨_,rfl⟩)))))) (pss_one ps_never) pss_nil))),?_⟩
  refine ⟨_,rfl,_,_,rfl,rfl,_,rfl,ifT (by simpa using o.a.1) ⟨_,_,rfl,rfl,_,rfl,ifF (by simpa using o.a.2) ?_⟩⟩
  refine ⟨_,rfl,_,_,rfl,rfl,_,rfl,ifT (by simpa using o.b.1) ⟨_,_,rfl,rfl,_,rfl,ifF (by simpa using o.b.2) ?_⟩⟩
  refine ⟨_,rfl,_,rfl,rfl,_,rfl,ifF (by simpa using o.ne) ?_⟩
  refine ⟨_,rfl,_,_,rfl,rfl,_,rfl,ifT (by simpa using o.t.1) ⟨_,_,rfl,rfl,_,rfl,ifF (by simpa using o.t.2) ?_⟩⟩
  exact ⟨_,rfl,_,_,rfl,rfl,_,rfl,ifT (by simpa using o.u.1) ⟨_,_,rfl,rfl,_,rfl,ifF (by simpa using o.u.2) k⟩⟩
def spTo (K:PySem.W.Frag):Sp:=fun vs H Q _=>∃ (q:Addr) (xs:List V) (cs:List Cau),vs=[.ref q]/\SqL K H q xs/\Paired (CauAt H) xs cs/\(∀ c∈cs,OkC 6 c)/\cs.length≤100/\∀ r ys H',H' r=some (.lst ys)->Paired (TieAt H') ys (cs.map tieC)->H r=none->Same H H'->Q (.ref r) H'
abbrev NTo:List Str:=["causes","lane","time","other","second"]
theorem scTo:FnScope NTo ["causes"] (defScope (top 23)):=⟨rfl,rfl,rfl,by decide +kernel,rfl,by decide +kernel,by decide +kernel⟩
def gT4 (K:PySem.W.Frag):TG:=gTup K 4 (gCons (gName 0) (gCons (gName 1) (gCons (gName 2) (gCons (gName 3) gNil))))
theorem ok_to {f fN:Addr} {fd fdN:FuncData} (F:Fun K "ties_of" "ties_of" (top 23) f fd) (TC:TxtC mg) (DN:Def K mg "need_cause" (top 22) ["lane","time","other","second"] fN fdN):FnOk P w K mg base CX0 2 f fd ["causes"] (spTo K):=by
 have GN:FnOk P w K mg base CX0 1 fN fdN ["lane","time","other","second"] spNc:=ok_nc DN.F TC
 refine F.ok scTo (fun vs H Q E h=>?_) (fun cdv A outer s H vs Q E hr h=>?_)
 ·obtain ⟨q,xs,cs,rfl,_⟩:=h
  rfl
 ·obtain ⟨q,xs,cs,rfl,hq,pc,ok,cl,k⟩:=h
  refine ⟨_,(pss_cons (ps_for PassesOwn.never rfl (pi_list (pv 0)) (pg_tup rfl (pgs_cons (pg_name (i:=1) scTo.nd rfl (Or.inl rfl)) (pgs_cons (pg_name (i:=2) scTo.nd rfl (Or.inl rfl)) (pgs_cons (pg_name (i:=3) scTo.nd rfl (Or.inl rfl)) (pgs_cons (pg_name (i:=4) scTo.nd rfl (Or.inl rfl)) pgs_nil)))))
   (pss_one (ps_expr (pe_call GN hr rfl DN.mg DN.F.kp DN.b .nil pass0 (pa_cons (pv 1) (pa_cons (pv 2) (pa_cons (pv 3) (pa_cons (pv 4) pa_nil))))))))
   (pss_one (ps_ret (pe_comp (g:=gT4 K) (own:=["lane","time","other","second"]) (js:=[]) (N':=["lane","time","other","second"]) (CompScope.of (osc:=defScope (top 23)) (N:=NTo) rfl rfl ⟨rfl,by decide +kernel,by decide +kernel,by decide +kernel,rfl,by decide +kernel⟩) rfl (pi_list (pv 0))
    (fun _ _ _ _ _=>(pg_tup rfl (pgs_cons (pg_name (i:=0) (show List.Nodup (["lane","time","other","second"]:List Str) by decide +kernel) rfl (Or.inl rfl) (Or.inr rfl)) (pgs_cons (pg_name (i:=1) (show List.Nodup (["lane","time","other","second"]:List Str) by decide +kernel) rfl (Or.inl rfl) (Or.inr rfl)) (pgs_cons (pg_name (i:=2) (show List.Nodup (["lane","time","other","second"]:List Str) by decide +kernel) rfl (Or.inl rfl) (Or.inr rfl)) (pgs_cons (pg_name (i:=3) (show List.Nodup (["lane","time","other","second"]:List Str) by decide +kernel) rfl (Or.inl rfl) (Or.inr rfl)) pgs_nil)))))) (fun _ _ _ _ _=>pifs_nil)
    (fun _ _ _ _ _=>pe_tup (pa_cons (pv 2) (pa_cons (pv 0) (pa_cons (pe_op op_add (pe_op op_sub (pv 1) (pv 3)) pe_int) pa_nil)))))))),?_⟩
  have z3:3≤sizeLine:=by decide
  have xl:=Paired.length pc
  refine ⟨_,rfl,q,rfl,⟨_,hq⟩,for_list (K:=K) (a:=q) (xs:=xs) (fun i σ H'=>(∃ a b c d,σ=[some (.ref q),a,b,c,d])/\H'=H) ⟨⟨none,none,none,none,rfl⟩,rfl⟩ (fun i σ H' _ ⟨_,e⟩=>by rw [e];exact hq) ?_ ?_⟩
  ·rintro i x σ H' hi ⟨⟨a,b,c,d,rfl⟩,rfl⟩
   obtain ⟨c,hc,b',rfl,hb⟩:=pd_get pc hi
   refine ⟨b',_,rfl,SqT.of hb,rfl,_,_,rfl,_,_,rfl,_,_,rfl,_,_,rfl,rfl,?_⟩
   exact ⟨_,rfl,_,rfl,_,rfl,_,rfl,c,rfl,ok c (List.mem_of_getElem? hc),⟨_,_,_,_,rfl⟩,rfl⟩
  ·rintro σ H' ⟨⟨a,b,c,d,rfl⟩,rfl⟩
   refine ⟨_,rfl,q,rfl,⟨_,hq⟩,?_⟩
   refine comp_list (K:=K) (a:=q) (xs:=xs) (fun i ys σ' H2=>(∃ v0 v1 v2 v3,σ'=[v0,v1,v2,v3])/\Same H' H2/\Paired (TieAt H2) ys ((cs.take i).map tieC)) (Nat.le_trans (show xs.length≤100 by omega) (by decide)) ⟨⟨none,none,none,none,rfl⟩,Same.refl _,.nil⟩ (fun i ys σ H2 _ e=>e.2.1.seq hq) ?_ ?_
   ·rintro i x ys σ' H2 hi hy ⟨⟨v0,v1,v2,v3,rfl⟩,s2,pe⟩ N hN
    obtain ⟨c,hc,b',rfl,hb⟩:=pd_get (caus_same s2 pc) hi
    refine ⟨b',_,rfl,SqT.of hb,rfl,_,_,rfl,_,_,rfl,_,_,rfl,_,_,rfl,rfl,?_⟩
    refine ⟨_,rfl,_,rfl,_,rfl,_,rfl,_,_,rfl,rfl,_,_,rfl,rfl,z3,fun p hp=>?_⟩
    refine hN _ _ _ (by rw [List.length_append,hy];rfl) ⟨⟨_,_,_,_,rfl⟩,s2.trans (Same.new hp),?_⟩
    rw [List.take_add_one,hc,List.map_append]
    exact Paired.snoc ⟨p,rfl,upd_same⟩ (ties_tk (Same.tk (Same.new hp)) pe)
   ·rintro ys σ' H2 hy ⟨⟨v0,v1,v2,v3,rfl⟩,s2,pe⟩
    rw [xl,List.take_length] at pe
    refine ⟨by rw [hy];exact Nat.le_trans (show xs.length≤100 by omega) (by decide),fun r hr'=>?_⟩
    exact k r ys _ upd_same (ties_tk (Same.tk (Same.new hr')) pe) (s2.free hr') (s2.trans (Same.new hr'))
end
def retE:Stmt->Expr
 |.Return (some e) _=>e
 |_=>.Constant .none 0 ⟨0,0,0,0⟩
def keyE:Expr->Expr
 |.Call _ _ (k::_) _=>k.value
 |e=>e
def lParams:Expr->Arguments
 |.Lambda p _ _ _=>p
 |_=>{ posonlyargs:=[],args:=[],vararg:=none,kwonlyargs:=[],kw_defaults:=[],kwarg:=none,defaults:=[] }
def lPos:Expr->Pos
 |.Lambda _ _ _ p=>p
 |_=>⟨0,0,0,0⟩
def noS:Stmt:=.Pass ⟨0,0,0,0⟩
def lamM:Expr:=keyE (retE ((defBody (top 24)).getD 2 noS))
abbrev qM:Str:="merged.<locals>."++"<lambda>"
abbrev Thg:=V×Option (Int×Int)
def EvA (H:Hp) (x:Thg):Prop:=∃ p,x.1=.ref p/\match x.2 with
 |some it=>∃ rest,H p=some (.tup (.str "event"::.int it.1::.int it.2::rest))
 |none=>∃ k rest,H p=some (.tup (.str k::rest))/\k ≠ "event"
theorem EvA.tk {H H':Hp} {x:Thg} (h:EvA H x) (k:TK H H'):EvA H' x:=by
 obtain ⟨v,o⟩:=x
 obtain ⟨p,e,z⟩:=h
 refine ⟨p,e,?_⟩
 cases o with
 | some it=>
   obtain ⟨rest,z⟩:=z
   exact ⟨rest,k _ _ z⟩
 | none=>
   obtain ⟨s,rest,z,ne⟩:=z
   exact ⟨s,rest,k _ _ z,ne⟩
def RwA (H:Hp) (v:V) (r:List Thg):Prop:=∃ a,v=.ref a/\H a=some (.lst (r.map (·.1)))/\∀ x∈r,EvA H x
abbrev Prr:=Nat×V×Int×Int
def evRow (k:Nat) (r:List Thg):List Prr:=r.filterMap fun x=>x.2.map fun it=>(k,x.1,it.1,it.2)
def evTo (rs:List (List Thg)) (i:Nat):List Prr:=(List.range i).flatMap fun k=>evRow k (rs.getD k [])
theorem evTo_succ (rs:List (List Thg)) (i:Nat):evTo rs (i+1)=evTo rs i++evRow i (rs.getD i []):=by unfold evTo;rw [List.range_succ,List.flatMap_append];simp
def PrA (H:Hp) (v:V) (x:Prr):Prop:=∃ b,v=.ref b/\H b=some (.tup [.int x.1,x.2.1])
theorem prs_tk {H H':Hp} (k:TK H H') {vs:List V} {ps:List Prr} (h:Paired (PrA H) vs ps):Paired (PrA H') vs ps:=pd_map (fun _ _ ⟨b,e,z⟩=>⟨b,e,k _ _ z⟩) h
def keyP (ns:List Int) (x:Prr):Tri:=(ns.getD x.1 0+x.2.2.2,x.1,x.2.2.1)
theorem lam_keeps {H H1:Hp} {T c' f':Addr} {lp:Pos} {qual:Str} (lm:Lam H T lp qual c' H1) (hf:H1 f'=none) {o:HO}:∀ b u,H b=some u->(∀ qs,u≠.tbl qs)->(upd H1 f' o) b=some u:=fun b u e ne=>by
 have e9:=lm.keep e ne
 rw [upd_ne (ne_of_none e9 hf)];exact e9
theorem ev_mem {rs:List (List Thg)} {n:Nat} {x:Prr} (h:x∈evTo rs n):x.1<n/\(x.2.1,some (x.2.2.1,x.2.2.2))∈rs.getD x.1 []:=by
 unfold evTo at h
 obtain ⟨k,hk,h⟩:=List.mem_flatMap.mp h
 unfold evRow at h
 obtain ⟨⟨v,o⟩,ht,e⟩:=List.mem_filterMap.mp h
 cases o with
 |none=>simp at e
 | some it=>
   simp only [Option.map_some,Option.some.injEq] at e
   subst e
   exact ⟨List.mem_range.mp hk,ht⟩
theorem perm_pick {α:Type} {d:α} {l:List α} {o:List Nat} (h:o.Perm (List.range l.length)):(o.map fun i=>l.getD i d).Perm l:=by
 refine (h.map _).trans (List.Perm.of_eq (List.ext_getElem (by simp) fun i q1 q2=>?_))
 simp [q2]
theorem pd_pick {α β:Type} {R:α->β->Prop} {d:α} {e:β} {l:List α} {m:List β} (h:Paired R l m):∀ o:List Nat,(∀ i∈o,i<l.length)->Paired R (o.map fun i=>l.getD i d) (o.map fun i=>m.getD i e)
 |[],_=>.nil
 |i::o,q=>.cons (paired_getD h i (q i (List.mem_cons_self ..))) (pd_pick h o fun j hj=>q j (List.mem_cons_of_mem _ hj))
section
variable {P:Program} {w:World} {K:PySem.W.Frag} {mg:Str->Option Value} {base:Heap}
structure RowsIn (K:PySem.W.Frag) (H:Hp) (q:Addr) (ys:List V) (rs:List (List Thg)):Prop where
 sq:SqL K H q ys
 at_:Paired (RwA H) ys rs
 few:rs.length≤6
 sml:∀ r∈rs,r.length≤100
 all:(evTo rs rs.length).length<64
 pl:∀ x∈evTo rs rs.length,0≤x.2.2.1/\x.2.2.1<1000000
 nd:((evTo rs rs.length).map fun x=>(x.1,x.2.2.1)).Nodup
def spMg (K:PySem.W.Frag) (Tt:Addr):Sp:=fun vs H Q _=>∃ (q r:Addr) (ys:List V) (rs:List (List Thg)) (ns:List Int),vs=[.ref q,.ref r]/\RowsIn K H q ys rs/\SqL K H r (ns.map V.int)/\ns.length=rs.length/\TabI H Tt qM [lPos lamM]/\
 ∀ l vs ps H',ps.Perm (evTo rs rs.length)->ps.Pairwise (fun a b=>rkT (keyP ns a)<rkT (keyP ns b))->H' l=some (.lst vs)->Paired (PrA H') vs ps->H l=none->(∀ b u,H b=some u->(∀ qs,u≠.tbl qs)->H' b=some u)->TabI H' Tt qM [lPos lamM]->Q (.ref l) H'
abbrev NMg:List Str:=["rows","row","pairs"]
theorem scMg:FnScope NMg ["rows","row"] (defScope (top 24)):=⟨rfl,rfl,rfl,by decide +kernel,rfl,by decide +kernel,by decide +kernel⟩
def clM (n:Nat):List (Str×Addr):=[("row",n+1)]
theorem ok_mg {f c Tt:Addr} {oc kV doc pm ct:Value} {od an:Option Addr} {osl:Array (Option Value)}
 (lk:K.lookup f=some ⟨oc,od,.func (PySem.W.fnOf "merged" "merged" (defArgs (top 24)) (defBody (top 24)) (defScope (top 24)) .none kV doc pm an (.ref c) ct),osl⟩) (hcd:PySem.W.codeIn K (.ref c) "merged" = true)
 (HT:CodeHd base c Tt) (HB:base.BuiltinsAt mg Tt) (HG:mainGlobals≠Tt) (T:Txt K mg) (hso:mg "sorted" = none) (hen:mg "enumerate" = none) :
 FnOk P w K mg base CX0 4 f (PySem.W.fnOf "merged" "merged" (defArgs (top 24)) (defBody (top 24)) (defScope (top 24)) .none kV doc pm an (.ref c) ct) ["rows","row"] (spMg K Tt):=by
 refine fn_of lk hcd scMg (fun vs H Q E h=>?_) (fun A outer s H vs Q E hr h=>?_)
 ·obtain ⟨q,r,ys,rs,ns,rfl,_⟩:=h
  rfl
 ·obtain ⟨q,r,ys,rs,ns,rfl,R,hr',nl,tb,k⟩:=h
  have CT:CodeTab (cxOf CX0 P w K mg base NMg "merged" (defScope (top 24)) f (.ref c) A outer s H E) c Tt:=⟨rfl,HT,HB,HG⟩
  have h1:∀ q∈clM s.heap.objs.size,(PyProof.Rows.envOfC "merged" (defScope (top 24)) s.heap.objs.size f (.ref c)).cells.lookup q.1=some q.2:=by
   intro q hq
   cases List.mem_singleton.mp hq
   rfl
  have hrr:Room (0+1) (A.deeper (PyProof.Rows.envOfC "merged" (defScope (top 24)) s.heap.objs.size f (.ref c))).in1.in1:=hr.in1.in1
  refine ⟨_,(pss_cons (ps_if (pt_cmpR op_ne (pe_callB call_len_seq (by rfl) T.len bt_len (pa_cons (pv 1) pa_nil)) (pe_callB call_len_seq (by rfl) T.len bt_len (pa_cons (pv 0) pa_nil)) (nomark _)) (pss_one ps_never) pss_nil)
   (pss_cons (ps_setComp2 (g:=gTup K 2 (gCons (gName 0) (gCons (gName 1) gNil))) (g2:=gName 2) (tt:=tYes) (wi2:=iList K (tVar 1)) (i:=2) (own:=["lane","told","thing"]) (js:=[]) (N':=["lane","told","thing"]) (CompScope.of (osc:=defScope (top 24)) (N:=NMg) rfl rfl ⟨rfl,by decide +kernel,by decide +kernel,by decide +kernel,rfl,by decide +kernel⟩) rfl scMg.nd rfl rfl (pi_enumL rfl hen bt_enumerate (pa_cons (pv 0) pa_nil))
    (fun _ _ _ _ _=>(pg_tup rfl (pgs_cons (pg_name (i:=0) (show List.Nodup (["lane","told","thing"]:List Str) by decide +kernel) rfl (Or.inl rfl) (Or.inr rfl)) (pgs_cons (pg_name (i:=1) (show List.Nodup (["lane","told","thing"]:List Str) by decide +kernel) rfl (Or.inl rfl) (Or.inr rfl)) pgs_nil)))) (fun _ _ _ _ _=>pifs_nil) (fun _ _ _ _ _=>pi_listK rfl (pv 1)) (fun _ _=>rfl)
    (fun _ _ _ _ _=>(pg_name (i:=2) (show List.Nodup (["lane","told","thing"]:List Str) by decide +kernel) rfl (Or.inl rfl) (Or.inr rfl))) (fun _ _ _ _ _=>pifs_one (pt_cmpR op_eq (pe_ix (r:=rIx K) ix_seq (pv 2) pe_int (fun _ _=>rfl)) pe_str (nomark _))) (fun _ _ _ _ _=>pe_tup (pa_cons (pv 0) (pa_cons (pv 2) pa_nil))))
   (pss_one (ps_ret (pe_sortedK (cl:=clM s.heap.objs.size) (NL:=["row"]) (js:=[1]) (pn:="pair") CT hrr (pa_cons (pv 2) pa_nil) rfl hso rfl rfl h1 (fun _=>rfl) (by show ∀ p:Str×NameKind,p∈_->(p.2=NameKind.cell∨p.2=NameKind.free)->p.1∈(["row"]:List Str);decide +kernel) (by decide +kernel) (show ∀ x∈(["row"]:List Str),(defScope (top 24)).names.lookup x=some .cell by decide +kernel) rfl rfl rfl (fun _ _ _ _=>rfl) (by decide +kernel) (by decide +kernel) rfl rfl rfl (by decide +kernel)
    (fun _ _ _ _ _ _=>pe_tup (pa_cons (pe_op op_add (pe_ix (r:=rIx K) ix_seq (pv 1) (pe_ix (r:=rIx K) ix_seq (pv 0) pe_int (fun _ _=>rfl)) (fun _ _=>rfl)) (pe_ix (r:=rIx K) ix_seq (pe_ix (r:=rIx K) ix_seq (pv 0) pe_int (fun _ _=>rfl)) pe_int (fun _ _=>rfl))) (pa_cons (pe_ix (r:=rIx K) ix_seq (pv 0) pe_int (fun _ _=>rfl)) (pa_cons (pe_ix (r:=rIx K) ix_seq (pe_ix (r:=rIx K) ix_seq (pv 0) pe_int (fun _ _=>rfl)) pe_int (fun _ _=>rfl)) pa_nil))))))))),?_⟩
  have yl:=Paired.length R.at_
  have few:=R.few
  have z2:2≤sizeLine:=by decide
  refine seq_by (fun σ' H'=>σ'=[some (.ref q),some (.ref r),none]/\H=H') ?nx0 fun N hN=>?st0
  case st0=>exact ⟨_,rfl,r,_,rfl,.inl hr',_,rfl,q,_,rfl,.inl R.sq,rfl,_,rfl,ifF (by rw [List.length_map,yl,nl];simp) (hN _ _ ⟨rfl,rfl⟩)⟩
  rintro σ' H' ⟨rfl,rfl⟩
  refine seq_by (fun σ' H'=>∃ a vs,σ'=[some (.ref q),some (.ref r),some (.ref a)]/\Same H H'/\H' a=some (.lst vs)/\Paired (PrA H') vs (evTo rs rs.length)) ?nx1 fun N hN=>?st1
  case st1=>
   refine ⟨_,rfl,q,rfl,⟨_,R.sq⟩,fun i m vs σ H'=>m=ys.length-i/\i≤ys.length/\Same H H'/\(∃ a b c,σ=[a,b,c])/\Paired (PrA H') vs (evTo rs i)/\vs.length≤100*i,⟨ys.length,by simp,Nat.zero_le _,Same.refl _,⟨none,none,none,rfl⟩,.nil,Nat.le_refl _⟩,?_⟩
   rintro i m vs σ H1 ⟨rfl,hi,s1,⟨u0,u1,u2,rfl⟩,pp,vl⟩
   by_cases hlt:i<ys.length
   ·refine .inr ⟨⟨_,ys[i],s1.seq R.sq,List.getElem?_eq_getElem hlt⟩,?_⟩
    rintro x H' ⟨p,yv,hn,rfl,hy,rfl⟩
    obtain ⟨rw',hrw,a,rfl,ha,ea⟩:=pd_get R.at_ (hy _ (s1.seq R.sq))
    have rl:=R.sml rw' (List.mem_of_getElem? hrw)
    have s2:Same H (upd H1 p (.tup [.int i,.ref a])):=s1.trans (Same.new hn)
    have erd:rs.getD i []=rw':=by rw [List.getD_eq_getElem?_getD,hrw];rfl
    have pp2:=prs_tk (Same.tk (Same.new (o:=.tup [.int i,.ref a]) hn)) pp
    refine ⟨p,_,rfl,SqT.of upd_same,rfl,_,_,rfl,_,_,rfl,rfl,?_⟩
    dsimp only [gName,tYes,List.set]
    rw [if_pos rfl]
    generalize upd H1 p (.tup [.int i,.ref a])=H2 at s2 pp2 ⊢
    have ha2:=s2 _ _ ha
    refine ⟨_,rfl,a,rfl,⟨_,SqL.of ha2⟩,fun j m vs' σ' H3=>m=rw'.length-j/\j≤rw'.length/\Same H2 H3/\(∃ v,σ'=[some (.int i),some (.ref a),v])/\Paired (PrA H3) vs' (evTo rs i++evRow i (rw'.take j))/\vs'.length≤100*i+j,⟨rw'.length,by simp,Nat.zero_le _,Same.refl _,⟨_,rfl⟩,by simpa [evRow] using pp2,by omega⟩,?_⟩
    rintro j m vs' σ' H3 ⟨rfl,hj,s3,⟨v,rfl⟩,pp3,vl3⟩
    have ha3:=s3 _ _ ha2
    by_cases hjt:j<rw'.length
    ·have hjl:j<(rw'.map (·.1)).length:=by rw [List.length_map];exact hjt
     refine .inr ⟨⟨_,(rw'.map (·.1))[j],SqL.of ha3,List.getElem?_eq_getElem hjl⟩,Nat.le_trans (show vs'.length+1≤1000 by omega) (by decide),?_⟩
     rintro x H4 ⟨rfl,y⟩
     have hx:=y _ (SqL.of ha3)
     rw [List.getElem?_map] at hx
     obtain ⟨th,hth,rfl⟩:=Option.map_eq_some_iff.mp hx
     have et:evRow i (rw'.take (j+1))=evRow i (rw'.take j)++evRow i [th]:=by
      unfold evRow
      rw [List.take_add_one,hth,List.filterMap_append]
      rfl
     obtain ⟨tv,to⟩:=th
     obtain ⟨pt,e,z⟩:=(ea _ (List.mem_of_getElem? hth)).tk (Same.tk (s2.trans s3))
     dsimp only at e z
     subst e
     dsimp only [gName,List.set]
     cases to with
     | some it=>
       obtain ⟨rest,z⟩:=z
       refine EvE.op (EvE.op (EvE.var rfl) EvE.con (EvR.ixT (SqT.of z) (atI_nat (j:=0) rfl))) EvE.con (EvR.eq rfl) _ ⟨_,rfl,ifT (by simp) ?_⟩
       refine ⟨_,rfl,_,rfl,z2,fun b hb=>⟨rw'.length-(j+1),by omega,rfl,hjt,s3.trans (Same.new hb),⟨_,rfl⟩,?_,by rw [List.length_append,List.length_singleton];omega⟩⟩
       rw [et,← List.append_assoc]
       exact Paired.app (.cons ⟨b,rfl,upd_same⟩ .nil) (prs_tk (Same.tk (Same.new hb)) pp3)
     | none=>
       obtain ⟨kk,rest,z,ne⟩:=z
       refine EvE.op (EvE.op (EvE.var rfl) EvE.con (EvR.ixT (SqT.of z) (atI_nat (j:=0) rfl))) EvE.con (EvR.eq rfl) _ ⟨_,rfl,ifF (by simpa using ne) ?_⟩
       refine ⟨rw'.length-(j+1),by omega,rfl,hjt,s3,⟨_,rfl⟩,?_,by omega⟩
       rw [et,show evRow i [((V.ref pt,none):Thg)]=[] from rfl,List.append_nil]
       exact pp3
    ·have ej:j=rw'.length:=by omega
     subst ej
     rw [List.take_length] at pp3
     refine .inl ⟨⟨_,SqL.of ha3,by rw [List.length_map];exact Nat.le_refl _⟩,ys.length-(i+1),by omega,rfl,hlt,s2.trans s3,⟨_,_,_,rfl⟩,?_,by omega⟩
     rw [evTo_succ,erd]
     exact pp3
   ·have ei:i=ys.length:=by omega
    subst ei
    refine .inl ⟨⟨_,s1.seq R.sq,Nat.le_refl _⟩,Nat.le_trans (show vs.length≤1000 by omega) (by decide),fun l hl=>?_⟩
    rw [yl] at pp
    exact hN _ _ ⟨l,vs,rfl,s1.trans (Same.new hl),upd_same,prs_tk (Same.tk (Same.new hl)) pp⟩
  rintro σ' H1 ⟨a,vs,rfl,s1,ha,pp⟩
  have tb1:=tb.same s1
  have vl:=Paired.length pp
  have all:=R.all
  refine ⟨_,rfl,tb1.tab (List.mem_singleton.mpr rfl),fun c' H2 lm f' H3 hf eH=>?_⟩
  have kp:∀ b u,H1 b=some u->(∀ qs,u≠.tbl qs)->H3 b=some u:=by
   obtain ⟨ctv,eH⟩:=eH
   rw [eH]
   exact lam_keeps lm hf
  have tb3:TabI H3 Tt qM [lPos lamM]:=by
   obtain ⟨ctv,eH⟩:=eH
   rw [eH]
   exact (tb1.lam lm).same (Same.new hf)
  have fr3:∀ l,H3 l=none->H1 l=none:=fun l hl=>by
   cases z:H1 l with
   |none=>rfl
   | some u=>
     by_cases q:∃ qs,u=.tbl qs
     ·obtain ⟨qs,rfl⟩:=q
      obtain ⟨ctv,eH⟩:=eH
      obtain ⟨ps,hP,lm⟩:=lm
      rw [eH] at hl
      have e2:∃ u,H2 l=some u:=by
       rcases lm with ⟨_,hc,ne,rfl⟩|⟨_,_,rfl⟩
       ·rw [upd_ne (ne_of_none z hc)]
        by_cases q:l=Tt
        ·subst q;exact ⟨_,upd_same⟩
        ·rw [upd_ne q];exact ⟨_,z⟩
       ·exact ⟨_,z⟩
      obtain ⟨u,e2⟩:=e2
      rw [upd_ne (ne_of_none e2 hf),e2] at hl
      cases hl
     ·have:=kp l u z fun qs e=>q ⟨qs,e⟩
      rw [hl] at this
      cases this
  clear lm eH hf
  have tk3:TK H1 H3:=fun b xs e=>kp b _ e (by intro _ z;cases z)
  have ha3:=kp _ _ ha (by intro _ z;cases z)
  have pp3:=prs_tk tk3 pp
  have sq3:∀ H',Same H3 H'->SqL K H' r (ns.map V.int):=fun H' sm=>by
   rcases s1.seq hr' with (z|⟨o,z⟩)|z
   ·exact .inl (.inl (sm _ _ (kp _ _ z (by intro _ z;cases z))))
   ·exact .inl (.inr ⟨o,sm _ _ (kp _ _ z (by intro _ z;cases z))⟩)
   ·exact .inr z
  have evs:∀ x∈evTo rs rs.length,x.1<rs.length/\∃ pt rest,x.2.1=.ref pt/\H3 pt=some (.tup (.str "event"::.int x.2.2.1::.int x.2.2.2::rest)):=fun x hx=>by
   obtain ⟨h4,h5⟩:=ev_mem hx
   obtain ⟨rw',hrw,a',_,_,ea⟩:=pd_get R.at_ (List.getElem?_eq_getElem (show x.1<ys.length by omega))
   have erd:rs.getD x.1 []=rw':=by rw [List.getD_eq_getElem?_getD,hrw];rfl
   rw [erd] at h5
   obtain ⟨pt,e,rest,z⟩:=ea _ h5
   exact ⟨h4,pt,rest,e,tk3 _ _ (s1 _ _ z)⟩
  have z3:3≤sizeLine:=by decide
  refine ⟨a,vs,(evTo rs rs.length).map (keyP ns),rfl,SqL.of ha3,by omega,by rw [List.length_map];omega,fun y hy=>?_,?_,fun i x tr H' sm ex et=>?_,fun o l H' op os hl hn sm=>?_⟩
  ·obtain ⟨x,hx,rfl⟩:=List.mem_map.mp hy
   have h4:=(evs x hx).1
   have h5:=R.pl x hx
   exact ⟨⟨by simp only [keyP];omega,by simp only [keyP];omega⟩,h5⟩
  ·have:=R.nd
   rw [List.Nodup,List.pairwise_map] at this ⊢
   refine this.imp fun {x y} ne e=>ne ?_
   simp only [keyP,Prod.mk.injEq] at e ⊢
   exact ⟨by omega,e.2.2⟩
  ·obtain ⟨pr,hpr,b,rfl,hb⟩:=pd_get pp3 ex
   rw [List.getElem?_map,hpr] at et
   cases et
   obtain ⟨h4,pt,rest,e,z⟩:=evs pr (List.mem_of_getElem? hpr)
   have hb:=sm _ _ hb
   have z:=sm _ _ z
   have hR:=sq3 H' sm
   rw [e] at hb
   refine EvE.op (EvE.op (EvE.var rfl) (EvE.op (EvE.var rfl) EvE.con (EvR.ixT (SqT.of hb) (atI_nat (j:=0) rfl))) (EvR.ixL hR (row_at (by omega) (by omega)))) (EvE.op (EvE.op (EvE.var rfl) EvE.con (EvR.ixT (SqT.of hb) (atI_nat (j:=1) rfl))) EvE.con (EvR.ixT (SqT.of z) (atI_nat (j:=2) rfl))) EvR.i0 _ ?_
   refine EvE.op (EvE.var rfl) EvE.con (EvR.ixT (SqT.of hb) (atI_nat (j:=0) rfl)) _ ?_
   refine EvE.op (EvE.op (EvE.var rfl) EvE.con (EvR.ixT (SqT.of hb) (atI_nat (j:=1) rfl))) EvE.con (EvR.ixT (SqT.of z) (atI_nat (j:=1) rfl)) _ ?_
   refine ⟨z3,fun p hp=>⟨p,rfl,?_,Same.new hp⟩⟩
   rw [upd_same,Int.toNat_natCast]
   rfl
  ·rw [vl] at op
   have om:∀ i∈o,i<vs.length:=fun i hi=>by
    have:=List.mem_range.mp (op.mem_iff.mp hi)
    omega
   have pk:∀ i∈o,((evTo rs rs.length).map (keyP ns)).getD i (0,0,0)=keyP ns ((evTo rs rs.length).getD i (0,.non,0,0)):=fun i hi=>by
    have hi':i<(evTo rs rs.length).length:=by have:=om i hi;omega
    rw [List.getD_eq_getElem?_getD,List.getD_eq_getElem?_getD,List.getElem?_map,List.getElem?_eq_getElem hi']
    rfl
   refine k l _ (o.map fun i=>(evTo rs rs.length).getD i (0,.non,0,0)) H' (perm_pick op) ?_ hl (prs_tk (Same.tk sm) (pd_pick pp3 o om)) ?_ (fun b u e ne=>sm _ _ (kp _ _ (s1 _ _ e) ne)) (tb3.same sm)
   ·rw [List.pairwise_map]
    refine List.Pairwise.imp_of_mem (fun {i j} hi hj h=>?_) os
    rw [pk i hi,pk j hj] at h
    exact h
   ·exact s1.free (fr3 l hn)
end
section
variable {P:Program} {w:World} {K:PySem.W.Frag} {mg:Str->Option Value} {base:Heap}
abbrev KpT (H H':Hp):Prop:=∀ b u,H b=some u->(∀ qs,u≠.tbl qs)->H' b=some u
theorem RowsIn.same {H H':Hp} {q:Addr} {ys:List V} {rs:List (List Thg)} (R:RowsIn K H q ys rs) (s:Same H H'):RowsIn K H' q ys rs:=
 ⟨s.seq R.sq,pd_map (fun _ _ ⟨a,e,z,ev⟩=>⟨a,e,s _ _ z,fun x hx=>(ev x hx).tk (Same.tk s)⟩) R.at_,R.few,R.sml,R.all,R.pl,R.nd⟩
def spOd (K:PySem.W.Frag) (Tt:Addr):Sp:=fun vs H Q _=>∃ (q cq:Addr) (m:Int) (ys xs:List V) (rs:List (List Thg)) (cs:List Cau),vs=[.ref q,.ref cq,.int m]/\RowsIn K H q ys rs/\1≤rs.length/\SqL K H cq xs/\Paired (CauAt H) xs cs/\(∀ c∈cs,OkC rs.length c)/\cs.length≤100/\0≤m/\m≤1000000000000/\TabI H Tt qM [lPos lamM]/\
 (∀ h t la l vs ps H',Bf.Least (allT (cs.map tieC) rs.length m) h->H' t=some (.tup [.str "order",.ref la,.ref l])->H' la=some (.lst (amV rs.length h))->ps.Perm (evTo rs rs.length)->ps.Pairwise (fun a b=>rkT (keyP (rowOf rs.length h) a)<rkT (keyP (rowOf rs.length h) b))->H' l=some (.lst vs)->Paired (PrA H') vs ps->KpT H H'->TabI H' Tt qM [lPos lamM]->Q (.ref t) H')/\
 ∀ t a zs es H',H' t=some (.tup [.str "ring",.ref a])->H' a=some (.lst zs)->Paired (TieAt H') zs es->Bf.Ring es->(∀ e∈es,e∈allT (cs.map tieC) rs.length m)->es.length≤rs.length+1->H a=none->Same H H'->Q (.ref t) H'
abbrev NOd:List Str:=["rows","causes","most","ties","least"]
theorem scOd:FnScope NOd ["rows","causes","most"] (defScope (top 25)):=⟨rfl,rfl,rfl,by decide +kernel,rfl,by decide +kernel,by decide +kernel⟩
theorem ok_od {Tt f fTo fC fN fBo fR fL fT fM fG fAm fRi fMg:Addr} {fd fdTo fdC fdN fdBo fdR fdL fdT fdM fdG fdAm fdRi fdMg:FuncData} (F:Fun K "ordered" "ordered" (top 25) f fd) (T:Txt K mg) (TC:TxtC mg)
 (DTo:Def K mg "ties_of" (top 23) ["causes"] fTo fdTo) (DC:Def K mg "need_cause" (top 22) ["lane","time","other","second"] fC fdC)
 (DN:Def K mg "need_all" (top 14) ["lanes","ties","most"] fN fdN) (DBo:Def K mg "bounds" (top 15) ["lanes","most"] fBo fdBo) (DR:Def K mg "raised" (top 16) ["lanes","ties"] fR fdR)
 (DL:Def K mg "need_lanes" (top 11) ["lanes"] fL fdL) (DT:Def K mg "need_ties" (top 12) ["lanes","ties"] fT fdT) (DM:Def K mg "need_most" (top 13) ["most"] fM fdM) (DG:Def K mg "ring_behind" (top 19) ["at","raised_by","many"] fG fdG)
 (FAm:Fun K "amounts" "amounts" (top 17) fAm fdAm) (mAm:mg "amounts" = some (.ref fAm)) (FRi:Fun K "ring" "ring" (top 18) fRi fdRi) (mRi:mg "ring" = some (.ref fRi))
 (GMg:FnOk P w K mg base CX0 4 fMg fdMg ["rows","row"] (spMg K Tt)) (mMg:mg "merged" = some (.ref fMg)) (kMg:keepIn K (.ref fMg)=true) (bMg:Binds K fdMg ["rows","row"] []) :
 FnOk P w K mg base CX0 5 f fd ["rows","causes","most"] (spOd K Tt):=by
 have GTo:FnOk P w K mg base CX0 2 fTo fdTo ["causes"] (spTo K):=ok_to DTo.F TC DC
 have GT:FnOk P w K mg base CX0 1 fT fdT ["lanes","ties"] (spNT K):=ok_nt DT.F TC
 have GAm:FnOk P w K mg base CX0 3 fAm fdAm ["lanes","ties","most"] (spAm K):=ok_am FAm T TC DN DBo DR DL DT DM
 have GRi:FnOk P w K mg base CX0 3 fRi fdRi ["lanes","ties","most"] (spRi K):=ok_ri FRi T TC DN DBo DR DL DT DM DG
 have kbA:=kb21 FAm (fun _ _ _ _ _ _ _ _ _=>rfl)
 have kbR:=kb21 FRi (fun _ _ _ _ _ _ _ _ _=>rfl)
 refine F.ok scOd (fun vs H Q E h=>?_) (fun cdv A outer s H vs Q E hr h=>?_)
 ·obtain ⟨q,cq,m,ys,xs,rs,cs,rfl,_⟩:=h
  rfl
 ·obtain ⟨q,cq,m,ys,xs,rs,cs,rfl,R,n1,hcq,pc,okc,cl,m0,m1,tb,kO,kR⟩:=h
  have hr1:Room 1 _:=hr.mono (by decide)
  have hr2:Room 2 _:=hr.mono (by decide)
  have hr3:Room 3 _:=hr.mono (by decide)
  refine ⟨_,(pss_cons (ps_set (i:=3) scOd.nd rfl (by first|exact Or.inl rfl|exact Or.inr rfl) (pe_call GTo hr2 rfl DTo.mg DTo.F.kp DTo.b .nil pass0 (pa_cons (pv 1) pa_nil)))
   (pss_cons (ps_expr (pe_call GT hr1 rfl DT.mg DT.F.kp DT.b .nil pass0 (pa_cons (pe_callB call_len_seq (by rfl) T.len bt_len (pa_cons (pv 0) pa_nil)) (pa_cons (pv 3) pa_nil))))
   (pss_cons (ps_set (i:=4) scOd.nd rfl (by first|exact Or.inl rfl|exact Or.inr rfl) (pe_callK GAm hr3 rfl mAm FAm.kp kbA pass0 (pa_cons (pe_callB call_len_seq (by rfl) T.len bt_len (pa_cons (pv 0) pa_nil)) (pa_cons (pv 3) pa_nil)) (pk_cons (pv 2) pk_nil)))
   (pss_cons (ps_if (pt_cmpR op_isN (pv 4) pe_non (nomark _)) (pss_one (ps_ret (pe_tup (pa_cons pe_str (pa_cons (pe_callK GRi hr3 rfl mRi FRi.kp kbR pass0 (pa_cons (pe_callB call_len_seq (by rfl) T.len bt_len (pa_cons (pv 0) pa_nil)) (pa_cons (pv 3) pa_nil)) (pk_cons (pv 2) pk_nil)) pa_nil))))) pss_nil)
   (pss_one (ps_ret (pe_tup (pa_cons pe_str (pa_cons (pv 4) (pa_cons (pe_call GMg hr rfl mMg kMg bMg .nil pass0 (pa_cons (pv 0) (pa_cons (pv 4) pa_nil))) pa_nil)))))))))),?_⟩
  have few:=R.few
  have yl:=Paired.length R.at_
  have ok:∀ e∈cs.map tieC,OkTie rs.length e:=fun e he=>by
   obtain ⟨c,hc,rfl⟩:=List.mem_map.mp he
   exact okC_tie (by omega) (okc c hc)
  have oc6:∀ c∈cs,OkC 6 c:=fun c hc=>by
   have o:=okc c hc
   exact ⟨by have:=o.a;omega,by have:=o.b;omega,o.ne,o.t,o.u⟩
  refine seq_by (fun σ' H'=>∃ r zs,σ'=[some (.ref q),some (.ref cq),some (.int m),some (.ref r),none]/\Same H H'/\H' r=some (.lst zs)/\Paired (TieAt H') zs (cs.map tieC)) ?nx1 fun N hN=>?st1
  case st1=>exact ⟨_,rfl,cq,xs,cs,rfl,hcq,pc,oc6,cl,fun r zs H1 hr' pt nr s1=>hN _ _ ⟨r,zs,rfl,s1,hr',pt⟩⟩
  rintro σ' H1 ⟨r,zs,rfl,s1,hr1',pt⟩
  have R1:=R.same s1
  refine seq_by (fun σ' H'=>σ'=[some (.ref q),some (.ref cq),some (.int m),some (.ref r),none]/\H1=H') ?nx2 fun N hN=>?st2
  case st2=>
   refine ⟨_,rfl,q,_,rfl,.inl R1.sq,_,rfl,?_⟩
   rw [yl]
   exact ⟨rs.length,r,zs,_,rfl,SqL.of hr1',pt,ok,hN _ _ ⟨rfl,rfl⟩⟩
  rintro σ' H' ⟨rfl,rfl⟩
  have tih:TiesIn K H1 r rs.length (cs.map tieC):=⟨⟨zs,hr1',pt⟩,by rw [List.length_map];omega,ok⟩
  refine seq_by (fun σ' H'=>∃ v W,σ'=[some (.ref q),some (.ref cq),some (.int m),some (.ref r),some v]/\Same H1 H'/\AmAt rs.length (allT (cs.map tieC) rs.length m) H' v W) ?nx3 fun N hN=>?st3
  case st3=>
   refine ⟨_,rfl,q,_,rfl,.inl R1.sq,_,rfl,_,rfl,?_⟩
   rw [yl]
   dsimp only [tNil,gV21]
   exact am_read n1 few m0 m1 tih fun v W H8 a8 s8=>hN _ _ ⟨v,W,rfl,s8,a8⟩
  rintro σ' H2 ⟨v,W,rfl,s2,aw⟩
  have R2:=R1.same s2
  have tih2:=tih.same s2
  cases W with
  | none=>
    obtain ⟨rfl,B⟩:=aw
    refine ⟨_,rfl,rfl,_,rfl,ifT rfl ?_⟩
    refine ⟨_,rfl,q,_,rfl,.inl R2.sq,_,rfl,_,rfl,?_⟩
    rw [yl]
    dsimp only [tNil,gV21]
    refine ⟨rs.length,r,m,_,rfl,n1,few,m0,m1,tih2,fun h L=>(B.no L.sat).elim,fun a zs' es H3 ha pe Rg hR lr na s3=>⟨(by show 2≤sizeLine;decide),fun t ht=>?_⟩⟩
    have s4:=s3.trans (Same.new (o:=.tup [.str "ring",.ref a]) ht)
    exact kR t a zs' es _ upd_same (Same.new ht _ _ ha) (ties_tk (Same.tk (Same.new ht)) pe) Rg hR lr ((s1.trans s2).free na) ((s1.trans s2).trans s4)
  | some h=>
    obtain ⟨la,rfl,hla,L⟩:=aw
    refine ⟨_,rfl,rfl,_,rfl,ifF rfl ?_⟩
    have er:(rowOf rs.length h).map V.int=amV rs.length h:=by unfold rowOf amV;rw [List.map_map];rfl
    have rl:(rowOf rs.length h).length=rs.length:=by unfold rowOf;simp
    have S2:=s1.trans s2
    refine ⟨_,rfl,_,rfl,_,rfl,q,la,ys,rs,rowOf rs.length h,rfl,R2,SqL.of (by rw [er];exact hla),rl,tb.same S2,fun l vs ps H3 pp ps' hl pr nl kp tb3=>⟨(by show 3≤sizeLine;decide),fun t ht=>?_⟩⟩
    have s4:=Same.new (o:=.tup [.str "order",.ref la,.ref l]) ht
    exact kO h t la l vs ps _ L upd_same (s4 _ _ (kp _ _ hla (by intro _ z;cases z))) pp ps' (s4 _ _ hl) (prs_tk (Same.tk s4) pr) (fun b u e ne=>s4 _ _ (kp _ _ (S2 _ _ e) ne)) (tb3.same s4)
end
abbrev Tru:=List (Nat×Int)
def laneK (tr:Tru) (k:Nat):Nat:=(tr.getD k (0,0)).1
def nowK (tr:Tru) (k:Nat):Int:=(tr.getD k (0,0)).2
def stepsOf (tr:Tru) (l:Nat):List Nat:=(List.range tr.length).filter fun k=>laneK tr k == l
def ixOf (tr:Tru) (k:Nat):Nat:=((List.range k).filter fun j=>laneK tr j == laneK tr k).length
theorem getD_snoc {α:Type} {l:List α} {x d:α} {k:Nat} (h:k<l.length):(l++[x]).getD k d=l.getD k d:=by
 rw [List.getD_eq_getElem?_getD,List.getD_eq_getElem?_getD,List.getElem?_append_left h]
theorem getD_last {α:Type} {l:List α} {x d:α}:(l++[x]).getD l.length d=x:=by
 rw [List.getD_eq_getElem?_getD,List.getElem?_append_right (Nat.le_refl _)];simp
theorem laneK_old {tr:Tru} {x:Nat×Int} {k:Nat} (h:k<tr.length):laneK (tr++[x]) k=laneK tr k:=by unfold laneK;rw [getD_snoc h]
theorem nowK_old {tr:Tru} {x:Nat×Int} {k:Nat} (h:k<tr.length):nowK (tr++[x]) k=nowK tr k:=by unfold nowK;rw [getD_snoc h]
theorem laneK_new {tr:Tru} {x:Nat×Int}:laneK (tr++[x]) tr.length=x.1:=by unfold laneK;rw [getD_last]
theorem nowK_new {tr:Tru} {x:Nat×Int}:nowK (tr++[x]) tr.length=x.2:=by unfold nowK;rw [getD_last]
theorem stepsOf_snoc (tr:Tru) (x:Nat×Int) (l:Nat):stepsOf (tr++[x]) l=stepsOf tr l++(if x.1=l then [tr.length] else []):=by
 unfold stepsOf
 rw [List.length_append,List.length_singleton,List.range_succ,List.filter_append]
 congr 1
 ·refine List.filter_congr fun k hk=>?_
  rw [laneK_old (List.mem_range.mp hk)]
 ·rw [List.filter_cons,laneK_new,List.filter_nil]
  by_cases q:x.1=l
  ·simp [q]
  ·simp [q]
theorem ixOf_old {tr:Tru} {x:Nat×Int} {k:Nat} (h:k<tr.length):ixOf (tr++[x]) k=ixOf tr k:=by
 unfold ixOf
 congr 1
 refine List.filter_congr fun j hj=>?_
 have:=List.mem_range.mp hj
 rw [laneK_old (show j<tr.length by omega),laneK_old h]
theorem ixOf_new {tr:Tru} {x:Nat×Int}:ixOf (tr++[x]) tr.length=(stepsOf tr x.1).length:=by
 unfold ixOf stepsOf
 congr 1
 refine List.filter_congr fun j hj=>?_
 rw [laneK_old (List.mem_range.mp hj),laneK_new]
theorem ixOf_lt {tr:Tru} {i k:Nat} (h:i<k) (e:laneK tr i=laneK tr k):ixOf tr i<ixOf tr k:=by
 unfold ixOf
 obtain ⟨m,rfl⟩:∃ m,k=(i+1)+m:=⟨k-(i+1),by omega⟩
 have sp:List.range (i+1+m)=List.range i++(i::List.range' (i+1) m):=by
  rw [List.range_eq_range',List.range_eq_range',show i+1+m=i+(m+1) by omega,← List.range'_append_1,Nat.zero_add,List.range'_succ]
 rw [sp,List.filter_append,List.length_append,List.filter_cons,if_pos (by rw [e];simp),List.length_cons,e]
 omega
theorem mem_steps {tr:Tru} {l k:Nat}:k∈stepsOf tr l↔k<tr.length/\laneK tr k=l:=by
 unfold stepsOf
 rw [List.mem_filter,List.mem_range,beq_iff_eq]
theorem all_steps {tr:Tru} {n:Nat} (h:∀ k,k<tr.length->laneK tr k<n):((List.range n).flatMap (stepsOf tr)).Perm (List.range tr.length):=by
 have nd:((List.range n).flatMap (stepsOf tr)).Nodup:=by
  rw [List.Nodup,List.pairwise_flatMap]
  refine ⟨fun l _=>(List.nodup_range.filter _),?_⟩
  refine List.Pairwise.imp (fun {a b} hab x hx y hy e=>?_) List.pairwise_lt_range
  have h1:=(mem_steps.mp hx).2
  have h2:=(mem_steps.mp hy).2
  rw [e] at h1
  omega
 refine (List.perm_ext_iff_of_nodup nd List.nodup_range).mpr fun k=>?_
 rw [List.mem_flatMap,List.mem_range]
 constructor
 ·rintro ⟨l,_,hk⟩
  exact (mem_steps.mp hk).1
 ·intro hk
  exact ⟨laneK tr k,List.mem_range.mpr (h k hk),mem_steps.mpr ⟨hk,rfl⟩⟩
theorem perm_lift {α β:Type} {f:α->β}:∀ {l:List α} {m:List β},m.Perm (l.map f)->∃ l':List α,l'.Perm l/\m=l'.map f:=fun {l m} h=>by
 generalize e:l.map f=r at h
 induction h generalizing l with
 | nil=>
   cases l with
   |nil=>exact ⟨[],.refl _,rfl⟩
   |cons _ _=>simp at e
 | cons x h ih=>
   cases l with
   |nil=>simp at e
   | cons a l=>
     simp only [List.map_cons,List.cons.injEq] at e
     obtain ⟨l',p,q⟩:=ih e.2
     exact ⟨a::l',p.cons _,by rw [q,← e.1];rfl⟩
 | swap x y r=>
   match l,e with
   | a::b::l,e=>
     simp only [List.map_cons,List.cons.injEq] at e
     exact ⟨b::a::l,.swap _ _ _,by rw [← e.1,← e.2.1,← e.2.2];rfl⟩
 | trans h1 h2 i1 i2=>
   obtain ⟨l2,p2,q2⟩:=i2 e
   obtain ⟨l1,p1,q1⟩:=i1 q2.symm
   exact ⟨l1,p1.trans p2,q1⟩
abbrev Ad:=List (Addr×Addr)
abbrev adE (ad:Ad) (k:Nat):Addr:=(ad.getD k (0,0)).1
abbrev adS (ad:Ad) (k:Nat):Addr:=(ad.getD k (0,0)).2
structure TP (n:Nat) (top:Int) (ns:List Int) (tr:Tru):Prop where
 len:ns.length=n
 t0:0≤top/\top≤99999
 row:∀ i,i<n->0≤ns.getD i 0/\ns.getD i 0≤top
 lane:∀ k,k<tr.length->laneK tr k<n
 up:∀ i j,i<j->j<tr.length->nowK tr i<nowK tr j
 lo:∀ k,k<tr.length->top+1<nowK tr k/\nowK tr k≤top+1+4*((k:Int)+1)
 few:tr.length≤40
structure TW (H:Hp) (ns:List Int) (q rq tq:Addr) (as:List Addr) (tr:Tru) (ad:Ad) (ts:List Addr):Prop where
 hq:H q=some (.lst (as.map V.ref))
 nd:as.Nodup
 row:∀ (l:Nat) a,as[l]?=some a->H a=some (.lst ((stepsOf tr l).map fun k=>V.ref (adE ad k)))
 dl:ad.length=tr.length
 ev:∀ k,k<tr.length->H (adE ad k)=some (.tup [.str "event",.int (ixOf tr k),.int (nowK tr k-ns.getD (laneK tr k) 0),.str "ab",.ref (adS ad k)])/\H (adS ad k)=some (.tup [.int k])
 hr:H rq=some (.lst (ns.map V.int))
 ht:H tq=some (.lst (ts.map V.ref))
 tl:ts.length=tr.length
 tt:∀ (k:Nat) a,ts[k]?=some a->H a=some (.tup [.int (laneK tr k),.int (nowK tr k)])
theorem TW.kp {H H':Hp} {ns:List Int} {q rq tq:Addr} {as:List Addr} {tr:Tru} {ad:Ad} {ts:List Addr} (h:TW H ns q rq tq as tr ad ts) (k:∀ b u,H b=some u->(∀ qs,u≠.tbl qs)->(∀ kvs,u≠.dK kvs)->H' b=some u):TW H' ns q rq tq as tr ad ts:=
 ⟨k _ _ h.hq (by intro _ z;cases z) (by intro _ z;cases z),h.nd,fun l a e=>k _ _ (h.row l a e) (by intro _ z;cases z) (by intro _ z;cases z),h.dl,fun i hi=>⟨k _ _ (h.ev i hi).1 (by intro _ z;cases z) (by intro _ z;cases z),k _ _ (h.ev i hi).2 (by intro _ z;cases z) (by intro _ z;cases z)⟩,k _ _ h.hr (by intro _ z;cases z) (by intro _ z;cases z),k _ _ h.ht (by intro _ z;cases z) (by intro _ z;cases z),h.tl,fun i a e=>k _ _ (h.tt i a e) (by intro _ z;cases z) (by intro _ z;cases z)⟩
theorem TW.same {H H':Hp} {ns:List Int} {q rq tq:Addr} {as:List Addr} {tr:Tru} {ad:Ad} {ts:List Addr} (h:TW H ns q rq tq as tr ad ts) (s:Same H H'):TW H' ns q rq tq as tr ad ts:=h.kp fun b u e _ _=>s b u e
theorem TW.but {H H':Hp} {ns:List Int} {q rq tq p dc:Addr} {as:List Addr} {tr:Tru} {ad:Ad} {ts:List Addr} (h:TW H ns q rq tq as tr ad ts) (D:Dr H p dc) (b:But p H H'):TW H' ns q rq tq as tr ad ts:=h.kp fun c u e _ nd=>b c u e (D.ne e nd)
def evK (ns:List Int) (tr:Tru) (ad:Ad) (k:Nat):Prr:=(laneK tr k,.ref (adE ad k),(ixOf tr k:Int),nowK tr k-ns.getD (laneK tr k) 0)
def rsOf (n:Nat) (ns:List Int) (tr:Tru) (ad:Ad):List (List Thg):=(List.range n).map fun l=>(stepsOf tr l).map fun k=>(V.ref (adE ad k),some ((ixOf tr k:Int),nowK tr k-ns.getD (laneK tr k) 0))
theorem rsOf_len (n:Nat) (ns:List Int) (tr:Tru) (ad:Ad):(rsOf n ns tr ad).length=n:=by unfold rsOf;simp
theorem fm_map {α β:Type} {f:α->Option β} {g:α->β}:∀ {l:List α},(∀ x∈l,f x=some (g x))->l.filterMap f=l.map g
 |[],_=>rfl
 |x::l,h=>by rw [List.filterMap_cons,h x (List.mem_cons_self ..),List.map_cons,fm_map fun y hy=>h y (List.mem_cons_of_mem _ hy)]
theorem evTo_rs (n:Nat) (ns:List Int) (tr:Tru) (ad:Ad):∀ i,i≤n->evTo (rsOf n ns tr ad) i=((List.range i).flatMap (stepsOf tr)).map (evK ns tr ad)
 |0,_=>rfl
 | i+1,h=>by
   rw [evTo_succ,evTo_rs n ns tr ad i (by omega),List.range_succ,List.flatMap_append,List.map_append]
   congr 1
   have e:(rsOf n ns tr ad).getD i []=(stepsOf tr i).map fun k=>(V.ref (adE ad k),some ((ixOf tr k:Int),nowK tr k-ns.getD (laneK tr k) 0)):=by
    unfold rsOf
    rw [List.getD_eq_getElem?_getD,List.getElem?_map,List.getElem?_range (by omega)]
    rfl
   rw [e,List.flatMap_singleton]
   unfold evRow
   rw [List.filterMap_map]
   refine fm_map fun k hk=>?_
   have:=(mem_steps.mp hk).2
   simp only [Function.comp,Option.map_some,evK,this]
theorem evs_perm {n:Nat} {top:Int} {ns:List Int} {tr:Tru} (ad:Ad) (T:TP n top ns tr):(evTo (rsOf n ns tr ad) (rsOf n ns tr ad).length).Perm ((List.range tr.length).map (evK ns tr ad)):=by
 rw [rsOf_len,evTo_rs n ns tr ad n (Nat.le_refl _)]
 exact (all_steps T.lane).map _
theorem steps_len {tr:Tru} {l:Nat}:(stepsOf tr l).length≤tr.length:=by
 unfold stepsOf
 exact Nat.le_trans (List.length_filter_le _ _) (by rw [List.length_range];exact Nat.le_refl _)
theorem ixOf_le (tr:Tru) (k:Nat):ixOf tr k≤k:=by
 unfold ixOf
 exact Nat.le_trans (List.length_filter_le _ _) (by rw [List.length_range];exact Nat.le_refl _)
theorem TW.rows {K:PySem.W.Frag} {H:Hp} {n:Nat} {top:Int} {ns:List Int} {q rq tq:Addr} {as:List Addr} {tr:Tru} {ad:Ad} {ts:List Addr} (h:TW H ns q rq tq as tr ad ts) (T:TP n top ns tr) (al:as.length=n) (n6:n≤6):RowsIn K H q (as.map V.ref) (rsOf n ns tr ad):=by
 have pl:=evs_perm ad T
 have few:=T.few
 refine ⟨SqL.of h.hq,?_,by rw [rsOf_len];exact n6,fun r hr=>?_,by rw [pl.length_eq,List.length_map,List.length_range];omega,fun x hx=>?_,?_⟩
 ·have go:∀ (bs:List Addr) (m:Nat),(∀ (l:Nat) a,bs[l]?=some a->H a=some (.lst ((stepsOf tr (m+l)).map fun k=>V.ref (adE ad k))))->Paired (RwA H) (bs.map V.ref) ((List.range' m bs.length).map fun l=>(stepsOf tr l).map fun k=>((V.ref (adE ad k),some ((ixOf tr k:Int),nowK tr k-ns.getD (laneK tr k) 0)):Thg)):=fun bs=>by
   induction bs with
   |nil=>intro m _;exact .nil
   | cons b bs ih=>
     intro m hb
     rw [List.length_cons,List.range'_succ,List.map_cons,List.map_cons]
     refine .cons ⟨b,rfl,?_,fun x hx=>?_⟩ (ih (m+1) fun l a e=>?_)
     ·rw [hb 0 b rfl,List.map_map];rfl
     ·obtain ⟨k,hk,rfl⟩:=List.mem_map.mp hx
      exact ⟨_,rfl,_,(h.ev k (mem_steps.mp hk).1).1⟩
     ·rw [hb (l+1) a (by simpa using e),show m+(l+1)=m+1+l by omega]
  have:=go as 0 (fun l a e=>by rw [Nat.zero_add];exact h.row l a e)
  rw [al,← List.range_eq_range'] at this
  exact this
 ·unfold rsOf at hr
  obtain ⟨l,_,rfl⟩:=List.mem_map.mp hr
  rw [List.length_map]
  exact Nat.le_trans steps_len (by omega)
 ·obtain ⟨k,hk,rfl⟩:=List.mem_map.mp (pl.mem_iff.mp hx)
  have h1:=ixOf_le tr k
  have h2:=List.mem_range.mp hk
  simp only [evK]
  omega
 ·rw [rsOf_len,evTo_rs n ns tr ad n (Nat.le_refl _),List.map_map,List.map_flatMap,List.Nodup,List.pairwise_flatMap]
  refine ⟨fun l hl=>?_,?_⟩
  ·rw [List.pairwise_map]
   have pw:(stepsOf tr l).Pairwise (·<·):=List.pairwise_lt_range.filter _
   refine List.Pairwise.imp_of_mem (fun {a b} ha hb hab e=>?_) pw
   have h1:=(mem_steps.mp ha).2
   have h2:=(mem_steps.mp hb).2
   have:=ixOf_lt hab (h1.trans h2.symm)
   simp only [Function.comp,evK,Prod.mk.injEq] at e
   omega
  ·refine List.Pairwise.imp (fun {a b} hab x hx y hy e=>?_) List.pairwise_lt_range
   obtain ⟨k,hk,rfl⟩:=List.mem_map.mp hx
   obtain ⟨j,hj,rfl⟩:=List.mem_map.mp hy
   have h1:=(mem_steps.mp hk).2
   have h2:=(mem_steps.mp hj).2
   simp only [Function.comp,evK,Prod.mk.injEq] at e
   omega
theorem true_order {n:Nat} {top:Int} {ns:List Int} {tr:Tru} {ad:Ad} (T:TP n top ns tr) (n6:n≤6) {ps:List Prr} (hp:ps.Perm (evTo (rsOf n ns tr ad) (rsOf n ns tr ad).length)) (hs:ps.Pairwise (fun a b=>rkT (keyP ns a)<rkT (keyP ns b))):ps=(List.range tr.length).map (evK ns tr ad):=by
 have few:=T.few
 refine List.Perm.eq_of_pairwise (le:=fun a b=>rkT (keyP ns a)<rkT (keyP ns b)) (fun a b _ _ h1 h2=>absurd h1 (by omega)) hs ?_ (hp.trans (evs_perm ad T))
 rw [List.pairwise_map]
 refine List.Pairwise.imp_of_mem (fun {i j} hi hj hij=>?_) List.pairwise_lt_range
 have hj':=List.mem_range.mp hj
 have hi':=List.mem_range.mp hi
 have up:=T.up i j hij hj'
 have l1:=T.lane i hi'
 have l2:=T.lane j hj'
 have x1:=ixOf_le tr i
 have x2:=ixOf_le tr j
 simp only [rkT,keyP,evK]
 omega
def fdK (tr:Tru) (i k:Nat):List Nat:=(List.range i).flatMap fun l=>(stepsOf tr l).filter fun j=>j == k
theorem fdK_all {n:Nat} {mx:Int} {ns:List Int} {tr:Tru} (T:TP n mx ns tr) {k:Nat} (hk:k<tr.length):fdK tr n k=[k]:=by
 have p:=(all_steps T.lane).filter fun j=>j == k
 have e:((List.range n).flatMap (stepsOf tr)).filter (fun j=>j == k)=fdK tr n k:=by unfold fdK;rw [List.filter_flatMap]
 rw [e] at p
 have e2:(List.range tr.length).filter (fun j=>j == k)=[k]:=by
  obtain ⟨m,hm⟩:∃ m,tr.length=(k+1)+m:=⟨tr.length-(k+1),by omega⟩
  rw [hm,show k+1+m=k+(m+1) by omega,List.range_eq_range',← List.range'_append_1,Nat.zero_add,List.range'_succ,List.filter_append,List.filter_cons,if_pos (by simp)]
  rw [List.filter_eq_nil_iff.mpr,List.filter_eq_nil_iff.mpr]
  ·rfl
  ·intro j hj
   have:=List.mem_range'_1.mp hj
   simp;omega
  ·intro j hj
   have:=List.mem_range'_1.mp hj
   simp;omega
 rw [e2] at p
 exact List.perm_singleton.mp p
section
variable {P:Program} {w:World} {K:PySem.W.Frag} {mg:Str->Option Value} {base:Heap}
def spEo (K:PySem.W.Frag):Sp:=fun vs H Q _=>∃ (n k:Nat) (mx:Int) (ns:List Int) (q rq tq:Addr) (as:List Addr) (tr:Tru) (ad:Ad) (ts:List Addr),vs=[.ref q,.int k]/\TW H ns q rq tq as tr ad ts/\TP n mx ns tr/\as.length=n/\n≤6/\k<tr.length/\∀ H',Same H H'->Q (.ref (adE ad k)) H'
abbrev NEo:List Str:=["_law_rows","_law_step","_law_found","_law_told"]
theorem scEo:FnScope NEo ["_law_rows","_law_step"] (defScope (top 31)):=⟨rfl,rfl,rfl,by decide +kernel,rfl,by decide +kernel,by decide +kernel⟩
theorem ok_eo {f:Addr} {fd:FuncData} (F:Fun K "_law_event_of" "_law_event_of" (top 31) f fd):FnOk P w K mg base CX0 1 f fd ["_law_rows","_law_step"] (spEo K):=by
 refine F.ok scEo (fun vs H Q E h=>?_) (fun cdv A outer s H vs Q E hr h=>?_)
 ·obtain ⟨n,k,mx,ns,q,rq,tq,as,tr,ad,ts,rfl,_⟩:=h
  rfl
 ·obtain ⟨n,k,mx,ns,q,rq,tq,as,tr,ad,ts,rfl,W,T,al,n6,hk,go⟩:=h
  refine ⟨_,(pss_cons (ps_set (i:=2) scEo.nd rfl (by first|exact Or.inl rfl|exact Or.inr rfl) (pe_lst pa_nil))
   (pss_cons (ps_for PassesOwn.never rfl (pi_list (pv 0)) (pg_name (i:=3) scEo.nd rfl (by first|exact Or.inl rfl|exact Or.inr rfl)) (pss_one
    (ps_expr (pe_bm PySem.F.plainAttrs_list PySem.F.slot_list_extend PySem.F.type_list_extend mt_extend (pv 2) (pa_cons (pe_comp (g:=gName 0) (own:=["_law_thing"]) (js:=[1]) (N':=["_law_thing","_law_step"]) (CompScope.of (osc:=defScope (top 31)) (N:=NEo) rfl rfl ⟨rfl,by decide +kernel,by decide +kernel,by decide +kernel,rfl,by decide +kernel⟩) rfl (pi_list (pv 3)) (fun _ _ _ _ _=>(pg_name (i:=0) (show List.Nodup (["_law_thing","_law_step"]:List Str) by decide +kernel) rfl (Or.inl rfl) (Or.inr rfl))) (fun _ _ _ _ _=>pifs_one (pt_cmpR op_eq (pe_ix (r:=rIx K) ix_seq (pe_ix (r:=rIx K) ix_seq (pv 0) pe_int (fun _ _=>rfl)) pe_int (fun _ _=>rfl)) (pv 1) (nomark _))) (fun _ _ _ _ _=>pv 0)) pa_nil)))))
   (pss_one (ps_ret (pe_ix ix_list (pv 2) pe_int (fun _ _=>rfl)))))),?_⟩
  have few:=T.few
  refine ⟨Nat.zero_le _,fun fl hf=>?_⟩
  have s1:Same H (upd H fl (.lst [])):=Same.new hf
  refine ⟨_,rfl,q,rfl,⟨_,SqL.of (s1 _ _ W.hq)⟩,?_⟩
  refine for_list (K:=K) (a:=q) (xs:=as.map V.ref) (fun i σ' H'=>(∃ v,σ'=[some (.ref q),some (.int k),some (.ref fl),v])/\Same H H'/\H' fl=some (.lst ((fdK tr i k).map fun j=>V.ref (adE ad j)))/\(fdK tr i k).length≤40*i) ⟨⟨none,rfl⟩,s1,upd_same,Nat.le_refl _⟩ (fun i σ H' _ e=>SqL.of (e.2.1 _ _ W.hq)) ?_ ?_
  ·rintro i x σ' H1 hi ⟨⟨v,rfl⟩,s2,hfl,le⟩
   rw [List.getElem?_map] at hi
   obtain ⟨a,ha,rfl⟩:=Option.map_eq_some_iff.mp hi
   have hi':i<as.length:=(List.getElem?_eq_some_iff.mp ha).1
   have hra:=s2 _ _ (W.row i a ha)
   have sl:=steps_len (tr:=tr) (l:=i)
   dsimp only [gName]
   refine ⟨_,rfl,.inl ⟨rfl,_,SqL.of hfl⟩,_,rfl,a,rfl,⟨_,SqL.of hra⟩,?_⟩
   refine comp_listF (K:=K) (a:=a) (xs:=(stepsOf tr i).map fun k=>V.ref (adE ad k)) (fun j ys σ' H'=>(∃ v,σ'=[v,some (.int k)])/\H'=H1/\ys=(((stepsOf tr i).take j).filter fun j=>j == k).map fun j=>V.ref (adE ad j)) (by rw [List.length_map];exact Nat.le_trans (show (stepsOf tr i).length≤40 by omega) (by decide)) ⟨⟨none,rfl⟩,rfl,rfl⟩ (fun j ys σ H' _ e=>by rw [e.2.1];exact SqL.of hra) ?_ ?_
   ·rintro j x ys σ' H' hj ⟨⟨v,rfl⟩,rfl,rfl⟩ M hM
    rw [List.getElem?_map] at hj
    obtain ⟨c,hc,rfl⟩:=Option.map_eq_some_iff.mp hj
    obtain ⟨e1,e2⟩:=W.ev c (mem_steps.mp (List.mem_of_getElem? hc)).1
    have e1:=s2 _ _ e1
    have e2:=s2 _ _ e2
    dsimp only [gName]
    refine EvE.op (EvE.op (EvE.op (EvE.var rfl) EvE.con (EvR.ixT (SqT.of e1) (atI_nat (j:=4) rfl))) EvE.con (EvR.ixT (SqT.of e2) (atI_nat (j:=0) rfl))) (EvE.var rfl) (EvR.eq rfl) _ ⟨_,rfl,?_⟩
    refine ite2 (fun z=>?_) (fun z=>?_)
    ·have z':c=k:=by
      have z2:(c:Int)=k:=by simpa using z
      omega
     refine ⟨_,rfl,hM _ _ _ ⟨⟨_,rfl⟩,rfl,?_⟩ (by simp)⟩
     rw [List.take_add_one,hc,List.filter_append,List.map_append,Option.toList_some,List.filter_cons_of_pos (by simpa using z')]
     rfl
    ·have z':¬ c=k:=fun e=>by
      have z2:¬ (c:Int)=k:=by simpa using z
      exact z2 (by rw [e])
     refine hM _ _ _ ⟨⟨_,rfl⟩,rfl,?_⟩ (by omega)
     rw [List.take_add_one,hc,List.filter_append,Option.toList_some,List.filter_cons_of_neg (by simpa using z')]
     simp
   ·rintro ys σ' H' hy ⟨⟨v,rfl⟩,rfl,rfl⟩
    have el:(stepsOf tr i).take ((stepsOf tr i).map fun k=>V.ref (adE ad k)).length=stepsOf tr i:=by rw [List.length_map,List.take_length]
    rw [el]
    have fl40:((stepsOf tr i).filter fun j=>j == k).length≤40:=Nat.le_trans (List.length_filter_le _ _) (by omega)
    refine ⟨by rw [List.length_map];exact Nat.le_trans fl40 (by decide),fun l hl=>?_⟩
    have ne:fl≠l:=ne_of_none hfl hl
    have s3:Same H' (upd H' l (.lst (((stepsOf tr i).filter fun j=>j == k).map fun j=>V.ref (adE ad j)))):=Same.new hl
    have ef:fdK tr (i+1) k=fdK tr i k++((stepsOf tr i).filter fun j=>j == k):=by unfold fdK;rw [List.range_succ,List.flatMap_append];simp
    refine ⟨fl,l,_,_,rfl,rfl,s3 _ _ hfl,upd_same,?_,⟨_,rfl⟩,fun b u e=>?_,?_,?_⟩
    ·rw [List.length_map,List.length_map]
     exact Nat.le_trans (show _≤1000 by omega) (by decide)
    ·rw [upd_ne (ne_of_none e hf)]
     exact s3 _ _ (s2 _ _ e)
    ·rw [upd_same,ef,List.map_append]
    ·rw [ef,List.length_append]
     omega
  ·rintro σ' H1 ⟨⟨v,rfl⟩,s2,hfl,le⟩
   rw [List.length_map,al,fdK_all T hk] at hfl
   exact ⟨_,rfl,fl,_,0,_,rfl,rfl,SqL.of hfl,rfl,go _ s2⟩
end
structure SepA (q rq tq dc:Addr) (as:List Addr):Prop where
 nq:q∉as
 nr:rq∉as
 nt:tq∉as
 nd:dc∉as
 qt:q≠tq
 rt:rq≠tq
 dt:dc≠tq
theorem TW.push {H H':Hp} {ns:List Int} {q rq tq dc a pe ps pt:Addr} {as:List Addr} {tr:Tru} {ad:Ad} {ts:List Addr} {l:Nat} {now:Int} (h:TW H ns q rq tq as tr ad ts) (S:SepA q rq tq dc as) (ea:as[l]?=some a) (k:∀ b u,H b=some u->b≠a->b≠tq->H' b=some u)
 (ha:H' a=some (.lst (((stepsOf tr l).map fun k=>V.ref (adE ad k))++[.ref pe]))) (ht:H' tq=some (.lst (ts.map V.ref++[.ref pt]))) (hpe:H' pe=some (.tup [.str "event",.int (stepsOf tr l).length,.int (now-ns.getD l 0),.str "ab",.ref ps])) (hps:H' ps=some (.tup [.int tr.length])) (hpt:H' pt=some (.tup [.int l,.int now])) :
 TW H' ns q rq tq as (tr++[(l,now)]) (ad++[(pe,ps)]) (ts++[pt]):=by
 have ma:a∈as:=List.mem_of_getElem? ea
 have ha0:=h.row l a ea
 have dl:=h.dl
 have tl:=h.tl
 have tup:∀ b xs,H b=some (.tup xs)->H' b=some (.tup xs):=fun b xs e=>k b _ e (fun z=>by rw [z,ha0] at e;cases e) (fun z=>by rw [z,h.ht] at e;cases e)
 have aE:∀ j,j<tr.length->adE (ad++[(pe,ps)]) j=adE ad j:=fun j hj=>by unfold adE;rw [getD_snoc (by omega)]
 have aS:∀ j,j<tr.length->adS (ad++[(pe,ps)]) j=adS ad j:=fun j hj=>by unfold adS;rw [getD_snoc (by omega)]
 have aE1:adE (ad++[(pe,ps)]) tr.length=pe:=by unfold adE;rw [← dl,getD_last]
 have aS1:adS (ad++[(pe,ps)]) tr.length=ps:=by unfold adS;rw [← dl,getD_last]
 have old:∀ m,(stepsOf tr m).map (fun k=>V.ref (adE (ad++[(pe,ps)]) k))=(stepsOf tr m).map fun k=>V.ref (adE ad k):=fun m=>List.map_congr_left fun j hj=>by rw [aE j (mem_steps.mp hj).1]
 refine ⟨k _ _ h.hq (fun z=>S.nq (z ▸ ma)) S.qt,h.nd,fun m b eb=>?_,by rw [List.length_append,List.length_append,dl];rfl,fun j hj=>?_,k _ _ h.hr (fun z=>S.nr (z ▸ ma)) S.rt,by rw [ht,List.map_append];rfl,by rw [List.length_append,List.length_append,tl];rfl,fun j b eb=>?_⟩
 ·rw [stepsOf_snoc,List.map_append,old m]
  by_cases e:l=m
  ·subst e
   rw [ea] at eb
   cases eb
   rw [ha,if_pos rfl,List.map_singleton,aE1]
  ·rw [if_neg e,List.map_nil,List.append_nil]
   refine k _ _ (h.row m b eb) (fun z=>e ?_) (fun z=>S.nt (z ▸ List.mem_of_getElem? eb))
   subst z
   exact nodup_getD (d:=0) h.nd (List.getElem?_eq_some_iff.mp ea).1 (List.getElem?_eq_some_iff.mp eb).1 (by rw [List.getD_eq_getElem?_getD,List.getD_eq_getElem?_getD,ea,eb])
 ·rw [List.length_append,List.length_singleton] at hj
  by_cases q:j<tr.length
  ·obtain ⟨e1,e2⟩:=h.ev j q
   rw [aE j q,aS j q,ixOf_old q,nowK_old q,laneK_old q]
   exact ⟨tup _ _ e1,tup _ _ e2⟩
  ·obtain rfl:j=tr.length:=by omega
   rw [aE1,aS1,ixOf_new,nowK_new,laneK_new]
   exact ⟨hpe,hps⟩
 ·by_cases q:j<ts.length
  ·rw [List.getElem?_append_left q] at eb
   rw [laneK_old (by omega),nowK_old (by omega)]
   exact tup _ _ (h.tt j b eb)
  ·rw [List.getElem?_append_right (by omega)] at eb
   obtain ⟨h5,rfl⟩:=List.getElem?_eq_some_iff.mp eb
   simp only [List.length_singleton] at h5
   obtain rfl:j=tr.length:=by omega
   rw [laneK_new,nowK_new]
   simp only [tl,Nat.sub_self,List.getElem_cons_zero]
   exact hpt
theorem TP.push {n:Nat} {mx now:Int} {ns:List Int} {tr:Tru} {l:Nat} (T:TP n mx ns tr) (hl:l<n) (h1:∀ j,j<tr.length->nowK tr j<now) (h2:mx+1<now) (h3:now≤mx+1+4*((tr.length:Int)+1)) (few:tr.length<40):TP n mx ns (tr++[(l,now)]):=by
 refine ⟨T.len,T.t0,T.row,fun j hj=>?_,fun i j hij hj=>?_,fun j hj=>?_,by rw [List.length_append,List.length_singleton];omega⟩
 ·rw [List.length_append,List.length_singleton] at hj
  by_cases q:j<tr.length
  ·rw [laneK_old q];exact T.lane j q
  ·obtain rfl:j=tr.length:=by omega
   rw [laneK_new];exact hl
 ·rw [List.length_append,List.length_singleton] at hj
  by_cases q:j<tr.length
  ·rw [nowK_old q,nowK_old (by omega)];exact T.up i j hij q
  ·obtain rfl:j=tr.length:=by omega
   rw [nowK_new,nowK_old hij]
   exact h1 i hij
 ·rw [List.length_append,List.length_singleton] at hj
  by_cases q:j<tr.length
  ·rw [nowK_old q];exact T.lo j q
  ·obtain rfl:j=tr.length:=by omega
   rw [nowK_new];exact ⟨h2,h3⟩
def cauK (ns:List Int) (tr:Tru) (i j:Nat):Cau:=⟨laneK tr i,nowK tr i-ns.getD (laneK tr i) 0,laneK tr j,nowK tr j-ns.getD (laneK tr j) 0⟩
def CauP (ns:List Int) (tr:Tru) (c:Cau):Prop:=∃ i j,i<j/\j<tr.length/\laneK tr i≠laneK tr j/\c=cauK ns tr i j
theorem CauP.ok {n:Nat} {mx:Int} {ns:List Int} {tr:Tru} (T:TP n mx ns tr) {c:Cau} (h:CauP ns tr c):OkC n c:=by
 obtain ⟨i,j,hij,hj,ne,rfl⟩:=h
 have few:=T.few
 have t0:=T.t0
 have l1:=T.lane i (by omega)
 have l2:=T.lane j hj
 have r1:=T.row _ l1
 have r2:=T.row _ l2
 have o1:=T.lo i (by omega)
 have o2:=T.lo j hj
 refine ⟨?_,?_,?_,?_,?_⟩ <;> simp only [cauK] <;> omega
theorem CauP.meets {n:Nat} {mx:Int} {ns:List Int} {tr:Tru} (T:TP n mx ns tr) {cs:List Cau} (h:∀ c∈cs,CauP ns tr c):meetsB (cs.map tieC) ns mx=true:=by
 unfold meetsB
 rw [Bool.and_eq_true]
 refine ⟨?_,?_⟩
 ·unfold inB
  rw [List.all_eq_true]
  intro x hx
  obtain ⟨i,hi,rfl⟩:=List.getElem_of_mem hx
  have:=T.row i (by have:=T.len;omega)
  rw [List.getD_eq_getElem?_getD,List.getElem?_eq_getElem hi,Option.getD_some] at this
  simp [this]
 ·rw [List.all_eq_true]
  intro e he
  obtain ⟨c,hc,rfl⟩:=List.mem_map.mp he
  obtain ⟨i,j,hij,hj,ne,rfl⟩:=h c hc
  have:=T.up i j hij hj
  simp only [tieB,tieC,cauK,Int.toNat_natCast]
  exact decide_eq_true (by omega)
theorem caus_kp {H H':Hp} {xs:List V} {cs:List Cau} (k:KpT H H') (h:Paired (CauAt H) xs cs):Paired (CauAt H') xs cs:=pd_map (fun _ _ ⟨p,e,z⟩=>⟨p,e,k _ _ z (by intro _ y;cases y)⟩) h
theorem caus_but {H H':Hp} {p dc:Addr} {xs:List V} {cs:List Cau} (D:Dr H p dc) (b:But p H H') (h:Paired (CauAt H) xs cs):Paired (CauAt H') xs cs:=pd_map (fun _ _ ⟨q,e,z⟩=>⟨q,e,b _ _ z (D.ne z (by intro _ y;cases y))⟩) h
theorem eqs_ints:∀ xs:List Int,pdEqs (xs.map PyData.int) (xs.map PyData.int)=true
 |[]=>rfl
 | x::r=>by
   rw [List.map_cons]
   simp [pdEqs,pdEq,eqs_ints r]
theorem deps_ints:∀ xs:List Int,pdDeps (xs.map PyData.int)≤1
 |[]=>by simp [pdDeps]
 | x::r=>by
   have:=deps_ints r
   rw [List.map_cons]
   simp only [pdDeps,pdDep]
   omega
theorem up_range {m:Nat} {ks:List Nat} {xs:List Int} (h1:ks.Perm (List.range m)) (h2:xs.Perm (ks.map fun k:Nat=>(k:Int))) (h3:xs.Pairwise (·≤·)):xs=(List.range m).map fun k:Nat=>(k:Int):=by
 refine List.Perm.eq_of_pairwise (le:=fun a b:Int=>a≤b) (fun a b _ _ h1 h2=>Int.le_antisymm h1 h2) h3 ?_ (h2.trans (h1.map _))
 rw [List.pairwise_map]
 exact List.pairwise_lt_range.imp fun h=>by omega
def evD (ns:List Int) (tr:Tru) (k:Nat):PyData:=.tuple [.str "event",.int (ixOf tr k),.int (nowK tr k-ns.getD (laneK tr k) 0),.str "ab",.tuple [.int k]]
theorem evs_dep (ns:List Int) (tr:Tru):∀ l:List Nat,pdDeps (l.map (evD ns tr))≤2
 |[]=>by simp [pdDeps]
 | x::r=>by
   have:=evs_dep ns tr r
   rw [List.map_cons]
   simp only [pdDeps,pdDep,evD]
   omega
theorem evs_max (ns:List Int) (tr:Tru):∀ l:List Nat,pdMaxs (l.map (evD ns tr))≤5
 |[]=>by simp [pdMaxs]
 | x::r=>by
   have:=evs_max ns tr r
   rw [List.map_cons]
   simp only [pdMaxs,pdMax,evD,List.length_cons,List.length_nil]
   omega
theorem TW.reps {K:PySem.W.Frag} {H:Hp} {ns:List Int} {q rq tq:Addr} {as:List Addr} {tr:Tru} {ad:Ad} {ts:List Addr} (h:TW H ns q rq tq as tr ad ts):∀ l:List Nat,(∀ k∈l,k<tr.length)->Reps K H (l.map fun k=>V.ref (adE ad k)) (l.map (evD ns tr))
 |[],_=>.nil
 | k::r,m=>by
   obtain ⟨e1,e2⟩:=h.ev k (m k (.head _))
   exact .cons (.tup (SqT.of e1) (.cons (.str _) (.cons (.int _) (.cons (.int _) (.cons (.str _) (.cons (.tup (SqT.of e2) (.cons (.int _) .nil)) .nil)))))) (h.reps r fun j hj=>m j (.tail _ hj))
theorem TW.put {H:Hp} {ns:List Int} {q rq tq cq:Addr} {as:List Addr} {tr:Tru} {ad:Ad} {ts:List Addr} {xs ys:List V} (h:TW H ns q rq tq as tr ad ts) (hc:H cq=some (.lst xs)) (n:cq≠q/\cq≠rq/\cq≠tq/\cq∉as):TW (upd H cq (.lst ys)) ns q rq tq as tr ad ts:=by
 have k:∀ b zs,H b=some (.tup zs)->upd H cq (.lst ys) b=some (.tup zs):=fun b zs e=>by
  rw [upd_ne]
  ·exact e
  ·intro z
   rw [z,hc] at e
   cases e
 refine ⟨by rw [upd_ne (Ne.symm n.1)];exact h.hq,h.nd,fun l a e=>?_,h.dl,fun i hi=>⟨k _ _ (h.ev i hi).1,k _ _ (h.ev i hi).2⟩,by rw [upd_ne (Ne.symm n.2.1)];exact h.hr,by rw [upd_ne (Ne.symm n.2.2.1)];exact h.ht,h.tl,fun i a e=>k _ _ (h.tt i a e)⟩
 have ne:a≠cq:=fun z=>n.2.2.2 (z ▸ List.mem_of_getElem? e)
 rw [upd_ne ne]
 exact h.row l a e
theorem OkTie.of_cau {n:Nat} {mx:Int} {ns:List Int} {tr:Tru} (T:TP n mx ns tr) (n6:n≤6) {cs:List Cau} (h:∀ c∈cs,CauP ns tr c):∀ e∈cs.map tieC,OkTie n e:=fun e he=>by
 obtain ⟨c,hc,rfl⟩:=List.mem_map.mp he
 exact okC_tie (by omega) (CauP.ok T (h c hc))
theorem _root_.L2.TabI.but {H H':Hp} {T p dc:Addr} {qual:Str} {lps:List Pos} (h:TabI H T qual lps) (D:Dr H p dc) (b:But p H H'):TabI H' T qual lps:=h.keep fun q u e ne=>b q u e (D.ne e ne)
theorem tab_lst {H H':Hp} {T:Addr} {qual:Str} {lps:List Pos} (h:TabI H T qual lps) (k:∀ b u,H b=some u->(∀ xs,u≠.lst xs)->H' b=some u):TabI H' T qual lps:=by
 obtain ⟨ps,h1,h2,h3⟩:=h
 refine ⟨ps,k _ _ h1 (by intro _ z;cases z),h2,fun lp m=>?_⟩
 rcases h3 lp m with z|⟨c',z,e⟩
 ·exact .inl z
 ·exact .inr ⟨c',z,k _ _ e (by intro _ z;cases z)⟩
section
variable {P:Program} {w:World} {K:PySem.W.Frag} {mg:Str->Option Value} {base:Heap}
theorem kbOd {st:Stmt} {f:Addr} {fd:FuncData} (F:Fun K "ordered" "ordered" st f fd) (h:∀ (kV doc pm:Value) (an:Option Addr) (cdv ct a b c:Value),bindArgs (PySem.W.fnOf "ordered" "ordered" (defArgs st) (defBody st) (defScope st) .none kV doc pm an cdv ct) ⟨[a,b],[("most",c)]⟩=pure (([("rows" : Str),"causes","most"]:List Str).zip [a,b,c])) :
 KBinds K fd ["rows","causes","most"] ["most"] g21 gV21:=by
 obtain ⟨oc,od,kV,doc,pm,an,cdv,ct,osl,rfl,lk,hcd⟩:=F.ex
 refine ⟨fun s us ws X hl=>?_,fun {vs us zs ws} r rz=>?_⟩
 ·match us,ws,hl with
  |[a,b],[c],_=>exact .of_eq (h kV doc pm an cdv ct a b c)
  |[],_,z=>simp [g21] at z
  |[_],_,z=>simp [g21] at z
  |[_,_],[],z=>simp [g21] at z
  |[_,_],_::_::_,z=>simp [g21] at z
  |_::_::_::_,_,z=>simp [g21] at z
 ·match vs,us,r,zs,ws,rz with
  |_,_,.nil,_,_,_=>exact .nil
  |_,_,.cons r1 .nil,_,_,_=>exact .nil
  |_,_,.cons r1 (.cons r2 .nil),_,_,.nil=>exact .nil
  |_,_,.cons r1 (.cons r2 .nil),_,_,.cons z1 .nil=>exact .cons r1 (.cons r2 (.cons z1 .nil))
  |_,_,.cons r1 (.cons r2 .nil),_,_,.cons z1 (.cons z2 z)=>exact .nil
  |_,_,.cons r1 (.cons r2 (.cons r3 r)),_,_,_=>exact .nil
def spLaw (K:PySem.W.Frag) (Tt:Addr) (ps:Array Value):Sp:=fun vs H Q _=>∃ (a:Addr) (ns:List Int),vs=[.ref a]/\SqL K H a (ns.map V.int)/\ns.length≤63/\H Tt=some (.tbl ps)/\∀ H',Q (.bl true) H'
abbrev NL:List Str:=["_law_script","_law_d","_law_lanes","_law_top","_law_row","_law_rows","_law_true","_law_now","_law_step","_law_lane","_law_causes","_law_at","_law_later","_law_one","_law_other","_law_told","_law_places","_law_time","_law_second","_law_ties","_law_laid"]
theorem scLaw:FnScope NL ["_law_script"] (defScope (top 32)):=⟨rfl,rfl,rfl,by decide +kernel,rfl,by decide +kernel,by decide +kernel⟩
theorem ok_law {Tt f fB fP fO fS fEo fTo fC fN fBo fR fL fT fM fG fAm fRi fMe fMg fOd:Addr} {fd fdB fdP fdO fdS fdEo fdTo fdC fdN fdBo fdR fdL fdT fdM fdG fdAm fdRi fdMe fdMg fdOd:FuncData} {ps:Array Value} (F:Fun K "law" "law" (top 32) f fd) (tri:TriplesOk ps.toList) (cn:codeAmong (lPos lamM) ps.toList=none) (T:Txt K mg) (TC:TxtC mg) (hso:mg "sorted" = none)
 (DB:Def K mg "_law_begin" (top 27) ["_law_script"] fB fdB) (DP:Def K mg "_law_pick" (top 28) ["_law_d","_law_many"] fP fdP) (DO:Def K mg "_law_of" (top 29) ["_law_d","_law_things"] fO fdO) (DS:Def K mg "_law_same" (top 30) ["_law_found","_law_due"] fS fdS) (DEo:Def K mg "_law_event_of" (top 31) ["_law_rows","_law_step"] fEo fdEo)
 (DTo:Def K mg "ties_of" (top 23) ["causes"] fTo fdTo) (DC:Def K mg "need_cause" (top 22) ["lane","time","other","second"] fC fdC)
 (DN:Def K mg "need_all" (top 14) ["lanes","ties","most"] fN fdN) (DBo:Def K mg "bounds" (top 15) ["lanes","most"] fBo fdBo) (DR:Def K mg "raised" (top 16) ["lanes","ties"] fR fdR)
 (DL:Def K mg "need_lanes" (top 11) ["lanes"] fL fdL) (DT:Def K mg "need_ties" (top 12) ["lanes","ties"] fT fdT) (DM:Def K mg "need_most" (top 13) ["most"] fM fdM) (DG:Def K mg "ring_behind" (top 19) ["at","raised_by","many"] fG fdG)
 (FAm:Fun K "amounts" "amounts" (top 17) fAm fdAm) (mAm:mg "amounts" = some (.ref fAm)) (FRi:Fun K "ring" "ring" (top 18) fRi fdRi) (mRi:mg "ring" = some (.ref fRi)) (FMe:Fun K "meets" "meets" (top 20) fMe fdMe) (mMe:mg "meets" = some (.ref fMe)) (FOd:Fun K "ordered" "ordered" (top 25) fOd fdOd) (mOd:mg "ordered" = some (.ref fOd))
 (GMg:FnOk P w K mg base CX0 4 fMg fdMg ["rows","row"] (spMg K Tt)) (mMg:mg "merged" = some (.ref fMg)) (kMg:keepIn K (.ref fMg)=true) (bMg:Binds K fdMg ["rows","row"] []) :
 FnOk P w K mg base CX0 8 f fd ["_law_script"] (spLaw K Tt ps):=by
 have GB:FnOk P w K mg base CX0 1 fB fdB ["_law_script"] (spBegin K):=ok_begin DB.F T
 have GP:FnOk P w K mg base CX0 1 fP fdP ["_law_d","_law_many"] spPick:=ok_pick DP.F T
 have GO:FnOk P w K mg base CX0 2 fO fdO ["_law_d","_law_things"] (spOf K):=ok_of DO.F T DP
 have GS:FnOk P w K mg base CX0 5 fS fdS ["_law_found","_law_due"] (spS K 5):=ok_same DS T 5
 have GEo:FnOk P w K mg base CX0 1 fEo fdEo ["_law_rows","_law_step"] (spEo K):=ok_eo DEo.F
 have GTo:FnOk P w K mg base CX0 2 fTo fdTo ["causes"] (spTo K):=ok_to DTo.F TC DC
 have GRi:FnOk P w K mg base CX0 3 fRi fdRi ["lanes","ties","most"] (spRi K):=ok_ri FRi T TC DN DBo DR DL DT DM DG
 have GMe:FnOk P w K mg base CX0 3 fMe fdMe ["lanes","ties","row","most"] (spMe K):=ok_me FMe T TC DN DL DT DM
 have GOd:FnOk P w K mg base CX0 5 fOd fdOd ["rows","causes","most"] (spOd K Tt):=ok_od FOd T TC DTo DC DN DBo DR DL DT DM DG FAm mAm FRi mRi GMg mMg kMg bMg
 have kbR:=kb21 FRi (fun _ _ _ _ _ _ _ _ _=>rfl)
 have kbM:=kb31 FMe (fun _ _ _ _ _ _ _ _ _ _=>rfl)
 have kbO:=kbOd FOd (fun _ _ _ _ _ _ _ _ _=>rfl)
 refine F.ok scLaw (fun vs H Q E h=>?_) (fun cdv A outer s H vs Q E hr h=>?_)
 ·obtain ⟨a,ns,rfl,_⟩:=h
  rfl
 ·obtain ⟨sa,ss,rfl,hS,hlen,hTb,k⟩:=h
  have hr1:Room 1 _:=hr.mono (by decide)
  have hr2:Room 2 _:=hr.mono (by decide)
  have hr3:Room 3 _:=hr.mono (by decide)
  have hr4:Room 4 _:=hr.mono (by decide)
  have hr5:Room 5 _:=hr.mono (by decide)
  refine ⟨_,(pss_cons (ps_set (i:=1) scLaw.nd rfl (by first|exact Or.inl rfl|exact Or.inr rfl) (pe_call GB hr1 rfl DB.mg DB.F.kp DB.b .nil pass0 (pa_cons (pv 0) pa_nil)))
   (pss_cons (ps_set (i:=2) scLaw.nd rfl (by first|exact Or.inl rfl|exact Or.inr rfl) (pe_op op_add pe_int (pe_call GP hr1 rfl DP.mg DP.F.kp DP.b .nil pass0 (pa_cons (pv 1) (pa_cons pe_int pa_nil)))))
   (pss_cons (ps_set (i:=3) scLaw.nd rfl (by first|exact Or.inl rfl|exact Or.inr rfl) (pe_call GO hr2 rfl DO.mg DO.F.kp DO.b .nil pass0 (pa_cons (pv 1) (pa_cons (pe_lst (pa_cons pe_int (pa_cons pe_int (pa_cons pe_int pa_nil)))) pa_nil))))
   (pss_cons (ps_set (i:=4) scLaw.nd rfl (by first|exact Or.inl rfl|exact Or.inr rfl) (pe_comp (g:=gName 0) (own:=["_law_lane"]) (js:=[1,3]) (N':=["_law_lane","_law_d","_law_top"]) (CompScope.of (osc:=defScope (top 32)) (N:=NL) rfl rfl ⟨rfl,by decide +kernel,by decide +kernel,by decide +kernel,rfl,by decide +kernel⟩) rfl (pi_range1 rfl T.range (pa_cons (pv 2) pa_nil)) (fun _ _ _ _ _=>(pg_name (i:=0) (show List.Nodup (["_law_lane","_law_d","_law_top"]:List Str) by decide +kernel) rfl (Or.inl rfl) (Or.inr rfl))) (fun _ _ _ _ _=>pifs_nil) (fun _ _ _ _ _=>(pe_call GP hr1 rfl DP.mg DP.F.kp DP.b .nil pass0 (pa_cons (pv 1) (pa_cons (pe_op op_add (pv 2) pe_int) pa_nil))))))
   (pss_cons (ps_set (i:=5) scLaw.nd rfl (by first|exact Or.inl rfl|exact Or.inr rfl) (pe_comp (g:=gName 0) (own:=["_law_lane"]) (js:=[]) (N':=["_law_lane"]) (CompScope.of (osc:=defScope (top 32)) (N:=NL) rfl rfl ⟨rfl,by decide +kernel,by decide +kernel,by decide +kernel,rfl,by decide +kernel⟩) rfl (pi_range1 rfl T.range (pa_cons (pv 2) pa_nil)) (fun _ _ _ _ _=>(pg_name (i:=0) (show List.Nodup (["_law_lane"]:List Str) by decide +kernel) rfl (Or.inl rfl) (Or.inr rfl))) (fun _ _ _ _ _=>pifs_nil) (fun _ _ _ _ _=>(pe_lst pa_nil))))
   (pss_cons (ps_set (i:=6) scLaw.nd rfl (by first|exact Or.inl rfl|exact Or.inr rfl) (pe_lst pa_nil))
   (pss_cons (ps_set (i:=7) scLaw.nd rfl (by first|exact Or.inl rfl|exact Or.inr rfl) (pe_op op_add (pv 3) pe_int))
   (pss_cons (ps_for PassesOwn.never rfl (pi_range1 rfl T.range (pa_cons (pe_call GP hr1 rfl DP.mg DP.F.kp DP.b .nil pass0 (pa_cons (pv 1) (pa_cons pe_int pa_nil))) pa_nil)) (pg_name (i:=8) scLaw.nd rfl (by first|exact Or.inl rfl|exact Or.inr rfl))
   (pss_cons (ps_set (i:=7) scLaw.nd rfl (by first|exact Or.inl rfl|exact Or.inr rfl) (pe_op op_add (pe_op op_add (pv 7) pe_int) (pe_call GP hr1 rfl DP.mg DP.F.kp DP.b .nil pass0 (pa_cons (pv 1) (pa_cons pe_int pa_nil)))))
   (pss_cons (ps_set (i:=9) scLaw.nd rfl (by first|exact Or.inl rfl|exact Or.inr rfl) (pe_call GP hr1 rfl DP.mg DP.F.kp DP.b .nil pass0 (pa_cons (pv 1) (pa_cons (pv 2) pa_nil))))
   (pss_cons (ps_expr (pe_bm PySem.F.plainAttrs_list PySem.F.slot_list_append PySem.F.type_list_append mt_append (pe_ix (r:=rIx K) ix_seq (pv 5) (pv 9) (fun _ _=>rfl)) (pa_cons (pe_tup (pa_cons pe_str (pa_cons (pe_callB call_len_seq (by rfl) T.len bt_len (pa_cons (pe_ix (r:=rIx K) ix_seq (pv 5) (pv 9) (fun _ _=>rfl)) pa_nil)) (pa_cons (pe_op op_sub (pv 7) (pe_ix (r:=rIx K) ix_seq (pv 4) (pv 9) (fun _ _=>rfl))) (pa_cons pe_str (pa_cons (pe_tup (pa_cons (pv 8) pa_nil)) pa_nil)))))) pa_nil)))
   (pss_one (ps_expr (pe_bm PySem.F.plainAttrs_list PySem.F.slot_list_append PySem.F.type_list_append mt_append (pv 6) (pa_cons (pe_tup (pa_cons (pv 9) (pa_cons (pv 7) pa_nil))) pa_nil))))))))
   (pss_cons (ps_set (i:=10) scLaw.nd rfl (by first|exact Or.inl rfl|exact Or.inr rfl) (pe_lst pa_nil))
   (pss_cons (ps_for PassesOwn.never rfl (pi_range1 rfl T.range (pa_cons (pe_op op_mul (pe_call GP hr1 rfl DP.mg DP.F.kp DP.b .nil pass0 (pa_cons (pv 1) (pa_cons pe_int pa_nil))) (pe_callTy call_int1 (by rfl) T.int bt_int (pa_cons (pe_cmpR op_gt (pe_callB call_len_seq (by rfl) T.len bt_len (pa_cons (pv 6) pa_nil)) pe_int (nomark _)) pa_nil))) pa_nil)) (pg_name (i:=8) scLaw.nd rfl (by first|exact Or.inl rfl|exact Or.inr rfl))
   (pss_cons (ps_set (i:=11) scLaw.nd rfl (by first|exact Or.inl rfl|exact Or.inr rfl) (pe_call GP hr1 rfl DP.mg DP.F.kp DP.b .nil pass0 (pa_cons (pv 1) (pa_cons (pe_op op_sub (pe_callB call_len_seq (by rfl) T.len bt_len (pa_cons (pv 6) pa_nil)) pe_int) pa_nil))))
   (pss_cons (ps_set (i:=12) scLaw.nd rfl (by first|exact Or.inl rfl|exact Or.inr rfl) (pe_op op_add (pe_op op_add (pv 11) pe_int) (pe_call GP hr1 rfl DP.mg DP.F.kp DP.b .nil pass0 (pa_cons (pv 1) (pa_cons (pe_op op_sub (pe_op op_sub (pe_callB call_len_seq (by rfl) T.len bt_len (pa_cons (pv 6) pa_nil)) pe_int) (pv 11)) pa_nil)))))
   (pss_cons (ps_par (i:=13) (j:=14) rfl scLaw.nd rfl rfl (by decide) rfl rfl (pa_cons (pe_ix (r:=rIx K) ix_seq (pv 6) (pv 11) (fun _ _=>rfl)) (pa_cons (pe_ix (r:=rIx K) ix_seq (pv 6) (pv 12) (fun _ _=>rfl)) pa_nil)) rfl)
   (pss_one (ps_if (pt_cmpR op_ne (pe_ix (r:=rIx K) ix_seq (pv 13) pe_int (fun _ _=>rfl)) (pe_ix (r:=rIx K) ix_seq (pv 14) pe_int (fun _ _=>rfl)) (nomark _)) (pss_one (ps_expr (pe_bm PySem.F.plainAttrs_list PySem.F.slot_list_append PySem.F.type_list_append mt_append (pv 10) (pa_cons (pe_tup (pa_cons (pe_ix (r:=rIx K) ix_seq (pv 13) pe_int (fun _ _=>rfl)) (pa_cons (pe_op op_sub (pe_ix (r:=rIx K) ix_seq (pv 13) pe_int (fun _ _=>rfl)) (pe_ix (r:=rIx K) ix_seq (pv 4) (pe_ix (r:=rIx K) ix_seq (pv 13) pe_int (fun _ _=>rfl)) (fun _ _=>rfl))) (pa_cons (pe_ix (r:=rIx K) ix_seq (pv 14) pe_int (fun _ _=>rfl)) (pa_cons (pe_op op_sub (pe_ix (r:=rIx K) ix_seq (pv 14) pe_int (fun _ _=>rfl)) (pe_ix (r:=rIx K) ix_seq (pv 4) (pe_ix (r:=rIx K) ix_seq (pv 14) pe_int (fun _ _=>rfl)) (fun _ _=>rfl))) pa_nil))))) pa_nil)))) pss_nil))))))
   (pss_cons (ps_set (i:=15) scLaw.nd rfl (by first|exact Or.inl rfl|exact Or.inr rfl) (pe_callK GOd hr5 rfl mOd FOd.kp kbO pass0 (pa_cons (pv 5) (pa_cons (pv 10) pa_nil)) (pk_cons (pv 3) pk_nil)))
   (pss_cons (ps_if (PW.pt (pw_or (pt_cmpR op_ne (pe_ix (r:=rIx K) ix_seq (pv 15) pe_int (fun _ _=>rfl)) pe_str (nomark _)) (pw_or1 (pt_not (pt_val (pe_callB (call_allB rfl) (by rfl) T.all bt_all (pa_cons (pe_comp (g:=gName 0) (own:=["_law_lane"]) (js:=[15,4]) (N':=["_law_lane","_law_told","_law_row"]) (CompScope.of (osc:=defScope (top 32)) (N:=NL) rfl rfl ⟨rfl,by decide +kernel,by decide +kernel,by decide +kernel,rfl,by decide +kernel⟩) rfl (pi_range1 rfl T.range (pa_cons (pv 2) pa_nil)) (fun _ _ _ _ _=>(pg_name (i:=0) (show List.Nodup (["_law_lane","_law_told","_law_row"]:List Str) by decide +kernel) rfl (Or.inl rfl) (Or.inr rfl))) (fun _ _ _ _ _=>pifs_nil) (fun _ _ _ _ _=>pe_chain op_le op_le pe_int (pe_ix (r:=rIx K) ix_seq (pe_ix (r:=rIx K) ix_seq (pv 1) pe_int (fun _ _=>rfl)) (pv 0) (fun _ _=>rfl)) (pe_ix (r:=rIx K) ix_seq (pv 2) (pv 0) (fun _ _=>rfl)))) pa_nil))))))) (pss_one ps_never) pss_nil)
   (pss_cons (ps_setComp (i:=16) (g:=gTup K 2 (gCons (gName 0) (gCons (gName 1) gNil))) (own:=["_law_lane","_law_event"]) (js:=[]) (N':=["_law_lane","_law_event"]) (CompScope.of (osc:=defScope (top 32)) (N:=NL) rfl rfl ⟨rfl,by decide +kernel,by decide +kernel,by decide +kernel,rfl,by decide +kernel⟩) rfl scLaw.nd rfl rfl (pi_list (pe_ix (r:=rIx K) ix_seq (pv 15) pe_int (fun _ _=>rfl))) (fun _ _ _ _ _=>(pg_tup rfl (pgs_cons (pg_name (i:=0) (show List.Nodup (["_law_lane","_law_event"]:List Str) by decide +kernel) rfl (Or.inl rfl) (Or.inr rfl)) (pgs_cons (pg_name (i:=1) (show List.Nodup (["_law_lane","_law_event"]:List Str) by decide +kernel) rfl (Or.inl rfl) (Or.inr rfl)) pgs_nil)))) (fun _ _ _ _ _=>pifs_nil) (fun _ _ _ _ _=>(pe_ix (r:=rIx K) ix_seq (pe_ix (r:=rIx K) ix_seq (pv 1) pe_int (fun _ _=>rfl)) pe_int (fun _ _=>rfl))))
   (pss_cons (ps_if (pt_cmpR (r:=rNeL K) (op_neL hr.units) (pe_callB call_sortedL (by rfl) hso bt_sorted (pa_cons (pv 16) pa_nil)) (pe_callTy (call_listR rfl) (by rfl) T.list bt_list (pa_cons (pe_callTy call_rangeO (by rfl) T.range bt_range (pa_cons (pe_callB call_len_seq (by rfl) T.len bt_len (pa_cons (pv 6) pa_nil)) pa_nil)) pa_nil)) (nomark _)) (pss_one ps_never) pss_nil)
   (pss_cons (ps_for PassesOwn.never rfl (pi_list (pv 10)) (pg_tup rfl (pgs_cons (pg_name (i:=13) scLaw.nd rfl (by first|exact Or.inl rfl|exact Or.inr rfl)) (pgs_cons (pg_name (i:=17) scLaw.nd rfl (by first|exact Or.inl rfl|exact Or.inr rfl)) (pgs_cons (pg_name (i:=14) scLaw.nd rfl (by first|exact Or.inl rfl|exact Or.inr rfl)) (pgs_cons (pg_name (i:=18) scLaw.nd rfl (by first|exact Or.inl rfl|exact Or.inr rfl)) pgs_nil)))))
   (pss_one (ps_if (pt_not (pt_cmpR op_lt (pe_op op_add (pv 17) (pe_ix (r:=rIx K) ix_seq (pe_ix (r:=rIx K) ix_seq (pv 15) pe_int (fun _ _=>rfl)) (pv 13) (fun _ _=>rfl))) (pe_op op_add (pv 18) (pe_ix (r:=rIx K) ix_seq (pe_ix (r:=rIx K) ix_seq (pv 15) pe_int (fun _ _=>rfl)) (pv 14) (fun _ _=>rfl))) (nomark _))) (pss_one ps_never) pss_nil)))
   (pss_cons (ps_set (i:=19) scLaw.nd rfl (by first|exact Or.inl rfl|exact Or.inr rfl) (pe_call GTo hr2 rfl DTo.mg DTo.F.kp DTo.b .nil pass0 (pa_cons (pv 10) pa_nil)))
   (pss_cons (ps_if (PW.pt (pw_or (pt_cmpR op_isnotB (pe_callK GMe hr3 rfl mMe FMe.kp kbM pass0 (pa_cons (pv 2) (pa_cons (pv 19) (pa_cons (pv 4) pa_nil))) (pk_cons (pv 3) pk_nil)) pe_bl (nomark _)) (pw_or1 (pt_cmpR op_notN (pe_callK GRi hr3 rfl mRi FRi.kp kbR pass0 (pa_cons (pv 2) (pa_cons (pv 19) pa_nil)) (pk_cons (pv 3) pk_nil)) pe_non (nomark _))))) (pss_one ps_never) pss_nil)
   (pss_cons (ps_setComp (i:=20) (g:=gTup K 2 (gCons (gName 0) (gCons (gName 1) gNil))) (own:=["_law_lane","_law_thing"]) (js:=[]) (N':=["_law_lane","_law_thing"]) (CompScope.of (osc:=defScope (top 32)) (N:=NL) rfl rfl ⟨rfl,by decide +kernel,by decide +kernel,by decide +kernel,rfl,by decide +kernel⟩) rfl scLaw.nd rfl rfl (pi_list (pe_call GMg hr4 rfl mMg kMg bMg .nil pass0 (pa_cons (pv 5) (pa_cons (pv 4) pa_nil)))) (fun _ _ _ _ _=>(pg_tup rfl (pgs_cons (pg_name (i:=0) (show List.Nodup (["_law_lane","_law_thing"]:List Str) by decide +kernel) rfl (Or.inl rfl) (Or.inr rfl)) (pgs_cons (pg_name (i:=1) (show List.Nodup (["_law_lane","_law_thing"]:List Str) by decide +kernel) rfl (Or.inl rfl) (Or.inr rfl)) pgs_nil)))) (fun _ _ _ _ _=>pifs_nil) (fun _ _ _ _ _=>pv 1))
   (pss_one (ps_ret (pe_call GS hr5 rfl DS.mg DS.F.kp DS.b .nil pass0 (pa_cons (pv 20) (pa_cons (pe_comp (g:=gName 0) (own:=["_law_step"]) (js:=[5]) (N':=["_law_step","_law_rows"]) (CompScope.of (osc:=defScope (top 32)) (N:=NL) rfl rfl ⟨rfl,by decide +kernel,by decide +kernel,by decide +kernel,rfl,by decide +kernel⟩) rfl (pi_range1 rfl T.range (pa_cons (pe_callB call_len_seq (by rfl) T.len bt_len (pa_cons (pv 6) pa_nil)) pa_nil)) (fun _ _ _ _ _=>(pg_name (i:=0) (show List.Nodup (["_law_step","_law_rows"]:List Str) by decide +kernel) rfl (Or.inl rfl) (Or.inr rfl))) (fun _ _ _ _ _=>pifs_nil) (fun _ _ _ _ _=>(pe_call GEo hr1 rfl DEo.mg DEo.F.kp DEo.b .nil pass0 (pa_cons (pv 1) (pa_cons (pv 0) pa_nil))))) pa_nil))))))))))))))))))))))),?_⟩
  have z0:0≤sizeLine:=by decide
  have tb0:TabI H Tt qM [lPos lamM]:=⟨ps,hTb,tri,fun lp m=>by cases List.mem_singleton.mp m;exact .inl cn⟩
  refine ⟨_,rfl,sa,ss,rfl,hS,hlen,fun p dc H0 D0 s0 _=>?_⟩
  have tb:=tb0.same s0
  clear tb0 s0
  refine ⟨_,rfl,p,dc,_,rfl,D0,by decide,by decide,fun r H2 r0 r1 D2 b2=>⟨_,_,rfl,rfl,?_⟩⟩
  have tb:=tb.but D0 b2
  obtain ⟨n,en⟩:=Int.eq_ofNat_of_zero_le (show 0≤1+r by omega)
  dsimp only
  rw [en]
  have n1:1≤n:=by omega
  have n6:n≤6:=by omega
  clear r0 r1 en b2 D0
  refine seq_by (fun σ' H'=>∃ tp:Int,σ'=[some (.ref sa),some (.ref p),some (.int n),some (.int tp),none,none,none,none,none,none,none,none,none,none,none,none,none,none,none,none,none]/\0≤tp/\tp≤99999/\Dr H' p dc/\TabI H' Tt qM [lPos lamM]) ?nx1 fun N hN=>?st1
  case st1=>
   refine ⟨_,rfl,by decide,fun l hl=>⟨p,dc,l,_,rfl,D2.new hl,SqL.of upd_same,by simp,by simp,fun x H3 hx D3 b3=>?_⟩⟩
   have hx:∃ t:Int,x=.int t/\0≤t/\t≤99999:=by
    simp only [List.mem_cons,List.not_mem_nil,or_false] at hx
    rcases hx with rfl|rfl|rfl
    ·exact ⟨10,rfl,by decide,by decide⟩
    ·exact ⟨500,rfl,by decide,by decide⟩
    ·exact ⟨99999,rfl,by decide,by decide⟩
   obtain ⟨t,rfl,t0,t1⟩:=hx
   exact hN _ _ ⟨t,rfl,t0,t1,D3,(tb.same (Same.new hl)).but (D2.new hl) b3⟩
  rintro σ' H3 ⟨tp,rfl,t0,t1,D3,tb⟩
  clear D2
  refine seq_by (fun σ' H'=>∃ (rq:Addr) (ns:List Int),σ'=[some (.ref sa),some (.ref p),some (.int n),some (.int tp),some (.ref rq),none,none,none,none,none,none,none,none,none,none,none,none,none,none,none,none]/\H' rq=some (.lst (ns.map V.int))/\ns.length=n/\(∀ i,i<n->0≤ns.getD i 0/\ns.getD i 0≤tp)/\rq≠dc/\Dr H' p dc/\TabI H' Tt qM [lPos lamM]) ?nx2 fun N hN=>?st2
  case st2=>
   refine ⟨_,rfl,_,rfl,by omega,by omega,?_⟩
   refine comp_range (n:=n) (fun i ys σ' H'=>(∃ v,σ'=[v,some (.ref p),some (.int tp)])/\Dr H' p dc/\TabI H' Tt qM [lPos lamM]/\∃ ns:List Int,ys=ns.map V.int/\∀ j,j<i->0≤ns.getD j 0/\ns.getD j 0≤tp) (Nat.le_trans n6 (by decide)) ⟨⟨none,rfl⟩,D3,tb,[],rfl,fun j h=>by omega⟩ ?_ ?_
   ·rintro i ys σ' H4 hi hy ⟨⟨v,rfl⟩,D4,tb4,ns,rfl,hn⟩ M hM
    rw [List.length_map] at hy
    dsimp only [gName]
    refine ⟨_,rfl,_,rfl,_,_,rfl,rfl,p,dc,_,rfl,D4,by omega,by omega,fun r H5 r0 r1 D5 b5=>?_⟩
    refine hM _ _ _ (by rw [List.length_append,List.length_map,hy];rfl) ⟨⟨_,rfl⟩,D5,tb4.but D4 b5,ns++[r],by rw [List.map_append];rfl,fun j hj=>?_⟩
    by_cases q:j<i
    ·rw [getD_l (by omega)];exact hn j q
    ·obtain rfl:j=i:=by omega
     rw [getD_r hy];omega
   ·rintro ys σ' H4 hy ⟨⟨v,rfl⟩,D4,tb4,ns,rfl,hn⟩
    rw [List.length_map] at hy
    refine ⟨by rw [List.length_map,hy];exact Nat.le_trans n6 (by decide),fun l hl=>?_⟩
    obtain ⟨cx,hcx⟩:=D4.cell
    exact hN _ _ ⟨l,ns,rfl,upd_same,hy,hn,(fun e=>by rw [e,hcx] at hl;cases hl),D4.new hl,tb4.same (Same.new hl)⟩
  rintro σ' H4 ⟨rq,ns,rfl,hrq,nl,hn,rdc,D4,tb⟩
  clear D3
  refine seq_by (fun σ' H'=>∃ (q:Addr) (as:List Addr),σ'=[some (.ref sa),some (.ref p),some (.int n),some (.int tp),some (.ref rq),some (.ref q),none,none,none,none,none,none,none,none,none,none,none,none,none,none,none]/\Same H4 H'/\H' q=some (.lst (as.map V.ref))/\as.length=n/\as.Nodup/\(∀ a∈as,H' a=some (.lst [])/\H4 a=none)/\q∉as/\H4 q=none) ?nx3 fun N hN=>?st3
  case st3=>
   refine ⟨_,rfl,_,rfl,by omega,by omega,?_⟩
   refine comp_range (n:=n) (fun i ys σ' H'=>(∃ v,σ'=[v])/\Same H4 H'/\∃ as:List Addr,ys=as.map V.ref/\as.Nodup/\∀ a∈as,H' a=some (.lst [])/\H4 a=none) (Nat.le_trans n6 (by decide)) ⟨⟨none,rfl⟩,Same.refl _,[],rfl,.nil,fun a h=>by simp at h⟩ ?_ ?_
   ·rintro i ys σ' H5 hi hy ⟨⟨v,rfl⟩,s5,as,rfl,nd,ha⟩ M hM
    dsimp only [gName]
    refine ⟨z0,fun l hl=>hM _ _ _ (by rw [List.length_append,hy];rfl) ⟨⟨_,rfl⟩,s5.trans (Same.new hl),as++[l],by rw [List.map_append];rfl,?_,fun a h=>?_⟩⟩
    ·rw [List.nodup_append]
     refine ⟨nd,by simp,fun a h b hb e=>?_⟩
     simp at hb
     subst hb
     have:=(ha _ h).1
     rw [e,hl] at this
     cases this
    ·rcases List.mem_append.mp h with h|h
     ·exact ⟨Same.new hl _ _ (ha a h).1,(ha a h).2⟩
     ·simp at h
      subst h
      exact ⟨upd_same,s5.free hl⟩
   ·rintro ys σ' H5 hy ⟨⟨v,rfl⟩,s5,as,rfl,nd,ha⟩
    rw [List.length_map] at hy
    refine ⟨by rw [List.length_map,hy];exact Nat.le_trans n6 (by decide),fun l hl=>?_⟩
    refine hN _ _ ⟨l,as,rfl,s5.trans (Same.new hl),upd_same,hy,nd,fun a h=>⟨Same.new hl _ _ (ha a h).1,(ha a h).2⟩,fun h=>?_,s5.free hl⟩
    rw [(ha l h).1] at hl
    cases hl
  rintro σ' H5 ⟨q,as,rfl,s5,hq,al,nd,ha,qas,nq⟩
  have hrq0:=hrq
  have hrq:=s5 _ _ hrq
  have D5:=D4.mono s5
  have tb:=tb.same s5
  refine ⟨z0,fun tq htq=>⟨_,rfl,_,_,rfl,rfl,?_⟩⟩
  have s6:Same H5 (upd H5 tq (.lst [])):=Same.new htq
  have S:SepA q rq tq dc as:=by
   obtain ⟨cx,hcx⟩:=D4.cell
   refine ⟨qas,fun h=>?_,fun h=>?_,fun h=>?_,fun e=>?_,fun e=>?_,fun e=>?_⟩
   ·have:=(ha _ h).2
    rw [hrq0] at this
    cases this
   ·have:=(ha _ h).1
    rw [htq] at this
    cases this
   ·have:=(ha _ h).2
    rw [hcx] at this
    cases this
   ·rw [← e,hq] at htq
    cases htq
   ·rw [← e,hrq] at htq
    cases htq
   ·rw [← e,s5 _ _ hcx] at htq
    cases htq
  have T0:TP n tp ns []:=⟨nl,⟨t0,t1⟩,hn,fun k h=>by simp at h,fun i j _ h=>by simp at h,fun k h=>by simp at h,by decide⟩
  have W0:TW (upd H5 tq (.lst [])) ns q rq tq as [] [] []:=⟨s6 _ _ hq,nd,fun l a e=>s6 _ _ (ha a (List.mem_of_getElem? e)).1,rfl,fun k h=>by simp at h,s6 _ _ hrq,upd_same,rfl,fun k a e=>by simp at e⟩
  have D6:=D5.mono s6
  have tb:=tb.same s6
  generalize upd H5 tq (.lst [])=H6 at s6 W0 D6 tb ⊢
  clear s6 s5 D4 D5 ha hq hrq hrq0 nq htq qas rdc nd
  dsimp only [gName,List.set]
  refine seq_by (fun σ' H'=>∃ v7 v8 v9 tr ad ts,σ'=[some (.ref sa),some (.ref p),some (.int n),some (.int tp),some (.ref rq),some (.ref q),some (.ref tq),v7,v8,v9,none,none,none,none,none,none,none,none,none,none,none]/\TW H' ns q rq tq as tr ad ts/\TP n tp ns tr/\Dr H' p dc/\TabI H' Tt qM [lPos lamM]) ?nx4 fun N hN=>?st4
  case st4=>
   refine ⟨_,rfl,p,dc,_,rfl,D6,by decide,by decide,fun r H7 r0 r1 D7 b7=>?_⟩
   have W7:=W0.but D6 b7
   have tb7:=tb.but D6 b7
   refine ⟨_,rfl,by omega,by omega,for_range (n:=r.toNat) (fun i σ' H'=>∃ now v8 v9 tr ad ts,σ'=[some (.ref sa),some (.ref p),some (.int n),some (.int tp),some (.ref rq),some (.ref q),some (.ref tq),some (.int now),v8,v9,none,none,none,none,none,none,none,none,none,none,none]/\TW H' ns q rq tq as tr ad ts/\TP n tp ns tr/\tr.length=i/\(∀ j,j<i->nowK tr j≤now)/\tp+1≤now/\now≤tp+1+4*(i:Int)/\Dr H' p dc/\TabI H' Tt qM [lPos lamM]) ⟨_,none,none,[],[],[],rfl,W7,T0,rfl,fun j h=>by omega,by omega,by omega,D7,tb7⟩ ?_ ?_⟩
   ·rintro i σ' H8 hi ⟨now,v8,v9,tr,ad,ts,rfl,W,T',tl,hnow,lo,up,D8,tb8⟩
    dsimp only [gName]
    refine ⟨_,rfl,_,_,rfl,rfl,_,rfl,p,dc,_,rfl,D8,by decide,by decide,fun r2 H9 r3 r4 D9 b9=>⟨_,_,rfl,rfl,?_⟩⟩
    have W:=W.but D8 b9
    have tb9:=tb8.but D8 b9
    refine ⟨_,rfl,_,rfl,p,dc,_,rfl,D9,by omega,by omega,fun l H10 l0 l1 D10 b10=>?_⟩
    have W:=W.but D9 b10
    have tb10:=tb9.but D9 b10
    obtain ⟨l,rfl⟩:=Int.eq_ofNat_of_zero_le l0
    have hl:l<as.length:=by omega
    have ea:=List.getElem?_eq_getElem hl
    generalize as[l]=a at ea
    have ma:a∈as:=List.mem_of_getElem? ea
    have hra:=W.row l a ea
    have sl:=steps_len (tr:=tr) (l:=l)
    have eq5:atI (as.map V.ref) (l:Int)=some (.ref a):=atI_nat (j:=l) (by rw [List.getElem?_map,ea];rfl)
    refine EvE.op (EvE.var rfl) (EvE.var rfl) (EvR.ixL (SqL.of W.hq) eq5) _ ?_
    refine ⟨.inl ⟨rfl,_,SqL.of hra⟩,?_⟩
    refine EvE.op (EvE.var rfl) (EvE.var rfl) (EvR.ixL (SqL.of W.hq) eq5) _ ⟨a,_,rfl,.inl (SqL.of hra),?_⟩
    refine EvE.op (EvE.var rfl) (EvE.op (EvE.var rfl) (EvE.var rfl) (EvR.ixL (SqL.of W.hr) (row_at (by omega) (by omega)))) EvR.i0 _ ?_
    refine ⟨_,rfl,(by show 1≤sizeLine;decide),fun ps hps=>⟨(by show 5≤sizeLine;decide),fun pe hpe=>?_⟩⟩
    rw [List.length_map,Int.toNat_natCast]
    have sA:Same H10 (upd H10 ps (.tup [.int (0+(i:Int))])):=Same.new hps
    have e1:upd H10 ps (.tup [.int (0+(i:Int))]) ps=some (.tup [.int tr.length]):=by rw [upd_same,Int.zero_add,tl]
    generalize upd H10 ps (.tup [.int (0+(i:Int))])=HA at sA e1 hpe ⊢
    generalize hev:(HO.tup [.str "event",.int ((stepsOf tr l).length:Nat),.int (now+1+r2-ns.getD l 0),.str "ab",.ref ps])=evO
    have sB:Same HA (upd HA pe evO):=Same.new hpe
    have e2:upd HA pe evO pe=some evO:=upd_same
    generalize upd HA pe evO=HB at sB e2 ⊢
    have hraB:=sB _ _ (sA _ _ hra)
    refine ⟨a,_,_,rfl,rfl,hraB,Nat.lt_of_le_of_lt (show _≤40 by rw [List.length_map];omega) (by decide),?_⟩
    have at_:a≠tq:=fun e=>S.nt (e ▸ ma)
    have kC:∀ b u,HB b=some u->b≠a->(upd HB a (.lst ((stepsOf tr l).map (fun k=>V.ref (adE ad k))++[.ref pe]))) b=some u:=fun b u e ne=>by rw [upd_ne ne];exact e
    have e3:(upd HB a (.lst ((stepsOf tr l).map (fun k=>V.ref (adE ad k))++[.ref pe]))) a=some (.lst ((stepsOf tr l).map (fun k=>V.ref (adE ad k))++[.ref pe])):=upd_same
    have DB':=((D10.mono sA).mono sB)
    have DC':Dr (upd HB a (.lst ((stepsOf tr l).map (fun k=>V.ref (adE ad k))++[.ref pe]))) p dc:=DB'.put (DB'.ne hraB (by intro _ z;cases z)) (fun e=>S.nd (e ▸ ma))
    generalize (upd HB a (.lst ((stepsOf tr l).map (fun k=>V.ref (adE ad k))++[.ref pe])))=HC at kC e3 DC' ⊢
    have htC:HC tq=some (.lst (ts.map V.ref)):=kC _ _ (sB _ _ (sA _ _ W.ht)) (Ne.symm at_)
    refine ⟨_,rfl,.inl ⟨rfl,_,SqL.of htC⟩,_,rfl,_,rfl,(by show 2≤sizeLine;decide),fun pt hpt=>?_⟩
    have sD:Same HC (upd HC pt (.tup [.int l,.int (now+1+r2)])):=Same.new hpt
    have e4:upd HC pt (.tup [.int l,.int (now+1+r2)]) pt=some (.tup [.int l,.int (now+1+r2)]):=upd_same
    generalize upd HC pt (.tup [.int l,.int (now+1+r2)])=HD at sD e4 ⊢
    refine ⟨tq,_,_,rfl,rfl,sD _ _ htC,Nat.lt_of_le_of_lt (show _≤40 by rw [List.length_map,W.tl];omega) (by decide),?_⟩
    have ntq:∀ b u,HD b=some u->(∀ xs,u≠.lst xs)->b≠tq:=fun b u e ne z=>by
     rw [z,sD _ _ htC] at e
     cases e
     exact ne _ rfl
    have na:∀ b u,HB b=some u->(∀ xs,u≠.lst xs)->b≠a:=fun b u e ne z=>by
     rw [z,hraB] at e
     cases e
     exact ne _ rfl
    have W':=W.push (H':=upd HD tq (.lst (ts.map V.ref++[.ref pt]))) (l:=l) (now:=now+1+r2) (pe:=pe) (ps:=ps) (pt:=pt) S ea (fun b u e n1 n2=>by rw [upd_ne n2];exact sD _ _ (kC _ _ (sB _ _ (sA _ _ e)) n1)) (by rw [upd_ne at_];exact sD _ _ e3) upd_same
     (by
      have e5:=sD _ _ (kC _ _ e2 (na _ _ e2 (by rw [← hev];intro _ z;cases z)))
      rw [upd_ne (ntq _ _ e5 (by rw [← hev];intro _ z;cases z)),e5,hev])
     (by
      have e5:=sD _ _ (kC _ _ (sB _ _ e1) (na _ _ (sB _ _ e1) (by intro _ z;cases z)))
      rw [upd_ne (ntq _ _ e5 (by intro _ z;cases z)),e5])
     (by rw [upd_ne (ntq _ _ e4 (by intro _ z;cases z)),e4])
    have DD':=DC'.mono sD
    refine ⟨now+1+r2,_,_,_,_,_,rfl,W',T'.push (by omega) (fun j hj=>by have:=hnow j (by omega);omega) (by omega) (by rw [tl];omega) (by omega),by rw [List.length_append,tl];rfl,fun j hj=>?_,by omega,by omega,DD'.put (DD'.ne (sD _ _ htC) (by intro _ z;cases z)) (Ne.symm S.dt),?_⟩
    ·by_cases q:j<tr.length
     ·rw [nowK_old q]
      have:=hnow j (by omega)
      omega
     ·obtain rfl:j=tr.length:=by omega
      rw [nowK_new]
      exact Int.le_refl _
    ·refine tab_lst tb10 fun b u e ne=>?_
     have e5:=sB _ _ (sA _ _ e)
     have e6:=sD _ _ (kC _ _ e5 (na _ _ e5 ne))
     rw [upd_ne (ntq _ _ e6 ne)]
     exact e6
   ·rintro σ' H8 ⟨now,v8,v9,tr,ad,ts,rfl,W,T',tl,hnow,lo,up,D8,tb8⟩
    exact hN _ _ ⟨_,_,_,tr,ad,ts,rfl,W,T',D8,tb8⟩
  rintro σ' H7 ⟨v7,v8,v9,tr,ad,ts,rfl,W,T',D7,tb⟩
  clear W0 T0 D6
  have few:=T'.few
  refine ⟨z0,fun cq hcq=>?_⟩
  have ncq:∀ b u,H7 b=some u->b≠cq:=fun b u e z=>by rw [z,hcq] at e;cases e
  have ncd:cq≠dc:=by
   obtain ⟨cx,hcx⟩:=D7.cell
   exact Ne.symm (ncq _ _ hcx)
  have c8:upd H7 cq (.lst []) cq=some (.lst []):=upd_same
  have s8:Same H7 (upd H7 cq (.lst [])):=Same.new hcq
  generalize upd H7 cq (.lst [])=H8 at c8 s8 ⊢
  have W8:=W.same s8
  have D8:=D7.mono s8
  have tb8:=tb.same s8
  have cqn:cq≠q/\cq≠rq/\cq≠tq/\cq∉as:=⟨Ne.symm (ncq _ _ W.hq),Ne.symm (ncq _ _ W.hr),Ne.symm (ncq _ _ W.ht),fun h=>by
   obtain ⟨l,hl⟩:=List.getElem?_of_mem h
   exact ncq _ _ (W.row l _ hl) rfl⟩
  dsimp only [gName,List.set]
  refine seq_by (fun σ' H'=>∃ v8 v11 v12 v13 v14 xs cs,σ'=[some (.ref sa),some (.ref p),some (.int n),some (.int tp),some (.ref rq),some (.ref q),some (.ref tq),v7,v8,v9,some (.ref cq),v11,v12,v13,v14,none,none,none,none,none,none]/\TW H' ns q rq tq as tr ad ts/\H' cq=some (.lst xs)/\Paired (CauAt H') xs cs/\(∀ c∈cs,CauP ns tr c)/\cs.length≤20/\Dr H' p dc/\TabI H' Tt qM [lPos lamM]) ?nx5 fun N hN=>?st5
  case st5=>
   refine ⟨_,rfl,p,dc,_,rfl,D8,by decide,by decide,fun r H9 r0 r1 D9 b9=>?_⟩
   have W9:=W8.but D8 b9
   have tb9:=tb8.but D8 b9
   have c9:=b9 _ _ c8 (D8.ne c8 (by intro _ z;cases z))
   refine ⟨_,rfl,tq,_,rfl,.inl (SqL.of W9.ht),_,_,rfl,rfl,.inr ⟨_,rfl,?_⟩⟩
   rw [List.length_map,W9.tl]
   have hJ:∃ m:Nat,r*(if decide ((1:Int)<tr.length)=true then 1 else 0)=m/\m≤20/\(0<m->1<tr.length):=by
    by_cases z:(1:Int)<tr.length
    ·rw [if_pos (decide_eq_true z),Int.mul_one]
     exact ⟨r.toNat,by omega,by omega,fun _=>by omega⟩
    ·rw [if_neg (by simpa using z),Int.mul_zero]
     exact ⟨0,rfl,by omega,fun z=>by omega⟩
   obtain ⟨m,em,m20,mt⟩:=hJ
   refine ⟨_,_,rfl,rfl,.inl ⟨by omega,by omega⟩,?_⟩
   refine ⟨m,congrArg (fun z=>[V.int z]) em,by omega,by omega,?_⟩
   refine for_range (n:=(m:Int).toNat) (fun i σ' H'=>∃ v8 v11 v12 v13 v14 xs cs,σ'=[some (.ref sa),some (.ref p),some (.int n),some (.int tp),some (.ref rq),some (.ref q),some (.ref tq),v7,v8,v9,some (.ref cq),v11,v12,v13,v14,none,none,none,none,none,none]/\TW H' ns q rq tq as tr ad ts/\H' cq=some (.lst xs)/\Paired (CauAt H') xs cs/\(∀ c∈cs,CauP ns tr c)/\cs.length≤i/\Dr H' p dc/\TabI H' Tt qM [lPos lamM]) ⟨_,none,none,none,none,[],[],rfl,W9,c9,.nil,fun c h=>by simp at h,Nat.le_refl _,D9,tb9⟩ ?_ ?_
   ·rintro i σ' H10 hi ⟨v8,v11,v12,v13,v14,xs,cs,rfl,W,hc,pc,cp,cl,D10,tb⟩
    have tl2:=mt (by omega)
    dsimp only [gName]
    have tlen:((ts.map V.ref).length:Int)=tr.length:=by rw [List.length_map,W.tl]
    refine ⟨_,rfl,_,rfl,tq,_,rfl,.inl (SqL.of W.ht),_,_,rfl,rfl,p,dc,_,rfl,D10,by omega,by omega,fun x1 H11 x0 x2 D11 b11=>?_⟩
    have W:=W.but D10 b11
    have tb:=tb.but D10 b11
    have hc:=b11 _ _ hc (D10.ne hc (by intro _ z;cases z))
    have pc:=caus_but D10 b11 pc
    refine ⟨_,rfl,_,_,rfl,rfl,_,rfl,_,rfl,tq,_,rfl,.inl (SqL.of W.ht),_,_,rfl,rfl,_,rfl,_,_,rfl,rfl,p,dc,_,rfl,D11,by omega,by omega,fun y1 H12 y0 y2 D12 b12=>?_⟩
    have W:=W.but D11 b12
    have tb:=tb.but D11 b12
    have hc:=b12 _ _ hc (D11.ne hc (by intro _ z;cases z))
    have pc:=caus_but D11 b12 pc
    clear D10 D11 b11 b12
    refine ⟨_,_,rfl,rfl,?_⟩
    obtain ⟨a1,rfl⟩:=Int.eq_ofNat_of_zero_le x0
    obtain ⟨b1,hb1⟩:=Int.eq_ofNat_of_zero_le (show 0≤(a1:Int)+1+y1 by omega)
    dsimp only
    rw [hb1]
    have ab:a1<b1:=by omega
    have bl:b1<tr.length:=by omega
    have hA:a1<ts.length:=by rw [W.tl];omega
    have hB:b1<ts.length:=by rw [W.tl];omega
    have ea:=List.getElem?_eq_getElem hA
    have eb:=List.getElem?_eq_getElem hB
    generalize ts[a1]=pa at ea
    generalize ts[b1]=pb at eb
    have ha:=W.tt _ _ ea
    have hb:=W.tt _ _ eb
    have ea':atI (ts.map V.ref) (a1:Int)=some (.ref pa):=atI_nat (j:=a1) (by rw [List.getElem?_map,ea];rfl)
    have eb':atI (ts.map V.ref) (b1:Int)=some (.ref pb):=atI_nat (j:=b1) (by rw [List.getElem?_map,eb];rfl)
    have la:=T'.lane a1 (by omega)
    have lb:=T'.lane b1 bl
    refine EvE.op (EvE.var rfl) (EvE.var rfl) (EvR.ixL (SqL.of W.ht) ea') _ ?_
    refine EvE.op (EvE.var rfl) (EvE.var rfl) (EvR.ixL (SqL.of W.ht) eb') _ ?_
    refine ⟨_,_,rfl,?_⟩
    dsimp only [List.set]
    refine EvE.op (EvE.op (EvE.var rfl) EvE.con (EvR.ixT (SqT.of ha) (atI_nat (j:=0) rfl))) (EvE.op (EvE.var rfl) EvE.con (EvR.ixT (SqT.of hb) (atI_nat (j:=0) rfl))) (EvR.ne rfl) _ ⟨_,rfl,?_⟩
    refine ite2 (fun z=>?_) (fun z=>?_)
    ·have z':laneK tr a1≠laneK tr b1:=fun e=>by rw [e] at z;simp at z
     refine ⟨_,rfl,.inl ⟨rfl,_,SqL.of hc⟩,?_⟩
     refine EvE.op (EvE.var rfl) EvE.con (EvR.ixT (SqT.of ha) (atI_nat (j:=0) rfl)) _ ?_
     refine EvE.op (EvE.op (EvE.var rfl) EvE.con (EvR.ixT (SqT.of ha) (atI_nat (j:=1) rfl))) (EvE.op (EvE.var rfl) (EvE.op (EvE.var rfl) EvE.con (EvR.ixT (SqT.of ha) (atI_nat (j:=0) rfl))) (EvR.ixL (SqL.of W.hr) (row_at (by omega) (by omega)))) EvR.i0 _ ?_
     refine EvE.op (EvE.var rfl) EvE.con (EvR.ixT (SqT.of hb) (atI_nat (j:=0) rfl)) _ ?_
     refine EvE.op (EvE.op (EvE.var rfl) EvE.con (EvR.ixT (SqT.of hb) (atI_nat (j:=1) rfl))) (EvE.op (EvE.var rfl) (EvE.op (EvE.var rfl) EvE.con (EvR.ixT (SqT.of hb) (atI_nat (j:=0) rfl))) (EvR.ixL (SqL.of W.hr) (row_at (by omega) (by omega)))) EvR.i0 _ ?_
     refine ⟨(by show 4≤sizeLine;decide),fun pe hpe=>?_⟩
     rw [Int.toNat_natCast,Int.toNat_natCast]
     have xl:=Paired.length pc
     have s13:Same H12 (upd H12 pe (.tup [.int (laneK tr a1),.int (nowK tr a1-ns.getD (laneK tr a1) 0),.int (laneK tr b1),.int (nowK tr b1-ns.getD (laneK tr b1) 0)])):=Same.new hpe
     have e13:(upd H12 pe (.tup [.int (laneK tr a1),.int (nowK tr a1-ns.getD (laneK tr a1) 0),.int (laneK tr b1),.int (nowK tr b1-ns.getD (laneK tr b1) 0)])) pe=some (.tup [.int (laneK tr a1),.int (nowK tr a1-ns.getD (laneK tr a1) 0),.int (laneK tr b1),.int (nowK tr b1-ns.getD (laneK tr b1) 0)]):=upd_same
     generalize (upd H12 pe (.tup [.int (laneK tr a1),.int (nowK tr a1-ns.getD (laneK tr a1) 0),.int (laneK tr b1),.int (nowK tr b1-ns.getD (laneK tr b1) 0)]))=H13 at s13 e13 ⊢
     have W:=W.same s13
     have hc:=s13 _ _ hc
     have D13:=D12.mono s13
     refine ⟨cq,_,_,rfl,rfl,hc,Nat.lt_of_le_of_lt (show _≤20 by omega) (by decide),?_⟩
     have kq:∀ b u,H13 b=some u->(∀ xs,u≠.lst xs)->upd H13 cq (.lst (xs++[.ref pe])) b=some u:=fun b u e ne=>by
      rw [upd_ne]
      ·exact e
      ·intro z
       rw [z,hc] at e
       cases e
       exact ne _ rfl
     refine ⟨_,_,_,_,_,xs++[.ref pe],cs++[cauK ns tr a1 b1],rfl,W.put hc cqn,upd_same,?_,fun c hc'=>?_,by rw [List.length_append];exact Nat.add_le_add_right cl 1,D13.put (D13.ne hc (by intro _ z;cases z)) ncd,tab_lst (tb.same s13) kq⟩
     ·exact Paired.snoc ⟨pe,rfl,kq _ _ e13 (by intro _ z;cases z)⟩ (pd_map (fun _ _ ⟨p',e,z⟩=>⟨p',e,kq _ _ (s13 _ _ z) (by intro _ z;cases z)⟩) pc)
     ·rcases List.mem_append.mp hc' with h|h
      ·exact cp c h
      ·cases List.mem_singleton.mp h
       exact ⟨a1,b1,ab,bl,z',rfl⟩
    ·exact ⟨_,_,_,_,_,xs,cs,rfl,W,hc,pc,cp,by omega,D12,tb⟩
   ·rintro σ' H10 ⟨v8,v11,v12,v13,v14,xs,cs,rfl,W,hc,pc,cp,cl,D10,tb⟩
    exact hN _ _ ⟨_,_,_,_,_,xs,cs,rfl,W,hc,pc,cp,by omega,D10,tb⟩
  rintro σ' H9 ⟨v8,v11,v12,v13,v14,xs,cs,rfl,W9,hc,pc,cp,cl,D9,tb⟩
  clear s8 D8 W8 tb8 D7 W hcq ncq c8
  have R:=W9.rows (K:=K) T' al n6
  have okc:∀ c∈cs,OkC n c:=fun c h=>CauP.ok T' (cp c h)
  have mt:=CauP.meets T' cp
  have okt:=OkTie.of_cau T' n6 cp
  have sat:=good_sat T'.len mt okt
  obtain ⟨t,rfl⟩:=Int.eq_ofNat_of_zero_le t0
  refine seq_by (fun σ' H'=>∃ (h:Int->Int) (to la l:Addr) (vs:List V) (ps:List Prr),σ'=[some (.ref sa),some (.ref p),some (.int n),some (.int t),some (.ref rq),some (.ref q),some (.ref tq),v7,v8,v9,some (.ref cq),v11,v12,v13,v14,some (.ref to),none,none,none,none,none]/\Bf.Least (allT (cs.map tieC) n t) h/\H' to=some (.tup [.str "order",.ref la,.ref l])/\H' la=some (.lst (amV n h))/\ps.Perm ((List.range tr.length).map (evK ns tr ad))/\H' l=some (.lst vs)/\Paired (PrA H') vs ps/\KpT H9 H'/\TabI H' Tt qM [lPos lamM]) ?nx6 fun N hN=>?st6
  case st6=>
   refine ⟨_,rfl,_,rfl,_,rfl,?_⟩
   dsimp only [tNil,gV21]
   refine ⟨q,cq,t,_,xs,rsOf n ns tr ad,cs,rfl,R,by rw [rsOf_len];exact n1,SqL.of hc,pc,by rw [rsOf_len];exact okc,by omega,by omega,by omega,tb,?_,?_⟩
   ·intro h to la l vs ps H' L h1 h2 h3 h4 h5 h6 h7 h8
    rw [rsOf_len] at L h2
    exact hN _ _ ⟨h,to,la,l,vs,ps,rfl,L,h1,h2,h3.trans (evs_perm ad T'),h5,h6,h7,h8⟩
   ·intro to a zs es H' h1 h2 h3 rg h4 h5 h6 h7
    rw [rsOf_len] at h4
    exact ((show Bf.Barred _ from ⟨es,rg,h4⟩).no sat.2).elim
  rintro σ' H10 ⟨h,to,la,l,vs,ps,rfl,L,hto,hla,pp,hl,pv,k10,tb⟩
  have W:=W9.kp fun b u e ne _=>k10 b u e ne
  have hc:=k10 _ _ hc (by intro _ z;cases z)
  have pc:=caus_kp k10 pc
  clear W9 D9 k10 R
  have bd:∀ i:Nat,i<n->0≤h i/\h i≤ns.getD i 0:=fun i hi=>⟨L.nn i,good_le okt L T'.len mt hi⟩
  have rl:(rowOf n h).length=n:=by unfold rowOf;simp
  have er:(rowOf n h).map V.int=amV n h:=by unfold rowOf amV;rw [List.map_map];rfl
  rw [← er] at hla
  refine seq_by (fun σ' H'=>σ'=[some (.ref sa),some (.ref p),some (.int n),some (.int t),some (.ref rq),some (.ref q),some (.ref tq),v7,v8,v9,some (.ref cq),v11,v12,v13,v14,some (.ref to),none,none,none,none,none]/\Same H10 H') ?nx7 fun N hN=>?st7
  case st7=>
   refine EvE.op (EvE.op (EvE.var rfl) EvE.con (EvR.ixT (SqT.of hto) (atI_nat (j:=0) rfl))) EvE.con (EvR.ne rfl) _ ⟨_,rfl,ifF (by simp) ?_⟩
   refine ⟨_,rfl,_,rfl,by omega,by omega,?_⟩
   refine comp_range (n:=n) (fun i ys σ' H'=>(∃ v,σ'=[v,some (.ref to),some (.ref rq)])/\H'=H10/\ys=(List.replicate i true).map V.bl) (Nat.le_trans n6 (by decide)) ⟨⟨none,rfl⟩,rfl,rfl⟩ ?_ ?_
   ·rintro i ys σ' H' hi hy ⟨⟨v,rfl⟩,rfl,rfl⟩ M hM
    dsimp only [gName]
    refine EvE.chain EvE.con (EvE.op (EvE.op (EvE.var rfl) EvE.con (EvR.ixT (SqT.of hto) (atI_nat (j:=1) rfl))) (EvE.var rfl) (EvR.ixL (SqL.of hla) (row_at (by omega) (by rw [rl];omega)))) (EvE.op (EvE.var rfl) (EvE.var rfl) (EvR.ixL (SqL.of W.hr) (row_at (by omega) (by omega)))) EvR.i0 EvR.i0 _ ?_
    have b2:=bd i hi
    rw [show (0+(i:Int)).toNat=i by omega,rowOf_at hi,decide_eq_true b2.1,decide_eq_true b2.2]
    exact hM _ _ _ (by rw [List.length_append,hy];rfl) ⟨⟨_,rfl⟩,rfl,by rw [List.replicate_succ',List.map_append];rfl⟩
   ·rintro ys σ' H' hy ⟨⟨v,rfl⟩,rfl,rfl⟩
    refine ⟨by rw [hy];exact Nat.le_trans n6 (by decide),fun b hb=>⟨b,_,rfl,SqL.of upd_same,_,rfl,ifF (by simp) ?_⟩⟩
    exact hN _ _ ⟨rfl,Same.new hb⟩
  rintro σ' H11 ⟨rfl,s11⟩
  have W:=W.same s11
  have hc:=s11 _ _ hc
  have pc:=caus_same s11 pc
  have hto:=s11 _ _ hto
  have hla:=s11 _ _ hla
  have hl:=s11 _ _ hl
  have pv:=prs_tk (Same.tk s11) pv
  have tb:=tb.same s11
  clear s11
  obtain ⟨ks,kp,rfl⟩:=perm_lift pp
  have kl:ks.length=tr.length:=by rw [kp.length_eq,List.length_range]
  have vl:=Paired.length pv
  rw [List.length_map] at vl
  refine seq_by (fun σ' H'=>∃ (v9:Option V) (pl:Addr),σ'=[some (.ref sa),some (.ref p),some (.int n),some (.int t),some (.ref rq),some (.ref q),some (.ref tq),v7,v8,v9,some (.ref cq),v11,v12,v13,v14,some (.ref to),some (.ref pl),none,none,none,none]/\H' pl=some (.lst ((ks.map fun k:Nat=>(k:Int)).map V.int))/\Same H11 H') ?nx8 fun N hN=>?st8
  case st8=>
   refine EvE.op (EvE.var rfl) EvE.con (EvR.ixT (SqT.of hto) (atI_nat (j:=2) rfl)) _ ⟨l,rfl,⟨_,SqL.of hl⟩,?_⟩
   refine comp_list (K:=K) (a:=l) (xs:=vs) (fun i ys σ' H'=>(∃ v w,σ'=[v,w])/\H'=H11/\ys=((ks.take i).map fun k:Nat=>(k:Int)).map V.int) (Nat.le_trans (show vs.length≤40 by omega) (by decide)) ⟨⟨none,none,rfl⟩,rfl,rfl⟩ (fun i ys σ H' _ e=>by rw [e.2.1];exact SqL.of hl) ?_ ?_
   ·rintro i x ys σ' H' hi hy ⟨⟨v,w,rfl⟩,rfl,rfl⟩ M hM
    obtain ⟨y,hy',b,rfl,hb⟩:=pd_get pv hi
    rw [List.getElem?_map] at hy'
    obtain ⟨k,hk,rfl⟩:=Option.map_eq_some_iff.mp hy'
    have kt:k<tr.length:=List.mem_range.mp (kp.mem_iff.mp (List.mem_of_getElem? hk))
    obtain ⟨e1,e2⟩:=W.ev k kt
    refine ⟨b,_,rfl,SqT.of hb,rfl,_,_,rfl,_,_,rfl,rfl,?_⟩
    refine EvE.op (EvE.op (EvE.var rfl) EvE.con (EvR.ixT (SqT.of e1) (atI_nat (j:=4) rfl))) EvE.con (EvR.ixT (SqT.of e2) (atI_nat (j:=0) rfl)) _ ?_
    refine hM _ _ _ (by rw [List.length_append,hy];rfl) ⟨⟨_,_,rfl⟩,rfl,?_⟩
    rw [List.take_add_one,hk,List.map_append,List.map_append]
    rfl
   ·rintro ys σ' H' hy ⟨⟨v,w,rfl⟩,rfl,rfl⟩
    have el:ks.take vs.length=ks:=List.take_of_length_le (by omega)
    rw [el]
    refine ⟨by rw [List.length_map,List.length_map];exact Nat.le_trans (show ks.length≤40 by omega) (by decide),fun b hb=>?_⟩
    exact hN _ _ ⟨_,b,rfl,upd_same,Same.new hb⟩
  rintro σ' H12 ⟨v9,pl,rfl,hpl,s12⟩
  have W:=W.same s12
  have hc:=s12 _ _ hc
  have pc:=caus_same s12 pc
  have hto:=s12 _ _ hto
  have hla:=s12 _ _ hla
  have tb:=tb.same s12
  clear s12 hl pv
  refine seq_by (fun σ' H'=>σ'=[some (.ref sa),some (.ref p),some (.int n),some (.int t),some (.ref rq),some (.ref q),some (.ref tq),v7,v8,v9,some (.ref cq),v11,v12,v13,v14,some (.ref to),some (.ref pl),none,none,none,none]/\Same H12 H') ?nx9 fun N hN=>?st9
  case st9=>
   refine ⟨_,rfl,pl,_,rfl,SqL.of hpl,by rw [List.length_map];omega,fun ns' l1 p1 p2 hl1=>?_⟩
   have s13:Same H12 (upd H12 l1 (.lst (ns'.map V.int))):=Same.new hl1
   have e13:upd H12 l1 (.lst (ns'.map V.int)) l1=some (.lst (ns'.map V.int)):=upd_same
   generalize upd H12 l1 (.lst (ns'.map V.int))=H13 at s13 e13 ⊢
   refine ⟨_,rfl,tq,_,rfl,.inl (SqL.of (s13 _ _ W.ht)),tr.length,by rw [List.length_map,W.tl],fun a1 ha1=>⟨a1,_,rfl,upd_same,by omega,fun l2 hl2=>?_⟩⟩
   have s14:=(Same.new (o:=rngO a1 tr.length) ha1).trans (Same.new (o:=.lst ((List.range tr.length).map fun i:Nat=>V.int i)) hl2)
   have en:=up_range kp p1 p2
   refine ⟨ns'.map PyData.int,ns'.map PyData.int,.lst (SqL.of (s14 _ _ e13)) (reps_ints _),.lst (SqL.of (xs:=ns'.map V.int) (by rw [upd_same,en,List.map_map];rfl)) (reps_ints _),Nat.le_trans (deps_ints _) (by decide),?_⟩
   rw [eqs_ints]
   exact ⟨_,rfl,ifF rfl (hN _ _ ⟨rfl,s13.trans s14⟩)⟩
  rintro σ' H13 ⟨rfl,s13⟩
  have W:=W.same s13
  have hc:=s13 _ _ hc
  have pc:=caus_same s13 pc
  have hto:=s13 _ _ hto
  have hla:=s13 _ _ hla
  have tb:=tb.same s13
  clear s13 hpl
  have xl:=Paired.length pc
  refine seq_by (fun σ' H'=>∃ (v13 v14 v17 v18:Option V),σ'=[some (.ref sa),some (.ref p),some (.int n),some (.int t),some (.ref rq),some (.ref q),some (.ref tq),v7,v8,v9,some (.ref cq),v11,v12,v13,v14,some (.ref to),some (.ref pl),v17,v18,none,none]/\H'=H13) ?nx10 fun N hN=>?st10
  case st10=>
   refine ⟨_,rfl,cq,rfl,⟨_,SqL.of hc⟩,?_⟩
   refine for_list (K:=K) (a:=cq) (xs:=xs) (fun i σ' H'=>∃ (v13 v14 v17 v18:Option V),σ'=[some (.ref sa),some (.ref p),some (.int n),some (.int t),some (.ref rq),some (.ref q),some (.ref tq),v7,v8,v9,some (.ref cq),v11,v12,v13,v14,some (.ref to),some (.ref pl),v17,v18,none,none]/\H'=H13) ⟨_,_,_,_,rfl,rfl⟩ (fun i σ H' _ ⟨_,_,_,_,_,e⟩=>by rw [e];exact SqL.of hc) ?_ ?_
   ·rintro i x σ' H' hi ⟨v13,v14,v17,v18,rfl,rfl⟩
    obtain ⟨c,hc',b,rfl,hb⟩:=pd_get pc hi
    have mc:=List.mem_of_getElem? hc'
    have o:=okc c mc
    refine ⟨b,_,rfl,SqT.of hb,rfl,_,_,rfl,_,_,rfl,_,_,rfl,_,_,rfl,rfl,?_⟩
    dsimp only [gName,List.set]
    refine EvE.op (EvE.op (EvE.var rfl) (EvE.op (EvE.op (EvE.var rfl) EvE.con (EvR.ixT (SqT.of hto) (atI_nat (j:=1) rfl))) (EvE.var rfl) (EvR.ixL (SqL.of hla) (row_at o.a.1 (by rw [rl];exact o.a.2)))) EvR.i0) (EvE.op (EvE.var rfl) (EvE.op (EvE.op (EvE.var rfl) EvE.con (EvR.ixT (SqT.of hto) (atI_nat (j:=1) rfl))) (EvE.var rfl) (EvR.ixL (SqL.of hla) (row_at o.b.1 (by rw [rl];exact o.b.2)))) EvR.i0) EvR.i0 _ ?_
    have st:h c.a+(c.t-c.u+1)≤h c.b:=L.sat (tieC c) (List.mem_append_left _ (List.mem_map.mpr ⟨c,mc,rfl⟩))
    have ra:=rowOf_at (h:=h) (show c.a.toNat<n by have:=o.a;omega)
    have rb:=rowOf_at (h:=h) (show c.b.toNat<n by have:=o.b;omega)
    rw [Int.toNat_of_nonneg o.a.1] at ra
    rw [Int.toNat_of_nonneg o.b.1] at rb
    rw [ra,rb,decide_eq_true (show c.t+h c.a<c.u+h c.b by omega)]
    exact ⟨_,rfl,ifF rfl ⟨_,_,_,_,rfl,rfl⟩⟩
   ·rintro σ' H' ⟨v13,v14,v17,v18,rfl,rfl⟩
    exact hN _ _ ⟨_,_,_,_,rfl,rfl⟩
  rintro σ' H14 ⟨v13,v14,v17,v18,rfl,rfl⟩
  clear hla hto
  have oc6:∀ c∈cs,OkC 6 c:=fun c hc=>by
   have o:=okc c hc
   exact ⟨by have:=o.a;omega,by have:=o.b;omega,o.ne,o.t,o.u⟩
  refine seq_by (fun σ' H'=>∃ (r:Addr) (zs:List V),σ'=[some (.ref sa),some (.ref p),some (.int n),some (.int t),some (.ref rq),some (.ref q),some (.ref tq),v7,v8,v9,some (.ref cq),v11,v12,v13,v14,some (.ref to),some (.ref pl),v17,v18,some (.ref r),none]/\H' r=some (.lst zs)/\Paired (TieAt H') zs (cs.map tieC)/\Same H14 H') ?nx11 fun N hN=>?st11
  case st11=>exact ⟨_,rfl,cq,xs,cs,rfl,SqL.of hc,pc,oc6,by omega,fun r zs H1 hr' pt nr s1=>hN _ _ ⟨r,zs,rfl,hr',pt,s1⟩⟩
  rintro σ' H15 ⟨r,zs,rfl,hr',pt,s15⟩
  have W:=W.same s15
  have tb:=tb.same s15
  clear s15 hc pc
  have zl:=Paired.length pt
  rw [List.length_map] at zl
  refine seq_by (fun σ' H'=>σ'=[some (.ref sa),some (.ref p),some (.int n),some (.int t),some (.ref rq),some (.ref q),some (.ref tq),v7,v8,v9,some (.ref cq),v11,v12,v13,v14,some (.ref to),some (.ref pl),v17,v18,some (.ref r),none]/\Same H15 H') ?nx12 fun N hN=>?st12
  case st12=>
   refine ⟨_,rfl,_,rfl,_,rfl,_,rfl,?_⟩
   dsimp only [tNil,gV31]
   refine ⟨n,t,r,rq,zs,_,ns,rfl,n1,n6,by omega,by omega,SqL.of hr',pt,okt,SqL.of W.hr,by omega,by omega,fun H16 s16=>?_⟩
   rw [mt,nl,decide_eq_true rfl]
   refine ⟨_,_,rfl,rfl,_,rfl,ifF rfl ?_⟩
   refine ⟨_,rfl,_,rfl,_,rfl,?_⟩
   dsimp only [tNil,gV21]
   refine ⟨n,r,t,_,rfl,n1,n6,by omega,by omega,⟨⟨zs,s16 _ _ hr',ties_tk (Same.tk s16) pt⟩,by rw [List.length_map];omega,okt⟩,fun _ _ H17 s17=>?_,fun a ys es H' h1 h2 rg h4 h5 h6 h7=>?_⟩
   ·exact ⟨rfl,_,rfl,ifF (by simp) (hN _ _ ⟨rfl,s16.trans s17⟩)⟩
   ·exact ((show Bf.Barred _ from ⟨es,rg,h4⟩).no sat.2).elim
  rintro σ' H16 ⟨rfl,s16⟩
  have W:=W.same s16
  have tb:=tb.same s16
  clear s16 hr' pt
  refine seq_by (fun σ' H'=>∃ (v9:Option V) (ll:Addr),σ'=[some (.ref sa),some (.ref p),some (.int n),some (.int t),some (.ref rq),some (.ref q),some (.ref tq),v7,v8,v9,some (.ref cq),v11,v12,v13,v14,some (.ref to),some (.ref pl),v17,v18,some (.ref r),some (.ref ll)]/\H' ll=some (.lst ((List.range tr.length).map fun k=>V.ref (adE ad k)))/\TW H' ns q rq tq as tr ad ts) ?nx13 fun N hN=>?st13
  case st13=>
   refine ⟨_,rfl,_,rfl,q,rq,_,_,ns,rfl,W.rows T' al n6,SqL.of W.hr,by rw [rsOf_len];exact nl,tb,fun ll vs ps H17 p1 p2 hll pv nll k17 tb17=>?_⟩
   have eo:=true_order T' n6 p1 p2
   subst eo
   have W:=W.kp fun b u e ne _=>k17 b u e ne
   have vl:=Paired.length pv
   rw [List.length_map,List.length_range] at vl
   refine ⟨ll,rfl,⟨_,SqL.of hll⟩,?_⟩
   refine comp_list (K:=K) (a:=ll) (xs:=vs) (fun i ys σ' H'=>(∃ v w,σ'=[v,w])/\H'=H17/\ys=((List.range tr.length).take i).map fun k=>V.ref (adE ad k)) (Nat.le_trans (show vs.length≤40 by omega) (by decide)) ⟨⟨none,none,rfl⟩,rfl,rfl⟩ (fun i ys σ H' _ e=>by rw [e.2.1];exact SqL.of hll) ?_ ?_
   ·rintro i x ys σ' H' hi hy ⟨⟨v,w,rfl⟩,rfl,rfl⟩ M hM
    obtain ⟨y,hy',b,rfl,hb⟩:=pd_get pv hi
    rw [List.getElem?_map] at hy'
    obtain ⟨k,hk,rfl⟩:=Option.map_eq_some_iff.mp hy'
    refine ⟨b,_,rfl,SqT.of hb,rfl,_,_,rfl,_,_,rfl,rfl,_,rfl,?_⟩
    refine hM _ _ _ (by rw [List.length_append,hy];rfl) ⟨⟨_,_,rfl⟩,rfl,?_⟩
    rw [List.take_add_one,hk,List.map_append]
    rfl
   ·rintro ys σ' H' hy ⟨⟨v,w,rfl⟩,rfl,rfl⟩
    have el:(List.range tr.length).take vs.length=List.range tr.length:=List.take_of_length_le (by rw [List.length_range];omega)
    rw [el]
    refine ⟨by rw [List.length_map,List.length_range];exact Nat.le_trans few (by decide),fun b hb=>?_⟩
    exact hN _ _ ⟨_,b,rfl,upd_same,W.same (Same.new hb)⟩
  rintro σ' H17 ⟨v9,ll,rfl,hll,W⟩
  refine ⟨_,rfl,_,rfl,tq,_,rfl,.inl (SqL.of W.ht),tr.length,by rw [List.length_map,W.tl],by omega,by omega,?_⟩
  refine comp_range (n:=tr.length) (fun i ys σ' H'=>(∃ v,σ'=[v,some (.ref q)])/\Same H17 H'/\ys=(List.range i).map fun k=>V.ref (adE ad k)) (Nat.le_trans few (by decide)) ⟨⟨none,rfl⟩,Same.refl _,rfl⟩ ?_ ?_
  ·rintro i ys σ' H' hi hy ⟨⟨v,rfl⟩,s18,rfl⟩ M hM
   dsimp only [gName]
   refine ⟨_,rfl,_,rfl,n,i,t,ns,q,rq,tq,as,tr,ad,ts,by rw [Int.zero_add];rfl,W.same s18,T',al,n6,hi,fun H19 s19=>?_⟩
   exact hM _ _ _ (by rw [List.length_append,hy];rfl) ⟨⟨_,rfl⟩,s18.trans s19,by rw [List.range_succ,List.map_append];rfl⟩
  ·rintro ys σ' H' hy ⟨⟨v,rfl⟩,s18,rfl⟩
   refine ⟨by rw [hy];exact Nat.le_trans few (by decide),fun b hb=>?_⟩
   have W:=(W.same s18).same (Same.new (o:=.lst ((List.range tr.length).map fun k=>V.ref (adE ad k))) hb)
   have rp:=W.reps (K:=K) (List.range tr.length) fun k hk=>List.mem_range.mp hk
   have dp:=evs_dep ns tr (List.range tr.length)
   have mx:=evs_max ns tr (List.range tr.length)
   refine ⟨_,_,.list ((List.range tr.length).map (evD ns tr)),rfl,.lst (SqL.of (Same.new hb _ _ (s18 _ _ hll))) rp,.lst (SqL.of upd_same) rp,?_,?_,fun H19 _=>k _⟩
   ·simp only [pdDep]
    omega
   ·simp only [pdMax,List.length_map,List.length_range]
    omega
end
theorem all_mk {l:PySem.W.OpenLaw} {w:World} {K:PySem.W.Frag} {h:Heap} {mg:Str->Option Value} {fa fB fP fO fS fEo fTo fC fN fBo fR fL fT fM fG fAm fRi fMe fOd fLa fMg Tt cc:Addr} (X:K.In h) (G:h.Ns mainGlobals mg) (hfa:mg "law" = some (.ref fa))
 {odB anB odP anP odO anO odS anS odEo anEo odTo anTo odC anC odN anN odBo anBo odR anR odL anL odT anT odM anM odG anG odAm anAm odRi anRi odMe anMe odOd anOd odLa anLa odMg anMg odcc:Option Addr} {slB slP slO slS slEo slTo slC slN slBo slR slL slT slM slG slAm slRi slMe slOd slLa slMg slcc:Array (Option Value)} {t0 t1 t2 t3:Nat} {ocB kVB dcB pmB cdB ctB ocP kVP dcP pmP cdP ctP ocO kVO dcO pmO cdO ctO ocS kVS dcS pmS cdS ctS ocEo kVEo dcEo pmEo cdEo ctEo ocTo kVTo dcTo pmTo cdTo ctTo ocC kVC dcC pmC cdC ctC ocN kVN dcN pmN cdN ctN ocBo kVBo dcBo pmBo cdBo ctBo ocR kVR dcR pmR cdR ctR ocL kVL dcL pmL cdL ctL ocT kVT dcT pmT cdT ctT ocM kVM dcM pmM cdM ctM ocG kVG dcG pmG cdG ctG ocAm kVAm dcAm pmAm cdAm ctAm ocRi kVRi dcRi pmRi cdRi ctRi ocMe kVMe dcMe pmMe cdMe ctMe ocOd kVOd dcOd pmOd cdOd ctOd ocLa kVLa dcLa pmLa cdLa ctLa ocMg kVMg dcMg pmMg ctMg w0 w1 w2 w3 w4 w5 w6 w7 w8 w9 w10 w12 w13 w14 w15 w16 w17 w18 occ:Value}
 (aB:PySem.W.nsIn K mainGlobals "_law_begin" = some (some (.ref fB)))
 (lB:K.lookup fB=some ⟨ocB,odB,.func (PySem.W.fnOf "_law_begin" "_law_begin" (defArgs (top 27)) (defBody (top 27)) (defScope (top 27)) .none kVB dcB pmB anB cdB ctB),slB⟩)
 (cB:PySem.W.codeIn K cdB "_law_begin" = true)
 (kB:PySem.W.keepIn K (.ref fB)=true)
 (aP:PySem.W.nsIn K mainGlobals "_law_pick" = some (some (.ref fP)))
 (lP:K.lookup fP=some ⟨ocP,odP,.func (PySem.W.fnOf "_law_pick" "_law_pick" (defArgs (top 28)) (defBody (top 28)) (defScope (top 28)) .none kVP dcP pmP anP cdP ctP),slP⟩)
 (cP:PySem.W.codeIn K cdP "_law_pick" = true)
 (kP:PySem.W.keepIn K (.ref fP)=true)
 (aO:PySem.W.nsIn K mainGlobals "_law_of" = some (some (.ref fO)))
 (lO:K.lookup fO=some ⟨ocO,odO,.func (PySem.W.fnOf "_law_of" "_law_of" (defArgs (top 29)) (defBody (top 29)) (defScope (top 29)) .none kVO dcO pmO anO cdO ctO),slO⟩)
 (cO:PySem.W.codeIn K cdO "_law_of" = true)
 (kO:PySem.W.keepIn K (.ref fO)=true)
 (aS:PySem.W.nsIn K mainGlobals "_law_same" = some (some (.ref fS)))
 (lS:K.lookup fS=some ⟨ocS,odS,.func (PySem.W.fnOf "_law_same" "_law_same" (defArgs (top 30)) (defBody (top 30)) (defScope (top 30)) .none kVS dcS pmS anS cdS ctS),slS⟩)
 (cS:PySem.W.codeIn K cdS "_law_same" = true)
 (kS:PySem.W.keepIn K (.ref fS)=true)
 (aEo:PySem.W.nsIn K mainGlobals "_law_event_of" = some (some (.ref fEo)))
 (lEo:K.lookup fEo=some ⟨ocEo,odEo,.func (PySem.W.fnOf "_law_event_of" "_law_event_of" (defArgs (top 31)) (defBody (top 31)) (defScope (top 31)) .none kVEo dcEo pmEo anEo cdEo ctEo),slEo⟩)
 (cEo:PySem.W.codeIn K cdEo "_law_event_of" = true)
 (kEo:PySem.W.keepIn K (.ref fEo)=true)
 (aTo:PySem.W.nsIn K mainGlobals "ties_of" = some (some (.ref fTo)))
 (lTo:K.lookup fTo=some ⟨ocTo,odTo,.func (PySem.W.fnOf "ties_of" "ties_of" (defArgs (top 23)) (defBody (top 23)) (defScope (top 23)) .none kVTo dcTo pmTo anTo cdTo ctTo),slTo⟩)
 (cTo:PySem.W.codeIn K cdTo "ties_of" = true)
 (kTo:PySem.W.keepIn K (.ref fTo)=true)
 (aC:PySem.W.nsIn K mainGlobals "need_cause" = some (some (.ref fC)))
 (lC:K.lookup fC=some ⟨ocC,odC,.func (PySem.W.fnOf "need_cause" "need_cause" (defArgs (top 22)) (defBody (top 22)) (defScope (top 22)) .none kVC dcC pmC anC cdC ctC),slC⟩)
 (cC:PySem.W.codeIn K cdC "need_cause" = true)
 (kC:PySem.W.keepIn K (.ref fC)=true)
 (aN:PySem.W.nsIn K mainGlobals "need_all" = some (some (.ref fN)))
 (lN:K.lookup fN=some ⟨ocN,odN,.func (PySem.W.fnOf "need_all" "need_all" (defArgs (top 14)) (defBody (top 14)) (defScope (top 14)) .none kVN dcN pmN anN cdN ctN),slN⟩)
 (cN:PySem.W.codeIn K cdN "need_all" = true)
 (kN:PySem.W.keepIn K (.ref fN)=true)
 (aBo:PySem.W.nsIn K mainGlobals "bounds" = some (some (.ref fBo)))
 (lBo:K.lookup fBo=some ⟨ocBo,odBo,.func (PySem.W.fnOf "bounds" "bounds" (defArgs (top 15)) (defBody (top 15)) (defScope (top 15)) .none kVBo dcBo pmBo anBo cdBo ctBo),slBo⟩)
 (cBo:PySem.W.codeIn K cdBo "bounds" = true)
 (kBo:PySem.W.keepIn K (.ref fBo)=true)
 (aR:PySem.W.nsIn K mainGlobals "raised" = some (some (.ref fR)))
 (lR:K.lookup fR=some ⟨ocR,odR,.func (PySem.W.fnOf "raised" "raised" (defArgs (top 16)) (defBody (top 16)) (defScope (top 16)) .none kVR dcR pmR anR cdR ctR),slR⟩)
 (cR:PySem.W.codeIn K cdR "raised" = true)
 (kR:PySem.W.keepIn K (.ref fR)=true)
 (aL:PySem.W.nsIn K mainGlobals "need_lanes" = some (some (.ref fL)))
 (lL:K.lookup fL=some ⟨ocL,odL,.func (PySem.W.fnOf "need_lanes" "need_lanes" (defArgs (top 11)) (defBody (top 11)) (defScope (top 11)) .none kVL dcL pmL anL cdL ctL),slL⟩)
 (cL:PySem.W.codeIn K cdL "need_lanes" = true)
 (kL:PySem.W.keepIn K (.ref fL)=true)
 (aT:PySem.W.nsIn K mainGlobals "need_ties" = some (some (.ref fT)))
 (lT:K.lookup fT=some ⟨ocT,odT,.func (PySem.W.fnOf "need_ties" "need_ties" (defArgs (top 12)) (defBody (top 12)) (defScope (top 12)) .none kVT dcT pmT anT cdT ctT),slT⟩)
 (cT:PySem.W.codeIn K cdT "need_ties" = true)
 (kT:PySem.W.keepIn K (.ref fT)=true)
 (aM:PySem.W.nsIn K mainGlobals "need_most" = some (some (.ref fM)))
 (lM:K.lookup fM=some ⟨ocM,odM,.func (PySem.W.fnOf "need_most" "need_most" (defArgs (top 13)) (defBody (top 13)) (defScope (top 13)) .none kVM dcM pmM anM cdM ctM),slM⟩)
 (cM:PySem.W.codeIn K cdM "need_most" = true)
 (kM:PySem.W.keepIn K (.ref fM)=true)
 (aG:PySem.W.nsIn K mainGlobals "ring_behind" = some (some (.ref fG)))
 (lG:K.lookup fG=some ⟨ocG,odG,.func (PySem.W.fnOf "ring_behind" "ring_behind" (defArgs (top 19)) (defBody (top 19)) (defScope (top 19)) .none kVG dcG pmG anG cdG ctG),slG⟩)
 (cG:PySem.W.codeIn K cdG "ring_behind" = true)
 (kG:PySem.W.keepIn K (.ref fG)=true)
 (aAm:PySem.W.nsIn K mainGlobals "amounts" = some (some (.ref fAm)))
 (lAm:K.lookup fAm=some ⟨ocAm,odAm,.func (PySem.W.fnOf "amounts" "amounts" (defArgs (top 17)) (defBody (top 17)) (defScope (top 17)) .none kVAm dcAm pmAm anAm cdAm ctAm),slAm⟩)
 (cAm:PySem.W.codeIn K cdAm "amounts" = true)
 (kAm:PySem.W.keepIn K (.ref fAm)=true)
 (aRi:PySem.W.nsIn K mainGlobals "ring" = some (some (.ref fRi)))
 (lRi:K.lookup fRi=some ⟨ocRi,odRi,.func (PySem.W.fnOf "ring" "ring" (defArgs (top 18)) (defBody (top 18)) (defScope (top 18)) .none kVRi dcRi pmRi anRi cdRi ctRi),slRi⟩)
 (cRi:PySem.W.codeIn K cdRi "ring" = true)
 (kRi:PySem.W.keepIn K (.ref fRi)=true)
 (aMe:PySem.W.nsIn K mainGlobals "meets" = some (some (.ref fMe)))
 (lMe:K.lookup fMe=some ⟨ocMe,odMe,.func (PySem.W.fnOf "meets" "meets" (defArgs (top 20)) (defBody (top 20)) (defScope (top 20)) .none kVMe dcMe pmMe anMe cdMe ctMe),slMe⟩)
 (cMe:PySem.W.codeIn K cdMe "meets" = true)
 (kMe:PySem.W.keepIn K (.ref fMe)=true)
 (aOd:PySem.W.nsIn K mainGlobals "ordered" = some (some (.ref fOd)))
 (lOd:K.lookup fOd=some ⟨ocOd,odOd,.func (PySem.W.fnOf "ordered" "ordered" (defArgs (top 25)) (defBody (top 25)) (defScope (top 25)) .none kVOd dcOd pmOd anOd cdOd ctOd),slOd⟩)
 (cOd:PySem.W.codeIn K cdOd "ordered" = true)
 (kOd:PySem.W.keepIn K (.ref fOd)=true)
 (aLa:PySem.W.nsIn K mainGlobals "law" = some (some (.ref fLa)))
 (lLa:K.lookup fLa=some ⟨ocLa,odLa,.func (PySem.W.fnOf "law" "law" (defArgs (top 32)) (defBody (top 32)) (defScope (top 32)) .none kVLa dcLa pmLa anLa cdLa ctLa),slLa⟩)
 (cLa:PySem.W.codeIn K cdLa "law" = true)
 (kLa:PySem.W.keepIn K (.ref fLa)=true)
 (z_len:PySem.W.nsIn K mainGlobals "len" = some none)
 (z_range:PySem.W.nsIn K mainGlobals "range" = some none)
 (z_list:PySem.W.nsIn K mainGlobals "list" = some none)
 (z_tuple:PySem.W.nsIn K mainGlobals "tuple" = some none)
 (z_str:PySem.W.nsIn K mainGlobals "str" = some none)
 (z_bool:PySem.W.nsIn K mainGlobals "bool" = some none)
 (z_int:PySem.W.nsIn K mainGlobals "int" = some none)
 (z_min:PySem.W.nsIn K mainGlobals "min" = some none)
 (z_repr:PySem.W.nsIn K mainGlobals "repr" = some none)
 (z_all:PySem.W.nsIn K mainGlobals "all" = some none)
 (z_any:PySem.W.nsIn K mainGlobals "any" = some none)
 (z_isinstance:PySem.W.nsIn K mainGlobals "isinstance" = some none)
 (z_sorted:PySem.W.nsIn K mainGlobals "sorted" = some none)
 (z_enumerate:PySem.W.nsIn K mainGlobals "enumerate" = some none)
 (i_LIMIT:PySem.W.nsIn K mainGlobals "LIMIT" = some (some (.int 999999 t0)))
 (i_MOST_LANES:PySem.W.nsIn K mainGlobals "MOST_LANES" = some (some (.int 6 t1)))
 (i_HIGHEST_MOST:PySem.W.nsIn K mainGlobals "HIGHEST_MOST" = some (some (.int 1000000000000 t2)))
 (i_GROUND:PySem.W.nsIn K mainGlobals "GROUND" = some (some (.int (-1) t3)))
 (aMg:PySem.W.nsIn K mainGlobals "merged" = some (some (.ref fMg)))
 (lMg:K.lookup fMg=some ⟨ocMg,odMg,.func (PySem.W.fnOf "merged" "merged" (defArgs (top 24)) (defBody (top 24)) (defScope (top 24)) .none kVMg dcMg pmMg anMg (.ref cc) ctMg),slMg⟩)
 (lcc:K.lookup cc=some ⟨occ,odcc,.fields #[w0,w1,w2,w3,w4,w5,w6,w7,w8,w9,w10,.ref Tt,w12,w13,w14,w15,w16,w17,w18],slcc⟩)
 (lTt:K.lookup Tt=none)
 (tb:L2.tabIn K cc=some Tt)
 (cMg:PySem.W.codeIn K (.ref cc) "merged" = true)
 (kMg:PySem.W.keepIn K (.ref fMg)=true) :
 ∃ (fd:FuncData) (sp:Sp),(∀ (s:Shared) (u:Value),BindsTo s fd ⟨[u],[]⟩ [("_law_script",u)])/\(∀ T∈[Tt],K.lookup T=none/\∃ c,L2.tabIn K c=some T)/\
  (∀ (H:Hp) (a:Addr) (ns:List Int),ns.length≤63->(∀ T∈[Tt],H T=some (.tbl #[]))->SqL K H a (ns.map V.int)->sp [.ref a] H (fun v _=>v=.bl true) fun _ _ _=>False)/\
  ∀ base:Heap,K.In base->base.Ns mainGlobals mg->(∀ T∈[Tt],base.BuiltinsAt mg T/\mainGlobals≠T)->FnOk l.prog w K mg base CX0 8 fa fd ["_law_script"] sp:=by
 have e:=hfa.symm.trans (PySem.W.mg_of X G aLa)
 cases e
 have T:Txt K mg:=⟨PySem.W.mg_none_of X G z_len,PySem.W.mg_none_of X G z_range,PySem.W.mg_none_of X G z_list,PySem.W.mg_none_of X G z_tuple,PySem.W.mg_none_of X G z_str,PySem.W.mg_none_of X G z_bool,PySem.W.mg_none_of X G z_int,PySem.W.mg_none_of X G z_min,PySem.W.mg_none_of X G z_repr,PySem.W.mg_none_of X G z_all,PySem.W.mg_none_of X G z_any,PySem.W.mg_none_of X G z_isinstance⟩
 have FB:=fun_mk (st:=top 27) lB cB kB
 have bB:=FB.binds (ps:=["_law_script"]) fun _ _ _ _ _ _ us hl=>by obtain ⟨_,rfl⟩:=len1 hl;rfl
 have DB:Def K mg "_law_begin" (top 27) ["_law_script"] fB _:=⟨FB,PySem.W.mg_of X G aB,bB⟩
 have FP:=fun_mk (st:=top 28) lP cP kP
 have bP:=FP.binds (ps:=["_law_d","_law_many"]) fun _ _ _ _ _ _ us hl=>by obtain ⟨_,_,rfl⟩:=len2 hl;rfl
 have DP:Def K mg "_law_pick" (top 28) ["_law_d","_law_many"] fP _:=⟨FP,PySem.W.mg_of X G aP,bP⟩
 have FO:=fun_mk (st:=top 29) lO cO kO
 have bO:=FO.binds (ps:=["_law_d","_law_things"]) fun _ _ _ _ _ _ us hl=>by obtain ⟨_,_,rfl⟩:=len2 hl;rfl
 have DO:Def K mg "_law_of" (top 29) ["_law_d","_law_things"] fO _:=⟨FO,PySem.W.mg_of X G aO,bO⟩
 have FS:=fun_mk (st:=top 30) lS cS kS
 have bS:=FS.binds (ps:=["_law_found","_law_due"]) fun _ _ _ _ _ _ us hl=>by obtain ⟨_,_,rfl⟩:=len2 hl;rfl
 have DS:Def K mg "_law_same" (top 30) ["_law_found","_law_due"] fS _:=⟨FS,PySem.W.mg_of X G aS,bS⟩
 have FEo:=fun_mk (st:=top 31) lEo cEo kEo
 have bEo:=FEo.binds (ps:=["_law_rows","_law_step"]) fun _ _ _ _ _ _ us hl=>by obtain ⟨_,_,rfl⟩:=len2 hl;rfl
 have DEo:Def K mg "_law_event_of" (top 31) ["_law_rows","_law_step"] fEo _:=⟨FEo,PySem.W.mg_of X G aEo,bEo⟩
 have FTo:=fun_mk (st:=top 23) lTo cTo kTo
 have bTo:=FTo.binds (ps:=["causes"]) fun _ _ _ _ _ _ us hl=>by obtain ⟨_,rfl⟩:=len1 hl;rfl
 have DTo:Def K mg "ties_of" (top 23) ["causes"] fTo _:=⟨FTo,PySem.W.mg_of X G aTo,bTo⟩
 have FC:=fun_mk (st:=top 22) lC cC kC
 have bC:=FC.binds (ps:=["lane","time","other","second"]) fun _ _ _ _ _ _ us hl=>by obtain ⟨_,_,_,_,rfl⟩:=len4 hl;rfl
 have DC:Def K mg "need_cause" (top 22) ["lane","time","other","second"] fC _:=⟨FC,PySem.W.mg_of X G aC,bC⟩
 have FN:=fun_mk (st:=top 14) lN cN kN
 have bN:=FN.binds (ps:=["lanes","ties","most"]) fun _ _ _ _ _ _ us hl=>by obtain ⟨_,_,_,rfl⟩:=len3 hl;rfl
 have DN:Def K mg "need_all" (top 14) ["lanes","ties","most"] fN _:=⟨FN,PySem.W.mg_of X G aN,bN⟩
 have FBo:=fun_mk (st:=top 15) lBo cBo kBo
 have bBo:=FBo.binds (ps:=["lanes","most"]) fun _ _ _ _ _ _ us hl=>by obtain ⟨_,_,rfl⟩:=len2 hl;rfl
 have DBo:Def K mg "bounds" (top 15) ["lanes","most"] fBo _:=⟨FBo,PySem.W.mg_of X G aBo,bBo⟩
 have FR:=fun_mk (st:=top 16) lR cR kR
 have bR:=FR.binds (ps:=["lanes","ties"]) fun _ _ _ _ _ _ us hl=>by obtain ⟨_,_,rfl⟩:=len2 hl;rfl
 have DR:Def K mg "raised" (top 16) ["lanes","ties"] fR _:=⟨FR,PySem.W.mg_of X G aR,bR⟩
 have FL:=fun_mk (st:=top 11) lL cL kL
 have bL:=FL.binds (ps:=["lanes"]) fun _ _ _ _ _ _ us hl=>by obtain ⟨_,rfl⟩:=len1 hl;rfl
 have DL:Def K mg "need_lanes" (top 11) ["lanes"] fL _:=⟨FL,PySem.W.mg_of X G aL,bL⟩
 have FT:=fun_mk (st:=top 12) lT cT kT
 have bT:=FT.binds (ps:=["lanes","ties"]) fun _ _ _ _ _ _ us hl=>by obtain ⟨_,_,rfl⟩:=len2 hl;rfl
 have DT:Def K mg "need_ties" (top 12) ["lanes","ties"] fT _:=⟨FT,PySem.W.mg_of X G aT,bT⟩
 have FM:=fun_mk (st:=top 13) lM cM kM
 have bM:=FM.binds (ps:=["most"]) fun _ _ _ _ _ _ us hl=>by obtain ⟨_,rfl⟩:=len1 hl;rfl
 have DM:Def K mg "need_most" (top 13) ["most"] fM _:=⟨FM,PySem.W.mg_of X G aM,bM⟩
 have FG:=fun_mk (st:=top 19) lG cG kG
 have bG:=FG.binds (ps:=["at","raised_by","many"]) fun _ _ _ _ _ _ us hl=>by obtain ⟨_,_,_,rfl⟩:=len3 hl;rfl
 have DG:Def K mg "ring_behind" (top 19) ["at","raised_by","many"] fG _:=⟨FG,PySem.W.mg_of X G aG,bG⟩
 have FAm:=fun_mk (st:=top 17) lAm cAm kAm
 have FRi:=fun_mk (st:=top 18) lRi cRi kRi
 have FMe:=fun_mk (st:=top 20) lMe cMe kMe
 have FOd:=fun_mk (st:=top 25) lOd cOd kOd
 have FLa:=fun_mk (st:=top 32) lLa cLa kLa
 have TC:TxtC mg:=⟨⟨_,PySem.W.mg_of X G i_LIMIT⟩,⟨_,PySem.W.mg_of X G i_MOST_LANES⟩,⟨_,PySem.W.mg_of X G i_HIGHEST_MOST⟩,⟨_,PySem.W.mg_of X G i_GROUND⟩⟩
 refine ⟨PySem.W.fnOf "law" "law" (defArgs (top 32)) (defBody (top 32)) (defScope (top 32)) .none kVLa dcLa pmLa anLa cdLa ctLa,spLaw K Tt #[],fun s v=>.of_eq rfl,fun T m=>by cases List.mem_singleton.mp m;exact ⟨lTt,cc,tb⟩,fun H a ns hl hT hS=>⟨a,ns,rfl,hS,hl,hT _ (List.mem_singleton.mpr rfl),fun _=>rfl⟩,fun base kb0' nsb hbt=>?_⟩
 obtain ⟨hbb,hg⟩:=hbt Tt (List.mem_singleton.mpr rfl)
 have FMg:=fun_mk (st:=(top 24)) lMg cMg kMg
 have bMg:=FMg.binds (ps:=["rows","row"]) fun _ _ _ _ _ _ us hl=>by obtain ⟨_,_,rfl⟩:=len2 hl;rfl
 exact ok_law FLa trivial rfl T TC (PySem.W.mg_none_of X G z_sorted) DB DP DO DS DEo DTo DC DN DBo DR DL DT DM DG FAm (PySem.W.mg_of X G aAm) FRi (PySem.W.mg_of X G aRi) FMe (PySem.W.mg_of X G aMe) FOd (PySem.W.mg_of X G aOd) (ok_mg lMg cMg (hd_of kb0' tb) hbb hg T (PySem.W.mg_none_of X G z_sorted) (PySem.W.mg_none_of X G z_enumerate)) (PySem.W.mg_of X G aMg) kMg bMg
end Cm
open PySem PySem.W PyProof.Rows
set_option maxRecDepth 100000 in
set_option maxHeartbeats 0 in
theorem PySem.Challenge.cw_lanescribe_k56_whole_true_clocks_are_nev_holds : PySem.Challenge.rw_lanescribe_k56_whole_true_clocks_are_nev.Holds := by
 w_on
 refine Kd.head ?hw (by rfl) (by rfl) (by rfl) ?hc
 (case hw=>w_witness2)
 k_fill
 refine L2.walk_ofM (l:=PySem.Challenge.rw_lanescribe_k56_whole_true_clocks_are_nev) (n:=63) (k:=8) (x:="_law_script") (CX:=fun _=>L2.CX0) rfl (by decide) rfl ⟨rfl,by decide,by decide,rfl⟩ (fun w h Y=>PySem.W.km_in_of Y) (fun w h Y=>PySem.W.km_tabs_of Y) ?F (fun _ _ _ _ _ z=>z)
 case F=>
  intro w mg fa h KX G hmg
  refine' Cm.all_mk KX G hmg ?aB ?lB ?cB ?kB ?aP ?lP ?cP ?kP ?aO ?lO ?cO ?kO ?aS ?lS ?cS ?kS ?aEo ?lEo ?cEo ?kEo ?aTo ?lTo ?cTo ?kTo ?aC ?lC ?cC ?kC ?aN ?lN ?cN ?kN ?aBo ?lBo ?cBo ?kBo ?aR ?lR ?cR ?kR ?aL ?lL ?cL ?kL ?aT ?lT ?cT ?kT ?aM ?lM ?cM ?kM ?aG ?lG ?cG ?kG ?aAm ?lAm ?cAm ?kAm ?aRi ?lRi ?cRi ?kRi ?aMe ?lMe ?cMe ?kMe ?aOd ?lOd ?cOd ?kOd ?aLa ?lLa ?cLa ?kLa ?z_len ?z_range ?z_list ?z_tuple ?z_str ?z_bool ?z_int ?z_min ?z_repr ?z_all ?z_any ?z_isinstance ?z_sorted ?z_enumerate ?i_LIMIT ?i_MOST_LANES ?i_HIGHEST_MOST ?i_GROUND ?aMg ?lMg ?lcc ?lTt ?tb ?cMg ?kMg
  (case aB=>k_is)
  (case lB=>k_is)
  (case cB=>k_is)
  (case kB=>k_is)
  (case aP=>k_is)
  (case lP=>k_is)
  (case cP=>k_is)
  (case kP=>k_is)
  (case aO=>k_is)
  (case lO=>k_is)
  (case cO=>k_is)
  (case kO=>k_is)
  (case aS=>k_is)
  (case lS=>k_is)
  (case cS=>k_is)
  (case kS=>k_is)
  (case aEo=>k_is)
  (case lEo=>k_is)
  (case cEo=>k_is)
  (case kEo=>k_is)
  (case aTo=>k_is)
  (case lTo=>k_is)
  (case cTo=>k_is)
  (case kTo=>k_is)
  (case aC=>k_is)
  (case lC=>k_is)
  (case cC=>k_is)
  (case kC=>k_is)
  (case aN=>k_is)
  (case lN=>k_is)
  (case cN=>k_is)
  (case kN=>k_is)
  (case aBo=>k_is)
  (case lBo=>k_is)
  (case cBo=>k_is)
  (case kBo=>k_is)
  (case aR=>k_is)
  (case lR=>k_is)
  (case cR=>k_is)
  (case kR=>k_is)
  (case aL=>k_is)
  (case lL=>k_is)
  (case cL=>k_is)
  (case kL=>k_is)
  (case aT=>k_is)
  (case lT=>k_is)
  (case cT=>k_is)
  (case kT=>k_is)
  (case aM=>k_is)
  (case lM=>k_is)
  (case cM=>k_is)
  (case kM=>k_is)
  (case aG=>k_is)
  (case lG=>k_is)
  (case cG=>k_is)
  (case kG=>k_is)
  (case aAm=>k_is)
  (case lAm=>k_is)
  (case cAm=>k_is)
  (case kAm=>k_is)
  (case aRi=>k_is)
  (case lRi=>k_is)
  (case cRi=>k_is)
  (case kRi=>k_is)
  (case aMe=>k_is)
  (case lMe=>k_is)
  (case cMe=>k_is)
  (case kMe=>k_is)
  (case aOd=>k_is)
  (case lOd=>k_is)
  (case cOd=>k_is)
  (case kOd=>k_is)
  (case aLa=>k_is)
  (case lLa=>k_is)
  (case cLa=>k_is)
  (case kLa=>k_is)
  (case z_len=>k_is)
  (case z_range=>k_is)
  (case z_list=>k_is)
  (case z_tuple=>k_is)
  (case z_str=>k_is)
  (case z_bool=>k_is)
  (case z_int=>k_is)
  (case z_min=>k_is)
  (case z_repr=>k_is)
  (case z_all=>k_is)
  (case z_any=>k_is)
  (case z_isinstance=>k_is)
  (case z_sorted=>k_is)
  (case z_enumerate=>k_is)
  (case i_LIMIT=>k_is)
  (case i_MOST_LANES=>k_is)
  (case i_HIGHEST_MOST=>k_is)
  (case i_GROUND=>k_is)
  (case aMg=>k_is)
  (case lMg=>k_is)
  (case lcc=>k_is)
  (case lTt=>kernel_rfl)
  (case tb=>kernel_rfl)
  (case cMg=>k_is)
  (case kMg=>k_is)
