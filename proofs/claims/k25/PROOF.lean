import PyProof.Rows.All
import Wide.All
import OpenK.AllK
import Wide.FinOn
import KE.KNestM
import Lean
import PyProof.EqAt
import PyProof.EqKinds
import PyProof.TupleCall
import PyProof.StationsW
import PyProof.ExcBaseAll.ValueError
import PyProof.InstStoreFacts
import PyProof.RulesAs
import PyProof.RulesDel
import KE.KLam
import PyProof.ExcArgsOwn
import PyProof.AutoListH
import PyProof.StrWalks
import PyProof.StrBlockH
import PyProof.WalkInts
import PyProof.SeqI3
import PyProof.Rows.SetFrom
import PyProof.ZipIter
import KE.KTabLook
import PyProof.StrLaws
import KE.KIntText
import KE.KStrOpen
import PyProof.StrLawsTight
import PyProof.Rows.StrFit
import PyProof.Draws
import PyProof.EnumMake
import PyProof.StrCalls2
import PyProof.Rows.StrSplitJoin
import PyProof.CollectIter
import PyProof.StrBlock2
import PyProof.Rows.SortWalk
import PyProof.Rows.CallKwBuiltin
import KE.KMinBuiltin
import KE.KRevSl
import PyProof.DictItemsLoops
import PyProof.CollectWalk
import PyProof.ListRange
import PySem.Challenge.RW_lanescribe_k25_whole_amounts_or_a_ring
set_option Elab.async false
set_option linter.all false
set_option maxRecDepth 1000000
set_option maxHeartbeats 0
namespace Kd
open PySem PySem.W
noncomputable section
theorem left_boot {p q:Program} {loose:List Str} {Xt:Shared->Bool} {α:Type} {Yf:Shared->α} {Ya:World->α} {N:Nat} (e:opening p=plainProg p.main.scope.names) (hN:Nat.ble 600 N=true) (f:∀ s,fenceModules? p s=some s)
 (h:∀ (w:World) (os:OsState),(topFrom treeTable p w N ⟨boot_heap w.params,Array.mk [],boot_drawn,boot_toks,os⟩).map (fun s=>(openSeen q loose (importedModules p.main.body) Xt true s,Yf s))=some (openGood q loose,Ya w)):LeftO p q loose Xt Yf Ya N:=fun w=>by
 obtain ⟨⟨h',gs,d,k,os⟩,e1,e2⟩:=Option.map_eq_some_iff.mp (boot_open e hN f w)
 obtain ⟨rfl,rfl,rfl,rfl⟩:h'=boot_heap w.params/\gs=Array.mk []/\d=boot_drawn/\k=boot_toks:=by simpa using e2
 unfold openEnds
 rw [e1]
 exact h w os
abbrev u (x:String):Str:=Str.ofString x
abbrev vs (x:String) (t:Nat):Value:=.str (Str.ofString x) t
abbrev vi (x:Int) (t:Nat):Value:=.int x t
abbrev vr (x:Nat):Value:=.ref x
abbrev vt (x:String):Value:=.type x
abbrev vn:Value:=.none
abbrev vb:Value:=.bool true
abbrev vf (t:Nat):Value:=.str (Str.ofString "/claim/cut.py") t
abbrev ot (x:Array Value):Obj:={ cls:=.type "tuple",data:=Data.seq x }
abbrev oc (x:Array Value):Obj:={ cls:=.type "code",data:=Data.fields x }
abbrev of (n q:String) (a:Arguments) (b:List Stmt) (s:Scope) (d m c:Value):Obj:={ cls:=.type "function",data:=Data.func { name:=Str.ofString n,qualname:=Str.ofString q,params:=a,body:=FuncBody.stmts b,scope:=s,globals:=3,closure:=[],defaults:=d,kwdefaults:=.none,pyModule:=m,code:=c } }
abbrev de (P:Params) (x:String) (t:Nat) (v:Value):DictEntry:={ hash:=PyData.keyHash P (Str.ofString x),key:=.str (Str.ofString x) t,val:=v }
def tp (i:Nat):Stmt:=PySem.Challenge.pw_lanescribe_k25_whole_amounts_or_a_ring.main.body.getD i (.Pass ⟨0,0,0,0⟩)
def meth (i j:Nat):Stmt:=match tp i with
 |.ClassDef _ _ _ body _ _ _ _ _ _ _=>body.getD j (.Pass ⟨0,0,0,0⟩)
 |_=>.Pass ⟨0,0,0,0⟩
def dA (s:Stmt):Arguments:=match s with
 |.FunctionDef _ a _ _ _ _ _ _ _ _=>a
 |_=>{ posonlyargs:=[],args:=[],vararg:=none,kwonlyargs:=[],kw_defaults:=[],kwarg:=none,defaults:=[] }
def dB (s:Stmt):List Stmt:=match s with
 |.FunctionDef _ _ b _ _ _ _ _ _ _=>b
 |_=>[]
def dS (s:Stmt):Scope:=match s with
 |.FunctionDef _ _ _ _ _ _ sc _ _ _=>sc
 |_=>{ kind:=.function,names:=[],isGenerator:=false,isCoroutine:=false }
abbrev TA (i:Nat):Arguments:=dA (tp i)
abbrev TB (i:Nat):List Stmt:=dB (tp i)
abbrev TS (i:Nat):Scope:=dS (tp i)
abbrev MA (i j:Nat):Arguments:=dA (meth i j)
abbrev MB (i j:Nat):List Stmt:=dB (meth i j)
abbrev MS (i j:Nat):Scope:=dS (meth i j)
abbrev og (n q:String) (a:Arguments) (b:List Stmt) (s:Scope):Obj:={ cls:=.none,data:=Data.func { name:=Str.ofString n,qualname:=Str.ofString q,params:=a,body:=FuncBody.stmts b,scope:=s,globals:=0,closure:=[],defaults:=.none,kwdefaults:=.none } }
abbrev gt (n:String) (i:Nat):Obj:=og n n (TA i) (TB i) (TS i)
abbrev gm (n q:String) (i j:Nat):Obj:=og n q (MA i j) (MB i j) (MS i j)
abbrev ft (n:String) (i:Nat):Value->Value->Value->Obj:=of n n (TA i) (TB i) (TS i)
abbrev fm (n q:String) (i j:Nat):Value->Value->Value->Obj:=of n q (MA i j) (MB i j) (MS i j)
abbrev oq (n:String) (a:Nat) (q:String) (b c:Nat) (l k:Int) (r s:Nat) (x y z:Value) (t:Int) (d:Nat):Obj:=oc #[vs n a,vs q b,vf c,vi l 0,vi k 0,vi 0 0,vi 0 0,vi 3 0,vr r,vb,vi 181 0,vr s,vn,x,y,z,vi t 0,vi l 0,vf d]
abbrev ok (n:String) (a b c:Nat) (l k:Int) (r s:Nat) (x y z:Value) (t:Int) (d:Nat):Obj:=oq n a n b c l k r s x y z t d
abbrev z1:Value:=vs "lanescribe.clocks" 271
abbrev z2:Value:=vs "lanescribe.errors" 187
abbrev z3:Value:=vs "law_lanescribe_k25_whole_amounts_or_a_ring" 368
def o0:Obj:=ot #[]
def o1:Obj:={ cls:=vn,data:=Data.fields #[] }
def o2:Obj:=oc #[vs "<module>" 182,vs "<module>" 183,vf 184,vi 1 0,vi 0 0,vi 0 0,vi 0 0,vi 0 0,vr 11,Value.bool false,vi 181 0,vr 12,vn,vn,vn,vn,vi 185 0,vi 1 0,vf 186]
def o3:Obj:={ cls:=vt "frame",slots:=#[some (vr 13),some (vr 3),some (vr 3),none,some (vs "__main__" 164),none,some (vr 0)] }
def o4 (P:Params):Obj:={ cls:=vt "dict",data:=Data.dict #[de P "__name__" 165 z1,de P "__doc__" 166 (vn),de P "__package__" 167 (vn),de P "__loader__" 168 (Value.builtin "__main__.__loader__#opaque"),de P "__spec__" 169 (vn),de P "__annotations__" 170 (vr 6),de P "__builtins__" 171 (vr 4),de P "__file__" 173 (vf 172),de P "__cached__" 174 (vn),de P "ScribeError" 218 (vr 32),de P "BadSize" 243 (vr 53),de P "BadTie" 268 (vr 73),de P "LIMIT" 270 (vi 999999 269),de P "MOST_AMOUNT" 274 (vi 99999 273),de P "MOST_LANES" 276 (vi 6 275),de P "HIGHEST_MOST" 280 (vi 1000000000000 279),de P "GROUND" 283 (vi (-1) 282),de P "need_lanes" 290 (vr 82),de P "need_ties" 301 (vr 89),de P "need_most" 308 (vr 96),de P "need_all" 317 (vr 103),de P "bounds" 323 (vr 108),de P "raised" 329 (vr 113),de P "amounts" 336 (vr 119),de P "ring" 349 (vr 127)] 25 }
def o5:Obj:={ cls:=vn,data:=Data.fields #[vi 2 0,vi 0 0,vr 20,vi 7 0,vi 0 0,vr 41,vi 11 0,vi 0 0,vr 61,vi 21 0,vi 0 0,vr 81,vi 24 0,vi 0 0,vr 88,vi 30 0,vi 0 0,vr 95,vi 33 0,vi 0 0,vr 102,vi 37 0,vi 0 0,vr 107,vi 40 0,vi 0 0,vr 112,vi 54 0,vi 0 0,vr 118,vi 58 0,vi 0 0,vr 126] }
def o6:Obj:=ot #[vt "ValueError"]
def o7:Obj:={ cls:=vt "builtin_function_or_method",data:=Data.fields #[Value.builtin "type.__prepare__",vt "type"] }
def o8 (P:Params):Obj:={ cls:=vt "dict",data:=Data.dict #[de P "__module__" 196 z2,de P "__qualname__" 198 (vs "ScribeError" 197),de P "__firstlineno__" 200 (vi 2 199),de P "__init__" 211 (vr 29),de P "__static_attributes__" 213 (vr 30)] 5 }
def o9:Obj:={ cls:=vn,data:=Data.fields #[vi 4 0,vi 4 0,vr 28] }
def o10:Obj:=oc #[vs "ScribeError" 191,vs "ScribeError" 192,vf 193,vi 2 0,vi 0 0,vi 0 0,vi 0 0,vi 0 0,vr 18,Value.bool false,vi 181 0,vr 19,vn,vn,vn,vn,vi 194 0,vi 2 0,vf 195]
def o11:Obj:={ cls:=vt "frame",slots:=#[some (vr 20),some (vr 3),some (vr 17),none,some z2,none,some (vr 0)] }
def o12:Obj:=ot #[vs "" 201,vs "scribeerror" 202]
def o13:Obj:=ot #[vs "self" 206,vs "words" 207,vs "word" 208]
def o14:Obj:=gm "__init__" "ScribeError.__init__" 1 0
def o15:Obj:=oq "__init__" 203 "ScribeError.__init__" 204 205 4 3 23 24 (vr 25) (vr 26) (vr 27) 209 210
def o16:Obj:=fm "__init__" "ScribeError.__init__" 1 0 (vr 22) z2 (vr 28)
def o17:Obj:=ot #[vs "word" 212]
def o18 (P:Params):Obj:={ cls:=vt "dict",data:=Data.dict #[de P "__module__" 196 z2,de P "__firstlineno__" 200 (vi 2 199),de P "__init__" 211 (vr 29),de P "__static_attributes__" 213 (vr 30),de P "__weakref__" 215 (vr 33),de P "__doc__" 216 (vn)] 3 }
def o19:Obj:={ cls:=vt "type",data:=Data.cls { name:=u "ScribeError",bases:=[vt "ValueError"],mro:=[vr 32,vt "ValueError",vt "Exception",vt "BaseException",vt "object"],ns:=31,qualname:=u "ScribeError",subclasses:=[vr 53,vr 73] },slots:=#[some (vr 15),none,some (vs "ScribeError" 189),some (vs "ScribeError" 197),some (Value.builtin "ValueError.__new__"),some (vb)] }
def o20:Obj:={ cls:=vt "getset_descriptor",data:=Data.fields #[vs "__weakref__" 214,vr 32,Value.builtin "ExceptionGroup.__weakref__",vn] }
def o21:Obj:={ cls:=vt "super",data:=Data.fields #[vr 32,vr 32,vr 32] }
def o22:Obj:={ cls:=vt "builtin_function_or_method",data:=Data.fields #[Value.builtin "object.__init_subclass__",vr 32] }
def o23:Obj:=ot #[vr 32]
def o24 (P:Params):Obj:={ cls:=vt "dict",data:=Data.dict #[de P "__module__" 226 z2,de P "__qualname__" 228 (vs "BadSize" 227),de P "__firstlineno__" 230 (vi 7 229),de P "__init__" 239 (vr 50),de P "__static_attributes__" 240 (vr 51)] 5 }
def o25:Obj:={ cls:=vn,data:=Data.fields #[vi 9 0,vi 4 0,vr 49] }
def o26:Obj:=oc #[vs "BadSize" 221,vs "BadSize" 222,vf 223,vi 7 0,vi 0 0,vi 0 0,vi 0 0,vi 0 0,vr 39,Value.bool false,vi 181 0,vr 40,vn,vn,vn,vn,vi 224 0,vi 7 0,vf 225]
def o27:Obj:={ cls:=vt "frame",slots:=#[some (vr 41),some (vr 3),some (vr 38),none,some z2,none,some (vr 0)] }
def o28:Obj:=ot #[vs "" 231]
def o29:Obj:=ot #[vs "self" 235,vs "words" 236]
def o30:Obj:=gm "__init__" "BadSize.__init__" 2 0
def o31:Obj:=oq "__init__" 232 "BadSize.__init__" 233 234 9 2 44 45 (vr 46) (vr 47) (vr 48) 237 238
def o32:Obj:=fm "__init__" "BadSize.__init__" 2 0 (vr 43) z2 (vr 49)
def o33 (P:Params):Obj:={ cls:=vt "dict",data:=Data.dict #[de P "__module__" 226 z2,de P "__firstlineno__" 230 (vi 7 229),de P "__init__" 239 (vr 50),de P "__static_attributes__" 240 (vr 51),de P "__doc__" 241 (vn)] 2 }
def o34:Obj:={ cls:=vt "type",data:=Data.cls { name:=u "BadSize",bases:=[vr 32],mro:=[vr 53,vr 32,vt "ValueError",vt "Exception",vt "BaseException",vt "object"],ns:=52,qualname:=u "BadSize" },slots:=#[some (vr 36),none,some (vs "BadSize" 219),some (vs "BadSize" 227),some (Value.builtin "ValueError.__new__"),some (vb)] }
def o35:Obj:={ cls:=vt "super",data:=Data.fields #[vr 53,vr 53,vr 53] }
def o36:Obj:={ cls:=vt "builtin_function_or_method",data:=Data.fields #[Value.builtin "object.__init_subclass__",vr 53] }
def o37 (P:Params):Obj:={ cls:=vt "dict",data:=Data.dict #[de P "__module__" 251 z2,de P "__qualname__" 253 (vs "BadTie" 252),de P "__firstlineno__" 255 (vi 11 254),de P "__init__" 264 (vr 70),de P "__static_attributes__" 265 (vr 71)] 5 }
def o38:Obj:={ cls:=vn,data:=Data.fields #[vi 13 0,vi 4 0,vr 69] }
def o39:Obj:=oc #[vs "BadTie" 246,vs "BadTie" 247,vf 248,vi 11 0,vi 0 0,vi 0 0,vi 0 0,vi 0 0,vr 59,Value.bool false,vi 181 0,vr 60,vn,vn,vn,vn,vi 249 0,vi 11 0,vf 250]
def o40:Obj:={ cls:=vt "frame",slots:=#[some (vr 61),some (vr 3),some (vr 58),none,some z2,none,some (vr 0)] }
def o41:Obj:=ot #[vs "" 256]
def o42:Obj:=ot #[vs "self" 260,vs "words" 261]
def o43:Obj:=gm "__init__" "BadTie.__init__" 3 0
def o44:Obj:=oq "__init__" 257 "BadTie.__init__" 258 259 13 2 64 65 (vr 66) (vr 67) (vr 68) 262 263
def o45:Obj:=fm "__init__" "BadTie.__init__" 3 0 (vr 63) z2 (vr 69)
def o46 (P:Params):Obj:={ cls:=vt "dict",data:=Data.dict #[de P "__module__" 251 z2,de P "__firstlineno__" 255 (vi 11 254),de P "__init__" 264 (vr 70),de P "__static_attributes__" 265 (vr 71),de P "__doc__" 266 (vn)] 2 }
def o47:Obj:={ cls:=vt "type",data:=Data.cls { name:=u "BadTie",bases:=[vr 32],mro:=[vr 73,vr 32,vt "ValueError",vt "Exception",vt "BaseException",vt "object"],ns:=72,qualname:=u "BadTie" },slots:=#[some (vr 56),none,some (vs "BadTie" 244),some (vs "BadTie" 252),some (Value.builtin "ValueError.__new__"),some (vb)] }
def o48:Obj:={ cls:=vt "super",data:=Data.fields #[vr 73,vr 73,vr 73] }
def o49:Obj:={ cls:=vt "builtin_function_or_method",data:=Data.fields #[Value.builtin "object.__init_subclass__",vr 73] }
def o50:Obj:=ot #[vs "lanes" 287]
def o51:Obj:=gt "need_lanes" 10
def o52:Obj:=ok "need_lanes" 284 285 286 21 1 76 77 (vr 78) (vr 79) (vr 80) 288 289
def o53:Obj:=ft "need_lanes" 10 vn z1 (vr 81)
def o54:Obj:=ot #[vs "lanes" 294,vs "ties" 295,vs "one" 296,vs "other" 297,vs "least" 298]
def o55:Obj:=gt "need_ties" 11
def o56:Obj:=ok "need_ties" 291 292 293 24 2 83 84 (vr 85) (vr 86) (vr 87) 299 300
def o57:Obj:=ft "need_ties" 11 vn z1 (vr 88)
def o58:Obj:=ot #[vs "most" 305]
def o59:Obj:=gt "need_most" 12
def o60:Obj:=ok "need_most" 302 303 304 30 1 90 91 (vr 92) (vr 93) (vr 94) 306 307
def o61:Obj:=ft "need_most" 12 vn z1 (vr 95)
def o62:Obj:=ot #[vs "lanes" 312,vs "ties" 313,vs "most" 314]
def o63:Obj:=gt "need_all" 13
def o64:Obj:=ok "need_all" 309 310 311 33 3 97 98 (vr 99) (vr 100) (vr 101) 315 316
def o65:Obj:=ft "need_all" 13 vn z1 (vr 102)
def o66:Obj:=gt "bounds" 14
def o67:Obj:=ok "bounds" 318 319 320 37 2 104 105 vn vn (vr 106) 321 322
def o68:Obj:=ft "bounds" 14 vn z1 (vr 107)
def o69:Obj:=gt "raised" 15
def o70:Obj:=ok "raised" 324 325 326 40 2 109 110 vn vn (vr 111) 327 328
def o71:Obj:=ft "raised" 15 vn z1 (vr 112)
def o72 (P:Params):Obj:={ cls:=vt "dict",data:=Data.dict #[de P "most" 330 (vi 99999 273)] 1 }
def o73:Obj:=gt "amounts" 16
def o74:Obj:=oc #[vs "amounts" 331,vs "amounts" 332,vf 333,vi 54 0,vi 2 0,vi 0 0,vi 1 0,vi 3 0,vr 115,vb,vi 181 0,vr 116,vn,vn,vn,vr 117,vi 334 0,vi 54 0,vf 335]
def o75:Obj:={ cls:=vt "function",data:=Data.func { name:=u "amounts",qualname:=u "amounts",params:=TA 16,body:=FuncBody.stmts (TB 16),scope:=TS 16,globals:=3,closure:=[],defaults:=vn,kwdefaults:=vr 114,pyModule:=z1,code:=vr 118 } }
def o76 (P:Params):Obj:={ cls:=vt "dict",data:=Data.dict #[de P "most" 337 (vi 99999 273)] 1 }
def o77:Obj:=ot #[vs "lanes" 341,vs "ties" 342,vs "most" 343,vs "heights" 344,vs "raised_by" 345,vs "still" 346]
def o78:Obj:=gt "ring" 17
def o79:Obj:=oc #[vs "ring" 338,vs "ring" 339,vf 340,vi 58 0,vi 2 0,vi 0 0,vi 1 0,vi 3 0,vr 121,vb,vi 181 0,vr 122,vn,vr 123,vr 124,vr 125,vi 347 0,vi 58 0,vf 348]
def o80:Obj:={ cls:=vt "function",data:=Data.func { name:=u "ring",qualname:=u "ring",params:=TA 17,body:=FuncBody.stmts (TB 17),scope:=TS 17,globals:=3,closure:=[],defaults:=vn,kwdefaults:=vr 120,pyModule:=z1,code:=vr 126 } }
def KK:Params->Frag:=fun P=>
 (nat_lit 2,{ cls:=vn,data:=Data.dict #[] })::
 (nat_lit 3,{ cls:=vt "dict",data:=Data.dict #[de P "__name__" 165 z3,de P "__doc__" 166 (vn),de P "__package__" 167 (vn),de P "__loader__" 168 (Value.builtin "__main__.__loader__#opaque"),de P "__spec__" 169 (vn),de P "__annotations__" 170 (vr 6),de P "__builtins__" 171 (vr 4),de P "__file__" 173 (vf 172),de P "__cached__" 174 (vn),de P "ScribeError" 218 (vr 32),de P "BadSize" 243 (vr 53),de P "BadTie" 268 (vr 73),de P "LIMIT" 270 (vi 999999 269),de P "MOST_AMOUNT" 274 (vi 99999 273),de P "MOST_LANES" 276 (vi 6 275),de P "HIGHEST_MOST" 280 (vi 1000000000000 279),de P "GROUND" 283 (vi (-1) 282),de P "need_lanes" 290 (vr 82),de P "need_ties" 301 (vr 89),de P "need_most" 308 (vr 96),de P "need_all" 317 (vr 103),de P "bounds" 323 (vr 108),de P "raised" 329 (vr 113),de P "amounts" 336 (vr 119),de P "ring" 349 (vr 127),de P "ring_behind" 360 (vr 134),de P "meets" 367 (vr 140),de P "_law_begin" 378 (vr 147),de P "_law_pick" 389 (vr 154),de P "_law_of" 397 (vr 161),de P "_law_same" 403 (vr 166),de P "_law_num" 410 (vr 173),de P "_law_ties" 423 (vr 180),de P "_law_meets" 429 (vr 185),de P "_law_is_ring" 435 (vr 190),de P "_law_borne" 441 (vr 195),de P "law" 447 (vr 200)] 37 })::
 (nat_lit 15,o6)::
 (nat_lit 22,o12)::
 (nat_lit 23,o0)::
 (nat_lit 25,o13)::
 (nat_lit 26,o0)::
 (nat_lit 28,o15)::
 (nat_lit 29,o16)::
 (nat_lit 30,o17)::
 (nat_lit 31,o18 P)::
 (nat_lit 32,o19)::
 (nat_lit 33,o20)::
 (nat_lit 36,o23)::
 (nat_lit 43,o28)::
 (nat_lit 44,o0)::
 (nat_lit 46,o29)::
 (nat_lit 47,o0)::
 (nat_lit 49,o31)::
 (nat_lit 50,o32)::
 (nat_lit 51,o0)::
 (nat_lit 52,o33 P)::
 (nat_lit 53,o34)::
 (nat_lit 56,o23)::
 (nat_lit 63,o41)::
 (nat_lit 64,o0)::
 (nat_lit 66,o42)::
 (nat_lit 67,o0)::
 (nat_lit 69,o44)::
 (nat_lit 70,o45)::
 (nat_lit 71,o0)::
 (nat_lit 72,o46 P)::
 (nat_lit 73,o47)::
 (nat_lit 76,o0)::
 (nat_lit 78,o50)::
 (nat_lit 79,o0)::
 (nat_lit 81,o52)::
 (nat_lit 82,o53)::
 (nat_lit 83,o0)::
 (nat_lit 85,o54)::
 (nat_lit 86,o0)::
 (nat_lit 88,o56)::
 (nat_lit 89,o57)::
 (nat_lit 90,o0)::
 (nat_lit 92,o58)::
 (nat_lit 93,o0)::
 (nat_lit 95,o60)::
 (nat_lit 96,o61)::
 (nat_lit 97,o0)::
 (nat_lit 99,o62)::
 (nat_lit 100,o0)::
 (nat_lit 102,o64)::
 (nat_lit 103,o65)::
 (nat_lit 104,o0)::
 (nat_lit 107,o67)::
 (nat_lit 108,o68)::
 (nat_lit 109,o0)::
 (nat_lit 112,o70)::
 (nat_lit 113,o71)::
 (nat_lit 114,o72 P)::
 (nat_lit 115,o0)::
 (nat_lit 118,o74)::
 (nat_lit 119,o75)::
 (nat_lit 120,o76 P)::
 (nat_lit 121,o0)::
 (nat_lit 123,o77)::
 (nat_lit 124,o0)::
 (nat_lit 126,o79)::
 (nat_lit 127,o80)::
 (nat_lit 128,o0)::
 (nat_lit 130,ot #[vs "at" 353,vs "raised_by" 354,vs "many" 355,vs "turn" 356,vs "found" 357])::
 (nat_lit 131,o0)::
 (nat_lit 133,ok "ring_behind" 350 351 352 62 3 128 129 (vr 130) (vr 131) (vr 132) 358 359)::
 (nat_lit 134,ft "ring_behind" 18 vn z1 (vr 133))::
 (nat_lit 135,{ cls:=vt "dict",data:=Data.dict #[de P "most" 361 (vi 99999 273)] 1 })::
 (nat_lit 136,o0)::
 (nat_lit 139,oc #[vs "meets" 362,vs "meets" 363,vf 364,vi 69 0,vi 3 0,vi 0 0,vi 1 0,vi 3 0,vr 136,vb,vi 181 0,vr 137,vn,vn,vn,vr 138,vi 365 0,vi 69 0,vf 366])::
 (nat_lit 140,{ cls:=vt "function",data:=Data.func { name:=u "meets",qualname:=u "meets",params:=TA 19,body:=FuncBody.stmts (TB 19),scope:=TS 19,globals:=3,closure:=[],defaults:=vn,kwdefaults:=vr 135,pyModule:=z1,code:=vr 139 } })::
 (nat_lit 141,o0)::
 (nat_lit 143,ot #[vs "_law_script" 373,vs "_law_seed" 374,vs "_law_cell" 375])::
 (nat_lit 144,o0)::
 (nat_lit 146,ok "_law_begin" 370 371 372 76 1 141 142 (vr 143) (vr 144) (vr 145) 376 377)::
 (nat_lit 147,ft "_law_begin" 21 vn z3 (vr 146))::
 (nat_lit 148,o0)::
 (nat_lit 150,ot #[vs "_law_d" 382,vs "_law_many" 383,vs "_law_cell" 384,vs "_law_digit" 385,vs "_law_one" 386])::
 (nat_lit 151,o0)::
 (nat_lit 153,ok "_law_pick" 379 380 381 81 2 148 149 (vr 150) (vr 151) (vr 152) 387 388)::
 (nat_lit 154,ft "_law_pick" 22 vn z3 (vr 153))::
 (nat_lit 155,o0)::
 (nat_lit 157,ot #[vs "_law_d" 393,vs "_law_things" 394])::
 (nat_lit 158,o0)::
 (nat_lit 160,ok "_law_of" 390 391 392 96 2 155 156 (vr 157) (vr 158) (vr 159) 395 396)::
 (nat_lit 161,ft "_law_of" 23 vn z3 (vr 160))::
 (nat_lit 162,o0)::
 (nat_lit 165,ok "_law_same" 398 399 400 98 2 162 163 vn vn (vr 164) 401 402)::
 (nat_lit 166,ft "_law_same" 24 vn z3 (vr 165))::
 (nat_lit 167,o0)::
 (nat_lit 169,ot #[vs "_law_found" 407])::
 (nat_lit 170,o0)::
 (nat_lit 172,ok "_law_num" 404 405 406 108 1 167 168 (vr 169) (vr 170) (vr 171) 408 409)::
 (nat_lit 173,ft "_law_num" 25 vn z3 (vr 172))::
 (nat_lit 174,o0)::
 (nat_lit 176,ot #[vs "_law_d" 414,vs "_law_lanes" 415,vs "_law_wide" 416,vs "_law_found" 417,vs "_law_step" 418,vs "_law_one" 419,vs "_law_other" 420])::
 (nat_lit 177,o0)::
 (nat_lit 179,ok "_law_ties" 411 412 413 110 3 174 175 (vr 176) (vr 177) (vr 178) 421 422)::
 (nat_lit 180,ft "_law_ties" 26 vn z3 (vr 179))::
 (nat_lit 181,o0)::
 (nat_lit 184,ok "_law_meets" 424 425 426 118 3 181 182 vn vn (vr 183) 427 428)::
 (nat_lit 185,ft "_law_meets" 27 vn z3 (vr 184))::
 (nat_lit 186,o0)::
 (nat_lit 189,ok "_law_is_ring" 430 431 432 122 4 186 187 vn vn (vr 188) 433 434)::
 (nat_lit 190,ft "_law_is_ring" 28 vn z3 (vr 189))::
 (nat_lit 191,o0)::
 (nat_lit 194,ok "_law_borne" 436 437 438 132 2 191 192 vn vn (vr 193) 439 440)::
 (nat_lit 195,ft "_law_borne" 29 vn z3 (vr 194))::
 (nat_lit 196,o0)::
 (nat_lit 199,ok "law" 442 443 444 138 1 196 197 vn vn (vr 198) 445 446)::
 (nat_lit 200,ft "law" 30 vn z3 (vr 199))::[]
def asK:List Addr:=[2,3,15,22,23,25,26,28,29,30,31,32,33,36,43,44,46,47,49,50,51,52,53,56,63,64,66,67,69,70,71,72,73,76,78,79,81,82,83,85,86,88,89,90,92,93,95,96,97,99,100,102,103,104,107,108,109,112,113,114,115,118,119,120,121,123,124,126,127,128,130,131,133,134,135,136,139,140,141,143,144,146,147,148,150,151,153,154,155,157,158,160,161,162,165,166,167,169,170,172,173,174,176,177,179,180,181,184,185,186,189,190,191,194,195,196,199,200]
theorem eK:∀ P,asK=(KK P).map (·.1):=fun P=>by kernel_rfl
def vw:Program:={ PySem.Challenge.pw_lanescribe_k25_whole_amounts_or_a_ring with main:={ PySem.Challenge.pw_lanescribe_k25_whole_amounts_or_a_ring.main with body:=[tp 1,tp 2,tp 3,tp 4,tp 6,tp 7,tp 8,tp 9,tp 10,tp 11,tp 12,tp 13,tp 14,tp 15,tp 18,tp 21,tp 22,tp 23,tp 24,tp 25,tp 26,tp 27,tp 28,tp 29,tp 30] } }
def ls:List Str:=[u "ScribeError",u "BadSize",u "BadTie",u "HIGHEST_MOST",u "amounts",u "ring",u "meets"]
def lv:List (Str×WData):=[(u "HIGHEST_MOST",WData.int 1000000000000)]
abbrev Xt:Shared->Bool:=fun s=>xlAt vw lv s && recOk (RowW.records (OpenRow.toRowW PySem.Challenge.rw_lanescribe_k25_whole_amounts_or_a_ring.row)) s
abbrev hk:Hook:=kHook KK asK eK
theorem said:PySem.Challenge.rw_lanescribe_k25_whole_amounts_or_a_ring.wellSaid=true:=by kernel_rfl
theorem openP:opening (OpenRow.toRowW PySem.Challenge.rw_lanescribe_k25_whole_amounts_or_a_ring.row).prog=plainProg (OpenRow.toRowW PySem.Challenge.rw_lanescribe_k25_whole_amounts_or_a_ring.row).prog.main.scope.names:=by kernel_rfl
theorem by_parts {p:Program} {w:World} {N L:Nat} {s0 s':Shared} {t':Thread} {m0:Nat} {ann:Option Value} {β:Type} {F:Shared->β} {X:β} (h1:(s0.heap.isNs mainGlobals && s0.gens.size == 0)=true) (h2:s0.heap.objs.size=m0) (h3:s0.heap.nsMap mainGlobals "__annotations__" = ann)
 (chain:∀ r,topRun treeTable p w m0 ann L s' t'=some r->topRun treeTable p w m0 ann N s0 (topStub p)=some r)
 (last:((topRun treeTable p w m0 ann L s' t').bind fun s₁=>match staticsOk (importedModules p.main.body) s0.heap s₁.heap && namesBound p s₁.heap && gensDone s₁ && laidKept s0.heap s₁.heap with
  |true=>some s₁
  |false=>none).map F=some X):(topFrom treeTable p w N s0).map F=some X:=by
 cases hA:topRun treeTable p w m0 ann L s' t' with
 |none=>rw [hA] at last;cases last
 | some r=>
   have e:=chain r hA
   unfold topFrom
   rw [h1,h2,h3,e]
   rw [hA] at last
   exact last
abbrev pp:Program:=(OpenRow.toRowW PySem.Challenge.rw_lanescribe_k25_whole_amounts_or_a_ring.row).prog
def env:Env:={ scope:=pp.main.scope,locals:=mainNs,globals:=mainNs,cells:=[],code:=vr 13,frame:=some 14 }
abbrev cd:Code:=.body (behindTheImports pp) env
abbrev fp:Pos:={ line:=0,col:=0,endLine:=0,endCol:=0 }
abbrev an:Option Value:=some (vr 6)
abbrev S_0 (w:World) (os:OsState):Shared:=⟨boot_heap w.params,Array.mk [],boot_drawn,boot_toks,os⟩
def h_a (P:Params):Heap:=⟨⟨boot_o_0 P::boot_o_1 P::boot_o_2 P::boot_o_3 P::boot_o_4 P::boot_o_5 P::boot_o_6 P::boot_o_7 P::boot_o_8 P::boot_o_9 P::boot_o_10 P::o0::o1::o2::o3::[]⟩,{ }⟩
abbrev S_a (w:World) (os:OsState):Shared:=⟨h_a w.params,Array.mk [],{ },187,os⟩
abbrev p_a:Pos:={ line:=0,col:=0,endLine:=0,endCol:=0 }
def h_b (P:Params):Heap:=⟨⟨boot_o_0 P::boot_o_1 P::boot_o_2 P::boot_o_3 P::boot_o_4 P::boot_o_5 P::boot_o_6 P::boot_o_7 P::boot_o_8 P::boot_o_9 P::boot_o_10 P::o0::o1::o2::o3::[]⟩,{ }⟩
abbrev S_b (w:World) (os:OsState):Shared:=⟨h_b w.params,Array.mk [],{ },187,os⟩
abbrev p_b:Pos:={ line:=0,col:=0,endLine:=0,endCol:=0 }
theorem r_a (w:World) (os:OsState):topGo treeTable pp w 11 an 12 (S_0 w os) (topStub pp)=some (S_a w os,⟨denote treeTable cd,cd,p_a,[topFrame fp]⟩):=by kernel_rfl
theorem r_b (w:World) (os:OsState):segRun treeTable pp w 11 an 1 1 (S_a w os) (blockOf (behindTheImports pp) env cd p_a [topFrame fp])=some (.next,S_b w os,cd,p_b):=by kernel_rfl
def h_c18 (P:Params):Heap:=⟨⟨boot_o_0 P::boot_o_1 P::boot_o_2 P::o4 P::boot_o_4 P::boot_o_5 P::boot_o_6 P::boot_o_7 P::boot_o_8 P::boot_o_9 P::boot_o_10 P::o0::o5::o2::o3::o6::o7::o8 P::o0::o9::o10::o11::o12::o0::o1::o13::o0::o14::o15::o16::o17::o18 P::o19::o20::o21::o22::o23::o7::o24 P::o0::o25::o26::o27::o28::o0::o1::o29::o0::o30::o31::o32::o0::o33 P::o34::o35::o36::o23::o7::o37 P::o0::o38::o39::o40::o41::o0::o1::o42::o0::o43::o44::o45::o0::o46 P::o47::o48::o49::o0::o1::o50::o0::o51::o52::o53::o0::o1::o54::o0::o55::o56::o57::o0::o1::o58::o0::o59::o60::o61::o0::o1::o62::o0::o63::o64::o65::o0::o1::o66::o67::o68::o0::o1::o69::o70::o71::o72 P::o0::o1::o73::o74::o75::o76 P::o0::o1::o77::o0::o78::o79::o80::[]⟩,{ }⟩
abbrev S_c18 (w:World) (os:OsState):Shared:=⟨h_c18 w.params,Array.mk [],{ },350,os⟩
abbrev p_c18:Pos:={ line:=58,col:=0,endLine:=61,endCol:=81 }
abbrev l_18:List Stmt:=((behindTheImports pp).drop 0).take 18
theorem r_18 (w:World) (os:OsState):segRun treeTable pp w 11 an 1 1037 (S_b w os) (piecesOf l_18 env cd p_b [topFrame fp])=some (.next,S_c18 w os,cd,p_c18):=by kernel_rfl
abbrev l_z:List Stmt:=(behindTheImports pp).drop 18
theorem all_l:behindTheImports pp=(l_18++l_z):=by kernel_rfl
theorem last (w:World) (os:OsState):((topRun treeTable pp w 11 an 864 (S_c18 w os) (restOf l_z env cd p_c18 [topFrame fp])).bind fun s₁=>match staticsOk (importedModules pp.main.body) (S_0 w os).heap s₁.heap && namesBound pp s₁.heap && gensDone s₁ && laidKept (S_0 w os).heap s₁.heap with
 |true=>some s₁
 |false=>none).map (fun s=>(openSeen vw ls (importedModules pp.main.body) Xt true s,hk.obs s))=some (openGood vw ls,hk.val w):=by kernel_rfl
theorem chain (w:World) (os:OsState) (r:Shared) (h:topRun treeTable pp w 11 an 864 (S_c18 w os) (restOf l_z env cd p_c18 [topFrame fp])=some r):topRun treeTable pp w 11 an 1914 (S_0 w os) (topStub pp)=some r:=by
 have k:topRun treeTable pp w 11 an 1901 (S_b w os) (restOf (l_18++l_z) env cd p_b [topFrame fp])=some r:=piece_app (r_18 w os) (h)
 rw [← all_l] at k
 exact go_top (n:=12) (N:=1902) (r_a w os) (piece_block (n:=1) (N:=1901) (r_b w os) k)
theorem run (w:World) (os:OsState):(topFrom treeTable pp w 1914 (S_0 w os)).map (fun s=>(openSeen vw ls (importedModules pp.main.body) Xt true s,hk.obs s))=some (openGood vw ls,hk.val w):=by_parts (s0:=S_0 w os) (by kernel_rfl) (by kernel_rfl) (by kernel_rfl) (chain w os) (last w os)
theorem left:LeftO (OpenRow.toRowW PySem.Challenge.rw_lanescribe_k25_whole_amounts_or_a_ring.row).prog vw ls Xt hk.obs hk.val 1914:=left_boot openP (by decide) (fun s=>by kernel_rfl) run
theorem head (hw:(OpenRow.toRowW PySem.Challenge.rw_lanescribe_k25_whole_amounts_or_a_ring.row).promised) {d:DefRec} {kwd:List (Str×Expr)} (hdef:defOf vw PySem.Challenge.rw_lanescribe_k25_whole_amounts_or_a_ring.row.name=some (d,kwd)) (hp:PySem.Challenge.rw_lanescribe_k25_whole_amounts_or_a_ring.row.prog.theDef PySem.Challenge.rw_lanescribe_k25_whole_amounts_or_a_ring.row.name=some (d.params,d.body,d.scope)) (hk1:kwWritten? d.params.kwonlyargs d.params.kw_defaults=some kwd)
 (hc:WalkO vw ls (XL vw lv) (kHook KK asK eK).says (OpenRow.toRowW PySem.Challenge.rw_lanescribe_k25_whole_amounts_or_a_ring.row) d kwd fun f vs=>PySem.call f vs):PySem.Challenge.rw_lanescribe_k25_whole_amounts_or_a_ring.Holds:=
 holds_law said fun said'=>holds_open (q:=vw) (loose:=ls) (Xt:=Xt) (XP:=XL vw lv) (Yf:=hk.obs) (Ya:=hk.val) (YP:=hk.says) (N:=1914) left hk.of hk.keeps (fun s e=>xl_of s (Bool.and_eq_true_iff.mp e).1) XL.keeps hdef hp hk1 (fun s e=>recFacts_of (Bool.and_eq_true_iff.mp e).2) (by rfl) said' (by decide +kernel) ⟨rfl,rfl,rfl,rfl,rfl,by decide +kernel⟩ hw hc
end
end Kd
namespace L2
open PySem PySem.Spec PyProof.Rows
abbrev Key:=Sum Int Str
def keyIs:Key->Value->Bool
 |.inl k,v=>Value.isInt k v
 |.inr x,v=>Value.isStrOf x v
def keyH (w:World):Key->Int
 |.inl k=>hashInt k
 |.inr x=>hashStr w x
theorem keyIs_shape:∀ {k:Key} {v:Value},keyIs k v=true->(∃ i t,k=Sum.inl i/\v=Value.int i t)∨(∃ x t,k=Sum.inr x/\v=Value.str x t)
 | .inl i,v,h=>by
   obtain ⟨t,e⟩:=Value.isInt_shape (k:=i) (v:=v) h
   exact .inl ⟨i,t,rfl,e⟩
 | .inr x,v,h=>by
   obtain ⟨t,e⟩:=Value.isStrOf_shape (x:=x) (v:=v) h
   exact .inr ⟨x,t,rfl,e⟩
theorem keyIs_int (i:Int) (t:Tok):keyIs (.inl i) (.int i t)=true:=by simp [keyIs,Value.isInt]
theorem keyIs_str (x:Str) (t:Tok):keyIs (.inr x) (.str x t)=true:=by simp [keyIs,Value.isStrOf]
theorem key_ll (a b:Int):decide ((Sum.inl a:Key)=Sum.inl b)=(a == b):=by
 by_cases e:a=b
 ·subst e;simp
 ·have h:¬ (Sum.inl a:Key)=Sum.inl b:=fun q=>e (Sum.inl.inj q)
  rw [decide_eq_false h]
  exact (beq_eq_false_iff_ne.mpr e).symm
theorem key_rr (a b:Str):decide ((Sum.inr a:Key)=Sum.inr b)=decide (a=b):=by
 by_cases e:a=b
 ·subst e;simp
 ·have h:¬ (Sum.inr a:Key)=Sum.inr b:=fun q=>e (Sum.inr.inj q)
  rw [decide_eq_false h,decide_eq_false e]
theorem key_lr (a:Int) (b:Str):decide ((Sum.inl a:Key)=Sum.inr b)=false:=decide_eq_false (fun q=>nomatch q)
theorem key_rl (a:Str) (b:Int):decide ((Sum.inr a:Key)=Sum.inl b)=false:=decide_eq_false (fun q=>nomatch q)
def mixKind (prog:Program) (w:World):PySem.KeyKind prog w Key where
 is:=keyIs
 hash:=keyH w
 inj:=fun v a b ha hb=>by
  rcases keyIs_shape ha with ⟨i,t,rfl,rfl⟩|⟨x,t,rfl,rfl⟩
  ·rcases keyIs_shape hb with ⟨j,u,rfl,e⟩|⟨y,u,rfl,e⟩
   ·injection e with e1 _;rw [e1]
   ·exact nomatch e
  ·rcases keyIs_shape hb with ⟨j,u,rfl,e⟩|⟨y,u,rfl,e⟩
   ·exact nomatch e
   ·injection e with e1 _;rw [e1]
 byValue:=fun k v h=>by
  rcases keyIs_shape h with ⟨i,t,rfl,rfl⟩|⟨x,t,rfl,rfl⟩ <;> rfl
 pyHash:=fun hv h=>by
  rcases keyIs_shape hv with ⟨i,t,rfl,rfl⟩|⟨x,t,rfl,rfl⟩
  ·exact wpAny_pyHash_int h
  ·exact wpAny_pyHash_str h
 eqBool:=fun hu hv h=>by
  rcases keyIs_shape hu with ⟨i,t,rfl,rfl⟩|⟨x,t,rfl,rfl⟩
  ·rcases keyIs_shape hv with ⟨j,u,rfl,rfl⟩|⟨y,u,rfl,rfl⟩
   ·rw [key_ll] at h;exact wpAny_eqBool_int h
   ·rw [key_lr] at h;exact SeqAt.EqAt.int_str i t y u _ _ _ _ h
  ·rcases keyIs_shape hv with ⟨j,u,rfl,rfl⟩|⟨y,u,rfl,rfl⟩
   ·rw [key_rl] at h;exact SeqAt.EqAt.str_int x t j u _ _ _ _ h
   ·rw [key_rr] at h;exact wpAny_eqBool_str h
 «strs»:=fun k x t v h=>by
  rcases keyIs_shape h with ⟨i,u,rfl,e⟩|⟨y,u,rfl,e⟩
  ·exact nomatch e
  ·injection e with e1 _
   subst e1
   cases v <;> rfl
theorem mixKind_int (prog:Program) (w:World) (i:Int) (t:Tok):(mixKind prog w).is (.inl i) (.int i t)=true:=keyIs_int i t
theorem mixKind_str (prog:Program) (w:World) (x:Str) (t:Tok):(mixKind prog w).is (.inr x) (.str x t)=true:=keyIs_str x t
inductive V where
 |non|bl (b:Bool)|int (i:Int)|str (x:Str)|byt (b:Array UInt8)|flt (b:UInt64)|ref (a:Addr)|ty (n:String)
 deriving DecidableEq
def RelV:V->Value->Prop
 |.non,u=>u=Value.none
 |.bl b,u=>u=Value.bool b
 |.int i,u=>∃ t,u=Value.int i t
 |.str x,u=>∃ t,u=Value.str x t
 |.byt b,u=>∃ t,u=Value.bytes b t
 |.flt b,u=>∃ t,u=Value.float b t
 |.ref a,u=>u=Value.ref a
 |.ty n,u=>u=Value.type n
abbrev Vals:List V->List Value->Prop:=Paired RelV
theorem Vals.length {xs:List V} {us:List Value} (r:Vals xs us):xs.length=us.length:=Paired.length r
theorem Vals.get:∀ {xs:List V} {us:List Value} {i:Nat} {x:V},Vals xs us->xs[i]?=some x->∃ u,us[i]?=some u/\RelV x u
 |_,_,_,_,.nil,e=>by simp at e
 |_,_,0,_,.cons r _,e=>by simp at e;subst e;exact ⟨_,rfl,r⟩
 | _,_,i+1,x,.cons _ t,e=>by
   obtain ⟨u,h1,h2⟩:=Vals.get (i:=i) (x:=x) t (by simpa using e)
   exact ⟨u,by simpa using h1,h2⟩
theorem Vals.append:∀ {xs ys:List V} {us ws:List Value},Vals xs us->Vals ys ws->Vals (xs++ys) (us++ws)
 |_,_,_,_,.nil,s=>s
 |_,_,_,_,.cons r t,s=>.cons r (Vals.append t s)
theorem Vals.take:∀ {xs:List V} {us:List Value} (n:Nat),Vals xs us->Vals (xs.take n) (us.take n)
 |_,_,0,_=>.nil
 |_,_,_+1,.nil=>.nil
 |_,_,n+1,.cons r t=>.cons r (Vals.take n t)
theorem Vals.drop:∀ {xs:List V} {us:List Value} (n:Nat),Vals xs us->Vals (xs.drop n) (us.drop n)
 |_,_,0,r=>r
 |_,_,_+1,.nil=>.nil
 |_,_,n+1,.cons _ t=>Vals.drop n t
def RelO:Option V->Option Value->Prop
 |some v,some u=>RelV v u
 |none,none=>True
 |_,_=>False
def KV {κ:Type}:List (κ×V)->List (κ×Value)->Prop:=Paired fun (p:κ×V) (q:κ×Value)=>p.1=q.1/\RelV p.2 q.2
def kV:Key->V
 |.inl i=>.int i
 |.inr x=>.str x
inductive HO where
 |lst (xs:List V)
 |tup (xs:List V)
 |dK (kvs:List (Key×V))|dT (kvs:List (List Key×V))
 |set (S:Int->Bool) (n:Nat)
 |ins (C dx:Addr) (fs:List (Str×V))
 |own (x:Addr)
 |xd (fs:List (Str×V))
 |met (f x:Addr)
 |rng (lo hi:Int)
 |frz (o:Obj) (u:HO)
 |tbl (ps:Array Value)
 |ext (φ:Heap->Prop)
abbrev Hp:=Addr->Option HO
def upd (H:Hp) (a:Addr) (o:HO):Hp:=fun b=>if b=a then some o else H b
theorem upd_same {H:Hp} {a:Addr} {o:HO}:upd H a o a=some o:=by unfold upd;rw [if_pos rfl]
theorem upd_ne {H:Hp} {a b:Addr} {o:HO} (h:b≠a):upd H a o b=H b:=by unfold upd;rw [if_neg h]
theorem upd_upd {H:Hp} {a:Addr} {o u:HO}:upd (upd H a o) a u=upd H a u:=by
 funext b;unfold upd;split <;> rfl
theorem ne_of {H:Hp} {a b:Addr} {o u:HO} (h:H a=some o) (h':H b=some u) (d:o≠u):a≠b:=by
 intro e;subst e;rw [h] at h';exact d (Option.some.inj h')
theorem ne_of_none {H:Hp} {a b:Addr} {o:HO} (h:H a=some o) (h':H b=none):a≠b:=by
 intro e;subst e;rw [h] at h';cases h'
section
variable (P:Program) (w:World)
def ObjOk (H:Hp) (h:Heap) (a:Addr):HO->Prop
 |.lst xs=>xs.length≤sizeLine/\∃ (its:List Value) (n:Nat),Vals xs its/\h.get? a=some { cls:=.type "list",data:=.seq its.toArray n }
 |.tup xs=>xs.length≤sizeLine/\∃ its:List Value,Vals xs its/\IsTup h a its.toArray
 |.dK kvs=>kvs.length≤sizeLine/\(a == sysModules)=false/\∃ vs,KV kvs vs/\h.DictOf (mixKind P w) a vs
 |.dT kvs=>kvs.length≤sizeLine/\(a == sysModules)=false/\∃ xs:List (List Key×Addr×Value),
  Paired (fun (p:List Key×V) (q:List Key×Addr×Value)=>p.1=q.1/\H q.2.1=some (.tup (p.1.map kV))/\RelV p.2 q.2.2) kvs xs/\
  ∃ o es ep,h.get? a=some o/\o.ExactDict/\o.data=.dict es ep/\es.toList=xs.map (entryOfKey (tupleKind (mixKind P w)))/\(xs.map (·.1)).Nodup
 |.set S n=>h.SetOf (intKind P w) a S n
 |.ins C dx fs=>H dx=some (.own a)/\fs.length≤1000/\dx≠a/\h.get? a=some (PySem.W.instObj C dx)/\
  ∃ mA,h.Ns1 dx mA/\(∀ f,RelO (fs.lookup f) (mA f))/\PySem.Within mA (fs.map (·.1))
 |.own _=>∃ o,h.get? a=some o
 |.xd fs=>∃ mA,h.Ns1 a mA/\∀ f,RelO (fs.lookup f) (mA f)
 |.rng lo hi=>∃ t u v,h.get? a=some { cls:=.type "range",data:=.fields #[.int lo t,.int hi u,.int 1 v] }
 |.frz o u=>h.get? a=some o/\ObjOk H h a u
 |.tbl ps=>h.get? a=some { cls:=.none,data:=.fields ps }
 |.met f x=>h.get? a=some (PySem.W.methodObj (.ref f) (.ref x))
 |.ext φ=>φ h/\(∃ o,h.get? a=some o)/\∀ h1 h2:Heap,φ h1->(∀ o,h1.get? a=some o->h2.get? a=some o)->φ h2
def HOk (H:Hp) (h:Heap):Prop:=∀ a o,H a=some o->ObjOk P w H h a o
end
section
variable {P:Program} {w:World} {H H':Hp} {h h':Heap} {a:Addr} {o:HO}
theorem ObjOk.lt (x:ObjOk P w H h a o):a<h.objs.size:=by
 cases o with
 |lst xs=>obtain ⟨_,_,_,_,e⟩:=x;exact Heap.lt_size e
 |tup xs=>obtain ⟨_,_,_,p⟩:=x;exact p.lt
 |dK kvs=>obtain ⟨_,_,_,_,o,_,_,e,_⟩:=x;exact Heap.lt_size e
 |dT kvs=>obtain ⟨_,_,_,_,o,_,_,e,_⟩:=x;exact Heap.lt_size e
 |set S n=>obtain ⟨o,_,_,_,e,_⟩:=x;exact Heap.lt_size e
 |ins C dx fs=>obtain ⟨_,_,_,e,_⟩:=x;exact Heap.lt_size e
 |own y=>obtain ⟨_,e⟩:=x;exact Heap.lt_size e
 |xd fs=>obtain ⟨_,⟨_,_,_,e,_⟩,_⟩:=x;exact Heap.lt_size e
 |rng lo hi=>obtain ⟨_,_,_,e⟩:=x;exact Heap.lt_size e
 |frz ob u=>obtain ⟨e,_⟩:=x;exact Heap.lt_size e
 |tbl ps=>exact Heap.lt_size (show h.get? a=some _ from x)
 |met f y=>exact Heap.lt_size (show h.get? a=some _ from x)
 |ext φ=>obtain ⟨_,⟨_,e⟩,_⟩:=x;exact Heap.lt_size e
theorem Paired.mapP {α β:Type} {F G:α->β->Prop}:∀ {l₁:List α} {l₂:List β},Paired F l₁ l₂->(∀ a b,F a b->G a b)->Paired G l₁ l₂
 |_,_,.nil,_=>.nil
 |_,_,.cons r t,f=>.cons (f _ _ r) (Paired.mapP t f)
theorem ObjOk.stay (x:ObjOk P w H h a o) (k:∀ b u,(b=a∨H b=some (.own a))->h.get? b=some u->h'.get? b=some u)
 (ho:∀ b,H b=some (.own a)->H' b=some (.own a)) (ht:∀ b xs,H b=some (.tup xs)->H' b=some (.tup xs)):ObjOk P w H' h' a o:=by
 induction o with
 |lst xs=>obtain ⟨z,its,n,r,e⟩:=x;exact ⟨z,its,n,r,k _ _ (.inl rfl) e⟩
 |tup xs=>obtain ⟨z,its,r,ob,e,c⟩:=x;exact ⟨z,its,r,ob,k _ _ (.inl rfl) e,c⟩
 |dK kvs=>obtain ⟨z,y,vs,r,ob,es,ep,e,c⟩:=x;exact ⟨z,y,vs,r,ob,es,ep,k _ _ (.inl rfl) e,c⟩
 | dT kvs=>
   obtain ⟨z,y,xs,r,ob,es,ep,e,c⟩:=x
   exact ⟨z,y,xs,Paired.mapP r fun p q z=>⟨z.1,ht _ _ z.2.1,z.2.2⟩,ob,es,ep,k _ _ (.inl rfl) e,c⟩
 |set S n=>obtain ⟨ob,es,ep,t,e,c⟩:=x;exact ⟨ob,es,ep,t,k _ _ (.inl rfl) e,c⟩
 | ins C dx fs=>
   obtain ⟨d,z,ne,e,mA,⟨od,es,ep,e2,c⟩,r⟩:=x
   exact ⟨ho _ d,z,ne,k _ _ (.inl rfl) e,mA,⟨od,es,ep,k _ _ (.inr d) e2,c⟩,r⟩
 |own y=>obtain ⟨ob,e⟩:=x;exact ⟨ob,k _ _ (.inl rfl) e⟩
 |xd fs=>obtain ⟨mA,⟨od,es,ep,e,c⟩,r⟩:=x;exact ⟨mA,⟨od,es,ep,k _ _ (.inl rfl) e,c⟩,r⟩
 |rng lo hi=>obtain ⟨t,u,v,e⟩:=x;exact ⟨t,u,v,k _ _ (.inl rfl) e⟩
 |frz ob u ih=>obtain ⟨e,q⟩:=x;exact ⟨k _ _ (.inl rfl) e,ih q⟩
 | tbl ps=>
   have e:h.get? a=some { cls:=.none,data:=.fields ps }:=x
   show h'.get? a=some { cls:=.none,data:=.fields ps }
   exact k a _ (.inl rfl) e
 | met f y=>
   have e:h.get? a=some (PySem.W.methodObj (.ref f) (.ref y)):=x
   show h'.get? a=some (PySem.W.methodObj (.ref f) (.ref y))
   exact k a _ (.inl rfl) e
 |ext φ=>obtain ⟨p,⟨o,e⟩,st⟩:=x;exact ⟨st _ _ p fun o q=>k _ _ (.inl rfl) q,⟨o,k _ _ (.inl rfl) e⟩,st⟩
theorem HOk.lt (x:HOk P w H h) (e:H a=some o):a<h.objs.size:=(x a o e).lt
theorem HOk.fresh (x:HOk P w H h) (e:h.objs.size≤a):H a=none:=by
 cases q:H a with
 |none=>rfl
 |some u=>exact absurd (Nat.lt_of_lt_of_le (x.lt q) e) (Nat.lt_irrefl _)
theorem HOk.kept (x:HOk P w H h) (k:∀ b u,h.get? b=some u->h'.get? b=some u):HOk P w H h':=fun a o e=>
 (x a o e).stay (fun b u _ q=>k b u q) (fun _ q=>q) fun _ _ q=>q
theorem HOk.laid (x:HOk P w H h) (k:∀ b u,h.get? b=some u->h'.get? b=some u) (hp:h.objs.size≤a) (new:ObjOk P w (upd H a o) h' a o):HOk P w (upd H a o) h':=fun b u e=>by
 have hn:=x.fresh hp
 by_cases hb:b=a
 ·subst hb;rw [upd_same] at e;cases e;exact new
 ·rw [upd_ne hb] at e
  exact (x b u e).stay (fun c v _ q=>k c v q) (fun c q=>by rw [upd_ne (ne_of_none q hn)];exact q) fun c xs q=>by rw [upd_ne (ne_of_none q hn)];exact q
end
def Rd (H:Hp) (a:Addr) (u:HO):Prop:=H a=some u∨∃ o,H a=some (.frz o u)
theorem Rd.ok {P:Program} {w:World} {H:Hp} {h:Heap} {a:Addr} {u:HO} (r:Rd H a u) (x:HOk P w H h):ObjOk P w H h a u:=by
 rcases r with r|⟨o,r⟩
 ·exact x a u r
 ·obtain ⟨_,q⟩:=x a _ r
  exact q
def Mut:Option HO->Prop
 |some (.lst _)=>True
 |some (.dK _)=>True
 |some (.dT _)=>True
 |some (.set _ _)=>True
 |some (.ins _ _ _)=>True
 |some (.ext _)=>True
 |_=>False
section
variable {P:Program} {w:World} {H:Hp} {h h':Heap} {x e:Addr} {o':HO}
theorem HOk.write (ok:HOk P w H h) (mu:Mut (H x)) (he:e=x∨H e=some (.own x)) (k:∀ b u,b≠e->h.get? b=some u->h'.get? b=some u) (heo:∃ u,h'.get? e=some u)
 (new:ObjOk P w (upd H x o') h' x o'):HOk P w (upd H x o') h':=fun b u q=>by
 have nown:∀ c y,H c=some (.own y)->c≠x:=fun c y r z=>by subst z;rw [r] at mu;exact mu
 have ntup:∀ c xs,H c=some (.tup xs)->c≠x:=fun c xs r z=>by subst z;rw [r] at mu;exact mu
 by_cases hb:b=x
 ·subst hb;rw [upd_same] at q;cases q;exact new
 ·rw [upd_ne hb] at q
  by_cases hbe:b=e
  ·have q':H b=some (.own x):=by
    rcases he with z|z
    ·exact absurd (hbe.trans z) hb
    ·rw [hbe];exact z
   rw [q] at q';cases q'
   obtain ⟨v,hv⟩:=heo
   exact ⟨v,by rw [hbe];exact hv⟩
  ·refine (ok b u q).stay (fun c v hc r=>k c v ?_ r) (fun c r=>by rw [upd_ne (nown c b r)];exact r) fun c xs r=>by rw [upd_ne (ntup c xs r)];exact r
   rcases hc with rfl|hc
   ·exact hbe
   ·rintro rfl
    rcases he with z|z
    ·exact nown c b hc z
    ·rw [hc] at z;cases z;exact hb rfl
end
structure Un (fs ex:List Addr) (H H':Hp) (h h':Heap):Prop where
 keep:∀ b o,h.get? b=some o->H b=none->b∉fs->b∉ex->h'.get? b=some o
 slot:∀ b o,h.get? b=some o->H b=none->b∈fs->b∉ex->∃ sl,h'.get? b=some { o with slots:=sl }
 free:∀ b o,h.get? b=some o->H b=none->b∉ex->H' b=none
 there:∀ b o,h.get? b=some o->b∉ex->∃ o',h'.get? b=some o'
 tups:∀ b xs,H b=some (.tup xs)->H' b=some (.tup xs)
 frzs:∀ b o u,H b=some (.frz o u)->H' b=some (.frz o u)
 tbls:∀ b ps,H b=some (.tbl ps)->∃ more,H' b=some (.tbl (ps++more))
section
variable {fs fs' ex ex':List Addr} {H H1 H2:Hp} {h h1 h2 h':Heap} {a x e:Addr} {o:HO}
theorem Un.any (u:Un fs ex H H1 h h1) {b:Addr} {ob:Obj} (q:h.get? b=some ob) (n:H b=none) (hx:b∉ex):∃ sl,h1.get? b=some { ob with slots:=sl }:=by
 by_cases hb:b∈fs
 ·exact u.slot b ob q n hb hx
 ·exact ⟨ob.slots,u.keep b ob q n hb hx⟩
theorem Un.kept (k:∀ b u,h.get? b=some u->h'.get? b=some u):Un fs ex H H h h':=
 ⟨fun b ob q _ _ _=>k b ob q,fun b ob q _ _ _=>⟨ob.slots,k b ob q⟩,fun _ _ _ n _=>n,fun b ob q _=>⟨ob,k b ob q⟩,fun _ _ q=>q,fun _ _ _ q=>q,fun _ ps q=>⟨#[],by rw [q];simp⟩⟩
theorem Un.refl:Un fs ex H H h h:=Un.kept fun _ _ q=>q
theorem Un.laid (k:∀ b u,h.get? b=some u->h'.get? b=some u) (hp:h.objs.size≤a) (hn:H a=none):Un fs ex H (upd H a o) h h' where
 keep:=fun b u q _ _ _=>k b u q
 slot:=fun b u q _ _ _=>⟨u.slots,k b u q⟩
 free:=fun b u q n _=>by rw [upd_ne (Nat.ne_of_lt (Nat.lt_of_lt_of_le (Heap.lt_size q) hp))];exact n
 there:=fun b u q _=>⟨u,k b u q⟩
 tups:=fun b xs q=>by rw [upd_ne (ne_of_none q hn)];exact q
 frzs:=fun b u xs q=>by rw [upd_ne (ne_of_none q hn)];exact q
 tbls:=fun b ps q=>⟨#[],by rw [upd_ne (ne_of_none q hn),q];simp⟩
theorem Un.write (mu:Mut (H x)) (he:e=x∨H e=some (.own x)) (k:∀ b u,b≠e->h.get? b=some u->h'.get? b=some u) (heo:∃ u,h'.get? e=some u):Un fs ex H (upd H x o) h h':=by
 have hx:∀ b,H b=none->b≠x:=fun b n z=>by subst z;rw [n] at mu;exact mu
 have hb:∀ b,H b=none->b≠e:=fun b n z=>by
  subst z
  rcases he with r|r
  ·exact hx b n r
  ·rw [n] at r;cases r
 have hm:∀ b u,H b=some u->¬ Mut (some u)->b≠x:=fun b u q nm z=>by subst z;rw [q] at mu;exact nm mu
 refine ⟨fun b u q n _ _=>k b u (hb b n) q,fun b u q n _ _=>⟨u.slots,k b u (hb b n) q⟩,fun b u q n _=>by rw [upd_ne (hx b n)];exact n,fun b u q _=>?_,
  fun b xs q=>by rw [upd_ne (hm b _ q fun z=>z)];exact q,fun b u xs q=>by rw [upd_ne (hm b _ q fun z=>z)];exact q,fun b ps q=>⟨#[],by rw [upd_ne (hm b _ q fun z=>z),q];simp⟩⟩
 by_cases hbe:b=e
 ·subst hbe;exact heo
 ·exact ⟨u,k b u hbe q⟩
end
def trk (h:Heap) (H:Hp):List Addr:=(List.range h.objs.size).filter fun a=>(H a).isSome
def hidT (h:Heap) (H:Hp):Heap:=PySem.W.hideAll h (trk h H)
theorem hidT_size (h:Heap) (H:Hp):(hidT h H).objs.size=h.objs.size:=PySem.W.hideAll_size _ _
theorem hidT_get {h:Heap} {H:Hp} {b:Addr} {o:Obj} (e:h.get? b=some o) (n:H b=none):(hidT h H).get? b=some o:=
 PySem.W.hideAll_get _ e fun hm=>by
  have q:(H b).isSome=true:=(List.mem_filter.mp hm).2
  rw [n] at q;simp at q
theorem of_hidT {h:Heap} {H:Hp} {b:Addr} {o:Obj} (e:(hidT h H).get? b=some o):h.get? b=some o/\H b=none:=by
 have e':h.get? b=some o:=PySem.W.of_hideAll (trk h H) e
 refine ⟨e',?_⟩
 cases q:H b with
 |none=>rfl
 | some x=>
   have hm:b∈trk h H:=List.mem_filter.mpr ⟨List.mem_range.mpr (Heap.lt_size e'),by simp [q]⟩
   have z:(hidT h H).get? b=none:=PySem.W.hideAll_none (trk h H) hm
   rw [z] at e;cases e
structure Mod (K:PySem.W.Frag) (mg:Str->Option Value) (base:Heap):Prop where
 kin:K.In base
 glob:base.Ns mainGlobals mg
 blt:∃ mb,base.Ns builtinsNs mb/\∀ x:Str,x ≠ "__name__"->mb x=bootBuiltins x
 nolimit:base.NoLimit
structure Cx where
 prog:Program
 w:World
 K:PySem.W.Frag
 mg:Str->Option Value
 base:Heap
 A:Around
 N:List Str
 s₀:Shared
 H₀:Hp
 env:Env
 outer:List Env
 stack:List Env
 ex:List Addr
 fn:Str->Bool
 calm:Bool
 pn:List (Addr×Obj)
 xe:Value->Shared->Prop
def frs (l:List Env):List Addr:=l.filterMap (·.frame)
abbrev Cx.fs (X:Cx):List Addr:=frs X.outer
def Vis (sc:Scope) (x:Str):Prop:=sc.names.lookup x=some .local∨sc.names.lookup x=some .cell∨sc.names.lookup x=some .free
def Loc (sc:Scope) (x:Str):Prop:=sc.names.lookup x=some .local∨sc.names.lookup x=some .cell
def Look (env:Env) (h:Heap) (m:Str->Option Value) (x:Str) (u:Value):Prop:=
 (env.kindOf x=some .local/\m x=some u)∨((env.kindOf x=some .cell∨env.kindOf x=some .free)/\∃ c,env.cells.lookup x=some c/\h.IsCell c (some u))
structure Cx.Ok (X:Cx):Prop where
 mod:Mod X.K X.mg X.base
 kind:X.env.scope.kind=.function
 glob:X.env.globals=mainGlobals
 blt:X.env.builtins=builtinsNs
 above:X.s₀.heap.objs.size≤X.env.locals
 inj:∀ x y c,X.env.cells.lookup x=some c->X.env.cells.lookup y=some c->x=y
 has:∀ x,(X.env.kindOf x=some .cell∨X.env.kindOf x=some .free)->∃ c,X.env.cells.lookup x=some c
 cab:∀ x c,X.fn x=true->X.env.cells.lookup x=some c->X.s₀.heap.objs.size≤c
 hd:X.calm=true->X.A.handled=none
 frames:X.A.frames=some X.stack
 stk:X.stack=X.outer∨(X.stack=X.env::X.outer/\X.env.frame=some X.env.locals)
 exf:∀ b∈X.ex,b≠X.env.locals/\∀ x c,X.env.cells.lookup x=some c->c≠b
 bs:∀ b o,X.base.get? b=some o->X.s₀.heap.get? b=some o/\X.H₀ b=none
 bsz:X.base.objs.size≤X.s₀.heap.objs.size
 noex:∀ b o,X.base.get? b=some o->b∉X.ex
 exfs:∀ b∈X.ex,b∉X.fs
 funs:X.s₀.heap.FunFrames X.base X.outer
 frf:∀ b∈X.fs,X.H₀ b=none
structure Inv (X:Cx) (pins:List (Addr×Obj)) (σ:List (Option V)) (H:Hp) (s:Shared):Prop where
 ok:X.Ok
 os:s.os=X.s₀.os
 bare:AllBare s.gens
 base:Un X.fs X.ex X.H₀ H X.s₀.heap s.heap
 loc:∃ m,s.heap.Ns X.env.locals m/\∀ (i:Nat) (x:Str) (v:V),X.N[i]?=some x->σ[i]?=some (some v)->Vis X.env.scope x->∃ u,RelV v u/\Look X.env s.heap m x u
 cell:∀ x c,X.env.cells.lookup x=some c->∃ v,s.heap.IsCell c v
 free:H X.env.locals=none
 freeC:∀ x c,X.env.cells.lookup x=some c->H c=none
 pin:∀ p∈X.pn++pins,s.heap.get? p.1=some p.2/\H p.1=none/\p.1≠X.env.locals/\p.1∉X.fs/\∀ v,p.2.data≠.cell v
 hok:HOk X.prog X.w H s.heap
 len:σ.length=X.N.length
section
variable {X:Cx} {pins:List (Addr×Obj)} {σ:List (Option V)} {H H':Hp} {s:Shared} {h':Heap}
theorem Cx.Ok.nofr (ok:X.Ok) {b:Addr} {o:Obj} (e:X.base.get? b=some o):b∉X.fs:=fun hb=>by
 have:=(ok.funs.mem hb).1
 rw [e] at this;cases this
theorem Inv.bs (I:Inv X pins σ H s):∀ b o,X.base.get? b=some o->s.heap.get? b=some o/\H b=none:=fun b o e=>
 ⟨I.base.keep b o (I.ok.bs b o e).1 (I.ok.bs b o e).2 (I.ok.nofr e) (I.ok.noex b o e),I.base.free b o (I.ok.bs b o e).1 (I.ok.bs b o e).2 (I.ok.noex b o e)⟩
theorem Inv.bk (I:Inv X pins σ H s):∀ b o,X.base.get? b=some o->s.heap.get? b=some o:=fun b o e=>(I.bs b o e).1
theorem Inv.mod (I:Inv X pins σ H s):Mod X.K X.mg X.base:=I.ok.mod
theorem Inv.kIn (I:Inv X pins σ H s):X.K.In s.heap:=I.ok.mod.kin.keeps I.bk
theorem Inv.lt (I:Inv X pins σ H s):X.env.locals<s.heap.objs.size:=let ⟨_,hn,_⟩:=I.loc;hn.lt
theorem Inv.sz (I:Inv X pins σ H s):X.s₀.heap.objs.size≤s.heap.objs.size:=Nat.le_trans I.ok.above (Nat.le_of_lt I.lt)
theorem Inv.nofs (I:Inv X pins σ H s) {a:Addr} (h:s.heap.objs.size≤a):a∉X.fs:=fun hb=>by
 obtain ⟨_,o,ho,_⟩:=I.ok.funs.mem hb
 exact absurd (Nat.lt_of_lt_of_le (Heap.lt_size ho) (Nat.le_trans I.sz h)) (Nat.lt_irrefl _)
theorem Inv.cne (I:Inv X pins σ H s):∀ x c,X.env.cells.lookup x=some c->c≠X.env.locals:=fun x c e z=>by
 obtain ⟨v,o,ho,hd⟩:=I.cell x c e
 obtain ⟨m,⟨o',es,ep,ho',hd',_⟩,_⟩:=I.loc
 rw [z,ho'] at ho;cases ho;rw [hd'] at hd;cases hd
theorem Inv.funs (I:Inv X pins σ H s):s.heap.FunFrames X.base X.outer:=by
 have all:∀ (l:List Env),(∀ b∈frs l,b∈X.fs)->X.s₀.heap.FunFrames X.base l->s.heap.FunFrames X.base l:=by
  intro l
  induction l with
  |nil=>intro _ _;trivial
  | cons env r ih=>
    intro hs hl
    obtain ⟨hk,⟨L,o,hf,hn,ho,hd⟩,hr⟩:=hl
    have hL:L∈X.fs:=hs L (by unfold frs;rw [List.filterMap_cons,hf];exact List.mem_cons_self)
    obtain ⟨sl,e⟩:=I.base.slot L o ho (I.ok.frf L hL) hL fun z=>I.ok.exfs L z hL
    exact ⟨hk,⟨L,_,hf,hn,e,hd⟩,ih (fun b hb=>hs b (by unfold frs;rw [List.filterMap_cons,hf];exact List.mem_cons_of_mem _ hb)) hr⟩
 exact all X.outer (fun _ hb=>hb) I.ok.funs
theorem Inv.stack (I:Inv X pins σ H s):s.heap.FunFrames X.base X.stack:=by
 rcases I.ok.stk with e|⟨e,hf⟩
 ·rw [e];exact I.funs
 ·rw [e]
  obtain ⟨m,hn,_⟩:=I.loc
  refine .cons (by rw [I.ok.kind];decide) hf hn ?_ I.funs
  exact Heap.get?_none_of_le (Nat.le_trans I.ok.bsz I.ok.above)
theorem Inv.stkSub (I:Inv X pins σ H s):∀ b∈frs X.stack,b∈X.env.locals::X.fs:=fun b hb=>by
 rcases I.ok.stk with e|⟨e,hf⟩
 ·rw [e] at hb;exact List.mem_cons_of_mem _ hb
 ·rw [e] at hb
  unfold frs at hb
  rw [List.filterMap_cons,hf] at hb
  exact hb
theorem Inv.stkFree (I:Inv X pins σ H s):∀ b∈frs X.stack,H b=none:=fun b hb=>by
 rcases List.mem_cons.mp (I.stkSub b hb) with e|hb
 ·rw [e];exact I.free
 ·obtain ⟨_,o,ho,_⟩:=I.ok.funs.mem hb
  exact I.base.free b o ho (I.ok.frf b hb) fun z=>I.ok.exfs b z hb
theorem Inv.step {g':Array GenState} {t':Nat} {d':Drawn} {ch:List Addr} (I:Inv X pins σ H s)
 (hch:∀ b∈ch,(b∈X.ex∨X.s₀.heap.objs.size≤b)/\b≠X.env.locals/\(∀ x c,X.env.cells.lookup x=some c->c≠b)/\∀ p∈X.pn++pins,p.1≠b)
 (keep:∀ b o,b≠X.env.locals->b∉X.fs->b∉ch->s.heap.get? b=some o->H b=none->h'.get? b=some o)
 (slot:∀ b o,b≠X.env.locals->b∈X.fs->b∉ch->s.heap.get? b=some o->H b=none->∃ sl,h'.get? b=some { o with slots:=sl }) (free:∀ b o,b∉ch->s.heap.get? b=some o->H b=none->H' b=none)
 (there:∀ b o,b∉ch->s.heap.get? b=some o->∃ o',h'.get? b=some o')
 (tups:∀ b xs,H b=some (.tup xs)->H' b=some (.tup xs)) (frzs:∀ b o u,H b=some (.frz o u)->H' b=some (.frz o u)) (tbls:∀ b ps,H b=some (.tbl ps)->∃ more,H' b=some (.tbl (ps++more)))
 (ns:∀ m,s.heap.Ns X.env.locals m->h'.Ns X.env.locals m) (hok:HOk X.prog X.w H' h') (hg:AllBare g') :
 Inv X pins σ H' { s with heap:=h',gens:=g',drawn:=d',toks:=t' }:=by
 have neL:∀ b o,X.s₀.heap.get? b=some o->b≠X.env.locals:=fun b o e=>Nat.ne_of_lt (Nat.lt_of_lt_of_le (Heap.lt_size e) I.ok.above)
 have neC:∀ b o,X.s₀.heap.get? b=some o->b∉X.ex->b∉ch:=fun b o e hx hb=>by
  rcases (hch b hb).1 with z|z
  ·exact hx z
  ·exact absurd (Nat.lt_of_lt_of_le (Heap.lt_size e) z) (Nat.lt_irrefl _)
 have cellK:∀ x c,X.env.cells.lookup x=some c->∀ v,s.heap.IsCell c v->h'.IsCell c v:=fun x c e v ⟨o,ho,hd⟩=>by
  have nch:c∉ch:=fun z=>(hch c z).2.2.1 x c e rfl
  by_cases hc:c∈X.fs
  ·obtain ⟨sl,q⟩:=slot c o (I.cne x c e) hc nch ho (I.freeC x c e)
   exact ⟨_,q,hd⟩
  ·exact ⟨o,keep c o (I.cne x c e) hc nch ho (I.freeC x c e),hd⟩
 refine ⟨I.ok,I.os,hg,⟨fun b o e n hb hx=>?_,fun b o e n hb hx=>?_,fun b o e n hx=>?_,fun b o e hx=>?_,fun b xs e=>tups b xs (I.base.tups b xs e),fun b o xs e=>frzs b o xs (I.base.frzs b o xs e),fun b ps e=>?_⟩,?_,fun x c e=>?_,?_,fun x c e=>?_,fun p hp=>?_,hok,I.len⟩
 ·exact keep b o (neL b o e) hb (neC b o e hx) (I.base.keep b o e n hb hx) (I.base.free b o e n hx)
 ·obtain ⟨sl,e1⟩:=I.base.slot b o e n hb hx
  obtain ⟨sl',e2⟩:=slot b _ (neL b o e) hb (neC b o e hx) e1 (I.base.free b o e n hx)
  exact ⟨sl',e2⟩
 ·obtain ⟨o',e1⟩:=I.base.there b o e hx
  exact free b o' (neC b o e hx) e1 (I.base.free b o e n hx)
 ·obtain ⟨o',e1⟩:=I.base.there b o e hx
  exact there b o' (neC b o e hx) e1
 ·obtain ⟨m1,e1⟩:=I.base.tbls b ps e
  obtain ⟨m2,e2⟩:=tbls b _ e1
  exact ⟨m1++m2,by rw [e2,Array.append_assoc]⟩
 ·obtain ⟨m,hn,hl⟩:=I.loc
  refine ⟨m,ns m hn,fun i x v e1 e2 e3=>?_⟩
  obtain ⟨u,r,l⟩:=hl i x v e1 e2 e3
  refine ⟨u,r,?_⟩
  rcases l with l|⟨k,c,e,z⟩
  ·exact .inl l
  ·exact .inr ⟨k,c,e,cellK x c e _ z⟩
 ·obtain ⟨v,z⟩:=I.cell x c e
  exact ⟨v,cellK x c e v z⟩
 ·obtain ⟨m,⟨o,_,_,ho,_⟩,_⟩:=I.loc
  exact free _ o (fun z=>(hch _ z).2.1 rfl) ho I.free
 ·obtain ⟨v,o,ho,hd⟩:=I.cell x c e
  exact free c o (fun z=>(hch c z).2.2.1 x c e rfl) ho (I.freeC x c e)
 ·obtain ⟨e,n,ne,nf,d⟩:=I.pin p hp
  have nch:p.1∉ch:=fun z=>(hch p.1 z).2.2.2 p hp rfl
  exact ⟨keep p.1 p.2 ne nf nch e n,free p.1 p.2 nch e n,ne,nf,d⟩
theorem Inv.un {t':Nat} (I:Inv X pins σ H s) (u:Un X.fs [] H H' s.heap h') (hok:HOk X.prog X.w H' h'):Inv X pins σ H' { s with heap:=h',toks:=t' }:=by
 obtain ⟨m,⟨o,es,ep,ho,r⟩,_⟩:=id I.loc
 obtain ⟨sl,hL⟩:=u.any ho I.free (by simp)
 exact I.step (g':=s.gens) (d':=s.drawn) (ch:=[]) (fun _ z=>nomatch z) (fun b o _ hb _ e n=>u.keep b o e n hb (by simp)) (fun b o _ hb _ e n=>u.slot b o e n hb (by simp)) (fun b o _ e n=>u.free b o e n (by simp)) (fun b o _ e=>u.there b o e (by simp)) u.tups u.frzs u.tbls (fun m' hm=>by
  obtain ⟨o',es',ep',ho',r'⟩:=hm
  rw [ho] at ho';cases ho'
  exact ⟨_,es',ep',hL,r'⟩) hok I.bare
theorem Inv.call {g':Array GenState} {t':Nat} {d':Drawn} {ch:List Addr} (I:Inv X pins σ H s) (u:Un (frs X.stack) ch H H' s.heap h') (hok:HOk X.prog X.w H' h') (hg:AllBare g')
 (hch:∀ b∈ch,(b∈X.ex∨X.s₀.heap.objs.size≤b)/\b≠X.env.locals/\(∀ x c,X.env.cells.lookup x=some c->c≠b)/\∀ p∈X.pn++pins,p.1≠b) :
 Inv X pins σ H' { s with heap:=h',gens:=g',drawn:=d',toks:=t' }:=by
 obtain ⟨m,⟨o,es,ep,ho,r⟩,_⟩:=id I.loc
 obtain ⟨sl,hL⟩:=u.any ho I.free fun z=>(hch _ z).2.1 rfl
 exact I.step (ch:=ch) hch (fun b o hL hb hc e n=>u.keep b o e n (fun z=>(List.mem_cons.mp (I.stkSub b z)).elim hL hb) hc) (fun b o _ _ hc e n=>u.any e n hc) (fun b o hc e n=>u.free b o e n hc) (fun b o hc e=>u.there b o e hc) u.tups u.frzs u.tbls (fun m' hm=>by
  obtain ⟨o',es',ep',ho',r'⟩:=hm
  rw [ho] at ho';cases ho'
  exact ⟨_,es',ep',hL,r'⟩) hok hg
theorem Inv.turned {t':Nat} {it:Addr} (I:Inv X pins σ H s) (k:∀ b o,b≠it->s.heap.get? b=some o->h'.get? b=some o) (hn:H it=none) (hL:it≠X.env.locals)
 (h1:it∈X.ex∨X.s₀.heap.objs.size≤it) (h2:∀ x c,X.env.cells.lookup x=some c->c≠it) (h3:∀ p∈X.pn++pins,p.1≠it):Inv X pins σ H { s with heap:=h',toks:=t' }:=by
 have nit:∀ b u,H b=some u->b≠it:=fun b u e z=>by rw [z,hn] at e;cases e
 refine I.step (g':=s.gens) (d':=s.drawn) (ch:=[it]) (fun b hb=>?_) (fun b o _ _ hc e _=>k b o (fun z=>hc (by simp [z])) e) (fun b o _ _ hc e _=>⟨o.slots,k b o (fun z=>hc (by simp [z])) e⟩) (fun _ _ _ _ n=>n)
  (fun b o hc e=>⟨o,k b o (fun z=>hc (by simp [z])) e⟩) (fun _ _ e=>e) (fun _ _ _ e=>e) (fun b ps e=>⟨#[],by rw [e];simp⟩) (fun m hm=>?_) (fun b u e=>?_) I.bare
 ·have e:b=it:=by simpa using hb
  subst e
  exact ⟨h1,hL,h2,h3⟩
 ·obtain ⟨o,es,ep,ho,r⟩:=hm
  exact ⟨o,es,ep,k _ o (Ne.symm hL) ho,r⟩
 ·refine (I.hok b u e).stay (fun c v hc q=>k c v ?_ q) (fun _ q=>q) fun _ _ q=>q
  rcases hc with z|z
  ·rw [z];exact nit b u e
  ·exact nit c _ z
theorem Inv.tok (I:Inv X pins σ H s) (t:Nat):Inv X pins σ H { s with toks:=t }:=I.un (h':=s.heap) (t':=t) Un.refl I.hok
theorem Inv.kept {t':Nat} (I:Inv X pins σ H s) (k:∀ b u,s.heap.get? b=some u->h'.get? b=some u):Inv X pins σ H { s with heap:=h',toks:=t' }:=I.un (Un.kept k) (I.hok.kept k)
theorem Inv.laid {a:Addr} {o:HO} {t':Nat} (I:Inv X pins σ H s) (k:∀ b u,s.heap.get? b=some u->h'.get? b=some u) (hp:s.heap.objs.size≤a) (new:ObjOk X.prog X.w (upd H a o) h' a o) :
 Inv X pins σ (upd H a o) { s with heap:=h',toks:=t' }:=I.un (Un.laid k hp (I.hok.fresh hp)) (I.hok.laid k hp new)
theorem Inv.write {x e:Addr} {o:HO} {t':Nat} (I:Inv X pins σ H s) (mu:Mut (H x)) (he:e=x∨H e=some (.own x)) (k:∀ b u,b≠e->s.heap.get? b=some u->h'.get? b=some u) (heo:∃ u,h'.get? e=some u)
 (new:ObjOk X.prog X.w (upd H x o) h' x o):Inv X pins σ (upd H x o) { s with heap:=h',toks:=t' }:=I.un (Un.write mu he k heo) (I.hok.write mu he k heo new)
theorem Inv.pins_of {pins':List (Addr×Obj)} (I:Inv X pins σ H s) (h:∀ p∈pins',s.heap.get? p.1=some p.2/\H p.1=none/\p.1≠X.env.locals/\p.1∉X.fs/\∀ v,p.2.data≠.cell v):Inv X pins' σ H s:=
 ⟨I.ok,I.os,I.bare,I.base,I.loc,I.cell,I.free,I.freeC,fun p hp=>(List.mem_append.mp hp).elim (fun z=>I.pin p (List.mem_append_left _ z)) (h p),I.hok,I.len⟩
theorem nodup_ix {N:List Str} (hN:N.Nodup) {i j:Nat} {x:Str} (a:N[i]?=some x) (b:N[j]?=some x):i=j:=by
 obtain ⟨h1,e1⟩:=List.getElem?_eq_some_iff.mp a
 obtain ⟨h2,e2⟩:=List.getElem?_eq_some_iff.mp b
 exact (List.getElem_inj hN).mp (e1.trans e2.symm)
theorem store_ok2 {M:Model} {A:Around} {E:Value->Shared->Prop} {i:Nat} {x:Str} {v:V} {u:Value} {Q:Unit->Shared->Prop} (I:Inv X pins σ H s) (hN:X.N.Nodup) (hi:X.N[i]?=some x) (hx:Loc X.env.scope x) (r:RelV v u)
 (h:∀ s',Inv X pins (σ.set i (some v)) H s'->(∃ a,Heap.SameBut a s.heap s'.heap/\(a=X.env.locals∨X.env.cells.lookup x=some a))->Q () s') (hf:X.fn x=true∨X.env.scope.names.lookup x=some .local:=by first|exact .inl rfl|exact .inr rfl|assumption):wpAny M A (storeName X.env x u) Q E s:=by
 obtain ⟨m,hn,hl⟩:=id I.loc
 have hcls:(X.env.scope.kind == .class || (X.env.scope.kind == .module && X.env.locals != X.env.globals))=false:=by rw [I.ok.kind];rfl
 have hiσ:i<σ.length:=by rw [I.len];exact (List.getElem?_eq_some_iff.mp hi).1
 have cne:=I.cne
 have tracked:∀ {a:Addr} {h':Heap},(∃ o,s.heap.get? a=some o/\H a=none)->Heap.SameBut a s.heap h'->HOk X.prog X.w H h':=fun {a h'} ha hs b ob e=>by
  obtain ⟨_,_,hfree⟩:=ha
  refine (I.hok b ob e).stay (fun c w' hc q=>(hs.2 c ?_).trans q) (fun _ q=>q) fun _ _ q=>q
  rintro rfl
  rcases hc with rfl|hc
  ·rw [hfree] at e;cases e
  ·rw [hfree] at hc;cases hc
 rcases hx with hk|hk
 ·refine wpAny_storeName_local hk hn (fun h' hn' hs=>?_) hcls
  obtain ⟨oL,_,_,hoL,_⟩:=id hn
  refine h _ ⟨I.ok,I.os,I.bare,⟨fun b o e n hb hx=>?_,fun b o e n hb hx=>?_,I.base.free,fun b o e hx=>?_,I.base.tups,I.base.frzs,I.base.tbls⟩,⟨_,hn',fun j y v' e1 e2 e3=>?_⟩,fun y c e=>?_,I.free,I.freeC,fun p hp=>?_,tracked ⟨oL,hoL,I.free⟩ hs,by simpa using I.len⟩ ⟨_,hs,.inl rfl⟩
  ·exact (hs.2 b (Nat.ne_of_lt (Nat.lt_of_lt_of_le (Heap.lt_size e) I.ok.above))).trans (I.base.keep b o e n hb hx)
  ·obtain ⟨sl,e1⟩:=I.base.slot b o e n hb hx
   exact ⟨sl,(hs.2 b (Nat.ne_of_lt (Nat.lt_of_lt_of_le (Heap.lt_size e) I.ok.above))).trans e1⟩
  ·obtain ⟨o',e1⟩:=I.base.there b o e hx
   exact ⟨o',(hs.2 b (Nat.ne_of_lt (Nat.lt_of_lt_of_le (Heap.lt_size e) I.ok.above))).trans e1⟩
  ·by_cases hj:j=i
   ·subst hj
    rw [hi] at e1;cases e1
    rw [List.getElem?_set_self hiσ] at e2
    cases e2
    exact ⟨u,r,.inl ⟨hk,by simp⟩⟩
   ·rw [List.getElem?_set_ne (Ne.symm hj)] at e2
    obtain ⟨u',r',q⟩:=hl j y v' e1 e2 e3
    refine ⟨u',r',?_⟩
    rcases q with ⟨k,e⟩|⟨k,c,e,z⟩
    ·refine .inl ⟨k,?_⟩
     have:y≠x:=fun e=>hj (nodup_ix hN e1 (e ▸ hi))
     simp [this,e]
    ·exact .inr ⟨k,c,e,z.sameBut hs (cne y c e)⟩
  ·obtain ⟨w',z⟩:=I.cell y c e
   exact ⟨w',z.sameBut hs (cne y c e)⟩
  ·obtain ⟨e,n,ne,nf,d⟩:=I.pin p hp
   exact ⟨(hs.2 p.1 ne).trans e,n,ne,nf,d⟩
 ·have hfn:X.fn x=true:=by
   rcases hf with z|z
   ·exact z
   ·rw [z] at hk;cases hk
  obtain ⟨c,hc⟩:=I.ok.has x (.inl hk)
  obtain ⟨w',z⟩:=I.cell x c hc
  refine wpAny_storeName_cell I.ok.kind hk hc z (fun h' hc' hs=>?_)
  obtain ⟨oc,hoc,hocd⟩:=id z
  refine h { s with heap:=h' } ⟨I.ok,I.os,I.bare,⟨fun b o e n hb hx=>?_,fun b o e n hb hx=>?_,I.base.free,fun b o e hx=>?_,I.base.tups,I.base.frzs,I.base.tbls⟩,⟨m,hn.sameBut hs (Ne.symm (cne x c hc)),fun j y v' e1 e2 e3=>?_⟩,fun y c' e=>?_,I.free,I.freeC,fun p hp=>?_,tracked ⟨oc,hoc,I.freeC x c hc⟩ hs,by simpa using I.len⟩ ⟨c,hs,.inr hc⟩
  ·exact (hs.2 b (Nat.ne_of_lt (Nat.lt_of_lt_of_le (Heap.lt_size e) (I.ok.cab x c hfn hc)))).trans (I.base.keep b o e n hb hx)
  ·obtain ⟨sl,e1⟩:=I.base.slot b o e n hb hx
   exact ⟨sl,(hs.2 b (Nat.ne_of_lt (Nat.lt_of_lt_of_le (Heap.lt_size e) (I.ok.cab x c hfn hc)))).trans e1⟩
  ·obtain ⟨o',e1⟩:=I.base.there b o e hx
   exact ⟨o',(hs.2 b (Nat.ne_of_lt (Nat.lt_of_lt_of_le (Heap.lt_size e) (I.ok.cab x c hfn hc)))).trans e1⟩
  ·by_cases hj:j=i
   ·subst hj
    rw [hi] at e1;cases e1
    rw [List.getElem?_set_self hiσ] at e2
    cases e2
    exact ⟨u,r,.inr ⟨.inl hk,c,hc,hc'⟩⟩
   ·rw [List.getElem?_set_ne (Ne.symm hj)] at e2
    obtain ⟨u',r',q⟩:=hl j y v' e1 e2 e3
    refine ⟨u',r',?_⟩
    rcases q with q|⟨k,c',e,z'⟩
    ·exact .inl q
    ·refine .inr ⟨k,c',e,z'.sameBut hs ?_⟩
     rintro rfl
     exact hj (nodup_ix hN e1 (I.ok.inj _ _ _ e hc ▸ hi))
  ·by_cases hcc:c'=c
   ·subst hcc;exact ⟨_,hc'⟩
   ·obtain ⟨w2,z2⟩:=I.cell y c' e
    exact ⟨w2,z2.sameBut hs hcc⟩
  ·obtain ⟨e,n,ne,nf,d⟩:=I.pin p hp
   refine ⟨(hs.2 p.1 ?_).trans e,n,ne,nf,d⟩
   intro q
   rw [q,hoc] at e
   have q':oc=p.2:=Option.some.inj e
   exact d w' (by rw [← q'];exact hocd)
theorem store_ok {M:Model} {A:Around} {E:Value->Shared->Prop} {i:Nat} {x:Str} {v:V} {u:Value} {Q:Unit->Shared->Prop} (I:Inv X pins σ H s) (hN:X.N.Nodup) (hi:X.N[i]?=some x) (hx:Loc X.env.scope x) (r:RelV v u)
 (h:∀ s',Inv X pins (σ.set i (some v)) H s'->Q () s') (hf:X.fn x=true∨X.env.scope.names.lookup x=some .local:=by first|exact .inl rfl|exact .inr rfl|assumption):wpAny M A (storeName X.env x u) Q E s:=
 store_ok2 I hN hi hx r (fun s' I' _=>h s' I') hf
theorem Inv.call' {s':Shared} {ch:List Addr} (I:Inv X pins σ H s) (ho:s'.os=s.os) (u:Un (frs X.stack) ch H H' s.heap s'.heap) (hok:HOk X.prog X.w H' s'.heap) (hg:AllBare s'.gens)
 (hch:∀ b∈ch,(b∈X.ex∨X.s₀.heap.objs.size≤b)/\b≠X.env.locals/\(∀ x c,X.env.cells.lookup x=some c->c≠b)/\∀ p∈X.pn++pins,p.1≠b):Inv X pins σ H' s':=by
 obtain ⟨h',g',d',t',o'⟩:=s'
 have e:o'=s.os:=ho
 subst e
 exact I.call (g':=g') (t':=t') (d':=d') u hok hg hch
end
abbrev XK:=Value->Option Addr->Hp->Prop
abbrev St:=List (Option V)
abbrev VK:=V->Hp->Prop
abbrev TE:=St->Hp->VK->Prop
abbrev TT:=St->Hp->(Bool->Hp->Prop)->Prop
abbrev TA:=St->Hp->(List V->Hp->Prop)->Prop
structure Ends where
 nx:St->Hp->Prop
 rt:VK
 bk:St->Hp->Prop:=fun _ _=>False
 ct:St->Hp->Prop:=fun _ _=>False
abbrev TS:=Ends->St->Hp->Prop
def EP (X:Cx) (pins:List (Addr×Obj)) (σ:St) (Q:VK) (u:Value) (s':Shared):Prop:=∃ v H',Inv X pins σ H' s'/\RelV v u/\Q v H'
def TP (X:Cx) (pins:List (Addr×Obj)) (σ:St) (Q:Bool->Hp->Prop) (b:Bool) (s':Shared):Prop:=∃ H',Inv X pins σ H' s'/\Q b H'
def AP (X:Cx) (pins:List (Addr×Obj)) (σ:St) (Q:List V->Hp->Prop) (us:List Value) (s':Shared):Prop:=∃ vs H',Inv X pins σ H' s'/\Vals vs us/\Q vs H'
def SP (X:Cx) (pins:List (Addr×Obj)) (D:Ends) (f:Flow) (s':Shared):Prop:=
 match f with
 |.next=>∃ σ' H',Inv X pins σ' H' s'/\D.nx σ' H'
 |.brk=>∃ σ' H',Inv X pins σ' H' s'/\D.bk σ' H'
 |.cont=>∃ σ' H',Inv X pins σ' H' s'/\D.ct σ' H'
 |.ret u=>∃ v σ' H',Inv X pins σ' H' s'/\RelV v u/\D.rt v H'
def PE (X:Cx) (e:Expr) (t:TE):Prop:=
 ∀ (pins:List (Addr×Obj)) (s:Shared) (σ:St) (H:Hp) (Q:VK),Inv X pins σ H s->t σ H Q->wpAny (model X.prog X.w) X.A (eval e X.env) (EP X pins σ Q) X.xe s
def PT (X:Cx) (e:Expr) (t:TT):Prop:=
 ∀ (pins:List (Addr×Obj)) (s:Shared) (σ:St) (H:Hp) (Q:Bool->Hp->Prop),Inv X pins σ H s->t σ H Q->wpAny (model X.prog X.w) X.A (isTrue e X.env (eval e X.env)) (TP X pins σ Q) X.xe s
def PW (X:Cx) (e:Expr) (t:TT):Prop:=
 ∀ (whole:Sem Value) (pins:List (Addr×Obj)) (s:Shared) (σ:St) (H:Hp) (Q:Bool->Hp->Prop),Inv X pins σ H s->t σ H Q->wpAny (model X.prog X.w) X.A (isTrue e X.env whole) (TP X pins σ Q) X.xe s
theorem PW.pt {X:Cx} {e:Expr} {t:TT} (h:PW X e t):PT X e t:=h _
def PA (X:Cx) (es:List Expr) (t:TA):Prop:=
 ∀ (pos:Pos) (pins:List (Addr×Obj)) (s:Shared) (σ:St) (H:Hp) (Q:List V->Hp->Prop),Inv X pins σ H s->t σ H Q->wpAny (model X.prog X.w) X.A (spliced (backTo pos (starEach es X.env))) (AP X pins σ Q) X.xe s
def PS (X:Cx) (st:Stmt) (t:TS):Prop:=
 ∀ (pins:List (Addr×Obj)) (s:Shared) (σ:St) (H:Hp) (D:Ends),Inv X pins σ H s->t D σ H->wpAny (model X.prog X.w) X.A (exec st X.env) (SP X pins D) X.xe s
def PSs (X:Cx) (st:List Stmt) (t:TS):Prop:=
 ∀ (pins:List (Addr×Obj)) (s:Shared) (σ:St) (H:Hp) (D:Ends),Inv X pins σ H s->t D σ H->wpAny (model X.prog X.w) X.A (execs st X.env) (SP X pins D) X.xe s
theorem thn {α:Type} {t:Sem α} {Q Q':α->Shared->Prop} {M:Model} {A:Around} {E:Value->Shared->Prop} {s:Shared} (h:wpAny M A t Q E s) (hQ:∀ a s,Q a s->Q' a s):wpAny M A t Q' E s:=wpAny_mono h hQ fun _ _ x=>x
section
variable {X:Cx}
theorem bin {a b:Expr} {ta tb:TE} (ha:PE X a ta) (hb:PE X b tb) {pins:List (Addr×Obj)} {s:Shared} {σ:St} {H:Hp} {R:V->V->Hp->Prop} (I:Inv X pins σ H s) (h:ta σ H fun x H1=>tb σ H1 fun y H2=>R x y H2)
 {α:Type} {Q:α->Shared->Prop} {f:Value->Value->Sem α}
 (hf:∀ v u s2 x y H2,Inv X pins σ H2 s2->RelV x v->RelV y u->R x y H2->wpAny (model X.prog X.w) X.A (f v u) Q X.xe s2) :
 wpAny (model X.prog X.w) X.A (eval a X.env) (fun v s₁=>wpAny (model X.prog X.w) X.A (eval b X.env) (fun u s₂=>wpAny (model X.prog X.w) X.A (f v u) Q X.xe s₂) X.xe s₁) X.xe s:=by
 refine thn (ha pins s σ H _ I h) fun v s1 ⟨x,H1,I1,r1,q1⟩=>?_
 refine thn (hb pins s1 σ H1 _ I1 q1) fun u s2 ⟨y,H2,I2,r2,q2⟩=>?_
 exact hf v u s2 x y H2 I2 r1 r2 q2
def tVar (i:Nat):TE:=fun σ H Q=>∃ v,σ[i]?=some (some v)/\Q v H
def tC (v:V):TE:=fun _ H Q=>Q v H
theorem pe_var {i:Nat} {x:Str} {pos:Pos} (hN:X.N[i]?=some x) (hv:Vis X.env.scope x) (hd:(x == ("__debug__" : Str))=false:=by decide) (hcd:(x == ("__classdict__" : Str))=false:=by decide):PE X (.Name x pos) (tVar i):=by
 intro pins s σ H Q I h
 obtain ⟨v,e,h⟩:=h
 obtain ⟨m,hn,hl⟩:=I.loc
 obtain ⟨u,r,l⟩:=hl i x v hN e hv
 have fin:EP X pins σ Q u s:=⟨v,H,I,r,h⟩
 rcases l with ⟨hk,hm⟩|⟨hk,c,hc,hcell⟩
 ·exact wpAny_Name (wpAny_loadName_local I.ok.kind hk hn hm fin) hd
 ·rcases hk with hk|hk
  ·exact wpAny_Name (wpAny_loadName_cell I.ok.kind hk hc hcell fin) hd
  ·exact wpAny_Name (wpAny_loadName_free I.ok.kind hk hc hcell fin hcd) hd
theorem pe_int {i j pos}:PE X (.Constant (.int i) j pos) (tC (.int i)):=fun _ _ _ H _ I h=>wpAny_Constant_int ⟨.int i,H,I.tok _,⟨_,rfl⟩,h⟩
theorem pe_bl {b j pos}:PE X (.Constant (.bool b) j pos) (tC (.bl b)):=fun _ _ _ H _ I h=>Constant_bool ⟨.bl b,H,I,rfl,h⟩
theorem pe_non {j pos}:PE X (.Constant .none j pos) (tC .non):=fun _ _ _ H _ I h=>Constant_none ⟨.non,H,I,rfl,h⟩
theorem pe_str {x j pos}:PE X (.Constant (.str x) j pos) (tC (.str x)):=fun _ _ _ H _ I h=>Calls.Constant_str ⟨.str x,H,I.tok _,⟨_,rfl⟩,h⟩
def Gl (X:Cx) (x:Str):Prop:=X.env.kindOf x=some .globalImplicit
theorem ld_glob {E:Value->Shared->Prop} {pins:List (Addr×Obj)} {s:Shared} {σ:St} {H:Hp} {x:Str} {u:Value} {pos:Pos} {Q:Value->Shared->Prop} (I:Inv X pins σ H s) (hg:Gl X x) (hm:X.mg x=some u) (h:Q u s)
 (hd:(x == ("__debug__" : Str))=false:=by decide):wpAny (model X.prog X.w) X.A (eval (.Name x pos) X.env) Q E s:=
 Calls.Name_function_global I.ok.kind hg (Calls.loadGlobal_global (by rw [I.ok.glob];exact I.mod.glob.keeps I.bk) hm h) hd
theorem ld_blt {E:Value->Shared->Prop} {pins:List (Addr×Obj)} {s:Shared} {σ:St} {H:Hp} {x:Str} {u:Value} {pos:Pos} {Q:Value->Shared->Prop} (I:Inv X pins σ H s) (hg:Gl X x) (hm:X.mg x=none) (hv:bootBuiltins x=some u) (h:Q u s)
 (hn:x ≠ "__name__":=by decide) (hd:(x == ("__debug__" : Str))=false:=by decide):wpAny (model X.prog X.w) X.A (eval (.Name x pos) X.env) Q E s:=by
 obtain ⟨mb,h1,h2⟩:=I.mod.blt
 exact Calls.Name_function_global I.ok.kind hg (Calls.loadGlobal_builtin (by rw [I.ok.glob];exact I.mod.glob.keeps I.bk) hm (by rw [I.ok.blt];exact h1.keeps I.bk) ((h2 x hn).trans hv) h) hd
theorem pe_glob {x:Str} {v:V} {u:Value} {pos:Pos} (hg:Gl X x) (hm:X.mg x=some u) (r:RelV v u) (hd:(x == ("__debug__" : Str))=false:=by decide):PE X (.Name x pos) (tC v):=
 fun _ _ _ H _ I h=>ld_glob I hg hm ⟨v,H,I,r,h⟩ hd
theorem pe_bltn {x:Str} {v:V} {u:Value} {pos:Pos} (hg:Gl X x) (hm:X.mg x=none) (hv:bootBuiltins x=some u) (r:RelV v u) (hn:x ≠ "__name__":=by decide) (hd:(x == ("__debug__" : Str))=false:=by decide):PE X (.Name x pos) (tC v):=
 fun _ _ _ H _ I h=>ld_blt I hg hm hv ⟨v,H,I,r,h⟩ hn hd
variable {a b:Expr} {ta tb:TE} {pos:Pos}
def PC (X:Cx) (op:CmpOp) (a b:Expr) (t:TE):Prop:=
 ∀ (pins:List (Addr×Obj)) (s:Shared) (σ:St) (H:Hp) (Q:VK),Inv X pins σ H s->t σ H Q->
   wpAny (model X.prog X.w) X.A (eval a X.env) (fun v s₁=>wpAny (model X.prog X.w) X.A (eval b X.env) (fun u s₂=>wpAny (model X.prog X.w) X.A (compareOp op v u) (EP X pins σ Q) X.xe s₂) X.xe s₁) X.xe s
def tB (t:TE):TT:=fun σ H Q=>t σ H fun x H1=>∃ c,x=.bl c/\Q c H1
theorem pt_cmp {op:CmpOp} {t:TE} (h:PC X op a b t) (h1:behindInMarks op b=false:=by first|exact nobehind _ (by decide) (by decide)|rfl):PT X (.Compare a [op] [b] pos) (tB t):=by
 intro pins s σ H Q I hw
 refine wpAny_isTrue_Compare1 (thn (h pins s σ H _ I hw) fun v s1 h1=>thn h1 fun u s2 h2=>thn h2 fun c s3 ⟨x,H1,I1,r1,q1⟩=>?_) h1
 obtain ⟨d,rfl,q⟩:=q1
 cases r1
 exact wpAny_truthy_bool ⟨H1,I1,q⟩
theorem pt_val {e:Expr} {t:TE} (h:PE X e t) (he:∀ whole,isTrue e X.env whole=(do let v ← whole;standAt e.pos;holding [v] (truthy v)):=by intro _;rfl):PT X e (tB t):=by
 intro pins s σ H Q I hw
 refine isTrue_plain (thn (h pins s σ H _ I hw) fun v s1 ⟨x,H1,I1,r1,q1⟩=>?_) (he _)
 obtain ⟨d,rfl,q⟩:=q1
 cases r1
 exact wpAny_truthy_bool ⟨H1,I1,q⟩
variable {tA tB':TT} {rest:List Expr}
def tAnd (t u:TT):TT:=fun σ H Q=>t σ H fun c H1=>if c=true then u σ H1 Q else Q false H1
def tOr (t u:TT):TT:=fun σ H Q=>t σ H fun c H1=>if c=true then Q true H1 else u σ H1 Q
def tNot (t:TT):TT:=fun σ H Q=>t σ H fun c H1=>Q (!c) H1
theorem pw_and1 (ha:PT X a tA):PW X (.BoolOp .And [a] pos) tA:=by
 intro wh pins s σ H Q I h
 refine isTrue_and (thn (ha pins s σ H Q I h) fun c s1 e=>?_)
 cases c with
 |true=>exact isTrue_and_nil e
 |false=>exact e
theorem pw_or1 (ha:PT X a tA):PW X (.BoolOp .Or [a] pos) tA:=by
 intro wh pins s σ H Q I h
 refine isTrue_or (thn (ha pins s σ H Q I h) fun c s1 e=>?_)
 cases c with
 |false=>exact isTrue_or_nil e
 |true=>exact e
theorem pw_and (ha:PT X a tA) (hb:PW X (.BoolOp .And (b::rest) pos) tB'):PW X (.BoolOp .And (a::b::rest) pos) (tAnd tA tB'):=by
 intro wh pins s σ H Q I h
 refine isTrue_and (thn (ha pins s σ H _ I h) fun c s1 ⟨H1,I1,q1⟩=>?_)
 cases c with
 |true=>exact hb wh pins s1 σ H1 Q I1 q1
 |false=>exact ⟨H1,I1,q1⟩
theorem pw_or (ha:PT X a tA) (hb:PW X (.BoolOp .Or (b::rest) pos) tB'):PW X (.BoolOp .Or (a::b::rest) pos) (tOr tA tB'):=by
 intro wh pins s σ H Q I h
 refine isTrue_or (thn (ha pins s σ H _ I h) fun c s1 ⟨H1,I1,q1⟩=>?_)
 cases c with
 |true=>exact ⟨H1,I1,q1⟩
 |false=>exact hb wh pins s1 σ H1 Q I1 q1
theorem pt_not (ha:PT X a tA):PT X (.UnaryOp .Not a pos) (tNot tA):=by
 intro pins s σ H Q I h
 exact isTrue_not (ha pins s σ H (fun c H1=>Q (!c) H1) I h)
def tAndV (ta tb:TE):TE:=fun σ H Q=>ta σ H fun x H1=>∃ c,x=.bl c/\if c=true then tb σ H1 Q else Q (.bl false) H1
def tOrV (ta tb:TE):TE:=fun σ H Q=>ta σ H fun x H1=>∃ c,x=.bl c/\if c=true then Q (.bl true) H1 else tb σ H1 Q
def tNotV (ta:TE):TE:=fun σ H Q=>ta σ H fun x H1=>∃ c,x=.bl c/\Q (.bl (!c)) H1
theorem pe_one {op} {t:TE} (h:PE X a t):PE X (.BoolOp op [a] pos) t:=fun pins s σ H Q I hw=>BoolOp_one (h pins s σ H Q I hw)
theorem pe_and (ha:PE X a ta) (hb:PE X (.BoolOp .And (b::rest) pos) tb):PE X (.BoolOp .And (a::b::rest) pos) (tAndV ta tb):=by
 intro pins s σ H Q I h
 refine BoolOp_and (thn (ha pins s σ H _ I h) fun v s1 ⟨x,H1,I1,r1,q1⟩=>?_)
 obtain ⟨c,rfl,q1⟩:=q1
 cases r1
 refine wpAny_truthy_bool ?_
 cases c with
 |true=>exact hb pins s1 σ H1 Q I1 q1
 |false=>exact ⟨.bl false,H1,I1,rfl,q1⟩
theorem pe_or (ha:PE X a ta) (hb:PE X (.BoolOp .Or (b::rest) pos) tb):PE X (.BoolOp .Or (a::b::rest) pos) (tOrV ta tb):=by
 intro pins s σ H Q I h
 refine BoolOp_or (thn (ha pins s σ H _ I h) fun v s1 ⟨x,H1,I1,r1,q1⟩=>?_)
 obtain ⟨c,rfl,q1⟩:=q1
 cases r1
 refine wpAny_truthy_bool ?_
 cases c with
 |false=>exact hb pins s1 σ H1 Q I1 q1
 |true=>exact ⟨.bl true,H1,I1,rfl,q1⟩
theorem pe_not (ha:PE X a ta):PE X (.UnaryOp .Not a pos) (tNotV ta):=by
 intro pins s σ H Q I h
 refine UnaryOp_ (thn (ha pins s σ H _ I h) fun v s1 ⟨x,H1,I1,r1,q1⟩=>?_)
 obtain ⟨c,rfl,q1⟩:=q1
 cases r1
 exact not_of (wpAny_truthy_bool ⟨.bl (!c),H1,I1,rfl,q1⟩)
def tIf (t:TT) (ta tb:TE):TE:=fun σ H Q=>t σ H fun c H1=>if c=true then ta σ H1 Q else tb σ H1 Q
theorem pe_ifExp {c:Expr} (hc:PT X c tA) (ha:PE X a ta) (hb:PE X b tb):PE X (.IfExp c a b pos) (tIf tA ta tb):=by
 intro pins s σ H Q I h
 refine wpAny_IfExp (thn (hc pins s σ H _ I h) fun d s1 ⟨H1,I1,q1⟩=>?_)
 cases d with
 |true=>exact ha pins s1 σ H1 Q I1 q1
 |false=>exact hb pins s1 σ H1 Q I1 q1
end
def SqL (K:PySem.W.Frag) (H:Hp) (a:Addr) (xs:List V):Prop:=
 Rd H a (.lst xs)∨
  ∃ (o:Obj) (its:Array Value) (n:Nat),K.lookup a=some o/\o.cls=.type "list"/\o.dict=none/\o.data=.seq its n/\its.size≤sizeLine/\Vals xs its.toList
def SqT (K:PySem.W.Frag) (H:Hp) (a:Addr) (xs:List V):Prop:=
 Rd H a (.tup xs)∨
  ∃ (o:Obj) (its:Array Value) (n:Nat),K.lookup a=some o/\o.cls=.type "tuple"/\o.data=.seq its n/\its.size≤sizeLine/\Vals xs its.toList
def absV:Value->Option V
 |.none=>some .non
 |.bool b=>some (.bl b)
 |.int i _=>some (.int i)
 |.str x _=>some (.str x)
 |.bytes b _=>some (.byt b)
 |.float b _=>some (.flt b)
 |.ref a=>some (.ref a)
 |.type n=>some (.ty n)
 |_=>none
theorem RelV.abs {x:V} {u:Value} (r:RelV x u):absV u=some x:=by
 cases x with
 |non=>cases r;rfl
 |bl _=>cases r;rfl
 |int _=>obtain ⟨t,rfl⟩:=r;rfl
 |str _=>obtain ⟨t,rfl⟩:=r;rfl
 |byt _=>obtain ⟨t,rfl⟩:=r;rfl
 |flt _=>obtain ⟨t,rfl⟩:=r;rfl
 |ref _=>cases r;rfl
 |ty _=>cases r;rfl
theorem RelV.inj {x y:V} {u:Value} (r:RelV x u) (q:RelV y u):x=y:=Option.some.inj (r.abs.symm.trans q.abs)
theorem Vals.inj:∀ {xs ys:List V} {us:List Value},Vals xs us->Vals ys us->xs=ys
 |_,_,_,.nil,.nil=>rfl
 |_,_,_,.cons r t,.cons r' t'=>by rw [r.inj r',Vals.inj t t']
section
variable {X:Cx} {pins:List (Addr×Obj)} {σ:St} {H:Hp} {s:Shared} {a:Addr} {xs ys:List V}
theorem SqL.of {K:PySem.W.Frag} (h:H a=some (.lst xs)):SqL K H a xs:=.inl (.inl h)
theorem SqT.of {K:PySem.W.Frag} (h:H a=some (.tup xs)):SqT K H a xs:=.inl (.inl h)
theorem Inv.list (I:Inv X pins σ H s) (h:SqL X.K H a xs):∃ its:List Value,Vals xs its/\PlainL s.heap a its.toArray/\xs.length≤sizeLine:=by
 rcases h with h|⟨o,its,n,hk,hc,hd,hs,hz,r⟩
 ·obtain ⟨z,its,n,r,e⟩:=h.ok I.hok
  exact ⟨its,r,⟨_,n,e,rfl,rfl,rfl⟩,z⟩
 ·refine ⟨its.toList,r,⟨o,n,I.kIn a o hk,hc,hd,by simpa using hs⟩,?_⟩
  have e:=r.length
  simp only [Array.length_toList] at e
  omega
theorem Inv.tuple (I:Inv X pins σ H s) (h:SqT X.K H a xs):∃ its:List Value,Vals xs its/\IsTup s.heap a its.toArray/\xs.length≤sizeLine:=by
 rcases h with h|⟨o,its,n,hk,hc,hs,hz,r⟩
 ·obtain ⟨z,its,r,p⟩:=h.ok I.hok
  exact ⟨its,r,p,z⟩
 ·refine ⟨its.toList,r,⟨o,I.kIn a o hk,hc,n,by simpa using hs⟩,?_⟩
  have e:=r.length
  simp only [Array.length_toList] at e
  omega
theorem Inv.list_inj (I:Inv X pins σ H s) (h:SqL X.K H a xs) (h':SqL X.K H a ys):xs=ys:=by
 obtain ⟨its,r,⟨o,n,e,_,_,d⟩,_⟩:=I.list h
 obtain ⟨its',r',⟨o',n',e',_,_,d'⟩,_⟩:=I.list h'
 rw [e] at e';cases e'
 rw [d] at d'
 injection d' with d1 _
 have:its=its':=by simpa using congrArg Array.toList d1
 subst this
 exact r.inj r'
theorem Inv.tuple_inj (I:Inv X pins σ H s) (h:SqT X.K H a xs) (h':SqT X.K H a ys):xs=ys:=by
 obtain ⟨its,r,⟨o,e,_,n,d⟩,_⟩:=I.tuple h
 obtain ⟨its',r',⟨o',e',_,n',d'⟩,_⟩:=I.tuple h'
 rw [e] at e';cases e'
 rw [d] at d'
 injection d' with d1 _
 have:its=its':=by simpa using congrArg Array.toList d1
 subst this
 exact r.inj r'
end
abbrev Cx.wish (X:Cx) (E:Value->Shared->Prop):Cx:={ X with xe:=E }
abbrev Cx.nox (X:Cx):Cx:=X.wish fun _ _=>False
theorem Cx.Ok.wish {X:Cx} (ok:X.Ok) (E:Value->Shared->Prop):(X.wish E).Ok:=
 ⟨ok.mod,ok.kind,ok.glob,ok.blt,ok.above,ok.inj,ok.has,ok.cab,ok.hd,ok.frames,ok.stk,ok.exf,ok.bs,ok.bsz,ok.noex,ok.exfs,ok.funs,ok.frf⟩
theorem Cx.Ok.unwish {X:Cx} {E:Value->Shared->Prop} (ok:(X.wish E).Ok):X.Ok:=
 ⟨ok.mod,ok.kind,ok.glob,ok.blt,ok.above,ok.inj,ok.has,ok.cab,ok.hd,ok.frames,ok.stk,ok.exf,ok.bs,ok.bsz,ok.noex,ok.exfs,ok.funs,ok.frf⟩
section
variable {X:Cx} {pins:List (Addr×Obj)} {σ:St} {H:Hp} {s:Shared} {E:Value->Shared->Prop}
theorem Inv.wish (I:Inv X pins σ H s) (E:Value->Shared->Prop):Inv (X.wish E) pins σ H s:=⟨I.ok.wish E,I.os,I.bare,I.base,I.loc,I.cell,I.free,I.freeC,I.pin,I.hok,I.len⟩
theorem Inv.unwish (I:Inv (X.wish E) pins σ H s):Inv X pins σ H s:=⟨I.ok.unwish,I.os,I.bare,I.base,I.loc,I.cell,I.free,I.freeC,I.pin,I.hok,I.len⟩
theorem SP.unwish {D:Ends} {f:Flow} {s':Shared} (h:SP (X.wish E) pins D f s'):SP X pins D f s':=by
 cases f with
 |next=>obtain ⟨σ',H',I,q⟩:=h;exact ⟨σ',H',I.unwish,q⟩
 |brk=>obtain ⟨σ',H',I,q⟩:=h;exact ⟨σ',H',I.unwish,q⟩
 |cont=>obtain ⟨σ',H',I,q⟩:=h;exact ⟨σ',H',I.unwish,q⟩
 |ret u=>obtain ⟨v,σ',H',I,r,q⟩:=h;exact ⟨v,σ',H',I.unwish,r,q⟩
theorem PSs.nox {st:List Stmt} {t:TS} (h:PSs X.nox st t):PSs X st t:=fun pins s σ H D I hw=>
 wpAny_mono (h pins s σ H D (I.wish _) hw) (fun _ _ q=>q.unwish) fun _ _ z=>False.elim z
end
section
variable {X:Cx} {st:Stmt} {rest:List Stmt} {t u:TS} {e:Expr} {te:TE} {pos:Pos}
def tNext:TS:=fun D σ H=>D.nx σ H
def tSeq (t u:TS):TS:=fun D σ H=>t { D with nx:=u D } σ H
theorem pss_nil:PSs X [] tNext:=fun _ _ σ H _ I h=>wpAny_execs_nil ⟨σ,H,I,h⟩
theorem pss_cons (h1:PS X st t) (h2:PSs X rest u):PSs X (st::rest) (tSeq t u):=by
 intro pins s σ H D I h
 refine wpAny_execs_cons (thn (h1 pins s σ H { D with nx:=u D } I h) fun f s1 q=>?_)
 cases f with
 | next=>
   obtain ⟨σ',H',I',q⟩:=q
   exact h2 pins s1 σ' H' D I' q
 |ret v=>exact q
 |brk=>exact q
 |cont=>exact q
theorem pss_one (h1:PS X st t):PSs X [st] t:=by
 intro pins s σ H D I h
 refine wpAny_execs_cons (thn (h1 pins s σ H D I h) fun f s1 q=>?_)
 cases f with
 |next=>exact wpAny_execs_nil q
 |ret v=>exact q
 |brk=>exact q
 |cont=>exact q
def tBreak:TS:=fun D σ H=>D.bk σ H
theorem ps_break:PS X (.Break pos) tBreak:=fun _ _ σ H _ I h=>wpAny_Break ⟨σ,H,I,h⟩
theorem Inv.quiet {pins:List (Addr×Obj)} {σ:St} {H:Hp} {s:Shared} (I:Inv X pins σ H s):interactive X.env=false:=by simp [interactive,I.ok.kind]
def tDrop (te:TE):TS:=fun D σ H=>te σ H fun _ H1=>D.nx σ H1
theorem ps_expr (he:PE X e te) (hs:swapsWith e none pos.line X.env=pure false:=by rfl):PS X (.Expr e pos) (tDrop te):=by
 intro pins s σ H D I h
 exact wpAny_Expr_any (thn (he pins s σ H _ I h) fun v s1 ⟨x,H1,I1,r1,q1⟩=>⟨σ,H1,I1,q1⟩) I.quiet hs
def tRet (te:TE):TS:=fun D σ H=>te σ H D.rt
theorem ps_ret (he:PE X e te):PS X (.Return (some e) pos) (tRet te):=by
 intro pins s σ H D I h
 exact wpAny_Return_some (thn (he pins s σ H _ I h) fun v s1 ⟨x,H1,I1,r1,q1⟩=>⟨x,σ,H1,I1,r1,q1⟩)
def tIfS (c:TT) (t u:TS):TS:=fun D σ H=>c σ H fun b H1=>if b=true then t D σ H1 else u D σ H1
theorem ps_if {c:Expr} {a b:List Stmt} {tc:TT} (hc:PT X c tc) (ha:PSs X a t) (hb:PSs X b u):PS X (.If c a b pos) (tIfS tc t u):=by
 intro pins s σ H D I h
 refine wpAny_If (thn (hc pins s σ H _ I h) fun d s1 ⟨H1,I1,q1⟩=>?_)
 cases d with
 |true=>exact ha pins s1 σ H1 D I1 q1
 |false=>exact hb pins s1 σ H1 D I1 q1
def tNever:TS:=fun _ _ _=>False
theorem ps_never:PS X st tNever:=fun _ _ _ _ _ _ h=>h.elim
end
abbrev TG:=V->St->Hp->(St->Hp->Prop)->Prop
abbrev TGs:=List V->St->Hp->(St->Hp->Prop)->Prop
def PG (X:Cx) (target:Expr) (t:TG):Prop:=
 ∀ (pins:List (Addr×Obj)) (s:Shared) (σ:St) (H:Hp) (v:V) (u:Value) (Q:St->Hp->Prop),Inv X pins σ H s->RelV v u->t v σ H Q->
   wpAny (model X.prog X.w) X.A (assign target X.env u) (fun _ s'=>∃ σ' H',Inv X pins σ' H' s'/\Q σ' H') X.xe s
def PGs (X:Cx) (ts:List Expr) (t:TGs):Prop:=
 ∀ (pins:List (Addr×Obj)) (s:Shared) (σ:St) (H:Hp) (vs:List V) (us:List Value) (Q:St->Hp->Prop),Inv X pins σ H s->Vals vs us->t vs σ H Q->
   wpAny (model X.prog X.w) X.A (assignInOrder ((assignEach ts X.env).map (·.2)) us) (fun _ s'=>∃ σ' H',Inv X pins σ' H' s'/\Q σ' H') X.xe s
section
variable {X:Cx} {pos:Pos}
def gName (i:Nat):TG:=fun v σ H Q=>Q (σ.set i (some v)) H
theorem pg_name {i:Nat} {x:Str} (hN:X.N.Nodup) (hi:X.N[i]?=some x) (hx:Loc X.env.scope x) (hf:X.fn x=true∨X.env.scope.names.lookup x=some .local:=by first|exact .inl rfl|exact .inr rfl|assumption):PG X (.Name x pos) (gName i):=by
 intro pins s σ H v u Q I r h
 exact wpAny_assign_Name (store_ok I hN hi hx r (fun s' I'=>⟨_,H,I',h⟩) hf)
def gNil:TGs:=fun vs σ H Q=>vs=[]/\Q σ H
def gCons (t:TG) (u:TGs):TGs:=fun vs σ H Q=>∃ v r,vs=v::r/\t v σ H fun σ' H'=>u r σ' H' Q
theorem pgs_nil:PGs X [] gNil:=by
 intro pins s σ H vs us Q I r h
 obtain ⟨e,h⟩:=h
 subst e
 cases r
 exact assignInOrder_nil ⟨σ,H,I,h⟩
theorem pgs_cons {e:Expr} {es:List Expr} {t:TG} {u:TGs} (h1:PG X e t) (h2:PGs X es u)
 (hs:(assignEach (e::es) X.env).map (·.2)=assign e X.env::(assignEach es X.env).map (·.2):=by rfl):PGs X (e::es) (gCons t u):=by
 intro pins s σ H vs us Q I r h
 obtain ⟨v,vr,e1,h⟩:=h
 subst e1
 cases r with
 | cons r rr=>
   rw [hs]
   refine assignInOrder_cons (thn (h1 pins s σ H _ _ _ I r h) fun _ s1 ⟨σ1,H1,I1,q1⟩=>?_)
   exact h2 pins s1 σ1 H1 _ _ Q I1 rr q1
def gTup (K:PySem.W.Frag) (n:Nat) (t:TGs):TG:=fun v σ H Q=>∃ a xs,v=.ref a/\SqT K H a xs/\xs.length=n/\t xs σ H Q
theorem pg_tup {es:List Expr} {k:Nat} {t:TGs} {n:Nat} (hc:X.calm=true) (h:PGs X es t)
 (hn:(assignEach es X.env).length=n:=by rfl) (hst:(assignEach es X.env).findIdx? (·.1)=none:=by rfl):PG X (.Tuple es k pos) (gTup X.K n t):=by
 intro pins s σ H v u Q I r hw
 obtain ⟨a,xs,e1,hq,hl,hw⟩:=hw
 subst e1
 cases r
 obtain ⟨its,rv,ht,hz⟩:=I.tuple hq
 refine assign_Tuple_tuple (I.ok.hd hc) ht (by simp [hn,← hl,rv.length]) hst fun h' hx=>?_
 have I1:Inv X pins σ H { s with heap:=h' }:=I.kept (t':=s.toks) fun b o e=>hx b o (Nat.ne_of_lt (Heap.lt_size e)) e
 exact h pins _ σ H xs _ Q I1 (by simpa using rv) hw
def tAsg (te:TE) (g:TG):TS:=fun D σ H=>te σ H fun x H1=>g x σ H1 D.nx
theorem ps_asg {tg e:Expr} {te:TE} {g:TG} (he:PE X e te) (hg:PG X tg g) (hs:swapsWithSole [tg] e pos.line X.env=pure false:=by rfl) (hw:swappedStores [tg] e X.env=pure none:=by rfl)
 (h1:(assignEach [tg] X.env).map (·.2)=[assign tg X.env]:=by rfl):PS X (.Assign [tg] e pos) (tAsg te g):=by
 intro pins s σ H D I h
 refine wpAny_Assign_stores (thn (he pins s σ H _ I h) fun v s1 ⟨x,H1,I1,r1,q1⟩=>?_) hs hw
 rw [h1]
 exact thn (hg pins s1 σ H1 x v _ I1 r1 q1) fun _ s2 q=>q
theorem ps_set {i:Nat} {x:Str} {e:Expr} {te:TE} {pos':Pos} (hN:X.N.Nodup) (hi:X.N[i]?=some x) (hx:Loc X.env.scope x) (he:PE X e te) (hs:swapsWith e (some (.Name x pos')) pos.line X.env=pure false:=by rfl) (hf:X.fn x=true∨X.env.scope.names.lookup x=some .local:=by first|exact .inl rfl|exact .inr rfl|assumption) :
 PS X (.Assign [.Name x pos'] e pos) (tAsg te (gName i)):=by
 intro pins s σ H D I h
 refine wpAny_Assign_Name (thn (he pins s σ H _ I h) fun v s1 ⟨y,H1,I1,r1,q1⟩=>?_) hs
 exact store_ok I1 hN hi hx r1 (fun s2 I2=>⟨_,H1,I2,q1⟩) hf
end
section
variable {X:Cx} {pos:Pos}
def tWhile (c:TT) (tb:TS):TS:=fun D σ H=>∃ W:Nat->St->Hp->Prop,(∃ m,W m σ H)/\∀ m σ H,W m σ H->
 c σ H fun b H1=>if b=true then ∃ N:St->Hp->Prop,(∀ σ' H',N σ' H'->∃ m',m'<m/\W m' σ' H')/\tb { D with nx:=N,ct:=N,bk:=D.nx } σ H1 else D.nx σ H1
theorem ps_while {c:Expr} {body:List Stmt} {tc:TT} {tb:TS} (hp:PassesOwn (model X.prog X.w) X.A X.env X.xe) (hc:PT X c tc) (hb:PSs X body tb):PS X (.While c body [] pos) (tWhile tc tb):=by
 intro pins s σ H D I h
 obtain ⟨W,⟨m0,w0⟩,turn⟩:=h
 refine wpAny_While (codeAny_whileLoop (fun n s'=>∃ σ' H',Inv X pins σ' H' s'/\W n σ' H') ?_ m0 ⟨σ,H,I,w0⟩)
 rintro n s1 ⟨σ1,H1,I1,w1⟩
 refine wpAny_passesOwn hp (thn (hc pins s1 σ1 H1 _ I1 (turn n σ1 H1 w1)) fun b s2 ⟨H2,I2,q2⟩=>?_)
 cases b with
 | true=>
   obtain ⟨N,hN,q2⟩:=q2
   rw [if_pos rfl]
   refine wpAny_passesOwn hp (thn (hb pins s2 σ1 H2 _ I2 q2) fun f s3 q3=>?_)
   cases f with
   | next=>
     obtain ⟨σ3,H3,I3,n3⟩:=q3
     obtain ⟨m',hm,w3⟩:=hN σ3 H3 n3
     exact ⟨m',hm,σ3,H3,I3,w3⟩
   | cont=>
     obtain ⟨σ3,H3,I3,n3⟩:=q3
     obtain ⟨m',hm,w3⟩:=hN σ3 H3 n3
     exact ⟨m',hm,σ3,H3,I3,w3⟩
   |brk=>exact q3
   |ret v=>exact q3
 | false=>
   rw [if_neg Bool.false_ne_true]
   exact wpAny_execs_nil ⟨σ1,H2,I2,q2⟩
end
structure It where
 go:Nat->Hp->Prop
 yld:Nat->Hp->V->Hp->Prop
 stop:Nat->Hp->Prop
def FpOk (X:Cx) (pins:List (Addr×Obj)) (H:Hp) (b:Addr):Prop:=
 H b=none/\b≠X.env.locals/\b∉X.fs/\(b∈X.ex∨X.s₀.heap.objs.size≤b)/\(∀ x c,X.env.cells.lookup x=some c->c≠b)/\∀ p∈X.pn++pins,p.1≠b
theorem Inv.fpOk {X:Cx} {pins:List (Addr×Obj)} {σ:St} {H H':Hp} {s:Shared} {b:Addr} (I:Inv X pins σ H s) (hb:s.heap.objs.size≤b) (hn:H' b=none):FpOk X pins H' b:=by
 refine ⟨hn,Nat.ne_of_gt (Nat.lt_of_lt_of_le I.lt hb),I.nofs hb,.inr (Nat.le_trans I.sz hb),fun x c e z=>?_,fun p hp z=>?_⟩
 ·obtain ⟨v,q⟩:=I.cell x c e
  exact absurd (Nat.lt_of_lt_of_le q.lt (by rw [z];exact hb)) (Nat.lt_irrefl _)
 ·exact absurd (Nat.lt_of_lt_of_le (Heap.lt_size (I.pin p hp).1) (by rw [z];exact hb)) (Nat.lt_irrefl _)
structure Turn (P:Program) (w:World) (K:PySem.W.Frag) (tg:Expr) (J:It) (fp:List Addr) (it:Addr) (tn:Nat->Heap->Prop):Prop where
 mem:it∈fp
 obj:∀ i h,tn i h->∀ b∈fp,∃ o,h.get? b=some o/\∀ v,o.data≠.cell v
 keep:∀ i h h',tn i h->(∀ b∈fp,∀ o,h.get? b=some o->h'.get? b=some o)->tn i h'
 item:∀ (X:Cx),X.prog=P->X.w=w->X.K=K->X.calm=true->∀ (i:Nat) (pins:List (Addr×Obj)) (s:Shared) (σ:St) (H:Hp) (E:Value->Shared->Prop),Inv X pins σ H s->(∀ b∈fp,FpOk X pins H b)->tn i s.heap->J.go i H->
  wpAny (model P w) X.A (pyNext (.ref it)) (fun r s1=>∃ u,r=some u/\
   wpAny (model P w) X.A (letOwnedTupleGo tg (.ref it) u) (fun _ s2=>∃ x H',Inv X pins σ H' s2/\RelV x u/\J.yld i H x H'/\tn (i+1) s2.heap/\∀ b∈fp,H' b=none) E s1) E s
 done:∀ (X:Cx),X.prog=P->X.w=w->X.K=K->X.calm=true->∀ (i:Nat) (pins:List (Addr×Obj)) (s:Shared) (σ:St) (H:Hp) (E:Value->Shared->Prop),Inv X pins σ H s->(∀ b∈fp,FpOk X pins H b)->tn i s.heap->J.stop i H->
  wpAny (model P w) X.A (pyNext (.ref it)) (fun r s1=>r=none/\Inv X pins σ H s1) E s
 self:∀ (A:Around) (i:Nat) (s:Shared) (Q:Value->Shared->Prop) (E:Value->Shared->Prop),tn i s.heap->Q (.ref it) s->wpAny (model P w) A (pyIter (.ref it)) Q E s
abbrev TI:=St->Hp->(It->Hp->Prop)->Prop
def PIE (X:Cx) (pins:List (Addr×Obj)) (σ:St) (tg:Expr) (R:It->Hp->Prop) (itv:Value) (s2:Shared):Prop:=
 ∃ (it:Addr) (fp:List Addr) (tn:Nat->Heap->Prop) (J:It) (H':Hp),itv=.ref it/\Inv X pins σ H' s2/\Turn X.prog X.w X.K tg J fp it tn/\tn 0 s2.heap/\(∀ b∈fp,FpOk X pins H' b)/\R J H'
def PI (X:Cx) (tg iter:Expr) (wi:TI):Prop:=
 ∀ (pins:List (Addr×Obj)) (s:Shared) (σ:St) (H:Hp) (R:It->Hp->Prop),Inv X pins σ H s->wi σ H R->
   wpAny (model X.prog X.w) X.A (eval iter X.env) (fun v s1=>wpAny (model X.prog X.w) X.A (pyIter v) (PIE X pins σ tg R) X.xe s1) X.xe s
theorem go_of {M:Model} {A:Around} {E:Value->Shared->Prop} {s:Shared} {tg:Expr} {it:Addr} {u:Value} {o:Obj} {n:String} {vs:Array Value} {Q:Unit->Shared->Prop} (ho:s.heap.get? it=some o) (hc:o.cls=.type n) (hd:o.data=.fields vs)
 (hn:["enumerate","zip","dict_itemiterator","dict_reverseitemiterator","odict_iterator","itertools.zip_longest","itertools.pairwise"].contains n=false) (hQ:Q () s):wpAny M A (letOwnedTupleGo tg (.ref it) u) Q E s:=by
 unfold letOwnedTupleGo
 cases tg <;> first
  |exact wpAny_pure hQ
  |(cases u <;> first
   |exact wpAny_pure hQ
   | (refine wpAny_bind (wpAny_load ho ?_)
      rw [hc,hd]
      show wpAny M A (if (["enumerate","zip","dict_itemiterator","dict_reverseitemiterator","odict_iterator","itertools.zip_longest","itertools.pairwise"].contains n && vs[0]? == some (rawInt _))=true then _ else _) Q E s
      rw [if_neg (by intro h;rw [hn,Bool.false_and] at h;cases h)]
      exact wpAny_pure hQ))
def Itl (K:PySem.W.Frag) (a:Addr):It:=
 ⟨fun i H=>∃ xs x,SqL K H a xs/\xs[i]?=some x,fun i H x H'=>H'=H/\∀ xs,SqL K H a xs->xs[i]?=some x,fun i H=>∃ xs,SqL K H a xs/\xs.length≤i⟩
def Itr (lo:Int) (n:Nat):It:=⟨fun i _=>i<n,fun i H x H'=>H'=H/\x=.int (lo+i),fun i _=>n≤i⟩
theorem turn_list {P:Program} {w:World} {K:PySem.W.Frag} {tg:Expr} (a it:Addr):Turn P w K tg (Itl K a) [it] it (fun i h=>h.IsListIter it a i) where
 mem:=by simp
 obj:=fun i h st b hb=>by
  have e:b=it:=by simpa using hb
  subst e
  obtain ⟨o,e,c,d⟩:=st
  exact ⟨o,e,fun v z=>by rw [d] at z;cases z⟩
 keep:=fun i h h' st k=>st.at fun o e=>k it (by simp) o e
 item:=by
  intro X hP hw hK hc i pins s σ H E I hf st hg
  subst hP hw hK
  obtain ⟨xs,x,hq,hx⟩:=hg
  obtain ⟨its,rv,p,hz⟩:=I.list hq
  obtain ⟨u,hu,ru⟩:=rv.get hx
  obtain ⟨f0,f1,f2,f3,f4,f5⟩:=hf it (by simp)
  refine wpAny_pyNext_list_item st p.isList (x:=u) (by simpa using hu) fun h' st' sb=>?_
  have I1:Inv X pins σ H { s with heap:=h' }:=I.turned (t':=s.toks) (fun b o hb e=>(sb.2 b hb).trans e) f0 f1 f3 f4 f5
  obtain ⟨o,e,c,d⟩:=id st'
  exact ⟨u,rfl,go_of (s:={ s with heap:=h' }) e c d (by decide) ⟨x,H,I1,ru,⟨rfl,fun ys hy=>by rw [I.list_inj hy hq];exact hx⟩,st',fun b hb=>(hf b hb).1⟩⟩
 done:=by
  intro X hP hw hK hc i pins s σ H E I hf st hg
  subst hP hw hK
  obtain ⟨xs,hq,hx⟩:=hg
  obtain ⟨its,rv,p,hz⟩:=I.list hq
  obtain ⟨f0,f1,f2,f3,f4,f5⟩:=hf it (by simp)
  have hl:=rv.length
  exact wpAny_pyNext_list_end (I.ok.hd hc) st p.isList (by simp;omega) fun h' eb=>⟨rfl,I.turned (t':=s.toks) (fun b o hb e=>eb b o hb e) f0 f1 f3 f4 f5⟩
 self:=fun _ _ _ _ _ st h=>wpAny_pyIter_listiter st h
theorem turn_range {P:Program} {w:World} {K:PySem.W.Frag} {tg:Expr} (it:Addr) (lo:Int) (n:Nat):Turn P w K tg (Itr lo n) [it] it (fun i h=>IsRangeIter h it (lo+(i:Nat)*1) ((n:Int)-(i:Nat)) 1) where
 mem:=by simp
 obj:=fun i h st b hb=>by
  have e:b=it:=by simpa using hb
  subst e
  exact ⟨_,st,fun v z=>by
   have z':Data.fields _=Data.cell v:=z
   cases z'⟩
 keep:=fun i h h' st k=>k it (by simp) _ st
 item:=by
  intro X hP hw hK hc i pins s σ H E I hf st hg
  subst hP hw hK
  obtain ⟨f0,f1,f2,f3,f4,f5⟩:=hf it (by simp)
  have W:=Walks.range (prog:=X.prog) (w:=X.w) (I.ok.hd hc) it lo 1 n
  refine W.item i s _ _ hg st fun v h' tk hv st' kk=>?_
  obtain ⟨t,rfl⟩:=hv
  have I1:Inv X pins σ H { s with heap:=h',toks:=tk }:=I.turned (fun b o hb e=>kk b o (by simpa using hb) e) f0 f1 f3 f4 f5
  refine ⟨_,rfl,go_of (s:={ s with heap:=h',toks:=tk }) (n:="range_iterator") st' rfl rfl (by decide) ⟨.int (lo+i),H,I1,⟨t,?_⟩,⟨rfl,rfl⟩,st',fun b hb=>(hf b hb).1⟩⟩
  rw [Int.mul_one]
 done:=by
  intro X hP hw hK hc i pins s σ H E I hf st hg
  subst hP hw hK
  obtain ⟨f0,f1,f2,f3,f4,f5⟩:=hf it (by simp)
  exact wpAny_pyNext_range_end (I.ok.hd hc) st (by have:n≤i:=hg;omega) fun h' eb=>⟨rfl,I.turned (t':=s.toks) (fun b o hb e=>eb b o hb e) f0 f1 f3 f4 f5⟩
 self:=fun _ _ _ _ _ st h=>wpAny_pyIter_rangeiter st h
section
variable {X:Cx} {tg:Expr}
def iList (K:PySem.W.Frag) (tl:TE):TI:=fun σ H R=>tl σ H fun x H1=>∃ a,x=.ref a/\(∃ xs,SqL K H1 a xs)/\R (Itl K a) H1
theorem pi_list {l:Expr} {tl:TE} (hl:PE X l tl):PI X tg l (iList X.K tl):=by
 intro pins s σ H R I h
 refine thn (hl pins s σ H _ I h) fun v s1 ⟨x,H1,I1,r1,q1⟩=>?_
 obtain ⟨a,e,⟨xs,hq⟩,q⟩:=q1
 subst e
 cases r1
 obtain ⟨its,rv,p,hz⟩:=I1.list hq
 refine wpAny_pyIter_list p.isList ?_
 refine ⟨s1.heap.objs.size,[s1.heap.objs.size],_,_,H1,rfl,I1.kept (t':=s1.toks) fun b o e=>Heap.get?_push_of_some _ e,turn_list a _,⟨_,Heap.get?_push_size _ rfl,rfl,rfl⟩,fun b hb=>?_,q⟩
 have e:b=s1.heap.objs.size:=by simpa using hb
 subst e
 exact I1.fpOk (Nat.le_refl _) (I1.hok.fresh (Nat.le_refl _))
theorem range_it {pins:List (Addr×Obj)} {σ:St} {H:Hp} {s:Shared} {R:It->Hp->Prop} {E:Value->Shared->Prop} {lo hi:Int} {t u v:Tok} {tk:Nat} (I:Inv X pins σ H s) (h1:-(2 ^ 62)≤lo) (h2:lo<2 ^ 62) (h3:-(2 ^ 62)≤hi) (h4:hi<2 ^ 62)
 (q:R (Itr lo (hi-lo).toNat) H):wpAny (model X.prog X.w) X.A (pyIter (.ref s.heap.objs.size)) (PIE X pins σ tg R) E { s with heap:=s.heap.push { cls:=.type "range",data:=.fields #[.int lo t,.int hi u,.int 1 v] },toks:=tk }:=by
 refine wpAny_pyIter_range (IsRange.new ..) (small_one h1 h2 h3 h4) ?_
 have I1:Inv X pins σ H { s with heap:=s.heap.push { cls:=.type "range",data:=.fields #[.int lo t,.int hi u,.int 1 v] },toks:=tk }:=I.kept fun b o e=>Heap.get?_push_of_some _ e
 refine ⟨(s.heap.push { cls:=.type "range",data:=.fields #[.int lo t,.int hi u,.int 1 v] }).objs.size,[(s.heap.push { cls:=.type "range",data:=.fields #[.int lo t,.int hi u,.int 1 v] }).objs.size],_,_,H,rfl,
  I1.kept (t':=tk) fun b o e=>Heap.get?_push_of_some _ e,turn_range _ lo (hi-lo).toNat,?_,fun b hb=>?_,q⟩
 ·have e1:lo+((0:Nat):Int)*1=lo:=by simp
  have e2:(((hi-lo).toNat:Nat):Int)-((0:Nat):Int)=Builtin.Range.rangeSize lo hi 1:=by rw [rangeSize_one];split <;> omega
  show IsRangeIter _ _ (lo+((0:Nat):Int)*1) ((((hi-lo).toNat:Nat):Int)-((0:Nat):Int)) 1
  rw [e1,e2]
  exact Heap.get?_push_size _ rfl
 ·have e:b=(s.heap.push { cls:=.type "range",data:=.fields #[.int lo t,.int hi u,.int 1 v] }).objs.size:=by simpa using hb
  subst e
  exact I1.fpOk (Nat.le_refl _) (I1.hok.fresh (Nat.le_refl _))
def iRng1 (ta:TA):TI:=fun σ H R=>ta σ H fun vs H1=>∃ j:Int,vs=[.int j]/\-(2 ^ 62)≤j/\j<2 ^ 62/\R (Itr 0 j.toNat) H1
def iRng2 (ta:TA):TI:=fun σ H R=>ta σ H fun vs H1=>∃ i j:Int,vs=[.int i,.int j]/\(-(2 ^ 62)≤i/\i<2 ^ 62/\-(2 ^ 62)≤j/\j<2 ^ 62)/\R (Itr i (j-i).toNat) H1
theorem pi_range1 {a:Expr} {ta:TA} {p pos:Pos} (hg:Gl X "range") (hm:X.mg "range" = none) (ha:PA X [a] ta) (hs:starEach [a] X.env=[(false,eval a X.env)]:=by rfl):PI X tg (.Call (.Name "range" p) [a] [] pos) (iRng1 ta):=by
 intro pins s σ H R I h
 refine Call_ (ld_blt I hg hm boot_range (PyProof.Rows.callWith_type1 (thn (ha pos pins s σ H _ I h) fun us s1 ⟨vs,H1,I1,r1,q1⟩=>?_) hs rfl))
 obtain ⟨j,e,q1,q2,q⟩:=q1
 subst e
 cases r1 with
 | cons r rr=>
   cases rr
   obtain ⟨t,rfl⟩:=r
   exact call_range_1 (range_it I1 (by omega) (by omega) q1 q2 (by simpa using q))
theorem pi_range2 {a b:Expr} {ta:TA} {p pos:Pos} (hg:Gl X "range") (hm:X.mg "range" = none) (ha:PA X [a,b] ta) (hs:starEach [a,b] X.env=[(false,eval a X.env),(false,eval b X.env)]:=by rfl) (hs2:starEach [b] X.env=[(false,eval b X.env)]:=by rfl) :
 PI X tg (.Call (.Name "range" p) [a,b] [] pos) (iRng2 ta):=by
 intro pins s σ H R I h
 refine Call_ (ld_blt I hg hm boot_range (PyProof.Rows.callWith_type1 (thn (ha pos pins s σ H _ I h) fun us s1 ⟨vs,H1,I1,r1,q1⟩=>?_) (by rw [hs,hs2]) (by rw [hs2];rfl)))
 obtain ⟨i,j,e,⟨q1,q2,q3,q4⟩,q⟩:=q1
 subst e
 cases r1 with
 | cons r rr=>
   cases rr with
   | cons r' rr=>
     cases rr
     obtain ⟨t,rfl⟩:=r
     obtain ⟨t',rfl⟩:=r'
     exact call_range_2 (range_it I1 q1 q2 q3 q4 q)
def tFor (wi:TI) (g:TG) (tb:TS):TS:=fun D σ H=>wi σ H fun J H1=>∃ W:Nat->Nat->St->Hp->Prop,(∃ m,W 0 m σ H1)/\∀ i m σ H,W i m σ H->
 (J.stop i H/\D.nx σ H)∨(J.go i H/\∃ N:St->Hp->Prop,(∀ σ' H',N σ' H'->∃ m',m'<m/\W (i+1) m' σ' H')/\∀ x H',J.yld i H x H'->g x σ H' fun σ2 H2=>tb { D with nx:=N,ct:=N,bk:=D.nx } σ2 H2)
def pinsAt (fp:List Addr) (h:Heap):List (Addr×Obj):=fp.filterMap fun b=>(h.get? b).map fun o=>(b,o)
theorem mem_pinsAt {fp:List Addr} {h:Heap} {b:Addr} {o:Obj} (hb:b∈fp) (e:h.get? b=some o):(b,o)∈pinsAt fp h:=List.mem_filterMap.mpr ⟨b,hb,by rw [e];rfl⟩
theorem of_pinsAt {fp:List Addr} {h:Heap} {p:Addr×Obj} (hp:p∈pinsAt fp h):p.1∈fp/\h.get? p.1=some p.2:=by
 obtain ⟨b,hb,e⟩:=List.mem_filterMap.mp hp
 cases q:h.get? b with
 |none=>rw [q] at e;cases e
 | some o=>
   rw [q] at e
   have e':(b,o)=p:=Option.some.inj e
   subst e'
   exact ⟨hb,q⟩
theorem Inv.pinned {pins:List (Addr×Obj)} {σ:St} {H:Hp} {s:Shared} {fp:List Addr} (I:Inv X pins σ H s) (hf:∀ b∈fp,FpOk X pins H b) (ho:∀ b∈fp,∃ o,s.heap.get? b=some o/\∀ v,o.data≠.cell v):Inv X (pins++pinsAt fp s.heap) σ H s:=
 I.pins_of fun p hp=>(List.mem_append.mp hp).elim (fun z=>I.pin p (List.mem_append_right _ z)) fun z=>by
  obtain ⟨hb,e⟩:=of_pinsAt z
  obtain ⟨f0,f1,f2,_⟩:=hf p.1 hb
  obtain ⟨o,e',d⟩:=ho p.1 hb
  rw [e] at e';cases e'
  exact ⟨e,f0,f1,f2,d⟩
theorem Inv.unpinned {pins pl:List (Addr×Obj)} {σ:St} {H:Hp} {s:Shared} (I:Inv X (pins++pl) σ H s):Inv X pins σ H s:=I.pins_of fun p hp=>I.pin p (List.mem_append_right _ (List.mem_append_left _ hp))
theorem ps_for {iter:Expr} {body:List Stmt} {wi:TI} {g:TG} {tb:TS} {pos:Pos} (hp:PassesOwn (model X.prog X.w) X.A X.env X.xe) (hc:X.calm=true) (hi:PI X tg iter wi) (hg:PG X tg g) (hb:PSs X body tb)
 (hs:∀ x,foldedSetIterable iter X.env x=pure x:=by intro _;rfl):PS X (.For tg iter body [] pos) (tFor wi g tb):=by
 intro pins s σ H D I h
 refine wpAny_For (thn (hi pins s σ H _ I h) fun v s1 h1=>thn h1 fun itv s2 h2=>?_) hs
 obtain ⟨it,fp,tn,J,H2,e,I2,T,st2,f2,W,⟨m0,w0⟩,turn⟩:=h2
 subst e
 have stat:∀ {H':Hp},(∀ b∈fp,H' b=none)->∀ b∈fp,FpOk X pins H' b:=fun hn b hb=>⟨hn b hb,(f2 b hb).2⟩
 refine codeAny_forLoop_any (fun n s'=>∃ i σ' H',Inv X pins σ' H' s'/\tn i s'.heap/\(∀ b∈fp,H' b=none)/\W i n σ' H') ?_ m0 ⟨0,σ,H2,I2,st2,fun b hb=>(f2 b hb).1,w0⟩
 rintro n s3 ⟨i,σ3,H3,I3,st3,fr3,w3⟩
 rcases turn i n σ3 H3 w3 with ⟨stop,qn⟩|⟨go,N,hN,step⟩
 ·refine wpAny_passesOwn hp (thn (T.done X rfl rfl rfl hc i pins s3 σ3 H3 X.xe I3 (stat fr3) st3 stop) fun r s4 ⟨hr,I4⟩=>?_)
  subst hr
  exact wpAny_execs_nil ⟨σ3,H3,I4,qn⟩
 ·refine wpAny_passesOwn hp (thn (T.item X rfl rfl rfl hc i pins s3 σ3 H3 X.xe I3 (stat fr3) st3 go) fun r s4 ⟨u,hr,h4⟩=>?_)
  subst hr
  refine wpAny_passesOwn hp (thn h4 fun _ s5 ⟨x,H5,I5,r5,y5,st5,fr5⟩=>?_)
  have I5':=I5.pinned (stat fr5) (T.obj _ _ st5)
  refine wpAny_passesOwn hp (thn (hg _ s5 σ3 H5 x u _ I5' r5 (step x H5 y5)) fun _ s6 ⟨σ6,H6,I6,q6⟩=>?_)
  refine wpAny_passesOwn hp (thn (hb _ s6 σ6 H6 _ I6 q6) fun f s7 q7=>?_)
  have again:∀ {σ7:St} {H7:Hp},Inv X (pins++pinsAt fp s5.heap) σ7 H7 s7->N σ7 H7->∃ m,m<n/\∃ i σ' H',Inv X pins σ' H' s7/\tn i s7.heap/\(∀ b∈fp,H' b=none)/\W i m σ' H':=fun {σ7 H7} I7 n7=>by
   obtain ⟨m',hm,w7⟩:=hN σ7 H7 n7
   refine ⟨m',hm,i+1,σ7,H7,I7.unpinned,T.keep _ _ _ st5 fun b hb o e=>(I7.pin (b,o) (List.mem_append_right _ (List.mem_append_right _ (mem_pinsAt hb e)))).1,fun b hb=>?_,w7⟩
   obtain ⟨o,e,d⟩:=T.obj _ _ st5 b hb
   exact (I7.pin (b,o) (List.mem_append_right _ (List.mem_append_right _ (mem_pinsAt hb e)))).2.1
  cases f with
  |next=>obtain ⟨σ7,H7,I7,n7⟩:=q7;exact again I7 n7
  |cont=>obtain ⟨σ7,H7,I7,n7⟩:=q7;exact again I7 n7
  |brk=>obtain ⟨σ7,H7,I7,q7⟩:=q7;exact ⟨σ7,H7,I7.unpinned,q7⟩
  |ret v=>obtain ⟨x7,σ7,H7,I7,r7,q7⟩:=q7;exact ⟨x7,σ7,H7,I7.unpinned,r7,q7⟩
end
theorem for_list {K:PySem.W.Frag} {a:Addr} {xs:List V} {g:TG} {tb:TS} {D:Ends} {σ:St} {H:Hp} (Pv:Nat->St->Hp->Prop) (h0:Pv 0 σ H) (hl:∀ i σ H,i≤xs.length->Pv i σ H->SqL K H a xs)
 (hs:∀ i x σ H,xs[i]?=some x->Pv i σ H->g x σ H fun σ2 H2=>tb { D with nx:=Pv (i+1),ct:=Pv (i+1),bk:=D.nx } σ2 H2) (hd:∀ σ H,Pv xs.length σ H->D.nx σ H) :
 ∃ W:Nat->Nat->St->Hp->Prop,(∃ m,W 0 m σ H)/\∀ i m σ H,W i m σ H->
   ((Itl K a).stop i H/\D.nx σ H)∨((Itl K a).go i H/\∃ N:St->Hp->Prop,(∀ σ' H',N σ' H'->∃ m',m'<m/\W (i+1) m' σ' H')/\∀ x H',(Itl K a).yld i H x H'->g x σ H' fun σ2 H2=>tb { D with nx:=N,ct:=N,bk:=D.nx } σ2 H2):=by
 refine ⟨fun i m σ H=>m=xs.length-i/\i≤xs.length/\Pv i σ H,⟨xs.length,by simp,Nat.zero_le _,h0⟩,?_⟩
 rintro i m σ H ⟨rfl,hi,p⟩
 have q:=hl i σ H hi p
 by_cases hlt:i<xs.length
 ·refine .inr ⟨⟨xs,xs[i],q,by simp [hlt]⟩,Pv (i+1),fun σ' H' p'=>⟨xs.length-(i+1),by omega,rfl,hlt,p'⟩,fun x H' y=>?_⟩
  obtain ⟨e,y⟩:=y
  subst e
  exact hs i x σ _ (y xs q) p
 ·have e:i=xs.length:=by omega
  subst e
  exact .inl ⟨⟨xs,q,Nat.le_refl _⟩,hd σ H p⟩
theorem for_range {lo:Int} {n:Nat} {g:TG} {tb:TS} {D:Ends} {σ:St} {H:Hp} (Pv:Nat->St->Hp->Prop) (h0:Pv 0 σ H)
 (hs:∀ i σ H,i<n->Pv i σ H->g (.int (lo+i)) σ H fun σ2 H2=>tb { D with nx:=Pv (i+1),ct:=Pv (i+1),bk:=D.nx } σ2 H2) (hd:∀ σ H,Pv n σ H->D.nx σ H) :
 ∃ W:Nat->Nat->St->Hp->Prop,(∃ m,W 0 m σ H)/\∀ i m σ H,W i m σ H->
   ((Itr lo n).stop i H/\D.nx σ H)∨((Itr lo n).go i H/\∃ N:St->Hp->Prop,(∀ σ' H',N σ' H'->∃ m',m'<m/\W (i+1) m' σ' H')/\∀ x H',(Itr lo n).yld i H x H'->g x σ H' fun σ2 H2=>tb { D with nx:=N,ct:=N,bk:=D.nx } σ2 H2):=by
 refine ⟨fun i m σ H=>m=n-i/\i≤n/\Pv i σ H,⟨n,by simp,Nat.zero_le _,h0⟩,?_⟩
 rintro i m σ H ⟨rfl,hi,p⟩
 by_cases hlt:i<n
 ·refine .inr ⟨hlt,Pv (i+1),fun σ' H' p'=>⟨n-(i+1),by omega,rfl,hlt,p'⟩,fun x H' y=>?_⟩
  obtain ⟨e,y⟩:=y
  subst e y
  exact hs i σ _ hlt p
 ·have e:i=n:=by omega
  subst e
  exact .inl ⟨Nat.le_refl _,hd σ H p⟩
theorem while_by {c:TT} {tb:TS} {D:Ends} {σ:St} {H:Hp} (Pv:St->Hp->Prop) (μ:St->Hp->Nat) (h0:Pv σ H)
 (hs:∀ σ H,Pv σ H->c σ H fun b H1=>if b=true then tb { D with nx:=fun σ' H'=>Pv σ' H'/\μ σ' H'<μ σ H,ct:=fun σ' H'=>Pv σ' H'/\μ σ' H'<μ σ H,bk:=D.nx } σ H1 else D.nx σ H1)
 (mono:∀ σ H Q Q',(∀ b H1,Q b H1->Q' b H1)->c σ H Q->c σ H Q'):tWhile c tb D σ H:=by
 refine ⟨fun m σ H=>m=μ σ H/\Pv σ H,⟨_,rfl,h0⟩,?_⟩
 rintro m σ H ⟨rfl,p⟩
 refine mono σ H _ _ (fun b H1 q=>?_) (hs σ H p)
 cases b with
 |true=>exact ⟨_,fun σ' H' ⟨p',l⟩=>⟨_,l,rfl,p'⟩,q⟩
 |false=>exact q
abbrev R2:=V->V->Hp->VK->Prop
def OpR (X:Cx) (f:Value->Value->Sem Value) (r:R2):Prop:=
 ∀ (pins:List (Addr×Obj)) (s:Shared) (σ:St) (H:Hp) (x y:V) (v u:Value) (Q:VK),Inv X pins σ H s->RelV x v->RelV y u->r x y H Q->
   wpAny (model X.prog X.w) X.A (f v u) (EP X pins σ Q) X.xe s
def UnR (X:Cx) (f:Value->Sem Value) (r:V->Hp->VK->Prop):Prop:=
 ∀ (pins:List (Addr×Obj)) (s:Shared) (σ:St) (H:Hp) (x:V) (v:Value) (Q:VK),Inv X pins σ H s->RelV x v->r x H Q->
   wpAny (model X.prog X.w) X.A (f v) (EP X pins σ Q) X.xe s
def CallR (X:Cx) (f:Value) (r:List V->Hp->VK->Prop):Prop:=
 ∀ (pins:List (Addr×Obj)) (s:Shared) (σ:St) (H:Hp) (xs:List V) (us:List Value) (Q:VK),Inv X pins σ H s->Vals xs us->r xs H Q->
   wpAny (model X.prog X.w) X.A (call f us) (EP X pins σ Q) X.xe s
def tOp (r:R2) (ta tb:TE):TE:=fun σ H Q=>ta σ H fun x H1=>tb σ H1 fun y H2=>r x y H2 Q
def tUn (r:V->Hp->VK->Prop) (ta:TE):TE:=fun σ H Q=>ta σ H fun x H1=>r x H1 Q
def rI (C:Int->Int->Prop) (g:Int->Int->V):R2:=fun x y H Q=>∃ i j,x=.int i/\y=.int j/\C i j/\Q (g i j) H
def rI0 (g:Int->Int->V):R2:=fun x y H Q=>∃ i j,x=.int i/\y=.int j/\Q (g i j) H
def rU (g:Int->V):V->Hp->VK->Prop:=fun x H Q=>∃ i,x=.int i/\Q (g i) H
section
variable {X:Cx} {a b c:Expr} {ta tb tc:TE} {pos:Pos}
theorem binT (ha:PE X a ta) (hb:PE X b tb) {pins:List (Addr×Obj)} {s:Shared} {σ:St} {H:Hp} {R:V->V->Hp->Prop} (I:Inv X pins σ H s)
 (h:ta σ H fun x H1=>tb σ H1 fun y H2=>R x y H2) {Q:Value->Shared->Prop} {f:Value->Value->Sem Value}
 (hf:∀ v u s2 x y H2,Inv X pins σ H2 s2->RelV x v->RelV y u->R x y H2->wpAny (model X.prog X.w) X.A (f v u) Q X.xe s2) :
 wpAny (model X.prog X.w) X.A (eval a X.env) (fun v s₁=>wpAny (model X.prog X.w) X.A (eval b X.env) (fun u s₂=>wpAny (model X.prog X.w) X.A (f v u) Q X.xe s₂) X.xe s₁) X.xe s:=by
 refine thn (ha pins s σ H _ I h) fun v s1 ⟨x,H1,I1,r1,q1⟩=>?_
 refine thn (hb pins s1 σ H1 _ I1 q1) fun u s2 ⟨y,H2,I2,r2,q2⟩=>?_
 exact hf v u s2 x y H2 I2 r1 r2 q2
theorem pe_op {op:Operator} {r:R2} (ho:OpR X (binaryOp op) r) (ha:PE X a ta) (hb:PE X b tb):PE X (.BinOp a op b pos) (tOp r ta tb):=by
 intro pins s σ H Q I h
 exact wpAny_BinOp (binT ha hb I h fun v u s2 x y H2 I2 rx ry q=>ho pins s2 σ H2 x y v u Q I2 rx ry q)
theorem pe_un {op:UnaryOp} {r:V->Hp->VK->Prop} (ho:UnR X (unaryOp op) r) (ha:PE X a ta):PE X (.UnaryOp op a pos) (tUn r ta):=by
 intro pins s σ H Q I h
 exact UnaryOp_ (thn (ha pins s σ H _ I h) fun v s1 ⟨x,H1,I1,r1,q1⟩=>ho pins s1 σ H1 x v Q I1 r1 q1)
theorem opI {f:Value->Value->Sem Value} {C:Int->Int->Prop} {g:Int->Int->Int}
 (rule:∀ (i j:Int) (t u:Tok) (s:Shared) (Q:Value->Shared->Prop) (E:Value->Shared->Prop),C i j->Q (.int (g i j) s.toks) { s with toks:=s.toks+1 }->wpAny (model X.prog X.w) X.A (f (.int i t) (.int j u)) Q E s) :
 OpR X f (rI C fun i j=>.int (g i j)):=by
 intro pins s σ H x y v u Q I rx ry h
 obtain ⟨i,j,rfl,rfl,hc,q⟩:=h
 obtain ⟨t,rfl⟩:=rx
 obtain ⟨t',rfl⟩:=ry
 exact rule i j t t' s _ _ hc ⟨.int (g i j),H,I.tok _,⟨_,rfl⟩,q⟩
theorem opI0 {f:Value->Value->Sem Value} {g:Int->Int->Int}
 (rule:∀ (i j:Int) (t u:Tok) (s:Shared) (Q:Value->Shared->Prop) (E:Value->Shared->Prop),Q (.int (g i j) s.toks) { s with toks:=s.toks+1 }->wpAny (model X.prog X.w) X.A (f (.int i t) (.int j u)) Q E s) :
 OpR X f (rI0 fun i j=>.int (g i j)):=by
 intro pins s σ H x y v u Q I rx ry h
 obtain ⟨i,j,rfl,rfl,q⟩:=h
 obtain ⟨t,rfl⟩:=rx
 obtain ⟨t',rfl⟩:=ry
 exact rule i j t t' s _ _ ⟨.int (g i j),H,I.tok _,⟨_,rfl⟩,q⟩
theorem opB0 {f:Value->Value->Sem Value} {g:Int->Int->Bool}
 (rule:∀ (i j:Int) (t u:Tok) (s:Shared) (Q:Value->Shared->Prop) (E:Value->Shared->Prop),Q (.bool (g i j)) s->wpAny (model X.prog X.w) X.A (f (.int i t) (.int j u)) Q E s) :
 OpR X f (rI0 fun i j=>.bl (g i j)):=by
 intro pins s σ H x y v u Q I rx ry h
 obtain ⟨i,j,rfl,rfl,q⟩:=h
 obtain ⟨t,rfl⟩:=rx
 obtain ⟨t',rfl⟩:=ry
 exact rule i j t t' s _ _ ⟨.bl (g i j),H,I,rfl,q⟩
def CDiv (i j:Int):Prop:=0<j/\j<1073741824
def CPow (i j:Int):Prop:=0≤j/\j≤1000000/\i.natAbs<2 ^ 64
def CMul (i j:Int):Prop:=(-(2 ^ 64)<i/\i<2 ^ 64)∨(-(2 ^ 64)<j/\j<2 ^ 64)
theorem CMul.ok {i j:Int} (h:CMul i j):IntMulOk i j:=by
 rcases h with ⟨h1,h2⟩|⟨h1,h2⟩
 ·exact .of_left (intBits_le_64 h1 h2)
 ·exact .of_right (intBits_le_64 h1 h2)
theorem op_add:OpR X (binaryOp .Add) (rI0 fun i j=>.int (i+j)):=opI0 fun _ _ _ _ _ _ _ q=>add_int q
theorem op_sub:OpR X (binaryOp .Sub) (rI0 fun i j=>.int (i-j)):=opI0 fun _ _ _ _ _ _ _ q=>sub_int q
theorem op_mul:OpR X (binaryOp .Mult) (rI CMul fun i j=>.int (i*j)):=opI fun _ _ _ _ _ _ _ hc q=>mul_int q hc.ok
theorem op_fdiv:OpR X (binaryOp .FloorDiv) (rI CDiv fun i j=>.int (i / j)):=opI fun i j _ _ _ _ _ hc q=>by
 have h1:(0:Int)<j:=hc.1
 have h2:j<1073741824:=hc.2
 exact floordiv_int (by omega) (by rw [Int.fdiv_eq_ediv_of_nonneg i (by omega)];exact q) (.inl (PyProof.noPylong_small (by omega)))
theorem op_mod:OpR X (binaryOp .Mod) (rI (fun _ j=>0<j) fun i j=>.int (i % j)):=opI fun i j _ _ _ _ _ hc q=>by
 have h1:(0:Int)<j:=hc
 exact mod_int' (by omega) (by rw [Int.fmod_eq_emod_of_nonneg i (by omega)];exact q)
theorem op_pow:OpR X (binaryOp .Pow) (rI CPow fun i j=>.int (i ^ j.toNat)):=opI fun _ _ _ _ _ _ _ hc q=>pow_int_small hc.1 hc.2.1 hc.2.2 q
theorem unI {f:Value->Sem Value} {g:Int->Int}
 (rule:∀ (i:Int) (t:Tok) (s:Shared) (Q:Value->Shared->Prop) (E:Value->Shared->Prop),Q (.int (g i) s.toks) { s with toks:=s.toks+1 }->wpAny (model X.prog X.w) X.A (f (.int i t)) Q E s) :
 UnR X f (rU fun i=>.int (g i)):=by
 intro pins s σ H x v Q I rx h
 obtain ⟨i,rfl,q⟩:=h
 obtain ⟨t,rfl⟩:=rx
 exact rule i t s _ _ ⟨.int (g i),H,I.tok _,⟨_,rfl⟩,q⟩
theorem un_neg:UnR X (unaryOp .USub) (rU fun i=>.int (-i)):=unI fun _ _ _ _ _ q=>neg_int q
end
def scal:V->V->Bool
 |.non,.non=>true|.non,.int _=>true|.int _,.non=>true|.non,.bl _=>true|.bl _,.non=>true|.non,.str _=>true|.str _,.non=>true
 |.int _,.int _=>true|.bl _,.bl _=>true|.str _,.str _=>true|.byt _,.byt _=>true
 |.int _,.str _=>true|.str _,.int _=>true|.bl _,.str _=>true|.str _,.bl _=>true
 |_,_=>false
def rEq:R2:=fun x y H Q=>scal x y=true/\Q (.bl (decide (x=y))) H
def rNe:R2:=fun x y H Q=>scal x y=true/\Q (.bl (!decide (x=y))) H
theorem dec_int {i j:Int}:decide (V.int i=V.int j)=(i == j):=by
 rw [Bool.eq_iff_iff]
 simp
theorem dec_bl {i j:Bool}:decide (V.bl i=V.bl j)=(i == j):=by
 rw [Bool.eq_iff_iff]
 simp
theorem dec_str {i j:Str}:decide (V.str i=V.str j)=(i == j):=by
 rw [Bool.eq_iff_iff]
 simp
theorem dec_byt {i j:Array UInt8}:decide (V.byt i=V.byt j)=(i.toList == j.toList):=by
 rw [Bool.eq_iff_iff]
 cases i
 cases j
 simp
section
variable {X:Cx} {a b c:Expr} {ta tb tc:TE} {pos:Pos}
theorem fin_bl {pins:List (Addr×Obj)} {σ:St} {H:Hp} {s:Shared} {Q:VK} {k k':Bool} (I:Inv X pins σ H s) (q:Q (.bl k) H) (e:k=k'):EP X pins σ Q (.bool k') s:=by
 subst e
 exact ⟨.bl k,H,I,rfl,q⟩
theorem op_eq:OpR X (compareOp .Eq) rEq:=by
 intro pins s σ H x y v u Q I rx ry h
 obtain ⟨hs,q⟩:=h
 cases x with
 | non=>
   cases rx
   cases y with
   |non=>cases ry;exact PySem.EqNone.eq_none_none (fin_bl I q (by simp))
   |bl j=>cases ry;exact PySem.EqNone.eq_none_bool (fin_bl I q (by simp))
   |int j=>obtain ⟨t',rfl⟩:=ry;exact PySem.EqNone.eq_none_int (fin_bl I q (by simp))
   |str j=>obtain ⟨t',rfl⟩:=ry;exact PySem.EqNone.eq_none_str (fin_bl I q (by simp))
   |_=>exact absurd (show false=true from hs) Bool.false_ne_true
 | bl i=>
   cases rx
   cases y with
   |non=>cases ry;exact PySem.EqNone.eq_bool_none (fin_bl I q (by simp))
   |bl j=>cases ry;exact eq_bool (fin_bl I q dec_bl)
   |str j=>obtain ⟨t',rfl⟩:=ry;exact PySem.EqMixed.eq_bool_str (fin_bl I q (by simp))
   |_=>exact absurd (show false=true from hs) Bool.false_ne_true
 | int i=>
   obtain ⟨t,rfl⟩:=rx
   cases y with
   |non=>cases ry;exact PySem.EqNone.eq_int_none (fin_bl I q (by simp))
   |int j=>obtain ⟨t',rfl⟩:=ry;exact eq_int (fin_bl I q dec_int)
   |str j=>obtain ⟨t',rfl⟩:=ry;exact PySem.EqMixed.eq_int_str (fin_bl I q (by simp))
   |_=>exact absurd (show false=true from hs) Bool.false_ne_true
 | str i=>
   obtain ⟨t,rfl⟩:=rx
   cases y with
   |non=>cases ry;exact PySem.EqNone.eq_str_none (fin_bl I q (by simp))
   |bl j=>cases ry;exact PySem.EqMixed.eq_str_bool (fin_bl I q (by simp))
   |int j=>obtain ⟨t',rfl⟩:=ry;exact PySem.EqMixed.eq_str_int (fin_bl I q (by simp))
   |str j=>obtain ⟨t',rfl⟩:=ry;exact eq_str (fin_bl I q dec_str)
   |_=>exact absurd (show false=true from hs) Bool.false_ne_true
 | byt i=>
   obtain ⟨t,rfl⟩:=rx
   cases y with
   |byt j=>obtain ⟨t',rfl⟩:=ry;exact PySem.W.eq_bytes (fin_bl I q dec_byt)
   |_=>exact absurd (show false=true from hs) Bool.false_ne_true
 |_=>cases y <;> exact absurd (show false=true from hs) Bool.false_ne_true
theorem op_ne:OpR X (compareOp .NotEq) rNe:=by
 intro pins s σ H x y v u Q I rx ry h
 obtain ⟨hs,q⟩:=h
 cases x with
 | non=>
   cases rx
   cases y with
   |non=>cases ry;exact PySem.EqNone.ne_none_none (fin_bl I q (by simp))
   |bl j=>cases ry;exact PySem.EqNone.ne_none_bool (fin_bl I q (by simp))
   |int j=>obtain ⟨t',rfl⟩:=ry;exact PySem.EqNone.ne_none_int (fin_bl I q (by simp))
   |str j=>obtain ⟨t',rfl⟩:=ry;exact PySem.EqNone.ne_none_str (fin_bl I q (by simp))
   |_=>exact absurd (show false=true from hs) Bool.false_ne_true
 | bl i=>
   cases rx
   cases y with
   |non=>cases ry;exact PySem.EqNone.ne_bool_none (fin_bl I q (by simp))
   |bl j=>cases ry;exact ne_bool (fin_bl I q (congrArg not dec_bl))
   |str j=>obtain ⟨t',rfl⟩:=ry;exact PySem.EqMixed.ne_bool_str (fin_bl I q (by simp))
   |_=>exact absurd (show false=true from hs) Bool.false_ne_true
 | int i=>
   obtain ⟨t,rfl⟩:=rx
   cases y with
   |non=>cases ry;exact PySem.EqNone.ne_int_none (fin_bl I q (by simp))
   |int j=>obtain ⟨t',rfl⟩:=ry;exact ne_int (fin_bl I q (congrArg not dec_int))
   |str j=>obtain ⟨t',rfl⟩:=ry;exact PySem.EqMixed.ne_int_str (fin_bl I q (by simp))
   |_=>exact absurd (show false=true from hs) Bool.false_ne_true
 | str i=>
   obtain ⟨t,rfl⟩:=rx
   cases y with
   |non=>cases ry;exact PySem.EqNone.ne_str_none (fin_bl I q (by simp))
   |bl j=>cases ry;exact PySem.EqMixed.ne_str_bool (fin_bl I q (by simp))
   |int j=>obtain ⟨t',rfl⟩:=ry;exact PySem.EqMixed.ne_str_int (fin_bl I q (by simp))
   |str j=>obtain ⟨t',rfl⟩:=ry;exact ne_str (fin_bl I q (congrArg not dec_str))
   |_=>exact absurd (show false=true from hs) Bool.false_ne_true
 | byt i=>
   obtain ⟨t,rfl⟩:=rx
   cases y with
   |byt j=>obtain ⟨t',rfl⟩:=ry;exact PySem.W.ne_bytes (fin_bl I q (congrArg not dec_byt))
   |_=>exact absurd (show false=true from hs) Bool.false_ne_true
 |_=>cases y <;> exact absurd (show false=true from hs) Bool.false_ne_true
theorem op_lt:OpR X (compareOp .Lt) (rI0 fun i j=>.bl (decide (i<j))):=opB0 fun _ _ _ _ _ _ _ q=>lt_int q
theorem op_le:OpR X (compareOp .LtE) (rI0 fun i j=>.bl (decide (i≤j))):=opB0 fun _ _ _ _ _ _ _ q=>le_int q
theorem op_gt:OpR X (compareOp .Gt) (rI0 fun i j=>.bl (decide (j<i))):=opB0 fun _ _ _ _ _ _ _ q=>gt_int q
theorem op_ge:OpR X (compareOp .GtE) (rI0 fun i j=>.bl (decide (j≤i))):=opB0 fun _ _ _ _ _ _ _ q=>ge_int q
theorem op_isN:OpR X (compareOp .Is) (fun x y H Q=>y=.non/\Q (.bl (decide (x=.non))) H):=by
 intro pins s σ H x y v u Q I rx ry h
 obtain ⟨rfl,q⟩:=h
 cases ry
 refine is_none_gen (fin_bl I q ?_)
 cases x <;> first
  |(cases rx;rfl)
  |(obtain ⟨t,rfl⟩:=rx;rfl)
theorem nomark (b:Expr) {op:CmpOp} (h:op≠.In:=by decide) (h2:op≠.NotIn:=by decide):behindInMarks op b=false:=by
 have e1:(op == CmpOp.In)=false:=by cases op <;> first|rfl|exact absurd rfl h
 have e2:(op == CmpOp.NotIn)=false:=by cases op <;> first|rfl|exact absurd rfl h2
 cases b <;> simp [behindInMarks,e1,e2]
theorem pe_cmpR {op:CmpOp} {r:R2} (ho:OpR X (compareOp op) r) (ha:PE X a ta) (hb:PE X b tb) (hm:behindInMarks op b=false):PE X (.Compare a [op] [b] pos) (tOp r ta tb):=by
 intro pins s σ H Q I h
 exact wpAny_Compare1 (binT ha hb I h fun v u s2 x y H2 I2 rx ry q=>ho pins s2 σ H2 x y v u Q I2 rx ry q) hm
def tTest (t:TE):TT:=fun σ H Q=>t σ H fun x H'=>∃ k,x=.bl k/\Q k H'
theorem pt_cmpR {op:CmpOp} {r:R2} (ho:OpR X (compareOp op) r) (ha:PE X a ta) (hb:PE X b tb) (hm:behindInMarks op b=false):PT X (.Compare a [op] [b] pos) (tTest (tOp r ta tb)):=by
 intro pins s σ H Q I h
 refine wpAny_isTrue_Compare1 (thn (ha pins s σ H _ I h) fun v s1 ⟨x,H1,I1,r1,q1⟩=>thn (hb pins s1 σ H1 _ I1 q1) fun u s2 ⟨y,H2,I2,r2,q2⟩=>
  thn (ho pins s2 σ H2 x y v u _ I2 r1 r2 q2) fun c s3 ⟨z,H3,I3,r3,k,e,q3⟩=>?_) hm
 subst e
 cases r3
 exact wpAny_truthy_bool ⟨H3,I3,q3⟩
def tChain (r r':R2) (ta tb tc:TE):TE:=fun σ H Q=>ta σ H fun x H1=>tb σ H1 fun y H2=>r x y H2 fun z H3=>∃ k,z=.bl k/\
 (if k=true then tc σ H3 fun w' H4=>r' y w' H4 Q else Q (.bl false) H3)
theorem pe_chain {op op':CmpOp} {r r':R2} (ho:OpR X (compareOp op) r) (ho':OpR X (compareOp op') r') (ha:PE X a ta) (hb:PE X b tb) (hc:PE X c tc)
 (hm:lastMarks [op,op'] [b,c]=false:=by with_unfolding_all rfl):PE X (.Compare a [op,op'] [b,c] pos) (tChain r r' ta tb tc):=by
 intro pins s σ H Q I h
 refine Compare_chain (thn (ha pins s σ H _ I h) fun v s1 ⟨x,H1,I1,r1,q1⟩=>chain_link (thn (hb pins s1 σ H1 _ I1 q1) fun u s2 ⟨y,H2,I2,r2,q2⟩=>
  thn (ho pins s2 σ H2 x y v u _ I2 r1 r2 q2) fun d s3 ⟨z,H3,I3,r3,k,e,q3⟩=>?_)) hm
 subst e
 cases r3
 refine wpAny_truthy_bool ?_
 cases k with
 |false=>exact ite_ff ⟨.bl false,H3,I3,rfl,q3⟩
 |true=>exact ite_tt (chain_last (thn (hc pins s3 σ H3 _ I3 q3) fun w' s4 ⟨z',H4,I4,r4,q4⟩=>ho' pins s4 σ H4 y z' u w' Q I4 r2 r4 q4))
theorem pt_chain {op op':CmpOp} {r r':R2} (ho:OpR X (compareOp op) r) (ho':OpR X (compareOp op') r') (ha:PE X a ta) (hb:PE X b tb) (hc:PE X c tc)
 (hm:lastMarks [op,op'] [b,c]=false:=by with_unfolding_all rfl):PT X (.Compare a [op,op'] [b,c] pos) (tTest (tChain r r' ta tb tc)):=by
 intro pins s σ H Q I h
 refine isTrue_chain (thn (ha pins s σ H _ I h) fun v s1 ⟨x,H1,I1,r1,q1⟩=>test_link (thn (hb pins s1 σ H1 _ I1 q1) fun u s2 ⟨y,H2,I2,r2,q2⟩=>
  thn (ho pins s2 σ H2 x y v u _ I2 r1 r2 q2) fun d s3 ⟨z,H3,I3,r3,k,e,q3⟩=>?_)) hm
 subst e
 cases r3
 refine wpAny_truthy_bool ?_
 cases k with
 | false=>
   obtain ⟨k',e',q'⟩:=q3
   cases e'
   exact ite_ff ⟨H3,I3,q'⟩
 | true=>
   refine ite_tt (test_last (thn (hc pins s3 σ H3 _ I3 q3) fun w' s4 ⟨z',H4,I4,r4,q4⟩=>thn (ho' pins s4 σ H4 y z' u w' _ I4 r2 r4 q4) fun d' s5 ⟨z2,H5,I5,r5,k2,e2,q5⟩=>?_))
   subst e2
   cases r5
   exact wpAny_truthy_bool ⟨H5,I5,q5⟩
theorem line63:(sizeLine:Nat)<2 ^ 63:=by rw [sizeLine_eq];decide
theorem vals1 {x:V} {us:List Value} (r:Vals [x] us):∃ u,us=[u]/\RelV x u:=by
 cases r with
 |cons r1 r2=>cases r2;exact ⟨_,rfl,r1⟩
end
section
variable {prog:Program} {w:World} {A:Around} {E:Value->Shared->Prop} {s:Shared} {K:PySem.W.Frag} {x dx C f:Addr} {mA:Str->Option Value} {name:Str} {v:Value}
end
theorem RelO.some_of {v:V} {o:Option Value} (r:RelO (some v) o):∃ u,o=some u/\RelV v u:=by
 cases o with
 |none=>exact (show False from r).elim
 |some u=>exact ⟨u,rfl,r⟩
section
variable {P:Program} {w:World} {H H':Hp} {h h':Heap} {a C dx:Addr} {fs fs':List (Str×V)}
end
section
variable {X:Cx} {pins:List (Addr×Obj)} {σ:St} {H:Hp} {s:Shared} {a C dx:Addr} {fs:List (Str×V)} {f:Str} {v:V} {A:Around} {E:Value->Shared->Prop}
end
section
variable {X:Cx} {o e value:Expr} {f:Str} {pos pos' tpos:Pos} {ta tv:TE}
end
section
variable {X:Cx} {pins:List (Addr×Obj)} {σ:St} {H:Hp} {s:Shared} {A:Around} {E:Value->Shared->Prop} {Q:Value->Shared->Prop} {c:Value} {b:Bool}
end
structure Room (k:Nat) (A:Around):Prop where
 hd:A.handled=none
 dp:A.depth+3*k+5<recursionLimit
 un:A.units+16*k+200<cLine
 gd:A.guards=some []
theorem Room.mono {j k:Nat} {A:Around} (r:Room k A) (h:j≤k):Room j A:=⟨r.hd,by have:=r.dp;omega,by have:=r.un;omega,r.gd⟩
theorem Room.deeper {k:Nat} {A:Around} (r:Room (k+1) A) (env:Env):Room k (A.deeper env):=
 ⟨r.hd,by have:=r.dp;show A.depth+1+3*k+5<_;omega,by have:=r.un;show A.units+3+16*k+200<_;omega,r.gd⟩
theorem Room.depth {k:Nat} {A:Around} (r:Room k A):A.depth<recursionLimit:=by have:=r.dp;omega
theorem Room.units {k:Nat} {A:Around} (r:Room k A):A.units+64<cLine:=by have:=r.un;omega
def tNil:TA:=fun _ H Q=>Q [] H
def tCons (ta:TE) (tr:TA):TA:=fun σ H Q=>ta σ H fun x H1=>tr σ H1 fun xs H2=>Q (x::xs) H2
section
variable {X:Cx} {e:Expr} {es:List Expr} {te:TE} {t:TA} {pos:Pos}
theorem pa_nil:PA X [] tNil:=fun _ _ _ _ H Q I h=>Calls.spliced_nil ⟨[],H,I,.nil,h⟩
theorem pa_cons (ha:PE X e te) (hr:PA X es t) (hs:starEach (e::es) X.env=(false,eval e X.env)::starEach es X.env:=by rfl):PA X (e::es) (tCons te t):=by
 intro pos pins s σ H Q I h
 rw [hs]
 show wpAny _ _ (spliced ((false,eval e X.env)::backTo pos (starEach es X.env))) _ _ s
 refine Calls.spliced_cons (thn (ha pins s σ H _ I h) fun u s1 ⟨x,H1,I1,r1,q1⟩=>?_)
 exact thn (hr pos pins s1 σ H1 _ I1 q1) fun us s2 ⟨xs,H2,I2,r2,q2⟩=>⟨x::xs,H2,I2,.cons r1 r2,q2⟩
def tTup (t:TA):TE:=fun σ H Q=>t σ H fun xs H1=>xs.length≤sizeLine/\∀ p,H1 p=none->Q (.ref p) (upd H1 p (.tup xs))
def tLst (t:TA):TE:=fun σ H Q=>t σ H fun xs H1=>xs.length≤sizeLine/\∀ p,H1 p=none->Q (.ref p) (upd H1 p (.lst xs))
theorem pe_tup {x1} (h:PA X es t):PE X (.Tuple es x1 pos) (tTup t):=by
 intro pins s σ H Q I hq
 refine wpAny_Tuple_spliced (thn (h pos pins s σ H _ I hq) fun us s1 ⟨xs,H1,I1,r,z,q⟩=>⟨by rw [← r.length];exact z,?_⟩)
 have hf:H1 s1.heap.objs.size=none:=I1.hok.fresh (Nat.le_refl _)
 refine ⟨.ref s1.heap.objs.size,upd H1 s1.heap.objs.size (.tup xs),I1.laid (t':=s1.toks) (fun b u e=>Heap.get?_push_of_some _ e) (Nat.le_refl _) ?_,rfl,q _ hf⟩
 exact ⟨z,us,r,⟨_,Heap.get?_push_size _ rfl,rfl,_,rfl⟩⟩
theorem pe_lst (h:PA X es t):PE X (.List es pos) (tLst t):=by
 intro pins s σ H Q I hq
 refine wpAny_List_spliced (thn (h pos pins s σ H _ I hq) fun us s1 ⟨xs,H1,I1,r,z,q⟩=>⟨by rw [← r.length];exact z,?_⟩)
 have hf:H1 s1.heap.objs.size=none:=I1.hok.fresh (Nat.le_refl _)
 refine ⟨.ref s1.heap.objs.size,upd H1 s1.heap.objs.size (.lst xs),I1.laid (t':=s1.toks) (fun b u e=>Heap.get?_push_of_some _ e) (Nat.le_refl _) ?_,rfl,q _ hf⟩
 exact ⟨z,us,0,r,Heap.get?_push_size _ rfl⟩
end
abbrev Sp:=List V->Hp->VK->XK->Prop
abbrev CXT:=List Env->Hp->Shared->XK->Value->Shared->Prop
structure Env0 (P:Program) (w:World) (K:PySem.W.Frag) (mg:Str->Option Value) (base:Heap) (A:Around) (outer:List Env) (s:Shared) (H:Hp):Prop where
 frames:A.frames=some outer
 mod:Mod K mg base
 bs:∀ b o,base.get? b=some o->s.heap.get? b=some o/\H b=none
 bsz:base.objs.size≤s.heap.objs.size
 funs:s.heap.FunFrames base outer
 frf:∀ b∈frs outer,H b=none
 hok:HOk P w H s.heap
 bare:AllBare s.gens
def CE (outer:List Env) (P:Program) (w:World) (H:Hp) (s:Shared) (Q:VK) (u:Value) (s':Shared):Prop:=
 ∃ v H',s'.os=s.os/\AllBare s'.gens/\Un (frs outer) [] H H' s.heap s'.heap/\HOk P w H' s'.heap/\RelV v u/\Q v H'
def CR (CX:CXT) (outer:List Env) (P:Program) (w:World) (H:Hp) (s:Shared) (Q:VK) (E:XK) (r:Result) (s':Shared):Prop:=
 match r with
 |.ok (.ret u)=>CE outer P w H s Q u s'
 |.ok _=>False
 |.error e=>CX outer H s E e s'
structure FnOk (P:Program) (w:World) (K:PySem.W.Frag) (mg:Str->Option Value) (base:Heap) (CX:CXT) (k:Nat) (f:Addr) (fd:FuncData) (ps:List Str) (sp:Sp):Prop where
 len:∀ vs H Q E,sp vs H Q E->vs.length=ps.length
 run:∀ (A:Around) (outer:List Env) (s:Shared) (H:Hp) (args:Args) (us:List Value) (vs:List V) (Q:VK) (E:XK),Room k A->Env0 P w K mg base A outer s H->BindsTo s fd args (ps.zip us)->Vals vs us->sp vs H Q E->
  codeAny (model P w) A (.call (.ref f) args) (CR CX outer P w H s Q E) s
section
variable {X:Cx} {pins:List (Addr×Obj)} {σ:St} {H:Hp} {s s':Shared}
theorem Inv.env0 (I:Inv X pins σ H s):Env0 X.prog X.w X.K X.mg X.base X.A X.stack s H:=
 ⟨I.ok.frames,I.ok.mod,I.bs,Nat.le_trans I.ok.bsz I.sz,I.stack,I.stkFree,I.hok,I.bare⟩
theorem Inv.after {Q:VK} {u:Value} (I:Inv X pins σ H s) (h:CE X.stack X.prog X.w H s Q u s'):EP X pins σ Q u s':=by
 obtain ⟨v,H',os,bare,un,hok,r,q⟩:=h
 obtain ⟨hh,g,d,t,os'⟩:=s'
 obtain rfl:os'=s.os:=os
 exact ⟨v,H',I.call (h':=hh) (g':=g) (d':=d) (t':=t) (ch:=[]) un hok bare (fun b z=>absurd z (by simp)),r,q⟩
end
def tCall (sp:Sp) (dvs:List V) (E:XK) (t:TA):TE:=fun σ H Q=>t σ H fun vs H1=>sp (vs++dvs) H1 Q E
def Binds (K:PySem.W.Frag) (fd:FuncData) (ps:List Str) (ds:List Value):Prop:=
 ∀ (s:Shared) (us:List Value),K.In s.heap->(us++ds).length=ps.length->BindsTo s fd ⟨us,[]⟩ (ps.zip (us++ds))
theorem Binds.all {K:PySem.W.Frag} {fd:FuncData} {ps:List Str} (h:∀ us:List Value,us.length=ps.length->bindArgs fd ⟨us,[]⟩=pure (ps.zip us)):Binds K fd ps []:=fun s us _ hl=>by
 rw [List.append_nil] at hl ⊢
 exact .of_eq (h us hl)
def Passes (CX:CXT) (X:Cx) (E:XK):Prop:=∀ (pins:List (Addr×Obj)) (σ:St) (H:Hp) (s:Shared) (e:Value) (s':Shared),Inv X pins σ H s->CX X.stack H s E e s'->X.xe e s'
section
variable {X:Cx} {CX:CXT} {k:Nat} {f C:Addr} {fd:FuncData} {ps:List Str} {sp:Sp} {dvs:List V} {ds:List Value} {E:XK} {x m:Str} {p pos apos:Pos} {e o:Expr} {es:List Expr} {ta:TE} {t:TA}
theorem run_fn {pins:List (Addr×Obj)} {σ:St} {H:Hp} {s:Shared} {Q:VK} {us:List Value} {vs:List V} (F:FnOk X.prog X.w X.K X.mg X.base CX k f fd ps sp) (hr:Room k X.A) (hb:Binds X.K fd ps ds) (hd:Vals dvs ds) (hx:Passes CX X E)
 (I:Inv X pins σ H s) (r:Vals vs us) (h:sp (vs++dvs) H Q E):wpAny (model X.prog X.w) X.A (call (.ref f) us) (EP X pins σ Q) X.xe s:=by
 have r2:Vals (vs++dvs) (us++ds):=r.append hd
 have hl:(us++ds).length=ps.length:=by rw [← r2.length];exact F.len _ _ _ _ h
 refine wpAny_call (codeAny_mono (F.run X.A X.stack s H ⟨us,[]⟩ (us++ds) (vs++dvs) Q E hr I.env0 (hb s us I.kIn hl) r2 h) fun r s' hq=>?_)
 cases r with
 |error e=>exact hx pins σ H s e s' I hq
 | ok fl=>
   cases fl with
   |ret u=>exact I.after hq
   |next=>exact False.elim hq
   |brk=>exact False.elim hq
   |cont=>exact False.elim hq
theorem pe_call (F:FnOk X.prog X.w X.K X.mg X.base CX k f fd ps sp) (hr:Room k X.A) (hg:Gl X x) (hm:X.mg x=some (.ref f)) (hk:PySem.W.keepIn X.K (.ref f)=true) (hb:Binds X.K fd ps ds) (hd:Vals dvs ds) (hx:Passes CX X E)
 (ha:PA X (e::es) t) (hdb:(x == ("__debug__" : Str))=false:=by decide) (he:starEach (e::es) X.env=(false,eval e X.env)::starEach es X.env:=by rfl) (hpl:(backTo pos (starEach es X.env)).any (·.1)=false:=by rfl) :
 PE X (.Call (.Name x p) (e::es) [] pos) (tCall sp dvs E t):=by
 intro pins s σ H Q I h
 refine wpAny_Call_Name_kw (ld_glob I hg hm ?_ hdb)
 refine PySem.W.callWith_K (h₀:=X.base) I.ok.mod.kin hk (thn (ha pos pins s σ H _ I h) fun us s1 ⟨vs,H1,I1,r,q⟩=>⟨I1.kIn,?_⟩) he hpl
 exact run_fn F hr hb hd hx I1 r q
end
def PK (X:Cx) (kws:List Keyword) (t:TA):Prop:=
 ∀ (pos:Pos) (pins:List (Addr×Obj)) (s:Shared) (σ:St) (H:Hp) (Q:List V->Hp->Prop),Inv X pins σ H s->t σ H Q->wpAny (model X.prog X.w) X.A (evalAll ((backToKw pos (keywordEach kws X.env)).map (·.2))) (AP X pins σ Q) X.xe s
section
variable {X:Cx} {CX:CXT} {k:Nat} {f C:Addr} {fd:FuncData} {ps ks:List Str} {sp:Sp} {E:XK} {x m:Str} {p pos apos kpos:Pos} {e o:Expr} {es:List Expr} {kws:List Keyword} {te ta:TE} {t tk:TA} {nm:Option Str}
theorem pk_nil:PK X [] tNil:=fun _ _ _ _ H Q I h=>wpAny_evalAll_nil ⟨[],H,I,.nil,h⟩
theorem pk_cons (ha:PE X e te) (hr:PK X kws t):PK X (⟨nm,e,kpos⟩::kws) (tCons te t):=by
 intro pos pins s σ H Q I h
 show wpAny _ _ (evalAll ((do let v ← eval e X.env;standAt pos;pure v)::(backToKw pos (keywordEach kws X.env)).map (·.2))) _ _ s
 refine wpAny_evalAll_cons (wpAny_bind (thn (ha pins s σ H _ I h) fun u s1 ⟨x,H1,I1,r1,q1⟩=>wpAny_bind (wpAny_standAt (wpAny_pure ?_))))
 exact thn (hr pos pins s1 σ H1 _ I1 q1) fun us s2 ⟨xs,H2,I2,r2,q2⟩=>⟨x::xs,H2,I2,.cons r1 r2,q2⟩
structure KBinds (K:PySem.W.Frag) (fd:FuncData) (ps ks:List Str) (g:List Value->List Value->List Value) (gV:List V->List V->List V):Prop where
 to:∀ (s:Shared) (us ws:List Value),K.In s.heap->(g us ws).length=ps.length->BindsTo s fd ⟨us,ks.zip ws⟩ (ps.zip (g us ws))
 rel:∀ {vs:List V} {us:List Value} {zs:List V} {ws:List Value},Vals vs us->Vals zs ws->Vals (gV vs zs) (g us ws)
def tCallK (sp:Sp) (gV:List V->List V->List V) (E:XK) (t tk:TA):TE:=fun σ H Q=>t σ H fun vs H1=>tk σ H1 fun zs H2=>sp (gV vs zs) H2 Q E
variable {g:List Value->List Value->List Value} {gV:List V->List V->List V}
theorem run_fnk {pins:List (Addr×Obj)} {σ:St} {H:Hp} {s:Shared} {Q:VK} {us ws:List Value} {vs zs:List V} (F:FnOk X.prog X.w X.K X.mg X.base CX k f fd ps sp) (hr:Room k X.A) (hb:KBinds X.K fd ps ks g gV) (hx:Passes CX X E)
 (I:Inv X pins σ H s) (r:Vals vs us) (rz:Vals zs ws) (h:sp (gV vs zs) H Q E):wpAny (model X.prog X.w) X.A (call (.ref f) us (ks.zip ws)) (EP X pins σ Q) X.xe s:=by
 have r2:=hb.rel r rz
 have hl:(g us ws).length=ps.length:=by rw [← r2.length];exact F.len _ _ _ _ h
 refine wpAny_call (codeAny_mono (F.run X.A X.stack s H ⟨us,ks.zip ws⟩ (g us ws) (gV vs zs) Q E hr I.env0 (hb.to s us ws I.kIn hl) r2 h) fun r s' hq=>?_)
 cases r with
 |error e=>exact hx pins σ H s e s' I hq
 | ok fl=>
   cases fl with
   |ret u=>exact I.after hq
   |next=>exact False.elim hq
   |brk=>exact False.elim hq
   |cont=>exact False.elim hq
theorem pe_callK (F:FnOk X.prog X.w X.K X.mg X.base CX k f fd ps sp) (hr:Room k X.A) (hg:Gl X x) (hm:X.mg x=some (.ref f)) (hk:PySem.W.keepIn X.K (.ref f)=true) (hb:KBinds X.K fd ps ks g gV) (hx:Passes CX X E)
 (ha:PA X (e::es) t) (hkw:PK X kws tk) (hall:(backToKw pos (keywordEach kws X.env)).all (·.1.isSome)=true:=by rfl) (hks:(backToKw pos (keywordEach kws X.env)).filterMap (·.1)=ks:=by rfl)
 (hdb:(x == ("__debug__" : Str))=false:=by decide) (he:starEach (e::es) X.env=(false,eval e X.env)::starEach es X.env:=by rfl)
 (hpl:((backTo pos (starEach (e::es) X.env)).any (·.1) || (backToKw pos (keywordEach kws X.env)).any (·.1.isNone))=false:=by rfl) :
 PE X (.Call (.Name x p) (e::es) kws pos) (tCallK sp gV E t tk):=by
 intro pins s σ H Q I h
 refine wpAny_Call_Name_kw (ld_glob I hg hm ?_ hdb)
 refine PySem.W.callWith_KW (h₀:=X.base) I.ok.mod.kin hk hall (thn (ha pos pins s σ H _ I h) fun us s1 ⟨vs,H1,I1,r,q⟩=>?_) hpl he
 refine thn (hkw pos pins s1 σ H1 _ I1 q) fun ws s2 ⟨zs,H2,I2,rz,q2⟩=>⟨I2.kIn,?_⟩
 rw [hks]
 exact run_fnk F hr hb hx I2 r rz q2
end
structure FnScope (N P:List Str) (sc:Scope):Prop where
 kind:sc.kind=.function
 co:sc.isCoroutine=false
 gen:sc.isGenerator=false
 nd:N.Nodup
 pre:N.take P.length=P
 par:∀ x∈P,sc.names.lookup x=some .local∨sc.names.lookup x=some .cell
 nofree:∀ y∈sc.names,y.2≠.free
theorem bindL_out {kindOf:Str->Option NameKind} {x:Str}:∀ {binds:List (Str×Value)} {m:Str->Option Value},(∀ v,(x,v)∉binds)->bindL kindOf binds m x=m x
 |[],_,_=>rfl
 | (n,v)::r,m,h=>by
   unfold bindL
   rw [bindL_out fun w hw=>h w (List.mem_cons_of_mem _ hw)]
   split
   ·have:x≠n:=by rintro rfl;exact h v List.mem_cons_self
    simp [this]
   ·rfl
theorem bindC_out {kindOf:Str->Option NameKind} {x:Str}:∀ {binds:List (Str×Value)} {m:Str->Option Value},(∀ v,(x,v)∉binds)->bindC kindOf binds m x=m x
 |[],_,_=>rfl
 | (n,v)::r,m,h=>by
   unfold bindC
   rw [bindC_out fun w hw=>h w (List.mem_cons_of_mem _ hw)]
   split
   ·rfl
   ·have:x≠n:=by rintro rfl;exact h v List.mem_cons_self
    simp [this]
theorem bindL_get {kindOf:Str->Option NameKind} {x:Str} {v:Value}:∀ {P:List Str} {vs:List Value} {i:Nat} {m:Str->Option Value},P.Nodup->P[i]?=some x->vs[i]?=some v->kindOf x=some .local->
 bindL kindOf (P.zip vs) m x=some v
 |[],_,_,_,_,h,_,_=>by simp at h
 |_::_,[],_,_,_,_,h,_=>by simp at h
 | p::P,w::vs,0,m,nd,h1,h2,hk=>by
   simp at h1 h2;subst h1;subst h2
   show bindL kindOf ((p,w)::P.zip vs) m p=_
   unfold bindL
   rw [bindL_out fun v hv=>(List.nodup_cons.mp nd).1 (List.of_mem_zip hv).1,if_pos hk]
   simp
 | p::P,w::vs,i+1,m,nd,h1,h2,hk=>by
   show bindL kindOf ((p,w)::P.zip vs) m x=_
   unfold bindL
   exact bindL_get (i:=i) (List.nodup_cons.mp nd).2 (by simpa using h1) (by simpa using h2) hk
theorem bindC_get {kindOf:Str->Option NameKind} {x:Str} {v:Value}:∀ {P:List Str} {vs:List Value} {i:Nat} {m:Str->Option Value},P.Nodup->P[i]?=some x->vs[i]?=some v->kindOf x≠some .local->
 bindC kindOf (P.zip vs) m x=some v
 |[],_,_,_,_,h,_,_=>by simp at h
 |_::_,[],_,_,_,_,h,_=>by simp at h
 | p::P,w::vs,0,m,nd,h1,h2,hk=>by
   simp at h1 h2;subst h1;subst h2
   show bindC kindOf ((p,w)::P.zip vs) m p=_
   unfold bindC
   rw [bindC_out fun v hv=>(List.nodup_cons.mp nd).1 (List.of_mem_zip hv).1,if_neg hk]
   simp
 | p::P,w::vs,i+1,m,nd,h1,h2,hk=>by
   show bindC kindOf ((p,w)::P.zip vs) m x=_
   unfold bindC
   exact bindC_get (i:=i) (List.nodup_cons.mp nd).2 (by simpa using h1) (by simpa using h2) hk
def start (N:List Str) (vs:List V):St:=vs.map some++List.replicate (N.length-vs.length) none
def cxOf (CX:CXT) (P:Program) (w:World) (K:PySem.W.Frag) (mg:Str->Option Value) (base:Heap) (N:List Str) (qual:Str) (scope:Scope) (f:Addr) (cd:Value) (A:Around) (outer:List Env) (s:Shared) (H:Hp) (E:XK):Cx where
 prog:=P
 w:=w
 K:=K
 mg:=mg
 base:=base
 A:=A.deeper (envOfC qual scope s.heap.objs.size f cd)
 N:=N
 s₀:=s
 H₀:=H
 env:=envOfC qual scope s.heap.objs.size f cd
 outer:=outer
 stack:=envOfC qual scope s.heap.objs.size f cd::outer
 ex:=[]
 calm:=true
 fn:=fun _=>true
 pn:=[]
 xe:=fun e s'=>wpAny (model P w) (A.deeper (envOfC qual scope s.heap.objs.size f cd)) (leaving (envOfC qual scope s.heap.objs.size f cd) e) (fun _ s''=>CX outer H s E e s'') (fun e' s''=>CX outer H s E e' s'') s'
theorem cell_has {sc:Scope} {n:Nat} {x:Str} (h:sc.names.lookup x=some .cell):∃ c,(cellsFrom n sc.names []).lookup x=some c:=by
 have q:=PySem.W.cellsFrom_some sc.names n [] (.inl h)
 exact Option.isSome_iff_exists.mp q
theorem inv_start {CX:CXT} {P:Program} {w:World} {K:PySem.W.Frag} {mg:Str->Option Value} {base:Heap} {N ps:List Str} {qual:Str} {scope:Scope} {f:Addr} {cd:Value} {A:Around} {outer:List Env} {s s1:Shared} {H:Hp} {E:XK} {us:List Value} {vs:List V}
 (S:FnScope N ps scope) (hd:A.handled=none) (e0:Env0 P w K mg base A outer s H) (hl:vs.length=ps.length) (r:Vals vs us)
 (x:InCallC s s.heap.objs.size (bindL (envOfC qual scope s.heap.objs.size f cd).kindOf (ps.zip us) fun _=>none) (cellsFrom (s.heap.objs.size+1) scope.names []) (bindC (envOfC qual scope s.heap.objs.size f cd).kindOf (ps.zip us) fun _=>none) s1) :
 Inv (cxOf CX P w K mg base N qual scope f cd A outer s H E) [] (start N vs) H s1:=by
 have hpl:ps.length≤N.length:=by have:=congrArg List.length S.pre;rw [List.length_take] at this;omega
 obtain ⟨h1,tk,rfl,hk⟩:=x.done
 have noA:∀ b:Addr,b∉(cxOf CX P w K mg base N qual scope f cd A outer s H E).ex:=fun b z=>absurd (show b∈([]:List Addr) from z) (by simp)
 refine ⟨⟨e0.mod,S.kind,rfl,rfl,Nat.le_refl _,fun y z c h1 h2=>?_,fun y hy=>?_,fun y c _ h=>?_,fun _=>hd,Around.frames_deeper e0.frames,.inr ⟨rfl,rfl⟩,fun b z=>absurd z (noA b),e0.bs,e0.bsz,fun b _ _=>noA b,fun b z=>absurd z (noA b),e0.funs,e0.frf⟩,
  rfl,e0.bare,Un.kept hk,⟨_,x.toInCall.ns,fun i y v h1 h2 h3=>?_⟩,fun y c h=>⟨_,x.cell y c h⟩,e0.hok.fresh (Nat.le_refl _),fun y c h=>?_,fun p hp=>absurd (show p∈([]:List (Addr×Obj)) from hp) (by simp),e0.hok.kept hk,?_⟩
 ·exact name_of_addr x.apart (PySem.mem_of_lookup h1) (PySem.mem_of_lookup h2)
 ·have hy:scope.names.lookup y=some .cell∨scope.names.lookup y=some .free:=hy
  rcases hy with hy|hy
  ·exact cell_has hy
  ·exact absurd rfl (S.nofree _ (PySem.mem_of_lookup hy))
 ·exact Nat.le_of_lt (x.above y c (PySem.mem_of_lookup h))
 ·have hi:i<vs.length:=by
   unfold start at h2
   by_cases hi:i<vs.length
   ·exact hi
   ·rw [List.getElem?_append_right (by simpa using hi)] at h2
    rw [List.getElem?_replicate] at h2
    split at h2 <;> cases h2
  have ha:vs[i]?=some v:=by
   unfold start at h2
   rw [List.getElem?_append_left (by simpa using hi),List.getElem?_map] at h2
   cases e:vs[i]? with
   |none=>rw [e] at h2;cases h2
   |some a=>rw [e] at h2;cases h2;rfl
  obtain ⟨u,hu,rv⟩:=r.get ha
  have hp:ps[i]?=some y:=by
   rw [← S.pre,List.getElem?_take_of_lt (by omega)];exact h1
  have ndP:ps.Nodup:=by rw [← S.pre];exact S.nd.sublist (List.take_sublist _ _)
  refine ⟨u,rv,?_⟩
  rcases S.par y (List.mem_of_getElem? hp) with k|k
  ·exact .inl ⟨k,bindL_get ndP hp hu k⟩
  ·obtain ⟨c,e⟩:=cell_has (n:=s.heap.objs.size+1) k
   refine .inr ⟨.inl k,c,e,?_⟩
   have q:=x.cell y c e
   rw [bindC_get ndP hp hu (by show scope.names.lookup y≠_;rw [k];decide)] at q
   exact q
 ·exact e0.hok.fresh (Nat.le_of_lt (x.above y c (PySem.mem_of_lookup h)))
 ·unfold start
  show _=N.length
  rw [List.length_append,List.length_map,List.length_replicate]
  omega
theorem fn_of {CX:CXT} {P:Program} {w:World} {K:PySem.W.Frag} {mg:Str->Option Value} {base:Heap} {k:Nat} {f:Addr} {name qual:Str} {params:Arguments} {body:List Stmt} {scope:Scope} {dV kV doc pm cdv ct oc:Value} {an od:Option Addr}
 {osl:Array (Option Value)} {N ps:List Str} {sp:Sp} (lk:K.lookup f=some ⟨oc,od,.func (PySem.W.fnOf name qual params body scope dV kV doc pm an cdv ct),osl⟩) (hcd:PySem.W.codeIn K cdv qual=true) (S:FnScope N ps scope)
 (len:∀ vs H Q E,sp vs H Q E->vs.length=ps.length)
 (hbody:∀ (A:Around) (outer:List Env) (s:Shared) (H:Hp) (vs:List V) (Q:VK) (E:XK),Room k (A.deeper (envOfC qual scope s.heap.objs.size f cdv))->sp vs H Q E->
  ∃ t,PSs (cxOf CX P w K mg base N qual scope f cdv A outer s H E) body t/\t { nx:=fun _ H'=>Q .non H',rt:=Q } (start N vs) H) :
 FnOk P w K mg base CX (k+1) f (PySem.W.fnOf name qual params body scope dV kV doc pm an cdv ct) ps sp:=by
 refine ⟨len,fun A outer s H args us vs Q E hr e0 hb r hsp=>?_⟩
 have hl:=len _ _ _ _ hsp
 have KX:K.In s.heap:=e0.mod.kin.keeps fun b o e=>(e0.bs b o e).1
 have lim:s.heap.NoLimit:=e0.mod.nolimit.keeps fun b o e=>(e0.bs b o e).1
 have hkind:∀ y∈ps.zip us,scope.names.lookup y.1=some .local∨(scope.names.lookup y.1=some .cell/\((cellsFrom (s.heap.objs.size+1) scope.names []).lookup y.1).isSome=true):=fun ⟨n,v⟩ hy=>by
  rcases S.par n (List.of_mem_zip hy).1 with q|q
  ·exact .inl q
  ·exact .inr ⟨q,PySem.W.cellsFrom_some _ _ _ (.inl q)⟩
 refine codeAny_call_function hr.depth (KX _ _ lk) rfl S.co S.gen rfl (PySem.W.codeRec_of KX hcd) (hb _ _ _ _ ?_)
 refine wpAny_newFunctionEnv_cells S.kind hkind fun env he s1 x=>?_
 subst he
 refine ⟨lim.keeps x.toInCall.keep,codeAny_func ?_⟩
 obtain ⟨t,ht,hq⟩:=hbody A outer s H vs Q E (hr.deeper _) hsp
 have I:Inv (cxOf CX P w K mg base N qual scope f cdv A outer s H E) [] (start N vs) H s1:=inv_start S hr.hd e0 hl r x
 refine wpAny_mono (ht [] s1 (start N vs) H _ I hq) (fun fl s' hs=>?_) fun e s' hs=>hs
 have fin:∀ {σ':St} {H':Hp} {v:V} {u:Value},Inv (cxOf CX P w K mg base N qual scope f cdv A outer s H E) [] σ' H' s'->RelV v u->Q v H'->CE outer P w H s Q u s':=
  fun {σ' H' v u} J rv q=>⟨v,H',J.os,J.bare,J.base,J.hok,rv,q⟩
 cases fl with
 | ret u=>
   obtain ⟨v,σ',H',J,rv,q⟩:=hs
   exact fin J rv q
 | next=>
   obtain ⟨σ',H',J,q⟩:=hs
   exact fin (v:=V.non) (u:=Value.none) J rfl q
 | brk=>
   obtain ⟨_,_,_,q⟩:=hs
   exact False.elim q
 | cont=>
   obtain ⟨_,_,_,q⟩:=hs
   exact False.elim q
section
variable {X:Cx} {x:Str} {p pos:Pos} {e:Expr} {es:List Expr} {t:TA} {id T:String} {r:List V->Hp->VK->Prop}
def tCB (r:List V->Hp->VK->Prop) (t:TA):TE:=fun σ H Q=>t σ H fun vs H1=>r vs H1 Q
theorem pe_callB (hc:CallR X (.builtin id) r) (hg:Gl X x) (hm:X.mg x=none) (hv:bootBuiltins x=some (.builtin id)) (ha:PA X (e::es) t) (hn:x ≠ "__name__":=by decide) (hdb:(x == ("__debug__" : Str))=false:=by decide)
 (he:starEach (e::es) X.env=(false,eval e X.env)::starEach es X.env:=by rfl) (hpl:(backTo pos (starEach es X.env)).any (·.1)=false:=by rfl):PE X (.Call (.Name x p) (e::es) [] pos) (tCB r t):=by
 intro pins s σ H Q I h
 refine wpAny_Call_Name_kw (ld_blt I hg hm hv ?_ hn hdb)
 exact PyProof.Rows.callWith_builtin1 (thn (ha pos pins s σ H _ I h) fun us s1 ⟨vs,H1,I1,r1,q1⟩=>hc pins s1 σ H1 vs us Q I1 r1 q1) he hpl
theorem pe_callTy (hc:CallR X (.type T) r) (hg:Gl X x) (hm:X.mg x=none) (hv:bootBuiltins x=some (.type T)) (ha:PA X (e::es) t) (hn:x ≠ "__name__":=by decide) (hdb:(x == ("__debug__" : Str))=false:=by decide)
 (he:starEach (e::es) X.env=(false,eval e X.env)::starEach es X.env:=by rfl) (hpl:(backTo pos (starEach es X.env)).any (·.1)=false:=by rfl):PE X (.Call (.Name x p) (e::es) [] pos) (tCB r t):=by
 intro pins s σ H Q I h
 refine wpAny_Call_Name_kw (ld_blt I hg hm hv ?_ hn hdb)
 exact PyProof.Rows.callWith_type1 (thn (ha pos pins s σ H _ I h) fun us s1 ⟨vs,H1,I1,r1,q1⟩=>hc pins s1 σ H1 vs us Q I1 r1 q1) he hpl
end
end L2
namespace HT
open PySem PyProof.Rows
section
open PySem.SeqAt
open PySem.AutoSeq1 (wpAny_loadPart')
open PySem.MeetsSeq PySem.MeetsSeq2 PySem.MeetsSeq3
end
section
variable {prog:Program} {w:World} {A:Around} {E:Value->Shared->Prop} {s:Shared}
def sIx (n d:Nat):Option Int->Nat
 |none=>d
 |some v=>if v<0 then (v+(n:Int)).toNat else min v.toNat n
theorem sIx_none (n d:Nat):sIx n d none=d:=rfl
theorem sIx_nat (n d k:Nat):sIx n d (some (k:Int))=min k n:=by
 show (if (k:Int)<0 then ((k:Int)+(n:Int)).toNat else min (k:Int).toNat n)=min k n
 rw [if_neg (by omega),Int.toNat_natCast]
end
end HT
namespace L2
open PySem PySem.Spec PyProof.Rows
abbrev TO:=St->Hp->(Option Int->Hp->Prop)->Prop
def PO (X:Cx) (e:Option Expr) (t:TO):Prop:=
 ∀ (pins:List (Addr×Obj)) (s:Shared) (σ:St) (H:Hp) (Q:Option Int->Hp->Prop),Inv X pins σ H s->t σ H Q->
   wpAny (model X.prog X.w) X.A (evalPart e X.env) (fun u s'=>∃ o H',Inv X pins σ H' s'/\IsPart u o/\Q o H') X.xe s
def tNoPart:TO:=fun _ H Q=>Q none H
def tPart (t:TE):TO:=fun σ H Q=>t σ H fun x H1=>∃ i,x=.int i/\Q (some i) H1
section
variable {X:Cx} {e:Expr} {te:TE} {lo hi:Option Expr} {tl th:TO} {pos p2:Pos}
theorem po_none:PO X none tNoPart:=by
 intro pins s σ H Q I h
 rw [evalPart_none]
 exact wpAny_pure ⟨none,H,I,.none,h⟩
theorem po_some (h:PE X e te):PO X (some e) (tPart te):=by
 intro pins s σ H Q I hw
 rw [evalPart_some]
 refine thn (h pins s σ H _ I hw) fun u s1 ⟨x,H1,I1,r1,q1⟩=>?_
 obtain ⟨i,rfl,q⟩:=q1
 obtain ⟨t,rfl⟩:=r1
 exact ⟨some i,H1,I1,.int i t,q⟩
def SlR (X:Cx) (r:V->Option Int->Option Int->Hp->VK->Prop):Prop:=
 ∀ (pins:List (Addr×Obj)) (s:Shared) (σ:St) (H:Hp) (x:V) (v vl vu:Value) (lo hi:Option Int) (sl:Addr) (Q:VK),Inv X pins σ H s->RelV x v->s.heap.IsSliceOf sl vl vu .none->IsPart vl lo->IsPart vu hi->r x lo hi H Q->
   ∃ T id,typeLookup (.type T) "__getitem__" = pure (some (.builtin id))/\s.TypeIs v T/\wpAny (model X.prog X.w) X.A (getItem v (.ref sl)) (EP X pins σ Q) X.xe s
def tSl (r:V->Option Int->Option Int->Hp->VK->Prop) (te:TE) (tl th:TO):TE:=fun σ H Q=>te σ H fun x H1=>tl σ H1 fun l H2=>th σ H2 fun u H3=>r x l u H3 Q
theorem pe_slice {r:V->Option Int->Option Int->Hp->VK->Prop} (hr:SlR X r) (he:PE X e te) (hl:PO X lo tl) (hu:PO X hi th):PE X (.Subscript e (.Slice lo hi none p2) pos) (tSl r te tl th):=by
 intro pins s σ H Q I h
 refine Subscript_ (thn (he pins s σ H _ I h) fun v s1 ⟨x,H1,I1,r1,q1⟩=>?_)
 refine wpAny_Slice (thn (hl pins s1 σ H1 _ I1 q1) fun vl s2 ⟨l,H2,I2,pl,q2⟩=>thn (hu pins s2 σ H2 _ I2 q2) fun vu s3 ⟨u,H3,I3,pu,q3⟩=>?_)
 rw [evalPart_none]
 refine wpAny_pure ?_
 have I4:Inv X pins σ H3 { s3 with heap:=s3.heap.push { cls:=.type "slice",data:=.fields #[vl,vu,.none] } }:=I3.kept (t':=s3.toks) fun b ob q=>Heap.get?_push_of_some _ q
 obtain ⟨T,id,hT,ht,hg⟩:=hr pins { s3 with heap:=s3.heap.push { cls:=.type "slice",data:=.fields #[vl,vu,.none] } } σ H3 x v vl vu l u s3.heap.objs.size Q I4 r1 (Heap.IsSliceOf.new ..) pl pu q3
 show wpAny (model X.prog X.w) X.A (subscriptTail e (.Slice lo hi none p2) v (.ref s3.heap.objs.size)) (EP X pins σ Q) X.xe { s3 with heap:=s3.heap.push { cls:=.type "slice",data:=.fields #[vl,vu,.none] } }
 exact tail_any (ops:=[.ref s3.heap.objs.size,v]) ht hT hg (by with_unfolding_all rfl)
def cutV (xs:List V) (lo hi:Option Int):List V:=(xs.drop (HT.sIx xs.length 0 lo)).take (HT.sIx xs.length xs.length hi-HT.sIx xs.length 0 lo)
theorem cutV_length (xs:List V) (lo hi:Option Int):(cutV xs lo hi).length≤xs.length:=by
 unfold cutV
 rw [List.length_take,List.length_drop]
 omega
end
def ixN (n:Nat) (i:Int):Option Nat:=if 0≤i then (if i<n then some i.toNat else none) else if -(n:Int)≤i then some (i+n).toNat else none
def atI {α:Type} (xs:List α) (i:Int):Option α:=(ixN xs.length i).bind fun j=>xs[j]?
theorem ixN_seq {n:Nat} {i:Int} {j:Nat} (h:ixN n i=some j):seqIndex? i n=some j/\j<n/\-(n:Int)≤i/\i<n:=by
 unfold ixN at h
 by_cases h0:0≤i
 ·rw [if_pos h0] at h
  by_cases h1:i<n
  ·rw [if_pos h1] at h
   have e:i.toNat=j:=Option.some.inj h
   exact ⟨by rw [seqIndex_of h0 h1,e],by omega,by omega,h1⟩
  ·rw [if_neg h1] at h;cases h
 ·rw [if_neg h0] at h
  by_cases h1:-(n:Int)≤i
  ·rw [if_pos h1] at h
   have e:(i+n).toNat=j:=Option.some.inj h
   exact ⟨by rw [seqIndex_neg (by omega) h1,e],by omega,h1,by omega⟩
  ·rw [if_neg h1] at h;cases h
theorem atI_get {α:Type} {xs:List α} {i:Int} {v:α} (h:atI xs i=some v):∃ j,seqIndex? i xs.length=some j/\xs[j]?=some v/\j<xs.length/\-(xs.length:Int)≤i/\i<xs.length:=by
 unfold atI at h
 cases e:ixN xs.length i with
 |none=>rw [e] at h;cases h
 | some j=>
   rw [e] at h
   obtain ⟨h1,h2,h3,h4⟩:=ixN_seq e
   exact ⟨j,h1,h,h2,h3,h4⟩
theorem atI_nat {α:Type} {xs:List α} {j:Nat} {v:α} (h:xs[j]?=some v):atI xs (j:Int)=some v:=by
 have hj:j<xs.length:=(List.getElem?_eq_some_iff.mp h).1
 have e:ixN xs.length (j:Int)=some j:=by
  unfold ixN
  rw [if_pos (by omega),if_pos (by omega)];simp
 unfold atI;rw [e];exact h
def PlainIx (b:Expr):Prop:=∀ o i,subscripted b false o i=operate [o,i] (getItem o i)
def IxR (X:Cx) (r:R2):Prop:=
 ∀ (value slice:Expr) (pins:List (Addr×Obj)) (s:Shared) (σ:St) (H:Hp) (x y:V) (v u:Value) (Q:VK),Inv X pins σ H s->RelV x v->RelV y u->r x y H Q->
   subscripted slice false v u=operate [v,u] (getItem v u)->wpAny (model X.prog X.w) X.A (subscriptTail value slice v u) (EP X pins σ Q) X.xe s
def MtR (X:Cx) (id:String) (r:V->List V->Hp->VK->Prop):Prop:=
 ∀ (pins:List (Addr×Obj)) (s:Shared) (σ:St) (H:Hp) (x:V) (xs:List V) (v:Value) (us:List Value) (Q:VK),Inv X pins σ H s->RelV x v->Vals xs us->r x xs H Q->
   wpAny (model X.prog X.w) X.A (call (.builtin id) (v::us)) (EP X pins σ Q) X.xe s
section
variable {X:Cx} {a b:Expr} {ta tb:TE} {pos:Pos}
theorem IxR.or {r r':R2} (h:IxR X r) (h':IxR X r'):IxR X (fun x y H Q=>r x y H Q∨r' x y H Q):=by
 intro value slice pins s σ H x y v u Q I rx ry q hs
 rcases q with q|q
 ·exact h value slice pins s σ H x y v u Q I rx ry q hs
 ·exact h' value slice pins s σ H x y v u Q I rx ry q hs
theorem pe_ix {r:R2} (hr:IxR X r) (ha:PE X a ta) (hb:PE X b tb) (hs:PlainIx b):PE X (.Subscript a b pos) (tOp r ta tb):=by
 intro pins s σ H Q I h
 exact Subscript_ (binT ha hb I h fun v u s2 x y H2 I2 rx ry q=>hr a b pins s2 σ H2 x y v u Q I2 rx ry q (hs _ _))
def rIxL (K:PySem.W.Frag):R2:=fun x y H Q=>∃ p xs i v,x=.ref p/\y=.int i/\SqL K H p xs/\atI xs i=some v/\Q v H
def rIxT (K:PySem.W.Frag):R2:=fun x y H Q=>∃ p xs i v,x=.ref p/\y=.int i/\SqT K H p xs/\atI xs i=some v/\Q v H
def rIxS:R2:=fun x y H Q=>∃ z i c,x=.str z/\y=.int i/\z.length≤sizeLine/\atI z.cps.toList i=some c/\Q (.str ⟨#[c]⟩) H
theorem ix_list:IxR X (rIxL X.K):=by
 intro value slice pins s σ H x y v u Q I rx ry h hs
 obtain ⟨p,xs,i,z,rfl,rfl,hq,he,q⟩:=h
 cases rx
 obtain ⟨t,rfl⟩:=ry
 obtain ⟨its,r,pl,hz⟩:=I.list hq
 obtain ⟨j,h1,h2,h3,h4,h5⟩:=atI_get he
 obtain ⟨w,ew,rw'⟩:=r.get h2
 have hl:=r.length
 have hn:=line63
 have fin:EP X pins σ Q w s:=⟨z,H,I,rw',q⟩
 by_cases h0:0≤i
 ·have hj:i.toNat=j:=by
   rw [seqIndex_of h0 h5] at h1
   exact Option.some.inj h1
  exact item_listR pl.isList h0 (by omega) (by rw [hj];simpa using ew) fin hs
 ·have hj:(i+(its.toArray.size:Int)).toNat=j:=by
   rw [seqIndex_neg (by omega) h4] at h1
   rw [List.size_toArray,← hl]
   exact Option.some.inj h1
  exact subscriptTail_builtinR (x:=w) pl.isList.typeIs slot_list_getitem.lookup
   (wpAny_getItem_list_neg (Q:=fun r s'=>r=w/\EP X pins σ Q r s') pl.isList (by omega) (by rw [List.size_toArray] <;> omega) (by omega) (by rw [hj];simpa using ew) ⟨rfl,fin⟩) hs
theorem ix_tup:IxR X (rIxT X.K):=by
 intro value slice pins s σ H x y v u Q I rx ry h hs
 obtain ⟨p,xs,i,z,rfl,rfl,hq,he,q⟩:=h
 cases rx
 obtain ⟨t,rfl⟩:=ry
 obtain ⟨its,r,pl,hz⟩:=I.tuple hq
 obtain ⟨j,h1,h2,h3,h4,h5⟩:=atI_get he
 obtain ⟨w,ew,rw'⟩:=r.get h2
 have hl:=r.length
 have hn:=line63
 have fin:EP X pins σ Q w s:=⟨z,H,I,rw',q⟩
 exact subscriptTail_builtinR (x:=w) pl.typeIs slot_tuple_getitem.lookup
  (getItem_tuple (j:=j) (Q:=fun r s'=>r=w/\EP X pins σ Q r s') pl (by omega) (by omega) (by rw [List.size_toArray,← hl];exact h1) (by simpa using ew) ⟨rfl,fin⟩) hs
theorem ix_str:IxR X rIxS:=by
 intro value slice pins s σ H x y v u Q I rx ry h hs
 obtain ⟨z,i,c,rfl,rfl,hz,he,q⟩:=h
 obtain ⟨t,rfl⟩:=rx
 obtain ⟨t',rfl⟩:=ry
 obtain ⟨j,h1,h2,h3,h4,h5⟩:=atI_get he
 have hl:z.cps.toList.length=z.length:=by simp [Str.length]
 rw [hl] at h1 h4 h5
 have hn:=line63
 exact tail_any (typeIs_str s z t) slot_str_getitem.lookup (getItem_str (c:=c) (by
  have e1:decide (i < -(2 ^ 63:Int))=false:=decide_eq_false (by omega)
  have e2:decide (i ≥ 2 ^ 63)=false:=decide_eq_false (by omega)
  rw [e1,e2,Bool.or_false]) (by rw [h1];simpa using h2) ⟨.str ⟨#[c]⟩,H,I.tok _,⟨_,rfl⟩,q⟩) hs
def rIx (K:PySem.W.Frag):R2:=fun x y H Q=>rIxL K x y H Q∨rIxT K x y H Q∨rIxS x y H Q
theorem ix_seq:IxR X (rIx X.K):=ix_list.or (ix_tup.or ix_str)
theorem slice_bounds (lo hi:Option Int) (n:Nat):(sliceBounds lo hi none n).1=((HT.sIx n 0 lo:Nat):Int)/\(sliceBounds lo hi none n).2.1=((HT.sIx n n hi:Nat):Int)/\(sliceBounds lo hi none n).2.2=1:=by
 refine ⟨?_,?_,rfl⟩
 ·cases lo with
  |none=>simp [sliceBounds,HT.sIx]
  | some i=>
    simp only [sliceBounds,HT.sIx,Option.getD_none,show (1:Int) > 0 by decide,if_true]
    by_cases h:i<0
    ·simp only [h,if_true] <;> omega
    ·simp only [h,if_false] <;> omega
 ·cases hi with
  |none=>simp [sliceBounds,HT.sIx]
  | some i=>
    simp only [sliceBounds,HT.sIx,Option.getD_none,show (1:Int) > 0 by decide,if_true]
    by_cases h:i<0
    ·simp only [h,if_true] <;> omega
    ·simp only [h,if_false] <;> omega
theorem slicePick_cut (its:List Value) (lo hi:Option Int):slicePick its.toArray lo hi none=((its.drop (HT.sIx its.length 0 lo)).take (HT.sIx its.length its.length hi-HT.sIx its.length 0 lo)).toArray:=by
 obtain ⟨h1,h2,h3⟩:=slice_bounds lo hi its.toArray.size
 unfold slicePick
 rw [h1,h2,h3]
 simp only [sliceRange_one,pick_run,List.size_toArray] <;> rfl
def rSlL (K:PySem.W.Frag):V->Option Int->Option Int->Hp->VK->Prop:=fun x lo hi H Q=>∃ a xs,x=.ref a/\SqL K H a xs/\∀ p,H p=none->Q (.ref p) (upd H p (.lst (cutV xs lo hi)))
theorem sl_list:SlR X (rSlL X.K):=by
 intro pins s σ H x v vl vu lo hi sl Q I rx hs pl pu h
 obtain ⟨a,xs,rfl,hx,q⟩:=h
 cases rx
 obtain ⟨its,r,ht,hz⟩:=I.list hx
 have hlen:=r.length
 refine ⟨"list",_,slot_list_getitem.lookup,ht.isList.typeIs,?_⟩
 refine wpAny_getItem_list_slice ht.isList hs pl pu .none (by simp) ?_ (by rw [List.size_toArray] <;> omega)
 rw [slicePick_cut,← hlen]
 refine ⟨.ref s.heap.objs.size,_,I.laid (t':=s.toks) (o:=.lst (cutV xs lo hi)) (fun b ob q=>Heap.get?_push_of_some _ q) (Nat.le_refl _) ?_,rfl,q _ (I.hok.fresh (Nat.le_refl _))⟩
 exact ⟨Nat.le_trans (cutV_length xs lo hi) hz,_,0,(r.drop (HT.sIx xs.length 0 lo)).take (HT.sIx xs.length xs.length hi-HT.sIx xs.length 0 lo),Heap.get?_push_size _ rfl⟩
def flatV:V->Bool
 |.non=>true
 |.bl _=>true
 |.int _=>true
 |.str _=>true
 |_=>false
def eqV:V->V->Bool
 |.non,.non=>true
 |.bl a,.bl b=>a == b
 |.bl a,.int b=>(if a then 1 else 0) == b
 |.int a,.bl b=>a == (if b then 1 else 0)
 |.int a,.int b=>a == b
 |.str a,.str b=>a == b
 |_,_=>false
theorem eqAt_V {A:Around} {s:Shared} {y x:V} {u v:Value} (ry:RelV y u) (rx:RelV x v) (fy:flatV y=true) (fx:flatV x=true):SeqAt.EqAt A s u v (eqV y x):=by
 cases y with
 | non=>
   cases ry
   cases x with
   |non=>cases rx;exact SeqAt.EqAt.same _
   |bl b=>cases rx;exact SeqAt.EqAt.none_bool b
   |int b=>obtain ⟨t,rfl⟩:=rx;exact SeqAt.EqAt.none_int b t
   |str b=>obtain ⟨t,rfl⟩:=rx;exact SeqAt.EqAt.none_str b t
   |_=>exact absurd (show false=true from fx) Bool.false_ne_true
 | bl a=>
   cases ry
   cases x with
   |non=>cases rx;exact SeqAt.EqAt.bool_none a
   |bl b=>cases rx;exact SeqAt.EqAt.bool_bool a b
   |int b=>obtain ⟨t,rfl⟩:=rx;exact SeqAt.EqAt.bool_int a b t
   |str b=>obtain ⟨t,rfl⟩:=rx;exact SeqAt.EqAt.bool_str a b t
   |_=>exact absurd (show false=true from fx) Bool.false_ne_true
 | int a=>
   obtain ⟨t',rfl⟩:=ry
   cases x with
   |non=>cases rx;exact SeqAt.EqAt.int_none a t'
   |bl b=>cases rx;exact SeqAt.EqAt.int_bool a t' b
   |int b=>obtain ⟨t,rfl⟩:=rx;exact SeqAt.EqAt.int_int a t' b t
   |str b=>obtain ⟨t,rfl⟩:=rx;exact SeqAt.EqAt.int_str a t' b t
   |_=>exact absurd (show false=true from fx) Bool.false_ne_true
 | str a=>
   obtain ⟨t',rfl⟩:=ry
   cases x with
   |non=>cases rx;exact SeqAt.EqAt.str_none a t'
   |bl b=>cases rx;exact SeqAt.EqAt.str_bool a t' b
   |int b=>obtain ⟨t,rfl⟩:=rx;exact SeqAt.EqAt.str_int a t' b t
   |str b=>obtain ⟨t,rfl⟩:=rx;exact SeqAt.EqAt.str_str a t' b t
   |_=>exact absurd (show false=true from fx) Bool.false_ne_true
 |_=>exact absurd (show false=true from fy) Bool.false_ne_true
def eqU (x:V) (u:Value):Bool:=match u with
 |.none=>eqV .non x
 |.bool b=>eqV (.bl b) x
 |.int i _=>eqV (.int i) x
 |.str z _=>eqV (.str z) x
 |_=>false
theorem eqU_of {x y:V} {u:Value} (r:RelV y u) (f:flatV y=true):eqU x u=eqV y x:=by
 cases y with
 |non=>cases r;rfl
 |bl b=>cases r;rfl
 |int i=>obtain ⟨t,rfl⟩:=r;rfl
 |str z=>obtain ⟨t,rfl⟩:=r;rfl
 |_=>exact absurd (show false=true from f) Bool.false_ne_true
theorem any_eqU {x:V}:∀ {xs:List V} {us:List Value},Vals xs us->xs.all flatV=true->us.any (eqU x)=xs.any fun y=>eqV y x
 |_,_,.nil,_=>rfl
 | y::xs,u::us,.cons r t,f=>by
   rw [List.all_cons,Bool.and_eq_true] at f
   rw [List.any_cons,List.any_cons,eqU_of r f.1,any_eqU t f.2]
theorem mem_eqAt {A:Around} {s:Shared} {x:V} {v:Value} (rx:RelV x v) (fx:flatV x=true):∀ {xs:List V} {us:List Value},Vals xs us->xs.all flatV=true->∀ u∈us,SeqAt.EqAt A s u v (eqU x u)
 |_,_,.nil,_=>fun u hu=>by cases hu
 | y::xs,u::us,.cons r t,f=>fun u' hu=>by
   rw [List.all_cons,Bool.and_eq_true] at f
   rcases List.mem_cons.mp hu with rfl|hu
   ·rw [eqU_of r f.1];exact eqAt_V r rx f.1 fx
   ·exact mem_eqAt rx fx t f.2 u' hu
def inV (x:V) (xs:List V):Bool:=xs.any fun y=>eqV y x
def rIn (K:PySem.W.Frag) (neg:Bool):R2:=fun x y H Q=>∃ p xs,y=.ref p/\(SqL K H p xs∨SqT K H p xs)/\flatV x=true/\xs.all flatV=true/\Q (.bl (if neg then !inV x xs else inV x xs)) H
theorem op_in_seq:OpR X (compareOp .In) (rIn X.K false):=by
 intro pins s σ H x y v u Q I rx ry h
 obtain ⟨p,xs,rfl,hq,fx,fs,q⟩:=h
 cases ry
 rcases hq with hq|hq
 ·obtain ⟨its,r,pl,hz⟩:=I.list hq
  refine SeqAt.in_listAt (eqU x) pl.isList (fun w hw=>mem_eqAt rx fx r fs w (by simpa using hw)) ⟨.bl _,H,I,rfl,?_⟩
  rw [show its.toArray.any (eqU x)=its.any (eqU x) by simp,any_eqU r fs]
  exact q
 ·obtain ⟨its,r,pl,hz⟩:=I.tuple hq
  refine SeqAt.in_tupleAt (eqU x) pl (fun w hw=>mem_eqAt rx fx r fs w (by simpa using hw)) ⟨.bl _,H,I,rfl,?_⟩
  rw [show its.toArray.any (eqU x)=its.any (eqU x) by simp,any_eqU r fs]
  exact q
theorem call_len_seq:CallR X (.builtin "len") (fun xs H Q=>∃ p ys,xs=[.ref p]/\(SqL X.K H p ys∨SqT X.K H p ys)/\Q (.int ys.length) H):=by
 intro pins s σ H xs us Q I r h
 obtain ⟨p,ys,rfl,hq,q⟩:=h
 obtain ⟨u,rfl,rx⟩:=vals1 r
 cases rx
 have hn:=line63
 rcases hq with hq|hq
 ·obtain ⟨its,r',pl,hz⟩:=I.list hq
  have hlen:=r'.length
  exact Calls.call_len_list pl.isList (by simp only [List.size_toArray] <;> omega) ⟨.int ys.length,H,I.tok _,⟨s.toks+1,by rw [List.size_toArray,hlen]⟩,q⟩
 ·obtain ⟨its,r',pl,hz⟩:=I.tuple hq
  have hlen:=r'.length
  exact len_tuple pl (by simp only [List.size_toArray] <;> omega) ⟨.int ys.length,H,I.tok _,⟨s.toks+1,by rw [List.size_toArray,hlen]⟩,q⟩
theorem call_list_of:CallR X (.type "list") (fun xs H Q=>∃ p ys,xs=[.ref p]/\(SqL X.K H p ys∨SqT X.K H p ys)/\∀ l,H l=none->Q (.ref l) (upd H l (.lst ys))):=by
 intro pins s σ H xs us Q I r h
 obtain ⟨p,ys,rfl,hq,q⟩:=h
 obtain ⟨u,rfl,rx⟩:=vals1 r
 cases rx
 have fin:∀ (its:List Value),Vals ys its->ys.length≤sizeLine->∀ (h':Heap) (c':Nat),(∀ b o',s.heap.get? b=some o'->h'.get? b=some o')->
  h'.get? s.heap.objs.size=some { cls:=.type "list",dict:=none,data:=.seq its.toArray c',slots:=#[] }->EP X pins σ Q (.ref s.heap.objs.size) { s with heap:=h' }:=fun its r' hz h' c' kp e=>
  ⟨.ref s.heap.objs.size,_,I.laid (t':=s.toks) kp (Nat.le_refl _) (show ObjOk X.prog X.w _ h' _ (.lst ys) from ⟨hz,its,c',r',e⟩),rfl,q _ (I.hok.fresh (Nat.le_refl _))⟩
 rcases hq with hq|hq
 ·obtain ⟨its,r',pl,hz⟩:=I.list hq
  have hlen:=r'.length
  obtain ⟨o,ho,hc,n,hd⟩:=pl.isList
  exact call_list_seq p (.inl rfl) ho hc hd (fun h' c' kp e=>fin its r' hz h' c' kp e) (by simp only [List.size_toArray] <;> omega)
 ·obtain ⟨its,r',pl,hz⟩:=I.tuple hq
  have hlen:=r'.length
  obtain ⟨o,ho,hc,n,hd⟩:=pl
  exact call_list_seq p (.inr rfl) ho hc hd (fun h' c' kp e=>fin its r' hz h' c' kp e) (by simp only [List.size_toArray] <;> omega)
def tyV (K:PySem.W.Frag) (T:String) (x:V) (H:Hp):Prop:=match x with
 |.str _=>T = "str"
 |.int _=>T = "int"
 |.ref p=>(T = "list"/\∃ xs,SqL K H p xs)∨(T = "tuple"/\∃ o,K.lookup p=some o/\o.cls=.type "tuple"/\o.dict=none)∨
  (T = "dict"/\((∃ kvs,H p=some (.dK kvs))∨∃ kvs,H p=some (.dT kvs)))∨(T = "set"/\∃ S n,H p=some (.set S n))
 |_=>False
theorem tyV_is {pins:List (Addr×Obj)} {σ:St} {H:Hp} {s:Shared} {T:String} {x:V} {v:Value} (I:Inv X pins σ H s) (r:RelV x v) (ty:tyV X.K T x H) :
 s.TypeIs v T/\∀ a,v=.ref a->∃ ob,s.heap.get? a=some ob/\ob.dict=none:=by
 cases x with
 | str z=>
   obtain ⟨t,rfl⟩:=r
   cases (show T = "str" from ty)
   exact ⟨typeIs_str s z t,fun _ e=>nomatch e⟩
 | int i=>
   obtain ⟨t,rfl⟩:=r
   cases (show T = "int" from ty)
   exact ⟨typeIs_int s i t,fun _ e=>nomatch e⟩
 | ref p=>
   cases r
   rcases ty with ⟨rfl,xs,hq⟩|⟨rfl,o,hk,hc,hd⟩|⟨rfl,hk⟩|⟨rfl,S,n,hk⟩
   ·obtain ⟨its,_,pl,_⟩:=I.list hq
    refine ⟨pl.isList.typeIs,fun a e=>?_⟩
    cases e
    obtain ⟨o,n,e,c,hd,_⟩:=pl
    exact ⟨o,e,hd⟩
   ·refine ⟨⟨o,I.kIn p o hk,hc⟩,fun a e=>?_⟩
    cases e
    exact ⟨o,I.kIn _ o hk,hd⟩
   ·have z:∃ o,s.heap.get? p=some o/\o.ExactDict:=by
     rcases hk with ⟨kvs,hk⟩|⟨kvs,hk⟩
     ·obtain ⟨_,_,_,_,o,_,_,e,ex,_⟩:=I.hok p _ hk
      exact ⟨o,e,ex⟩
     ·obtain ⟨_,_,_,_,o,_,_,e,ex,_⟩:=I.hok p _ hk
      exact ⟨o,e,ex⟩
    obtain ⟨o,e,ex⟩:=z
    refine ⟨⟨o,e,ex.1⟩,fun a e2=>?_⟩
    cases e2
    exact ⟨o,e,ex.2.1⟩
   ·obtain ⟨o,_,_,_,e,ex,_⟩:=I.hok p _ hk
    refine ⟨⟨o,e,ex.1⟩,fun a e2=>?_⟩
    cases e2
    exact ⟨o,e,ex.2.1⟩
 |_=>exact False.elim ty
def tBM (K:PySem.W.Frag) (T:String) (r:V->List V->Hp->VK->Prop) (to:TE) (t:TA):TE:=fun σ H Q=>to σ H fun x H1=>tyV K T x H1/\t σ H1 fun xs H2=>r x xs H2 Q
variable {o e:Expr} {es:List Expr} {to:TE} {t:TA} {name:Str} {apos cpos:Pos} {T id:String} {r:V->List V->Hp->VK->Prop}
theorem pe_bm (pa:PlainAttrs T) (slot:Slot T name id) (hty:typeOf (.builtin id)=pure (.type "method_descriptor")) (hm:MtR X id r) (ho:PE X o to) (ha:PA X (e::es) t)
 (hbase:attributeBase o name X.env (eval o X.env)=eval o X.env:=by rfl)
 (hfew:((backTo cpos (starEach (e::es) X.env)).all (fun x=>!x.1) && (backToKw cpos (keywordEach [] X.env)).all (fun x=>x.1.isSome)
  && decide ((e::es).length+([]:List Keyword).length+(if ([]:List Keyword).isEmpty then 0 else 1)<30))=true:=by rfl)
 (hline:(apos.endLine == cpos.line)=true:=by rfl) (hs:starEach (e::es) X.env=(false,eval e X.env)::starEach es X.env:=by rfl) (hplain:(backTo cpos (starEach es X.env)).any (·.1)=false:=by rfl) :
 PE X (.Call (.Attribute o name apos) (e::es) [] cpos) (tBM X.K T r to t):=by
 intro pins s σ H Q I h
 refine wpAny_Call_method_late hbase hfew hline rfl (thn (ho pins s σ H _ I h) fun v s1 ⟨x,H1,I1,r1,ty,q1⟩=>?_)
 obtain ⟨h1,h2⟩:=tyV_is I1 r1 ty
 refine ⟨T,id,pa,slot,hty,h1,h2,?_⟩
 have hA:=ha cpos pins s1 σ H1 _ I1 q1
 rw [hs] at hA ⊢
 refine Calls.callWith_builtin (by show (false || (backTo cpos (starEach es X.env)).any (·.1))=false;rw [hplain] <;> rfl) (Calls.evalArgs_plain ?_)
 exact thn hA fun us s2 ⟨vs,H2,I2,r2,q2⟩=>hm pins s2 σ H2 x vs v us Q I2 r1 r2 q2
end
def MtM (X:Cx) (id:String) (r:V->List V->Hp->VK->Prop):Prop:=
 ∀ (pins:List (Addr×Obj)) (s:Shared) (σ:St) (H:Hp) (x:V) (xs:List V) (v:Value) (us:List Value) (Q:VK),Inv X pins σ H s->RelV x v->Vals xs us->r x xs H Q->
   wpAny (model X.prog X.w) X.A (call (.builtin id) (v::us)) (EP X pins σ Q) X.xe s
theorem Vals.one:∀ {x:V} {us:List Value},Vals [x] us->∃ u,us=[u]/\RelV x u
 |_,_,.cons r .nil=>⟨_,rfl,r⟩
section
variable {X:Cx} {pins:List (Addr×Obj)} {σ:St} {H:Hp} {s:Shared} {l b:Addr} {xs ys zs:List V}
theorem Inv.lset {its its':List Value} {n:Nat} {f:Array Value->Array Value} {t':Nat} (I:Inv X pins σ H s) (hH:H l=some (.lst xs))
 (e:s.heap.get? l=some { cls:=.type "list",data:=.seq its.toArray n }) (hf:f its.toArray=its'.toArray) (hv:Vals ys its') (hz:ys.length≤sizeLine) :
 Inv X pins σ (upd H l (.lst ys)) { s with heap:=s.heap.update l (Obj.mapSeq f),toks:=t' }:=by
 have q:=PySem.IsL.update e f
 rw [hf] at q
 refine I.write (x:=l) (e:=l) (by rw [hH];exact trivial) (.inl rfl) (fun b' u hb hu=>(Heap.get?_update_other s.heap (Obj.mapSeq f) (Ne.symm hb)).trans hu) ⟨_,q⟩ ?_
 exact ⟨hz,its',_,hv,q⟩
theorem Inv.lnew {its:List Value} {t':Nat} (I:Inv X pins σ H s) (hv:Vals ys its) (hz:ys.length≤sizeLine) :
 Inv X pins σ (upd H s.heap.objs.size (.lst ys)) { s with heap:=s.heap.push { cls:=.type "list",data:=.seq its.toArray },toks:=t' }:=
 I.laid (fun _ _ q=>Heap.get?_push_of_some _ q) (Nat.le_refl _) ⟨hz,its,0,hv,Heap.get?_push_size _ rfl⟩
theorem Inv.fresh (I:Inv X pins σ H s):H s.heap.objs.size=none:=I.hok.fresh (Nat.le_refl _)
theorem Inv.lstM (I:Inv X pins σ H s) (hH:H l=some (.lst xs)):xs.length≤sizeLine/\∃ (its:List Value) (n:Nat),Vals xs its/\xs.length=its.length/\s.heap.get? l=some { cls:=.type "list",data:=.seq its.toArray n }:=by
 obtain ⟨z,its,n,r,e⟩:=I.hok l _ hH
 exact ⟨z,its,n,r,r.length,e⟩
theorem notLongL {n:Nat} (h:n≤sizeLine):Builtin.List.listTooLong n=false:=by
 unfold Builtin.List.listTooLong
 exact decide_eq_false (by omega)
end
section
variable {X:Cx}
def rAppend:V->List V->Hp->VK->Prop:=fun x vs H Q=>∃ l xs y,x=.ref l/\vs=[y]/\H l=some (.lst xs)/\xs.length<sizeLine/\Q .non (upd H l (.lst (xs++[y])))
theorem mt_append:MtM X "list.append" rAppend:=by
 intro pins s σ H x vs v us Q I rx rv h
 obtain ⟨l,xs,y,rfl,rfl,hH,hz,q⟩:=h
 cases rx
 obtain ⟨u,rfl,ru⟩:=rv.one
 obtain ⟨z,its,n,r,hl,e⟩:=I.lstM hH
 refine call_meets F.slot_list_append ⟨_,e,rfl⟩ F.entry_list_append (F.args_list_append_2 _ _) (PySem.list_append l its.toArray n u (by rw [List.size_toArray];omega)) ⟨e,?_⟩
 refine ⟨.non,_,I.lset (its':=its++[u]) hH e (by simp) (r.append (.cons ru .nil)) ?_,rfl,q⟩
 rw [List.length_append,List.length_singleton]
 omega
def rExtend:V->List V->Hp->VK->Prop:=fun x vs H Q=>∃ l b xs zs,x=.ref l/\vs=[.ref b]/\H l=some (.lst xs)/\H b=some (.lst zs)/\xs.length+zs.length≤sizeLine/\Q .non (upd H l (.lst (xs++zs)))
theorem mt_extend:MtM X "list.extend" rExtend:=by
 intro pins s σ H x vs v us Q I rx rv h
 obtain ⟨l,b,xs,zs,rfl,rfl,hH,hB,hz,q⟩:=h
 cases rx
 obtain ⟨u,rfl,ru⟩:=rv.one
 cases ru
 obtain ⟨z,its,n,r,hl,e⟩:=I.lstM hH
 obtain ⟨z2,its2,n2,r2,hl2,e2⟩:=I.lstM hB
 have hsz:its.toArray.size+its2.toArray.size≤sizeLine:=by rw [List.size_toArray,List.size_toArray];omega
 have hlong:¬ (!its.toArray.isEmpty && Builtin.List.listTooLong (its.toArray.size+its2.toArray.size))=true:=by
  rw [notLongL hsz,Bool.and_false]
  exact Bool.false_ne_true
 refine call_meets F.slot_list_extend ⟨_,e,rfl⟩ F.entry_list_extend (F.args_list_extend_2 _ _)
  (AutoSeq1.list_extend_list_list_0 l its.toArray n b its2.toArray n2 hlong (by rw [List.size_toArray];omega) (by omega)) ⟨e,e2,?_⟩
 refine ⟨.non,_,I.lset (its':=its++its2) hH e (by simp) (r.append r2) ?_,rfl,q⟩
 rw [List.length_append]
 omega
def rCat:R2:=fun x y H Q=>∃ l b xs zs,x=.ref l/\y=.ref b/\H l=some (.lst xs)/\H b=some (.lst zs)/\xs.length+zs.length≤sizeLine/\∀ p,H p=none->Q (.ref p) (upd H p (.lst (xs++zs)))
theorem op_cat:OpR X (binaryOp .Add) rCat:=by
 intro pins s σ H x y v u Q I rx ry h
 obtain ⟨l,b,xs,zs,rfl,rfl,hH,hB,hz,q⟩:=h
 cases rx
 cases ry
 obtain ⟨z,its,n,r,hl,e⟩:=I.lstM hH
 obtain ⟨z2,its2,n2,r2,hl2,e2⟩:=I.lstM hB
 refine PySem.P.add_list e e2 ?_ (by rw [List.size_toArray,List.size_toArray];omega)
 have ea:its.toArray++its2.toArray=(its++its2).toArray:=by simp
 rw [ea]
 exact ⟨.ref _,_,I.lnew (t':=s.toks) (r.append r2) (by rw [List.length_append];omega),rfl,q _ I.fresh⟩
end
section
variable {prog:Program} {w:World} {A:Around} {E:Value->Shared->Prop} {s:Shared}
end
section
variable {X:Cx}
end
section
variable {κ:Type} [DecidableEq κ]
def valV (kvs:List (κ×V)) (k:κ):Option V:=(kvs.find? fun kv=>decide (kv.1=k)).map (·.2)
def putK (kvs:List (κ×V)) (k:κ) (v:V):List (κ×V):=
 if (kvs.any fun kv=>decide (kv.1=k))=true then kvs.map (fun kv=>if kv.1=k then (kv.1,v) else kv) else kvs++[(k,v)]
theorem valV_pos {p:κ×V} {r:List (κ×V)} {k:κ} (e:p.1=k):valV (p::r) k=some p.2:=by simp [valV,List.find?_cons,e]
theorem valV_neg {p:κ×V} {r:List (κ×V)} {k:κ} (e:¬ p.1=k):valV (p::r) k=valV r k:=by simp [valV,List.find?_cons,e]
theorem valV_any (k:κ):∀ kvs:List (κ×V),(kvs.any fun kv=>decide (kv.1=k))=(valV kvs k).isSome
 |[]=>rfl
 | p::r=>by
   rw [List.any_cons]
   by_cases e:p.1=k
   ·simp only [valV_pos e,decide_eq_true e,Bool.true_or,Option.isSome_some]
   ·rw [valV_neg e,decide_eq_false e,Bool.false_or];exact valV_any k r
theorem valV_map (k j:κ) (y:V):∀ kvs:List (κ×V),valV (kvs.map fun kv=>if kv.1=k then (kv.1,y) else kv) j=(valV kvs j).map fun x=>if j=k then y else x
 |[]=>rfl
 | p::r=>by
   have ih:=valV_map k j y r
   rw [List.map_cons]
   by_cases h:p.1=k
   ·rw [if_pos h]
    by_cases e:p.1=j
    ·rw [valV_pos (p:=(p.1,y)) e,valV_pos e,Option.map_some,if_pos (e.symm.trans h)]
    ·rw [valV_neg (p:=(p.1,y)) e,valV_neg e,ih]
   ·rw [if_neg h]
    by_cases e:p.1=j
    ·rw [valV_pos (p:=p) e,valV_pos e,Option.map_some,if_neg (fun z=>h (e.trans z))]
    ·rw [valV_neg (p:=p) e,valV_neg e,ih]
theorem valV_snoc (k j:κ) (y:V):∀ kvs:List (κ×V),valV kvs k=none->valV (kvs++[(k,y)]) j=if j=k then some y else valV kvs j
 | [],_=>by
   by_cases e:k=j
   ·rw [if_pos e.symm];exact valV_pos (p:=(k,y)) e
   ·rw [if_neg (fun z=>e z.symm)];exact valV_neg (p:=(k,y)) e
 | p::r,hn=>by
   rw [List.cons_append]
   have hk:¬ p.1=k:=fun z=>by rw [valV_pos z] at hn;cases hn
   rw [valV_neg hk] at hn
   have ih:=valV_snoc k j y r hn
   by_cases e:p.1=j
   ·rw [valV_pos e,valV_pos e,if_neg (fun z=>hk (e.trans z))]
   ·rw [valV_neg e,valV_neg e,ih]
theorem valV_put (kvs:List (κ×V)) (k j:κ) (y:V):valV (putK kvs k y) j=if j=k then some y else valV kvs j:=by
 unfold putK
 by_cases a:(kvs.any fun kv=>decide (kv.1=k))=true
 ·rw [if_pos a,valV_map]
  rw [valV_any] at a
  by_cases e:j=k
  ·obtain ⟨x,hx⟩:=Option.isSome_iff_exists.mp a
   rw [if_pos e,e,hx,Option.map_some,if_pos rfl]
  ·rw [if_neg e]
   cases valV kvs j with
   |none=>rfl
   |some x=>rw [Option.map_some,if_neg e]
 ·rw [if_neg a]
  refine valV_snoc k j y kvs ?_
  rw [valV_any] at a
  cases q:valV kvs k with
  |none=>rfl
  |some x=>rw [q] at a;exact (a rfl).elim
theorem length_putK (kvs:List (κ×V)) (k:κ) (v:V):(putK kvs k v).length≤kvs.length+1:=by
 unfold putK
 split
 ·rw [List.length_map];omega
 ·rw [List.length_append,List.length_cons,List.length_nil];omega
theorem putK_new {kvs:List (κ×V)} {k:κ} (v:V) (h:valV kvs k=none):putK kvs k v=kvs++[(k,v)]:=by
 unfold putK
 rw [valV_any,h]
 exact if_neg (by decide)
theorem RelO.isSome_eq {o:Option V} {u:Option Value} (r:RelO o u):o.isSome=u.isSome:=by
 cases o with
 | none=>cases u with
   |none=>rfl
   |some _=>exact (show False from r).elim
 | some _=>cases u with
   |none=>exact (show False from r).elim
   |some _=>rfl
theorem KV.val {kvs:List (κ×V)} {vs:List (κ×Value)} (r:KV kvs vs) (k:κ):RelO (valV kvs k) (valueAt vs k):=by
 unfold KV at r
 induction r with
 |nil=>exact True.intro
 | @cons p q ps qs h t ih=>
   obtain ⟨h1,h2⟩:=h
   by_cases e:p.1=k
   ·have e':q.1=k:=h1.symm.trans e
    have b:valueAt (q::qs) k=some q.2:=by simp [valueAt,List.find?_cons,e']
    rw [valV_pos e,b];exact h2
   ·have e':¬ q.1=k:=fun z=>e (h1.trans z)
    have b:valueAt (q::qs) k=valueAt qs k:=by simp [valueAt,List.find?_cons,e']
    rw [valV_neg e,b];exact ih
theorem KV.any {kvs:List (κ×V)} {vs:List (κ×Value)} (r:KV kvs vs) (k:κ):(kvs.any fun kv=>decide (kv.1=k))=vs.any fun kv=>decide (kv.1=k):=by
 unfold KV at r
 induction r with
 |nil=>rfl
 |cons h t ih=>rw [List.any_cons,List.any_cons,ih,h.1]
theorem KV.repl {kvs:List (κ×V)} {vs:List (κ×Value)} (r:KV kvs vs) (k:κ) {y:V} {u:Value} (ry:RelV y u) :
 KV (kvs.map fun kv=>if kv.1=k then (kv.1,y) else kv) (vs.map fun kv=>if kv.1=k then (kv.1,u) else kv):=by
 unfold KV at r ⊢
 induction r with
 |nil=>exact .nil
 | @cons p q ps qs h t ih=>
   rw [List.map_cons,List.map_cons]
   refine .cons ?_ ih
   obtain ⟨h1,h2⟩:=h
   by_cases e:p.1=k
   ·rw [if_pos e,if_pos (h1.symm.trans e)];exact ⟨h1,ry⟩
   ·rw [if_neg e,if_neg (fun z=>e (h1.trans z))];exact ⟨h1,h2⟩
theorem KV.put {kvs:List (κ×V)} {vs:List (κ×Value)} (r:KV kvs vs) (k:κ) {y:V} {u:Value} (ry:RelV y u):KV (putK kvs k y) (stored vs k u):=by
 unfold putK stored
 rw [r.any k]
 by_cases e:(vs.any fun kv=>decide (kv.1=k))=true
 ·rw [if_pos e,if_pos e];exact r.repl k ry
 ·rw [if_neg e,if_neg e];exact Paired.snoc r ⟨rfl,ry⟩
theorem KV.length {kvs:List (κ×V)} {vs:List (κ×Value)} (r:KV kvs vs):kvs.length=vs.length:=Paired.length r
end
theorem kV_is {P:Program} {w:World} {k:Key} {u:Value} (r:RelV (kV k) u):(mixKind P w).is k u=true:=by
 cases k with
 |inl i=>obtain ⟨t,e⟩:=(show ∃ t,u=Value.int i t from r);subst e;exact mixKind_int P w i t
 |inr x=>obtain ⟨t,e⟩:=(show ∃ t,u=Value.str x t from r);subst e;exact mixKind_str P w x t
theorem items_are {P:Program} {w:World}:∀ {ks:List Key} {us:List Value},Vals (ks.map kV) us->ItemsAre (mixKind P w) ks us
 |[],_,r=>by rw [List.map_nil] at r;cases r;exact .nil
 | k::ks,_,r=>by
   rw [List.map_cons] at r
   cases r with
   |cons h t=>exact .cons (kV_is h) (items_are t)
abbrev KT (H:Hp):List (List Key×V)->List (List Key×Addr×Value)->Prop:=Paired fun p q=>p.1=q.1/\H q.2.1=some (.tup (p.1.map kV))/\RelV p.2 q.2.2
theorem KT.val {H:Hp} {kvs:List (List Key×V)} {xs:List (List Key×Addr×Value)} (r:KT H kvs xs) (k:List Key):RelO (valV kvs k) ((atKey xs k).map (·.2)):=by
 induction r with
 |nil=>exact True.intro
 | @cons p q ps qs h t ih=>
   obtain ⟨h1,_,h2⟩:=h
   by_cases e:p.1=k
   ·have e':q.1=k:=h1.symm.trans e
    have b:atKey (q::qs) k=some q.2:=by simp [atKey,List.find?_cons,e']
    rw [valV_pos e,b];exact h2
   ·have e':¬ q.1=k:=fun z=>e (h1.trans z)
    have b:atKey (q::qs) k=atKey qs k:=by simp [atKey,List.find?_cons,e']
    rw [valV_neg e,b];exact ih
theorem KT.repl {H:Hp} {kvs:List (List Key×V)} {xs:List (List Key×Addr×Value)} (r:KT H kvs xs) (k:List Key) {y:V} {u:Value} (ry:RelV y u) :
 KT H (kvs.map fun kv=>if kv.1=k then (kv.1,y) else kv) (xs.map (putAt k u)):=by
 induction r with
 |nil=>exact .nil
 | @cons p q ps qs h t ih=>
   rw [List.map_cons,List.map_cons]
   refine .cons ?_ ih
   obtain ⟨h1,h2,h3⟩:=h
   unfold putAt
   by_cases e:p.1=k
   ·rw [if_pos e,if_pos (h1.symm.trans e)];exact ⟨h1,h2,ry⟩
   ·rw [if_neg e,if_neg (fun z=>e (h1.trans z))];exact ⟨h1,h2,h3⟩
theorem KT.put {H:Hp} {kvs:List (List Key×V)} {xs:List (List Key×Addr×Value)} (r:KT H kvs xs) (k:List Key) {b:Addr} {y:V} {u:Value} (hb:H b=some (.tup (k.map kV))) (ry:RelV y u) :
 KT H (putK kvs k y) (storedH xs k b u):=by
 have e:(kvs.any fun kv=>decide (kv.1=k))=(atKey xs k).isSome:=by
  rw [valV_any,(r.val k).isSome_eq,Option.isSome_map]
 unfold putK storedH
 rw [e]
 by_cases q:(atKey xs k).isSome=true
 ·rw [if_pos q,if_pos q];exact r.repl k ry
 ·rw [if_neg q,if_neg q];exact Paired.snoc r ⟨rfl,hb,ry⟩
theorem KT.keeps {H H':Hp} {kvs:List (List Key×V)} {xs:List (List Key×Addr×Value)} (r:KT H kvs xs) (ht:∀ b ys,H b=some (.tup ys)->H' b=some (.tup ys)):KT H' kvs xs:=
 Paired.mapP r fun _ _ z=>⟨z.1,ht _ _ z.2.1,z.2.2⟩
section
variable {P:Program} {w:World} {H:Hp} {h:Heap} {a:Addr}
theorem rd_of {u:HO} (ok:HOk P w H h) (e:Rd H a u):ObjOk P w H h a u:=e.ok ok
theorem dk_rd {kvs:List (Key×V)} (ok:HOk P w H h) (e:Rd H a (.dK kvs)):kvs.length≤sizeLine/\(a == sysModules)=false/\∃ vs,KV kvs vs/\h.DictOf (mixKind P w) a vs:=
 show ObjOk P w H h a (.dK kvs) from rd_of ok e
theorem dk_of {kvs:List (Key×V)} (ok:HOk P w H h) (e:H a=some (.dK kvs)):kvs.length≤sizeLine/\(a == sysModules)=false/\∃ vs,KV kvs vs/\h.DictOf (mixKind P w) a vs:=dk_rd ok (.inl e)
theorem key_of {ks:List Key} (ok:HOk P w H h) (e:H a=some (.tup (ks.map kV))):(tupleKind (mixKind P w)).is h ks a:=by
 obtain ⟨_,its,r,o,h1,h2,n,h3⟩:=(show ObjOk P w H h a (.tup (ks.map kV)) from ok a _ e)
 exact ⟨o,its.toArray,n,h1,h2,h3,by simpa using items_are r⟩
theorem dt_rd {kvs:List (List Key×V)} (ok:HOk P w H h) (e:Rd H a (.dT kvs)):kvs.length≤sizeLine/\(a == sysModules)=false/\
 ∃ xs,KT H kvs xs/\h.DictOfH (tupleKind (mixKind P w)) a xs:=by
 obtain ⟨z,y,xs,r,o,es,ep,h1,h2,h3,h4,h5⟩:=(show ObjOk P w H h a (.dT kvs) from rd_of ok e)
 refine ⟨z,y,xs,r,o,es,ep,h1,h2,h3,h4,fun x hx=>?_,h5⟩
 have all:∀ {l:List (List Key×V)} {m:List (List Key×Addr×Value)},KT H l m->∀ x∈m,(tupleKind (mixKind P w)).is h x.1 x.2.1:=by
  intro l m q
  induction q with
  |nil=>intro x hx;exact nomatch hx
  | @cons p q ps qs hq t ih=>
    intro x hx
    rcases List.mem_cons.mp hx with e|hx
    ·subst e
     exact key_of ok (by rw [← hq.1];exact hq.2.1)
    ·exact ih x hx
 exact all r x hx
theorem dt_of {kvs:List (List Key×V)} (ok:HOk P w H h) (e:H a=some (.dT kvs)):kvs.length≤sizeLine/\(a == sysModules)=false/\
 ∃ xs,KT H kvs xs/\h.DictOfH (tupleKind (mixKind P w)) a xs:=dt_rd ok (.inl e)
end
def DGet (H:Hp) (a:Addr) (y:V) (r:Option V):Prop:=
 (∃ kvs k,Rd H a (.dK kvs)/\y=kV k/\r=valV kvs k)∨∃ kvs k b,Rd H a (.dT kvs)/\y=.ref b/\H b=some (.tup (k.map kV))/\r=valV kvs k
def DPut (H:Hp) (a:Addr) (y v:V) (H':Hp):Prop:=
 (∃ kvs k,H a=some (.dK kvs)/\y=kV k/\kvs.length<sizeLine/\H'=upd H a (.dK (putK kvs k v)))∨
 ∃ kvs k b,H a=some (.dT kvs)/\y=.ref b/\H b=some (.tup (k.map kV))/\kvs.length<sizeLine/\H'=upd H a (.dT (putK kvs k v))
theorem DGet.k {H:Hp} {a:Addr} {kvs:List (Key×V)} {k:Key} (e:H a=some (.dK kvs)):DGet H a (kV k) (valV kvs k):=.inl ⟨kvs,k,.inl e,rfl,rfl⟩
theorem DPut.k {H:Hp} {a:Addr} {kvs:List (Key×V)} {k:Key} {v:V} (e:H a=some (.dK kvs)) (hl:kvs.length<sizeLine):DPut H a (kV k) v (upd H a (.dK (putK kvs k v))):=.inl ⟨kvs,k,e,rfl,hl,rfl⟩
section
variable {X:Cx} {pins:List (Addr×Obj)} {σ:St} {H:Hp} {s:Shared} {a:Addr} {y v:V} {u r:Value} {o:Option V} {A:Around} {E:Value->Shared->Prop}
theorem Inv.big (I:Inv X pins σ H s):sysModules<s.heap.objs.size:=by
 have h:mainGlobals<s.heap.objs.size:=(I.mod.glob.keeps I.bk).lt
 exact Nat.lt_trans (by decide) h
theorem d_getItem {Q:Value->Shared->Prop} (hu:A.units+1<cLine) (I:Inv X pins σ H s) (g:DGet H a y (some v)) (ry:RelV y u) (h:∀ w' s',Inv X pins σ H s'->RelV v w'->Q w' s') :
 wpAny (model X.prog X.w) A (getItem (.ref a) u) Q E s:=by
 rcases g with ⟨kvs,k,e,ey,l⟩|⟨kvs,k,b,e,ey,eb,l⟩
 ·subst ey
  obtain ⟨z,hd,vs,rel,dd⟩:=dk_rd I.hok e
  obtain ⟨w',hw,rw'⟩:=RelO.some_of (v:=v) (o:=valueAt vs k) (by rw [l];exact rel.val k)
  exact wpAny_getItem_of (kV_is ry) dd.mapOf hw (h w' _ (I.tok _) rw')
 ·subst ey
  cases (show u=Value.ref b from ry)
  obtain ⟨z,hd,xs,rel,dd⟩:=dt_rd I.hok e
  obtain ⟨w',hw,rw'⟩:=RelO.some_of (v:=v) (o:=(atKey xs k).map (·.2)) (by rw [l];exact rel.val k)
  obtain ⟨p,hp,hp2⟩:=Option.map_eq_some_iff.mp hw
  refine wpAny_getItem_heap (tupleKind_room_in1 hu) (key_of I.hok eb) dd hp ?_
  rw [hp2]
  exact h w' _ (I.tok _) rw'
theorem d_write {h':Heap} {t':Nat} {ob:HO} (I:Inv X pins σ H s) (mu:Mut (H a)) (hs:Heap.SameBut a s.heap h') (he:∃ q,h'.get? a=some q) (new:ObjOk X.prog X.w (upd H a ob) h' a ob) :
 Inv X pins σ (upd H a ob) { s with heap:=h',toks:=t' }:=
 I.write (x:=a) (e:=a) mu (.inl rfl) (fun b q hb z=>(hs.2 b hb).trans z) he new
theorem dk_new {P:Program} {w:World} {H':Hp} {h':Heap} {kvs:List (Key×V)} {vs:List (Key×Value)} (z:kvs.length≤sizeLine) (hd:(a == sysModules)=false) (rel:KV kvs vs) (dd:h'.DictOf (mixKind P w) a vs) :
 ObjOk P w H' h' a (.dK kvs):=⟨z,hd,vs,rel,dd⟩
theorem d_setItem {H':Hp} {Q:Unit->Shared->Prop} (hu:A.units+1<cLine) (I:Inv X pins σ H s) (g:DPut H a y v H') (ry:RelV y u) (rv:RelV v r) (h:∀ s',Inv X pins σ H' s'->Q () s') :
 wpAny (model X.prog X.w) A (setItem (.ref a) u r) Q E s:=by
 rcases g with ⟨kvs,k,e,ey,l,eH⟩|⟨kvs,k,b,e,ey,eb,l,eH⟩
 ·subst ey eH
  obtain ⟨z,hd,vs,rel,dd⟩:=dk_of I.hok e
  have hz:vs.length≤sizeLine:=by rw [← rel.length];exact z
  have hl:(putK kvs k v).length≤sizeLine:=by have:=length_putK kvs k v;omega
  refine wpAny_setItem_pairs (hsz:=hz) (kV_is ry) dd fun h' dd' hs=>h _ ?_
  have he:∃ q,h'.get? a=some q:=let ⟨q,_,_,hq,_⟩:=dd';⟨q,hq⟩
  exact d_write I (by rw [e];exact True.intro) hs he (dk_new hl hd (rel.put k rv) dd')
 ·subst ey eH
  cases (show u=Value.ref b from ry)
  obtain ⟨z,hd,xs,rel,dd⟩:=dt_of I.hok e
  have hz:xs.length≤sizeLine:=by rw [← Paired.length rel];exact z
  have hl:(putK kvs k v).length≤sizeLine:=by have:=length_putK kvs k v;omega
  refine wpAny_setItem_heap (hsz:=hz) (tupleKind_room_in1 hu) (key_of I.hok eb) dd fun h' dd' hs=>h _ ?_
  obtain ⟨q,es,ep,hq,h2,h3,h4,_,h5⟩:=dd'
  refine d_write I (by rw [e];exact True.intro) hs ⟨q,hq⟩ ⟨hl,hd,_,(rel.put k eb rv).keeps fun c ys ec=>?_,q,es,ep,hq,h2,h3,h4,h5⟩
  rw [upd_ne (ne_of ec e (fun z=>nomatch z))]
  exact ec
end
section
variable {X:Cx} {pins:List (Addr×Obj)} {σ:St} {H:Hp} {s:Shared} {a:Addr} {kvs:List (Key×V)} {k:Key} {u:Value} {A:Around} {E:Value->Shared->Prop}
theorem d_len {Q:Value->Shared->Prop} (I:Inv X pins σ H s) (e:Rd H a (.dK kvs)) (h:∀ t s',Inv X pins σ H s'->Q (.int kvs.length t) s'):wpAny (model X.prog X.w) A (call (.builtin "len") [.ref a]) Q E s:=by
 obtain ⟨z,hd,vs,rel,dd⟩:=dk_rd I.hok e
 refine call_len_dict hd dd (by rw [← rel.length];rw [sizeLine_eq] at z;omega) ?_
 rw [← rel.length]
 exact h _ _ (I.tok _)
end
def NoSl (i:Expr):Prop:=∀ ov iv,subscripted i false ov iv=operate [ov,iv] (getItem ov iv)
theorem subD_of {prog:Program} {w:World} {A:Around} {E:Value->Shared->Prop} {s:Shared} {env:Env} {value slice:Expr} {pos:Pos} {T id:String} {Q:Value->Shared->Prop}
 (hl:typeLookup (.type T) "__getitem__" = pure (some (.builtin id))) (hs:NoSl slice)
 (h:wpAny (model prog w) A (eval value env) (fun o s₁=>wpAny (model prog w) A (eval slice env) (fun i s₂=>s₂.TypeIs o T/\wpAny (model prog w) A (getItem o i) Q E s₂) E s₁) E s) :
 wpAny (model prog w) A (eval (.Subscript value slice pos) env) Q E s:=by
 refine Subscript_ (wpAny_mono h (fun o s₁ h₁=>wpAny_mono h₁ (fun i s₂ h₂=>?_) fun _ _ x=>x) fun _ _ x=>x)
 obtain ⟨hT,h₂⟩:=h₂
 unfold subscriptTail
 refine wpAny_bind ?_
 rw [getitemInPython_of_ne hT.not_modules]
 refine wpAny_bind (wpAny_specialOf hT hl ?_)
 have fin:wpAny (model prog w) A (subscripted slice false o i) (fun r s₃=>wpAny (model prog w) A (letTemporaryGo value o r >>= fun _=>pure r) Q E s₃) E s₂:=by
  rw [hs o i]
  exact wpAny_operating (wpAny_mono h₂ (fun r s₃ h₃=>wpAny_bind (wpAny_letTemporaryGo (wpAny_pure h₃))) fun _ _ x=>x)
 first
  |exact wpAny_pure (wpAny_bind fin)
  |exact wpAny_bind (wpAny_pure (wpAny_bind fin))
  |exact wpAny_bind fin
theorem dict_typeIs {X:Cx} {pins:List (Addr×Obj)} {σ:St} {H:Hp} {s:Shared} {a:Addr} {y:V} {o:Option V} (I:Inv X pins σ H s) (g:DGet H a y o):s.TypeIs (.ref a) "dict":=by
 rcases g with ⟨kvs,k,e,_,_⟩|⟨kvs,k,b,e,_,_,_⟩
 ·obtain ⟨_,_,vs,_,dd⟩:=dk_rd I.hok e
  exact dd.typeIs
 ·obtain ⟨_,_,xs,_,dd⟩:=dt_rd I.hok e
  exact dd.typeIs
def tDGet (td ty:TE):TE:=fun σ H Q=>td σ H fun x H1=>ty σ H1 fun y H2=>∃ a v,x=.ref a/\DGet H2 a y (some v)/\Q v H2
def sDPut (td ty tv:TE):TS:=fun D σ H=>tv σ H fun v H1=>td σ H1 fun x H2=>ty σ H2 fun y H3=>∃ a H4,x=.ref a/\DPut H3 a y v H4/\D.nx σ H4
section
variable {X:Cx} {o i e value:Expr} {pos pos' tpos:Pos} {td ty tv:TE}
theorem pe_dget (hu:X.A.units+1<cLine) (ho:PE X o td) (hi:PE X i ty) (hs:NoSl i):PE X (.Subscript o i pos) (tDGet td ty):=by
 intro pins s σ H Q I h
 refine subD_of PySem.F.slot_dict_getitem.lookup hs (thn (ho pins s σ H _ I h) fun u s1 ⟨x,H1,I1,rx,q1⟩=>thn (hi pins s1 σ H1 _ I1 q1) fun iv s2 ⟨y,H2,I2,ry,a,v,ex,g,q2⟩=>?_)
 subst ex
 obtain rfl:u=Value.ref a:=rx
 exact ⟨dict_typeIs I2 g,d_getItem hu I2 g ry fun w' s3 I3 rw'=>⟨v,H2,I3,rw',q2⟩⟩
theorem ps_dput (hu:X.A.units+1<cLine) (ho:PE X o td) (hi:PE X i ty) (hv:PE X value tv) (hs:swapsWith value (some (.Subscript o i pos')) pos.line X.env=pure false) :
 PS X (.Assign [.Subscript o i pos'] value pos) (sDPut td ty tv):=by
 intro pins s σ H D I h
 refine wpAny_Assign_Subscript (thn (hv pins s σ H _ I h) fun r s1 ⟨v,H1,I1,rv,q1⟩=>thn (ho pins s1 σ H1 _ I1 q1) fun u s2 ⟨x,H2,I2,rx,q2⟩=>thn (hi pins s2 σ H2 _ I2 q2) fun iv s3 ⟨y,H3,I3,ry,a,H4,ex,g,q3⟩=>?_) hs
 subst ex
 obtain rfl:u=Value.ref a:=rx
 exact d_setItem hu I3 g ry rv fun s4 I4=>⟨σ,H4,I4,q3⟩
end
theorem dk_empty {P:Program} {w:World} {H:Hp} (h:Heap) (hb:sysModules<h.objs.size):ObjOk P w H (h.push { cls:=.type "dict",data:=.dict #[] }) h.objs.size (.dK []):=
 ⟨Nat.zero_le _,beq_eq_false_iff_ne.mpr (Ne.symm (Nat.ne_of_lt hb)),[],.nil,Heap.DictOf.new h⟩
def tDNewK:TE:=fun _ H Q=>∀ p,H p=none->Q (.ref p) (upd H p (.dK []))
section
variable {X:Cx} {pos:Pos}
theorem pe_dnewK:PE X (.Dict [] [] pos) tDNewK:=fun pins s σ H Q I h=>
 wpAny_Dict_empty ⟨.ref s.heap.objs.size,_,I.laid (a:=s.heap.objs.size) (o:=.dK []) (t':=s.toks) (fun _ _ q=>Heap.get?_push_of_some _ q) (Nat.le_refl _) (dk_empty s.heap I.big),rfl,h _ (I.hok.fresh (Nat.le_refl _))⟩
end
def tPairs:List (TE×TE)->St->Hp->(List (V×V)->Hp->Prop)->Prop
 |[],_,H,Q=>Q [] H
 |(tk,tv)::r,σ,H,Q=>tk σ H fun x H1=>tv σ H1 fun y H2=>tPairs r σ H2 fun ps H3=>Q ((x,y)::ps) H3
abbrev VV:List (V×V)->List (Value×Value)->Prop:=Paired fun p q=>RelV p.1 q.1/\RelV p.2 q.2
def PPs (X:Cx) (pos:Pos) (keys:List (Option Expr)) (values:List Expr) (trs:List (TE×TE)):Prop:=
 ∀ (pins:List (Addr×Obj)) (s:Shared) (σ:St) (H:Hp) (Q:List (V×V)->Hp->Prop),Inv X pins σ H s->tPairs trs σ H Q->
   wpAny (model X.prog X.w) X.A (evalPairs (pairTrees keys values X.env pos)) (fun vs s'=>∃ ps H',Inv X pins σ H' s'/\VV ps vs/\Q ps H') X.xe s
theorem pps_nil {X:Cx} {pos:Pos}:PPs X pos [] [] []:=fun pins s σ H Q I h=>pairTrees_nil_walk ⟨[],H,I,.nil,h⟩
theorem pps_cons {X:Cx} {pos:Pos} {k v:Expr} {ks:List (Option Expr)} {vs:List Expr} {tk tv:TE} {trs:List (TE×TE)} (hk:PE X k tk) (hv:PE X v tv) (hr:PPs X pos ks vs trs) :
 PPs X pos (some k::ks) (v::vs) ((tk,tv)::trs):=fun pins s σ H Q I h=>
 pairTrees_cons_walk (thn (hk pins s σ H _ I h) fun u s1 ⟨x,H1,I1,rx,q1⟩=>thn (hv pins s1 σ H1 _ I1 q1) fun w2 s2 ⟨y,H2,I2,ry,q2⟩=>
  thn (hr pins s2 σ H2 _ I2 q2) fun ws s3 ⟨ps,H3,I3,rel,q3⟩=>⟨(x,y)::ps,H3,I3,.cons ⟨rx,ry⟩ rel,q3⟩)
def mergeK (kvs more:List (Key×V)):List (Key×V):=more.foldl (fun acc kv=>putK acc kv.1 kv.2) kvs
theorem KV.merge:∀ {more:List (Key×V)} {rs:List (Key×Value)} {kvs:List (Key×V)} {vs:List (Key×Value)},KV more rs->KV kvs vs->KV (mergeK kvs more) (merged vs rs):=by
 intro more rs kvs vs r
 unfold KV at r
 induction r generalizing kvs vs with
 |nil=>intro q;exact q
 | @cons p q ps qs h t ih=>
   intro r0
   have e:KV (putK kvs p.1 p.2) (stored vs q.1 q.2):=by
    have:=r0.put p.1 h.2
    rw [← h.1];exact this
   exact ih e
theorem length_mergeK:∀ (more kvs:List (Key×V)),(mergeK kvs more).length≤kvs.length+more.length
 |[],kvs=>by show kvs.length≤kvs.length+0;omega
 | p::r,kvs=>by
   have h1:=length_mergeK r (putK kvs p.1 p.2)
   have h2:=length_putK kvs p.1 p.2
   show (mergeK (putK kvs p.1 p.2) r).length≤_
   rw [List.length_cons];omega
theorem carries_of {P:Program} {w:World}:∀ {kvs:List (Key×V)} {ws:List (Value×Value)},VV (kvs.map fun kv=>(kV kv.1,kv.2)) ws->∃ rs,Carries (mixKind P w) ws rs/\KV kvs rs
 |[],_,r=>by rw [List.map_nil] at r;cases r;exact ⟨[],True.intro,.nil⟩
 | p::kvs,_,r=>by
   rw [List.map_cons] at r
   cases r with
   | @cons a b as bs h t=>
     obtain ⟨rs,c,q⟩:=carries_of (P:=P) (w:=w) t
     obtain ⟨b1,b2⟩:=b
     exact ⟨(p.1,b2)::rs,⟨kV_is h.1,rfl,c⟩,.cons ⟨rfl,h.2⟩ q⟩
def tDisp (trs:List (TE×TE)):TE:=fun σ H Q=>∀ p,H p=none->tPairs trs σ (upd H p (.dK [])) fun ps H2=>H2 p=some (.dK [])/\∃ kvs:List (Key×V),ps=kvs.map (fun kv=>(kV kv.1,kv.2))/\kvs.length≤15/\Q (.ref p) (upd H2 p (.dK (mergeK [] kvs)))
theorem pe_disp {X:Cx} {pos:Pos} {keys:List (Option Expr)} {values:List Expr} {trs:List (TE×TE)} (h:PPs X pos keys values trs) (hall:keys.all (·.isSome)=true) (hl:keys.length=values.length) (h0:keys≠[])
 (h15:keys.length≤15):PE X (.Dict keys values pos) (tDisp trs):=by
 intro pins s σ H Q I q
 have hn:=I.hok.fresh (Nat.le_refl s.heap.objs.size)
 have I1:=I.laid (a:=s.heap.objs.size) (o:=.dK []) (h':=s.heap.push { cls:=.type "dict",data:=.dict #[] }) (t':=s.toks) (fun _ _ q=>Heap.get?_push_of_some _ q) (Nat.le_refl _) (dk_empty s.heap I.big)
 refine wpAny_Dict_walk (knd:=mixKind X.prog X.w) hall hl h0 h15 (thn (h pins _ σ _ _ I1 (q _ hn)) fun ws s2 ⟨ps,H2,I2,rel,e,kvs,ep,lk,q2⟩=>?_)
 subst ep
 obtain ⟨rs,c,rk⟩:=carries_of (P:=X.prog) (w:=X.w) rel
 obtain ⟨z,hd,vs0,r0,dd⟩:=dk_of I2.hok e
 cases r0
 refine ⟨rs,c,dd,fun h' dd' hs=>⟨.ref s.heap.objs.size,_,?_,rfl,q2⟩⟩
 have hz:(mergeK [] kvs).length≤sizeLine:=by
  have h1:=length_mergeK kvs []
  rw [List.length_nil] at h1
  rw [sizeLine_eq];omega
 have he:∃ q,h'.get? s.heap.objs.size=some q:=let ⟨q,_,_,hq,_⟩:=dd';⟨q,hq⟩
 exact d_write I2 (by rw [e];exact True.intro) hs he (dk_new hz hd (rk.merge .nil) dd')
section
variable {X:Cx} {pins:List (Addr×Obj)} {σ:St} {H:Hp} {s:Shared} {a:Addr} {y d:V} {u r:Value} {o:Option V} {A:Around} {E:Value->Shared->Prop}
end
section
variable {X:Cx} {o e f:Expr} {apos cpos:Pos} {td ty tx:TE}
end
section
variable {X:Cx} {pins:List (Addr×Obj)} {σ:St} {H:Hp} {s:Shared} {a:Addr} {kvs:List (Key×V)} {A:Around} {E:Value->Shared->Prop}
end
section
variable {X:Cx} {pins:List (Addr×Obj)} {σ:St} {H:Hp} {s:Shared} {a:Addr} {y:V} {u:Value} {A:Around} {E:Value->Shared->Prop}
end
end L2
namespace Att
open PySem PySem.W PySem.Calls PyProof.Rows
theorem ints_of_wellAll {P:Params} {h:Heap}:∀ (ns:List Int) (vs:List Value),WellAll P h vs (ns.map WData.int)->IntsAre vs ns:=by
 intro ns
 induction ns with
 | nil=>
   intro vs w
   rw [List.map_nil] at w
   cases w
   exact .nil
 | cons n ns ih=>
   intro vs w
   rw [List.map_cons] at w
   cases w with
   | cons a b=>
     cases a
     exact .cons _ _ (ih _ b)
theorem script_of {l:OpenLaw} {n:Nat} (hn:l.most=some n) {P:Params} {h:Heap} {args:List WData} {vals:List Value}
 (hpre:l.row.toRowW.claim.pre args=true) (hwl:WellAll P h vals args) :
 ∃ a vs ns,vals=[Value.ref a]/\args=[WData.list (ns.map WData.int)]/\h.get? a=some { cls:=.type "list",data:=.seq vs.toArray }/\IntsAre vs ns/\ns.length≤n:=by
 have hsh:WShape.hasAll [] args [.list .int]=true:=(pre_splitW hpre).1
 have hc:l.pre.holds [] { args:=args }=true:=(pre_splitW hpre).2
 obtain ⟨d,r,rfl,h1,h2⟩:=hasAllW_cons hsh
 obtain rfl:=hasAllW_nil h2
 obtain ⟨xs,rfl,h3⟩:=hasW_list h1
 obtain ⟨ns,rfl⟩:=items_int h3
 have hlen:ns.length≤n:=by
  unfold OpenLaw.pre at hc
  have h4:(WTm.not (.lt (.lit (.int (n:Int))) (.len (.arg 0)))).holds [] { args:=[.list (ns.map .int)] }=true:=by
   have h4:=(holds_andW hc).1
   rw [hn] at h4
   exact h4
  have h5:=condW_of h4 (w_not (w_lt w_lit (w_len_list (w_arg rfl))))
  rw [List.length_map] at h5
  refine Nat.le_of_not_lt fun q=>?_
  have q':(n:Int)<((ns.length:Nat):Int):=by omega
  first
   |(rw [decide_eq_true q'] at h5;exact absurd h5 (by decide))
   |(simp at h5;omega)
 cases hwl with
 | cons w1 w2=>
   cases w2
   cases w1 with
   |list ho hall=>exact ⟨_,_,ns,rfl,rfl,ho,ints_of_wellAll ns _ hall,hlen⟩
theorem post_true (l:OpenLaw) (args:List WData):l.row.toRowW.claim.post args (.bool true) args=true:=
 postW_of (r:=l.row.toRowW) (X:=(true == true))
  (show WShape.has [] (.bool true) .bool=true by first|rfl|decide|simp [WShape.has,WShape.arms,WShape.armsAll])
  (show (WTm.eq .res (.lit (.bool true))).value [] { args:=args,res:=some (.bool true),after:=args }=some (.bool (true == true)) from w_eq_bool (w_res rfl) w_lit) rfl
theorem attach_call {l:OpenLaw} {n:Nat} {q:Program} {loose:List Str} {XP:(Str->Option Value)->Heap->Prop} {YP:World->Heap->Prop} {d:DefRec}
 (hn:l.most=some n) (hdf:d.params.defaults=[])
 (call:∀ (w:World) (s₀ s₁:Shared) (mg mb:Str->Option Value) (fa:Addr) (o:Obj) (pm cd doc:Value) (a:Addr) (vs:List Value) (ns:List Int),
  Ground q loose [] XP w s₀ mg mb s₁.heap->YP w s₁.heap->
  s₁.heap.get? fa=some o->o.data=.func (docDef d.name d.params d.body d.scope pm cd doc)->s₁.heap.CodeRec cd d.name->mg d.name=some (.ref fa)->
  s₁.heap.get? a=some { cls:=.type "list",data:=.seq vs.toArray }->IntsAre vs ns->ns.length≤n->s₁.gens=#[]->
  codeAny (model l.prog w) callerA (.call (.ref fa) ⟨[.ref a],[]⟩) (fun r s'=>r=.ok (.ret (.bool true))/\OldK s₁.heap s'.heap/\s'.os=s₁.os/\AllBare s'.gens) s₁) :
 WalkO q loose XP YP l.row.toRowW d [] (fun f vs=>PySem.call f vs):=by
 intro w s₀ s₁ mg mb G Y fa o pm cd doc dV kV ho hd hcd hD hmg hg args vals as hpre hlay hrd hwl hlo
 obtain rfl:dV=.none:=Dflts.none hD hdf
 obtain rfl:kV=.none:=Dflts.noKw hD
 obtain ⟨a,vs,ns,rfl,rfl,hobj,hints,hlen⟩:=script_of hn hpre hwl
 refine enter_call (codeAny_mono (call w s₀ s₁ mg mb fa o pm cd doc a vs ns G Y ho (fd_plain hd) hcd hmg hobj hints hlen hg) fun r s' hq=>?_)
 obtain ⟨rfl,h2,h3,h4⟩:=hq
 exact ⟨.inl ⟨.bool true,.bool true,[],rfl,fun _=>rfl,.bool true,post_true l _,fun _=>⟨List.Pairwise.nil,fun _ hm=>(nomatch hm)⟩⟩,h2,h3,h4⟩
section
variable {prog:Program} {w:World} {A:Around} {E:Value->Shared->Prop} {s:Shared} {K:Frag}
end
end Att
namespace L2
open PySem PySem.Spec PyProof.Rows
theorem vals_ints:∀ {vs:List Value} {ns:List Int},IntsAre vs ns->Vals (ns.map V.int) vs
 |_,_,.nil=>.nil
 |_,_,.cons n t h=>.cons ⟨t,rfl⟩ (vals_ints h)
def Only (H:Hp):Prop:=∀ b,H b=none∨∃ o xs,H b=some (.frz o (.lst xs))
theorem law_call {P:Program} {w:World} {K:PySem.W.Frag} {mg mb:Str->Option Value} {CX:CXT} {k:Nat} {fa a:Addr} {fd:FuncData} {x:Str} {sp:Sp} {s₁:Shared} {vs:List Value} {ns:List Int}
 (KX:K.In s₁.heap) (hns:s₁.heap.Ns mainGlobals mg) (hb:s₁.heap.Ns builtinsNs mb) (hbb:∀ x:Str,x ≠ "__name__"->mb x=bootBuiltins x) (hlim:s₁.heap.NoLimit) (hg:s₁.gens=#[])
 (ha:s₁.heap.get? a=some { cls:=.type "list",data:=.seq vs.toArray }) (hi:IntsAre vs ns) (hl:ns.length≤sizeLine) (hr:Room k callerA)
 (F:∀ base:Heap,K.In base->base.Ns mainGlobals mg->FnOk P w K mg base CX k fa fd [x] sp) (hbind:∀ (s:Shared) (u:Value),BindsTo s fd ⟨[u],[]⟩ [(x,u)])
 (hsp:∀ H:Hp,Only H->SqL K H a (ns.map V.int)->sp [.ref a] H (fun v _=>v=.bl true) fun _ _ _=>False)
 (hCX:∀ H e s',CX [] H s₁ (fun _ _ _=>False) e s'->False) :
 codeAny (model P w) callerA (.call (.ref fa) ⟨[.ref a],[]⟩) (fun r s'=>r=.ok (.ret (.bool true))/\OldK s₁.heap s'.heap/\s'.os=s₁.os/\AllBare s'.gens) s₁:=by
 have rv:=vals_ints hi
 have lenV:=hi.length
 have core:∀ H:Hp,Only H->SqL K H a (ns.map V.int)->HOk P w H s₁.heap->(∀ b,H b≠none->b=a)->(H a≠none->K.lookup a=none)->
  codeAny (model P w) callerA (.call (.ref fa) ⟨[.ref a],[]⟩) (fun r s'=>r=.ok (.ret (.bool true))/\OldK s₁.heap s'.heap/\s'.os=s₁.os/\AllBare s'.gens) s₁:=by
  intro H hO hS hok hA hK
  have base_of:∀ {b:Addr} {o:Obj},s₁.heap.get? b=some o->H b=none->(hidT s₁.heap H).get? b=some o:=fun e n=>hidT_get e n
  have noA:∀ {b:Addr} {o:Obj} {es:Array DictEntry} {ep:Nat},s₁.heap.get? b=some o->o.data=.dict es ep->H b=none:=fun {b o es ep} e d=>by
   cases q:H b with
   |none=>rfl
   | some u=>
     have e':b=a:=hA b (by rw [q];simp)
     subst e'
     rw [ha] at e;cases e
     have d':Data.seq vs.toArray _=Data.dict es ep:=d
     cases d'
  have nsK:∀ {b:Addr} {m:Str->Option Value},s₁.heap.Ns b m->(hidT s₁.heap H).Ns b m:=fun {b m} ⟨o,es,ep,e,d,r⟩=>⟨o,es,ep,base_of e (noA e d),d,r⟩
  have hKb:K.In (hidT s₁.heap H):=fun b o e=>base_of (KX b o e) (by
   cases q:H b with
   |none=>rfl
   | some u=>
     have e':b=a:=hA b (by rw [q];simp)
     subst e'
     rw [hK (by rw [q];simp)] at e;cases e)
  have hM:Mod K mg (hidT s₁.heap H):=⟨hKb,nsK hns,⟨mb,nsK hb,hbb⟩,let ⟨mc,h1,h2⟩:=hlim;⟨mc,nsK h1,h2⟩⟩
  have e0:Env0 P w K mg (hidT s₁.heap H) callerA [] s₁ H:=⟨rfl,hM,fun b o e=>of_hidT e,Nat.le_of_eq (hidT_size _ _),trivial,fun b hb=>absurd (show b∈([]:List Addr) from hb) (by simp),hok,.of_eq hg⟩
  refine codeAny_mono ((F _ hKb (nsK hns)).run callerA [] s₁ H ⟨[.ref a],[]⟩ [.ref a] [.ref a] _ _ hr e0 (hbind s₁ (.ref a)) (.cons rfl .nil) (hsp H hO hS)) fun r s' h=>?_
  cases r with
  |error e=>exact (hCX H e s' h).elim
  | ok fl=>
    cases fl with
    |next=>exact False.elim h
    |brk=>exact False.elim h
    |cont=>exact False.elim h
    | ret u=>
      obtain ⟨v,H',os,bare,un,hok',r',q⟩:=h
      have q':v=.bl true:=q
      subst q'
      obtain rfl:u=Value.bool true:=r'
      refine ⟨rfl,OldK.of_keep fun b o e=>?_,os,bare⟩
      cases q:H b with
      |none=>exact un.keep b o e q (by intro z;exact absurd (show b∈([]:List Addr) from z) (by simp)) (by simp)
      | some u=>
        rcases hO b with z|⟨ob,xs,z⟩
        ·rw [q] at z;cases z
        ·have z2:=un.frzs b ob _ z
         obtain ⟨e1,_⟩:=hok b _ z
         obtain ⟨e2,_⟩:=hok' b _ z2
         rw [e] at e1;cases e1
         exact e2
 cases hk:K.lookup a with
 | some o=>
   have e:=KX a o hk
   rw [ha] at e
   cases e
   refine core (fun _=>none) (fun _=>.inl rfl) (.inr ⟨_,vs.toArray,_,hk,rfl,rfl,rfl,by rw [List.size_toArray,lenV];exact hl,by simpa using rv⟩) (fun b u z=>by have z':(none:Option HO)=some u:=z;cases z') (fun b z=>absurd rfl z) fun z=>absurd rfl z
 | none=>
   refine core (fun b=>if b=a then some (.frz { cls:=.type "list",data:=.seq vs.toArray } (.lst (ns.map V.int))) else none) (fun b=>?_) (.inl (.inr ⟨{ cls:=.type "list",data:=.seq vs.toArray },if_pos rfl⟩)) (fun b u z=>?_) (fun b z=>?_) fun _=>hk
   ·by_cases hb:b=a
    ·exact .inr ⟨_,_,if_pos hb⟩
    ·exact .inl (if_neg hb)
   ·by_cases hb:b=a
    ·have z':=(if_pos hb).symm.trans z
     cases z'
     subst hb
     exact ⟨ha,by rw [List.length_map];exact hl,vs,_,rv,ha⟩
    ·have z':=(if_neg hb).symm.trans z
     cases z'
   ·by_cases hb:b=a
    ·exact hb
    ·exact absurd (if_neg hb) z
theorem walk_of {l:PySem.W.OpenLaw} {n k:Nat} {q:Program} {loose:List Str} {XP:(Str->Option Value)->Heap->Prop} {YP:World->Heap->Prop} {d:DefRec} {K:Params->PySem.W.Frag} {CX:World->CXT} {sp:World->Sp} {x:Str}
 (hn:l.most=some n) (hn2:n≤sizeLine) (hdf:d.params.defaults=[]) (hr:Room k callerA)
 (hY:∀ (w:World) (h:Heap),YP w h->(K w.params).In h)
 (F:∀ (w:World) (mg:Str->Option Value) (fa:Addr) (h:Heap),(K w.params).In h->h.Ns mainGlobals mg->mg d.name=some (.ref fa)->
  ∃ fd:FuncData,(∀ (s:Shared) (u:Value),BindsTo s fd ⟨[u],[]⟩ [(x,u)])/\
    ∀ base:Heap,(K w.params).In base->base.Ns mainGlobals mg->FnOk l.prog w (K w.params) mg base (CX w) k fa fd [x] (sp w))
 (hsp:∀ (w:World) (H:Hp) (a:Addr) (ns:List Int),ns.length≤n->Only H->SqL (K w.params) H a (ns.map V.int)->sp w [.ref a] H (fun v _=>v=.bl true) fun _ _ _=>False)
 (hCX:∀ (w:World) (H:Hp) (s:Shared) (e:Value) (s':Shared),CX w [] H s (fun _ _ _=>False) e s'->False) :
 PySem.W.WalkO q loose XP YP l.row.toRowW d [] (fun f vs=>PySem.call f vs):=by
 refine Att.attach_call hn hdf fun w s₀ s₁ mg mb fa o pm cd doc a vs ns G Y ho hd hcd hmg hobj hints hlen hg=>?_
 have KX:=hY w _ Y
 obtain ⟨fd,hb,hF⟩:=F w mg fa _ KX G.T.g hmg
 exact law_call KX G.T.g G.T.b G.T.builtins G.T.nolimit hg hobj hints (Nat.le_trans hlen hn2) hr hF hb (fun H hO hS=>hsp w H a ns hlen hO hS) fun H e s'=>hCX w H s₁ e s'
def defArgs (s:Stmt):Arguments:=match s with
 |.FunctionDef _ a _ _ _ _ _ _ _ _=>a
 |_=>{ posonlyargs:=[],args:=[],vararg:=none,kwonlyargs:=[],kw_defaults:=[],kwarg:=none,defaults:=[] }
def defBody (s:Stmt):List Stmt:=match s with
 |.FunctionDef _ _ b _ _ _ _ _ _ _=>b
 |_=>[]
def defScope (s:Stmt):Scope:=match s with
 |.FunctionDef _ _ _ _ _ _ sc _ _ _=>sc
 |_=>{ kind:=.function,names:=[],isGenerator:=false,isCoroutine:=false }
abbrev CX0:CXT:=fun _ _ _ _ _ _=>False
abbrev E0:XK:=fun _ _ _=>False
theorem pass0 {X:Cx}:Passes CX0 X E0:=fun _ _ _ _ _ _ _ h=>h.elim
structure Fun (K:PySem.W.Frag) (x qual:Str) (st:Stmt) (f:Addr) (fd:FuncData):Prop where
 ex:∃ (oc:Value) (od:Option Addr) (kV doc pm:Value) (an:Option Addr) (cdv ct:Value) (osl:Array (Option Value)),
  fd=PySem.W.fnOf x qual (defArgs st) (defBody st) (defScope st) .none kV doc pm an cdv ct/\K.lookup f=some ⟨oc,od,.func fd,osl⟩/\PySem.W.codeIn K cdv qual=true
 kp:PySem.W.keepIn K (.ref f)=true
section
variable {P:Program} {w:World} {K:PySem.W.Frag} {mg:Str->Option Value} {base:Heap}
theorem Fun.ok {x qual:Str} {st:Stmt} {f:Addr} {fd:FuncData} {N ps:List Str} {k:Nat} {sp:Sp} (F:Fun K x qual st f fd) (S:FnScope N ps (defScope st)) (len:∀ vs H Q E,sp vs H Q E->vs.length=ps.length)
 (hbody:∀ (cdv:Value) (A:Around) (outer:List Env) (s:Shared) (H:Hp) (vs:List V) (Q:VK) (E:XK),Room k (A.deeper (envOfC qual (defScope st) s.heap.objs.size f cdv))->sp vs H Q E->
  ∃ t,PSs (cxOf CX0 P w K mg base N qual (defScope st) f cdv A outer s H E).nox (defBody st) t/\t { nx:=fun _ H'=>Q .non H',rt:=Q } (start N vs) H):FnOk P w K mg base CX0 (k+1) f fd ps sp:=by
 obtain ⟨oc,od,kV,doc,pm,an,cdv,ct,osl,rfl,lk,hcd⟩:=F.ex
 refine fn_of lk hcd S len fun A outer s H vs Q E hr hsp=>?_
 obtain ⟨t,h,q⟩:=hbody cdv A outer s H vs Q E hr hsp
 exact ⟨t,h.nox,q⟩
theorem Fun.binds {x qual:Str} {st:Stmt} {f:Addr} {fd:FuncData} {ps:List Str} (F:Fun K x qual st f fd)
 (h:∀ (kV doc pm:Value) (an:Option Addr) (cdv ct:Value) (us:List Value),us.length=ps.length->bindArgs (PySem.W.fnOf x qual (defArgs st) (defBody st) (defScope st) .none kV doc pm an cdv ct) ⟨us,[]⟩=pure (ps.zip us)):Binds K fd ps []:=by
 obtain ⟨oc,od,kV,doc,pm,an,cdv,ct,osl,rfl,lk,hcd⟩:=F.ex
 exact .all (h kV doc pm an cdv ct)
theorem fun_mk {x qual:Str} {st:Stmt} {f:Addr} {oc:Value} {od an:Option Addr} {osl:Array (Option Value)} {kV doc pm cdv ct:Value} (l:K.lookup f=some ⟨oc,od,.func (PySem.W.fnOf x qual (defArgs st) (defBody st) (defScope st) .none kV doc pm an cdv ct),osl⟩)
 (c:PySem.W.codeIn K cdv qual=true) (k:PySem.W.keepIn K (.ref f)=true):Fun K x qual st f (PySem.W.fnOf x qual (defArgs st) (defBody st) (defScope st) .none kV doc pm an cdv ct):=⟨⟨oc,od,kV,doc,pm,an,cdv,ct,osl,rfl,l,c⟩,k⟩
end
theorem hu_of {A:Around} {k:Nat} (hr:Room k A):A.units+1<cLine:=Nat.lt_of_le_of_lt (Nat.add_le_add_left (by decide:1≤64) _) hr.units
theorem small1000 {n:Nat} (h:n≤1000):n<sizeLine:=Nat.lt_of_le_of_lt h (by decide)
section
variable {X:Cx}
theorem pv (i:Nat) {x:Str} {pos:Pos} (hN:X.N[i]?=some x:=by rfl) (hv:Vis X.env.scope x:=by first|exact Or.inl rfl|exact Or.inr (Or.inl rfl)|exact Or.inr (Or.inr rfl)) (hd:(x == ("__debug__" : Str))=false:=by decide)
 (hcd:(x == ("__classdict__" : Str))=false:=by decide):PE X (.Name x pos) (tVar i):=pe_var hN hv hd hcd
end
theorem ite2 {c A B:Prop} [Decidable c] (h1:c->A) (h2:¬ c->B):if c then A else B:=by
 by_cases h:c
 ·rw [if_pos h]
  exact h1 h
 ·rw [if_neg h]
  exact h2 h
def Same (H H':Hp):Prop:=∀ b o,H b=some o->H' b=some o
theorem Same.refl (H:Hp):Same H H:=fun _ _ h=>h
theorem Same.trans {H H1 H2:Hp} (a:Same H H1) (b:Same H1 H2):Same H H2:=fun c o h=>b c o (a c o h)
theorem Same.free {H H':Hp} (e:Same H H') {l:Addr} (h:H' l=Option.none):H l=Option.none:=by
 cases q:H l with
 |none=>rfl
 | some o=>
   rw [e l o q] at h
   cases h
theorem Same.seq {K:PySem.W.Frag} {H H':Hp} {a:Addr} {xs:List V} (e:Same H H') (h:SqL K H a xs):SqL K H' a xs:=by
 rcases h with (h|⟨o,h⟩)|h
 ·exact .inl (.inl (e _ _ h))
 ·exact .inl (.inr ⟨o,e _ _ h⟩)
 ·exact .inr h
section
variable {X:Cx}
theorem call_lenD:CallR X (.builtin "len") (fun xs H Q=>∃ a kvs,xs=[V.ref a]/\H a=some (.dK kvs)/\Q (.int kvs.length) H):=by
 intro pins s σ H xs us Q I r h
 obtain ⟨a,kvs,rfl,ha,q⟩:=h
 obtain ⟨u,rfl,ru⟩:=vals1 r
 cases ru
 exact d_len I (.inl ha) fun t s' I'=>⟨.int kvs.length,H,I',⟨t,rfl⟩,q⟩
end
section
variable {κ:Type} [DecidableEq κ]
end
theorem closure_ok {env:Env} (scope:Scope) (h:∀ y∈scope.names,y.2=.free->∃ c,env.cells.lookup y.1=some c) :
 ∃ cl,closureFor scope env=pure cl/\(∀ x c,cl.lookup x=some c->env.cells.lookup x=some c)/\∀ x,(x,NameKind.free)∈scope.names->∃ c,cl.lookup x=some c:=by
 have go:∀ (names:List (Str×NameKind)) (acc:List (Str×Addr)),(∀ y∈names,y.2=.free->∃ c,env.cells.lookup y.1=some c)->(∀ x c,acc.lookup x=some c->env.cells.lookup x=some c)->
  ∃ cl,(forIn names acc fun x cs=>(match x with
    |(name,kind)=>if kind == NameKind.free then (do let c ← cellOf env name;pure (ForInStep.yield ((name,c)::cs))) else pure (ForInStep.yield cs):Sem (ForInStep (List (Str×Addr)))))=pure cl/\
    (∀ x c,cl.lookup x=some c->env.cells.lookup x=some c)/\(∀ x,(x,NameKind.free)∈names∨(∃ c,acc.lookup x=some c)->∃ c,cl.lookup x=some c):=by
  intro names
  induction names with
  |nil=>intro acc _ ha;exact ⟨acc,rfl,ha,fun x z=>z.elim (fun q=>nomatch q) id⟩
  | cons y r ih=>
    intro acc hy ha
    obtain ⟨n,k⟩:=y
    by_cases hk:k=.free
    ·subst hk
     obtain ⟨c,hc⟩:=hy (n,.free) List.mem_cons_self rfl
     obtain ⟨cl,e,h1,h2⟩:=ih ((n,c)::acc) (fun z hz=>hy z (List.mem_cons_of_mem _ hz)) (fun x c' hx=>by
      rw [List.lookup_cons] at hx
      by_cases q:x == n
      ·rw [q] at hx
       cases hx
       rw [beq_iff_eq.mp q];exact hc
      ·rw [Bool.not_eq_true] at q
       rw [q] at hx
       exact ha x c' hx)
     refine ⟨cl,?_,h1,fun x z=>h2 x ?_⟩
     ·rw [List.forIn_cons]
      simp only [beq_self_eq_true,if_true,cellOf,hc]
      exact e
     ·have aux:∀ x,(∃ c',acc.lookup x=some c')->∃ c',((n,c)::acc).lookup x=some c':=fun x ⟨c',z⟩=>by
       rw [List.lookup_cons]
       by_cases q:x == n
       ·rw [q];exact ⟨_,rfl⟩
       ·rw [Bool.not_eq_true] at q
        rw [q];exact ⟨c',z⟩
      rcases z with z|z
      ·rcases List.mem_cons.mp z with z|z
       ·cases z
        exact .inr ⟨c,by rw [List.lookup_cons,beq_self_eq_true]⟩
       ·exact .inl z
      ·exact .inr (aux x z)
    ·have hb:(k == NameKind.free)=false:=by simpa using hk
     obtain ⟨cl,e,h1,h2⟩:=ih acc (fun z hz=>hy z (List.mem_cons_of_mem _ hz)) ha
     refine ⟨cl,?_,h1,fun x z=>h2 x ?_⟩
     ·rw [List.forIn_cons]
      simp only [hb,Bool.false_eq_true,if_false]
      exact e
     ·rcases z with z|z
      ·rcases List.mem_cons.mp z with z|z
       ·cases z
        exact absurd rfl hk
       ·exact .inl z
      ·exact .inr z
 obtain ⟨cl,e,h1,h2⟩:=go scope.names [] h (fun x c z=>by simp at z)
 refine ⟨cl,?_,h1,fun x z=>h2 x (.inl z)⟩
 unfold closureFor
 exact (congrArg (fun (m:Sem (List (Str×Addr)))=>m >>= fun cs=>pure cs) e).trans rfl
def cxComp (X:Cx) (scope:Scope) (N':List Str) (cl:List (Str×Addr)) (C:Addr) (s₀:Shared) (H₀:Hp) (ex:List Addr):Cx where
 prog:=X.prog
 w:=X.w
 K:=X.K
 mg:=X.mg
 base:=X.base
 A:=X.A
 N:=N'
 s₀:=s₀
 H₀:=H₀
 env:=compEnvC scope cl C X.env
 outer:=X.stack
 stack:=X.stack
 ex:=ex
 fn:=fun _=>false
 calm:=X.calm
 pn:=[]
 xe:=fun _ _=>False
def compSt (k:Nat) (js:List Nat) (σ:St):St:=List.replicate k none++js.map fun j=>(σ[j]?).join
theorem compSt_len (k:Nat) (js:List Nat) (σ:St):(compSt k js σ).length=k+js.length:=by simp [compSt]
structure CompScope (X:Cx) (scope:Scope) (own:List Str) (js:List Nat) (N':List Str):Prop where
 kind:scope.kind=.function
 nocell:∀ y∈scope.names,y.2≠.cell
 names:∀ y∈scope.names,y.2=.local->scope.names.lookup y.1=some .local
 free:∀ y∈scope.names,y.2=.free->X.env.kindOf y.1=some .cell∨X.env.kindOf y.1=some .free
 nm:N'=own++js.map fun j=>X.N.getD j Str.empty
 fr:∀ j∈js,j<X.N.length/\(X.N.getD j Str.empty,NameKind.free)∈scope.names/\∀ k,(X.N.getD j Str.empty,k)∈scope.names->k=.free
theorem lookup_mem_free {names:List (Str×NameKind)} {x:Str} (h:(x,NameKind.free)∈names) (u:∀ k,(x,k)∈names->k=.free):names.lookup x=some .free:=by
 induction names with
 |nil=>cases h
 | cons y r ih=>
   obtain ⟨n,k⟩:=y
   rw [List.lookup_cons]
   by_cases q:x == n
   ·rw [q]
    have e:x=n:=beq_iff_eq.mp q
    subst e
    rw [u k List.mem_cons_self]
   ·rw [Bool.not_eq_true] at q
    rw [q]
    refine ih ?_ fun k hk=>u k (List.mem_cons_of_mem _ hk)
    rcases List.mem_cons.mp h with z|z
    ·cases z
     rw [beq_self_eq_true] at q;cases q
    ·exact z
theorem relabel_mem {scope:Scope} {env:Env} {x:Str} {k:NameKind} (h:(x,k)∈(relabel scope env).names) (hk:k=.cell∨k=.free) (hc:∀ y∈scope.names,y.2≠.cell):(x,NameKind.free)∈scope.names:=by
 unfold relabel at h
 obtain ⟨⟨n,k'⟩,hm,e⟩:=List.mem_map.mp h
 dsimp only at e
 by_cases q:(k' == NameKind.free && env.scope.kind == .function && env.kindOf n == some .cell)=true
 ·rw [if_pos q] at e
  cases e
  rw [Bool.and_eq_true,Bool.and_eq_true] at q
  have:k'=.free:=by simpa using q.1.1
  rw [← this];exact hm
 ·rw [if_neg q] at e
  cases e
  rcases hk with z|z
  ·exact absurd z (hc _ hm)
  ·rw [← z];exact hm
theorem lookup_relabel_free {env:Env} {x:Str}:∀ {names:List (Str×NameKind)},names.lookup x=some .free->
 (names.map fun (n,k)=>if (k == NameKind.free && env.scope.kind == .function && env.kindOf n == some .cell) then (n,NameKind.cell) else (n,k)).lookup x=some .cell∨
 (names.map fun (n,k)=>if (k == NameKind.free && env.scope.kind == .function && env.kindOf n == some .cell) then (n,NameKind.cell) else (n,k)).lookup x=some .free
 |[],h=>by simp at h
 | (n,k)::r,h=>by
   have ih:=@lookup_relabel_free env x r
   rw [List.lookup_cons] at h
   rw [List.map_cons]
   dsimp only
   by_cases q:x == n
   ·rw [q] at h
    cases h
    by_cases c:(NameKind.free == NameKind.free && env.scope.kind == .function && env.kindOf n == some .cell)=true
    ·rw [if_pos c,List.lookup_cons,q];exact .inl rfl
    ·rw [if_neg c,List.lookup_cons,q];exact .inr rfl
   ·rw [Bool.not_eq_true] at q
    rw [q] at h
    by_cases c:(k == NameKind.free && env.scope.kind == .function && env.kindOf n == some .cell)=true
    ·rw [if_pos c,List.lookup_cons,q];exact ih h
    ·rw [if_neg c,List.lookup_cons,q];exact ih h
section
variable {X:Cx} {pins:List (Addr×Obj)} {σ:St} {H:Hp} {s:Shared}
theorem Inv.comp {scope:Scope} {own:List Str} {js:List Nat} {N':List Str} {cl:List (Str×Addr)} {C:Addr} {h₁:Heap} {tk:Nat} {fp:List Addr} {m:Str->Option Value} (S:CompScope X scope own js N') (I:Inv X pins σ H s)
 (hc1:∀ x c,cl.lookup x=some c->X.env.cells.lookup x=some c) (hc2:∀ x,(x,NameKind.free)∈scope.names->∃ c,cl.lookup x=some c) (hC:s.heap.objs.size≤C) (hns:h₁.Ns C m) (hk:∀ b o,s.heap.get? b=some o->h₁.get? b=some o)
 (hf:∀ b∈fp,FpOk X pins H b/\b<s.heap.objs.size) (hHC:H C=none) (hfree:∀ b o,s.heap.get? b=some o->b≠C) :
 Inv (cxComp X scope N' cl C s H fp) [] (compSt own.length js σ) H { s with heap:=h₁,toks:=tk }:=by
 have ltx:∀ b o,X.s₀.heap.get? b=some o->b∉X.ex->b∉fp:=fun b o e hx hb=>by
  rcases (hf b hb).1.2.2.2.1 with z|z
  ·exact hx z
  ·exact absurd (Nat.lt_of_lt_of_le (Heap.lt_size e) z) (Nat.lt_irrefl _)
 refine ⟨⟨I.ok.mod,S.kind,I.ok.glob,I.ok.blt,hC,fun x y c h1 h2=>I.ok.inj x y c (hc1 x c h1) (hc1 y c h2),fun x hx=>?_,fun x c z=>(nomatch z),I.ok.hd,I.ok.frames,.inl rfl,fun b hb=>⟨Nat.ne_of_lt (Nat.lt_of_lt_of_le (hf b hb).2 hC),fun x c e=>(hf b hb).1.2.2.2.2.1 x c (hc1 x c e)⟩,I.bs,Nat.le_trans I.ok.bsz I.sz,fun b o e=>ltx b o (I.ok.bs b o e).1 (I.ok.noex b o e),fun b hb z=>?_,I.stack,I.stkFree⟩,
  rfl,I.bare,Un.kept hk,⟨m,hns,fun i x v e1 e2 e3=>?_⟩,fun x c e=>?_,hHC,fun x c e=>I.freeC x c (hc1 x c e),fun p hp=>absurd (show p∈([]:List (Addr×Obj)) from hp) (by simp),I.hok.kept hk,?_⟩
 ·have hx':(relabel scope X.env).names.lookup x=some .cell∨(relabel scope X.env).names.lookup x=some .free:=hx
  rcases hx' with z|z
  ·exact hc2 x (relabel_mem (PySem.mem_of_lookup z) (.inl rfl) S.nocell)
  ·exact hc2 x (relabel_mem (PySem.mem_of_lookup z) (.inr rfl) S.nocell)
 ·obtain ⟨_,f1,f2,_⟩:=(hf b hb).1
  rcases List.mem_cons.mp (I.stkSub b z) with q|q
  ·exact f1 q
  ·exact f2 q
 ·
  unfold compSt at e2
  by_cases hi:i<own.length
  ·rw [List.getElem?_append_left (by simpa using hi),List.getElem?_replicate] at e2
   split at e2 <;> cases e2
  ·rw [List.getElem?_append_right (by simpa using hi),List.length_replicate,List.getElem?_map] at e2
   cases ej:js[i-own.length]? with
   |none=>rw [ej] at e2;cases e2
   | some j=>
     rw [ej] at e2
     have e2':(σ[j]?).join=some v:=by simpa using e2
     have hσ:σ[j]?=some (some v):=by
      cases q:σ[j]? with
      |none=>rw [q] at e2';cases e2'
      |some o=>rw [q] at e2';exact congrArg some e2'
     have hj:=S.fr j (List.mem_of_getElem? ej)
     have hx:x=X.N.getD j Str.empty:=by
      have e1':N'[i]?=some x:=e1
      rw [S.nm,List.getElem?_append_right (by omega),List.getElem?_map,ej] at e1'
      exact (Option.some.inj e1').symm
     have hN:X.N[j]?=some x:=by
      rw [hx,List.getD_eq_getElem?_getD,List.getElem?_eq_getElem hj.1];rfl
     have hfr:scope.names.lookup x=some .free:=by rw [hx];exact lookup_mem_free hj.2.1 hj.2.2
     have hkx:=S.free (x,.free) (by rw [hx];exact hj.2.1) rfl
     have hvis:Vis X.env.scope x:=hkx.elim (fun z=>.inr (.inl z)) fun z=>.inr (.inr z)
     obtain ⟨mX,hnX,hlX⟩:=I.loc
     obtain ⟨u,r,l⟩:=hlX j x v hN hσ hvis
     refine ⟨u,r,.inr ⟨lookup_relabel_free hfr,?_⟩⟩
     rcases l with ⟨z,_⟩|⟨_,c,hc,hcell⟩
     ·rcases hkx with q|q
      ·have:=q.symm.trans z;cases this
      ·have:=q.symm.trans z;cases this
     ·obtain ⟨c',hc'⟩:=hc2 x (by rw [hx];exact hj.2.1)
      have:c'=c:=Option.some.inj ((hc1 x c' hc').symm.trans hc)
      subst this
      obtain ⟨o,ho,hd⟩:=hcell
      exact ⟨c',hc',o,hk _ _ ho,hd⟩
 ·obtain ⟨v,o,ho,hd⟩:=I.cell x c (hc1 x c e)
  exact ⟨v,o,hk _ _ ho,hd⟩
 ·rw [compSt_len]
  show _=N'.length
  rw [S.nm];simp
end
def PIfs (Y:Cx) (ifs:List Expr) (t:TT):Prop:=
 ∀ (pins:List (Addr×Obj)) (s:Shared) (σ:St) (H:Hp) (Q:Bool->Hp->Prop),Inv Y pins σ H s->t σ H Q->
   wpAny (model Y.prog Y.w) Y.A (forIn ifs true fun c r=>if r=true then do let ok ← isTrue c Y.env (eval c Y.env);pure (ForInStep.yield ok) else pure (ForInStep.yield r)) (TP Y pins σ Q) Y.xe s
def tYes:TT:=fun _ H Q=>Q true H
theorem pifs_nil {Y:Cx}:PIfs Y [] tYes:=fun _ _ _ H _ I h=>wpAny_tests_nil ⟨H,I,h⟩
theorem pifs_one {Y:Cx} {c:Expr} {t:TT} (h:PT Y c t):PIfs Y [c] t:=fun pins s σ H Q I hw=>wpAny_tests_one (h pins s σ H Q I hw)
abbrev accObj (us:List Value) (k:Nat):Obj:={ cls:=.type "list",data:=.seq us.toArray k }
def CTurn (J:It) (g:TG) (tt:TT) (te:TE) (F:List V->Hp->Prop) (W:Nat->Nat->List V->St->Hp->Prop):Prop:=
 ∀ i m ys σ H,W i m ys σ H->(J.stop i H/\F ys H)∨(J.go i H/\ys.length<sizeLine/\∀ x H1,J.yld i H x H1->g x σ H1 fun σ2 H2=>tt σ2 H2 fun b H3=>
   if b=true then te σ2 H3 fun y H4=>∃ m',m'<m/\W (i+1) m' (ys++[y]) σ2 H4 else ∃ m',m'<m/\W (i+1) m' ys σ2 H3)
theorem comp_loop {X:Cx} {scope:Scope} {N':List Str} {cl:List (Str×Addr)} {C acc it:Addr} {s₂:Shared} {H₂:Hp} {fp:List Addr} {tn:Nat->Heap->Prop} {J:It} {g:TG} {tt:TT} {te:TE} {F:List V->Hp->Prop}
 {elt tg iter:Expr} {ifs:List Expr} {pos:Pos} {R:Result->Shared->Prop} (W:Nat->Nat->List V->St->Hp->Prop) (turn:CTurn J g tt te F W) (T:Turn X.prog X.w X.K tg J fp it tn)
 (hg:PG (cxComp X scope N' cl C s₂ H₂ fp) tg g) (hc:PIfs (cxComp X scope N' cl C s₂ H₂ fp) ifs tt) (he:PE (cxComp X scope N' cl C s₂ H₂ fp) elt te) (hcalm:X.calm=true)
 (hfp:∀ b∈fp,b≠C/\b∉frs X.stack/\(∀ x c,cl.lookup x=some c->c≠b)/\b≠acc) (hacc:acc≠C/\acc∉frs X.stack/\(∀ x c,cl.lookup x=some c->c≠acc)/\s₂.heap.objs.size≤acc)
 (hR:∀ s' σ' H' ys us k,Inv (cxComp X scope N' cl C s₂ H₂ fp) [(acc,accObj us k)] σ' H' s'->Vals ys us->F ys H'->R (.ok .next) s')
 {s:Shared} {σ:St} {H:Hp} {m:Nat} (I:Inv (cxComp X scope N' cl C s₂ H₂ fp) [(acc,accObj [] 0)] σ H s) (st:tn 0 s.heap) (fr:∀ b∈fp,H b=none) (w0:W 0 m [] σ H) :
 codeAny (model X.prog X.w) X.A (.compLoop (.ListComp elt [⟨tg,iter,ifs,0⟩] scope pos) 0 (.ref it) (.ref acc) (compEnvC scope cl C X.env)) R s:=by
 refine codeAny_loop rfl (fun n s'=>∃ i ys us k σ' H',Vals ys us/\Inv (cxComp X scope N' cl C s₂ H₂ fp) [(acc,accObj us k)] σ' H' s'/\tn i s'.heap/\(∀ b∈fp,H' b=none)/\W i n ys σ' H') (fun n s3 hI=>?_) m ⟨0,[],[],0,σ,H,.nil,I,st,fr,w0⟩
 obtain ⟨i,ys,us,k,σ3,H3,rv,I3,st3,fr3,w3⟩:=hI
 show wpAny _ X.A ((compTurn (.ListComp elt [⟨tg,iter,ifs,0⟩] scope pos) 0 (.ref it) (.ref acc) (compEnvC scope cl C X.env)).onRaise (fun x=>do noteFrame x (compEnvC scope cl C X.env);theTreesLotGoes x)) _ _ s3
 refine wpAny_noted ?_
 rw [compTurn_list]
 have fpk:∀ {pins:List (Addr×Obj)} {H':Hp},(∀ p∈pins,p.1=acc∨p.1∈([]:List Addr))->(∀ b∈fp,H' b=none)->∀ b∈fp,FpOk (cxComp X scope N' cl C s₂ H₂ fp) pins H' b:=fun hp hn b hb=>
  ⟨hn b hb,(hfp b hb).1,(hfp b hb).2.1,.inl hb,(hfp b hb).2.2.1,fun p hp'=>by
   have hp'':p∈([]:List (Addr×Obj))++_:=hp'
   rcases hp p (by simpa using hp'') with z|z
   ·rw [z];exact Ne.symm (hfp b hb).2.2.2
   ·exact (nomatch z)⟩
 have fp1:=fpk (pins:=[(acc,accObj us k)]) (fun p hp=>.inl (by simp at hp;rw [hp])) fr3
 refine wpAny_bind (wpAny_standAt (wpAny_bind ?_))
 rcases turn i n ys σ3 H3 w3 with ⟨stop,qn⟩|⟨go,hz,step⟩
 ·refine wpAny_mono (T.done (cxComp X scope N' cl C s₂ H₂ fp) rfl rfl rfl hcalm i _ s3 σ3 H3 (fun _ _=>False) I3 fp1 st3 stop) (fun r s4 ⟨hr,I4⟩=>?_) (fun _ _ z=>z.elim)
  subst hr
  exact wpAny_pure (hR s4 σ3 H3 ys us k I4 rv qn)
 ·refine wpAny_mono (T.item (cxComp X scope N' cl C s₂ H₂ fp) rfl rfl rfl hcalm i _ s3 σ3 H3 (fun _ _=>False) I3 fp1 st3 go) (fun r s4 ⟨u,hr,h4⟩=>?_) (fun _ _ z=>z.elim)
  subst hr
  refine wpAny_bind (wpAny_mono h4 (fun _ s5 ⟨x,H5,I5,r5,y5,st5,fr5⟩=>?_) (fun _ _ z=>z.elim))
  have fp5:=fpk (pins:=[(acc,accObj us k)]) (fun p hp=>.inl (by simp at hp;rw [hp])) fr5
  have I5':=I5.pinned fp5 (T.obj _ _ st5)
  refine wpAny_bind (wpAny_mono (hg _ s5 σ3 H5 x u _ I5' r5 (step x H5 y5)) (fun _ s6 ⟨σ6,H6,I6,q6⟩=>?_) (fun _ _ z=>z.elim))
  refine wpAny_bind (wpAny_mono (hc _ s6 σ6 H6 _ I6 q6) (fun ok s7 ⟨H7,I7,q7⟩=>?_) (fun _ _ z=>z.elim))
  have again:∀ {s8:Shared} {σ8:St} {H8:Hp} {us8:List Value} {k8:Nat} {ys8:List V},Inv (cxComp X scope N' cl C s₂ H₂ fp) ([(acc,accObj us k)]++pinsAt fp s5.heap) σ8 H8 s8->tn (i+1) s8.heap/\∀ b∈fp,H8 b=none:=fun {s8 σ8 H8 us8 k8 ys8} I8=>
   ⟨T.keep _ _ _ st5 fun b hb o e=>(I8.pin (b,o) (List.mem_append_right _ (List.mem_append_right _ (mem_pinsAt hb e)))).1,fun b hb=>by
    obtain ⟨o,e,d⟩:=T.obj _ _ st5 b hb
    exact (I8.pin (b,o) (List.mem_append_right _ (List.mem_append_right _ (mem_pinsAt hb e)))).2.1⟩
  cases ok with
  | false=>
    rw [if_neg Bool.false_ne_true] at q7
    obtain ⟨m',hm,w7⟩:=q7
    obtain ⟨t1,t2⟩:=again (us8:=us) (k8:=k) (ys8:=ys) I7
    exact wpAny_pure ⟨rfl,m',hm,i+1,ys,us,k,σ6,H7,rv,I7.unpinned,t1,t2,w7⟩
  | true=>
    rw [if_pos rfl] at q7
    refine wpAny_bind (wpAny_bind (wpAny_mono (he _ s7 σ6 H7 _ I7 q7) (fun y s8 ⟨yv,H8,I8,r8,m',hm,w8⟩=>?_) (fun _ _ z=>z.elim)))
    obtain ⟨t1,t2⟩:=again (us8:=us) (k8:=k) (ys8:=ys) I8
    obtain ⟨e8,n8,l8,f8,d8⟩:=I8.pin (acc,accObj us k) (List.mem_append_right _ (List.mem_append_left _ List.mem_cons_self))
    have hlen:=rv.length
    have hz':us.toArray.size≤sizeLine:=by rw [List.size_toArray];omega
    refine wpAny_bind (call_meets PySem.F.slot_list_append ⟨_,e8,rfl⟩ PySem.F.entry_list_append (PySem.F.args_list_append_2 _ _) (PySem.list_append acc us.toArray k y hz') ⟨e8,?_⟩)
    have q:=PySem.IsL.update e8 (fun z=>z.push y)
    have I9:Inv (cxComp X scope N' cl C s₂ H₂ fp) [] σ6 H8 s8:=I8.pins_of fun p hp=>(nomatch hp)
    have I10:=I9.turned (t':=s8.toks) (it:=acc) (h':=s8.heap.update acc (Obj.mapSeq fun z=>z.push y)) (fun b o hb e=>(Heap.get?_update_other s8.heap _ (Ne.symm hb)).trans e) n8 hacc.1 (.inr hacc.2.2.2) hacc.2.2.1 (fun p hp=>(nomatch hp))
    have e':(us.toArray.push y)=(us++[y]).toArray:=by simp
    rw [e'] at q
    obtain ⟨k9,ek⟩:∃ k9,k9=(if ((us++[y]).toArray.size == us.toArray.size)=true then k else k+1):=⟨_,rfl⟩
    rw [← ek] at q
    have I11:=I10.pins_of (pins':=[(acc,accObj (us++[y]) k9)]) fun p hp=>by
     obtain rfl:p=(acc,accObj (us++[y]) k9):=by simpa using hp
     exact ⟨q,n8,hacc.1,hacc.2.1,fun v z=>by cases z⟩
    refine wpAny_pure (wpAny_pure ⟨rfl,m',hm,i+1,ys++[yv],us++[y],k9,σ6,H8,rv.append (.cons r8 .nil),I11,T.keep _ _ _ t1 fun b hb o e=>?_,t2,w8⟩)
    exact (Heap.get?_update_other s8.heap _ (hfp b hb).2.2.2.symm).trans e
def tComp (wi:TI) (g:TG) (tt:TT) (te:TE) (k:Nat) (js:List Nat):TE:=fun σ H Q=>wi σ H fun J H1=>∃ W:Nat->Nat->List V->St->Hp->Prop,(∃ m,W 0 m [] (compSt k js σ) H1)/\
 CTurn J g tt te (fun ys H2=>ys.length≤sizeLine/\∀ p,H2 p=none->Q (.ref p) (upd H2 p (.lst ys))) W
section
variable {X:Cx} {scope:Scope} {own:List Str} {js:List Nat} {N':List Str} {wi:TI} {g:TG} {tt:TT} {te:TE} {elt tg iter:Expr} {ifs:List Expr} {pos:Pos}
theorem comp_run {pins:List (Addr×Obj)} {σ:St} {H:Hp} {s:Shared} {it:Addr} {fp:List Addr} {tn:Nat->Heap->Prop} {J:It} {cl:List (Str×Addr)} {F:List V->Hp->Prop} {E:Value->Shared->Prop} {RR:Value->Addr->Result->Shared->Prop}
 (S:CompScope X scope own js N') (hcalm:X.calm=true) (hg:∀ cl C s₀ H₀ ex,PG (cxComp X scope N' cl C s₀ H₀ ex) tg g) (hc:∀ cl C s₀ H₀ ex,PIfs (cxComp X scope N' cl C s₀ H₀ ex) ifs tt) (he:∀ cl C s₀ H₀ ex,PE (cxComp X scope N' cl C s₀ H₀ ex) elt te)
 (hc1:∀ x c,cl.lookup x=some c->X.env.cells.lookup x=some c) (hc2:∀ x,(x,NameKind.free)∈scope.names->∃ c,cl.lookup x=some c)
 (I:Inv X pins σ H s) (T:Turn X.prog X.w X.K tg J fp it tn) (st:tn 0 s.heap) (hf:∀ b∈fp,FpOk X pins H b) (W:Nat->Nat->List V->St->Hp->Prop) {m0:Nat} (w0:W 0 m0 [] (compSt own.length js σ) H) (turn:CTurn J g tt te F W)
 (hF:∀ ys H',F ys H'->ys.length≤sizeLine)
 (fin:∀ acc C H' ys s' m,Inv X pins σ (upd H' acc (.lst ys)) s'->H' acc=none->s'.heap.Ns C m->(upd H' acc (.lst ys)) C=none->C≠X.env.locals->X.s₀.heap.objs.size≤C->(∀ x c,X.env.cells.lookup x=some c->c≠C)->(∀ p∈X.pn++pins,p.1≠C)->F ys H'->RR (.ref acc) C (.ok .next) s') :
 wpAny (model X.prog X.w) X.A (newList []) (fun acc s₃=>wpAny (model X.prog X.w) X.A (newFunctionEnv scope X.env.globals cl [] X.env.qual none .none (some X.env)) (fun cenv s₄=>
  codeAny (model X.prog X.w) X.A (.compStart (.ListComp elt [⟨tg,iter,ifs,0⟩] scope pos) 0 (.ref it) acc { cenv with scope:=relabel scope X.env }) (RR acc cenv.locals) s₄) E s₃) E s:=by
 refine wpAny_newObj_type (wpAny_newFunctionEnv S.nocell (by intro y hy;simp at hy) (fun h₁ hns₁ hsb₁=>?_) S.kind)
 dsimp only at hns₁ hsb₁ ⊢
 generalize hH2:s.heap.push { cls:=.type "list",dict:=none,data:=.seq ([]:List Value).toArray }=H2 at hns₁ hsb₁ ⊢
 have hC:H2.objs.size=s.heap.objs.size+1:=by rw [← hH2,Heap.size_push]
 have hDC:s.heap.objs.size≠H2.objs.size:=by rw [hC];exact Nat.ne_of_lt (Nat.lt_succ_self _)
 have hCle:s.heap.objs.size≤H2.objs.size:=by rw [hC];exact Nat.le_succ _
 have below:∀ b,b<s.heap.objs.size->b≠H2.objs.size/\b≠s.heap.objs.size:=fun b hb=>⟨by rw [hC];exact Nat.ne_of_lt (Nat.lt_succ_of_lt hb),Nat.ne_of_lt hb⟩
 have old:∀ b o,s.heap.get? b=some o->h₁.get? b=some o:=fun b o e=>hsb₁.extBut b o (below b (Heap.lt_size e)).1 (Heap.get?_push_of_some _ (hH2 ▸ Heap.get?_push_of_some _ e))
 have hacc:h₁.get? s.heap.objs.size=some (accObj [] 0):=hsb₁.extBut _ _ hDC (Heap.get?_push_of_some _ (hH2 ▸ Heap.get?_push_size _ rfl))
 generalize hCn:H2.objs.size=C at *
 generalize hAn:s.heap.objs.size=acc at *
 have cellLt:∀ x c,X.env.cells.lookup x=some c->c<acc:=fun x c e=>by
  obtain ⟨v,q⟩:=I.cell x c e
  rw [← hAn];exact q.lt
 have pinLt:∀ p∈X.pn++pins,p.1<acc:=fun p hp=>by rw [← hAn];exact Heap.lt_size (I.pin p hp).1
 have stkLt:∀ b∈frs X.stack,b<acc:=fun b hb=>by
  obtain ⟨_,o,ho,_⟩:=I.stack.mem hb
  rw [← hAn];exact Heap.lt_size ho
 have fpLt:∀ b∈fp,b<acc:=fun b hb=>by
  obtain ⟨o,e,_⟩:=T.obj _ _ st b hb
  rw [← hAn];exact Heap.lt_size e
 have hHC:H C=none:=I.hok.fresh (by rw [hAn];exact hCle)
 have hHA:H acc=none:=I.hok.fresh (by rw [hAn];exact Nat.le_refl _)
 have I1:Inv (cxComp X scope N' cl C s H fp) [] (compSt own.length js σ) H { s with heap:=h₁,toks:=s.toks+([]:List (Str×Value)).length }:=
  Inv.comp S I hc1 hc2 (by rw [hAn];exact hCle) hns₁ old (fun b hb=>⟨hf b hb,by rw [hAn];exact fpLt b hb⟩) hHC fun b o e=>(below b (by rw [← hAn];exact Heap.lt_size e)).1
 have I2:Inv (cxComp X scope N' cl C s H fp) [(acc,accObj [] 0)] (compSt own.length js σ) H { s with heap:=h₁,toks:=s.toks+([]:List (Str×Value)).length }:=I1.pins_of fun p hp=>by
  obtain rfl:p=(acc,accObj [] 0):=by simpa using hp
  exact ⟨hacc,hHA,hDC,fun z=>absurd (stkLt acc z) (Nat.lt_irrefl _),fun v z=>by cases z⟩
 have st1:tn 0 h₁:=T.keep _ _ _ st fun b hb o e=>old b o e
 have loop:∀ s₃:Shared,s₃={ s with heap:=h₁,toks:=s.toks+([]:List (Str×Value)).length }->
  codeAny (model X.prog X.w) X.A (.compLoop (.ListComp elt [⟨tg,iter,ifs,0⟩] scope pos) 0 (.ref it) (.ref acc) (compEnvC scope cl C X.env)) (RR (.ref acc) C) s₃:=by
  rintro s₃ rfl
  refine comp_loop W turn T (hg _ _ _ _ _) (hc _ _ _ _ _) (he _ _ _ _ _) hcalm
   (fun b hb=>⟨(below b (fpLt b hb)).1,fun z=>?_,fun x c e z=>(hf b hb).2.2.2.2.1 x c (hc1 x c e) z,(below b (fpLt b hb)).2⟩)
   ⟨hDC,fun z=>absurd (stkLt acc z) (Nat.lt_irrefl _),fun x c e z=>absurd (cellLt x c (hc1 x c e)) (by rw [z];exact Nat.lt_irrefl _),by rw [hAn];exact Nat.le_refl _⟩ ?_ I2 st1 (fun b hb=>(hf b hb).1) w0
  ·rcases List.mem_cons.mp (I.stkSub b z) with q|q
   ·exact (hf b hb).2.1 q
   ·exact (hf b hb).2.2.1 q
  ·intro s' σ' H' ys us k J' rv q
   obtain ⟨e',n',l',f',d'⟩:=J'.pin (acc,accObj us k) (List.mem_append_right _ List.mem_cons_self)
   have n'':H' acc=none:=n'
   obtain ⟨m,hm,_⟩:=J'.loc
   have oldLt:∀ b o,s.heap.get? b=some o->b<acc:=fun b o e=>by rw [← hAn];exact Heap.lt_size e
   have neA:∀ b o,s.heap.get? b=some o->b≠acc:=fun b o e=>Nat.ne_of_lt (oldLt b o e)
   have un:Un (frs X.stack) fp H (upd H' acc (.lst ys)) s.heap s'.heap:=⟨J'.base.keep,J'.base.slot,fun b o e n hx=>by rw [upd_ne (neA b o e)];exact J'.base.free b o e n hx,J'.base.there,
    fun b xs e=>by
     have z:=J'.base.tups b xs e
     rw [upd_ne (ne_of_none z n'')];exact z,
    fun b o u e=>by
     have z:=J'.base.frzs b o u e
     rw [upd_ne (ne_of_none z n'')];exact z,
    fun b ps e=>by
     obtain ⟨more,z⟩:=J'.base.tbls b ps e
     exact ⟨more,by rw [upd_ne (ne_of_none z n'')];exact z⟩⟩
   have hok:HOk X.prog X.w (upd H' acc (.lst ys)) s'.heap:=fun b u e=>by
    by_cases hb:b=acc
    ·subst hb
     rw [upd_same] at e;cases e
     exact ⟨hF _ _ q,us,k,rv,e'⟩
    ·rw [upd_ne hb] at e
     exact (J'.hok b u e).stay (fun c v _ z=>z) (fun c z=>by rw [upd_ne (ne_of_none z n'')];exact z) fun c xs z=>by rw [upd_ne (ne_of_none z n'')];exact z
   have IX:Inv X pins σ (upd H' acc (.lst ys)) s':=I.call' J'.os un hok J'.bare fun b hb=>⟨(hf b hb).2.2.2.1,(hf b hb).2.1,(hf b hb).2.2.2.2.1,(hf b hb).2.2.2.2.2⟩
   refine fin acc C H' ys s' m IX n'' hm ?_ ?_ ?_ ?_ ?_ q
   ·rw [upd_ne (Ne.symm hDC)];exact J'.free
   ·exact Nat.ne_of_gt (Nat.lt_of_lt_of_le I.lt (by rw [hAn];exact hCle))
   ·exact Nat.le_trans I.sz (by rw [hAn];exact hCle)
   ·exact fun x c e z=>absurd (Nat.lt_of_lt_of_le (cellLt x c e) hCle) (by rw [z];exact Nat.lt_irrefl _)
   ·exact fun p hp z=>absurd (Nat.lt_of_lt_of_le (pinLt p hp) hCle) (by rw [z];exact Nat.lt_irrefl _)
 exact codeAny_compStart_list (loop _ rfl) (T.self _ 0 _ _ _ st1 (loop _ rfl))
theorem pe_comp (S:CompScope X scope own js N') (hcalm:X.calm=true) (hi:PI X tg iter wi) (hg:∀ cl C s₀ H₀ ex,PG (cxComp X scope N' cl C s₀ H₀ ex) tg g) (hc:∀ cl C s₀ H₀ ex,PIfs (cxComp X scope N' cl C s₀ H₀ ex) ifs tt)
 (he:∀ cl C s₀ H₀ ex,PE (cxComp X scope N' cl C s₀ H₀ ex) elt te) (hs:∀ x,foldedSetIterable iter X.env x=pure x:=by intro _;rfl):PE X (.ListComp elt [⟨tg,iter,ifs,0⟩] scope pos) (tComp wi g tt te own.length js):=by
 intro pins s σ H Q I h
 obtain ⟨cl,hcl,hc1,hc2⟩:=closure_ok (env:=X.env) scope fun y hy hk=>I.ok.has y.1 (S.free y hy hk)
 rw [eval_ListComp]
 refine wpAny_comprehension_free (use:=none) rfl hs hcl S.kind S.names (thn (hi pins s σ H _ I h) fun v s1 h1=>thn h1 fun itv s2 h2=>?_)
 obtain ⟨it,fp,tn,J,H2,e,I2,T,st2,f2,W,⟨m0,w0⟩,turn⟩:=h2
 subst e
 refine comp_run (RR:=fun acc C=>compPost (model X.prog X.w) X.A X.xe none (EP X pins σ Q) acc C) S hcalm hg hc he hc1 hc2 I2 T st2 f2 W w0 turn (fun ys H' q=>q.1) ?_
 intro acc C H' ys s' m IX na hm hCn hL hz hcn hpn q
 refine ⟨m,hm,fun h' hs'=>⟨.ref acc,_,?_,rfl,q.2 acc na⟩⟩
 exact IX.turned (t':=s'.toks) (it:=C) (fun b o hb e=>(hs'.2 b hb).trans e) hCn hL (.inr hz) hcn hpn
theorem ps_setComp {i:Nat} {x:Str} {pos' spos:Pos} (S:CompScope X scope own js N') (hcalm:X.calm=true) (hN:X.N.Nodup) (hx:X.N[i]?=some x) (hk:X.env.scope.names.lookup x=some .local) (hi:PI X tg iter wi) (hg:∀ cl C s₀ H₀ ex,PG (cxComp X scope N' cl C s₀ H₀ ex) tg g) (hc:∀ cl C s₀ H₀ ex,PIfs (cxComp X scope N' cl C s₀ H₀ ex) ifs tt)
 (he:∀ cl C s₀ H₀ ex,PE (cxComp X scope N' cl C s₀ H₀ ex) elt te) (hsw:swapsWith (.ListComp elt [⟨tg,iter,ifs,0⟩] scope pos) (some (.Name x pos')) spos.line X.env=pure true:=by rfl) (hs:∀ x,foldedSetIterable iter X.env x=pure x:=by intro _;rfl) :
 PS X (.Assign [.Name x pos'] (.ListComp elt [⟨tg,iter,ifs,0⟩] scope pos) spos) (tAsg (tComp wi g tt te own.length js) (gName i)):=by
 intro pins s σ H D I h
 obtain ⟨cl,hcl,hc1,hc2⟩:=closure_ok (env:=X.env) scope fun y hy hk=>I.ok.has y.1 (S.free y hy hk)
 rw [exec_Assign_Name_used _ _ _ _ hsw]
 refine wpAny_bind (wpAny_standAt (wpAny_bind ?_))
 show wpAny _ X.A (do let _ ← comprehension (.ListComp elt [⟨tg,iter,ifs,0⟩] scope pos) scope X.env _ (newList []) false (eval iter X.env) (some (assign (.Name x pos') X.env))) _ _ s
 refine wpAny_bind (wpAny_mono (wpAny_comprehension_free (use:=some (assign (.Name x pos') X.env)) (Q:=fun _ s'=>SP X pins D .next s') rfl hs hcl S.kind S.names
  (thn (hi pins s σ H _ I h) fun v s1 h1=>thn h1 fun itv s2 h2=>?_)) (fun _ s' hq=>wpAny_pure (wpAny_pure hq)) fun _ _ e=>e)
 obtain ⟨it,fp,tn,J,H2,e,I2,T,st2,f2,W,⟨m0,w0⟩,turn⟩:=h2
 subst e
 refine comp_run (RR:=fun acc C=>compPost (model X.prog X.w) X.A X.xe (some (assign (.Name x pos') X.env)) (fun _ s'=>SP X pins D .next s') acc C) S hcalm hg hc he hc1 hc2 I2 T st2 f2 W w0 turn (fun ys H' q=>q.1) ?_
 intro acc C H' ys s' m IX na hm hCn hL hz hcn hpn q
 show wpAny _ X.A (assign (.Name x pos') X.env (.ref acc)) _ _ s'
 refine wpAny_assign_Name (store_ok2 IX hN hx (.inl hk) (v:=.ref acc) rfl (fun s'' I'' hsb=>?_) (.inr hk))
 obtain ⟨a,hsb,ha⟩:=hsb
 have haC:C≠a:=by
  rcases ha with z|z
  ·rw [z];exact hL
  ·exact fun q=>hcn x a z q.symm
 refine ⟨m,hm.sameBut hsb haC,fun h' hs'=>⟨_,_,?_,q.2 acc na⟩⟩
 exact I''.turned (t':=s''.toks) (it:=C) (fun b o hb e=>(hs'.2 b hb).trans e) hCn hL (.inr hz) hcn hpn
end
section
variable {X:Cx}
def CDivW (i j:Int):Prop:=0<j/\j<340282366920938463463374607431768211456
theorem op_fdivW:OpR X (binaryOp .FloorDiv) (rI CDivW fun i j=>.int (i / j)):=opI fun i j _ _ _ _ _ hc q=>by
 rw [← Int.fdiv_eq_ediv_of_nonneg i (Int.le_of_lt hc.1)] at q
 have h1:(0:Int)<j:=hc.1
 have h2:j<340282366920938463463374607431768211456:=hc.2
 have hb:j.natAbs<340282366920938463463374607431768211456:=by omega
 have he:(2:Nat) ^ 128=340282366920938463463374607431768211456:=by decide +kernel
 have hl:j.natAbs.log2<128:=(Nat.log2_lt (by omega)).mpr (Nat.lt_of_lt_of_eq hb he.symm)
 exact floordiv_int (by have:=hc.1;omega) q (.inl (PyProof.noPylong_of_log2 (by omega)))
theorem comp_range {lo:Int} {n:Nat} {g:TG} {te:TE} {F:List V->Hp->Prop} {σ0:St} {H0:Hp} (Pv:Nat->List V->St->Hp->Prop) (hn:n≤sizeLine) (h0:Pv 0 [] σ0 H0)
 (hs:∀ i ys σ H,i<n->ys.length=i->Pv i ys σ H->∀ N:List V->St->Hp->Prop,(∀ ys' σ' H',ys'.length=i+1->Pv (i+1) ys' σ' H'->N ys' σ' H')->g (.int (lo+i)) σ H fun σ2 H2=>te σ2 H2 fun y H3=>N (ys++[y]) σ2 H3)
 (hd:∀ ys σ H,ys.length=n->Pv n ys σ H->F ys H) :
 ∃ W:Nat->Nat->List V->St->Hp->Prop,(∃ m,W 0 m [] σ0 H0)/\CTurn (Itr lo n) g tYes te F W:=by
 refine ⟨fun i m ys σ H=>m=n-i/\i≤n/\ys.length=i/\Pv i ys σ H,⟨n,by simp,Nat.zero_le _,rfl,h0⟩,?_⟩
 rintro i m ys σ H ⟨rfl,hi,hl,p⟩
 by_cases hlt:i<n
 ·refine .inr ⟨hlt,by omega,fun x H' y=>?_⟩
  obtain ⟨e,y⟩:=y
  subst e y
  exact hs i ys σ _ hlt hl p (fun ys' σ' H'=>∃ m',m'<n-i/\m'=n-(i+1)/\i+1≤n/\ys'.length=i+1/\Pv (i+1) ys' σ' H') fun ys' σ' H' hl' q=>⟨n-(i+1),by omega,rfl,hlt,hl',q⟩
 ·have e:i=n:=by omega
  subst e
  exact .inl ⟨Nat.le_refl _,hd ys σ H hl p⟩
theorem comp_list {K:PySem.W.Frag} {a:Addr} {xs:List V} {g:TG} {te:TE} {F:List V->Hp->Prop} {σ0:St} {H0:Hp} (Pv:Nat->List V->St->Hp->Prop) (hn:xs.length≤sizeLine) (h0:Pv 0 [] σ0 H0) (hq:∀ i ys σ H,i≤xs.length->Pv i ys σ H->SqL K H a xs)
 (hs:∀ i x ys σ H,xs[i]?=some x->ys.length=i->Pv i ys σ H->∀ N:List V->St->Hp->Prop,(∀ ys' σ' H',ys'.length=i+1->Pv (i+1) ys' σ' H'->N ys' σ' H')->g x σ H fun σ2 H2=>te σ2 H2 fun y H3=>N (ys++[y]) σ2 H3)
 (hd:∀ ys σ H,ys.length=xs.length->Pv xs.length ys σ H->F ys H) :
 ∃ W:Nat->Nat->List V->St->Hp->Prop,(∃ m,W 0 m [] σ0 H0)/\CTurn (Itl K a) g tYes te F W:=by
 refine ⟨fun i m ys σ H=>m=xs.length-i/\i≤xs.length/\ys.length=i/\Pv i ys σ H,⟨xs.length,by simp,Nat.zero_le _,rfl,h0⟩,?_⟩
 rintro i m ys σ H ⟨rfl,hi,hl,p⟩
 have q:=hq i ys σ H hi p
 by_cases hlt:i<xs.length
 ·refine .inr ⟨⟨xs,xs[i],q,by simp [hlt]⟩,by omega,fun x H' y=>?_⟩
  obtain ⟨e,y⟩:=y
  subst e
  exact hs i x ys σ _ (y xs q) hl p (fun ys' σ' H'=>∃ m',m'<xs.length-i/\m'=xs.length-(i+1)/\i+1≤xs.length/\ys'.length=i+1/\Pv (i+1) ys' σ' H') fun ys' σ' H' hl' q=>⟨xs.length-(i+1),by omega,rfl,hlt,hl',q⟩
 ·have e:i=xs.length:=by omega
  subst e
  exact .inl ⟨⟨xs,q,Nat.le_refl _⟩,hd ys σ H hl p⟩
structure Def (K:PySem.W.Frag) (mg:Str->Option Value) (x:Str) (st:Stmt) (ps:List Str) (f:Addr) (fd:FuncData):Prop where
 F:Fun K x x st f fd
 mg:mg x=some (.ref f)
 b:Binds K fd ps []
def But (p:Addr) (H H':Hp):Prop:=∀ b o,H b=some o->b≠p->H' b=some o
theorem But.refl {p:Addr} {H:Hp}:But p H H:=fun _ _ h _=>h
theorem But.trans {p:Addr} {H H1 H2:Hp} (a:But p H H1) (b:But p H1 H2):But p H H2:=fun c o h hc=>b c o (a c o h hc) hc
theorem But.upd {p:Addr} {H:Hp} {o:HO}:But p H (upd H p o):=fun b u h hb=>by rw [upd_ne hb];exact h
theorem But.new {p q:Addr} {H:Hp} {o:HO} (h:H q=none):But p H (L2.upd H q o):=fun b u e _=>by rw [upd_ne (ne_of_none e h)];exact e
end
theorem seq_by {t u:TS} {D:Ends} {σ:St} {H:Hp} (M:St->Hp->Prop) (h2:∀ σ' H',M σ' H'->u D σ' H') (h1:∀ N:St->Hp->Prop,(∀ σ' H',M σ' H'->N σ' H')->t { D with nx:=N } σ H):tSeq t u D σ H:=h1 (u D) h2
theorem Same.new {H:Hp} {q:Addr} {o:HO} (h:H q=none):Same H (upd H q o):=fun b u e=>by rw [upd_ne (ne_of_none e h)];exact e
theorem Same.tup {K:PySem.W.Frag} {H H':Hp} {a:Addr} {xs:List V} (e:Same H H') (h:SqT K H a xs):SqT K H' a xs:=by
 rcases h with (h|⟨o,h⟩)|h
 ·exact .inl (.inl (e _ _ h))
 ·exact .inl (.inr ⟨o,e _ _ h⟩)
 ·exact .inr h
theorem bt_len:bootBuiltins "len" = some (.builtin "len"):=by decide +kernel
theorem bt_list:bootBuiltins "list" = some (.type "list"):=by decide +kernel
theorem bt_tuple:bootBuiltins "tuple" = some (.type "tuple"):=by decide +kernel
theorem bt_str:bootBuiltins "str" = some (.type "str"):=by decide +kernel
theorem bt_int:bootBuiltins "int" = some (.type "int"):=by decide +kernel
theorem bt_bool:bootBuiltins "bool" = some (.type "bool"):=by decide +kernel
theorem bt_all:bootBuiltins "all" = some (.builtin "all"):=by decide +kernel
theorem bt_any:bootBuiltins "any" = some (.builtin "any"):=by decide +kernel
theorem bt_isinstance:bootBuiltins "isinstance" = some (.builtin "isinstance"):=by decide +kernel
theorem bt_sum:bootBuiltins "sum" = some (.builtin "sum"):=by decide +kernel
theorem bt_sorted:bootBuiltins "sorted" = some (.builtin "sorted"):=by decide +kernel
end L2
namespace L2
open PySem PySem.Spec PyProof.Rows PySem.SeqAt
mutual
inductive Rep (K:PySem.W.Frag) (H:Hp):V->PyData->Prop
 |non:Rep K H .non .none
 |bl (b:Bool):Rep K H (.bl b) (.bool b)
 |int (i:Int):Rep K H (.int i) (.int i)
 |str (x:Str):Rep K H (.str x) (.str x)
 |tup {a:Addr} {xs:List V} {ds:List PyData}:SqT K H a xs->Reps K H xs ds->Rep K H (.ref a) (.tuple ds)
 |lst {a:Addr} {xs:List V} {ds:List PyData}:SqL K H a xs->Reps K H xs ds->Rep K H (.ref a) (.list ds)
inductive Reps (K:PySem.W.Frag) (H:Hp):List V->List PyData->Prop
 |nil:Reps K H [] []
 |cons {x:V} {d:PyData} {xs:List V} {ds:List PyData}:Rep K H x d->Reps K H xs ds->Reps K H (x::xs) (d::ds)
end
section
variable {K:PySem.W.Frag} {H H':Hp}
theorem Reps.length:∀ {xs:List V} {ds:List PyData},Reps K H xs ds->xs.length=ds.length
 |_,_,.nil=>rfl
 |_,_,.cons _ t=>by rw [List.length_cons,List.length_cons,Reps.length t]
mutual
theorem Rep.map (f1:∀ a xs,SqT K H a xs->SqT K H' a xs) (f2:∀ a xs,SqL K H a xs->SqL K H' a xs):∀ {v:V} {d:PyData},Rep K H v d->Rep K H' v d
 |_,_,.non=>.non
 |_,_,.bl b=>.bl b
 |_,_,.int i=>.int i
 |_,_,.str x=>.str x
 |_,_,.tup h r=>.tup (f1 _ _ h) (Reps.map f1 f2 r)
 |_,_,.lst h r=>.lst (f2 _ _ h) (Reps.map f1 f2 r)
theorem Reps.map (f1:∀ a xs,SqT K H a xs->SqT K H' a xs) (f2:∀ a xs,SqL K H a xs->SqL K H' a xs):∀ {v:List V} {d:List PyData},Reps K H v d->Reps K H' v d
 |_,_,.nil=>.nil
 |_,_,.cons h r=>.cons (Rep.map f1 f2 h) (Reps.map f1 f2 r)
end
theorem Rep.same {v:V} {d:PyData} (h:Rep K H v d) (e:Same H H'):Rep K H' v d:=h.map (fun _ _ z=>e.tup z) (fun _ _ z=>e.seq z)
theorem But.seq {p a:Addr} {xs:List V} {kvs:List (Key×V)} (e:But p H H') (hp:H p=some (.dK kvs)) (h:SqL K H a xs):SqL K H' a xs:=by
 rcases h with (h|⟨o,h⟩)|h
 ·exact .inl (.inl (e _ _ h (ne_of h hp (by intro z;cases z))))
 ·exact .inl (.inr ⟨o,e _ _ h (ne_of h hp (by intro z;cases z))⟩)
 ·exact .inr h
theorem Reps.get':∀ {xs:List V} {ds:List PyData} {i:Nat} {x:V},Reps K H xs ds->xs[i]?=some x->∃ d,ds[i]?=some d/\Rep K H x d
 |_,_,_,_,.nil,e=>by simp at e
 |_,_,0,_,.cons r _,e=>by simp at e;subst e;exact ⟨_,rfl,r⟩
 | _,_,i+1,d,.cons _ t,e=>by
   obtain ⟨u,h1,h2⟩:=Reps.get' (i:=i) (x:=d) t (by simpa using e)
   exact ⟨u,by simpa using h1,h2⟩
end
section
variable {X:Cx} {pins:List (Addr×Obj)} {σ:St} {H:Hp} {s:Shared}
end
mutual
def pdEq:PyData->PyData->Bool
 |.none,.none=>true
 |.bool a,.bool b=>a == b
 |.bool a,.int b=>(if a then 1 else 0) == b
 |.int a,.bool b=>a == (if b then 1 else 0)
 |.int a,.int b=>a == b
 |.str a,.str b=>a == b
 |.tuple a,.tuple b=>pdEqs a b
 |.list a,.list b=>pdEqs a b
 |_,_=>false
def pdEqs:List PyData->List PyData->Bool
 |[],[]=>true
 |a::r,b::t=>pdEq a b && pdEqs r t
 |_,_=>false
end
theorem pdEqs_iff:∀ (ds es:List PyData),pdEqs ds es=((List.range (min ds.length es.length)).all (fun j=>pdEq (ds.getD j .none) (es.getD j .none)) && ds.length == es.length)
 |[],[]=>by simp [pdEqs]
 |[],_::_=>by simp [pdEqs]
 |_::_,[]=>by simp [pdEqs]
 | a::r,b::t=>by
   rw [pdEqs,pdEqs_iff r t,List.length_cons,List.length_cons,Nat.succ_min_succ,List.range_succ_eq_map,List.all_cons,List.all_map]
   simp only [List.getD_cons_zero,Bool.and_assoc]
   congr 1
   have e:(r.length+1 == t.length+1)=(r.length == t.length):=by
    rw [Bool.eq_iff_iff];simp
   rw [e]
   congr 1
mutual
def pdDep:PyData->Nat
 |.tuple xs=>pdDeps xs+1
 |.list xs=>pdDeps xs+1
 |_=>0
def pdDeps:List PyData->Nat
 |[]=>0
 |d::r=>max (pdDep d) (pdDeps r)
end
section
variable {X:Cx} {pins:List (Addr×Obj)} {σ:St} {H:Hp} {s:Shared}
mutual
theorem Rep.fn (I:Inv X pins σ H s):∀ {v:V} {d e:PyData} {u:Value},Rep X.K H v d->Rep X.K H v e->RelV v u->d=e/\pdEq d d=true
 |_,_,_,_,.non,.non,_=>⟨rfl,rfl⟩
 |_,_,_,_,.bl b,.bl _,_=>⟨rfl,by simp [pdEq]⟩
 |_,_,_,_,.int i,.int _,_=>⟨rfl,by simp [pdEq]⟩
 |_,_,_,_,.str x,.str _,_=>⟨rfl,by simp [pdEq]⟩
 | _,_,_,_,.tup h1 r1,.tup h2 r2,r=>by
   have e:=I.tuple_inj h1 h2
   subst e
   obtain ⟨its,rv,_,_⟩:=I.tuple h1
   obtain ⟨e,q⟩:=Reps.fn I r1 r2 rv
   exact ⟨by rw [e],q⟩
 | _,_,_,_,.lst h1 r1,.lst h2 r2,r=>by
   have e:=I.list_inj h1 h2
   subst e
   obtain ⟨its,rv,_,_⟩:=I.list h1
   obtain ⟨e,q⟩:=Reps.fn I r1 r2 rv
   exact ⟨by rw [e],q⟩
 | _,_,_,_,.tup h1 _,.lst h2 _,r=>by
   obtain ⟨_,_,⟨o,e1,c1,_⟩,_⟩:=I.tuple h1
   obtain ⟨_,_,⟨o',n,e2,c2,_⟩,_⟩:=I.list h2
   rw [e1] at e2;cases e2
   rw [c1] at c2;injection c2 with z;exact absurd z (by decide)
 | _,_,_,_,.lst h2 _,.tup h1 _,r=>by
   obtain ⟨_,_,⟨o,e1,c1,_⟩,_⟩:=I.tuple h1
   obtain ⟨_,_,⟨o',n,e2,c2,_⟩,_⟩:=I.list h2
   rw [e1] at e2;cases e2
   rw [c1] at c2;injection c2 with z;exact absurd z (by decide)
theorem Reps.fn (I:Inv X pins σ H s):∀ {v:List V} {d e:List PyData} {u:List Value},Reps X.K H v d->Reps X.K H v e->Vals v u->d=e/\pdEqs d d=true
 |_,_,_,_,.nil,.nil,_=>⟨rfl,rfl⟩
 | _,_,_,_,.cons a b,.cons c d,.cons r rs=>by
   obtain ⟨e1,q1⟩:=Rep.fn I a c r
   obtain ⟨e2,q2⟩:=Reps.fn I b d rs
   exact ⟨by rw [e1,e2],by simp [pdEqs,q1,q2]⟩
end
theorem allEq {vs ws:List V} {ds es:List PyData} {us xs:List Value} {A:Around} (rs1:Reps X.K H vs ds) (rs2:Reps X.K H ws es) (rv1:Vals vs us) (rv2:Vals ws xs) :
 ((List.range (min us.toArray.size xs.toArray.size)).all (fun j=>pdEq (ds.getD j .none) (es.getD j .none)) && us.toArray.size == xs.toArray.size)=pdEqs ds es:=by
 rw [pdEqs_iff,List.size_toArray,List.size_toArray,← rv1.length,← rv2.length,rs1.length,rs2.length]
theorem rcT {l b:Addr} {vs ws:List V} {ds es:List PyData} {us xs:List Value} {A:Around} (rs1:Reps X.K H vs ds) (rs2:Reps X.K H ws es) (rv1:Vals vs us) (rv2:Vals ws xs) (p1:IsTup s.heap l us.toArray) (p2:IsTup s.heap b xs.toArray) (hu:A.units<cLine)
 (he:∀ j (h1:j<us.length) (h2:j<xs.length),EqAt A.in1 s us[j] xs[j] (pdEq (ds.getD j .none) (es.getD j .none))):RcAt A s (.ref l) (.ref b) (pdEq (.tuple ds) (.tuple es)):=by
 show RcAt A s (.ref l) (.ref b) (pdEqs ds es)
 rw [← allEq (A:=A) rs1 rs2 rv1 rv2]
 exact RcAt.tuples (show s.heap.IsTuple l us.toArray from p1) (show s.heap.IsTuple b xs.toArray from p2) hu fun j h1 h2=>by simpa using he j (by simpa using h1) (by simpa using h2)
theorem rcL {l b:Addr} {vs ws:List V} {ds es:List PyData} {us xs:List Value} {A:Around} (rs1:Reps X.K H vs ds) (rs2:Reps X.K H ws es) (rv1:Vals vs us) (rv2:Vals ws xs) (p1:s.heap.IsList l us.toArray) (p2:s.heap.IsList b xs.toArray) (hu:A.units<cLine)
 (he:∀ j (h1:j<us.length) (h2:j<xs.length),EqAt A.in1 s us[j] xs[j] (pdEq (ds.getD j .none) (es.getD j .none))):RcAt A s (.ref l) (.ref b) (pdEq (.list ds) (.list es)):=by
 show RcAt A s (.ref l) (.ref b) (pdEqs ds es)
 have q:=allEq (A:=A) rs1 rs2 rv1 rv2
 by_cases hz:us.toArray.size=xs.toArray.size
 ·rw [← q,hz,Nat.min_self,beq_self_eq_true,Bool.and_true,← hz]
  exact RcAt.lists p1 p2 hz hu fun j h1 h2=>by simpa using he j (by simpa using h1) (by simpa using h2)
 ·have e:pdEqs ds es=false:=by
   rw [← q]
   have:(us.toArray.size == xs.toArray.size)=false:=by simpa using hz
   rw [this,Bool.and_false]
  rw [e]
  exact RcAt.lists_lengths p1 p2 (by simpa using hz) hu
theorem eqT (I:Inv X pins σ H s) {l b:Addr} {vs ws:List V} {ds es:List PyData} {us xs:List Value} {A:Around} (h1:SqT X.K H l vs) (h2:SqT X.K H b ws) (rs1:Reps X.K H vs ds) (rs2:Reps X.K H ws es) (rv1:Vals vs us) (rv2:Vals ws xs) (p1:IsTup s.heap l us.toArray) (p2:IsTup s.heap b xs.toArray) (hu:A.units<cLine)
 (he:∀ j (h1:j<us.length) (h2:j<xs.length),EqAt A.in1 s us[j] xs[j] (pdEq (ds.getD j .none) (es.getD j .none))):EqAt A s (.ref l) (.ref b) (pdEq (.tuple ds) (.tuple es)):=by
 by_cases hlb:l=b
 ·subst hlb
  obtain ⟨e,q⟩:=Rep.fn I (.tup h1 rs1) (.tup h2 rs2) (u:=.ref l) rfl
  rw [← e,q]
  exact EqAt.same _
 ·exact EqAt.of_refs hlb (rcT rs1 rs2 rv1 rv2 p1 p2 hu he)
theorem eqL (I:Inv X pins σ H s) {l b:Addr} {vs ws:List V} {ds es:List PyData} {us xs:List Value} {A:Around} (h1:SqL X.K H l vs) (h2:SqL X.K H b ws) (rs1:Reps X.K H vs ds) (rs2:Reps X.K H ws es) (rv1:Vals vs us) (rv2:Vals ws xs) (p1:s.heap.IsList l us.toArray) (p2:s.heap.IsList b xs.toArray) (hu:A.units<cLine)
 (he:∀ j (h1:j<us.length) (h2:j<xs.length),EqAt A.in1 s us[j] xs[j] (pdEq (ds.getD j .none) (es.getD j .none))):EqAt A s (.ref l) (.ref b) (pdEq (.list ds) (.list es)):=by
 by_cases hlb:l=b
 ·subst hlb
  obtain ⟨e,q⟩:=Rep.fn I (.lst h1 rs1) (.lst h2 rs2) (u:=.ref l) rfl
  rw [← e,q]
  exact EqAt.same _
 ·exact EqAt.of_refs hlb (rcL rs1 rs2 rv1 rv2 p1 p2 hu he)
theorem hu00 {A:Around} {n:Nat} (h:A.units+n<cLine):A.units<cLine:=by omega
theorem hu0 {A:Around} {n:Nat} (h:A.units+(n+1)<cLine):A.units<cLine:=by omega
theorem hu1 {A:Around} {n:Nat} (h:A.units+(n+1)<cLine):A.in1.units+n<cLine:=by show A.units+1+n<cLine;omega
mutual
theorem eq_at (I:Inv X pins σ H s):∀ {v w:V} {d e:PyData} {u x:Value} {A:Around},Rep X.K H v d->Rep X.K H w e->RelV v u->RelV w x->A.units+pdDep d<cLine->EqAt A s u x (pdEq d e)
 | _,_,_,_,u,x,A,.non,.non,r1,r2,hu=>by
   cases (show u=Value.none from r1)
   cases (show x=Value.none from r2)
   exact EqAt.same _
 | _,_,_,_,u,x,A,.non,.bl b2,r1,r2,hu=>by
   cases (show u=Value.none from r1)
   cases (show x=Value.bool b2 from r2)
   exact EqAt.none_bool b2
 | _,_,_,_,u,x,A,.non,.int i2,r1,r2,hu=>by
   cases (show u=Value.none from r1)
   obtain ⟨t2,e2⟩:=(show ∃ t,x=Value.int i2 t from r2);subst e2
   exact EqAt.none_int i2 t2
 | _,_,_,_,u,x,A,.non,.str y2,r1,r2,hu=>by
   cases (show u=Value.none from r1)
   obtain ⟨t2,e2⟩:=(show ∃ t,x=Value.str y2 t from r2);subst e2
   exact EqAt.none_str y2 t2
 | _,_,_,_,u,x,A,.non,.lst h2 rs2,r1,r2,hu=>by
   cases (show u=Value.none from r1)
   cases (show x=Value.ref _ from r2);obtain ⟨its2,rv2,p2,_⟩:=I.list h2
   exact EqAt.none_list p2.isList (hu00 hu)
 | _,_,_,_,u,x,A,.non,.tup h2 rs2,r1,r2,hu=>by
   cases (show u=Value.none from r1)
   cases (show x=Value.ref _ from r2);obtain ⟨its2,rv2,p2,_⟩:=I.tuple h2
   exact EqAt.none_tuple p2 (hu00 hu)
 | _,_,_,_,u,x,A,.bl b1,.non,r1,r2,hu=>by
   cases (show u=Value.bool b1 from r1)
   cases (show x=Value.none from r2)
   exact EqAt.bool_none b1
 | _,_,_,_,u,x,A,.bl b1,.bl b2,r1,r2,hu=>by
   cases (show u=Value.bool b1 from r1)
   cases (show x=Value.bool b2 from r2)
   exact EqAt.bool_bool b1 b2
 | _,_,_,_,u,x,A,.bl b1,.int i2,r1,r2,hu=>by
   cases (show u=Value.bool b1 from r1)
   obtain ⟨t2,e2⟩:=(show ∃ t,x=Value.int i2 t from r2);subst e2
   exact EqAt.bool_int b1 i2 t2
 | _,_,_,_,u,x,A,.bl b1,.str y2,r1,r2,hu=>by
   cases (show u=Value.bool b1 from r1)
   obtain ⟨t2,e2⟩:=(show ∃ t,x=Value.str y2 t from r2);subst e2
   exact EqAt.bool_str b1 y2 t2
 | _,_,_,_,u,x,A,.bl b1,.lst h2 rs2,r1,r2,hu=>by
   cases (show u=Value.bool b1 from r1)
   cases (show x=Value.ref _ from r2);obtain ⟨its2,rv2,p2,_⟩:=I.list h2
   exact EqAt.bool_list b1 p2.isList (hu00 hu)
 | _,_,_,_,u,x,A,.bl b1,.tup h2 rs2,r1,r2,hu=>by
   cases (show u=Value.bool b1 from r1)
   cases (show x=Value.ref _ from r2);obtain ⟨its2,rv2,p2,_⟩:=I.tuple h2
   exact EqAt.bool_tuple b1 p2 (hu00 hu)
 | _,_,_,_,u,x,A,.int i1,.non,r1,r2,hu=>by
   obtain ⟨t1,e1⟩:=(show ∃ t,u=Value.int i1 t from r1);subst e1
   cases (show x=Value.none from r2)
   exact EqAt.int_none i1 t1
 | _,_,_,_,u,x,A,.int i1,.bl b2,r1,r2,hu=>by
   obtain ⟨t1,e1⟩:=(show ∃ t,u=Value.int i1 t from r1);subst e1
   cases (show x=Value.bool b2 from r2)
   exact EqAt.int_bool i1 t1 b2
 | _,_,_,_,u,x,A,.int i1,.int i2,r1,r2,hu=>by
   obtain ⟨t1,e1⟩:=(show ∃ t,u=Value.int i1 t from r1);subst e1
   obtain ⟨t2,e2⟩:=(show ∃ t,x=Value.int i2 t from r2);subst e2
   exact EqAt.int_int i1 t1 i2 t2
 | _,_,_,_,u,x,A,.int i1,.str y2,r1,r2,hu=>by
   obtain ⟨t1,e1⟩:=(show ∃ t,u=Value.int i1 t from r1);subst e1
   obtain ⟨t2,e2⟩:=(show ∃ t,x=Value.str y2 t from r2);subst e2
   exact EqAt.int_str i1 t1 y2 t2
 | _,_,_,_,u,x,A,.int i1,.lst h2 rs2,r1,r2,hu=>by
   obtain ⟨t1,e1⟩:=(show ∃ t,u=Value.int i1 t from r1);subst e1
   cases (show x=Value.ref _ from r2);obtain ⟨its2,rv2,p2,_⟩:=I.list h2
   exact EqAt.int_list i1 t1 p2.isList (hu00 hu)
 | _,_,_,_,u,x,A,.int i1,.tup h2 rs2,r1,r2,hu=>by
   obtain ⟨t1,e1⟩:=(show ∃ t,u=Value.int i1 t from r1);subst e1
   cases (show x=Value.ref _ from r2);obtain ⟨its2,rv2,p2,_⟩:=I.tuple h2
   exact EqAt.int_tuple i1 t1 p2 (hu00 hu)
 | _,_,_,_,u,x,A,.str y1,.non,r1,r2,hu=>by
   obtain ⟨t1,e1⟩:=(show ∃ t,u=Value.str y1 t from r1);subst e1
   cases (show x=Value.none from r2)
   exact EqAt.str_none y1 t1
 | _,_,_,_,u,x,A,.str y1,.bl b2,r1,r2,hu=>by
   obtain ⟨t1,e1⟩:=(show ∃ t,u=Value.str y1 t from r1);subst e1
   cases (show x=Value.bool b2 from r2)
   exact EqAt.str_bool y1 t1 b2
 | _,_,_,_,u,x,A,.str y1,.int i2,r1,r2,hu=>by
   obtain ⟨t1,e1⟩:=(show ∃ t,u=Value.str y1 t from r1);subst e1
   obtain ⟨t2,e2⟩:=(show ∃ t,x=Value.int i2 t from r2);subst e2
   exact EqAt.str_int y1 t1 i2 t2
 | _,_,_,_,u,x,A,.str y1,.str y2,r1,r2,hu=>by
   obtain ⟨t1,e1⟩:=(show ∃ t,u=Value.str y1 t from r1);subst e1
   obtain ⟨t2,e2⟩:=(show ∃ t,x=Value.str y2 t from r2);subst e2
   exact EqAt.str_str y1 t1 y2 t2
 | _,_,_,_,u,x,A,.str y1,.lst h2 rs2,r1,r2,hu=>by
   obtain ⟨t1,e1⟩:=(show ∃ t,u=Value.str y1 t from r1);subst e1
   cases (show x=Value.ref _ from r2);obtain ⟨its2,rv2,p2,_⟩:=I.list h2
   exact EqAt.str_list y1 t1 p2.isList (hu00 hu)
 | _,_,_,_,u,x,A,.str y1,.tup h2 rs2,r1,r2,hu=>by
   obtain ⟨t1,e1⟩:=(show ∃ t,u=Value.str y1 t from r1);subst e1
   cases (show x=Value.ref _ from r2);obtain ⟨its2,rv2,p2,_⟩:=I.tuple h2
   exact EqAt.str_tuple y1 t1 p2 (hu00 hu)
 | _,_,_,_,u,x,A,.lst h1 rs1,.non,r1,r2,hu=>by
   cases (show u=Value.ref _ from r1);obtain ⟨its1,rv1,p1,_⟩:=I.list h1
   cases (show x=Value.none from r2)
   exact EqAt.list_none p1.isList (hu00 hu)
 | _,_,_,_,u,x,A,.lst h1 rs1,.bl b2,r1,r2,hu=>by
   cases (show u=Value.ref _ from r1);obtain ⟨its1,rv1,p1,_⟩:=I.list h1
   cases (show x=Value.bool b2 from r2)
   exact EqAt.list_bool b2 p1.isList (hu00 hu)
 | _,_,_,_,u,x,A,.lst h1 rs1,.int i2,r1,r2,hu=>by
   cases (show u=Value.ref _ from r1);obtain ⟨its1,rv1,p1,_⟩:=I.list h1
   obtain ⟨t2,e2⟩:=(show ∃ t,x=Value.int i2 t from r2);subst e2
   exact EqAt.list_int i2 t2 p1.isList (hu00 hu)
 | _,_,_,_,u,x,A,.lst h1 rs1,.str y2,r1,r2,hu=>by
   cases (show u=Value.ref _ from r1);obtain ⟨its1,rv1,p1,_⟩:=I.list h1
   obtain ⟨t2,e2⟩:=(show ∃ t,x=Value.str y2 t from r2);subst e2
   exact EqAt.list_str y2 t2 p1.isList (hu00 hu)
 | _,_,_,_,u,x,A,.lst h1 rs1,.lst h2 rs2,r1,r2,hu=>by
   cases (show u=Value.ref _ from r1);obtain ⟨its1,rv1,p1,_⟩:=I.list h1
   cases (show x=Value.ref _ from r2);obtain ⟨its2,rv2,p2,_⟩:=I.list h2
   exact eqL I h1 h2 rs1 rs2 rv1 rv2 p1.isList p2.isList (hu0 hu) (eqs_at I rs1 rs2 rv1 rv2 (hu1 hu))
 | _,_,_,_,u,x,A,.lst h1 rs1,.tup h2 rs2,r1,r2,hu=>by
   cases (show u=Value.ref _ from r1);obtain ⟨its1,rv1,p1,_⟩:=I.list h1
   cases (show x=Value.ref _ from r2);obtain ⟨its2,rv2,p2,_⟩:=I.tuple h2
   exact EqAt.list_tuple p1.isList p2 (hu00 hu)
 | _,_,_,_,u,x,A,.tup h1 rs1,.non,r1,r2,hu=>by
   cases (show u=Value.ref _ from r1);obtain ⟨its1,rv1,p1,_⟩:=I.tuple h1
   cases (show x=Value.none from r2)
   exact EqAt.tuple_none p1 (hu00 hu)
 | _,_,_,_,u,x,A,.tup h1 rs1,.bl b2,r1,r2,hu=>by
   cases (show u=Value.ref _ from r1);obtain ⟨its1,rv1,p1,_⟩:=I.tuple h1
   cases (show x=Value.bool b2 from r2)
   exact EqAt.tuple_bool b2 p1 (hu00 hu)
 | _,_,_,_,u,x,A,.tup h1 rs1,.int i2,r1,r2,hu=>by
   cases (show u=Value.ref _ from r1);obtain ⟨its1,rv1,p1,_⟩:=I.tuple h1
   obtain ⟨t2,e2⟩:=(show ∃ t,x=Value.int i2 t from r2);subst e2
   exact EqAt.tuple_int i2 t2 p1 (hu00 hu)
 | _,_,_,_,u,x,A,.tup h1 rs1,.str y2,r1,r2,hu=>by
   cases (show u=Value.ref _ from r1);obtain ⟨its1,rv1,p1,_⟩:=I.tuple h1
   obtain ⟨t2,e2⟩:=(show ∃ t,x=Value.str y2 t from r2);subst e2
   exact EqAt.tuple_str y2 t2 p1 (hu00 hu)
 | _,_,_,_,u,x,A,.tup h1 rs1,.lst h2 rs2,r1,r2,hu=>by
   cases (show u=Value.ref _ from r1);obtain ⟨its1,rv1,p1,_⟩:=I.tuple h1
   cases (show x=Value.ref _ from r2);obtain ⟨its2,rv2,p2,_⟩:=I.list h2
   exact EqAt.tuple_list p1 p2.isList (hu00 hu)
 | _,_,_,_,u,x,A,.tup h1 rs1,.tup h2 rs2,r1,r2,hu=>by
   cases (show u=Value.ref _ from r1);obtain ⟨its1,rv1,p1,_⟩:=I.tuple h1
   cases (show x=Value.ref _ from r2);obtain ⟨its2,rv2,p2,_⟩:=I.tuple h2
   exact eqT I h1 h2 rs1 rs2 rv1 rv2 p1 p2 (hu0 hu) (eqs_at I rs1 rs2 rv1 rv2 (hu1 hu))
theorem eqs_at (I:Inv X pins σ H s):∀ {vs ws:List V} {ds es:List PyData} {us xs:List Value} {A:Around},Reps X.K H vs ds->Reps X.K H ws es->Vals vs us->Vals ws xs->A.units+pdDeps ds<cLine->
 ∀ j (h1:j<us.length) (h2:j<xs.length),EqAt A s us[j] xs[j] (pdEq (ds.getD j .none) (es.getD j .none))
 |_,_,_,_,_,_,_,.nil,_,.nil,_,_,j,h1,_=>absurd h1 (Nat.not_lt_zero _)
 |_,_,_,_,_,_,_,.cons _ _,.nil,.cons _ _,.nil,_,j,_,h2=>absurd h2 (Nat.not_lt_zero _)
 |_,_,_,_,_,_,_,.cons a b,.cons c d,.cons r rs,.cons t ts,hu,0,_,_=>eq_at I a c r t (by simp only [pdDeps] at hu;simp only [List.getD_cons_zero];omega)
 |_,_,_,_,_,_,_,.cons a b,.cons c d,.cons r rs,.cons t ts,hu,j+1,h1,h2=>eqs_at I b d rs ts (by simp only [pdDeps] at hu;omega) j (by simpa using h1) (by simpa using h2)
end
theorem rc_at (I:Inv X pins σ H s):∀ {v w:V} {d e:PyData} {u x:Value} {A:Around},Rep X.K H v d->Rep X.K H w e->RelV v u->RelV w x->A.units+pdDep d<cLine->RcAt A s u x (pdEq d e)
 | _,_,_,_,u,x,A,.non,.non,r1,r2,hu=>by
   cases (show u=Value.none from r1)
   cases (show x=Value.none from r2)
   exact RcAt.none_none
 | _,_,_,_,u,x,A,.non,.bl b2,r1,r2,hu=>by
   cases (show u=Value.none from r1)
   cases (show x=Value.bool b2 from r2)
   exact RcAt.none_bool b2
 | _,_,_,_,u,x,A,.non,.int i2,r1,r2,hu=>by
   cases (show u=Value.none from r1)
   obtain ⟨t2,e2⟩:=(show ∃ t,x=Value.int i2 t from r2);subst e2
   exact RcAt.none_int i2 t2
 | _,_,_,_,u,x,A,.non,.str y2,r1,r2,hu=>by
   cases (show u=Value.none from r1)
   obtain ⟨t2,e2⟩:=(show ∃ t,x=Value.str y2 t from r2);subst e2
   exact RcAt.none_str y2 t2
 | _,_,_,_,u,x,A,.non,.lst h2 rs2,r1,r2,hu=>by
   cases (show u=Value.none from r1)
   cases (show x=Value.ref _ from r2);obtain ⟨its2,rv2,p2,_⟩:=I.list h2
   exact RcAt.none_list p2.isList (hu00 hu)
 | _,_,_,_,u,x,A,.non,.tup h2 rs2,r1,r2,hu=>by
   cases (show u=Value.none from r1)
   cases (show x=Value.ref _ from r2);obtain ⟨its2,rv2,p2,_⟩:=I.tuple h2
   exact RcAt.none_tuple p2 (hu00 hu)
 | _,_,_,_,u,x,A,.bl b1,.non,r1,r2,hu=>by
   cases (show u=Value.bool b1 from r1)
   cases (show x=Value.none from r2)
   exact RcAt.bool_none b1
 | _,_,_,_,u,x,A,.bl b1,.bl b2,r1,r2,hu=>by
   cases (show u=Value.bool b1 from r1)
   cases (show x=Value.bool b2 from r2)
   exact RcAt.bool_bool b1 b2
 | _,_,_,_,u,x,A,.bl b1,.int i2,r1,r2,hu=>by
   cases (show u=Value.bool b1 from r1)
   obtain ⟨t2,e2⟩:=(show ∃ t,x=Value.int i2 t from r2);subst e2
   exact RcAt.bool_int b1 i2 t2
 | _,_,_,_,u,x,A,.bl b1,.str y2,r1,r2,hu=>by
   cases (show u=Value.bool b1 from r1)
   obtain ⟨t2,e2⟩:=(show ∃ t,x=Value.str y2 t from r2);subst e2
   exact RcAt.bool_str b1 y2 t2
 | _,_,_,_,u,x,A,.bl b1,.lst h2 rs2,r1,r2,hu=>by
   cases (show u=Value.bool b1 from r1)
   cases (show x=Value.ref _ from r2);obtain ⟨its2,rv2,p2,_⟩:=I.list h2
   exact RcAt.bool_list b1 p2.isList (hu00 hu)
 | _,_,_,_,u,x,A,.bl b1,.tup h2 rs2,r1,r2,hu=>by
   cases (show u=Value.bool b1 from r1)
   cases (show x=Value.ref _ from r2);obtain ⟨its2,rv2,p2,_⟩:=I.tuple h2
   exact RcAt.bool_tuple b1 p2 (hu00 hu)
 | _,_,_,_,u,x,A,.int i1,.non,r1,r2,hu=>by
   obtain ⟨t1,e1⟩:=(show ∃ t,u=Value.int i1 t from r1);subst e1
   cases (show x=Value.none from r2)
   exact RcAt.int_none i1 t1
 | _,_,_,_,u,x,A,.int i1,.bl b2,r1,r2,hu=>by
   obtain ⟨t1,e1⟩:=(show ∃ t,u=Value.int i1 t from r1);subst e1
   cases (show x=Value.bool b2 from r2)
   exact RcAt.int_bool i1 t1 b2
 | _,_,_,_,u,x,A,.int i1,.int i2,r1,r2,hu=>by
   obtain ⟨t1,e1⟩:=(show ∃ t,u=Value.int i1 t from r1);subst e1
   obtain ⟨t2,e2⟩:=(show ∃ t,x=Value.int i2 t from r2);subst e2
   exact RcAt.int_int i1 t1 i2 t2
 | _,_,_,_,u,x,A,.int i1,.str y2,r1,r2,hu=>by
   obtain ⟨t1,e1⟩:=(show ∃ t,u=Value.int i1 t from r1);subst e1
   obtain ⟨t2,e2⟩:=(show ∃ t,x=Value.str y2 t from r2);subst e2
   exact RcAt.int_str i1 t1 y2 t2
 | _,_,_,_,u,x,A,.int i1,.lst h2 rs2,r1,r2,hu=>by
   obtain ⟨t1,e1⟩:=(show ∃ t,u=Value.int i1 t from r1);subst e1
   cases (show x=Value.ref _ from r2);obtain ⟨its2,rv2,p2,_⟩:=I.list h2
   exact RcAt.int_list i1 t1 p2.isList (hu00 hu)
 | _,_,_,_,u,x,A,.int i1,.tup h2 rs2,r1,r2,hu=>by
   obtain ⟨t1,e1⟩:=(show ∃ t,u=Value.int i1 t from r1);subst e1
   cases (show x=Value.ref _ from r2);obtain ⟨its2,rv2,p2,_⟩:=I.tuple h2
   exact RcAt.int_tuple i1 t1 p2 (hu00 hu)
 | _,_,_,_,u,x,A,.str y1,.non,r1,r2,hu=>by
   obtain ⟨t1,e1⟩:=(show ∃ t,u=Value.str y1 t from r1);subst e1
   cases (show x=Value.none from r2)
   exact RcAt.str_none y1 t1
 | _,_,_,_,u,x,A,.str y1,.bl b2,r1,r2,hu=>by
   obtain ⟨t1,e1⟩:=(show ∃ t,u=Value.str y1 t from r1);subst e1
   cases (show x=Value.bool b2 from r2)
   exact RcAt.str_bool y1 t1 b2
 | _,_,_,_,u,x,A,.str y1,.int i2,r1,r2,hu=>by
   obtain ⟨t1,e1⟩:=(show ∃ t,u=Value.str y1 t from r1);subst e1
   obtain ⟨t2,e2⟩:=(show ∃ t,x=Value.int i2 t from r2);subst e2
   exact RcAt.str_int y1 t1 i2 t2
 | _,_,_,_,u,x,A,.str y1,.str y2,r1,r2,hu=>by
   obtain ⟨t1,e1⟩:=(show ∃ t,u=Value.str y1 t from r1);subst e1
   obtain ⟨t2,e2⟩:=(show ∃ t,x=Value.str y2 t from r2);subst e2
   exact RcAt.str_str y1 t1 y2 t2
 | _,_,_,_,u,x,A,.str y1,.lst h2 rs2,r1,r2,hu=>by
   obtain ⟨t1,e1⟩:=(show ∃ t,u=Value.str y1 t from r1);subst e1
   cases (show x=Value.ref _ from r2);obtain ⟨its2,rv2,p2,_⟩:=I.list h2
   exact RcAt.str_list y1 t1 p2.isList (hu00 hu)
 | _,_,_,_,u,x,A,.str y1,.tup h2 rs2,r1,r2,hu=>by
   obtain ⟨t1,e1⟩:=(show ∃ t,u=Value.str y1 t from r1);subst e1
   cases (show x=Value.ref _ from r2);obtain ⟨its2,rv2,p2,_⟩:=I.tuple h2
   exact RcAt.str_tuple y1 t1 p2 (hu00 hu)
 | _,_,_,_,u,x,A,.lst h1 rs1,.non,r1,r2,hu=>by
   cases (show u=Value.ref _ from r1);obtain ⟨its1,rv1,p1,_⟩:=I.list h1
   cases (show x=Value.none from r2)
   exact RcAt.list_none p1.isList (hu00 hu)
 | _,_,_,_,u,x,A,.lst h1 rs1,.bl b2,r1,r2,hu=>by
   cases (show u=Value.ref _ from r1);obtain ⟨its1,rv1,p1,_⟩:=I.list h1
   cases (show x=Value.bool b2 from r2)
   exact RcAt.list_bool b2 p1.isList (hu00 hu)
 | _,_,_,_,u,x,A,.lst h1 rs1,.int i2,r1,r2,hu=>by
   cases (show u=Value.ref _ from r1);obtain ⟨its1,rv1,p1,_⟩:=I.list h1
   obtain ⟨t2,e2⟩:=(show ∃ t,x=Value.int i2 t from r2);subst e2
   exact RcAt.list_int i2 t2 p1.isList (hu00 hu)
 | _,_,_,_,u,x,A,.lst h1 rs1,.str y2,r1,r2,hu=>by
   cases (show u=Value.ref _ from r1);obtain ⟨its1,rv1,p1,_⟩:=I.list h1
   obtain ⟨t2,e2⟩:=(show ∃ t,x=Value.str y2 t from r2);subst e2
   exact RcAt.list_str y2 t2 p1.isList (hu00 hu)
 | _,_,_,_,u,x,A,.lst h1 rs1,.lst h2 rs2,r1,r2,hu=>by
   cases (show u=Value.ref _ from r1);obtain ⟨its1,rv1,p1,_⟩:=I.list h1
   cases (show x=Value.ref _ from r2);obtain ⟨its2,rv2,p2,_⟩:=I.list h2
   exact rcL rs1 rs2 rv1 rv2 p1.isList p2.isList (hu0 hu) (eqs_at I rs1 rs2 rv1 rv2 (hu1 hu))
 | _,_,_,_,u,x,A,.lst h1 rs1,.tup h2 rs2,r1,r2,hu=>by
   cases (show u=Value.ref _ from r1);obtain ⟨its1,rv1,p1,_⟩:=I.list h1
   cases (show x=Value.ref _ from r2);obtain ⟨its2,rv2,p2,_⟩:=I.tuple h2
   exact RcAt.list_tuple p1.isList p2 (hu00 hu)
 | _,_,_,_,u,x,A,.tup h1 rs1,.non,r1,r2,hu=>by
   cases (show u=Value.ref _ from r1);obtain ⟨its1,rv1,p1,_⟩:=I.tuple h1
   cases (show x=Value.none from r2)
   exact RcAt.tuple_none p1 (hu00 hu)
 | _,_,_,_,u,x,A,.tup h1 rs1,.bl b2,r1,r2,hu=>by
   cases (show u=Value.ref _ from r1);obtain ⟨its1,rv1,p1,_⟩:=I.tuple h1
   cases (show x=Value.bool b2 from r2)
   exact RcAt.tuple_bool b2 p1 (hu00 hu)
 | _,_,_,_,u,x,A,.tup h1 rs1,.int i2,r1,r2,hu=>by
   cases (show u=Value.ref _ from r1);obtain ⟨its1,rv1,p1,_⟩:=I.tuple h1
   obtain ⟨t2,e2⟩:=(show ∃ t,x=Value.int i2 t from r2);subst e2
   exact RcAt.tuple_int i2 t2 p1 (hu00 hu)
 | _,_,_,_,u,x,A,.tup h1 rs1,.str y2,r1,r2,hu=>by
   cases (show u=Value.ref _ from r1);obtain ⟨its1,rv1,p1,_⟩:=I.tuple h1
   obtain ⟨t2,e2⟩:=(show ∃ t,x=Value.str y2 t from r2);subst e2
   exact RcAt.tuple_str y2 t2 p1 (hu00 hu)
 | _,_,_,_,u,x,A,.tup h1 rs1,.lst h2 rs2,r1,r2,hu=>by
   cases (show u=Value.ref _ from r1);obtain ⟨its1,rv1,p1,_⟩:=I.tuple h1
   cases (show x=Value.ref _ from r2);obtain ⟨its2,rv2,p2,_⟩:=I.list h2
   exact RcAt.tuple_list p1 p2.isList (hu00 hu)
 | _,_,_,_,u,x,A,.tup h1 rs1,.tup h2 rs2,r1,r2,hu=>by
   cases (show u=Value.ref _ from r1);obtain ⟨its1,rv1,p1,_⟩:=I.tuple h1
   cases (show x=Value.ref _ from r2);obtain ⟨its2,rv2,p2,_⟩:=I.tuple h2
   exact rcT rs1 rs2 rv1 rv2 p1 p2 (hu0 hu) (eqs_at I rs1 rs2 rv1 rv2 (hu1 hu))
end
section
variable {X:Cx}
def rEqD (K:PySem.W.Frag):R2:=fun x y H Q=>∃ d e,Rep K H x d/\Rep K H y e/\pdDep d≤60/\Q (.bl (pdEq d e)) H
theorem op_eqD (hu:X.A.units+64<cLine):OpR X (compareOp .Eq) (rEqD X.K):=by
 intro pins s σ H x y v u Q I rx ry h
 obtain ⟨d,e,h1,h2,hd,q⟩:=h
 exact rc_at I h1 h2 rx ry (by omega) _ _ _ _ ⟨.bl _,H,I,rfl,q⟩
theorem pdDep_le {e:PyData}:∀ {es:List PyData},e∈es->pdDep e≤pdDeps es
 |_::_,.head _=>by simp only [pdDeps];omega
 |_::r,.tail _ h=>by have:=pdDep_le h;simp only [pdDeps];omega
def tyD:PyData->String
 |.none=>"NoneType"
 |.bool _=>"bool"
 |.int _=>"int"
 |.str _=>"str"
 |.list _=>"list"
 |.tuple _=>"tuple"
 |.dict _=>"dict"
theorem isD {pins:List (Addr×Obj)} {σ:St} {H:Hp} {s:Shared} {A:Around} {E:Value->Shared->Prop} {Q:Value->Shared->Prop} {v:V} {d:PyData} {u c:Value} {b:Bool} (I:Inv X pins σ H s) (r:Rep X.K H v d) (rv:RelV v u)
 (e:PySem.W.kitOne X.K (.type (tyD d)) c=some b) (h:∀ tk,Q (.bool b) { s with toks:=tk }):wpAny (model X.prog X.w) A (call (.builtin "isinstance") [u,c]) Q E s:=by
 cases r with
 |non=>cases (show u=Value.none from rv);exact PySem.W.kia_one PySem.W.kitx_none I.kIn True.intro e (fun z=>nomatch z) h
 |bl y=>cases (show u=Value.bool y from rv);exact PySem.W.kia_one PySem.W.kitx_bool I.kIn True.intro e (fun z=>nomatch z) h
 |int i=>obtain ⟨t,q⟩:=(show ∃ t,u=Value.int i t from rv);cases q;exact PySem.W.kia_one PySem.W.kitx_int I.kIn True.intro e (fun z=>nomatch z) h
 |str y=>obtain ⟨t,q⟩:=(show ∃ t,u=Value.str y t from rv);cases q;exact PySem.W.kia_one PySem.W.kitx_str I.kIn True.intro e (fun z=>nomatch z) h
 | tup g _=>
   cases (show u=Value.ref _ from rv)
   obtain ⟨_,_,⟨o,h1,h2,_⟩,_⟩:=I.tuple g
   exact PySem.W.kia_one PySem.W.kitx_tuple I.kIn ⟨o,h1,h2⟩ e (fun z=>nomatch z) h
 | lst g _=>
   cases (show u=Value.ref _ from rv)
   obtain ⟨_,_,⟨o,n,h1,h2,_⟩,_⟩:=I.list g
   exact PySem.W.kia_one PySem.W.kitx_list I.kIn ⟨o,h1,h2⟩ e (fun z=>nomatch z) h
theorem isD2 {pins:List (Addr×Obj)} {σ:St} {H:Hp} {s:Shared} {A:Around} {E:Value->Shared->Prop} {Q:Value->Shared->Prop} {v:V} {d:PyData} {u:Value} {tp:Addr} {dd:Option Addr} {its:List Value} {n:Nat} {sl:Array (Option Value)} {b:Bool} (I:Inv X pins σ H s) (r:Rep X.K H v d) (rv:RelV v u)
 (htp:s.heap.get? tp=some ⟨.type "tuple",dd,.seq its.toArray n,sl⟩) (e:PySem.W.kitAny X.K (.type (tyD d)) its=some b) (h:∀ tk,Q (.bool b) { s with toks:=tk }):wpAny (model X.prog X.w) A (call (.builtin "isinstance") [u,.ref tp]) Q E s:=by
 cases r with
 |non=>cases (show u=Value.none from rv);exact PySem.W.kia_tup PySem.W.kitx_none I.kIn True.intro htp e (fun z=>nomatch z) h
 |bl y=>cases (show u=Value.bool y from rv);exact PySem.W.kia_tup PySem.W.kitx_bool I.kIn True.intro htp e (fun z=>nomatch z) h
 |int i=>obtain ⟨t,q⟩:=(show ∃ t,u=Value.int i t from rv);cases q;exact PySem.W.kia_tup PySem.W.kitx_int I.kIn True.intro htp e (fun z=>nomatch z) h
 |str y=>obtain ⟨t,q⟩:=(show ∃ t,u=Value.str y t from rv);cases q;exact PySem.W.kia_tup PySem.W.kitx_str I.kIn True.intro htp e (fun z=>nomatch z) h
 | tup g _=>
   cases (show u=Value.ref _ from rv)
   obtain ⟨_,_,⟨o,h1,h2,_⟩,_⟩:=I.tuple g
   exact PySem.W.kia_tup PySem.W.kitx_tuple I.kIn ⟨o,h1,h2⟩ htp e (fun z=>nomatch z) h
 | lst g _=>
   cases (show u=Value.ref _ from rv)
   obtain ⟨_,_,⟨o,n,h1,h2,_⟩,_⟩:=I.list g
   exact PySem.W.kia_tup PySem.W.kitx_list I.kIn ⟨o,h1,h2⟩ htp e (fun z=>nomatch z) h
def rIsT (K:PySem.W.Frag):List V->Hp->VK->Prop:=fun xs H Q=>∃ x n d b,xs=[x,.ty n]/\Rep K H x d/\PySem.W.kitOne K (.type (tyD d)) (.type n)=some b/\Q (.bl b) H
theorem call_isT:CallR X (.builtin "isinstance") (rIsT X.K):=by
 intro pins s σ H xs us Q I r h
 obtain ⟨x,n,d,b,rfl,hr,e,q⟩:=h
 cases r with
 | cons r1 r=>
   cases r with
   | cons r2 r=>
     cases r
     cases (show _=Value.type n from r2)
     exact isD I hr r1 e fun tk=>⟨.bl b,H,I.tok tk,rfl,q⟩
def rIsT2 (K:PySem.W.Frag):List V->Hp->VK->Prop:=fun xs H Q=>∃ x a n m d b,xs=[x,.ref a]/\H a=some (.tup [.ty n,.ty m])/\Rep K H x d/\PySem.W.kitAny K (.type (tyD d)) [.type n,.type m]=some b/\Q (.bl b) H
theorem call_isT2:CallR X (.builtin "isinstance") (rIsT2 X.K):=by
 intro pins s σ H xs us Q I r h
 obtain ⟨x,a,n,m,d,b,rfl,ha,hr,e,q⟩:=h
 cases r with
 | cons r1 r=>
   cases r with
   | cons r2 r=>
     cases r
     cases (show _=Value.ref a from r2)
     obtain ⟨z,its,rv,o,h1,h2,k,h3⟩:=(show ObjOk X.prog X.w H s.heap a (.tup [.ty n,.ty m]) from I.hok a _ ha)
     obtain ⟨cls,dd,data,sl⟩:=o
     simp only at h2 h3
     subst h2 h3
     cases rv with
     | cons g1 rv=>
       cases rv with
       | cons g2 rv=>
         cases rv
         cases (show _=Value.type n from g1)
         cases (show _=Value.type m from g2)
         exact isD2 I hr r1 h1 e fun tk=>⟨.bl b,H,I.tok tk,rfl,q⟩
theorem bools_of {xs:List V} {us:List Value}:∀ {bs:List Bool},xs=bs.map V.bl->Vals xs us->us=bs.map Value.bool:=by
 intro bs e r
 induction bs generalizing xs us with
 |nil=>subst e;cases r;rfl
 | cons b t ih=>
   subst e
   cases r with
   |cons r1 r=>rw [List.map_cons,ih rfl r,(show _=Value.bool b from r1)]
theorem range_all (bs:List Bool):(List.range bs.length).all (fun i=>bs.getD i false)=bs.all id:=by
 induction bs with
 |nil=>rfl
 |cons b t ih=>rw [List.length_cons,List.range_succ_eq_map,List.all_cons,List.all_map,List.all_cons,← ih];rfl
theorem range_any (bs:List Bool):(List.range bs.length).any (fun i=>bs.getD i false)=bs.any id:=by
 induction bs with
 |nil=>rfl
 |cons b t ih=>rw [List.length_cons,List.range_succ_eq_map,List.any_cons,List.any_map,List.any_cons,← ih];rfl
theorem truth_bools {P:Program} {w:World} {A:Around} {bs:List Bool}:TruthOf P w A (fun i v=>((bs.map Value.bool).toArray)[i]?=some v) fun i=>bs.getD i false:=fun i v s Q E hP hQ=>by
 dsimp only at hP hQ
 rw [List.getElem?_toArray,List.getElem?_map] at hP
 cases e:bs[i]? with
 |none=>rw [e] at hP;cases hP
 | some b=>
   rw [e] at hP
   cases hP
   rw [List.getD_eq_getElem?_getD,e] at hQ
   exact wpAny_pure hQ
def rAllB (K:PySem.W.Frag) (f:List Bool->Bool):List V->Hp->VK->Prop:=fun xs H Q=>∃ a bs,xs=[.ref a]/\SqL K H a (bs.map V.bl)/\Q (.bl (f bs)) H
theorem call_allB (hh:X.calm=true):CallR X (.builtin "all") (rAllB X.K fun bs=>bs.all id):=by
 intro pins s σ H xs us Q I r h
 obtain ⟨a,bs,rfl,hq,q⟩:=h
 cases r with
 | cons r1 r=>
   cases r
   cases (show _=Value.ref a from r1)
   obtain ⟨its,rv,p,hz⟩:=I.list hq
   have e:=bools_of rfl rv
   subst e
   refine PySem.call_all_walk (wpAny_pyIter_list p.isList ?_)
   have hne:a≠s.heap.objs.size:=(by obtain ⟨o,ho,_⟩:=p.isList;exact Nat.ne_of_lt (Heap.lt_size ho))
   refine ⟨s.heap.objs.size,_,_,_,_,_,_,rfl,Walks.list (A:=X.A.in1) (I.ok.hd hh) s.heap.objs.size a hne (bs.map Value.bool).toArray,⟨⟨_,Heap.get?_push_size _ rfl,rfl,rfl⟩,?_⟩,truth_bools,fun h' tk hk=>?_⟩
   ·obtain ⟨o,ho,hc,n,hd⟩:=p.isList
    exact ⟨o,Heap.get?_push_of_some _ ho,hc,n,hd⟩
   ·rw [List.size_toArray,List.length_map,range_all]
    exact ⟨.bl _,H,I.kept fun b o e=>hk b o (by simp;exact Nat.ne_of_lt (Heap.lt_size e)) (Heap.get?_push_of_some _ e),rfl,q⟩
theorem call_anyB (hh:X.calm=true):CallR X (.builtin "any") (rAllB X.K fun bs=>bs.any id):=by
 intro pins s σ H xs us Q I r h
 obtain ⟨a,bs,rfl,hq,q⟩:=h
 cases r with
 | cons r1 r=>
   cases r
   cases (show _=Value.ref a from r1)
   obtain ⟨its,rv,p,hz⟩:=I.list hq
   have e:=bools_of rfl rv
   subst e
   refine PySem.call_any_walk (wpAny_pyIter_list p.isList ?_)
   have hne:a≠s.heap.objs.size:=(by obtain ⟨o,ho,_⟩:=p.isList;exact Nat.ne_of_lt (Heap.lt_size ho))
   refine ⟨s.heap.objs.size,_,_,_,_,_,_,rfl,Walks.list (A:=X.A.in1) (I.ok.hd hh) s.heap.objs.size a hne (bs.map Value.bool).toArray,⟨⟨_,Heap.get?_push_size _ rfl,rfl,rfl⟩,?_⟩,truth_bools,fun h' tk hk=>?_⟩
   ·obtain ⟨o,ho,hc,n,hd⟩:=p.isList
    exact ⟨o,Heap.get?_push_of_some _ ho,hc,n,hd⟩
   ·rw [List.size_toArray,List.length_map,range_any]
    exact ⟨.bl _,H,I.kept fun b o e=>hk b o (by simp;exact Nat.ne_of_lt (Heap.lt_size e)) (Heap.get?_push_of_some _ e),rfl,q⟩
end
structure CompS (osc:Scope) (N:List Str) (scope:Scope) (own:List Str) (js:List Nat) (N':List Str):Prop where
 kind:scope.kind=.function
 nocell:∀ y∈scope.names,y.2≠.cell
 names:∀ y∈scope.names,y.2=.local->scope.names.lookup y.1=some .local
 free:∀ y∈scope.names,y.2=.free->osc.names.lookup y.1=some .cell∨osc.names.lookup y.1=some .free
 nm:N'=own++js.map fun j=>N.getD j Str.empty
 fr:∀ j∈js,j<N.length/\(N.getD j Str.empty,NameKind.free)∈scope.names/\∀ y∈scope.names,y.1=N.getD j Str.empty->y.2=.free
theorem CompScope.of {X:Cx} {osc scope:Scope} {N own N':List Str} {js:List Nat} (h1:X.env.scope=osc) (h2:X.N=N) (h:CompS osc N scope own js N'):CompScope X scope own js N':=by
 subst h1 h2
 exact ⟨h.kind,h.nocell,h.names,h.free,h.nm,fun j hj=>⟨(h.fr j hj).1,(h.fr j hj).2.1,fun k hk=>(h.fr j hj).2.2 _ hk rfl⟩⟩
mutual
def pdMax:PyData->Nat
 |.tuple xs=>max xs.length (pdMaxs xs)
 |.list xs=>max xs.length (pdMaxs xs)
 |_=>0
def pdMaxs:List PyData->Nat
 |[]=>0
 |d::r=>max (pdMax d) (pdMaxs r)
end
theorem pdMax_le {e:PyData}:∀ {es:List PyData},e∈es->pdMax e≤pdMaxs es
 |_::_,.head _=>by simp only [pdMaxs];omega
 |_::r,.tail _ h=>by have:=pdMax_le h;simp only [pdMaxs];omega
theorem pe_ty {X:Cx} {x:Str} {n:String} {pos:Pos} (hg:Gl X x) (hm:X.mg x=none) (hv:bootBuiltins x=some (.type n)) (hn:x ≠ "__name__":=by decide) (hd:(x == ("__debug__" : Str))=false:=by decide):PE X (.Name x pos) (tC (.ty n)):=pe_bltn (v:=.ty n) hg hm hv rfl hn hd
theorem ifT {c:Bool} {A B:Prop} (h:c=true) (q:A):if c=true then A else B:=by rw [if_pos h];exact q
theorem ifF {c:Bool} {A B:Prop} (h:c=false) (q:B):if c=true then A else B:=by rw [if_neg (by rw [h];exact Bool.false_ne_true)];exact q
section
variable {X:Cx} {a b c d:Expr} {ta tb tc td:TE} {pos:Pos}
end
section
variable {X:Cx} {es:List Expr} {t:TF} {e:Expr} {te:TE} {pos:Pos}
end
section
variable {X:Cx} {CX:CXT} {k:Nat} {f C:Addr} {fd:FuncData} {ps:List Str} {sp:Sp} {E:XK}
end
end L2
namespace HT
open PySem PySem.Spec PyProof.Rows
section
variable {prog:Program} {w:World} {A:Around} {E:Value->Shared->Prop} {s:Shared}
end
end HT
namespace L2
open PySem PySem.Spec PyProof.Rows PySem.SeqAt
section
variable {X:Cx}
end
section
variable {X:Cx}
end
section
variable {X:Cx} {CX:CXT} {k:Nat} {f C:Addr} {fd:FuncData} {ps:List Str} {sp:Sp} {E:XK}
end
section
variable {X:Cx} {pins:List (Addr×Obj)} {σ:St} {H:Hp} {s:Shared} {h':Heap}
end
section
variable {M:Model} {A:Around} {E:Value->Shared->Prop} {s:Shared}
end
section
variable {X:Cx} {pins:List (Addr×Obj)} {σ:St} {H:Hp} {s:Shared} {e:Addr} {cls:Value} {dd:Option Addr}
end
section
variable {P:Program} {w:World} {K:PySem.W.Frag} {mg:Str->Option Value} {base:Heap} {N:List Str} {qual:Str} {scope:Scope} {f:Addr} {cd:Value} {A:Around} {outer:List Env} {s:Shared} {H:Hp} {E:XK}
end
end L2
namespace L2
open PySem PySem.Spec PyProof.Rows PySem.SeqAt PySem.W
section
variable {prog:Program} {w:World} {A:Around} {C:Addr} {R:Result->Shared->Prop} {h:Heap} {g:Array GenState} {d:Drawn} {t:Nat} {os:OsState} {B newId initId:String} {bm:List Value}
end
end L2
namespace L2
open PySem PySem.Spec PyProof.Rows PySem.SeqAt PySem.W Builtin.ObjectAttr
section
variable {prog:Program} {w:World} {A:Around} {R:Result->Shared->Prop} {s:Shared} {K:Frag} {x C:Addr} {name:Str}
end
section
variable {prog:Program} {w:World} {A:Around} {E:Value->Shared->Prop} {s:Shared} {K:Frag} {x C:Addr} {name:Str} {v:Value} {tk:Tok} {Q:Fin->Shared->Prop} {vs:Array Value} {sl:Array (Option Value)}
end
section
variable {X:Cx} {pins:List (Addr×Obj)} {σ:St} {H:Hp} {s:Shared} {e C:Addr} {f:Str} {B newId:String} {A:Around} {E:Value->Shared->Prop} {y:V} {u:Value} {Q:Unit->Shared->Prop}
end
section
variable {X:Cx} {CX:CXT} {k:Nat} {f C:Addr} {fd:FuncData} {ps:List Str} {sp:Sp} {dvs:List V} {ds:List Value} {E:XK} {B newId initId:String} {bm:List Value}
end
section
variable {X:Cx} {pins:List (Addr×Obj)} {σ:St} {H:Hp} {s:Shared} {e C:Addr} {dd:Option Addr}
end
section
variable {X:Cx} {pins:List (Addr×Obj)} {σ:St} {H:Hp} {s:Shared} {e C:Addr} {f:Str} {B newId initId:String} {bm:List Value} {A:Around} {E:Value->Shared->Prop} {y:V} {u:Value} {Q:Unit->Shared->Prop}
end
section
variable {X:Cx} {CX:CXT} {k:Nat} {f C CS:Addr} {fd:FuncData} {ps:List Str} {sp:Sp} {dvs:List V} {ds:List Value} {E:XK} {m tn cn:Str} {T id:String} {p pos apos:Pos} {e:Expr} {es:List Expr} {t:TA} {r:List V->Hp->VK->Prop} {mc:Value}
end
end L2
namespace L2
open PySem PySem.Spec PyProof.Rows
section
variable {X:Cx} {pins:List (Addr×Obj)} {σ:List (Option V)} {H H':Hp} {s:Shared} {h':Heap}
end
end L2
namespace L2
open PySem PySem.Spec PyProof.Rows PySem.SeqAt PySem.W Builtin.ObjectAttr
section
variable {X:Cx} {pins:List (Addr×Obj)} {σ σ0:St} {H H0:Hp} {s s0:Shared} {e:Addr} {cls:Value} {dd:Option Addr}
end
section
variable {X:Cx} {pins:List (Addr×Obj)} {σ σ0:St} {H H0:Hp} {s s0:Shared} {e:Addr} {cls:Value} {dd:Option Addr}
end
section
variable {X:Cx} {pins:List (Addr×Obj)} {σ σ0:St} {H H0:Hp} {s s0:Shared} {e:Addr} {cls:Value} {dd:Option Addr}
end
section
variable {X:Cx}
end
section
variable {X:Cx}
end
section
variable {X:Cx}
end
section
variable {prog:Program} {w:World} {A:Around} {E:Value->Shared->Prop} {s:Shared} {K:Frag} {x C:Addr} {ox:Obj} {od:Option Obj} {name:Str} {expr:Bool} {Q:Value->Shared->Prop}
end
section
variable {X:Cx} {e:Expr} {f:Str} {pos:Pos} {ta:TE} {ea C:Addr} {oe:Obj} {dd:Option Addr}
end
end L2
namespace L2
open PySem PySem.Spec PyProof.Rows
section
variable {P:Program} {w:World} {K:PySem.W.Frag} {mg:Str->Option Value} {base:Heap}
end
section
variable {X:Cx} {e:Expr} {f:Str} {pos:Pos} {ta:TE} {ea C:Addr} {oe:Obj} {ps:List (Addr×Obj)} {dd:Option Addr}
end
end L2
namespace L2
open PySem PySem.Spec PyProof.Rows PySem.W
section
variable {P:Program} {w:World} {K:Frag} {mg:Str->Option Value} {base:Heap} {N:List Str} {qual:Str} {scope:Scope} {f:Addr} {cd:Value} {cl:List (Str×Addr)} {A:Around} {outer:List Env} {s:Shared} {H:Hp} {E:XK}
end
section
variable {X:Cx} {pins:List (Addr×Obj)} {σ:St} {H:Hp} {s:Shared} {h':Heap} {P c':Addr} {ps more:Array Value} {qual:Str}
end
section
variable {X:Cx} {CX:CXT} {k:Nat} {f C:Addr} {fd:FuncData} {ps:List Str} {sp:Shared->List Env->Sp} {E:XK} {x:Str} {p pos:Pos} {e:Expr} {es:List Expr} {t:TA}
end
end L2
namespace L2
open PySem PySem.Spec PyProof.Rows
end L2
namespace L2
open PySem PySem.Spec PyProof.Rows PySem.W
end L2
namespace L2
open PySem PySem.Spec PyProof.Rows PySem.SeqAt
section
variable {X:Cx}
end
section
variable {X:Cx} {tg:Expr}
end
section
variable {X:Cx}
end
section
variable {prog:Program} {w:World} {A:Around} {E:Value->Shared->Prop} {s:Shared} {l:Addr} {x y:Value}
end
section
variable {X:Cx} {pos:Pos}
end
section
variable {X:Cx} {CX:CXT} {k:Nat} {f C:Addr} {fd:FuncData} {ps ks:List Str} {sp:Sp} {E:XK} {x m:Str} {p pos apos kpos:Pos} {e o:Expr} {es:List Expr} {kws:List Keyword} {te ta:TE} {t tk:TA}
variable {g:List Value->List Value->List Value} {gV:List V->List V->List V}
end
end L2
namespace L2
open PySem PySem.Spec PyProof.Rows PySem.W
end L2
namespace L2
open PySem PySem.Spec PyProof.Rows
theorem compTurn_dict (ke ve target iter:Expr) (ifs:List Expr) (scope:Scope) (pos:Pos) (it:Value) (d:Addr) (env:Env) :
 compTurn (.DictComp ke ve [⟨target,iter,ifs,0⟩] scope pos) 0 it (.ref d) env=(do
  standAt iter.pos
  match ← pyNext it with
  |none=>pure (.done .next)
  | some v=>
    letOwnedTupleGo target it v
    assign target env v
    let mut ok:=true
    for c in ifs do
     if ok then ok ← isTrue c env (eval c env)
    if ok then
     (do
      let kv ← eval ke env
      let vv ← holding [kv] (eval ve env)
      standAt { ke.pos with endLine:=ve.pos.endLine,endCol:=ve.pos.endCol }
      holding [kv,vv] (dictSet d kv vv))
    again (.compLoop (.DictComp ke ve [⟨target,iter,ifs,0⟩] scope pos) 0 it (.ref d) env)):=by rfl
theorem codeAny_compStart_dict {prog:Program} {w:World} {A:Around} {R:Result->Shared->Prop} {s:Shared} {ke ve target iter ifs rest scope pos it acc env}
 (h0:codeAny (model prog w) A (.compLoop (.DictComp ke ve (⟨target,iter,ifs,0⟩::rest) scope pos) 0 it acc env) R s)
 (h:wpAny (model prog w) A (pyIter it) (fun it' s'=>codeAny (model prog w) A (.compLoop (.DictComp ke ve (⟨target,iter,ifs,0⟩::rest) scope pos) 0 it' acc env) R s')
  (notedBy (model prog w) A env fun x s'=>R (.error x) s') s) :
 codeAny (model prog w) A (.compStart (.DictComp ke ve (⟨target,iter,ifs,0⟩::rest) scope pos) 0 it acc env) R s:=by
 refine codeAny_of_tree ?_
 show wpAny _ _ ((compStart (.DictComp ke ve (⟨target,iter,ifs,0⟩::rest) scope pos) 0 it acc env).onRaise (fun x=>do noteFrame x env;standAt theWindowsPlace)) _ _ s
 refine wpAny_notedAt ?_
 unfold compStart
 show wpAny _ _ (ask >>= _) _ _ s
 refine wpAny_bind (wpAny_askSetting (wpAny_ite ?_))
 split
 ·first
   |exact wpAny_bind (wpAny_pure (wpAny_pure (And.intro rfl h0)))
   |exact wpAny_pure (And.intro rfl h0)
 ·first
   |exact wpAny_bind (wpAny_rule (wpAny_bind (wpAny_standAt (wpAny_bind (wpAny_mono h (fun it' s' h'=>wpAny_pure (And.intro rfl h')) fun _ _ x=>x)))))
   |(refine wpAny_bind (wpAny_rule ?_);show wpAny _ _ (standAt iter.pos >>= _) _ _ s;exact wpAny_bind (wpAny_standAt (wpAny_bind (wpAny_mono h (fun it' s' h'=>wpAny_pure (And.intro rfl h')) fun _ _ x=>x))))
theorem d_dictSet {X:Cx} {pins:List (Addr×Obj)} {σ:St} {H:Hp} {s:Shared} {a:Addr} {y v:V} {u r:Value} {A:Around} {E:Value->Shared->Prop} {kvs:List (Key×V)} {k:Key} {Q:Unit->Shared->Prop} (I:Inv X pins σ H s) (e:H a=some (.dK kvs)) (ey:y=kV k) (l:kvs.length<sizeLine) (ry:RelV y u) (rv:RelV v r)
 (h:∀ s',Inv X pins σ (upd H a (.dK (putK kvs k v))) s'->Q () s'):wpAny (model X.prog X.w) A (dictSet a u r) Q E s:=by
 subst ey
 obtain ⟨z,hd,vs,rel,dd⟩:=dk_of I.hok e
 have hz:vs.length≤sizeLine:=by rw [← rel.length];exact z
 have hl:(putK kvs k v).length≤sizeLine:=by have:=length_putK kvs k v;omega
 refine wpAny_dictSet_pairs (hsz:=hz) (kV_is ry) dd fun h' dd' hs=>h _ ?_
 have he:∃ q,h'.get? a=some q:=let ⟨q,_,_,hq,_⟩:=dd';⟨q,hq⟩
 exact d_write I (by rw [e];exact True.intro) hs he (dk_new hl hd (rel.put k rv) dd')
def DTurn (J:It) (g:TG) (tt:TT) (tk tv:TE) (acc:Addr) (F:Hp->Prop) (W:Nat->Nat->St->Hp->Prop):Prop:=
 ∀ i m σ H,W i m σ H->(J.stop i H/\F H)∨(J.go i H/\∀ x H1,J.yld i H x H1->g x σ H1 fun σ2 H2=>tt σ2 H2 fun b H3=>
   if b=true then tk σ2 H3 fun y H4=>tv σ2 H4 fun z H5=>∃ kvs k,H5 acc=some (.dK kvs)/\y=kV k/\kvs.length<sizeLine/\∃ m',m'<m/\W (i+1) m' σ2 (upd H5 acc (.dK (putK kvs k z))) else ∃ m',m'<m/\W (i+1) m' σ2 H3)
theorem dcomp_loop {X:Cx} {scope:Scope} {N':List Str} {cl:List (Str×Addr)} {C acc it:Addr} {s₂:Shared} {H₂:Hp} {fp:List Addr} {tn:Nat->Heap->Prop} {J:It} {g:TG} {tt:TT} {tk tv:TE} {F:Hp->Prop}
 {ke ve tg iter:Expr} {ifs:List Expr} {pos:Pos} {R:Result->Shared->Prop} (W:Nat->Nat->St->Hp->Prop) (turn:DTurn J g tt tk tv acc F W) (T:Turn X.prog X.w X.K tg J fp it tn)
 (hg:PG (cxComp X scope N' cl C s₂ H₂ fp) tg g) (hc:PIfs (cxComp X scope N' cl C s₂ H₂ fp) ifs tt) (hk:PE (cxComp X scope N' cl C s₂ H₂ fp) ke tk) (hv:PE (cxComp X scope N' cl C s₂ H₂ fp) ve tv) (hcalm:X.calm=true)
 (hfp:∀ b∈fp,b≠C/\b∉frs X.stack/\(∀ x c,cl.lookup x=some c->c≠b))
 (hR:∀ s' σ' H',Inv (cxComp X scope N' cl C s₂ H₂ fp) [] σ' H' s'->F H'->R (.ok .next) s')
 {s:Shared} {σ:St} {H:Hp} {m:Nat} (I:Inv (cxComp X scope N' cl C s₂ H₂ fp) [] σ H s) (st:tn 0 s.heap) (fr:∀ b∈fp,H b=none) (w0:W 0 m σ H) :
 codeAny (model X.prog X.w) X.A (.compLoop (.DictComp ke ve [⟨tg,iter,ifs,0⟩] scope pos) 0 (.ref it) (.ref acc) (compEnvC scope cl C X.env)) R s:=by
 refine codeAny_loop rfl (fun n s'=>∃ i σ' H',Inv (cxComp X scope N' cl C s₂ H₂ fp) [] σ' H' s'/\tn i s'.heap/\(∀ b∈fp,H' b=none)/\W i n σ' H') (fun n s3 hI=>?_) m ⟨0,σ,H,I,st,fr,w0⟩
 obtain ⟨i,σ3,H3,I3,st3,fr3,w3⟩:=hI
 show wpAny _ X.A ((compTurn (.DictComp ke ve [⟨tg,iter,ifs,0⟩] scope pos) 0 (.ref it) (.ref acc) (compEnvC scope cl C X.env)).onRaise (fun x=>do noteFrame x (compEnvC scope cl C X.env);theTreesLotGoes x)) _ _ s3
 refine wpAny_noted ?_
 rw [compTurn_dict]
 have fpk:∀ {H':Hp},(∀ b∈fp,H' b=none)->∀ b∈fp,FpOk (cxComp X scope N' cl C s₂ H₂ fp) [] H' b:=fun hn b hb=>
  ⟨hn b hb,(hfp b hb).1,(hfp b hb).2.1,.inl hb,(hfp b hb).2.2,fun p hp'=>by
   have hp'':p∈([]:List (Addr×Obj))++[]:=hp'
   exact absurd hp'' (by simp)⟩
 have fp1:=fpk fr3
 refine wpAny_bind (wpAny_standAt (wpAny_bind ?_))
 rcases turn i n σ3 H3 w3 with ⟨stop,qn⟩|⟨go,step⟩
 ·refine wpAny_mono (T.done (cxComp X scope N' cl C s₂ H₂ fp) rfl rfl rfl hcalm i _ s3 σ3 H3 (fun _ _=>False) I3 fp1 st3 stop) (fun r s4 ⟨hr,I4⟩=>?_) (fun _ _ z=>z.elim)
  subst hr
  exact wpAny_pure (hR s4 σ3 H3 I4 qn)
 ·refine wpAny_mono (T.item (cxComp X scope N' cl C s₂ H₂ fp) rfl rfl rfl hcalm i _ s3 σ3 H3 (fun _ _=>False) I3 fp1 st3 go) (fun r s4 ⟨u,hr,h4⟩=>?_) (fun _ _ z=>z.elim)
  subst hr
  refine wpAny_bind (wpAny_mono h4 (fun _ s5 ⟨x,H5,I5,r5,y5,st5,fr5⟩=>?_) (fun _ _ z=>z.elim))
  have fp5:=fpk fr5
  have I5':=I5.pinned fp5 (T.obj _ _ st5)
  refine wpAny_bind (wpAny_mono (hg _ s5 σ3 H5 x u _ I5' r5 (step x H5 y5)) (fun _ s6 ⟨σ6,H6,I6,q6⟩=>?_) (fun _ _ z=>z.elim))
  refine wpAny_bind (wpAny_mono (hc _ s6 σ6 H6 _ I6 q6) (fun ok s7 ⟨H7,I7,q7⟩=>?_) (fun _ _ z=>z.elim))
  have again:∀ {s8:Shared} {σ8:St} {H8:Hp},Inv (cxComp X scope N' cl C s₂ H₂ fp) ([]++pinsAt fp s5.heap) σ8 H8 s8->tn (i+1) s8.heap/\∀ b∈fp,H8 b=none:=fun {s8 σ8 H8} I8=>
   ⟨T.keep _ _ _ st5 fun b hb o e=>(I8.pin (b,o) (List.mem_append_right _ (List.mem_append_right _ (mem_pinsAt hb e)))).1,fun b hb=>by
    obtain ⟨o,e,d⟩:=T.obj _ _ st5 b hb
    exact (I8.pin (b,o) (List.mem_append_right _ (List.mem_append_right _ (mem_pinsAt hb e)))).2.1⟩
  cases ok with
  | false=>
    rw [if_neg Bool.false_ne_true] at q7
    obtain ⟨m',hm,w7⟩:=q7
    obtain ⟨t1,t2⟩:=again I7
    exact wpAny_pure ⟨rfl,m',hm,i+1,σ6,H7,I7.unpinned,t1,t2,w7⟩
  | true=>
    rw [if_pos rfl] at q7
    refine wpAny_bind (wpAny_bind (wpAny_mono (hk _ s7 σ6 H7 _ I7 q7) (fun y s8 ⟨yv,H8,I8,r8,q8⟩=>?_) (fun _ _ z=>z.elim)))
    refine wpAny_bind (wpAny_holding (wpAny_mono (hv _ s8 σ6 H8 _ I8 q8) (fun y2 s9 ⟨zv,H9,I9,r9,kvs,k,e9,ek,hl,m',hm,w9⟩=>?_) (fun _ _ z=>z.elim)))
    refine wpAny_bind (wpAny_standAt (wpAny_holding ?_))
    refine d_dictSet (X:=cxComp X scope N' cl C s₂ H₂ fp) I9 e9 ek hl r8 r9 fun s10 I10=>?_
    obtain ⟨t1,t2⟩:=again I10
    exact wpAny_pure ⟨rfl,m',hm,i+1,σ6,_,I10.unpinned,t1,t2,w9⟩
def tDComp (wi:TI) (g:TG) (tt:TT) (tk tv:TE) (k:Nat) (js:List Nat):TE:=fun σ H Q=>wi σ H fun J H1=>∀ acc,H1 acc=none->∃ W:Nat->Nat->St->Hp->Prop,(∃ m,W 0 m (compSt k js σ) (upd H1 acc (.dK [])))/\
 DTurn J g tt tk tv acc (fun H2=>Q (.ref acc) H2) W
section
variable {X:Cx} {scope:Scope} {own:List Str} {js:List Nat} {N':List Str} {wi:TI} {g:TG} {tt:TT} {tk tv:TE} {ke ve tg iter:Expr} {ifs:List Expr} {pos:Pos}
theorem dcomp_run {pins:List (Addr×Obj)} {σ:St} {H:Hp} {s:Shared} {it:Addr} {fp:List Addr} {tn:Nat->Heap->Prop} {J:It} {cl:List (Str×Addr)} {F:Addr->Hp->Prop} {E:Value->Shared->Prop} {RR:Value->Addr->Result->Shared->Prop}
 (S:CompScope X scope own js N') (hcalm:X.calm=true) (hg:∀ cl C s₀ H₀ ex,PG (cxComp X scope N' cl C s₀ H₀ ex) tg g) (hc:∀ cl C s₀ H₀ ex,PIfs (cxComp X scope N' cl C s₀ H₀ ex) ifs tt) (hk:∀ cl C s₀ H₀ ex,PE (cxComp X scope N' cl C s₀ H₀ ex) ke tk) (hv:∀ cl C s₀ H₀ ex,PE (cxComp X scope N' cl C s₀ H₀ ex) ve tv)
 (hc1:∀ x c,cl.lookup x=some c->X.env.cells.lookup x=some c) (hc2:∀ x,(x,NameKind.free)∈scope.names->∃ c,cl.lookup x=some c)
 (I:Inv X pins σ H s) (T:Turn X.prog X.w X.K tg J fp it tn) (st:tn 0 s.heap) (hf:∀ b∈fp,FpOk X pins H b)
 (hW:∀ acc,H acc=none->∃ W:Nat->Nat->St->Hp->Prop,(∃ m,W 0 m (compSt own.length js σ) (upd H acc (.dK [])))/\DTurn J g tt tk tv acc (F acc) W)
 (fin:∀ acc C H' s' m,Inv X pins σ H' s'->s'.heap.Ns C m->H' C=none->C≠X.env.locals->X.s₀.heap.objs.size≤C->(∀ x c,X.env.cells.lookup x=some c->c≠C)->(∀ p∈X.pn++pins,p.1≠C)->F acc H'->RR (.ref acc) C (.ok .next) s') :
 wpAny (model X.prog X.w) X.A newDict (fun acc s₃=>wpAny (model X.prog X.w) X.A (newFunctionEnv scope X.env.globals cl [] X.env.qual none .none (some X.env)) (fun cenv s₄=>
  codeAny (model X.prog X.w) X.A (.compStart (.DictComp ke ve [⟨tg,iter,ifs,0⟩] scope pos) 0 (.ref it) acc { cenv with scope:=relabel scope X.env }) (RR acc cenv.locals) s₄) E s₃) E s:=by
 refine wpAny_newObj_type (wpAny_newFunctionEnv S.nocell (by intro y hy;simp at hy) (fun h₁ hns₁ hsb₁=>?_) S.kind)
 dsimp only at hns₁ hsb₁ ⊢
 have hHA:H s.heap.objs.size=none:=I.hok.fresh (Nat.le_refl _)
 have IL:Inv X pins σ (upd H s.heap.objs.size (.dK [])) { s with heap:=s.heap.push { cls:=.type "dict",data:=.dict #[] },toks:=s.toks }:=I.laid (a:=s.heap.objs.size) (o:=.dK []) (t':=s.toks) (fun _ _ q=>Heap.get?_push_of_some _ q) (Nat.le_refl _) (dk_empty s.heap I.big)
 obtain ⟨W,⟨m0,w0⟩,turn⟩:=hW _ hHA
 have stL:tn 0 (s.heap.push { cls:=.type "dict",data:=.dict #[] }):=T.keep _ _ _ st fun b hb o e=>Heap.get?_push_of_some _ e
 have fpLt0:∀ b∈fp,b<s.heap.objs.size:=fun b hb=>by
  obtain ⟨o,e,_⟩:=T.obj _ _ st b hb
  exact Heap.lt_size e
 have hfL:∀ b∈fp,FpOk X pins (upd H s.heap.objs.size (.dK [])) b:=fun b hb=>by
  obtain ⟨f0,f⟩:=hf b hb
  exact ⟨by rw [upd_ne (Nat.ne_of_lt (fpLt0 b hb))];exact f0,f⟩
 generalize hH2:s.heap.push { cls:=.type "dict",dict:=none,data:=.dict #[] }=H2 at hns₁ hsb₁ IL stL ⊢
 have hC:H2.objs.size=s.heap.objs.size+1:=by rw [← hH2,Heap.size_push]
 generalize hHn:upd H s.heap.objs.size (.dK [])=HL at IL hfL w0
 generalize hAn:s.heap.objs.size=acc at *
 have below:∀ b,b<H2.objs.size->b≠H2.objs.size:=fun b hb=>Nat.ne_of_lt hb
 have old:∀ b o,H2.get? b=some o->h₁.get? b=some o:=fun b o e=>hsb₁.extBut b o (below b (Heap.lt_size e)) (Heap.get?_push_of_some _ e)
 generalize hCn:H2.objs.size=C at *
 have cellLt:∀ x c,X.env.cells.lookup x=some c->c<C:=fun x c e=>by
  obtain ⟨v,q⟩:=IL.cell x c e
  rw [← hCn];exact q.lt
 have pinLt:∀ p∈X.pn++pins,p.1<C:=fun p hp=>by rw [← hCn];exact Heap.lt_size (IL.pin p hp).1
 have fpLt:∀ b∈fp,b<C:=fun b hb=>Nat.lt_of_lt_of_le (fpLt0 b hb) (by rw [hC];exact Nat.le_succ _)
 have hHC:HL C=none:=IL.hok.fresh (by show H2.objs.size≤C;rw [hCn];exact Nat.le_refl _)
 have I1:Inv (cxComp X scope N' cl C { s with heap:=H2,toks:=s.toks } HL fp) [] (compSt own.length js σ) HL { s with heap:=h₁,toks:=s.toks+([]:List (Str×Value)).length }:=
  Inv.comp S IL hc1 hc2 (by show H2.objs.size≤C;rw [hCn];exact Nat.le_refl _) hns₁ old (fun b hb=>⟨hfL b hb,by show b<H2.objs.size;rw [hCn];exact fpLt b hb⟩) hHC fun b o e=>below b (by rw [← hCn];exact Heap.lt_size e)
 have st1:tn 0 h₁:=T.keep _ _ _ stL fun b hb o e=>old b o e
 have loop:∀ s₃:Shared,s₃={ s with heap:=h₁,toks:=s.toks+([]:List (Str×Value)).length }->
  codeAny (model X.prog X.w) X.A (.compLoop (.DictComp ke ve [⟨tg,iter,ifs,0⟩] scope pos) 0 (.ref it) (.ref acc) (compEnvC scope cl C X.env)) (RR (.ref acc) C) s₃:=by
  rintro s₃ rfl
  refine dcomp_loop W turn T (hg _ _ _ _ _) (hc _ _ _ _ _) (hk _ _ _ _ _) (hv _ _ _ _ _) hcalm
   (fun b hb=>⟨below b (fpLt b hb),fun z=>?_,fun x c e z=>(hfL b hb).2.2.2.2.1 x c (hc1 x c e) z⟩) ?_ I1 st1 (fun b hb=>(hfL b hb).1) w0
  ·rcases List.mem_cons.mp (IL.stkSub b z) with q|q
   ·exact (hfL b hb).2.1 q
   ·exact (hfL b hb).2.2.1 q
  ·intro s' σ' H' J' q
   obtain ⟨m,hm,_⟩:=J'.loc
   have IX:Inv X pins σ H' s':=IL.call' J'.os J'.base J'.hok J'.bare fun b hb=>⟨(hfL b hb).2.2.2.1,(hfL b hb).2.1,(hfL b hb).2.2.2.2.1,(hfL b hb).2.2.2.2.2⟩
   refine fin acc C H' s' m IX hm J'.free ?_ ?_ ?_ ?_ q
   ·exact Nat.ne_of_gt (Nat.lt_of_lt_of_le IL.lt (by show H2.objs.size≤C;rw [hCn];exact Nat.le_refl _))
   ·exact Nat.le_trans IL.sz (by show H2.objs.size≤C;rw [hCn];exact Nat.le_refl _)
   ·exact fun x c e z=>absurd (cellLt x c e) (by rw [z];exact Nat.lt_irrefl _)
   ·exact fun p hp z=>absurd (pinLt p hp) (by rw [z];exact Nat.lt_irrefl _)
 exact codeAny_compStart_dict (loop _ rfl) (T.self _ 0 _ _ _ st1 (loop _ rfl))
theorem ps_setDComp {i:Nat} {x:Str} {pos' spos:Pos} (S:CompScope X scope own js N') (hcalm:X.calm=true) (hN:X.N.Nodup) (hx:X.N[i]?=some x) (hk:X.env.scope.names.lookup x=some .local) (hi:PI X tg iter wi) (hg:∀ cl C s₀ H₀ ex,PG (cxComp X scope N' cl C s₀ H₀ ex) tg g) (hc:∀ cl C s₀ H₀ ex,PIfs (cxComp X scope N' cl C s₀ H₀ ex) ifs tt)
 (hke:∀ cl C s₀ H₀ ex,PE (cxComp X scope N' cl C s₀ H₀ ex) ke tk) (hve:∀ cl C s₀ H₀ ex,PE (cxComp X scope N' cl C s₀ H₀ ex) ve tv) (hsw:swapsWith (.DictComp ke ve [⟨tg,iter,ifs,0⟩] scope pos) (some (.Name x pos')) spos.line X.env=pure true:=by rfl) (hs:∀ x,foldedSetIterable iter X.env x=pure x:=by intro _;rfl) :
 PS X (.Assign [.Name x pos'] (.DictComp ke ve [⟨tg,iter,ifs,0⟩] scope pos) spos) (tAsg (tDComp wi g tt tk tv own.length js) (gName i)):=by
 intro pins s σ H D I h
 obtain ⟨cl,hcl,hc1,hc2⟩:=closure_ok (env:=X.env) scope fun y hy hk=>I.ok.has y.1 (S.free y hy hk)
 rw [exec_Assign_Name_used _ _ _ _ hsw]
 refine wpAny_bind (wpAny_standAt (wpAny_bind ?_))
 show wpAny _ X.A (do let _ ← comprehension (.DictComp ke ve [⟨tg,iter,ifs,0⟩] scope pos) scope X.env _ newDict false (eval iter X.env) (some (assign (.Name x pos') X.env))) _ _ s
 refine wpAny_bind (wpAny_mono (wpAny_comprehension_free (use:=some (assign (.Name x pos') X.env)) (Q:=fun _ s'=>SP X pins D .next s') rfl hs hcl S.kind S.names
  (thn (hi pins s σ H _ I h) fun v s1 h1=>thn h1 fun itv s2 h2=>?_)) (fun _ s' hq=>wpAny_pure (wpAny_pure hq)) fun _ _ e=>e)
 obtain ⟨it,fp,tn,J,H2,e,I2,T,st2,f2,hW⟩:=h2
 subst e
 refine dcomp_run (RR:=fun acc C=>compPost (model X.prog X.w) X.A X.xe (some (assign (.Name x pos') X.env)) (fun _ s'=>SP X pins D .next s') acc C) S hcalm hg hc hke hve hc1 hc2 I2 T st2 f2 hW ?_
 intro acc C H' s' m IX hm hCn hL hz hcn hpn q
 show wpAny _ X.A (assign (.Name x pos') X.env (.ref acc)) _ _ s'
 refine wpAny_assign_Name (store_ok2 IX hN hx (.inl hk) (v:=.ref acc) rfl (fun s'' I'' hsb=>?_) (.inr hk))
 obtain ⟨a,hsb,ha⟩:=hsb
 have haC:C≠a:=by
  rcases ha with z|z
  ·rw [z];exact hL
  ·exact fun q=>hcn x a z q.symm
 refine ⟨m,hm.sameBut hsb haC,fun h' hs'=>⟨_,_,?_,q⟩⟩
 exact I''.turned (t':=s''.toks) (it:=C) (fun b o hb e=>(hs'.2 b hb).trans e) hCn hL (.inr hz) hcn hpn
end
end L2
namespace L2
open PySem PySem.Spec PyProof.Rows PySem.SeqAt
theorem len1 {α:Type} {us:List α} (h:us.length=1):∃ a,us=[a]:=List.length_eq_one_iff.mp h
theorem len2 {α:Type} {us:List α} (h:us.length=2):∃ a b,us=[a,b]:=by
 cases us with
 |nil=>cases h
 | cons a r=>
   obtain ⟨b,rfl⟩:=len1 (us:=r) (by simpa using h)
   exact ⟨a,b,rfl⟩
theorem len3 {α:Type} {us:List α} (h:us.length=3):∃ a b c,us=[a,b,c]:=by
 cases us with
 |nil=>cases h
 | cons a r=>
   obtain ⟨b,c,rfl⟩:=len2 (us:=r) (by simpa using h)
   exact ⟨a,b,c,rfl⟩
theorem len4 {α:Type} {us:List α} (h:us.length=4):∃ a b c d,us=[a,b,c,d]:=by
 cases us with
 |nil=>cases h
 | cons a r=>
   obtain ⟨b,c,d,rfl⟩:=len3 (us:=r) (by simpa using h)
   exact ⟨a,b,c,d,rfl⟩
end L2
namespace L2
open PySem PySem.Spec PyProof.Rows
theorem dcomp_range {lo:Int} {n:Nat} {g:TG} {tk tv:TE} {acc:Addr} {F:Hp->Prop} {σ0:St} {H0:Hp} (Pv:Nat->St->Hp->Prop) (h0:Pv 0 σ0 H0)
 (hs:∀ i σ H,i<n->Pv i σ H->∀ N:St->Hp->Prop,(∀ σ' H',Pv (i+1) σ' H'->N σ' H')->g (.int (lo+i)) σ H fun σ2 H2=>tk σ2 H2 fun y H4=>tv σ2 H4 fun z H5=>∃ kvs k,H5 acc=some (.dK kvs)/\y=kV k/\kvs.length<sizeLine/\N σ2 (upd H5 acc (.dK (putK kvs k z))))
 (hd:∀ σ H,Pv n σ H->F H):∃ W:Nat->Nat->St->Hp->Prop,(∃ m,W 0 m σ0 H0)/\DTurn (Itr lo n) g tYes tk tv acc F W:=by
 refine ⟨fun i m σ H=>m=n-i/\i≤n/\Pv i σ H,⟨n,by simp,Nat.zero_le _,h0⟩,?_⟩
 rintro i m σ H ⟨rfl,hi,p⟩
 by_cases hlt:i<n
 ·refine .inr ⟨hlt,fun x H' y=>?_⟩
  obtain ⟨e,y⟩:=y
  subst e y
  exact hs i σ _ hlt p (fun σ' H'=>∃ m',m'<n-i/\m'=n-(i+1)/\i+1≤n/\Pv (i+1) σ' H') fun σ' H' q=>⟨n-(i+1),by omega,rfl,hlt,q⟩
 ·have e:i=n:=by omega
  subst e
  exact .inl ⟨Nat.le_refl _,hd σ H p⟩
theorem dget_int {H:Hp} {p:Addr} {kvs:List (Key×V)} {v:Int} {x:V} (h:H p=some (.dK kvs)) (e:valV kvs (.inl v)=some x):DGet H p (.int v) (some x):=by
 rw [← e];exact DGet.k (k:=Sum.inl v) h
theorem putK_old {kvs:List (Key×V)} {k:Key} {x v:V} (h:valV kvs k=some x):(putK kvs k v).length=kvs.length:=by
 unfold putK
 rw [if_pos ?_,List.length_map]
 unfold valV at h
 cases e:kvs.find? fun kv=>decide (kv.1=k) with
 |none=>rw [e] at h;cases h
 | some q=>
   rw [List.any_eq_true]
   exact ⟨q,List.mem_of_find?_eq_some e,by simpa using List.find?_some e⟩
theorem vals_nums:∀ {ns:List Int} {us:List Value},Vals (ns.map V.int) us->∃ ps:List (Int×Tok),us=ps.map (fun p=>Value.int p.1 p.2)/\ps.map (·.1)=ns
 |[],_,r=>by rw [List.map_nil] at r;cases r;exact ⟨[],rfl,rfl⟩
 | n::ns,_,r=>by
   rw [List.map_cons] at r
   cases r with
   | cons h t=>
     obtain ⟨tk,rfl⟩:=(show ∃ t,_=Value.int n t from h)
     obtain ⟨ps,e1,e2⟩:=vals_nums t
     exact ⟨(n,tk)::ps,by rw [e1];rfl,by rw [List.map_cons,e2]⟩
theorem numAt_eq {ps:List (Int×Tok)} {ns:List Int} (e:ps.map (·.1)=ns) {i:Nat} (h:i<ns.length):numAt ps.toArray i=ns[i]:=by
 subst e
 unfold numAt
 simp at h ⊢
 rw [List.getElem?_eq_getElem h]
 rfl
theorem items_eq {ps:List (Int×Tok)}:(ps.map (fun p=>Value.int p.1 p.2)).toArray=intItems ps.toArray:=by
 unfold intItems
 simp
section
variable {X:Cx}
end
theorem comp_listF {K:PySem.W.Frag} {a:Addr} {xs:List V} {g:TG} {tt:TT} {te:TE} {F:List V->Hp->Prop} {σ0:St} {H0:Hp} (Pv:Nat->List V->St->Hp->Prop) (hn:xs.length≤sizeLine) (h0:Pv 0 [] σ0 H0) (hq:∀ i ys σ H,i≤xs.length->Pv i ys σ H->SqL K H a xs)
 (hs:∀ i x ys σ H,xs[i]?=some x->Pv i ys σ H->∀ N:List V->St->Hp->Prop,(∀ ys' σ' H',Pv (i+1) ys' σ' H'->ys'.length≤ys.length+1->N ys' σ' H')->g x σ H fun σ2 H2=>tt σ2 H2 fun b H3=>if b=true then te σ2 H3 fun y H4=>N (ys++[y]) σ2 H4 else N ys σ2 H3)
 (hd:∀ ys σ H,ys.length≤xs.length->Pv xs.length ys σ H->F ys H) :
 ∃ W:Nat->Nat->List V->St->Hp->Prop,(∃ m,W 0 m [] σ0 H0)/\CTurn (Itl K a) g tt te F W:=by
 refine ⟨fun i m ys σ H=>m=xs.length-i/\i≤xs.length/\ys.length≤i/\Pv i ys σ H,⟨xs.length,by simp,Nat.zero_le _,Nat.zero_le _,h0⟩,?_⟩
 rintro i m ys σ H ⟨rfl,hi,hl,p⟩
 have q:=hq i ys σ H hi p
 by_cases hlt:i<xs.length
 ·refine .inr ⟨⟨xs,xs[i],q,by simp [hlt]⟩,by omega,fun x H' y=>?_⟩
  obtain ⟨e,y⟩:=y
  subst e
  refine hs i x ys σ _ (y xs q) p (fun ys' σ' H'=>∃ m',m'<xs.length-i/\m'=xs.length-(i+1)/\i+1≤xs.length/\ys'.length≤i+1/\Pv (i+1) ys' σ' H') fun ys' σ' H' q hl'=>⟨xs.length-(i+1),by omega,rfl,hlt,by omega,q⟩
 ·have e:i=xs.length:=by omega
  subst e
  exact .inl ⟨⟨xs,q,Nat.le_refl _⟩,hd ys σ H hl p⟩
end L2
namespace L2
open PySem PySem.Spec PyProof.Rows PySem.SeqAt
def EvE (t:TE) (σ:St) (H:Hp) (v:V):Prop:=∀ Q:VK,Q v H->t σ H Q
def EvR (r:R2) (x y:V) (H:Hp) (v:V):Prop:=∀ Q:VK,Q v H->r x y H Q
section
variable {σ:St} {H:Hp} {ta tb tc:TE} {t u:TT} {x y z v:V} {r r':R2} {k k':Bool} {f:TF} {m n:Nat}
theorem EvE.var {i:Nat} (h:σ[i]?=some (some v)):EvE (tVar i) σ H v:=fun Q q=>⟨v,h,q⟩
theorem EvE.con:EvE (tC v) σ H v:=fun Q q=>q
theorem EvE.op (a:EvE ta σ H x) (b:EvE tb σ H y) (c:EvR r x y H v):EvE (tOp r ta tb) σ H v:=fun Q q=>a _ (b _ (c _ q))
theorem EvR.i0 {g:Int->Int->V} {i j:Int}:EvR (rI0 g) (.int i) (.int j) H (g i j):=fun Q q=>⟨i,j,rfl,rfl,q⟩
theorem EvR.eq (h:scal x y=true):EvR rEq x y H (.bl (decide (x=y))):=fun Q q=>⟨h,q⟩
theorem EvE.chain (a:EvE ta σ H x) (b:EvE tb σ H y) (c:EvE tc σ H z) (h:EvR r x y H (.bl k)) (h':EvR r' y z H (.bl k')):EvE (tChain r r' ta tb tc) σ H (.bl (k && k')):=fun Q q=>a _ (b _ (h _ ⟨k,rfl,by
 cases k with
 |false=>exact ifF rfl q
 |true=>exact ifT rfl (c _ (h' _ q))⟩))
end
variable {X:Cx}
section
variable {σ:St} {H:Hp} {ta tb:TE} {k k':Bool} {x y:V}
theorem EvR.ne (h:scal x y=true):EvR rNe x y H (.bl (!decide (x=y))):=fun Q q=>⟨h,q⟩
end
def setO (P:Program) (w:World) (a:Addr) (n:Nat):HO:=.ext fun h=>∃ S,h.SetOf (intKind P w) a S n
theorem setO_ok {P:Program} {w:World} {H:Hp} {h:Heap} {a:Addr} {n:Nat} (x:∃ S,h.SetOf (intKind P w) a S n):ObjOk P w H h a (setO P w a n):=by
 refine ⟨x,?_,fun h1 h2 z k=>?_⟩
 ·obtain ⟨S,o,es,ep,t,e,_⟩:=x
  exact ⟨o,e⟩
 ·obtain ⟨S,o,es,ep,t,e,r⟩:=z
  exact ⟨S,o,es,ep,t,k _ e,r⟩
theorem firstMet_take {ns:List Int} (hn:ns.Nodup):∀ i,i≤ns.length->firstMet (fun i=>ns.getD i 0) i=ns.take i
 |0,_=>by rw [firstMet_zero,List.take_zero]
 | i+1,h=>by
   have hi:i<ns.length:=h
   rw [firstMet_succ,firstMet_take hn i (Nat.le_of_lt hi),List.take_add_one,List.getElem?_eq_getElem hi]
   have e:ns.getD i 0=ns[i]:=by simp [List.getD_eq_getElem?_getD,hi]
   unfold step_dedup
   rw [e,if_neg]
   ·rfl
   ·intro z
    rw [List.any_eq_true] at z
    obtain ⟨x,hx,hxe⟩:=z
    obtain ⟨j,hj,rfl⟩:=List.getElem_of_mem hx
    rw [List.getElem_take,beq_iff_eq] at hxe
    rw [List.length_take] at hj
    exact (List.pairwise_iff_getElem.mp hn) j i (by omega) hi (by omega) hxe
theorem ints_vals:∀ {ns:List Int} {us:List Value},Vals (ns.map V.int) us->IntsAre us ns
 |[],_,r=>by rw [List.map_nil] at r;cases r;exact .nil
 | n::ns,_,r=>by
   rw [List.map_cons] at r
   cases r with
   | cons r1 r=>
     obtain ⟨t,rfl⟩:=r1
     exact .cons n t (ints_vals r)
section
variable {X:Cx}
theorem bt_set:bootBuiltins "set" = some (.type "set"):=by decide +kernel
theorem call_setL (hc:X.calm=true):CallR X (.type "set") (fun xs H Q=>∃ (p:Addr) (ns:List Int),xs=[.ref p]/\SqL X.K H p (ns.map V.int)/\ns.Nodup/\ns.length≤1000/\∀ a,H a=none->Q (.ref a) (upd H a (setO X.prog X.w a ns.length))):=by
 intro pins s σ H xs us Q I r h
 obtain ⟨p,ns,rfl,hq,hn,hl,q⟩:=h
 obtain ⟨u,rfl,ru⟩:=vals1 r
 cases (show u=Value.ref p from ru)
 obtain ⟨its,rv,pl,hz⟩:=I.list hq
 have hlen:=rv.length
 rw [List.length_map] at hlen
 have hz':its.toArray.size=ns.length:=by rw [List.size_toArray,hlen]
 refine call_set_list (ns:=ns) (I.ok.hd hc) pl.isList (ints_vals rv) (by rw [hz'];exact Nat.lt_of_le_of_lt (show ns.length+1≤1001 by omega) (by decide)) fun h' tk hS kp=>?_
 rw [hz',firstMet_take hn _ (Nat.le_refl _),List.take_length] at hS
 exact ⟨.ref s.heap.objs.size,_,I.laid (t':=tk) (fun b o e=>kp b o (Heap.lt_size e) e) (Nat.le_refl _) (setO_ok ⟨_,hS⟩),rfl,q _ (I.hok.fresh (Nat.le_refl _))⟩
theorem call_lenS:CallR X (.builtin "len") (fun xs H Q=>∃ a n,xs=[.ref a]/\H a=some (setO X.prog X.w a n)/\Q (.int n) H):=by
 intro pins s σ H xs us Q I r h
 obtain ⟨a,n,rfl,ha,q⟩:=h
 obtain ⟨u,rfl,ru⟩:=vals1 r
 cases (show u=Value.ref a from ru)
 obtain ⟨S,o,es,ep,t,e,hex,hd,hel,hS,hb,hf,rfl⟩:=(I.hok a _ ha).1
 exact call_len_set e hex hd hf (Int.lt_of_lt_of_le (Int.ofNat_lt.mpr hb) (by decide)) ⟨.int es.size,H,I.tok _,⟨_,rfl⟩,q⟩
end
theorem preSum_take {f:Nat->Int} {ns:List Int} (h:∀ i (hi:i<ns.length),f i=ns[i]):∀ k,k≤ns.length->preSum f k=(ns.take k).sum
 |0,_=>rfl
 | k+1,hk=>by
   have hk':k<ns.length:=hk
   show preSum f k+f k=_
   rw [preSum_take h k (Nat.le_of_lt hk'),h k hk',List.take_add_one,List.getElem?_eq_getElem hk',List.sum_append]
   simp
theorem sum_bound {B:Int}:∀ {ns:List Int},(∀ x∈ns,-B≤x/\x≤B)->0≤B->-(B*ns.length)≤ns.sum/\ns.sum≤B*ns.length
 |[],_,_=>by simp
 | n::ns,h,hB=>by
   have h1:=h n (List.mem_cons_self ..)
   have h2:=sum_bound (ns:=ns) (fun x hx=>h x (List.mem_cons_of_mem _ hx)) hB
   rw [List.sum_cons,List.length_cons,Int.natCast_succ,Int.mul_add,Int.mul_one]
   omega
section
variable {X:Cx}
theorem call_sumL (hc:X.calm=true):CallR X (.builtin "sum") (fun xs H Q=>∃ (p:Addr) (ns:List Int),xs=[.ref p]/\SqL X.K H p (ns.map V.int)/\ns.length≤1000/\(∀ x∈ns,-10000000000000≤x/\x≤10000000000000)/\Q (.int ns.sum) H):=by
 intro pins s σ H xs us Q I r h
 obtain ⟨p,ns,rfl,hq,hl,hb,q⟩:=h
 obtain ⟨u,rfl,ru⟩:=vals1 r
 cases (show u=Value.ref p from ru)
 obtain ⟨its,rv,pl,hz⟩:=I.list hq
 obtain ⟨ps,rfl,e⟩:=vals_nums rv
 have hlen:ps.length=ns.length:=by rw [← e,List.length_map]
 have pl':=pl.isList
 rw [items_eq] at pl'
 have at_:∀ i (hi:i<ns.length),numAt ps.toArray i=ns[i]:=fun i hi=>numAt_eq e hi
 refine sum_intList (I.ok.hd hc) pl' (fun j hj=>?_) fun h' tk t' k=>?_
 ·have hj':j<ns.length:=by simpa [hlen] using hj
  rw [at_ j hj',preSum_take at_ (j+1) hj']
  have b1:=hb _ (List.getElem_mem hj')
  have b2:=sum_bound (B:=10000000000000) (ns:=ns.take (j+1)) (fun x hx=>hb x (List.mem_of_mem_take hx)) (by decide)
  have b3:(ns.take (j+1)).length≤1000:=by rw [List.length_take];omega
  refine ⟨⟨?_,?_⟩,?_,?_⟩ <;> omega
 ·have:preSum (numAt ps.toArray) ps.toArray.size=ns.sum:=by
   rw [List.size_toArray,hlen,preSum_take at_ _ (Nat.le_refl _),List.take_length]
  rw [this]
  exact ⟨.int _,H,I.kept k,⟨_,rfl⟩,q⟩
end
section
variable {X:Cx}
end
end L2
namespace L2
open PySem PySem.Spec PyProof.Rows
section
variable {X:Cx} {pins:List (Addr×Obj)} {σ:St} {H:Hp} {s:Shared}
end
section
variable {X:Cx} {scope:Scope} {own:List Str} {js:List Nat} {N':List Str} {wi:TI} {g:TG} {tt:TT} {te:TE} {elt tg iter:Expr} {ifs:List Expr} {pos:Pos}
end
end L2
namespace L2
open PySem
end L2
namespace L2
open PySem PySem.Spec PyProof.Rows PySem.SeqAt
section
variable {prog:Program} {w:World} {A:Around} {E:Value->Shared->Prop} {s:Shared}
end
section
variable {prog:Program} {w:World} {A:Around} {E:Value->Shared->Prop} {s:Shared}
end
variable {X:Cx}
end L2
namespace L2
open PySem PySem.Spec PyProof.Rows PySem.W PyProof.V
section
variable {X:Cx} {pins:List (Addr×Obj)} {σ:St} {H:Hp} {s:Shared} {a:Addr} {D:List (Str×PyData)}
end
end L2
namespace L2
open PySem PySem.Spec PyProof.Rows PySem.SeqAt PySem.Builtin PySem.Builtin.Str
section
variable {X:Cx}
end
end L2
namespace L2
open PySem PySem.Spec PyProof.Rows PySem.SeqAt
section
variable {X:Cx}
end
section
variable {X:Cx}
theorem op_isnotB:OpR X (compareOp .IsNot) (fun x y H Q=>∃ b c,x=.bl b/\y=.bl c/\Q (.bl (!(b == c))) H):=by
 intro pins s σ H x y v u Q I rx ry h
 obtain ⟨b,c,rfl,rfl,q⟩:=h
 cases (show v=Value.bool b from rx)
 cases (show u=Value.bool c from ry)
 cases b <;> cases c <;> exact (show wpAny _ _ (pure (Value.bool _)) _ _ s from wpAny_pure ⟨.bl _,H,I,rfl,q⟩)
end
end L2
namespace L2
open PySem PySem.Spec PyProof.Rows PySem.SeqAt PySem.Builtin PySem.Builtin.Str
section
variable {X:Cx}
end
section
variable {X:Cx}
end
section
variable {X:Cx}
end
section
variable {X:Cx}
end
theorem comp_rangeF {lo:Int} {n:Nat} {g:TG} {tt:TT} {te:TE} {F:List V->Hp->Prop} {σ0:St} {H0:Hp} (Pv:Nat->List V->St->Hp->Prop) (hn:n≤sizeLine) (h0:Pv 0 [] σ0 H0)
 (hs:∀ i ys σ H,i<n->Pv i ys σ H->∀ N:List V->St->Hp->Prop,(∀ ys' σ' H',Pv (i+1) ys' σ' H'->ys'.length≤ys.length+1->N ys' σ' H')->g (.int (lo+i)) σ H fun σ2 H2=>tt σ2 H2 fun b H3=>if b=true then te σ2 H3 fun y H4=>N (ys++[y]) σ2 H4 else N ys σ2 H3)
 (hd:∀ ys σ H,ys.length≤n->Pv n ys σ H->F ys H) :
 ∃ W:Nat->Nat->List V->St->Hp->Prop,(∃ m,W 0 m [] σ0 H0)/\CTurn (Itr lo n) g tt te F W:=by
 refine ⟨fun i m ys σ H=>m=n-i/\i≤n/\ys.length≤i/\Pv i ys σ H,⟨n,by simp,Nat.zero_le _,Nat.zero_le _,h0⟩,?_⟩
 rintro i m ys σ H ⟨rfl,hi,hl,p⟩
 by_cases hlt:i<n
 ·refine .inr ⟨hlt,by omega,fun x H' y=>?_⟩
  obtain ⟨e,y⟩:=y
  subst e y
  exact hs i ys σ _ hlt p (fun ys' σ' H'=>∃ m',m'<n-i/\m'=n-(i+1)/\i+1≤n/\ys'.length≤i+1/\Pv (i+1) ys' σ' H') fun ys' σ' H' q hl'=>⟨n-(i+1),by omega,rfl,hlt,by omega,q⟩
 ·have e:i=n:=by omega
  subst e
  exact .inl ⟨Nat.le_refl _,hd ys σ H hl p⟩
end L2
namespace L2
open PySem PySem.Spec PyProof.Rows PySem.SeqAt
section
variable {X:Cx}
end
section
variable {X:Cx} {pins:List (Addr×Obj)} {σ:St} {H:Hp} {s:Shared} {h':Heap}
end
end L2
namespace L2
open PySem PySem.Spec PyProof.Rows PySem.SeqAt PySem.Builtin PySem.Builtin.Str
section
variable {X:Cx}
end
section
variable {prog:Program} {w:World} {A:Around} {E:Value->Shared->Prop} {s:Shared} {l:Addr}
end
section
variable {X:Cx} {pos:Pos}
end
end L2
namespace L2
open PySem PySem.Spec PyProof.Rows PySem.SeqAt PySem.Builtin
variable {X:Cx} {pos:Pos}
end L2
namespace L2
open PySem PySem.Spec PyProof.Rows PySem.SeqAt PySem.W Builtin.ObjectAttr
end L2
namespace L2
open PySem PySem.Spec PyProof.Rows PySem.SeqAt PySem.W
variable {X:Cx}
end L2
namespace L2
open PySem PySem.Spec PyProof.Rows
section
variable {X:Cx} {scope:Scope} {own:List Str} {js:List Nat} {N':List Str} {wi wi2:TI} {g g2:TG} {tt tt2:TT} {te:TE} {elt tg iter tg2 iter2:Expr} {ifs ifs2:List Expr} {pos:Pos}
end
theorem vals_of_ints:∀ {us:List Value} {ns:List Int},IntsAre us ns->Vals (ns.map V.int) us
 |_,_,.nil=>.nil
 |_,_,.cons n t h=>.cons ⟨t,rfl⟩ (vals_of_ints h)
section
variable {X:Cx}
end
section
variable {prog:Program} {w:World} {A:Around} {R:Result->Shared->Prop} {I:Addr} {fp wr:List Addr} {n:Nat} {P:Nat->Value->Prop} {St:Nat->Heap->Prop}
end
section
variable {prog:Program} {w:World} {A:Around} {E:Value->Shared->Prop} {s:Shared} {l:Addr} {xs:Array (Int×Tok)}
end
section
variable {X:Cx}
end
section
variable {X:Cx} {scope:Scope} {own:List Str} {js:List Nat} {N':List Str} {wi:TI} {g:TG} {tt:TT} {te:TE} {tf:St->TE} {elt tg iter:Expr} {ifs:List Expr} {pos:Pos}
end
end L2
namespace L2
open PySem PySem.Spec PyProof.Rows PySem.SeqAt
section
variable {prog:Program} {w:World} {A:Around} {E:Value->Shared->Prop} {s:Shared} {l:Addr} {x y z:Value}
end
section
variable {X:Cx} {pos:Pos}
end
section
variable {X:Cx}
end
section
variable {X:Cx} {CX:CXT} {k:Nat} {f C:Addr} {fd:FuncData} {ps ks:List Str} {sp:Sp} {E:XK} {m:Str} {pos apos:Pos} {o:Expr} {kws:List Keyword} {ta:TE} {tk:TA} {g:List Value->List Value->List Value} {gV:List V->List V->List V}
end
section
variable {prog:Program} {w:World} {A:Around} {R:Result->Shared->Prop} {I:Addr} {fp wr:List Addr} {G:Array GenState->Array GenState->Prop} {n:Nat} {P:Nat->Value->Prop} {St:Nat->Shared->Prop}
end
section
open PySem.F
variable {prog:Program} {w:World} {A:Around} {E:Value->Shared->Prop} {s:Shared}
end
section
variable {X:Cx}
end
section
variable {prog:Program} {w:World} {A:Around} {E:Value->Shared->Prop} {s:Shared} {K:Type} [DecidableEq K] {knd:KeyKind prog w K}
end
section
variable {X:Cx}
end
def Rise (xs:Array Nat):Prop:=∀ i j a b:Nat,i<j->xs[i]?=some a->xs[j]?=some b->a<b
theorem below_go {xs:Array Nat} {j:Nat} (R:Rise xs):∀ (f lo hi:Nat),lo≤hi->hi≤xs.size->hi-lo≤f->(∀ i a,i<lo->xs[i]?=some a->a<j)->(∀ i a,hi≤i->xs[i]?=some a->j≤a)->
 SetTable.below.go xs j f lo hi≤xs.size/\(∀ i a,i<SetTable.below.go xs j f lo hi->xs[i]?=some a->a<j)/\∀ i a,SetTable.below.go xs j f lo hi≤i->xs[i]?=some a->j≤a
 | 0,lo,hi,h1,h2,h3,a1,a2=>by
   have e:lo=hi:=by omega
   subst e
   exact ⟨h2,a1,a2⟩
 | f+1,lo,hi,h1,h2,h3,a1,a2=>by
   unfold SetTable.below.go
   split
   ·rename_i hlt
    have hm:(lo+hi) / 2<xs.size:=by omega
    have eg:xs[(lo+hi) / 2]?=some (xs.getD ((lo+hi) / 2) j):=by rw [Array.getD_eq_getD_getElem?,Array.getElem?_eq_getElem hm];rfl
    dsimp only
    generalize xs.getD ((lo+hi) / 2) j=y at eg ⊢
    by_cases hs:y<j
    ·simp only [if_pos hs]
     refine below_go R f ((lo+hi) / 2+1) hi (by omega) h2 (by omega) (fun i a hi' e=>?_) a2
     by_cases q:i=(lo+hi) / 2
     ·subst q;rw [eg] at e;cases e;exact hs
     ·exact Nat.lt_trans (R i ((lo+hi) / 2) a _ (by omega) e eg) hs
    ·simp only [if_neg hs]
     refine below_go R f lo ((lo+hi) / 2) (by omega) (by omega) (by omega) a1 (fun i a hi' e=>?_)
     by_cases q:i=(lo+hi) / 2
     ·subst q;rw [eg] at e;cases e;omega
     ·exact Nat.le_trans (Nat.not_lt.mp hs) (Nat.le_of_lt (R ((lo+hi) / 2) i _ a (by omega) eg e))
   ·rename_i hlt
    have e:lo=hi:=by omega
    subst e
    exact ⟨h2,a1,a2⟩
theorem below_is {xs:Array Nat} {j:Nat} (R:Rise xs):SetTable.below xs j≤xs.size/\(∀ i a,i<SetTable.below xs j->xs[i]?=some a->a<j)/\∀ i a,SetTable.below xs j≤i->xs[i]?=some a->j≤a:=
 below_go R _ _ _ (Nat.zero_le _) (Nat.le_refl _) (by omega) (fun i a h=>by omega) fun i a h e=>by
  have:=(Array.getElem?_eq_some_iff.mp e).1
  omega
theorem insAt_get {α:Type} {xs:Array α} {p:Nat} {x:α} (hp:p≤xs.size) (i:Nat):(SetTable.insertAt xs p x)[i]?=if i<p then xs[i]? else if i=p then some x else xs[i-1]?:=by
 obtain ⟨l⟩:=xs
 simp only [List.size_toArray] at hp
 unfold SetTable.insertAt
 simp only [List.extract_toArray,List.push_toArray,List.append_toArray,List.getElem?_toArray,List.size_toArray]
 simp only [List.extract_eq_drop_take,Nat.sub_zero,List.drop_zero]
 by_cases h1:i<p
 ·rw [if_pos h1,List.append_assoc,List.getElem?_append_left (by rw [List.length_take];omega),List.getElem?_take,if_pos h1]
 ·rw [if_neg h1,List.append_assoc,List.getElem?_append_right (by rw [List.length_take];omega),List.length_take,Nat.min_eq_left hp]
  by_cases h2:i=p
  ·subst h2;rw [if_pos rfl];simp
  ·rw [if_neg h2]
   obtain ⟨k,hk⟩:∃ k,i-p=k+1:=⟨i-p-1,by omega⟩
   rw [hk]
   simp only [List.singleton_append,List.getElem?_cons_succ]
   rw [List.getElem?_take]
   by_cases h3:k<l.length-p
   ·rw [if_pos h3,List.getElem?_drop];congr 1;omega
   ·rw [if_neg h3,eq_comm,List.getElem?_eq_none_iff];omega
theorem Rise.ins {xs:Array Nat} {j:Nat} (R:Rise xs) (hj:(xs[SetTable.below xs j]? == some j)=false):Rise (SetTable.insertAt xs (SetTable.below xs j) j):=by
 obtain ⟨b1,b2,b3⟩:=below_is (j:=j) R
 have b4:∀ i a,SetTable.below xs j≤i->xs[i]?=some a->j<a:=fun i a h e=>by
  rcases Nat.lt_or_eq_of_le (b3 i a h e) with z|z
  ·exact z
  ·subst z
   rcases Nat.lt_or_eq_of_le h with q|q
   ·have hb:SetTable.below xs j<xs.size:=Nat.lt_of_lt_of_le q (Nat.le_of_lt (Array.getElem?_eq_some_iff.mp e).1)
    have:=R _ i _ _ q (Array.getElem?_eq_getElem hb) e
    have:=b3 _ _ (Nat.le_refl _) (Array.getElem?_eq_getElem hb)
    omega
   ·rw [← q] at e
    rw [e] at hj
    simp at hj
 intro i k a b hik e1 e2
 rw [insAt_get b1] at e1 e2
 by_cases c1:i<SetTable.below xs j
 ·rw [if_pos c1] at e1
  by_cases c2:k<SetTable.below xs j
  ·rw [if_pos c2] at e2;exact R i k a b hik e1 e2
  ·rw [if_neg c2] at e2
   by_cases c3:k=SetTable.below xs j
   ·rw [if_pos c3] at e2;cases e2;exact b2 i a c1 e1
   ·rw [if_neg c3] at e2
    exact Nat.lt_trans (b2 i a c1 e1) (b4 _ b (by omega) e2)
 ·rw [if_neg c1] at e1
  rw [if_neg (by omega),if_neg (by omega)] at e2
  by_cases c3:i=SetTable.below xs j
  ·rw [if_pos c3] at e1;cases e1;exact b4 _ b (by omega) e2
  ·rw [if_neg c3] at e1
   exact R _ _ a b (by omega) e1 e2
theorem rise_list {l:List Nat} (h:l.Pairwise (·<·)):Rise l.toArray:=fun i j a b hij e1 e2=>by
 rw [List.getElem?_toArray] at e1 e2
 obtain ⟨h1,rfl⟩:=List.getElem?_eq_some_iff.mp e1
 obtain ⟨h2,rfl⟩:=List.getElem?_eq_some_iff.mp e2
 exact List.pairwise_iff_getElem.mp h i j h1 h2 hij
structure TbG (led:Bool) (t:SetTable):Prop where
 rise:Rise t.place
 dum:t.dummies=#[]
 led:t.led=led
theorem TbG.fresh {b:Bool}:TbG b (.fresh 0 0 b):=⟨fun i j a c _ e=>by simp [SetTable.fresh] at e,rfl,rfl⟩
theorem TbG.standIn {b:Bool} {t:SetTable} {n:Nat} (g:TbG b t):TbG b (t.standIn n):=
 ⟨fun i j a c h e1 e2=>by
  unfold SetTable.standIn at e1 e2
  dsimp only at e1 e2
  obtain ⟨_,rfl⟩:=Array.getElem?_eq_some_iff.mp e1
  obtain ⟨_,rfl⟩:=Array.getElem?_eq_some_iff.mp e2
  simpa using h,rfl,g.led⟩
theorem TbG.orStandIn {b:Bool} {t:SetTable} {n:Nat} (g:TbG b t):TbG b (t.orStandIn n):=by
 unfold SetTable.orStandIn
 split
 ·exact g
 ·exact g.standIn
theorem TbG.has {b:Bool} {t:SetTable} (g:TbG b t) (j:Nat):SetTable.has t.dummies j=false:=by rw [g.dum];simp [SetTable.has]
theorem TbG.probe {b:Bool} {t:SetTable} (g:TbG b t) {ha:Nat->Int} {h:Int}:∀ (f:Nat) (p:SetTable.Probe) (j:Nat) (d:Option Nat),p.dummy=none->SetTable.probe.go t ha h f p=some (.empty j d)->d=none/\(t.place[SetTable.below t.place j]? == some j)=false
 |0,p,j,d,hp,e=>by simp [SetTable.probe.go] at e
 | f+1,p,j,d,hp,e=>by
   have adv:(t.advance p).dummy=none:=by unfold SetTable.advance;split <;> exact hp
   unfold SetTable.probe.go at e
   have sl:t.slot p.j=if t.place[SetTable.below t.place p.j]? == some p.j then .live (SetTable.below t.place p.j) else .empty:=by
    unfold SetTable.slot
    rw [g.has]
    rfl
   by_cases q:(t.place[SetTable.below t.place p.j]? == some p.j)=true
   ·rw [if_pos q] at sl
    rw [sl] at e
    dsimp only at e
    split at e
    ·cases e
    ·exact g.probe f _ j d adv e
   ·rw [if_neg q] at sl
    rw [sl] at e
    cases e
    exact ⟨hp,by simpa using q⟩
theorem TbG.layNew {b:Bool} {t:SetTable} (g:TbG b t) (es:Array (Int×Value)) (h:Int) (x:Value):TbG b (layNew t es h x).2.1:=by
 unfold PySem.layNew
 split
 ·rename_i sl wd e
  refine TbG.orStandIn ?_
  have:(t.place[SetTable.below t.place sl]? == some sl)=false:=by
   unfold SetTable.freeSlot at e
   split at e
   ·rename_i j d ep
    obtain ⟨rfl,q⟩:=g.probe _ _ j d rfl ep
    cases e
    exact q
   ·cases e
  refine ⟨g.rise.ins this,?_,g.led⟩
  show (if SetTable.has t.dummies sl then _ else t.dummies)=#[]
  rw [g.has,if_neg (by simp),g.dum]
 ·exact g.standIn
theorem TbG.relayAll {b:Bool} {t:SetTable} (g:TbG b t) (es:Array (Int×Value)) (n:Nat):TbG b (relayAll t es n).2.1:=by
 unfold PySem.relayAll
 split
 ·rename_i t' od e
  dsimp only
  split
  ·unfold SetTable.relaid SetTable.laid at e
   rw [Option.bind_eq_bind,Option.bind_eq_some_iff] at e
   obtain ⟨ow,_,e⟩:=e
   cases e
   refine ⟨rise_list ?_,rfl,g.led⟩
   rw [List.pairwise_map,List.pairwise_filterMap]
   refine List.Pairwise.imp ?_ List.pairwise_lt_range
   intro a c hac x hx y hy
   obtain ⟨_,_,rfl⟩:=Option.map_eq_some_iff.mp hx
   obtain ⟨_,_,rfl⟩:=Option.map_eq_some_iff.mp hy
   exact hac
  ·exact g.standIn
 ·exact g.standIn
abbrev byTx (w:World):Bool:=w.params.followText "set-order"
def SetG (P:Program) (w:World) (h:Heap) (a:Addr) (ns:List Int):Prop:=
 ∃ o es ep t,h.get? a=some o/\o.ExactSet/\o.data=.set es ep t/\ElemsOf (intKind P w) es.toList/\(es.toList.map fun e=>numOf e.2).Perm ns/\es.size<scanBound/\t.fits es.size=true/\TbG (!byTx w) t
def adj (ns:List Int) (k:Int):List Int:=if k∈ns then ns else ns++[k]
def dd (ns:List Int):List Int:=ns.foldl adj []
theorem dd_snoc (ns:List Int) (k:Int):dd (ns++[k])=adj (dd ns) k:=by unfold dd;rw [List.foldl_append];rfl
theorem fold_mem:∀ (ns ms:List Int) (x:Int),x∈ns.foldl adj ms↔x∈ms∨x∈ns
 |[],ms,x=>by simp
 | n::r,ms,x=>by
   rw [List.foldl_cons,fold_mem r _ x]
   unfold adj
   split <;> simp only [List.mem_append,List.mem_cons,List.mem_singleton,List.not_mem_nil,or_false]
   ·rename_i h
    constructor
    ·rintro (a|a)
     ·exact .inl a
     ·exact .inr (.inr a)
    ·rintro (a|rfl|a)
     ·exact .inl a
     ·exact .inl h
     ·exact .inr a
   ·rw [or_assoc]
theorem fold_nodup:∀ (ns ms:List Int),ms.Nodup->(ns.foldl adj ms).Nodup
 |[],ms,h=>h
 | n::r,ms,h=>by
   rw [List.foldl_cons]
   refine fold_nodup r _ ?_
   unfold adj
   split
   ·exact h
   ·rename_i q
    rw [List.nodup_append]
    exact ⟨h,by simp,fun a ha b hb=>by simp at hb;subst hb;exact fun e=>q (e ▸ ha)⟩
theorem fold_len:∀ (ns ms:List Int),(ns.foldl adj ms).length≤ms.length+ns.length
 |[],ms=>Nat.le_refl _
 | n::r,ms=>by
   rw [List.foldl_cons]
   refine Nat.le_trans (fold_len r _) ?_
   unfold adj
   split <;> simp <;> omega
theorem dd_mem {ns:List Int} {x:Int}:x∈dd ns↔x∈ns:=by unfold dd;rw [fold_mem];simp
theorem dd_nodup (ns:List Int):(dd ns).Nodup:=fold_nodup ns [] .nil
theorem dd_len (ns:List Int):(dd ns).length≤ns.length:=by have:=fold_len ns [];simpa [dd] using this
section
variable {P:Program} {w:World} {A:Around} {E:Value->Shared->Prop} {s:Shared} {a:Addr} {ns:List Int}
theorem num_is {k:Int} {v:Value} (h:(intKind P w).is k v=true):numOf v=k:=by obtain ⟨t,rfl⟩:=Value.isInt_shape h;rfl
theorem SetG.at {h h':Heap} (g:SetG P w h a ns) (e:∀ o,h.get? a=some o->h'.get? a=some o):SetG P w h' a ns:=
 let ⟨o,es,ep,t,ho,r⟩:=g;⟨o,es,ep,t,e _ ho,r⟩
theorem put_get {h:Heap} {o:Obj} {es es':Array (Int×Value)} {ep:Nat} {t t':SetTable} (ho:h.get? a=some o) (hd:o.data=.set es ep t) :
 (h.update a (Obj.putSet es' t')).get? a=some { o with data:=.set es' (ep+1) t' }:=by
 have e:=Heap.get?_update_self (Obj.putSet es' t') ho (by rw [putSet_of es' t' hd];rfl)
 rwa [putSet_of es' t' hd] at e
theorem add_G {k:Int} {tk:Tok} {Q:Bool->Shared->Prop} (hS:SetG P w s.heap a ns) (hr:ns.length+1<scanBound) (h:∀ b h',Heap.SameBut a s.heap h'->SetG P w h' a (adj ns k)->Q b { s with heap:=h' }) :
 wpAny (model P w) A (setAddHashed a (.int k tk) ((intKind P w).hash k)) Q E s:=by
 obtain ⟨o,es,ep,t,ho,hex,hd,hel,hp,hb,hf,tg⟩:=hS
 have hkey:=intKind_is P w k tk
 have hsz:es.size=ns.length:=by rw [← Array.length_toList,← hp.length_eq,List.length_map]
 unfold setAddHashed setAddHashedIn
 refine wpAny_holding (wpAny_bind (wpAny_setState_of ho hd hf ?_))
 dsimp only
 rw [byScan_of rfl hb hel]
 simp only [↓reduceIte]
 unfold setAddByScan
 refine wpAny_bind (wpAny_bind (wpAny_rule (wpAny_bind (wpAny_setScan_of hkey ho hd hf hel ?_))))
 cases hr':List.findIdx? (fun e=>(intKind P w).is k e.2) es.toList with
 | some j=>
   obtain ⟨hj,hpj,_⟩:=List.findIdx?_eq_some_iff_getElem.mp hr'
   have hm:k∈ns:=hp.mem_iff.mp (List.mem_map.mpr ⟨_,List.getElem_mem hj,num_is hpj⟩)
   dsimp only
   refine wpAny_pure (wpAny_pure ?_)
   exact h false s.heap (Heap.SameBut.refl a s.heap) (by unfold adj;rw [if_pos hm];exact ⟨o,es,ep,t,ho,hex,hd,hel,hp,hb,hf,tg⟩)
 | none=>
   have hm:k∉ns:=fun hk=>by
    obtain ⟨e,he,hn⟩:=List.mem_map.mp (hp.mem_iff.mpr hk)
    obtain ⟨⟨k',hk',_⟩,_⟩:=hel e he
    have e1:=num_is hk'
    have e2:=List.findIdx?_eq_none_iff.mp hr' e he
    rw [hn] at e1
    rw [e1,hk'] at e2
    cases e2
   have gw:∀ (b:Bool) {s₁:Shared} {Q':Unit->Shared->Prop},Q' () s₁->wpAny (model P w) A (match b with|true=>rule "set.scan.the-table-gave-way" | false=>pure ()) Q' E s₁:=
    fun b s₁ Q' q=>by cases b;exact wpAny_pure q;exact wpAny_rule q
   dsimp only
   have l1:=layNew_perm t es ((intKind P w).hash k) (.int k tk)
   have l2:=layNew_fits t es ((intKind P w).hash k) (.int k tk)
   have l3:=tg.layNew es ((intKind P w).hash k) (.int k tk)
   generalize layNew t es ((intKind P w).hash k) (.int k tk)=L at l1 l2 l3 ⊢
   obtain ⟨es1,t1,wd,gv⟩:=L
   dsimp only at l1 l2 l3 ⊢
   rw [Array.toList_push] at l1
   have e1:ElemsOf (intKind P w) es1.toList:=(hel.push hkey rfl).perm l1
   have e2:(es1.toList.map fun e=>numOf e.2).Perm (adj ns k):=by
    unfold adj
    rw [if_neg hm]
    refine (l1.map _).trans ?_
    rw [List.map_append]
    exact hp.append (.refl _)
   have e3:es1.size<scanBound:=by rw [← Array.length_toList,l1.length_eq,List.length_append,Array.length_toList,hsz];exact hr
   refine wpAny_bind (gw _ ?_)
   have tail:wpAny (model P w) A (do
    storeSet a es1 t1
    if (!wd && t1.tooFull)=true then do
        (match (relayAll t1 es1 (SetTable.grown es1.size)).2.2 with|true=>rule "set.scan.the-table-gave-way" | false=>pure ())
        storeSet a (relayAll t1 es1 (SetTable.grown es1.size)).1 (relayAll t1 es1 (SetTable.grown es1.size)).2.1
        pure (some true)
     else pure (some true)) (fun r s'=>r=some true/\Q true s') E s:=by
    refine wpAny_bind (wpAny_storeSet_of ho hd ?_ (fits_of_scanBound e3))
    have g1:=put_get (es':=es1) (t':=t1) ho hd
    have b1:=Heap.SameBut.update s.heap a (Obj.putSet es1 t1)
    split
    ·have r1:=relayAll_perm t1 es1 (SetTable.grown es1.size)
     have r2:=relayAll_fits t1 es1 (SetTable.grown es1.size)
     have r3:=l3.relayAll es1 (SetTable.grown es1.size)
     generalize relayAll t1 es1 (SetTable.grown es1.size)=L at r1 r2 r3 ⊢
     obtain ⟨es2,t2,gv2⟩:=L
     dsimp only at r1 r2 r3 ⊢
     have z:es2.size=es1.size:=by rw [← Array.length_toList,r1.length_eq,Array.length_toList]
     refine wpAny_bind (gw _ ?_)
     refine wpAny_bind (wpAny_storeSet_of g1 rfl ?_ (fits_of_scanBound (by rw [z];exact e3)))
     exact wpAny_pure ⟨rfl,h true _ (b1.trans (Heap.SameBut.update _ a _)) ⟨_,es2,_,t2,put_get g1 rfl,hex,rfl,e1.perm r1,(r1.map _).trans e2,by rw [z];exact e3,r2,r3⟩⟩
    ·exact wpAny_pure ⟨rfl,h true _ b1 ⟨_,es1,_,t1,g1,hex,rfl,e1,e2,e3,l2,l3⟩⟩
   have fin:∀ s',(fun r s'=>r=some true/\Q true s') (some true) s'->wpAny (model P w) A (pure true) Q E s':=fun s' q=>wpAny_pure q.2
   split
   ·refine wpAny_bind ?_
    rw [hashByValue_scannable 8 rfl]
    refine wpAny_pure ?_
    refine wpAny_mono tail (fun r s' q=>?_) fun _ _ e=>e
    obtain ⟨rfl,q⟩:=q
    exact wpAny_pure q
   ·refine wpAny_bind (wpAny_pure ?_)
    simp only [↓reduceIte]
    refine wpAny_mono tail (fun r s' q=>?_) fun _ _ e=>e
    obtain ⟨rfl,q⟩:=q
    exact wpAny_pure q
end
section
variable {P:Program} {w:World} {A:Around} {R:Result->Shared->Prop} {I:Addr} {fp wr:List Addr} {G:Array GenState->Array GenState->Prop} {n:Nat} {Pv:Nat->Value->Prop} {St:Nat->Shared->Prop}
theorem upd_loop (W:WalksS P w A.in1 I fp wr G n Pv St) {S:Addr} (nf:S∉fp) (val:Nat->Int) (hv:∀ i v,Pv i v->∃ t,v=.int (val i) t) (hb:n+1<scanBound) :
 ∀ (k i:Nat) (s:Shared),n-i=k->i≤n->St i s->SetG P w s.heap S (dd ((List.range i).map val))->
   (∀ s',Moved (S::wr) G s s'->SetG P w s'.heap S (dd ((List.range n).map val))->R (.ok (.ret .none)) s')->codeAny (model P w) A (.builtin "set.update.loop" ⟨[.ref S,.ref I],[]⟩) R s:=by
 have nw:S∉wr:=fun h=>nf (W.sub _ h)
 have sub:∀ b∈wr,b∈S::wr:=fun b q=>List.mem_cons_of_mem _ q
 intro k
 induction k with
 | zero=>
   intro i s hk hi st hS go
   obtain rfl:i=n:=by omega
   refine codeAny_builtin PyProof.Rows.F.entry_set_update_loop ?_
   rw [Around.under_plainId PyProof.Rows.F.plain_set_update_loop _]
   refine wpAny_bind (m:=pyNext (.ref I)) (W.done s _ _ st fun s' mv=>?_)
   exact wpAny_pure (go s' (mv.mono sub) (hS.at fun o e=>mv.heap S o nw e))
 | succ k ih=>
   intro i s hk hi st hS go
   refine codeAny_builtin PyProof.Rows.F.entry_set_update_loop ?_
   rw [Around.under_plainId PyProof.Rows.F.plain_set_update_loop _]
   refine wpAny_bind (m:=pyNext (.ref I)) (W.item i s _ _ (by omega) st fun v s' hP st' mv=>?_)
   obtain ⟨t,rfl⟩:=hv i v hP
   refine wpAny_bind (m:=holding [Value.int (val i) t] (setAdd S (.int (val i) t))) (wpAny_holding ?_)
   unfold setAdd
   refine wpAny_holding (wpAny_bind ((intKind P w).pyHash (k:=val i) (intKind_is _ _ _ _) ?_))
   have hl:=dd_len ((List.range i).map val)
   rw [List.length_map,List.length_range] at hl
   refine add_G (s:={ s' with toks:=s'.toks+1 }) (hS.at fun o e=>mv.heap S o nw e) (by omega) fun b h' sb g=>?_
   have g2:SetG P w h' S (dd ((List.range (i+1)).map val)):=by rw [List.range_succ,List.map_append,List.map_singleton,dd_snoc];exact g
   refine wpAny_pure ⟨plainId_quiet PyProof.Rows.F.plain_set_update_loop _,ih (i+1) _ (by omega) (by omega) (W.frame _ s' _ _ st' (Nat.le_succ _) fun b q o e=>?_) g2 fun s'' mv' g3=>?_⟩
   ·rw [sb.2 b fun h:b=S=>nf (h ▸ q)];exact e
   ·refine go s'' (Moved.trans W.gtrans ((mv.mono sub).then_heap (Nat.le_succ _) fun b o q e=>?_) mv') g3
    rw [sb.2 b fun h:b=S=>q (by rw [h];exact List.mem_cons_self)];exact e
end
section
variable {P:Program} {w:World} {A:Around} {E:Value->Shared->Prop} {s:Shared}
abbrev setN (w:World):Obj:={ cls:=.type "set",dict:=none,data:=.set #[] 0 (.fresh 0 0 (!byTx w)) }
theorem setN_G {h:Heap} {a:Addr} (e:h.get? a=some (setN w)):SetG P w h a []:=
 ⟨_,#[],0,_,e,⟨rfl,rfl,rfl⟩,rfl,fun e he=>by simp at he,.refl _,by unfold scanBound;decide,by rfl,TbG.fresh⟩
theorem new_G (x:Value) {Q:Value->Shared->Prop} (h:Q (.ref s.heap.objs.size) { s with heap:=s.heap.push (setN w) }):codeAny (model P w) A (.call (.builtin "set.__new__") ⟨[.type "set",x],[]⟩) (wants Q E) s:=by
 refine codeAny_of_tree ?_
 refine wpAny_bind (m:=checkBuiltinCall "set.__new__" ⟨[.type "set",x],[]⟩) (wpAny_of_eq (PySem.F.newCall_set_1 x) (wpAny_pure ⟨plainId_quiet PySem.F.plain_set_new _,codeAny_builtin PySem.F.entry_set_new ?_⟩))
 rw [Around.under_plainId PySem.F.plain_set_new _]
 unfold Builtin.«set.__new__» Builtin.Frozenset.newClass
 have hsub:=PySem.sub_set_self
 obtain ⟨hp,g,d,tk,os⟩:=s
 dsimp only
 wp_walk
 refine wpAny_askSetting (wpAny_pure ?_)
 simp only [newObj]
 exact wpAny_bind (wpAny_alloc (wpAny_pure (wpAny_pure h)))
theorem setG_list {l:Addr} {items:Array Value} {ns:List Int} {Q:Value->Shared->Prop} (hh:A.handled=none) (hl:s.heap.IsList l items) (hi:IntsAre items.toList ns) (hb:items.size+1<scanBound)
 (h:∀ (h':Heap) (tk:Nat),SetG P w h' s.heap.objs.size (dd ns)->(∀ b o,s.heap.get? b=some o->h'.get? b=some o)->Q (.ref s.heap.objs.size) { s with heap:=h',toks:=tk }):wpAny (model P w) A (call (.type "set") [.ref l]) Q E s:=by
 obtain ⟨c,tl,hmro⟩:=PySem.F.called_set.mro
 have hmade:=PySem.F.called_set.made
 have hsub:=PySem.F.called_set.sub
 refine wpAny_call (codeAny_of_tree ?_)
 refine wpAny_pure ⟨Code.quiet_builtin _ (by decide +kernel),codeAny_builtin PySem.F.entry_type_call ?_⟩
 rw [Around.under_plain (weight_type_call_type "set" [.ref l] []) rfl]
 have h1:=PySem.F.called_set.notType
 have h2:=PySem.F.called_set.canCreate
 have hct:=PySem.F.typeCall_set_1 (.ref l)
 repeat (any_goals (first|assumption|wp_step))
 refine codeAny_mono (new_G (.ref l) (E:=E) (Q:=fun x s₁=>x=.ref s.heap.objs.size/\s₁={ s with heap:=s.heap.push (setN w) }) ⟨rfl,rfl⟩) fun r s₁ hr=>?_
 cases r with
 |error e=>exact hr
 | ok fl=>
   cases fl with
   | ret x=>
     obtain ⟨rfl,rfl⟩:=hr
     have hS:(s.heap.push (setN w)).get? s.heap.objs.size=some (setN w):=Heap.get?_push_size _ rfl
     have hT:Shared.TypeIs { s with heap:=s.heap.push (setN w) } (.ref s.heap.objs.size) "set":=⟨_,hS,rfl⟩
     have hli:=PySem.F.called_set.init.lookup
     have hbi:=PySem.F.called_set.init.bind (.ref s.heap.objs.size)
     repeat (any_goals (first|assumption|wp_step))
     refine codeAny_mono (codeAny_call_builtin (R:=wants (fun r s₂=>r=.none/\∃ h' tk,s₂={ s with heap:=h',toks:=tk }/\SetG P w h' s.heap.objs.size (dd ns)/\∀ b o,s.heap.get? b=some o->h'.get? b=some o) E) PySem.F.called_set.init.plain PySem.F.entry_set_init (check_set_init_1 hT ?_)) fun r₂ s₂ hr₂=>?_
     ·obtain ⟨⟨oc,od,odt,osl⟩,hol,hcl,nl,hdl⟩:=hl
      simp only at hcl hdl
      subst hcl;subst hdl
      have hol':=Heap.get?_push_of_some (setN w) hol
      have hsls:=PySem.F.sub_list_set
      have hslf:=PySem.F.sub_list_frozenset
      have hne:(Value.type "list" == Value.type "dict")=false:=by decide
      have hl1:(s.heap.push (setN w)).IsList l items:=⟨_,hol',rfl,nl,rfl⟩
      unfold Builtin.«set.__init__» noKeywords Builtin.Frozenset.updateFrom
      generalize hPI:pyIter=PI
      wp_walk
      subst hPI
      refine wpAny_pyIter_list hl1 (wpAny_bind (wpAny_runValue ?_))
      have hlS:l<s.heap.objs.size:=Heap.lt_size hol
      have neI:l≠(s.heap.push (setN w)).objs.size:=by rw [Heap.size_push];exact Nat.ne_of_lt (Nat.lt_succ_of_lt hlS)
      have nf:s.heap.objs.size∉[(s.heap.push (setN w)).objs.size,l]:=by
       rw [Heap.size_push]
       simp only [List.mem_cons,List.not_mem_nil,or_false,not_or]
       exact ⟨Nat.ne_of_lt (Nat.lt_succ_self _),Nat.ne_of_gt hlS⟩
      have hz:items.size=ns.length:=by rw [← Array.length_toList];exact hi.length
      have hval:∀ (i:Nat) (v:Value),items[i]?=some v->∃ t,v=.int (ns.getD i 0) t:=fun i v hv=>IntsAre.int_at hi i v (by rw [Array.getElem?_toList];exact hv)
      have hns:(List.range items.size).map (fun i=>ns.getD i 0)=ns:=by
       refine List.ext_getElem (by simp [hz]) fun i q1 q2=>?_
       simp [q2]
      refine upd_loop ((Walks.list (by simp [hh]) _ l neI items).toS) nf (fun i=>ns.getD i 0) hval hb _ 0 _ rfl (Nat.zero_le _) ⟨⟨_,Heap.get?_push_size _ rfl,rfl,rfl⟩,hl1.push _⟩ (setN_G (Heap.get?_push_of_some _ hS)) fun s' mv g=>?_
      obtain ⟨h',g',d',tk',os'⟩:=s'
      obtain ⟨mh,eg,ed,eo,mt⟩:=mv
      subst eg;subst ed;subst eo
      refine wpAny_pure (wpAny_pure ⟨rfl,h',tk',rfl,by rw [hns] at g;exact g,fun b o e=>?_⟩)
      have hb':=Heap.lt_size e
      refine mh b o ?_ (Heap.get?_push_of_some _ (Heap.get?_push_of_some _ e))
      rw [Heap.size_push]
      simp only [List.mem_cons,List.not_mem_nil,or_false,not_or]
      exact ⟨Nat.ne_of_lt hb',Nat.ne_of_lt (Nat.lt_succ_of_lt hb')⟩
     ·cases r₂ with
      |error e=>exact hr₂
      | ok fl₂=>
        cases fl₂ with
        | ret r=>
          obtain ⟨rfl,h',tk,rfl,g,k⟩:=hr₂
          repeat (any_goals (first|assumption|wp_step))
          exact h _ _ g k
        |_=>exact hr₂.elim
   |_=>exact hr.elim
end
theorem slot_sit:Slot "set_iterator" "__next__" "set_iterator.__next__" :=
 Slot.of (owner:="set_iterator") (n:="__next__") (by rw [typeLookup_type,builtinLookup_eq_fast];kernel_rfl) (by decide +kernel) (by decide +kernel) (by decide +kernel) (by first|exact .inl (by decide +kernel)|exact .inr (by decide +kernel)) (by rw [isSubtype_type];kernel_rfl)
theorem entry_sit:entryFor table "set_iterator.__next__" = some Builtin.«set_iterator.__next__»:=entryFor_of_tree (by kernel_rfl)
theorem args_sit (a:Value):argsOk "set_iterator.__next__" ⟨[a],[]⟩:=by unfold argsOk;kernel_rfl
theorem entry_setIter:entryFor table "set.__iter__" = some Builtin.«frozenset.__iter__»:=entryFor_alias (id':="frozenset.__iter__") (by kernel_rfl) rfl (by decide +kernel) (by kernel_rfl)
abbrev itO (f:Value) (i:Nat) (a:Addr) (n ep:Nat):Obj:={ cls:=.type "set_iterator",data:=.fields #[f,.int i 0,.ref a,.int n 0,.int ep 0] }
section
variable {P:Program} {w:World} {A:Around} {E:Value->Shared->Prop} {s:Shared} {I a:Addr} {i n ep:Nat} {o:Obj} {es:Array (Int×Value)} {t:SetTable}
theorem nextI {sl nx:Nat} {x:Value} {Q:Option Value->Shared->Prop} (hI:s.heap.get? I=some (itO (.int sl 0) i a es.size ep)) (ho:s.heap.get? a=some o) (hd:o.data=.set es ep t) (hf:t.fits es.size=true)
 (hN:∀ {A:Around} {E:Value->Shared->Prop} (Q':Option (Value×Nat)->Shared->Prop),Q' (some (x,nx)) s->wpAny (model P w) A (setNext a sl i ep) Q' E s)
 (hQ:∀ h',h'.get? I=some (itO (.int nx 0) (i+1) a es.size ep)->Heap.SameBut I s.heap h'->Q (some x) { s with heap:=h' }):wpAny (model P w) A (pyNext (.ref I)) Q E s:=by
 have hT:s.TypeIs (.ref I) "set_iterator":=⟨_,hI,rfl⟩
 unfold pyNext
 refine wpAny_bind (wpAny_attempt (wpAny_callSpecial?_slot (name:=Str.ofString "__next__") hT slot_sit (wpAny_call_entry slot_sit hT entry_sit ?_ (args_sit _))))
 unfold Builtin.«set_iterator.__next__»
 refine wpAny_bind (wpAny_pure ?_)
 refine wpAny_bind (wpAny_fieldsOf hI rfl ?_)
 dsimp only
 refine wpAny_bind (m:=setEntries a) (wpAny_setEntries_of ho hd hf ?_)
 rw [if_neg (by simp)]
 refine wpAny_bind (hN _ ?_)
 dsimp only
 refine wpAny_bind (wpAny_setField hI rfl (by simp) ?_)
 have g1:=Heap.get?_update_self (Obj.mapFields fun fs=>fs.set! 0 (rawInt nx)) hI rfl
 refine wpAny_bind (wpAny_setField g1 rfl (by simp) ?_)
 have g2:=Heap.get?_update_self (Obj.mapFields fun fs=>fs.set! 1 (rawInt ((i:Int)+1))) g1 rfl
 refine wpAny_pure ⟨x,rfl,wpAny_pure (hQ _ g2 ((Heap.SameBut.update ..).trans (Heap.SameBut.update ..)))⟩
theorem nextE {sl:Nat} {Q:Option Value->Shared->Prop} (hh:A.handled=none) (hI:s.heap.get? I=some (itO (.int sl 0) i a es.size ep)) (ho:s.heap.get? a=some o) (hd:o.data=.set es ep t) (hf:t.fits es.size=true)
 (hN:∀ {A:Around} {E:Value->Shared->Prop} (Q':Option (Value×Nat)->Shared->Prop),Q' none s->wpAny (model P w) A (setNext a sl i ep) Q' E s)
 (hQ:∀ h',Heap.ExtBut I s.heap h'->Q none { s with heap:=h' }):wpAny (model P w) A (pyNext (.ref I)) Q E s:=by
 have hT:s.TypeIs (.ref I) "set_iterator":=⟨_,hI,rfl⟩
 unfold pyNext
 refine wpAny_bind (wpAny_attempt (wpAny_callSpecial?_slot (name:=Str.ofString "__next__") hT slot_sit (wpAny_call_entry slot_sit hT entry_sit ?_ (args_sit _))))
 unfold Builtin.«set_iterator.__next__»
 refine wpAny_bind (wpAny_pure ?_)
 refine wpAny_bind (wpAny_fieldsOf hI rfl ?_)
 dsimp only
 refine wpAny_bind (m:=setEntries a) (wpAny_setEntries_of ho hd hf ?_)
 rw [if_neg (by simp)]
 refine wpAny_bind (hN _ ?_)
 dsimp only
 refine wpAny_bind (wpAny_setField hI rfl (by simp) ?_)
 refine wpAny_bind ?_
 simp only [newExc,newTuple]
 refine wpAny_bind (wpAny_newObj_type ?_ (by size_fits))
 refine wpAny_bind (m:=firstArgMember _ _) (wpAny_of_eq (a:=Value.none) (by first|rfl|(simp only [firstArgMember];rfl)) ?_)
 refine wpAny_newObj_type ?_ (by size_fits)
 simp only [raiseNew]
 refine wpAny_bind (wpAny_handled ?_)
 rw [show A.in1.handled=none from hh]
 refine wpAny_bind (wpAny_pure (wpAny_throw ?_))
 refine wpAny_bind (wpAny_isInstance (T:="StopIteration") (b:=true) ⟨_,Heap.get?_push_size _ rfl,rfl⟩ isSubtype_stop ?_)
 exact wpAny_pure (hQ _ (((Heap.SameBut.update ..).extBut.push _).push _))
theorem nextD {T:Addr} {ps:Array Value} {c p:Nat} {x:Value} {h0:Int} {Q:Option Value->Shared->Prop} (hI:s.heap.get? I=some (itO (.ref T) i a es.size ep)) (ho:s.heap.get? a=some o) (hd:o.data=.set es ep t) (hf:t.fits es.size=true)
 {oT:Obj} (hT':s.heap.get? T=some oT) (hTd:oT.data=.seq ps c) (hp:ps[i]?=some (.int p 0)) (hx:es[p]?=some (h0,x))
 (hQ:∀ h',h'.get? I=some (itO (.ref T) (i+1) a es.size ep)->Heap.SameBut I s.heap h'->Q (some x) { s with heap:=h' }):wpAny (model P w) A (pyNext (.ref I)) Q E s:=by
 have hT:s.TypeIs (.ref I) "set_iterator":=⟨_,hI,rfl⟩
 unfold pyNext
 refine wpAny_bind (wpAny_attempt (wpAny_callSpecial?_slot (name:=Str.ofString "__next__") hT slot_sit (wpAny_call_entry slot_sit hT entry_sit ?_ (args_sit _))))
 unfold Builtin.«set_iterator.__next__»
 refine wpAny_bind (wpAny_pure ?_)
 refine wpAny_bind (wpAny_fieldsOf hI rfl ?_)
 dsimp only
 refine wpAny_bind (m:=setEntries a) (wpAny_setEntries_of ho hd hf ?_)
 rw [if_neg (by simp)]
 refine wpAny_bind (wpAny_seqItems hT' hTd ?_)
 dsimp only
 rw [Int.toNat_natCast,hp]
 dsimp only
 unfold setNextDrawn
 refine wpAny_bind (wpAny_bind (wpAny_setState_of ho hd hf ?_))
 dsimp only
 rw [if_neg (by simp),Int.toNat_natCast,hx]
 refine wpAny_pure ?_
 refine wpAny_bind (wpAny_setField hI rfl (by simp) ?_)
 have g2:=Heap.get?_update_self (Obj.mapFields fun fs=>fs.set! 1 (rawInt ((i:Int)+1))) hI rfl
 exact wpAny_pure ⟨x,rfl,wpAny_pure (hQ _ g2 (Heap.SameBut.update ..))⟩
theorem nextDE {T:Addr} {ps:Array Value} {c:Nat} {Q:Option Value->Shared->Prop} (hh:A.handled=none) (hI:s.heap.get? I=some (itO (.ref T) i a es.size ep)) (ho:s.heap.get? a=some o) (hd:o.data=.set es ep t) (hf:t.fits es.size=true)
 {oT:Obj} (hT':s.heap.get? T=some oT) (hTd:oT.data=.seq ps c) (hp:ps[i]?=none) (hQ:∀ h',Heap.ExtBut I s.heap h'->Q none { s with heap:=h' }):wpAny (model P w) A (pyNext (.ref I)) Q E s:=by
 have hT:s.TypeIs (.ref I) "set_iterator":=⟨_,hI,rfl⟩
 unfold pyNext
 refine wpAny_bind (wpAny_attempt (wpAny_callSpecial?_slot (name:=Str.ofString "__next__") hT slot_sit (wpAny_call_entry slot_sit hT entry_sit ?_ (args_sit _))))
 unfold Builtin.«set_iterator.__next__»
 refine wpAny_bind (wpAny_pure ?_)
 refine wpAny_bind (wpAny_fieldsOf hI rfl ?_)
 dsimp only
 refine wpAny_bind (m:=setEntries a) (wpAny_setEntries_of ho hd hf ?_)
 rw [if_neg (by simp)]
 refine wpAny_bind (wpAny_seqItems hT' hTd ?_)
 dsimp only
 rw [Int.toNat_natCast,hp]
 dsimp only
 refine wpAny_bind (wpAny_setField hI rfl (by simp) ?_)
 have g1:=Heap.get?_update_self (Obj.mapFields fun fs=>fs.set! 0 (rawInt 0)) hI rfl
 refine wpAny_bind (wpAny_setField g1 rfl (by simp) ?_)
 refine wpAny_bind ?_
 simp only [newExc,newTuple]
 refine wpAny_bind (wpAny_newObj_type ?_ (by size_fits))
 refine wpAny_bind (m:=firstArgMember _ _) (wpAny_of_eq (a:=Value.none) (by first|rfl|(simp only [firstArgMember];rfl)) ?_)
 refine wpAny_newObj_type ?_ (by size_fits)
 simp only [raiseNew]
 refine wpAny_bind (wpAny_handled ?_)
 rw [show A.in1.handled=none from hh]
 refine wpAny_bind (wpAny_pure (wpAny_throw ?_))
 refine wpAny_bind (wpAny_isInstance (T:="StopIteration") (b:=true) ⟨_,Heap.get?_push_size _ rfl,rfl⟩ isSubtype_stop ?_)
 exact wpAny_pure (hQ _ ((((Heap.SameBut.update ..).trans (Heap.SameBut.update ..)).extBut.push _).push _))
end
def slotAt (p:Array Nat):Nat->Nat
 |0=>0
 |i+1=>p.getD i 0+1
theorem below_slot {p:Array Nat} (R:Rise p) {i:Nat} (hi:i≤p.size):SetTable.below p (slotAt p i)=i:=by
 obtain ⟨b1,b2,b3⟩:=below_is (j:=slotAt p i) R
 have gd:∀ k,k<p.size->p[k]?=some (p.getD k 0):=fun k hk=>by rw [Array.getD_eq_getD_getElem?,Array.getElem?_eq_getElem hk];rfl
 cases i with
 | zero=>
   rcases Nat.eq_zero_or_pos (SetTable.below p (slotAt p 0)) with e|e
   ·exact e
   ·exact absurd (b2 0 _ e (gd 0 (by omega))) (Nat.not_lt_zero _)
 | succ i=>
   rcases Nat.lt_trichotomy (SetTable.below p (slotAt p (i+1))) (i+1) with e|e|e
   ·have h1:=b3 i _ (by omega) (gd i (by omega))
    simp only [slotAt] at h1
    omega
   ·exact e
   ·have h1:=b2 (i+1) _ e (gd (i+1) (by omega))
    have h2:=R i (i+1) _ _ (by omega) (gd i (by omega)) (gd (i+1) (by omega))
    simp only [slotAt] at h1
    omega
theorem erase_perm {α:Type}:∀ (l:List α) (i:Nat) (h:i<l.length),(l[i]::l.eraseIdx i).Perm l
 |x::l,0,h=>.refl _
 | x::l,i+1,h=>by
   rw [List.eraseIdx_cons_succ,List.getElem_cons_succ]
   exact (List.Perm.swap _ _ _).trans ((erase_perm l i (by simpa using h)).cons _)
theorem pick_go {α:Type} (f:Nat->Nat):∀ (n k:Nat) (l:List α) (out:Array α),l.length=n->(pickOrder.go f n k l out).toList.Perm (out.toList++l)
 | 0,k,l,out,h=>by
   obtain rfl:=List.length_eq_zero_iff.mp h
   rw [List.append_nil]
   exact .refl _
 | n+1,k,l,out,h=>by
   have hm:f k % l.length<l.length:=Nat.mod_lt _ (by omega)
   unfold pickOrder.go
   rw [List.getElem?_eq_getElem hm]
   refine (pick_go f n (k+1) _ _ (by rw [List.length_eraseIdx,if_pos hm,h];rfl)).trans ?_
   rw [Array.toList_push,List.append_assoc]
   exact (List.Perm.refl _).append (erase_perm _ _ hm)
theorem pick_perm {α:Type} (f:Nat->Nat) (xs:Array α):(pickOrder f xs).toList.Perm xs.toList:=by
 unfold pickOrder
 exact pick_go f _ 0 _ _ (by simp)
section
variable {P:Program} {w:World} {A:Around} {E:Value->Shared->Prop} {s:Shared}
theorem wp_choose' {src:Source} {n:Nat} {Q:Nat->Shared->Prop} (hn:n≠0) (h:∀ i d,i<n->Q i { s with drawn:=d }):wpAny (model P w) A (choose src n) Q E s:=by
 intro Γ p hΓ
 unfold choose
 rw [Sem.wp_choose]
 exact ⟨hn,by rw [Sem.wp_pure];exact h _ _ (Nat.mod_lt _ (Nat.pos_of_ne_zero hn))⟩
theorem draw_perm {α:Type}:∀ (n:Nat) (xs:List α) (s:Shared) {Q:List α->Shared->Prop},xs.length≤n->(∀ ys d,ys.Perm xs->Q ys { s with drawn:=d })->wpAny (model P w) A (drawOrder n xs) Q E s
 | 0,xs,s,Q,hl,h=>by
   obtain rfl:=List.length_eq_zero_iff.mp (Nat.le_zero.mp hl)
   exact wpAny_pure (h [] s.drawn (.refl _))
 |n+1,[],s,Q,hl,h=>wpAny_pure (h [] s.drawn (.refl _))
 | n+1,x::xs,s,Q,hl,h=>by
   unfold drawOrder
   refine wpAny_bind (wp_choose' (by simp) fun i d hi=>?_)
   rw [List.getElem?_eq_getElem hi]
   dsimp only
   refine wpAny_bind (draw_perm n _ _ (by rw [List.length_eraseIdx,if_pos hi];simp only [List.length_cons] at hl ⊢;omega) fun ys d' hp=>?_)
   exact wpAny_pure (h _ d' ((hp.cons _).trans (erase_perm _ _ hi)))
variable {a:Addr} {ep:Nat} {o:Obj} {es:Array (Int×Value)} {t:SetTable} {Q:Option (Value×Nat)->Shared->Prop}
theorem byText_is {Q:Bool->Shared->Prop} (h:Q (byTx w) s):wpAny (model P w) A setsByText Q E s:=by
 unfold setsByText
 exact wpAny_bind (wpAny_askSetting (wpAny_pure h))
theorem nextN {g i:Nat} (ho:s.heap.get? a=some o) (hd:o.data=.set es ep t) (hf:t.fits es.size=true) (R:Rise t.place) (hb:byTx w=false) (nd:(!t.plain && decide (es.size > 1))=false) (hl:t.led=true) (hi:i≤es.size)
 (h:Q (es[i]?.map fun e=>(e.2,slotAt t.place (i+1))) s):wpAny (model P w) A (setNext a (slotAt t.place i) g ep) Q E s:=by
 have hz:t.place.size=es.size:=by
  simp only [SetTable.fits,Bool.and_eq_true,beq_iff_eq,decide_eq_true_eq] at hf
  exact hf.1
 unfold setNext
 refine wpAny_bind (wpAny_setState_of ho hd hf ?_)
 dsimp only
 refine wpAny_bind (byText_is ?_)
 rw [if_neg (by rw [hb];simp)]
 split
 ·rename_i q
  exact absurd (show (!t.plain && decide (es.size > 1))=true from q) (by rw [nd];simp)
 ·refine wpAny_bind (m:=(if (!t.led && !es.isEmpty)=true then unsupported "set:maker-not-led" else pure ())) ?_
  rw [if_neg (by rw [hl];simp)]
  refine wpAny_pure ?_
  rw [below_slot R (by omega)]
  refine wpAny_pure ?_
  by_cases q:i<es.size
  ·rw [Array.getElem?_eq_getElem q] at h ⊢
   rw [Array.getElem?_eq_getElem (show i<t.place.size by omega)]
   have e:slotAt t.place (i+1)=t.place[i]+1:=by
    show t.place.getD i 0+1=_
    rw [Array.getD_eq_getD_getElem?,Array.getElem?_eq_getElem (show i<t.place.size by omega)]
    rfl
   rw [e] at h
   exact h
  ·rw [Array.getElem?_eq_none (by omega)] at h ⊢
   exact h
theorem nextT {g sl:Nat} (ho:s.heap.get? a=some o) (hd:o.data=.set es ep t) (hf:t.fits es.size=true) (hb:byTx w=true)
 (h:Q ((pickOrder (w.params.setOrder a ep) es)[g]?.map fun e=>(e.2,sl)) s):wpAny (model P w) A (setNext a sl g ep) Q E s:=by
 unfold setNext
 refine wpAny_bind (wpAny_setState_of ho hd hf ?_)
 dsimp only
 refine wpAny_bind (byText_is ?_)
 rw [if_pos (by rw [hb]),if_neg (by simp)]
 unfold setWalk
 refine wpAny_bind (wpAny_bind (wpAny_setState_of ho hd hf ?_))
 dsimp only
 refine wpAny_bind (byText_is ?_)
 rw [if_pos (by rw [hb])]
 exact wpAny_bind (wpAny_askSetting (wpAny_pure (wpAny_pure h)))
end
theorem slot_sii:Slot "set_iterator" "__iter__" "set_iterator.__iter__" :=
 Slot.of (owner:="set_iterator") (n:="__iter__") (by rw [typeLookup_type,builtinLookup_eq_fast];kernel_rfl) (by decide +kernel) (by decide +kernel) (by decide +kernel) (by first|exact .inl (by decide +kernel)|exact .inr (by decide +kernel)) (by rw [isSubtype_type];kernel_rfl)
theorem entry_sii:entryFor table "set_iterator.__iter__" = some Builtin.«dict_keyiterator.__iter__»:=entryFor_alias (id':="dict_keyiterator.__iter__") (by kernel_rfl) rfl (by decide +kernel) (by kernel_rfl)
theorem args_sii (a:Value):argsOk "set_iterator.__iter__" ⟨[a],[]⟩:=by unfold argsOk;kernel_rfl
section
variable {P:Program} {w:World} {A:Around} {E:Value->Shared->Prop} {s:Shared}
theorem iter_self {I:Addr} {Q:Value->Shared->Prop} (hT:s.TypeIs (.ref I) "set_iterator") (h:Q (.ref I) s):wpAny (model P w) A (pyIter (.ref I)) Q E s:=by
 refine wpAny_pyIter_slot hT slot_sii (wpAny_call_entry slot_sii hT entry_sii ?_ (args_sii _))
 exact wpAny_pure ⟨_,rfl,"set_iterator",_,hT,slot_sit.lookup,h⟩
abbrev PvO (out:List (Int×Value)):Nat->Value->Prop:=fun i v=>out[i]?.map (·.2)=some v
theorem walk_I {I a:Addr} {o:Obj} {es:Array (Int×Value)} {ep:Nat} {t:SetTable} {out:List (Int×Value)} {sl:Nat->Nat} (hh:A.handled=none) (ne:a≠I) (hd:o.data=.set es ep t) (hf:t.fits es.size=true)
 (nx:∀ {A:Around} {E:Value->Shared->Prop} (i:Nat) (s:Shared) (Q:Option (Value×Nat)->Shared->Prop),i≤out.length->s.heap.get? a=some o->Q (out[i]?.map fun e=>(e.2,sl (i+1))) s->wpAny (model P w) A (setNext a (sl i) i ep) Q E s) :
 Walks P w A I [I,a] [I] out.length (PvO out) (fun i h=>h.get? I=some (itO (.int (sl i) 0) i a es.size ep)/\h.get? a=some o) where
 sub:=fun b q=>by simp at q;simp [q]
 frame:=fun _ _ _ st k=>⟨k I (by simp) _ st.1,k a (by simp) _ st.2⟩
 item:=fun i s Q E hi st q=>by
  refine nextI (x:=out[i].2) (nx:=sl (i+1)) st.1 st.2 hd hf (fun Q' z=>nx i s Q' (Nat.le_of_lt hi) st.2 (by rw [List.getElem?_eq_getElem hi];exact z)) fun h' e sb=>?_
  exact q _ h' s.toks (by simp [PvO,hi]) ⟨e,by rw [sb.2 a ne];exact st.2⟩ fun b u hb eb=>by rw [sb.2 b (fun z=>hb (by simp [z]))];exact eb
 done:=fun s Q E st q=>nextE hh st.1 st.2 hd hf (fun Q' z=>nx _ s Q' (Nat.le_refl _) st.2 (by rw [List.getElem?_eq_none (Nat.le_refl _)];exact z)) fun h' eb=>q h' s.toks fun b u hb e=>eb b u (fun z=>hb (by simp [z])) e
 self:=fun _ _ _ _ st q=>iter_self ⟨_,st.1,rfl⟩ q
theorem walk_D {I a T:Addr} {o oT:Obj} {es:Array (Int×Value)} {ep c:Nat} {t:SetTable} {ps:List Nat} {out:List (Int×Value)} (hh:A.handled=none) (ne:a≠I) (neT:T≠I) (hd:o.data=.set es ep t) (hf:t.fits es.size=true)
 (hT:oT.data=.seq (ps.map fun i:Nat=>rawInt i).toArray c) (hz:out.length=ps.length) (hp:∀ i p:Nat,ps[i]?=some p->es[p]?=out[i]?) :
 Walks P w A I [I,a,T] [I] out.length (PvO out) (fun i h=>h.get? I=some (itO (.ref T) i a es.size ep)/\h.get? a=some o/\h.get? T=some oT) where
 sub:=fun b q=>by simp at q;simp [q]
 frame:=fun _ _ _ st k=>⟨k I (by simp) _ st.1,k a (by simp) _ st.2.1,k T (by simp) _ st.2.2⟩
 item:=fun i s Q E hi st q=>by
  have hi':i<ps.length:=by rw [← hz];exact hi
  refine nextD (p:=ps[i]) (x:=out[i].2) (h0:=out[i].1) st.1 st.2.1 hd hf st.2.2 hT (by simp [hi',rawInt]) (by rw [hp i _ (List.getElem?_eq_getElem hi'),List.getElem?_eq_getElem hi]) fun h' e sb=>?_
  exact q _ h' s.toks (by simp [PvO,hi]) ⟨e,by rw [sb.2 a ne];exact st.2.1,by rw [sb.2 T neT];exact st.2.2⟩ fun b u hb eb=>by rw [sb.2 b (fun z=>hb (by simp [z]))];exact eb
 done:=fun s Q E st q=>nextDE hh st.1 st.2.1 hd hf st.2.2 hT (by simp [hz]) fun h' eb=>q h' s.toks fun b u hb e=>eb b u (fun z=>hb (by simp [z])) e
 self:=fun _ _ _ _ st q=>iter_self ⟨_,st.1,rfl⟩ q
theorem iter_G {a:Addr} {ns:List Int} {Q:Value->Shared->Prop} (g:SetG P w s.heap a ns)
 (h:∀ (s':Shared) (I:Addr) (fp:List Addr) (out:List (Int×Value)) (St:Nat->Heap->Prop),s'.os=s.os->s'.gens=s.gens->s'.toks=s.toks->(∀ b o,s.heap.get? b=some o->s'.heap.get? b=some o)->(∀ b∈fp,b<s'.heap.objs.size/\(s.heap.objs.size≤b∨b=a))->(∀ A:Around,A.handled=none->Walks P w A I fp [I] out.length (PvO out) St)->St 0 s'.heap->
  s.heap.objs.size≤I->(∀ e∈out,∃ k t,e.2=.int k t)->(out.map fun e=>numOf e.2).Perm ns->Q (.ref I) s'):wpAny (model P w) A (pyIter (.ref a)) Q E s:=by
 obtain ⟨o,es,ep,t,ho,hex,hd,hel,hp,hb,hf,tg⟩:=g
 have hT:s.TypeIs (.ref a) "set":=⟨o,ho,hex.1⟩
 have la:=Heap.lt_size ho
 have ia:∀ out:List (Int×Value),out.Perm es.toList->(∀ e∈out,∃ k t,e.2=.int k t)/\(out.map fun e=>numOf e.2).Perm ns:=fun out q=>
  ⟨fun e he=>by
   obtain ⟨⟨k,hk,_⟩,_⟩:=hel e (q.mem_iff.mp he)
   obtain ⟨t,e⟩:=Value.isInt_shape hk
   exact ⟨k,t,e⟩,(q.map _).trans hp⟩
 refine wpAny_pyIter_slot hT PySem.F.slot_set_iter (wpAny_call_entry PySem.F.slot_set_iter hT entry_setIter ?_ (PySem.F.args_set_iter_1 _))
 unfold Builtin.«frozenset.__iter__»
 refine wpAny_bind (m:=Builtin.Frozenset.slot0 "__iter__" _) (wpAny_of_eq (a:=a) rfl ?_)
 refine wpAny_bind (m:=Builtin.Frozenset.sizeOf a) (wpAny_bind (wpAny_setEntries_of ho hd hf (wpAny_pure ?_)))
 unfold setDrawn
 refine wpAny_bind (wpAny_bind (wpAny_setState_of ho hd hf ?_))
 dsimp only
 refine wpAny_bind (byText_is ?_)
 refine wpAny_pure ?_
 split
 ·rename_i q
  refine wpAny_bind (draw_perm es.size (List.range es.size) _ (by simp) fun ys d hy=>?_)
  have hl:ys.length=es.size:=by rw [hy.length_eq,List.length_range]
  refine wpAny_bind (wpAny_newTuple ?_ (by rw [List.length_map,hl];exact fits_of_scanBound hb))
  have h1:(s.heap.push { cls:=.type "tuple",data:=.seq (ys.map fun i:Nat=>rawInt i).toArray }).get? s.heap.objs.size=some { cls:=.type "tuple",data:=.seq (ys.map fun i:Nat=>rawInt i).toArray }:=Heap.get?_push_size _ rfl
  have k1:=fun (b:Addr) (u:Obj) (e:s.heap.get? b=some u)=>Heap.get?_push_of_some { cls:=.type "tuple",data:=.seq (ys.map fun i:Nat=>rawInt i).toArray } e
  have z1:(s.heap.push { cls:=.type "tuple",data:=.seq (ys.map fun i:Nat=>rawInt i).toArray }).objs.size=s.heap.objs.size+1:=Heap.size_push ..
  generalize (s.heap.push { cls:=.type "tuple",data:=.seq (ys.map fun i:Nat=>rawInt i).toArray })=h2 at h1 k1 z1 ⊢
  refine wpAny_bind (wpAny_setEpoch_of (k1 _ _ ho) hd hf ?_)
  refine wpAny_bind (wpAny_newObj_type (wpAny_pure ⟨_,rfl,"set_iterator",_,⟨_,Heap.get?_push_size _ rfl,rfl⟩,slot_sit.lookup,?_⟩))
  have hp2:(ys.map fun i=>(es[i]?).getD default).Perm es.toList:=by
   refine (hy.map _).trans (List.Perm.of_eq (List.ext_getElem (by simp) fun i q1 q2=>?_))
   have q3:i<es.size:=by simpa using q2
   simp [q3]
  obtain ⟨i1,i2⟩:=ia _ hp2
  refine h _ h2.objs.size [h2.objs.size,a,s.heap.objs.size] (ys.map fun i=>(es[i]?).getD default) _ rfl rfl rfl (fun b u e=>Heap.get?_push_of_some _ (k1 b u e)) ?_ (fun A' hh=>walk_D (ps:=ys) hh (by rw [z1];exact Nat.ne_of_lt (Nat.lt_succ_of_lt la)) (by rw [z1];exact Nat.ne_of_lt (Nat.lt_succ_self _)) hd hf rfl (by simp) ?_) ⟨Heap.get?_push_size _ rfl,Heap.get?_push_of_some _ (k1 _ _ ho),Heap.get?_push_of_some _ h1⟩ (by rw [z1];exact Nat.le_succ _) i1 i2
  ·intro b hb
   rw [Heap.size_push,z1]
   simp only [List.mem_cons,List.not_mem_nil,or_false] at hb
   rcases hb with rfl|rfl|rfl
   ·exact ⟨by rw [z1];exact Nat.lt_succ_self _,.inl (by rw [z1];exact Nat.le_succ _)⟩
   ·exact ⟨Nat.lt_succ_of_lt (Nat.lt_succ_of_lt la),.inr rfl⟩
   ·exact ⟨Nat.lt_succ_of_lt (Nat.lt_succ_self _),.inl (Nat.le_refl _)⟩
  ·intro i p e
   rw [List.getElem?_map,e]
   have hm:p∈List.range es.size:=hy.mem_iff.mp (List.mem_of_getElem? e)
   have hp3:p<es.size:=List.mem_range.mp hm
   simp [hp3]
 ·rename_i q
  refine wpAny_bind (wpAny_pure ?_)
  refine wpAny_bind (wpAny_setEpoch_of ho hd hf ?_)
  refine wpAny_bind (wpAny_newObj_type (wpAny_pure ⟨_,rfl,"set_iterator",_,⟨_,Heap.get?_push_size _ rfl,rfl⟩,slot_sit.lookup,?_⟩))
  have q':(!byTx w && (!t.plain && decide (es.size > 1)))=false:=by simpa using (show ¬ (!byTx w && (!t.plain && decide (es.size > 1)))=true from q)
  have fpk:∀ b∈[s.heap.objs.size,a],b<(s.heap.push (itO (rawInt 0) 0 a es.size ep)).objs.size/\(s.heap.objs.size≤b∨b=a):=fun b hb=>by
   rw [Heap.size_push]
   simp only [List.mem_cons,List.not_mem_nil,or_false] at hb
   rcases hb with rfl|rfl
   ·exact ⟨Nat.lt_succ_self _,.inl (Nat.le_refl _)⟩
   ·exact ⟨Nat.lt_succ_of_lt la,.inr rfl⟩
  cases hbt:byTx w with
  | false=>
    rw [hbt] at q' tg
    obtain ⟨i1,i2⟩:=ia es.toList (.refl _)
    exact h _ s.heap.objs.size [s.heap.objs.size,a] es.toList _ rfl rfl rfl (fun b u e=>Heap.get?_push_of_some _ e) fpk
     (fun A' hh=>walk_I (sl:=slotAt t.place) hh (Nat.ne_of_lt la) hd hf fun i s1 Q1 hi e z=>nextN e hd hf tg.rise hbt (by simpa using q') tg.led (by simpa using hi) (by simpa using z))
     ⟨Heap.get?_push_size _ rfl,Heap.get?_push_of_some _ ho⟩ (Nat.le_refl _) i1 i2
  | true=>
    obtain ⟨i1,i2⟩:=ia _ (pick_perm (w.params.setOrder a ep) es)
    exact h _ s.heap.objs.size [s.heap.objs.size,a] (pickOrder (w.params.setOrder a ep) es).toList _ rfl rfl rfl (fun b u e=>Heap.get?_push_of_some _ e) fpk
     (fun A' hh=>walk_I (sl:=fun _=>0) hh (Nat.ne_of_lt la) hd hf fun i s1 Q1 hi e z=>nextT e hd hf hbt (by simpa using z))
     ⟨Heap.get?_push_size _ rfl,Heap.get?_push_of_some _ ho⟩ (Nat.le_refl _) i1 i2
end
theorem len_set:typeLookup (.type "set") "__len__" = pure (some (.builtin "set.__len__")):=by rw [typeLookup_type,builtinLookup_eq_fast];kernel_rfl
theorem ints_items {out:List (Int×Value)} {acc:Array Value} (hi:∀ e∈out,∃ k t,e.2=.int k t) (h:PySem.ItemsOf (PvO out) acc out.length):IntsAre acc.toList (out.map fun e=>numOf e.2):=by
 have e:acc.toList=out.map (·.2):=by
  refine List.ext_getElem (by rw [Array.length_toList,List.length_map];exact h.1) fun i q1 q2=>?_
  have q3:i<out.length:=by simpa using q2
  have q4:i<acc.size:=by simpa using q1
  have:=h.2 i acc[i] (by simp [q4])
  simp only [PvO,List.getElem?_eq_getElem q3,Option.map_some,Option.some.injEq] at this
  simp [← this]
 rw [e]
 clear e h
 induction out with
 |nil=>exact .nil
 | cons x r ih=>
   obtain ⟨k,t,e⟩:=hi x (List.mem_cons_self ..)
   simp only [List.map_cons,e]
   exact .cons k t (ih fun y hy=>hi y (List.mem_cons_of_mem _ hy))
section
variable {P:Program} {w:World} {A:Around} {E:Value->Shared->Prop} {s:Shared}
theorem collect_G {a:Addr} {ns:List Int} {Q:List Value->Shared->Prop} (hh:A.handled=none) (g:SetG P w s.heap a ns) (hz:ns.length≤1000)
 (hQ:∀ s' vs ms,s'.os=s.os->s'.gens=s.gens->s.heap.objs.size≤s'.heap.objs.size->(∀ b o,s.heap.get? b=some o->s'.heap.get? b=some o)->IntsAre vs ms->ms.Perm ns->Q vs s'):wpAny (model P w) A (collect (.ref a)) Q E s:=by
 have la:a<s.heap.objs.size:=by
  obtain ⟨o,es,ep,t,ho,_⟩:=g
  exact Heap.lt_size ho
 have ty:∀ {s':Shared},SetG P w s'.heap a ns->s'.TypeIs (.ref a) "set":=fun g=>by
  obtain ⟨o,es,ep,t,ho,hex,_⟩:=g
  exact ⟨o,ho,hex.1⟩
 unfold collect
 refine wpAny_bind (wpAny_runValue (codeAny_builtin PySem.F.entry_proto_collect ?_))
 rw [Around.under_plainId PySem.F.plain_proto_collect _]
 refine wpAny_bind (m:=newList []) (wpAny_newObj_type ?_)
 refine wpAny_pure ⟨plainId_quiet PySem.F.plain_list_iadd _,codeAny_builtin PySem.F.entry_list_iadd ?_⟩
 rw [Around.under_plainId PySem.F.plain_list_iadd _]
 show wpAny _ A.in1 (Builtin.List.listExtendWith (.ref s.heap.objs.size) (.ref a) (.ref s.heap.objs.size)) _ _ _
 have hS₁:(s.heap.push { cls:=.type "list",data:=.seq ([]:List Value).toArray }).get? s.heap.objs.size=some { cls:=.type "list",data:=.seq ([]:List Value).toArray }:=Heap.get?_push_size _ rfl
 have k₁:∀ b o,s.heap.get? b=some o->(s.heap.push { cls:=.type "list",data:=.seq ([]:List Value).toArray }).get? b=some o:=fun b o e=>Heap.get?_push_of_some _ e
 have z₁:(s.heap.push { cls:=.type "list",data:=.seq ([]:List Value).toArray }).objs.size=s.heap.objs.size+1:=by rw [Heap.size_push]
 generalize (s.heap.push { cls:=.type "list",data:=.seq ([]:List Value).toArray })=H₁ at hS₁ k₁ z₁ ⊢
 have g₁:SetG P w H₁ a ns:=g.at fun o e=>k₁ _ _ e
 unfold Builtin.List.listExtendWith
 refine wpAny_bind (wpAny_typeOf (s:={ s with heap:=H₁ }) (ty g₁) ?_)
 have h1:Builtin.List.listSameRef (.ref s.heap.objs.size) (.ref a)=false:=by simp [Builtin.List.listSameRef,Nat.ne_of_gt la]
 have h2:(Value.type "set" == Value.type "list")=false:=by decide
 have h3:(Value.type "set" == Value.type "tuple")=false:=by decide
 simp only [h1,h2,h3,Bool.or_false,Bool.false_eq_true,if_false]
 refine wpAny_bind (iter_G (s:={ s with heap:=H₁ }) g₁ fun s₂ I fp out St e1 e2 e3 k₂ fpk W st lI hi hp=>?_)
 have g₂:SetG P w s₂.heap a ns:=g₁.at fun o e=>k₂ _ _ e
 refine wpAny_bind (wpAny_holding ?_)
 unfold Builtin.List.listLengthHint
 refine wpAny_bind (wpAny_specialOf (ty g₂) len_set ?_)
 wp_delta
 refine wpAny_bind (wpAny_isInstance (b:=true) (ty g₂) (by rw [isSubtype_type];kernel_rfl) ?_)
 refine wpAny_bind (m:=typeOf (Value.ref a)) (wpAny_typeOf (ty g₂) ?_)
 refine wpAny_pure ?_
 show wpAny _ A.in1 (rule "list.extend.makes-room" >>= fun _=>Builtin.List.listTouch (.ref s.heap.objs.size) >>= fun _=>
  again (.builtin "list.extend.loop" ⟨[.ref s.heap.objs.size,.ref I,.ref s.heap.objs.size],[]⟩)) _ _ _
 refine wpAny_bind (wpAny_rule (wpAny_bind ?_))
 show wpAny _ A.in1 (updateSeq s.heap.objs.size (·.push .none) >>= fun _=>updateSeq s.heap.objs.size (·.pop)) _ _ _
 have hS₂:=k₂ _ _ hS₁
 refine wpAny_bind (wpAny_updateSeq hS₂ rfl ?_)
 have hS₃:=Heap.get?_update_self (Obj.mapSeq (·.push Value.none)) hS₂ rfl
 refine wpAny_updateSeq hS₃ rfl ?_
 have hS₄:=Heap.get?_update_self (Obj.mapSeq (·.pop)) hS₃ rfl
 have oth:∀ b o,b≠s.heap.objs.size->s₂.heap.get? b=some o->((s₂.heap.update s.heap.objs.size (Obj.mapSeq (·.push Value.none))).update s.heap.objs.size (Obj.mapSeq (·.pop))).get? b=some o:=
  fun b o hb e=>(Heap.get?_update_other _ _ (Ne.symm hb)).trans ((Heap.get?_update_other _ _ (Ne.symm hb)).trans e)
 dsimp only at hS₄ oth ⊢
 generalize ((s₂.heap.update s.heap.objs.size (Obj.mapSeq (·.push Value.none))).update s.heap.objs.size (Obj.mapSeq (·.pop)))=H₄ at hS₄ oth ⊢
 have nf:s.heap.objs.size∉fp:=fun q=>by
  rcases (fpk _ q).2 with z|z
  ·dsimp only at z
   rw [z₁] at z
   exact absurd z (Nat.not_le_of_lt (Nat.lt_succ_self _))
  ·exact absurd z (Nat.ne_of_gt la)
 have hlen:out.length≤1000:=by rw [← List.length_map (f:=fun e:Int×Value=>numOf e.2),hp.length_eq];exact hz
 have W1:=W A.in1 (by simp [hh])
 refine wpAny_pure ⟨plainId_quiet PySem.F.plain_extend_loop _,codeAny_extend_loopS W1.toS (Nat.le_trans hlen (by decide)) s.heap.objs.size nf (.ref s.heap.objs.size) _ 0 { s₂ with heap:=H₄ } #[] 2 rfl (Nat.zero_le _) (W1.frame 0 _ _ st fun b q o e=>oth b o (fun z=>nf (z ▸ q)) e) hS₄ (PySem.ItemsOf.nil _) fun s' acc c mv e it=>?_⟩
 dsimp only
 refine wpAny_bind (wpAny_load e ?_)
 refine wpAny_pure (hQ s' acc.toList _ (mv.os.trans e1) (Eq.trans mv.gens e2) (Nat.le_of_lt (Heap.lt_size e)) (fun b o eb=>?_) (ints_items hi it) hp)
 have lb:=Heap.lt_size eb
 refine mv.heap b o ?_ (oth _ _ (Nat.ne_of_lt lb) (k₂ _ _ (k₁ _ _ eb)))
 simp only [List.mem_cons,List.not_mem_nil,or_false,not_or]
 refine ⟨Nat.ne_of_lt lb,Nat.ne_of_lt (Nat.lt_of_lt_of_le lb (Nat.le_trans ?_ lI))⟩
 dsimp only
 rw [z₁]
 exact Nat.le_succ _
theorem sorted_G {a:Addr} {ns:List Int} {Q:Value->Shared->Prop} (hh:A.handled=none) (g:SetG P w s.heap a ns) (hz:ns.length<64)
 (hQ:∀ s' l c vs ms,s'.os=s.os->s'.gens=s.gens->s.heap.objs.size≤l->(∀ b o,s.heap.get? b=some o->s'.heap.get? b=some o)->s'.heap.get? l=some (seqObj "list" vs c)->IntsAre vs.toList ms->ms.Perm ns->ms.Pairwise (·≤·)->Q (.ref l) s'):wpAny (model P w) A (call (.builtin "sorted") [.ref a]) Q E s:=by
 refine Calls.call_function_entry kind_sorted plain_sorted entry_sorted (args_sorted1 _) ?_
 unfold Builtin.«sorted»
 refine wpAny_bind (m:=checkCount "sorted" 1 1 _) (wpAny_pure ?_)
 refine wpAny_bind (collect_G (by simp [hh]) g (by omega) fun s₁ vs ms e1 e2 le k hi hp=>?_)
 have hl:vs.length<64:=by rw [hi.length,hp.length_eq];exact hz
 refine wpAny_bind (wpAny_newList ?_ (Nat.le_trans (Nat.le_of_lt hl) (by decide)))
 have hoL:(s₁.heap.push (seqObj "list" vs.toArray 0)).get? s₁.heap.objs.size=some (seqObj "list" vs.toArray 0):=Heap.get?_push_size _ rfl
 show wpAny _ _ _ _ _ { s₁ with heap:=s₁.heap.push (seqObj "list" vs.toArray 0) }
 refine wpAny_bind (wpAny_holding (wpAny_call_entry slot_list_sort ⟨_,hoL,rfl⟩ entry_list_sort (list_sort_tree hoL hi hl fun out ns' a1 a2 a3=>⟨_,rfl,?_⟩) (args_list_sort _)))
 obtain ⟨c,ec⟩:=sortedHeap_at (vs:=vs) (out:=out) hoL
 refine wpAny_pure ⟨_,rfl,hQ _ _ c out ns' e1 e2 le (fun b o e=>?_) ec a1 (a2.trans hp) a3⟩
 have lb:=Nat.lt_of_lt_of_le (Heap.lt_size e) le
 rw [sortedHeap_old (Nat.ne_of_lt lb) (by rw [Heap.size_push];exact Nat.lt_succ_of_lt lb)]
 exact Heap.get?_push_of_some _ (k _ _ e)
end
def setG (P:Program) (w:World) (a:Addr) (ns:List Int):HO:=.ext fun h=>SetG P w h a ns
theorem setG_ok {P:Program} {w:World} {H:Hp} {h:Heap} {a:Addr} {ns:List Int} (x:SetG P w h a ns):ObjOk P w H h a (setG P w a ns):=by
 refine ⟨x,?_,fun h1 h2 z k=>z.at fun o e=>k _ e⟩
 obtain ⟨o,es,ep,t,e,_⟩:=x
 exact ⟨o,e⟩
section
variable {X:Cx} {pins:List (Addr×Obj)} {σ:List (Option V)} {H:Hp} {s:Shared}
theorem Inv.dr (I:Inv X pins σ H s) (d:Drawn):Inv X pins σ H { s with drawn:=d }:=⟨I.ok,I.os,I.bare,I.base,I.loc,I.cell,I.free,I.freeC,I.pin,I.hok,I.len⟩
theorem call_setI (hc:X.calm=true):CallR X (.type "set") (fun xs H Q=>∃ (p:Addr) (ns:List Int),xs=[.ref p]/\SqL X.K H p (ns.map V.int)/\ns.length≤1000/\∀ a,H a=none->Q (.ref a) (upd H a (setG X.prog X.w a (dd ns)))):=by
 intro pins s σ H xs us Q I r h
 obtain ⟨p,ns,rfl,hq,hl,q⟩:=h
 obtain ⟨u,rfl,ru⟩:=vals1 r
 cases (show u=Value.ref p from ru)
 obtain ⟨its,rv,pl,hz⟩:=I.list hq
 have hlen:=rv.length
 rw [List.length_map] at hlen
 refine setG_list (ns:=ns) (I.ok.hd hc) pl.isList (ints_vals rv) (by rw [List.size_toArray,← hlen];exact Nat.lt_of_le_of_lt (show ns.length+1≤1001 by omega) (by decide)) fun h' tk g kp=>?_
 exact ⟨.ref s.heap.objs.size,_,I.laid (t':=tk) kp (Nat.le_refl _) (setG_ok g),rfl,q _ (I.hok.fresh (Nat.le_refl _))⟩
theorem call_sortedS (hc:X.calm=true):CallR X (.builtin "sorted") (fun xs H Q=>∃ (a:Addr) (ns:List Int),xs=[.ref a]/\H a=some (setG X.prog X.w a ns)/\ns.length<64/\∀ (ms:List Int) l,ms.Perm ns->ms.Pairwise (·≤·)->H l=none->Q (.ref l) (upd H l (.lst (ms.map V.int)))):=by
 intro pins s σ H xs us Q I r h
 obtain ⟨a,ns,rfl,ha,hl,q⟩:=h
 obtain ⟨u,rfl,ru⟩:=vals1 r
 cases (show u=Value.ref a from ru)
 refine sorted_G (I.ok.hd hc) (I.hok a _ ha).1 hl fun s' l c vs ms e1 e2 le k e hi hp hs=>?_
 obtain ⟨h',g',d',tk',os'⟩:=s'
 dsimp only at e1 e2 k e
 subst e1;subst e2
 have lz:(ms.map V.int).length≤sizeLine:=by rw [List.length_map,hp.length_eq];exact Nat.le_trans (Nat.le_of_lt hl) (by decide)
 exact ⟨.ref l,_,(I.laid (t':=tk') k le (show ObjOk X.prog X.w _ _ _ (.lst (ms.map V.int)) from ⟨lz,vs.toList,c,vals_of_ints hi,by simpa using e⟩)).dr d',rfl,q ms l hp hs (I.hok.fresh le)⟩
end
def rngO (a:Addr) (n:Nat):HO:=.ext fun h=>∃ t u v,IsRange h a 0 n 1 t u v
theorem rngO_ok {P:Program} {w:World} {H:Hp} {h:Heap} {a:Addr} {n:Nat} (x:∃ t u v,IsRange h a 0 n 1 t u v):ObjOk P w H h a (rngO a n):=by
 refine ⟨x,?_,fun h1 h2 z k=>?_⟩
 ·obtain ⟨t,u,v,e⟩:=x
  exact ⟨_,e⟩
 ·obtain ⟨t,u,v,e⟩:=z
  exact ⟨t,u,v,k _ e⟩
theorem bt_range:bootBuiltins "range" = some (.type "range"):=by decide +kernel
theorem vals_items {n:Nat} {acc:Array Value} (h:PySem.ItemsOf (fun i v=>∃ t,v=.int (0+i*1) t) acc n):Vals ((List.range n).map fun i:Nat=>V.int i) acc.toList:=by
 obtain ⟨hz,hv⟩:=h
 obtain ⟨l⟩:=acc
 simp only [List.size_toArray] at hz
 have hv':∀ (i:Nat) v,l[i]?=some v->∃ t,v=.int i t:=fun i v e=>by
  obtain ⟨t,q⟩:=hv i v (by simpa using e)
  exact ⟨t,by rw [q];simp⟩
 have go:∀ (l:List Value) (k:Nat),(∀ (i:Nat) v,l[i]?=some v->∃ t,v=.int ((k+i:Nat):Int) t)->Vals ((List.range' k l.length).map fun i:Nat=>V.int i) l:=fun l=>by
  induction l with
  |nil=>intro k _;exact .nil
  | cons x r ih=>
    intro k q
    rw [List.length_cons,List.range'_succ,List.map_cons]
    refine .cons ?_ (ih (k+1) fun i v e=>?_)
    ·obtain ⟨t,e⟩:=q 0 x rfl
     exact ⟨t,e⟩
    ·obtain ⟨t,e2⟩:=q (i+1) v (by simpa using e)
     exact ⟨t,by rw [e2];congr 2;omega⟩
 have:=go l 0 (fun i v e=>by simpa using hv' i v e)
 rw [hz] at this
 rwa [List.range_eq_range']
section
variable {X:Cx}
theorem call_rangeO:CallR X (.type "range") (fun xs H Q=>∃ n:Nat,xs=[.int n]/\∀ a,H a=none->Q (.ref a) (upd H a (rngO a n))):=by
 intro pins s σ H xs us Q I r h
 obtain ⟨n,rfl,q⟩:=h
 obtain ⟨u,rfl,t,rfl⟩:=vals1 r
 refine call_range_1 ⟨.ref s.heap.objs.size,_,I.laid (t':=s.toks+1+1) (fun b o e=>Heap.get?_push_of_some _ e) (Nat.le_refl _) (rngO_ok ⟨_,_,_,IsRange.new ..⟩),rfl,q _ (I.hok.fresh (Nat.le_refl _))⟩
theorem call_listR (hc:X.calm=true):CallR X (.type "list") (fun xs H Q=>∃ (a:Addr) (n:Nat),xs=[.ref a]/\H a=some (rngO a n)/\n≤1000/\∀ l,H l=none->Q (.ref l) (upd H l (.lst ((List.range n).map fun i:Nat=>V.int i)))):=by
 intro pins s σ H xs us Q I r h
 obtain ⟨a,n,rfl,ha,hl,q⟩:=h
 obtain ⟨u,rfl,ru⟩:=vals1 r
 cases (show u=Value.ref a from ru)
 obtain ⟨t,u,v,hr⟩:=(I.hok a _ ha).1
 refine call_list_range (I.ok.hd hc) hr (small_one (by decide) (by decide) (by omega) (by omega)) (n:=n) (by rw [rangeSize_one];split <;> omega) (by omega) fun h' tk acc c kp e it=>?_
 have lz:((List.range n).map fun i:Nat=>V.int i).length≤sizeLine:=by rw [List.length_map,List.length_range];exact Nat.le_trans hl (by decide)
 exact ⟨.ref s.heap.objs.size,_,I.laid (t':=tk) kp (Nat.le_refl _) (show ObjOk X.prog X.w _ _ _ (.lst ((List.range n).map fun i:Nat=>V.int i)) from ⟨lz,acc.toList,c,vals_items it,by simpa using e⟩),rfl,q _ (I.hok.fresh (Nat.le_refl _))⟩
end
end L2
namespace Bf
abbrev Tie:=Int×Int×Int
def Sat (h:Int->Int) (e:Tie):Prop:=h e.2.1+e.2.2≤h e.1
def put {α:Type} (f:Int->α) (a:Int) (x:α):Int->α:=fun b=>if b=a then x else f b
theorem put_same {α:Type} {f:Int->α} {a:Int} {x:α}:put f a x a=x:=if_pos rfl
theorem put_ne {α:Type} {f:Int->α} {a b:Int} {x:α} (h:b≠a):put f a x b=f b:=if_neg h
structure St where
 h:Int->Int
 by':Int->Option Tie
 r:Int->Nat
 ts:Int->Nat
 c:Nat
def St.raise (s:St) (k:Nat) (e:Tie):St:=⟨put s.h e.1 (s.h e.2.1+e.2.2),put s.by' e.1 (some e),put s.r e.1 k,put s.ts e.1 (s.c+1),s.c+1⟩
def St.zero:St:=⟨fun _=>0,fun _=>none,fun _=>0,fun _=>0,0⟩
structure Good (ties:List Tie) (k:Nat) (s:St):Prop where
 by1:∀ v e,s.by' v=some e->e.1=v/\e∈ties
 sl:∀ v e,s.by' v=some e->s.h v≤s.h e.2.1+e.2.2/\(s.ts v<s.ts e.2.1->s.h v<s.h e.2.1+e.2.2)
 rr:∀ v e,s.by' v=some e->s.r v≤s.r e.2.1+1/\1≤s.ts v
 no:∀ v,s.by' v=none->s.r v=0
 tc:∀ v,s.ts v≤s.c
 ti:∀ u v,s.ts u=s.ts v->1≤s.ts u->u=v
 nn:∀ v,0≤s.h v
 le:∀ g:Int->Int,(∀ v,0≤g v)->(∀ e∈ties,Sat g e)->∀ v,s.h v≤g v
 rk:∀ v,s.r v≤k
theorem Good.zero (ties:List Tie) (k:Nat):Good ties k St.zero:=⟨fun v e h=>by simp [St.zero] at h,fun v e h=>by simp [St.zero] at h,fun v e h=>by simp [St.zero] at h,fun v _=>rfl,fun v=>Nat.zero_le _,fun u v _ h=>by simp [St.zero] at h,fun v=>Int.le_refl _,fun g h0 _ v=>h0 v,fun v=>Nat.zero_le _⟩
theorem Good.up {ties:List Tie} {k k':Nat} {s:St} (G:Good ties k s) (h:k≤k'):Good ties k' s:=⟨G.by1,G.sl,G.rr,G.no,G.tc,G.ti,G.nn,G.le,fun v=>Nat.le_trans (G.rk v) h⟩
theorem Good.raise {ties:List Tie} {k:Nat} {s:St} {e:Tie} (G:Good ties k s) (m:e∈ties) (hne:e.1≠e.2.1) (hlt:s.h e.1<s.h e.2.1+e.2.2) (hr:k≤s.r e.2.1+1):Good ties k (s.raise k e):=by
 obtain ⟨o,t,l⟩:=e
 dsimp only at hne hlt hr
 have hto:t≠o:=Ne.symm hne
 refine ⟨fun v e h=>?_,fun v e h=>?_,fun v e h=>?_,fun v h=>?_,fun v=>?_,fun u v h h1=>?_,fun v=>?_,fun g h0 hg v=>?_,fun v=>?_⟩
 ·dsimp only [St.raise] at h
  by_cases q:v=o
  ·subst q;rw [put_same] at h;cases h;exact ⟨rfl,m⟩
  ·rw [put_ne q] at h;exact G.by1 v e h
 ·dsimp only [St.raise] at h ⊢
  by_cases q:v=o
  ·subst q
   rw [put_same] at h;cases h
   dsimp only
   rw [put_same,put_ne hto,put_same,put_ne hto]
   have:=G.tc t
   exact ⟨Int.le_refl _,fun z=>by omega⟩
  ·rw [put_ne q] at h
   have h1:=G.sl v e h
   have hb:=G.by1 v e h
   rw [put_ne q,put_ne q]
   by_cases q2:e.2.1=o
   ·rw [q2,put_same,put_same]
    rw [q2] at h1
    exact ⟨by omega,fun _=>by omega⟩
   ·rw [put_ne q2,put_ne q2];exact h1
 ·dsimp only [St.raise] at h ⊢
  by_cases q:v=o
  ·subst q
   rw [put_same] at h;cases h
   dsimp only
   rw [put_same,put_ne hto,put_same]
   exact ⟨hr,by omega⟩
  ·rw [put_ne q] at h
   have h1:=G.rr v e h
   rw [put_ne q,put_ne q]
   by_cases q2:e.2.1=o
   ·rw [q2,put_same]
    have:=G.rk v
    exact ⟨by omega,h1.2⟩
   ·rw [put_ne q2];exact h1
 ·dsimp only [St.raise] at h ⊢
  by_cases q:v=o
  ·subst q;rw [put_same] at h;cases h
  ·rw [put_ne q] at h ⊢;exact G.no v h
 ·dsimp only [St.raise]
  by_cases q:v=o
  ·subst q;rw [put_same];exact Nat.le_refl _
  ·rw [put_ne q];exact Nat.le_trans (G.tc v) (Nat.le_succ _)
 ·dsimp only [St.raise] at h h1
  by_cases q:u=o
  ·by_cases q2:v=o
   ·rw [q,q2]
   ·rw [q,put_same,put_ne q2] at h
    have:=G.tc v
    omega
  ·by_cases q2:v=o
   ·rw [q2,put_same,put_ne q] at h
    have:=G.tc u
    omega
   ·rw [put_ne q,put_ne q2] at h
    rw [put_ne q] at h1
    exact G.ti u v h h1
 ·dsimp only [St.raise]
  by_cases q:v=o
  ·subst q;rw [put_same];have:=G.nn v;omega
  ·rw [put_ne q];exact G.nn v
 ·dsimp only [St.raise]
  by_cases q:v=o
  ·subst q
   rw [put_same]
   have h1:=G.le g h0 hg t
   have h2:g t+l≤g v:=hg _ m
   omega
  ·rw [put_ne q];exact G.le g h0 hg v
 ·dsimp only [St.raise]
  by_cases q:v=o
  ·subst q;rw [put_same];exact Nat.le_refl _
  ·rw [put_ne q];exact G.rk v
structure Round (ties:List Tie) (k:Nat) (P S:List Tie) (s:St) (st:Option Int):Prop where
 g:Good ties k s
 p:∀ e∈P,Sat s.h e∨k≤s.r e.2.1
 q:∀ e∈S,Sat s.h e∨k≤s.r e.2.1+1
 n:st=none->∀ e∈P,Sat s.h e
 y:∀ v,st=some v->s.r v=k/\∃ e∈ties,e.1=v
theorem Round.first (ties:List Tie):Round ties 1 [] ties St.zero none:=⟨.zero ties 1,fun e h=>by simp at h,fun e _=>.inr (by simp [St.zero]),fun _ e h=>by simp at h,fun v h=>by cases h⟩
theorem Round.next {ties:List Tie} {k:Nat} {s:St} {v:Int} (R:Round ties k ties [] s (some v)):Round ties (k+1) [] ties s none:=
 ⟨R.g.up (Nat.le_succ _),fun e h=>by simp at h,fun e h=>(R.p e h).imp id fun z=>by omega,fun _ e h=>by simp at h,fun v h=>by cases h⟩
theorem Round.keep {ties:List Tie} {k:Nat} {P S:List Tie} {s:St} {st:Option Int} {e:Tie} (R:Round ties k P (e::S) s st) (h:¬ s.h e.1<s.h e.2.1+e.2.2):Round ties k (P++[e]) S s st:=by
 have he:Sat s.h e:=by unfold Sat;omega
 refine ⟨R.g,fun f hf=>?_,fun f hf=>R.q f (List.mem_cons_of_mem _ hf),fun hn f hf=>?_,R.y⟩
 ·rcases List.mem_append.mp hf with hf|hf
  ·exact R.p f hf
  ·cases List.mem_singleton.mp hf;exact .inl he
 ·rcases List.mem_append.mp hf with hf|hf
  ·exact R.n hn f hf
  ·cases List.mem_singleton.mp hf;exact he
theorem sat_raise {s:St} {k:Nat} {e f:Tie} (hlt:s.h e.1<s.h e.2.1+e.2.2) (hs:Sat s.h f) (hf:f.2.1≠e.1):Sat (s.raise k e).h f:=by
 unfold Sat at hs ⊢
 dsimp only [St.raise]
 rw [put_ne hf]
 by_cases q:f.1=e.1
 ·rw [q,put_same];rw [q] at hs;omega
 ·rw [put_ne q];exact hs
theorem Round.raise {ties:List Tie} {k:Nat} {P S:List Tie} {s:St} {st:Option Int} {e:Tie} (R:Round ties k P (e::S) s st) (m:e∈ties) (hne:e.1≠e.2.1) (hlt:s.h e.1<s.h e.2.1+e.2.2):Round ties k (P++[e]) S (s.raise k e) (some e.1):=by
 have hr:k≤s.r e.2.1+1:=by
  rcases R.q e List.mem_cons_self with z|z
  ·unfold Sat at z;omega
  ·exact z
 have rr:∀ v,s.r v≤(s.raise k e).r v:=fun v=>by
  dsimp only [St.raise]
  by_cases q:v=e.1
  ·subst q;rw [put_same];exact R.g.rk _
  ·rw [put_ne q];exact Nat.le_refl _
 have ro:(s.raise k e).r e.1=k:=put_same
 have keep:∀ f,Sat s.h f->Sat (s.raise k e).h f∨k≤(s.raise k e).r f.2.1:=fun f hf=>by
  by_cases q:f.2.1=e.1
  ·right;rw [q,ro];exact Nat.le_refl _
  ·left;exact sat_raise hlt hf q
 refine ⟨R.g.raise m hne hlt hr,fun f hf=>?_,fun f hf=>?_,(fun hn=>by cases hn),fun v hv=>?_⟩
 ·rcases List.mem_append.mp hf with hf|hf
  ·rcases R.p f hf with z|z
   ·exact keep f z
   ·exact .inr (Nat.le_trans z (rr _))
  ·cases List.mem_singleton.mp hf
   left
   unfold Sat
   dsimp only [St.raise]
   rw [put_same,put_ne (Ne.symm hne)]
   exact Int.le_refl _
 ·rcases R.q f (List.mem_cons_of_mem _ hf) with z|z
  ·exact (keep f z).imp id fun z=>by omega
  ·right;have:=rr f.2.1;omega
 ·cases hv
  exact ⟨ro,e,m,rfl⟩
theorem nodup_len:∀ (n:Nat) (a:Int) (l:List Int),l.Nodup->(∀ x∈l,a≤x/\x<a+n)->l.length≤n
 | 0,a,l,_,h=>by
   cases l with
   |nil=>exact Nat.le_refl _
   |cons x r=>have:=h x List.mem_cons_self;omega
 | n+1,a,l,nd,h=>by
   by_cases q:a+n∈l
   ·have h1:=nodup_len n a (l.erase (a+n)) (nd.erase _) fun x hx=>by
     have:=(List.Nodup.mem_erase_iff nd).mp hx
     have h2:=h x this.2
     have h3:=this.1
     refine ⟨h2.1,?_⟩
     omega
    rw [List.length_erase_of_mem q] at h1
    omega
   ·have h1:=nodup_len n a l nd fun x hx=>by
     have h2:=h x hx
     have h3:x≠a+n:=fun z=>q (z ▸ hx)
     exact ⟨h2.1,by omega⟩
    omega
def nx (s:St) (v:Int):Int:=match s.by' v with
 |some e=>e.2.1
 |none=>v
def it (s:St) (v:Int):Nat->Int
 |0=>v
 |i+1=>nx s (it s v i)
theorem it_add (s:St) (v:Int) (i:Nat):∀ j,it s v (i+j)=it s (it s v i) j
 |0=>rfl
 |j+1=>by show nx s (it s v (i+j))=nx s _;rw [it_add s v i j]
theorem nx_of {s:St} {v:Int} {e:Tie} (h:s.by' v=some e):nx s v=e.2.1:=by unfold nx;rw [h]
theorem exists_dup {f:Nat->Int}:∀ n,¬ ((List.range n).map f).Nodup->∃ i j,i<j/\j<n/\f i=f j
 |0,h=>absurd (by simp) h
 | n+1,h=>by
   rw [List.range_succ,List.map_append,List.map_cons,List.map_nil] at h
   by_cases q:((List.range n).map f).Nodup
   ·by_cases q2:f n∈(List.range n).map f
    ·obtain ⟨i,hi,e⟩:=List.mem_map.mp q2
     exact ⟨i,n,List.mem_range.mp hi,Nat.lt_succ_self _,e⟩
    ·exfalso
     refine h (List.nodup_append.mpr ⟨q,by simp,fun a ha b hb=>?_⟩)
     cases List.mem_singleton.mp hb
     exact fun z=>q2 (z ▸ ha)
   ·obtain ⟨i,j,h1,h2,h3⟩:=exists_dup n q
    exact ⟨i,j,h1,Nat.lt_succ_of_lt h2,h3⟩
section
variable {ties:List Tie} {n:Nat} {a:Int} {s:St} {v:Int}
structure Stuck (ties:List Tie) (n:Nat) (a:Int) (s:St) (v:Int):Prop where
 g:Good ties (n+1) s
 nd:∀ e∈ties,(a≤e.1/\e.1<a+n)/\(a≤e.2.1/\e.2.1<a+n)/\e.1≠e.2.1
 v0:a≤v/\v<a+n
 rv:s.r v=n+1
theorem Stuck.back (S:Stuck ties n a s v):∀ i,i≤n+1->n+1≤s.r (it s v i)+i/\(a≤it s v i/\it s v i<a+n)
 |0,_=>⟨by show n+1≤s.r v+0;have:=S.rv;omega,S.v0⟩
 | i+1,h=>by
   obtain ⟨h1,h2⟩:=S.back i (by omega)
   show n+1≤s.r (nx s (it s v i))+(i+1)/\(a≤nx s (it s v i)/\nx s (it s v i)<a+n)
   cases e:s.by' (it s v i) with
   |none=>have:=S.g.no _ e;omega
   | some t=>
     rw [nx_of e]
     have:=(S.g.rr _ _ e).1
     exact ⟨by omega,(S.nd t (S.g.by1 _ _ e).2).2.1⟩
theorem Stuck.has0 (S:Stuck ties n a s v) {i:Nat} (h:i≤n):∃ e,s.by' (it s v i)=some e:=by
 obtain ⟨h1,_⟩:=S.back i (by omega)
 cases e:s.by' (it s v i) with
 |none=>have:=S.g.no _ e;omega
 |some t=>exact ⟨t,rfl⟩
theorem Stuck.per (S:Stuck ties n a s v):∃ i d,1≤d/\i+d≤n/\∀ m,i≤m->it s v (m+d)=it s v m:=by
 have h1:¬ ((List.range (n+1)).map (it s v)).Nodup:=fun nd=>by
  have:=nodup_len n a _ nd fun x hx=>by
   obtain ⟨i,hi,e⟩:=List.mem_map.mp hx
   rw [← e]
   exact (S.back i (by have:=List.mem_range.mp hi;omega)).2
  simp at this
  omega
 obtain ⟨i,j,h2,h3,h4⟩:=exists_dup _ h1
 refine ⟨i,j-i,by omega,by omega,fun m hm=>?_⟩
 have e1:m+(j-i)=j+(m-i):=by omega
 have e2:it s v m=it s v (i+(m-i)):=by rw [Nat.add_sub_cancel' hm]
 rw [e1,e2,it_add,it_add,h4]
theorem Stuck.has (S:Stuck ties n a s v):∀ i,∃ e,s.by' (it s v i)=some e:=by
 obtain ⟨i0,d,h1,h2,h3⟩:=S.per
 intro i
 induction i using Nat.strongRecOn with
 | _ i ih=>
   by_cases h:i≤n
   ·exact S.has0 h
   ·have e:it s v i=it s v (i-d):=by
     have:=h3 (i-d) (by omega)
     rw [Nat.sub_add_cancel (by omega)] at this
     exact this
    rw [e]
    exact ih (i-d) (by omega)
theorem Stuck.loop (S:Stuck ties n a s v):∃ d,1≤d/\it s v (n+d)=it s v n:=by
 obtain ⟨i0,d,h1,h2,h3⟩:=S.per
 exact ⟨d,h1,h3 n (by omega)⟩
def tieAt (s:St) (v:Int) (i:Nat):Tie:=(s.by' (it s v i)).getD (0,0,0)
theorem Stuck.tie (S:Stuck ties n a s v) (i:Nat):s.by' (it s v i)=some (tieAt s v i):=by
 obtain ⟨e,h⟩:=S.has i
 unfold tieAt
 rw [h];rfl
theorem Stuck.one (S:Stuck ties n a s v) (i:Nat):(tieAt s v i).1=it s v i:=(S.g.by1 _ _ (S.tie i)).1
theorem Stuck.mem (S:Stuck ties n a s v) (i:Nat):tieAt s v i∈ties:=(S.g.by1 _ _ (S.tie i)).2
theorem Stuck.other (S:Stuck ties n a s v) (i:Nat):(tieAt s v i).2.1=it s v (i+1):=(nx_of (S.tie i)).symm
structure Ring (es:List Tie):Prop where
 ne:es≠[]
 link:∀ i,i+1<es.length->(es.getD i (0,0,0)).2.1=(es.getD (i+1) (0,0,0)).1
 close:(es.getD (es.length-1) (0,0,0)).2.1=(es.getD 0 (0,0,0)).1
 nd:(es.map (·.1)).Nodup
 pos:0<(es.map (·.2.2)).sum
def ringOf (s:St) (v:Int) (n m:Nat):List Tie:=(List.range m).map fun i=>tieAt s v (n+i)
theorem ringOf_get {s:St} {v:Int} {n m i:Nat} (h:i<m):(ringOf s v n m).getD i (0,0,0)=tieAt s v (n+i):=by
 unfold ringOf
 rw [List.getD_eq_getElem?_getD,List.getElem?_map,List.getElem?_range h];rfl
theorem ringOf_len {s:St} {v:Int} {n m:Nat}:(ringOf s v n m).length=m:=by unfold ringOf;simp
theorem Stuck.sum (S:Stuck ties n a s v):∀ m,s.h (it s v n)-s.h (it s v (n+m))≤((ringOf s v n m).map (·.2.2)).sum/\
 ((∃ i,i<m/\s.ts (it s v (n+i))<s.ts (it s v (n+i+1)))->s.h (it s v n)-s.h (it s v (n+m))<((ringOf s v n m).map (·.2.2)).sum)
 |0=>⟨by simp [ringOf],fun ⟨i,h,_⟩=>absurd h (Nat.not_lt_zero _)⟩
 | m+1=>by
   obtain ⟨h1,h2⟩:=S.sum m
   have e:((ringOf s v n (m+1)).map (·.2.2)).sum=((ringOf s v n m).map (·.2.2)).sum+(tieAt s v (n+m)).2.2:=by
    unfold ringOf
    rw [List.range_succ,List.map_append,List.map_append,List.sum_append]
    simp
   have h3:=S.g.sl _ _ (S.tie (n+m))
   rw [S.other] at h3
   have e2:n+(m+1)=n+m+1:=rfl
   rw [e,e2]
   refine ⟨by omega,fun ⟨i,hi,ht⟩=>?_⟩
   by_cases q:i<m
   ·have:=h2 ⟨i,q,ht⟩
    omega
   ·have:i=m:=by omega
    subst this
    have:=h3.2 ht
    omega
theorem Stuck.ring (S:Stuck ties n a s v) {m:Nat} (h0:it s v (n+(m+1))=it s v n) (h1:∀ i,1≤i->i≤m->it s v (n+i)≠it s v n):Ring (ringOf s v n (m+1))/\∀ e∈ringOf s v n (m+1),e∈ties:=by
 refine ⟨⟨?_,fun i hi=>?_,?_,?_,?_⟩,fun e he=>?_⟩
 ·intro z
  have:=congrArg List.length z
  rw [ringOf_len] at this
  simp at this
 ·rw [ringOf_len] at hi
  rw [ringOf_get (by omega),ringOf_get hi,S.other,S.one]
  rfl
 ·rw [ringOf_len,Nat.add_sub_cancel,ringOf_get (Nat.lt_succ_self _),ringOf_get (Nat.succ_pos _),S.other,S.one]
  exact h0
 ·unfold ringOf
  rw [List.map_map]
  have e:(fun i=>((fun e:Tie=>e.1) ∘ fun i=>tieAt s v (n+i)) i)=fun i=>it s v (n+i):=funext fun i=>S.one _
  show ((List.range (m+1)).map (fun i=>((fun e:Tie=>e.1) ∘ fun i=>tieAt s v (n+i)) i)).Nodup
  rw [e]
  refine Classical.byContradiction fun z=>?_
  obtain ⟨i,j,h2,h3,h4⟩:=exists_dup _ z
  have e1:it s v (n+i+(m+1-j))=it s v n:=by
   rw [it_add,h4,← it_add,← h0]
   congr 1
   omega
  exact h1 (i+(m+1-j)) (by omega) (by omega) (by rw [← Nat.add_assoc];exact e1)
 ·obtain ⟨_,h2⟩:=S.sum (m+1)
  rw [h0] at h2
  refine Int.lt_of_le_of_lt (Int.le_of_eq (Int.sub_self _).symm) (h2 (Classical.byContradiction fun z=>?_))
  have dn:∀ i,i<m+1->s.ts (it s v (n+i+1))≤s.ts (it s v (n+i)):=fun i hi=>by
   refine Classical.byContradiction fun q=>z ⟨i,hi,by omega⟩
  have mono:∀ i,1≤i->i≤m+1->s.ts (it s v (n+i))≤s.ts (it s v (n+1)):=by
   intro i
   induction i with
   |zero=>intro h;omega
   | succ i ih=>
     intro _ hi
     by_cases q:i=0
     ·subst q;exact Nat.le_refl _
     ·exact Nat.le_trans (dn i (by omega)) (ih (by omega) (by omega))
  have h3:=mono (m+1) (by omega) (Nat.le_refl _)
  rw [h0] at h3
  have h4:=dn 0 (Nat.succ_pos _)
  have h5:s.ts (it s v (n+1))=s.ts (it s v n):=Nat.le_antisymm h4 h3
  have h6:=(S.g.rr _ _ (S.tie n)).2
  have h7:=S.g.ti _ _ h5.symm h6
  have h8:=(S.nd _ (S.mem n)).2.2
  rw [S.one,S.other] at h8
  exact h8 h7
 ·unfold ringOf at he
  obtain ⟨i,_,rfl⟩:=List.mem_map.mp he
  exact S.mem _
end
theorem ring_sum {es:List Tie} {g:Int->Int} (R:Ring es) (h:∀ e∈es,Sat g e):False:=by
 have key:∀ m,m≤es.length->0<m->((es.take m).map (·.2.2)).sum≤g (es.getD 0 (0,0,0)).1-g (es.getD (m-1) (0,0,0)).2.1:=by
  intro m
  induction m with
  |zero=>intro _ h;exact absurd h (Nat.lt_irrefl _)
  | succ m ih=>
    intro hm _
    have hlt:m<es.length:=by omega
    have e1:es.take (m+1)=es.take m++[es.getD m (0,0,0)]:=by
     rw [List.take_succ,List.getD_eq_getElem?_getD,List.getElem?_eq_getElem hlt];rfl
    have hs:=h (es.getD m (0,0,0)) (by rw [List.getD_eq_getElem?_getD,List.getElem?_eq_getElem hlt];exact List.getElem_mem hlt)
    unfold Sat at hs
    rw [e1,List.map_append,List.sum_append]
    show _+([(es.getD m (0,0,0)).2.2]:List Int).sum≤_
    rw [List.sum_cons,List.sum_nil,Nat.add_sub_cancel]
    by_cases q:m=0
    ·subst q
     simp only [List.take_zero,List.map_nil,List.sum_nil]
     omega
    ·have h1:=ih (by omega) (by omega)
     have h2:=R.link (m-1) (by omega)
     rw [Nat.sub_add_cancel (by omega)] at h2
     rw [h2] at h1
     omega
 have hp:0<es.length:=List.length_pos_iff.mpr R.ne
 have h1:=key es.length (Nat.le_refl _) hp
 rw [List.take_length,R.close] at h1
 have:=R.pos
 omega
end Bf
namespace Bf
section
variable {ties:List Tie} {n:Nat} {a:Int} {s:St} {v:Int}
theorem Stuck.first (S:Stuck ties n a s v):∃ m,it s v (n+(m+1))=it s v n/\∀ i,1≤i->i≤m->it s v (n+i)≠it s v n:=by
 obtain ⟨d,h1,h2⟩:=S.loop
 have key:∀ d,1≤d->it s v (n+d)=it s v n->∃ m,it s v (n+(m+1))=it s v n/\∀ i,1≤i->i≤m->it s v (n+i)≠it s v n:=by
  intro d
  induction d using Nat.strongRecOn with
  | _ d ih=>
    intro h1 h2
    by_cases q:∃ i,1≤i/\i≤d-1/\it s v (n+i)=it s v n
    ·obtain ⟨i,a1,a2,a3⟩:=q
     exact ih i (by omega) a1 a3
    ·refine ⟨d-1,by rw [Nat.sub_add_cancel h1];exact h2,fun i a1 a2 a3=>q ⟨i,a1,a2,a3⟩⟩
 exact key d h1 h2
end
def Barred (all:List Tie):Prop:=∃ es,Ring es/\∀ e∈es,e∈all
theorem Stuck.barred {ties:List Tie} {n:Nat} {a:Int} {s:St} {v:Int} (S:Stuck ties n a s v):Barred ties:=by
 obtain ⟨m,h1,h2⟩:=S.first
 obtain ⟨R,h3⟩:=S.ring h1 h2
 exact ⟨_,R,h3⟩
theorem Barred.no {all:List Tie} (B:Barred all) {g:Int->Int} (h:∀ e∈all,Sat g e):False:=by
 obtain ⟨es,R,h1⟩:=B
 exact ring_sum R fun e he=>h e (h1 e he)
structure Least (all:List Tie) (h:Int->Int):Prop where
 sat:∀ e∈all,Sat h e
 nn:∀ v,0≤h v
 le:∀ g:Int->Int,(∀ v,0≤g v)->(∀ e∈all,Sat g e)->∀ v,h v≤g v
end Bf
namespace Cm
open PySem L2
def top (i:Nat):Stmt:=PySem.Challenge.pw_lanescribe_k25_whole_amounts_or_a_ring.main.body.getD i (.Pass ⟨0,0,0,0⟩)
def drK (c:Addr) (a r s:Int):List (Key×V):=[(.inr "cells",.ref c),(.inr "at",.int a),(.inr "rest",.int r),(.inr "seed",.int s)]
theorem pat {c:Addr} {a r s x:Int}:putK (drK c a r s) (.inr "at") (.int x)=drK c x r s:=by rfl
theorem prest {c:Addr} {a r s x:Int}:putK (drK c a r s) (.inr "rest") (.int x)=drK c a x s:=by rfl
theorem pseed {c:Addr} {a r s x:Int}:putK (drK c a r s) (.inr "seed") (.int x)=drK c a r x:=by rfl
theorem gcells {H:Hp} {p c:Addr} {a r s:Int} (h:H p=some (.dK (drK c a r s))):DGet H p (.str "cells") (some (.ref c)):=DGet.k (k:=Sum.inr "cells") h
theorem gat {H:Hp} {p c:Addr} {a r s:Int} (h:H p=some (.dK (drK c a r s))):DGet H p (.str "at") (some (.int a)):=DGet.k (k:=Sum.inr "at") h
theorem grest {H:Hp} {p c:Addr} {a r s:Int} (h:H p=some (.dK (drK c a r s))):DGet H p (.str "rest") (some (.int r)):=DGet.k (k:=Sum.inr "rest") h
theorem gseed {H:Hp} {p c:Addr} {a r s:Int} (h:H p=some (.dK (drK c a r s))):DGet H p (.str "seed") (some (.int s)):=DGet.k (k:=Sum.inr "seed") h
abbrev Big:Int:=2305843009213693951
structure Dr (H:Hp) (p c:Addr):Prop where
 ex:∃ (ns:List Int) (a r s:Int),H p=some (.dK (drK c a r s))/\H c=some (.lst (ns.map V.int))/\ns.length≤63/\0≤a/\a≤ns.length/\0≤r/\0≤s/\s<Big
theorem Dr.mono {H H':Hp} {p c:Addr} (d:Dr H p c) (h:Same H H'):Dr H' p c:=by
 obtain ⟨ns,a,r,s,h1,h2,k⟩:=d.ex
 exact ⟨ns,a,r,s,h _ _ h1,h _ _ h2,k⟩
theorem Dr.ne {H:Hp} {p c q:Addr} {o:HO} (d:Dr H p c) (h:H q=some o) (hd:∀ kvs,o≠.dK kvs):q≠p:=by
 obtain ⟨ns,a,r,s,h1,_⟩:=d.ex
 exact ne_of h h1 (hd _)
theorem Dr.put {H:Hp} {p c q:Addr} {o:HO} (d:Dr H p c) (h1:q≠p) (h2:q≠c):Dr (upd H q o) p c:=by
 obtain ⟨ns,a,r,s,e1,e2,k⟩:=d.ex
 exact ⟨ns,a,r,s,by rw [upd_ne h1.symm];exact e1,by rw [upd_ne h2.symm];exact e2,k⟩
theorem Dr.cell {H:Hp} {p c:Addr} (d:Dr H p c):∃ xs,H c=some (.lst xs):=by
 obtain ⟨ns,a,r,s,e1,e2,k⟩:=d.ex
 exact ⟨_,e2⟩
theorem Dr.neN {H:Hp} {p c q:Addr} (d:Dr H p c) (h:H q=none):p≠q:=by
 obtain ⟨ns,a,r,s,h1,_⟩:=d.ex
 exact ne_of_none h1 h
structure Txt (K:PySem.W.Frag) (mg:Str->Option Value):Prop where
 len:mg "len" = none
 range:mg "range" = none
 list:mg "list" = none
 tuple:mg "tuple" = none
 str:mg "str" = none
 bool:mg "bool" = none
 int:mg "int" = none
 min:mg "min" = none
 repr:mg "repr" = none
 all:mg "all" = none
 any:mg "any" = none
 isinstance:mg "isinstance" = none
section
variable {P:Program} {w:World} {K:PySem.W.Frag} {mg:Str->Option Value} {base:Heap}
def spBegin (K:PySem.W.Frag):Sp:=fun vs H Q _=>∃ (a:Addr) (ns:List Int),vs=[.ref a]/\SqL K H a (ns.map V.int)/\ns.length≤63/\∀ (p c:Addr) (H':Hp),Dr H' p c->Same H H'->H p=none->Q (.ref p) H'
theorem scB:FnScope ["_law_script","_law_seed","_law_cell"] ["_law_script"] (defScope (top 21)):=⟨rfl,rfl,rfl,by decide +kernel,rfl,by decide +kernel,by decide +kernel⟩
theorem ok_begin {f:Addr} {fd:FuncData} (F:Fun K "_law_begin" "_law_begin" (top 21) f fd) (T:Txt K mg):FnOk P w K mg base CX0 1 f fd ["_law_script"] (spBegin K):=by
 refine F.ok scB (fun vs H Q E h=>?_) (fun cdv A outer s H vs Q E hr h=>?_)
 ·obtain ⟨a,ns,rfl,_⟩:=h
  rfl
 ·obtain ⟨a,ns,rfl,hS,hlen,k⟩:=h
  refine ⟨_,(pss_cons (ps_set (i:=1) scB.nd rfl (Or.inl rfl) pe_int)
   (pss_cons (ps_for PassesOwn.never rfl (pi_list (pe_slice sl_list (pv 0) po_none (po_some pe_int))) (pg_name (i:=2) scB.nd rfl (Or.inl rfl))
    (pss_one (ps_set (i:=1) scB.nd rfl (Or.inl rfl) (pe_op op_mod (pe_op op_add (pe_op op_add (pe_op op_mul (pv 1) pe_int) (pe_op op_mul (pv 2) pe_int)) pe_int) pe_int))))
   (pss_one (ps_ret (pe_disp (pps_cons pe_str (pe_callTy call_list_of (by rfl) T.list bt_list (pa_cons (pe_slice sl_list (pv 0) po_none (po_some pe_int)) pa_nil)) (pps_cons pe_str pe_int (pps_cons pe_str pe_int (pps_cons pe_str (pv 1) pps_nil)))) rfl rfl (List.cons_ne_nil _ _) (by show 4≤15;decide)))))),?_⟩
  have hcut:cutV (ns.map V.int) none (some 63)=ns.map V.int:=by
   show ((ns.map V.int).drop (HT.sIx _ 0 none)).take (HT.sIx _ _ (some ((63:Nat):Int))-HT.sIx _ 0 none)=_
   rw [HT.sIx_none,HT.sIx_nat,List.drop_zero,Nat.sub_zero,List.take_of_length_le]
   rw [List.length_map];omega
  refine ⟨_,rfl,_,rfl,a,_,rfl,hS,fun q hq=>⟨q,rfl,⟨_,SqL.of upd_same⟩,?_⟩⟩
  rw [hcut]
  have hS':∀ o,SqL K (upd H q o) a (ns.map V.int):=fun o=>(show Same H (upd H q o) from fun b u e=>by rw [upd_ne (ne_of_none e hq)];exact e).seq hS
  refine for_list (K:=K) (a:=q) (xs:=ns.map V.int) (fun i σ H2=>∃ (z:Int) (v:Option V),σ=[some (.ref a),some (.int z),v]/\0≤z/\z<Big/\H2=upd H q (.lst (ns.map V.int)))
   ⟨20011,none,rfl,by decide,by decide,rfl⟩ (fun i σ H2 _ ⟨_,_,_,_,_,e⟩=>by rw [e];exact SqL.of upd_same) ?_ ?_
  ·rintro i y σ H2 hi ⟨z,v,rfl,h0,h1,rfl⟩
   obtain ⟨n,-,rfl⟩:=List.mem_map.mp (List.mem_of_getElem? hi)
   refine ⟨_,rfl,_,_,rfl,rfl,.inl ⟨by omega,by simp only [Big] at h1;omega⟩,_,rfl,_,_,rfl,rfl,.inr ⟨by decide,by decide⟩,_,_,rfl,rfl,_,_,rfl,rfl,_,_,rfl,rfl,(by show (0:Int)<2305843009213693951;decide),?_⟩
   exact ⟨_,_,rfl,Int.emod_nonneg _ (by decide),Int.emod_lt_of_pos _ (by decide),rfl⟩
  ·rintro σ H2 ⟨z,v,rfl,h0,h1,rfl⟩
   intro p hp
   have s1:Same H (upd (upd H q (.lst (ns.map V.int))) p (.dK [])):=(Same.new hq).trans (Same.new hp)
   refine ⟨_,rfl,_,rfl,a,_,rfl,s1.seq hS,fun q2 hq2=>⟨q2,_,rfl,.inl (SqL.of upd_same),fun l hl=>⟨_,rfl,?_,drK l 0 0 z,rfl,by show 4≤15;decide,?_⟩⟩⟩
   ·exact (Same.new hl) _ _ ((Same.new hq2) _ _ upd_same)
   ·rw [hcut]
    have hpl:(upd (upd (upd (upd H q (.lst (ns.map V.int))) p (.dK [])) q2 (.lst (ns.map V.int))) l (.lst (ns.map V.int))) p=some (.dK []):=(Same.new (by rw [hcut] at hl;exact hl)) _ _ ((Same.new hq2) _ _ upd_same)
    have hlp:l≠p:=ne_of upd_same hpl (by intro z;cases z)
    refine k p l _ ⟨ns,0,0,z,upd_same,by rw [upd_ne hlp];exact upd_same,hlen,by decide,by omega,by decide,h0,h1⟩ ?_ ((Same.new hq).free hp)
    intro b u e
    have e1:=((Same.new (q:=l) (o:=.lst (ns.map V.int)) (by rw [hcut] at hl;exact hl)) _ _ ((Same.new hq2) _ _ (s1 b u e)))
    rw [upd_ne (ne_of_none ((Same.new hq) b u e) hp)]
    exact e1
def spPick:Sp:=fun vs H Q _=>∃ (p c:Addr) (m:Int),vs=[.ref p,.int m]/\Dr H p c/\0<m/\m<340282366920938463463374607431768211456/\∀ (r:Int) (H':Hp),0≤r->r<m->Dr H' p c->But p H H'->Q (.int r) H'
theorem scP:FnScope ["_law_d","_law_many","_law_cell","_law_digit","_law_one"] ["_law_d","_law_many"] (defScope (top 22)):=⟨rfl,rfl,rfl,by decide +kernel,rfl,by decide +kernel,by decide +kernel⟩
theorem ok_pick {f:Addr} {fd:FuncData} (F:Fun K "_law_pick" "_law_pick" (top 22) f fd) (T:Txt K mg):FnOk P w K mg base CX0 1 f fd ["_law_d","_law_many"] spPick:=by
 refine F.ok scP (fun vs H Q E h=>?_) (fun cdv A outer s H vs Q E hr h=>?_)
 ·obtain ⟨p,c,m,rfl,_⟩:=h
  rfl
 ·obtain ⟨p,c,m,rfl,D,m0,m1,k⟩:=h
  have hu:=hu_of hr
  refine ⟨_,(pss_cons
 (ps_if (PW.pt (pw_and (pt_cmpR op_eq (pe_dget hu (pv 0) pe_str (fun _ _=>rfl)) pe_int (nomark _)) (pw_and1 (pt_cmpR op_lt (pe_dget hu (pv 0) pe_str (fun _ _=>rfl)) (pe_callB call_len_seq (by rfl) T.len bt_len (pa_cons (pe_dget hu (pv 0) pe_str (fun _ _=>rfl)) pa_nil)) (nomark _))))) (pss_cons
 (ps_set (i:=2) scP.nd rfl (Or.inl rfl) (pe_ix ix_list (pe_dget hu (pv 0) pe_str (fun _ _=>rfl)) (pe_dget hu (pv 0) pe_str (fun _ _=>rfl)) (fun _ _=>rfl)))
 (pss_cons
 (ps_dput hu (pv 0) pe_str (pe_op op_add (pe_dget hu (pv 0) pe_str (fun _ _=>rfl)) pe_int) rfl)
 (pss_one
 (ps_if (pt_cmpR op_ge (pv 2) (pe_op op_pow pe_int pe_int) (nomark _)) (pss_one
 (ps_dput hu (pv 0) pe_str (pv 2) rfl)) (pss_one
 (ps_dput hu (pv 0) pe_str (pe_op op_mod (pe_op op_add (pe_op op_add (pe_op op_mul (pe_dget hu (pv 0) pe_str (fun _ _=>rfl)) pe_int) (pe_op op_mul (pv 2) pe_int)) pe_int) pe_int) rfl)))))) pss_nil)
 (pss_cons
 (ps_if (pt_cmpR op_gt (pe_dget hu (pv 0) pe_str (fun _ _=>rfl)) pe_int (nomark _)) (pss_cons
 (ps_set (i:=3) scP.nd rfl (Or.inl rfl) (pe_op op_mod (pe_dget hu (pv 0) pe_str (fun _ _=>rfl)) (pv 1)))
 (pss_cons
 (ps_dput hu (pv 0) pe_str (pe_op op_fdivW (pe_dget hu (pv 0) pe_str (fun _ _=>rfl)) (pv 1)) rfl)
 (pss_one
 (ps_ret (pv 3))))) pss_nil)
 (pss_cons
 (ps_set (i:=4) scP.nd rfl (Or.inl rfl) (pe_op op_mod (pe_op op_mul (pe_dget hu (pv 0) pe_str (fun _ _=>rfl)) (pe_dget hu (pv 0) pe_str (fun _ _=>rfl))) pe_int))
 (pss_cons
 (ps_dput hu (pv 0) pe_str (pe_op op_mod (pe_op op_add (pe_op op_add (pe_op op_mul (pv 4) pe_int) (pe_op op_mul (pe_dget hu (pv 0) pe_str (fun _ _=>rfl)) pe_int)) pe_int) pe_int) rfl)
 (pss_one
 (ps_ret (pe_op op_mod (pe_op op_fdiv (pe_dget hu (pv 0) pe_str (fun _ _=>rfl)) pe_int) (pv 1)))))))),?_⟩
  obtain ⟨ns,a,r,sd,h1,h2,hl,a0,a1,r0,s0,s1⟩:=D.ex
  have npc:c≠p:=ne_of h2 h1 (by intro z;cases z)
  have small:∀ {x y z:Int},(drK c x y z).length<sizeLine:=fun {x y z}=>small1000 (by show 4≤1000;decide)
  refine seq_by (fun σ' H'=>∃ (a' r' sd':Int) (v:Option V),σ'=[some (.ref p),some (.int m),v,none,none]/\H' p=some (.dK (drK c a' r' sd'))/\But p H H'/\0≤a'/\a'≤ns.length/\0≤r'/\0≤sd'/\sd'<Big) ?_ ?_
  ·rintro σ' H1 ⟨a',r',sd',v,rfl,e1,bt,b0,b1,c0,d0,d1⟩
   have hc1:∀ o,(upd H1 p o) c=some (.lst (ns.map V.int)):=fun o=>by rw [upd_ne npc];exact bt c _ h2 npc
   refine ⟨_,rfl,p,_,rfl,grest e1,_,_,rfl,rfl,_,rfl,?_⟩
   refine ite2 (fun hpos=>?_) (fun _=>?_)
   ·refine ⟨_,rfl,p,_,rfl,grest e1,_,rfl,_,_,rfl,rfl,m0,?_⟩
    refine ⟨_,rfl,p,_,rfl,grest e1,_,rfl,_,_,rfl,rfl,⟨m0,m1⟩,_,rfl,p,_,rfl,DPut.k (k:=Sum.inr "rest") e1 small,_,rfl,?_⟩
    rw [prest]
    exact k _ _ (Int.emod_nonneg _ (by omega)) (Int.emod_lt_of_pos _ m0) ⟨ns,a',r' / m,sd',upd_same,hc1 _,hl,b0,b1,Int.ediv_nonneg c0 (by omega),d0,d1⟩ (bt.trans But.upd)
   ·have sq:CMul sd' sd':=.inl ⟨by omega,by simp only [Big] at d1;omega⟩
    refine ⟨_,rfl,p,_,rfl,gseed e1,_,rfl,p,_,rfl,gseed e1,_,_,rfl,rfl,sq,_,_,rfl,rfl,(by show (0:Int)<2305843009213693951;decide),?_⟩
    have u0:=Int.emod_nonneg (sd'*sd') (show (2305843009213693951:Int)≠0 by decide)
    have u1:=Int.emod_lt_of_pos (sd'*sd') (show (0:Int)<2305843009213693951 by decide)
    refine ⟨_,rfl,_,_,rfl,rfl,.inr ⟨by decide,by decide⟩,_,rfl,p,_,rfl,gseed e1,_,_,rfl,rfl,.inr ⟨by decide,by decide⟩,_,_,rfl,rfl,_,_,rfl,rfl,_,_,rfl,rfl,(by show (0:Int)<2305843009213693951;decide),_,rfl,p,_,rfl,DPut.k (k:=Sum.inr "seed") e1 small,?_⟩
    rw [pseed]
    generalize hsd:(sd'*sd' % 2305843009213693951*7+sd'*40503+12345) % 2305843009213693951=sn
    have v0:0≤sn:=hsd ▸ Int.emod_nonneg _ (by decide)
    have v1:sn<Big:=hsd ▸ Int.emod_lt_of_pos _ (by decide)
    refine ⟨_,rfl,p,_,rfl,gseed upd_same,_,_,rfl,rfl,⟨by decide,by decide⟩,_,rfl,_,_,rfl,rfl,m0,?_⟩
    exact k _ _ (Int.emod_nonneg _ (by omega)) (Int.emod_lt_of_pos _ m0) ⟨ns,a',r',sn,upd_same,hc1 _,hl,b0,b1,c0,v0,v1⟩ (bt.trans But.upd)
  ·intro N hN
   refine ⟨_,rfl,p,_,rfl,grest h1,rfl,_,rfl,?_⟩
   refine ite2 (fun hz=>?_) (fun _=>?_)
   ·refine ⟨_,rfl,p,_,rfl,gat h1,_,rfl,p,_,rfl,gcells h1,c,_,rfl,.inl (SqL.of h2),_,_,rfl,rfl,_,rfl,?_⟩
    rw [List.length_map]
    refine ite2 (fun hlt=>?_) (fun _=>?_)
    ·have hlt:a<ns.length:=of_decide_eq_true hlt
     obtain ⟨z,hz'⟩:∃ z,ns[a.toNat]?=some z:=⟨_,List.getElem?_eq_getElem (by omega)⟩
     have hat:atI (ns.map V.int) a=some (.int z):=by
      have e:(a:Int)=((a.toNat:Nat):Int):=by omega
      rw [e]
      refine atI_nat ?_
      rw [List.getElem?_map,hz'];rfl
     refine ⟨_,rfl,p,_,rfl,gcells h1,_,rfl,p,_,rfl,gat h1,c,_,_,_,rfl,rfl,SqL.of h2,hat,?_⟩
     refine ⟨_,rfl,p,_,rfl,gat h1,_,_,rfl,rfl,_,rfl,p,_,rfl,DPut.k (k:=Sum.inr "at") h1 small,?_⟩
     rw [pat]
     refine ⟨_,rfl,_,_,rfl,rfl,⟨by decide,by decide,by decide⟩,_,_,rfl,rfl,_,rfl,?_⟩
     refine ite2 (fun hge=>?_) (fun _=>?_)
     ·refine ⟨_,rfl,_,rfl,p,_,rfl,DPut.k (k:=Sum.inr "rest") upd_same small,?_⟩
      rw [prest]
      have hge:(10:Int) ^ 18≤z:=of_decide_eq_true hge
      exact hN _ _ ⟨a+1,z,sd,_,rfl,upd_same,But.upd.trans But.upd,by omega,by omega,by omega,s0,s1⟩
     ·refine ⟨_,rfl,p,_,rfl,gseed upd_same,_,_,rfl,rfl,.inr ⟨by decide,by decide⟩,_,rfl,_,_,rfl,rfl,.inr ⟨by decide,by decide⟩,_,_,rfl,rfl,_,_,rfl,rfl,_,_,rfl,rfl,(by show (0:Int)<2305843009213693951;decide),_,rfl,p,_,rfl,DPut.k (k:=Sum.inr "seed") upd_same small,?_⟩
      rw [pseed]
      exact hN _ _ ⟨a+1,r,_,_,rfl,upd_same,But.upd.trans But.upd,by omega,by omega,r0,Int.emod_nonneg _ (by decide),Int.emod_lt_of_pos _ (by decide)⟩
    ·exact hN _ _ ⟨a,r,sd,_,rfl,h1,But.refl,a0,a1,r0,s0,s1⟩
   ·exact hN _ _ ⟨a,r,sd,_,rfl,h1,But.refl,a0,a1,r0,s0,s1⟩
end
section
variable {P:Program} {w:World} {K:PySem.W.Frag} {mg:Str->Option Value} {base:Heap}
theorem Dr.dk {H:Hp} {p c:Addr} (d:Dr H p c):∃ kvs,H p=some (.dK kvs):=by
 obtain ⟨ns,a,r,s,h1,_⟩:=d.ex
 exact ⟨_,h1⟩
theorem Dr.seq {H H':Hp} {p c a:Addr} {xs:List V} (d:Dr H p c) (e:But p H H') (h:SqL K H a xs):SqL K H' a xs:=let ⟨_,hp⟩:=d.dk;e.seq hp h
theorem Dr.new {H:Hp} {p c q:Addr} {o:HO} (d:Dr H p c) (h:H q=none):Dr (upd H q o) p c:=d.mono (Same.new h)
def spOf (K:PySem.W.Frag):Sp:=fun vs H Q _=>∃ (p c q:Addr) (xs:List V),vs=[.ref p,.ref q]/\Dr H p c/\SqL K H q xs/\xs≠[]/\xs.length≤1000/\∀ (x:V) (H':Hp),x∈xs->Dr H' p c->But p H H'->Q x H'
theorem scO:FnScope ["_law_d","_law_things"] ["_law_d","_law_things"] (defScope (top 23)):=⟨rfl,rfl,rfl,by decide +kernel,rfl,by decide +kernel,by decide +kernel⟩
theorem ok_of {f fP:Addr} {fd fdP:FuncData} (F:Fun K "_law_of" "_law_of" (top 23) f fd) (T:Txt K mg) (DP:Def K mg "_law_pick" (top 22) ["_law_d","_law_many"] fP fdP):FnOk P w K mg base CX0 2 f fd ["_law_d","_law_things"] (spOf K):=by
 have GP:FnOk P w K mg base CX0 1 fP fdP ["_law_d","_law_many"] spPick:=ok_pick DP.F T
 refine F.ok scO (fun vs H Q E h=>?_) (fun cdv A outer s H vs Q E hr h=>?_)
 ·obtain ⟨p,c,q,xs,rfl,_⟩:=h
  rfl
 ·obtain ⟨p,c,q,xs,rfl,D,hq,hne,hl,k⟩:=h
  refine ⟨_,(pss_one (ps_ret (pe_ix ix_list (pv 1) (pe_call GP hr rfl DP.mg DP.F.kp DP.b .nil pass0 (pa_cons (pv 0) (pa_cons (pe_callB call_len_seq (by rfl) T.len bt_len (pa_cons (pv 1) pa_nil)) pa_nil))) (fun _ _=>rfl)))),?_⟩
  have hpos:0<xs.length:=List.length_pos_iff.mpr hne
  refine ⟨_,rfl,_,rfl,_,rfl,q,xs,rfl,(.inl hq),p,c,_,rfl,D,by omega,by omega,fun r H' r0 r1 D' bt=>?_⟩
  obtain ⟨j,rfl⟩:=Int.eq_ofNat_of_zero_le r0
  have hx:j<xs.length:=by omega
  exact ⟨q,xs,_,xs[j],rfl,rfl,D.seq bt hq,atI_nat (List.getElem?_eq_getElem hx),k _ _ (List.getElem_mem hx) D' bt⟩
def spS (K:PySem.W.Frag):Nat->Sp
 |0=>fun _ _ _ _=>False
 |n+1=>fun vs H Q _=>∃ (x y:V) (d:PyData),vs=[x,y]/\Rep K H x d/\Rep K H y d/\pdDep d≤n/\pdMax d≤100000/\∀ H':Hp,Same H H'->Q (.bl true) H'
theorem scS:FnScope ["_law_found","_law_due"] ["_law_found","_law_due"] (defScope (top 24)):=⟨rfl,rfl,rfl,by decide +kernel,rfl,by decide +kernel,by decide +kernel⟩
theorem bl_true {Q:VK} {v:V} {H:Hp} (h:Q (.bl true) H):Q (.bl (decide (v=v))) H:=by rw [decide_eq_true rfl];exact h
theorem ok_same {f:Addr} {fd:FuncData} (DS:Def K mg "_law_same" (top 24) ["_law_found","_law_due"] f fd) (T:Txt K mg) (n:Nat):FnOk P w K mg base CX0 n f fd ["_law_found","_law_due"] (spS K n):=by
 refine Nat.rec (motive:=fun n=>FnOk P w K mg base CX0 n f fd ["_law_found","_law_due"] (spS K n)) ⟨fun _ _ _ _ h=>h.elim,fun _ _ _ _ _ _ _ _ _ _ _ _ _ h=>h.elim⟩ (fun n GS=>?_) n
 refine DS.F.ok scS (fun vs H Q E h=>?_) (fun cdv A outer s H vs Q E hr h=>?_)
 ·obtain ⟨x,y,d,rfl,_⟩:=h
  rfl
 ·obtain ⟨x,y,d,rfl,hx,hy,hn,hm,k⟩:=h
  refine ⟨_,(pss_cons
 (ps_if (pt_cmpR op_isN (pv 1) pe_non (nomark _)) (pss_one
 (ps_ret (pe_cmpR op_isN (pv 0) pe_non (nomark _)))) pss_nil)
 (pss_cons
 (ps_if (PW.pt (pw_or (pt_val (pe_callB call_isT (by rfl) T.isinstance bt_isinstance (pa_cons (pv 1) (pa_cons (pe_ty rfl T.bool bt_bool) pa_nil)))) (pw_or1 (pt_val (pe_callB call_isT (by rfl) T.isinstance bt_isinstance (pa_cons (pv 0) (pa_cons (pe_ty rfl T.bool bt_bool) pa_nil))))))) (pss_one
 (ps_ret (pe_and (pe_callB call_isT (by rfl) T.isinstance bt_isinstance (pa_cons (pv 1) (pa_cons (pe_ty rfl T.bool bt_bool) pa_nil))) (pe_and (pe_callB call_isT (by rfl) T.isinstance bt_isinstance (pa_cons (pv 0) (pa_cons (pe_ty rfl T.bool bt_bool) pa_nil))) (pe_one (pe_cmpR op_eq (pv 0) (pv 1) (nomark _))))))) pss_nil)
 (pss_cons
 (ps_if (pt_val (pe_callB call_isT2 (by rfl) T.isinstance bt_isinstance (pa_cons (pv 1) (pa_cons (pe_tup (pa_cons (pe_ty rfl T.int bt_int) (pa_cons (pe_ty rfl T.str bt_str) pa_nil))) pa_nil)))) (pss_one
 (ps_ret (pe_and (pe_callB call_isT2 (by rfl) T.isinstance bt_isinstance (pa_cons (pv 0) (pa_cons (pe_tup (pa_cons (pe_ty rfl T.int bt_int) (pa_cons (pe_ty rfl T.str bt_str) pa_nil))) pa_nil))) (pe_and (pe_cmpR op_eq (pe_callB call_isT (by rfl) T.isinstance bt_isinstance (pa_cons (pv 0) (pa_cons (pe_ty rfl T.int bt_int) pa_nil))) (pe_callB call_isT (by rfl) T.isinstance bt_isinstance (pa_cons (pv 1) (pa_cons (pe_ty rfl T.int bt_int) pa_nil))) (nomark _)) (pe_one (pe_cmpR op_eq (pv 0) (pv 1) (nomark _))))))) pss_nil)
 (pss_cons
 (ps_if (PW.pt (pw_or (pt_cmpR op_ne (pe_callB call_isT (by rfl) T.isinstance bt_isinstance (pa_cons (pv 1) (pa_cons (pe_ty rfl T.list bt_list) pa_nil))) (pe_callB call_isT (by rfl) T.isinstance bt_isinstance (pa_cons (pv 0) (pa_cons (pe_ty rfl T.list bt_list) pa_nil))) (nomark _)) (pw_or1 (pt_cmpR op_ne (pe_callB call_isT (by rfl) T.isinstance bt_isinstance (pa_cons (pv 1) (pa_cons (pe_ty rfl T.tuple bt_tuple) pa_nil))) (pe_callB call_isT (by rfl) T.isinstance bt_isinstance (pa_cons (pv 0) (pa_cons (pe_ty rfl T.tuple bt_tuple) pa_nil))) (nomark _))))) (pss_one
 (ps_ret pe_bl)) pss_nil)
 (pss_one
 (ps_ret (pe_and (pe_cmpR op_eq (pe_callB call_len_seq (by rfl) T.len bt_len (pa_cons (pv 0) pa_nil)) (pe_callB call_len_seq (by rfl) T.len bt_len (pa_cons (pv 1) pa_nil)) (nomark _)) (pe_one (pe_callB (call_allB rfl) (by rfl) T.all bt_all (pa_cons (pe_comp (own:=["_law_k"]) (js:=[0,1]) (N':=["_law_k","_law_found","_law_due"]) (CompScope.of (osc:=defScope (top 24)) (N:=["_law_found","_law_due"]) rfl rfl ⟨rfl,by decide +kernel,by decide +kernel,by decide +kernel,rfl,by decide +kernel⟩) rfl (pi_range1 rfl T.range (pa_cons (pe_callB call_len_seq (by rfl) T.len bt_len (pa_cons (pv 1) pa_nil)) pa_nil)) (fun _ _ _ _ _=>(pg_name (i:=0) (show List.Nodup (["_law_k","_law_found","_law_due"]:List Str) by decide +kernel) rfl (Or.inl rfl) (Or.inr rfl))) (fun _ _ _ _ _=>pifs_nil) (fun _ _ _ _ _=>(pe_call GS hr rfl DS.mg DS.F.kp DS.b .nil pass0 (pa_cons (pe_ix (r:=rIx K) ix_seq (pv 1) (pv 0) (fun _ _=>rfl)) (pa_cons (pe_ix (r:=rIx K) ix_seq (pv 2) (pv 0) (fun _ _=>rfl)) pa_nil))))) pa_nil)))))))))),?_⟩
  have z2:2≤sizeLine:=by decide
  cases hx with
  | non=>
    cases hy
    refine ⟨_,rfl,rfl,_,rfl,ifT rfl ?_⟩
    exact ⟨_,rfl,rfl,k _ (Same.refl _)⟩
  | bl b=>
    cases hy
    refine ⟨_,rfl,rfl,_,rfl,ifF rfl ?_⟩
    refine ⟨_,rfl,_,_,_,_,rfl,(.bl b),rfl,_,rfl,ifT rfl (ifT rfl ?_)⟩
    exact ⟨_,rfl,_,_,_,_,rfl,(.bl b),rfl,_,rfl,ifT rfl ⟨_,rfl,_,_,_,_,rfl,(.bl b),rfl,_,rfl,ifT rfl ⟨_,rfl,_,rfl,rfl,bl_true (k _ (Same.refl _))⟩⟩⟩
  | int i=>
    cases hy
    refine ⟨_,rfl,rfl,_,rfl,ifF rfl ?_⟩
    refine ⟨_,rfl,_,_,_,_,rfl,(.int i),rfl,_,rfl,ifF rfl ?_⟩
    refine ⟨_,rfl,_,_,_,_,rfl,(.int i),rfl,_,rfl,ifF rfl ?_⟩
    refine ⟨_,rfl,z2,fun p hp=>⟨_,p,_,_,_,_,rfl,upd_same,.int i,rfl,_,rfl,ifT rfl ?_⟩⟩
    refine ⟨_,rfl,z2,fun p2 hp2=>⟨_,p2,_,_,_,_,rfl,upd_same,.int i,rfl,_,rfl,ifT rfl ?_⟩⟩
    refine ⟨_,rfl,_,_,_,_,rfl,.int i,rfl,_,rfl,_,_,_,_,rfl,.int i,rfl,rfl,_,rfl,?_⟩
    exact ifT rfl ⟨_,rfl,_,rfl,rfl,bl_true (k _ ((Same.new hp).trans (Same.new hp2)))⟩
  | str z=>
    cases hy
    refine ⟨_,rfl,rfl,_,rfl,ifF rfl ?_⟩
    refine ⟨_,rfl,_,_,_,_,rfl,(.str z),rfl,_,rfl,ifF rfl ?_⟩
    refine ⟨_,rfl,_,_,_,_,rfl,(.str z),rfl,_,rfl,ifF rfl ?_⟩
    refine ⟨_,rfl,z2,fun p hp=>⟨_,p,_,_,_,_,rfl,upd_same,.str z,rfl,_,rfl,ifT rfl ?_⟩⟩
    refine ⟨_,rfl,z2,fun p2 hp2=>⟨_,p2,_,_,_,_,rfl,upd_same,.str z,rfl,_,rfl,ifT rfl ?_⟩⟩
    refine ⟨_,rfl,_,_,_,_,rfl,.str z,rfl,_,rfl,_,_,_,_,rfl,.str z,rfl,rfl,_,rfl,?_⟩
    exact ifT rfl ⟨_,rfl,_,rfl,rfl,bl_true (k _ ((Same.new hp).trans (Same.new hp2)))⟩
  | tup g rs=>
    cases hy with
    | tup g2 rs2=>
      rename_i a1 xs1 ds a2 xs2
      refine ⟨_,rfl,rfl,_,rfl,ifF rfl ?_⟩
      refine ⟨_,rfl,_,_,_,_,rfl,(.tup g2 rs2),rfl,_,rfl,ifF rfl ?_⟩
      refine ⟨_,rfl,_,_,_,_,rfl,(.tup g rs),rfl,_,rfl,ifF rfl ?_⟩
      refine ⟨_,rfl,z2,fun p hp=>⟨_,p,_,_,_,_,rfl,upd_same,Rep.same (.tup g2 rs2) (Same.new hp),rfl,_,rfl,ifF rfl ?_⟩⟩
      have s1:Same H (upd H p (.tup [.ty "int",.ty "str"])):=Same.new hp
      refine ⟨_,rfl,_,_,_,_,rfl,(Rep.same (.tup g2 rs2) s1),rfl,_,rfl,_,_,_,_,rfl,(Rep.same (.tup g rs) s1),rfl,rfl,_,rfl,ifF rfl ?_⟩
      refine ⟨_,rfl,_,_,_,_,rfl,(Rep.same (.tup g2 rs2) s1),rfl,_,rfl,_,_,_,_,rfl,(Rep.same (.tup g rs) s1),rfl,rfl,_,rfl,ifF rfl ?_⟩
      refine ⟨_,rfl,_,_,rfl,.inr (s1.tup g),_,rfl,_,_,rfl,.inr (s1.tup g2),rfl,_,rfl,?_⟩
      have l1:=rs.length
      have l2:=rs2.length
      have hm':xs2.length≤100000:=by simp only [pdMax] at hm;omega
      have hl:xs1.length=xs2.length:=by omega
      generalize upd H p (.tup [.ty "int",.ty "str"])=H1 at s1 ⊢
      refine ifT (by rw [hl];simp) ?_
      obtain ⟨n,rfl⟩:∃ n',n=n'+1:=⟨n-1,by simp only [pdDep] at hn;omega⟩
      refine ⟨_,rfl,_,_,rfl,.inr (s1.tup g2),_,rfl,by omega,by omega,?_⟩
      refine comp_range (n:=xs2.length) (fun i ys σ' H'=>∃ (v:Option V),ys=(List.replicate i true).map V.bl/\σ'=[v,some _,some _]/\Same H1 H') (by exact Nat.le_trans hm' (by decide)) ⟨none,rfl,rfl,Same.refl _⟩ ?_ ?_
      ·rintro i ys σ' H' hi hys ⟨v,rfl,rfl,s2⟩ N hN
       obtain ⟨d1,e1,r1⟩:=rs.get' (i:=i) (x:=xs1[i]) (List.getElem?_eq_getElem (by omega))
       obtain ⟨d2,e2,r2⟩:=rs2.get' (i:=i) (x:=xs2[i]) (List.getElem?_eq_getElem hi)
       rw [e1] at e2
       cases e2
       have m1:=List.mem_of_getElem? e1
       have q1:=pdDep_le m1
       have q2:=pdMax_le m1
       have at1:atI xs1 (0+(i:Int))=some xs1[i]:=by rw [Int.zero_add];exact atI_nat (List.getElem?_eq_getElem (by omega))
       have at2:atI xs2 (0+(i:Int))=some xs2[i]:=by rw [Int.zero_add];exact atI_nat (List.getElem?_eq_getElem hi)
       refine ⟨_,rfl,_,rfl,.inr (.inl ⟨_,_,_,_,rfl,rfl,(s1.trans s2).tup g,at1,?_⟩)⟩
       refine ⟨_,rfl,_,rfl,.inr (.inl ⟨_,_,_,_,rfl,rfl,(s1.trans s2).tup g2,at2,?_⟩)⟩
       refine ⟨_,_,d1,rfl,r1.same (s1.trans s2),r2.same (s1.trans s2),?_,?_,fun H'' s3=>?_⟩
       ·simp only [pdDep] at hn;omega
       ·simp only [pdMax] at hm;omega
       exact hN _ _ _ (by simp) ⟨_,by rw [List.replicate_succ',List.map_append];rfl,rfl,s2.trans s3⟩
      ·rintro ys σ' H' hys ⟨v,rfl,rfl,s2⟩
       refine ⟨by rw [List.length_map,List.length_replicate];exact Nat.le_trans hm' (by decide),fun q hq=>⟨q,_,rfl,SqL.of upd_same,?_⟩⟩
       show Q (.bl ((List.replicate xs2.length true).all id)) _
       rw [show (List.replicate xs2.length true).all id=true by simp]
       exact k _ ((s1.trans s2).trans (Same.new hq))
  | lst g rs=>
    cases hy with
    | lst g2 rs2=>
      rename_i a1 xs1 ds a2 xs2
      refine ⟨_,rfl,rfl,_,rfl,ifF rfl ?_⟩
      refine ⟨_,rfl,_,_,_,_,rfl,(.lst g2 rs2),rfl,_,rfl,ifF rfl ?_⟩
      refine ⟨_,rfl,_,_,_,_,rfl,(.lst g rs),rfl,_,rfl,ifF rfl ?_⟩
      refine ⟨_,rfl,z2,fun p hp=>⟨_,p,_,_,_,_,rfl,upd_same,Rep.same (.lst g2 rs2) (Same.new hp),rfl,_,rfl,ifF rfl ?_⟩⟩
      have s1:Same H (upd H p (.tup [.ty "int",.ty "str"])):=Same.new hp
      refine ⟨_,rfl,_,_,_,_,rfl,(Rep.same (.lst g2 rs2) s1),rfl,_,rfl,_,_,_,_,rfl,(Rep.same (.lst g rs) s1),rfl,rfl,_,rfl,ifF rfl ?_⟩
      refine ⟨_,rfl,_,_,_,_,rfl,(Rep.same (.lst g2 rs2) s1),rfl,_,rfl,_,_,_,_,rfl,(Rep.same (.lst g rs) s1),rfl,rfl,_,rfl,ifF rfl ?_⟩
      refine ⟨_,rfl,_,_,rfl,.inl (s1.seq g),_,rfl,_,_,rfl,.inl (s1.seq g2),rfl,_,rfl,?_⟩
      have l1:=rs.length
      have l2:=rs2.length
      have hm':xs2.length≤100000:=by simp only [pdMax] at hm;omega
      have hl:xs1.length=xs2.length:=by omega
      generalize upd H p (.tup [.ty "int",.ty "str"])=H1 at s1 ⊢
      refine ifT (by rw [hl];simp) ?_
      obtain ⟨n,rfl⟩:∃ n',n=n'+1:=⟨n-1,by simp only [pdDep] at hn;omega⟩
      refine ⟨_,rfl,_,_,rfl,.inl (s1.seq g2),_,rfl,by omega,by omega,?_⟩
      refine comp_range (n:=xs2.length) (fun i ys σ' H'=>∃ (v:Option V),ys=(List.replicate i true).map V.bl/\σ'=[v,some _,some _]/\Same H1 H') (by exact Nat.le_trans hm' (by decide)) ⟨none,rfl,rfl,Same.refl _⟩ ?_ ?_
      ·rintro i ys σ' H' hi hys ⟨v,rfl,rfl,s2⟩ N hN
       obtain ⟨d1,e1,r1⟩:=rs.get' (i:=i) (x:=xs1[i]) (List.getElem?_eq_getElem (by omega))
       obtain ⟨d2,e2,r2⟩:=rs2.get' (i:=i) (x:=xs2[i]) (List.getElem?_eq_getElem hi)
       rw [e1] at e2
       cases e2
       have m1:=List.mem_of_getElem? e1
       have q1:=pdDep_le m1
       have q2:=pdMax_le m1
       have at1:atI xs1 (0+(i:Int))=some xs1[i]:=by rw [Int.zero_add];exact atI_nat (List.getElem?_eq_getElem (by omega))
       have at2:atI xs2 (0+(i:Int))=some xs2[i]:=by rw [Int.zero_add];exact atI_nat (List.getElem?_eq_getElem hi)
       refine ⟨_,rfl,_,rfl,.inl ⟨_,_,_,_,rfl,rfl,(s1.trans s2).seq g,at1,?_⟩⟩
       refine ⟨_,rfl,_,rfl,.inl ⟨_,_,_,_,rfl,rfl,(s1.trans s2).seq g2,at2,?_⟩⟩
       refine ⟨_,_,d1,rfl,r1.same (s1.trans s2),r2.same (s1.trans s2),?_,?_,fun H'' s3=>?_⟩
       ·simp only [pdDep] at hn;omega
       ·simp only [pdMax] at hm;omega
       exact hN _ _ _ (by simp) ⟨_,by rw [List.replicate_succ',List.map_append];rfl,rfl,s2.trans s3⟩
      ·rintro ys σ' H' hys ⟨v,rfl,rfl,s2⟩
       refine ⟨by rw [List.length_map,List.length_replicate];exact Nat.le_trans hm' (by decide),fun q hq=>⟨q,_,rfl,SqL.of upd_same,?_⟩⟩
       show Q (.bl ((List.replicate xs2.length true).all id)) _
       rw [show (List.replicate xs2.length true).all id=true by simp]
       exact k _ ((s1.trans s2).trans (Same.new hq))
end
end Cm
namespace Cm
open PySem L2 PySem.W
abbrev Tie:=Bf.Tie
def TieAt (H:Hp) (x:V) (e:Tie):Prop:=∃ b,x=.ref b/\H b=some (.tup [.int e.1,.int e.2.1,.int e.2.2])
def TK (H H':Hp):Prop:=∀ b xs,H b=some (.tup xs)->H' b=some (.tup xs)
theorem TK.but {H H':Hp} {p dc:Addr} (D:Dr H p dc) (b:But p H H'):TK H H':=fun q xs e=>b q _ e (D.ne e (by intro kvs z;cases z))
theorem ties_tk {H H':Hp} (k:TK H H'):∀ {xs:List V} {es:List Tie},Paired (TieAt H) xs es->Paired (TieAt H') xs es
 |_,_,.nil=>.nil
 |_,_,.cons ⟨b,e,h⟩ t=>.cons ⟨b,e,k _ _ h⟩ (ties_tk k t)
theorem Same.tk {H H':Hp} (s:Same H H'):TK H H':=fun b xs e=>s b _ e
theorem ties_get {H:Hp}:∀ {xs:List V} {es:List Tie} {i:Nat} {x:V},Paired (TieAt H) xs es->xs[i]?=some x->∃ e,es[i]?=some e/\TieAt H x e
 |_,_,0,_,.cons h _,e=>⟨_,rfl,by cases e;exact h⟩
 |_,_,i+1,_,.cons _ t,e=>ties_get (i:=i) t (by simpa using e)
 |_,_,i,_,.nil,e=>by simp at e
structure OkTie (n:Int) (e:Tie):Prop where
 o:0≤e.1/\e.1<n
 t:0≤e.2.1/\e.2.1<n
 ne:e.1≠e.2.1
 l:-999999≤e.2.2/\e.2.2≤999999
structure TxtC (mg:Str->Option Value):Prop where
 lim:∃ t,mg "LIMIT" = some (.int 999999 t)
 ml:∃ t,mg "MOST_LANES" = some (.int 6 t)
 hm:∃ t,mg "HIGHEST_MOST" = some (.int 1000000000000 t)
 gr:∃ t,mg "GROUND" = some (.int (-1) t)
section
variable {P:Program} {w:World} {K:PySem.W.Frag} {mg:Str->Option Value} {base:Heap}
def spNL:Sp:=fun vs H Q _=>∃ n:Int,vs=[.int n]/\1≤n/\n≤6/\Q .non H
theorem scNL:FnScope ["lanes"] ["lanes"] (defScope (top 10)):=⟨rfl,rfl,rfl,by decide +kernel,rfl,by decide +kernel,by decide +kernel⟩
theorem ok_nl {f:Addr} {fd:FuncData} (F:Fun K "need_lanes" "need_lanes" (top 10) f fd) (TC:TxtC mg):FnOk P w K mg base CX0 1 f fd ["lanes"] spNL:=by
 refine F.ok scNL (fun vs H Q E h=>?_) (fun cdv A outer s H vs Q E hr h=>?_)
 ·obtain ⟨n,rfl,_⟩:=h
  rfl
 ·obtain ⟨n,rfl,h1,h2,k⟩:=h
  obtain ⟨t,ml⟩:=TC.ml
  refine ⟨_,(pss_one (ps_if (pt_not (pt_chain op_le op_le pe_int (pv 0) (pe_glob (v:=.int 6) rfl ml ⟨_,rfl⟩))) (pss_one ps_never) pss_nil)),?_⟩
  exact ⟨_,rfl,_,_,rfl,rfl,_,rfl,ifT (by simpa using h1) ⟨_,_,rfl,rfl,_,rfl,ifF (by simpa using h2) k⟩⟩
def spNT (K:PySem.W.Frag):Sp:=fun vs H Q _=>∃ (n:Int) (q:Addr) (xs:List V) (es:List Tie),vs=[.int n,.ref q]/\SqL K H q xs/\Paired (TieAt H) xs es/\(∀ e∈es,OkTie n e)/\Q .non H
theorem scNT:FnScope ["lanes","ties","one","other","least"] ["lanes","ties"] (defScope (top 11)):=⟨rfl,rfl,rfl,by decide +kernel,rfl,by decide +kernel,by decide +kernel⟩
theorem ok_nt {f:Addr} {fd:FuncData} (F:Fun K "need_ties" "need_ties" (top 11) f fd) (TC:TxtC mg):FnOk P w K mg base CX0 1 f fd ["lanes","ties"] (spNT K):=by
 refine F.ok scNT (fun vs H Q E h=>?_) (fun cdv A outer s H vs Q E hr h=>?_)
 ·obtain ⟨n,q,xs,es,rfl,_⟩:=h
  rfl
 ·obtain ⟨n,q,xs,es,rfl,hq,pe,ok,k⟩:=h
  obtain ⟨t,ml⟩:=TC.lim
  refine ⟨_,(pss_one (ps_for PassesOwn.never rfl (pi_list (pv 1)) (pg_tup rfl (pgs_cons (pg_name (i:=2) scNT.nd rfl (Or.inl rfl)) (pgs_cons (pg_name (i:=3) scNT.nd rfl (Or.inl rfl)) (pgs_cons (pg_name (i:=4) scNT.nd rfl (Or.inl rfl)) pgs_nil))))
   (pss_cons (ps_if (PW.pt (pw_or (pt_not (pt_chain op_le op_lt pe_int (pv 2) (pv 0))) (pw_or (pt_not (pt_chain op_le op_lt pe_int (pv 3) (pv 0))) (pw_or1 (pt_cmpR op_eq (pv 2) (pv 3) (nomark _)))))) (pss_one ps_never) pss_nil)
   (pss_one (ps_if (pt_not (pt_chain op_le op_le (pe_un un_neg (pe_glob (v:=.int 999999) rfl ml ⟨_,rfl⟩)) (pv 4) (pe_glob (v:=.int 999999) rfl ml ⟨_,rfl⟩))) (pss_one ps_never) pss_nil))))),?_⟩
  refine ⟨_,rfl,q,rfl,⟨_,hq⟩,for_list (K:=K) (a:=q) (xs:=xs) (fun i σ H'=>∃ a b c,σ=[some (.int n),some (.ref q),a,b,c]/\H'=H) ⟨none,none,none,rfl,rfl⟩ (fun i σ H' _ ⟨_,_,_,_,e⟩=>by rw [e];exact hq) ?_ ?_⟩
  ·rintro i x σ H' hi ⟨a,b,c,rfl,rfl⟩
   obtain ⟨e,he,a',rfl,h'⟩:=ties_get pe hi
   have o:=ok e (List.mem_of_getElem? he)
   refine ⟨a',_,rfl,SqT.of h',rfl,_,_,rfl,_,_,rfl,_,_,rfl,rfl,?_⟩
   refine ⟨_,rfl,_,_,rfl,rfl,_,rfl,ifT (by simpa using o.o.1) ⟨_,rfl,_,_,rfl,rfl,_,rfl,?_⟩⟩
   refine ifF (by simpa using o.o.2) ?_
   refine ⟨_,rfl,_,_,rfl,rfl,_,rfl,ifT (by simpa using o.t.1) ⟨_,rfl,_,_,rfl,rfl,_,rfl,ifF (by simpa using o.t.2) ?_⟩⟩
   refine ⟨_,rfl,_,rfl,rfl,_,rfl,ifF (by simpa using o.ne) ?_⟩
   refine ⟨_,rfl,_,rfl,_,_,rfl,rfl,_,rfl,ifT (by have:=o.l.1;simp;omega) ⟨_,_,rfl,rfl,_,rfl,ifF (by simpa using o.l.2) ?_⟩⟩
   exact ⟨_,_,_,rfl,rfl⟩
  ·rintro σ H' ⟨a,b,c,rfl,rfl⟩
   exact k
def spNM:Sp:=fun vs H Q _=>∃ n:Int,vs=[.int n]/\0≤n/\n≤1000000000000/\Q .non H
theorem scNM:FnScope ["most"] ["most"] (defScope (top 12)):=⟨rfl,rfl,rfl,by decide +kernel,rfl,by decide +kernel,by decide +kernel⟩
theorem ok_nm {f:Addr} {fd:FuncData} (F:Fun K "need_most" "need_most" (top 12) f fd) (TC:TxtC mg):FnOk P w K mg base CX0 1 f fd ["most"] spNM:=by
 refine F.ok scNM (fun vs H Q E h=>?_) (fun cdv A outer s H vs Q E hr h=>?_)
 ·obtain ⟨n,rfl,_⟩:=h
  rfl
 ·obtain ⟨n,rfl,h1,h2,k⟩:=h
  obtain ⟨t,ml⟩:=TC.hm
  refine ⟨_,(pss_one (ps_if (pt_not (pt_chain op_le op_le pe_int (pv 0) (pe_glob (v:=.int 1000000000000) rfl ml ⟨_,rfl⟩))) (pss_one ps_never) pss_nil)),?_⟩
  exact ⟨_,rfl,_,_,rfl,rfl,_,rfl,ifT (by simpa using h1) ⟨_,_,rfl,rfl,_,rfl,ifF (by simpa using h2) k⟩⟩
def spNA (K:PySem.W.Frag):Sp:=fun vs H Q _=>∃ (n m:Int) (q:Addr) (xs:List V) (es:List Tie),vs=[.int n,.ref q,.int m]/\1≤n/\n≤6/\0≤m/\m≤1000000000000/\SqL K H q xs/\Paired (TieAt H) xs es/\(∀ e∈es,OkTie n e)/\Q .non H
theorem scNA:FnScope ["lanes","ties","most"] ["lanes","ties","most"] (defScope (top 13)):=⟨rfl,rfl,rfl,by decide +kernel,rfl,by decide +kernel,by decide +kernel⟩
theorem ok_na {f fL fT fM:Addr} {fd fdL fdT fdM:FuncData} (F:Fun K "need_all" "need_all" (top 13) f fd) (TC:TxtC mg) (DL:Def K mg "need_lanes" (top 10) ["lanes"] fL fdL) (DT:Def K mg "need_ties" (top 11) ["lanes","ties"] fT fdT) (DM:Def K mg "need_most" (top 12) ["most"] fM fdM) :
 FnOk P w K mg base CX0 2 f fd ["lanes","ties","most"] (spNA K):=by
 have GL:FnOk P w K mg base CX0 1 fL fdL ["lanes"] spNL:=ok_nl DL.F TC
 have GT:FnOk P w K mg base CX0 1 fT fdT ["lanes","ties"] (spNT K):=ok_nt DT.F TC
 have GM:FnOk P w K mg base CX0 1 fM fdM ["most"] spNM:=ok_nm DM.F TC
 refine F.ok scNA (fun vs H Q E h=>?_) (fun cdv A outer s H vs Q E hr h=>?_)
 ·obtain ⟨n,m,q,xs,es,rfl,_⟩:=h
  rfl
 ·obtain ⟨n,m,q,xs,es,rfl,n1,n2,m1,m2,hq,pe,ok,k⟩:=h
  refine ⟨_,(pss_cons (ps_expr (pe_call GL hr rfl DL.mg DL.F.kp DL.b .nil pass0 (pa_cons (pv 0) pa_nil)))
   (pss_cons (ps_expr (pe_call GT hr rfl DT.mg DT.F.kp DT.b .nil pass0 (pa_cons (pv 0) (pa_cons (pv 1) pa_nil))))
   (pss_one (ps_expr (pe_call GM hr rfl DM.mg DM.F.kp DM.b .nil pass0 (pa_cons (pv 2) pa_nil)))))),?_⟩
  exact ⟨_,rfl,n,rfl,n1,n2,_,rfl,_,rfl,n,q,xs,es,rfl,hq,pe,ok,_,rfl,m,rfl,m1,m2,k⟩
def loT (i:Nat):Tie:=((i:Int),-1,0)
def hiT (m:Int) (i:Nat):Tie:=(-1,(i:Int),0-m)
def bnds (n:Nat) (m:Int):List Tie:=(List.range n).map loT++(List.range n).map (hiT m)
def spBo:Sp:=fun vs H Q _=>∃ (n:Nat) (m:Int),vs=[.int n,.int m]/\n≤100/\∀ (q:Addr) (xs:List V) (H':Hp),H' q=some (.lst xs)->Paired (TieAt H') xs (bnds n m)->H q=none->Same H H'->Q (.ref q) H'
theorem scBo:FnScope ["lanes","most","lowest"] ["lanes","most"] (defScope (top 14)):=⟨rfl,rfl,rfl,by decide +kernel,rfl,by decide +kernel,by decide +kernel⟩
theorem Paired.snoc {α β:Type} {R:α->β->Prop} {x:α} {y:β} (h:R x y):∀ {xs:List α} {ys:List β},Paired R xs ys->Paired R (xs++[x]) (ys++[y])
 |_,_,.nil=>.cons h .nil
 |_,_,.cons a t=>.cons a (Paired.snoc h t)
theorem Paired.app {α β:Type} {R:α->β->Prop} {xs2:List α} {ys2:List β} (h:Paired R xs2 ys2):∀ {xs:List α} {ys:List β},Paired R xs ys->Paired R (xs++xs2) (ys++ys2)
 |_,_,.nil=>h
 |_,_,.cons a t=>.cons a (Paired.app h t)
theorem ok_bo {f:Addr} {fd:FuncData} (F:Fun K "bounds" "bounds" (top 14) f fd) (T:Txt K mg) (TC:TxtC mg):FnOk P w K mg base CX0 1 f fd ["lanes","most"] spBo:=by
 refine F.ok scBo (fun vs H Q E h=>?_) (fun cdv A outer s H vs Q E hr h=>?_)
 ·obtain ⟨n,m,rfl,_⟩:=h
  rfl
 ·obtain ⟨n,m,rfl,hn,k⟩:=h
  obtain ⟨t,mgr⟩:=TC.gr
  refine ⟨_,(pss_cons (ps_setComp (g:=gName 0) (i:=2) (own:=["lane"]) (js:=[]) (N':=["lane"]) (CompScope.of (osc:=defScope (top 14)) (N:=["lanes","most","lowest"]) rfl rfl ⟨rfl,by decide +kernel,by decide +kernel,by decide +kernel,rfl,by decide +kernel⟩) rfl scBo.nd rfl rfl (pi_range1 rfl T.range (pa_cons (pv 0) pa_nil)) (fun _ _ _ _ _=>(pg_name (i:=0) (show List.Nodup (["lane"]:List Str) by decide +kernel) rfl (Or.inl rfl) (Or.inr rfl))) (fun _ _ _ _ _=>pifs_nil) (fun _ _ _ _ _=>pe_tup (pa_cons (pv 0) (pa_cons (pe_glob (v:=.int (-1)) rfl mgr ⟨_,rfl⟩) (pa_cons pe_int pa_nil)))))
   (pss_one (ps_ret (pe_op op_cat (pv 2) (pe_comp (g:=gName 0) (own:=["lane"]) (js:=[1]) (N':=["lane","most"]) (CompScope.of (osc:=defScope (top 14)) (N:=["lanes","most","lowest"]) rfl rfl ⟨rfl,by decide +kernel,by decide +kernel,by decide +kernel,rfl,by decide +kernel⟩) rfl (pi_range1 rfl T.range (pa_cons (pv 0) pa_nil)) (fun _ _ _ _ _=>(pg_name (i:=0) (show List.Nodup (["lane","most"]:List Str) by decide +kernel) rfl (Or.inl rfl) (Or.inr rfl))) (fun _ _ _ _ _=>pifs_nil) (fun _ _ _ _ _=>pe_tup (pa_cons (pe_glob (v:=.int (-1)) rfl mgr ⟨_,rfl⟩) (pa_cons (pv 0) (pa_cons (pe_op op_sub pe_int (pv 1)) pa_nil))))))))),?_⟩
  have z3:3≤sizeLine:=by decide
  refine ⟨_,rfl,_,rfl,by omega,by omega,?_⟩
  refine comp_range (n:=n) (fun i ys σ' H'=>∃ v,σ'=[v]/\Same H H'/\Paired (TieAt H') ys ((List.range i).map loT)) (Nat.le_trans hn (by decide)) ⟨none,rfl,Same.refl _,.nil⟩ ?_ ?_
  ·rintro i ys σ' H' hi hys ⟨v,rfl,s1,pe⟩ N hN
   refine ⟨_,rfl,z3,fun p hp=>?_⟩
   refine hN _ _ _ (by simp [hys]) ⟨_,rfl,s1.trans (Same.new hp),?_⟩
   rw [List.range_succ,List.map_append]
   refine Paired.snoc ⟨p,rfl,?_⟩ (ties_tk (Same.tk (Same.new hp)) pe)
   rw [upd_same,Int.zero_add];rfl
  ·rintro ys σ' H1 hys ⟨v,rfl,s1,pe⟩
   have ly:=Paired.length pe
   rw [List.length_map,List.length_range] at ly
   refine ⟨Nat.le_trans (Nat.le_of_eq ly) (Nat.le_trans hn (by decide)),fun q1 hq1=>?_⟩
   have s2:Same H (upd H1 q1 (.lst ys)):=s1.trans (Same.new hq1)
   refine ⟨_,rfl,_,rfl,_,rfl,by omega,by omega,?_⟩
   refine comp_range (n:=n) (fun i zs σ' H'=>∃ v,σ'=[v,some (.int m)]/\Same (upd H1 q1 (.lst ys)) H'/\Paired (TieAt H') zs ((List.range i).map (hiT m))) (Nat.le_trans hn (by decide)) ⟨none,rfl,Same.refl _,.nil⟩ ?_ ?_
   ·rintro i zs σ' H' hi hzs ⟨v,rfl,s3,pz⟩ N hN
    refine ⟨_,rfl,_,rfl,_,_,rfl,rfl,z3,fun p hp=>?_⟩
    refine hN _ _ _ (by simp [hzs]) ⟨_,rfl,s3.trans (Same.new hp),?_⟩
    rw [List.range_succ,List.map_append]
    refine Paired.snoc ⟨p,rfl,?_⟩ (ties_tk (Same.tk (Same.new hp)) pz)
    rw [upd_same,Int.zero_add];rfl
   ·rintro zs σ' H2 hzs ⟨v,rfl,s3,pz⟩
    have lz:=Paired.length pz
    rw [List.length_map,List.length_range] at lz
    refine ⟨Nat.le_trans (Nat.le_of_eq lz) (Nat.le_trans hn (by decide)),fun q2 hq2=>?_⟩
    have s4:Same H (upd H2 q2 (.lst zs)):=s2.trans (s3.trans (Same.new hq2))
    refine ⟨q1,q2,ys,zs,rfl,rfl,Same.new hq2 _ _ (s3 _ _ upd_same),upd_same,Nat.le_trans (by omega:ys.length+zs.length≤200) (by decide),fun q3 hq3=>?_⟩
    have s5:=s4.trans (Same.new (o:=.lst (ys++zs)) hq3)
    refine k q3 _ _ upd_same (Paired.app (ties_tk (Same.tk ((Same.new hq2).trans (Same.new hq3))) pz) (ties_tk (Same.tk ((Same.new hq1).trans (s3.trans ((Same.new hq2).trans (Same.new hq3))))) pe)) ?_ s5
    exact s4.free hq3
end
def Hts (n:Nat) (h:Int->Int) (kv:List (Key×V)):Prop:=∀ v:Int,-1≤v->v<n->valV kv (.inl v)=some (.int (h v))
def Bys (b:Int->Option Tie) (kv:List (Key×V)) (H:Hp):Prop:=∀ v:Int,match b v with
 |none=>valV kv (.inl v)=none
 |some e=>∃ x,valV kv (.inl v)=some x/\TieAt H x e
theorem Bys.some' {b:Int->Option Tie} {kv:List (Key×V)} {H:Hp} (h:Bys b kv H) {v:Int} {e:Tie} (hv:b v=some e):∃ x,valV kv (.inl v)=some x/\TieAt H x e:=by
 have:=h v
 rw [hv] at this
 exact this
theorem Bys.tk {b:Int->Option Tie} {kv:List (Key×V)} {H H':Hp} (h:Bys b kv H) (k:TK H H'):Bys b kv H':=fun v=>by
 have:=h v
 cases e:b v with
 |none=>rw [e] at this;exact this
 | some t=>
   rw [e] at this
   obtain ⟨x,h1,a,h2,h3⟩:=this
   exact ⟨x,h1,a,h2,k _ _ h3⟩
def stV:Option Int->V
 |none=>.non
 |some v=>.int v
structure Hps (n:Nat) (H0:Hp) (p1 p2:Addr) (S:Bf.St) (c:Nat) (H:Hp):Prop where
 k1:∃ kv,H p1=some (.dK kv)/\Hts n S.h kv/\kv.length=n+1
 k2:∃ kv,H p2=some (.dK kv)/\Bys S.by' kv H/\kv.length≤c
 sm:Same H0 H
 n1:H0 p1=none
 n2:H0 p2=none
 ne:p1≠p2
theorem Hps.same {n:Nat} {H0 H H':Hp} {p1 p2:Addr} {S:Bf.St} {c:Nat} (h:Hps n H0 p1 p2 S c H) (s:Same H H'):Hps n H0 p1 p2 S c H':=by
 obtain ⟨kv1,a1,a2,a3⟩:=h.k1
 obtain ⟨kv2,b1,b2,b3⟩:=h.k2
 exact ⟨⟨kv1,s _ _ a1,a2,a3⟩,⟨kv2,s _ _ b1,b2.tk (Same.tk s),b3⟩,h.sm.trans s,h.n1,h.n2,h.ne⟩
theorem Hps.more {n:Nat} {H0 H:Hp} {p1 p2:Addr} {S:Bf.St} {c c':Nat} (h:Hps n H0 p1 p2 S c H) (hc:c≤c'):Hps n H0 p1 p2 S c' H:=by
 obtain ⟨kv2,b1,b2,b3⟩:=h.k2
 exact ⟨h.k1,⟨kv2,b1,b2,Nat.le_trans b3 hc⟩,h.sm,h.n1,h.n2,h.ne⟩
def Ended (es:List Tie) (n:Nat) (S:Bf.St) (st:Option Int):Prop:=
 (st=none/\(∃ k,Bf.Good es k S)/\∀ e∈es,Bf.Sat S.h e)∨(∃ v,st=some v/\Bf.Stuck es (n+1) (-1) S v)
structure InTie (n:Nat) (e:Tie):Prop where
 o:-1≤e.1/\e.1<n
 t:-1≤e.2.1/\e.2.1<n
 ne:e.1≠e.2.1
section
variable {P:Program} {w:World} {K:PySem.W.Frag} {mg:Str->Option Value} {base:Heap}
def spRa (K:PySem.W.Frag):Sp:=fun vs H Q _=>∃ (n:Nat) (q:Addr) (xs:List V) (es:List Tie),vs=[.int n,.ref q]/\n≤6/\SqL K H q xs/\Paired (TieAt H) xs es/\es.length≤1000/\(∀ e∈es,InTie n e)/\
 ∀ (t p1 p2:Addr) (S:Bf.St) (st:Option Int) (c:Nat) (H':Hp),H' t=some (.tup [.ref p1,.ref p2,stV st])->Hps n H p1 p2 S c H'->Ended es n S st->Q (.ref t) H'
theorem scRa:FnScope ["lanes","ties","heights","raised_by","still","turn","one","other","least"] ["lanes","ties"] (defScope (top 15)):=⟨rfl,rfl,rfl,by decide +kernel,rfl,by decide +kernel,by decide +kernel⟩
theorem ok_ra {f:Addr} {fd:FuncData} (F:Fun K "raised" "raised" (top 15) f fd) (T:Txt K mg) (TC:TxtC mg):FnOk P w K mg base CX0 1 f fd ["lanes","ties"] (spRa K):=by
 refine F.ok scRa (fun vs H Q E h=>?_) (fun cdv A outer s H vs Q E hr h=>?_)
 ·obtain ⟨n,q,xs,es,rfl,_⟩:=h
  rfl
 ·obtain ⟨n,q,xs,es,rfl,hn,hq,pe,hl,hin,k⟩:=h
  obtain ⟨tg,mgr⟩:=TC.gr
  have hu:=hu_of hr
  refine ⟨_,(pss_cons
   (ps_setDComp (g:=gName 0) (i:=2) (own:=["lane"]) (js:=[]) (N':=["lane"]) (CompScope.of (osc:=defScope (top 15)) (N:=["lanes","ties","heights","raised_by","still","turn","one","other","least"]) rfl rfl ⟨rfl,by decide +kernel,by decide +kernel,by decide +kernel,rfl,by decide +kernel⟩) rfl scRa.nd rfl rfl (pi_range2 rfl T.range (pa_cons (pe_glob (v:=.int (-1)) rfl mgr ⟨_,rfl⟩) (pa_cons (pv 0) pa_nil))) (fun _ _ _ _ _=>(pg_name (i:=0) (show List.Nodup (["lane"]:List Str) by decide +kernel) rfl (Or.inl rfl) (Or.inr rfl))) (fun _ _ _ _ _=>pifs_nil) (fun _ _ _ _ _=>pv 0) (fun _ _ _ _ _=>pe_int))
   (pss_cons (ps_set (i:=3) scRa.nd rfl (Or.inl rfl) pe_dnewK)
   (pss_cons (ps_set (i:=4) scRa.nd rfl (Or.inl rfl) pe_non)
   (pss_cons (ps_for PassesOwn.never rfl (pi_range1 rfl T.range (pa_cons (pe_op op_add (pe_callB call_lenD (by rfl) T.len bt_len (pa_cons (pv 2) pa_nil)) pe_int) pa_nil)) (pg_name (i:=5) scRa.nd rfl (Or.inl rfl))
    (pss_cons (ps_set (i:=4) scRa.nd rfl (Or.inl rfl) pe_non)
    (pss_cons (ps_for PassesOwn.never rfl (pi_list (pv 1)) (pg_tup rfl (pgs_cons (pg_name (i:=6) scRa.nd rfl (Or.inl rfl)) (pgs_cons (pg_name (i:=7) scRa.nd rfl (Or.inl rfl)) (pgs_cons (pg_name (i:=8) scRa.nd rfl (Or.inl rfl)) pgs_nil))))
     (pss_one (ps_if (pt_cmpR op_gt (pe_op op_add (pe_dget hu (pv 2) (pv 7) (fun _ _=>rfl)) (pv 8)) (pe_dget hu (pv 2) (pv 6) (fun _ _=>rfl)) (nomark _))
      (pss_cons (ps_dput hu (pv 2) (pv 6) (pe_op op_add (pe_dget hu (pv 2) (pv 7) (fun _ _=>rfl)) (pv 8)) rfl)
      (pss_cons (ps_dput hu (pv 3) (pv 6) (pe_tup (pa_cons (pv 6) (pa_cons (pv 7) (pa_cons (pv 8) pa_nil)))) rfl)
      (pss_one (ps_set (i:=4) scRa.nd rfl (Or.inl rfl) (pv 6))))) pss_nil)))
    (pss_one (ps_if (pt_cmpR op_isN (pv 4) pe_non (nomark _)) (pss_one ps_break) pss_nil)))))
   (pss_one (ps_ret (pe_tup (pa_cons (pv 2) (pa_cons (pv 3) (pa_cons (pv 4) pa_nil)))))))))),?_⟩
  have z3:3≤sizeLine:=by decide
  have pl:=Paired.length pe
  refine ⟨_,rfl,_,_,rfl,⟨by decide,by decide,by omega,by omega⟩,fun p1 hp1=>?_⟩
  refine dcomp_range (n:=((n:Int) - -1).toNat) (fun i σ' H'=>∃ v kv,σ'=[v]/\H'=upd H p1 (.dK kv)/\kv.length=i/\∀ j:Int,valV kv (.inl j)=if -1≤j/\j < -1+i then some (.int 0) else none) ⟨none,[],rfl,rfl,rfl,fun j=>by rw [if_neg (by omega)];rfl⟩ ?_ ?_
  ·rintro i σ' H' hi ⟨v,kv,rfl,rfl,hk1,hk2⟩ N hN
   refine ⟨_,rfl,kv,Sum.inl (-1+(i:Int)),upd_same,rfl,Nat.lt_of_le_of_lt (by omega:kv.length≤10) (by decide),hN _ _ ⟨_,_,rfl,upd_upd,?_,fun j=>?_⟩⟩
   ·rw [putK_new _ (by rw [hk2,if_neg (by omega)]),List.length_append,hk1];rfl
   ·rw [valV_put,hk2]
    by_cases q:j=-1+(i:Int)
    ·rw [if_pos (by rw [q]),if_pos (by omega)]
    ·rw [if_neg (by intro z;exact q (Sum.inl.inj z))]
     by_cases q2:-1≤j/\j < -1+(i:Int)
     ·rw [if_pos q2,if_pos (by omega)]
     ·rw [if_neg q2,if_neg (by omega)]
  ·rintro σ' H' ⟨v,kv1,rfl,rfl,hk1,hk2⟩
   have hk1':kv1.length=n+1:=by omega
   intro p2 hp2
   have ne:p1≠p2:=fun z=>by rw [← z,upd_same] at hp2;cases hp2
   have hp2':H p2=none:=by rw [upd_ne (Ne.symm ne)] at hp2;exact hp2
   have h0:Hps n H p1 p2 Bf.St.zero 0 (upd (upd H p1 (.dK kv1)) p2 (.dK [])):=by
    refine ⟨⟨kv1,by rw [upd_ne ne,upd_same],fun v h1 h2=>?_,hk1'⟩,⟨[],upd_same,fun v=>rfl,Nat.le_refl _⟩,(Same.new hp1).trans (Same.new hp2),hp1,hp2',ne⟩
    rw [hk2,if_pos (by omega)];rfl
   have fin:∀ (S:Bf.St) (st:Option Int) (c:Nat) (σ':St) (H':Hp),(∃ v5 v6 v7 v8,σ'=[some (.int n),some (.ref q),some (.ref p1),some (.ref p2),some (stV st),v5,v6,v7,v8])->Hps n H p1 p2 S c H'->Ended es n S st->
    tRet (tTup (tCons (tVar 2) (tCons (tVar 3) (tCons (tVar 4) tNil)))) { nx:=fun _ H'=>Q .non H',rt:=Q } σ' H':=by
    rintro S st c σ' H' ⟨v5,v6,v7,v8,rfl⟩ hp en
    exact ⟨_,rfl,_,rfl,_,rfl,z3,fun t ht=>k t p1 p2 S st c _ upd_same (hp.same (Same.new ht)) en⟩
   have hq':∀ {S:Bf.St} {c:Nat} {H':Hp},Hps n H p1 p2 S c H'->SqL K H' q xs:=fun hp=>hp.sm.seq hq
   refine ⟨_,rfl,p1,kv1,rfl,by rw [upd_ne ne,upd_same],_,_,rfl,rfl,_,rfl,by omega,by omega,?_⟩
   refine for_range (n:=((kv1.length:Int)+1).toNat) (fun i σ' H'=>∃ S st,(∃ v5 v6 v7 v8,σ'=[some (.int n),some (.ref q),some (.ref p1),some (.ref p2),some (stV st),v5,v6,v7,v8])/\Hps n H p1 p2 S (i*1000) H'/\(i=0->Bf.Round es 1 [] es S none)/\(0<i->∃ v,st=some v/\Bf.Round es i es [] S (some v))) ?_ ?_ ?_
   ·exact ⟨Bf.St.zero,none,⟨none,none,none,none,rfl⟩,h0,fun _=>Bf.Round.first es,fun z=>absurd z (Nat.lt_irrefl _)⟩
   ·rintro i σ' H1 hi ⟨S,st,⟨v5,v6,v7,v8,rfl⟩,hp,r0,r1⟩
    have R:Bf.Round es (i+1) [] es S none:=by
     by_cases z:i=0
     ·subst z;exact r0 rfl
     ·obtain ⟨v,_,R⟩:=r1 (by omega)
      exact R.next
    clear r0 r1
    refine ⟨_,rfl,q,rfl,⟨_,hq' hp⟩,?_⟩
    refine for_list (K:=K) (a:=q) (xs:=xs) (fun j σ' H'=>∃ S st,(∃ v6 v7 v8,σ'=[some (.int n),some (.ref q),some (.ref p1),some (.ref p2),some (stV st),some (.int (0+i)),v6,v7,v8])/\Hps n H p1 p2 S (i*1000+j) H'/\Bf.Round es (i+1) (es.take j) (es.drop j) S st) ?_ (fun j σ' H' _ ⟨S,st,_,hp,_⟩=>hq' hp) ?_ ?_
    ·exact ⟨S,none,⟨_,_,_,rfl⟩,hp,by rw [List.take_zero,List.drop_zero];exact R⟩
    ·rintro j x σ' H2 hj ⟨S,st,⟨v6,v7,v8,rfl⟩,hp,R⟩
     obtain ⟨e,he,b,rfl,hb⟩:=ties_get (ties_tk (Same.tk hp.sm) pe) hj
     have hm:=List.mem_of_getElem? he
     have it:=hin e hm
     have hjl:j<es.length:=(List.getElem?_eq_some_iff.mp he).1
     have ed:es.drop j=e::es.drop (j+1):=by
      rw [List.drop_eq_getElem_cons hjl]
      rw [List.getElem?_eq_getElem hjl] at he
      rw [Option.some.inj he]
     have etk:es.take (j+1)=es.take j++[e]:=by
      rw [List.take_succ,he];rfl
     rw [ed] at R
     obtain ⟨kv,a1,a2,a3⟩:=hp.k1
     obtain ⟨kw,b1,b2,b3⟩:=hp.k2
     have kwl:kw.length<sizeLine:=Nat.lt_of_le_of_lt (show kw.length≤100000 by omega) (by decide)
     refine ⟨b,_,rfl,SqT.of hb,rfl,_,_,rfl,_,_,rfl,_,_,rfl,rfl,?_⟩
     refine ⟨_,rfl,_,rfl,p1,_,rfl,dget_int a1 (a2 _ it.t.1 it.t.2),_,rfl,_,_,rfl,rfl,_,rfl,_,rfl,p1,_,rfl,dget_int a1 (a2 _ it.o.1 it.o.2),_,_,rfl,rfl,_,rfl,?_⟩
     refine ite2 (fun hgt=>?_) (fun hgt=>?_)
     ·have hlt:S.h e.1<S.h e.2.1+e.2.2:=by simpa using hgt
      refine ⟨_,rfl,_,rfl,p1,_,rfl,dget_int a1 (a2 _ it.t.1 it.t.2),_,rfl,_,_,rfl,rfl,_,rfl,_,rfl,p1,_,rfl,DPut.k (k:=Sum.inl e.1) a1 (Nat.lt_of_le_of_lt (by omega:kv.length≤10) (by decide)),?_⟩
      refine ⟨_,rfl,_,rfl,_,rfl,z3,fun tt htt=>?_⟩
      have nt1:tt≠p1:=fun z=>by rw [z,upd_same] at htt;cases htt
      rw [upd_ne nt1] at htt
      have nt2:tt≠p2:=fun z=>by rw [z,b1] at htt;cases htt
      refine ⟨_,rfl,_,rfl,p2,_,rfl,DPut.k (k:=Sum.inl e.1) (kvs:=kw) (by rw [upd_ne (Ne.symm nt2),upd_ne (Ne.symm hp.ne)];exact b1) kwl,?_⟩
      refine ⟨_,rfl,?_⟩
      refine ⟨S.raise (i+1) e,some e.1,⟨_,_,_,rfl⟩,?_,by rw [etk];exact R.raise hm it.ne hlt⟩
      have kb:∀ b' u,H2 b'=some u->b'≠p1->b'≠p2->(upd (upd (upd H2 p1 (.dK (putK kv (.inl e.1) (.int (S.h e.2.1+e.2.2))))) tt (.tup [.int e.1,.int e.2.1,.int e.2.2])) p2 (.dK (putK kw (.inl e.1) (.ref tt)))) b'=some u:=fun b' u e' h1 h2=>by
       rw [upd_ne h2,upd_ne (ne_of_none e' htt),upd_ne h1];exact e'
      refine ⟨⟨putK kv (.inl e.1) (.int (S.h e.2.1+e.2.2)),by rw [upd_ne hp.ne,upd_ne (Ne.symm nt1),upd_same],fun v h1 h2=>?_,by rw [putK_old (a2 _ it.o.1 it.o.2),a3]⟩,⟨putK kw (.inl e.1) (.ref tt),upd_same,fun v=>?_,by have:=length_putK kw (Sum.inl e.1) (V.ref tt);omega⟩,fun b' u e'=>kb b' u (hp.sm _ _ e') (ne_of_none e' hp.n1) (ne_of_none e' hp.n2),hp.n1,hp.n2,hp.ne⟩
      ·rw [valV_put]
       show _=some (V.int (Bf.put S.h e.1 (S.h e.2.1+e.2.2) v))
       by_cases q:v=e.1
       ·rw [if_pos (by rw [q]),q,Bf.put_same]
       ·rw [if_neg (by intro z;exact q (Sum.inl.inj z)),Bf.put_ne q];exact a2 v h1 h2
      ·show match Bf.put S.by' e.1 (some e) v with|none=>_|some e=>_
       rw [valV_put]
       by_cases q:v=e.1
       ·rw [q,Bf.put_same]
        refine ⟨.ref tt,by rw [if_pos rfl],tt,rfl,?_⟩
        rw [upd_ne nt2,upd_same]
       ·rw [Bf.put_ne q]
        have hv:=b2 v
        cases eb:S.by' v with
        | none=>
          rw [eb] at hv
          show (if _ then _ else _)=none
          rw [if_neg (by intro z;exact q (Sum.inl.inj z))];exact hv
        | some t=>
          rw [eb] at hv
          obtain ⟨x,hx,b',hb1,hb2⟩:=hv
          refine ⟨x,by rw [if_neg (by intro z;exact q (Sum.inl.inj z))];exact hx,b',hb1,kb _ _ hb2 (ne_of hb2 a1 (by intro z;cases z)) (ne_of hb2 b1 (by intro z;cases z))⟩
     ·have hge:¬ S.h e.1<S.h e.2.1+e.2.2:=by simpa using hgt
      exact ⟨S,st,⟨_,_,_,rfl⟩,hp.more (by omega),by rw [etk];exact R.keep hge⟩
    ·rintro σ' H2 ⟨S,st,⟨v6,v7,v8,rfl⟩,hp,R⟩
     rw [pl,List.take_length,List.drop_length] at R
     cases st with
     | none=>
       refine ⟨_,rfl,rfl,_,rfl,ifT rfl ?_⟩
       exact fin S none _ _ _ ⟨_,_,_,_,rfl⟩ hp (.inl ⟨rfl,⟨_,R.g⟩,R.n rfl⟩)
     | some v=>
       refine ⟨_,rfl,rfl,_,rfl,ifF rfl ?_⟩
       exact ⟨S,some v,⟨_,_,_,_,rfl⟩,hp.more (by omega),fun z=>absurd z (Nat.succ_ne_zero _),fun _=>⟨v,rfl,R⟩⟩
   ·rintro σ' H1 ⟨S,st,⟨v5,v6,v7,v8,rfl⟩,hp,r0,r1⟩
    obtain ⟨v,rfl,R⟩:=r1 (by omega)
    have en:((kv1.length:Int)+1).toNat=n+1+1:=by omega
    rw [en] at R
    obtain ⟨hv1,e,hv2,hv3⟩:=R.y v rfl
    refine fin S (some v) _ _ _ ⟨_,_,_,_,rfl⟩ hp (.inr ⟨v,rfl,R.g,fun e he=>?_,?_,hv1⟩)
    ·have it:=hin e he
     exact ⟨⟨it.o.1,by have:=it.o.2;omega⟩,⟨it.t.1,by have:=it.t.2;omega⟩,it.ne⟩
    ·have it:=hin e hv2
     rw [← hv3]
     exact ⟨it.o.1,by have:=it.o.2;omega⟩
end
def allT (es:List Tie) (n:Nat) (m:Int):List Tie:=es++bnds n m
theorem bnds_in {n:Nat} {m:Int} {e:Tie} (h:e∈bnds n m):InTie n e:=by
 unfold bnds at h
 rcases List.mem_append.mp h with h|h
 ·obtain ⟨i,hi,rfl⟩:=List.mem_map.mp h
  have:=List.mem_range.mp hi
  exact ⟨⟨by show (-1:Int)≤(i:Int);omega,by show (i:Int)<n;omega⟩,⟨by show (-1:Int)≤-1;omega,by show (-1:Int)<n;omega⟩,by show (i:Int)≠-1;omega⟩
 ·obtain ⟨i,hi,rfl⟩:=List.mem_map.mp h
  have:=List.mem_range.mp hi
  exact ⟨⟨by show (-1:Int)≤-1;omega,by show (-1:Int)<n;omega⟩,⟨by show (-1:Int)≤(i:Int);omega,by show (i:Int)<n;omega⟩,by show (-1:Int)≠(i:Int);omega⟩
theorem OkTie.inT {n:Nat} {e:Tie} (h:OkTie n e):InTie n e:=⟨⟨by have:=h.o.1;omega,h.o.2⟩,⟨by have:=h.t.1;omega,h.t.2⟩,h.ne⟩
def amV (n:Nat) (h:Int->Int):List V:=(List.range n).map fun i:Nat=>V.int (h i)
structure TiesIn (K:PySem.W.Frag) (H:Hp) (q:Addr) (n:Nat) (es:List Tie):Prop where
 at_:∃ xs,H q=some (.lst xs)/\Paired (TieAt H) xs es
 ln:es.length≤900
 ok:∀ e∈es,OkTie n e
theorem TiesIn.same {K:PySem.W.Frag} {H H':Hp} {q:Addr} {n:Nat} {es:List Tie} (h:TiesIn K H q n es) (s:Same H H'):TiesIn K H' q n es:=by
 obtain ⟨xs,h1,h2⟩:=h.at_
 exact ⟨⟨xs,s _ _ h1,ties_tk (Same.tk s) h2⟩,h.ln,h.ok⟩
theorem bnds_len (n:Nat) (m:Int):(bnds n m).length=n+n:=by unfold bnds;simp
section
variable {P:Program} {w:World} {K:PySem.W.Frag} {mg:Str->Option Value} {base:Heap}
def spAm (K:PySem.W.Frag):Sp:=fun vs H Q _=>∃ (n:Nat) (q:Addr) (m:Int) (es:List Tie),vs=[.int n,.ref q,.int m]/\1≤n/\n≤6/\0≤m/\m≤1000000000000/\TiesIn K H q n es/\
 (∀ h,Bf.Least (allT es n m) h->∀ a H',H' a=some (.lst (amV n h))->H a=none->Same H H'->Q (.ref a) H')/\(Bf.Barred (allT es n m)->∀ H',Same H H'->Q .non H')
theorem scAm:FnScope ["lanes","ties","most","heights","raised_by","still"] ["lanes","ties","most"] (defScope (top 16)):=⟨rfl,rfl,rfl,by decide +kernel,rfl,by decide +kernel,by decide +kernel⟩
theorem ended_least {es:List Tie} {n:Nat} {S:Bf.St} (h:(∃ k,Bf.Good es k S)/\∀ e∈es,Bf.Sat S.h e):Bf.Least es S.h:=by
 obtain ⟨⟨k,G⟩,h2⟩:=h
 exact ⟨h2,G.nn,G.le⟩
theorem ok_am {f fN fB fR fL fT fM:Addr} {fd fdN fdB fdR fdL fdT fdM:FuncData} (F:Fun K "amounts" "amounts" (top 16) f fd) (T:Txt K mg) (TC:TxtC mg) (DN:Def K mg "need_all" (top 13) ["lanes","ties","most"] fN fdN) (DB:Def K mg "bounds" (top 14) ["lanes","most"] fB fdB) (DR:Def K mg "raised" (top 15) ["lanes","ties"] fR fdR)
 (DL:Def K mg "need_lanes" (top 10) ["lanes"] fL fdL) (DT:Def K mg "need_ties" (top 11) ["lanes","ties"] fT fdT) (DM:Def K mg "need_most" (top 12) ["most"] fM fdM):FnOk P w K mg base CX0 3 f fd ["lanes","ties","most"] (spAm K):=by
 have GN:FnOk P w K mg base CX0 2 fN fdN ["lanes","ties","most"] (spNA K):=ok_na DN.F TC DL DT DM
 have GB:FnOk P w K mg base CX0 1 fB fdB ["lanes","most"] spBo:=ok_bo DB.F T TC
 have GR:FnOk P w K mg base CX0 1 fR fdR ["lanes","ties"] (spRa K):=ok_ra DR.F T TC
 refine F.ok scAm (fun vs H Q E h=>?_) (fun cdv A outer s H vs Q E hr h=>?_)
 ·obtain ⟨n,q,m,es,rfl,_⟩:=h
  rfl
 ·obtain ⟨n,q,m,es,rfl,n1,n2,m1,m2,ti,k1,k2⟩:=h
  have hu:=hu_of hr
  have hr1:Room 1 _:=hr.mono (by decide)
  refine ⟨_,(pss_cons (ps_expr (pe_call GN hr rfl DN.mg DN.F.kp DN.b .nil pass0 (pa_cons (pv 0) (pa_cons (pv 1) (pa_cons (pv 2) pa_nil)))))
   (pss_cons (ps_asg (pe_call GR hr1 rfl DR.mg DR.F.kp DR.b .nil pass0 (pa_cons (pv 0) (pa_cons (pe_op op_cat (pv 1) (pe_call GB hr1 rfl DB.mg DB.F.kp DB.b .nil pass0 (pa_cons (pv 0) (pa_cons (pv 2) pa_nil)))) pa_nil))) (pg_tup rfl (pgs_cons (pg_name (i:=3) scAm.nd rfl (Or.inr rfl)) (pgs_cons (pg_name (i:=4) scAm.nd rfl (Or.inl rfl)) (pgs_cons (pg_name (i:=5) scAm.nd rfl (Or.inl rfl)) pgs_nil)))))
   (pss_one (ps_ret (pe_ifExp (pt_cmpR op_isN (pv 5) pe_non (nomark _)) (pe_comp (g:=gName 0) (own:=["lane"]) (js:=[3]) (N':=["lane","heights"]) (CompScope.of (osc:=defScope (top 16)) (N:=["lanes","ties","most","heights","raised_by","still"]) rfl rfl ⟨rfl,by decide +kernel,by decide +kernel,by decide +kernel,rfl,by decide +kernel⟩) rfl (pi_range1 rfl T.range (pa_cons (pv 0) pa_nil)) (fun _ _ _ _ _=>(pg_name (i:=0) (show List.Nodup (["lane","heights"]:List Str) by decide +kernel) rfl (Or.inl rfl) (Or.inr rfl))) (fun _ _ _ _ _=>pifs_nil) (fun _ _ _ _ _=>pe_dget hu (pv 1) (pv 0) (fun _ _=>rfl))) pe_non))))),?_⟩
  obtain ⟨xs,hq,pe⟩:=ti.at_
  have pl:=Paired.length pe
  have tl:=ti.ln
  refine ⟨_,rfl,_,rfl,_,rfl,n,m,q,xs,es,rfl,by omega,by omega,m1,m2,SqL.of hq,pe,ti.ok,?_⟩
  refine ⟨_,rfl,_,rfl,_,rfl,_,rfl,n,m,rfl,by omega,fun q1 ys H1 hq1 pb nq1 s1=>?_⟩
  have lb:=Paired.length pb
  rw [bnds_len] at lb
  refine ⟨q,q1,xs,ys,rfl,rfl,s1 _ _ hq,hq1,Nat.le_trans (show xs.length+ys.length≤1000 by omega) (by decide),fun q2 hq2=>?_⟩
  have s2:Same H (upd H1 q2 (.lst (xs++ys))):=s1.trans (Same.new hq2)
  refine ⟨n,q2,xs++ys,allT es n m,rfl,n2,SqL.of upd_same,Paired.app (ties_tk (Same.tk (Same.new hq2)) pb) (ties_tk (Same.tk s2) pe),?_,?_,fun t p1 p2 S st c H2 ht hp en=>?_⟩
  ·unfold allT;rw [List.length_append,bnds_len];omega
  ·intro e he
   rcases List.mem_append.mp he with he|he
   ·exact (ti.ok e he).inT
   ·exact bnds_in he
  have s3:Same H H2:=s2.trans hp.sm
  refine ⟨t,_,rfl,SqT.of ht,rfl,_,_,rfl,_,_,rfl,_,_,rfl,rfl,?_⟩
  rcases en with ⟨rfl,en⟩|⟨v,rfl,en⟩
  ·refine ⟨_,rfl,rfl,_,rfl,ifT rfl ?_⟩
   obtain ⟨kv,a1,a2,a3⟩:=hp.k1
   refine ⟨_,rfl,_,rfl,by omega,by omega,?_⟩
   refine comp_range (n:=n) (fun i zs σ' H'=>∃ v,σ'=[v,some (.ref p1)]/\H'=H2/\zs=amV i S.h) (Nat.le_trans n2 (by decide)) ⟨none,rfl,rfl,rfl⟩ ?_ ?_
   ·rintro i zs σ' H' hi hzs ⟨v,rfl,rfl,rfl⟩ N hN
    refine ⟨_,rfl,_,rfl,p1,_,rfl,dget_int a1 (a2 _ (by omega) (by omega)),?_⟩
    refine hN _ _ _ (by simp [hzs]) ⟨_,rfl,rfl,?_⟩
    unfold amV
    rw [List.range_succ,List.map_append,Int.zero_add];rfl
   ·rintro zs σ' H' hzs ⟨v,rfl,rfl,rfl⟩
    refine ⟨by rw [hzs];exact Nat.le_trans n2 (by decide),fun a ha=>?_⟩
    exact k1 _ (ended_least (n:=n) en) a _ upd_same (s3.free ha) (s3.trans (Same.new ha))
  ·refine ⟨_,rfl,rfl,_,rfl,ifF rfl ?_⟩
   exact k2 en.barred _ s3
def spRb:Sp:=fun vs H Q _=>∃ (v:Int) (p2:Addr) (n:Nat) (es:List Tie) (S:Bf.St) (kv:List (Key×V)),vs=[.int v,.ref p2,.int n]/\n≤100/\H p2=some (.dK kv)/\Bys S.by' kv H/\Bf.Stuck es n (-1) S v/\
 ∀ a ys rs H',H' a=some (.lst ys)->Paired (TieAt H') ys rs->Bf.Ring rs->(∀ e∈rs,e∈es)->rs.length≤n->H a=none->Same H H'->Q (.ref a) H'
theorem scRb:FnScope ["at","raised_by","many","turn","found"] ["at","raised_by","many"] (defScope (top 18)):=⟨rfl,rfl,rfl,by decide +kernel,rfl,by decide +kernel,by decide +kernel⟩
theorem ringOf_succ {S:Bf.St} {v:Int} {n m:Nat}:Bf.ringOf S v n (m+1)=Bf.ringOf S v n m++[Bf.tieAt S v (n+m)]:=by
 unfold Bf.ringOf
 rw [List.range_succ,List.map_append];rfl
theorem ok_rb {f:Addr} {fd:FuncData} (F:Fun K "ring_behind" "ring_behind" (top 18) f fd) (T:Txt K mg):FnOk P w K mg base CX0 1 f fd ["at","raised_by","many"] spRb:=by
 refine F.ok scRb (fun vs H Q E h=>?_) (fun cdv A outer s H vs Q E hr h=>?_)
 ·obtain ⟨v,p2,n,es,S,kv,rfl,_⟩:=h
  rfl
 ·obtain ⟨v,p2,n,es,S,kv,rfl,hn,hp2,hby,St,k⟩:=h
  have hu:=hu_of hr
  refine ⟨_,(pss_cons (ps_for PassesOwn.never rfl (pi_range1 rfl T.range (pa_cons (pv 2) pa_nil)) (pg_name (i:=3) scRb.nd rfl (Or.inl rfl)) (pss_one (ps_set (i:=0) scRb.nd rfl (Or.inl rfl) (pe_ix ix_tup (pe_dget hu (pv 1) (pv 0) (fun _ _=>rfl)) pe_int (fun _ _=>rfl)))))
   (pss_cons (ps_set (i:=4) scRb.nd rfl (Or.inl rfl) (pe_lst (pa_cons (pe_dget hu (pv 1) (pv 0) (fun _ _=>rfl)) pa_nil)))
   (pss_cons (ps_while PassesOwn.never (pt_cmpR op_ne (pe_ix ix_tup (pe_ix ix_list (pv 4) (pe_un un_neg pe_int) (fun _ _=>rfl)) pe_int (fun _ _=>rfl)) (pv 0) (nomark _)) (pss_one (ps_expr (pe_bm PySem.F.plainAttrs_list PySem.F.slot_list_append PySem.F.type_list_append mt_append (pv 4) (pa_cons (pe_dget hu (pv 1) (pe_ix ix_tup (pe_ix ix_list (pv 4) (pe_un un_neg pe_int) (fun _ _=>rfl)) pe_int (fun _ _=>rfl)) (fun _ _=>rfl)) pa_nil)))))
   (pss_one (ps_ret (pv 4)))))),?_⟩
  have tie:∀ i,∃ b,valV kv (.inl (Bf.it S v i))=some (.ref b)/\H b=some (.tup [.int (Bf.tieAt S v i).1,.int (Bf.tieAt S v i).2.1,.int (Bf.tieAt S v i).2.2]):=fun i=>by
   obtain ⟨x,h1,b,rfl,h2⟩:=hby.some' (St.tie i)
   exact ⟨b,h1,h2⟩
  refine ⟨_,rfl,_,rfl,by omega,by omega,?_⟩
  refine for_range (n:=(n:Int).toNat) (fun i σ' H'=>∃ u,σ'=[some (.int (Bf.it S v i)),some (.ref p2),some (.int n),u,none]/\H=H') ⟨none,rfl,rfl⟩ ?_ ?_
  ·rintro i σ' H' hi ⟨u,rfl,rfl⟩
   obtain ⟨b,h1,h2⟩:=tie i
   refine ⟨_,rfl,_,rfl,p2,_,rfl,dget_int hp2 h1,b,_,_,_,rfl,rfl,SqT.of h2,atI_nat (j:=1) rfl,?_⟩
   refine ⟨some (.int (0+i)),?_,rfl⟩
   show [some (V.int (Bf.tieAt S v i).2.1),some (V.ref p2),some (V.int n),some (V.int (0+i)),none]=_
   rw [St.other]
  ·rintro σ' H' ⟨u,rfl,rfl⟩
   rw [Int.toNat_natCast]
   obtain ⟨b0,h1,h2⟩:=tie n
   refine ⟨_,rfl,_,rfl,p2,_,rfl,dget_int hp2 h1,(show 1≤sizeLine by decide),fun a ha=>?_⟩
   obtain ⟨d,d1,d2⟩:=St.loop
   refine while_by (fun σ' H'=>∃ m ys u,σ'=[some (.int (Bf.it S v n)),some (.ref p2),some (.int n),u,some (.ref a)]/\H'=upd H a (.lst ys)/\Paired (TieAt H) ys (Bf.ringOf S v n (m+1))/\∀ i,1≤i->i≤m->Bf.it S v (n+i)≠Bf.it S v n)
    (fun σ' H'=>match H' a with|some (.lst ys)=>n+1-ys.length|_=>0) ?_ ?_ ?_
   ·refine ⟨0,[.ref b0],u,rfl,rfl,?_,fun i h1 h2=>by omega⟩
    rw [ringOf_succ]
    exact .cons ⟨b0,rfl,h2⟩ .nil
   ·rintro σ' H' ⟨m,ys,u,rfl,rfl,py,hm⟩
    have ly:=Paired.length py
    rw [Bf.ringOf_len] at ly
    have mn:m+1≤n:=by
     have nd:((List.range (m+1)).map fun i=>Bf.it S v (n+i)).Nodup:=by
      refine Classical.byContradiction fun z=>?_
      obtain ⟨i,j,a1,a2,a3⟩:=Bf.exists_dup _ z
      obtain ⟨i0,d,b1,b2,b3⟩:=St.per
      have e1:∀ t,Bf.it S v (n+i+t)=Bf.it S v (n+j+t):=fun t=>by rw [Bf.it_add,Bf.it_add S v (n+j),a3]
      have per:∀ q t,Bf.it S v (n+t+q*d)=Bf.it S v (n+t):=by
       intro q
       induction q with
       |zero=>intro t;rw [Nat.zero_mul,Nat.add_zero]
       | succ q ih=>
         intro t
         rw [Nat.succ_mul,← Nat.add_assoc,b3 _ (by omega),ih]
      have h5:=e1 (j*d-j)
      have e2:n+j+(j*d-j)=n+0+j*d:=by
       have:j≤j*d:=Nat.le_mul_of_pos_right j (by omega)
       omega
      rw [e2,per] at h5
      have e3:n+i+(j*d-j)=n+(i+(j*d-j)):=by omega
      rw [e3] at h5
      have key:∀ t,1≤t->Bf.it S v (n+t)=Bf.it S v n->m<t:=fun t t1 t2=>by
       refine Classical.byContradiction fun z=>hm t t1 (by omega) t2
      have e4:Bf.it S v (n+(j-i))=Bf.it S v n:=by
       have h6:=e1 (i*d-i)
       have e5:n+i+(i*d-i)=n+0+i*d:=by
        have:i≤i*d:=Nat.le_mul_of_pos_right i (by omega)
        omega
       have e6:n+j+(i*d-i)=n+(j-i)+i*d:=by
        have:i≤i*d:=Nat.le_mul_of_pos_right i (by omega)
        omega
       rw [e5,e6,per,per] at h6
       exact h6.symm
      have:=key (j-i) (by omega) e4
      omega
     have:=Bf.nodup_len n (-1) _ nd fun x hx=>by
      obtain ⟨i,_,rfl⟩:=List.mem_map.mp hx
      have:=(St.nd _ (St.mem (n+i))).1
      rw [St.one] at this
      exact this
     simpa using this
    have hlast:ys[m]?≠none:=by
     intro z
     rw [List.getElem?_eq_none_iff] at z
     omega
    obtain ⟨x,hx⟩:=Option.ne_none_iff_exists'.mp hlast
    obtain ⟨e,he,b,rfl,hb⟩:=ties_get py hx
    have ee:e=Bf.tieAt S v (n+m):=by
     have:=Bf.ringOf_get (s:=S) (v:=v) (n:=n) (m:=m+1) (i:=m) (Nat.lt_succ_self _)
     rw [List.getD_eq_getElem?_getD,he] at this
     exact this
    subst ee
    have nab:a≠b:=fun z=>by rw [z,hb] at ha;cases ha
    have hb':(upd H a (.lst ys)) b=some (.tup [.int (Bf.tieAt S v (n+m)).1,.int (Bf.tieAt S v (n+m)).2.1,.int (Bf.tieAt S v (n+m)).2.2]):=by rw [upd_ne (Ne.symm nab)];exact hb
    have atl:atI ys (-1)=some (.ref b):=by
     have e1:ys.length=m+1:=ly
     unfold atI ixN
     rw [if_neg (by decide),if_pos (by omega),e1]
     show ys[(-1+((m+1:Nat):Int)).toNat]?=_
     rw [show (-1+((m+1:Nat):Int)).toNat=m by omega]
     exact hx
    have np:p2≠a:=fun z=>by rw [z,ha] at hp2;cases hp2
    have hp2':(upd H a (.lst ys)) p2=some (.dK kv):=by rw [upd_ne np];exact hp2
    refine ⟨_,rfl,_,rfl,a,_,_,_,rfl,rfl,SqL.of upd_same,atl,b,_,_,_,rfl,rfl,SqT.of hb',atI_nat (j:=1) rfl,_,rfl,rfl,_,rfl,?_⟩
    refine ite2 (fun hne=>?_) (fun hne=>?_)
    ·obtain ⟨b1,g1,g2⟩:=tie (n+m+1)
     have g1':valV kv (.inl (Bf.tieAt S v (n+m)).2.1)=some (.ref b1):=by rw [St.other];exact g1
     refine ⟨_,rfl,.inl ⟨rfl,_,SqL.of upd_same⟩,_,rfl,_,rfl,_,rfl,a,_,_,_,rfl,rfl,SqL.of upd_same,atl,b,_,_,_,rfl,rfl,SqT.of hb',atI_nat (j:=1) rfl,p2,_,rfl,dget_int hp2' g1',a,_,_,rfl,rfl,upd_same,Nat.lt_of_le_of_lt (show ys.length≤1000 by omega) (by decide),?_⟩
     refine ⟨⟨m+1,ys++[.ref b1],u,rfl,upd_upd,?_,fun i i1 i2=>?_⟩,?_⟩
     ·rw [ringOf_succ]
      exact Paired.snoc ⟨b1,rfl,g2⟩ py
     ·by_cases q:i≤m
      ·exact hm i i1 q
      ·have:i=m+1:=by omega
       subst this
       rw [St.other] at hne
       intro z
       rw [← Nat.add_assoc] at z
       simp [z] at hne
     ·rw [upd_same,upd_same]
      show n+1-(ys++[_]).length<n+1-ys.length
      rw [List.length_append]
      show n+1-(ys.length+1)<_
      omega
    ·have hret:Bf.it S v (n+(m+1))=Bf.it S v n:=by
      rw [St.other] at hne
      rw [← Nat.add_assoc]
      simpa using hne
     obtain ⟨R,hR⟩:=St.ring hret hm
     have sm:Same H (upd H a (.lst ys)):=Same.new ha
     refine ⟨_,rfl,k a ys _ _ upd_same (ties_tk (Same.tk sm) py) R hR (by rw [Bf.ringOf_len];omega) ha sm⟩
   ·intro σ H Q Q' hQ h
    obtain ⟨x1,e1,y1,f1,h⟩:=h
    exact ⟨x1,e1,y1,f1,by
     obtain ⟨a1,b1,c1,d1,g1,g2,g3,g4,a2,b2,c2,d2,g5,g6,g7,g8,x2,e2,e3,k1,e4,h⟩:=h
     exact ⟨a1,b1,c1,d1,g1,g2,g3,g4,a2,b2,c2,d2,g5,g6,g7,g8,x2,e2,e3,k1,e4,hQ _ _ h⟩⟩
def spRi (K:PySem.W.Frag):Sp:=fun vs H Q _=>∃ (n:Nat) (q:Addr) (m:Int) (es:List Tie),vs=[.int n,.ref q,.int m]/\1≤n/\n≤6/\0≤m/\m≤1000000000000/\TiesIn K H q n es/\
 (∀ h,Bf.Least (allT es n m) h->∀ H',Same H H'->Q .non H')/\(∀ a ys rs H',H' a=some (.lst ys)->Paired (TieAt H') ys rs->Bf.Ring rs->(∀ e∈rs,e∈allT es n m)->rs.length≤n+1->H a=none->Same H H'->Q (.ref a) H')
theorem scRi:FnScope ["lanes","ties","most","heights","raised_by","still"] ["lanes","ties","most"] (defScope (top 17)):=⟨rfl,rfl,rfl,by decide +kernel,rfl,by decide +kernel,by decide +kernel⟩
theorem ok_ri {f fN fB fR fL fT fM fG:Addr} {fd fdN fdB fdR fdL fdT fdM fdG:FuncData} (F:Fun K "ring" "ring" (top 17) f fd) (T:Txt K mg) (TC:TxtC mg) (DN:Def K mg "need_all" (top 13) ["lanes","ties","most"] fN fdN) (DB:Def K mg "bounds" (top 14) ["lanes","most"] fB fdB) (DR:Def K mg "raised" (top 15) ["lanes","ties"] fR fdR)
 (DL:Def K mg "need_lanes" (top 10) ["lanes"] fL fdL) (DT:Def K mg "need_ties" (top 11) ["lanes","ties"] fT fdT) (DM:Def K mg "need_most" (top 12) ["most"] fM fdM) (DG:Def K mg "ring_behind" (top 18) ["at","raised_by","many"] fG fdG):FnOk P w K mg base CX0 3 f fd ["lanes","ties","most"] (spRi K):=by
 have GN:FnOk P w K mg base CX0 2 fN fdN ["lanes","ties","most"] (spNA K):=ok_na DN.F TC DL DT DM
 have GB:FnOk P w K mg base CX0 1 fB fdB ["lanes","most"] spBo:=ok_bo DB.F T TC
 have GR:FnOk P w K mg base CX0 1 fR fdR ["lanes","ties"] (spRa K):=ok_ra DR.F T TC
 have GG:FnOk P w K mg base CX0 1 fG fdG ["at","raised_by","many"] spRb:=ok_rb DG.F T
 refine F.ok scRi (fun vs H Q E h=>?_) (fun cdv A outer s H vs Q E hr h=>?_)
 ·obtain ⟨n,q,m,es,rfl,_⟩:=h
  rfl
 ·obtain ⟨n,q,m,es,rfl,n1,n2,m1,m2,ti,k1,k2⟩:=h
  have hu:=hu_of hr
  have hr1:Room 1 _:=hr.mono (by decide)
  refine ⟨_,(pss_cons (ps_expr (pe_call GN hr rfl DN.mg DN.F.kp DN.b .nil pass0 (pa_cons (pv 0) (pa_cons (pv 1) (pa_cons (pv 2) pa_nil)))))
   (pss_cons (ps_asg (pe_call GR hr1 rfl DR.mg DR.F.kp DR.b .nil pass0 (pa_cons (pv 0) (pa_cons (pe_op op_cat (pv 1) (pe_call GB hr1 rfl DB.mg DB.F.kp DB.b .nil pass0 (pa_cons (pv 0) (pa_cons (pv 2) pa_nil)))) pa_nil))) (pg_tup rfl (pgs_cons (pg_name (i:=3) scRi.nd rfl (Or.inl rfl)) (pgs_cons (pg_name (i:=4) scRi.nd rfl (Or.inl rfl)) (pgs_cons (pg_name (i:=5) scRi.nd rfl (Or.inl rfl)) pgs_nil)))))
   (pss_one (ps_ret (pe_ifExp (pt_cmpR op_isN (pv 5) pe_non (nomark _)) pe_non (pe_call GG hr1 rfl DG.mg DG.F.kp DG.b .nil pass0 (pa_cons (pv 5) (pa_cons (pv 4) (pa_cons (pe_callB call_lenD (by rfl) T.len bt_len (pa_cons (pv 3) pa_nil)) pa_nil))))))))),?_⟩
  obtain ⟨xs,hq,pe⟩:=ti.at_
  have pl:=Paired.length pe
  have tl:=ti.ln
  refine ⟨_,rfl,_,rfl,_,rfl,n,m,q,xs,es,rfl,by omega,by omega,m1,m2,SqL.of hq,pe,ti.ok,?_⟩
  refine ⟨_,rfl,_,rfl,_,rfl,_,rfl,n,m,rfl,by omega,fun q1 ys H1 hq1 pb nq1 s1=>?_⟩
  have lb:=Paired.length pb
  rw [bnds_len] at lb
  refine ⟨q,q1,xs,ys,rfl,rfl,s1 _ _ hq,hq1,Nat.le_trans (show xs.length+ys.length≤1000 by omega) (by decide),fun q2 hq2=>?_⟩
  have s2:Same H (upd H1 q2 (.lst (xs++ys))):=s1.trans (Same.new hq2)
  refine ⟨n,q2,xs++ys,allT es n m,rfl,n2,SqL.of upd_same,Paired.app (ties_tk (Same.tk (Same.new hq2)) pb) (ties_tk (Same.tk s2) pe),?_,?_,fun t p1 p2 S st c H2 ht hp en=>?_⟩
  ·unfold allT;rw [List.length_append,bnds_len];omega
  ·intro e he
   rcases List.mem_append.mp he with he|he
   ·exact (ti.ok e he).inT
   ·exact bnds_in he
  have s3:Same H H2:=s2.trans hp.sm
  refine ⟨t,_,rfl,SqT.of ht,rfl,_,_,rfl,_,_,rfl,_,_,rfl,rfl,?_⟩
  rcases en with ⟨rfl,en⟩|⟨v,rfl,en⟩
  ·refine ⟨_,rfl,rfl,_,rfl,ifT rfl ?_⟩
   exact k1 _ (ended_least (n:=n) en) _ s3
  ·refine ⟨_,rfl,rfl,_,rfl,ifF rfl ?_⟩
   obtain ⟨kv,a1,a2,a3⟩:=hp.k1
   obtain ⟨kw,b1,b2,b3⟩:=hp.k2
   refine ⟨_,rfl,_,rfl,_,rfl,p1,kv,rfl,a1,v,p2,n+1,allT es n m,S,kw,by rw [a3];rfl,by omega,b1,b2,en,fun a ys rs H' ha py R hR lr na s4=>?_⟩
   exact k2 a ys rs H' ha py R hR lr (s3.free na) (s3.trans s4)
end
section
variable {P:Program} {w:World} {K:PySem.W.Frag} {mg:Str->Option Value} {base:Heap}
def spTi:Sp:=fun vs H Q _=>∃ (p dc:Addr) (n:Nat) (wd:Int),vs=[.ref p,.int n,.int wd]/\Dr H p dc/\1≤n/\n≤6/\0≤wd/\wd≤999999/\
 ∀ (q:Addr) (xs:List V) (es:List Tie) (H':Hp),H' q=some (.lst xs)->Paired (TieAt H') xs es->(∀ e∈es,OkTie n e)->es.length≤16->H q=none->Dr H' p dc->But p H H'->Q (.ref q) H'
theorem scTi:FnScope ["_law_d","_law_lanes","_law_wide","_law_found","_law_step","_law_one","_law_other"] ["_law_d","_law_lanes","_law_wide"] (defScope (top 26)):=⟨rfl,rfl,rfl,by decide +kernel,rfl,by decide +kernel,by decide +kernel⟩
theorem ok_ti {f fP:Addr} {fd fdP:FuncData} (F:Fun K "_law_ties" "_law_ties" (top 26) f fd) (T:Txt K mg) (DP:Def K mg "_law_pick" (top 22) ["_law_d","_law_many"] fP fdP):FnOk P w K mg base CX0 2 f fd ["_law_d","_law_lanes","_law_wide"] spTi:=by
 have GP:FnOk P w K mg base CX0 1 fP fdP ["_law_d","_law_many"] spPick:=ok_pick DP.F T
 refine F.ok scTi (fun vs H Q E h=>?_) (fun cdv A outer s H vs Q E hr h=>?_)
 ·obtain ⟨p,dc,n,wd,rfl,_⟩:=h
  rfl
 ·obtain ⟨p,dc,n,wd,rfl,D,n1,n2,w1,w2,k⟩:=h
  refine ⟨_,(pss_cons (ps_set (i:=3) scTi.nd rfl (Or.inl rfl) (pe_lst pa_nil))
   (pss_cons (ps_if (pt_cmpR op_gt (pv 1) pe_int (nomark _)) (pss_one (ps_for PassesOwn.never rfl (pi_range1 rfl T.range (pa_cons (pe_call GP hr rfl DP.mg DP.F.kp DP.b .nil pass0 (pa_cons (pv 0) (pa_cons (pe_ix ix_list (pe_lst (pa_cons pe_int (pa_cons pe_int (pa_cons pe_int pa_nil)))) (pe_call GP hr rfl DP.mg DP.F.kp DP.b .nil pass0 (pa_cons (pv 0) (pa_cons pe_int pa_nil))) (fun _ _=>rfl)) pa_nil))) pa_nil)) (pg_name (i:=4) scTi.nd rfl (Or.inl rfl))
    (pss_cons (ps_set (i:=5) scTi.nd rfl (Or.inl rfl) (pe_call GP hr rfl DP.mg DP.F.kp DP.b .nil pass0 (pa_cons (pv 0) (pa_cons (pv 1) pa_nil))))
    (pss_cons (ps_set (i:=6) scTi.nd rfl (Or.inl rfl) (pe_op op_mod (pe_op op_add (pe_op op_add (pv 5) pe_int) (pe_call GP hr rfl DP.mg DP.F.kp DP.b .nil pass0 (pa_cons (pv 0) (pa_cons (pe_op op_sub (pv 1) pe_int) pa_nil)))) (pv 1)))
    (pss_one (ps_expr (pe_bm PySem.F.plainAttrs_list PySem.F.slot_list_append PySem.F.type_list_append mt_append (pv 3) (pa_cons (pe_tup (pa_cons (pv 5) (pa_cons (pv 6) (pa_cons (pe_op op_sub (pe_call GP hr rfl DP.mg DP.F.kp DP.b .nil pass0 (pa_cons (pv 0) (pa_cons (pe_op op_add (pe_op op_mul pe_int (pv 2)) pe_int) pa_nil))) (pv 2)) pa_nil)))) pa_nil)))))))) pss_nil)
   (pss_one (ps_ret (pv 3))))),?_⟩
  have z3:3≤sizeLine:=by decide
  refine ⟨(show 0≤sizeLine by decide),fun q hq=>?_⟩
  have npq:q≠p:=(D.neN hq).symm
  have nqc:q≠dc:=by
   obtain ⟨xs,e⟩:=D.cell
   exact (ne_of_none e hq).symm
  have D0:Dr (upd H q (.lst [])) p dc:=D.put npq nqc
  dsimp only [gName]
  refine seq_by (fun σ' H'=>∃ ys es v4 v5 v6,σ'=[some (.ref p),some (.int n),some (.int wd),some (.ref q),v4,v5,v6]/\H' q=some (.lst ys)/\Paired (TieAt H') ys es/\(∀ e∈es,OkTie n e)/\es.length≤16/\Dr H' p dc/\But p H H') ?nx1 fun N hN=>?st1
  case st1=>
   refine ⟨_,rfl,_,_,rfl,rfl,_,rfl,ite2 (fun hgt=>?_) (fun _=>?_)⟩
   ·have hn : 2 ≤ n := by have:(n:Int) > 1:=by simpa using hgt
                          omega
    refine ⟨_,rfl,z3,fun l hl=>?_⟩
    have D1:Dr (upd (upd H q (.lst [])) l (.lst [.int 4,.int 9,.int 16])) p dc:=D0.mono (Same.new hl)
    refine ⟨_,rfl,p,dc,_,rfl,D1,by decide,by decide,fun r H1 r0 r1 D2 b1=>?_⟩
    obtain ⟨r,rfl⟩:=Int.eq_ofNat_of_zero_le r0
    have nlp:l≠p:=(D0.neN hl).symm
    have hl1:H1 l=some (.lst [.int 4,.int 9,.int 16]):=b1 _ _ upd_same nlp
    have nql:q≠l:=fun z=>by rw [← z,upd_same] at hl;cases hl
    have hq1:H1 q=some (.lst []):=b1 _ _ (by rw [upd_ne nql,upd_same]) npq
    have B1:But p H H1:=((But.new hq).trans (But.new hl)).trans b1
    obtain ⟨mx,hmx,m0,m1⟩:∃ mx:Int,atI [V.int 4,.int 9,.int 16] (r:Int)=some (.int mx)/\0<mx/\mx≤16:=by
     match r,r1 with
     |0,_=>exact ⟨4,rfl,by decide,by decide⟩
     |1,_=>exact ⟨9,rfl,by decide,by decide⟩
     |2,_=>exact ⟨16,rfl,by decide,by decide⟩
     |r+3,h=>omega
    refine ⟨l,_,_,_,rfl,rfl,SqL.of hl1,hmx,p,dc,mx,rfl,D2,m0,by omega,fun c H2 c0 c1 D3 b2=>?_⟩
    have B2:=B1.trans b2
    refine ⟨c,rfl,by omega,by omega,?_⟩
    refine for_range (n:=c.toNat) (fun i σ' H'=>∃ ys es v4 v5 v6,σ'=[some (.ref p),some (.int n),some (.int wd),some (.ref q),v4,v5,v6]/\H' q=some (.lst ys)/\Paired (TieAt H') ys es/\(∀ e∈es,OkTie n e)/\es.length=i/\Dr H' p dc/\But p H H')
     ⟨[],[],none,none,none,rfl,b2 _ _ hq1 npq,.nil,fun e he=>(by simp at he),rfl,D3,B2⟩ ?_ ?_
    ·rintro i σ' H3 hi ⟨ys,es,v4,v5,v6,rfl,hq3,pe,ok,ln,D4,B3⟩
     refine ⟨_,rfl,_,rfl,p,dc,_,rfl,D4,by omega,by omega,fun o H4 o0 o1 D5 b4=>?_⟩
     refine ⟨_,rfl,_,_,rfl,rfl,_,rfl,_,rfl,_,_,rfl,rfl,p,dc,_,rfl,D5,by omega,by omega,fun d H5 d0 d1 D6 b5=>?_⟩
     refine ⟨_,_,rfl,rfl,_,rfl,_,_,rfl,rfl,by omega,?_⟩
     have t0:0≤(o+1+d) % (n:Int):=Int.emod_nonneg _ (by omega)
     have t1:(o+1+d) % (n:Int)<n:=Int.emod_lt_of_pos _ (by omega)
     have tne:o≠(o+1+d) % (n:Int):=by
      intro z
      by_cases c2:o+1+d<n
      ·rw [Int.emod_eq_of_lt (by omega) c2] at z;omega
      ·have e2:(o+1+d) % (n:Int)=o+1+d-n:=by
        rw [← Int.sub_emod_right (o+1+d) n,Int.emod_eq_of_lt (by omega) (by omega)]
       rw [e2] at z;omega
     dsimp only
     generalize (o+1+d) % (n:Int)=t at t0 t1 tne ⊢
     refine ⟨_,rfl,.inl ⟨rfl,ys,SqL.of ((b4.trans b5) _ _ hq3 npq)⟩,_,rfl,_,rfl,_,rfl,_,rfl,_,_,rfl,rfl,.inl ⟨by decide,by decide⟩,_,_,rfl,rfl,p,dc,_,rfl,D6,by omega,by omega,fun l2 H6 l0 l1 D7 b6=>?_⟩
     have hq6:H6 q=some (.lst ys):=((b4.trans b5).trans b6) _ _ hq3 npq
     refine ⟨_,rfl,_,_,rfl,rfl,z3,?_⟩
     dsimp only
     intro tt htt
     have nqt:q≠tt:=ne_of_none hq6 htt
     have e7:(upd H6 tt (.tup [.int o,.int t,.int (l2-wd)])) q=some (.lst ys):=by rw [upd_ne nqt];exact hq6
     have ly:=Paired.length pe
     refine ⟨q,_,_,rfl,rfl,e7,Nat.lt_of_le_of_lt (show ys.length≤1000 by omega) (by decide),?_⟩
     have tk:TK H3 (upd (upd H6 tt (.tup [.int o,.int t,.int (l2-wd)])) q (.lst (ys++[.ref tt]))):=fun b zs e=>by
      have e6:=((b4.trans b5).trans b6) _ _ e (D4.ne e (by intro kvs z;cases z))
      rw [upd_ne (ne_of e6 hq6 (by intro z;cases z)),upd_ne (ne_of_none e6 htt)];exact e6
     refine ⟨ys++[.ref tt],es++[(o,t,l2-wd)],_,_,_,rfl,upd_same,Paired.snoc ⟨tt,rfl,by rw [upd_ne (Ne.symm nqt),upd_same]⟩ (ties_tk tk pe),fun e he=>?_,by rw [List.length_append,ln];rfl,(D7.mono (Same.new htt)).put npq nqc,fun b u e hb=>?_⟩
     ·rcases List.mem_append.mp he with he|he
      ·exact ok e he
      ·cases List.mem_singleton.mp he
       exact ⟨⟨o0,o1⟩,⟨t0,t1⟩,tne,⟨by show -999999≤l2-wd;omega,by show l2-wd≤999999;omega⟩⟩
     ·have e6:=((B3.trans b4).trans (b5.trans b6)) _ _ e hb
      rw [upd_ne (ne_of_none e hq),upd_ne (ne_of_none e6 htt)];exact e6
    ·rintro σ' H3 ⟨ys,es,v4,v5,v6,rfl,hq3,pe,ok,ln,D4,B3⟩
     exact hN _ _ ⟨ys,es,_,_,_,rfl,hq3,pe,ok,by omega,D4,B3⟩
   ·exact hN _ _ ⟨[],[],_,_,_,rfl,upd_same,.nil,fun e he=>(by simp at he),by decide,D0,But.new hq⟩
  rintro σ' H' ⟨ys,es,v4,v5,v6,rfl,hq',pe,ok,ln,D',B⟩
  exact ⟨_,rfl,k q ys es H' hq' pe ok ln hq D' B⟩
end
end Cm
namespace Cm
open PySem L2 PySem.W PySem.SeqAt
def tieD (e:Tie):PyData:=.tuple [.int e.1,.int e.2.1,.int e.2.2]
theorem tie_rep {K:PySem.W.Frag} {H:Hp} {x:V} {e:Tie} (h:TieAt H x e):Rep K H x (tieD e):=by
 obtain ⟨b,rfl,hb⟩:=h
 exact .tup (SqT.of hb) (.cons (.int _) (.cons (.int _) (.cons (.int _) .nil)))
theorem tie_eq (e t:Tie):pdEq (tieD e) (tieD t)=decide (e=t):=by
 obtain ⟨a,b,c⟩:=e
 obtain ⟨x,y,z⟩:=t
 simp only [tieD,pdEq,pdEqs,Bool.and_true]
 rw [Bool.eq_iff_iff]
 simp only [Bool.and_eq_true,beq_iff_eq,decide_eq_true_eq,Prod.mk.injEq]
def eT (H:Hp) (e:Tie):Value->Bool
 | .ref b=>match H b with
   |some (.tup [.int i,.int j,.int l])=>decide ((i,j,l)=e)
   |_=>false
 |_=>false
theorem eT_at {H:Hp} {e t:Tie} {v:V} {u:Value} (h:TieAt H v t) (r:RelV v u):eT H e u=decide (t=e):=by
 obtain ⟨b,rfl,hb⟩:=h
 cases (show u=Value.ref b from r)
 simp only [eT,hb]
def rInT (K:PySem.W.Frag):R2:=fun x y H Q=>∃ b xs es e,y=.ref b/\SqL K H b xs/\Paired (TieAt H) xs es/\TieAt H x e/\Q (.bl (decide (e∈es))) H
theorem ties_mem {H:Hp} {w:Value}:∀ {xs:List V} {es:List Tie} {its:List Value},Paired (TieAt H) xs es->Vals xs its->w∈its->∃ x e,e∈es/\TieAt H x e/\RelV x w
 | _,_,_,.cons h t,.cons r rs,m=>by
   rcases List.mem_cons.mp m with rfl|m
   ·exact ⟨_,_,List.mem_cons_self,h,r⟩
   ·obtain ⟨x,e,h1,h2,h3⟩:=ties_mem t rs m
    exact ⟨x,e,List.mem_cons_of_mem _ h1,h2,h3⟩
 |_,_,_,.nil,.nil,m=>by simp at m
theorem ties_any {H:Hp} {e:Tie}:∀ {xs:List V} {es:List Tie} {its:List Value},Paired (TieAt H) xs es->Vals xs its->its.any (eT H e)=decide (e∈es)
 |_,_,_,.nil,.nil=>by simp
 | _,_,_,.cons h t,.cons r rs=>by
   rw [List.any_cons,eT_at h r,ties_any t rs,Bool.eq_iff_iff]
   simp only [Bool.or_eq_true,decide_eq_true_eq,List.mem_cons]
   exact ⟨fun z=>z.imp Eq.symm id,fun z=>z.imp Eq.symm id⟩
theorem op_inT {X:Cx} (hu:X.A.units+64<cLine):OpR X (compareOp .In) (rInT X.K):=by
 intro pins s σ H x y v u Q I rx ry h
 obtain ⟨b,xs,es,e,rfl,hq,pe,hx,q⟩:=h
 cases (show u=Value.ref b from ry)
 obtain ⟨its,r,pl,hz⟩:=I.list hq
 refine SeqAt.in_listAt (eT H e) pl.isList (fun w hw=>?_) ⟨.bl _,H,I,rfl,?_⟩
 ·obtain ⟨x',t,_,h1,h2⟩:=ties_mem pe r (by simpa using hw)
  rw [eT_at h1 h2,← tie_eq]
  refine eq_at I (tie_rep h1) (tie_rep hx) h2 rx ?_
  show X.A.units+1+pdDep (tieD t)<cLine
  simp [tieD,pdDep,pdDeps]
  omega
 ·rw [show its.toArray.any (eT H e)=its.any (eT H e) by simp,ties_any pe r]
  exact q
section
variable {P:Program} {w:World} {K:PySem.W.Frag} {mg:Str->Option Value} {base:Heap}
end
end Cm
namespace Cm
open PySem L2 PySem.W
theorem memT {es:List Tie} {n:Nat} {m:Int} {e:Tie}:e∈allT es n m↔e∈es∨e∈bnds n m:=List.mem_append
theorem lo_mem {n i:Nat} {m:Int} (h:i<n):loT i∈bnds n m:=List.mem_append_left _ (List.mem_map.mpr ⟨i,List.mem_range.mpr h,rfl⟩)
theorem hi_mem {n i:Nat} {m:Int} (h:i<n):hiT m i∈bnds n m:=List.mem_append_right _ (List.mem_map.mpr ⟨i,List.mem_range.mpr h,rfl⟩)
theorem bnds_cases {n:Nat} {m:Int} {e:Tie} (h:e∈bnds n m):∃ i,i<n/\(e=loT i∨e=hiT m i):=by
 rcases List.mem_append.mp h with h|h
 ·obtain ⟨i,hi,rfl⟩:=List.mem_map.mp h
  exact ⟨i,List.mem_range.mp hi,.inl rfl⟩
 ·obtain ⟨i,hi,rfl⟩:=List.mem_map.mp h
  exact ⟨i,List.mem_range.mp hi,.inr rfl⟩
theorem bnds_sat {n:Nat} {m:Int} {g:Int->Int} (h:∀ e∈bnds n m,Bf.Sat g e) {i:Nat} (hi:i<n):g (-1)≤g i/\g i≤g (-1)+m:=by
 have h1:g (-1)+0≤g i:=h _ (lo_mem hi)
 have h2:g i+(0-m)≤g (-1):=h _ (hi_mem hi)
 omega
theorem ground {es:List Tie} {n:Nat} {m:Int} {h:Int->Int} (ok:∀ e∈es,OkTie n e) (L:Bf.Least (allT es n m) h):h (-1)=0:=by
 have hb:∀ e∈bnds n m,Bf.Sat h e:=fun e he=>L.sat e (memT.mpr (.inr he))
 have h1:=L.le (fun v=>if -1≤v/\v<n then h v-h (-1) else h v) (fun v=>?_) (fun e he=>?_) (-1)
 ·have h2:=L.nn (-1)
  rw [if_pos ⟨by omega,by omega⟩] at h1
  omega
 ·by_cases q:-1≤v/\v<n
  ·rw [if_pos q]
   by_cases q2:v=-1
   ·rw [q2];omega
   ·obtain ⟨i,rfl⟩:=Int.eq_ofNat_of_zero_le (show 0≤v by omega)
    have:=bnds_sat hb (i:=i) (by omega)
    omega
  ·rw [if_neg q];exact L.nn v
 ·have hs:=L.sat e he
  have it:InTie n e:=by
   rcases memT.mp he with he|he
   ·exact (ok e he).inT
   ·exact bnds_in he
  unfold Bf.Sat at hs ⊢
  show (if -1≤e.2.1/\e.2.1<n then h e.2.1-h (-1) else h e.2.1)+e.2.2≤(if -1≤e.1/\e.1<n then h e.1-h (-1) else h e.1)
  rw [if_pos it.o,if_pos it.t]
  omega
def AmAt (n:Nat) (all:List Tie) (H:Hp) (v:V):Option (Int->Int)->Prop
 |none=>v=.non/\Bf.Barred all
 |some h=>∃ a,v=.ref a/\H a=some (.lst (amV n h))/\Bf.Least all h
theorem AmAt.same {n:Nat} {all:List Tie} {H H':Hp} {v:V} {W:Option (Int->Int)} (h:AmAt n all H v W) (s:Same H H'):AmAt n all H' v W:=by
 cases W with
 |none=>exact h
 | some g=>
   obtain ⟨a,h1,h2,h3⟩:=h
   exact ⟨a,h1,s _ _ h2,h3⟩
def amD (n:Nat):Option (Int->Int)->PyData
 |none=>.none
 |some h=>.list ((List.range n).map fun i:Nat=>.int (h i))
theorem reps_ints {K:PySem.W.Frag} {H:Hp}:∀ ns:List Int,Reps K H (ns.map V.int) (ns.map PyData.int)
 |[]=>.nil
 |n::r=>.cons (.int n) (reps_ints r)
theorem AmAt.rep {K:PySem.W.Frag} {n:Nat} {all:List Tie} {H:Hp} {v:V} {W:Option (Int->Int)} (h:AmAt n all H v W):Rep K H v (amD n W):=by
 cases W with
 | none=>
   obtain ⟨rfl,_⟩:=h
   exact .non
 | some g=>
   obtain ⟨a,rfl,h2,_⟩:=h
   refine .lst (SqL.of h2) ?_
   have:=reps_ints (K:=K) (H:=H) ((List.range n).map fun i:Nat=>g i)
   rw [List.map_map,List.map_map] at this
   exact this
theorem amD_dep (n:Nat) (W:Option (Int->Int)):pdDep (amD n W)≤1:=by
 cases W with
 |none=>simp [amD,pdDep]
 | some h=>
   have:∀ l:List Nat,pdDeps (l.map fun i:Nat=>PyData.int (h i))=0:=fun l=>by
    induction l with
    |nil=>rfl
    |cons x r ih=>rw [List.map_cons];simp [pdDeps,pdDep,ih]
   simp [amD,pdDep,this]
theorem amD_max (n:Nat) (hn:n≤1000) (W:Option (Int->Int)):pdMax (amD n W)≤1000:=by
 cases W with
 |none=>simp [amD,pdMax]
 | some h=>
   have:∀ l:List Nat,pdMaxs (l.map fun i:Nat=>PyData.int (h i))=0:=fun l=>by
    induction l with
    |nil=>rfl
    |cons x r ih=>rw [List.map_cons];simp [pdMaxs,pdMax,ih]
   simp [amD,pdMax,this,hn]
theorem am_read {K:PySem.W.Frag} {n:Nat} {q:Addr} {m:Int} {es:List Tie} {H:Hp} {Q:VK} {E:XK} (n1:1≤n) (n2:n≤6) (m1:0≤m) (m2:m≤1000000000000) (ti:TiesIn K H q n es) (k:∀ v W H',AmAt n (allT es n m) H' v W->Same H H'->Q v H'):spAm K [.int n,.ref q,.int m] H Q E:=
 ⟨n,q,m,es,rfl,n1,n2,m1,m2,ti,fun h L a H' ha na s=>k (.ref a) (some h) H' ⟨a,rfl,ha,L⟩ s,fun B H' s=>k .non none H' ⟨rfl,B⟩ s⟩
def inB (m:Int) (ns:List Int):Bool:=ns.all fun a=>decide (0≤a) && decide (a≤m)
def tieB (ns:List Int) (e:Tie):Bool:=decide (ns.getD e.2.1.toNat 0+e.2.2≤ns.getD e.1.toNat 0)
def meetsB (es:List Tie) (ns:List Int) (m:Int):Bool:=inB m ns && es.all (tieB ns)
def gT3 (K:PySem.W.Frag):TG:=gTup K 3 (gCons (gName 0) (gCons (gName 1) (gCons (gName 2) gNil)))
section
variable {P:Program} {w:World} {K:PySem.W.Frag} {mg:Str->Option Value} {base:Heap}
def spMt (K:PySem.W.Frag):Sp:=fun vs H Q _=>∃ (q r:Addr) (xs:List V) (es:List Tie) (ns:List Int) (m:Int),vs=[.ref q,.ref r,.int m]/\SqL K H q xs/\Paired (TieAt H) xs es/\(∀ e∈es,OkTie ns.length e)/\SqL K H r (ns.map V.int)/\xs.length≤1000/\ns.length≤1000/\
 ∀ H',Same H H'->Q (.bl (meetsB es ns m)) H'
theorem scMt:FnScope ["_law_ties_here","_law_row","_law_top"] ["_law_ties_here","_law_row","_law_top"] (defScope (top 27)):=⟨rfl,rfl,rfl,by decide +kernel,rfl,by decide +kernel,by decide +kernel⟩
theorem _root_.L2.EvR.ixL {K:PySem.W.Frag} {H:Hp} {a:Addr} {xs:List V} {i:Int} {v:V} (h:SqL K H a xs) (e:atI xs i=some v):EvR (rIx K) (.ref a) (.int i) H v:=fun Q q=>.inl ⟨a,xs,i,v,rfl,rfl,h,e,q⟩
theorem row_at {ns:List Int} {i:Int} (h0:0≤i) (h1:i<ns.length):atI (ns.map V.int) i=some (.int (ns.getD i.toNat 0)):=by
 obtain ⟨j,rfl⟩:=Int.eq_ofNat_of_zero_le h0
 have hj:j<ns.length:=by omega
 refine atI_nat (j:=j) ?_
 rw [List.getElem?_map,List.getElem?_eq_getElem hj]
 simp [hj]
theorem ok_mt {f:Addr} {fd:FuncData} (F:Fun K "_law_meets" "_law_meets" (top 27) f fd) (T:Txt K mg):FnOk P w K mg base CX0 1 f fd ["_law_ties_here","_law_row","_law_top"] (spMt K):=by
 refine F.ok scMt (fun vs H Q E h=>?_) (fun cdv A outer s H vs Q E hr h=>?_)
 ·obtain ⟨q,r,xs,es,ns,m,rfl,_⟩:=h
  rfl
 ·obtain ⟨q,r,xs,es,ns,m,rfl,hq,pe,ok,hrw,xl,nl,k⟩:=h
  refine ⟨_,(pss_cons
   (ps_if (pt_not (pt_val (pe_callB (call_allB rfl) (by rfl) T.all bt_all (pa_cons (pe_comp (g:=gName 0) (own:=["_law_amount"]) (js:=[2]) (N':=["_law_amount","_law_top"]) (CompScope.of (osc:=defScope (top 27)) (N:=["_law_ties_here","_law_row","_law_top"]) rfl rfl ⟨rfl,by decide +kernel,by decide +kernel,by decide +kernel,rfl,by decide +kernel⟩) rfl (pi_list (pv 1)) (fun _ _ _ _ _=>(pg_name (i:=0) (show List.Nodup (["_law_amount","_law_top"]:List Str) by decide +kernel) rfl (Or.inl rfl) (Or.inr rfl))) (fun _ _ _ _ _=>pifs_nil) (fun _ _ _ _ _=>pe_chain op_le op_le pe_int (pv 0) (pv 1))) pa_nil)))) (pss_one (ps_ret pe_bl)) pss_nil)
   (pss_one (ps_ret (pe_callB (call_allB rfl) (by rfl) T.all bt_all (pa_cons (pe_comp (g:=gT3 K) (own:=["_law_one","_law_other","_law_least"]) (js:=[1]) (N':=["_law_one","_law_other","_law_least","_law_row"]) (CompScope.of (osc:=defScope (top 27)) (N:=["_law_ties_here","_law_row","_law_top"]) rfl rfl ⟨rfl,by decide +kernel,by decide +kernel,by decide +kernel,rfl,by decide +kernel⟩) rfl (pi_list (pv 0))
    (fun _ _ _ _ _=>(pg_tup rfl (pgs_cons (pg_name (i:=0) (show List.Nodup (["_law_one","_law_other","_law_least","_law_row"]:List Str) by decide +kernel) rfl (Or.inl rfl) (Or.inr rfl)) (pgs_cons (pg_name (i:=1) (show List.Nodup (["_law_one","_law_other","_law_least","_law_row"]:List Str) by decide +kernel) rfl (Or.inl rfl) (Or.inr rfl)) (pgs_cons (pg_name (i:=2) (show List.Nodup (["_law_one","_law_other","_law_least","_law_row"]:List Str) by decide +kernel) rfl (Or.inl rfl) (Or.inr rfl)) pgs_nil))))) (fun _ _ _ _ _=>pifs_nil)
    (fun _ _ _ _ _=>pe_cmpR op_ge (pe_ix (r:=rIx K) ix_seq (pv 3) (pv 0) (fun _ _=>rfl)) (pe_op op_add (pe_ix (r:=rIx K) ix_seq (pv 3) (pv 1) (fun _ _=>rfl)) (pv 2)) (nomark _))) pa_nil))))),?_⟩
  have tl:=Paired.length pe
  refine ⟨_,rfl,r,rfl,⟨_,hrw⟩,?_⟩
  refine comp_list (K:=K) (a:=r) (xs:=ns.map V.int) (fun i ys σ' H'=>H'=H/\(∃ v,σ'=[v,some (.int m)])/\ys=((ns.take i).map fun a=>V.bl (decide (0≤a) && decide (a≤m)))) (by rw [List.length_map];exact Nat.le_trans nl (by decide)) ⟨rfl,⟨none,rfl⟩,rfl⟩ (fun i ys σ H' _ e=>by rw [e.1];exact hrw) ?_ ?_
  ·rintro i x ys σ' H' hi hy ⟨rfl,⟨v,rfl⟩,rfl⟩ N hN
   rw [List.getElem?_map] at hi
   obtain ⟨a,ha,rfl⟩:=Option.map_eq_some_iff.mp hi
   dsimp only [gName]
   refine EvE.chain EvE.con (EvE.var rfl) (EvE.var rfl) EvR.i0 EvR.i0 _ ?_
   exact hN _ _ _ (by rw [List.length_append,hy];rfl) ⟨rfl,⟨_,rfl⟩,by rw [List.take_add_one,ha,List.map_append];rfl⟩
  ·rintro ys σ' H' hy ⟨rfl,⟨v,rfl⟩,rfl⟩
   have el:ns.take (ns.map V.int).length=ns:=by rw [List.length_map,List.take_length]
   rw [el]
   refine ⟨by rw [List.length_map];exact Nat.le_trans nl (by decide),fun a ha=>?_⟩
   have s1:Same H' (upd H' a (.lst (ns.map fun a=>V.bl (decide (0≤a) && decide (a≤m))))):=Same.new ha
   refine ⟨a,ns.map (fun a=>decide (0≤a) && decide (a≤m)),rfl,SqL.of (by rw [upd_same,List.map_map];rfl),_,rfl,ite2 (fun h=>?_) (fun h=>?_)⟩
   ·have e:meetsB es ns m=false:=by
     dsimp only at h
     rw [List.all_map] at h
     unfold meetsB
     rw [show inB m ns=false from by simpa [inB] using h]
     rfl
    have:=k _ s1
    rw [e] at this
    exact this
   ·have e:inB m ns=true:=by
     dsimp only at h
     rw [List.all_map] at h
     simpa [inB] using h
    refine ⟨_,rfl,q,rfl,⟨_,s1.seq hq⟩,?_⟩
    refine comp_list (K:=K) (a:=q) (xs:=xs) (fun i ys σ' H''=>H''=upd H' a (.lst (ns.map fun a=>V.bl (decide (0≤a) && decide (a≤m))))/\(∃ v1 v2 v3,σ'=[v1,v2,v3,some (.ref r)])/\ys=((es.take i).map fun e=>V.bl (tieB ns e))) (Nat.le_trans xl (by decide)) ⟨rfl,⟨none,none,none,rfl⟩,rfl⟩ (fun i ys σ H'' _ e=>by rw [e.1];exact s1.seq hq) ?_ ?_
    ·rintro i x ys σ' H'' hi hy ⟨rfl,⟨v1,v2,v3,rfl⟩,rfl⟩ N hN
     obtain ⟨e',he,b,rfl,hb⟩:=ties_get pe hi
     have o:=ok e' (List.mem_of_getElem? he)
     have hb':=s1 _ _ hb
     refine ⟨b,_,rfl,SqT.of hb',rfl,_,_,rfl,_,_,rfl,_,_,rfl,rfl,?_⟩
     refine EvE.op (EvE.op (EvE.var rfl) (EvE.var rfl) (EvR.ixL (s1.seq hrw) (row_at o.o.1 o.o.2))) (EvE.op (EvE.op (EvE.var rfl) (EvE.var rfl) (EvR.ixL (s1.seq hrw) (row_at o.t.1 o.t.2))) (EvE.var rfl) EvR.i0) EvR.i0 _ ?_
     exact hN _ _ _ (by rw [List.length_append,hy];rfl) ⟨rfl,⟨_,_,_,rfl⟩,by rw [List.take_add_one,he,List.map_append];rfl⟩
    ·rintro ys σ' H'' hy ⟨rfl,⟨v1,v2,v3,rfl⟩,rfl⟩
     have el2:es.take xs.length=es:=by rw [tl,List.take_length]
     rw [el2]
     refine ⟨by rw [List.length_map,← tl];exact Nat.le_trans xl (by decide),fun b hb=>?_⟩
     refine ⟨b,es.map (tieB ns),rfl,SqL.of (by rw [upd_same,List.map_map];rfl),?_⟩
     have:=k _ (s1.trans (Same.new (o:=.lst (es.map fun e=>V.bl (tieB ns e))) hb))
     unfold meetsB at this
     rw [e,Bool.true_and] at this
     dsimp only
     rw [List.all_map]
     exact this
end
section
variable {P:Program} {w:World} {K:PySem.W.Frag} {mg:Str->Option Value} {base:Heap}
def spMe (K:PySem.W.Frag):Sp:=fun vs H Q _=>∃ (n:Nat) (m:Int) (q r:Addr) (xs:List V) (es:List Tie) (ns:List Int),vs=[.int n,.ref q,.ref r,.int m]/\1≤n/\n≤6/\0≤m/\m≤1000000000000/\SqL K H q xs/\Paired (TieAt H) xs es/\(∀ e∈es,OkTie n e)/\SqL K H r (ns.map V.int)/\xs.length≤1000/\ns.length≤1000/\
 ∀ H',Same H H'->Q (.bl (decide (ns.length=n) && meetsB es ns m)) H'
theorem scMe:FnScope ["lanes","ties","row","most","within"] ["lanes","ties","row","most"] (defScope (top 19)):=⟨rfl,rfl,rfl,by decide +kernel,rfl,by decide +kernel,by decide +kernel⟩
theorem ok_me {f fN fL fT fM:Addr} {fd fdN fdL fdT fdM:FuncData} (F:Fun K "meets" "meets" (top 19) f fd) (T:Txt K mg) (TC:TxtC mg) (DN:Def K mg "need_all" (top 13) ["lanes","ties","most"] fN fdN)
 (DL:Def K mg "need_lanes" (top 10) ["lanes"] fL fdL) (DT:Def K mg "need_ties" (top 11) ["lanes","ties"] fT fdT) (DM:Def K mg "need_most" (top 12) ["most"] fM fdM):FnOk P w K mg base CX0 3 f fd ["lanes","ties","row","most"] (spMe K):=by
 have GN:FnOk P w K mg base CX0 2 fN fdN ["lanes","ties","most"] (spNA K):=ok_na DN.F TC DL DT DM
 refine F.ok scMe (fun vs H Q E h=>?_) (fun cdv A outer s H vs Q E hr h=>?_)
 ·obtain ⟨n,m,q,r,xs,es,ns,rfl,_⟩:=h
  rfl
 ·obtain ⟨n,m,q,r,xs,es,ns,rfl,n1,n2,m1,m2,hq,pe,ok,hrw,xl,nl,k⟩:=h
  refine ⟨_,(pss_cons (ps_expr (pe_call GN hr rfl DN.mg DN.F.kp DN.b .nil pass0 (pa_cons (pv 0) (pa_cons (pv 1) (pa_cons (pv 3) pa_nil)))))
   (pss_cons (ps_if (pt_cmpR op_ne (pe_callB call_len_seq (by rfl) T.len bt_len (pa_cons (pv 2) pa_nil)) (pv 0) (nomark _)) (pss_one (ps_ret pe_bl)) pss_nil)
   (pss_cons (ps_setComp (g:=gName 0) (i:=4) (own:=["amount"]) (js:=[3]) (N':=["amount","most"]) (CompScope.of (osc:=defScope (top 19)) (N:=["lanes","ties","row","most","within"]) rfl rfl ⟨rfl,by decide +kernel,by decide +kernel,by decide +kernel,rfl,by decide +kernel⟩) rfl scMe.nd rfl rfl (pi_list (pv 2)) (fun _ _ _ _ _=>(pg_name (i:=0) (show List.Nodup (["amount","most"]:List Str) by decide +kernel) rfl (Or.inl rfl) (Or.inr rfl))) (fun _ _ _ _ _=>pifs_nil) (fun _ _ _ _ _=>pe_chain op_le op_le pe_int (pv 0) (pv 1)))
   (pss_one (ps_ret (pe_and (pe_callB (call_allB rfl) (by rfl) T.all bt_all (pa_cons (pv 4) pa_nil)) (pe_one (pe_callB (call_allB rfl) (by rfl) T.all bt_all (pa_cons (pe_comp (g:=gT3 K) (own:=["one","other","least"]) (js:=[2]) (N':=["one","other","least","row"]) (CompScope.of (osc:=defScope (top 19)) (N:=["lanes","ties","row","most","within"]) rfl rfl ⟨rfl,by decide +kernel,by decide +kernel,by decide +kernel,rfl,by decide +kernel⟩) rfl (pi_list (pv 1))
    (fun _ _ _ _ _=>(pg_tup rfl (pgs_cons (pg_name (i:=0) (show List.Nodup (["one","other","least","row"]:List Str) by decide +kernel) rfl (Or.inl rfl) (Or.inr rfl)) (pgs_cons (pg_name (i:=1) (show List.Nodup (["one","other","least","row"]:List Str) by decide +kernel) rfl (Or.inl rfl) (Or.inr rfl)) (pgs_cons (pg_name (i:=2) (show List.Nodup (["one","other","least","row"]:List Str) by decide +kernel) rfl (Or.inl rfl) (Or.inr rfl)) pgs_nil))))) (fun _ _ _ _ _=>pifs_nil)
    (fun _ _ _ _ _=>pe_cmpR op_ge (pe_op op_sub (pe_ix (r:=rIx K) ix_seq (pv 3) (pv 0) (fun _ _=>rfl)) (pe_ix (r:=rIx K) ix_seq (pv 3) (pv 1) (fun _ _=>rfl))) (pv 2) (nomark _))) pa_nil))))))))),?_⟩
  have tl:=Paired.length pe
  refine ⟨_,rfl,_,rfl,_,rfl,n,m,q,xs,es,rfl,by omega,by omega,m1,m2,hq,pe,ok,?_⟩
  refine ⟨_,rfl,r,_,rfl,.inl hrw,_,rfl,rfl,_,rfl,ite2 (fun h=>?_) (fun h=>?_)⟩
  ·have e:ns.length≠n:=by
    intro z
    simp [z] at h
   have:=k _ (Same.refl _)
   rw [decide_eq_false e,Bool.false_and] at this
   exact this
  have e1:ns.length=n:=by
   simp at h
   omega
  clear h
  subst e1
  refine ⟨_,rfl,r,rfl,⟨_,hrw⟩,?_⟩
  refine comp_list (K:=K) (a:=r) (xs:=ns.map V.int) (fun i ys σ' H'=>H'=H/\(∃ v,σ'=[v,some (.int m)])/\ys=((ns.take i).map fun a=>V.bl (decide (0≤a) && decide (a≤m)))) (by rw [List.length_map];exact Nat.le_trans nl (by decide)) ⟨rfl,⟨none,rfl⟩,rfl⟩ (fun i ys σ H' _ e=>by rw [e.1];exact hrw) ?_ ?_
  ·rintro i x ys σ' H' hi hy ⟨rfl,⟨v,rfl⟩,rfl⟩ N hN
   rw [List.getElem?_map] at hi
   obtain ⟨a,ha,rfl⟩:=Option.map_eq_some_iff.mp hi
   dsimp only [gName]
   refine EvE.chain EvE.con (EvE.var rfl) (EvE.var rfl) EvR.i0 EvR.i0 _ ?_
   exact hN _ _ _ (by rw [List.length_append,hy];rfl) ⟨rfl,⟨_,rfl⟩,by rw [List.take_add_one,ha,List.map_append];rfl⟩
  ·rintro ys σ' H' hy ⟨rfl,⟨v,rfl⟩,rfl⟩
   have el:ns.take (ns.map V.int).length=ns:=by rw [List.length_map,List.take_length]
   rw [el]
   refine ⟨by rw [List.length_map];exact Nat.le_trans nl (by decide),fun a ha=>?_⟩
   have s1:Same H' (upd H' a (.lst (ns.map fun a=>V.bl (decide (0≤a) && decide (a≤m))))):=Same.new ha
   refine ⟨_,rfl,a,ns.map (fun a=>decide (0≤a) && decide (a≤m)),rfl,SqL.of (by rw [upd_same,List.map_map];rfl),_,rfl,ite2 (fun h=>?_) (fun h=>?_)⟩
   ·have e:inB m ns=true:=by
     dsimp only at h
     rw [List.all_map] at h
     exact h
    refine ⟨_,rfl,q,rfl,⟨_,s1.seq hq⟩,?_⟩
    refine comp_list (K:=K) (a:=q) (xs:=xs) (fun i ys σ' H''=>H''=upd H' a (.lst (ns.map fun a=>V.bl (decide (0≤a) && decide (a≤m))))/\(∃ v1 v2 v3,σ'=[v1,v2,v3,some (.ref r)])/\ys=((es.take i).map fun e=>V.bl (tieB ns e))) (Nat.le_trans xl (by decide)) ⟨rfl,⟨none,none,none,rfl⟩,rfl⟩ (fun i ys σ H'' _ e=>by rw [e.1];exact s1.seq hq) ?_ ?_
    ·rintro i x ys σ' H'' hi hy ⟨rfl,⟨v1,v2,v3,rfl⟩,rfl⟩ N hN
     obtain ⟨e',he,b,rfl,hb⟩:=ties_get pe hi
     have o:=ok e' (List.mem_of_getElem? he)
     have hb':=s1 _ _ hb
     refine ⟨b,_,rfl,SqT.of hb',rfl,_,_,rfl,_,_,rfl,_,_,rfl,rfl,?_⟩
     refine EvE.op (EvE.op (EvE.op (EvE.var rfl) (EvE.var rfl) (EvR.ixL (s1.seq hrw) (row_at o.o.1 o.o.2))) (EvE.op (EvE.var rfl) (EvE.var rfl) (EvR.ixL (s1.seq hrw) (row_at o.t.1 o.t.2))) EvR.i0) (EvE.var rfl) EvR.i0 _ ?_
     have et:decide (e'.2.2≤ns.getD e'.1.toNat 0-ns.getD e'.2.1.toNat 0)=tieB ns e':=by
      unfold tieB
      rw [decide_eq_decide]
      omega
     refine hN _ _ _ (by rw [List.length_append,hy];rfl) ⟨rfl,⟨_,_,_,rfl⟩,?_⟩
     rw [List.take_add_one,he,List.map_append,et];rfl
    ·rintro ys σ' H'' hy ⟨rfl,⟨v1,v2,v3,rfl⟩,rfl⟩
     have el2:es.take xs.length=es:=by rw [tl,List.take_length]
     rw [el2]
     refine ⟨by rw [List.length_map,← tl];exact Nat.le_trans xl (by decide),fun b hb=>?_⟩
     refine ⟨b,es.map (tieB ns),rfl,SqL.of (by rw [upd_same,List.map_map];rfl),?_⟩
     have:=k _ (s1.trans (Same.new (o:=.lst (es.map fun e=>V.bl (tieB ns e))) hb))
     unfold meetsB at this
     rw [e,Bool.true_and,decide_eq_true rfl,Bool.true_and] at this
     dsimp only
     rw [List.all_map]
     exact this
   ·have e:inB m ns=false:=by
     dsimp only at h
     rw [List.all_map] at h
     exact Bool.eq_false_iff.mpr h
    have:=k _ s1
    unfold meetsB at this
    rw [e,Bool.false_and,Bool.and_false] at this
    exact this
end
def ext1 (m:Nat) (r:List Int):List (List Int):=(List.range m).map fun a:Nat=>r++[(a:Int)]
def allR (m:Nat):Nat->List (List Int)
 |0=>[[]]
 |k+1=>(allR m k).flatMap (ext1 m)
section
variable {P:Program} {w:World} {K:PySem.W.Frag} {mg:Str->Option Value} {base:Heap}
end
theorem ties_reps {K:PySem.W.Frag} {H:Hp}:∀ {xs:List V} {es:List Tie},Paired (TieAt H) xs es->Reps K H xs (es.map tieD)
 |_,_,.nil=>.nil
 |_,_,.cons h t=>.cons (tie_rep h) (ties_reps t)
theorem _root_.L2.EvR.ixT {K:PySem.W.Frag} {H:Hp} {a:Addr} {xs:List V} {i:Int} {v:V} (h:SqT K H a xs) (e:atI xs i=some v):EvR (rIx K) (.ref a) (.int i) H v:=fun Q q=>.inr (.inl ⟨a,xs,i,v,rfl,rfl,h,e,q⟩)
theorem ties_dep (es:List Tie):pdDeps (es.map tieD)≤1:=by
 induction es with
 |nil=>simp [pdDeps]
 | cons f r ih=>
   rw [List.map_cons]
   have:pdDep (tieD f)≤1:=by simp [tieD,pdDep,pdDeps]
   simp only [pdDeps]
   omega
theorem atI_last {ys:List V} {x:V} (h:ys[ys.length-1]?=some x):atI ys (-1)=some x:=by
 have hl:ys.length-1<ys.length:=(List.getElem?_eq_some_iff.mp h).1
 unfold atI ixN
 rw [if_neg (by decide),if_pos (by omega)]
 show ys[(-1+(ys.length:Int)).toNat]?=_
 rw [show (-1+(ys.length:Int)).toNat=ys.length-1 by omega]
 exact h
theorem ring_at {H:Hp} {ys:List V} {rs:List Tie} (pr:Paired (TieAt H) ys rs) (R:Bf.Ring rs) {i:Nat} (hi:i<rs.length):∃ b1 b2 e1 e2,atI ys (0+(i:Int)-1)=some (.ref b1)/\H b1=some (.tup [.int e1.1,.int e1.2.1,.int e1.2.2])/\atI ys (0+(i:Int))=some (.ref b2)/\H b2=some (.tup [.int e2.1,.int e2.2.1,.int e2.2.2])/\(e1:Tie).2.1=(e2:Tie).1:=by
 have yl:=Paired.length pr
 have get:∀ j,j<rs.length->∃ b,ys[j]?=some (.ref b)/\H b=some (.tup [.int (rs.getD j (0,0,0)).1,.int (rs.getD j (0,0,0)).2.1,.int (rs.getD j (0,0,0)).2.2]):=fun j hj=>by
  have hj':j<ys.length:=by omega
  obtain ⟨e,he,b,hb,h⟩:=ties_get pr (List.getElem?_eq_getElem hj')
  refine ⟨b,by rw [List.getElem?_eq_getElem hj',hb],?_⟩
  rw [List.getD_eq_getElem?_getD,he]
  exact h
 obtain ⟨b2,g2,h2⟩:=get i hi
 have a2:atI ys (0+(i:Int))=some (.ref b2):=by rw [Int.zero_add];exact atI_nat g2
 cases i with
 | zero=>
   obtain ⟨b1,g1,h1⟩:=get (rs.length-1) (by omega)
   refine ⟨b1,b2,_,_,?_,h1,a2,h2,R.close⟩
   exact atI_last (by rw [yl];exact g1)
 | succ i=>
   obtain ⟨b1,g1,h1⟩:=get i (by omega)
   refine ⟨b1,b2,_,_,?_,h1,a2,h2,R.link i (by omega)⟩
   rw [show (0+((i+1:Nat):Int)-1)=(i:Int) by omega]
   exact atI_nat g1
section
variable {P:Program} {w:World} {K:PySem.W.Frag} {mg:Str->Option Value} {base:Heap}
def spIr (K:PySem.W.Frag):Sp:=fun vs H Q _=>∃ (a q:Addr) (n:Nat) (m:Int) (ys xs:List V) (rs es:List Tie),vs=[.ref a,.int n,.ref q,.int m]/\H a=some (.lst ys)/\Paired (TieAt H) ys rs/\Bf.Ring rs/\(∀ e∈rs,e∈allT es n m)/\SqL K H q xs/\Paired (TieAt H) xs es/\
 rs.length≤10/\(∀ e∈rs,-10000000000000≤e.2.2/\e.2.2≤10000000000000)/\n≤6/\∀ H',Same H H'->Q (.bl true) H'
abbrev NR:List Str:=["_law_ring_told","_law_lanes","_law_ties_here","_law_top","_law_bounds","_law_ones"]
theorem scIr:FnScope NR ["_law_ring_told","_law_lanes","_law_ties_here","_law_top"] (defScope (top 28)):=⟨rfl,rfl,rfl,by decide +kernel,rfl,by decide +kernel,by decide +kernel⟩
theorem ok_ir {f:Addr} {fd:FuncData} (F:Fun K "_law_is_ring" "_law_is_ring" (top 28) f fd) (T:Txt K mg) (hset:mg "set" = none) (hsum:mg "sum" = none):FnOk P w K mg base CX0 6 f fd ["_law_ring_told","_law_lanes","_law_ties_here","_law_top"] (spIr K):=by
 refine F.ok scIr (fun vs H Q E h=>?_) (fun cdv A outer s H vs Q E hr h=>?_)
 ·obtain ⟨a,q,n,m,ys,xs,rs,es,rfl,_⟩:=h
  rfl
 ·obtain ⟨a,q,n,m,ys,xs,rs,es,rfl,ha,pr,R,hin,hq,pe,rl,rb,hn,k⟩:=h
  refine ⟨_,(pss_cons
 (ps_if (PW.pt (pw_or (pt_not (pt_val (pe_callB call_isT (by rfl) T.isinstance bt_isinstance (pa_cons (pv 0) (pa_cons (pe_ty rfl T.list bt_list) pa_nil))))) (pw_or1 (pt_cmpR (op_eqD hr.units) (pv 0) (pe_lst pa_nil) (nomark _))))) (pss_one (ps_ret pe_bl)) pss_nil)
 (pss_cons
 (ps_set (i:=4) scIr.nd rfl (Or.inr rfl) (pe_op op_cat (pe_comp (g:=gName 0) (own:=["_law_lane"]) (js:=[]) (N':=["_law_lane"]) (CompScope.of (osc:=defScope (top 28)) (N:=NR) rfl rfl ⟨rfl,by decide +kernel,by decide +kernel,by decide +kernel,rfl,by decide +kernel⟩) rfl (pi_range1 rfl T.range (pa_cons (pv 1) pa_nil)) (fun _ _ _ _ _=>(pg_name (i:=0) (show List.Nodup (["_law_lane"]:List Str) by decide +kernel) rfl (Or.inl rfl) (Or.inr rfl))) (fun _ _ _ _ _=>pifs_nil) (fun _ _ _ _ _=>(pe_tup (pa_cons (pv 0) (pa_cons (pe_un un_neg pe_int) (pa_cons pe_int pa_nil))))))
  (pe_comp (g:=gName 0) (own:=["_law_lane"]) (js:=[3]) (N':=["_law_lane","_law_top"]) (CompScope.of (osc:=defScope (top 28)) (N:=NR) rfl rfl ⟨rfl,by decide +kernel,by decide +kernel,by decide +kernel,rfl,by decide +kernel⟩) rfl (pi_range1 rfl T.range (pa_cons (pv 1) pa_nil)) (fun _ _ _ _ _=>(pg_name (i:=0) (show List.Nodup (["_law_lane","_law_top"]:List Str) by decide +kernel) rfl (Or.inl rfl) (Or.inr rfl))) (fun _ _ _ _ _=>pifs_nil) (fun _ _ _ _ _=>(pe_tup (pa_cons (pe_un un_neg pe_int) (pa_cons (pv 0) (pa_cons (pe_op op_sub pe_int (pv 1)) pa_nil))))))))
 (pss_cons
 (ps_setComp (g:=gName 0) (i:=5) (own:=["_law_tie"]) (js:=[]) (N':=["_law_tie"]) (CompScope.of (osc:=defScope (top 28)) (N:=NR) rfl rfl ⟨rfl,by decide +kernel,by decide +kernel,by decide +kernel,rfl,by decide +kernel⟩) rfl scIr.nd rfl rfl (pi_list (pv 0)) (fun _ _ _ _ _=>(pg_name (i:=0) (show List.Nodup (["_law_tie"]:List Str) by decide +kernel) rfl (Or.inl rfl) (Or.inr rfl))) (fun _ _ _ _ _=>pifs_nil) (fun _ _ _ _ _=>(pe_ix (r:=rIx K) ix_seq (pv 0) pe_int (fun _ _=>rfl))))
 (pss_cons
 (ps_if (PW.pt (pw_or (pt_cmpR op_lt (pe_callB call_lenS (by rfl) T.len bt_len (pa_cons (pe_callTy (call_setL rfl) (by rfl) hset bt_set (pa_cons (pv 5) pa_nil)) pa_nil)) (pe_callB call_len_seq (by rfl) T.len bt_len (pa_cons (pv 5) pa_nil)) (nomark _)) (pw_or1 (pt_not (pt_val (pe_callB (call_allB rfl) (by rfl) T.all bt_all (pa_cons (pe_comp (g:=gName 0) (own:=["_law_tie"]) (js:=[2,4]) (N':=["_law_tie","_law_ties_here","_law_bounds"]) (CompScope.of (osc:=defScope (top 28)) (N:=NR) rfl rfl ⟨rfl,by decide +kernel,by decide +kernel,by decide +kernel,rfl,by decide +kernel⟩) rfl (pi_list (pv 0)) (fun _ _ _ _ _=>(pg_name (i:=0) (show List.Nodup (["_law_tie","_law_ties_here","_law_bounds"]:List Str) by decide +kernel) rfl (Or.inl rfl) (Or.inr rfl))) (fun _ _ _ _ _=>pifs_nil) (fun _ _ _ _ _=>(pe_or (pe_cmpR (r:=rInT K) (op_inT hr.units) (pv 0) (pv 1) rfl) (pe_one (pe_cmpR (r:=rInT K) (op_inT hr.units) (pv 0) (pv 2) rfl))))) pa_nil))))))) (pss_one (ps_ret pe_bl)) pss_nil)
 (pss_cons
 (ps_if (pt_val (pe_callB (call_anyB rfl) (by rfl) T.any bt_any (pa_cons (pe_comp (g:=gName 0) (own:=["_law_at"]) (js:=[0]) (N':=["_law_at","_law_ring_told"]) (CompScope.of (osc:=defScope (top 28)) (N:=NR) rfl rfl ⟨rfl,by decide +kernel,by decide +kernel,by decide +kernel,rfl,by decide +kernel⟩) rfl (pi_range1 rfl T.range (pa_cons (pe_callB call_len_seq (by rfl) T.len bt_len (pa_cons (pv 0) pa_nil)) pa_nil)) (fun _ _ _ _ _=>(pg_name (i:=0) (show List.Nodup (["_law_at","_law_ring_told"]:List Str) by decide +kernel) rfl (Or.inl rfl) (Or.inr rfl))) (fun _ _ _ _ _=>pifs_nil) (fun _ _ _ _ _=>(pe_cmpR op_ne (pe_ix (r:=rIx K) ix_seq (pe_ix (r:=rIx K) ix_seq (pv 1) (pe_op op_sub (pv 0) pe_int) (fun _ _=>rfl)) pe_int (fun _ _=>rfl)) (pe_ix (r:=rIx K) ix_seq (pe_ix (r:=rIx K) ix_seq (pv 1) (pv 0) (fun _ _=>rfl)) pe_int (fun _ _=>rfl)) (nomark _)))) pa_nil))) (pss_one (ps_ret pe_bl)) pss_nil)
 (pss_one
 (ps_ret (pe_and (pe_cmpR op_gt (pe_callB (call_sumL rfl) (by rfl) hsum bt_sum (pa_cons (pe_comp (g:=gName 0) (own:=["_law_tie"]) (js:=[]) (N':=["_law_tie"]) (CompScope.of (osc:=defScope (top 28)) (N:=NR) rfl rfl ⟨rfl,by decide +kernel,by decide +kernel,by decide +kernel,rfl,by decide +kernel⟩) rfl (pi_list (pv 0)) (fun _ _ _ _ _=>(pg_name (i:=0) (show List.Nodup (["_law_tie"]:List Str) by decide +kernel) rfl (Or.inl rfl) (Or.inr rfl))) (fun _ _ _ _ _=>pifs_nil) (fun _ _ _ _ _=>(pe_ix (r:=rIx K) ix_seq (pv 0) pe_int (fun _ _=>rfl)))) pa_nil)) pe_int (nomark _)) (pe_one (pe_callB (call_allB rfl) (by rfl) T.all bt_all (pa_cons (pe_comp (g:=gName 0) (own:=["_law_tie"]) (js:=[]) (N':=["_law_tie"]) (CompScope.of (osc:=defScope (top 28)) (N:=NR) rfl rfl ⟨rfl,by decide +kernel,by decide +kernel,by decide +kernel,rfl,by decide +kernel⟩) rfl (pi_list (pv 0)) (fun _ _ _ _ _=>(pg_name (i:=0) (show List.Nodup (["_law_tie"]:List Str) by decide +kernel) rfl (Or.inl rfl) (Or.inr rfl))) (fun _ _ _ _ _=>pifs_nil) (fun _ _ _ _ _=>(pe_callB (r:=rIsT K) call_isT (by rfl) T.isinstance bt_isinstance (pa_cons (pv 0) (pa_cons (pe_ty rfl T.tuple bt_tuple) pa_nil))))) pa_nil))))))))))),?_⟩
  have z0:0≤sizeLine:=by decide
  have z3:3≤sizeLine:=by decide
  have yl:=Paired.length pr
  refine seq_by (fun σ' H'=>σ'=[some (.ref a),some (.int n),some (.ref q),some (.int m),none,none]/\Same H H') ?nx1 fun N hN=>?st1
  case st1=>
   have rp:Rep K H (.ref a) (.list (rs.map tieD)):=.lst (SqL.of ha) (ties_reps pr)
   refine ⟨_,rfl,.ref a,"list",_,true,rfl,rp,rfl,_,rfl,ifF rfl ?_⟩
   refine ⟨_,rfl,z0,fun p0 hp0=>?_⟩
   have s1:Same H (upd H p0 (.lst [])):=Same.new hp0
   have rp1:Rep K (upd H p0 (.lst [])) (.ref a) (.list (rs.map tieD)):=.lst (SqL.of (s1 _ _ ha)) (ties_reps (ties_tk (Same.tk s1) pr))
   refine ⟨_,.list [],rp1,.lst (SqL.of upd_same) .nil,?_,_,rfl,ifF ?_ (hN _ _ ⟨rfl,s1⟩)⟩
   ·have:=ties_dep rs
    simp only [pdDep];omega
   ·cases rs with
    |nil=>exact absurd rfl R.ne
    |cons e t=>rfl
  rintro σ' H1 ⟨rfl,s1⟩
  refine seq_by (fun σ' H'=>∃ c bs,σ'=[some (.ref a),some (.int n),some (.ref q),some (.int m),some (.ref c),none]/\H' c=some (.lst bs)/\Paired (TieAt H') bs (bnds n m)/\Same H H') ?nx2 fun N hN=>?st2
  case st2=>
   refine ⟨_,rfl,_,rfl,by omega,by omega,?_⟩
   refine comp_range (n:=n) (fun i ys σ' H'=>∃ v,σ'=[v]/\Same H1 H'/\Paired (TieAt H') ys ((List.range i).map loT)) (Nat.le_trans hn (by decide)) ⟨none,rfl,Same.refl _,.nil⟩ ?_ ?_
   ·rintro i ys σ' H' hi hys ⟨v,rfl,s2,pe2⟩ N2 hN2
    refine ⟨_,rfl,_,rfl,z3,fun p hp=>?_⟩
    refine hN2 _ _ _ (by simp [hys]) ⟨_,rfl,s2.trans (Same.new hp),?_⟩
    rw [List.range_succ,List.map_append]
    refine Paired.snoc ⟨p,rfl,?_⟩ (ties_tk (Same.tk (Same.new hp)) pe2)
    rw [upd_same,Int.zero_add];rfl
   ·rintro ys' σ' H2 hys ⟨v,rfl,s2,pe2⟩
    have ly:=Paired.length pe2
    rw [List.length_map,List.length_range] at ly
    refine ⟨Nat.le_trans (Nat.le_of_eq ly) (Nat.le_trans hn (by decide)),fun q1 hq1=>?_⟩
    refine ⟨_,rfl,_,rfl,by omega,by omega,?_⟩
    refine comp_range (n:=n) (fun i zs σ' H'=>∃ v,σ'=[v,some (.int m)]/\Same (upd H2 q1 (.lst ys')) H'/\Paired (TieAt H') zs ((List.range i).map (hiT m))) (Nat.le_trans hn (by decide)) ⟨none,rfl,Same.refl _,.nil⟩ ?_ ?_
    ·rintro i zs σ' H' hi hzs ⟨v,rfl,s3,pz⟩ N2 hN2
     refine ⟨_,rfl,_,rfl,_,rfl,_,_,rfl,rfl,z3,fun p hp=>?_⟩
     refine hN2 _ _ _ (by simp [hzs]) ⟨_,rfl,s3.trans (Same.new hp),?_⟩
     rw [List.range_succ,List.map_append]
     refine Paired.snoc ⟨p,rfl,?_⟩ (ties_tk (Same.tk (Same.new hp)) pz)
     rw [upd_same,Int.zero_add];rfl
    ·rintro zs σ' H3 hzs ⟨v,rfl,s3,pz⟩
     have lz:=Paired.length pz
     rw [List.length_map,List.length_range] at lz
     refine ⟨Nat.le_trans (Nat.le_of_eq lz) (Nat.le_trans hn (by decide)),fun q2 hq2=>?_⟩
     refine ⟨q1,q2,ys',zs,rfl,rfl,Same.new hq2 _ _ (s3 _ _ upd_same),upd_same,Nat.le_trans (by omega:ys'.length+zs.length≤200) (by decide),fun q3 hq3=>?_⟩
     have s5:=s3.trans ((Same.new (o:=.lst zs) hq2).trans (Same.new (o:=.lst (ys'++zs)) hq3))
     refine hN _ _ ⟨q3,_,rfl,upd_same,Paired.app (ties_tk (Same.tk ((Same.new hq2).trans (Same.new hq3))) pz) (ties_tk (Same.tk ((Same.new hq1).trans s5)) pe2),s1.trans (s2.trans ((Same.new hq1).trans s5))⟩
  rintro σ' H2 ⟨c,bs,rfl,hc,pb,s2⟩
  clear s1 H1
  have ha2:=s2 _ _ ha
  have pr2:=ties_tk (Same.tk s2) pr
  have hq2:=s2.seq hq
  have pe2:=ties_tk (Same.tk s2) pe
  have ln:ys.length≤10:=by omega
  refine seq_by (fun σ' H'=>∃ d,σ'=[some (.ref a),some (.int n),some (.ref q),some (.int m),some (.ref c),some (.ref d)]/\H' d=some (.lst ((rs.map (·.1)).map V.int))/\Same H2 H') ?nx3 fun N hN=>?st3
  case st3=>
   refine ⟨_,rfl,a,rfl,⟨_,SqL.of ha2⟩,?_⟩
   refine comp_list (K:=K) (a:=a) (xs:=ys) (fun i zs σ' H'=>H'=H2/\(∃ v,σ'=[v])/\zs=((rs.take i).map fun e=>V.int e.1)) (Nat.le_trans ln (by decide)) ⟨rfl,⟨none,rfl⟩,rfl⟩ (fun i zs σ H' _ e=>by rw [e.1];exact SqL.of ha2) ?_ ?_
   ·rintro i x zs σ' H' hi hy ⟨rfl,⟨v,rfl⟩,rfl⟩ N2 hN2
    obtain ⟨e,he,b,rfl,hb⟩:=ties_get pr2 hi
    dsimp only [gName]
    refine EvE.op (EvE.var rfl) EvE.con (EvR.ixT (SqT.of hb) (atI_nat (j:=0) rfl)) _ ?_
    exact hN2 _ _ _ (by rw [List.length_append,hy];rfl) ⟨rfl,⟨_,rfl⟩,by rw [List.take_add_one,he,List.map_append];rfl⟩
   ·rintro zs σ' H' hy ⟨rfl,⟨v,rfl⟩,rfl⟩
    have el:rs.take ys.length=rs:=by rw [yl,List.take_length]
    rw [el]
    refine ⟨by rw [List.length_map];exact Nat.le_trans rl (by decide),fun d hd=>hN _ _ ⟨d,rfl,by rw [upd_same,List.map_map];rfl,Same.new hd⟩⟩
  rintro σ' H3 ⟨d,rfl,hd,s3⟩
  have S3:=s2.trans s3
  have ha3:=S3 _ _ ha
  have pr3:=ties_tk (Same.tk S3) pr
  have hq3:=S3.seq hq
  have pe3:=ties_tk (Same.tk S3) pe
  have hc3:=s3 _ _ hc
  have pb3:=ties_tk (Same.tk s3) pb
  clear ha2 pr2 hq2 pe2 hc pb s3 s2 H2
  refine seq_by (fun σ' H'=>σ'=[some (.ref a),some (.int n),some (.ref q),some (.int m),some (.ref c),some (.ref d)]/\Same H H') ?nx4 fun N hN=>?st4
  case st4=>
   refine ⟨_,rfl,d,rs.map (·.1),rfl,SqL.of hd,R.nd,by rw [List.length_map];omega,fun e4 he4=>?_⟩
   have s4:Same H3 (upd H3 e4 (setO P w e4 (rs.map (·.1)).length)):=Same.new he4
   refine ⟨e4,_,rfl,upd_same,_,rfl,d,_,rfl,.inl (SqL.of (s4 _ _ hd)),_,_,rfl,rfl,_,rfl,ifF (by simp) ?_⟩
   refine ⟨_,rfl,a,rfl,⟨_,SqL.of (s4 _ _ ha3)⟩,?_⟩
   refine comp_list (K:=K) (a:=a) (xs:=ys) (fun i zs σ' H'=>H'=upd H3 e4 (setO P w e4 (rs.map (·.1)).length)/\(∃ v,σ'=[v,some (.ref q),some (.ref c)])/\zs=((rs.take i).map fun _=>V.bl true)) (Nat.le_trans ln (by decide)) ⟨rfl,⟨none,rfl⟩,rfl⟩ (fun i zs σ H' _ e=>by rw [e.1];exact SqL.of (s4 _ _ ha3)) ?_ ?_
   ·rintro i x zs σ' H' hi hy ⟨rfl,⟨v,rfl⟩,rfl⟩ N2 hN2
    obtain ⟨e,he,b,rfl,hb⟩:=ties_get pr3 hi
    have ti:TieAt (upd H3 e4 (setO P w e4 (rs.map (·.1)).length)) (.ref b) e:=⟨b,rfl,s4 _ _ hb⟩
    have fin:∀ x,x=V.bl true->N2 (((rs.take i).map fun _=>V.bl true)++[x]) [some (.ref b),some (.ref q),some (.ref c)] (upd H3 e4 (setO P w e4 (rs.map (·.1)).length)):=by
     rintro x rfl
     exact hN2 _ _ _ (by rw [List.length_append,hy];rfl) ⟨rfl,⟨_,rfl⟩,by rw [List.take_add_one,he,List.map_append];rfl⟩
    refine ⟨_,rfl,_,rfl,q,xs,es,e,rfl,s4.seq hq3,ties_tk (Same.tk s4) pe3,ti,_,rfl,ite2 (fun _=>fin _ rfl) (fun hne=>?_)⟩
    have hb':e∈bnds n m:=by
     rcases List.mem_append.mp (hin e (List.mem_of_getElem? he)) with h|h
     ·exact absurd (decide_eq_true h) hne
     ·exact h
    exact ⟨_,rfl,_,rfl,c,bs,_,e,rfl,SqL.of (s4 _ _ hc3),ties_tk (Same.tk s4) pb3,ti,fin _ (by rw [decide_eq_true hb'])⟩
   ·rintro zs σ' H' hy ⟨rfl,⟨v,rfl⟩,rfl⟩
    refine ⟨by rw [hy];exact Nat.le_trans ln (by decide),fun b hb=>?_⟩
    refine ⟨b,(rs.take ys.length).map fun _=>true,rfl,SqL.of (by rw [upd_same,List.map_map];rfl),_,rfl,ifF ?_ (hN _ _ ⟨rfl,S3.trans (s4.trans (Same.new hb))⟩)⟩
    dsimp only
    rw [List.all_map]
    simp
  rintro σ' H4 ⟨rfl,S4⟩
  clear ha3 pr3 hq3 pe3 hc3 pb3 hd S3 H3
  have ha4:=S4 _ _ ha
  have pr4:=ties_tk (Same.tk S4) pr
  refine seq_by (fun σ' H'=>σ'=[some (.ref a),some (.int n),some (.ref q),some (.int m),some (.ref c),some (.ref d)]/\Same H H') ?nx5 fun N hN=>?st5
  case st5=>
   refine ⟨_,rfl,a,_,rfl,.inl (SqL.of ha4),_,rfl,by omega,by omega,?_⟩
   refine comp_range (n:=ys.length) (fun i zs σ' H'=>(∃ v,σ'=[v,some (.ref a)])/\H4=H'/\zs=(List.replicate i (V.bl false))) (Nat.le_trans ln (by decide)) ⟨⟨none,rfl⟩,rfl,rfl⟩ ?_ ?_
   ·rintro i zs σ' H' hi hzs ⟨⟨v,rfl⟩,rfl,rfl⟩ N2 hN2
    obtain ⟨b1,b2,e1,e2,a1,g1,a2,g2,ee⟩:=ring_at pr4 R (i:=i) (by omega)
    dsimp only [gName]
    refine EvE.op (EvE.op (EvE.op (EvE.var rfl) (EvE.op (EvE.var rfl) EvE.con EvR.i0) (EvR.ixL (SqL.of ha4) a1)) EvE.con (EvR.ixT (SqT.of g1) (atI_nat (j:=1) rfl))) (EvE.op (EvE.op (EvE.var rfl) (EvE.var rfl) (EvR.ixL (SqL.of ha4) a2)) EvE.con (EvR.ixT (SqT.of g2) (atI_nat (j:=0) rfl))) (EvR.ne rfl) _ ?_
    refine hN2 _ _ _ (by rw [List.length_append,hzs];rfl) ⟨⟨_,rfl⟩,rfl,?_⟩
    rw [List.replicate_succ',ee]
    simp
   ·rintro zs σ' H' hzs ⟨⟨v,rfl⟩,rfl,rfl⟩
    refine ⟨by rw [List.length_replicate];exact Nat.le_trans ln (by decide),fun b hb=>?_⟩
    refine ⟨b,List.replicate ys.length false,rfl,SqL.of (by rw [upd_same,List.map_replicate]),_,rfl,ifF ?_ (hN _ _ ⟨rfl,S4.trans (Same.new hb)⟩)⟩
    dsimp only
    rw [List.any_eq_false]
    intro x hx
    rw [List.eq_of_mem_replicate hx]
    decide
  rintro σ' H5 ⟨rfl,S5⟩
  have ha5:=S5 _ _ ha
  have pr5:=ties_tk (Same.tk S5) pr
  clear ha4 pr4 S4 H4
  refine ⟨_,rfl,a,rfl,⟨_,SqL.of ha5⟩,?_⟩
  refine comp_list (K:=K) (a:=a) (xs:=ys) (fun i zs σ' H'=>H'=H5/\(∃ v,σ'=[v])/\zs=((rs.take i).map fun e=>V.int e.2.2)) (Nat.le_trans ln (by decide)) ⟨rfl,⟨none,rfl⟩,rfl⟩ (fun i zs σ H' _ e=>by rw [e.1];exact SqL.of ha5) ?_ ?_
  ·rintro i x zs σ' H' hi hy ⟨rfl,⟨v,rfl⟩,rfl⟩ N2 hN2
   obtain ⟨e,he,b,rfl,hb⟩:=ties_get pr5 hi
   dsimp only [gName]
   refine EvE.op (EvE.var rfl) EvE.con (EvR.ixT (SqT.of hb) (atI_nat (j:=2) rfl)) _ ?_
   exact hN2 _ _ _ (by rw [List.length_append,hy];rfl) ⟨rfl,⟨_,rfl⟩,by rw [List.take_add_one,he,List.map_append];rfl⟩
  ·rintro zs σ' H' hy ⟨rfl,⟨v,rfl⟩,rfl⟩
   have el:rs.take ys.length=rs:=by rw [yl,List.take_length]
   rw [el]
   refine ⟨by rw [List.length_map];exact Nat.le_trans rl (by decide),fun b hb=>?_⟩
   have s6:Same H' (upd H' b (.lst (rs.map fun e=>V.int e.2.2))):=Same.new hb
   refine ⟨b,rs.map (·.2.2),rfl,SqL.of (by rw [upd_same,List.map_map];rfl),by rw [List.length_map];omega,?_,_,_,rfl,rfl,_,rfl,ifT (by simpa using R.pos) ?_⟩
   ·intro x hx
    obtain ⟨e,he,rfl⟩:=List.mem_map.mp hx
    exact rb e he
   refine ⟨_,rfl,a,rfl,⟨_,SqL.of (s6 _ _ ha5)⟩,?_⟩
   refine comp_list (K:=K) (a:=a) (xs:=ys) (fun i zs σ' H''=>H''=upd H' b (.lst (rs.map fun e=>V.int e.2.2))/\(∃ v,σ'=[v])/\zs=((rs.take i).map fun _=>V.bl true)) (Nat.le_trans ln (by decide)) ⟨rfl,⟨none,rfl⟩,rfl⟩ (fun i zs σ H'' _ e=>by rw [e.1];exact SqL.of (s6 _ _ ha5)) ?_ ?_
   ·rintro i x zs σ' H'' hi hy ⟨rfl,⟨v,rfl⟩,rfl⟩ N2 hN2
    obtain ⟨e,he,b',rfl,hb'⟩:=ties_get pr5 hi
    have rp:Rep K (upd H' b (.lst (rs.map fun e=>V.int e.2.2))) (.ref b') (tieD e):=tie_rep ⟨b',rfl,s6 _ _ hb'⟩
    refine ⟨_,rfl,.ref b',"tuple",_,true,rfl,rp,rfl,?_⟩
    exact hN2 _ _ _ (by rw [List.length_append,hy];rfl) ⟨rfl,⟨_,rfl⟩,by rw [List.take_add_one,he,List.map_append];rfl⟩
   ·rintro zs σ' H'' hy ⟨rfl,⟨v,rfl⟩,rfl⟩
    refine ⟨by rw [hy];exact Nat.le_trans ln (by decide),fun b' hb'=>?_⟩
    refine ⟨b',(rs.take ys.length).map fun _=>true,rfl,SqL.of (by rw [upd_same,List.map_map];rfl),?_⟩
    dsimp only
    rw [List.all_map]
    have:=k _ (S5.trans (s6.trans (Same.new (o:=.lst ((rs.take ys.length).map fun _=>V.bl true)) hb')))
    have et:((rs.take ys.length).all (id ∘ fun _=>true))=true:=List.all_eq_true.mpr fun _ _=>rfl
    rw [et]
    exact this
end
theorem inB_at {m:Int} {r:List Int} (h:inB m r=true) {i:Nat} (hi:i<r.length):0≤r.getD i 0/\r.getD i 0≤m:=by
 unfold inB at h
 rw [List.all_eq_true] at h
 have:=h r[i] (List.getElem_mem hi)
 rw [Bool.and_eq_true,decide_eq_true_eq,decide_eq_true_eq] at this
 rw [List.getD_eq_getElem?_getD,List.getElem?_eq_getElem hi]
 exact this
def rowOf (n:Nat) (h:Int->Int):List Int:=(List.range n).map fun i:Nat=>h i
theorem rowOf_at {n:Nat} {h:Int->Int} {i:Nat} (hi:i<n):(rowOf n h).getD i 0=h i:=by
 unfold rowOf
 rw [List.getD_eq_getElem?_getD,List.getElem?_map,List.getElem?_range hi]
 rfl
theorem row_in {m:Nat} {h:Int->Int}:∀ n:Nat,(∀ i:Nat,i<n->0≤h i/\h i<m)->rowOf n h∈allR m n
 |0,_=>by simp [rowOf,allR]
 | n+1,b=>by
   refine List.mem_flatMap.mpr ⟨rowOf n h,row_in n fun i hi=>b i (by omega),?_⟩
   have hb:=b n (Nat.lt_succ_self n)
   refine List.mem_map.mpr ⟨(h n).toNat,List.mem_range.mpr (by omega),?_⟩
   unfold rowOf
   rw [List.range_succ,List.map_append,Int.toNat_of_nonneg hb.1]
   rfl
theorem least_row {es:List Tie} {n t:Nat} {h:Int->Int} (ok:∀ e∈es,OkTie n e) (L:Bf.Least (allT es n t) h):rowOf n h∈allR (t+1) n/\meetsB es (rowOf n h) t=true:=by
 have g0:=ground ok L
 have bd:∀ i:Nat,i<n->0≤h i/\h i≤t:=fun i hi=>by
  have h1:=L.nn i
  have h2:=L.sat (hiT t i) (List.mem_append.mpr (.inr (List.mem_append.mpr (.inr (List.mem_map.mpr ⟨i,List.mem_range.mpr hi,rfl⟩)))))
  have h3:h (i:Int)+(0-(t:Int))≤h (-1):=h2
  omega
 refine ⟨row_in n fun i hi=>by have:=bd i hi;omega,?_⟩
 unfold meetsB
 rw [Bool.and_eq_true,List.all_eq_true]
 constructor
 ·unfold inB
  rw [List.all_eq_true]
  intro x hx
  obtain ⟨i,hi,rfl⟩:=List.mem_map.mp hx
  have:=bd i (List.mem_range.mp hi)
  simp [this.1,this.2]
 ·intro e he
  have o:=ok e he
  have h2:h e.2.1+e.2.2≤h e.1:=L.sat e (List.mem_append.mpr (.inl he))
  unfold tieB
  have o1:=o.o
  have o2:=o.t
  have e1:(rowOf n h).getD e.1.toNat 0=h e.1:=by rw [rowOf_at (by omega),Int.toNat_of_nonneg o1.1]
  have e2:(rowOf n h).getD e.2.1.toNat 0=h e.2.1:=by rw [rowOf_at (by omega),Int.toNat_of_nonneg o2.1]
  rw [decide_eq_true_eq,e1,e2]
  exact h2
def g21:List Value->List Value->List Value
 |[a,b],[c]=>[a,b,c]
 |_,_=>[]
def gV21:List V->List V->List V
 |[a,b],[c]=>[a,b,c]
 |_,_=>[]
section
variable {P:Program} {w:World} {K:PySem.W.Frag} {mg:Str->Option Value} {base:Heap}
theorem kb21 {x:Str} {st:Stmt} {f:Addr} {fd:FuncData} (F:Fun K x x st f fd) (h:∀ (kV doc pm:Value) (an:Option Addr) (cdv ct a b c:Value),bindArgs (PySem.W.fnOf x x (defArgs st) (defBody st) (defScope st) .none kV doc pm an cdv ct) ⟨[a,b],[("most",c)]⟩=pure (([("lanes" : Str),"ties","most"]:List Str).zip [a,b,c])) :
 KBinds K fd ["lanes","ties","most"] ["most"] g21 gV21:=by
 obtain ⟨oc,od,kV,doc,pm,an,cdv,ct,osl,rfl,lk,hcd⟩:=F.ex
 refine ⟨fun s us ws X hl=>?_,fun {vs us zs ws} r rz=>?_⟩
 ·match us,ws,hl with
  |[a,b],[c],_=>exact .of_eq (h kV doc pm an cdv ct a b c)
  |[],_,z=>simp [g21] at z
  |[_],_,z=>simp [g21] at z
  |[_,_],[],z=>simp [g21] at z
  |[_,_],_::_::_,z=>simp [g21] at z
  |_::_::_::_,_,z=>simp [g21] at z
 ·cases r with
  |nil=>exact .nil
  | cons r1 r=>
    cases r with
    |nil=>exact .nil
    | cons r2 r=>
      cases r with
      |cons r3 r=>exact .nil
      | nil=>
        cases rz with
        |nil=>exact .nil
        | cons z1 z=>
          cases z with
          |cons z2 z=>exact .nil
          |nil=>exact .cons r1 (.cons r2 (.cons z1 .nil))
def g31:List Value->List Value->List Value
 |[a,b,c],[d]=>[a,b,c,d]
 |_,_=>[]
def gV31:List V->List V->List V
 |[a,b,c],[d]=>[a,b,c,d]
 |_,_=>[]
theorem kb31 {x:Str} {st:Stmt} {f:Addr} {fd:FuncData} (F:Fun K x x st f fd) (h:∀ (kV doc pm:Value) (an:Option Addr) (cdv ct a b c d:Value),bindArgs (PySem.W.fnOf x x (defArgs st) (defBody st) (defScope st) .none kV doc pm an cdv ct) ⟨[a,b,c],[("most",d)]⟩=pure (([("lanes" : Str),"ties","row","most"]:List Str).zip [a,b,c,d])) :
 KBinds K fd ["lanes","ties","row","most"] ["most"] g31 gV31:=by
 obtain ⟨oc,od,kV,doc,pm,an,cdv,ct,osl,rfl,lk,hcd⟩:=F.ex
 refine ⟨fun s us ws X hl=>?_,fun {vs us zs ws} r rz=>?_⟩
 ·match us,ws,hl with
  |[a,b,c],[d],_=>exact .of_eq (h kV doc pm an cdv ct a b c d)
  |[],_,z=>simp [g31] at z
  |[_],_,z=>simp [g31] at z
  |[_,_],_,z=>simp [g31] at z
  |[_,_,_],[],z=>simp [g31] at z
  |[_,_,_],_::_::_,z=>simp [g31] at z
  |_::_::_::_::_,_,z=>simp [g31] at z
 ·cases r with
  |nil=>exact .nil
  | cons r1 r=>
    cases r with
    |nil=>exact .nil
    | cons r2 r=>
      cases r with
      |nil=>exact .nil
      | cons r3 r=>
        cases r with
        |cons r4 r=>exact .nil
        | nil=>
          cases rz with
          |nil=>exact .nil
          | cons z1 z=>
            cases z with
            |cons z2 z=>exact .nil
            |nil=>exact .cons r1 (.cons r2 (.cons r3 (.cons z1 .nil)))
end
theorem all_far {es:List Tie} {n:Nat} {m:Int} (m0:0≤m) (m1:m≤1000000000000) (ok:∀ e∈es,OkTie n e):∀ e∈allT es n m,-10000000000000≤e.2.2/\e.2.2≤10000000000000:=fun e he=>by
 rcases memT.mp he with he|he
 ·have:=(ok e he).l
  omega
 ·obtain ⟨i,hi,rfl|rfl⟩:=bnds_cases he
  ·show -10000000000000≤(0:Int)/\(0:Int)≤10000000000000
   omega
  ·show -10000000000000≤0-m/\0-m≤10000000000000
   omega
def ToldAt (es:List Tie) (n:Nat) (m:Int) (H:Hp) (v:V):Prop:=(v=.non/\∃ h,Bf.Least (allT es n m) h)∨(∃ a ys rs,v=.ref a/\H a=some (.lst ys)/\Paired (TieAt H) ys rs/\Bf.Ring rs/\(∀ e∈rs,e∈allT es n m)/\rs.length≤n+1)
theorem ints_dep (r:List Int):pdDeps (r.map PyData.int)=0:=by
 induction r with
 |nil=>rfl
 |cons x r ih=>rw [List.map_cons];simp [pdDeps,pdDep,ih]
def tgt (ns bs:List Int) (e:Tie):Bool:=decide (e.2.1∈bs) && decide (ns.getD e.1.toNat 0=ns.getD e.2.1.toNat 0+e.2.2)
def tights (ns:List Int) (es:List Tie) (bs:List Int):List Int:=(es.filter (tgt ns bs)).map (·.1)
structure Br (n:Nat) (ns:List Int) (es:List Tie) (i:Nat) (bs:List Int):Prop where
 inr:∀ x∈bs,0≤x/\x<n
 nd:bs.Nodup
 up:bs.Pairwise (·≤·)
 zero:∀ j:Nat,j<n->ns.getD j 0=0->(j:Int)∈bs
 go:(∀ e∈es,tgt ns bs e=true->e.1∈bs)∨i≤bs.length
theorem Br.len {n:Nat} {ns:List Int} {es:List Tie} {i:Nat} {bs:List Int} (B:Br n ns es i bs):bs.length≤n:=Bf.nodup_len n 0 bs B.nd fun x hx=>by have:=B.inr x hx;omega
theorem Br.next {n:Nat} {ns:List Int} {es:List Tie} {i:Nat} {bs ms:List Int} (B:Br n ns es i bs) (ok:∀ e∈es,OkTie n e) (hp:ms.Perm (dd (bs++tights ns es bs))) (hs:ms.Pairwise (·≤·)):Br n ns es (i+1) ms:=by
 have mm:∀ x,x∈ms↔x∈bs∨∃ e∈es,tgt ns bs e=true/\e.1=x:=fun x=>by
  rw [hp.mem_iff,dd_mem,List.mem_append]
  unfold tights
  rw [List.mem_map]
  simp only [List.mem_filter,and_assoc]
 have nd:ms.Nodup:=hp.nodup_iff.mpr (dd_nodup _)
 refine ⟨fun x hx=>?_,nd,hs,fun j hj z=>(mm _).mpr (.inl (B.zero j hj z)),?_⟩
 ·rcases (mm x).mp hx with h|⟨e,he,_,rfl⟩
  ·exact B.inr x h
  ·exact (ok e he).o
 ·by_cases c:∀ e∈es,tgt ns bs e=true->e.1∈bs
  ·have mb:∀ x,x∈ms↔x∈bs:=fun x=>by
    rw [mm]
    exact ⟨fun h=>h.elim id fun ⟨e,he,t,q⟩=>q ▸ c e he t,.inl⟩
   refine .inl fun e he t=>(mb _).mpr (c e he ?_)
   unfold tgt at t ⊢
   simpa only [mb] using t
  ·refine .inr ?_
   have c':∃ e∈es,tgt ns bs e=true/\e.1∉bs:=Classical.byContradiction fun z=>c fun e he t=>Classical.byContradiction fun q=>z ⟨e,he,t,q⟩
   obtain ⟨e,he,t,q⟩:=c'
   have l1:i≤bs.length:=B.go.resolve_left c
   have l2:=List.Nodup.length_le_of_subset (l₁:=e.1::bs) (l₂:=ms) (List.nodup_cons.mpr ⟨q,B.nd⟩) fun x hx=>by
    rcases List.mem_cons.mp hx with rfl|hx
    ·exact (mm _).mpr (.inr ⟨e,he,t,rfl⟩)
    ·exact (mm _).mpr (.inl hx)
   rw [List.length_cons] at l2
   omega
theorem Br.all {n:Nat} {m:Int} {es:List Tie} {bs:List Int} {h:Int->Int} (B:Br n (rowOf n h) es n bs) (ok:∀ e∈es,OkTie n e) (L:Bf.Least (allT es n m) h):∀ j:Nat,j<n->(j:Int)∈bs:=by
 have gr:=ground ok L
 have ro:∀ x:Int,0≤x->x<n->(rowOf n h).getD x.toNat 0=h x:=fun x h0 h1=>by
  rw [rowOf_at (by omega)]
  congr 1
  omega
 intro j hj
 refine Classical.byContradiction fun hn=>?_
 rcases B.go with c|c
 ·have:=L.le (fun v=>if 0≤v/\v<n/\v∉bs then h v-1 else h v) (fun v=>?_) (fun e he=>?_) j
  ·rw [if_pos ⟨by omega,by omega,hn⟩] at this
   omega
  ·split
   ·rename_i q
    have h0:=L.nn v
    have:h v≠0:=fun z=>q.2.2 (by
     have:=B.zero v.toNat (by omega) (by rw [ro v q.1 q.2.1];exact z)
     rwa [Int.toNat_of_nonneg q.1] at this)
    omega
   ·exact L.nn v
  ·have hs:=L.sat e he
   unfold Bf.Sat at hs ⊢
   dsimp only
   have le:∀ v:Int,(if 0≤v/\v<n/\v∉bs then h v-1 else h v)≤h v:=fun v=>by split <;> omega
   by_cases q:0≤e.1/\e.1<n/\e.1∉bs
   ·rw [if_pos q]
    rcases memT.mp he with he|he
    ·have o:=ok e he
     by_cases q2:e.2.1∈bs
     ·rw [if_neg (fun z=>z.2.2 q2)]
      have:h e.1≠h e.2.1+e.2.2:=fun z=>q.2.2 (c e he (by
       unfold tgt
       rw [ro _ o.o.1 o.o.2,ro _ o.t.1 o.t.2]
       simp [q2,z]))
      omega
     ·rw [if_pos ⟨o.t.1,o.t.2,q2⟩]
      omega
    ·obtain ⟨i,hi,rfl|rfl⟩:=bnds_cases he
     ·rw [show (loT i).2.1=-1 from rfl,show (loT i).2.2=0 from rfl,show (loT i).1=(i:Int) from rfl,if_neg (by omega)]
      simp only [loT] at q
      have:h i≠0:=fun z=>q.2.2 (B.zero i hi (by rw [rowOf_at hi];exact z))
      have:=L.nn i
      omega
     ·simp only [hiT] at q
      omega
   ·rw [if_neg q]
    have:=le e.2.1
    omega
 ·have:=Bf.nodup_len n 0 ((j:Int)::bs) (List.nodup_cons.mpr ⟨hn,B.nd⟩) fun x hx=>by
   rcases List.mem_cons.mp hx with rfl|hx
   ·omega
   ·have:=B.inr x hx;omega
  rw [List.length_cons] at this
  omega
theorem Br.whole {n:Nat} {m:Int} {es:List Tie} {bs:List Int} {h:Int->Int} (B:Br n (rowOf n h) es n bs) (ok:∀ e∈es,OkTie n e) (L:Bf.Least (allT es n m) h):bs=(List.range n).map fun i:Nat=>(i:Int):=by
 refine List.Perm.eq_of_pairwise (le:=(·≤·)) (fun a b _ _=>Int.le_antisymm) B.up ?_ ?_
 ·rw [List.pairwise_map]
  exact List.Pairwise.imp (fun h=>by omega) List.pairwise_lt_range
 ·refine (List.perm_ext_iff_of_nodup B.nd ?_).mpr fun x=>⟨fun hx=>?_,fun hx=>?_⟩
  ·rw [List.Nodup,List.pairwise_map]
   exact List.Pairwise.imp (fun h=>by omega) List.pairwise_lt_range
  ·have:=B.inr x hx
   exact List.mem_map.mpr ⟨x.toNat,List.mem_range.mpr (by omega),by omega⟩
  ·obtain ⟨j,hj,rfl⟩:=List.mem_map.mp hx
   exact B.all ok L j (List.mem_range.mp hj)
section
variable {P:Program} {w:World} {K:PySem.W.Frag} {mg:Str->Option Value} {base:Heap}
def spBr (K:PySem.W.Frag):Sp:=fun vs H Q _=>∃ (r q:Addr) (n:Nat) (m:Int) (xs:List V) (es:List Tie) (h:Int->Int),vs=[.ref r,.ref q]/\SqL K H r ((rowOf n h).map V.int)/\SqL K H q xs/\Paired (TieAt H) xs es/\(∀ e∈es,OkTie n e)/\Bf.Least (allT es n m) h/\n≤6/\es.length≤16/\∀ H',Same H H'->Q (.bl true) H'
abbrev NBr:List Str:=["_law_row","_law_ties_here","_law_borne_here","_law_step","_law_tight"]
theorem scBr:FnScope NBr ["_law_row","_law_ties_here"] (defScope (top 29)):=⟨rfl,rfl,rfl,by decide +kernel,rfl,by decide +kernel,by decide +kernel⟩
theorem ints_flat (ns:List Int):(ns.map V.int).all flatV=true:=by rw [List.all_map];simp [flatV]
theorem in_ints (x:Int) (ns:List Int):inV (.int x) (ns.map V.int)=decide (x∈ns):=by
 unfold inV
 rw [List.any_map]
 have e:((fun y=>eqV y (V.int x)) ∘ V.int)=fun y=>decide (x=y):=by
  funext y
  show (y == x)=decide (x=y)
  rw [Bool.eq_iff_iff]
  simp only [beq_iff_eq,decide_eq_true_eq]
  exact eq_comm
 rw [e]
 induction ns with
 |nil=>rfl
 |cons a r ih=>simp only [List.any_cons,ih,List.mem_cons];simp
theorem ok_br {f:Addr} {fd:FuncData} (F:Fun K "_law_borne" "_law_borne" (top 29) f fd) (T:Txt K mg) (hset:mg "set" = none) (hso:mg "sorted" = none):FnOk P w K mg base CX0 1 f fd ["_law_row","_law_ties_here"] (spBr K):=by
 refine F.ok scBr (fun vs H Q E h=>?_) (fun cdv A outer s H vs Q E hr h=>?_)
 ·obtain ⟨r,q,n,m,xs,es,h,rfl,_⟩:=h
  rfl
 ·obtain ⟨r,q,n,m,xs,es,h,rfl,hR,hq,pe,ok,L,n6,el,k⟩:=h
  refine ⟨_,(pss_cons
   (ps_set (i:=2) scBr.nd rfl (by first|exact Or.inl rfl|exact Or.inr rfl) (pe_comp (g:=gName 0) (own:=["_law_lane"]) (js:=[0]) (N':=["_law_lane","_law_row"]) (CompScope.of (osc:=defScope (top 29)) (N:=NBr) rfl rfl ⟨rfl,by decide +kernel,by decide +kernel,by decide +kernel,rfl,by decide +kernel⟩) rfl (pi_range1 rfl T.range (pa_cons (pe_callB call_len_seq (by rfl) T.len bt_len (pa_cons (pv 0) pa_nil)) pa_nil)) (fun _ _ _ _ _=>(pg_name (i:=0) (show List.Nodup (["_law_lane","_law_row"]:List Str) by decide +kernel) rfl (Or.inl rfl) (Or.inr rfl)))
    (fun _ _ _ _ _=>pifs_one (pt_cmpR op_eq (pe_ix (r:=rIx K) ix_seq (pv 1) (pv 0) (fun _ _=>rfl)) pe_int (nomark _))) (fun _ _ _ _ _=>pv 0)))
   (pss_cons
   (ps_for PassesOwn.never rfl (pi_range1 rfl T.range (pa_cons (pe_callB call_len_seq (by rfl) T.len bt_len (pa_cons (pv 0) pa_nil)) pa_nil)) (pg_name (i:=3) scBr.nd rfl (by first|exact Or.inl rfl|exact Or.inr rfl)) (pss_cons
    (ps_setComp (g:=gT3 K) (i:=4) (own:=["_law_one","_law_other","_law_least"]) (js:=[2,0]) (N':=["_law_one","_law_other","_law_least","_law_borne_here","_law_row"]) (CompScope.of (osc:=defScope (top 29)) (N:=NBr) rfl rfl ⟨rfl,by decide +kernel,by decide +kernel,by decide +kernel,rfl,by decide +kernel⟩) rfl scBr.nd rfl rfl (pi_list (pv 1))
     (fun _ _ _ _ _=>(pg_tup rfl (pgs_cons (pg_name (i:=0) (show List.Nodup (["_law_one","_law_other","_law_least","_law_borne_here","_law_row"]:List Str) by decide +kernel) rfl (Or.inl rfl) (Or.inr rfl)) (pgs_cons (pg_name (i:=1) (show List.Nodup (["_law_one","_law_other","_law_least","_law_borne_here","_law_row"]:List Str) by decide +kernel) rfl (Or.inl rfl) (Or.inr rfl)) (pgs_cons (pg_name (i:=2) (show List.Nodup (["_law_one","_law_other","_law_least","_law_borne_here","_law_row"]:List Str) by decide +kernel) rfl (Or.inl rfl) (Or.inr rfl)) pgs_nil)))))
     (fun _ _ _ _ _=>pifs_one (PW.pt (pw_and (pt_cmpR (r:=rIn K false) op_in_seq (pv 1) (pv 3) rfl) (pw_and1 (pt_cmpR op_eq (pe_ix (r:=rIx K) ix_seq (pv 4) (pv 0) (fun _ _=>rfl)) (pe_op op_add (pe_ix (r:=rIx K) ix_seq (pv 4) (pv 1) (fun _ _=>rfl)) (pv 2)) (nomark _)))))) (fun _ _ _ _ _=>pv 0))
    (pss_one (ps_set (i:=2) scBr.nd rfl (by first|exact Or.inl rfl|exact Or.inr rfl) (pe_callB (call_sortedS rfl) (by rfl) hso bt_sorted (pa_cons (pe_callTy (call_setI rfl) (by rfl) hset bt_set (pa_cons (pe_op op_cat (pv 2) (pv 4)) pa_nil)) pa_nil))))))
   (pss_one (ps_ret (pe_cmpR (r:=rEqD K) (op_eqD hr.units) (pv 2) (pe_callTy (call_listR rfl) (by rfl) T.list bt_list (pa_cons (pe_callTy call_rangeO (by rfl) T.range bt_range (pa_cons (pe_callB call_len_seq (by rfl) T.len bt_len (pa_cons (pv 0) pa_nil)) pa_nil)) pa_nil)) (nomark _)))))),?_⟩
  have rl:(rowOf n h).length=n:=by unfold rowOf;simp
  have tl:=Paired.length pe
  generalize eR:rowOf n h=ns at hR rl
  refine seq_by (fun σ' H'=>∃ b bs,σ'=[some (.ref r),some (.ref q),some (.ref b),none,none]/\Same H H'/\H' b=some (.lst (bs.map V.int))/\Br n ns es 0 bs) ?nx1 fun N hN=>?st1
  case st1=>
   refine ⟨_,rfl,r,_,rfl,.inl hR,?_⟩
   rw [List.length_map,rl]
   refine ⟨_,rfl,by omega,by omega,?_⟩
   rw [Int.toNat_natCast]
   refine comp_rangeF (lo:=0) (n:=n) (fun i ys σ' H'=>(∃ v,σ'=[v,some (.ref r)])/\H'=H/\ys=((((List.range i).filter fun j=>decide (ns.getD j 0=0)).map fun j:Nat=>(j:Int)).map V.int)) (Nat.le_trans n6 (by decide)) ⟨⟨none,rfl⟩,rfl,rfl⟩ ?_ ?_
   ·rintro i ys σ' H' hi ⟨⟨v,rfl⟩,rfl,rfl⟩ M hM
    dsimp only [gName]
    refine EvE.op (EvE.op (EvE.var rfl) (EvE.var rfl) (EvR.ixL hR (row_at (by omega) (by omega)))) EvE.con (EvR.eq rfl) _ ⟨_,rfl,?_⟩
    rw [Int.zero_add,Int.toNat_natCast]
    refine ite2 (fun z=>?_) (fun z=>?_)
    ·refine ⟨_,rfl,hM _ _ _ ⟨⟨_,rfl⟩,rfl,?_⟩ (by simp)⟩
     have z':ns.getD i 0=0:=by simpa using z
     rw [List.range_succ,List.filter_append,List.map_append,List.map_append,List.filter_cons_of_pos (by simpa using z')]
     rfl
    ·refine hM _ _ _ ⟨⟨_,rfl⟩,rfl,?_⟩ (by omega)
     have z':¬ ns.getD i 0=0:=by simpa using z
     rw [List.range_succ,List.filter_append,List.filter_cons_of_neg (by simpa using z')]
     simp
   ·rintro ys σ' H' hy ⟨⟨v,rfl⟩,rfl,rfl⟩
    refine ⟨Nat.le_trans (Nat.le_trans hy n6) (by decide),fun l hl=>?_⟩
    refine hN _ _ ⟨l,_,rfl,Same.new hl,upd_same,⟨fun x hx=>?_,?_,?_,fun j hj z=>?_,.inr (Nat.zero_le _)⟩⟩
    ·obtain ⟨j,hj,rfl⟩:=List.mem_map.mp hx
     have:=List.mem_range.mp (List.mem_filter.mp hj).1
     omega
    ·rw [List.Nodup,List.pairwise_map]
     exact List.Pairwise.imp (fun h=>by omega) (List.pairwise_lt_range.filter _)
    ·rw [List.pairwise_map]
     exact List.Pairwise.imp (fun h=>by omega) (List.pairwise_lt_range.filter _)
    ·exact List.mem_map.mpr ⟨j,List.mem_filter.mpr ⟨List.mem_range.mpr hj,by simpa using z⟩,rfl⟩
  rintro σ' H1 ⟨b,bs,rfl,s1,hb,B⟩
  refine ⟨_,rfl,r,_,rfl,.inl (s1.seq hR),?_⟩
  rw [List.length_map,rl]
  refine ⟨_,rfl,by omega,by omega,for_range (n:=n) (fun i σ' H'=>∃ b bs v3 v4,σ'=[some (.ref r),some (.ref q),some (.ref b),v3,v4]/\Same H H'/\H' b=some (.lst (bs.map V.int))/\Br n ns es i bs) ⟨b,bs,_,_,rfl,s1,hb,B⟩ ?_ ?_⟩
  ·rintro i σ' H2 hi ⟨b,bs,v3,v4,rfl,s2,hb,B⟩
   dsimp only [gName]
   refine seq_by (fun σ' H'=>∃ t,σ'=[some (.ref r),some (.ref q),some (.ref b),some (.int (0+i)),some (.ref t)]/\Same H2 H'/\H' t=some (.lst ((tights ns es bs).map V.int))) ?nx2 fun N hN=>?st2
   case st2=>
    have hq2:=s2.seq hq
    have pe2:=ties_tk (Same.tk s2) pe
    have hR2:=s2.seq hR
    refine ⟨_,rfl,q,rfl,⟨_,hq2⟩,?_⟩
    refine comp_listF (K:=K) (a:=q) (xs:=xs) (fun j ys σ' H'=>H'=H2/\(∃ v0 v1 v2,σ'=[v0,v1,v2,some (.ref b),some (.ref r)])/\ys=(tights ns (es.take j) bs).map V.int) (Nat.le_trans (show xs.length≤16 by omega) (by decide)) ⟨rfl,⟨none,none,none,rfl⟩,rfl⟩ (fun j ys σ H' _ e=>by rw [e.1];exact hq2) ?_ ?_
    ·rintro j x ys σ' H' hj ⟨rfl,⟨v0,v1,v2,rfl⟩,rfl⟩ M hM
     obtain ⟨e,he,b',rfl,hb'⟩:=ties_get pe2 hj
     have o:=ok e (List.mem_of_getElem? he)
     have et:tights ns (es.take (j+1)) bs=tights ns (es.take j) bs++(if tgt ns bs e=true then [e.1] else []):=by
      unfold tights
      rw [List.take_succ,he,List.filter_append,List.map_append]
      congr 1
      by_cases z:tgt ns bs e=true
      ·simp [z]
      ·simp [z]
     refine ⟨b',_,rfl,SqT.of hb',rfl,_,_,rfl,_,_,rfl,_,_,rfl,rfl,?_⟩
     refine ⟨_,rfl,_,rfl,b,bs.map V.int,rfl,.inl (SqL.of hb),rfl,ints_flat bs,_,rfl,?_⟩
     refine ite2 (fun z=>?_) (fun z=>?_)
     ·have z':e.2.1∈bs:=by
       have z2:inV (.int e.2.1) (bs.map V.int)=true:=z
       rw [in_ints] at z2
       exact of_decide_eq_true z2
      refine EvE.op (EvE.op (EvE.var rfl) (EvE.var rfl) (EvR.ixL hR2 (row_at o.o.1 (by rw [rl];exact o.o.2)))) (EvE.op (EvE.op (EvE.var rfl) (EvE.var rfl) (EvR.ixL hR2 (row_at o.t.1 (by rw [rl];exact o.t.2)))) (EvE.var rfl) EvR.i0) (EvR.eq rfl) _ ⟨_,rfl,ite2 (fun z2=>?_) (fun z2=>?_)⟩
      ·have t1:tgt ns bs e=true:=by
        unfold tgt
        simpa [z'] using z2
       refine ⟨_,rfl,hM _ _ _ ⟨rfl,⟨_,_,_,rfl⟩,?_⟩ (by simp)⟩
       rw [et,if_pos t1,List.map_append]
       rfl
      ·have t1:¬ tgt ns bs e=true:=by
        unfold tgt
        simpa [z'] using z2
       refine hM _ _ _ ⟨rfl,⟨_,_,_,rfl⟩,?_⟩ (by omega)
       rw [et,if_neg t1,List.append_nil]
     ·have t1:¬ tgt ns bs e=true:=by
       have z2:inV (.int e.2.1) (bs.map V.int)=false:=Bool.eq_false_iff.mpr z
       rw [in_ints] at z2
       unfold tgt
       rw [z2]
       simp
      refine ifF rfl (hM _ _ _ ⟨rfl,⟨_,_,_,rfl⟩,?_⟩ (by omega))
      rw [et,if_neg t1,List.append_nil]
    ·rintro ys σ' H' hy ⟨rfl,⟨v0,v1,v2,rfl⟩,rfl⟩
     rw [tl,List.take_length]
     refine ⟨by rw [tl,List.take_length] at hy;exact Nat.le_trans (Nat.le_trans hy el) (by decide),fun l hl=>?_⟩
     exact hN _ _ ⟨l,rfl,Same.new hl,upd_same⟩
   rintro σ' H3 ⟨t,rfl,s3,ht⟩
   have hb3:=s3 _ _ hb
   have hts:(tights ns es bs).length≤16:=by unfold tights;rw [List.length_map];exact Nat.le_trans (List.length_filter_le _ _) el
   have hbs:=B.len
   refine ⟨_,rfl,_,rfl,b,t,_,_,rfl,rfl,hb3,ht,?_,fun p hp=>⟨p,bs++tights ns es bs,rfl,SqL.of (by rw [upd_same,List.map_append]),?_,fun a ha=>⟨a,_,rfl,upd_same,?_,fun ms l hpm hs hl=>?_⟩⟩⟩
   ·rw [List.length_map,List.length_map]
    exact Nat.le_trans (show bs.length+(tights ns es bs).length≤22 by omega) (by decide)
   ·rw [List.length_append];omega
   ·have:=dd_len (bs++tights ns es bs)
    rw [List.length_append] at this
    omega
   ·exact ⟨l,ms,_,_,rfl,((s2.trans s3).trans (Same.new hp)).trans ((Same.new ha).trans (Same.new hl)),upd_same,B.next ok hpm hs⟩
  ·rintro σ' H2 ⟨b,bs,v3,v4,rfl,s2,hb,B⟩
   subst eR
   have eb:=B.whole ok L
   refine ⟨_,rfl,_,rfl,r,_,rfl,.inl (s2.seq hR),?_⟩
   rw [List.length_map,rl]
   refine ⟨n,rfl,fun a ha=>⟨a,n,rfl,upd_same,by omega,fun l hl=>?_⟩⟩
   have s3:=(Same.new (o:=rngO a n) ha).trans (Same.new (o:=.lst ((List.range n).map fun i:Nat=>V.int i)) hl)
   refine ⟨.list (bs.map PyData.int),.list (bs.map PyData.int),.lst (SqL.of (s3 _ _ hb)) (reps_ints _),.lst (SqL.of (xs:=bs.map V.int) (by rw [upd_same,eb,List.map_map];rfl)) (reps_ints _),?_,?_⟩
   ·show pdDeps (bs.map PyData.int)+1≤60
    rw [ints_dep]
    decide
   ·have e1:pdEq (.list (bs.map PyData.int)) (.list (bs.map PyData.int))=true:=by
     show pdEqs _ _=true
     clear eb hb B
     induction bs with
     |nil=>rfl
     |cons x r ih=>simp [pdEqs,pdEq,ih]
    rw [e1]
    exact k _ (s2.trans s3)
end
section
variable {P:Program} {w:World} {K:PySem.W.Frag} {mg:Str->Option Value} {base:Heap}
def spNum:Sp:=fun vs H Q _=>∃ i:Int,vs=[.int i]/\Q (.bl true) H
theorem scNum:FnScope ["_law_found"] ["_law_found"] (defScope (top 25)):=⟨rfl,rfl,rfl,by decide +kernel,rfl,by decide +kernel,by decide +kernel⟩
theorem ok_num {f:Addr} {fd:FuncData} (F:Fun K "_law_num" "_law_num" (top 25) f fd) (T:Txt K mg):FnOk P w K mg base CX0 1 f fd ["_law_found"] spNum:=by
 refine F.ok scNum (fun vs H Q E h=>?_) (fun cdv A outer s H vs Q E hr h=>?_)
 ·obtain ⟨i,rfl,_⟩:=h
  rfl
 ·obtain ⟨i,rfl,k⟩:=h
  refine ⟨_,(pss_one (ps_ret (pe_and (pe_callB call_isT (by rfl) T.isinstance bt_isinstance (pa_cons (pv 0) (pa_cons (pe_ty rfl T.int bt_int) pa_nil))) (pe_one (pe_not (pe_callB call_isT (by rfl) T.isinstance bt_isinstance (pa_cons (pv 0) (pa_cons (pe_ty rfl T.bool bt_bool) pa_nil)))))))),?_⟩
  exact ⟨_,rfl,_,_,_,_,rfl,.int i,rfl,_,rfl,ifT rfl ⟨_,rfl,_,_,_,_,rfl,.int i,rfl,_,rfl,k⟩⟩
theorem bd2 {K:PySem.W.Frag} {fd:FuncData} {v:Value} (h:∀ (S:Setting) (a b:Value),PySem.W.peek K S (bindArgs fd ⟨[a,b],[]⟩)=some ([("lanes",a),("ties",b),("most",v)]:List (Str×Value))):Binds K fd ["lanes","ties","most"] [v]:=fun s us X hl=>by
 match us,hl with
 |[a,b],_=>exact PySem.W.kp_binds X fun S=>h S a b
 |[],z=>simp at z
 |[_],z=>simp at z
 |_::_::_::_,z=>simp at z
def spLaw (K:PySem.W.Frag):Sp:=fun vs H Q _=>∃ (a:Addr) (ns:List Int),vs=[.ref a]/\SqL K H a (ns.map V.int)/\ns.length≤63/\∀ H',Q (.bl true) H'
abbrev NL:List Str:=["_law_script","_law_d","_law_turn","_law_lanes","_law_ties_here","_law_top","_law_found","_law_told"]
theorem scLaw:FnScope NL ["_law_script"] (defScope (top 30)):=⟨rfl,rfl,rfl,by decide +kernel,rfl,by decide +kernel,by decide +kernel⟩
theorem ok_law {f fB fP fO fS fNu fTi fMt fIr fBr fN fBo fR fL fT fM fG fAm fRi fMe:Addr} {fd fdB fdP fdO fdS fdNu fdTi fdMt fdIr fdBr fdN fdBo fdR fdL fdT fdM fdG fdAm fdRi fdMe:FuncData} {tM:Tok} (F:Fun K "law" "law" (top 30) f fd) (T:Txt K mg) (TC:TxtC mg) (hset:mg "set" = none) (hsum:mg "sum" = none) (hso:mg "sorted" = none) (hMA:mg "MOST_AMOUNT" = some (.int 99999 tM))
 (DB:Def K mg "_law_begin" (top 21) ["_law_script"] fB fdB) (DP:Def K mg "_law_pick" (top 22) ["_law_d","_law_many"] fP fdP) (DO:Def K mg "_law_of" (top 23) ["_law_d","_law_things"] fO fdO) (DS:Def K mg "_law_same" (top 24) ["_law_found","_law_due"] fS fdS) (DNu:Def K mg "_law_num" (top 25) ["_law_found"] fNu fdNu)
 (DTi:Def K mg "_law_ties" (top 26) ["_law_d","_law_lanes","_law_wide"] fTi fdTi) (DMt:Def K mg "_law_meets" (top 27) ["_law_ties_here","_law_row","_law_top"] fMt fdMt) (DIr:Def K mg "_law_is_ring" (top 28) ["_law_ring_told","_law_lanes","_law_ties_here","_law_top"] fIr fdIr) (DBr:Def K mg "_law_borne" (top 29) ["_law_row","_law_ties_here"] fBr fdBr)
 (DN:Def K mg "need_all" (top 13) ["lanes","ties","most"] fN fdN) (DBo:Def K mg "bounds" (top 14) ["lanes","most"] fBo fdBo) (DR:Def K mg "raised" (top 15) ["lanes","ties"] fR fdR)
 (DL:Def K mg "need_lanes" (top 10) ["lanes"] fL fdL) (DT:Def K mg "need_ties" (top 11) ["lanes","ties"] fT fdT) (DM:Def K mg "need_most" (top 12) ["most"] fM fdM) (DG:Def K mg "ring_behind" (top 18) ["at","raised_by","many"] fG fdG)
 (FAm:Fun K "amounts" "amounts" (top 16) fAm fdAm) (mAm:mg "amounts" = some (.ref fAm)) (FRi:Fun K "ring" "ring" (top 17) fRi fdRi) (mRi:mg "ring" = some (.ref fRi)) (FMe:Fun K "meets" "meets" (top 19) fMe fdMe) (mMe:mg "meets" = some (.ref fMe))
 (hdA:∀ (S:Setting) (a b:Value),PySem.W.peek K S (bindArgs fdAm ⟨[a,b],[]⟩)=some ([("lanes",a),("ties",b),("most",.int 99999 tM)]:List (Str×Value))) (hdR:∀ (S:Setting) (a b:Value),PySem.W.peek K S (bindArgs fdRi ⟨[a,b],[]⟩)=some ([("lanes",a),("ties",b),("most",.int 99999 tM)]:List (Str×Value))) :
 FnOk P w K mg base CX0 8 f fd ["_law_script"] (spLaw K):=by
 have GB:FnOk P w K mg base CX0 1 fB fdB ["_law_script"] (spBegin K):=ok_begin DB.F T
 have GP:FnOk P w K mg base CX0 1 fP fdP ["_law_d","_law_many"] spPick:=ok_pick DP.F T
 have GO:FnOk P w K mg base CX0 2 fO fdO ["_law_d","_law_things"] (spOf K):=ok_of DO.F T DP
 have GS:FnOk P w K mg base CX0 5 fS fdS ["_law_found","_law_due"] (spS K 5):=ok_same DS T 5
 have GNu:FnOk P w K mg base CX0 1 fNu fdNu ["_law_found"] spNum:=ok_num DNu.F T
 have GTi:FnOk P w K mg base CX0 2 fTi fdTi ["_law_d","_law_lanes","_law_wide"] spTi:=ok_ti DTi.F T DP
 have GMt:FnOk P w K mg base CX0 1 fMt fdMt ["_law_ties_here","_law_row","_law_top"] (spMt K):=ok_mt DMt.F T
 have GIr:FnOk P w K mg base CX0 6 fIr fdIr ["_law_ring_told","_law_lanes","_law_ties_here","_law_top"] (spIr K):=ok_ir DIr.F T hset hsum
 have GBr:FnOk P w K mg base CX0 1 fBr fdBr ["_law_row","_law_ties_here"] (spBr K):=ok_br DBr.F T hset hso
 have GAm:FnOk P w K mg base CX0 3 fAm fdAm ["lanes","ties","most"] (spAm K):=ok_am FAm T TC DN DBo DR DL DT DM
 have GRi:FnOk P w K mg base CX0 3 fRi fdRi ["lanes","ties","most"] (spRi K):=ok_ri FRi T TC DN DBo DR DL DT DM DG
 have GMe:FnOk P w K mg base CX0 3 fMe fdMe ["lanes","ties","row","most"] (spMe K):=ok_me FMe T TC DN DL DT DM
 have kbA:=kb21 FAm (fun _ _ _ _ _ _ _ _ _=>rfl)
 have kbR:=kb21 FRi (fun _ _ _ _ _ _ _ _ _=>rfl)
 have kbM:=kb31 FMe (fun _ _ _ _ _ _ _ _ _ _=>rfl)
 have bdA:=bd2 hdA
 have bdR:=bd2 hdR
 have vM:Vals [V.int 99999] [Value.int 99999 tM]:=.cons ⟨tM,rfl⟩ .nil
 refine F.ok scLaw (fun vs H Q E h=>?_) (fun cdv A outer s H vs Q E hr h=>?_)
 ·obtain ⟨a,ns,rfl,_⟩:=h
  rfl
 ·obtain ⟨sa,ns,rfl,hS,hlen,k⟩:=h
  have hr1:Room 1 _:=hr.mono (by decide)
  have hr2:Room 2 _:=hr.mono (by decide)
  have hr3:Room 3 _:=hr.mono (by decide)
  have hr5:Room 5 _:=hr.mono (by decide)
  have hr6:Room 6 _:=hr.mono (by decide)
  refine ⟨_,(pss_cons (ps_set (i:=1) scLaw.nd rfl (by first|exact Or.inl rfl|exact Or.inr rfl) (pe_call GB hr1 rfl DB.mg DB.F.kp DB.b .nil pass0 (pa_cons (pv 0) pa_nil)))
   (pss_cons (ps_for PassesOwn.never rfl (pi_range1 rfl T.range (pa_cons pe_int pa_nil)) (pg_name (i:=2) scLaw.nd rfl (by first|exact Or.inl rfl|exact Or.inr rfl))
   (pss_cons (ps_set (i:=3) scLaw.nd rfl (by first|exact Or.inl rfl|exact Or.inr rfl) (pe_op op_add pe_int (pe_call GP hr1 rfl DP.mg DP.F.kp DP.b .nil pass0 (pa_cons (pv 1) (pa_cons pe_int pa_nil)))))
   (pss_cons (ps_set (i:=4) scLaw.nd rfl (by first|exact Or.inl rfl|exact Or.inr rfl) (pe_call GTi hr2 rfl DTi.mg DTi.F.kp DTi.b .nil pass0 (pa_cons (pv 1) (pa_cons (pv 3) (pa_cons (pe_ix ix_list (pe_lst (pa_cons pe_int (pa_cons pe_int (pa_cons pe_int pa_nil)))) (pe_call GP hr1 rfl DP.mg DP.F.kp DP.b .nil pass0 (pa_cons (pv 1) (pa_cons pe_int pa_nil))) (fun _ _=>rfl)) pa_nil)))))
   (pss_cons (ps_set (i:=5) scLaw.nd rfl (by first|exact Or.inl rfl|exact Or.inr rfl) (pe_call GO hr2 rfl DO.mg DO.F.kp DO.b .nil pass0 (pa_cons (pv 1) (pa_cons (pe_lst (pa_cons pe_int (pa_cons pe_int (pa_cons pe_int (pa_cons pe_int (pa_cons (pe_op op_pow pe_int pe_int) (pa_cons (pe_call GP hr1 rfl DP.mg DP.F.kp DP.b .nil pass0 (pa_cons (pv 1) (pa_cons (pe_op op_pow pe_int pe_int) pa_nil))) pa_nil))))))) pa_nil))))
   (pss_cons (ps_set (i:=6) scLaw.nd rfl (by first|exact Or.inl rfl|exact Or.inr rfl) (pe_ifExp (pt_cmpR op_ne (pv 5) pe_int (nomark _)) (pe_callK GAm hr3 rfl mAm FAm.kp kbA pass0 (pa_cons (pv 3) (pa_cons (pv 4) pa_nil)) (pk_cons (pv 5) pk_nil)) (pe_call GAm hr3 rfl mAm FAm.kp bdA vM pass0 (pa_cons (pv 3) (pa_cons (pv 4) pa_nil)))))
   (pss_cons (ps_set (i:=7) scLaw.nd rfl (by first|exact Or.inl rfl|exact Or.inr rfl) (pe_ifExp (pt_cmpR op_ne (pv 5) pe_int (nomark _)) (pe_callK GRi hr3 rfl mRi FRi.kp kbR pass0 (pa_cons (pv 3) (pa_cons (pv 4) pa_nil)) (pk_cons (pv 5) pk_nil)) (pe_call GRi hr3 rfl mRi FRi.kp bdR vM pass0 (pa_cons (pv 3) (pa_cons (pv 4) pa_nil)))))
   (pss_cons (ps_if (pt_cmpR op_eq (pe_cmpR op_isN (pv 6) pe_non (nomark _)) (pe_cmpR op_isN (pv 7) pe_non (nomark _)) (nomark _)) (pss_one ps_never) pss_nil)
   (pss_one (ps_if (pt_cmpR op_isN (pv 6) pe_non (nomark _)) (pss_cons (ps_if (pt_not (pt_val (pe_call GIr hr6 rfl DIr.mg DIr.F.kp DIr.b .nil pass0 (pa_cons (pv 7) (pa_cons (pv 3) (pa_cons (pv 4) (pa_cons (pv 5) pa_nil))))))) (pss_one ps_never) pss_nil)
   (pss_one (ps_expr (pe_bm PySem.F.plainAttrs_list PySem.F.slot_list_append PySem.F.type_list_append mt_append (pv 7) (pa_cons pe_int pa_nil))))) (pss_cons (ps_if (PW.pt (pw_or (pt_not (pt_val (pe_call GS hr5 rfl DS.mg DS.F.kp DS.b .nil pass0 (pa_cons (pv 6) (pa_cons (pe_comp (g:=gName 0) (own:=["_law_amount"]) (js:=[]) (N':=["_law_amount"]) (CompScope.of (osc:=defScope (top 30)) (N:=NL) rfl rfl ⟨rfl,by decide +kernel,by decide +kernel,by decide +kernel,rfl,by decide +kernel⟩) rfl (pi_list (pv 6)) (fun _ _ _ _ _=>(pg_name (i:=0) (show List.Nodup (["_law_amount"]:List Str) by decide +kernel) rfl (Or.inl rfl) (Or.inr rfl))) (fun _ _ _ _ _=>pifs_one (pt_val (pe_call GNu hr1 rfl DNu.mg DNu.F.kp DNu.b .nil pass0 (pa_cons (pv 0) pa_nil)))) (fun _ _ _ _ _=>pv 0)) pa_nil))))) (pw_or1 (pt_cmpR op_ne (pe_callB call_len_seq (by rfl) T.len bt_len (pa_cons (pv 6) pa_nil)) (pv 3) (nomark _))))) (pss_one ps_never) pss_nil)
   (pss_cons (ps_if (PW.pt (pw_or (pt_not (pt_val (pe_call GMt hr1 rfl DMt.mg DMt.F.kp DMt.b .nil pass0 (pa_cons (pv 4) (pa_cons (pv 6) (pa_cons (pv 5) pa_nil)))))) (pw_or1 (pt_not (pt_val (pe_call GBr hr1 rfl DBr.mg DBr.F.kp DBr.b .nil pass0 (pa_cons (pv 6) (pa_cons (pv 4) pa_nil)))))))) (pss_one ps_never) pss_nil)
   (pss_cons (ps_if (pt_cmpR op_isnotB (pe_callK GMe hr3 rfl mMe FMe.kp kbM pass0 (pa_cons (pv 3) (pa_cons (pv 4) (pa_cons (pv 6) pa_nil))) (pk_cons (pv 5) pk_nil)) pe_bl (nomark _)) (pss_one ps_never) pss_nil)
   (pss_cons (ps_if (PW.pt (pw_or (pt_val (pe_callK GMe hr3 rfl mMe FMe.kp kbM pass0 (pa_cons (pv 3) (pa_cons (pv 4) (pa_cons (pe_op op_cat (pv 6) (pe_lst (pa_cons pe_int pa_nil))) pa_nil))) (pk_cons (pv 5) pk_nil))) (pw_or1 (pt_val (pe_callK GMe hr3 rfl mMe FMe.kp kbM pass0 (pa_cons (pv 3) (pa_cons (pv 4) (pa_cons (pe_slice sl_list (pv 6) (po_some pe_int) po_none) pa_nil))) (pk_cons (pv 5) pk_nil)))))) (pss_one ps_never) pss_nil)
   (pss_one (ps_if (pt_val (pe_callK GMe hr3 rfl mMe FMe.kp kbM pass0 (pa_cons (pv 3) (pa_cons (pv 4) (pa_cons (pe_comp (g:=gName 0) (own:=["_law_amount"]) (js:=[5]) (N':=["_law_amount","_law_top"]) (CompScope.of (osc:=defScope (top 30)) (N:=NL) rfl rfl ⟨rfl,by decide +kernel,by decide +kernel,by decide +kernel,rfl,by decide +kernel⟩) rfl (pi_list (pv 6)) (fun _ _ _ _ _=>(pg_name (i:=0) (show List.Nodup (["_law_amount","_law_top"]:List Str) by decide +kernel) rfl (Or.inl rfl) (Or.inr rfl))) (fun _ _ _ _ _=>pifs_nil) (fun _ _ _ _ _=>pe_op op_add (pe_op op_add (pv 0) pe_int) (pv 1))) pa_nil))) (pk_cons (pv 5) pk_nil))) (pss_one ps_never) pss_nil)))))))))))))))
   (pss_one (ps_ret (pe_cmpR op_eq (pe_glob (v:=.int 99999) rfl hMA ⟨_,rfl⟩) pe_int (nomark _)))))),?_⟩
  have z0:0≤sizeLine:=by decide
  refine ⟨_,rfl,sa,ns,rfl,hS,hlen,fun p dc H0 D0 s0 _=>?_⟩
  refine ⟨_,rfl,by decide,by decide,for_range (n:=(3:Int).toNat) (fun i σ' H'=>(∃ v2 v3 v4 v5 v6 v7,σ'=[some (.ref sa),some (.ref p),v2,v3,v4,v5,v6,v7])/\Dr H' p dc) ⟨⟨_,_,_,_,_,_,rfl⟩,D0⟩ ?_ ?_⟩
  ·rintro i σ' H1 hi ⟨⟨v2,v3,v4,v5,v6,v7,rfl⟩,D1⟩
   refine ⟨_,rfl,p,dc,_,rfl,D1,by decide,by decide,fun r H2 r0 r1 D2 b2=>⟨_,_,rfl,rfl,?_⟩⟩
   obtain ⟨n,en⟩:=Int.eq_ofNat_of_zero_le (show 0≤1+r by omega)
   dsimp only
   rw [en]
   have n1:1≤n:=by omega
   have n6:n≤6:=by omega
   clear r0 r1 en b2 D1
   refine seq_by (fun σ' H'=>∃ q xs es,σ'=[some (.ref sa),some (.ref p),some (.int (0+i)),some (.int n),some (.ref q),v5,v6,v7]/\H' q=some (.lst xs)/\Paired (TieAt H') xs es/\(∀ e∈es,OkTie n e)/\es.length≤16/\Dr H' p dc) ?nx1 fun N hN=>?st1
   case st1=>
    refine ⟨_,rfl,_,rfl,by decide,fun l hl=>?_⟩
    refine ⟨_,rfl,p,dc,_,rfl,D2.new hl,by decide,by decide,fun r H3 r0 r1 D3 b3=>?_⟩
    have ha:=D2.new (o:=.lst [V.int 4,.int 60,.int 999999]) hl
    have hl3:H3 l=some (.lst [V.int 4,.int 60,.int 999999]):=b3 _ _ upd_same (Ne.symm (D2.neN hl))
    have hx:∃ wd:Int,atI [V.int 4,.int 60,.int 999999] r=some (.int wd)/\0≤wd/\wd≤999999:=by
     rcases (show r=0∨r=1∨r=2 by omega) with rfl|rfl|rfl <;> exact ⟨_,rfl,by decide,by decide⟩
    obtain ⟨wd,ex,w0,w1⟩:=hx
    refine ⟨l,_,r,_,rfl,rfl,SqL.of hl3,ex,p,dc,n,wd,rfl,D3,n1,n6,w0,w1,fun q xs es H4 hq pe ok ln nq D4 b4=>?_⟩
    exact hN _ _ ⟨q,xs,es,rfl,hq,pe,ok,ln,D4⟩
   rintro σ' H3 ⟨q,xs,es,rfl,hq,pe,ok,ln,D3⟩
   have xl:=Paired.length pe
   clear D2
   refine seq_by (fun σ' H'=>∃ t:Nat,σ'=[some (.ref sa),some (.ref p),some (.int (0+i)),some (.int n),some (.ref q),some (.int t),v6,v7]/\t≤1000000000000/\H' q=some (.lst xs)/\Paired (TieAt H') xs es/\Dr H' p dc) ?nx2 fun N hN=>?st2
   case st2=>
    have c1:CPow 10 12:=⟨by decide,by decide,by decide⟩
    have c2:CPow 10 7:=⟨by decide,by decide,by decide⟩
    refine ⟨_,rfl,_,_,rfl,rfl,c1,_,rfl,_,_,rfl,rfl,c2,p,dc,_,rfl,D3,by decide,by decide,fun r H4 r0 r1 D4 b4=>⟨(by show 6≤sizeLine;decide),fun l hl=>?_⟩⟩
    refine ⟨p,dc,l,_,rfl,D4.new hl,SqL.of upd_same,by simp,by simp,fun x H5 hx D5 b5=>?_⟩
    have r2:r≤10000000:=Int.le_of_lt (Int.lt_of_lt_of_le r1 (by decide))
    have hx:∃ t:Nat,x=.int t/\t≤1000000000000:=by
     simp only [List.mem_cons,List.not_mem_nil,or_false] at hx
     rcases hx with rfl|rfl|rfl|rfl|rfl|rfl
     ·exact ⟨99999,rfl,by decide⟩
     ·exact ⟨0,rfl,by decide⟩
     ·exact ⟨10,rfl,by decide⟩
     ·exact ⟨200,rfl,by decide⟩
     ·exact ⟨1000000000000,rfl,by decide⟩
     ·exact ⟨r.toNat,by rw [Int.toNat_of_nonneg r0],by omega⟩
    obtain ⟨t,rfl,t1⟩:=hx
    have hq4:=b4 _ _ hq (D3.ne hq (by intro kvs z;cases z))
    have D4':=D4.new (o:=.lst [V.int 99999,.int 0,.int 10,.int 200,.int (10 ^ (12:Int).toNat),.int r]) hl
    have hq4':=Same.new (o:=.lst [V.int 99999,.int 0,.int 10,.int 200,.int (10 ^ (12:Int).toNat),.int r]) hl _ _ hq4
    have pe4:=ties_tk (Same.tk (Same.new (o:=.lst [V.int 99999,.int 0,.int 10,.int 200,.int (10 ^ (12:Int).toNat),.int r]) hl)) (ties_tk (TK.but D3 b4) pe)
    exact hN _ _ ⟨t,rfl,t1,b5 _ _ hq4' (D4'.ne hq4' (by intro kvs z;cases z)),ties_tk (TK.but D4' b5) pe4,D5⟩
   rintro σ' H4 ⟨t,rfl,t1,hq,pe,D4⟩
   clear D3
   have tih:TiesIn K H4 q n es:=⟨⟨xs,hq,pe⟩,by omega,ok⟩
   refine seq_by (fun σ' H'=>∃ v6 W,σ'=[some (.ref sa),some (.ref p),some (.int (0+i)),some (.int n),some (.ref q),some (.int t),some v6,v7]/\Same H4 H'/\AmAt n (allT es n t) H' v6 W) ?nx3 fun N hN=>?st3
   case st3=>
    refine ⟨_,rfl,rfl,_,rfl,ite2 (fun z=>?_) (fun z=>?_)⟩
    ·refine ⟨_,rfl,_,rfl,_,rfl,?_⟩
     dsimp only [tNil,gV21]
     exact am_read n1 n6 (by omega) (by omega) tih fun v W H8 a8 s8=>hN _ _ ⟨v,W,rfl,s8,a8⟩
    ·have e:(t:Int)=99999:=by simpa using z
     obtain rfl:t=99999:=by omega
     refine ⟨_,rfl,_,rfl,?_⟩
     exact am_read (E:=E0) (m:=((99999:Nat):Int)) n1 n6 (by omega) (by omega) tih fun v W H8 a8 s8=>hN _ _ ⟨v,W,rfl,s8,a8⟩
   rintro σ' H5 ⟨v6',W,rfl,s5,aw⟩
   have hq:=s5 _ _ hq
   have pe:=ties_tk (Same.tk s5) pe
   have D5:=D4.mono s5
   have tih:=tih.same s5
   clear D4 s5
   refine seq_by (fun σ' H'=>∃ v7',σ'=[some (.ref sa),some (.ref p),some (.int (0+i)),some (.int n),some (.ref q),some (.int t),some v6',some v7']/\Same H5 H'/\ToldAt es n t H' v7'/\∀ a,v7'=.ref a->H5 a=none) ?nx4 fun N hN=>?st4
   case st4=>
    have go:spRi K [.int n,.ref q,.int t] H5 (fun v H'=>N ([some (.ref sa),some (.ref p),some (.int (0+i)),some (.int n),some (.ref q),some (.int t),some v6',some v]:St) H') E0:=by
     refine ⟨n,q,t,es,rfl,n1,n6,by omega,by omega,tih,fun h L H9 s9=>?_,fun rt ys rs H9 hrt py R hR lr nt s9=>?_⟩
     ·exact hN _ _ ⟨_,rfl,s9,.inl ⟨rfl,h,L⟩,fun a z=>by cases z⟩
     ·exact hN _ _ ⟨_,rfl,s9,.inr ⟨rt,ys,rs,rfl,hrt,py,R,hR,lr⟩,fun a z=>by cases z;exact nt⟩
    refine ⟨_,rfl,rfl,_,rfl,ite2 (fun z=>?_) (fun z=>?_)⟩
    ·refine ⟨_,rfl,_,rfl,_,rfl,?_⟩
     dsimp only [tNil,gV21]
     exact go
    ·have e:(t:Int)=99999:=by simpa using z
     obtain rfl:t=99999:=by omega
     refine ⟨_,rfl,_,rfl,?_⟩
     exact go
   rintro σ' H6 ⟨v7',rfl,s6,tl,fr⟩
   have hq:=s6 _ _ hq
   have pe:=ties_tk (Same.tk s6) pe
   have D6:=D5.mono s6
   have aw:=aw.same s6
   obtain ⟨cx,hcx⟩:=D5.cell
   have fr':∀ a,v7'=.ref a->a≠dc:=fun a z e=>by
    have:=fr a z
    rw [e,hcx] at this
    cases this
   clear D5 s6 tih fr hcx
   rcases tl with ⟨rfl,h',L'⟩|⟨a,ys,rs,rfl,ha,py,R,hR,lr⟩
   ·cases W with
    | none=>
      obtain ⟨_,B⟩:=aw
      exact (B.no L'.sat).elim
    | some h=>
      obtain ⟨a,rfl,ha,L⟩:=aw
      refine ⟨_,rfl,rfl,_,rfl,rfl,rfl,_,rfl,ifF rfl ?_⟩
      refine ⟨_,rfl,rfl,_,rfl,ifF rfl ?_⟩
      have er:(rowOf n h).map V.int=amV n h:=by unfold rowOf amV;rw [List.map_map];rfl
      have rl:(rowOf n h).length=n:=by unfold rowOf;simp
      have mt:=(least_row ok L).2
      have ha0:=ha
      rw [← er] at ha
      have lz:((rowOf n h).map V.int).length≤sizeLine:=by rw [List.length_map,rl];exact Nat.le_trans n6 (by decide)
      have el:(rowOf n h).take ((rowOf n h).map V.int).length=rowOf n h:=by rw [List.length_map,List.take_length]
      refine seq_by (fun σ' H'=>σ'=[some (.ref sa),some (.ref p),some (.int (0+i)),some (.int n),some (.ref q),some (.int t),some (.ref a),some .non]/\Same H6 H') ?nx5 fun N hN=>?st5
      case st5=>
       refine ⟨_,rfl,_,rfl,a,rfl,⟨_,SqL.of ha⟩,?_⟩
       refine comp_listF (K:=K) (a:=a) (xs:=(rowOf n h).map V.int) (fun i ys σ' H'=>(∃ v,σ'=[v])/\H'=H6/\ys=((rowOf n h).take i).map V.int) lz ⟨⟨none,rfl⟩,rfl,rfl⟩ (fun i ys σ H' _ e=>by rw [e.2.1];exact SqL.of ha) ?_ ?_
       ·rintro j x ys σ' H' hj ⟨⟨v,rfl⟩,rfl,rfl⟩ M hM
        rw [List.getElem?_map] at hj
        obtain ⟨b,hb,rfl⟩:=Option.map_eq_some_iff.mp hj
        dsimp only [gName]
        refine ⟨_,rfl,b,rfl,_,rfl,ifT rfl ⟨_,rfl,hM _ _ _ ⟨⟨_,rfl⟩,rfl,?_⟩ (by simp)⟩⟩
        rw [List.take_add_one,hb,List.map_append]
        rfl
       ·rintro ys σ' H' hy ⟨⟨v,rfl⟩,rfl,rfl⟩
        rw [el]
        refine ⟨lz,fun l hl=>?_⟩
        have s7:Same H' (upd H' l (.lst ((rowOf n h).map V.int))):=Same.new hl
        have r1:AmAt n (allT es n t) (upd H' l (.lst ((rowOf n h).map V.int))) (.ref a) (some h):=⟨a,rfl,s7 _ _ ha0,L⟩
        have r2:AmAt n (allT es n t) (upd H' l (.lst ((rowOf n h).map V.int))) (.ref l) (some h):=⟨l,rfl,by rw [upd_same,er],L⟩
        refine ⟨.ref a,.ref l,amD n (some h),rfl,r1.rep,r2.rep,Nat.le_trans (amD_dep n _) (by decide),Nat.le_trans (amD_max n (by omega) _) (by decide),fun H8 s8=>⟨true,rfl,ifF rfl ?_⟩⟩
        refine ⟨_,rfl,a,_,rfl,.inl (SqL.of (s8 _ _ (s7 _ _ ha))),_,rfl,rfl,?_⟩
        rw [List.length_map,rl]
        refine ⟨_,rfl,ifF (by simp) (hN _ _ ⟨rfl,s7.trans s8⟩)⟩
      rintro σ' H7 ⟨rfl,s7⟩
      have ha:=s7 _ _ ha
      have hq:=s7 _ _ hq
      have pe:=ties_tk (Same.tk s7) pe
      have D7:=D6.mono s7
      clear D6 s7 ha0
      refine seq_by (fun σ' H'=>σ'=[some (.ref sa),some (.ref p),some (.int (0+i)),some (.int n),some (.ref q),some (.int t),some (.ref a),some .non]/\Same H7 H') ?nx6 fun N hN=>?st6
      case st6=>
       refine ⟨_,rfl,_,rfl,_,rfl,q,a,xs,es,rowOf n h,t,rfl,SqL.of hq,pe,by rw [rl];exact ok,SqL.of ha,by omega,by omega,fun H8 s8=>?_⟩
       rw [mt]
       refine ⟨true,rfl,ifF rfl ?_⟩
       refine ⟨_,rfl,_,rfl,a,q,n,t,xs,es,h,rfl,SqL.of (s8 _ _ ha),SqL.of (s8 _ _ hq),ties_tk (Same.tk s8) pe,ok,L,n6,ln,fun H9 s9=>⟨true,rfl,ifF rfl (hN _ _ ⟨rfl,s8.trans s9⟩)⟩⟩
      rintro σ' H8 ⟨rfl,s8⟩
      have ha:=s8 _ _ ha
      have hq:=s8 _ _ hq
      have pe:=ties_tk (Same.tk s8) pe
      have D8:=D7.mono s8
      clear D7 s8
      refine seq_by (fun σ' H'=>σ'=[some (.ref sa),some (.ref p),some (.int (0+i)),some (.int n),some (.ref q),some (.int t),some (.ref a),some .non]/\Same H8 H') ?nx7 fun N hN=>?st7
      case st7=>
       refine ⟨_,rfl,_,rfl,_,rfl,_,rfl,?_⟩
       dsimp only [tNil,gV31]
       refine ⟨n,t,q,a,xs,es,rowOf n h,rfl,n1,n6,by omega,by omega,SqL.of hq,pe,ok,SqL.of ha,by omega,by omega,fun H9 s9=>?_⟩
       rw [mt,rl,decide_eq_true rfl]
       exact ⟨_,_,rfl,rfl,_,rfl,ifF rfl (hN _ _ ⟨rfl,s9⟩)⟩
      rintro σ' H9 ⟨rfl,s9⟩
      have ha:=s9 _ _ ha
      have hq:=s9 _ _ hq
      have pe:=ties_tk (Same.tk s9) pe
      have D9:=D8.mono s9
      clear D8 s9
      refine seq_by (fun σ' H'=>σ'=[some (.ref sa),some (.ref p),some (.int (0+i)),some (.int n),some (.ref q),some (.int t),some (.ref a),some .non]/\Same H9 H') ?nx8 fun N hN=>?st8
      case st8=>
       refine ⟨_,rfl,_,rfl,_,rfl,by decide,fun l hl=>?_⟩
       have s10:Same H9 (upd H9 l (.lst [V.int 0])):=Same.new hl
       refine ⟨a,l,_,_,rfl,rfl,s10 _ _ ha,upd_same,?_,fun b hb=>⟨_,rfl,?_⟩⟩
       ·rw [List.length_map,rl]
        exact Nat.le_trans (show n+1≤7 by omega) (by decide)
       have s11:=s10.trans (Same.new (o:=.lst ((rowOf n h).map V.int++[V.int 0])) hb)
       dsimp only [tNil,gV31]
       refine ⟨n,t,q,b,xs,es,rowOf n h++[0],rfl,n1,n6,by omega,by omega,SqL.of (s11 _ _ hq),ties_tk (Same.tk s11) pe,ok,SqL.of (by rw [upd_same,List.map_append];rfl),by omega,by rw [List.length_append,rl,List.length_singleton];omega,fun H12 s12=>?_⟩
       have e1:decide ((rowOf n h++[0]).length=n)=false:=by
        rw [List.length_append,rl,List.length_singleton]
        simp
       rw [e1]
       refine ⟨false,rfl,ifF rfl ?_⟩
       have s12':=s11.trans s12
       refine ⟨_,rfl,_,rfl,_,rfl,_,rfl,a,_,rfl,SqL.of (s12' _ _ ha),fun c hc=>⟨_,rfl,?_⟩⟩
       have ec:cutV ((rowOf n h).map V.int) (some 1) none=((rowOf n h).drop 1).map V.int:=by
        unfold cutV
        rw [List.length_map,rl]
        have e1:HT.sIx n 0 (some 1)=1:=by
         unfold HT.sIx
         simp
         omega
        have e2:HT.sIx n n none=n:=rfl
        rw [e1,e2,List.take_of_length_le (by rw [List.length_drop,List.length_map,rl];omega),List.map_drop]
       rw [ec]
       have s13:=s12'.trans (Same.new (o:=.lst (((rowOf n h).drop 1).map V.int)) hc)
       dsimp only [tNil,gV31]
       refine ⟨n,t,q,c,xs,es,(rowOf n h).drop 1,rfl,n1,n6,by omega,by omega,SqL.of (s13 _ _ hq),ties_tk (Same.tk s13) pe,ok,SqL.of upd_same,by omega,by rw [List.length_drop,rl];omega,fun H14 s14=>?_⟩
       have e2:decide (((rowOf n h).drop 1).length=n)=false:=by
        rw [List.length_drop,rl]
        exact decide_eq_false (by omega)
       rw [e2]
       exact ⟨false,rfl,ifF rfl (hN _ _ ⟨rfl,s13.trans s14⟩)⟩
      rintro σ' H10 ⟨rfl,s10⟩
      have ha:=s10 _ _ ha
      have hq:=s10 _ _ hq
      have pe:=ties_tk (Same.tk s10) pe
      have D10:=D9.mono s10
      clear D9 s10
      refine ⟨_,rfl,_,rfl,_,rfl,a,rfl,⟨_,SqL.of ha⟩,?_⟩
      refine comp_list (K:=K) (a:=a) (xs:=(rowOf n h).map V.int) (fun i ys σ' H'=>(∃ v,σ'=[v,some (.int t)])/\H'=H10/\ys=(((rowOf n h).take i).map fun x:Int=>x+1+(t:Int)).map V.int) lz ⟨⟨none,rfl⟩,rfl,rfl⟩ (fun i ys σ H' _ e=>by rw [e.2.1];exact SqL.of ha) ?_ ?_
      ·rintro j x ys σ' H' hj hy ⟨⟨v,rfl⟩,rfl,rfl⟩ M hM
       rw [List.getElem?_map] at hj
       obtain ⟨b,hb,rfl⟩:=Option.map_eq_some_iff.mp hj
       dsimp only [gName]
       refine EvE.op (EvE.op (EvE.var rfl) EvE.con EvR.i0) (EvE.var rfl) EvR.i0 _ ?_
       refine hM _ _ _ (by rw [List.length_append,hy];rfl) ⟨⟨_,rfl⟩,rfl,?_⟩
       rw [List.take_add_one,hb,List.map_append,List.map_append]
       rfl
      ·rintro ys σ' H' hy ⟨⟨v,rfl⟩,rfl,rfl⟩
       rw [el]
       refine ⟨by rw [List.length_map,List.length_map,rl];exact Nat.le_trans n6 (by decide),fun l hl=>⟨_,rfl,?_⟩⟩
       have s11:Same H' (upd H' l (.lst (((rowOf n h).map fun x:Int=>x+1+(t:Int)).map V.int))):=Same.new hl
       dsimp only [tNil,gV31]
       refine ⟨n,t,q,l,xs,es,(rowOf n h).map fun x:Int=>x+1+(t:Int),rfl,n1,n6,by omega,by omega,SqL.of (s11 _ _ hq),ties_tk (Same.tk s11) pe,ok,SqL.of upd_same,by omega,by rw [List.length_map,rl];omega,fun H12 s12=>?_⟩
       have e3:meetsB es ((rowOf n h).map fun x:Int=>x+1+(t:Int)) t=false:=by
        unfold meetsB
        have hn:inB t ((rowOf n h).map fun x:Int=>x+1+(t:Int))=false:=by
         refine Bool.eq_false_iff.mpr fun z=>?_
         have:=(inB_at z (i:=0) (by rw [List.length_map,rl];omega)).2
         have h0:=L.nn 0
         rw [List.getD_eq_getElem?_getD,List.getElem?_map,List.getElem?_eq_getElem (show 0<(rowOf n h).length by omega)] at this
         have e4:(rowOf n h)[0]'(by omega)=h ((0:Nat):Int):=by unfold rowOf;simp
         rw [e4] at this
         simp at this
         omega
        rw [hn]
        rfl
       rw [e3,Bool.and_false]
       exact ⟨false,rfl,ifF rfl ⟨⟨_,_,_,_,_,_,rfl⟩,(D10.mono s11).mono s12⟩⟩
   ·cases W with
    | some h=>
      obtain ⟨_,_,_,L⟩:=aw
      exact ((show Bf.Barred _ from ⟨rs,R,hR⟩).no L.sat).elim
    | none=>
      obtain ⟨rfl,_⟩:=aw
      refine ⟨_,rfl,rfl,_,rfl,rfl,rfl,_,rfl,ifF rfl ?_⟩
      refine ⟨_,rfl,rfl,_,rfl,ifT rfl ?_⟩
      refine ⟨_,rfl,_,rfl,_,rfl,_,rfl,a,q,n,t,ys,xs,rs,es,rfl,ha,py,R,hR,SqL.of hq,pe,by omega,fun e he=>all_far (by omega) (by omega) ok e (hR e he),by omega,fun H10 s10=>⟨true,rfl,ifF rfl ?_⟩⟩
      have ha10:=s10 _ _ ha
      have D10:=D6.mono s10
      have yl:=Paired.length py
      refine ⟨_,rfl,.inl ⟨rfl,_,SqL.of ha10⟩,a,ys,_,rfl,rfl,ha10,Nat.lt_of_le_of_lt (show ys.length≤10 by omega) (by decide),?_⟩
      exact ⟨⟨_,_,_,_,_,_,rfl⟩,D10.put (D10.ne ha10 (by intro kvs z;cases z)) (fr' a rfl)⟩
  ·rintro σ' H1 ⟨⟨v2,v3,v4,v5,v6,v7,rfl⟩,D1⟩
   exact ⟨rfl,k _⟩
end
theorem all_mk {l:PySem.W.OpenLaw} {w:World} {K:PySem.W.Frag} {h:Heap} {mg:Str->Option Value} {fa fB fP fO fS fNu fTi fMt fIr fBr fN fBo fR fL fT fM fG fAm fRi fMe fLa:Addr} (X:K.In h) (G:h.Ns mainGlobals mg) (hfa:mg "law" = some (.ref fa))
 {odB anB odP anP odO anO odS anS odNu anNu odTi anTi odMt anMt odIr anIr odBr anBr odN anN odBo anBo odR anR odL anL odT anT odM anM odG anG odAm anAm odRi anRi odMe anMe odLa anLa:Option Addr} {slB slP slO slS slNu slTi slMt slIr slBr slN slBo slR slL slT slM slG slAm slRi slMe slLa:Array (Option Value)} {t0 t1 t2 t3 t4:Nat} {ocB kVB dcB pmB cdB ctB ocP kVP dcP pmP cdP ctP ocO kVO dcO pmO cdO ctO ocS kVS dcS pmS cdS ctS ocNu kVNu dcNu pmNu cdNu ctNu ocTi kVTi dcTi pmTi cdTi ctTi ocMt kVMt dcMt pmMt cdMt ctMt ocIr kVIr dcIr pmIr cdIr ctIr ocBr kVBr dcBr pmBr cdBr ctBr ocN kVN dcN pmN cdN ctN ocBo kVBo dcBo pmBo cdBo ctBo ocR kVR dcR pmR cdR ctR ocL kVL dcL pmL cdL ctL ocT kVT dcT pmT cdT ctT ocM kVM dcM pmM cdM ctM ocG kVG dcG pmG cdG ctG ocAm kVAm dcAm pmAm cdAm ctAm ocRi kVRi dcRi pmRi cdRi ctRi ocMe kVMe dcMe pmMe cdMe ctMe ocLa kVLa dcLa pmLa cdLa ctLa:Value}
 (aB:PySem.W.nsIn K mainGlobals "_law_begin" = some (some (.ref fB)))
 (lB:K.lookup fB=some ⟨ocB,odB,.func (PySem.W.fnOf "_law_begin" "_law_begin" (defArgs (top 21)) (defBody (top 21)) (defScope (top 21)) .none kVB dcB pmB anB cdB ctB),slB⟩)
 (cB:PySem.W.codeIn K cdB "_law_begin" = true)
 (kB:PySem.W.keepIn K (.ref fB)=true)
 (aP:PySem.W.nsIn K mainGlobals "_law_pick" = some (some (.ref fP)))
 (lP:K.lookup fP=some ⟨ocP,odP,.func (PySem.W.fnOf "_law_pick" "_law_pick" (defArgs (top 22)) (defBody (top 22)) (defScope (top 22)) .none kVP dcP pmP anP cdP ctP),slP⟩)
 (cP:PySem.W.codeIn K cdP "_law_pick" = true)
 (kP:PySem.W.keepIn K (.ref fP)=true)
 (aO:PySem.W.nsIn K mainGlobals "_law_of" = some (some (.ref fO)))
 (lO:K.lookup fO=some ⟨ocO,odO,.func (PySem.W.fnOf "_law_of" "_law_of" (defArgs (top 23)) (defBody (top 23)) (defScope (top 23)) .none kVO dcO pmO anO cdO ctO),slO⟩)
 (cO:PySem.W.codeIn K cdO "_law_of" = true)
 (kO:PySem.W.keepIn K (.ref fO)=true)
 (aS:PySem.W.nsIn K mainGlobals "_law_same" = some (some (.ref fS)))
 (lS:K.lookup fS=some ⟨ocS,odS,.func (PySem.W.fnOf "_law_same" "_law_same" (defArgs (top 24)) (defBody (top 24)) (defScope (top 24)) .none kVS dcS pmS anS cdS ctS),slS⟩)
 (cS:PySem.W.codeIn K cdS "_law_same" = true)
 (kS:PySem.W.keepIn K (.ref fS)=true)
 (aNu:PySem.W.nsIn K mainGlobals "_law_num" = some (some (.ref fNu)))
 (lNu:K.lookup fNu=some ⟨ocNu,odNu,.func (PySem.W.fnOf "_law_num" "_law_num" (defArgs (top 25)) (defBody (top 25)) (defScope (top 25)) .none kVNu dcNu pmNu anNu cdNu ctNu),slNu⟩)
 (cNu:PySem.W.codeIn K cdNu "_law_num" = true)
 (kNu:PySem.W.keepIn K (.ref fNu)=true)
 (aTi:PySem.W.nsIn K mainGlobals "_law_ties" = some (some (.ref fTi)))
 (lTi:K.lookup fTi=some ⟨ocTi,odTi,.func (PySem.W.fnOf "_law_ties" "_law_ties" (defArgs (top 26)) (defBody (top 26)) (defScope (top 26)) .none kVTi dcTi pmTi anTi cdTi ctTi),slTi⟩)
 (cTi:PySem.W.codeIn K cdTi "_law_ties" = true)
 (kTi:PySem.W.keepIn K (.ref fTi)=true)
 (aMt:PySem.W.nsIn K mainGlobals "_law_meets" = some (some (.ref fMt)))
 (lMt:K.lookup fMt=some ⟨ocMt,odMt,.func (PySem.W.fnOf "_law_meets" "_law_meets" (defArgs (top 27)) (defBody (top 27)) (defScope (top 27)) .none kVMt dcMt pmMt anMt cdMt ctMt),slMt⟩)
 (cMt:PySem.W.codeIn K cdMt "_law_meets" = true)
 (kMt:PySem.W.keepIn K (.ref fMt)=true)
 (aIr:PySem.W.nsIn K mainGlobals "_law_is_ring" = some (some (.ref fIr)))
 (lIr:K.lookup fIr=some ⟨ocIr,odIr,.func (PySem.W.fnOf "_law_is_ring" "_law_is_ring" (defArgs (top 28)) (defBody (top 28)) (defScope (top 28)) .none kVIr dcIr pmIr anIr cdIr ctIr),slIr⟩)
 (cIr:PySem.W.codeIn K cdIr "_law_is_ring" = true)
 (kIr:PySem.W.keepIn K (.ref fIr)=true)
 (aBr:PySem.W.nsIn K mainGlobals "_law_borne" = some (some (.ref fBr)))
 (lBr:K.lookup fBr=some ⟨ocBr,odBr,.func (PySem.W.fnOf "_law_borne" "_law_borne" (defArgs (top 29)) (defBody (top 29)) (defScope (top 29)) .none kVBr dcBr pmBr anBr cdBr ctBr),slBr⟩)
 (cBr:PySem.W.codeIn K cdBr "_law_borne" = true)
 (kBr:PySem.W.keepIn K (.ref fBr)=true)
 (aN:PySem.W.nsIn K mainGlobals "need_all" = some (some (.ref fN)))
 (lN:K.lookup fN=some ⟨ocN,odN,.func (PySem.W.fnOf "need_all" "need_all" (defArgs (top 13)) (defBody (top 13)) (defScope (top 13)) .none kVN dcN pmN anN cdN ctN),slN⟩)
 (cN:PySem.W.codeIn K cdN "need_all" = true)
 (kN:PySem.W.keepIn K (.ref fN)=true)
 (aBo:PySem.W.nsIn K mainGlobals "bounds" = some (some (.ref fBo)))
 (lBo:K.lookup fBo=some ⟨ocBo,odBo,.func (PySem.W.fnOf "bounds" "bounds" (defArgs (top 14)) (defBody (top 14)) (defScope (top 14)) .none kVBo dcBo pmBo anBo cdBo ctBo),slBo⟩)
 (cBo:PySem.W.codeIn K cdBo "bounds" = true)
 (kBo:PySem.W.keepIn K (.ref fBo)=true)
 (aR:PySem.W.nsIn K mainGlobals "raised" = some (some (.ref fR)))
 (lR:K.lookup fR=some ⟨ocR,odR,.func (PySem.W.fnOf "raised" "raised" (defArgs (top 15)) (defBody (top 15)) (defScope (top 15)) .none kVR dcR pmR anR cdR ctR),slR⟩)
 (cR:PySem.W.codeIn K cdR "raised" = true)
 (kR:PySem.W.keepIn K (.ref fR)=true)
 (aL:PySem.W.nsIn K mainGlobals "need_lanes" = some (some (.ref fL)))
 (lL:K.lookup fL=some ⟨ocL,odL,.func (PySem.W.fnOf "need_lanes" "need_lanes" (defArgs (top 10)) (defBody (top 10)) (defScope (top 10)) .none kVL dcL pmL anL cdL ctL),slL⟩)
 (cL:PySem.W.codeIn K cdL "need_lanes" = true)
 (kL:PySem.W.keepIn K (.ref fL)=true)
 (aT:PySem.W.nsIn K mainGlobals "need_ties" = some (some (.ref fT)))
 (lT:K.lookup fT=some ⟨ocT,odT,.func (PySem.W.fnOf "need_ties" "need_ties" (defArgs (top 11)) (defBody (top 11)) (defScope (top 11)) .none kVT dcT pmT anT cdT ctT),slT⟩)
 (cT:PySem.W.codeIn K cdT "need_ties" = true)
 (kT:PySem.W.keepIn K (.ref fT)=true)
 (aM:PySem.W.nsIn K mainGlobals "need_most" = some (some (.ref fM)))
 (lM:K.lookup fM=some ⟨ocM,odM,.func (PySem.W.fnOf "need_most" "need_most" (defArgs (top 12)) (defBody (top 12)) (defScope (top 12)) .none kVM dcM pmM anM cdM ctM),slM⟩)
 (cM:PySem.W.codeIn K cdM "need_most" = true)
 (kM:PySem.W.keepIn K (.ref fM)=true)
 (aG:PySem.W.nsIn K mainGlobals "ring_behind" = some (some (.ref fG)))
 (lG:K.lookup fG=some ⟨ocG,odG,.func (PySem.W.fnOf "ring_behind" "ring_behind" (defArgs (top 18)) (defBody (top 18)) (defScope (top 18)) .none kVG dcG pmG anG cdG ctG),slG⟩)
 (cG:PySem.W.codeIn K cdG "ring_behind" = true)
 (kG:PySem.W.keepIn K (.ref fG)=true)
 (aAm:PySem.W.nsIn K mainGlobals "amounts" = some (some (.ref fAm)))
 (lAm:K.lookup fAm=some ⟨ocAm,odAm,.func (PySem.W.fnOf "amounts" "amounts" (defArgs (top 16)) (defBody (top 16)) (defScope (top 16)) .none kVAm dcAm pmAm anAm cdAm ctAm),slAm⟩)
 (cAm:PySem.W.codeIn K cdAm "amounts" = true)
 (kAm:PySem.W.keepIn K (.ref fAm)=true)
 (aRi:PySem.W.nsIn K mainGlobals "ring" = some (some (.ref fRi)))
 (lRi:K.lookup fRi=some ⟨ocRi,odRi,.func (PySem.W.fnOf "ring" "ring" (defArgs (top 17)) (defBody (top 17)) (defScope (top 17)) .none kVRi dcRi pmRi anRi cdRi ctRi),slRi⟩)
 (cRi:PySem.W.codeIn K cdRi "ring" = true)
 (kRi:PySem.W.keepIn K (.ref fRi)=true)
 (aMe:PySem.W.nsIn K mainGlobals "meets" = some (some (.ref fMe)))
 (lMe:K.lookup fMe=some ⟨ocMe,odMe,.func (PySem.W.fnOf "meets" "meets" (defArgs (top 19)) (defBody (top 19)) (defScope (top 19)) .none kVMe dcMe pmMe anMe cdMe ctMe),slMe⟩)
 (cMe:PySem.W.codeIn K cdMe "meets" = true)
 (kMe:PySem.W.keepIn K (.ref fMe)=true)
 (aLa:PySem.W.nsIn K mainGlobals "law" = some (some (.ref fLa)))
 (lLa:K.lookup fLa=some ⟨ocLa,odLa,.func (PySem.W.fnOf "law" "law" (defArgs (top 30)) (defBody (top 30)) (defScope (top 30)) .none kVLa dcLa pmLa anLa cdLa ctLa),slLa⟩)
 (cLa:PySem.W.codeIn K cdLa "law" = true)
 (kLa:PySem.W.keepIn K (.ref fLa)=true)
 (z_len:PySem.W.nsIn K mainGlobals "len" = some none)
 (z_range:PySem.W.nsIn K mainGlobals "range" = some none)
 (z_list:PySem.W.nsIn K mainGlobals "list" = some none)
 (z_tuple:PySem.W.nsIn K mainGlobals "tuple" = some none)
 (z_str:PySem.W.nsIn K mainGlobals "str" = some none)
 (z_bool:PySem.W.nsIn K mainGlobals "bool" = some none)
 (z_int:PySem.W.nsIn K mainGlobals "int" = some none)
 (z_min:PySem.W.nsIn K mainGlobals "min" = some none)
 (z_repr:PySem.W.nsIn K mainGlobals "repr" = some none)
 (z_all:PySem.W.nsIn K mainGlobals "all" = some none)
 (z_any:PySem.W.nsIn K mainGlobals "any" = some none)
 (z_isinstance:PySem.W.nsIn K mainGlobals "isinstance" = some none)
 (z_set:PySem.W.nsIn K mainGlobals "set" = some none)
 (z_sum:PySem.W.nsIn K mainGlobals "sum" = some none)
 (z_sorted:PySem.W.nsIn K mainGlobals "sorted" = some none)
 (i_LIMIT:PySem.W.nsIn K mainGlobals "LIMIT" = some (some (.int 999999 t0)))
 (i_MOST_LANES:PySem.W.nsIn K mainGlobals "MOST_LANES" = some (some (.int 6 t1)))
 (i_HIGHEST_MOST:PySem.W.nsIn K mainGlobals "HIGHEST_MOST" = some (some (.int 1000000000000 t2)))
 (i_GROUND:PySem.W.nsIn K mainGlobals "GROUND" = some (some (.int (-1) t3)))
 (i_MOST_AMOUNT:PySem.W.nsIn K mainGlobals "MOST_AMOUNT" = some (some (.int 99999 t4)))
 (hdAm:∀ (S:Setting) (a b:Value),PySem.W.peek K S (bindArgs (PySem.W.fnOf "amounts" "amounts" (defArgs (top 16)) (defBody (top 16)) (defScope (top 16)) .none kVAm dcAm pmAm anAm cdAm ctAm) ⟨[a,b],[]⟩)=some ([("lanes",a),("ties",b),("most",.int 99999 t4)]:List (Str×Value)))
 (hdRi:∀ (S:Setting) (a b:Value),PySem.W.peek K S (bindArgs (PySem.W.fnOf "ring" "ring" (defArgs (top 17)) (defBody (top 17)) (defScope (top 17)) .none kVRi dcRi pmRi anRi cdRi ctRi) ⟨[a,b],[]⟩)=some ([("lanes",a),("ties",b),("most",.int 99999 t4)]:List (Str×Value))) :
 ∃ fd:FuncData,(∀ (s:Shared) (v:Value),BindsTo s fd ⟨[v],[]⟩ [("_law_script",v)])/\∀ base:Heap,K.In base->base.Ns mainGlobals mg->FnOk l.prog w K mg base CX0 8 fa fd ["_law_script"] (spLaw K):=by
 have e:=hfa.symm.trans (PySem.W.mg_of X G aLa)
 cases e
 have T:Txt K mg:=⟨PySem.W.mg_none_of X G z_len,PySem.W.mg_none_of X G z_range,PySem.W.mg_none_of X G z_list,PySem.W.mg_none_of X G z_tuple,PySem.W.mg_none_of X G z_str,PySem.W.mg_none_of X G z_bool,PySem.W.mg_none_of X G z_int,PySem.W.mg_none_of X G z_min,PySem.W.mg_none_of X G z_repr,PySem.W.mg_none_of X G z_all,PySem.W.mg_none_of X G z_any,PySem.W.mg_none_of X G z_isinstance⟩
 have FB:=fun_mk (st:=top 21) lB cB kB
 have bB:=FB.binds (ps:=["_law_script"]) fun _ _ _ _ _ _ us hl=>by obtain ⟨_,rfl⟩:=len1 hl;rfl
 have DB:Def K mg "_law_begin" (top 21) ["_law_script"] fB _:=⟨FB,PySem.W.mg_of X G aB,bB⟩
 have FP:=fun_mk (st:=top 22) lP cP kP
 have bP:=FP.binds (ps:=["_law_d","_law_many"]) fun _ _ _ _ _ _ us hl=>by obtain ⟨_,_,rfl⟩:=len2 hl;rfl
 have DP:Def K mg "_law_pick" (top 22) ["_law_d","_law_many"] fP _:=⟨FP,PySem.W.mg_of X G aP,bP⟩
 have FO:=fun_mk (st:=top 23) lO cO kO
 have bO:=FO.binds (ps:=["_law_d","_law_things"]) fun _ _ _ _ _ _ us hl=>by obtain ⟨_,_,rfl⟩:=len2 hl;rfl
 have DO:Def K mg "_law_of" (top 23) ["_law_d","_law_things"] fO _:=⟨FO,PySem.W.mg_of X G aO,bO⟩
 have FS:=fun_mk (st:=top 24) lS cS kS
 have bS:=FS.binds (ps:=["_law_found","_law_due"]) fun _ _ _ _ _ _ us hl=>by obtain ⟨_,_,rfl⟩:=len2 hl;rfl
 have DS:Def K mg "_law_same" (top 24) ["_law_found","_law_due"] fS _:=⟨FS,PySem.W.mg_of X G aS,bS⟩
 have FNu:=fun_mk (st:=top 25) lNu cNu kNu
 have bNu:=FNu.binds (ps:=["_law_found"]) fun _ _ _ _ _ _ us hl=>by obtain ⟨_,rfl⟩:=len1 hl;rfl
 have DNu:Def K mg "_law_num" (top 25) ["_law_found"] fNu _:=⟨FNu,PySem.W.mg_of X G aNu,bNu⟩
 have FTi:=fun_mk (st:=top 26) lTi cTi kTi
 have bTi:=FTi.binds (ps:=["_law_d","_law_lanes","_law_wide"]) fun _ _ _ _ _ _ us hl=>by obtain ⟨_,_,_,rfl⟩:=len3 hl;rfl
 have DTi:Def K mg "_law_ties" (top 26) ["_law_d","_law_lanes","_law_wide"] fTi _:=⟨FTi,PySem.W.mg_of X G aTi,bTi⟩
 have FMt:=fun_mk (st:=top 27) lMt cMt kMt
 have bMt:=FMt.binds (ps:=["_law_ties_here","_law_row","_law_top"]) fun _ _ _ _ _ _ us hl=>by obtain ⟨_,_,_,rfl⟩:=len3 hl;rfl
 have DMt:Def K mg "_law_meets" (top 27) ["_law_ties_here","_law_row","_law_top"] fMt _:=⟨FMt,PySem.W.mg_of X G aMt,bMt⟩
 have FIr:=fun_mk (st:=top 28) lIr cIr kIr
 have bIr:=FIr.binds (ps:=["_law_ring_told","_law_lanes","_law_ties_here","_law_top"]) fun _ _ _ _ _ _ us hl=>by obtain ⟨_,_,_,_,rfl⟩:=len4 hl;rfl
 have DIr:Def K mg "_law_is_ring" (top 28) ["_law_ring_told","_law_lanes","_law_ties_here","_law_top"] fIr _:=⟨FIr,PySem.W.mg_of X G aIr,bIr⟩
 have FBr:=fun_mk (st:=top 29) lBr cBr kBr
 have bBr:=FBr.binds (ps:=["_law_row","_law_ties_here"]) fun _ _ _ _ _ _ us hl=>by obtain ⟨_,_,rfl⟩:=len2 hl;rfl
 have DBr:Def K mg "_law_borne" (top 29) ["_law_row","_law_ties_here"] fBr _:=⟨FBr,PySem.W.mg_of X G aBr,bBr⟩
 have FN:=fun_mk (st:=top 13) lN cN kN
 have bN:=FN.binds (ps:=["lanes","ties","most"]) fun _ _ _ _ _ _ us hl=>by obtain ⟨_,_,_,rfl⟩:=len3 hl;rfl
 have DN:Def K mg "need_all" (top 13) ["lanes","ties","most"] fN _:=⟨FN,PySem.W.mg_of X G aN,bN⟩
 have FBo:=fun_mk (st:=top 14) lBo cBo kBo
 have bBo:=FBo.binds (ps:=["lanes","most"]) fun _ _ _ _ _ _ us hl=>by obtain ⟨_,_,rfl⟩:=len2 hl;rfl
 have DBo:Def K mg "bounds" (top 14) ["lanes","most"] fBo _:=⟨FBo,PySem.W.mg_of X G aBo,bBo⟩
 have FR:=fun_mk (st:=top 15) lR cR kR
 have bR:=FR.binds (ps:=["lanes","ties"]) fun _ _ _ _ _ _ us hl=>by obtain ⟨_,_,rfl⟩:=len2 hl;rfl
 have DR:Def K mg "raised" (top 15) ["lanes","ties"] fR _:=⟨FR,PySem.W.mg_of X G aR,bR⟩
 have FL:=fun_mk (st:=top 10) lL cL kL
 have bL:=FL.binds (ps:=["lanes"]) fun _ _ _ _ _ _ us hl=>by obtain ⟨_,rfl⟩:=len1 hl;rfl
 have DL:Def K mg "need_lanes" (top 10) ["lanes"] fL _:=⟨FL,PySem.W.mg_of X G aL,bL⟩
 have FT:=fun_mk (st:=top 11) lT cT kT
 have bT:=FT.binds (ps:=["lanes","ties"]) fun _ _ _ _ _ _ us hl=>by obtain ⟨_,_,rfl⟩:=len2 hl;rfl
 have DT:Def K mg "need_ties" (top 11) ["lanes","ties"] fT _:=⟨FT,PySem.W.mg_of X G aT,bT⟩
 have FM:=fun_mk (st:=top 12) lM cM kM
 have bM:=FM.binds (ps:=["most"]) fun _ _ _ _ _ _ us hl=>by obtain ⟨_,rfl⟩:=len1 hl;rfl
 have DM:Def K mg "need_most" (top 12) ["most"] fM _:=⟨FM,PySem.W.mg_of X G aM,bM⟩
 have FG:=fun_mk (st:=top 18) lG cG kG
 have bG:=FG.binds (ps:=["at","raised_by","many"]) fun _ _ _ _ _ _ us hl=>by obtain ⟨_,_,_,rfl⟩:=len3 hl;rfl
 have DG:Def K mg "ring_behind" (top 18) ["at","raised_by","many"] fG _:=⟨FG,PySem.W.mg_of X G aG,bG⟩
 have FAm:=fun_mk (st:=top 16) lAm cAm kAm
 have FRi:=fun_mk (st:=top 17) lRi cRi kRi
 have FMe:=fun_mk (st:=top 19) lMe cMe kMe
 have FLa:=fun_mk (st:=top 30) lLa cLa kLa
 have TC:TxtC mg:=⟨⟨_,PySem.W.mg_of X G i_LIMIT⟩,⟨_,PySem.W.mg_of X G i_MOST_LANES⟩,⟨_,PySem.W.mg_of X G i_HIGHEST_MOST⟩,⟨_,PySem.W.mg_of X G i_GROUND⟩⟩
 exact ⟨PySem.W.fnOf "law" "law" (defArgs (top 30)) (defBody (top 30)) (defScope (top 30)) .none kVLa dcLa pmLa anLa cdLa ctLa,fun s v=>.of_eq rfl,fun base _ _=>ok_law FLa T TC (PySem.W.mg_none_of X G z_set) (PySem.W.mg_none_of X G z_sum) (PySem.W.mg_none_of X G z_sorted) (PySem.W.mg_of X G i_MOST_AMOUNT) DB DP DO DS DNu DTi DMt DIr DBr DN DBo DR DL DT DM DG FAm (PySem.W.mg_of X G aAm) FRi (PySem.W.mg_of X G aRi) FMe (PySem.W.mg_of X G aMe) hdAm hdRi⟩
end Cm
open PySem PySem.W PyProof.Rows
set_option maxRecDepth 100000 in
set_option maxHeartbeats 0 in
theorem PySem.Challenge.cw_lanescribe_k25_whole_amounts_or_a_ring_holds : PySem.Challenge.rw_lanescribe_k25_whole_amounts_or_a_ring.Holds := by
 w_on
 refine Kd.head ?hw (by rfl) (by rfl) (by rfl) ?hc
 (case hw=>w_witness2)
 k_fill
 refine L2.walk_of (l:=PySem.Challenge.rw_lanescribe_k25_whole_amounts_or_a_ring) (n:=63) (k:=8) (x:="_law_script") (CX:=fun _=>L2.CX0) (sp:=fun w=>Cm.spLaw _) rfl (by decide) rfl ⟨rfl,by decide,by decide,rfl⟩ (fun w h Y=>PySem.W.kIn_of Y) ?F (fun _ _ a ns hl _ hS=>⟨a,ns,rfl,hS,hl,fun _=>rfl⟩) fun _ _ _ _ _ z=>z
 case F=>
  intro w mg fa h KX G hmg
  refine' Cm.all_mk KX G hmg ?aB ?lB ?cB ?kB ?aP ?lP ?cP ?kP ?aO ?lO ?cO ?kO ?aS ?lS ?cS ?kS ?aNu ?lNu ?cNu ?kNu ?aTi ?lTi ?cTi ?kTi ?aMt ?lMt ?cMt ?kMt ?aIr ?lIr ?cIr ?kIr ?aBr ?lBr ?cBr ?kBr ?aN ?lN ?cN ?kN ?aBo ?lBo ?cBo ?kBo ?aR ?lR ?cR ?kR ?aL ?lL ?cL ?kL ?aT ?lT ?cT ?kT ?aM ?lM ?cM ?kM ?aG ?lG ?cG ?kG ?aAm ?lAm ?cAm ?kAm ?aRi ?lRi ?cRi ?kRi ?aMe ?lMe ?cMe ?kMe ?aLa ?lLa ?cLa ?kLa ?z_len ?z_range ?z_list ?z_tuple ?z_str ?z_bool ?z_int ?z_min ?z_repr ?z_all ?z_any ?z_isinstance ?z_set ?z_sum ?z_sorted ?i_LIMIT ?i_MOST_LANES ?i_HIGHEST_MOST ?i_GROUND ?i_MOST_AMOUNT ?hdAm ?hdRi
  (case aB=>k_is)
  (case lB=>k_is)
  (case cB=>k_is)
  (case kB=>k_is)
  (case aP=>k_is)
  (case lP=>k_is)
  (case cP=>k_is)
  (case kP=>k_is)
  (case aO=>k_is)
  (case lO=>k_is)
  (case cO=>k_is)
  (case kO=>k_is)
  (case aS=>k_is)
  (case lS=>k_is)
  (case cS=>k_is)
  (case kS=>k_is)
  (case aNu=>k_is)
  (case lNu=>k_is)
  (case cNu=>k_is)
  (case kNu=>k_is)
  (case aTi=>k_is)
  (case lTi=>k_is)
  (case cTi=>k_is)
  (case kTi=>k_is)
  (case aMt=>k_is)
  (case lMt=>k_is)
  (case cMt=>k_is)
  (case kMt=>k_is)
  (case aIr=>k_is)
  (case lIr=>k_is)
  (case cIr=>k_is)
  (case kIr=>k_is)
  (case aBr=>k_is)
  (case lBr=>k_is)
  (case cBr=>k_is)
  (case kBr=>k_is)
  (case aN=>k_is)
  (case lN=>k_is)
  (case cN=>k_is)
  (case kN=>k_is)
  (case aBo=>k_is)
  (case lBo=>k_is)
  (case cBo=>k_is)
  (case kBo=>k_is)
  (case aR=>k_is)
  (case lR=>k_is)
  (case cR=>k_is)
  (case kR=>k_is)
  (case aL=>k_is)
  (case lL=>k_is)
  (case cL=>k_is)
  (case kL=>k_is)
  (case aT=>k_is)
  (case lT=>k_is)
  (case cT=>k_is)
  (case kT=>k_is)
  (case aM=>k_is)
  (case lM=>k_is)
  (case cM=>k_is)
  (case kM=>k_is)
  (case aG=>k_is)
  (case lG=>k_is)
  (case cG=>k_is)
  (case kG=>k_is)
  (case aAm=>k_is)
  (case lAm=>k_is)
  (case cAm=>k_is)
  (case kAm=>k_is)
  (case aRi=>k_is)
  (case lRi=>k_is)
  (case cRi=>k_is)
  (case kRi=>k_is)
  (case aMe=>k_is)
  (case lMe=>k_is)
  (case cMe=>k_is)
  (case kMe=>k_is)
  (case aLa=>k_is)
  (case lLa=>k_is)
  (case cLa=>k_is)
  (case kLa=>k_is)
  (case z_len=>k_is)
  (case z_range=>k_is)
  (case z_list=>k_is)
  (case z_tuple=>k_is)
  (case z_str=>k_is)
  (case z_bool=>k_is)
  (case z_int=>k_is)
  (case z_min=>k_is)
  (case z_repr=>k_is)
  (case z_all=>k_is)
  (case z_any=>k_is)
  (case z_isinstance=>k_is)
  (case z_set=>k_is)
  (case z_sum=>k_is)
  (case z_sorted=>k_is)
  (case i_LIMIT=>k_is)
  (case i_MOST_LANES=>k_is)
  (case i_HIGHEST_MOST=>k_is)
  (case i_GROUND=>k_is)
  (case i_MOST_AMOUNT=>k_is)
  (case hdAm=>intros;kernel_rfl)
  (case hdRi=>intros;kernel_rfl)
