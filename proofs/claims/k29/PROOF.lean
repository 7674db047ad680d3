import PyProof.Rows.All
import Wide.All
import OpenK.AllK
import Wide.FinOn
import KE.KNestM
import Lean
import PyProof.EqAt
import PyProof.EqKinds
import PyProof.TupleCall
import PyProof.StationsW
import PyProof.ExcBaseAll.ValueError
import PyProof.InstStoreFacts
import PyProof.RulesAs
import PyProof.RulesDel
import KE.KLam
import PyProof.ExcArgsOwn
import PyProof.AutoListH
import PyProof.StrWalks
import PyProof.StrBlockH
import PyProof.WalkInts
import PyProof.SeqI3
import PyProof.Rows.SetFrom
import PyProof.ZipIter
import KE.KTabLook
import PyProof.StrLaws
import KE.KIntText
import KE.KStrOpen
import PyProof.StrLawsTight
import PyProof.Rows.StrFit
import PyProof.Draws
import PyProof.EnumMake
import PyProof.StrCalls2
import PyProof.Rows.StrSplitJoin
import PyProof.CollectIter
import PyProof.StrBlock2
import PyProof.Rows.SortWalk
import PyProof.Rows.CallKwBuiltin
import KE.KMinBuiltin
import KE.KRevSl
import PyProof.DictItemsLoops
import PyProof.CollectWalk
import PyProof.ListRange
import KE.KSortAsk
import PySem.Challenge.RW_lanescribe_k29_whole_one_order_or_a_ring
set_option Elab.async false
set_option linter.all false
set_option maxRecDepth 1000000
set_option maxHeartbeats 0
namespace Kd
open PySem PySem.W
noncomputable section
theorem xf {p q:Program} {loose:List Str} {Xt:Shared->Bool} {α:Type} {Yf:Shared->α} {Ya:World->α} {N:Nat} (e:opening p=plainProg p.main.scope.names) (hN:Nat.ble 600 N=true) (f:∀ s,fenceModules? p s=some s)
 (h:∀ (w:World) (os:OsState),(topFrom treeTable p w N ⟨boot_heap w.params,Array.mk [],boot_drawn,boot_toks,os⟩).map (fun s=>(openSeen q loose (importedModules p.main.body) Xt true s,Yf s))=some (openGood q loose,Ya w)):LeftO p q loose Xt Yf Ya N:=fun w=>by
 obtain ⟨⟨h',gs,d,k,os⟩,e1,e2⟩:=Option.map_eq_some_iff.mp (boot_open e hN f w)
 obtain ⟨rfl,rfl,rfl,rfl⟩:h'=boot_heap w.params/\gs=Array.mk []/\d=boot_drawn/\k=boot_toks:=by simpa using e2
 unfold openEnds
 rw [e1]
 exact h w os
abbrev u (x:String):Str:=Str.ofString x
abbrev vs (x:String) (t:Nat):Value:=.str (Str.ofString x) t
abbrev vi (x:Int) (t:Nat):Value:=.int x t
abbrev vr (x:Nat):Value:=.ref x
abbrev vt (x:String):Value:=.type x
abbrev vn:Value:=.none
abbrev vb:Value:=.bool true
abbrev vf (t:Nat):Value:=.str (Str.ofString "/claim/cut.py") t
abbrev ot (x:Array Value):Obj:={ cls:=.type "tuple",data:=Data.seq x }
abbrev oc (x:Array Value):Obj:={ cls:=.type "code",data:=Data.fields x }
abbrev of (n q:String) (a:Arguments) (b:List Stmt) (s:Scope) (d m c:Value):Obj:={ cls:=.type "function",data:=Data.func { name:=Str.ofString n,qualname:=Str.ofString q,params:=a,body:=FuncBody.stmts b,scope:=s,globals:=3,closure:=[],defaults:=d,kwdefaults:=.none,pyModule:=m,code:=c } }
abbrev de (P:Params) (x:String) (t:Nat) (v:Value):DictEntry:={ hash:=PyData.keyHash P (Str.ofString x),key:=.str (Str.ofString x) t,val:=v }
def tp (i:Nat):Stmt:=PySem.Challenge.pw_lanescribe_k29_whole_one_order_or_a_ring.main.body.getD i (.Pass ⟨0,0,0,0⟩)
def meth (i j:Nat):Stmt:=match tp i with
 |.ClassDef _ _ _ body _ _ _ _ _ _ _=>body.getD j (.Pass ⟨0,0,0,0⟩)
 |_=>.Pass ⟨0,0,0,0⟩
def dA (s:Stmt):Arguments:=match s with
 |.FunctionDef _ a _ _ _ _ _ _ _ _=>a
 |_=>{ posonlyargs:=[],args:=[],vararg:=none,kwonlyargs:=[],kw_defaults:=[],kwarg:=none,defaults:=[] }
def dB (s:Stmt):List Stmt:=match s with
 |.FunctionDef _ _ b _ _ _ _ _ _ _=>b
 |_=>[]
def dS (s:Stmt):Scope:=match s with
 |.FunctionDef _ _ _ _ _ _ sc _ _ _=>sc
 |_=>{ kind:=.function,names:=[],isGenerator:=false,isCoroutine:=false }
abbrev TA (i:Nat):Arguments:=dA (tp i)
abbrev TB (i:Nat):List Stmt:=dB (tp i)
abbrev TS (i:Nat):Scope:=dS (tp i)
abbrev MA (i j:Nat):Arguments:=dA (meth i j)
abbrev MB (i j:Nat):List Stmt:=dB (meth i j)
abbrev MS (i j:Nat):Scope:=dS (meth i j)
abbrev og (n q:String) (a:Arguments) (b:List Stmt) (s:Scope):Obj:={ cls:=.none,data:=Data.func { name:=Str.ofString n,qualname:=Str.ofString q,params:=a,body:=FuncBody.stmts b,scope:=s,globals:=0,closure:=[],defaults:=.none,kwdefaults:=.none } }
abbrev gt (n:String) (i:Nat):Obj:=og n n (TA i) (TB i) (TS i)
abbrev gm (n q:String) (i j:Nat):Obj:=og n q (MA i j) (MB i j) (MS i j)
abbrev ft (n:String) (i:Nat):Value->Value->Value->Obj:=of n n (TA i) (TB i) (TS i)
abbrev fm (n q:String) (i j:Nat):Value->Value->Value->Obj:=of n q (MA i j) (MB i j) (MS i j)
abbrev oq (n:String) (a:Nat) (q:String) (b c:Nat) (l k:Int) (r s:Nat) (x y z:Value) (t:Int) (d:Nat):Obj:=oc #[vs n a,vs q b,vf c,vi l 0,vi k 0,vi 0 0,vi 0 0,vi 3 0,vr r,vb,vi 181 0,vr s,vn,x,y,z,vi t 0,vi l 0,vf d]
abbrev ok (n:String) (a b c:Nat) (l k:Int) (r s:Nat) (x y z:Value) (t:Int) (d:Nat):Obj:=oq n a n b c l k r s x y z t d
abbrev z1:Value:=vs "lanescribe.errors" 187
abbrev z2:Value:=vs "law_lanescribe_k29_whole_one_order_or_a_ring" 477
abbrev z3:Value:=vs "lanescribe.clocks" 351
abbrev z4:Value:=vs "lanescribe.merge" 441
def o0:Obj:=ot #[]
def o1:Obj:={ cls:=vn,data:=Data.fields #[] }
def o2:Obj:=oc #[vs "<module>" 182,vs "<module>" 183,vf 184,vi 1 0,vi 0 0,vi 0 0,vi 0 0,vi 0 0,vr 11,Value.bool false,vi 181 0,vr 12,vn,vn,vn,vn,vi 185 0,vi 1 0,vf 186]
def o3:Obj:={ cls:=vt "frame",slots:=#[some (vr 13),some (vr 3),some (vr 3),none,some (vs "__main__" 164),none,some (vr 0)] }
def o4 (P:Params):Obj:={ cls:=vt "dict",data:=Data.dict #[de P "__name__" 165 z1,de P "__doc__" 166 (vn),de P "__package__" 167 (vn),de P "__loader__" 168 (Value.builtin "__main__.__loader__#opaque"),de P "__spec__" 169 (vn),de P "__annotations__" 170 (vr 6),de P "__builtins__" 171 (vr 4),de P "__file__" 173 (vf 172),de P "__cached__" 174 (vn),de P "ScribeError" 218 (vr 32),de P "BadSize" 243 (vr 53),de P "BadTie" 268 (vr 73),de P "BadCause" 293 (vr 93),de P "BadValue" 318 (vr 112)] 14 }
def o5:Obj:={ cls:=vn,data:=Data.fields #[vi 2 0,vi 0 0,vr 20,vi 7 0,vi 0 0,vr 41,vi 11 0,vi 0 0,vr 61,vi 15 0,vi 0 0,vr 81,vi 19 0,vi 0 0,vr 101] }
def o6:Obj:=ot #[vt "ValueError"]
def o7:Obj:={ cls:=vt "builtin_function_or_method",data:=Data.fields #[Value.builtin "type.__prepare__",vt "type"] }
def o8 (P:Params):Obj:={ cls:=vt "dict",data:=Data.dict #[de P "__module__" 196 z1,de P "__qualname__" 198 (vs "ScribeError" 197),de P "__firstlineno__" 200 (vi 2 199),de P "__init__" 211 (vr 29),de P "__static_attributes__" 213 (vr 30)] 5 }
def o9:Obj:={ cls:=vn,data:=Data.fields #[vi 4 0,vi 4 0,vr 28] }
def Ow:Obj:=oc #[vs "ScribeError" 191,vs "ScribeError" 192,vf 193,vi 2 0,vi 0 0,vi 0 0,vi 0 0,vi 0 0,vr 18,Value.bool false,vi 181 0,vr 19,vn,vn,vn,vn,vi 194 0,vi 2 0,vf 195]
def Q7:Obj:={ cls:=vt "frame",slots:=#[some (vr 20),some (vr 3),some (vr 17),none,some z1,none,some (vr 0)] }
def My:Obj:=ot #[vs "" 201,vs "scribeerror" 202]
def Ma:Obj:=ot #[vs "self" 206,vs "words" 207,vs "word" 208]
def PQ:Obj:=gm "__init__" "ScribeError.__init__" 1 0
def Nr:Obj:=oq "__init__" 203 "ScribeError.__init__" 204 205 4 3 23 24 (vr 25) (vr 26) (vr 27) 209 210
def L_:Obj:=fm "__init__" "ScribeError.__init__" 1 0 (vr 22) z1 (vr 28)
def LQ:Obj:=ot #[vs "word" 212]
def Lq (P:Params):Obj:={ cls:=vt "dict",data:=Data.dict #[de P "__module__" 196 z1,de P "__firstlineno__" 200 (vi 2 199),de P "__init__" 211 (vr 29),de P "__static_attributes__" 213 (vr 30),de P "__weakref__" 215 (vr 33),de P "__doc__" 216 (vn)] 3 }
def Nj:Obj:={ cls:=vt "type",data:=Data.cls { name:=u "ScribeError",bases:=[vt "ValueError"],mro:=[vr 32,vt "ValueError",vt "Exception",vt "BaseException",vt "object"],ns:=31,qualname:=u "ScribeError",subclasses:=[vr 53,vr 73,vr 93,vr 112] },slots:=#[some (vr 15),none,some (vs "ScribeError" 189),some (vs "ScribeError" 197),some (Value.builtin "ValueError.__new__"),some (vb)] }
def Ly:Obj:={ cls:=vt "getset_descriptor",data:=Data.fields #[vs "__weakref__" 214,vr 32,Value.builtin "ExceptionGroup.__weakref__",vn] }
def NK:Obj:={ cls:=vt "super",data:=Data.fields #[vr 32,vr 32,vr 32] }
def Q0:Obj:={ cls:=vt "builtin_function_or_method",data:=Data.fields #[Value.builtin "object.__init_subclass__",vr 32] }
def xU:Obj:=ot #[vr 32]
def O8 (P:Params):Obj:={ cls:=vt "dict",data:=Data.dict #[de P "__module__" 226 z1,de P "__qualname__" 228 (vs "BadSize" 227),de P "__firstlineno__" 230 (vi 7 229),de P "__init__" 239 (vr 50),de P "__static_attributes__" 240 (vr 51)] 5 }
def Py:Obj:={ cls:=vn,data:=Data.fields #[vi 9 0,vi 4 0,vr 49] }
def Nz:Obj:=oc #[vs "BadSize" 221,vs "BadSize" 222,vf 223,vi 7 0,vi 0 0,vi 0 0,vi 0 0,vi 0 0,vr 39,Value.bool false,vi 181 0,vr 40,vn,vn,vn,vn,vi 224 0,vi 7 0,vf 225]
def Oq:Obj:={ cls:=vt "frame",slots:=#[some (vr 41),some (vr 3),some (vr 38),none,some z1,none,some (vr 0)] }
def Ml:Obj:=ot #[vs "" 231]
def KY:Obj:=ot #[vs "self" 235,vs "words" 236]
def Oh:Obj:=gm "__init__" "BadSize.__init__" 2 0
def Lr:Obj:=oq "__init__" 232 "BadSize.__init__" 233 234 9 2 44 45 (vr 46) (vr 47) (vr 48) 237 238
def K_:Obj:=fm "__init__" "BadSize.__init__" 2 0 (vr 43) z1 (vr 49)
def Nh (P:Params):Obj:={ cls:=vt "dict",data:=Data.dict #[de P "__module__" 226 z1,de P "__firstlineno__" 230 (vi 7 229),de P "__init__" 239 (vr 50),de P "__static_attributes__" 240 (vr 51),de P "__doc__" 241 (vn)] 2 }
def Mt:Obj:={ cls:=vt "type",data:=Data.cls { name:=u "BadSize",bases:=[vr 32],mro:=[vr 53,vr 32,vt "ValueError",vt "Exception",vt "BaseException",vt "object"],ns:=52,qualname:=u "BadSize" },slots:=#[some (vr 36),none,some (vs "BadSize" 219),some (vs "BadSize" 227),some (Value.builtin "ValueError.__new__"),some (vb)] }
def O7:Obj:={ cls:=vt "super",data:=Data.fields #[vr 53,vr 53,vr 53] }
def O2:Obj:={ cls:=vt "builtin_function_or_method",data:=Data.fields #[Value.builtin "object.__init_subclass__",vr 53] }
def Oa (P:Params):Obj:={ cls:=vt "dict",data:=Data.dict #[de P "__module__" 251 z1,de P "__qualname__" 253 (vs "BadTie" 252),de P "__firstlineno__" 255 (vi 11 254),de P "__init__" 264 (vr 70),de P "__static_attributes__" 265 (vr 71)] 5 }
def PJ:Obj:={ cls:=vn,data:=Data.fields #[vi 13 0,vi 4 0,vr 69] }
def Ob:Obj:=oc #[vs "BadTie" 246,vs "BadTie" 247,vf 248,vi 11 0,vi 0 0,vi 0 0,vi 0 0,vi 0 0,vr 59,Value.bool false,vi 181 0,vr 60,vn,vn,vn,vn,vi 249 0,vi 11 0,vf 250]
def Q5:Obj:={ cls:=vt "frame",slots:=#[some (vr 61),some (vr 3),some (vr 58),none,some z1,none,some (vr 0)] }
def LC:Obj:=ot #[vs "" 256]
def M3:Obj:=ot #[vs "self" 260,vs "words" 261]
def OD:Obj:=gm "__init__" "BadTie.__init__" 3 0
def Lj:Obj:=oq "__init__" 257 "BadTie.__init__" 258 259 13 2 64 65 (vr 66) (vr 67) (vr 68) 262 263
def MP:Obj:=fm "__init__" "BadTie.__init__" 3 0 (vr 63) z1 (vr 69)
def KJ (P:Params):Obj:={ cls:=vt "dict",data:=Data.dict #[de P "__module__" 251 z1,de P "__firstlineno__" 255 (vi 11 254),de P "__init__" 264 (vr 70),de P "__static_attributes__" 265 (vr 71),de P "__doc__" 266 (vn)] 2 }
def Ms:Obj:={ cls:=vt "type",data:=Data.cls { name:=u "BadTie",bases:=[vr 32],mro:=[vr 73,vr 32,vt "ValueError",vt "Exception",vt "BaseException",vt "object"],ns:=72,qualname:=u "BadTie" },slots:=#[some (vr 56),none,some (vs "BadTie" 244),some (vs "BadTie" 252),some (Value.builtin "ValueError.__new__"),some (vb)] }
def Pq:Obj:={ cls:=vt "super",data:=Data.fields #[vr 73,vr 73,vr 73] }
def O4:Obj:={ cls:=vt "builtin_function_or_method",data:=Data.fields #[Value.builtin "object.__init_subclass__",vr 73] }
def O1 (P:Params):Obj:={ cls:=vt "dict",data:=Data.dict #[de P "__module__" 276 z1,de P "__qualname__" 278 (vs "BadCause" 277),de P "__firstlineno__" 280 (vi 15 279),de P "__init__" 289 (vr 90),de P "__static_attributes__" 290 (vr 91)] 5 }
def Pa:Obj:={ cls:=vn,data:=Data.fields #[vi 17 0,vi 4 0,vr 89] }
def Ou:Obj:=oc #[vs "BadCause" 271,vs "BadCause" 272,vf 273,vi 15 0,vi 0 0,vi 0 0,vi 0 0,vi 0 0,vr 79,Value.bool false,vi 181 0,vr 80,vn,vn,vn,vn,vi 274 0,vi 15 0,vf 275]
def PB:Obj:={ cls:=vt "frame",slots:=#[some (vr 81),some (vr 3),some (vr 78),none,some z1,none,some (vr 0)] }
def MF:Obj:=ot #[vs "" 281]
def Mi:Obj:=ot #[vs "self" 285,vs "words" 286]
def N_:Obj:=gm "__init__" "BadCause.__init__" 4 0
def Nm:Obj:=oq "__init__" 282 "BadCause.__init__" 283 284 17 2 84 85 (vr 86) (vr 87) (vr 88) 287 288
def La:Obj:=fm "__init__" "BadCause.__init__" 4 0 (vr 83) z1 (vr 89)
def N5 (P:Params):Obj:={ cls:=vt "dict",data:=Data.dict #[de P "__module__" 276 z1,de P "__firstlineno__" 280 (vi 15 279),de P "__init__" 289 (vr 90),de P "__static_attributes__" 290 (vr 91),de P "__doc__" 291 (vn)] 2 }
def Mq:Obj:={ cls:=vt "type",data:=Data.cls { name:=u "BadCause",bases:=[vr 32],mro:=[vr 93,vr 32,vt "ValueError",vt "Exception",vt "BaseException",vt "object"],ns:=92,qualname:=u "BadCause" },slots:=#[some (vr 76),none,some (vs "BadCause" 269),some (vs "BadCause" 277),some (Value.builtin "ValueError.__new__"),some (vb)] }
def P0:Obj:={ cls:=vt "super",data:=Data.fields #[vr 93,vr 93,vr 93] }
def Ov:Obj:={ cls:=vt "builtin_function_or_method",data:=Data.fields #[Value.builtin "object.__init_subclass__",vr 93] }
def Ot (P:Params):Obj:={ cls:=vt "dict",data:=Data.dict #[de P "__module__" 301 z1,de P "__qualname__" 303 (vs "BadValue" 302),de P "__firstlineno__" 305 (vi 19 304),de P "__init__" 313 (vr 109),de P "__static_attributes__" 315 (vr 110)] 5 }
def PN:Obj:={ cls:=vn,data:=Data.fields #[vi 21 0,vi 4 0,vr 108] }
def Q3:Obj:=oc #[vs "BadValue" 296,vs "BadValue" 297,vf 298,vi 19 0,vi 0 0,vi 0 0,vi 0 0,vi 0 0,vr 99,Value.bool false,vi 181 0,vr 100,vn,vn,vn,vn,vi 299 0,vi 19 0,vf 300]
def NT:Obj:={ cls:=vt "frame",slots:=#[some (vr 101),some (vr 3),some (vr 98),none,some z1,none,some (vr 0)] }
def M7:Obj:=ot #[vs "self" 309,vs "at" 310]
def Pz:Obj:=gm "__init__" "BadValue.__init__" 5 0
def Nq:Obj:=oq "__init__" 306 "BadValue.__init__" 307 308 21 2 103 104 (vr 105) (vr 106) (vr 107) 311 312
def Le:Obj:=fm "__init__" "BadValue.__init__" 5 0 vn z1 (vr 108)
def M9:Obj:=ot #[vs "at" 314]
def Mx (P:Params):Obj:={ cls:=vt "dict",data:=Data.dict #[de P "__module__" 301 z1,de P "__firstlineno__" 305 (vi 19 304),de P "__init__" 313 (vr 109),de P "__static_attributes__" 315 (vr 110),de P "__doc__" 316 (vn)] 2 }
def Mv:Obj:={ cls:=vt "type",data:=Data.cls { name:=u "BadValue",bases:=[vr 32],mro:=[vr 112,vr 32,vt "ValueError",vt "Exception",vt "BaseException",vt "object"],ns:=111,qualname:=u "BadValue" },slots:=#[some (vr 96),none,some (vs "BadValue" 294),some (vs "BadValue" 302),some (Value.builtin "ValueError.__new__"),some (vb)] }
def Oj:Obj:={ cls:=vt "super",data:=Data.fields #[vr 112,vr 112,vr 112] }
def Pr:Obj:={ cls:=vt "builtin_function_or_method",data:=Data.fields #[Value.builtin "object.__init_subclass__",vr 112] }
def Qk (P:Params):Obj:={ cls:=vt "dict",data:=Data.dict #[de P "__name__" 165 z2,de P "__doc__" 166 (vn),de P "__package__" 167 (vn),de P "__loader__" 168 (Value.builtin "__main__.__loader__#opaque"),de P "__spec__" 169 (vn),de P "__annotations__" 170 (vr 6),de P "__builtins__" 171 (vr 4),de P "__file__" 173 (vf 172),de P "__cached__" 174 (vn),de P "ScribeError" 218 (vr 32),de P "BadSize" 243 (vr 53),de P "BadTie" 268 (vr 73),de P "BadCause" 293 (vr 93),de P "BadValue" 318 (vr 112),de P "Missing" 348 (vr 132),de P "LIMIT" 350 (vi 999999 349),de P "MOST_AMOUNT" 354 (vi 99999 353),de P "MOST_LANES" 356 (vi 6 355),de P "HIGHEST_MOST" 360 (vi 1000000000000 359),de P "GROUND" 363 (vi (-1) 362),de P "need_lanes" 370 (vr 142),de P "need_ties" 381 (vr 149),de P "need_most" 388 (vr 156),de P "need_all" 397 (vr 163),de P "bounds" 403 (vr 168),de P "raised" 409 (vr 173),de P "amounts" 416 (vr 179),de P "ring" 429 (vr 187),de P "ring_behind" 440 (vr 194),de P "need_cause" 452 (vr 201),de P "ties_of" 458 (vr 206),de P "merged" 464 (vr 211),de P "ordered" 476 (vr 219),de P "_law_begin" 487 (vr 226),de P "_law_pick" 498 (vr 233),de P "_law_of" 506 (vr 240)] 36 }
def Qm:Obj:={ cls:=vn,data:=Data.fields #[vi 2 0,vi 0 0,vr 20,vi 7 0,vi 0 0,vr 41,vi 11 0,vi 0 0,vr 61,vi 15 0,vi 0 0,vr 81,vi 19 0,vi 0 0,vr 101,vi 24 0,vi 0 0,vr 120,vi 35 0,vi 0 0,vr 141,vi 38 0,vi 0 0,vr 148,vi 44 0,vi 0 0,vr 155,vi 47 0,vi 0 0,vr 162,vi 51 0,vi 0 0,vr 167,vi 54 0,vi 0 0,vr 172,vi 68 0,vi 0 0,vr 178,vi 72 0,vi 0 0,vr 186,vi 76 0,vi 0 0,vr 193,vi 84 0,vi 0 0,vr 200,vi 89 0,vi 0 0,vr 205,vi 93 0,vi 0 0,vr 210,vi 98 0,vi 0 0,vr 218,vi 106 0,vi 0 0,vr 225,vi 111 0,vi 0 0,vr 232,vi 126 0,vi 0 0,vr 239] }
def Pn:Obj:=ot #[vt "LookupError"]
def QC (P:Params):Obj:={ cls:=vt "dict",data:=Data.dict #[de P "__module__" 326 z1,de P "__qualname__" 328 (vs "Missing" 327),de P "__firstlineno__" 330 (vi 24 329),de P "__init__" 341 (vr 129),de P "__static_attributes__" 343 (vr 130)] 5 }
def Qt:Obj:={ cls:=vn,data:=Data.fields #[vi 26 0,vi 4 0,vr 128] }
def Qq:Obj:=oc #[vs "Missing" 321,vs "Missing" 322,vf 323,vi 24 0,vi 0 0,vi 0 0,vi 0 0,vi 0 0,vr 118,Value.bool false,vi 181 0,vr 119,vn,vn,vn,vn,vi 324 0,vi 24 0,vf 325]
def Qa:Obj:={ cls:=vt "frame",slots:=#[some (vr 120),some (vr 3),some (vr 117),none,some z1,none,some (vr 0)] }
def Od:Obj:=ot #[vs "" 331,vs "missing" 332]
def O_:Obj:=ot #[vs "self" 336,vs "words" 337,vs "word" 338]
def Qh:Obj:=gm "__init__" "Missing.__init__" 6 0
def Ph:Obj:=oq "__init__" 333 "Missing.__init__" 334 335 26 3 123 124 (vr 125) (vr 126) (vr 127) 339 340
def PL:Obj:=fm "__init__" "Missing.__init__" 6 0 (vr 122) z1 (vr 128)
def Ox:Obj:=ot #[vs "word" 342]
def O5 (P:Params):Obj:={ cls:=vt "dict",data:=Data.dict #[de P "__module__" 326 z1,de P "__firstlineno__" 330 (vi 24 329),de P "__init__" 341 (vr 129),de P "__static_attributes__" 343 (vr 130),de P "__weakref__" 345 (vr 133),de P "__doc__" 346 (vn)] 3 }
def PP:Obj:={ cls:=vt "type",data:=Data.cls { name:=u "Missing",bases:=[vt "LookupError"],mro:=[vr 132,vt "LookupError",vt "Exception",vt "BaseException",vt "object"],ns:=131,qualname:=u "Missing" },slots:=#[some (vr 115),none,some (vs "Missing" 319),some (vs "Missing" 327),some (Value.builtin "LookupError.__new__"),some (vb)] }
def Ol:Obj:={ cls:=vt "getset_descriptor",data:=Data.fields #[vs "__weakref__" 344,vr 132,Value.builtin "ExceptionGroup.__weakref__",vn] }
def Qn:Obj:={ cls:=vt "super",data:=Data.fields #[vr 132,vr 132,vr 132] }
def Qc:Obj:={ cls:=vt "builtin_function_or_method",data:=Data.fields #[Value.builtin "object.__init_subclass__",vr 132] }
def Oz:Obj:=ot #[vs "lanes" 367]
def Qs:Obj:=gt "need_lanes" 13
def NP:Obj:=ok "need_lanes" 364 365 366 35 1 136 137 (vr 138) (vr 139) (vr 140) 368 369
def Oc:Obj:=ft "need_lanes" 13 vn z3 (vr 141)
def OJ:Obj:=ot #[vs "lanes" 374,vs "ties" 375,vs "one" 376,vs "other" 377,vs "least" 378]
def Qo:Obj:=gt "need_ties" 14
def o100:Obj:=ok "need_ties" 371 372 373 38 2 143 144 (vr 145) (vr 146) (vr 147) 379 380
def Hz:Obj:=ft "need_ties" 14 vn z3 (vr 148)
def Jh:Obj:=ot #[vs "most" 385]
def Ni:Obj:=gt "need_most" 15
def Kc:Obj:=ok "need_most" 382 383 384 44 1 150 151 (vr 152) (vr 153) (vr 154) 386 387
def Ip:Obj:=ft "need_most" 15 vn z3 (vr 155)
def JW:Obj:=ot #[vs "lanes" 392,vs "ties" 393,vs "most" 394]
def Lx:Obj:=gt "need_all" 16
def Ir:Obj:=ok "need_all" 389 390 391 47 3 157 158 (vr 159) (vr 160) (vr 161) 395 396
def Js:Obj:=ft "need_all" 16 vn z3 (vr 162)
def Nk:Obj:=gt "bounds" 17
def o111:Obj:=ok "bounds" 398 399 400 51 2 164 165 vn vn (vr 166) 401 402
def JQ:Obj:=ft "bounds" 17 vn z3 (vr 167)
def Mz:Obj:=gt "raised" 18
def K3:Obj:=ok "raised" 404 405 406 54 2 169 170 vn vn (vr 171) 407 408
def Ha:Obj:=ft "raised" 18 vn z3 (vr 172)
def Jx (P:Params):Obj:={ cls:=vt "dict",data:=Data.dict #[de P "most" 410 (vi 99999 353)] 1 }
def Lz:Obj:=gt "amounts" 19
def J5:Obj:=oc #[vs "amounts" 411,vs "amounts" 412,vf 413,vi 68 0,vi 2 0,vi 0 0,vi 1 0,vi 3 0,vr 175,vb,vi 181 0,vr 176,vn,vn,vn,vr 177,vi 414 0,vi 68 0,vf 415]
def Gv:Obj:={ cls:=vt "function",data:=Data.func { name:=u "amounts",qualname:=u "amounts",params:=TA 19,body:=FuncBody.stmts (TB 19),scope:=TS 19,globals:=3,closure:=[],defaults:=vn,kwdefaults:=vr 174,pyModule:=z3,code:=vr 178 } }
def Hh (P:Params):Obj:={ cls:=vt "dict",data:=Data.dict #[de P "most" 417 (vi 99999 353)] 1 }
def JK:Obj:=ot #[vs "lanes" 421,vs "ties" 422,vs "most" 423,vs "heights" 424,vs "raised_by" 425,vs "still" 426]
def Mg:Obj:=gt "ring" 20
def JV:Obj:=oc #[vs "ring" 418,vs "ring" 419,vf 420,vi 72 0,vi 2 0,vi 0 0,vi 1 0,vi 3 0,vr 181,vb,vi 181 0,vr 182,vn,vr 183,vr 184,vr 185,vi 427 0,vi 72 0,vf 428]
def Jj:Obj:={ cls:=vt "function",data:=Data.func { name:=u "ring",qualname:=u "ring",params:=TA 20,body:=FuncBody.stmts (TB 20),scope:=TS 20,globals:=3,closure:=[],defaults:=vn,kwdefaults:=vr 180,pyModule:=z3,code:=vr 186 } }
def HS:Obj:=ot #[vs "at" 433,vs "raised_by" 434,vs "many" 435,vs "turn" 436,vs "found" 437]
def Ld:Obj:=gt "ring_behind" 21
def J8:Obj:=ok "ring_behind" 430 431 432 76 3 188 189 (vr 190) (vr 191) (vr 192) 438 439
def Jg:Obj:=ft "ring_behind" 21 vn z3 (vr 193)
def Hu:Obj:=ot #[vs "lane" 446,vs "time" 447,vs "other" 448,vs "second" 449]
def Np:Obj:=gt "need_cause" 23
def HN:Obj:=ok "need_cause" 443 444 445 84 4 195 196 (vr 197) (vr 198) (vr 199) 450 451
def Gu:Obj:=ft "need_cause" 23 vn z4 (vr 200)
def Lw:Obj:=gt "ties_of" 24
def K7:Obj:=ok "ties_of" 453 454 455 89 1 202 203 vn vn (vr 204) 456 457
def K8:Obj:=ft "ties_of" 24 vn z4 (vr 205)
def Nu:Obj:=gt "merged" 25
def Hb:Obj:=ok "merged" 459 460 461 93 2 207 208 vn vn (vr 209) 462 463
def J0:Obj:=ft "merged" 25 vn z4 (vr 210)
def Jt (P:Params):Obj:={ cls:=vt "dict",data:=Data.dict #[de P "most" 465 (vi 99999 353)] 1 }
def Hs:Obj:=ot #[vs "rows" 469,vs "causes" 470,vs "most" 471,vs "ties" 472,vs "least" 473]
def Mm:Obj:=gt "ordered" 26
def J_:Obj:=oc #[vs "ordered" 466,vs "ordered" 467,vf 468,vi 98 0,vi 2 0,vi 0 0,vi 1 0,vi 3 0,vr 213,vb,vi 181 0,vr 214,vn,vr 215,vr 216,vr 217,vi 474 0,vi 98 0,vf 475]
def Hg:Obj:={ cls:=vt "function",data:=Data.func { name:=u "ordered",qualname:=u "ordered",params:=TA 26,body:=FuncBody.stmts (TB 26),scope:=TS 26,globals:=3,closure:=[],defaults:=vn,kwdefaults:=vr 212,pyModule:=z4,code:=vr 218 } }
def Hw:Obj:=ot #[vs "_law_script" 482,vs "_law_seed" 483,vs "_law_cell" 484]
def MT:Obj:=gt "_law_begin" 28
def GK:Obj:=ok "_law_begin" 479 480 481 106 1 220 221 (vr 222) (vr 223) (vr 224) 485 486
def I_:Obj:=ft "_law_begin" 28 vn z2 (vr 225)
def Ju:Obj:=ot #[vs "_law_d" 491,vs "_law_many" 492,vs "_law_cell" 493,vs "_law_digit" 494,vs "_law_one" 495]
def KR:Obj:=gt "_law_pick" 29
def Jo:Obj:=ok "_law_pick" 488 489 490 111 2 227 228 (vr 229) (vr 230) (vr 231) 496 497
def Hq:Obj:=ft "_law_pick" 29 vn z2 (vr 232)
def Gs:Obj:=ot #[vs "_law_d" 502,vs "_law_things" 503]
def Mu:Obj:=gt "_law_of" 30
def HD:Obj:=ok "_law_of" 499 500 501 126 2 234 235 (vr 236) (vr 237) (vr 238) 504 505
def Gz:Obj:=ft "_law_of" 30 vn z2 (vr 239)
def KK:Params->Frag:=fun P=>
 (nat_lit 2,{ cls:=vn,data:=Data.dict #[] })::
 (nat_lit 3,{ cls:=vt "dict",data:=Data.dict #[de P "__name__" 165 z2,de P "__doc__" 166 (vn),de P "__package__" 167 (vn),de P "__loader__" 168 (Value.builtin "__main__.__loader__#opaque"),de P "__spec__" 169 (vn),de P "__annotations__" 170 (vr 6),de P "__builtins__" 171 (vr 4),de P "__file__" 173 (vf 172),de P "__cached__" 174 (vn),de P "ScribeError" 218 (vr 32),de P "BadSize" 243 (vr 53),de P "BadTie" 268 (vr 73),de P "BadCause" 293 (vr 93),de P "BadValue" 318 (vr 112),de P "Missing" 348 (vr 132),de P "LIMIT" 350 (vi 999999 349),de P "MOST_AMOUNT" 354 (vi 99999 353),de P "MOST_LANES" 356 (vi 6 355),de P "HIGHEST_MOST" 360 (vi 1000000000000 359),de P "GROUND" 363 (vi (-1) 362),de P "need_lanes" 370 (vr 142),de P "need_ties" 381 (vr 149),de P "need_most" 388 (vr 156),de P "need_all" 397 (vr 163),de P "bounds" 403 (vr 168),de P "raised" 409 (vr 173),de P "amounts" 416 (vr 179),de P "ring" 429 (vr 187),de P "ring_behind" 440 (vr 194),de P "need_cause" 452 (vr 201),de P "ties_of" 458 (vr 206),de P "merged" 464 (vr 211),de P "ordered" 476 (vr 219),de P "_law_begin" 487 (vr 226),de P "_law_pick" 498 (vr 233),de P "_law_of" 506 (vr 240),de P "_law_same" 512 (vr 245),de P "_law_ask" 522 (vr 252),de P "_law_meets" 528 (vr 257),de P "_law_is_ring" 534 (vr 262),de P "_law_borne" 540 (vr 267),de P "_law_told_rows" 554 (vr 274),de P "_law_causes" 560 (vr 279),de P "_law_ties_by" 566 (vr 284),de P "_law_laid" 572 (vr 289),de P "law" 593 (vr 296)] 46 })::
 (nat_lit 15,o6)::
 (nat_lit 22,My)::
 (nat_lit 23,o0)::
 (nat_lit 25,Ma)::
 (nat_lit 26,o0)::
 (nat_lit 28,Nr)::
 (nat_lit 29,L_)::
 (nat_lit 30,LQ)::
 (nat_lit 31,Lq P)::
 (nat_lit 32,Nj)::
 (nat_lit 33,Ly)::
 (nat_lit 36,xU)::
 (nat_lit 43,Ml)::
 (nat_lit 44,o0)::
 (nat_lit 46,KY)::
 (nat_lit 47,o0)::
 (nat_lit 49,Lr)::
 (nat_lit 50,K_)::
 (nat_lit 51,o0)::
 (nat_lit 52,Nh P)::
 (nat_lit 53,Mt)::
 (nat_lit 56,xU)::
 (nat_lit 63,LC)::
 (nat_lit 64,o0)::
 (nat_lit 66,M3)::
 (nat_lit 67,o0)::
 (nat_lit 69,Lj)::
 (nat_lit 70,MP)::
 (nat_lit 71,o0)::
 (nat_lit 72,KJ P)::
 (nat_lit 73,Ms)::
 (nat_lit 76,xU)::
 (nat_lit 83,MF)::
 (nat_lit 84,o0)::
 (nat_lit 86,Mi)::
 (nat_lit 87,o0)::
 (nat_lit 89,Nm)::
 (nat_lit 90,La)::
 (nat_lit 91,o0)::
 (nat_lit 92,N5 P)::
 (nat_lit 93,Mq)::
 (nat_lit 96,xU)::
 (nat_lit 103,o0)::
 (nat_lit 105,M7)::
 (nat_lit 106,o0)::
 (nat_lit 108,Nq)::
 (nat_lit 109,Le)::
 (nat_lit 110,M9)::
 (nat_lit 111,Mx P)::
 (nat_lit 112,Mv)::
 (nat_lit 115,Pn)::
 (nat_lit 122,Od)::
 (nat_lit 123,o0)::
 (nat_lit 125,O_)::
 (nat_lit 126,o0)::
 (nat_lit 128,Ph)::
 (nat_lit 129,PL)::
 (nat_lit 130,Ox)::
 (nat_lit 131,O5 P)::
 (nat_lit 132,PP)::
 (nat_lit 133,Ol)::
 (nat_lit 136,o0)::
 (nat_lit 138,Oz)::
 (nat_lit 139,o0)::
 (nat_lit 141,NP)::
 (nat_lit 142,Oc)::
 (nat_lit 143,o0)::
 (nat_lit 145,OJ)::
 (nat_lit 146,o0)::
 (nat_lit 148,o100)::
 (nat_lit 149,Hz)::
 (nat_lit 150,o0)::
 (nat_lit 152,Jh)::
 (nat_lit 153,o0)::
 (nat_lit 155,Kc)::
 (nat_lit 156,Ip)::
 (nat_lit 157,o0)::
 (nat_lit 159,JW)::
 (nat_lit 160,o0)::
 (nat_lit 162,Ir)::
 (nat_lit 163,Js)::
 (nat_lit 164,o0)::
 (nat_lit 167,o111)::
 (nat_lit 168,JQ)::
 (nat_lit 169,o0)::
 (nat_lit 172,K3)::
 (nat_lit 173,Ha)::
 (nat_lit 174,Jx P)::
 (nat_lit 175,o0)::
 (nat_lit 178,J5)::
 (nat_lit 179,Gv)::
 (nat_lit 180,Hh P)::
 (nat_lit 181,o0)::
 (nat_lit 183,JK)::
 (nat_lit 184,o0)::
 (nat_lit 186,JV)::
 (nat_lit 187,Jj)::
 (nat_lit 188,o0)::
 (nat_lit 190,HS)::
 (nat_lit 191,o0)::
 (nat_lit 193,J8)::
 (nat_lit 194,Jg)::
 (nat_lit 195,o0)::
 (nat_lit 197,Hu)::
 (nat_lit 198,o0)::
 (nat_lit 200,HN)::
 (nat_lit 201,Gu)::
 (nat_lit 202,o0)::
 (nat_lit 205,K7)::
 (nat_lit 206,K8)::
 (nat_lit 207,o0)::
 (nat_lit 210,Hb)::
 (nat_lit 211,J0)::
 (nat_lit 212,Jt P)::
 (nat_lit 213,o0)::
 (nat_lit 215,Hs)::
 (nat_lit 216,o0)::
 (nat_lit 218,J_)::
 (nat_lit 219,Hg)::
 (nat_lit 220,o0)::
 (nat_lit 222,Hw)::
 (nat_lit 223,o0)::
 (nat_lit 225,GK)::
 (nat_lit 226,I_)::
 (nat_lit 227,o0)::
 (nat_lit 229,Ju)::
 (nat_lit 230,o0)::
 (nat_lit 232,Jo)::
 (nat_lit 233,Hq)::
 (nat_lit 234,o0)::
 (nat_lit 236,Gs)::
 (nat_lit 237,o0)::
 (nat_lit 239,HD)::
 (nat_lit 240,Gz)::
 (nat_lit 241,o0)::
 (nat_lit 244,ok "_law_same" 507 508 509 128 2 241 242 vn vn (vr 243) 510 511)::
 (nat_lit 245,ft "_law_same" 31 vn z2 (vr 244))::
 (nat_lit 246,o0)::
 (nat_lit 248,ot #[vs "_law_ask_here" 516,vs "_law_told" 517,vs "_law_word" 518,vs "e" 519])::
 (nat_lit 249,o0)::
 (nat_lit 251,ok "_law_ask" 513 514 515 138 1 246 247 (vr 248) (vr 249) (vr 250) 520 521)::
 (nat_lit 252,ft "_law_ask" 32 vn z2 (vr 251))::
 (nat_lit 253,o0)::
 (nat_lit 256,ok "_law_meets" 523 524 525 150 3 253 254 vn vn (vr 255) 526 527)::
 (nat_lit 257,ft "_law_meets" 33 vn z2 (vr 256))::
 (nat_lit 258,o0)::
 (nat_lit 261,ok "_law_is_ring" 529 530 531 154 4 258 259 vn vn (vr 260) 532 533)::
 (nat_lit 262,ft "_law_is_ring" 34 vn z2 (vr 261))::
 (nat_lit 263,o0)::
 (nat_lit 266,ok "_law_borne" 535 536 537 164 2 263 264 vn vn (vr 265) 538 539)::
 (nat_lit 267,ft "_law_borne" 35 vn z2 (vr 266))::
 (nat_lit 268,o0)::
 (nat_lit 270,ot #[vs "_law_d" 544,vs "_law_lanes" 545,vs "_law_rows" 546,vs "_law_lane" 547,vs "_law_place" 548,vs "_law_time" 549,vs "_law_told" 550,vs "_law_step" 551])::
 (nat_lit 271,o0)::
 (nat_lit 273,ok "_law_told_rows" 541 542 543 170 2 268 269 (vr 270) (vr 271) (vr 272) 552 553)::
 (nat_lit 274,ft "_law_told_rows" 36 vn z2 (vr 273))::
 (nat_lit 275,o0)::
 (nat_lit 278,ok "_law_causes" 555 556 557 183 3 275 276 vn vn (vr 277) 558 559)::
 (nat_lit 279,ft "_law_causes" 37 vn z2 (vr 278))::
 (nat_lit 280,o0)::
 (nat_lit 283,ok "_law_ties_by" 561 562 563 192 1 280 281 vn vn (vr 282) 564 565)::
 (nat_lit 284,ft "_law_ties_by" 38 vn z2 (vr 283))::
 (nat_lit 285,o0)::
 (nat_lit 288,ok "_law_laid" 567 568 569 194 2 285 286 vn vn (vr 287) 570 571)::
 (nat_lit 289,ft "_law_laid" 39 vn z2 (vr 288))::
 (nat_lit 290,o0)::
 (nat_lit 292,ot #[vs "_law_script" 576,vs "_law_d" 577,vs "_law_turn" 578,vs "_law_lanes" 579,vs "_law_rows" 580,vs "_law_causes_here" 581,vs "_law_top" 582,vs "_law_handed" 583,vs "_law_told" 584,vs "_law_ties" 585,vs "_law_one" 586,vs "_law_time" 587,vs "_law_other" 588,vs "_law_second" 589,vs "_law_words" 590])::
 (nat_lit 293,o0)::
 (nat_lit 295,ok "law" 573 574 575 206 1 290 291 (vr 292) (vr 293) (vr 294) 591 592)::
 (nat_lit 296,ft "law" 40 vn z2 (vr 295))::[]
def M8:List Addr:=[2,3,15,22,23,25,26,28,29,30,31,32,33,36,43,44,46,47,49,50,51,52,53,56,63,64,66,67,69,70,71,72,73,76,83,84,86,87,89,90,91,92,93,96,103,105,106,108,109,110,111,112,115,122,123,125,126,128,129,130,131,132,133,136,138,139,141,142,143,145,146,148,149,150,152,153,155,156,157,159,160,162,163,164,167,168,169,172,173,174,175,178,179,180,181,183,184,186,187,188,190,191,193,194,195,197,198,200,201,202,205,206,207,210,211,212,213,215,216,218,219,220,222,223,225,226,227,229,230,232,233,234,236,237,239,240,241,244,245,246,248,249,251,252,253,256,257,258,261,262,263,266,267,268,270,271,273,274,275,278,279,280,283,284,285,288,289,290,292,293,295,296]
theorem eK:∀ P,M8=(KK P).map (·.1):=fun P=>by kernel_rfl
def vw:Program:={ PySem.Challenge.pw_lanescribe_k29_whole_one_order_or_a_ring with main:={ PySem.Challenge.pw_lanescribe_k29_whole_one_order_or_a_ring.main with body:=[tp 1,tp 2,tp 3,tp 4,tp 5,tp 6,tp 7,tp 9,tp 10,tp 11,tp 12,tp 13,tp 14,tp 15,tp 16,tp 17,tp 18,tp 21,tp 23,tp 24,tp 25,tp 28,tp 29,tp 30,tp 31,tp 32,tp 33,tp 34,tp 35,tp 36,tp 37,tp 38,tp 39,tp 40] } }
def ls:List Str:=[u "ScribeError",u "BadSize",u "BadTie",u "BadCause",u "Missing",u "HIGHEST_MOST",u "amounts",u "ring",u "ordered"]
def lv:List (Str×WData):=[(u "HIGHEST_MOST",WData.int 1000000000000)]
abbrev Xt:Shared->Bool:=fun s=>xlAt vw lv s && recOk (RowW.records (OpenRow.toRowW PySem.Challenge.rw_lanescribe_k29_whole_one_order_or_a_ring.row)) s
abbrev hk:Hook:=kmHook KK M8 eK [208,291]
theorem said:PySem.Challenge.rw_lanescribe_k29_whole_one_order_or_a_ring.wellSaid=true:=by kernel_rfl
theorem openP:opening (OpenRow.toRowW PySem.Challenge.rw_lanescribe_k29_whole_one_order_or_a_ring.row).prog=plainProg (OpenRow.toRowW PySem.Challenge.rw_lanescribe_k29_whole_one_order_or_a_ring.row).prog.main.scope.names:=by kernel_rfl
theorem zJ {p:Program} {w:World} {N L:Nat} {s0 s':Shared} {t':Thread} {m0:Nat} {ann:Option Value} {β:Type} {F:Shared->β} {X:β} (h1:(s0.heap.isNs mainGlobals && s0.gens.size == 0)=true) (h2:s0.heap.objs.size=m0) (h3:s0.heap.nsMap mainGlobals "__annotations__" = ann)
 (chain:∀ r,topRun treeTable p w m0 ann L s' t'=some r->topRun treeTable p w m0 ann N s0 (topStub p)=some r)
 (last:((topRun treeTable p w m0 ann L s' t').bind fun s₁=>match staticsOk (importedModules p.main.body) s0.heap s₁.heap && namesBound p s₁.heap && gensDone s₁ && laidKept s0.heap s₁.heap with
  |true=>some s₁
  |false=>none).map F=some X):(topFrom treeTable p w N s0).map F=some X:=by
 cases hA:topRun treeTable p w m0 ann L s' t' with
 |none=>rw [hA] at last;cases last
 | some r=>
   have e:=chain r hA
   unfold topFrom
   rw [h1,h2,h3,e]
   rw [hA] at last
   exact last
abbrev pp:Program:=(OpenRow.toRowW PySem.Challenge.rw_lanescribe_k29_whole_one_order_or_a_ring.row).prog
def env:Env:={ scope:=pp.main.scope,locals:=mainNs,globals:=mainNs,cells:=[],code:=vr 13,frame:=some 14 }
abbrev cd:Code:=.body (behindTheImports pp) env
abbrev fp:Pos:={ line:=0,col:=0,endLine:=0,endCol:=0 }
abbrev an:Option Value:=some (vr 6)
abbrev Gm (w:World) (os:OsState):Shared:=⟨boot_heap w.params,Array.mk [],boot_drawn,boot_toks,os⟩
def QB (P:Params):Heap:=⟨⟨boot_o_0 P::boot_o_1 P::boot_o_2 P::boot_o_3 P::boot_o_4 P::boot_o_5 P::boot_o_6 P::boot_o_7 P::boot_o_8 P::boot_o_9 P::boot_o_10 P::o0::o1::o2::o3::[]⟩,{ }⟩
abbrev Oe (w:World) (os:OsState):Shared:=⟨QB w.params,Array.mk [],{ },187,os⟩
abbrev PX:Pos:={ line:=0,col:=0,endLine:=0,endCol:=0 }
def Qf (P:Params):Heap:=⟨⟨boot_o_0 P::boot_o_1 P::boot_o_2 P::boot_o_3 P::boot_o_4 P::boot_o_5 P::boot_o_6 P::boot_o_7 P::boot_o_8 P::boot_o_9 P::boot_o_10 P::o0::o1::o2::o3::[]⟩,{ }⟩
abbrev Nf (w:World) (os:OsState):Shared:=⟨Qf w.params,Array.mk [],{ },187,os⟩
abbrev KQ:Pos:={ line:=0,col:=0,endLine:=0,endCol:=0 }
theorem Qg (w:World) (os:OsState):topGo treeTable pp w 11 an 12 (Gm w os) (topStub pp)=some (Oe w os,⟨denote treeTable cd,cd,PX,[topFrame fp]⟩):=by kernel_rfl
theorem Qu (w:World) (os:OsState):segRun treeTable pp w 11 an 1 1 (Oe w os) (blockOf (behindTheImports pp) env cd PX [topFrame fp])=some (.next,Nf w os,cd,KQ):=by kernel_rfl
def M4 (P:Params):Heap:=⟨⟨boot_o_0 P::boot_o_1 P::boot_o_2 P::o4 P::boot_o_4 P::boot_o_5 P::boot_o_6 P::boot_o_7 P::boot_o_8 P::boot_o_9 P::boot_o_10 P::o0::o5::o2::o3::o6::o7::o8 P::o0::o9::Ow::Q7::My::o0::o1::Ma::o0::PQ::Nr::L_::LQ::Lq P::Nj::Ly::NK::Q0::xU::o7::O8 P::o0::Py::Nz::Oq::Ml::o0::o1::KY::o0::Oh::Lr::K_::o0::Nh P::Mt::O7::O2::xU::o7::Oa P::o0::PJ::Ob::Q5::LC::o0::o1::M3::o0::OD::Lj::MP::o0::KJ P::Ms::Pq::O4::xU::o7::O1 P::o0::Pa::Ou::PB::MF::o0::o1::Mi::o0::N_::Nm::La::o0::N5 P::Mq::P0::Ov::xU::o7::Ot P::o0::PN::Q3::NT::o0::o1::M7::o0::Pz::Nq::Le::M9::Mx P::Mv::Oj::Pr::[]⟩,{ }⟩
abbrev GJ (w:World) (os:OsState):Shared:=⟨M4 w.params,Array.mk [],{ },319,os⟩
abbrev Jd:Pos:={ line:=19,col:=0,endLine:=23,endCol:=20 }
abbrev KZ:List Stmt:=((behindTheImports pp).drop 0).take 6
theorem Ql (w:World) (os:OsState):segRun treeTable pp w 11 an 1 1215 (Nf w os) (piecesOf KZ env cd KQ [topFrame fp])=some (.next,GJ w os,cd,Jd):=by kernel_rfl
def Jp (P:Params):Heap:=⟨⟨boot_o_0 P::boot_o_1 P::boot_o_2 P::Qk P::boot_o_4 P::boot_o_5 P::boot_o_6 P::boot_o_7 P::boot_o_8 P::boot_o_9 P::boot_o_10 P::o0::Qm::o2::o3::o6::o7::o8 P::o0::o9::Ow::Q7::My::o0::o1::Ma::o0::PQ::Nr::L_::LQ::Lq P::Nj::Ly::NK::Q0::xU::o7::O8 P::o0::Py::Nz::Oq::Ml::o0::o1::KY::o0::Oh::Lr::K_::o0::Nh P::Mt::O7::O2::xU::o7::Oa P::o0::PJ::Ob::Q5::LC::o0::o1::M3::o0::OD::Lj::MP::o0::KJ P::Ms::Pq::O4::xU::o7::O1 P::o0::Pa::Ou::PB::MF::o0::o1::Mi::o0::N_::Nm::La::o0::N5 P::Mq::P0::Ov::xU::o7::Ot P::o0::PN::Q3::NT::o0::o1::M7::o0::Pz::Nq::Le::M9::Mx P::Mv::Oj::Pr::Pn::o7::QC P::o0::Qt::Qq::Qa::Od::o0::o1::O_::o0::Qh::Ph::PL::Ox::O5 P::PP::Ol::Qn::Qc::o0::o1::Oz::o0::Qs::NP::Oc::o0::o1::OJ::o0::Qo::o100::Hz::o0::o1::Jh::o0::Ni::Kc::Ip::o0::o1::JW::o0::Lx::Ir::Js::o0::o1::Nk::o111::JQ::o0::o1::Mz::K3::Ha::Jx P::o0::o1::Lz::J5::Gv::Hh P::o0::o1::JK::o0::Mg::JV::Jj::o0::o1::HS::o0::Ld::J8::Jg::o0::o1::Hu::o0::Np::HN::Gu::o0::o1::Lw::K7::K8::o0::o1::Nu::Hb::J0::Jt P::o0::o1::Hs::o0::Mm::J_::Hg::o0::o1::Hw::o0::MT::GK::I_::o0::o1::Ju::o0::KR::Jo::Hq::o0::o1::Gs::o0::Mu::HD::Gz::[]⟩,{ }⟩
abbrev yJ (w:World) (os:OsState):Shared:=⟨Jp w.params,Array.mk [],{ },507,os⟩
abbrev zK:Pos:={ line:=126,col:=0,endLine:=127,endCol:=59 }
abbrev Gh:List Stmt:=((behindTheImports pp).drop 6).take 25
theorem M_ (w:World) (os:OsState):segRun treeTable pp w 11 an 1 805 (GJ w os) (piecesOf Gh env cd Jd [topFrame fp])=some (.next,yJ w os,cd,zK):=by kernel_rfl
abbrev Km:List Stmt:=(behindTheImports pp).drop 31
theorem IK:behindTheImports pp=(KZ++(Gh++Km)):=by kernel_rfl
theorem last (w:World) (os:OsState):((topRun treeTable pp w 11 an 794 (yJ w os) (restOf Km env cd zK [topFrame fp])).bind fun s₁=>match staticsOk (importedModules pp.main.body) (Gm w os).heap s₁.heap && namesBound pp s₁.heap && gensDone s₁ && laidKept (Gm w os).heap s₁.heap with
 |true=>some s₁
 |false=>none).map (fun s=>(openSeen vw ls (importedModules pp.main.body) Xt true s,hk.obs s))=some (openGood vw ls,hk.val w):=by kernel_rfl
theorem chain (w:World) (os:OsState) (r:Shared) (h:topRun treeTable pp w 11 an 794 (yJ w os) (restOf Km env cd zK [topFrame fp])=some r):topRun treeTable pp w 11 an 2827 (Gm w os) (topStub pp)=some r:=by
 have k:topRun treeTable pp w 11 an 2814 (Nf w os) (restOf (KZ++(Gh++Km)) env cd KQ [topFrame fp])=some r:=piece_app (Ql w os) (piece_app (M_ w os) (h))
 rw [← IK] at k
 exact go_top (n:=12) (N:=2815) (Qg w os) (piece_block (n:=1) (N:=2814) (Qu w os) k)
theorem run (w:World) (os:OsState):(topFrom treeTable pp w 2827 (Gm w os)).map (fun s=>(openSeen vw ls (importedModules pp.main.body) Xt true s,hk.obs s))=some (openGood vw ls,hk.val w):=zJ (s0:=Gm w os) (by kernel_rfl) (by kernel_rfl) (by kernel_rfl) (chain w os) (last w os)
theorem left:LeftO (OpenRow.toRowW PySem.Challenge.rw_lanescribe_k29_whole_one_order_or_a_ring.row).prog vw ls Xt hk.obs hk.val 2827:=xf openP (by decide) (fun s=>by kernel_rfl) run
theorem head (hw:(OpenRow.toRowW PySem.Challenge.rw_lanescribe_k29_whole_one_order_or_a_ring.row).promised) {d:DefRec} {kwd:List (Str×Expr)} (hdef:defOf vw PySem.Challenge.rw_lanescribe_k29_whole_one_order_or_a_ring.row.name=some (d,kwd)) (hp:PySem.Challenge.rw_lanescribe_k29_whole_one_order_or_a_ring.row.prog.theDef PySem.Challenge.rw_lanescribe_k29_whole_one_order_or_a_ring.row.name=some (d.params,d.body,d.scope)) (hk1:kwWritten? d.params.kwonlyargs d.params.kw_defaults=some kwd)
 (hc:WalkO vw ls (XL vw lv) (kmHook KK M8 eK [208,291]).says (OpenRow.toRowW PySem.Challenge.rw_lanescribe_k29_whole_one_order_or_a_ring.row) d kwd fun f vs=>PySem.call f vs):PySem.Challenge.rw_lanescribe_k29_whole_one_order_or_a_ring.Holds:=
 holds_law said fun said'=>holds_open (q:=vw) (loose:=ls) (Xt:=Xt) (XP:=XL vw lv) (Yf:=hk.obs) (Ya:=hk.val) (YP:=hk.says) (N:=2827) left hk.of hk.keeps (fun s e=>xl_of s (Bool.and_eq_true_iff.mp e).1) XL.keeps hdef hp hk1 (fun s e=>recFacts_of (Bool.and_eq_true_iff.mp e).2) (by rfl) said' (by decide +kernel) ⟨rfl,rfl,rfl,rfl,rfl,by decide +kernel⟩ hw hc
end
end Kd
namespace L2
open PySem PySem.Spec PyProof.Rows
abbrev Key:=Sum Int Str
def oU:Key->Value->Bool
 |.inl k,v=>Value.isInt k v
 |.inr x,v=>Value.isStrOf x v
def LR (w:World):Key->Int
 |.inl k=>hashInt k
 |.inr x=>hashStr w x
theorem cF:∀ {k:Key} {v:Value},oU k v=true->(∃ i t,k=Sum.inl i/\v=Value.int i t)∨(∃ x t,k=Sum.inr x/\v=Value.str x t)
 | .inl i,v,h=>by
   obtain ⟨t,e⟩:=Value.isInt_shape (k:=i) (v:=v) h
   exact .inl ⟨i,t,rfl,e⟩
 | .inr x,v,h=>by
   obtain ⟨t,e⟩:=Value.isStrOf_shape (x:=x) (v:=v) h
   exact .inr ⟨x,t,rfl,e⟩
theorem vZ (i:Int) (t:Tok):oU (.inl i) (.int i t)=true:=by simp [oU,Value.isInt]
theorem xn (x:Str) (t:Tok):oU (.inr x) (.str x t)=true:=by simp [oU,Value.isStrOf]
theorem Fo (a b:Int):decide ((Sum.inl a:Key)=Sum.inl b)=(a == b):=by
 by_cases e:a=b
 ·subst e;simp
 ·have h:¬ (Sum.inl a:Key)=Sum.inl b:=fun q=>e (Sum.inl.inj q)
  rw [decide_eq_false h]
  exact (beq_eq_false_iff_ne.mpr e).symm
theorem F_ (a b:Str):decide ((Sum.inr a:Key)=Sum.inr b)=decide (a=b):=by
 by_cases e:a=b
 ·subst e;simp
 ·have h:¬ (Sum.inr a:Key)=Sum.inr b:=fun q=>e (Sum.inr.inj q)
  rw [decide_eq_false h,decide_eq_false e]
theorem Ep (a:Int) (b:Str):decide ((Sum.inl a:Key)=Sum.inr b)=false:=decide_eq_false (fun q=>nomatch q)
theorem Fv (a:Str) (b:Int):decide ((Sum.inr a:Key)=Sum.inl b)=false:=decide_eq_false (fun q=>nomatch q)
def cW (prog:Program) (w:World):PySem.KeyKind prog w Key where
 is:=oU
 hash:=LR w
 inj:=fun v a b ha hb=>by
  rcases cF ha with ⟨i,t,rfl,rfl⟩|⟨x,t,rfl,rfl⟩
  ·rcases cF hb with ⟨j,u,rfl,e⟩|⟨y,u,rfl,e⟩
   ·injection e with e1 _;rw [e1]
   ·exact nomatch e
  ·rcases cF hb with ⟨j,u,rfl,e⟩|⟨y,u,rfl,e⟩
   ·exact nomatch e
   ·injection e with e1 _;rw [e1]
 byValue:=fun k v h=>by
  rcases cF h with ⟨i,t,rfl,rfl⟩|⟨x,t,rfl,rfl⟩ <;> rfl
 pyHash:=fun hv h=>by
  rcases cF hv with ⟨i,t,rfl,rfl⟩|⟨x,t,rfl,rfl⟩
  ·exact wpAny_pyHash_int h
  ·exact wpAny_pyHash_str h
 eqBool:=fun hu hv h=>by
  rcases cF hu with ⟨i,t,rfl,rfl⟩|⟨x,t,rfl,rfl⟩
  ·rcases cF hv with ⟨j,u,rfl,rfl⟩|⟨y,u,rfl,rfl⟩
   ·rw [Fo] at h;exact wpAny_eqBool_int h
   ·rw [Ep] at h;exact SeqAt.EqAt.int_str i t y u _ _ _ _ h
  ·rcases cF hv with ⟨j,u,rfl,rfl⟩|⟨y,u,rfl,rfl⟩
   ·rw [Fv] at h;exact SeqAt.EqAt.str_int x t j u _ _ _ _ h
   ·rw [F_] at h;exact wpAny_eqBool_str h
 «strs»:=fun k x t v h=>by
  rcases cF h with ⟨i,u,rfl,e⟩|⟨y,u,rfl,e⟩
  ·exact nomatch e
  ·injection e with e1 _
   subst e1
   cases v <;> rfl
theorem qQ (prog:Program) (w:World) (i:Int) (t:Tok):(cW prog w).is (.inl i) (.int i t)=true:=vZ i t
theorem sr (prog:Program) (w:World) (x:Str) (t:Tok):(cW prog w).is (.inr x) (.str x t)=true:=xn x t
inductive V where
 |non|bl (b:Bool)|int (i:Int)|str (x:Str)|byt (b:Array UInt8)|flt (b:UInt64)|ref (a:Addr)|ty (n:String)
 deriving DecidableEq
def RelV:V->Value->Prop
 |.non,u=>u=Value.none
 |.bl b,u=>u=Value.bool b
 |.int i,u=>∃ t,u=Value.int i t
 |.str x,u=>∃ t,u=Value.str x t
 |.byt b,u=>∃ t,u=Value.bytes b t
 |.flt b,u=>∃ t,u=Value.float b t
 |.ref a,u=>u=Value.ref a
 |.ty n,u=>u=Value.type n
abbrev Vals:List V->List Value->Prop:=Paired RelV
theorem Vals.length {xs:List V} {us:List Value} (r:Vals xs us):xs.length=us.length:=Paired.length r
theorem Vals.get:∀ {xs:List V} {us:List Value} {i:Nat} {x:V},Vals xs us->xs[i]?=some x->∃ u,us[i]?=some u/\RelV x u
 |_,_,_,_,.nil,e=>by simp at e
 |_,_,0,_,.cons r _,e=>by simp at e;subst e;exact ⟨_,rfl,r⟩
 | _,_,i+1,x,.cons _ t,e=>by
   obtain ⟨u,h1,h2⟩:=Vals.get (i:=i) (x:=x) t (by simpa using e)
   exact ⟨u,by simpa using h1,h2⟩
theorem Vals.append:∀ {xs ys:List V} {us ws:List Value},Vals xs us->Vals ys ws->Vals (xs++ys) (us++ws)
 |_,_,_,_,.nil,s=>s
 |_,_,_,_,.cons r t,s=>.cons r (Vals.append t s)
theorem Vals.take:∀ {xs:List V} {us:List Value} (n:Nat),Vals xs us->Vals (xs.take n) (us.take n)
 |_,_,0,_=>.nil
 |_,_,_+1,.nil=>.nil
 |_,_,n+1,.cons r t=>.cons r (Vals.take n t)
theorem Vals.drop:∀ {xs:List V} {us:List Value} (n:Nat),Vals xs us->Vals (xs.drop n) (us.drop n)
 |_,_,0,r=>r
 |_,_,_+1,.nil=>.nil
 |_,_,n+1,.cons _ t=>Vals.drop n t
def lF:Option V->Option Value->Prop
 |some v,some u=>RelV v u
 |none,none=>True
 |_,_=>False
def KV {κ:Type}:List (κ×V)->List (κ×Value)->Prop:=Paired fun (p:κ×V) (q:κ×Value)=>p.1=q.1/\RelV p.2 q.2
def kV:Key->V
 |.inl i=>.int i
 |.inr x=>.str x
inductive HO where
 |lst (xs:List V)
 |tup (xs:List V)
 |dK (kvs:List (Key×V))|dT (kvs:List (List Key×V))
 |set (S:Int->Bool) (n:Nat)
 |ins (C dx:Addr) (fs:List (Str×V))
 |own (x:Addr)
 |xd (fs:List (Str×V))
 |met (f x:Addr)
 |rng (lo hi:Int)
 |frz (o:Obj) (u:HO)
 |tbl (ps:Array Value)
 |ext (φ:Heap->Prop)
abbrev Hp:=Addr->Option HO
def upd (H:Hp) (a:Addr) (o:HO):Hp:=fun b=>if b=a then some o else H b
theorem aj {H:Hp} {a:Addr} {o:HO}:upd H a o a=some o:=by unfold upd;rw [if_pos rfl]
theorem aA {H:Hp} {a b:Addr} {o:HO} (h:b≠a):upd H a o b=H b:=by unfold upd;rw [if_neg h]
theorem vg {H:Hp} {a:Addr} {o u:HO}:upd (upd H a o) a u=upd H a u:=by
 funext b;unfold upd;split <;> rfl
theorem fV {H:Hp} {a b:Addr} {o u:HO} (h:H a=some o) (h':H b=some u) (d:o≠u):a≠b:=by
 intro e;subst e;rw [h] at h';exact d (Option.some.inj h')
theorem aC {H:Hp} {a b:Addr} {o:HO} (h:H a=some o) (h':H b=none):a≠b:=by
 intro e;subst e;rw [h] at h';cases h'
section
variable (P:Program) (w:World)
def bZ (H:Hp) (h:Heap) (a:Addr):HO->Prop
 |.lst xs=>xs.length≤sizeLine/\∃ (its:List Value) (n:Nat),Vals xs its/\h.get? a=some { cls:=.type "list",data:=.seq its.toArray n }
 |.tup xs=>xs.length≤sizeLine/\∃ its:List Value,Vals xs its/\IsTup h a its.toArray
 |.dK kvs=>kvs.length≤sizeLine/\(a == sysModules)=false/\∃ vs,KV kvs vs/\h.DictOf (cW P w) a vs
 |.dT kvs=>kvs.length≤sizeLine/\(a == sysModules)=false/\∃ xs:List (List Key×Addr×Value),
  Paired (fun (p:List Key×V) (q:List Key×Addr×Value)=>p.1=q.1/\H q.2.1=some (.tup (p.1.map kV))/\RelV p.2 q.2.2) kvs xs/\
  ∃ o es ep,h.get? a=some o/\o.ExactDict/\o.data=.dict es ep/\es.toList=xs.map (entryOfKey (tupleKind (cW P w)))/\(xs.map (·.1)).Nodup
 |.set S n=>h.SetOf (intKind P w) a S n
 |.ins C dx fs=>H dx=some (.own a)/\fs.length≤1000/\dx≠a/\h.get? a=some (PySem.W.instObj C dx)/\
  ∃ mA,h.Ns1 dx mA/\(∀ f,lF (fs.lookup f) (mA f))/\PySem.Within mA (fs.map (·.1))
 |.own _=>∃ o,h.get? a=some o
 |.xd fs=>∃ mA,h.Ns1 a mA/\∀ f,lF (fs.lookup f) (mA f)
 |.rng lo hi=>∃ t u v,h.get? a=some { cls:=.type "range",data:=.fields #[.int lo t,.int hi u,.int 1 v] }
 |.frz o u=>h.get? a=some o/\bZ H h a u
 |.tbl ps=>h.get? a=some { cls:=.none,data:=.fields ps }
 |.met f x=>h.get? a=some (PySem.W.methodObj (.ref f) (.ref x))
 |.ext φ=>φ h/\(∃ o,h.get? a=some o)/\∀ h1 h2:Heap,φ h1->(∀ o,h1.get? a=some o->h2.get? a=some o)->φ h2
def iZ (H:Hp) (h:Heap):Prop:=∀ a o,H a=some o->bZ P w H h a o
end
section
variable {P:Program} {w:World} {H H':Hp} {h h':Heap} {a:Addr} {o:HO}
theorem bZ.lt (x:bZ P w H h a o):a<h.objs.size:=by
 cases o with
 |lst xs=>obtain ⟨_,_,_,_,e⟩:=x;exact Heap.lt_size e
 |tup xs=>obtain ⟨_,_,_,p⟩:=x;exact p.lt
 |dK kvs=>obtain ⟨_,_,_,_,o,_,_,e,_⟩:=x;exact Heap.lt_size e
 |dT kvs=>obtain ⟨_,_,_,_,o,_,_,e,_⟩:=x;exact Heap.lt_size e
 |set S n=>obtain ⟨o,_,_,_,e,_⟩:=x;exact Heap.lt_size e
 |ins C dx fs=>obtain ⟨_,_,_,e,_⟩:=x;exact Heap.lt_size e
 |own y=>obtain ⟨_,e⟩:=x;exact Heap.lt_size e
 |xd fs=>obtain ⟨_,⟨_,_,_,e,_⟩,_⟩:=x;exact Heap.lt_size e
 |rng lo hi=>obtain ⟨_,_,_,e⟩:=x;exact Heap.lt_size e
 |frz ob u=>obtain ⟨e,_⟩:=x;exact Heap.lt_size e
 |tbl ps=>exact Heap.lt_size (show h.get? a=some _ from x)
 |met f y=>exact Heap.lt_size (show h.get? a=some _ from x)
 |ext φ=>obtain ⟨_,⟨_,e⟩,_⟩:=x;exact Heap.lt_size e
theorem Paired.mapP {α β:Type} {F G:α->β->Prop}:∀ {l₁:List α} {l₂:List β},Paired F l₁ l₂->(∀ a b,F a b->G a b)->Paired G l₁ l₂
 |_,_,.nil,_=>.nil
 |_,_,.cons r t,f=>.cons (f _ _ r) (Paired.mapP t f)
theorem bZ.stay (x:bZ P w H h a o) (k:∀ b u,(b=a∨H b=some (.own a))->h.get? b=some u->h'.get? b=some u)
 (ho:∀ b,H b=some (.own a)->H' b=some (.own a)) (ht:∀ b xs,H b=some (.tup xs)->H' b=some (.tup xs)):bZ P w H' h' a o:=by
 induction o with
 |lst xs=>obtain ⟨z,its,n,r,e⟩:=x;exact ⟨z,its,n,r,k _ _ (.inl rfl) e⟩
 |tup xs=>obtain ⟨z,its,r,ob,e,c⟩:=x;exact ⟨z,its,r,ob,k _ _ (.inl rfl) e,c⟩
 |dK kvs=>obtain ⟨z,y,vs,r,ob,es,ep,e,c⟩:=x;exact ⟨z,y,vs,r,ob,es,ep,k _ _ (.inl rfl) e,c⟩
 | dT kvs=>
   obtain ⟨z,y,xs,r,ob,es,ep,e,c⟩:=x
   exact ⟨z,y,xs,Paired.mapP r fun p q z=>⟨z.1,ht _ _ z.2.1,z.2.2⟩,ob,es,ep,k _ _ (.inl rfl) e,c⟩
 |set S n=>obtain ⟨ob,es,ep,t,e,c⟩:=x;exact ⟨ob,es,ep,t,k _ _ (.inl rfl) e,c⟩
 | ins C dx fs=>
   obtain ⟨d,z,ne,e,mA,⟨od,es,ep,e2,c⟩,r⟩:=x
   exact ⟨ho _ d,z,ne,k _ _ (.inl rfl) e,mA,⟨od,es,ep,k _ _ (.inr d) e2,c⟩,r⟩
 |own y=>obtain ⟨ob,e⟩:=x;exact ⟨ob,k _ _ (.inl rfl) e⟩
 |xd fs=>obtain ⟨mA,⟨od,es,ep,e,c⟩,r⟩:=x;exact ⟨mA,⟨od,es,ep,k _ _ (.inl rfl) e,c⟩,r⟩
 |rng lo hi=>obtain ⟨t,u,v,e⟩:=x;exact ⟨t,u,v,k _ _ (.inl rfl) e⟩
 |frz ob u ih=>obtain ⟨e,q⟩:=x;exact ⟨k _ _ (.inl rfl) e,ih q⟩
 | tbl ps=>
   have e:h.get? a=some { cls:=.none,data:=.fields ps }:=x
   show h'.get? a=some { cls:=.none,data:=.fields ps }
   exact k a _ (.inl rfl) e
 | met f y=>
   have e:h.get? a=some (PySem.W.methodObj (.ref f) (.ref y)):=x
   show h'.get? a=some (PySem.W.methodObj (.ref f) (.ref y))
   exact k a _ (.inl rfl) e
 |ext φ=>obtain ⟨p,⟨o,e⟩,st⟩:=x;exact ⟨st _ _ p fun o q=>k _ _ (.inl rfl) q,⟨o,k _ _ (.inl rfl) e⟩,st⟩
theorem iZ.lt (x:iZ P w H h) (e:H a=some o):a<h.objs.size:=(x a o e).lt
theorem iZ.fresh (x:iZ P w H h) (e:h.objs.size≤a):H a=none:=by
 cases q:H a with
 |none=>rfl
 |some u=>exact absurd (Nat.lt_of_lt_of_le (x.lt q) e) (Nat.lt_irrefl _)
theorem iZ.kept (x:iZ P w H h) (k:∀ b u,h.get? b=some u->h'.get? b=some u):iZ P w H h':=fun a o e=>
 (x a o e).stay (fun b u _ q=>k b u q) (fun _ q=>q) fun _ _ q=>q
theorem iZ.laid (x:iZ P w H h) (k:∀ b u,h.get? b=some u->h'.get? b=some u) (hp:h.objs.size≤a) (new:bZ P w (upd H a o) h' a o):iZ P w (upd H a o) h':=fun b u e=>by
 have hn:=x.fresh hp
 by_cases hb:b=a
 ·subst hb;rw [aj] at e;cases e;exact new
 ·rw [aA hb] at e
  exact (x b u e).stay (fun c v _ q=>k c v q) (fun c q=>by rw [aA (aC q hn)];exact q) fun c xs q=>by rw [aA (aC q hn)];exact q
end
def Rd (H:Hp) (a:Addr) (u:HO):Prop:=H a=some u∨∃ o,H a=some (.frz o u)
theorem Rd.ok {P:Program} {w:World} {H:Hp} {h:Heap} {a:Addr} {u:HO} (r:Rd H a u) (x:iZ P w H h):bZ P w H h a u:=by
 rcases r with r|⟨o,r⟩
 ·exact x a u r
 ·obtain ⟨_,q⟩:=x a _ r
  exact q
def JX:Option HO->Prop
 |some (.lst _)=>True
 |some (.dK _)=>True
 |some (.dT _)=>True
 |some (.set _ _)=>True
 |some (.ins _ _ _)=>True
 |some (.ext _)=>True
 |_=>False
section
variable {P:Program} {w:World} {H:Hp} {h h':Heap} {x e:Addr} {o':HO}
theorem iZ.write (ok:iZ P w H h) (mu:JX (H x)) (he:e=x∨H e=some (.own x)) (k:∀ b u,b≠e->h.get? b=some u->h'.get? b=some u) (heo:∃ u,h'.get? e=some u)
 (new:bZ P w (upd H x o') h' x o'):iZ P w (upd H x o') h':=fun b u q=>by
 have nown:∀ c y,H c=some (.own y)->c≠x:=fun c y r z=>by subst z;rw [r] at mu;exact mu
 have ntup:∀ c xs,H c=some (.tup xs)->c≠x:=fun c xs r z=>by subst z;rw [r] at mu;exact mu
 by_cases hb:b=x
 ·subst hb;rw [aj] at q;cases q;exact new
 ·rw [aA hb] at q
  by_cases hbe:b=e
  ·have q':H b=some (.own x):=by
    rcases he with z|z
    ·exact absurd (hbe.trans z) hb
    ·rw [hbe];exact z
   rw [q] at q';cases q'
   obtain ⟨v,hv⟩:=heo
   exact ⟨v,by rw [hbe];exact hv⟩
  ·refine (ok b u q).stay (fun c v hc r=>k c v ?_ r) (fun c r=>by rw [aA (nown c b r)];exact r) fun c xs r=>by rw [aA (ntup c xs r)];exact r
   rcases hc with rfl|hc
   ·exact hbe
   ·rintro rfl
    rcases he with z|z
    ·exact nown c b hc z
    ·rw [hc] at z;cases z;exact hb rfl
end
structure Un (fs ex:List Addr) (H H':Hp) (h h':Heap):Prop where
 keep:∀ b o,h.get? b=some o->H b=none->b∉fs->b∉ex->h'.get? b=some o
 slot:∀ b o,h.get? b=some o->H b=none->b∈fs->b∉ex->∃ sl,h'.get? b=some { o with slots:=sl }
 free:∀ b o,h.get? b=some o->H b=none->b∉ex->H' b=none
 there:∀ b o,h.get? b=some o->b∉ex->∃ o',h'.get? b=some o'
 tups:∀ b xs,H b=some (.tup xs)->H' b=some (.tup xs)
 frzs:∀ b o u,H b=some (.frz o u)->H' b=some (.frz o u)
 tbls:∀ b ps,H b=some (.tbl ps)->∃ more,H' b=some (.tbl (ps++more))
section
variable {fs fs' ex ex':List Addr} {H H1 H2:Hp} {h h1 h2 h':Heap} {a x e:Addr} {o:HO}
theorem Un.any (u:Un fs ex H H1 h h1) {b:Addr} {ob:Obj} (q:h.get? b=some ob) (n:H b=none) (hx:b∉ex):∃ sl,h1.get? b=some { ob with slots:=sl }:=by
 by_cases hb:b∈fs
 ·exact u.slot b ob q n hb hx
 ·exact ⟨ob.slots,u.keep b ob q n hb hx⟩
theorem Un.kept (k:∀ b u,h.get? b=some u->h'.get? b=some u):Un fs ex H H h h':=
 ⟨fun b ob q _ _ _=>k b ob q,fun b ob q _ _ _=>⟨ob.slots,k b ob q⟩,fun _ _ _ n _=>n,fun b ob q _=>⟨ob,k b ob q⟩,fun _ _ q=>q,fun _ _ _ q=>q,fun _ ps q=>⟨#[],by rw [q];simp⟩⟩
theorem Un.refl:Un fs ex H H h h:=Un.kept fun _ _ q=>q
theorem Un.laid (k:∀ b u,h.get? b=some u->h'.get? b=some u) (hp:h.objs.size≤a) (hn:H a=none):Un fs ex H (upd H a o) h h' where
 keep:=fun b u q _ _ _=>k b u q
 slot:=fun b u q _ _ _=>⟨u.slots,k b u q⟩
 free:=fun b u q n _=>by rw [aA (Nat.ne_of_lt (Nat.lt_of_lt_of_le (Heap.lt_size q) hp))];exact n
 there:=fun b u q _=>⟨u,k b u q⟩
 tups:=fun b xs q=>by rw [aA (aC q hn)];exact q
 frzs:=fun b u xs q=>by rw [aA (aC q hn)];exact q
 tbls:=fun b ps q=>⟨#[],by rw [aA (aC q hn),q];simp⟩
theorem Un.write (mu:JX (H x)) (he:e=x∨H e=some (.own x)) (k:∀ b u,b≠e->h.get? b=some u->h'.get? b=some u) (heo:∃ u,h'.get? e=some u):Un fs ex H (upd H x o) h h':=by
 have hx:∀ b,H b=none->b≠x:=fun b n z=>by subst z;rw [n] at mu;exact mu
 have hb:∀ b,H b=none->b≠e:=fun b n z=>by
  subst z
  rcases he with r|r
  ·exact hx b n r
  ·rw [n] at r;cases r
 have hm:∀ b u,H b=some u->¬ JX (some u)->b≠x:=fun b u q nm z=>by subst z;rw [q] at mu;exact nm mu
 refine ⟨fun b u q n _ _=>k b u (hb b n) q,fun b u q n _ _=>⟨u.slots,k b u (hb b n) q⟩,fun b u q n _=>by rw [aA (hx b n)];exact n,fun b u q _=>?_,
  fun b xs q=>by rw [aA (hm b _ q fun z=>z)];exact q,fun b u xs q=>by rw [aA (hm b _ q fun z=>z)];exact q,fun b ps q=>⟨#[],by rw [aA (hm b _ q fun z=>z),q];simp⟩⟩
 by_cases hbe:b=e
 ·subst hbe;exact heo
 ·exact ⟨u,k b u hbe q⟩
end
def KC (h:Heap) (H:Hp):List Addr:=(List.range h.objs.size).filter fun a=>(H a).isSome
def sE (h:Heap) (H:Hp):Heap:=PySem.W.hideAll h (KC h H)
theorem wj (h:Heap) (H:Hp):(sE h H).objs.size=h.objs.size:=PySem.W.hideAll_size _ _
theorem nU {h:Heap} {H:Hp} {b:Addr} {o:Obj} (e:h.get? b=some o) (n:H b=none):(sE h H).get? b=some o:=
 PySem.W.hideAll_get _ e fun hm=>by
  have q:(H b).isSome=true:=(List.mem_filter.mp hm).2
  rw [n] at q;simp at q
theorem Ag {h:Heap} {H:Hp} {b:Addr} {o:Obj} (e:(sE h H).get? b=some o):h.get? b=some o/\H b=none:=by
 have e':h.get? b=some o:=PySem.W.of_hideAll (KC h H) e
 refine ⟨e',?_⟩
 cases q:H b with
 |none=>rfl
 | some x=>
   have hm:b∈KC h H:=List.mem_filter.mpr ⟨List.mem_range.mpr (Heap.lt_size e'),by simp [q]⟩
   have z:(sE h H).get? b=none:=PySem.W.hideAll_none (KC h H) hm
   rw [z] at e;cases e
structure Mod (K:PySem.W.Frag) (mg:Str->Option Value) (base:Heap):Prop where
 kin:K.In base
 glob:base.Ns mainGlobals mg
 blt:∃ mb,base.Ns builtinsNs mb/\∀ x:Str,x ≠ "__name__"->mb x=bootBuiltins x
 nolimit:base.NoLimit
structure Cx where
 prog:Program
 w:World
 K:PySem.W.Frag
 mg:Str->Option Value
 base:Heap
 A:Around
 N:List Str
 s₀:Shared
 H₀:Hp
 env:Env
 outer:List Env
 stack:List Env
 ex:List Addr
 fn:Str->Bool
 calm:Bool
 pn:List (Addr×Obj)
 xe:Value->Shared->Prop
def frs (l:List Env):List Addr:=l.filterMap (·.frame)
abbrev Cx.fs (X:Cx):List Addr:=frs X.outer
def Kl (sc:Scope) (x:Str):Prop:=sc.names.lookup x=some .local∨sc.names.lookup x=some .cell∨sc.names.lookup x=some .free
def Loc (sc:Scope) (x:Str):Prop:=sc.names.lookup x=some .local∨sc.names.lookup x=some .cell
def Look (env:Env) (h:Heap) (m:Str->Option Value) (x:Str) (u:Value):Prop:=
 (env.kindOf x=some .local/\m x=some u)∨((env.kindOf x=some .cell∨env.kindOf x=some .free)/\∃ c,env.cells.lookup x=some c/\h.IsCell c (some u))
structure Cx.Ok (X:Cx):Prop where
 mod:Mod X.K X.mg X.base
 kind:X.env.scope.kind=.function
 glob:X.env.globals=mainGlobals
 blt:X.env.builtins=builtinsNs
 above:X.s₀.heap.objs.size≤X.env.locals
 inj:∀ x y c,X.env.cells.lookup x=some c->X.env.cells.lookup y=some c->x=y
 has:∀ x,(X.env.kindOf x=some .cell∨X.env.kindOf x=some .free)->∃ c,X.env.cells.lookup x=some c
 cab:∀ x c,X.fn x=true->X.env.cells.lookup x=some c->X.s₀.heap.objs.size≤c
 hd:X.calm=true->X.A.handled=none
 frames:X.A.frames=some X.stack
 stk:X.stack=X.outer∨(X.stack=X.env::X.outer/\X.env.frame=some X.env.locals)
 exf:∀ b∈X.ex,b≠X.env.locals/\∀ x c,X.env.cells.lookup x=some c->c≠b
 bs:∀ b o,X.base.get? b=some o->X.s₀.heap.get? b=some o/\X.H₀ b=none
 bsz:X.base.objs.size≤X.s₀.heap.objs.size
 noex:∀ b o,X.base.get? b=some o->b∉X.ex
 exfs:∀ b∈X.ex,b∉X.fs
 funs:X.s₀.heap.FunFrames X.base X.outer
 frf:∀ b∈X.fs,X.H₀ b=none
structure Inv (X:Cx) (Z:List (Addr×Obj)) (O:List (Option V)) (H:Hp) (s:Shared):Prop where
 ok:X.Ok
 os:s.os=X.s₀.os
 bare:AllBare s.gens
 base:Un X.fs X.ex X.H₀ H X.s₀.heap s.heap
 loc:∃ m,s.heap.Ns X.env.locals m/\∀ (i:Nat) (x:Str) (v:V),X.N[i]?=some x->O[i]?=some (some v)->Kl X.env.scope x->∃ u,RelV v u/\Look X.env s.heap m x u
 cell:∀ x c,X.env.cells.lookup x=some c->∃ v,s.heap.IsCell c v
 free:H X.env.locals=none
 freeC:∀ x c,X.env.cells.lookup x=some c->H c=none
 pin:∀ p∈X.pn++Z,s.heap.get? p.1=some p.2/\H p.1=none/\p.1≠X.env.locals/\p.1∉X.fs/\∀ v,p.2.data≠.cell v
 hok:iZ X.prog X.w H s.heap
 len:O.length=X.N.length
section
variable {X:Cx} {Z:List (Addr×Obj)} {O:List (Option V)} {H H':Hp} {s:Shared} {h':Heap}
theorem Cx.Ok.nofr (ok:X.Ok) {b:Addr} {o:Obj} (e:X.base.get? b=some o):b∉X.fs:=fun hb=>by
 have:=(ok.funs.mem hb).1
 rw [e] at this;cases this
theorem Inv.bs (I:Inv X Z O H s):∀ b o,X.base.get? b=some o->s.heap.get? b=some o/\H b=none:=fun b o e=>
 ⟨I.base.keep b o (I.ok.bs b o e).1 (I.ok.bs b o e).2 (I.ok.nofr e) (I.ok.noex b o e),I.base.free b o (I.ok.bs b o e).1 (I.ok.bs b o e).2 (I.ok.noex b o e)⟩
theorem Inv.bk (I:Inv X Z O H s):∀ b o,X.base.get? b=some o->s.heap.get? b=some o:=fun b o e=>(I.bs b o e).1
theorem Inv.mod (I:Inv X Z O H s):Mod X.K X.mg X.base:=I.ok.mod
theorem Inv.kIn (I:Inv X Z O H s):X.K.In s.heap:=I.ok.mod.kin.keeps I.bk
theorem Inv.fr (I:Inv X Z O H s):∃ m,Fr X.base X.env.locals s.heap m:=
 let ⟨m,hn,_⟩:=I.loc
 ⟨m,hn,I.bk,Nat.le_trans I.ok.bsz I.ok.above⟩
theorem Inv.lt (I:Inv X Z O H s):X.env.locals<s.heap.objs.size:=let ⟨_,hn,_⟩:=I.loc;hn.lt
theorem Inv.sz (I:Inv X Z O H s):X.s₀.heap.objs.size≤s.heap.objs.size:=Nat.le_trans I.ok.above (Nat.le_of_lt I.lt)
theorem Inv.nofs (I:Inv X Z O H s) {a:Addr} (h:s.heap.objs.size≤a):a∉X.fs:=fun hb=>by
 obtain ⟨_,o,ho,_⟩:=I.ok.funs.mem hb
 exact absurd (Nat.lt_of_lt_of_le (Heap.lt_size ho) (Nat.le_trans I.sz h)) (Nat.lt_irrefl _)
theorem Inv.cne (I:Inv X Z O H s):∀ x c,X.env.cells.lookup x=some c->c≠X.env.locals:=fun x c e z=>by
 obtain ⟨v,o,ho,hd⟩:=I.cell x c e
 obtain ⟨m,⟨o',es,ep,ho',hd',_⟩,_⟩:=I.loc
 rw [z,ho'] at ho;cases ho;rw [hd'] at hd;cases hd
theorem Inv.funs (I:Inv X Z O H s):s.heap.FunFrames X.base X.outer:=by
 have all:∀ (l:List Env),(∀ b∈frs l,b∈X.fs)->X.s₀.heap.FunFrames X.base l->s.heap.FunFrames X.base l:=by
  intro l
  induction l with
  |nil=>intro _ _;trivial
  | cons env r ih=>
    intro hs hl
    obtain ⟨hk,⟨L,o,hf,hn,ho,hd⟩,hr⟩:=hl
    have hL:L∈X.fs:=hs L (by unfold frs;rw [List.filterMap_cons,hf];exact List.mem_cons_self)
    obtain ⟨sl,e⟩:=I.base.slot L o ho (I.ok.frf L hL) hL fun z=>I.ok.exfs L z hL
    exact ⟨hk,⟨L,_,hf,hn,e,hd⟩,ih (fun b hb=>hs b (by unfold frs;rw [List.filterMap_cons,hf];exact List.mem_cons_of_mem _ hb)) hr⟩
 exact all X.outer (fun _ hb=>hb) I.ok.funs
theorem Inv.stack (I:Inv X Z O H s):s.heap.FunFrames X.base X.stack:=by
 rcases I.ok.stk with e|⟨e,hf⟩
 ·rw [e];exact I.funs
 ·rw [e]
  obtain ⟨m,hn,_⟩:=I.loc
  refine .cons (by rw [I.ok.kind];decide) hf hn ?_ I.funs
  exact Heap.get?_none_of_le (Nat.le_trans I.ok.bsz I.ok.above)
theorem Inv.stkSub (I:Inv X Z O H s):∀ b∈frs X.stack,b∈X.env.locals::X.fs:=fun b hb=>by
 rcases I.ok.stk with e|⟨e,hf⟩
 ·rw [e] at hb;exact List.mem_cons_of_mem _ hb
 ·rw [e] at hb
  unfold frs at hb
  rw [List.filterMap_cons,hf] at hb
  exact hb
theorem Inv.stkFree (I:Inv X Z O H s):∀ b∈frs X.stack,H b=none:=fun b hb=>by
 rcases List.mem_cons.mp (I.stkSub b hb) with e|hb
 ·rw [e];exact I.free
 ·obtain ⟨_,o,ho,_⟩:=I.ok.funs.mem hb
  exact I.base.free b o ho (I.ok.frf b hb) fun z=>I.ok.exfs b z hb
theorem Inv.step {g':Array GenState} {t':Nat} {d':Drawn} {ch:List Addr} (I:Inv X Z O H s)
 (hch:∀ b∈ch,(b∈X.ex∨X.s₀.heap.objs.size≤b)/\b≠X.env.locals/\(∀ x c,X.env.cells.lookup x=some c->c≠b)/\∀ p∈X.pn++Z,p.1≠b)
 (keep:∀ b o,b≠X.env.locals->b∉X.fs->b∉ch->s.heap.get? b=some o->H b=none->h'.get? b=some o)
 (slot:∀ b o,b≠X.env.locals->b∈X.fs->b∉ch->s.heap.get? b=some o->H b=none->∃ sl,h'.get? b=some { o with slots:=sl }) (free:∀ b o,b∉ch->s.heap.get? b=some o->H b=none->H' b=none)
 (there:∀ b o,b∉ch->s.heap.get? b=some o->∃ o',h'.get? b=some o')
 (tups:∀ b xs,H b=some (.tup xs)->H' b=some (.tup xs)) (frzs:∀ b o u,H b=some (.frz o u)->H' b=some (.frz o u)) (tbls:∀ b ps,H b=some (.tbl ps)->∃ more,H' b=some (.tbl (ps++more)))
 (ns:∀ m,s.heap.Ns X.env.locals m->h'.Ns X.env.locals m) (hok:iZ X.prog X.w H' h') (hg:AllBare g') :
 Inv X Z O H' { s with heap:=h',gens:=g',drawn:=d',toks:=t' }:=by
 have neL:∀ b o,X.s₀.heap.get? b=some o->b≠X.env.locals:=fun b o e=>Nat.ne_of_lt (Nat.lt_of_lt_of_le (Heap.lt_size e) I.ok.above)
 have neC:∀ b o,X.s₀.heap.get? b=some o->b∉X.ex->b∉ch:=fun b o e hx hb=>by
  rcases (hch b hb).1 with z|z
  ·exact hx z
  ·exact absurd (Nat.lt_of_lt_of_le (Heap.lt_size e) z) (Nat.lt_irrefl _)
 have cellK:∀ x c,X.env.cells.lookup x=some c->∀ v,s.heap.IsCell c v->h'.IsCell c v:=fun x c e v ⟨o,ho,hd⟩=>by
  have nch:c∉ch:=fun z=>(hch c z).2.2.1 x c e rfl
  by_cases hc:c∈X.fs
  ·obtain ⟨sl,q⟩:=slot c o (I.cne x c e) hc nch ho (I.freeC x c e)
   exact ⟨_,q,hd⟩
  ·exact ⟨o,keep c o (I.cne x c e) hc nch ho (I.freeC x c e),hd⟩
 refine ⟨I.ok,I.os,hg,⟨fun b o e n hb hx=>?_,fun b o e n hb hx=>?_,fun b o e n hx=>?_,fun b o e hx=>?_,fun b xs e=>tups b xs (I.base.tups b xs e),fun b o xs e=>frzs b o xs (I.base.frzs b o xs e),fun b ps e=>?_⟩,?_,fun x c e=>?_,?_,fun x c e=>?_,fun p hp=>?_,hok,I.len⟩
 ·exact keep b o (neL b o e) hb (neC b o e hx) (I.base.keep b o e n hb hx) (I.base.free b o e n hx)
 ·obtain ⟨sl,e1⟩:=I.base.slot b o e n hb hx
  obtain ⟨sl',e2⟩:=slot b _ (neL b o e) hb (neC b o e hx) e1 (I.base.free b o e n hx)
  exact ⟨sl',e2⟩
 ·obtain ⟨o',e1⟩:=I.base.there b o e hx
  exact free b o' (neC b o e hx) e1 (I.base.free b o e n hx)
 ·obtain ⟨o',e1⟩:=I.base.there b o e hx
  exact there b o' (neC b o e hx) e1
 ·obtain ⟨m1,e1⟩:=I.base.tbls b ps e
  obtain ⟨m2,e2⟩:=tbls b _ e1
  exact ⟨m1++m2,by rw [e2,Array.append_assoc]⟩
 ·obtain ⟨m,hn,hl⟩:=I.loc
  refine ⟨m,ns m hn,fun i x v e1 e2 e3=>?_⟩
  obtain ⟨u,r,l⟩:=hl i x v e1 e2 e3
  refine ⟨u,r,?_⟩
  rcases l with l|⟨k,c,e,z⟩
  ·exact .inl l
  ·exact .inr ⟨k,c,e,cellK x c e _ z⟩
 ·obtain ⟨v,z⟩:=I.cell x c e
  exact ⟨v,cellK x c e v z⟩
 ·obtain ⟨m,⟨o,_,_,ho,_⟩,_⟩:=I.loc
  exact free _ o (fun z=>(hch _ z).2.1 rfl) ho I.free
 ·obtain ⟨v,o,ho,hd⟩:=I.cell x c e
  exact free c o (fun z=>(hch c z).2.2.1 x c e rfl) ho (I.freeC x c e)
 ·obtain ⟨e,n,ne,nf,d⟩:=I.pin p hp
  have nch:p.1∉ch:=fun z=>(hch p.1 z).2.2.2 p hp rfl
  exact ⟨keep p.1 p.2 ne nf nch e n,free p.1 p.2 nch e n,ne,nf,d⟩
theorem Inv.un {t':Nat} (I:Inv X Z O H s) (u:Un X.fs [] H H' s.heap h') (hok:iZ X.prog X.w H' h'):Inv X Z O H' { s with heap:=h',toks:=t' }:=by
 obtain ⟨m,⟨o,es,ep,ho,r⟩,_⟩:=id I.loc
 obtain ⟨sl,hL⟩:=u.any ho I.free (by simp)
 exact I.step (g':=s.gens) (d':=s.drawn) (ch:=[]) (fun _ z=>nomatch z) (fun b o _ hb _ e n=>u.keep b o e n hb (by simp)) (fun b o _ hb _ e n=>u.slot b o e n hb (by simp)) (fun b o _ e n=>u.free b o e n (by simp)) (fun b o _ e=>u.there b o e (by simp)) u.tups u.frzs u.tbls (fun m' hm=>by
  obtain ⟨o',es',ep',ho',r'⟩:=hm
  rw [ho] at ho';cases ho'
  exact ⟨_,es',ep',hL,r'⟩) hok I.bare
theorem Inv.call {g':Array GenState} {t':Nat} {d':Drawn} {ch:List Addr} (I:Inv X Z O H s) (u:Un (frs X.stack) ch H H' s.heap h') (hok:iZ X.prog X.w H' h') (hg:AllBare g')
 (hch:∀ b∈ch,(b∈X.ex∨X.s₀.heap.objs.size≤b)/\b≠X.env.locals/\(∀ x c,X.env.cells.lookup x=some c->c≠b)/\∀ p∈X.pn++Z,p.1≠b) :
 Inv X Z O H' { s with heap:=h',gens:=g',drawn:=d',toks:=t' }:=by
 obtain ⟨m,⟨o,es,ep,ho,r⟩,_⟩:=id I.loc
 obtain ⟨sl,hL⟩:=u.any ho I.free fun z=>(hch _ z).2.1 rfl
 exact I.step (ch:=ch) hch (fun b o hL hb hc e n=>u.keep b o e n (fun z=>(List.mem_cons.mp (I.stkSub b z)).elim hL hb) hc) (fun b o _ _ hc e n=>u.any e n hc) (fun b o hc e n=>u.free b o e n hc) (fun b o hc e=>u.there b o e hc) u.tups u.frzs u.tbls (fun m' hm=>by
  obtain ⟨o',es',ep',ho',r'⟩:=hm
  rw [ho] at ho';cases ho'
  exact ⟨_,es',ep',hL,r'⟩) hok hg
theorem Inv.turned {t':Nat} {it:Addr} (I:Inv X Z O H s) (k:∀ b o,b≠it->s.heap.get? b=some o->h'.get? b=some o) (hn:H it=none) (hL:it≠X.env.locals)
 (h1:it∈X.ex∨X.s₀.heap.objs.size≤it) (h2:∀ x c,X.env.cells.lookup x=some c->c≠it) (h3:∀ p∈X.pn++Z,p.1≠it):Inv X Z O H { s with heap:=h',toks:=t' }:=by
 have nit:∀ b u,H b=some u->b≠it:=fun b u e z=>by rw [z,hn] at e;cases e
 refine I.step (g':=s.gens) (d':=s.drawn) (ch:=[it]) (fun b hb=>?_) (fun b o _ _ hc e _=>k b o (fun z=>hc (by simp [z])) e) (fun b o _ _ hc e _=>⟨o.slots,k b o (fun z=>hc (by simp [z])) e⟩) (fun _ _ _ _ n=>n)
  (fun b o hc e=>⟨o,k b o (fun z=>hc (by simp [z])) e⟩) (fun _ _ e=>e) (fun _ _ _ e=>e) (fun b ps e=>⟨#[],by rw [e];simp⟩) (fun m hm=>?_) (fun b u e=>?_) I.bare
 ·have e:b=it:=by simpa using hb
  subst e
  exact ⟨h1,hL,h2,h3⟩
 ·obtain ⟨o,es,ep,ho,r⟩:=hm
  exact ⟨o,es,ep,k _ o (Ne.symm hL) ho,r⟩
 ·refine (I.hok b u e).stay (fun c v hc q=>k c v ?_ q) (fun _ q=>q) fun _ _ q=>q
  rcases hc with z|z
  ·rw [z];exact nit b u e
  ·exact nit c _ z
theorem Inv.tok (I:Inv X Z O H s) (t:Nat):Inv X Z O H { s with toks:=t }:=I.un (h':=s.heap) (t':=t) Un.refl I.hok
theorem Inv.kept {t':Nat} (I:Inv X Z O H s) (k:∀ b u,s.heap.get? b=some u->h'.get? b=some u):Inv X Z O H { s with heap:=h',toks:=t' }:=I.un (Un.kept k) (I.hok.kept k)
theorem Inv.laid {a:Addr} {o:HO} {t':Nat} (I:Inv X Z O H s) (k:∀ b u,s.heap.get? b=some u->h'.get? b=some u) (hp:s.heap.objs.size≤a) (new:bZ X.prog X.w (upd H a o) h' a o) :
 Inv X Z O (upd H a o) { s with heap:=h',toks:=t' }:=I.un (Un.laid k hp (I.hok.fresh hp)) (I.hok.laid k hp new)
theorem Inv.write {x e:Addr} {o:HO} {t':Nat} (I:Inv X Z O H s) (mu:JX (H x)) (he:e=x∨H e=some (.own x)) (k:∀ b u,b≠e->s.heap.get? b=some u->h'.get? b=some u) (heo:∃ u,h'.get? e=some u)
 (new:bZ X.prog X.w (upd H x o) h' x o):Inv X Z O (upd H x o) { s with heap:=h',toks:=t' }:=I.un (Un.write mu he k heo) (I.hok.write mu he k heo new)
theorem Inv.pins_of {pins':List (Addr×Obj)} (I:Inv X Z O H s) (h:∀ p∈pins',s.heap.get? p.1=some p.2/\H p.1=none/\p.1≠X.env.locals/\p.1∉X.fs/\∀ v,p.2.data≠.cell v):Inv X pins' O H s:=
 ⟨I.ok,I.os,I.bare,I.base,I.loc,I.cell,I.free,I.freeC,fun p hp=>(List.mem_append.mp hp).elim (fun z=>I.pin p (List.mem_append_left _ z)) (h p),I.hok,I.len⟩
theorem nO {N:List Str} (hN:N.Nodup) {i j:Nat} {x:Str} (a:N[i]?=some x) (b:N[j]?=some x):i=j:=by
 obtain ⟨h1,e1⟩:=List.getElem?_eq_some_iff.mp a
 obtain ⟨h2,e2⟩:=List.getElem?_eq_some_iff.mp b
 exact (List.getElem_inj hN).mp (e1.trans e2.symm)
theorem jf {M:Model} {A:Around} {E:Value->Shared->Prop} {i:Nat} {x:Str} {v:V} {u:Value} {Q:Unit->Shared->Prop} (I:Inv X Z O H s) (hN:X.N.Nodup) (hi:X.N[i]?=some x) (hx:Loc X.env.scope x) (r:RelV v u)
 (h:∀ s',Inv X Z (O.set i (some v)) H s'->(∃ a,Heap.SameBut a s.heap s'.heap/\(a=X.env.locals∨X.env.cells.lookup x=some a))->Q () s') (hf:X.fn x=true∨X.env.scope.names.lookup x=some .local:=by first|exact .inl rfl|exact .inr rfl|assumption):wpAny M A (storeName X.env x u) Q E s:=by
 obtain ⟨m,hn,hl⟩:=id I.loc
 have hcls:(X.env.scope.kind == .class || (X.env.scope.kind == .module && X.env.locals != X.env.globals))=false:=by rw [I.ok.kind];rfl
 have hiO:i<O.length:=by rw [I.len];exact (List.getElem?_eq_some_iff.mp hi).1
 have cne:=I.cne
 have tracked:∀ {a:Addr} {h':Heap},(∃ o,s.heap.get? a=some o/\H a=none)->Heap.SameBut a s.heap h'->iZ X.prog X.w H h':=fun {a h'} ha hs b ob e=>by
  obtain ⟨_,_,hfree⟩:=ha
  refine (I.hok b ob e).stay (fun c w' hc q=>(hs.2 c ?_).trans q) (fun _ q=>q) fun _ _ q=>q
  rintro rfl
  rcases hc with rfl|hc
  ·rw [hfree] at e;cases e
  ·rw [hfree] at hc;cases hc
 rcases hx with hk|hk
 ·refine wpAny_storeName_local hk hn (fun h' hn' hs=>?_) hcls
  obtain ⟨oL,_,_,hoL,_⟩:=id hn
  refine h _ ⟨I.ok,I.os,I.bare,⟨fun b o e n hb hx=>?_,fun b o e n hb hx=>?_,I.base.free,fun b o e hx=>?_,I.base.tups,I.base.frzs,I.base.tbls⟩,⟨_,hn',fun j y v' e1 e2 e3=>?_⟩,fun y c e=>?_,I.free,I.freeC,fun p hp=>?_,tracked ⟨oL,hoL,I.free⟩ hs,by simpa using I.len⟩ ⟨_,hs,.inl rfl⟩
  ·exact (hs.2 b (Nat.ne_of_lt (Nat.lt_of_lt_of_le (Heap.lt_size e) I.ok.above))).trans (I.base.keep b o e n hb hx)
  ·obtain ⟨sl,e1⟩:=I.base.slot b o e n hb hx
   exact ⟨sl,(hs.2 b (Nat.ne_of_lt (Nat.lt_of_lt_of_le (Heap.lt_size e) I.ok.above))).trans e1⟩
  ·obtain ⟨o',e1⟩:=I.base.there b o e hx
   exact ⟨o',(hs.2 b (Nat.ne_of_lt (Nat.lt_of_lt_of_le (Heap.lt_size e) I.ok.above))).trans e1⟩
  ·by_cases hj:j=i
   ·subst hj
    rw [hi] at e1;cases e1
    rw [List.getElem?_set_self hiO] at e2
    cases e2
    exact ⟨u,r,.inl ⟨hk,by simp⟩⟩
   ·rw [List.getElem?_set_ne (Ne.symm hj)] at e2
    obtain ⟨u',r',q⟩:=hl j y v' e1 e2 e3
    refine ⟨u',r',?_⟩
    rcases q with ⟨k,e⟩|⟨k,c,e,z⟩
    ·refine .inl ⟨k,?_⟩
     have:y≠x:=fun e=>hj (nO hN e1 (e ▸ hi))
     simp [this,e]
    ·exact .inr ⟨k,c,e,z.sameBut hs (cne y c e)⟩
  ·obtain ⟨w',z⟩:=I.cell y c e
   exact ⟨w',z.sameBut hs (cne y c e)⟩
  ·obtain ⟨e,n,ne,nf,d⟩:=I.pin p hp
   exact ⟨(hs.2 p.1 ne).trans e,n,ne,nf,d⟩
 ·have hfn:X.fn x=true:=by
   rcases hf with z|z
   ·exact z
   ·rw [z] at hk;cases hk
  obtain ⟨c,hc⟩:=I.ok.has x (.inl hk)
  obtain ⟨w',z⟩:=I.cell x c hc
  refine wpAny_storeName_cell I.ok.kind hk hc z (fun h' hc' hs=>?_)
  obtain ⟨oc,hoc,hocd⟩:=id z
  refine h { s with heap:=h' } ⟨I.ok,I.os,I.bare,⟨fun b o e n hb hx=>?_,fun b o e n hb hx=>?_,I.base.free,fun b o e hx=>?_,I.base.tups,I.base.frzs,I.base.tbls⟩,⟨m,hn.sameBut hs (Ne.symm (cne x c hc)),fun j y v' e1 e2 e3=>?_⟩,fun y c' e=>?_,I.free,I.freeC,fun p hp=>?_,tracked ⟨oc,hoc,I.freeC x c hc⟩ hs,by simpa using I.len⟩ ⟨c,hs,.inr hc⟩
  ·exact (hs.2 b (Nat.ne_of_lt (Nat.lt_of_lt_of_le (Heap.lt_size e) (I.ok.cab x c hfn hc)))).trans (I.base.keep b o e n hb hx)
  ·obtain ⟨sl,e1⟩:=I.base.slot b o e n hb hx
   exact ⟨sl,(hs.2 b (Nat.ne_of_lt (Nat.lt_of_lt_of_le (Heap.lt_size e) (I.ok.cab x c hfn hc)))).trans e1⟩
  ·obtain ⟨o',e1⟩:=I.base.there b o e hx
   exact ⟨o',(hs.2 b (Nat.ne_of_lt (Nat.lt_of_lt_of_le (Heap.lt_size e) (I.ok.cab x c hfn hc)))).trans e1⟩
  ·by_cases hj:j=i
   ·subst hj
    rw [hi] at e1;cases e1
    rw [List.getElem?_set_self hiO] at e2
    cases e2
    exact ⟨u,r,.inr ⟨.inl hk,c,hc,hc'⟩⟩
   ·rw [List.getElem?_set_ne (Ne.symm hj)] at e2
    obtain ⟨u',r',q⟩:=hl j y v' e1 e2 e3
    refine ⟨u',r',?_⟩
    rcases q with q|⟨k,c',e,z'⟩
    ·exact .inl q
    ·refine .inr ⟨k,c',e,z'.sameBut hs ?_⟩
     rintro rfl
     exact hj (nO hN e1 (I.ok.inj _ _ _ e hc ▸ hi))
  ·by_cases hcc:c'=c
   ·subst hcc;exact ⟨_,hc'⟩
   ·obtain ⟨w2,z2⟩:=I.cell y c' e
    exact ⟨w2,z2.sameBut hs hcc⟩
  ·obtain ⟨e,n,ne,nf,d⟩:=I.pin p hp
   refine ⟨(hs.2 p.1 ?_).trans e,n,ne,nf,d⟩
   intro q
   rw [q,hoc] at e
   have q':oc=p.2:=Option.some.inj e
   exact d w' (by rw [← q'];exact hocd)
theorem eX {M:Model} {A:Around} {E:Value->Shared->Prop} {i:Nat} {x:Str} {v:V} {u:Value} {Q:Unit->Shared->Prop} (I:Inv X Z O H s) (hN:X.N.Nodup) (hi:X.N[i]?=some x) (hx:Loc X.env.scope x) (r:RelV v u)
 (h:∀ s',Inv X Z (O.set i (some v)) H s'->Q () s') (hf:X.fn x=true∨X.env.scope.names.lookup x=some .local:=by first|exact .inl rfl|exact .inr rfl|assumption):wpAny M A (storeName X.env x u) Q E s:=
 jf I hN hi hx r (fun s' I' _=>h s' I') hf
theorem Inv.call' {s':Shared} {ch:List Addr} (I:Inv X Z O H s) (ho:s'.os=s.os) (u:Un (frs X.stack) ch H H' s.heap s'.heap) (hok:iZ X.prog X.w H' s'.heap) (hg:AllBare s'.gens)
 (hch:∀ b∈ch,(b∈X.ex∨X.s₀.heap.objs.size≤b)/\b≠X.env.locals/\(∀ x c,X.env.cells.lookup x=some c->c≠b)/\∀ p∈X.pn++Z,p.1≠b):Inv X Z O H' s':=by
 obtain ⟨h',g',d',t',o'⟩:=s'
 have e:o'=s.os:=ho
 subst e
 exact I.call (g':=g') (t':=t') (d':=d') u hok hg hch
end
abbrev XK:=Value->Option Addr->Hp->Prop
abbrev St:=List (Option V)
abbrev VK:=V->Hp->Prop
abbrev TE:=St->Hp->VK->Prop
abbrev TT:=St->Hp->(Bool->Hp->Prop)->Prop
abbrev TA:=St->Hp->(List V->Hp->Prop)->Prop
structure Ends where
 nx:St->Hp->Prop
 rt:VK
 bk:St->Hp->Prop:=fun _ _=>False
 ct:St->Hp->Prop:=fun _ _=>False
abbrev TS:=Ends->St->Hp->Prop
def EP (X:Cx) (Z:List (Addr×Obj)) (O:St) (Q:VK) (u:Value) (s':Shared):Prop:=∃ v H',Inv X Z O H' s'/\RelV v u/\Q v H'
def TP (X:Cx) (Z:List (Addr×Obj)) (O:St) (Q:Bool->Hp->Prop) (b:Bool) (s':Shared):Prop:=∃ H',Inv X Z O H' s'/\Q b H'
def AP (X:Cx) (Z:List (Addr×Obj)) (O:St) (Q:List V->Hp->Prop) (us:List Value) (s':Shared):Prop:=∃ vs H',Inv X Z O H' s'/\Vals vs us/\Q vs H'
def SP (X:Cx) (Z:List (Addr×Obj)) (D:Ends) (f:Flow) (s':Shared):Prop:=
 match f with
 |.next=>∃ σ' H',Inv X Z σ' H' s'/\D.nx σ' H'
 |.brk=>∃ σ' H',Inv X Z σ' H' s'/\D.bk σ' H'
 |.cont=>∃ σ' H',Inv X Z σ' H' s'/\D.ct σ' H'
 |.ret u=>∃ v σ' H',Inv X Z σ' H' s'/\RelV v u/\D.rt v H'
def PE (X:Cx) (e:Expr) (t:TE):Prop:=
 ∀ (Z:List (Addr×Obj)) (s:Shared) (O:St) (H:Hp) (Q:VK),Inv X Z O H s->t O H Q->wpAny (model X.prog X.w) X.A (eval e X.env) (EP X Z O Q) X.xe s
def PT (X:Cx) (e:Expr) (t:TT):Prop:=
 ∀ (Z:List (Addr×Obj)) (s:Shared) (O:St) (H:Hp) (Q:Bool->Hp->Prop),Inv X Z O H s->t O H Q->wpAny (model X.prog X.w) X.A (isTrue e X.env (eval e X.env)) (TP X Z O Q) X.xe s
def PW (X:Cx) (e:Expr) (t:TT):Prop:=
 ∀ (whole:Sem Value) (Z:List (Addr×Obj)) (s:Shared) (O:St) (H:Hp) (Q:Bool->Hp->Prop),Inv X Z O H s->t O H Q->wpAny (model X.prog X.w) X.A (isTrue e X.env whole) (TP X Z O Q) X.xe s
theorem PW.pt {X:Cx} {e:Expr} {t:TT} (h:PW X e t):PT X e t:=h _
def PA (X:Cx) (es:List Expr) (t:TA):Prop:=
 ∀ (pos:Pos) (Z:List (Addr×Obj)) (s:Shared) (O:St) (H:Hp) (Q:List V->Hp->Prop),Inv X Z O H s->t O H Q->wpAny (model X.prog X.w) X.A (spliced (backTo pos (starEach es X.env))) (AP X Z O Q) X.xe s
def PS (X:Cx) (st:Stmt) (t:TS):Prop:=
 ∀ (Z:List (Addr×Obj)) (s:Shared) (O:St) (H:Hp) (D:Ends),Inv X Z O H s->t D O H->wpAny (model X.prog X.w) X.A (exec st X.env) (SP X Z D) X.xe s
def qH (X:Cx) (st:List Stmt) (t:TS):Prop:=
 ∀ (Z:List (Addr×Obj)) (s:Shared) (O:St) (H:Hp) (D:Ends),Inv X Z O H s->t D O H->wpAny (model X.prog X.w) X.A (execs st X.env) (SP X Z D) X.xe s
theorem cj {α:Type} {t:Sem α} {Q Q':α->Shared->Prop} {M:Model} {A:Around} {E:Value->Shared->Prop} {s:Shared} (h:wpAny M A t Q E s) (hQ:∀ a s,Q a s->Q' a s):wpAny M A t Q' E s:=wpAny_mono h hQ fun _ _ x=>x
section
variable {X:Cx}
theorem bin {a b:Expr} {ta tb:TE} (ha:PE X a ta) (hb:PE X b tb) {Z:List (Addr×Obj)} {s:Shared} {O:St} {H:Hp} {R:V->V->Hp->Prop} (I:Inv X Z O H s) (h:ta O H fun x H1=>tb O H1 fun y H2=>R x y H2)
 {α:Type} {Q:α->Shared->Prop} {f:Value->Value->Sem α}
 (hf:∀ v u s2 x y H2,Inv X Z O H2 s2->RelV x v->RelV y u->R x y H2->wpAny (model X.prog X.w) X.A (f v u) Q X.xe s2) :
 wpAny (model X.prog X.w) X.A (eval a X.env) (fun v s₁=>wpAny (model X.prog X.w) X.A (eval b X.env) (fun u s₂=>wpAny (model X.prog X.w) X.A (f v u) Q X.xe s₂) X.xe s₁) X.xe s:=by
 refine cj (ha Z s O H _ I h) fun v s1 ⟨x,H1,I1,r1,q1⟩=>?_
 refine cj (hb Z s1 O H1 _ I1 q1) fun u s2 ⟨y,H2,I2,r2,q2⟩=>?_
 exact hf v u s2 x y H2 I2 r1 r2 q2
def tZ (i:Nat):TE:=fun O H Q=>∃ v,O[i]?=some (some v)/\Q v H
def tC (v:V):TE:=fun _ H Q=>Q v H
theorem Ew {i:Nat} {x:Str} {pos:Pos} (hN:X.N[i]?=some x) (hv:Kl X.env.scope x) (hd:(x == ("__debug__" : Str))=false:=by decide) (hcd:(x == ("__classdict__" : Str))=false:=by decide):PE X (.Name x pos) (tZ i):=by
 intro Z s O H Q I h
 obtain ⟨v,e,h⟩:=h
 obtain ⟨m,hn,hl⟩:=I.loc
 obtain ⟨u,r,l⟩:=hl i x v hN e hv
 have fin:EP X Z O Q u s:=⟨v,H,I,r,h⟩
 rcases l with ⟨hk,hm⟩|⟨hk,c,hc,hcell⟩
 ·exact wpAny_Name (wpAny_loadName_local I.ok.kind hk hn hm fin) hd
 ·rcases hk with hk|hk
  ·exact wpAny_Name (wpAny_loadName_cell I.ok.kind hk hc hcell fin) hd
  ·exact wpAny_Name (wpAny_loadName_free I.ok.kind hk hc hcell fin hcd) hd
theorem az {i j pos}:PE X (.Constant (.int i) j pos) (tC (.int i)):=fun _ _ _ H _ I h=>wpAny_Constant_int ⟨.int i,H,I.tok _,⟨_,rfl⟩,h⟩
theorem rT {b j pos}:PE X (.Constant (.bool b) j pos) (tC (.bl b)):=fun _ _ _ H _ I h=>Constant_bool ⟨.bl b,H,I,rfl,h⟩
theorem gM {j pos}:PE X (.Constant .none j pos) (tC .non):=fun _ _ _ H _ I h=>Constant_none ⟨.non,H,I,rfl,h⟩
theorem aX {x j pos}:PE X (.Constant (.str x) j pos) (tC (.str x)):=fun _ _ _ H _ I h=>Calls.Constant_str ⟨.str x,H,I.tok _,⟨_,rfl⟩,h⟩
def Gl (X:Cx) (x:Str):Prop:=X.env.kindOf x=some .globalImplicit
theorem jq {E:Value->Shared->Prop} {Z:List (Addr×Obj)} {s:Shared} {O:St} {H:Hp} {x:Str} {u:Value} {pos:Pos} {Q:Value->Shared->Prop} (I:Inv X Z O H s) (hg:Gl X x) (hm:X.mg x=some u) (h:Q u s)
 (hd:(x == ("__debug__" : Str))=false:=by decide):wpAny (model X.prog X.w) X.A (eval (.Name x pos) X.env) Q E s:=
 Calls.Name_function_global I.ok.kind hg (Calls.loadGlobal_global (by rw [I.ok.glob];exact I.mod.glob.keeps I.bk) hm h) hd
theorem j7 {E:Value->Shared->Prop} {Z:List (Addr×Obj)} {s:Shared} {O:St} {H:Hp} {x:Str} {u:Value} {pos:Pos} {Q:Value->Shared->Prop} (I:Inv X Z O H s) (hg:Gl X x) (hm:X.mg x=none) (hv:bootBuiltins x=some u) (h:Q u s)
 (hn:x ≠ "__name__":=by decide) (hd:(x == ("__debug__" : Str))=false:=by decide):wpAny (model X.prog X.w) X.A (eval (.Name x pos) X.env) Q E s:=by
 obtain ⟨mb,h1,h2⟩:=I.mod.blt
 exact Calls.Name_function_global I.ok.kind hg (Calls.loadGlobal_builtin (by rw [I.ok.glob];exact I.mod.glob.keeps I.bk) hm (by rw [I.ok.blt];exact h1.keeps I.bk) ((h2 x hn).trans hv) h) hd
theorem bO {x:Str} {v:V} {u:Value} {pos:Pos} (hg:Gl X x) (hm:X.mg x=some u) (r:RelV v u) (hd:(x == ("__debug__" : Str))=false:=by decide):PE X (.Name x pos) (tC v):=
 fun _ _ _ H _ I h=>jq I hg hm ⟨v,H,I,r,h⟩ hd
theorem Bx {x:Str} {v:V} {u:Value} {pos:Pos} (hg:Gl X x) (hm:X.mg x=none) (hv:bootBuiltins x=some u) (r:RelV v u) (hn:x ≠ "__name__":=by decide) (hd:(x == ("__debug__" : Str))=false:=by decide):PE X (.Name x pos) (tC v):=
 fun _ _ _ H _ I h=>j7 I hg hm hv ⟨v,H,I,r,h⟩ hn hd
variable {a b:Expr} {ta tb:TE} {pos:Pos}
def PC (X:Cx) (op:CmpOp) (a b:Expr) (t:TE):Prop:=
 ∀ (Z:List (Addr×Obj)) (s:Shared) (O:St) (H:Hp) (Q:VK),Inv X Z O H s->t O H Q->
   wpAny (model X.prog X.w) X.A (eval a X.env) (fun v s₁=>wpAny (model X.prog X.w) X.A (eval b X.env) (fun u s₂=>wpAny (model X.prog X.w) X.A (compareOp op v u) (EP X Z O Q) X.xe s₂) X.xe s₁) X.xe s
def tB (t:TE):TT:=fun O H Q=>t O H fun x H1=>∃ c,x=.bl c/\Q c H1
theorem Li {op:CmpOp} {t:TE} (h:PC X op a b t) (h1:behindInMarks op b=false:=by first|exact nobehind _ (by decide) (by decide)|rfl):PT X (.Compare a [op] [b] pos) (tB t):=by
 intro Z s O H Q I hw
 refine wpAny_isTrue_Compare1 (cj (h Z s O H _ I hw) fun v s1 h1=>cj h1 fun u s2 h2=>cj h2 fun c s3 ⟨x,H1,I1,r1,q1⟩=>?_) h1
 obtain ⟨d,rfl,q⟩:=q1
 cases r1
 exact wpAny_truthy_bool ⟨H1,I1,q⟩
theorem fu {e:Expr} {t:TE} (h:PE X e t) (he:∀ whole,isTrue e X.env whole=(do let v ← whole;standAt e.pos;holding [v] (truthy v)):=by intro _;rfl):PT X e (tB t):=by
 intro Z s O H Q I hw
 refine isTrue_plain (cj (h Z s O H _ I hw) fun v s1 ⟨x,H1,I1,r1,q1⟩=>?_) (he _)
 obtain ⟨d,rfl,q⟩:=q1
 cases r1
 exact wpAny_truthy_bool ⟨H1,I1,q⟩
variable {tA tB':TT} {rest:List Expr}
def KH (t u:TT):TT:=fun O H Q=>t O H fun c H1=>if c=true then u O H1 Q else Q false H1
def Px (t u:TT):TT:=fun O H Q=>t O H fun c H1=>if c=true then Q true H1 else u O H1 Q
def Hr (t:TT):TT:=fun O H Q=>t O H fun c H1=>Q (!c) H1
theorem qp (ha:PT X a tA):PW X (.BoolOp .And [a] pos) tA:=by
 intro wh Z s O H Q I h
 refine isTrue_and (cj (ha Z s O H Q I h) fun c s1 e=>?_)
 cases c with
 |true=>exact isTrue_and_nil e
 |false=>exact e
theorem dN (ha:PT X a tA):PW X (.BoolOp .Or [a] pos) tA:=by
 intro wh Z s O H Q I h
 refine isTrue_or (cj (ha Z s O H Q I h) fun c s1 e=>?_)
 cases c with
 |false=>exact isTrue_or_nil e
 |true=>exact e
theorem tu (ha:PT X a tA) (hb:PW X (.BoolOp .And (b::rest) pos) tB'):PW X (.BoolOp .And (a::b::rest) pos) (KH tA tB'):=by
 intro wh Z s O H Q I h
 refine isTrue_and (cj (ha Z s O H _ I h) fun c s1 ⟨H1,I1,q1⟩=>?_)
 cases c with
 |true=>exact hb wh Z s1 O H1 Q I1 q1
 |false=>exact ⟨H1,I1,q1⟩
theorem dX (ha:PT X a tA) (hb:PW X (.BoolOp .Or (b::rest) pos) tB'):PW X (.BoolOp .Or (a::b::rest) pos) (Px tA tB'):=by
 intro wh Z s O H Q I h
 refine isTrue_or (cj (ha Z s O H _ I h) fun c s1 ⟨H1,I1,q1⟩=>?_)
 cases c with
 |true=>exact ⟨H1,I1,q1⟩
 |false=>exact hb wh Z s1 O H1 Q I1 q1
theorem bV (ha:PT X a tA):PT X (.UnaryOp .Not a pos) (Hr tA):=by
 intro Z s O H Q I h
 exact isTrue_not (ha Z s O H (fun c H1=>Q (!c) H1) I h)
def HQ (ta tb:TE):TE:=fun O H Q=>ta O H fun x H1=>∃ c,x=.bl c/\if c=true then tb O H1 Q else Q (.bl false) H1
def Lp (ta tb:TE):TE:=fun O H Q=>ta O H fun x H1=>∃ c,x=.bl c/\if c=true then Q (.bl true) H1 else tb O H1 Q
theorem nj {op} {t:TE} (h:PE X a t):PE X (.BoolOp op [a] pos) t:=fun Z s O H Q I hw=>BoolOp_one (h Z s O H Q I hw)
theorem lU (ha:PE X a ta) (hb:PE X (.BoolOp .And (b::rest) pos) tb):PE X (.BoolOp .And (a::b::rest) pos) (HQ ta tb):=by
 intro Z s O H Q I h
 refine BoolOp_and (cj (ha Z s O H _ I h) fun v s1 ⟨x,H1,I1,r1,q1⟩=>?_)
 obtain ⟨c,rfl,q1⟩:=q1
 cases r1
 refine wpAny_truthy_bool ?_
 cases c with
 |true=>exact hb Z s1 O H1 Q I1 q1
 |false=>exact ⟨.bl false,H1,I1,rfl,q1⟩
theorem JR (ha:PE X a ta) (hb:PE X (.BoolOp .Or (b::rest) pos) tb):PE X (.BoolOp .Or (a::b::rest) pos) (Lp ta tb):=by
 intro Z s O H Q I h
 refine BoolOp_or (cj (ha Z s O H _ I h) fun v s1 ⟨x,H1,I1,r1,q1⟩=>?_)
 obtain ⟨c,rfl,q1⟩:=q1
 cases r1
 refine wpAny_truthy_bool ?_
 cases c with
 |false=>exact hb Z s1 O H1 Q I1 q1
 |true=>exact ⟨.bl true,H1,I1,rfl,q1⟩
def QG (t:TT) (ta tb:TE):TE:=fun O H Q=>t O H fun c H1=>if c=true then ta O H1 Q else tb O H1 Q
theorem nC {c:Expr} (hc:PT X c tA) (ha:PE X a ta) (hb:PE X b tb):PE X (.IfExp c a b pos) (QG tA ta tb):=by
 intro Z s O H Q I h
 refine wpAny_IfExp (cj (hc Z s O H _ I h) fun d s1 ⟨H1,I1,q1⟩=>?_)
 cases d with
 |true=>exact ha Z s1 O H1 Q I1 q1
 |false=>exact hb Z s1 O H1 Q I1 q1
end
def aQ (K:PySem.W.Frag) (H:Hp) (a:Addr) (xs:List V):Prop:=
 Rd H a (.lst xs)∨
  ∃ (o:Obj) (its:Array Value) (n:Nat),K.lookup a=some o/\o.cls=.type "list"/\o.dict=none/\o.data=.seq its n/\its.size≤sizeLine/\Vals xs its.toList
def cA (K:PySem.W.Frag) (H:Hp) (a:Addr) (xs:List V):Prop:=
 Rd H a (.tup xs)∨
  ∃ (o:Obj) (its:Array Value) (n:Nat),K.lookup a=some o/\o.cls=.type "tuple"/\o.data=.seq its n/\its.size≤sizeLine/\Vals xs its.toList
def Mr:Value->Option V
 |.none=>some .non
 |.bool b=>some (.bl b)
 |.int i _=>some (.int i)
 |.str x _=>some (.str x)
 |.bytes b _=>some (.byt b)
 |.float b _=>some (.flt b)
 |.ref a=>some (.ref a)
 |.type n=>some (.ty n)
 |_=>none
theorem RelV.abs {x:V} {u:Value} (r:RelV x u):Mr u=some x:=by
 cases x with
 |non=>cases r;rfl
 |bl _=>cases r;rfl
 |int _=>obtain ⟨t,rfl⟩:=r;rfl
 |str _=>obtain ⟨t,rfl⟩:=r;rfl
 |byt _=>obtain ⟨t,rfl⟩:=r;rfl
 |flt _=>obtain ⟨t,rfl⟩:=r;rfl
 |ref _=>cases r;rfl
 |ty _=>cases r;rfl
theorem RelV.inj {x y:V} {u:Value} (r:RelV x u) (q:RelV y u):x=y:=Option.some.inj (r.abs.symm.trans q.abs)
theorem Vals.inj:∀ {xs ys:List V} {us:List Value},Vals xs us->Vals ys us->xs=ys
 |_,_,_,.nil,.nil=>rfl
 |_,_,_,.cons r t,.cons r' t'=>by rw [r.inj r',Vals.inj t t']
section
variable {X:Cx} {Z:List (Addr×Obj)} {O:St} {H:Hp} {s:Shared} {a:Addr} {xs ys:List V}
theorem aQ.of {K:PySem.W.Frag} (h:H a=some (.lst xs)):aQ K H a xs:=.inl (.inl h)
theorem cA.of {K:PySem.W.Frag} (h:H a=some (.tup xs)):cA K H a xs:=.inl (.inl h)
theorem Inv.list (I:Inv X Z O H s) (h:aQ X.K H a xs):∃ its:List Value,Vals xs its/\PlainL s.heap a its.toArray/\xs.length≤sizeLine:=by
 rcases h with h|⟨o,its,n,hk,hc,hd,hs,hz,r⟩
 ·obtain ⟨z,its,n,r,e⟩:=h.ok I.hok
  exact ⟨its,r,⟨_,n,e,rfl,rfl,rfl⟩,z⟩
 ·refine ⟨its.toList,r,⟨o,n,I.kIn a o hk,hc,hd,by simpa using hs⟩,?_⟩
  have e:=r.length
  simp only [Array.length_toList] at e
  omega
theorem Inv.tuple (I:Inv X Z O H s) (h:cA X.K H a xs):∃ its:List Value,Vals xs its/\IsTup s.heap a its.toArray/\xs.length≤sizeLine:=by
 rcases h with h|⟨o,its,n,hk,hc,hs,hz,r⟩
 ·obtain ⟨z,its,r,p⟩:=h.ok I.hok
  exact ⟨its,r,p,z⟩
 ·refine ⟨its.toList,r,⟨o,I.kIn a o hk,hc,n,by simpa using hs⟩,?_⟩
  have e:=r.length
  simp only [Array.length_toList] at e
  omega
theorem Inv.list_inj (I:Inv X Z O H s) (h:aQ X.K H a xs) (h':aQ X.K H a ys):xs=ys:=by
 obtain ⟨its,r,⟨o,n,e,_,_,d⟩,_⟩:=I.list h
 obtain ⟨its',r',⟨o',n',e',_,_,d'⟩,_⟩:=I.list h'
 rw [e] at e';cases e'
 rw [d] at d'
 injection d' with d1 _
 have:its=its':=by simpa using congrArg Array.toList d1
 subst this
 exact r.inj r'
theorem Inv.tuple_inj (I:Inv X Z O H s) (h:cA X.K H a xs) (h':cA X.K H a ys):xs=ys:=by
 obtain ⟨its,r,⟨o,e,_,n,d⟩,_⟩:=I.tuple h
 obtain ⟨its',r',⟨o',e',_,n',d'⟩,_⟩:=I.tuple h'
 rw [e] at e';cases e'
 rw [d] at d'
 injection d' with d1 _
 have:its=its':=by simpa using congrArg Array.toList d1
 subst this
 exact r.inj r'
end
abbrev Cx.wish (X:Cx) (E:Value->Shared->Prop):Cx:={ X with xe:=E }
abbrev Cx.nox (X:Cx):Cx:=X.wish fun _ _=>False
theorem Cx.Ok.wish {X:Cx} (ok:X.Ok) (E:Value->Shared->Prop):(X.wish E).Ok:=
 ⟨ok.mod,ok.kind,ok.glob,ok.blt,ok.above,ok.inj,ok.has,ok.cab,ok.hd,ok.frames,ok.stk,ok.exf,ok.bs,ok.bsz,ok.noex,ok.exfs,ok.funs,ok.frf⟩
theorem Cx.Ok.unwish {X:Cx} {E:Value->Shared->Prop} (ok:(X.wish E).Ok):X.Ok:=
 ⟨ok.mod,ok.kind,ok.glob,ok.blt,ok.above,ok.inj,ok.has,ok.cab,ok.hd,ok.frames,ok.stk,ok.exf,ok.bs,ok.bsz,ok.noex,ok.exfs,ok.funs,ok.frf⟩
section
variable {X:Cx} {Z:List (Addr×Obj)} {O:St} {H:Hp} {s:Shared} {E:Value->Shared->Prop}
theorem Inv.wish (I:Inv X Z O H s) (E:Value->Shared->Prop):Inv (X.wish E) Z O H s:=⟨I.ok.wish E,I.os,I.bare,I.base,I.loc,I.cell,I.free,I.freeC,I.pin,I.hok,I.len⟩
theorem Inv.unwish (I:Inv (X.wish E) Z O H s):Inv X Z O H s:=⟨I.ok.unwish,I.os,I.bare,I.base,I.loc,I.cell,I.free,I.freeC,I.pin,I.hok,I.len⟩
theorem SP.unwish {D:Ends} {f:Flow} {s':Shared} (h:SP (X.wish E) Z D f s'):SP X Z D f s':=by
 cases f with
 |next=>obtain ⟨σ',H',I,q⟩:=h;exact ⟨σ',H',I.unwish,q⟩
 |brk=>obtain ⟨σ',H',I,q⟩:=h;exact ⟨σ',H',I.unwish,q⟩
 |cont=>obtain ⟨σ',H',I,q⟩:=h;exact ⟨σ',H',I.unwish,q⟩
 |ret u=>obtain ⟨v,σ',H',I,r,q⟩:=h;exact ⟨v,σ',H',I.unwish,r,q⟩
theorem qH.nox {st:List Stmt} {t:TS} (h:qH X.nox st t):qH X st t:=fun Z s O H D I hw=>
 wpAny_mono (h Z s O H D (I.wish _) hw) (fun _ _ q=>q.unwish) fun _ _ z=>False.elim z
end
section
variable {X:Cx} {st:Stmt} {rest:List Stmt} {t u:TS} {e:Expr} {te:TE} {pos:Pos}
def J1:TS:=fun D O H=>D.nx O H
def K9 (t u:TS):TS:=fun D O H=>t { D with nx:=u D } O H
theorem bc:qH X [] J1:=fun _ _ O H _ I h=>wpAny_execs_nil ⟨O,H,I,h⟩
theorem aq (h1:PS X st t) (h2:qH X rest u):qH X (st::rest) (K9 t u):=by
 intro Z s O H D I h
 refine wpAny_execs_cons (cj (h1 Z s O H { D with nx:=u D } I h) fun f s1 q=>?_)
 cases f with
 | next=>
   obtain ⟨σ',H',I',q⟩:=q
   exact h2 Z s1 σ' H' D I' q
 |ret v=>exact q
 |brk=>exact q
 |cont=>exact q
theorem aB (h1:PS X st t):qH X [st] t:=by
 intro Z s O H D I h
 refine wpAny_execs_cons (cj (h1 Z s O H D I h) fun f s1 q=>?_)
 cases f with
 |next=>exact wpAny_execs_nil q
 |ret v=>exact q
 |brk=>exact q
 |cont=>exact q
def Er:TS:=fun D O H=>D.bk O H
theorem zW:PS X (.Break pos) Er:=fun _ _ O H _ I h=>wpAny_Break ⟨O,H,I,h⟩
theorem Inv.quiet {Z:List (Addr×Obj)} {O:St} {H:Hp} {s:Shared} (I:Inv X Z O H s):interactive X.env=false:=by simp [interactive,I.ok.kind]
def JP (te:TE):TS:=fun D O H=>te O H fun _ H1=>D.nx O H1
theorem bC (he:PE X e te) (hs:swapsWith e none pos.line X.env=pure false:=by rfl):PS X (.Expr e pos) (JP te):=by
 intro Z s O H D I h
 exact wpAny_Expr_any (cj (he Z s O H _ I h) fun v s1 ⟨x,H1,I1,r1,q1⟩=>⟨O,H1,I1,q1⟩) I.quiet hs
def Jq (te:TE):TS:=fun D O H=>te O H D.rt
theorem bF (he:PE X e te):PS X (.Return (some e) pos) (Jq te):=by
 intro Z s O H D I h
 exact wpAny_Return_some (cj (he Z s O H _ I h) fun v s1 ⟨x,H1,I1,r1,q1⟩=>⟨x,O,H1,I1,r1,q1⟩)
def Ih (c:TT) (t u:TS):TS:=fun D O H=>c O H fun b H1=>if b=true then t D O H1 else u D O H1
theorem bW {c:Expr} {a b:List Stmt} {tc:TT} (hc:PT X c tc) (ha:qH X a t) (hb:qH X b u):PS X (.If c a b pos) (Ih tc t u):=by
 intro Z s O H D I h
 refine wpAny_If (cj (hc Z s O H _ I h) fun d s1 ⟨H1,I1,q1⟩=>?_)
 cases d with
 |true=>exact ha Z s1 O H1 D I1 q1
 |false=>exact hb Z s1 O H1 D I1 q1
def Ez:TS:=fun _ _ _=>False
theorem b_:PS X st Ez:=fun _ _ _ _ _ _ h=>h.elim
end
abbrev TG:=V->St->Hp->(St->Hp->Prop)->Prop
abbrev En:=List V->St->Hp->(St->Hp->Prop)->Prop
def PG (X:Cx) (target:Expr) (t:TG):Prop:=
 ∀ (Z:List (Addr×Obj)) (s:Shared) (O:St) (H:Hp) (v:V) (u:Value) (Q:St->Hp->Prop),Inv X Z O H s->RelV v u->t v O H Q->
   wpAny (model X.prog X.w) X.A (assign target X.env u) (fun _ s'=>∃ σ' H',Inv X Z σ' H' s'/\Q σ' H') X.xe s
def Ks (X:Cx) (ts:List Expr) (t:En):Prop:=
 ∀ (Z:List (Addr×Obj)) (s:Shared) (O:St) (H:Hp) (vs:List V) (us:List Value) (Q:St->Hp->Prop),Inv X Z O H s->Vals vs us->t vs O H Q->
   wpAny (model X.prog X.w) X.A (assignInOrder ((assignEach ts X.env).map (·.2)) us) (fun _ s'=>∃ σ' H',Inv X Z σ' H' s'/\Q σ' H') X.xe s
section
variable {X:Cx} {pos:Pos}
def aU (i:Nat):TG:=fun v O H Q=>Q (O.set i (some v)) H
theorem aD {i:Nat} {x:Str} (hN:X.N.Nodup) (hi:X.N[i]?=some x) (hx:Loc X.env.scope x) (hf:X.fn x=true∨X.env.scope.names.lookup x=some .local:=by first|exact .inl rfl|exact .inr rfl|assumption):PG X (.Name x pos) (aU i):=by
 intro Z s O H v u Q I r h
 exact wpAny_assign_Name (eX I hN hi hx r (fun s' I'=>⟨_,H,I',h⟩) hf)
def As:En:=fun vs O H Q=>vs=[]/\Q O H
def jF (t:TG) (u:En):En:=fun vs O H Q=>∃ v r,vs=v::r/\t v O H fun σ' H'=>u r σ' H' Q
theorem dD:Ks X [] As:=by
 intro Z s O H vs us Q I r h
 obtain ⟨e,h⟩:=h
 subst e
 cases r
 exact assignInOrder_nil ⟨O,H,I,h⟩
theorem aK {e:Expr} {es:List Expr} {t:TG} {u:En} (h1:PG X e t) (h2:Ks X es u)
 (hs:(assignEach (e::es) X.env).map (·.2)=assign e X.env::(assignEach es X.env).map (·.2):=by rfl):Ks X (e::es) (jF t u):=by
 intro Z s O H vs us Q I r h
 obtain ⟨v,vr,e1,h⟩:=h
 subst e1
 cases r with
 | cons r rr=>
   rw [hs]
   refine assignInOrder_cons (cj (h1 Z s O H _ _ _ I r h) fun _ s1 ⟨σ1,H1,I1,q1⟩=>?_)
   exact h2 Z s1 σ1 H1 _ _ Q I1 rr q1
def Ah (K:PySem.W.Frag) (n:Nat) (t:En):TG:=fun v O H Q=>∃ a xs,v=.ref a/\cA K H a xs/\xs.length=n/\t xs O H Q
theorem eQ {es:List Expr} {k:Nat} {t:En} {n:Nat} (hc:X.calm=true) (h:Ks X es t)
 (hn:(assignEach es X.env).length=n:=by rfl) (hst:(assignEach es X.env).findIdx? (·.1)=none:=by rfl):PG X (.Tuple es k pos) (Ah X.K n t):=by
 intro Z s O H v u Q I r hw
 obtain ⟨a,xs,e1,hq,hl,hw⟩:=hw
 subst e1
 cases r
 obtain ⟨its,rv,ht,hz⟩:=I.tuple hq
 refine assign_Tuple_tuple (I.ok.hd hc) ht (by simp [hn,← hl,rv.length]) hst fun h' hx=>?_
 have I1:Inv X Z O H { s with heap:=h' }:=I.kept (t':=s.toks) fun b o e=>hx b o (Nat.ne_of_lt (Heap.lt_size e)) e
 exact h Z _ O H xs _ Q I1 (by simpa using rv) hw
def yp (te:TE) (g:TG):TS:=fun D O H=>te O H fun x H1=>g x O H1 D.nx
theorem zx {tg e:Expr} {te:TE} {g:TG} (he:PE X e te) (hg:PG X tg g) (hs:swapsWithSole [tg] e pos.line X.env=pure false:=by rfl) (hw:swappedStores [tg] e X.env=pure none:=by rfl)
 (h1:(assignEach [tg] X.env).map (·.2)=[assign tg X.env]:=by rfl):PS X (.Assign [tg] e pos) (yp te g):=by
 intro Z s O H D I h
 refine wpAny_Assign_stores (cj (he Z s O H _ I h) fun v s1 ⟨x,H1,I1,r1,q1⟩=>?_) hs hw
 rw [h1]
 exact cj (hg Z s1 O H1 x v _ I1 r1 q1) fun _ s2 q=>q
theorem bf {i:Nat} {x:Str} {e:Expr} {te:TE} {pos':Pos} (hN:X.N.Nodup) (hi:X.N[i]?=some x) (hx:Loc X.env.scope x) (he:PE X e te) (hs:swapsWith e (some (.Name x pos')) pos.line X.env=pure false:=by rfl) (hf:X.fn x=true∨X.env.scope.names.lookup x=some .local:=by first|exact .inl rfl|exact .inr rfl|assumption) :
 PS X (.Assign [.Name x pos'] e pos) (yp te (aU i)):=by
 intro Z s O H D I h
 refine wpAny_Assign_Name (cj (he Z s O H _ I h) fun v s1 ⟨y,H1,I1,r1,q1⟩=>?_) hs
 exact eX I1 hN hi hx r1 (fun s2 I2=>⟨_,H1,I2,q1⟩) hf
def yZ (c:TT) (tb:TS):TS:=fun D O H=>∃ W:Nat->St->Hp->Prop,(∃ m,W m O H)/\∀ m O H,W m O H->
 c O H fun b H1=>if b=true then ∃ N:St->Hp->Prop,(∀ σ' H',N σ' H'->∃ m',m'<m/\W m' σ' H')/\tb { D with nx:=N,ct:=N,bk:=D.nx } O H1 else D.nx O H1
theorem yI {c:Expr} {body:List Stmt} {tc:TT} {tb:TS} (hp:PassesOwn (model X.prog X.w) X.A X.env X.xe) (hc:PT X c tc) (hb:qH X body tb):PS X (.While c body [] pos) (yZ tc tb):=by
 intro Z s O H D I h
 obtain ⟨W,⟨m0,w0⟩,turn⟩:=h
 refine wpAny_While (codeAny_whileLoop (fun n s'=>∃ σ' H',Inv X Z σ' H' s'/\W n σ' H') ?_ m0 ⟨O,H,I,w0⟩)
 rintro n s1 ⟨σ1,H1,I1,w1⟩
 refine wpAny_passesOwn hp (cj (hc Z s1 σ1 H1 _ I1 (turn n σ1 H1 w1)) fun b s2 ⟨H2,I2,q2⟩=>?_)
 cases b with
 | true=>
   obtain ⟨N,hN,q2⟩:=q2
   rw [if_pos rfl]
   refine wpAny_passesOwn hp (cj (hb Z s2 σ1 H2 _ I2 q2) fun f s3 q3=>?_)
   cases f with
   | next=>
     obtain ⟨σ3,H3,I3,n3⟩:=q3
     obtain ⟨m',hm,w3⟩:=hN σ3 H3 n3
     exact ⟨m',hm,σ3,H3,I3,w3⟩
   | cont=>
     obtain ⟨σ3,H3,I3,n3⟩:=q3
     obtain ⟨m',hm,w3⟩:=hN σ3 H3 n3
     exact ⟨m',hm,σ3,H3,I3,w3⟩
   |brk=>exact q3
   |ret v=>exact q3
 | false=>
   rw [if_neg Bool.false_ne_true]
   exact wpAny_execs_nil ⟨σ1,H2,I2,q2⟩
end
structure It where
 go:Nat->Hp->Prop
 yld:Nat->Hp->V->Hp->Prop
 stop:Nat->Hp->Prop
def jx (X:Cx) (Z:List (Addr×Obj)) (H:Hp) (b:Addr):Prop:=
 H b=none/\b≠X.env.locals/\b∉X.fs/\(b∈X.ex∨X.s₀.heap.objs.size≤b)/\(∀ x c,X.env.cells.lookup x=some c->c≠b)/\∀ p∈X.pn++Z,p.1≠b
theorem Inv.fpOk {X:Cx} {Z:List (Addr×Obj)} {O:St} {H H':Hp} {s:Shared} {b:Addr} (I:Inv X Z O H s) (hb:s.heap.objs.size≤b) (hn:H' b=none):jx X Z H' b:=by
 refine ⟨hn,Nat.ne_of_gt (Nat.lt_of_lt_of_le I.lt hb),I.nofs hb,.inr (Nat.le_trans I.sz hb),fun x c e z=>?_,fun p hp z=>?_⟩
 ·obtain ⟨v,q⟩:=I.cell x c e
  exact absurd (Nat.lt_of_lt_of_le q.lt (by rw [z];exact hb)) (Nat.lt_irrefl _)
 ·exact absurd (Nat.lt_of_lt_of_le (Heap.lt_size (I.pin p hp).1) (by rw [z];exact hb)) (Nat.lt_irrefl _)
structure Turn (P:Program) (w:World) (K:PySem.W.Frag) (tg:Expr) (J:It) (fp:List Addr) (it:Addr) (tn:Nat->Heap->Prop):Prop where
 mem:it∈fp
 obj:∀ i h,tn i h->∀ b∈fp,∃ o,h.get? b=some o/\∀ v,o.data≠.cell v
 keep:∀ i h h',tn i h->(∀ b∈fp,∀ o,h.get? b=some o->h'.get? b=some o)->tn i h'
 item:∀ (X:Cx),X.prog=P->X.w=w->X.K=K->X.calm=true->∀ (i:Nat) (Z:List (Addr×Obj)) (s:Shared) (O:St) (H:Hp) (E:Value->Shared->Prop),Inv X Z O H s->(∀ b∈fp,jx X Z H b)->tn i s.heap->J.go i H->
  wpAny (model P w) X.A (pyNext (.ref it)) (fun r s1=>∃ u,r=some u/\
   wpAny (model P w) X.A (letOwnedTupleGo tg (.ref it) u) (fun _ s2=>∃ x H',Inv X Z O H' s2/\RelV x u/\J.yld i H x H'/\tn (i+1) s2.heap/\∀ b∈fp,H' b=none) E s1) E s
 done:∀ (X:Cx),X.prog=P->X.w=w->X.K=K->X.calm=true->∀ (i:Nat) (Z:List (Addr×Obj)) (s:Shared) (O:St) (H:Hp) (E:Value->Shared->Prop),Inv X Z O H s->(∀ b∈fp,jx X Z H b)->tn i s.heap->J.stop i H->
  wpAny (model P w) X.A (pyNext (.ref it)) (fun r s1=>r=none/\Inv X Z O H s1) E s
 self:∀ (A:Around) (i:Nat) (s:Shared) (Q:Value->Shared->Prop) (E:Value->Shared->Prop),tn i s.heap->Q (.ref it) s->wpAny (model P w) A (pyIter (.ref it)) Q E s
abbrev TI:=St->Hp->(It->Hp->Prop)->Prop
def PIE (X:Cx) (Z:List (Addr×Obj)) (O:St) (tg:Expr) (R:It->Hp->Prop) (itv:Value) (s2:Shared):Prop:=
 ∃ (it:Addr) (fp:List Addr) (tn:Nat->Heap->Prop) (J:It) (H':Hp),itv=.ref it/\Inv X Z O H' s2/\Turn X.prog X.w X.K tg J fp it tn/\tn 0 s2.heap/\(∀ b∈fp,jx X Z H' b)/\R J H'
def PI (X:Cx) (tg iter:Expr) (wi:TI):Prop:=
 ∀ (Z:List (Addr×Obj)) (s:Shared) (O:St) (H:Hp) (R:It->Hp->Prop),Inv X Z O H s->wi O H R->
   wpAny (model X.prog X.w) X.A (eval iter X.env) (fun v s1=>wpAny (model X.prog X.w) X.A (pyIter v) (PIE X Z O tg R) X.xe s1) X.xe s
theorem Di {M:Model} {A:Around} {E:Value->Shared->Prop} {s:Shared} {tg:Expr} {it:Addr} {u:Value} {o:Obj} {n:String} {vs:Array Value} {Q:Unit->Shared->Prop} (ho:s.heap.get? it=some o) (hc:o.cls=.type n) (hd:o.data=.fields vs)
 (hn:["enumerate","zip","dict_itemiterator","dict_reverseitemiterator","odict_iterator","itertools.zip_longest","itertools.pairwise"].contains n=false) (hQ:Q () s):wpAny M A (letOwnedTupleGo tg (.ref it) u) Q E s:=by
 unfold letOwnedTupleGo
 cases tg <;> first
  |exact wpAny_pure hQ
  |(cases u <;> first
   |exact wpAny_pure hQ
   | (refine wpAny_bind (wpAny_load ho ?_)
      rw [hc,hd]
      show wpAny M A (if (["enumerate","zip","dict_itemiterator","dict_reverseitemiterator","odict_iterator","itertools.zip_longest","itertools.pairwise"].contains n && vs[0]? == some (rawInt _))=true then _ else _) Q E s
      rw [if_neg (by intro h;rw [hn,Bool.false_and] at h;cases h)]
      exact wpAny_pure hQ))
def Ef (K:PySem.W.Frag) (a:Addr):It:=
 ⟨fun i H=>∃ xs x,aQ K H a xs/\xs[i]?=some x,fun i H x H'=>H'=H/\∀ xs,aQ K H a xs->xs[i]?=some x,fun i H=>∃ xs,aQ K H a xs/\xs.length≤i⟩
def zZ (lo:Int) (n:Nat):It:=⟨fun i _=>i<n,fun i H x H'=>H'=H/\x=.int (lo+i),fun i _=>n≤i⟩
theorem wQ {P:Program} {w:World} {K:PySem.W.Frag} {tg:Expr} (a it:Addr):Turn P w K tg (Ef K a) [it] it (fun i h=>h.IsListIter it a i) where
 mem:=by simp
 obj:=fun i h st b hb=>by
  have e:b=it:=by simpa using hb
  subst e
  obtain ⟨o,e,c,d⟩:=st
  exact ⟨o,e,fun v z=>by rw [d] at z;cases z⟩
 keep:=fun i h h' st k=>st.at fun o e=>k it (by simp) o e
 item:=by
  intro X hP hw hK hc i Z s O H E I hf st hg
  subst hP hw hK
  obtain ⟨xs,x,hq,hx⟩:=hg
  obtain ⟨its,rv,p,hz⟩:=I.list hq
  obtain ⟨u,hu,ru⟩:=rv.get hx
  obtain ⟨f0,f1,f2,f3,f4,f5⟩:=hf it (by simp)
  refine wpAny_pyNext_list_item st p.isList (x:=u) (by simpa using hu) fun h' st' sb=>?_
  have I1:Inv X Z O H { s with heap:=h' }:=I.turned (t':=s.toks) (fun b o hb e=>(sb.2 b hb).trans e) f0 f1 f3 f4 f5
  obtain ⟨o,e,c,d⟩:=id st'
  exact ⟨u,rfl,Di (s:={ s with heap:=h' }) e c d (by decide) ⟨x,H,I1,ru,⟨rfl,fun ys hy=>by rw [I.list_inj hy hq];exact hx⟩,st',fun b hb=>(hf b hb).1⟩⟩
 done:=by
  intro X hP hw hK hc i Z s O H E I hf st hg
  subst hP hw hK
  obtain ⟨xs,hq,hx⟩:=hg
  obtain ⟨its,rv,p,hz⟩:=I.list hq
  obtain ⟨f0,f1,f2,f3,f4,f5⟩:=hf it (by simp)
  have hl:=rv.length
  exact wpAny_pyNext_list_end (I.ok.hd hc) st p.isList (by simp;omega) fun h' eb=>⟨rfl,I.turned (t':=s.toks) (fun b o hb e=>eb b o hb e) f0 f1 f3 f4 f5⟩
 self:=fun _ _ _ _ _ st h=>wpAny_pyIter_listiter st h
theorem tY {P:Program} {w:World} {K:PySem.W.Frag} {tg:Expr} (it:Addr) (lo:Int) (n:Nat):Turn P w K tg (zZ lo n) [it] it (fun i h=>IsRangeIter h it (lo+(i:Nat)*1) ((n:Int)-(i:Nat)) 1) where
 mem:=by simp
 obj:=fun i h st b hb=>by
  have e:b=it:=by simpa using hb
  subst e
  exact ⟨_,st,fun v z=>by
   have z':Data.fields _=Data.cell v:=z
   cases z'⟩
 keep:=fun i h h' st k=>k it (by simp) _ st
 item:=by
  intro X hP hw hK hc i Z s O H E I hf st hg
  subst hP hw hK
  obtain ⟨f0,f1,f2,f3,f4,f5⟩:=hf it (by simp)
  have W:=Walks.range (prog:=X.prog) (w:=X.w) (I.ok.hd hc) it lo 1 n
  refine W.item i s _ _ hg st fun v h' tk hv st' kk=>?_
  obtain ⟨t,rfl⟩:=hv
  have I1:Inv X Z O H { s with heap:=h',toks:=tk }:=I.turned (fun b o hb e=>kk b o (by simpa using hb) e) f0 f1 f3 f4 f5
  refine ⟨_,rfl,Di (s:={ s with heap:=h',toks:=tk }) (n:="range_iterator") st' rfl rfl (by decide) ⟨.int (lo+i),H,I1,⟨t,?_⟩,⟨rfl,rfl⟩,st',fun b hb=>(hf b hb).1⟩⟩
  rw [Int.mul_one]
 done:=by
  intro X hP hw hK hc i Z s O H E I hf st hg
  subst hP hw hK
  obtain ⟨f0,f1,f2,f3,f4,f5⟩:=hf it (by simp)
  exact wpAny_pyNext_range_end (I.ok.hd hc) st (by have:n≤i:=hg;omega) fun h' eb=>⟨rfl,I.turned (t':=s.toks) (fun b o hb e=>eb b o hb e) f0 f1 f3 f4 f5⟩
 self:=fun _ _ _ _ _ st h=>wpAny_pyIter_rangeiter st h
section
variable {X:Cx} {tg:Expr}
def yz (K:PySem.W.Frag) (tl:TE):TI:=fun O H R=>tl O H fun x H1=>∃ a,x=.ref a/\(∃ xs,aQ K H1 a xs)/\R (Ef K a) H1
theorem cD {l:Expr} {tl:TE} (hl:PE X l tl):PI X tg l (yz X.K tl):=by
 intro Z s O H R I h
 refine cj (hl Z s O H _ I h) fun v s1 ⟨x,H1,I1,r1,q1⟩=>?_
 obtain ⟨a,e,⟨xs,hq⟩,q⟩:=q1
 subst e
 cases r1
 obtain ⟨its,rv,p,hz⟩:=I1.list hq
 refine wpAny_pyIter_list p.isList ?_
 refine ⟨s1.heap.objs.size,[s1.heap.objs.size],_,_,H1,rfl,I1.kept (t':=s1.toks) fun b o e=>Heap.get?_push_of_some _ e,wQ a _,⟨_,Heap.get?_push_size _ rfl,rfl,rfl⟩,fun b hb=>?_,q⟩
 have e:b=s1.heap.objs.size:=by simpa using hb
 subst e
 exact I1.fpOk (Nat.le_refl _) (I1.hok.fresh (Nat.le_refl _))
theorem rW {Z:List (Addr×Obj)} {O:St} {H:Hp} {s:Shared} {R:It->Hp->Prop} {E:Value->Shared->Prop} {lo hi:Int} {t u v:Tok} {tk:Nat} (I:Inv X Z O H s) (h1:-(2 ^ 62)≤lo) (h2:lo<2 ^ 62) (h3:-(2 ^ 62)≤hi) (h4:hi<2 ^ 62)
 (q:R (zZ lo (hi-lo).toNat) H):wpAny (model X.prog X.w) X.A (pyIter (.ref s.heap.objs.size)) (PIE X Z O tg R) E { s with heap:=s.heap.push { cls:=.type "range",data:=.fields #[.int lo t,.int hi u,.int 1 v] },toks:=tk }:=by
 refine wpAny_pyIter_range (IsRange.new ..) (small_one h1 h2 h3 h4) ?_
 have I1:Inv X Z O H { s with heap:=s.heap.push { cls:=.type "range",data:=.fields #[.int lo t,.int hi u,.int 1 v] },toks:=tk }:=I.kept fun b o e=>Heap.get?_push_of_some _ e
 refine ⟨(s.heap.push { cls:=.type "range",data:=.fields #[.int lo t,.int hi u,.int 1 v] }).objs.size,[(s.heap.push { cls:=.type "range",data:=.fields #[.int lo t,.int hi u,.int 1 v] }).objs.size],_,_,H,rfl,
  I1.kept (t':=tk) fun b o e=>Heap.get?_push_of_some _ e,tY _ lo (hi-lo).toNat,?_,fun b hb=>?_,q⟩
 ·have e1:lo+((0:Nat):Int)*1=lo:=by simp
  have e2:(((hi-lo).toNat:Nat):Int)-((0:Nat):Int)=Builtin.Range.rangeSize lo hi 1:=by rw [rangeSize_one];split <;> omega
  show IsRangeIter _ _ (lo+((0:Nat):Int)*1) ((((hi-lo).toNat:Nat):Int)-((0:Nat):Int)) 1
  rw [e1,e2]
  exact Heap.get?_push_size _ rfl
 ·have e:b=(s.heap.push { cls:=.type "range",data:=.fields #[.int lo t,.int hi u,.int 1 v] }).objs.size:=by simpa using hb
  subst e
  exact I1.fpOk (Nat.le_refl _) (I1.hok.fresh (Nat.le_refl _))
def Ji (ta:TA):TI:=fun O H R=>ta O H fun vs H1=>∃ j:Int,vs=[.int j]/\-(2 ^ 62)≤j/\j<2 ^ 62/\R (zZ 0 j.toNat) H1
def Iv (ta:TA):TI:=fun O H R=>ta O H fun vs H1=>∃ i j:Int,vs=[.int i,.int j]/\(-(2 ^ 62)≤i/\i<2 ^ 62/\-(2 ^ 62)≤j/\j<2 ^ 62)/\R (zZ i (j-i).toNat) H1
theorem bJ {a:Expr} {ta:TA} {p pos:Pos} (hg:Gl X "range") (hm:X.mg "range" = none) (ha:PA X [a] ta) (hs:starEach [a] X.env=[(false,eval a X.env)]:=by rfl):PI X tg (.Call (.Name "range" p) [a] [] pos) (Ji ta):=by
 intro Z s O H R I h
 refine Call_ (j7 I hg hm boot_range (PyProof.Rows.callWith_type1 (cj (ha pos Z s O H _ I h) fun us s1 ⟨vs,H1,I1,r1,q1⟩=>?_) hs rfl))
 obtain ⟨j,e,q1,q2,q⟩:=q1
 subst e
 cases r1 with
 | cons r rr=>
   cases rr
   obtain ⟨t,rfl⟩:=r
   exact call_range_1 (rW I1 (by omega) (by omega) q1 q2 (by simpa using q))
theorem xM {a b:Expr} {ta:TA} {p pos:Pos} (hg:Gl X "range") (hm:X.mg "range" = none) (ha:PA X [a,b] ta) (hs:starEach [a,b] X.env=[(false,eval a X.env),(false,eval b X.env)]:=by rfl) (hs2:starEach [b] X.env=[(false,eval b X.env)]:=by rfl) :
 PI X tg (.Call (.Name "range" p) [a,b] [] pos) (Iv ta):=by
 intro Z s O H R I h
 refine Call_ (j7 I hg hm boot_range (PyProof.Rows.callWith_type1 (cj (ha pos Z s O H _ I h) fun us s1 ⟨vs,H1,I1,r1,q1⟩=>?_) (by rw [hs,hs2]) (by rw [hs2];rfl)))
 obtain ⟨i,j,e,⟨q1,q2,q3,q4⟩,q⟩:=q1
 subst e
 cases r1 with
 | cons r rr=>
   cases rr with
   | cons r' rr=>
     cases rr
     obtain ⟨t,rfl⟩:=r
     obtain ⟨t',rfl⟩:=r'
     exact call_range_2 (rW I1 q1 q2 q3 q4 q)
def MJ (wi:TI) (g:TG) (tb:TS):TS:=fun D O H=>wi O H fun J H1=>∃ W:Nat->Nat->St->Hp->Prop,(∃ m,W 0 m O H1)/\∀ i m O H,W i m O H->
 (J.stop i H/\D.nx O H)∨(J.go i H/\∃ N:St->Hp->Prop,(∀ σ' H',N σ' H'->∃ m',m'<m/\W (i+1) m' σ' H')/\∀ x H',J.yld i H x H'->g x O H' fun σ2 H2=>tb { D with nx:=N,ct:=N,bk:=D.nx } σ2 H2)
def il (fp:List Addr) (h:Heap):List (Addr×Obj):=fp.filterMap fun b=>(h.get? b).map fun o=>(b,o)
theorem cI {fp:List Addr} {h:Heap} {b:Addr} {o:Obj} (hb:b∈fp) (e:h.get? b=some o):(b,o)∈il fp h:=List.mem_filterMap.mpr ⟨b,hb,by rw [e];rfl⟩
theorem pC {fp:List Addr} {h:Heap} {p:Addr×Obj} (hp:p∈il fp h):p.1∈fp/\h.get? p.1=some p.2:=by
 obtain ⟨b,hb,e⟩:=List.mem_filterMap.mp hp
 cases q:h.get? b with
 |none=>rw [q] at e;cases e
 | some o=>
   rw [q] at e
   have e':(b,o)=p:=Option.some.inj e
   subst e'
   exact ⟨hb,q⟩
theorem Inv.pinned {Z:List (Addr×Obj)} {O:St} {H:Hp} {s:Shared} {fp:List Addr} (I:Inv X Z O H s) (hf:∀ b∈fp,jx X Z H b) (ho:∀ b∈fp,∃ o,s.heap.get? b=some o/\∀ v,o.data≠.cell v):Inv X (Z++il fp s.heap) O H s:=
 I.pins_of fun p hp=>(List.mem_append.mp hp).elim (fun z=>I.pin p (List.mem_append_right _ z)) fun z=>by
  obtain ⟨hb,e⟩:=pC z
  obtain ⟨f0,f1,f2,_⟩:=hf p.1 hb
  obtain ⟨o,e',d⟩:=ho p.1 hb
  rw [e] at e';cases e'
  exact ⟨e,f0,f1,f2,d⟩
theorem Inv.unpinned {Z pl:List (Addr×Obj)} {O:St} {H:Hp} {s:Shared} (I:Inv X (Z++pl) O H s):Inv X Z O H s:=I.pins_of fun p hp=>I.pin p (List.mem_append_right _ (List.mem_append_left _ hp))
theorem dw {iter:Expr} {body:List Stmt} {wi:TI} {g:TG} {tb:TS} {pos:Pos} (hp:PassesOwn (model X.prog X.w) X.A X.env X.xe) (hc:X.calm=true) (hi:PI X tg iter wi) (hg:PG X tg g) (hb:qH X body tb)
 (hs:∀ x,foldedSetIterable iter X.env x=pure x:=by intro _;rfl):PS X (.For tg iter body [] pos) (MJ wi g tb):=by
 intro Z s O H D I h
 refine wpAny_For (cj (hi Z s O H _ I h) fun v s1 h1=>cj h1 fun itv s2 h2=>?_) hs
 obtain ⟨it,fp,tn,J,H2,e,I2,T,st2,f2,W,⟨m0,w0⟩,turn⟩:=h2
 subst e
 have stat:∀ {H':Hp},(∀ b∈fp,H' b=none)->∀ b∈fp,jx X Z H' b:=fun hn b hb=>⟨hn b hb,(f2 b hb).2⟩
 refine codeAny_forLoop_any (fun n s'=>∃ i σ' H',Inv X Z σ' H' s'/\tn i s'.heap/\(∀ b∈fp,H' b=none)/\W i n σ' H') ?_ m0 ⟨0,O,H2,I2,st2,fun b hb=>(f2 b hb).1,w0⟩
 rintro n s3 ⟨i,σ3,H3,I3,st3,fr3,w3⟩
 rcases turn i n σ3 H3 w3 with ⟨stop,qn⟩|⟨go,N,hN,step⟩
 ·refine wpAny_passesOwn hp (cj (T.done X rfl rfl rfl hc i Z s3 σ3 H3 X.xe I3 (stat fr3) st3 stop) fun r s4 ⟨hr,I4⟩=>?_)
  subst hr
  exact wpAny_execs_nil ⟨σ3,H3,I4,qn⟩
 ·refine wpAny_passesOwn hp (cj (T.item X rfl rfl rfl hc i Z s3 σ3 H3 X.xe I3 (stat fr3) st3 go) fun r s4 ⟨u,hr,h4⟩=>?_)
  subst hr
  refine wpAny_passesOwn hp (cj h4 fun _ s5 ⟨x,H5,I5,r5,y5,st5,fr5⟩=>?_)
  have I5':=I5.pinned (stat fr5) (T.obj _ _ st5)
  refine wpAny_passesOwn hp (cj (hg _ s5 σ3 H5 x u _ I5' r5 (step x H5 y5)) fun _ s6 ⟨σ6,H6,I6,q6⟩=>?_)
  refine wpAny_passesOwn hp (cj (hb _ s6 σ6 H6 _ I6 q6) fun f s7 q7=>?_)
  have again:∀ {σ7:St} {H7:Hp},Inv X (Z++il fp s5.heap) σ7 H7 s7->N σ7 H7->∃ m,m<n/\∃ i σ' H',Inv X Z σ' H' s7/\tn i s7.heap/\(∀ b∈fp,H' b=none)/\W i m σ' H':=fun {σ7 H7} I7 n7=>by
   obtain ⟨m',hm,w7⟩:=hN σ7 H7 n7
   refine ⟨m',hm,i+1,σ7,H7,I7.unpinned,T.keep _ _ _ st5 fun b hb o e=>(I7.pin (b,o) (List.mem_append_right _ (List.mem_append_right _ (cI hb e)))).1,fun b hb=>?_,w7⟩
   obtain ⟨o,e,d⟩:=T.obj _ _ st5 b hb
   exact (I7.pin (b,o) (List.mem_append_right _ (List.mem_append_right _ (cI hb e)))).2.1
  cases f with
  |next=>obtain ⟨σ7,H7,I7,n7⟩:=q7;exact again I7 n7
  |cont=>obtain ⟨σ7,H7,I7,n7⟩:=q7;exact again I7 n7
  |brk=>obtain ⟨σ7,H7,I7,q7⟩:=q7;exact ⟨σ7,H7,I7.unpinned,q7⟩
  |ret v=>obtain ⟨x7,σ7,H7,I7,r7,q7⟩:=q7;exact ⟨x7,σ7,H7,I7.unpinned,r7,q7⟩
end
theorem e_ {K:PySem.W.Frag} {a:Addr} {xs:List V} {g:TG} {tb:TS} {D:Ends} {O:St} {H:Hp} (Pv:Nat->St->Hp->Prop) (h0:Pv 0 O H) (hl:∀ i O H,i≤xs.length->Pv i O H->aQ K H a xs)
 (hs:∀ i x O H,xs[i]?=some x->Pv i O H->g x O H fun σ2 H2=>tb { D with nx:=Pv (i+1),ct:=Pv (i+1),bk:=D.nx } σ2 H2) (hd:∀ O H,Pv xs.length O H->D.nx O H) :
 ∃ W:Nat->Nat->St->Hp->Prop,(∃ m,W 0 m O H)/\∀ i m O H,W i m O H->
   ((Ef K a).stop i H/\D.nx O H)∨((Ef K a).go i H/\∃ N:St->Hp->Prop,(∀ σ' H',N σ' H'->∃ m',m'<m/\W (i+1) m' σ' H')/\∀ x H',(Ef K a).yld i H x H'->g x O H' fun σ2 H2=>tb { D with nx:=N,ct:=N,bk:=D.nx } σ2 H2):=by
 refine ⟨fun i m O H=>m=xs.length-i/\i≤xs.length/\Pv i O H,⟨xs.length,by simp,Nat.zero_le _,h0⟩,?_⟩
 rintro i m O H ⟨rfl,hi,p⟩
 have q:=hl i O H hi p
 by_cases hlt:i<xs.length
 ·refine .inr ⟨⟨xs,xs[i],q,by simp [hlt]⟩,Pv (i+1),fun σ' H' p'=>⟨xs.length-(i+1),by omega,rfl,hlt,p'⟩,fun x H' y=>?_⟩
  obtain ⟨e,y⟩:=y
  subst e
  exact hs i x O _ (y xs q) p
 ·have e:i=xs.length:=by omega
  subst e
  exact .inl ⟨⟨xs,q,Nat.le_refl _⟩,hd O H p⟩
theorem dG {lo:Int} {n:Nat} {g:TG} {tb:TS} {D:Ends} {O:St} {H:Hp} (Pv:Nat->St->Hp->Prop) (h0:Pv 0 O H)
 (hs:∀ i O H,i<n->Pv i O H->g (.int (lo+i)) O H fun σ2 H2=>tb { D with nx:=Pv (i+1),ct:=Pv (i+1),bk:=D.nx } σ2 H2) (hd:∀ O H,Pv n O H->D.nx O H) :
 ∃ W:Nat->Nat->St->Hp->Prop,(∃ m,W 0 m O H)/\∀ i m O H,W i m O H->
   ((zZ lo n).stop i H/\D.nx O H)∨((zZ lo n).go i H/\∃ N:St->Hp->Prop,(∀ σ' H',N σ' H'->∃ m',m'<m/\W (i+1) m' σ' H')/\∀ x H',(zZ lo n).yld i H x H'->g x O H' fun σ2 H2=>tb { D with nx:=N,ct:=N,bk:=D.nx } σ2 H2):=by
 refine ⟨fun i m O H=>m=n-i/\i≤n/\Pv i O H,⟨n,by simp,Nat.zero_le _,h0⟩,?_⟩
 rintro i m O H ⟨rfl,hi,p⟩
 by_cases hlt:i<n
 ·refine .inr ⟨hlt,Pv (i+1),fun σ' H' p'=>⟨n-(i+1),by omega,rfl,hlt,p'⟩,fun x H' y=>?_⟩
  obtain ⟨e,y⟩:=y
  subst e y
  exact hs i O _ hlt p
 ·have e:i=n:=by omega
  subst e
  exact .inl ⟨Nat.le_refl _,hd O H p⟩
theorem yj {c:TT} {tb:TS} {D:Ends} {O:St} {H:Hp} (Pv:St->Hp->Prop) (μ:St->Hp->Nat) (h0:Pv O H)
 (hs:∀ O H,Pv O H->c O H fun b H1=>if b=true then tb { D with nx:=fun σ' H'=>Pv σ' H'/\μ σ' H'<μ O H,ct:=fun σ' H'=>Pv σ' H'/\μ σ' H'<μ O H,bk:=D.nx } O H1 else D.nx O H1)
 (mono:∀ O H Q Q',(∀ b H1,Q b H1->Q' b H1)->c O H Q->c O H Q'):yZ c tb D O H:=by
 refine ⟨fun m O H=>m=μ O H/\Pv O H,⟨_,rfl,h0⟩,?_⟩
 rintro m O H ⟨rfl,p⟩
 refine mono O H _ _ (fun b H1 q=>?_) (hs O H p)
 cases b with
 |true=>exact ⟨_,fun σ' H' ⟨p',l⟩=>⟨_,l,rfl,p'⟩,q⟩
 |false=>exact q
abbrev R2:=V->V->Hp->VK->Prop
def jy (X:Cx) (f:Value->Value->Sem Value) (r:R2):Prop:=
 ∀ (Z:List (Addr×Obj)) (s:Shared) (O:St) (H:Hp) (x y:V) (v u:Value) (Q:VK),Inv X Z O H s->RelV x v->RelV y u->r x y H Q->
   wpAny (model X.prog X.w) X.A (f v u) (EP X Z O Q) X.xe s
def Mh (X:Cx) (f:Value->Sem Value) (r:V->Hp->VK->Prop):Prop:=
 ∀ (Z:List (Addr×Obj)) (s:Shared) (O:St) (H:Hp) (x:V) (v:Value) (Q:VK),Inv X Z O H s->RelV x v->r x H Q->
   wpAny (model X.prog X.w) X.A (f v) (EP X Z O Q) X.xe s
def dH (X:Cx) (f:Value) (r:List V->Hp->VK->Prop):Prop:=
 ∀ (Z:List (Addr×Obj)) (s:Shared) (O:St) (H:Hp) (xs:List V) (us:List Value) (Q:VK),Inv X Z O H s->Vals xs us->r xs H Q->
   wpAny (model X.prog X.w) X.A (call f us) (EP X Z O Q) X.xe s
def Hc (r:R2) (ta tb:TE):TE:=fun O H Q=>ta O H fun x H1=>tb O H1 fun y H2=>r x y H2 Q
def O3 (r:V->Hp->VK->Prop) (ta:TE):TE:=fun O H Q=>ta O H fun x H1=>r x H1 Q
def rI (C:Int->Int->Prop) (g:Int->Int->V):R2:=fun x y H Q=>∃ i j,x=.int i/\y=.int j/\C i j/\Q (g i j) H
def By (g:Int->Int->V):R2:=fun x y H Q=>∃ i j,x=.int i/\y=.int j/\Q (g i j) H
def rU (g:Int->V):V->Hp->VK->Prop:=fun x H Q=>∃ i,x=.int i/\Q (g i) H
section
variable {X:Cx} {a b c:Expr} {ta tb tc:TE} {pos:Pos}
theorem G6 (ha:PE X a ta) (hb:PE X b tb) {Z:List (Addr×Obj)} {s:Shared} {O:St} {H:Hp} {R:V->V->Hp->Prop} (I:Inv X Z O H s)
 (h:ta O H fun x H1=>tb O H1 fun y H2=>R x y H2) {Q:Value->Shared->Prop} {f:Value->Value->Sem Value}
 (hf:∀ v u s2 x y H2,Inv X Z O H2 s2->RelV x v->RelV y u->R x y H2->wpAny (model X.prog X.w) X.A (f v u) Q X.xe s2) :
 wpAny (model X.prog X.w) X.A (eval a X.env) (fun v s₁=>wpAny (model X.prog X.w) X.A (eval b X.env) (fun u s₂=>wpAny (model X.prog X.w) X.A (f v u) Q X.xe s₂) X.xe s₁) X.xe s:=by
 refine cj (ha Z s O H _ I h) fun v s1 ⟨x,H1,I1,r1,q1⟩=>?_
 refine cj (hb Z s1 O H1 _ I1 q1) fun u s2 ⟨y,H2,I2,r2,q2⟩=>?_
 exact hf v u s2 x y H2 I2 r1 r2 q2
theorem bj {op:Operator} {r:R2} (ho:jy X (binaryOp op) r) (ha:PE X a ta) (hb:PE X b tb):PE X (.BinOp a op b pos) (Hc r ta tb):=by
 intro Z s O H Q I h
 exact wpAny_BinOp (G6 ha hb I h fun v u s2 x y H2 I2 rx ry q=>ho Z s2 O H2 x y v u Q I2 rx ry q)
theorem iV {op:UnaryOp} {r:V->Hp->VK->Prop} (ho:Mh X (unaryOp op) r) (ha:PE X a ta):PE X (.UnaryOp op a pos) (O3 r ta):=by
 intro Z s O H Q I h
 exact UnaryOp_ (cj (ha Z s O H _ I h) fun v s1 ⟨x,H1,I1,r1,q1⟩=>ho Z s1 O H1 x v Q I1 r1 q1)
theorem Hl {f:Value->Value->Sem Value} {C:Int->Int->Prop} {g:Int->Int->Int}
 (rule:∀ (i j:Int) (t u:Tok) (s:Shared) (Q:Value->Shared->Prop) (E:Value->Shared->Prop),C i j->Q (.int (g i j) s.toks) { s with toks:=s.toks+1 }->wpAny (model X.prog X.w) X.A (f (.int i t) (.int j u)) Q E s) :
 jy X f (rI C fun i j=>.int (g i j)):=by
 intro Z s O H x y v u Q I rx ry h
 obtain ⟨i,j,rfl,rfl,hc,q⟩:=h
 obtain ⟨t,rfl⟩:=rx
 obtain ⟨t',rfl⟩:=ry
 exact rule i j t t' s _ _ hc ⟨.int (g i j),H,I.tok _,⟨_,rfl⟩,q⟩
theorem Ia {f:Value->Value->Sem Value} {g:Int->Int->Int}
 (rule:∀ (i j:Int) (t u:Tok) (s:Shared) (Q:Value->Shared->Prop) (E:Value->Shared->Prop),Q (.int (g i j) s.toks) { s with toks:=s.toks+1 }->wpAny (model X.prog X.w) X.A (f (.int i t) (.int j u)) Q E s) :
 jy X f (By fun i j=>.int (g i j)):=by
 intro Z s O H x y v u Q I rx ry h
 obtain ⟨i,j,rfl,rfl,q⟩:=h
 obtain ⟨t,rfl⟩:=rx
 obtain ⟨t',rfl⟩:=ry
 exact rule i j t t' s _ _ ⟨.int (g i j),H,I.tok _,⟨_,rfl⟩,q⟩
theorem Aq {f:Value->Value->Sem Value} {g:Int->Int->Bool}
 (rule:∀ (i j:Int) (t u:Tok) (s:Shared) (Q:Value->Shared->Prop) (E:Value->Shared->Prop),Q (.bool (g i j)) s->wpAny (model X.prog X.w) X.A (f (.int i t) (.int j u)) Q E s) :
 jy X f (By fun i j=>.bl (g i j)):=by
 intro Z s O H x y v u Q I rx ry h
 obtain ⟨i,j,rfl,rfl,q⟩:=h
 obtain ⟨t,rfl⟩:=rx
 obtain ⟨t',rfl⟩:=ry
 exact rule i j t t' s _ _ ⟨.bl (g i j),H,I,rfl,q⟩
def Mj (i j:Int):Prop:=0<j/\j<1073741824
def Nv (i j:Int):Prop:=0≤j/\j≤1000000/\i.natAbs<2 ^ 64
def Ca (i j:Int):Prop:=(-(2 ^ 64)<i/\i<2 ^ 64)∨(-(2 ^ 64)<j/\j<2 ^ 64)
theorem Ca.ok {i j:Int} (h:Ca i j):IntMulOk i j:=by
 rcases h with ⟨h1,h2⟩|⟨h1,h2⟩
 ·exact .of_left (intBits_le_64 h1 h2)
 ·exact .of_right (intBits_le_64 h1 h2)
theorem c7:jy X (binaryOp .Add) (By fun i j=>.int (i+j)):=Ia fun _ _ _ _ _ _ _ q=>add_int q
theorem lK:jy X (binaryOp .Sub) (By fun i j=>.int (i-j)):=Ia fun _ _ _ _ _ _ _ q=>sub_int q
theorem jW:jy X (binaryOp .Mult) (rI Ca fun i j=>.int (i*j)):=Hl fun _ _ _ _ _ _ _ hc q=>mul_int q hc.ok
theorem Bs:jy X (binaryOp .FloorDiv) (rI Mj fun i j=>.int (i / j)):=Hl fun i j _ _ _ _ _ hc q=>by
 have h1:(0:Int)<j:=hc.1
 have h2:j<1073741824:=hc.2
 exact floordiv_int (by omega) (by rw [Int.fdiv_eq_ediv_of_nonneg i (by omega)];exact q) (.inl (PyProof.noPylong_small (by omega)))
theorem jV:jy X (binaryOp .Mod) (rI (fun _ j=>0<j) fun i j=>.int (i % j)):=Hl fun i j _ _ _ _ _ hc q=>by
 have h1:(0:Int)<j:=hc
 exact mod_int' (by omega) (by rw [Int.fmod_eq_emod_of_nonneg i (by omega)];exact q)
theorem Eu:jy X (binaryOp .Pow) (rI Nv fun i j=>.int (i ^ j.toNat)):=Hl fun _ _ _ _ _ _ _ hc q=>pow_int_small hc.1 hc.2.1 hc.2.2 q
theorem Qy {f:Value->Sem Value} {g:Int->Int}
 (rule:∀ (i:Int) (t:Tok) (s:Shared) (Q:Value->Shared->Prop) (E:Value->Shared->Prop),Q (.int (g i) s.toks) { s with toks:=s.toks+1 }->wpAny (model X.prog X.w) X.A (f (.int i t)) Q E s) :
 Mh X f (rU fun i=>.int (g i)):=by
 intro Z s O H x v Q I rx h
 obtain ⟨i,rfl,q⟩:=h
 obtain ⟨t,rfl⟩:=rx
 exact rule i t s _ _ ⟨.int (g i),H,I.tok _,⟨_,rfl⟩,q⟩
theorem gZ:Mh X (unaryOp .USub) (rU fun i=>.int (-i)):=Qy fun _ _ _ _ _ q=>neg_int q
end
def Af:V->V->Bool
 |.non,.non=>true|.non,.int _=>true|.int _,.non=>true|.non,.bl _=>true|.bl _,.non=>true|.non,.str _=>true|.str _,.non=>true
 |.int _,.int _=>true|.bl _,.bl _=>true|.str _,.str _=>true|.byt _,.byt _=>true
 |.int _,.str _=>true|.str _,.int _=>true|.bl _,.str _=>true|.str _,.bl _=>true
 |_,_=>false
def Pb:R2:=fun x y H Q=>Af x y=true/\Q (.bl (decide (x=y))) H
def Og:R2:=fun x y H Q=>Af x y=true/\Q (.bl (!decide (x=y))) H
theorem uP {i j:Int}:decide (V.int i=V.int j)=(i == j):=by
 rw [Bool.eq_iff_iff]
 simp
theorem xX {i j:Bool}:decide (V.bl i=V.bl j)=(i == j):=by
 rw [Bool.eq_iff_iff]
 simp
theorem vp {i j:Str}:decide (V.str i=V.str j)=(i == j):=by
 rw [Bool.eq_iff_iff]
 simp
theorem uJ {i j:Array UInt8}:decide (V.byt i=V.byt j)=(i.toList == j.toList):=by
 rw [Bool.eq_iff_iff]
 cases i
 cases j
 simp
section
variable {X:Cx} {a b c:Expr} {ta tb tc:TE} {pos:Pos}
theorem bI {Z:List (Addr×Obj)} {O:St} {H:Hp} {s:Shared} {Q:VK} {k k':Bool} (I:Inv X Z O H s) (q:Q (.bl k) H) (e:k=k'):EP X Z O Q (.bool k') s:=by
 subst e
 exact ⟨.bl k,H,I,rfl,q⟩
theorem eY:jy X (compareOp .Eq) Pb:=by
 intro Z s O H x y v u Q I rx ry h
 obtain ⟨hs,q⟩:=h
 cases x with
 | non=>
   cases rx
   cases y with
   |non=>cases ry;exact PySem.EqNone.eq_none_none (bI I q (by simp))
   |bl j=>cases ry;exact PySem.EqNone.eq_none_bool (bI I q (by simp))
   |int j=>obtain ⟨t',rfl⟩:=ry;exact PySem.EqNone.eq_none_int (bI I q (by simp))
   |str j=>obtain ⟨t',rfl⟩:=ry;exact PySem.EqNone.eq_none_str (bI I q (by simp))
   |_=>exact absurd (show false=true from hs) Bool.false_ne_true
 | bl i=>
   cases rx
   cases y with
   |non=>cases ry;exact PySem.EqNone.eq_bool_none (bI I q (by simp))
   |bl j=>cases ry;exact eq_bool (bI I q xX)
   |str j=>obtain ⟨t',rfl⟩:=ry;exact PySem.EqMixed.eq_bool_str (bI I q (by simp))
   |_=>exact absurd (show false=true from hs) Bool.false_ne_true
 | int i=>
   obtain ⟨t,rfl⟩:=rx
   cases y with
   |non=>cases ry;exact PySem.EqNone.eq_int_none (bI I q (by simp))
   |int j=>obtain ⟨t',rfl⟩:=ry;exact eq_int (bI I q uP)
   |str j=>obtain ⟨t',rfl⟩:=ry;exact PySem.EqMixed.eq_int_str (bI I q (by simp))
   |_=>exact absurd (show false=true from hs) Bool.false_ne_true
 | str i=>
   obtain ⟨t,rfl⟩:=rx
   cases y with
   |non=>cases ry;exact PySem.EqNone.eq_str_none (bI I q (by simp))
   |bl j=>cases ry;exact PySem.EqMixed.eq_str_bool (bI I q (by simp))
   |int j=>obtain ⟨t',rfl⟩:=ry;exact PySem.EqMixed.eq_str_int (bI I q (by simp))
   |str j=>obtain ⟨t',rfl⟩:=ry;exact eq_str (bI I q vp)
   |_=>exact absurd (show false=true from hs) Bool.false_ne_true
 | byt i=>
   obtain ⟨t,rfl⟩:=rx
   cases y with
   |byt j=>obtain ⟨t',rfl⟩:=ry;exact PySem.W.eq_bytes (bI I q uJ)
   |_=>exact absurd (show false=true from hs) Bool.false_ne_true
 |_=>cases y <;> exact absurd (show false=true from hs) Bool.false_ne_true
theorem lB:jy X (compareOp .NotEq) Og:=by
 intro Z s O H x y v u Q I rx ry h
 obtain ⟨hs,q⟩:=h
 cases x with
 | non=>
   cases rx
   cases y with
   |non=>cases ry;exact PySem.EqNone.ne_none_none (bI I q (by simp))
   |bl j=>cases ry;exact PySem.EqNone.ne_none_bool (bI I q (by simp))
   |int j=>obtain ⟨t',rfl⟩:=ry;exact PySem.EqNone.ne_none_int (bI I q (by simp))
   |str j=>obtain ⟨t',rfl⟩:=ry;exact PySem.EqNone.ne_none_str (bI I q (by simp))
   |_=>exact absurd (show false=true from hs) Bool.false_ne_true
 | bl i=>
   cases rx
   cases y with
   |non=>cases ry;exact PySem.EqNone.ne_bool_none (bI I q (by simp))
   |bl j=>cases ry;exact ne_bool (bI I q (congrArg not xX))
   |str j=>obtain ⟨t',rfl⟩:=ry;exact PySem.EqMixed.ne_bool_str (bI I q (by simp))
   |_=>exact absurd (show false=true from hs) Bool.false_ne_true
 | int i=>
   obtain ⟨t,rfl⟩:=rx
   cases y with
   |non=>cases ry;exact PySem.EqNone.ne_int_none (bI I q (by simp))
   |int j=>obtain ⟨t',rfl⟩:=ry;exact ne_int (bI I q (congrArg not uP))
   |str j=>obtain ⟨t',rfl⟩:=ry;exact PySem.EqMixed.ne_int_str (bI I q (by simp))
   |_=>exact absurd (show false=true from hs) Bool.false_ne_true
 | str i=>
   obtain ⟨t,rfl⟩:=rx
   cases y with
   |non=>cases ry;exact PySem.EqNone.ne_str_none (bI I q (by simp))
   |bl j=>cases ry;exact PySem.EqMixed.ne_str_bool (bI I q (by simp))
   |int j=>obtain ⟨t',rfl⟩:=ry;exact PySem.EqMixed.ne_str_int (bI I q (by simp))
   |str j=>obtain ⟨t',rfl⟩:=ry;exact ne_str (bI I q (congrArg not vp))
   |_=>exact absurd (show false=true from hs) Bool.false_ne_true
 | byt i=>
   obtain ⟨t,rfl⟩:=rx
   cases y with
   |byt j=>obtain ⟨t',rfl⟩:=ry;exact PySem.W.ne_bytes (bI I q (congrArg not uJ))
   |_=>exact absurd (show false=true from hs) Bool.false_ne_true
 |_=>cases y <;> exact absurd (show false=true from hs) Bool.false_ne_true
theorem gH:jy X (compareOp .Lt) (By fun i j=>.bl (decide (i<j))):=Aq fun _ _ _ _ _ _ _ q=>lt_int q
theorem cR:jy X (compareOp .LtE) (By fun i j=>.bl (decide (i≤j))):=Aq fun _ _ _ _ _ _ _ q=>le_int q
theorem uE:jy X (compareOp .Gt) (By fun i j=>.bl (decide (j<i))):=Aq fun _ _ _ _ _ _ _ q=>gt_int q
theorem Ck:jy X (compareOp .GtE) (By fun i j=>.bl (decide (j≤i))):=Aq fun _ _ _ _ _ _ _ q=>ge_int q
theorem lR:jy X (compareOp .Is) (fun x y H Q=>y=.non/\Q (.bl (decide (x=.non))) H):=by
 intro Z s O H x y v u Q I rx ry h
 obtain ⟨rfl,q⟩:=h
 cases ry
 refine is_none_gen (bI I q ?_)
 cases x <;> first
  |(cases rx;rfl)
  |(obtain ⟨t,rfl⟩:=rx;rfl)
theorem aR (b:Expr) {op:CmpOp} (h:op≠.In:=by decide) (h2:op≠.NotIn:=by decide):behindInMarks op b=false:=by
 have e1:(op == CmpOp.In)=false:=by cases op <;> first|rfl|exact absurd rfl h
 have e2:(op == CmpOp.NotIn)=false:=by cases op <;> first|rfl|exact absurd rfl h2
 cases b <;> simp [behindInMarks,e1,e2]
theorem dI {op:CmpOp} {r:R2} (ho:jy X (compareOp op) r) (ha:PE X a ta) (hb:PE X b tb) (hm:behindInMarks op b=false):PE X (.Compare a [op] [b] pos) (Hc r ta tb):=by
 intro Z s O H Q I h
 exact wpAny_Compare1 (G6 ha hb I h fun v u s2 x y H2 I2 rx ry q=>ho Z s2 O H2 x y v u Q I2 rx ry q) hm
def x_ (t:TE):TT:=fun O H Q=>t O H fun x H'=>∃ k,x=.bl k/\Q k H'
theorem aP {op:CmpOp} {r:R2} (ho:jy X (compareOp op) r) (ha:PE X a ta) (hb:PE X b tb) (hm:behindInMarks op b=false):PT X (.Compare a [op] [b] pos) (x_ (Hc r ta tb)):=by
 intro Z s O H Q I h
 refine wpAny_isTrue_Compare1 (cj (ha Z s O H _ I h) fun v s1 ⟨x,H1,I1,r1,q1⟩=>cj (hb Z s1 O H1 _ I1 q1) fun u s2 ⟨y,H2,I2,r2,q2⟩=>
  cj (ho Z s2 O H2 x y v u _ I2 r1 r2 q2) fun c s3 ⟨z,H3,I3,r3,k,e,q3⟩=>?_) hm
 subst e
 cases r3
 exact wpAny_truthy_bool ⟨H3,I3,q3⟩
def uz (r r':R2) (ta tb tc:TE):TE:=fun O H Q=>ta O H fun x H1=>tb O H1 fun y H2=>r x y H2 fun z H3=>∃ k,z=.bl k/\
 (if k=true then tc O H3 fun w' H4=>r' y w' H4 Q else Q (.bl false) H3)
theorem yh {op op':CmpOp} {r r':R2} (ho:jy X (compareOp op) r) (ho':jy X (compareOp op') r') (ha:PE X a ta) (hb:PE X b tb) (hc:PE X c tc)
 (hm:lastMarks [op,op'] [b,c]=false:=by with_unfolding_all rfl):PE X (.Compare a [op,op'] [b,c] pos) (uz r r' ta tb tc):=by
 intro Z s O H Q I h
 refine Compare_chain (cj (ha Z s O H _ I h) fun v s1 ⟨x,H1,I1,r1,q1⟩=>chain_link (cj (hb Z s1 O H1 _ I1 q1) fun u s2 ⟨y,H2,I2,r2,q2⟩=>
  cj (ho Z s2 O H2 x y v u _ I2 r1 r2 q2) fun d s3 ⟨z,H3,I3,r3,k,e,q3⟩=>?_)) hm
 subst e
 cases r3
 refine wpAny_truthy_bool ?_
 cases k with
 |false=>exact ite_ff ⟨.bl false,H3,I3,rfl,q3⟩
 |true=>exact ite_tt (chain_last (cj (hc Z s3 O H3 _ I3 q3) fun w' s4 ⟨z',H4,I4,r4,q4⟩=>ho' Z s4 O H4 y z' u w' Q I4 r2 r4 q4))
theorem bR {op op':CmpOp} {r r':R2} (ho:jy X (compareOp op) r) (ho':jy X (compareOp op') r') (ha:PE X a ta) (hb:PE X b tb) (hc:PE X c tc)
 (hm:lastMarks [op,op'] [b,c]=false:=by with_unfolding_all rfl):PT X (.Compare a [op,op'] [b,c] pos) (x_ (uz r r' ta tb tc)):=by
 intro Z s O H Q I h
 refine isTrue_chain (cj (ha Z s O H _ I h) fun v s1 ⟨x,H1,I1,r1,q1⟩=>test_link (cj (hb Z s1 O H1 _ I1 q1) fun u s2 ⟨y,H2,I2,r2,q2⟩=>
  cj (ho Z s2 O H2 x y v u _ I2 r1 r2 q2) fun d s3 ⟨z,H3,I3,r3,k,e,q3⟩=>?_)) hm
 subst e
 cases r3
 refine wpAny_truthy_bool ?_
 cases k with
 | false=>
   obtain ⟨k',e',q'⟩:=q3
   cases e'
   exact ite_ff ⟨H3,I3,q'⟩
 | true=>
   refine ite_tt (test_last (cj (hc Z s3 O H3 _ I3 q3) fun w' s4 ⟨z',H4,I4,r4,q4⟩=>cj (ho' Z s4 O H4 y z' u w' _ I4 r2 r4 q4) fun d' s5 ⟨z2,H5,I5,r5,k2,e2,q5⟩=>?_))
   subst e2
   cases r5
   exact wpAny_truthy_bool ⟨H5,I5,q5⟩
theorem qm:(sizeLine:Nat)<2 ^ 63:=by rw [sizeLine_eq];decide
theorem sX:jy X (binaryOp .Add) (fun x y H Q=>∃ i j,x=.str i/\y=.str j/\i.length+j.length≤sizeLine/\Q (.str (i++j)) H):=by
 intro Z s O H x y v u Q I rx ry h
 obtain ⟨i,j,rfl,rfl,hz,q⟩:=h
 obtain ⟨t,rfl⟩:=rx
 obtain ⟨t',rfl⟩:=ry
 exact add_str (fun t' tk=>⟨.str (i++j),H,I.tok _,⟨_,rfl⟩,q⟩) hz
theorem vals1 {x:V} {us:List Value} (r:Vals [x] us):∃ u,us=[u]/\RelV x u:=by
 cases r with
 |cons r1 r2=>cases r2;exact ⟨_,rfl,r1⟩
theorem qw:dH X (.type "str") (fun xs H Q=>∃ i,xs=[.int i]/\i.natAbs.log2<1920/\Q (.str (toString i)) H):=by
 intro Z s O H xs us Q I r h
 obtain ⟨i,rfl,hz,q⟩:=h
 obtain ⟨u,rfl,t,rfl⟩:=vals1 r
 exact PySem.P.str_of_int hz ⟨.str _,H,I.tok _,⟨_,rfl⟩,q⟩
end
theorem p7 {h:Heap} {dx:Addr} {mA:Str->Option Value} (n:h.Ns1 dx mA):∃ od,h.get? dx=some od/\∀ name,PySem.W.lookIn name od=some (mA name):=by
 obtain ⟨o,es,ep,ho,hd,hk,_,hm⟩:=n
 refine ⟨o,ho,fun name=>?_⟩
 have e:=hm name
 unfold nsFind findBy at e
 rw [← Array.find?_toList] at e
 unfold PySem.W.lookIn
 rw [hd]
 dsimp only
 split
 ·rename_i y q
  rw [q] at e
  exact congrArg some e
 ·rename_i q
  rw [q] at e
  have a:es.toList.any (·.refKey)=false:=by
   rw [List.any_eq_false]
   intro y hy
   obtain ⟨z,t,hkey⟩:=hk y (Array.mem_toList_iff.mp hy)
   simp [DictEntry.refKey,hkey]
  have a':¬ es.toList.any (·.refKey)=true:=by rw [a];exact Bool.false_ne_true
  rw [if_neg a']
  exact congrArg some e
section
variable {prog:Program} {w:World} {A:Around} {E:Value->Shared->Prop} {s:Shared} {K:PySem.W.Frag} {x dx C f:Addr} {mA:Str->Option Value} {name:Str} {v:Value}
end
def my (f:Str) (v:V):List (Str×V)->List (Str×V)
 |[]=>[(f,v)]
 |(g,x)::r=>if g=f then (g,v)::r else (g,x)::my f v r
theorem j0 (f g:Str) (v:V):∀ fs:List (Str×V),(my f v fs).lookup g=if g=f then some v else fs.lookup g
 | []=>by
   show List.lookup g [(f,v)]=_
   by_cases h:g=f
   ·have hb:(g == f)=true:=beq_iff_eq.mpr h
    simp only [List.lookup,hb,if_pos h]
   ·have hb:(g == f)=false:=beq_eq_false_iff_ne.mpr h
    simp only [List.lookup,hb,if_neg h]
 | (k,x)::r=>by
   have ih:=j0 f g v r
   rw [show my f v ((k,x)::r)=(if k=f then (k,v)::r else (k,x)::my f v r) from rfl]
   by_cases hk:k=f
   ·rw [if_pos hk]
    by_cases h:g=k
    ·have hb:(g == k)=true:=beq_iff_eq.mpr h
     simp only [List.lookup,hb,if_pos (h.trans hk)]
    ·have hb:(g == k)=false:=beq_eq_false_iff_ne.mpr h
     simp only [List.lookup,hb,if_neg (fun e:g=f=>h (e.trans hk.symm))]
   ·rw [if_neg hk]
    by_cases h:g=k
    ·have hb:(g == k)=true:=beq_iff_eq.mpr h
     simp only [List.lookup,hb,if_neg (fun e:g=f=>hk (h.symm.trans e))]
    ·have hb:(g == k)=false:=beq_eq_false_iff_ne.mpr h
     simp only [List.lookup,hb]
     exact ih
theorem lV (f:Str) (v:V):∀ fs:List (Str×V),f∈(my f v fs).map (·.1)/\∀ g,g∈fs.map (·.1)->g∈(my f v fs).map (·.1)
 |[]=>⟨by simp [my],fun g h=>by simp at h⟩
 | (k,x)::r=>by
   obtain ⟨i1,i2⟩:=lV f v r
   rw [show my f v ((k,x)::r)=(if k=f then (k,v)::r else (k,x)::my f v r) from rfl]
   by_cases hk:k=f
   ·rw [if_pos hk]
    subst hk
    exact ⟨by simp,fun g h=>by simpa using h⟩
   ·rw [if_neg hk]
    refine ⟨?_,fun g h=>?_⟩
    ·rw [List.map_cons]
     exact List.mem_cons_of_mem _ i1
    ·rw [List.map_cons] at h ⊢
     rcases List.mem_cons.mp h with e|e
     ·exact List.mem_cons.mpr (.inl e)
     ·exact List.mem_cons_of_mem _ (i2 g e)
theorem lF.some_of {v:V} {o:Option Value} (r:lF (some v) o):∃ u,o=some u/\RelV v u:=by
 cases o with
 |none=>exact (show False from r).elim
 |some u=>exact ⟨u,rfl,r⟩
theorem wY {v:V} {u:Value} (r:RelV v u):PySem.W.handedIn u=true:=by
 cases v with
 |non=>cases (show u=Value.none from r);rfl
 |bl b=>cases (show u=Value.bool b from r);rfl
 |int i=>obtain ⟨t,e⟩:=(show ∃ t,u=Value.int i t from r);cases e;rfl
 |str x=>obtain ⟨t,e⟩:=(show ∃ t,u=Value.str x t from r);cases e;rfl
 |byt b=>obtain ⟨t,e⟩:=(show ∃ t,u=Value.bytes b t from r);cases e;rfl
 |flt b=>obtain ⟨t,e⟩:=(show ∃ t,u=Value.float b t from r);cases e;rfl
 |ref a=>cases (show u=Value.ref a from r);rfl
 |ty n=>cases (show u=Value.type n from r);rfl
section
variable {P:Program} {w:World} {H H':Hp} {h h':Heap} {a C dx:Addr} {fs fs':List (Str×V)}
end
section
variable {X:Cx} {Z:List (Addr×Obj)} {O:St} {H:Hp} {s:Shared} {a C dx:Addr} {fs:List (Str×V)} {f:Str} {v:V} {A:Around} {E:Value->Shared->Prop}
theorem Ak {prog:Program} {w:World} {env:Env} {e:Expr} {f:Str} {pos:Pos} {s:Shared} {Q:Value->Shared->Prop} (hb:attributeBase e f env (eval e env)=eval e env)
 (h:wpAny (model prog w) A (eval e env) (fun o s₁=>wpAny (model prog w) A (getAttr o f true) Q E s₁) E s):wpAny (model prog w) A (eval (.Attribute e f pos) env) Q E s:=
 Attribute_any_ h (by rw [arm_eval_Attribute,hb])
end
section
variable {X:Cx} {o e value:Expr} {f:Str} {pos pos' tpos:Pos} {ta tv:TE}
end
section
variable {X:Cx} {Z:List (Addr×Obj)} {O:St} {H:Hp} {s:Shared} {A:Around} {E:Value->Shared->Prop} {Q:Value->Shared->Prop} {c:Value} {b:Bool}
end
structure bL (k:Nat) (A:Around):Prop where
 hd:A.handled=none
 dp:A.depth+3*k+5<recursionLimit
 un:A.units+16*k+200<cLine
 gd:A.guards=some []
theorem bL.mono {j k:Nat} {A:Around} (r:bL k A) (h:j≤k):bL j A:=⟨r.hd,by have:=r.dp;omega,by have:=r.un;omega,r.gd⟩
theorem bL.deeper {k:Nat} {A:Around} (r:bL (k+1) A) (env:Env):bL k (A.deeper env):=
 ⟨r.hd,by have:=r.dp;show A.depth+1+3*k+5<_;omega,by have:=r.un;show A.units+3+16*k+200<_;omega,r.gd⟩
theorem bL.in1 {k:Nat} {A:Around} (r:bL (k+1) A):bL k A.in1:=
 ⟨r.hd,by have:=r.dp;show A.depth+3*k+5<_;omega,by have:=r.un;show A.units+1+16*k+200<_;omega,r.gd⟩
theorem tD {A:Around} {C:Addr} {us:List Value} {kw:List (Str×Value)}:(A.under (.builtin "type.__call__" ⟨.ref C::us,kw⟩)).depth=A.depth+1:=by
 first|rfl|simp [Around.under,Code.weight,Code.isCreation,Code.isGuard,Code.isCaller,Code.frames,Code.isFrame,guardIds]
theorem um {A:Around} {C:Addr} {us:List Value} {kw:List (Str×Value)}:(A.under (.builtin "type.__call__" ⟨.ref C::us,kw⟩)).units=A.units+1:=by
 first|rfl|simp [Around.under,Code.cUnits,Code.frames,Code.isFrame]
theorem bL.make {k:Nat} {A:Around} (r:bL (k+1) A) (C:Addr) (us:List Value) (kw:List (Str×Value)):bL k (A.under (.builtin "type.__call__" ⟨.ref C::us,kw⟩)):=
 ⟨r.hd,by have:=r.dp;rw [tD];omega,by have:=r.un;rw [um];omega,by have:=r.gd;first|exact this|(simpa [Around.under] using this)⟩
theorem bL.depth {k:Nat} {A:Around} (r:bL k A):A.depth<recursionLimit:=by have:=r.dp;omega
theorem bL.units {k:Nat} {A:Around} (r:bL k A):A.units+64<cLine:=by have:=r.un;omega
def jO:TA:=fun _ H Q=>Q [] H
def pI (ta:TE) (tr:TA):TA:=fun O H Q=>ta O H fun x H1=>tr O H1 fun xs H2=>Q (x::xs) H2
section
variable {X:Cx} {e:Expr} {es:List Expr} {te:TE} {t:TA} {pos:Pos}
theorem ak:PA X [] jO:=fun _ _ _ _ H Q I h=>Calls.spliced_nil ⟨[],H,I,.nil,h⟩
theorem aa (ha:PE X e te) (hr:PA X es t) (hs:starEach (e::es) X.env=(false,eval e X.env)::starEach es X.env:=by rfl):PA X (e::es) (pI te t):=by
 intro pos Z s O H Q I h
 rw [hs]
 show wpAny _ _ (spliced ((false,eval e X.env)::backTo pos (starEach es X.env))) _ _ s
 refine Calls.spliced_cons (cj (ha Z s O H _ I h) fun u s1 ⟨x,H1,I1,r1,q1⟩=>?_)
 exact cj (hr pos Z s1 O H1 _ I1 q1) fun us s2 ⟨xs,H2,I2,r2,q2⟩=>⟨x::xs,H2,I2,.cons r1 r2,q2⟩
def Hk (t:TA):TE:=fun O H Q=>t O H fun xs H1=>xs.length≤sizeLine/\∀ p,H1 p=none->Q (.ref p) (upd H1 p (.tup xs))
def Mf (t:TA):TE:=fun O H Q=>t O H fun xs H1=>xs.length≤sizeLine/\∀ p,H1 p=none->Q (.ref p) (upd H1 p (.lst xs))
theorem cz {x1} (h:PA X es t):PE X (.Tuple es x1 pos) (Hk t):=by
 intro Z s O H Q I hq
 refine wpAny_Tuple_spliced (cj (h pos Z s O H _ I hq) fun us s1 ⟨xs,H1,I1,r,z,q⟩=>⟨by rw [← r.length];exact z,?_⟩)
 have hf:H1 s1.heap.objs.size=none:=I1.hok.fresh (Nat.le_refl _)
 refine ⟨.ref s1.heap.objs.size,upd H1 s1.heap.objs.size (.tup xs),I1.laid (t':=s1.toks) (fun b u e=>Heap.get?_push_of_some _ e) (Nat.le_refl _) ?_,rfl,q _ hf⟩
 exact ⟨z,us,r,⟨_,Heap.get?_push_size _ rfl,rfl,_,rfl⟩⟩
theorem bK (h:PA X es t):PE X (.List es pos) (Mf t):=by
 intro Z s O H Q I hq
 refine wpAny_List_spliced (cj (h pos Z s O H _ I hq) fun us s1 ⟨xs,H1,I1,r,z,q⟩=>⟨by rw [← r.length];exact z,?_⟩)
 have hf:H1 s1.heap.objs.size=none:=I1.hok.fresh (Nat.le_refl _)
 refine ⟨.ref s1.heap.objs.size,upd H1 s1.heap.objs.size (.lst xs),I1.laid (t':=s1.toks) (fun b u e=>Heap.get?_push_of_some _ e) (Nat.le_refl _) ?_,rfl,q _ hf⟩
 exact ⟨z,us,0,r,Heap.get?_push_size _ rfl⟩
end
abbrev Sp:=List V->Hp->VK->XK->Prop
abbrev jG:=List Env->Hp->Shared->XK->Value->Shared->Prop
structure oH (P:Program) (w:World) (K:PySem.W.Frag) (mg:Str->Option Value) (base:Heap) (A:Around) (outer:List Env) (s:Shared) (H:Hp):Prop where
 frames:A.frames=some outer
 mod:Mod K mg base
 bs:∀ b o,base.get? b=some o->s.heap.get? b=some o/\H b=none
 bsz:base.objs.size≤s.heap.objs.size
 funs:s.heap.FunFrames base outer
 frf:∀ b∈frs outer,H b=none
 hok:iZ P w H s.heap
 bare:AllBare s.gens
def CE (outer:List Env) (P:Program) (w:World) (H:Hp) (s:Shared) (Q:VK) (u:Value) (s':Shared):Prop:=
 ∃ v H',s'.os=s.os/\AllBare s'.gens/\Un (frs outer) [] H H' s.heap s'.heap/\iZ P w H' s'.heap/\RelV v u/\Q v H'
def CR (CX:jG) (outer:List Env) (P:Program) (w:World) (H:Hp) (s:Shared) (Q:VK) (E:XK) (r:Result) (s':Shared):Prop:=
 match r with
 |.ok (.ret u)=>CE outer P w H s Q u s'
 |.ok _=>False
 |.error e=>CX outer H s E e s'
structure aN (P:Program) (w:World) (K:PySem.W.Frag) (mg:Str->Option Value) (base:Heap) (CX:jG) (k:Nat) (f:Addr) (fd:FuncData) (ps:List Str) (sp:Sp):Prop where
 len:∀ vs H Q E,sp vs H Q E->vs.length=ps.length
 run:∀ (A:Around) (outer:List Env) (s:Shared) (H:Hp) (args:Args) (us:List Value) (vs:List V) (Q:VK) (E:XK),bL k A->oH P w K mg base A outer s H->BindsTo s fd args (ps.zip us)->Vals vs us->sp vs H Q E->
  codeAny (model P w) A (.call (.ref f) args) (CR CX outer P w H s Q E) s
theorem aN.mono {P:Program} {w:World} {K:PySem.W.Frag} {mg:Str->Option Value} {base:Heap} {CX:jG} {j k:Nat} {f:Addr} {fd:FuncData} {ps:List Str} {sp:Sp} (F:aN P w K mg base CX j f fd ps sp) (h:j≤k) :
 aN P w K mg base CX k f fd ps sp:=⟨F.len,fun A outer s H args us vs Q E hr=>F.run A outer s H args us vs Q E (hr.mono h)⟩
theorem oH.make {P:Program} {w:World} {K:PySem.W.Frag} {mg:Str->Option Value} {base:Heap} {A:Around} {outer:List Env} {s:Shared} {H:Hp} (e:oH P w K mg base A outer s H) (C:Addr) (us:List Value) (kw:List (Str×Value)) :
 oH P w K mg base (A.under (.builtin "type.__call__" ⟨.ref C::us,kw⟩)) outer s H:=⟨by first|exact e.frames|(simpa [Around.under,Code.envs,Code.isFrame,pushEnvs] using e.frames),e.mod,e.bs,e.bsz,e.funs,e.frf,e.hok,e.bare⟩
section
variable {X:Cx} {Z:List (Addr×Obj)} {O:St} {H:Hp} {s s':Shared}
theorem Inv.env0 (I:Inv X Z O H s):oH X.prog X.w X.K X.mg X.base X.A X.stack s H:=
 ⟨I.ok.frames,I.ok.mod,I.bs,Nat.le_trans I.ok.bsz I.sz,I.stack,I.stkFree,I.hok,I.bare⟩
theorem Inv.after {Q:VK} {u:Value} (I:Inv X Z O H s) (h:CE X.stack X.prog X.w H s Q u s'):EP X Z O Q u s':=by
 obtain ⟨v,H',os,bare,un,hok,r,q⟩:=h
 obtain ⟨hh,g,d,t,os'⟩:=s'
 obtain rfl:os'=s.os:=os
 exact ⟨v,H',I.call (h':=hh) (g':=g) (d':=d) (t':=t) (ch:=[]) un hok bare (fun b z=>absurd z (by simp)),r,q⟩
end
def Cp (sp:Sp) (dvs:List V) (E:XK) (t:TA):TE:=fun O H Q=>t O H fun vs H1=>sp (vs++dvs) H1 Q E
def Binds (K:PySem.W.Frag) (fd:FuncData) (ps:List Str) (ds:List Value):Prop:=
 ∀ (s:Shared) (us:List Value),K.In s.heap->(us++ds).length=ps.length->BindsTo s fd ⟨us,[]⟩ (ps.zip (us++ds))
theorem Binds.all {K:PySem.W.Frag} {fd:FuncData} {ps:List Str} (h:∀ us:List Value,us.length=ps.length->bindArgs fd ⟨us,[]⟩=pure (ps.zip us)):Binds K fd ps []:=fun s us _ hl=>by
 rw [List.append_nil] at hl ⊢
 exact .of_eq (h us hl)
def fH (CX:jG) (X:Cx) (E:XK):Prop:=∀ (Z:List (Addr×Obj)) (O:St) (H:Hp) (s:Shared) (e:Value) (s':Shared),Inv X Z O H s->CX X.stack H s E e s'->X.xe e s'
section
variable {X:Cx} {CX:jG} {k:Nat} {f C:Addr} {fd:FuncData} {ps:List Str} {sp:Sp} {dvs:List V} {ds:List Value} {E:XK} {x m:Str} {p pos apos:Pos} {e o:Expr} {es:List Expr} {ta:TE} {t:TA}
theorem yO {Z:List (Addr×Obj)} {O:St} {H:Hp} {s:Shared} {Q:VK} {us:List Value} {vs:List V} (F:aN X.prog X.w X.K X.mg X.base CX k f fd ps sp) (hr:bL k X.A) (hb:Binds X.K fd ps ds) (hd:Vals dvs ds) (hx:fH CX X E)
 (I:Inv X Z O H s) (r:Vals vs us) (h:sp (vs++dvs) H Q E):wpAny (model X.prog X.w) X.A (call (.ref f) us) (EP X Z O Q) X.xe s:=by
 have r2:Vals (vs++dvs) (us++ds):=r.append hd
 have hl:(us++ds).length=ps.length:=by rw [← r2.length];exact F.len _ _ _ _ h
 refine wpAny_call (codeAny_mono (F.run X.A X.stack s H ⟨us,[]⟩ (us++ds) (vs++dvs) Q E hr I.env0 (hb s us I.kIn hl) r2 h) fun r s' hq=>?_)
 cases r with
 |error e=>exact hx Z O H s e s' I hq
 | ok fl=>
   cases fl with
   |ret u=>exact I.after hq
   |next=>exact False.elim hq
   |brk=>exact False.elim hq
   |cont=>exact False.elim hq
theorem aM (F:aN X.prog X.w X.K X.mg X.base CX k f fd ps sp) (hr:bL k X.A) (hg:Gl X x) (hm:X.mg x=some (.ref f)) (hk:PySem.W.keepIn X.K (.ref f)=true) (hb:Binds X.K fd ps ds) (hd:Vals dvs ds) (hx:fH CX X E)
 (ha:PA X (e::es) t) (hdb:(x == ("__debug__" : Str))=false:=by decide) (he:starEach (e::es) X.env=(false,eval e X.env)::starEach es X.env:=by rfl) (hpl:(backTo pos (starEach es X.env)).any (·.1)=false:=by rfl) :
 PE X (.Call (.Name x p) (e::es) [] pos) (Cp sp dvs E t):=by
 intro Z s O H Q I h
 refine wpAny_Call_Name_kw (jq I hg hm ?_ hdb)
 refine PySem.W.callWith_K (h₀:=X.base) I.ok.mod.kin hk (cj (ha pos Z s O H _ I h) fun us s1 ⟨vs,H1,I1,r,q⟩=>⟨I1.kIn,?_⟩) he hpl
 exact yO F hr hb hd hx I1 r q
end
def PK (X:Cx) (kws:List Keyword) (t:TA):Prop:=
 ∀ (pos:Pos) (Z:List (Addr×Obj)) (s:Shared) (O:St) (H:Hp) (Q:List V->Hp->Prop),Inv X Z O H s->t O H Q->wpAny (model X.prog X.w) X.A (evalAll ((backToKw pos (keywordEach kws X.env)).map (·.2))) (AP X Z O Q) X.xe s
section
variable {X:Cx} {CX:jG} {k:Nat} {f C:Addr} {fd:FuncData} {ps ks:List Str} {sp:Sp} {E:XK} {x m:Str} {p pos apos kpos:Pos} {e o:Expr} {es:List Expr} {kws:List Keyword} {te ta:TE} {t tk:TA} {nm:Option Str}
theorem j5:PK X [] jO:=fun _ _ _ _ H Q I h=>wpAny_evalAll_nil ⟨[],H,I,.nil,h⟩
theorem ig (ha:PE X e te) (hr:PK X kws t):PK X (⟨nm,e,kpos⟩::kws) (pI te t):=by
 intro pos Z s O H Q I h
 show wpAny _ _ (evalAll ((do let v ← eval e X.env;standAt pos;pure v)::(backToKw pos (keywordEach kws X.env)).map (·.2))) _ _ s
 refine wpAny_evalAll_cons (wpAny_bind (cj (ha Z s O H _ I h) fun u s1 ⟨x,H1,I1,r1,q1⟩=>wpAny_bind (wpAny_standAt (wpAny_pure ?_))))
 exact cj (hr pos Z s1 O H1 _ I1 q1) fun us s2 ⟨xs,H2,I2,r2,q2⟩=>⟨x::xs,H2,I2,.cons r1 r2,q2⟩
structure lZ (K:PySem.W.Frag) (fd:FuncData) (ps ks:List Str) (g:List Value->List Value->List Value) (gV:List V->List V->List V):Prop where
 to:∀ (s:Shared) (us ws:List Value),K.In s.heap->(g us ws).length=ps.length->BindsTo s fd ⟨us,ks.zip ws⟩ (ps.zip (g us ws))
 rel:∀ {vs:List V} {us:List Value} {zs:List V} {ws:List Value},Vals vs us->Vals zs ws->Vals (gV vs zs) (g us ws)
def Fl (sp:Sp) (gV:List V->List V->List V) (E:XK) (t tk:TA):TE:=fun O H Q=>t O H fun vs H1=>tk O H1 fun zs H2=>sp (gV vs zs) H2 Q E
variable {g:List Value->List Value->List Value} {gV:List V->List V->List V}
theorem Ci {Z:List (Addr×Obj)} {O:St} {H:Hp} {s:Shared} {Q:VK} {us ws:List Value} {vs zs:List V} (F:aN X.prog X.w X.K X.mg X.base CX k f fd ps sp) (hr:bL k X.A) (hb:lZ X.K fd ps ks g gV) (hx:fH CX X E)
 (I:Inv X Z O H s) (r:Vals vs us) (rz:Vals zs ws) (h:sp (gV vs zs) H Q E):wpAny (model X.prog X.w) X.A (call (.ref f) us (ks.zip ws)) (EP X Z O Q) X.xe s:=by
 have r2:=hb.rel r rz
 have hl:(g us ws).length=ps.length:=by rw [← r2.length];exact F.len _ _ _ _ h
 refine wpAny_call (codeAny_mono (F.run X.A X.stack s H ⟨us,ks.zip ws⟩ (g us ws) (gV vs zs) Q E hr I.env0 (hb.to s us ws I.kIn hl) r2 h) fun r s' hq=>?_)
 cases r with
 |error e=>exact hx Z O H s e s' I hq
 | ok fl=>
   cases fl with
   |ret u=>exact I.after hq
   |next=>exact False.elim hq
   |brk=>exact False.elim hq
   |cont=>exact False.elim hq
theorem gQ (F:aN X.prog X.w X.K X.mg X.base CX k f fd ps sp) (hr:bL k X.A) (hg:Gl X x) (hm:X.mg x=some (.ref f)) (hk:PySem.W.keepIn X.K (.ref f)=true) (hb:lZ X.K fd ps ks g gV) (hx:fH CX X E)
 (ha:PA X (e::es) t) (hkw:PK X kws tk) (hall:(backToKw pos (keywordEach kws X.env)).all (·.1.isSome)=true:=by rfl) (hks:(backToKw pos (keywordEach kws X.env)).filterMap (·.1)=ks:=by rfl)
 (hdb:(x == ("__debug__" : Str))=false:=by decide) (he:starEach (e::es) X.env=(false,eval e X.env)::starEach es X.env:=by rfl)
 (hpl:((backTo pos (starEach (e::es) X.env)).any (·.1) || (backToKw pos (keywordEach kws X.env)).any (·.1.isNone))=false:=by rfl) :
 PE X (.Call (.Name x p) (e::es) kws pos) (Fl sp gV E t tk):=by
 intro Z s O H Q I h
 refine wpAny_Call_Name_kw (jq I hg hm ?_ hdb)
 refine PySem.W.callWith_KW (h₀:=X.base) I.ok.mod.kin hk hall (cj (ha pos Z s O H _ I h) fun us s1 ⟨vs,H1,I1,r,q⟩=>?_) hpl he
 refine cj (hkw pos Z s1 O H1 _ I1 q) fun ws s2 ⟨zs,H2,I2,rz,q2⟩=>⟨I2.kIn,?_⟩
 rw [hks]
 exact Ci F hr hb hx I2 r rz q2
end
structure aW (N P:List Str) (sc:Scope):Prop where
 kind:sc.kind=.function
 co:sc.isCoroutine=false
 gen:sc.isGenerator=false
 nd:N.Nodup
 pre:N.take P.length=P
 par:∀ x∈P,sc.names.lookup x=some .local∨sc.names.lookup x=some .cell
 nofree:∀ y∈sc.names,y.2≠.free
theorem ph {kindOf:Str->Option NameKind} {x:Str}:∀ {binds:List (Str×Value)} {m:Str->Option Value},(∀ v,(x,v)∉binds)->bindL kindOf binds m x=m x
 |[],_,_=>rfl
 | (n,v)::r,m,h=>by
   unfold bindL
   rw [ph fun w hw=>h w (List.mem_cons_of_mem _ hw)]
   split
   ·have:x≠n:=by rintro rfl;exact h v List.mem_cons_self
    simp [this]
   ·rfl
theorem oX {kindOf:Str->Option NameKind} {x:Str}:∀ {binds:List (Str×Value)} {m:Str->Option Value},(∀ v,(x,v)∉binds)->bindC kindOf binds m x=m x
 |[],_,_=>rfl
 | (n,v)::r,m,h=>by
   unfold bindC
   rw [oX fun w hw=>h w (List.mem_cons_of_mem _ hw)]
   split
   ·rfl
   ·have:x≠n:=by rintro rfl;exact h v List.mem_cons_self
    simp [this]
theorem pL {kindOf:Str->Option NameKind} {x:Str} {v:Value}:∀ {P:List Str} {vs:List Value} {i:Nat} {m:Str->Option Value},P.Nodup->P[i]?=some x->vs[i]?=some v->kindOf x=some .local->
 bindL kindOf (P.zip vs) m x=some v
 |[],_,_,_,_,h,_,_=>by simp at h
 |_::_,[],_,_,_,_,h,_=>by simp at h
 | p::P,w::vs,0,m,nd,h1,h2,hk=>by
   simp at h1 h2;subst h1;subst h2
   show bindL kindOf ((p,w)::P.zip vs) m p=_
   unfold bindL
   rw [ph fun v hv=>(List.nodup_cons.mp nd).1 (List.of_mem_zip hv).1,if_pos hk]
   simp
 | p::P,w::vs,i+1,m,nd,h1,h2,hk=>by
   show bindL kindOf ((p,w)::P.zip vs) m x=_
   unfold bindL
   exact pL (i:=i) (List.nodup_cons.mp nd).2 (by simpa using h1) (by simpa using h2) hk
theorem pM {kindOf:Str->Option NameKind} {x:Str} {v:Value}:∀ {P:List Str} {vs:List Value} {i:Nat} {m:Str->Option Value},P.Nodup->P[i]?=some x->vs[i]?=some v->kindOf x≠some .local->
 bindC kindOf (P.zip vs) m x=some v
 |[],_,_,_,_,h,_,_=>by simp at h
 |_::_,[],_,_,_,_,h,_=>by simp at h
 | p::P,w::vs,0,m,nd,h1,h2,hk=>by
   simp at h1 h2;subst h1;subst h2
   show bindC kindOf ((p,w)::P.zip vs) m p=_
   unfold bindC
   rw [oX fun v hv=>(List.nodup_cons.mp nd).1 (List.of_mem_zip hv).1,if_neg hk]
   simp
 | p::P,w::vs,i+1,m,nd,h1,h2,hk=>by
   show bindC kindOf ((p,w)::P.zip vs) m x=_
   unfold bindC
   exact pM (i:=i) (List.nodup_cons.mp nd).2 (by simpa using h1) (by simpa using h2) hk
def start (N:List Str) (vs:List V):St:=vs.map some++List.replicate (N.length-vs.length) none
def iU (CX:jG) (P:Program) (w:World) (K:PySem.W.Frag) (mg:Str->Option Value) (base:Heap) (N:List Str) (qual:Str) (scope:Scope) (f:Addr) (cd:Value) (A:Around) (outer:List Env) (s:Shared) (H:Hp) (E:XK):Cx where
 prog:=P
 w:=w
 K:=K
 mg:=mg
 base:=base
 A:=A.deeper (envOfC qual scope s.heap.objs.size f cd)
 N:=N
 s₀:=s
 H₀:=H
 env:=envOfC qual scope s.heap.objs.size f cd
 outer:=outer
 stack:=envOfC qual scope s.heap.objs.size f cd::outer
 ex:=[]
 calm:=true
 fn:=fun _=>true
 pn:=[]
 xe:=fun e s'=>wpAny (model P w) (A.deeper (envOfC qual scope s.heap.objs.size f cd)) (leaving (envOfC qual scope s.heap.objs.size f cd) e) (fun _ s''=>CX outer H s E e s'') (fun e' s''=>CX outer H s E e' s'') s'
theorem rF {sc:Scope} {n:Nat} {x:Str} (h:sc.names.lookup x=some .cell):∃ c,(cellsFrom n sc.names []).lookup x=some c:=by
 have q:=PySem.W.cellsFrom_some sc.names n [] (.inl h)
 exact Option.isSome_iff_exists.mp q
theorem oY {CX:jG} {P:Program} {w:World} {K:PySem.W.Frag} {mg:Str->Option Value} {base:Heap} {N ps:List Str} {qual:Str} {scope:Scope} {f:Addr} {cd:Value} {A:Around} {outer:List Env} {s s1:Shared} {H:Hp} {E:XK} {us:List Value} {vs:List V}
 (S:aW N ps scope) (hd:A.handled=none) (e0:oH P w K mg base A outer s H) (hl:vs.length=ps.length) (r:Vals vs us)
 (x:InCallC s s.heap.objs.size (bindL (envOfC qual scope s.heap.objs.size f cd).kindOf (ps.zip us) fun _=>none) (cellsFrom (s.heap.objs.size+1) scope.names []) (bindC (envOfC qual scope s.heap.objs.size f cd).kindOf (ps.zip us) fun _=>none) s1) :
 Inv (iU CX P w K mg base N qual scope f cd A outer s H E) [] (start N vs) H s1:=by
 have hpl:ps.length≤N.length:=by have:=congrArg List.length S.pre;rw [List.length_take] at this;omega
 obtain ⟨h1,tk,rfl,hk⟩:=x.done
 have noA:∀ b:Addr,b∉(iU CX P w K mg base N qual scope f cd A outer s H E).ex:=fun b z=>absurd (show b∈([]:List Addr) from z) (by simp)
 refine ⟨⟨e0.mod,S.kind,rfl,rfl,Nat.le_refl _,fun y z c h1 h2=>?_,fun y hy=>?_,fun y c _ h=>?_,fun _=>hd,Around.frames_deeper e0.frames,.inr ⟨rfl,rfl⟩,fun b z=>absurd z (noA b),e0.bs,e0.bsz,fun b _ _=>noA b,fun b z=>absurd z (noA b),e0.funs,e0.frf⟩,
  rfl,e0.bare,Un.kept hk,⟨_,x.toInCall.ns,fun i y v h1 h2 h3=>?_⟩,fun y c h=>⟨_,x.cell y c h⟩,e0.hok.fresh (Nat.le_refl _),fun y c h=>?_,fun p hp=>absurd (show p∈([]:List (Addr×Obj)) from hp) (by simp),e0.hok.kept hk,?_⟩
 ·exact name_of_addr x.apart (PySem.mem_of_lookup h1) (PySem.mem_of_lookup h2)
 ·have hy:scope.names.lookup y=some .cell∨scope.names.lookup y=some .free:=hy
  rcases hy with hy|hy
  ·exact rF hy
  ·exact absurd rfl (S.nofree _ (PySem.mem_of_lookup hy))
 ·exact Nat.le_of_lt (x.above y c (PySem.mem_of_lookup h))
 ·have hi:i<vs.length:=by
   unfold start at h2
   by_cases hi:i<vs.length
   ·exact hi
   ·rw [List.getElem?_append_right (by simpa using hi)] at h2
    rw [List.getElem?_replicate] at h2
    split at h2 <;> cases h2
  have ha:vs[i]?=some v:=by
   unfold start at h2
   rw [List.getElem?_append_left (by simpa using hi),List.getElem?_map] at h2
   cases e:vs[i]? with
   |none=>rw [e] at h2;cases h2
   |some a=>rw [e] at h2;cases h2;rfl
  obtain ⟨u,hu,rv⟩:=r.get ha
  have hp:ps[i]?=some y:=by
   rw [← S.pre,List.getElem?_take_of_lt (by omega)];exact h1
  have ndP:ps.Nodup:=by rw [← S.pre];exact S.nd.sublist (List.take_sublist _ _)
  refine ⟨u,rv,?_⟩
  rcases S.par y (List.mem_of_getElem? hp) with k|k
  ·exact .inl ⟨k,pL ndP hp hu k⟩
  ·obtain ⟨c,e⟩:=rF (n:=s.heap.objs.size+1) k
   refine .inr ⟨.inl k,c,e,?_⟩
   have q:=x.cell y c e
   rw [pM ndP hp hu (by show scope.names.lookup y≠_;rw [k];decide)] at q
   exact q
 ·exact e0.hok.fresh (Nat.le_of_lt (x.above y c (PySem.mem_of_lookup h)))
 ·unfold start
  show _=N.length
  rw [List.length_append,List.length_map,List.length_replicate]
  omega
theorem rN {CX:jG} {P:Program} {w:World} {K:PySem.W.Frag} {mg:Str->Option Value} {base:Heap} {k:Nat} {f:Addr} {name qual:Str} {params:Arguments} {body:List Stmt} {scope:Scope} {dV kV doc pm cdv ct oc:Value} {an od:Option Addr}
 {osl:Array (Option Value)} {N ps:List Str} {sp:Sp} (lk:K.lookup f=some ⟨oc,od,.func (PySem.W.fnOf name qual params body scope dV kV doc pm an cdv ct),osl⟩) (hcd:PySem.W.codeIn K cdv qual=true) (S:aW N ps scope)
 (len:∀ vs H Q E,sp vs H Q E->vs.length=ps.length)
 (hbody:∀ (A:Around) (outer:List Env) (s:Shared) (H:Hp) (vs:List V) (Q:VK) (E:XK),bL k (A.deeper (envOfC qual scope s.heap.objs.size f cdv))->sp vs H Q E->
  ∃ t,qH (iU CX P w K mg base N qual scope f cdv A outer s H E) body t/\t { nx:=fun _ H'=>Q .non H',rt:=Q } (start N vs) H) :
 aN P w K mg base CX (k+1) f (PySem.W.fnOf name qual params body scope dV kV doc pm an cdv ct) ps sp:=by
 refine ⟨len,fun A outer s H args us vs Q E hr e0 hb r hsp=>?_⟩
 have hl:=len _ _ _ _ hsp
 have KX:K.In s.heap:=e0.mod.kin.keeps fun b o e=>(e0.bs b o e).1
 have lim:s.heap.NoLimit:=e0.mod.nolimit.keeps fun b o e=>(e0.bs b o e).1
 have hkind:∀ y∈ps.zip us,scope.names.lookup y.1=some .local∨(scope.names.lookup y.1=some .cell/\((cellsFrom (s.heap.objs.size+1) scope.names []).lookup y.1).isSome=true):=fun ⟨n,v⟩ hy=>by
  rcases S.par n (List.of_mem_zip hy).1 with q|q
  ·exact .inl q
  ·exact .inr ⟨q,PySem.W.cellsFrom_some _ _ _ (.inl q)⟩
 refine codeAny_call_function hr.depth (KX _ _ lk) rfl S.co S.gen rfl (PySem.W.codeRec_of KX hcd) (hb _ _ _ _ ?_)
 refine wpAny_newFunctionEnv_cells S.kind hkind fun env he s1 x=>?_
 subst he
 refine ⟨lim.keeps x.toInCall.keep,codeAny_func ?_⟩
 obtain ⟨t,ht,hq⟩:=hbody A outer s H vs Q E (hr.deeper _) hsp
 have I:Inv (iU CX P w K mg base N qual scope f cdv A outer s H E) [] (start N vs) H s1:=oY S hr.hd e0 hl r x
 refine wpAny_mono (ht [] s1 (start N vs) H _ I hq) (fun fl s' hs=>?_) fun e s' hs=>hs
 have fin:∀ {σ':St} {H':Hp} {v:V} {u:Value},Inv (iU CX P w K mg base N qual scope f cdv A outer s H E) [] σ' H' s'->RelV v u->Q v H'->CE outer P w H s Q u s':=
  fun {σ' H' v u} J rv q=>⟨v,H',J.os,J.bare,J.base,J.hok,rv,q⟩
 cases fl with
 | ret u=>
   obtain ⟨v,σ',H',J,rv,q⟩:=hs
   exact fin J rv q
 | next=>
   obtain ⟨σ',H',J,q⟩:=hs
   exact fin (v:=V.non) (u:=Value.none) J rfl q
 | brk=>
   obtain ⟨_,_,_,q⟩:=hs
   exact False.elim q
 | cont=>
   obtain ⟨_,_,_,q⟩:=hs
   exact False.elim q
section
variable {X:Cx} {x:Str} {p pos:Pos} {e:Expr} {es:List Expr} {t:TA} {id T:String} {r:List V->Hp->VK->Prop}
def Q4 (r:List V->Hp->VK->Prop) (t:TA):TE:=fun O H Q=>t O H fun vs H1=>r vs H1 Q
theorem aG (hc:dH X (.builtin id) r) (hg:Gl X x) (hm:X.mg x=none) (hv:bootBuiltins x=some (.builtin id)) (ha:PA X (e::es) t) (hn:x ≠ "__name__":=by decide) (hdb:(x == ("__debug__" : Str))=false:=by decide)
 (he:starEach (e::es) X.env=(false,eval e X.env)::starEach es X.env:=by rfl) (hpl:(backTo pos (starEach es X.env)).any (·.1)=false:=by rfl):PE X (.Call (.Name x p) (e::es) [] pos) (Q4 r t):=by
 intro Z s O H Q I h
 refine wpAny_Call_Name_kw (j7 I hg hm hv ?_ hn hdb)
 exact PyProof.Rows.callWith_builtin1 (cj (ha pos Z s O H _ I h) fun us s1 ⟨vs,H1,I1,r1,q1⟩=>hc Z s1 O H1 vs us Q I1 r1 q1) he hpl
theorem eO (hc:dH X (.type T) r) (hg:Gl X x) (hm:X.mg x=none) (hv:bootBuiltins x=some (.type T)) (ha:PA X (e::es) t) (hn:x ≠ "__name__":=by decide) (hdb:(x == ("__debug__" : Str))=false:=by decide)
 (he:starEach (e::es) X.env=(false,eval e X.env)::starEach es X.env:=by rfl) (hpl:(backTo pos (starEach es X.env)).any (·.1)=false:=by rfl):PE X (.Call (.Name x p) (e::es) [] pos) (Q4 r t):=by
 intro Z s O H Q I h
 refine wpAny_Call_Name_kw (j7 I hg hm hv ?_ hn hdb)
 exact PyProof.Rows.callWith_type1 (cj (ha pos Z s O H _ I h) fun us s1 ⟨vs,H1,I1,r1,q1⟩=>hc Z s1 O H1 vs us Q I1 r1 q1) he hpl
end
end L2
namespace HT
open PySem PyProof.Rows
section
open PySem.SeqAt
open PySem.AutoSeq1 (wpAny_loadPart')
open PySem.MeetsSeq PySem.MeetsSeq2 PySem.MeetsSeq3
end
section
variable {prog:Program} {w:World} {A:Around} {E:Value->Shared->Prop} {s:Shared}
def eF (n d:Nat):Option Int->Nat
 |none=>d
 |some v=>if v<0 then (v+(n:Int)).toNat else min v.toNat n
theorem zr (n d:Nat):eF n d none=d:=rfl
theorem Be (n d k:Nat):eF n d (some (k:Int))=min k n:=by
 show (if (k:Int)<0 then ((k:Int)+(n:Int)).toNat else min (k:Int).toNat n)=min k n
 rw [if_neg (by omega),Int.toNat_natCast]
theorem Fg (n d:Nat) (hd:d≤n) (o:Option Int):eF n d o≤n:=by
 cases o with
 |none=>exact hd
 | some v=>
   show (if v<0 then (v+(n:Int)).toNat else min v.toNat n)≤n
   by_cases hv:v<0
   ·rw [if_pos hv];omega
   ·rw [if_neg hv];exact Nat.min_le_right _ _
theorem vy (v:Int) (n d:Nat):(if v<0 then max (v+(n:Int)) 0 else min v (n:Int))=((eF n d (some v):Nat):Int):=by
 show (if v<0 then max (v+(n:Int)) 0 else min v (n:Int))=(((if v<0 then (v+(n:Int)).toNat else min v.toNat n):Nat):Int)
 by_cases hv:v<0
 ·simp only [if_pos hv];omega
 ·simp only [if_neg hv];omega
theorem sO (lo hi:Option Int) (n:Nat):Builtin.Slice.sliceAdjust lo hi 1 (n:Int)=(((eF n 0 lo:Nat):Int),((eF n n hi:Nat):Int)):=by
 have h1:¬ ((1:Int)<0):=by omega
 unfold Builtin.Slice.sliceAdjust
 simp only [h1,if_false]
 refine Prod.ext ?_ ?_
 ·cases lo with
  |none=>rfl
  |some v=>exact vy v n 0
 ·cases hi with
  |none=>rfl
  |some v=>exact vy v n n
theorem sY (i j:Nat):Builtin.Slice.slicePlaces (i:Int) (j:Int) 1=j-i:=by
 unfold Builtin.Slice.slicePlaces
 have h1:(1:Int) > 0:=by omega
 simp only [h1,if_true,Int.ediv_one]
 split <;> omega
theorem nG {v:Value} {o:Option Int} {Q:Option Int->Shared->Prop} (p:IsPart v o) (h:Q o s):wpAny (model prog w) A (Builtin.Slice.slicePartIndex v) Q E s:=by
 cases p with
 |none=>exact slicePart_none h
 |int i t=>exact slicePart_int h
theorem iB {sl:Addr} {vl vu:Value} {lo hi:Option Int} {n:Nat} {Q:Int×Int×Nat->Shared->Prop} (hs:s.heap.IsSliceOf sl vl vu .none) (pl:IsPart vl lo) (pu:IsPart vu hi)
 (h:Q (((eF n 0 lo:Nat):Int),1,eF n n hi-eF n 0 lo) s):wpAny (model prog w) A (Builtin.Slice.sliceApplied (.ref sl) (pure (n:Int))) Q E s:=by
 obtain ⟨os,hos,hcs,hds⟩:=id hs
 unfold Builtin.Slice.sliceApplied Builtin.Slice.sliceFields
 refine wpAny_bind (wpAny_bind (wpAny_field hos hds (x:=vl) rfl (wpAny_bind (wpAny_field hos hds (x:=vu) rfl (wpAny_bind (wpAny_field hos hds (x:=.none) rfl (wpAny_pure ?_)))))))
 refine wpAny_bind (slicePart_none ?_)
 show wpAny _ _ (if ((1:Int) == 0)=true then _ else _) _ _ s
 rw [if_neg (by decide)]
 refine wpAny_bind (nG pl (wpAny_bind (nG pu (wpAny_bind (wpAny_pure ?_)))))
 show wpAny _ _ (match Builtin.Slice.sliceAdjust lo hi 1 (n:Int) with|(lo,hi)=>pure (lo,(1:Int),Builtin.Slice.slicePlaces lo hi 1)) _ _ s
 rw [sO lo hi n]
 show wpAny _ _ (pure (((eF n 0 lo:Nat):Int),(1:Int),Builtin.Slice.slicePlaces ((eF n 0 lo:Nat):Int) ((eF n n hi:Nat):Int) 1)) _ _ s
 rw [sY]
 exact wpAny_pure h
theorem yL (xs:Array Value) (i k:Nat):((List.range k).filterMap fun (m:Nat)=>xs[((i:Int)+(m:Int)*1).toNat]?).toArray=((xs.toList.drop i).take k).toArray:=by
 have e:(fun (m:Nat)=>xs[((i:Int)+(m:Int)*1).toNat]?)=fun m=>xs[i+m]?:=by
  funext m
  have:((i:Int)+(m:Int)*1).toNat=i+m:=by omega
  rw [this]
 rw [e]
 have:=pick_run xs i k
 rw [List.filterMap_map] at this
 have e2:((fun x=>xs[x]?) ∘ fun x=>i+x)=fun m=>xs[i+m]?:=rfl
 rw [e2] at this
 rw [this]
theorem lD {t sl:Addr} {items:Array Value} {vl vu:Value} {lo hi:Option Int} {Q:Value->Shared->Prop} (ht:IsTup s.heap t items) (hs:s.heap.IsSliceOf sl vl vu .none) (pl:IsPart vl lo) (pu:IsPart vu hi)
 (hw:¬ (eF items.size 0 lo=0/\eF items.size items.size hi=items.size))
 (h:Q (.ref s.heap.objs.size) { s with heap:=s.heap.push { cls:=.type "tuple",data:=.seq ((items.toList.drop (eF items.size 0 lo)).take (eF items.size items.size hi-eF items.size 0 lo)).toArray } })
 (hsz:items.size≤sizeLine):wpAny (model prog w) A (getItem (.ref t) (.ref sl)) Q E s:=by
 have htake:sizeOk (.seq ((items.toList.drop (eF items.size 0 lo)).take (eF items.size items.size hi-eF items.size 0 lo)).toArray):=by
  show ((items.toList.drop (eF items.size 0 lo)).take (eF items.size items.size hi-eF items.size 0 lo)).toArray.size≤sizeLine
  rw [List.size_toArray,List.length_take,List.length_drop,Array.length_toList]
  omega
 have hj:eF items.size items.size hi≤items.size:=Fg _ _ (Nat.le_refl _) hi
 obtain ⟨os,hos,hcs,hds⟩:=id hs
 have hTs:s.TypeIs (.ref sl) "slice":=⟨os,hos,hcs⟩
 unfold getItem
 try with_reducible refine wpAny_holding ?_
 first|refine wpAny_bind (wpAny_pure ?_)|skip
 refine wpAny_bind (wpAny_sequenceKey ht.typeIs (by decide) ?_)
 refine wpAny_bind (wpAny_callSpecial?_slot (name:=Str.ofString "__getitem__") ht.typeIs PyProof.Rows.slot_tuple_getitem
  (wpAny_call_entry PyProof.Rows.slot_tuple_getitem ht.typeIs entry_tuple_getitem ?_ (args_tuple_getitem _ _)))
 show wpAny _ _ (Builtin.Tuple.tupleItemsOf (.ref t) >>= _) _ _ s
 refine wpAny_bind (tupleItemsOf_ ht ?_)
 refine wpAny_bind (wpAny_typeOf hTs ?_)
 rw [if_pos (by decide)]
 refine wpAny_bind (iB hs pl pu ?_)
 have hno:¬ ((((eF items.size 0 lo:Nat):Int) == 0 && (1:Int) == 1 && (eF items.size items.size hi-eF items.size 0 lo) == items.size)=true):=by
  intro q
  rw [Bool.and_eq_true,Bool.and_eq_true] at q
  have q1:((eF items.size 0 lo:Nat):Int)=0:=eq_of_beq q.1.1
  have q2:eF items.size items.size hi-eF items.size 0 lo=items.size:=eq_of_beq q.2
  exact hw ⟨by omega,by omega⟩
 show wpAny _ _ (if (((eF items.size 0 lo:Nat):Int) == 0 && (1:Int) == 1 && (eF items.size items.size hi-eF items.size 0 lo) == items.size)=true then _ else _) _ _ s
 rw [if_neg hno,yL]
 first
  |exact wpAny_bind (m:=Builtin.Tuple.tupleExact _) (wpAny_newObj_type (wpAny_pure ⟨_,rfl,wpAny_pure h⟩) htake)
  |exact wpAny_bind (m:=Builtin.Tuple.tupleExact _) (wpAny_newObj_type (wpAny_bind (wpAny_pure (wpAny_pure ⟨_,rfl,wpAny_pure h⟩))) htake)
  |exact wpAny_bind (wpAny_bind (m:=Builtin.Tuple.tupleExact _) (wpAny_newObj_type (wpAny_pure (wpAny_pure ⟨_,rfl,wpAny_pure h⟩)) htake))
  |exact wpAny_bind (wpAny_bind (m:=Builtin.Tuple.tupleExact _) (wpAny_newObj_type (wpAny_pure ⟨_,rfl,wpAny_pure h⟩) htake))
end
end HT
namespace L2
open PySem PySem.Spec PyProof.Rows
abbrev TO:=St->Hp->(Option Int->Hp->Prop)->Prop
def PO (X:Cx) (e:Option Expr) (t:TO):Prop:=
 ∀ (Z:List (Addr×Obj)) (s:Shared) (O:St) (H:Hp) (Q:Option Int->Hp->Prop),Inv X Z O H s->t O H Q->
   wpAny (model X.prog X.w) X.A (evalPart e X.env) (fun u s'=>∃ o H',Inv X Z O H' s'/\IsPart u o/\Q o H') X.xe s
def Bj:TO:=fun _ H Q=>Q none H
def IV (t:TE):TO:=fun O H Q=>t O H fun x H1=>∃ i,x=.int i/\Q (some i) H1
section
variable {X:Cx} {e:Expr} {te:TE} {lo hi:Option Expr} {tl th:TO} {pos p2:Pos}
theorem km:PO X none Bj:=by
 intro Z s O H Q I h
 rw [evalPart_none]
 exact wpAny_pure ⟨none,H,I,.none,h⟩
theorem kh (h:PE X e te):PO X (some e) (IV te):=by
 intro Z s O H Q I hw
 rw [evalPart_some]
 refine cj (h Z s O H _ I hw) fun u s1 ⟨x,H1,I1,r1,q1⟩=>?_
 obtain ⟨i,rfl,q⟩:=q1
 obtain ⟨t,rfl⟩:=r1
 exact ⟨some i,H1,I1,.int i t,q⟩
def Ke (X:Cx) (r:V->Option Int->Option Int->Hp->VK->Prop):Prop:=
 ∀ (Z:List (Addr×Obj)) (s:Shared) (O:St) (H:Hp) (x:V) (v vl vu:Value) (lo hi:Option Int) (sl:Addr) (Q:VK),Inv X Z O H s->RelV x v->s.heap.IsSliceOf sl vl vu .none->IsPart vl lo->IsPart vu hi->r x lo hi H Q->
   ∃ T id,typeLookup (.type T) "__getitem__" = pure (some (.builtin id))/\s.TypeIs v T/\wpAny (model X.prog X.w) X.A (getItem v (.ref sl)) (EP X Z O Q) X.xe s
def Q9 (r:V->Option Int->Option Int->Hp->VK->Prop) (te:TE) (tl th:TO):TE:=fun O H Q=>te O H fun x H1=>tl O H1 fun l H2=>th O H2 fun u H3=>r x l u H3 Q
theorem i_ {r:V->Option Int->Option Int->Hp->VK->Prop} (hr:Ke X r) (he:PE X e te) (hl:PO X lo tl) (hu:PO X hi th):PE X (.Subscript e (.Slice lo hi none p2) pos) (Q9 r te tl th):=by
 intro Z s O H Q I h
 refine Subscript_ (cj (he Z s O H _ I h) fun v s1 ⟨x,H1,I1,r1,q1⟩=>?_)
 refine wpAny_Slice (cj (hl Z s1 O H1 _ I1 q1) fun vl s2 ⟨l,H2,I2,pl,q2⟩=>cj (hu Z s2 O H2 _ I2 q2) fun vu s3 ⟨u,H3,I3,pu,q3⟩=>?_)
 rw [evalPart_none]
 refine wpAny_pure ?_
 have I4:Inv X Z O H3 { s3 with heap:=s3.heap.push { cls:=.type "slice",data:=.fields #[vl,vu,.none] } }:=I3.kept (t':=s3.toks) fun b ob q=>Heap.get?_push_of_some _ q
 obtain ⟨T,id,hT,ht,hg⟩:=hr Z { s3 with heap:=s3.heap.push { cls:=.type "slice",data:=.fields #[vl,vu,.none] } } O H3 x v vl vu l u s3.heap.objs.size Q I4 r1 (Heap.IsSliceOf.new ..) pl pu q3
 show wpAny (model X.prog X.w) X.A (subscriptTail e (.Slice lo hi none p2) v (.ref s3.heap.objs.size)) (EP X Z O Q) X.xe { s3 with heap:=s3.heap.push { cls:=.type "slice",data:=.fields #[vl,vu,.none] } }
 exact tail_any (ops:=[.ref s3.heap.objs.size,v]) ht hT hg (by with_unfolding_all rfl)
def oh (xs:List V) (lo hi:Option Int):List V:=(xs.drop (HT.eF xs.length 0 lo)).take (HT.eF xs.length xs.length hi-HT.eF xs.length 0 lo)
theorem m8 (xs:List V) (lo hi:Option Int):(oh xs lo hi).length≤xs.length:=by
 unfold oh
 rw [List.length_take,List.length_drop]
 omega
def MK (K:PySem.W.Frag):V->Option Int->Option Int->Hp->VK->Prop:=fun x lo hi H Q=>∃ a xs,x=.ref a/\cA K H a xs/\
 ¬ (HT.eF xs.length 0 lo=0/\HT.eF xs.length xs.length hi=xs.length)/\∀ p,H p=none->Q (.ref p) (upd H p (.tup (oh xs lo hi)))
theorem Dw:Ke X (MK X.K):=by
 intro Z s O H x v vl vu lo hi sl Q I rx hs pl pu h
 obtain ⟨a,xs,rfl,hx,hw,q⟩:=h
 cases rx
 obtain ⟨its,r,ht,hz⟩:=I.tuple hx
 have hlen:its.toArray.size=xs.length:=by rw [List.size_toArray];exact r.length.symm
 refine ⟨"tuple",_,PyProof.Rows.slot_tuple_getitem.lookup,ht.typeIs,?_⟩
 refine HT.lD ht hs pl pu (by rw [hlen];exact hw) ?_ (by rw [hlen];exact hz)
 rw [hlen]
 refine ⟨.ref s.heap.objs.size,_,I.laid (t':=s.toks) (o:=.tup (oh xs lo hi)) (fun b ob q=>Heap.get?_push_of_some _ q) (Nat.le_refl _) ?_,rfl,q _ (I.hok.fresh (Nat.le_refl _))⟩
 exact ⟨Nat.le_trans (m8 xs lo hi) hz,_,(r.drop (HT.eF xs.length 0 lo)).take (HT.eF xs.length xs.length hi-HT.eF xs.length 0 lo),IsTup.new _ _⟩
end
def CP (n:Nat) (i:Int):Option Nat:=if 0≤i then (if i<n then some i.toNat else none) else if -(n:Int)≤i then some (i+n).toNat else none
def mJ {α:Type} (xs:List α) (i:Int):Option α:=(CP xs.length i).bind fun j=>xs[j]?
theorem Ba {n:Nat} {i:Int} {j:Nat} (h:CP n i=some j):seqIndex? i n=some j/\j<n/\-(n:Int)≤i/\i<n:=by
 unfold CP at h
 by_cases h0:0≤i
 ·rw [if_pos h0] at h
  by_cases h1:i<n
  ·rw [if_pos h1] at h
   have e:i.toNat=j:=Option.some.inj h
   exact ⟨by rw [seqIndex_of h0 h1,e],by omega,by omega,h1⟩
  ·rw [if_neg h1] at h;cases h
 ·rw [if_neg h0] at h
  by_cases h1:-(n:Int)≤i
  ·rw [if_pos h1] at h
   have e:(i+n).toNat=j:=Option.some.inj h
   exact ⟨by rw [seqIndex_neg (by omega) h1,e],by omega,h1,by omega⟩
  ·rw [if_neg h1] at h;cases h
theorem qd {α:Type} {xs:List α} {i:Int} {v:α} (h:mJ xs i=some v):∃ j,seqIndex? i xs.length=some j/\xs[j]?=some v/\j<xs.length/\-(xs.length:Int)≤i/\i<xs.length:=by
 unfold mJ at h
 cases e:CP xs.length i with
 |none=>rw [e] at h;cases h
 | some j=>
   rw [e] at h
   obtain ⟨h1,h2,h3,h4⟩:=Ba e
   exact ⟨j,h1,h,h2,h3,h4⟩
theorem aL {α:Type} {xs:List α} {j:Nat} {v:α} (h:xs[j]?=some v):mJ xs (j:Int)=some v:=by
 have hj:j<xs.length:=(List.getElem?_eq_some_iff.mp h).1
 have e:CP xs.length (j:Int)=some j:=by
  unfold CP
  rw [if_pos (by omega),if_pos (by omega)];simp
 unfold mJ;rw [e];exact h
def B_ (b:Expr):Prop:=∀ o i,subscripted b false o i=operate [o,i] (getItem o i)
def Bt (X:Cx) (r:R2):Prop:=
 ∀ (value slice:Expr) (Z:List (Addr×Obj)) (s:Shared) (O:St) (H:Hp) (x y:V) (v u:Value) (Q:VK),Inv X Z O H s->RelV x v->RelV y u->r x y H Q->
   subscripted slice false v u=operate [v,u] (getItem v u)->wpAny (model X.prog X.w) X.A (subscriptTail value slice v u) (EP X Z O Q) X.xe s
def Qw (X:Cx) (id:String) (r:V->List V->Hp->VK->Prop):Prop:=
 ∀ (Z:List (Addr×Obj)) (s:Shared) (O:St) (H:Hp) (x:V) (xs:List V) (v:Value) (us:List Value) (Q:VK),Inv X Z O H s->RelV x v->Vals xs us->r x xs H Q->
   wpAny (model X.prog X.w) X.A (call (.builtin id) (v::us)) (EP X Z O Q) X.xe s
section
variable {X:Cx} {a b:Expr} {ta tb:TE} {pos:Pos}
theorem Bt.or {r r':R2} (h:Bt X r) (h':Bt X r'):Bt X (fun x y H Q=>r x y H Q∨r' x y H Q):=by
 intro value slice Z s O H x y v u Q I rx ry q hs
 rcases q with q|q
 ·exact h value slice Z s O H x y v u Q I rx ry q hs
 ·exact h' value slice Z s O H x y v u Q I rx ry q hs
theorem aY {r:R2} (hr:Bt X r) (ha:PE X a ta) (hb:PE X b tb) (hs:B_ b):PE X (.Subscript a b pos) (Hc r ta tb):=by
 intro Z s O H Q I h
 exact Subscript_ (G6 ha hb I h fun v u s2 x y H2 I2 rx ry q=>hr a b Z s2 O H2 x y v u Q I2 rx ry q (hs _ _))
def vC (K:PySem.W.Frag):R2:=fun x y H Q=>∃ p xs i v,x=.ref p/\y=.int i/\aQ K H p xs/\mJ xs i=some v/\Q v H
def G_ (K:PySem.W.Frag):R2:=fun x y H Q=>∃ p xs i v,x=.ref p/\y=.int i/\cA K H p xs/\mJ xs i=some v/\Q v H
def Iz:R2:=fun x y H Q=>∃ z i c,x=.str z/\y=.int i/\z.length≤sizeLine/\mJ z.cps.toList i=some c/\Q (.str ⟨#[c]⟩) H
theorem gf:Bt X (vC X.K):=by
 intro value slice Z s O H x y v u Q I rx ry h hs
 obtain ⟨p,xs,i,z,rfl,rfl,hq,he,q⟩:=h
 cases rx
 obtain ⟨t,rfl⟩:=ry
 obtain ⟨its,r,pl,hz⟩:=I.list hq
 obtain ⟨j,h1,h2,h3,h4,h5⟩:=qd he
 obtain ⟨w,ew,rw'⟩:=r.get h2
 have hl:=r.length
 have hn:=qm
 have fin:EP X Z O Q w s:=⟨z,H,I,rw',q⟩
 by_cases h0:0≤i
 ·have hj:i.toNat=j:=by
   rw [seqIndex_of h0 h5] at h1
   exact Option.some.inj h1
  exact item_listR pl.isList h0 (by omega) (by rw [hj];simpa using ew) fin hs
 ·have hj:(i+(its.toArray.size:Int)).toNat=j:=by
   rw [seqIndex_neg (by omega) h4] at h1
   rw [List.size_toArray,← hl]
   exact Option.some.inj h1
  exact subscriptTail_builtinR (x:=w) pl.isList.typeIs slot_list_getitem.lookup
   (wpAny_getItem_list_neg (Q:=fun r s'=>r=w/\EP X Z O Q r s') pl.isList (by omega) (by rw [List.size_toArray] <;> omega) (by omega) (by rw [hj];simpa using ew) ⟨rfl,fin⟩) hs
theorem qt:Bt X (G_ X.K):=by
 intro value slice Z s O H x y v u Q I rx ry h hs
 obtain ⟨p,xs,i,z,rfl,rfl,hq,he,q⟩:=h
 cases rx
 obtain ⟨t,rfl⟩:=ry
 obtain ⟨its,r,pl,hz⟩:=I.tuple hq
 obtain ⟨j,h1,h2,h3,h4,h5⟩:=qd he
 obtain ⟨w,ew,rw'⟩:=r.get h2
 have hl:=r.length
 have hn:=qm
 have fin:EP X Z O Q w s:=⟨z,H,I,rw',q⟩
 exact subscriptTail_builtinR (x:=w) pl.typeIs slot_tuple_getitem.lookup
  (getItem_tuple (j:=j) (Q:=fun r s'=>r=w/\EP X Z O Q r s') pl (by omega) (by omega) (by rw [List.size_toArray,← hl];exact h1) (by simpa using ew) ⟨rfl,fin⟩) hs
theorem Ff:Bt X Iz:=by
 intro value slice Z s O H x y v u Q I rx ry h hs
 obtain ⟨z,i,c,rfl,rfl,hz,he,q⟩:=h
 obtain ⟨t,rfl⟩:=rx
 obtain ⟨t',rfl⟩:=ry
 obtain ⟨j,h1,h2,h3,h4,h5⟩:=qd he
 have hl:z.cps.toList.length=z.length:=by simp [Str.length]
 rw [hl] at h1 h4 h5
 have hn:=qm
 exact tail_any (typeIs_str s z t) slot_str_getitem.lookup (getItem_str (c:=c) (by
  have e1:decide (i < -(2 ^ 63:Int))=false:=decide_eq_false (by omega)
  have e2:decide (i ≥ 2 ^ 63)=false:=decide_eq_false (by omega)
  rw [e1,e2,Bool.or_false]) (by rw [h1];simpa using h2) ⟨.str ⟨#[c]⟩,H,I.tok _,⟨_,rfl⟩,q⟩) hs
def fj (K:PySem.W.Frag):R2:=fun x y H Q=>vC K x y H Q∨G_ K x y H Q∨Iz x y H Q
theorem aV:Bt X (fj X.K):=gf.or (qt.or Ff)
theorem qi (lo hi:Option Int) (n:Nat):(sliceBounds lo hi none n).1=((HT.eF n 0 lo:Nat):Int)/\(sliceBounds lo hi none n).2.1=((HT.eF n n hi:Nat):Int)/\(sliceBounds lo hi none n).2.2=1:=by
 refine ⟨?_,?_,rfl⟩
 ·cases lo with
  |none=>simp [sliceBounds,HT.eF]
  | some i=>
    simp only [sliceBounds,HT.eF,Option.getD_none,show (1:Int) > 0 by decide,if_true]
    by_cases h:i<0
    ·simp only [h,if_true] <;> omega
    ·simp only [h,if_false] <;> omega
 ·cases hi with
  |none=>simp [sliceBounds,HT.eF]
  | some i=>
    simp only [sliceBounds,HT.eF,Option.getD_none,show (1:Int) > 0 by decide,if_true]
    by_cases h:i<0
    ·simp only [h,if_true] <;> omega
    ·simp only [h,if_false] <;> omega
theorem oM (its:List Value) (lo hi:Option Int):slicePick its.toArray lo hi none=((its.drop (HT.eF its.length 0 lo)).take (HT.eF its.length its.length hi-HT.eF its.length 0 lo)).toArray:=by
 obtain ⟨h1,h2,h3⟩:=qi lo hi its.toArray.size
 unfold slicePick
 rw [h1,h2,h3]
 simp only [sliceRange_one,pick_run,List.size_toArray] <;> rfl
def Lf (K:PySem.W.Frag):V->Option Int->Option Int->Hp->VK->Prop:=fun x lo hi H Q=>∃ a xs,x=.ref a/\aQ K H a xs/\∀ p,H p=none->Q (.ref p) (upd H p (.lst (oh xs lo hi)))
theorem uG:Ke X (Lf X.K):=by
 intro Z s O H x v vl vu lo hi sl Q I rx hs pl pu h
 obtain ⟨a,xs,rfl,hx,q⟩:=h
 cases rx
 obtain ⟨its,r,ht,hz⟩:=I.list hx
 have hlen:=r.length
 refine ⟨"list",_,slot_list_getitem.lookup,ht.isList.typeIs,?_⟩
 refine wpAny_getItem_list_slice ht.isList hs pl pu .none (by simp) ?_ (by rw [List.size_toArray] <;> omega)
 rw [oM,← hlen]
 refine ⟨.ref s.heap.objs.size,_,I.laid (t':=s.toks) (o:=.lst (oh xs lo hi)) (fun b ob q=>Heap.get?_push_of_some _ q) (Nat.le_refl _) ?_,rfl,q _ (I.hok.fresh (Nat.le_refl _))⟩
 exact ⟨Nat.le_trans (m8 xs lo hi) hz,_,0,(r.drop (HT.eF xs.length 0 lo)).take (HT.eF xs.length xs.length hi-HT.eF xs.length 0 lo),Heap.get?_push_size _ rfl⟩
def jC:V->Bool
 |.non=>true
 |.bl _=>true
 |.int _=>true
 |.str _=>true
 |_=>false
def Ac:V->V->Bool
 |.non,.non=>true
 |.bl a,.bl b=>a == b
 |.bl a,.int b=>(if a then 1 else 0) == b
 |.int a,.bl b=>a == (if b then 1 else 0)
 |.int a,.int b=>a == b
 |.str a,.str b=>a == b
 |_,_=>false
theorem Fd {A:Around} {s:Shared} {y x:V} {u v:Value} (ry:RelV y u) (rx:RelV x v) (fy:jC y=true) (fx:jC x=true):SeqAt.EqAt A s u v (Ac y x):=by
 cases y with
 | non=>
   cases ry
   cases x with
   |non=>cases rx;exact SeqAt.EqAt.same _
   |bl b=>cases rx;exact SeqAt.EqAt.none_bool b
   |int b=>obtain ⟨t,rfl⟩:=rx;exact SeqAt.EqAt.none_int b t
   |str b=>obtain ⟨t,rfl⟩:=rx;exact SeqAt.EqAt.none_str b t
   |_=>exact absurd (show false=true from fx) Bool.false_ne_true
 | bl a=>
   cases ry
   cases x with
   |non=>cases rx;exact SeqAt.EqAt.bool_none a
   |bl b=>cases rx;exact SeqAt.EqAt.bool_bool a b
   |int b=>obtain ⟨t,rfl⟩:=rx;exact SeqAt.EqAt.bool_int a b t
   |str b=>obtain ⟨t,rfl⟩:=rx;exact SeqAt.EqAt.bool_str a b t
   |_=>exact absurd (show false=true from fx) Bool.false_ne_true
 | int a=>
   obtain ⟨t',rfl⟩:=ry
   cases x with
   |non=>cases rx;exact SeqAt.EqAt.int_none a t'
   |bl b=>cases rx;exact SeqAt.EqAt.int_bool a t' b
   |int b=>obtain ⟨t,rfl⟩:=rx;exact SeqAt.EqAt.int_int a t' b t
   |str b=>obtain ⟨t,rfl⟩:=rx;exact SeqAt.EqAt.int_str a t' b t
   |_=>exact absurd (show false=true from fx) Bool.false_ne_true
 | str a=>
   obtain ⟨t',rfl⟩:=ry
   cases x with
   |non=>cases rx;exact SeqAt.EqAt.str_none a t'
   |bl b=>cases rx;exact SeqAt.EqAt.str_bool a t' b
   |int b=>obtain ⟨t,rfl⟩:=rx;exact SeqAt.EqAt.str_int a t' b t
   |str b=>obtain ⟨t,rfl⟩:=rx;exact SeqAt.EqAt.str_str a t' b t
   |_=>exact absurd (show false=true from fx) Bool.false_ne_true
 |_=>exact absurd (show false=true from fy) Bool.false_ne_true
def BK (x:V) (u:Value):Bool:=match u with
 |.none=>Ac .non x
 |.bool b=>Ac (.bl b) x
 |.int i _=>Ac (.int i) x
 |.str z _=>Ac (.str z) x
 |_=>false
theorem ye {x y:V} {u:Value} (r:RelV y u) (f:jC y=true):BK x u=Ac y x:=by
 cases y with
 |non=>cases r;rfl
 |bl b=>cases r;rfl
 |int i=>obtain ⟨t,rfl⟩:=r;rfl
 |str z=>obtain ⟨t,rfl⟩:=r;rfl
 |_=>exact absurd (show false=true from f) Bool.false_ne_true
theorem qu {x:V}:∀ {xs:List V} {us:List Value},Vals xs us->xs.all jC=true->us.any (BK x)=xs.any fun y=>Ac y x
 |_,_,.nil,_=>rfl
 | y::xs,u::us,.cons r t,f=>by
   rw [List.all_cons,Bool.and_eq_true] at f
   rw [List.any_cons,List.any_cons,ye r f.1,qu t f.2]
theorem nD {A:Around} {s:Shared} {x:V} {v:Value} (rx:RelV x v) (fx:jC x=true):∀ {xs:List V} {us:List Value},Vals xs us->xs.all jC=true->∀ u∈us,SeqAt.EqAt A s u v (BK x u)
 |_,_,.nil,_=>fun u hu=>by cases hu
 | y::xs,u::us,.cons r t,f=>fun u' hu=>by
   rw [List.all_cons,Bool.and_eq_true] at f
   rcases List.mem_cons.mp hu with rfl|hu
   ·rw [ye r f.1];exact Fd r rx f.1 fx
   ·exact nD rx fx t f.2 u' hu
def inV (x:V) (xs:List V):Bool:=xs.any fun y=>Ac y x
def NQ (K:PySem.W.Frag) (neg:Bool):R2:=fun x y H Q=>∃ p xs,y=.ref p/\(aQ K H p xs∨cA K H p xs)/\jC x=true/\xs.all jC=true/\Q (.bl (if neg then !inV x xs else inV x xs)) H
theorem v_:jy X (compareOp .In) (NQ X.K false):=by
 intro Z s O H x y v u Q I rx ry h
 obtain ⟨p,xs,rfl,hq,fx,fs,q⟩:=h
 cases ry
 rcases hq with hq|hq
 ·obtain ⟨its,r,pl,hz⟩:=I.list hq
  refine SeqAt.in_listAt (BK x) pl.isList (fun w hw=>nD rx fx r fs w (by simpa using hw)) ⟨.bl _,H,I,rfl,?_⟩
  rw [show its.toArray.any (BK x)=its.any (BK x) by simp,qu r fs]
  exact q
 ·obtain ⟨its,r,pl,hz⟩:=I.tuple hq
  refine SeqAt.in_tupleAt (BK x) pl (fun w hw=>nD rx fx r fs w (by simpa using hw)) ⟨.bl _,H,I,rfl,?_⟩
  rw [show its.toArray.any (BK x)=its.any (BK x) by simp,qu r fs]
  exact q
theorem aO:dH X (.builtin "len") (fun xs H Q=>∃ p ys,xs=[.ref p]/\(aQ X.K H p ys∨cA X.K H p ys)/\Q (.int ys.length) H):=by
 intro Z s O H xs us Q I r h
 obtain ⟨p,ys,rfl,hq,q⟩:=h
 obtain ⟨u,rfl,rx⟩:=vals1 r
 cases rx
 have hn:=qm
 rcases hq with hq|hq
 ·obtain ⟨its,r',pl,hz⟩:=I.list hq
  have hlen:=r'.length
  exact Calls.call_len_list pl.isList (by simp only [List.size_toArray] <;> omega) ⟨.int ys.length,H,I.tok _,⟨s.toks+1,by rw [List.size_toArray,hlen]⟩,q⟩
 ·obtain ⟨its,r',pl,hz⟩:=I.tuple hq
  have hlen:=r'.length
  exact len_tuple pl (by simp only [List.size_toArray] <;> omega) ⟨.int ys.length,H,I.tok _,⟨s.toks+1,by rw [List.size_toArray,hlen]⟩,q⟩
theorem kZ:dH X (.type "list") (fun xs H Q=>∃ p ys,xs=[.ref p]/\(aQ X.K H p ys∨cA X.K H p ys)/\∀ l,H l=none->Q (.ref l) (upd H l (.lst ys))):=by
 intro Z s O H xs us Q I r h
 obtain ⟨p,ys,rfl,hq,q⟩:=h
 obtain ⟨u,rfl,rx⟩:=vals1 r
 cases rx
 have fin:∀ (its:List Value),Vals ys its->ys.length≤sizeLine->∀ (h':Heap) (c':Nat),(∀ b o',s.heap.get? b=some o'->h'.get? b=some o')->
  h'.get? s.heap.objs.size=some { cls:=.type "list",dict:=none,data:=.seq its.toArray c',slots:=#[] }->EP X Z O Q (.ref s.heap.objs.size) { s with heap:=h' }:=fun its r' hz h' c' kp e=>
  ⟨.ref s.heap.objs.size,_,I.laid (t':=s.toks) kp (Nat.le_refl _) (show bZ X.prog X.w _ h' _ (.lst ys) from ⟨hz,its,c',r',e⟩),rfl,q _ (I.hok.fresh (Nat.le_refl _))⟩
 rcases hq with hq|hq
 ·obtain ⟨its,r',pl,hz⟩:=I.list hq
  have hlen:=r'.length
  obtain ⟨o,ho,hc,n,hd⟩:=pl.isList
  exact call_list_seq p (.inl rfl) ho hc hd (fun h' c' kp e=>fin its r' hz h' c' kp e) (by simp only [List.size_toArray] <;> omega)
 ·obtain ⟨its,r',pl,hz⟩:=I.tuple hq
  have hlen:=r'.length
  obtain ⟨o,ho,hc,n,hd⟩:=pl
  exact call_list_seq p (.inr rfl) ho hc hd (fun h' c' kp e=>fin its r' hz h' c' kp e) (by simp only [List.size_toArray] <;> omega)
def Q6 (K:PySem.W.Frag) (T:String) (x:V) (H:Hp):Prop:=match x with
 |.str _=>T = "str"
 |.int _=>T = "int"
 |.ref p=>(T = "list"/\∃ xs,aQ K H p xs)∨(T = "tuple"/\∃ o,K.lookup p=some o/\o.cls=.type "tuple"/\o.dict=none)∨
  (T = "dict"/\((∃ kvs,H p=some (.dK kvs))∨∃ kvs,H p=some (.dT kvs)))∨(T = "set"/\∃ S n,H p=some (.set S n))
 |_=>False
theorem Dn {Z:List (Addr×Obj)} {O:St} {H:Hp} {s:Shared} {T:String} {x:V} {v:Value} (I:Inv X Z O H s) (r:RelV x v) (ty:Q6 X.K T x H) :
 s.TypeIs v T/\∀ a,v=.ref a->∃ ob,s.heap.get? a=some ob/\ob.dict=none:=by
 cases x with
 | str z=>
   obtain ⟨t,rfl⟩:=r
   cases (show T = "str" from ty)
   exact ⟨typeIs_str s z t,fun _ e=>nomatch e⟩
 | int i=>
   obtain ⟨t,rfl⟩:=r
   cases (show T = "int" from ty)
   exact ⟨typeIs_int s i t,fun _ e=>nomatch e⟩
 | ref p=>
   cases r
   rcases ty with ⟨rfl,xs,hq⟩|⟨rfl,o,hk,hc,hd⟩|⟨rfl,hk⟩|⟨rfl,S,n,hk⟩
   ·obtain ⟨its,_,pl,_⟩:=I.list hq
    refine ⟨pl.isList.typeIs,fun a e=>?_⟩
    cases e
    obtain ⟨o,n,e,c,hd,_⟩:=pl
    exact ⟨o,e,hd⟩
   ·refine ⟨⟨o,I.kIn p o hk,hc⟩,fun a e=>?_⟩
    cases e
    exact ⟨o,I.kIn _ o hk,hd⟩
   ·have z:∃ o,s.heap.get? p=some o/\o.ExactDict:=by
     rcases hk with ⟨kvs,hk⟩|⟨kvs,hk⟩
     ·obtain ⟨_,_,_,_,o,_,_,e,ex,_⟩:=I.hok p _ hk
      exact ⟨o,e,ex⟩
     ·obtain ⟨_,_,_,_,o,_,_,e,ex,_⟩:=I.hok p _ hk
      exact ⟨o,e,ex⟩
    obtain ⟨o,e,ex⟩:=z
    refine ⟨⟨o,e,ex.1⟩,fun a e2=>?_⟩
    cases e2
    exact ⟨o,e,ex.2.1⟩
   ·obtain ⟨o,_,_,_,e,ex,_⟩:=I.hok p _ hk
    refine ⟨⟨o,e,ex.1⟩,fun a e2=>?_⟩
    cases e2
    exact ⟨o,e,ex.2.1⟩
 |_=>exact False.elim ty
def Qx (K:PySem.W.Frag) (T:String) (r:V->List V->Hp->VK->Prop) (to:TE) (t:TA):TE:=fun O H Q=>to O H fun x H1=>Q6 K T x H1/\t O H1 fun xs H2=>r x xs H2 Q
variable {o e:Expr} {es:List Expr} {to:TE} {t:TA} {name:Str} {apos cpos:Pos} {T id:String} {r:V->List V->Hp->VK->Prop}
theorem kJ (pa:PlainAttrs T) (slot:Slot T name id) (hty:typeOf (.builtin id)=pure (.type "method_descriptor")) (hm:Qw X id r) (ho:PE X o to) (ha:PA X (e::es) t)
 (hbase:attributeBase o name X.env (eval o X.env)=eval o X.env:=by rfl)
 (hfew:((backTo cpos (starEach (e::es) X.env)).all (fun x=>!x.1) && (backToKw cpos (keywordEach [] X.env)).all (fun x=>x.1.isSome)
  && decide ((e::es).length+([]:List Keyword).length+(if ([]:List Keyword).isEmpty then 0 else 1)<30))=true:=by rfl)
 (hline:(apos.endLine == cpos.line)=true:=by rfl) (hs:starEach (e::es) X.env=(false,eval e X.env)::starEach es X.env:=by rfl) (hplain:(backTo cpos (starEach es X.env)).any (·.1)=false:=by rfl) :
 PE X (.Call (.Attribute o name apos) (e::es) [] cpos) (Qx X.K T r to t):=by
 intro Z s O H Q I h
 refine wpAny_Call_method_late hbase hfew hline rfl (cj (ho Z s O H _ I h) fun v s1 ⟨x,H1,I1,r1,ty,q1⟩=>?_)
 obtain ⟨h1,h2⟩:=Dn I1 r1 ty
 refine ⟨T,id,pa,slot,hty,h1,h2,?_⟩
 have hA:=ha cpos Z s1 O H1 _ I1 q1
 rw [hs] at hA ⊢
 refine Calls.callWith_builtin (by show (false || (backTo cpos (starEach es X.env)).any (·.1))=false;rw [hplain] <;> rfl) (Calls.evalArgs_plain ?_)
 exact cj hA fun us s2 ⟨vs,H2,I2,r2,q2⟩=>hm Z s2 O H2 x vs v us Q I2 r1 r2 q2
end
def NZ (X:Cx) (id:String) (r:V->List V->Hp->VK->Prop):Prop:=
 ∀ (Z:List (Addr×Obj)) (s:Shared) (O:St) (H:Hp) (x:V) (xs:List V) (v:Value) (us:List Value) (Q:VK),Inv X Z O H s->RelV x v->Vals xs us->r x xs H Q->
   wpAny (model X.prog X.w) X.A (call (.builtin id) (v::us)) (EP X Z O Q) X.xe s
theorem Vals.one:∀ {x:V} {us:List Value},Vals [x] us->∃ u,us=[u]/\RelV x u
 |_,_,.cons r .nil=>⟨_,rfl,r⟩
section
variable {X:Cx} {Z:List (Addr×Obj)} {O:St} {H:Hp} {s:Shared} {l b:Addr} {xs ys zs:List V}
theorem Inv.lset {its its':List Value} {n:Nat} {f:Array Value->Array Value} {t':Nat} (I:Inv X Z O H s) (hH:H l=some (.lst xs))
 (e:s.heap.get? l=some { cls:=.type "list",data:=.seq its.toArray n }) (hf:f its.toArray=its'.toArray) (hv:Vals ys its') (hz:ys.length≤sizeLine) :
 Inv X Z O (upd H l (.lst ys)) { s with heap:=s.heap.update l (Obj.mapSeq f),toks:=t' }:=by
 have q:=PySem.IsL.update e f
 rw [hf] at q
 refine I.write (x:=l) (e:=l) (by rw [hH];exact trivial) (.inl rfl) (fun b' u hb hu=>(Heap.get?_update_other s.heap (Obj.mapSeq f) (Ne.symm hb)).trans hu) ⟨_,q⟩ ?_
 exact ⟨hz,its',_,hv,q⟩
theorem Inv.lnew {its:List Value} {t':Nat} (I:Inv X Z O H s) (hv:Vals ys its) (hz:ys.length≤sizeLine) :
 Inv X Z O (upd H s.heap.objs.size (.lst ys)) { s with heap:=s.heap.push { cls:=.type "list",data:=.seq its.toArray },toks:=t' }:=
 I.laid (fun _ _ q=>Heap.get?_push_of_some _ q) (Nat.le_refl _) ⟨hz,its,0,hv,Heap.get?_push_size _ rfl⟩
theorem Inv.fresh (I:Inv X Z O H s):H s.heap.objs.size=none:=I.hok.fresh (Nat.le_refl _)
theorem Inv.lstM (I:Inv X Z O H s) (hH:H l=some (.lst xs)):xs.length≤sizeLine/\∃ (its:List Value) (n:Nat),Vals xs its/\xs.length=its.length/\s.heap.get? l=some { cls:=.type "list",data:=.seq its.toArray n }:=by
 obtain ⟨z,its,n,r,e⟩:=I.hok l _ hH
 exact ⟨z,its,n,r,r.length,e⟩
theorem zm {n:Nat} (h:n≤sizeLine):Builtin.List.listTooLong n=false:=by
 unfold Builtin.List.listTooLong
 exact decide_eq_false (by omega)
end
section
variable {X:Cx}
def Ab:V->List V->Hp->VK->Prop:=fun x vs H Q=>∃ l xs y,x=.ref l/\vs=[y]/\H l=some (.lst xs)/\xs.length<sizeLine/\Q .non (upd H l (.lst (xs++[y])))
theorem dO:NZ X "list.append" Ab:=by
 intro Z s O H x vs v us Q I rx rv h
 obtain ⟨l,xs,y,rfl,rfl,hH,hz,q⟩:=h
 cases rx
 obtain ⟨u,rfl,ru⟩:=rv.one
 obtain ⟨z,its,n,r,hl,e⟩:=I.lstM hH
 refine call_meets F.slot_list_append ⟨_,e,rfl⟩ F.entry_list_append (F.args_list_append_2 _ _) (PySem.list_append l its.toArray n u (by rw [List.size_toArray];omega)) ⟨e,?_⟩
 refine ⟨.non,_,I.lset (its':=its++[u]) hH e (by simp) (r.append (.cons ru .nil)) ?_,rfl,q⟩
 rw [List.length_append,List.length_singleton]
 omega
def Aj:V->List V->Hp->VK->Prop:=fun x vs H Q=>∃ l b xs zs,x=.ref l/\vs=[.ref b]/\H l=some (.lst xs)/\H b=some (.lst zs)/\xs.length+zs.length≤sizeLine/\Q .non (upd H l (.lst (xs++zs)))
theorem xF:NZ X "list.extend" Aj:=by
 intro Z s O H x vs v us Q I rx rv h
 obtain ⟨l,b,xs,zs,rfl,rfl,hH,hB,hz,q⟩:=h
 cases rx
 obtain ⟨u,rfl,ru⟩:=rv.one
 cases ru
 obtain ⟨z,its,n,r,hl,e⟩:=I.lstM hH
 obtain ⟨z2,its2,n2,r2,hl2,e2⟩:=I.lstM hB
 have hsz:its.toArray.size+its2.toArray.size≤sizeLine:=by rw [List.size_toArray,List.size_toArray];omega
 have hlong:¬ (!its.toArray.isEmpty && Builtin.List.listTooLong (its.toArray.size+its2.toArray.size))=true:=by
  rw [zm hsz,Bool.and_false]
  exact Bool.false_ne_true
 refine call_meets F.slot_list_extend ⟨_,e,rfl⟩ F.entry_list_extend (F.args_list_extend_2 _ _)
  (AutoSeq1.list_extend_list_list_0 l its.toArray n b its2.toArray n2 hlong (by rw [List.size_toArray];omega) (by omega)) ⟨e,e2,?_⟩
 refine ⟨.non,_,I.lset (its':=its++its2) hH e (by simp) (r.append r2) ?_,rfl,q⟩
 rw [List.length_append]
 omega
def Ln:R2:=fun x y H Q=>∃ l b xs zs,x=.ref l/\y=.ref b/\H l=some (.lst xs)/\H b=some (.lst zs)/\xs.length+zs.length≤sizeLine/\∀ p,H p=none->Q (.ref p) (upd H p (.lst (xs++zs)))
theorem jK:jy X (binaryOp .Add) Ln:=by
 intro Z s O H x y v u Q I rx ry h
 obtain ⟨l,b,xs,zs,rfl,rfl,hH,hB,hz,q⟩:=h
 cases rx
 cases ry
 obtain ⟨z,its,n,r,hl,e⟩:=I.lstM hH
 obtain ⟨z2,its2,n2,r2,hl2,e2⟩:=I.lstM hB
 refine PySem.P.add_list e e2 ?_ (by rw [List.size_toArray,List.size_toArray];omega)
 have ea:its.toArray++its2.toArray=(its++its2).toArray:=by simp
 rw [ea]
 exact ⟨.ref _,_,I.lnew (t':=s.toks) (r.append r2) (by rw [List.length_append];omega),rfl,q _ I.fresh⟩
end
section
variable {prog:Program} {w:World} {A:Around} {E:Value->Shared->Prop} {s:Shared}
end
section
variable {X:Cx}
end
section
variable {κ:Type} [DecidableEq κ]
def dJ (kvs:List (κ×V)) (k:κ):Option V:=(kvs.find? fun kv=>decide (kv.1=k)).map (·.2)
def putK (kvs:List (κ×V)) (k:κ) (v:V):List (κ×V):=
 if (kvs.any fun kv=>decide (kv.1=k))=true then kvs.map (fun kv=>if kv.1=k then (kv.1,v) else kv) else kvs++[(k,v)]
theorem dz {p:κ×V} {r:List (κ×V)} {k:κ} (e:p.1=k):dJ (p::r) k=some p.2:=by simp [dJ,List.find?_cons,e]
theorem dq {p:κ×V} {r:List (κ×V)} {k:κ} (e:¬ p.1=k):dJ (p::r) k=dJ r k:=by simp [dJ,List.find?_cons,e]
theorem iW (k:κ):∀ kvs:List (κ×V),(kvs.any fun kv=>decide (kv.1=k))=(dJ kvs k).isSome
 |[]=>rfl
 | p::r=>by
   rw [List.any_cons]
   by_cases e:p.1=k
   ·simp only [dz e,decide_eq_true e,Bool.true_or,Option.isSome_some]
   ·rw [dq e,decide_eq_false e,Bool.false_or];exact iW k r
theorem rO (k j:κ) (y:V):∀ kvs:List (κ×V),dJ (kvs.map fun kv=>if kv.1=k then (kv.1,y) else kv) j=(dJ kvs j).map fun x=>if j=k then y else x
 |[]=>rfl
 | p::r=>by
   have ih:=rO k j y r
   rw [List.map_cons]
   by_cases h:p.1=k
   ·rw [if_pos h]
    by_cases e:p.1=j
    ·rw [dz (p:=(p.1,y)) e,dz e,Option.map_some,if_pos (e.symm.trans h)]
    ·rw [dq (p:=(p.1,y)) e,dq e,ih]
   ·rw [if_neg h]
    by_cases e:p.1=j
    ·rw [dz (p:=p) e,dz e,Option.map_some,if_neg (fun z=>h (e.trans z))]
    ·rw [dq (p:=p) e,dq e,ih]
theorem pq (k j:κ) (y:V):∀ kvs:List (κ×V),dJ kvs k=none->dJ (kvs++[(k,y)]) j=if j=k then some y else dJ kvs j
 | [],_=>by
   by_cases e:k=j
   ·rw [if_pos e.symm];exact dz (p:=(k,y)) e
   ·rw [if_neg (fun z=>e z.symm)];exact dq (p:=(k,y)) e
 | p::r,hn=>by
   rw [List.cons_append]
   have hk:¬ p.1=k:=fun z=>by rw [dz z] at hn;cases hn
   rw [dq hk] at hn
   have ih:=pq k j y r hn
   by_cases e:p.1=j
   ·rw [dz e,dz e,if_neg (fun z=>hk (e.trans z))]
   ·rw [dq e,dq e,ih]
theorem nP (kvs:List (κ×V)) (k j:κ) (y:V):dJ (putK kvs k y) j=if j=k then some y else dJ kvs j:=by
 unfold putK
 by_cases a:(kvs.any fun kv=>decide (kv.1=k))=true
 ·rw [if_pos a,rO]
  rw [iW] at a
  by_cases e:j=k
  ·obtain ⟨x,hx⟩:=Option.isSome_iff_exists.mp a
   rw [if_pos e,e,hx,Option.map_some,if_pos rfl]
  ·rw [if_neg e]
   cases dJ kvs j with
   |none=>rfl
   |some x=>rw [Option.map_some,if_neg e]
 ·rw [if_neg a]
  refine pq k j y kvs ?_
  rw [iW] at a
  cases q:dJ kvs k with
  |none=>rfl
  |some x=>rw [q] at a;exact (a rfl).elim
theorem eV (kvs:List (κ×V)) (k:κ) (v:V):(putK kvs k v).length≤kvs.length+1:=by
 unfold putK
 split
 ·rw [List.length_map];omega
 ·rw [List.length_append,List.length_cons,List.length_nil];omega
theorem yW {kvs:List (κ×V)} {k:κ} (v:V) (h:dJ kvs k=none):putK kvs k v=kvs++[(k,v)]:=by
 unfold putK
 rw [iW,h]
 exact if_neg (by decide)
theorem lF.isSome_eq {o:Option V} {u:Option Value} (r:lF o u):o.isSome=u.isSome:=by
 cases o with
 | none=>cases u with
   |none=>rfl
   |some _=>exact (show False from r).elim
 | some _=>cases u with
   |none=>exact (show False from r).elim
   |some _=>rfl
theorem KV.val {kvs:List (κ×V)} {vs:List (κ×Value)} (r:KV kvs vs) (k:κ):lF (dJ kvs k) (valueAt vs k):=by
 unfold KV at r
 induction r with
 |nil=>exact True.intro
 | @cons p q ps qs h t ih=>
   obtain ⟨h1,h2⟩:=h
   by_cases e:p.1=k
   ·have e':q.1=k:=h1.symm.trans e
    have b:valueAt (q::qs) k=some q.2:=by simp [valueAt,List.find?_cons,e']
    rw [dz e,b];exact h2
   ·have e':¬ q.1=k:=fun z=>e (h1.trans z)
    have b:valueAt (q::qs) k=valueAt qs k:=by simp [valueAt,List.find?_cons,e']
    rw [dq e,b];exact ih
theorem KV.any {kvs:List (κ×V)} {vs:List (κ×Value)} (r:KV kvs vs) (k:κ):(kvs.any fun kv=>decide (kv.1=k))=vs.any fun kv=>decide (kv.1=k):=by
 unfold KV at r
 induction r with
 |nil=>rfl
 |cons h t ih=>rw [List.any_cons,List.any_cons,ih,h.1]
theorem KV.repl {kvs:List (κ×V)} {vs:List (κ×Value)} (r:KV kvs vs) (k:κ) {y:V} {u:Value} (ry:RelV y u) :
 KV (kvs.map fun kv=>if kv.1=k then (kv.1,y) else kv) (vs.map fun kv=>if kv.1=k then (kv.1,u) else kv):=by
 unfold KV at r ⊢
 induction r with
 |nil=>exact .nil
 | @cons p q ps qs h t ih=>
   rw [List.map_cons,List.map_cons]
   refine .cons ?_ ih
   obtain ⟨h1,h2⟩:=h
   by_cases e:p.1=k
   ·rw [if_pos e,if_pos (h1.symm.trans e)];exact ⟨h1,ry⟩
   ·rw [if_neg e,if_neg (fun z=>e (h1.trans z))];exact ⟨h1,h2⟩
theorem KV.put {kvs:List (κ×V)} {vs:List (κ×Value)} (r:KV kvs vs) (k:κ) {y:V} {u:Value} (ry:RelV y u):KV (putK kvs k y) (stored vs k u):=by
 unfold putK stored
 rw [r.any k]
 by_cases e:(vs.any fun kv=>decide (kv.1=k))=true
 ·rw [if_pos e,if_pos e];exact r.repl k ry
 ·rw [if_neg e,if_neg e];exact Paired.snoc r ⟨rfl,ry⟩
theorem KV.length {kvs:List (κ×V)} {vs:List (κ×Value)} (r:KV kvs vs):kvs.length=vs.length:=Paired.length r
end
theorem sI {P:Program} {w:World} {k:Key} {u:Value} (r:RelV (kV k) u):(cW P w).is k u=true:=by
 cases k with
 |inl i=>obtain ⟨t,e⟩:=(show ∃ t,u=Value.int i t from r);subst e;exact qQ P w i t
 |inr x=>obtain ⟨t,e⟩:=(show ∃ t,u=Value.str x t from r);subst e;exact sr P w x t
theorem pD {P:Program} {w:World}:∀ {ks:List Key} {us:List Value},Vals (ks.map kV) us->ItemsAre (cW P w) ks us
 |[],_,r=>by rw [List.map_nil] at r;cases r;exact .nil
 | k::ks,_,r=>by
   rw [List.map_cons] at r
   cases r with
   |cons h t=>exact .cons (sI h) (pD t)
abbrev KT (H:Hp):List (List Key×V)->List (List Key×Addr×Value)->Prop:=Paired fun p q=>p.1=q.1/\H q.2.1=some (.tup (p.1.map kV))/\RelV p.2 q.2.2
theorem KT.val {H:Hp} {kvs:List (List Key×V)} {xs:List (List Key×Addr×Value)} (r:KT H kvs xs) (k:List Key):lF (dJ kvs k) ((atKey xs k).map (·.2)):=by
 induction r with
 |nil=>exact True.intro
 | @cons p q ps qs h t ih=>
   obtain ⟨h1,_,h2⟩:=h
   by_cases e:p.1=k
   ·have e':q.1=k:=h1.symm.trans e
    have b:atKey (q::qs) k=some q.2:=by simp [atKey,List.find?_cons,e']
    rw [dz e,b];exact h2
   ·have e':¬ q.1=k:=fun z=>e (h1.trans z)
    have b:atKey (q::qs) k=atKey qs k:=by simp [atKey,List.find?_cons,e']
    rw [dq e,b];exact ih
theorem KT.repl {H:Hp} {kvs:List (List Key×V)} {xs:List (List Key×Addr×Value)} (r:KT H kvs xs) (k:List Key) {y:V} {u:Value} (ry:RelV y u) :
 KT H (kvs.map fun kv=>if kv.1=k then (kv.1,y) else kv) (xs.map (putAt k u)):=by
 induction r with
 |nil=>exact .nil
 | @cons p q ps qs h t ih=>
   rw [List.map_cons,List.map_cons]
   refine .cons ?_ ih
   obtain ⟨h1,h2,h3⟩:=h
   unfold putAt
   by_cases e:p.1=k
   ·rw [if_pos e,if_pos (h1.symm.trans e)];exact ⟨h1,h2,ry⟩
   ·rw [if_neg e,if_neg (fun z=>e (h1.trans z))];exact ⟨h1,h2,h3⟩
theorem KT.put {H:Hp} {kvs:List (List Key×V)} {xs:List (List Key×Addr×Value)} (r:KT H kvs xs) (k:List Key) {b:Addr} {y:V} {u:Value} (hb:H b=some (.tup (k.map kV))) (ry:RelV y u) :
 KT H (putK kvs k y) (storedH xs k b u):=by
 have e:(kvs.any fun kv=>decide (kv.1=k))=(atKey xs k).isSome:=by
  rw [iW,(r.val k).isSome_eq,Option.isSome_map]
 unfold putK storedH
 rw [e]
 by_cases q:(atKey xs k).isSome=true
 ·rw [if_pos q,if_pos q];exact r.repl k ry
 ·rw [if_neg q,if_neg q];exact Paired.snoc r ⟨rfl,hb,ry⟩
theorem KT.keeps {H H':Hp} {kvs:List (List Key×V)} {xs:List (List Key×Addr×Value)} (r:KT H kvs xs) (ht:∀ b ys,H b=some (.tup ys)->H' b=some (.tup ys)):KT H' kvs xs:=
 Paired.mapP r fun _ _ z=>⟨z.1,ht _ _ z.2.1,z.2.2⟩
section
variable {P:Program} {w:World} {H:Hp} {h:Heap} {a:Addr}
theorem CQ {u:HO} (ok:iZ P w H h) (e:Rd H a u):bZ P w H h a u:=e.ok ok
theorem u_ {kvs:List (Key×V)} (ok:iZ P w H h) (e:Rd H a (.dK kvs)):kvs.length≤sizeLine/\(a == sysModules)=false/\∃ vs,KV kvs vs/\h.DictOf (cW P w) a vs:=
 show bZ P w H h a (.dK kvs) from CQ ok e
theorem yR {kvs:List (Key×V)} (ok:iZ P w H h) (e:H a=some (.dK kvs)):kvs.length≤sizeLine/\(a == sysModules)=false/\∃ vs,KV kvs vs/\h.DictOf (cW P w) a vs:=u_ ok (.inl e)
theorem tG {ks:List Key} (ok:iZ P w H h) (e:H a=some (.tup (ks.map kV))):(tupleKind (cW P w)).is h ks a:=by
 obtain ⟨_,its,r,o,h1,h2,n,h3⟩:=(show bZ P w H h a (.tup (ks.map kV)) from ok a _ e)
 exact ⟨o,its.toArray,n,h1,h2,h3,by simpa using pD r⟩
theorem yg {kvs:List (List Key×V)} (ok:iZ P w H h) (e:Rd H a (.dT kvs)):kvs.length≤sizeLine/\(a == sysModules)=false/\
 ∃ xs,KT H kvs xs/\h.DictOfH (tupleKind (cW P w)) a xs:=by
 obtain ⟨z,y,xs,r,o,es,ep,h1,h2,h3,h4,h5⟩:=(show bZ P w H h a (.dT kvs) from CQ ok e)
 refine ⟨z,y,xs,r,o,es,ep,h1,h2,h3,h4,fun x hx=>?_,h5⟩
 have all:∀ {l:List (List Key×V)} {m:List (List Key×Addr×Value)},KT H l m->∀ x∈m,(tupleKind (cW P w)).is h x.1 x.2.1:=by
  intro l m q
  induction q with
  |nil=>intro x hx;exact nomatch hx
  | @cons p q ps qs hq t ih=>
    intro x hx
    rcases List.mem_cons.mp hx with e|hx
    ·subst e
     exact tG ok (by rw [← hq.1];exact hq.2.1)
    ·exact ih x hx
 exact all r x hx
theorem Hd {kvs:List (List Key×V)} (ok:iZ P w H h) (e:H a=some (.dT kvs)):kvs.length≤sizeLine/\(a == sysModules)=false/\
 ∃ xs,KT H kvs xs/\h.DictOfH (tupleKind (cW P w)) a xs:=yg ok (.inl e)
end
def jN (H:Hp) (a:Addr) (y:V) (r:Option V):Prop:=
 (∃ kvs k,Rd H a (.dK kvs)/\y=kV k/\r=dJ kvs k)∨∃ kvs k b,Rd H a (.dT kvs)/\y=.ref b/\H b=some (.tup (k.map kV))/\r=dJ kvs k
def mV (H:Hp) (a:Addr) (y v:V) (H':Hp):Prop:=
 (∃ kvs k,H a=some (.dK kvs)/\y=kV k/\kvs.length<sizeLine/\H'=upd H a (.dK (putK kvs k v)))∨
 ∃ kvs k b,H a=some (.dT kvs)/\y=.ref b/\H b=some (.tup (k.map kV))/\kvs.length<sizeLine/\H'=upd H a (.dT (putK kvs k v))
theorem jN.k {H:Hp} {a:Addr} {kvs:List (Key×V)} {k:Key} (e:H a=some (.dK kvs)):jN H a (kV k) (dJ kvs k):=.inl ⟨kvs,k,.inl e,rfl,rfl⟩
theorem mV.k {H:Hp} {a:Addr} {kvs:List (Key×V)} {k:Key} {v:V} (e:H a=some (.dK kvs)) (hl:kvs.length<sizeLine):mV H a (kV k) v (upd H a (.dK (putK kvs k v))):=.inl ⟨kvs,k,e,rfl,hl,rfl⟩
section
variable {X:Cx} {Z:List (Addr×Obj)} {O:St} {H:Hp} {s:Shared} {a:Addr} {y v:V} {u r:Value} {o:Option V} {A:Around} {E:Value->Shared->Prop}
theorem Inv.big (I:Inv X Z O H s):sysModules<s.heap.objs.size:=by
 have h:mainGlobals<s.heap.objs.size:=(I.mod.glob.keeps I.bk).lt
 exact Nat.lt_trans (by decide) h
theorem wk {Q:Value->Shared->Prop} (hu:A.units+1<cLine) (I:Inv X Z O H s) (g:jN H a y (some v)) (ry:RelV y u) (h:∀ w' s',Inv X Z O H s'->RelV v w'->Q w' s') :
 wpAny (model X.prog X.w) A (getItem (.ref a) u) Q E s:=by
 rcases g with ⟨kvs,k,e,ey,l⟩|⟨kvs,k,b,e,ey,eb,l⟩
 ·subst ey
  obtain ⟨z,hd,vs,rel,dd⟩:=u_ I.hok e
  obtain ⟨w',hw,rw'⟩:=lF.some_of (v:=v) (o:=valueAt vs k) (by rw [l];exact rel.val k)
  exact wpAny_getItem_of (sI ry) dd.mapOf hw (h w' _ (I.tok _) rw')
 ·subst ey
  cases (show u=Value.ref b from ry)
  obtain ⟨z,hd,xs,rel,dd⟩:=yg I.hok e
  obtain ⟨w',hw,rw'⟩:=lF.some_of (v:=v) (o:=(atKey xs k).map (·.2)) (by rw [l];exact rel.val k)
  obtain ⟨p,hp,hp2⟩:=Option.map_eq_some_iff.mp hw
  refine wpAny_getItem_heap (tupleKind_room_in1 hu) (tG I.hok eb) dd hp ?_
  rw [hp2]
  exact h w' _ (I.tok _) rw'
theorem mK {h':Heap} {t':Nat} {ob:HO} (I:Inv X Z O H s) (mu:JX (H a)) (hs:Heap.SameBut a s.heap h') (he:∃ q,h'.get? a=some q) (new:bZ X.prog X.w (upd H a ob) h' a ob) :
 Inv X Z O (upd H a ob) { s with heap:=h',toks:=t' }:=
 I.write (x:=a) (e:=a) mu (.inl rfl) (fun b q hb z=>(hs.2 b hb).trans z) he new
theorem uq {P:Program} {w:World} {H':Hp} {h':Heap} {kvs:List (Key×V)} {vs:List (Key×Value)} (z:kvs.length≤sizeLine) (hd:(a == sysModules)=false) (rel:KV kvs vs) (dd:h'.DictOf (cW P w) a vs) :
 bZ P w H' h' a (.dK kvs):=⟨z,hd,vs,rel,dd⟩
theorem wX {H':Hp} {Q:Unit->Shared->Prop} (hu:A.units+1<cLine) (I:Inv X Z O H s) (g:mV H a y v H') (ry:RelV y u) (rv:RelV v r) (h:∀ s',Inv X Z O H' s'->Q () s') :
 wpAny (model X.prog X.w) A (setItem (.ref a) u r) Q E s:=by
 rcases g with ⟨kvs,k,e,ey,l,eH⟩|⟨kvs,k,b,e,ey,eb,l,eH⟩
 ·subst ey eH
  obtain ⟨z,hd,vs,rel,dd⟩:=yR I.hok e
  have hz:vs.length≤sizeLine:=by rw [← rel.length];exact z
  have hl:(putK kvs k v).length≤sizeLine:=by have:=eV kvs k v;omega
  refine wpAny_setItem_pairs (hsz:=hz) (sI ry) dd fun h' dd' hs=>h _ ?_
  have he:∃ q,h'.get? a=some q:=let ⟨q,_,_,hq,_⟩:=dd';⟨q,hq⟩
  exact mK I (by rw [e];exact True.intro) hs he (uq hl hd (rel.put k rv) dd')
 ·subst ey eH
  cases (show u=Value.ref b from ry)
  obtain ⟨z,hd,xs,rel,dd⟩:=Hd I.hok e
  have hz:xs.length≤sizeLine:=by rw [← Paired.length rel];exact z
  have hl:(putK kvs k v).length≤sizeLine:=by have:=eV kvs k v;omega
  refine wpAny_setItem_heap (hsz:=hz) (tupleKind_room_in1 hu) (tG I.hok eb) dd fun h' dd' hs=>h _ ?_
  obtain ⟨q,es,ep,hq,h2,h3,h4,_,h5⟩:=dd'
  refine mK I (by rw [e];exact True.intro) hs ⟨q,hq⟩ ⟨hl,hd,_,(rel.put k eb rv).keeps fun c ys ec=>?_,q,es,ep,hq,h2,h3,h4,h5⟩
  rw [aA (fV ec e (fun z=>nomatch z))]
  exact ec
end
section
variable {X:Cx} {Z:List (Addr×Obj)} {O:St} {H:Hp} {s:Shared} {a:Addr} {kvs:List (Key×V)} {k:Key} {u:Value} {A:Around} {E:Value->Shared->Prop}
theorem K5 {Q:Value->Shared->Prop} (I:Inv X Z O H s) (e:Rd H a (.dK kvs)) (h:∀ t s',Inv X Z O H s'->Q (.int kvs.length t) s'):wpAny (model X.prog X.w) A (call (.builtin "len") [.ref a]) Q E s:=by
 obtain ⟨z,hd,vs,rel,dd⟩:=u_ I.hok e
 refine call_len_dict hd dd (by rw [← rel.length];rw [sizeLine_eq] at z;omega) ?_
 rw [← rel.length]
 exact h _ _ (I.tok _)
end
def Jy (i:Expr):Prop:=∀ ov iv,subscripted i false ov iv=operate [ov,iv] (getItem ov iv)
theorem BV {prog:Program} {w:World} {A:Around} {E:Value->Shared->Prop} {s:Shared} {env:Env} {value slice:Expr} {pos:Pos} {T id:String} {Q:Value->Shared->Prop}
 (hl:typeLookup (.type T) "__getitem__" = pure (some (.builtin id))) (hs:Jy slice)
 (h:wpAny (model prog w) A (eval value env) (fun o s₁=>wpAny (model prog w) A (eval slice env) (fun i s₂=>s₂.TypeIs o T/\wpAny (model prog w) A (getItem o i) Q E s₂) E s₁) E s) :
 wpAny (model prog w) A (eval (.Subscript value slice pos) env) Q E s:=by
 refine Subscript_ (wpAny_mono h (fun o s₁ h₁=>wpAny_mono h₁ (fun i s₂ h₂=>?_) fun _ _ x=>x) fun _ _ x=>x)
 obtain ⟨hT,h₂⟩:=h₂
 unfold subscriptTail
 refine wpAny_bind ?_
 rw [getitemInPython_of_ne hT.not_modules]
 refine wpAny_bind (wpAny_specialOf hT hl ?_)
 have fin:wpAny (model prog w) A (subscripted slice false o i) (fun r s₃=>wpAny (model prog w) A (letTemporaryGo value o r >>= fun _=>pure r) Q E s₃) E s₂:=by
  rw [hs o i]
  exact wpAny_operating (wpAny_mono h₂ (fun r s₃ h₃=>wpAny_bind (wpAny_letTemporaryGo (wpAny_pure h₃))) fun _ _ x=>x)
 first
  |exact wpAny_pure (wpAny_bind fin)
  |exact wpAny_bind (wpAny_pure (wpAny_bind fin))
  |exact wpAny_bind fin
theorem rY {X:Cx} {Z:List (Addr×Obj)} {O:St} {H:Hp} {s:Shared} {a:Addr} {y:V} {o:Option V} (I:Inv X Z O H s) (g:jN H a y o):s.TypeIs (.ref a) "dict":=by
 rcases g with ⟨kvs,k,e,_,_⟩|⟨kvs,k,b,e,_,_,_⟩
 ·obtain ⟨_,_,vs,_,dd⟩:=u_ I.hok e
  exact dd.typeIs
 ·obtain ⟨_,_,xs,_,dd⟩:=yg I.hok e
  exact dd.typeIs
def H_ (td ty:TE):TE:=fun O H Q=>td O H fun x H1=>ty O H1 fun y H2=>∃ a v,x=.ref a/\jN H2 a y (some v)/\Q v H2
def Jr (td ty tv:TE):TS:=fun D O H=>tv O H fun v H1=>td O H1 fun x H2=>ty O H2 fun y H3=>∃ a H4,x=.ref a/\mV H3 a y v H4/\D.nx O H4
section
variable {X:Cx} {o i e value:Expr} {pos pos' tpos:Pos} {td ty tv:TE}
theorem bY (hu:X.A.units+1<cLine) (ho:PE X o td) (hi:PE X i ty) (hs:Jy i):PE X (.Subscript o i pos) (H_ td ty):=by
 intro Z s O H Q I h
 refine BV PySem.F.slot_dict_getitem.lookup hs (cj (ho Z s O H _ I h) fun u s1 ⟨x,H1,I1,rx,q1⟩=>cj (hi Z s1 O H1 _ I1 q1) fun iv s2 ⟨y,H2,I2,ry,a,v,ex,g,q2⟩=>?_)
 subst ex
 obtain rfl:u=Value.ref a:=rx
 exact ⟨rY I2 g,wk hu I2 g ry fun w' s3 I3 rw'=>⟨v,H2,I3,rw',q2⟩⟩
theorem iM (hu:X.A.units+1<cLine) (ho:PE X o td) (hi:PE X i ty) (hv:PE X value tv) (hs:swapsWith value (some (.Subscript o i pos')) pos.line X.env=pure false) :
 PS X (.Assign [.Subscript o i pos'] value pos) (Jr td ty tv):=by
 intro Z s O H D I h
 refine wpAny_Assign_Subscript (cj (hv Z s O H _ I h) fun r s1 ⟨v,H1,I1,rv,q1⟩=>cj (ho Z s1 O H1 _ I1 q1) fun u s2 ⟨x,H2,I2,rx,q2⟩=>cj (hi Z s2 O H2 _ I2 q2) fun iv s3 ⟨y,H3,I3,ry,a,H4,ex,g,q3⟩=>?_) hs
 subst ex
 obtain rfl:u=Value.ref a:=rx
 exact wX hu I3 g ry rv fun s4 I4=>⟨O,H4,I4,q3⟩
end
theorem nJ {P:Program} {w:World} {H:Hp} (h:Heap) (hb:sysModules<h.objs.size):bZ P w H (h.push { cls:=.type "dict",data:=.dict #[] }) h.objs.size (.dK []):=
 ⟨Nat.zero_le _,beq_eq_false_iff_ne.mpr (Ne.symm (Nat.ne_of_lt hb)),[],.nil,Heap.DictOf.new h⟩
def Gj:TE:=fun _ H Q=>∀ p,H p=none->Q (.ref p) (upd H p (.dK []))
section
variable {X:Cx} {pos:Pos}
theorem yE:PE X (.Dict [] [] pos) Gj:=fun Z s O H Q I h=>
 wpAny_Dict_empty ⟨.ref s.heap.objs.size,_,I.laid (a:=s.heap.objs.size) (o:=.dK []) (t':=s.toks) (fun _ _ q=>Heap.get?_push_of_some _ q) (Nat.le_refl _) (nJ s.heap I.big),rfl,h _ (I.hok.fresh (Nat.le_refl _))⟩
end
def tO:List (TE×TE)->St->Hp->(List (V×V)->Hp->Prop)->Prop
 |[],_,H,Q=>Q [] H
 |(tk,tv)::r,O,H,Q=>tk O H fun x H1=>tv O H1 fun y H2=>tO r O H2 fun ps H3=>Q ((x,y)::ps) H3
abbrev VV:List (V×V)->List (Value×Value)->Prop:=Paired fun p q=>RelV p.1 q.1/\RelV p.2 q.2
def KD (X:Cx) (pos:Pos) (keys:List (Option Expr)) (values:List Expr) (trs:List (TE×TE)):Prop:=
 ∀ (Z:List (Addr×Obj)) (s:Shared) (O:St) (H:Hp) (Q:List (V×V)->Hp->Prop),Inv X Z O H s->tO trs O H Q->
   wpAny (model X.prog X.w) X.A (evalPairs (pairTrees keys values X.env pos)) (fun vs s'=>∃ ps H',Inv X Z O H' s'/\VV ps vs/\Q ps H') X.xe s
theorem Aw {X:Cx} {pos:Pos}:KD X pos [] [] []:=fun Z s O H Q I h=>pairTrees_nil_walk ⟨[],H,I,.nil,h⟩
theorem kW {X:Cx} {pos:Pos} {k v:Expr} {ks:List (Option Expr)} {vs:List Expr} {tk tv:TE} {trs:List (TE×TE)} (hk:PE X k tk) (hv:PE X v tv) (hr:KD X pos ks vs trs) :
 KD X pos (some k::ks) (v::vs) ((tk,tv)::trs):=fun Z s O H Q I h=>
 pairTrees_cons_walk (cj (hk Z s O H _ I h) fun u s1 ⟨x,H1,I1,rx,q1⟩=>cj (hv Z s1 O H1 _ I1 q1) fun w2 s2 ⟨y,H2,I2,ry,q2⟩=>
  cj (hr Z s2 O H2 _ I2 q2) fun ws s3 ⟨ps,H3,I3,rel,q3⟩=>⟨(x,y)::ps,H3,I3,.cons ⟨rx,ry⟩ rel,q3⟩)
def n_ (kvs more:List (Key×V)):List (Key×V):=more.foldl (fun acc kv=>putK acc kv.1 kv.2) kvs
theorem KV.merge:∀ {more:List (Key×V)} {rs:List (Key×Value)} {kvs:List (Key×V)} {vs:List (Key×Value)},KV more rs->KV kvs vs->KV (n_ kvs more) (merged vs rs):=by
 intro more rs kvs vs r
 unfold KV at r
 induction r generalizing kvs vs with
 |nil=>intro q;exact q
 | @cons p q ps qs h t ih=>
   intro r0
   have e:KV (putK kvs p.1 p.2) (stored vs q.1 q.2):=by
    have:=r0.put p.1 h.2
    rw [← h.1];exact this
   exact ih e
theorem jA:∀ (more kvs:List (Key×V)),(n_ kvs more).length≤kvs.length+more.length
 |[],kvs=>by show kvs.length≤kvs.length+0;omega
 | p::r,kvs=>by
   have h1:=jA r (putK kvs p.1 p.2)
   have h2:=eV kvs p.1 p.2
   show (n_ (putK kvs p.1 p.2) r).length≤_
   rw [List.length_cons];omega
theorem nF {P:Program} {w:World}:∀ {kvs:List (Key×V)} {ws:List (Value×Value)},VV (kvs.map fun kv=>(kV kv.1,kv.2)) ws->∃ rs,Carries (cW P w) ws rs/\KV kvs rs
 |[],_,r=>by rw [List.map_nil] at r;cases r;exact ⟨[],True.intro,.nil⟩
 | p::kvs,_,r=>by
   rw [List.map_cons] at r
   cases r with
   | @cons a b as bs h t=>
     obtain ⟨rs,c,q⟩:=nF (P:=P) (w:=w) t
     obtain ⟨b1,b2⟩:=b
     exact ⟨(p.1,b2)::rs,⟨sI h.1,rfl,c⟩,.cons ⟨rfl,h.2⟩ q⟩
def Hx (trs:List (TE×TE)):TE:=fun O H Q=>∀ p,H p=none->tO trs O (upd H p (.dK [])) fun ps H2=>H2 p=some (.dK [])/\∃ kvs:List (Key×V),ps=kvs.map (fun kv=>(kV kv.1,kv.2))/\kvs.length≤15/\Q (.ref p) (upd H2 p (.dK (n_ [] kvs)))
theorem Cj {X:Cx} {pos:Pos} {keys:List (Option Expr)} {values:List Expr} {trs:List (TE×TE)} (h:KD X pos keys values trs) (hall:keys.all (·.isSome)=true) (hl:keys.length=values.length) (h0:keys≠[])
 (h15:keys.length≤15):PE X (.Dict keys values pos) (Hx trs):=by
 intro Z s O H Q I q
 have hn:=I.hok.fresh (Nat.le_refl s.heap.objs.size)
 have I1:=I.laid (a:=s.heap.objs.size) (o:=.dK []) (h':=s.heap.push { cls:=.type "dict",data:=.dict #[] }) (t':=s.toks) (fun _ _ q=>Heap.get?_push_of_some _ q) (Nat.le_refl _) (nJ s.heap I.big)
 refine wpAny_Dict_walk (knd:=cW X.prog X.w) hall hl h0 h15 (cj (h Z _ O _ _ I1 (q _ hn)) fun ws s2 ⟨ps,H2,I2,rel,e,kvs,ep,lk,q2⟩=>?_)
 subst ep
 obtain ⟨rs,c,rk⟩:=nF (P:=X.prog) (w:=X.w) rel
 obtain ⟨z,hd,vs0,r0,dd⟩:=yR I2.hok e
 cases r0
 refine ⟨rs,c,dd,fun h' dd' hs=>⟨.ref s.heap.objs.size,_,?_,rfl,q2⟩⟩
 have hz:(n_ [] kvs).length≤sizeLine:=by
  have h1:=jA kvs []
  rw [List.length_nil] at h1
  rw [sizeLine_eq];omega
 have he:∃ q,h'.get? s.heap.objs.size=some q:=let ⟨q,_,_,hq,_⟩:=dd';⟨q,hq⟩
 exact mK I2 (by rw [e];exact True.intro) hs he (uq hz hd (rk.merge .nil) dd')
section
variable {X:Cx} {Z:List (Addr×Obj)} {O:St} {H:Hp} {s:Shared} {a:Addr} {y d:V} {u r:Value} {o:Option V} {A:Around} {E:Value->Shared->Prop}
end
section
variable {X:Cx} {o e f:Expr} {apos cpos:Pos} {td ty tx:TE}
end
section
variable {X:Cx} {Z:List (Addr×Obj)} {O:St} {H:Hp} {s:Shared} {a:Addr} {kvs:List (Key×V)} {A:Around} {E:Value->Shared->Prop}
end
section
variable {X:Cx} {Z:List (Addr×Obj)} {O:St} {H:Hp} {s:Shared} {a:Addr} {y:V} {u:Value} {A:Around} {E:Value->Shared->Prop}
end
end L2
namespace Att
open PySem PySem.W PySem.Calls PyProof.Rows
theorem mz {P:Params} {h:Heap}:∀ (ns:List Int) (vs:List Value),WellAll P h vs (ns.map WData.int)->IntsAre vs ns:=by
 intro ns
 induction ns with
 | nil=>
   intro vs w
   rw [List.map_nil] at w
   cases w
   exact .nil
 | cons n ns ih=>
   intro vs w
   rw [List.map_cons] at w
   cases w with
   | cons a b=>
     cases a
     exact .cons _ _ (ih _ b)
theorem xr {l:OpenLaw} {n:Nat} (hn:l.most=some n) {P:Params} {h:Heap} {args:List WData} {vals:List Value}
 (hpre:l.row.toRowW.claim.pre args=true) (hwl:WellAll P h vals args) :
 ∃ a vs ns,vals=[Value.ref a]/\args=[WData.list (ns.map WData.int)]/\h.get? a=some { cls:=.type "list",data:=.seq vs.toArray }/\IntsAre vs ns/\ns.length≤n:=by
 have hsh:WShape.hasAll [] args [.list .int]=true:=(pre_splitW hpre).1
 have hc:l.pre.holds [] { args:=args }=true:=(pre_splitW hpre).2
 obtain ⟨d,r,rfl,h1,h2⟩:=hasAllW_cons hsh
 obtain rfl:=hasAllW_nil h2
 obtain ⟨xs,rfl,h3⟩:=hasW_list h1
 obtain ⟨ns,rfl⟩:=items_int h3
 have hlen:ns.length≤n:=by
  unfold OpenLaw.pre at hc
  have h4:(WTm.not (.lt (.lit (.int (n:Int))) (.len (.arg 0)))).holds [] { args:=[.list (ns.map .int)] }=true:=by
   have h4:=(holds_andW hc).1
   rw [hn] at h4
   exact h4
  have h5:=condW_of h4 (w_not (w_lt w_lit (w_len_list (w_arg rfl))))
  rw [List.length_map] at h5
  refine Nat.le_of_not_lt fun q=>?_
  have q':(n:Int)<((ns.length:Nat):Int):=by omega
  first
   |(rw [decide_eq_true q'] at h5;exact absurd h5 (by decide))
   |(simp at h5;omega)
 cases hwl with
 | cons w1 w2=>
   cases w2
   cases w1 with
   |list ho hall=>exact ⟨_,_,ns,rfl,rfl,ho,mz ns _ hall,hlen⟩
theorem wI (l:OpenLaw) (args:List WData):l.row.toRowW.claim.post args (.bool true) args=true:=
 postW_of (r:=l.row.toRowW) (X:=(true == true))
  (show WShape.has [] (.bool true) .bool=true by first|rfl|decide|simp [WShape.has,WShape.arms,WShape.armsAll])
  (show (WTm.eq .res (.lit (.bool true))).value [] { args:=args,res:=some (.bool true),after:=args }=some (.bool (true == true)) from w_eq_bool (w_res rfl) w_lit) rfl
theorem sG {l:OpenLaw} {n:Nat} {q:Program} {loose:List Str} {XP:(Str->Option Value)->Heap->Prop} {YP:World->Heap->Prop} {d:DefRec}
 (hn:l.most=some n) (hdf:d.params.defaults=[])
 (call:∀ (w:World) (s₀ s₁:Shared) (mg mb:Str->Option Value) (fa:Addr) (o:Obj) (pm cd doc:Value) (a:Addr) (vs:List Value) (ns:List Int),
  Ground q loose [] XP w s₀ mg mb s₁.heap->YP w s₁.heap->
  s₁.heap.get? fa=some o->o.data=.func (docDef d.name d.params d.body d.scope pm cd doc)->s₁.heap.CodeRec cd d.name->mg d.name=some (.ref fa)->
  s₁.heap.get? a=some { cls:=.type "list",data:=.seq vs.toArray }->IntsAre vs ns->ns.length≤n->s₁.gens=#[]->
  codeAny (model l.prog w) callerA (.call (.ref fa) ⟨[.ref a],[]⟩) (fun r s'=>r=.ok (.ret (.bool true))/\OldK s₁.heap s'.heap/\s'.os=s₁.os/\AllBare s'.gens) s₁) :
 WalkO q loose XP YP l.row.toRowW d [] (fun f vs=>PySem.call f vs):=by
 intro w s₀ s₁ mg mb G Y fa o pm cd doc dV kV ho hd hcd hD hmg hg args vals as hpre hlay hrd hwl hlo
 obtain rfl:dV=.none:=Dflts.none hD hdf
 obtain rfl:kV=.none:=Dflts.noKw hD
 obtain ⟨a,vs,ns,rfl,rfl,hobj,hints,hlen⟩:=xr hn hpre hwl
 refine enter_call (codeAny_mono (call w s₀ s₁ mg mb fa o pm cd doc a vs ns G Y ho (fd_plain hd) hcd hmg hobj hints hlen hg) fun r s' hq=>?_)
 obtain ⟨rfl,h2,h3,h4⟩:=hq
 exact ⟨.inl ⟨.bool true,.bool true,[],rfl,fun _=>rfl,.bool true,wI l _,fun _=>⟨List.Pairwise.nil,fun _ hm=>(nomatch hm)⟩⟩,h2,h3,h4⟩
section
variable {prog:Program} {w:World} {A:Around} {E:Value->Shared->Prop} {s:Shared} {K:Frag}
end
end Att
namespace L2
open PySem PySem.Spec PyProof.Rows
theorem oO:∀ {vs:List Value} {ns:List Int},IntsAre vs ns->Vals (ns.map V.int) vs
 |_,_,.nil=>.nil
 |_,_,.cons n t h=>.cons ⟨t,rfl⟩ (oO h)
def inClass (s:Stmt) (j:Nat):Stmt:=match s with
 |.ClassDef _ _ _ body _ _ _ _ _ _ _=>body.getD j (.Pass ⟨0,0,0,0⟩)
 |_=>.Pass ⟨0,0,0,0⟩
def bx (s:Stmt):Arguments:=match s with
 |.FunctionDef _ a _ _ _ _ _ _ _ _=>a
 |_=>{ posonlyargs:=[],args:=[],vararg:=none,kwonlyargs:=[],kw_defaults:=[],kwarg:=none,defaults:=[] }
def bu (s:Stmt):List Stmt:=match s with
 |.FunctionDef _ _ b _ _ _ _ _ _ _=>b
 |_=>[]
def au (s:Stmt):Scope:=match s with
 |.FunctionDef _ _ _ _ _ _ sc _ _ _=>sc
 |_=>{ kind:=.function,names:=[],isGenerator:=false,isCoroutine:=false }
abbrev cJ:jG:=fun _ _ _ _ _ _=>False
abbrev E0:XK:=fun _ _ _=>False
theorem bh {X:Cx}:fH cJ X E0:=fun _ _ _ _ _ _ _ h=>h.elim
structure gA (K:PySem.W.Frag) (x qual:Str) (st:Stmt) (f:Addr) (fd:FuncData):Prop where
 ex:∃ (oc:Value) (od:Option Addr) (kV doc pm:Value) (an:Option Addr) (cdv ct:Value) (osl:Array (Option Value)),
  fd=PySem.W.fnOf x qual (bx st) (bu st) (au st) .none kV doc pm an cdv ct/\K.lookup f=some ⟨oc,od,.func fd,osl⟩/\PySem.W.codeIn K cdv qual=true
 kp:PySem.W.keepIn K (.ref f)=true
section
variable {P:Program} {w:World} {K:PySem.W.Frag} {mg:Str->Option Value} {base:Heap}
theorem gA.ok {x qual:Str} {st:Stmt} {f:Addr} {fd:FuncData} {N ps:List Str} {k:Nat} {sp:Sp} (F:gA K x qual st f fd) (S:aW N ps (au st)) (len:∀ vs H Q E,sp vs H Q E->vs.length=ps.length)
 (hbody:∀ (cdv:Value) (A:Around) (outer:List Env) (s:Shared) (H:Hp) (vs:List V) (Q:VK) (E:XK),bL k (A.deeper (envOfC qual (au st) s.heap.objs.size f cdv))->sp vs H Q E->
  ∃ t,qH (iU cJ P w K mg base N qual (au st) f cdv A outer s H E).nox (bu st) t/\t { nx:=fun _ H'=>Q .non H',rt:=Q } (start N vs) H):aN P w K mg base cJ (k+1) f fd ps sp:=by
 obtain ⟨oc,od,kV,doc,pm,an,cdv,ct,osl,rfl,lk,hcd⟩:=F.ex
 refine rN lk hcd S len fun A outer s H vs Q E hr hsp=>?_
 obtain ⟨t,h,q⟩:=hbody cdv A outer s H vs Q E hr hsp
 exact ⟨t,h.nox,q⟩
theorem gA.binds {x qual:Str} {st:Stmt} {f:Addr} {fd:FuncData} {ps:List Str} (F:gA K x qual st f fd)
 (h:∀ (kV doc pm:Value) (an:Option Addr) (cdv ct:Value) (us:List Value),us.length=ps.length->bindArgs (PySem.W.fnOf x qual (bx st) (bu st) (au st) .none kV doc pm an cdv ct) ⟨us,[]⟩=pure (ps.zip us)):Binds K fd ps []:=by
 obtain ⟨oc,od,kV,doc,pm,an,cdv,ct,osl,rfl,lk,hcd⟩:=F.ex
 exact .all (h kV doc pm an cdv ct)
theorem qz {x qual:Str} {st:Stmt} {f:Addr} {oc:Value} {od an:Option Addr} {osl:Array (Option Value)} {kV doc pm cdv ct:Value} (l:K.lookup f=some ⟨oc,od,.func (PySem.W.fnOf x qual (bx st) (bu st) (au st) .none kV doc pm an cdv ct),osl⟩)
 (c:PySem.W.codeIn K cdv qual=true) (k:PySem.W.keepIn K (.ref f)=true):gA K x qual st f (PySem.W.fnOf x qual (bx st) (bu st) (au st) .none kV doc pm an cdv ct):=⟨⟨oc,od,kV,doc,pm,an,cdv,ct,osl,rfl,l,c⟩,k⟩
end
theorem sH {A:Around} {k:Nat} (hr:bL k A):A.units+1<cLine:=Nat.lt_of_le_of_lt (Nat.add_le_add_left (by decide:1≤64) _) hr.units
theorem wW {n:Nat} (h:n≤1000):n<sizeLine:=Nat.lt_of_le_of_lt h (by decide)
section
variable {X:Cx}
theorem pv (i:Nat) {x:Str} {pos:Pos} (hN:X.N[i]?=some x:=by rfl) (hv:Kl X.env.scope x:=by first|exact Or.inl rfl|exact Or.inr (Or.inl rfl)|exact Or.inr (Or.inr rfl)) (hd:(x == ("__debug__" : Str))=false:=by decide)
 (hcd:(x == ("__classdict__" : Str))=false:=by decide):PE X (.Name x pos) (tZ i):=Ew hN hv hd hcd
end
theorem h_ {c A B:Prop} [Decidable c] (h1:c->A) (h2:¬ c->B):if c then A else B:=by
 by_cases h:c
 ·rw [if_pos h]
  exact h1 h
 ·rw [if_neg h]
  exact h2 h
def ao (H H':Hp):Prop:=∀ b o,H b=some o->H' b=some o
theorem ao.refl (H:Hp):ao H H:=fun _ _ h=>h
theorem ao.trans {H H1 H2:Hp} (a:ao H H1) (b:ao H1 H2):ao H H2:=fun c o h=>b c o (a c o h)
theorem ao.free {H H':Hp} (e:ao H H') {l:Addr} (h:H' l=Option.none):H l=Option.none:=by
 cases q:H l with
 |none=>rfl
 | some o=>
   rw [e l o q] at h
   cases h
theorem ao.seq {K:PySem.W.Frag} {H H':Hp} {a:Addr} {xs:List V} (e:ao H H') (h:aQ K H a xs):aQ K H' a xs:=by
 rcases h with (h|⟨o,h⟩)|h
 ·exact .inl (.inl (e _ _ h))
 ·exact .inl (.inr ⟨o,e _ _ h⟩)
 ·exact .inr h
section
variable {X:Cx}
theorem oW:dH X (.builtin "len") (fun xs H Q=>∃ a kvs,xs=[V.ref a]/\H a=some (.dK kvs)/\Q (.int kvs.length) H):=by
 intro Z s O H xs us Q I r h
 obtain ⟨a,kvs,rfl,ha,q⟩:=h
 obtain ⟨u,rfl,ru⟩:=vals1 r
 cases ru
 exact K5 I (.inl ha) fun t s' I'=>⟨.int kvs.length,H,I',⟨t,rfl⟩,q⟩
end
section
variable {κ:Type} [DecidableEq κ]
end
theorem iI {env:Env} (scope:Scope) (h:∀ y∈scope.names,y.2=.free->∃ c,env.cells.lookup y.1=some c) :
 ∃ cl,closureFor scope env=pure cl/\(∀ x c,cl.lookup x=some c->env.cells.lookup x=some c)/\∀ x,(x,NameKind.free)∈scope.names->∃ c,cl.lookup x=some c:=by
 have go:∀ (names:List (Str×NameKind)) (acc:List (Str×Addr)),(∀ y∈names,y.2=.free->∃ c,env.cells.lookup y.1=some c)->(∀ x c,acc.lookup x=some c->env.cells.lookup x=some c)->
  ∃ cl,(forIn names acc fun x cs=>(match x with
    |(name,kind)=>if kind == NameKind.free then (do let c ← cellOf env name;pure (ForInStep.yield ((name,c)::cs))) else pure (ForInStep.yield cs):Sem (ForInStep (List (Str×Addr)))))=pure cl/\
    (∀ x c,cl.lookup x=some c->env.cells.lookup x=some c)/\(∀ x,(x,NameKind.free)∈names∨(∃ c,acc.lookup x=some c)->∃ c,cl.lookup x=some c):=by
  intro names
  induction names with
  |nil=>intro acc _ ha;exact ⟨acc,rfl,ha,fun x z=>z.elim (fun q=>nomatch q) id⟩
  | cons y r ih=>
    intro acc hy ha
    obtain ⟨n,k⟩:=y
    by_cases hk:k=.free
    ·subst hk
     obtain ⟨c,hc⟩:=hy (n,.free) List.mem_cons_self rfl
     obtain ⟨cl,e,h1,h2⟩:=ih ((n,c)::acc) (fun z hz=>hy z (List.mem_cons_of_mem _ hz)) (fun x c' hx=>by
      rw [List.lookup_cons] at hx
      by_cases q:x == n
      ·rw [q] at hx
       cases hx
       rw [beq_iff_eq.mp q];exact hc
      ·rw [Bool.not_eq_true] at q
       rw [q] at hx
       exact ha x c' hx)
     refine ⟨cl,?_,h1,fun x z=>h2 x ?_⟩
     ·rw [List.forIn_cons]
      simp only [beq_self_eq_true,if_true,cellOf,hc]
      exact e
     ·have aux:∀ x,(∃ c',acc.lookup x=some c')->∃ c',((n,c)::acc).lookup x=some c':=fun x ⟨c',z⟩=>by
       rw [List.lookup_cons]
       by_cases q:x == n
       ·rw [q];exact ⟨_,rfl⟩
       ·rw [Bool.not_eq_true] at q
        rw [q];exact ⟨c',z⟩
      rcases z with z|z
      ·rcases List.mem_cons.mp z with z|z
       ·cases z
        exact .inr ⟨c,by rw [List.lookup_cons,beq_self_eq_true]⟩
       ·exact .inl z
      ·exact .inr (aux x z)
    ·have hb:(k == NameKind.free)=false:=by simpa using hk
     obtain ⟨cl,e,h1,h2⟩:=ih acc (fun z hz=>hy z (List.mem_cons_of_mem _ hz)) ha
     refine ⟨cl,?_,h1,fun x z=>h2 x ?_⟩
     ·rw [List.forIn_cons]
      simp only [hb,Bool.false_eq_true,if_false]
      exact e
     ·rcases z with z|z
      ·rcases List.mem_cons.mp z with z|z
       ·cases z
        exact absurd rfl hk
       ·exact .inl z
      ·exact .inr z
 obtain ⟨cl,e,h1,h2⟩:=go scope.names [] h (fun x c z=>by simp at z)
 refine ⟨cl,?_,h1,fun x z=>h2 x (.inl z)⟩
 unfold closureFor
 exact (congrArg (fun (m:Sem (List (Str×Addr)))=>m >>= fun cs=>pure cs) e).trans rfl
def aF (X:Cx) (scope:Scope) (N':List Str) (cl:List (Str×Addr)) (C:Addr) (s₀:Shared) (H₀:Hp) (ex:List Addr):Cx where
 prog:=X.prog
 w:=X.w
 K:=X.K
 mg:=X.mg
 base:=X.base
 A:=X.A
 N:=N'
 s₀:=s₀
 H₀:=H₀
 env:=compEnvC scope cl C X.env
 outer:=X.stack
 stack:=X.stack
 ex:=ex
 fn:=fun _=>false
 calm:=X.calm
 pn:=[]
 xe:=fun _ _=>False
def dM (k:Nat) (js:List Nat) (O:St):St:=List.replicate k none++js.map fun j=>(O[j]?).join
theorem tH (k:Nat) (js:List Nat) (O:St):(dM k js O).length=k+js.length:=by simp [dM]
structure aJ (X:Cx) (scope:Scope) (own:List Str) (js:List Nat) (N':List Str):Prop where
 kind:scope.kind=.function
 nocell:∀ y∈scope.names,y.2≠.cell
 names:∀ y∈scope.names,y.2=.local->scope.names.lookup y.1=some .local
 free:∀ y∈scope.names,y.2=.free->X.env.kindOf y.1=some .cell∨X.env.kindOf y.1=some .free
 nm:N'=own++js.map fun j=>X.N.getD j Str.empty
 fr:∀ j∈js,j<X.N.length/\(X.N.getD j Str.empty,NameKind.free)∈scope.names/\∀ k,(X.N.getD j Str.empty,k)∈scope.names->k=.free
theorem mC {names:List (Str×NameKind)} {x:Str} (h:(x,NameKind.free)∈names) (u:∀ k,(x,k)∈names->k=.free):names.lookup x=some .free:=by
 induction names with
 |nil=>cases h
 | cons y r ih=>
   obtain ⟨n,k⟩:=y
   rw [List.lookup_cons]
   by_cases q:x == n
   ·rw [q]
    have e:x=n:=beq_iff_eq.mp q
    subst e
    rw [u k List.mem_cons_self]
   ·rw [Bool.not_eq_true] at q
    rw [q]
    refine ih ?_ fun k hk=>u k (List.mem_cons_of_mem _ hk)
    rcases List.mem_cons.mp h with z|z
    ·cases z
     rw [beq_self_eq_true] at q;cases q
    ·exact z
theorem l_ {scope:Scope} {env:Env} {x:Str} {k:NameKind} (h:(x,k)∈(relabel scope env).names) (hk:k=.cell∨k=.free) (hc:∀ y∈scope.names,y.2≠.cell):(x,NameKind.free)∈scope.names:=by
 unfold relabel at h
 obtain ⟨⟨n,k'⟩,hm,e⟩:=List.mem_map.mp h
 dsimp only at e
 by_cases q:(k' == NameKind.free && env.scope.kind == .function && env.kindOf n == some .cell)=true
 ·rw [if_pos q] at e
  cases e
  rw [Bool.and_eq_true,Bool.and_eq_true] at q
  have:k'=.free:=by simpa using q.1.1
  rw [← this];exact hm
 ·rw [if_neg q] at e
  cases e
  rcases hk with z|z
  ·exact absurd z (hc _ hm)
  ·rw [← z];exact hm
theorem fW {env:Env} {x:Str}:∀ {names:List (Str×NameKind)},names.lookup x=some .free->
 (names.map fun (n,k)=>if (k == NameKind.free && env.scope.kind == .function && env.kindOf n == some .cell) then (n,NameKind.cell) else (n,k)).lookup x=some .cell∨
 (names.map fun (n,k)=>if (k == NameKind.free && env.scope.kind == .function && env.kindOf n == some .cell) then (n,NameKind.cell) else (n,k)).lookup x=some .free
 |[],h=>by simp at h
 | (n,k)::r,h=>by
   have ih:=@fW env x r
   rw [List.lookup_cons] at h
   rw [List.map_cons]
   dsimp only
   by_cases q:x == n
   ·rw [q] at h
    cases h
    by_cases c:(NameKind.free == NameKind.free && env.scope.kind == .function && env.kindOf n == some .cell)=true
    ·rw [if_pos c,List.lookup_cons,q];exact .inl rfl
    ·rw [if_neg c,List.lookup_cons,q];exact .inr rfl
   ·rw [Bool.not_eq_true] at q
    rw [q] at h
    by_cases c:(k == NameKind.free && env.scope.kind == .function && env.kindOf n == some .cell)=true
    ·rw [if_pos c,List.lookup_cons,q];exact ih h
    ·rw [if_neg c,List.lookup_cons,q];exact ih h
section
variable {X:Cx} {Z:List (Addr×Obj)} {O:St} {H:Hp} {s:Shared}
theorem Inv.comp {scope:Scope} {own:List Str} {js:List Nat} {N':List Str} {cl:List (Str×Addr)} {C:Addr} {h₁:Heap} {tk:Nat} {fp:List Addr} {m:Str->Option Value} (S:aJ X scope own js N') (I:Inv X Z O H s)
 (hc1:∀ x c,cl.lookup x=some c->X.env.cells.lookup x=some c) (hc2:∀ x,(x,NameKind.free)∈scope.names->∃ c,cl.lookup x=some c) (hC:s.heap.objs.size≤C) (hns:h₁.Ns C m) (hk:∀ b o,s.heap.get? b=some o->h₁.get? b=some o)
 (hf:∀ b∈fp,jx X Z H b/\b<s.heap.objs.size) (hHC:H C=none) (hfree:∀ b o,s.heap.get? b=some o->b≠C) :
 Inv (aF X scope N' cl C s H fp) [] (dM own.length js O) H { s with heap:=h₁,toks:=tk }:=by
 have ltx:∀ b o,X.s₀.heap.get? b=some o->b∉X.ex->b∉fp:=fun b o e hx hb=>by
  rcases (hf b hb).1.2.2.2.1 with z|z
  ·exact hx z
  ·exact absurd (Nat.lt_of_lt_of_le (Heap.lt_size e) z) (Nat.lt_irrefl _)
 refine ⟨⟨I.ok.mod,S.kind,I.ok.glob,I.ok.blt,hC,fun x y c h1 h2=>I.ok.inj x y c (hc1 x c h1) (hc1 y c h2),fun x hx=>?_,fun x c z=>(nomatch z),I.ok.hd,I.ok.frames,.inl rfl,fun b hb=>⟨Nat.ne_of_lt (Nat.lt_of_lt_of_le (hf b hb).2 hC),fun x c e=>(hf b hb).1.2.2.2.2.1 x c (hc1 x c e)⟩,I.bs,Nat.le_trans I.ok.bsz I.sz,fun b o e=>ltx b o (I.ok.bs b o e).1 (I.ok.noex b o e),fun b hb z=>?_,I.stack,I.stkFree⟩,
  rfl,I.bare,Un.kept hk,⟨m,hns,fun i x v e1 e2 e3=>?_⟩,fun x c e=>?_,hHC,fun x c e=>I.freeC x c (hc1 x c e),fun p hp=>absurd (show p∈([]:List (Addr×Obj)) from hp) (by simp),I.hok.kept hk,?_⟩
 ·have hx':(relabel scope X.env).names.lookup x=some .cell∨(relabel scope X.env).names.lookup x=some .free:=hx
  rcases hx' with z|z
  ·exact hc2 x (l_ (PySem.mem_of_lookup z) (.inl rfl) S.nocell)
  ·exact hc2 x (l_ (PySem.mem_of_lookup z) (.inr rfl) S.nocell)
 ·obtain ⟨_,f1,f2,_⟩:=(hf b hb).1
  rcases List.mem_cons.mp (I.stkSub b z) with q|q
  ·exact f1 q
  ·exact f2 q
 ·
  unfold dM at e2
  by_cases hi:i<own.length
  ·rw [List.getElem?_append_left (by simpa using hi),List.getElem?_replicate] at e2
   split at e2 <;> cases e2
  ·rw [List.getElem?_append_right (by simpa using hi),List.length_replicate,List.getElem?_map] at e2
   cases ej:js[i-own.length]? with
   |none=>rw [ej] at e2;cases e2
   | some j=>
     rw [ej] at e2
     have e2':(O[j]?).join=some v:=by simpa using e2
     have hO:O[j]?=some (some v):=by
      cases q:O[j]? with
      |none=>rw [q] at e2';cases e2'
      |some o=>rw [q] at e2';exact congrArg some e2'
     have hj:=S.fr j (List.mem_of_getElem? ej)
     have hx:x=X.N.getD j Str.empty:=by
      have e1':N'[i]?=some x:=e1
      rw [S.nm,List.getElem?_append_right (by omega),List.getElem?_map,ej] at e1'
      exact (Option.some.inj e1').symm
     have hN:X.N[j]?=some x:=by
      rw [hx,List.getD_eq_getElem?_getD,List.getElem?_eq_getElem hj.1];rfl
     have hfr:scope.names.lookup x=some .free:=by rw [hx];exact mC hj.2.1 hj.2.2
     have hkx:=S.free (x,.free) (by rw [hx];exact hj.2.1) rfl
     have hvis:Kl X.env.scope x:=hkx.elim (fun z=>.inr (.inl z)) fun z=>.inr (.inr z)
     obtain ⟨mX,hnX,hlX⟩:=I.loc
     obtain ⟨u,r,l⟩:=hlX j x v hN hO hvis
     refine ⟨u,r,.inr ⟨fW hfr,?_⟩⟩
     rcases l with ⟨z,_⟩|⟨_,c,hc,hcell⟩
     ·rcases hkx with q|q
      ·have:=q.symm.trans z;cases this
      ·have:=q.symm.trans z;cases this
     ·obtain ⟨c',hc'⟩:=hc2 x (by rw [hx];exact hj.2.1)
      have:c'=c:=Option.some.inj ((hc1 x c' hc').symm.trans hc)
      subst this
      obtain ⟨o,ho,hd⟩:=hcell
      exact ⟨c',hc',o,hk _ _ ho,hd⟩
 ·obtain ⟨v,o,ho,hd⟩:=I.cell x c (hc1 x c e)
  exact ⟨v,o,hk _ _ ho,hd⟩
 ·rw [tH]
  show _=N'.length
  rw [S.nm];simp
end
def jw (Y:Cx) (ifs:List Expr) (t:TT):Prop:=
 ∀ (Z:List (Addr×Obj)) (s:Shared) (O:St) (H:Hp) (Q:Bool->Hp->Prop),Inv Y Z O H s->t O H Q->
   wpAny (model Y.prog Y.w) Y.A (forIn ifs true fun c r=>if r=true then do let ok ← isTrue c Y.env (eval c Y.env);pure (ForInStep.yield ok) else pure (ForInStep.yield r)) (TP Y Z O Q) Y.xe s
def wu:TT:=fun _ H Q=>Q true H
theorem bN {Y:Cx}:jw Y [] wu:=fun _ _ _ H _ I h=>wpAny_tests_nil ⟨H,I,h⟩
theorem iC {Y:Cx} {c:Expr} {t:TT} (h:PT Y c t):jw Y [c] t:=fun Z s O H Q I hw=>wpAny_tests_one (h Z s O H Q I hw)
abbrev bz (us:List Value) (k:Nat):Obj:={ cls:=.type "list",data:=.seq us.toArray k }
def nQ (J:It) (g:TG) (tt:TT) (te:TE) (F:List V->Hp->Prop) (W:Nat->Nat->List V->St->Hp->Prop):Prop:=
 ∀ i m ys O H,W i m ys O H->(J.stop i H/\F ys H)∨(J.go i H/\ys.length<sizeLine/\∀ x H1,J.yld i H x H1->g x O H1 fun σ2 H2=>tt σ2 H2 fun b H3=>
   if b=true then te σ2 H3 fun y H4=>∃ m',m'<m/\W (i+1) m' (ys++[y]) σ2 H4 else ∃ m',m'<m/\W (i+1) m' ys σ2 H3)
theorem vH {X:Cx} {scope:Scope} {N':List Str} {cl:List (Str×Addr)} {C acc it:Addr} {s₂:Shared} {H₂:Hp} {fp:List Addr} {tn:Nat->Heap->Prop} {J:It} {g:TG} {tt:TT} {te:TE} {F:List V->Hp->Prop}
 {elt tg iter:Expr} {ifs:List Expr} {pos:Pos} {R:Result->Shared->Prop} (W:Nat->Nat->List V->St->Hp->Prop) (turn:nQ J g tt te F W) (T:Turn X.prog X.w X.K tg J fp it tn)
 (hg:PG (aF X scope N' cl C s₂ H₂ fp) tg g) (hc:jw (aF X scope N' cl C s₂ H₂ fp) ifs tt) (he:PE (aF X scope N' cl C s₂ H₂ fp) elt te) (hcalm:X.calm=true)
 (hfp:∀ b∈fp,b≠C/\b∉frs X.stack/\(∀ x c,cl.lookup x=some c->c≠b)/\b≠acc) (hacc:acc≠C/\acc∉frs X.stack/\(∀ x c,cl.lookup x=some c->c≠acc)/\s₂.heap.objs.size≤acc)
 (hR:∀ s' σ' H' ys us k,Inv (aF X scope N' cl C s₂ H₂ fp) [(acc,bz us k)] σ' H' s'->Vals ys us->F ys H'->R (.ok .next) s')
 {s:Shared} {O:St} {H:Hp} {m:Nat} (I:Inv (aF X scope N' cl C s₂ H₂ fp) [(acc,bz [] 0)] O H s) (st:tn 0 s.heap) (fr:∀ b∈fp,H b=none) (w0:W 0 m [] O H) :
 codeAny (model X.prog X.w) X.A (.compLoop (.ListComp elt [⟨tg,iter,ifs,0⟩] scope pos) 0 (.ref it) (.ref acc) (compEnvC scope cl C X.env)) R s:=by
 refine codeAny_loop rfl (fun n s'=>∃ i ys us k σ' H',Vals ys us/\Inv (aF X scope N' cl C s₂ H₂ fp) [(acc,bz us k)] σ' H' s'/\tn i s'.heap/\(∀ b∈fp,H' b=none)/\W i n ys σ' H') (fun n s3 hI=>?_) m ⟨0,[],[],0,O,H,.nil,I,st,fr,w0⟩
 obtain ⟨i,ys,us,k,σ3,H3,rv,I3,st3,fr3,w3⟩:=hI
 show wpAny _ X.A ((compTurn (.ListComp elt [⟨tg,iter,ifs,0⟩] scope pos) 0 (.ref it) (.ref acc) (compEnvC scope cl C X.env)).onRaise (fun x=>do noteFrame x (compEnvC scope cl C X.env);theTreesLotGoes x)) _ _ s3
 refine wpAny_noted ?_
 rw [compTurn_list]
 have fpk:∀ {Z:List (Addr×Obj)} {H':Hp},(∀ p∈Z,p.1=acc∨p.1∈([]:List Addr))->(∀ b∈fp,H' b=none)->∀ b∈fp,jx (aF X scope N' cl C s₂ H₂ fp) Z H' b:=fun hp hn b hb=>
  ⟨hn b hb,(hfp b hb).1,(hfp b hb).2.1,.inl hb,(hfp b hb).2.2.1,fun p hp'=>by
   have hp'':p∈([]:List (Addr×Obj))++_:=hp'
   rcases hp p (by simpa using hp'') with z|z
   ·rw [z];exact Ne.symm (hfp b hb).2.2.2
   ·exact (nomatch z)⟩
 have fp1:=fpk (Z:=[(acc,bz us k)]) (fun p hp=>.inl (by simp at hp;rw [hp])) fr3
 refine wpAny_bind (wpAny_standAt (wpAny_bind ?_))
 rcases turn i n ys σ3 H3 w3 with ⟨stop,qn⟩|⟨go,hz,step⟩
 ·refine wpAny_mono (T.done (aF X scope N' cl C s₂ H₂ fp) rfl rfl rfl hcalm i _ s3 σ3 H3 (fun _ _=>False) I3 fp1 st3 stop) (fun r s4 ⟨hr,I4⟩=>?_) (fun _ _ z=>z.elim)
  subst hr
  exact wpAny_pure (hR s4 σ3 H3 ys us k I4 rv qn)
 ·refine wpAny_mono (T.item (aF X scope N' cl C s₂ H₂ fp) rfl rfl rfl hcalm i _ s3 σ3 H3 (fun _ _=>False) I3 fp1 st3 go) (fun r s4 ⟨u,hr,h4⟩=>?_) (fun _ _ z=>z.elim)
  subst hr
  refine wpAny_bind (wpAny_mono h4 (fun _ s5 ⟨x,H5,I5,r5,y5,st5,fr5⟩=>?_) (fun _ _ z=>z.elim))
  have fp5:=fpk (Z:=[(acc,bz us k)]) (fun p hp=>.inl (by simp at hp;rw [hp])) fr5
  have I5':=I5.pinned fp5 (T.obj _ _ st5)
  refine wpAny_bind (wpAny_mono (hg _ s5 σ3 H5 x u _ I5' r5 (step x H5 y5)) (fun _ s6 ⟨σ6,H6,I6,q6⟩=>?_) (fun _ _ z=>z.elim))
  refine wpAny_bind (wpAny_mono (hc _ s6 σ6 H6 _ I6 q6) (fun ok s7 ⟨H7,I7,q7⟩=>?_) (fun _ _ z=>z.elim))
  have again:∀ {s8:Shared} {σ8:St} {H8:Hp} {us8:List Value} {k8:Nat} {ys8:List V},Inv (aF X scope N' cl C s₂ H₂ fp) ([(acc,bz us k)]++il fp s5.heap) σ8 H8 s8->tn (i+1) s8.heap/\∀ b∈fp,H8 b=none:=fun {s8 σ8 H8 us8 k8 ys8} I8=>
   ⟨T.keep _ _ _ st5 fun b hb o e=>(I8.pin (b,o) (List.mem_append_right _ (List.mem_append_right _ (cI hb e)))).1,fun b hb=>by
    obtain ⟨o,e,d⟩:=T.obj _ _ st5 b hb
    exact (I8.pin (b,o) (List.mem_append_right _ (List.mem_append_right _ (cI hb e)))).2.1⟩
  cases ok with
  | false=>
    rw [if_neg Bool.false_ne_true] at q7
    obtain ⟨m',hm,w7⟩:=q7
    obtain ⟨t1,t2⟩:=again (us8:=us) (k8:=k) (ys8:=ys) I7
    exact wpAny_pure ⟨rfl,m',hm,i+1,ys,us,k,σ6,H7,rv,I7.unpinned,t1,t2,w7⟩
  | true=>
    rw [if_pos rfl] at q7
    refine wpAny_bind (wpAny_bind (wpAny_mono (he _ s7 σ6 H7 _ I7 q7) (fun y s8 ⟨yv,H8,I8,r8,m',hm,w8⟩=>?_) (fun _ _ z=>z.elim)))
    obtain ⟨t1,t2⟩:=again (us8:=us) (k8:=k) (ys8:=ys) I8
    obtain ⟨e8,n8,l8,f8,d8⟩:=I8.pin (acc,bz us k) (List.mem_append_right _ (List.mem_append_left _ List.mem_cons_self))
    have hlen:=rv.length
    have hz':us.toArray.size≤sizeLine:=by rw [List.size_toArray];omega
    refine wpAny_bind (call_meets PySem.F.slot_list_append ⟨_,e8,rfl⟩ PySem.F.entry_list_append (PySem.F.args_list_append_2 _ _) (PySem.list_append acc us.toArray k y hz') ⟨e8,?_⟩)
    have q:=PySem.IsL.update e8 (fun z=>z.push y)
    have I9:Inv (aF X scope N' cl C s₂ H₂ fp) [] σ6 H8 s8:=I8.pins_of fun p hp=>(nomatch hp)
    have I10:=I9.turned (t':=s8.toks) (it:=acc) (h':=s8.heap.update acc (Obj.mapSeq fun z=>z.push y)) (fun b o hb e=>(Heap.get?_update_other s8.heap _ (Ne.symm hb)).trans e) n8 hacc.1 (.inr hacc.2.2.2) hacc.2.2.1 (fun p hp=>(nomatch hp))
    have e':(us.toArray.push y)=(us++[y]).toArray:=by simp
    rw [e'] at q
    obtain ⟨k9,ek⟩:∃ k9,k9=(if ((us++[y]).toArray.size == us.toArray.size)=true then k else k+1):=⟨_,rfl⟩
    rw [← ek] at q
    have I11:=I10.pins_of (pins':=[(acc,bz (us++[y]) k9)]) fun p hp=>by
     obtain rfl:p=(acc,bz (us++[y]) k9):=by simpa using hp
     exact ⟨q,n8,hacc.1,hacc.2.1,fun v z=>by cases z⟩
    refine wpAny_pure (wpAny_pure ⟨rfl,m',hm,i+1,ys++[yv],us++[y],k9,σ6,H8,rv.append (.cons r8 .nil),I11,T.keep _ _ _ t1 fun b hb o e=>?_,t2,w8⟩)
    exact (Heap.get?_update_other s8.heap _ (hfp b hb).2.2.2.symm).trans e
def Dl (wi:TI) (g:TG) (tt:TT) (te:TE) (k:Nat) (js:List Nat):TE:=fun O H Q=>wi O H fun J H1=>∃ W:Nat->Nat->List V->St->Hp->Prop,(∃ m,W 0 m [] (dM k js O) H1)/\
 nQ J g tt te (fun ys H2=>ys.length≤sizeLine/\∀ p,H2 p=none->Q (.ref p) (upd H2 p (.lst ys))) W
section
variable {X:Cx} {scope:Scope} {own:List Str} {js:List Nat} {N':List Str} {wi:TI} {g:TG} {tt:TT} {te:TE} {elt tg iter:Expr} {ifs:List Expr} {pos:Pos}
theorem qY {Z:List (Addr×Obj)} {O:St} {H:Hp} {s:Shared} {it:Addr} {fp:List Addr} {tn:Nat->Heap->Prop} {J:It} {cl:List (Str×Addr)} {F:List V->Hp->Prop} {E:Value->Shared->Prop} {RR:Value->Addr->Result->Shared->Prop}
 (S:aJ X scope own js N') (hcalm:X.calm=true) (hg:∀ cl C s₀ H₀ ex,PG (aF X scope N' cl C s₀ H₀ ex) tg g) (hc:∀ cl C s₀ H₀ ex,jw (aF X scope N' cl C s₀ H₀ ex) ifs tt) (he:∀ cl C s₀ H₀ ex,PE (aF X scope N' cl C s₀ H₀ ex) elt te)
 (hc1:∀ x c,cl.lookup x=some c->X.env.cells.lookup x=some c) (hc2:∀ x,(x,NameKind.free)∈scope.names->∃ c,cl.lookup x=some c)
 (I:Inv X Z O H s) (T:Turn X.prog X.w X.K tg J fp it tn) (st:tn 0 s.heap) (hf:∀ b∈fp,jx X Z H b) (W:Nat->Nat->List V->St->Hp->Prop) {m0:Nat} (w0:W 0 m0 [] (dM own.length js O) H) (turn:nQ J g tt te F W)
 (hF:∀ ys H',F ys H'->ys.length≤sizeLine)
 (fin:∀ acc C H' ys s' m,Inv X Z O (upd H' acc (.lst ys)) s'->H' acc=none->s'.heap.Ns C m->(upd H' acc (.lst ys)) C=none->C≠X.env.locals->X.s₀.heap.objs.size≤C->(∀ x c,X.env.cells.lookup x=some c->c≠C)->(∀ p∈X.pn++Z,p.1≠C)->F ys H'->RR (.ref acc) C (.ok .next) s') :
 wpAny (model X.prog X.w) X.A (newList []) (fun acc s₃=>wpAny (model X.prog X.w) X.A (newFunctionEnv scope X.env.globals cl [] X.env.qual none .none (some X.env)) (fun cenv s₄=>
  codeAny (model X.prog X.w) X.A (.compStart (.ListComp elt [⟨tg,iter,ifs,0⟩] scope pos) 0 (.ref it) acc { cenv with scope:=relabel scope X.env }) (RR acc cenv.locals) s₄) E s₃) E s:=by
 refine wpAny_newObj_type (wpAny_newFunctionEnv S.nocell (by intro y hy;simp at hy) (fun h₁ hns₁ hsb₁=>?_) S.kind)
 dsimp only at hns₁ hsb₁ ⊢
 generalize hH2:s.heap.push { cls:=.type "list",dict:=none,data:=.seq ([]:List Value).toArray }=H2 at hns₁ hsb₁ ⊢
 have hC:H2.objs.size=s.heap.objs.size+1:=by rw [← hH2,Heap.size_push]
 have hDC:s.heap.objs.size≠H2.objs.size:=by rw [hC];exact Nat.ne_of_lt (Nat.lt_succ_self _)
 have hCle:s.heap.objs.size≤H2.objs.size:=by rw [hC];exact Nat.le_succ _
 have below:∀ b,b<s.heap.objs.size->b≠H2.objs.size/\b≠s.heap.objs.size:=fun b hb=>⟨by rw [hC];exact Nat.ne_of_lt (Nat.lt_succ_of_lt hb),Nat.ne_of_lt hb⟩
 have old:∀ b o,s.heap.get? b=some o->h₁.get? b=some o:=fun b o e=>hsb₁.extBut b o (below b (Heap.lt_size e)).1 (Heap.get?_push_of_some _ (hH2 ▸ Heap.get?_push_of_some _ e))
 have hacc:h₁.get? s.heap.objs.size=some (bz [] 0):=hsb₁.extBut _ _ hDC (Heap.get?_push_of_some _ (hH2 ▸ Heap.get?_push_size _ rfl))
 generalize hCn:H2.objs.size=C at *
 generalize hAn:s.heap.objs.size=acc at *
 have cellLt:∀ x c,X.env.cells.lookup x=some c->c<acc:=fun x c e=>by
  obtain ⟨v,q⟩:=I.cell x c e
  rw [← hAn];exact q.lt
 have pinLt:∀ p∈X.pn++Z,p.1<acc:=fun p hp=>by rw [← hAn];exact Heap.lt_size (I.pin p hp).1
 have stkLt:∀ b∈frs X.stack,b<acc:=fun b hb=>by
  obtain ⟨_,o,ho,_⟩:=I.stack.mem hb
  rw [← hAn];exact Heap.lt_size ho
 have fpLt:∀ b∈fp,b<acc:=fun b hb=>by
  obtain ⟨o,e,_⟩:=T.obj _ _ st b hb
  rw [← hAn];exact Heap.lt_size e
 have hHC:H C=none:=I.hok.fresh (by rw [hAn];exact hCle)
 have hHA:H acc=none:=I.hok.fresh (by rw [hAn];exact Nat.le_refl _)
 have I1:Inv (aF X scope N' cl C s H fp) [] (dM own.length js O) H { s with heap:=h₁,toks:=s.toks+([]:List (Str×Value)).length }:=
  Inv.comp S I hc1 hc2 (by rw [hAn];exact hCle) hns₁ old (fun b hb=>⟨hf b hb,by rw [hAn];exact fpLt b hb⟩) hHC fun b o e=>(below b (by rw [← hAn];exact Heap.lt_size e)).1
 have I2:Inv (aF X scope N' cl C s H fp) [(acc,bz [] 0)] (dM own.length js O) H { s with heap:=h₁,toks:=s.toks+([]:List (Str×Value)).length }:=I1.pins_of fun p hp=>by
  obtain rfl:p=(acc,bz [] 0):=by simpa using hp
  exact ⟨hacc,hHA,hDC,fun z=>absurd (stkLt acc z) (Nat.lt_irrefl _),fun v z=>by cases z⟩
 have st1:tn 0 h₁:=T.keep _ _ _ st fun b hb o e=>old b o e
 have loop:∀ s₃:Shared,s₃={ s with heap:=h₁,toks:=s.toks+([]:List (Str×Value)).length }->
  codeAny (model X.prog X.w) X.A (.compLoop (.ListComp elt [⟨tg,iter,ifs,0⟩] scope pos) 0 (.ref it) (.ref acc) (compEnvC scope cl C X.env)) (RR (.ref acc) C) s₃:=by
  rintro s₃ rfl
  refine vH W turn T (hg _ _ _ _ _) (hc _ _ _ _ _) (he _ _ _ _ _) hcalm
   (fun b hb=>⟨(below b (fpLt b hb)).1,fun z=>?_,fun x c e z=>(hf b hb).2.2.2.2.1 x c (hc1 x c e) z,(below b (fpLt b hb)).2⟩)
   ⟨hDC,fun z=>absurd (stkLt acc z) (Nat.lt_irrefl _),fun x c e z=>absurd (cellLt x c (hc1 x c e)) (by rw [z];exact Nat.lt_irrefl _),by rw [hAn];exact Nat.le_refl _⟩ ?_ I2 st1 (fun b hb=>(hf b hb).1) w0
  ·rcases List.mem_cons.mp (I.stkSub b z) with q|q
   ·exact (hf b hb).2.1 q
   ·exact (hf b hb).2.2.1 q
  ·intro s' σ' H' ys us k J' rv q
   obtain ⟨e',n',l',f',d'⟩:=J'.pin (acc,bz us k) (List.mem_append_right _ List.mem_cons_self)
   have n'':H' acc=none:=n'
   obtain ⟨m,hm,_⟩:=J'.loc
   have oldLt:∀ b o,s.heap.get? b=some o->b<acc:=fun b o e=>by rw [← hAn];exact Heap.lt_size e
   have neA:∀ b o,s.heap.get? b=some o->b≠acc:=fun b o e=>Nat.ne_of_lt (oldLt b o e)
   have un:Un (frs X.stack) fp H (upd H' acc (.lst ys)) s.heap s'.heap:=⟨J'.base.keep,J'.base.slot,fun b o e n hx=>by rw [aA (neA b o e)];exact J'.base.free b o e n hx,J'.base.there,
    fun b xs e=>by
     have z:=J'.base.tups b xs e
     rw [aA (aC z n'')];exact z,
    fun b o u e=>by
     have z:=J'.base.frzs b o u e
     rw [aA (aC z n'')];exact z,
    fun b ps e=>by
     obtain ⟨more,z⟩:=J'.base.tbls b ps e
     exact ⟨more,by rw [aA (aC z n'')];exact z⟩⟩
   have hok:iZ X.prog X.w (upd H' acc (.lst ys)) s'.heap:=fun b u e=>by
    by_cases hb:b=acc
    ·subst hb
     rw [aj] at e;cases e
     exact ⟨hF _ _ q,us,k,rv,e'⟩
    ·rw [aA hb] at e
     exact (J'.hok b u e).stay (fun c v _ z=>z) (fun c z=>by rw [aA (aC z n'')];exact z) fun c xs z=>by rw [aA (aC z n'')];exact z
   have IX:Inv X Z O (upd H' acc (.lst ys)) s':=I.call' J'.os un hok J'.bare fun b hb=>⟨(hf b hb).2.2.2.1,(hf b hb).2.1,(hf b hb).2.2.2.2.1,(hf b hb).2.2.2.2.2⟩
   refine fin acc C H' ys s' m IX n'' hm ?_ ?_ ?_ ?_ ?_ q
   ·rw [aA (Ne.symm hDC)];exact J'.free
   ·exact Nat.ne_of_gt (Nat.lt_of_lt_of_le I.lt (by rw [hAn];exact hCle))
   ·exact Nat.le_trans I.sz (by rw [hAn];exact hCle)
   ·exact fun x c e z=>absurd (Nat.lt_of_lt_of_le (cellLt x c e) hCle) (by rw [z];exact Nat.lt_irrefl _)
   ·exact fun p hp z=>absurd (Nat.lt_of_lt_of_le (pinLt p hp) hCle) (by rw [z];exact Nat.lt_irrefl _)
 exact codeAny_compStart_list (loop _ rfl) (T.self _ 0 _ _ _ st1 (loop _ rfl))
theorem cG (S:aJ X scope own js N') (hcalm:X.calm=true) (hi:PI X tg iter wi) (hg:∀ cl C s₀ H₀ ex,PG (aF X scope N' cl C s₀ H₀ ex) tg g) (hc:∀ cl C s₀ H₀ ex,jw (aF X scope N' cl C s₀ H₀ ex) ifs tt)
 (he:∀ cl C s₀ H₀ ex,PE (aF X scope N' cl C s₀ H₀ ex) elt te) (hs:∀ x,foldedSetIterable iter X.env x=pure x:=by intro _;rfl):PE X (.ListComp elt [⟨tg,iter,ifs,0⟩] scope pos) (Dl wi g tt te own.length js):=by
 intro Z s O H Q I h
 obtain ⟨cl,hcl,hc1,hc2⟩:=iI (env:=X.env) scope fun y hy hk=>I.ok.has y.1 (S.free y hy hk)
 rw [eval_ListComp]
 refine wpAny_comprehension_free (use:=none) rfl hs hcl S.kind S.names (cj (hi Z s O H _ I h) fun v s1 h1=>cj h1 fun itv s2 h2=>?_)
 obtain ⟨it,fp,tn,J,H2,e,I2,T,st2,f2,W,⟨m0,w0⟩,turn⟩:=h2
 subst e
 refine qY (RR:=fun acc C=>compPost (model X.prog X.w) X.A X.xe none (EP X Z O Q) acc C) S hcalm hg hc he hc1 hc2 I2 T st2 f2 W w0 turn (fun ys H' q=>q.1) ?_
 intro acc C H' ys s' m IX na hm hCn hL hz hcn hpn q
 refine ⟨m,hm,fun h' hs'=>⟨.ref acc,_,?_,rfl,q.2 acc na⟩⟩
 exact IX.turned (t':=s'.toks) (it:=C) (fun b o hb e=>(hs'.2 b hb).trans e) hCn hL (.inr hz) hcn hpn
theorem gU {i:Nat} {x:Str} {pos' spos:Pos} (S:aJ X scope own js N') (hcalm:X.calm=true) (hN:X.N.Nodup) (hx:X.N[i]?=some x) (hk:X.env.scope.names.lookup x=some .local) (hi:PI X tg iter wi) (hg:∀ cl C s₀ H₀ ex,PG (aF X scope N' cl C s₀ H₀ ex) tg g) (hc:∀ cl C s₀ H₀ ex,jw (aF X scope N' cl C s₀ H₀ ex) ifs tt)
 (he:∀ cl C s₀ H₀ ex,PE (aF X scope N' cl C s₀ H₀ ex) elt te) (hsw:swapsWith (.ListComp elt [⟨tg,iter,ifs,0⟩] scope pos) (some (.Name x pos')) spos.line X.env=pure true:=by rfl) (hs:∀ x,foldedSetIterable iter X.env x=pure x:=by intro _;rfl) :
 PS X (.Assign [.Name x pos'] (.ListComp elt [⟨tg,iter,ifs,0⟩] scope pos) spos) (yp (Dl wi g tt te own.length js) (aU i)):=by
 intro Z s O H D I h
 obtain ⟨cl,hcl,hc1,hc2⟩:=iI (env:=X.env) scope fun y hy hk=>I.ok.has y.1 (S.free y hy hk)
 rw [exec_Assign_Name_used _ _ _ _ hsw]
 refine wpAny_bind (wpAny_standAt (wpAny_bind ?_))
 show wpAny _ X.A (do let _ ← comprehension (.ListComp elt [⟨tg,iter,ifs,0⟩] scope pos) scope X.env _ (newList []) false (eval iter X.env) (some (assign (.Name x pos') X.env))) _ _ s
 refine wpAny_bind (wpAny_mono (wpAny_comprehension_free (use:=some (assign (.Name x pos') X.env)) (Q:=fun _ s'=>SP X Z D .next s') rfl hs hcl S.kind S.names
  (cj (hi Z s O H _ I h) fun v s1 h1=>cj h1 fun itv s2 h2=>?_)) (fun _ s' hq=>wpAny_pure (wpAny_pure hq)) fun _ _ e=>e)
 obtain ⟨it,fp,tn,J,H2,e,I2,T,st2,f2,W,⟨m0,w0⟩,turn⟩:=h2
 subst e
 refine qY (RR:=fun acc C=>compPost (model X.prog X.w) X.A X.xe (some (assign (.Name x pos') X.env)) (fun _ s'=>SP X Z D .next s') acc C) S hcalm hg hc he hc1 hc2 I2 T st2 f2 W w0 turn (fun ys H' q=>q.1) ?_
 intro acc C H' ys s' m IX na hm hCn hL hz hcn hpn q
 show wpAny _ X.A (assign (.Name x pos') X.env (.ref acc)) _ _ s'
 refine wpAny_assign_Name (jf IX hN hx (.inl hk) (v:=.ref acc) rfl (fun s'' I'' hsb=>?_) (.inr hk))
 obtain ⟨a,hsb,ha⟩:=hsb
 have haC:C≠a:=by
  rcases ha with z|z
  ·rw [z];exact hL
  ·exact fun q=>hcn x a z q.symm
 refine ⟨m,hm.sameBut hsb haC,fun h' hs'=>⟨_,_,?_,q.2 acc na⟩⟩
 exact I''.turned (t':=s''.toks) (it:=C) (fun b o hb e=>(hs'.2 b hb).trans e) hCn hL (.inr hz) hcn hpn
end
section
variable {X:Cx}
def Jl (i j:Int):Prop:=0<j/\j<340282366920938463463374607431768211456
theorem yC:jy X (binaryOp .FloorDiv) (rI Jl fun i j=>.int (i / j)):=Hl fun i j _ _ _ _ _ hc q=>by
 rw [← Int.fdiv_eq_ediv_of_nonneg i (Int.le_of_lt hc.1)] at q
 have h1:(0:Int)<j:=hc.1
 have h2:j<340282366920938463463374607431768211456:=hc.2
 have hb:j.natAbs<340282366920938463463374607431768211456:=by omega
 have he:(2:Nat) ^ 128=340282366920938463463374607431768211456:=by decide +kernel
 have hl:j.natAbs.log2<128:=(Nat.log2_lt (by omega)).mpr (Nat.lt_of_lt_of_eq hb he.symm)
 exact floordiv_int (by have:=hc.1;omega) q (.inl (PyProof.noPylong_of_log2 (by omega)))
theorem dC {lo:Int} {n:Nat} {g:TG} {te:TE} {F:List V->Hp->Prop} {σ0:St} {H0:Hp} (Pv:Nat->List V->St->Hp->Prop) (hn:n≤sizeLine) (h0:Pv 0 [] σ0 H0)
 (hs:∀ i ys O H,i<n->ys.length=i->Pv i ys O H->∀ N:List V->St->Hp->Prop,(∀ ys' σ' H',ys'.length=i+1->Pv (i+1) ys' σ' H'->N ys' σ' H')->g (.int (lo+i)) O H fun σ2 H2=>te σ2 H2 fun y H3=>N (ys++[y]) σ2 H3)
 (hd:∀ ys O H,ys.length=n->Pv n ys O H->F ys H) :
 ∃ W:Nat->Nat->List V->St->Hp->Prop,(∃ m,W 0 m [] σ0 H0)/\nQ (zZ lo n) g wu te F W:=by
 refine ⟨fun i m ys O H=>m=n-i/\i≤n/\ys.length=i/\Pv i ys O H,⟨n,by simp,Nat.zero_le _,rfl,h0⟩,?_⟩
 rintro i m ys O H ⟨rfl,hi,hl,p⟩
 by_cases hlt:i<n
 ·refine .inr ⟨hlt,by omega,fun x H' y=>?_⟩
  obtain ⟨e,y⟩:=y
  subst e y
  exact hs i ys O _ hlt hl p (fun ys' σ' H'=>∃ m',m'<n-i/\m'=n-(i+1)/\i+1≤n/\ys'.length=i+1/\Pv (i+1) ys' σ' H') fun ys' σ' H' hl' q=>⟨n-(i+1),by omega,rfl,hlt,hl',q⟩
 ·have e:i=n:=by omega
  subst e
  exact .inl ⟨Nat.le_refl _,hd ys O H hl p⟩
theorem d7 {K:PySem.W.Frag} {a:Addr} {xs:List V} {g:TG} {te:TE} {F:List V->Hp->Prop} {σ0:St} {H0:Hp} (Pv:Nat->List V->St->Hp->Prop) (hn:xs.length≤sizeLine) (h0:Pv 0 [] σ0 H0) (hq:∀ i ys O H,i≤xs.length->Pv i ys O H->aQ K H a xs)
 (hs:∀ i x ys O H,xs[i]?=some x->ys.length=i->Pv i ys O H->∀ N:List V->St->Hp->Prop,(∀ ys' σ' H',ys'.length=i+1->Pv (i+1) ys' σ' H'->N ys' σ' H')->g x O H fun σ2 H2=>te σ2 H2 fun y H3=>N (ys++[y]) σ2 H3)
 (hd:∀ ys O H,ys.length=xs.length->Pv xs.length ys O H->F ys H) :
 ∃ W:Nat->Nat->List V->St->Hp->Prop,(∃ m,W 0 m [] σ0 H0)/\nQ (Ef K a) g wu te F W:=by
 refine ⟨fun i m ys O H=>m=xs.length-i/\i≤xs.length/\ys.length=i/\Pv i ys O H,⟨xs.length,by simp,Nat.zero_le _,rfl,h0⟩,?_⟩
 rintro i m ys O H ⟨rfl,hi,hl,p⟩
 have q:=hq i ys O H hi p
 by_cases hlt:i<xs.length
 ·refine .inr ⟨⟨xs,xs[i],q,by simp [hlt]⟩,by omega,fun x H' y=>?_⟩
  obtain ⟨e,y⟩:=y
  subst e
  exact hs i x ys O _ (y xs q) hl p (fun ys' σ' H'=>∃ m',m'<xs.length-i/\m'=xs.length-(i+1)/\i+1≤xs.length/\ys'.length=i+1/\Pv (i+1) ys' σ' H') fun ys' σ' H' hl' q=>⟨xs.length-(i+1),by omega,rfl,hlt,hl',q⟩
 ·have e:i=xs.length:=by omega
  subst e
  exact .inl ⟨⟨xs,q,Nat.le_refl _⟩,hd ys O H hl p⟩
structure dZ (K:PySem.W.Frag) (mg:Str->Option Value) (x:Str) (st:Stmt) (ps:List Str) (f:Addr) (fd:FuncData):Prop where
 F:gA K x x st f fd
 mg:mg x=some (.ref f)
 b:Binds K fd ps []
def gB (p:Addr) (H H':Hp):Prop:=∀ b o,H b=some o->b≠p->H' b=some o
theorem gB.refl {p:Addr} {H:Hp}:gB p H H:=fun _ _ h _=>h
theorem gB.trans {p:Addr} {H H1 H2:Hp} (a:gB p H H1) (b:gB p H1 H2):gB p H H2:=fun c o h hc=>b c o (a c o h hc) hc
theorem gB.upd {p:Addr} {H:Hp} {o:HO}:gB p H (upd H p o):=fun b u h hb=>by rw [aA hb];exact h
end
theorem bU {t u:TS} {D:Ends} {O:St} {H:Hp} (M:St->Hp->Prop) (h2:∀ σ' H',M σ' H'->u D σ' H') (h1:∀ N:St->Hp->Prop,(∀ σ' H',M σ' H'->N σ' H')->t { D with nx:=N } O H):K9 t u D O H:=h1 (u D) h2
theorem ao.new {H:Hp} {q:Addr} {o:HO} (h:H q=none):ao H (upd H q o):=fun b u e=>by rw [aA (aC e h)];exact e
theorem ao.tup {K:PySem.W.Frag} {H H':Hp} {a:Addr} {xs:List V} (e:ao H H') (h:cA K H a xs):cA K H' a xs:=by
 rcases h with (h|⟨o,h⟩)|h
 ·exact .inl (.inl (e _ _ h))
 ·exact .inl (.inr ⟨o,e _ _ h⟩)
 ·exact .inr h
theorem cu:bootBuiltins "len" = some (.builtin "len"):=by decide +kernel
theorem ji:bootBuiltins "list" = some (.type "list"):=by decide +kernel
theorem kj:bootBuiltins "tuple" = some (.type "tuple"):=by decide +kernel
theorem tR:bootBuiltins "str" = some (.type "str"):=by decide +kernel
theorem qb:bootBuiltins "int" = some (.type "int"):=by decide +kernel
theorem mO:bootBuiltins "bool" = some (.type "bool"):=by decide +kernel
theorem FJ:bootBuiltins "min" = some (.builtin "min"):=by decide +kernel
theorem mY:bootBuiltins "all" = some (.builtin "all"):=by decide +kernel
theorem Ec:bootBuiltins "any" = some (.builtin "any"):=by decide +kernel
theorem aZ:bootBuiltins "isinstance" = some (.builtin "isinstance"):=by decide +kernel
theorem Ek:bootBuiltins "sum" = some (.builtin "sum"):=by decide +kernel
theorem pg:bootBuiltins "sorted" = some (.builtin "sorted"):=by decide +kernel
end L2
namespace L2
open PySem PySem.Spec PyProof.Rows PySem.SeqAt
mutual
inductive Rep (K:PySem.W.Frag) (H:Hp):V->PyData->Prop
 |non:Rep K H .non .none
 |bl (b:Bool):Rep K H (.bl b) (.bool b)
 |int (i:Int):Rep K H (.int i) (.int i)
 |str (x:Str):Rep K H (.str x) (.str x)
 |tup {a:Addr} {xs:List V} {ds:List PyData}:cA K H a xs->cN K H xs ds->Rep K H (.ref a) (.tuple ds)
 |lst {a:Addr} {xs:List V} {ds:List PyData}:aQ K H a xs->cN K H xs ds->Rep K H (.ref a) (.list ds)
inductive cN (K:PySem.W.Frag) (H:Hp):List V->List PyData->Prop
 |nil:cN K H [] []
 |cons {x:V} {d:PyData} {xs:List V} {ds:List PyData}:Rep K H x d->cN K H xs ds->cN K H (x::xs) (d::ds)
end
section
variable {K:PySem.W.Frag} {H H':Hp}
theorem cN.length:∀ {xs:List V} {ds:List PyData},cN K H xs ds->xs.length=ds.length
 |_,_,.nil=>rfl
 |_,_,.cons _ t=>by rw [List.length_cons,List.length_cons,cN.length t]
mutual
theorem Rep.map (f1:∀ a xs,cA K H a xs->cA K H' a xs) (f2:∀ a xs,aQ K H a xs->aQ K H' a xs):∀ {v:V} {d:PyData},Rep K H v d->Rep K H' v d
 |_,_,.non=>.non
 |_,_,.bl b=>.bl b
 |_,_,.int i=>.int i
 |_,_,.str x=>.str x
 |_,_,.tup h r=>.tup (f1 _ _ h) (cN.map f1 f2 r)
 |_,_,.lst h r=>.lst (f2 _ _ h) (cN.map f1 f2 r)
theorem cN.map (f1:∀ a xs,cA K H a xs->cA K H' a xs) (f2:∀ a xs,aQ K H a xs->aQ K H' a xs):∀ {v:List V} {d:List PyData},cN K H v d->cN K H' v d
 |_,_,.nil=>.nil
 |_,_,.cons h r=>.cons (Rep.map f1 f2 h) (cN.map f1 f2 r)
end
theorem Rep.same {v:V} {d:PyData} (h:Rep K H v d) (e:ao H H'):Rep K H' v d:=h.map (fun _ _ z=>e.tup z) (fun _ _ z=>e.seq z)
theorem gB.seq {p a:Addr} {xs:List V} {kvs:List (Key×V)} (e:gB p H H') (hp:H p=some (.dK kvs)) (h:aQ K H a xs):aQ K H' a xs:=by
 rcases h with (h|⟨o,h⟩)|h
 ·exact .inl (.inl (e _ _ h (fV h hp (by intro z;cases z))))
 ·exact .inl (.inr ⟨o,e _ _ h (fV h hp (by intro z;cases z))⟩)
 ·exact .inr h
theorem cN.get':∀ {xs:List V} {ds:List PyData} {i:Nat} {x:V},cN K H xs ds->xs[i]?=some x->∃ d,ds[i]?=some d/\Rep K H x d
 |_,_,_,_,.nil,e=>by simp at e
 |_,_,0,_,.cons r _,e=>by simp at e;subst e;exact ⟨_,rfl,r⟩
 | _,_,i+1,d,.cons _ t,e=>by
   obtain ⟨u,h1,h2⟩:=cN.get' (i:=i) (x:=d) t (by simpa using e)
   exact ⟨u,by simpa using h1,h2⟩
end
section
variable {X:Cx} {Z:List (Addr×Obj)} {O:St} {H:Hp} {s:Shared}
end
mutual
def dY:PyData->PyData->Bool
 |.none,.none=>true
 |.bool a,.bool b=>a == b
 |.bool a,.int b=>(if a then 1 else 0) == b
 |.int a,.bool b=>a == (if b then 1 else 0)
 |.int a,.int b=>a == b
 |.str a,.str b=>a == b
 |.tuple a,.tuple b=>cQ a b
 |.list a,.list b=>cQ a b
 |_,_=>false
def cQ:List PyData->List PyData->Bool
 |[],[]=>true
 |a::r,b::t=>dY a b && cQ r t
 |_,_=>false
end
theorem pG:∀ (ds es:List PyData),cQ ds es=((List.range (min ds.length es.length)).all (fun j=>dY (ds.getD j .none) (es.getD j .none)) && ds.length == es.length)
 |[],[]=>by simp [cQ]
 |[],_::_=>by simp [cQ]
 |_::_,[]=>by simp [cQ]
 | a::r,b::t=>by
   rw [cQ,pG r t,List.length_cons,List.length_cons,Nat.succ_min_succ,List.range_succ_eq_map,List.all_cons,List.all_map]
   simp only [List.getD_cons_zero,Bool.and_assoc]
   congr 1
   have e:(r.length+1 == t.length+1)=(r.length == t.length):=by
    rw [Bool.eq_iff_iff];simp
   rw [e]
   congr 1
mutual
def dm:PyData->Nat
 |.tuple xs=>bH xs+1
 |.list xs=>bH xs+1
 |_=>0
def bH:List PyData->Nat
 |[]=>0
 |d::r=>max (dm d) (bH r)
end
section
variable {X:Cx} {Z:List (Addr×Obj)} {O:St} {H:Hp} {s:Shared}
mutual
theorem Rep.fn (I:Inv X Z O H s):∀ {v:V} {d e:PyData} {u:Value},Rep X.K H v d->Rep X.K H v e->RelV v u->d=e/\dY d d=true
 |_,_,_,_,.non,.non,_=>⟨rfl,rfl⟩
 |_,_,_,_,.bl b,.bl _,_=>⟨rfl,by simp [dY]⟩
 |_,_,_,_,.int i,.int _,_=>⟨rfl,by simp [dY]⟩
 |_,_,_,_,.str x,.str _,_=>⟨rfl,by simp [dY]⟩
 | _,_,_,_,.tup h1 r1,.tup h2 r2,r=>by
   have e:=I.tuple_inj h1 h2
   subst e
   obtain ⟨its,rv,_,_⟩:=I.tuple h1
   obtain ⟨e,q⟩:=cN.fn I r1 r2 rv
   exact ⟨by rw [e],q⟩
 | _,_,_,_,.lst h1 r1,.lst h2 r2,r=>by
   have e:=I.list_inj h1 h2
   subst e
   obtain ⟨its,rv,_,_⟩:=I.list h1
   obtain ⟨e,q⟩:=cN.fn I r1 r2 rv
   exact ⟨by rw [e],q⟩
 | _,_,_,_,.tup h1 _,.lst h2 _,r=>by
   obtain ⟨_,_,⟨o,e1,c1,_⟩,_⟩:=I.tuple h1
   obtain ⟨_,_,⟨o',n,e2,c2,_⟩,_⟩:=I.list h2
   rw [e1] at e2;cases e2
   rw [c1] at c2;injection c2 with z;exact absurd z (by decide)
 | _,_,_,_,.lst h2 _,.tup h1 _,r=>by
   obtain ⟨_,_,⟨o,e1,c1,_⟩,_⟩:=I.tuple h1
   obtain ⟨_,_,⟨o',n,e2,c2,_⟩,_⟩:=I.list h2
   rw [e1] at e2;cases e2
   rw [c1] at c2;injection c2 with z;exact absurd z (by decide)
theorem cN.fn (I:Inv X Z O H s):∀ {v:List V} {d e:List PyData} {u:List Value},cN X.K H v d->cN X.K H v e->Vals v u->d=e/\cQ d d=true
 |_,_,_,_,.nil,.nil,_=>⟨rfl,rfl⟩
 | _,_,_,_,.cons a b,.cons c d,.cons r rs=>by
   obtain ⟨e1,q1⟩:=Rep.fn I a c r
   obtain ⟨e2,q2⟩:=cN.fn I b d rs
   exact ⟨by rw [e1,e2],by simp [cQ,q1,q2]⟩
end
theorem uK {vs ws:List V} {ds es:List PyData} {us xs:List Value} {A:Around} (rs1:cN X.K H vs ds) (rs2:cN X.K H ws es) (rv1:Vals vs us) (rv2:Vals ws xs) :
 ((List.range (min us.toArray.size xs.toArray.size)).all (fun j=>dY (ds.getD j .none) (es.getD j .none)) && us.toArray.size == xs.toArray.size)=cQ ds es:=by
 rw [pG,List.size_toArray,List.size_toArray,← rv1.length,← rv2.length,rs1.length,rs2.length]
theorem P_ {l b:Addr} {vs ws:List V} {ds es:List PyData} {us xs:List Value} {A:Around} (rs1:cN X.K H vs ds) (rs2:cN X.K H ws es) (rv1:Vals vs us) (rv2:Vals ws xs) (p1:IsTup s.heap l us.toArray) (p2:IsTup s.heap b xs.toArray) (hu:A.units<cLine)
 (he:∀ j (h1:j<us.length) (h2:j<xs.length),EqAt A.in1 s us[j] xs[j] (dY (ds.getD j .none) (es.getD j .none))):RcAt A s (.ref l) (.ref b) (dY (.tuple ds) (.tuple es)):=by
 show RcAt A s (.ref l) (.ref b) (cQ ds es)
 rw [← uK (A:=A) rs1 rs2 rv1 rv2]
 exact RcAt.tuples (show s.heap.IsTuple l us.toArray from p1) (show s.heap.IsTuple b xs.toArray from p2) hu fun j h1 h2=>by simpa using he j (by simpa using h1) (by simpa using h2)
theorem Oo {l b:Addr} {vs ws:List V} {ds es:List PyData} {us xs:List Value} {A:Around} (rs1:cN X.K H vs ds) (rs2:cN X.K H ws es) (rv1:Vals vs us) (rv2:Vals ws xs) (p1:s.heap.IsList l us.toArray) (p2:s.heap.IsList b xs.toArray) (hu:A.units<cLine)
 (he:∀ j (h1:j<us.length) (h2:j<xs.length),EqAt A.in1 s us[j] xs[j] (dY (ds.getD j .none) (es.getD j .none))):RcAt A s (.ref l) (.ref b) (dY (.list ds) (.list es)):=by
 show RcAt A s (.ref l) (.ref b) (cQ ds es)
 have q:=uK (A:=A) rs1 rs2 rv1 rv2
 by_cases hz:us.toArray.size=xs.toArray.size
 ·rw [← q,hz,Nat.min_self,beq_self_eq_true,Bool.and_true,← hz]
  exact RcAt.lists p1 p2 hz hu fun j h1 h2=>by simpa using he j (by simpa using h1) (by simpa using h2)
 ·have e:cQ ds es=false:=by
   rw [← q]
   have:(us.toArray.size == xs.toArray.size)=false:=by simpa using hz
   rw [this,Bool.and_false]
  rw [e]
  exact RcAt.lists_lengths p1 p2 (by simpa using hz) hu
theorem eqT (I:Inv X Z O H s) {l b:Addr} {vs ws:List V} {ds es:List PyData} {us xs:List Value} {A:Around} (h1:cA X.K H l vs) (h2:cA X.K H b ws) (rs1:cN X.K H vs ds) (rs2:cN X.K H ws es) (rv1:Vals vs us) (rv2:Vals ws xs) (p1:IsTup s.heap l us.toArray) (p2:IsTup s.heap b xs.toArray) (hu:A.units<cLine)
 (he:∀ j (h1:j<us.length) (h2:j<xs.length),EqAt A.in1 s us[j] xs[j] (dY (ds.getD j .none) (es.getD j .none))):EqAt A s (.ref l) (.ref b) (dY (.tuple ds) (.tuple es)):=by
 by_cases hlb:l=b
 ·subst hlb
  obtain ⟨e,q⟩:=Rep.fn I (.tup h1 rs1) (.tup h2 rs2) (u:=.ref l) rfl
  rw [← e,q]
  exact EqAt.same _
 ·exact EqAt.of_refs hlb (P_ rs1 rs2 rv1 rv2 p1 p2 hu he)
theorem QF (I:Inv X Z O H s) {l b:Addr} {vs ws:List V} {ds es:List PyData} {us xs:List Value} {A:Around} (h1:aQ X.K H l vs) (h2:aQ X.K H b ws) (rs1:cN X.K H vs ds) (rs2:cN X.K H ws es) (rv1:Vals vs us) (rv2:Vals ws xs) (p1:s.heap.IsList l us.toArray) (p2:s.heap.IsList b xs.toArray) (hu:A.units<cLine)
 (he:∀ j (h1:j<us.length) (h2:j<xs.length),EqAt A.in1 s us[j] xs[j] (dY (ds.getD j .none) (es.getD j .none))):EqAt A s (.ref l) (.ref b) (dY (.list ds) (.list es)):=by
 by_cases hlb:l=b
 ·subst hlb
  obtain ⟨e,q⟩:=Rep.fn I (.lst h1 rs1) (.lst h2 rs2) (u:=.ref l) rfl
  rw [← e,q]
  exact EqAt.same _
 ·exact EqAt.of_refs hlb (Oo rs1 rs2 rv1 rv2 p1 p2 hu he)
theorem dh {A:Around} {n:Nat} (h:A.units+n<cLine):A.units<cLine:=by omega
theorem hu0 {A:Around} {n:Nat} (h:A.units+(n+1)<cLine):A.units<cLine:=by omega
theorem hu1 {A:Around} {n:Nat} (h:A.units+(n+1)<cLine):A.in1.units+n<cLine:=by show A.units+1+n<cLine;omega
mutual
theorem Cy (I:Inv X Z O H s):∀ {v w:V} {d e:PyData} {u x:Value} {A:Around},Rep X.K H v d->Rep X.K H w e->RelV v u->RelV w x->A.units+dm d<cLine->EqAt A s u x (dY d e)
 | _,_,_,_,u,x,A,.non,.non,r1,r2,hu=>by
   cases (show u=Value.none from r1)
   cases (show x=Value.none from r2)
   exact EqAt.same _
 | _,_,_,_,u,x,A,.non,.bl b2,r1,r2,hu=>by
   cases (show u=Value.none from r1)
   cases (show x=Value.bool b2 from r2)
   exact EqAt.none_bool b2
 | _,_,_,_,u,x,A,.non,.int i2,r1,r2,hu=>by
   cases (show u=Value.none from r1)
   obtain ⟨t2,e2⟩:=(show ∃ t,x=Value.int i2 t from r2);subst e2
   exact EqAt.none_int i2 t2
 | _,_,_,_,u,x,A,.non,.str y2,r1,r2,hu=>by
   cases (show u=Value.none from r1)
   obtain ⟨t2,e2⟩:=(show ∃ t,x=Value.str y2 t from r2);subst e2
   exact EqAt.none_str y2 t2
 | _,_,_,_,u,x,A,.non,.lst h2 rs2,r1,r2,hu=>by
   cases (show u=Value.none from r1)
   cases (show x=Value.ref _ from r2);obtain ⟨its2,rv2,p2,_⟩:=I.list h2
   exact EqAt.none_list p2.isList (dh hu)
 | _,_,_,_,u,x,A,.non,.tup h2 rs2,r1,r2,hu=>by
   cases (show u=Value.none from r1)
   cases (show x=Value.ref _ from r2);obtain ⟨its2,rv2,p2,_⟩:=I.tuple h2
   exact EqAt.none_tuple p2 (dh hu)
 | _,_,_,_,u,x,A,.bl b1,.non,r1,r2,hu=>by
   cases (show u=Value.bool b1 from r1)
   cases (show x=Value.none from r2)
   exact EqAt.bool_none b1
 | _,_,_,_,u,x,A,.bl b1,.bl b2,r1,r2,hu=>by
   cases (show u=Value.bool b1 from r1)
   cases (show x=Value.bool b2 from r2)
   exact EqAt.bool_bool b1 b2
 | _,_,_,_,u,x,A,.bl b1,.int i2,r1,r2,hu=>by
   cases (show u=Value.bool b1 from r1)
   obtain ⟨t2,e2⟩:=(show ∃ t,x=Value.int i2 t from r2);subst e2
   exact EqAt.bool_int b1 i2 t2
 | _,_,_,_,u,x,A,.bl b1,.str y2,r1,r2,hu=>by
   cases (show u=Value.bool b1 from r1)
   obtain ⟨t2,e2⟩:=(show ∃ t,x=Value.str y2 t from r2);subst e2
   exact EqAt.bool_str b1 y2 t2
 | _,_,_,_,u,x,A,.bl b1,.lst h2 rs2,r1,r2,hu=>by
   cases (show u=Value.bool b1 from r1)
   cases (show x=Value.ref _ from r2);obtain ⟨its2,rv2,p2,_⟩:=I.list h2
   exact EqAt.bool_list b1 p2.isList (dh hu)
 | _,_,_,_,u,x,A,.bl b1,.tup h2 rs2,r1,r2,hu=>by
   cases (show u=Value.bool b1 from r1)
   cases (show x=Value.ref _ from r2);obtain ⟨its2,rv2,p2,_⟩:=I.tuple h2
   exact EqAt.bool_tuple b1 p2 (dh hu)
 | _,_,_,_,u,x,A,.int i1,.non,r1,r2,hu=>by
   obtain ⟨t1,e1⟩:=(show ∃ t,u=Value.int i1 t from r1);subst e1
   cases (show x=Value.none from r2)
   exact EqAt.int_none i1 t1
 | _,_,_,_,u,x,A,.int i1,.bl b2,r1,r2,hu=>by
   obtain ⟨t1,e1⟩:=(show ∃ t,u=Value.int i1 t from r1);subst e1
   cases (show x=Value.bool b2 from r2)
   exact EqAt.int_bool i1 t1 b2
 | _,_,_,_,u,x,A,.int i1,.int i2,r1,r2,hu=>by
   obtain ⟨t1,e1⟩:=(show ∃ t,u=Value.int i1 t from r1);subst e1
   obtain ⟨t2,e2⟩:=(show ∃ t,x=Value.int i2 t from r2);subst e2
   exact EqAt.int_int i1 t1 i2 t2
 | _,_,_,_,u,x,A,.int i1,.str y2,r1,r2,hu=>by
   obtain ⟨t1,e1⟩:=(show ∃ t,u=Value.int i1 t from r1);subst e1
   obtain ⟨t2,e2⟩:=(show ∃ t,x=Value.str y2 t from r2);subst e2
   exact EqAt.int_str i1 t1 y2 t2
 | _,_,_,_,u,x,A,.int i1,.lst h2 rs2,r1,r2,hu=>by
   obtain ⟨t1,e1⟩:=(show ∃ t,u=Value.int i1 t from r1);subst e1
   cases (show x=Value.ref _ from r2);obtain ⟨its2,rv2,p2,_⟩:=I.list h2
   exact EqAt.int_list i1 t1 p2.isList (dh hu)
 | _,_,_,_,u,x,A,.int i1,.tup h2 rs2,r1,r2,hu=>by
   obtain ⟨t1,e1⟩:=(show ∃ t,u=Value.int i1 t from r1);subst e1
   cases (show x=Value.ref _ from r2);obtain ⟨its2,rv2,p2,_⟩:=I.tuple h2
   exact EqAt.int_tuple i1 t1 p2 (dh hu)
 | _,_,_,_,u,x,A,.str y1,.non,r1,r2,hu=>by
   obtain ⟨t1,e1⟩:=(show ∃ t,u=Value.str y1 t from r1);subst e1
   cases (show x=Value.none from r2)
   exact EqAt.str_none y1 t1
 | _,_,_,_,u,x,A,.str y1,.bl b2,r1,r2,hu=>by
   obtain ⟨t1,e1⟩:=(show ∃ t,u=Value.str y1 t from r1);subst e1
   cases (show x=Value.bool b2 from r2)
   exact EqAt.str_bool y1 t1 b2
 | _,_,_,_,u,x,A,.str y1,.int i2,r1,r2,hu=>by
   obtain ⟨t1,e1⟩:=(show ∃ t,u=Value.str y1 t from r1);subst e1
   obtain ⟨t2,e2⟩:=(show ∃ t,x=Value.int i2 t from r2);subst e2
   exact EqAt.str_int y1 t1 i2 t2
 | _,_,_,_,u,x,A,.str y1,.str y2,r1,r2,hu=>by
   obtain ⟨t1,e1⟩:=(show ∃ t,u=Value.str y1 t from r1);subst e1
   obtain ⟨t2,e2⟩:=(show ∃ t,x=Value.str y2 t from r2);subst e2
   exact EqAt.str_str y1 t1 y2 t2
 | _,_,_,_,u,x,A,.str y1,.lst h2 rs2,r1,r2,hu=>by
   obtain ⟨t1,e1⟩:=(show ∃ t,u=Value.str y1 t from r1);subst e1
   cases (show x=Value.ref _ from r2);obtain ⟨its2,rv2,p2,_⟩:=I.list h2
   exact EqAt.str_list y1 t1 p2.isList (dh hu)
 | _,_,_,_,u,x,A,.str y1,.tup h2 rs2,r1,r2,hu=>by
   obtain ⟨t1,e1⟩:=(show ∃ t,u=Value.str y1 t from r1);subst e1
   cases (show x=Value.ref _ from r2);obtain ⟨its2,rv2,p2,_⟩:=I.tuple h2
   exact EqAt.str_tuple y1 t1 p2 (dh hu)
 | _,_,_,_,u,x,A,.lst h1 rs1,.non,r1,r2,hu=>by
   cases (show u=Value.ref _ from r1);obtain ⟨its1,rv1,p1,_⟩:=I.list h1
   cases (show x=Value.none from r2)
   exact EqAt.list_none p1.isList (dh hu)
 | _,_,_,_,u,x,A,.lst h1 rs1,.bl b2,r1,r2,hu=>by
   cases (show u=Value.ref _ from r1);obtain ⟨its1,rv1,p1,_⟩:=I.list h1
   cases (show x=Value.bool b2 from r2)
   exact EqAt.list_bool b2 p1.isList (dh hu)
 | _,_,_,_,u,x,A,.lst h1 rs1,.int i2,r1,r2,hu=>by
   cases (show u=Value.ref _ from r1);obtain ⟨its1,rv1,p1,_⟩:=I.list h1
   obtain ⟨t2,e2⟩:=(show ∃ t,x=Value.int i2 t from r2);subst e2
   exact EqAt.list_int i2 t2 p1.isList (dh hu)
 | _,_,_,_,u,x,A,.lst h1 rs1,.str y2,r1,r2,hu=>by
   cases (show u=Value.ref _ from r1);obtain ⟨its1,rv1,p1,_⟩:=I.list h1
   obtain ⟨t2,e2⟩:=(show ∃ t,x=Value.str y2 t from r2);subst e2
   exact EqAt.list_str y2 t2 p1.isList (dh hu)
 | _,_,_,_,u,x,A,.lst h1 rs1,.lst h2 rs2,r1,r2,hu=>by
   cases (show u=Value.ref _ from r1);obtain ⟨its1,rv1,p1,_⟩:=I.list h1
   cases (show x=Value.ref _ from r2);obtain ⟨its2,rv2,p2,_⟩:=I.list h2
   exact QF I h1 h2 rs1 rs2 rv1 rv2 p1.isList p2.isList (hu0 hu) (jR I rs1 rs2 rv1 rv2 (hu1 hu))
 | _,_,_,_,u,x,A,.lst h1 rs1,.tup h2 rs2,r1,r2,hu=>by
   cases (show u=Value.ref _ from r1);obtain ⟨its1,rv1,p1,_⟩:=I.list h1
   cases (show x=Value.ref _ from r2);obtain ⟨its2,rv2,p2,_⟩:=I.tuple h2
   exact EqAt.list_tuple p1.isList p2 (dh hu)
 | _,_,_,_,u,x,A,.tup h1 rs1,.non,r1,r2,hu=>by
   cases (show u=Value.ref _ from r1);obtain ⟨its1,rv1,p1,_⟩:=I.tuple h1
   cases (show x=Value.none from r2)
   exact EqAt.tuple_none p1 (dh hu)
 | _,_,_,_,u,x,A,.tup h1 rs1,.bl b2,r1,r2,hu=>by
   cases (show u=Value.ref _ from r1);obtain ⟨its1,rv1,p1,_⟩:=I.tuple h1
   cases (show x=Value.bool b2 from r2)
   exact EqAt.tuple_bool b2 p1 (dh hu)
 | _,_,_,_,u,x,A,.tup h1 rs1,.int i2,r1,r2,hu=>by
   cases (show u=Value.ref _ from r1);obtain ⟨its1,rv1,p1,_⟩:=I.tuple h1
   obtain ⟨t2,e2⟩:=(show ∃ t,x=Value.int i2 t from r2);subst e2
   exact EqAt.tuple_int i2 t2 p1 (dh hu)
 | _,_,_,_,u,x,A,.tup h1 rs1,.str y2,r1,r2,hu=>by
   cases (show u=Value.ref _ from r1);obtain ⟨its1,rv1,p1,_⟩:=I.tuple h1
   obtain ⟨t2,e2⟩:=(show ∃ t,x=Value.str y2 t from r2);subst e2
   exact EqAt.tuple_str y2 t2 p1 (dh hu)
 | _,_,_,_,u,x,A,.tup h1 rs1,.lst h2 rs2,r1,r2,hu=>by
   cases (show u=Value.ref _ from r1);obtain ⟨its1,rv1,p1,_⟩:=I.tuple h1
   cases (show x=Value.ref _ from r2);obtain ⟨its2,rv2,p2,_⟩:=I.list h2
   exact EqAt.tuple_list p1 p2.isList (dh hu)
 | _,_,_,_,u,x,A,.tup h1 rs1,.tup h2 rs2,r1,r2,hu=>by
   cases (show u=Value.ref _ from r1);obtain ⟨its1,rv1,p1,_⟩:=I.tuple h1
   cases (show x=Value.ref _ from r2);obtain ⟨its2,rv2,p2,_⟩:=I.tuple h2
   exact eqT I h1 h2 rs1 rs2 rv1 rv2 p1 p2 (hu0 hu) (jR I rs1 rs2 rv1 rv2 (hu1 hu))
theorem jR (I:Inv X Z O H s):∀ {vs ws:List V} {ds es:List PyData} {us xs:List Value} {A:Around},cN X.K H vs ds->cN X.K H ws es->Vals vs us->Vals ws xs->A.units+bH ds<cLine->
 ∀ j (h1:j<us.length) (h2:j<xs.length),EqAt A s us[j] xs[j] (dY (ds.getD j .none) (es.getD j .none))
 |_,_,_,_,_,_,_,.nil,_,.nil,_,_,j,h1,_=>absurd h1 (Nat.not_lt_zero _)
 |_,_,_,_,_,_,_,.cons _ _,.nil,.cons _ _,.nil,_,j,_,h2=>absurd h2 (Nat.not_lt_zero _)
 |_,_,_,_,_,_,_,.cons a b,.cons c d,.cons r rs,.cons t ts,hu,0,_,_=>Cy I a c r t (by simp only [bH] at hu;simp only [List.getD_cons_zero];omega)
 |_,_,_,_,_,_,_,.cons a b,.cons c d,.cons r rs,.cons t ts,hu,j+1,h1,h2=>jR I b d rs ts (by simp only [bH] at hu;omega) j (by simpa using h1) (by simpa using h2)
end
theorem Hf (I:Inv X Z O H s):∀ {v w:V} {d e:PyData} {u x:Value} {A:Around},Rep X.K H v d->Rep X.K H w e->RelV v u->RelV w x->A.units+dm d<cLine->RcAt A s u x (dY d e)
 | _,_,_,_,u,x,A,.non,.non,r1,r2,hu=>by
   cases (show u=Value.none from r1)
   cases (show x=Value.none from r2)
   exact RcAt.none_none
 | _,_,_,_,u,x,A,.non,.bl b2,r1,r2,hu=>by
   cases (show u=Value.none from r1)
   cases (show x=Value.bool b2 from r2)
   exact RcAt.none_bool b2
 | _,_,_,_,u,x,A,.non,.int i2,r1,r2,hu=>by
   cases (show u=Value.none from r1)
   obtain ⟨t2,e2⟩:=(show ∃ t,x=Value.int i2 t from r2);subst e2
   exact RcAt.none_int i2 t2
 | _,_,_,_,u,x,A,.non,.str y2,r1,r2,hu=>by
   cases (show u=Value.none from r1)
   obtain ⟨t2,e2⟩:=(show ∃ t,x=Value.str y2 t from r2);subst e2
   exact RcAt.none_str y2 t2
 | _,_,_,_,u,x,A,.non,.lst h2 rs2,r1,r2,hu=>by
   cases (show u=Value.none from r1)
   cases (show x=Value.ref _ from r2);obtain ⟨its2,rv2,p2,_⟩:=I.list h2
   exact RcAt.none_list p2.isList (dh hu)
 | _,_,_,_,u,x,A,.non,.tup h2 rs2,r1,r2,hu=>by
   cases (show u=Value.none from r1)
   cases (show x=Value.ref _ from r2);obtain ⟨its2,rv2,p2,_⟩:=I.tuple h2
   exact RcAt.none_tuple p2 (dh hu)
 | _,_,_,_,u,x,A,.bl b1,.non,r1,r2,hu=>by
   cases (show u=Value.bool b1 from r1)
   cases (show x=Value.none from r2)
   exact RcAt.bool_none b1
 | _,_,_,_,u,x,A,.bl b1,.bl b2,r1,r2,hu=>by
   cases (show u=Value.bool b1 from r1)
   cases (show x=Value.bool b2 from r2)
   exact RcAt.bool_bool b1 b2
 | _,_,_,_,u,x,A,.bl b1,.int i2,r1,r2,hu=>by
   cases (show u=Value.bool b1 from r1)
   obtain ⟨t2,e2⟩:=(show ∃ t,x=Value.int i2 t from r2);subst e2
   exact RcAt.bool_int b1 i2 t2
 | _,_,_,_,u,x,A,.bl b1,.str y2,r1,r2,hu=>by
   cases (show u=Value.bool b1 from r1)
   obtain ⟨t2,e2⟩:=(show ∃ t,x=Value.str y2 t from r2);subst e2
   exact RcAt.bool_str b1 y2 t2
 | _,_,_,_,u,x,A,.bl b1,.lst h2 rs2,r1,r2,hu=>by
   cases (show u=Value.bool b1 from r1)
   cases (show x=Value.ref _ from r2);obtain ⟨its2,rv2,p2,_⟩:=I.list h2
   exact RcAt.bool_list b1 p2.isList (dh hu)
 | _,_,_,_,u,x,A,.bl b1,.tup h2 rs2,r1,r2,hu=>by
   cases (show u=Value.bool b1 from r1)
   cases (show x=Value.ref _ from r2);obtain ⟨its2,rv2,p2,_⟩:=I.tuple h2
   exact RcAt.bool_tuple b1 p2 (dh hu)
 | _,_,_,_,u,x,A,.int i1,.non,r1,r2,hu=>by
   obtain ⟨t1,e1⟩:=(show ∃ t,u=Value.int i1 t from r1);subst e1
   cases (show x=Value.none from r2)
   exact RcAt.int_none i1 t1
 | _,_,_,_,u,x,A,.int i1,.bl b2,r1,r2,hu=>by
   obtain ⟨t1,e1⟩:=(show ∃ t,u=Value.int i1 t from r1);subst e1
   cases (show x=Value.bool b2 from r2)
   exact RcAt.int_bool i1 t1 b2
 | _,_,_,_,u,x,A,.int i1,.int i2,r1,r2,hu=>by
   obtain ⟨t1,e1⟩:=(show ∃ t,u=Value.int i1 t from r1);subst e1
   obtain ⟨t2,e2⟩:=(show ∃ t,x=Value.int i2 t from r2);subst e2
   exact RcAt.int_int i1 t1 i2 t2
 | _,_,_,_,u,x,A,.int i1,.str y2,r1,r2,hu=>by
   obtain ⟨t1,e1⟩:=(show ∃ t,u=Value.int i1 t from r1);subst e1
   obtain ⟨t2,e2⟩:=(show ∃ t,x=Value.str y2 t from r2);subst e2
   exact RcAt.int_str i1 t1 y2 t2
 | _,_,_,_,u,x,A,.int i1,.lst h2 rs2,r1,r2,hu=>by
   obtain ⟨t1,e1⟩:=(show ∃ t,u=Value.int i1 t from r1);subst e1
   cases (show x=Value.ref _ from r2);obtain ⟨its2,rv2,p2,_⟩:=I.list h2
   exact RcAt.int_list i1 t1 p2.isList (dh hu)
 | _,_,_,_,u,x,A,.int i1,.tup h2 rs2,r1,r2,hu=>by
   obtain ⟨t1,e1⟩:=(show ∃ t,u=Value.int i1 t from r1);subst e1
   cases (show x=Value.ref _ from r2);obtain ⟨its2,rv2,p2,_⟩:=I.tuple h2
   exact RcAt.int_tuple i1 t1 p2 (dh hu)
 | _,_,_,_,u,x,A,.str y1,.non,r1,r2,hu=>by
   obtain ⟨t1,e1⟩:=(show ∃ t,u=Value.str y1 t from r1);subst e1
   cases (show x=Value.none from r2)
   exact RcAt.str_none y1 t1
 | _,_,_,_,u,x,A,.str y1,.bl b2,r1,r2,hu=>by
   obtain ⟨t1,e1⟩:=(show ∃ t,u=Value.str y1 t from r1);subst e1
   cases (show x=Value.bool b2 from r2)
   exact RcAt.str_bool y1 t1 b2
 | _,_,_,_,u,x,A,.str y1,.int i2,r1,r2,hu=>by
   obtain ⟨t1,e1⟩:=(show ∃ t,u=Value.str y1 t from r1);subst e1
   obtain ⟨t2,e2⟩:=(show ∃ t,x=Value.int i2 t from r2);subst e2
   exact RcAt.str_int y1 t1 i2 t2
 | _,_,_,_,u,x,A,.str y1,.str y2,r1,r2,hu=>by
   obtain ⟨t1,e1⟩:=(show ∃ t,u=Value.str y1 t from r1);subst e1
   obtain ⟨t2,e2⟩:=(show ∃ t,x=Value.str y2 t from r2);subst e2
   exact RcAt.str_str y1 t1 y2 t2
 | _,_,_,_,u,x,A,.str y1,.lst h2 rs2,r1,r2,hu=>by
   obtain ⟨t1,e1⟩:=(show ∃ t,u=Value.str y1 t from r1);subst e1
   cases (show x=Value.ref _ from r2);obtain ⟨its2,rv2,p2,_⟩:=I.list h2
   exact RcAt.str_list y1 t1 p2.isList (dh hu)
 | _,_,_,_,u,x,A,.str y1,.tup h2 rs2,r1,r2,hu=>by
   obtain ⟨t1,e1⟩:=(show ∃ t,u=Value.str y1 t from r1);subst e1
   cases (show x=Value.ref _ from r2);obtain ⟨its2,rv2,p2,_⟩:=I.tuple h2
   exact RcAt.str_tuple y1 t1 p2 (dh hu)
 | _,_,_,_,u,x,A,.lst h1 rs1,.non,r1,r2,hu=>by
   cases (show u=Value.ref _ from r1);obtain ⟨its1,rv1,p1,_⟩:=I.list h1
   cases (show x=Value.none from r2)
   exact RcAt.list_none p1.isList (dh hu)
 | _,_,_,_,u,x,A,.lst h1 rs1,.bl b2,r1,r2,hu=>by
   cases (show u=Value.ref _ from r1);obtain ⟨its1,rv1,p1,_⟩:=I.list h1
   cases (show x=Value.bool b2 from r2)
   exact RcAt.list_bool b2 p1.isList (dh hu)
 | _,_,_,_,u,x,A,.lst h1 rs1,.int i2,r1,r2,hu=>by
   cases (show u=Value.ref _ from r1);obtain ⟨its1,rv1,p1,_⟩:=I.list h1
   obtain ⟨t2,e2⟩:=(show ∃ t,x=Value.int i2 t from r2);subst e2
   exact RcAt.list_int i2 t2 p1.isList (dh hu)
 | _,_,_,_,u,x,A,.lst h1 rs1,.str y2,r1,r2,hu=>by
   cases (show u=Value.ref _ from r1);obtain ⟨its1,rv1,p1,_⟩:=I.list h1
   obtain ⟨t2,e2⟩:=(show ∃ t,x=Value.str y2 t from r2);subst e2
   exact RcAt.list_str y2 t2 p1.isList (dh hu)
 | _,_,_,_,u,x,A,.lst h1 rs1,.lst h2 rs2,r1,r2,hu=>by
   cases (show u=Value.ref _ from r1);obtain ⟨its1,rv1,p1,_⟩:=I.list h1
   cases (show x=Value.ref _ from r2);obtain ⟨its2,rv2,p2,_⟩:=I.list h2
   exact Oo rs1 rs2 rv1 rv2 p1.isList p2.isList (hu0 hu) (jR I rs1 rs2 rv1 rv2 (hu1 hu))
 | _,_,_,_,u,x,A,.lst h1 rs1,.tup h2 rs2,r1,r2,hu=>by
   cases (show u=Value.ref _ from r1);obtain ⟨its1,rv1,p1,_⟩:=I.list h1
   cases (show x=Value.ref _ from r2);obtain ⟨its2,rv2,p2,_⟩:=I.tuple h2
   exact RcAt.list_tuple p1.isList p2 (dh hu)
 | _,_,_,_,u,x,A,.tup h1 rs1,.non,r1,r2,hu=>by
   cases (show u=Value.ref _ from r1);obtain ⟨its1,rv1,p1,_⟩:=I.tuple h1
   cases (show x=Value.none from r2)
   exact RcAt.tuple_none p1 (dh hu)
 | _,_,_,_,u,x,A,.tup h1 rs1,.bl b2,r1,r2,hu=>by
   cases (show u=Value.ref _ from r1);obtain ⟨its1,rv1,p1,_⟩:=I.tuple h1
   cases (show x=Value.bool b2 from r2)
   exact RcAt.tuple_bool b2 p1 (dh hu)
 | _,_,_,_,u,x,A,.tup h1 rs1,.int i2,r1,r2,hu=>by
   cases (show u=Value.ref _ from r1);obtain ⟨its1,rv1,p1,_⟩:=I.tuple h1
   obtain ⟨t2,e2⟩:=(show ∃ t,x=Value.int i2 t from r2);subst e2
   exact RcAt.tuple_int i2 t2 p1 (dh hu)
 | _,_,_,_,u,x,A,.tup h1 rs1,.str y2,r1,r2,hu=>by
   cases (show u=Value.ref _ from r1);obtain ⟨its1,rv1,p1,_⟩:=I.tuple h1
   obtain ⟨t2,e2⟩:=(show ∃ t,x=Value.str y2 t from r2);subst e2
   exact RcAt.tuple_str y2 t2 p1 (dh hu)
 | _,_,_,_,u,x,A,.tup h1 rs1,.lst h2 rs2,r1,r2,hu=>by
   cases (show u=Value.ref _ from r1);obtain ⟨its1,rv1,p1,_⟩:=I.tuple h1
   cases (show x=Value.ref _ from r2);obtain ⟨its2,rv2,p2,_⟩:=I.list h2
   exact RcAt.tuple_list p1 p2.isList (dh hu)
 | _,_,_,_,u,x,A,.tup h1 rs1,.tup h2 rs2,r1,r2,hu=>by
   cases (show u=Value.ref _ from r1);obtain ⟨its1,rv1,p1,_⟩:=I.tuple h1
   cases (show x=Value.ref _ from r2);obtain ⟨its2,rv2,p2,_⟩:=I.tuple h2
   exact P_ rs1 rs2 rv1 rv2 p1 p2 (hu0 hu) (jR I rs1 rs2 rv1 rv2 (hu1 hu))
end
section
variable {X:Cx}
def Eo (K:PySem.W.Frag):R2:=fun x y H Q=>∃ d e,Rep K H x d/\Rep K H y e/\dm d≤60/\Q (.bl (dY d e)) H
theorem oA (hu:X.A.units+64<cLine):jy X (compareOp .Eq) (Eo X.K):=by
 intro Z s O H x y v u Q I rx ry h
 obtain ⟨d,e,h1,h2,hd,q⟩:=h
 exact Hf I h1 h2 rx ry (by omega) _ _ _ _ ⟨.bl _,H,I,rfl,q⟩
def Ii (K:PySem.W.Frag):R2:=fun x y H Q=>∃ d e,Rep K H x (.tuple d)/\Rep K H y (.tuple e)/\bH d≤60/\Q (.bl (!cQ d e)) H
theorem Do (hu:X.A.units+64<cLine):jy X (compareOp .NotEq) (Ii X.K):=by
 intro Z s O H x y v u Q I rx ry h
 obtain ⟨d,e,h1,h2,hd,q⟩:=h
 cases h1 with
 | tup g1 rs1=>
   cases h2 with
   | tup g2 rs2=>
     cases (show v=Value.ref _ from rx)
     cases (show u=Value.ref _ from ry)
     obtain ⟨its1,rv1,p1,_⟩:=I.tuple g1
     obtain ⟨its2,rv2,p2,_⟩:=I.tuple g2
     have hz:=uK (X:=X) (H:=H) (A:=X.A) rs1 rs2 rv1 rv2
     have hw:=RcNeAt.tuples (A:=X.A) (show s.heap.IsTuple _ its1.toArray from p1) (show s.heap.IsTuple _ its2.toArray from p2) (by omega)
      (e:=fun j=>dY (d.getD j .none) (e.getD j .none)) (fun j h1 h2=>by simpa using jR I rs1 rs2 rv1 rv2 (A:=X.A.in1) (by show X.A.units+1+_<_;omega) j (by simpa using h1) (by simpa using h2))
     rw [hz] at hw
     exact hw _ _ _ _ ⟨.bl _,H,I,rfl,q⟩
theorem mU {e:PyData}:∀ {es:List PyData},e∈es->dm e≤bH es
 |_::_,.head _=>by simp only [bH];omega
 |_::r,.tail _ h=>by have:=mU h;simp only [bH];omega
def Ky:PyData->String
 |.none=>"NoneType"
 |.bool _=>"bool"
 |.int _=>"int"
 |.str _=>"str"
 |.list _=>"list"
 |.tuple _=>"tuple"
 |.dict _=>"dict"
theorem isD {Z:List (Addr×Obj)} {O:St} {H:Hp} {s:Shared} {A:Around} {E:Value->Shared->Prop} {Q:Value->Shared->Prop} {v:V} {d:PyData} {u c:Value} {b:Bool} (I:Inv X Z O H s) (r:Rep X.K H v d) (rv:RelV v u)
 (e:PySem.W.kitOne X.K (.type (Ky d)) c=some b) (h:∀ tk,Q (.bool b) { s with toks:=tk }):wpAny (model X.prog X.w) A (call (.builtin "isinstance") [u,c]) Q E s:=by
 cases r with
 |non=>cases (show u=Value.none from rv);exact PySem.W.kia_one PySem.W.kitx_none I.kIn True.intro e (fun z=>nomatch z) h
 |bl y=>cases (show u=Value.bool y from rv);exact PySem.W.kia_one PySem.W.kitx_bool I.kIn True.intro e (fun z=>nomatch z) h
 |int i=>obtain ⟨t,q⟩:=(show ∃ t,u=Value.int i t from rv);cases q;exact PySem.W.kia_one PySem.W.kitx_int I.kIn True.intro e (fun z=>nomatch z) h
 |str y=>obtain ⟨t,q⟩:=(show ∃ t,u=Value.str y t from rv);cases q;exact PySem.W.kia_one PySem.W.kitx_str I.kIn True.intro e (fun z=>nomatch z) h
 | tup g _=>
   cases (show u=Value.ref _ from rv)
   obtain ⟨_,_,⟨o,h1,h2,_⟩,_⟩:=I.tuple g
   exact PySem.W.kia_one PySem.W.kitx_tuple I.kIn ⟨o,h1,h2⟩ e (fun z=>nomatch z) h
 | lst g _=>
   cases (show u=Value.ref _ from rv)
   obtain ⟨_,_,⟨o,n,h1,h2,_⟩,_⟩:=I.list g
   exact PySem.W.kia_one PySem.W.kitx_list I.kIn ⟨o,h1,h2⟩ e (fun z=>nomatch z) h
theorem KN {Z:List (Addr×Obj)} {O:St} {H:Hp} {s:Shared} {A:Around} {E:Value->Shared->Prop} {Q:Value->Shared->Prop} {v:V} {d:PyData} {u:Value} {tp:Addr} {dd:Option Addr} {its:List Value} {n:Nat} {sl:Array (Option Value)} {b:Bool} (I:Inv X Z O H s) (r:Rep X.K H v d) (rv:RelV v u)
 (htp:s.heap.get? tp=some ⟨.type "tuple",dd,.seq its.toArray n,sl⟩) (e:PySem.W.kitAny X.K (.type (Ky d)) its=some b) (h:∀ tk,Q (.bool b) { s with toks:=tk }):wpAny (model X.prog X.w) A (call (.builtin "isinstance") [u,.ref tp]) Q E s:=by
 cases r with
 |non=>cases (show u=Value.none from rv);exact PySem.W.kia_tup PySem.W.kitx_none I.kIn True.intro htp e (fun z=>nomatch z) h
 |bl y=>cases (show u=Value.bool y from rv);exact PySem.W.kia_tup PySem.W.kitx_bool I.kIn True.intro htp e (fun z=>nomatch z) h
 |int i=>obtain ⟨t,q⟩:=(show ∃ t,u=Value.int i t from rv);cases q;exact PySem.W.kia_tup PySem.W.kitx_int I.kIn True.intro htp e (fun z=>nomatch z) h
 |str y=>obtain ⟨t,q⟩:=(show ∃ t,u=Value.str y t from rv);cases q;exact PySem.W.kia_tup PySem.W.kitx_str I.kIn True.intro htp e (fun z=>nomatch z) h
 | tup g _=>
   cases (show u=Value.ref _ from rv)
   obtain ⟨_,_,⟨o,h1,h2,_⟩,_⟩:=I.tuple g
   exact PySem.W.kia_tup PySem.W.kitx_tuple I.kIn ⟨o,h1,h2⟩ htp e (fun z=>nomatch z) h
 | lst g _=>
   cases (show u=Value.ref _ from rv)
   obtain ⟨_,_,⟨o,n,h1,h2,_⟩,_⟩:=I.list g
   exact PySem.W.kia_tup PySem.W.kitx_list I.kIn ⟨o,h1,h2⟩ htp e (fun z=>nomatch z) h
def Hj (K:PySem.W.Frag):List V->Hp->VK->Prop:=fun xs H Q=>∃ x n d b,xs=[x,.ty n]/\Rep K H x d/\PySem.W.kitOne K (.type (Ky d)) (.type n)=some b/\Q (.bl b) H
theorem cL:dH X (.builtin "isinstance") (Hj X.K):=by
 intro Z s O H xs us Q I r h
 obtain ⟨x,n,d,b,rfl,hr,e,q⟩:=h
 cases r with
 | cons r1 r=>
   cases r with
   | cons r2 r=>
     cases r
     cases (show _=Value.type n from r2)
     exact isD I hr r1 e fun tk=>⟨.bl b,H,I.tok tk,rfl,q⟩
def JT (K:PySem.W.Frag):List V->Hp->VK->Prop:=fun xs H Q=>∃ x a n m d b,xs=[x,.ref a]/\H a=some (.tup [.ty n,.ty m])/\Rep K H x d/\PySem.W.kitAny K (.type (Ky d)) [.type n,.type m]=some b/\Q (.bl b) H
theorem oZ:dH X (.builtin "isinstance") (JT X.K):=by
 intro Z s O H xs us Q I r h
 obtain ⟨x,a,n,m,d,b,rfl,ha,hr,e,q⟩:=h
 cases r with
 | cons r1 r=>
   cases r with
   | cons r2 r=>
     cases r
     cases (show _=Value.ref a from r2)
     obtain ⟨z,its,rv,o,h1,h2,k,h3⟩:=(show bZ X.prog X.w H s.heap a (.tup [.ty n,.ty m]) from I.hok a _ ha)
     obtain ⟨cls,dd,data,sl⟩:=o
     simp only at h2 h3
     subst h2 h3
     cases rv with
     | cons g1 rv=>
       cases rv with
       | cons g2 rv=>
         cases rv
         cases (show _=Value.type n from g1)
         cases (show _=Value.type m from g2)
         exact KN I hr r1 h1 e fun tk=>⟨.bl b,H,I.tok tk,rfl,q⟩
theorem rB {xs:List V} {us:List Value}:∀ {bs:List Bool},xs=bs.map V.bl->Vals xs us->us=bs.map Value.bool:=by
 intro bs e r
 induction bs generalizing xs us with
 |nil=>subst e;cases r;rfl
 | cons b t ih=>
   subst e
   cases r with
   |cons r1 r=>rw [List.map_cons,ih rfl r,(show _=Value.bool b from r1)]
theorem range_all (bs:List Bool):(List.range bs.length).all (fun i=>bs.getD i false)=bs.all id:=by
 induction bs with
 |nil=>rfl
 |cons b t ih=>rw [List.length_cons,List.range_succ_eq_map,List.all_cons,List.all_map,List.all_cons,← ih];rfl
theorem range_any (bs:List Bool):(List.range bs.length).any (fun i=>bs.getD i false)=bs.any id:=by
 induction bs with
 |nil=>rfl
 |cons b t ih=>rw [List.length_cons,List.range_succ_eq_map,List.any_cons,List.any_map,List.any_cons,← ih];rfl
theorem mj {P:Program} {w:World} {A:Around} {bs:List Bool}:TruthOf P w A (fun i v=>((bs.map Value.bool).toArray)[i]?=some v) fun i=>bs.getD i false:=fun i v s Q E hP hQ=>by
 dsimp only at hP hQ
 rw [List.getElem?_toArray,List.getElem?_map] at hP
 cases e:bs[i]? with
 |none=>rw [e] at hP;cases hP
 | some b=>
   rw [e] at hP
   cases hP
   rw [List.getD_eq_getElem?_getD,e] at hQ
   exact wpAny_pure hQ
def Dc (K:PySem.W.Frag) (f:List Bool->Bool):List V->Hp->VK->Prop:=fun xs H Q=>∃ a bs,xs=[.ref a]/\aQ K H a (bs.map V.bl)/\Q (.bl (f bs)) H
theorem iw (hh:X.calm=true):dH X (.builtin "all") (Dc X.K fun bs=>bs.all id):=by
 intro Z s O H xs us Q I r h
 obtain ⟨a,bs,rfl,hq,q⟩:=h
 cases r with
 | cons r1 r=>
   cases r
   cases (show _=Value.ref a from r1)
   obtain ⟨its,rv,p,hz⟩:=I.list hq
   have e:=rB rfl rv
   subst e
   refine PySem.call_all_walk (wpAny_pyIter_list p.isList ?_)
   have hne:a≠s.heap.objs.size:=(by obtain ⟨o,ho,_⟩:=p.isList;exact Nat.ne_of_lt (Heap.lt_size ho))
   refine ⟨s.heap.objs.size,_,_,_,_,_,_,rfl,Walks.list (A:=X.A.in1) (I.ok.hd hh) s.heap.objs.size a hne (bs.map Value.bool).toArray,⟨⟨_,Heap.get?_push_size _ rfl,rfl,rfl⟩,?_⟩,mj,fun h' tk hk=>?_⟩
   ·obtain ⟨o,ho,hc,n,hd⟩:=p.isList
    exact ⟨o,Heap.get?_push_of_some _ ho,hc,n,hd⟩
   ·rw [List.size_toArray,List.length_map,range_all]
    exact ⟨.bl _,H,I.kept fun b o e=>hk b o (by simp;exact Nat.ne_of_lt (Heap.lt_size e)) (Heap.get?_push_of_some _ e),rfl,q⟩
theorem xN (hh:X.calm=true):dH X (.builtin "any") (Dc X.K fun bs=>bs.any id):=by
 intro Z s O H xs us Q I r h
 obtain ⟨a,bs,rfl,hq,q⟩:=h
 cases r with
 | cons r1 r=>
   cases r
   cases (show _=Value.ref a from r1)
   obtain ⟨its,rv,p,hz⟩:=I.list hq
   have e:=rB rfl rv
   subst e
   refine PySem.call_any_walk (wpAny_pyIter_list p.isList ?_)
   have hne:a≠s.heap.objs.size:=(by obtain ⟨o,ho,_⟩:=p.isList;exact Nat.ne_of_lt (Heap.lt_size ho))
   refine ⟨s.heap.objs.size,_,_,_,_,_,_,rfl,Walks.list (A:=X.A.in1) (I.ok.hd hh) s.heap.objs.size a hne (bs.map Value.bool).toArray,⟨⟨_,Heap.get?_push_size _ rfl,rfl,rfl⟩,?_⟩,mj,fun h' tk hk=>?_⟩
   ·obtain ⟨o,ho,hc,n,hd⟩:=p.isList
    exact ⟨o,Heap.get?_push_of_some _ ho,hc,n,hd⟩
   ·rw [List.size_toArray,List.length_map,range_any]
    exact ⟨.bl _,H,I.kept fun b o e=>hk b o (by simp;exact Nat.ne_of_lt (Heap.lt_size e)) (Heap.get?_push_of_some _ e),rfl,q⟩
end
structure CZ (osc:Scope) (N:List Str) (scope:Scope) (own:List Str) (js:List Nat) (N':List Str):Prop where
 kind:scope.kind=.function
 nocell:∀ y∈scope.names,y.2≠.cell
 names:∀ y∈scope.names,y.2=.local->scope.names.lookup y.1=some .local
 free:∀ y∈scope.names,y.2=.free->osc.names.lookup y.1=some .cell∨osc.names.lookup y.1=some .free
 nm:N'=own++js.map fun j=>N.getD j Str.empty
 fr:∀ j∈js,j<N.length/\(N.getD j Str.empty,NameKind.free)∈scope.names/\∀ y∈scope.names,y.1=N.getD j Str.empty->y.2=.free
theorem aJ.of {X:Cx} {osc scope:Scope} {N own N':List Str} {js:List Nat} (h1:X.env.scope=osc) (h2:X.N=N) (h:CZ osc N scope own js N'):aJ X scope own js N':=by
 subst h1 h2
 exact ⟨h.kind,h.nocell,h.names,h.free,h.nm,fun j hj=>⟨(h.fr j hj).1,(h.fr j hj).2.1,fun k hk=>(h.fr j hj).2.2 _ hk rfl⟩⟩
mutual
def jE:PyData->Nat
 |.tuple xs=>max xs.length (eU xs)
 |.list xs=>max xs.length (eU xs)
 |_=>0
def eU:List PyData->Nat
 |[]=>0
 |d::r=>max (jE d) (eU r)
end
theorem ni {e:PyData}:∀ {es:List PyData},e∈es->jE e≤eU es
 |_::_,.head _=>by simp only [eU];omega
 |_::r,.tail _ h=>by have:=ni h;simp only [eU];omega
theorem eZ {X:Cx} {x:Str} {n:String} {pos:Pos} (hg:Gl X x) (hm:X.mg x=none) (hv:bootBuiltins x=some (.type n)) (hn:x ≠ "__name__":=by decide) (hd:(x == ("__debug__" : Str))=false:=by decide):PE X (.Name x pos) (tC (.ty n)):=Bx (v:=.ty n) hg hm hv rfl hn hd
theorem jt {c:Bool} {A B:Prop} (h:c=true) (q:A):if c=true then A else B:=by rw [if_pos h];exact q
theorem eG {c:Bool} {A B:Prop} (h:c=false) (q:B):if c=true then A else B:=by rw [if_neg (by rw [h];exact Bool.false_ne_true)];exact q
section
variable {X:Cx} {a b c d:Expr} {ta tb tc td:TE} {pos:Pos}
end
abbrev TF:=Str->St->Hp->VK->Prop
def PF (X:Cx) (es:List Expr) (t:TF):Prop:=
 ∀ (out:Str) (Z:List (Addr×Obj)) (s:Shared) (O:St) (H:Hp) (Q:VK),Inv X Z O H s->t out O H Q->wpAny (model X.prog X.w) X.A (joinParts out (evalEach es X.env)) (EP X Z O Q) X.xe s
def HH (x:V) (y:Str):Prop:=(x=.str y/\y.length≤sizeLine)∨∃ i:Int,x=.int i/\i.natAbs.log2<1920/\y=Str.ofString (toString i)
section
variable {X:Cx} {es:List Expr} {t:TF} {e:Expr} {te:TE} {pos:Pos}
theorem lN:PF X [] (fun out _ H Q=>out.length≤sizeLine/\Q (.str out) H):=fun out Z s O H Q I h=>joinParts_nil ⟨.str out,H,I.tok _,⟨_,rfl⟩,h.2⟩ h.1
theorem iu {x:Str} {j:Nat} (hr:PF X es t) (hs:evalEach (.Constant (.str x) j pos::es) X.env=eval (.Constant (.str x) j pos) X.env::evalEach es X.env:=by rfl) :
 PF X (.Constant (.str x) j pos::es) (fun out O H Q=>(out++x).length≤sizeLine/\t (out++x) O H Q):=by
 intro out Z s O H Q I h
 rw [hs]
 exact joinParts_cons (Calls.Constant_str ⟨h.1,hr (out++x) Z _ O H Q (I.tok _) h.2⟩)
theorem ir (he:PE X e te) (hr:PF X es t) (hs:evalEach (.FormattedValue e (-1) none pos::es) X.env=eval (.FormattedValue e (-1) none pos) X.env::evalEach es X.env:=by rfl) :
 PF X (.FormattedValue e (-1) none pos::es) (fun out O H Q=>te O H fun x H1=>∃ y,HH x y/\(out++y).length≤sizeLine/\t (out++y) O H1 Q):=by
 intro out Z s O H Q I h
 rw [hs]
 refine joinParts_cons (FormattedValue_plain (cj (he Z s O H _ I h) fun v s1 ⟨x,H1,I1,r1,y,fm,hl,q⟩=>?_))
 rcases fm with ⟨rfl,hy⟩|⟨i,rfl,hi,rfl⟩
 ·obtain ⟨tk,rfl⟩:=r1
  exact formatField_str (fun t' tk=>⟨hl,hr _ Z _ O H1 Q (I1.tok tk) q⟩) hy
 ·obtain ⟨tk,rfl⟩:=r1
  exact formatField_int_small hi ⟨hl,hr _ Z _ O H1 Q (I1.tok _) q⟩
def Dd (t:TF):TE:=fun O H Q=>t Str.empty O H Q
theorem jn {e1 e2:Expr} (h:PF X (e1::e2::es) t) (hs:evalEach (e1::e2::es) X.env=eval e1 X.env::eval e2 X.env::evalEach es X.env:=by rfl):PE X (.JoinedStr (e1::e2::es) pos) (Dd t):=by
 intro Z s O H Q I hw
 refine JoinedStr_many ?_
 rw [← hs]
 exact h _ Z s O H Q I hw
end
section
variable {X:Cx} {CX:jG} {k:Nat} {f C:Addr} {fd:FuncData} {ps:List Str} {sp:Sp} {E:XK}
end
end L2
namespace HT
open PySem PySem.Spec PyProof.Rows
section
variable {prog:Program} {w:World} {A:Around} {E:Value->Shared->Prop} {s:Shared}
theorem wL {t sl:Addr} {items:Array Value} {a b c:Value} {lo step:Int} {n:Nat} {Q:Value->Shared->Prop} (ht:IsTup s.heap t items) (hs:s.heap.IsSliceOf sl a b c)
 (ha:∀ (A':Around) (Q':Int×Int×Nat->Shared->Prop) (E':Value->Shared->Prop),Q' (lo,step,n) s->wpAny (model prog w) A' (Builtin.Slice.sliceApplied (.ref sl) (pure (items.size:Int))) Q' E' s)
 (h1:(lo == 0 && step == 1 && n == items.size)=true->Q (.ref t) s)
 (h2:¬ (lo == 0 && step == 1 && n == items.size)=true->((List.range n).filterMap fun (k:Nat)=>items[(lo+(k:Int)*step).toNat]?).length≤sizeLine/\
  Q (.ref s.heap.objs.size) { s with heap:=s.heap.push { cls:=.type "tuple",data:=.seq ((List.range n).filterMap fun (k:Nat)=>items[(lo+(k:Int)*step).toNat]?).toArray } }) :
 wpAny (model prog w) A (getItem (.ref t) (.ref sl)) Q E s:=by
 obtain ⟨so,hso,hsc,hsd⟩:=id hs
 have hty:s.TypeIs (.ref sl) "slice":=⟨so,hso,hsc⟩
 obtain ⟨to,hto,htc,nt,htd⟩:=id ht
 unfold getItem
 try with_reducible refine wpAny_holding ?_
 first|refine wpAny_bind (wpAny_pure ?_)|skip
 refine wpAny_bind (wpAny_sequenceKey ht.typeIs (by decide) (wpAny_bind (wpAny_callSpecial?_slot (name:=Str.ofString "__getitem__") ht.typeIs PyProof.Rows.slot_tuple_getitem (wpAny_call_entry PyProof.Rows.slot_tuple_getitem ht.typeIs entry_tuple_getitem ?_ (args_tuple_getitem _ _)))))
 show wpAny _ _ (Builtin.Tuple.tupleItemsOf (.ref t) >>= _) _ _ s
 refine wpAny_bind (tupleItemsOf_ ht (wpAny_bind (wpAny_typeOf hty ?_)))
 rw [if_pos (by decide)]
 refine wpAny_bind (ha _ _ _ ?_)
 show wpAny _ _ (if (lo == 0 && step == 1 && n == items.size)=true then _ else _) _ _ s
 by_cases hw:(lo == 0 && step == 1 && n == items.size)=true
 ·rw [if_pos hw]
  have hx:wpAny (model prog w) A.in1 (Builtin.Tuple.tupleIsExact (.ref t)) (fun b s'=>b=true/\s'=s) E s:=by
   unfold Builtin.Tuple.tupleIsExact
   refine wpAny_bind (wpAny_typeOf_ref hto ?_)
   rw [htc]
   exact wpAny_pure ⟨rfl,rfl⟩
  first
   |refine wpAny_bind (wpAny_mono hx (fun b s' h'=>?_) fun _ _ z=>z)
   |refine wpAny_bind (wpAny_bind (wpAny_mono hx (fun b s' h'=>?_) fun _ _ z=>z))
  obtain ⟨rfl,rfl⟩:=h'
  rw [if_pos rfl]
  first
   |exact wpAny_bind (wpAny_rule (wpAny_pure ⟨_,rfl,wpAny_pure (h1 hw)⟩))
   |exact wpAny_bind (wpAny_rule (wpAny_bind (wpAny_pure (wpAny_pure ⟨_,rfl,wpAny_pure (h1 hw)⟩))))
 ·rw [if_neg hw]
  obtain ⟨hz,hq⟩:=h2 hw
  have hok:sizeOk (.seq ((List.range n).filterMap fun (k:Nat)=>items[(lo+(k:Int)*step).toNat]?).toArray):=by
   show (_:Array Value).size≤sizeLine
   rw [List.size_toArray];exact hz
  first
   |exact wpAny_bind (m:=Builtin.Tuple.tupleExact _) (wpAny_newObj_type (wpAny_pure ⟨_,rfl,wpAny_pure hq⟩) hok)
   |exact wpAny_bind (m:=Builtin.Tuple.tupleExact _) (wpAny_newObj_type (wpAny_bind (wpAny_pure (wpAny_pure ⟨_,rfl,wpAny_pure hq⟩))) hok)
   |exact wpAny_bind (wpAny_bind (m:=Builtin.Tuple.tupleExact _) (wpAny_newObj_type (wpAny_pure (wpAny_pure ⟨_,rfl,wpAny_pure hq⟩)) hok))
end
end HT
namespace L2
open PySem PySem.Spec PyProof.Rows PySem.SeqAt
section
variable {X:Cx}
def Gf (K:PySem.W.Frag):V->Option Int->Option Int->Hp->VK->Prop:=fun x lo hi H Q=>∃ a xs,x=.ref a/\cA K H a xs/\(oh xs lo hi=xs->Q (.ref a) H)/\∀ p,H p=none->Q (.ref p) (upd H p (.tup (oh xs lo hi)))
theorem Ax:Ke X (Gf X.K):=by
 intro Z s O H x v vl vu lo hi sl Q I rx hs pl pu h
 obtain ⟨a,xs,rfl,hx,q1,q2⟩:=h
 by_cases hw:HT.eF xs.length 0 lo=0/\HT.eF xs.length xs.length hi=xs.length
 ·cases (show v=Value.ref a from rx)
  obtain ⟨its,r,ht,hz⟩:=I.tuple hx
  have hlen:its.toArray.size=xs.length:=by rw [List.size_toArray];exact r.length.symm
  refine ⟨"tuple",_,PyProof.Rows.slot_tuple_getitem.lookup,ht.typeIs,?_⟩
  have e:oh xs lo hi=xs:=by
   unfold oh
   rw [hw.1,hw.2,List.drop_zero,Nat.sub_zero,List.take_length]
  refine HT.wL ht hs (fun A' Q' E' q'=>HT.iB hs pl pu q') (fun _=>⟨.ref a,H,I,rfl,q1 e⟩) fun hn=>(hn ?_).elim
  rw [hlen,hw.1,hw.2]
  simp
 ·exact Dw Z s O H _ v vl vu lo hi sl Q I rx hs pl pu ⟨a,xs,rfl,hx,hw,q2⟩
end
section
variable {X:Cx} {CX:jG} {k:Nat} {f C:Addr} {fd:FuncData} {ps:List Str} {sp:Sp} {E:XK}
end
section
variable {X:Cx} {Z:List (Addr×Obj)} {O:St} {H:Hp} {s:Shared} {h':Heap}
theorem Inv.turnLaid {a:Addr} {o:HO} {t':Nat} {fp:List Addr} (I:Inv X Z O H s) (k:∀ b u,b∉fp->s.heap.get? b=some u->h'.get? b=some u) (ke:∀ b∈fp,∃ u,h'.get? b=some u) (hf:∀ b∈fp,jx X Z H b) (hp:s.heap.objs.size≤a) (new:bZ X.prog X.w (upd H a o) h' a o) :
 Inv X Z O (upd H a o) { s with heap:=h',toks:=t' }:=by
 have hn:H a=none:=I.hok.fresh hp
 have off:∀ b u,H b=some u->b∉fp:=fun b u e z=>by rw [(hf b z).1] at e;cases e
 have up:∀ b u,H b=some u->(upd H a o) b=some u:=fun b u e=>by rw [aA (aC e hn)];exact e
 refine I.step (g':=s.gens) (d':=s.drawn) (ch:=fp) (fun b hb=>?_) (fun b u _ _ hc e _=>k b u hc e) (fun b u _ _ hc e _=>⟨u.slots,k b u hc e⟩) (fun b u _ e n=>?_) (fun b u hc e=>⟨u,k b u hc e⟩) (fun b xs e=>up b _ e) (fun b u z e=>up b _ e) (fun b ps e=>⟨#[],by rw [up b _ e];simp⟩) (fun m hm=>?_) (fun b u e=>?_) I.bare
 ·obtain ⟨_,f1,_,f3,f4,f5⟩:=hf b hb
  exact ⟨f3,f1,f4,f5⟩
 ·rw [aA (Nat.ne_of_lt (Nat.lt_of_lt_of_le (Heap.lt_size e) hp))];exact n
 ·obtain ⟨u,es,ep,ho,r⟩:=hm
  exact ⟨u,es,ep,k _ u (fun z=>(hf _ z).2.1 rfl) ho,r⟩
 ·by_cases hb:b=a
  ·subst hb;rw [aj] at e;cases e;exact new
  ·rw [aA hb] at e
   refine (I.hok b u e).stay (fun c v hc q=>k c v ?_ q) (fun c q=>up c _ q) fun c xs q=>up c _ q
   rcases hc with rfl|z
   ·exact off _ u e
   ·exact off c _ z
theorem qy:bootBuiltins "enumerate" = some (.type "enumerate"):=by decide +kernel
end
def fX (h:Heap) (H:Hp) (g:Heap) (e:Addr) (cls:Value) (dd:Option Addr):Prop:=
 ∃ oe vs,h.get? e=some oe/\oe.cls=cls/\oe.dict=dd/\oe.data=.fields vs/\g.get? e=none/\H e=none/\
   (vs[1]?=some .none∨∃ T oT ts,vs[1]?=some (.ref T)/\T≠e/\h.get? T=some oT/\oT.data=.fields ts/\ts[3]?=some .none/\g.get? T=none/\H T=none)
theorem fX.mono {h:Heap} {H:Hp} {g g':Heap} {e:Addr} {cls:Value} {dd:Option Addr} (x:fX h H g e cls dd) (hl:∀ b,g.get? b=none->g'.get? b=none):fX h H g' e cls dd:=by
 obtain ⟨oe,vs,h1,h2,h3,h4,h5,h6,h7⟩:=x
 refine ⟨oe,vs,h1,h2,h3,h4,hl _ h5,h6,?_⟩
 rcases h7 with h7|⟨T,oT,ts,a,b,c,d,f,gT,i⟩
 ·exact .inl h7
 ·exact .inr ⟨T,oT,ts,a,b,c,d,f,hl _ gT,i⟩
theorem xP (f:Array Value->Array Value) (o:Obj):(Obj.mapFields f o).dict=o.dict:=by
 obtain ⟨c,d,da,sl⟩:=o
 cases da <;> rfl
section
variable {M:Model} {A:Around} {E:Value->Shared->Prop} {s:Shared}
theorem pP {base:Heap} {env:Env} {outer:List Env} {L e:Addr} {oe:Obj} {vs:Array Value} {head:Value} {hadNext:Bool} {Q:Unit->Shared->Prop} (hfr:A.frames=some (env::outer)) (hl:s.heap.FunFrames base (env::outer)) (hf:env.frame=some L)
 (he:s.heap.get? e=some oe) (hd:oe.data=.fields vs) (hsz:1<vs.size)
 (h:∀ (h':Heap) (T:Addr) (oe' oT:Obj) (vs' ts:Array Value),s.heap.objs.size≤T->h'.get? e=some oe'->oe'.cls=oe.cls->oe'.dict=oe.dict->oe'.data=.fields vs'->vs'[1]?=some (.ref T)->h'.get? T=some oT->oT.data=.fields ts->ts[3]?=some .none->
  (∀ b o,b≠e->b∉(env::outer).filterMap (·.frame)->s.heap.get? b=some o->h'.get? b=some o)->(∀ b o,b≠e->s.heap.get? b=some o->∃ sl,h'.get? b=some { o with slots:=sl })->Q () { s with heap:=h' }) :
 wpAny M A (do let a ← frameOf env;let pl ← entryPlaceOf L hadNext;let b ← EntryCells.newEntry head a .none (rawInt L) .none pl;setField (.ref e) 1 b) (fun _ s'=>wpAny M A (setFlight (.ref e) none) Q E s') E s:=by
 have hene:e∉(env::outer).filterMap (·.frame):=fun hm=>by
  obtain ⟨_,o,ho,hnf⟩:=hl.mem hm
  rw [he] at ho
  cases ho
  exact hnf vs hd
 refine wpAny_bind (wpAny_frameOf_fun hfr hl hf fun g hs=>wpAny_bind (wpAny_entryPlaceOf fun pl hpl=>?_))
 unfold EntryCells.newEntry newFields
 refine wpAny_bind (wpAny_newObj_type ?_ (hpl.sizeOk5 _ _ _ _ _))
 have ge:g.get? e=some oe:=(hs.2.1 e hene).trans he
 generalize hto:([head,.ref L,.none,rawInt L,.none]++(if pl.isEmpty then List.replicate 6 Value.none else pl)).toArray=tv
 have t3:3<tv.size:=by
  rw [← hto]
  simp only [List.size_toArray,List.length_append,List.length_cons,List.length_nil]
  omega
 have pe:=Heap.get?_push_of_some (h:=g) { cls:=.type "traceback",dict:=none,data:=.fields tv } ge
 refine wpAny_setField pe hd hsz ?_
 have ne:g.objs.size≠e:=Nat.ne_of_gt (Heap.lt_size ge)
 have d3:=Obj.data_mapFields hd (·.setIfInBounds 1 (Value.ref g.objs.size))
 have e3:=Heap.get?_update_self (Obj.mapFields (·.setIfInBounds 1 (Value.ref g.objs.size))) pe (Obj.isFreed_of_fields d3)
 have T3:=(Heap.get?_update_other (g.push { cls:=.type "traceback",dict:=none,data:=.fields tv }) (Obj.mapFields (·.setIfInBounds 1 (Value.ref g.objs.size))) (Ne.symm ne)).trans (Heap.get?_push_size g rfl)
 unfold setFlight
 refine wpAny_bind (wpAny_field e3 d3 (x:=.ref g.objs.size) (by simp [hsz]) ?_)
 rw [if_pos (show (Value.ref g.objs.size != Value.none)=true by simp)]
 refine wpAny_setField T3 rfl t3 ?_
 have hgz:s.heap.objs.size≤g.objs.size:=Nat.le_of_eq hs.1.symm
 have keep:∀ b o,b≠e->g.get? b=some o->(((g.push { cls:=.type "traceback",dict:=none,data:=.fields tv }).update e (Obj.mapFields (·.setIfInBounds 1 (Value.ref g.objs.size)))).update g.objs.size (Obj.mapFields (·.setIfInBounds 3 ((none:Option Addr).elim Value.none fun f=>rawInt f)))).get? b=some o:=fun b o hb hg=>by
  rw [Heap.get?_update_other _ _ (Nat.ne_of_gt (Heap.lt_size hg)),Heap.get?_update_other _ _ (Ne.symm hb)]
  exact Heap.get?_push_of_some _ hg
 refine h _ g.objs.size _ _ _ _ hgz (by rw [Heap.get?_update_other _ _ ne];exact e3) (Obj.cls_mapFields _ _) (xP _ _) d3 (by simp [hsz]) (Heap.get?_update_self _ T3 (Obj.isFreed_of_fields (Obj.data_mapFields rfl _))) (Obj.data_mapFields rfl _) (by simp [t3]) (fun b o hb hbf hbo=>keep b o hb ((hs.2.1 b hbf).trans hbo)) fun b o hb hbo=>?_
 obtain ⟨sl,q⟩:=hs.2.2 b o hbo
 exact ⟨sl,keep b _ hb q⟩
end
section
variable {X:Cx} {Z:List (Addr×Obj)} {O:St} {H:Hp} {s:Shared} {e:Addr} {cls:Value} {dd:Option Addr}
theorem leaveX {A:Around} {Q:Unit->Shared->Prop} {E:Value->Shared->Prop} (I:Inv X Z O H s) (hst:X.stack=X.env::X.outer) (hfm:X.env.frame=some X.env.locals) (hfr:A.frames=some X.stack) (hex:X.ex=[]) (x:fX s.heap H X.s₀.heap e cls dd)
 (h:∀ h',fX h' H X.s₀.heap e cls dd->Un (frs X.outer) [] X.H₀ H X.s₀.heap h'->iZ X.prog X.w H h'->Q () { s with heap:=h' }):wpAny (model X.prog X.w) A (leaving X.env (.ref e)) Q E s:=by
 have hl:=I.stack
 rw [hst] at hfr hl
 obtain ⟨oe,vs,h1,h2,h3,h4,h5,h6,h7⟩:=x
 have free:∀ b∈(X.env::X.outer).filterMap (·.frame),H b=none:=fun b hb=>I.stkFree b (by rw [hst];exact hb)
 have fin:∀ (h':Heap) (T:Addr) (oe' oT:Obj) (vs' ts:Array Value),X.s₀.heap.get? T=none->T≠e->H T=none->h'.get? e=some oe'->oe'.cls=oe.cls->oe'.dict=oe.dict->oe'.data=.fields vs'->vs'[1]?=some (.ref T)->h'.get? T=some oT->oT.data=.fields ts->ts[3]?=some .none->
  (∀ b o,b≠e->(H b≠none∨∃ o₀,X.s₀.heap.get? b=some o₀)->b∉(X.env::X.outer).filterMap (·.frame)->s.heap.get? b=some o->h'.get? b=some o)->(∀ b o,(∃ o₀,X.s₀.heap.get? b=some o₀)->s.heap.get? b=some o->∃ sl,h'.get? b=some { o with slots:=sl })->Q () { s with heap:=h' }:=by
  intro h' T oe' oT vs' ts hT hTe hTn g1 g2 g3 g4 g5 g6 g7 g8 kp ks
  refine h h' ⟨oe',vs',g1,g2.trans h2,g3.trans h3,g4,h5,h6,.inr ⟨T,oT,ts,g5,hTe,g6,g7,g8,hT,hTn⟩⟩ ?_ ?_
  ·have B:=I.base
   rw [hex] at B
   have nl:∀ b o,X.s₀.heap.get? b=some o->b<X.s₀.heap.objs.size:=fun b o z=>Heap.lt_size z
   have ninF:∀ b,b<X.s₀.heap.objs.size->b∉frs X.outer->b∉(X.env::X.outer).filterMap (·.frame):=fun b hb hn hm=>by
    rw [List.filterMap_cons,hfm] at hm
    rcases List.mem_cons.mp hm with rfl|hm
    ·exact absurd (Nat.lt_of_lt_of_le hb I.ok.above) (Nat.lt_irrefl _)
    ·exact hn hm
   refine ⟨fun b o z n hb hx=>kp b o (fun q=>by subst q;rw [h5] at z;cases z) (.inr ⟨o,z⟩) (ninF b (nl b o z) hb) (B.keep b o z n hb hx),fun b o z n hb hx=>?_,B.free,fun b o z hx=>?_,B.tups,B.frzs,B.tbls⟩
   ·obtain ⟨sl,q⟩:=B.slot b o z n hb hx
    obtain ⟨sl',q'⟩:=ks b _ ⟨o,z⟩ q
    exact ⟨sl',q'⟩
   ·obtain ⟨o',q⟩:=B.there b o z hx
    obtain ⟨sl',q'⟩:=ks b _ ⟨o,z⟩ q
    exact ⟨_,q'⟩
  ·intro b u hb
   refine (I.hok b u hb).stay (fun c v hc q=>kp c v ?_ (.inl ?_) ?_ q) (fun _ q=>q) fun _ _ q=>q
   ·rintro rfl
    rcases hc with rfl|z
    ·rw [h6] at hb;cases hb
    ·rw [h6] at z;cases z
   ·rcases hc with rfl|z
    ·rw [hb];simp
    ·rw [z];simp
   ·intro hm
    have:=free c hm
    rcases hc with rfl|z
    ·rw [this] at hb;cases hb
    ·rw [this] at z;cases z
 unfold leaving noteFrame
 simp only [hfm]
 rcases h7 with h7|⟨T,oT,ts,t1,t2,t3,t4,t5,t6,t7⟩
 ·refine wpAny_bind (wpAny_bind (wpAny_field h1 h4 h7 ?_))
  rw [if_neg (by decide)]
  refine pP hfr hl hfm h1 h4 (Array.getElem?_eq_some_iff.mp h7).1 fun h' T oe' oT vs' ts hT g1 g2 g3 g4 g5 g6 g7 g8 kp ks=>?_
  have hTe:T≠e:=fun q=>by subst q;exact absurd (Nat.lt_of_lt_of_le (Heap.lt_size h1) hT) (Nat.lt_irrefl _)
  exact fin h' T oe' oT vs' ts (Heap.get?_none_of_le (Nat.le_trans I.sz hT)) hTe (I.hok.fresh hT) g1 g2 g3 g4 g5 g6 g7 g8 (fun b o hb _ hm z=>kp b o hb hm z) fun b o hb z=>ks b o (fun q=>by subst q;obtain ⟨_,hb⟩:=hb;rw [h5] at hb;cases hb) z
 ·refine wpAny_bind (wpAny_bind (wpAny_field h1 h4 t1 ?_))
  rw [if_pos (show (Value.ref T != Value.none)=true by simp)]
  refine wpAny_bind (wpAny_field t3 t4 t5 ?_)
  rw [if_neg (show ¬ ((Value.none == rawInt X.env.locals)=true) by simp [rawInt])]
  refine wpAny_bind (wpAny_setField t3 t4 (Array.getElem?_eq_some_iff.mp t5).1 ?_)
  have other:∀ b,b≠T->(s.heap.update T (Obj.mapFields (·.setIfInBounds 3 Value.none))).get? b=s.heap.get? b:=fun b hb=>Heap.get?_update_other _ _ (Ne.symm hb)
  have noR:∀ b o,s.heap.get? b=some o->(∀ vs,o.data≠.fields vs)->b≠T:=fun b o hb hnf q=>by
   subst q
   rw [t3] at hb
   cases hb
   exact hnf ts t4
  refine pP (s:={ s with heap:=s.heap.update T (Obj.mapFields (·.setIfInBounds 3 Value.none)) }) hfr (hl.of_keeps fun b o hb hnf=>⟨o,(other b (noR b o hb hnf)).trans hb,rfl⟩) hfm ((other e (Ne.symm t2)).trans h1) h4 (Array.getElem?_eq_some_iff.mp t1).1 fun h' T' oe' oT' vs' ts' hT g1 g2 g3 g4 g5 g6 g7 g8 kp ks=>?_
  have hT':s.heap.objs.size≤T':=by
   have z:(s.heap.update T (Obj.mapFields (·.setIfInBounds 3 Value.none))).objs.size=s.heap.objs.size:=Heap.size_update _ _ _
   exact Nat.le_trans (Nat.le_of_eq z.symm) hT
  have hTe:T'≠e:=fun q=>by subst q;exact absurd (Nat.lt_of_lt_of_le (Heap.lt_size h1) hT') (Nat.lt_irrefl _)
  refine fin h' T' oe' oT' vs' ts' (Heap.get?_none_of_le (Nat.le_trans I.sz hT')) hTe (I.hok.fresh hT') g1 g2 g3 g4 g5 g6 g7 g8 (fun b o hb hq hm z=>kp b o hb hm ((other b ?_).trans z)) fun b o hb z=>ks b o (fun q=>by subst q;obtain ⟨_,hb⟩:=hb;rw [h5] at hb;cases hb) ((other b ?_).trans z)
  ·rintro rfl
   rcases hq with hq|hq
   ·exact hq t7
   ·obtain ⟨_,hq⟩:=hq
    rw [t6] at hq;cases hq
  ·rintro rfl
   obtain ⟨_,hb⟩:=hb
   rw [t6] at hb;cases hb
end
def jJ (P:Program) (w:World):jG:=fun outer H s E e s'=>∃ (ea:Addr) (cls:Value) (dd:Option Addr) (H':Hp),e=.ref ea/\s'.os=s.os/\AllBare s'.gens/\Un (frs outer) [] H H' s.heap s'.heap/\iZ P w H' s'.heap/\fX s'.heap H' s.heap ea cls dd/\E cls dd H'
section
variable {P:Program} {w:World} {K:PySem.W.Frag} {mg:Str->Option Value} {base:Heap} {N:List Str} {qual:Str} {scope:Scope} {f:Addr} {cd:Value} {A:Around} {outer:List Env} {s:Shared} {H:Hp} {E:XK}
theorem DX {Z:List (Addr×Obj)} {O:St} {H':Hp} {s':Shared} {e:Addr} {cls:Value} {dd:Option Addr} (I:Inv (iU (jJ P w) P w K mg base N qual scope f cd A outer s H E) Z O H' s') (x:fX s'.heap H' s.heap e cls dd) (h:E cls dd H') :
 (iU (jJ P w) P w K mg base N qual scope f cd A outer s H E).xe (.ref e) s':=
 leaveX I rfl rfl I.ok.frames rfl x fun h' x' u k=>⟨e,cls,dd,H',rfl,I.os,I.bare,u,k,x',h⟩
theorem m9 {E':XK} (hE:∀ cls dd H',E' cls dd H'->E cls dd H'):fH (jJ P w) (iU (jJ P w) P w K mg base N qual scope f cd A outer s H E) E':=by
 intro Z O H1 s1 e s' I h
 obtain ⟨ea,cls,dd,H',rfl,os,bare,un,hok,x,q⟩:=h
 obtain ⟨hh,g,d,t,os'⟩:=s'
 obtain rfl:os'=s1.os:=os
 have I':Inv (iU (jJ P w) P w K mg base N qual scope f cd A outer s H E) Z O H' ⟨hh,g,d,t,s1.os⟩:=I.call (h':=hh) (g':=g) (d':=d) (t':=t) (ch:=[]) un hok bare (fun b z=>absurd z (by simp))
 refine DX I' (x.mono fun b hb=>?_) (hE _ _ _ q)
 cases z:s.heap.get? b with
 |none=>rfl
 | some o=>
   obtain ⟨o',q'⟩:=I.base.there b o z (by intro hz;cases hz)
   rw [hb] at q';cases q'
end
end L2
namespace L2
open PySem PySem.Spec PyProof.Rows PySem.SeqAt PySem.W
def ik (K:Frag) (C:Addr) (B newId:String):Bool:=match K.lookup C with
 |some ⟨_,_,.cls cd,sl⟩=>!cd.abstract && !cd.hasDel && (sl.toList[4]?).join == some (.builtin newId) && !cd.mro.isEmpty && cd.mro.contains (.ref C) && cd.mro.contains (.type B) && cd.mro.contains (.type "BaseException") && !cd.mro.contains (.type "AttributeError") && !cd.mro.contains (.type "NameError") &&
  specialIn K (.ref C) "__call__" == some (some (.builtin "type.__call__")) && instIn K (.ref C) (.type "type") == some true
 |_=>false
structure sZ (M:Model) (h:Heap) (C:Addr) (B newId:String):Prop where
 obj:∃ oc od cd sl,h.get? C=some ⟨oc,od,.cls cd,sl⟩/\cd.abstract=false/\cd.hasDel=false/\cd.mro.isEmpty=false
 made:Looks M h (Bind.madeBy (.ref C)) (some newId)
 base:Looks M h (Bind.staticBase (.ref C)) (.ref C)
 self:Looks M h (isSubtype (.ref C) (.ref C)) true
 isB:Looks M h (isSubtype (.ref C) (.type B)) true
 isE:Looks M h (isSubtype (.ref C) (.type "BaseException")) true
 noA:Looks M h (isSubtype (.ref C) (.type "AttributeError")) false
 noN:Looks M h (isSubtype (.ref C) (.type "NameError")) false
 call:Looks M h (specialOf (.ref C) "__call__") (some (.builtin "type.__call__"))
 typ:Looks M h (isInstance (.ref C) (.type "type")) true
theorem jo {K:Frag} {M:Model} {h:Heap} (X:K.In h) {C:Addr} {B newId:String} (e:ik K C B newId=true):sZ M h C B newId:=by
 unfold ik at e
 split at e
 ·rename_i oc od cd sl ho
  simp only [Bool.and_eq_true,Bool.not_eq_true',beq_iff_eq] at e
  obtain ⟨⟨⟨⟨⟨⟨⟨⟨⟨⟨e1,e2⟩,e3⟩,e4⟩,e5⟩,e6⟩,e7⟩,e8⟩,e9⟩,e10⟩,e11⟩:=e
  have hc:clsIn K C=some cd:=by unfold clsIn;rw [ho]
  have hm:Looks M h (mroOf (.ref C)) cd.mro:=(looks_clsIn X hc).andThen .now
  obtain ⟨c,l,hl⟩:∃ c l,cd.mro=c::l:=by
   cases q:cd.mro with
   |nil=>rw [q] at e4;cases e4
   |cons c l=>exact ⟨c,l,rfl⟩
  have made:Looks M h (Bind.madeBy (.ref C)) (some newId):=by
   intro A Q E s k q
   unfold Bind.madeBy
   refine wpAny_bind (hm A _ E s k ?_)
   rw [hl,List.forIn_cons]
   refine wpAny_bind (wpAny_bind (wpAny_bind (wpAny_bind (wpAny_loadPart (k _ _ (X _ _ ho)) (wpAny_pure ?_)))))
   dsimp only
   rw [← Array.getElem?_toList,e3]
   exact wpAny_pure (wpAny_pure (wpAny_pure q))
  have sub:∀ (v:Value) (b:Bool),cd.mro.contains v=b->Looks M h (isSubtype (.ref C) v) b:=fun v b z=>looks_mroIn X (by unfold mroIn;rw [hc,Option.bind_some,if_neg (by rw [e4];decide),z])
  refine ⟨⟨oc,od,cd,sl,X _ _ ho,e1,e2,e4⟩,made,?_,sub _ _ e5,sub _ _ e6,sub _ _ e7,sub _ _ e8,sub _ _ e9,looks_specialIn X e10,looks_instIn X e11⟩
  intro A Q E s k q
  unfold Bind.staticBase
  refine wpAny_bind (hm A _ E s k ?_)
  rw [hl,List.forIn_cons]
  exact wpAny_bind (wpAny_bind (wpAny_bind (made A _ E s k (wpAny_pure (wpAny_pure (wpAny_pure q))))))
 ·cases e
abbrev fQ (C t:Addr):Obj:={ cls:=.ref C,data:=.fields #[.ref t,.none,.none,.none,.bool false,.none] }
section
variable {prog:Program} {w:World} {A:Around} {C:Addr} {R:Result->Shared->Prop} {h:Heap} {g:Array GenState} {d:Drawn} {t:Nat} {os:OsState} {B newId initId:String} {bm:List Value}
theorem newX (F:ExcBaseFacts B newId initId bm) {rest:List Value} (Y:sZ (model prog w) h C B newId) (hrest:rest.length≤sizeLine)
 (hq:R (.ok (.ret (.ref (h.objs.size+1)))) ⟨(h.push { cls:=.type "tuple",data:=.seq rest.toArray }).push (fQ C h.objs.size),g,d,t,os⟩) :
 codeAny (model prog w) A (.call (.builtin newId) ⟨.ref C::rest,[]⟩) R ⟨h,g,d,t,os⟩:=by
 obtain ⟨⟨oc,od,cd,sl,hC,e1,e2,e4⟩,made,base,self,isB,isE,noA,noN,call,typ⟩:=Y
 have hstar:=F.noStar
 have hends:=F.ends
 refine codeAny_call_builtin_code (Code.quiet_builtin _ F.quiet) ?_
 simp only [checkBuiltinCall,F.newKind,F.newSplit,F.newRow]
 have here:Looks (model prog w) h (Bind.madeHere newId (.ref C)) ():=base.andThen (made.andThen (Looks.of_pure (by simp only [Option.map_some,bne_self_eq_false,Bool.false_eq_true,if_false])))
 repeat (first|simp only [bne_self_eq_false,Bool.false_eq_true,if_false]|lk)
 repeat (first|wp_step)
 refine PySem.codeAny_builtinAt F.entry ?_
 unfold Builtin.«BaseException.__new__»
 refine PySem.wpAt_bind ?_
 show PySem.wpAt _ _ _ (stack >>= _) _ _ _
 refine PySem.wpAt_bind (PySem.wpAt_stack fun p below=>PySem.wpAt_of_wpAny ?_)
 wp_walk
 refine PySem.wpAt_of_wpAny ?_
 rw [F.owner]
 have here2:Looks (model prog w) h (Bind.madeHere "BaseException.__new__" (.ref C)) ():=base.andThen (made.andThen (Looks.of_pure (by simp only [Option.map_some,F.canon,bne_self_eq_false,Bool.false_eq_true,if_false])))
 repeat (first|with_reducible refine here2.at ?_|with_reducible refine isB.at ?_|with_reducible refine noA.at ?_|with_reducible refine noN.at ?_|with_reducible refine wpAny_loadPart_at hC ?_|wp_step)
 show R _ _
 rw [Heap.size_push]
 exact hq
theorem sU (F:ExcBaseFacts B newId initId bm) {rest:List Value} {init:Value} (Y:sZ (model prog w) h C B newId) (hi:Looks (model prog w) h (typeLookup (.ref C) "__init__") (some init)) (hb:∀ self,Looks (model prog w) h (bindSpecial init self) (init,[self])) (hrest:rest.length≤sizeLine)
 (hq:codeAny (model prog w) (A.under (.builtin "type.__call__" ⟨.ref C::rest,[]⟩)) (.call init ⟨.ref (h.objs.size+1)::rest,[]⟩) (InitBack (h.objs.size+1) R) ⟨(h.push { cls:=.type "tuple",data:=.seq rest.toArray }).push (fQ C h.objs.size),g,d,t,os⟩) :
 codeAny (model prog w) A (.call (.ref C) ⟨rest,[]⟩) R ⟨h,g,d,t,os⟩:=by
 have Y':=Y
 obtain ⟨⟨oc,od,cd,sl,hC,e1,e2,e4⟩,made,base,self,isB,isE,noA,noN,call,typ⟩:=Y
 refine codeAny_of_tree ?_
 show wpAny _ _ (callAny (.ref C) _) _ _ _
 refine nd_load hC ?_
 show wpAny _ _ (callAny.viaDunder (.ref C) _) _ _ _
 unfold callAny.viaDunder
 refine wpAny_bind (call.at ?_)
 dsimp only
 rw [tc_bind]
 refine wpAny_bind (wpAny_pure (wpAny_bind (wpAny_pure (wpAny_pure (a:=Fin.again (.call (.builtin "type.__call__") ⟨.ref C::rest,[]⟩)) (And.intro rfl ?_)))))
 refine codeAny_call_builtin_at (Code.quiet_builtin _ (by decide +kernel)) entry_typeCall (check_slot tc_kind tc_split typ (tc_args _ _ _) ?_)
 unfold Builtin.«type.__call__»
 have hm:Looks (model prog w) h (mroOf (.ref C)) cd.mro:=((Looks.ld (part:=none) hC).andThen .now).andThen .now
 repeat (first|simp only [e4,Bool.false_eq_true,if_false]|with_reducible refine wpAny_call ?_|lk)
 refine newX F Y' hrest ?_
 have k:∀ b o,h.get? b=some o->((h.push { cls:=.type "tuple",data:=.seq rest.toArray }).push (fQ C h.objs.size)).get? b=some o:=fun b o e=>Heap.get?_push_of_some _ (Heap.get?_push_of_some _ e)
 have hx:((h.push { cls:=.type "tuple",data:=.seq rest.toArray }).push (fQ C h.objs.size)).get? (h.objs.size+1)=some (fQ C h.objs.size):=by
  have:=Heap.get?_push_size (h.push { cls:=.type "tuple",data:=.seq rest.toArray }) (o:=fQ C h.objs.size) rfl
  rwa [Heap.size_push] at this
 have t1:Looks (model prog w) ((h.push { cls:=.type "tuple",data:=.seq rest.toArray }).push (fQ C h.objs.size)) (typeOf (.ref (h.objs.size+1))) (.ref C):=(Looks.ld hx).andThen .now
 have s1:=self.keeps k
 have i1:=hi.keeps k
 have b1:=(hb (.ref (h.objs.size+1))).keeps k
 unfold isInstance callSpecial? specialOf
 repeat (first|with_reducible refine wpAny_call ?_|lk)
 refine codeAny_mono hq fun r s' z=>?_
 rcases r with e|(v|_|_|_) <;> first|exact z|exact z.elim|skip
 obtain ⟨rfl,z⟩:=z
 exact wpAny_pure (wpAny_pure z)
end
end L2
namespace L2
open PySem PySem.Spec PyProof.Rows PySem.SeqAt PySem.W Builtin.ObjectAttr
def eE (e C:Addr) (dd:Option Addr):HO:=.ext fun h=>∃ a0:Value,h.get? e=some { cls:=.ref C,dict:=dd,data:=.fields #[a0,.none,.none,.none,.bool false,.none] }
def pX (da:Addr) (fs:List (Str×V)):HO:=.ext fun h=>∃ mA,h.Ns1 da mA/\(∀ f,lF (fs.lookup f) (mA f))/\PySem.Within mA (fs.map (·.1))
theorem qg {P:Program} {w:World} {H:Hp} {h:Heap} {e C:Addr} {dd:Option Addr} {a0:Value} (x:h.get? e=some { cls:=.ref C,dict:=dd,data:=.fields #[a0,.none,.none,.none,.bool false,.none] }):bZ P w H h e (eE e C dd):=
 ⟨⟨a0,x⟩,⟨_,x⟩,fun h1 h2 ⟨a,z⟩ k=>⟨a,k _ z⟩⟩
theorem uc {P:Program} {w:World} {H:Hp} {h:Heap} {da:Addr} {fs:List (Str×V)} {mA:Str->Option Value} (x:h.Ns1 da mA) (r:∀ f,lF (fs.lookup f) (mA f)) (wi:PySem.Within mA (fs.map (·.1))):bZ P w H h da (pX da fs):=by
 obtain ⟨o,es,ep,ho,rest⟩:=id x
 refine ⟨⟨mA,x,r,wi⟩,⟨o,ho⟩,fun h1 h2 z k=>?_⟩
 obtain ⟨mB,⟨o',es',ep',ho',rest'⟩,r',wi'⟩:=z
 exact ⟨mB,⟨o',es',ep',k _ ho',rest'⟩,r',wi'⟩
theorem mq (self:Value) {bm:List Value} (hb:refuseLoop self "__setattr__" bm=pure ()) (hne:bm≠[]):∀ (rs:List Addr),refuseLoop self "__setattr__" (rs.map Value.ref++bm)=pure ()
 |[]=>hb
 | c::r=>by
   rw [List.map_cons,List.cons_append,refuseLoop_ref]
   exact mq self hb hne r
structure jz (K:Frag) (C:Addr) (B newId:String):Prop where
 mks:ik K C B newId=true
 sa:findIn K (.ref C) "__setattr__" = some (some (.builtin "object.__setattr__"))
 cd:∃ (cd:ClassData) (rs:List Addr) (bm:List Value),clsIn K C=some cd/\cd.hasDict=true/\cd.mro=rs.map Value.ref++bm/\bm≠[]/\(∀ self,refuseLoop self "__setattr__" bm=pure ())/\bm.contains (.type "object")=true
 kp:keepIn K (.ref C)=true
 ty:typeIn K (.ref C)=some (.type "type")
section
variable {prog:Program} {w:World} {A:Around} {R:Result->Shared->Prop} {s:Shared} {K:Frag} {x C:Addr} {name:Str}
theorem Ik {ox:Obj} {od:Option Obj} {tk:Tok} {v:Value} {B newId:String} (X:K.In s.heap) (I:InstAt s.heap x ox C od) (XC:jz K C B newId) (ht:takerIn K C name=some none)
 (h:∀ b,wpAny (model prog w) A.in1 (Builtin.ObjectAttr.storeInOwnDict (.ref x) (.ref C) (.str name tk) name v b) (fun fin s'=>match fin with|.done f=>R (.ok f) s'|.again c'=>c'.quiet=true/\codeAny (model prog w) A c' R s') (fun e s'=>R (.error e) s') s) :
 codeAny (model prog w) A (.call (.builtin "object.__setattr__") ⟨[.ref x,.str name tk,v],[]⟩) R s:=by
 have SF:=PySem.F.store_object
 obtain ⟨cd,rs,bm,hc,hdct,hmro,hne,hrf,hob⟩:=XC.cd
 have ne:cd.mro.isEmpty=false:=by
  rw [hmro]
  cases rs with
  |nil=>cases bm with|nil=>exact absurd rfl hne|cons _ _=>rfl
  |cons _ _=>rfl
 have hcon:cd.mro.contains (.type "object")=true:=by
  rw [hmro,List.contains_eq_mem,decide_eq_true_eq]
  rw [List.contains_eq_mem,decide_eq_true_eq] at hob
  exact List.mem_append_right _ hob
 have sub:Looks (model prog w) s.heap (isInstance (.ref x) (.type "object")) true:=I.type.andThen (looks_mroIn X (by unfold mroIn;rw [hc,Option.bind_some,if_neg (by rw [ne];decide),hcon]))
 refine codeAny_call_builtin SF.slot.plain SF.entry (@check_slot (model prog w) _ _ s "object.__setattr__" "object" "__setattr__" (.ref x) [.str name tk,v] [] _ SF.kind SF.split sub (SF.args (.ref x) (.str name tk) v) ?_)
 obtain ⟨attr,ha,hr⟩:=Option.bind_eq_some_iff.mp ht
 have hm:Looks (model prog w) s.heap (mroOf (.ref C)) cd.mro:=(looks_clsIn X hc).andThen .now
 have L3:Looks (model prog w) s.heap (storeTaker? attr) none:=by
  cases attr with
  |none=>exact .now
  | some a=>
    obtain ⟨b,hb,q⟩:=Option.map_eq_some_iff.mp hr
    refine (looks_takesIn X hb).andThen ?_
    cases b with
    |false=>exact .now
    |true=>cases q
 rw [osa_eq,refuse_eq]
 refine wpAny_bind (wpAny_bind (I.type.here (wpAny_bind (hm.here ?_))))
 rw [hmro,mq _ (hrf _) hne]
 refine wpAny_pure (wpAny_bind (I.type.here (wpAny_bind ((looks_findIn X ha).here (wpAny_bind (L3.here ?_))))))
 exact h _
end
section
variable {prog:Program} {w:World} {A:Around} {E:Value->Shared->Prop} {s:Shared} {K:Frag} {x C:Addr} {name:Str} {v:Value} {tk:Tok} {Q:Fin->Shared->Prop} {vs:Array Value} {sl:Array (Option Value)}
theorem tE {cd:ClassData} {b:Bool} (X:K.In s.heap) (hx:s.heap.get? x=some ⟨.ref C,none,.fields vs,sl⟩) (hc:clsIn K C=some cd) (hd:cd.hasDict=true)
 (h:∀ h',h'.Ns1 s.heap.objs.size (fun y=>if y=name then some v else none)->h'.get? x=some ⟨.ref C,some s.heap.objs.size,.fields vs,sl⟩->(∀ b o,b≠x->s.heap.get? b=some o->h'.get? b=some o)->Q (.done (.ret .none)) { s with heap:=h',toks:=s.toks+1 }) :
 wpAny (model prog w) A (storeInOwnDict (.ref x) (.ref C) (.str name tk) name v b) Q E s:=by
 unfold storeInOwnDict
 refine wpAny_bind (wpAny_pure (wpAny_bind (wpAny_bind (wpAny_loadPart hx (wpAny_bind (Looks.here (looks_clsIn X hc) ?_))))))
 rw [hd]
 have hx1:(s.heap.push { cls:=.type "dict",data:=.dict #[] }).get? x=some ⟨.ref C,none,.fields vs,sl⟩:=Heap.get?_push_of_some _ hx
 have hxs:x≠s.heap.objs.size:=Nat.ne_of_lt (Heap.lt_size hx)
 show wpAny _ _ (do
  let d ← alloc { cls:=Value.type "dict",data:=Data.dict #[] }
  update x fun o=>{ cls:=o.cls,dict:=some d,data:=o.data,slots:=o.slots }
  dictMade (Value.ref C) x d) _ _ _
 refine wpAny_bind (wpAny_alloc' (wpAny_bind (wpAny_update' hx1 ?_)))
 refine wpAny_pure ?_
 have hgd:((s.heap.push { cls:=.type "dict",data:=.dict #[] }).update x fun o=>{ cls:=o.cls,dict:=some s.heap.objs.size,data:=o.data,slots:=o.slots }).get? s.heap.objs.size=some { cls:=.type "dict",data:=.dict #[] }:=(Heap.get?_update_ne _ _ _ _ hxs.symm).trans (Heap.get?_push_at rfl rfl)
 have hnd:((s.heap.push { cls:=.type "dict",data:=.dict #[] }).update x fun o=>{ cls:=o.cls,dict:=some s.heap.objs.size,data:=o.data,slots:=o.slots }).Ns s.heap.objs.size (fun _=>none):=⟨_,#[],_,hgd,rfl,fun e he=>absurd he (by simp),fun _=>rfl⟩
 show wpAny _ _ (storeInDict s.heap.objs.size (.str name tk) name v) _ _ _
 unfold storeInDict newKeyGuard
 refine wpAny_bind (wpAny_pure (wpAny_bind (wpAny_nsSet1 (s:={ s with heap:=_ }) (Heap.Ns1.of_empty hnd) fun h' hn' hs=>?_)))
 obtain ⟨oD,esD,epD,hoD,hdD,hcD⟩:=hn'.count (PySem.Within.cons name v PySem.Within.nil)
 refine wpAny_bind (wpAny_lookBehind hoD (by rw [hdD];exact pastItsLine_dict (Nat.le_trans hcD (by rw [List.length_cons,List.length_nil,sizeLine_eq];omega))) ?_)
 refine wpAny_pure (h h' hn' ?_ fun b o hb hbo=>?_)
 ·exact (hs.2 x hxs).trans (Heap.get?_update_self _ hx1 rfl)
 ·exact (hs.2 b (Nat.ne_of_lt (Heap.lt_size hbo))).trans ((Heap.get?_update_ne _ _ _ _ hb).trans (Heap.get?_push_of_some _ hbo))
theorem ut {cd:ClassData} {b:Bool} {da:Addr} {mA:Str->Option Value} {ns:List Str} (X:K.In s.heap) (hx:s.heap.get? x=some ⟨.ref C,some da,.fields vs,sl⟩) (hc:clsIn K C=some cd) (hd:cd.hasDict=true) (hn:s.heap.Ns1 da mA) (hw:PySem.Within mA ns) (hz:ns.length<1000)
 (h:∀ h',h'.Ns1 da (fun y=>if y=name then some v else mA y)->Heap.SameBut da s.heap h'->Q (.done (.ret .none)) { s with heap:=h',toks:=s.toks+1 }) :
 wpAny (model prog w) A (storeInOwnDict (.ref x) (.ref C) (.str name tk) name v b) Q E s:=by
 unfold storeInOwnDict
 refine wpAny_bind (wpAny_pure (wpAny_bind (wpAny_bind (wpAny_loadPart hx (wpAny_bind (Looks.here (looks_clsIn X hc) ?_))))))
 rw [hd]
 refine wpAny_pure (a:=some da) ?_
 show wpAny _ _ (storeInDict da (.str name tk) name v) _ _ _
 unfold storeInDict newKeyGuard
 refine wpAny_bind (wpAny_pure (wpAny_bind (wpAny_nsSet1 hn fun h' hn' hs=>?_)))
 obtain ⟨oD,esD,epD,hoD,hdD,hcD⟩:=hn'.count (PySem.Within.cons name v hw)
 refine wpAny_bind (wpAny_lookBehind hoD (by rw [hdD];exact pastItsLine_dict (Nat.le_trans hcD (by rw [List.length_cons,sizeLine_eq];omega))) ?_)
 exact wpAny_pure (h h' hn' hs)
end
section
variable {X:Cx} {Z:List (Addr×Obj)} {O:St} {H:Hp} {s:Shared} {e C:Addr} {f:Str} {B newId:String} {A:Around} {E:Value->Shared->Prop} {y:V} {u:Value} {Q:Unit->Shared->Prop}
theorem q9 {dd:Option Addr} (I:Inv X Z O H s) (he:H e=some (eE e C dd)):∃ a0,s.heap.get? e=some { cls:=.ref C,dict:=dd,data:=.fields #[a0,.none,.none,.none,.bool false,.none] }:=(show bZ X.prog X.w H s.heap e (eE e C dd) from I.hok e _ he).1
theorem zG (I:Inv X Z O H s) (he:H e=some (eE e C none)) (XC:jz X.K C B newId) (ht:takerIn X.K C f=some none) (ry:RelV y u)
 (h:∀ da s',H da=none->Inv X Z O (upd (upd H e (eE e C (some da))) da (pX da [(f,y)])) s'->Q () s'):wpAny (model X.prog X.w) A (setAttr (.ref e) f u) Q E s:=by
 obtain ⟨a0,hx⟩:=q9 I he
 have J:InstAt s.heap e _ C none:=⟨hx,rfl,rfl,True.intro⟩
 obtain ⟨cd,rs,bm,hc,hdct,_⟩:=XC.cd
 refine set_plain I.kIn J XC.sa (Ik (s:={ s with toks:=s.toks+1 }) I.kIn J XC ht fun b=>tE (s:={ s with toks:=s.toks+1 }) I.kIn hx hc hdct fun h' hn hx' hk=>?_)
 have fr:H s.heap.objs.size=none:=I.hok.fresh (Nat.le_refl _)
 have nes:e≠s.heap.objs.size:=Nat.ne_of_lt (Heap.lt_size hx)
 refine h s.heap.objs.size _ fr ?_
 have hx1:(s.heap.push emptyDict).get? e=some _:=Heap.get?_push_of_some _ hx
 have g1:(s.heap.push emptyDict).get? s.heap.objs.size=some emptyDict:=Heap.get?_push_size s.heap rfl
 have e3:(s.heap.push emptyDict).Ns s.heap.objs.size (fun _=>none):=⟨emptyDict,#[],_,g1,rfl,(fun e he=>absurd he (by simp)),fun _=>rfl⟩
 have I1:=I.laid (a:=s.heap.objs.size) (o:=pX s.heap.objs.size []) (h':=s.heap.push emptyDict) (t':=s.toks) (fun b u q=>Heap.get?_push_of_some _ q) (Nat.le_refl _) (uc (Heap.Ns1.of_empty e3) (fun _=>True.intro) fun y hy=>absurd rfl hy)
 have hx2:=Heap.get?_update_self (fun o:Obj=>{ o with dict:=some s.heap.objs.size }) hx1 rfl
 have I2:=I1.write (x:=e) (e:=e) (o:=eE e C (some s.heap.objs.size)) (h':=(s.heap.push emptyDict).update e fun o=>{ o with dict:=some s.heap.objs.size }) (t':=s.toks) (by rw [aA nes,he];exact True.intro) (.inl rfl)
  (fun b q hb z=>(Heap.get?_update_ne _ _ _ _ hb).trans z) ⟨_,hx2⟩ (qg hx2)
 have I3:=I2.write (x:=s.heap.objs.size) (e:=s.heap.objs.size) (o:=pX s.heap.objs.size [(f,y)]) (h':=h') (t':=s.toks+1+1) (by rw [aA nes.symm,aj];exact True.intro) (.inl rfl) (fun b q hb z=>?_) (let ⟨o,_,_,ho,_⟩:=hn;⟨o,ho⟩)
  (uc hn (fun g=>?_) fun g hg=>?_)
 ·have e1:upd (upd (upd H s.heap.objs.size (pX s.heap.objs.size [])) e (eE e C (some s.heap.objs.size))) s.heap.objs.size (pX s.heap.objs.size [(f,y)])=upd (upd H e (eE e C (some s.heap.objs.size))) s.heap.objs.size (pX s.heap.objs.size [(f,y)]):=by
   funext b
   unfold upd
   split
   ·rfl
   ·split
    ·rfl
    ·rfl
  rw [e1] at I3
  exact I3
 ·by_cases hbe:b=e
  ·subst hbe
   have z':some q=some _:=z.symm.trans hx2
   cases z'
   exact hx'
  ·have z1:(s.heap.push emptyDict).get? b=some q:=(Heap.get?_update_ne _ _ _ _ hbe).symm.trans z
   have z2:s.heap.get? b=some q:=by
    rcases Heap.get?_push_cases z1 with z|z
    ·exact absurd z.1 hb
    ·exact z
   exact hk b q hbe z2
 ·have e2:List.lookup g [(f,y)]=if g=f then some y else none:=j0 f g y []
  rw [e2]
  by_cases q:g=f
  ·rw [if_pos q,if_pos q];exact ry
  ·rw [if_neg q,if_neg q];exact True.intro
 ·by_cases q:g=f
  ·subst q;simp
  ·exact absurd (if_neg q) hg
end
section
variable {X:Cx} {CX:jG} {k:Nat} {f C:Addr} {fd:FuncData} {ps:List Str} {sp:Sp} {dvs:List V} {ds:List Value} {E:XK} {B newId initId:String} {bm:List Value}
theorem wF {Z:List (Addr×Obj)} {O:St} {H:Hp} {s:Shared} {Q:VK} {us:List Value} {vs:List V} (BF:ExcBaseFacts B newId initId bm) (XC:jz X.K C B newId) (hi:findIn X.K (.ref C) "__init__" = some (some (.ref f))) (hf:isFn X.K (.ref f)=true) (F:aN X.prog X.w X.K X.mg X.base CX k f fd ps sp) (hr:bL (k+1) X.A)
 (hb:Binds X.K fd ps ds) (hd:Vals dvs ds) (hx:fH CX X E) (I:Inv X Z O H s) (r:Vals vs us) (hz:us.length≤sizeLine)
 (h:∀ e,H e=none->sp (.ref e::(vs++dvs)) (upd H e (eE e C none)) (fun v H2=>v=.non/\Q (.ref e) H2) E) :
 wpAny (model X.prog X.w) X.A (call (.ref C) us) (EP X Z O Q) X.xe s:=by
 obtain ⟨hh,g,d,t,os⟩:=s
 have hq:=h (hh.objs.size+1) (I.hok.fresh (Nat.le_succ _))
 have hget:((hh.push { cls:=.type "tuple",data:=.seq us.toArray }).push (fQ C hh.objs.size)).get? (hh.objs.size+1)=some (fQ C hh.objs.size):=by
  have:=Heap.get?_push_size (hh.push { cls:=.type "tuple",data:=.seq us.toArray }) (o:=fQ C hh.objs.size) rfl
  rwa [Heap.size_push] at this
 have I2:Inv X Z O (upd H (hh.objs.size+1) (eE (hh.objs.size+1) C none)) ⟨(hh.push { cls:=.type "tuple",data:=.seq us.toArray }).push (fQ C hh.objs.size),g,d,t,os⟩:=
  I.laid (h':=(hh.push { cls:=.type "tuple",data:=.seq us.toArray }).push (fQ C hh.objs.size)) (t':=t) (fun b u q=>Heap.get?_push_of_some _ (Heap.get?_push_of_some _ q)) (Nat.le_succ _) (qg hget)
 have r2:Vals (V.ref (hh.objs.size+1)::(vs++dvs)) (Value.ref (hh.objs.size+1)::(us++ds)):=.cons rfl (r.append hd)
 have hl:(Value.ref (hh.objs.size+1)::us++ds).length=ps.length:=by
  have e:=r2.length
  rw [F.len _ _ _ _ hq] at e
  exact e.symm
 refine wpAny_call (sU BF (jo I.kIn XC.mks) (looks_findIn I.kIn hi) (fun self=>bind_fn I.kIn self (beq_iff_eq.mp hf)) hz (codeAny_mono (F.run _ X.stack _ _ ⟨Value.ref (hh.objs.size+1)::us,[]⟩ (Value.ref (hh.objs.size+1)::(us++ds)) _ _ E (hr.make C us [])
  (I2.env0.make C us []) (hb _ (Value.ref (hh.objs.size+1)::us) I2.kIn hl) r2 hq) fun r s' hq'=>?_))
 match r,hq' with
 |.error e,hq'=>exact hx Z O _ _ e s' I2 hq'
 | .ok (.ret u),hq'=>
   obtain ⟨v,H',I3,rv,ev,q3⟩:=I2.after hq'
   subst ev
   exact ⟨rv,⟨V.ref (hh.objs.size+1),H',I3,rfl,q3⟩⟩
def zV (C:Addr) (sp:Sp) (dvs:List V) (E:XK) (t:TA):TE:=fun O H Q=>t O H fun vs H1=>∀ e,H1 e=none->sp (.ref e::(vs++dvs)) (upd H1 e (eE e C none)) (fun v H2=>v=.non/\Q (.ref e) H2) E
theorem iz {x:Str} {p pos:Pos} {e:Expr} {es:List Expr} {t:TA} (BF:ExcBaseFacts B newId initId bm) (XC:jz X.K C B newId) (hi:findIn X.K (.ref C) "__init__" = some (some (.ref f))) (hf:isFn X.K (.ref f)=true) (F:aN X.prog X.w X.K X.mg X.base CX k f fd ps sp) (hr:bL (k+1) X.A)
 (hg:Gl X x) (hm:X.mg x=some (.ref C)) (hb:Binds X.K fd ps ds) (hd:Vals dvs ds) (hx:fH CX X E) (ha:PA X (e::es) t) (hdb:(x == ("__debug__" : Str))=false:=by decide) (he:starEach (e::es) X.env=(false,eval e X.env)::starEach es X.env:=by rfl) (hpl:(backTo pos (starEach es X.env)).any (·.1)=false:=by rfl) (hle:ps.length≤20:=by decide) :
 PE X (.Call (.Name x p) (e::es) [] pos) (zV C sp dvs E t):=by
 intro Z s O H Q I h
 refine wpAny_Call_Name_kw (jq I hg hm ?_ hdb)
 refine callWith_K (h₀:=X.base) I.ok.mod.kin XC.kp (cj (ha pos Z s O H _ I h) fun us s1 ⟨vs,H1,I1,r,q⟩=>⟨I1.kIn,?_⟩) he hpl
 refine wF BF XC hi hf F hr hb hd hx I1 r ?_ q
 have h1:=F.len _ _ _ _ (q (s1.heap.objs.size) (I1.hok.fresh (Nat.le_refl _)))
 rw [List.length_cons,List.length_append] at h1
 have h2:=r.length
 exact Nat.le_trans (show us.length≤20 by omega) (by decide)
end
def zE (H:Hp) (a:Addr):Hp:=fun b=>if b=a then none else H b
theorem nR {H:Hp} {a:Addr}:zE H a a=none:=if_pos rfl
theorem tW {H:Hp} {a b:Addr} (h:b≠a):zE H a b=H b:=if_neg h
theorem lw {H:Hp} {a b:Addr} (h:H b=none):zE H a b=none:=by
 unfold zE
 split
 ·rfl
 ·exact h
section
variable {X:Cx} {Z:List (Addr×Obj)} {O:St} {H:Hp} {s:Shared} {e C:Addr} {dd:Option Addr}
theorem Inv.zE (I:Inv X Z O H s) (he:H e=some (eE e C dd)):Inv X Z O (L2.zE H e) s:=by
 have up:∀ b u,H b=some u->u≠eE e C dd->L2.zE H e b=some u:=fun b u z hu=>by
  by_cases q:b=e
  ·subst q;rw [he] at z;exact absurd (Option.some.inj z).symm hu
  ·rw [tW q];exact z
 refine ⟨I.ok,I.os,I.bare,⟨I.base.keep,I.base.slot,fun b o z n hx=>lw (I.base.free b o z n hx),I.base.there,fun b xs z=>up b _ (I.base.tups b xs z) (by intro q;cases q),fun b o u z=>up b _ (I.base.frzs b o u z) (by intro q;cases q),fun b ps z=>?_⟩,I.loc,I.cell,lw I.free,fun x c z=>lw (I.freeC x c z),fun p hp=>?_,fun b u z=>?_,I.len⟩
 ·obtain ⟨m,q⟩:=I.base.tbls b ps z
  exact ⟨m,up b _ q (by intro q;cases q)⟩
 ·obtain ⟨p1,p2,p3⟩:=I.pin p hp
  exact ⟨p1,lw p2,p3⟩
 ·by_cases q:b=e
  ·subst q;rw [nR] at z;cases z
  ·rw [tW q] at z
   exact (I.hok b u z).stay (fun c v _ r=>r) (fun c r=>up c _ r (by intro q;cases q)) fun c xs r=>up c _ r (by intro q;cases q)
def yu (X:Cx) (B newId:String) (W:XK) (te:TE):TS:=fun _ O H=>te O H fun x H1=>∃ e C dd,x=.ref e/\H1 e=some (eE e C dd)/\X.H₀ e=none/\jz X.K C B newId/\W (.ref C) dd (zE H1 e)
theorem iG {ex:Expr} {pos:Pos} {te:TE} {W:XK} {B newId:String} (he:PE X ex te) (hcalm:X.calm=true) (hex:X.ex=[])
 (hxe:∀ (Z:List (Addr×Obj)) (O:St) (H':Hp) (s':Shared) (e:Addr) (cls:Value) (dd:Option Addr),Inv X Z O H' s'->fX s'.heap H' X.s₀.heap e cls dd->W cls dd H'->X.xe (.ref e) s'):PS X (.Raise (some ex) none pos) (yu X B newId W te):=by
 intro Z s O H D I h
 rw [arm_exec_Raise]
 have key:∀ xs:Sem Value,wpAny (model X.prog X.w) X.A xs (EP X Z O fun x H1=>∃ e C dd,x=.ref e/\H1 e=some (eE e C dd)/\X.H₀ e=none/\jz X.K C B newId/\W (.ref C) dd (L2.zE H1 e)) X.xe s->wpAny (model X.prog X.w) X.A (raiseStmt X.env (some xs) none) (SP X Z D) X.xe s:=by
  intro xs hxs
  unfold raiseStmt
  refine wpAny_bind (cj hxs fun v s1 ⟨x,H1,I1,r1,e,C,dd,ex',hx,h0,XC,q⟩=>?_)
  subst ex'
  cases (show v=Value.ref e from r1)
  obtain ⟨a0,hg⟩:=q9 I1 hx
  have Y:=jo (M:=model X.prog X.w) I1.kIn XC.mks
  obtain ⟨⟨oc,od,cd,sl,hC,e1,e2,e4⟩,made,base,self,isB,isE,noA,noN,call,typ⟩:=Y
  have T1:Looks (model X.prog X.w) s1.heap (typeOf (.ref e)) (.ref C):=(Looks.ld hg).andThen .now
  have fin:X.xe (.ref e) s1:=by
   refine hxe Z O _ s1 e (.ref C) dd (I1.zE hx) ⟨_,_,hg,rfl,rfl,rfl,?_,nR,.inl rfl⟩ q
   cases z:X.s₀.heap.get? e with
   |none=>rfl
   | some o=>
     have:=I1.base.free e o z h0 (by rw [hex];simp)
     rw [hx] at this;cases this
  have T2:Looks (model X.prog X.w) s1.heap (typeOf (.ref C)) (.type "type"):=looks_typeIn I1.kIn XC.ty
  have T3:Looks (model X.prog X.w) s1.heap (isInstance (.ref e) (.type "BaseException")) true:=T1.andThen isE
  have hh:X.A.handled=none:=I1.ok.hd hcalm
  clear I1 r1 hxs he h I XC made base self isB noA noN call typ
  obtain ⟨hp,g,d,tk,os⟩:=s1
  repeat (first|with_reducible refine wpAny_loadPart_at hg ?_|with_reducible refine T3.at ?_|with_reducible refine T1.at ?_|with_reducible refine T2.at ?_|wp_step)
  exact wpAny_raiseNew_none hh fin
 first
  |exact wpAny_bind (wpAny_standAt (key _ (wpAny_bind (cj (he Z s O H _ I h) fun v s1 z=>wpAny_bind (wpAny_standAt (wpAny_pure z))))))
  |(simp only [evalOpt,Option.map];exact wpAny_bind (wpAny_standAt (key _ (wpAny_bind (cj (he Z s O H _ I h) fun v s1 z=>wpAny_bind (wpAny_standAt (wpAny_pure z)))))))
end
section
variable {X:Cx} {Z:List (Addr×Obj)} {O:St} {H:Hp} {s:Shared} {e C:Addr} {f:Str} {B newId initId:String} {bm:List Value} {A:Around} {E:Value->Shared->Prop} {y:V} {u:Value} {Q:Unit->Shared->Prop}
theorem z9 {da:Addr} {fs:List (Str×V)} (I:Inv X Z O H s) (he:H e=some (eE e C (some da))) (hd:H da=some (pX da fs)) (hl:fs.length<1000) (XC:jz X.K C B newId) (ht:takerIn X.K C f=some none) (ry:RelV y u)
 (h:∀ s',Inv X Z O (upd H da (pX da (my f y fs))) s'->Q () s'):wpAny (model X.prog X.w) A (setAttr (.ref e) f u) Q E s:=by
 obtain ⟨a0,hx⟩:=q9 I he
 obtain ⟨mA,hn,r,wi⟩:=(show bZ X.prog X.w H s.heap da (pX da fs) from I.hok da _ hd).1
 obtain ⟨od,hod,_⟩:=p7 hn
 have J:InstAt s.heap e _ C (some od):=⟨hx,rfl,rfl,hod⟩
 obtain ⟨cd,rs,bm,hc,hdct,_⟩:=XC.cd
 refine set_plain I.kIn J XC.sa (Ik (s:={ s with toks:=s.toks+1 }) I.kIn J XC ht fun b=>ut (s:={ s with toks:=s.toks+1 }) (ns:=fs.map (·.1)) I.kIn hx hc hdct hn wi (by rw [List.length_map];exact hl) fun h' hn' hs=>?_)
 refine h _ (I.write (x:=da) (e:=da) (h':=h') (t':=s.toks+1+1) (by rw [hd];exact True.intro) (.inl rfl) (fun b q hb z=>(hs.2 b hb).trans z) (let ⟨o,_,_,ho,_⟩:=hn';⟨o,ho⟩) (uc hn' (fun g=>?_) fun g hg=>?_))
 ·show lF ((my f y fs).lookup g) (if g=f then some u else mA g)
  rw [j0]
  by_cases q:g=f
  ·rw [if_pos q,if_pos q];exact ry
  ·rw [if_neg q,if_neg q];exact r g
 ·by_cases q:g=f
  ·rw [q];exact (lV f y fs).1
  ·refine (lV f y fs).2 g (wi g fun z=>hg ?_)
   show (if g=f then some u else mA g)=none
   rw [if_neg q];exact z
def GD (K:Frag) (B newId:String) (ta tv:TE) (f:Str):TS:=fun D O H=>tv O H fun y H1=>ta O H1 fun x H2=>∃ e C,x=.ref e/\jz K C B newId/\takerIn K C f=some none/\
 ((H2 e=some (eE e C none)/\∀ da,H2 da=none->D.nx O (upd (upd H2 e (eE e C (some da))) da (pX da [(f,y)])))∨
   ∃ da fs,H2 e=some (eE e C (some da))/\H2 da=some (pX da fs)/\fs.length<1000/\D.nx O (upd H2 da (pX da (my f y fs))))
theorem Ae {o value:Expr} {pos pos':Pos} {ta tv:TE} (ha:PE X o ta) (hv:PE X value tv) (hs:swapsWith value (some (.Attribute o f pos')) pos.line X.env=pure false):PS X (.Assign [.Attribute o f pos'] value pos) (GD X.K B newId ta tv f):=by
 intro Z s O H D I h
 refine plainObj_wpAny_Assign_Attribute (cj (hv Z s O H _ I h) fun u s1 ⟨y,H1,I1,ry,q⟩=>cj (ha Z s1 O H1 _ I1 q) fun ov s2 ⟨x,H2,I2,rx,e,C,ex,XC,ht,q2⟩=>?_) hs
 subst ex
 cases (show ov=Value.ref e from rx)
 rcases q2 with ⟨he,q2⟩|⟨da,fs,he,hd,hl,q2⟩
 ·exact zG I2 he XC ht ry fun da s' hda I3=>⟨O,_,I3,q2 da hda⟩
 ·exact z9 I2 he hd hl XC ht ry fun s' I3=>⟨O,_,I3,q2⟩
theorem tL (BF:ExcBaseFacts B newId initId bm):dH X (.builtin initId) (fun xs H Q=>∃ e C dd y,xs=[.ref e,y]/\H e=some (eE e C dd)/\jz X.K C B newId/\Q .non H):=by
 intro Z s O H xs us Q I r h
 obtain ⟨e,C,dd,y,rfl,he,XC,q⟩:=h
 cases r with
 | cons r1 r=>
   cases r with
   | cons r2 r=>
     cases r
     rename_i u1 u2
     cases (show u1=Value.ref e from r1)
     obtain ⟨a0,hg⟩:=q9 I he
     have Y:=jo (M:=model X.prog X.w) I.kIn XC.mks
     have T1:Looks (model X.prog X.w) s.heap (typeOf (.ref e)) (.ref C):=(Looks.ld hg).andThen .now
     have T3:Looks (model X.prog X.w) s.heap (isInstance (.ref e) (.type B)) true:=T1.andThen Y.isB
     have hshort:=BF.noStar
     refine wpAny_call (codeAny_call_builtin BF.init.plain BF.initEntry ?_)
     simp only [checkBuiltinCall,BF.initKind,BF.initSplit,BF.initRow]
     refine wpAny_bind (T3.here ?_)
     simp only [Bool.not_true,Bool.false_eq_true,if_false]
     obtain ⟨oc,od,cd,sl,hC,e1,e2,e4⟩:=Y.obj
     have T2:=Y.typ
     obtain ⟨hp,g,d,tk,os⟩:=s
     unfold Bind.checkArgs
     repeat (first|with_reducible refine wpAny_loadPart_at hg ?_|with_reducible refine wpAny_loadPart_at hC ?_|with_reducible refine T1.at ?_|wp_step)
     have fin:∀ tk',EP X Z O Q .none ⟨(hp.push { cls:=Value.type "tuple",data:=Data.seq #[u2] }).update e (Obj.mapFields fun x=>x.setIfInBounds 0 (Value.ref hp.objs.size)),g,d,tk',os⟩:=fun tk'=>by
      have hg':hp.get? e=some { cls:=.ref C,dict:=dd,data:=.fields #[a0,.none,.none,.none,.bool false,.none] }:=hg
      have hg1:=Heap.get?_push_of_some (h:=hp) { cls:=Value.type "tuple",data:=Data.seq #[u2] } hg'
      have hg2:=Heap.get?_update_self (Obj.mapFields fun x=>x.setIfInBounds 0 (Value.ref hp.objs.size)) hg1 rfl
      have I1:Inv X Z O H ⟨hp.push { cls:=Value.type "tuple",data:=Data.seq #[u2] },g,d,tk',os⟩:=I.kept (s:=⟨hp,g,d,tk,os⟩) (t':=tk') fun b o z=>Heap.get?_push_of_some _ z
      have I2:=I1.write (x:=e) (e:=e) (o:=eE e C dd) (h':=(hp.push { cls:=Value.type "tuple",data:=Data.seq #[u2] }).update e (Obj.mapFields fun x=>x.setIfInBounds 0 (Value.ref hp.objs.size))) (t':=tk') (by rw [he];exact True.intro) (.inl rfl) (fun b q hb z=>(Heap.get?_update_ne _ _ _ _ hb).trans z) ⟨_,hg2⟩ (qg (a0:=.ref hp.objs.size) hg2)
      have eH:upd H e (eE e C dd)=H:=by
       funext b
       unfold upd
       split
       ·rename_i q;rw [q,he]
       ·rfl
      rw [eH] at I2
      exact ⟨.non,H,I2,rfl,q⟩
     cases a0 <;> first|exact wpAny_pure (wpAny_pure (fin _))|exact wpAny_letGo (wpAny_pure (fin _))
end
section
variable {X:Cx} {CX:jG} {k:Nat} {f C CS:Addr} {fd:FuncData} {ps:List Str} {sp:Sp} {dvs:List V} {ds:List Value} {E:XK} {m tn cn:Str} {T id:String} {p pos apos:Pos} {e:Expr} {es:List Expr} {t:TA} {r:List V->Hp->VK->Prop} {mc:Value}
def Du (r:List V->Hp->VK->Prop) (t:TA):TE:=fun O H Q=>t O H fun vs H1=>r vs H1 Q
theorem qJ {pl:Sem Bool} (hg:Gl X tn) (hm:X.mg tn=none) (hv:bootBuiltins tn=some (.type T)) (ht:typeOf (.type T)=pure (.type "type")) (hs:Manifest.isStub T=false) (fc:findCls X.K (.type T) (.type "type") m=some (.val (.builtin id))) (hc:dH X (.builtin id) r) (ha:PA X (e::es) t) (hh:handedIn (.builtin id)=true:=by rfl)
 (hn:tn ≠ "__name__":=by decide) (hdb:(tn == ("__debug__" : Str))=false:=by decide) (hst:starEach (e::es) X.env=(false,eval e X.env)::starEach es X.env:=by rfl) (hpl:(backTo pos (starEach es X.env)).any (·.1)=false:=by rfl)
 (hte:eval (.Call (.Attribute (.Name tn p) m apos) (e::es) [] pos) X.env=(do
  let ov ← eval (.Name tn p) X.env
  standAt apos.atName
  let (f,first) ← holding [ov] (getMethod ov m pl)
  callWith pos f first (backTo pos (starEach (e::es) X.env)) (backToKw pos (keywordEach [] X.env))):=by rfl) :
 PE X (.Call (.Attribute (.Name tn p) m apos) (e::es) [] pos) (Du r t):=by
 intro Z s O H Q I h
 obtain ⟨mm,F⟩:=I.fr
 refine methodCall_KW (pl:=pl) (j7 I hg hm hv (method_type F I.ok.mod.kin ht hs fc hh ?_) hn hdb) hte
 exact callWith_builtin1 (cj (ha pos Z _ O H _ (I.tok _) h) fun us s1 ⟨vs,H1,I1,r1,q1⟩=>hc Z s1 O H1 vs us Q I1 r1 q1) hst hpl
theorem jM {pl:Sem Bool} (hg:Gl X cn) (hm:X.mg cn=some (.ref CS)) (sg:specialIn X.K (.ref CS) "__getattribute__" = some (some (.builtin "type.__getattribute__"))) (hr':readsIn X.K CS mc=true) (fc:findCls X.K (.ref CS) mc m=some (.val (.ref f))) (hk:keepIn X.K (.ref f)=true)
 (F:aN X.prog X.w X.K X.mg X.base CX k f fd ps sp) (hr:bL k X.A) (hb:Binds X.K fd ps ds) (hd:Vals dvs ds) (hx:fH CX X E) (ha:PA X (e::es) t) (hdb:(cn == ("__debug__" : Str))=false:=by decide)
 (hst:starEach (e::es) X.env=(false,eval e X.env)::starEach es X.env:=by rfl) (hpl:(backTo pos (starEach es X.env)).any (·.1)=false:=by rfl)
 (hte:eval (.Call (.Attribute (.Name cn p) m apos) (e::es) [] pos) X.env=(do
  let ov ← eval (.Name cn p) X.env
  standAt apos.atName
  let (f,first) ← holding [ov] (getMethod ov m pl)
  callWith pos f first (backTo pos (starEach (e::es) X.env)) (backToKw pos (keywordEach [] X.env))):=by rfl) :
 PE X (.Call (.Attribute (.Name cn p) m apos) (e::es) [] pos) (Cp sp dvs E t):=by
 intro Z s O H Q I h
 refine methodCall_KW (pl:=pl) (jq I hg hm (method_cls I.kIn sg (cls_value I.kIn hr' fc rfl ?_)) hdb) hte
 refine callWith_K (first:=[]) (h₀:=X.base) I.ok.mod.kin hk (cj (ha pos Z _ O H _ (I.tok _) h) fun us s1 ⟨vs,H1,I1,r,q⟩=>⟨I1.kIn,?_⟩) hst hpl
 exact yO F hr hb hd hx I1 r q
end
end L2
namespace L2
open PySem PySem.Spec PyProof.Rows
section
variable {X:Cx} {Z:List (Addr×Obj)} {O:List (Option V)} {H H':Hp} {s:Shared} {h':Heap}
theorem Inv.stepN {g':Array GenState} {t':Nat} {d':Drawn} {ch:List Addr} (I:Inv X Z O H s)
 (hch:∀ b∈ch,X.s₀.heap.get? b=none/\b≠X.env.locals/\(∀ x c,X.env.cells.lookup x=some c->c≠b)/\∀ p∈X.pn++Z,p.1≠b)
 (keep:∀ b o,b≠X.env.locals->b∉X.fs->b∉ch->s.heap.get? b=some o->H b=none->h'.get? b=some o)
 (slot:∀ b o,b≠X.env.locals->b∈X.fs->b∉ch->s.heap.get? b=some o->H b=none->∃ sl,h'.get? b=some { o with slots:=sl }) (free:∀ b o,b∉ch->s.heap.get? b=some o->H b=none->H' b=none)
 (there:∀ b o,b∉ch->s.heap.get? b=some o->∃ o',h'.get? b=some o')
 (tups:∀ b xs,H b=some (.tup xs)->H' b=some (.tup xs)) (frzs:∀ b o u,H b=some (.frz o u)->H' b=some (.frz o u)) (tbls:∀ b ps,H b=some (.tbl ps)->∃ more,H' b=some (.tbl (ps++more)))
 (ns:∀ m,s.heap.Ns X.env.locals m->h'.Ns X.env.locals m) (hok:iZ X.prog X.w H' h') (hg:AllBare g') :
 Inv X Z O H' { s with heap:=h',gens:=g',drawn:=d',toks:=t' }:=by
 have neL:∀ b o,X.s₀.heap.get? b=some o->b≠X.env.locals:=fun b o e=>Nat.ne_of_lt (Nat.lt_of_lt_of_le (Heap.lt_size e) I.ok.above)
 have neC:∀ b o,X.s₀.heap.get? b=some o->b∉X.ex->b∉ch:=fun b o e hx hb=>by
  rw [(hch b hb).1] at e;cases e
 have cellK:∀ x c,X.env.cells.lookup x=some c->∀ v,s.heap.IsCell c v->h'.IsCell c v:=fun x c e v ⟨o,ho,hd⟩=>by
  have nch:c∉ch:=fun z=>(hch c z).2.2.1 x c e rfl
  by_cases hc:c∈X.fs
  ·obtain ⟨sl,q⟩:=slot c o (I.cne x c e) hc nch ho (I.freeC x c e)
   exact ⟨_,q,hd⟩
  ·exact ⟨o,keep c o (I.cne x c e) hc nch ho (I.freeC x c e),hd⟩
 refine ⟨I.ok,I.os,hg,⟨fun b o e n hb hx=>?_,fun b o e n hb hx=>?_,fun b o e n hx=>?_,fun b o e hx=>?_,fun b xs e=>tups b xs (I.base.tups b xs e),fun b o xs e=>frzs b o xs (I.base.frzs b o xs e),fun b ps e=>?_⟩,?_,fun x c e=>?_,?_,fun x c e=>?_,fun p hp=>?_,hok,I.len⟩
 ·exact keep b o (neL b o e) hb (neC b o e hx) (I.base.keep b o e n hb hx) (I.base.free b o e n hx)
 ·obtain ⟨sl,e1⟩:=I.base.slot b o e n hb hx
  obtain ⟨sl',e2⟩:=slot b _ (neL b o e) hb (neC b o e hx) e1 (I.base.free b o e n hx)
  exact ⟨sl',e2⟩
 ·obtain ⟨o',e1⟩:=I.base.there b o e hx
  exact free b o' (neC b o e hx) e1 (I.base.free b o e n hx)
 ·obtain ⟨o',e1⟩:=I.base.there b o e hx
  exact there b o' (neC b o e hx) e1
 ·obtain ⟨m1,e1⟩:=I.base.tbls b ps e
  obtain ⟨m2,e2⟩:=tbls b _ e1
  exact ⟨m1++m2,by rw [e2,Array.append_assoc]⟩
 ·obtain ⟨m,hn,hl⟩:=I.loc
  refine ⟨m,ns m hn,fun i x v e1 e2 e3=>?_⟩
  obtain ⟨u,r,l⟩:=hl i x v e1 e2 e3
  refine ⟨u,r,?_⟩
  rcases l with l|⟨k,c,e,z⟩
  ·exact .inl l
  ·exact .inr ⟨k,c,e,cellK x c e _ z⟩
 ·obtain ⟨v,z⟩:=I.cell x c e
  exact ⟨v,cellK x c e v z⟩
 ·obtain ⟨m,⟨o,_,_,ho,_⟩,_⟩:=I.loc
  exact free _ o (fun z=>(hch _ z).2.1 rfl) ho I.free
 ·obtain ⟨v,o,ho,hd⟩:=I.cell x c e
  exact free c o (fun z=>(hch c z).2.2.1 x c e rfl) ho (I.freeC x c e)
 ·obtain ⟨e,n,ne,nf,d⟩:=I.pin p hp
  have nch:p.1∉ch:=fun z=>(hch p.1 z).2.2.2 p hp rfl
  exact ⟨keep p.1 p.2 ne nf nch e n,free p.1 p.2 nch e n,ne,nf,d⟩
end
end L2
namespace L2
open PySem PySem.Spec PyProof.Rows PySem.SeqAt PySem.W Builtin.ObjectAttr
section
variable {X:Cx} {Z:List (Addr×Obj)} {O σ0:St} {H H0:Hp} {s s0:Shared} {e:Addr} {cls:Value} {dd:Option Addr}
theorem Gb {A:Around} {Q:Unit->Shared->Prop} {E:Value->Shared->Prop} (I0:Inv X Z σ0 H0 s0) (I:Inv X Z O H s) (hst:X.stack=X.env::X.outer) (hfm:X.env.frame=some X.env.locals) (hfr:A.frames=some X.stack) (hex:X.ex=[]) (hth:∀ b o,s0.heap.get? b=some o->∃ o',s.heap.get? b=some o') (x:fX s.heap H s0.heap e cls dd)
 (h:∀ h',fX h' H s0.heap e cls dd->Inv X Z O H { s with heap:=h' }->Q () { s with heap:=h' }):wpAny (model X.prog X.w) A (noteFrame (.ref e) X.env) (fun _ s2=>wpAny (model X.prog X.w) A (setFlight (.ref e) none) Q E s2) E s:=by
 have hl:=I.stack
 rw [hst] at hfr hl
 obtain ⟨oe,vs,h1,h2,h3,h4,h5,h6,h7⟩:=x
 have free:∀ b∈(X.env::X.outer).filterMap (·.frame),H b=none:=fun b hb=>I.stkFree b (by rw [hst];exact hb)
 have old:∀ T,s0.heap.get? T=none->X.s₀.heap.get? T=none/\T≠X.env.locals/\(∀ x c,X.env.cells.lookup x=some c->c≠T)/\∀ p∈X.pn++Z,p.1≠T:=fun T hT=>by
  refine ⟨?_,?_,fun x c z q=>?_,fun p hp q=>?_⟩
  ·cases z:X.s₀.heap.get? T with
   |none=>rfl
   | some o=>
     obtain ⟨o',q⟩:=I0.base.there T o z (by rw [hex];simp)
     rw [hT] at q;cases q
  ·rintro rfl
   obtain ⟨_,⟨o,_,_,ho,_⟩,_⟩:=I0.loc
   rw [hT] at ho;cases ho
  ·obtain ⟨v,o,ho,_⟩:=I0.cell x c z
   rw [q,hT] at ho;cases ho
  ·have:=(I0.pin p hp).1
   rw [q,hT] at this;cases this
 have fin:∀ (ch:List Addr) (h':Heap) (T:Addr) (oe' oT:Obj) (vs' ts:Array Value),(∀ b∈ch,s0.heap.get? b=none/\H b=none)->s0.heap.get? T=none->T≠e->H T=none->h'.get? e=some oe'->oe'.cls=oe.cls->oe'.dict=oe.dict->oe'.data=.fields vs'->vs'[1]?=some (.ref T)->h'.get? T=some oT->oT.data=.fields ts->ts[3]?=some .none->
  (∀ b o,b∉ch->b∉(X.env::X.outer).filterMap (·.frame)->s.heap.get? b=some o->h'.get? b=some o)->(∀ b o,b∉ch->s.heap.get? b=some o->∃ sl,h'.get? b=some { o with slots:=sl })->Q () { s with heap:=h' }:=by
  intro ch h' T oe' oT vs' ts hch hT hTe hTn g1 g2 g3 g4 g5 g6 g7 g8 kp ks
  refine h h' ⟨oe',vs',g1,g2.trans h2,g3.trans h3,g4,h5,h6,.inr ⟨T,oT,ts,g5,hTe,g6,g7,g8,hT,hTn⟩⟩ ?_
  have ninF:∀ b,b≠X.env.locals->b∉X.fs->b∉(X.env::X.outer).filterMap (·.frame):=fun b hb hn hm=>by
   rw [List.filterMap_cons,hfm] at hm
   rcases List.mem_cons.mp hm with q|hm
   ·exact hb q
   ·exact hn hm
  refine I.stepN (ch:=ch) (g':=s.gens) (d':=s.drawn) (t':=s.toks) (fun b hb=>old b (hch b hb).1) (fun b o hL hf hc z _=>kp b o hc (ninF b hL hf) z) (fun b o _ _ hc z _=>ks b o hc z) (fun b o _ _ n=>n) (fun b o hc z=>let ⟨sl,q⟩:=ks b o hc z;⟨_,q⟩) (fun _ _ z=>z) (fun _ _ _ z=>z) (fun b ps z=>⟨#[],by rw [z];simp⟩) (fun m hm=>?_) (fun b u hb=>?_) I.bare
  ·obtain ⟨o,es,ep,ho,hd,r⟩:=hm
   have hnl:X.env.locals∉ch:=fun z=>(old _ (hch _ z).1).2.1 rfl
   obtain ⟨sl,q⟩:=ks _ o hnl ho
   exact ⟨_,es,ep,q,hd,r⟩
  ·refine (I.hok b u hb).stay (fun c v hc q=>kp c v (fun z=>?_) (fun hm=>?_) q) (fun _ q=>q) fun _ _ q=>q
   ·have:=(hch c z).2
    rcases hc with rfl|w
    ·rw [this] at hb;cases hb
    ·rw [this] at w;cases w
   ·have:=free c hm
    rcases hc with rfl|w
    ·rw [this] at hb;cases hb
    ·rw [this] at w;cases w
 have newT:∀ T,s.heap.objs.size≤T->s0.heap.get? T=none/\T≠e/\H T=none:=fun T hT=>by
  refine ⟨?_,fun q=>?_,I.hok.fresh hT⟩
  ·cases z:s0.heap.get? T with
   |none=>rfl
   | some o=>
     obtain ⟨o',q⟩:=hth T o z
     exact absurd (Nat.lt_of_lt_of_le (Heap.lt_size q) hT) (Nat.lt_irrefl _)
  ·subst q;exact absurd (Nat.lt_of_lt_of_le (Heap.lt_size h1) hT) (Nat.lt_irrefl _)
 unfold noteFrame
 simp only [hfm]
 rcases h7 with h7|⟨T,oT,ts,t1,t2,t3,t4,t5,t6,t7⟩
 ·refine wpAny_bind (wpAny_field h1 h4 h7 ?_)
  rw [if_neg (by decide)]
  refine pP hfr hl hfm h1 h4 (Array.getElem?_eq_some_iff.mp h7).1 fun h' T oe' oT vs' ts hT g1 g2 g3 g4 g5 g6 g7 g8 kp ks=>?_
  obtain ⟨n1,n2,n3⟩:=newT T hT
  exact fin [e] h' T oe' oT vs' ts (fun b hb=>by cases List.mem_singleton.mp hb;exact ⟨h5,h6⟩) n1 n2 n3 g1 g2 g3 g4 g5 g6 g7 g8 (fun b o hb hm z=>kp b o (fun q=>hb (by simp [q])) hm z) fun b o hb z=>ks b o (fun q=>hb (by simp [q])) z
 ·refine wpAny_bind (wpAny_field h1 h4 t1 ?_)
  rw [if_pos (show (Value.ref T != Value.none)=true by simp)]
  refine wpAny_bind (wpAny_field t3 t4 t5 ?_)
  rw [if_neg (show ¬ ((Value.none == rawInt X.env.locals)=true) by simp [rawInt])]
  refine wpAny_bind (wpAny_setField t3 t4 (Array.getElem?_eq_some_iff.mp t5).1 ?_)
  have other:∀ b,b≠T->(s.heap.update T (Obj.mapFields (·.setIfInBounds 3 Value.none))).get? b=s.heap.get? b:=fun b hb=>Heap.get?_update_other _ _ (Ne.symm hb)
  have noR:∀ b o,s.heap.get? b=some o->(∀ vs,o.data≠.fields vs)->b≠T:=fun b o hb hnf q=>by
   subst q
   rw [t3] at hb
   cases hb
   exact hnf ts t4
  refine pP (s:={ s with heap:=s.heap.update T (Obj.mapFields (·.setIfInBounds 3 Value.none)) }) hfr (hl.of_keeps fun b o hb hnf=>⟨o,(other b (noR b o hb hnf)).trans hb,rfl⟩) hfm ((other e (Ne.symm t2)).trans h1) h4 (Array.getElem?_eq_some_iff.mp t1).1 fun h' T' oe' oT' vs' ts' hT g1 g2 g3 g4 g5 g6 g7 g8 kp ks=>?_
  have hT':s.heap.objs.size≤T':=by
   have z:(s.heap.update T (Obj.mapFields (·.setIfInBounds 3 Value.none))).objs.size=s.heap.objs.size:=Heap.size_update _ _ _
   exact Nat.le_trans (Nat.le_of_eq z.symm) hT
  obtain ⟨n1,n2,n3⟩:=newT T' hT'
  refine fin [e,T] h' T' oe' oT' vs' ts' (fun b hb=>?_) n1 n2 n3 g1 g2 g3 g4 g5 g6 g7 g8 (fun b o hb hm z=>kp b o (fun q=>hb (by simp [q])) hm ((other b fun q=>hb (by simp [q])).trans z)) fun b o hb z=>ks b o (fun q=>hb (by simp [q])) ((other b fun q=>hb (by simp [q])).trans z)
  rcases List.mem_cons.mp hb with rfl|hb
  ·exact ⟨h5,h6⟩
  ·cases List.mem_singleton.mp hb;exact ⟨t6,t7⟩
end
theorem Eh {h:Heap} {a:Addr} {o:Obj} {f:Obj->Obj} (e:h.get? a=some o) (hf:f o=o):h.update a f=h:=by
 obtain ⟨objs,l⟩:=h
 have e':objs[a]?=some o:=by
  unfold Heap.get? at e
  dsimp only at e
  split at e
  ·cases e
  ·exact e
 show (⟨objs.modify a f,l⟩:Heap)=⟨objs,l⟩
 congr 1
 obtain ⟨hlt,e2⟩:=Array.getElem?_eq_some_iff.mp e'
 refine Array.ext (by simp) fun i h1 h2=>?_
 rw [Array.getElem_modify]
 split
 ·rename_i q
  subst q
  rw [e2,hf]
 ·rfl
section
variable {X:Cx} {Z:List (Addr×Obj)} {O σ0:St} {H H0:Hp} {s s0:Shared} {e:Addr} {cls:Value} {dd:Option Addr}
theorem Inv.drop (I:Inv X Z O H s) (i:Nat):Inv X Z (O.set i none) H s:=by
 obtain ⟨ok,os,bare,base,⟨m,hn,hl⟩,cell,free,freeC,pin,hok,len⟩:=I
 refine ⟨ok,os,bare,base,⟨m,hn,fun j x v e1 e2 e3=>?_⟩,cell,free,freeC,pin,hok,by simpa using len⟩
 by_cases hj:j=i
 ·subst hj
  rw [List.getElem?_set] at e2
  split at e2 <;> simp_all
 ·rw [List.getElem?_set_ne (Ne.symm hj)] at e2
  exact hl j x v e1 e2 e3
theorem mH {M:Model} {A:Around} {E:Value->Shared->Prop} {i:Nat} {x:Str} {pos:Pos} {Q:Unit->Shared->Prop} (I:Inv X Z O H s) (hN:X.N.Nodup) (hi:X.N[i]?=some x) (hx:X.env.scope.names.lookup x=some .local)
 (h:∀ s',Inv X Z (O.set i none) H s'->Q () s'):wpAny M A (do bindName X.env x .none;unbindBehindTheSuite X.env x pos) Q E s:=by
 have hcls:(X.env.scope.kind == .class || (X.env.scope.kind == .module && X.env.locals != X.env.globals))=false:=by rw [I.ok.kind];rfl
 have hiO:i<O.length:=by rw [I.len];exact (List.getElem?_eq_some_iff.mp hi).1
 refine wpAny_bind (wpAny_bindName (eX I hN hi (.inl hx) (v:=.non) (u:=.none) rfl (fun s1 I1=>?_) (.inr hx)))
 obtain ⟨m,hn,hl⟩:=id I1.loc
 obtain ⟨u,_,lk⟩:=hl i x .non hi (by rw [List.getElem?_set_self hiO]) (.inl hx)
 have hv:m x=some u:=by
  rcases lk with ⟨_,z⟩|⟨k,_⟩
  ·exact z
  ·unfold Env.kindOf at k
   rw [hx] at k
   rcases k with k|k <;> cases k
 unfold unbindBehindTheSuite
 refine wpAny_onRaise (wpAny_unbindName_local hx hn hv hcls fun h' u' hn' hs=>?_)
 have I2:=I1.drop i
 rw [List.set_set] at I2
 obtain ⟨ok,os,bare,base,⟨m2,hn2,hl2⟩,cell,free,freeC,pin,hok,len⟩:=id I2
 obtain ⟨oL,_,_,hoL,_⟩:=id hn
 have neL:∀ b o,X.s₀.heap.get? b=some o->b≠X.env.locals:=fun b o e=>Nat.ne_of_lt (Nat.lt_of_lt_of_le (Heap.lt_size e) ok.above)
 refine h _ ⟨ok,os,bare,⟨fun b o e n hb hx=>?_,fun b o e n hb hx=>?_,base.free,fun b o e hx=>?_,base.tups,base.frzs,base.tbls⟩,⟨_,hn',fun j y v' e1 e2 e3=>?_⟩,fun y c e=>?_,free,freeC,fun p hp=>?_,fun b ob e=>?_,len⟩
 ·exact (hs.2 b (neL b o e)).trans (base.keep b o e n hb hx)
 ·obtain ⟨sl,e1⟩:=base.slot b o e n hb hx
  exact ⟨sl,(hs.2 b (neL b o e)).trans e1⟩
 ·obtain ⟨o',e1⟩:=base.there b o e hx
  exact ⟨o',(hs.2 b (neL b o e)).trans e1⟩
 ·have hj:j≠i:=fun q=>by
   subst q
   rw [List.getElem?_set_self hiO] at e2;cases e2
  rw [List.getElem?_set_ne (Ne.symm hj)] at e2
  obtain ⟨u'',r',q⟩:=hl j y v' e1 (by rw [List.getElem?_set_ne (Ne.symm hj)];exact e2) e3
  refine ⟨u'',r',?_⟩
  rcases q with ⟨k,e⟩|⟨k,c,e,z⟩
  ·refine .inl ⟨k,?_⟩
   have:y≠x:=fun e=>hj (nO hN e1 (e ▸ hi))
   simp [this,e]
  ·exact .inr ⟨k,c,e,z.sameBut hs (I1.cne y c e)⟩
 ·obtain ⟨w',z⟩:=I1.cell y c e
  exact ⟨w',z.sameBut hs (I1.cne y c e)⟩
 ·obtain ⟨e,n,ne,nf,d⟩:=pin p hp
  exact ⟨(hs.2 p.1 ne).trans e,n,ne,nf,d⟩
 ·refine (hok b ob e).stay (fun c w' hc q=>(hs.2 c ?_).trans q) (fun _ q=>q) fun _ _ q=>q
  rintro rfl
  rcases hc with rfl|hc
  ·rw [free] at e;cases e
  ·rw [free] at hc;cases hc
theorem tX {M:Model} {A:Around} {Q:Unit->Shared->Prop} {E:Value->Shared->Prop} (x:fX s.heap H s0.heap e cls dd) (h:Q () s):wpAny M A (setFlight (.ref e) none) Q E s:=by
 obtain ⟨oe,vs,h1,h2,h3,h4,h5,h6,h7⟩:=x
 unfold setFlight
 rcases h7 with h7|⟨T,oT,ts,t1,t2,t3,t4,t5,t6,t7⟩
 ·refine wpAny_bind (wpAny_field h1 h4 h7 ?_)
  rw [if_neg (by decide)]
  exact wpAny_pure h
 ·refine wpAny_bind (wpAny_field h1 h4 t1 ?_)
  rw [if_pos (show (Value.ref T != Value.none)=true by simp)]
  refine wpAny_setField t3 t4 (Array.getElem?_eq_some_iff.mp t5).1 ?_
  have:s.heap.update T (Obj.mapFields (·.setIfInBounds 3 ((none:Option Addr).elim Value.none fun f=>rawInt f)))=s.heap:=by
   refine Eh t3 ?_
   obtain ⟨c,d,da,sl⟩:=oT
   cases (show da=.fields ts from t4)
   show (⟨c,d,.fields (ts.setIfInBounds 3 .none),sl⟩:Obj)=⟨c,d,.fields ts,sl⟩
   have:ts.setIfInBounds 3 .none=ts:=by
    obtain ⟨hlt,e2⟩:=Array.getElem?_eq_some_iff.mp t5
    refine Array.ext (by simp) fun i h1 h2=>?_
    rw [Array.getElem_setIfInBounds]
    split
    ·rename_i q
     subst q
     exact e2.symm
    ·rfl
   rw [this]
  rw [this]
  exact h
end
def zu (X:Cx) (ea:Addr) (ps:List (Addr×Obj)):Cx:={ X with A:=X.A.mark (some (.ref ea)),calm:=false,pn:=X.pn++ps,xe:=fun _ _=>False }
section
variable {X:Cx} {Z:List (Addr×Obj)} {O σ0:St} {H H0:Hp} {s s0:Shared} {e:Addr} {cls:Value} {dd:Option Addr}
theorem Cx.Ok.into (ok:X.Ok) {ea:Addr} {ps:List (Addr×Obj)}:(zu X ea ps).Ok:=
 ⟨ok.mod,ok.kind,ok.glob,ok.blt,ok.above,ok.inj,ok.has,ok.cab,(fun h=>nomatch h),ok.frames,ok.stk,ok.exf,ok.bs,ok.bsz,ok.noex,ok.exfs,ok.funs,ok.frf⟩
theorem Inv.into (I:Inv X Z O H s) {ea:Addr} {ps:List (Addr×Obj)} (hp:∀ p∈ps,s.heap.get? p.1=some p.2/\H p.1=none/\p.1≠X.env.locals/\p.1∉X.fs/\∀ v,p.2.data≠.cell v):Inv (zu X ea ps) Z O H s:=by
 refine ⟨I.ok.into,I.os,I.bare,I.base,I.loc,I.cell,I.free,I.freeC,fun p h=>?_,I.hok,I.len⟩
 rcases List.mem_append.mp h with h|h
 ·rcases List.mem_append.mp h with h|h
  ·exact I.pin p (List.mem_append_left _ h)
  ·exact hp p h
 ·exact I.pin p (List.mem_append_right _ h)
theorem Inv.outof {ea:Addr} {ps:List (Addr×Obj)} (I:Inv (zu X ea ps) Z O H s) (ok:X.Ok):Inv X Z O H s:=by
 refine ⟨ok,I.os,I.bare,I.base,I.loc,I.cell,I.free,I.freeC,fun p h=>?_,I.hok,I.len⟩
 rcases List.mem_append.mp h with h|h
 ·exact I.pin p (List.mem_append_left _ (List.mem_append_left _ h))
 ·exact I.pin p (List.mem_append_right _ h)
theorem Inv.handle (I0:Inv X Z σ0 H0 s0) (I:Inv X Z O H s) (x:fX s.heap H s0.heap e cls dd):∃ ps oe,(e,oe)∈ps/\oe.cls=cls/\oe.dict=dd/\(∃ vs,oe.data=.fields vs)/\Inv (zu X e ps) Z O H s/\∀ {σ1 H1 s1},Inv (zu X e ps) Z σ1 H1 s1->fX s1.heap H1 s0.heap e cls dd:=by
 obtain ⟨oe,vs,h1,h2,h3,h4,h5,h6,h7⟩:=x
 have new:∀ T o vs,s0.heap.get? T=none->s.heap.get? T=some o->H T=none->o.data=.fields vs->s.heap.get? T=some o/\H T=none/\T≠X.env.locals/\T∉X.fs/\∀ v,o.data≠.cell v:=fun T o vs hT ho hn hd=>by
  refine ⟨ho,hn,?_,fun q=>?_,fun v q=>by rw [hd] at q;cases q⟩
  ·rintro rfl
   obtain ⟨_,⟨o,_,_,ho,_⟩,_⟩:=I0.loc
   rw [hT] at ho;cases ho
  ·obtain ⟨_,o,ho,_⟩:=I0.funs.mem q
   rw [hT] at ho;cases ho
 rcases h7 with h7|⟨T,oT,ts,t1,t2,t3,t4,t5,t6,t7⟩
 ·refine ⟨[(e,oe)],oe,List.mem_singleton.mpr rfl,h2,h3,⟨_,h4⟩,I.into fun p hp=>?_,fun {σ1 H1 s1} I1=>?_⟩
  ·cases List.mem_singleton.mp hp
   exact new e oe vs h5 h1 h6 h4
  ·have p:=I1.pin (e,oe) (List.mem_append_left _ (List.mem_append_right _ (List.mem_singleton.mpr rfl)))
   exact ⟨oe,vs,p.1,h2,h3,h4,h5,p.2.1,.inl h7⟩
 ·refine ⟨[(e,oe),(T,oT)],oe,List.mem_cons_self,h2,h3,⟨_,h4⟩,I.into fun p hp=>?_,fun {σ1 H1 s1} I1=>?_⟩
  ·rcases List.mem_cons.mp hp with rfl|hp
   ·exact new e oe vs h5 h1 h6 h4
   ·cases List.mem_singleton.mp hp
    exact new T oT ts t6 t3 t7 t4
  ·have p:=I1.pin (e,oe) (List.mem_append_left _ (List.mem_append_right _ List.mem_cons_self))
   have q:=I1.pin (T,oT) (List.mem_append_left _ (List.mem_append_right _ (List.mem_cons_of_mem _ (List.mem_singleton.mpr rfl))))
   exact ⟨oe,vs,p.1,h2,h3,h4,h5,p.2.1,.inr ⟨T,oT,ts,t1,t2,q.1,t4,t5,t6,q.2.1⟩⟩
theorem wC {K:Frag} {P:Program} {w:World} {A:Around} {E:Value->Shared->Prop} {Q:Bool->Shared->Prop} {C Ce:Addr} {B newId:String} {b:Bool} {oe:Obj} (kin:K.In s.heap) (he:s.heap.get? e=some oe) (hcls:oe.cls=.ref Ce) (XC:jz K C B newId) (hm:mroIn K Ce (.ref C)=some b) (h:Q b s) :
 wpAny (model P w) A (excMatches (.ref e) (.ref C)) Q E s:=by
 have Y:=jo (M:=model P w) kin XC.mks
 obtain ⟨⟨oc,od,cd,sl,hC,_,_,_⟩,_,_,_,_,isE,_,_,_,typ⟩:=Y
 have T1:Looks (model P w) s.heap (typeOf (.ref e)) (.ref Ce):=hcls ▸ (Looks.ld he).andThen .now
 have T2:Looks (model P w) s.heap (typeOf (.ref C)) (.type "type"):=looks_typeIn kin XC.ty
 have T4:Looks (model P w) s.heap (isSubtype (.ref Ce) (.ref C)) b:=looks_mroIn kin hm
 have f:=tc_notTuple
 obtain ⟨hp,g,d,tk,os⟩:=s
 unfold excMatches
 repeat (first|with_reducible refine wpAny_loadPart_at hC ?_|with_reducible refine isE.at ?_|with_reducible refine T4.at ?_|with_reducible refine typ.at ?_|with_reducible refine T1.at ?_|with_reducible refine T2.at ?_|wp_step)
 cases b <;> (wp_walk;exact h)
end
abbrev Gk:=Ends->Addr->Option Addr->St->Hp->Prop
def PH (X:Cx) (hs:List ExceptHandler) (th:Gk):Prop:=
 ∀ (Z:List (Addr×Obj)) (s0:Shared) (σ0:St) (H0:Hp) (s:Shared) (O:St) (H:Hp) (D:Ends) (ea Ce:Addr) (dd:Option Addr),Inv X Z σ0 H0 s0->Inv X Z O H s->fX s.heap H s0.heap ea (.ref Ce) dd->th D Ce dd O H->wpAny (model X.prog X.w) X.A (handleBy (.ref ea) X.env hs) (SP X Z D) X.xe s
def yU (i:Nat) (D:Ends):Ends:=⟨fun O H=>D.nx (O.set i none) H,D.rt,fun O H=>D.bk (O.set i none) H,fun O H=>D.ct (O.set i none) H⟩
def Jc (K:Frag) (C:Addr) (B newId:String) (i:Nat) (tb:Addr->Addr->Option Addr->TS) (tr:Gk):Gk:=fun D Ce dd O H=>jz K C B newId/\∃ b,mroIn K Ce (.ref C)=some b/\if b then ∀ ea,tb ea Ce dd (yU i D) (O.set i (some (.ref ea))) H else tr D Ce dd O H
section
variable {X:Cx}
theorem E_:PH X [] (fun _ _ _ _ _=>False):=fun _ _ _ _ _ _ _ _ _ _ _ _ _ _ h=>h.elim
theorem pR {t:Expr} {n:Str} {b0:Stmt} {body:List Stmt} {pos:Pos} {rest:List ExceptHandler} {C:Addr} {B newId:String} {i:Nat} {tb:Addr->Addr->Option Addr->TS} {tr:Gk} (hN:X.N.Nodup) (hi:X.N[i]?=some n) (hx:X.env.scope.names.lookup n=some .local)
 (ht:∀ ea ps,PE (zu X ea ps) t (tC (.ref C))) (hb:∀ ea oe ps Ce dd,(ea,oe)∈ps->oe.cls=.ref Ce->oe.dict=dd->(∃ vs,oe.data=.fields vs)->qH (zu X ea ps) (b0::body) (tb ea Ce dd)) (hr:PH X rest tr) :
 PH X (.ExceptHandler (some t) (some n) (b0::body) pos::rest) (Jc X.K C B newId i tb tr):=by
 intro Z s0 σ0 H0 s O H D ea Ce dd I0 I x h
 obtain ⟨XC,b,hm,hk⟩:=h
 obtain ⟨ps,oe,hmem,hc,hd,hvs,IH,back⟩:=I0.handle I x
 refine wpAny_handleBy_cons (codeAny_handlers_test (wpAny_mono (ht ea ps Z s O H (fun v H1=>v=.ref C/\H1=H) IH ⟨rfl,rfl⟩) (fun c s1 z=>?_) fun _ _ z=>z.elim)) (by intro q;cases q)
 obtain ⟨v,H1,I1,r,rfl,rfl⟩:=z
 cases (show c=Value.ref C from r)
 have p:=I1.pin (ea,oe) (List.mem_append_left _ (List.mem_append_right _ hmem))
 refine wC I1.kIn p.1 hc XC hm ?_
 cases b with
 |false=>exact hr Z s0 σ0 H0 s1 O H1 D ea Ce dd I0 (I1.outof I.ok) (back I1) hk
 | true=>
   refine codeAny_handlers_suite_as (tX (back I1) (eX (X:=zu X ea ps) I1 hN hi (.inl hx) (v:=.ref ea) rfl (fun s2 I2=>wpAny_mono (hb ea oe ps Ce dd hmem hc hd hvs Z s2 _ _ (yU i D) I2 (hk ea)) (fun f s3 z=>?_) fun _ _ z=>z.elim) (.inr hx)))
   show wpAny _ X.A _ _ X.xe s3
   cases f with
   | next=>
     obtain ⟨σ',H',I3,q⟩:=z
     exact mH (I3.outof I.ok) hN hi hx fun s' I'=>⟨_,_,I',q⟩
   | brk=>
     obtain ⟨σ',H',I3,q⟩:=z
     exact mH (I3.outof I.ok) hN hi hx fun s' I'=>⟨_,_,I',q⟩
   | cont=>
     obtain ⟨σ',H',I3,q⟩:=z
     exact mH (I3.outof I.ok) hN hi hx fun s' I'=>⟨_,_,I',q⟩
   | ret u=>
     obtain ⟨v,σ',H',I3,r',q⟩:=z
     exact mH (I3.outof I.ok) hN hi hx fun s' I'=>⟨v,_,_,I',r',q⟩
def zp (X:Cx) (Z:List (Addr×Obj)) (s0:Shared) (W:Addr->Option Addr->St->Hp->Prop):Value->Shared->Prop:=fun v s=>∃ ea Ce dd O H,v=.ref ea/\Inv X Z O H s/\(∀ b o,s0.heap.get? b=some o->∃ o',s.heap.get? b=some o')/\fX s.heap H s0.heap ea (.ref Ce) dd/\W Ce dd O H
abbrev Kv:=Ends->(Addr->Option Addr->St->Hp->Prop)->St->Hp->Prop
def Om (X:Cx) (st:List Stmt) (t:Kv):Prop:=
 ∀ (Z:List (Addr×Obj)) (s:Shared) (O:St) (H:Hp) (D:Ends) (W:Addr->Option Addr->St->Hp->Prop),Inv X Z O H s->t D W O H->wpAny (model X.prog X.w) X.A (execs st X.env) (SP X Z D) (zp X Z s W) s
def M6 (t:Kv) (th:Gk):TS:=fun D O H=>t D (fun Ce dd σ' H'=>th D Ce dd σ' H') O H
theorem Dq {body:List Stmt} {h0:ExceptHandler} {hs:List ExceptHandler} {pos:Pos} {t:Kv} {th:Gk} (hst:X.stack=X.env::X.outer) (hfm:X.env.frame=some X.env.locals) (hex:X.ex=[]) (hb:Om X body t) (hh:PH X (h0::hs) th):PS X (.Try body (h0::hs) [] [] pos) (M6 t th):=by
 intro Z s O H D I h
 refine wpAny_Try_except (wpAny_mono (hb Z s O H D _ I h) (fun f s1 z=>?_) fun v s1 z=>?_)
 ·cases f with
  |next=>exact wpAny_execs_nil z
  |brk=>exact z
  |cont=>exact z
  |ret u=>exact z
 ·obtain ⟨ea,Ce,dd,σ1,H1,rfl,I1,th1,x,q⟩:=z
  refine Gb I I1 hst hfm I.ok.frames hex th1 x fun h' x' I2=>hh Z s O H _ σ1 H1 D ea Ce dd I I2 x' q
end
structure Thunk (P:Program) (w:World) (K:Frag) (mg:Str->Option Value) (base:Heap) (g:Heap) (H₀:Hp) (fr:List Addr) (k:Nat) (f:Addr) (H:Hp) (Qv:VK) (Ev:XK):Prop where
 fn:∀ s:Shared,iZ P w H s.heap->∃ fo fd,s.heap.get? f=some fo/\fo.data=.func fd
 run:∀ (A:Around) (outer:List Env) (s:Shared),bL k A->oH P w K mg base A outer s H->(∀ b o,g.get? b=some o->H₀ b=none->b∉fr->s.heap.get? b=some o)->codeAny (model P w) A (.call (.ref f) ⟨[],[]⟩) (CR (jJ P w) outer P w H s Qv Ev) s
section
variable {X:Cx}
theorem keeps_F {M:Model} {f:Addr} (h:Heap) (z:∃ fo fd,h.get? f=some fo/\fo.data=.func fd):∃ k,(k=Keeper.frame∨k=Keeper.machine∨k=Keeper.boundFrame)/\Looks M h (keeperOf (.ref f)) k:=by
 obtain ⟨fo,fd,e,d⟩:=z
 obtain ⟨c,di,da,sl⟩:=fo
 cases (show da=.func fd from d)
 exact ⟨.frame,.inl rfl,(Looks.ld (part:=none) e).andThen .now⟩
def Ga (X:Cx) (k i j:Nat):Kv:=fun D W O H=>∃ f Qv Ev,O[j]?=some (some (.ref f))/\Thunk X.prog X.w X.K X.mg X.base X.s₀.heap X.H₀ X.fs k f H Qv Ev/\(∀ v H',Qv v H'->D.nx (O.set i (some v)) H')/\∀ cls dd H',Ev cls dd H'->∃ Ce,cls=.ref Ce/\W Ce dd O H'
theorem vG {k i j:Nat} {x a:Str} {px pa pc pos:Pos} (hN:X.N.Nodup) (hi:X.N[i]?=some x) (hx:Loc X.env.scope x) (hj:X.N[j]?=some a) (ha:Kl X.env.scope a) (hex:X.ex=[]) (hr:bL k X.A) (hs:swapsWith (.Call (.Name a pa) [] [] pc) (some (.Name x px)) pos.line X.env=pure false:=by rfl) (hf:X.fn x=true∨X.env.scope.names.lookup x=some .local:=by first|exact .inl rfl|exact .inr rfl|assumption)
 (hd:(a == ("__debug__" : Str))=false:=by decide) (hcd:(a == ("__classdict__" : Str))=false:=by decide) :
 Om X [.Assign [.Name x px] (.Call (.Name a pa) [] [] pc) pos] (Ga X k i j):=by
 intro Z s O H D W I h
 obtain ⟨f,Qv,Ev,e,T,hv,he⟩:=h
 have kp:∀ b o,X.s₀.heap.get? b=some o->X.H₀ b=none->b∉X.fs->s.heap.get? b=some o:=fun b o z n hb=>I.base.keep b o z n hb (by rw [hex];simp)
 have fin:∀ t:Sem Flow,wpAny (model X.prog X.w) X.A t (fun f s1=>f=.next/\∃ v H',Inv X Z (O.set i (some v)) H' s1/\Qv v H') (zp X Z s W) s->wpAny (model X.prog X.w) X.A t (SP X Z D) (zp X Z s W) s:=fun t ht=>cj ht fun f s1 ⟨q,v,H',I1,z⟩=>by subst q;exact ⟨_,_,I1,hv _ _ z⟩
 have one:wpAny (model X.prog X.w) X.A (exec (.Assign [.Name x px] (.Call (.Name a pa) [] [] pc) pos) X.env) (fun f s1=>f=.next/\∃ v H',Inv X Z (O.set i (some v)) H' s1/\Qv v H') (zp X Z s W) s:=by
  refine wpAny_Assign_Name (cj (Q:=EP X Z O Qv) ?_ fun v s1 ⟨y,H1,I1,r1,q1⟩=>eX I1 hN hi hx r1 (fun s2 I2=>⟨rfl,y,H1,I2,q1⟩) hf) hs
  refine wpAny_Call_Name_kw ?_
  have named:∀ Q':Value->Shared->Prop,Q' (.ref f) s->wpAny (model X.prog X.w) X.A (eval (.Name a pa) X.env) Q' (zp X Z s W) s:=fun Q' hq=>by
   obtain ⟨m,hn,hl⟩:=I.loc
   obtain ⟨u,r,l⟩:=hl j a (.ref f) hj e ha
   cases (show u=Value.ref f from r)
   rcases l with ⟨hk,hm⟩|⟨hk,c,hc,hcell⟩
   ·exact wpAny_Name (wpAny_loadName_local I.ok.kind hk hn hm hq) hd
   ·rcases hk with hk|hk
    ·exact wpAny_Name (wpAny_loadName_cell I.ok.kind hk hc hcell hq) hd
    ·exact wpAny_Name (wpAny_loadName_free I.ok.kind hk hc hcell hq hcd) hd
  refine named _ ?_
  obtain ⟨fo,fd,g1,g2⟩:=T.fn s I.hok
  refine callWith_of (P:=fun h=>∃ fo fd,h.get? f=some fo/\fo.data=.func fd) rfl keeps_F (evalArgs_nil3 ⟨⟨fo,fd,g1,g2⟩,?_⟩)
  refine wpAny_call (codeAny_mono (T.run X.A X.stack s hr I.env0 kp) fun r s' hq=>?_)
  cases r with
  | error ev=>
    obtain ⟨ea,cls,dd,H',rfl,os,bare,un,hok,xo,q⟩:=hq
    obtain ⟨Ce,rfl,z⟩:=he _ _ _ q
    refine ⟨ea,Ce,dd,O,H',rfl,I.call' os un hok bare (fun b z=>absurd z (by simp)),fun b o z=>un.there b o z (by simp),xo,z⟩
  | ok fl=>
    cases fl with
    |ret u=>exact I.after hq
    |next=>exact False.elim hq
    |brk=>exact False.elim hq
    |cont=>exact False.elim hq
 refine wpAny_execs_cons (cj one fun fl s1 z=>?_)
 obtain ⟨rfl,v,H',I1,q⟩:=z
 exact wpAny_execs_nil ⟨_,_,I1,hv _ _ q⟩
end
structure xg (K:Frag) (C:Addr) (f:Str):Prop where
 ga:findIn K (.ref C) "__getattribute__" = some (some (.builtin "BaseException.__getattribute__"))
 gh:findIn K (.ref C) "__getattr__" = some none
 hd:hasDictIn K C=true
 na:findIn K (.ref C) f=some none
 be:mroIn K C (.type "BaseException")=some true
section
variable {prog:Program} {w:World} {A:Around} {E:Value->Shared->Prop} {s:Shared} {K:Frag} {x C:Addr} {ox:Obj} {od:Option Obj} {name:Str} {expr:Bool} {Q:Value->Shared->Prop}
theorem Nx {v:Value} (X:K.In s.heap) (I:InstAt s.heap x ox C od) (G:xg K C name) (hf:findObj K C od name=some (.value v)) (hh:handedIn v=true) (h:Q v { s with toks:=s.toks+1 }):wpAny (model prog w) A (getAttr (.ref x) name expr) Q E s:=by
 obtain ⟨hp,g,d,t,os⟩:=s
 have L0:=I.type (M:=model prog w)
 have L1:=looks_findIn (M:=model prog w) X G.ga
 have L2:=looks_findIn (M:=model prog w) X G.gh
 have L3:=looks_find (M:=model prog w) X I hf
 have LB:Looks (model prog w) hp (isInstance (.ref x) (.type "BaseException")) true:=L0.andThen (looks_mroIn X G.be)
 have f3:=F.excAttr_ValueError.ga.bind (.ref x)
 have hx0:(expr && onTheHeap (Value.builtin "BaseException.__getattribute__"))=false:=by cases expr <;> rfl
 have hx2:(Value.builtin "BaseException.__getattribute__" == Value.builtin "object.__getattribute__")=false:=by decide +kernel
 have hx1:(onTheHeap (Value.ref C) && Value.builtin "BaseException.__getattribute__" == Value.builtin "object.__getattribute__")=false:=by rw [hx2];rfl
 unfold getAttr getAttrBy
 refine wpAny_bind (wpAny_mkText (wpAny_holding (wpAny_bind (L0.at (wpAny_bind (L1.at ?_))))))
 dsimp only
 rw [if_neg (by rw [hx1];decide)]
 unfold getAttrByItsOwn hookBefore
 rw [if_pos (show onTheHeap (Value.ref C)=true from rfl)]
 refine wpAny_bind (L2.at ?_)
 have key:∀ R:Result->Shared->Prop,R (.ok (.ret v)) ⟨hp,g,d,t+1,os⟩->codeAny (model prog w) A (.call (.builtin "BaseException.__getattribute__") ⟨[.ref x,.str name t],[]⟩) R ⟨hp,g,d,t+1,os⟩:=fun R hR=>by
  refine codeAny_call_builtin F.excAttr_ValueError.ga.plain F.entry_bexc_ga (check_slot (i:="BaseException.__getattribute__") (owner:="BaseException") (n:="__getattribute__") (by decide +kernel) (by decide +kernel) LB (F.args_bexc_ga _ _) ?_)
  refine wpAny_bind (wpAny_pure (wpAny_bind (wpAny_pure (wpAny_bind (L0.at (wpAny_bind (L3.at ?_)))))))
  exact wpAny_pure hR
 have done:wpAny (model prog w) A (handedOut v) Q E ⟨hp,g,d,t+1,os⟩:=by rw [handedOut_of hh];exact wpAny_pure h
 clear L0 L1 L2 L3 LB hf I G X
 repeat (any_goals (first|assumption|wp_step))
 exact key _ done
end
def JH (K:Frag) (ea C:Addr) (dd:Option Addr) (ta:TE) (f:Str):TE:=fun O H Q=>ta O H fun x H1=>∃ da fs v,x=.ref ea/\dd=some da/\H1 da=some (pX da fs)/\xg K C f/\fs.lookup f=some v/\Q v H1
section
variable {X:Cx} {e:Expr} {f:Str} {pos:Pos} {ta:TE} {ea C:Addr} {oe:Obj} {dd:Option Addr}
theorem Dz (hm:(ea,oe)∈X.pn) (hc:oe.cls=.ref C) (hdct:oe.dict=dd) (hd:∃ vs,oe.data=.fields vs) (he:PE X e ta) (hb:attributeBase e f X.env (eval e X.env)=eval e X.env:=by rfl):PE X (.Attribute e f pos) (JH X.K ea C dd ta f):=by
 intro Z s O H Q I h
 refine Ak hb (cj (he Z s O H _ I h) fun u s1 ⟨x,H1,I1,rx,da,fs,v,ex,ed,hH,G,l,q⟩=>?_)
 subst ex
 subst ed
 obtain rfl:u=Value.ref ea:=rx
 have p:=(I1.pin (ea,oe) (List.mem_append_left _ hm)).1
 obtain ⟨⟨mA,hn,r,wi⟩,_,_⟩:=I1.hok da _ hH
 obtain ⟨u,hu,ru⟩:=lF.some_of (v:=v) (o:=mA f) (by rw [← l];exact r f)
 obtain ⟨od,ho,hl⟩:=p7 hn
 obtain ⟨vs,hvs⟩:=hd
 have J:InstAt s1.heap ea oe C (some od):=⟨p,hc,by unfold notCls;rw [hvs],by rw [hdct];exact ho⟩
 exact Nx I1.kIn J G (findObj_own G.hd G.na rfl (by rw [hl,hu])) (wY ru) ⟨v,H1,I1.tok _,ru,q⟩
end
end L2
namespace L2
open PySem PySem.Spec PyProof.Rows
structure o_ (P:Program) (w:World) (K:PySem.W.Frag) (mg:Str->Option Value) (base:Heap) (CX:jG) (k:Nat) (f:Addr) (fd:FuncData) (ps:List Str) (sp:Shared->List Env->Sp):Prop where
 len:∀ s outer vs H Q E,sp s outer vs H Q E->vs.length=ps.length
 run:∀ (A:Around) (outer:List Env) (s:Shared) (H:Hp) (args:Args) (us:List Value) (vs:List V) (Q:VK) (E:XK),bL k A->oH P w K mg base A outer s H->BindsTo s fd args (ps.zip us)->Vals vs us->sp s outer vs H Q E->
  codeAny (model P w) A (.call (.ref f) args) (CR CX outer P w H s Q E) s
theorem FP {CX:jG} {P:Program} {w:World} {K:PySem.W.Frag} {mg:Str->Option Value} {base:Heap} {k:Nat} {f:Addr} {name qual:Str} {params:Arguments} {body:List Stmt} {scope:Scope} {dV kV doc pm cdv ct oc:Value} {an od:Option Addr}
 {osl:Array (Option Value)} {N ps:List Str} {sp:Shared->List Env->Sp} (lk:K.lookup f=some ⟨oc,od,.func (PySem.W.fnOf name qual params body scope dV kV doc pm an cdv ct),osl⟩) (hcd:PySem.W.codeIn K cdv qual=true) (S:aW N ps scope)
 (len:∀ s outer vs H Q E,sp s outer vs H Q E->vs.length=ps.length)
 (hbody:∀ (A:Around) (outer:List Env) (s:Shared) (H:Hp) (vs:List V) (Q:VK) (E:XK),bL k (A.deeper (envOfC qual scope s.heap.objs.size f cdv))->sp s outer vs H Q E->
  ∃ t,qH (iU CX P w K mg base N qual scope f cdv A outer s H E) body t/\t { nx:=fun _ H'=>Q .non H',rt:=Q } (start N vs) H) :
 o_ P w K mg base CX (k+1) f (PySem.W.fnOf name qual params body scope dV kV doc pm an cdv ct) ps sp:=by
 refine ⟨len,fun A outer s H args us vs Q E hr e0 hb r hsp=>?_⟩
 have hl:=len _ _ _ _ _ _ hsp
 have KX:K.In s.heap:=e0.mod.kin.keeps fun b o e=>(e0.bs b o e).1
 have lim:s.heap.NoLimit:=e0.mod.nolimit.keeps fun b o e=>(e0.bs b o e).1
 have hkind:∀ y∈ps.zip us,scope.names.lookup y.1=some .local∨(scope.names.lookup y.1=some .cell/\((cellsFrom (s.heap.objs.size+1) scope.names []).lookup y.1).isSome=true):=fun ⟨n,v⟩ hy=>by
  rcases S.par n (List.of_mem_zip hy).1 with q|q
  ·exact .inl q
  ·exact .inr ⟨q,PySem.W.cellsFrom_some _ _ _ (.inl q)⟩
 refine codeAny_call_function hr.depth (KX _ _ lk) rfl S.co S.gen rfl (PySem.W.codeRec_of KX hcd) (hb _ _ _ _ ?_)
 refine wpAny_newFunctionEnv_cells S.kind hkind fun env he s1 x=>?_
 subst he
 refine ⟨lim.keeps x.toInCall.keep,codeAny_func ?_⟩
 obtain ⟨t,ht,hq⟩:=hbody A outer s H vs Q E (hr.deeper _) hsp
 have I:Inv (iU CX P w K mg base N qual scope f cdv A outer s H E) [] (start N vs) H s1:=oY S hr.hd e0 hl r x
 refine wpAny_mono (ht [] s1 (start N vs) H _ I hq) (fun fl s' hs=>?_) fun e s' hs=>hs
 have fin:∀ {σ':St} {H':Hp} {v:V} {u:Value},Inv (iU CX P w K mg base N qual scope f cdv A outer s H E) [] σ' H' s'->RelV v u->Q v H'->CE outer P w H s Q u s':=
  fun {σ' H' v u} J rv q=>⟨v,H',J.os,J.bare,J.base,J.hok,rv,q⟩
 cases fl with
 | ret u=>
   obtain ⟨v,σ',H',J,rv,q⟩:=hs
   exact fin J rv q
 | next=>
   obtain ⟨σ',H',J,q⟩:=hs
   exact fin (v:=V.non) (u:=Value.none) J rfl q
 | brk=>
   obtain ⟨_,_,_,q⟩:=hs
   exact False.elim q
 | cont=>
   obtain ⟨_,_,_,q⟩:=hs
   exact False.elim q
section
variable {P:Program} {w:World} {K:PySem.W.Frag} {mg:Str->Option Value} {base:Heap}
theorem gA.okS {CX:jG} {x qual:Str} {st:Stmt} {f:Addr} {fd:FuncData} {N ps:List Str} {k:Nat} {sp:Shared->List Env->Sp} (F:gA K x qual st f fd) (S:aW N ps (au st)) (len:∀ s outer vs H Q E,sp s outer vs H Q E->vs.length=ps.length)
 (hbody:∀ (cdv:Value) (A:Around) (outer:List Env) (s:Shared) (H:Hp) (vs:List V) (Q:VK) (E:XK),bL k (A.deeper (envOfC qual (au st) s.heap.objs.size f cdv))->sp s outer vs H Q E->
  ∃ t,qH (iU CX P w K mg base N qual (au st) f cdv A outer s H E) (bu st) t/\t { nx:=fun _ H'=>Q .non H',rt:=Q } (start N vs) H):o_ P w K mg base CX (k+1) f fd ps sp:=by
 obtain ⟨oc,od,kV,doc,pm,an,cdv,ct,osl,rfl,lk,hcd⟩:=F.ex
 exact FP lk hcd S len fun A outer s H vs Q E hr hsp=>hbody cdv A outer s H vs Q E hr hsp
theorem gA.ok1 {CX:jG} {x qual:Str} {st:Stmt} {f:Addr} {fd:FuncData} {N ps:List Str} {k:Nat} {sp:Sp} (F:gA K x qual st f fd) (S:aW N ps (au st)) (len:∀ vs H Q E,sp vs H Q E->vs.length=ps.length)
 (hbody:∀ (cdv:Value) (A:Around) (outer:List Env) (s:Shared) (H:Hp) (vs:List V) (Q:VK) (E:XK),bL k (A.deeper (envOfC qual (au st) s.heap.objs.size f cdv))->sp vs H Q E->
  ∃ t,qH (iU CX P w K mg base N qual (au st) f cdv A outer s H E) (bu st) t/\t { nx:=fun _ H'=>Q .non H',rt:=Q } (start N vs) H):aN P w K mg base CX (k+1) f fd ps sp:=by
 obtain ⟨oc,od,kV,doc,pm,an,cdv,ct,osl,rfl,lk,hcd⟩:=F.ex
 exact rN lk hcd S len fun A outer s H vs Q E hr hsp=>hbody cdv A outer s H vs Q E hr hsp
end
section
variable {X:Cx} {e:Expr} {f:Str} {pos:Pos} {ta:TE} {ea C:Addr} {oe:Obj} {ps:List (Addr×Obj)} {dd:Option Addr}
theorem qC (hm:(ea,oe)∈ps) (hc:oe.cls=.ref C) (hdct:oe.dict=dd) (hd:∃ vs,oe.data=.fields vs) (he:PE (zu X ea ps) e ta) (hb:attributeBase e f X.env (eval e X.env)=eval e X.env:=by rfl):PE (zu X ea ps) (.Attribute e f pos) (JH X.K ea C dd ta f):=
 Dz (X:=zu X ea ps) (List.mem_append_right _ hm) hc hdct hd he hb
end
end L2
namespace L2
open PySem PySem.Spec PyProof.Rows PySem.W
def gO (c:Addr) (qual:Str):HO:=.ext fun h=>h.CodeRec (.ref c) qual
theorem yM {P:Program} {w:World} {H:Hp} {h:Heap} {c:Addr} {qual:Str} (x:h.CodeRec (.ref c) qual):bZ P w H h c (gO c qual):=by
 obtain ⟨c',o,vs,t,e,g,r⟩:=id x
 cases e
 refine ⟨x,⟨o,g⟩,fun h1 h2 z k=>?_⟩
 obtain ⟨c',o',vs',t',e',g',r'⟩:=z
 cases e'
 exact ⟨c,o',vs',t',rfl,k _ g',r'⟩
def lamO (f:Addr) (o:Obj):HO:=.ext fun h=>h.get? f=some o
theorem pW {P:Program} {w:World} {H:Hp} {h:Heap} {f:Addr} {o:Obj} (x:h.get? f=some o):bZ P w H h f (lamO f o):=⟨x,⟨o,x⟩,fun h1 h2 z k=>k _ z⟩
def fU (P:Program) (w:World) (K:Frag) (mg:Str->Option Value) (base:Heap) (N:List Str) (qual:Str) (scope:Scope) (f:Addr) (cd:Value) (cl:List (Str×Addr)) (A:Around) (outer:List Env) (s:Shared) (H:Hp) (E:XK):Cx where
 prog:=P
 w:=w
 K:=K
 mg:=mg
 base:=base
 A:=A.deeper (envX qual scope s.heap.objs.size f cd cl)
 N:=N
 s₀:=s
 H₀:=H
 env:=envX qual scope s.heap.objs.size f cd cl
 outer:=outer
 stack:=envX qual scope s.heap.objs.size f cd cl::outer
 ex:=[]
 calm:=true
 fn:=fun _=>false
 pn:=[]
 xe:=fun e s'=>wpAny (model P w) (A.deeper (envX qual scope s.heap.objs.size f cd cl)) (leaving (envX qual scope s.heap.objs.size f cd cl) e) (fun _ s''=>jJ P w outer H s E e s'') (fun e' s''=>jJ P w outer H s E e' s'') s'
section
variable {P:Program} {w:World} {K:Frag} {mg:Str->Option Value} {base:Heap} {N:List Str} {qual:Str} {scope:Scope} {f:Addr} {cd:Value} {cl:List (Str×Addr)} {A:Around} {outer:List Env} {s:Shared} {H:Hp} {E:XK}
theorem Qd {Z:List (Addr×Obj)} {O:St} {H':Hp} {s':Shared} {e:Addr} {cls:Value} {dd:Option Addr} (I:Inv (fU P w K mg base N qual scope f cd cl A outer s H E) Z O H' s') (x:fX s'.heap H' s.heap e cls dd) (h:E cls dd H') :
 (fU P w K mg base N qual scope f cd cl A outer s H E).xe (.ref e) s':=
 leaveX I rfl rfl I.ok.frames rfl x fun h' x' u k=>⟨e,cls,dd,H',rfl,I.os,I.bare,u,k,x',h⟩
theorem uH {E':XK} (hE:∀ cls dd H',E' cls dd H'->E cls dd H'):fH (jJ P w) (fU P w K mg base N qual scope f cd cl A outer s H E) E':=by
 intro Z O H1 s1 e s' I h
 obtain ⟨ea,cls,dd,H',rfl,os,bare,un,hok,x,q⟩:=h
 have I':Inv (fU P w K mg base N qual scope f cd cl A outer s H E) Z O H' s':=I.call' (ch:=[]) os un hok bare (fun b z=>absurd z (by simp))
 refine Qd I' (x.mono fun b hb=>?_) (hE _ _ _ q)
 cases z:s.heap.get? b with
 |none=>rfl
 | some o=>
   obtain ⟨o',q'⟩:=I.base.there b o z (by intro hz;cases hz)
   rw [hb] at q';cases q'
structure Fi (scope:Scope) (cl:List (Str×Addr)) (N:List Str) (g:Heap) (H:Hp) (fr:List Addr) (O:St):Prop where
 inj:∀ x y c,cl.lookup x=some c->cl.lookup y=some c->x=y
 has:∀ x,(scope.names.lookup x=some .cell∨scope.names.lookup x=some .free)->∃ c,cl.lookup x=some c
 cell:∀ x c,cl.lookup x=some c->(∃ v,g.IsCell c v)/\H c=none/\c∉fr
 val:∀ (i:Nat) x v,N[i]?=some x->O[i]?=some (some v)->scope.names.lookup x=some .free/\∃ c u,cl.lookup x=some c/\RelV v u/\g.IsCell c (some u)
 len:O.length=N.length
theorem xO {g:Heap} {fr:List Addr} {O:St} {k:Nat} {name:Str} {params:Arguments} {body:Expr} {pm ctv:Value} {c':Addr} {Qv:VK} {t:TE} (ho:H f=some (lamO f (kla_obj name qual params body scope cl pm c' ctv)))
 (hc:H c'=some (gO c' qual)) (C:Fi scope cl N g H fr O) (hbind:bindArgs (kla_fn name qual params body scope cl pm (.ref c') ctv) ⟨[],[]⟩=pure [])
 (hco:scope.isCoroutine=false) (hgen:scope.isGenerator=false) (hk:scope.kind=.function) (hcell:∀ x∈scope.names,x.2≠.cell)
 (hb:∀ (A:Around) (outer:List Env) (s:Shared),bL k (A.deeper (envX qual scope s.heap.objs.size f (.ref c') cl))->PE (fU P w K mg base N qual scope f (.ref c') cl A outer s H E) body t) (hq:t O H Qv):Thunk P w K mg base g H fr (k+1) f H Qv E:=by
 refine ⟨fun s hok=>⟨_,_,(hok f _ ho).1,rfl⟩,fun A outer s hr e0 kp=>?_⟩
 have lim:s.heap.NoLimit:=e0.mod.nolimit.keeps fun b o e=>(e0.bs b o e).1
 refine kla_callFunE hr.depth (e0.hok f _ ho).1 rfl hco hgen rfl (e0.hok c' _ hc).1 ?_
 rw [hbind]
 refine wpAny_pure (wpAny_newFunctionEnv hcell (fun y hy=>absurd hy (by simp)) (fun h₁ hns hsb=>⟨lim.fresh _ hsb,?_⟩) hk)
 show codeAny _ _ (.expr body (envX qual scope s.heap.objs.size f (.ref c') cl)) _ _
 have hk₁:∀ b o,s.heap.get? b=some o->h₁.get? b=some o:=fun b o e=>hsb.extBut b o (Nat.ne_of_lt (Heap.lt_size e)) (Heap.get?_push_of_some _ e)
 have isC:∀ x c v,cl.lookup x=some c->g.IsCell c v->h₁.IsCell c v:=fun x c v e z=>by
  obtain ⟨_,h2,h3⟩:=C.cell x c e
  obtain ⟨o,ho,hd⟩:=z
  exact ⟨o,hk₁ _ _ (kp _ _ ho h2 h3),hd⟩
 have noA:∀ b:Addr,b∉([]:List Addr):=fun b z=>absurd z (by simp)
 have I:Inv (fU P w K mg base N qual scope f (.ref c') cl A outer s H E) [] O H { s with heap:=h₁,toks:=s.toks+0 }:=by
  refine ⟨⟨e0.mod,hk,rfl,rfl,Nat.le_refl _,C.inj,fun y hy=>C.has y hy,fun y c z=>absurd z (by simp [fU]),fun _=>hr.hd,Around.frames_deeper e0.frames,.inr ⟨rfl,rfl⟩,fun b z=>absurd z (noA b),e0.bs,e0.bsz,fun b _ _=>noA b,fun b z=>absurd z (noA b),e0.funs,e0.frf⟩,
   rfl,e0.bare,Un.kept hk₁,⟨_,hns,fun i y v h1 h2 h3=>?_⟩,fun y c h=>?_,e0.hok.fresh (Nat.le_refl _),fun y c h=>(C.cell y c h).2.1,fun p hp=>absurd (show p∈([]:List (Addr×Obj)) from hp) (by simp),e0.hok.kept hk₁,C.len⟩
  ·obtain ⟨fr',c,u,e,r,z⟩:=C.val i y v h1 h2
   exact ⟨u,r,.inr ⟨.inr fr',c,e,isC y c _ e z⟩⟩
  ·obtain ⟨⟨v,z⟩,_⟩:=C.cell y c h
   exact ⟨v,isC y c v h z⟩
 exact kla_codeExpr (wpAny_mono (hb A outer s (hr.deeper _) [] _ O H Qv I hq) (fun u s' ⟨v,H',J,rv,q⟩=>⟨v,H',J.os,J.bare,J.base,J.hok,rv,q⟩) fun _ _ y=>y)
end
section
variable {X:Cx} {Z:List (Addr×Obj)} {O:St} {H:Hp} {s:Shared} {h':Heap} {P c':Addr} {ps more:Array Value} {qual:Str}
theorem Inv.grow {t':Nat} (I:Inv X Z O H s) (hP:H P=some (.tbl ps)) (hx:Heap.ExtBut P s.heap h') (hc:s.heap.objs.size≤c') (hcr:h'.CodeRec (.ref c') qual) (hp:h'.get? P=some { cls:=.none,data:=.fields (ps++more) }) :
 Inv X Z O (upd (upd H P (.tbl (ps++more))) c' (gO c' qual)) { s with heap:=h',toks:=t' }:=by
 have hPl:P<s.heap.objs.size:=I.hok.lt hP
 have hcP:c'≠P:=fun q=>by subst q;exact absurd (Nat.lt_of_lt_of_le hPl hc) (Nat.lt_irrefl _)
 have lt:∀ b o,s.heap.get? b=some o->b≠c':=fun b o e q=>by subst q;exact absurd (Nat.lt_of_lt_of_le (Heap.lt_size e) hc) (Nat.lt_irrefl _)
 have neP:∀ b,H b=none->b≠P:=fun b e q=>by subst q;rw [hP] at e;cases e
 have kp:∀ b o,s.heap.get? b=some o->H b=none->h'.get? b=some o:=fun b o e n=>hx b o (neP b n) e
 have up:∀ b u,H b=some u->(∀ qs,u≠.tbl qs)->upd (upd H P (.tbl (ps++more))) c' (gO c' qual) b=some u:=fun b u e ne=>by
  have h1:b≠c':=fun q=>by subst q;exact absurd (Nat.lt_of_lt_of_le (I.hok.lt e) hc) (Nat.lt_irrefl _)
  have h2:b≠P:=fun q=>by subst q;rw [hP] at e;exact ne _ (Option.some.inj e).symm
  rw [aA h1,aA h2];exact e
 refine I.stepN (ch:=[]) (g':=s.gens) (d':=s.drawn) (t':=t') (fun b hb=>absurd hb (by simp)) (fun b o _ _ _ e n=>kp b o e n) (fun b o _ _ _ e n=>⟨o.slots,kp b o e n⟩) (fun b o _ e n=>?_) (fun b o _ e=>?_) (fun b xs e=>up b _ e (by intro _ q;cases q)) (fun b o u e=>up b _ e (by intro _ q;cases q)) (fun b qs e=>?_) (fun m hm=>?_) (fun b u e=>?_) I.bare
 ·rw [aA (lt b o e),aA (neP b n)];exact n
 ·by_cases q:b=P
  ·subst q;exact ⟨_,hp⟩
  ·exact ⟨o,hx b o q e⟩
 ·have h1:b≠c':=fun q=>by subst q;exact absurd (Nat.lt_of_lt_of_le (I.hok.lt e) hc) (Nat.lt_irrefl _)
  by_cases q:b=P
  ·subst q
   rw [hP] at e
   cases e
   exact ⟨more,by rw [aA h1,aj]⟩
  ·exact ⟨#[],by rw [aA h1,aA q,e];simp⟩
 ·obtain ⟨o,es,ep,e,r⟩:=hm
  exact ⟨o,es,ep,kp _ _ e I.free,r⟩
 ·by_cases h1:b=c'
  ·subst h1
   rw [aj] at e
   cases e
   exact yM hcr
  ·rw [aA h1] at e
   by_cases h2:b=P
   ·subst h2
    rw [aj] at e
    cases e
    exact hp
   ·rw [aA h2] at e
    refine (I.hok b u e).stay (fun c v hc' q=>hx c v ?_ q) (fun c q=>up c _ q (by intro _ z;cases z)) fun c xs q=>up c _ q (by intro _ z;cases z)
    rintro rfl
    rcases hc' with rfl|z
    ·exact h2 rfl
    ·rw [hP] at z;cases z
structure mL (X:Cx) (c P:Addr):Prop where
 code:X.env.code=.ref c
 hd:CodeHd X.base c P
 bl:X.base.BuiltinsAt X.mg P
 gP:mainGlobals≠P
def wN (H:Hp) (P:Addr) (lp:Pos) (qual:Str) (c':Addr) (H1:Hp):Prop:=
 ∃ ps,H P=some (.tbl ps)/\((codeAmong lp ps.toList=none/\H c'=none/\c'≠P/\H1=upd (upd H P (.tbl (ps++#[rawInt lp.line,rawInt lp.col,.ref c']))) c' (gO c' qual))∨(codeAmong lp ps.toList=some (.ref c')/\H c'=some (gO c' qual)/\H1=H))
def TabOk (H:Hp) (P:Addr) (lp:Pos) (qual:Str):Prop:=∃ ps,H P=some (.tbl ps)/\TriplesOk ps.toList/\(codeAmong lp ps.toList=none∨∃ c',codeAmong lp ps.toList=some (.ref c')/\H c'=some (gO c' qual))
def Lk (X:Cx) (P:Addr) (params:Arguments) (body:Expr) (scope:Scope) (lp:Pos) (cl:List (Str×Addr)):TE:=fun _ H Q=>TabOk H P lp (X.env.qual++"<lambda>")/\∀ c' H1,wN H P lp (X.env.qual++"<lambda>") c' H1->∀ f ctv,H1 f=none->Q (.ref f) (upd H1 f (lamO f (kla_obj "<lambda>" (X.env.qual++"<lambda>") params body scope cl ((X.mg "__name__").getD .none) c' ctv)))
theorem mW {c:Addr} {params:Arguments} {body:Expr} {scope:Scope} {lp:Pos} {cl:List (Str×Addr)} (T:mL X c P) (hdef:defaultsOf params X.env=([],[])) (hcl:closureFor scope X.env=pure cl):PE X (.Lambda params body scope lp) (Lk X P params body scope lp cl):=by
 intro Z s O H Q I h
 obtain ⟨⟨ps,hP,ht,hor⟩,h⟩:=h
 refine kla_eval hdef ?_
 have hPo:s.heap.get? P=some (tabObj ps):=I.hok P _ hP
 have hg:s.heap.Ns mainGlobals X.mg:=by
  obtain ⟨o,es,ep,e,r⟩:=I.ok.mod.glob
  exact ⟨o,es,ep,I.bk _ _ e,r⟩
 have hb:s.heap.BuiltinsAt X.mg P:=by
  obtain ⟨bm,o,b1,b2,b3,b4,b5,b6⟩:=T.bl
  exact ⟨bm,o,b1,b2,b3,b4,I.bk _ _ b5,b6⟩
 rcases hor with hn|⟨c',hf,hc'⟩
 ·refine kla_makeFunction (mg:=X.mg) hcl I.ok.glob hg T.code (T.hd.keeps I.bk) hPo ht hn T.gP hb fun c' ctv h' tk hx hge hlt hrec htb=>?_
  have I1:=I.grow (t':=tk) hP hx hge hrec htb
  have hPl:P<s.heap.objs.size:=I.hok.lt hP
  have fr:upd (upd H P (.tbl (ps++#[rawInt lp.line,rawInt lp.col,.ref c']))) c' (gO c' (X.env.qual++"<lambda>")) h'.objs.size=none:=I1.hok.fresh (Nat.le_refl _)
  refine ⟨.ref h'.objs.size,_,I1.laid (a:=h'.objs.size) (t':=tk) (fun b u e=>Heap.get?_push_of_some _ e) (Nat.le_refl _) (pW (Heap.get?_push_size _ rfl)),rfl,h c' _ ⟨ps,hP,.inl ⟨hn,I.hok.fresh hge,fun q=>?_,rfl⟩⟩ _ ctv fr⟩
  subst q
  exact absurd (Nat.lt_of_lt_of_le hPl hge) (Nat.lt_irrefl _)
 ·refine kla_makeFunctionHit (mg:=X.mg) hcl I.ok.glob hg T.code (T.hd.keeps I.bk) hPo ht hf hb fun ctv h' tk hk hsz=>?_
  have fr:H h'.objs.size=none:=I.hok.fresh hsz
  exact ⟨.ref h'.objs.size,_,I.laid (a:=h'.objs.size) (h':=h'.push _) (t':=tk) (fun b u e=>Heap.get?_push_of_some _ (hk b u e)) hsz (pW (Heap.get?_push_size _ rfl)),rfl,h c' _ ⟨ps,hP,.inr ⟨hf,hc',rfl⟩⟩ _ ctv fr⟩
end
section
variable {X:Cx} {CX:jG} {k:Nat} {f C:Addr} {fd:FuncData} {ps:List Str} {sp:Shared->List Env->Sp} {E:XK} {x:Str} {p pos:Pos} {e:Expr} {es:List Expr} {t:TA}
theorem BX {Z:List (Addr×Obj)} {O:St} {H:Hp} {s:Shared} {Q:VK} {us:List Value} {vs:List V} (F:o_ X.prog X.w X.K X.mg X.base CX k f fd ps sp) (hr:bL k X.A) (hb:Binds X.K fd ps []) (hx:fH CX X E)
 (I:Inv X Z O H s) (r:Vals vs us) (h:sp s X.stack vs H Q E):wpAny (model X.prog X.w) X.A (call (.ref f) us) (EP X Z O Q) X.xe s:=by
 have hl:us.length=ps.length:=by rw [← r.length];exact F.len _ _ _ _ _ _ h
 have hb':=hb s us I.kIn (by rw [List.append_nil];exact hl)
 rw [List.append_nil] at hb'
 refine wpAny_call (codeAny_mono (F.run X.A X.stack s H ⟨us,[]⟩ us vs Q E hr I.env0 hb' r h) fun r s' hq=>?_)
 cases r with
 |error e=>exact hx Z O H s e s' I hq
 | ok fl=>
   cases fl with
   |ret u=>exact I.after hq
   |next=>exact False.elim hq
   |brk=>exact False.elim hq
   |cont=>exact False.elim hq
theorem kY {r:St->List V->Hp->VK->Prop} (F:o_ X.prog X.w X.K X.mg X.base CX k f fd ps sp) (hr:bL k X.A) (hg:Gl X x) (hm:X.mg x=some (.ref f)) (hk:keepIn X.K (.ref f)=true) (hb:Binds X.K fd ps []) (hx:fH CX X E)
 (hsp:∀ Z O H s vs Q,Inv X Z O H s->r O vs H Q->sp s X.stack vs H Q E) (ha:PA X (e::es) t) (hdb:(x == ("__debug__" : Str))=false:=by decide) (he:starEach (e::es) X.env=(false,eval e X.env)::starEach es X.env:=by rfl) (hpl:(backTo pos (starEach es X.env)).any (·.1)=false:=by rfl) :
 PE X (.Call (.Name x p) (e::es) [] pos) (fun O H Q=>t O H fun vs H1=>r O vs H1 Q):=by
 intro Z s O H Q I h
 refine wpAny_Call_Name_kw (jq I hg hm ?_ hdb)
 refine callWith_K (h₀:=X.base) I.ok.mod.kin hk (cj (ha pos Z s O H _ I h) fun us s1 ⟨vs,H1,I1,r,q⟩=>⟨I1.kIn,?_⟩) he hpl
 exact BX F hr hb hx I1 r (hsp _ _ _ _ _ _ I1 q)
theorem gJ {cl:List (Str×Addr)} {x:Str} (h:x∈cl.map (·.1)):∃ c,cl.lookup x=some c:=by
 induction cl with
 |nil=>simp at h
 | cons q r ih=>
   obtain ⟨y,c⟩:=q
   rw [List.lookup_cons]
   by_cases e:(x == y)=true
   ·exact ⟨c,by rw [e]⟩
   ·have e':(x == y)=false:=by simpa using e
    rw [e']
    refine ih ?_
    rcases List.mem_cons.mp h with z|z
    ·exact absurd (beq_iff_eq.mpr z) e
    ·exact z
def rm (js:List Nat) (O:St):St:=js.map fun j=>(O[j]?).join
theorem vq {Z:List (Addr×Obj)} {O:St} {H:Hp} {s:Shared} {scope:Scope} {cl:List (Str×Addr)} {NL:List Str} {js:List Nat} (I:Inv X Z O H s) (hcl:∀ p∈cl,X.env.cells.lookup p.1=some p.2) (hfn:∀ x,X.fn x=true)
 (hhas:∀ p∈scope.names,(p.2=.cell∨p.2=.free)->p.1∈cl.map (·.1)) (hfree:∀ x∈NL,scope.names.lookup x=some .free) (hown:∀ x∈NL,X.env.scope.names.lookup x=some .cell) (hN:NL.map some=js.map fun j=>X.N[j]?) (hst:X.stack=X.env::X.outer) (hfm:X.env.frame=some X.env.locals) :
 Fi scope cl NL s.heap H (frs X.stack) (rm js O):=by
 have sub:∀ x c,cl.lookup x=some c->X.env.cells.lookup x=some c:=fun x c e=>hcl (x,c) (PySem.mem_of_lookup e)
 have hlen:js.length=NL.length:=by simpa using (congrArg List.length hN).symm
 refine ⟨fun x y c h1 h2=>I.ok.inj x y c (sub x c h1) (sub y c h2),fun x hx=>?_,fun x c e=>⟨I.cell x c (sub x c e),I.freeC x c (sub x c e),fun hm=>?_⟩,fun i x v h1 h2=>?_,by unfold rm;rw [List.length_map];exact hlen⟩
 ·refine gJ ?_
  rcases hx with hx|hx
  ·exact hhas _ (PySem.mem_of_lookup hx) (.inl rfl)
  ·exact hhas _ (PySem.mem_of_lookup hx) (.inr rfl)
 ·rcases List.mem_cons.mp (I.stkSub c hm) with q|q
  ·exact I.cne x c (sub x c e) q
  ·obtain ⟨_,o,ho,_⟩:=I.ok.funs.mem q
   exact absurd (Nat.lt_of_lt_of_le (Heap.lt_size ho) (I.ok.cab x c (hfn x) (sub x c e))) (Nat.lt_irrefl _)
 ·have hx:x∈NL:=List.mem_of_getElem? h1
  have e1:(js.map fun j=>X.N[j]?)[i]?=some (some x):=by rw [← hN,List.getElem?_map,h1];rfl
  rw [List.getElem?_map] at e1
  obtain ⟨j,hj,e1⟩:=Option.map_eq_some_iff.mp e1
  unfold rm at h2
  rw [List.getElem?_map,hj] at h2
  have h3:O[j]?=some (some v):=by
   have h2:(O[j]?).join=some v:=Option.some.inj h2
   cases e:O[j]? with
   |none=>rw [e] at h2;cases h2
   | some a=>rw [e] at h2;cases a with
     |none=>cases h2
     |some b=>exact congrArg some h2
  obtain ⟨m,hn,hl⟩:=I.loc
  obtain ⟨u,r,lk⟩:=hl j x v e1 h3 (.inr (.inl (hown x hx)))
  refine ⟨hfree x hx,?_⟩
  rcases lk with ⟨kk,_⟩|⟨_,c,hc,z⟩
  ·have kk:X.env.scope.names.lookup x=some .local:=kk
   rw [hown x hx] at kk;cases kk
  ·obtain ⟨c2,e2⟩:=gJ (hhas _ (PySem.mem_of_lookup (hfree x hx)) (.inr rfl))
   have:=sub x c2 e2
   rw [hc] at this
   cases this
   exact ⟨c,u,e2,r,z⟩
end
end L2
namespace L2
open PySem PySem.Spec PyProof.Rows
end L2
namespace L2
open PySem PySem.Spec PyProof.Rows PySem.W
def tabIn (K:Frag) (c:Addr):Option Addr:=match K.lookup c with
 | some o=>(match o.data with
   | .fields vs=>(match (vs[11]?:Option Value),vs.getD 18 .none,vs.getD 7 .none,vs.getD 9 .none,vs.getD 10 .none with
     |some (Value.ref P),.str _ _,.int _ _,.bool _,.int _ _=>if (o.cls == .type "code" && c != P)=true then some P else none
     |_,_,_,_,_=>none)
   |_=>none)
 |none=>none
theorem yr {K:Frag} {h:Heap} {c P:Addr} (X:K.In h) (e:tabIn K c=some P):CodeHd h c P:=by
 unfold tabIn at e
 split at e
 ·rename_i o ho
  split at e
  ·rename_i vs hd
   split at e
   ·rename_i P' x18 t18 x7 t7 x9 x10 t10 h11 h18 h7 h9 h10
    split at e
    ·rename_i hc
     cases e
     simp only [Bool.and_eq_true,beq_iff_eq,bne_iff_ne] at hc
     refine ⟨o,vs,x18,t18,x7,t7,x9,x10,t10,X _ _ ho,hc.1,hd,h11,?_,h18,h7,h9,h10,hc.2⟩
     rw [Array.getD_eq_getD_getElem?,h11]
     rfl
    ·cases e
   ·cases e
  ·cases e
 ·cases e
end L2
namespace L2
open PySem PySem.Spec PyProof.Rows PySem.SeqAt
section
variable {X:Cx}
end
section
variable {X:Cx} {tg:Expr}
end
section
variable {X:Cx}
end
section
variable {prog:Program} {w:World} {A:Around} {E:Value->Shared->Prop} {s:Shared} {l:Addr} {x y:Value}
end
section
variable {X:Cx} {pos:Pos}
end
section
variable {X:Cx} {CX:jG} {k:Nat} {f C:Addr} {fd:FuncData} {ps ks:List Str} {sp:Sp} {E:XK} {x m:Str} {p pos apos kpos:Pos} {e o:Expr} {es:List Expr} {kws:List Keyword} {te ta:TE} {t tk:TA}
variable {g:List Value->List Value->List Value} {gV:List V->List V->List V}
end
end L2
namespace L2
open PySem PySem.Spec PyProof.Rows PySem.W
theorem mF {pos p:Pos} {c:Value} (l:List Value) (h:TriplesOk l):codeAmong pos (l++[rawInt p.line,rawInt p.col,c])=(codeAmong pos l).or (if (p.line:Int) == pos.line && (p.col:Int) == pos.col then some c else none):=by
 fun_induction TriplesOk l with
 |case1=>simp [codeAmong,rawInt]
 | case2 a t b u c' rest ih=>
   show codeAmong pos (.int a t::.int b u::c'::(rest++_))=_
   rw [codeAmong,codeAmong]
   split
   ·rfl
   ·exact ih h
 |case3=>exact h.elim
theorem qj {p:Pos} {c:Value} (l:List Value) (h:TriplesOk l):TriplesOk (l++[rawInt p.line,rawInt p.col,c]):=by
 fun_induction TriplesOk l with
 |case1=>simp [TriplesOk,rawInt]
 |case2 a t b u c' rest ih=>exact ih h
 |case3=>exact h.elim
def g_ (H:Hp) (T:Addr) (qual:Str) (mD:List Pos):Prop:=
 ∃ ps,H T=some (.tbl ps)/\TriplesOk ps.toList/\∀ lp∈mD,codeAmong lp ps.toList=none∨∃ c',codeAmong lp ps.toList=some (.ref c')/\H c'=some (gO c' qual)
theorem g_.tab {H:Hp} {T:Addr} {qual:Str} {mD:List Pos} {lp:Pos} (h:g_ H T qual mD) (m:lp∈mD):TabOk H T lp qual:=by
 obtain ⟨ps,h1,h2,h3⟩:=h
 exact ⟨ps,h1,h2,h3 lp m⟩
theorem g_.keep {H H':Hp} {T:Addr} {qual:Str} {mD:List Pos} (h:g_ H T qual mD) (k:∀ b u,H b=some u->(∀ kvs,u≠.dK kvs)->H' b=some u):g_ H' T qual mD:=by
 obtain ⟨ps,h1,h2,h3⟩:=h
 refine ⟨ps,k _ _ h1 (by intro _ z;cases z),h2,fun lp m=>?_⟩
 rcases h3 lp m with z|⟨c',z,e⟩
 ·exact .inl z
 ·exact .inr ⟨c',z,k _ _ e (by intro _ z;cases z)⟩
theorem g_.same {H H':Hp} {T:Addr} {qual:Str} {mD:List Pos} (h:g_ H T qual mD) (s:ao H H'):g_ H' T qual mD:=h.keep fun b u e _=>s b u e
theorem wN.code {H H1:Hp} {T c':Addr} {lp:Pos} {qual:Str} (h:wN H T lp qual c' H1):H1 c'=some (gO c' qual):=by
 obtain ⟨ps,h1,⟨_,_,_,rfl⟩|⟨_,h2,rfl⟩⟩:=h
 ·exact aj
 ·exact h2
theorem wN.keep {H H1:Hp} {T c':Addr} {lp:Pos} {qual:Str} (h:wN H T lp qual c' H1) {b:Addr} {u:HO} (e:H b=some u) (ne:∀ ps,u≠.tbl ps):H1 b=some u:=by
 obtain ⟨ps,h1,⟨_,h2,_,rfl⟩|⟨_,h2,rfl⟩⟩:=h
 ·rw [aA (aC e h2),aA (fV e h1 (ne _))];exact e
 ·exact e
theorem wN.some {H H1:Hp} {T c':Addr} {lp:Pos} {qual:Str} (h:wN H T lp qual c' H1) {b:Addr} {u:HO} (e:H b=some u):∃ v,H1 b=some v:=by
 obtain ⟨ps,h1,⟨_,h2,_,rfl⟩|⟨_,h2,rfl⟩⟩:=h
 ·rw [aA (aC e h2)]
  by_cases q:b=T
  ·subst q;exact ⟨_,aj⟩
  ·exact ⟨u,by rw [aA q];exact e⟩
 ·exact ⟨u,e⟩
theorem g_.lam {H H1:Hp} {T c':Addr} {lp:Pos} {qual:Str} {mD:List Pos} (h:g_ H T qual mD) (l:wN H T lp qual c' H1):g_ H1 T qual mD:=by
 obtain ⟨ps,h1,h2,h3⟩:=h
 obtain ⟨ps',e1,l⟩:=l
 rw [h1] at e1
 cases e1
 rcases l with ⟨hn,hc,ne,rfl⟩|⟨_,_,rfl⟩
 ·refine ⟨ps++#[rawInt lp.line,rawInt lp.col,.ref c'],by rw [aA ne.symm,aj],?_,fun lp' m=>?_⟩
  ·rw [Array.toList_append]
   exact qj _ h2
  ·rw [Array.toList_append]
   show codeAmong lp' (ps.toList++[rawInt lp.line,rawInt lp.col,.ref c'])=none∨∃ c'',codeAmong lp' (ps.toList++[rawInt lp.line,rawInt lp.col,.ref c'])=Option.some (Value.ref c'')/\_
   rw [mF _ h2]
   rcases h3 lp' m with z|⟨c'',z,e⟩
   ·rw [z]
    by_cases q:((lp.line:Int) == lp'.line && (lp.col:Int) == lp'.col)=true
    ·rw [if_pos q]
     exact .inr ⟨c',rfl,aj⟩
    ·rw [if_neg q]
     exact .inl rfl
   ·rw [z]
    refine .inr ⟨c'',rfl,?_⟩
    rw [aA (aC e hc),aA (fV e h1 (by intro z;cases z))];exact e
 ·exact ⟨ps,h1,h2,h3⟩
theorem wg {P:Program} {w:World} {K:Frag} {mg mb:Str->Option Value} {CX:jG} {k:Nat} {fa a:Addr} {Ts:List Addr} {fd:FuncData} {x:Str} {sp:Sp} {s₁:Shared} {vs:List Value} {ns:List Int}
 (KX:K.In s₁.heap) (hns:s₁.heap.Ns mainGlobals mg) (hb:s₁.heap.Ns builtinsNs mb) (hbb:∀ x:Str,x ≠ "__name__"->mb x=bootBuiltins x) (hlim:s₁.heap.NoLimit) (hg:s₁.gens=#[])
 (ha:s₁.heap.get? a=some { cls:=.type "list",data:=.seq vs.toArray }) (hi:IntsAre vs ns) (hl:ns.length≤sizeLine) (hr:bL k callerA)
 (hT:∀ T∈Ts,s₁.heap.get? T=some (tabObj #[])/\K.lookup T=none/\∃ c,CodeHd s₁.heap c T)
 (F:∀ base:Heap,K.In base->base.Ns mainGlobals mg->(∀ b o,s₁.heap.get? b=some o->b∉Ts->b≠a->base.get? b=some o)->aN P w K mg base CX k fa fd [x] sp) (hbind:∀ (s:Shared) (u:Value),BindsTo s fd ⟨[u],[]⟩ [(x,u)])
 (hsp:∀ H:Hp,(∀ T∈Ts,H T=some (.tbl #[]))->aQ K H a (ns.map V.int)->sp [.ref a] H (fun v _=>v=.bl true) fun _ _ _=>False)
 (hCX:∀ H e s',CX [] H s₁ (fun _ _ _=>False) e s'->False) :
 codeAny (model P w) callerA (.call (.ref fa) ⟨[.ref a],[]⟩) (fun r s'=>r=.ok (.ret (.bool true))/\OldK s₁.heap s'.heap/\s'.os=s₁.os/\AllBare s'.gens) s₁:=by
 have rv:=oO hi
 have lenV:=hi.length
 have haT:a∉Ts:=fun q=>by have:=(hT a q).1;rw [ha] at this;cases this
 have core:∀ H0:Hp,(∀ b,H0 b=none∨(b=a/\K.lookup a=none/\H0 b=some (.frz { cls:=.type "list",data:=.seq vs.toArray } (.lst (ns.map V.int)))))->aQ K (fun b=>if b∈Ts then some (.tbl #[]) else H0 b) a (ns.map V.int)->
  codeAny (model P w) callerA (.call (.ref fa) ⟨[.ref a],[]⟩) (fun r s'=>r=.ok (.ret (.bool true))/\OldK s₁.heap s'.heap/\s'.os=s₁.os/\AllBare s'.gens) s₁:=by
  intro H0 hO hS
  generalize hH:(fun b=>if b∈Ts then some (HO.tbl #[]) else H0 b:Hp)=H at hS
  have HT:∀ T∈Ts,H T=some (.tbl #[]):=fun T m=>by rw [← hH];exact if_pos m
  have Hne:∀ b,b∉Ts->H b=H0 b:=fun b e=>by rw [← hH];exact if_neg e
  have Hn:∀ b,b∉Ts->b≠a->H b=none:=fun b h1 h2=>by
   rw [Hne b h1]
   rcases hO b with z|⟨z,_⟩
   ·exact z
   ·exact absurd z h2
  have hok:iZ P w H s₁.heap:=fun b u e=>by
   by_cases q:b∈Ts
   ·rw [HT b q] at e;cases e
    exact (hT b q).1
   ·rw [Hne b q] at e
    rcases hO b with z|⟨rfl,_,z⟩
    ·rw [z] at e;cases e
    ·rw [z] at e;cases e
     exact ⟨ha,by rw [List.length_map];exact hl,vs,_,rv,ha⟩
  have nsN:∀ {b:Addr} {o:Obj} {es:Array DictEntry} {ep:Nat},s₁.heap.get? b=some o->o.data=.dict es ep->H b=none:=fun {b o es ep} e d=>by
   refine Hn b (fun q=>?_) (fun q=>?_)
   ·rw [(hT b q).1] at e;cases e;cases d
   ·subst q;rw [ha] at e;cases e;cases d
  have nsK:∀ {b:Addr} {m:Str->Option Value},s₁.heap.Ns b m->(sE s₁.heap H).Ns b m:=fun {b m} ⟨o,es,ep,e,d,r⟩=>⟨o,es,ep,nU e (nsN e d),d,r⟩
  have hKb:K.In (sE s₁.heap H):=fun b o e=>by
   refine nU (KX b o e) ?_
   have q:b∉Ts:=fun m=>by rw [(hT b m).2.1] at e;cases e
   rw [Hne b q]
   rcases hO b with z|⟨rfl,z,_⟩
   ·exact z
   ·rw [z] at e;cases e
  have hM:Mod K mg (sE s₁.heap H):=⟨hKb,nsK hns,⟨mb,nsK hb,hbb⟩,let ⟨mc,h1,h2⟩:=hlim;⟨mc,nsK h1,h2⟩⟩
  have e0:oH P w K mg (sE s₁.heap H) callerA [] s₁ H:=⟨rfl,hM,fun b o e=>Ag e,Nat.le_of_eq (wj _ _),trivial,fun b hb=>absurd (show b∈([]:List Addr) from hb) (by simp),hok,.of_eq hg⟩
  refine codeAny_mono ((F _ hKb (nsK hns) fun b o e h1 h2=>nU e (Hn b h1 h2)).run callerA [] s₁ H ⟨[.ref a],[]⟩ [.ref a] [.ref a] _ _ hr e0 (hbind s₁ (.ref a)) (.cons rfl .nil) (hsp H HT hS)) fun r s' h=>?_
  cases r with
  |error e=>exact (hCX H e s' h).elim
  | ok fl=>
    cases fl with
    |next=>exact False.elim h
    |brk=>exact False.elim h
    |cont=>exact False.elim h
    | ret u=>
      obtain ⟨v,H',os,bare,un,hok',r',q⟩:=h
      cases (show v=.bl true from q)
      cases (show u=Value.bool true from r')
      have was:∀ b o,s₁.heap.get? b=some o->b∉Ts->s'.heap.get? b=some o:=fun b o e h1=>by
       rcases hO b with z|⟨rfl,_,z⟩
       ·exact un.keep b o e (by rw [Hne b h1];exact z) (by intro z;exact absurd (show b∈([]:List Addr) from z) (by simp)) (by simp)
       ·have z2:=un.frzs b _ _ ((Hne b h1).trans z)
        obtain ⟨e2,_⟩:=hok' b _ z2
        rw [ha] at e;cases e
        exact e2
      have tbs:∀ T∈Ts,∃ more,s'.heap.get? T=some { cls:=.none,data:=.fields (#[]++more) }:=fun T m=>by
       obtain ⟨more,hm⟩:=un.tbls T #[] (HT T m)
       exact ⟨more,hok' T _ hm⟩
      refine ⟨rfl,⟨fun b o e=>?_,fun b o e=>?_⟩,os,bare⟩
      ·by_cases h1:b∈Ts
       ·obtain ⟨more,tb⟩:=tbs b h1
        obtain ⟨h2,_,c,hc⟩:=hT b h1
        rw [h2] at e;cases e
        exact .inr (.inl ⟨(hc.tab h2).isCodeTable,rfl,#[],more,rfl,tb⟩)
       ·exact .inl (was b o e h1)
      ·by_cases h1:b∈Ts
       ·obtain ⟨more,tb⟩:=tbs b h1
        exact ⟨_,tb⟩
       ·exact ⟨o,was b o e h1⟩
 cases hk:K.lookup a with
 | some o=>
   have e:=KX a o hk
   rw [ha] at e
   cases e
   exact core (fun _=>none) (fun _=>.inl rfl) (.inr ⟨_,vs.toArray,_,hk,rfl,rfl,rfl,by rw [List.size_toArray,lenV];exact hl,by simpa using rv⟩)
 | none=>
   refine core (fun b=>if b=a then some (.frz { cls:=.type "list",data:=.seq vs.toArray } (.lst (ns.map V.int))) else none) (fun b=>?_) (.inl (.inr ⟨_,(if_neg haT).trans (if_pos rfl)⟩))
   by_cases h:b=a
   ·exact .inr ⟨h,hk,if_pos h⟩
   ·exact .inl (if_neg h)
theorem zc {l:OpenLaw} {n k:Nat} {q:Program} {loose:List Str} {XP:(Str->Option Value)->Heap->Prop} {YP:World->Heap->Prop} {d:DefRec} {K:Params->Frag} {CX:World->jG} {x:Str} {Ts:List Addr}
 (hn:l.most=some n) (hn2:n≤sizeLine) (hdf:d.params.defaults=[]) (hr:bL k callerA)
 (hY:∀ (w:World) (h:Heap),YP w h->(K w.params).In h) (hYT:∀ (w:World) (h:Heap),YP w h->∀ T∈Ts,h.get? T=some (tabObj #[]))
 (F:∀ (w:World) (mg:Str->Option Value) (fa:Addr) (h:Heap),(K w.params).In h->h.Ns mainGlobals mg->mg d.name=some (.ref fa)->
  ∃ (fd:FuncData) (sp:Sp),(∀ (s:Shared) (u:Value),BindsTo s fd ⟨[u],[]⟩ [(x,u)])/\(∀ T∈Ts,(K w.params).lookup T=none/\∃ c,tabIn (K w.params) c=some T)/\
    (∀ (H:Hp) (a:Addr) (ns:List Int),ns.length≤n->(∀ T∈Ts,H T=some (.tbl #[]))->aQ (K w.params) H a (ns.map V.int)->sp [.ref a] H (fun v _=>v=.bl true) fun _ _ _=>False)/\
    ∀ base:Heap,(K w.params).In base->base.Ns mainGlobals mg->(∀ T∈Ts,base.BuiltinsAt mg T/\mainGlobals≠T)->aN l.prog w (K w.params) mg base (CX w) k fa fd [x] sp)
 (hCX:∀ (w:World) (H:Hp) (s:Shared) (e:Value) (s':Shared),CX w [] H s (fun _ _ _=>False) e s'->False) :
 WalkO q loose XP YP l.row.toRowW d [] (fun f vs=>PySem.call f vs):=by
 refine Att.sG hn hdf fun w s₀ s₁ mg mb fa o pm cd doc a vs ns G Y ho hd hcd hmg hobj hints hlen hg=>?_
 have KX:=hY w _ Y
 have TX:=hYT w _ Y
 obtain ⟨fd,sp,hb,ht,hsp,hF⟩:=F w mg fa _ KX G.T.g hmg
 obtain ⟨bm,ob,b1,b2,b3,b4,b5,b6⟩:=G.T.bmain
 have gT:∀ T∈Ts,mainGlobals≠T:=fun T m q=>by
  obtain ⟨o,es,ep,e,hd,_⟩:=G.T.g
  rw [q,TX T m] at e;cases e;cases hd
 have bT:bm∉Ts:=fun m=>by
  rw [TX _ m] at b3;cases b3;cases b4
 have ba:bm≠a:=fun q=>by
  rw [q,hobj] at b3;cases b3;cases b6
 have bG:bm≠mainGlobals:=fun q=>by
  obtain ⟨o,es,ep,e,hd,_⟩:=G.T.g
  rw [q,e] at b3;cases b3;rw [hd] at b6;cases b6
 exact wg KX G.T.g G.T.b G.T.builtins G.T.nolimit hg hobj hints (Nat.le_trans hlen hn2) hr (fun T m=>⟨TX T m,(ht T m).1,let ⟨c,z⟩:=(ht T m).2;⟨c,yr KX z⟩⟩) (fun base kb nb old=>hF base kb nb fun T m=>⟨⟨bm,ob,b1,b2,bG,fun q=>bT (q ▸ m),old _ _ b3 bT ba,b4,b5,b6⟩,gT T m⟩) hb (fun H hH hS=>hsp H a ns hlen hH hS) fun H e s'=>hCX w H s₁ e s'
end L2
namespace L2
open PySem PySem.Spec PyProof.Rows
theorem compTurn_dict (ke ve target iter:Expr) (ifs:List Expr) (scope:Scope) (pos:Pos) (it:Value) (d:Addr) (env:Env) :
 compTurn (.DictComp ke ve [⟨target,iter,ifs,0⟩] scope pos) 0 it (.ref d) env=(do
  standAt iter.pos
  match ← pyNext it with
  |none=>pure (.done .next)
  | some v=>
    letOwnedTupleGo target it v
    assign target env v
    let mut ok:=true
    for c in ifs do
     if ok then ok ← isTrue c env (eval c env)
    if ok then
     (do
      let kv ← eval ke env
      let vv ← holding [kv] (eval ve env)
      standAt { ke.pos with endLine:=ve.pos.endLine,endCol:=ve.pos.endCol }
      holding [kv,vv] (dictSet d kv vv))
    again (.compLoop (.DictComp ke ve [⟨target,iter,ifs,0⟩] scope pos) 0 it (.ref d) env)):=by rfl
theorem codeAny_compStart_dict {prog:Program} {w:World} {A:Around} {R:Result->Shared->Prop} {s:Shared} {ke ve target iter ifs rest scope pos it acc env}
 (h0:codeAny (model prog w) A (.compLoop (.DictComp ke ve (⟨target,iter,ifs,0⟩::rest) scope pos) 0 it acc env) R s)
 (h:wpAny (model prog w) A (pyIter it) (fun it' s'=>codeAny (model prog w) A (.compLoop (.DictComp ke ve (⟨target,iter,ifs,0⟩::rest) scope pos) 0 it' acc env) R s')
  (notedBy (model prog w) A env fun x s'=>R (.error x) s') s) :
 codeAny (model prog w) A (.compStart (.DictComp ke ve (⟨target,iter,ifs,0⟩::rest) scope pos) 0 it acc env) R s:=by
 refine codeAny_of_tree ?_
 show wpAny _ _ ((compStart (.DictComp ke ve (⟨target,iter,ifs,0⟩::rest) scope pos) 0 it acc env).onRaise (fun x=>do noteFrame x env;standAt theWindowsPlace)) _ _ s
 refine wpAny_notedAt ?_
 unfold compStart
 show wpAny _ _ (ask >>= _) _ _ s
 refine wpAny_bind (wpAny_askSetting (wpAny_ite ?_))
 split
 ·first
   |exact wpAny_bind (wpAny_pure (wpAny_pure (And.intro rfl h0)))
   |exact wpAny_pure (And.intro rfl h0)
 ·first
   |exact wpAny_bind (wpAny_rule (wpAny_bind (wpAny_standAt (wpAny_bind (wpAny_mono h (fun it' s' h'=>wpAny_pure (And.intro rfl h')) fun _ _ x=>x)))))
   |(refine wpAny_bind (wpAny_rule ?_);show wpAny _ _ (standAt iter.pos >>= _) _ _ s;exact wpAny_bind (wpAny_standAt (wpAny_bind (wpAny_mono h (fun it' s' h'=>wpAny_pure (And.intro rfl h')) fun _ _ x=>x))))
theorem vR {X:Cx} {Z:List (Addr×Obj)} {O:St} {H:Hp} {s:Shared} {a:Addr} {y v:V} {u r:Value} {A:Around} {E:Value->Shared->Prop} {kvs:List (Key×V)} {k:Key} {Q:Unit->Shared->Prop} (I:Inv X Z O H s) (e:H a=some (.dK kvs)) (ey:y=kV k) (l:kvs.length<sizeLine) (ry:RelV y u) (rv:RelV v r)
 (h:∀ s',Inv X Z O (upd H a (.dK (putK kvs k v))) s'->Q () s'):wpAny (model X.prog X.w) A (dictSet a u r) Q E s:=by
 subst ey
 obtain ⟨z,hd,vs,rel,dd⟩:=yR I.hok e
 have hz:vs.length≤sizeLine:=by rw [← rel.length];exact z
 have hl:(putK kvs k v).length≤sizeLine:=by have:=eV kvs k v;omega
 refine wpAny_dictSet_pairs (hsz:=hz) (sI ry) dd fun h' dd' hs=>h _ ?_
 have he:∃ q,h'.get? a=some q:=let ⟨q,_,_,hq,_⟩:=dd';⟨q,hq⟩
 exact mK I (by rw [e];exact True.intro) hs he (uq hl hd (rel.put k rv) dd')
def uU (J:It) (g:TG) (tt:TT) (tk tv:TE) (acc:Addr) (F:Hp->Prop) (W:Nat->Nat->St->Hp->Prop):Prop:=
 ∀ i m O H,W i m O H->(J.stop i H/\F H)∨(J.go i H/\∀ x H1,J.yld i H x H1->g x O H1 fun σ2 H2=>tt σ2 H2 fun b H3=>
   if b=true then tk σ2 H3 fun y H4=>tv σ2 H4 fun z H5=>∃ kvs k,H5 acc=some (.dK kvs)/\y=kV k/\kvs.length<sizeLine/\∃ m',m'<m/\W (i+1) m' σ2 (upd H5 acc (.dK (putK kvs k z))) else ∃ m',m'<m/\W (i+1) m' σ2 H3)
theorem t_ {X:Cx} {scope:Scope} {N':List Str} {cl:List (Str×Addr)} {C acc it:Addr} {s₂:Shared} {H₂:Hp} {fp:List Addr} {tn:Nat->Heap->Prop} {J:It} {g:TG} {tt:TT} {tk tv:TE} {F:Hp->Prop}
 {ke ve tg iter:Expr} {ifs:List Expr} {pos:Pos} {R:Result->Shared->Prop} (W:Nat->Nat->St->Hp->Prop) (turn:uU J g tt tk tv acc F W) (T:Turn X.prog X.w X.K tg J fp it tn)
 (hg:PG (aF X scope N' cl C s₂ H₂ fp) tg g) (hc:jw (aF X scope N' cl C s₂ H₂ fp) ifs tt) (hk:PE (aF X scope N' cl C s₂ H₂ fp) ke tk) (hv:PE (aF X scope N' cl C s₂ H₂ fp) ve tv) (hcalm:X.calm=true)
 (hfp:∀ b∈fp,b≠C/\b∉frs X.stack/\(∀ x c,cl.lookup x=some c->c≠b))
 (hR:∀ s' σ' H',Inv (aF X scope N' cl C s₂ H₂ fp) [] σ' H' s'->F H'->R (.ok .next) s')
 {s:Shared} {O:St} {H:Hp} {m:Nat} (I:Inv (aF X scope N' cl C s₂ H₂ fp) [] O H s) (st:tn 0 s.heap) (fr:∀ b∈fp,H b=none) (w0:W 0 m O H) :
 codeAny (model X.prog X.w) X.A (.compLoop (.DictComp ke ve [⟨tg,iter,ifs,0⟩] scope pos) 0 (.ref it) (.ref acc) (compEnvC scope cl C X.env)) R s:=by
 refine codeAny_loop rfl (fun n s'=>∃ i σ' H',Inv (aF X scope N' cl C s₂ H₂ fp) [] σ' H' s'/\tn i s'.heap/\(∀ b∈fp,H' b=none)/\W i n σ' H') (fun n s3 hI=>?_) m ⟨0,O,H,I,st,fr,w0⟩
 obtain ⟨i,σ3,H3,I3,st3,fr3,w3⟩:=hI
 show wpAny _ X.A ((compTurn (.DictComp ke ve [⟨tg,iter,ifs,0⟩] scope pos) 0 (.ref it) (.ref acc) (compEnvC scope cl C X.env)).onRaise (fun x=>do noteFrame x (compEnvC scope cl C X.env);theTreesLotGoes x)) _ _ s3
 refine wpAny_noted ?_
 rw [compTurn_dict]
 have fpk:∀ {H':Hp},(∀ b∈fp,H' b=none)->∀ b∈fp,jx (aF X scope N' cl C s₂ H₂ fp) [] H' b:=fun hn b hb=>
  ⟨hn b hb,(hfp b hb).1,(hfp b hb).2.1,.inl hb,(hfp b hb).2.2,fun p hp'=>by
   have hp'':p∈([]:List (Addr×Obj))++[]:=hp'
   exact absurd hp'' (by simp)⟩
 have fp1:=fpk fr3
 refine wpAny_bind (wpAny_standAt (wpAny_bind ?_))
 rcases turn i n σ3 H3 w3 with ⟨stop,qn⟩|⟨go,step⟩
 ·refine wpAny_mono (T.done (aF X scope N' cl C s₂ H₂ fp) rfl rfl rfl hcalm i _ s3 σ3 H3 (fun _ _=>False) I3 fp1 st3 stop) (fun r s4 ⟨hr,I4⟩=>?_) (fun _ _ z=>z.elim)
  subst hr
  exact wpAny_pure (hR s4 σ3 H3 I4 qn)
 ·refine wpAny_mono (T.item (aF X scope N' cl C s₂ H₂ fp) rfl rfl rfl hcalm i _ s3 σ3 H3 (fun _ _=>False) I3 fp1 st3 go) (fun r s4 ⟨u,hr,h4⟩=>?_) (fun _ _ z=>z.elim)
  subst hr
  refine wpAny_bind (wpAny_mono h4 (fun _ s5 ⟨x,H5,I5,r5,y5,st5,fr5⟩=>?_) (fun _ _ z=>z.elim))
  have fp5:=fpk fr5
  have I5':=I5.pinned fp5 (T.obj _ _ st5)
  refine wpAny_bind (wpAny_mono (hg _ s5 σ3 H5 x u _ I5' r5 (step x H5 y5)) (fun _ s6 ⟨σ6,H6,I6,q6⟩=>?_) (fun _ _ z=>z.elim))
  refine wpAny_bind (wpAny_mono (hc _ s6 σ6 H6 _ I6 q6) (fun ok s7 ⟨H7,I7,q7⟩=>?_) (fun _ _ z=>z.elim))
  have again:∀ {s8:Shared} {σ8:St} {H8:Hp},Inv (aF X scope N' cl C s₂ H₂ fp) ([]++il fp s5.heap) σ8 H8 s8->tn (i+1) s8.heap/\∀ b∈fp,H8 b=none:=fun {s8 σ8 H8} I8=>
   ⟨T.keep _ _ _ st5 fun b hb o e=>(I8.pin (b,o) (List.mem_append_right _ (List.mem_append_right _ (cI hb e)))).1,fun b hb=>by
    obtain ⟨o,e,d⟩:=T.obj _ _ st5 b hb
    exact (I8.pin (b,o) (List.mem_append_right _ (List.mem_append_right _ (cI hb e)))).2.1⟩
  cases ok with
  | false=>
    rw [if_neg Bool.false_ne_true] at q7
    obtain ⟨m',hm,w7⟩:=q7
    obtain ⟨t1,t2⟩:=again I7
    exact wpAny_pure ⟨rfl,m',hm,i+1,σ6,H7,I7.unpinned,t1,t2,w7⟩
  | true=>
    rw [if_pos rfl] at q7
    refine wpAny_bind (wpAny_bind (wpAny_mono (hk _ s7 σ6 H7 _ I7 q7) (fun y s8 ⟨yv,H8,I8,r8,q8⟩=>?_) (fun _ _ z=>z.elim)))
    refine wpAny_bind (wpAny_holding (wpAny_mono (hv _ s8 σ6 H8 _ I8 q8) (fun y2 s9 ⟨zv,H9,I9,r9,kvs,k,e9,ek,hl,m',hm,w9⟩=>?_) (fun _ _ z=>z.elim)))
    refine wpAny_bind (wpAny_standAt (wpAny_holding ?_))
    refine vR (X:=aF X scope N' cl C s₂ H₂ fp) I9 e9 ek hl r8 r9 fun s10 I10=>?_
    obtain ⟨t1,t2⟩:=again I10
    exact wpAny_pure ⟨rfl,m',hm,i+1,σ6,_,I10.unpinned,t1,t2,w9⟩
def FN (wi:TI) (g:TG) (tt:TT) (tk tv:TE) (k:Nat) (js:List Nat):TE:=fun O H Q=>wi O H fun J H1=>∀ acc,H1 acc=none->∃ W:Nat->Nat->St->Hp->Prop,(∃ m,W 0 m (dM k js O) (upd H1 acc (.dK [])))/\
 uU J g tt tk tv acc (fun H2=>Q (.ref acc) H2) W
section
variable {X:Cx} {scope:Scope} {own:List Str} {js:List Nat} {N':List Str} {wi:TI} {g:TG} {tt:TT} {tk tv:TE} {ke ve tg iter:Expr} {ifs:List Expr} {pos:Pos}
theorem wH {Z:List (Addr×Obj)} {O:St} {H:Hp} {s:Shared} {it:Addr} {fp:List Addr} {tn:Nat->Heap->Prop} {J:It} {cl:List (Str×Addr)} {F:Addr->Hp->Prop} {E:Value->Shared->Prop} {RR:Value->Addr->Result->Shared->Prop}
 (S:aJ X scope own js N') (hcalm:X.calm=true) (hg:∀ cl C s₀ H₀ ex,PG (aF X scope N' cl C s₀ H₀ ex) tg g) (hc:∀ cl C s₀ H₀ ex,jw (aF X scope N' cl C s₀ H₀ ex) ifs tt) (hk:∀ cl C s₀ H₀ ex,PE (aF X scope N' cl C s₀ H₀ ex) ke tk) (hv:∀ cl C s₀ H₀ ex,PE (aF X scope N' cl C s₀ H₀ ex) ve tv)
 (hc1:∀ x c,cl.lookup x=some c->X.env.cells.lookup x=some c) (hc2:∀ x,(x,NameKind.free)∈scope.names->∃ c,cl.lookup x=some c)
 (I:Inv X Z O H s) (T:Turn X.prog X.w X.K tg J fp it tn) (st:tn 0 s.heap) (hf:∀ b∈fp,jx X Z H b)
 (hW:∀ acc,H acc=none->∃ W:Nat->Nat->St->Hp->Prop,(∃ m,W 0 m (dM own.length js O) (upd H acc (.dK [])))/\uU J g tt tk tv acc (F acc) W)
 (fin:∀ acc C H' s' m,Inv X Z O H' s'->s'.heap.Ns C m->H' C=none->C≠X.env.locals->X.s₀.heap.objs.size≤C->(∀ x c,X.env.cells.lookup x=some c->c≠C)->(∀ p∈X.pn++Z,p.1≠C)->F acc H'->RR (.ref acc) C (.ok .next) s') :
 wpAny (model X.prog X.w) X.A newDict (fun acc s₃=>wpAny (model X.prog X.w) X.A (newFunctionEnv scope X.env.globals cl [] X.env.qual none .none (some X.env)) (fun cenv s₄=>
  codeAny (model X.prog X.w) X.A (.compStart (.DictComp ke ve [⟨tg,iter,ifs,0⟩] scope pos) 0 (.ref it) acc { cenv with scope:=relabel scope X.env }) (RR acc cenv.locals) s₄) E s₃) E s:=by
 refine wpAny_newObj_type (wpAny_newFunctionEnv S.nocell (by intro y hy;simp at hy) (fun h₁ hns₁ hsb₁=>?_) S.kind)
 dsimp only at hns₁ hsb₁ ⊢
 have hHA:H s.heap.objs.size=none:=I.hok.fresh (Nat.le_refl _)
 have IL:Inv X Z O (upd H s.heap.objs.size (.dK [])) { s with heap:=s.heap.push { cls:=.type "dict",data:=.dict #[] },toks:=s.toks }:=I.laid (a:=s.heap.objs.size) (o:=.dK []) (t':=s.toks) (fun _ _ q=>Heap.get?_push_of_some _ q) (Nat.le_refl _) (nJ s.heap I.big)
 obtain ⟨W,⟨m0,w0⟩,turn⟩:=hW _ hHA
 have stL:tn 0 (s.heap.push { cls:=.type "dict",data:=.dict #[] }):=T.keep _ _ _ st fun b hb o e=>Heap.get?_push_of_some _ e
 have fpLt0:∀ b∈fp,b<s.heap.objs.size:=fun b hb=>by
  obtain ⟨o,e,_⟩:=T.obj _ _ st b hb
  exact Heap.lt_size e
 have hfL:∀ b∈fp,jx X Z (upd H s.heap.objs.size (.dK [])) b:=fun b hb=>by
  obtain ⟨f0,f⟩:=hf b hb
  exact ⟨by rw [aA (Nat.ne_of_lt (fpLt0 b hb))];exact f0,f⟩
 generalize hH2:s.heap.push { cls:=.type "dict",dict:=none,data:=.dict #[] }=H2 at hns₁ hsb₁ IL stL ⊢
 have hC:H2.objs.size=s.heap.objs.size+1:=by rw [← hH2,Heap.size_push]
 generalize hHn:upd H s.heap.objs.size (.dK [])=HL at IL hfL w0
 generalize hAn:s.heap.objs.size=acc at *
 have below:∀ b,b<H2.objs.size->b≠H2.objs.size:=fun b hb=>Nat.ne_of_lt hb
 have old:∀ b o,H2.get? b=some o->h₁.get? b=some o:=fun b o e=>hsb₁.extBut b o (below b (Heap.lt_size e)) (Heap.get?_push_of_some _ e)
 generalize hCn:H2.objs.size=C at *
 have cellLt:∀ x c,X.env.cells.lookup x=some c->c<C:=fun x c e=>by
  obtain ⟨v,q⟩:=IL.cell x c e
  rw [← hCn];exact q.lt
 have pinLt:∀ p∈X.pn++Z,p.1<C:=fun p hp=>by rw [← hCn];exact Heap.lt_size (IL.pin p hp).1
 have fpLt:∀ b∈fp,b<C:=fun b hb=>Nat.lt_of_lt_of_le (fpLt0 b hb) (by rw [hC];exact Nat.le_succ _)
 have hHC:HL C=none:=IL.hok.fresh (by show H2.objs.size≤C;rw [hCn];exact Nat.le_refl _)
 have I1:Inv (aF X scope N' cl C { s with heap:=H2,toks:=s.toks } HL fp) [] (dM own.length js O) HL { s with heap:=h₁,toks:=s.toks+([]:List (Str×Value)).length }:=
  Inv.comp S IL hc1 hc2 (by show H2.objs.size≤C;rw [hCn];exact Nat.le_refl _) hns₁ old (fun b hb=>⟨hfL b hb,by show b<H2.objs.size;rw [hCn];exact fpLt b hb⟩) hHC fun b o e=>below b (by rw [← hCn];exact Heap.lt_size e)
 have st1:tn 0 h₁:=T.keep _ _ _ stL fun b hb o e=>old b o e
 have loop:∀ s₃:Shared,s₃={ s with heap:=h₁,toks:=s.toks+([]:List (Str×Value)).length }->
  codeAny (model X.prog X.w) X.A (.compLoop (.DictComp ke ve [⟨tg,iter,ifs,0⟩] scope pos) 0 (.ref it) (.ref acc) (compEnvC scope cl C X.env)) (RR (.ref acc) C) s₃:=by
  rintro s₃ rfl
  refine t_ W turn T (hg _ _ _ _ _) (hc _ _ _ _ _) (hk _ _ _ _ _) (hv _ _ _ _ _) hcalm
   (fun b hb=>⟨below b (fpLt b hb),fun z=>?_,fun x c e z=>(hfL b hb).2.2.2.2.1 x c (hc1 x c e) z⟩) ?_ I1 st1 (fun b hb=>(hfL b hb).1) w0
  ·rcases List.mem_cons.mp (IL.stkSub b z) with q|q
   ·exact (hfL b hb).2.1 q
   ·exact (hfL b hb).2.2.1 q
  ·intro s' σ' H' J' q
   obtain ⟨m,hm,_⟩:=J'.loc
   have IX:Inv X Z O H' s':=IL.call' J'.os J'.base J'.hok J'.bare fun b hb=>⟨(hfL b hb).2.2.2.1,(hfL b hb).2.1,(hfL b hb).2.2.2.2.1,(hfL b hb).2.2.2.2.2⟩
   refine fin acc C H' s' m IX hm J'.free ?_ ?_ ?_ ?_ q
   ·exact Nat.ne_of_gt (Nat.lt_of_lt_of_le IL.lt (by show H2.objs.size≤C;rw [hCn];exact Nat.le_refl _))
   ·exact Nat.le_trans IL.sz (by show H2.objs.size≤C;rw [hCn];exact Nat.le_refl _)
   ·exact fun x c e z=>absurd (cellLt x c e) (by rw [z];exact Nat.lt_irrefl _)
   ·exact fun p hp z=>absurd (pinLt p hp) (by rw [z];exact Nat.lt_irrefl _)
 exact codeAny_compStart_dict (loop _ rfl) (T.self _ 0 _ _ _ st1 (loop _ rfl))
theorem rJ {i:Nat} {x:Str} {pos' spos:Pos} (S:aJ X scope own js N') (hcalm:X.calm=true) (hN:X.N.Nodup) (hx:X.N[i]?=some x) (hk:X.env.scope.names.lookup x=some .local) (hi:PI X tg iter wi) (hg:∀ cl C s₀ H₀ ex,PG (aF X scope N' cl C s₀ H₀ ex) tg g) (hc:∀ cl C s₀ H₀ ex,jw (aF X scope N' cl C s₀ H₀ ex) ifs tt)
 (hke:∀ cl C s₀ H₀ ex,PE (aF X scope N' cl C s₀ H₀ ex) ke tk) (hve:∀ cl C s₀ H₀ ex,PE (aF X scope N' cl C s₀ H₀ ex) ve tv) (hsw:swapsWith (.DictComp ke ve [⟨tg,iter,ifs,0⟩] scope pos) (some (.Name x pos')) spos.line X.env=pure true:=by rfl) (hs:∀ x,foldedSetIterable iter X.env x=pure x:=by intro _;rfl) :
 PS X (.Assign [.Name x pos'] (.DictComp ke ve [⟨tg,iter,ifs,0⟩] scope pos) spos) (yp (FN wi g tt tk tv own.length js) (aU i)):=by
 intro Z s O H D I h
 obtain ⟨cl,hcl,hc1,hc2⟩:=iI (env:=X.env) scope fun y hy hk=>I.ok.has y.1 (S.free y hy hk)
 rw [exec_Assign_Name_used _ _ _ _ hsw]
 refine wpAny_bind (wpAny_standAt (wpAny_bind ?_))
 show wpAny _ X.A (do let _ ← comprehension (.DictComp ke ve [⟨tg,iter,ifs,0⟩] scope pos) scope X.env _ newDict false (eval iter X.env) (some (assign (.Name x pos') X.env))) _ _ s
 refine wpAny_bind (wpAny_mono (wpAny_comprehension_free (use:=some (assign (.Name x pos') X.env)) (Q:=fun _ s'=>SP X Z D .next s') rfl hs hcl S.kind S.names
  (cj (hi Z s O H _ I h) fun v s1 h1=>cj h1 fun itv s2 h2=>?_)) (fun _ s' hq=>wpAny_pure (wpAny_pure hq)) fun _ _ e=>e)
 obtain ⟨it,fp,tn,J,H2,e,I2,T,st2,f2,hW⟩:=h2
 subst e
 refine wH (RR:=fun acc C=>compPost (model X.prog X.w) X.A X.xe (some (assign (.Name x pos') X.env)) (fun _ s'=>SP X Z D .next s') acc C) S hcalm hg hc hke hve hc1 hc2 I2 T st2 f2 hW ?_
 intro acc C H' s' m IX hm hCn hL hz hcn hpn q
 show wpAny _ X.A (assign (.Name x pos') X.env (.ref acc)) _ _ s'
 refine wpAny_assign_Name (jf IX hN hx (.inl hk) (v:=.ref acc) rfl (fun s'' I'' hsb=>?_) (.inr hk))
 obtain ⟨a,hsb,ha⟩:=hsb
 have haC:C≠a:=by
  rcases ha with z|z
  ·rw [z];exact hL
  ·exact fun q=>hcn x a z q.symm
 refine ⟨m,hm.sameBut hsb haC,fun h' hs'=>⟨_,_,?_,q⟩⟩
 exact I''.turned (t':=s''.toks) (it:=C) (fun b o hb e=>(hs'.2 b hb).trans e) hCn hL (.inr hz) hcn hpn
end
end L2
namespace L2
open PySem PySem.Spec PyProof.Rows PySem.SeqAt
theorem Gy {α:Type} {us:List α} (h:us.length=1):∃ a,us=[a]:=List.length_eq_one_iff.mp h
theorem xG {α:Type} {us:List α} (h:us.length=2):∃ a b,us=[a,b]:=by
 cases us with
 |nil=>cases h
 | cons a r=>
   obtain ⟨b,rfl⟩:=Gy (us:=r) (by simpa using h)
   exact ⟨a,b,rfl⟩
theorem Ei {α:Type} {us:List α} (h:us.length=3):∃ a b c,us=[a,b,c]:=by
 cases us with
 |nil=>cases h
 | cons a r=>
   obtain ⟨b,c,rfl⟩:=xG (us:=r) (by simpa using h)
   exact ⟨a,b,c,rfl⟩
theorem Lg {α:Type} {us:List α} (h:us.length=4):∃ a b c d,us=[a,b,c,d]:=by
 cases us with
 |nil=>cases h
 | cons a r=>
   obtain ⟨b,c,d,rfl⟩:=Ei (us:=r) (by simpa using h)
   exact ⟨a,b,c,d,rfl⟩
end L2
namespace L2
open PySem PySem.Spec PyProof.Rows
theorem qP {lo:Int} {n:Nat} {g:TG} {tk tv:TE} {acc:Addr} {F:Hp->Prop} {σ0:St} {H0:Hp} (Pv:Nat->St->Hp->Prop) (h0:Pv 0 σ0 H0)
 (hs:∀ i O H,i<n->Pv i O H->∀ N:St->Hp->Prop,(∀ σ' H',Pv (i+1) σ' H'->N σ' H')->g (.int (lo+i)) O H fun σ2 H2=>tk σ2 H2 fun y H4=>tv σ2 H4 fun z H5=>∃ kvs k,H5 acc=some (.dK kvs)/\y=kV k/\kvs.length<sizeLine/\N σ2 (upd H5 acc (.dK (putK kvs k z))))
 (hd:∀ O H,Pv n O H->F H):∃ W:Nat->Nat->St->Hp->Prop,(∃ m,W 0 m σ0 H0)/\uU (zZ lo n) g wu tk tv acc F W:=by
 refine ⟨fun i m O H=>m=n-i/\i≤n/\Pv i O H,⟨n,by simp,Nat.zero_le _,h0⟩,?_⟩
 rintro i m O H ⟨rfl,hi,p⟩
 by_cases hlt:i<n
 ·refine .inr ⟨hlt,fun x H' y=>?_⟩
  obtain ⟨e,y⟩:=y
  subst e y
  exact hs i O _ hlt p (fun σ' H'=>∃ m',m'<n-i/\m'=n-(i+1)/\i+1≤n/\Pv (i+1) σ' H') fun σ' H' q=>⟨n-(i+1),by omega,rfl,hlt,q⟩
 ·have e:i=n:=by omega
  subst e
  exact .inl ⟨Nat.le_refl _,hd O H p⟩
theorem gF {H:Hp} {p:Addr} {kvs:List (Key×V)} {v:Int} {x:V} (h:H p=some (.dK kvs)) (e:dJ kvs (.inl v)=some x):jN H p (.int v) (some x):=by
 rw [← e];exact jN.k (k:=Sum.inl v) h
theorem zF {kvs:List (Key×V)} {k:Key} {x v:V} (h:dJ kvs k=some x):(putK kvs k v).length=kvs.length:=by
 unfold putK
 rw [if_pos ?_,List.length_map]
 unfold dJ at h
 cases e:kvs.find? fun kv=>decide (kv.1=k) with
 |none=>rw [e] at h;cases h
 | some q=>
   rw [List.any_eq_true]
   exact ⟨q,List.mem_of_find?_eq_some e,by simpa using List.find?_some e⟩
theorem oV:∀ {ns:List Int} {us:List Value},Vals (ns.map V.int) us->∃ ps:List (Int×Tok),us=ps.map (fun p=>Value.int p.1 p.2)/\ps.map (·.1)=ns
 |[],_,r=>by rw [List.map_nil] at r;cases r;exact ⟨[],rfl,rfl⟩
 | n::ns,_,r=>by
   rw [List.map_cons] at r
   cases r with
   | cons h t=>
     obtain ⟨tk,rfl⟩:=(show ∃ t,_=Value.int n t from h)
     obtain ⟨ps,e1,e2⟩:=oV t
     exact ⟨(n,tk)::ps,by rw [e1];rfl,by rw [List.map_cons,e2]⟩
theorem numAt_eq {ps:List (Int×Tok)} {ns:List Int} (e:ps.map (·.1)=ns) {i:Nat} (h:i<ns.length):numAt ps.toArray i=ns[i]:=by
 subst e
 unfold numAt
 simp at h ⊢
 rw [List.getElem?_eq_getElem h]
 rfl
theorem yH {ps:List (Int×Tok)}:(ps.map (fun p=>Value.int p.1 p.2)).toArray=intItems ps.toArray:=by
 unfold intItems
 simp
section
variable {X:Cx}
end
theorem iR {K:PySem.W.Frag} {a:Addr} {xs:List V} {g:TG} {tt:TT} {te:TE} {F:List V->Hp->Prop} {σ0:St} {H0:Hp} (Pv:Nat->List V->St->Hp->Prop) (hn:xs.length≤sizeLine) (h0:Pv 0 [] σ0 H0) (hq:∀ i ys O H,i≤xs.length->Pv i ys O H->aQ K H a xs)
 (hs:∀ i x ys O H,xs[i]?=some x->Pv i ys O H->∀ N:List V->St->Hp->Prop,(∀ ys' σ' H',Pv (i+1) ys' σ' H'->ys'.length≤ys.length+1->N ys' σ' H')->g x O H fun σ2 H2=>tt σ2 H2 fun b H3=>if b=true then te σ2 H3 fun y H4=>N (ys++[y]) σ2 H4 else N ys σ2 H3)
 (hd:∀ ys O H,ys.length≤xs.length->Pv xs.length ys O H->F ys H) :
 ∃ W:Nat->Nat->List V->St->Hp->Prop,(∃ m,W 0 m [] σ0 H0)/\nQ (Ef K a) g tt te F W:=by
 refine ⟨fun i m ys O H=>m=xs.length-i/\i≤xs.length/\ys.length≤i/\Pv i ys O H,⟨xs.length,by simp,Nat.zero_le _,Nat.zero_le _,h0⟩,?_⟩
 rintro i m ys O H ⟨rfl,hi,hl,p⟩
 have q:=hq i ys O H hi p
 by_cases hlt:i<xs.length
 ·refine .inr ⟨⟨xs,xs[i],q,by simp [hlt]⟩,by omega,fun x H' y=>?_⟩
  obtain ⟨e,y⟩:=y
  subst e
  refine hs i x ys O _ (y xs q) p (fun ys' σ' H'=>∃ m',m'<xs.length-i/\m'=xs.length-(i+1)/\i+1≤xs.length/\ys'.length≤i+1/\Pv (i+1) ys' σ' H') fun ys' σ' H' q hl'=>⟨xs.length-(i+1),by omega,rfl,hlt,by omega,q⟩
 ·have e:i=xs.length:=by omega
  subst e
  exact .inl ⟨⟨xs,q,Nat.le_refl _⟩,hd ys O H hl p⟩
end L2
namespace L2
open PySem PySem.Spec PyProof.Rows PySem.SeqAt
def aH (t:TE) (O:St) (H:Hp) (v:V):Prop:=∀ Q:VK,Q v H->t O H Q
def ie (t:TT) (O:St) (H:Hp) (b:Bool):Prop:=∀ Q:Bool->Hp->Prop,Q b H->t O H Q
def bQ (r:R2) (x y:V) (H:Hp) (v:V):Prop:=∀ Q:VK,Q v H->r x y H Q
def jd (t:TF) (O:St) (H:Hp) (m:Nat):Prop:=∀ (out:Str) (Q:VK),out.length+m≤sizeLine->(∀ y,Q (.str y) H)->t out O H Q
section
variable {O:St} {H:Hp} {ta tb tc:TE} {t u:TT} {x y z v:V} {r r':R2} {k k':Bool} {f:TF} {m n:Nat}
theorem aH.var {i:Nat} (h:O[i]?=some (some v)):aH (tZ i) O H v:=fun Q q=>⟨v,h,q⟩
theorem aH.con:aH (tC v) O H v:=fun Q q=>q
theorem aH.op (a:aH ta O H x) (b:aH tb O H y) (c:bQ r x y H v):aH (Hc r ta tb) O H v:=fun Q q=>a _ (b _ (c _ q))
theorem aH.neg {i:Int} (a:aH ta O H (.int i)):aH (O3 (rU fun i=>.int (-i)) ta) O H (.int (-i)):=fun Q q=>a _ ⟨i,rfl,q⟩
theorem bQ.i0 {g:Int->Int->V} {i j:Int}:bQ (By g) (.int i) (.int j) H (g i j):=fun Q q=>⟨i,j,rfl,rfl,q⟩
theorem bQ.eq (h:Af x y=true):bQ Pb x y H (.bl (decide (x=y))):=fun Q q=>⟨h,q⟩
theorem ie.test {t:TE} (a:aH t O H (.bl k)):ie (x_ t) O H k:=fun Q q=>a _ ⟨k,rfl,q⟩
theorem aH.chain (a:aH ta O H x) (b:aH tb O H y) (c:aH tc O H z) (h:bQ r x y H (.bl k)) (h':bQ r' y z H (.bl k')):aH (uz r r' ta tb tc) O H (.bl (k && k')):=fun Q q=>a _ (b _ (h _ ⟨k,rfl,by
 cases k with
 |false=>exact eG rfl q
 |true=>exact jt rfl (c _ (h' _ q))⟩))
theorem ie.not (a:ie t O H k):ie (Hr t) O H (!k):=fun Q q=>a _ q
theorem ie.or (a:ie t O H k) (b:ie u O H k'):ie (Px t u) O H (k || k'):=fun Q q=>a _ (by
 cases k with
 |false=>exact eG rfl (b _ q)
 |true=>exact jt rfl q)
theorem ie.iff {D:Ends} {a b:TS} (h:ie t O H k) (q:if k=true then a D O H else b D O H):Ih t a b D O H:=h _ q
theorem jd.nil:jd (fun out _ H Q=>out.length≤sizeLine/\Q (.str out) H) O H 0:=fun out Q l q=>⟨l,q _⟩
theorem jd.txt {x:Str} (l:x.length≤m) (h:jd f O H n):jd (fun out O H Q=>(out++x).length≤sizeLine/\f (out++x) O H Q) O H (m+n):=fun out Q lo q=>by
 have:=Str.length_append out x
 exact ⟨by omega,h _ Q (by omega) q⟩
theorem jd.int {te:TE} {i:Int} (a:aH te O H (.int i)) (hi:i.natAbs.log2<1920/\(Str.ofString (toString i)).length≤1000) (h:jd f O H n):jd (fun out O H Q=>te O H fun x H1=>∃ y,HH x y/\(out++y).length≤sizeLine/\f (out++y) O H1 Q) O H (1000+n):=fun out Q lo q=>by
 have:=Str.length_append out (Str.ofString (toString i))
 have:=hi.2
 exact a _ ⟨_,.inr ⟨i,rfl,hi.1,rfl⟩,by omega,h _ Q (by omega) q⟩
end
variable {X:Cx}
def MN (K:PySem.W.Frag):R2:=fun x y H Q=>∃ d e,Rep K H x (.list d)/\Rep K H y (.list e)/\bH d≤60/\Q (.bl (!cQ d e)) H
theorem FZ (hu:X.A.units+64<cLine):jy X (compareOp .NotEq) (MN X.K):=by
 intro Z s O H x y v u Q I rx ry h
 obtain ⟨d,e,h1,h2,hd,q⟩:=h
 cases h1 with
 | lst g1 rs1=>
   cases h2 with
   | lst g2 rs2=>
     cases (show v=Value.ref _ from rx)
     cases (show u=Value.ref _ from ry)
     obtain ⟨its1,rv1,p1,_⟩:=I.list g1
     obtain ⟨its2,rv2,p2,_⟩:=I.list g2
     have hz:=uK (X:=X) (H:=H) (A:=X.A) rs1 rs2 rv1 rv2
     by_cases hs:its1.toArray.size=its2.toArray.size
     ·have hw:=RcNeAt.lists (A:=X.A) p1.isList p2.isList hs (by omega)
       (e:=fun j=>dY (d.getD j .none) (e.getD j .none)) (fun j h1 h2=>by simpa using jR I rs1 rs2 rv1 rv2 (A:=X.A.in1) (by show X.A.units+1+_<_;omega) j (by simpa using h1) (by simpa using h2))
      rw [← hs,Nat.min_self,beq_self_eq_true,Bool.and_true] at hz
      rw [hz] at hw
      exact hw _ _ _ _ ⟨.bl _,H,I,rfl,q⟩
     ·have hw:=RcNeAt.lists_lengths (A:=X.A) p1.isList p2.isList (by simpa using hs) (by omega)
      have:cQ d e=false:=by
       rw [← hz,beq_eq_false_iff_ne.mpr hs,Bool.and_false]
      rw [this] at q
      exact hw _ _ _ _ ⟨.bl _,H,I,rfl,q⟩
section
variable {O:St} {H:Hp} {ta tb:TE} {k k':Bool} {x y:V}
theorem bQ.ne (h:Af x y=true):bQ Og x y H (.bl (!decide (x=y))):=fun Q q=>⟨h,q⟩
end
def ue (P:Program) (w:World) (a:Addr) (n:Nat):HO:=.ext fun h=>∃ S,h.SetOf (intKind P w) a S n
theorem Am {P:Program} {w:World} {H:Hp} {h:Heap} {a:Addr} {n:Nat} (x:∃ S,h.SetOf (intKind P w) a S n):bZ P w H h a (ue P w a n):=by
 refine ⟨x,?_,fun h1 h2 z k=>?_⟩
 ·obtain ⟨S,o,es,ep,t,e,_⟩:=x
  exact ⟨o,e⟩
 ·obtain ⟨S,o,es,ep,t,e,r⟩:=z
  exact ⟨S,o,es,ep,t,k _ e,r⟩
theorem jH {ns:List Int} (hn:ns.Nodup):∀ i,i≤ns.length->firstMet (fun i=>ns.getD i 0) i=ns.take i
 |0,_=>by rw [firstMet_zero,List.take_zero]
 | i+1,h=>by
   have hi:i<ns.length:=h
   rw [firstMet_succ,jH hn i (Nat.le_of_lt hi),List.take_add_one,List.getElem?_eq_getElem hi]
   have e:ns.getD i 0=ns[i]:=by simp [List.getD_eq_getElem?_getD,hi]
   unfold step_dedup
   rw [e,if_neg]
   ·rfl
   ·intro z
    rw [List.any_eq_true] at z
    obtain ⟨x,hx,hxe⟩:=z
    obtain ⟨j,hj,rfl⟩:=List.getElem_of_mem hx
    rw [List.getElem_take,beq_iff_eq] at hxe
    rw [List.length_take] at hj
    exact (List.pairwise_iff_getElem.mp hn) j i (by omega) hi (by omega) hxe
theorem lL:∀ {ns:List Int} {us:List Value},Vals (ns.map V.int) us->IntsAre us ns
 |[],_,r=>by rw [List.map_nil] at r;cases r;exact .nil
 | n::ns,_,r=>by
   rw [List.map_cons] at r
   cases r with
   | cons r1 r=>
     obtain ⟨t,rfl⟩:=r1
     exact .cons n t (lL r)
section
variable {X:Cx}
theorem xY:bootBuiltins "set" = some (.type "set"):=by decide +kernel
theorem wB (hc:X.calm=true):dH X (.type "set") (fun xs H Q=>∃ (p:Addr) (ns:List Int),xs=[.ref p]/\aQ X.K H p (ns.map V.int)/\ns.Nodup/\ns.length≤1000/\∀ a,H a=none->Q (.ref a) (upd H a (ue X.prog X.w a ns.length))):=by
 intro Z s O H xs us Q I r h
 obtain ⟨p,ns,rfl,hq,hn,hl,q⟩:=h
 obtain ⟨u,rfl,ru⟩:=vals1 r
 cases (show u=Value.ref p from ru)
 obtain ⟨its,rv,pl,hz⟩:=I.list hq
 have hlen:=rv.length
 rw [List.length_map] at hlen
 have hz':its.toArray.size=ns.length:=by rw [List.size_toArray,hlen]
 refine call_set_list (ns:=ns) (I.ok.hd hc) pl.isList (lL rv) (by rw [hz'];exact Nat.lt_of_le_of_lt (show ns.length+1≤1001 by omega) (by decide)) fun h' tk hS kp=>?_
 rw [hz',jH hn _ (Nat.le_refl _),List.take_length] at hS
 exact ⟨.ref s.heap.objs.size,_,I.laid (t':=tk) (fun b o e=>kp b o (Heap.lt_size e) e) (Nat.le_refl _) (Am ⟨_,hS⟩),rfl,q _ (I.hok.fresh (Nat.le_refl _))⟩
theorem wU:dH X (.builtin "len") (fun xs H Q=>∃ a n,xs=[.ref a]/\H a=some (ue X.prog X.w a n)/\Q (.int n) H):=by
 intro Z s O H xs us Q I r h
 obtain ⟨a,n,rfl,ha,q⟩:=h
 obtain ⟨u,rfl,ru⟩:=vals1 r
 cases (show u=Value.ref a from ru)
 obtain ⟨S,o,es,ep,t,e,hex,hd,hel,hS,hb,hf,rfl⟩:=(I.hok a _ ha).1
 exact call_len_set e hex hd hf (Int.lt_of_lt_of_le (Int.ofNat_lt.mpr hb) (by decide)) ⟨.int es.size,H,I.tok _,⟨_,rfl⟩,q⟩
end
theorem jc {f:Nat->Int} {ns:List Int} (h:∀ i (hi:i<ns.length),f i=ns[i]):∀ k,k≤ns.length->preSum f k=(ns.take k).sum
 |0,_=>rfl
 | k+1,hk=>by
   have hk':k<ns.length:=hk
   show preSum f k+f k=_
   rw [jc h k (Nat.le_of_lt hk'),h k hk',List.take_add_one,List.getElem?_eq_getElem hk',List.sum_append]
   simp
theorem sum_bound {B:Int}:∀ {ns:List Int},(∀ x∈ns,-B≤x/\x≤B)->0≤B->-(B*ns.length)≤ns.sum/\ns.sum≤B*ns.length
 |[],_,_=>by simp
 | n::ns,h,hB=>by
   have h1:=h n (List.mem_cons_self ..)
   have h2:=sum_bound (ns:=ns) (fun x hx=>h x (List.mem_cons_of_mem _ hx)) hB
   rw [List.sum_cons,List.length_cons,Int.natCast_succ,Int.mul_add,Int.mul_one]
   omega
section
variable {X:Cx}
theorem vD (hc:X.calm=true):dH X (.builtin "sum") (fun xs H Q=>∃ (p:Addr) (ns:List Int),xs=[.ref p]/\aQ X.K H p (ns.map V.int)/\ns.length≤1000/\(∀ x∈ns,-10000000000000≤x/\x≤10000000000000)/\Q (.int ns.sum) H):=by
 intro Z s O H xs us Q I r h
 obtain ⟨p,ns,rfl,hq,hl,hb,q⟩:=h
 obtain ⟨u,rfl,ru⟩:=vals1 r
 cases (show u=Value.ref p from ru)
 obtain ⟨its,rv,pl,hz⟩:=I.list hq
 obtain ⟨ps,rfl,e⟩:=oV rv
 have hlen:ps.length=ns.length:=by rw [← e,List.length_map]
 have pl':=pl.isList
 rw [yH] at pl'
 have at_:∀ i (hi:i<ns.length),numAt ps.toArray i=ns[i]:=fun i hi=>numAt_eq e hi
 refine sum_intList (I.ok.hd hc) pl' (fun j hj=>?_) fun h' tk t' k=>?_
 ·have hj':j<ns.length:=by simpa [hlen] using hj
  rw [at_ j hj',jc at_ (j+1) hj']
  have b1:=hb _ (List.getElem_mem hj')
  have b2:=sum_bound (B:=10000000000000) (ns:=ns.take (j+1)) (fun x hx=>hb x (List.mem_of_mem_take hx)) (by decide)
  have b3:(ns.take (j+1)).length≤1000:=by rw [List.length_take];omega
  refine ⟨⟨?_,?_⟩,?_,?_⟩ <;> omega
 ·have:preSum (numAt ps.toArray) ps.toArray.size=ns.sum:=by
   rw [List.size_toArray,hlen,jc at_ _ (Nat.le_refl _),List.take_length]
  rw [this]
  exact ⟨.int _,H,I.kept k,⟨_,rfl⟩,q⟩
end
end L2
namespace L2
open PySem PySem.Spec PyProof.Rows
section
variable {X:Cx} {Z:List (Addr×Obj)} {O:St} {H:Hp} {s:Shared}
end
section
variable {X:Cx} {scope:Scope} {own:List Str} {js:List Nat} {N':List Str} {wi:TI} {g:TG} {tt:TT} {te:TE} {elt tg iter:Expr} {ifs:List Expr} {pos:Pos}
end
end L2
namespace L2
open PySem
def Jb (sc osc:Scope):Scope:=
 { sc with names:=sc.names.map fun (n,k)=>if (k == .free && osc.kind == .function && osc.names.lookup n == some .cell) then (n,.cell) else (n,k) }
theorem gC {X:Cx} {tg l:Expr} {tl:TE} {K:PySem.W.Frag} (hK:X.K=K) (hl:PE X l tl):PI X tg l (yz K tl):=by
 subst hK
 exact cD hl
end L2
namespace L2
open PySem PySem.Spec PyProof.Rows PySem.SeqAt
section
variable {prog:Program} {w:World} {A:Around} {E:Value->Shared->Prop} {s:Shared}
end
variable {X:Cx}
end L2
namespace L2
open PySem PySem.Spec PyProof.Rows PySem.W PyProof.V
section
variable {X:Cx} {Z:List (Addr×Obj)} {O:St} {H:Hp} {s:Shared} {a:Addr} {D:List (Str×PyData)}
end
end L2
namespace L2
open PySem PySem.Spec PyProof.Rows PySem.SeqAt PySem.Builtin PySem.Builtin.Str
section
variable {X:Cx}
end
end L2
namespace L2
open PySem PySem.Spec PyProof.Rows PySem.SeqAt
section
variable {X:Cx}
end
end L2
namespace L2
open PySem PySem.Spec PyProof.Rows PySem.SeqAt PySem.Builtin PySem.Builtin.Str
section
variable {X:Cx}
end
theorem rD {lo:Int} {n:Nat} {g:TG} {tt:TT} {te:TE} {F:List V->Hp->Prop} {σ0:St} {H0:Hp} (Pv:Nat->List V->St->Hp->Prop) (hn:n≤sizeLine) (h0:Pv 0 [] σ0 H0)
 (hs:∀ i ys O H,i<n->Pv i ys O H->∀ N:List V->St->Hp->Prop,(∀ ys' σ' H',Pv (i+1) ys' σ' H'->ys'.length≤ys.length+1->N ys' σ' H')->g (.int (lo+i)) O H fun σ2 H2=>tt σ2 H2 fun b H3=>if b=true then te σ2 H3 fun y H4=>N (ys++[y]) σ2 H4 else N ys σ2 H3)
 (hd:∀ ys O H,ys.length≤n->Pv n ys O H->F ys H) :
 ∃ W:Nat->Nat->List V->St->Hp->Prop,(∃ m,W 0 m [] σ0 H0)/\nQ (zZ lo n) g tt te F W:=by
 refine ⟨fun i m ys O H=>m=n-i/\i≤n/\ys.length≤i/\Pv i ys O H,⟨n,by simp,Nat.zero_le _,Nat.zero_le _,h0⟩,?_⟩
 rintro i m ys O H ⟨rfl,hi,hl,p⟩
 by_cases hlt:i<n
 ·refine .inr ⟨hlt,by omega,fun x H' y=>?_⟩
  obtain ⟨e,y⟩:=y
  subst e y
  exact hs i ys O _ hlt p (fun ys' σ' H'=>∃ m',m'<n-i/\m'=n-(i+1)/\i+1≤n/\ys'.length≤i+1/\Pv (i+1) ys' σ' H') fun ys' σ' H' q hl'=>⟨n-(i+1),by omega,rfl,hlt,by omega,q⟩
 ·have e:i=n:=by omega
  subst e
  exact .inl ⟨Nat.le_refl _,hd ys O H hl p⟩
end L2
namespace L2
open PySem PySem.Spec PyProof.Rows PySem.SeqAt
section
variable {X:Cx}
end
section
variable {X:Cx} {Z:List (Addr×Obj)} {O:St} {H:Hp} {s:Shared} {h':Heap}
theorem Eb {prog:Program} {w:World} {A:Around} (hh:A.handled=none) (it l:Addr) (hne:l≠it) (items:Array Value) (i0:Nat) (h0:items.size≤i0):Draws prog w A it [it,l] 0 (fun i v=>False) (fun i h=>h.IsListIter it l i0/\h.IsList l items) where
 live:=fun _ _ st=>let ⟨o,ho,_⟩:=st.1;⟨o,ho⟩
 frame:=fun _ _ _ st hk=>⟨st.1.at fun o e=>hk it (by simp) o e,st.2.at fun o e=>hk l (by simp) o e⟩
 item:=fun i s Q E hi=>absurd hi (Nat.not_lt_zero _)
 done:=fun s Q E st hE=>wpAny_nextOf_list_end hh st.1 st.2 (by simp [h0]) hE
def HX (K:PySem.W.Frag) (a:Addr):It:=
 ⟨fun i H=>∃ xs x,aQ K H a xs/\xs[i]?=some x,fun i H v H'=>∃ p x,H p=none/\v=.ref p/\(∀ xs,aQ K H a xs->xs[i]?=some x)/\H'=upd H p (.tup [.int i,x]),fun i H=>∃ xs,aQ K H a xs/\xs.length≤i⟩
theorem ud {P:Program} {w:World} {K:PySem.W.Frag} {elts:List Expr} {k1} {pos:Pos} (a e it:Addr) (hei:e≠it):Turn P w K (.Tuple elts k1 pos) (HX K a) [e,it] e (fun i h=>(∃ old,IsEnum h e it i old)/\h.IsListIter it a i) where
 mem:=by simp
 obj:=fun i h st b hb=>by
  obtain ⟨⟨old,h1⟩,o,h2,_,h3⟩:=st
  rcases List.mem_cons.mp hb with rfl|hb
  ·exact ⟨_,h1,fun v z=>by cases (show Data.fields _=Data.cell v from z)⟩
  ·cases List.mem_singleton.mp hb
   exact ⟨o,h2,fun v z=>by rw [h3] at z;cases z⟩
 keep:=fun i h h' st k=>⟨let ⟨old,h1⟩:=st.1;⟨old,k e (by simp) _ h1⟩,st.2.at fun o z=>k it (by simp) o z⟩
 item:=by
  intro X hP hw hK hc i Z s O H E I hf st hg
  subst hP hw hK
  obtain ⟨xs,x,hq,hx⟩:=hg
  obtain ⟨its,rv,p,hz⟩:=I.list hq
  obtain ⟨u,hu,ru⟩:=rv.get hx
  obtain ⟨⟨old,he⟩,ht⟩:=st
  have hit:s.heap.IsList a its.toArray:=p.isList
  have han:a≠it:=by
   rintro rfl
   obtain ⟨o1,h1,h2,_⟩:=id hit
   obtain ⟨o2,h3,h4,_⟩:=id ht
   rw [h1] at h3;cases h3
   rw [h2] at h4;exact absurd (Value.type.inj h4) (by decide)
  have hae:a≠e:=by
   rintro rfl
   obtain ⟨o1,h1,h2,_⟩:=id hit
   rw [he] at h1;cases h1
   exact absurd (Value.type.inj h2) (by decide)
  have D:=Draws.list (prog:=X.prog) (w:=X.w) (A:=X.A.in1) (I.ok.hd hc) it a han its.toArray
  have hlt:i<its.toArray.size:=by
   have:=(List.getElem?_eq_some_iff.mp hx).1
   have hl:=rv.length
   rw [List.size_toArray];omega
  refine wpAny_pyNext_enum_itemD D he ⟨ht,hit⟩ hlt hei (by simp [hei,Ne.symm hae]) fun y g tk hy ho hst' htup hsz hk=>?_
  have e1:y=u:=by
   have:its.toArray[i]?=some u:=by simpa using hu
   rw [this] at hy;exact (Option.some.inj hy).symm
  subst e1
  refine ⟨_,rfl,?_⟩
  have helt:e<s.heap.objs.size:=Heap.lt_size he
  have hilt:it<s.heap.objs.size:=let ⟨o,z,_⟩:=ht;Heap.lt_size z
  have I1:Inv X Z O (upd H s.heap.objs.size (.tup [.int i,x])) { s with heap:=g,toks:=tk+1 }:=by
   refine I.turnLaid (fp:=[e,it]) (fun b o hb z=>hk b o (fun q=>hb (by simp [q])) (fun q=>hb (by simp [q])) z) (fun b hb=>?_) hf (Nat.le_refl _) ?_
   ·rcases List.mem_cons.mp hb with rfl|hb
    ·exact ⟨_,ho⟩
    ·cases List.mem_singleton.mp hb
     exact let ⟨o,z,_⟩:=hst'.1;⟨o,z⟩
   ·exact ⟨by show 2≤sizeLine;decide,[.int i tk,y],.cons ⟨_,rfl⟩ (.cons ru .nil),⟨_,htup,rfl,_,rfl⟩⟩
  have hno:∀ b∈[e,it],(upd H s.heap.objs.size (.tup [.int i,x])) b=none:=fun b hb=>by
   have hbl:b<s.heap.objs.size:=by
    rcases List.mem_cons.mp hb with rfl|hb
    ·exact helt
    ·cases List.mem_singleton.mp hb;exact hilt
   rw [aA (Nat.ne_of_lt hbl)]
   exact (hf b hb).1
  refine wpAny_letOwnedTupleGo_enum ho fun g2 he2 hs2=>?_
  obtain ⟨f0,f1,f2,f3,f4,f5⟩:=hf e (by simp)
  refine ⟨.ref s.heap.objs.size,_,I1.turned (t':=tk+1) (fun b o hb z=>(hs2.2 b hb).trans z) (hno e (by simp)) f1 f3 f4 f5,rfl,⟨s.heap.objs.size,x,I.hok.fresh (Nat.le_refl _),rfl,fun ys hy=>by rw [I.list_inj hy hq];exact hx,rfl⟩,⟨⟨_,by simpa using he2⟩,?_⟩,hno⟩
  exact hst'.1.at fun o z=>(hs2.2 it (Ne.symm hei)).trans z
 done:=by
  intro X hP hw hK hc i Z s O H E I hf st hg
  subst hP hw hK
  obtain ⟨xs,hq,hx⟩:=hg
  obtain ⟨its,rv,p,hz⟩:=I.list hq
  obtain ⟨⟨old,he⟩,ht⟩:=st
  obtain ⟨f0,f1,f2,f3,f4,f5⟩:=hf it (by simp)
  have hl:=rv.length
  have hit:s.heap.IsList a its.toArray:=p.isList
  have han:a≠it:=by
   rintro rfl
   obtain ⟨o1,h1,h2,_⟩:=id hit
   obtain ⟨o2,h3,h4,_⟩:=id ht
   rw [h1] at h3;cases h3
   rw [h2] at h4;exact absurd (Value.type.inj h4) (by decide)
  have D:=Eb (prog:=X.prog) (w:=X.w) (A:=X.A.in1) (I.ok.hd hc) it a han its.toArray i (by rw [List.size_toArray];omega)
  exact wpAny_pyNext_enum_endD D he ⟨ht,hit⟩ fun h' ex=>⟨rfl,I.turned (t':=s.toks) (fun b o hb e=>ex b o hb e) f0 f1 f3 f4 f5⟩
 self:=fun _ _ _ _ _ st h=>let ⟨_,he⟩:=st.1;wpAny_pyIter_enum he h
def Ey (K:PySem.W.Frag) (ta:TA):TI:=fun O H R=>ta O H fun vs H1=>∃ a,vs=[.ref a]/\(∃ xs,aQ K H1 a xs)/\R (HX K a) H1
theorem yd {elts:List Expr} {k1} {pt:Pos} {a:Expr} {ta:TA} {p pos:Pos} (hg:Gl X "enumerate") (hm:X.mg "enumerate" = none) (hv:bootBuiltins "enumerate" = some (.type "enumerate")) (ha:PA X [a] ta) (hs:starEach [a] X.env=[(false,eval a X.env)]:=by rfl):PI X (.Tuple elts k1 pt) (.Call (.Name "enumerate" p) [a] [] pos) (Ey X.K ta):=by
 intro Z s O H R I h
 refine Call_ (j7 I hg hm hv (PyProof.Rows.callWith_type1 (cj (ha pos Z s O H _ I h) fun us s1 ⟨vs,H1,I1,r1,q1⟩=>?_) hs rfl))
 obtain ⟨l,rfl,⟨xs,hq⟩,q⟩:=q1
 obtain ⟨u,rfl,e⟩:=vals1 r1
 cases (show u=Value.ref l from e)
 obtain ⟨its,rv,hp,hz⟩:=I1.list hq
 refine call_enumerate_list hp.isList fun g he hi _ hk=>wpAny_pyIter_enum he ?_
 refine ⟨s1.heap.objs.size+1,[s1.heap.objs.size+1,s1.heap.objs.size],_,_,H1,rfl,I1.kept (t':=s1.toks) hk,ud l _ s1.heap.objs.size (Nat.succ_ne_self _),⟨⟨_,he⟩,hi⟩,fun b hb=>?_,q⟩
 rcases List.mem_cons.mp hb with rfl|hb
 ·exact I1.fpOk (Nat.le_succ _) (I1.hok.fresh (Nat.le_succ _))
 ·cases List.mem_singleton.mp hb
  exact I1.fpOk (Nat.le_refl _) (I1.hok.fresh (Nat.le_refl _))
end
end L2
namespace L2
open PySem PySem.Spec PyProof.Rows PySem.SeqAt PySem.Builtin PySem.Builtin.Str
section
variable {X:Cx}
end
section
variable {prog:Program} {w:World} {A:Around} {E:Value->Shared->Prop} {s:Shared} {l:Addr}
end
section
variable {X:Cx} {pos:Pos}
end
end L2
namespace L2
open PySem PySem.Spec PyProof.Rows PySem.SeqAt PySem.Builtin
variable {X:Cx} {pos:Pos}
def Hi (i j l:Nat) (ta:TA):TS:=fun D O H=>ta O H fun vs H1=>∃ v w u,vs=[v,w,u]/\D.nx (((O.set l (some u)).set j (some w)).set i (some v)) H1
theorem BJ {i j l:Nat} {x y z:Str} {a b c:Expr} {ta:TA} {px py pz pt:Pos} {kt k2 pt2} (hc:X.calm=true) (hN:X.N.Nodup) (hi:X.N[i]?=some x) (hj:X.N[j]?=some y) (hl:X.N[l]?=some z)
 (hx:X.env.scope.names.lookup x=some .local) (hy:X.env.scope.names.lookup y=some .local) (hz:X.env.scope.names.lookup z=some .local) (ha:PA X [a,b,c] ta)
 (hw:swappedStores [.Tuple [.Name x px,.Name y py,.Name z pz] kt pt] (.Tuple [a,b,c] k2 pt2) X.env=pure (some [x,y,z]))
 (hs:swapsWithSole [.Tuple [.Name x px,.Name y py,.Name z pz] kt pt] (.Tuple [a,b,c] k2 pt2) pos.line X.env=pure false:=by rfl) :
 PS X (.Assign [.Tuple [.Name x px,.Name y py,.Name z pz] kt pt] (.Tuple [a,b,c] k2 pt2) pos) (Hi i j l ta):=by
 intro Z s O H D I h
 rw [exec_Assign_arm]
 refine wpAny_bind (wpAny_standAt ?_)
 rw [hs]
 refine wpAny_bind (wpAny_pure ?_)
 rw [if_neg (by decide)]
 refine wpAny_bind (Tuple_ (cj (ha _ Z s O H _ I h) fun us s1 ⟨vs,H1,I1,r1,q1⟩=>?_))
 obtain ⟨v,w,u,e1,q1⟩:=q1
 subst e1
 obtain ⟨u1,u2,u3,rfl,rv,rw',ru⟩:∃ u1 u2 u3,us=[u1,u2,u3]/\RelV v u1/\RelV w u2/\RelV u u3:=by
  cases r1 with
  | cons p q=>
    cases q with
    | cons p' q'=>
      cases q' with
      | cons p'' q''=>
        cases q''
        exact ⟨_,_,_,rfl,p,p',p''⟩
 refine wpAny_newObj_type ?_ (by show 3≤sizeLine;decide)
 have I2:Inv X Z O H1 { s1 with heap:=s1.heap.push { cls:=.type "tuple",data:=.seq [u1,u2,u3].toArray } }:=I1.kept (t':=s1.toks) fun b o e=>Heap.get?_push_of_some _ e
 rw [hw]
 refine wpAny_bind (wpAny_pure ?_)
 show wpAny (model X.prog X.w) X.A (do rule "assign.swapped-stores";let items ← unpackItems (.ref s1.heap.objs.size) 3 none;assignInOrder [fun v=>bindName X.env z v,fun v=>bindName X.env y v,fun v=>bindName X.env x v] items.reverse;pure Flow.next) _ _ _
 refine wpAny_bind (wpAny_rule (wpAny_bind (unpackItems_tuple (items:=#[u1,u2,u3]) (I.ok.hd hc) (IsTup.new s1.heap _) fun h' hx'=>?_)))
 have I3:=I2.kept (h':=h') (t':=s1.toks) fun b o e=>hx' b o (Nat.ne_of_lt (Heap.lt_size e)) e
 show wpAny _ _ (assignInOrder [fun v=>bindName X.env z v,fun v=>bindName X.env y v,fun v=>bindName X.env x v] [u3,u2,u1] >>= fun _=>pure Flow.next) _ _ _
 refine wpAny_bind (assignInOrder_cons (wpAny_bindName (eX I3 hN hl (.inl hz) ru (fun s2 I4=>?_) (.inr hz))))
 refine assignInOrder_cons (wpAny_bindName (eX I4 hN hj (.inl hy) rw' (fun s3 I5=>?_) (.inr hy)))
 refine assignInOrder_cons (wpAny_bindName (eX I5 hN hi (.inl hx) rv (fun s4 I6=>assignInOrder_nil (wpAny_pure ?_)) (.inr hx)))
 exact ⟨_,H1,I6,q1⟩
end L2
namespace L2
open PySem PySem.Spec PyProof.Rows PySem.SeqAt PySem.W Builtin.ObjectAttr
end L2
namespace L2
open PySem PySem.Spec PyProof.Rows PySem.SeqAt PySem.W
variable {X:Cx}
end L2
namespace L2
open PySem PySem.Spec PyProof.Rows
def zB (J:It) (g:TG) (tt:TT) (te:TE) (F:List V->St->Hp->Prop) (W:Nat->Nat->List V->St->Hp->Prop):Prop:=
 ∀ i m ys O H,W i m ys O H->(J.stop i H/\F ys O H)∨(J.go i H/\ys.length<sizeLine/\∀ x H1,J.yld i H x H1->g x O H1 fun σ2 H2=>tt σ2 H2 fun b H3=>
   if b=true then te σ2 H3 fun y H4=>∃ m',m'<m/\W (i+1) m' (ys++[y]) σ2 H4 else ∃ m',m'<m/\W (i+1) m' ys σ2 H3)
def sJ (J:It) (g:TG) (tt:TT) (wi2:TI) (g2:TG) (tt2:TT) (te:TE) (F:List V->Hp->Prop) (W:Nat->Nat->List V->St->Hp->Prop):Prop:=
 ∀ i m ys O H,W i m ys O H->(J.stop i H/\F ys H)∨(J.go i H/\∀ x H1,J.yld i H x H1->g x O H1 fun σ2 H2=>tt σ2 H2 fun b H3=>
   if b=true then wi2 σ2 H3 fun J2 H4=>∃ W2:Nat->Nat->List V->St->Hp->Prop,(∃ m2,W2 0 m2 ys σ2 H4)/\zB J2 g2 tt2 te (fun ys' σ' H'=>∃ m',m'<m/\W (i+1) m' ys' σ' H') W2
   else ∃ m',m'<m/\W (i+1) m' ys σ2 H3)
theorem qK (elt:Expr) (g0:Comprehension) (target iter:Expr) (ifs:List Expr) (scope:Scope) (pos:Pos) (it acc:Value) (env:Env) :
 compTurn (.ListComp elt [g0,⟨target,iter,ifs,0⟩] scope pos) 1 it acc env=(do
  standAt iter.pos
  match ← pyNext it with
  |none=>pure (.done .next)
  | some v=>
    letOwnedTupleGo target it v
    assign target env v
    let mut ok:=true
    for c in ifs do
     if ok then ok ← isTrue c env (eval c env)
    if ok then
     (do let _ ← call (.builtin "list.append") [acc,← eval elt env])
    again (.compLoop (.ListComp elt [g0,⟨target,iter,ifs,0⟩] scope pos) 1 it acc env)):=by rfl
theorem pQ (elt target iter:Expr) (ifs:List Expr) (target2 iter2:Expr) (ifs2:List Expr) (scope:Scope) (pos:Pos) (it acc:Value) (env:Env) :
 compTurn (.ListComp elt [⟨target,iter,ifs,0⟩,⟨target2,iter2,ifs2,0⟩] scope pos) 0 it acc env=(do
  standAt iter.pos
  match ← pyNext it with
  |none=>pure (.done .next)
  | some v=>
    letOwnedTupleGo target it v
    assign target env v
    let mut ok:=true
    for c in ifs do
     if ok then ok ← isTrue c env (eval c env)
    if ok then
     let x ← eval iter2 env
     standAt iter2.pos
     let x ← foldedSetIterable iter2 env x
     let _ ← runOwn (.compStart (.ListComp elt [⟨target,iter,ifs,0⟩,⟨target2,iter2,ifs2,0⟩] scope pos) 1 (← holding [x] (pyIter x)) acc env) env
    again (.compLoop (.ListComp elt [⟨target,iter,ifs,0⟩,⟨target2,iter2,ifs2,0⟩] scope pos) 0 it acc env)):=by rfl
theorem j4 {prog:Program} {w:World} {A:Around} {R:Result->Shared->Prop} {s:Shared} {elt g0 target iter ifs scope pos it acc env}
 (h0:codeAny (model prog w) A (.compLoop (.ListComp elt [g0,⟨target,iter,ifs,0⟩] scope pos) 1 it acc env) R s)
 (h:wpAny (model prog w) A (pyIter it) (fun it' s'=>codeAny (model prog w) A (.compLoop (.ListComp elt [g0,⟨target,iter,ifs,0⟩] scope pos) 1 it' acc env) R s')
  (notedBy (model prog w) A env fun x s'=>R (.error x) s') s) :
 codeAny (model prog w) A (.compStart (.ListComp elt [g0,⟨target,iter,ifs,0⟩] scope pos) 1 it acc env) R s:=by
 refine codeAny_of_tree ?_
 show wpAny _ _ ((compStart (.ListComp elt [g0,⟨target,iter,ifs,0⟩] scope pos) 1 it acc env).onRaise (fun x=>do noteFrame x env;standAt theWindowsPlace)) _ _ s
 refine wpAny_notedAt ?_
 unfold compStart
 show wpAny _ _ (ask >>= _) _ _ s
 refine wpAny_bind (wpAny_askSetting (wpAny_ite ?_))
 split
 ·first
   |exact wpAny_bind (wpAny_pure (wpAny_pure (And.intro rfl h0)))
   |exact wpAny_pure (And.intro rfl h0)
 ·first
   |exact wpAny_bind (wpAny_rule (wpAny_bind (wpAny_standAt (wpAny_bind (wpAny_mono h (fun it' s' h'=>wpAny_pure (And.intro rfl h')) fun _ _ x=>x)))))
   |(refine wpAny_bind (wpAny_rule ?_);show wpAny _ _ (standAt iter.pos >>= _) _ _ s;exact wpAny_bind (wpAny_standAt (wpAny_bind (wpAny_mono h (fun it' s' h'=>wpAny_pure (And.intro rfl h')) fun _ _ x=>x))))
theorem uf {Y:Cx} {ps:List (Addr×Obj)} {acc it:Addr} {fp:List Addr} {tn:Nat->Heap->Prop} {J:It} {g:TG} {tt:TT} {te:TE} {F:List V->St->Hp->Prop}
 {elt tg iter:Expr} {g0:Comprehension} {ifs:List Expr} {scope:Scope} {pos:Pos} {R:Result->Shared->Prop} (W:Nat->Nat->List V->St->Hp->Prop) (turn:zB J g tt te F W) (T:Turn Y.prog Y.w Y.K tg J fp it tn)
 (hg:PG Y tg g) (hc:jw Y ifs tt) (he:PE Y elt te) (hcalm:Y.calm=true) (hx:∀ v s,¬ Y.xe v s)
 (hfp:∀ b∈fp,b≠Y.env.locals/\b∉Y.fs/\(b∈Y.ex∨Y.s₀.heap.objs.size≤b)/\(∀ x c,Y.env.cells.lookup x=some c->c≠b)/\(∀ p∈Y.pn++ps,p.1≠b)/\b≠acc)
 (hacc:acc≠Y.env.locals/\acc∉Y.fs/\(acc∈Y.ex∨Y.s₀.heap.objs.size≤acc)/\(∀ x c,Y.env.cells.lookup x=some c->c≠acc)/\∀ p∈Y.pn++ps,p.1≠acc)
 (hR:∀ s' σ' H' ys us k,Inv Y ((acc,bz us k)::ps) σ' H' s'->Vals ys us->F ys σ' H'->R (.ok .next) s')
 {s:Shared} {O:St} {H:Hp} {m:Nat} {ys0:List V} {us0:List Value} {k0:Nat} (rv0:Vals ys0 us0) (I:Inv Y ((acc,bz us0 k0)::ps) O H s) (st:tn 0 s.heap) (fr:∀ b∈fp,H b=none) (w0:W 0 m ys0 O H) :
 codeAny (model Y.prog Y.w) Y.A (.compLoop (.ListComp elt [g0,⟨tg,iter,ifs,0⟩] scope pos) 1 (.ref it) (.ref acc) Y.env) R s:=by
 refine codeAny_loop rfl (fun n s'=>∃ i ys us k σ' H',Vals ys us/\Inv Y ((acc,bz us k)::ps) σ' H' s'/\tn i s'.heap/\(∀ b∈fp,H' b=none)/\W i n ys σ' H') (fun n s3 hI=>?_) m ⟨0,ys0,us0,k0,O,H,rv0,I,st,fr,w0⟩
 obtain ⟨i,ys,us,k,σ3,H3,rv,I3,st3,fr3,w3⟩:=hI
 show wpAny _ Y.A ((compTurn (.ListComp elt [g0,⟨tg,iter,ifs,0⟩] scope pos) 1 (.ref it) (.ref acc) Y.env).onRaise (fun x=>do noteFrame x Y.env;theTreesLotGoes x)) _ _ s3
 refine wpAny_noted ?_
 rw [qK]
 have fpk:∀ {H':Hp},(∀ b∈fp,H' b=none)->∀ b∈fp,jx Y ((acc,bz us k)::ps) H' b:=fun hn b hb=>
  ⟨hn b hb,(hfp b hb).1,(hfp b hb).2.1,(hfp b hb).2.2.1,(hfp b hb).2.2.2.1,fun p hp'=>by
   rcases List.mem_append.mp hp' with z|z
   ·exact (hfp b hb).2.2.2.2.1 p (List.mem_append_left _ z)
   ·rcases List.mem_cons.mp z with rfl|z
    ·exact Ne.symm (hfp b hb).2.2.2.2.2
    ·exact (hfp b hb).2.2.2.2.1 p (List.mem_append_right _ z)⟩
 have fp1:=fpk fr3
 refine wpAny_bind (wpAny_standAt (wpAny_bind ?_))
 rcases turn i n ys σ3 H3 w3 with ⟨stop,qn⟩|⟨go,hz,step⟩
 ·refine wpAny_mono (T.done Y rfl rfl rfl hcalm i _ s3 σ3 H3 (fun _ _=>False) I3 fp1 st3 stop) (fun r s4 ⟨hr,I4⟩=>?_) (fun _ _ z=>z.elim)
  subst hr
  exact wpAny_pure (hR s4 σ3 H3 ys us k I4 rv qn)
 ·refine wpAny_mono (T.item Y rfl rfl rfl hcalm i _ s3 σ3 H3 (fun _ _=>False) I3 fp1 st3 go) (fun r s4 ⟨u,hr,h4⟩=>?_) (fun _ _ z=>z.elim)
  subst hr
  refine wpAny_bind (wpAny_mono h4 (fun _ s5 ⟨x,H5,I5,r5,y5,st5,fr5⟩=>?_) (fun _ _ z=>z.elim))
  have fp5:=fpk fr5
  have I5':=I5.pinned fp5 (T.obj _ _ st5)
  refine wpAny_bind (wpAny_mono (hg _ s5 σ3 H5 x u _ I5' r5 (step x H5 y5)) (fun _ s6 ⟨σ6,H6,I6,q6⟩=>?_) (fun v s z=>(hx v s z).elim))
  refine wpAny_bind (wpAny_mono (hc _ s6 σ6 H6 _ I6 q6) (fun ok s7 ⟨H7,I7,q7⟩=>?_) (fun v s z=>(hx v s z).elim))
  have again:∀ {s8:Shared} {σ8:St} {H8:Hp},Inv Y (((acc,bz us k)::ps)++il fp s5.heap) σ8 H8 s8->tn (i+1) s8.heap/\∀ b∈fp,H8 b=none:=fun {s8 σ8 H8} I8=>
   ⟨T.keep _ _ _ st5 fun b hb o e=>(I8.pin (b,o) (List.mem_append_right _ (List.mem_append_right _ (cI hb e)))).1,fun b hb=>by
    obtain ⟨o,e,d⟩:=T.obj _ _ st5 b hb
    exact (I8.pin (b,o) (List.mem_append_right _ (List.mem_append_right _ (cI hb e)))).2.1⟩
  cases ok with
  | false=>
    rw [if_neg Bool.false_ne_true] at q7
    obtain ⟨m',hm,w7⟩:=q7
    obtain ⟨t1,t2⟩:=again I7
    exact wpAny_pure ⟨rfl,m',hm,i+1,ys,us,k,σ6,H7,rv,I7.unpinned,t1,t2,w7⟩
  | true=>
    rw [if_pos rfl] at q7
    refine wpAny_bind (wpAny_bind (wpAny_mono (he _ s7 σ6 H7 _ I7 q7) (fun y s8 ⟨yv,H8,I8,r8,m',hm,w8⟩=>?_) (fun v s z=>(hx v s z).elim)))
    obtain ⟨t1,t2⟩:=again I8
    obtain ⟨e8,n8,l8,f8,d8⟩:=I8.pin (acc,bz us k) (List.mem_append_right _ (List.mem_append_left _ List.mem_cons_self))
    have hlen:=rv.length
    have hz':us.toArray.size≤sizeLine:=by rw [List.size_toArray];omega
    refine wpAny_bind (call_meets PySem.F.slot_list_append ⟨_,e8,rfl⟩ PySem.F.entry_list_append (PySem.F.args_list_append_2 _ _) (PySem.list_append acc us.toArray k y hz') ⟨e8,?_⟩)
    have q:=PySem.IsL.update e8 (fun z=>z.push y)
    have I9:Inv Y ps σ6 H8 s8:=I8.pins_of fun p hp=>I8.pin p (List.mem_append_right _ (List.mem_append_left _ (List.mem_cons_of_mem _ hp)))
    have I10:=I9.turned (t':=s8.toks) (it:=acc) (h':=s8.heap.update acc (Obj.mapSeq fun z=>z.push y)) (fun b o hb e=>(Heap.get?_update_other s8.heap _ (Ne.symm hb)).trans e) n8 hacc.1 hacc.2.2.1 hacc.2.2.2.1 hacc.2.2.2.2
    have e':(us.toArray.push y)=(us++[y]).toArray:=by simp
    rw [e'] at q
    obtain ⟨k9,ek⟩:∃ k9,k9=(if ((us++[y]).toArray.size == us.toArray.size)=true then k else k+1):=⟨_,rfl⟩
    rw [← ek] at q
    have I11:=I10.pins_of (pins':=(acc,bz (us++[y]) k9)::ps) fun p hp=>by
     rcases List.mem_cons.mp hp with rfl|hp
     ·exact ⟨q,n8,hacc.1,hacc.2.1,fun v z=>by cases z⟩
     ·exact I10.pin p (List.mem_append_right _ hp)
    refine wpAny_pure (wpAny_pure ⟨rfl,m',hm,i+1,ys++[yv],us++[y],k9,σ6,H8,rv.append (.cons r8 .nil),I11,T.keep _ _ _ t1 fun b hb o e=>?_,t2,w8⟩)
    exact (Heap.get?_update_other s8.heap _ (hfp b hb).2.2.2.2.2.symm).trans e
theorem tK {X:Cx} {scope:Scope} {N':List Str} {cl:List (Str×Addr)} {C acc it:Addr} {s₂:Shared} {H₂:Hp} {fp:List Addr} {tn:Nat->Heap->Prop} {J:It} {g g2:TG} {tt tt2:TT} {wi2:TI} {te:TE} {F:List V->Hp->Prop}
 {elt tg iter tg2 iter2:Expr} {ifs ifs2:List Expr} {pos:Pos} {R:Result->Shared->Prop} (W:Nat->Nat->List V->St->Hp->Prop) (turn:sJ J g tt wi2 g2 tt2 te F W) (T:Turn X.prog X.w X.K tg J fp it tn)
 (hg:PG (aF X scope N' cl C s₂ H₂ fp) tg g) (hc:jw (aF X scope N' cl C s₂ H₂ fp) ifs tt) (hi2:PI (aF X scope N' cl C s₂ H₂ fp) tg2 iter2 wi2) (hs2:∀ x,foldedSetIterable iter2 (compEnvC scope cl C X.env) x=pure x) (hg2:PG (aF X scope N' cl C s₂ H₂ fp) tg2 g2) (hc2:jw (aF X scope N' cl C s₂ H₂ fp) ifs2 tt2) (he:PE (aF X scope N' cl C s₂ H₂ fp) elt te) (hcalm:X.calm=true)
 (hfp:∀ b∈fp,b≠C/\b∉frs X.stack/\(∀ x c,cl.lookup x=some c->c≠b)/\b≠acc) (hacc:acc≠C/\acc∉frs X.stack/\(∀ x c,cl.lookup x=some c->c≠acc)/\s₂.heap.objs.size≤acc)
 (hR:∀ s' σ' H' ys us k,Inv (aF X scope N' cl C s₂ H₂ fp) [(acc,bz us k)] σ' H' s'->Vals ys us->F ys H'->R (.ok .next) s')
 {s:Shared} {O:St} {H:Hp} {m:Nat} (I:Inv (aF X scope N' cl C s₂ H₂ fp) [(acc,bz [] 0)] O H s) (st:tn 0 s.heap) (fr:∀ b∈fp,H b=none) (w0:W 0 m [] O H) :
 codeAny (model X.prog X.w) X.A (.compLoop (.ListComp elt [⟨tg,iter,ifs,0⟩,⟨tg2,iter2,ifs2,0⟩] scope pos) 0 (.ref it) (.ref acc) (compEnvC scope cl C X.env)) R s:=by
 refine codeAny_loop rfl (fun n s'=>∃ i ys us k σ' H',Vals ys us/\Inv (aF X scope N' cl C s₂ H₂ fp) [(acc,bz us k)] σ' H' s'/\tn i s'.heap/\(∀ b∈fp,H' b=none)/\W i n ys σ' H') (fun n s3 hI=>?_) m ⟨0,[],[],0,O,H,.nil,I,st,fr,w0⟩
 obtain ⟨i,ys,us,k,σ3,H3,rv,I3,st3,fr3,w3⟩:=hI
 show wpAny _ X.A ((compTurn (.ListComp elt [⟨tg,iter,ifs,0⟩,⟨tg2,iter2,ifs2,0⟩] scope pos) 0 (.ref it) (.ref acc) (compEnvC scope cl C X.env)).onRaise (fun x=>do noteFrame x (compEnvC scope cl C X.env);theTreesLotGoes x)) _ _ s3
 refine wpAny_noted ?_
 rw [pQ]
 have fpk:∀ {Z:List (Addr×Obj)} {H':Hp},(∀ p∈Z,p.1=acc∨p.1∈([]:List Addr))->(∀ b∈fp,H' b=none)->∀ b∈fp,jx (aF X scope N' cl C s₂ H₂ fp) Z H' b:=fun hp hn b hb=>
  ⟨hn b hb,(hfp b hb).1,(hfp b hb).2.1,.inl hb,(hfp b hb).2.2.1,fun p hp'=>by
   have hp'':p∈([]:List (Addr×Obj))++_:=hp'
   rcases hp p (by simpa using hp'') with z|z
   ·rw [z];exact Ne.symm (hfp b hb).2.2.2
   ·exact (nomatch z)⟩
 have fp1:=fpk (Z:=[(acc,bz us k)]) (fun p hp=>.inl (by simp at hp;rw [hp])) fr3
 refine wpAny_bind (wpAny_standAt (wpAny_bind ?_))
 rcases turn i n ys σ3 H3 w3 with ⟨stop,qn⟩|⟨go,step⟩
 ·refine wpAny_mono (T.done (aF X scope N' cl C s₂ H₂ fp) rfl rfl rfl hcalm i _ s3 σ3 H3 (fun _ _=>False) I3 fp1 st3 stop) (fun r s4 ⟨hr,I4⟩=>?_) (fun _ _ z=>z.elim)
  subst hr
  exact wpAny_pure (hR s4 σ3 H3 ys us k I4 rv qn)
 ·refine wpAny_mono (T.item (aF X scope N' cl C s₂ H₂ fp) rfl rfl rfl hcalm i _ s3 σ3 H3 (fun _ _=>False) I3 fp1 st3 go) (fun r s4 ⟨u,hr,h4⟩=>?_) (fun _ _ z=>z.elim)
  subst hr
  refine wpAny_bind (wpAny_mono h4 (fun _ s5 ⟨x,H5,I5,r5,y5,st5,fr5⟩=>?_) (fun _ _ z=>z.elim))
  have fp5:=fpk (Z:=[(acc,bz us k)]) (fun p hp=>.inl (by simp at hp;rw [hp])) fr5
  have I5':=I5.pinned fp5 (T.obj _ _ st5)
  refine wpAny_bind (wpAny_mono (hg _ s5 σ3 H5 x u _ I5' r5 (step x H5 y5)) (fun _ s6 ⟨σ6,H6,I6,q6⟩=>?_) (fun _ _ z=>z.elim))
  refine wpAny_bind (wpAny_mono (hc _ s6 σ6 H6 _ I6 q6) (fun ok s7 ⟨H7,I7,q7⟩=>?_) (fun _ _ z=>z.elim))
  have again:∀ {s8:Shared} {σ8:St} {H8:Hp} {us8:List Value} {k8:Nat},Inv (aF X scope N' cl C s₂ H₂ fp) ((acc,bz us8 k8)::il fp s5.heap) σ8 H8 s8->Inv (aF X scope N' cl C s₂ H₂ fp) [(acc,bz us8 k8)] σ8 H8 s8/\tn (i+1) s8.heap/\∀ b∈fp,H8 b=none:=fun {s8 σ8 H8 us8 k8} I8=>
   ⟨Inv.unpinned (Z:=[(acc,bz us8 k8)]) I8,T.keep _ _ _ st5 fun b hb o e=>(I8.pin (b,o) (List.mem_append_right _ (List.mem_cons_of_mem _ (cI hb e)))).1,fun b hb=>by
    obtain ⟨o,e,d⟩:=T.obj _ _ st5 b hb
    exact (I8.pin (b,o) (List.mem_append_right _ (List.mem_cons_of_mem _ (cI hb e)))).2.1⟩
  cases ok with
  | false=>
    rw [if_neg Bool.false_ne_true] at q7
    obtain ⟨m',hm,w7⟩:=q7
    obtain ⟨I7',t1,t2⟩:=again I7
    exact wpAny_pure ⟨rfl,m',hm,i+1,ys,us,k,σ6,H7,rv,I7',t1,t2,w7⟩
  | true=>
    rw [if_pos rfl] at q7
    refine wpAny_bind (wpAny_mono (hi2 _ s7 σ6 H7 _ I7 q7) (fun v s8 h8=>?_) (fun _ _ z=>z.elim))
    refine wpAny_bind (wpAny_standAt ?_)
    rw [hs2 v]
    refine wpAny_bind (wpAny_pure ?_)
    refine wpAny_bind (wpAny_holding (wpAny_mono h8 (fun itv s9 h9=>?_) (fun _ _ z=>z.elim)))
    obtain ⟨it2,fp2,tn2,J2,H9,e9,I9,T2,st9,f9,W2,⟨m2,w2⟩,turn2⟩:=h9
    subst e9
    have loop:∀ Q:Flow->Shared->Prop,(∀ s10,(∃ m',m'<n/\∃ i ys us k σ' H',Vals ys us/\Inv (aF X scope N' cl C s₂ H₂ fp) [(acc,bz us k)] σ' H' s10/\tn i s10.heap/\(∀ b∈fp,H' b=none)/\W i m' ys σ' H')->Q .next s10)->
     codeAny (model X.prog X.w) X.A (.compLoop (.ListComp elt [⟨tg,iter,ifs,0⟩,⟨tg2,iter2,ifs2,0⟩] scope pos) 1 (.ref it2) (.ref acc) (compEnvC scope cl C X.env)) (fun r s'=>match r with|.ok f=>Q f s'|.error e=>cameBackBy (model X.prog X.w) X.A (compEnvC scope cl C X.env) (notedBy (model X.prog X.w) X.A (compEnvC scope cl C X.env) fun x s'=>R (.error x) s') e s') s9:=by
     intro Q hQ
     refine uf (Y:=aF X scope N' cl C s₂ H₂ fp) (ps:=il fp s5.heap) W2 turn2 T2 hg2 hc2 he hcalm (fun _ _ z=>z) (fun b hb=>?_) ⟨hacc.1,hacc.2.1,.inr hacc.2.2.2,hacc.2.2.1,fun p hp z=>?_⟩ (fun s' σ' H' ys' us' k' I' rv' q'=>?_) rv I9 st9 (fun b hb=>(f9 b hb).1) w2
     ·obtain ⟨_,a1,a2,a3,a4,a5⟩:=f9 b hb
      refine ⟨a1,a2,a3,a4,fun p hp=>?_,fun z=>?_⟩
      ·rcases List.mem_append.mp hp with y|y
       ·exact a5 p (List.mem_append_left _ y)
       ·exact a5 p (List.mem_append_right _ (List.mem_cons_of_mem _ y))
      ·exact a5 (acc,bz us k) (List.mem_append_right _ List.mem_cons_self) z.symm
     ·have hp':p∈([]:List (Addr×Obj))++il fp s5.heap:=hp
      rw [List.nil_append] at hp'
      obtain ⟨hb,_⟩:=pC hp'
      exact (hfp _ hb).2.2.2 z
     ·obtain ⟨m',hm,w'⟩:=q'
      obtain ⟨I8',t1,t2⟩:=again I'
      exact hQ s' ⟨m',hm,i+1,ys',us',k',σ',H',rv',I8',t1,t2,w'⟩
    refine wpAny_bind (wpAny_runOwn (j4 (loop _ fun s10 q=>?_) (T2.self _ 0 _ _ _ st9 (loop _ fun s10 q=>?_))))
    ·obtain ⟨m',hm,q⟩:=q
     exact wpAny_pure ⟨rfl,m',hm,q⟩
    ·obtain ⟨m',hm,q⟩:=q
     exact wpAny_pure ⟨rfl,m',hm,q⟩
def G7 (wi:TI) (g:TG) (tt:TT) (wi2:TI) (g2:TG) (tt2:TT) (te:TE) (k:Nat) (js:List Nat):TE:=fun O H Q=>wi O H fun J H1=>∃ W:Nat->Nat->List V->St->Hp->Prop,(∃ m,W 0 m [] (dM k js O) H1)/\
 sJ J g tt wi2 g2 tt2 te (fun ys H2=>ys.length≤sizeLine/\∀ p,H2 p=none->Q (.ref p) (upd H2 p (.lst ys))) W
section
variable {X:Cx} {scope:Scope} {own:List Str} {js:List Nat} {N':List Str} {wi wi2:TI} {g g2:TG} {tt tt2:TT} {te:TE} {elt tg iter tg2 iter2:Expr} {ifs ifs2:List Expr} {pos:Pos}
theorem vV {Z:List (Addr×Obj)} {O:St} {H:Hp} {s:Shared} {it:Addr} {fp:List Addr} {tn:Nat->Heap->Prop} {J:It} {cl:List (Str×Addr)} {F:List V->Hp->Prop} {E:Value->Shared->Prop} {RR:Value->Addr->Result->Shared->Prop}
 (S:aJ X scope own js N') (hcalm:X.calm=true) (hg:∀ cl C s₀ H₀ ex,PG (aF X scope N' cl C s₀ H₀ ex) tg g) (hc:∀ cl C s₀ H₀ ex,jw (aF X scope N' cl C s₀ H₀ ex) ifs tt) (hi2:∀ cl C s₀ H₀ ex,PI (aF X scope N' cl C s₀ H₀ ex) tg2 iter2 wi2) (hs2:∀ env x,foldedSetIterable iter2 env x=pure x) (hg2:∀ cl C s₀ H₀ ex,PG (aF X scope N' cl C s₀ H₀ ex) tg2 g2) (hc2':∀ cl C s₀ H₀ ex,jw (aF X scope N' cl C s₀ H₀ ex) ifs2 tt2) (he:∀ cl C s₀ H₀ ex,PE (aF X scope N' cl C s₀ H₀ ex) elt te)
 (hc1:∀ x c,cl.lookup x=some c->X.env.cells.lookup x=some c) (hc2:∀ x,(x,NameKind.free)∈scope.names->∃ c,cl.lookup x=some c)
 (I:Inv X Z O H s) (T:Turn X.prog X.w X.K tg J fp it tn) (st:tn 0 s.heap) (hf:∀ b∈fp,jx X Z H b) (W:Nat->Nat->List V->St->Hp->Prop) {m0:Nat} (w0:W 0 m0 [] (dM own.length js O) H) (turn:sJ J g tt wi2 g2 tt2 te F W)
 (hF:∀ ys H',F ys H'->ys.length≤sizeLine)
 (fin:∀ acc C H' ys s' m,Inv X Z O (upd H' acc (.lst ys)) s'->H' acc=none->s'.heap.Ns C m->(upd H' acc (.lst ys)) C=none->C≠X.env.locals->X.s₀.heap.objs.size≤C->(∀ x c,X.env.cells.lookup x=some c->c≠C)->(∀ p∈X.pn++Z,p.1≠C)->F ys H'->RR (.ref acc) C (.ok .next) s') :
 wpAny (model X.prog X.w) X.A (newList []) (fun acc s₃=>wpAny (model X.prog X.w) X.A (newFunctionEnv scope X.env.globals cl [] X.env.qual none .none (some X.env)) (fun cenv s₄=>
  codeAny (model X.prog X.w) X.A (.compStart (.ListComp elt [⟨tg,iter,ifs,0⟩,⟨tg2,iter2,ifs2,0⟩] scope pos) 0 (.ref it) acc { cenv with scope:=relabel scope X.env }) (RR acc cenv.locals) s₄) E s₃) E s:=by
 refine wpAny_newObj_type (wpAny_newFunctionEnv S.nocell (by intro y hy;simp at hy) (fun h₁ hns₁ hsb₁=>?_) S.kind)
 dsimp only at hns₁ hsb₁ ⊢
 generalize hH2:s.heap.push { cls:=.type "list",dict:=none,data:=.seq ([]:List Value).toArray }=H2 at hns₁ hsb₁ ⊢
 have hC:H2.objs.size=s.heap.objs.size+1:=by rw [← hH2,Heap.size_push]
 have hDC:s.heap.objs.size≠H2.objs.size:=by rw [hC];exact Nat.ne_of_lt (Nat.lt_succ_self _)
 have hCle:s.heap.objs.size≤H2.objs.size:=by rw [hC];exact Nat.le_succ _
 have below:∀ b,b<s.heap.objs.size->b≠H2.objs.size/\b≠s.heap.objs.size:=fun b hb=>⟨by rw [hC];exact Nat.ne_of_lt (Nat.lt_succ_of_lt hb),Nat.ne_of_lt hb⟩
 have old:∀ b o,s.heap.get? b=some o->h₁.get? b=some o:=fun b o e=>hsb₁.extBut b o (below b (Heap.lt_size e)).1 (Heap.get?_push_of_some _ (hH2 ▸ Heap.get?_push_of_some _ e))
 have hacc:h₁.get? s.heap.objs.size=some (bz [] 0):=hsb₁.extBut _ _ hDC (Heap.get?_push_of_some _ (hH2 ▸ Heap.get?_push_size _ rfl))
 generalize hCn:H2.objs.size=C at *
 generalize hAn:s.heap.objs.size=acc at *
 have cellLt:∀ x c,X.env.cells.lookup x=some c->c<acc:=fun x c e=>by
  obtain ⟨v,q⟩:=I.cell x c e
  rw [← hAn];exact q.lt
 have pinLt:∀ p∈X.pn++Z,p.1<acc:=fun p hp=>by rw [← hAn];exact Heap.lt_size (I.pin p hp).1
 have stkLt:∀ b∈frs X.stack,b<acc:=fun b hb=>by
  obtain ⟨_,o,ho,_⟩:=I.stack.mem hb
  rw [← hAn];exact Heap.lt_size ho
 have fpLt:∀ b∈fp,b<acc:=fun b hb=>by
  obtain ⟨o,e,_⟩:=T.obj _ _ st b hb
  rw [← hAn];exact Heap.lt_size e
 have hHC:H C=none:=I.hok.fresh (by rw [hAn];exact hCle)
 have hHA:H acc=none:=I.hok.fresh (by rw [hAn];exact Nat.le_refl _)
 have I1:Inv (aF X scope N' cl C s H fp) [] (dM own.length js O) H { s with heap:=h₁,toks:=s.toks+([]:List (Str×Value)).length }:=
  Inv.comp S I hc1 hc2 (by rw [hAn];exact hCle) hns₁ old (fun b hb=>⟨hf b hb,by rw [hAn];exact fpLt b hb⟩) hHC fun b o e=>(below b (by rw [← hAn];exact Heap.lt_size e)).1
 have I2:Inv (aF X scope N' cl C s H fp) [(acc,bz [] 0)] (dM own.length js O) H { s with heap:=h₁,toks:=s.toks+([]:List (Str×Value)).length }:=I1.pins_of fun p hp=>by
  obtain rfl:p=(acc,bz [] 0):=by simpa using hp
  exact ⟨hacc,hHA,hDC,fun z=>absurd (stkLt acc z) (Nat.lt_irrefl _),fun v z=>by cases z⟩
 have st1:tn 0 h₁:=T.keep _ _ _ st fun b hb o e=>old b o e
 have loop:∀ s₃:Shared,s₃={ s with heap:=h₁,toks:=s.toks+([]:List (Str×Value)).length }->
  codeAny (model X.prog X.w) X.A (.compLoop (.ListComp elt [⟨tg,iter,ifs,0⟩,⟨tg2,iter2,ifs2,0⟩] scope pos) 0 (.ref it) (.ref acc) (compEnvC scope cl C X.env)) (RR (.ref acc) C) s₃:=by
  rintro s₃ rfl
  refine tK W turn T (hg _ _ _ _ _) (hc _ _ _ _ _) (hi2 _ _ _ _ _) (hs2 _) (hg2 _ _ _ _ _) (hc2' _ _ _ _ _) (he _ _ _ _ _) hcalm
   (fun b hb=>⟨(below b (fpLt b hb)).1,fun z=>?_,fun x c e z=>(hf b hb).2.2.2.2.1 x c (hc1 x c e) z,(below b (fpLt b hb)).2⟩)
   ⟨hDC,fun z=>absurd (stkLt acc z) (Nat.lt_irrefl _),fun x c e z=>absurd (cellLt x c (hc1 x c e)) (by rw [z];exact Nat.lt_irrefl _),by rw [hAn];exact Nat.le_refl _⟩ ?_ I2 st1 (fun b hb=>(hf b hb).1) w0
  ·rcases List.mem_cons.mp (I.stkSub b z) with q|q
   ·exact (hf b hb).2.1 q
   ·exact (hf b hb).2.2.1 q
  ·intro s' σ' H' ys us k J' rv q
   obtain ⟨e',n',l',f',d'⟩:=J'.pin (acc,bz us k) (List.mem_append_right _ List.mem_cons_self)
   have n'':H' acc=none:=n'
   obtain ⟨m,hm,_⟩:=J'.loc
   have oldLt:∀ b o,s.heap.get? b=some o->b<acc:=fun b o e=>by rw [← hAn];exact Heap.lt_size e
   have neA:∀ b o,s.heap.get? b=some o->b≠acc:=fun b o e=>Nat.ne_of_lt (oldLt b o e)
   have un:Un (frs X.stack) fp H (upd H' acc (.lst ys)) s.heap s'.heap:=⟨J'.base.keep,J'.base.slot,fun b o e n hx=>by rw [aA (neA b o e)];exact J'.base.free b o e n hx,J'.base.there,
    fun b xs e=>by
     have z:=J'.base.tups b xs e
     rw [aA (aC z n'')];exact z,
    fun b o u e=>by
     have z:=J'.base.frzs b o u e
     rw [aA (aC z n'')];exact z,
    fun b ps e=>by
     obtain ⟨more,z⟩:=J'.base.tbls b ps e
     exact ⟨more,by rw [aA (aC z n'')];exact z⟩⟩
   have hok:iZ X.prog X.w (upd H' acc (.lst ys)) s'.heap:=fun b u e=>by
    by_cases hb:b=acc
    ·subst hb
     rw [aj] at e;cases e
     exact ⟨hF _ _ q,us,k,rv,e'⟩
    ·rw [aA hb] at e
     exact (J'.hok b u e).stay (fun c v _ z=>z) (fun c z=>by rw [aA (aC z n'')];exact z) fun c xs z=>by rw [aA (aC z n'')];exact z
   have IX:Inv X Z O (upd H' acc (.lst ys)) s':=I.call' J'.os un hok J'.bare fun b hb=>⟨(hf b hb).2.2.2.1,(hf b hb).2.1,(hf b hb).2.2.2.2.1,(hf b hb).2.2.2.2.2⟩
   refine fin acc C H' ys s' m IX n'' hm ?_ ?_ ?_ ?_ ?_ q
   ·rw [aA (Ne.symm hDC)];exact J'.free
   ·exact Nat.ne_of_gt (Nat.lt_of_lt_of_le I.lt (by rw [hAn];exact hCle))
   ·exact Nat.le_trans I.sz (by rw [hAn];exact hCle)
   ·exact fun x c e z=>absurd (Nat.lt_of_lt_of_le (cellLt x c e) hCle) (by rw [z];exact Nat.lt_irrefl _)
   ·exact fun p hp z=>absurd (Nat.lt_of_lt_of_le (pinLt p hp) hCle) (by rw [z];exact Nat.lt_irrefl _)
 exact codeAny_compStart_list (loop _ rfl) (T.self _ 0 _ _ _ st1 (loop _ rfl))
theorem qO {i:Nat} {x:Str} {pos' spos:Pos} (S:aJ X scope own js N') (hcalm:X.calm=true) (hN:X.N.Nodup) (hx:X.N[i]?=some x) (hk:X.env.scope.names.lookup x=some .local) (hi:PI X tg iter wi) (hg:∀ cl C s₀ H₀ ex,PG (aF X scope N' cl C s₀ H₀ ex) tg g) (hc:∀ cl C s₀ H₀ ex,jw (aF X scope N' cl C s₀ H₀ ex) ifs tt)
 (hi2:∀ cl C s₀ H₀ ex,PI (aF X scope N' cl C s₀ H₀ ex) tg2 iter2 wi2) (hs2:∀ env x,foldedSetIterable iter2 env x=pure x) (hg2:∀ cl C s₀ H₀ ex,PG (aF X scope N' cl C s₀ H₀ ex) tg2 g2) (hc2':∀ cl C s₀ H₀ ex,jw (aF X scope N' cl C s₀ H₀ ex) ifs2 tt2) (he:∀ cl C s₀ H₀ ex,PE (aF X scope N' cl C s₀ H₀ ex) elt te) (hsw:swapsWith (.ListComp elt [⟨tg,iter,ifs,0⟩,⟨tg2,iter2,ifs2,0⟩] scope pos) (some (.Name x pos')) spos.line X.env=pure true:=by rfl) (hs:∀ x,foldedSetIterable iter X.env x=pure x:=by intro _;rfl) :
 PS X (.Assign [.Name x pos'] (.ListComp elt [⟨tg,iter,ifs,0⟩,⟨tg2,iter2,ifs2,0⟩] scope pos) spos) (yp (G7 wi g tt wi2 g2 tt2 te own.length js) (aU i)):=by
 intro Z s O H D I h
 obtain ⟨cl,hcl,hc1,hc2⟩:=iI (env:=X.env) scope fun y hy hk=>I.ok.has y.1 (S.free y hy hk)
 rw [exec_Assign_Name_used _ _ _ _ hsw]
 refine wpAny_bind (wpAny_standAt (wpAny_bind ?_))
 show wpAny _ X.A (do let _ ← comprehension (.ListComp elt [⟨tg,iter,ifs,0⟩,⟨tg2,iter2,ifs2,0⟩] scope pos) scope X.env _ (newList []) false (eval iter X.env) (some (assign (.Name x pos') X.env))) _ _ s
 refine wpAny_bind (wpAny_mono (wpAny_comprehension_free (use:=some (assign (.Name x pos') X.env)) (Q:=fun _ s'=>SP X Z D .next s') rfl hs hcl S.kind S.names
  (cj (hi Z s O H _ I h) fun v s1 h1=>cj h1 fun itv s2 h2=>?_)) (fun _ s' hq=>wpAny_pure (wpAny_pure hq)) fun _ _ e=>e)
 obtain ⟨it,fp,tn,J,H2,e,I2,T,st2,f2,W,⟨m0,w0⟩,turn⟩:=h2
 subst e
 refine vV (RR:=fun acc C=>compPost (model X.prog X.w) X.A X.xe (some (assign (.Name x pos') X.env)) (fun _ s'=>SP X Z D .next s') acc C) S hcalm hg hc hi2 hs2 hg2 hc2' he hc1 hc2 I2 T st2 f2 W w0 turn (fun ys H' q=>q.1) ?_
 intro acc C H' ys s' m IX na hm hCn hL hz hcn hpn q
 show wpAny _ X.A (assign (.Name x pos') X.env (.ref acc)) _ _ s'
 refine wpAny_assign_Name (jf IX hN hx (.inl hk) (v:=.ref acc) rfl (fun s'' I'' hsb=>?_) (.inr hk))
 obtain ⟨a,hsb,ha⟩:=hsb
 have haC:C≠a:=by
  rcases ha with z|z
  ·rw [z];exact hL
  ·exact fun q=>hcn x a z q.symm
 refine ⟨m,hm.sameBut hsb haC,fun h' hs'=>⟨_,_,?_,q.2 acc na⟩⟩
 exact I''.turned (t':=s''.toks) (it:=C) (fun b o hb e=>(hs'.2 b hb).trans e) hCn hL (.inr hz) hcn hpn
end
theorem k_:∀ {us:List Value} {ns:List Int},IntsAre us ns->Vals (ns.map V.int) us
 |_,_,.nil=>.nil
 |_,_,.cons n t h=>.cons ⟨t,rfl⟩ (k_ h)
section
variable {X:Cx}
end
section
variable {prog:Program} {w:World} {A:Around} {R:Result->Shared->Prop} {I:Addr} {fp wr:List Addr} {n:Nat} {P:Nat->Value->Prop} {St:Nat->Heap->Prop}
end
section
variable {prog:Program} {w:World} {A:Around} {E:Value->Shared->Prop} {s:Shared} {l:Addr} {xs:Array (Int×Tok)}
end
section
variable {X:Cx}
end
section
variable {X:Cx} {scope:Scope} {own:List Str} {js:List Nat} {N':List Str} {wi:TI} {g:TG} {tt:TT} {te:TE} {tf:St->TE} {elt tg iter:Expr} {ifs:List Expr} {pos:Pos}
end
end L2
namespace L2
open PySem PySem.Spec PyProof.Rows PySem.SeqAt
section
variable {prog:Program} {w:World} {A:Around} {E:Value->Shared->Prop} {s:Shared} {l:Addr} {x y z:Value}
end
section
variable {X:Cx} {pos:Pos}
end
section
variable {X:Cx}
end
section
variable {X:Cx} {CX:jG} {k:Nat} {f C:Addr} {fd:FuncData} {ps ks:List Str} {sp:Sp} {E:XK} {m:Str} {pos apos:Pos} {o:Expr} {kws:List Keyword} {ta:TE} {tk:TA} {g:List Value->List Value->List Value} {gV:List V->List V->List V}
end
section
variable {prog:Program} {w:World} {A:Around} {R:Result->Shared->Prop} {I:Addr} {fp wr:List Addr} {G:Array GenState->Array GenState->Prop} {n:Nat} {P:Nat->Value->Prop} {St:Nat->Shared->Prop}
end
section
open PySem.F
variable {prog:Program} {w:World} {A:Around} {E:Value->Shared->Prop} {s:Shared}
end
section
variable {X:Cx}
end
section
variable {prog:Program} {w:World} {A:Around} {E:Value->Shared->Prop} {s:Shared} {K:Type} [DecidableEq K] {knd:KeyKind prog w K}
end
section
variable {X:Cx}
end
def qF (xs:Array Nat):Prop:=∀ i j a b:Nat,i<j->xs[i]?=some a->xs[j]?=some b->a<b
theorem nY {xs:Array Nat} {j:Nat} (R:qF xs):∀ (f lo hi:Nat),lo≤hi->hi≤xs.size->hi-lo≤f->(∀ i a,i<lo->xs[i]?=some a->a<j)->(∀ i a,hi≤i->xs[i]?=some a->j≤a)->
 SetTable.below.go xs j f lo hi≤xs.size/\(∀ i a,i<SetTable.below.go xs j f lo hi->xs[i]?=some a->a<j)/\∀ i a,SetTable.below.go xs j f lo hi≤i->xs[i]?=some a->j≤a
 | 0,lo,hi,h1,h2,h3,a1,a2=>by
   have e:lo=hi:=by omega
   subst e
   exact ⟨h2,a1,a2⟩
 | f+1,lo,hi,h1,h2,h3,a1,a2=>by
   unfold SetTable.below.go
   split
   ·rename_i hlt
    have hm:(lo+hi) / 2<xs.size:=by omega
    have eg:xs[(lo+hi) / 2]?=some (xs.getD ((lo+hi) / 2) j):=by rw [Array.getD_eq_getD_getElem?,Array.getElem?_eq_getElem hm];rfl
    dsimp only
    generalize xs.getD ((lo+hi) / 2) j=y at eg ⊢
    by_cases hs:y<j
    ·simp only [if_pos hs]
     refine nY R f ((lo+hi) / 2+1) hi (by omega) h2 (by omega) (fun i a hi' e=>?_) a2
     by_cases q:i=(lo+hi) / 2
     ·subst q;rw [eg] at e;cases e;exact hs
     ·exact Nat.lt_trans (R i ((lo+hi) / 2) a _ (by omega) e eg) hs
    ·simp only [if_neg hs]
     refine nY R f lo ((lo+hi) / 2) (by omega) (by omega) (by omega) a1 (fun i a hi' e=>?_)
     by_cases q:i=(lo+hi) / 2
     ·subst q;rw [eg] at e;cases e;omega
     ·exact Nat.le_trans (Nat.not_lt.mp hs) (Nat.le_of_lt (R ((lo+hi) / 2) i _ a (by omega) eg e))
   ·rename_i hlt
    have e:lo=hi:=by omega
    subst e
    exact ⟨h2,a1,a2⟩
theorem rP {xs:Array Nat} {j:Nat} (R:qF xs):SetTable.below xs j≤xs.size/\(∀ i a,i<SetTable.below xs j->xs[i]?=some a->a<j)/\∀ i a,SetTable.below xs j≤i->xs[i]?=some a->j≤a:=
 nY R _ _ _ (Nat.zero_le _) (Nat.le_refl _) (by omega) (fun i a h=>by omega) fun i a h e=>by
  have:=(Array.getElem?_eq_some_iff.mp e).1
  omega
theorem xq {α:Type} {xs:Array α} {p:Nat} {x:α} (hp:p≤xs.size) (i:Nat):(SetTable.insertAt xs p x)[i]?=if i<p then xs[i]? else if i=p then some x else xs[i-1]?:=by
 obtain ⟨l⟩:=xs
 simp only [List.size_toArray] at hp
 unfold SetTable.insertAt
 simp only [List.extract_toArray,List.push_toArray,List.append_toArray,List.getElem?_toArray,List.size_toArray]
 simp only [List.extract_eq_drop_take,Nat.sub_zero,List.drop_zero]
 by_cases h1:i<p
 ·rw [if_pos h1,List.append_assoc,List.getElem?_append_left (by rw [List.length_take];omega),List.getElem?_take,if_pos h1]
 ·rw [if_neg h1,List.append_assoc,List.getElem?_append_right (by rw [List.length_take];omega),List.length_take,Nat.min_eq_left hp]
  by_cases h2:i=p
  ·subst h2;rw [if_pos rfl];simp
  ·rw [if_neg h2]
   obtain ⟨k,hk⟩:∃ k,i-p=k+1:=⟨i-p-1,by omega⟩
   rw [hk]
   simp only [List.singleton_append,List.getElem?_cons_succ]
   rw [List.getElem?_take]
   by_cases h3:k<l.length-p
   ·rw [if_pos h3,List.getElem?_drop];congr 1;omega
   ·rw [if_neg h3,eq_comm,List.getElem?_eq_none_iff];omega
theorem qF.ins {xs:Array Nat} {j:Nat} (R:qF xs) (hj:(xs[SetTable.below xs j]? == some j)=false):qF (SetTable.insertAt xs (SetTable.below xs j) j):=by
 obtain ⟨b1,b2,b3⟩:=rP (j:=j) R
 have b4:∀ i a,SetTable.below xs j≤i->xs[i]?=some a->j<a:=fun i a h e=>by
  rcases Nat.lt_or_eq_of_le (b3 i a h e) with z|z
  ·exact z
  ·subst z
   rcases Nat.lt_or_eq_of_le h with q|q
   ·have hb:SetTable.below xs j<xs.size:=Nat.lt_of_lt_of_le q (Nat.le_of_lt (Array.getElem?_eq_some_iff.mp e).1)
    have:=R _ i _ _ q (Array.getElem?_eq_getElem hb) e
    have:=b3 _ _ (Nat.le_refl _) (Array.getElem?_eq_getElem hb)
    omega
   ·rw [← q] at e
    rw [e] at hj
    simp at hj
 intro i k a b hik e1 e2
 rw [xq b1] at e1 e2
 by_cases c1:i<SetTable.below xs j
 ·rw [if_pos c1] at e1
  by_cases c2:k<SetTable.below xs j
  ·rw [if_pos c2] at e2;exact R i k a b hik e1 e2
  ·rw [if_neg c2] at e2
   by_cases c3:k=SetTable.below xs j
   ·rw [if_pos c3] at e2;cases e2;exact b2 i a c1 e1
   ·rw [if_neg c3] at e2
    exact Nat.lt_trans (b2 i a c1 e1) (b4 _ b (by omega) e2)
 ·rw [if_neg c1] at e1
  rw [if_neg (by omega),if_neg (by omega)] at e2
  by_cases c3:i=SetTable.below xs j
  ·rw [if_pos c3] at e1;cases e1;exact b4 _ b (by omega) e2
  ·rw [if_neg c3] at e1
   exact R _ _ a b (by omega) e1 e2
theorem wM {l:List Nat} (h:l.Pairwise (·<·)):qF l.toArray:=fun i j a b hij e1 e2=>by
 rw [List.getElem?_toArray] at e1 e2
 obtain ⟨h1,rfl⟩:=List.getElem?_eq_some_iff.mp e1
 obtain ⟨h2,rfl⟩:=List.getElem?_eq_some_iff.mp e2
 exact List.pairwise_iff_getElem.mp h i j h1 h2 hij
structure oJ (led:Bool) (t:SetTable):Prop where
 rise:qF t.place
 dum:t.dummies=#[]
 led:t.led=led
theorem oJ.fresh {b:Bool}:oJ b (.fresh 0 0 b):=⟨fun i j a c _ e=>by simp [SetTable.fresh] at e,rfl,rfl⟩
theorem oJ.standIn {b:Bool} {t:SetTable} {n:Nat} (g:oJ b t):oJ b (t.standIn n):=
 ⟨fun i j a c h e1 e2=>by
  unfold SetTable.standIn at e1 e2
  dsimp only at e1 e2
  obtain ⟨_,rfl⟩:=Array.getElem?_eq_some_iff.mp e1
  obtain ⟨_,rfl⟩:=Array.getElem?_eq_some_iff.mp e2
  simpa using h,rfl,g.led⟩
theorem oJ.orStandIn {b:Bool} {t:SetTable} {n:Nat} (g:oJ b t):oJ b (t.orStandIn n):=by
 unfold SetTable.orStandIn
 split
 ·exact g
 ·exact g.standIn
theorem oJ.has {b:Bool} {t:SetTable} (g:oJ b t) (j:Nat):SetTable.has t.dummies j=false:=by rw [g.dum];simp [SetTable.has]
theorem oJ.probe {b:Bool} {t:SetTable} (g:oJ b t) {ha:Nat->Int} {h:Int}:∀ (f:Nat) (p:SetTable.Probe) (j:Nat) (d:Option Nat),p.dummy=none->SetTable.probe.go t ha h f p=some (.empty j d)->d=none/\(t.place[SetTable.below t.place j]? == some j)=false
 |0,p,j,d,hp,e=>by simp [SetTable.probe.go] at e
 | f+1,p,j,d,hp,e=>by
   have adv:(t.advance p).dummy=none:=by unfold SetTable.advance;split <;> exact hp
   unfold SetTable.probe.go at e
   have sl:t.slot p.j=if t.place[SetTable.below t.place p.j]? == some p.j then .live (SetTable.below t.place p.j) else .empty:=by
    unfold SetTable.slot
    rw [g.has]
    rfl
   by_cases q:(t.place[SetTable.below t.place p.j]? == some p.j)=true
   ·rw [if_pos q] at sl
    rw [sl] at e
    dsimp only at e
    split at e
    ·cases e
    ·exact g.probe f _ j d adv e
   ·rw [if_neg q] at sl
    rw [sl] at e
    cases e
    exact ⟨hp,by simpa using q⟩
theorem oJ.layNew {b:Bool} {t:SetTable} (g:oJ b t) (es:Array (Int×Value)) (h:Int) (x:Value):oJ b (layNew t es h x).2.1:=by
 unfold PySem.layNew
 split
 ·rename_i sl wd e
  refine oJ.orStandIn ?_
  have:(t.place[SetTable.below t.place sl]? == some sl)=false:=by
   unfold SetTable.freeSlot at e
   split at e
   ·rename_i j d ep
    obtain ⟨rfl,q⟩:=g.probe _ _ j d rfl ep
    cases e
    exact q
   ·cases e
  refine ⟨g.rise.ins this,?_,g.led⟩
  show (if SetTable.has t.dummies sl then _ else t.dummies)=#[]
  rw [g.has,if_neg (by simp),g.dum]
 ·exact g.standIn
theorem oJ.relayAll {b:Bool} {t:SetTable} (g:oJ b t) (es:Array (Int×Value)) (n:Nat):oJ b (relayAll t es n).2.1:=by
 unfold PySem.relayAll
 split
 ·rename_i t' od e
  dsimp only
  split
  ·unfold SetTable.relaid SetTable.laid at e
   rw [Option.bind_eq_bind,Option.bind_eq_some_iff] at e
   obtain ⟨ow,_,e⟩:=e
   cases e
   refine ⟨wM ?_,rfl,g.led⟩
   rw [List.pairwise_map,List.pairwise_filterMap]
   refine List.Pairwise.imp ?_ List.pairwise_lt_range
   intro a c hac x hx y hy
   obtain ⟨_,_,rfl⟩:=Option.map_eq_some_iff.mp hx
   obtain ⟨_,_,rfl⟩:=Option.map_eq_some_iff.mp hy
   exact hac
  ·exact g.standIn
 ·exact g.standIn
abbrev rE (w:World):Bool:=w.params.followText "set-order"
def iJ (P:Program) (w:World) (h:Heap) (a:Addr) (ns:List Int):Prop:=
 ∃ o es ep t,h.get? a=some o/\o.ExactSet/\o.data=.set es ep t/\ElemsOf (intKind P w) es.toList/\(es.toList.map fun e=>numOf e.2).Perm ns/\es.size<scanBound/\t.fits es.size=true/\oJ (!rE w) t
def adj (ns:List Int) (k:Int):List Int:=if k∈ns then ns else ns++[k]
def dd (ns:List Int):List Int:=ns.foldl adj []
theorem Bc (ns:List Int) (k:Int):dd (ns++[k])=adj (dd ns) k:=by unfold dd;rw [List.foldl_append];rfl
theorem qI:∀ (ns ms:List Int) (x:Int),x∈ns.foldl adj ms↔x∈ms∨x∈ns
 |[],ms,x=>by simp
 | n::r,ms,x=>by
   rw [List.foldl_cons,qI r _ x]
   unfold adj
   split <;> simp only [List.mem_append,List.mem_cons,List.mem_singleton,List.not_mem_nil,or_false]
   ·rename_i h
    constructor
    ·rintro (a|a)
     ·exact .inl a
     ·exact .inr (.inr a)
    ·rintro (a|rfl|a)
     ·exact .inl a
     ·exact .inl h
     ·exact .inr a
   ·rw [or_assoc]
theorem ou:∀ (ns ms:List Int),ms.Nodup->(ns.foldl adj ms).Nodup
 |[],ms,h=>h
 | n::r,ms,h=>by
   rw [List.foldl_cons]
   refine ou r _ ?_
   unfold adj
   split
   ·exact h
   ·rename_i q
    rw [List.nodup_append]
    exact ⟨h,by simp,fun a ha b hb=>by simp at hb;subst hb;exact fun e=>q (e ▸ ha)⟩
theorem rK:∀ (ns ms:List Int),(ns.foldl adj ms).length≤ms.length+ns.length
 |[],ms=>Nat.le_refl _
 | n::r,ms=>by
   rw [List.foldl_cons]
   refine Nat.le_trans (rK r _) ?_
   unfold adj
   split <;> simp <;> omega
theorem FT {ns:List Int} {x:Int}:x∈dd ns↔x∈ns:=by unfold dd;rw [qI];simp
theorem z8 (ns:List Int):(dd ns).Nodup:=ou ns [] .nil
theorem ym (ns:List Int):(dd ns).length≤ns.length:=by have:=rK ns [];simpa [dd] using this
section
variable {P:Program} {w:World} {A:Around} {E:Value->Shared->Prop} {s:Shared} {a:Addr} {ns:List Int}
theorem zM {k:Int} {v:Value} (h:(intKind P w).is k v=true):numOf v=k:=by obtain ⟨t,rfl⟩:=Value.isInt_shape h;rfl
theorem iJ.at {h h':Heap} (g:iJ P w h a ns) (e:∀ o,h.get? a=some o->h'.get? a=some o):iJ P w h' a ns:=
 let ⟨o,es,ep,t,ho,r⟩:=g;⟨o,es,ep,t,e _ ho,r⟩
theorem uZ {h:Heap} {o:Obj} {es es':Array (Int×Value)} {ep:Nat} {t t':SetTable} (ho:h.get? a=some o) (hd:o.data=.set es ep t) :
 (h.update a (Obj.putSet es' t')).get? a=some { o with data:=.set es' (ep+1) t' }:=by
 have e:=Heap.get?_update_self (Obj.putSet es' t') ho (by rw [putSet_of es' t' hd];rfl)
 rwa [putSet_of es' t' hd] at e
theorem Hm {k:Int} {tk:Tok} {Q:Bool->Shared->Prop} (hS:iJ P w s.heap a ns) (hr:ns.length+1<scanBound) (h:∀ b h',Heap.SameBut a s.heap h'->iJ P w h' a (adj ns k)->Q b { s with heap:=h' }) :
 wpAny (model P w) A (setAddHashed a (.int k tk) ((intKind P w).hash k)) Q E s:=by
 obtain ⟨o,es,ep,t,ho,hex,hd,hel,hp,hb,hf,tg⟩:=hS
 have hkey:=intKind_is P w k tk
 have hsz:es.size=ns.length:=by rw [← Array.length_toList,← hp.length_eq,List.length_map]
 unfold setAddHashed setAddHashedIn
 refine wpAny_holding (wpAny_bind (wpAny_setState_of ho hd hf ?_))
 dsimp only
 rw [byScan_of rfl hb hel]
 simp only [↓reduceIte]
 unfold setAddByScan
 refine wpAny_bind (wpAny_bind (wpAny_rule (wpAny_bind (wpAny_setScan_of hkey ho hd hf hel ?_))))
 cases hr':List.findIdx? (fun e=>(intKind P w).is k e.2) es.toList with
 | some j=>
   obtain ⟨hj,hpj,_⟩:=List.findIdx?_eq_some_iff_getElem.mp hr'
   have hm:k∈ns:=hp.mem_iff.mp (List.mem_map.mpr ⟨_,List.getElem_mem hj,zM hpj⟩)
   dsimp only
   refine wpAny_pure (wpAny_pure ?_)
   exact h false s.heap (Heap.SameBut.refl a s.heap) (by unfold adj;rw [if_pos hm];exact ⟨o,es,ep,t,ho,hex,hd,hel,hp,hb,hf,tg⟩)
 | none=>
   have hm:k∉ns:=fun hk=>by
    obtain ⟨e,he,hn⟩:=List.mem_map.mp (hp.mem_iff.mpr hk)
    obtain ⟨⟨k',hk',_⟩,_⟩:=hel e he
    have e1:=zM hk'
    have e2:=List.findIdx?_eq_none_iff.mp hr' e he
    rw [hn] at e1
    rw [e1,hk'] at e2
    cases e2
   have gw:∀ (b:Bool) {s₁:Shared} {Q':Unit->Shared->Prop},Q' () s₁->wpAny (model P w) A (match b with|true=>rule "set.scan.the-table-gave-way" | false=>pure ()) Q' E s₁:=
    fun b s₁ Q' q=>by cases b;exact wpAny_pure q;exact wpAny_rule q
   dsimp only
   have l1:=layNew_perm t es ((intKind P w).hash k) (.int k tk)
   have l2:=layNew_fits t es ((intKind P w).hash k) (.int k tk)
   have l3:=tg.layNew es ((intKind P w).hash k) (.int k tk)
   generalize layNew t es ((intKind P w).hash k) (.int k tk)=L at l1 l2 l3 ⊢
   obtain ⟨es1,t1,wd,gv⟩:=L
   dsimp only at l1 l2 l3 ⊢
   rw [Array.toList_push] at l1
   have e1:ElemsOf (intKind P w) es1.toList:=(hel.push hkey rfl).perm l1
   have e2:(es1.toList.map fun e=>numOf e.2).Perm (adj ns k):=by
    unfold adj
    rw [if_neg hm]
    refine (l1.map _).trans ?_
    rw [List.map_append]
    exact hp.append (.refl _)
   have e3:es1.size<scanBound:=by rw [← Array.length_toList,l1.length_eq,List.length_append,Array.length_toList,hsz];exact hr
   refine wpAny_bind (gw _ ?_)
   have tail:wpAny (model P w) A (do
    storeSet a es1 t1
    if (!wd && t1.tooFull)=true then do
        (match (relayAll t1 es1 (SetTable.grown es1.size)).2.2 with|true=>rule "set.scan.the-table-gave-way" | false=>pure ())
        storeSet a (relayAll t1 es1 (SetTable.grown es1.size)).1 (relayAll t1 es1 (SetTable.grown es1.size)).2.1
        pure (some true)
     else pure (some true)) (fun r s'=>r=some true/\Q true s') E s:=by
    refine wpAny_bind (wpAny_storeSet_of ho hd ?_ (fits_of_scanBound e3))
    have g1:=uZ (es':=es1) (t':=t1) ho hd
    have b1:=Heap.SameBut.update s.heap a (Obj.putSet es1 t1)
    split
    ·have r1:=relayAll_perm t1 es1 (SetTable.grown es1.size)
     have r2:=relayAll_fits t1 es1 (SetTable.grown es1.size)
     have r3:=l3.relayAll es1 (SetTable.grown es1.size)
     generalize relayAll t1 es1 (SetTable.grown es1.size)=L at r1 r2 r3 ⊢
     obtain ⟨es2,t2,gv2⟩:=L
     dsimp only at r1 r2 r3 ⊢
     have z:es2.size=es1.size:=by rw [← Array.length_toList,r1.length_eq,Array.length_toList]
     refine wpAny_bind (gw _ ?_)
     refine wpAny_bind (wpAny_storeSet_of g1 rfl ?_ (fits_of_scanBound (by rw [z];exact e3)))
     exact wpAny_pure ⟨rfl,h true _ (b1.trans (Heap.SameBut.update _ a _)) ⟨_,es2,_,t2,uZ g1 rfl,hex,rfl,e1.perm r1,(r1.map _).trans e2,by rw [z];exact e3,r2,r3⟩⟩
    ·exact wpAny_pure ⟨rfl,h true _ b1 ⟨_,es1,_,t1,g1,hex,rfl,e1,e2,e3,l2,l3⟩⟩
   have fin:∀ s',(fun r s'=>r=some true/\Q true s') (some true) s'->wpAny (model P w) A (pure true) Q E s':=fun s' q=>wpAny_pure q.2
   split
   ·refine wpAny_bind ?_
    rw [hashByValue_scannable 8 rfl]
    refine wpAny_pure ?_
    refine wpAny_mono tail (fun r s' q=>?_) fun _ _ e=>e
    obtain ⟨rfl,q⟩:=q
    exact wpAny_pure q
   ·refine wpAny_bind (wpAny_pure ?_)
    simp only [↓reduceIte]
    refine wpAny_mono tail (fun r s' q=>?_) fun _ _ e=>e
    obtain ⟨rfl,q⟩:=q
    exact wpAny_pure q
end
section
variable {P:Program} {w:World} {A:Around} {R:Result->Shared->Prop} {I:Addr} {fp wr:List Addr} {G:Array GenState->Array GenState->Prop} {n:Nat} {Pv:Nat->Value->Prop} {St:Nat->Shared->Prop}
theorem zU (W:WalksS P w A.in1 I fp wr G n Pv St) {S:Addr} (nf:S∉fp) (val:Nat->Int) (hv:∀ i v,Pv i v->∃ t,v=.int (val i) t) (hb:n+1<scanBound) :
 ∀ (k i:Nat) (s:Shared),n-i=k->i≤n->St i s->iJ P w s.heap S (dd ((List.range i).map val))->
   (∀ s',Moved (S::wr) G s s'->iJ P w s'.heap S (dd ((List.range n).map val))->R (.ok (.ret .none)) s')->codeAny (model P w) A (.builtin "set.update.loop" ⟨[.ref S,.ref I],[]⟩) R s:=by
 have nw:S∉wr:=fun h=>nf (W.sub _ h)
 have sub:∀ b∈wr,b∈S::wr:=fun b q=>List.mem_cons_of_mem _ q
 intro k
 induction k with
 | zero=>
   intro i s hk hi st hS go
   obtain rfl:i=n:=by omega
   refine codeAny_builtin PyProof.Rows.F.entry_set_update_loop ?_
   rw [Around.under_plainId PyProof.Rows.F.plain_set_update_loop _]
   refine wpAny_bind (m:=pyNext (.ref I)) (W.done s _ _ st fun s' mv=>?_)
   exact wpAny_pure (go s' (mv.mono sub) (hS.at fun o e=>mv.heap S o nw e))
 | succ k ih=>
   intro i s hk hi st hS go
   refine codeAny_builtin PyProof.Rows.F.entry_set_update_loop ?_
   rw [Around.under_plainId PyProof.Rows.F.plain_set_update_loop _]
   refine wpAny_bind (m:=pyNext (.ref I)) (W.item i s _ _ (by omega) st fun v s' hP st' mv=>?_)
   obtain ⟨t,rfl⟩:=hv i v hP
   refine wpAny_bind (m:=holding [Value.int (val i) t] (setAdd S (.int (val i) t))) (wpAny_holding ?_)
   unfold setAdd
   refine wpAny_holding (wpAny_bind ((intKind P w).pyHash (k:=val i) (intKind_is _ _ _ _) ?_))
   have hl:=ym ((List.range i).map val)
   rw [List.length_map,List.length_range] at hl
   refine Hm (s:={ s' with toks:=s'.toks+1 }) (hS.at fun o e=>mv.heap S o nw e) (by omega) fun b h' sb g=>?_
   have g2:iJ P w h' S (dd ((List.range (i+1)).map val)):=by rw [List.range_succ,List.map_append,List.map_singleton,Bc];exact g
   refine wpAny_pure ⟨plainId_quiet PyProof.Rows.F.plain_set_update_loop _,ih (i+1) _ (by omega) (by omega) (W.frame _ s' _ _ st' (Nat.le_succ _) fun b q o e=>?_) g2 fun s'' mv' g3=>?_⟩
   ·rw [sb.2 b fun h:b=S=>nf (h ▸ q)];exact e
   ·refine go s'' (Moved.trans W.gtrans ((mv.mono sub).then_heap (Nat.le_succ _) fun b o q e=>?_) mv') g3
    rw [sb.2 b fun h:b=S=>q (by rw [h];exact List.mem_cons_self)];exact e
end
section
variable {P:Program} {w:World} {A:Around} {E:Value->Shared->Prop} {s:Shared}
abbrev oF (w:World):Obj:={ cls:=.type "set",dict:=none,data:=.set #[] 0 (.fresh 0 0 (!rE w)) }
theorem DY {h:Heap} {a:Addr} (e:h.get? a=some (oF w)):iJ P w h a []:=
 ⟨_,#[],0,_,e,⟨rfl,rfl,rfl⟩,rfl,fun e he=>by simp at he,.refl _,by unfold scanBound;decide,by rfl,oJ.fresh⟩
theorem Hy (x:Value) {Q:Value->Shared->Prop} (h:Q (.ref s.heap.objs.size) { s with heap:=s.heap.push (oF w) }):codeAny (model P w) A (.call (.builtin "set.__new__") ⟨[.type "set",x],[]⟩) (wants Q E) s:=by
 refine codeAny_of_tree ?_
 refine wpAny_bind (m:=checkBuiltinCall "set.__new__" ⟨[.type "set",x],[]⟩) (wpAny_of_eq (PySem.F.newCall_set_1 x) (wpAny_pure ⟨plainId_quiet PySem.F.plain_set_new _,codeAny_builtin PySem.F.entry_set_new ?_⟩))
 rw [Around.under_plainId PySem.F.plain_set_new _]
 unfold Builtin.«set.__new__» Builtin.Frozenset.newClass
 have hsub:=PySem.sub_set_self
 obtain ⟨hp,g,d,tk,os⟩:=s
 dsimp only
 wp_walk
 refine wpAny_askSetting (wpAny_pure ?_)
 simp only [newObj]
 exact wpAny_bind (wpAny_alloc (wpAny_pure (wpAny_pure h)))
theorem xx {l:Addr} {items:Array Value} {ns:List Int} {Q:Value->Shared->Prop} (hh:A.handled=none) (hl:s.heap.IsList l items) (hi:IntsAre items.toList ns) (hb:items.size+1<scanBound)
 (h:∀ (h':Heap) (tk:Nat),iJ P w h' s.heap.objs.size (dd ns)->(∀ b o,s.heap.get? b=some o->h'.get? b=some o)->Q (.ref s.heap.objs.size) { s with heap:=h',toks:=tk }):wpAny (model P w) A (call (.type "set") [.ref l]) Q E s:=by
 obtain ⟨c,tl,hmro⟩:=PySem.F.called_set.mro
 have hmade:=PySem.F.called_set.made
 have hsub:=PySem.F.called_set.sub
 refine wpAny_call (codeAny_of_tree ?_)
 refine wpAny_pure ⟨Code.quiet_builtin _ (by decide +kernel),codeAny_builtin PySem.F.entry_type_call ?_⟩
 rw [Around.under_plain (weight_type_call_type "set" [.ref l] []) rfl]
 have h1:=PySem.F.called_set.notType
 have h2:=PySem.F.called_set.canCreate
 have hct:=PySem.F.typeCall_set_1 (.ref l)
 repeat (any_goals (first|assumption|wp_step))
 refine codeAny_mono (Hy (.ref l) (E:=E) (Q:=fun x s₁=>x=.ref s.heap.objs.size/\s₁={ s with heap:=s.heap.push (oF w) }) ⟨rfl,rfl⟩) fun r s₁ hr=>?_
 cases r with
 |error e=>exact hr
 | ok fl=>
   cases fl with
   | ret x=>
     obtain ⟨rfl,rfl⟩:=hr
     have hS:(s.heap.push (oF w)).get? s.heap.objs.size=some (oF w):=Heap.get?_push_size _ rfl
     have hT:Shared.TypeIs { s with heap:=s.heap.push (oF w) } (.ref s.heap.objs.size) "set":=⟨_,hS,rfl⟩
     have hli:=PySem.F.called_set.init.lookup
     have hbi:=PySem.F.called_set.init.bind (.ref s.heap.objs.size)
     repeat (any_goals (first|assumption|wp_step))
     refine codeAny_mono (codeAny_call_builtin (R:=wants (fun r s₂=>r=.none/\∃ h' tk,s₂={ s with heap:=h',toks:=tk }/\iJ P w h' s.heap.objs.size (dd ns)/\∀ b o,s.heap.get? b=some o->h'.get? b=some o) E) PySem.F.called_set.init.plain PySem.F.entry_set_init (check_set_init_1 hT ?_)) fun r₂ s₂ hr₂=>?_
     ·obtain ⟨⟨oc,od,odt,osl⟩,hol,hcl,nl,hdl⟩:=hl
      simp only at hcl hdl
      subst hcl;subst hdl
      have hol':=Heap.get?_push_of_some (oF w) hol
      have hsls:=PySem.F.sub_list_set
      have hslf:=PySem.F.sub_list_frozenset
      have hne:(Value.type "list" == Value.type "dict")=false:=by decide
      have hl1:(s.heap.push (oF w)).IsList l items:=⟨_,hol',rfl,nl,rfl⟩
      unfold Builtin.«set.__init__» noKeywords Builtin.Frozenset.updateFrom
      generalize hPI:pyIter=PI
      wp_walk
      subst hPI
      refine wpAny_pyIter_list hl1 (wpAny_bind (wpAny_runValue ?_))
      have hlS:l<s.heap.objs.size:=Heap.lt_size hol
      have neI:l≠(s.heap.push (oF w)).objs.size:=by rw [Heap.size_push];exact Nat.ne_of_lt (Nat.lt_succ_of_lt hlS)
      have nf:s.heap.objs.size∉[(s.heap.push (oF w)).objs.size,l]:=by
       rw [Heap.size_push]
       simp only [List.mem_cons,List.not_mem_nil,or_false,not_or]
       exact ⟨Nat.ne_of_lt (Nat.lt_succ_self _),Nat.ne_of_gt hlS⟩
      have hz:items.size=ns.length:=by rw [← Array.length_toList];exact hi.length
      have hval:∀ (i:Nat) (v:Value),items[i]?=some v->∃ t,v=.int (ns.getD i 0) t:=fun i v hv=>IntsAre.int_at hi i v (by rw [Array.getElem?_toList];exact hv)
      have hns:(List.range items.size).map (fun i=>ns.getD i 0)=ns:=by
       refine List.ext_getElem (by simp [hz]) fun i q1 q2=>?_
       simp [q2]
      refine zU ((Walks.list (by simp [hh]) _ l neI items).toS) nf (fun i=>ns.getD i 0) hval hb _ 0 _ rfl (Nat.zero_le _) ⟨⟨_,Heap.get?_push_size _ rfl,rfl,rfl⟩,hl1.push _⟩ (DY (Heap.get?_push_of_some _ hS)) fun s' mv g=>?_
      obtain ⟨h',g',d',tk',os'⟩:=s'
      obtain ⟨mh,eg,ed,eo,mt⟩:=mv
      subst eg;subst ed;subst eo
      refine wpAny_pure (wpAny_pure ⟨rfl,h',tk',rfl,by rw [hns] at g;exact g,fun b o e=>?_⟩)
      have hb':=Heap.lt_size e
      refine mh b o ?_ (Heap.get?_push_of_some _ (Heap.get?_push_of_some _ e))
      rw [Heap.size_push]
      simp only [List.mem_cons,List.not_mem_nil,or_false,not_or]
      exact ⟨Nat.ne_of_lt hb',Nat.ne_of_lt (Nat.lt_succ_of_lt hb')⟩
     ·cases r₂ with
      |error e=>exact hr₂
      | ok fl₂=>
        cases fl₂ with
        | ret r=>
          obtain ⟨rfl,h',tk,rfl,g,k⟩:=hr₂
          repeat (any_goals (first|assumption|wp_step))
          exact h _ _ g k
        |_=>exact hr₂.elim
   |_=>exact hr.elim
end
theorem dj:Slot "set_iterator" "__next__" "set_iterator.__next__" :=
 Slot.of (owner:="set_iterator") (n:="__next__") (by rw [typeLookup_type,builtinLookup_eq_fast];kernel_rfl) (by decide +kernel) (by decide +kernel) (by decide +kernel) (by first|exact .inl (by decide +kernel)|exact .inr (by decide +kernel)) (by rw [isSubtype_type];kernel_rfl)
theorem jh:entryFor table "set_iterator.__next__" = some Builtin.«set_iterator.__next__»:=entryFor_of_tree (by kernel_rfl)
theorem kE (a:Value):argsOk "set_iterator.__next__" ⟨[a],[]⟩:=by unfold argsOk;kernel_rfl
theorem oN:entryFor table "set.__iter__" = some Builtin.«frozenset.__iter__»:=entryFor_alias (id':="frozenset.__iter__") (by kernel_rfl) rfl (by decide +kernel) (by kernel_rfl)
abbrev Av (f:Value) (i:Nat) (a:Addr) (n ep:Nat):Obj:={ cls:=.type "set_iterator",data:=.fields #[f,.int i 0,.ref a,.int n 0,.int ep 0] }
section
variable {P:Program} {w:World} {A:Around} {E:Value->Shared->Prop} {s:Shared} {I a:Addr} {i n ep:Nat} {o:Obj} {es:Array (Int×Value)} {t:SetTable}
theorem GQ {sl nx:Nat} {x:Value} {Q:Option Value->Shared->Prop} (hI:s.heap.get? I=some (Av (.int sl 0) i a es.size ep)) (ho:s.heap.get? a=some o) (hd:o.data=.set es ep t) (hf:t.fits es.size=true)
 (hN:∀ {A:Around} {E:Value->Shared->Prop} (Q':Option (Value×Nat)->Shared->Prop),Q' (some (x,nx)) s->wpAny (model P w) A (setNext a sl i ep) Q' E s)
 (hQ:∀ h',h'.get? I=some (Av (.int nx 0) (i+1) a es.size ep)->Heap.SameBut I s.heap h'->Q (some x) { s with heap:=h' }):wpAny (model P w) A (pyNext (.ref I)) Q E s:=by
 have hT:s.TypeIs (.ref I) "set_iterator":=⟨_,hI,rfl⟩
 unfold pyNext
 refine wpAny_bind (wpAny_attempt (wpAny_callSpecial?_slot (name:=Str.ofString "__next__") hT dj (wpAny_call_entry dj hT jh ?_ (kE _))))
 unfold Builtin.«set_iterator.__next__»
 refine wpAny_bind (wpAny_pure ?_)
 refine wpAny_bind (wpAny_fieldsOf hI rfl ?_)
 dsimp only
 refine wpAny_bind (m:=setEntries a) (wpAny_setEntries_of ho hd hf ?_)
 rw [if_neg (by simp)]
 refine wpAny_bind (hN _ ?_)
 dsimp only
 refine wpAny_bind (wpAny_setField hI rfl (by simp) ?_)
 have g1:=Heap.get?_update_self (Obj.mapFields fun fs=>fs.set! 0 (rawInt nx)) hI rfl
 refine wpAny_bind (wpAny_setField g1 rfl (by simp) ?_)
 have g2:=Heap.get?_update_self (Obj.mapFields fun fs=>fs.set! 1 (rawInt ((i:Int)+1))) g1 rfl
 refine wpAny_pure ⟨x,rfl,wpAny_pure (hQ _ g2 ((Heap.SameBut.update ..).trans (Heap.SameBut.update ..)))⟩
theorem Jf {sl:Nat} {Q:Option Value->Shared->Prop} (hh:A.handled=none) (hI:s.heap.get? I=some (Av (.int sl 0) i a es.size ep)) (ho:s.heap.get? a=some o) (hd:o.data=.set es ep t) (hf:t.fits es.size=true)
 (hN:∀ {A:Around} {E:Value->Shared->Prop} (Q':Option (Value×Nat)->Shared->Prop),Q' none s->wpAny (model P w) A (setNext a sl i ep) Q' E s)
 (hQ:∀ h',Heap.ExtBut I s.heap h'->Q none { s with heap:=h' }):wpAny (model P w) A (pyNext (.ref I)) Q E s:=by
 have hT:s.TypeIs (.ref I) "set_iterator":=⟨_,hI,rfl⟩
 unfold pyNext
 refine wpAny_bind (wpAny_attempt (wpAny_callSpecial?_slot (name:=Str.ofString "__next__") hT dj (wpAny_call_entry dj hT jh ?_ (kE _))))
 unfold Builtin.«set_iterator.__next__»
 refine wpAny_bind (wpAny_pure ?_)
 refine wpAny_bind (wpAny_fieldsOf hI rfl ?_)
 dsimp only
 refine wpAny_bind (m:=setEntries a) (wpAny_setEntries_of ho hd hf ?_)
 rw [if_neg (by simp)]
 refine wpAny_bind (hN _ ?_)
 dsimp only
 refine wpAny_bind (wpAny_setField hI rfl (by simp) ?_)
 refine wpAny_bind ?_
 simp only [newExc,newTuple]
 refine wpAny_bind (wpAny_newObj_type ?_ (by size_fits))
 refine wpAny_bind (m:=firstArgMember _ _) (wpAny_of_eq (a:=Value.none) (by first|rfl|(simp only [firstArgMember];rfl)) ?_)
 refine wpAny_newObj_type ?_ (by size_fits)
 simp only [raiseNew]
 refine wpAny_bind (wpAny_handled ?_)
 rw [show A.in1.handled=none from hh]
 refine wpAny_bind (wpAny_pure (wpAny_throw ?_))
 refine wpAny_bind (wpAny_isInstance (T:="StopIteration") (b:=true) ⟨_,Heap.get?_push_size _ rfl,rfl⟩ isSubtype_stop ?_)
 exact wpAny_pure (hQ _ (((Heap.SameBut.update ..).extBut.push _).push _))
theorem Ig {T:Addr} {ps:Array Value} {c p:Nat} {x:Value} {h0:Int} {Q:Option Value->Shared->Prop} (hI:s.heap.get? I=some (Av (.ref T) i a es.size ep)) (ho:s.heap.get? a=some o) (hd:o.data=.set es ep t) (hf:t.fits es.size=true)
 {oT:Obj} (hT':s.heap.get? T=some oT) (hTd:oT.data=.seq ps c) (hp:ps[i]?=some (.int p 0)) (hx:es[p]?=some (h0,x))
 (hQ:∀ h',h'.get? I=some (Av (.ref T) (i+1) a es.size ep)->Heap.SameBut I s.heap h'->Q (some x) { s with heap:=h' }):wpAny (model P w) A (pyNext (.ref I)) Q E s:=by
 have hT:s.TypeIs (.ref I) "set_iterator":=⟨_,hI,rfl⟩
 unfold pyNext
 refine wpAny_bind (wpAny_attempt (wpAny_callSpecial?_slot (name:=Str.ofString "__next__") hT dj (wpAny_call_entry dj hT jh ?_ (kE _))))
 unfold Builtin.«set_iterator.__next__»
 refine wpAny_bind (wpAny_pure ?_)
 refine wpAny_bind (wpAny_fieldsOf hI rfl ?_)
 dsimp only
 refine wpAny_bind (m:=setEntries a) (wpAny_setEntries_of ho hd hf ?_)
 rw [if_neg (by simp)]
 refine wpAny_bind (wpAny_seqItems hT' hTd ?_)
 dsimp only
 rw [Int.toNat_natCast,hp]
 dsimp only
 unfold setNextDrawn
 refine wpAny_bind (wpAny_bind (wpAny_setState_of ho hd hf ?_))
 dsimp only
 rw [if_neg (by simp),Int.toNat_natCast,hx]
 refine wpAny_pure ?_
 refine wpAny_bind (wpAny_setField hI rfl (by simp) ?_)
 have g2:=Heap.get?_update_self (Obj.mapFields fun fs=>fs.set! 1 (rawInt ((i:Int)+1))) hI rfl
 exact wpAny_pure ⟨x,rfl,wpAny_pure (hQ _ g2 (Heap.SameBut.update ..))⟩
theorem Ge {T:Addr} {ps:Array Value} {c:Nat} {Q:Option Value->Shared->Prop} (hh:A.handled=none) (hI:s.heap.get? I=some (Av (.ref T) i a es.size ep)) (ho:s.heap.get? a=some o) (hd:o.data=.set es ep t) (hf:t.fits es.size=true)
 {oT:Obj} (hT':s.heap.get? T=some oT) (hTd:oT.data=.seq ps c) (hp:ps[i]?=none) (hQ:∀ h',Heap.ExtBut I s.heap h'->Q none { s with heap:=h' }):wpAny (model P w) A (pyNext (.ref I)) Q E s:=by
 have hT:s.TypeIs (.ref I) "set_iterator":=⟨_,hI,rfl⟩
 unfold pyNext
 refine wpAny_bind (wpAny_attempt (wpAny_callSpecial?_slot (name:=Str.ofString "__next__") hT dj (wpAny_call_entry dj hT jh ?_ (kE _))))
 unfold Builtin.«set_iterator.__next__»
 refine wpAny_bind (wpAny_pure ?_)
 refine wpAny_bind (wpAny_fieldsOf hI rfl ?_)
 dsimp only
 refine wpAny_bind (m:=setEntries a) (wpAny_setEntries_of ho hd hf ?_)
 rw [if_neg (by simp)]
 refine wpAny_bind (wpAny_seqItems hT' hTd ?_)
 dsimp only
 rw [Int.toNat_natCast,hp]
 dsimp only
 refine wpAny_bind (wpAny_setField hI rfl (by simp) ?_)
 have g1:=Heap.get?_update_self (Obj.mapFields fun fs=>fs.set! 0 (rawInt 0)) hI rfl
 refine wpAny_bind (wpAny_setField g1 rfl (by simp) ?_)
 refine wpAny_bind ?_
 simp only [newExc,newTuple]
 refine wpAny_bind (wpAny_newObj_type ?_ (by size_fits))
 refine wpAny_bind (m:=firstArgMember _ _) (wpAny_of_eq (a:=Value.none) (by first|rfl|(simp only [firstArgMember];rfl)) ?_)
 refine wpAny_newObj_type ?_ (by size_fits)
 simp only [raiseNew]
 refine wpAny_bind (wpAny_handled ?_)
 rw [show A.in1.handled=none from hh]
 refine wpAny_bind (wpAny_pure (wpAny_throw ?_))
 refine wpAny_bind (wpAny_isInstance (T:="StopIteration") (b:=true) ⟨_,Heap.get?_push_size _ rfl,rfl⟩ isSubtype_stop ?_)
 exact wpAny_pure (hQ _ ((((Heap.SameBut.update ..).trans (Heap.SameBut.update ..)).extBut.push _).push _))
end
def slotAt (p:Array Nat):Nat->Nat
 |0=>0
 |i+1=>p.getD i 0+1
theorem sV {p:Array Nat} (R:qF p) {i:Nat} (hi:i≤p.size):SetTable.below p (slotAt p i)=i:=by
 obtain ⟨b1,b2,b3⟩:=rP (j:=slotAt p i) R
 have gd:∀ k,k<p.size->p[k]?=some (p.getD k 0):=fun k hk=>by rw [Array.getD_eq_getD_getElem?,Array.getElem?_eq_getElem hk];rfl
 cases i with
 | zero=>
   rcases Nat.eq_zero_or_pos (SetTable.below p (slotAt p 0)) with e|e
   ·exact e
   ·exact absurd (b2 0 _ e (gd 0 (by omega))) (Nat.not_lt_zero _)
 | succ i=>
   rcases Nat.lt_trichotomy (SetTable.below p (slotAt p (i+1))) (i+1) with e|e|e
   ·have h1:=b3 i _ (by omega) (gd i (by omega))
    simp only [slotAt] at h1
    omega
   ·exact e
   ·have h1:=b2 (i+1) _ e (gd (i+1) (by omega))
    have h2:=R i (i+1) _ _ (by omega) (gd i (by omega)) (gd (i+1) (by omega))
    simp only [slotAt] at h1
    omega
theorem jQ {α:Type}:∀ (l:List α) (i:Nat) (h:i<l.length),(l[i]::l.eraseIdx i).Perm l
 |x::l,0,h=>.refl _
 | x::l,i+1,h=>by
   rw [List.eraseIdx_cons_succ,List.getElem_cons_succ]
   exact (List.Perm.swap _ _ _).trans ((jQ l i (by simpa using h)).cons _)
theorem uY {α:Type} (f:Nat->Nat):∀ (n k:Nat) (l:List α) (out:Array α),l.length=n->(pickOrder.go f n k l out).toList.Perm (out.toList++l)
 | 0,k,l,out,h=>by
   obtain rfl:=List.length_eq_zero_iff.mp h
   rw [List.append_nil]
   exact .refl _
 | n+1,k,l,out,h=>by
   have hm:f k % l.length<l.length:=Nat.mod_lt _ (by omega)
   unfold pickOrder.go
   rw [List.getElem?_eq_getElem hm]
   refine (uY f n (k+1) _ _ (by rw [List.length_eraseIdx,if_pos hm,h];rfl)).trans ?_
   rw [Array.toList_push,List.append_assoc]
   exact (List.Perm.refl _).append (jQ _ _ hm)
theorem ww {α:Type} (f:Nat->Nat) (xs:Array α):(pickOrder f xs).toList.Perm xs.toList:=by
 unfold pickOrder
 exact uY f _ 0 _ _ (by simp)
section
variable {P:Program} {w:World} {A:Around} {E:Value->Shared->Prop} {s:Shared}
theorem ur {src:Source} {n:Nat} {Q:Nat->Shared->Prop} (hn:n≠0) (h:∀ i d,i<n->Q i { s with drawn:=d }):wpAny (model P w) A (choose src n) Q E s:=by
 intro Γ p hΓ
 unfold choose
 rw [Sem.wp_choose]
 exact ⟨hn,by rw [Sem.wp_pure];exact h _ _ (Nat.mod_lt _ (Nat.pos_of_ne_zero hn))⟩
theorem p8 {α:Type}:∀ (n:Nat) (xs:List α) (s:Shared) {Q:List α->Shared->Prop},xs.length≤n->(∀ ys d,ys.Perm xs->Q ys { s with drawn:=d })->wpAny (model P w) A (drawOrder n xs) Q E s
 | 0,xs,s,Q,hl,h=>by
   obtain rfl:=List.length_eq_zero_iff.mp (Nat.le_zero.mp hl)
   exact wpAny_pure (h [] s.drawn (.refl _))
 |n+1,[],s,Q,hl,h=>wpAny_pure (h [] s.drawn (.refl _))
 | n+1,x::xs,s,Q,hl,h=>by
   unfold drawOrder
   refine wpAny_bind (ur (by simp) fun i d hi=>?_)
   rw [List.getElem?_eq_getElem hi]
   dsimp only
   refine wpAny_bind (p8 n _ _ (by rw [List.length_eraseIdx,if_pos hi];simp only [List.length_cons] at hl ⊢;omega) fun ys d' hp=>?_)
   exact wpAny_pure (h _ d' ((hp.cons _).trans (jQ _ _ hi)))
variable {a:Addr} {ep:Nat} {o:Obj} {es:Array (Int×Value)} {t:SetTable} {Q:Option (Value×Nat)->Shared->Prop}
theorem jk {Q:Bool->Shared->Prop} (h:Q (rE w) s):wpAny (model P w) A setsByText Q E s:=by
 unfold setsByText
 exact wpAny_bind (wpAny_askSetting (wpAny_pure h))
theorem Kf {g i:Nat} (ho:s.heap.get? a=some o) (hd:o.data=.set es ep t) (hf:t.fits es.size=true) (R:qF t.place) (hb:rE w=false) (nd:(!t.plain && decide (es.size > 1))=false) (hl:t.led=true) (hi:i≤es.size)
 (h:Q (es[i]?.map fun e=>(e.2,slotAt t.place (i+1))) s):wpAny (model P w) A (setNext a (slotAt t.place i) g ep) Q E s:=by
 have hz:t.place.size=es.size:=by
  simp only [SetTable.fits,Bool.and_eq_true,beq_iff_eq,decide_eq_true_eq] at hf
  exact hf.1
 unfold setNext
 refine wpAny_bind (wpAny_setState_of ho hd hf ?_)
 dsimp only
 refine wpAny_bind (jk ?_)
 rw [if_neg (by rw [hb];simp)]
 split
 ·rename_i q
  exact absurd (show (!t.plain && decide (es.size > 1))=true from q) (by rw [nd];simp)
 ·refine wpAny_bind (m:=(if (!t.led && !es.isEmpty)=true then unsupported "set:maker-not-led" else pure ())) ?_
  rw [if_neg (by rw [hl];simp)]
  refine wpAny_pure ?_
  rw [sV R (by omega)]
  refine wpAny_pure ?_
  by_cases q:i<es.size
  ·rw [Array.getElem?_eq_getElem q] at h ⊢
   rw [Array.getElem?_eq_getElem (show i<t.place.size by omega)]
   have e:slotAt t.place (i+1)=t.place[i]+1:=by
    show t.place.getD i 0+1=_
    rw [Array.getD_eq_getD_getElem?,Array.getElem?_eq_getElem (show i<t.place.size by omega)]
    rfl
   rw [e] at h
   exact h
  ·rw [Array.getElem?_eq_none (by omega)] at h ⊢
   exact h
theorem nextT {g sl:Nat} (ho:s.heap.get? a=some o) (hd:o.data=.set es ep t) (hf:t.fits es.size=true) (hb:rE w=true)
 (h:Q ((pickOrder (w.params.setOrder a ep) es)[g]?.map fun e=>(e.2,sl)) s):wpAny (model P w) A (setNext a sl g ep) Q E s:=by
 unfold setNext
 refine wpAny_bind (wpAny_setState_of ho hd hf ?_)
 dsimp only
 refine wpAny_bind (jk ?_)
 rw [if_pos (by rw [hb]),if_neg (by simp)]
 unfold setWalk
 refine wpAny_bind (wpAny_bind (wpAny_setState_of ho hd hf ?_))
 dsimp only
 refine wpAny_bind (jk ?_)
 rw [if_pos (by rw [hb])]
 exact wpAny_bind (wpAny_askSetting (wpAny_pure (wpAny_pure h)))
end
theorem rA:Slot "set_iterator" "__iter__" "set_iterator.__iter__" :=
 Slot.of (owner:="set_iterator") (n:="__iter__") (by rw [typeLookup_type,builtinLookup_eq_fast];kernel_rfl) (by decide +kernel) (by decide +kernel) (by decide +kernel) (by first|exact .inl (by decide +kernel)|exact .inr (by decide +kernel)) (by rw [isSubtype_type];kernel_rfl)
theorem xH:entryFor table "set_iterator.__iter__" = some Builtin.«dict_keyiterator.__iter__»:=entryFor_alias (id':="dict_keyiterator.__iter__") (by kernel_rfl) rfl (by decide +kernel) (by kernel_rfl)
theorem yK (a:Value):argsOk "set_iterator.__iter__" ⟨[a],[]⟩:=by unfold argsOk;kernel_rfl
section
variable {P:Program} {w:World} {A:Around} {E:Value->Shared->Prop} {s:Shared}
theorem pF {I:Addr} {Q:Value->Shared->Prop} (hT:s.TypeIs (.ref I) "set_iterator") (h:Q (.ref I) s):wpAny (model P w) A (pyIter (.ref I)) Q E s:=by
 refine wpAny_pyIter_slot hT rA (wpAny_call_entry rA hT xH ?_ (yK _))
 exact wpAny_pure ⟨_,rfl,"set_iterator",_,hT,dj.lookup,h⟩
abbrev G8 (out:List (Int×Value)):Nat->Value->Prop:=fun i v=>out[i]?.map (·.2)=some v
theorem zP {I a:Addr} {o:Obj} {es:Array (Int×Value)} {ep:Nat} {t:SetTable} {out:List (Int×Value)} {sl:Nat->Nat} (hh:A.handled=none) (ne:a≠I) (hd:o.data=.set es ep t) (hf:t.fits es.size=true)
 (nx:∀ {A:Around} {E:Value->Shared->Prop} (i:Nat) (s:Shared) (Q:Option (Value×Nat)->Shared->Prop),i≤out.length->s.heap.get? a=some o->Q (out[i]?.map fun e=>(e.2,sl (i+1))) s->wpAny (model P w) A (setNext a (sl i) i ep) Q E s) :
 Walks P w A I [I,a] [I] out.length (G8 out) (fun i h=>h.get? I=some (Av (.int (sl i) 0) i a es.size ep)/\h.get? a=some o) where
 sub:=fun b q=>by simp at q;simp [q]
 frame:=fun _ _ _ st k=>⟨k I (by simp) _ st.1,k a (by simp) _ st.2⟩
 item:=fun i s Q E hi st q=>by
  refine GQ (x:=out[i].2) (nx:=sl (i+1)) st.1 st.2 hd hf (fun Q' z=>nx i s Q' (Nat.le_of_lt hi) st.2 (by rw [List.getElem?_eq_getElem hi];exact z)) fun h' e sb=>?_
  exact q _ h' s.toks (by simp [G8,hi]) ⟨e,by rw [sb.2 a ne];exact st.2⟩ fun b u hb eb=>by rw [sb.2 b (fun z=>hb (by simp [z]))];exact eb
 done:=fun s Q E st q=>Jf hh st.1 st.2 hd hf (fun Q' z=>nx _ s Q' (Nat.le_refl _) st.2 (by rw [List.getElem?_eq_none (Nat.le_refl _)];exact z)) fun h' eb=>q h' s.toks fun b u hb e=>eb b u (fun z=>hb (by simp [z])) e
 self:=fun _ _ _ _ st q=>pF ⟨_,st.1,rfl⟩ q
theorem DW {I a T:Addr} {o oT:Obj} {es:Array (Int×Value)} {ep c:Nat} {t:SetTable} {ps:List Nat} {out:List (Int×Value)} (hh:A.handled=none) (ne:a≠I) (neT:T≠I) (hd:o.data=.set es ep t) (hf:t.fits es.size=true)
 (hT:oT.data=.seq (ps.map fun i:Nat=>rawInt i).toArray c) (hz:out.length=ps.length) (hp:∀ i p:Nat,ps[i]?=some p->es[p]?=out[i]?) :
 Walks P w A I [I,a,T] [I] out.length (G8 out) (fun i h=>h.get? I=some (Av (.ref T) i a es.size ep)/\h.get? a=some o/\h.get? T=some oT) where
 sub:=fun b q=>by simp at q;simp [q]
 frame:=fun _ _ _ st k=>⟨k I (by simp) _ st.1,k a (by simp) _ st.2.1,k T (by simp) _ st.2.2⟩
 item:=fun i s Q E hi st q=>by
  have hi':i<ps.length:=by rw [← hz];exact hi
  refine Ig (p:=ps[i]) (x:=out[i].2) (h0:=out[i].1) st.1 st.2.1 hd hf st.2.2 hT (by simp [hi',rawInt]) (by rw [hp i _ (List.getElem?_eq_getElem hi'),List.getElem?_eq_getElem hi]) fun h' e sb=>?_
  exact q _ h' s.toks (by simp [G8,hi]) ⟨e,by rw [sb.2 a ne];exact st.2.1,by rw [sb.2 T neT];exact st.2.2⟩ fun b u hb eb=>by rw [sb.2 b (fun z=>hb (by simp [z]))];exact eb
 done:=fun s Q E st q=>Ge hh st.1 st.2.1 hd hf st.2.2 hT (by simp [hz]) fun h' eb=>q h' s.toks fun b u hb e=>eb b u (fun z=>hb (by simp [z])) e
 self:=fun _ _ _ _ st q=>pF ⟨_,st.1,rfl⟩ q
theorem Fy {a:Addr} {ns:List Int} {Q:Value->Shared->Prop} (g:iJ P w s.heap a ns)
 (h:∀ (s':Shared) (I:Addr) (fp:List Addr) (out:List (Int×Value)) (St:Nat->Heap->Prop),s'.os=s.os->s'.gens=s.gens->s'.toks=s.toks->(∀ b o,s.heap.get? b=some o->s'.heap.get? b=some o)->(∀ b∈fp,b<s'.heap.objs.size/\(s.heap.objs.size≤b∨b=a))->(∀ A:Around,A.handled=none->Walks P w A I fp [I] out.length (G8 out) St)->St 0 s'.heap->
  s.heap.objs.size≤I->(∀ e∈out,∃ k t,e.2=.int k t)->(out.map fun e=>numOf e.2).Perm ns->Q (.ref I) s'):wpAny (model P w) A (pyIter (.ref a)) Q E s:=by
 obtain ⟨o,es,ep,t,ho,hex,hd,hel,hp,hb,hf,tg⟩:=g
 have hT:s.TypeIs (.ref a) "set":=⟨o,ho,hex.1⟩
 have la:=Heap.lt_size ho
 have ia:∀ out:List (Int×Value),out.Perm es.toList->(∀ e∈out,∃ k t,e.2=.int k t)/\(out.map fun e=>numOf e.2).Perm ns:=fun out q=>
  ⟨fun e he=>by
   obtain ⟨⟨k,hk,_⟩,_⟩:=hel e (q.mem_iff.mp he)
   obtain ⟨t,e⟩:=Value.isInt_shape hk
   exact ⟨k,t,e⟩,(q.map _).trans hp⟩
 refine wpAny_pyIter_slot hT PySem.F.slot_set_iter (wpAny_call_entry PySem.F.slot_set_iter hT oN ?_ (PySem.F.args_set_iter_1 _))
 unfold Builtin.«frozenset.__iter__»
 refine wpAny_bind (m:=Builtin.Frozenset.slot0 "__iter__" _) (wpAny_of_eq (a:=a) rfl ?_)
 refine wpAny_bind (m:=Builtin.Frozenset.sizeOf a) (wpAny_bind (wpAny_setEntries_of ho hd hf (wpAny_pure ?_)))
 unfold setDrawn
 refine wpAny_bind (wpAny_bind (wpAny_setState_of ho hd hf ?_))
 dsimp only
 refine wpAny_bind (jk ?_)
 refine wpAny_pure ?_
 split
 ·rename_i q
  refine wpAny_bind (p8 es.size (List.range es.size) _ (by simp) fun ys d hy=>?_)
  have hl:ys.length=es.size:=by rw [hy.length_eq,List.length_range]
  refine wpAny_bind (wpAny_newTuple ?_ (by rw [List.length_map,hl];exact fits_of_scanBound hb))
  have h1:(s.heap.push { cls:=.type "tuple",data:=.seq (ys.map fun i:Nat=>rawInt i).toArray }).get? s.heap.objs.size=some { cls:=.type "tuple",data:=.seq (ys.map fun i:Nat=>rawInt i).toArray }:=Heap.get?_push_size _ rfl
  have k1:=fun (b:Addr) (u:Obj) (e:s.heap.get? b=some u)=>Heap.get?_push_of_some { cls:=.type "tuple",data:=.seq (ys.map fun i:Nat=>rawInt i).toArray } e
  have z1:(s.heap.push { cls:=.type "tuple",data:=.seq (ys.map fun i:Nat=>rawInt i).toArray }).objs.size=s.heap.objs.size+1:=Heap.size_push ..
  generalize (s.heap.push { cls:=.type "tuple",data:=.seq (ys.map fun i:Nat=>rawInt i).toArray })=h2 at h1 k1 z1 ⊢
  refine wpAny_bind (wpAny_setEpoch_of (k1 _ _ ho) hd hf ?_)
  refine wpAny_bind (wpAny_newObj_type (wpAny_pure ⟨_,rfl,"set_iterator",_,⟨_,Heap.get?_push_size _ rfl,rfl⟩,dj.lookup,?_⟩))
  have hp2:(ys.map fun i=>(es[i]?).getD default).Perm es.toList:=by
   refine (hy.map _).trans (List.Perm.of_eq (List.ext_getElem (by simp) fun i q1 q2=>?_))
   have q3:i<es.size:=by simpa using q2
   simp [q3]
  obtain ⟨i1,i2⟩:=ia _ hp2
  refine h _ h2.objs.size [h2.objs.size,a,s.heap.objs.size] (ys.map fun i=>(es[i]?).getD default) _ rfl rfl rfl (fun b u e=>Heap.get?_push_of_some _ (k1 b u e)) ?_ (fun A' hh=>DW (ps:=ys) hh (by rw [z1];exact Nat.ne_of_lt (Nat.lt_succ_of_lt la)) (by rw [z1];exact Nat.ne_of_lt (Nat.lt_succ_self _)) hd hf rfl (by simp) ?_) ⟨Heap.get?_push_size _ rfl,Heap.get?_push_of_some _ (k1 _ _ ho),Heap.get?_push_of_some _ h1⟩ (by rw [z1];exact Nat.le_succ _) i1 i2
  ·intro b hb
   rw [Heap.size_push,z1]
   simp only [List.mem_cons,List.not_mem_nil,or_false] at hb
   rcases hb with rfl|rfl|rfl
   ·exact ⟨by rw [z1];exact Nat.lt_succ_self _,.inl (by rw [z1];exact Nat.le_succ _)⟩
   ·exact ⟨Nat.lt_succ_of_lt (Nat.lt_succ_of_lt la),.inr rfl⟩
   ·exact ⟨Nat.lt_succ_of_lt (Nat.lt_succ_self _),.inl (Nat.le_refl _)⟩
  ·intro i p e
   rw [List.getElem?_map,e]
   have hm:p∈List.range es.size:=hy.mem_iff.mp (List.mem_of_getElem? e)
   have hp3:p<es.size:=List.mem_range.mp hm
   simp [hp3]
 ·rename_i q
  refine wpAny_bind (wpAny_pure ?_)
  refine wpAny_bind (wpAny_setEpoch_of ho hd hf ?_)
  refine wpAny_bind (wpAny_newObj_type (wpAny_pure ⟨_,rfl,"set_iterator",_,⟨_,Heap.get?_push_size _ rfl,rfl⟩,dj.lookup,?_⟩))
  have q':(!rE w && (!t.plain && decide (es.size > 1)))=false:=by simpa using (show ¬ (!rE w && (!t.plain && decide (es.size > 1)))=true from q)
  have fpk:∀ b∈[s.heap.objs.size,a],b<(s.heap.push (Av (rawInt 0) 0 a es.size ep)).objs.size/\(s.heap.objs.size≤b∨b=a):=fun b hb=>by
   rw [Heap.size_push]
   simp only [List.mem_cons,List.not_mem_nil,or_false] at hb
   rcases hb with rfl|rfl
   ·exact ⟨Nat.lt_succ_self _,.inl (Nat.le_refl _)⟩
   ·exact ⟨Nat.lt_succ_of_lt la,.inr rfl⟩
  cases hbt:rE w with
  | false=>
    rw [hbt] at q' tg
    obtain ⟨i1,i2⟩:=ia es.toList (.refl _)
    exact h _ s.heap.objs.size [s.heap.objs.size,a] es.toList _ rfl rfl rfl (fun b u e=>Heap.get?_push_of_some _ e) fpk
     (fun A' hh=>zP (sl:=slotAt t.place) hh (Nat.ne_of_lt la) hd hf fun i s1 Q1 hi e z=>Kf e hd hf tg.rise hbt (by simpa using q') tg.led (by simpa using hi) (by simpa using z))
     ⟨Heap.get?_push_size _ rfl,Heap.get?_push_of_some _ ho⟩ (Nat.le_refl _) i1 i2
  | true=>
    obtain ⟨i1,i2⟩:=ia _ (ww (w.params.setOrder a ep) es)
    exact h _ s.heap.objs.size [s.heap.objs.size,a] (pickOrder (w.params.setOrder a ep) es).toList _ rfl rfl rfl (fun b u e=>Heap.get?_push_of_some _ e) fpk
     (fun A' hh=>zP (sl:=fun _=>0) hh (Nat.ne_of_lt la) hd hf fun i s1 Q1 hi e z=>nextT e hd hf hbt (by simpa using z))
     ⟨Heap.get?_push_size _ rfl,Heap.get?_push_of_some _ ho⟩ (Nat.le_refl _) i1 i2
end
theorem Bm:typeLookup (.type "set") "__len__" = pure (some (.builtin "set.__len__")):=by rw [typeLookup_type,builtinLookup_eq_fast];kernel_rfl
theorem tV {out:List (Int×Value)} {acc:Array Value} (hi:∀ e∈out,∃ k t,e.2=.int k t) (h:PySem.ItemsOf (G8 out) acc out.length):IntsAre acc.toList (out.map fun e=>numOf e.2):=by
 have e:acc.toList=out.map (·.2):=by
  refine List.ext_getElem (by rw [Array.length_toList,List.length_map];exact h.1) fun i q1 q2=>?_
  have q3:i<out.length:=by simpa using q2
  have q4:i<acc.size:=by simpa using q1
  have:=h.2 i acc[i] (by simp [q4])
  simp only [G8,List.getElem?_eq_getElem q3,Option.map_some,Option.some.injEq] at this
  simp [← this]
 rw [e]
 clear e h
 induction out with
 |nil=>exact .nil
 | cons x r ih=>
   obtain ⟨k,t,e⟩:=hi x (List.mem_cons_self ..)
   simp only [List.map_cons,e]
   exact .cons k t (ih fun y hy=>hi y (List.mem_cons_of_mem _ hy))
section
variable {P:Program} {w:World} {A:Around} {E:Value->Shared->Prop} {s:Shared}
theorem vN {a:Addr} {ns:List Int} {Q:List Value->Shared->Prop} (hh:A.handled=none) (g:iJ P w s.heap a ns) (hz:ns.length≤1000)
 (hQ:∀ s' vs ms,s'.os=s.os->s'.gens=s.gens->s.heap.objs.size≤s'.heap.objs.size->(∀ b o,s.heap.get? b=some o->s'.heap.get? b=some o)->IntsAre vs ms->ms.Perm ns->Q vs s'):wpAny (model P w) A (collect (.ref a)) Q E s:=by
 have la:a<s.heap.objs.size:=by
  obtain ⟨o,es,ep,t,ho,_⟩:=g
  exact Heap.lt_size ho
 have ty:∀ {s':Shared},iJ P w s'.heap a ns->s'.TypeIs (.ref a) "set":=fun g=>by
  obtain ⟨o,es,ep,t,ho,hex,_⟩:=g
  exact ⟨o,ho,hex.1⟩
 unfold collect
 refine wpAny_bind (wpAny_runValue (codeAny_builtin PySem.F.entry_proto_collect ?_))
 rw [Around.under_plainId PySem.F.plain_proto_collect _]
 refine wpAny_bind (m:=newList []) (wpAny_newObj_type ?_)
 refine wpAny_pure ⟨plainId_quiet PySem.F.plain_list_iadd _,codeAny_builtin PySem.F.entry_list_iadd ?_⟩
 rw [Around.under_plainId PySem.F.plain_list_iadd _]
 show wpAny _ A.in1 (Builtin.List.listExtendWith (.ref s.heap.objs.size) (.ref a) (.ref s.heap.objs.size)) _ _ _
 have hS₁:(s.heap.push { cls:=.type "list",data:=.seq ([]:List Value).toArray }).get? s.heap.objs.size=some { cls:=.type "list",data:=.seq ([]:List Value).toArray }:=Heap.get?_push_size _ rfl
 have k₁:∀ b o,s.heap.get? b=some o->(s.heap.push { cls:=.type "list",data:=.seq ([]:List Value).toArray }).get? b=some o:=fun b o e=>Heap.get?_push_of_some _ e
 have z₁:(s.heap.push { cls:=.type "list",data:=.seq ([]:List Value).toArray }).objs.size=s.heap.objs.size+1:=by rw [Heap.size_push]
 generalize (s.heap.push { cls:=.type "list",data:=.seq ([]:List Value).toArray })=H₁ at hS₁ k₁ z₁ ⊢
 have g₁:iJ P w H₁ a ns:=g.at fun o e=>k₁ _ _ e
 unfold Builtin.List.listExtendWith
 refine wpAny_bind (wpAny_typeOf (s:={ s with heap:=H₁ }) (ty g₁) ?_)
 have h1:Builtin.List.listSameRef (.ref s.heap.objs.size) (.ref a)=false:=by simp [Builtin.List.listSameRef,Nat.ne_of_gt la]
 have h2:(Value.type "set" == Value.type "list")=false:=by decide
 have h3:(Value.type "set" == Value.type "tuple")=false:=by decide
 simp only [h1,h2,h3,Bool.or_false,Bool.false_eq_true,if_false]
 refine wpAny_bind (Fy (s:={ s with heap:=H₁ }) g₁ fun s₂ I fp out St e1 e2 e3 k₂ fpk W st lI hi hp=>?_)
 have g₂:iJ P w s₂.heap a ns:=g₁.at fun o e=>k₂ _ _ e
 refine wpAny_bind (wpAny_holding ?_)
 unfold Builtin.List.listLengthHint
 refine wpAny_bind (wpAny_specialOf (ty g₂) Bm ?_)
 wp_delta
 refine wpAny_bind (wpAny_isInstance (b:=true) (ty g₂) (by rw [isSubtype_type];kernel_rfl) ?_)
 refine wpAny_bind (m:=typeOf (Value.ref a)) (wpAny_typeOf (ty g₂) ?_)
 refine wpAny_pure ?_
 show wpAny _ A.in1 (rule "list.extend.makes-room" >>= fun _=>Builtin.List.listTouch (.ref s.heap.objs.size) >>= fun _=>
  again (.builtin "list.extend.loop" ⟨[.ref s.heap.objs.size,.ref I,.ref s.heap.objs.size],[]⟩)) _ _ _
 refine wpAny_bind (wpAny_rule (wpAny_bind ?_))
 show wpAny _ A.in1 (updateSeq s.heap.objs.size (·.push .none) >>= fun _=>updateSeq s.heap.objs.size (·.pop)) _ _ _
 have hS₂:=k₂ _ _ hS₁
 refine wpAny_bind (wpAny_updateSeq hS₂ rfl ?_)
 have hS₃:=Heap.get?_update_self (Obj.mapSeq (·.push Value.none)) hS₂ rfl
 refine wpAny_updateSeq hS₃ rfl ?_
 have hS₄:=Heap.get?_update_self (Obj.mapSeq (·.pop)) hS₃ rfl
 have oth:∀ b o,b≠s.heap.objs.size->s₂.heap.get? b=some o->((s₂.heap.update s.heap.objs.size (Obj.mapSeq (·.push Value.none))).update s.heap.objs.size (Obj.mapSeq (·.pop))).get? b=some o:=
  fun b o hb e=>(Heap.get?_update_other _ _ (Ne.symm hb)).trans ((Heap.get?_update_other _ _ (Ne.symm hb)).trans e)
 dsimp only at hS₄ oth ⊢
 generalize ((s₂.heap.update s.heap.objs.size (Obj.mapSeq (·.push Value.none))).update s.heap.objs.size (Obj.mapSeq (·.pop)))=H₄ at hS₄ oth ⊢
 have nf:s.heap.objs.size∉fp:=fun q=>by
  rcases (fpk _ q).2 with z|z
  ·dsimp only at z
   rw [z₁] at z
   exact absurd z (Nat.not_le_of_lt (Nat.lt_succ_self _))
  ·exact absurd z (Nat.ne_of_gt la)
 have hlen:out.length≤1000:=by rw [← List.length_map (f:=fun e:Int×Value=>numOf e.2),hp.length_eq];exact hz
 have W1:=W A.in1 (by simp [hh])
 refine wpAny_pure ⟨plainId_quiet PySem.F.plain_extend_loop _,codeAny_extend_loopS W1.toS (Nat.le_trans hlen (by decide)) s.heap.objs.size nf (.ref s.heap.objs.size) _ 0 { s₂ with heap:=H₄ } #[] 2 rfl (Nat.zero_le _) (W1.frame 0 _ _ st fun b q o e=>oth b o (fun z=>nf (z ▸ q)) e) hS₄ (PySem.ItemsOf.nil _) fun s' acc c mv e it=>?_⟩
 dsimp only
 refine wpAny_bind (wpAny_load e ?_)
 refine wpAny_pure (hQ s' acc.toList _ (mv.os.trans e1) (Eq.trans mv.gens e2) (Nat.le_of_lt (Heap.lt_size e)) (fun b o eb=>?_) (tV hi it) hp)
 have lb:=Heap.lt_size eb
 refine mv.heap b o ?_ (oth _ _ (Nat.ne_of_lt lb) (k₂ _ _ (k₁ _ _ eb)))
 simp only [List.mem_cons,List.not_mem_nil,or_false,not_or]
 refine ⟨Nat.ne_of_lt lb,Nat.ne_of_lt (Nat.lt_of_lt_of_le lb (Nat.le_trans ?_ lI))⟩
 dsimp only
 rw [z₁]
 exact Nat.le_succ _
theorem yN {a:Addr} {ns:List Int} {Q:Value->Shared->Prop} (hh:A.handled=none) (g:iJ P w s.heap a ns) (hz:ns.length<64)
 (hQ:∀ s' l c vs ms,s'.os=s.os->s'.gens=s.gens->s.heap.objs.size≤l->(∀ b o,s.heap.get? b=some o->s'.heap.get? b=some o)->s'.heap.get? l=some (seqObj "list" vs c)->IntsAre vs.toList ms->ms.Perm ns->ms.Pairwise (·≤·)->Q (.ref l) s'):wpAny (model P w) A (call (.builtin "sorted") [.ref a]) Q E s:=by
 refine Calls.call_function_entry kind_sorted plain_sorted entry_sorted (args_sorted1 _) ?_
 unfold Builtin.«sorted»
 refine wpAny_bind (m:=checkCount "sorted" 1 1 _) (wpAny_pure ?_)
 refine wpAny_bind (vN (by simp [hh]) g (by omega) fun s₁ vs ms e1 e2 le k hi hp=>?_)
 have hl:vs.length<64:=by rw [hi.length,hp.length_eq];exact hz
 refine wpAny_bind (wpAny_newList ?_ (Nat.le_trans (Nat.le_of_lt hl) (by decide)))
 have hoL:(s₁.heap.push (seqObj "list" vs.toArray 0)).get? s₁.heap.objs.size=some (seqObj "list" vs.toArray 0):=Heap.get?_push_size _ rfl
 show wpAny _ _ _ _ _ { s₁ with heap:=s₁.heap.push (seqObj "list" vs.toArray 0) }
 refine wpAny_bind (wpAny_holding (wpAny_call_entry slot_list_sort ⟨_,hoL,rfl⟩ entry_list_sort (list_sort_tree hoL hi hl fun out ns' a1 a2 a3=>⟨_,rfl,?_⟩) (args_list_sort _)))
 obtain ⟨c,ec⟩:=sortedHeap_at (vs:=vs) (out:=out) hoL
 refine wpAny_pure ⟨_,rfl,hQ _ _ c out ns' e1 e2 le (fun b o e=>?_) ec a1 (a2.trans hp) a3⟩
 have lb:=Nat.lt_of_lt_of_le (Heap.lt_size e) le
 rw [sortedHeap_old (Nat.ne_of_lt lb) (by rw [Heap.size_push];exact Nat.lt_succ_of_lt lb)]
 exact Heap.get?_push_of_some _ (k _ _ e)
end
def setG (P:Program) (w:World) (a:Addr) (ns:List Int):HO:=.ext fun h=>iJ P w h a ns
theorem An {P:Program} {w:World} {H:Hp} {h:Heap} {a:Addr} {ns:List Int} (x:iJ P w h a ns):bZ P w H h a (setG P w a ns):=by
 refine ⟨x,?_,fun h1 h2 z k=>z.at fun o e=>k _ e⟩
 obtain ⟨o,es,ep,t,e,_⟩:=x
 exact ⟨o,e⟩
section
variable {X:Cx} {Z:List (Addr×Obj)} {O:List (Option V)} {H:Hp} {s:Shared}
theorem Inv.dr (I:Inv X Z O H s) (d:Drawn):Inv X Z O H { s with drawn:=d }:=⟨I.ok,I.os,I.bare,I.base,I.loc,I.cell,I.free,I.freeC,I.pin,I.hok,I.len⟩
theorem vL (hc:X.calm=true):dH X (.type "set") (fun xs H Q=>∃ (p:Addr) (ns:List Int),xs=[.ref p]/\aQ X.K H p (ns.map V.int)/\ns.length≤1000/\∀ a,H a=none->Q (.ref a) (upd H a (setG X.prog X.w a (dd ns)))):=by
 intro Z s O H xs us Q I r h
 obtain ⟨p,ns,rfl,hq,hl,q⟩:=h
 obtain ⟨u,rfl,ru⟩:=vals1 r
 cases (show u=Value.ref p from ru)
 obtain ⟨its,rv,pl,hz⟩:=I.list hq
 have hlen:=rv.length
 rw [List.length_map] at hlen
 refine xx (ns:=ns) (I.ok.hd hc) pl.isList (lL rv) (by rw [List.size_toArray,← hlen];exact Nat.lt_of_le_of_lt (show ns.length+1≤1001 by omega) (by decide)) fun h' tk g kp=>?_
 exact ⟨.ref s.heap.objs.size,_,I.laid (t':=tk) kp (Nat.le_refl _) (An g),rfl,q _ (I.hok.fresh (Nat.le_refl _))⟩
theorem qe (hc:X.calm=true):dH X (.builtin "sorted") (fun xs H Q=>∃ (a:Addr) (ns:List Int),xs=[.ref a]/\H a=some (setG X.prog X.w a ns)/\ns.length<64/\∀ (ms:List Int) l,ms.Perm ns->ms.Pairwise (·≤·)->H l=none->Q (.ref l) (upd H l (.lst (ms.map V.int)))):=by
 intro Z s O H xs us Q I r h
 obtain ⟨a,ns,rfl,ha,hl,q⟩:=h
 obtain ⟨u,rfl,ru⟩:=vals1 r
 cases (show u=Value.ref a from ru)
 refine yN (I.ok.hd hc) (I.hok a _ ha).1 hl fun s' l c vs ms e1 e2 le k e hi hp hs=>?_
 obtain ⟨h',g',d',tk',os'⟩:=s'
 dsimp only at e1 e2 k e
 subst e1;subst e2
 have lz:(ms.map V.int).length≤sizeLine:=by rw [List.length_map,hp.length_eq];exact Nat.le_trans (Nat.le_of_lt hl) (by decide)
 exact ⟨.ref l,_,(I.laid (t':=tk') k le (show bZ X.prog X.w _ _ _ (.lst (ms.map V.int)) from ⟨lz,vs.toList,c,k_ hi,by simpa using e⟩)).dr d',rfl,q ms l hp hs (I.hok.fresh le)⟩
end
def Bk (a:Addr) (n:Nat):HO:=.ext fun h=>∃ t u v,IsRange h a 0 n 1 t u v
theorem Cg {P:Program} {w:World} {H:Hp} {h:Heap} {a:Addr} {n:Nat} (x:∃ t u v,IsRange h a 0 n 1 t u v):bZ P w H h a (Bk a n):=by
 refine ⟨x,?_,fun h1 h2 z k=>?_⟩
 ·obtain ⟨t,u,v,e⟩:=x
  exact ⟨_,e⟩
 ·obtain ⟨t,u,v,e⟩:=z
  exact ⟨t,u,v,k _ e⟩
theorem zj:bootBuiltins "range" = some (.type "range"):=by decide +kernel
theorem uw {n:Nat} {acc:Array Value} (h:PySem.ItemsOf (fun i v=>∃ t,v=.int (0+i*1) t) acc n):Vals ((List.range n).map fun i:Nat=>V.int i) acc.toList:=by
 obtain ⟨hz,hv⟩:=h
 obtain ⟨l⟩:=acc
 simp only [List.size_toArray] at hz
 have hv':∀ (i:Nat) v,l[i]?=some v->∃ t,v=.int i t:=fun i v e=>by
  obtain ⟨t,q⟩:=hv i v (by simpa using e)
  exact ⟨t,by rw [q];simp⟩
 have go:∀ (l:List Value) (k:Nat),(∀ (i:Nat) v,l[i]?=some v->∃ t,v=.int ((k+i:Nat):Int) t)->Vals ((List.range' k l.length).map fun i:Nat=>V.int i) l:=fun l=>by
  induction l with
  |nil=>intro k _;exact .nil
  | cons x r ih=>
    intro k q
    rw [List.length_cons,List.range'_succ,List.map_cons]
    refine .cons ?_ (ih (k+1) fun i v e=>?_)
    ·obtain ⟨t,e⟩:=q 0 x rfl
     exact ⟨t,e⟩
    ·obtain ⟨t,e2⟩:=q (i+1) v (by simpa using e)
     exact ⟨t,by rw [e2];congr 2;omega⟩
 have:=go l 0 (fun i v e=>by simpa using hv' i v e)
 rw [hz] at this
 rwa [List.range_eq_range']
section
variable {X:Cx}
theorem qT:dH X (.type "range") (fun xs H Q=>∃ n:Nat,xs=[.int n]/\∀ a,H a=none->Q (.ref a) (upd H a (Bk a n))):=by
 intro Z s O H xs us Q I r h
 obtain ⟨n,rfl,q⟩:=h
 obtain ⟨u,rfl,t,rfl⟩:=vals1 r
 refine call_range_1 ⟨.ref s.heap.objs.size,_,I.laid (t':=s.toks+1+1) (fun b o e=>Heap.get?_push_of_some _ e) (Nat.le_refl _) (Cg ⟨_,_,_,IsRange.new ..⟩),rfl,q _ (I.hok.fresh (Nat.le_refl _))⟩
theorem ux (hc:X.calm=true):dH X (.type "list") (fun xs H Q=>∃ (a:Addr) (n:Nat),xs=[.ref a]/\H a=some (Bk a n)/\n≤1000/\∀ l,H l=none->Q (.ref l) (upd H l (.lst ((List.range n).map fun i:Nat=>V.int i)))):=by
 intro Z s O H xs us Q I r h
 obtain ⟨a,n,rfl,ha,hl,q⟩:=h
 obtain ⟨u,rfl,ru⟩:=vals1 r
 cases (show u=Value.ref a from ru)
 obtain ⟨t,u,v,hr⟩:=(I.hok a _ ha).1
 refine call_list_range (I.ok.hd hc) hr (small_one (by decide) (by decide) (by omega) (by omega)) (n:=n) (by rw [rangeSize_one];split <;> omega) (by omega) fun h' tk acc c kp e it=>?_
 have lz:((List.range n).map fun i:Nat=>V.int i).length≤sizeLine:=by rw [List.length_map,List.length_range];exact Nat.le_trans hl (by decide)
 exact ⟨.ref s.heap.objs.size,_,I.laid (t':=tk) kp (Nat.le_refl _) (show bZ X.prog X.w _ _ _ (.lst ((List.range n).map fun i:Nat=>V.int i)) from ⟨lz,acc.toList,c,uw it,by simpa using e⟩),rfl,q _ (I.hok.fresh (Nat.le_refl _))⟩
end
end L2
namespace L2
open PySem PySem.Spec PyProof.Rows PySem.SeqAt PySem.W
abbrev vl (rk:Nat->Int) (p:Array Nat) (k:Nat):Int:=rk (p.getD k 0)
def jL (rk:Nat->Int) (p:Array Nat) (m:Nat):Prop:=∀ i j,i<j->j<m->vl rk p i<vl rk p j
def wO (rk:Nat->Int) (p:Array Nat) (m:Nat):Prop:=∀ i j,i<j->j<m->vl rk p j<vl rk p i
def mG (n:Nat) (p:Array Nat):Prop:=p.toList.Perm (List.range n)
theorem mG.size {n:Nat} {p:Array Nat} (h:mG n p):p.size=n:=by have:=List.Perm.length_eq h;simpa using this
theorem lC {p:Array Nat} {k:Nat} (h:k<p.size):p.getD k 0=p[k]:=by simp [Array.getD,h]
theorem mG.lt {n:Nat} {p:Array Nat} (h:mG n p) {k:Nat} (hk:k<n):p.getD k 0<n:=by
 have hz:=h.size
 rw [lC (by omega)]
 exact List.mem_range.mp ((List.Perm.mem_iff h).mp (by simp))
theorem mG.inj {n:Nat} {p:Array Nat} (h:mG n p) {k l:Nat} (hk:k<n) (hl:l<n) (e:p.getD k 0=p.getD l 0):k=l:=by
 have hz:=h.size
 rw [lC (by omega),lC (by omega)] at e
 have nd:p.toList.Nodup:=(List.Perm.nodup_iff h).mpr List.nodup_range
 have pw:=List.pairwise_iff_getElem.mp nd
 have hq:p.toList.length=p.size:=Array.length_toList ..
 have hk':k<p.toList.length:=by omega
 have hl':l<p.toList.length:=by omega
 rcases Nat.lt_trichotomy k l with z|z|z
 ·exact absurd (by rw [Array.getElem_toList,Array.getElem_toList];exact e) (pw k l hk' hl' z)
 ·exact z
 ·exact absurd (by rw [Array.getElem_toList,Array.getElem_toList];exact e.symm) (pw l k hl' hk' z)
structure Rk (n:Nat) (rk:Nat->Int) (cmp:Nat->Nat->(Bool->Shared->Prop)->Shared->Prop) (s:Shared):Prop where
 inj:∀ i j,i<n->j<n->rk i=rk j->i=j
 ask:∀ i j C,i<n->j<n->C (decide (rk i<rk j)) s->cmp i j C s
section
variable {n:Nat} {rk:Nat->Int} {cmp:Nat->Nat->(Bool->Shared->Prop)->Shared->Prop} {s:Shared}
theorem yV {p:Array Nat} (X:Rk n rk cmp s) (h:mG n p) {k l:Nat} (hk:k<n) (hl:l<n) (ne:k≠l):vl rk p k≠vl rk p l:=fun e=>ne (h.inj hk hl (X.inj _ _ (h.lt hk) (h.lt hl) e))
theorem jL.next {p:Array Nat} {a:Nat} (U:jL rk p a) (h1:1≤a) (h:vl rk p (a-1)<vl rk p a):jL rk p (a+1):=fun i j hij hj=>by
 by_cases q:j<a
 ·exact U i j hij q
 ·obtain rfl:j=a:=by omega
  by_cases q2:i=j-1
  ·rw [q2];exact h
  ·exact Int.lt_trans (U i (j-1) (by omega) (by omega)) h
theorem wO.next {p:Array Nat} {a:Nat} (U:wO rk p a) (h1:1≤a) (h:vl rk p a<vl rk p (a-1)):wO rk p (a+1):=fun i j hij hj=>by
 by_cases q:j<a
 ·exact U i j hij q
 ·obtain rfl:j=a:=by omega
  by_cases q2:i=j-1
  ·rw [q2];exact h
  ·exact Int.lt_trans h (U i (j-1) (by omega) (by omega))
theorem ug (X:Rk n rk cmp s) {p:Array Nat} (hp:mG n p) {Q:Nat->Shared->Prop}:∀ (f a:Nat),1≤a->a+f≤n->jL rk p a->(∀ m,a≤m->m≤a+f->jL rk p m->(m=a+f∨vl rk p m<vl rk p (m-1))->Q m s)->(kas_asc p f a).kasWp cmp Q s
 |0,a,h1,h2,U,go=>go a (Nat.le_refl _) (Nat.le_refl _) U (.inl rfl)
 | f+1,a,h1,h2,U,go=>by
   refine X.ask _ _ _ (hp.lt (by omega)) (hp.lt (by omega)) ?_
   by_cases c:vl rk p a<vl rk p (a-1)
   ·rw [decide_eq_true c]
    dsimp only
    rw [if_pos rfl]
    exact go a (Nat.le_refl _) (by omega) U (.inr c)
   ·rw [decide_eq_false c]
    dsimp only
    rw [if_neg (by decide)]
    have:=yV X hp (k:=a) (l:=a-1) (by omega) (by omega) (by omega)
    exact ug X hp f (a+1) (by omega) (by omega) (U.next h1 (by omega)) fun m m1 m2 U' e=>go m (by omega) (by omega) U' (e.imp (fun e=>by omega) id)
theorem uO (X:Rk n rk cmp s) {p:Array Nat} (hp:mG n p) {Q:Array Nat×Nat×Nat->Shared->Prop}:∀ (f a:Nat),1≤a->a+f≤n->wO rk p a->(∀ m,a≤m->m≤a+f->wO rk p m->Q (p,m,0) s)->(kas_desc f p a 0).kasWp cmp Q s
 |0,a,h1,h2,U,go=>go a (Nat.le_refl _) (Nat.le_refl _) U
 | f+1,a,h1,h2,U,go=>by
   refine X.ask _ _ _ (hp.lt (by omega)) (hp.lt (by omega)) ?_
   by_cases c:vl rk p a<vl rk p (a-1)
   ·rw [decide_eq_true c]
    dsimp only
    rw [if_pos rfl,if_neg (by omega)]
    exact uO X hp f (a+1) (by omega) (by omega) (U.next h1 c) fun m m1 m2 U'=>go m (by omega) (by omega) U'
   ·rw [decide_eq_false c]
    dsimp only
    rw [if_neg (by decide)]
    have:=yV X hp (k:=a) (l:=a-1) (by omega) (by omega) (by omega)
    refine X.ask _ _ _ (hp.lt (by omega)) (hp.lt (by omega)) ?_
    rw [decide_eq_true (show rk (p.getD (a-1) 0)<rk (p.getD a 0) by have:=c;simp only [vl] at *;omega)]
    dsimp only
    rw [if_pos rfl]
    exact go a (Nat.le_refl _) (by omega) U
theorem zq {p:Array Nat} {m:Nat} (hm:m≤p.size) {k:Nat} (hk:k<m):vl rk (kas_rev p 0 m) k=vl rk p (m-1-k):=by
 unfold vl kas_rev
 rw [Array.getD_eq_getD_getElem?,getElem?_mirror_all hm,if_pos ⟨Nat.zero_le _,hk⟩,Nat.zero_add,← Array.getD_eq_getD_getElem?]
theorem mG.rev {p:Array Nat} (h:mG n p) (i j:Nat):mG n (kas_rev p i j):=(Array.perm_iff_toList_perm.mp (mirror_perm _ _ _ _)).trans h
theorem BW (X:Rk n rk cmp s) {p:Array Nat} (hp:mG n p) {m:Nat} {Q:Nat×Array Nat->Shared->Prop} (h1:1≤m) (h2:m≤n) (D:wO rk p m) (go:∀ m' p',1≤m'->m'≤n->mG n p'->jL rk p' m'->Q (m',p') s):(kas_tail3 m n p).kasWp cmp Q s:=by
 unfold kas_tail3
 rw [KasT.kasWp_bind]
 have hz:=hp.size
 refine ug X (hp.rev 0 m) _ m h1 (by omega) (fun i j hij hj=>?_) fun m' a b U _=>go m' _ (by omega) (by omega) (hp.rev 0 m) U
 rw [zq (by omega) (by omega),zq (by omega) hj]
 exact D _ _ (by omega) (by omega)
theorem yF (X:Rk n rk cmp s) {p:Array Nat} (hp:mG n p) {Q:Nat×Array Nat->Shared->Prop} (h1:1≤n) (go:∀ m' p',1≤m'->m'≤n->mG n p'->jL rk p' m'->Q (m',p') s):(kas_count n p).kasWp cmp Q s:=by
 unfold kas_count
 rw [KasT.kasWp_bind]
 refine ug X hp _ 1 (Nat.le_refl _) (by omega) (fun i j hij hj=>by omega) fun m a b U e=>?_
 by_cases q:m=n
 ·rw [if_pos (by simpa using q)]
  exact go m p a (by omega) hp U
 ·rw [if_neg (by simpa using q)]
  have c:vl rk p m<vl rk p (m-1):=e.resolve_left (by omega)
  by_cases q1:m > 1
  ·rw [if_pos q1]
   refine X.ask _ _ _ (hp.lt (by omega)) (hp.lt (by omega)) ?_
   rw [decide_eq_true (U 0 (m-1) (by omega) (by omega))]
   dsimp only
   rw [if_pos rfl]
   exact go m p a (by omega) hp U
  ·rw [if_neg q1]
   obtain rfl:m=1:=by omega
   unfold kas_descPart
   rw [KasT.kasWp_bind]
   refine uO X hp _ 2 (by omega) (by omega) (fun i j hij hj=>?_) fun m' a' b' D=>?_
   ·obtain rfl:i=0:=by omega
    obtain rfl:j=1:=by omega
    exact c
   ·dsimp only
    rw [if_neg (by omega)]
    exact BW X hp (by omega) (by omega) D go
theorem nM (X:Rk n rk cmp s) {p:Array Nat} (hp:mG n p) {k:Nat} (hk:k<n) {Q:Nat->Shared->Prop}:∀ (f l r:Nat),l≤r->r≤k->r-l≤f->(∀ i,i<l->vl rk p i<vl rk p k)->(∀ i,r≤i->i<k->vl rk p k<vl rk p i)->
 (∀ m,m≤k->(∀ i,i<m->vl rk p i<vl rk p k)->(∀ i,m≤i->i<k->vl rk p k<vl rk p i)->Q m s)->jL rk p k->(kas_place p k f l r).kasWp cmp Q s
 | 0,l,r,h1,h2,h3,a1,a2,go,U=>by
   obtain rfl:l=r:=by omega
   exact go l h2 a1 a2
 | f+1,l,r,h1,h2,h3,a1,a2,go,U=>by
   unfold kas_place
   by_cases q:l ≥ r
   ·rw [if_pos q]
    obtain rfl:l=r:=by omega
    exact go l h2 a1 a2
   ·rw [if_neg q]
    refine X.ask _ _ _ (hp.lt hk) (hp.lt (by omega)) ?_
    have ne:=yV X hp (k:=k) (l:=(l+r) / 2) hk (by omega) (by omega)
    by_cases c:vl rk p k<vl rk p ((l+r) / 2)
    ·rw [decide_eq_true c]
     dsimp only
     rw [if_pos rfl]
     refine nM X hp hk f l _ (by omega) (by omega) (by omega) a1 (fun i h4 h5=>?_) go U
     by_cases z:i=(l+r) / 2
     ·rw [z];exact c
     ·exact Int.lt_trans c (U _ _ (by omega) h5)
    ·rw [decide_eq_false c]
     dsimp only
     rw [if_neg (by decide)]
     refine nM X hp hk f _ r (by omega) (by omega) (by omega) (fun i h4=>?_) a2 go U
     by_cases z:i=(l+r) / 2
     ·rw [z];omega
     ·have:=U i ((l+r) / 2) (by omega) (by omega)
      omega
theorem zX {p:Array Nat} {k l j:Nat} (hk:k<p.size) (hl:l≤k):vl rk (bubble p k (k-l)) j=if j=l then vl rk p k else if l<j/\j≤k then vl rk p (j-1) else vl rk p j:=by
 have e:k-(k-l)=l:=by omega
 unfold vl
 rw [Array.getD_eq_getD_getElem?,getElem?_bubble hk _ (by omega),e]
 by_cases c:j=l
 ·rw [if_pos c,if_pos c,← Array.getD_eq_getD_getElem?]
 ·rw [if_neg c,if_neg c]
  by_cases d:l<j/\j≤k
  ·rw [if_pos d,if_pos d,← Array.getD_eq_getD_getElem?]
  ·rw [if_neg d,if_neg d,← Array.getD_eq_getD_getElem?]
theorem zQ (X:Rk n rk cmp s) {Q:Array Nat->Shared->Prop} (go:∀ p',mG n p'->jL rk p' n->Q p' s):∀ (f:Nat) (p:Array Nat) (k:Nat),mG n p->jL rk p k->k+f=n->(kas_bin f p k).kasWp cmp Q s
 |0,p,k,hp,U,e=>go p hp (by rw [← e];exact U)
 | f+1,p,k,hp,U,e=>by
   unfold kas_bin
   rw [KasT.kasWp_bind]
   have hz:=hp.size
   refine nM X hp (by omega) k 0 k (by omega) (by omega) (by omega) (fun i h=>by omega) (fun i h1 h2=>by omega) (fun l hl a1 a2=>?_) U
   refine zQ X go f _ (k+1) ((Array.perm_iff_toList_perm.mp (bubble_perm _ _ _)).trans hp) (fun i j hij hj=>?_) (by omega)
   rw [zX (by omega) hl,zX (by omega) hl]
   by_cases c1:j=l
   ·rw [if_pos c1,if_neg (by omega),if_neg (by omega)]
    exact a1 i (by omega)
   ·rw [if_neg c1]
    by_cases c2:l<j/\j≤k
    ·rw [if_pos c2]
     by_cases c3:i=l
     ·rw [if_pos c3]
      exact a2 _ (by omega) (by omega)
     ·rw [if_neg c3]
      by_cases c4:l<i/\i≤k
      ·rw [if_pos c4]
       exact U _ _ (by omega) (by omega)
      ·rw [if_neg c4]
       exact U _ _ (by omega) (by omega)
    ·rw [if_neg c2,if_neg (by omega),if_neg (by omega)]
     exact U _ _ hij (by omega)
theorem Ar (X:Rk n rk cmp s) {Q:Array Nat->Shared->Prop} (h1:1≤n) (go:∀ p',mG n p'->jL rk p' n->Q p' s):(kas_sort n).kasWp cmp Q s:=by
 unfold kas_sort
 rw [KasT.kasWp_bind]
 refine yF X (p:=(List.range n).toArray) (by unfold mG;exact .refl _) h1 fun m p a b hp U=>?_
 dsimp only
 by_cases c:m<n
 ·rw [if_pos c,Nat.max_eq_left a]
  exact zQ X go _ p m hp U (by omega)
 ·rw [if_neg c]
  obtain rfl:m=n:=by omega
  exact go p hp U
end
abbrev j_:=Int×Int×Int
def eN (x:j_):Int:=x.1*1000000000000+x.2.1*1000000+x.2.2
structure lE (x:j_):Prop where
 a:0≤x.2.1/\x.2.1<1000000
 b:0≤x.2.2/\x.2.2<1000000
theorem uF {x y:j_} (hx:lE x) (hy:lE y) (e:eN x=eN y):x=y:=by
 obtain ⟨x1,x2,x3⟩:=x
 obtain ⟨y1,y2,y3⟩:=y
 obtain ⟨⟨a1,a2⟩,b1,b2⟩:=hx
 obtain ⟨⟨c1,c2⟩,d1,d2⟩:=hy
 simp only [eN] at *
 have:x1=y1:=by omega
 have:x2=y2:=by omega
 have:x3=y3:=by omega
 subst_vars
 rfl
def dR (h:Heap) (v:Value) (x:j_):Prop:=∃ b t1 t2 t3,v=.ref b/\IsTup h b #[.int x.1 t1,.int x.2.1 t2,.int x.2.2 t3]
theorem xu (f:Bool) (x y:Value):keyLt' (tuples' f) x y=(do
 let xs ← Builtin.List.listItems x;let ys ← Builtin.List.listItems y
 for ((p,q),i) in (xs.toList.zip ys.toList).zipIdx do
  if !(← eqBool p q) then return ← oneLt' (f && i == 0) p q
 return xs.size<ys.size):=rfl
section
variable {prog:Program} {w:World} {A:Around} {E:Value->Shared->Prop} {s:Shared}
theorem sS {f:Bool} {a b:Int} {t u:Tok} {Q:Bool->Shared->Prop} (h:Q (decide (a<b)) s):wpAny (model prog w) A (oneLt' f (.int a t) (.int b u)) Q E s:=by
 cases f with
 |true=>exact oneLt_int h
 | false=>
   rw [oneLt'_eq]
   refine wpAny_bind (m:=richCompare .Lt (.int a t) (.int b u)) ?_
   refine PyProof.Rows.lt_int (Q:=fun r s'=>wpAny (model prog w) A (truthOfDropped r) Q E s') ?_
   exact wpAny_truthy_bool h
theorem lW {a:Addr} {xs:Array Value} {Q:Array Value->Shared->Prop} (h:IsTup s.heap a xs) (q:Q xs s):wpAny (model prog w) A (Builtin.List.listItems (.ref a)) Q E s:=by
 obtain ⟨o,ho,hc,n,hd⟩:=h
 exact listItems_at ho hd q
theorem vY {f:Bool} {x y:Value} {a b:j_} {C:Bool->Shared->Prop} (hx:dR s.heap x a) (hy:dR s.heap y b) (oa:lE a) (ob:lE b) (h:C (decide (eN a<eN b)) s):wpAny (model prog w) A (keyLt' (tuples' f) x y) C (fun _ _=>False) s:=by
 obtain ⟨p,t1,t2,t3,rfl,h1⟩:=hx
 obtain ⟨q,u1,u2,u3,rfl,h2⟩:=hy
 rw [xu]
 refine wpAny_bind (lW h1 (wpAny_bind (lW h2 ?_)))
 simp only [List.zip_cons_cons,List.zip_nil_right,List.zipIdx_cons,List.zipIdx_nil,List.forIn_cons,List.forIn_nil]
 have h0:a=b->C false s:=fun e=>by
  rw [decide_eq_false (show ¬ eN a<eN b by rw [e];exact Int.lt_irrefl _)] at h
  exact h
 obtain ⟨a1,a2,a3⟩:=a
 obtain ⟨b1,b2,b3⟩:=b
 obtain ⟨⟨o1,o2⟩,o3,o4⟩:=oa
 obtain ⟨⟨o5,o6⟩,o7,o8⟩:=ob
 simp only [eN] at h
 dsimp only at o1 o2 o3 o4 o5 o6 o7 o8 h ⊢
 have no:∀ {x y:Int},x≠y->(x == y)=false:=fun q=>by simpa using q
 refine wpAny_bind (wpAny_bind (wpAny_bind (wpAny_eqBool_int ?_)))
 by_cases c1:a1=b1
 ·rw [show (a1 == b1)=true by simpa using c1]
  refine wpAny_pure ?_
  refine wpAny_bind (wpAny_bind (wpAny_eqBool_int ?_))
  by_cases c2:a2=b2
  ·rw [show (a2 == b2)=true by simpa using c2]
   refine wpAny_pure ?_
   refine wpAny_bind (wpAny_bind (wpAny_eqBool_int ?_))
   by_cases c3:a3=b3
   ·rw [show (a3 == b3)=true by simpa using c3]
    exact wpAny_pure (wpAny_pure (wpAny_pure (h0 (by rw [c1,c2,c3]))))
   rw [no c3]
   refine wpAny_bind (sS (wpAny_pure (wpAny_pure (wpAny_pure ?_))))
   rwa [show decide (a3<b3)=decide (a1*1000000000000+a2*1000000+a3<b1*1000000000000+b2*1000000+b3) by rw [decide_eq_decide];omega]
  ·rw [no c2]
   refine wpAny_bind (sS (wpAny_pure (wpAny_pure (wpAny_pure ?_))))
   rwa [show decide (a2<b2)=decide (a1*1000000000000+a2*1000000+a3<b1*1000000000000+b2*1000000+b3) by rw [decide_eq_decide];omega]
 ·rw [no c1]
  refine wpAny_bind (sS (wpAny_pure (wpAny_pure (wpAny_pure ?_))))
  rwa [show decide (a1<b1)=decide (a1*1000000000000+a2*1000000+a3<b1*1000000000000+b2*1000000+b3) by rw [decide_eq_decide];omega]
theorem uC {α β:Type} {f:α->Sem β} {R:α->β->Prop} (hf:∀ v r,R v r->∀ Q':β->Shared->Prop,Q' r s->wpAny (model prog w) A (f v) Q' E s):∀ {l:List α} {rs:List β},Paired R l rs->∀ {Q:List β->Shared->Prop},Q rs s->wpAny (model prog w) A (l.mapM f) Q E s
 |_,_,.nil,Q,h=>by rw [List.mapM_nil];exact wpAny_pure h
 | _,_,.cons r1 r,Q,h=>by
   rw [List.mapM_cons]
   exact wpAny_bind (hf _ _ r1 _ (wpAny_bind (uC hf r (wpAny_pure h))))
theorem wy {v:Value} {x:j_} (h:dR s.heap v x):∃ t,∀ Q':Option Value->Shared->Prop,Q' (some (.int x.1 t)) s->wpAny (model prog w) A (firstOfTuple' v) Q' E s:=by
 obtain ⟨b,t1,t2,t3,rfl,h1⟩:=h
 refine ⟨t1,fun Q' q=>?_⟩
 rw [kas_first_eq]
 obtain ⟨o,ho,hc,n,hd⟩:=id h1
 refine wpAny_bind (wpAny_typeOf (T:="tuple") ⟨o,ho,hc⟩ ?_)
 rw [if_neg (by decide)]
 exact wpAny_bind (lW h1 (wpAny_pure q))
theorem m6:∀ {vs:List Value} {xs:List j_},Paired (dR s.heap) vs xs->∃ us:List Value,IntsAre us (xs.map (·.1))/\Paired (fun v r=>∀ Q':Option Value->Shared->Prop,Q' r s->wpAny (model prog w) A (firstOfTuple' v) Q' E s) vs (us.map some)
 |_,_,.nil=>⟨[],.nil,.nil⟩
 | _,_,.cons h r=>by
   obtain ⟨us,i,p⟩:=m6 r
   obtain ⟨t,q⟩:=wy (prog:=prog) (w:=w) (A:=A) (E:=E) h
   exact ⟨_::us,.cons _ t i,.cons q p⟩
theorem yt {vs:List Value} {xs:List j_} {Q:SortKind->Shared->Prop} (hp:Paired (dR s.heap) vs xs) (h:∀ f,Q (tuples' f) s):wpAny (model prog w) A (keyKind' vs.toArray) Q E s:=by
 obtain ⟨us,i,p⟩:=m6 (prog:=prog) (w:=w) (A:=A) (E:=E) hp
 rw [keyKind'_eq,List.mapM_toArray]
 refine wpAny_bind ?_
 rw [map_eq_pure_bind]
 refine wpAny_bind (uC (fun v r q=>q) p (wpAny_pure ?_))
 rw [if_pos (by simp)]
 refine wpAny_bind (wpAny_rule ?_)
 have e:(us.map some).toArray.filterMap id=us.toArray:=by simp
 rw [e,oneTypeOnly'_eq,List.mapM_toArray,mapM_typeOf_ints i]
 simp only [map_pure,pure_bind]
 split
 ·exact wpAny_pure (h _)
 ·exact wpAny_pure (h _)
end
theorem sW (a fa:Addr):Builtin.«list.sort» ⟨[.ref a],[("key",.ref fa)]⟩=(do
 let items ← Builtin.List.listItems (.ref a)
 Builtin.List.listUpdate (.ref a) fun _=>#[]
 let before ← seqEpoch a
 let held ← newTuple items.toList
 let ks ← newList []
 holding [held,ks] do
  rule "list.sort.key"
  for x in items do
   match ← (call (.ref fa) [x]).attempt with
   |.ok k=>Builtin.List.listUpdate ks (·.push k)
   | .error e=>
     rule "list.sort.key-raised"
     let made ← Builtin.List.listItems ks
     Builtin.List.listUpdate ks fun _=>#[]
     letGo made.toList.reverse [e]
     Builtin.List.listUpdate (.ref a) fun _=>items;throw e
  let keys ← Builtin.List.listItems ks
  let kind ← if items.size<2 then pure general' else keyKind' keys
  let ((),s) ← (if items.size<2 then pure () else sortRuns').run (SortSt.mk' kind (keys.zip items) #[] 7 none)
  Builtin.List.listUpdate ks fun _=>#[]
  letGo ((arrOf s).map (·.1)).toList (failedOf s).toList
  let touched:=(← seqEpoch a) != before
  Builtin.List.listUpdate (.ref a) fun _=>(arrOf s).map (·.2)
  if let some e:=failedOf s then rule "list.sort.comparison-raised";throw e
  if touched then rule "list.sort.modified";raiseError "ValueError" "list modified during sort"
  ret .none):=by
 rfl
section
variable {prog:Program} {w:World} {A:Around} {E:Value->Shared->Prop} {s:Shared}
theorem pB {α:Type} {g:α->PUnit->Sem (ForInStep PUnit)} {l:List α} {Q:PUnit->Shared->Prop} (J:Nat->Shared->Prop) (step:∀ i x s,l[i]?=some x->J i s->wpAny (model prog w) A (g x ⟨⟩) (fun r s'=>r=.yield ⟨⟩/\J (i+1) s') E s) (fin:∀ s',J l.length s'->Q ⟨⟩ s') :
 ∀ (k:Nat) (m:List α) (s:Shared),l.drop k=m->k≤l.length->J k s->wpAny (model prog w) A (forIn m ⟨⟩ g) Q E s
 | k,[],s,e,hk,j=>by
   rw [List.forIn_nil]
   have:l.length≤k:=List.drop_eq_nil_iff.mp e
   obtain rfl:k=l.length:=by omega
   exact wpAny_pure (fin s j)
 | k,x::m,s,e,hk,j=>by
   have hx:l[k]?=some x:=by rw [← List.head?_drop,e];rfl
   have hlt:k<l.length:=(List.getElem?_eq_some_iff.mp hx).1
   rw [List.forIn_cons]
   refine wpAny_bind (wpAny_mono (step k x s hx j) (fun r s' q=>?_) fun _ _ z=>z)
   obtain ⟨rfl,q⟩:=q
   exact pB J step fin (k+1) m s' (by rw [← List.drop_drop,e];rfl) hlt q
theorem iY {α β:Type} {R:α->β->Prop} {d:α} {e:β}:∀ {l:List α} {m:List β},Paired R l m->∀ i,i<l.length->R (l.getD i d) (m.getD i e)
 |_,_,.nil,i,h=>by simp at h
 |_,_,.cons r1 r,0,h=>r1
 |_,_,.cons r1 r,i+1,h=>iY r i (by simpa using h)
theorem uh {α:Type} {d:α} {l:List α} (nd:l.Nodup) {i k:Nat} (hi:i<l.length) (hk:k<l.length) (e:l.getD i d=l.getD k d):i=k:=by
 rw [List.getD_eq_getElem?_getD,List.getD_eq_getElem?_getD,List.getElem?_eq_getElem hi,List.getElem?_eq_getElem hk] at e
 have pw:=List.pairwise_iff_getElem.mp nd
 rcases Nat.lt_trichotomy i k with z|z|z
 ·exact absurd e (pw i k hi hk z)
 ·exact z
 ·exact absurd e.symm (pw k i hk hi z)
theorem zy {a fa:Addr} {vs:List Value} {n:Nat} {xs:List j_} {P:PySem.Fin->Shared->Prop} (ho:s.heap.get? a=some (seqObj "list" vs.toArray n)) (h64:vs.length<64) (hx:xs.length=vs.length) (ok:∀ x∈xs,lE x) (nd:xs.Nodup)
 (J:Nat->List Value->Shared->Prop)
 (at_:∀ e kl s',J e kl s'->s'.heap.get? a=some (seqObj "list" #[] e)/\∃ c,s'.heap.get? (s.heap.objs.size+1)=some (seqObj "list" kl.toArray c))
 (h0:∀ e,(((s.heap.update a (Obj.mapSeq fun _=>#[])).push (seqObj "tuple" vs.toArray 0)).push (seqObj "list" #[] 0)).get? a=some (seqObj "list" #[] e)->J e [] { s with heap:=((s.heap.update a (Obj.mapSeq fun _=>#[])).push (seqObj "tuple" vs.toArray 0)).push (seqObj "list" #[] 0) })
 (step:∀ e kl x s',J e kl s'->vs[kl.length]?=some x->wpAny (model prog w) A (call (.ref fa) [x]) (fun k s''=>(∃ c,s''.heap.get? (s.heap.objs.size+1)=some (seqObj "list" kl.toArray c))/\J e (kl++[k]) { s'' with heap:=s''.heap.update (s.heap.objs.size+1) (Obj.mapSeq (·.push k)) }) (fun _ _=>False) s')
 (fin:∀ e kl s',J e kl s'->kl.length=vs.length->Paired (dR s'.heap) kl xs/\∀ p:Array Nat,mG vs.length p->jL (fun i=>eN (xs.getD i (0,0,0))) p vs.length->P (.done (.ret .none)) { s' with heap:=(s'.heap.update (s.heap.objs.size+1) (Obj.mapSeq fun _=>#[])).update a (Obj.mapSeq fun _=>(p.toList.map fun i=>vs.getD i .none).toArray) }) :
 wpAny (model prog w) A (Builtin.«list.sort» ⟨[.ref a],[("key",.ref fa)]⟩) P E s:=by
 have ha:a<s.heap.objs.size:=Heap.lt_size ho
 have vz:vs.length≤sizeLine:=Nat.le_trans (Nat.le_of_lt h64) (by decide)
 rw [sW]
 refine wpAny_bind (listItems_at ho rfl ?_)
 refine wpAny_bind (listUpdate_at ho rfl ?_ (by rw [List.size_toArray];exact vz) (Nat.zero_le _))
 obtain ⟨e1,ho1⟩:∃ e1,(s.heap.update a (Obj.mapSeq fun _=>(#[]:Array Value))).get? a=some (seqObj "list" #[] e1):=⟨_,get?_update_seq ho fun _=>#[]⟩
 refine wpAny_bind (seqEpoch_at ho1 rfl ?_)
 refine wpAny_bind (wpAny_newTuple ?_ vz)
 refine wpAny_bind (wpAny_newList ?_ (Nat.zero_le _))
 dsimp only
 have hks:((s.heap.update a (Obj.mapSeq fun _=>(#[]:Array Value))).push { cls:=.type "tuple",data:=.seq vs.toArray.toList.toArray }).objs.size=s.heap.objs.size+1:=by rw [size_push',Heap.size_update]
 rw [hks]
 refine wpAny_holding (wpAny_bind (wpAny_rule ?_))
 show wpAny (model prog w) A _ P E { s with heap:=((s.heap.update a (Obj.mapSeq fun _=>(#[]:Array Value))).push (seqObj "tuple" vs.toArray 0)).push (seqObj "list" #[] 0) }
 refine wpAny_bind ?_
 rw [← Array.forIn_toList]
 refine pB (l:=vs) (fun i s'=>∃ kl,kl.length=i/\J e1 kl s') ?_ (fun s' j=>?_) 0 vs _ rfl (Nat.zero_le _) ⟨[],rfl,h0 e1 (Heap.get?_push_of_some _ (Heap.get?_push_of_some _ ho1))⟩
 ·rintro i x s' hxi ⟨kl,rfl,j⟩
  refine wpAny_bind (wpAny_attempt (wpAny_mono (step e1 kl x s' j hxi) (fun k s'' q=>?_) fun _ _ z=>z.elim))
  obtain ⟨⟨c,ec⟩,q⟩:=q
  have kz:kl.length<vs.length:=(List.getElem?_eq_some_iff.mp hxi).1
  refine wpAny_bind (listUpdate_at ec rfl ?_ (by rw [List.size_toArray];omega) (by rw [Array.size_push,List.size_toArray];omega))
  exact wpAny_pure ⟨rfl,kl++[k],by simp,q⟩
 ·obtain ⟨kl,hl,j⟩:=j
  obtain ⟨hA,c,hK⟩:=at_ e1 kl s' j
  obtain ⟨pt,go⟩:=fin e1 kl s' j hl
  refine wpAny_bind (listItems_at hK rfl ?_)
  have xl:xs.length=kl.length:=by omega
  have itz:(kl.toArray.zip vs.toArray).size=vs.length:=by simp [hl]
  have it1:∀ i,i<vs.length->(kas_item (kl.toArray.zip vs.toArray) i).1=kl.getD i .none:=fun i hi=>by
   unfold kas_item
   rw [Array.getD_eq_getD_getElem?,List.getD_eq_getElem?_getD]
   simp [hi,hl]
  have it2:∀ i,i<vs.length->(kas_item (kl.toArray.zip vs.toArray) i).2=vs.getD i .none:=fun i hi=>by
   unfold kas_item
   rw [Array.getD_eq_getD_getElem?,List.getD_eq_getElem?_getD]
   simp [hi,hl]
  have tail:∀ (st':SortSt) (p:Array Nat),arrOf st'=p.map (kas_item (kl.toArray.zip vs.toArray))->failedOf st'=none->mG vs.length p->jL (fun i=>eN (xs.getD i (0,0,0))) p vs.length->
   wpAny (model prog w) A (do
    Builtin.List.listUpdate (.ref (s.heap.objs.size+1)) fun _=>#[]
    letGo ((arrOf st').map (·.1)).toList (failedOf st').toList
    let touched:=(← seqEpoch a) != e1
    Builtin.List.listUpdate (.ref a) fun _=>(arrOf st').map (·.2)
    if let some e:=failedOf st' then rule "list.sort.comparison-raised";throw e
    if touched then rule "list.sort.modified";raiseError "ValueError" "list modified during sort"
    ret .none) P E s':=fun st' p ha' hf hp hu=>by
   have hpz:=hp.size
   have hout:(arrOf st').map (·.2)=(p.toList.map fun i=>vs.getD i .none).toArray:=by
    apply Array.toList_inj.mp
    rw [ha',Array.map_map,Array.toList_map]
    exact List.map_congr_left fun i hi=>it2 i (List.mem_range.mp ((List.Perm.mem_iff hp).mp hi))
   have ne:a≠s.heap.objs.size+1:=Nat.ne_of_lt (Nat.lt_succ_of_lt ha)
   refine wpAny_bind (listUpdate_at hK rfl ?_ (by rw [List.size_toArray];omega) (Nat.zero_le _))
   refine wpAny_bind (wpAny_letGo ?_)
   have hA2:(s'.heap.update (s.heap.objs.size+1) (Obj.mapSeq fun _=>(#[]:Array Value))).get? a=some (seqObj "list" #[] e1):=(Heap.get?_update_other _ _ (Ne.symm ne)).trans hA
   refine wpAny_bind (seqEpoch_at (s:={ s' with heap:=s'.heap.update (s.heap.objs.size+1) (Obj.mapSeq fun _=>#[]) }) hA2 rfl ?_)
   refine wpAny_bind (listUpdate_at (s:={ s' with heap:=s'.heap.update (s.heap.objs.size+1) (Obj.mapSeq fun _=>#[]) }) hA2 rfl ?_ (Nat.zero_le _) ?_)
   ·rw [hf,hout]
    simp only [bne_self_eq_false,Bool.false_eq_true,if_false]
    exact wpAny_pure (go p hp hu)
   ·rw [hout,List.size_toArray,List.length_map,Array.length_toList,hpz]
    omega
  by_cases h2:vs.length<2
  ·rw [if_pos (by simpa using h2),if_pos (by simpa using h2)]
   refine wpAny_bind (wpAny_pure ?_)
   refine wpAny_bind (wpAny_pure ?_)
   refine tail _ (List.range vs.length).toArray ?_ rfl (.refl _) (fun i k h3 h4=>by omega)
   have e:=kas_range (kl.toArray.zip vs.toArray)
   rw [itz] at e
   exact e.symm
  ·rw [if_neg (by simpa using h2),if_neg (by simpa using h2)]
   refine wpAny_bind (yt pt fun f=>?_)
   have est:SortSt.mk' (tuples' f) (kl.toArray.zip vs.toArray) #[] 7 none=kas_st (tuples' f) (kl.toArray.zip vs.toArray) (List.range vs.length).toArray:=by
    have e:=kas_range (kl.toArray.zip vs.toArray)
    rw [itz] at e
    unfold kas_st
    rw [e]
   have pat:∀ i,i<vs.length->dR s'.heap (kl.getD i .none) (xs.getD i (0,0,0)):=fun i hi=>iY pt i (by omega)
   have mem:∀ i,i<vs.length->xs.getD i (0,0,0)∈xs:=fun i hi=>by
    rw [List.getD_eq_getElem?_getD,List.getElem?_eq_getElem (by omega)]
    exact List.getElem_mem _
   have R:Rk vs.length (fun i=>eN (xs.getD i (0,0,0))) (kas_cmp prog w A (tuples' f) (kl.toArray.zip vs.toArray)) s':=by
    refine ⟨fun i k hi hk e=>?_,fun i k C hi hk h=>?_⟩
    ·have e':=uF (ok _ (mem i hi)) (ok _ (mem k hk)) e
     exact uh nd (by omega) (by omega) e'
    ·unfold kas_cmp
     rw [it1 i hi,it1 k hk]
     exact vY (pat i hi) (pat k hk) (ok _ (mem i hi)) (ok _ (mem k hk)) h
   have run:=kas_runs (E:=E) (prog:=prog) (w:=w) (A:=A) (κ:=tuples' f) (it:=kl.toArray.zip vs.toArray) (n:=vs.length) (s:=s') (Q:=fun _ st' s''=>s''=s'/\∃ p:Array Nat,arrOf st'=p.map (kas_item (kl.toArray.zip vs.toArray))/\failedOf st'=none/\mG vs.length p/\jL (fun i=>eN (xs.getD i (0,0,0))) p vs.length)
    (G:=fun p s''=>s''=s'/\mG vs.length p/\jL (fun i=>eN (xs.getD i (0,0,0))) p vs.length) (by omega) h64 (fun p' st' s'' a1 a2 a3 a4=>⟨a4.1,p',a2,a3,a4.2.1,a4.2.2⟩) (Ar R (by omega) fun p' hp hu=>⟨rfl,hp,hu⟩)
   rw [← est] at run
   refine wpAny_bind (wpAny_mono run ?_ fun _ _ e=>e)
   rintro ⟨⟨⟩,st'⟩ s'' ⟨rfl,p,b1,b2,b3,b4⟩
   exact tail st' p b1 b2 b3 b4
end
theorem qG (a v:Value):argsOk "sorted" ⟨[a],[("key",v)]⟩:=by unfold argsOk;kernel_rfl
theorem tQ (a v:Value):argsOk "list.sort" ⟨[a],[("key",v)]⟩:=by unfold argsOk;kernel_rfl
abbrev j8 (x:j_):List V:=[.int x.1,.int x.2.1,.int x.2.2]
theorem lY:∀ {bs:List Addr} {us:List Value},Vals (bs.map V.ref) us->us=bs.map Value.ref
 |[],_,.nil=>rfl
 |b::bs,_,.cons r1 r=>by rw [lY r,show _=Value.ref b from r1];rfl
theorem pK:∀ bs:List Addr,Vals (bs.map V.ref) (bs.map Value.ref)
 |[]=>.nil
 |b::bs=>.cons rfl (pK bs)
theorem lX {xs:List V} {vs:List Value} (r:Vals xs vs):∀ p:List Nat,(∀ i∈p,i<xs.length)->Vals (p.map fun i=>xs.getD i .non) (p.map fun i=>vs.getD i .none)
 |[],_=>.nil
 | i::p,h=>by
   refine .cons ?_ (lX r p fun j hj=>h j (List.mem_cons_of_mem _ hj))
   have go:∀ {xs:List V} {vs:List Value},Vals xs vs->∀ i,i<xs.length->RelV (xs.getD i .non) (vs.getD i .none):=fun r=>by
    intro i
    induction r generalizing i with
    |nil=>intro h;simp at h
    | cons r1 r ih=>
      intro h
      cases i with
      |zero=>exact r1
      |succ i=>exact ih i (by simpa using h)
   exact go r i (h i (List.mem_cons_self ..))
section
variable {X:Cx}
theorem sy {Z:List (Addr×Obj)} {O:St} {H:Hp} {s:Shared} {p f:Addr} {xs:List V} {trs:List j_} {Q:VK} (I:Inv X Z O H s) (hq:aQ X.K H p xs) (h64:xs.length<64) (hx:trs.length=xs.length) (ok:∀ x∈trs,lE x) (nd:trs.Nodup)
 (KF:∀ (s':Shared) (H':Hp) (i:Nat) (x:V) (u:Value) (tr:j_),ao H H'->Inv X Z O H' s'->xs[i]?=some x->trs[i]?=some tr->RelV x u->wpAny (model X.prog X.w) X.A.in1.in1 (call (.ref f) [u]) (EP X Z O fun v H''=>∃ b,v=.ref b/\H'' b=some (.tup (j8 tr))/\ao H' H'') (fun _ _=>False) s')
 (q:∀ (o:List Nat) l H',o.Perm (List.range xs.length)->o.Pairwise (fun i j=>eN (trs.getD i (0,0,0))<eN (trs.getD j (0,0,0)))->H' l=some (.lst (o.map fun i=>xs.getD i .non))->H l=none->ao H H'->Q (.ref l) H') :
 wpAny (model X.prog X.w) X.A (call (.builtin "sorted") [.ref p] [("key",.ref f)]) (EP X Z O Q) X.xe s:=by
 obtain ⟨vs,rv,pl,hz⟩:=I.list hq
 have vl:vs.length=xs.length:=rv.length.symm
 have vz:vs.length≤sizeLine:=by rw [vl];exact hz
 refine call_function_entry_kw kind_sorted plain_sorted entry_sorted (qG _ _) ?_
 unfold Builtin.«sorted»
 refine wpAny_bind (m:=checkCount "sorted" 1 1 _) (wpAny_pure ?_)
 refine wpAny_bind (collect_list pl.isList ?_ vz)
 have k1:∀ b o,s.heap.get? b=some o->((s.heap.push (seqObj "list" #[] 0)).update s.heap.objs.size (Obj.mapSeq (·++vs.toArray))).get? b=some o:=fun b o e=>(Heap.get?_update_other _ _ (Nat.ne_of_gt (Heap.lt_size e))).trans (Heap.get?_push_of_some _ e)
 have I1:=I.kept (t':=s.toks) k1
 have z1:((s.heap.push (seqObj "list" #[] 0)).update s.heap.objs.size (Obj.mapSeq (·++vs.toArray))).objs.size=s.heap.objs.size+1:=by rw [Heap.size_update,size_push']
 generalize ((s.heap.push (seqObj "list" #[] 0)).update s.heap.objs.size (Obj.mapSeq (·++vs.toArray)))=h1 at k1 I1 z1 ⊢
 refine wpAny_bind (wpAny_newList ?_ vz)
 have hoL:(h1.push (seqObj "list" vs.toArray 0)).get? h1.objs.size=some (seqObj "list" vs.toArray 0):=Heap.get?_push_size _ rfl
 show wpAny _ _ _ _ _ { s with heap:=h1.push (seqObj "list" vs.toArray 0) }
 refine wpAny_bind (wpAny_holding (wpAny_call_entry_kw slot_list_sort ⟨_,hoL,rfl⟩ entry_list_sort ?_ (tQ _ _)))
 have hLz:(h1.push (seqObj "list" vs.toArray 0)).objs.size=h1.objs.size+1:=size_push' ..
 generalize hhL:h1.push (seqObj "list" vs.toArray 0)=hL at hoL hLz ⊢
 have k2:∀ b o,h1.get? b=some o->hL.get? b=some o:=fun b o e=>by rw [← hhL];exact Heap.get?_push_of_some _ e
 have nL:H h1.objs.size=none:=I1.hok.fresh (Nat.le_refl _)
 have nT:H hL.objs.size=none:=I1.hok.fresh (by rw [hLz];exact Nat.le_succ _)
 have nK:H (hL.objs.size+1)=none:=I1.hok.fresh (by rw [hLz];exact Nat.le_succ_of_le (Nat.le_succ _))
 have LT:h1.objs.size≠hL.objs.size:=by rw [hLz];exact Nat.ne_of_lt (Nat.lt_succ_self _)
 have LK:h1.objs.size≠hL.objs.size+1:=by rw [hLz];exact Nat.ne_of_lt (Nat.lt_succ_of_lt (Nat.lt_succ_self _))
 have TK:hL.objs.size≠hL.objs.size+1:=Nat.ne_of_lt (Nat.lt_succ_self _)
 let H3:Nat->Hp:=fun e=>upd (upd (upd H h1.objs.size (lamO h1.objs.size (seqObj "list" #[] e))) hL.objs.size (.tup xs)) (hL.objs.size+1) (.lst [])
 have h3:∀ e b o,H b=some o->H3 e b=some o:=fun e b o eb=>by
  show upd _ _ _ b=some o
  rw [aA (fun z=>by rw [z,nK] at eb;cases eb),aA (fun z=>by rw [z,nT] at eb;cases eb),aA (fun z=>by rw [z,nL] at eb;cases eb)]
  exact eb
 have h3L:∀ e,H3 e h1.objs.size=some (lamO h1.objs.size (seqObj "list" #[] e)):=fun e=>by
  show upd _ _ _ _=_
  rw [aA LK,aA LT,aj]
 refine zy (s:={ s with heap:=hL }) (xs:=trs) hoL (by omega) (by omega) ok nd (fun e kl s'=>∃ (bs:List Addr) (H':Hp),kl=bs.map Value.ref/\Inv X Z O H' s'/\(∀ b o,b≠hL.objs.size+1->H3 e b=some o->H' b=some o)/\H' (hL.objs.size+1)=some (.lst (bs.map V.ref))/\∀ (i:Nat) b,bs[i]?=some b->∃ tr,trs[i]?=some tr/\H' b=some (.tup (j8 tr))) ?_ ?_ ?_ ?_
 ·rintro e kl s' ⟨bs,H',rfl,J,kp,hK,hb⟩
  refine ⟨(J.hok _ _ (kp _ _ LK (h3L e))).1,?_⟩
  obtain ⟨_,its,n,r,_,g⟩:=J.lstM hK
  rw [lY r] at g
  exact ⟨n,g⟩
 ·intro e he
  obtain ⟨e',ge⟩:∃ e',(hL.update h1.objs.size (Obj.mapSeq fun _=>(#[]:Array Value))).get? h1.objs.size=some (seqObj "list" #[] e'):=⟨_,get?_update_seq hoL fun _=>#[]⟩
  have ee:e'=e:=by
   have:=Heap.get?_push_of_some (seqObj "list" #[] 0) (Heap.get?_push_of_some (seqObj "tuple" vs.toArray 0) ge)
   rw [he] at this
   injection this with this
   injection this with _ _ this _
   injection this with _ this
   exact this.symm
  subst ee
  have I2:=I1.laid (a:=h1.objs.size) (o:=lamO h1.objs.size (seqObj "list" #[] e')) (h':=hL.update h1.objs.size (Obj.mapSeq fun _=>#[])) (t':=s.toks) (fun b o eb=>(Heap.get?_update_other _ _ (Nat.ne_of_gt (Heap.lt_size eb))).trans (k2 b o eb)) (Nat.le_refl _) (pW ge)
  have zz:(hL.update h1.objs.size (Obj.mapSeq fun _=>(#[]:Array Value))).objs.size=hL.objs.size:=Heap.size_update ..
  have I3:=I2.laid (a:=hL.objs.size) (o:=.tup xs) (h':=(hL.update h1.objs.size (Obj.mapSeq fun _=>#[])).push (seqObj "tuple" vs.toArray 0)) (t':=s.toks) (fun b o eb=>Heap.get?_push_of_some _ eb) (Nat.le_of_eq zz) (show bZ X.prog X.w _ _ _ (.tup xs) from ⟨hz,vs,rv,by rw [← zz];exact IsTup.new _ _⟩)
  have z3:((hL.update h1.objs.size (Obj.mapSeq fun _=>(#[]:Array Value))).push (seqObj "tuple" vs.toArray 0)).objs.size=hL.objs.size+1:=by rw [size_push',zz]
  have I4:=I3.laid (a:=hL.objs.size+1) (o:=.lst []) (h':=((hL.update h1.objs.size (Obj.mapSeq fun _=>#[])).push (seqObj "tuple" vs.toArray 0)).push (seqObj "list" #[] 0)) (t':=s.toks) (fun b o eb=>Heap.get?_push_of_some _ eb) (Nat.le_of_eq z3) (show bZ X.prog X.w _ _ _ (.lst []) from ⟨Nat.zero_le _,[],0,.nil,by rw [← z3];exact Heap.get?_push_size _ rfl⟩)
  exact ⟨[],_,rfl,I4,fun b o _ eb=>eb,aj,fun i b eb=>by simp at eb⟩
 ·rintro e kl u s' ⟨bs,H',rfl,J,kp,hK,hb⟩ hu
  rw [List.length_map] at hu
  have hi:bs.length<vs.length:=(List.getElem?_eq_some_iff.mp hu).1
  have sm:ao H H':=fun b o eb=>kp b o (fun z=>by rw [z,nK] at eb;cases eb) (h3 e b o eb)
  have rx:∃ x,xs[bs.length]?=some x/\RelV x u:=by
   have:=lX rv [bs.length] (fun i hi'=>by simp at hi';omega)
   cases this with
   | cons r1 _=>
     refine ⟨_,List.getElem?_eq_getElem (show bs.length<xs.length by omega),?_⟩
     have e1:xs.getD bs.length .non=xs[bs.length]'(by omega):=by rw [List.getD_eq_getElem?_getD,List.getElem?_eq_getElem (show bs.length<xs.length by omega)];rfl
     have e2:vs.getD bs.length .none=u:=by rw [List.getD_eq_getElem?_getD,hu];rfl
     dsimp only at r1
     rw [e1,e2] at r1
     exact r1
  obtain ⟨x,ex,rx⟩:=rx
  have et:=List.getElem?_eq_getElem (show bs.length<trs.length by omega)
  refine wpAny_mono (KF s' H' bs.length x u _ sm J ex et rx) (fun k s'' z=>?_) fun _ _ z=>z
  obtain ⟨v,H'',J2,rv2,b,rfl,hbb,s2⟩:=z
  cases (show k=Value.ref b from rv2)
  have hK2:=s2 _ _ hK
  obtain ⟨_,its,n,r,_,g⟩:=J2.lstM hK2
  have ei:=lY r
  rw [ei] at g r
  refine ⟨⟨n,g⟩,bs++[b],_,by rw [List.map_append];rfl,J2.lset (t':=s''.toks) (ys:=(bs++[b]).map V.ref) (its':=(bs++[b]).map Value.ref) hK2 g (by rw [List.push_toArray,List.map_append];rfl) (pK _) (by rw [List.length_map,List.length_append,List.length_singleton];omega),fun c o nc ec=>?_,aj,fun j c ec=>?_⟩
  ·rw [aA nc]
   exact s2 _ _ (kp c o nc ec)
  ·by_cases q:j<bs.length
   ·rw [List.getElem?_append_left q] at ec
    obtain ⟨tr,e1,e2⟩:=hb j c ec
    have e3:=s2 _ _ e2
    refine ⟨tr,e1,?_⟩
    rw [aA (fun z=>by rw [z,hK2] at e3;cases e3)]
    exact e3
   ·rw [List.getElem?_append_right (by omega)] at ec
    obtain ⟨h5,rfl⟩:=List.getElem?_eq_some_iff.mp ec
    simp only [List.length_singleton] at h5
    obtain rfl:j=bs.length:=by omega
    refine ⟨_,et,?_⟩
    simp only [Nat.sub_self,List.getElem_cons_zero]
    rw [aA (fun z=>by rw [z,hK2] at hbb;cases hbb)]
    exact hbb
 ·rintro e kl s' ⟨bs,H',rfl,J,kp,hK,hb⟩ hl
  rw [List.length_map] at hl
  have tri:∀ b (tr:j_),H' b=some (.tup (j8 tr))->dR s'.heap (.ref b) tr:=fun b tr eb=>by
   obtain ⟨its,r,ht,_⟩:=J.tuple (cA.of eb)
   cases r with
   | cons r1 r=>
     cases r with
     | cons r2 r=>
       cases r with
       | cons r3 r=>
         cases r
         obtain ⟨t1,rfl⟩:=r1
         obtain ⟨t2,rfl⟩:=r2
         obtain ⟨t3,rfl⟩:=r3
         exact ⟨b,t1,t2,t3,rfl,ht⟩
  have pr:∀ (bs:List Addr) (ts:List j_),bs.length=ts.length->(∀ (i:Nat) b,bs[i]?=some b->∃ tr,ts[i]?=some tr/\H' b=some (.tup (j8 tr)))->Paired (dR s'.heap) (bs.map Value.ref) ts:=fun bs=>by
   induction bs with
   | nil=>
     intro ts hz _
     cases ts with
     |nil=>exact .nil
     |cons _ _=>simp at hz
   | cons b bs ih=>
     intro ts hz h
     cases ts with
     |nil=>simp at hz
     | cons t ts=>
       obtain ⟨tr,e1,e2⟩:=h 0 b rfl
       cases e1
       exact .cons (tri b t e2) (ih ts (by simpa using hz) fun i c ec=>by simpa using h (i+1) c (by simpa using ec))
  refine ⟨pr bs trs (by omega) hb,fun o ho hu=>⟨_,rfl,wpAny_pure ⟨_,rfl,?_⟩⟩⟩
  obtain ⟨_,its,n,r,_,g⟩:=J.lstM hK
  have J2:=J.lset (t':=s'.toks) (ys:=[]) (its':=[]) (f:=fun _=>#[]) hK g rfl .nil (Nat.zero_le _)
  have hL':=kp _ _ LK (h3L e)
  have hL2:upd H' (hL.objs.size+1) (.lst []) h1.objs.size=some (lamO h1.objs.size (seqObj "list" #[] e)):=by rw [aA LK];exact hL'
  have gL:(s'.heap.update (hL.objs.size+1) (Obj.mapSeq fun _=>(#[]:Array Value))).get? h1.objs.size=some (seqObj "list" #[] e):=(Heap.get?_update_other _ _ (Ne.symm LK)).trans (J.hok _ _ hL').1
  have om:∀ i∈o.toList,i<xs.length:=fun i hi=>by
   have:=List.mem_range.mp ((List.Perm.mem_iff ho).mp hi)
   omega
  have oz:=ho.size
  have vo:=lX rv o.toList om
  have ol:(o.toList.map fun i=>xs.getD i .non).length≤sizeLine:=by rw [List.length_map,Array.length_toList,oz,vl];exact hz
  have qL:=PySem.IsL.update gL (fun _=>(o.toList.map fun i=>vs.getD i .none).toArray)
  have J3:=J2.write (x:=h1.objs.size) (e:=h1.objs.size) (o:=.lst (o.toList.map fun i=>xs.getD i .non)) (h':=(s'.heap.update (hL.objs.size+1) (Obj.mapSeq fun _=>#[])).update h1.objs.size (Obj.mapSeq fun _=>(o.toList.map fun i=>vs.getD i .none).toArray)) (t':=s'.toks) (by rw [hL2];exact trivial) (.inl rfl) (fun b u hb' hu'=>(Heap.get?_update_other _ _ (Ne.symm hb')).trans hu') ⟨_,qL⟩ ⟨ol,_,_,vo,qL⟩
  refine ⟨.ref h1.objs.size,_,J3,rfl,q o.toList h1.objs.size _ (by rw [← vl];exact ho) ?_ aj nL fun b u eb=>?_⟩
  ·refine List.pairwise_iff_getElem.mpr fun i j hi hj hij=>?_
   have:=hu i j hij (by rw [← oz];simpa using hj)
   simp only [L2.vl] at this
   rw [lC (by simpa using hi),lC (by simpa using hj)] at this
   simpa using this
  ·rw [aA (fun z=>by rw [z,nL] at eb;cases eb),aA (fun z=>by rw [z,nK] at eb;cases eb)]
   exact kp b u (fun z=>by rw [z,nK] at eb;cases eb) (h3 e b u eb)
end
section
variable {P:Program} {w:World} {K:Frag} {mg:Str->Option Value} {base:Heap} {N:List Str} {qual pn:Str} {scope:Scope} {f:Addr} {cl:List (Str×Addr)} {A:Around} {outer:List Env} {s:Shared} {H:Hp} {E:XK}
theorem qW {O:St} {fr:List Addr} {k:Nat} {name:Str} {params:Arguments} {body:Expr} {pm ctv:Value} {c':Addr} {Qv:VK} {t:TE} {x:V} {u:Value} (ho:H f=some (lamO f (kla_obj name qual params body scope cl pm c' ctv)))
 (hc:H c'=some (gO c' qual)) (C:Fi scope cl N s.heap H fr O) (hbind:∀ v,bindArgs (kla_fn name qual params body scope cl pm (.ref c') ctv) ⟨[v],[]⟩=pure [(pn,v)])
 (hpn:scope.names.lookup pn=some .local) (hnf:pn∉N) (hco:scope.isCoroutine=false) (hgen:scope.isGenerator=false) (hk:scope.kind=.function) (hcell:∀ x∈scope.names,x.2≠.cell)
 (hb:PE (fU P w K mg base (pn::N) qual scope f (.ref c') cl A outer s H E) body t) (hq:t (some x::O) H Qv) (hr:bL (k+1) A) (e0:oH P w K mg base A outer s H) (r:RelV x u) :
 codeAny (model P w) A (.call (.ref f) ⟨[u],[]⟩) (CR (jJ P w) outer P w H s Qv E) s:=by
 have lim:s.heap.NoLimit:=e0.mod.nolimit.keeps fun b o e=>(e0.bs b o e).1
 refine kla_callFunE hr.depth (e0.hok f _ ho).1 rfl hco hgen rfl (e0.hok c' _ hc).1 ?_
 rw [hbind]
 refine wpAny_pure (wpAny_newFunctionEnv hcell (fun y hy=>by simp at hy;rw [hy];exact hpn) (fun h₁ hns hsb=>⟨lim.fresh _ hsb,?_⟩) hk)
 show codeAny _ _ (.expr body (envX qual scope s.heap.objs.size f (.ref c') cl)) _ _
 have hk₁:∀ b o,s.heap.get? b=some o->h₁.get? b=some o:=fun b o e=>hsb.extBut b o (Nat.ne_of_lt (Heap.lt_size e)) (Heap.get?_push_of_some _ e)
 have isC:∀ x c v,cl.lookup x=some c->s.heap.IsCell c v->h₁.IsCell c v:=fun x c v e z=>by
  obtain ⟨o,ho,hd⟩:=z
  exact ⟨o,hk₁ _ _ ho,hd⟩
 have noA:∀ b:Addr,b∉([]:List Addr):=fun b z=>absurd z (by simp)
 have I:Inv (fU P w K mg base (pn::N) qual scope f (.ref c') cl A outer s H E) [] (some x::O) H { s with heap:=h₁,toks:=s.toks+1 }:=by
  refine ⟨⟨e0.mod,hk,rfl,rfl,Nat.le_refl _,C.inj,fun y hy=>C.has y hy,fun y c z=>absurd z (by simp [fU]),fun _=>hr.hd,Around.frames_deeper e0.frames,.inr ⟨rfl,rfl⟩,fun b z=>absurd z (noA b),e0.bs,e0.bsz,fun b _ _=>noA b,fun b z=>absurd z (noA b),e0.funs,e0.frf⟩,
   rfl,e0.bare,Un.kept hk₁,⟨_,hns,fun i y v h1 h2 h3=>?_⟩,fun y c h=>?_,e0.hok.fresh (Nat.le_refl _),fun y c h=>(C.cell y c h).2.1,fun p hp=>absurd (show p∈([]:List (Addr×Obj)) from hp) (by simp),e0.hok.kept hk₁,by simp [fU,C.len]⟩
  ·cases i with
   | zero=>
     simp only [fU,List.getElem?_cons_zero] at h1 h2
     cases h1
     cases h2
     exact ⟨u,r,.inl ⟨hpn,by simp⟩⟩
   | succ i=>
     obtain ⟨fr',c,u,e,r,z⟩:=C.val i y v (by simpa [fU] using h1) (by simpa using h2)
     exact ⟨u,r,.inr ⟨.inr fr',c,e,isC y c _ e z⟩⟩
  ·obtain ⟨⟨v,z⟩,_⟩:=C.cell y c h
   exact ⟨v,isC y c v h z⟩
 exact kla_codeExpr (wpAny_mono (hb [] _ (some x::O) H Qv I hq) (fun u s' ⟨v,H',J,rv,q⟩=>⟨v,H',J.os,J.bare,J.base,J.hok,rv,q⟩) fun _ _ y=>y)
end
section
variable {X:Cx}
def Gi (X:Cx) (Pt:Addr) (params:Arguments) (body:Expr) (scope:Scope) (lp:Pos) (cl:List (Str×Addr)) (js:List Nat) (tb:TE) (t:TA):TE:=fun O H Q=>t O H fun vs H1=>TabOk H1 Pt lp (X.env.qual++"<lambda>")/\∀ c' H2,wN H1 Pt lp (X.env.qual++"<lambda>") c' H2->∀ f H3,H2 f=none->(∃ ctv,H3=upd H2 f (lamO f (kla_obj "<lambda>" (X.env.qual++"<lambda>") params body scope cl ((X.mg "__name__").getD .none) c' ctv)))->
 ∃ (p:Addr) (xs:List V) (trs:List j_),vs=[.ref p]/\aQ X.K H3 p xs/\xs.length<64/\trs.length=xs.length/\(∀ x∈trs,lE x)/\trs.Nodup/\
   (∀ (i:Nat) x tr H',ao H3 H'->xs[i]?=some x->trs[i]?=some tr->tb (some x::rm js O) H' fun v H''=>∃ b,v=.ref b/\H'' b=some (.tup (j8 tr))/\ao H' H'')/\
   ∀ (o:List Nat) l H',o.Perm (List.range xs.length)->o.Pairwise (fun i j=>eN (trs.getD i (0,0,0))<eN (trs.getD j (0,0,0)))->H' l=some (.lst (o.map fun i=>xs.getD i .non))->H3 l=none->ao H3 H'->Q (.ref l) H'
theorem uv {c Pt:Addr} {k:Nat} {e:Expr} {t:TA} {p kp pos:Pos} {params:Arguments} {body:Expr} {scope:Scope} {lp:Pos} {cl:List (Str×Addr)} {NL:List Str} {js:List Nat} {pn:Str} {tb:TE} (T:mL X c Pt) (hr:bL (k+1) X.A.in1.in1) (ha:PA X [e] t) (hg:Gl X "sorted") (hm:X.mg "sorted" = none)
 (hdef:defaultsOf params X.env=([],[])) (hcf:closureFor scope X.env=pure cl) (hcl:∀ p∈cl,X.env.cells.lookup p.1=some p.2) (hfn:∀ x,X.fn x=true)
 (hhas:∀ p∈scope.names,(p.2=.cell∨p.2=.free)->p.1∈cl.map (·.1)) (hfree:∀ x∈NL,scope.names.lookup x=some .free) (hown:∀ x∈NL,X.env.scope.names.lookup x=some .cell) (hN:NL.map some=js.map fun j=>X.N[j]?) (hst:X.stack=X.env::X.outer) (hfm:X.env.frame=some X.env.locals)
 (hbind:∀ (f c':Addr) (ctv v:Value),bindArgs (kla_fn "<lambda>" (X.env.qual++"<lambda>") params body scope cl ((X.mg "__name__").getD .none) (.ref c') ctv) ⟨[v],[]⟩=pure [(pn,v)])
 (hpn:scope.names.lookup pn=some .local) (hnf:pn∉NL) (hco:scope.isCoroutine=false) (hgen:scope.isGenerator=false) (hk:scope.kind=.function) (hcell:∀ x∈scope.names,x.2≠.cell)
 (hb:∀ (f c':Addr) (A:Around) (outer:List Env) (s:Shared) (H:Hp),PE (fU X.prog X.w X.K X.mg X.base (pn::NL) (X.env.qual++"<lambda>") scope f (.ref c') cl A outer s H E0) body tb) (hstr:starEach [e] X.env=[(false,eval e X.env)]:=by rfl) :
 PE X (.Call (.Name "sorted" p) [e] [⟨some "key",.Lambda params body scope lp,kp⟩] pos) (Gi X Pt params body scope lp cl js tb t):=by
 intro Z s O H Q I h
 refine wpAny_Call_Name_kw (j7 I hg hm pg ?_ (by decide) (by decide))
 refine callWith_kw (cj (ha pos Z s O H _ I h) fun us s1 ⟨vs,H1,I1,r1,q1⟩=>?_) (by rw [hstr];rfl) (by rw [hstr];rfl)
 obtain ⟨tk,q1⟩:=q1
 refine cj (ig (nm:=some "key") (kpos:=kp) (mW T hdef hcf) j5 pos Z s1 O H1 (fun zs H3=>∃ c' H2 f,wN H1 Pt lp (X.env.qual++"<lambda>") c' H2/\H2 f=none/\zs=[.ref f]/\∃ ctv,H3=upd H2 f (lamO f (kla_obj "<lambda>" (X.env.qual++"<lambda>") params body scope cl ((X.mg "__name__").getD .none) c' ctv))) I1 ⟨tk,fun c' H2 lm f ctv hf=>⟨c',H2,f,lm,hf,rfl,ctv,rfl⟩⟩) fun kvs s2 ⟨zs,H3,I2,r2,c',H2,f,lm,hf,ez,eH⟩=>?_
 subst ez
 obtain ⟨u,rfl,ru⟩:=vals1 r2
 cases (show u=Value.ref f from ru)
 obtain ⟨l,xs,trs,rfl,hq,h64,hx,ok,nd,hkey,fin⟩:=q1 c' H2 lm f H3 hf eH
 obtain ⟨u,rfl,ru⟩:=vals1 r1
 cases (show u=Value.ref l from ru)
 obtain ⟨ctv,eH⟩:=eH
 have hc2:H2 c'=some (gO c' (X.env.qual++"<lambda>")):=by
  obtain ⟨ps,_,⟨_,_,_,rfl⟩|⟨_,e2,rfl⟩⟩:=lm
  ·exact aj
  ·exact e2
 have h3f:H3 f=some (lamO f (kla_obj "<lambda>" (X.env.qual++"<lambda>") params body scope cl ((X.mg "__name__").getD .none) c' ctv)):=by rw [eH];exact aj
 have h3c:H3 c'=some (gO c' (X.env.qual++"<lambda>")):=by
  rw [eH,aA (fun z=>by rw [z,hf] at hc2;cases hc2)]
  exact hc2
 refine sy I2 hq h64 hx ok nd (fun s' H' i x u tr sm J ex et rx=>?_) fun o l' H' a1 a2 a3 a4 a5=>fin o l' H' a1 a2 a3 a4 a5
 have e0:=J.env0
 have C:=vq J hcl hfn hhas hfree hown hN hst hfm
 refine wpAny_call (codeAny_mono (qW (E:=E0) (A:=X.A.in1.in1) (outer:=X.stack) (sm _ _ h3f) (sm _ _ h3c) C (hbind f c' ctv) hpn hnf hco hgen hk hcell (hb f c' _ _ _ _) (hkey i x tr H' sm ex et) hr ⟨by simpa using e0.frames,e0.mod,e0.bs,e0.bsz,e0.funs,e0.frf,e0.hok,e0.bare⟩ rx) fun z s'' hz=>?_)
 match z,hz with
 | .error e,hz=>
   obtain ⟨_,_,_,_,_,_,_,_,_,_,q⟩:=hz
   exact q.elim
 |.ok (.ret u),hz=>exact J.after hz
end
section
variable {prog:Program} {w:World} {A:Around} {E:Value->Shared->Prop} {s:Shared}
theorem dR.typeIs {v:Value} {x:j_} (h:dR s.heap v x):s.TypeIs v "tuple":=by
 obtain ⟨b,t1,t2,t3,rfl,o,ho,hc,n,hd⟩:=h
 exact ⟨o,ho,hc⟩
theorem qR {x y:Value} {a b:j_} {Q:PySem.Fin->Shared->Prop} (hx:dR s.heap x a) (hy:dR s.heap y b) (oa:lE a) (ob:lE b) (h:Q (.done (.ret (.bool (decide (eN a<eN b))))) s):wpAny (model prog w) A (Builtin.«tuple.__lt__» ⟨[x,y],[]⟩) Q E s:=by
 have hTb:=hy.typeIs
 obtain ⟨p,t1,t2,t3,rfl,op,hop,hcp,np,hdp⟩:=hx
 obtain ⟨q,u1,u2,u3,rfl,oq,hoq,hcq,nq,hdq⟩:=hy
 show wpAny _ _ (isInstance (.ref q) (.type "tuple") >>= _) _ _ s
 refine wpAny_bind (wpAny_isInstance hTb isSubtype_tuple_tuple ?_)
 simp only [Bool.not_true,Bool.false_eq_true,if_false]
 refine wpAny_bind (wpAny_tupleItemsOf hop hdp ?_)
 refine wpAny_bind (wpAny_tupleItemsOf hoq hdq ?_)
 simp only [List.zip_cons_cons,List.zip_nil_right,List.forIn_cons,List.forIn_nil]
 have h0:a=b->Q (.done (.ret (.bool false))) s:=fun e=>by
  rw [decide_eq_false (show ¬ eN a<eN b by rw [e];exact Int.lt_irrefl _)] at h
  exact h
 obtain ⟨a1,a2,a3⟩:=a
 obtain ⟨b1,b2,b3⟩:=b
 obtain ⟨⟨o1,o2⟩,o3,o4⟩:=oa
 obtain ⟨⟨o5,o6⟩,o7,o8⟩:=ob
 simp only [eN] at h
 dsimp only at o1 o2 o3 o4 o5 o6 o7 o8 h ⊢
 have no:∀ {x y:Int},x≠y->(x == y)=false:=fun q=>by simpa using q
 refine wpAny_bind (wpAny_bind (wpAny_bind (wpAny_eqBool_int ?_)))
 by_cases c1:a1=b1
 ·rw [show (a1 == b1)=true by simpa using c1]
  refine wpAny_pure (wpAny_bind (wpAny_bind (wpAny_eqBool_int ?_)))
  by_cases c2:a2=b2
  ·rw [show (a2 == b2)=true by simpa using c2]
   refine wpAny_pure (wpAny_bind (wpAny_bind (wpAny_eqBool_int ?_)))
   by_cases c3:a3=b3
   ·rw [show (a3 == b3)=true by simpa using c3]
    exact wpAny_pure (wpAny_pure (wpAny_pure (h0 (by rw [c1,c2,c3]))))
   ·rw [no c3]
    refine wpAny_bind (wpAny_rule (wpAny_bind (PyProof.Rows.lt_int (wpAny_bind (wpAny_pure (wpAny_pure (wpAny_pure (wpAny_pure ?_))))))))
    rwa [show decide (a3<b3)=decide (a1*1000000000000+a2*1000000+a3<b1*1000000000000+b2*1000000+b3) by rw [decide_eq_decide];omega]
  ·rw [no c2]
   refine wpAny_bind (wpAny_rule (wpAny_bind (PyProof.Rows.lt_int (wpAny_bind (wpAny_pure (wpAny_pure (wpAny_pure (wpAny_pure ?_))))))))
   rwa [show decide (a2<b2)=decide (a1*1000000000000+a2*1000000+a3<b1*1000000000000+b2*1000000+b3) by rw [decide_eq_decide];omega]
 ·rw [no c1]
  refine wpAny_bind (wpAny_rule (wpAny_bind (PyProof.Rows.lt_int (wpAny_bind (wpAny_pure (wpAny_pure (wpAny_pure (wpAny_pure ?_))))))))
  rwa [show decide (a1<b1)=decide (a1*1000000000000+a2*1000000+a3<b1*1000000000000+b2*1000000+b3) by rw [decide_eq_decide];omega]
theorem Dp {x y:Value} {a b:j_} {Q:Value->Shared->Prop} (hu:A.units<cLine) (hx:dR s.heap x a) (hy:dR s.heap y b) (oa:lE a) (ob:lE b) (h:Q (.bool (decide (eN a<eN b))) s):wpAny (model prog w) A (richCompare .Lt x y) Q E s:=
 wpAny_richCompare_same_room (op:=.Lt) hx.typeIs hy.typeIs PySem.F.slot_tuple_lt (wpAny_call_entry PySem.F.slot_tuple_lt hx.typeIs PySem.F.entry_tuple_lt (qR hx hy oa ob ⟨_,rfl,(fun e=>nomatch e),h⟩) (PySem.F.args_tuple_lt_2 _ _)) hu
abbrev IW (wr:List Addr) (S:Addr) (h h':Heap):Prop:=∀ b o,b∉wr->b≠S->h.get? b=some o->h'.get? b=some o
def CW (prog:Program) (w:World) (A:Around) (wr:List Addr) (S:Addr) (h1:Heap) (P:Nat->Value->Prop) (bt:Nat->Nat->Bool):Prop:=
 ∀ i j vi vj (s:Shared) (Q:Value->Shared->Prop) (E:Value->Shared->Prop),IW wr S h1 s.heap->P i vi->P j vj->Q (.bool (bt i j)) s->wpAny (model prog w) A (richCompare .Lt vi vj) Q E s
theorem wK {R:Result->Shared->Prop} {I:Addr} {fp wr:List Addr} {n:Nat} {P:Nat->Value->Prop} {St:Nat->Heap->Prop} (W:Walks prog w A.in1 I fp wr n P St) (bt:Nat->Nat->Bool) (S:Addr) (hSf:S∉fp) (h1:Heap) (hcmp:CW prog w A.in1 wr S h1 P bt) :
 ∀ (k j:Nat) (s:Shared) (vb:Value) (c:Nat),n-(j+1)=k->j+1≤n->St (j+1) s.heap->IW wr S h1 s.heap->P (argBest bt j) vb->s.heap.get? S=some { cls:=.type "list",dict:=none,data:=.seq #[vb,vb] c,slots:=#[] }->
 (∀ v h' tk,P (argBest bt (n-1)) v->IW wr S s.heap h'->R (.ok (.ret v)) { s with heap:=h',toks:=tk })->
 codeAny (model prog w) A (.builtin "min.loop" ⟨[.ref I,.none,.ref S],[]⟩) R s:=by
 have hSw:S∉wr:=fun h=>hSf (W.sub _ h)
 have nm:(toString "min"++toString ".loop" : String) = "min.loop":=by decide
 intro k
 induction k with
 | zero=>
   intro j s vb c hk hj hst hg hPb hS hR
   have hin:j+1=n:=by omega
   refine codeAny_builtin PySem.F.entry_min_loop ?_
   rw [Around.under_plainId PySem.F.plain_min_loop _]
   show wpAny _ A.in1 (seqItems? (.ref S) >>= _) _ _ s
   refine wpAny_bind (wpAny_seqItems hS rfl ?_)
   show wpAny _ A.in1 (tryCatch (pyNext (.ref I)) _ >>= _) _ _ s
   refine wpAny_bind (wpAny_tryCatch (W.done s _ _ (hin ▸ hst) fun h' tk hk'=>?_))
   have hS':=hk' S _ hSw hS
   show wpAny _ A.in1 (updateSeq S (fun _=>#[]) >>= _) _ _ _
   refine wpAny_bind (wpAny_updateSeq hS' rfl (wpAny_bind (wpAny_letGo (wpAny_pure ?_))))
   exact hR vb _ tk (by rw [← hin];exact hPb) fun b o hbw hbS e=>(Heap.get?_update_other _ _ (Ne.symm hbS)).trans (hk' b o hbw e)
 | succ k ih=>
   intro j s vb c hk hj hst hg hPb hS hR
   have hlt:j+1<n:=by omega
   refine codeAny_builtin PySem.F.entry_min_loop ?_
   rw [Around.under_plainId PySem.F.plain_min_loop _]
   show wpAny _ A.in1 (seqItems? (.ref S) >>= _) _ _ s
   refine wpAny_bind (wpAny_seqItems hS rfl ?_)
   show wpAny _ A.in1 (tryCatch (pyNext (.ref I)) _ >>= _) _ _ s
   refine wpAny_bind (wpAny_tryCatch (W.item (j+1) s _ _ hlt hst fun v h' tk hP hst' hk'=>?_))
   have hS':=hk' S _ hSw hS
   have hg':IW wr S h1 h':=fun b o x1 x2 e=>hk' b o x1 (hg b o x1 x2 e)
   show wpAny _ A.in1 (tryCatch (holding [v,v] (richCompare .Lt v vb >>= _)) _ >>= _) _ _ _
   refine wpAny_bind (wpAny_tryCatch (wpAny_holding (wpAny_bind (hcmp (j+1) (argBest bt j) v vb _ _ _ hg' hP hPb ?_))))
   refine wpAny_bind (wpAny_holding (wpAny_truthy_bool ?_))
   refine wpAny_bind (wpAny_letGo (wpAny_pure ?_))
   have other:∀ b o (f:Obj->Obj),b≠S->h'.get? b=some o->(h'.update S f).get? b=some o:=fun b o f hbS e=>(Heap.get?_update_other _ _ (Ne.symm hbS)).trans e
   cases hb:bt (j+1) (argBest bt j) with
   | true=>
     simp only [if_true]
     refine wpAny_bind (wpAny_updateSeq hS' rfl (wpAny_bind (wpAny_letGo ?_)))
     rw [nm]
     exact wpAny_pure ⟨plainId_quiet PySem.F.plain_min_loop _,ih (j+1) _ v _ (by omega) hlt (W.frame _ _ _ hst' fun b hbf o e=>other b o _ (fun h=>hSf (h ▸ hbf)) e) (fun b o x1 x2 e=>other b o _ x2 (hg' b o x1 x2 e)) (by simp only [argBest,hb,if_true];exact hP) (Heap.get?_update_self _ hS' rfl)
      fun v' h'' tk'' hP' hk''=>hR v' h'' tk'' hP' fun b o x1 x2 e=>hk'' b o x1 x2 (other b o _ x2 (hk' b o x1 e))⟩
   | false=>
     simp only [Bool.false_eq_true,if_false]
     refine wpAny_bind (wpAny_letGo ?_)
     rw [nm]
     exact wpAny_pure ⟨plainId_quiet PySem.F.plain_min_loop _,ih (j+1) _ vb c (by omega) hlt hst' hg' (by simp only [argBest,hb,Bool.false_eq_true,if_false];exact hPb) hS' fun v' h'' tk'' hP' hk''=>hR v' h'' tk'' hP' fun b o x1 x2 e=>hk'' b o x1 x2 (hk' b o x1 e)⟩
theorem jg {α β:Type} {R:α->β->Prop}:∀ {xs:List α} {ys:List β} {i:Nat} {x:α},Paired R xs ys->xs[i]?=some x->∃ y,ys[i]?=some y/\R x y
 |_,_,0,_,.cons h _,e=>⟨_,rfl,by cases e;exact h⟩
 |_,_,i+1,_,.cons _ t,e=>jg (i:=i) t (by simpa using e)
 |_,_,i,_,.nil,e=>by simp at e
theorem dR.keep {h h':Heap} {v:Value} {x:j_} (t:dR h v x) (k:∀ b o,h.get? b=some o->h'.get? b=some o):dR h' v x:=by
 obtain ⟨b,t1,t2,t3,rfl,o,ho,r⟩:=t
 exact ⟨b,t1,t2,t3,rfl,o,k _ _ ho,r⟩
theorem Bg {l:Addr} {vs:List Value} {ts:List j_} {Q:Value->Shared->Prop} (hh:A.handled=none) (hu:A.in1.units<cLine) (hl:s.heap.IsList l vs.toArray) (hp:Paired (dR s.heap) vs ts) (ok:∀ t∈ts,lE t) (hne:0<vs.length)
 (h:∀ v h' tk,vs[argBest (fun i j=>decide (eN (ts.getD i (0,0,0))<eN (ts.getD j (0,0,0)))) (vs.length-1)]?=some v->(∀ b o,s.heap.get? b=some o->h'.get? b=some o)->Q v { s with heap:=h',toks:=tk }) :
 wpAny (model prog w) A (call (.builtin "min") [.ref l]) Q E s:=by
 have nm:(toString "min"++toString ".loop" : String) = "min.loop":=by decide
 have hlt:l<s.heap.objs.size:=by obtain ⟨_,e,_⟩:=hl;exact Heap.lt_size e
 refine call_function_tree PySem.F.kind_min PySem.F.plain_min PySem.F.entry_min (PySem.F.args_min1 _) ?_
 show wpAny _ A.in1 (Builtin.Builtins.bindParams "min" ["key","default"] 0 ⟨[],[]⟩ >>= _) _ _ s
 refine wpAny_bind (wpAny_of_eq (show Builtin.Builtins.bindParams "min" ["key","default"] 0 ⟨[],[]⟩=pure [none,none] from rfl) ?_)
 refine wpAny_bind (wpAny_pure ?_)
 refine wpAny_bind (wpAny_pyIter_list hl ?_)
 refine wpAny_bind (wpAny_newObj_type ?_)
 rw [nm]
 refine wpAny_pure ⟨plainId_quiet PySem.F.plain_min_loop _,?_⟩
 have hI:l≠s.heap.objs.size:=Nat.ne_of_lt hlt
 have W:=Walks.list (prog:=prog) (w:=w) (A:=A.in1) hh s.heap.objs.size l hI vs.toArray
 have k2:∀ b o,s.heap.get? b=some o->(s.heap.push { cls:=.type "list_iterator",data:=.fields #[.ref l,.int 0 0] }).get? b=some o:=fun b o e=>Heap.get?_push_of_some _ e
 have st2:(s.heap.push { cls:=.type "list_iterator",data:=.fields #[.ref l,.int 0 0] }).IsListIter s.heap.objs.size l 0/\(s.heap.push { cls:=.type "list_iterator",data:=.fields #[.ref l,.int 0 0] }).IsList l vs.toArray:=⟨⟨_,Heap.get?_push_size _ rfl,rfl,rfl⟩,hl.push _⟩
 have z2:(s.heap.push { cls:=.type "list_iterator",data:=.fields #[.ref l,.int 0 0] }).objs.size=s.heap.objs.size+1:=Heap.size_push ..
 generalize s.heap.push { cls:=.type "list_iterator",data:=.fields #[.ref l,.int 0 0] }=h2 at k2 st2 z2 ⊢
 have hS:(h2.push { cls:=.type "list",data:=.seq #[] }).get? h2.objs.size=some { cls:=.type "list",dict:=none,data:=.seq #[] 0,slots:=#[] }:=Heap.get?_push_size _ rfl
 have k3:∀ b o,h2.get? b=some o->(h2.push { cls:=.type "list",data:=.seq #[] }).get? b=some o:=fun b o e=>Heap.get?_push_of_some _ e
 generalize h2.push { cls:=.type "list",data:=.seq #[] }=h3 at hS k3 ⊢
 have st3:=W.frame _ _ h3 st2 fun b _ o e=>k3 b o e
 have hSf:h2.objs.size∉[s.heap.objs.size,l]:=fun hm=>by
  rw [z2] at hm
  rcases List.mem_cons.mp hm with e|hm
  ·exact Nat.succ_ne_self _ e
  ·have e:=List.mem_singleton.mp hm
   rw [← e] at hlt
   exact Nat.not_succ_lt_self hlt
 generalize h2.objs.size=S at hS hSf z2 ⊢
 have hSw:S∉[s.heap.objs.size]:=fun h=>hSf (W.sub _ h)
 have old:∀ {h'},IW [s.heap.objs.size] S h3 h'->∀ b o,s.heap.get? b=some o->h'.get? b=some o:=fun k b o e=>by
  have lt:=Heap.lt_size e
  exact k b o (fun hm=>Nat.ne_of_lt lt (List.mem_singleton.mp hm)) (fun z=>Nat.lt_irrefl _ (Nat.lt_trans lt (by rw [z,z2];exact Nat.lt_succ_self _))) (k3 b o (k2 b o e))
 have hcmp:CW prog w A.in1 [s.heap.objs.size] S h3 (fun i v=>vs.toArray[i]?=some v) (fun i j=>decide (eN (ts.getD i (0,0,0))<eN (ts.getD j (0,0,0)))):=fun i j vi vj s' Q' E' kp e1 e2 hq=>by
  obtain ⟨t1,g1,r1⟩:=jg hp (show vs[i]?=some vi by simpa using e1)
  obtain ⟨t2,g2,r2⟩:=jg hp (show vs[j]?=some vj by simpa using e2)
  refine Dp hu (r1.keep (old kp)) (r2.keep (old kp)) (ok _ (List.mem_of_getElem? g1)) (ok _ (List.mem_of_getElem? g2)) ?_
  dsimp only at hq
  rw [List.getD_eq_getElem?_getD,List.getD_eq_getElem?_getD,g1,g2] at hq
  exact hq
 have hn:0<vs.toArray.size:=by simpa using hne
 refine codeAny_builtin PySem.F.entry_min_loop ?_
 rw [Around.under_plainId PySem.F.plain_min_loop _]
 show wpAny _ A.in1 (seqItems? (.ref S) >>= _) _ _ _
 refine wpAny_bind (wpAny_seqItems hS rfl ?_)
 show wpAny _ A.in1 (tryCatch (pyNext (.ref s.heap.objs.size)) _ >>= _) _ _ _
 refine wpAny_bind (wpAny_tryCatch (W.item 0 _ _ _ hn st3 fun v h' tk hP hst' hk'=>?_))
 have hS':=hk' S _ hSw hS
 have other:∀ b o (f:Obj->Obj),b≠S->h'.get? b=some o->(h'.update S f).get? b=some o:=fun b o f hbS e=>(Heap.get?_update_other _ _ (Ne.symm hbS)).trans e
 show wpAny _ A.in1 (updateSeq S (fun _=>#[v,v]) >>= _) _ _ _
 refine wpAny_bind (wpAny_updateSeq hS' rfl ?_)
 rw [nm]
 refine wpAny_pure ⟨plainId_quiet PySem.F.plain_min_loop _,wK W _ S hSf h3 hcmp _ 0 _ v _ rfl hn (W.frame _ _ _ hst' fun b hbf o e=>other b o _ (fun h=>hSf (h ▸ hbf)) e) (fun b o x1 x2 e=>other b o _ x2 (hk' b o x1 e)) hP (Heap.get?_update_self _ hS' rfl) fun v' h'' tk'' hP' hk''=>?_⟩
 exact h v' h'' tk'' (by simpa using hP') (old fun b o x1 x2 e=>hk'' b o x1 x2 (other b o _ x2 (hk' b o x1 e)))
end
section
variable {X:Cx} {K:Frag}
def yw (K:Frag) (H:Hp) (v:V) (t:j_):Prop:=∃ b,v=.ref b/\cA K H b (j8 t)
def Gr (K:Frag):List V->Hp->VK->Prop:=fun xs H Q=>∃ p vs ts,xs=[.ref p]/\aQ K H p vs/\Paired (yw K H) vs ts/\(∀ t∈ts,lE t)/\vs≠[]/\∀ (i:Nat) v t,vs[i]?=some v->ts[i]?=some t->(∀ t'∈ts,eN t≤eN t')->Q v H
theorem su {Z:List (Addr×Obj)} {O:St} {H:Hp} {s:Shared} (I:Inv X Z O H s):∀ {vs:List V} {us:List Value} {ts:List j_},Vals vs us->Paired (yw X.K H) vs ts->Paired (dR s.heap) us ts
 |_,_,_,.nil,.nil=>.nil
 | _,_,_,.cons r rs,.cons ⟨b,e,h⟩ ps=>by
   subst e
   cases (show _=Value.ref b from r)
   refine .cons ?_ (su I rs ps)
   obtain ⟨its,r,ht,_⟩:=I.tuple h
   cases r with
   | cons r1 r=>
     cases r with
     | cons r2 r=>
       cases r with
       | cons r3 r=>
         cases r
         obtain ⟨t1,rfl⟩:=r1
         obtain ⟨t2,rfl⟩:=r2
         obtain ⟨t3,rfl⟩:=r3
         exact ⟨b,t1,t2,t3,rfl,ht⟩
theorem uQ:∀ {vs:List V} {us:List Value} {i:Nat} {u:Value},Vals vs us->us[i]?=some u->∃ v,vs[i]?=some v/\RelV v u
 |_,_,0,_,.cons h _,e=>⟨_,rfl,by cases e;exact h⟩
 |_,_,i+1,_,.cons _ t,e=>uQ (i:=i) t (by simpa using e)
 |_,_,i,_,.nil,e=>by simp at e
theorem vK (hK:X.K=K) (hc:X.calm=true) (hu:X.A.units+64<cLine):dH X (.builtin "min") (Gr K):=by
 subst hK
 intro Z s O H xs us Q I r h
 obtain ⟨p,vs,ts,rfl,hq,ht,ok,hne,q⟩:=h
 obtain ⟨u,rfl,ru⟩:=vals1 r
 cases (show u=Value.ref p from ru)
 obtain ⟨its,rv,pl,hz⟩:=I.list hq
 have tr:=su I rv ht
 have l1:=rv.length
 have l2:=Paired.length ht
 have hpos:0<vs.length:=List.length_pos_iff.mpr hne
 refine Bg (I.ok.hd hc) (by show X.A.units+1<_;omega) pl.isList tr ok (by omega) fun v h' tk hv k=>?_
 have hb:=argBest_lt (fun i=>eN (ts.getD i (0,0,0))) (its.length-1)
 generalize argBest (fun i j=>decide (eN (ts.getD i (0,0,0))<eN (ts.getD j (0,0,0)))) (its.length-1)=m at hv hb
 obtain ⟨v',e',rel⟩:=uQ rv hv
 obtain ⟨t,et,_⟩:=jg ht e'
 refine ⟨v',H,I.kept k,rel,q m v' t e' et fun t' ht'=>?_⟩
 obtain ⟨j,hj,rfl⟩:=List.getElem_of_mem ht'
 have:=hb.2 j (by omega)
 rw [List.getD_eq_getElem?_getD,List.getD_eq_getElem?_getD,et,List.getElem?_eq_getElem hj] at this
 exact this
end
end L2
namespace Bf
abbrev cg:=Int×Int×Int
def Sat (h:Int->Int) (e:cg):Prop:=h e.2.1+e.2.2≤h e.1
def put {α:Type} (f:Int->α) (a:Int) (x:α):Int->α:=fun b=>if b=a then x else f b
theorem bw {α:Type} {f:Int->α} {a:Int} {x:α}:put f a x a=x:=if_pos rfl
theorem bM {α:Type} {f:Int->α} {a b:Int} {x:α} (h:b≠a):put f a x b=f b:=if_neg h
structure St where
 h:Int->Int
 by':Int->Option cg
 r:Int->Nat
 ts:Int->Nat
 c:Nat
def St.raise (s:St) (k:Nat) (e:cg):St:=⟨put s.h e.1 (s.h e.2.1+e.2.2),put s.by' e.1 (some e),put s.r e.1 k,put s.ts e.1 (s.c+1),s.c+1⟩
def St.zero:St:=⟨fun _=>0,fun _=>none,fun _=>0,fun _=>0,0⟩
structure Good (ties:List cg) (k:Nat) (s:St):Prop where
 by1:∀ v e,s.by' v=some e->e.1=v/\e∈ties
 sl:∀ v e,s.by' v=some e->s.h v≤s.h e.2.1+e.2.2/\(s.ts v<s.ts e.2.1->s.h v<s.h e.2.1+e.2.2)
 rr:∀ v e,s.by' v=some e->s.r v≤s.r e.2.1+1/\1≤s.ts v
 no:∀ v,s.by' v=none->s.r v=0
 tc:∀ v,s.ts v≤s.c
 ti:∀ u v,s.ts u=s.ts v->1≤s.ts u->u=v
 nn:∀ v,0≤s.h v
 le:∀ g:Int->Int,(∀ v,0≤g v)->(∀ e∈ties,Sat g e)->∀ v,s.h v≤g v
 rk:∀ v,s.r v≤k
theorem Good.zero (ties:List cg) (k:Nat):Good ties k St.zero:=⟨fun v e h=>by simp [St.zero] at h,fun v e h=>by simp [St.zero] at h,fun v e h=>by simp [St.zero] at h,fun v _=>rfl,fun v=>Nat.zero_le _,fun u v _ h=>by simp [St.zero] at h,fun v=>Int.le_refl _,fun g h0 _ v=>h0 v,fun v=>Nat.zero_le _⟩
theorem Good.up {ties:List cg} {k k':Nat} {s:St} (G:Good ties k s) (h:k≤k'):Good ties k' s:=⟨G.by1,G.sl,G.rr,G.no,G.tc,G.ti,G.nn,G.le,fun v=>Nat.le_trans (G.rk v) h⟩
theorem Good.raise {ties:List cg} {k:Nat} {s:St} {e:cg} (G:Good ties k s) (m:e∈ties) (hne:e.1≠e.2.1) (hlt:s.h e.1<s.h e.2.1+e.2.2) (hr:k≤s.r e.2.1+1):Good ties k (s.raise k e):=by
 obtain ⟨o,t,l⟩:=e
 dsimp only at hne hlt hr
 have hto:t≠o:=Ne.symm hne
 refine ⟨fun v e h=>?_,fun v e h=>?_,fun v e h=>?_,fun v h=>?_,fun v=>?_,fun u v h h1=>?_,fun v=>?_,fun g h0 hg v=>?_,fun v=>?_⟩
 ·dsimp only [St.raise] at h
  by_cases q:v=o
  ·subst q;rw [bw] at h;cases h;exact ⟨rfl,m⟩
  ·rw [bM q] at h;exact G.by1 v e h
 ·dsimp only [St.raise] at h ⊢
  by_cases q:v=o
  ·subst q
   rw [bw] at h;cases h
   dsimp only
   rw [bw,bM hto,bw,bM hto]
   have:=G.tc t
   exact ⟨Int.le_refl _,fun z=>by omega⟩
  ·rw [bM q] at h
   have h1:=G.sl v e h
   have hb:=G.by1 v e h
   rw [bM q,bM q]
   by_cases q2:e.2.1=o
   ·rw [q2,bw,bw]
    rw [q2] at h1
    exact ⟨by omega,fun _=>by omega⟩
   ·rw [bM q2,bM q2];exact h1
 ·dsimp only [St.raise] at h ⊢
  by_cases q:v=o
  ·subst q
   rw [bw] at h;cases h
   dsimp only
   rw [bw,bM hto,bw]
   exact ⟨hr,by omega⟩
  ·rw [bM q] at h
   have h1:=G.rr v e h
   rw [bM q,bM q]
   by_cases q2:e.2.1=o
   ·rw [q2,bw]
    have:=G.rk v
    exact ⟨by omega,h1.2⟩
   ·rw [bM q2];exact h1
 ·dsimp only [St.raise] at h ⊢
  by_cases q:v=o
  ·subst q;rw [bw] at h;cases h
  ·rw [bM q] at h ⊢;exact G.no v h
 ·dsimp only [St.raise]
  by_cases q:v=o
  ·subst q;rw [bw];exact Nat.le_refl _
  ·rw [bM q];exact Nat.le_trans (G.tc v) (Nat.le_succ _)
 ·dsimp only [St.raise] at h h1
  by_cases q:u=o
  ·by_cases q2:v=o
   ·rw [q,q2]
   ·rw [q,bw,bM q2] at h
    have:=G.tc v
    omega
  ·by_cases q2:v=o
   ·rw [q2,bw,bM q] at h
    have:=G.tc u
    omega
   ·rw [bM q,bM q2] at h
    rw [bM q] at h1
    exact G.ti u v h h1
 ·dsimp only [St.raise]
  by_cases q:v=o
  ·subst q;rw [bw];have:=G.nn v;omega
  ·rw [bM q];exact G.nn v
 ·dsimp only [St.raise]
  by_cases q:v=o
  ·subst q
   rw [bw]
   have h1:=G.le g h0 hg t
   have h2:g t+l≤g v:=hg _ m
   omega
  ·rw [bM q];exact G.le g h0 hg v
 ·dsimp only [St.raise]
  by_cases q:v=o
  ·subst q;rw [bw];exact Nat.le_refl _
  ·rw [bM q];exact G.rk v
structure Round (ties:List cg) (k:Nat) (P S:List cg) (s:St) (st:Option Int):Prop where
 g:Good ties k s
 p:∀ e∈P,Sat s.h e∨k≤s.r e.2.1
 q:∀ e∈S,Sat s.h e∨k≤s.r e.2.1+1
 n:st=none->∀ e∈P,Sat s.h e
 y:∀ v,st=some v->s.r v=k/\∃ e∈ties,e.1=v
theorem Round.first (ties:List cg):Round ties 1 [] ties St.zero none:=⟨.zero ties 1,fun e h=>by simp at h,fun e _=>.inr (by simp [St.zero]),fun _ e h=>by simp at h,fun v h=>by cases h⟩
theorem Round.next {ties:List cg} {k:Nat} {s:St} {v:Int} (R:Round ties k ties [] s (some v)):Round ties (k+1) [] ties s none:=
 ⟨R.g.up (Nat.le_succ _),fun e h=>by simp at h,fun e h=>(R.p e h).imp id fun z=>by omega,fun _ e h=>by simp at h,fun v h=>by cases h⟩
theorem Round.keep {ties:List cg} {k:Nat} {P S:List cg} {s:St} {st:Option Int} {e:cg} (R:Round ties k P (e::S) s st) (h:¬ s.h e.1<s.h e.2.1+e.2.2):Round ties k (P++[e]) S s st:=by
 have he:Sat s.h e:=by unfold Sat;omega
 refine ⟨R.g,fun f hf=>?_,fun f hf=>R.q f (List.mem_cons_of_mem _ hf),fun hn f hf=>?_,R.y⟩
 ·rcases List.mem_append.mp hf with hf|hf
  ·exact R.p f hf
  ·cases List.mem_singleton.mp hf;exact .inl he
 ·rcases List.mem_append.mp hf with hf|hf
  ·exact R.n hn f hf
  ·cases List.mem_singleton.mp hf;exact he
theorem vO {s:St} {k:Nat} {e f:cg} (hlt:s.h e.1<s.h e.2.1+e.2.2) (hs:Sat s.h f) (hf:f.2.1≠e.1):Sat (s.raise k e).h f:=by
 unfold Sat at hs ⊢
 dsimp only [St.raise]
 rw [bM hf]
 by_cases q:f.1=e.1
 ·rw [q,bw];rw [q] at hs;omega
 ·rw [bM q];exact hs
theorem Round.raise {ties:List cg} {k:Nat} {P S:List cg} {s:St} {st:Option Int} {e:cg} (R:Round ties k P (e::S) s st) (m:e∈ties) (hne:e.1≠e.2.1) (hlt:s.h e.1<s.h e.2.1+e.2.2):Round ties k (P++[e]) S (s.raise k e) (some e.1):=by
 have hr:k≤s.r e.2.1+1:=by
  rcases R.q e List.mem_cons_self with z|z
  ·unfold Sat at z;omega
  ·exact z
 have rr:∀ v,s.r v≤(s.raise k e).r v:=fun v=>by
  dsimp only [St.raise]
  by_cases q:v=e.1
  ·subst q;rw [bw];exact R.g.rk _
  ·rw [bM q];exact Nat.le_refl _
 have ro:(s.raise k e).r e.1=k:=bw
 have keep:∀ f,Sat s.h f->Sat (s.raise k e).h f∨k≤(s.raise k e).r f.2.1:=fun f hf=>by
  by_cases q:f.2.1=e.1
  ·right;rw [q,ro];exact Nat.le_refl _
  ·left;exact vO hlt hf q
 refine ⟨R.g.raise m hne hlt hr,fun f hf=>?_,fun f hf=>?_,(fun hn=>by cases hn),fun v hv=>?_⟩
 ·rcases List.mem_append.mp hf with hf|hf
  ·rcases R.p f hf with z|z
   ·exact keep f z
   ·exact .inr (Nat.le_trans z (rr _))
  ·cases List.mem_singleton.mp hf
   left
   unfold Sat
   dsimp only [St.raise]
   rw [bw,bM (Ne.symm hne)]
   exact Int.le_refl _
 ·rcases R.q f (List.mem_cons_of_mem _ hf) with z|z
  ·exact (keep f z).imp id fun z=>by omega
  ·right;have:=rr f.2.1;omega
 ·cases hv
  exact ⟨ro,e,m,rfl⟩
theorem gk:∀ (n:Nat) (a:Int) (l:List Int),l.Nodup->(∀ x∈l,a≤x/\x<a+n)->l.length≤n
 | 0,a,l,_,h=>by
   cases l with
   |nil=>exact Nat.le_refl _
   |cons x r=>have:=h x List.mem_cons_self;omega
 | n+1,a,l,nd,h=>by
   by_cases q:a+n∈l
   ·have h1:=gk n a (l.erase (a+n)) (nd.erase _) fun x hx=>by
     have:=(List.Nodup.mem_erase_iff nd).mp hx
     have h2:=h x this.2
     have h3:=this.1
     refine ⟨h2.1,?_⟩
     omega
    rw [List.length_erase_of_mem q] at h1
    omega
   ·have h1:=gk n a l nd fun x hx=>by
     have h2:=h x hx
     have h3:x≠a+n:=fun z=>q (z ▸ hx)
     exact ⟨h2.1,by omega⟩
    omega
def nx (s:St) (v:Int):Int:=match s.by' v with
 |some e=>e.2.1
 |none=>v
def it (s:St) (v:Int):Nat->Int
 |0=>v
 |i+1=>nx s (it s v i)
theorem jU (s:St) (v:Int) (i:Nat):∀ j,it s v (i+j)=it s (it s v i) j
 |0=>rfl
 |j+1=>by show nx s (it s v (i+j))=nx s _;rw [jU s v i j]
theorem De {s:St} {v:Int} {e:cg} (h:s.by' v=some e):nx s v=e.2.1:=by unfold nx;rw [h]
theorem iK {f:Nat->Int}:∀ n,¬ ((List.range n).map f).Nodup->∃ i j,i<j/\j<n/\f i=f j
 |0,h=>absurd (by simp) h
 | n+1,h=>by
   rw [List.range_succ,List.map_append,List.map_cons,List.map_nil] at h
   by_cases q:((List.range n).map f).Nodup
   ·by_cases q2:f n∈(List.range n).map f
    ·obtain ⟨i,hi,e⟩:=List.mem_map.mp q2
     exact ⟨i,n,List.mem_range.mp hi,Nat.lt_succ_self _,e⟩
    ·exfalso
     refine h (List.nodup_append.mpr ⟨q,by simp,fun a ha b hb=>?_⟩)
     cases List.mem_singleton.mp hb
     exact fun z=>q2 (z ▸ ha)
   ·obtain ⟨i,j,h1,h2,h3⟩:=iK n q
    exact ⟨i,j,h1,Nat.lt_succ_of_lt h2,h3⟩
section
variable {ties:List cg} {n:Nat} {a:Int} {s:St} {v:Int}
structure Stuck (ties:List cg) (n:Nat) (a:Int) (s:St) (v:Int):Prop where
 g:Good ties (n+1) s
 nd:∀ e∈ties,(a≤e.1/\e.1<a+n)/\(a≤e.2.1/\e.2.1<a+n)/\e.1≠e.2.1
 v0:a≤v/\v<a+n
 rv:s.r v=n+1
theorem Stuck.back (S:Stuck ties n a s v):∀ i,i≤n+1->n+1≤s.r (it s v i)+i/\(a≤it s v i/\it s v i<a+n)
 |0,_=>⟨by show n+1≤s.r v+0;have:=S.rv;omega,S.v0⟩
 | i+1,h=>by
   obtain ⟨h1,h2⟩:=S.back i (by omega)
   show n+1≤s.r (nx s (it s v i))+(i+1)/\(a≤nx s (it s v i)/\nx s (it s v i)<a+n)
   cases e:s.by' (it s v i) with
   |none=>have:=S.g.no _ e;omega
   | some t=>
     rw [De e]
     have:=(S.g.rr _ _ e).1
     exact ⟨by omega,(S.nd t (S.g.by1 _ _ e).2).2.1⟩
theorem Stuck.has0 (S:Stuck ties n a s v) {i:Nat} (h:i≤n):∃ e,s.by' (it s v i)=some e:=by
 obtain ⟨h1,_⟩:=S.back i (by omega)
 cases e:s.by' (it s v i) with
 |none=>have:=S.g.no _ e;omega
 |some t=>exact ⟨t,rfl⟩
theorem Stuck.per (S:Stuck ties n a s v):∃ i d,1≤d/\i+d≤n/\∀ m,i≤m->it s v (m+d)=it s v m:=by
 have h1:¬ ((List.range (n+1)).map (it s v)).Nodup:=fun nd=>by
  have:=gk n a _ nd fun x hx=>by
   obtain ⟨i,hi,e⟩:=List.mem_map.mp hx
   rw [← e]
   exact (S.back i (by have:=List.mem_range.mp hi;omega)).2
  simp at this
  omega
 obtain ⟨i,j,h2,h3,h4⟩:=iK _ h1
 refine ⟨i,j-i,by omega,by omega,fun m hm=>?_⟩
 have e1:m+(j-i)=j+(m-i):=by omega
 have e2:it s v m=it s v (i+(m-i)):=by rw [Nat.add_sub_cancel' hm]
 rw [e1,e2,jU,jU,h4]
theorem Stuck.has (S:Stuck ties n a s v):∀ i,∃ e,s.by' (it s v i)=some e:=by
 obtain ⟨i0,d,h1,h2,h3⟩:=S.per
 intro i
 induction i using Nat.strongRecOn with
 | _ i ih=>
   by_cases h:i≤n
   ·exact S.has0 h
   ·have e:it s v i=it s v (i-d):=by
     have:=h3 (i-d) (by omega)
     rw [Nat.sub_add_cancel (by omega)] at this
     exact this
    rw [e]
    exact ih (i-d) (by omega)
theorem Stuck.loop (S:Stuck ties n a s v):∃ d,1≤d/\it s v (n+d)=it s v n:=by
 obtain ⟨i0,d,h1,h2,h3⟩:=S.per
 exact ⟨d,h1,h3 n (by omega)⟩
def dU (s:St) (v:Int) (i:Nat):cg:=(s.by' (it s v i)).getD (0,0,0)
theorem Stuck.tie (S:Stuck ties n a s v) (i:Nat):s.by' (it s v i)=some (dU s v i):=by
 obtain ⟨e,h⟩:=S.has i
 unfold dU
 rw [h];rfl
theorem Stuck.one (S:Stuck ties n a s v) (i:Nat):(dU s v i).1=it s v i:=(S.g.by1 _ _ (S.tie i)).1
theorem Stuck.mem (S:Stuck ties n a s v) (i:Nat):dU s v i∈ties:=(S.g.by1 _ _ (S.tie i)).2
theorem Stuck.other (S:Stuck ties n a s v) (i:Nat):(dU s v i).2.1=it s v (i+1):=(De (S.tie i)).symm
structure pU (es:List cg):Prop where
 ne:es≠[]
 link:∀ i,i+1<es.length->(es.getD i (0,0,0)).2.1=(es.getD (i+1) (0,0,0)).1
 close:(es.getD (es.length-1) (0,0,0)).2.1=(es.getD 0 (0,0,0)).1
 nd:(es.map (·.1)).Nodup
 pos:0<(es.map (·.2.2)).sum
def dg (s:St) (v:Int) (n m:Nat):List cg:=(List.range m).map fun i=>dU s v (n+i)
theorem gD {s:St} {v:Int} {n m i:Nat} (h:i<m):(dg s v n m).getD i (0,0,0)=dU s v (n+i):=by
 unfold dg
 rw [List.getD_eq_getElem?_getD,List.getElem?_map,List.getElem?_range h];rfl
theorem gY {s:St} {v:Int} {n m:Nat}:(dg s v n m).length=m:=by unfold dg;simp
theorem Stuck.sum (S:Stuck ties n a s v):∀ m,s.h (it s v n)-s.h (it s v (n+m))≤((dg s v n m).map (·.2.2)).sum/\
 ((∃ i,i<m/\s.ts (it s v (n+i))<s.ts (it s v (n+i+1)))->s.h (it s v n)-s.h (it s v (n+m))<((dg s v n m).map (·.2.2)).sum)
 |0=>⟨by simp [dg],fun ⟨i,h,_⟩=>absurd h (Nat.not_lt_zero _)⟩
 | m+1=>by
   obtain ⟨h1,h2⟩:=S.sum m
   have e:((dg s v n (m+1)).map (·.2.2)).sum=((dg s v n m).map (·.2.2)).sum+(dU s v (n+m)).2.2:=by
    unfold dg
    rw [List.range_succ,List.map_append,List.map_append,List.sum_append]
    simp
   have h3:=S.g.sl _ _ (S.tie (n+m))
   rw [S.other] at h3
   have e2:n+(m+1)=n+m+1:=rfl
   rw [e,e2]
   refine ⟨by omega,fun ⟨i,hi,ht⟩=>?_⟩
   by_cases q:i<m
   ·have:=h2 ⟨i,q,ht⟩
    omega
   ·have:i=m:=by omega
    subst this
    have:=h3.2 ht
    omega
theorem Stuck.ring (S:Stuck ties n a s v) {m:Nat} (h0:it s v (n+(m+1))=it s v n) (h1:∀ i,1≤i->i≤m->it s v (n+i)≠it s v n):pU (dg s v n (m+1))/\∀ e∈dg s v n (m+1),e∈ties:=by
 refine ⟨⟨?_,fun i hi=>?_,?_,?_,?_⟩,fun e he=>?_⟩
 ·intro z
  have:=congrArg List.length z
  rw [gY] at this
  simp at this
 ·rw [gY] at hi
  rw [gD (by omega),gD hi,S.other,S.one]
  rfl
 ·rw [gY,Nat.add_sub_cancel,gD (Nat.lt_succ_self _),gD (Nat.succ_pos _),S.other,S.one]
  exact h0
 ·unfold dg
  rw [List.map_map]
  have e:(fun i=>((fun e:cg=>e.1) ∘ fun i=>dU s v (n+i)) i)=fun i=>it s v (n+i):=funext fun i=>S.one _
  show ((List.range (m+1)).map (fun i=>((fun e:cg=>e.1) ∘ fun i=>dU s v (n+i)) i)).Nodup
  rw [e]
  refine Classical.byContradiction fun z=>?_
  obtain ⟨i,j,h2,h3,h4⟩:=iK _ z
  have e1:it s v (n+i+(m+1-j))=it s v n:=by
   rw [jU,h4,← jU,← h0]
   congr 1
   omega
  exact h1 (i+(m+1-j)) (by omega) (by omega) (by rw [← Nat.add_assoc];exact e1)
 ·obtain ⟨_,h2⟩:=S.sum (m+1)
  rw [h0] at h2
  refine Int.lt_of_le_of_lt (Int.le_of_eq (Int.sub_self _).symm) (h2 (Classical.byContradiction fun z=>?_))
  have dn:∀ i,i<m+1->s.ts (it s v (n+i+1))≤s.ts (it s v (n+i)):=fun i hi=>by
   refine Classical.byContradiction fun q=>z ⟨i,hi,by omega⟩
  have mono:∀ i,1≤i->i≤m+1->s.ts (it s v (n+i))≤s.ts (it s v (n+1)):=by
   intro i
   induction i with
   |zero=>intro h;omega
   | succ i ih=>
     intro _ hi
     by_cases q:i=0
     ·subst q;exact Nat.le_refl _
     ·exact Nat.le_trans (dn i (by omega)) (ih (by omega) (by omega))
  have h3:=mono (m+1) (by omega) (Nat.le_refl _)
  rw [h0] at h3
  have h4:=dn 0 (Nat.succ_pos _)
  have h5:s.ts (it s v (n+1))=s.ts (it s v n):=Nat.le_antisymm h4 h3
  have h6:=(S.g.rr _ _ (S.tie n)).2
  have h7:=S.g.ti _ _ h5.symm h6
  have h8:=(S.nd _ (S.mem n)).2.2
  rw [S.one,S.other] at h8
  exact h8 h7
 ·unfold dg at he
  obtain ⟨i,_,rfl⟩:=List.mem_map.mp he
  exact S.mem _
end
theorem zY {es:List cg} {g:Int->Int} (R:pU es) (h:∀ e∈es,Sat g e):False:=by
 have key:∀ m,m≤es.length->0<m->((es.take m).map (·.2.2)).sum≤g (es.getD 0 (0,0,0)).1-g (es.getD (m-1) (0,0,0)).2.1:=by
  intro m
  induction m with
  |zero=>intro _ h;exact absurd h (Nat.lt_irrefl _)
  | succ m ih=>
    intro hm _
    have hlt:m<es.length:=by omega
    have e1:es.take (m+1)=es.take m++[es.getD m (0,0,0)]:=by
     rw [List.take_succ,List.getD_eq_getElem?_getD,List.getElem?_eq_getElem hlt];rfl
    have hs:=h (es.getD m (0,0,0)) (by rw [List.getD_eq_getElem?_getD,List.getElem?_eq_getElem hlt];exact List.getElem_mem hlt)
    unfold Sat at hs
    rw [e1,List.map_append,List.sum_append]
    show _+([(es.getD m (0,0,0)).2.2]:List Int).sum≤_
    rw [List.sum_cons,List.sum_nil,Nat.add_sub_cancel]
    by_cases q:m=0
    ·subst q
     simp only [List.take_zero,List.map_nil,List.sum_nil]
     omega
    ·have h1:=ih (by omega) (by omega)
     have h2:=R.link (m-1) (by omega)
     rw [Nat.sub_add_cancel (by omega)] at h2
     rw [h2] at h1
     omega
 have hp:0<es.length:=List.length_pos_iff.mpr R.ne
 have h1:=key es.length (Nat.le_refl _) hp
 rw [List.take_length,R.close] at h1
 have:=R.pos
 omega
end Bf
namespace Bf
section
variable {ties:List cg} {n:Nat} {a:Int} {s:St} {v:Int}
theorem Stuck.first (S:Stuck ties n a s v):∃ m,it s v (n+(m+1))=it s v n/\∀ i,1≤i->i≤m->it s v (n+i)≠it s v n:=by
 obtain ⟨d,h1,h2⟩:=S.loop
 have key:∀ d,1≤d->it s v (n+d)=it s v n->∃ m,it s v (n+(m+1))=it s v n/\∀ i,1≤i->i≤m->it s v (n+i)≠it s v n:=by
  intro d
  induction d using Nat.strongRecOn with
  | _ d ih=>
    intro h1 h2
    by_cases q:∃ i,1≤i/\i≤d-1/\it s v (n+i)=it s v n
    ·obtain ⟨i,a1,a2,a3⟩:=q
     exact ih i (by omega) a1 a3
    ·refine ⟨d-1,by rw [Nat.sub_add_cancel h1];exact h2,fun i a1 a2 a3=>q ⟨i,a1,a2,a3⟩⟩
 exact key d h1 h2
end
def m_ (all:List cg):Prop:=∃ es,pU es/\∀ e∈es,e∈all
theorem Stuck.barred {ties:List cg} {n:Nat} {a:Int} {s:St} {v:Int} (S:Stuck ties n a s v):m_ ties:=by
 obtain ⟨m,h1,h2⟩:=S.first
 obtain ⟨R,h3⟩:=S.ring h1 h2
 exact ⟨_,R,h3⟩
theorem m_.no {all:List cg} (B:m_ all) {g:Int->Int} (h:∀ e∈all,Sat g e):False:=by
 obtain ⟨es,R,h1⟩:=B
 exact zY R fun e he=>h e (h1 e he)
structure j9 (all:List cg) (h:Int->Int):Prop where
 sat:∀ e∈all,Sat h e
 nn:∀ v,0≤h v
 le:∀ g:Int->Int,(∀ v,0≤g v)->(∀ e∈all,Sat g e)->∀ v,h v≤g v
end Bf
namespace Cm
open PySem L2
def top (i:Nat):Stmt:=PySem.Challenge.pw_lanescribe_k29_whole_one_order_or_a_ring.main.body.getD i (.Pass ⟨0,0,0,0⟩)
def uL (c:Addr) (a r s:Int):List (Key×V):=[(.inr "cells",.ref c),(.inr "at",.int a),(.inr "rest",.int r),(.inr "seed",.int s)]
theorem pat {c:Addr} {a r s x:Int}:putK (uL c a r s) (.inr "at") (.int x)=uL c x r s:=by rfl
theorem CK {c:Addr} {a r s x:Int}:putK (uL c a r s) (.inr "rest") (.int x)=uL c a x s:=by rfl
theorem CN {c:Addr} {a r s x:Int}:putK (uL c a r s) (.inr "seed") (.int x)=uL c a r x:=by rfl
theorem zA {H:Hp} {p c:Addr} {a r s:Int} (h:H p=some (.dK (uL c a r s))):jN H p (.str "cells") (some (.ref c)):=jN.k (k:=Sum.inr "cells") h
theorem N8 {H:Hp} {p c:Addr} {a r s:Int} (h:H p=some (.dK (uL c a r s))):jN H p (.str "at") (some (.int a)):=jN.k (k:=Sum.inr "at") h
theorem uI {H:Hp} {p c:Addr} {a r s:Int} (h:H p=some (.dK (uL c a r s))):jN H p (.str "rest") (some (.int r)):=jN.k (k:=Sum.inr "rest") h
theorem qN {H:Hp} {p c:Addr} {a r s:Int} (h:H p=some (.dK (uL c a r s))):jN H p (.str "seed") (some (.int s)):=jN.k (k:=Sum.inr "seed") h
abbrev Gp:Int:=2305843009213693951
structure Dr (H:Hp) (p c:Addr):Prop where
 ex:∃ (ns:List Int) (a r s:Int),H p=some (.dK (uL c a r s))/\H c=some (.lst (ns.map V.int))/\ns.length≤63/\0≤a/\a≤ns.length/\0≤r/\0≤s/\s<Gp
theorem Dr.mono {H H':Hp} {p c:Addr} (d:Dr H p c) (h:ao H H'):Dr H' p c:=by
 obtain ⟨ns,a,r,s,h1,h2,k⟩:=d.ex
 exact ⟨ns,a,r,s,h _ _ h1,h _ _ h2,k⟩
theorem Dr.ne {H:Hp} {p c q:Addr} {o:HO} (d:Dr H p c) (h:H q=some o) (hd:∀ kvs,o≠.dK kvs):q≠p:=by
 obtain ⟨ns,a,r,s,h1,_⟩:=d.ex
 exact fV h h1 (hd _)
theorem Dr.put {H:Hp} {p c q:Addr} {o:HO} (d:Dr H p c) (h1:q≠p) (h2:q≠c):Dr (upd H q o) p c:=by
 obtain ⟨ns,a,r,s,e1,e2,k⟩:=d.ex
 exact ⟨ns,a,r,s,by rw [aA h1.symm];exact e1,by rw [aA h2.symm];exact e2,k⟩
theorem Dr.cell {H:Hp} {p c:Addr} (d:Dr H p c):∃ xs,H c=some (.lst xs):=by
 obtain ⟨ns,a,r,s,e1,e2,k⟩:=d.ex
 exact ⟨_,e2⟩
structure Txt (K:PySem.W.Frag) (mg:Str->Option Value):Prop where
 len:mg "len" = none
 range:mg "range" = none
 list:mg "list" = none
 tuple:mg "tuple" = none
 str:mg "str" = none
 bool:mg "bool" = none
 int:mg "int" = none
 min:mg "min" = none
 repr:mg "repr" = none
 all:mg "all" = none
 any:mg "any" = none
 isinstance:mg "isinstance" = none
section
variable {P:Program} {w:World} {K:PySem.W.Frag} {mg:Str->Option Value} {base:Heap}
def vm (K:PySem.W.Frag):Sp:=fun vs H Q _=>∃ (a:Addr) (ns:List Int),vs=[.ref a]/\aQ K H a (ns.map V.int)/\ns.length≤63/\∀ (p c:Addr) (H':Hp),Dr H' p c->ao H H'->H p=none->Q (.ref p) H'
theorem Kp:aW ["_law_script","_law_seed","_law_cell"] ["_law_script"] (au (top 28)):=⟨rfl,rfl,rfl,by decide +kernel,rfl,by decide +kernel,by decide +kernel⟩
theorem zg {f:Addr} {fd:FuncData} (F:gA K "_law_begin" "_law_begin" (top 28) f fd) (T:Txt K mg):aN P w K mg base cJ 1 f fd ["_law_script"] (vm K):=by
 refine F.ok Kp (fun vs H Q E h=>?_) (fun cdv A outer s H vs Q E hr h=>?_)
 ·obtain ⟨a,ns,rfl,_⟩:=h
  rfl
 ·obtain ⟨a,ns,rfl,hS,hlen,k⟩:=h
  refine ⟨_,(aq (bf (i:=1) Kp.nd rfl (Or.inl rfl) az)
   (aq (dw PassesOwn.never rfl (cD (i_ uG (pv 0) km (kh az))) (aD (i:=2) Kp.nd rfl (Or.inl rfl))
    (aB (bf (i:=1) Kp.nd rfl (Or.inl rfl) (bj jV (bj c7 (bj c7 (bj jW (pv 1) az) (bj jW (pv 2) az)) az) az))))
   (aB (bF (Cj (kW aX (eO kZ (by rfl) T.list ji (aa (i_ uG (pv 0) km (kh az)) ak)) (kW aX az (kW aX az (kW aX (pv 1) Aw)))) rfl rfl (List.cons_ne_nil _ _) (by show 4≤15;decide)))))),?_⟩
  have hcut:oh (ns.map V.int) none (some 63)=ns.map V.int:=by
   show ((ns.map V.int).drop (HT.eF _ 0 none)).take (HT.eF _ _ (some ((63:Nat):Int))-HT.eF _ 0 none)=_
   rw [HT.zr,HT.Be,List.drop_zero,Nat.sub_zero,List.take_of_length_le]
   rw [List.length_map];omega
  refine ⟨_,rfl,_,rfl,a,_,rfl,hS,fun q hq=>⟨q,rfl,⟨_,aQ.of aj⟩,?_⟩⟩
  rw [hcut]
  have hS':∀ o,aQ K (upd H q o) a (ns.map V.int):=fun o=>(show ao H (upd H q o) from fun b u e=>by rw [aA (aC e hq)];exact e).seq hS
  refine e_ (K:=K) (a:=q) (xs:=ns.map V.int) (fun i O H2=>∃ (z:Int) (v:Option V),O=[some (.ref a),some (.int z),v]/\0≤z/\z<Gp/\H2=upd H q (.lst (ns.map V.int)))
   ⟨20011,none,rfl,by decide,by decide,rfl⟩ (fun i O H2 _ ⟨_,_,_,_,_,e⟩=>by rw [e];exact aQ.of aj) ?_ ?_
  ·rintro i y O H2 hi ⟨z,v,rfl,h0,h1,rfl⟩
   obtain ⟨n,-,rfl⟩:=List.mem_map.mp (List.mem_of_getElem? hi)
   refine ⟨_,rfl,_,_,rfl,rfl,.inl ⟨by omega,by simp only [Gp] at h1;omega⟩,_,rfl,_,_,rfl,rfl,.inr ⟨by decide,by decide⟩,_,_,rfl,rfl,_,_,rfl,rfl,_,_,rfl,rfl,(by show (0:Int)<2305843009213693951;decide),?_⟩
   exact ⟨_,_,rfl,Int.emod_nonneg _ (by decide),Int.emod_lt_of_pos _ (by decide),rfl⟩
  ·rintro O H2 ⟨z,v,rfl,h0,h1,rfl⟩
   intro p hp
   have s1:ao H (upd (upd H q (.lst (ns.map V.int))) p (.dK [])):=(ao.new hq).trans (ao.new hp)
   refine ⟨_,rfl,_,rfl,a,_,rfl,s1.seq hS,fun q2 hq2=>⟨q2,_,rfl,.inl (aQ.of aj),fun l hl=>⟨_,rfl,?_,uL l 0 0 z,rfl,by show 4≤15;decide,?_⟩⟩⟩
   ·exact (ao.new hl) _ _ ((ao.new hq2) _ _ aj)
   ·rw [hcut]
    have hpl:(upd (upd (upd (upd H q (.lst (ns.map V.int))) p (.dK [])) q2 (.lst (ns.map V.int))) l (.lst (ns.map V.int))) p=some (.dK []):=(ao.new (by rw [hcut] at hl;exact hl)) _ _ ((ao.new hq2) _ _ aj)
    have hlp:l≠p:=fV aj hpl (by intro z;cases z)
    refine k p l _ ⟨ns,0,0,z,aj,by rw [aA hlp];exact aj,hlen,by decide,by omega,by decide,h0,h1⟩ ?_ ((ao.new hq).free hp)
    intro b u e
    have e1:=((ao.new (q:=l) (o:=.lst (ns.map V.int)) (by rw [hcut] at hl;exact hl)) _ _ ((ao.new hq2) _ _ (s1 b u e)))
    rw [aA (aC ((ao.new hq) b u e) hp)]
    exact e1
def mZ:Sp:=fun vs H Q _=>∃ (p c:Addr) (m:Int),vs=[.ref p,.int m]/\Dr H p c/\0<m/\m<340282366920938463463374607431768211456/\∀ (r:Int) (H':Hp),0≤r->r<m->Dr H' p c->gB p H H'->Q (.int r) H'
theorem Kw:aW ["_law_d","_law_many","_law_cell","_law_digit","_law_one"] ["_law_d","_law_many"] (au (top 29)):=⟨rfl,rfl,rfl,by decide +kernel,rfl,by decide +kernel,by decide +kernel⟩
theorem mQ {f:Addr} {fd:FuncData} (F:gA K "_law_pick" "_law_pick" (top 29) f fd) (T:Txt K mg):aN P w K mg base cJ 1 f fd ["_law_d","_law_many"] mZ:=by
 refine F.ok Kw (fun vs H Q E h=>?_) (fun cdv A outer s H vs Q E hr h=>?_)
 ·obtain ⟨p,c,m,rfl,_⟩:=h
  rfl
 ·obtain ⟨p,c,m,rfl,D,m0,m1,k⟩:=h
  have hu:=sH hr
  refine ⟨_,(aq
 (bW (PW.pt (tu (aP eY (bY hu (pv 0) aX (fun _ _=>rfl)) az (aR _)) (qp (aP gH (bY hu (pv 0) aX (fun _ _=>rfl)) (aG aO (by rfl) T.len cu (aa (bY hu (pv 0) aX (fun _ _=>rfl)) ak)) (aR _))))) (aq
 (bf (i:=2) Kw.nd rfl (Or.inl rfl) (aY gf (bY hu (pv 0) aX (fun _ _=>rfl)) (bY hu (pv 0) aX (fun _ _=>rfl)) (fun _ _=>rfl)))
 (aq
 (iM hu (pv 0) aX (bj c7 (bY hu (pv 0) aX (fun _ _=>rfl)) az) rfl)
 (aB
 (bW (aP Ck (pv 2) (bj Eu az az) (aR _)) (aB
 (iM hu (pv 0) aX (pv 2) rfl)) (aB
 (iM hu (pv 0) aX (bj jV (bj c7 (bj c7 (bj jW (bY hu (pv 0) aX (fun _ _=>rfl)) az) (bj jW (pv 2) az)) az) az) rfl)))))) bc)
 (aq
 (bW (aP uE (bY hu (pv 0) aX (fun _ _=>rfl)) az (aR _)) (aq
 (bf (i:=3) Kw.nd rfl (Or.inl rfl) (bj jV (bY hu (pv 0) aX (fun _ _=>rfl)) (pv 1)))
 (aq
 (iM hu (pv 0) aX (bj yC (bY hu (pv 0) aX (fun _ _=>rfl)) (pv 1)) rfl)
 (aB
 (bF (pv 3))))) bc)
 (aq
 (bf (i:=4) Kw.nd rfl (Or.inl rfl) (bj jV (bj jW (bY hu (pv 0) aX (fun _ _=>rfl)) (bY hu (pv 0) aX (fun _ _=>rfl))) az))
 (aq
 (iM hu (pv 0) aX (bj jV (bj c7 (bj c7 (bj jW (pv 4) az) (bj jW (bY hu (pv 0) aX (fun _ _=>rfl)) az)) az) az) rfl)
 (aB
 (bF (bj jV (bj Bs (bY hu (pv 0) aX (fun _ _=>rfl)) az) (pv 1)))))))),?_⟩
  obtain ⟨ns,a,r,sd,h1,h2,hl,a0,a1,r0,s0,s1⟩:=D.ex
  have npc:c≠p:=fV h2 h1 (by intro z;cases z)
  have small:∀ {x y z:Int},(uL c x y z).length<sizeLine:=fun {x y z}=>wW (by show 4≤1000;decide)
  refine bU (fun σ' H'=>∃ (a' r' sd':Int) (v:Option V),σ'=[some (.ref p),some (.int m),v,none,none]/\H' p=some (.dK (uL c a' r' sd'))/\gB p H H'/\0≤a'/\a'≤ns.length/\0≤r'/\0≤sd'/\sd'<Gp) ?_ ?_
  ·rintro σ' H1 ⟨a',r',sd',v,rfl,e1,bt,b0,b1,c0,d0,d1⟩
   have hc1:∀ o,(upd H1 p o) c=some (.lst (ns.map V.int)):=fun o=>by rw [aA npc];exact bt c _ h2 npc
   refine ⟨_,rfl,p,_,rfl,uI e1,_,_,rfl,rfl,_,rfl,?_⟩
   refine h_ (fun hpos=>?_) (fun _=>?_)
   ·refine ⟨_,rfl,p,_,rfl,uI e1,_,rfl,_,_,rfl,rfl,m0,?_⟩
    refine ⟨_,rfl,p,_,rfl,uI e1,_,rfl,_,_,rfl,rfl,⟨m0,m1⟩,_,rfl,p,_,rfl,mV.k (k:=Sum.inr "rest") e1 small,_,rfl,?_⟩
    rw [CK]
    exact k _ _ (Int.emod_nonneg _ (by omega)) (Int.emod_lt_of_pos _ m0) ⟨ns,a',r' / m,sd',aj,hc1 _,hl,b0,b1,Int.ediv_nonneg c0 (by omega),d0,d1⟩ (bt.trans gB.upd)
   ·have sq:Ca sd' sd':=.inl ⟨by omega,by simp only [Gp] at d1;omega⟩
    refine ⟨_,rfl,p,_,rfl,qN e1,_,rfl,p,_,rfl,qN e1,_,_,rfl,rfl,sq,_,_,rfl,rfl,(by show (0:Int)<2305843009213693951;decide),?_⟩
    have u0:=Int.emod_nonneg (sd'*sd') (show (2305843009213693951:Int)≠0 by decide)
    have u1:=Int.emod_lt_of_pos (sd'*sd') (show (0:Int)<2305843009213693951 by decide)
    refine ⟨_,rfl,_,_,rfl,rfl,.inr ⟨by decide,by decide⟩,_,rfl,p,_,rfl,qN e1,_,_,rfl,rfl,.inr ⟨by decide,by decide⟩,_,_,rfl,rfl,_,_,rfl,rfl,_,_,rfl,rfl,(by show (0:Int)<2305843009213693951;decide),_,rfl,p,_,rfl,mV.k (k:=Sum.inr "seed") e1 small,?_⟩
    rw [CN]
    generalize hsd:(sd'*sd' % 2305843009213693951*7+sd'*40503+12345) % 2305843009213693951=sn
    have v0:0≤sn:=hsd ▸ Int.emod_nonneg _ (by decide)
    have v1:sn<Gp:=hsd ▸ Int.emod_lt_of_pos _ (by decide)
    refine ⟨_,rfl,p,_,rfl,qN aj,_,_,rfl,rfl,⟨by decide,by decide⟩,_,rfl,_,_,rfl,rfl,m0,?_⟩
    exact k _ _ (Int.emod_nonneg _ (by omega)) (Int.emod_lt_of_pos _ m0) ⟨ns,a',r',sn,aj,hc1 _,hl,b0,b1,c0,v0,v1⟩ (bt.trans gB.upd)
  ·intro N hN
   refine ⟨_,rfl,p,_,rfl,uI h1,rfl,_,rfl,?_⟩
   refine h_ (fun hz=>?_) (fun _=>?_)
   ·refine ⟨_,rfl,p,_,rfl,N8 h1,_,rfl,p,_,rfl,zA h1,c,_,rfl,.inl (aQ.of h2),_,_,rfl,rfl,_,rfl,?_⟩
    rw [List.length_map]
    refine h_ (fun hlt=>?_) (fun _=>?_)
    ·have hlt:a<ns.length:=of_decide_eq_true hlt
     obtain ⟨z,hz'⟩:∃ z,ns[a.toNat]?=some z:=⟨_,List.getElem?_eq_getElem (by omega)⟩
     have hat:mJ (ns.map V.int) a=some (.int z):=by
      have e:(a:Int)=((a.toNat:Nat):Int):=by omega
      rw [e]
      refine aL ?_
      rw [List.getElem?_map,hz'];rfl
     refine ⟨_,rfl,p,_,rfl,zA h1,_,rfl,p,_,rfl,N8 h1,c,_,_,_,rfl,rfl,aQ.of h2,hat,?_⟩
     refine ⟨_,rfl,p,_,rfl,N8 h1,_,_,rfl,rfl,_,rfl,p,_,rfl,mV.k (k:=Sum.inr "at") h1 small,?_⟩
     rw [pat]
     refine ⟨_,rfl,_,_,rfl,rfl,⟨by decide,by decide,by decide⟩,_,_,rfl,rfl,_,rfl,?_⟩
     refine h_ (fun hge=>?_) (fun _=>?_)
     ·refine ⟨_,rfl,_,rfl,p,_,rfl,mV.k (k:=Sum.inr "rest") aj small,?_⟩
      rw [CK]
      have hge:(10:Int) ^ 18≤z:=of_decide_eq_true hge
      exact hN _ _ ⟨a+1,z,sd,_,rfl,aj,gB.upd.trans gB.upd,by omega,by omega,by omega,s0,s1⟩
     ·refine ⟨_,rfl,p,_,rfl,qN aj,_,_,rfl,rfl,.inr ⟨by decide,by decide⟩,_,rfl,_,_,rfl,rfl,.inr ⟨by decide,by decide⟩,_,_,rfl,rfl,_,_,rfl,rfl,_,_,rfl,rfl,(by show (0:Int)<2305843009213693951;decide),_,rfl,p,_,rfl,mV.k (k:=Sum.inr "seed") aj small,?_⟩
      rw [CN]
      exact hN _ _ ⟨a+1,r,_,_,rfl,aj,gB.upd.trans gB.upd,by omega,by omega,r0,Int.emod_nonneg _ (by decide),Int.emod_lt_of_pos _ (by decide)⟩
    ·exact hN _ _ ⟨a,r,sd,_,rfl,h1,gB.refl,a0,a1,r0,s0,s1⟩
   ·exact hN _ _ ⟨a,r,sd,_,rfl,h1,gB.refl,a0,a1,r0,s0,s1⟩
theorem Dr.dk {H:Hp} {p c:Addr} (d:Dr H p c):∃ kvs,H p=some (.dK kvs):=by
 obtain ⟨ns,a,r,s,h1,_⟩:=d.ex
 exact ⟨_,h1⟩
theorem Dr.seq {H H':Hp} {p c a:Addr} {xs:List V} (d:Dr H p c) (e:gB p H H') (h:aQ K H a xs):aQ K H' a xs:=let ⟨_,hp⟩:=d.dk;e.seq hp h
theorem Dr.new {H:Hp} {p c q:Addr} {o:HO} (d:Dr H p c) (h:H q=none):Dr (upd H q o) p c:=d.mono (ao.new h)
def Bh (K:PySem.W.Frag):Sp:=fun vs H Q _=>∃ (p c q:Addr) (xs:List V),vs=[.ref p,.ref q]/\Dr H p c/\aQ K H q xs/\xs≠[]/\xs.length≤1000/\∀ (x:V) (H':Hp),x∈xs->Dr H' p c->gB p H H'->Q x H'
theorem Qj:aW ["_law_d","_law_things"] ["_law_d","_law_things"] (au (top 30)):=⟨rfl,rfl,rfl,by decide +kernel,rfl,by decide +kernel,by decide +kernel⟩
theorem yc {f fP:Addr} {fd fdP:FuncData} (F:gA K "_law_of" "_law_of" (top 30) f fd) (T:Txt K mg) (DP:dZ K mg "_law_pick" (top 29) ["_law_d","_law_many"] fP fdP):aN P w K mg base cJ 2 f fd ["_law_d","_law_things"] (Bh K):=by
 have GP:aN P w K mg base cJ 1 fP fdP ["_law_d","_law_many"] mZ:=mQ DP.F T
 refine F.ok Qj (fun vs H Q E h=>?_) (fun cdv A outer s H vs Q E hr h=>?_)
 ·obtain ⟨p,c,q,xs,rfl,_⟩:=h
  rfl
 ·obtain ⟨p,c,q,xs,rfl,D,hq,hne,hl,k⟩:=h
  refine ⟨_,(aB (bF (aY gf (pv 1) (aM GP hr rfl DP.mg DP.F.kp DP.b .nil bh (aa (pv 0) (aa (aG aO (by rfl) T.len cu (aa (pv 1) ak)) ak))) (fun _ _=>rfl)))),?_⟩
  have hpos:0<xs.length:=List.length_pos_iff.mpr hne
  refine ⟨_,rfl,_,rfl,_,rfl,q,xs,rfl,(.inl hq),p,c,_,rfl,D,by omega,by omega,fun r H' r0 r1 D' bt=>?_⟩
  obtain ⟨j,rfl⟩:=Int.eq_ofNat_of_zero_le r0
  have hx:j<xs.length:=by omega
  exact ⟨q,xs,_,xs[j],rfl,rfl,D.seq bt hq,aL (List.getElem?_eq_getElem hx),k _ _ (List.getElem_mem hx) D' bt⟩
def spS (K:PySem.W.Frag):Nat->Sp
 |0=>fun _ _ _ _=>False
 |n+1=>fun vs H Q _=>∃ (x y:V) (d:PyData),vs=[x,y]/\Rep K H x d/\Rep K H y d/\dm d≤n/\jE d≤100000/\∀ H':Hp,ao H H'->Q (.bl true) H'
theorem Qe:aW ["_law_found","_law_due"] ["_law_found","_law_due"] (au (top 31)):=⟨rfl,rfl,rfl,by decide +kernel,rfl,by decide +kernel,by decide +kernel⟩
theorem ql {Q:VK} {v:V} {H:Hp} (h:Q (.bl true) H):Q (.bl (decide (v=v))) H:=by rw [decide_eq_true rfl];exact h
theorem Az {f:Addr} {fd:FuncData} (DS:dZ K mg "_law_same" (top 31) ["_law_found","_law_due"] f fd) (T:Txt K mg) (n:Nat):aN P w K mg base cJ n f fd ["_law_found","_law_due"] (spS K n):=by
 refine Nat.rec (motive:=fun n=>aN P w K mg base cJ n f fd ["_law_found","_law_due"] (spS K n)) ⟨fun _ _ _ _ h=>h.elim,fun _ _ _ _ _ _ _ _ _ _ _ _ _ h=>h.elim⟩ (fun n GS=>?_) n
 refine DS.F.ok Qe (fun vs H Q E h=>?_) (fun cdv A outer s H vs Q E hr h=>?_)
 ·obtain ⟨x,y,d,rfl,_⟩:=h
  rfl
 ·obtain ⟨x,y,d,rfl,hx,hy,hn,hm,k⟩:=h
  refine ⟨_,(aq
 (bW (aP lR (pv 1) gM (aR _)) (aB
 (bF (dI lR (pv 0) gM (aR _)))) bc)
 (aq
 (bW (PW.pt (dX (fu (aG cL (by rfl) T.isinstance aZ (aa (pv 1) (aa (eZ rfl T.bool mO) ak)))) (dN (fu (aG cL (by rfl) T.isinstance aZ (aa (pv 0) (aa (eZ rfl T.bool mO) ak))))))) (aB
 (bF (lU (aG cL (by rfl) T.isinstance aZ (aa (pv 1) (aa (eZ rfl T.bool mO) ak))) (lU (aG cL (by rfl) T.isinstance aZ (aa (pv 0) (aa (eZ rfl T.bool mO) ak))) (nj (dI eY (pv 0) (pv 1) (aR _))))))) bc)
 (aq
 (bW (fu (aG oZ (by rfl) T.isinstance aZ (aa (pv 1) (aa (cz (aa (eZ rfl T.int qb) (aa (eZ rfl T.str tR) ak))) ak)))) (aB
 (bF (lU (aG oZ (by rfl) T.isinstance aZ (aa (pv 0) (aa (cz (aa (eZ rfl T.int qb) (aa (eZ rfl T.str tR) ak))) ak))) (lU (dI eY (aG cL (by rfl) T.isinstance aZ (aa (pv 0) (aa (eZ rfl T.int qb) ak))) (aG cL (by rfl) T.isinstance aZ (aa (pv 1) (aa (eZ rfl T.int qb) ak))) (aR _)) (nj (dI eY (pv 0) (pv 1) (aR _))))))) bc)
 (aq
 (bW (PW.pt (dX (aP lB (aG cL (by rfl) T.isinstance aZ (aa (pv 1) (aa (eZ rfl T.list ji) ak))) (aG cL (by rfl) T.isinstance aZ (aa (pv 0) (aa (eZ rfl T.list ji) ak))) (aR _)) (dN (aP lB (aG cL (by rfl) T.isinstance aZ (aa (pv 1) (aa (eZ rfl T.tuple kj) ak))) (aG cL (by rfl) T.isinstance aZ (aa (pv 0) (aa (eZ rfl T.tuple kj) ak))) (aR _))))) (aB
 (bF rT)) bc)
 (aB
 (bF (lU (dI eY (aG aO (by rfl) T.len cu (aa (pv 0) ak)) (aG aO (by rfl) T.len cu (aa (pv 1) ak)) (aR _)) (nj (aG (iw rfl) (by rfl) T.all mY (aa (cG (own:=["_law_k"]) (js:=[0,1]) (N':=["_law_k","_law_found","_law_due"]) (aJ.of (osc:=au (top 31)) (N:=["_law_found","_law_due"]) rfl rfl ⟨rfl,by decide +kernel,by decide +kernel,by decide +kernel,rfl,by decide +kernel⟩) rfl (bJ rfl T.range (aa (aG aO (by rfl) T.len cu (aa (pv 1) ak)) ak)) (fun _ _ _ _ _=>(aD (i:=0) (show List.Nodup (["_law_k","_law_found","_law_due"]:List Str) by decide +kernel) rfl (Or.inl rfl) (Or.inr rfl))) (fun _ _ _ _ _=>bN) (fun _ _ _ _ _=>(aM GS hr rfl DS.mg DS.F.kp DS.b .nil bh (aa (aY (r:=fj K) aV (pv 1) (pv 0) (fun _ _=>rfl)) (aa (aY (r:=fj K) aV (pv 2) (pv 0) (fun _ _=>rfl)) ak))))) ak)))))))))),?_⟩
  have z2:2≤sizeLine:=by decide
  cases hx with
  | non=>
    cases hy
    refine ⟨_,rfl,rfl,_,rfl,jt rfl ?_⟩
    exact ⟨_,rfl,rfl,k _ (ao.refl _)⟩
  | bl b=>
    cases hy
    refine ⟨_,rfl,rfl,_,rfl,eG rfl ?_⟩
    refine ⟨_,rfl,_,_,_,_,rfl,(.bl b),rfl,_,rfl,jt rfl (jt rfl ?_)⟩
    exact ⟨_,rfl,_,_,_,_,rfl,(.bl b),rfl,_,rfl,jt rfl ⟨_,rfl,_,_,_,_,rfl,(.bl b),rfl,_,rfl,jt rfl ⟨_,rfl,_,rfl,rfl,ql (k _ (ao.refl _))⟩⟩⟩
  | int i=>
    cases hy
    refine ⟨_,rfl,rfl,_,rfl,eG rfl ?_⟩
    refine ⟨_,rfl,_,_,_,_,rfl,(.int i),rfl,_,rfl,eG rfl ?_⟩
    refine ⟨_,rfl,_,_,_,_,rfl,(.int i),rfl,_,rfl,eG rfl ?_⟩
    refine ⟨_,rfl,z2,fun p hp=>⟨_,p,_,_,_,_,rfl,aj,.int i,rfl,_,rfl,jt rfl ?_⟩⟩
    refine ⟨_,rfl,z2,fun p2 hp2=>⟨_,p2,_,_,_,_,rfl,aj,.int i,rfl,_,rfl,jt rfl ?_⟩⟩
    refine ⟨_,rfl,_,_,_,_,rfl,.int i,rfl,_,rfl,_,_,_,_,rfl,.int i,rfl,rfl,_,rfl,?_⟩
    exact jt rfl ⟨_,rfl,_,rfl,rfl,ql (k _ ((ao.new hp).trans (ao.new hp2)))⟩
  | str z=>
    cases hy
    refine ⟨_,rfl,rfl,_,rfl,eG rfl ?_⟩
    refine ⟨_,rfl,_,_,_,_,rfl,(.str z),rfl,_,rfl,eG rfl ?_⟩
    refine ⟨_,rfl,_,_,_,_,rfl,(.str z),rfl,_,rfl,eG rfl ?_⟩
    refine ⟨_,rfl,z2,fun p hp=>⟨_,p,_,_,_,_,rfl,aj,.str z,rfl,_,rfl,jt rfl ?_⟩⟩
    refine ⟨_,rfl,z2,fun p2 hp2=>⟨_,p2,_,_,_,_,rfl,aj,.str z,rfl,_,rfl,jt rfl ?_⟩⟩
    refine ⟨_,rfl,_,_,_,_,rfl,.str z,rfl,_,rfl,_,_,_,_,rfl,.str z,rfl,rfl,_,rfl,?_⟩
    exact jt rfl ⟨_,rfl,_,rfl,rfl,ql (k _ ((ao.new hp).trans (ao.new hp2)))⟩
  | tup g rs=>
    cases hy with
    | tup g2 rs2=>
      rename_i a1 xs1 ds a2 xs2
      refine ⟨_,rfl,rfl,_,rfl,eG rfl ?_⟩
      refine ⟨_,rfl,_,_,_,_,rfl,(.tup g2 rs2),rfl,_,rfl,eG rfl ?_⟩
      refine ⟨_,rfl,_,_,_,_,rfl,(.tup g rs),rfl,_,rfl,eG rfl ?_⟩
      refine ⟨_,rfl,z2,fun p hp=>⟨_,p,_,_,_,_,rfl,aj,Rep.same (.tup g2 rs2) (ao.new hp),rfl,_,rfl,eG rfl ?_⟩⟩
      have s1:ao H (upd H p (.tup [.ty "int",.ty "str"])):=ao.new hp
      refine ⟨_,rfl,_,_,_,_,rfl,(Rep.same (.tup g2 rs2) s1),rfl,_,rfl,_,_,_,_,rfl,(Rep.same (.tup g rs) s1),rfl,rfl,_,rfl,eG rfl ?_⟩
      refine ⟨_,rfl,_,_,_,_,rfl,(Rep.same (.tup g2 rs2) s1),rfl,_,rfl,_,_,_,_,rfl,(Rep.same (.tup g rs) s1),rfl,rfl,_,rfl,eG rfl ?_⟩
      refine ⟨_,rfl,_,_,rfl,.inr (s1.tup g),_,rfl,_,_,rfl,.inr (s1.tup g2),rfl,_,rfl,?_⟩
      have l1:=rs.length
      have l2:=rs2.length
      have hm':xs2.length≤100000:=by simp only [jE] at hm;omega
      have hl:xs1.length=xs2.length:=by omega
      generalize upd H p (.tup [.ty "int",.ty "str"])=H1 at s1 ⊢
      refine jt (by rw [hl];simp) ?_
      obtain ⟨n,rfl⟩:∃ n',n=n'+1:=⟨n-1,by simp only [dm] at hn;omega⟩
      refine ⟨_,rfl,_,_,rfl,.inr (s1.tup g2),_,rfl,by omega,by omega,?_⟩
      refine dC (n:=xs2.length) (fun i ys σ' H'=>∃ (v:Option V),ys=(List.replicate i true).map V.bl/\σ'=[v,some _,some _]/\ao H1 H') (by exact Nat.le_trans hm' (by decide)) ⟨none,rfl,rfl,ao.refl _⟩ ?_ ?_
      ·rintro i ys σ' H' hi hys ⟨v,rfl,rfl,s2⟩ N hN
       obtain ⟨d1,e1,r1⟩:=rs.get' (i:=i) (x:=xs1[i]) (List.getElem?_eq_getElem (by omega))
       obtain ⟨d2,e2,r2⟩:=rs2.get' (i:=i) (x:=xs2[i]) (List.getElem?_eq_getElem hi)
       rw [e1] at e2
       cases e2
       have m1:=List.mem_of_getElem? e1
       have q1:=mU m1
       have q2:=ni m1
       have at1:mJ xs1 (0+(i:Int))=some xs1[i]:=by rw [Int.zero_add];exact aL (List.getElem?_eq_getElem (by omega))
       have at2:mJ xs2 (0+(i:Int))=some xs2[i]:=by rw [Int.zero_add];exact aL (List.getElem?_eq_getElem hi)
       refine ⟨_,rfl,_,rfl,.inr (.inl ⟨_,_,_,_,rfl,rfl,(s1.trans s2).tup g,at1,?_⟩)⟩
       refine ⟨_,rfl,_,rfl,.inr (.inl ⟨_,_,_,_,rfl,rfl,(s1.trans s2).tup g2,at2,?_⟩)⟩
       refine ⟨_,_,d1,rfl,r1.same (s1.trans s2),r2.same (s1.trans s2),?_,?_,fun H'' s3=>?_⟩
       ·simp only [dm] at hn;omega
       ·simp only [jE] at hm;omega
       exact hN _ _ _ (by simp) ⟨_,by rw [List.replicate_succ',List.map_append];rfl,rfl,s2.trans s3⟩
      ·rintro ys σ' H' hys ⟨v,rfl,rfl,s2⟩
       refine ⟨by rw [List.length_map,List.length_replicate];exact Nat.le_trans hm' (by decide),fun q hq=>⟨q,_,rfl,aQ.of aj,?_⟩⟩
       show Q (.bl ((List.replicate xs2.length true).all id)) _
       rw [show (List.replicate xs2.length true).all id=true by simp]
       exact k _ ((s1.trans s2).trans (ao.new hq))
  | lst g rs=>
    cases hy with
    | lst g2 rs2=>
      rename_i a1 xs1 ds a2 xs2
      refine ⟨_,rfl,rfl,_,rfl,eG rfl ?_⟩
      refine ⟨_,rfl,_,_,_,_,rfl,(.lst g2 rs2),rfl,_,rfl,eG rfl ?_⟩
      refine ⟨_,rfl,_,_,_,_,rfl,(.lst g rs),rfl,_,rfl,eG rfl ?_⟩
      refine ⟨_,rfl,z2,fun p hp=>⟨_,p,_,_,_,_,rfl,aj,Rep.same (.lst g2 rs2) (ao.new hp),rfl,_,rfl,eG rfl ?_⟩⟩
      have s1:ao H (upd H p (.tup [.ty "int",.ty "str"])):=ao.new hp
      refine ⟨_,rfl,_,_,_,_,rfl,(Rep.same (.lst g2 rs2) s1),rfl,_,rfl,_,_,_,_,rfl,(Rep.same (.lst g rs) s1),rfl,rfl,_,rfl,eG rfl ?_⟩
      refine ⟨_,rfl,_,_,_,_,rfl,(Rep.same (.lst g2 rs2) s1),rfl,_,rfl,_,_,_,_,rfl,(Rep.same (.lst g rs) s1),rfl,rfl,_,rfl,eG rfl ?_⟩
      refine ⟨_,rfl,_,_,rfl,.inl (s1.seq g),_,rfl,_,_,rfl,.inl (s1.seq g2),rfl,_,rfl,?_⟩
      have l1:=rs.length
      have l2:=rs2.length
      have hm':xs2.length≤100000:=by simp only [jE] at hm;omega
      have hl:xs1.length=xs2.length:=by omega
      generalize upd H p (.tup [.ty "int",.ty "str"])=H1 at s1 ⊢
      refine jt (by rw [hl];simp) ?_
      obtain ⟨n,rfl⟩:∃ n',n=n'+1:=⟨n-1,by simp only [dm] at hn;omega⟩
      refine ⟨_,rfl,_,_,rfl,.inl (s1.seq g2),_,rfl,by omega,by omega,?_⟩
      refine dC (n:=xs2.length) (fun i ys σ' H'=>∃ (v:Option V),ys=(List.replicate i true).map V.bl/\σ'=[v,some _,some _]/\ao H1 H') (by exact Nat.le_trans hm' (by decide)) ⟨none,rfl,rfl,ao.refl _⟩ ?_ ?_
      ·rintro i ys σ' H' hi hys ⟨v,rfl,rfl,s2⟩ N hN
       obtain ⟨d1,e1,r1⟩:=rs.get' (i:=i) (x:=xs1[i]) (List.getElem?_eq_getElem (by omega))
       obtain ⟨d2,e2,r2⟩:=rs2.get' (i:=i) (x:=xs2[i]) (List.getElem?_eq_getElem hi)
       rw [e1] at e2
       cases e2
       have m1:=List.mem_of_getElem? e1
       have q1:=mU m1
       have q2:=ni m1
       have at1:mJ xs1 (0+(i:Int))=some xs1[i]:=by rw [Int.zero_add];exact aL (List.getElem?_eq_getElem (by omega))
       have at2:mJ xs2 (0+(i:Int))=some xs2[i]:=by rw [Int.zero_add];exact aL (List.getElem?_eq_getElem hi)
       refine ⟨_,rfl,_,rfl,.inl ⟨_,_,_,_,rfl,rfl,(s1.trans s2).seq g,at1,?_⟩⟩
       refine ⟨_,rfl,_,rfl,.inl ⟨_,_,_,_,rfl,rfl,(s1.trans s2).seq g2,at2,?_⟩⟩
       refine ⟨_,_,d1,rfl,r1.same (s1.trans s2),r2.same (s1.trans s2),?_,?_,fun H'' s3=>?_⟩
       ·simp only [dm] at hn;omega
       ·simp only [jE] at hm;omega
       exact hN _ _ _ (by simp) ⟨_,by rw [List.replicate_succ',List.map_append];rfl,rfl,s2.trans s3⟩
      ·rintro ys σ' H' hys ⟨v,rfl,rfl,s2⟩
       refine ⟨by rw [List.length_map,List.length_replicate];exact Nat.le_trans hm' (by decide),fun q hq=>⟨q,_,rfl,aQ.of aj,?_⟩⟩
       show Q (.bl ((List.replicate xs2.length true).all id)) _
       rw [show (List.replicate xs2.length true).all id=true by simp]
       exact k _ ((s1.trans s2).trans (ao.new hq))
end
end Cm
namespace Cm
open PySem L2 PySem.W
abbrev cg:=Bf.cg
def bD (H:Hp) (x:V) (e:cg):Prop:=∃ b,x=.ref b/\H b=some (.tup [.int e.1,.int e.2.1,.int e.2.2])
def TK (H H':Hp):Prop:=∀ b xs,H b=some (.tup xs)->H' b=some (.tup xs)
theorem TK.but {H H':Hp} {p dc:Addr} (D:Dr H p dc) (b:gB p H H'):TK H H':=fun q xs e=>b q _ e (D.ne e (by intro kvs z;cases z))
theorem a_ {H H':Hp} (k:TK H H'):∀ {xs:List V} {es:List cg},Paired (bD H) xs es->Paired (bD H') xs es
 |_,_,.nil=>.nil
 |_,_,.cons ⟨b,e,h⟩ t=>.cons ⟨b,e,k _ _ h⟩ (a_ k t)
theorem ao.tk {H H':Hp} (s:ao H H'):TK H H':=fun b xs e=>s b _ e
theorem cY {H:Hp}:∀ {xs:List V} {es:List cg} {i:Nat} {x:V},Paired (bD H) xs es->xs[i]?=some x->∃ e,es[i]?=some e/\bD H x e
 |_,_,0,_,.cons h _,e=>⟨_,rfl,by cases e;exact h⟩
 |_,_,i+1,_,.cons _ t,e=>cY (i:=i) t (by simpa using e)
 |_,_,i,_,.nil,e=>by simp at e
structure fY (n:Int) (e:cg):Prop where
 o:0≤e.1/\e.1<n
 t:0≤e.2.1/\e.2.1<n
 ne:e.1≠e.2.1
 l:-999999≤e.2.2/\e.2.2≤999999
structure iT (mg:Str->Option Value):Prop where
 lim:∃ t,mg "LIMIT" = some (.int 999999 t)
 ml:∃ t,mg "MOST_LANES" = some (.int 6 t)
 hm:∃ t,mg "HIGHEST_MOST" = some (.int 1000000000000 t)
 gr:∃ t,mg "GROUND" = some (.int (-1) t)
section
variable {P:Program} {w:World} {K:Frag} {mg:Str->Option Value} {base:Heap}
def JF:Sp:=fun vs H Q _=>∃ n:Int,vs=[.int n]/\1≤n/\n≤6/\Q .non H
theorem K4:aW ["lanes"] ["lanes"] (au (top 13)):=⟨rfl,rfl,rfl,by decide +kernel,rfl,by decide +kernel,by decide +kernel⟩
theorem Hv {f:Addr} {fd:FuncData} (F:gA K "need_lanes" "need_lanes" (top 13) f fd) (TC:iT mg):aN P w K mg base cJ 1 f fd ["lanes"] JF:=by
 refine F.ok K4 (fun vs H Q E h=>?_) (fun cdv A outer s H vs Q E hr h=>?_)
 ·obtain ⟨n,rfl,_⟩:=h
  rfl
 ·obtain ⟨n,rfl,h1,h2,k⟩:=h
  obtain ⟨t,ml⟩:=TC.ml
  refine ⟨_,(aB (bW (bV (bR cR cR az (pv 0) (bO (v:=.int 6) rfl ml ⟨_,rfl⟩))) (aB b_) bc)),?_⟩
  exact ⟨_,rfl,_,_,rfl,rfl,_,rfl,jt (by simpa using h1) ⟨_,_,rfl,rfl,_,rfl,eG (by simpa using h2) k⟩⟩
def Ft (K:Frag):Sp:=fun vs H Q _=>∃ (n:Int) (q:Addr) (xs:List V) (es:List cg),vs=[.int n,.ref q]/\aQ K H q xs/\Paired (bD H) xs es/\(∀ e∈es,fY n e)/\Q .non H
theorem rR:aW ["lanes","ties","one","other","least"] ["lanes","ties"] (au (top 14)):=⟨rfl,rfl,rfl,by decide +kernel,rfl,by decide +kernel,by decide +kernel⟩
theorem Cr {f:Addr} {fd:FuncData} (F:gA K "need_ties" "need_ties" (top 14) f fd) (TC:iT mg):aN P w K mg base cJ 1 f fd ["lanes","ties"] (Ft K):=by
 refine F.ok rR (fun vs H Q E h=>?_) (fun cdv A outer s H vs Q E hr h=>?_)
 ·obtain ⟨n,q,xs,es,rfl,_⟩:=h
  rfl
 ·obtain ⟨n,q,xs,es,rfl,hq,pe,ok,k⟩:=h
  obtain ⟨t,ml⟩:=TC.lim
  refine ⟨_,(aB (dw PassesOwn.never rfl (cD (pv 1)) (eQ rfl (aK (aD (i:=2) rR.nd rfl (Or.inl rfl)) (aK (aD (i:=3) rR.nd rfl (Or.inl rfl)) (aK (aD (i:=4) rR.nd rfl (Or.inl rfl)) dD))))
   (aq (bW (PW.pt (dX (bV (bR cR gH az (pv 2) (pv 0))) (dX (bV (bR cR gH az (pv 3) (pv 0))) (dN (aP eY (pv 2) (pv 3) (aR _)))))) (aB b_) bc)
   (aB (bW (bV (bR cR cR (iV gZ (bO (v:=.int 999999) rfl ml ⟨_,rfl⟩)) (pv 4) (bO (v:=.int 999999) rfl ml ⟨_,rfl⟩))) (aB b_) bc))))),?_⟩
  refine ⟨_,rfl,q,rfl,⟨_,hq⟩,e_ (K:=K) (a:=q) (xs:=xs) (fun i O H'=>∃ a b c,O=[some (.int n),some (.ref q),a,b,c]/\H'=H) ⟨none,none,none,rfl,rfl⟩ (fun i O H' _ ⟨_,_,_,_,e⟩=>by rw [e];exact hq) ?_ ?_⟩
  ·rintro i x O H' hi ⟨a,b,c,rfl,rfl⟩
   obtain ⟨e,he,a',rfl,h'⟩:=cY pe hi
   have o:=ok e (List.mem_of_getElem? he)
   refine ⟨a',_,rfl,cA.of h',rfl,_,_,rfl,_,_,rfl,_,_,rfl,rfl,?_⟩
   refine ⟨_,rfl,_,_,rfl,rfl,_,rfl,jt (by simpa using o.o.1) ⟨_,rfl,_,_,rfl,rfl,_,rfl,?_⟩⟩
   refine eG (by simpa using o.o.2) ?_
   refine ⟨_,rfl,_,_,rfl,rfl,_,rfl,jt (by simpa using o.t.1) ⟨_,rfl,_,_,rfl,rfl,_,rfl,eG (by simpa using o.t.2) ?_⟩⟩
   refine ⟨_,rfl,_,rfl,rfl,_,rfl,eG (by simpa using o.ne) ?_⟩
   refine ⟨_,rfl,_,rfl,_,_,rfl,rfl,_,rfl,jt (by have:=o.l.1;simp;omega) ⟨_,_,rfl,rfl,_,rfl,eG (by simpa using o.l.2) ?_⟩⟩
   exact ⟨_,_,_,rfl,rfl⟩
  ·rintro O H' ⟨a,b,c,rfl,rfl⟩
   exact k
def Gx:Sp:=fun vs H Q _=>∃ n:Int,vs=[.int n]/\0≤n/\n≤1000000000000/\Q .non H
theorem Ho:aW ["most"] ["most"] (au (top 15)):=⟨rfl,rfl,rfl,by decide +kernel,rfl,by decide +kernel,by decide +kernel⟩
theorem Jz {f:Addr} {fd:FuncData} (F:gA K "need_most" "need_most" (top 15) f fd) (TC:iT mg):aN P w K mg base cJ 1 f fd ["most"] Gx:=by
 refine F.ok Ho (fun vs H Q E h=>?_) (fun cdv A outer s H vs Q E hr h=>?_)
 ·obtain ⟨n,rfl,_⟩:=h
  rfl
 ·obtain ⟨n,rfl,h1,h2,k⟩:=h
  obtain ⟨t,ml⟩:=TC.hm
  refine ⟨_,(aB (bW (bV (bR cR cR az (pv 0) (bO (v:=.int 1000000000000) rfl ml ⟨_,rfl⟩))) (aB b_) bc)),?_⟩
  exact ⟨_,rfl,_,_,rfl,rfl,_,rfl,jt (by simpa using h1) ⟨_,_,rfl,rfl,_,rfl,eG (by simpa using h2) k⟩⟩
def El (K:Frag):Sp:=fun vs H Q _=>∃ (n m:Int) (q:Addr) (xs:List V) (es:List cg),vs=[.int n,.ref q,.int m]/\1≤n/\n≤6/\0≤m/\m≤1000000000000/\aQ K H q xs/\Paired (bD H) xs es/\(∀ e∈es,fY n e)/\Q .non H
theorem J6:aW ["lanes","ties","most"] ["lanes","ties","most"] (au (top 16)):=⟨rfl,rfl,rfl,by decide +kernel,rfl,by decide +kernel,by decide +kernel⟩
theorem Dk {f fL fT fM:Addr} {fd fdL fdT fdM:FuncData} (F:gA K "need_all" "need_all" (top 16) f fd) (TC:iT mg) (DL:dZ K mg "need_lanes" (top 13) ["lanes"] fL fdL) (DT:dZ K mg "need_ties" (top 14) ["lanes","ties"] fT fdT) (DM:dZ K mg "need_most" (top 15) ["most"] fM fdM) :
 aN P w K mg base cJ 2 f fd ["lanes","ties","most"] (El K):=by
 have GL:aN P w K mg base cJ 1 fL fdL ["lanes"] JF:=Hv DL.F TC
 have GT:aN P w K mg base cJ 1 fT fdT ["lanes","ties"] (Ft K):=Cr DT.F TC
 have GM:aN P w K mg base cJ 1 fM fdM ["most"] Gx:=Jz DM.F TC
 refine F.ok J6 (fun vs H Q E h=>?_) (fun cdv A outer s H vs Q E hr h=>?_)
 ·obtain ⟨n,m,q,xs,es,rfl,_⟩:=h
  rfl
 ·obtain ⟨n,m,q,xs,es,rfl,n1,n2,m1,m2,hq,pe,ok,k⟩:=h
  refine ⟨_,(aq (bC (aM GL hr rfl DL.mg DL.F.kp DL.b .nil bh (aa (pv 0) ak)))
   (aq (bC (aM GT hr rfl DT.mg DT.F.kp DT.b .nil bh (aa (pv 0) (aa (pv 1) ak))))
   (aB (bC (aM GM hr rfl DM.mg DM.F.kp DM.b .nil bh (aa (pv 2) ak)))))),?_⟩
  exact ⟨_,rfl,n,rfl,n1,n2,_,rfl,_,rfl,n,q,xs,es,rfl,hq,pe,ok,_,rfl,m,rfl,m1,m2,k⟩
def loT (i:Nat):cg:=((i:Int),-1,0)
def hiT (m:Int) (i:Nat):cg:=(-1,(i:Int),0-m)
def lg (n:Nat) (m:Int):List cg:=(List.range n).map loT++(List.range n).map (hiT m)
def Ej:Sp:=fun vs H Q _=>∃ (n:Nat) (m:Int),vs=[.int n,.int m]/\n≤100/\∀ (q:Addr) (xs:List V) (H':Hp),H' q=some (.lst xs)->Paired (bD H') xs (lg n m)->H q=none->ao H H'->Q (.ref q) H'
theorem Iw:aW ["lanes","most","lowest"] ["lanes","most"] (au (top 17)):=⟨rfl,rfl,rfl,by decide +kernel,rfl,by decide +kernel,by decide +kernel⟩
theorem Paired.snoc {α β:Type} {R:α->β->Prop} {x:α} {y:β} (h:R x y):∀ {xs:List α} {ys:List β},Paired R xs ys->Paired R (xs++[x]) (ys++[y])
 |_,_,.nil=>.cons h .nil
 |_,_,.cons a t=>.cons a (Paired.snoc h t)
theorem Paired.app {α β:Type} {R:α->β->Prop} {xs2:List α} {ys2:List β} (h:Paired R xs2 ys2):∀ {xs:List α} {ys:List β},Paired R xs ys->Paired R (xs++xs2) (ys++ys2)
 |_,_,.nil=>h
 |_,_,.cons a t=>.cons a (Paired.app h t)
theorem Dm {f:Addr} {fd:FuncData} (F:gA K "bounds" "bounds" (top 17) f fd) (T:Txt K mg) (TC:iT mg):aN P w K mg base cJ 1 f fd ["lanes","most"] Ej:=by
 refine F.ok Iw (fun vs H Q E h=>?_) (fun cdv A outer s H vs Q E hr h=>?_)
 ·obtain ⟨n,m,rfl,_⟩:=h
  rfl
 ·obtain ⟨n,m,rfl,hn,k⟩:=h
  obtain ⟨t,mgr⟩:=TC.gr
  refine ⟨_,(aq (gU (g:=aU 0) (i:=2) (own:=["lane"]) (js:=[]) (N':=["lane"]) (aJ.of (osc:=au (top 17)) (N:=["lanes","most","lowest"]) rfl rfl ⟨rfl,by decide +kernel,by decide +kernel,by decide +kernel,rfl,by decide +kernel⟩) rfl Iw.nd rfl rfl (bJ rfl T.range (aa (pv 0) ak)) (fun _ _ _ _ _=>(aD (i:=0) (show List.Nodup (["lane"]:List Str) by decide +kernel) rfl (Or.inl rfl) (Or.inr rfl))) (fun _ _ _ _ _=>bN) (fun _ _ _ _ _=>cz (aa (pv 0) (aa (bO (v:=.int (-1)) rfl mgr ⟨_,rfl⟩) (aa az ak)))))
   (aB (bF (bj jK (pv 2) (cG (g:=aU 0) (own:=["lane"]) (js:=[1]) (N':=["lane","most"]) (aJ.of (osc:=au (top 17)) (N:=["lanes","most","lowest"]) rfl rfl ⟨rfl,by decide +kernel,by decide +kernel,by decide +kernel,rfl,by decide +kernel⟩) rfl (bJ rfl T.range (aa (pv 0) ak)) (fun _ _ _ _ _=>(aD (i:=0) (show List.Nodup (["lane","most"]:List Str) by decide +kernel) rfl (Or.inl rfl) (Or.inr rfl))) (fun _ _ _ _ _=>bN) (fun _ _ _ _ _=>cz (aa (bO (v:=.int (-1)) rfl mgr ⟨_,rfl⟩) (aa (pv 0) (aa (bj lK az (pv 1)) ak))))))))),?_⟩
  have z3:3≤sizeLine:=by decide
  refine ⟨_,rfl,_,rfl,by omega,by omega,?_⟩
  refine dC (n:=n) (fun i ys σ' H'=>∃ v,σ'=[v]/\ao H H'/\Paired (bD H') ys ((List.range i).map loT)) (Nat.le_trans hn (by decide)) ⟨none,rfl,ao.refl _,.nil⟩ ?_ ?_
  ·rintro i ys σ' H' hi hys ⟨v,rfl,s1,pe⟩ N hN
   refine ⟨_,rfl,z3,fun p hp=>?_⟩
   refine hN _ _ _ (by simp [hys]) ⟨_,rfl,s1.trans (ao.new hp),?_⟩
   rw [List.range_succ,List.map_append]
   refine Paired.snoc ⟨p,rfl,?_⟩ (a_ (ao.tk (ao.new hp)) pe)
   rw [aj,Int.zero_add];rfl
  ·rintro ys σ' H1 hys ⟨v,rfl,s1,pe⟩
   have ly:=Paired.length pe
   rw [List.length_map,List.length_range] at ly
   refine ⟨Nat.le_trans (Nat.le_of_eq ly) (Nat.le_trans hn (by decide)),fun q1 hq1=>?_⟩
   have s2:ao H (upd H1 q1 (.lst ys)):=s1.trans (ao.new hq1)
   refine ⟨_,rfl,_,rfl,_,rfl,by omega,by omega,?_⟩
   refine dC (n:=n) (fun i zs σ' H'=>∃ v,σ'=[v,some (.int m)]/\ao (upd H1 q1 (.lst ys)) H'/\Paired (bD H') zs ((List.range i).map (hiT m))) (Nat.le_trans hn (by decide)) ⟨none,rfl,ao.refl _,.nil⟩ ?_ ?_
   ·rintro i zs σ' H' hi hzs ⟨v,rfl,s3,pz⟩ N hN
    refine ⟨_,rfl,_,rfl,_,_,rfl,rfl,z3,fun p hp=>?_⟩
    refine hN _ _ _ (by simp [hzs]) ⟨_,rfl,s3.trans (ao.new hp),?_⟩
    rw [List.range_succ,List.map_append]
    refine Paired.snoc ⟨p,rfl,?_⟩ (a_ (ao.tk (ao.new hp)) pz)
    rw [aj,Int.zero_add];rfl
   ·rintro zs σ' H2 hzs ⟨v,rfl,s3,pz⟩
    have lz:=Paired.length pz
    rw [List.length_map,List.length_range] at lz
    refine ⟨Nat.le_trans (Nat.le_of_eq lz) (Nat.le_trans hn (by decide)),fun q2 hq2=>?_⟩
    have s4:ao H (upd H2 q2 (.lst zs)):=s2.trans (s3.trans (ao.new hq2))
    refine ⟨q1,q2,ys,zs,rfl,rfl,ao.new hq2 _ _ (s3 _ _ aj),aj,Nat.le_trans (by omega:ys.length+zs.length≤200) (by decide),fun q3 hq3=>?_⟩
    have s5:=s4.trans (ao.new (o:=.lst (ys++zs)) hq3)
    refine k q3 _ _ aj (Paired.app (a_ (ao.tk ((ao.new hq2).trans (ao.new hq3))) pz) (a_ (ao.tk ((ao.new hq1).trans (s3.trans ((ao.new hq2).trans (ao.new hq3))))) pe)) ?_ s5
    exact s4.free hq3
end
def Q8 (n:Nat) (h:Int->Int) (kv:List (Key×V)):Prop:=∀ v:Int,-1≤v->v<n->dJ kv (.inl v)=some (.int (h v))
def DK (b:Int->Option cg) (kv:List (Key×V)) (H:Hp):Prop:=∀ v:Int,match b v with
 |none=>dJ kv (.inl v)=none
 |some e=>∃ x,dJ kv (.inl v)=some x/\bD H x e
theorem DK.some' {b:Int->Option cg} {kv:List (Key×V)} {H:Hp} (h:DK b kv H) {v:Int} {e:cg} (hv:b v=some e):∃ x,dJ kv (.inl v)=some x/\bD H x e:=by
 have:=h v
 rw [hv] at this
 exact this
theorem DK.tk {b:Int->Option cg} {kv:List (Key×V)} {H H':Hp} (h:DK b kv H) (k:TK H H'):DK b kv H':=fun v=>by
 have:=h v
 cases e:b v with
 |none=>rw [e] at this;exact this
 | some t=>
   rw [e] at this
   obtain ⟨x,h1,a,h2,h3⟩:=this
   exact ⟨x,h1,a,h2,k _ _ h3⟩
def Kr:Option Int->V
 |none=>.non
 |some v=>.int v
structure xR (n:Nat) (H0:Hp) (p1 p2:Addr) (S:Bf.St) (c:Nat) (H:Hp):Prop where
 k1:∃ kv,H p1=some (.dK kv)/\Q8 n S.h kv/\kv.length=n+1
 k2:∃ kv,H p2=some (.dK kv)/\DK S.by' kv H/\kv.length≤c
 sm:ao H0 H
 n1:H0 p1=none
 n2:H0 p2=none
 ne:p1≠p2
theorem xR.same {n:Nat} {H0 H H':Hp} {p1 p2:Addr} {S:Bf.St} {c:Nat} (h:xR n H0 p1 p2 S c H) (s:ao H H'):xR n H0 p1 p2 S c H':=by
 obtain ⟨kv1,a1,a2,a3⟩:=h.k1
 obtain ⟨kv2,b1,b2,b3⟩:=h.k2
 exact ⟨⟨kv1,s _ _ a1,a2,a3⟩,⟨kv2,s _ _ b1,b2.tk (ao.tk s),b3⟩,h.sm.trans s,h.n1,h.n2,h.ne⟩
theorem xR.more {n:Nat} {H0 H:Hp} {p1 p2:Addr} {S:Bf.St} {c c':Nat} (h:xR n H0 p1 p2 S c H) (hc:c≤c'):xR n H0 p1 p2 S c' H:=by
 obtain ⟨kv2,b1,b2,b3⟩:=h.k2
 exact ⟨h.k1,⟨kv2,b1,b2,Nat.le_trans b3 hc⟩,h.sm,h.n1,h.n2,h.ne⟩
def CJ (es:List cg) (n:Nat) (S:Bf.St) (st:Option Int):Prop:=
 (st=none/\(∃ k,Bf.Good es k S)/\∀ e∈es,Bf.Sat S.h e)∨(∃ v,st=some v/\Bf.Stuck es (n+1) (-1) S v)
structure uR (n:Nat) (e:cg):Prop where
 o:-1≤e.1/\e.1<n
 t:-1≤e.2.1/\e.2.1<n
 ne:e.1≠e.2.1
section
variable {P:Program} {w:World} {K:Frag} {mg:Str->Option Value} {base:Heap}
def Gg (K:Frag):Sp:=fun vs H Q _=>∃ (n:Nat) (q:Addr) (xs:List V) (es:List cg),vs=[.int n,.ref q]/\n≤6/\aQ K H q xs/\Paired (bD H) xs es/\es.length≤1000/\(∀ e∈es,uR n e)/\
 ∀ (t p1 p2:Addr) (S:Bf.St) (st:Option Int) (c:Nat) (H':Hp),H' t=some (.tup [.ref p1,.ref p2,Kr st])->xR n H p1 p2 S c H'->CJ es n S st->Q (.ref t) H'
theorem oG:aW ["lanes","ties","heights","raised_by","still","turn","one","other","least"] ["lanes","ties"] (au (top 18)):=⟨rfl,rfl,rfl,by decide +kernel,rfl,by decide +kernel,by decide +kernel⟩
theorem Cu {f:Addr} {fd:FuncData} (F:gA K "raised" "raised" (top 18) f fd) (T:Txt K mg) (TC:iT mg):aN P w K mg base cJ 1 f fd ["lanes","ties"] (Gg K):=by
 refine F.ok oG (fun vs H Q E h=>?_) (fun cdv A outer s H vs Q E hr h=>?_)
 ·obtain ⟨n,q,xs,es,rfl,_⟩:=h
  rfl
 ·obtain ⟨n,q,xs,es,rfl,hn,hq,pe,hl,hin,k⟩:=h
  obtain ⟨tg,mgr⟩:=TC.gr
  have hu:=sH hr
  refine ⟨_,(aq
   (rJ (g:=aU 0) (i:=2) (own:=["lane"]) (js:=[]) (N':=["lane"]) (aJ.of (osc:=au (top 18)) (N:=["lanes","ties","heights","raised_by","still","turn","one","other","least"]) rfl rfl ⟨rfl,by decide +kernel,by decide +kernel,by decide +kernel,rfl,by decide +kernel⟩) rfl oG.nd rfl rfl (xM rfl T.range (aa (bO (v:=.int (-1)) rfl mgr ⟨_,rfl⟩) (aa (pv 0) ak))) (fun _ _ _ _ _=>(aD (i:=0) (show List.Nodup (["lane"]:List Str) by decide +kernel) rfl (Or.inl rfl) (Or.inr rfl))) (fun _ _ _ _ _=>bN) (fun _ _ _ _ _=>pv 0) (fun _ _ _ _ _=>az))
   (aq (bf (i:=3) oG.nd rfl (Or.inl rfl) yE)
   (aq (bf (i:=4) oG.nd rfl (Or.inl rfl) gM)
   (aq (dw PassesOwn.never rfl (bJ rfl T.range (aa (bj c7 (aG oW (by rfl) T.len cu (aa (pv 2) ak)) az) ak)) (aD (i:=5) oG.nd rfl (Or.inl rfl))
    (aq (bf (i:=4) oG.nd rfl (Or.inl rfl) gM)
    (aq (dw PassesOwn.never rfl (cD (pv 1)) (eQ rfl (aK (aD (i:=6) oG.nd rfl (Or.inl rfl)) (aK (aD (i:=7) oG.nd rfl (Or.inl rfl)) (aK (aD (i:=8) oG.nd rfl (Or.inl rfl)) dD))))
     (aB (bW (aP uE (bj c7 (bY hu (pv 2) (pv 7) (fun _ _=>rfl)) (pv 8)) (bY hu (pv 2) (pv 6) (fun _ _=>rfl)) (aR _))
      (aq (iM hu (pv 2) (pv 6) (bj c7 (bY hu (pv 2) (pv 7) (fun _ _=>rfl)) (pv 8)) rfl)
      (aq (iM hu (pv 3) (pv 6) (cz (aa (pv 6) (aa (pv 7) (aa (pv 8) ak)))) rfl)
      (aB (bf (i:=4) oG.nd rfl (Or.inl rfl) (pv 6))))) bc)))
    (aB (bW (aP lR (pv 4) gM (aR _)) (aB zW) bc)))))
   (aB (bF (cz (aa (pv 2) (aa (pv 3) (aa (pv 4) ak)))))))))),?_⟩
  have z3:3≤sizeLine:=by decide
  have pl:=Paired.length pe
  refine ⟨_,rfl,_,_,rfl,⟨by decide,by decide,by omega,by omega⟩,fun p1 hp1=>?_⟩
  refine qP (n:=((n:Int) - -1).toNat) (fun i σ' H'=>∃ v kv,σ'=[v]/\H'=upd H p1 (.dK kv)/\kv.length=i/\∀ j:Int,dJ kv (.inl j)=if -1≤j/\j < -1+i then some (.int 0) else none) ⟨none,[],rfl,rfl,rfl,fun j=>by rw [if_neg (by omega)];rfl⟩ ?_ ?_
  ·rintro i σ' H' hi ⟨v,kv,rfl,rfl,hk1,hk2⟩ N hN
   refine ⟨_,rfl,kv,Sum.inl (-1+(i:Int)),aj,rfl,Nat.lt_of_le_of_lt (by omega:kv.length≤10) (by decide),hN _ _ ⟨_,_,rfl,vg,?_,fun j=>?_⟩⟩
   ·rw [yW _ (by rw [hk2,if_neg (by omega)]),List.length_append,hk1];rfl
   ·rw [nP,hk2]
    by_cases q:j=-1+(i:Int)
    ·rw [if_pos (by rw [q]),if_pos (by omega)]
    ·rw [if_neg (by intro z;exact q (Sum.inl.inj z))]
     by_cases q2:-1≤j/\j < -1+(i:Int)
     ·rw [if_pos q2,if_pos (by omega)]
     ·rw [if_neg q2,if_neg (by omega)]
  ·rintro σ' H' ⟨v,kv1,rfl,rfl,hk1,hk2⟩
   have hk1':kv1.length=n+1:=by omega
   intro p2 hp2
   have ne:p1≠p2:=fun z=>by rw [← z,aj] at hp2;cases hp2
   have hp2':H p2=none:=by rw [aA (Ne.symm ne)] at hp2;exact hp2
   have h0:xR n H p1 p2 Bf.St.zero 0 (upd (upd H p1 (.dK kv1)) p2 (.dK [])):=by
    refine ⟨⟨kv1,by rw [aA ne,aj],fun v h1 h2=>?_,hk1'⟩,⟨[],aj,fun v=>rfl,Nat.le_refl _⟩,(ao.new hp1).trans (ao.new hp2),hp1,hp2',ne⟩
    rw [hk2,if_pos (by omega)];rfl
   have fin:∀ (S:Bf.St) (st:Option Int) (c:Nat) (σ':St) (H':Hp),(∃ v5 v6 v7 v8,σ'=[some (.int n),some (.ref q),some (.ref p1),some (.ref p2),some (Kr st),v5,v6,v7,v8])->xR n H p1 p2 S c H'->CJ es n S st->
    Jq (Hk (pI (tZ 2) (pI (tZ 3) (pI (tZ 4) jO)))) { nx:=fun _ H'=>Q .non H',rt:=Q } σ' H':=by
    rintro S st c σ' H' ⟨v5,v6,v7,v8,rfl⟩ hp en
    exact ⟨_,rfl,_,rfl,_,rfl,z3,fun t ht=>k t p1 p2 S st c _ aj (hp.same (ao.new ht)) en⟩
   have hq':∀ {S:Bf.St} {c:Nat} {H':Hp},xR n H p1 p2 S c H'->aQ K H' q xs:=fun hp=>hp.sm.seq hq
   refine ⟨_,rfl,p1,kv1,rfl,by rw [aA ne,aj],_,_,rfl,rfl,_,rfl,by omega,by omega,?_⟩
   refine dG (n:=((kv1.length:Int)+1).toNat) (fun i σ' H'=>∃ S st,(∃ v5 v6 v7 v8,σ'=[some (.int n),some (.ref q),some (.ref p1),some (.ref p2),some (Kr st),v5,v6,v7,v8])/\xR n H p1 p2 S (i*1000) H'/\(i=0->Bf.Round es 1 [] es S none)/\(0<i->∃ v,st=some v/\Bf.Round es i es [] S (some v))) ?_ ?_ ?_
   ·exact ⟨Bf.St.zero,none,⟨none,none,none,none,rfl⟩,h0,fun _=>Bf.Round.first es,fun z=>absurd z (Nat.lt_irrefl _)⟩
   ·rintro i σ' H1 hi ⟨S,st,⟨v5,v6,v7,v8,rfl⟩,hp,r0,r1⟩
    have R:Bf.Round es (i+1) [] es S none:=by
     by_cases z:i=0
     ·subst z;exact r0 rfl
     ·obtain ⟨v,_,R⟩:=r1 (by omega)
      exact R.next
    clear r0 r1
    refine ⟨_,rfl,q,rfl,⟨_,hq' hp⟩,?_⟩
    refine e_ (K:=K) (a:=q) (xs:=xs) (fun j σ' H'=>∃ S st,(∃ v6 v7 v8,σ'=[some (.int n),some (.ref q),some (.ref p1),some (.ref p2),some (Kr st),some (.int (0+i)),v6,v7,v8])/\xR n H p1 p2 S (i*1000+j) H'/\Bf.Round es (i+1) (es.take j) (es.drop j) S st) ?_ (fun j σ' H' _ ⟨S,st,_,hp,_⟩=>hq' hp) ?_ ?_
    ·exact ⟨S,none,⟨_,_,_,rfl⟩,hp,by rw [List.take_zero,List.drop_zero];exact R⟩
    ·rintro j x σ' H2 hj ⟨S,st,⟨v6,v7,v8,rfl⟩,hp,R⟩
     obtain ⟨e,he,b,rfl,hb⟩:=cY (a_ (ao.tk hp.sm) pe) hj
     have hm:=List.mem_of_getElem? he
     have it:=hin e hm
     have hjl:j<es.length:=(List.getElem?_eq_some_iff.mp he).1
     have ed:es.drop j=e::es.drop (j+1):=by
      rw [List.drop_eq_getElem_cons hjl]
      rw [List.getElem?_eq_getElem hjl] at he
      rw [Option.some.inj he]
     have etk:es.take (j+1)=es.take j++[e]:=by
      rw [List.take_succ,he];rfl
     rw [ed] at R
     obtain ⟨kv,a1,a2,a3⟩:=hp.k1
     obtain ⟨kw,b1,b2,b3⟩:=hp.k2
     have kwl:kw.length<sizeLine:=Nat.lt_of_le_of_lt (show kw.length≤100000 by omega) (by decide)
     refine ⟨b,_,rfl,cA.of hb,rfl,_,_,rfl,_,_,rfl,_,_,rfl,rfl,?_⟩
     refine ⟨_,rfl,_,rfl,p1,_,rfl,gF a1 (a2 _ it.t.1 it.t.2),_,rfl,_,_,rfl,rfl,_,rfl,_,rfl,p1,_,rfl,gF a1 (a2 _ it.o.1 it.o.2),_,_,rfl,rfl,_,rfl,?_⟩
     refine h_ (fun hgt=>?_) (fun hgt=>?_)
     ·have hlt:S.h e.1<S.h e.2.1+e.2.2:=by simpa using hgt
      refine ⟨_,rfl,_,rfl,p1,_,rfl,gF a1 (a2 _ it.t.1 it.t.2),_,rfl,_,_,rfl,rfl,_,rfl,_,rfl,p1,_,rfl,mV.k (k:=Sum.inl e.1) a1 (Nat.lt_of_le_of_lt (by omega:kv.length≤10) (by decide)),?_⟩
      refine ⟨_,rfl,_,rfl,_,rfl,z3,fun tt htt=>?_⟩
      have nt1:tt≠p1:=fun z=>by rw [z,aj] at htt;cases htt
      rw [aA nt1] at htt
      have nt2:tt≠p2:=fun z=>by rw [z,b1] at htt;cases htt
      refine ⟨_,rfl,_,rfl,p2,_,rfl,mV.k (k:=Sum.inl e.1) (kvs:=kw) (by rw [aA (Ne.symm nt2),aA (Ne.symm hp.ne)];exact b1) kwl,?_⟩
      refine ⟨_,rfl,?_⟩
      refine ⟨S.raise (i+1) e,some e.1,⟨_,_,_,rfl⟩,?_,by rw [etk];exact R.raise hm it.ne hlt⟩
      have kb:∀ b' u,H2 b'=some u->b'≠p1->b'≠p2->(upd (upd (upd H2 p1 (.dK (putK kv (.inl e.1) (.int (S.h e.2.1+e.2.2))))) tt (.tup [.int e.1,.int e.2.1,.int e.2.2])) p2 (.dK (putK kw (.inl e.1) (.ref tt)))) b'=some u:=fun b' u e' h1 h2=>by
       rw [aA h2,aA (aC e' htt),aA h1];exact e'
      refine ⟨⟨putK kv (.inl e.1) (.int (S.h e.2.1+e.2.2)),by rw [aA hp.ne,aA (Ne.symm nt1),aj],fun v h1 h2=>?_,by rw [zF (a2 _ it.o.1 it.o.2),a3]⟩,⟨putK kw (.inl e.1) (.ref tt),aj,fun v=>?_,by have:=eV kw (Sum.inl e.1) (V.ref tt);omega⟩,fun b' u e'=>kb b' u (hp.sm _ _ e') (aC e' hp.n1) (aC e' hp.n2),hp.n1,hp.n2,hp.ne⟩
      ·rw [nP]
       show _=some (V.int (Bf.put S.h e.1 (S.h e.2.1+e.2.2) v))
       by_cases q:v=e.1
       ·rw [if_pos (by rw [q]),q,Bf.bw]
       ·rw [if_neg (by intro z;exact q (Sum.inl.inj z)),Bf.bM q];exact a2 v h1 h2
      ·show match Bf.put S.by' e.1 (some e) v with|none=>_|some e=>_
       rw [nP]
       by_cases q:v=e.1
       ·rw [q,Bf.bw]
        refine ⟨.ref tt,by rw [if_pos rfl],tt,rfl,?_⟩
        rw [aA nt2,aj]
       ·rw [Bf.bM q]
        have hv:=b2 v
        cases eb:S.by' v with
        | none=>
          rw [eb] at hv
          show (if _ then _ else _)=none
          rw [if_neg (by intro z;exact q (Sum.inl.inj z))];exact hv
        | some t=>
          rw [eb] at hv
          obtain ⟨x,hx,b',hb1,hb2⟩:=hv
          refine ⟨x,by rw [if_neg (by intro z;exact q (Sum.inl.inj z))];exact hx,b',hb1,kb _ _ hb2 (fV hb2 a1 (by intro z;cases z)) (fV hb2 b1 (by intro z;cases z))⟩
     ·have hge:¬ S.h e.1<S.h e.2.1+e.2.2:=by simpa using hgt
      exact ⟨S,st,⟨_,_,_,rfl⟩,hp.more (by omega),by rw [etk];exact R.keep hge⟩
    ·rintro σ' H2 ⟨S,st,⟨v6,v7,v8,rfl⟩,hp,R⟩
     rw [pl,List.take_length,List.drop_length] at R
     cases st with
     | none=>
       refine ⟨_,rfl,rfl,_,rfl,jt rfl ?_⟩
       exact fin S none _ _ _ ⟨_,_,_,_,rfl⟩ hp (.inl ⟨rfl,⟨_,R.g⟩,R.n rfl⟩)
     | some v=>
       refine ⟨_,rfl,rfl,_,rfl,eG rfl ?_⟩
       exact ⟨S,some v,⟨_,_,_,_,rfl⟩,hp.more (by omega),fun z=>absurd z (Nat.succ_ne_zero _),fun _=>⟨v,rfl,R⟩⟩
   ·rintro σ' H1 ⟨S,st,⟨v5,v6,v7,v8,rfl⟩,hp,r0,r1⟩
    obtain ⟨v,rfl,R⟩:=r1 (by omega)
    have en:((kv1.length:Int)+1).toNat=n+1+1:=by omega
    rw [en] at R
    obtain ⟨hv1,e,hv2,hv3⟩:=R.y v rfl
    refine fin S (some v) _ _ _ ⟨_,_,_,_,rfl⟩ hp (.inr ⟨v,rfl,R.g,fun e he=>?_,?_,hv1⟩)
    ·have it:=hin e he
     exact ⟨⟨it.o.1,by have:=it.o.2;omega⟩,⟨it.t.1,by have:=it.t.2;omega⟩,it.ne⟩
    ·have it:=hin e hv2
     rw [← hv3]
     exact ⟨it.o.1,by have:=it.o.2;omega⟩
end
def gG (es:List cg) (n:Nat) (m:Int):List cg:=es++lg n m
theorem pZ {n:Nat} {m:Int} {e:cg} (h:e∈lg n m):uR n e:=by
 unfold lg at h
 rcases List.mem_append.mp h with h|h
 ·obtain ⟨i,hi,rfl⟩:=List.mem_map.mp h
  have:=List.mem_range.mp hi
  exact ⟨⟨by show (-1:Int)≤(i:Int);omega,by show (i:Int)<n;omega⟩,⟨by show (-1:Int)≤-1;omega,by show (-1:Int)<n;omega⟩,by show (i:Int)≠-1;omega⟩
 ·obtain ⟨i,hi,rfl⟩:=List.mem_map.mp h
  have:=List.mem_range.mp hi
  exact ⟨⟨by show (-1:Int)≤-1;omega,by show (-1:Int)<n;omega⟩,⟨by show (-1:Int)≤(i:Int);omega,by show (i:Int)<n;omega⟩,by show (-1:Int)≠(i:Int);omega⟩
theorem fY.inT {n:Nat} {e:cg} (h:fY n e):uR n e:=⟨⟨by have:=h.o.1;omega,h.o.2⟩,⟨by have:=h.t.1;omega,h.t.2⟩,h.ne⟩
def xQ (n:Nat) (h:Int->Int):List V:=(List.range n).map fun i:Nat=>V.int (h i)
structure jZ (K:Frag) (H:Hp) (q:Addr) (n:Nat) (es:List cg):Prop where
 at_:∃ xs,H q=some (.lst xs)/\Paired (bD H) xs es
 ln:es.length≤900
 ok:∀ e∈es,fY n e
theorem jZ.same {K:Frag} {H H':Hp} {q:Addr} {n:Nat} {es:List cg} (h:jZ K H q n es) (s:ao H H'):jZ K H' q n es:=by
 obtain ⟨xs,h1,h2⟩:=h.at_
 exact ⟨⟨xs,s _ _ h1,a_ (ao.tk s) h2⟩,h.ln,h.ok⟩
theorem kI (n:Nat) (m:Int):(lg n m).length=n+n:=by unfold lg;simp
section
variable {P:Program} {w:World} {K:Frag} {mg:Str->Option Value} {base:Heap}
def FQ (K:Frag):Sp:=fun vs H Q _=>∃ (n:Nat) (q:Addr) (m:Int) (es:List cg),vs=[.int n,.ref q,.int m]/\1≤n/\n≤6/\0≤m/\m≤1000000000000/\jZ K H q n es/\
 (∀ h,Bf.j9 (gG es n m) h->∀ a H',H' a=some (.lst (xQ n h))->H a=none->ao H H'->Q (.ref a) H')/\(Bf.m_ (gG es n m)->∀ H',ao H H'->Q .non H')
theorem zH:aW ["lanes","ties","most","heights","raised_by","still"] ["lanes","ties","most"] (au (top 19)):=⟨rfl,rfl,rfl,by decide +kernel,rfl,by decide +kernel,by decide +kernel⟩
theorem m7 {es:List cg} {n:Nat} {S:Bf.St} (h:(∃ k,Bf.Good es k S)/\∀ e∈es,Bf.Sat S.h e):Bf.j9 es S.h:=by
 obtain ⟨⟨k,G⟩,h2⟩:=h
 exact ⟨h2,G.nn,G.le⟩
theorem JS {f fN fB fR fL fT fM:Addr} {fd fdN fdB fdR fdL fdT fdM:FuncData} (F:gA K "amounts" "amounts" (top 19) f fd) (T:Txt K mg) (TC:iT mg) (DN:dZ K mg "need_all" (top 16) ["lanes","ties","most"] fN fdN) (DB:dZ K mg "bounds" (top 17) ["lanes","most"] fB fdB) (DR:dZ K mg "raised" (top 18) ["lanes","ties"] fR fdR)
 (DL:dZ K mg "need_lanes" (top 13) ["lanes"] fL fdL) (DT:dZ K mg "need_ties" (top 14) ["lanes","ties"] fT fdT) (DM:dZ K mg "need_most" (top 15) ["most"] fM fdM):aN P w K mg base cJ 3 f fd ["lanes","ties","most"] (FQ K):=by
 have GN:aN P w K mg base cJ 2 fN fdN ["lanes","ties","most"] (El K):=Dk DN.F TC DL DT DM
 have GB:aN P w K mg base cJ 1 fB fdB ["lanes","most"] Ej:=Dm DB.F T TC
 have GR:aN P w K mg base cJ 1 fR fdR ["lanes","ties"] (Gg K):=Cu DR.F T TC
 refine F.ok zH (fun vs H Q E h=>?_) (fun cdv A outer s H vs Q E hr h=>?_)
 ·obtain ⟨n,q,m,es,rfl,_⟩:=h
  rfl
 ·obtain ⟨n,q,m,es,rfl,n1,n2,m1,m2,ti,k1,k2⟩:=h
  have hu:=sH hr
  have hr1:bL 1 _:=hr.mono (by decide)
  refine ⟨_,(aq (bC (aM GN hr rfl DN.mg DN.F.kp DN.b .nil bh (aa (pv 0) (aa (pv 1) (aa (pv 2) ak)))))
   (aq (zx (aM GR hr1 rfl DR.mg DR.F.kp DR.b .nil bh (aa (pv 0) (aa (bj jK (pv 1) (aM GB hr1 rfl DB.mg DB.F.kp DB.b .nil bh (aa (pv 0) (aa (pv 2) ak)))) ak))) (eQ rfl (aK (aD (i:=3) zH.nd rfl (Or.inr rfl)) (aK (aD (i:=4) zH.nd rfl (Or.inl rfl)) (aK (aD (i:=5) zH.nd rfl (Or.inl rfl)) dD)))))
   (aB (bF (nC (aP lR (pv 5) gM (aR _)) (cG (g:=aU 0) (own:=["lane"]) (js:=[3]) (N':=["lane","heights"]) (aJ.of (osc:=au (top 19)) (N:=["lanes","ties","most","heights","raised_by","still"]) rfl rfl ⟨rfl,by decide +kernel,by decide +kernel,by decide +kernel,rfl,by decide +kernel⟩) rfl (bJ rfl T.range (aa (pv 0) ak)) (fun _ _ _ _ _=>(aD (i:=0) (show List.Nodup (["lane","heights"]:List Str) by decide +kernel) rfl (Or.inl rfl) (Or.inr rfl))) (fun _ _ _ _ _=>bN) (fun _ _ _ _ _=>bY hu (pv 1) (pv 0) (fun _ _=>rfl))) gM))))),?_⟩
  obtain ⟨xs,hq,pe⟩:=ti.at_
  have pl:=Paired.length pe
  have tl:=ti.ln
  refine ⟨_,rfl,_,rfl,_,rfl,n,m,q,xs,es,rfl,by omega,by omega,m1,m2,aQ.of hq,pe,ti.ok,?_⟩
  refine ⟨_,rfl,_,rfl,_,rfl,_,rfl,n,m,rfl,by omega,fun q1 ys H1 hq1 pb nq1 s1=>?_⟩
  have lb:=Paired.length pb
  rw [kI] at lb
  refine ⟨q,q1,xs,ys,rfl,rfl,s1 _ _ hq,hq1,Nat.le_trans (show xs.length+ys.length≤1000 by omega) (by decide),fun q2 hq2=>?_⟩
  have s2:ao H (upd H1 q2 (.lst (xs++ys))):=s1.trans (ao.new hq2)
  refine ⟨n,q2,xs++ys,gG es n m,rfl,n2,aQ.of aj,Paired.app (a_ (ao.tk (ao.new hq2)) pb) (a_ (ao.tk s2) pe),?_,?_,fun t p1 p2 S st c H2 ht hp en=>?_⟩
  ·unfold gG;rw [List.length_append,kI];omega
  ·intro e he
   rcases List.mem_append.mp he with he|he
   ·exact (ti.ok e he).inT
   ·exact pZ he
  have s3:ao H H2:=s2.trans hp.sm
  refine ⟨t,_,rfl,cA.of ht,rfl,_,_,rfl,_,_,rfl,_,_,rfl,rfl,?_⟩
  rcases en with ⟨rfl,en⟩|⟨v,rfl,en⟩
  ·refine ⟨_,rfl,rfl,_,rfl,jt rfl ?_⟩
   obtain ⟨kv,a1,a2,a3⟩:=hp.k1
   refine ⟨_,rfl,_,rfl,by omega,by omega,?_⟩
   refine dC (n:=n) (fun i zs σ' H'=>∃ v,σ'=[v,some (.ref p1)]/\H'=H2/\zs=xQ i S.h) (Nat.le_trans n2 (by decide)) ⟨none,rfl,rfl,rfl⟩ ?_ ?_
   ·rintro i zs σ' H' hi hzs ⟨v,rfl,rfl,rfl⟩ N hN
    refine ⟨_,rfl,_,rfl,p1,_,rfl,gF a1 (a2 _ (by omega) (by omega)),?_⟩
    refine hN _ _ _ (by simp [hzs]) ⟨_,rfl,rfl,?_⟩
    unfold xQ
    rw [List.range_succ,List.map_append,Int.zero_add];rfl
   ·rintro zs σ' H' hzs ⟨v,rfl,rfl,rfl⟩
    refine ⟨by rw [hzs];exact Nat.le_trans n2 (by decide),fun a ha=>?_⟩
    exact k1 _ (m7 (n:=n) en) a _ aj (s3.free ha) (s3.trans (ao.new ha))
  ·refine ⟨_,rfl,rfl,_,rfl,eG rfl ?_⟩
   exact k2 en.barred _ s3
def Il:Sp:=fun vs H Q _=>∃ (v:Int) (p2:Addr) (n:Nat) (es:List cg) (S:Bf.St) (kv:List (Key×V)),vs=[.int v,.ref p2,.int n]/\n≤100/\H p2=some (.dK kv)/\DK S.by' kv H/\Bf.Stuck es n (-1) S v/\
 ∀ a ys rs H',H' a=some (.lst ys)->Paired (bD H') ys rs->Bf.pU rs->(∀ e∈rs,e∈es)->rs.length≤n->H a=none->ao H H'->Q (.ref a) H'
theorem Bu:aW ["at","raised_by","many","turn","found"] ["at","raised_by","many"] (au (top 21)):=⟨rfl,rfl,rfl,by decide +kernel,rfl,by decide +kernel,by decide +kernel⟩
theorem m5 {S:Bf.St} {v:Int} {n m:Nat}:Bf.dg S v n (m+1)=Bf.dg S v n m++[Bf.dU S v (n+m)]:=by
 unfold Bf.dg
 rw [List.range_succ,List.map_append];rfl
theorem Gq {f:Addr} {fd:FuncData} (F:gA K "ring_behind" "ring_behind" (top 21) f fd) (T:Txt K mg):aN P w K mg base cJ 1 f fd ["at","raised_by","many"] Il:=by
 refine F.ok Bu (fun vs H Q E h=>?_) (fun cdv A outer s H vs Q E hr h=>?_)
 ·obtain ⟨v,p2,n,es,S,kv,rfl,_⟩:=h
  rfl
 ·obtain ⟨v,p2,n,es,S,kv,rfl,hn,hp2,hby,St,k⟩:=h
  have hu:=sH hr
  refine ⟨_,(aq (dw PassesOwn.never rfl (bJ rfl T.range (aa (pv 2) ak)) (aD (i:=3) Bu.nd rfl (Or.inl rfl)) (aB (bf (i:=0) Bu.nd rfl (Or.inl rfl) (aY qt (bY hu (pv 1) (pv 0) (fun _ _=>rfl)) az (fun _ _=>rfl)))))
   (aq (bf (i:=4) Bu.nd rfl (Or.inl rfl) (bK (aa (bY hu (pv 1) (pv 0) (fun _ _=>rfl)) ak)))
   (aq (yI PassesOwn.never (aP lB (aY qt (aY gf (pv 4) (iV gZ az) (fun _ _=>rfl)) az (fun _ _=>rfl)) (pv 0) (aR _)) (aB (bC (kJ PySem.F.plainAttrs_list PySem.F.slot_list_append PySem.F.type_list_append dO (pv 4) (aa (bY hu (pv 1) (aY qt (aY gf (pv 4) (iV gZ az) (fun _ _=>rfl)) az (fun _ _=>rfl)) (fun _ _=>rfl)) ak)))))
   (aB (bF (pv 4)))))),?_⟩
  have tie:∀ i,∃ b,dJ kv (.inl (Bf.it S v i))=some (.ref b)/\H b=some (.tup [.int (Bf.dU S v i).1,.int (Bf.dU S v i).2.1,.int (Bf.dU S v i).2.2]):=fun i=>by
   obtain ⟨x,h1,b,rfl,h2⟩:=hby.some' (St.tie i)
   exact ⟨b,h1,h2⟩
  refine ⟨_,rfl,_,rfl,by omega,by omega,?_⟩
  refine dG (n:=(n:Int).toNat) (fun i σ' H'=>∃ u,σ'=[some (.int (Bf.it S v i)),some (.ref p2),some (.int n),u,none]/\H=H') ⟨none,rfl,rfl⟩ ?_ ?_
  ·rintro i σ' H' hi ⟨u,rfl,rfl⟩
   obtain ⟨b,h1,h2⟩:=tie i
   refine ⟨_,rfl,_,rfl,p2,_,rfl,gF hp2 h1,b,_,_,_,rfl,rfl,cA.of h2,aL (j:=1) rfl,?_⟩
   refine ⟨some (.int (0+i)),?_,rfl⟩
   show [some (V.int (Bf.dU S v i).2.1),some (V.ref p2),some (V.int n),some (V.int (0+i)),none]=_
   rw [St.other]
  ·rintro σ' H' ⟨u,rfl,rfl⟩
   rw [Int.toNat_natCast]
   obtain ⟨b0,h1,h2⟩:=tie n
   refine ⟨_,rfl,_,rfl,p2,_,rfl,gF hp2 h1,(show 1≤sizeLine by decide),fun a ha=>?_⟩
   obtain ⟨d,d1,d2⟩:=St.loop
   refine yj (fun σ' H'=>∃ m ys u,σ'=[some (.int (Bf.it S v n)),some (.ref p2),some (.int n),u,some (.ref a)]/\H'=upd H a (.lst ys)/\Paired (bD H) ys (Bf.dg S v n (m+1))/\∀ i,1≤i->i≤m->Bf.it S v (n+i)≠Bf.it S v n)
    (fun σ' H'=>match H' a with|some (.lst ys)=>n+1-ys.length|_=>0) ?_ ?_ ?_
   ·refine ⟨0,[.ref b0],u,rfl,rfl,?_,fun i h1 h2=>by omega⟩
    rw [m5]
    exact .cons ⟨b0,rfl,h2⟩ .nil
   ·rintro σ' H' ⟨m,ys,u,rfl,rfl,py,hm⟩
    have ly:=Paired.length py
    rw [Bf.gY] at ly
    have mn:m+1≤n:=by
     have nd:((List.range (m+1)).map fun i=>Bf.it S v (n+i)).Nodup:=by
      refine Classical.byContradiction fun z=>?_
      obtain ⟨i,j,a1,a2,a3⟩:=Bf.iK _ z
      obtain ⟨i0,d,b1,b2,b3⟩:=St.per
      have e1:∀ t,Bf.it S v (n+i+t)=Bf.it S v (n+j+t):=fun t=>by rw [Bf.jU,Bf.jU S v (n+j),a3]
      have per:∀ q t,Bf.it S v (n+t+q*d)=Bf.it S v (n+t):=by
       intro q
       induction q with
       |zero=>intro t;rw [Nat.zero_mul,Nat.add_zero]
       | succ q ih=>
         intro t
         rw [Nat.succ_mul,← Nat.add_assoc,b3 _ (by omega),ih]
      have h5:=e1 (j*d-j)
      have e2:n+j+(j*d-j)=n+0+j*d:=by
       have:j≤j*d:=Nat.le_mul_of_pos_right j (by omega)
       omega
      rw [e2,per] at h5
      have e3:n+i+(j*d-j)=n+(i+(j*d-j)):=by omega
      rw [e3] at h5
      have key:∀ t,1≤t->Bf.it S v (n+t)=Bf.it S v n->m<t:=fun t t1 t2=>by
       refine Classical.byContradiction fun z=>hm t t1 (by omega) t2
      have e4:Bf.it S v (n+(j-i))=Bf.it S v n:=by
       have h6:=e1 (i*d-i)
       have e5:n+i+(i*d-i)=n+0+i*d:=by
        have:i≤i*d:=Nat.le_mul_of_pos_right i (by omega)
        omega
       have e6:n+j+(i*d-i)=n+(j-i)+i*d:=by
        have:i≤i*d:=Nat.le_mul_of_pos_right i (by omega)
        omega
       rw [e5,e6,per,per] at h6
       exact h6.symm
      have:=key (j-i) (by omega) e4
      omega
     have:=Bf.gk n (-1) _ nd fun x hx=>by
      obtain ⟨i,_,rfl⟩:=List.mem_map.mp hx
      have:=(St.nd _ (St.mem (n+i))).1
      rw [St.one] at this
      exact this
     simpa using this
    have hlast:ys[m]?≠none:=by
     intro z
     rw [List.getElem?_eq_none_iff] at z
     omega
    obtain ⟨x,hx⟩:=Option.ne_none_iff_exists'.mp hlast
    obtain ⟨e,he,b,rfl,hb⟩:=cY py hx
    have ee:e=Bf.dU S v (n+m):=by
     have:=Bf.gD (s:=S) (v:=v) (n:=n) (m:=m+1) (i:=m) (Nat.lt_succ_self _)
     rw [List.getD_eq_getElem?_getD,he] at this
     exact this
    subst ee
    have nab:a≠b:=fun z=>by rw [z,hb] at ha;cases ha
    have hb':(upd H a (.lst ys)) b=some (.tup [.int (Bf.dU S v (n+m)).1,.int (Bf.dU S v (n+m)).2.1,.int (Bf.dU S v (n+m)).2.2]):=by rw [aA (Ne.symm nab)];exact hb
    have atl:mJ ys (-1)=some (.ref b):=by
     have e1:ys.length=m+1:=ly
     unfold mJ CP
     rw [if_neg (by decide),if_pos (by omega),e1]
     show ys[(-1+((m+1:Nat):Int)).toNat]?=_
     rw [show (-1+((m+1:Nat):Int)).toNat=m by omega]
     exact hx
    have np:p2≠a:=fun z=>by rw [z,ha] at hp2;cases hp2
    have hp2':(upd H a (.lst ys)) p2=some (.dK kv):=by rw [aA np];exact hp2
    refine ⟨_,rfl,_,rfl,a,_,_,_,rfl,rfl,aQ.of aj,atl,b,_,_,_,rfl,rfl,cA.of hb',aL (j:=1) rfl,_,rfl,rfl,_,rfl,?_⟩
    refine h_ (fun hne=>?_) (fun hne=>?_)
    ·obtain ⟨b1,g1,g2⟩:=tie (n+m+1)
     have g1':dJ kv (.inl (Bf.dU S v (n+m)).2.1)=some (.ref b1):=by rw [St.other];exact g1
     refine ⟨_,rfl,.inl ⟨rfl,_,aQ.of aj⟩,_,rfl,_,rfl,_,rfl,a,_,_,_,rfl,rfl,aQ.of aj,atl,b,_,_,_,rfl,rfl,cA.of hb',aL (j:=1) rfl,p2,_,rfl,gF hp2' g1',a,_,_,rfl,rfl,aj,Nat.lt_of_le_of_lt (show ys.length≤1000 by omega) (by decide),?_⟩
     refine ⟨⟨m+1,ys++[.ref b1],u,rfl,vg,?_,fun i i1 i2=>?_⟩,?_⟩
     ·rw [m5]
      exact Paired.snoc ⟨b1,rfl,g2⟩ py
     ·by_cases q:i≤m
      ·exact hm i i1 q
      ·have:i=m+1:=by omega
       subst this
       rw [St.other] at hne
       intro z
       rw [← Nat.add_assoc] at z
       simp [z] at hne
     ·rw [aj,aj]
      show n+1-(ys++[_]).length<n+1-ys.length
      rw [List.length_append]
      show n+1-(ys.length+1)<_
      omega
    ·have hret:Bf.it S v (n+(m+1))=Bf.it S v n:=by
      rw [St.other] at hne
      rw [← Nat.add_assoc]
      simpa using hne
     obtain ⟨R,hR⟩:=St.ring hret hm
     have sm:ao H (upd H a (.lst ys)):=ao.new ha
     refine ⟨_,rfl,k a ys _ _ aj (a_ (ao.tk sm) py) R hR (by rw [Bf.gY];omega) ha sm⟩
   ·intro O H Q Q' hQ h
    obtain ⟨x1,e1,y1,f1,h⟩:=h
    exact ⟨x1,e1,y1,f1,by
     obtain ⟨a1,b1,c1,d1,g1,g2,g3,g4,a2,b2,c2,d2,g5,g6,g7,g8,x2,e2,e3,k1,e4,h⟩:=h
     exact ⟨a1,b1,c1,d1,g1,g2,g3,g4,a2,b2,c2,d2,g5,g6,g7,g8,x2,e2,e3,k1,e4,hQ _ _ h⟩⟩
def Im (K:Frag):Sp:=fun vs H Q _=>∃ (n:Nat) (q:Addr) (m:Int) (es:List cg),vs=[.int n,.ref q,.int m]/\1≤n/\n≤6/\0≤m/\m≤1000000000000/\jZ K H q n es/\
 (∀ h,Bf.j9 (gG es n m) h->∀ H',ao H H'->Q .non H')/\(∀ a ys rs H',H' a=some (.lst ys)->Paired (bD H') ys rs->Bf.pU rs->(∀ e∈rs,e∈gG es n m)->rs.length≤n+1->H a=none->ao H H'->Q (.ref a) H')
theorem Bd:aW ["lanes","ties","most","heights","raised_by","still"] ["lanes","ties","most"] (au (top 20)):=⟨rfl,rfl,rfl,by decide +kernel,rfl,by decide +kernel,by decide +kernel⟩
theorem Jw {f fN fB fR fL fT fM fG:Addr} {fd fdN fdB fdR fdL fdT fdM fdG:FuncData} (F:gA K "ring" "ring" (top 20) f fd) (T:Txt K mg) (TC:iT mg) (DN:dZ K mg "need_all" (top 16) ["lanes","ties","most"] fN fdN) (DB:dZ K mg "bounds" (top 17) ["lanes","most"] fB fdB) (DR:dZ K mg "raised" (top 18) ["lanes","ties"] fR fdR)
 (DL:dZ K mg "need_lanes" (top 13) ["lanes"] fL fdL) (DT:dZ K mg "need_ties" (top 14) ["lanes","ties"] fT fdT) (DM:dZ K mg "need_most" (top 15) ["most"] fM fdM) (DG:dZ K mg "ring_behind" (top 21) ["at","raised_by","many"] fG fdG):aN P w K mg base cJ 3 f fd ["lanes","ties","most"] (Im K):=by
 have GN:aN P w K mg base cJ 2 fN fdN ["lanes","ties","most"] (El K):=Dk DN.F TC DL DT DM
 have GB:aN P w K mg base cJ 1 fB fdB ["lanes","most"] Ej:=Dm DB.F T TC
 have GR:aN P w K mg base cJ 1 fR fdR ["lanes","ties"] (Gg K):=Cu DR.F T TC
 have GG:aN P w K mg base cJ 1 fG fdG ["at","raised_by","many"] Il:=Gq DG.F T
 refine F.ok Bd (fun vs H Q E h=>?_) (fun cdv A outer s H vs Q E hr h=>?_)
 ·obtain ⟨n,q,m,es,rfl,_⟩:=h
  rfl
 ·obtain ⟨n,q,m,es,rfl,n1,n2,m1,m2,ti,k1,k2⟩:=h
  have hu:=sH hr
  have hr1:bL 1 _:=hr.mono (by decide)
  refine ⟨_,(aq (bC (aM GN hr rfl DN.mg DN.F.kp DN.b .nil bh (aa (pv 0) (aa (pv 1) (aa (pv 2) ak)))))
   (aq (zx (aM GR hr1 rfl DR.mg DR.F.kp DR.b .nil bh (aa (pv 0) (aa (bj jK (pv 1) (aM GB hr1 rfl DB.mg DB.F.kp DB.b .nil bh (aa (pv 0) (aa (pv 2) ak)))) ak))) (eQ rfl (aK (aD (i:=3) Bd.nd rfl (Or.inl rfl)) (aK (aD (i:=4) Bd.nd rfl (Or.inl rfl)) (aK (aD (i:=5) Bd.nd rfl (Or.inl rfl)) dD)))))
   (aB (bF (nC (aP lR (pv 5) gM (aR _)) gM (aM GG hr1 rfl DG.mg DG.F.kp DG.b .nil bh (aa (pv 5) (aa (pv 4) (aa (aG oW (by rfl) T.len cu (aa (pv 3) ak)) ak))))))))),?_⟩
  obtain ⟨xs,hq,pe⟩:=ti.at_
  have pl:=Paired.length pe
  have tl:=ti.ln
  refine ⟨_,rfl,_,rfl,_,rfl,n,m,q,xs,es,rfl,by omega,by omega,m1,m2,aQ.of hq,pe,ti.ok,?_⟩
  refine ⟨_,rfl,_,rfl,_,rfl,_,rfl,n,m,rfl,by omega,fun q1 ys H1 hq1 pb nq1 s1=>?_⟩
  have lb:=Paired.length pb
  rw [kI] at lb
  refine ⟨q,q1,xs,ys,rfl,rfl,s1 _ _ hq,hq1,Nat.le_trans (show xs.length+ys.length≤1000 by omega) (by decide),fun q2 hq2=>?_⟩
  have s2:ao H (upd H1 q2 (.lst (xs++ys))):=s1.trans (ao.new hq2)
  refine ⟨n,q2,xs++ys,gG es n m,rfl,n2,aQ.of aj,Paired.app (a_ (ao.tk (ao.new hq2)) pb) (a_ (ao.tk s2) pe),?_,?_,fun t p1 p2 S st c H2 ht hp en=>?_⟩
  ·unfold gG;rw [List.length_append,kI];omega
  ·intro e he
   rcases List.mem_append.mp he with he|he
   ·exact (ti.ok e he).inT
   ·exact pZ he
  have s3:ao H H2:=s2.trans hp.sm
  refine ⟨t,_,rfl,cA.of ht,rfl,_,_,rfl,_,_,rfl,_,_,rfl,rfl,?_⟩
  rcases en with ⟨rfl,en⟩|⟨v,rfl,en⟩
  ·refine ⟨_,rfl,rfl,_,rfl,jt rfl ?_⟩
   exact k1 _ (m7 (n:=n) en) _ s3
  ·refine ⟨_,rfl,rfl,_,rfl,eG rfl ?_⟩
   obtain ⟨kv,a1,a2,a3⟩:=hp.k1
   obtain ⟨kw,b1,b2,b3⟩:=hp.k2
   refine ⟨_,rfl,_,rfl,_,rfl,p1,kv,rfl,a1,v,p2,n+1,gG es n m,S,kw,by rw [a3];rfl,by omega,b1,b2,en,fun a ys rs H' ha py R hR lr na s4=>?_⟩
   exact k2 a ys rs H' ha py R hR lr (s3.free na) (s3.trans s4)
end
end Cm
namespace Cm
open PySem L2 PySem.W PySem.SeqAt
def lG (e:cg):PyData:=.tuple [.int e.1,.int e.2.1,.int e.2.2]
theorem mR {K:Frag} {H:Hp} {x:V} {e:cg} (h:bD H x e):Rep K H x (lG e):=by
 obtain ⟨b,rfl,hb⟩:=h
 exact .tup (cA.of hb) (.cons (.int _) (.cons (.int _) (.cons (.int _) .nil)))
theorem Gd (e t:cg):dY (lG e) (lG t)=decide (e=t):=by
 obtain ⟨a,b,c⟩:=e
 obtain ⟨x,y,z⟩:=t
 simp only [lG,dY,cQ,Bool.and_true]
 rw [Bool.eq_iff_iff]
 simp only [Bool.and_eq_true,beq_iff_eq,decide_eq_true_eq,Prod.mk.injEq]
def eT (H:Hp) (e:cg):Value->Bool
 | .ref b=>match H b with
   |some (.tup [.int i,.int j,.int l])=>decide ((i,j,l)=e)
   |_=>false
 |_=>false
theorem Df {H:Hp} {e t:cg} {v:V} {u:Value} (h:bD H v t) (r:RelV v u):eT H e u=decide (t=e):=by
 obtain ⟨b,rfl,hb⟩:=h
 cases (show u=Value.ref b from r)
 simp only [eT,hb]
def Dv (K:Frag):R2:=fun x y H Q=>∃ b xs es e,y=.ref b/\aQ K H b xs/\Paired (bD H) xs es/\bD H x e/\Q (.bl (decide (e∈es))) H
theorem rG {H:Hp} {w:Value}:∀ {xs:List V} {es:List cg} {its:List Value},Paired (bD H) xs es->Vals xs its->w∈its->∃ x e,e∈es/\bD H x e/\RelV x w
 | _,_,_,.cons h t,.cons r rs,m=>by
   rcases List.mem_cons.mp m with rfl|m
   ·exact ⟨_,_,List.mem_cons_self,h,r⟩
   ·obtain ⟨x,e,h1,h2,h3⟩:=rG t rs m
    exact ⟨x,e,List.mem_cons_of_mem _ h1,h2,h3⟩
 |_,_,_,.nil,.nil,m=>by simp at m
theorem rQ {H:Hp} {e:cg}:∀ {xs:List V} {es:List cg} {its:List Value},Paired (bD H) xs es->Vals xs its->its.any (eT H e)=decide (e∈es)
 |_,_,_,.nil,.nil=>by simp
 | _,_,_,.cons h t,.cons r rs=>by
   rw [List.any_cons,Df h r,rQ t rs,Bool.eq_iff_iff]
   simp only [Bool.or_eq_true,decide_eq_true_eq,List.mem_cons]
   exact ⟨fun z=>z.imp Eq.symm id,fun z=>z.imp Eq.symm id⟩
theorem zT {X:Cx} (hu:X.A.units+64<cLine):jy X (compareOp .In) (Dv X.K):=by
 intro Z s O H x y v u Q I rx ry h
 obtain ⟨b,xs,es,e,rfl,hq,pe,hx,q⟩:=h
 cases (show u=Value.ref b from ry)
 obtain ⟨its,r,pl,hz⟩:=I.list hq
 refine SeqAt.in_listAt (eT H e) pl.isList (fun w hw=>?_) ⟨.bl _,H,I,rfl,?_⟩
 ·obtain ⟨x',t,_,h1,h2⟩:=rG pe r (by simpa using hw)
  rw [Df h1 h2,← Gd]
  refine Cy I (mR h1) (mR hx) h2 rx ?_
  show X.A.units+1+dm (lG t)<cLine
  simp [lG,dm,bH]
  omega
 ·rw [show its.toArray.any (eT H e)=its.any (eT H e) by simp,rQ pe r]
  exact q
section
variable {P:Program} {w:World} {K:Frag} {mg:Str->Option Value} {base:Heap}
end
end Cm
namespace Cm
open PySem L2 PySem.W
theorem Bo {es:List cg} {n:Nat} {m:Int} {e:cg}:e∈gG es n m↔e∈es∨e∈lg n m:=List.mem_append
theorem EY {n i:Nat} {m:Int} (h:i<n):loT i∈lg n m:=List.mem_append_left _ (List.mem_map.mpr ⟨i,List.mem_range.mpr h,rfl⟩)
theorem Ex {n i:Nat} {m:Int} (h:i<n):hiT m i∈lg n m:=List.mem_append_right _ (List.mem_map.mpr ⟨i,List.mem_range.mpr h,rfl⟩)
theorem nW {n:Nat} {m:Int} {e:cg} (h:e∈lg n m):∃ i,i<n/\(e=loT i∨e=hiT m i):=by
 rcases List.mem_append.mp h with h|h
 ·obtain ⟨i,hi,rfl⟩:=List.mem_map.mp h
  exact ⟨i,List.mem_range.mp hi,.inl rfl⟩
 ·obtain ⟨i,hi,rfl⟩:=List.mem_map.mp h
  exact ⟨i,List.mem_range.mp hi,.inr rfl⟩
theorem yS {n:Nat} {m:Int} {g:Int->Int} (h:∀ e∈lg n m,Bf.Sat g e) {i:Nat} (hi:i<n):g (-1)≤g i/\g i≤g (-1)+m:=by
 have h1:g (-1)+0≤g i:=h _ (EY hi)
 have h2:g i+(0-m)≤g (-1):=h _ (Ex hi)
 omega
theorem ground {es:List cg} {n:Nat} {m:Int} {h:Int->Int} (ok:∀ e∈es,fY n e) (L:Bf.j9 (gG es n m) h):h (-1)=0:=by
 have hb:∀ e∈lg n m,Bf.Sat h e:=fun e he=>L.sat e (Bo.mpr (.inr he))
 have h1:=L.le (fun v=>if -1≤v/\v<n then h v-h (-1) else h v) (fun v=>?_) (fun e he=>?_) (-1)
 ·have h2:=L.nn (-1)
  rw [if_pos ⟨by omega,by omega⟩] at h1
  omega
 ·by_cases q:-1≤v/\v<n
  ·rw [if_pos q]
   by_cases q2:v=-1
   ·rw [q2];omega
   ·obtain ⟨i,rfl⟩:=Int.eq_ofNat_of_zero_le (show 0≤v by omega)
    have:=yS hb (i:=i) (by omega)
    omega
  ·rw [if_neg q];exact L.nn v
 ·have hs:=L.sat e he
  have it:uR n e:=by
   rcases Bo.mp he with he|he
   ·exact (ok e he).inT
   ·exact pZ he
  unfold Bf.Sat at hs ⊢
  show (if -1≤e.2.1/\e.2.1<n then h e.2.1-h (-1) else h e.2.1)+e.2.2≤(if -1≤e.1/\e.1<n then h e.1-h (-1) else h e.1)
  rw [if_pos it.o,if_pos it.t]
  omega
def Ka (n:Nat) (all:List cg) (H:Hp) (v:V):Option (Int->Int)->Prop
 |none=>v=.non/\Bf.m_ all
 |some h=>∃ a,v=.ref a/\H a=some (.lst (xQ n h))/\Bf.j9 all h
theorem jj {K:Frag} {H:Hp}:∀ ns:List Int,cN K H (ns.map V.int) (ns.map PyData.int)
 |[]=>.nil
 |n::r=>.cons (.int n) (jj r)
theorem Bv {K:Frag} {n:Nat} {q:Addr} {m:Int} {es:List cg} {H:Hp} {Q:VK} {E:XK} (n1:1≤n) (n2:n≤6) (m1:0≤m) (m2:m≤1000000000000) (ti:jZ K H q n es) (k:∀ v W H',Ka n (gG es n m) H' v W->ao H H'->Q v H'):FQ K [.int n,.ref q,.int m] H Q E:=
 ⟨n,q,m,es,rfl,n1,n2,m1,m2,ti,fun h L a H' ha na s=>k (.ref a) (some h) H' ⟨a,rfl,ha,L⟩ s,fun B H' s=>k .non none H' ⟨rfl,B⟩ s⟩
def inB (m:Int) (ns:List Int):Bool:=ns.all fun a=>decide (0≤a) && decide (a≤m)
def zN (ns:List Int) (e:cg):Bool:=decide (ns.getD e.2.1.toNat 0+e.2.2≤ns.getD e.1.toNat 0)
def lQ (es:List cg) (ns:List Int) (m:Int):Bool:=inB m ns && es.all (zN ns)
def NB (K:Frag):TG:=Ah K 3 (jF (aU 0) (jF (aU 1) (jF (aU 2) As)))
section
variable {P:Program} {w:World} {K:Frag} {mg:Str->Option Value} {base:Heap}
def Ie (K:Frag):Sp:=fun vs H Q _=>∃ (q r:Addr) (xs:List V) (es:List cg) (ns:List Int) (m:Int),vs=[.ref q,.ref r,.int m]/\aQ K H q xs/\Paired (bD H) xs es/\(∀ e∈es,fY ns.length e)/\aQ K H r (ns.map V.int)/\xs.length≤1000/\ns.length≤1000/\
 ∀ H',ao H H'->Q (.bl (lQ es ns m)) H'
theorem Mw:aW ["_law_ties","_law_row","_law_top"] ["_law_ties","_law_row","_law_top"] (au (top 33)):=⟨rfl,rfl,rfl,by decide +kernel,rfl,by decide +kernel,by decide +kernel⟩
theorem _root_.L2.bQ.ixL {K:Frag} {H:Hp} {a:Addr} {xs:List V} {i:Int} {v:V} (h:aQ K H a xs) (e:mJ xs i=some v):bQ (fj K) (.ref a) (.int i) H v:=fun Q q=>.inl ⟨a,xs,i,v,rfl,rfl,h,e,q⟩
theorem iQ {ns:List Int} {i:Int} (h0:0≤i) (h1:i<ns.length):mJ (ns.map V.int) i=some (.int (ns.getD i.toNat 0)):=by
 obtain ⟨j,rfl⟩:=Int.eq_ofNat_of_zero_le h0
 have hj:j<ns.length:=by omega
 refine aL (j:=j) ?_
 rw [List.getElem?_map,List.getElem?_eq_getElem hj]
 simp [hj]
theorem Je {f:Addr} {fd:FuncData} (F:gA K "_law_meets" "_law_meets" (top 33) f fd) (T:Txt K mg):aN P w K mg base cJ 1 f fd ["_law_ties","_law_row","_law_top"] (Ie K):=by
 refine F.ok Mw (fun vs H Q E h=>?_) (fun cdv A outer s H vs Q E hr h=>?_)
 ·obtain ⟨q,r,xs,es,ns,m,rfl,_⟩:=h
  rfl
 ·obtain ⟨q,r,xs,es,ns,m,rfl,hq,pe,ok,hrw,xl,nl,k⟩:=h
  refine ⟨_,(aq
   (bW (bV (fu (aG (iw rfl) (by rfl) T.all mY (aa (cG (g:=aU 0) (own:=["_law_amount"]) (js:=[2]) (N':=["_law_amount","_law_top"]) (aJ.of (osc:=au (top 33)) (N:=["_law_ties","_law_row","_law_top"]) rfl rfl ⟨rfl,by decide +kernel,by decide +kernel,by decide +kernel,rfl,by decide +kernel⟩) rfl (cD (pv 1)) (fun _ _ _ _ _=>(aD (i:=0) (show List.Nodup (["_law_amount","_law_top"]:List Str) by decide +kernel) rfl (Or.inl rfl) (Or.inr rfl))) (fun _ _ _ _ _=>bN) (fun _ _ _ _ _=>yh cR cR az (pv 0) (pv 1))) ak)))) (aB (bF rT)) bc)
   (aB (bF (aG (iw rfl) (by rfl) T.all mY (aa (cG (g:=NB K) (own:=["_law_one","_law_other","_law_least"]) (js:=[1]) (N':=["_law_one","_law_other","_law_least","_law_row"]) (aJ.of (osc:=au (top 33)) (N:=["_law_ties","_law_row","_law_top"]) rfl rfl ⟨rfl,by decide +kernel,by decide +kernel,by decide +kernel,rfl,by decide +kernel⟩) rfl (cD (pv 0))
    (fun _ _ _ _ _=>(eQ rfl (aK (aD (i:=0) (show List.Nodup (["_law_one","_law_other","_law_least","_law_row"]:List Str) by decide +kernel) rfl (Or.inl rfl) (Or.inr rfl)) (aK (aD (i:=1) (show List.Nodup (["_law_one","_law_other","_law_least","_law_row"]:List Str) by decide +kernel) rfl (Or.inl rfl) (Or.inr rfl)) (aK (aD (i:=2) (show List.Nodup (["_law_one","_law_other","_law_least","_law_row"]:List Str) by decide +kernel) rfl (Or.inl rfl) (Or.inr rfl)) dD))))) (fun _ _ _ _ _=>bN)
    (fun _ _ _ _ _=>dI Ck (aY (r:=fj K) aV (pv 3) (pv 0) (fun _ _=>rfl)) (bj c7 (aY (r:=fj K) aV (pv 3) (pv 1) (fun _ _=>rfl)) (pv 2)) (aR _))) ak))))),?_⟩
  have tl:=Paired.length pe
  refine ⟨_,rfl,r,rfl,⟨_,hrw⟩,?_⟩
  refine d7 (K:=K) (a:=r) (xs:=ns.map V.int) (fun i ys σ' H'=>H'=H/\(∃ v,σ'=[v,some (.int m)])/\ys=((ns.take i).map fun a=>V.bl (decide (0≤a) && decide (a≤m)))) (by rw [List.length_map];exact Nat.le_trans nl (by decide)) ⟨rfl,⟨none,rfl⟩,rfl⟩ (fun i ys O H' _ e=>by rw [e.1];exact hrw) ?_ ?_
  ·rintro i x ys σ' H' hi hy ⟨rfl,⟨v,rfl⟩,rfl⟩ N hN
   rw [List.getElem?_map] at hi
   obtain ⟨a,ha,rfl⟩:=Option.map_eq_some_iff.mp hi
   dsimp only [aU]
   refine aH.chain aH.con (aH.var rfl) (aH.var rfl) bQ.i0 bQ.i0 _ ?_
   exact hN _ _ _ (by rw [List.length_append,hy];rfl) ⟨rfl,⟨_,rfl⟩,by rw [List.take_add_one,ha,List.map_append];rfl⟩
  ·rintro ys σ' H' hy ⟨rfl,⟨v,rfl⟩,rfl⟩
   have el:ns.take (ns.map V.int).length=ns:=by rw [List.length_map,List.take_length]
   rw [el]
   refine ⟨by rw [List.length_map];exact Nat.le_trans nl (by decide),fun a ha=>?_⟩
   have s1:ao H' (upd H' a (.lst (ns.map fun a=>V.bl (decide (0≤a) && decide (a≤m))))):=ao.new ha
   refine ⟨a,ns.map (fun a=>decide (0≤a) && decide (a≤m)),rfl,aQ.of (by rw [aj,List.map_map];rfl),_,rfl,h_ (fun h=>?_) (fun h=>?_)⟩
   ·have e:lQ es ns m=false:=by
     dsimp only at h
     rw [List.all_map] at h
     unfold lQ
     rw [show inB m ns=false from by simpa [inB] using h]
     rfl
    have:=k _ s1
    rw [e] at this
    exact this
   ·have e:inB m ns=true:=by
     dsimp only at h
     rw [List.all_map] at h
     simpa [inB] using h
    refine ⟨_,rfl,q,rfl,⟨_,s1.seq hq⟩,?_⟩
    refine d7 (K:=K) (a:=q) (xs:=xs) (fun i ys σ' H''=>H''=upd H' a (.lst (ns.map fun a=>V.bl (decide (0≤a) && decide (a≤m))))/\(∃ v1 v2 v3,σ'=[v1,v2,v3,some (.ref r)])/\ys=((es.take i).map fun e=>V.bl (zN ns e))) (Nat.le_trans xl (by decide)) ⟨rfl,⟨none,none,none,rfl⟩,rfl⟩ (fun i ys O H'' _ e=>by rw [e.1];exact s1.seq hq) ?_ ?_
    ·rintro i x ys σ' H'' hi hy ⟨rfl,⟨v1,v2,v3,rfl⟩,rfl⟩ N hN
     obtain ⟨e',he,b,rfl,hb⟩:=cY pe hi
     have o:=ok e' (List.mem_of_getElem? he)
     have hb':=s1 _ _ hb
     refine ⟨b,_,rfl,cA.of hb',rfl,_,_,rfl,_,_,rfl,_,_,rfl,rfl,?_⟩
     refine aH.op (aH.op (aH.var rfl) (aH.var rfl) (bQ.ixL (s1.seq hrw) (iQ o.o.1 o.o.2))) (aH.op (aH.op (aH.var rfl) (aH.var rfl) (bQ.ixL (s1.seq hrw) (iQ o.t.1 o.t.2))) (aH.var rfl) bQ.i0) bQ.i0 _ ?_
     exact hN _ _ _ (by rw [List.length_append,hy];rfl) ⟨rfl,⟨_,_,_,rfl⟩,by rw [List.take_add_one,he,List.map_append];rfl⟩
    ·rintro ys σ' H'' hy ⟨rfl,⟨v1,v2,v3,rfl⟩,rfl⟩
     have el2:es.take xs.length=es:=by rw [tl,List.take_length]
     rw [el2]
     refine ⟨by rw [List.length_map,← tl];exact Nat.le_trans xl (by decide),fun b hb=>?_⟩
     refine ⟨b,es.map (zN ns),rfl,aQ.of (by rw [aj,List.map_map];rfl),?_⟩
     have:=k _ (s1.trans (ao.new (o:=.lst (es.map fun e=>V.bl (zN ns e))) hb))
     unfold lQ at this
     rw [e,Bool.true_and] at this
     dsimp only
     rw [List.all_map]
     exact this
end
def M5 (m:Nat) (r:List Int):List (List Int):=(List.range m).map fun a:Nat=>r++[(a:Int)]
def allR (m:Nat):Nat->List (List Int)
 |0=>[[]]
 |k+1=>(allR m k).flatMap (M5 m)
section
variable {P:Program} {w:World} {K:Frag} {mg:Str->Option Value} {base:Heap}
end
theorem jr {K:Frag} {H:Hp}:∀ {xs:List V} {es:List cg},Paired (bD H) xs es->cN K H xs (es.map lG)
 |_,_,.nil=>.nil
 |_,_,.cons h t=>.cons (mR h) (jr t)
theorem _root_.L2.bQ.ixT {K:Frag} {H:Hp} {a:Addr} {xs:List V} {i:Int} {v:V} (h:cA K H a xs) (e:mJ xs i=some v):bQ (fj K) (.ref a) (.int i) H v:=fun Q q=>.inr (.inl ⟨a,xs,i,v,rfl,rfl,h,e,q⟩)
theorem y_ (es:List cg):bH (es.map lG)≤1:=by
 induction es with
 |nil=>simp [bH]
 | cons f r ih=>
   rw [List.map_cons]
   have:dm (lG f)≤1:=by simp [lG,dm,bH]
   simp only [bH]
   omega
theorem lA {ys:List V} {x:V} (h:ys[ys.length-1]?=some x):mJ ys (-1)=some x:=by
 have hl:ys.length-1<ys.length:=(List.getElem?_eq_some_iff.mp h).1
 unfold mJ CP
 rw [if_neg (by decide),if_pos (by omega)]
 show ys[(-1+(ys.length:Int)).toNat]?=_
 rw [show (-1+(ys.length:Int)).toNat=ys.length-1 by omega]
 exact h
theorem A_ {H:Hp} {ys:List V} {rs:List cg} (pr:Paired (bD H) ys rs) (R:Bf.pU rs) {i:Nat} (hi:i<rs.length):∃ b1 b2 e1 e2,mJ ys (0+(i:Int)-1)=some (.ref b1)/\H b1=some (.tup [.int e1.1,.int e1.2.1,.int e1.2.2])/\mJ ys (0+(i:Int))=some (.ref b2)/\H b2=some (.tup [.int e2.1,.int e2.2.1,.int e2.2.2])/\(e1:cg).2.1=(e2:cg).1:=by
 have yl:=Paired.length pr
 have get:∀ j,j<rs.length->∃ b,ys[j]?=some (.ref b)/\H b=some (.tup [.int (rs.getD j (0,0,0)).1,.int (rs.getD j (0,0,0)).2.1,.int (rs.getD j (0,0,0)).2.2]):=fun j hj=>by
  have hj':j<ys.length:=by omega
  obtain ⟨e,he,b,hb,h⟩:=cY pr (List.getElem?_eq_getElem hj')
  refine ⟨b,by rw [List.getElem?_eq_getElem hj',hb],?_⟩
  rw [List.getD_eq_getElem?_getD,he]
  exact h
 obtain ⟨b2,g2,h2⟩:=get i hi
 have a2:mJ ys (0+(i:Int))=some (.ref b2):=by rw [Int.zero_add];exact aL g2
 cases i with
 | zero=>
   obtain ⟨b1,g1,h1⟩:=get (rs.length-1) (by omega)
   refine ⟨b1,b2,_,_,?_,h1,a2,h2,R.close⟩
   exact lA (by rw [yl];exact g1)
 | succ i=>
   obtain ⟨b1,g1,h1⟩:=get i (by omega)
   refine ⟨b1,b2,_,_,?_,h1,a2,h2,R.link i (by omega)⟩
   rw [show (0+((i+1:Nat):Int)-1)=(i:Int) by omega]
   exact aL g1
section
variable {P:Program} {w:World} {K:Frag} {mg:Str->Option Value} {base:Heap}
def HR (K:Frag):Sp:=fun vs H Q _=>∃ (a q:Addr) (n:Nat) (m:Int) (ys xs:List V) (rs es:List cg),vs=[.ref a,.int n,.ref q,.int m]/\H a=some (.lst ys)/\Paired (bD H) ys rs/\Bf.pU rs/\(∀ e∈rs,e∈gG es n m)/\aQ K H q xs/\Paired (bD H) xs es/\
 rs.length≤10/\(∀ e∈rs,-10000000000000≤e.2.2/\e.2.2≤10000000000000)/\n≤6/\∀ H',ao H H'->Q (.bl true) H'
abbrev NR:List Str:=["_law_ring_told","_law_lanes","_law_ties","_law_top","_law_bounds","_law_ones"]
theorem Fw:aW NR ["_law_ring_told","_law_lanes","_law_ties","_law_top"] (au (top 34)):=⟨rfl,rfl,rfl,by decide +kernel,rfl,by decide +kernel,by decide +kernel⟩
theorem Jv {f:Addr} {fd:FuncData} (F:gA K "_law_is_ring" "_law_is_ring" (top 34) f fd) (T:Txt K mg) (hset:mg "set" = none) (hsum:mg "sum" = none):aN P w K mg base cJ 6 f fd ["_law_ring_told","_law_lanes","_law_ties","_law_top"] (HR K):=by
 refine F.ok Fw (fun vs H Q E h=>?_) (fun cdv A outer s H vs Q E hr h=>?_)
 ·obtain ⟨a,q,n,m,ys,xs,rs,es,rfl,_⟩:=h
  rfl
 ·obtain ⟨a,q,n,m,ys,xs,rs,es,rfl,ha,pr,R,hin,hq,pe,rl,rb,hn,k⟩:=h
  refine ⟨_,(aq
 (bW (PW.pt (dX (bV (fu (aG cL (by rfl) T.isinstance aZ (aa (pv 0) (aa (eZ rfl T.list ji) ak))))) (dN (aP (oA hr.units) (pv 0) (bK ak) (aR _))))) (aB (bF rT)) bc)
 (aq
 (bf (i:=4) Fw.nd rfl (Or.inr rfl) (bj jK (cG (g:=aU 0) (own:=["_law_lane"]) (js:=[]) (N':=["_law_lane"]) (aJ.of (osc:=au (top 34)) (N:=NR) rfl rfl ⟨rfl,by decide +kernel,by decide +kernel,by decide +kernel,rfl,by decide +kernel⟩) rfl (bJ rfl T.range (aa (pv 1) ak)) (fun _ _ _ _ _=>(aD (i:=0) (show List.Nodup (["_law_lane"]:List Str) by decide +kernel) rfl (Or.inl rfl) (Or.inr rfl))) (fun _ _ _ _ _=>bN) (fun _ _ _ _ _=>(cz (aa (pv 0) (aa (iV gZ az) (aa az ak))))))
  (cG (g:=aU 0) (own:=["_law_lane"]) (js:=[3]) (N':=["_law_lane","_law_top"]) (aJ.of (osc:=au (top 34)) (N:=NR) rfl rfl ⟨rfl,by decide +kernel,by decide +kernel,by decide +kernel,rfl,by decide +kernel⟩) rfl (bJ rfl T.range (aa (pv 1) ak)) (fun _ _ _ _ _=>(aD (i:=0) (show List.Nodup (["_law_lane","_law_top"]:List Str) by decide +kernel) rfl (Or.inl rfl) (Or.inr rfl))) (fun _ _ _ _ _=>bN) (fun _ _ _ _ _=>(cz (aa (iV gZ az) (aa (pv 0) (aa (bj lK az (pv 1)) ak))))))))
 (aq
 (gU (g:=aU 0) (i:=5) (own:=["_law_tie"]) (js:=[]) (N':=["_law_tie"]) (aJ.of (osc:=au (top 34)) (N:=NR) rfl rfl ⟨rfl,by decide +kernel,by decide +kernel,by decide +kernel,rfl,by decide +kernel⟩) rfl Fw.nd rfl rfl (cD (pv 0)) (fun _ _ _ _ _=>(aD (i:=0) (show List.Nodup (["_law_tie"]:List Str) by decide +kernel) rfl (Or.inl rfl) (Or.inr rfl))) (fun _ _ _ _ _=>bN) (fun _ _ _ _ _=>(aY (r:=fj K) aV (pv 0) az (fun _ _=>rfl))))
 (aq
 (bW (PW.pt (dX (aP gH (aG wU (by rfl) T.len cu (aa (eO (wB rfl) (by rfl) hset xY (aa (pv 5) ak)) ak)) (aG aO (by rfl) T.len cu (aa (pv 5) ak)) (aR _)) (dN (bV (fu (aG (iw rfl) (by rfl) T.all mY (aa (cG (g:=aU 0) (own:=["_law_tie"]) (js:=[2,4]) (N':=["_law_tie","_law_ties","_law_bounds"]) (aJ.of (osc:=au (top 34)) (N:=NR) rfl rfl ⟨rfl,by decide +kernel,by decide +kernel,by decide +kernel,rfl,by decide +kernel⟩) rfl (cD (pv 0)) (fun _ _ _ _ _=>(aD (i:=0) (show List.Nodup (["_law_tie","_law_ties","_law_bounds"]:List Str) by decide +kernel) rfl (Or.inl rfl) (Or.inr rfl))) (fun _ _ _ _ _=>bN) (fun _ _ _ _ _=>(JR (dI (r:=Dv K) (zT hr.units) (pv 0) (pv 1) rfl) (nj (dI (r:=Dv K) (zT hr.units) (pv 0) (pv 2) rfl))))) ak))))))) (aB (bF rT)) bc)
 (aq
 (bW (fu (aG (xN rfl) (by rfl) T.any Ec (aa (cG (g:=aU 0) (own:=["_law_at"]) (js:=[0]) (N':=["_law_at","_law_ring_told"]) (aJ.of (osc:=au (top 34)) (N:=NR) rfl rfl ⟨rfl,by decide +kernel,by decide +kernel,by decide +kernel,rfl,by decide +kernel⟩) rfl (bJ rfl T.range (aa (aG aO (by rfl) T.len cu (aa (pv 0) ak)) ak)) (fun _ _ _ _ _=>(aD (i:=0) (show List.Nodup (["_law_at","_law_ring_told"]:List Str) by decide +kernel) rfl (Or.inl rfl) (Or.inr rfl))) (fun _ _ _ _ _=>bN) (fun _ _ _ _ _=>(dI lB (aY (r:=fj K) aV (aY (r:=fj K) aV (pv 1) (bj lK (pv 0) az) (fun _ _=>rfl)) az (fun _ _=>rfl)) (aY (r:=fj K) aV (aY (r:=fj K) aV (pv 1) (pv 0) (fun _ _=>rfl)) az (fun _ _=>rfl)) (aR _)))) ak))) (aB (bF rT)) bc)
 (aB
 (bF (lU (dI uE (aG (vD rfl) (by rfl) hsum Ek (aa (cG (g:=aU 0) (own:=["_law_tie"]) (js:=[]) (N':=["_law_tie"]) (aJ.of (osc:=au (top 34)) (N:=NR) rfl rfl ⟨rfl,by decide +kernel,by decide +kernel,by decide +kernel,rfl,by decide +kernel⟩) rfl (cD (pv 0)) (fun _ _ _ _ _=>(aD (i:=0) (show List.Nodup (["_law_tie"]:List Str) by decide +kernel) rfl (Or.inl rfl) (Or.inr rfl))) (fun _ _ _ _ _=>bN) (fun _ _ _ _ _=>(aY (r:=fj K) aV (pv 0) az (fun _ _=>rfl)))) ak)) az (aR _)) (nj (aG (iw rfl) (by rfl) T.all mY (aa (cG (g:=aU 0) (own:=["_law_tie"]) (js:=[]) (N':=["_law_tie"]) (aJ.of (osc:=au (top 34)) (N:=NR) rfl rfl ⟨rfl,by decide +kernel,by decide +kernel,by decide +kernel,rfl,by decide +kernel⟩) rfl (cD (pv 0)) (fun _ _ _ _ _=>(aD (i:=0) (show List.Nodup (["_law_tie"]:List Str) by decide +kernel) rfl (Or.inl rfl) (Or.inr rfl))) (fun _ _ _ _ _=>bN) (fun _ _ _ _ _=>(aG (r:=Hj K) cL (by rfl) T.isinstance aZ (aa (pv 0) (aa (eZ rfl T.tuple kj) ak))))) ak))))))))))),?_⟩
  have z0:0≤sizeLine:=by decide
  have z3:3≤sizeLine:=by decide
  have yl:=Paired.length pr
  refine bU (fun σ' H'=>σ'=[some (.ref a),some (.int n),some (.ref q),some (.int m),none,none]/\ao H H') ?nx1 fun N hN=>?st1
  case st1=>
   have rp:Rep K H (.ref a) (.list (rs.map lG)):=.lst (aQ.of ha) (jr pr)
   refine ⟨_,rfl,.ref a,"list",_,true,rfl,rp,rfl,_,rfl,eG rfl ?_⟩
   refine ⟨_,rfl,z0,fun p0 hp0=>?_⟩
   have s1:ao H (upd H p0 (.lst [])):=ao.new hp0
   have rp1:Rep K (upd H p0 (.lst [])) (.ref a) (.list (rs.map lG)):=.lst (aQ.of (s1 _ _ ha)) (jr (a_ (ao.tk s1) pr))
   refine ⟨_,.list [],rp1,.lst (aQ.of aj) .nil,?_,_,rfl,eG ?_ (hN _ _ ⟨rfl,s1⟩)⟩
   ·have:=y_ rs
    simp only [dm];omega
   ·cases rs with
    |nil=>exact absurd rfl R.ne
    |cons e t=>rfl
  rintro σ' H1 ⟨rfl,s1⟩
  refine bU (fun σ' H'=>∃ c bs,σ'=[some (.ref a),some (.int n),some (.ref q),some (.int m),some (.ref c),none]/\H' c=some (.lst bs)/\Paired (bD H') bs (lg n m)/\ao H H') ?nx2 fun N hN=>?st2
  case st2=>
   refine ⟨_,rfl,_,rfl,by omega,by omega,?_⟩
   refine dC (n:=n) (fun i ys σ' H'=>∃ v,σ'=[v]/\ao H1 H'/\Paired (bD H') ys ((List.range i).map loT)) (Nat.le_trans hn (by decide)) ⟨none,rfl,ao.refl _,.nil⟩ ?_ ?_
   ·rintro i ys σ' H' hi hys ⟨v,rfl,s2,pe2⟩ N2 hN2
    refine ⟨_,rfl,_,rfl,z3,fun p hp=>?_⟩
    refine hN2 _ _ _ (by simp [hys]) ⟨_,rfl,s2.trans (ao.new hp),?_⟩
    rw [List.range_succ,List.map_append]
    refine Paired.snoc ⟨p,rfl,?_⟩ (a_ (ao.tk (ao.new hp)) pe2)
    rw [aj,Int.zero_add];rfl
   ·rintro ys' σ' H2 hys ⟨v,rfl,s2,pe2⟩
    have ly:=Paired.length pe2
    rw [List.length_map,List.length_range] at ly
    refine ⟨Nat.le_trans (Nat.le_of_eq ly) (Nat.le_trans hn (by decide)),fun q1 hq1=>?_⟩
    refine ⟨_,rfl,_,rfl,by omega,by omega,?_⟩
    refine dC (n:=n) (fun i zs σ' H'=>∃ v,σ'=[v,some (.int m)]/\ao (upd H2 q1 (.lst ys')) H'/\Paired (bD H') zs ((List.range i).map (hiT m))) (Nat.le_trans hn (by decide)) ⟨none,rfl,ao.refl _,.nil⟩ ?_ ?_
    ·rintro i zs σ' H' hi hzs ⟨v,rfl,s3,pz⟩ N2 hN2
     refine ⟨_,rfl,_,rfl,_,rfl,_,_,rfl,rfl,z3,fun p hp=>?_⟩
     refine hN2 _ _ _ (by simp [hzs]) ⟨_,rfl,s3.trans (ao.new hp),?_⟩
     rw [List.range_succ,List.map_append]
     refine Paired.snoc ⟨p,rfl,?_⟩ (a_ (ao.tk (ao.new hp)) pz)
     rw [aj,Int.zero_add];rfl
    ·rintro zs σ' H3 hzs ⟨v,rfl,s3,pz⟩
     have lz:=Paired.length pz
     rw [List.length_map,List.length_range] at lz
     refine ⟨Nat.le_trans (Nat.le_of_eq lz) (Nat.le_trans hn (by decide)),fun q2 hq2=>?_⟩
     refine ⟨q1,q2,ys',zs,rfl,rfl,ao.new hq2 _ _ (s3 _ _ aj),aj,Nat.le_trans (by omega:ys'.length+zs.length≤200) (by decide),fun q3 hq3=>?_⟩
     have s5:=s3.trans ((ao.new (o:=.lst zs) hq2).trans (ao.new (o:=.lst (ys'++zs)) hq3))
     refine hN _ _ ⟨q3,_,rfl,aj,Paired.app (a_ (ao.tk ((ao.new hq2).trans (ao.new hq3))) pz) (a_ (ao.tk ((ao.new hq1).trans s5)) pe2),s1.trans (s2.trans ((ao.new hq1).trans s5))⟩
  rintro σ' H2 ⟨c,bs,rfl,hc,pb,s2⟩
  clear s1 H1
  have ha2:=s2 _ _ ha
  have pr2:=a_ (ao.tk s2) pr
  have hq2:=s2.seq hq
  have pe2:=a_ (ao.tk s2) pe
  have ln:ys.length≤10:=by omega
  refine bU (fun σ' H'=>∃ d,σ'=[some (.ref a),some (.int n),some (.ref q),some (.int m),some (.ref c),some (.ref d)]/\H' d=some (.lst ((rs.map (·.1)).map V.int))/\ao H2 H') ?nx3 fun N hN=>?st3
  case st3=>
   refine ⟨_,rfl,a,rfl,⟨_,aQ.of ha2⟩,?_⟩
   refine d7 (K:=K) (a:=a) (xs:=ys) (fun i zs σ' H'=>H'=H2/\(∃ v,σ'=[v])/\zs=((rs.take i).map fun e=>V.int e.1)) (Nat.le_trans ln (by decide)) ⟨rfl,⟨none,rfl⟩,rfl⟩ (fun i zs O H' _ e=>by rw [e.1];exact aQ.of ha2) ?_ ?_
   ·rintro i x zs σ' H' hi hy ⟨rfl,⟨v,rfl⟩,rfl⟩ N2 hN2
    obtain ⟨e,he,b,rfl,hb⟩:=cY pr2 hi
    dsimp only [aU]
    refine aH.op (aH.var rfl) aH.con (bQ.ixT (cA.of hb) (aL (j:=0) rfl)) _ ?_
    exact hN2 _ _ _ (by rw [List.length_append,hy];rfl) ⟨rfl,⟨_,rfl⟩,by rw [List.take_add_one,he,List.map_append];rfl⟩
   ·rintro zs σ' H' hy ⟨rfl,⟨v,rfl⟩,rfl⟩
    have el:rs.take ys.length=rs:=by rw [yl,List.take_length]
    rw [el]
    refine ⟨by rw [List.length_map];exact Nat.le_trans rl (by decide),fun d hd=>hN _ _ ⟨d,rfl,by rw [aj,List.map_map];rfl,ao.new hd⟩⟩
  rintro σ' H3 ⟨d,rfl,hd,s3⟩
  have S3:=s2.trans s3
  have ha3:=S3 _ _ ha
  have pr3:=a_ (ao.tk S3) pr
  have hq3:=S3.seq hq
  have pe3:=a_ (ao.tk S3) pe
  have hc3:=s3 _ _ hc
  have pb3:=a_ (ao.tk s3) pb
  clear ha2 pr2 hq2 pe2 hc pb s3 s2 H2
  refine bU (fun σ' H'=>σ'=[some (.ref a),some (.int n),some (.ref q),some (.int m),some (.ref c),some (.ref d)]/\ao H H') ?nx4 fun N hN=>?st4
  case st4=>
   refine ⟨_,rfl,d,rs.map (·.1),rfl,aQ.of hd,R.nd,by rw [List.length_map];omega,fun e4 he4=>?_⟩
   have s4:ao H3 (upd H3 e4 (ue P w e4 (rs.map (·.1)).length)):=ao.new he4
   refine ⟨e4,_,rfl,aj,_,rfl,d,_,rfl,.inl (aQ.of (s4 _ _ hd)),_,_,rfl,rfl,_,rfl,eG (by simp) ?_⟩
   refine ⟨_,rfl,a,rfl,⟨_,aQ.of (s4 _ _ ha3)⟩,?_⟩
   refine d7 (K:=K) (a:=a) (xs:=ys) (fun i zs σ' H'=>H'=upd H3 e4 (ue P w e4 (rs.map (·.1)).length)/\(∃ v,σ'=[v,some (.ref q),some (.ref c)])/\zs=((rs.take i).map fun _=>V.bl true)) (Nat.le_trans ln (by decide)) ⟨rfl,⟨none,rfl⟩,rfl⟩ (fun i zs O H' _ e=>by rw [e.1];exact aQ.of (s4 _ _ ha3)) ?_ ?_
   ·rintro i x zs σ' H' hi hy ⟨rfl,⟨v,rfl⟩,rfl⟩ N2 hN2
    obtain ⟨e,he,b,rfl,hb⟩:=cY pr3 hi
    have ti:bD (upd H3 e4 (ue P w e4 (rs.map (·.1)).length)) (.ref b) e:=⟨b,rfl,s4 _ _ hb⟩
    have fin:∀ x,x=V.bl true->N2 (((rs.take i).map fun _=>V.bl true)++[x]) [some (.ref b),some (.ref q),some (.ref c)] (upd H3 e4 (ue P w e4 (rs.map (·.1)).length)):=by
     rintro x rfl
     exact hN2 _ _ _ (by rw [List.length_append,hy];rfl) ⟨rfl,⟨_,rfl⟩,by rw [List.take_add_one,he,List.map_append];rfl⟩
    refine ⟨_,rfl,_,rfl,q,xs,es,e,rfl,s4.seq hq3,a_ (ao.tk s4) pe3,ti,_,rfl,h_ (fun _=>fin _ rfl) (fun hne=>?_)⟩
    have hb':e∈lg n m:=by
     rcases List.mem_append.mp (hin e (List.mem_of_getElem? he)) with h|h
     ·exact absurd (decide_eq_true h) hne
     ·exact h
    exact ⟨_,rfl,_,rfl,c,bs,_,e,rfl,aQ.of (s4 _ _ hc3),a_ (ao.tk s4) pb3,ti,fin _ (by rw [decide_eq_true hb'])⟩
   ·rintro zs σ' H' hy ⟨rfl,⟨v,rfl⟩,rfl⟩
    refine ⟨by rw [hy];exact Nat.le_trans ln (by decide),fun b hb=>?_⟩
    refine ⟨b,(rs.take ys.length).map fun _=>true,rfl,aQ.of (by rw [aj,List.map_map];rfl),_,rfl,eG ?_ (hN _ _ ⟨rfl,S3.trans (s4.trans (ao.new hb))⟩)⟩
    dsimp only
    rw [List.all_map]
    simp
  rintro σ' H4 ⟨rfl,S4⟩
  clear ha3 pr3 hq3 pe3 hc3 pb3 hd S3 H3
  have ha4:=S4 _ _ ha
  have pr4:=a_ (ao.tk S4) pr
  refine bU (fun σ' H'=>σ'=[some (.ref a),some (.int n),some (.ref q),some (.int m),some (.ref c),some (.ref d)]/\ao H H') ?nx5 fun N hN=>?st5
  case st5=>
   refine ⟨_,rfl,a,_,rfl,.inl (aQ.of ha4),_,rfl,by omega,by omega,?_⟩
   refine dC (n:=ys.length) (fun i zs σ' H'=>(∃ v,σ'=[v,some (.ref a)])/\H4=H'/\zs=(List.replicate i (V.bl false))) (Nat.le_trans ln (by decide)) ⟨⟨none,rfl⟩,rfl,rfl⟩ ?_ ?_
   ·rintro i zs σ' H' hi hzs ⟨⟨v,rfl⟩,rfl,rfl⟩ N2 hN2
    obtain ⟨b1,b2,e1,e2,a1,g1,a2,g2,ee⟩:=A_ pr4 R (i:=i) (by omega)
    dsimp only [aU]
    refine aH.op (aH.op (aH.op (aH.var rfl) (aH.op (aH.var rfl) aH.con bQ.i0) (bQ.ixL (aQ.of ha4) a1)) aH.con (bQ.ixT (cA.of g1) (aL (j:=1) rfl))) (aH.op (aH.op (aH.var rfl) (aH.var rfl) (bQ.ixL (aQ.of ha4) a2)) aH.con (bQ.ixT (cA.of g2) (aL (j:=0) rfl))) (bQ.ne rfl) _ ?_
    refine hN2 _ _ _ (by rw [List.length_append,hzs];rfl) ⟨⟨_,rfl⟩,rfl,?_⟩
    rw [List.replicate_succ',ee]
    simp
   ·rintro zs σ' H' hzs ⟨⟨v,rfl⟩,rfl,rfl⟩
    refine ⟨by rw [List.length_replicate];exact Nat.le_trans ln (by decide),fun b hb=>?_⟩
    refine ⟨b,List.replicate ys.length false,rfl,aQ.of (by rw [aj,List.map_replicate]),_,rfl,eG ?_ (hN _ _ ⟨rfl,S4.trans (ao.new hb)⟩)⟩
    dsimp only
    rw [List.any_eq_false]
    intro x hx
    rw [List.eq_of_mem_replicate hx]
    decide
  rintro σ' H5 ⟨rfl,S5⟩
  have ha5:=S5 _ _ ha
  have pr5:=a_ (ao.tk S5) pr
  clear ha4 pr4 S4 H4
  refine ⟨_,rfl,a,rfl,⟨_,aQ.of ha5⟩,?_⟩
  refine d7 (K:=K) (a:=a) (xs:=ys) (fun i zs σ' H'=>H'=H5/\(∃ v,σ'=[v])/\zs=((rs.take i).map fun e=>V.int e.2.2)) (Nat.le_trans ln (by decide)) ⟨rfl,⟨none,rfl⟩,rfl⟩ (fun i zs O H' _ e=>by rw [e.1];exact aQ.of ha5) ?_ ?_
  ·rintro i x zs σ' H' hi hy ⟨rfl,⟨v,rfl⟩,rfl⟩ N2 hN2
   obtain ⟨e,he,b,rfl,hb⟩:=cY pr5 hi
   dsimp only [aU]
   refine aH.op (aH.var rfl) aH.con (bQ.ixT (cA.of hb) (aL (j:=2) rfl)) _ ?_
   exact hN2 _ _ _ (by rw [List.length_append,hy];rfl) ⟨rfl,⟨_,rfl⟩,by rw [List.take_add_one,he,List.map_append];rfl⟩
  ·rintro zs σ' H' hy ⟨rfl,⟨v,rfl⟩,rfl⟩
   have el:rs.take ys.length=rs:=by rw [yl,List.take_length]
   rw [el]
   refine ⟨by rw [List.length_map];exact Nat.le_trans rl (by decide),fun b hb=>?_⟩
   have s6:ao H' (upd H' b (.lst (rs.map fun e=>V.int e.2.2))):=ao.new hb
   refine ⟨b,rs.map (·.2.2),rfl,aQ.of (by rw [aj,List.map_map];rfl),by rw [List.length_map];omega,?_,_,_,rfl,rfl,_,rfl,jt (by simpa using R.pos) ?_⟩
   ·intro x hx
    obtain ⟨e,he,rfl⟩:=List.mem_map.mp hx
    exact rb e he
   refine ⟨_,rfl,a,rfl,⟨_,aQ.of (s6 _ _ ha5)⟩,?_⟩
   refine d7 (K:=K) (a:=a) (xs:=ys) (fun i zs σ' H''=>H''=upd H' b (.lst (rs.map fun e=>V.int e.2.2))/\(∃ v,σ'=[v])/\zs=((rs.take i).map fun _=>V.bl true)) (Nat.le_trans ln (by decide)) ⟨rfl,⟨none,rfl⟩,rfl⟩ (fun i zs O H'' _ e=>by rw [e.1];exact aQ.of (s6 _ _ ha5)) ?_ ?_
   ·rintro i x zs σ' H'' hi hy ⟨rfl,⟨v,rfl⟩,rfl⟩ N2 hN2
    obtain ⟨e,he,b',rfl,hb'⟩:=cY pr5 hi
    have rp:Rep K (upd H' b (.lst (rs.map fun e=>V.int e.2.2))) (.ref b') (lG e):=mR ⟨b',rfl,s6 _ _ hb'⟩
    refine ⟨_,rfl,.ref b',"tuple",_,true,rfl,rp,rfl,?_⟩
    exact hN2 _ _ _ (by rw [List.length_append,hy];rfl) ⟨rfl,⟨_,rfl⟩,by rw [List.take_add_one,he,List.map_append];rfl⟩
   ·rintro zs σ' H'' hy ⟨rfl,⟨v,rfl⟩,rfl⟩
    refine ⟨by rw [hy];exact Nat.le_trans ln (by decide),fun b' hb'=>?_⟩
    refine ⟨b',(rs.take ys.length).map fun _=>true,rfl,aQ.of (by rw [aj,List.map_map];rfl),?_⟩
    dsimp only
    rw [List.all_map]
    have:=k _ (S5.trans (s6.trans (ao.new (o:=.lst ((rs.take ys.length).map fun _=>V.bl true)) hb')))
    have et:((rs.take ys.length).all (id ∘ fun _=>true))=true:=List.all_eq_true.mpr fun _ _=>rfl
    rw [et]
    exact this
end
def rowOf (n:Nat) (h:Int->Int):List Int:=(List.range n).map fun i:Nat=>h i
theorem iH {n:Nat} {h:Int->Int} {i:Nat} (hi:i<n):(rowOf n h).getD i 0=h i:=by
 unfold rowOf
 rw [List.getD_eq_getElem?_getD,List.getElem?_map,List.getElem?_range hi]
 rfl
theorem zL {m:Nat} {h:Int->Int}:∀ n:Nat,(∀ i:Nat,i<n->0≤h i/\h i<m)->rowOf n h∈allR m n
 |0,_=>by simp [rowOf,allR]
 | n+1,b=>by
   refine List.mem_flatMap.mpr ⟨rowOf n h,zL n fun i hi=>b i (by omega),?_⟩
   have hb:=b n (Nat.lt_succ_self n)
   refine List.mem_map.mpr ⟨(h n).toNat,List.mem_range.mpr (by omega),?_⟩
   unfold rowOf
   rw [List.range_succ,List.map_append,Int.toNat_of_nonneg hb.1]
   rfl
theorem vI {es:List cg} {n t:Nat} {h:Int->Int} (ok:∀ e∈es,fY n e) (L:Bf.j9 (gG es n t) h):rowOf n h∈allR (t+1) n/\lQ es (rowOf n h) t=true:=by
 have g0:=ground ok L
 have bd:∀ i:Nat,i<n->0≤h i/\h i≤t:=fun i hi=>by
  have h1:=L.nn i
  have h2:=L.sat (hiT t i) (List.mem_append.mpr (.inr (List.mem_append.mpr (.inr (List.mem_map.mpr ⟨i,List.mem_range.mpr hi,rfl⟩)))))
  have h3:h (i:Int)+(0-(t:Int))≤h (-1):=h2
  omega
 refine ⟨zL n fun i hi=>by have:=bd i hi;omega,?_⟩
 unfold lQ
 rw [Bool.and_eq_true,List.all_eq_true]
 constructor
 ·unfold inB
  rw [List.all_eq_true]
  intro x hx
  obtain ⟨i,hi,rfl⟩:=List.mem_map.mp hx
  have:=bd i (List.mem_range.mp hi)
  simp [this.1,this.2]
 ·intro e he
  have o:=ok e he
  have h2:h e.2.1+e.2.2≤h e.1:=L.sat e (List.mem_append.mpr (.inl he))
  unfold zN
  have o1:=o.o
  have o2:=o.t
  have e1:(rowOf n h).getD e.1.toNat 0=h e.1:=by rw [iH (by omega),Int.toNat_of_nonneg o1.1]
  have e2:(rowOf n h).getD e.2.1.toNat 0=h e.2.1:=by rw [iH (by omega),Int.toNat_of_nonneg o2.1]
  rw [decide_eq_true_eq,e1,e2]
  exact h2
def uA:List Value->List Value->List Value
 |[a,b],[c]=>[a,b,c]
 |_,_=>[]
def nZ:List V->List V->List V
 |[a,b],[c]=>[a,b,c]
 |_,_=>[]
section
variable {P:Program} {w:World} {K:Frag} {mg:Str->Option Value} {base:Heap}
theorem Fb {x:Str} {st:Stmt} {f:Addr} {fd:FuncData} (F:gA K x x st f fd) (h:∀ (kV doc pm:Value) (an:Option Addr) (cdv ct a b c:Value),bindArgs (fnOf x x (bx st) (bu st) (au st) .none kV doc pm an cdv ct) ⟨[a,b],[("most",c)]⟩=pure (([("lanes" : Str),"ties","most"]:List Str).zip [a,b,c])) :
 lZ K fd ["lanes","ties","most"] ["most"] uA nZ:=by
 obtain ⟨oc,od,kV,doc,pm,an,cdv,ct,osl,rfl,lk,hcd⟩:=F.ex
 refine ⟨fun s us ws X hl=>?_,fun {vs us zs ws} r rz=>?_⟩
 ·match us,ws,hl with
  |[a,b],[c],_=>exact .of_eq (h kV doc pm an cdv ct a b c)
  |[],_,z=>simp [uA] at z
  |[_],_,z=>simp [uA] at z
  |[_,_],[],z=>simp [uA] at z
  |[_,_],_::_::_,z=>simp [uA] at z
  |_::_::_::_,_,z=>simp [uA] at z
 ·cases r with
  |nil=>exact .nil
  | cons r1 r=>
    cases r with
    |nil=>exact .nil
    | cons r2 r=>
      cases r with
      |cons r3 r=>exact .nil
      | nil=>
        cases rz with
        |nil=>exact .nil
        | cons z1 z=>
          cases z with
          |cons z2 z=>exact .nil
          |nil=>exact .cons r1 (.cons r2 (.cons z1 .nil))
end
theorem BR {es:List cg} {n:Nat} {m:Int} (m0:0≤m) (m1:m≤1000000000000) (ok:∀ e∈es,fY n e):∀ e∈gG es n m,-10000000000000≤e.2.2/\e.2.2≤10000000000000:=fun e he=>by
 rcases Bo.mp he with he|he
 ·have:=(ok e he).l
  omega
 ·obtain ⟨i,hi,rfl|rfl⟩:=nW he
  ·show -10000000000000≤(0:Int)/\(0:Int)≤10000000000000
   omega
  ·show -10000000000000≤0-m/\0-m≤10000000000000
   omega
theorem yo (r:List Int):bH (r.map PyData.int)=0:=by
 induction r with
 |nil=>rfl
 |cons x r ih=>rw [List.map_cons];simp [bH,dm,ih]
def tgt (ns bs:List Int) (e:cg):Bool:=decide (e.2.1∈bs) && decide (ns.getD e.1.toNat 0=ns.getD e.2.1.toNat 0+e.2.2)
def fJ (ns:List Int) (es:List cg) (bs:List Int):List Int:=(es.filter (tgt ns bs)).map (·.1)
structure Br (n:Nat) (ns:List Int) (es:List cg) (i:Nat) (bs:List Int):Prop where
 inr:∀ x∈bs,0≤x/\x<n
 nd:bs.Nodup
 up:bs.Pairwise (·≤·)
 zero:∀ j:Nat,j<n->ns.getD j 0=0->(j:Int)∈bs
 go:(∀ e∈es,tgt ns bs e=true->e.1∈bs)∨i≤bs.length
theorem Br.len {n:Nat} {ns:List Int} {es:List cg} {i:Nat} {bs:List Int} (B:Br n ns es i bs):bs.length≤n:=Bf.gk n 0 bs B.nd fun x hx=>by have:=B.inr x hx;omega
theorem Br.next {n:Nat} {ns:List Int} {es:List cg} {i:Nat} {bs ms:List Int} (B:Br n ns es i bs) (ok:∀ e∈es,fY n e) (hp:ms.Perm (dd (bs++fJ ns es bs))) (hs:ms.Pairwise (·≤·)):Br n ns es (i+1) ms:=by
 have mm:∀ x,x∈ms↔x∈bs∨∃ e∈es,tgt ns bs e=true/\e.1=x:=fun x=>by
  rw [hp.mem_iff,FT,List.mem_append]
  unfold fJ
  rw [List.mem_map]
  simp only [List.mem_filter,and_assoc]
 have nd:ms.Nodup:=hp.nodup_iff.mpr (z8 _)
 refine ⟨fun x hx=>?_,nd,hs,fun j hj z=>(mm _).mpr (.inl (B.zero j hj z)),?_⟩
 ·rcases (mm x).mp hx with h|⟨e,he,_,rfl⟩
  ·exact B.inr x h
  ·exact (ok e he).o
 ·by_cases c:∀ e∈es,tgt ns bs e=true->e.1∈bs
  ·have mb:∀ x,x∈ms↔x∈bs:=fun x=>by
    rw [mm]
    exact ⟨fun h=>h.elim id fun ⟨e,he,t,q⟩=>q ▸ c e he t,.inl⟩
   refine .inl fun e he t=>(mb _).mpr (c e he ?_)
   unfold tgt at t ⊢
   simpa only [mb] using t
  ·refine .inr ?_
   have c':∃ e∈es,tgt ns bs e=true/\e.1∉bs:=Classical.byContradiction fun z=>c fun e he t=>Classical.byContradiction fun q=>z ⟨e,he,t,q⟩
   obtain ⟨e,he,t,q⟩:=c'
   have l1:i≤bs.length:=B.go.resolve_left c
   have l2:=List.Nodup.length_le_of_subset (l₁:=e.1::bs) (l₂:=ms) (List.nodup_cons.mpr ⟨q,B.nd⟩) fun x hx=>by
    rcases List.mem_cons.mp hx with rfl|hx
    ·exact (mm _).mpr (.inr ⟨e,he,t,rfl⟩)
    ·exact (mm _).mpr (.inl hx)
   rw [List.length_cons] at l2
   omega
theorem Br.all {n:Nat} {m:Int} {es:List cg} {bs:List Int} {h:Int->Int} (B:Br n (rowOf n h) es n bs) (ok:∀ e∈es,fY n e) (L:Bf.j9 (gG es n m) h):∀ j:Nat,j<n->(j:Int)∈bs:=by
 have gr:=ground ok L
 have ro:∀ x:Int,0≤x->x<n->(rowOf n h).getD x.toNat 0=h x:=fun x h0 h1=>by
  rw [iH (by omega)]
  congr 1
  omega
 intro j hj
 refine Classical.byContradiction fun hn=>?_
 rcases B.go with c|c
 ·have:=L.le (fun v=>if 0≤v/\v<n/\v∉bs then h v-1 else h v) (fun v=>?_) (fun e he=>?_) j
  ·rw [if_pos ⟨by omega,by omega,hn⟩] at this
   omega
  ·split
   ·rename_i q
    have h0:=L.nn v
    have:h v≠0:=fun z=>q.2.2 (by
     have:=B.zero v.toNat (by omega) (by rw [ro v q.1 q.2.1];exact z)
     rwa [Int.toNat_of_nonneg q.1] at this)
    omega
   ·exact L.nn v
  ·have hs:=L.sat e he
   unfold Bf.Sat at hs ⊢
   dsimp only
   have le:∀ v:Int,(if 0≤v/\v<n/\v∉bs then h v-1 else h v)≤h v:=fun v=>by split <;> omega
   by_cases q:0≤e.1/\e.1<n/\e.1∉bs
   ·rw [if_pos q]
    rcases Bo.mp he with he|he
    ·have o:=ok e he
     by_cases q2:e.2.1∈bs
     ·rw [if_neg (fun z=>z.2.2 q2)]
      have:h e.1≠h e.2.1+e.2.2:=fun z=>q.2.2 (c e he (by
       unfold tgt
       rw [ro _ o.o.1 o.o.2,ro _ o.t.1 o.t.2]
       simp [q2,z]))
      omega
     ·rw [if_pos ⟨o.t.1,o.t.2,q2⟩]
      omega
    ·obtain ⟨i,hi,rfl|rfl⟩:=nW he
     ·rw [show (loT i).2.1=-1 from rfl,show (loT i).2.2=0 from rfl,show (loT i).1=(i:Int) from rfl,if_neg (by omega)]
      simp only [loT] at q
      have:h i≠0:=fun z=>q.2.2 (B.zero i hi (by rw [iH hi];exact z))
      have:=L.nn i
      omega
     ·simp only [hiT] at q
      omega
   ·rw [if_neg q]
    have:=le e.2.1
    omega
 ·have:=Bf.gk n 0 ((j:Int)::bs) (List.nodup_cons.mpr ⟨hn,B.nd⟩) fun x hx=>by
   rcases List.mem_cons.mp hx with rfl|hx
   ·omega
   ·have:=B.inr x hx;omega
  rw [List.length_cons] at this
  omega
theorem Br.whole {n:Nat} {m:Int} {es:List cg} {bs:List Int} {h:Int->Int} (B:Br n (rowOf n h) es n bs) (ok:∀ e∈es,fY n e) (L:Bf.j9 (gG es n m) h):bs=(List.range n).map fun i:Nat=>(i:Int):=by
 refine List.Perm.eq_of_pairwise (le:=(·≤·)) (fun a b _ _=>Int.le_antisymm) B.up ?_ ?_
 ·rw [List.pairwise_map]
  exact List.Pairwise.imp (fun h=>by omega) List.pairwise_lt_range
 ·refine (List.perm_ext_iff_of_nodup B.nd ?_).mpr fun x=>⟨fun hx=>?_,fun hx=>?_⟩
  ·rw [List.Nodup,List.pairwise_map]
   exact List.Pairwise.imp (fun h=>by omega) List.pairwise_lt_range
  ·have:=B.inr x hx
   exact List.mem_map.mpr ⟨x.toNat,List.mem_range.mpr (by omega),by omega⟩
  ·obtain ⟨j,hj,rfl⟩:=List.mem_map.mp hx
   exact B.all ok L j (List.mem_range.mp hj)
section
variable {P:Program} {w:World} {K:Frag} {mg:Str->Option Value} {base:Heap}
def Jm (K:Frag):Sp:=fun vs H Q _=>∃ (r q:Addr) (n:Nat) (m:Int) (xs:List V) (es:List cg) (h:Int->Int),vs=[.ref r,.ref q]/\aQ K H r ((rowOf n h).map V.int)/\aQ K H q xs/\Paired (bD H) xs es/\(∀ e∈es,fY n e)/\Bf.j9 (gG es n m) h/\n≤6/\es.length≤16/\∀ H',ao H H'->Q (.bl true) H'
abbrev Lb:List Str:=["_law_row","_law_ties","_law_borne_here","_law_step","_law_tight"]
theorem yQ:aW Lb ["_law_row","_law_ties"] (au (top 35)):=⟨rfl,rfl,rfl,by decide +kernel,rfl,by decide +kernel,by decide +kernel⟩
theorem wA (ns:List Int):(ns.map V.int).all jC=true:=by rw [List.all_map];simp [jC]
theorem vA (x:Int) (ns:List Int):inV (.int x) (ns.map V.int)=decide (x∈ns):=by
 unfold inV
 rw [List.any_map]
 have e:((fun y=>Ac y (V.int x)) ∘ V.int)=fun y=>decide (x=y):=by
  funext y
  show (y == x)=decide (x=y)
  rw [Bool.eq_iff_iff]
  simp only [beq_iff_eq,decide_eq_true_eq]
  exact eq_comm
 rw [e]
 induction ns with
 |nil=>rfl
 |cons a r ih=>simp only [List.any_cons,ih,List.mem_cons];simp
theorem HY {f:Addr} {fd:FuncData} (F:gA K "_law_borne" "_law_borne" (top 35) f fd) (T:Txt K mg) (hset:mg "set" = none) (hso:mg "sorted" = none):aN P w K mg base cJ 1 f fd ["_law_row","_law_ties"] (Jm K):=by
 refine F.ok yQ (fun vs H Q E h=>?_) (fun cdv A outer s H vs Q E hr h=>?_)
 ·obtain ⟨r,q,n,m,xs,es,h,rfl,_⟩:=h
  rfl
 ·obtain ⟨r,q,n,m,xs,es,h,rfl,hR,hq,pe,ok,L,n6,el,k⟩:=h
  refine ⟨_,(aq
   (bf (i:=2) yQ.nd rfl (by first|exact Or.inl rfl|exact Or.inr rfl) (cG (g:=aU 0) (own:=["_law_lane"]) (js:=[0]) (N':=["_law_lane","_law_row"]) (aJ.of (osc:=au (top 35)) (N:=Lb) rfl rfl ⟨rfl,by decide +kernel,by decide +kernel,by decide +kernel,rfl,by decide +kernel⟩) rfl (bJ rfl T.range (aa (aG aO (by rfl) T.len cu (aa (pv 0) ak)) ak)) (fun _ _ _ _ _=>(aD (i:=0) (show List.Nodup (["_law_lane","_law_row"]:List Str) by decide +kernel) rfl (Or.inl rfl) (Or.inr rfl)))
    (fun _ _ _ _ _=>iC (aP eY (aY (r:=fj K) aV (pv 1) (pv 0) (fun _ _=>rfl)) az (aR _))) (fun _ _ _ _ _=>pv 0)))
   (aq
   (dw PassesOwn.never rfl (bJ rfl T.range (aa (aG aO (by rfl) T.len cu (aa (pv 0) ak)) ak)) (aD (i:=3) yQ.nd rfl (by first|exact Or.inl rfl|exact Or.inr rfl)) (aq
    (gU (g:=NB K) (i:=4) (own:=["_law_one","_law_other","_law_least"]) (js:=[2,0]) (N':=["_law_one","_law_other","_law_least","_law_borne_here","_law_row"]) (aJ.of (osc:=au (top 35)) (N:=Lb) rfl rfl ⟨rfl,by decide +kernel,by decide +kernel,by decide +kernel,rfl,by decide +kernel⟩) rfl yQ.nd rfl rfl (cD (pv 1))
     (fun _ _ _ _ _=>(eQ rfl (aK (aD (i:=0) (show List.Nodup (["_law_one","_law_other","_law_least","_law_borne_here","_law_row"]:List Str) by decide +kernel) rfl (Or.inl rfl) (Or.inr rfl)) (aK (aD (i:=1) (show List.Nodup (["_law_one","_law_other","_law_least","_law_borne_here","_law_row"]:List Str) by decide +kernel) rfl (Or.inl rfl) (Or.inr rfl)) (aK (aD (i:=2) (show List.Nodup (["_law_one","_law_other","_law_least","_law_borne_here","_law_row"]:List Str) by decide +kernel) rfl (Or.inl rfl) (Or.inr rfl)) dD)))))
     (fun _ _ _ _ _=>iC (PW.pt (tu (aP (r:=NQ K false) v_ (pv 1) (pv 3) rfl) (qp (aP eY (aY (r:=fj K) aV (pv 4) (pv 0) (fun _ _=>rfl)) (bj c7 (aY (r:=fj K) aV (pv 4) (pv 1) (fun _ _=>rfl)) (pv 2)) (aR _)))))) (fun _ _ _ _ _=>pv 0))
    (aB (bf (i:=2) yQ.nd rfl (by first|exact Or.inl rfl|exact Or.inr rfl) (aG (qe rfl) (by rfl) hso pg (aa (eO (vL rfl) (by rfl) hset xY (aa (bj jK (pv 2) (pv 4)) ak)) ak))))))
   (aB (bF (dI (r:=Eo K) (oA hr.units) (pv 2) (eO (ux rfl) (by rfl) T.list ji (aa (eO qT (by rfl) T.range zj (aa (aG aO (by rfl) T.len cu (aa (pv 0) ak)) ak)) ak)) (aR _)))))),?_⟩
  have rl:(rowOf n h).length=n:=by unfold rowOf;simp
  have tl:=Paired.length pe
  generalize eR:rowOf n h=ns at hR rl
  refine bU (fun σ' H'=>∃ b bs,σ'=[some (.ref r),some (.ref q),some (.ref b),none,none]/\ao H H'/\H' b=some (.lst (bs.map V.int))/\Br n ns es 0 bs) ?nx1 fun N hN=>?st1
  case st1=>
   refine ⟨_,rfl,r,_,rfl,.inl hR,?_⟩
   rw [List.length_map,rl]
   refine ⟨_,rfl,by omega,by omega,?_⟩
   rw [Int.toNat_natCast]
   refine rD (lo:=0) (n:=n) (fun i ys σ' H'=>(∃ v,σ'=[v,some (.ref r)])/\H'=H/\ys=((((List.range i).filter fun j=>decide (ns.getD j 0=0)).map fun j:Nat=>(j:Int)).map V.int)) (Nat.le_trans n6 (by decide)) ⟨⟨none,rfl⟩,rfl,rfl⟩ ?_ ?_
   ·rintro i ys σ' H' hi ⟨⟨v,rfl⟩,rfl,rfl⟩ M hM
    dsimp only [aU]
    refine aH.op (aH.op (aH.var rfl) (aH.var rfl) (bQ.ixL hR (iQ (by omega) (by omega)))) aH.con (bQ.eq rfl) _ ⟨_,rfl,?_⟩
    rw [Int.zero_add,Int.toNat_natCast]
    refine h_ (fun z=>?_) (fun z=>?_)
    ·refine ⟨_,rfl,hM _ _ _ ⟨⟨_,rfl⟩,rfl,?_⟩ (by simp)⟩
     have z':ns.getD i 0=0:=by simpa using z
     rw [List.range_succ,List.filter_append,List.map_append,List.map_append,List.filter_cons_of_pos (by simpa using z')]
     rfl
    ·refine hM _ _ _ ⟨⟨_,rfl⟩,rfl,?_⟩ (by omega)
     have z':¬ ns.getD i 0=0:=by simpa using z
     rw [List.range_succ,List.filter_append,List.filter_cons_of_neg (by simpa using z')]
     simp
   ·rintro ys σ' H' hy ⟨⟨v,rfl⟩,rfl,rfl⟩
    refine ⟨Nat.le_trans (Nat.le_trans hy n6) (by decide),fun l hl=>?_⟩
    refine hN _ _ ⟨l,_,rfl,ao.new hl,aj,⟨fun x hx=>?_,?_,?_,fun j hj z=>?_,.inr (Nat.zero_le _)⟩⟩
    ·obtain ⟨j,hj,rfl⟩:=List.mem_map.mp hx
     have:=List.mem_range.mp (List.mem_filter.mp hj).1
     omega
    ·rw [List.Nodup,List.pairwise_map]
     exact List.Pairwise.imp (fun h=>by omega) (List.pairwise_lt_range.filter _)
    ·rw [List.pairwise_map]
     exact List.Pairwise.imp (fun h=>by omega) (List.pairwise_lt_range.filter _)
    ·exact List.mem_map.mpr ⟨j,List.mem_filter.mpr ⟨List.mem_range.mpr hj,by simpa using z⟩,rfl⟩
  rintro σ' H1 ⟨b,bs,rfl,s1,hb,B⟩
  refine ⟨_,rfl,r,_,rfl,.inl (s1.seq hR),?_⟩
  rw [List.length_map,rl]
  refine ⟨_,rfl,by omega,by omega,dG (n:=n) (fun i σ' H'=>∃ b bs v3 v4,σ'=[some (.ref r),some (.ref q),some (.ref b),v3,v4]/\ao H H'/\H' b=some (.lst (bs.map V.int))/\Br n ns es i bs) ⟨b,bs,_,_,rfl,s1,hb,B⟩ ?_ ?_⟩
  ·rintro i σ' H2 hi ⟨b,bs,v3,v4,rfl,s2,hb,B⟩
   dsimp only [aU]
   refine bU (fun σ' H'=>∃ t,σ'=[some (.ref r),some (.ref q),some (.ref b),some (.int (0+i)),some (.ref t)]/\ao H2 H'/\H' t=some (.lst ((fJ ns es bs).map V.int))) ?nx2 fun N hN=>?st2
   case st2=>
    have hq2:=s2.seq hq
    have pe2:=a_ (ao.tk s2) pe
    have hR2:=s2.seq hR
    refine ⟨_,rfl,q,rfl,⟨_,hq2⟩,?_⟩
    refine iR (K:=K) (a:=q) (xs:=xs) (fun j ys σ' H'=>H'=H2/\(∃ v0 v1 v2,σ'=[v0,v1,v2,some (.ref b),some (.ref r)])/\ys=(fJ ns (es.take j) bs).map V.int) (Nat.le_trans (show xs.length≤16 by omega) (by decide)) ⟨rfl,⟨none,none,none,rfl⟩,rfl⟩ (fun j ys O H' _ e=>by rw [e.1];exact hq2) ?_ ?_
    ·rintro j x ys σ' H' hj ⟨rfl,⟨v0,v1,v2,rfl⟩,rfl⟩ M hM
     obtain ⟨e,he,b',rfl,hb'⟩:=cY pe2 hj
     have o:=ok e (List.mem_of_getElem? he)
     have et:fJ ns (es.take (j+1)) bs=fJ ns (es.take j) bs++(if tgt ns bs e=true then [e.1] else []):=by
      unfold fJ
      rw [List.take_succ,he,List.filter_append,List.map_append]
      congr 1
      by_cases z:tgt ns bs e=true
      ·simp [z]
      ·simp [z]
     refine ⟨b',_,rfl,cA.of hb',rfl,_,_,rfl,_,_,rfl,_,_,rfl,rfl,?_⟩
     refine ⟨_,rfl,_,rfl,b,bs.map V.int,rfl,.inl (aQ.of hb),rfl,wA bs,_,rfl,?_⟩
     refine h_ (fun z=>?_) (fun z=>?_)
     ·have z':e.2.1∈bs:=by
       have z2:inV (.int e.2.1) (bs.map V.int)=true:=z
       rw [vA] at z2
       exact of_decide_eq_true z2
      refine aH.op (aH.op (aH.var rfl) (aH.var rfl) (bQ.ixL hR2 (iQ o.o.1 (by rw [rl];exact o.o.2)))) (aH.op (aH.op (aH.var rfl) (aH.var rfl) (bQ.ixL hR2 (iQ o.t.1 (by rw [rl];exact o.t.2)))) (aH.var rfl) bQ.i0) (bQ.eq rfl) _ ⟨_,rfl,h_ (fun z2=>?_) (fun z2=>?_)⟩
      ·have t1:tgt ns bs e=true:=by
        unfold tgt
        simpa [z'] using z2
       refine ⟨_,rfl,hM _ _ _ ⟨rfl,⟨_,_,_,rfl⟩,?_⟩ (by simp)⟩
       rw [et,if_pos t1,List.map_append]
       rfl
      ·have t1:¬ tgt ns bs e=true:=by
        unfold tgt
        simpa [z'] using z2
       refine hM _ _ _ ⟨rfl,⟨_,_,_,rfl⟩,?_⟩ (by omega)
       rw [et,if_neg t1,List.append_nil]
     ·have t1:¬ tgt ns bs e=true:=by
       have z2:inV (.int e.2.1) (bs.map V.int)=false:=Bool.eq_false_iff.mpr z
       rw [vA] at z2
       unfold tgt
       rw [z2]
       simp
      refine eG rfl (hM _ _ _ ⟨rfl,⟨_,_,_,rfl⟩,?_⟩ (by omega))
      rw [et,if_neg t1,List.append_nil]
    ·rintro ys σ' H' hy ⟨rfl,⟨v0,v1,v2,rfl⟩,rfl⟩
     rw [tl,List.take_length]
     refine ⟨by rw [tl,List.take_length] at hy;exact Nat.le_trans (Nat.le_trans hy el) (by decide),fun l hl=>?_⟩
     exact hN _ _ ⟨l,rfl,ao.new hl,aj⟩
   rintro σ' H3 ⟨t,rfl,s3,ht⟩
   have hb3:=s3 _ _ hb
   have hts:(fJ ns es bs).length≤16:=by unfold fJ;rw [List.length_map];exact Nat.le_trans (List.length_filter_le _ _) el
   have hbs:=B.len
   refine ⟨_,rfl,_,rfl,b,t,_,_,rfl,rfl,hb3,ht,?_,fun p hp=>⟨p,bs++fJ ns es bs,rfl,aQ.of (by rw [aj,List.map_append]),?_,fun a ha=>⟨a,_,rfl,aj,?_,fun ms l hpm hs hl=>?_⟩⟩⟩
   ·rw [List.length_map,List.length_map]
    exact Nat.le_trans (show bs.length+(fJ ns es bs).length≤22 by omega) (by decide)
   ·rw [List.length_append];omega
   ·have:=ym (bs++fJ ns es bs)
    rw [List.length_append] at this
    omega
   ·exact ⟨l,ms,_,_,rfl,((s2.trans s3).trans (ao.new hp)).trans ((ao.new ha).trans (ao.new hl)),aj,B.next ok hpm hs⟩
  ·rintro σ' H2 ⟨b,bs,v3,v4,rfl,s2,hb,B⟩
   subst eR
   have eb:=B.whole ok L
   refine ⟨_,rfl,_,rfl,r,_,rfl,.inl (s2.seq hR),?_⟩
   rw [List.length_map,rl]
   refine ⟨n,rfl,fun a ha=>⟨a,n,rfl,aj,by omega,fun l hl=>?_⟩⟩
   have s3:=(ao.new (o:=Bk a n) ha).trans (ao.new (o:=.lst ((List.range n).map fun i:Nat=>V.int i)) hl)
   refine ⟨.list (bs.map PyData.int),.list (bs.map PyData.int),.lst (aQ.of (s3 _ _ hb)) (jj _),.lst (aQ.of (xs:=bs.map V.int) (by rw [aj,eb,List.map_map];rfl)) (jj _),?_,?_⟩
   ·show bH (bs.map PyData.int)+1≤60
    rw [yo]
    decide
   ·have e1:dY (.list (bs.map PyData.int)) (.list (bs.map PyData.int))=true:=by
     show cQ _ _=true
     clear eb hb B
     induction bs with
     |nil=>rfl
     |cons x r ih=>simp [cQ,dY,ih]
    rw [e1]
    exact k _ (s2.trans s3)
end
structure oE where
 a:Int
 t:Int
 b:Int
 u:Int
structure Aa (n:Int) (c:oE):Prop where
 a:0≤c.a/\c.a<n
 b:0≤c.b/\c.b<n
 ne:c.a≠c.b
 t:0≤c.t/\c.t<999999
 u:0≤c.u/\c.u<999999
def gK (H:Hp) (x:V) (c:oE):Prop:=∃ p,x=.ref p/\H p=some (.tup [.int c.a,.int c.t,.int c.b,.int c.u])
def fD (c:oE):cg:=(c.b,c.a,c.t-c.u+1)
theorem du {α β:Type} {R S:α->β->Prop} (f:∀ x y,R x y->S x y):∀ {xs:List α} {ys:List β},Paired R xs ys->Paired S xs ys
 |_,_,.nil=>.nil
 |_,_,.cons a t=>.cons (f _ _ a) (du f t)
theorem cO {α β:Type} {R:α->β->Prop}:∀ {xs:List α} {ys:List β} {i:Nat} {x:α},Paired R xs ys->xs[i]?=some x->∃ y,ys[i]?=some y/\R x y
 |_,_,0,_,.cons h _,e=>⟨_,rfl,by cases e;exact h⟩
 |_,_,i+1,_,.cons _ t,e=>cO (i:=i) t (by simpa using e)
 |_,_,i,_,.nil,e=>by simp at e
theorem gq {H H':Hp} {xs:List V} {cs:List oE} (s:ao H H') (h:Paired (gK H) xs cs):Paired (gK H') xs cs:=du (fun _ _ ⟨p,e,z⟩=>⟨p,e,s _ _ z⟩) h
theorem uV {n:Int} (hn:n≤6) {c:oE} (o:Aa n c):fY n (fD c):=⟨o.b,o.a,Ne.symm o.ne,by have:=o.t;have:=o.u;simp only [fD];omega⟩
section
variable {P:Program} {w:World} {K:Frag} {mg:Str->Option Value} {base:Heap}
def J9:Sp:=fun vs H Q _=>∃ c:oE,vs=[.int c.a,.int c.t,.int c.b,.int c.u]/\Aa 6 c/\Q .non H
theorem JL:aW ["lane","time","other","second"] ["lane","time","other","second"] (au (top 23)):=⟨rfl,rfl,rfl,by decide +kernel,rfl,by decide +kernel,by decide +kernel⟩
theorem HJ {f:Addr} {fd:FuncData} (F:gA K "need_cause" "need_cause" (top 23) f fd) (TC:iT mg):aN P w K mg base cJ 1 f fd ["lane","time","other","second"] J9:=by
 refine F.ok JL (fun vs H Q E h=>?_) (fun cdv A outer s H vs Q E hr h=>?_)
 ·obtain ⟨c,rfl,_⟩:=h
  rfl
 ·obtain ⟨c,rfl,o,k⟩:=h
  obtain ⟨t,ml⟩:=TC.ml
  obtain ⟨t',li⟩:=TC.lim
  refine ⟨_,(aq (bW (PW.pt (dX (bV (bR cR gH az (pv 0) (bO (v:=.int 6) rfl ml ⟨_,rfl⟩))) (dX (bV (bR cR gH az (pv 2) (bO (v:=.int 6) rfl ml ⟨_,rfl⟩))) (dN (aP eY (pv 0) (pv 2) (aR _)))))) (aB b_) bc)
   (aB (bW (PW.pt (dX (bV (bR cR gH az (pv 1) (bO (v:=.int 999999) rfl li ⟨_,rfl⟩))) (dN (bV (bR cR gH az (pv 3) (bO (v:=.int 999999) rfl li ⟨_,rfl⟩)))))) (aB b_) bc))),?_⟩
  refine ⟨_,rfl,_,_,rfl,rfl,_,rfl,jt (by simpa using o.a.1) ⟨_,_,rfl,rfl,_,rfl,eG (by simpa using o.a.2) ?_⟩⟩
  refine ⟨_,rfl,_,_,rfl,rfl,_,rfl,jt (by simpa using o.b.1) ⟨_,_,rfl,rfl,_,rfl,eG (by simpa using o.b.2) ?_⟩⟩
  refine ⟨_,rfl,_,rfl,rfl,_,rfl,eG (by simpa using o.ne) ?_⟩
  refine ⟨_,rfl,_,_,rfl,rfl,_,rfl,jt (by simpa using o.t.1) ⟨_,_,rfl,rfl,_,rfl,eG (by simpa using o.t.2) ?_⟩⟩
  exact ⟨_,rfl,_,_,rfl,rfl,_,rfl,jt (by simpa using o.u.1) ⟨_,_,rfl,rfl,_,rfl,eG (by simpa using o.u.2) k⟩⟩
def Em (K:Frag):Sp:=fun vs H Q _=>∃ (q:Addr) (xs:List V) (cs:List oE),vs=[.ref q]/\aQ K H q xs/\Paired (gK H) xs cs/\(∀ c∈cs,Aa 6 c)/\cs.length≤100/\∀ r ys H',H' r=some (.lst ys)->Paired (bD H') ys (cs.map fD)->H r=none->ao H H'->Q (.ref r) H'
abbrev Pu:List Str:=["causes","lane","time","other","second"]
theorem oK:aW Pu ["causes"] (au (top 24)):=⟨rfl,rfl,rfl,by decide +kernel,rfl,by decide +kernel,by decide +kernel⟩
def Pk (K:Frag):TG:=Ah K 4 (jF (aU 0) (jF (aU 1) (jF (aU 2) (jF (aU 3) As))))
theorem Dh {f fN:Addr} {fd fdN:FuncData} (F:gA K "ties_of" "ties_of" (top 24) f fd) (TC:iT mg) (DN:dZ K mg "need_cause" (top 23) ["lane","time","other","second"] fN fdN):aN P w K mg base cJ 2 f fd ["causes"] (Em K):=by
 have GN:aN P w K mg base cJ 1 fN fdN ["lane","time","other","second"] J9:=HJ DN.F TC
 refine F.ok oK (fun vs H Q E h=>?_) (fun cdv A outer s H vs Q E hr h=>?_)
 ·obtain ⟨q,xs,cs,rfl,_⟩:=h
  rfl
 ·obtain ⟨q,xs,cs,rfl,hq,pc,ok,cl,k⟩:=h
  refine ⟨_,(aq (dw PassesOwn.never rfl (cD (pv 0)) (eQ rfl (aK (aD (i:=1) oK.nd rfl (Or.inl rfl)) (aK (aD (i:=2) oK.nd rfl (Or.inl rfl)) (aK (aD (i:=3) oK.nd rfl (Or.inl rfl)) (aK (aD (i:=4) oK.nd rfl (Or.inl rfl)) dD)))))
   (aB (bC (aM GN hr rfl DN.mg DN.F.kp DN.b .nil bh (aa (pv 1) (aa (pv 2) (aa (pv 3) (aa (pv 4) ak))))))))
   (aB (bF (cG (g:=Pk K) (own:=["lane","time","other","second"]) (js:=[]) (N':=["lane","time","other","second"]) (aJ.of (osc:=au (top 24)) (N:=Pu) rfl rfl ⟨rfl,by decide +kernel,by decide +kernel,by decide +kernel,rfl,by decide +kernel⟩) rfl (cD (pv 0))
    (fun _ _ _ _ _=>(eQ rfl (aK (aD (i:=0) (show List.Nodup (["lane","time","other","second"]:List Str) by decide +kernel) rfl (Or.inl rfl) (Or.inr rfl)) (aK (aD (i:=1) (show List.Nodup (["lane","time","other","second"]:List Str) by decide +kernel) rfl (Or.inl rfl) (Or.inr rfl)) (aK (aD (i:=2) (show List.Nodup (["lane","time","other","second"]:List Str) by decide +kernel) rfl (Or.inl rfl) (Or.inr rfl)) (aK (aD (i:=3) (show List.Nodup (["lane","time","other","second"]:List Str) by decide +kernel) rfl (Or.inl rfl) (Or.inr rfl)) dD)))))) (fun _ _ _ _ _=>bN)
    (fun _ _ _ _ _=>cz (aa (pv 2) (aa (pv 0) (aa (bj c7 (bj lK (pv 1) (pv 3)) az) ak)))))))),?_⟩
  have z3:3≤sizeLine:=by decide
  have xl:=Paired.length pc
  refine ⟨_,rfl,q,rfl,⟨_,hq⟩,e_ (K:=K) (a:=q) (xs:=xs) (fun i O H'=>(∃ a b c d,O=[some (.ref q),a,b,c,d])/\H'=H) ⟨⟨none,none,none,none,rfl⟩,rfl⟩ (fun i O H' _ ⟨_,e⟩=>by rw [e];exact hq) ?_ ?_⟩
  ·rintro i x O H' hi ⟨⟨a,b,c,d,rfl⟩,rfl⟩
   obtain ⟨c,hc,b',rfl,hb⟩:=cO pc hi
   refine ⟨b',_,rfl,cA.of hb,rfl,_,_,rfl,_,_,rfl,_,_,rfl,_,_,rfl,rfl,?_⟩
   exact ⟨_,rfl,_,rfl,_,rfl,_,rfl,c,rfl,ok c (List.mem_of_getElem? hc),⟨_,_,_,_,rfl⟩,rfl⟩
  ·rintro O H' ⟨⟨a,b,c,d,rfl⟩,rfl⟩
   refine ⟨_,rfl,q,rfl,⟨_,hq⟩,?_⟩
   refine d7 (K:=K) (a:=q) (xs:=xs) (fun i ys σ' H2=>(∃ v0 v1 v2 v3,σ'=[v0,v1,v2,v3])/\ao H' H2/\Paired (bD H2) ys ((cs.take i).map fD)) (Nat.le_trans (show xs.length≤100 by omega) (by decide)) ⟨⟨none,none,none,none,rfl⟩,ao.refl _,.nil⟩ (fun i ys O H2 _ e=>e.2.1.seq hq) ?_ ?_
   ·rintro i x ys σ' H2 hi hy ⟨⟨v0,v1,v2,v3,rfl⟩,s2,pe⟩ N hN
    obtain ⟨c,hc,b',rfl,hb⟩:=cO (gq s2 pc) hi
    refine ⟨b',_,rfl,cA.of hb,rfl,_,_,rfl,_,_,rfl,_,_,rfl,_,_,rfl,rfl,?_⟩
    refine ⟨_,rfl,_,rfl,_,rfl,_,rfl,_,_,rfl,rfl,_,_,rfl,rfl,z3,fun p hp=>?_⟩
    refine hN _ _ _ (by rw [List.length_append,hy];rfl) ⟨⟨_,_,_,_,rfl⟩,s2.trans (ao.new hp),?_⟩
    rw [List.take_add_one,hc,List.map_append]
    exact Paired.snoc ⟨p,rfl,aj⟩ (a_ (ao.tk (ao.new hp)) pe)
   ·rintro ys σ' H2 hy ⟨⟨v0,v1,v2,v3,rfl⟩,s2,pe⟩
    rw [xl,List.take_length] at pe
    refine ⟨by rw [hy];exact Nat.le_trans (show xs.length≤100 by omega) (by decide),fun r hr'=>?_⟩
    exact k r ys _ aj (a_ (ao.tk (ao.new hr')) pe) (s2.free hr') (s2.trans (ao.new hr'))
end
def Ng:Stmt->Expr
 |.Return (some e) _=>e
 |_=>.Constant .none 0 ⟨0,0,0,0⟩
def Nb:Expr->Expr
 |.Call _ _ (k::_) _=>k.value
 |e=>e
def ii:Expr->Arguments
 |.Lambda p _ _ _=>p
 |_=>{ posonlyargs:=[],args:=[],vararg:=none,kwonlyargs:=[],kw_defaults:=[],kwarg:=none,defaults:=[] }
def jB:Expr->Expr
 |.Lambda _ b _ _=>b
 |e=>e
def cU:Expr->Scope
 |.Lambda _ _ s _=>s
 |_=>{ kind:=.function,names:=[],isGenerator:=false,isCoroutine:=false }
def jY:Expr->Pos
 |.Lambda _ _ _ p=>p
 |_=>⟨0,0,0,0⟩
def Pj:Stmt:=.Pass ⟨0,0,0,0⟩
def xK:Expr:=Nb (Ng ((bu (top 25)).getD 2 Pj))
abbrev qM:Str:="merged.<locals>."++"<lambda>"
abbrev lJ:=V×Option (Int×Int)
def Gn (H:Hp) (x:lJ):Prop:=∃ p,x.1=.ref p/\match x.2 with
 |some it=>∃ rest,H p=some (.tup (.str "event"::.int it.1::.int it.2::rest))
 |none=>∃ k rest,H p=some (.tup (.str k::rest))/\k ≠ "event"
theorem Gn.tk {H H':Hp} {x:lJ} (h:Gn H x) (k:TK H H'):Gn H' x:=by
 obtain ⟨v,o⟩:=x
 obtain ⟨p,e,z⟩:=h
 refine ⟨p,e,?_⟩
 cases o with
 | some it=>
   obtain ⟨rest,z⟩:=z
   exact ⟨rest,k _ _ z⟩
 | none=>
   obtain ⟨s,rest,z,ne⟩:=z
   exact ⟨s,rest,k _ _ z,ne⟩
def Io (H:Hp) (v:V) (r:List lJ):Prop:=∃ a,v=.ref a/\H a=some (.lst (r.map (·.1)))/\∀ x∈r,Gn H x
abbrev t8:=Nat×V×Int×Int
def cX (k:Nat) (r:List lJ):List t8:=r.filterMap fun x=>x.2.map fun it=>(k,x.1,it.1,it.2)
def dF (rs:List (List lJ)) (i:Nat):List t8:=(List.range i).flatMap fun k=>cX k (rs.getD k [])
theorem iD (rs:List (List lJ)) (i:Nat):dF rs (i+1)=dF rs i++cX i (rs.getD i []):=by unfold dF;rw [List.range_succ,List.flatMap_append];simp
def uM (H:Hp) (v:V) (x:t8):Prop:=∃ b,v=.ref b/\H b=some (.tup [.int x.1,x.2.1])
theorem d9 {H H':Hp} (k:TK H H') {vs:List V} {ps:List t8} (h:Paired (uM H) vs ps):Paired (uM H') vs ps:=du (fun _ _ ⟨b,e,z⟩=>⟨b,e,k _ _ z⟩) h
def bB (ns:List Int) (x:t8):j_:=(ns.getD x.1 0+x.2.2.2,x.1,x.2.2.1)
theorem wZ {H H1:Hp} {T c' f':Addr} {lp:Pos} {qual:Str} (lm:wN H T lp qual c' H1) (hf:H1 f'=none) {o:HO}:∀ b u,H b=some u->(∀ qs,u≠.tbl qs)->(upd H1 f' o) b=some u:=fun b u e ne=>by
 have e9:=lm.keep e ne
 rw [aA (aC e9 hf)];exact e9
theorem qD {rs:List (List lJ)} {n:Nat} {x:t8} (h:x∈dF rs n):x.1<n/\(x.2.1,some (x.2.2.1,x.2.2.2))∈rs.getD x.1 []:=by
 unfold dF at h
 obtain ⟨k,hk,h⟩:=List.mem_flatMap.mp h
 unfold cX at h
 obtain ⟨⟨v,o⟩,ht,e⟩:=List.mem_filterMap.mp h
 cases o with
 |none=>simp at e
 | some it=>
   simp only [Option.map_some,Option.some.injEq] at e
   subst e
   exact ⟨List.mem_range.mp hk,ht⟩
theorem vJ {α:Type} {d:α} {l:List α} {o:List Nat} (h:o.Perm (List.range l.length)):(o.map fun i=>l.getD i d).Perm l:=by
 refine (h.map _).trans (List.Perm.of_eq (List.ext_getElem (by simp) fun i q1 q2=>?_))
 simp [q2]
theorem uD {α β:Type} {R:α->β->Prop} {d:α} {e:β} {l:List α} {m:List β} (h:Paired R l m):∀ o:List Nat,(∀ i∈o,i<l.length)->Paired R (o.map fun i=>l.getD i d) (o.map fun i=>m.getD i e)
 |[],_=>.nil
 |i::o,q=>.cons (iY h i (q i (List.mem_cons_self ..))) (uD h o fun j hj=>q j (List.mem_cons_of_mem _ hj))
section
variable {P:Program} {w:World} {K:Frag} {mg:Str->Option Value} {base:Heap}
structure jX (K:Frag) (H:Hp) (q:Addr) (ys:List V) (rs:List (List lJ)):Prop where
 sq:aQ K H q ys
 at_:Paired (Io H) ys rs
 few:rs.length≤6
 sml:∀ r∈rs,r.length≤100
 all:(dF rs rs.length).length<64
 pl:∀ x∈dF rs rs.length,0≤x.2.2.1/\x.2.2.1<1000000
 nd:((dF rs rs.length).map fun x=>(x.1,x.2.2.1)).Nodup
def J4 (K:Frag) (Tt:Addr):Sp:=fun vs H Q _=>∃ (q r:Addr) (ys:List V) (rs:List (List lJ)) (ns:List Int),vs=[.ref q,.ref r]/\jX K H q ys rs/\aQ K H r (ns.map V.int)/\ns.length=rs.length/\g_ H Tt qM [jY xK]/\
 ∀ l vs ps H',ps.Perm (dF rs rs.length)->ps.Pairwise (fun a b=>eN (bB ns a)<eN (bB ns b))->H' l=some (.lst vs)->Paired (uM H') vs ps->H l=none->(∀ b u,H b=some u->((∀ qs,u≠.tbl qs)∨b≠Tt)->H' b=some u)->g_ H' Tt qM [jY xK]->Q (.ref l) H'
abbrev Ls:List Str:=["rows","row","pairs"]
theorem Iu:aW Ls ["rows","row"] (au (top 25)):=⟨rfl,rfl,rfl,by decide +kernel,rfl,by decide +kernel,by decide +kernel⟩
def Pg (n:Nat):List (Str×Addr):=[("row",n+1)]
theorem JN {f c Tt:Addr} {oc kV doc pm ct:Value} {od an:Option Addr} {osl:Array (Option Value)}
 (lk:K.lookup f=some ⟨oc,od,.func (fnOf "merged" "merged" (bx (top 25)) (bu (top 25)) (au (top 25)) .none kV doc pm an (.ref c) ct),osl⟩) (hcd:codeIn K (.ref c) "merged" = true)
 (HT:CodeHd base c Tt) (HB:base.BuiltinsAt mg Tt) (HG:mainGlobals≠Tt) (T:Txt K mg) (hso:mg "sorted" = none) (hen:mg "enumerate" = none) :
 aN P w K mg base cJ 4 f (fnOf "merged" "merged" (bx (top 25)) (bu (top 25)) (au (top 25)) .none kV doc pm an (.ref c) ct) ["rows","row"] (J4 K Tt):=by
 refine rN lk hcd Iu (fun vs H Q E h=>?_) (fun A outer s H vs Q E hr h=>?_)
 ·obtain ⟨q,r,ys,rs,ns,rfl,_⟩:=h
  rfl
 ·obtain ⟨q,r,ys,rs,ns,rfl,R,hr',nl,tb,k⟩:=h
  have CT:mL (iU cJ P w K mg base Ls "merged" (au (top 25)) f (.ref c) A outer s H E) c Tt:=⟨rfl,HT,HB,HG⟩
  have h1:∀ q∈Pg s.heap.objs.size,(PyProof.Rows.envOfC "merged" (au (top 25)) s.heap.objs.size f (.ref c)).cells.lookup q.1=some q.2:=by
   intro q hq
   cases List.mem_singleton.mp hq
   rfl
  have hrr:bL (0+1) (A.deeper (PyProof.Rows.envOfC "merged" (au (top 25)) s.heap.objs.size f (.ref c))).in1.in1:=hr.in1.in1
  refine ⟨_,(aq (bW (aP lB (aG aO (by rfl) T.len cu (aa (pv 1) ak)) (aG aO (by rfl) T.len cu (aa (pv 0) ak)) (aR _)) (aB b_) bc)
   (aq (qO (g:=Ah K 2 (jF (aU 0) (jF (aU 1) As))) (g2:=aU 2) (tt:=wu) (wi2:=yz K (tZ 1)) (i:=2) (own:=["lane","told","thing"]) (js:=[]) (N':=["lane","told","thing"]) (aJ.of (osc:=au (top 25)) (N:=Ls) rfl rfl ⟨rfl,by decide +kernel,by decide +kernel,by decide +kernel,rfl,by decide +kernel⟩) rfl Iu.nd rfl rfl (yd rfl hen qy (aa (pv 0) ak))
    (fun _ _ _ _ _=>(eQ rfl (aK (aD (i:=0) (show List.Nodup (["lane","told","thing"]:List Str) by decide +kernel) rfl (Or.inl rfl) (Or.inr rfl)) (aK (aD (i:=1) (show List.Nodup (["lane","told","thing"]:List Str) by decide +kernel) rfl (Or.inl rfl) (Or.inr rfl)) dD)))) (fun _ _ _ _ _=>bN) (fun _ _ _ _ _=>gC rfl (pv 1)) (fun _ _=>rfl)
    (fun _ _ _ _ _=>(aD (i:=2) (show List.Nodup (["lane","told","thing"]:List Str) by decide +kernel) rfl (Or.inl rfl) (Or.inr rfl))) (fun _ _ _ _ _=>iC (aP eY (aY (r:=fj K) aV (pv 2) az (fun _ _=>rfl)) aX (aR _))) (fun _ _ _ _ _=>cz (aa (pv 0) (aa (pv 2) ak))))
   (aB (bF (uv (cl:=Pg s.heap.objs.size) (NL:=["row"]) (js:=[1]) (pn:="pair") CT hrr (aa (pv 2) ak) rfl hso rfl rfl h1 (fun _=>rfl) (by show ∀ p:Str×NameKind,p∈_->(p.2=NameKind.cell∨p.2=NameKind.free)->p.1∈(["row"]:List Str);decide +kernel) (by decide +kernel) (show ∀ x∈(["row"]:List Str),(au (top 25)).names.lookup x=some .cell by decide +kernel) rfl rfl rfl (fun _ _ _ _=>rfl) (by decide +kernel) (by decide +kernel) rfl rfl rfl (by decide +kernel)
    (fun _ _ _ _ _ _=>cz (aa (bj c7 (aY (r:=fj K) aV (pv 1) (aY (r:=fj K) aV (pv 0) az (fun _ _=>rfl)) (fun _ _=>rfl)) (aY (r:=fj K) aV (aY (r:=fj K) aV (pv 0) az (fun _ _=>rfl)) az (fun _ _=>rfl))) (aa (aY (r:=fj K) aV (pv 0) az (fun _ _=>rfl)) (aa (aY (r:=fj K) aV (aY (r:=fj K) aV (pv 0) az (fun _ _=>rfl)) az (fun _ _=>rfl)) ak))))))))),?_⟩
  have yl:=Paired.length R.at_
  have few:=R.few
  have z2:2≤sizeLine:=by decide
  refine bU (fun σ' H'=>σ'=[some (.ref q),some (.ref r),none]/\H=H') ?nx0 fun N hN=>?st0
  case st0=>exact ⟨_,rfl,r,_,rfl,.inl hr',_,rfl,q,_,rfl,.inl R.sq,rfl,_,rfl,eG (by rw [List.length_map,yl,nl];simp) (hN _ _ ⟨rfl,rfl⟩)⟩
  rintro σ' H' ⟨rfl,rfl⟩
  refine bU (fun σ' H'=>∃ a vs,σ'=[some (.ref q),some (.ref r),some (.ref a)]/\ao H H'/\H' a=some (.lst vs)/\Paired (uM H') vs (dF rs rs.length)) ?nx1 fun N hN=>?st1
  case st1=>
   refine ⟨_,rfl,q,rfl,⟨_,R.sq⟩,fun i m vs O H'=>m=ys.length-i/\i≤ys.length/\ao H H'/\(∃ a b c,O=[a,b,c])/\Paired (uM H') vs (dF rs i)/\vs.length≤100*i,⟨ys.length,by simp,Nat.zero_le _,ao.refl _,⟨none,none,none,rfl⟩,.nil,Nat.le_refl _⟩,?_⟩
   rintro i m vs O H1 ⟨rfl,hi,s1,⟨u0,u1,u2,rfl⟩,pp,vl⟩
   by_cases hlt:i<ys.length
   ·refine .inr ⟨⟨_,ys[i],s1.seq R.sq,List.getElem?_eq_getElem hlt⟩,?_⟩
    rintro x H' ⟨p,yv,hn,rfl,hy,rfl⟩
    obtain ⟨rw',hrw,a,rfl,ha,ea⟩:=cO R.at_ (hy _ (s1.seq R.sq))
    have rl:=R.sml rw' (List.mem_of_getElem? hrw)
    have s2:ao H (upd H1 p (.tup [.int i,.ref a])):=s1.trans (ao.new hn)
    have erd:rs.getD i []=rw':=by rw [List.getD_eq_getElem?_getD,hrw];rfl
    have pp2:=d9 (ao.tk (ao.new (o:=.tup [.int i,.ref a]) hn)) pp
    refine ⟨p,_,rfl,cA.of aj,rfl,_,_,rfl,_,_,rfl,rfl,?_⟩
    dsimp only [aU,wu,List.set]
    rw [if_pos rfl]
    generalize upd H1 p (.tup [.int i,.ref a])=H2 at s2 pp2 ⊢
    have ha2:=s2 _ _ ha
    refine ⟨_,rfl,a,rfl,⟨_,aQ.of ha2⟩,fun j m vs' σ' H3=>m=rw'.length-j/\j≤rw'.length/\ao H2 H3/\(∃ v,σ'=[some (.int i),some (.ref a),v])/\Paired (uM H3) vs' (dF rs i++cX i (rw'.take j))/\vs'.length≤100*i+j,⟨rw'.length,by simp,Nat.zero_le _,ao.refl _,⟨_,rfl⟩,by simpa [cX] using pp2,by omega⟩,?_⟩
    rintro j m vs' σ' H3 ⟨rfl,hj,s3,⟨v,rfl⟩,pp3,vl3⟩
    have ha3:=s3 _ _ ha2
    by_cases hjt:j<rw'.length
    ·have hjl:j<(rw'.map (·.1)).length:=by rw [List.length_map];exact hjt
     refine .inr ⟨⟨_,(rw'.map (·.1))[j],aQ.of ha3,List.getElem?_eq_getElem hjl⟩,Nat.le_trans (show vs'.length+1≤1000 by omega) (by decide),?_⟩
     rintro x H4 ⟨rfl,y⟩
     have hx:=y _ (aQ.of ha3)
     rw [List.getElem?_map] at hx
     obtain ⟨th,hth,rfl⟩:=Option.map_eq_some_iff.mp hx
     have et:cX i (rw'.take (j+1))=cX i (rw'.take j)++cX i [th]:=by
      unfold cX
      rw [List.take_add_one,hth,List.filterMap_append]
      rfl
     obtain ⟨tv,to⟩:=th
     obtain ⟨pt,e,z⟩:=(ea _ (List.mem_of_getElem? hth)).tk (ao.tk (s2.trans s3))
     dsimp only at e z
     subst e
     dsimp only [aU,List.set]
     cases to with
     | some it=>
       obtain ⟨rest,z⟩:=z
       refine aH.op (aH.op (aH.var rfl) aH.con (bQ.ixT (cA.of z) (aL (j:=0) rfl))) aH.con (bQ.eq rfl) _ ⟨_,rfl,jt (by simp) ?_⟩
       refine ⟨_,rfl,_,rfl,z2,fun b hb=>⟨rw'.length-(j+1),by omega,rfl,hjt,s3.trans (ao.new hb),⟨_,rfl⟩,?_,by rw [List.length_append,List.length_singleton];omega⟩⟩
       rw [et,← List.append_assoc]
       exact Paired.app (.cons ⟨b,rfl,aj⟩ .nil) (d9 (ao.tk (ao.new hb)) pp3)
     | none=>
       obtain ⟨kk,rest,z,ne⟩:=z
       refine aH.op (aH.op (aH.var rfl) aH.con (bQ.ixT (cA.of z) (aL (j:=0) rfl))) aH.con (bQ.eq rfl) _ ⟨_,rfl,eG (by simpa using ne) ?_⟩
       refine ⟨rw'.length-(j+1),by omega,rfl,hjt,s3,⟨_,rfl⟩,?_,by omega⟩
       rw [et,show cX i [((V.ref pt,none):lJ)]=[] from rfl,List.append_nil]
       exact pp3
    ·have ej:j=rw'.length:=by omega
     subst ej
     rw [List.take_length] at pp3
     refine .inl ⟨⟨_,aQ.of ha3,by rw [List.length_map];exact Nat.le_refl _⟩,ys.length-(i+1),by omega,rfl,hlt,s2.trans s3,⟨_,_,_,rfl⟩,?_,by omega⟩
     rw [iD,erd]
     exact pp3
   ·have ei:i=ys.length:=by omega
    subst ei
    refine .inl ⟨⟨_,s1.seq R.sq,Nat.le_refl _⟩,Nat.le_trans (show vs.length≤1000 by omega) (by decide),fun l hl=>?_⟩
    rw [yl] at pp
    exact hN _ _ ⟨l,vs,rfl,s1.trans (ao.new hl),aj,d9 (ao.tk (ao.new hl)) pp⟩
  rintro σ' H1 ⟨a,vs,rfl,s1,ha,pp⟩
  have tb1:=tb.same s1
  have vl:=Paired.length pp
  have all:=R.all
  refine ⟨_,rfl,tb1.tab (List.mem_singleton.mpr rfl),fun c' H2 lm f' H3 hf eH=>?_⟩
  have kp:∀ b u,H1 b=some u->(∀ qs,u≠.tbl qs)->H3 b=some u:=by
   obtain ⟨ctv,eH⟩:=eH
   rw [eH]
   exact wZ lm hf
  have tb3:g_ H3 Tt qM [jY xK]:=by
   obtain ⟨ctv,eH⟩:=eH
   rw [eH]
   exact (tb1.lam lm).same (ao.new hf)
  have fr3:∀ l,H3 l=none->H1 l=none:=fun l hl=>by
   cases z:H1 l with
   |none=>rfl
   | some u=>
     by_cases q:∃ qs,u=.tbl qs
     ·obtain ⟨qs,rfl⟩:=q
      obtain ⟨ctv,eH⟩:=eH
      obtain ⟨ps,hP,lm⟩:=lm
      rw [eH] at hl
      have e2:∃ u,H2 l=some u:=by
       rcases lm with ⟨_,hc,ne,rfl⟩|⟨_,_,rfl⟩
       ·rw [aA (aC z hc)]
        by_cases q:l=Tt
        ·subst q;exact ⟨_,aj⟩
        ·rw [aA q];exact ⟨_,z⟩
       ·exact ⟨_,z⟩
      obtain ⟨u,e2⟩:=e2
      rw [aA (aC e2 hf),e2] at hl
      cases hl
     ·have:=kp l u z fun qs e=>q ⟨qs,e⟩
      rw [hl] at this
      cases this
  have kp2:∀ b u,H1 b=some u->b≠Tt->H3 b=some u:=fun b u e ne=>by
   obtain ⟨ctv,eH⟩:=eH
   obtain ⟨ps,hP,lm⟩:=lm
   have e2:H2 b=some u:=by
    rcases lm with ⟨_,hc,_,rfl⟩|⟨_,_,rfl⟩
    ·rw [aA (aC e hc),aA ne];exact e
    ·exact e
   rw [eH,aA (aC e2 hf)]
   exact e2
  clear lm eH hf
  have tk3:TK H1 H3:=fun b xs e=>kp b _ e (by intro _ z;cases z)
  have ha3:=kp _ _ ha (by intro _ z;cases z)
  have pp3:=d9 tk3 pp
  have sq3:∀ H',ao H3 H'->aQ K H' r (ns.map V.int):=fun H' sm=>by
   rcases s1.seq hr' with (z|⟨o,z⟩)|z
   ·exact .inl (.inl (sm _ _ (kp _ _ z (by intro _ z;cases z))))
   ·exact .inl (.inr ⟨o,sm _ _ (kp _ _ z (by intro _ z;cases z))⟩)
   ·exact .inr z
  have evs:∀ x∈dF rs rs.length,x.1<rs.length/\∃ pt rest,x.2.1=.ref pt/\H3 pt=some (.tup (.str "event"::.int x.2.2.1::.int x.2.2.2::rest)):=fun x hx=>by
   obtain ⟨h4,h5⟩:=qD hx
   obtain ⟨rw',hrw,a',_,_,ea⟩:=cO R.at_ (List.getElem?_eq_getElem (show x.1<ys.length by omega))
   have erd:rs.getD x.1 []=rw':=by rw [List.getD_eq_getElem?_getD,hrw];rfl
   rw [erd] at h5
   obtain ⟨pt,e,rest,z⟩:=ea _ h5
   exact ⟨h4,pt,rest,e,tk3 _ _ (s1 _ _ z)⟩
  have z3:3≤sizeLine:=by decide
  refine ⟨a,vs,(dF rs rs.length).map (bB ns),rfl,aQ.of ha3,by omega,by rw [List.length_map];omega,fun y hy=>?_,?_,fun i x tr H' sm ex et=>?_,fun o l H' op os hl hn sm=>?_⟩
  ·obtain ⟨x,hx,rfl⟩:=List.mem_map.mp hy
   have h4:=(evs x hx).1
   have h5:=R.pl x hx
   exact ⟨⟨by simp only [bB];omega,by simp only [bB];omega⟩,h5⟩
  ·have:=R.nd
   rw [List.Nodup,List.pairwise_map] at this ⊢
   refine this.imp fun {x y} ne e=>ne ?_
   simp only [bB,Prod.mk.injEq] at e ⊢
   exact ⟨by omega,e.2.2⟩
  ·obtain ⟨pr,hpr,b,rfl,hb⟩:=cO pp3 ex
   rw [List.getElem?_map,hpr] at et
   cases et
   obtain ⟨h4,pt,rest,e,z⟩:=evs pr (List.mem_of_getElem? hpr)
   have hb:=sm _ _ hb
   have z:=sm _ _ z
   have hR:=sq3 H' sm
   rw [e] at hb
   refine aH.op (aH.op (aH.var rfl) (aH.op (aH.var rfl) aH.con (bQ.ixT (cA.of hb) (aL (j:=0) rfl))) (bQ.ixL hR (iQ (by omega) (by omega)))) (aH.op (aH.op (aH.var rfl) aH.con (bQ.ixT (cA.of hb) (aL (j:=1) rfl))) aH.con (bQ.ixT (cA.of z) (aL (j:=2) rfl))) bQ.i0 _ ?_
   refine aH.op (aH.var rfl) aH.con (bQ.ixT (cA.of hb) (aL (j:=0) rfl)) _ ?_
   refine aH.op (aH.op (aH.var rfl) aH.con (bQ.ixT (cA.of hb) (aL (j:=1) rfl))) aH.con (bQ.ixT (cA.of z) (aL (j:=1) rfl)) _ ?_
   refine ⟨z3,fun p hp=>⟨p,rfl,?_,ao.new hp⟩⟩
   rw [aj,Int.toNat_natCast]
   rfl
  ·rw [vl] at op
   have om:∀ i∈o,i<vs.length:=fun i hi=>by
    have:=List.mem_range.mp (op.mem_iff.mp hi)
    omega
   have pk:∀ i∈o,((dF rs rs.length).map (bB ns)).getD i (0,0,0)=bB ns ((dF rs rs.length).getD i (0,.non,0,0)):=fun i hi=>by
    have hi':i<(dF rs rs.length).length:=by have:=om i hi;omega
    rw [List.getD_eq_getElem?_getD,List.getD_eq_getElem?_getD,List.getElem?_map,List.getElem?_eq_getElem hi']
    rfl
   refine k l _ (o.map fun i=>(dF rs rs.length).getD i (0,.non,0,0)) H' (vJ op) ?_ hl (d9 (ao.tk sm) (uD pp3 o om)) ?_ (fun b u e ne=>sm _ _ (ne.elim (kp _ _ (s1 _ _ e)) (kp2 _ _ (s1 _ _ e)))) (tb3.same sm)
   ·rw [List.pairwise_map]
    refine List.Pairwise.imp_of_mem (fun {i j} hi hj h=>?_) os
    rw [pk i hi,pk j hj] at h
    exact h
   ·exact s1.free (fr3 l hn)
theorem jX.same {H H':Hp} {q:Addr} {ys:List V} {rs:List (List lJ)} (R:jX K H q ys rs) (s:ao H H'):jX K H' q ys rs:=
 ⟨s.seq R.sq,du (fun _ _ ⟨a,e,z,ev⟩=>⟨a,e,s _ _ z,fun x hx=>(ev x hx).tk (ao.tk s)⟩) R.at_,R.few,R.sml,R.all,R.pl,R.nd⟩
def Ed (K:Frag) (Tt:Addr):Sp:=fun vs H Q _=>∃ (q cq:Addr) (m:Int) (ys xs:List V) (rs:List (List lJ)) (cs:List oE),vs=[.ref q,.ref cq,.int m]/\jX K H q ys rs/\1≤rs.length/\aQ K H cq xs/\Paired (gK H) xs cs/\(∀ c∈cs,Aa rs.length c)/\cs.length≤100/\0≤m/\m≤1000000000000/\g_ H Tt qM [jY xK]/\
 (∀ h t la l vs ps H',Bf.j9 (gG (cs.map fD) rs.length m) h->H' t=some (.tup [.str "order",.ref la,.ref l])->H' la=some (.lst (xQ rs.length h))->ps.Perm (dF rs rs.length)->ps.Pairwise (fun a b=>eN (bB (rowOf rs.length h) a)<eN (bB (rowOf rs.length h) b))->H' l=some (.lst vs)->Paired (uM H') vs ps->(∀ b u,H b=some u->((∀ qs,u≠.tbl qs)∨b≠Tt)->H' b=some u)->g_ H' Tt qM [jY xK]->Q (.ref t) H')/\
 ∀ t a zs es H',H' t=some (.tup [.str "ring",.ref a])->H' a=some (.lst zs)->Paired (bD H') zs es->Bf.pU es->(∀ e∈es,e∈gG (cs.map fD) rs.length m)->es.length≤rs.length+1->H a=none->ao H H'->Q (.ref t) H'
abbrev Qz:List Str:=["rows","causes","most","ties","least"]
theorem vX:aW Qz ["rows","causes","most"] (au (top 26)):=⟨rfl,rfl,rfl,by decide +kernel,rfl,by decide +kernel,by decide +kernel⟩
theorem Ij {Tt f fTo fC fN fBo fR fL fT fM fG fAm fRi fMg:Addr} {fd fdTo fdC fdN fdBo fdR fdL fdT fdM fdG fdAm fdRi fdMg:FuncData} (F:gA K "ordered" "ordered" (top 26) f fd) (T:Txt K mg) (TC:iT mg)
 (DTo:dZ K mg "ties_of" (top 24) ["causes"] fTo fdTo) (DC:dZ K mg "need_cause" (top 23) ["lane","time","other","second"] fC fdC)
 (DN:dZ K mg "need_all" (top 16) ["lanes","ties","most"] fN fdN) (DBo:dZ K mg "bounds" (top 17) ["lanes","most"] fBo fdBo) (DR:dZ K mg "raised" (top 18) ["lanes","ties"] fR fdR)
 (DL:dZ K mg "need_lanes" (top 13) ["lanes"] fL fdL) (DT:dZ K mg "need_ties" (top 14) ["lanes","ties"] fT fdT) (DM:dZ K mg "need_most" (top 15) ["most"] fM fdM) (DG:dZ K mg "ring_behind" (top 21) ["at","raised_by","many"] fG fdG)
 (FAm:gA K "amounts" "amounts" (top 19) fAm fdAm) (mAm:mg "amounts" = some (.ref fAm)) (FRi:gA K "ring" "ring" (top 20) fRi fdRi) (mRi:mg "ring" = some (.ref fRi))
 (GMg:aN P w K mg base cJ 4 fMg fdMg ["rows","row"] (J4 K Tt)) (mMg:mg "merged" = some (.ref fMg)) (kMg:keepIn K (.ref fMg)=true) (bMg:Binds K fdMg ["rows","row"] []) :
 aN P w K mg base cJ 5 f fd ["rows","causes","most"] (Ed K Tt):=by
 have GTo:aN P w K mg base cJ 2 fTo fdTo ["causes"] (Em K):=Dh DTo.F TC DC
 have GT:aN P w K mg base cJ 1 fT fdT ["lanes","ties"] (Ft K):=Cr DT.F TC
 have GAm:aN P w K mg base cJ 3 fAm fdAm ["lanes","ties","most"] (FQ K):=JS FAm T TC DN DBo DR DL DT DM
 have GRi:aN P w K mg base cJ 3 fRi fdRi ["lanes","ties","most"] (Im K):=Jw FRi T TC DN DBo DR DL DT DM DG
 have kbA:=Fb FAm (fun _ _ _ _ _ _ _ _ _=>rfl)
 have kbR:=Fb FRi (fun _ _ _ _ _ _ _ _ _=>rfl)
 refine F.ok vX (fun vs H Q E h=>?_) (fun cdv A outer s H vs Q E hr h=>?_)
 ·obtain ⟨q,cq,m,ys,xs,rs,cs,rfl,_⟩:=h
  rfl
 ·obtain ⟨q,cq,m,ys,xs,rs,cs,rfl,R,n1,hcq,pc,okc,cl,m0,m1,tb,kO,kR⟩:=h
  have hr1:bL 1 _:=hr.mono (by decide)
  have hr2:bL 2 _:=hr.mono (by decide)
  have hr3:bL 3 _:=hr.mono (by decide)
  refine ⟨_,(aq (bf (i:=3) vX.nd rfl (by first|exact Or.inl rfl|exact Or.inr rfl) (aM GTo hr2 rfl DTo.mg DTo.F.kp DTo.b .nil bh (aa (pv 1) ak)))
   (aq (bC (aM GT hr1 rfl DT.mg DT.F.kp DT.b .nil bh (aa (aG aO (by rfl) T.len cu (aa (pv 0) ak)) (aa (pv 3) ak))))
   (aq (bf (i:=4) vX.nd rfl (by first|exact Or.inl rfl|exact Or.inr rfl) (gQ GAm hr3 rfl mAm FAm.kp kbA bh (aa (aG aO (by rfl) T.len cu (aa (pv 0) ak)) (aa (pv 3) ak)) (ig (pv 2) j5)))
   (aq (bW (aP lR (pv 4) gM (aR _)) (aB (bF (cz (aa aX (aa (gQ GRi hr3 rfl mRi FRi.kp kbR bh (aa (aG aO (by rfl) T.len cu (aa (pv 0) ak)) (aa (pv 3) ak)) (ig (pv 2) j5)) ak))))) bc)
   (aB (bF (cz (aa aX (aa (pv 4) (aa (aM GMg hr rfl mMg kMg bMg .nil bh (aa (pv 0) (aa (pv 4) ak))) ak)))))))))),?_⟩
  have few:=R.few
  have yl:=Paired.length R.at_
  have ok:∀ e∈cs.map fD,fY rs.length e:=fun e he=>by
   obtain ⟨c,hc,rfl⟩:=List.mem_map.mp he
   exact uV (by omega) (okc c hc)
  have oc6:∀ c∈cs,Aa 6 c:=fun c hc=>by
   have o:=okc c hc
   exact ⟨by have:=o.a;omega,by have:=o.b;omega,o.ne,o.t,o.u⟩
  refine bU (fun σ' H'=>∃ r zs,σ'=[some (.ref q),some (.ref cq),some (.int m),some (.ref r),none]/\ao H H'/\H' r=some (.lst zs)/\Paired (bD H') zs (cs.map fD)) ?nx1 fun N hN=>?st1
  case st1=>exact ⟨_,rfl,cq,xs,cs,rfl,hcq,pc,oc6,cl,fun r zs H1 hr' pt nr s1=>hN _ _ ⟨r,zs,rfl,s1,hr',pt⟩⟩
  rintro σ' H1 ⟨r,zs,rfl,s1,hr1',pt⟩
  have R1:=R.same s1
  refine bU (fun σ' H'=>σ'=[some (.ref q),some (.ref cq),some (.int m),some (.ref r),none]/\H1=H') ?nx2 fun N hN=>?st2
  case st2=>
   refine ⟨_,rfl,q,_,rfl,.inl R1.sq,_,rfl,?_⟩
   rw [yl]
   exact ⟨rs.length,r,zs,_,rfl,aQ.of hr1',pt,ok,hN _ _ ⟨rfl,rfl⟩⟩
  rintro σ' H' ⟨rfl,rfl⟩
  have tih:jZ K H1 r rs.length (cs.map fD):=⟨⟨zs,hr1',pt⟩,by rw [List.length_map];omega,ok⟩
  refine bU (fun σ' H'=>∃ v W,σ'=[some (.ref q),some (.ref cq),some (.int m),some (.ref r),some v]/\ao H1 H'/\Ka rs.length (gG (cs.map fD) rs.length m) H' v W) ?nx3 fun N hN=>?st3
  case st3=>
   refine ⟨_,rfl,q,_,rfl,.inl R1.sq,_,rfl,_,rfl,?_⟩
   rw [yl]
   dsimp only [jO,nZ]
   exact Bv n1 few m0 m1 tih fun v W H8 a8 s8=>hN _ _ ⟨v,W,rfl,s8,a8⟩
  rintro σ' H2 ⟨v,W,rfl,s2,aw⟩
  have R2:=R1.same s2
  have tih2:=tih.same s2
  cases W with
  | none=>
    obtain ⟨rfl,B⟩:=aw
    refine ⟨_,rfl,rfl,_,rfl,jt rfl ?_⟩
    refine ⟨_,rfl,q,_,rfl,.inl R2.sq,_,rfl,_,rfl,?_⟩
    rw [yl]
    dsimp only [jO,nZ]
    refine ⟨rs.length,r,m,_,rfl,n1,few,m0,m1,tih2,fun h L=>(B.no L.sat).elim,fun a zs' es H3 ha pe Rg hR lr na s3=>⟨(by show 2≤sizeLine;decide),fun t ht=>?_⟩⟩
    have s4:=s3.trans (ao.new (o:=.tup [.str "ring",.ref a]) ht)
    exact kR t a zs' es _ aj (ao.new ht _ _ ha) (a_ (ao.tk (ao.new ht)) pe) Rg hR lr ((s1.trans s2).free na) ((s1.trans s2).trans s4)
  | some h=>
    obtain ⟨la,rfl,hla,L⟩:=aw
    refine ⟨_,rfl,rfl,_,rfl,eG rfl ?_⟩
    have er:(rowOf rs.length h).map V.int=xQ rs.length h:=by unfold rowOf xQ;rw [List.map_map];rfl
    have rl:(rowOf rs.length h).length=rs.length:=by unfold rowOf;simp
    have S2:=s1.trans s2
    refine ⟨_,rfl,_,rfl,_,rfl,q,la,ys,rs,rowOf rs.length h,rfl,R2,aQ.of (by rw [er];exact hla),rl,tb.same S2,fun l vs ps H3 pp ps' hl pr nl kp tb3=>⟨(by show 3≤sizeLine;decide),fun t ht=>?_⟩⟩
    have s4:=ao.new (o:=.tup [.str "order",.ref la,.ref l]) ht
    exact kO h t la l vs ps _ L aj (s4 _ _ (kp _ _ hla (.inl (by intro _ z;cases z)))) pp ps' (s4 _ _ hl) (d9 (ao.tk s4) pr) (fun b u e ne=>s4 _ _ (kp _ _ (S2 _ _ e) ne)) (tb3.same s4)
end
inductive Tg where
 |ev (pl tm:Int) (nm:Str) (ln st:Int)
 |lo (k:Int)
def pN (H:Hp) (x:V):Tg->Prop
 |.ev pl tm nm ln st=>∃ p t,x=.ref p/\H p=some (.tup [.str "event",.int pl,.int tm,.str nm,.ref t])/\H t=some (.tup [.int ln,.int st])
 |.lo k=>∃ p,x=.ref p/\H p=some (.tup [.str "lost",.int k])
def Cw:Tg->PyData
 |.ev pl tm nm ln st=>.tuple [.str "event",.int pl,.int tm,.str nm,.tuple [.int ln,.int st]]
 |.lo k=>.tuple [.str "lost",.int k]
def nA:Tg->Option (Int×Int)
 |.ev pl tm _ _ _=>some (pl,tm)
 |.lo _=>none
theorem pN.tk {H H':Hp} {x:V} (k:TK H H'):∀ {g:Tg},pN H x g->pN H' x g
 |.ev _ _ _ _ _,⟨p,t,e,h1,h2⟩=>⟨p,t,e,k _ _ h1,k _ _ h2⟩
 |.lo _,⟨p,e,h1⟩=>⟨p,e,k _ _ h1⟩
theorem pN.ev {H:Hp} {x:V}:∀ {g:Tg},pN H x g->Gn H (x,nA g)
 |.ev _ _ _ _ _,⟨p,t,e,h1,_⟩=>⟨p,e,_,h1⟩
 |.lo _,⟨p,e,h1⟩=>⟨p,e,_,_,h1,by decide⟩
theorem pN.rep {K:Frag} {H:Hp} {x:V}:∀ {g:Tg},pN H x g->Rep K H x (Cw g)
 | .ev _ _ _ _ _,⟨p,t,e,h1,h2⟩=>by
   subst e
   exact .tup (cA.of h1) (.cons (.str _) (.cons (.int _) (.cons (.int _) (.cons (.str _) (.cons (.tup (cA.of h2) (.cons (.int _) (.cons (.int _) .nil))) .nil)))))
 | .lo _,⟨p,e,h1⟩=>by
   subst e
   exact .tup (cA.of h1) (.cons (.str _) (.cons (.int _) .nil))
theorem gR {H H':Hp} (k:TK H H') {xs:List V} {gs:List Tg} (h:Paired (pN H) xs gs):Paired (pN H') xs gs:=du (fun _ _ z=>z.tk k) h
theorem uX {K:Frag} {H:Hp}:∀ {xs:List V} {gs:List Tg},Paired (pN H) xs gs->cN K H xs (gs.map Cw)
 |_,_,.nil=>.nil
 |_,_,.cons a t=>.cons a.rep (uX t)
theorem p_:∀ gs:List Tg,bH (gs.map Cw)≤2
 |[]=>by simp [bH]
 | g::r=>by
   have:=p_ r
   rw [List.map_cons]
   cases g <;> simp only [bH,dm,Cw] <;> omega
theorem vh:∀ gs:List Tg,eU (gs.map Cw)≤5
 |[]=>by simp [eU]
 | g::r=>by
   have:=vh r
   rw [List.map_cons]
   cases g <;> simp only [eU,jE,Cw,List.length_cons,List.length_nil] <;> omega
structure Rw (gs:List Tg) (pl tm:Int) (m:Nat):Prop where
 up:(gs.filterMap nA).Pairwise (fun a b=>a.1<b.1)
 lo:∀ e∈gs.filterMap nA,0≤e.1/\e.1<pl/\0≤e.2/\e.2≤tm
 n:(gs.filterMap nA).length≤m
 l:gs.length≤2*m
theorem Rw.ev {gs:List Tg} {pl tm:Int} {m:Nat} (up:(gs.filterMap nA).Pairwise (fun a b=>a.1<b.1)) (lo:∀ e∈gs.filterMap nA,0≤e.1/\e.1<pl/\0≤e.2/\e.2≤tm) (hn:(gs.filterMap nA).length≤m) {nm:Str} {ln st:Int} (l2:gs.length≤2*m+1) (p0:0≤pl) (t0:0≤tm):Rw (gs++[Tg.ev pl tm nm ln st]) (pl+1) tm (m+1):=by
 have e:(gs++[Tg.ev pl tm nm ln st]).filterMap nA=gs.filterMap nA++[(pl,tm)]:=by rw [List.filterMap_append];rfl
 refine ⟨?_,fun x hx=>?_,?_,?_⟩
 ·rw [e,List.pairwise_append]
  refine ⟨up,List.pairwise_singleton _ _,fun a ha b hb=>?_⟩
  cases List.mem_singleton.mp hb
  exact (lo a ha).2.1
 ·rw [e] at hx
  rcases List.mem_append.mp hx with z|z
  ·have:=lo x z
   omega
  ·cases List.mem_singleton.mp z
   simp only
   omega
 ·rw [e,List.length_append]
  exact Nat.add_le_add_right hn 1
 ·rw [List.length_append,List.length_singleton]
  omega
def RA (nq:Addr) (H:Hp) (v:V) (gs:List Tg):Prop:=∃ a xs,v=.ref a/\a≠nq/\H a=some (.lst xs)/\Paired (pN H) xs gs
theorem RA.kp {nq:Addr} {H H':Hp} {v:V} {gs:List Tg} (h:RA nq H v gs) (k1:TK H H') (k2:∀ b xs,H b=some (.lst xs)->b≠nq->H' b=some (.lst xs)):RA nq H' v gs:=by
 obtain ⟨a,xs,e,n,h1,h2⟩:=h
 exact ⟨a,xs,e,n,k2 _ _ h1 n,gR k1 h2⟩
theorem Ay {b:Bool} {A B:Prop} (h:A) (k:b=false->A->B):if b=true then A else B:=by
 cases b
 ·exact k rfl h
 ·exact h
section
variable {P:Program} {w:World} {K:Frag} {mg:Str->Option Value} {base:Heap}
def JG:Sp:=fun vs H Q _=>∃ (p dc:Addr) (n:Nat),vs=[.ref p,.int n]/\Dr H p dc/\n≤6/\∀ q ys gss H',H' q=some (.lst ys)->Paired (RA q H') ys gss->gss.length=n->(∀ gs∈gss,Rw gs 1000 1000 6)->H q=none->Dr H' p dc->gB p H H'->Q (.ref q) H'
abbrev Qp:List Str:=["_law_d","_law_lanes","_law_rows","_law_lane","_law_place","_law_time","_law_told","_law_step"]
theorem rH:aW Qp ["_law_d","_law_lanes"] (au (top 36)):=⟨rfl,rfl,rfl,by decide +kernel,rfl,by decide +kernel,by decide +kernel⟩
theorem JC {f fP fO:Addr} {fd fdP fdO:FuncData} (F:gA K "_law_told_rows" "_law_told_rows" (top 36) f fd) (T:Txt K mg) (DP:dZ K mg "_law_pick" (top 29) ["_law_d","_law_many"] fP fdP) (DO:dZ K mg "_law_of" (top 30) ["_law_d","_law_things"] fO fdO):aN P w K mg base cJ 3 f fd ["_law_d","_law_lanes"] JG:=by
 have GP:aN P w K mg base cJ 1 fP fdP ["_law_d","_law_many"] mZ:=mQ DP.F T
 have GO:aN P w K mg base cJ 2 fO fdO ["_law_d","_law_things"] (Bh K):=yc DO.F T DP
 refine F.ok rH (fun vs H Q E h=>?_) (fun cdv A outer s H vs Q E hr h=>?_)
 ·obtain ⟨p,dc,n,rfl,_⟩:=h
  rfl
 ·obtain ⟨p,dc,n,rfl,D0,n6,k⟩:=h
  have hr1:bL 1 _:=hr.mono (by decide)
  have hr2:bL 2 _:=hr.mono (by decide)
  refine ⟨_,(aq (bf (i:=2) rH.nd rfl (by first|exact Or.inl rfl|exact Or.inr rfl) (bK ak))
   (aq (dw PassesOwn.never rfl (bJ rfl T.range (aa (pv 1) ak)) (aD (i:=3) rH.nd rfl (by first|exact Or.inl rfl|exact Or.inr rfl))
   (aq (BJ (i:=4) (j:=5) (l:=6) rfl rH.nd rfl rfl rfl rfl rfl rfl (aa az (aa az (aa (bK ak) ak))) rfl)
   (aq (dw PassesOwn.never rfl (bJ rfl T.range (aa (aM GP hr1 rfl DP.mg DP.F.kp DP.b .nil bh (aa (pv 0) (aa az ak))) ak)) (aD (i:=7) rH.nd rfl (by first|exact Or.inl rfl|exact Or.inr rfl))
   (aq (bf (i:=5) rH.nd rfl (by first|exact Or.inl rfl|exact Or.inr rfl) (bj c7 (pv 5) (aM GO hr2 rfl DO.mg DO.F.kp DO.b .nil bh (aa (pv 0) (aa (bK (aa az (aa az (aa az (aa (aM GP hr1 rfl DP.mg DP.F.kp DP.b .nil bh (aa (pv 0) (aa az ak))) ak))))) ak)))))
   (aq (bW (PW.pt (tu (aP eY (aM GP hr1 rfl DP.mg DP.F.kp DP.b .nil bh (aa (pv 0) (aa az ak))) az (aR _)) (qp (PW.pt (dX (aP (oA hr.units) (pv 6) (bK ak) (aR _)) (dN (aP eY (aY (r:=fj K) aV (aY (r:=fj K) aV (pv 6) (iV gZ az) (fun _ _=>rfl)) az (fun _ _=>rfl)) aX (aR _)))))))) (aq (bC (kJ PySem.F.plainAttrs_list PySem.F.slot_list_append PySem.F.type_list_append dO (pv 6) (aa (cz (aa aX (aa (bj c7 az (aM GP hr1 rfl DP.mg DP.F.kp DP.b .nil bh (aa (pv 0) (aa az ak)))) ak))) ak)))
   (aB (bf (i:=4) rH.nd rfl (by first|exact Or.inl rfl|exact Or.inr rfl) (bj c7 (pv 4) (aY (r:=fj K) aV (aY (r:=fj K) aV (pv 6) (iV gZ az) (fun _ _=>rfl)) az (fun _ _=>rfl)))))) bc)
   (aq (bC (kJ PySem.F.plainAttrs_list PySem.F.slot_list_append PySem.F.type_list_append dO (pv 6) (aa (cz (aa aX (aa (pv 4) (aa (pv 5) (aa (aM GO hr2 rfl DO.mg DO.F.kp DO.b .nil bh (aa (pv 0) (aa (bK (aa aX (aa aX ak))) ak))) (aa (cz (aa (pv 3) (aa (pv 7) ak))) ak)))))) ak)))
   (aB (bf (i:=4) rH.nd rfl (by first|exact Or.inl rfl|exact Or.inr rfl) (bj c7 (pv 4) az)))))))
   (aB (bC (kJ PySem.F.plainAttrs_list PySem.F.slot_list_append PySem.F.type_list_append dO (pv 2) (aa (pv 6) ak)))))))
   (aB (bF (pv 2))))),?_⟩
  have z0:0≤sizeLine:=by decide
  refine ⟨z0,fun rq hrq=>?_⟩
  dsimp only [aU,List.set]
  have b1:gB p H (upd H rq (.lst [])):=fun b u e _=>ao.new hrq b u e
  have e1:upd H rq (.lst []) rq=some (.lst []):=aj
  have D1:Dr (upd H rq (.lst [])) p dc:=D0.new hrq
  generalize upd H rq (.lst [])=H1 at b1 e1 D1 ⊢
  refine ⟨_,rfl,_,rfl,by omega,by omega,?_⟩
  refine dG (n:=n) (fun i σ' H'=>∃ v3 v4 v5 v6 v7 ys gss,σ'=[some (.ref p),some (.int n),some (.ref rq),v3,v4,v5,v6,v7]/\H' rq=some (.lst ys)/\Paired (RA rq H') ys gss/\gss.length=i/\(∀ gs∈gss,Rw gs 1000 1000 6)/\Dr H' p dc/\gB p H H') ⟨none,none,none,none,none,[],[],rfl,e1,.nil,rfl,fun gs h=>by simp at h,D1,b1⟩ ?_ ?_
  ·rintro i σ' H2 hi ⟨v3,v4,v5,v6,v7,ys,gss,rfl,hq,pr,gl,rw',D2,b2⟩
   dsimp only [aU]
   refine ⟨z0,fun te hte=>⟨_,_,_,rfl,?_⟩⟩
   dsimp only [List.set]
   have tdc:te≠dc:=by
    obtain ⟨cx,hcx⟩:=D2.cell
    exact Ne.symm (aC hcx hte)
   have trq:te≠rq:=Ne.symm (aC hq hte)
   have b3:gB p H2 (upd H2 te (.lst [])):=fun b u e _=>ao.new hte b u e
   have e3:upd H2 te (.lst []) te=some (.lst []):=aj
   have D3:Dr (upd H2 te (.lst [])) p dc:=D2.new hte
   generalize upd H2 te (.lst [])=H3 at b3 e3 D3 ⊢
   refine bU (fun σ' H'=>∃ (v4 v5 v7:Option V) (xs:List V) (gs:List Tg),σ'=[some (.ref p),some (.int n),some (.ref rq),some (.int (0+(i:Int))),v4,v5,some (.ref te),v7]/\H' te=some (.lst xs)/\Paired (pN H') xs gs/\Rw gs 1000 1000 6/\Dr H' p dc/\gB p H2 H') ?nx1 fun N hN=>?st1
   case st1=>
    refine ⟨_,rfl,p,dc,_,rfl,D3,by decide,by decide,fun r H4 r0 r1 D4 b4=>?_⟩
    have e4:=b4 _ _ e3 (D3.ne e3 (by intro _ z;cases z))
    refine ⟨_,rfl,by omega,by omega,?_⟩
    refine dG (n:=r.toNat) (fun j σ' H'=>∃ (pl tm:Int) (v7:Option V) (xs:List V) (gs:List Tg),σ'=[some (.ref p),some (.int n),some (.ref rq),some (.int (0+(i:Int))),some (.int pl),some (.int tm),some (.ref te),v7]/\H' te=some (.lst xs)/\Paired (pN H') xs gs/\Rw gs pl tm j/\0≤pl/\pl≤5*(j:Int)/\0≤tm/\tm≤29*(j:Int)/\Dr H' p dc/\gB p H2 H') ⟨0,0,_,[],[],rfl,e4,.nil,⟨.nil,fun e h=>by simp at h,by simp,by simp⟩,by omega,by omega,by omega,by omega,D4,b3.trans b4⟩ ?_ ?_
    ·rintro j σ' H5 hj ⟨pl,tm,v7,xs,gs,rfl,ht,pt,R,p0,p1,t0,t1,D5,b5⟩
     dsimp only [aU]
     refine bU (fun σ' H'=>∃ (tm':Int),σ'=[some (.ref p),some (.int n),some (.ref rq),some (.int (0+(i:Int))),some (.int pl),some (.int tm'),some (.ref te),some (.int (0+(j:Int)))]/\tm≤tm'/\tm'≤tm+29/\H' te=some (.lst xs)/\Paired (pN H') xs gs/\Dr H' p dc/\gB p H2 H') ?nx2 fun N2 hN2=>?st2
     case st2=>
      refine ⟨_,rfl,_,rfl,_,rfl,p,dc,_,rfl,D5,by decide,by decide,fun r2 H6 r3 r4 D6 b6=>⟨(by show 4≤sizeLine;decide),fun l hl=>⟨p,dc,l,_,rfl,D6.new hl,aQ.of aj,by simp,by simp,fun x H7 hx D7 b7=>?_⟩⟩⟩
      have hx:∃ t:Int,x=.int t/\0≤t/\t≤29:=by
       simp only [List.mem_cons,List.not_mem_nil,or_false] at hx
       rcases hx with rfl|rfl|rfl|rfl
       ·exact ⟨0,rfl,by decide,by decide⟩
       ·exact ⟨1,rfl,by decide,by decide⟩
       ·exact ⟨2,rfl,by decide,by decide⟩
       ·exact ⟨r2,rfl,by omega,by omega⟩
      obtain ⟨t,rfl,u0,u1⟩:=hx
      have bb:gB p H5 H7:=(b6.trans fun b u e _=>ao.new hl b u e).trans b7
      exact ⟨_,_,rfl,rfl,hN2 _ _ ⟨tm+t,rfl,by omega,by omega,bb _ _ ht (D5.ne ht (by intro _ z;cases z)),gR (TK.but D5 bb) pt,D7,b5.trans bb⟩⟩
     rintro σ' H6 ⟨tm',rfl,l1,l2,ht,pt,D6,b6⟩
     clear D5 b5
     have xl:=Paired.length pt
     have gl2:=R.l
     refine bU (fun σ' H'=>∃ (pl':Int) (xs':List V) (gs':List Tg),σ'=[some (.ref p),some (.int n),some (.ref rq),some (.int (0+(i:Int))),some (.int pl'),some (.int tm'),some (.ref te),some (.int (0+(j:Int)))]/\pl≤pl'/\pl'≤pl+4/\H' te=some (.lst xs')/\Paired (pN H') xs' gs'/\gs'.filterMap nA=gs.filterMap nA/\gs'.length≤gs.length+1/\Dr H' p dc/\gB p H2 H') ?nx3 fun N3 hN3=>?st3
     case st3=>
      refine ⟨_,rfl,p,dc,_,rfl,D6,by decide,by decide,fun r2 H7 r3 r4 D7 b7=>?_⟩
      have ht7:=b7 _ _ ht (D6.ne ht (by intro _ z;cases z))
      have pt7:=gR (TK.but D6 b7) pt
      have b7:=b6.trans b7
      have skip:N3 [some (.ref p),some (.int n),some (.ref rq),some (.int (0+(i:Int))),some (.int pl),some (.int tm'),some (.ref te),some (.int (0+(j:Int)))] H7:=hN3 _ _ ⟨pl,xs,gs,rfl,by omega,by omega,ht7,pt7,rfl,by omega,D7,b7⟩
      refine ⟨rfl,_,rfl,?_⟩
      refine h_ (fun z=>?_) (fun z=>skip)
      clear skip
      refine ⟨_,rfl,z0,fun l hl=>?_⟩
      have s8:ao H7 (upd H7 l (.lst [])):=ao.new hl
      have e8:upd H7 l (.lst []) l=some (.lst []):=aj
      have D8:Dr (upd H7 l (.lst [])) p dc:=D7.new hl
      generalize upd H7 l (.lst [])=H8 at s8 e8 D8 ⊢
      have ht8:=s8 _ _ ht7
      have pt8:=gR (ao.tk s8) pt7
      have b8:gB p H2 H8:=b7.trans fun b u e _=>s8 b u e
      have skip:N3 [some (.ref p),some (.int n),some (.ref rq),some (.int (0+(i:Int))),some (.int pl),some (.int tm'),some (.ref te),some (.int (0+(j:Int)))] H8:=hN3 _ _ ⟨pl,xs,gs,rfl,by omega,by omega,ht8,pt8,rfl,by omega,D8,b8⟩
      have dp:=p_ gs
      refine ⟨.list (gs.map Cw),.list [],.lst (aQ.of ht8) (uX pt8),.lst (aQ.of e8) .nil,by simp only [dm];omega,_,rfl,Ay ?_ fun z2 th=>?_⟩
      ·refine ⟨_,rfl,.inl ⟨rfl,_,aQ.of ht8⟩,?_⟩
       refine ⟨_,rfl,p,dc,_,rfl,D8,by decide,by decide,fun r5 H9 r6 r7 D9 b9=>⟨_,_,rfl,rfl,(by show 2≤sizeLine;decide),fun pe hpe=>?_⟩⟩
       have bb:gB p H8 (upd H9 pe (.tup [.str "lost",.int (1+r5)])):=b9.trans fun b u e _=>ao.new hpe b u e
       have e9:upd H9 pe (.tup [.str "lost",.int (1+r5)]) pe=some (.tup [.str "lost",.int (1+r5)]):=aj
       have D10:Dr (upd H9 pe (.tup [.str "lost",.int (1+r5)])) p dc:=D9.new hpe
       generalize upd H9 pe (.tup [.str "lost",.int (1+r5)])=H10 at bb e9 D10 ⊢
       have ht10:=bb _ _ ht8 (D8.ne ht8 (by intro _ z;cases z))
       refine ⟨te,_,_,rfl,rfl,ht10,Nat.lt_of_le_of_lt (show _≤20 by omega) (by decide),?_⟩
       have kq:TK H10 (upd H10 te (.lst (xs++[.ref pe]))):=fun b zs e=>by
        rw [aA (fV e ht10 (by intro z;cases z))]
        exact e
       have pl10:=kq _ _ e9
       refine aH.op (aH.var rfl) (aH.op (aH.op (aH.var rfl) (aH.neg aH.con) (bQ.ixL (aQ.of aj) (lA (x:=.ref pe) (by simp)))) aH.con (bQ.ixT (cA.of pl10) (aL (j:=1) rfl))) bQ.i0 _ ?_
       refine hN3 _ _ ⟨pl+(1+r5),xs++[.ref pe],gs++[.lo (1+r5)],rfl,by omega,by omega,aj,Paired.snoc ⟨pe,rfl,pl10⟩ (gR kq (gR (TK.but D8 bb) pt8)),by rw [List.filterMap_append];simp [nA],by rw [List.length_append];exact Nat.le_refl _,D10.put (D10.ne ht10 (by intro _ z;cases z)) tdc,fun b u e ne=>?_⟩
       rw [aA (aC e hte)]
       exact bb _ _ (b8 _ _ e ne) ne
      ·have ne:xs≠[]:=fun z=>by
        rw [z] at xl
        cases gs with
        |nil=>simp [dY,cQ] at z2
        |cons g r=>simp at xl
       have hl':xs.length-1<xs.length:=by
        have:=List.length_pos_iff.mpr ne
        omega
       have hx:=List.getElem?_eq_getElem hl'
       generalize xs[xs.length-1]=x at hx
       obtain ⟨g,hg,tg⟩:=cO pt8 hx
       cases g with
       | ev a1 a2 a3 a4 a5=>
         obtain ⟨p',t',rfl,e1,e2⟩:=tg
         exact aH.op (aH.op (aH.op (aH.var rfl) (aH.neg aH.con) (bQ.ixL (aQ.of ht8) (lA hx))) aH.con (bQ.ixT (cA.of e1) (aL (j:=0) rfl))) aH.con (bQ.eq rfl) _ ⟨_,rfl,jt (by simp) th⟩
       | lo a1=>
         obtain ⟨p',rfl,e1⟩:=tg
         exact aH.op (aH.op (aH.op (aH.var rfl) (aH.neg aH.con) (bQ.ixL (aQ.of ht8) (lA hx))) aH.con (bQ.ixT (cA.of e1) (aL (j:=0) rfl))) aH.con (bQ.eq rfl) _ ⟨_,rfl,eG (by rw [decide_eq_false_iff_not];intro z;exact absurd (V.str.inj z) (by decide)) skip⟩
     rintro σ' H7 ⟨pl',xs',gs',rfl,l3,l4,ht,pt,eg,gl3,D7,b7⟩
     have xl':=Paired.length pt
     refine ⟨_,rfl,.inl ⟨rfl,_,aQ.of ht⟩,_,rfl,_,rfl,_,rfl,(by show 2≤sizeLine;decide),fun l hl=>⟨p,dc,l,_,rfl,D7.new hl,aQ.of aj,by simp,by simp,fun x H8 hx D8 b8=>?_⟩⟩
     have hx:∃ nm:Str,x=.str nm:=by
      simp only [List.mem_cons,List.not_mem_nil,or_false] at hx
      rcases hx with rfl|rfl
      ·exact ⟨_,rfl⟩
      ·exact ⟨_,rfl⟩
     obtain ⟨nm,rfl⟩:=hx
     refine ⟨_,rfl,_,rfl,(by show 2≤sizeLine;decide),fun ps hps=>⟨(by show 5≤sizeLine;decide),fun pe hpe=>?_⟩⟩
     have bA:gB p H7 H8:=(fun b u e ne=>b8 _ _ (ao.new hl b u e) ne:gB p H7 H8)
     have sA:ao H8 (upd H8 ps (.tup [.int (0+(i:Int)),.int (0+(j:Int))])):=ao.new hps
     have e1:upd H8 ps (.tup [.int (0+(i:Int)),.int (0+(j:Int))]) ps=some (.tup [.int (0+(i:Int)),.int (0+(j:Int))]):=aj
     generalize upd H8 ps (.tup [.int (0+(i:Int)),.int (0+(j:Int))])=HA at sA e1 hpe ⊢
     have sB:ao HA (upd HA pe (.tup [.str "event",.int pl',.int tm',.str nm,.ref ps])):=ao.new hpe
     have e2:upd HA pe (.tup [.str "event",.int pl',.int tm',.str nm,.ref ps]) pe=some (.tup [.str "event",.int pl',.int tm',.str nm,.ref ps]):=aj
     generalize upd HA pe (.tup [.str "event",.int pl',.int tm',.str nm,.ref ps])=HB at sB e2 ⊢
     have sAB:=sA.trans sB
     have bb:gB p H7 HB:=bA.trans fun b u e _=>sAB b u e
     have D9:=D8.mono sAB
     have ht9:=bb _ _ ht (D7.ne ht (by intro _ z;cases z))
     refine ⟨te,_,_,rfl,rfl,ht9,Nat.lt_of_le_of_lt (show _≤20 by omega) (by decide),?_⟩
     have kq:TK HB (upd HB te (.lst (xs'++[.ref pe]))):=fun b zs e=>by
      rw [aA (fV e ht9 (by intro z;cases z))]
      exact e
     refine ⟨_,rfl,_,_,rfl,rfl,?_⟩
     refine ⟨pl'+1,tm',_,xs'++[.ref pe],gs'++[.ev pl' tm' nm (0+(i:Int)) (0+(j:Int))],rfl,aj,Paired.snoc ⟨pe,ps,rfl,kq _ _ e2,kq _ _ (sB _ _ e1)⟩ (gR kq (gR (TK.but D7 bb) pt)),Rw.ev (by rw [eg];exact R.up) (fun e he=>?_) (by rw [eg];exact R.n) (by omega) (by omega) (by omega),by omega,by omega,by omega,by omega,D9.put (D9.ne ht9 (by intro _ z;cases z)) tdc,fun b u e ne=>?_⟩
     ·rw [eg] at he
      have:=R.lo e he
      omega
     ·rw [aA (aC e hte)]
      exact bb _ _ (b7 _ _ e ne) ne
    ·rintro σ' H5 ⟨pl,tm,v7,xs,gs,rfl,ht,pt,R,p0,p1,t0,t1,D5,b5⟩
     have rn:r.toNat≤6:=by omega
     exact hN _ _ ⟨_,_,_,xs,gs,rfl,ht,pt,⟨R.up,fun e he=>by have:=R.lo e he;omega,Nat.le_trans R.n rn,by have:=R.l;omega⟩,D5,b5⟩
   rintro σ' H4 ⟨v4,v5,v7,xs,gs,rfl,ht,pt,R,D4,b4⟩
   have hq4:=b4 _ _ hq (D2.ne hq (by intro _ z;cases z))
   have yl:=Paired.length pr
   refine ⟨_,rfl,.inl ⟨rfl,_,aQ.of hq4⟩,_,rfl,rq,_,_,rfl,rfl,hq4,Nat.lt_of_le_of_lt (show _≤6 by omega) (by decide),?_⟩
   have kq:TK H4 (upd H4 rq (.lst (ys++[.ref te]))):=fun b zs e=>by
    rw [aA (fV e hq4 (by intro z;cases z))]
    exact e
   refine ⟨_,_,_,_,_,ys++[.ref te],gss++[gs],rfl,aj,Paired.snoc ⟨te,xs,rfl,trq,by rw [aA trq];exact ht,gR kq pt⟩ (du (fun v g z=>(z.kp (TK.but D2 b4) fun b zs e _=>b4 _ _ e (D2.ne e (by intro _ z;cases z))).kp kq fun b zs e ne=>by rw [aA ne];exact e) pr),by rw [List.length_append,gl];rfl,fun g hg=>?_,D4.put (D4.ne hq4 (by intro _ z;cases z)) ?_,fun b u e ne=>?_⟩
   ·rcases List.mem_append.mp hg with z|z
    ·exact rw' g z
    ·cases List.mem_singleton.mp z
     exact R
   ·obtain ⟨cx,hcx⟩:=D0.cell
    exact Ne.symm (aC hcx hrq)
   ·rw [aA (aC e hrq)]
    exact b4 _ _ (b2 _ _ e ne) ne
  ·rintro σ' H2 ⟨v3,v4,v5,v6,v7,ys,gss,rfl,hq,pr,gl,rw',D2,b2⟩
   exact ⟨_,rfl,k rq ys gss H2 hq pr gl rw' hrq D2 b2⟩
end
theorem _root_.L2.aJ.ofN {X:Cx} {osc sc0 scope:Scope} {N0 own N':List Str} {js:List Nat} {cl:List (Str×Addr)} {C:Addr} {s₀:Shared} {H₀:Hp} {ex:List Addr} (h1:X.env.scope=osc) (h:CZ (Jb sc0 osc) N0 scope own js N'):aJ (aF X sc0 N0 cl C s₀ H₀ ex) scope own js N':=by
 subst h1
 exact aJ.of (osc:=Jb sc0 X.env.scope) (N:=N0) rfl rfl h
theorem G9 {a k n:Int} (h0:0≤a) (h1:a<n) (h2:1≤k) (h3:k<n):0≤(a+k) % n/\(a+k) % n<n/\a≠(a+k) % n:=by
 by_cases h:a+k<n
 ·rw [Int.emod_eq_of_lt (by omega) h]
  omega
 ·have e:(a+k) % n=a+k-n:=by
   rw [show a+k=(a+k-n)+n*1 by omega,Int.add_mul_emod_self_left,Int.emod_eq_of_lt (by omega) (by omega)]
   omega
  rw [e]
  omega
section
variable {P:Program} {w:World} {K:Frag} {mg:Str->Option Value} {base:Heap}
def Gw (K:Frag):Sp:=fun vs H Q _=>∃ (q:Addr) (xs:List V) (cs:List oE),vs=[.ref q]/\aQ K H q xs/\Paired (gK H) xs cs/\cs.length≤100/\∀ r ys H',H' r=some (.lst ys)->Paired (bD H') ys (cs.map fD)->H r=none->ao H H'->Q (.ref r) H'
theorem Nt:aW ["_law_causes_here"] ["_law_causes_here"] (au (top 38)):=⟨rfl,rfl,rfl,by decide +kernel,rfl,by decide +kernel,by decide +kernel⟩
theorem Kh {f:Addr} {fd:FuncData} (F:gA K "_law_ties_by" "_law_ties_by" (top 38) f fd):aN P w K mg base cJ 1 f fd ["_law_causes_here"] (Gw K):=by
 refine F.ok Nt (fun vs H Q E h=>?_) (fun cdv A outer s H vs Q E hr h=>?_)
 ·obtain ⟨q,xs,cs,rfl,_⟩:=h
  rfl
 ·obtain ⟨q,xs,cs,rfl,hq,pc,cl,k⟩:=h
  refine ⟨_,(aB (bF (cG (g:=Pk K) (own:=["_law_one","_law_time","_law_other","_law_second"]) (js:=[]) (N':=["_law_one","_law_time","_law_other","_law_second"]) (aJ.of (osc:=au (top 38)) (N:=["_law_causes_here"]) rfl rfl ⟨rfl,by decide +kernel,by decide +kernel,by decide +kernel,rfl,by decide +kernel⟩) rfl (cD (pv 0))
   (fun _ _ _ _ _=>(eQ rfl (aK (aD (i:=0) (show List.Nodup (["_law_one","_law_time","_law_other","_law_second"]:List Str) by decide +kernel) rfl (Or.inl rfl) (Or.inr rfl)) (aK (aD (i:=1) (show List.Nodup (["_law_one","_law_time","_law_other","_law_second"]:List Str) by decide +kernel) rfl (Or.inl rfl) (Or.inr rfl)) (aK (aD (i:=2) (show List.Nodup (["_law_one","_law_time","_law_other","_law_second"]:List Str) by decide +kernel) rfl (Or.inl rfl) (Or.inr rfl)) (aK (aD (i:=3) (show List.Nodup (["_law_one","_law_time","_law_other","_law_second"]:List Str) by decide +kernel) rfl (Or.inl rfl) (Or.inr rfl)) dD)))))) (fun _ _ _ _ _=>bN)
   (fun _ _ _ _ _=>cz (aa (pv 2) (aa (pv 0) (aa (bj c7 (bj lK (pv 1) (pv 3)) az) ak))))))),?_⟩
  have z3:3≤sizeLine:=by decide
  have xl:=Paired.length pc
  refine ⟨_,rfl,q,rfl,⟨_,hq⟩,?_⟩
  refine d7 (K:=K) (a:=q) (xs:=xs) (fun i ys σ' H2=>(∃ v0 v1 v2 v3,σ'=[v0,v1,v2,v3])/\ao H H2/\Paired (bD H2) ys ((cs.take i).map fD)) (Nat.le_trans (show xs.length≤100 by omega) (by decide)) ⟨⟨none,none,none,none,rfl⟩,ao.refl _,.nil⟩ (fun i ys O H2 _ e=>e.2.1.seq hq) ?_ ?_
  ·rintro i x ys σ' H2 hi hy ⟨⟨v0,v1,v2,v3,rfl⟩,s2,pe⟩ N hN
   obtain ⟨c,hc,b',rfl,hb⟩:=cO (gq s2 pc) hi
   refine ⟨b',_,rfl,cA.of hb,rfl,_,_,rfl,_,_,rfl,_,_,rfl,_,_,rfl,rfl,?_⟩
   refine ⟨_,rfl,_,rfl,_,rfl,_,rfl,_,_,rfl,rfl,_,_,rfl,rfl,z3,fun p hp=>?_⟩
   refine hN _ _ _ (by rw [List.length_append,hy];rfl) ⟨⟨_,_,_,_,rfl⟩,s2.trans (ao.new hp),?_⟩
   rw [List.take_add_one,hc,List.map_append]
   exact Paired.snoc ⟨p,rfl,aj⟩ (a_ (ao.tk (ao.new hp)) pe)
  ·rintro ys σ' H2 hy ⟨⟨v0,v1,v2,v3,rfl⟩,s2,pe⟩
   rw [xl,List.take_length] at pe
   refine ⟨by rw [hy];exact Nat.le_trans (show xs.length≤100 by omega) (by decide),fun r hr'=>?_⟩
   exact k r ys _ aj (a_ (ao.tk (ao.new hr')) pe) (s2.free hr') (s2.trans (ao.new hr'))
def K1 (H:Hp) (v:V):Prop:=∃ (a:Addr) (ns:List Int),v=.ref a/\H a=some (.lst (ns.map V.int))/\ns≠[]/\ns.length≤20/\∀ t∈ns,0≤t/\t≤1000
theorem K1.kp {H H':Hp} {v:V} {p dc:Addr} (h:K1 H v) (D:Dr H p dc) (b:gB p H H'):K1 H' v:=by
 obtain ⟨a,ns,e,h1,h2⟩:=h
 exact ⟨a,ns,e,b _ _ h1 (D.ne h1 (by intro _ z;cases z)),h2⟩
def Jk:Sp:=fun vs H Q _=>∃ (p dc q nq:Addr) (n:Nat) (ys:List V) (gss:List (List Tg)),vs=[.ref p,.int n,.ref q]/\Dr H p dc/\n≤6/\H q=some (.lst ys)/\Paired (RA nq H) ys gss/\gss.length=n/\(∀ gs∈gss,Rw gs 1000 1000 6)/\
 ∀ r xs cs H',H' r=some (.lst xs)->Paired (gK H') xs cs->(∀ c∈cs,Aa n c)->cs.length≤7->H r=none->Dr H' p dc->gB p H H'->Q (.ref r) H'
abbrev Oi:List Str:=["_law_d","_law_lanes","_law_rows","_law_found","_law_times","_law_step","_law_one","_law_other"]
theorem vU:aW Oi ["_law_d","_law_lanes","_law_rows"] (au (top 37)):=⟨rfl,rfl,rfl,by decide +kernel,rfl,by decide +kernel,by decide +kernel⟩
theorem Ja {f fP fO:Addr} {fd fdP fdO:FuncData} (F:gA K "_law_causes" "_law_causes" (top 37) f fd) (T:Txt K mg) (DP:dZ K mg "_law_pick" (top 29) ["_law_d","_law_many"] fP fdP) (DO:dZ K mg "_law_of" (top 30) ["_law_d","_law_things"] fO fdO):aN P w K mg base cJ 3 f fd ["_law_d","_law_lanes","_law_rows"] Jk:=by
 have GP:aN P w K mg base cJ 1 fP fdP ["_law_d","_law_many"] mZ:=mQ DP.F T
 have GO:aN P w K mg base cJ 2 fO fdO ["_law_d","_law_things"] (Bh K):=yc DO.F T DP
 refine F.ok vU (fun vs H Q E h=>?_) (fun cdv A outer s H vs Q E hr h=>?_)
 ·obtain ⟨p,dc,q,nq,n,ys,gss,rfl,_⟩:=h
  rfl
 ·obtain ⟨p,dc,q,nq,n,ys,gss,rfl,D0,n6,hq,pr,gl,rw',k⟩:=h
  have hr1:bL 1 _:=hr.mono (by decide)
  have hr2:bL 2 _:=hr.mono (by decide)
  refine ⟨_,(aq (bf (i:=3) vU.nd rfl (by first|exact Or.inl rfl|exact Or.inr rfl) (bK ak))
   (aq (gU (i:=4) (g:=aU 0) (own:=["_law_told"]) (js:=[0]) (N':=["_law_told","_law_d"]) (aJ.of (osc:=au (top 37)) (N:=Oi) rfl rfl ⟨rfl,by decide +kernel,by decide +kernel,by decide +kernel,rfl,by decide +kernel⟩) rfl vU.nd rfl rfl (gC (K:=K) rfl (pv 2)) (fun _ _ _ _ _=>(aD (i:=0) (show List.Nodup (["_law_told","_law_d"]:List Str) by decide +kernel) rfl (Or.inl rfl) (Or.inr rfl))) (fun _ _ _ _ _=>bN) (fun _ _ _ _ _=>(bj jK (cG (g:=aU 0) (own:=["_law_thing"]) (js:=[]) (N':=["_law_thing"]) (aJ.ofN (osc:=au (top 37)) rfl ⟨rfl,by decide +kernel,by decide +kernel,by decide +kernel,rfl,by decide +kernel⟩) rfl (gC (K:=K) rfl (pv 0)) (fun _ _ _ _ _=>(aD (i:=0) (show List.Nodup (["_law_thing"]:List Str) by decide +kernel) rfl (Or.inl rfl) (Or.inr rfl))) (fun _ _ _ _ _=>iC (aP eY (aY (r:=fj K) aV (pv 0) az (fun _ _=>rfl)) aX (aR _))) (fun _ _ _ _ _=>(aY (r:=fj K) aV (pv 0) az (fun _ _=>rfl)))) (bK (aa (aM GP hr1 rfl DP.mg DP.F.kp DP.b .nil bh (aa (pv 1) (aa az ak))) ak)))))
   (aq (bW (aP uE (pv 1) az (aR _)) (aB (dw PassesOwn.never rfl (bJ rfl T.range (aa (aM GP hr1 rfl DP.mg DP.F.kp DP.b .nil bh (aa (pv 0) (aa az ak))) ak)) (aD (i:=5) vU.nd rfl (by first|exact Or.inl rfl|exact Or.inr rfl))
   (aq (bf (i:=6) vU.nd rfl (by first|exact Or.inl rfl|exact Or.inr rfl) (aM GP hr1 rfl DP.mg DP.F.kp DP.b .nil bh (aa (pv 0) (aa (pv 1) ak))))
   (aq (bf (i:=7) vU.nd rfl (by first|exact Or.inl rfl|exact Or.inr rfl) (bj jV (bj c7 (bj c7 (pv 6) az) (aM GP hr1 rfl DP.mg DP.F.kp DP.b .nil bh (aa (pv 0) (aa (bj lK (pv 1) az) ak)))) (pv 1)))
   (aB (bC (kJ PySem.F.plainAttrs_list PySem.F.slot_list_append PySem.F.type_list_append dO (pv 3) (aa (cz (aa (pv 6) (aa (aM GO hr2 rfl DO.mg DO.F.kp DO.b .nil bh (aa (pv 0) (aa (aY (r:=fj K) aV (pv 4) (pv 6) (fun _ _=>rfl)) ak))) (aa (pv 7) (aa (aM GO hr2 rfl DO.mg DO.F.kp DO.b .nil bh (aa (pv 0) (aa (aY (r:=fj K) aV (pv 4) (pv 7) (fun _ _=>rfl)) ak))) ak))))) ak)))))))) bc)
   (aB (bF (pv 3)))))),?_⟩
  have z0:0≤sizeLine:=by decide
  refine ⟨z0,fun fq hfq=>?_⟩
  dsimp only [aU,List.set]
  have s1:ao H (upd H fq (.lst [])):=ao.new hfq
  have e1:upd H fq (.lst []) fq=some (.lst []):=aj
  have D1:Dr (upd H fq (.lst [])) p dc:=D0.new hfq
  have b1:gB p H (upd H fq (.lst [])):=fun b u e _=>s1 b u e
  have fdc:fq≠dc:=by
   obtain ⟨cx,hcx⟩:=D0.cell
   exact Ne.symm (aC hcx hfq)
  generalize upd H fq (.lst [])=H1 at s1 e1 D1 b1 ⊢
  have yl:=Paired.length pr
  refine bU (fun σ' H'=>∃ (tq:Addr) (zs:List V),σ'=[some (.ref p),some (.int n),some (.ref q),some (.ref fq),some (.ref tq),none,none,none]/\H' tq=some (.lst zs)/\zs.length=n/\(∀ z∈zs,K1 H' z)/\Dr H' p dc/\gB p H1 H'/\H1 tq=none/\(∀ z∈zs,z≠.ref fq)) ?nx1 fun N hN=>?st1
  case st1=>
   refine ⟨_,rfl,q,rfl,⟨_,aQ.of (s1 _ _ hq)⟩,?_⟩
   refine d7 (K:=K) (a:=q) (xs:=ys) (fun i zs σ' H'=>(∃ v,σ'=[v,some (.ref p)])/\Dr H' p dc/\gB p H1 H'/\∀ z∈zs,K1 H' z/\z≠.ref fq) (Nat.le_trans (show ys.length≤6 by omega) (by decide)) ⟨⟨none,rfl⟩,D1,fun b u e _=>e,fun z h=>by simp at h⟩ (fun i zs O H' _ e=>aQ.of (e.2.2.1 _ _ (s1 _ _ hq) (D1.ne (s1 _ _ hq) (by intro _ z;cases z)))) ?_ ?_
   ·rintro i x zs σ' H2 hi hy ⟨⟨v,rfl⟩,D2,b2,tm⟩ M hM
    obtain ⟨gs,hg,a,xs,rfl,_,ha,pt⟩:=cO pr hi
    have R:=rw' gs (List.mem_of_getElem? hg)
    have ha:=b2 _ _ (s1 _ _ ha) (D1.ne (s1 _ _ ha) (by intro _ z;cases z))
    have pt:=gR (TK.but D1 b2) (gR (ao.tk s1) pt)
    have xl:=Paired.length pt
    have gl2:=R.l
    have gn:=R.n
    dsimp only [aU]
    refine ⟨_,rfl,a,rfl,⟨_,aQ.of ha⟩,?_⟩
    refine iR (K:=K) (a:=a) (xs:=xs) (fun j us σ' H'=>(∃ v,σ'=[v])/\H'=H2/\us=(((gs.take j).filterMap nA).map fun e=>e.2).map V.int) (Nat.le_trans (show xs.length≤12 by omega) (by decide)) ⟨⟨none,rfl⟩,rfl,rfl⟩ (fun j us O H' _ e=>by rw [e.2.1];exact aQ.of ha) ?_ ?_
    ·rintro j x us σ' H' hj ⟨⟨v,rfl⟩,rfl,rfl⟩ M2 hM2
     obtain ⟨g,hg2,tg⟩:=cO pt hj
     dsimp only [aU]
     cases g with
     | ev a1 a2 a3 a4 a5=>
       obtain ⟨p',t',rfl,e1',e2'⟩:=tg
       refine aH.op (aH.op (aH.var rfl) aH.con (bQ.ixT (cA.of e1') (aL (j:=0) rfl))) aH.con (bQ.eq rfl) _ ⟨_,rfl,jt (by simp) ?_⟩
       refine aH.op (aH.var rfl) aH.con (bQ.ixT (cA.of e1') (aL (j:=2) rfl)) _ (hM2 _ _ _ ⟨⟨_,rfl⟩,rfl,?_⟩ (by simp))
       rw [List.take_add_one,hg2,List.filterMap_append,List.map_append,List.map_append]
       rfl
     | lo a1=>
       obtain ⟨p',rfl,e1'⟩:=tg
       refine aH.op (aH.op (aH.var rfl) aH.con (bQ.ixT (cA.of e1') (aL (j:=0) rfl))) aH.con (bQ.eq rfl) _ ⟨_,rfl,eG (by rw [decide_eq_false_iff_not];intro z;exact absurd (V.str.inj z) (by decide)) (hM2 _ _ _ ⟨⟨_,rfl⟩,rfl,?_⟩ (by omega))⟩
       rw [List.take_add_one,hg2,List.filterMap_append]
       simp [nA]
    ·rintro us σ' H' hu ⟨⟨v,rfl⟩,rfl,rfl⟩
     have el:gs.take xs.length=gs:=List.take_of_length_le (by omega)
     rw [el]
     have ul:((gs.filterMap nA).map fun e=>e.2).length≤6:=by rw [List.length_map];exact gn
     have ub:∀ t∈(gs.filterMap nA).map (fun e=>e.2),0≤t/\t≤1000:=fun t ht=>by
      obtain ⟨e,he,rfl⟩:=List.mem_map.mp ht
      exact (R.lo e he).2.2
     generalize (gs.filterMap nA).map (fun e=>e.2)=us at ul ub ⊢
     refine ⟨by rw [List.length_map];exact Nat.le_trans ul (by decide),fun l hl=>?_⟩
     have s3:ao H' (upd H' l (.lst (us.map V.int))):=ao.new hl
     have e3:upd H' l (.lst (us.map V.int)) l=some (.lst (us.map V.int)):=aj
     generalize upd H' l (.lst (us.map V.int))=H3 at s3 e3 ⊢
     have D3:=D2.mono s3
     refine ⟨_,rfl,p,dc,_,rfl,D3,by decide,by decide,fun r H4 r0 r1 D4 b4=>⟨(by show 1≤sizeLine;decide),fun l2 hl2=>?_⟩⟩
     have e4:=b4 _ _ e3 (D3.ne e3 (by intro _ z;cases z))
     refine ⟨l,l2,_,_,rfl,rfl,ao.new hl2 _ _ e4,aj,by rw [List.length_map];exact Nat.le_trans (show _≤7 by simp;omega) (by decide),fun l3 hl3=>?_⟩
     have s5:=(ao.new (o:=.lst [V.int r]) hl2).trans (ao.new (o:=.lst (us.map V.int++[V.int r])) hl3)
     have D5:=D4.mono s5
     have bb:gB p H' (upd (upd H4 l2 (.lst [V.int r])) l3 (.lst (us.map V.int++[V.int r]))):=fun b u e ne=>s5 _ _ (b4 _ _ (s3 _ _ e) ne)
     refine hM _ _ _ (by rw [List.length_append,hy];rfl) ⟨⟨_,rfl⟩,D5,b2.trans bb,fun z hz=>?_⟩
     rcases List.mem_append.mp hz with h|h
     ·exact ⟨(tm z h).1.kp D2 bb,(tm z h).2⟩
     ·cases List.mem_singleton.mp h
      refine ⟨⟨l3,us++[r],rfl,by rw [aj,List.map_append];rfl,by simp,by rw [List.length_append,List.length_singleton];omega,fun t ht=>?_⟩,fun z=>?_⟩
      ·rcases List.mem_append.mp ht with h|h
       ·exact ub t h
       ·cases List.mem_singleton.mp h
        omega
      ·have f4:=bb _ _ (b2 _ _ e1 (D1.ne e1 (by intro _ z;cases z))) (D1.ne e1 (by intro _ z;cases z))
       have f5:=ao.new (o:=.lst [V.int r]) hl2 _ _ (b4 _ _ (s3 _ _ (b2 _ _ e1 (D1.ne e1 (by intro _ z;cases z)))) (D1.ne e1 (by intro _ z;cases z)))
       cases z
       rw [hl3] at f5
       cases f5
   ·rintro zs σ' H2 hy ⟨⟨v,rfl⟩,D2,b2,tm⟩
    refine ⟨by rw [hy];exact Nat.le_trans (show ys.length≤6 by omega) (by decide),fun l hl=>?_⟩
    have s3:ao H2 (upd H2 l (.lst zs)):=ao.new hl
    have nl:H1 l=none:=by
     cases hz:H1 l with
     |none=>rfl
     | some u=>
       by_cases e:l=p
       ·obtain ⟨kv,hkv⟩:=D2.dk
        rw [← e,hl] at hkv
        cases hkv
       ·have:=b2 _ _ hz e
        rw [hl] at this
        cases this
    exact hN _ _ ⟨l,zs,rfl,aj,by omega,fun z hz=>(tm z hz).1.kp D2 (fun b u e _=>s3 b u e),D2.mono s3,b2.trans fun b u e _=>s3 b u e,nl,fun z hz=>(tm z hz).2⟩
  rintro σ' H2 ⟨tq,zs,rfl,htq,zl,tm,D2,b2,ntq,zf⟩
  have f2:=b2 _ _ e1 (D1.ne e1 (by intro _ z;cases z))
  have ftq:fq≠tq:=aC e1 ntq
  refine bU (fun σ' H'=>∃ (v5 v6 v7:Option V) (xs:List V) (cs:List oE),σ'=[some (.ref p),some (.int n),some (.ref q),some (.ref fq),some (.ref tq),v5,v6,v7]/\H' fq=some (.lst xs)/\Paired (gK H') xs cs/\(∀ c∈cs,Aa n c)/\cs.length≤7/\Dr H' p dc/\gB p H H') ?nx2 fun N hN=>?st2
  case st2=>
   refine ⟨_,rfl,_,_,rfl,rfl,_,rfl,?_⟩
   refine h_ (fun z=>?_) (fun z=>hN _ _ ⟨none,none,none,[],[],rfl,f2,.nil,fun c h=>by simp at h,by simp,D2,b1.trans b2⟩)
   have n2:2≤n:=by
    have:(1:Int)<n:=by simpa using z
    omega
   refine ⟨_,rfl,p,dc,_,rfl,D2,by decide,by decide,fun r H3 r0 r1 D3 b3=>?_⟩
   have f3:=b3 _ _ f2 (D2.ne f2 (by intro _ z;cases z))
   refine ⟨_,rfl,by omega,by omega,?_⟩
   refine dG (n:=r.toNat) (fun i σ' H'=>∃ (v5 v6 v7:Option V) (xs:List V) (cs:List oE),σ'=[some (.ref p),some (.int n),some (.ref q),some (.ref fq),some (.ref tq),v5,v6,v7]/\H' fq=some (.lst xs)/\Paired (gK H') xs cs/\(∀ c∈cs,Aa n c)/\cs.length=i/\Dr H' p dc/\∀ b u,H2 b=some u->b≠p->b≠fq->H' b=some u) ⟨none,none,none,[],[],rfl,f3,.nil,fun c h=>by simp at h,rfl,D3,fun b u e n1 _=>b3 _ _ e n1⟩ ?_ ?_
   ·rintro i σ' H4 hi ⟨v5,v6,v7,xs,cs,rfl,hf,pc,ok,cl,D4,b4⟩
    have xl:=Paired.length pc
    dsimp only [aU]
    refine ⟨_,rfl,_,rfl,p,dc,_,rfl,D4,by omega,by omega,fun a1 H5 a0 a2 D5 b5=>?_⟩
    refine ⟨_,rfl,_,_,rfl,rfl,_,rfl,_,rfl,_,_,rfl,rfl,p,dc,_,rfl,D5,by omega,by omega,fun k1 H6 k0 k2 D6 b6=>⟨_,_,rfl,rfl,_,rfl,_,_,rfl,rfl,(show (0:Int)<n by omega),?_⟩⟩
    have mm:=G9 (a:=a1) (k:=1+k1) (n:=n) a0 (by omega) (by omega) (by omega)
    rw [← Int.add_assoc] at mm
    dsimp only [aU,List.set]
    generalize (a1+1+k1) % (n:Int)=o1 at mm ⊢
    obtain ⟨m0,m1,m2⟩:=mm
    obtain ⟨a1,rfl⟩:=Int.eq_ofNat_of_zero_le a0
    obtain ⟨o1,rfl⟩:=Int.eq_ofNat_of_zero_le m0
    have b6:gB p H4 H6:=b5.trans b6
    have c6:∀ b u,H2 b=some u->b≠p->b≠fq->H6 b=some u:=fun b u e x1 x2=>b6 _ _ (b4 _ _ e x1 x2) x1
    have hf:=b6 _ _ hf (D4.ne hf (by intro _ z;cases z))
    have pc:=du (fun _ _ ⟨q',e,z⟩=>(⟨q',e,b6 _ _ z (D4.ne z (by intro _ y;cases y))⟩:gK H6 _ _)) pc
    have ht:=c6 _ _ htq (D2.ne htq (by intro _ z;cases z)) (Ne.symm ftq)
    have hA:a1<zs.length:=by omega
    have hB:o1<zs.length:=by omega
    have ea:=List.getElem?_eq_getElem hA
    have eb:=List.getElem?_eq_getElem hB
    generalize zs[a1]=za at ea
    generalize zs[o1]=zb at eb
    have ea':mJ zs (a1:Int)=some za:=aL (j:=a1) ea
    have eb':mJ zs (o1:Int)=some zb:=aL (j:=o1) eb
    obtain ⟨ta,na,rfl,ga,ga1,ga2,ga3⟩:=tm za (List.mem_of_getElem? ea)
    obtain ⟨tb,nb,rfl,gb,gb1,gb2,gb3⟩:=tm zb (List.mem_of_getElem? eb)
    have na1:ta≠fq:=fun e=>zf _ (List.mem_of_getElem? ea) (by rw [e])
    have nb1:tb≠fq:=fun e=>zf _ (List.mem_of_getElem? eb) (by rw [e])
    have ga:=c6 _ _ ga (D2.ne ga (by intro _ z;cases z)) na1
    have gb:=c6 _ _ gb (D2.ne gb (by intro _ z;cases z)) nb1
    refine ⟨_,rfl,.inl ⟨rfl,_,aQ.of hf⟩,_,rfl,_,rfl,?_⟩
    refine aH.op (aH.var rfl) (aH.var rfl) (bQ.ixL (aQ.of ht) ea') _ ?_
    refine ⟨p,dc,ta,_,rfl,D6,aQ.of ga,by simpa using ga1,by rw [List.length_map];omega,fun x1 H7 hx1 D7 b7=>?_⟩
    obtain ⟨t1,ht1,rfl⟩:=List.mem_map.mp hx1
    have u1:=ga3 t1 ht1
    refine ⟨_,rfl,_,rfl,?_⟩
    have ht7:=b7 _ _ ht (D6.ne ht (by intro _ z;cases z))
    have gb7:=b7 _ _ gb (D6.ne gb (by intro _ z;cases z))
    refine aH.op (aH.var rfl) (aH.var rfl) (bQ.ixL (aQ.of ht7) eb') _ ?_
    refine ⟨p,dc,tb,_,rfl,D7,aQ.of gb7,by simpa using gb1,by rw [List.length_map];omega,fun x2 H8 hx2 D8 b8=>?_⟩
    obtain ⟨t2,ht2,rfl⟩:=List.mem_map.mp hx2
    have u2:=gb3 t2 ht2
    refine ⟨(by show 4≤sizeLine;decide),fun pe hpe=>?_⟩
    have s9:ao H8 (upd H8 pe (.tup [.int a1,.int t1,.int o1,.int t2])):=ao.new hpe
    have e9:upd H8 pe (.tup [.int a1,.int t1,.int o1,.int t2]) pe=some (.tup [.int a1,.int t1,.int o1,.int t2]):=aj
    have D9:Dr (upd H8 pe (.tup [.int a1,.int t1,.int o1,.int t2])) p dc:=D8.new hpe
    generalize upd H8 pe (.tup [.int a1,.int t1,.int o1,.int t2])=H9 at s9 e9 D9 ⊢
    have b9:gB p H6 H9:=(b7.trans b8).trans fun b u e _=>s9 b u e
    have hf:=b9 _ _ hf (D6.ne hf (by intro _ z;cases z))
    have pc:=du (fun _ _ ⟨q',e,z⟩=>(⟨q',e,b9 _ _ z (D6.ne z (by intro _ y;cases y))⟩:gK H9 _ _)) pc
    refine ⟨fq,_,_,rfl,rfl,hf,Nat.lt_of_le_of_lt (show _≤20 by omega) (by decide),?_⟩
    have kq:TK H9 (upd H9 fq (.lst (xs++[.ref pe]))):=fun b zs e=>by
     rw [aA (fV e hf (by intro z;cases z))]
     exact e
    refine ⟨_,_,_,xs++[.ref pe],cs++[⟨a1,t1,o1,t2⟩],rfl,aj,Paired.snoc ⟨pe,rfl,kq _ _ e9⟩ (du (fun _ _ ⟨q',e,z⟩=>⟨q',e,kq _ _ z⟩) pc),fun c hc=>?_,by rw [List.length_append,cl];rfl,D9.put (D9.ne hf (by intro _ z;cases z)) fdc,fun b u e x1 x2=>?_⟩
    ·rcases List.mem_append.mp hc with h|h
     ·exact ok c h
     ·cases List.mem_singleton.mp h
      exact ⟨⟨by omega,by omega⟩,⟨by omega,by omega⟩,m2,⟨u1.1,Int.lt_of_le_of_lt u1.2 (by decide)⟩,⟨u2.1,Int.lt_of_le_of_lt u2.2 (by decide)⟩⟩
    ·rw [aA x2]
     exact b9 _ _ (c6 _ _ e x1 x2) x1
   ·rintro σ' H4 ⟨v5,v6,v7,xs,cs,rfl,hf,pc,ok,cl,D4,b4⟩
    exact hN _ _ ⟨_,_,_,xs,cs,rfl,hf,pc,ok,by omega,D4,fun b u e ne=>b4 _ _ (b2 _ _ (b1 _ _ e ne) ne) ne (aC e hfq)⟩
  rintro σ' H3 ⟨v5,v6,v7,xs,cs,rfl,hf,pc,ok,cl,D3,b3⟩
  exact ⟨_,rfl,k fq xs cs H3 hf pc ok cl hfq D3 b3⟩
end
theorem _root_.L2.sl_tupK {X:Cx} {K:Frag} (hK:X.K=K):Ke X (Gf K):=by
 subst hK
 exact Ax
theorem _root_.L2.op_eqDK {X:Cx} {K:Frag} (hK:X.K=K) (hu:X.A.units+64<cLine):jy X (compareOp .Eq) (Eo K):=by
 subst hK
 exact oA hu
theorem _root_.L2.op_neTK {X:Cx} {K:Frag} (hK:X.K=K) (hu:X.A.units+64<cLine):jy X (compareOp .NotEq) (Ii K):=by
 subst hK
 exact Do hu
theorem rZ {α β:Type} [DecidableEq β] {f:α->β}:∀ {l:List α},(l.map f).Nodup->∀ {x:α},x∈l->l.filter (fun y=>decide (f y=f x))=[x]
 | a::r,h,x,m=>by
   rw [List.map_cons,List.nodup_cons] at h
   rcases List.mem_cons.mp m with e|m
   ·subst e
    rw [List.filter_cons_of_pos (by simp),List.filter_eq_nil_iff.mpr]
    intro y hy z
    exact h.1 (List.mem_map.mpr ⟨y,hy,by simpa using z⟩)
   ·rw [List.filter_cons_of_neg,rZ h.2 m]
    intro z
    exact h.1 (List.mem_map.mpr ⟨x,m,by rw [of_decide_eq_true z]⟩)
theorem xj {ns:List Int} {l:List t8} (h:(l.map fun x=>(x.1,x.2.2.1)).Nodup):(l.map (bB ns)).Nodup:=by
 rw [List.Nodup,List.pairwise_map] at h ⊢
 refine h.imp fun {a b} ne e=>ne ?_
 simp only [bB,Prod.mk.injEq] at e
 rw [e.2.2,show a.1=b.1 by omega]
theorem pJ (rs:List (List lJ)) {i:Nat}:∀ {n:Nat},i≤n->(dF rs i).length≤(dF rs n).length
 |0,h=>by rw [Nat.le_zero.mp h];exact Nat.le_refl _
 | n+1,h=>by
   by_cases e:i=n+1
   ·rw [e];exact Nat.le_refl _
   ·have:=pJ rs (i:=i) (n:=n) (by omega)
    rw [iD,List.length_append]
    omega
def qx (t:j_):List PyData:=[.int t.1,.int t.2.1,.int t.2.2]
theorem uN (a b:j_):cQ (qx a) (qx b)=decide (a=b):=by
 obtain ⟨a1,a2,a3⟩:=a
 obtain ⟨b1,b2,b3⟩:=b
 by_cases h:(a1,a2,a3)=(b1,b2,b3)
 ·cases h
  simp [qx,cQ,dY]
 ·rw [decide_eq_false h]
  refine Bool.eq_false_iff.mpr fun z=>h ?_
  simp [qx,cQ,dY] at z
  rw [z.1,z.2.1,z.2.2]
theorem lu {K:Frag} {H:Hp} {b:Addr} {t:j_} (h:cA K H b (j8 t)):Rep K H (.ref b) (.tuple (qx t)):=.tup h (.cons (.int _) (.cons (.int _) (.cons (.int _) .nil)))
def CV (ns:List Int) (H:Hp) (v:V) (x:t8):Prop:=∃ b,v=.ref b/\H b=some (.tup [.int (bB ns x).1,.int x.1,.int x.2.2.1,x.2.1])
theorem je {ns:List Int} {H H':Hp} (k:TK H H') {vs:List V} {ps:List t8} (h:Paired (CV ns H) vs ps):Paired (CV ns H') vs ps:=du (fun _ _ ⟨b,e,z⟩=>⟨b,e,k _ _ z⟩) h
theorem yf {K:Frag} {H:Hp} {Q:VK} {ns:List Int} {b:Addr} {x:t8} (hb:H b=some (.tup [.int (bB ns x).1,.int x.1,.int x.2.2.1,x.2.1])) (h:∀ p,H p=none->Q (.ref p) (upd H p (.tup (j8 (bB ns x))))):Gf K (.ref b) none (some 3) H Q:=⟨b,_,rfl,cA.of hb,⟨fun e=>absurd (show (3:Nat)=4 from congrArg List.length e) (by decide),fun p hp=>h p hp⟩⟩
def Kz (H:Hp) (v:V) (t:j_):Prop:=∃ b,v=.ref b/\H b=some (.tup (j8 t))
theorem lO {H H':Hp} (s:ao H H') {vs:List V} {ts:List j_} (h:Paired (Kz H) vs ts):Paired (Kz H') vs ts:=du (fun _ _ ⟨b,e,z⟩=>⟨b,e,s _ _ z⟩) h
theorem Ad {K:Frag} {H:Hp} {vs:List V} {ts:List j_} (h:Paired (Kz H) vs ts):Paired (yw K H) vs ts:=du (fun _ _ ⟨b,e,z⟩=>⟨b,e,cA.of z⟩) h
section
variable {P:Program} {w:World} {K:Frag} {mg:Str->Option Value} {base:Heap}
def Ib (K:Frag):Sp:=fun vs H Q _=>∃ (q r:Addr) (ys:List V) (rs:List (List lJ)) (ns:List Int),vs=[.ref q,.ref r]/\jX K H q ys rs/\aQ K H r (ns.map V.int)/\ns.length=rs.length/\
 ∀ l vs ps H',ps.Perm (dF rs rs.length)->ps.Pairwise (fun a b=>eN (bB ns a)<eN (bB ns b))->H' l=some (.lst vs)->Paired (uM H') vs ps->H l=none->ao H H'->Q (.ref l) H'
abbrev Ko:List Str:=["_law_rows","_law_row","_law_found","_law_lane","_law_thing","_law_laid_here","_law_step","_law_first"]
theorem q_:aW Ko ["_law_rows","_law_row"] (au (top 39)):=⟨rfl,rfl,rfl,by decide +kernel,rfl,by decide +kernel,by decide +kernel⟩
theorem K6 {f:Addr} {fd:FuncData} (F:gA K "_law_laid" "_law_laid" (top 39) f fd) (T:Txt K mg):aN P w K mg base cJ 1 f fd ["_law_rows","_law_row"] (Ib K):=by
 refine F.ok q_ (fun vs H Q E h=>?_) (fun cdv A outer s H vs Q E hr h=>?_)
 ·obtain ⟨q,r,ys,rs,ns,rfl,_⟩:=h
  rfl
 ·obtain ⟨q,r,ys,rs,ns,rfl,R,hr',nl,k⟩:=h
  refine ⟨_,(aq (bf (i:=2) q_.nd rfl (by first|exact Or.inl rfl|exact Or.inr rfl) (bK ak))
   (aq (dw PassesOwn.never rfl (bJ rfl T.range (aa (aG aO (by rfl) T.len cu (aa (pv 0) ak)) ak)) (aD (i:=3) q_.nd rfl (by first|exact Or.inl rfl|exact Or.inr rfl))
   (aB (dw PassesOwn.never rfl (gC (K:=K) rfl (aY (r:=fj K) aV (pv 0) (pv 3) (fun _ _=>rfl))) (aD (i:=4) q_.nd rfl (by first|exact Or.inl rfl|exact Or.inr rfl))
   (aB (bW (aP eY (aY (r:=fj K) aV (pv 4) az (fun _ _=>rfl)) aX (aR _)) (aB (bC (kJ PySem.F.plainAttrs_list PySem.F.slot_list_append PySem.F.type_list_append dO (pv 2) (aa (cz (aa (bj c7 (aY (r:=fj K) aV (pv 4) az (fun _ _=>rfl)) (aY (r:=fj K) aV (pv 1) (pv 3) (fun _ _=>rfl))) (aa (pv 3) (aa (aY (r:=fj K) aV (pv 4) az (fun _ _=>rfl)) (aa (pv 4) ak))))) ak)))) bc)))))
   (aq (bf (i:=5) q_.nd rfl (by first|exact Or.inl rfl|exact Or.inr rfl) (bK ak))
   (aq (dw PassesOwn.never rfl (bJ rfl T.range (aa (aG aO (by rfl) T.len cu (aa (pv 2) ak)) ak)) (aD (i:=6) q_.nd rfl (by first|exact Or.inl rfl|exact Or.inr rfl))
   (aq (bf (i:=7) q_.nd rfl (by first|exact Or.inl rfl|exact Or.inr rfl) (aG (vK (K:=K) rfl rfl hr.units) (by rfl) T.min FJ (aa (cG (g:=aU 0) (own:=["_law_one"]) (js:=[]) (N':=["_law_one"]) (aJ.of (osc:=au (top 39)) (N:=Ko) rfl rfl ⟨rfl,by decide +kernel,by decide +kernel,by decide +kernel,rfl,by decide +kernel⟩) rfl (gC (K:=K) rfl (pv 2)) (fun _ _ _ _ _=>(aD (i:=0) (show List.Nodup (["_law_one"]:List Str) by decide +kernel) rfl (Or.inl rfl) (Or.inr rfl))) (fun _ _ _ _ _=>bN) (fun _ _ _ _ _=>(i_ (sl_tupK (K:=K) rfl) (pv 0) km (kh az)))) ak)))
   (aq (bC (kJ PySem.F.plainAttrs_list PySem.F.slot_list_extend PySem.F.type_list_extend xF (pv 5) (aa (cG (g:=aU 0) (own:=["_law_one"]) (js:=[7]) (N':=["_law_one","_law_first"]) (aJ.of (osc:=au (top 39)) (N:=Ko) rfl rfl ⟨rfl,by decide +kernel,by decide +kernel,by decide +kernel,rfl,by decide +kernel⟩) rfl (gC (K:=K) rfl (pv 2)) (fun _ _ _ _ _=>(aD (i:=0) (show List.Nodup (["_law_one","_law_first"]:List Str) by decide +kernel) rfl (Or.inl rfl) (Or.inr rfl))) (fun _ _ _ _ _=>iC (aP (op_eqDK (K:=K) rfl hr.units) (i_ (sl_tupK (K:=K) rfl) (pv 0) km (kh az)) (pv 1) (aR _))) (fun _ _ _ _ _=>(cz (aa (aY (r:=fj K) aV (pv 0) az (fun _ _=>rfl)) (aa (aY (r:=fj K) aV (pv 0) az (fun _ _=>rfl)) ak))))) ak)))
   (aB (gU (i:=2) (g:=aU 0) (own:=["_law_one"]) (js:=[7]) (N':=["_law_one","_law_first"]) (aJ.of (osc:=au (top 39)) (N:=Ko) rfl rfl ⟨rfl,by decide +kernel,by decide +kernel,by decide +kernel,rfl,by decide +kernel⟩) rfl q_.nd rfl rfl (gC (K:=K) rfl (pv 2)) (fun _ _ _ _ _=>(aD (i:=0) (show List.Nodup (["_law_one","_law_first"]:List Str) by decide +kernel) rfl (Or.inl rfl) (Or.inr rfl))) (fun _ _ _ _ _=>iC (aP (op_neTK (K:=K) rfl hr.units) (i_ (sl_tupK (K:=K) rfl) (pv 0) km (kh az)) (pv 1) (aR _))) (fun _ _ _ _ _=>pv 0))))))
   (aB (bF (pv 5))))))),?_⟩
  have z0:0≤sizeLine:=by decide
  have few:=R.few
  have yl:=Paired.length R.at_
  have all64:=R.all
  refine ⟨z0,fun fq hfq=>?_⟩
  have s1:ao H (upd H fq (.lst [])):=ao.new hfq
  have e1:upd H fq (.lst []) fq=some (.lst []):=aj
  generalize upd H fq (.lst [])=H1 at s1 e1 ⊢
  dsimp only [aU,List.set]
  refine bU (fun σ' H'=>∃ (v3 v4:Option V) (us:List V),σ'=[some (.ref q),some (.ref r),some (.ref fq),v3,v4,none,none,none]/\H' fq=some (.lst us)/\Paired (CV ns H') us (dF rs rs.length)/\ao H H') ?nx1 fun N hN=>?st1
  case st1=>
   refine ⟨_,rfl,q,_,rfl,.inl (s1.seq R.sq),(rs.length:Int),by rw [yl],by omega,by omega,?_⟩
   refine dG (n:=(rs.length:Int).toNat) (fun i σ' H'=>∃ (v3 v4:Option V) (us:List V),σ'=[some (.ref q),some (.ref r),some (.ref fq),v3,v4,none,none,none]/\H' fq=some (.lst us)/\Paired (CV ns H') us (dF rs i)/\ao H H') ⟨none,none,[],rfl,e1,.nil,s1⟩ ?_ ?_
   ·rintro i σ' H2 hi ⟨v3,v4,us,rfl,hf,pf,s2⟩
    have hi':i<rs.length:=by omega
    have hy:i<ys.length:=by omega
    have ey:=List.getElem?_eq_getElem hy
    generalize ys[i]=y at ey
    obtain ⟨row,hrow,a,rfl,ha,ev⟩:=cO R.at_ ey
    have er:rs.getD i []=row:=by rw [List.getD_eq_getElem?_getD,hrow];rfl
    have m1:=pJ rs (show i+1≤rs.length by omega)
    rw [iD,er,List.length_append] at m1
    dsimp only [aU,List.set]
    rw [Int.zero_add]
    refine aH.op (aH.var rfl) (aH.var rfl) (bQ.ixL (s2.seq R.sq) (aL (j:=i) ey)) _ ⟨a,rfl,⟨_,aQ.of (s2 _ _ ha)⟩,?_⟩
    refine e_ (K:=K) (a:=a) (xs:=row.map (·.1)) (fun j σ' H'=>∃ (v4:Option V) (us:List V),σ'=[some (.ref q),some (.ref r),some (.ref fq),some (.int i),v4,none,none,none]/\H' fq=some (.lst us)/\Paired (CV ns H') us (dF rs i++cX i (row.take j))/\ao H H') ⟨_,us,rfl,hf,by rw [List.take_zero];exact (List.append_nil (dF rs i)).symm ▸ pf,s2⟩ (fun j O H' _ ⟨_,_,_,_,_,s3⟩=>aQ.of (s3 _ _ ha)) ?_ ?_
    ·rintro j x σ' H3 hj ⟨v4,us,rfl,hf,pf,s3⟩
     rw [List.getElem?_map] at hj
     obtain ⟨⟨v,o⟩,hg,rfl⟩:=Option.map_eq_some_iff.mp hj
     obtain ⟨p',e',z⟩:=ev _ (List.mem_of_getElem? hg)
     dsimp only at e'
     subst e'
     have ul:=Paired.length pf
     have rt:(cX i (row.take j)).length≤(cX i row).length:=by
      unfold cX
      exact ((List.take_sublist j row).filterMap _).length_le
     rw [List.length_append] at ul
     dsimp only [aU,List.set]
     cases o with
     | some it=>
       obtain ⟨rest,hz⟩:=z
       have hz:=s3 _ _ hz
       refine aH.op (aH.op (aH.var rfl) aH.con (bQ.ixT (cA.of hz) (aL (j:=0) rfl))) aH.con (bQ.eq rfl) _ ⟨_,rfl,jt (by simp) ?_⟩
       refine ⟨_,rfl,.inl ⟨rfl,_,aQ.of hf⟩,?_⟩
       refine aH.op (aH.op (aH.var rfl) aH.con (bQ.ixT (cA.of hz) (aL (j:=2) rfl))) (aH.op (aH.var rfl) (aH.var rfl) (bQ.ixL (s3.seq hr') (iQ (by omega) (by omega)))) bQ.i0 _ ⟨_,rfl,?_⟩
       refine aH.op (aH.var rfl) aH.con (bQ.ixT (cA.of hz) (aL (j:=1) rfl)) _ ⟨_,rfl,(by show 4≤sizeLine;decide),fun pe hpe=>?_⟩
       rw [Int.toNat_natCast,Int.add_comm]
       have s4:ao H3 (upd H3 pe (.tup [.int (ns.getD i 0+it.2),.int i,.int it.1,.ref p'])):=ao.new hpe
       have e4:upd H3 pe (.tup [.int (ns.getD i 0+it.2),.int i,.int it.1,.ref p']) pe=some (.tup [.int (ns.getD i 0+it.2),.int i,.int it.1,.ref p']):=aj
       generalize upd H3 pe (.tup [.int (ns.getD i 0+it.2),.int i,.int it.1,.ref p'])=H4 at s4 e4 ⊢
       have hf4:=s4 _ _ hf
       refine ⟨fq,_,_,rfl,rfl,hf4,Nat.lt_of_le_of_lt (show _≤64 by omega) (by decide),?_⟩
       have kq:TK H4 (upd H4 fq (.lst (us++[.ref pe]))):=fun b zs e=>by
        rw [aA (fV e hf4 (by intro z;cases z))]
        exact e
       refine ⟨_,us++[.ref pe],rfl,aj,?_,fun b u e=>?_⟩
       ·have e5:dF rs i++cX i (row.take (j+1))=(dF rs i++cX i (row.take j))++[(i,.ref p',it.1,it.2)]:=by
         unfold cX
         rw [List.take_add_one,hg,List.filterMap_append,List.append_assoc]
         rfl
        rw [e5]
        exact Paired.snoc ⟨pe,rfl,kq _ _ e4⟩ (je kq (je (ao.tk s4) pf))
       ·rw [aA (aC e hfq)]
        exact s4 _ _ (s3 _ _ e)
     | none=>
       obtain ⟨kk,rest,hz,ne⟩:=z
       have hz:=s3 _ _ hz
       refine aH.op (aH.op (aH.var rfl) aH.con (bQ.ixT (cA.of hz) (aL (j:=0) rfl))) aH.con (bQ.eq rfl) _ ⟨_,rfl,eG (by simpa using ne) ⟨_,us,rfl,hf,?_,s3⟩⟩
       have e5:cX i (row.take (j+1))=cX i (row.take j):=by
        unfold cX
        rw [List.take_add_one,hg,List.filterMap_append]
        simp
       rw [e5]
       exact pf
    ·rintro σ' H3 ⟨v4,us,rfl,hf,pf,s3⟩
     rw [List.length_map,List.take_length,← er,← iD] at pf
     exact ⟨_,_,us,rfl,hf,pf,s3⟩
   ·rintro σ' H2 ⟨v3,v4,us,rfl,hf,pf,s2⟩
    rw [Int.toNat_natCast] at pf
    exact hN _ _ ⟨v3,v4,us,rfl,hf,pf,s2⟩
  rintro σ' H2 ⟨v3,v4,us,rfl,hf,pf,s2⟩
  have ul:=Paired.length pf
  have trok:∀ x∈dF rs rs.length,lE (bB ns x):=fun x hx=>by
   have h1:=(qD hx).1
   have h2:=R.pl x hx
   exact ⟨by simp only [bB];omega,by simp only [bB];omega⟩
  have nd:=R.nd
  have nd:=xj (ns:=ns) nd
  generalize dF rs rs.length=ev at *
  refine ⟨z0,fun lq hlq=>?_⟩
  have s3:ao H2 (upd H2 lq (.lst [])):=ao.new hlq
  have e3:upd H2 lq (.lst []) lq=some (.lst []):=aj
  have nlq:H lq=none:=s2.free hlq
  have flq:fq≠lq:=aC hf hlq
  generalize upd H2 lq (.lst [])=H3 at s3 e3 ⊢
  have hf:=s3 _ _ hf
  have pf:=je (ao.tk s3) pf
  have s3:=s2.trans s3
  dsimp only [aU,List.set]
  refine ⟨_,rfl,fq,_,rfl,.inl (aQ.of hf),(ev.length:Int),by rw [ul],by omega,by omega,?_⟩
  refine dG (n:=(ev.length:Int).toNat) (fun i σ' H'=>∃ (fq':Addr) (v6 v7:Option V) (us ws:List V) (fs ls:List t8),σ'=[some (.ref q),some (.ref r),some (.ref fq'),v3,v4,some (.ref lq),v6,v7]/\H' fq'=some (.lst us)/\Paired (CV ns H') us fs/\H' lq=some (.lst ws)/\Paired (uM H') ws ls/\fs.length+i=ev.length/\(ls++fs).Perm ev/\ls.Pairwise (fun a b=>eN (bB ns a)<eN (bB ns b))/\(∀ a∈ls,∀ b∈fs,eN (bB ns a)<eN (bB ns b))/\ao H H'/\fq'≠lq) ⟨fq,none,none,us,[],ev,[],rfl,hf,pf,e3,.nil,by omega,List.Perm.refl _,.nil,fun a h=>by simp at h,s3,flq⟩ ?_ ?_
  ·rintro i σ' H4 hi ⟨fq',v6,v7,us,ws,fs,ls,rfl,hf,pf,hl,pl,fl,pm,ps,lt,s4,ne⟩
   have ul:=Paired.length pf
   have wl:=Paired.length pl
   have pml:=pm.length_eq
   rw [List.length_append] at pml
   have fne:fs≠[]:=fun z=>by rw [z] at fl;simp at fl;omega
   have mem:∀ x∈fs,x∈ev:=fun x hx=>pm.mem_iff.mp (List.mem_append_right _ hx)
   have ndf:(fs.map (bB ns)).Nodup:=by
    have:=(pm.map (bB ns)).nodup_iff.mpr nd
    rw [List.map_append,List.nodup_append] at this
    exact this.2.1
   dsimp only [aU,List.set]
   refine bU (fun σ' H'=>∃ (b:Addr) (x0:t8),σ'=[some (.ref q),some (.ref r),some (.ref fq'),v3,v4,some (.ref lq),some (.int (0+(i:Int))),some (.ref b)]/\H' b=some (.tup (j8 (bB ns x0)))/\x0∈fs/\(∀ y∈fs,eN (bB ns x0)≤eN (bB ns y))/\ao H4 H') ?nx2 fun N hN=>?st2
   case st2=>
    refine ⟨_,rfl,fq',rfl,⟨_,aQ.of hf⟩,?_⟩
    refine d7 (K:=K) (a:=fq') (xs:=us) (fun j zs σ' H'=>(∃ v,σ'=[v])/\ao H4 H'/\Paired (Kz H') zs ((fs.take j).map (bB ns))) (Nat.le_trans (show us.length≤64 by omega) (by decide)) ⟨⟨none,rfl⟩,ao.refl _,.nil⟩ (fun j zs O H' _ e=>aQ.of (e.2.1 _ _ hf)) ?_ ?_
    ·rintro j x zs σ' H5 hj hz ⟨⟨v,rfl⟩,s5,pz⟩ M hM
     obtain ⟨y,hy,b,rfl,hb⟩:=cO pf hj
     dsimp only [aU]
     refine ⟨_,rfl,_,rfl,yf (s5 _ _ hb) fun p hp=>?_⟩
     refine hM _ _ _ (by rw [List.length_append,hz];rfl) ⟨⟨_,rfl⟩,s5.trans (ao.new hp),?_⟩
     rw [List.take_add_one,hy,List.map_append]
     exact Paired.snoc ⟨p,rfl,aj⟩ (lO (ao.new hp) pz)
    ·rintro zs σ' H5 hz ⟨⟨v,rfl⟩,s5,pz⟩
     rw [ul,List.take_length] at pz
     have zl:=Paired.length pz
     rw [List.length_map] at zl
     refine ⟨by rw [hz];exact Nat.le_trans (show us.length≤64 by omega) (by decide),fun l hl'=>?_⟩
     have s6:ao H5 (upd H5 l (.lst zs)):=ao.new hl'
     refine ⟨l,zs,_,rfl,aQ.of aj,Ad (lO s6 pz),fun t ht=>?_,fun z=>?_,fun i0 v t ev' et hmin=>?_⟩
     ·obtain ⟨x,hx,rfl⟩:=List.mem_map.mp ht
      exact trok x (mem x hx)
     ·rw [z] at zl
      exact fne (List.length_eq_zero_iff.mp zl.symm)
     ·obtain ⟨t',et',b,rfl,hb⟩:=cO (lO s6 pz) ev'
      rw [et] at et'
      cases et'
      rw [List.getElem?_map] at et
      obtain ⟨x0,hx0,rfl⟩:=Option.map_eq_some_iff.mp et
      exact hN _ _ ⟨b,x0,rfl,hb,List.mem_of_getElem? hx0,fun y hy=>hmin _ (List.mem_map.mpr ⟨y,hy,rfl⟩),s5.trans s6⟩
   rintro σ' H5 ⟨b0,x0,rfl,hb0,mx,min,s5⟩
   have hf:=s5 _ _ hf
   have pf:=je (ao.tk s5) pf
   have hl:=s5 _ _ hl
   have pl:=d9 (ao.tk s5) pl
   have s5:=s4.trans s5
   clear s4
   have one:=rZ ndf mx
   refine bU (fun σ' H'=>∃ (ws':List V),σ'=[some (.ref q),some (.ref r),some (.ref fq'),v3,v4,some (.ref lq),some (.int (0+(i:Int))),some (.ref b0)]/\H' fq'=some (.lst us)/\Paired (CV ns H') us fs/\H' lq=some (.lst ws')/\Paired (uM H') ws' (ls++[x0])/\H' b0=some (.tup (j8 (bB ns x0)))/\ao H H') ?nx3 fun N hN=>?st3
   case st3=>
    refine ⟨_,rfl,.inl ⟨rfl,_,aQ.of hl⟩,_,rfl,fq',rfl,⟨_,aQ.of hf⟩,?_⟩
    refine iR (K:=K) (a:=fq') (xs:=us) (fun j zs σ' H'=>(∃ v,σ'=[v,some (.ref b0)])/\ao H5 H'/\Paired (uM H') zs ((fs.take j).filter fun y=>decide (bB ns y=bB ns x0))) (Nat.le_trans (show us.length≤64 by omega) (by decide)) ⟨⟨none,rfl⟩,ao.refl _,.nil⟩ (fun j zs O H' _ e=>aQ.of (e.2.1 _ _ hf)) ?_ ?_
    ·rintro j x zs σ' H6 hj ⟨⟨v,rfl⟩,s6,pz⟩ M hM
     obtain ⟨y,hy,b,rfl,hb⟩:=cO pf hj
     dsimp only [aU]
     refine ⟨_,rfl,_,rfl,yf (s6 _ _ hb) fun p hp=>⟨_,rfl,_,_,lu (cA.of aj),lu (cA.of ((s6.trans (ao.new hp)) _ _ hb0)),by simp [dm,bH,qx],_,rfl,?_⟩⟩
     have s7:=s6.trans (ao.new (o:=.tup (j8 (bB ns y))) hp)
     have pz7:=d9 (ao.tk (ao.new (o:=.tup (j8 (bB ns y))) hp)) pz
     generalize upd H6 p (.tup (j8 (bB ns y)))=H7 at s7 pz7 ⊢
     rw [show dY (.tuple (qx (bB ns y))) (.tuple (qx (bB ns x0)))=decide (bB ns y=bB ns x0) from uN _ _]
     refine h_ (fun z=>?_) (fun z=>?_)
     ·have hb7:=s7 _ _ hb
      refine aH.op (aH.var rfl) aH.con (bQ.ixT (cA.of hb7) (aL (j:=1) rfl)) _ ?_
      refine aH.op (aH.var rfl) aH.con (bQ.ixT (cA.of hb7) (aL (j:=3) rfl)) _ ⟨(by show 2≤sizeLine;decide),fun p2 hp2=>?_⟩
      refine hM _ _ _ ⟨⟨_,rfl⟩,s7.trans (ao.new hp2),?_⟩ (by simp)
      rw [List.take_add_one,hy,List.filter_append,Option.toList_some,List.filter_cons_of_pos (p:=fun y=>decide (bB ns y=bB ns x0)) z]
      exact Paired.snoc ⟨p2,rfl,aj⟩ (d9 (ao.tk (ao.new hp2)) pz7)
     ·refine hM _ _ _ ⟨⟨_,rfl⟩,s7,?_⟩ (by omega)
      rw [List.take_add_one,hy,List.filter_append,Option.toList_some,List.filter_cons_of_neg (p:=fun y=>decide (bB ns y=bB ns x0)) z,List.filter_nil,List.append_nil]
      exact pz7
    ·rintro zs σ' H6 hz ⟨⟨v,rfl⟩,s6,pz⟩
     rw [ul,List.take_length,one] at pz
     have zl:=Paired.length pz
     rw [List.length_singleton] at zl
     refine ⟨by rw [zl];decide,fun l hl'=>?_⟩
     have s7:ao H6 (upd H6 l (.lst zs)):=ao.new hl'
     have e7:upd H6 l (.lst zs) l=some (.lst zs):=aj
     have lne:lq≠l:=aC (s6 _ _ hl) hl'
     generalize upd H6 l (.lst zs)=H7 at s7 e7 ⊢
     have s57:=s6.trans s7
     have hl7:=s57 _ _ hl
     refine ⟨lq,l,_,_,rfl,rfl,hl7,e7,?_,hN _ _ ?_⟩
     ·exact Nat.le_trans (show _≤200 by omega) (by decide)
     ·have kq:TK H7 (upd H7 lq (.lst (ws++zs))):=fun b zs' e=>by
       rw [aA (fV e hl7 (by intro z;cases z))]
       exact e
      refine ⟨ws++zs,rfl,by rw [aA ne];exact s57 _ _ hf,je kq (je (ao.tk s57) pf),aj,Paired.app (d9 kq (d9 (ao.tk s7) pz)) (d9 kq (d9 (ao.tk s57) pl)),?_,fun b u e=>?_⟩
      ·exact kq _ _ (s57 _ _ hb0)
      ·rw [aA (aC e nlq)]
       exact s57 _ _ (s5 _ _ e)
   rintro σ' H6 ⟨ws',rfl,hf,pf,hl,pl,hb0,s6⟩
   refine ⟨_,rfl,fq',rfl,⟨_,aQ.of hf⟩,?_⟩
   refine iR (K:=K) (a:=fq') (xs:=us) (fun j zs σ' H'=>(∃ v,σ'=[v,some (.ref b0)])/\ao H6 H'/\Paired (CV ns H') zs ((fs.take j).filter fun y=>!decide (bB ns y=bB ns x0))) (Nat.le_trans (show us.length≤64 by omega) (by decide)) ⟨⟨none,rfl⟩,ao.refl _,.nil⟩ (fun j zs O H' _ e=>aQ.of (e.2.1 _ _ hf)) ?_ ?_
   ·rintro j x zs σ' H7 hj ⟨⟨v,rfl⟩,s7,pz⟩ M hM
    obtain ⟨y,hy,b,rfl,hb⟩:=cO pf hj
    dsimp only [aU]
    refine ⟨_,rfl,_,rfl,yf (s7 _ _ hb) fun p hp=>⟨_,rfl,_,_,lu (cA.of aj),lu (cA.of ((s7.trans (ao.new hp)) _ _ hb0)),by simp [dm,bH,qx],_,rfl,?_⟩⟩
    have s8:=s7.trans (ao.new (o:=.tup (j8 (bB ns y))) hp)
    have pz8:=je (ao.tk (ao.new (o:=.tup (j8 (bB ns y))) hp)) pz
    generalize upd H7 p (.tup (j8 (bB ns y)))=H8 at s8 pz8 ⊢
    rw [uN]
    refine h_ (fun z=>?_) (fun z=>?_)
    ·refine ⟨_,rfl,hM _ _ _ ⟨⟨_,rfl⟩,s8,?_⟩ (by simp)⟩
     rw [List.take_add_one,hy,List.filter_append,Option.toList_some,List.filter_cons_of_pos (p:=fun y=>!decide (bB ns y=bB ns x0)) z]
     exact Paired.snoc ⟨b,rfl,s8 _ _ hb⟩ pz8
    ·refine hM _ _ _ ⟨⟨_,rfl⟩,s8,?_⟩ (by omega)
     rw [List.take_add_one,hy,List.filter_append,Option.toList_some,List.filter_cons_of_neg (p:=fun y=>!decide (bB ns y=bB ns x0)) z,List.filter_nil,List.append_nil]
     exact pz8
   ·rintro zs σ' H7 hz ⟨⟨v,rfl⟩,s7,pz⟩
    rw [ul,List.take_length] at pz
    refine ⟨Nat.le_trans hz (Nat.le_trans (show us.length≤64 by omega) (by decide)),fun l hl'=>?_⟩
    have s8:ao H7 (upd H7 l (.lst zs)):=ao.new hl'
    have s68:=s7.trans s8
    have pm2:([x0]++fs.filter fun y=>!decide (bB ns y=bB ns x0)).Perm fs:=by
     have:=List.filter_append_perm (fun y=>decide (bB ns y=bB ns x0)) fs
     rw [one] at this
     exact this
    have l2:=pm2.length_eq
    rw [List.length_append,List.length_singleton] at l2
    refine ⟨l,_,_,zs,ws',_,ls++[x0],rfl,aj,je (ao.tk s8) pz,s68 _ _ hl,d9 (ao.tk s68) pl,by omega,?_,?_,?_,s6.trans s68,Ne.symm (aC (s7 _ _ hl) hl')⟩
    ·rw [List.append_assoc]
     exact (pm2.append_left ls).trans pm
    ·rw [List.pairwise_append]
     refine ⟨ps,List.pairwise_singleton _ _,fun a ha b hb=>?_⟩
     cases List.mem_singleton.mp hb
     exact lt a ha x0 mx
    ·intro a ha b hb
     obtain ⟨hb1,hb2⟩:=List.mem_filter.mp hb
     rcases List.mem_append.mp ha with h|h
     ·exact lt a h b hb1
     ·cases List.mem_singleton.mp h
      have le:=min b hb1
      have ne':eN (bB ns x0)≠eN (bB ns b):=fun e=>by
       have:=uF (trok _ (mem _ mx)) (trok _ (mem _ hb1)) e
       rw [this] at hb2
       simp at hb2
      omega
  ·rintro σ' H4 ⟨fq',v6,v7,us,ws,fs,ls,rfl,hf,pf,hl,pl,fl,pm,ps,lt,s4,ne⟩
   rw [Int.toNat_natCast] at fl
   have f0:fs=[]:=List.length_eq_zero_iff.mp (by omega)
   subst f0
   rw [List.append_nil] at pm
   exact ⟨_,rfl,k lq ws ls H4 pm ps hl pl nlq s4⟩
end
def JD (i:Nat):Stmt:=PySem.Challenge.pw_lanescribe_k29_whole_one_order_or_a_ring.main.body.getD i (.Pass ⟨0,0,0,0⟩)
def G4 (K:Frag) (cB cS cM Ce:Addr) (fs:List (Str×V)) (wd:Str):Prop:=
 (mroIn K Ce (.ref cB)=some true/\xg K Ce "at"/\∃ n:Int,fs.lookup ("at" : Str)=some (.int n)/\n.natAbs.log2<1920/\("badvalue " : Str).length+(toString n:Str).length≤sizeLine/\wd=("badvalue " : Str)++(toString n:Str))∨
 (mroIn K Ce (.ref cB)=some false/\mroIn K Ce (.ref cS)=some true/\xg K Ce "word"/\fs.lookup ("word" : Str)=some (.str wd))∨
 (mroIn K Ce (.ref cB)=some false/\mroIn K Ce (.ref cS)=some false/\mroIn K Ce (.ref cM)=some true/\xg K Ce "word"/\fs.lookup ("word" : Str)=some (.str wd))
section
variable {P:Program} {w:World} {K:Frag} {mg:Str->Option Value} {base:Heap}
def uW (P:Program) (w:World) (K:Frag) (mg:Str->Option Value) (base:Heap) (k:Nat) (cB cS cM:Addr):Shared->List Env->Sp:=fun s outer vs H Q _=>∃ g Qv Ev,vs=[.ref g]/\Thunk P w K mg base s.heap H (frs outer) k g H Qv Ev/\
 (∀ v H',Qv v H'->∀ l,H' l=none->Q (.ref l) (upd H' l (.lst [.str "",v])))/\
 ∀ cls dd H',Ev cls dd H'->∃ Ce da fs wd,cls=.ref Ce/\dd=some da/\H' da=some (pX da fs)/\G4 K cB cS cM Ce fs wd/\∀ l,H' l=none->Q (.ref l) (upd H' l (.lst [.str wd,.non]))
structure JM (K:Frag) (mg:Str->Option Value) (cB cS cM:Addr):Prop where
 str:mg "str" = none
 bv:mg "BadValue" = some (.ref cB)
 se:mg "ScribeError" = some (.ref cS)
 mi:mg "Missing" = some (.ref cM)
 xb:∃ B n,jz K cB B n
 xs:∃ B n,jz K cS B n
 xm:∃ B n,jz K cM B n
theorem jD:aW ["_law_ask_here","_law_told","_law_word","e"] ["_law_ask_here"] (au (JD 32)):=⟨rfl,rfl,rfl,by decide +kernel,rfl,by decide +kernel,by decide +kernel⟩
theorem Et {CX:jG} {f cB cS cM:Addr} {fd:FuncData} {k:Nat} (F:gA K "_law_ask" "_law_ask" (JD 32) f fd) (T:JM K mg cB cS cM):o_ P w K mg base CX (k+1) f fd ["_law_ask_here"] (uW P w K mg base k cB cS cM):=by
 obtain ⟨B1,n1,x1⟩:=T.xb
 obtain ⟨B2,n2,x2⟩:=T.xs
 obtain ⟨B3,n3,x3⟩:=T.xm
 refine F.okS jD (fun s outer vs H Q E h=>?_) (fun cdv A outer s H vs Q E hr h=>?_)
 ·obtain ⟨g,Qv,Ev,rfl,_⟩:=h
  rfl
 ·obtain ⟨g,Qv,Ev,rfl,Th,hv,he⟩:=h
  refine ⟨_,(aq (bf (i:=1) jD.nd rfl (Or.inl rfl) gM)
   (aq (bf (i:=2) jD.nd rfl (Or.inl rfl) aX)
   (aq (Dq rfl rfl rfl (vG (k:=k) (i:=1) (j:=0) jD.nd rfl (Or.inl rfl) rfl (Or.inl rfl) rfl hr)
    (pR (i:=3) (C:=cB) (B:=B1) (newId:=n1) jD.nd rfl rfl (fun ea ps=>bO (by rfl) T.bv rfl) (fun ea oe ps Ce dd hm hc hd hvs=>aB (bf (i:=2) jD.nd rfl (Or.inl rfl) (bj sX aX (eO qw (by rfl) T.str tR (aa (qC hm hc hd hvs (pv 3)) ak)))))
    (pR (i:=3) (C:=cS) (B:=B2) (newId:=n2) jD.nd rfl rfl (fun ea ps=>bO (by rfl) T.se rfl) (fun ea oe ps Ce dd hm hc hd hvs=>aB (bf (i:=2) jD.nd rfl (Or.inl rfl) (qC hm hc hd hvs (pv 3))))
    (pR (i:=3) (C:=cM) (B:=B3) (newId:=n3) jD.nd rfl rfl (fun ea ps=>bO (by rfl) T.mi rfl) (fun ea oe ps Ce dd hm hc hd hvs=>aB (bf (i:=2) jD.nd rfl (Or.inl rfl) (qC hm hc hd hvs (pv 3))))
    E_))))
   (aB (bF (bK (aa (pv 2) (aa (pv 1) ak)))))))),?_⟩
  have small:∀ x y:V,[x,y].length≤sizeLine:=fun x y=>by rw [sizeLine_eq];show 2≤16777216;decide
  refine ⟨g,Qv,Ev,rfl,Th,fun v H' q=>?_,fun cls dd H' q=>?_⟩
  ·exact ⟨_,rfl,_,rfl,small _ _,fun p hp=>hv v H' q p hp⟩
  ·obtain ⟨Ce,da,fs,wd,rfl,rfl,hd,hc,hq⟩:=he _ _ _ q
   refine ⟨Ce,rfl,x1,?_⟩
   rcases hc with ⟨m1,G,n,l,z,zz,rfl⟩|⟨m1,m2,G,l⟩|⟨m1,m2,m3,G,l⟩
   ·refine ⟨true,m1,fun ea=>?_⟩
    exact ⟨_,rfl,da,fs,_,rfl,rfl,hd,G,l,n,rfl,z,_,_,rfl,rfl,zz,_,rfl,_,rfl,small _ _,fun p hp=>hq p hp⟩
   ·refine ⟨false,m1,x2,true,m2,fun ea=>?_⟩
    exact ⟨_,rfl,da,fs,_,rfl,rfl,hd,G,l,_,rfl,_,rfl,small _ _,fun p hp=>hq p hp⟩
   ·refine ⟨false,m1,x2,false,m2,x3,true,m3,fun ea=>?_⟩
    exact ⟨_,rfl,da,fs,_,rfl,rfl,hd,G,l,_,rfl,_,rfl,small _ _,fun p hp=>hq p hp⟩
end
structure jP (K:Frag) (x qual:Str) (st:Stmt) (dV:Value) (f:Addr) (fd:FuncData):Prop where
 ex:∃ (oc:Value) (od:Option Addr) (kV doc pm:Value) (an:Option Addr) (cdv ct:Value) (osl:Array (Option Value)),
  fd=fnOf x qual (bx st) (bu st) (au st) dV kV doc pm an cdv ct/\K.lookup f=some ⟨oc,od,.func fd,osl⟩/\codeIn K cdv qual=true
 kp:keepIn K (.ref f)=true
section
variable {P:Program} {w:World} {K:Frag} {mg:Str->Option Value} {base:Heap}
theorem jP.binds {x qual:Str} {st:Stmt} {f T:Addr} {fd:FuncData} {ps:List Str} {ds:List Value} {oT:Obj} {items:Array Value} {n:Nat} (F:jP K x qual st (.ref T) f fd) (hT:K.lookup T=some oT) (hd:oT.data=.seq items n)
 (h:∀ (kV doc pm:Value) (an:Option Addr) (cdv ct:Value) (s:Shared) (us:List Value),s.heap.get? T=some oT->(us++ds).length=ps.length->BindsTo s (fnOf x qual (bx st) (bu st) (au st) (.ref T) kV doc pm an cdv ct) ⟨us,[]⟩ (ps.zip (us++ds))):Binds K fd ps ds:=by
 obtain ⟨oc,od,kV,doc,pm,an,cdv,ct,osl,rfl,lk,hcd⟩:=F.ex
 exact fun s us X hl=>h kV doc pm an cdv ct s us (X _ _ hT) hl
end
abbrev Ao:Stmt:=inClass (top 1) 0
section
variable {P:Program} {w:World} {K:Frag} {mg:Str->Option Value} {base:Heap}
theorem jP.ok1 {CX:jG} {x qual:Str} {st:Stmt} {dV:Value} {f:Addr} {fd:FuncData} {N ps:List Str} {k:Nat} {sp:Sp} (F:jP K x qual st dV f fd) (S:aW N ps (au st)) (len:∀ vs H Q E,sp vs H Q E->vs.length=ps.length)
 (hbody:∀ (cdv:Value) (A:Around) (outer:List Env) (s:Shared) (H:Hp) (vs:List V) (Q:VK) (E:XK),bL k (A.deeper (PyProof.Rows.envOfC qual (au st) s.heap.objs.size f cdv))->sp vs H Q E->
  ∃ t,qH (iU CX P w K mg base N qual (au st) f cdv A outer s H E) (bu st) t/\t { nx:=fun _ H'=>Q .non H',rt:=Q } (L2.start N vs) H):aN P w K mg base CX (k+1) f fd ps sp:=by
 obtain ⟨oc,od,kV,doc,pm,an,cdv,ct,osl,rfl,lk,hcd⟩:=F.ex
 exact rN lk hcd S len fun A outer s H vs Q E hr hsp=>hbody cdv A outer s H vs Q E hr hsp
structure tU (K:Frag) (C:Addr):Prop where
 x:jz K C "ValueError" "ValueError.__new__"
 w:takerIn K C "word" = some none
def Ai (K:Frag):Sp:=fun vs H Q _=>∃ (e C:Addr) (a:V) (b:V),vs=[.ref e,a,b]/\tU K C/\H e=some (eE e C none)/\∀ da,H da=none->Q .non (upd (upd H e (eE e C (some da))) da (pX da [("word",b)]))
theorem N6:aW ["self","words","word"] ["self","words","word"] (au Ao):=⟨rfl,rfl,rfl,by decide +kernel,rfl,by decide +kernel,by decide +kernel⟩
structure yq (K:Frag) (mg:Str->Option Value):Prop where
 ve:mg "ValueError" = none
 fc:findCls K (.type "ValueError") (.type "type") "__init__" = some (.val (.builtin "ValueError.__init__"))
theorem zO {CX:jG} {f:Addr} {fd:FuncData} {dV:Value} (F:jP K "__init__" "ScribeError.__init__" Ao dV f fd) (T:yq K mg):aN P w K mg base CX 1 f fd ["self","words","word"] (Ai K):=by
 refine F.ok1 N6 (fun vs H Q E h=>?_) (fun cdv A outer s H vs Q E hr h=>?_)
 ·obtain ⟨e,C,a,b,rfl,_⟩:=h
  rfl
 ·obtain ⟨e,C,a,b,rfl,EC,he,k⟩:=h
  refine ⟨_,(aq (bC (qJ (by rfl) T.ve (by rfl) (by kernel_rfl) (by decide +kernel) T.fc (tL PySem.F.excBase_ValueError) (aa (pv 0) (aa (pv 1) ak))))
   (aB (Ae (B:="ValueError") (newId:="ValueError.__new__") (pv 0) (pv 2) rfl))),?_⟩
  exact ⟨_,rfl,_,rfl,e,C,_,_,rfl,he,EC.x,_,rfl,_,rfl,e,C,rfl,EC.x,EC.w,.inl ⟨he,k⟩⟩
structure Cd (K:Frag) (mg:Str->Option Value) (cn:Str) (C f:Addr):Prop where
 mg:mg cn=some (.ref C)
 sg:specialIn K (.ref C) "__getattribute__" = some (some (.builtin "type.__getattribute__"))
 rd:∃ mc,readsIn K C mc=true/\findCls K (.ref C) mc "__init__" = some (.val (.ref f))
 kp:keepIn K (.ref f)=true
def xT (K:Frag) (wd:Str):Sp:=fun vs H Q _=>∃ (e C:Addr) (a:V),vs=[.ref e,a]/\tU K C/\H e=some (eE e C none)/\∀ da,H da=none->Q .non (upd (upd H e (eE e C (some da))) da (pX da [("word",.str wd)]))
abbrev iy:Stmt:=inClass (top 2) 0
theorem wz:aW ["self","words"] ["self","words"] (au iy):=⟨rfl,rfl,rfl,by decide +kernel,rfl,by decide +kernel,by decide +kernel⟩
theorem uy {CX:jG} {f cS fS:Addr} {fd fdS:FuncData} {dV dW:Value} (F:jP K "__init__" "BadSize.__init__" iy dW f fd) (T:yq K mg) (FS:jP K "__init__" "ScribeError.__init__" Ao dV fS fdS) (bS:Binds K fdS ["self","words","word"] []) (MS:Cd K mg "ScribeError" cS fS):aN P w K mg base CX 2 f fd ["self","words"] (xT K "badsize"):=by
 have GS:aN P w K mg base cJ 1 fS fdS ["self","words","word"] (Ai K):=zO FS T
 obtain ⟨mc,m1,m2⟩:=MS.rd
 refine F.ok1 wz (fun vs H Q E h=>?_) (fun cdv A outer s H vs Q E hr h=>?_)
 ·obtain ⟨e,C,a,rfl,_⟩:=h
  rfl
 ·obtain ⟨e,C,a,rfl,EC,he,k⟩:=h
  refine ⟨_,(aB (bC (jM (E:=E0) (by rfl) MS.mg MS.sg m1 m2 MS.kp GS hr bS .nil bh (aa (pv 0) (aa (pv 1) (aa aX ak)))))),?_⟩
  exact ⟨_,rfl,_,rfl,e,C,_,_,rfl,EC,he,k⟩
abbrev jl:Stmt:=inClass (top 3) 0
theorem xZ:aW ["self","words"] ["self","words"] (au jl):=⟨rfl,rfl,rfl,by decide +kernel,rfl,by decide +kernel,by decide +kernel⟩
theorem xJ {CX:jG} {f cS fS:Addr} {fd fdS:FuncData} {dV dW:Value} (F:jP K "__init__" "BadTie.__init__" jl dW f fd) (T:yq K mg) (FS:jP K "__init__" "ScribeError.__init__" Ao dV fS fdS) (bS:Binds K fdS ["self","words","word"] []) (MS:Cd K mg "ScribeError" cS fS):aN P w K mg base CX 2 f fd ["self","words"] (xT K "badtie"):=by
 have GS:aN P w K mg base cJ 1 fS fdS ["self","words","word"] (Ai K):=zO FS T
 obtain ⟨mc,m1,m2⟩:=MS.rd
 refine F.ok1 xZ (fun vs H Q E h=>?_) (fun cdv A outer s H vs Q E hr h=>?_)
 ·obtain ⟨e,C,a,rfl,_⟩:=h
  rfl
 ·obtain ⟨e,C,a,rfl,EC,he,k⟩:=h
  refine ⟨_,(aB (bC (jM (E:=E0) (by rfl) MS.mg MS.sg m1 m2 MS.kp GS hr bS .nil bh (aa (pv 0) (aa (pv 1) (aa aX ak)))))),?_⟩
  exact ⟨_,rfl,_,rfl,e,C,_,_,rfl,EC,he,k⟩
abbrev gj:Stmt:=inClass (top 4) 0
theorem uo:aW ["self","words"] ["self","words"] (au gj):=⟨rfl,rfl,rfl,by decide +kernel,rfl,by decide +kernel,by decide +kernel⟩
theorem qU {CX:jG} {f cS fS:Addr} {fd fdS:FuncData} {dV dW:Value} (F:jP K "__init__" "BadCause.__init__" gj dW f fd) (T:yq K mg) (FS:jP K "__init__" "ScribeError.__init__" Ao dV fS fdS) (bS:Binds K fdS ["self","words","word"] []) (MS:Cd K mg "ScribeError" cS fS):aN P w K mg base CX 2 f fd ["self","words"] (xT K "badcause"):=by
 have GS:aN P w K mg base cJ 1 fS fdS ["self","words","word"] (Ai K):=zO FS T
 obtain ⟨mc,m1,m2⟩:=MS.rd
 refine F.ok1 uo (fun vs H Q E h=>?_) (fun cdv A outer s H vs Q E hr h=>?_)
 ·obtain ⟨e,C,a,rfl,_⟩:=h
  rfl
 ·obtain ⟨e,C,a,rfl,EC,he,k⟩:=h
  refine ⟨_,(aB (bC (jM (E:=E0) (by rfl) MS.mg MS.sg m1 m2 MS.kp GS hr bS .nil bh (aa (pv 0) (aa (pv 1) (aa aX ak)))))),?_⟩
  exact ⟨_,rfl,_,rfl,e,C,_,_,rfl,EC,he,k⟩
def fK (H:Hp) (fs:List (Str×V)) (da:Addr) (H':Hp):Prop:=H da=none/\H'=upd H da (pX da fs)
theorem wV {H:Hp} {e da C:Addr} {fs:List (Str×V)} (h1:H e=none) (h2:upd H e (eE e C none) da=none):fK H fs da (zE (upd (upd (upd H e (eE e C none)) e (eE e C (some da))) da (pX da fs)) e):=by
 have ne:da≠e:=fun q=>by subst q;rw [aj] at h2;cases h2
 rw [aA ne] at h2
 refine ⟨h2,funext fun b=>?_⟩
 by_cases q:b=e
 ·subst q
  rw [nR,aA (Ne.symm ne),h1]
 ·rw [tW q]
  by_cases r:b=da
  ·subst r;rw [aj,aj]
  ·rw [aA r,aA q,aA q,aA r]
theorem wD {H H1:Hp} {e:Addr} (h:ao H H1) (n:H1 e=none):H e=none:=by
 cases z:H e with
 |none=>rfl
 |some o=>have:=h _ _ z;rw [n] at this;cases this
structure nH (K:Frag) (mg:Str->Option Value) (x:Str) (C f:Addr) (fd:FuncData):Prop where
 b:Binds K fd ["self","words"] []
 mg:mg x=some (.ref C)
 e:tU K C
 i:findIn K (.ref C) "__init__" = some (some (.ref f))
 n:isFn K (.ref f)=true
abbrev Bw:Int:=1000000000000000000000000000000
end
theorem Al {i:Int} (h1:-(Bw+2)≤i) (h2:i≤Bw+2):i.natAbs.log2<1920/\(Str.ofString (toString i)).length≤1000:=by
 simp only [Bw] at h1 h2
 constructor
 ·have h3:i.natAbs<2 ^ 128:=by omega
  by_cases h0:i.natAbs=0
  ·rw [h0];decide
  ·exact Nat.lt_trans ((Nat.log2_lt h0).mpr h3) (by decide)
 ·have:=int_text_length_le10 (a:=i) (k:=31) (by decide) (by omega)
  have e:(Str.ofString (toString i)).length=(toString i).length:=ofString_length _
  omega
def yG (n:Int) (e:cg):Bool:=!(!(decide (0≤e.1) && decide (e.1<n)) || (!(decide (0≤e.2.1) && decide (e.2.1<n)) || decide (V.int e.1=V.int e.2.1))) && (decide (-999999≤e.2.2) && decide (e.2.2≤999999))
def rC (n:Int) (es:List cg) (m:Int):Option Nat:=if 1≤n/\n≤6 then (if es.all (yG n)=true then (if 0≤m/\m≤1000000000000 then none else some 0) else some 1) else some 0
def O9:Nat->Str
 |0=>"badsize"
 |_=>"badtie"
def O6 (cZ cT:Addr):Nat->Addr
 |0=>cZ
 |_=>cT
def nu (i:Int):Prop:=-(Bw+2)≤i/\i≤Bw+2
structure z7 (e:cg):Prop where
 o:nu e.1
 t:nu e.2.1
 l:nu e.2.2
theorem nu.len {i:Int} (h:nu i):i.natAbs.log2<1920/\(Str.ofString (toString i)).length≤1000:=Al h.1 h.2
section
variable {P:Program} {w:World} {K:Frag} {mg:Str->Option Value} {base:Heap}
theorem jm {X:Cx} {W:XK} {C:Addr} {wd:Str} {tf:TF} {m:Nat} {O:St} {H:Hp} {D:Ends} {E':XK} (hf:jd tf O H m) (hm:m≤sizeLine) (EC:tU X.K C) (sm:ao X.H₀ H)
 (kx:∀ da H',fK H [("word",.str wd)] da H'->W (.ref C) (some da) H'):yu X "ValueError" "ValueError.__new__" W (zV C (xT X.K wd) [] E' (pI (Dd tf) jO)) D O H:=by
 refine hf Str.empty _ (by rw [show Str.empty.length=0 from rfl];omega) fun y=>?_
 intro e he
 refine ⟨e,C,_,rfl,EC,aj,fun da hda=>⟨rfl,e,C,some da,rfl,?_,wD sm he,EC.x,kx da _ (wV he hda)⟩⟩
 have ne:e≠da:=fun q=>by subst q;rw [aj] at hda;cases hda
 rw [aA ne,aj]
def Cv (cZ:Addr):Sp:=fun vs H Q E=>∃ n:Int,vs=[.int n]/\nu n/\((1≤n/\n≤6)->Q .non H)/\(¬ (1≤n/\n≤6)->∀ da H',fK H [("word",.str "badsize")] da H'->E (.ref cZ) (some da) H')
theorem Ds {f cZ fZ:Addr} {fd fdZ:FuncData} (F:gA K "need_lanes" "need_lanes" (top 13) f fd) (TC:iT mg) (WZ:nH K mg "BadSize" cZ fZ fdZ) (GZ:aN P w K mg base cJ 2 fZ fdZ ["self","words"] (xT K "badsize")):aN P w K mg base (jJ P w) 4 f fd ["lanes"] (Cv cZ):=by
 refine F.ok1 K4 (fun vs H Q E h=>?_) (fun cdv A outer s H vs Q E hr h=>?_)
 ·obtain ⟨n,rfl,_⟩:=h
  rfl
 ·obtain ⟨n,rfl,tx,k,kx⟩:=h
  obtain ⟨t,ml⟩:=TC.ml
  refine ⟨_,(aB (bW (bV (bR cR cR az (pv 0) (bO (v:=.int 6) rfl ml ⟨_,rfl⟩))) (aB (iG (B:="ValueError") (newId:="ValueError.__new__") (W:=E)
   (iz (E:=E0) PySem.F.excBase_ValueError WZ.e.x WZ.i WZ.n GZ hr (by rfl) WZ.mg WZ.b .nil bh (aa (jn (iu (ir (pv 0) (iu lN)))) ak)) rfl rfl (fun Z O H' s' e cls dd I x q=>DX I x q))) bc)),?_⟩
  refine ie.iff (ie.not (ie.test (aH.chain aH.con (aH.var rfl) aH.con bQ.i0 bQ.i0))) (h_ (fun h=>?_) (fun h=>?_))
  ·refine jm (jd.txt (m:=100) (by decide +kernel) (jd.int (aH.var rfl) tx.len (jd.txt (m:=100) (by decide +kernel) jd.nil))) (by decide) WZ.e (ao.refl _) (kx ?_)
   intro z
   simp [z.1,z.2] at h
  ·refine k ?_
   simpa using h
def Dg (cZ:Addr):Sp:=fun vs H Q E=>∃ n:Int,vs=[.int n]/\nu n/\((0≤n/\n≤1000000000000)->Q .non H)/\(¬ (0≤n/\n≤1000000000000)->∀ da H',fK H [("word",.str "badsize")] da H'->E (.ref cZ) (some da) H')
theorem Fe {f cZ fZ:Addr} {fd fdZ:FuncData} (F:gA K "need_most" "need_most" (top 15) f fd) (TC:iT mg) (WZ:nH K mg "BadSize" cZ fZ fdZ) (GZ:aN P w K mg base cJ 2 fZ fdZ ["self","words"] (xT K "badsize")):aN P w K mg base (jJ P w) 4 f fd ["most"] (Dg cZ):=by
 refine F.ok1 Ho (fun vs H Q E h=>?_) (fun cdv A outer s H vs Q E hr h=>?_)
 ·obtain ⟨n,rfl,_⟩:=h
  rfl
 ·obtain ⟨n,rfl,tx,k,kx⟩:=h
  obtain ⟨t,ml⟩:=TC.hm
  refine ⟨_,(aB (bW (bV (bR cR cR az (pv 0) (bO (v:=.int 1000000000000) rfl ml ⟨_,rfl⟩))) (aB (iG (B:="ValueError") (newId:="ValueError.__new__") (W:=E)
   (iz (E:=E0) PySem.F.excBase_ValueError WZ.e.x WZ.i WZ.n GZ hr (by rfl) WZ.mg WZ.b .nil bh (aa (jn (iu (ir (pv 0) lN))) ak)) rfl rfl (fun Z O H' s' e cls dd I x q=>DX I x q))) bc)),?_⟩
  refine ie.iff (ie.not (ie.test (aH.chain aH.con (aH.var rfl) aH.con bQ.i0 bQ.i0))) (h_ (fun h=>?_) (fun h=>?_))
  ·refine jm (jd.txt (m:=100) (by decide +kernel) (jd.int (aH.var rfl) tx.len jd.nil)) (by decide) WZ.e (ao.refl _) (kx ?_)
   intro z
   simp [z.1,z.2] at h
  ·refine k ?_
   simpa using h
def zR (K:Frag) (cT:Addr):Sp:=fun vs H Q E=>∃ (n:Int) (q:Addr) (xs:List V) (es:List cg),vs=[.int n,.ref q]/\nu n/\aQ K H q xs/\Paired (bD H) xs es/\(∀ e∈es,z7 e)/\
 (es.all (yG n)=true->Q .non H)/\(es.all (yG n)=false->∀ da H',fK H [("word",.str "badtie")] da H'->E (.ref cT) (some da) H')
theorem Fx {f cT fT:Addr} {fd fdT:FuncData} (F:gA K "need_ties" "need_ties" (top 14) f fd) (TC:iT mg) (WT:nH K mg "BadTie" cT fT fdT) (GT:aN P w K mg base cJ 2 fT fdT ["self","words"] (xT K "badtie")):aN P w K mg base (jJ P w) 4 f fd ["lanes","ties"] (zR K cT):=by
 refine F.ok1 rR (fun vs H Q E h=>?_) (fun cdv A outer s H vs Q E hr h=>?_)
 ·obtain ⟨n,q,xs,es,rfl,_⟩:=h
  rfl
 ·obtain ⟨n,q,xs,es,rfl,tx,hq,pe,tb,k,kx⟩:=h
  obtain ⟨t,ml⟩:=TC.lim
  refine ⟨_,(aB (dw PassesOwn.leaving rfl (cD (pv 1)) (eQ rfl (aK (aD (i:=2) rR.nd rfl (Or.inl rfl)) (aK (aD (i:=3) rR.nd rfl (Or.inl rfl)) (aK (aD (i:=4) rR.nd rfl (Or.inl rfl)) dD))))
   (aq (bW (PW.pt (dX (bV (bR cR gH az (pv 2) (pv 0))) (dX (bV (bR cR gH az (pv 3) (pv 0))) (dN (aP eY (pv 2) (pv 3) (aR _)))))) (aB (iG (B:="ValueError") (newId:="ValueError.__new__") (W:=E)
    (iz (E:=E0) PySem.F.excBase_ValueError WT.e.x WT.i WT.n GT hr (by rfl) WT.mg WT.b .nil bh (aa (jn (ir (pv 2) (iu (ir (pv 3) (iu (ir (pv 0) lN)))))) ak)) rfl rfl (fun Z O H' s' e cls dd I x q=>DX I x q))) bc)
   (aB (bW (bV (bR cR cR (iV gZ (bO (v:=.int 999999) rfl ml ⟨_,rfl⟩)) (pv 4) (bO (v:=.int 999999) rfl ml ⟨_,rfl⟩))) (aB (iG (B:="ValueError") (newId:="ValueError.__new__") (W:=E)
    (iz (E:=E0) PySem.F.excBase_ValueError WT.e.x WT.i WT.n GT hr (by rfl) WT.mg WT.b .nil bh (aa (jn (ir (pv 4) (iu lN))) ak)) rfl rfl (fun Z O H' s' e cls dd I x q=>DX I x q))) bc))))),?_⟩
  refine ⟨_,rfl,q,rfl,⟨_,hq⟩,e_ (K:=K) (a:=q) (xs:=xs) (fun i O H'=>∃ a b c,O=[some (.int n),some (.ref q),a,b,c]/\H=H'/\∀ e∈es.take i,yG n e=true) ⟨none,none,none,rfl,rfl,by simp⟩ (fun i O H' _ ⟨_,_,_,_,e,_⟩=>by rw [← e];exact hq) ?_ ?_⟩
  ·rintro i x O H' hi ⟨a,b,c,rfl,rfl,hok⟩
   obtain ⟨e,he,a',rfl,h'⟩:=cY pe hi
   have B:=tb e (List.mem_of_getElem? he)
   have bad:yG n e=false->es.all (yG n)=false:=fun z=>by
    rw [List.all_eq_false]
    exact ⟨e,List.mem_of_getElem? he,by simp [z]⟩
   refine ⟨a',_,rfl,cA.of h',rfl,_,_,rfl,_,_,rfl,_,_,rfl,rfl,?_⟩
   refine ie.iff (ie.or (ie.not (ie.test (aH.chain aH.con (aH.var rfl) (aH.var rfl) bQ.i0 bQ.i0))) (ie.or (ie.not (ie.test (aH.chain aH.con (aH.var rfl) (aH.var rfl) bQ.i0 bQ.i0))) (ie.test (aH.op (aH.var rfl) (aH.var rfl) (bQ.eq rfl))))) (h_ (fun h=>?_) (fun h=>?_))
   ·refine jm (jd.int (aH.var rfl) B.o.len (jd.txt (m:=100) (by decide +kernel) (jd.int (aH.var rfl) B.t.len (jd.txt (m:=100) (by decide +kernel) (jd.int (aH.var rfl) tx.len jd.nil))))) (by decide) WT.e (ao.refl _) (kx (bad ?_))
    unfold yG
    rw [h];rfl
   ·have h:=Bool.eq_false_iff.mpr h
    refine ie.iff (ie.not (ie.test (aH.chain (aH.neg aH.con) (aH.var rfl) aH.con bQ.i0 bQ.i0))) (h_ (fun h2=>?_) (fun h2=>?_))
    ·refine jm (jd.int (aH.var rfl) B.l.len (jd.txt (m:=100) (by decide +kernel) jd.nil)) (by decide) WT.e (ao.refl _) (kx (bad ?_))
     unfold yG
     rw [h]
     simpa only [Bool.not_false,Bool.true_and,Bool.not_eq_true'] using h2
    ·refine ⟨_,_,_,rfl,rfl,fun e' he'=>?_⟩
     rw [List.take_add_one,he] at he'
     rcases List.mem_append.mp he' with he'|he'
     ·exact hok _ he'
     ·obtain rfl:e'=e:=by simpa using he'
      unfold yG
      rw [h]
      simpa using h2
  ·rintro O H' ⟨a,b,c,rfl,rfl,hok⟩
   refine k ?_
   rw [List.all_eq_true]
   intro e he
   refine hok e ?_
   rw [Paired.length pe,List.take_length]
   exact he
def xV (K:Frag) (cZ cT:Addr):Sp:=fun vs H Q E=>∃ (n m:Int) (q:Addr) (xs:List V) (es:List cg),vs=[.int n,.ref q,.int m]/\nu n/\nu m/\aQ K H q xs/\Paired (bD H) xs es/\(∀ e∈es,z7 e)/\
 (rC n es m=none->Q .non H)/\(∀ i,rC n es m=some i->∀ da H',fK H [("word",.str (O9 i))] da H'->E (.ref (O6 cZ cT i)) (some da) H')
theorem Fj {f fL fT fM cZ cT:Addr} {fd fdL fdT fdM:FuncData} (F:gA K "need_all" "need_all" (top 16) f fd) (DL:dZ K mg "need_lanes" (top 13) ["lanes"] fL fdL) (DT:dZ K mg "need_ties" (top 14) ["lanes","ties"] fT fdT) (DM:dZ K mg "need_most" (top 15) ["most"] fM fdM)
 (GL:aN P w K mg base (jJ P w) 4 fL fdL ["lanes"] (Cv cZ)) (GT:aN P w K mg base (jJ P w) 4 fT fdT ["lanes","ties"] (zR K cT)) (GM:aN P w K mg base (jJ P w) 4 fM fdM ["most"] (Dg cZ)) :
 aN P w K mg base (jJ P w) 5 f fd ["lanes","ties","most"] (xV K cZ cT):=by
 refine F.ok1 J6 (fun vs H Q E h=>?_) (fun cdv A outer s H vs Q E hr h=>?_)
 ·obtain ⟨n,m,q,xs,es,rfl,_⟩:=h
  rfl
 ·obtain ⟨n,m,q,xs,es,rfl,tn,tm,hq,pe,tb,k,kx⟩:=h
  refine ⟨_,(aq (bC (aM (E:=E) GL hr rfl DL.mg DL.F.kp DL.b .nil (m9 fun _ _ _ h=>h) (aa (pv 0) ak)))
   (aq (bC (aM (E:=E) GT hr rfl DT.mg DT.F.kp DT.b .nil (m9 fun _ _ _ h=>h) (aa (pv 0) (aa (pv 1) ak))))
   (aB (bC (aM (E:=E) GM hr rfl DM.mg DM.F.kp DM.b .nil (m9 fun _ _ _ h=>h) (aa (pv 2) ak)))))),?_⟩
  refine ⟨_,rfl,n,rfl,tn,fun h1=>⟨_,rfl,_,rfl,n,q,xs,es,rfl,tn,hq,pe,tb,fun h2=>⟨_,rfl,m,rfl,tm,fun h3=>k ?_,fun h3=>kx 0 ?_⟩,fun h2=>kx 1 ?_⟩,fun h1=>kx 0 ?_⟩
  ·unfold rC;rw [if_pos h1,if_pos h2,if_pos h3]
  ·unfold rC;rw [if_pos h1,if_pos h2,if_neg h3]
  ·unfold rC;rw [if_pos h1,if_neg (by rw [h2];exact Bool.false_ne_true)]
  ·unfold rC;rw [if_neg h1]
end
structure Bb (c:oE):Prop where
 a:nu c.a
 t:nu c.t
 b:nu c.b
 u:nu c.u
def jb (c:oE):Bool:=!(!(decide (0≤c.a) && decide (c.a<6)) || (!(decide (0≤c.b) && decide (c.b<6)) || decide (V.int c.a=V.int c.b))) && !(!(decide (0≤c.t) && decide (c.t<999999)) || !(decide (0≤c.u) && decide (c.u<999999)))
theorem vd {c:oE} (h:jb c=true):Aa 6 c:=by
 unfold jb at h
 simp at h
 obtain ⟨⟨⟨h1,h2⟩,⟨h3,h4⟩,h5⟩,⟨h6,h7⟩,h8,h9⟩:=h
 exact ⟨⟨h1,h2⟩,⟨h3,h4⟩,h5,⟨h6,h7⟩,⟨h8,h9⟩⟩
section
variable {P:Program} {w:World} {K:Frag} {mg:Str->Option Value} {base:Heap}
def CG (cC:Addr):Sp:=fun vs H Q E=>∃ c:oE,vs=[.int c.a,.int c.t,.int c.b,.int c.u]/\Bb c/\(jb c=true->Q .non H)/\(jb c=false->∀ da H',fK H [("word",.str "badcause")] da H'->E (.ref cC) (some da) H')
theorem Fp {f cC fC:Addr} {fd fdC:FuncData} (F:gA K "need_cause" "need_cause" (top 23) f fd) (TC:iT mg) (WC:nH K mg "BadCause" cC fC fdC) (GC:aN P w K mg base cJ 2 fC fdC ["self","words"] (xT K "badcause")):aN P w K mg base (jJ P w) 4 f fd ["lane","time","other","second"] (CG cC):=by
 refine F.ok1 JL (fun vs H Q E h=>?_) (fun cdv A outer s H vs Q E hr h=>?_)
 ·obtain ⟨c,rfl,_⟩:=h
  rfl
 ·obtain ⟨c,rfl,B,k,kx⟩:=h
  obtain ⟨t,ml⟩:=TC.ml
  obtain ⟨t',li⟩:=TC.lim
  refine ⟨_,(aq (bW (PW.pt (dX (bV (bR cR gH az (pv 0) (bO (v:=.int 6) rfl ml ⟨_,rfl⟩))) (dX (bV (bR cR gH az (pv 2) (bO (v:=.int 6) rfl ml ⟨_,rfl⟩))) (dN (aP eY (pv 0) (pv 2) (aR _)))))) (aB (iG (B:="ValueError") (newId:="ValueError.__new__") (W:=E)
   (iz (E:=E0) PySem.F.excBase_ValueError WC.e.x WC.i WC.n GC hr (by rfl) WC.mg WC.b .nil bh (aa (jn (ir (pv 0) (iu (ir (pv 2) (iu lN))))) ak)) rfl rfl (fun Z O H' s' e cls dd I x q=>DX I x q))) bc)
   (aB (bW (PW.pt (dX (bV (bR cR gH az (pv 1) (bO (v:=.int 999999) rfl li ⟨_,rfl⟩))) (dN (bV (bR cR gH az (pv 3) (bO (v:=.int 999999) rfl li ⟨_,rfl⟩)))))) (aB (iG (B:="ValueError") (newId:="ValueError.__new__") (W:=E)
    (iz (E:=E0) PySem.F.excBase_ValueError WC.e.x WC.i WC.n GC hr (by rfl) WC.mg WC.b .nil bh (aa (jn (ir (pv 1) (iu (ir (pv 3) (iu lN))))) ak)) rfl rfl (fun Z O H' s' e cls dd I x q=>DX I x q))) bc))),?_⟩
  refine ie.iff (ie.or (ie.not (ie.test (aH.chain aH.con (aH.var rfl) aH.con bQ.i0 bQ.i0))) (ie.or (ie.not (ie.test (aH.chain aH.con (aH.var rfl) aH.con bQ.i0 bQ.i0))) (ie.test (aH.op (aH.var rfl) (aH.var rfl) (bQ.eq rfl))))) (h_ (fun h=>?_) (fun h=>?_))
  ·refine jm (jd.int (aH.var rfl) B.a.len (jd.txt (m:=100) (by decide +kernel) (jd.int (aH.var rfl) B.b.len (jd.txt (m:=100) (by decide +kernel) jd.nil)))) (by decide) WC.e (ao.refl _) (kx ?_)
   unfold jb
   rw [h];rfl
  ·have h:=Bool.eq_false_iff.mpr h
   refine ie.iff (ie.or (ie.not (ie.test (aH.chain aH.con (aH.var rfl) aH.con bQ.i0 bQ.i0))) (ie.not (ie.test (aH.chain aH.con (aH.var rfl) aH.con bQ.i0 bQ.i0)))) (h_ (fun h2=>?_) (fun h2=>?_))
   ·refine jm (jd.int (aH.var rfl) B.t.len (jd.txt (m:=100) (by decide +kernel) (jd.int (aH.var rfl) B.u.len (jd.txt (m:=100) (by decide +kernel) jd.nil)))) (by decide) WC.e (ao.refl _) (kx ?_)
    unfold jb
    rw [h,h2];rfl
   ·refine k ?_
    have h2:=Bool.eq_false_iff.mpr h2
    unfold jb
    rw [h,h2];rfl
def Cq (K:Frag) (cC:Addr):Sp:=fun vs H Q E=>∃ (q:Addr) (xs:List V) (cs:List oE),vs=[.ref q]/\aQ K H q xs/\Paired (gK H) xs cs/\(∀ c∈cs,Bb c)/\cs.all jb=false/\∀ da H',fK H [("word",.str "badcause")] da H'->E (.ref cC) (some da) H'
theorem Eg {f fN cC fC:Addr} {fd fdN fdC:FuncData} (F:gA K "ties_of" "ties_of" (top 24) f fd) (TC:iT mg) (DN:dZ K mg "need_cause" (top 23) ["lane","time","other","second"] fN fdN) (WC:nH K mg "BadCause" cC fC fdC) (GC:aN P w K mg base cJ 2 fC fdC ["self","words"] (xT K "badcause")):aN P w K mg base (jJ P w) 5 f fd ["causes"] (Cq K cC):=by
 have GN:aN P w K mg base (jJ P w) 4 fN fdN ["lane","time","other","second"] (CG cC):=Fp DN.F TC WC GC
 refine F.ok1 oK (fun vs H Q E h=>?_) (fun cdv A outer s H vs Q E hr h=>?_)
 ·obtain ⟨q,xs,cs,rfl,_⟩:=h
  rfl
 ·obtain ⟨q,xs,cs,rfl,hq,pc,cb,bad,kx⟩:=h
  refine ⟨_,(aq (dw PassesOwn.leaving rfl (cD (pv 0)) (eQ rfl (aK (aD (i:=1) oK.nd rfl (Or.inl rfl)) (aK (aD (i:=2) oK.nd rfl (Or.inl rfl)) (aK (aD (i:=3) oK.nd rfl (Or.inl rfl)) (aK (aD (i:=4) oK.nd rfl (Or.inl rfl)) dD)))))
   (aB (bC (aM (E:=E) GN hr rfl DN.mg DN.F.kp DN.b .nil (m9 fun _ _ _ h=>h) (aa (pv 1) (aa (pv 2) (aa (pv 3) (aa (pv 4) ak))))))))
   (aB b_)),?_⟩
  have xl:=Paired.length pc
  refine ⟨_,rfl,q,rfl,⟨_,hq⟩,e_ (K:=K) (a:=q) (xs:=xs) (fun i O H'=>(∃ a b c d,O=[some (.ref q),a,b,c,d])/\H=H'/\∀ c∈cs.take i,jb c=true) ⟨⟨none,none,none,none,rfl⟩,rfl,by simp⟩ (fun i O H' _ ⟨_,e,_⟩=>by rw [← e];exact hq) ?_ ?_⟩
  ·rintro i x O H' hi ⟨⟨a,b,c,d,rfl⟩,rfl,hok⟩
   obtain ⟨c,hc,b',rfl,hb⟩:=cO pc hi
   refine ⟨b',_,rfl,cA.of hb,rfl,_,_,rfl,_,_,rfl,_,_,rfl,_,_,rfl,rfl,?_⟩
   refine ⟨_,rfl,_,rfl,_,rfl,_,rfl,c,rfl,cb c (List.mem_of_getElem? hc),fun ok=>⟨⟨_,_,_,_,rfl⟩,rfl,fun c' hc'=>?_⟩,fun _=>kx⟩
   rw [List.take_add_one,hc] at hc'
   rcases List.mem_append.mp hc' with z|z
   ·exact hok _ z
   ·obtain rfl:c'=c:=by simpa using z
    exact ok
  ·rintro O H' ⟨⟨a,b,c,d,rfl⟩,rfl,hok⟩
   rw [xl,List.take_length] at hok
   rw [List.all_eq_true.mpr hok] at bad
   cases bad
end
def RT (H:Hp):List lJ->List Tg->Prop:=Paired fun x g=>pN H x.1 g/\x.2=nA g
theorem C_ {H:Hp}:∀ {xs:List V} {gs:List Tg},Paired (pN H) xs gs->∃ row:List lJ,row.map (·.1)=xs/\RT H row gs
 |_,_,.nil=>⟨[],rfl,.nil⟩
 | x::_,g::_,.cons h t=>by
   obtain ⟨row,e,r⟩:=C_ t
   exact ⟨(x,nA g)::row,by rw [List.map_cons,e],.cons ⟨h,rfl⟩ r⟩
theorem RT.ev {H:Hp}:∀ {row:List lJ} {gs:List Tg},RT H row gs->∀ x∈row,Gn H x
 | _,_,.cons h t,x,m=>by
   rcases List.mem_cons.mp m with e|m
   ·subst e
    obtain ⟨v,o⟩:=x
    obtain ⟨h1,h2⟩:=h
    dsimp only at h1 h2
    subst h2
    exact h1.ev
   ·exact RT.ev t x m
theorem z6 {nq:Addr} {H:Hp}:∀ {ys:List V} {gss:List (List Tg)},Paired (RA nq H) ys gss->∃ rs:List (List lJ),Paired (Io H) ys rs/\Paired (RT H) rs gss
 |_,_,.nil=>⟨[],.nil,.nil⟩
 | _,_,.cons ⟨a,xs,e,_,ha,pt⟩ t=>by
   obtain ⟨rs,p1,p2⟩:=z6 t
   obtain ⟨row,er,rt⟩:=C_ pt
   exact ⟨row::rs,.cons ⟨a,e,by rw [er];exact ha,rt.ev⟩ p1,.cons rt p2⟩
theorem RT.evs {H:Hp} (k:Nat):∀ {row:List lJ} {gs:List Tg},RT H row gs->(cX k row).map (fun x=>(x.2.2.1,x.2.2.2))=gs.filterMap nA
 |_,_,.nil=>rfl
 | (v,o)::row,g::gs,.cons h t=>by
   have ih:=RT.evs k t
   obtain ⟨_,h2⟩:=h
   dsimp only at h2
   subst h2
   unfold cX at ih ⊢
   cases g with
   |ev a b c d e=>rw [List.filterMap_cons,List.filterMap_cons];simp only [nA,Option.map_some,List.map_cons];rw [ih]
   |lo a=>rw [List.filterMap_cons,List.filterMap_cons];simp only [nA,Option.map_none];exact ih
theorem RT.mem {H:Hp} {row:List lJ} {gs:List Tg} (h:RT H row gs) {x:lJ} (m:x∈row):∃ g∈gs,pN H x.1 g/\x.2=nA g:=by
 obtain ⟨i,hi⟩:=List.getElem?_of_mem m
 obtain ⟨g,hg,r⟩:=cO h hi
 exact ⟨g,List.mem_of_getElem? hg,r⟩
theorem pY {H:Hp} {rs:List (List lJ)} {gss:List (List Tg)} (h:Paired (RT H) rs gss) {i:Nat} (hi:i<rs.length):∃ gs∈gss,RT H (rs.getD i []) gs:=by
 obtain ⟨gs,hg,r⟩:=cO h (List.getElem?_eq_getElem hi)
 refine ⟨gs,List.mem_of_getElem? hg,?_⟩
 rw [List.getD_eq_getElem?_getD,List.getElem?_eq_getElem hi]
 exact r
theorem uB {K:Frag} {H:Hp} {q:Addr} {ys:List V} {rs:List (List lJ)} {gss:List (List Tg)} (hq:aQ K H q ys) (p1:Paired (Io H) ys rs) (p2:Paired (RT H) rs gss) (gl:gss.length≤6) (rw':∀ gs∈gss,Rw gs 1000 1000 6):jX K H q ys rs:=by
 have l2:=Paired.length p2
 have el:∀ i,i<rs.length->(cX i (rs.getD i [])).length≤6:=fun i hi=>by
  obtain ⟨gs,mg,rt⟩:=pY p2 hi
  have:=congrArg List.length (rt.evs i)
  rw [List.length_map] at this
  rw [this]
  exact (rw' gs mg).n
 have all:∀ i,i≤rs.length->(dF rs i).length≤6*i:=fun i=>by
  induction i with
  |zero=>intro _;exact Nat.le_refl _
  | succ i ih=>
    intro h
    have:=ih (by omega)
    have:=el i (by omega)
    rw [iD,List.length_append]
    omega
 refine ⟨hq,p1,by omega,fun r hr=>?_,by have:=all rs.length (Nat.le_refl _);omega,fun x hx=>?_,?_⟩
 ·obtain ⟨i,hi⟩:=List.getElem?_of_mem hr
  obtain ⟨gs,hg,rt⟩:=cO p2 hi
  have:=Paired.length rt
  have:=(rw' gs (List.mem_of_getElem? hg)).l
  omega
 ·obtain ⟨h1,h2⟩:=qD hx
  obtain ⟨gs,mg,rt⟩:=pY p2 h1
  obtain ⟨g,m2,_,e⟩:=rt.mem h2
  have:=(rw' gs mg).lo (x.2.2.1,x.2.2.2) (List.mem_filterMap.mpr ⟨g,m2,e.symm⟩)
  dsimp only at this
  omega
 ·unfold dF
  rw [List.map_flatMap,List.Nodup,List.pairwise_flatMap]
  refine ⟨fun i hi=>?_,?_⟩
  ·obtain ⟨gs,mg,rt⟩:=pY p2 (List.mem_range.mp hi)
   have up:=(rw' gs mg).up
   rw [← rt.evs i,List.pairwise_map] at up
   rw [List.pairwise_map]
   refine up.imp fun {a b} lt e=>?_
   simp only [Prod.mk.injEq] at e
   dsimp only at lt
   omega
  ·refine List.Pairwise.imp (fun {a b} hab x hx y hy e=>?_) List.pairwise_lt_range
   obtain ⟨u,hu,rfl⟩:=List.mem_map.mp hx
   obtain ⟨v,hv,rfl⟩:=List.mem_map.mp hy
   have lane:∀ (k:Nat) (row:List lJ) (z:t8),z∈cX k row->z.1=k:=fun k row z hz=>by
    unfold cX at hz
    obtain ⟨⟨v',o⟩,_,e⟩:=List.mem_filterMap.mp hz
    cases o with
    |none=>simp at e
    | some it=>
      simp only [Option.map_some,Option.some.injEq] at e
      rw [← e]
   have e1:=lane _ _ _ hu
   have e2:=lane _ _ _ hv
   simp only [Prod.mk.injEq] at e
   omega
theorem vQ {ns:List Int} {ev ps qs:List t8} (h1:ps.Perm ev) (h2:qs.Perm ev) (s1:ps.Pairwise fun a b=>eN (bB ns a)<eN (bB ns b)) (s2:qs.Pairwise fun a b=>eN (bB ns a)<eN (bB ns b)):ps=qs:=
 List.Perm.eq_of_pairwise (le:=fun a b=>eN (bB ns a)<eN (bB ns b)) (fun a b _ _ h1 h2=>absurd h1 (by omega)) s1 s2 (h1.trans h2.symm)
theorem lH {K:Frag} {H:Hp}:∀ {vs ws:List V} {ps:List t8},(∀ x∈ps,∃ g,pN H x.2.1 g)->Paired (uM H) vs ps->Paired (uM H) ws ps->∃ ds,cN K H vs ds/\cN K H ws ds/\bH ds≤3/\eU ds≤5/\ds.length=ps.length
 |_,_,_,_,.nil,.nil=>⟨[],.nil,.nil,by simp [bH],by simp [eU],rfl⟩
 | _,_,x::ps,hg,.cons ⟨b,e,hb⟩ t,.cons ⟨c,e',hc⟩ t'=>by
   subst e
   subst e'
   obtain ⟨g,tg⟩:=hg x (.head _)
   obtain ⟨ds,r1,r2,d1,d2,d3⟩:=lH (fun y hy=>hg y (.tail _ hy)) t t'
   have g1:=p_ [g]
   have g2:=vh [g]
   simp only [List.map_cons,List.map_nil,bH,eU] at g1 g2
   refine ⟨.tuple [.int x.1,Cw g]::ds,.cons (.tup (cA.of hb) (.cons (.int _) (.cons tg.rep .nil))) r1,.cons (.tup (cA.of hc) (.cons (.int _) (.cons tg.rep .nil))) r2,?_,?_,by rw [List.length_cons,List.length_cons,d3]⟩
   ·simp only [bH,dm]
    omega
   ·simp only [eU,jE,List.length_cons,List.length_nil]
    omega
theorem pA {H:Hp} {rs:List (List lJ)} {gss:List (List Tg)} (p2:Paired (RT H) rs gss):∀ x∈dF rs rs.length,∃ g,pN H x.2.1 g:=fun x hx=>by
 obtain ⟨h1,h2⟩:=qD hx
 obtain ⟨gs,_,rt⟩:=pY p2 h1
 obtain ⟨g,_,tg,_⟩:=rt.mem h2
 exact ⟨g,tg⟩
theorem Bp {P:Program} {w:World} {K:Frag} {mg:Str->Option Value} {base:Heap} {CX:jG} {k:Nat} {f:Addr} {fd:FuncData} {ps:List Str} {sp:Sp} (F:aN P w K mg base cJ k f fd ps sp):aN P w K mg base CX k f fd ps sp:=
 ⟨F.len,fun A outer s H args us vs Q E hr he hb hv hs=>codeAny_mono (F.run A outer s H args us vs Q E hr he hb hv hs) fun r s' h=>by
  cases r with
  |error e=>exact h.elim
  |ok fl=>cases fl <;> exact h⟩
theorem HW {P:Program} {w:World} {K:Frag} {mg:Str->Option Value} {base:Heap} {CX:jG} {k:Nat} {f:Addr} {fd:FuncData} {ps:List Str} {sp sp':Sp} (F:aN P w K mg base CX k f fd ps sp) (F':aN P w K mg base CX k f fd ps sp'):aN P w K mg base CX k f fd ps (fun vs H Q E=>sp vs H Q E∨sp' vs H Q E):=
 ⟨fun vs H Q E h=>h.elim (F.len vs H Q E) (F'.len vs H Q E),fun A outer s H args us vs Q E hr he hb hv hs=>hs.elim (F.run A outer s H args us vs Q E hr he hb hv) (F'.run A outer s H args us vs Q E hr he hb hv)⟩
def Mp:Expr:=.Constant .none 0 ⟨0,0,0,0⟩
structure p6 (NL:List Str) (L:Expr):Prop where
 has:∀ q∈(cU L).names,(q.2=.cell∨q.2=.free)->q.1∈NL
 free:∀ x∈NL,(cU L).names.lookup x=some .free
 co:(cU L).isCoroutine=false
 gen:(cU L).isGenerator=false
 k:(cU L).kind=.function
 nc:∀ x∈(cU L).names,x.2≠.cell
structure qX (K:Frag) (cP cV cS:Addr):Prop where
 nv:mroIn K cP (.ref cV)=some false
 se:mroIn K cP (.ref cS)=some true
 gt:xg K cP "word"
theorem Bq {X:Cx} {NL:List Str} {js:List Nat} {ν:St} {cV cS cM cP f c':Addr} {ctv:Value} {wd:Str} {L:Expr} {qual:Str} {cl:List (Str×Addr)} {pm:Value} {E:XK} {Z:List (Addr×Obj)} {O:St} {H:Hp} {s:Shared} {Q:VK} {t:XK->TE} (LO:p6 NL L)
 (hbind:∀ c' ctv,bindArgs (kla_fn "<lambda>" qual (ii L) (jB L) (cU L) cl pm (.ref c') ctv) ⟨[],[]⟩=pure [])
 (hcl:∀ p∈cl,X.env.cells.lookup p.1=some p.2) (hclN:∀ x∈NL,x∈cl.map (·.1)) (hfn:∀ x,X.fn x=true) (hown:∀ x∈NL,X.env.scope.names.lookup x=some .cell) (hN:js.map (fun j=>X.N[j]?)=NL.map some) (hst:X.stack=X.env::X.outer) (hfm:X.env.frame=some X.env.locals)
 (hb:∀ (f c':Addr) (A:Around) (outer:List Env) (s:Shared) (H:Hp) (E:XK),bL 8 (A.deeper (envX qual (cU L) s.heap.objs.size f (.ref c') cl))->PE (fU X.prog X.w X.K X.mg X.base NL qual (cU L) f (.ref c') cl A outer s H E) (jB L) (t E))
 (BP:qX X.K cP cV cS) (I:Inv X Z O H s) (ho:H f=some (lamO f (kla_obj "<lambda>" qual (ii L) (jB L) (cU L) cl pm c' ctv))) (hc:H c'=some (gO c' qual)) (ev:rm js O=ν)
 (h:t (fun cls dd H'=>cls=.ref cP/\∃ H1 da,dd=some da/\ao H H1/\fK H1 [("word",.str wd)] da H'/\∀ H2,ao H H2->∀ l,H2 l=none->Q (.ref l) (upd H2 l (.lst [.str wd,.non]))) ν H (fun v H'=>∀ l,H' l=none->Q (.ref l) (upd H' l (.lst [.str "",v])))):uW X.prog X.w X.K X.mg X.base 9 cV cS cM s X.stack [.ref f] H Q E:=by
 have Cl:=vq (scope:=cU L) (NL:=NL) (js:=js) I hcl hfn (fun q hq h=>hclN _ (LO.has q hq h)) LO.free hown (by rw [← hN]) hst hfm
 rw [ev] at Cl
 refine ⟨f,_,_,rfl,xO (N:=NL) (k:=8) ho hc Cl (hbind _ _) LO.co LO.gen LO.k LO.nc (fun A outer s hr=>hb f c' A outer s H _ hr) h,fun v H' z l hl=>z l hl,?_⟩
 rintro cls dd H' ⟨rfl,H1,da,rfl,s1,⟨d0,rfl⟩,k⟩
 refine ⟨_,da,_,wd,rfl,rfl,aj,.inr (.inl ⟨BP.nv,BP.se,BP.gt,?_⟩),fun l hl=>?_⟩
 ·rw [List.lookup_cons,show (("word" : Str) == ("word" : Str))=true from by decide +kernel]
 ·exact k _ (fun b u e=>by rw [aA (aC (s1 _ _ e) d0)];exact s1 _ _ e) l hl
section
variable {P:Program} {w:World} {K:Frag} {mg:Str->Option Value} {base:Heap}
def JB (n:Int) (cs:List oE) (m:Int):Nat->Prop
 |0=>cs.all jb=false
 |1=>cs.all jb=true/\(cs.map fD).all (yG n)=false
 |_=>cs.all jb=true/\(cs.map fD).all (yG n)=true/\¬(0≤m/\m≤1000000000000)
def Qi:Nat->Str
 |0=>"badcause"
 |1=>"badtie"
 |_=>"badsize"
def QD (cC cT cZ:Addr):Nat->Addr
 |0=>cC
 |1=>cT
 |_=>cZ
def J7 (K:Frag) (cC:Addr):Sp:=fun vs H Q E=>Em K vs H Q E∨Cq K cC vs H Q E
theorem Kg {c:oE} (h:jb c=true):z7 (fD c):=by
 have o:=vd h
 have h1:=o.a
 have h2:=o.b
 have h3:=o.t
 have h4:=o.u
 refine ⟨?_,?_,?_⟩ <;> unfold nu Bw fD <;> dsimp only <;> omega
def yD (K:Frag) (cC cT cZ:Addr):Sp:=fun vs H Q E=>∃ (q cq:Addr) (m:Int) (ys xs:List V) (cs:List oE) (i:Nat),vs=[.ref q,.ref cq,.int m]/\aQ K H q ys/\1≤ys.length/\ys.length≤6/\aQ K H cq xs/\Paired (gK H) xs cs/\(∀ c∈cs,Bb c)/\cs.length≤100/\nu m/\JB ys.length cs m i/\
 ∀ H1 da H',ao H H1->fK H1 [("word",.str (Qi i))] da H'->E (.ref (QD cC cT cZ i)) (some da) H'
def JZ (K:Frag) (cZ cT:Addr):Sp:=fun vs H Q E=>∃ (n m:Int) (q:Addr) (xs:List V) (es:List cg) (i:Nat),vs=[.int n,.ref q,.int m]/\nu n/\nu m/\aQ K H q xs/\Paired (bD H) xs es/\(∀ e∈es,z7 e)/\rC n es m=some i/\∀ da H',fK H [("word",.str (O9 i))] da H'->E (.ref (O6 cZ cT i)) (some da) H'
theorem G3 {cZ cT f fN:Addr} {fd fdN:FuncData} (F:gA K "amounts" "amounts" (top 19) f fd) (DN:dZ K mg "need_all" (top 16) ["lanes","ties","most"] fN fdN) (GN:aN P w K mg base (jJ P w) 5 fN fdN ["lanes","ties","most"] (xV K cZ cT)):aN P w K mg base (jJ P w) 6 f fd ["lanes","ties","most"] (JZ K cZ cT):=by
 refine F.ok1 zH (fun vs H Q E h=>?_) (fun cdv A outer s H vs Q E hr h=>?_)
 ·obtain ⟨n,m,q,xs,es,i,rfl,_⟩:=h
  rfl
 ·obtain ⟨n,m,q,xs,es,i,rfl,tn,tm,hq,pe,tb,rc,kx⟩:=h
  refine ⟨_,(aq (bC (aM (E:=E) GN hr rfl DN.mg DN.F.kp DN.b .nil (m9 fun _ _ _ h=>h) (aa (pv 0) (aa (pv 1) (aa (pv 2) ak))))) (aq b_ (aB b_))),?_⟩
  refine ⟨_,rfl,_,rfl,_,rfl,n,m,q,xs,es,rfl,tn,tm,hq,pe,tb,fun z=>?_,fun j hj=>?_⟩
  ·rw [rc] at z;cases z
  ·rw [rc] at hj
   cases hj
   exact kx
theorem DQ {f fTo fC fN fBo fR fL fT fM fAm cC cT cZ fiC fiT fiZ:Addr} {fd fdTo fdC fdN fdBo fdR fdL fdT fdM fdAm fdiC fdiT fdiZ:FuncData} (F:gA K "ordered" "ordered" (top 26) f fd) (T:Txt K mg) (TC:iT mg)
 (DTo:dZ K mg "ties_of" (top 24) ["causes"] fTo fdTo) (DC:dZ K mg "need_cause" (top 23) ["lane","time","other","second"] fC fdC)
 (DN:dZ K mg "need_all" (top 16) ["lanes","ties","most"] fN fdN) (DBo:dZ K mg "bounds" (top 17) ["lanes","most"] fBo fdBo) (DR:dZ K mg "raised" (top 18) ["lanes","ties"] fR fdR)
 (DL:dZ K mg "need_lanes" (top 13) ["lanes"] fL fdL) (DT:dZ K mg "need_ties" (top 14) ["lanes","ties"] fT fdT) (DM:dZ K mg "need_most" (top 15) ["most"] fM fdM)
 (FAm:gA K "amounts" "amounts" (top 19) fAm fdAm) (mAm:mg "amounts" = some (.ref fAm))
 (WC:nH K mg "BadCause" cC fiC fdiC) (GC:aN P w K mg base cJ 2 fiC fdiC ["self","words"] (xT K "badcause")) (WT:nH K mg "BadTie" cT fiT fdiT) (GT:aN P w K mg base cJ 2 fiT fdiT ["self","words"] (xT K "badtie")) (WZ:nH K mg "BadSize" cZ fiZ fdiZ) (GZ:aN P w K mg base cJ 2 fiZ fdiZ ["self","words"] (xT K "badsize")) :
 aN P w K mg base (jJ P w) 7 f fd ["rows","causes","most"] (yD K cC cT cZ):=by
 have GTo:aN P w K mg base (jJ P w) 6 fTo fdTo ["causes"] (J7 K cC):=HW ((Bp (Dh DTo.F TC DC)).mono (by decide)) ((Eg DTo.F TC DC WC GC).mono (by decide))
 have GNT:aN P w K mg base (jJ P w) 4 fT fdT ["lanes","ties"] (zR K cT):=Fx DT.F TC WT GT
 have GNA:aN P w K mg base (jJ P w) 5 fN fdN ["lanes","ties","most"] (xV K cZ cT):=Fj DN.F DL DT DM (Ds DL.F TC WZ GZ) GNT (Fe DM.F TC WZ GZ)
 have GAm:aN P w K mg base (jJ P w) 6 fAm fdAm ["lanes","ties","most"] (JZ K cZ cT):=G3 FAm DN GNA
 have kbA:=Fb FAm (fun _ _ _ _ _ _ _ _ _=>rfl)
 refine F.ok1 vX (fun vs H Q E h=>?_) (fun cdv A outer s H vs Q E hr h=>?_)
 ·obtain ⟨q,cq,m,ys,xs,cs,i,rfl,_⟩:=h
  rfl
 ·obtain ⟨q,cq,m,ys,xs,cs,i,rfl,hq,y1,y6,hcq,pc,cb,cl,tm,bad,kx⟩:=h
  have hr4:bL 4 _:=hr.mono (by decide)
  refine ⟨_,(aq (bf (i:=3) vX.nd rfl (by first|exact Or.inl rfl|exact Or.inr rfl) (aM (E:=E) GTo hr rfl DTo.mg DTo.F.kp DTo.b .nil (m9 fun _ _ _ h=>h) (aa (pv 1) ak)))
   (aq (bC (aM (E:=E) GNT hr4 rfl DT.mg DT.F.kp DT.b .nil (m9 fun _ _ _ h=>h) (aa (aG aO (by rfl) T.len cu (aa (pv 0) ak)) (aa (pv 3) ak))))
   (aq (bf (i:=4) vX.nd rfl (by first|exact Or.inl rfl|exact Or.inr rfl) (gQ (E:=E) GAm hr rfl mAm FAm.kp kbA (m9 fun _ _ _ h=>h) (aa (aG aO (by rfl) T.len cu (aa (pv 0) ak)) (aa (pv 3) ak)) (ig (pv 2) j5)))
   (aq b_ (aB b_))))),?_⟩
  have txn:nu ys.length:=by unfold nu Bw;omega
  by_cases h0:cs.all jb=false
  ·obtain rfl:i=0:=by
    match i,bad with
    |0,_=>rfl
    |1,b=>rw [b.1] at h0;cases h0
    |_+2,b=>rw [b.1] at h0;cases h0
   exact ⟨_,rfl,.inr ⟨cq,xs,cs,rfl,hcq,pc,cb,h0,fun da H' th=>kx H da H' (ao.refl _) th⟩⟩
  have h0:cs.all jb=true:=by simpa using h0
  have o6:∀ c∈cs,Aa 6 c:=fun c hc=>vd (List.all_eq_true.mp h0 c hc)
  have tb:∀ e∈cs.map fD,z7 e:=fun e he=>by
   obtain ⟨c,hc,rfl⟩:=List.mem_map.mp he
   exact Kg (List.all_eq_true.mp h0 c hc)
  refine ⟨_,rfl,.inl ⟨cq,xs,cs,rfl,hcq,pc,o6,cl,fun r zs H1 hr1 pt nr s1=>?_⟩⟩
  have hq1:=s1.seq hq
  refine ⟨_,rfl,q,_,rfl,.inl hq1,_,rfl,ys.length,r,zs,_,rfl,txn,aQ.of hr1,pt,tb,fun h1=>?_,fun h1=>?_⟩
  ·have e2:∃ k,i=k+2:=by
    match i,bad with
    |0,b=>have b:cs.all jb=false:=b;rw [b] at h0;cases h0
    |1,b=>rw [b.2] at h1;cases h1
    |k+2,_=>exact ⟨k,rfl⟩
   obtain ⟨k,rfl⟩:=e2
   refine ⟨_,rfl,q,_,rfl,.inl hq1,_,rfl,_,rfl,?_⟩
   dsimp only [jO,nZ]
   have rc:rC ys.length (cs.map fD) m=some 0:=by
    unfold rC
    rw [if_pos ⟨by omega,by omega⟩,if_pos h1,if_neg bad.2.2]
   exact ⟨ys.length,m,r,zs,_,0,rfl,txn,tm,aQ.of hr1,pt,tb,rc,fun da H' th=>kx H1 da H' s1 th⟩
  ·have e1:i=1:=by
    match i,bad with
    |0,b=>have b:cs.all jb=false:=b;rw [b] at h0;cases h0
    |1,_=>rfl
    |k+2,b=>rw [b.2.1] at h1;cases h1
   subst e1
   exact fun da H' th=>kx H1 da H' s1 th
end
def FW:Stmt->Expr
 |.Assign _ (.List (.Subscript (.Call _ (e::_) _ _) _ _::_) _) _=>e
 |_=>Mp
def xW:Stmt->Expr
 |.Expr (.Call _ (.Subscript (.Call _ (e::_) _ _) _ _::_) _ _) _=>e
 |_=>Mp
def Fz:Stmt->Expr
 |.Return (some (.Compare (.BinOp _ _ (.List (.Subscript (.Call _ (e::_) _ _) _ _::_) _) _) _ _ _)) _=>e
 |_=>Mp
def Bl (i:Nat):Stmt:=(bu (top 40)).getD i Pj
def qW:Expr:=FW (Bl 2)
def wG:Expr:=xW (Bl 3)
def wR:Expr:=xW (Bl 4)
def wJ:Expr:=Fz (Bl 5)
theorem Es:p6 [] qW:=⟨by decide +kernel,by decide +kernel,rfl,rfl,rfl,by decide +kernel⟩
theorem Ea:p6 [] wG:=⟨by decide +kernel,by decide +kernel,rfl,rfl,rfl,by decide +kernel⟩
theorem Fq:p6 [] wR:=⟨by decide +kernel,by decide +kernel,rfl,rfl,rfl,by decide +kernel⟩
theorem Dy:p6 [] wJ:=⟨by decide +kernel,by decide +kernel,rfl,rfl,rfl,by decide +kernel⟩
theorem Ny {K:Frag} {st:Stmt} {f:Addr} {fd:FuncData} (F:gA K "ordered" "ordered" st f fd) (h:∀ (kV doc pm:Value) (an:Option Addr) (cdv ct a b c:Value),bindArgs (fnOf "ordered" "ordered" (bx st) (bu st) (au st) .none kV doc pm an cdv ct) ⟨[a,b],[("most",c)]⟩=pure (([("rows" : Str),"causes","most"]:List Str).zip [a,b,c])) :
 lZ K fd ["rows","causes","most"] ["most"] uA nZ:=by
 obtain ⟨oc,od,kV,doc,pm,an,cdv,ct,osl,rfl,lk,hcd⟩:=F.ex
 refine ⟨fun s us ws X hl=>?_,fun {vs us zs ws} r rz=>?_⟩
 ·match us,ws,hl with
  |[a,b],[c],_=>exact .of_eq (h kV doc pm an cdv ct a b c)
  |[],_,z=>simp [uA] at z
  |[_],_,z=>simp [uA] at z
  |[_,_],[],z=>simp [uA] at z
  |[_,_],_::_::_,z=>simp [uA] at z
  |_::_::_::_,_,z=>simp [uA] at z
 ·match vs,us,r,zs,ws,rz with
  |_,_,.nil,_,_,_=>exact .nil
  |_,_,.cons r1 .nil,_,_,_=>exact .nil
  |_,_,.cons r1 (.cons r2 .nil),_,_,.nil=>exact .nil
  |_,_,.cons r1 (.cons r2 .nil),_,_,.cons z1 .nil=>exact .cons r1 (.cons r2 (.cons z1 .nil))
  |_,_,.cons r1 (.cons r2 .nil),_,_,.cons z1 (.cons z2 z)=>exact .nil
  |_,_,.cons r1 (.cons r2 (.cons r3 r)),_,_,_=>exact .nil
theorem N7 {K:Frag} {fd:FuncData} {v:Value} (h:∀ (S:Setting) (a b:Value),peek K S (bindArgs fd ⟨[a,b],[]⟩)=some ([("rows",a),("causes",b),("most",v)]:List (Str×Value))):Binds K fd ["rows","causes","most"] [v]:=fun s us X hl=>by
 match us,hl with
 |[a,b],_=>exact kp_binds X fun S=>h S a b
 |[],z=>simp at z
 |[_],z=>simp at z
 |_::_::_::_,z=>simp at z
def pH (L:Expr) (qual:Str) (pm:Value) (wd:Str):St->List V->Hp->VK->Prop:=fun _ vs H Q=>∃ f c' ctv,vs=[.ref f]/\H f=some (lamO f (kla_obj "<lambda>" qual (ii L) (jB L) (cU L) [] pm c' ctv))/\H c'=some (gO c' qual)/\
 ∀ H2,ao H H2->∀ l,H2 l=none->Q (.ref l) (upd H2 l (.lst [.str wd,.non]))
def yx (P:Program) (w:World) (K:Frag) (mg:Str->Option Value) (base:Heap) (qual:Str) (L:Expr) (cP:Addr) (wd:Str):Prop:=∃ t:XK->TE,
 (∀ (f c':Addr) (A:Around) (outer:List Env) (s:Shared) (H:Hp) (E:XK),bL 8 (A.deeper (envX qual (cU L) s.heap.objs.size f (.ref c') []))->PE (fU P w K mg base [] qual (cU L) f (.ref c') [] A outer s H E) (jB L) (t E))/\
 ∀ (Ev:XK) (H:Hp) (Qv:VK),(∀ H1 da H',ao H H1->fK H1 [("word",.str wd)] da H'->Ev (.ref cP) (some da) H')->t Ev [] H Qv
theorem uT {X:Cx} {cV cS cM cP:Addr} {L:Expr} {qual wd:Str} {pm:Value} {E:XK} {Z:List (Addr×Obj)} {O:St} {H:Hp} {s:Shared} {vs:List V} {Q:VK} (LO:p6 [] L)
 (hbind:∀ c' ctv,bindArgs (kla_fn "<lambda>" qual (ii L) (jB L) (cU L) [] pm (.ref c') ctv) ⟨[],[]⟩=pure [])
 (hfn:∀ x,X.fn x=true) (hst:X.stack=X.env::X.outer) (hfm:X.env.frame=some X.env.locals)
 (LT:yx X.prog X.w X.K X.mg X.base qual L cP wd) (BP:qX X.K cP cV cS) (I:Inv X Z O H s) (h:pH L qual pm wd O vs H Q):uW X.prog X.w X.K X.mg X.base 9 cV cS cM s X.stack vs H Q E:=by
 obtain ⟨f,c',ctv,rfl,ho,hc,k⟩:=h
 obtain ⟨t,hb,hx⟩:=LT
 exact Bq (NL:=[]) (js:=[]) (ν:=[]) (wd:=wd) (t:=t) LO hbind (fun _ h=>by cases h) (fun _ h=>by cases h) hfn (fun _ h=>by cases h) rfl hst hfm hb BP I ho hc rfl (hx _ _ _ fun H1 da H' s1 th=>⟨rfl,H1,da,rfl,s1,th,k⟩)
section
variable {P:Program} {w:World} {K:Frag} {mg:Str->Option Value} {base:Heap}
theorem yP {a t b u:Int} (h1:-10≤a/\a≤10) (h2:-10≤t/\t≤10) (h3:-10≤b/\b≤10) (h4:-10≤u/\u≤10):Bb ⟨a,t,b,u⟩:=by
 refine ⟨?_,?_,?_,?_⟩ <;> unfold nu Bw <;> dsimp only <;> omega
abbrev qL:Str:="law.<locals>."++"<lambda>"
theorem Ku {i:Int} (h:-10≤i) (h':i≤1000000):nu i:=by unfold nu Bw;omega
theorem HF {f cC cT cZ:Addr} {fd:FuncData} {tM:Tok} (G:aN P w K mg base (jJ P w) 8 f fd ["rows","causes","most"] (yD K cC cT cZ)) (m:mg "ordered" = some (.ref f)) (kp:keepIn K (.ref f)=true) (bd:Binds K fd ["rows","causes","most"] [Value.int 99999 tM]):yx P w K mg base qL qW cT "badtie":=by
 have vM:Vals [V.int 99999] [Value.int 99999 tM]:=.cons ⟨tM,rfl⟩ .nil
 refine ⟨_,fun f c' A outer s H E hr=>aM (E:=E) G hr (by rfl) m kp bd vM (uH fun _ _ _ h=>h) (aa (bK (aa (bK ak) ak)) (aa (bK (aa (cz (aa az (aa az (aa az (aa az ak))))) ak)) ak)),fun Ev H Qv k=>?_⟩
 refine ⟨(by show 0≤sizeLine;decide),fun r hr=>⟨(by show 1≤sizeLine;decide),fun q hq=>⟨(by show 4≤sizeLine;decide),fun a ha=>⟨(by show 1≤sizeLine;decide),fun cq hcq=>?_⟩⟩⟩⟩
 have s1:=ao.new (o:=.lst []) hr
 have s2:=ao.new (o:=.lst [.ref r]) hq
 have s3:=ao.new (o:=.tup [.int 0,.int 1,.int 1,.int 1]) ha
 have s4:=ao.new (o:=.lst [.ref a]) hcq
 refine ⟨q,cq,99999,[.ref r],[.ref a],[⟨0,1,1,1⟩],1,rfl,aQ.of (s4 _ _ (s3 _ _ aj)),(by simp),(by simp),aQ.of aj,.cons ⟨a,rfl,s4 _ _ aj⟩ .nil,fun c hc=>?_,by decide,Ku (by decide) (by decide),⟨rfl,rfl⟩,fun H1 da H' s5 th=>k H1 da H' ((((s1.trans s2).trans s3).trans s4).trans s5) th⟩
 cases List.mem_singleton.mp hc
 exact yP (by decide) (by decide) (by decide) (by decide)
theorem Dt {f cC cT cZ:Addr} {fd:FuncData} (G:aN P w K mg base (jJ P w) 8 f fd ["rows","causes","most"] (yD K cC cT cZ)) (m:mg "ordered" = some (.ref f)) (kp:keepIn K (.ref f)=true) (kb:lZ K fd ["rows","causes","most"] ["most"] uA nZ):yx P w K mg base qL wG cC "badcause"/\yx P w K mg base qL wR cT "badtie":=by
 constructor
 ·refine ⟨_,fun f c' A outer s H E hr=>gQ (E:=E) G hr (by rfl) m kp kb (uH fun _ _ _ h=>h) (aa (bK (aa (bK ak) (aa (bK ak) ak))) (aa (bK (aa (cz (aa az (aa az (aa az (aa az ak))))) ak)) ak)) (ig (iV gZ az) j5),fun Ev H Qv k=>?_⟩
  refine ⟨(by show 0≤sizeLine;decide),fun r hr=>⟨(by show 0≤sizeLine;decide),fun r' hr'=>⟨(by show 2≤sizeLine;decide),fun q hq=>⟨(by show 4≤sizeLine;decide),fun a ha=>⟨(by show 1≤sizeLine;decide),fun cq hcq=>⟨_,rfl,?_⟩⟩⟩⟩⟩⟩
  dsimp only [jO,nZ]
  have s1:=(ao.new (o:=.lst []) hr).trans (ao.new (o:=.lst []) hr')
  have s2:=ao.new (o:=.lst [.ref r,.ref r']) hq
  have s3:=ao.new (o:=.tup [.int 0,.int 1,.int 0,.int 1]) ha
  have s4:=ao.new (o:=.lst [.ref a]) hcq
  refine ⟨q,cq,-1,[.ref r,.ref r'],[.ref a],[⟨0,1,0,1⟩],0,rfl,aQ.of (s4 _ _ (s3 _ _ aj)),(by simp),(by simp),aQ.of aj,.cons ⟨a,rfl,s4 _ _ aj⟩ .nil,fun c hc=>?_,by decide,Ku (by decide) (by decide),rfl,fun H1 da H' s5 th=>k H1 da H' ((((s1.trans s2).trans s3).trans s4).trans s5) th⟩
  cases List.mem_singleton.mp hc
  exact yP (by decide) (by decide) (by decide) (by decide)
 ·refine ⟨_,fun f c' A outer s H E hr=>gQ (E:=E) G hr (by rfl) m kp kb (uH fun _ _ _ h=>h) (aa (bK (aa (bK ak) (aa (bK ak) ak))) (aa (bK (aa (cz (aa az (aa az (aa az (aa az ak))))) ak)) ak)) (ig (iV gZ az) j5),fun Ev H Qv k=>?_⟩
  refine ⟨(by show 0≤sizeLine;decide),fun r hr=>⟨(by show 0≤sizeLine;decide),fun r' hr'=>⟨(by show 2≤sizeLine;decide),fun q hq=>⟨(by show 4≤sizeLine;decide),fun a ha=>⟨(by show 1≤sizeLine;decide),fun cq hcq=>⟨_,rfl,?_⟩⟩⟩⟩⟩⟩
  dsimp only [jO,nZ]
  have s1:=(ao.new (o:=.lst []) hr).trans (ao.new (o:=.lst []) hr')
  have s2:=ao.new (o:=.lst [.ref r,.ref r']) hq
  have s3:=ao.new (o:=.tup [.int 0,.int 1,.int 2,.int 1]) ha
  have s4:=ao.new (o:=.lst [.ref a]) hcq
  refine ⟨q,cq,-1,[.ref r,.ref r'],[.ref a],[⟨0,1,2,1⟩],1,rfl,aQ.of (s4 _ _ (s3 _ _ aj)),(by simp),(by simp),aQ.of aj,.cons ⟨a,rfl,s4 _ _ aj⟩ .nil,fun c hc=>?_,by decide,Ku (by decide) (by decide),⟨rfl,rfl⟩,fun H1 da H' s5 th=>k H1 da H' ((((s1.trans s2).trans s3).trans s4).trans s5) th⟩
  cases List.mem_singleton.mp hc
  exact yP (by decide) (by decide) (by decide) (by decide)
theorem GF {f cC cT cZ:Addr} {fd:FuncData} (G:aN P w K mg base (jJ P w) 8 f fd ["rows","causes","most"] (yD K cC cT cZ)) (m:mg "ordered" = some (.ref f)) (kp:keepIn K (.ref f)=true) (kb:lZ K fd ["rows","causes","most"] ["most"] uA nZ):yx P w K mg base qL wJ cZ "badsize":=by
 refine ⟨_,fun f c' A outer s H E hr=>gQ (E:=E) G hr (by rfl) m kp kb (uH fun _ _ _ h=>h) (aa (bK (aa (bK ak) ak)) (aa (bK ak) ak)) (ig (iV gZ az) j5),fun Ev H Qv k=>?_⟩
 refine ⟨(by show 0≤sizeLine;decide),fun r hr=>⟨(by show 1≤sizeLine;decide),fun q hq=>⟨(by show 0≤sizeLine;decide),fun cq hcq=>⟨_,rfl,?_⟩⟩⟩⟩
 dsimp only [jO,nZ]
 have s1:=ao.new (o:=.lst []) hr
 have s2:=ao.new (o:=.lst [.ref r]) hq
 have s4:=ao.new (o:=.lst []) hcq
 exact ⟨q,cq,-1,[.ref r],[],[],2,rfl,aQ.of (s4 _ _ aj),(by simp),(by simp),aQ.of aj,.nil,fun c hc=>(by cases hc),by decide,Ku (by decide) (by decide),⟨rfl,rfl,by decide⟩,fun H1 da H' s5 th=>k H1 da H' (((s1.trans s2).trans s4).trans s5) th⟩
end
theorem _root_.L2.call_list_ofK {X:Cx} {K:Frag} (hK:X.K=K):dH X (.type "list") (fun xs H Q=>∃ p ys,xs=[.ref p]/\(aQ K H p ys∨cA K H p ys)/\∀ l,H l=none->Q (.ref l) (upd H l (.lst ys))):=by
 subst hK
 exact kZ
abbrev mD:List Pos:=[jY qW,jY wG,jY wR,jY wJ]
abbrev Kq (H H':Hp):Prop:=∀ b u,H b=some u->(∀ qs,u≠.tbl qs)->(∀ kv,u≠.dK kv)->H' b=some u
theorem d_ {H H':Hp} (s:ao H H'):Kq H H':=fun b u e _ _=>s b u e
theorem yX {H H':Hp} {p dc:Addr} (D:Dr H p dc) (b:gB p H H'):Kq H H':=fun c u e _ nd=>b c u e (D.ne e nd)
theorem Kq.lst {H H':Hp} (k:Kq H H') {a:Addr} {xs:List V} (e:H a=some (.lst xs)):H' a=some (.lst xs):=k _ _ e (by intro _ z;cases z) (by intro _ z;cases z)
theorem Kq.tk {H H':Hp} (k:Kq H H'):TK H H':=fun b xs e=>k _ _ e (by intro _ z;cases z) (by intro _ z;cases z)
theorem Kq.trans {H H' H'':Hp} (k:Kq H H') (k':Kq H' H''):Kq H H'':=fun b u e x y=>k' _ _ (k _ _ e x y) x y
theorem jT {H H':Hp} (k:Kq H H') {ys:List V} {rs:List (List lJ)} (h:Paired (Io H) ys rs):Paired (Io H') ys rs:=du (fun _ _ ⟨a,e,z,ev⟩=>⟨a,e,k.lst z,fun x hx=>(ev x hx).tk k.tk⟩) h
theorem j6 {H H':Hp} (k:Kq H H') {rs:List (List lJ)} {gss:List (List Tg)} (h:Paired (RT H) rs gss):Paired (RT H') rs gss:=du (fun _ _ z=>du (fun _ _ y=>⟨y.1.tk k.tk,y.2⟩) z) h
def vP (c:oE):PyData:=.tuple [.int c.a,.int c.t,.int c.b,.int c.u]
theorem lM {K:Frag} {H:Hp}:∀ {xs:List V} {cs:List oE},Paired (gK H) xs cs->cN K H xs (cs.map vP)
 |_,_,.nil=>.nil
 | _,_,.cons ⟨b,e,h⟩ t=>by
   subst e
   exact .cons (.tup (cA.of h) (.cons (.int _) (.cons (.int _) (.cons (.int _) (.cons (.int _) .nil))))) (lM t)
theorem oR:∀ es:List oE,bH (es.map vP)≤1/\cQ (es.map vP) (es.map vP)=true
 |[]=>by simp [bH,cQ]
 | e::r=>by
   have:=oR r
   rw [List.map_cons]
   refine ⟨?_,?_⟩
   ·simp only [bH,dm,vP]
    omega
   ·simp [cQ,dY,vP,this.2]
structure KL (Tt Tm p dc:Addr) (H:Hp):Prop where
 D:Dr H p dc
 tb:g_ H Tt qL mD
 tm:g_ H Tm qM [jY xK]
theorem KL.same {Tt Tm p dc:Addr} {H H':Hp} (h:KL Tt Tm p dc H) (s:ao H H'):KL Tt Tm p dc H':=⟨h.D.mono s,h.tb.same s,h.tm.same s⟩
theorem KL.but {Tt Tm p dc:Addr} {H H':Hp} (h:KL Tt Tm p dc H) (D':Dr H' p dc) (b:gB p H H'):KL Tt Tm p dc H':=⟨D',h.tb.keep fun q u e ne=>b q u e (h.D.ne e ne),h.tm.keep fun q u e ne=>b q u e (h.D.ne e ne)⟩
theorem vB {H:Hp} {T w:Addr} {qual:Str} {mD:List Pos} {ys zs:List V} (h:g_ H T qual mD) (hw:H w=some (.lst ys)):g_ (upd H w (.lst zs)) T qual mD:=by
 obtain ⟨ps,h1,h2,h3⟩:=h
 refine ⟨ps,?_,h2,fun lp m=>?_⟩
 ·rw [aA (fun z=>by subst z;rw [hw] at h1;cases h1)];exact h1
 ·rcases h3 lp m with h|⟨c',a,b⟩
  ·exact .inl h
  ·refine .inr ⟨c',a,?_⟩
   rw [aA (fun z=>by subst z;rw [hw] at b;cases b)];exact b
theorem KL.put {Tt Tm p dc w:Addr} {H:Hp} {ys zs:List V} (h:KL Tt Tm p dc H) (hw:H w=some (.lst ys)) (n:w≠dc):KL Tt Tm p dc (upd H w (.lst zs)):=⟨h.D.put (h.D.ne hw (by intro _ z;cases z)) n,vB h.tb hw,vB h.tm hw⟩
abbrev z_ (T:Addr) (H H':Hp):Prop:=∀ b u,H b=some u->((∀ qs,u≠.tbl qs)∨b≠T)->H' b=some u
theorem z_.tab {T T':Addr} {H H':Hp} {qual:Str} {mD:List Pos} (k:z_ T H H') (ne:T'≠T) (h:g_ H T' qual mD):g_ H' T' qual mD:=by
 obtain ⟨ps,h1,h2,h3⟩:=h
 refine ⟨ps,k _ _ h1 (.inr ne),h2,fun lp m=>?_⟩
 rcases h3 lp m with h|⟨c',a,b⟩
 ·exact .inl h
 ·exact .inr ⟨c',a,k _ _ b (.inl (by intro _ z;cases z))⟩
theorem z_.lst {T:Addr} {H H':Hp} (k:z_ T H H') {a:Addr} {xs:List V} (e:H a=some (.lst xs)):H' a=some (.lst xs):=k _ _ e (.inl (by intro _ z;cases z))
theorem z_.dr {T:Addr} {H H':Hp} (k:z_ T H H') {p dc:Addr} (D:Dr H p dc):Dr H' p dc:=by
 obtain ⟨ns,a,r,s,h1,h2,h3⟩:=D.ex
 exact ⟨ns,a,r,s,k _ _ h1 (.inl (by intro _ z;cases z)),k _ _ h2 (.inl (by intro _ z;cases z)),h3⟩
theorem BL {H H1:Hp} {T c' f':Addr} {lp:Pos} {qual:Str} (lm:wN H T lp qual c' H1) (hf:H1 f'=none) {o:HO}:z_ T H (upd H1 f' o):=fun b u e ne=>by
 have e2:H1 b=some u:=by
  rcases ne with ne|ne
  ·exact lm.keep e ne
  ·obtain ⟨ps,hP,lm⟩:=lm
   rcases lm with ⟨_,hc,_,rfl⟩|⟨_,_,rfl⟩
   ·rw [aA (aC e hc),aA ne];exact e
   ·exact e
 rw [aA (aC e2 hf)]
 exact e2
theorem pO {L:Expr} {Tt Tm p dc c' fl:Addr} {H H1:Hp} {wd:Str} {pm ctv:Value} {O:St} {Q:VK} (ntm:Tt≠Tm) (h:KL Tt Tm p dc H) (lm:wN H Tt (jY L) qL c' H1) (hf:H1 fl=none)
 (k:∀ l H',KL Tt Tm p dc H'->z_ Tt H H'->H' l=some (.lst [.str wd,.non])->H l=none->Q (.ref l) H'):pH L qL pm wd O [.ref fl] (upd H1 fl (lamO fl (kla_obj "<lambda>" qL (ii L) (jB L) (cU L) [] pm c' ctv))) Q:=by
 have kx:z_ Tt H (upd H1 fl (lamO fl (kla_obj "<lambda>" qL (ii L) (jB L) (cU L) [] pm c' ctv))):=BL lm hf
 refine ⟨fl,c',ctv,rfl,aj,ao.new hf _ _ lm.code,fun H2 s2 l hl=>?_⟩
 have L8:KL Tt Tm p dc (upd H1 fl (lamO fl (kla_obj "<lambda>" qL (ii L) (jB L) (cU L) [] pm c' ctv))):=⟨kx.dr h.D,(h.tb.lam lm).same (ao.new hf),kx.tab (Ne.symm ntm) h.tm⟩
 have s3:=s2.trans (ao.new (o:=.lst [.str wd,.non]) hl)
 refine k l _ (L8.same s3) (fun b u e ne=>s3 _ _ (kx b u e ne)) aj ?_
 have h1:=s2.free hl
 have h2:=(ao.new (o:=lamO fl (kla_obj "<lambda>" qL (ii L) (jB L) (cU L) [] pm c' ctv)) hf).free h1
 cases e:H l with
 |none=>rfl
 | some u=>
   obtain ⟨v,hv⟩:=lm.some e
   rw [h2] at hv
   cases hv
section
variable {P:Program} {w:World} {K:Frag} {mg:Str->Option Value} {base:Heap}
def Dj (K:Frag) (Tt Tm:Addr) (tbs:Array Value):Sp:=fun vs H Q _=>∃ (a:Addr) (ns:List Int),vs=[.ref a]/\aQ K H a (ns.map V.int)/\ns.length≤63/\H Tt=some (.tbl tbs)/\H Tm=some (.tbl tbs)/\∀ H',Q (.bl true) H'
abbrev NW:List Str:=["_law_script","_law_d","_law_turn","_law_lanes","_law_rows","_law_causes_here","_law_top","_law_handed","_law_told","_law_ties","_law_one","_law_time","_law_other","_law_second","_law_words"]
theorem gW:aW NW ["_law_script"] (au (top 40)):=⟨rfl,rfl,rfl,by decide +kernel,rfl,by decide +kernel,by decide +kernel⟩
theorem D_ {f c Tt Tm fB fP fO fS fTr fCa fTy fLd fMt fIr fBr fOd fA cV cS cM cZ cC cT:Addr} {fdB fdP fdO fdS fdTr fdCa fdTy fdLd fdMt fdIr fdBr fdOd fdA:FuncData} {oc kV doc pm ct:Value} {od an:Option Addr} {osl:Array (Option Value)} {tbs:Array Value} {tM:Tok}
 (lk:K.lookup f=some ⟨oc,od,.func (fnOf "law" "law" (bx (top 40)) (bu (top 40)) (au (top 40)) .none kV doc pm an (.ref c) ct),osl⟩) (hcd:codeIn K (.ref c) "law" = true)
 (HT:CodeHd base c Tt) (HB:base.BuiltinsAt mg Tt) (HG:mainGlobals≠Tt) (tri:TriplesOk tbs.toList) (cn:∀ lp,codeAmong lp tbs.toList=none) (ntm:Tt≠Tm)
 (T:Txt K mg) (hset:mg "set" = none) (hsum:mg "sum" = none) (hso:mg "sorted" = none) (BZ:qX K cZ cV cS) (BC:qX K cC cV cS) (BT:qX K cT cV cS)
 (DB:dZ K mg "_law_begin" (top 28) ["_law_script"] fB fdB) (DP:dZ K mg "_law_pick" (top 29) ["_law_d","_law_many"] fP fdP) (DO:dZ K mg "_law_of" (top 30) ["_law_d","_law_things"] fO fdO) (DS:dZ K mg "_law_same" (top 31) ["_law_found","_law_due"] fS fdS)
 (DTr:dZ K mg "_law_told_rows" (top 36) ["_law_d","_law_lanes"] fTr fdTr) (DCa:dZ K mg "_law_causes" (top 37) ["_law_d","_law_lanes","_law_rows"] fCa fdCa) (DTy:dZ K mg "_law_ties_by" (top 38) ["_law_causes_here"] fTy fdTy) (DLd:dZ K mg "_law_laid" (top 39) ["_law_rows","_law_row"] fLd fdLd)
 (DMt:dZ K mg "_law_meets" (top 33) ["_law_ties","_law_row","_law_top"] fMt fdMt) (DIr:dZ K mg "_law_is_ring" (top 34) ["_law_ring_told","_law_lanes","_law_ties","_law_top"] fIr fdIr) (DBr:dZ K mg "_law_borne" (top 35) ["_law_row","_law_ties"] fBr fdBr)
 (FOd:gA K "ordered" "ordered" (top 26) fOd fdOd) (mOd:mg "ordered" = some (.ref fOd)) (hdO:∀ (S:Setting) (a b:Value),peek K S (bindArgs fdOd ⟨[a,b],[]⟩)=some ([("rows",a),("causes",b),("most",.int 99999 tM)]:List (Str×Value)))
 (GOd:aN P w K mg base cJ 5 fOd fdOd ["rows","causes","most"] (Ed K Tm)) (GX:aN P w K mg base (jJ P w) 8 fOd fdOd ["rows","causes","most"] (yD K cC cT cZ))
 (GA:o_ P w K mg base cJ 10 fA fdA ["_law_ask_here"] (uW P w K mg base 9 cV cS cM)) (hA:mg "_law_ask" = some (.ref fA)) (kA:keepIn K (.ref fA)=true) (bA:Binds K fdA ["_law_ask_here"] []) :
 aN P w K mg base cJ 12 f (fnOf "law" "law" (bx (top 40)) (bu (top 40)) (au (top 40)) .none kV doc pm an (.ref c) ct) ["_law_script"] (Dj K Tt Tm tbs):=by
 have GB:aN P w K mg base cJ 1 fB fdB ["_law_script"] (vm K):=zg DB.F T
 have GP:aN P w K mg base cJ 1 fP fdP ["_law_d","_law_many"] mZ:=mQ DP.F T
 have GO:aN P w K mg base cJ 2 fO fdO ["_law_d","_law_things"] (Bh K):=yc DO.F T DP
 have GS:aN P w K mg base cJ 6 fS fdS ["_law_found","_law_due"] (spS K 6):=Az DS T 6
 have GTr:aN P w K mg base cJ 3 fTr fdTr ["_law_d","_law_lanes"] JG:=JC DTr.F T DP DO
 have GCa:aN P w K mg base cJ 3 fCa fdCa ["_law_d","_law_lanes","_law_rows"] Jk:=Ja DCa.F T DP DO
 have GTy:aN P w K mg base cJ 1 fTy fdTy ["_law_causes_here"] (Gw K):=Kh DTy.F
 have GLd:aN P w K mg base cJ 1 fLd fdLd ["_law_rows","_law_row"] (Ib K):=K6 DLd.F T
 have GMt:aN P w K mg base cJ 1 fMt fdMt ["_law_ties","_law_row","_law_top"] (Ie K):=Je DMt.F T
 have GIr:aN P w K mg base cJ 6 fIr fdIr ["_law_ring_told","_law_lanes","_law_ties","_law_top"] (HR K):=Jv DIr.F T hset hsum
 have GBr:aN P w K mg base cJ 1 fBr fdBr ["_law_row","_law_ties"] (Jm K):=HY DBr.F T hset hso
 have kbO:=Ny FOd (fun _ _ _ _ _ _ _ _ _=>rfl)
 have bdO:=N7 hdO
 have vM:Vals [V.int 99999] [Value.int 99999 tM]:=.cons ⟨tM,rfl⟩ .nil
 have LT1:=HF GX mOd FOd.kp bdO
 obtain ⟨LT2,LT3⟩:=Dt GX mOd FOd.kp kbO
 have LT4:=GF GX mOd FOd.kp kbO
 refine rN lk hcd gW (fun vs H Q E h=>?_) (fun A outer s H vs Q E hr h=>?_)
 ·obtain ⟨a,ns,rfl,_⟩:=h
  rfl
 ·obtain ⟨sa,ss,rfl,hS,hlen,hTb,hTm,k⟩:=h
  have hr1:bL 1 _:=hr.mono (by decide)
  have hr2:bL 2 _:=hr.mono (by decide)
  have hr3:bL 3 _:=hr.mono (by decide)
  have hr5:bL 5 _:=hr.mono (by decide)
  have hr6:bL 6 _:=hr.mono (by decide)
  have hr10:bL 10 _:=hr.mono (by decide)
  have CT:mL (iU cJ P w K mg base NW "law" (au (top 40)) f (.ref c) A outer s H E) c Tt:=⟨rfl,HT,HB,HG⟩
  refine ⟨_,(aq (bf (i:=1) gW.nd rfl (by first|exact Or.inl rfl|exact Or.inr rfl) (aM GB hr1 rfl DB.mg DB.F.kp DB.b .nil bh (aa (pv 0) ak)))
   (aq (dw PassesOwn.leaving rfl (bJ rfl T.range (aa az ak)) (aD (i:=2) gW.nd rfl (by first|exact Or.inl rfl|exact Or.inr rfl))
   (aq (bf (i:=3) gW.nd rfl (by first|exact Or.inl rfl|exact Or.inr rfl) (bj c7 az (aM GP hr1 rfl DP.mg DP.F.kp DP.b .nil bh (aa (pv 1) (aa az ak)))))
   (aq (bf (i:=4) gW.nd rfl (by first|exact Or.inl rfl|exact Or.inr rfl) (aM GTr hr3 rfl DTr.mg DTr.F.kp DTr.b .nil bh (aa (pv 1) (aa (pv 3) ak))))
   (aq (bf (i:=5) gW.nd rfl (by first|exact Or.inl rfl|exact Or.inr rfl) (aM GCa hr3 rfl DCa.mg DCa.F.kp DCa.b .nil bh (aa (pv 1) (aa (pv 3) (aa (pv 4) ak)))))
   (aq (bf (i:=6) gW.nd rfl (by first|exact Or.inl rfl|exact Or.inr rfl) (aM GO hr2 rfl DO.mg DO.F.kp DO.b .nil bh (aa (pv 1) (aa (bK (aa az (aa az (aa az (aa az (aa az ak)))))) ak))))
   (aq (bf (i:=7) gW.nd rfl (by first|exact Or.inl rfl|exact Or.inr rfl) (eO (call_list_ofK (K:=K) rfl) (by rfl) T.list ji (aa (pv 5) ak)))
   (aq (bf (i:=8) gW.nd rfl (by first|exact Or.inl rfl|exact Or.inr rfl) (nC (aP lB (pv 6) az (aR _)) (gQ GOd hr5 rfl mOd FOd.kp kbO bh (aa (pv 4) (aa (pv 7) ak)) (ig (pv 6) j5)) (aM GOd hr5 rfl mOd FOd.kp bdO vM bh (aa (pv 4) (aa (pv 7) ak)))))
   (aq (bW (PW.pt (dX (bV (fu (aG cL (by rfl) T.isinstance aZ (aa (pv 8) (aa (eZ rfl T.tuple kj) ak))))) (dN (aP (FZ hr.units) (pv 7) (pv 5) (aR _))))) (aB b_) bc)
   (aq (bf (i:=9) gW.nd rfl (by first|exact Or.inl rfl|exact Or.inr rfl) (aM GTy hr1 rfl DTy.mg DTy.F.kp DTy.b .nil bh (aa (pv 5) ak)))
   (aB (bW (aP eY (aY (r:=fj K) aV (pv 8) az (fun _ _=>rfl)) aX (aR _)) (aB (bW (PW.pt (dX (aP lB (aG aO (by rfl) T.len cu (aa (pv 8) ak)) az (aR _)) (dN (bV (fu (aM GIr hr6 rfl DIr.mg DIr.F.kp DIr.b .nil bh (aa (aY (r:=fj K) aV (pv 8) az (fun _ _=>rfl)) (aa (pv 3) (aa (pv 9) (aa (pv 6) ak)))))))))) (aB b_) bc)) (aq (bW (PW.pt (dX (aP lB (aY (r:=fj K) aV (pv 8) az (fun _ _=>rfl)) aX (aR _)) (dX (aP lB (aG aO (by rfl) T.len cu (aa (pv 8) ak)) az (aR _)) (dN (bV (fu (aM GMt hr1 rfl DMt.mg DMt.F.kp DMt.b .nil bh (aa (pv 9) (aa (aY (r:=fj K) aV (pv 8) az (fun _ _=>rfl)) (aa (pv 6) ak)))))))))) (aB b_) bc)
   (aq (bW (PW.pt (dX (bV (fu (aM GBr hr1 rfl DBr.mg DBr.F.kp DBr.b .nil bh (aa (aY (r:=fj K) aV (pv 8) az (fun _ _=>rfl)) (aa (pv 9) ak))))) (dN (bV (fu (aM GS hr6 rfl DS.mg DS.F.kp DS.b .nil bh (aa (aY (r:=fj K) aV (pv 8) az (fun _ _=>rfl)) (aa (aM GLd hr1 rfl DLd.mg DLd.F.kp DLd.b .nil bh (aa (pv 4) (aa (aY (r:=fj K) aV (pv 8) az (fun _ _=>rfl)) ak))) ak)))))))) (aB b_) bc)
   (aB (dw PassesOwn.leaving rfl (cD (pv 5)) (eQ rfl (aK (aD (i:=10) gW.nd rfl (by first|exact Or.inl rfl|exact Or.inr rfl)) (aK (aD (i:=11) gW.nd rfl (by first|exact Or.inl rfl|exact Or.inr rfl)) (aK (aD (i:=12) gW.nd rfl (by first|exact Or.inl rfl|exact Or.inr rfl)) (aK (aD (i:=13) gW.nd rfl (by first|exact Or.inl rfl|exact Or.inr rfl)) dD)))))
   (aB (bW (bV (aP gH (bj c7 (pv 11) (aY (r:=fj K) aV (aY (r:=fj K) aV (pv 8) az (fun _ _=>rfl)) (pv 10) (fun _ _=>rfl))) (bj c7 (pv 13) (aY (r:=fj K) aV (aY (r:=fj K) aV (pv 8) az (fun _ _=>rfl)) (pv 12) (fun _ _=>rfl))) (aR _))) (aB b_) bc)))))))))))))))))
   (aq (bf (i:=14) gW.nd rfl (by first|exact Or.inl rfl|exact Or.inr rfl) (bK (aa (aY (r:=vC K) gf (kY (E:=E0) (r:=pH qW qL ((mg "__name__").getD .none) "badtie") GA hr10 (by rfl) hA kA bA bh (fun Z O H s' vs Q I h=>uT Es (fun _ _=>rfl) (fun _=>rfl) rfl rfl LT1 BT I h) (aa (mW CT rfl rfl) ak)) az (fun _ _=>rfl)) ak)))
   (aq (bC (kJ PySem.F.plainAttrs_list PySem.F.slot_list_append PySem.F.type_list_append dO (pv 14) (aa (aY (r:=vC K) gf (kY (E:=E0) (r:=pH wG qL ((mg "__name__").getD .none) "badcause") GA hr10 (by rfl) hA kA bA bh (fun Z O H s' vs Q I h=>uT Ea (fun _ _=>rfl) (fun _=>rfl) rfl rfl LT2 BC I h) (aa (mW CT rfl rfl) ak)) az (fun _ _=>rfl)) ak)))
   (aq (bC (kJ PySem.F.plainAttrs_list PySem.F.slot_list_append PySem.F.type_list_append dO (pv 14) (aa (aY (r:=vC K) gf (kY (E:=E0) (r:=pH wR qL ((mg "__name__").getD .none) "badtie") GA hr10 (by rfl) hA kA bA bh (fun Z O H s' vs Q I h=>uT Fq (fun _ _=>rfl) (fun _=>rfl) rfl rfl LT3 BT I h) (aa (mW CT rfl rfl) ak)) az (fun _ _=>rfl)) ak)))
   (aB (bF (dI (oA hr.units) (bj jK (pv 14) (bK (aa (aY (r:=vC K) gf (kY (E:=E0) (r:=pH wJ qL ((mg "__name__").getD .none) "badsize") GA hr10 (by rfl) hA kA bA bh (fun Z O H s' vs Q I h=>uT Dy (fun _ _=>rfl) (fun _=>rfl) rfl rfl LT4 BZ I h) (aa (mW CT rfl rfl) ak)) az (fun _ _=>rfl)) ak))) (bK (aa aX (aa aX (aa aX (aa aX ak))))) (aR _))))))))),?_⟩
  have z0:0≤sizeLine:=by decide
  have q1m:jY qW∈mD:=List.mem_cons_self ..
  have q2m:jY wG∈mD:=List.mem_cons_of_mem _ (List.mem_cons_self ..)
  have q3m:jY wR∈mD:=List.mem_cons_of_mem _ (List.mem_cons_of_mem _ (List.mem_cons_self ..))
  have q4m:jY wJ∈mD:=List.mem_cons_of_mem _ (List.mem_cons_of_mem _ (List.mem_cons_of_mem _ (List.mem_cons_self ..)))
  refine ⟨_,rfl,sa,ss,rfl,hS,hlen,fun p dc H0 D0 s0 _=>?_⟩
  have L0:KL Tt Tm p dc H0:=⟨D0,⟨tbs,s0 _ _ hTb,tri,fun lp m=>.inl (cn lp)⟩,⟨tbs,s0 _ _ hTm,tri,fun lp m=>.inl (cn lp)⟩⟩
  clear D0 s0
  dsimp only [aU,List.set]
  refine bU (fun σ' H'=>(∃ u2 u3 u4 u5 u6 u7 u8 u9 u10 u11 u12 u13 u14:Option V,σ'=[some (.ref sa),some (.ref p),u2,u3,u4,u5,u6,u7,u8,u9,u10,u11,u12,u13,u14])/\KL Tt Tm p dc H') ?nx0 fun N0 hN0=>?st0
  case st0=>
   refine ⟨2,rfl,by decide,by decide,?_⟩
   refine dG (n:=2) (fun i σ' H'=>(∃ u2 u3 u4 u5 u6 u7 u8 u9 u10 u11 u12 u13 u14:Option V,σ'=[some (.ref sa),some (.ref p),u2,u3,u4,u5,u6,u7,u8,u9,u10,u11,u12,u13,u14])/\KL Tt Tm p dc H') ⟨⟨none,none,none,none,none,none,none,none,none,none,none,none,none,rfl⟩,L0⟩ ?_ ?_
   ·rintro i σ' H1 hi ⟨⟨u2,u3,u4,u5,u6,u7,u8,u9,u10,u11,u12,u13,u14,rfl⟩,L1⟩
    dsimp only [aU,List.set]
    refine ⟨_,rfl,p,dc,_,rfl,L1.D,by decide,by decide,fun r H2 r0 r1 D2 b2=>⟨_,_,rfl,rfl,?_⟩⟩
    have L2:=L1.but D2 b2
    obtain ⟨n,en⟩:=Int.eq_ofNat_of_zero_le (show 0≤1+r by omega)
    dsimp only
    rw [en]
    have n1:1≤n:=by omega
    have n6:n≤6:=by omega
    clear r0 r1 en b2 L1 D2
    refine ⟨_,rfl,_,rfl,p,dc,n,rfl,L2.D,n6,fun q ys gss H3 hq pr gl rw' nq D3 b3=>?_⟩
    have L3:=L2.but D3 b3
    clear L2 D3 b3 nq
    dsimp only [aU,List.set]
    obtain ⟨rs,p1,p2⟩:=z6 pr
    have rl:=Paired.length p2
    have yl:=Paired.length p1
    obtain rfl:n=rs.length:=by omega
    refine ⟨_,rfl,_,rfl,_,rfl,p,dc,q,q,rs.length,ys,gss,rfl,L3.D,n6,hq,pr,gl,rw',fun cq xs cs H4 hcq pc ok cl _ D4 b4=>?_⟩
    have L4:=L3.but D4 b4
    have k4:=yX L3.D b4
    have hq:=k4.lst hq
    have p1:=jT k4 p1
    have p2:=j6 k4 p2
    clear pr k4 L3 D4 b4
    dsimp only [aU,List.set]
    have xl:=Paired.length pc
    refine bU (fun σ' H'=>∃ m:Nat,σ'=[some (.ref sa),some (.ref p),some (.int (0+(i:Int))),some (.int rs.length),some (.ref q),some (.ref cq),some (.int m),u7,u8,u9,u10,u11,u12,u13,u14]/\m≤99999/\KL Tt Tm p dc H'/\Kq H4 H') ?nx1 fun N hN=>?st1
    case st1=>
     refine ⟨_,rfl,(by show 5≤sizeLine;decide),fun l hl=>⟨p,dc,l,_,rfl,L4.D.new hl,aQ.of aj,by simp,by simp,fun x H5 hx D5 b5=>?_⟩⟩
     have hx:∃ m:Nat,x=.int m/\m≤99999:=by
      simp only [List.mem_cons,List.not_mem_nil,or_false] at hx
      rcases hx with rfl|rfl|rfl|rfl|rfl
      ·exact ⟨99999,rfl,by decide⟩
      ·exact ⟨0,rfl,by decide⟩
      ·exact ⟨5,rfl,by decide⟩
      ·exact ⟨20,rfl,by decide⟩
      ·exact ⟨100,rfl,by decide⟩
     obtain ⟨m,rfl,hm⟩:=hx
     have s5:=ao.new (o:=.lst [.int 99999,.int 0,.int 5,.int 20,.int 100]) hl
     exact hN _ _ ⟨m,rfl,hm,(L4.same s5).but D5 b5,(d_ s5).trans (yX (L4.D.new hl) b5)⟩
    rintro σ' H5 ⟨m,rfl,hm,L5,k5⟩
    have hq:=k5.lst hq
    have hcq:=k5.lst hcq
    have p1:=jT k5 p1
    have p2:=j6 k5 p2
    have pc:=du (fun _ _ ⟨q',e,z⟩=>(⟨q',e,k5.tk _ _ z⟩:gK H5 _ _)) pc
    clear k5 L4
    refine ⟨_,rfl,cq,xs,rfl,.inl (aQ.of hcq),fun hd hhd=>?_⟩
    have s6:=ao.new (o:=.lst xs) hhd
    have hd6:upd H5 hd (.lst xs) hd=some (.lst xs):=aj
    generalize upd H5 hd (.lst xs)=H6 at s6 hd6 ⊢
    have hq:=s6 _ _ hq
    have hcq:=s6 _ _ hcq
    have p1:=jT (d_ s6) p1
    have p2:=j6 (d_ s6) p2
    have pc:=gq s6 pc
    have L6:=L5.same s6
    clear s6 L5 hhd
    dsimp only [aU,List.set]
    have R:=uB (K:=K) (aQ.of hq) p1 p2 (by omega) rw'
    have okt:∀ e∈cs.map fD,fY rs.length e:=fun e he=>by
     obtain ⟨c,hc,rfl⟩:=List.mem_map.mp he
     exact uV (by omega) (ok c hc)
    refine bU (fun σ' H'=>∃ t:Addr,σ'=[some (.ref sa),some (.ref p),some (.int (0+(i:Int))),some (.int rs.length),some (.ref q),some (.ref cq),some (.int m),some (.ref hd),some (.ref t),u9,u10,u11,u12,u13,u14]/\KL Tt Tm p dc H'/\Kq H6 H'/\
     ((∃ h la l vs ps,Bf.j9 (gG (cs.map fD) rs.length m) h/\H' t=some (.tup [.str "order",.ref la,.ref l])/\H' la=some (.lst (xQ rs.length h))/\ps.Perm (dF rs rs.length)/\ps.Pairwise (fun a b=>eN (bB (rowOf rs.length h) a)<eN (bB (rowOf rs.length h) b))/\H' l=some (.lst vs)/\Paired (uM H') vs ps)∨
      (∃ a zs es,H' t=some (.tup [.str "ring",.ref a])/\H' a=some (.lst zs)/\Paired (bD H') zs es/\Bf.pU es/\(∀ e∈es,e∈gG (cs.map fD) rs.length m)/\es.length≤rs.length+1))) ?nx2 fun N hN=>?st2
    case st2=>
     have od:Ed K Tm [.ref q,.ref hd,.int m] H6 (fun v H'=>N [some (.ref sa),some (.ref p),some (.int (0+(i:Int))),some (.int rs.length),some (.ref q),some (.ref cq),some (.int m),some (.ref hd),some v,u9,u10,u11,u12,u13,u14] H') E0:=by
      refine ⟨q,hd,m,ys,xs,rs,cs,rfl,R,n1,aQ.of hd6,pc,ok,by omega,by omega,by omega,L6.tm,fun h t la l vs ps H' Lh ht hla pp so hl pv kx tm=>?_,fun t a zs es H' ht ha pt rg hin el _ s7=>?_⟩
      ·have kx:z_ Tm H6 H':=kx
       exact hN _ _ ⟨t,rfl,⟨kx.dr L6.D,kx.tab ntm L6.tb,tm⟩,fun b u e nt _=>kx b u e (.inl nt),.inl ⟨h,la,l,vs,ps,Lh,ht,hla,pp,so,hl,pv⟩⟩
      ·exact hN _ _ ⟨t,rfl,L6.same s7,d_ s7,.inr ⟨a,zs,es,ht,ha,pt,rg,hin,el⟩⟩
     refine aH.op (aH.var rfl) aH.con (bQ.ne rfl) _ ⟨_,rfl,h_ (fun z=>?_) (fun z=>?_)⟩
     ·refine ⟨_,rfl,_,rfl,_,rfl,?_⟩
      dsimp only [jO,nZ]
      exact od
     ·obtain rfl:m=99999:=by
       simp at z
       omega
      exact ⟨_,rfl,_,rfl,od⟩
    rintro σ' H7 ⟨t,rfl,L7,k7,told⟩
    have hq:=k7.lst hq
    have hcq:=k7.lst hcq
    have hd7:=k7.lst hd6
    have p1:=jT k7 p1
    have p2:=j6 k7 p2
    have pc:=du (fun _ _ ⟨q',e,z⟩=>(⟨q',e,k7.tk _ _ z⟩:gK H7 _ _)) pc
    clear k7 L6 hd6 R
    have cdp:=oR cs
    refine bU (fun σ' H'=>σ'=[some (.ref sa),some (.ref p),some (.int (0+(i:Int))),some (.int rs.length),some (.ref q),some (.ref cq),some (.int m),some (.ref hd),some (.ref t),u9,u10,u11,u12,u13,u14]/\H7=H') ?nx3 fun N hN=>?st3
    case st3=>
     have rp:∃ ds,Rep K H7 (.ref t) (.tuple ds):=by
      rcases told with ⟨h,la,l,vs,ps,Lh,ht,hla,pp,so,hl,pv⟩|⟨a,zs,es,ht,ha,pt,rg,hin,el⟩
      ·obtain ⟨ds,r1,_⟩:=lH (K:=K) (fun x hx=>pA p2 x (pp.mem_iff.mp hx)) pv pv
       have er:(rowOf rs.length h).map V.int=xQ rs.length h:=by unfold rowOf xQ;rw [List.map_map];rfl
       rw [← er] at hla
       exact ⟨_,.tup (cA.of ht) (.cons (.str _) (.cons (.lst (aQ.of hla) (jj _)) (.cons (.lst (aQ.of hl) r1) .nil)))⟩
      ·exact ⟨_,.tup (cA.of ht) (.cons (.str _) (.cons (.lst (aQ.of ha) (jr pt)) .nil))⟩
     obtain ⟨ds,rp⟩:=rp
     refine ⟨_,rfl,.ref t,"tuple",_,true,rfl,rp,rfl,_,rfl,eG rfl ?_⟩
     refine ⟨_,rfl,_,rfl,_,_,.lst (aQ.of hd7) (lM pc),.lst (aQ.of hcq) (lM pc),by omega,_,rfl,eG (by rw [cdp.2];rfl) (hN _ _ ⟨rfl,rfl⟩)⟩
    rintro σ' H7' ⟨rfl,rfl⟩
    clear cdp hd7
    refine ⟨_,rfl,cq,xs,cs,rfl,aQ.of hcq,pc,by omega,fun tq ts H8 htq pt _ s8=>?_⟩
    have hq:=s8 _ _ hq
    have hcq:=s8 _ _ hcq
    have p1:=jT (d_ s8) p1
    have p2:=j6 (d_ s8) p2
    have pc:=gq s8 pc
    have L8:=L7.same s8
    dsimp only [aU,List.set]
    have tl:=Paired.length pt
    rw [List.length_map] at tl
    rcases told with ⟨h,la,l,vs,ps,Lh,ht,hla,pp,so,hl,pv⟩|⟨a,zs,es,ht,ha,pz,rg,hin,el⟩
    ·have er:(rowOf rs.length h).map V.int=xQ rs.length h:=by unfold rowOf xQ;rw [List.map_map];rfl
     rw [← er] at hla
     have ht:=s8 _ _ ht
     have hla:=s8 _ _ hla
     have hl:=s8 _ _ hl
     have pv:=d9 (ao.tk s8) pv
     clear s8 L7
     have rl8:(rowOf rs.length h).length=rs.length:=by unfold rowOf;simp
     have i0:∀ {O:St} {H:Hp},H t=some (.tup [.str "order",.ref la,.ref l])->bQ (fj K) (.ref t) (.int 0) H (.str "order"):=fun z=>bQ.ixT (cA.of z) (aL (j:=0) rfl)
     refine aH.op (aH.op (aH.var rfl) aH.con (bQ.ixT (cA.of ht) (aL (j:=0) rfl))) aH.con (bQ.eq rfl) _ ⟨_,rfl,eG (by rw [decide_eq_false_iff_not];intro z;exact absurd (V.str.inj z) (by decide)) ?_⟩
     have mt:=(vI okt Lh).2
     refine bU (fun σ' H'=>σ'=[some (.ref sa),some (.ref p),some (.int (0+(i:Int))),some (.int rs.length),some (.ref q),some (.ref cq),some (.int m),some (.ref hd),some (.ref t),some (.ref tq),u10,u11,u12,u13,u14]/\ao H8 H') ?nxa fun N hN=>?sta
     case sta=>
      refine aH.op (aH.op (aH.var rfl) aH.con (bQ.ixT (cA.of ht) (aL (j:=0) rfl))) aH.con (bQ.ne rfl) _ ⟨_,rfl,eG (by simp) ?_⟩
      refine ⟨_,rfl,t,_,rfl,.inr (cA.of ht),rfl,_,rfl,eG (by simp) ?_⟩
      refine ⟨_,rfl,?_⟩
      refine aH.op (aH.var rfl) aH.con (bQ.ixT (cA.of ht) (aL (j:=1) rfl)) _ ?_
      refine ⟨_,rfl,tq,la,ts,cs.map fD,rowOf rs.length h,m,rfl,aQ.of htq,pt,by rw [rl8];exact okt,aQ.of hla,by omega,by omega,fun H9 s9=>?_⟩
      rw [mt]
      exact ⟨_,rfl,eG rfl (hN _ _ ⟨rfl,s9⟩)⟩
     rintro σ' H9 ⟨rfl,s9⟩
     have hq:=s9 _ _ hq
     have hcq:=s9 _ _ hcq
     have htq:=s9 _ _ htq
     have p1:=jT (d_ s9) p1
     have p2:=j6 (d_ s9) p2
     have pc:=gq s9 pc
     have pt:=a_ (ao.tk s9) pt
     have ht:=s9 _ _ ht
     have hla:=s9 _ _ hla
     have hl:=s9 _ _ hl
     have pv:=d9 (ao.tk s9) pv
     have L9:=L8.same s9
     clear s9 L8
     refine bU (fun σ' H'=>σ'=[some (.ref sa),some (.ref p),some (.int (0+(i:Int))),some (.int rs.length),some (.ref q),some (.ref cq),some (.int m),some (.ref hd),some (.ref t),some (.ref tq),u10,u11,u12,u13,u14]/\ao H9 H') ?nxb fun N hN=>?stb
     case stb=>
      refine aH.op (aH.var rfl) aH.con (bQ.ixT (cA.of ht) (aL (j:=1) rfl)) _ ?_
      refine ⟨_,rfl,la,tq,rs.length,m,ts,cs.map fD,h,rfl,aQ.of hla,aQ.of htq,pt,okt,Lh,n6,by rw [List.length_map];omega,fun H10 s10=>⟨_,rfl,eG rfl ?_⟩⟩
      have ht:=s10 _ _ ht
      have hla:=s10 _ _ hla
      have hl:=s10 _ _ hl
      have hq:=s10 _ _ hq
      have p1:=jT (d_ s10) p1
      have p2:=j6 (d_ s10) p2
      have pv:=d9 (ao.tk s10) pv
      have RA2:=uB (K:=K) (aQ.of hq) p1 p2 (by omega) rw'
      refine aH.op (aH.var rfl) aH.con (bQ.ixT (cA.of ht) (aL (j:=2) rfl)) _ ?_
      refine ⟨_,rfl,?_⟩
      refine aH.op (aH.var rfl) aH.con (bQ.ixT (cA.of ht) (aL (j:=1) rfl)) _ ?_
      refine ⟨q,la,ys,rs,rowOf rs.length h,rfl,RA2,aQ.of hla,rl8,fun l2 vs2 ps2 H11 pp2 so2 hl2 pv2 nl2 s11=>?_⟩
      have eo:=vQ pp pp2 so so2
      subst eo
      have p2':=j6 (d_ s11) p2
      obtain ⟨ds,r1,r2,d1,d2,d3⟩:=lH (K:=K) (fun x hx=>pA p2' x (pp.mem_iff.mp hx)) (d9 (ao.tk s11) pv) pv2
      have l64:=RA2.all
      have pl1:=pp.length_eq
      exact ⟨_,_,.list ds,rfl,.lst (aQ.of (s11 _ _ hl)) r1,.lst (aQ.of hl2) r2,by simp only [dm];omega,by simp only [jE];omega,fun H12 s12=>⟨_,rfl,eG rfl (hN _ _ ⟨rfl,(s10.trans s11).trans s12⟩)⟩⟩
     rintro σ' H10 ⟨rfl,s10⟩
     have hcq:=s10 _ _ hcq
     have pc:=gq s10 pc
     have ht:=s10 _ _ ht
     have hla:=s10 _ _ hla
     have L10:=L9.same s10
     clear s10 L9
     refine ⟨_,rfl,cq,rfl,⟨_,aQ.of hcq⟩,e_ (K:=K) (a:=cq) (xs:=xs) (fun j σ' H'=>(∃ u10 u11 u12 u13:Option V,σ'=[some (.ref sa),some (.ref p),some (.int (0+(i:Int))),some (.int rs.length),some (.ref q),some (.ref cq),some (.int m),some (.ref hd),some (.ref t),some (.ref tq),u10,u11,u12,u13,u14])/\H10=H') ⟨⟨_,_,_,_,rfl⟩,rfl⟩ (fun j O H' _ e=>by rw [← e.2];exact aQ.of hcq) ?_ ?_⟩
     ·rintro j x σ' H' hj ⟨⟨v1,v2,v3,v4,rfl⟩,rfl⟩
      obtain ⟨c1,hc1,b',rfl,hb⟩:=cO pc hj
      have mc:=List.mem_of_getElem? hc1
      have o:=ok c1 mc
      have sat:h c1.a+(c1.t-c1.u+1)≤h c1.b:=Lh.sat (fD c1) (List.mem_append.mpr (.inl (List.mem_map.mpr ⟨c1,mc,rfl⟩)))
      refine ⟨b',_,rfl,cA.of hb,rfl,_,_,rfl,_,_,rfl,_,_,rfl,_,_,rfl,rfl,?_⟩
      have oa:=o.a
      have ob:=o.b
      have ea:(rowOf rs.length h).getD c1.a.toNat 0=h c1.a:=by rw [iH (by omega),Int.toNat_of_nonneg oa.1]
      have eb:(rowOf rs.length h).getD c1.b.toNat 0=h c1.b:=by rw [iH (by omega),Int.toNat_of_nonneg ob.1]
      refine ie.iff (ie.not (ie.test (aH.op (aH.op (aH.var rfl) (aH.op (aH.op (aH.var rfl) aH.con (bQ.ixT (cA.of ht) (aL (j:=1) rfl))) (aH.var rfl) (bQ.ixL (aQ.of hla) (iQ oa.1 (by rw [rl8];exact oa.2)))) bQ.i0) (aH.op (aH.var rfl) (aH.op (aH.op (aH.var rfl) aH.con (bQ.ixT (cA.of ht) (aL (j:=1) rfl))) (aH.var rfl) (bQ.ixL (aQ.of hla) (iQ ob.1 (by rw [rl8];exact ob.2)))) bQ.i0) bQ.i0))) ?_
      rw [ea,eb]
      exact eG (by simp;omega) ⟨⟨_,_,_,_,rfl⟩,rfl⟩
     ·rintro σ' H' ⟨⟨v1,v2,v3,v4,rfl⟩,rfl⟩
      exact ⟨⟨_,_,_,_,_,_,_,_,_,_,_,_,_,rfl⟩,L10⟩
    ·have ht:=s8 _ _ ht
     have ha:=s8 _ _ ha
     have pz:=a_ (ao.tk s8) pz
     refine aH.op (aH.op (aH.var rfl) aH.con (bQ.ixT (cA.of ht) (aL (j:=0) rfl))) aH.con (bQ.eq rfl) _ ⟨_,rfl,jt (by simp) ?_⟩
     refine ⟨_,rfl,t,_,rfl,.inr (cA.of ht),rfl,_,rfl,eG (by simp) ?_⟩
     refine aH.op (aH.var rfl) aH.con (bQ.ixT (cA.of ht) (aL (j:=1) rfl)) _ ?_
     refine ⟨_,rfl,_,rfl,_,rfl,a,tq,rs.length,m,zs,ts,es,cs.map fD,rfl,ha,pz,rg,hin,aQ.of htq,pt,by omega,fun e he=>BR (by omega) (by omega) okt e (hin e he),n6,fun H9 s9=>⟨_,rfl,eG rfl ?_⟩⟩
     exact ⟨⟨_,_,_,_,_,_,_,_,_,_,_,_,_,rfl⟩,L8.same s9⟩
   ·rintro σ' H1 ⟨⟨u2,u3,u4,u5,u6,u7,u8,u9,u10,u11,u12,u13,u14,rfl⟩,L1⟩
    exact hN0 _ _ ⟨⟨_,_,_,_,_,_,_,_,_,_,_,_,_,rfl⟩,L1⟩
  rintro σ' H1 ⟨⟨u2,u3,u4,u5,u6,u7,u8,u9,u10,u11,u12,u13,u14,rfl⟩,L1⟩
  refine ⟨L1.tb.tab q1m,fun c1 H2 lm1 f1 ct1 hf1=>?_⟩
  dsimp only [jO]
  refine pO (L:=qW) ntm L1 lm1 hf1 fun l1 H3 L3 k3 hl1 _=>?_
  refine ⟨l1,_,0,_,rfl,rfl,aQ.of hl1,rfl,(by show 1≤sizeLine;decide),fun w hw=>?_⟩
  have L4:=L3.same (ao.new (o:=.lst [.str "badtie"]) hw)
  have hw4:upd H3 w (.lst [.str "badtie"]) w=some (.lst [.str "badtie"]):=aj
  have wd:w≠dc:=by
   obtain ⟨cx,hcx⟩:=L3.D.cell
   exact Ne.symm (aC hcx hw)
  generalize upd H3 w (.lst [.str "badtie"])=H4 at L4 hw4 ⊢
  dsimp only [aU,List.set]
  refine ⟨_,rfl,.inl ⟨rfl,_,aQ.of hw4⟩,L4.tb.tab q2m,fun c2 H5 lm2 f2 ct2 hf2=>?_⟩
  dsimp only [jO]
  refine pO (L:=wG) ntm L4 lm2 hf2 fun l2 H6 L6 k6 hl2 _=>?_
  have hw6:=k6.lst hw4
  refine ⟨l2,_,0,_,rfl,rfl,aQ.of hl2,rfl,w,_,_,rfl,rfl,hw6,(by show 1<sizeLine;decide),?_⟩
  have L7:=L6.put (zs:=[.str "badtie"]++[.str "badcause"]) hw6 wd
  have hw7:upd H6 w (.lst ([.str "badtie"]++[.str "badcause"])) w=some (.lst [.str "badtie",.str "badcause"]):=aj
  generalize upd H6 w (.lst ([V.str "badtie"]++[V.str "badcause"]))=H7 at L7 hw7 ⊢
  refine ⟨_,rfl,.inl ⟨rfl,_,aQ.of hw7⟩,L7.tb.tab q3m,fun c3 H8 lm3 f3 ct3 hf3=>?_⟩
  dsimp only [jO]
  refine pO (L:=wR) ntm L7 lm3 hf3 fun l3 H9 L9 k9 hl3 _=>?_
  have hw9:=k9.lst hw7
  refine ⟨l3,_,0,_,rfl,rfl,aQ.of hl3,rfl,w,_,_,rfl,rfl,hw9,(by show 2<sizeLine;decide),?_⟩
  have L10:=L9.put (zs:=[.str "badtie",.str "badcause"]++[.str "badtie"]) hw9 wd
  have hw10:upd H9 w (.lst ([.str "badtie",.str "badcause"]++[.str "badtie"])) w=some (.lst [.str "badtie",.str "badcause",.str "badtie"]):=aj
  generalize upd H9 w (.lst ([V.str "badtie",V.str "badcause"]++[V.str "badtie"]))=H10 at L10 hw10 ⊢
  refine ⟨_,rfl,L10.tb.tab q4m,fun c4 H11 lm4 f4 ct4 hf4=>?_⟩
  dsimp only [jO]
  refine pO (L:=wJ) ntm L10 lm4 hf4 fun l4 H12 L12 k12 hl4 _=>?_
  have hw12:=k12.lst hw10
  refine ⟨l4,_,0,_,rfl,rfl,aQ.of hl4,rfl,(by show 1≤sizeLine;decide),fun x hx=>⟨w,x,_,_,rfl,rfl,ao.new hx _ _ hw12,aj,(by show 4≤sizeLine;decide),fun y hy=>⟨(by show 4≤sizeLine;decide),fun z hz=>?_⟩⟩⟩
  exact ⟨_,_,.lst (aQ.of (ao.new hz _ _ aj)) (.cons (.str _) (.cons (.str _) (.cons (.str _) (.cons (.str _) .nil)))),.lst (aQ.of aj) (.cons (.str _) (.cons (.str _) (.cons (.str _) (.cons (.str _) .nil)))),by decide,k _⟩
end
def cH (K:Frag) (n:Str) (i:Nat) (f:Addr):Prop:=nsIn K mainGlobals n=some (some (.ref f))/\∃ fd,gA K n n (top i) f fd
theorem cH.d1 {K:Frag} {h:Heap} {mg:Str->Option Value} {n:Str} {i:Nat} {f:Addr} (H:cH K n i f) (X:K.In h) (G:h.Ns mainGlobals mg) (x0:Str) (b:∀ (kV doc pm:Value) (an:Option Addr) (cdv ct u0:Value),bindArgs (fnOf n n (bx (top i)) (bu (top i)) (au (top i)) .none kV doc pm an cdv ct) ⟨[u0],[]⟩=pure ([x0].zip [u0])):∃ fd,dZ K mg n (top i) [x0] f fd:=by
 obtain ⟨a,fd,F⟩:=H
 exact ⟨fd,F,mg_of X G a,F.binds fun _ _ _ _ _ _ us hl=>by obtain ⟨_,rfl⟩:=Gy hl;exact b _ _ _ _ _ _ _⟩
theorem cH.d2 {K:Frag} {h:Heap} {mg:Str->Option Value} {n:Str} {i:Nat} {f:Addr} (H:cH K n i f) (X:K.In h) (G:h.Ns mainGlobals mg) (x0 x1:Str) (b:∀ (kV doc pm:Value) (an:Option Addr) (cdv ct u0 u1:Value),bindArgs (fnOf n n (bx (top i)) (bu (top i)) (au (top i)) .none kV doc pm an cdv ct) ⟨[u0,u1],[]⟩=pure ([x0,x1].zip [u0,u1])):∃ fd,dZ K mg n (top i) [x0,x1] f fd:=by
 obtain ⟨a,fd,F⟩:=H
 exact ⟨fd,F,mg_of X G a,F.binds fun _ _ _ _ _ _ us hl=>by obtain ⟨_,_,rfl⟩:=xG hl;exact b _ _ _ _ _ _ _ _⟩
theorem cH.d3 {K:Frag} {h:Heap} {mg:Str->Option Value} {n:Str} {i:Nat} {f:Addr} (H:cH K n i f) (X:K.In h) (G:h.Ns mainGlobals mg) (x0 x1 x2:Str) (b:∀ (kV doc pm:Value) (an:Option Addr) (cdv ct u0 u1 u2:Value),bindArgs (fnOf n n (bx (top i)) (bu (top i)) (au (top i)) .none kV doc pm an cdv ct) ⟨[u0,u1,u2],[]⟩=pure ([x0,x1,x2].zip [u0,u1,u2])):∃ fd,dZ K mg n (top i) [x0,x1,x2] f fd:=by
 obtain ⟨a,fd,F⟩:=H
 exact ⟨fd,F,mg_of X G a,F.binds fun _ _ _ _ _ _ us hl=>by obtain ⟨_,_,_,rfl⟩:=Ei hl;exact b _ _ _ _ _ _ _ _ _⟩
theorem cH.d4 {K:Frag} {h:Heap} {mg:Str->Option Value} {n:Str} {i:Nat} {f:Addr} (H:cH K n i f) (X:K.In h) (G:h.Ns mainGlobals mg) (x0 x1 x2 x3:Str) (b:∀ (kV doc pm:Value) (an:Option Addr) (cdv ct u0 u1 u2 u3:Value),bindArgs (fnOf n n (bx (top i)) (bu (top i)) (au (top i)) .none kV doc pm an cdv ct) ⟨[u0,u1,u2,u3],[]⟩=pure ([x0,x1,x2,x3].zip [u0,u1,u2,u3])):∃ fd,dZ K mg n (top i) [x0,x1,x2,x3] f fd:=by
 obtain ⟨a,fd,F⟩:=H
 exact ⟨fd,F,mg_of X G a,F.binds fun _ _ _ _ _ _ us hl=>by obtain ⟨_,_,_,_,rfl⟩:=Lg hl;exact b _ _ _ _ _ _ _ _ _ _⟩
def vW (B:String):List Value:=[.type B,.type "Exception",.type "BaseException",.type "object"]
theorem rM (self:Value):refuseLoop self "__setattr__" (vW "ValueError")=pure ():=by kernel_rfl
theorem Ht (self:Value):refuseLoop self "__setattr__" (vW "LookupError")=pure ():=by kernel_rfl
def Cz (K:Frag) (C:Addr) (rs:List Addr) (bm:List Value):Bool:=match clsIn K C with
 |some cd=>cd.hasDict && (cd.mro == rs.map Value.ref++bm)
 |none=>false
theorem ju {K:Frag} {C:Addr} {B n:String} {rs:List Addr} (h1:ik K C B n=true) (h2:findIn K (.ref C) "__setattr__" = some (some (.builtin "object.__setattr__"))) (h3:Cz K C rs (vW B)=true) (h4:keepIn K (.ref C)=true) (h5:typeIn K (.ref C)=some (.type "type"))
 (hr:∀ self,refuseLoop self "__setattr__" (vW B)=pure ()):jz K C B n:=by
 refine ⟨h1,h2,?_,h4,h5⟩
 unfold Cz at h3
 split at h3
 ·rename_i cd hc
  rw [Bool.and_eq_true,beq_iff_eq] at h3
  refine ⟨cd,rs,vW B,hc,h3.1,h3.2,by simp [vW],hr,?_⟩
  unfold vW
  simp
 ·cases h3
theorem G5 {l:OpenLaw} {w:World} {K:Frag} {h:Heap} {mg:Str->Option Value} {fa fLa Tt cc fMg Tm ccm fB fP fO fS fA fTr fCa fTy fLd fMt fIr fBr fTo fC fN fBo fR fL fT fM fG fAm fRi fOd qS qV qM fSE TS qZ fiZ TdZ qC2 fiC2 TdC2 qT2 fiT2 TdT2:Addr} (X:K.In h) (G:h.Ns mainGlobals mg) (hfa:mg "law" = some (.ref fa))
 {odLa anLa odcc odMg anMg odccm odAm anAm odRi anRi odOd anOd odSE anSE odTS odiZ aniZ odTZ odiC2 aniC2 odTC2 odiT2 aniT2 odTT2:Option Addr} {slLa slcc slMg slccm slAm slRi slOd slSE slTS sliZ slTZ sliC2 slTC2 sliT2 slTT2:Array (Option Value)} {t_LIMIT t_MOST_LANES t_HIGHEST_MOST t_GROUND t_MOST_AMOUNT nTS nTZ nTC2 nTT2:Nat} {ocLa kVLa dcLa pmLa ctLa w0 w1 w2 w3 w4 w5 w6 w7 w8 w9 w10 w12 w13 w14 w15 w16 w17 w18 occ ocMg kVMg dcMg pmMg ctMg v0 v1 v2 v3 v4 v5 v6 v7 v8 v9 v10 v12 v13 v14 v15 v16 v17 v18 occm ocAm kVAm dcAm pmAm cdAm ctAm ocRi kVRi dcRi pmRi cdRi ctRi ocOd kVOd dcOd pmOd cdOd ctOd ocSE kVSE dcSE pmSE cdSE ctSE dS1 dS2 ocTS ociZ kViZ dciZ pmiZ cdiZ ctiZ diZ ocTZ ociC2 kViC2 dciC2 pmiC2 cdiC2 ctiC2 diC2 ocTC2 ociT2 kViT2 dciT2 pmiT2 cdiT2 ctiT2 diT2 ocTT2:Value}
 (aLa:nsIn K mainGlobals "law" = some (some (.ref fLa)))
 (lLa:K.lookup fLa=some ⟨ocLa,odLa,.func (fnOf "law" "law" (bx (top 40)) (bu (top 40)) (au (top 40)) .none kVLa dcLa pmLa anLa (.ref cc) ctLa),slLa⟩)
 (lcc:K.lookup cc=some ⟨occ,odcc,.fields #[w0,w1,w2,w3,w4,w5,w6,w7,w8,w9,w10,.ref Tt,w12,w13,w14,w15,w16,w17,w18],slcc⟩)
 (lTt:K.lookup Tt=none)
 (tb:L2.tabIn K cc=some Tt)
 (cLa:codeIn K (.ref cc) "law" = true)
 (aMg:nsIn K mainGlobals "merged" = some (some (.ref fMg)))
 (lMg:K.lookup fMg=some ⟨ocMg,odMg,.func (fnOf "merged" "merged" (bx (top 25)) (bu (top 25)) (au (top 25)) .none kVMg dcMg pmMg anMg (.ref ccm) ctMg),slMg⟩)
 (lccm:K.lookup ccm=some ⟨occm,odccm,.fields #[v0,v1,v2,v3,v4,v5,v6,v7,v8,v9,v10,.ref Tm,v12,v13,v14,v15,v16,v17,v18],slccm⟩)
 (lTm:K.lookup Tm=none)
 (tbm:L2.tabIn K ccm=some Tm)
 (cMg:codeIn K (.ref ccm) "merged" = true)
 (kMg:keepIn K (.ref fMg)=true)
 (ntm:Tt≠Tm)
 (hB:cH K "_law_begin" 28 fB)
 (hP:cH K "_law_pick" 29 fP)
 (hO:cH K "_law_of" 30 fO)
 (hS:cH K "_law_same" 31 fS)
 (hA:cH K "_law_ask" 32 fA)
 (hTr:cH K "_law_told_rows" 36 fTr)
 (hCa:cH K "_law_causes" 37 fCa)
 (hTy:cH K "_law_ties_by" 38 fTy)
 (hLd:cH K "_law_laid" 39 fLd)
 (hMt:cH K "_law_meets" 33 fMt)
 (hIr:cH K "_law_is_ring" 34 fIr)
 (hBr:cH K "_law_borne" 35 fBr)
 (hTo:cH K "ties_of" 24 fTo)
 (hC:cH K "need_cause" 23 fC)
 (hN:cH K "need_all" 16 fN)
 (hBo:cH K "bounds" 17 fBo)
 (hR:cH K "raised" 18 fR)
 (hL:cH K "need_lanes" 13 fL)
 (hT:cH K "need_ties" 14 fT)
 (hM:cH K "need_most" 15 fM)
 (hG:cH K "ring_behind" 21 fG)
 (aAm:nsIn K mainGlobals "amounts" = some (some (.ref fAm)))
 (lAm:K.lookup fAm=some ⟨ocAm,odAm,.func (fnOf "amounts" "amounts" (bx (top 19)) (bu (top 19)) (au (top 19)) .none kVAm dcAm pmAm anAm cdAm ctAm),slAm⟩)
 (cAm:codeIn K cdAm "amounts" = true)
 (kAm:keepIn K (.ref fAm)=true)
 (aRi:nsIn K mainGlobals "ring" = some (some (.ref fRi)))
 (lRi:K.lookup fRi=some ⟨ocRi,odRi,.func (fnOf "ring" "ring" (bx (top 20)) (bu (top 20)) (au (top 20)) .none kVRi dcRi pmRi anRi cdRi ctRi),slRi⟩)
 (cRi:codeIn K cdRi "ring" = true)
 (kRi:keepIn K (.ref fRi)=true)
 (aOd:nsIn K mainGlobals "ordered" = some (some (.ref fOd)))
 (lOd:K.lookup fOd=some ⟨ocOd,odOd,.func (fnOf "ordered" "ordered" (bx (top 26)) (bu (top 26)) (au (top 26)) .none kVOd dcOd pmOd anOd cdOd ctOd),slOd⟩)
 (cOd:codeIn K cdOd "ordered" = true)
 (kOd:keepIn K (.ref fOd)=true)
 (z_len:nsIn K mainGlobals "len" = some none)
 (z_range:nsIn K mainGlobals "range" = some none)
 (z_list:nsIn K mainGlobals "list" = some none)
 (z_tuple:nsIn K mainGlobals "tuple" = some none)
 (z_str:nsIn K mainGlobals "str" = some none)
 (z_bool:nsIn K mainGlobals "bool" = some none)
 (z_int:nsIn K mainGlobals "int" = some none)
 (z_min:nsIn K mainGlobals "min" = some none)
 (z_repr:nsIn K mainGlobals "repr" = some none)
 (z_all:nsIn K mainGlobals "all" = some none)
 (z_any:nsIn K mainGlobals "any" = some none)
 (z_isinstance:nsIn K mainGlobals "isinstance" = some none)
 (z_sorted:nsIn K mainGlobals "sorted" = some none)
 (z_enumerate:nsIn K mainGlobals "enumerate" = some none)
 (z_set:nsIn K mainGlobals "set" = some none)
 (z_sum:nsIn K mainGlobals "sum" = some none)
 (z_ValueError:nsIn K mainGlobals "ValueError" = some none)
 (i_LIMIT:nsIn K mainGlobals "LIMIT" = some (some (.int 999999 t_LIMIT)))
 (i_MOST_LANES:nsIn K mainGlobals "MOST_LANES" = some (some (.int 6 t_MOST_LANES)))
 (i_HIGHEST_MOST:nsIn K mainGlobals "HIGHEST_MOST" = some (some (.int 1000000000000 t_HIGHEST_MOST)))
 (i_GROUND:nsIn K mainGlobals "GROUND" = some (some (.int (-1) t_GROUND)))
 (i_MOST_AMOUNT:nsIn K mainGlobals "MOST_AMOUNT" = some (some (.int 99999 t_MOST_AMOUNT)))
 (hdOd:∀ (S:Setting) (a b:Value),peek K S (bindArgs (fnOf "ordered" "ordered" (bx (top 26)) (bu (top 26)) (au (top 26)) .none kVOd dcOd pmOd anOd cdOd ctOd) ⟨[a,b],[]⟩)=some ([("rows",a),("causes",b),("most",.int 99999 t_MOST_AMOUNT)]:List (Str×Value)))
 (a_qS:nsIn K mainGlobals "ScribeError" = some (some (.ref qS)))
 (a_qV:nsIn K mainGlobals "BadValue" = some (some (.ref qV)))
 (a_qM:nsIn K mainGlobals "Missing" = some (some (.ref qM)))
 (x1S:ik K qS "ValueError" "ValueError.__new__" = true)
 (x2S:findIn K (.ref qS) "__setattr__" = some (some (.builtin "object.__setattr__")))
 (x3S:Cz K qS [qS] (vW "ValueError")=true)
 (x4S:keepIn K (.ref qS)=true)
 (x5S:typeIn K (.ref qS)=some (.type "type"))
 (x1V:ik K qV "ValueError" "ValueError.__new__" = true)
 (x2V:findIn K (.ref qV) "__setattr__" = some (some (.builtin "object.__setattr__")))
 (x3V:Cz K qV [qV,qS] (vW "ValueError")=true)
 (x4V:keepIn K (.ref qV)=true)
 (x5V:typeIn K (.ref qV)=some (.type "type"))
 (x1M:ik K qM "LookupError" "LookupError.__new__" = true)
 (x2M:findIn K (.ref qM) "__setattr__" = some (some (.builtin "object.__setattr__")))
 (x3M:Cz K qM [qM] (vW "LookupError")=true)
 (x4M:keepIn K (.ref qM)=true)
 (x5M:typeIn K (.ref qM)=some (.type "type"))
 (aSE:findIn K (.ref qS) "__init__" = some (some (.ref fSE)))
 (lSE:K.lookup fSE=some ⟨ocSE,odSE,.func (fnOf "__init__" "ScribeError.__init__" (bx Ao) (bu Ao) (au Ao) (.ref TS) kVSE dcSE pmSE anSE cdSE ctSE),slSE⟩)
 (cSE:codeIn K cdSE "ScribeError.__init__" = true)
 (kSE:keepIn K (.ref fSE)=true)
 (lTS:K.lookup TS=some ⟨ocTS,odTS,.seq #[dS1,dS2] nTS,slTS⟩)
 (fc:findCls K (.type "ValueError") (.type "type") "__init__" = some (.val (.builtin "ValueError.__init__")))
 (sg:specialIn K (.ref qS) "__getattribute__" = some (some (.builtin "type.__getattribute__")))
 (rd1:readsIn K qS (.type "type")=true)
 (rd2:findCls K (.ref qS) (.type "type") "__init__" = some (.val (.ref fSE)))
 (a_qZ:nsIn K mainGlobals "BadSize" = some (some (.ref qZ)))
 (x1Z:ik K qZ "ValueError" "ValueError.__new__" = true)
 (x2Z:findIn K (.ref qZ) "__setattr__" = some (some (.builtin "object.__setattr__")))
 (x3Z:Cz K qZ [qZ,qS] (vW "ValueError")=true)
 (x4Z:keepIn K (.ref qZ)=true)
 (x5Z:typeIn K (.ref qZ)=some (.type "type"))
 (tkZ:takerIn K qZ "word" = some none)
 (aiZ:findIn K (.ref qZ) "__init__" = some (some (.ref fiZ)))
 (liZ:K.lookup fiZ=some ⟨ociZ,odiZ,.func (fnOf "__init__" "BadSize.__init__" (bx iy) (bu iy) (au iy) (.ref TdZ) kViZ dciZ pmiZ aniZ cdiZ ctiZ),sliZ⟩)
 (ciZ:codeIn K cdiZ "BadSize.__init__" = true)
 (kiZ:keepIn K (.ref fiZ)=true)
 (biZ:findIn K (.ref qZ) "__init__" = some (some (.ref fiZ)))
 (niZ:isFn K (.ref fiZ)=true)
 (lTZ:K.lookup TdZ=some ⟨ocTZ,odTZ,.seq #[diZ] nTZ,slTZ⟩)
 (mvZ:mroIn K qZ (.ref qV)=some false)
 (msZ:mroIn K qZ (.ref qS)=some true)
 (g1Z:findIn K (.ref qZ) "__getattribute__" = some (some (.builtin "BaseException.__getattribute__")))
 (g2Z:findIn K (.ref qZ) "__getattr__" = some none)
 (g3Z:hasDictIn K qZ=true)
 (g4Z:findIn K (.ref qZ) "word" = some none)
 (g5Z:mroIn K qZ (.type "BaseException")=some true)
 (a_qC2:nsIn K mainGlobals "BadCause" = some (some (.ref qC2)))
 (x1C2:ik K qC2 "ValueError" "ValueError.__new__" = true)
 (x2C2:findIn K (.ref qC2) "__setattr__" = some (some (.builtin "object.__setattr__")))
 (x3C2:Cz K qC2 [qC2,qS] (vW "ValueError")=true)
 (x4C2:keepIn K (.ref qC2)=true)
 (x5C2:typeIn K (.ref qC2)=some (.type "type"))
 (tkC2:takerIn K qC2 "word" = some none)
 (aiC2:findIn K (.ref qC2) "__init__" = some (some (.ref fiC2)))
 (liC2:K.lookup fiC2=some ⟨ociC2,odiC2,.func (fnOf "__init__" "BadCause.__init__" (bx gj) (bu gj) (au gj) (.ref TdC2) kViC2 dciC2 pmiC2 aniC2 cdiC2 ctiC2),sliC2⟩)
 (ciC2:codeIn K cdiC2 "BadCause.__init__" = true)
 (kiC2:keepIn K (.ref fiC2)=true)
 (biC2:findIn K (.ref qC2) "__init__" = some (some (.ref fiC2)))
 (niC2:isFn K (.ref fiC2)=true)
 (lTC2:K.lookup TdC2=some ⟨ocTC2,odTC2,.seq #[diC2] nTC2,slTC2⟩)
 (mvC2:mroIn K qC2 (.ref qV)=some false)
 (msC2:mroIn K qC2 (.ref qS)=some true)
 (g1C2:findIn K (.ref qC2) "__getattribute__" = some (some (.builtin "BaseException.__getattribute__")))
 (g2C2:findIn K (.ref qC2) "__getattr__" = some none)
 (g3C2:hasDictIn K qC2=true)
 (g4C2:findIn K (.ref qC2) "word" = some none)
 (g5C2:mroIn K qC2 (.type "BaseException")=some true)
 (a_qT2:nsIn K mainGlobals "BadTie" = some (some (.ref qT2)))
 (x1T2:ik K qT2 "ValueError" "ValueError.__new__" = true)
 (x2T2:findIn K (.ref qT2) "__setattr__" = some (some (.builtin "object.__setattr__")))
 (x3T2:Cz K qT2 [qT2,qS] (vW "ValueError")=true)
 (x4T2:keepIn K (.ref qT2)=true)
 (x5T2:typeIn K (.ref qT2)=some (.type "type"))
 (tkT2:takerIn K qT2 "word" = some none)
 (aiT2:findIn K (.ref qT2) "__init__" = some (some (.ref fiT2)))
 (liT2:K.lookup fiT2=some ⟨ociT2,odiT2,.func (fnOf "__init__" "BadTie.__init__" (bx jl) (bu jl) (au jl) (.ref TdT2) kViT2 dciT2 pmiT2 aniT2 cdiT2 ctiT2),sliT2⟩)
 (ciT2:codeIn K cdiT2 "BadTie.__init__" = true)
 (kiT2:keepIn K (.ref fiT2)=true)
 (biT2:findIn K (.ref qT2) "__init__" = some (some (.ref fiT2)))
 (niT2:isFn K (.ref fiT2)=true)
 (lTT2:K.lookup TdT2=some ⟨ocTT2,odTT2,.seq #[diT2] nTT2,slTT2⟩)
 (mvT2:mroIn K qT2 (.ref qV)=some false)
 (msT2:mroIn K qT2 (.ref qS)=some true)
 (g1T2:findIn K (.ref qT2) "__getattribute__" = some (some (.builtin "BaseException.__getattribute__")))
 (g2T2:findIn K (.ref qT2) "__getattr__" = some none)
 (g3T2:hasDictIn K qT2=true)
 (g4T2:findIn K (.ref qT2) "word" = some none)
 (g5T2:mroIn K qT2 (.type "BaseException")=some true) :
 ∃ (fd:FuncData) (sp:Sp),(∀ (s:Shared) (u:Value),BindsTo s fd ⟨[u],[]⟩ [("_law_script",u)])/\(∀ T∈[Tm,Tt],K.lookup T=none/\∃ c,L2.tabIn K c=some T)/\
  (∀ (H:Hp) (a:Addr) (ns:List Int),ns.length≤63->(∀ T∈[Tm,Tt],H T=some (.tbl #[]))->aQ K H a (ns.map V.int)->sp [.ref a] H (fun v _=>v=.bl true) fun _ _ _=>False)/\
  ∀ base:Heap,K.In base->base.Ns mainGlobals mg->(∀ T∈[Tm,Tt],base.BuiltinsAt mg T/\mainGlobals≠T)->aN l.prog w K mg base cJ 12 fa fd ["_law_script"] sp:=by
 have e:=hfa.symm.trans (mg_of X G aLa)
 cases e
 have T:Txt K mg:=⟨mg_none_of X G z_len,mg_none_of X G z_range,mg_none_of X G z_list,mg_none_of X G z_tuple,mg_none_of X G z_str,mg_none_of X G z_bool,mg_none_of X G z_int,mg_none_of X G z_min,mg_none_of X G z_repr,mg_none_of X G z_all,mg_none_of X G z_any,mg_none_of X G z_isinstance⟩
 have TE:yq K mg:=⟨mg_none_of X G z_ValueError,fc⟩
 obtain ⟨_,DB⟩:=hB.d1 (mg:=mg) X G "_law_script" fun _ _ _ _ _ _ _=>rfl
 obtain ⟨_,DP⟩:=hP.d2 (mg:=mg) X G "_law_d" "_law_many" fun _ _ _ _ _ _ _ _=>rfl
 obtain ⟨_,DO⟩:=hO.d2 (mg:=mg) X G "_law_d" "_law_things" fun _ _ _ _ _ _ _ _=>rfl
 obtain ⟨_,DS⟩:=hS.d2 (mg:=mg) X G "_law_found" "_law_due" fun _ _ _ _ _ _ _ _=>rfl
 obtain ⟨_,DA⟩:=hA.d1 (mg:=mg) X G "_law_ask_here" fun _ _ _ _ _ _ _=>rfl
 obtain ⟨_,DTr⟩:=hTr.d2 (mg:=mg) X G "_law_d" "_law_lanes" fun _ _ _ _ _ _ _ _=>rfl
 obtain ⟨_,DCa⟩:=hCa.d3 (mg:=mg) X G "_law_d" "_law_lanes" "_law_rows" fun _ _ _ _ _ _ _ _ _=>rfl
 obtain ⟨_,DTy⟩:=hTy.d1 (mg:=mg) X G "_law_causes_here" fun _ _ _ _ _ _ _=>rfl
 obtain ⟨_,DLd⟩:=hLd.d2 (mg:=mg) X G "_law_rows" "_law_row" fun _ _ _ _ _ _ _ _=>rfl
 obtain ⟨_,DMt⟩:=hMt.d3 (mg:=mg) X G "_law_ties" "_law_row" "_law_top" fun _ _ _ _ _ _ _ _ _=>rfl
 obtain ⟨_,DIr⟩:=hIr.d4 (mg:=mg) X G "_law_ring_told" "_law_lanes" "_law_ties" "_law_top" fun _ _ _ _ _ _ _ _ _ _=>rfl
 obtain ⟨_,DBr⟩:=hBr.d2 (mg:=mg) X G "_law_row" "_law_ties" fun _ _ _ _ _ _ _ _=>rfl
 obtain ⟨_,DTo⟩:=hTo.d1 (mg:=mg) X G "causes" fun _ _ _ _ _ _ _=>rfl
 obtain ⟨_,DC⟩:=hC.d4 (mg:=mg) X G "lane" "time" "other" "second" fun _ _ _ _ _ _ _ _ _ _=>rfl
 obtain ⟨_,DN⟩:=hN.d3 (mg:=mg) X G "lanes" "ties" "most" fun _ _ _ _ _ _ _ _ _=>rfl
 obtain ⟨_,DBo⟩:=hBo.d2 (mg:=mg) X G "lanes" "most" fun _ _ _ _ _ _ _ _=>rfl
 obtain ⟨_,DR⟩:=hR.d2 (mg:=mg) X G "lanes" "ties" fun _ _ _ _ _ _ _ _=>rfl
 obtain ⟨_,DL⟩:=hL.d1 (mg:=mg) X G "lanes" fun _ _ _ _ _ _ _=>rfl
 obtain ⟨_,DT⟩:=hT.d2 (mg:=mg) X G "lanes" "ties" fun _ _ _ _ _ _ _ _=>rfl
 obtain ⟨_,DM⟩:=hM.d1 (mg:=mg) X G "most" fun _ _ _ _ _ _ _=>rfl
 obtain ⟨_,DG⟩:=hG.d3 (mg:=mg) X G "at" "raised_by" "many" fun _ _ _ _ _ _ _ _ _=>rfl
 have FAm:=qz (st:=top 19) lAm cAm kAm
 have FRi:=qz (st:=top 20) lRi cRi kRi
 have FOd:=qz (st:=top 26) lOd cOd kOd
 have FSE:jP K "__init__" "ScribeError.__init__" Ao (.ref TS) fSE _:=⟨⟨_,_,_,_,_,_,_,_,_,rfl,lSE,cSE⟩,kSE⟩
 have bSE:=FSE.binds (ps:=["self","words","word"]) (ds:=[]) lTS rfl fun kV doc pm an cdv ct s us hT hl=>(by rw [List.append_nil] at hl ⊢;obtain ⟨_,_,_,rfl⟩:=Ei hl;exact BindsTo.of_defaults rfl hT rfl rfl rfl)
 have MS:Cd K mg "ScribeError" qS fSE:=⟨mg_of X G a_qS,sg,⟨_,rd1,rd2⟩,kSE⟩
 have FiZ:jP K "__init__" "BadSize.__init__" iy (.ref TdZ) fiZ _:=⟨⟨_,_,_,_,_,_,_,_,_,rfl,liZ,ciZ⟩,kiZ⟩
 have bbZ:=FiZ.binds (ps:=["self","words"]) (ds:=[]) lTZ rfl fun kV doc pm an cdv ct s us hT hl=>(by rw [List.append_nil] at hl ⊢;obtain ⟨_,_,rfl⟩:=xG hl;exact BindsTo.of_defaults rfl hT rfl rfl rfl)
 have ECZ:tU K qZ:=⟨ju x1Z x2Z x3Z x4Z x5Z rM,tkZ⟩
 have WCZ:nH K mg "BadSize" qZ fiZ _:=⟨bbZ,mg_of X G a_qZ,ECZ,biZ,niZ⟩
 have FiC2:jP K "__init__" "BadCause.__init__" gj (.ref TdC2) fiC2 _:=⟨⟨_,_,_,_,_,_,_,_,_,rfl,liC2,ciC2⟩,kiC2⟩
 have bbC2:=FiC2.binds (ps:=["self","words"]) (ds:=[]) lTC2 rfl fun kV doc pm an cdv ct s us hT hl=>(by rw [List.append_nil] at hl ⊢;obtain ⟨_,_,rfl⟩:=xG hl;exact BindsTo.of_defaults rfl hT rfl rfl rfl)
 have ECC2:tU K qC2:=⟨ju x1C2 x2C2 x3C2 x4C2 x5C2 rM,tkC2⟩
 have WCC2:nH K mg "BadCause" qC2 fiC2 _:=⟨bbC2,mg_of X G a_qC2,ECC2,biC2,niC2⟩
 have FiT2:jP K "__init__" "BadTie.__init__" jl (.ref TdT2) fiT2 _:=⟨⟨_,_,_,_,_,_,_,_,_,rfl,liT2,ciT2⟩,kiT2⟩
 have bbT2:=FiT2.binds (ps:=["self","words"]) (ds:=[]) lTT2 rfl fun kV doc pm an cdv ct s us hT hl=>(by rw [List.append_nil] at hl ⊢;obtain ⟨_,_,rfl⟩:=xG hl;exact BindsTo.of_defaults rfl hT rfl rfl rfl)
 have ECT2:tU K qT2:=⟨ju x1T2 x2T2 x3T2 x4T2 x5T2 rM,tkT2⟩
 have WCT2:nH K mg "BadTie" qT2 fiT2 _:=⟨bbT2,mg_of X G a_qT2,ECT2,biT2,niT2⟩
 have TA:JM K mg qV qS qM:=⟨mg_none_of X G z_str,mg_of X G a_qV,mg_of X G a_qS,mg_of X G a_qM,⟨_,_,ju x1V x2V x3V x4V x5V rM⟩,⟨_,_,ju x1S x2S x3S x4S x5S rM⟩,⟨_,_,ju x1M x2M x3M x4M x5M Ht⟩⟩
 refine ⟨fnOf "law" "law" (bx (top 40)) (bu (top 40)) (au (top 40)) .none kVLa dcLa pmLa anLa (.ref cc) ctLa,Dj K Tt Tm #[],fun s v=>.of_eq rfl,fun T m=>by (rcases List.mem_cons.mp m with e|m);exact e ▸ ⟨lTm,ccm,tbm⟩;exact (List.mem_singleton.mp m) ▸ ⟨lTt,cc,tb⟩,fun H a ns hl hT hS=>⟨a,ns,rfl,hS,hl,hT _ (List.mem_cons_of_mem _ (List.mem_singleton.mpr rfl)),hT _ (List.mem_cons_self ..),fun _=>rfl⟩,fun base kb0' nsb hbt=>?_⟩
 obtain ⟨hbb,hg⟩:=hbt Tt (List.mem_cons_of_mem _ (List.mem_singleton.mpr rfl))
 obtain ⟨hbbm,hgm⟩:=hbt Tm (List.mem_cons_self ..)
 have FMg:=qz (st:=top 25) lMg cMg kMg
 have bMg:=FMg.binds (ps:=["rows","row"]) fun _ _ _ _ _ _ us hl=>by obtain ⟨_,_,rfl⟩:=xG hl;rfl
 have TC:iT mg:=⟨⟨_,mg_of X G i_LIMIT⟩,⟨_,mg_of X G i_MOST_LANES⟩,⟨_,mg_of X G i_HIGHEST_MOST⟩,⟨_,mg_of X G i_GROUND⟩⟩
 have BZ:qX K qZ qV qS:=⟨mvZ,msZ,⟨g1Z,g2Z,g3Z,g4Z,g5Z⟩⟩
 have BC:qX K qC2 qV qS:=⟨mvC2,msC2,⟨g1C2,g2C2,g3C2,g4C2,g5C2⟩⟩
 have BT:qX K qT2 qV qS:=⟨mvT2,msT2,⟨g1T2,g2T2,g3T2,g4T2,g5T2⟩⟩
 have GBZ:=uy (P:=l.prog) (w:=w) (base:=base) (CX:=cJ) FiZ TE FSE bSE MS
 have GBC:=qU (P:=l.prog) (w:=w) (base:=base) (CX:=cJ) FiC2 TE FSE bSE MS
 have GBT:=xJ (P:=l.prog) (w:=w) (base:=base) (CX:=cJ) FiT2 TE FSE bSE MS
 have GX:=(DQ (P:=l.prog) (w:=w) (base:=base) FOd T TC DTo DC DN DBo DR DL DT DM FAm (mg_of X G aAm) WCC2 GBC WCT2 GBT WCZ GBZ).mono (show 7≤8 by decide)
 have GMg:=JN (P:=l.prog) (w:=w) (base:=base) lMg cMg (yr kb0' tbm) hbbm hgm T (mg_none_of X G z_sorted) (mg_none_of X G z_enumerate)
 have GOd:=Ij (P:=l.prog) (w:=w) (base:=base) FOd T TC DTo DC DN DBo DR DL DT DM DG FAm (mg_of X G aAm) FRi (mg_of X G aRi) GMg (mg_of X G aMg) kMg bMg
 have GA:=Et (P:=l.prog) (w:=w) (base:=base) (CX:=cJ) (k:=9) DA.F TA
 exact D_ lLa cLa (yr kb0' tb) hbb hg trivial (fun _=>rfl) ntm T (mg_none_of X G z_set) (mg_none_of X G z_sum) (mg_none_of X G z_sorted) BZ BC BT DB DP DO DS DTr DCa DTy DLd DMt DIr DBr FOd (mg_of X G aOd) hdOd GOd GX GA DA.mg DA.F.kp DA.b
end Cm
open PySem PySem.W PyProof.Rows
set_option maxRecDepth 100000 in
set_option maxHeartbeats 0 in
theorem PySem.Challenge.cw_lanescribe_k29_whole_one_order_or_a_ring_holds : PySem.Challenge.rw_lanescribe_k29_whole_one_order_or_a_ring.Holds := by
 w_on
 refine Kd.head ?hw (by rfl) (by rfl) (by rfl) ?hc
 (case hw=>w_witness2)
 k_fill
 refine L2.zc (l:=PySem.Challenge.rw_lanescribe_k29_whole_one_order_or_a_ring) (n:=63) (k:=12) (x:="_law_script") (CX:=fun _=>L2.cJ) rfl (by decide) rfl ⟨rfl,by decide,by decide,rfl⟩ (fun w h Y=>km_in_of Y) (fun w h Y=>km_tabs_of Y) ?F (fun _ _ _ _ _ z=>z)
 case F=>
  intro w mg fa h KX G hmg
  refine' Cm.G5 KX G hmg ?_ ?_ ?_ ?_ ?_ ?_ ?_ ?_ ?_ ?_ ?_ ?_ ?_ ?_ ?_ ?_ ?_ ?_ ?_ ?_ ?_ ?_ ?_ ?_ ?_ ?_ ?_ ?_ ?_ ?_ ?_ ?_ ?_ ?_ ?_ ?_ ?_ ?_ ?_ ?_ ?_ ?_ ?_ ?_ ?_ ?_ ?_ ?_ ?_ ?_ ?_ ?_ ?_ ?_ ?_ ?_ ?_ ?_ ?_ ?_ ?_ ?_ ?_ ?_ ?_ ?_ ?_ ?_ ?_ ?_ ?_ ?_ ?_ ?_ ?_ ?_ ?_ ?_ ?_ ?_ ?_ ?_ ?_ ?_ ?_ ?_ ?_ ?_ ?_ ?_ ?_ ?_ ?_ ?_ ?_ ?_ ?_ ?_ ?_ ?_ ?_ ?_ ?_ ?_ ?_ ?_ ?_ ?_ ?_ ?_ ?_ ?_ ?_ ?_ ?_ ?_ ?_ ?_ ?_ ?_ ?_ ?_ ?_ ?_ ?_ ?_ ?_ ?_ ?_ ?_ ?_ ?_ ?_ ?_ ?_ ?_ ?_ ?_ ?_ ?_ ?_ ?_ ?_ ?_ ?_ ?_ ?_ ?_ ?_ ?_ ?_ ?_ ?_ ?_ ?_ ?_ ?_ ?_ ?_ ?_
  any_goals first|k_is|exact ⟨by k_is,_,⟨_,_,_,_,_,_,_,_,_,rfl,by k_is,by k_is⟩,by k_is⟩|skip
  any_goals first|kernel_rfl|decide|(intros;kernel_rfl)|skip
