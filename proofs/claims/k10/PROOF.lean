import PyProof.Rows.All
import Wide.All
import OpenK.AllK
import Wide.FinOn
import KE.KNestM
import Lean
import PyProof.EqAt
import PyProof.EqKinds
import PyProof.TupleCall
import PyProof.StationsW
import PyProof.ExcBaseAll.ValueError
import PyProof.InstStoreFacts
import PyProof.RulesAs
import PyProof.RulesDel
import KE.KLam
import PyProof.ExcArgsOwn
import PyProof.AutoListH
import PyProof.StrWalks
import PyProof.StrBlockH
import PyProof.WalkInts
import PyProof.SeqI3
import PyProof.Rows.SetFrom
import PyProof.ZipIter
import KE.KTabLook
import PyProof.StrLaws
import KE.KIntText
import KE.KStrOpen
import PyProof.StrLawsTight
import PyProof.Rows.StrFit
import PyProof.Draws
import PyProof.EnumMake
import PyProof.StrCalls2
import PyProof.Rows.StrSplitJoin
import PyProof.CollectIter
import PyProof.StrBlock2
import PyProof.Rows.SortWalk
import PyProof.Rows.CallKwBuiltin
import KE.KMinBuiltin
import KE.KRevSl
import PyProof.DictItemsLoops
import PyProof.CollectWalk
import PyProof.ListRange
import KE.KSortAsk
import PyProof.SetRoads
import KE.KRevIter
import PyProof.FactsAll.range_2
import PyProof.IsRules
import PySem.Challenge.RW_lanescribe_k10_whole_ways_tell_what_test
set_option Elab.async false
set_option linter.all false
set_option maxRecDepth 1000000
set_option maxHeartbeats 0
namespace Kd
open PySem PySem.W
noncomputable section
theorem vA {p q:Program} {loose:List Str} {Xt:Shared->Bool} {α:Type} {Yf:Shared->α} {Ya:World->α} {N:Nat} (e:opening p=plainProg p.main.scope.names) (hN:Nat.ble 600 N=true) (f:∀ s,fenceModules? p s=some s)
 (h:∀ (w:World) (os:OsState),(topFrom treeTable p w N ⟨boot_heap w.params,Array.mk [],boot_drawn,boot_toks,os⟩).map (fun s=>(openSeen q loose (importedModules p.main.body) Xt true s,Yf s))=some (openGood q loose,Ya w)):LeftO p q loose Xt Yf Ya N:=fun w=>by
 obtain ⟨⟨h',gs,d,k,os⟩,e1,e2⟩:=Option.map_eq_some_iff.mp (boot_open e hN f w)
 obtain ⟨rfl,rfl,rfl,rfl⟩:h'=boot_heap w.params/\gs=Array.mk []/\d=boot_drawn/\k=boot_toks:=by simpa using e2
 unfold openEnds
 rw [e1]
 exact h w os
noncomputable abbrev u (x:String):Str:=Str.ofString x
noncomputable abbrev vs (x:String) (t:Nat):Value:=.str (Str.ofString x) t
noncomputable abbrev vi (x:Int) (t:Nat):Value:=.int x t
noncomputable abbrev vr (x:Nat):Value:=.ref x
noncomputable abbrev vt (x:String):Value:=.type x
noncomputable abbrev vn:Value:=.none
noncomputable abbrev vb:Value:=.bool true
noncomputable abbrev vf (t:Nat):Value:=.str (Str.ofString "/claim/cut.py") t
noncomputable abbrev ot (x:Array Value):Obj:={ cls:=.type "tuple",data:=Data.seq x }
noncomputable abbrev oc (x:Array Value):Obj:={ cls:=.type "code",data:=Data.fields x }
noncomputable abbrev of (n q:String) (a:Arguments) (b:List Stmt) (s:Scope) (d m c:Value):Obj:={ cls:=.type "function",data:=Data.func { name:=Str.ofString n,qualname:=Str.ofString q,params:=a,body:=FuncBody.stmts b,scope:=s,globals:=3,closure:=[],defaults:=d,kwdefaults:=.none,pyModule:=m,code:=c } }
noncomputable abbrev de (P:Params) (x:String) (t:Nat) (v:Value):DictEntry:={ hash:=PyData.keyHash P (Str.ofString x),key:=.str (Str.ofString x) t,val:=v }
noncomputable def tp (i:Nat):Stmt:=PySem.Challenge.pw_lanescribe_k10_whole_ways_tell_what_test.main.body.getD i (.Pass ⟨0,0,0,0⟩)
def meth (i j:Nat):Stmt:=match tp i with
 |.ClassDef _ _ _ body _ _ _ _ _ _ _=>body.getD j (.Pass ⟨0,0,0,0⟩)
 |_=>.Pass ⟨0,0,0,0⟩
def dA (s:Stmt):Arguments:=match s with
 |.FunctionDef _ a _ _ _ _ _ _ _ _=>a
 |_=>{ posonlyargs:=[],args:=[],vararg:=none,kwonlyargs:=[],kw_defaults:=[],kwarg:=none,defaults:=[] }
def dB (s:Stmt):List Stmt:=match s with
 |.FunctionDef _ _ b _ _ _ _ _ _ _=>b
 |_=>[]
def dS (s:Stmt):Scope:=match s with
 |.FunctionDef _ _ _ _ _ _ sc _ _ _=>sc
 |_=>{ kind:=.function,names:=[],isGenerator:=false,isCoroutine:=false }
abbrev TA (i:Nat):Arguments:=dA (tp i)
abbrev TB (i:Nat):List Stmt:=dB (tp i)
abbrev TS (i:Nat):Scope:=dS (tp i)
abbrev MA (i j:Nat):Arguments:=dA (meth i j)
abbrev MB (i j:Nat):List Stmt:=dB (meth i j)
abbrev MS (i j:Nat):Scope:=dS (meth i j)
noncomputable abbrev og (n q:String) (a:Arguments) (b:List Stmt) (s:Scope):Obj:={ cls:=.none,data:=Data.func { name:=Str.ofString n,qualname:=Str.ofString q,params:=a,body:=FuncBody.stmts b,scope:=s,globals:=0,closure:=[],defaults:=.none,kwdefaults:=.none } }
abbrev gt (n:String) (i:Nat):Obj:=og n n (TA i) (TB i) (TS i)
abbrev gm (n q:String) (i j:Nat):Obj:=og n q (MA i j) (MB i j) (MS i j)
abbrev ft (n:String) (i:Nat):Value->Value->Value->Obj:=of n n (TA i) (TB i) (TS i)
abbrev fm (n q:String) (i j:Nat):Value->Value->Value->Obj:=of n q (MA i j) (MB i j) (MS i j)
noncomputable abbrev oq (n:String) (a:Nat) (q:String) (b c:Nat) (l k:Int) (r s:Nat) (x y z:Value) (t:Int) (d:Nat):Obj:=oc #[vs n a,vs q b,vf c,vi l 0,vi k 0,vi 0 0,vi 0 0,vi 3 0,vr r,vb,vi 181 0,vr s,vn,x,y,z,vi t 0,vi l 0,vf d]
abbrev ok (n:String) (a b c:Nat) (l k:Int) (r s:Nat) (x y z:Value) (t:Int) (d:Nat):Obj:=oq n a n b c l k r s x y z t d
abbrev z1:Value:=vs "lanescribe.errors" 194
abbrev z2:Value:=vs "law_lanescribe_k10_whole_ways_tell_what_test" 757
abbrev z3:Value:=vs "lanescribe.kinds" 431
abbrev z4:Value:=vs "lanescribe.ways" 646
abbrev z5:Value:=vs "lanescribe.sieve" 570
abbrev z6:Value:=vs "ScribeError" 204
def o0:Obj:=ot #[]
def o1:Obj:={ cls:=vn,data:=Data.fields #[] }
def o2:Obj:=oc #[vs "<module>" 182,vs "<module>" 183,vf 184,vi 1 0,vi 0 0,vi 0 0,vi 0 0,vi 0 0,vr 11,Value.bool false,vi 181 0,vr 12,vn,vn,vn,vn,vi 185 0,vi 1 0,vf 186]
def o3:Obj:={ cls:=vt "frame",slots:=#[some (vr 13),some (vr 3),some (vr 3),none,some (vs "__main__" 164),none,some (vr 0)] }
def o4 (P:Params):Obj:={ cls:=vt "dict",data:=Data.dict #[de P "__name__" 165 z1,de P "__doc__" 166 (vn),de P "__package__" 167 (vn),de P "__loader__" 168 (Value.builtin "__main__.__loader__#opaque"),de P "__spec__" 169 (vn),de P "__annotations__" 170 (vr 6),de P "__builtins__" 171 (vr 4),de P "__file__" 173 (vf 172),de P "__cached__" 174 (vn),de P "_wall" 193 (vr 21),de P "ScribeError" 225 (vr 39),de P "BadName" 250 (vr 60),de P "BadBounds" 275 (vr 80),de P "BadTest" 300 (vr 100),de P "BadWay" 325 (vr 120)] 15 }
def o5:Obj:={ cls:=vn,data:=Data.fields #[vi 1 0,vi 0 0,vr 20,vi 5 0,vi 0 0,vr 27,vi 10 0,vi 0 0,vr 48,vi 14 0,vi 0 0,vr 68,vi 18 0,vi 0 0,vr 88,vi 22 0,vi 0 0,vr 108] }
def o6:Obj:=ot #[vs "k" 190]
def o7:Obj:=gt "_wall" 0
def o8:Obj:=ok "_wall" 187 188 189 1 1 15 16 (vr 17) (vr 18) (vr 19) 191 192
def o9:Obj:=ft "_wall" 0 vn (vs "__main__" 164) (vr 20)
def O2:Obj:=ot #[vt "ValueError"]
def jk:Obj:={ cls:=vt "builtin_function_or_method",data:=Data.fields #[Value.builtin "type.__prepare__",vt "type"] }
def R9 (P:Params):Obj:={ cls:=vt "dict",data:=Data.dict #[de P "__module__" 203 z1,de P "__qualname__" 205 z6,de P "__firstlineno__" 207 (vi 5 206),de P "__init__" 218 (vr 36),de P "__static_attributes__" 220 (vr 37)] 5 }
def Rg:Obj:={ cls:=vn,data:=Data.fields #[vi 7 0,vi 4 0,vr 35] }
def Rh:Obj:=oc #[vs "ScribeError" 198,vs "ScribeError" 199,vf 200,vi 5 0,vi 0 0,vi 0 0,vi 0 0,vi 0 0,vr 25,Value.bool false,vi 181 0,vr 26,vn,vn,vn,vn,vi 201 0,vi 5 0,vf 202]
def Rj:Obj:={ cls:=vt "frame",slots:=#[some (vr 27),some (vr 3),some (vr 24),none,some z1,none,some (vr 0)] }
def Qo:Obj:=ot #[vs "" 208,vs "scribeerror" 209]
def O6:Obj:=ot #[vs "self" 213,vs "words" 214,vs "word" 215]
def Rx:Obj:=gm "__init__" "ScribeError.__init__" 2 0
def Og:Obj:=oq "__init__" 210 "ScribeError.__init__" 211 212 7 3 30 31 (vr 32) (vr 33) (vr 34) 216 217
def Qe:Obj:=fm "__init__" "ScribeError.__init__" 2 0 (vr 29) z1 (vr 35)
def Q4:Obj:=ot #[vs "word" 219]
def Jt (P:Params):Obj:={ cls:=vt "dict",data:=Data.dict #[de P "__module__" 203 z1,de P "__firstlineno__" 207 (vi 5 206),de P "__init__" 218 (vr 36),de P "__static_attributes__" 220 (vr 37),de P "__weakref__" 222 (vr 40),de P "__doc__" 223 (vn)] 3 }
def Wc:Obj:={ cls:=vt "type",data:=Data.cls { name:=u "ScribeError",bases:=[vt "ValueError"],mro:=[vr 39,vt "ValueError",vt "Exception",vt "BaseException",vt "object"],ns:=38,qualname:=u "ScribeError",subclasses:=[vr 60,vr 80,vr 100,vr 120] },slots:=#[some (vr 22),none,some (vs "ScribeError" 196),some z6,some (Value.builtin "ValueError.__new__"),some (vb)] }
def Ol:Obj:={ cls:=vt "getset_descriptor",data:=Data.fields #[vs "__weakref__" 221,vr 39,Value.builtin "ExceptionGroup.__weakref__",vn] }
def Ra:Obj:={ cls:=vt "super",data:=Data.fields #[vr 39,vr 39,vr 39] }
def RN:Obj:={ cls:=vt "builtin_function_or_method",data:=Data.fields #[Value.builtin "object.__init_subclass__",vr 39] }
def jA:Obj:=ot #[vr 39]
def Rm (P:Params):Obj:={ cls:=vt "dict",data:=Data.dict #[de P "__module__" 233 z1,de P "__qualname__" 235 (vs "BadName" 234),de P "__firstlineno__" 237 (vi 10 236),de P "__init__" 246 (vr 57),de P "__static_attributes__" 247 (vr 58)] 5 }
def R6:Obj:={ cls:=vn,data:=Data.fields #[vi 12 0,vi 4 0,vr 56] }
def S6:Obj:=oc #[vs "BadName" 228,vs "BadName" 229,vf 230,vi 10 0,vi 0 0,vi 0 0,vi 0 0,vi 0 0,vr 46,Value.bool false,vi 181 0,vr 47,vn,vn,vn,vn,vi 231 0,vi 10 0,vf 232]
def Ry:Obj:={ cls:=vt "frame",slots:=#[some (vr 48),some (vr 3),some (vr 45),none,some z1,none,some (vr 0)] }
def K3:Obj:=ot #[vs "" 238]
def JB:Obj:=ot #[vs "self" 242,vs "words" 243]
def Rq:Obj:=gm "__init__" "BadName.__init__" 3 0
def Oi:Obj:=oq "__init__" 239 "BadName.__init__" 240 241 12 2 51 52 (vr 53) (vr 54) (vr 55) 244 245
def K9:Obj:=fm "__init__" "BadName.__init__" 3 0 (vr 50) z1 (vr 56)
def Mm (P:Params):Obj:={ cls:=vt "dict",data:=Data.dict #[de P "__module__" 233 z1,de P "__firstlineno__" 237 (vi 10 236),de P "__init__" 246 (vr 57),de P "__static_attributes__" 247 (vr 58),de P "__doc__" 248 (vn)] 2 }
def L_:Obj:={ cls:=vt "type",data:=Data.cls { name:=u "BadName",bases:=[vr 39],mro:=[vr 60,vr 39,vt "ValueError",vt "Exception",vt "BaseException",vt "object"],ns:=59,qualname:=u "BadName" },slots:=#[some (vr 43),none,some (vs "BadName" 226),some (vs "BadName" 234),some (Value.builtin "ValueError.__new__"),some (vb)] }
def Sd:Obj:={ cls:=vt "super",data:=Data.fields #[vr 60,vr 60,vr 60] }
def R3:Obj:={ cls:=vt "builtin_function_or_method",data:=Data.fields #[Value.builtin "object.__init_subclass__",vr 60] }
def RG (P:Params):Obj:={ cls:=vt "dict",data:=Data.dict #[de P "__module__" 258 z1,de P "__qualname__" 260 (vs "BadBounds" 259),de P "__firstlineno__" 262 (vi 14 261),de P "__init__" 271 (vr 77),de P "__static_attributes__" 272 (vr 78)] 5 }
def Rr:Obj:={ cls:=vn,data:=Data.fields #[vi 16 0,vi 4 0,vr 76] }
def R7:Obj:=oc #[vs "BadBounds" 253,vs "BadBounds" 254,vf 255,vi 14 0,vi 0 0,vi 0 0,vi 0 0,vi 0 0,vr 66,Value.bool false,vi 181 0,vr 67,vn,vn,vn,vn,vi 256 0,vi 14 0,vf 257]
def Sg:Obj:={ cls:=vt "frame",slots:=#[some (vr 68),some (vr 3),some (vr 65),none,some z1,none,some (vr 0)] }
def Pn:Obj:=ot #[vs "" 263]
def Ov:Obj:=ot #[vs "self" 267,vs "words" 268]
def RB:Obj:=gm "__init__" "BadBounds.__init__" 4 0
def KR:Obj:=oq "__init__" 264 "BadBounds.__init__" 265 266 16 2 71 72 (vr 73) (vr 74) (vr 75) 269 270
def Qj:Obj:=fm "__init__" "BadBounds.__init__" 4 0 (vr 70) z1 (vr 76)
def MJ (P:Params):Obj:={ cls:=vt "dict",data:=Data.dict #[de P "__module__" 258 z1,de P "__firstlineno__" 262 (vi 14 261),de P "__init__" 271 (vr 77),de P "__static_attributes__" 272 (vr 78),de P "__doc__" 273 (vn)] 2 }
def KQ:Obj:={ cls:=vt "type",data:=Data.cls { name:=u "BadBounds",bases:=[vr 39],mro:=[vr 80,vr 39,vt "ValueError",vt "Exception",vt "BaseException",vt "object"],ns:=79,qualname:=u "BadBounds" },slots:=#[some (vr 63),none,some (vs "BadBounds" 251),some (vs "BadBounds" 259),some (Value.builtin "ValueError.__new__"),some (vb)] }
def Rb:Obj:={ cls:=vt "super",data:=Data.fields #[vr 80,vr 80,vr 80] }
def Rv:Obj:={ cls:=vt "builtin_function_or_method",data:=Data.fields #[Value.builtin "object.__init_subclass__",vr 80] }
def RV (P:Params):Obj:={ cls:=vt "dict",data:=Data.dict #[de P "__module__" 283 z1,de P "__qualname__" 285 (vs "BadTest" 284),de P "__firstlineno__" 287 (vi 18 286),de P "__init__" 296 (vr 97),de P "__static_attributes__" 297 (vr 98)] 5 }
def R0:Obj:={ cls:=vn,data:=Data.fields #[vi 20 0,vi 4 0,vr 96] }
def S7:Obj:=oc #[vs "BadTest" 278,vs "BadTest" 279,vf 280,vi 18 0,vi 0 0,vi 0 0,vi 0 0,vi 0 0,vr 86,Value.bool false,vi 181 0,vr 87,vn,vn,vn,vn,vi 281 0,vi 18 0,vf 282]
def Ri:Obj:={ cls:=vt "frame",slots:=#[some (vr 88),some (vr 3),some (vr 85),none,some z1,none,some (vr 0)] }
def Q3:Obj:=ot #[vs "" 288]
def Nh:Obj:=ot #[vs "self" 292,vs "words" 293]
def RC:Obj:=gm "__init__" "BadTest.__init__" 5 0
def OD:Obj:=oq "__init__" 289 "BadTest.__init__" 290 291 20 2 91 92 (vr 93) (vr 94) (vr 95) 294 295
def Oj:Obj:=fm "__init__" "BadTest.__init__" 5 0 (vr 90) z1 (vr 96)
def Nt (P:Params):Obj:={ cls:=vt "dict",data:=Data.dict #[de P "__module__" 283 z1,de P "__firstlineno__" 287 (vi 18 286),de P "__init__" 296 (vr 97),de P "__static_attributes__" 297 (vr 98),de P "__doc__" 298 (vn)] 2 }
def NP:Obj:={ cls:=vt "type",data:=Data.cls { name:=u "BadTest",bases:=[vr 39],mro:=[vr 100,vr 39,vt "ValueError",vt "Exception",vt "BaseException",vt "object"],ns:=99,qualname:=u "BadTest" },slots:=#[some (vr 83),none,some (vs "BadTest" 276),some (vs "BadTest" 284),some (Value.builtin "ValueError.__new__"),some (vb)] }
def RW:Obj:={ cls:=vt "super",data:=Data.fields #[vr 100,vr 100,vr 100] }
def S8:Obj:={ cls:=vt "builtin_function_or_method",data:=Data.fields #[Value.builtin "object.__init_subclass__",vr 100] }
def R_ (P:Params):Obj:={ cls:=vt "dict",data:=Data.dict #[de P "__module__" 308 z1,de P "__qualname__" 310 (vs "BadWay" 309),de P "__firstlineno__" 312 (vi 22 311),de P "__init__" 321 (vr 117),de P "__static_attributes__" 322 (vr 118)] 5 }
def S5:Obj:={ cls:=vn,data:=Data.fields #[vi 24 0,vi 4 0,vr 116] }
def R1:Obj:=oc #[vs "BadWay" 303,vs "BadWay" 304,vf 305,vi 22 0,vi 0 0,vi 0 0,vi 0 0,vi 0 0,vr 106,Value.bool false,vi 181 0,vr 107,vn,vn,vn,vn,vi 306 0,vi 22 0,vf 307]
def RJ:Obj:={ cls:=vt "frame",slots:=#[some (vr 108),some (vr 3),some (vr 105),none,some z1,none,some (vr 0)] }
def Ob:Obj:=ot #[vs "" 313]
def Ld:Obj:=ot #[vs "self" 317,vs "words" 318]
def RK:Obj:=gm "__init__" "BadWay.__init__" 6 0
def Ky:Obj:=oq "__init__" 314 "BadWay.__init__" 315 316 24 2 111 112 (vr 113) (vr 114) (vr 115) 319 320
def K8:Obj:=fm "__init__" "BadWay.__init__" 6 0 (vr 110) z1 (vr 116)
def JW (P:Params):Obj:={ cls:=vt "dict",data:=Data.dict #[de P "__module__" 308 z1,de P "__firstlineno__" 312 (vi 22 311),de P "__init__" 321 (vr 117),de P "__static_attributes__" 322 (vr 118),de P "__doc__" 323 (vn)] 2 }
def Js:Obj:={ cls:=vt "type",data:=Data.cls { name:=u "BadWay",bases:=[vr 39],mro:=[vr 120,vr 39,vt "ValueError",vt "Exception",vt "BaseException",vt "object"],ns:=119,qualname:=u "BadWay" },slots:=#[some (vr 103),none,some (vs "BadWay" 301),some (vs "BadWay" 309),some (Value.builtin "ValueError.__new__"),some (vb)] }
def Rn:Obj:={ cls:=vt "super",data:=Data.fields #[vr 120,vr 120,vr 120] }
def Ro:Obj:={ cls:=vt "builtin_function_or_method",data:=Data.fields #[Value.builtin "object.__init_subclass__",vr 120] }
def W9 (P:Params):Obj:={ cls:=vt "dict",data:=Data.dict #[de P "__name__" 165 z3,de P "__doc__" 166 (vn),de P "__package__" 167 (vn),de P "__loader__" 168 (Value.builtin "__main__.__loader__#opaque"),de P "__spec__" 169 (vn),de P "__annotations__" 170 (vr 6),de P "__builtins__" 171 (vr 4),de P "__file__" 173 (vf 172),de P "__cached__" 174 (vn),de P "_wall" 193 (vr 21),de P "ScribeError" 225 (vr 39),de P "BadName" 250 (vr 60),de P "BadBounds" 275 (vr 80),de P "BadTest" 300 (vr 100),de P "BadWay" 325 (vr 120),de P "Taken" 350 (vr 140),de P "Full" 375 (vr 160),de P "BadValue" 400 (vr 179),de P "Missing" 430 (vr 199),de P "LIMIT" 434 (vi 999999 433),de P "MOST_LETTERS" 436 (vi 8 435),de P "MOST_FIELDS" 438 (vi 4 437),de P "is_name" 445 (vr 209)] 23 }
def Wf:Obj:={ cls:=vn,data:=Data.fields #[vi 1 0,vi 0 0,vr 20,vi 5 0,vi 0 0,vr 27,vi 10 0,vi 0 0,vr 48,vi 14 0,vi 0 0,vr 68,vi 18 0,vi 0 0,vr 88,vi 22 0,vi 0 0,vr 108,vi 26 0,vi 0 0,vr 128,vi 30 0,vi 0 0,vr 148,vi 34 0,vi 0 0,vr 168,vi 39 0,vi 0 0,vr 187,vi 48 0,vi 0 0,vr 208] }
def R8:Obj:={ cls:=vt "type",data:=Data.cls { name:=u "ScribeError",bases:=[vt "ValueError"],mro:=[vr 39,vt "ValueError",vt "Exception",vt "BaseException",vt "object"],ns:=38,qualname:=u "ScribeError",subclasses:=[vr 60,vr 80,vr 100,vr 120,vr 140,vr 160,vr 179] },slots:=#[some (vr 22),none,some (vs "ScribeError" 196),some z6,some (Value.builtin "ValueError.__new__"),some (vb)] }
def Ur (P:Params):Obj:={ cls:=vt "dict",data:=Data.dict #[de P "__module__" 333 z1,de P "__qualname__" 335 (vs "Taken" 334),de P "__firstlineno__" 337 (vi 26 336),de P "__init__" 346 (vr 137),de P "__static_attributes__" 347 (vr 138)] 5 }
def Vo:Obj:={ cls:=vn,data:=Data.fields #[vi 28 0,vi 4 0,vr 136] }
def Ue:Obj:=oc #[vs "Taken" 328,vs "Taken" 329,vf 330,vi 26 0,vi 0 0,vi 0 0,vi 0 0,vi 0 0,vr 126,Value.bool false,vi 181 0,vr 127,vn,vn,vn,vn,vi 331 0,vi 26 0,vf 332]
def Tq:Obj:={ cls:=vt "frame",slots:=#[some (vr 128),some (vr 3),some (vr 125),none,some z1,none,some (vr 0)] }
def RL:Obj:=ot #[vs "" 338]
def RZ:Obj:=ot #[vs "self" 342,vs "words" 343]
def SJ:Obj:=gm "__init__" "Taken.__init__" 7 0
def RT:Obj:=oq "__init__" 339 "Taken.__init__" 340 341 28 2 131 132 (vr 133) (vr 134) (vr 135) 344 345
def R4:Obj:=fm "__init__" "Taken.__init__" 7 0 (vr 130) z1 (vr 136)
def RX (P:Params):Obj:={ cls:=vt "dict",data:=Data.dict #[de P "__module__" 333 z1,de P "__firstlineno__" 337 (vi 26 336),de P "__init__" 346 (vr 137),de P "__static_attributes__" 347 (vr 138),de P "__doc__" 348 (vn)] 2 }
def Rt:Obj:={ cls:=vt "type",data:=Data.cls { name:=u "Taken",bases:=[vr 39],mro:=[vr 140,vr 39,vt "ValueError",vt "Exception",vt "BaseException",vt "object"],ns:=139,qualname:=u "Taken" },slots:=#[some (vr 123),none,some (vs "Taken" 326),some (vs "Taken" 334),some (Value.builtin "ValueError.__new__"),some (vb)] }
def Um:Obj:={ cls:=vt "super",data:=Data.fields #[vr 140,vr 140,vr 140] }
def Sw:Obj:={ cls:=vt "builtin_function_or_method",data:=Data.fields #[Value.builtin "object.__init_subclass__",vr 140] }
def Vv (P:Params):Obj:={ cls:=vt "dict",data:=Data.dict #[de P "__module__" 358 z1,de P "__qualname__" 360 (vs "Full" 359),de P "__firstlineno__" 362 (vi 30 361),de P "__init__" 371 (vr 157),de P "__static_attributes__" 372 (vr 158)] 5 }
def Tf:Obj:={ cls:=vn,data:=Data.fields #[vi 32 0,vi 4 0,vr 156] }
def Tc:Obj:=oc #[vs "Full" 353,vs "Full" 354,vf 355,vi 30 0,vi 0 0,vi 0 0,vi 0 0,vi 0 0,vr 146,Value.bool false,vi 181 0,vr 147,vn,vn,vn,vn,vi 356 0,vi 30 0,vf 357]
def Vl:Obj:={ cls:=vt "frame",slots:=#[some (vr 148),some (vr 3),some (vr 145),none,some z1,none,some (vr 0)] }
def o100:Obj:=ot #[vs "" 363]
def Bv:Obj:=ot #[vs "self" 367,vs "words" 368]
def Gn:Obj:=gm "__init__" "Full.__init__" 8 0
def Bc:Obj:=oq "__init__" 364 "Full.__init__" 365 366 32 2 151 152 (vr 153) (vr 154) (vr 155) 369 370
def Ad:Obj:=fm "__init__" "Full.__init__" 8 0 (vr 150) z1 (vr 156)
def Am (P:Params):Obj:={ cls:=vt "dict",data:=Data.dict #[de P "__module__" 358 z1,de P "__firstlineno__" 362 (vi 30 361),de P "__init__" 371 (vr 157),de P "__static_attributes__" 372 (vr 158),de P "__doc__" 373 (vn)] 2 }
def zT:Obj:={ cls:=vt "type",data:=Data.cls { name:=u "Full",bases:=[vr 39],mro:=[vr 160,vr 39,vt "ValueError",vt "Exception",vt "BaseException",vt "object"],ns:=159,qualname:=u "Full" },slots:=#[some (vr 143),none,some (vs "Full" 351),some (vs "Full" 359),some (Value.builtin "ValueError.__new__"),some (vb)] }
def Du:Obj:={ cls:=vt "super",data:=Data.fields #[vr 160,vr 160,vr 160] }
def Eg:Obj:={ cls:=vt "builtin_function_or_method",data:=Data.fields #[Value.builtin "object.__init_subclass__",vr 160] }
def Fg (P:Params):Obj:={ cls:=vt "dict",data:=Data.dict #[de P "__module__" 383 z1,de P "__qualname__" 385 (vs "BadValue" 384),de P "__firstlineno__" 387 (vi 34 386),de P "__init__" 395 (vr 176),de P "__static_attributes__" 397 (vr 177)] 5 }
def Ig:Obj:={ cls:=vn,data:=Data.fields #[vi 36 0,vi 4 0,vr 175] }
def o111:Obj:=oc #[vs "BadValue" 378,vs "BadValue" 379,vf 380,vi 34 0,vi 0 0,vi 0 0,vi 0 0,vi 0 0,vr 166,Value.bool false,vi 181 0,vr 167,vn,vn,vn,vn,vi 381 0,vi 34 0,vf 382]
def G_:Obj:={ cls:=vt "frame",slots:=#[some (vr 168),some (vr 3),some (vr 165),none,some z1,none,some (vr 0)] }
def zQ:Obj:=ot #[vs "self" 391,vs "at" 392]
def Hk:Obj:=gm "__init__" "BadValue.__init__" 9 0
def Br:Obj:=oq "__init__" 388 "BadValue.__init__" 389 390 36 2 170 171 (vr 172) (vr 173) (vr 174) 393 394
def BV:Obj:=fm "__init__" "BadValue.__init__" 9 0 vn z1 (vr 175)
def Bw:Obj:=ot #[vs "at" 396]
def zW (P:Params):Obj:={ cls:=vt "dict",data:=Data.dict #[de P "__module__" 383 z1,de P "__firstlineno__" 387 (vi 34 386),de P "__init__" 395 (vr 176),de P "__static_attributes__" 397 (vr 177),de P "__doc__" 398 (vn)] 2 }
def Ah:Obj:={ cls:=vt "type",data:=Data.cls { name:=u "BadValue",bases:=[vr 39],mro:=[vr 179,vr 39,vt "ValueError",vt "Exception",vt "BaseException",vt "object"],ns:=178,qualname:=u "BadValue" },slots:=#[some (vr 163),none,some (vs "BadValue" 376),some (vs "BadValue" 384),some (Value.builtin "ValueError.__new__"),some (vb)] }
def GQ:Obj:={ cls:=vt "super",data:=Data.fields #[vr 179,vr 179,vr 179] }
def G4:Obj:={ cls:=vt "builtin_function_or_method",data:=Data.fields #[Value.builtin "object.__init_subclass__",vr 179] }
def Bh:Obj:=ot #[vt "LookupError"]
def Dt (P:Params):Obj:={ cls:=vt "dict",data:=Data.dict #[de P "__module__" 408 z1,de P "__qualname__" 410 (vs "Missing" 409),de P "__firstlineno__" 412 (vi 39 411),de P "__init__" 423 (vr 196),de P "__static_attributes__" 425 (vr 197)] 5 }
def Ei:Obj:={ cls:=vn,data:=Data.fields #[vi 41 0,vi 4 0,vr 195] }
def Gp:Obj:=oc #[vs "Missing" 403,vs "Missing" 404,vf 405,vi 39 0,vi 0 0,vi 0 0,vi 0 0,vi 0 0,vr 185,Value.bool false,vi 181 0,vr 186,vn,vn,vn,vn,vi 406 0,vi 39 0,vf 407]
def Ez:Obj:={ cls:=vt "frame",slots:=#[some (vr 187),some (vr 3),some (vr 184),none,some z1,none,some (vr 0)] }
def Bt:Obj:=ot #[vs "" 413,vs "missing" 414]
def Bo:Obj:=ot #[vs "self" 418,vs "words" 419,vs "word" 420]
def EY:Obj:=gm "__init__" "Missing.__init__" 10 0
def Bk:Obj:=oq "__init__" 415 "Missing.__init__" 416 417 41 3 190 191 (vr 192) (vr 193) (vr 194) 421 422
def BX:Obj:=fm "__init__" "Missing.__init__" 10 0 (vr 189) z1 (vr 195)
def A_:Obj:=ot #[vs "word" 424]
def Bs (P:Params):Obj:={ cls:=vt "dict",data:=Data.dict #[de P "__module__" 408 z1,de P "__firstlineno__" 412 (vi 39 411),de P "__init__" 423 (vr 196),de P "__static_attributes__" 425 (vr 197),de P "__weakref__" 427 (vr 200),de P "__doc__" 428 (vn)] 3 }
def Al:Obj:={ cls:=vt "type",data:=Data.cls { name:=u "Missing",bases:=[vt "LookupError"],mro:=[vr 199,vt "LookupError",vt "Exception",vt "BaseException",vt "object"],ns:=198,qualname:=u "Missing" },slots:=#[some (vr 182),none,some (vs "Missing" 401),some (vs "Missing" 409),some (Value.builtin "LookupError.__new__"),some (vb)] }
def Aw:Obj:={ cls:=vt "getset_descriptor",data:=Data.fields #[vs "__weakref__" 426,vr 199,Value.builtin "ExceptionGroup.__weakref__",vn] }
def DX:Obj:={ cls:=vt "super",data:=Data.fields #[vr 199,vr 199,vr 199] }
def G8:Obj:={ cls:=vt "builtin_function_or_method",data:=Data.fields #[Value.builtin "object.__init_subclass__",vr 199] }
def zU:Obj:=ot #[vs "text" 442]
def Hx:Obj:=gt "is_name" 15
def Aa:Obj:=ok "is_name" 439 440 441 48 1 203 204 (vr 205) (vr 206) (vr 207) 443 444
def BZ:Obj:=ft "is_name" 15 vn z3 (vr 208)
def Vf (P:Params):Obj:={ cls:=vt "dict",data:=Data.dict #[de P "__name__" 165 z4,de P "__doc__" 166 (vn),de P "__package__" 167 (vn),de P "__loader__" 168 (Value.builtin "__main__.__loader__#opaque"),de P "__spec__" 169 (vn),de P "__annotations__" 170 (vr 6),de P "__builtins__" 171 (vr 4),de P "__file__" 173 (vf 172),de P "__cached__" 174 (vn),de P "_wall" 193 (vr 21),de P "ScribeError" 225 (vr 39),de P "BadName" 250 (vr 60),de P "BadBounds" 275 (vr 80),de P "BadTest" 300 (vr 100),de P "BadWay" 325 (vr 120),de P "Taken" 350 (vr 140),de P "Full" 375 (vr 160),de P "BadValue" 400 (vr 179),de P "Missing" 430 (vr 199),de P "LIMIT" 434 (vi 999999 433),de P "MOST_LETTERS" 436 (vi 8 435),de P "MOST_FIELDS" 438 (vi 4 437),de P "is_name" 445 (vr 209),de P "need_name" 452 (vr 216),de P "need_fields" 463 (vr 223),de P "bounds_text" 469 (vr 228),de P "Kind" 569 (vr 303),de P "MOST_PARTS" 573 (vi 15 572),de P "MOST_DEEP" 575 (vi 5 574),de P "WITHIN" 585 (vr 308),de P "SIGN_OF" 592 (vr 309),de P "is_word" 599 (vr 316),de P "is_number" 606 (vr 323),de P "is_leaf" 614 (vr 330),de P "count_parts" 620 (vr 335),de P "is_test" 627 (vr 342),de P "need_test" 634 (vr 349),de P "passes_leaf" 645 (vr 356),de P "NO" 649 (vi 0 648),de P "YES" 651 (vi 1 650),de P "ROW" 653 (vi 2 652),de P "is_way" 659 (vr 361),de P "is_row" 671 (vr 368)] 43 }
def V7:Obj:={ cls:=vn,data:=Data.fields #[vi 1 0,vi 0 0,vr 20,vi 5 0,vi 0 0,vr 27,vi 10 0,vi 0 0,vr 48,vi 14 0,vi 0 0,vr 68,vi 18 0,vi 0 0,vr 88,vi 22 0,vi 0 0,vr 108,vi 26 0,vi 0 0,vr 128,vi 30 0,vi 0 0,vr 148,vi 34 0,vi 0 0,vr 168,vi 39 0,vi 0 0,vr 187,vi 48 0,vi 0 0,vr 208,vi 50 0,vi 0 0,vr 215,vi 53 0,vi 0 0,vr 222,vi 62 0,vi 0 0,vr 227,vi 64 0,vi 0 0,vr 234,vi 109 0,vi 0 0,vr 315,vi 111 0,vi 0 0,vr 322,vi 113 0,vi 0 0,vr 329,vi 120 0,vi 0 0,vr 334,vi 129 0,vi 0 0,vr 341,vi 131 0,vi 0 0,vr 348,vi 134 0,vi 0 0,vr 355,vi 148 0,vi 0 0,vr 360,vi 155 0,vi 0 0,vr 367] }
def GX:Obj:=ot #[vs "text" 449]
def Q9:Obj:=gt "need_name" 16
def Iu:Obj:=ok "need_name" 446 447 448 50 1 210 211 (vr 212) (vr 213) (vr 214) 450 451
def Hb:Obj:=ft "need_name" 16 vn z3 (vr 215)
def Ia:Obj:=ot #[vs "fields" 456,vs "seen" 457,vs "name" 458,vs "low" 459,vs "high" 460]
def Qq:Obj:=gt "need_fields" 17
def Hg:Obj:=ok "need_fields" 453 454 455 53 1 217 218 (vr 219) (vr 220) (vr 221) 461 462
def Gh:Obj:=ft "need_fields" 17 vn z3 (vr 222)
def K_:Obj:=gt "bounds_text" 18
def Gu:Obj:=ok "bounds_text" 464 465 466 62 1 224 225 vn vn (vr 226) 467 468
def Gd:Obj:=ft "bounds_text" 18 vn z3 (vr 227)
def Kh (P:Params):Obj:={ cls:=vt "dict",data:=Data.dict #[de P "__module__" 477 z3,de P "__qualname__" 479 (vs "Kind" 478),de P "__firstlineno__" 481 (vi 64 480),de P "__init__" 490 (vr 244),de P "lowest" 497 (vr 251),de P "cells" 504 (vr 258),de P "place_of" 516 (vr 265),de P "need" 529 (vr 272),de P "__eq__" 537 (vr 279),de P "__len__" 544 (vr 286),de P "__str__" 551 (vr 293),de P "__repr__" 558 (vr 300),de P "__static_attributes__" 561 (vr 301)] 13 }
def QW:Obj:={ cls:=vn,data:=Data.fields #[vi 66 0,vi 4 0,vr 243,vi 74 0,vi 4 0,vr 250,vi 77 0,vi 4 0,vr 257,vi 80 0,vi 4 0,vr 264,vi 86 0,vi 4 0,vr 271,vi 93 0,vi 4 0,vr 278,vi 96 0,vi 4 0,vr 285,vi 99 0,vi 4 0,vr 292,vi 102 0,vi 4 0,vr 299] }
def Ly:Obj:=oc #[vs "Kind" 472,vs "Kind" 473,vf 474,vi 64 0,vi 0 0,vi 0 0,vi 0 0,vi 0 0,vr 232,Value.bool false,vi 181 0,vr 233,vn,vn,vn,vn,vi 475 0,vi 64 0,vf 476]
def M5:Obj:={ cls:=vt "frame",slots:=#[some (vr 234),some (vr 3),some (vr 231),none,some z3,none,some (vr 0)] }
def Io:Obj:=ot #[vr 236]
def Fj:Obj:=ot #[vs "self" 485,vs "name" 486,vs "fields" 487]
def NK:Obj:=gm "__init__" "Kind.__init__" 19 0
def Ex:Obj:=oq "__init__" 482 "Kind.__init__" 483 484 66 3 238 239 (vr 240) (vr 241) (vr 242) 488 489
def Hw:Obj:=fm "__init__" "Kind.__init__" 19 0 (vr 237) z3 (vr 243)
def J1:Obj:=ot #[vs "self" 494]
def LC:Obj:=gm "lowest" "Kind.lowest" 19 1
def Ge:Obj:=oq "lowest" 491 "Kind.lowest" 492 493 74 1 245 246 (vr 247) (vr 248) (vr 249) 495 496
def Dy:Obj:=fm "lowest" "Kind.lowest" 19 1 vn z3 (vr 250)
def Iw:Obj:=ot #[vs "self" 501]
def Nk:Obj:=gm "cells" "Kind.cells" 19 2
def HJ:Obj:=oq "cells" 498 "Kind.cells" 499 500 77 1 252 253 (vr 254) (vr 255) (vr 256) 502 503
def Ht:Obj:=fm "cells" "Kind.cells" 19 2 vn z3 (vr 257)
def Gq:Obj:=ot #[vs "self" 508,vs "field" 509,vs "at" 510,vs "name" 511,vs "low" 512,vs "high" 513]
def Q0:Obj:=gm "place_of" "Kind.place_of" 19 3
def Ds:Obj:=oq "place_of" 505 "Kind.place_of" 506 507 80 2 259 260 (vr 261) (vr 262) (vr 263) 514 515
def I_:Obj:=fm "place_of" "Kind.place_of" 19 3 vn z3 (vr 264)
def El:Obj:=ot #[vs "self" 520,vs "values" 521,vs "at" 522,vs "name" 523,vs "low" 524,vs "high" 525,vs "value" 526]
def O3:Obj:=gm "need" "Kind.need" 19 4
def Hv:Obj:=oq "need" 517 "Kind.need" 518 519 86 2 266 267 (vr 268) (vr 269) (vr 270) 527 528
def Es:Obj:=fm "need" "Kind.need" 19 4 vn z3 (vr 271)
def G9:Obj:=ot #[vs "self" 533,vs "other" 534]
def Nv:Obj:=gm "__eq__" "Kind.__eq__" 19 5
def Hm:Obj:=oq "__eq__" 530 "Kind.__eq__" 531 532 93 2 273 274 (vr 275) (vr 276) (vr 277) 535 536
def J4:Obj:=fm "__eq__" "Kind.__eq__" 19 5 vn z3 (vr 278)
def Ha:Obj:=ot #[vs "self" 541]
def M7:Obj:=gm "__len__" "Kind.__len__" 19 6
def Fo:Obj:=oq "__len__" 538 "Kind.__len__" 539 540 96 1 280 281 (vr 282) (vr 283) (vr 284) 542 543
def J0:Obj:=fm "__len__" "Kind.__len__" 19 6 vn z3 (vr 285)
def Gf:Obj:=ot #[vs "self" 548]
def JL:Obj:=gm "__str__" "Kind.__str__" 19 7
def Im:Obj:=oq "__str__" 545 "Kind.__str__" 546 547 99 1 287 288 (vr 289) (vr 290) (vr 291) 549 550
def Hl:Obj:=fm "__str__" "Kind.__str__" 19 7 vn z3 (vr 292)
def Hc:Obj:=ot #[vs "self" 555]
def Np:Obj:=gm "__repr__" "Kind.__repr__" 19 8
def FJ:Obj:=oq "__repr__" 552 "Kind.__repr__" 553 554 102 1 294 295 (vr 296) (vr 297) (vr 298) 556 557
def G7:Obj:=fm "__repr__" "Kind.__repr__" 19 8 vn z3 (vr 299)
def Dw:Obj:=ot #[vs "fields" 559,vs "name" 560]
def Ej (P:Params):Obj:={ cls:=vt "dict",data:=Data.dict #[de P "__module__" 477 z3,de P "__firstlineno__" 481 (vi 64 480),de P "__init__" 490 (vr 244),de P "lowest" 497 (vr 251),de P "cells" 504 (vr 258),de P "place_of" 516 (vr 265),de P "need" 529 (vr 272),de P "__eq__" 537 (vr 279),de P "__len__" 544 (vr 286),de P "__str__" 551 (vr 293),de P "__repr__" 558 (vr 300),de P "__static_attributes__" 561 (vr 301),de P "__dict__" 563 (vr 304),de P "__weakref__" 565 (vr 305),de P "__doc__" 566 (vn),de P "__hash__" 567 (vn)] 5 }
def Ew:Obj:={ cls:=vt "type",data:=Data.cls { name:=u "Kind",bases:=[vt "object"],mro:=[vr 303,vt "object"],ns:=302,qualname:=u "Kind" },slots:=#[none,none,some (vs "Kind" 470),some (vs "Kind" 478),some (Value.builtin "object.__new__"),some (vb)] }
def Ft:Obj:={ cls:=vt "getset_descriptor",data:=Data.fields #[vs "__dict__" 562,vr 303,Value.builtin "function.__dict__",Value.builtin "function.__dict__#set"] }
def o200:Obj:={ cls:=vt "getset_descriptor",data:=Data.fields #[vs "__weakref__" 564,vr 303,Value.builtin "ExceptionGroup.__weakref__",vn] }
def Qz:Obj:={ cls:=vt "super",data:=Data.fields #[vr 303,vr 303,vr 303] }
def QK:Obj:={ cls:=vt "builtin_function_or_method",data:=Data.fields #[Value.builtin "object.__init_subclass__",vr 303] }
def En (P:Params):Obj:={ cls:=vt "dict",data:=Data.dict #[de P "not" 576 (vi 1 577),de P "and" 578 (vi 2 579),de P "or" 580 (vi 2 581)] 3 }
def IW (P:Params):Obj:={ cls:=vt "dict",data:=Data.dict #[de P "less" 586 (vs "<" 587),de P "same" 588 (vs "=" 589)] 2 }
def Er:Obj:=ot #[vs "thing" 596]
def QV:Obj:=gt "is_word" 25
def Ey:Obj:=ok "is_word" 593 594 595 109 1 310 311 (vr 312) (vr 313) (vr 314) 597 598
def GZ:Obj:=ft "is_word" 25 vn z5 (vr 315)
def HY:Obj:=ot #[vs "thing" 603]
def Ow:Obj:=gt "is_number" 26
def GK:Obj:=ok "is_number" 600 601 602 111 1 317 318 (vr 319) (vr 320) (vr 321) 604 605
def Gy:Obj:=ft "is_number" 26 vn z5 (vr 322)
def Ef:Obj:=ot #[vs "test" 610,vs "form" 611]
def PL:Obj:=gt "is_leaf" 27
def Fq:Obj:=ok "is_leaf" 607 608 609 113 1 324 325 (vr 326) (vr 327) (vr 328) 612 613
def Fl:Obj:=ft "is_leaf" 27 vn z5 (vr 329)
def Kl:Obj:=gt "count_parts" 28
def Ie:Obj:=ok "count_parts" 615 616 617 120 2 331 332 vn vn (vr 333) 618 619
def J6:Obj:=ft "count_parts" 28 vn z5 (vr 334)
def HR:Obj:=ot #[vs "test" 624]
def N6:Obj:=gt "is_test" 29
def Fd:Obj:=ok "is_test" 621 622 623 129 1 336 337 (vr 338) (vr 339) (vr 340) 625 626
def DK:Obj:=ft "is_test" 29 vn z5 (vr 341)
def Hh:Obj:=ot #[vs "test" 631]
def Qa:Obj:=gt "need_test" 30
def Ea:Obj:=ok "need_test" 628 629 630 131 1 343 344 (vr 345) (vr 346) (vr 347) 632 633
def Hz:Obj:=ft "need_test" 30 vn z5 (vr 348)
def FZ:Obj:=ot #[vs "leaf" 638,vs "kind" 639,vs "values" 640,vs "form" 641,vs "place" 642]
def JX:Obj:=gt "passes_leaf" 31
def J7:Obj:=ok "passes_leaf" 635 636 637 134 3 350 351 (vr 352) (vr 353) (vr 354) 643 644
def Hr:Obj:=ft "passes_leaf" 31 vn z5 (vr 355)
def O4:Obj:=gt "is_way" 36
def Gs:Obj:=ok "is_way" 654 655 656 148 1 357 358 vn vn (vr 359) 657 658
def Dz:Obj:=ft "is_way" 36 vn z4 (vr 360)
def Ga:Obj:=ot #[vs "row" 663,vs "at" 664,vs "many" 665,vs "leaf" 666,vs "yes" 667,vs "no" 668]
def PX:Obj:=gt "is_row" 37
def Eo:Obj:=ok "is_row" 660 661 662 155 3 362 363 (vr 364) (vr 365) (vr 366) 669 670
def FN:Obj:=ft "is_row" 37 vn z4 (vr 367)
def V4 (P:Params):Obj:={ cls:=vt "dict",data:=Data.dict #[de P "__name__" 165 z2,de P "__doc__" 166 (vn),de P "__package__" 167 (vn),de P "__loader__" 168 (Value.builtin "__main__.__loader__#opaque"),de P "__spec__" 169 (vn),de P "__annotations__" 170 (vr 6),de P "__builtins__" 171 (vr 4),de P "__file__" 173 (vf 172),de P "__cached__" 174 (vn),de P "_wall" 193 (vr 21),de P "ScribeError" 225 (vr 39),de P "BadName" 250 (vr 60),de P "BadBounds" 275 (vr 80),de P "BadTest" 300 (vr 100),de P "BadWay" 325 (vr 120),de P "Taken" 350 (vr 140),de P "Full" 375 (vr 160),de P "BadValue" 400 (vr 179),de P "Missing" 430 (vr 199),de P "LIMIT" 434 (vi 999999 433),de P "MOST_LETTERS" 436 (vi 8 435),de P "MOST_FIELDS" 438 (vi 4 437),de P "is_name" 445 (vr 209),de P "need_name" 452 (vr 216),de P "need_fields" 463 (vr 223),de P "bounds_text" 469 (vr 228),de P "Kind" 569 (vr 303),de P "MOST_PARTS" 573 (vi 15 572),de P "MOST_DEEP" 575 (vi 5 574),de P "WITHIN" 585 (vr 308),de P "SIGN_OF" 592 (vr 309),de P "is_word" 599 (vr 316),de P "is_number" 606 (vr 323),de P "is_leaf" 614 (vr 330),de P "count_parts" 620 (vr 335),de P "is_test" 627 (vr 342),de P "need_test" 634 (vr 349),de P "passes_leaf" 645 (vr 356),de P "NO" 649 (vi 0 648),de P "YES" 651 (vi 1 650),de P "ROW" 653 (vi 2 652),de P "is_way" 659 (vr 361),de P "is_row" 671 (vr 368),de P "can_be_asked" 678 (vr 375),de P "leads_on" 687 (vr 382),de P "need_way" 694 (vr 389),de P "made" 702 (vr 396),de P "lay_test" 713 (vr 403),de P "lay_row" 724 (vr 410),de P "way_from" 730 (vr 415),de P "run" 741 (vr 422),de P "walk" 756 (vr 429),de P "_law_begin" 767 (vr 436),de P "_law_pick" 778 (vr 443),de P "_law_of" 786 (vr 450),de P "_law_far" 794 (vr 457),de P "_law_same" 800 (vr 462),de P "_law_word" 806 (vr 467),de P "_law_words" 818 (vr 474),de P "_law_is_name" 824 (vr 479),de P "_law_ask" 834 (vr 486),de P "_law_odd_name" 843 (vr 493),de P "_law_number" 850 (vr 500),de P "_law_leaf" 860 (vr 507),de P "_law_tree" 872 (vr 514),de P "_law_parts" 878 (vr 519),de P "_law_deep" 884 (vr 524),de P "_law_test" 894 (vr 531),de P "_law_leaf_ok" 901 (vr 538)] 69 }
def Ti:Obj:={ cls:=vn,data:=Data.fields #[vi 1 0,vi 0 0,vr 20,vi 5 0,vi 0 0,vr 27,vi 10 0,vi 0 0,vr 48,vi 14 0,vi 0 0,vr 68,vi 18 0,vi 0 0,vr 88,vi 22 0,vi 0 0,vr 108,vi 26 0,vi 0 0,vr 128,vi 30 0,vi 0 0,vr 148,vi 34 0,vi 0 0,vr 168,vi 39 0,vi 0 0,vr 187,vi 48 0,vi 0 0,vr 208,vi 50 0,vi 0 0,vr 215,vi 53 0,vi 0 0,vr 222,vi 62 0,vi 0 0,vr 227,vi 64 0,vi 0 0,vr 234,vi 109 0,vi 0 0,vr 315,vi 111 0,vi 0 0,vr 322,vi 113 0,vi 0 0,vr 329,vi 120 0,vi 0 0,vr 334,vi 129 0,vi 0 0,vr 341,vi 131 0,vi 0 0,vr 348,vi 134 0,vi 0 0,vr 355,vi 148 0,vi 0 0,vr 360,vi 155 0,vi 0 0,vr 367,vi 158 0,vi 0 0,vr 374,vi 160 0,vi 0 0,vr 381,vi 162 0,vi 0 0,vr 388,vi 165 0,vi 0 0,vr 395,vi 169 0,vi 0 0,vr 402,vi 180 0,vi 0 0,vr 409,vi 187 0,vi 0 0,vr 414,vi 201 0,vi 0 0,vr 421,vi 204 0,vi 0 0,vr 428,vi 215 0,vi 0 0,vr 435,vi 220 0,vi 0 0,vr 442,vi 235 0,vi 0 0,vr 449,vi 237 0,vi 0 0,vr 456,vi 240 0,vi 0 0,vr 461,vi 250 0,vi 0 0,vr 466,vi 256 0,vi 0 0,vr 473,vi 265 0,vi 0 0,vr 478,vi 267 0,vi 0 0,vr 485,vi 279 0,vi 0 0,vr 492,vi 282 0,vi 0 0,vr 499,vi 284 0,vi 0 0,vr 506,vi 291 0,vi 0 0,vr 513,vi 299 0,vi 0 0,vr 518,vi 303 0,vi 0 0,vr 523,vi 307 0,vi 0 0,vr 530,vi 310 0,vi 0 0,vr 537] }
def Q8:Obj:=ot #[vs "leaf" 675]
def U0:Obj:=gt "can_be_asked" 38
def MK:Obj:=ok "can_be_asked" 672 673 674 158 1 369 370 (vr 371) (vr 372) (vr 373) 676 677
def Ng:Obj:=ft "can_be_asked" 38 vn z4 (vr 374)
def PP:Obj:=ot #[vs "goal" 682,vs "at" 683,vs "many" 684]
def Sv:Obj:=gt "leads_on" 39
def J_:Obj:=ok "leads_on" 679 680 681 160 3 376 377 (vr 378) (vr 379) (vr 380) 685 686
def M9:Obj:=ft "leads_on" 39 vn z4 (vr 381)
def Oa:Obj:=ot #[vs "way" 691]
def Vr:Obj:=gt "need_way" 40
def Ln:Obj:=ok "need_way" 688 689 690 162 1 383 384 (vr 385) (vr 386) (vr 387) 692 693
def Kp:Obj:=ft "need_way" 40 vn z4 (vr 388)
def JM:Obj:=ot #[vs "test" 698,vs "laid" 699]
def T6:Obj:=gt "made" 41
def Q6:Obj:=ok "made" 695 696 697 165 1 390 391 (vr 392) (vr 393) (vr 394) 700 701
def Kc:Obj:=ft "made" 41 vn z4 (vr 395)
def Mw:Obj:=ot #[vs "test" 706,vs "yes" 707,vs "no" 708,vs "laid" 709,vs "form" 710]
def Vx:Obj:=gt "lay_test" 42
def Jq:Obj:=ok "lay_test" 703 704 705 169 4 397 398 (vr 399) (vr 400) (vr 401) 711 712
def Mi:Obj:=ft "lay_test" 42 vn z4 (vr 402)
def PB:Obj:=ot #[vs "leaf" 717,vs "yes" 718,vs "no" 719,vs "laid" 720,vs "row" 721]
def Tu:Obj:=gt "lay_row" 43
def Ni:Obj:=ok "lay_row" 714 715 716 180 4 404 405 (vr 406) (vr 407) (vr 408) 722 723
def Lp:Obj:=ft "lay_row" 43 vn z4 (vr 409)
def S_:Obj:=gt "way_from" 44
def QZ:Obj:=ok "way_from" 725 726 727 187 2 411 412 vn vn (vr 413) 728 729
def Pu:Obj:=ft "way_from" 44 vn z4 (vr 414)
def PN:Obj:=ot #[vs "way" 734,vs "kind" 735,vs "values" 736,vs "told" 737,vs "many" 738]
def V5:Obj:=gt "run" 45
def Om:Obj:=ok "run" 731 732 733 201 3 416 417 (vr 418) (vr 419) (vr 420) 739 740
def M3:Obj:=ft "run" 45 vn z4 (vr 421)
def Pq:Obj:=ot #[vs "way" 745,vs "kind" 746,vs "values" 747,vs "goal" 748,vs "rows" 749,vs "many" 750,vs "leaf" 751,vs "yes" 752,vs "no" 753]
def V3:Obj:=gt "walk" 46
def Od:Obj:=ok "walk" 742 743 744 204 3 423 424 (vr 425) (vr 426) (vr 427) 754 755
def JH:Obj:=ft "walk" 46 vn z4 (vr 428)
def Qm:Obj:=ot #[vs "_law_script" 762,vs "_law_seed" 763,vs "_law_cell" 764]
def U7:Obj:=gt "_law_begin" 48
def Ka:Obj:=ok "_law_begin" 759 760 761 215 1 430 431 (vr 432) (vr 433) (vr 434) 765 766
def Nf:Obj:=ft "_law_begin" 48 vn z2 (vr 435)
def Lw:Obj:=ot #[vs "_law_d" 771,vs "_law_many" 772,vs "_law_cell" 773,vs "_law_digit" 774,vs "_law_one" 775]
def UJ:Obj:=gt "_law_pick" 49
def K6:Obj:=ok "_law_pick" 768 769 770 220 2 437 438 (vr 439) (vr 440) (vr 441) 776 777
def JZ:Obj:=ft "_law_pick" 49 vn z2 (vr 442)
def KZ:Obj:=ot #[vs "_law_d" 782,vs "_law_things" 783]
def Ss:Obj:=gt "_law_of" 50
def Qx:Obj:=ok "_law_of" 779 780 781 235 2 444 445 (vr 446) (vr 447) (vr 448) 784 785
def Kw:Obj:=ft "_law_of" 50 vn z2 (vr 449)
def Py:Obj:=ot #[vs "_law_d" 790,vs "_law_number_here" 791]
def Us:Obj:=gt "_law_far" 51
def N8:Obj:=ok "_law_far" 787 788 789 237 1 451 452 (vr 453) (vr 454) (vr 455) 792 793
def M_:Obj:=ft "_law_far" 51 vn z2 (vr 456)
def Tw:Obj:=gt "_law_same" 52
def JR:Obj:=ok "_law_same" 795 796 797 240 2 458 459 vn vn (vr 460) 798 799
def QR:Obj:=ft "_law_same" 52 vn z2 (vr 461)
def U_:Obj:=gt "_law_word" 53
def Jm:Obj:=ok "_law_word" 801 802 803 250 1 463 464 vn vn (vr 465) 804 805
def Jp:Obj:=ft "_law_word" 53 vn z2 (vr 466)
def JN:Obj:=ot #[vs "_law_d" 810,vs "_law_many" 811,vs "_law_found" 812,vs "_law_k" 813,vs "_law_word_here" 814,vs "_law_step" 815]
def U4:Obj:=gt "_law_words" 54
def o300:Obj:=ok "_law_words" 807 808 809 256 2 468 469 (vr 470) (vr 471) (vr 472) 816 817
def QC:Obj:=ft "_law_words" 54 vn z2 (vr 473)
def Vu:Obj:=gt "_law_is_name" 55
def NB:Obj:=ok "_law_is_name" 819 820 821 265 1 475 476 vn vn (vr 477) 822 823
def Ml:Obj:=ft "_law_is_name" 55 vn z2 (vr 478)
def Qw:Obj:=ot #[vs "_law_ask_here" 828,vs "_law_told" 829,vs "_law_word_here" 830,vs "e" 831]
def Tv:Obj:=gt "_law_ask" 56
def Mu:Obj:=ok "_law_ask" 825 826 827 267 1 480 481 (vr 482) (vr 483) (vr 484) 832 833
def Ny:Obj:=ft "_law_ask" 56 vn z2 (vr 485)
def Kf:Obj:=ot #[vs "_law_d" 838,vs "_law_text" 839,vs "_law_odd" 840]
def UT:Obj:=gt "_law_odd_name" 57
def P0:Obj:=ok "_law_odd_name" 835 836 837 279 2 487 488 (vr 489) (vr 490) (vr 491) 841 842
def Oe:Obj:=ft "_law_odd_name" 57 vn z2 (vr 492)
def La:Obj:=ot #[vs "_law_d" 847]
def SQ:Obj:=gt "_law_number" 58
def N7:Obj:=ok "_law_number" 844 845 846 282 1 494 495 (vr 496) (vr 497) (vr 498) 848 849
def Qu:Obj:=ft "_law_number" 58 vn z2 (vr 499)
def PQ:Obj:=ot #[vs "_law_d" 854,vs "_law_names" 855,vs "_law_kinds" 856,vs "_law_way" 857]
def Vs:Obj:=gt "_law_leaf" 59
def Qy:Obj:=ok "_law_leaf" 851 852 853 284 3 501 502 (vr 503) (vr 504) (vr 505) 858 859
def Nu:Obj:=ft "_law_leaf" 59 vn z2 (vr 506)
def Qf:Obj:=ot #[vs "_law_d" 864,vs "_law_deep_here" 865,vs "_law_names" 866,vs "_law_kinds" 867,vs "_law_way" 868,vs "_law_word_here" 869]
def Vg:Obj:=gt "_law_tree" 60
def M8:Obj:=ok "_law_tree" 861 862 863 291 4 508 509 (vr 510) (vr 511) (vr 512) 870 871
def PK:Obj:=ft "_law_tree" 60 vn z2 (vr 513)
def Vw:Obj:=gt "_law_parts" 61
def JG:Obj:=ok "_law_parts" 873 874 875 299 1 515 516 vn vn (vr 517) 876 877
def LR:Obj:=ft "_law_parts" 61 vn z2 (vr 518)
def T7:Obj:=gt "_law_deep" 62
def Ox:Obj:=ok "_law_deep" 879 880 881 303 1 520 521 vn vn (vr 522) 882 883
def KD:Obj:=ft "_law_deep" 62 vn z2 (vr 523)
def O7:Obj:=ot #[vs "_law_d" 888,vs "_law_names" 889,vs "_law_kinds" 890,vs "_law_test_here" 891]
def Vq:Obj:=gt "_law_test" 63
def PJ:Obj:=ok "_law_test" 885 886 887 307 3 525 526 (vr 527) (vr 528) (vr 529) 892 893
def Kz:Obj:=ft "_law_test" 63 vn z2 (vr 530)
def Ot:Obj:=ot #[vs "_law_test_here" 898]
def SM:Obj:=gt "_law_leaf_ok" 64
def M4:Obj:=ok "_law_leaf_ok" 895 896 897 310 1 532 533 (vr 534) (vr 535) (vr 536) 899 900
def Oo:Obj:=ft "_law_leaf_ok" 64 vn z2 (vr 537)
def KK:Params->Frag:=fun P=>
 (nat_lit 2,{ cls:=vn,data:=Data.dict #[] })::
 (nat_lit 3,{ cls:=vt "dict",data:=Data.dict #[de P "__name__" 165 z2,de P "__doc__" 166 (vn),de P "__package__" 167 (vn),de P "__loader__" 168 (Value.builtin "__main__.__loader__#opaque"),de P "__spec__" 169 (vn),de P "__annotations__" 170 (vr 6),de P "__builtins__" 171 (vr 4),de P "__file__" 173 (vf 172),de P "__cached__" 174 (vn),de P "_wall" 193 (vr 21),de P "ScribeError" 225 (vr 39),de P "BadName" 250 (vr 60),de P "BadBounds" 275 (vr 80),de P "BadTest" 300 (vr 100),de P "BadWay" 325 (vr 120),de P "Taken" 350 (vr 140),de P "Full" 375 (vr 160),de P "BadValue" 400 (vr 179),de P "Missing" 430 (vr 199),de P "LIMIT" 434 (vi 999999 433),de P "MOST_LETTERS" 436 (vi 8 435),de P "MOST_FIELDS" 438 (vi 4 437),de P "is_name" 445 (vr 209),de P "need_name" 452 (vr 216),de P "need_fields" 463 (vr 223),de P "bounds_text" 469 (vr 228),de P "Kind" 569 (vr 303),de P "MOST_PARTS" 573 (vi 15 572),de P "MOST_DEEP" 575 (vi 5 574),de P "WITHIN" 585 (vr 308),de P "SIGN_OF" 592 (vr 309),de P "is_word" 599 (vr 316),de P "is_number" 606 (vr 323),de P "is_leaf" 614 (vr 330),de P "count_parts" 620 (vr 335),de P "is_test" 627 (vr 342),de P "need_test" 634 (vr 349),de P "passes_leaf" 645 (vr 356),de P "NO" 649 (vi 0 648),de P "YES" 651 (vi 1 650),de P "ROW" 653 (vi 2 652),de P "is_way" 659 (vr 361),de P "is_row" 671 (vr 368),de P "can_be_asked" 678 (vr 375),de P "leads_on" 687 (vr 382),de P "need_way" 694 (vr 389),de P "made" 702 (vr 396),de P "lay_test" 713 (vr 403),de P "lay_row" 724 (vr 410),de P "way_from" 730 (vr 415),de P "run" 741 (vr 422),de P "walk" 756 (vr 429),de P "_law_begin" 767 (vr 436),de P "_law_pick" 778 (vr 443),de P "_law_of" 786 (vr 450),de P "_law_far" 794 (vr 457),de P "_law_same" 800 (vr 462),de P "_law_word" 806 (vr 467),de P "_law_words" 818 (vr 474),de P "_law_is_name" 824 (vr 479),de P "_law_ask" 834 (vr 486),de P "_law_odd_name" 843 (vr 493),de P "_law_number" 850 (vr 500),de P "_law_leaf" 860 (vr 507),de P "_law_tree" 872 (vr 514),de P "_law_parts" 878 (vr 519),de P "_law_deep" 884 (vr 524),de P "_law_test" 894 (vr 531),de P "_law_leaf_ok" 901 (vr 538),de P "_law_shape_ok" 908 (vr 545),de P "_law_test_ok" 915 (vr 552),de P "_law_bent_test" 925 (vr 559),de P "_law_leaves" 934 (vr 566),de P "_law_passes" 940 (vr 571),de P "_law_small_fields" 951 (vr 578),de P "_law_all_pairs" 957 (vr 583),de P "_law_ended" 964 (vr 590),de P "_law_way_ok" 978 (vr 597),de P "law" 984 (vr 602)] 79 })::
 (nat_lit 15,o0)::
 (nat_lit 17,o6)::
 (nat_lit 18,o0)::
 (nat_lit 20,o8)::
 (nat_lit 21,o9)::
 (nat_lit 22,O2)::
 (nat_lit 29,Qo)::
 (nat_lit 30,o0)::
 (nat_lit 32,O6)::
 (nat_lit 33,o0)::
 (nat_lit 35,Og)::
 (nat_lit 36,Qe)::
 (nat_lit 37,Q4)::
 (nat_lit 38,Jt P)::
 (nat_lit 39,R8)::
 (nat_lit 40,Ol)::
 (nat_lit 43,jA)::
 (nat_lit 50,K3)::
 (nat_lit 51,o0)::
 (nat_lit 53,JB)::
 (nat_lit 54,o0)::
 (nat_lit 56,Oi)::
 (nat_lit 57,K9)::
 (nat_lit 58,o0)::
 (nat_lit 59,Mm P)::
 (nat_lit 60,L_)::
 (nat_lit 63,jA)::
 (nat_lit 70,Pn)::
 (nat_lit 71,o0)::
 (nat_lit 73,Ov)::
 (nat_lit 74,o0)::
 (nat_lit 76,KR)::
 (nat_lit 77,Qj)::
 (nat_lit 78,o0)::
 (nat_lit 79,MJ P)::
 (nat_lit 80,KQ)::
 (nat_lit 83,jA)::
 (nat_lit 90,Q3)::
 (nat_lit 91,o0)::
 (nat_lit 93,Nh)::
 (nat_lit 94,o0)::
 (nat_lit 96,OD)::
 (nat_lit 97,Oj)::
 (nat_lit 98,o0)::
 (nat_lit 99,Nt P)::
 (nat_lit 100,NP)::
 (nat_lit 103,jA)::
 (nat_lit 110,Ob)::
 (nat_lit 111,o0)::
 (nat_lit 113,Ld)::
 (nat_lit 114,o0)::
 (nat_lit 116,Ky)::
 (nat_lit 117,K8)::
 (nat_lit 118,o0)::
 (nat_lit 119,JW P)::
 (nat_lit 120,Js)::
 (nat_lit 123,jA)::
 (nat_lit 130,RL)::
 (nat_lit 131,o0)::
 (nat_lit 133,RZ)::
 (nat_lit 134,o0)::
 (nat_lit 136,RT)::
 (nat_lit 137,R4)::
 (nat_lit 138,o0)::
 (nat_lit 139,RX P)::
 (nat_lit 140,Rt)::
 (nat_lit 143,jA)::
 (nat_lit 150,o100)::
 (nat_lit 151,o0)::
 (nat_lit 153,Bv)::
 (nat_lit 154,o0)::
 (nat_lit 156,Bc)::
 (nat_lit 157,Ad)::
 (nat_lit 158,o0)::
 (nat_lit 159,Am P)::
 (nat_lit 160,zT)::
 (nat_lit 163,jA)::
 (nat_lit 170,o0)::
 (nat_lit 172,zQ)::
 (nat_lit 173,o0)::
 (nat_lit 175,Br)::
 (nat_lit 176,BV)::
 (nat_lit 177,Bw)::
 (nat_lit 178,zW P)::
 (nat_lit 179,Ah)::
 (nat_lit 182,Bh)::
 (nat_lit 189,Bt)::
 (nat_lit 190,o0)::
 (nat_lit 192,Bo)::
 (nat_lit 193,o0)::
 (nat_lit 195,Bk)::
 (nat_lit 196,BX)::
 (nat_lit 197,A_)::
 (nat_lit 198,Bs P)::
 (nat_lit 199,Al)::
 (nat_lit 200,Aw)::
 (nat_lit 203,o0)::
 (nat_lit 205,zU)::
 (nat_lit 206,o0)::
 (nat_lit 208,Aa)::
 (nat_lit 209,BZ)::
 (nat_lit 210,o0)::
 (nat_lit 212,GX)::
 (nat_lit 213,o0)::
 (nat_lit 215,Iu)::
 (nat_lit 216,Hb)::
 (nat_lit 217,o0)::
 (nat_lit 219,Ia)::
 (nat_lit 220,o0)::
 (nat_lit 222,Hg)::
 (nat_lit 223,Gh)::
 (nat_lit 224,o0)::
 (nat_lit 227,Gu)::
 (nat_lit 228,Gd)::
 (nat_lit 236,o0)::
 (nat_lit 237,Io)::
 (nat_lit 238,o0)::
 (nat_lit 240,Fj)::
 (nat_lit 241,o0)::
 (nat_lit 243,Ex)::
 (nat_lit 244,Hw)::
 (nat_lit 245,o0)::
 (nat_lit 247,J1)::
 (nat_lit 248,o0)::
 (nat_lit 250,Ge)::
 (nat_lit 251,Dy)::
 (nat_lit 252,o0)::
 (nat_lit 254,Iw)::
 (nat_lit 255,o0)::
 (nat_lit 257,HJ)::
 (nat_lit 258,Ht)::
 (nat_lit 259,o0)::
 (nat_lit 261,Gq)::
 (nat_lit 262,o0)::
 (nat_lit 264,Ds)::
 (nat_lit 265,I_)::
 (nat_lit 266,o0)::
 (nat_lit 268,El)::
 (nat_lit 269,o0)::
 (nat_lit 271,Hv)::
 (nat_lit 272,Es)::
 (nat_lit 273,o0)::
 (nat_lit 275,G9)::
 (nat_lit 276,o0)::
 (nat_lit 278,Hm)::
 (nat_lit 279,J4)::
 (nat_lit 280,o0)::
 (nat_lit 282,Ha)::
 (nat_lit 283,o0)::
 (nat_lit 285,Fo)::
 (nat_lit 286,J0)::
 (nat_lit 287,o0)::
 (nat_lit 289,Gf)::
 (nat_lit 290,o0)::
 (nat_lit 292,Im)::
 (nat_lit 293,Hl)::
 (nat_lit 294,o0)::
 (nat_lit 296,Hc)::
 (nat_lit 297,o0)::
 (nat_lit 299,FJ)::
 (nat_lit 300,G7)::
 (nat_lit 301,Dw)::
 (nat_lit 302,Ej P)::
 (nat_lit 303,Ew)::
 (nat_lit 304,Ft)::
 (nat_lit 305,o200)::
 (nat_lit 308,En P)::
 (nat_lit 309,IW P)::
 (nat_lit 310,o0)::
 (nat_lit 312,Er)::
 (nat_lit 313,o0)::
 (nat_lit 315,Ey)::
 (nat_lit 316,GZ)::
 (nat_lit 317,o0)::
 (nat_lit 319,HY)::
 (nat_lit 320,o0)::
 (nat_lit 322,GK)::
 (nat_lit 323,Gy)::
 (nat_lit 324,o0)::
 (nat_lit 326,Ef)::
 (nat_lit 327,o0)::
 (nat_lit 329,Fq)::
 (nat_lit 330,Fl)::
 (nat_lit 331,o0)::
 (nat_lit 334,Ie)::
 (nat_lit 335,J6)::
 (nat_lit 336,o0)::
 (nat_lit 338,HR)::
 (nat_lit 339,o0)::
 (nat_lit 341,Fd)::
 (nat_lit 342,DK)::
 (nat_lit 343,o0)::
 (nat_lit 345,Hh)::
 (nat_lit 346,o0)::
 (nat_lit 348,Ea)::
 (nat_lit 349,Hz)::
 (nat_lit 350,o0)::
 (nat_lit 352,FZ)::
 (nat_lit 353,o0)::
 (nat_lit 355,J7)::
 (nat_lit 356,Hr)::
 (nat_lit 357,o0)::
 (nat_lit 360,Gs)::
 (nat_lit 361,Dz)::
 (nat_lit 362,o0)::
 (nat_lit 364,Ga)::
 (nat_lit 365,o0)::
 (nat_lit 367,Eo)::
 (nat_lit 368,FN)::
 (nat_lit 369,o0)::
 (nat_lit 371,Q8)::
 (nat_lit 372,o0)::
 (nat_lit 374,MK)::
 (nat_lit 375,Ng)::
 (nat_lit 376,o0)::
 (nat_lit 378,PP)::
 (nat_lit 379,o0)::
 (nat_lit 381,J_)::
 (nat_lit 382,M9)::
 (nat_lit 383,o0)::
 (nat_lit 385,Oa)::
 (nat_lit 386,o0)::
 (nat_lit 388,Ln)::
 (nat_lit 389,Kp)::
 (nat_lit 390,o0)::
 (nat_lit 392,JM)::
 (nat_lit 393,o0)::
 (nat_lit 395,Q6)::
 (nat_lit 396,Kc)::
 (nat_lit 397,o0)::
 (nat_lit 399,Mw)::
 (nat_lit 400,o0)::
 (nat_lit 402,Jq)::
 (nat_lit 403,Mi)::
 (nat_lit 404,o0)::
 (nat_lit 406,PB)::
 (nat_lit 407,o0)::
 (nat_lit 409,Ni)::
 (nat_lit 410,Lp)::
 (nat_lit 411,o0)::
 (nat_lit 414,QZ)::
 (nat_lit 415,Pu)::
 (nat_lit 416,o0)::
 (nat_lit 418,PN)::
 (nat_lit 419,o0)::
 (nat_lit 421,Om)::
 (nat_lit 422,M3)::
 (nat_lit 423,o0)::
 (nat_lit 425,Pq)::
 (nat_lit 426,o0)::
 (nat_lit 428,Od)::
 (nat_lit 429,JH)::
 (nat_lit 430,o0)::
 (nat_lit 432,Qm)::
 (nat_lit 433,o0)::
 (nat_lit 435,Ka)::
 (nat_lit 436,Nf)::
 (nat_lit 437,o0)::
 (nat_lit 439,Lw)::
 (nat_lit 440,o0)::
 (nat_lit 442,K6)::
 (nat_lit 443,JZ)::
 (nat_lit 444,o0)::
 (nat_lit 446,KZ)::
 (nat_lit 447,o0)::
 (nat_lit 449,Qx)::
 (nat_lit 450,Kw)::
 (nat_lit 451,o0)::
 (nat_lit 453,Py)::
 (nat_lit 454,o0)::
 (nat_lit 456,N8)::
 (nat_lit 457,M_)::
 (nat_lit 458,o0)::
 (nat_lit 461,JR)::
 (nat_lit 462,QR)::
 (nat_lit 463,o0)::
 (nat_lit 466,Jm)::
 (nat_lit 467,Jp)::
 (nat_lit 468,o0)::
 (nat_lit 470,JN)::
 (nat_lit 471,o0)::
 (nat_lit 473,o300)::
 (nat_lit 474,QC)::
 (nat_lit 475,o0)::
 (nat_lit 478,NB)::
 (nat_lit 479,Ml)::
 (nat_lit 480,o0)::
 (nat_lit 482,Qw)::
 (nat_lit 483,o0)::
 (nat_lit 485,Mu)::
 (nat_lit 486,Ny)::
 (nat_lit 487,o0)::
 (nat_lit 489,Kf)::
 (nat_lit 490,o0)::
 (nat_lit 492,P0)::
 (nat_lit 493,Oe)::
 (nat_lit 494,o0)::
 (nat_lit 496,La)::
 (nat_lit 497,o0)::
 (nat_lit 499,N7)::
 (nat_lit 500,Qu)::
 (nat_lit 501,o0)::
 (nat_lit 503,PQ)::
 (nat_lit 504,o0)::
 (nat_lit 506,Qy)::
 (nat_lit 507,Nu)::
 (nat_lit 508,o0)::
 (nat_lit 510,Qf)::
 (nat_lit 511,o0)::
 (nat_lit 513,M8)::
 (nat_lit 514,PK)::
 (nat_lit 515,o0)::
 (nat_lit 518,JG)::
 (nat_lit 519,LR)::
 (nat_lit 520,o0)::
 (nat_lit 523,Ox)::
 (nat_lit 524,KD)::
 (nat_lit 525,o0)::
 (nat_lit 527,O7)::
 (nat_lit 528,o0)::
 (nat_lit 530,PJ)::
 (nat_lit 531,Kz)::
 (nat_lit 532,o0)::
 (nat_lit 534,Ot)::
 (nat_lit 535,o0)::
 (nat_lit 537,M4)::
 (nat_lit 538,Oo)::
 (nat_lit 539,o0)::
 (nat_lit 541,ot #[vs "_law_test_here" 905])::
 (nat_lit 542,o0)::
 (nat_lit 544,ok "_law_shape_ok" 902 903 904 320 1 539 540 (vr 541) (vr 542) (vr 543) 906 907)::
 (nat_lit 545,ft "_law_shape_ok" 65 vn z2 (vr 544))::
 (nat_lit 546,o0)::
 (nat_lit 548,ot #[vs "_law_test_here" 912])::
 (nat_lit 549,o0)::
 (nat_lit 551,ok "_law_test_ok" 909 910 911 328 1 546 547 (vr 548) (vr 549) (vr 550) 913 914)::
 (nat_lit 552,ft "_law_test_ok" 66 vn z2 (vr 551))::
 (nat_lit 553,o0)::
 (nat_lit 555,ot #[vs "_law_d" 919,vs "_law_test_here" 920,vs "_law_way" 921,vs "_law_at" 922])::
 (nat_lit 556,o0)::
 (nat_lit 558,ok "_law_bent_test" 916 917 918 330 2 553 554 (vr 555) (vr 556) (vr 557) 923 924)::
 (nat_lit 559,ft "_law_bent_test" 67 vn z2 (vr 558))::
 (nat_lit 560,o0)::
 (nat_lit 562,ot #[vs "_law_test_here" 929,vs "_law_found" 930,vs "_law_part" 931])::
 (nat_lit 563,o0)::
 (nat_lit 565,ok "_law_leaves" 926 927 928 356 1 560 561 (vr 562) (vr 563) (vr 564) 932 933)::
 (nat_lit 566,ft "_law_leaves" 68 vn z2 (vr 565))::
 (nat_lit 567,o0)::
 (nat_lit 570,ok "_law_passes" 935 936 937 363 4 567 568 vn vn (vr 569) 938 939)::
 (nat_lit 571,ft "_law_passes" 69 vn z2 (vr 570))::
 (nat_lit 572,o0)::
 (nat_lit 574,ot #[vs "_law_d" 944,vs "_law_names" 945,vs "_law_found" 946,vs "_law_title" 947,vs "_law_low" 948])::
 (nat_lit 575,o0)::
 (nat_lit 577,ok "_law_small_fields" 941 942 943 377 1 572 573 (vr 574) (vr 575) (vr 576) 949 950)::
 (nat_lit 578,ft "_law_small_fields" 70 vn z2 (vr 577))::
 (nat_lit 579,o0)::
 (nat_lit 582,ok "_law_all_pairs" 952 953 954 384 2 579 580 vn vn (vr 581) 955 956)::
 (nat_lit 583,ft "_law_all_pairs" 71 vn z2 (vr 582))::
 (nat_lit 584,o0)::
 (nat_lit 586,ot #[vs "_law_jump" 961])::
 (nat_lit 587,o0)::
 (nat_lit 589,ok "_law_ended" 958 959 960 389 1 584 585 (vr 586) (vr 587) (vr 588) 962 963)::
 (nat_lit 590,ft "_law_ended" 72 vn z2 (vr 589))::
 (nat_lit 591,o0)::
 (nat_lit 593,ot #[vs "_law_way" 968,vs "_law_start" 969,vs "_law_rows" 970,vs "_law_at" 971,vs "_law_leaf_here" 972,vs "_law_yes" 973,vs "_law_no" 974,vs "_law_jump" 975])::
 (nat_lit 594,o0)::
 (nat_lit 596,ok "_law_way_ok" 965 966 967 391 1 591 592 (vr 593) (vr 594) (vr 595) 976 977)::
 (nat_lit 597,ft "_law_way_ok" 73 vn z2 (vr 596))::
 (nat_lit 598,o0)::
 (nat_lit 601,ok "law" 979 980 981 405 1 598 599 vn vn (vr 600) 982 983)::
 (nat_lit 602,ft "law" 74 vn z2 (vr 601))::[]
def Sx:List Addr:=[2,3,15,17,18,20,21,22,29,30,32,33,35,36,37,38,39,40,43,50,51,53,54,56,57,58,59,60,63,70,71,73,74,76,77,78,79,80,83,90,91,93,94,96,97,98,99,100,103,110,111,113,114,116,117,118,119,120,123,130,131,133,134,136,137,138,139,140,143,150,151,153,154,156,157,158,159,160,163,170,172,173,175,176,177,178,179,182,189,190,192,193,195,196,197,198,199,200,203,205,206,208,209,210,212,213,215,216,217,219,220,222,223,224,227,228,236,237,238,240,241,243,244,245,247,248,250,251,252,254,255,257,258,259,261,262,264,265,266,268,269,271,272,273,275,276,278,279,280,282,283,285,286,287,289,290,292,293,294,296,297,299,300,301,302,303,304,305,308,309,310,312,313,315,316,317,319,320,322,323,324,326,327,329,330,331,334,335,336,338,339,341,342,343,345,346,348,349,350,352,353,355,356,357,360,361,362,364,365,367,368,369,371,372,374,375,376,378,379,381,382,383,385,386,388,389,390,392,393,395,396,397,399,400,402,403,404,406,407,409,410,411,414,415,416,418,419,421,422,423,425,426,428,429,430,432,433,435,436,437,439,440,442,443,444,446,447,449,450,451,453,454,456,457,458,461,462,463,466,467,468,470,471,473,474,475,478,479,480,482,483,485,486,487,489,490,492,493,494,496,497,499,500,501,503,504,506,507,508,510,511,513,514,515,518,519,520,523,524,525,527,528,530,531,532,534,535,537,538,539,541,542,544,545,546,548,549,551,552,553,555,556,558,559,560,562,563,565,566,567,570,571,572,574,575,577,578,579,582,583,584,586,587,589,590,591,593,594,596,597,598,601,602]
theorem eK:∀ P,Sx=(KK P).map (·.1):=fun P=>by kernel_rfl
def vw:Program:={ PySem.Challenge.pw_lanescribe_k10_whole_ways_tell_what_test with main:={ PySem.Challenge.pw_lanescribe_k10_whole_ways_tell_what_test.main with body:=[tp 0,tp 2,tp 3,tp 4,tp 5,tp 6,tp 7,tp 8,tp 9,tp 10,tp 12,tp 13,tp 14,tp 15,tp 16,tp 17,tp 18,tp 19,tp 21,tp 22,tp 23,tp 24,tp 25,tp 26,tp 27,tp 28,tp 29,tp 30,tp 31,tp 33,tp 34,tp 35,tp 36,tp 37,tp 38,tp 39,tp 40,tp 41,tp 42,tp 43,tp 44,tp 45,tp 46,tp 48,tp 49,tp 50,tp 51,tp 52,tp 53,tp 54,tp 55,tp 56,tp 57,tp 58,tp 59,tp 60,tp 61,tp 62,tp 63,tp 64,tp 65,tp 66,tp 67,tp 68,tp 69,tp 70,tp 71,tp 72,tp 73,tp 74] } }
def ls:List Str:=[u "ScribeError",u "BadName",u "BadBounds",u "BadTest",u "BadWay",u "Taken",u "Full",u "Missing",u "Kind",u "WITHIN",u "SIGN_OF"]
def lv:List (Str×WData):=[]
abbrev Xt:Shared->Bool:=fun s=>xlAt vw lv s && recOk (RowW.records (OpenRow.toRowW PySem.Challenge.rw_lanescribe_k10_whole_ways_tell_what_test.row)) s
abbrev hk:Hook:=kmHook KK Sx eK [599]
theorem said:PySem.Challenge.rw_lanescribe_k10_whole_ways_tell_what_test.wellSaid=true:=by kernel_rfl
theorem openP:opening (OpenRow.toRowW PySem.Challenge.rw_lanescribe_k10_whole_ways_tell_what_test.row).prog=plainProg (OpenRow.toRowW PySem.Challenge.rw_lanescribe_k10_whole_ways_tell_what_test.row).prog.main.scope.names:=by kernel_rfl
theorem yj {p:Program} {w:World} {N L:Nat} {s0 s':Shared} {t':Thread} {m0:Nat} {ann:Option Value} {β:Type} {F:Shared->β} {X:β} (h1:(s0.heap.isNs mainGlobals && s0.gens.size == 0)=true) (h2:s0.heap.objs.size=m0) (h3:s0.heap.nsMap mainGlobals "__annotations__" = ann)
 (chain:∀ r,topRun treeTable p w m0 ann L s' t'=some r->topRun treeTable p w m0 ann N s0 (topStub p)=some r)
 (last:((topRun treeTable p w m0 ann L s' t').bind fun s₁=>match staticsOk (importedModules p.main.body) s0.heap s₁.heap && namesBound p s₁.heap && gensDone s₁ && laidKept s0.heap s₁.heap with
  |true=>some s₁
  |false=>none).map F=some X):(topFrom treeTable p w N s0).map F=some X:=by
 cases hA:topRun treeTable p w m0 ann L s' t' with
 |none=>rw [hA] at last;cases last
 | some r=>
   have e:=chain r hA
   unfold topFrom
   rw [h1,h2,h3,e]
   rw [hA] at last
   exact last
abbrev pp:Program:=(OpenRow.toRowW PySem.Challenge.rw_lanescribe_k10_whole_ways_tell_what_test.row).prog
def env:Env:={ scope:=pp.main.scope,locals:=mainNs,globals:=mainNs,cells:=[],code:=vr 13,frame:=some 14 }
abbrev cd:Code:=.body (behindTheImports pp) env
abbrev fp:Pos:={ line:=0,col:=0,endLine:=0,endCol:=0 }
abbrev an:Option Value:=some (vr 6)
abbrev wZ (w:World) (os:OsState):Shared:=⟨boot_heap w.params,Array.mk [],boot_drawn,boot_toks,os⟩
def WM (P:Params):Heap:=⟨⟨boot_o_0 P::boot_o_1 P::boot_o_2 P::boot_o_3 P::boot_o_4 P::boot_o_5 P::boot_o_6 P::boot_o_7 P::boot_o_8 P::boot_o_9 P::boot_o_10 P::o0::o1::o2::o3::[]⟩,{ }⟩
abbrev VG (w:World) (os:OsState):Shared:=⟨WM w.params,Array.mk [],{ },187,os⟩
abbrev VJ:Pos:={ line:=0,col:=0,endLine:=0,endCol:=0 }
def WD (P:Params):Heap:=⟨⟨boot_o_0 P::boot_o_1 P::boot_o_2 P::boot_o_3 P::boot_o_4 P::boot_o_5 P::boot_o_6 P::boot_o_7 P::boot_o_8 P::boot_o_9 P::boot_o_10 P::o0::o1::o2::o3::[]⟩,{ }⟩
abbrev Vp (w:World) (os:OsState):Shared:=⟨WD w.params,Array.mk [],{ },187,os⟩
abbrev Ut:Pos:={ line:=0,col:=0,endLine:=0,endCol:=0 }
theorem Wa (w:World) (os:OsState):topGo treeTable pp w 11 an 12 (wZ w os) (topStub pp)=some (VG w os,⟨denote treeTable cd,cd,VJ,[topFrame fp]⟩):=by (revert w os;refine (byRow2 "special-get-raises" ?_ ?_:∀ w,_) <;> (intro w os;kernel_rfl))
theorem Wb (w:World) (os:OsState):segRun treeTable pp w 11 an 1 1 (VG w os) (blockOf (behindTheImports pp) env cd VJ [topFrame fp])=some (.next,Vp w os,cd,Ut):=by (revert w os;refine (byRow2 "special-get-raises" ?_ ?_:∀ w,_) <;> (intro w os;kernel_rfl))
def V1 (P:Params):Heap:=⟨⟨boot_o_0 P::boot_o_1 P::boot_o_2 P::o4 P::boot_o_4 P::boot_o_5 P::boot_o_6 P::boot_o_7 P::boot_o_8 P::boot_o_9 P::boot_o_10 P::o0::o5::o2::o3::o0::o1::o6::o0::o7::o8::o9::O2::jk::R9 P::o0::Rg::Rh::Rj::Qo::o0::o1::O6::o0::Rx::Og::Qe::Q4::Jt P::Wc::Ol::Ra::RN::jA::jk::Rm P::o0::R6::S6::Ry::K3::o0::o1::JB::o0::Rq::Oi::K9::o0::Mm P::L_::Sd::R3::jA::jk::RG P::o0::Rr::R7::Sg::Pn::o0::o1::Ov::o0::RB::KR::Qj::o0::MJ P::KQ::Rb::Rv::jA::jk::RV P::o0::R0::S7::Ri::Q3::o0::o1::Nh::o0::RC::OD::Oj::o0::Nt P::NP::RW::S8::jA::jk::R_ P::o0::S5::R1::RJ::Ob::o0::o1::Ld::o0::RK::Ky::K8::o0::JW P::Js::Rn::Ro::[]⟩,{ }⟩
abbrev Qi (w:World) (os:OsState):Shared:=⟨V1 w.params,Array.mk [],{ },326,os⟩
abbrev Jx:Pos:={ line:=22,col:=0,endLine:=25,endCol:=51 }
abbrev U3:List Stmt:=((behindTheImports pp).drop 0).take 7
theorem WF (w:World) (os:OsState):segRun treeTable pp w 11 an 1 1245 (Vp w os) (piecesOf U3 env cd Ut [topFrame fp])=some (.next,Qi w os,cd,Jx):=by (revert w os;refine (byRow2 "special-get-raises" ?_ ?_:∀ w,_) <;> (intro w os;kernel_rfl))
def Jz (P:Params):Heap:=⟨⟨boot_o_0 P::boot_o_1 P::boot_o_2 P::W9 P::boot_o_4 P::boot_o_5 P::boot_o_6 P::boot_o_7 P::boot_o_8 P::boot_o_9 P::boot_o_10 P::o0::Wf::o2::o3::o0::o1::o6::o0::o7::o8::o9::O2::jk::R9 P::o0::Rg::Rh::Rj::Qo::o0::o1::O6::o0::Rx::Og::Qe::Q4::Jt P::R8::Ol::Ra::RN::jA::jk::Rm P::o0::R6::S6::Ry::K3::o0::o1::JB::o0::Rq::Oi::K9::o0::Mm P::L_::Sd::R3::jA::jk::RG P::o0::Rr::R7::Sg::Pn::o0::o1::Ov::o0::RB::KR::Qj::o0::MJ P::KQ::Rb::Rv::jA::jk::RV P::o0::R0::S7::Ri::Q3::o0::o1::Nh::o0::RC::OD::Oj::o0::Nt P::NP::RW::S8::jA::jk::R_ P::o0::S5::R1::RJ::Ob::o0::o1::Ld::o0::RK::Ky::K8::o0::JW P::Js::Rn::Ro::jA::jk::Ur P::o0::Vo::Ue::Tq::RL::o0::o1::RZ::o0::SJ::RT::R4::o0::RX P::Rt::Um::Sw::jA::jk::Vv P::o0::Tf::Tc::Vl::o100::o0::o1::Bv::o0::Gn::Bc::Ad::o0::Am P::zT::Du::Eg::jA::jk::Fg P::o0::Ig::o111::G_::o0::o1::zQ::o0::Hk::Br::BV::Bw::zW P::Ah::GQ::G4::Bh::jk::Dt P::o0::Ei::Gp::Ez::Bt::o0::o1::Bo::o0::EY::Bk::BX::A_::Bs P::Al::Aw::DX::G8::o0::o1::zU::o0::Hx::Aa::BZ::[]⟩,{ }⟩
abbrev Dc (w:World) (os:OsState):Shared:=⟨Jz w.params,Array.mk [],{ },446,os⟩
abbrev CW:Pos:={ line:=48,col:=0,endLine:=49,endCol:=93 }
abbrev Ih:List Stmt:=((behindTheImports pp).drop 7).take 9
theorem UL (w:World) (os:OsState):segRun treeTable pp w 11 an 1 1025 (Qi w os) (piecesOf Ih env cd Jx [topFrame fp])=some (.next,Dc w os,cd,CW):=by (revert w os;refine (byRow2 "special-get-raises" ?_ ?_:∀ w,_) <;> (intro w os;kernel_rfl))
def QH (P:Params):Heap:=⟨⟨boot_o_0 P::boot_o_1 P::boot_o_2 P::Vf P::boot_o_4 P::boot_o_5 P::boot_o_6 P::boot_o_7 P::boot_o_8 P::boot_o_9 P::boot_o_10 P::o0::V7::o2::o3::o0::o1::o6::o0::o7::o8::o9::O2::jk::R9 P::o0::Rg::Rh::Rj::Qo::o0::o1::O6::o0::Rx::Og::Qe::Q4::Jt P::R8::Ol::Ra::RN::jA::jk::Rm P::o0::R6::S6::Ry::K3::o0::o1::JB::o0::Rq::Oi::K9::o0::Mm P::L_::Sd::R3::jA::jk::RG P::o0::Rr::R7::Sg::Pn::o0::o1::Ov::o0::RB::KR::Qj::o0::MJ P::KQ::Rb::Rv::jA::jk::RV P::o0::R0::S7::Ri::Q3::o0::o1::Nh::o0::RC::OD::Oj::o0::Nt P::NP::RW::S8::jA::jk::R_ P::o0::S5::R1::RJ::Ob::o0::o1::Ld::o0::RK::Ky::K8::o0::JW P::Js::Rn::Ro::jA::jk::Ur P::o0::Vo::Ue::Tq::RL::o0::o1::RZ::o0::SJ::RT::R4::o0::RX P::Rt::Um::Sw::jA::jk::Vv P::o0::Tf::Tc::Vl::o100::o0::o1::Bv::o0::Gn::Bc::Ad::o0::Am P::zT::Du::Eg::jA::jk::Fg P::o0::Ig::o111::G_::o0::o1::zQ::o0::Hk::Br::BV::Bw::zW P::Ah::GQ::G4::Bh::jk::Dt P::o0::Ei::Gp::Ez::Bt::o0::o1::Bo::o0::EY::Bk::BX::A_::Bs P::Al::Aw::DX::G8::o0::o1::zU::o0::Hx::Aa::BZ::o0::o1::GX::o0::Q9::Iu::Hb::o0::o1::Ia::o0::Qq::Hg::Gh::o0::o1::K_::Gu::Gd::o0::jk::Kh P::o0::QW::Ly::M5::o0::Io::o0::o1::Fj::o0::NK::Ex::Hw::o0::o1::J1::o0::LC::Ge::Dy::o0::o1::Iw::o0::Nk::HJ::Ht::o0::o1::Gq::o0::Q0::Ds::I_::o0::o1::El::o0::O3::Hv::Es::o0::o1::G9::o0::Nv::Hm::J4::o0::o1::Ha::o0::M7::Fo::J0::o0::o1::Gf::o0::JL::Im::Hl::o0::o1::Hc::o0::Np::FJ::G7::Dw::Ej P::Ew::Ft::o200::Qz::QK::En P::IW P::o0::o1::Er::o0::QV::Ey::GZ::o0::o1::HY::o0::Ow::GK::Gy::o0::o1::Ef::o0::PL::Fq::Fl::o0::o1::Kl::Ie::J6::o0::o1::HR::o0::N6::Fd::DK::o0::o1::Hh::o0::Qa::Ea::Hz::o0::o1::FZ::o0::JX::J7::Hr::o0::o1::O4::Gs::Dz::o0::o1::Ga::o0::PX::Eo::FN::[]⟩,{ }⟩
abbrev Cd (w:World) (os:OsState):Shared:=⟨QH w.params,Array.mk [],{ },672,os⟩
abbrev Dl:Pos:={ line:=155,col:=0,endLine:=157,endCol:=84 }
abbrev Ja:List Stmt:=((behindTheImports pp).drop 16).take 22
theorem Uz (w:World) (os:OsState):segRun treeTable pp w 11 an 1 1005 (Dc w os) (piecesOf Ja env cd CW [topFrame fp])=some (.next,Cd w os,cd,Dl):=by (revert w os;refine (byRow2 "special-get-raises" ?_ ?_:∀ w,_) <;> (intro w os;kernel_rfl))
def Mp (P:Params):Heap:=⟨⟨boot_o_0 P::boot_o_1 P::boot_o_2 P::V4 P::boot_o_4 P::boot_o_5 P::boot_o_6 P::boot_o_7 P::boot_o_8 P::boot_o_9 P::boot_o_10 P::o0::Ti::o2::o3::o0::o1::o6::o0::o7::o8::o9::O2::jk::R9 P::o0::Rg::Rh::Rj::Qo::o0::o1::O6::o0::Rx::Og::Qe::Q4::Jt P::R8::Ol::Ra::RN::jA::jk::Rm P::o0::R6::S6::Ry::K3::o0::o1::JB::o0::Rq::Oi::K9::o0::Mm P::L_::Sd::R3::jA::jk::RG P::o0::Rr::R7::Sg::Pn::o0::o1::Ov::o0::RB::KR::Qj::o0::MJ P::KQ::Rb::Rv::jA::jk::RV P::o0::R0::S7::Ri::Q3::o0::o1::Nh::o0::RC::OD::Oj::o0::Nt P::NP::RW::S8::jA::jk::R_ P::o0::S5::R1::RJ::Ob::o0::o1::Ld::o0::RK::Ky::K8::o0::JW P::Js::Rn::Ro::jA::jk::Ur P::o0::Vo::Ue::Tq::RL::o0::o1::RZ::o0::SJ::RT::R4::o0::RX P::Rt::Um::Sw::jA::jk::Vv P::o0::Tf::Tc::Vl::o100::o0::o1::Bv::o0::Gn::Bc::Ad::o0::Am P::zT::Du::Eg::jA::jk::Fg P::o0::Ig::o111::G_::o0::o1::zQ::o0::Hk::Br::BV::Bw::zW P::Ah::GQ::G4::Bh::jk::Dt P::o0::Ei::Gp::Ez::Bt::o0::o1::Bo::o0::EY::Bk::BX::A_::Bs P::Al::Aw::DX::G8::o0::o1::zU::o0::Hx::Aa::BZ::o0::o1::GX::o0::Q9::Iu::Hb::o0::o1::Ia::o0::Qq::Hg::Gh::o0::o1::K_::Gu::Gd::o0::jk::Kh P::o0::QW::Ly::M5::o0::Io::o0::o1::Fj::o0::NK::Ex::Hw::o0::o1::J1::o0::LC::Ge::Dy::o0::o1::Iw::o0::Nk::HJ::Ht::o0::o1::Gq::o0::Q0::Ds::I_::o0::o1::El::o0::O3::Hv::Es::o0::o1::G9::o0::Nv::Hm::J4::o0::o1::Ha::o0::M7::Fo::J0::o0::o1::Gf::o0::JL::Im::Hl::o0::o1::Hc::o0::Np::FJ::G7::Dw::Ej P::Ew::Ft::o200::Qz::QK::En P::IW P::o0::o1::Er::o0::QV::Ey::GZ::o0::o1::HY::o0::Ow::GK::Gy::o0::o1::Ef::o0::PL::Fq::Fl::o0::o1::Kl::Ie::J6::o0::o1::HR::o0::N6::Fd::DK::o0::o1::Hh::o0::Qa::Ea::Hz::o0::o1::FZ::o0::JX::J7::Hr::o0::o1::O4::Gs::Dz::o0::o1::Ga::o0::PX::Eo::FN::o0::o1::Q8::o0::U0::MK::Ng::o0::o1::PP::o0::Sv::J_::M9::o0::o1::Oa::o0::Vr::Ln::Kp::o0::o1::JM::o0::T6::Q6::Kc::o0::o1::Mw::o0::Vx::Jq::Mi::o0::o1::PB::o0::Tu::Ni::Lp::o0::o1::S_::QZ::Pu::o0::o1::PN::o0::V5::Om::M3::o0::o1::Pq::o0::V3::Od::JH::o0::o1::Qm::o0::U7::Ka::Nf::o0::o1::Lw::o0::UJ::K6::JZ::o0::o1::KZ::o0::Ss::Qx::Kw::o0::o1::Py::o0::Us::N8::M_::o0::o1::Tw::JR::QR::o0::o1::U_::Jm::Jp::o0::o1::JN::o0::U4::o300::QC::o0::o1::Vu::NB::Ml::o0::o1::Qw::o0::Tv::Mu::Ny::o0::o1::Kf::o0::UT::P0::Oe::o0::o1::La::o0::SQ::N7::Qu::o0::o1::PQ::o0::Vs::Qy::Nu::o0::o1::Qf::o0::Vg::M8::PK::o0::o1::Vw::JG::LR::o0::o1::T7::Ox::KD::o0::o1::O7::o0::Vq::PJ::Kz::o0::o1::Ot::o0::SM::M4::Oo::[]⟩,{ }⟩
abbrev nD (w:World) (os:OsState):Shared:=⟨Mp w.params,Array.mk [],{ },902,os⟩
abbrev nT:Pos:={ line:=310,col:=0,endLine:=319,endCol:=88 }
abbrev Hd:List Stmt:=((behindTheImports pp).drop 38).take 27
theorem Vn (w:World) (os:OsState):segRun treeTable pp w 11 an 1 798 (Cd w os) (piecesOf Hd env cd Dl [topFrame fp])=some (.next,nD w os,cd,nT):=by (revert w os;refine (byRow2 "special-get-raises" ?_ ?_:∀ w,_) <;> (intro w os;kernel_rfl))
abbrev Eb:List Stmt:=(behindTheImports pp).drop 65
theorem LK:behindTheImports pp=(U3++(Ih++(Ja++(Hd++Eb)))):=by kernel_rfl
abbrev wf (w:World):World:=w.withFollow "special-get-raises" false
theorem JQ (w:World) (os:OsState):((topRun treeTable pp (wf w) 11 an 798 (nD (wf w) os) (restOf Eb env cd nT [topFrame fp])).bind fun s₁=>match staticsOk (importedModules pp.main.body) (wZ (wf w) os).heap s₁.heap && namesBound pp s₁.heap && gensDone s₁ && laidKept (wZ (wf w) os).heap s₁.heap with
 |true=>some s₁
 |false=>none).map (fun s=>(openSeen vw ls (importedModules pp.main.body) Xt true s,hk.obs s))=some (openGood vw ls,hk.val (wf w)):=by kernel_rfl
abbrev wt (w:World):World:=w.withFollow "special-get-raises" true
theorem Mg (w:World) (os:OsState):((topRun treeTable pp (wt w) 11 an 798 (nD (wt w) os) (restOf Eb env cd nT [topFrame fp])).bind fun s₁=>match staticsOk (importedModules pp.main.body) (wZ (wt w) os).heap s₁.heap && namesBound pp s₁.heap && gensDone s₁ && laidKept (wZ (wt w) os).heap s₁.heap with
 |true=>some s₁
 |false=>none).map (fun s=>(openSeen vw ls (importedModules pp.main.body) Xt true s,hk.obs s))=some (openGood vw ls,hk.val (wt w)):=by kernel_rfl
theorem last (w:World) (os:OsState):((topRun treeTable pp w 11 an 798 (nD w os) (restOf Eb env cd nT [topFrame fp])).bind fun s₁=>match staticsOk (importedModules pp.main.body) (wZ w os).heap s₁.heap && namesBound pp s₁.heap && gensDone s₁ && laidKept (wZ w os).heap s₁.heap with
 |true=>some s₁
 |false=>none).map (fun s=>(openSeen vw ls (importedModules pp.main.body) Xt true s,hk.obs s))=some (openGood vw ls,hk.val w):=byRow2 "special-get-raises" (P:=fun w=>((topRun treeTable pp w 11 an 798 (nD w os) (restOf Eb env cd nT [topFrame fp])).bind fun s₁=>match staticsOk (importedModules pp.main.body) (wZ w os).heap s₁.heap && namesBound pp s₁.heap && gensDone s₁ && laidKept (wZ w os).heap s₁.heap with
 |true=>some s₁
 |false=>none).map (fun s=>(openSeen vw ls (importedModules pp.main.body) Xt true s,hk.obs s))=some (openGood vw ls,hk.val w)) (fun w=>JQ w os) (fun w=>Mg w os) w
theorem chain (w:World) (os:OsState) (r:Shared) (h:topRun treeTable pp w 11 an 798 (nD w os) (restOf Eb env cd nT [topFrame fp])=some r):topRun treeTable pp w 11 an 4884 (wZ w os) (topStub pp)=some r:=by
 have k:topRun treeTable pp w 11 an 4871 (Vp w os) (restOf (U3++(Ih++(Ja++(Hd++Eb)))) env cd Ut [topFrame fp])=some r:=piece_app (WF w os) (piece_app (UL w os) (piece_app (Uz w os) (piece_app (Vn w os) (h))))
 rw [← LK] at k
 exact go_top (n:=12) (N:=4872) (Wa w os) (piece_block (n:=1) (N:=4871) (Wb w os) k)
theorem run (w:World) (os:OsState):(topFrom treeTable pp w 4884 (wZ w os)).map (fun s=>(openSeen vw ls (importedModules pp.main.body) Xt true s,hk.obs s))=some (openGood vw ls,hk.val w):=yj (s0:=wZ w os) (by kernel_rfl) (by kernel_rfl) (by kernel_rfl) (chain w os) (last w os)
theorem left:LeftO (OpenRow.toRowW PySem.Challenge.rw_lanescribe_k10_whole_ways_tell_what_test.row).prog vw ls Xt hk.obs hk.val 4884:=vA openP (by decide) (fun s=>by kernel_rfl) run
theorem head (hw:(OpenRow.toRowW PySem.Challenge.rw_lanescribe_k10_whole_ways_tell_what_test.row).promised) {d:DefRec} {kwd:List (Str×Expr)} (hdef:defOf vw PySem.Challenge.rw_lanescribe_k10_whole_ways_tell_what_test.row.name=some (d,kwd)) (hp:PySem.Challenge.rw_lanescribe_k10_whole_ways_tell_what_test.row.prog.theDef PySem.Challenge.rw_lanescribe_k10_whole_ways_tell_what_test.row.name=some (d.params,d.body,d.scope)) (hk1:kwWritten? d.params.kwonlyargs d.params.kw_defaults=some kwd)
 (hc:WalkO vw ls (XL vw lv) (kmHook KK Sx eK [599]).says (OpenRow.toRowW PySem.Challenge.rw_lanescribe_k10_whole_ways_tell_what_test.row) d kwd fun f vs=>PySem.call f vs):PySem.Challenge.rw_lanescribe_k10_whole_ways_tell_what_test.Holds:=
 holds_law said fun said'=>holds_open (q:=vw) (loose:=ls) (Xt:=Xt) (XP:=XL vw lv) (Yf:=hk.obs) (Ya:=hk.val) (YP:=hk.says) (N:=4884) left hk.of hk.keeps (fun s e=>xl_of s (Bool.and_eq_true_iff.mp e).1) XL.keeps hdef hp hk1 (fun s e=>recFacts_of (Bool.and_eq_true_iff.mp e).2) (by rfl) said' (by decide +kernel) ⟨rfl,rfl,rfl,rfl,rfl,by decide +kernel⟩ hw hc
end
end Kd
namespace L2
open PySem PySem.Spec PyProof.Rows
abbrev Key:=Sum Int Str
def nG:Key->Value->Bool
 |.inl k,v=>Value.isInt k v
 |.inr x,v=>Value.isStrOf x v
def Ul (w:World):Key->Int
 |.inl k=>hashInt k
 |.inr x=>hashStr w x
theorem cQ:∀ {k:Key} {v:Value},nG k v=true->(∃ i t,k=Sum.inl i/\v=Value.int i t)∨(∃ x t,k=Sum.inr x/\v=Value.str x t)
 | .inl i,v,h=>by
   obtain ⟨t,e⟩:=Value.isInt_shape (k:=i) (v:=v) h
   exact .inl ⟨i,t,rfl,e⟩
 | .inr x,v,h=>by
   obtain ⟨t,e⟩:=Value.isStrOf_shape (x:=x) (v:=v) h
   exact .inr ⟨x,t,rfl,e⟩
theorem vy (i:Int) (t:Tok):nG (.inl i) (.int i t)=true:=by simp [nG,Value.isInt]
theorem vC (x:Str) (t:Tok):nG (.inr x) (.str x t)=true:=by simp [nG,Value.isStrOf]
theorem HH (a b:Int):decide ((Sum.inl a:Key)=Sum.inl b)=(a == b):=by
 by_cases e:a=b
 ·subst e;simp
 ·have h:¬ (Sum.inl a:Key)=Sum.inl b:=fun q=>e (Sum.inl.inj q)
  rw [decide_eq_false h]
  exact (beq_eq_false_iff_ne.mpr e).symm
theorem Hs (a b:Str):decide ((Sum.inr a:Key)=Sum.inr b)=decide (a=b):=by
 by_cases e:a=b
 ·subst e;simp
 ·have h:¬ (Sum.inr a:Key)=Sum.inr b:=fun q=>e (Sum.inr.inj q)
  rw [decide_eq_false h,decide_eq_false e]
theorem J5 (a:Int) (b:Str):decide ((Sum.inl a:Key)=Sum.inr b)=false:=decide_eq_false (fun q=>nomatch q)
theorem Ii (a:Str) (b:Int):decide ((Sum.inr a:Key)=Sum.inl b)=false:=decide_eq_false (fun q=>nomatch q)
def dq (prog:Program) (w:World):PySem.KeyKind prog w Key where
 is:=nG
 hash:=Ul w
 inj:=fun v a b ha hb=>by
  rcases cQ ha with ⟨i,t,rfl,rfl⟩|⟨x,t,rfl,rfl⟩
  ·rcases cQ hb with ⟨j,u,rfl,e⟩|⟨y,u,rfl,e⟩
   ·injection e with e1 _;rw [e1]
   ·exact nomatch e
  ·rcases cQ hb with ⟨j,u,rfl,e⟩|⟨y,u,rfl,e⟩
   ·exact nomatch e
   ·injection e with e1 _;rw [e1]
 byValue:=fun k v h=>by
  rcases cQ h with ⟨i,t,rfl,rfl⟩|⟨x,t,rfl,rfl⟩ <;> rfl
 pyHash:=fun hv h=>by
  rcases cQ hv with ⟨i,t,rfl,rfl⟩|⟨x,t,rfl,rfl⟩
  ·exact wpAny_pyHash_int h
  ·exact wpAny_pyHash_str h
 eqBool:=fun hu hv h=>by
  rcases cQ hu with ⟨i,t,rfl,rfl⟩|⟨x,t,rfl,rfl⟩
  ·rcases cQ hv with ⟨j,u,rfl,rfl⟩|⟨y,u,rfl,rfl⟩
   ·rw [HH] at h;exact wpAny_eqBool_int h
   ·rw [J5] at h;exact SeqAt.EqAt.int_str i t y u _ _ _ _ h
  ·rcases cQ hv with ⟨j,u,rfl,rfl⟩|⟨y,u,rfl,rfl⟩
   ·rw [Ii] at h;exact SeqAt.EqAt.str_int x t j u _ _ _ _ h
   ·rw [Hs] at h;exact wpAny_eqBool_str h
 «strs»:=fun k x t v h=>by
  rcases cQ h with ⟨i,u,rfl,e⟩|⟨y,u,rfl,e⟩
  ·exact nomatch e
  ·injection e with e1 _
   subst e1
   cases v <;> rfl
theorem qy (prog:Program) (w:World) (i:Int) (t:Tok):(dq prog w).is (.inl i) (.int i t)=true:=vy i t
theorem qO (prog:Program) (w:World) (x:Str) (t:Tok):(dq prog w).is (.inr x) (.str x t)=true:=vC x t
inductive V where
 |non|bl (b:Bool)|int (i:Int)|str (x:Str)|byt (b:Array UInt8)|flt (b:UInt64)|ref (a:Addr)|ty (n:String)
 deriving DecidableEq
def RelV:V->Value->Prop
 |.non,u=>u=Value.none
 |.bl b,u=>u=Value.bool b
 |.int i,u=>∃ t,u=Value.int i t
 |.str x,u=>∃ t,u=Value.str x t
 |.byt b,u=>∃ t,u=Value.bytes b t
 |.flt b,u=>∃ t,u=Value.float b t
 |.ref a,u=>u=Value.ref a
 |.ty n,u=>u=Value.type n
abbrev Vals:List V->List Value->Prop:=Paired RelV
theorem Vals.length (r:Vals xs us):xs.length=us.length:=Paired.length r
theorem Vals.get:∀ {xs:List V} {us:List Value} {i:Nat} {x:V},Vals xs us->xs[i]?=some x->∃ u,us[i]?=some u/\RelV x u
 |_,_,_,_,.nil,e=>by simp at e
 |_,_,0,_,.cons r _,e=>by simp at e;subst e;exact ⟨_,rfl,r⟩
 | _,_,i+1,x,.cons _ t,e=>by
   obtain ⟨u,h1,h2⟩:=Vals.get (i:=i) (x:=x) t (by simpa using e)
   exact ⟨u,by simpa using h1,h2⟩
theorem Vals.append:∀ {xs ys:List V} {us ws:List Value},Vals xs us->Vals ys ws->Vals (xs++ys) (us++ws)
 |_,_,_,_,.nil,s=>s
 |_,_,_,_,.cons r t,s=>.cons r (Vals.append t s)
theorem Vals.take:∀ {xs:List V} {us:List Value} (n:Nat),Vals xs us->Vals (xs.take n) (us.take n)
 |_,_,0,_=>.nil
 |_,_,_+1,.nil=>.nil
 |_,_,n+1,.cons r t=>.cons r (Vals.take n t)
theorem Vals.drop:∀ {xs:List V} {us:List Value} (n:Nat),Vals xs us->Vals (xs.drop n) (us.drop n)
 |_,_,0,r=>r
 |_,_,_+1,.nil=>.nil
 |_,_,n+1,.cons _ t=>Vals.drop n t
def h_:Option V->Option Value->Prop
 |some v,some u=>RelV v u
 |none,none=>True
 |_,_=>False
def KV {κ:Type}:List (κ×V)->List (κ×Value)->Prop:=Paired fun (p:κ×V) (q:κ×Value)=>p.1=q.1/\RelV p.2 q.2
def kV:Key->V
 |.inl i=>.int i
 |.inr x=>.str x
inductive HO where
 |lst (xs:List V)
 |tup (xs:List V)
 |dK (kvs:List (Key×V))|dT (kvs:List (List Key×V))
 |set (S:Int->Bool) (n:Nat)
 |ins (C dx:Addr) (fs:List (Str×V))
 |own (x:Addr)
 |xd (fs:List (Str×V))
 |met (f x:Addr)
 |rng (lo hi:Int)
 |frz (o:Obj) (u:HO)
 |tbl (ps:Array Value)
 |ext (φ:Heap->Prop)
abbrev Hp:=Addr->Option HO
def upd (H:Hp) (a:Addr) (o:HO):Hp:=fun b=>if b=a then some o else H b
theorem ak:upd H a o a=some o:=by unfold upd;rw [if_pos rfl]
theorem aK (h:b≠a):upd H a o b=H b:=by unfold upd;rw [if_neg h]
theorem fK {H:Hp} (h:H a=some o) (h':H b=some u) (d:o≠u):a≠b:=by
 intro e;subst e;rw [h] at h';exact d (Option.some.inj h')
theorem aP {H:Hp} (h:H a=some o) (h':H b=none):a≠b:=by
 intro e;subst e;rw [h] at h';cases h'
section
variable (P:Program) (w:World)
def cI (H:Hp) (h:Heap) (a:Addr):HO->Prop
 |.lst xs=>xs.length≤sizeLine/\∃ (its:List Value) (n:Nat),Vals xs its/\h.get? a=some { cls:=.type "list",data:=.seq its.toArray n }
 |.tup xs=>xs.length≤sizeLine/\∃ its:List Value,Vals xs its/\IsTup h a its.toArray
 |.dK kvs=>kvs.length≤sizeLine/\(a == sysModules)=false/\∃ vs,KV kvs vs/\h.DictOf (dq P w) a vs
 |.dT kvs=>kvs.length≤sizeLine/\(a == sysModules)=false/\∃ xs:List (List Key×Addr×Value),
  Paired (fun (p:List Key×V) (q:List Key×Addr×Value)=>p.1=q.1/\H q.2.1=some (.tup (p.1.map kV))/\RelV p.2 q.2.2) kvs xs/\
  ∃ o es ep,h.get? a=some o/\o.ExactDict/\o.data=.dict es ep/\es.toList=xs.map (entryOfKey (tupleKind (dq P w)))/\(xs.map (·.1)).Nodup
 |.set S n=>h.SetOf (intKind P w) a S n
 |.ins C dx fs=>H dx=some (.own a)/\fs.length≤1000/\dx≠a/\h.get? a=some (PySem.W.instObj C dx)/\
  ∃ mA,h.Ns1 dx mA/\(∀ f,h_ (fs.lookup f) (mA f))/\PySem.Within mA (fs.map (·.1))
 |.own _=>∃ o,h.get? a=some o
 |.xd fs=>∃ mA,h.Ns1 a mA/\∀ f,h_ (fs.lookup f) (mA f)
 |.rng lo hi=>∃ t u v,h.get? a=some { cls:=.type "range",data:=.fields #[.int lo t,.int hi u,.int 1 v] }
 |.frz o u=>h.get? a=some o/\cI H h a u
 |.tbl ps=>h.get? a=some { cls:=.none,data:=.fields ps }
 |.met f x=>h.get? a=some (PySem.W.methodObj (.ref f) (.ref x))
 |.ext φ=>φ h/\(∃ o,h.get? a=some o)/\∀ h1 h2:Heap,φ h1->(∀ o,h1.get? a=some o->h2.get? a=some o)->φ h2
def iK (H:Hp) (h:Heap):Prop:=∀ a o,H a=some o->cI P w H h a o
end
theorem cI.lt (x:cI P w H h a o):a<h.objs.size:=by
 cases o with
 |lst xs=>obtain ⟨_,_,_,_,e⟩:=x;exact Heap.lt_size e
 |tup xs=>obtain ⟨_,_,_,p⟩:=x;exact p.lt
 |dK kvs=>obtain ⟨_,_,_,_,o,_,_,e,_⟩:=x;exact Heap.lt_size e
 |dT kvs=>obtain ⟨_,_,_,_,o,_,_,e,_⟩:=x;exact Heap.lt_size e
 |set S n=>obtain ⟨o,_,_,_,e,_⟩:=x;exact Heap.lt_size e
 |ins C dx fs=>obtain ⟨_,_,_,e,_⟩:=x;exact Heap.lt_size e
 |own y=>obtain ⟨_,e⟩:=x;exact Heap.lt_size e
 |xd fs=>obtain ⟨_,⟨_,_,_,e,_⟩,_⟩:=x;exact Heap.lt_size e
 |rng lo hi=>obtain ⟨_,_,_,e⟩:=x;exact Heap.lt_size e
 |frz ob u=>obtain ⟨e,_⟩:=x;exact Heap.lt_size e
 |tbl ps=>exact Heap.lt_size (show h.get? a=some _ from x)
 |met f y=>exact Heap.lt_size (show h.get? a=some _ from x)
 |ext φ=>obtain ⟨_,⟨_,e⟩,_⟩:=x;exact Heap.lt_size e
theorem Paired.mapP {α β:Type} {F G:α->β->Prop}:∀ {l₁:List α} {l₂:List β},Paired F l₁ l₂->(∀ a b,F a b->G a b)->Paired G l₁ l₂
 |_,_,.nil,_=>.nil
 |_,_,.cons r t,f=>.cons (f _ _ r) (Paired.mapP t f)
theorem cI.stay {H H':Hp} {h h':Heap} (x:cI P w H h a o) (k:∀ b u,(b=a∨H b=some (.own a))->h.get? b=some u->h'.get? b=some u)
 (ho:∀ b,H b=some (.own a)->H' b=some (.own a)) (ht:∀ b xs,H b=some (.tup xs)->H' b=some (.tup xs)):cI P w H' h' a o:=by
 induction o with
 |lst xs=>obtain ⟨z,its,n,r,e⟩:=x;exact ⟨z,its,n,r,k _ _ (.inl rfl) e⟩
 |tup xs=>obtain ⟨z,its,r,ob,e,c⟩:=x;exact ⟨z,its,r,ob,k _ _ (.inl rfl) e,c⟩
 |dK kvs=>obtain ⟨z,y,vs,r,ob,es,ep,e,c⟩:=x;exact ⟨z,y,vs,r,ob,es,ep,k _ _ (.inl rfl) e,c⟩
 | dT kvs=>
   obtain ⟨z,y,xs,r,ob,es,ep,e,c⟩:=x
   exact ⟨z,y,xs,Paired.mapP r fun p q z=>⟨z.1,ht _ _ z.2.1,z.2.2⟩,ob,es,ep,k _ _ (.inl rfl) e,c⟩
 |set S n=>obtain ⟨ob,es,ep,t,e,c⟩:=x;exact ⟨ob,es,ep,t,k _ _ (.inl rfl) e,c⟩
 | ins C dx fs=>
   obtain ⟨d,z,ne,e,mA,⟨od,es,ep,e2,c⟩,r⟩:=x
   exact ⟨ho _ d,z,ne,k _ _ (.inl rfl) e,mA,⟨od,es,ep,k _ _ (.inr d) e2,c⟩,r⟩
 |own y=>obtain ⟨ob,e⟩:=x;exact ⟨ob,k _ _ (.inl rfl) e⟩
 |xd fs=>obtain ⟨mA,⟨od,es,ep,e,c⟩,r⟩:=x;exact ⟨mA,⟨od,es,ep,k _ _ (.inl rfl) e,c⟩,r⟩
 |rng lo hi=>obtain ⟨t,u,v,e⟩:=x;exact ⟨t,u,v,k _ _ (.inl rfl) e⟩
 |frz ob u ih=>obtain ⟨e,q⟩:=x;exact ⟨k _ _ (.inl rfl) e,ih q⟩
 | tbl ps=>
   have e:h.get? a=some { cls:=.none,data:=.fields ps }:=x
   show h'.get? a=some { cls:=.none,data:=.fields ps }
   exact k a _ (.inl rfl) e
 | met f y=>
   have e:h.get? a=some (PySem.W.methodObj (.ref f) (.ref y)):=x
   show h'.get? a=some (PySem.W.methodObj (.ref f) (.ref y))
   exact k a _ (.inl rfl) e
 |ext φ=>obtain ⟨p,⟨o,e⟩,st⟩:=x;exact ⟨st _ _ p fun o q=>k _ _ (.inl rfl) q,⟨o,k _ _ (.inl rfl) e⟩,st⟩
theorem iK.lt (x:iK P w H h) (e:H a=some o):a<h.objs.size:=(x a o e).lt
theorem iK.fresh (x:iK P w H h) (e:h.objs.size≤a):H a=none:=by
 cases q:H a with
 |none=>rfl
 |some u=>exact absurd (Nat.lt_of_lt_of_le (x.lt q) e) (Nat.lt_irrefl _)
theorem iK.kept (x:iK P w H h) (k:∀ b u,h.get? b=some u->h'.get? b=some u):iK P w H h':=fun a o e=>
 (x a o e).stay (fun b u _ q=>k b u q) (fun _ q=>q) fun _ _ q=>q
theorem iK.laid {h h':Heap} (x:iK P w H h) (k:∀ b u,h.get? b=some u->h'.get? b=some u) (hp:h.objs.size≤a) (new:cI P w (upd H a o) h' a o):iK P w (upd H a o) h':=fun b u e=>by
 have hn:=x.fresh hp
 by_cases hb:b=a
 ·subst hb;rw [ak] at e;cases e;exact new
 ·rw [aK hb] at e
  exact (x b u e).stay (fun c v _ q=>k c v q) (fun c q=>by rw [aK (aP q hn)];exact q) fun c xs q=>by rw [aK (aP q hn)];exact q
def Rd (H:Hp) (a:Addr) (u:HO):Prop:=H a=some u∨∃ o,H a=some (.frz o u)
theorem Rd.ok (r:Rd H a u) (x:iK P w H h):cI P w H h a u:=by
 rcases r with r|⟨o,r⟩
 ·exact x a u r
 ·obtain ⟨_,q⟩:=x a _ r
  exact q
def JP:Option HO->Prop
 |some (.lst _)=>True
 |some (.dK _)=>True
 |some (.dT _)=>True
 |some (.set _ _)=>True
 |some (.ins _ _ _)=>True
 |some (.ext _)=>True
 |_=>False
theorem iK.write (ok:iK P w H h) (mu:JP (H x)) (he:e=x∨H e=some (.own x)) (k:∀ b u,b≠e->h.get? b=some u->h'.get? b=some u) (heo:∃ u,h'.get? e=some u)
 (new:cI P w (upd H x o') h' x o'):iK P w (upd H x o') h':=fun b u q=>by
 have nown:∀ c y,H c=some (.own y)->c≠x:=fun c y r z=>by subst z;rw [r] at mu;exact mu
 have ntup:∀ c xs,H c=some (.tup xs)->c≠x:=fun c xs r z=>by subst z;rw [r] at mu;exact mu
 by_cases hb:b=x
 ·subst hb;rw [ak] at q;cases q;exact new
 ·rw [aK hb] at q
  by_cases hbe:b=e
  ·have q':H b=some (.own x):=by
    rcases he with z|z
    ·exact absurd (hbe.trans z) hb
    ·rw [hbe];exact z
   rw [q] at q';cases q'
   obtain ⟨v,hv⟩:=heo
   exact ⟨v,by rw [hbe];exact hv⟩
  ·refine (ok b u q).stay (fun c v hc r=>k c v ?_ r) (fun c r=>by rw [aK (nown c b r)];exact r) fun c xs r=>by rw [aK (ntup c xs r)];exact r
   rcases hc with rfl|hc
   ·exact hbe
   ·rintro rfl
    rcases he with z|z
    ·exact nown c b hc z
    ·rw [hc] at z;cases z;exact hb rfl
structure Un (fs ex:List Addr) (H H':Hp) (h h':Heap):Prop where
 keep:∀ b o,h.get? b=some o->H b=none->b∉fs->b∉ex->h'.get? b=some o
 slot:∀ b o,h.get? b=some o->H b=none->b∈fs->b∉ex->∃ sl,h'.get? b=some { o with slots:=sl }
 free:∀ b o,h.get? b=some o->H b=none->b∉ex->H' b=none
 there:∀ b o,h.get? b=some o->b∉ex->∃ o',h'.get? b=some o'
 tups:∀ b xs,H b=some (.tup xs)->H' b=some (.tup xs)
 frzs:∀ b o u,H b=some (.frz o u)->H' b=some (.frz o u)
 tbls:∀ b ps,H b=some (.tbl ps)->∃ more,H' b=some (.tbl (ps++more))
theorem Un.any (u:Un fs ex H H1 h h1) (q:h.get? b=some ob) (n:H b=none) (hx:b∉ex):∃ sl,h1.get? b=some { ob with slots:=sl }:=by
 by_cases hb:b∈fs
 ·exact u.slot b ob q n hb hx
 ·exact ⟨ob.slots,u.keep b ob q n hb hx⟩
theorem Un.kept (k:∀ b u,h.get? b=some u->h'.get? b=some u):Un fs ex H H h h':=
 ⟨fun b ob q _ _ _=>k b ob q,fun b ob q _ _ _=>⟨ob.slots,k b ob q⟩,fun _ _ _ n _=>n,fun b ob q _=>⟨ob,k b ob q⟩,fun _ _ q=>q,fun _ _ _ q=>q,fun _ ps q=>⟨#[],by rw [q];simp⟩⟩
theorem Un.refl:Un fs ex H H h h:=Un.kept fun _ _ q=>q
theorem Un.laid {H:Hp} {h h':Heap} (k:∀ b u,h.get? b=some u->h'.get? b=some u) (hp:h.objs.size≤a) (hn:H a=none):Un fs ex H (upd H a o) h h' where
 keep:=fun b u q _ _ _=>k b u q
 slot:=fun b u q _ _ _=>⟨u.slots,k b u q⟩
 free:=fun b u q n _=>by rw [aK (Nat.ne_of_lt (Nat.lt_of_lt_of_le (Heap.lt_size q) hp))];exact n
 there:=fun b u q _=>⟨u,k b u q⟩
 tups:=fun b xs q=>by rw [aK (aP q hn)];exact q
 frzs:=fun b u xs q=>by rw [aK (aP q hn)];exact q
 tbls:=fun b ps q=>⟨#[],by rw [aK (aP q hn),q];simp⟩
theorem Un.write (mu:JP (H x)) (he:e=x∨H e=some (.own x)) (k:∀ b u,b≠e->h.get? b=some u->h'.get? b=some u) (heo:∃ u,h'.get? e=some u):Un fs ex H (upd H x o) h h':=by
 have hx:∀ b,H b=none->b≠x:=fun b n z=>by subst z;rw [n] at mu;exact mu
 have hb:∀ b,H b=none->b≠e:=fun b n z=>by
  subst z
  rcases he with r|r
  ·exact hx b n r
  ·rw [n] at r;cases r
 have hm:∀ b u,H b=some u->¬ JP (some u)->b≠x:=fun b u q nm z=>by subst z;rw [q] at mu;exact nm mu
 refine ⟨fun b u q n _ _=>k b u (hb b n) q,fun b u q n _ _=>⟨u.slots,k b u (hb b n) q⟩,fun b u q n _=>by rw [aK (hx b n)];exact n,fun b u q _=>?_,
  fun b xs q=>by rw [aK (hm b _ q fun z=>z)];exact q,fun b u xs q=>by rw [aK (hm b _ q fun z=>z)];exact q,fun b ps q=>⟨#[],by rw [aK (hm b _ q fun z=>z),q];simp⟩⟩
 by_cases hbe:b=e
 ·subst hbe;exact heo
 ·exact ⟨u,k b u hbe q⟩
def Rc (h:Heap) (H:Hp):List Addr:=(List.range h.objs.size).filter fun a=>(H a).isSome
def qU (h:Heap) (H:Hp):Heap:=PySem.W.hideAll h (Rc h H)
theorem wN (h:Heap) (H:Hp):(qU h H).objs.size=h.objs.size:=PySem.W.hideAll_size _ _
theorem mF (e:h.get? b=some o) (n:H b=none):(qU h H).get? b=some o:=
 PySem.W.hideAll_get _ e fun hm=>by
  have q:(H b).isSome=true:=(List.mem_filter.mp hm).2
  rw [n] at q;simp at q
theorem Be (e:(qU h H).get? b=some o):h.get? b=some o/\H b=none:=by
 have e':h.get? b=some o:=PySem.W.of_hideAll (Rc h H) e
 refine ⟨e',?_⟩
 cases q:H b with
 |none=>rfl
 | some x=>
   have hm:b∈Rc h H:=List.mem_filter.mpr ⟨List.mem_range.mpr (Heap.lt_size e'),by simp [q]⟩
   have z:(qU h H).get? b=none:=PySem.W.hideAll_none (Rc h H) hm
   rw [z] at e;cases e
structure Mod (K:PySem.W.Frag) (mg:Str->Option Value) (base:Heap):Prop where
 kin:K.In base
 glob:base.Ns mainGlobals mg
 blt:∃ mb,base.Ns builtinsNs mb/\∀ x:Str,x ≠ "__name__"->mb x=bootBuiltins x
 nolimit:base.NoLimit
structure Cx where
 prog:Program
 w:World
 K:PySem.W.Frag
 mg:Str->Option Value
 base:Heap
 A:Around
 N:List Str
 s₀:Shared
 H₀:Hp
 env:Env
 outer:List Env
 stack:List Env
 ex:List Addr
 fn:Str->Bool
 calm:Bool
 pn:List (Addr×Obj)
 xe:Value->Shared->Prop
def frs (l:List Env):List Addr:=l.filterMap (·.frame)
abbrev Cx.fs (X:Cx):List Addr:=frs X.outer
def Jc (sc:Scope) (x:Str):Prop:=sc.names.lookup x=some .local∨sc.names.lookup x=some .cell∨sc.names.lookup x=some .free
def Loc (sc:Scope) (x:Str):Prop:=sc.names.lookup x=some .local∨sc.names.lookup x=some .cell
def Look (env:Env) (h:Heap) (m:Str->Option Value) (x:Str) (u:Value):Prop:=
 (env.kindOf x=some .local/\m x=some u)∨((env.kindOf x=some .cell∨env.kindOf x=some .free)/\∃ c,env.cells.lookup x=some c/\h.IsCell c (some u))
structure Cx.Ok (X:Cx):Prop where
 mod:Mod X.K X.mg X.base
 kind:X.env.scope.kind=.function
 glob:X.env.globals=mainGlobals
 blt:X.env.builtins=builtinsNs
 above:X.s₀.heap.objs.size≤X.env.locals
 inj:∀ x y c,X.env.cells.lookup x=some c->X.env.cells.lookup y=some c->x=y
 has:∀ x,(X.env.kindOf x=some .cell∨X.env.kindOf x=some .free)->∃ c,X.env.cells.lookup x=some c
 cab:∀ x c,X.fn x=true->X.env.cells.lookup x=some c->X.s₀.heap.objs.size≤c
 hd:X.calm=true->X.A.handled=none
 frames:X.A.frames=some X.stack
 stk:X.stack=X.outer∨(X.stack=X.env::X.outer/\X.env.frame=some X.env.locals)
 exf:∀ b∈X.ex,b≠X.env.locals/\∀ x c,X.env.cells.lookup x=some c->c≠b
 bs:∀ b o,X.base.get? b=some o->X.s₀.heap.get? b=some o/\X.H₀ b=none
 bsz:X.base.objs.size≤X.s₀.heap.objs.size
 noex:∀ b o,X.base.get? b=some o->b∉X.ex
 exfs:∀ b∈X.ex,b∉X.fs
 funs:X.s₀.heap.FunFrames X.base X.outer
 frf:∀ b∈X.fs,X.H₀ b=none
structure Inv (X:Cx) (Z:List (Addr×Obj)) (σ:List (Option V)) (H:Hp) (s:Shared):Prop where
 ok:X.Ok
 os:s.os=X.s₀.os
 bare:AllBare s.gens
 base:Un X.fs X.ex X.H₀ H X.s₀.heap s.heap
 loc:∃ m,s.heap.Ns X.env.locals m/\∀ (i:Nat) (x:Str) (v:V),X.N[i]?=some x->σ[i]?=some (some v)->Jc X.env.scope x->∃ u,RelV v u/\Look X.env s.heap m x u
 cell:∀ x c,X.env.cells.lookup x=some c->∃ v,s.heap.IsCell c v
 free:H X.env.locals=none
 freeC:∀ x c,X.env.cells.lookup x=some c->H c=none
 pin:∀ p∈X.pn++Z,s.heap.get? p.1=some p.2/\H p.1=none/\p.1≠X.env.locals/\p.1∉X.fs/\∀ v,p.2.data≠.cell v
 hok:iK X.prog X.w H s.heap
 len:σ.length=X.N.length
section
variable {X:Cx} {Z:List (Addr×Obj)} {σ:List (Option V)} {H H':Hp} {s:Shared} {h':Heap}
theorem Cx.Ok.nofr (ok:X.Ok) (e:X.base.get? b=some o):b∉X.fs:=fun hb=>by
 have:=(ok.funs.mem hb).1
 rw [e] at this;cases this
theorem Inv.bs (I:Inv X Z σ H s):∀ b o,X.base.get? b=some o->s.heap.get? b=some o/\H b=none:=fun b o e=>
 ⟨I.base.keep b o (I.ok.bs b o e).1 (I.ok.bs b o e).2 (I.ok.nofr e) (I.ok.noex b o e),I.base.free b o (I.ok.bs b o e).1 (I.ok.bs b o e).2 (I.ok.noex b o e)⟩
theorem Inv.bk (I:Inv X Z σ H s):∀ b o,X.base.get? b=some o->s.heap.get? b=some o:=fun b o e=>(I.bs b o e).1
theorem Inv.mod (I:Inv X Z σ H s):Mod X.K X.mg X.base:=I.ok.mod
theorem Inv.kIn (I:Inv X Z σ H s):X.K.In s.heap:=I.ok.mod.kin.keeps I.bk
theorem Inv.fr (I:Inv X Z σ H s):∃ m,Fr X.base X.env.locals s.heap m:=
 let ⟨m,hn,_⟩:=I.loc
 ⟨m,hn,I.bk,Nat.le_trans I.ok.bsz I.ok.above⟩
theorem Inv.lt (I:Inv X Z σ H s):X.env.locals<s.heap.objs.size:=let ⟨_,hn,_⟩:=I.loc;hn.lt
theorem Inv.sz (I:Inv X Z σ H s):X.s₀.heap.objs.size≤s.heap.objs.size:=Nat.le_trans I.ok.above (Nat.le_of_lt I.lt)
theorem Inv.nofs (I:Inv X Z σ H s) (h:s.heap.objs.size≤a):a∉X.fs:=fun hb=>by
 obtain ⟨_,o,ho,_⟩:=I.ok.funs.mem hb
 exact absurd (Nat.lt_of_lt_of_le (Heap.lt_size ho) (Nat.le_trans I.sz h)) (Nat.lt_irrefl _)
theorem Inv.cne (I:Inv X Z σ H s):∀ x c,X.env.cells.lookup x=some c->c≠X.env.locals:=fun x c e z=>by
 obtain ⟨v,o,ho,hd⟩:=I.cell x c e
 obtain ⟨m,⟨o',es,ep,ho',hd',_⟩,_⟩:=I.loc
 rw [z,ho'] at ho;cases ho;rw [hd'] at hd;cases hd
theorem Inv.funs (I:Inv X Z σ H s):s.heap.FunFrames X.base X.outer:=by
 have all:∀ (l:List Env),(∀ b∈frs l,b∈X.fs)->X.s₀.heap.FunFrames X.base l->s.heap.FunFrames X.base l:=by
  intro l
  induction l with
  |nil=>intro _ _;trivial
  | cons env r ih=>
    intro hs hl
    obtain ⟨hk,⟨L,o,hf,hn,ho,hd⟩,hr⟩:=hl
    have hL:L∈X.fs:=hs L (by unfold frs;rw [List.filterMap_cons,hf];exact List.mem_cons_self)
    obtain ⟨sl,e⟩:=I.base.slot L o ho (I.ok.frf L hL) hL fun z=>I.ok.exfs L z hL
    exact ⟨hk,⟨L,_,hf,hn,e,hd⟩,ih (fun b hb=>hs b (by unfold frs;rw [List.filterMap_cons,hf];exact List.mem_cons_of_mem _ hb)) hr⟩
 exact all X.outer (fun _ hb=>hb) I.ok.funs
theorem Inv.stack (I:Inv X Z σ H s):s.heap.FunFrames X.base X.stack:=by
 rcases I.ok.stk with e|⟨e,hf⟩
 ·rw [e];exact I.funs
 ·rw [e]
  obtain ⟨m,hn,_⟩:=I.loc
  refine .cons (by rw [I.ok.kind];decide) hf hn ?_ I.funs
  exact Heap.get?_none_of_le (Nat.le_trans I.ok.bsz I.ok.above)
theorem Inv.stkSub (I:Inv X Z σ H s):∀ b∈frs X.stack,b∈X.env.locals::X.fs:=fun b hb=>by
 rcases I.ok.stk with e|⟨e,hf⟩
 ·rw [e] at hb;exact List.mem_cons_of_mem _ hb
 ·rw [e] at hb
  unfold frs at hb
  rw [List.filterMap_cons,hf] at hb
  exact hb
theorem Inv.stkFree (I:Inv X Z σ H s):∀ b∈frs X.stack,H b=none:=fun b hb=>by
 rcases List.mem_cons.mp (I.stkSub b hb) with e|hb
 ·rw [e];exact I.free
 ·obtain ⟨_,o,ho,_⟩:=I.ok.funs.mem hb
  exact I.base.free b o ho (I.ok.frf b hb) fun z=>I.ok.exfs b z hb
theorem Inv.step {g':Array GenState} {t':Nat} {d':Drawn} {ch:List Addr} (I:Inv X Z σ H s)
 (hch:∀ b∈ch,(b∈X.ex∨X.s₀.heap.objs.size≤b)/\b≠X.env.locals/\(∀ x c,X.env.cells.lookup x=some c->c≠b)/\∀ p∈X.pn++Z,p.1≠b)
 (keep:∀ b o,b≠X.env.locals->b∉X.fs->b∉ch->s.heap.get? b=some o->H b=none->h'.get? b=some o)
 (slot:∀ b o,b≠X.env.locals->b∈X.fs->b∉ch->s.heap.get? b=some o->H b=none->∃ sl,h'.get? b=some { o with slots:=sl }) (free:∀ b o,b∉ch->s.heap.get? b=some o->H b=none->H' b=none)
 (there:∀ b o,b∉ch->s.heap.get? b=some o->∃ o',h'.get? b=some o')
 (tups:∀ b xs,H b=some (.tup xs)->H' b=some (.tup xs)) (frzs:∀ b o u,H b=some (.frz o u)->H' b=some (.frz o u)) (tbls:∀ b ps,H b=some (.tbl ps)->∃ more,H' b=some (.tbl (ps++more)))
 (ns:∀ m,s.heap.Ns X.env.locals m->h'.Ns X.env.locals m) (hok:iK X.prog X.w H' h') (hg:AllBare g') :
 Inv X Z σ H' { s with heap:=h',gens:=g',drawn:=d',toks:=t' }:=by
 have neL:∀ b o,X.s₀.heap.get? b=some o->b≠X.env.locals:=fun b o e=>Nat.ne_of_lt (Nat.lt_of_lt_of_le (Heap.lt_size e) I.ok.above)
 have neC:∀ b o,X.s₀.heap.get? b=some o->b∉X.ex->b∉ch:=fun b o e hx hb=>by
  rcases (hch b hb).1 with z|z
  ·exact hx z
  ·exact absurd (Nat.lt_of_lt_of_le (Heap.lt_size e) z) (Nat.lt_irrefl _)
 have cellK:∀ x c,X.env.cells.lookup x=some c->∀ v,s.heap.IsCell c v->h'.IsCell c v:=fun x c e v ⟨o,ho,hd⟩=>by
  have nch:c∉ch:=fun z=>(hch c z).2.2.1 x c e rfl
  by_cases hc:c∈X.fs
  ·obtain ⟨sl,q⟩:=slot c o (I.cne x c e) hc nch ho (I.freeC x c e)
   exact ⟨_,q,hd⟩
  ·exact ⟨o,keep c o (I.cne x c e) hc nch ho (I.freeC x c e),hd⟩
 refine ⟨I.ok,I.os,hg,⟨fun b o e n hb hx=>?_,fun b o e n hb hx=>?_,fun b o e n hx=>?_,fun b o e hx=>?_,fun b xs e=>tups b xs (I.base.tups b xs e),fun b o xs e=>frzs b o xs (I.base.frzs b o xs e),fun b ps e=>?_⟩,?_,fun x c e=>?_,?_,fun x c e=>?_,fun p hp=>?_,hok,I.len⟩
 ·exact keep b o (neL b o e) hb (neC b o e hx) (I.base.keep b o e n hb hx) (I.base.free b o e n hx)
 ·obtain ⟨sl,e1⟩:=I.base.slot b o e n hb hx
  obtain ⟨sl',e2⟩:=slot b _ (neL b o e) hb (neC b o e hx) e1 (I.base.free b o e n hx)
  exact ⟨sl',e2⟩
 ·obtain ⟨o',e1⟩:=I.base.there b o e hx
  exact free b o' (neC b o e hx) e1 (I.base.free b o e n hx)
 ·obtain ⟨o',e1⟩:=I.base.there b o e hx
  exact there b o' (neC b o e hx) e1
 ·obtain ⟨m1,e1⟩:=I.base.tbls b ps e
  obtain ⟨m2,e2⟩:=tbls b _ e1
  exact ⟨m1++m2,by rw [e2,Array.append_assoc]⟩
 ·obtain ⟨m,hn,hl⟩:=I.loc
  refine ⟨m,ns m hn,fun i x v e1 e2 e3=>?_⟩
  obtain ⟨u,r,l⟩:=hl i x v e1 e2 e3
  refine ⟨u,r,?_⟩
  rcases l with l|⟨k,c,e,z⟩
  ·exact .inl l
  ·exact .inr ⟨k,c,e,cellK x c e _ z⟩
 ·obtain ⟨v,z⟩:=I.cell x c e
  exact ⟨v,cellK x c e v z⟩
 ·obtain ⟨m,⟨o,_,_,ho,_⟩,_⟩:=I.loc
  exact free _ o (fun z=>(hch _ z).2.1 rfl) ho I.free
 ·obtain ⟨v,o,ho,hd⟩:=I.cell x c e
  exact free c o (fun z=>(hch c z).2.2.1 x c e rfl) ho (I.freeC x c e)
 ·obtain ⟨e,n,ne,nf,d⟩:=I.pin p hp
  have nch:p.1∉ch:=fun z=>(hch p.1 z).2.2.2 p hp rfl
  exact ⟨keep p.1 p.2 ne nf nch e n,free p.1 p.2 nch e n,ne,nf,d⟩
theorem Inv.un {t':Nat} (I:Inv X Z σ H s) (u:Un X.fs [] H H' s.heap h') (hok:iK X.prog X.w H' h'):Inv X Z σ H' { s with heap:=h',toks:=t' }:=by
 obtain ⟨m,⟨o,es,ep,ho,r⟩,_⟩:=id I.loc
 obtain ⟨sl,hL⟩:=u.any ho I.free (by simp)
 exact I.step (g':=s.gens) (d':=s.drawn) (ch:=[]) (fun _ z=>nomatch z) (fun b o _ hb _ e n=>u.keep b o e n hb (by simp)) (fun b o _ hb _ e n=>u.slot b o e n hb (by simp)) (fun b o _ e n=>u.free b o e n (by simp)) (fun b o _ e=>u.there b o e (by simp)) u.tups u.frzs u.tbls (fun m' hm=>by
  obtain ⟨o',es',ep',ho',r'⟩:=hm
  rw [ho] at ho';cases ho'
  exact ⟨_,es',ep',hL,r'⟩) hok I.bare
theorem Inv.call {g':Array GenState} {t':Nat} {d':Drawn} {ch:List Addr} (I:Inv X Z σ H s) (u:Un (frs X.stack) ch H H' s.heap h') (hok:iK X.prog X.w H' h') (hg:AllBare g')
 (hch:∀ b∈ch,(b∈X.ex∨X.s₀.heap.objs.size≤b)/\b≠X.env.locals/\(∀ x c,X.env.cells.lookup x=some c->c≠b)/\∀ p∈X.pn++Z,p.1≠b) :
 Inv X Z σ H' { s with heap:=h',gens:=g',drawn:=d',toks:=t' }:=by
 obtain ⟨m,⟨o,es,ep,ho,r⟩,_⟩:=id I.loc
 obtain ⟨sl,hL⟩:=u.any ho I.free fun z=>(hch _ z).2.1 rfl
 exact I.step (ch:=ch) hch (fun b o hL hb hc e n=>u.keep b o e n (fun z=>(List.mem_cons.mp (I.stkSub b z)).elim hL hb) hc) (fun b o _ _ hc e n=>u.any e n hc) (fun b o hc e n=>u.free b o e n hc) (fun b o hc e=>u.there b o e hc) u.tups u.frzs u.tbls (fun m' hm=>by
  obtain ⟨o',es',ep',ho',r'⟩:=hm
  rw [ho] at ho';cases ho'
  exact ⟨_,es',ep',hL,r'⟩) hok hg
theorem Inv.turned {t':Nat} {it:Addr} (I:Inv X Z σ H s) (k:∀ b o,b≠it->s.heap.get? b=some o->h'.get? b=some o) (hn:H it=none) (hL:it≠X.env.locals)
 (h1:it∈X.ex∨X.s₀.heap.objs.size≤it) (h2:∀ x c,X.env.cells.lookup x=some c->c≠it) (h3:∀ p∈X.pn++Z,p.1≠it):Inv X Z σ H { s with heap:=h',toks:=t' }:=by
 have nit:∀ b u,H b=some u->b≠it:=fun b u e z=>by rw [z,hn] at e;cases e
 refine I.step (g':=s.gens) (d':=s.drawn) (ch:=[it]) (fun b hb=>?_) (fun b o _ _ hc e _=>k b o (fun z=>hc (by simp [z])) e) (fun b o _ _ hc e _=>⟨o.slots,k b o (fun z=>hc (by simp [z])) e⟩) (fun _ _ _ _ n=>n)
  (fun b o hc e=>⟨o,k b o (fun z=>hc (by simp [z])) e⟩) (fun _ _ e=>e) (fun _ _ _ e=>e) (fun b ps e=>⟨#[],by rw [e];simp⟩) (fun m hm=>?_) (fun b u e=>?_) I.bare
 ·have e:b=it:=by simpa using hb
  subst e
  exact ⟨h1,hL,h2,h3⟩
 ·obtain ⟨o,es,ep,ho,r⟩:=hm
  exact ⟨o,es,ep,k _ o (Ne.symm hL) ho,r⟩
 ·refine (I.hok b u e).stay (fun c v hc q=>k c v ?_ q) (fun _ q=>q) fun _ _ q=>q
  rcases hc with z|z
  ·rw [z];exact nit b u e
  ·exact nit c _ z
theorem Inv.tok (I:Inv X Z σ H s) (t:Nat):Inv X Z σ H { s with toks:=t }:=I.un (h':=s.heap) (t':=t) Un.refl I.hok
theorem Inv.kept (I:Inv X Z σ H s) (k:∀ b u,s.heap.get? b=some u->h'.get? b=some u):Inv X Z σ H { s with heap:=h',toks:=t' }:=I.un (Un.kept k) (I.hok.kept k)
theorem Inv.laid (I:Inv X Z σ H s) (k:∀ b u,s.heap.get? b=some u->h'.get? b=some u) (hp:s.heap.objs.size≤a) (new:cI X.prog X.w (upd H a o) h' a o) :
 Inv X Z σ (upd H a o) { s with heap:=h',toks:=t' }:=I.un (Un.laid k hp (I.hok.fresh hp)) (I.hok.laid k hp new)
theorem Inv.write (I:Inv X Z σ H s) (mu:JP (H x)) (he:e=x∨H e=some (.own x)) (k:∀ b u,b≠e->s.heap.get? b=some u->h'.get? b=some u) (heo:∃ u,h'.get? e=some u)
 (new:cI X.prog X.w (upd H x o) h' x o):Inv X Z σ (upd H x o) { s with heap:=h',toks:=t' }:=I.un (Un.write mu he k heo) (I.hok.write mu he k heo new)
theorem Inv.pins_of (I:Inv X Z σ H s) (h:∀ p∈pins',s.heap.get? p.1=some p.2/\H p.1=none/\p.1≠X.env.locals/\p.1∉X.fs/\∀ v,p.2.data≠.cell v):Inv X pins' σ H s:=
 ⟨I.ok,I.os,I.bare,I.base,I.loc,I.cell,I.free,I.freeC,fun p hp=>(List.mem_append.mp hp).elim (fun z=>I.pin p (List.mem_append_left _ z)) (h p),I.hok,I.len⟩
theorem jR {N:List Str} (hN:N.Nodup) {i j:Nat} {x:Str} (a:N[i]?=some x) (b:N[j]?=some x):i=j:=by
 obtain ⟨h1,e1⟩:=List.getElem?_eq_some_iff.mp a
 obtain ⟨h2,e2⟩:=List.getElem?_eq_some_iff.mp b
 exact (List.getElem_inj hN).mp (e1.trans e2.symm)
theorem nW {M:Model} {A:Around} {E:Value->Shared->Prop} {i:Nat} {x:Str} {v:V} {u:Value} {Q:Unit->Shared->Prop} (I:Inv X Z σ H s) (hN:X.N.Nodup) (hi:X.N[i]?=some x) (hx:Loc X.env.scope x) (r:RelV v u)
 (h:∀ s',Inv X Z (σ.set i (some v)) H s'->(∃ a,Heap.SameBut a s.heap s'.heap/\(a=X.env.locals∨X.env.cells.lookup x=some a))->Q () s') (hf:X.fn x=true∨X.env.scope.names.lookup x=some .local:=by first|exact .inl rfl|exact .inr rfl|assumption):wpAny M A (storeName X.env x u) Q E s:=by
 obtain ⟨m,hn,hl⟩:=id I.loc
 have hcls:(X.env.scope.kind == .class || (X.env.scope.kind == .module && X.env.locals != X.env.globals))=false:=by rw [I.ok.kind];rfl
 have hiσ:i<σ.length:=by rw [I.len];exact (List.getElem?_eq_some_iff.mp hi).1
 have cne:=I.cne
 have tracked:∀ {a:Addr} {h':Heap},(∃ o,s.heap.get? a=some o/\H a=none)->Heap.SameBut a s.heap h'->iK X.prog X.w H h':=fun {a h'} ha hs b ob e=>by
  obtain ⟨_,_,hfree⟩:=ha
  refine (I.hok b ob e).stay (fun c w' hc q=>(hs.2 c ?_).trans q) (fun _ q=>q) fun _ _ q=>q
  rintro rfl
  rcases hc with rfl|hc
  ·rw [hfree] at e;cases e
  ·rw [hfree] at hc;cases hc
 rcases hx with hk|hk
 ·refine wpAny_storeName_local hk hn (fun h' hn' hs=>?_) hcls
  obtain ⟨oL,_,_,hoL,_⟩:=id hn
  refine h _ ⟨I.ok,I.os,I.bare,⟨fun b o e n hb hx=>?_,fun b o e n hb hx=>?_,I.base.free,fun b o e hx=>?_,I.base.tups,I.base.frzs,I.base.tbls⟩,⟨_,hn',fun j y v' e1 e2 e3=>?_⟩,fun y c e=>?_,I.free,I.freeC,fun p hp=>?_,tracked ⟨oL,hoL,I.free⟩ hs,by simpa using I.len⟩ ⟨_,hs,.inl rfl⟩
  ·exact (hs.2 b (Nat.ne_of_lt (Nat.lt_of_lt_of_le (Heap.lt_size e) I.ok.above))).trans (I.base.keep b o e n hb hx)
  ·obtain ⟨sl,e1⟩:=I.base.slot b o e n hb hx
   exact ⟨sl,(hs.2 b (Nat.ne_of_lt (Nat.lt_of_lt_of_le (Heap.lt_size e) I.ok.above))).trans e1⟩
  ·obtain ⟨o',e1⟩:=I.base.there b o e hx
   exact ⟨o',(hs.2 b (Nat.ne_of_lt (Nat.lt_of_lt_of_le (Heap.lt_size e) I.ok.above))).trans e1⟩
  ·by_cases hj:j=i
   ·subst hj
    rw [hi] at e1;cases e1
    rw [List.getElem?_set_self hiσ] at e2
    cases e2
    exact ⟨u,r,.inl ⟨hk,by simp⟩⟩
   ·rw [List.getElem?_set_ne (Ne.symm hj)] at e2
    obtain ⟨u',r',q⟩:=hl j y v' e1 e2 e3
    refine ⟨u',r',?_⟩
    rcases q with ⟨k,e⟩|⟨k,c,e,z⟩
    ·refine .inl ⟨k,?_⟩
     have:y≠x:=fun e=>hj (jR hN e1 (e ▸ hi))
     simp [this,e]
    ·exact .inr ⟨k,c,e,z.sameBut hs (cne y c e)⟩
  ·obtain ⟨w',z⟩:=I.cell y c e
   exact ⟨w',z.sameBut hs (cne y c e)⟩
  ·obtain ⟨e,n,ne,nf,d⟩:=I.pin p hp
   exact ⟨(hs.2 p.1 ne).trans e,n,ne,nf,d⟩
 ·have hfn:X.fn x=true:=by
   rcases hf with z|z
   ·exact z
   ·rw [z] at hk;cases hk
  obtain ⟨c,hc⟩:=I.ok.has x (.inl hk)
  obtain ⟨w',z⟩:=I.cell x c hc
  refine wpAny_storeName_cell I.ok.kind hk hc z (fun h' hc' hs=>?_)
  obtain ⟨oc,hoc,hocd⟩:=id z
  refine h { s with heap:=h' } ⟨I.ok,I.os,I.bare,⟨fun b o e n hb hx=>?_,fun b o e n hb hx=>?_,I.base.free,fun b o e hx=>?_,I.base.tups,I.base.frzs,I.base.tbls⟩,⟨m,hn.sameBut hs (Ne.symm (cne x c hc)),fun j y v' e1 e2 e3=>?_⟩,fun y c' e=>?_,I.free,I.freeC,fun p hp=>?_,tracked ⟨oc,hoc,I.freeC x c hc⟩ hs,by simpa using I.len⟩ ⟨c,hs,.inr hc⟩
  ·exact (hs.2 b (Nat.ne_of_lt (Nat.lt_of_lt_of_le (Heap.lt_size e) (I.ok.cab x c hfn hc)))).trans (I.base.keep b o e n hb hx)
  ·obtain ⟨sl,e1⟩:=I.base.slot b o e n hb hx
   exact ⟨sl,(hs.2 b (Nat.ne_of_lt (Nat.lt_of_lt_of_le (Heap.lt_size e) (I.ok.cab x c hfn hc)))).trans e1⟩
  ·obtain ⟨o',e1⟩:=I.base.there b o e hx
   exact ⟨o',(hs.2 b (Nat.ne_of_lt (Nat.lt_of_lt_of_le (Heap.lt_size e) (I.ok.cab x c hfn hc)))).trans e1⟩
  ·by_cases hj:j=i
   ·subst hj
    rw [hi] at e1;cases e1
    rw [List.getElem?_set_self hiσ] at e2
    cases e2
    exact ⟨u,r,.inr ⟨.inl hk,c,hc,hc'⟩⟩
   ·rw [List.getElem?_set_ne (Ne.symm hj)] at e2
    obtain ⟨u',r',q⟩:=hl j y v' e1 e2 e3
    refine ⟨u',r',?_⟩
    rcases q with q|⟨k,c',e,z'⟩
    ·exact .inl q
    ·refine .inr ⟨k,c',e,z'.sameBut hs ?_⟩
     rintro rfl
     exact hj (jR hN e1 (I.ok.inj _ _ _ e hc ▸ hi))
  ·by_cases hcc:c'=c
   ·subst hcc;exact ⟨_,hc'⟩
   ·obtain ⟨w2,z2⟩:=I.cell y c' e
    exact ⟨w2,z2.sameBut hs hcc⟩
  ·obtain ⟨e,n,ne,nf,d⟩:=I.pin p hp
   refine ⟨(hs.2 p.1 ?_).trans e,n,ne,nf,d⟩
   intro q
   rw [q,hoc] at e
   have q':oc=p.2:=Option.some.inj e
   exact d w' (by rw [← q'];exact hocd)
theorem ik (I:Inv X Z σ H s) (hN:X.N.Nodup) (hi:X.N[i]?=some x) (hx:Loc X.env.scope x) (r:RelV v u)
 (h:∀ s',Inv X Z (σ.set i (some v)) H s'->Q () s') (hf:X.fn x=true∨X.env.scope.names.lookup x=some .local:=by first|exact .inl rfl|exact .inr rfl|assumption):wpAny M A (storeName X.env x u) Q E s:=
 nW I hN hi hx r (fun s' I' _=>h s' I') hf
theorem Inv.call' (I:Inv X Z σ H s) (ho:s'.os=s.os) (u:Un (frs X.stack) ch H H' s.heap s'.heap) (hok:iK X.prog X.w H' s'.heap) (hg:AllBare s'.gens)
 (hch:∀ b∈ch,(b∈X.ex∨X.s₀.heap.objs.size≤b)/\b≠X.env.locals/\(∀ x c,X.env.cells.lookup x=some c->c≠b)/\∀ p∈X.pn++Z,p.1≠b):Inv X Z σ H' s':=by
 obtain ⟨h',g',d',t',o'⟩:=s'
 have e:o'=s.os:=ho
 subst e
 exact I.call (g':=g') (t':=t') (d':=d') u hok hg hch
end
abbrev XK:=Value->Option Addr->Hp->Prop
abbrev St:=List (Option V)
abbrev VK:=V->Hp->Prop
abbrev TE:=St->Hp->VK->Prop
abbrev TT:=St->Hp->(Bool->Hp->Prop)->Prop
abbrev TA:=St->Hp->(List V->Hp->Prop)->Prop
structure Ends where
 nx:St->Hp->Prop
 rt:VK
 bk:St->Hp->Prop:=fun _ _=>False
 ct:St->Hp->Prop:=fun _ _=>False
abbrev TS:=Ends->St->Hp->Prop
def EP (X:Cx) (Z:List (Addr×Obj)) (σ:St) (Q:VK) (u:Value) (s':Shared):Prop:=∃ v H',Inv X Z σ H' s'/\RelV v u/\Q v H'
def TP (X:Cx) (Z:List (Addr×Obj)) (σ:St) (Q:Bool->Hp->Prop) (b:Bool) (s':Shared):Prop:=∃ H',Inv X Z σ H' s'/\Q b H'
def AP (X:Cx) (Z:List (Addr×Obj)) (σ:St) (Q:List V->Hp->Prop) (us:List Value) (s':Shared):Prop:=∃ vs H',Inv X Z σ H' s'/\Vals vs us/\Q vs H'
def SP (X:Cx) (Z:List (Addr×Obj)) (D:Ends) (f:Flow) (s':Shared):Prop:=
 match f with
 |.next=>∃ σ' H',Inv X Z σ' H' s'/\D.nx σ' H'
 |.brk=>∃ σ' H',Inv X Z σ' H' s'/\D.bk σ' H'
 |.cont=>∃ σ' H',Inv X Z σ' H' s'/\D.ct σ' H'
 |.ret u=>∃ v σ' H',Inv X Z σ' H' s'/\RelV v u/\D.rt v H'
def PE (X:Cx) (e:Expr) (t:TE):Prop:=
 ∀ (Z:List (Addr×Obj)) (s:Shared) (σ:St) (H:Hp) (Q:VK),Inv X Z σ H s->t σ H Q->wpAny (model X.prog X.w) X.A (eval e X.env) (EP X Z σ Q) X.xe s
def PT (X:Cx) (e:Expr) (t:TT):Prop:=
 ∀ (Z:List (Addr×Obj)) (s:Shared) (σ:St) (H:Hp) (Q:Bool->Hp->Prop),Inv X Z σ H s->t σ H Q->wpAny (model X.prog X.w) X.A (isTrue e X.env (eval e X.env)) (TP X Z σ Q) X.xe s
def PW (X:Cx) (e:Expr) (t:TT):Prop:=
 ∀ (whole:Sem Value) (Z:List (Addr×Obj)) (s:Shared) (σ:St) (H:Hp) (Q:Bool->Hp->Prop),Inv X Z σ H s->t σ H Q->wpAny (model X.prog X.w) X.A (isTrue e X.env whole) (TP X Z σ Q) X.xe s
theorem PW.pt (h:PW X e t):PT X e t:=h _
def PA (X:Cx) (es:List Expr) (t:TA):Prop:=
 ∀ (pos:Pos) (Z:List (Addr×Obj)) (s:Shared) (σ:St) (H:Hp) (Q:List V->Hp->Prop),Inv X Z σ H s->t σ H Q->wpAny (model X.prog X.w) X.A (spliced (backTo pos (starEach es X.env))) (AP X Z σ Q) X.xe s
def PS (X:Cx) (st:Stmt) (t:TS):Prop:=
 ∀ (Z:List (Addr×Obj)) (s:Shared) (σ:St) (H:Hp) (D:Ends),Inv X Z σ H s->t D σ H->wpAny (model X.prog X.w) X.A (exec st X.env) (SP X Z D) X.xe s
def p7 (X:Cx) (st:List Stmt) (t:TS):Prop:=
 ∀ (Z:List (Addr×Obj)) (s:Shared) (σ:St) (H:Hp) (D:Ends),Inv X Z σ H s->t D σ H->wpAny (model X.prog X.w) X.A (execs st X.env) (SP X Z D) X.xe s
theorem b_ {α:Type} {t:Sem α} {Q Q':α->Shared->Prop} {M:Model} {A:Around} {E:Value->Shared->Prop} {s:Shared} (h:wpAny M A t Q E s) (hQ:∀ a s,Q a s->Q' a s):wpAny M A t Q' E s:=wpAny_mono h hQ fun _ _ x=>x
section
variable {X:Cx}
theorem bin {a b:Expr} {ta tb:TE} (ha:PE X a ta) (hb:PE X b tb) {Z:List (Addr×Obj)} {s:Shared} {σ:St} {H:Hp} {R:V->V->Hp->Prop} (I:Inv X Z σ H s) (h:ta σ H fun x H1=>tb σ H1 fun y H2=>R x y H2)
 {α:Type} {Q:α->Shared->Prop} {f:Value->Value->Sem α}
 (hf:∀ v u s2 x y H2,Inv X Z σ H2 s2->RelV x v->RelV y u->R x y H2->wpAny (model X.prog X.w) X.A (f v u) Q X.xe s2) :
 wpAny (model X.prog X.w) X.A (eval a X.env) (fun v s₁=>wpAny (model X.prog X.w) X.A (eval b X.env) (fun u s₂=>wpAny (model X.prog X.w) X.A (f v u) Q X.xe s₂) X.xe s₁) X.xe s:=by
 refine b_ (ha Z s σ H _ I h) fun v s1 ⟨x,H1,I1,r1,q1⟩=>?_
 refine b_ (hb Z s1 σ H1 _ I1 q1) fun u s2 ⟨y,H2,I2,r2,q2⟩=>?_
 exact hf v u s2 x y H2 I2 r1 r2 q2
def wU (i:Nat):TE:=fun σ H Q=>∃ v,σ[i]?=some (some v)/\Q v H
def tC (v:V):TE:=fun _ H Q=>Q v H
theorem G5 (hN:X.N[i]?=some x) (hv:Jc X.env.scope x) (hd:(x == ("__debug__" : Str))=false:=by decide) (hcd:(x == ("__classdict__" : Str))=false:=by decide):PE X (.Name x pos) (wU i):=by
 intro Z s σ H Q I h
 obtain ⟨v,e,h⟩:=h
 obtain ⟨m,hn,hl⟩:=I.loc
 obtain ⟨u,r,l⟩:=hl i x v hN e hv
 have fin:EP X Z σ Q u s:=⟨v,H,I,r,h⟩
 rcases l with ⟨hk,hm⟩|⟨hk,c,hc,hcell⟩
 ·exact wpAny_Name (wpAny_loadName_local I.ok.kind hk hn hm fin) hd
 ·rcases hk with hk|hk
  ·exact wpAny_Name (wpAny_loadName_cell I.ok.kind hk hc hcell fin) hd
  ·exact wpAny_Name (wpAny_loadName_free I.ok.kind hk hc hcell fin hcd) hd
theorem au {i j pos}:PE X (.Constant (.int i) j pos) (tC (.int i)):=fun _ _ _ H _ I h=>wpAny_Constant_int ⟨.int i,H,I.tok _,⟨_,rfl⟩,h⟩
theorem eX {b j pos}:PE X (.Constant (.bool b) j pos) (tC (.bl b)):=fun _ _ _ H _ I h=>Constant_bool ⟨.bl b,H,I,rfl,h⟩
theorem mL {j pos}:PE X (.Constant .none j pos) (tC .non):=fun _ _ _ H _ I h=>Constant_none ⟨.non,H,I,rfl,h⟩
theorem aF {x j pos}:PE X (.Constant (.str x) j pos) (tC (.str x)):=fun _ _ _ H _ I h=>Calls.Constant_str ⟨.str x,H,I.tok _,⟨_,rfl⟩,h⟩
def Gl (X:Cx) (x:Str):Prop:=X.env.kindOf x=some .globalImplicit
theorem jf (I:Inv X Z σ H s) (hg:Gl X x) (hm:X.mg x=some u) (h:Q u s)
 (hd:(x == ("__debug__" : Str))=false:=by decide):wpAny (model X.prog X.w) X.A (eval (.Name x pos) X.env) Q E s:=
 Calls.Name_function_global I.ok.kind hg (Calls.loadGlobal_global (by rw [I.ok.glob];exact I.mod.glob.keeps I.bk) hm h) hd
theorem fG (I:Inv X Z σ H s) (hg:Gl X x) (hm:X.mg x=none) (hv:bootBuiltins x=some u) (h:Q u s)
 (hn:x ≠ "__name__":=by decide) (hd:(x == ("__debug__" : Str))=false:=by decide):wpAny (model X.prog X.w) X.A (eval (.Name x pos) X.env) Q E s:=by
 obtain ⟨mb,h1,h2⟩:=I.mod.blt
 exact Calls.Name_function_global I.ok.kind hg (Calls.loadGlobal_builtin (by rw [I.ok.glob];exact I.mod.glob.keeps I.bk) hm (by rw [I.ok.blt];exact h1.keeps I.bk) ((h2 x hn).trans hv) h) hd
theorem bW (hg:Gl X x) (hm:X.mg x=some u) (r:RelV v u) (hd:(x == ("__debug__" : Str))=false:=by decide):PE X (.Name x pos) (tC v):=
 fun _ _ _ H _ I h=>jf I hg hm ⟨v,H,I,r,h⟩ hd
theorem Bu (hg:Gl X x) (hm:X.mg x=none) (hv:bootBuiltins x=some u) (r:RelV v u) (hn:x ≠ "__name__":=by decide) (hd:(x == ("__debug__" : Str))=false:=by decide):PE X (.Name x pos) (tC v):=
 fun _ _ _ H _ I h=>fG I hg hm hv ⟨v,H,I,r,h⟩ hn hd
def PC (X:Cx) (op:CmpOp) (a b:Expr) (t:TE):Prop:=
 ∀ (Z:List (Addr×Obj)) (s:Shared) (σ:St) (H:Hp) (Q:VK),Inv X Z σ H s->t σ H Q->
   wpAny (model X.prog X.w) X.A (eval a X.env) (fun v s₁=>wpAny (model X.prog X.w) X.A (eval b X.env) (fun u s₂=>wpAny (model X.prog X.w) X.A (compareOp op v u) (EP X Z σ Q) X.xe s₂) X.xe s₁) X.xe s
def tB (t:TE):TT:=fun σ H Q=>t σ H fun x H1=>∃ c,x=.bl c/\Q c H1
theorem Uo {op:CmpOp} {t:TE} (h:PC X op a b t) (h1:behindInMarks op b=false:=by first|exact nobehind _ (by decide) (by decide)|rfl):PT X (.Compare a [op] [b] pos) (tB t):=by
 intro Z s σ H Q I hw
 refine wpAny_isTrue_Compare1 (b_ (h Z s σ H _ I hw) fun v s1 h1=>b_ h1 fun u s2 h2=>b_ h2 fun c s3 ⟨x,H1,I1,r1,q1⟩=>?_) h1
 obtain ⟨d,rfl,q⟩:=q1
 cases r1
 exact wpAny_truthy_bool ⟨H1,I1,q⟩
theorem cD {e:Expr} {t:TE} (h:PE X e t) (he:∀ whole,isTrue e X.env whole=(do let v ← whole;standAt e.pos;holding [v] (truthy v)):=by intro _;rfl):PT X e (tB t):=by
 intro Z s σ H Q I hw
 refine isTrue_plain (b_ (h Z s σ H _ I hw) fun v s1 ⟨x,H1,I1,r1,q1⟩=>?_) (he _)
 obtain ⟨d,rfl,q⟩:=q1
 cases r1
 exact wpAny_truthy_bool ⟨H1,I1,q⟩
def SX (t u:TT):TT:=fun σ H Q=>t σ H fun c H1=>if c=true then u σ H1 Q else Q false H1
def W0 (t u:TT):TT:=fun σ H Q=>t σ H fun c H1=>if c=true then Q true H1 else u σ H1 Q
def JS (t:TT):TT:=fun σ H Q=>t σ H fun c H1=>Q (!c) H1
theorem pJ (ha:PT X a tA):PW X (.BoolOp .And [a] pos) tA:=by
 intro wh Z s σ H Q I h
 refine isTrue_and (b_ (ha Z s σ H Q I h) fun c s1 e=>?_)
 cases c with
 |true=>exact isTrue_and_nil e
 |false=>exact e
theorem fH (ha:PT X a tA):PW X (.BoolOp .Or [a] pos) tA:=by
 intro wh Z s σ H Q I h
 refine isTrue_or (b_ (ha Z s σ H Q I h) fun c s1 e=>?_)
 cases c with
 |false=>exact isTrue_or_nil e
 |true=>exact e
theorem o_ {a b:Expr} {pos:Pos} {tA tB':TT} {rest:List Expr} (ha:PT X a tA) (hb:PW X (.BoolOp .And (b::rest) pos) tB'):PW X (.BoolOp .And (a::b::rest) pos) (SX tA tB'):=by
 intro wh Z s σ H Q I h
 refine isTrue_and (b_ (ha Z s σ H _ I h) fun c s1 ⟨H1,I1,q1⟩=>?_)
 cases c with
 |true=>exact hb wh Z s1 σ H1 Q I1 q1
 |false=>exact ⟨H1,I1,q1⟩
theorem gM {a b:Expr} {pos:Pos} {tA tB':TT} {rest:List Expr} (ha:PT X a tA) (hb:PW X (.BoolOp .Or (b::rest) pos) tB'):PW X (.BoolOp .Or (a::b::rest) pos) (W0 tA tB'):=by
 intro wh Z s σ H Q I h
 refine isTrue_or (b_ (ha Z s σ H _ I h) fun c s1 ⟨H1,I1,q1⟩=>?_)
 cases c with
 |true=>exact ⟨H1,I1,q1⟩
 |false=>exact hb wh Z s1 σ H1 Q I1 q1
theorem du (ha:PT X a tA):PT X (.UnaryOp .Not a pos) (JS tA):=by
 intro Z s σ H Q I h
 exact isTrue_not (ha Z s σ H (fun c H1=>Q (!c) H1) I h)
def O1 (ta tb:TE):TE:=fun σ H Q=>ta σ H fun x H1=>∃ c,x=.bl c/\if c=true then tb σ H1 Q else Q (.bl false) H1
def Vk (ta tb:TE):TE:=fun σ H Q=>ta σ H fun x H1=>∃ c,x=.bl c/\if c=true then Q (.bl true) H1 else tb σ H1 Q
def Ma (ta:TE):TE:=fun σ H Q=>ta σ H fun x H1=>∃ c,x=.bl c/\Q (.bl (!c)) H1
theorem dw {op} (h:PE X a t):PE X (.BoolOp op [a] pos) t:=fun Z s σ H Q I hw=>BoolOp_one (h Z s σ H Q I hw)
theorem c7 {a b:Expr} {ta tb:TE} {pos:Pos} {rest:List Expr} (ha:PE X a ta) (hb:PE X (.BoolOp .And (b::rest) pos) tb):PE X (.BoolOp .And (a::b::rest) pos) (O1 ta tb):=by
 intro Z s σ H Q I h
 refine BoolOp_and (b_ (ha Z s σ H _ I h) fun v s1 ⟨x,H1,I1,r1,q1⟩=>?_)
 obtain ⟨c,rfl,q1⟩:=q1
 cases r1
 refine wpAny_truthy_bool ?_
 cases c with
 |true=>exact hb Z s1 σ H1 Q I1 q1
 |false=>exact ⟨.bl false,H1,I1,rfl,q1⟩
theorem Ck {a b:Expr} {ta tb:TE} {pos:Pos} {rest:List Expr} (ha:PE X a ta) (hb:PE X (.BoolOp .Or (b::rest) pos) tb):PE X (.BoolOp .Or (a::b::rest) pos) (Vk ta tb):=by
 intro Z s σ H Q I h
 refine BoolOp_or (b_ (ha Z s σ H _ I h) fun v s1 ⟨x,H1,I1,r1,q1⟩=>?_)
 obtain ⟨c,rfl,q1⟩:=q1
 cases r1
 refine wpAny_truthy_bool ?_
 cases c with
 |false=>exact hb Z s1 σ H1 Q I1 q1
 |true=>exact ⟨.bl true,H1,I1,rfl,q1⟩
theorem yH (ha:PE X a ta):PE X (.UnaryOp .Not a pos) (Ma ta):=by
 intro Z s σ H Q I h
 refine UnaryOp_ (b_ (ha Z s σ H _ I h) fun v s1 ⟨x,H1,I1,r1,q1⟩=>?_)
 obtain ⟨c,rfl,q1⟩:=q1
 cases r1
 exact not_of (wpAny_truthy_bool ⟨.bl (!c),H1,I1,rfl,q1⟩)
def W8 (t:TT) (ta tb:TE):TE:=fun σ H Q=>t σ H fun c H1=>if c=true then ta σ H1 Q else tb σ H1 Q
theorem gJ {c:Expr} (hc:PT X c tA) (ha:PE X a ta) (hb:PE X b tb):PE X (.IfExp c a b pos) (W8 tA ta tb):=by
 intro Z s σ H Q I h
 refine wpAny_IfExp (b_ (hc Z s σ H _ I h) fun d s1 ⟨H1,I1,q1⟩=>?_)
 cases d with
 |true=>exact ha Z s1 σ H1 Q I1 q1
 |false=>exact hb Z s1 σ H1 Q I1 q1
end
def bJ (K:PySem.W.Frag) (H:Hp) (a:Addr) (xs:List V):Prop:=
 Rd H a (.lst xs)∨
  ∃ (o:Obj) (its:Array Value) (n:Nat),K.lookup a=some o/\o.cls=.type "list"/\o.dict=none/\o.data=.seq its n/\its.size≤sizeLine/\Vals xs its.toList
def bB (K:PySem.W.Frag) (H:Hp) (a:Addr) (xs:List V):Prop:=
 Rd H a (.tup xs)∨
  ∃ (o:Obj) (its:Array Value) (n:Nat),K.lookup a=some o/\o.cls=.type "tuple"/\o.data=.seq its n/\its.size≤sizeLine/\Vals xs its.toList
def Ud:Value->Option V
 |.none=>some .non
 |.bool b=>some (.bl b)
 |.int i _=>some (.int i)
 |.str x _=>some (.str x)
 |.bytes b _=>some (.byt b)
 |.float b _=>some (.flt b)
 |.ref a=>some (.ref a)
 |.type n=>some (.ty n)
 |_=>none
theorem RelV.abs (r:RelV x u):Ud u=some x:=by
 cases x with
 |non=>cases r;rfl
 |bl _=>cases r;rfl
 |int _=>obtain ⟨t,rfl⟩:=r;rfl
 |str _=>obtain ⟨t,rfl⟩:=r;rfl
 |byt _=>obtain ⟨t,rfl⟩:=r;rfl
 |flt _=>obtain ⟨t,rfl⟩:=r;rfl
 |ref _=>cases r;rfl
 |ty _=>cases r;rfl
theorem RelV.inj (r:RelV x u) (q:RelV y u):x=y:=Option.some.inj (r.abs.symm.trans q.abs)
theorem Vals.inj:∀ {xs ys:List V} {us:List Value},Vals xs us->Vals ys us->xs=ys
 |_,_,_,.nil,.nil=>rfl
 |_,_,_,.cons r t,.cons r' t'=>by rw [r.inj r',Vals.inj t t']
theorem bJ.of {H:Hp} {K:PySem.W.Frag} (h:H a=some (.lst xs)):bJ K H a xs:=.inl (.inl h)
theorem bB.of {H:Hp} {K:PySem.W.Frag} (h:H a=some (.tup xs)):bB K H a xs:=.inl (.inl h)
theorem Inv.list (I:Inv X Z σ H s) (h:bJ X.K H a xs):∃ its:List Value,Vals xs its/\PlainL s.heap a its.toArray/\xs.length≤sizeLine:=by
 rcases h with h|⟨o,its,n,hk,hc,hd,hs,hz,r⟩
 ·obtain ⟨z,its,n,r,e⟩:=h.ok I.hok
  exact ⟨its,r,⟨_,n,e,rfl,rfl,rfl⟩,z⟩
 ·refine ⟨its.toList,r,⟨o,n,I.kIn a o hk,hc,hd,by simpa using hs⟩,?_⟩
  have e:=r.length
  simp only [Array.length_toList] at e
  omega
theorem Inv.tuple (I:Inv X Z σ H s) (h:bB X.K H a xs):∃ its:List Value,Vals xs its/\IsTup s.heap a its.toArray/\xs.length≤sizeLine:=by
 rcases h with h|⟨o,its,n,hk,hc,hs,hz,r⟩
 ·obtain ⟨z,its,r,p⟩:=h.ok I.hok
  exact ⟨its,r,p,z⟩
 ·refine ⟨its.toList,r,⟨o,I.kIn a o hk,hc,n,by simpa using hs⟩,?_⟩
  have e:=r.length
  simp only [Array.length_toList] at e
  omega
theorem Inv.list_inj (I:Inv X Z σ H s) (h:bJ X.K H a xs) (h':bJ X.K H a ys):xs=ys:=by
 obtain ⟨its,r,⟨o,n,e,_,_,d⟩,_⟩:=I.list h
 obtain ⟨its',r',⟨o',n',e',_,_,d'⟩,_⟩:=I.list h'
 rw [e] at e';cases e'
 rw [d] at d'
 injection d' with d1 _
 have:its=its':=by simpa using congrArg Array.toList d1
 subst this
 exact r.inj r'
theorem Inv.tuple_inj (I:Inv X Z σ H s) (h:bB X.K H a xs) (h':bB X.K H a ys):xs=ys:=by
 obtain ⟨its,r,⟨o,e,_,n,d⟩,_⟩:=I.tuple h
 obtain ⟨its',r',⟨o',e',_,n',d'⟩,_⟩:=I.tuple h'
 rw [e] at e';cases e'
 rw [d] at d'
 injection d' with d1 _
 have:its=its':=by simpa using congrArg Array.toList d1
 subst this
 exact r.inj r'
abbrev Cx.wish (X:Cx) (E:Value->Shared->Prop):Cx:={ X with xe:=E }
abbrev Cx.nox (X:Cx):Cx:=X.wish fun _ _=>False
theorem Cx.Ok.wish {X:Cx} (ok:X.Ok) (E:Value->Shared->Prop):(X.wish E).Ok:=
 ⟨ok.mod,ok.kind,ok.glob,ok.blt,ok.above,ok.inj,ok.has,ok.cab,ok.hd,ok.frames,ok.stk,ok.exf,ok.bs,ok.bsz,ok.noex,ok.exfs,ok.funs,ok.frf⟩
theorem Cx.Ok.unwish {X:Cx} (ok:(X.wish E).Ok):X.Ok:=
 ⟨ok.mod,ok.kind,ok.glob,ok.blt,ok.above,ok.inj,ok.has,ok.cab,ok.hd,ok.frames,ok.stk,ok.exf,ok.bs,ok.bsz,ok.noex,ok.exfs,ok.funs,ok.frf⟩
theorem Inv.wish {X:Cx} (I:Inv X Z σ H s) (E:Value->Shared->Prop):Inv (X.wish E) Z σ H s:=⟨I.ok.wish E,I.os,I.bare,I.base,I.loc,I.cell,I.free,I.freeC,I.pin,I.hok,I.len⟩
theorem Inv.unwish {X:Cx} (I:Inv (X.wish E) Z σ H s):Inv X Z σ H s:=⟨I.ok.unwish,I.os,I.bare,I.base,I.loc,I.cell,I.free,I.freeC,I.pin,I.hok,I.len⟩
theorem SP.unwish (h:SP (X.wish E) Z D f s'):SP X Z D f s':=by
 cases f with
 |next=>obtain ⟨σ',H',I,q⟩:=h;exact ⟨σ',H',I.unwish,q⟩
 |brk=>obtain ⟨σ',H',I,q⟩:=h;exact ⟨σ',H',I.unwish,q⟩
 |cont=>obtain ⟨σ',H',I,q⟩:=h;exact ⟨σ',H',I.unwish,q⟩
 |ret u=>obtain ⟨v,σ',H',I,r,q⟩:=h;exact ⟨v,σ',H',I.unwish,r,q⟩
theorem p7.nox {X:Cx} {st:List Stmt} {t:TS} (h:p7 X.nox st t):p7 X st t:=fun Z s σ H D I hw=>
 wpAny_mono (h Z s σ H D (I.wish _) hw) (fun _ _ q=>q.unwish) fun _ _ z=>False.elim z
def Ke:TS:=fun D σ H=>D.nx σ H
def OJ (t u:TS):TS:=fun D σ H=>t { D with nx:=u D } σ H
theorem aM:p7 X [] Ke:=fun _ _ σ H _ I h=>wpAny_execs_nil ⟨σ,H,I,h⟩
theorem aq {X:Cx} {st:Stmt} {rest:List Stmt} {t u:TS} (h1:PS X st t) (h2:p7 X rest u):p7 X (st::rest) (OJ t u):=by
 intro Z s σ H D I h
 refine wpAny_execs_cons (b_ (h1 Z s σ H { D with nx:=u D } I h) fun f s1 q=>?_)
 cases f with
 | next=>
   obtain ⟨σ',H',I',q⟩:=q
   exact h2 Z s1 σ' H' D I' q
 |ret v=>exact q
 |brk=>exact q
 |cont=>exact q
theorem aA {X:Cx} {st:Stmt} {t:TS} (h1:PS X st t):p7 X [st] t:=by
 intro Z s σ H D I h
 refine wpAny_execs_cons (b_ (h1 Z s σ H D I h) fun f s1 q=>?_)
 cases f with
 |next=>exact wpAny_execs_nil q
 |ret v=>exact q
 |brk=>exact q
 |cont=>exact q
theorem Inv.quiet (I:Inv X Z σ H s):interactive X.env=false:=by simp [interactive,I.ok.kind]
def Pz (te:TE):TS:=fun D σ H=>te σ H fun _ H1=>D.nx σ H1
theorem cZ {X:Cx} {pos:Pos} (he:PE X e te) (hs:swapsWith e none pos.line X.env=pure false:=by rfl):PS X (.Expr e pos) (Pz te):=by
 intro Z s σ H D I h
 exact wpAny_Expr_any (b_ (he Z s σ H _ I h) fun v s1 ⟨x,H1,I1,r1,q1⟩=>⟨σ,H1,I1,q1⟩) I.quiet hs
def TF (te:TE):TS:=fun D σ H=>te σ H D.rt
theorem aH (he:PE X e te):PS X (.Return (some e) pos) (TF te):=by
 intro Z s σ H D I h
 exact wpAny_Return_some (b_ (he Z s σ H _ I h) fun v s1 ⟨x,H1,I1,r1,q1⟩=>⟨x,σ,H1,I1,r1,q1⟩)
def Lr (c:TT) (t u:TS):TS:=fun D σ H=>c σ H fun b H1=>if b=true then t D σ H1 else u D σ H1
theorem bc {c:Expr} {a b:List Stmt} {tc:TT} (hc:PT X c tc) (ha:p7 X a t) (hb:p7 X b u):PS X (.If c a b pos) (Lr tc t u):=by
 intro Z s σ H D I h
 refine wpAny_If (b_ (hc Z s σ H _ I h) fun d s1 ⟨H1,I1,q1⟩=>?_)
 cases d with
 |true=>exact ha Z s1 σ H1 D I1 q1
 |false=>exact hb Z s1 σ H1 D I1 q1
def Fi:TS:=fun _ _ _=>False
theorem dJ {X:Cx} {st:Stmt}:PS X st Fi:=fun _ _ _ _ _ _ h=>h.elim
abbrev TG:=V->St->Hp->(St->Hp->Prop)->Prop
abbrev Jb:=List V->St->Hp->(St->Hp->Prop)->Prop
def PG (X:Cx) (target:Expr) (t:TG):Prop:=
 ∀ (Z:List (Addr×Obj)) (s:Shared) (σ:St) (H:Hp) (v:V) (u:Value) (Q:St->Hp->Prop),Inv X Z σ H s->RelV v u->t v σ H Q->
   wpAny (model X.prog X.w) X.A (assign target X.env u) (fun _ s'=>∃ σ' H',Inv X Z σ' H' s'/\Q σ' H') X.xe s
def Ru (X:Cx) (ts:List Expr) (t:Jb):Prop:=
 ∀ (Z:List (Addr×Obj)) (s:Shared) (σ:St) (H:Hp) (vs:List V) (us:List Value) (Q:St->Hp->Prop),Inv X Z σ H s->Vals vs us->t vs σ H Q->
   wpAny (model X.prog X.w) X.A (assignInOrder ((assignEach ts X.env).map (·.2)) us) (fun _ s'=>∃ σ' H',Inv X Z σ' H' s'/\Q σ' H') X.xe s
abbrev Up:=V->V->Hp->VK->Prop
def Wq (X:Cx) (op:Operator) (t:Up):Prop:=
 ∀ (Z:List (Addr×Obj)) (s:Shared) (σ:St) (H:Hp) (x y:V) (v u:Value) (Q:VK),Inv X Z σ H s->RelV x v->RelV y u->t x y H Q->
   wpAny (model X.prog X.w) X.A (inplaceOp op v u) (EP X Z σ Q) X.xe s
def bM (i:Nat):TG:=fun v σ H Q=>Q (σ.set i (some v)) H
theorem aR (hN:X.N.Nodup) (hi:X.N[i]?=some x) (hx:Loc X.env.scope x) (hf:X.fn x=true∨X.env.scope.names.lookup x=some .local:=by first|exact .inl rfl|exact .inr rfl|assumption):PG X (.Name x pos) (bM i):=by
 intro Z s σ H v u Q I r h
 exact wpAny_assign_Name (ik I hN hi hx r (fun s' I'=>⟨_,H,I',h⟩) hf)
def Ba:Jb:=fun vs σ H Q=>vs=[]/\Q σ H
def lD (t:TG) (u:Jb):Jb:=fun vs σ H Q=>∃ v r,vs=v::r/\t v σ H fun σ' H'=>u r σ' H' Q
theorem cO:Ru X [] Ba:=by
 intro Z s σ H vs us Q I r h
 obtain ⟨e,h⟩:=h
 subst e
 cases r
 exact assignInOrder_nil ⟨σ,H,I,h⟩
theorem aY {X:Cx} {e:Expr} {es:List Expr} {t:TG} {u:Jb} (h1:PG X e t) (h2:Ru X es u)
 (hs:(assignEach (e::es) X.env).map (·.2)=assign e X.env::(assignEach es X.env).map (·.2):=by rfl):Ru X (e::es) (lD t u):=by
 intro Z s σ H vs us Q I r h
 obtain ⟨v,vr,e1,h⟩:=h
 subst e1
 cases r with
 | cons r rr=>
   rw [hs]
   refine assignInOrder_cons (b_ (h1 Z s σ H _ _ _ I r h) fun _ s1 ⟨σ1,H1,I1,q1⟩=>?_)
   exact h2 Z s1 σ1 H1 _ _ Q I1 rr q1
def Ar (K:PySem.W.Frag) (n:Nat) (t:Jb):TG:=fun v σ H Q=>∃ a xs,v=.ref a/\bB K H a xs/\xs.length=n/\t xs σ H Q
theorem dH (hc:X.calm=true) (h:Ru X es t)
 (hn:(assignEach es X.env).length=n:=by rfl) (hst:(assignEach es X.env).findIdx? (·.1)=none:=by rfl):PG X (.Tuple es k pos) (Ar X.K n t):=by
 intro Z s σ H v u Q I r hw
 obtain ⟨a,xs,e1,hq,hl,hw⟩:=hw
 subst e1
 cases r
 obtain ⟨its,rv,ht,hz⟩:=I.tuple hq
 refine assign_Tuple_tuple (I.ok.hd hc) ht (by simp [hn,← hl,rv.length]) hst fun h' hx=>?_
 have I1:Inv X Z σ H { s with heap:=h' }:=I.kept (t':=s.toks) fun b o e=>hx b o (Nat.ne_of_lt (Heap.lt_size e)) e
 exact h Z _ σ H xs _ Q I1 (by simpa using rv) hw
def GJ (te:TE) (g:TG):TS:=fun D σ H=>te σ H fun x H1=>g x σ H1 D.nx
theorem jF {X:Cx} {pos:Pos} {tg e:Expr} {te:TE} {g:TG} (he:PE X e te) (hg:PG X tg g) (hs:swapsWithSole [tg] e pos.line X.env=pure false:=by rfl) (hw:swappedStores [tg] e X.env=pure none:=by rfl)
 (h1:(assignEach [tg] X.env).map (·.2)=[assign tg X.env]:=by rfl):PS X (.Assign [tg] e pos) (GJ te g):=by
 intro Z s σ H D I h
 refine wpAny_Assign_stores (b_ (he Z s σ H _ I h) fun v s1 ⟨x,H1,I1,r1,q1⟩=>?_) hs hw
 rw [h1]
 exact b_ (hg Z s1 σ H1 x v _ I1 r1 q1) fun _ s2 q=>q
theorem bj {X:Cx} {pos:Pos} {i:Nat} {x:Str} {e:Expr} {te:TE} {pos':Pos} (hN:X.N.Nodup) (hi:X.N[i]?=some x) (hx:Loc X.env.scope x) (he:PE X e te) (hs:swapsWith e (some (.Name x pos')) pos.line X.env=pure false:=by rfl) (hf:X.fn x=true∨X.env.scope.names.lookup x=some .local:=by first|exact .inl rfl|exact .inr rfl|assumption) :
 PS X (.Assign [.Name x pos'] e pos) (GJ te (bM i)):=by
 intro Z s σ H D I h
 refine wpAny_Assign_Name (b_ (he Z s σ H _ I h) fun v s1 ⟨y,H1,I1,r1,q1⟩=>?_) hs
 exact ik I1 hN hi hx r1 (fun s2 I2=>⟨_,H1,I2,q1⟩) hf
def U5 (i:Nat) (te:TE) (ti:Up):TS:=fun D σ H=>∃ x,σ[i]?=some (some x)/\te σ H fun y H1=>ti x y H1 fun z H2=>D.nx (σ.set i (some z)) H2
theorem Dv {X:Cx} {i:Nat} {x:Str} {e:Expr} {te:TE} {op:Operator} {ti:Up} {pos':Pos} (hN:X.N.Nodup) (hi:X.N[i]?=some x) (hx:Loc X.env.scope x) (he:PE X e te) (ho:Wq X op ti) (hf:X.fn x=true∨X.env.scope.names.lookup x=some .local:=by first|exact .inl rfl|exact .inr rfl|assumption) :
 PS X (.AugAssign (.Name x pos') op e pos) (U5 i te ti):=by
 intro Z s σ H D I h
 obtain ⟨v,e1,h⟩:=h
 obtain ⟨m,hn,hl⟩:=I.loc
 have vis:Jc X.env.scope x:=by rcases hx with k|k;exact .inl k;exact .inr (.inl k)
 obtain ⟨u,r,l⟩:=hl i x v hi e1 vis
 refine wpAny_AugAssign_Name ?_
 have go:wpAny (model X.prog X.w) X.A (eval e X.env) (fun w s₂=>wpAny (model X.prog X.w) X.A (inplaceOp op u w) (fun r s₃=>wpAny (model X.prog X.w) X.A (storeName X.env x r) (fun _=>SP X Z D .next) X.xe s₃) X.xe s₂) X.xe s:=by
  refine b_ (he Z s σ H _ I h) fun w s1 ⟨y,H1,I1,r1,q1⟩=>?_
  refine b_ (ho Z s1 σ H1 v y u w _ I1 r r1 q1) fun z s2 ⟨zv,H2,I2,r2,q2⟩=>?_
  exact ik I2 hN hi hx r2 (fun s3 I3=>⟨_,H2,I3,q2⟩) hf
 rcases l with ⟨hk,hm⟩|⟨hk,c,hc,hcell⟩
 ·exact wpAny_loadName_local I.ok.kind hk hn hm go
 ·rcases hk with hk|hk
  ·exact wpAny_loadName_cell I.ok.kind hk hc hcell go
  ·rcases hx with k|k
   ·have:X.env.scope.names.lookup x=some .free:=hk
    rw [k] at this;cases this
   ·have:X.env.scope.names.lookup x=some .free:=hk
    rw [k] at this;cases this
def xq (c:TT) (tb:TS):TS:=fun D σ H=>∃ W:Nat->St->Hp->Prop,(∃ m,W m σ H)/\∀ m σ H,W m σ H->
 c σ H fun b H1=>if b=true then ∃ N:St->Hp->Prop,(∀ σ' H',N σ' H'->∃ m',m'<m/\W m' σ' H')/\tb { D with nx:=N,ct:=N,bk:=D.nx } σ H1 else D.nx σ H1
theorem yO {X:Cx} {c:Expr} {body:List Stmt} {tc:TT} {tb:TS} (hp:PassesOwn (model X.prog X.w) X.A X.env X.xe) (hc:PT X c tc) (hb:p7 X body tb):PS X (.While c body [] pos) (xq tc tb):=by
 intro Z s σ H D I h
 obtain ⟨W,⟨m0,w0⟩,turn⟩:=h
 refine wpAny_While (codeAny_whileLoop (fun n s'=>∃ σ' H',Inv X Z σ' H' s'/\W n σ' H') ?_ m0 ⟨σ,H,I,w0⟩)
 rintro n s1 ⟨σ1,H1,I1,w1⟩
 refine wpAny_passesOwn hp (b_ (hc Z s1 σ1 H1 _ I1 (turn n σ1 H1 w1)) fun b s2 ⟨H2,I2,q2⟩=>?_)
 cases b with
 | true=>
   obtain ⟨N,hN,q2⟩:=q2
   rw [if_pos rfl]
   refine wpAny_passesOwn hp (b_ (hb Z s2 σ1 H2 _ I2 q2) fun f s3 q3=>?_)
   cases f with
   | next=>
     obtain ⟨σ3,H3,I3,n3⟩:=q3
     obtain ⟨m',hm,w3⟩:=hN σ3 H3 n3
     exact ⟨m',hm,σ3,H3,I3,w3⟩
   | cont=>
     obtain ⟨σ3,H3,I3,n3⟩:=q3
     obtain ⟨m',hm,w3⟩:=hN σ3 H3 n3
     exact ⟨m',hm,σ3,H3,I3,w3⟩
   |brk=>exact q3
   |ret v=>exact q3
 | false=>
   rw [if_neg Bool.false_ne_true]
   exact wpAny_execs_nil ⟨σ1,H2,I2,q2⟩
structure It where
 go:Nat->Hp->Prop
 yld:Nat->Hp->V->Hp->Prop
 stop:Nat->Hp->Prop
def jH (X:Cx) (Z:List (Addr×Obj)) (H:Hp) (b:Addr):Prop:=
 H b=none/\b≠X.env.locals/\b∉X.fs/\(b∈X.ex∨X.s₀.heap.objs.size≤b)/\(∀ x c,X.env.cells.lookup x=some c->c≠b)/\∀ p∈X.pn++Z,p.1≠b
theorem Inv.fpOk (I:Inv X Z σ H s) (hb:s.heap.objs.size≤b) (hn:H' b=none):jH X Z H' b:=by
 refine ⟨hn,Nat.ne_of_gt (Nat.lt_of_lt_of_le I.lt hb),I.nofs hb,.inr (Nat.le_trans I.sz hb),fun x c e z=>?_,fun p hp z=>?_⟩
 ·obtain ⟨v,q⟩:=I.cell x c e
  exact absurd (Nat.lt_of_lt_of_le q.lt (by rw [z];exact hb)) (Nat.lt_irrefl _)
 ·exact absurd (Nat.lt_of_lt_of_le (Heap.lt_size (I.pin p hp).1) (by rw [z];exact hb)) (Nat.lt_irrefl _)
structure Turn (P:Program) (w:World) (K:PySem.W.Frag) (tg:Expr) (J:It) (fp:List Addr) (it:Addr) (tn:Nat->Heap->Prop):Prop where
 mem:it∈fp
 obj:∀ i h,tn i h->∀ b∈fp,∃ o,h.get? b=some o/\∀ v,o.data≠.cell v
 keep:∀ i h h',tn i h->(∀ b∈fp,∀ o,h.get? b=some o->h'.get? b=some o)->tn i h'
 item:∀ (X:Cx),X.prog=P->X.w=w->X.K=K->X.calm=true->∀ (i:Nat) (Z:List (Addr×Obj)) (s:Shared) (σ:St) (H:Hp) (E:Value->Shared->Prop),Inv X Z σ H s->(∀ b∈fp,jH X Z H b)->tn i s.heap->J.go i H->
  wpAny (model P w) X.A (pyNext (.ref it)) (fun r s1=>∃ u,r=some u/\
   wpAny (model P w) X.A (letOwnedTupleGo tg (.ref it) u) (fun _ s2=>∃ x H',Inv X Z σ H' s2/\RelV x u/\J.yld i H x H'/\tn (i+1) s2.heap/\∀ b∈fp,H' b=none) E s1) E s
 done:∀ (X:Cx),X.prog=P->X.w=w->X.K=K->X.calm=true->∀ (i:Nat) (Z:List (Addr×Obj)) (s:Shared) (σ:St) (H:Hp) (E:Value->Shared->Prop),Inv X Z σ H s->(∀ b∈fp,jH X Z H b)->tn i s.heap->J.stop i H->
  wpAny (model P w) X.A (pyNext (.ref it)) (fun r s1=>r=none/\Inv X Z σ H s1) E s
 self:∀ (A:Around) (i:Nat) (s:Shared) (Q:Value->Shared->Prop) (E:Value->Shared->Prop),tn i s.heap->Q (.ref it) s->wpAny (model P w) A (pyIter (.ref it)) Q E s
abbrev TI:=St->Hp->(It->Hp->Prop)->Prop
def PIE (X:Cx) (Z:List (Addr×Obj)) (σ:St) (tg:Expr) (R:It->Hp->Prop) (itv:Value) (s2:Shared):Prop:=
 ∃ (it:Addr) (fp:List Addr) (tn:Nat->Heap->Prop) (J:It) (H':Hp),itv=.ref it/\Inv X Z σ H' s2/\Turn X.prog X.w X.K tg J fp it tn/\tn 0 s2.heap/\(∀ b∈fp,jH X Z H' b)/\R J H'
def PI (X:Cx) (tg iter:Expr) (wi:TI):Prop:=
 ∀ (Z:List (Addr×Obj)) (s:Shared) (σ:St) (H:Hp) (R:It->Hp->Prop),Inv X Z σ H s->wi σ H R->
   wpAny (model X.prog X.w) X.A (eval iter X.env) (fun v s1=>wpAny (model X.prog X.w) X.A (pyIter v) (PIE X Z σ tg R) X.xe s1) X.xe s
theorem qY (ho:s.heap.get? it=some o) (hc:o.cls=.type n) (hd:o.data=.fields vs)
 (hn:["enumerate","zip","dict_itemiterator","dict_reverseitemiterator","odict_iterator","itertools.zip_longest","itertools.pairwise"].contains n=false) (hQ:Q () s):wpAny M A (letOwnedTupleGo tg (.ref it) u) Q E s:=by
 unfold letOwnedTupleGo
 cases tg <;> first
  |exact wpAny_pure hQ
  |(cases u <;> first
   |exact wpAny_pure hQ
   | (refine wpAny_bind (wpAny_load ho ?_)
      rw [hc,hd]
      show wpAny M A (if (["enumerate","zip","dict_itemiterator","dict_reverseitemiterator","odict_iterator","itertools.zip_longest","itertools.pairwise"].contains n && vs[0]? == some (rawInt _))=true then _ else _) Q E s
      rw [if_neg (by intro h;rw [hn,Bool.false_and] at h;cases h)]
      exact wpAny_pure hQ))
def Jh (K:PySem.W.Frag) (a:Addr):It:=
 ⟨fun i H=>∃ xs x,bJ K H a xs/\xs[i]?=some x,fun i H x H'=>H'=H/\∀ xs,bJ K H a xs->xs[i]?=some x,fun i H=>∃ xs,bJ K H a xs/\xs.length≤i⟩
def Ji (K:PySem.W.Frag) (a:Addr):It:=
 ⟨fun i H=>∃ xs x,bB K H a xs/\xs[i]?=some x,fun i H x H'=>H'=H/\∀ xs,bB K H a xs->xs[i]?=some x,fun i H=>∃ xs,bB K H a xs/\xs.length≤i⟩
def Bm (lo:Int) (n:Nat):It:=⟨fun i _=>i<n,fun i H x H'=>H'=H/\x=.int (lo+i),fun i _=>n≤i⟩
theorem vN {P:Program} {w:World} {K:PySem.W.Frag} {tg:Expr} (a it:Addr):Turn P w K tg (Jh K a) [it] it (fun i h=>h.IsListIter it a i) where
 mem:=by simp
 obj:=fun i h st b hb=>by
  have e:b=it:=by simpa using hb
  subst e
  obtain ⟨o,e,c,d⟩:=st
  exact ⟨o,e,fun v z=>by rw [d] at z;cases z⟩
 keep:=fun i h h' st k=>st.at fun o e=>k it (by simp) o e
 item:=by
  intro X hP hw hK hc i Z s σ H E I hf st hg
  subst hP hw hK
  obtain ⟨xs,x,hq,hx⟩:=hg
  obtain ⟨its,rv,p,hz⟩:=I.list hq
  obtain ⟨u,hu,ru⟩:=rv.get hx
  obtain ⟨f0,f1,f2,f3,f4,f5⟩:=hf it (by simp)
  refine wpAny_pyNext_list_item st p.isList (x:=u) (by simpa using hu) fun h' st' sb=>?_
  have I1:Inv X Z σ H { s with heap:=h' }:=I.turned (t':=s.toks) (fun b o hb e=>(sb.2 b hb).trans e) f0 f1 f3 f4 f5
  obtain ⟨o,e,c,d⟩:=id st'
  exact ⟨u,rfl,qY (s:={ s with heap:=h' }) e c d (by decide) ⟨x,H,I1,ru,⟨rfl,fun ys hy=>by rw [I.list_inj hy hq];exact hx⟩,st',fun b hb=>(hf b hb).1⟩⟩
 done:=by
  intro X hP hw hK hc i Z s σ H E I hf st hg
  subst hP hw hK
  obtain ⟨xs,hq,hx⟩:=hg
  obtain ⟨its,rv,p,hz⟩:=I.list hq
  obtain ⟨f0,f1,f2,f3,f4,f5⟩:=hf it (by simp)
  have hl:=rv.length
  exact wpAny_pyNext_list_end (I.ok.hd hc) st p.isList (by simp;omega) fun h' eb=>⟨rfl,I.turned (t':=s.toks) (fun b o hb e=>eb b o hb e) f0 f1 f3 f4 f5⟩
 self:=fun _ _ _ _ _ st h=>wpAny_pyIter_listiter st h
theorem ug {P:Program} {w:World} {K:PySem.W.Frag} {tg:Expr} (a it:Addr):Turn P w K tg (Ji K a) [it] it (fun i h=>h.IsTupleIter it a i) where
 mem:=by simp
 obj:=fun i h st b hb=>by
  have e:b=it:=by simpa using hb
  subst e
  obtain ⟨o,e,c,d⟩:=st
  exact ⟨o,e,fun v z=>by rw [d] at z;cases z⟩
 keep:=fun i h h' st k=>st.at fun o e=>k it (by simp) o e
 item:=by
  intro X hP hw hK hc i Z s σ H E I hf st hg
  subst hP hw hK
  obtain ⟨xs,x,hq,hx⟩:=hg
  obtain ⟨its,rv,p,hz⟩:=I.tuple hq
  obtain ⟨u,hu,ru⟩:=rv.get hx
  obtain ⟨f0,f1,f2,f3,f4,f5⟩:=hf it (by simp)
  refine wpAny_pyNext_tuple_item st (show s.heap.IsTuple a its.toArray from p) (x:=u) (by simpa using hu) fun h' st' sb=>?_
  have I1:Inv X Z σ H { s with heap:=h' }:=I.turned (t':=s.toks) (fun b o hb e=>(sb.2 b hb).trans e) f0 f1 f3 f4 f5
  obtain ⟨o,e,c,d⟩:=id st'
  exact ⟨u,rfl,qY (s:={ s with heap:=h' }) e c d (by decide) ⟨x,H,I1,ru,⟨rfl,fun ys hy=>by rw [I.tuple_inj hy hq];exact hx⟩,st',fun b hb=>(hf b hb).1⟩⟩
 done:=by
  intro X hP hw hK hc i Z s σ H E I hf st hg
  subst hP hw hK
  obtain ⟨xs,hq,hx⟩:=hg
  obtain ⟨its,rv,p,hz⟩:=I.tuple hq
  obtain ⟨f0,f1,f2,f3,f4,f5⟩:=hf it (by simp)
  have hl:=rv.length
  exact wpAny_pyNext_tuple_end (I.ok.hd hc) st (show s.heap.IsTuple a its.toArray from p) (by simp;omega) fun h' eb=>⟨rfl,I.turned (t':=s.toks) (fun b o hb e=>eb b o hb e) f0 f1 f3 f4 f5⟩
 self:=fun _ _ _ _ _ st h=>wpAny_pyIter_tupleiter st h
theorem tZ {P:Program} {w:World} {K:PySem.W.Frag} {tg:Expr} (it:Addr) (lo:Int) (n:Nat):Turn P w K tg (Bm lo n) [it] it (fun i h=>IsRangeIter h it (lo+(i:Nat)*1) ((n:Int)-(i:Nat)) 1) where
 mem:=by simp
 obj:=fun i h st b hb=>by
  have e:b=it:=by simpa using hb
  subst e
  exact ⟨_,st,fun v z=>by
   have z':Data.fields _=Data.cell v:=z
   cases z'⟩
 keep:=fun i h h' st k=>k it (by simp) _ st
 item:=by
  intro X hP hw hK hc i Z s σ H E I hf st hg
  subst hP hw hK
  obtain ⟨f0,f1,f2,f3,f4,f5⟩:=hf it (by simp)
  have W:=Walks.range (prog:=X.prog) (w:=X.w) (I.ok.hd hc) it lo 1 n
  refine W.item i s _ _ hg st fun v h' tk hv st' kk=>?_
  obtain ⟨t,rfl⟩:=hv
  have I1:Inv X Z σ H { s with heap:=h',toks:=tk }:=I.turned (fun b o hb e=>kk b o (by simpa using hb) e) f0 f1 f3 f4 f5
  refine ⟨_,rfl,qY (s:={ s with heap:=h',toks:=tk }) (n:="range_iterator") st' rfl rfl (by decide) ⟨.int (lo+i),H,I1,⟨t,?_⟩,⟨rfl,rfl⟩,st',fun b hb=>(hf b hb).1⟩⟩
  rw [Int.mul_one]
 done:=by
  intro X hP hw hK hc i Z s σ H E I hf st hg
  subst hP hw hK
  obtain ⟨f0,f1,f2,f3,f4,f5⟩:=hf it (by simp)
  exact wpAny_pyNext_range_end (I.ok.hd hc) st (by have:n≤i:=hg;omega) fun h' eb=>⟨rfl,I.turned (t':=s.toks) (fun b o hb e=>eb b o hb e) f0 f1 f3 f4 f5⟩
 self:=fun _ _ _ _ _ st h=>wpAny_pyIter_rangeiter st h
def QM (K:PySem.W.Frag) (tl:TE):TI:=fun σ H R=>tl σ H fun x H1=>∃ a,x=.ref a/\(∃ xs,bJ K H1 a xs)/\R (Jh K a) H1
def TV (K:PySem.W.Frag) (tl:TE):TI:=fun σ H R=>tl σ H fun x H1=>∃ a,x=.ref a/\(∃ xs,bB K H1 a xs)/\R (Ji K a) H1
theorem gO {X:Cx} {l:Expr} {tl:TE} (hl:PE X l tl):PI X tg l (QM X.K tl):=by
 intro Z s σ H R I h
 refine b_ (hl Z s σ H _ I h) fun v s1 ⟨x,H1,I1,r1,q1⟩=>?_
 obtain ⟨a,e,⟨xs,hq⟩,q⟩:=q1
 subst e
 cases r1
 obtain ⟨its,rv,p,hz⟩:=I1.list hq
 refine wpAny_pyIter_list p.isList ?_
 refine ⟨s1.heap.objs.size,[s1.heap.objs.size],_,_,H1,rfl,I1.kept (t':=s1.toks) fun b o e=>Heap.get?_push_of_some _ e,vN a _,⟨_,Heap.get?_push_size _ rfl,rfl,rfl⟩,fun b hb=>?_,q⟩
 have e:b=s1.heap.objs.size:=by simpa using hb
 subst e
 exact I1.fpOk (Nat.le_refl _) (I1.hok.fresh (Nat.le_refl _))
theorem iw {X:Cx} {l:Expr} {tl:TE} (hl:PE X l tl):PI X tg l (TV X.K tl):=by
 intro Z s σ H R I h
 refine b_ (hl Z s σ H _ I h) fun v s1 ⟨x,H1,I1,r1,q1⟩=>?_
 obtain ⟨a,e,⟨xs,hq⟩,q⟩:=q1
 subst e
 cases r1
 obtain ⟨its,rv,p,hz⟩:=I1.tuple hq
 refine wpAny_pyIter_tuple (show s1.heap.IsTuple a its.toArray from p) ?_
 refine ⟨s1.heap.objs.size,[s1.heap.objs.size],_,_,H1,rfl,I1.kept (t':=s1.toks) fun b o e=>Heap.get?_push_of_some _ e,ug a _,⟨_,Heap.get?_push_size _ rfl,rfl,rfl⟩,fun b hb=>?_,q⟩
 have e:b=s1.heap.objs.size:=by simpa using hb
 subst e
 exact I1.fpOk (Nat.le_refl _) (I1.hok.fresh (Nat.le_refl _))
theorem qj {X:Cx} {Z:List (Addr×Obj)} {σ:St} {H:Hp} {s:Shared} {R:It->Hp->Prop} {E:Value->Shared->Prop} {lo hi:Int} {t u v:Tok} {tk:Nat} (I:Inv X Z σ H s) (h1:-(2 ^ 62)≤lo) (h2:lo<2 ^ 62) (h3:-(2 ^ 62)≤hi) (h4:hi<2 ^ 62)
 (q:R (Bm lo (hi-lo).toNat) H):wpAny (model X.prog X.w) X.A (pyIter (.ref s.heap.objs.size)) (PIE X Z σ tg R) E { s with heap:=s.heap.push { cls:=.type "range",data:=.fields #[.int lo t,.int hi u,.int 1 v] },toks:=tk }:=by
 refine wpAny_pyIter_range (IsRange.new ..) (small_one h1 h2 h3 h4) ?_
 have I1:Inv X Z σ H { s with heap:=s.heap.push { cls:=.type "range",data:=.fields #[.int lo t,.int hi u,.int 1 v] },toks:=tk }:=I.kept fun b o e=>Heap.get?_push_of_some _ e
 refine ⟨(s.heap.push { cls:=.type "range",data:=.fields #[.int lo t,.int hi u,.int 1 v] }).objs.size,[(s.heap.push { cls:=.type "range",data:=.fields #[.int lo t,.int hi u,.int 1 v] }).objs.size],_,_,H,rfl,
  I1.kept (t':=tk) fun b o e=>Heap.get?_push_of_some _ e,tZ _ lo (hi-lo).toNat,?_,fun b hb=>?_,q⟩
 ·have e1:lo+((0:Nat):Int)*1=lo:=by simp
  have e2:(((hi-lo).toNat:Nat):Int)-((0:Nat):Int)=Builtin.Range.rangeSize lo hi 1:=by rw [rangeSize_one];split <;> omega
  show IsRangeIter _ _ (lo+((0:Nat):Int)*1) ((((hi-lo).toNat:Nat):Int)-((0:Nat):Int)) 1
  rw [e1,e2]
  exact Heap.get?_push_size _ rfl
 ·have e:b=(s.heap.push { cls:=.type "range",data:=.fields #[.int lo t,.int hi u,.int 1 v] }).objs.size:=by simpa using hb
  subst e
  exact I1.fpOk (Nat.le_refl _) (I1.hok.fresh (Nat.le_refl _))
def JV (ta:TA):TI:=fun σ H R=>ta σ H fun vs H1=>∃ j:Int,vs=[.int j]/\-(2 ^ 62)≤j/\j<2 ^ 62/\R (Bm 0 j.toNat) H1
def Jv (ta:TA):TI:=fun σ H R=>ta σ H fun vs H1=>∃ i j:Int,vs=[.int i,.int j]/\(-(2 ^ 62)≤i/\i<2 ^ 62/\-(2 ^ 62)≤j/\j<2 ^ 62)/\R (Bm i (j-i).toNat) H1
theorem eO {X:Cx} {a:Expr} {ta:TA} {p pos:Pos} (hg:Gl X "range") (hm:X.mg "range" = none) (ha:PA X [a] ta) (hs:starEach [a] X.env=[(false,eval a X.env)]:=by rfl):PI X tg (.Call (.Name "range" p) [a] [] pos) (JV ta):=by
 intro Z s σ H R I h
 refine Call_ (fG I hg hm boot_range (PyProof.Rows.callWith_type1 (b_ (ha pos Z s σ H _ I h) fun us s1 ⟨vs,H1,I1,r1,q1⟩=>?_) hs rfl))
 obtain ⟨j,e,q1,q2,q⟩:=q1
 subst e
 cases r1 with
 | cons r rr=>
   cases rr
   obtain ⟨t,rfl⟩:=r
   exact call_range_1 (qj I1 (by omega) (by omega) q1 q2 (by simpa using q))
theorem wH {X:Cx} {a b:Expr} {ta:TA} {p pos:Pos} (hg:Gl X "range") (hm:X.mg "range" = none) (ha:PA X [a,b] ta) (hs:starEach [a,b] X.env=[(false,eval a X.env),(false,eval b X.env)]:=by rfl) (hs2:starEach [b] X.env=[(false,eval b X.env)]:=by rfl) :
 PI X tg (.Call (.Name "range" p) [a,b] [] pos) (Jv ta):=by
 intro Z s σ H R I h
 refine Call_ (fG I hg hm boot_range (PyProof.Rows.callWith_type1 (b_ (ha pos Z s σ H _ I h) fun us s1 ⟨vs,H1,I1,r1,q1⟩=>?_) (by rw [hs,hs2]) (by rw [hs2];rfl)))
 obtain ⟨i,j,e,⟨q1,q2,q3,q4⟩,q⟩:=q1
 subst e
 cases r1 with
 | cons r rr=>
   cases rr with
   | cons r' rr=>
     cases rr
     obtain ⟨t,rfl⟩:=r
     obtain ⟨t',rfl⟩:=r'
     exact call_range_2 (qj I1 q1 q2 q3 q4 q)
def Uq (wi:TI) (g:TG) (tb:TS):TS:=fun D σ H=>wi σ H fun J H1=>∃ W:Nat->Nat->St->Hp->Prop,(∃ m,W 0 m σ H1)/\∀ i m σ H,W i m σ H->
 (J.stop i H/\D.nx σ H)∨(J.go i H/\∃ N:St->Hp->Prop,(∀ σ' H',N σ' H'->∃ m',m'<m/\W (i+1) m' σ' H')/\∀ x H',J.yld i H x H'->g x σ H' fun σ2 H2=>tb { D with nx:=N,ct:=N,bk:=D.nx } σ2 H2)
def mW (fp:List Addr) (h:Heap):List (Addr×Obj):=fp.filterMap fun b=>(h.get? b).map fun o=>(b,o)
theorem iB (hb:b∈fp) (e:h.get? b=some o):(b,o)∈mW fp h:=List.mem_filterMap.mpr ⟨b,hb,by rw [e];rfl⟩
theorem vJ (hp:p∈mW fp h):p.1∈fp/\h.get? p.1=some p.2:=by
 obtain ⟨b,hb,e⟩:=List.mem_filterMap.mp hp
 cases q:h.get? b with
 |none=>rw [q] at e;cases e
 | some o=>
   rw [q] at e
   have e':(b,o)=p:=Option.some.inj e
   subst e'
   exact ⟨hb,q⟩
theorem Inv.pinned (I:Inv X Z σ H s) (hf:∀ b∈fp,jH X Z H b) (ho:∀ b∈fp,∃ o,s.heap.get? b=some o/\∀ v,o.data≠.cell v):Inv X (Z++mW fp s.heap) σ H s:=
 I.pins_of fun p hp=>(List.mem_append.mp hp).elim (fun z=>I.pin p (List.mem_append_right _ z)) fun z=>by
  obtain ⟨hb,e⟩:=vJ z
  obtain ⟨f0,f1,f2,_⟩:=hf p.1 hb
  obtain ⟨o,e',d⟩:=ho p.1 hb
  rw [e] at e';cases e'
  exact ⟨e,f0,f1,f2,d⟩
theorem Inv.unpinned (I:Inv X (Z++pl) σ H s):Inv X Z σ H s:=I.pins_of fun p hp=>I.pin p (List.mem_append_right _ (List.mem_append_left _ hp))
theorem dM {X:Cx} {iter:Expr} {body:List Stmt} {wi:TI} {g:TG} {tb:TS} {pos:Pos} (hp:PassesOwn (model X.prog X.w) X.A X.env X.xe) (hc:X.calm=true) (hi:PI X tg iter wi) (hg:PG X tg g) (hb:p7 X body tb)
 (hs:∀ x,foldedSetIterable iter X.env x=pure x:=by intro _;rfl):PS X (.For tg iter body [] pos) (Uq wi g tb):=by
 intro Z s σ H D I h
 refine wpAny_For (b_ (hi Z s σ H _ I h) fun v s1 h1=>b_ h1 fun itv s2 h2=>?_) hs
 obtain ⟨it,fp,tn,J,H2,e,I2,T,st2,f2,W,⟨m0,w0⟩,turn⟩:=h2
 subst e
 have stat:∀ {H':Hp},(∀ b∈fp,H' b=none)->∀ b∈fp,jH X Z H' b:=fun hn b hb=>⟨hn b hb,(f2 b hb).2⟩
 refine codeAny_forLoop_any (fun n s'=>∃ i σ' H',Inv X Z σ' H' s'/\tn i s'.heap/\(∀ b∈fp,H' b=none)/\W i n σ' H') ?_ m0 ⟨0,σ,H2,I2,st2,fun b hb=>(f2 b hb).1,w0⟩
 rintro n s3 ⟨i,σ3,H3,I3,st3,fr3,w3⟩
 rcases turn i n σ3 H3 w3 with ⟨stop,qn⟩|⟨go,N,hN,step⟩
 ·refine wpAny_passesOwn hp (b_ (T.done X rfl rfl rfl hc i Z s3 σ3 H3 X.xe I3 (stat fr3) st3 stop) fun r s4 ⟨hr,I4⟩=>?_)
  subst hr
  exact wpAny_execs_nil ⟨σ3,H3,I4,qn⟩
 ·refine wpAny_passesOwn hp (b_ (T.item X rfl rfl rfl hc i Z s3 σ3 H3 X.xe I3 (stat fr3) st3 go) fun r s4 ⟨u,hr,h4⟩=>?_)
  subst hr
  refine wpAny_passesOwn hp (b_ h4 fun _ s5 ⟨x,H5,I5,r5,y5,st5,fr5⟩=>?_)
  have I5':=I5.pinned (stat fr5) (T.obj _ _ st5)
  refine wpAny_passesOwn hp (b_ (hg _ s5 σ3 H5 x u _ I5' r5 (step x H5 y5)) fun _ s6 ⟨σ6,H6,I6,q6⟩=>?_)
  refine wpAny_passesOwn hp (b_ (hb _ s6 σ6 H6 _ I6 q6) fun f s7 q7=>?_)
  have again:∀ {σ7:St} {H7:Hp},Inv X (Z++mW fp s5.heap) σ7 H7 s7->N σ7 H7->∃ m,m<n/\∃ i σ' H',Inv X Z σ' H' s7/\tn i s7.heap/\(∀ b∈fp,H' b=none)/\W i m σ' H':=fun {σ7 H7} I7 n7=>by
   obtain ⟨m',hm,w7⟩:=hN σ7 H7 n7
   refine ⟨m',hm,i+1,σ7,H7,I7.unpinned,T.keep _ _ _ st5 fun b hb o e=>(I7.pin (b,o) (List.mem_append_right _ (List.mem_append_right _ (iB hb e)))).1,fun b hb=>?_,w7⟩
   obtain ⟨o,e,d⟩:=T.obj _ _ st5 b hb
   exact (I7.pin (b,o) (List.mem_append_right _ (List.mem_append_right _ (iB hb e)))).2.1
  cases f with
  |next=>obtain ⟨σ7,H7,I7,n7⟩:=q7;exact again I7 n7
  |cont=>obtain ⟨σ7,H7,I7,n7⟩:=q7;exact again I7 n7
  |brk=>obtain ⟨σ7,H7,I7,q7⟩:=q7;exact ⟨σ7,H7,I7.unpinned,q7⟩
  |ret v=>obtain ⟨x7,σ7,H7,I7,r7,q7⟩:=q7;exact ⟨x7,σ7,H7,I7.unpinned,r7,q7⟩
theorem j6 {K:PySem.W.Frag} {a:Addr} {xs:List V} {g:TG} {tb:TS} {D:Ends} {σ:St} {H:Hp} (Pv:Nat->St->Hp->Prop) (h0:Pv 0 σ H) (hl:∀ i σ H,i≤xs.length->Pv i σ H->bJ K H a xs)
 (hs:∀ i x σ H,xs[i]?=some x->Pv i σ H->g x σ H fun σ2 H2=>tb { D with nx:=Pv (i+1),ct:=Pv (i+1),bk:=D.nx } σ2 H2) (hd:∀ σ H,Pv xs.length σ H->D.nx σ H) :
 ∃ W:Nat->Nat->St->Hp->Prop,(∃ m,W 0 m σ H)/\∀ i m σ H,W i m σ H->
   ((Jh K a).stop i H/\D.nx σ H)∨((Jh K a).go i H/\∃ N:St->Hp->Prop,(∀ σ' H',N σ' H'->∃ m',m'<m/\W (i+1) m' σ' H')/\∀ x H',(Jh K a).yld i H x H'->g x σ H' fun σ2 H2=>tb { D with nx:=N,ct:=N,bk:=D.nx } σ2 H2):=by
 refine ⟨fun i m σ H=>m=xs.length-i/\i≤xs.length/\Pv i σ H,⟨xs.length,by simp,Nat.zero_le _,h0⟩,?_⟩
 rintro i m σ H ⟨rfl,hi,p⟩
 have q:=hl i σ H hi p
 by_cases hlt:i<xs.length
 ·refine .inr ⟨⟨xs,xs[i],q,by simp [hlt]⟩,Pv (i+1),fun σ' H' p'=>⟨xs.length-(i+1),by omega,rfl,hlt,p'⟩,fun x H' y=>?_⟩
  obtain ⟨e,y⟩:=y
  subst e
  exact hs i x σ _ (y xs q) p
 ·have e:i=xs.length:=by omega
  subst e
  exact .inl ⟨⟨xs,q,Nat.le_refl _⟩,hd σ H p⟩
theorem lN {K:PySem.W.Frag} {a:Addr} {xs:List V} {g:TG} {tb:TS} {D:Ends} {σ:St} {H:Hp} (Pv:Nat->St->Hp->Prop) (h0:Pv 0 σ H) (hl:∀ i σ H,i≤xs.length->Pv i σ H->bB K H a xs)
 (hs:∀ i x σ H,xs[i]?=some x->Pv i σ H->g x σ H fun σ2 H2=>tb { D with nx:=Pv (i+1),ct:=Pv (i+1),bk:=D.nx } σ2 H2) (hd:∀ σ H,Pv xs.length σ H->D.nx σ H) :
 ∃ W:Nat->Nat->St->Hp->Prop,(∃ m,W 0 m σ H)/\∀ i m σ H,W i m σ H->
   ((Ji K a).stop i H/\D.nx σ H)∨((Ji K a).go i H/\∃ N:St->Hp->Prop,(∀ σ' H',N σ' H'->∃ m',m'<m/\W (i+1) m' σ' H')/\∀ x H',(Ji K a).yld i H x H'->g x σ H' fun σ2 H2=>tb { D with nx:=N,ct:=N,bk:=D.nx } σ2 H2):=by
 refine ⟨fun i m σ H=>m=xs.length-i/\i≤xs.length/\Pv i σ H,⟨xs.length,by simp,Nat.zero_le _,h0⟩,?_⟩
 rintro i m σ H ⟨rfl,hi,p⟩
 have q:=hl i σ H hi p
 by_cases hlt:i<xs.length
 ·refine .inr ⟨⟨xs,xs[i],q,by simp [hlt]⟩,Pv (i+1),fun σ' H' p'=>⟨xs.length-(i+1),by omega,rfl,hlt,p'⟩,fun x H' y=>?_⟩
  obtain ⟨e,y⟩:=y
  subst e
  exact hs i x σ _ (y xs q) p
 ·have e:i=xs.length:=by omega
  subst e
  exact .inl ⟨⟨xs,q,Nat.le_refl _⟩,hd σ H p⟩
theorem jj {lo:Int} {n:Nat} {g:TG} {tb:TS} {D:Ends} {σ:St} {H:Hp} (Pv:Nat->St->Hp->Prop) (h0:Pv 0 σ H)
 (hs:∀ i σ H,i<n->Pv i σ H->g (.int (lo+i)) σ H fun σ2 H2=>tb { D with nx:=Pv (i+1),ct:=Pv (i+1),bk:=D.nx } σ2 H2) (hd:∀ σ H,Pv n σ H->D.nx σ H) :
 ∃ W:Nat->Nat->St->Hp->Prop,(∃ m,W 0 m σ H)/\∀ i m σ H,W i m σ H->
   ((Bm lo n).stop i H/\D.nx σ H)∨((Bm lo n).go i H/\∃ N:St->Hp->Prop,(∀ σ' H',N σ' H'->∃ m',m'<m/\W (i+1) m' σ' H')/\∀ x H',(Bm lo n).yld i H x H'->g x σ H' fun σ2 H2=>tb { D with nx:=N,ct:=N,bk:=D.nx } σ2 H2):=by
 refine ⟨fun i m σ H=>m=n-i/\i≤n/\Pv i σ H,⟨n,by simp,Nat.zero_le _,h0⟩,?_⟩
 rintro i m σ H ⟨rfl,hi,p⟩
 by_cases hlt:i<n
 ·refine .inr ⟨hlt,Pv (i+1),fun σ' H' p'=>⟨n-(i+1),by omega,rfl,hlt,p'⟩,fun x H' y=>?_⟩
  obtain ⟨e,y⟩:=y
  subst e y
  exact hs i σ _ hlt p
 ·have e:i=n:=by omega
  subst e
  exact .inl ⟨Nat.le_refl _,hd σ H p⟩
theorem yN (Pv:St->Hp->Prop) (μ:St->Hp->Nat) (h0:Pv σ H)
 (hs:∀ σ H,Pv σ H->c σ H fun b H1=>if b=true then tb { D with nx:=fun σ' H'=>Pv σ' H'/\μ σ' H'<μ σ H,ct:=fun σ' H'=>Pv σ' H'/\μ σ' H'<μ σ H,bk:=D.nx } σ H1 else D.nx σ H1)
 (mono:∀ σ H Q Q',(∀ b H1,Q b H1->Q' b H1)->c σ H Q->c σ H Q'):xq c tb D σ H:=by
 refine ⟨fun m σ H=>m=μ σ H/\Pv σ H,⟨_,rfl,h0⟩,?_⟩
 rintro m σ H ⟨rfl,p⟩
 refine mono σ H _ _ (fun b H1 q=>?_) (hs σ H p)
 cases b with
 |true=>exact ⟨_,fun σ' H' ⟨p',l⟩=>⟨_,l,rfl,p'⟩,q⟩
 |false=>exact q
abbrev R2:=V->V->Hp->VK->Prop
def iD (X:Cx) (f:Value->Value->Sem Value) (r:R2):Prop:=
 ∀ (Z:List (Addr×Obj)) (s:Shared) (σ:St) (H:Hp) (x y:V) (v u:Value) (Q:VK),Inv X Z σ H s->RelV x v->RelV y u->r x y H Q->
   wpAny (model X.prog X.w) X.A (f v u) (EP X Z σ Q) X.xe s
def Uk (X:Cx) (f:Value->Sem Value) (r:V->Hp->VK->Prop):Prop:=
 ∀ (Z:List (Addr×Obj)) (s:Shared) (σ:St) (H:Hp) (x:V) (v:Value) (Q:VK),Inv X Z σ H s->RelV x v->r x H Q->
   wpAny (model X.prog X.w) X.A (f v) (EP X Z σ Q) X.xe s
def gH (X:Cx) (f:Value) (r:List V->Hp->VK->Prop):Prop:=
 ∀ (Z:List (Addr×Obj)) (s:Shared) (σ:St) (H:Hp) (xs:List V) (us:List Value) (Q:VK),Inv X Z σ H s->Vals xs us->r xs H Q->
   wpAny (model X.prog X.w) X.A (call f us) (EP X Z σ Q) X.xe s
def RM (r:R2) (ta tb:TE):TE:=fun σ H Q=>ta σ H fun x H1=>tb σ H1 fun y H2=>r x y H2 Q
def VM (r:V->Hp->VK->Prop) (ta:TE):TE:=fun σ H Q=>ta σ H fun x H1=>r x H1 Q
def rI (C:Int->Int->Prop) (g:Int->Int->V):R2:=fun x y H Q=>∃ i j,x=.int i/\y=.int j/\C i j/\Q (g i j) H
def zF (g:Int->Int->V):R2:=fun x y H Q=>∃ i j,x=.int i/\y=.int j/\Q (g i j) H
def rU (g:Int->V):V->Hp->VK->Prop:=fun x H Q=>∃ i,x=.int i/\Q (g i) H
section
variable {X:Cx} {a b c:Expr} {ta tb tc:TE} {pos:Pos}
theorem Iv (ha:PE X a ta) (hb:PE X b tb) {Z:List (Addr×Obj)} {s:Shared} {σ:St} {H:Hp} {R:V->V->Hp->Prop} (I:Inv X Z σ H s)
 (h:ta σ H fun x H1=>tb σ H1 fun y H2=>R x y H2) {Q:Value->Shared->Prop} {f:Value->Value->Sem Value}
 (hf:∀ v u s2 x y H2,Inv X Z σ H2 s2->RelV x v->RelV y u->R x y H2->wpAny (model X.prog X.w) X.A (f v u) Q X.xe s2) :
 wpAny (model X.prog X.w) X.A (eval a X.env) (fun v s₁=>wpAny (model X.prog X.w) X.A (eval b X.env) (fun u s₂=>wpAny (model X.prog X.w) X.A (f v u) Q X.xe s₂) X.xe s₁) X.xe s:=by
 refine b_ (ha Z s σ H _ I h) fun v s1 ⟨x,H1,I1,r1,q1⟩=>?_
 refine b_ (hb Z s1 σ H1 _ I1 q1) fun u s2 ⟨y,H2,I2,r2,q2⟩=>?_
 exact hf v u s2 x y H2 I2 r1 r2 q2
theorem bh (ho:iD X (binaryOp op) r) (ha:PE X a ta) (hb:PE X b tb):PE X (.BinOp a op b pos) (RM r ta tb):=by
 intro Z s σ H Q I h
 exact wpAny_BinOp (Iv ha hb I h fun v u s2 x y H2 I2 rx ry q=>ho Z s2 σ H2 x y v u Q I2 rx ry q)
theorem iV {op:UnaryOp} {r:V->Hp->VK->Prop} (ho:Uk X (unaryOp op) r) (ha:PE X a ta):PE X (.UnaryOp op a pos) (VM r ta):=by
 intro Z s σ H Q I h
 exact UnaryOp_ (b_ (ha Z s σ H _ I h) fun v s1 ⟨x,H1,I1,r1,q1⟩=>ho Z s1 σ H1 x v Q I1 r1 q1)
theorem Qh {f:Value->Value->Sem Value} {C:Int->Int->Prop} {g:Int->Int->Int}
 (rule:∀ (i j:Int) (t u:Tok) (s:Shared) (Q:Value->Shared->Prop) (E:Value->Shared->Prop),C i j->Q (.int (g i j) s.toks) { s with toks:=s.toks+1 }->wpAny (model X.prog X.w) X.A (f (.int i t) (.int j u)) Q E s) :
 iD X f (rI C fun i j=>.int (g i j)):=by
 intro Z s σ H x y v u Q I rx ry h
 obtain ⟨i,j,rfl,rfl,hc,q⟩:=h
 obtain ⟨t,rfl⟩:=rx
 obtain ⟨t',rfl⟩:=ry
 exact rule i j t t' s _ _ hc ⟨.int (g i j),H,I.tok _,⟨_,rfl⟩,q⟩
theorem Ec {f:Value->Value->Sem Value} {g:Int->Int->Int}
 (rule:∀ (i j:Int) (t u:Tok) (s:Shared) (Q:Value->Shared->Prop) (E:Value->Shared->Prop),Q (.int (g i j) s.toks) { s with toks:=s.toks+1 }->wpAny (model X.prog X.w) X.A (f (.int i t) (.int j u)) Q E s) :
 iD X f (zF fun i j=>.int (g i j)):=by
 intro Z s σ H x y v u Q I rx ry h
 obtain ⟨i,j,rfl,rfl,q⟩:=h
 obtain ⟨t,rfl⟩:=rx
 obtain ⟨t',rfl⟩:=ry
 exact rule i j t t' s _ _ ⟨.int (g i j),H,I.tok _,⟨_,rfl⟩,q⟩
theorem zN {f:Value->Value->Sem Value} {g:Int->Int->Bool}
 (rule:∀ (i j:Int) (t u:Tok) (s:Shared) (Q:Value->Shared->Prop) (E:Value->Shared->Prop),Q (.bool (g i j)) s->wpAny (model X.prog X.w) X.A (f (.int i t) (.int j u)) Q E s) :
 iD X f (zF fun i j=>.bl (g i j)):=by
 intro Z s σ H x y v u Q I rx ry h
 obtain ⟨i,j,rfl,rfl,q⟩:=h
 obtain ⟨t,rfl⟩:=rx
 obtain ⟨t',rfl⟩:=ry
 exact rule i j t t' s _ _ ⟨.bl (g i j),H,I,rfl,q⟩
def TJ (i j:Int):Prop:=0<j/\j<1073741824
def G3 (i j:Int):Prop:=0≤j/\j≤1000000/\i.natAbs<2 ^ 64
def Ae (i j:Int):Prop:=(-(2 ^ 64)<i/\i<2 ^ 64)∨(-(2 ^ 64)<j/\j<2 ^ 64)
theorem Ae.ok (h:Ae i j):IntMulOk i j:=by
 rcases h with ⟨h1,h2⟩|⟨h1,h2⟩
 ·exact .of_left (intBits_le_64 h1 h2)
 ·exact .of_right (intBits_le_64 h1 h2)
theorem cX:iD X (binaryOp .Add) (zF fun i j=>.int (i+j)):=Ec fun _ _ _ _ _ _ _ q=>add_int q
theorem e_:iD X (binaryOp .Sub) (zF fun i j=>.int (i-j)):=Ec fun _ _ _ _ _ _ _ q=>sub_int q
theorem jG:iD X (binaryOp .Mult) (rI Ae fun i j=>.int (i*j)):=Qh fun _ _ _ _ _ _ _ hc q=>mul_int q hc.ok
theorem uw:iD X (binaryOp .FloorDiv) (rI TJ fun i j=>.int (i / j)):=Qh fun i j _ _ _ _ _ hc q=>by
 have h1:(0:Int)<j:=hc.1
 have h2:j<1073741824:=hc.2
 exact floordiv_int (by omega) (by rw [Int.fdiv_eq_ediv_of_nonneg i (by omega)];exact q) (.inl (PyProof.noPylong_small (by omega)))
theorem gU:iD X (binaryOp .Mod) (rI (fun _ j=>0<j) fun i j=>.int (i % j)):=Qh fun i j _ _ _ _ _ hc q=>by
 have h1:(0:Int)<j:=hc
 exact mod_int' (by omega) (by rw [Int.fmod_eq_emod_of_nonneg i (by omega)];exact q)
theorem sy:iD X (binaryOp .Pow) (rI G3 fun i j=>.int (i ^ j.toNat)):=Qh fun _ _ _ _ _ _ _ hc q=>pow_int_small hc.1 hc.2.1 hc.2.2 q
theorem Af:iD X (inplaceOp .Add) (zF fun i j=>.int (i+j)):=Ec fun _ _ _ _ _ _ _ q=>iadd_int q
theorem WL {f:Value->Sem Value} {g:Int->Int}
 (rule:∀ (i:Int) (t:Tok) (s:Shared) (Q:Value->Shared->Prop) (E:Value->Shared->Prop),Q (.int (g i) s.toks) { s with toks:=s.toks+1 }->wpAny (model X.prog X.w) X.A (f (.int i t)) Q E s) :
 Uk X f (rU fun i=>.int (g i)):=by
 intro Z s σ H x v Q I rx h
 obtain ⟨i,rfl,q⟩:=h
 obtain ⟨t,rfl⟩:=rx
 exact rule i t s _ _ ⟨.int (g i),H,I.tok _,⟨_,rfl⟩,q⟩
theorem gD:Uk X (unaryOp .USub) (rU fun i=>.int (-i)):=WL fun _ _ _ _ _ q=>neg_int q
end
def Qn:V->V->Bool
 |.non,.non=>true|.non,.int _=>true|.int _,.non=>true|.non,.bl _=>true|.bl _,.non=>true|.non,.str _=>true|.str _,.non=>true
 |.int _,.int _=>true|.bl _,.bl _=>true|.str _,.str _=>true|.byt _,.byt _=>true
 |.int _,.str _=>true|.str _,.int _=>true|.bl _,.str _=>true|.str _,.bl _=>true
 |_,_=>false
def VL:R2:=fun x y H Q=>Qn x y=true/\Q (.bl (decide (x=y))) H
def W4:R2:=fun x y H Q=>Qn x y=true/\Q (.bl (!decide (x=y))) H
theorem ji:decide (V.int i=V.int j)=(i == j):=by
 rw [Bool.eq_iff_iff]
 simp
theorem yV:decide (V.bl i=V.bl j)=(i == j):=by
 rw [Bool.eq_iff_iff]
 simp
theorem eE:decide (V.str i=V.str j)=(i == j):=by
 rw [Bool.eq_iff_iff]
 simp
theorem uL:decide (V.byt i=V.byt j)=(i.toList == j.toList):=by
 rw [Bool.eq_iff_iff]
 cases i
 cases j
 simp
theorem bO (I:Inv X Z σ H s) (q:Q (.bl k) H) (e:k=k'):EP X Z σ Q (.bool k') s:=by
 subst e
 exact ⟨.bl k,H,I,rfl,q⟩
theorem bu:iD X (compareOp .Eq) VL:=by
 intro Z s σ H x y v u Q I rx ry h
 obtain ⟨hs,q⟩:=h
 cases x with
 | non=>
   cases rx
   cases y with
   |non=>cases ry;exact PySem.EqNone.eq_none_none (bO I q (by simp))
   |bl j=>cases ry;exact PySem.EqNone.eq_none_bool (bO I q (by simp))
   |int j=>obtain ⟨t',rfl⟩:=ry;exact PySem.EqNone.eq_none_int (bO I q (by simp))
   |str j=>obtain ⟨t',rfl⟩:=ry;exact PySem.EqNone.eq_none_str (bO I q (by simp))
   |_=>exact absurd (show false=true from hs) Bool.false_ne_true
 | bl i=>
   cases rx
   cases y with
   |non=>cases ry;exact PySem.EqNone.eq_bool_none (bO I q (by simp))
   |bl j=>cases ry;exact eq_bool (bO I q yV)
   |str j=>obtain ⟨t',rfl⟩:=ry;exact PySem.EqMixed.eq_bool_str (bO I q (by simp))
   |_=>exact absurd (show false=true from hs) Bool.false_ne_true
 | int i=>
   obtain ⟨t,rfl⟩:=rx
   cases y with
   |non=>cases ry;exact PySem.EqNone.eq_int_none (bO I q (by simp))
   |int j=>obtain ⟨t',rfl⟩:=ry;exact eq_int (bO I q ji)
   |str j=>obtain ⟨t',rfl⟩:=ry;exact PySem.EqMixed.eq_int_str (bO I q (by simp))
   |_=>exact absurd (show false=true from hs) Bool.false_ne_true
 | str i=>
   obtain ⟨t,rfl⟩:=rx
   cases y with
   |non=>cases ry;exact PySem.EqNone.eq_str_none (bO I q (by simp))
   |bl j=>cases ry;exact PySem.EqMixed.eq_str_bool (bO I q (by simp))
   |int j=>obtain ⟨t',rfl⟩:=ry;exact PySem.EqMixed.eq_str_int (bO I q (by simp))
   |str j=>obtain ⟨t',rfl⟩:=ry;exact eq_str (bO I q eE)
   |_=>exact absurd (show false=true from hs) Bool.false_ne_true
 | byt i=>
   obtain ⟨t,rfl⟩:=rx
   cases y with
   |byt j=>obtain ⟨t',rfl⟩:=ry;exact PySem.W.eq_bytes (bO I q uL)
   |_=>exact absurd (show false=true from hs) Bool.false_ne_true
 |_=>cases y <;> exact absurd (show false=true from hs) Bool.false_ne_true
theorem lA:iD X (compareOp .NotEq) W4:=by
 intro Z s σ H x y v u Q I rx ry h
 obtain ⟨hs,q⟩:=h
 cases x with
 | non=>
   cases rx
   cases y with
   |non=>cases ry;exact PySem.EqNone.ne_none_none (bO I q (by simp))
   |bl j=>cases ry;exact PySem.EqNone.ne_none_bool (bO I q (by simp))
   |int j=>obtain ⟨t',rfl⟩:=ry;exact PySem.EqNone.ne_none_int (bO I q (by simp))
   |str j=>obtain ⟨t',rfl⟩:=ry;exact PySem.EqNone.ne_none_str (bO I q (by simp))
   |_=>exact absurd (show false=true from hs) Bool.false_ne_true
 | bl i=>
   cases rx
   cases y with
   |non=>cases ry;exact PySem.EqNone.ne_bool_none (bO I q (by simp))
   |bl j=>cases ry;exact ne_bool (bO I q (congrArg not yV))
   |str j=>obtain ⟨t',rfl⟩:=ry;exact PySem.EqMixed.ne_bool_str (bO I q (by simp))
   |_=>exact absurd (show false=true from hs) Bool.false_ne_true
 | int i=>
   obtain ⟨t,rfl⟩:=rx
   cases y with
   |non=>cases ry;exact PySem.EqNone.ne_int_none (bO I q (by simp))
   |int j=>obtain ⟨t',rfl⟩:=ry;exact ne_int (bO I q (congrArg not ji))
   |str j=>obtain ⟨t',rfl⟩:=ry;exact PySem.EqMixed.ne_int_str (bO I q (by simp))
   |_=>exact absurd (show false=true from hs) Bool.false_ne_true
 | str i=>
   obtain ⟨t,rfl⟩:=rx
   cases y with
   |non=>cases ry;exact PySem.EqNone.ne_str_none (bO I q (by simp))
   |bl j=>cases ry;exact PySem.EqMixed.ne_str_bool (bO I q (by simp))
   |int j=>obtain ⟨t',rfl⟩:=ry;exact PySem.EqMixed.ne_str_int (bO I q (by simp))
   |str j=>obtain ⟨t',rfl⟩:=ry;exact ne_str (bO I q (congrArg not eE))
   |_=>exact absurd (show false=true from hs) Bool.false_ne_true
 | byt i=>
   obtain ⟨t,rfl⟩:=rx
   cases y with
   |byt j=>obtain ⟨t',rfl⟩:=ry;exact PySem.W.ne_bytes (bO I q (congrArg not uL))
   |_=>exact absurd (show false=true from hs) Bool.false_ne_true
 |_=>cases y <;> exact absurd (show false=true from hs) Bool.false_ne_true
theorem jx:iD X (compareOp .Lt) (zF fun i j=>.bl (decide (i<j))):=zN fun _ _ _ _ _ _ _ q=>lt_int q
theorem fJ:iD X (compareOp .LtE) (zF fun i j=>.bl (decide (i≤j))):=zN fun _ _ _ _ _ _ _ q=>le_int q
theorem qF:iD X (compareOp .Gt) (zF fun i j=>.bl (decide (j<i))):=zN fun _ _ _ _ _ _ _ q=>gt_int q
theorem QJ:iD X (compareOp .GtE) (zF fun i j=>.bl (decide (j≤i))):=zN fun _ _ _ _ _ _ _ q=>ge_int q
theorem vo:iD X (compareOp .In) (fun x y H Q=>∃ i j,x=.str i/\y=.str j/\Q (.bl (!(Builtin.Str.occurrences j i 0 j.length 1).isEmpty)) H):=by
 intro Z s σ H x y v u Q I rx ry h
 obtain ⟨i,j,rfl,rfl,q⟩:=h
 obtain ⟨t,rfl⟩:=rx
 obtain ⟨t',rfl⟩:=ry
 exact in_str (bO I q rfl)
theorem sE:iD X (compareOp .Is) (fun x y H Q=>y=.non/\Q (.bl (decide (x=.non))) H):=by
 intro Z s σ H x y v u Q I rx ry h
 obtain ⟨rfl,q⟩:=h
 cases ry
 refine is_none_gen (bO I q ?_)
 cases x <;> first
  |(cases rx;rfl)
  |(obtain ⟨t,rfl⟩:=rx;rfl)
theorem aN (b:Expr) (h:op≠.In:=by decide) (h2:op≠.NotIn:=by decide):behindInMarks op b=false:=by
 have e1:(op == CmpOp.In)=false:=by cases op <;> first|rfl|exact absurd rfl h
 have e2:(op == CmpOp.NotIn)=false:=by cases op <;> first|rfl|exact absurd rfl h2
 cases b <;> simp [behindInMarks,e1,e2]
theorem bH (ho:iD X (compareOp op) r) (ha:PE X a ta) (hb:PE X b tb) (hm:behindInMarks op b=false):PE X (.Compare a [op] [b] pos) (RM r ta tb):=by
 intro Z s σ H Q I h
 exact wpAny_Compare1 (Iv ha hb I h fun v u s2 x y H2 I2 rx ry q=>ho Z s2 σ H2 x y v u Q I2 rx ry q) hm
def uP (t:TE):TT:=fun σ H Q=>t σ H fun x H'=>∃ k,x=.bl k/\Q k H'
theorem aL {op:CmpOp} {r:R2} (ho:iD X (compareOp op) r) (ha:PE X a ta) (hb:PE X b tb) (hm:behindInMarks op b=false):PT X (.Compare a [op] [b] pos) (uP (RM r ta tb)):=by
 intro Z s σ H Q I h
 refine wpAny_isTrue_Compare1 (b_ (ha Z s σ H _ I h) fun v s1 ⟨x,H1,I1,r1,q1⟩=>b_ (hb Z s1 σ H1 _ I1 q1) fun u s2 ⟨y,H2,I2,r2,q2⟩=>
  b_ (ho Z s2 σ H2 x y v u _ I2 r1 r2 q2) fun c s3 ⟨z,H3,I3,r3,k,e,q3⟩=>?_) hm
 subst e
 cases r3
 exact wpAny_truthy_bool ⟨H3,I3,q3⟩
def uc (r r':R2) (ta tb tc:TE):TE:=fun σ H Q=>ta σ H fun x H1=>tb σ H1 fun y H2=>r x y H2 fun z H3=>∃ k,z=.bl k/\
 (if k=true then tc σ H3 fun w' H4=>r' y w' H4 Q else Q (.bl false) H3)
theorem iT {op op':CmpOp} {r r':R2} (ho:iD X (compareOp op) r) (ho':iD X (compareOp op') r') (ha:PE X a ta) (hb:PE X b tb) (hc:PE X c tc)
 (hm:lastMarks [op,op'] [b,c]=false:=by with_unfolding_all rfl):PE X (.Compare a [op,op'] [b,c] pos) (uc r r' ta tb tc):=by
 intro Z s σ H Q I h
 refine Compare_chain (b_ (ha Z s σ H _ I h) fun v s1 ⟨x,H1,I1,r1,q1⟩=>chain_link (b_ (hb Z s1 σ H1 _ I1 q1) fun u s2 ⟨y,H2,I2,r2,q2⟩=>
  b_ (ho Z s2 σ H2 x y v u _ I2 r1 r2 q2) fun d s3 ⟨z,H3,I3,r3,k,e,q3⟩=>?_)) hm
 subst e
 cases r3
 refine wpAny_truthy_bool ?_
 cases k with
 |false=>exact ite_ff ⟨.bl false,H3,I3,rfl,q3⟩
 |true=>exact ite_tt (chain_last (b_ (hc Z s3 σ H3 _ I3 q3) fun w' s4 ⟨z',H4,I4,r4,q4⟩=>ho' Z s4 σ H4 y z' u w' Q I4 r2 r4 q4))
theorem qP {op op':CmpOp} {r r':R2} (ho:iD X (compareOp op) r) (ho':iD X (compareOp op') r') (ha:PE X a ta) (hb:PE X b tb) (hc:PE X c tc)
 (hm:lastMarks [op,op'] [b,c]=false:=by with_unfolding_all rfl):PT X (.Compare a [op,op'] [b,c] pos) (uP (uc r r' ta tb tc)):=by
 intro Z s σ H Q I h
 refine isTrue_chain (b_ (ha Z s σ H _ I h) fun v s1 ⟨x,H1,I1,r1,q1⟩=>test_link (b_ (hb Z s1 σ H1 _ I1 q1) fun u s2 ⟨y,H2,I2,r2,q2⟩=>
  b_ (ho Z s2 σ H2 x y v u _ I2 r1 r2 q2) fun d s3 ⟨z,H3,I3,r3,k,e,q3⟩=>?_)) hm
 subst e
 cases r3
 refine wpAny_truthy_bool ?_
 cases k with
 | false=>
   obtain ⟨k',e',q'⟩:=q3
   cases e'
   exact ite_ff ⟨H3,I3,q'⟩
 | true=>
   refine ite_tt (test_last (b_ (hc Z s3 σ H3 _ I3 q3) fun w' s4 ⟨z',H4,I4,r4,q4⟩=>b_ (ho' Z s4 σ H4 y z' u w' _ I4 r2 r4 q4) fun d' s5 ⟨z2,H5,I5,r5,k2,e2,q5⟩=>?_))
   subst e2
   cases r5
   exact wpAny_truthy_bool ⟨H5,I5,q5⟩
theorem kZ:(sizeLine:Nat)<2 ^ 63:=by rw [sizeLine_eq];decide
theorem cW:iD X (binaryOp .Add) (fun x y H Q=>∃ i j,x=.str i/\y=.str j/\i.length+j.length≤sizeLine/\Q (.str (i++j)) H):=by
 intro Z s σ H x y v u Q I rx ry h
 obtain ⟨i,j,rfl,rfl,hz,q⟩:=h
 obtain ⟨t,rfl⟩:=rx
 obtain ⟨t',rfl⟩:=ry
 exact add_str (fun t' tk=>⟨.str (i++j),H,I.tok _,⟨_,rfl⟩,q⟩) hz
theorem vals1 (r:Vals [x] us):∃ u,us=[u]/\RelV x u:=by
 cases r with
 |cons r1 r2=>cases r2;exact ⟨_,rfl,r1⟩
theorem vals2 (r:Vals [x,y] us):∃ u w',us=[u,w']/\RelV x u/\RelV y w':=by
 cases r with
 | cons r1 r2=>
   cases r2 with
   |cons r3 r4=>cases r4;exact ⟨_,_,rfl,r1,r3⟩
theorem pL:gH X (.type "str") (fun xs H Q=>∃ i,xs=[.int i]/\i.natAbs.log2<1920/\Q (.str (toString i)) H):=by
 intro Z s σ H xs us Q I r h
 obtain ⟨i,rfl,hz,q⟩:=h
 obtain ⟨u,rfl,t,rfl⟩:=vals1 r
 exact PySem.P.str_of_int hz ⟨.str _,H,I.tok _,⟨_,rfl⟩,q⟩
structure sr (h:Heap) (x dx C:Addr) (mA:Str->Option Value):Prop where
 obj:h.get? x=some (PySem.W.instObj C dx)
 ns:h.Ns1 dx mA
 ne:dx≠x
theorem lg {h:Heap} {mA:Str->Option Value} (n:h.Ns1 dx mA):∃ od,h.get? dx=some od/\∀ name,PySem.W.lookIn name od=some (mA name):=by
 obtain ⟨o,es,ep,ho,hd,hk,_,hm⟩:=n
 refine ⟨o,ho,fun name=>?_⟩
 have e:=hm name
 unfold nsFind findBy at e
 rw [← Array.find?_toList] at e
 unfold PySem.W.lookIn
 rw [hd]
 dsimp only
 split
 ·rename_i y q
  rw [q] at e
  exact congrArg some e
 ·rename_i q
  rw [q] at e
  have a:es.toList.any (·.refKey)=false:=by
   rw [List.any_eq_false]
   intro y hy
   obtain ⟨z,t,hkey⟩:=hk y (Array.mem_toList_iff.mp hy)
   simp [DictEntry.refKey,hkey]
  have a':¬ es.toList.any (·.refKey)=true:=by rw [a];exact Bool.false_ne_true
  rw [if_neg a']
  exact congrArg some e
theorem sr.look (I:sr h x dx C mA):∃ od,PySem.W.InstAt h x (PySem.W.instObj C dx) C (some od)/\∀ name,PySem.W.lookIn name od=some (mA name):=
 let ⟨od,ho,hl⟩:=lg I.ns
 ⟨od,⟨I.obj,rfl,rfl,ho⟩,hl⟩
section
variable {prog:Program} {w:World} {A:Around} {E:Value->Shared->Prop} {s:Shared} {K:PySem.W.Frag} {x dx C f:Addr} {mA:Str->Option Value} {name:Str} {v:Value}
theorem Ao (X:K.In s.heap) (I:sr s.heap x dx C mA) (hg:PySem.W.plainGet K C name=true) (hh:PySem.W.hasDictIn K C=true)
 (ha:PySem.W.findIn K (.ref C) name=some none) (hv:mA name=some v) (hv':PySem.W.handedIn v=true) (h:Q v { s with toks:=s.toks+1 }) :
 wpAny (model prog w) A (getAttr (.ref x) name expr) Q E s:=by
 obtain ⟨od,J,hl⟩:=I.look
 exact PySem.W.get_value X J (PySem.W.plainGet_of hg).1 (PySem.W.findObj_own hh ha rfl (by rw [hl,hv])) hv' h
theorem xn (X:K.In s.heap) (I:sr s.heap x dx C mA) (hg:PySem.W.plainGet K C name=true)
 (hf:PySem.W.findIn K (.ref C) name=some (some (.ref f))) (ht:PySem.W.isFn K (.ref f)=true) (hv:mA name=none) (h:Q (.ref f,[.ref x]) s) :
 wpAny (model prog w) A (getMethod (.ref x) name pl) Q E s:=by
 obtain ⟨od,J,hl⟩:=I.look
 exact PySem.W.method_fn X J (PySem.W.plainGet_of hg).1 (PySem.W.plainGet_of hg).2 hf (beq_iff_eq.mp ht) (by show (PySem.W.lookIn name od).map (·.isSome)=some false;rw [hl,hv];rfl) h
theorem As (X:K.In s.heap) (I:sr s.heap x dx C mA)
 (hs:PySem.W.findIn K (.ref C) "__setattr__" = some (some (.builtin "object.__setattr__"))) (hp:PySem.W.plainOver K C=true) (ht:PySem.W.takerIn K C name=some none) (hh:PySem.W.hasDictIn K C=true)
 (hw:PySem.Within mA ns) (hsz:ns.length≤sizeLine)
 (h:∀ h',sr h' x dx C (fun y=>if y=name then some v else mA y)->Heap.SameBut dx s.heap h'->Q () { s with heap:=h',toks:=s.toks+2 }) :
 wpAny (model prog w) A (setAttr (.ref x) name v) Q E s:=by
 obtain ⟨od,J,hl⟩:=I.look
 refine PySem.W.set_plain X J hs (PySem.W.osa_open (s:={ s with toks:=s.toks+1 }) (r:=none) X J hp ht fun b=>?_)
 obtain ⟨cd,hc,hd'⟩:=PySem.W.any_some hh
 have hx:s.heap.get? x=some ⟨.ref C,some dx,.plain,#[]⟩:=I.obj
 refine wpAny_bind (wpAny_pure (wpAny_bind (wpAny_bind (wpAny_loadPart hx (wpAny_bind (PySem.W.Looks.here (s:={ s with toks:=s.toks+1 }) (PySem.W.looks_clsIn X hc) ?_))))))
 rw [hd']
 refine wpAny_pure (a:=some dx) (wpAny_bind (wpAny_pure (wpAny_bind ?_)))
 refine wpAny_nsSet1 (s:={ s with toks:=s.toks+1 }) I.ns fun h' hn2 hs2=>?_
 obtain ⟨oD,esD,epD,hoD,hdD,hcD⟩:=hn2.count (PySem.Within.cons name v hw)
 refine wpAny_bind (wpAny_lookBehind hoD (by rw [hdD];exact pastItsLine_dict (Nat.le_trans hcD (by rw [List.length_cons];omega))) ?_)
 exact wpAny_pure (h _ ⟨(hs2.2 _ (Ne.symm I.ne)).trans I.obj,hn2,I.ne⟩ hs2)
theorem yD (X:K.In s.heap) (hm:PySem.W.makesIn K C=true)
 (hi:PySem.W.findIn K (.ref C) "__init__" = some (some (.ref f))) (hf:PySem.W.typeIn K (.ref f)=some (.type "function"))
 (h:codeAny (model prog w) (A.under (.builtin "type.__call__" ⟨.ref C::vs,kw⟩)) (.call (.ref f) ⟨.ref (s.heap.objs.size+1)::vs,kw⟩) (PySem.W.InitBack (s.heap.objs.size+1) R)
  { s with heap:=(s.heap.push PySem.W.emptyDict).push (PySem.W.instObj C s.heap.objs.size) }) :
 codeAny (model prog w) A (.call (.ref C) ⟨vs,kw⟩) R s:=by
 obtain ⟨hh,g,d,t,os⟩:=s
 exact PySem.W.make_core (PySem.W.makes_of X hm) (PySem.W.looks_findIn X hi) (fun self=>PySem.W.bind_fn X self hf) (.inl rfl) h
end
def gK (f:Str) (v:V):List (Str×V)->List (Str×V)
 |[]=>[(f,v)]
 |(g,x)::r=>if g=f then (g,v)::r else (g,x)::gK f v r
theorem cU (f g:Str) (v:V):∀ fs:List (Str×V),(gK f v fs).lookup g=if g=f then some v else fs.lookup g
 | []=>by
   show List.lookup g [(f,v)]=_
   by_cases h:g=f
   ·have hb:(g == f)=true:=beq_iff_eq.mpr h
    simp only [List.lookup,hb,if_pos h]
   ·have hb:(g == f)=false:=beq_eq_false_iff_ne.mpr h
    simp only [List.lookup,hb,if_neg h]
 | (k,x)::r=>by
   have ih:=cU f g v r
   rw [show gK f v ((k,x)::r)=(if k=f then (k,v)::r else (k,x)::gK f v r) from rfl]
   by_cases hk:k=f
   ·rw [if_pos hk]
    by_cases h:g=k
    ·have hb:(g == k)=true:=beq_iff_eq.mpr h
     simp only [List.lookup,hb,if_pos (h.trans hk)]
    ·have hb:(g == k)=false:=beq_eq_false_iff_ne.mpr h
     simp only [List.lookup,hb,if_neg (fun e:g=f=>h (e.trans hk.symm))]
   ·rw [if_neg hk]
    by_cases h:g=k
    ·have hb:(g == k)=true:=beq_iff_eq.mpr h
     simp only [List.lookup,hb,if_neg (fun e:g=f=>hk (h.symm.trans e))]
    ·have hb:(g == k)=false:=beq_eq_false_iff_ne.mpr h
     simp only [List.lookup,hb]
     exact ih
theorem ig (f:Str) (v:V):∀ fs:List (Str×V),f∈(gK f v fs).map (·.1)/\∀ g,g∈fs.map (·.1)->g∈(gK f v fs).map (·.1)
 |[]=>⟨by simp [gK],fun g h=>by simp at h⟩
 | (k,x)::r=>by
   obtain ⟨i1,i2⟩:=ig f v r
   rw [show gK f v ((k,x)::r)=(if k=f then (k,v)::r else (k,x)::gK f v r) from rfl]
   by_cases hk:k=f
   ·rw [if_pos hk]
    subst hk
    exact ⟨by simp,fun g h=>by simpa using h⟩
   ·rw [if_neg hk]
    refine ⟨?_,fun g h=>?_⟩
    ·rw [List.map_cons]
     exact List.mem_cons_of_mem _ i1
    ·rw [List.map_cons] at h ⊢
     rcases List.mem_cons.mp h with e|e
     ·exact List.mem_cons.mpr (.inl e)
     ·exact List.mem_cons_of_mem _ (i2 g e)
theorem lu (f:Str) (v:V):∀ fs:List (Str×V),(gK f v fs).length≤fs.length+1
 |[]=>by simp [gK]
 | (k,x)::r=>by
   have ih:=lu f v r
   rw [show gK f v ((k,x)::r)=(if k=f then (k,v)::r else (k,x)::gK f v r) from rfl]
   by_cases hk:k=f
   ·rw [if_pos hk,List.length_cons,List.length_cons];omega
   ·rw [if_neg hk,List.length_cons,List.length_cons];omega
theorem h_.some_of (r:h_ (some v) o):∃ u,o=some u/\RelV v u:=by
 cases o with
 |none=>exact (show False from r).elim
 |some u=>exact ⟨u,rfl,r⟩
theorem h_.none_of (r:h_ none o):o=none:=by
 cases o with
 |none=>rfl
 |some u=>exact (show False from r).elim
theorem nQ (r:RelV v u):PySem.W.handedIn u=true:=by
 cases v with
 |non=>cases (show u=Value.none from r);rfl
 |bl b=>cases (show u=Value.bool b from r);rfl
 |int i=>obtain ⟨t,e⟩:=(show ∃ t,u=Value.int i t from r);cases e;rfl
 |str x=>obtain ⟨t,e⟩:=(show ∃ t,u=Value.str x t from r);cases e;rfl
 |byt b=>obtain ⟨t,e⟩:=(show ∃ t,u=Value.bytes b t from r);cases e;rfl
 |flt b=>obtain ⟨t,e⟩:=(show ∃ t,u=Value.float b t from r);cases e;rfl
 |ref a=>cases (show u=Value.ref a from r);rfl
 |ty n=>cases (show u=Value.type n from r);rfl
theorem pC (hok:iK P w H h) (e:H a=some (.ins C dx fs)):∃ mA,sr h a dx C mA/\(∀ f,h_ (fs.lookup f) (mA f))/\PySem.Within mA (fs.map (·.1))/\fs.length≤1000/\H dx=some (.own a):=by
 obtain ⟨d,z,ne,ob,mA,n,r,q⟩:=(show cI P w H h a (.ins C dx fs) from hok a _ e)
 exact ⟨mA,⟨ob,n,ne⟩,r,q,z,d⟩
structure zG (K:PySem.W.Frag) (C:Addr):Prop where
 pg:PySem.W.plainGet K C Str.empty=true
 hd:PySem.W.hasDictIn K C=true
 po:PySem.W.plainOver K C=true
 sa:PySem.W.findIn K (.ref C) "__setattr__" = some (some (.builtin "object.__setattr__"))
theorem zG.get {K:PySem.W.Frag} {C:Addr} (c:zG K C) (f:Str):PySem.W.plainGet K C f=true:=c.pg
def iM (K:PySem.W.Frag) (C:Addr) (f:Str):Prop:=PySem.W.findIn K (.ref C) f=some none
theorem iM.taker {K:PySem.W.Frag} {C:Addr} {f:Str} (n:iM K C f):PySem.W.takerIn K C f=some none:=by
 unfold PySem.W.takerIn
 rw [show PySem.W.findIn K (.ref C) f=some none from n]
 rfl
structure Meth (K:PySem.W.Frag) (C:Addr) (m:Str) (f:Addr):Prop where
 at_:PySem.W.findIn K (.ref C) m=some (some (.ref f))
 fn:PySem.W.isFn K (.ref f)=true
 kp:PySem.W.keepIn K (.ref f)=true
section
variable {X:Cx} {Z:List (Addr×Obj)} {σ:St} {H:Hp} {s:Shared} {a C dx:Addr} {fs:List (Str×V)} {f:Str} {v:V} {A:Around} {E:Value->Shared->Prop}
theorem uh (I:Inv X Z σ H s) (e:H a=some (.ins C dx fs)) (c:zG X.K C) (n:iM X.K C f) (l:fs.lookup f=some v)
 (h:∀ u s',Inv X Z σ H s'->RelV v u->Q u s'):wpAny (model X.prog X.w) A (getAttr (.ref a) f b) Q E s:=by
 obtain ⟨mA,O,r,_,_,_⟩:=pC I.hok e
 obtain ⟨u,hu,ru⟩:=h_.some_of (v:=v) (o:=mA f) (by rw [← l];exact r f)
 exact Ao I.kIn O (c.get f) c.hd n hu (nQ ru) (h u _ (I.tok _) ru)
theorem m7 (I:Inv X Z σ H s) (e:H a=some (.ins C dx fs)) (c:zG X.K C) (k:Meth X.K C m g) (l:fs.lookup m=none)
 (h:Q (.ref g,[.ref a]) s):wpAny (model X.prog X.w) A (getMethod (.ref a) m pl) Q E s:=by
 obtain ⟨mA,O,r,_,_,_⟩:=pC I.hok e
 have hn:mA m=none:=h_.none_of (by rw [← l];exact r m)
 exact xn I.kIn O (c.get m) k.at_ k.fn hn h
theorem ul (I:Inv X Z σ H s) (e:H a=some (.ins C dx fs)) (c:zG X.K C) (n:iM X.K C f) (hl:fs.length<1000) (ry:RelV y u)
 (h:∀ s',Inv X Z σ (upd H a (.ins C dx (gK f y fs))) s'->Q () s'):wpAny (model X.prog X.w) A (setAttr (.ref a) f u) Q E s:=by
 obtain ⟨mA,O,r,wi,_,ho⟩:=pC I.hok e
 have hz:(fs.map (·.1)).length≤sizeLine:=by rw [List.length_map,sizeLine_eq];omega
 refine As I.kIn O c.sa c.po n.taker c.hd wi hz fun h' O' sb=>h _ ?_
 have hd:∃ o,h'.get? dx=some o:=let ⟨o,_,_,e',_⟩:=O'.ns;⟨o,e'⟩
 refine I.write (x:=a) (e:=dx) (by rw [e];exact True.intro) (.inr ho) (fun b q hb z=>(sb.2 b hb).trans z) hd ?_
 refine ⟨by rw [aK O.ne];exact ho,?_,O.ne,O'.obj,_,O'.ns,fun g=>?_,fun g hg=>?_⟩
 ·have:=lu f y fs;omega
 ·show h_ ((gK f y fs).lookup g) (if g=f then some u else mA g)
  rw [cU]
  by_cases q:g=f
  ·rw [if_pos q,if_pos q];exact ry
  ·rw [if_neg q,if_neg q];exact r g
 ·by_cases q:g=f
  ·rw [q];exact (ig f y fs).1
  ·refine (ig f y fs).2 g (wi g fun z=>hg ?_)
   show (if g=f then some u else mA g)=none
   rw [if_neg q];exact z
theorem Inv.made (I:Inv X Z σ H s):Inv X Z σ (upd (upd H s.heap.objs.size (.own (s.heap.objs.size+1))) (s.heap.objs.size+1) (.ins C s.heap.objs.size []))
 { s with heap:=(s.heap.push PySem.W.emptyDict).push (PySem.W.instObj C s.heap.objs.size) }:=by
 have e1:(s.heap.push PySem.W.emptyDict).get? s.heap.objs.size=some PySem.W.emptyDict:=Heap.get?_push_size s.heap rfl
 have e2:((s.heap.push PySem.W.emptyDict).push (PySem.W.instObj C s.heap.objs.size)).get? (s.heap.objs.size+1)=some (PySem.W.instObj C s.heap.objs.size):=by
  have:=Heap.get?_push_size (s.heap.push PySem.W.emptyDict) (o:=PySem.W.instObj C s.heap.objs.size) rfl
  rwa [Heap.size_push] at this
 have e3:(s.heap.push PySem.W.emptyDict).Ns s.heap.objs.size (fun _=>none):=⟨PySem.W.emptyDict,#[],_,e1,rfl,(fun e he=>absurd he (by simp)),fun _=>rfl⟩
 have I1:=I.laid (a:=s.heap.objs.size) (o:=.own (s.heap.objs.size+1)) (h':=s.heap.push PySem.W.emptyDict) (t':=s.toks) (fun b u q=>Heap.get?_push_of_some _ q) (Nat.le_refl _) ⟨_,e1⟩
 refine I1.laid (a:=s.heap.objs.size+1) (o:=.ins C s.heap.objs.size []) (t':=s.toks) (fun b u q=>Heap.get?_push_of_some _ q) (Nat.le_of_eq (Heap.size_push _ _)) ?_
 have ne:s.heap.objs.size≠s.heap.objs.size+1:=Nat.ne_of_lt (Nat.lt_succ_self _)
 refine ⟨by rw [aK ne,ak],Nat.zero_le _,ne,e2,fun _=>none,(Heap.Ns1.of_empty e3).at fun o q=>Heap.get?_push_of_some _ q,fun _=>True.intro,fun y hy=>absurd rfl hy⟩
theorem ur (hb:attributeBase e f env (eval e env)=eval e env)
 (h:wpAny (model prog w) A (eval e env) (fun o s₁=>wpAny (model prog w) A (getAttr o f true) Q E s₁) E s):wpAny (model prog w) A (eval (.Attribute e f pos) env) Q E s:=
 Attribute_any_ h (by rw [arm_eval_Attribute,hb])
end
def V2 (K:PySem.W.Frag) (ta:TE) (f:Str):TE:=fun σ H Q=>ta σ H fun x H1=>∃ a C dx fs v,x=.ref a/\H1 a=some (.ins C dx fs)/\zG K C/\iM K C f/\fs.lookup f=some v/\Q v H1
def Sh (K:PySem.W.Frag) (ta tv:TE) (f:Str):TS:=fun D σ H=>tv σ H fun y H1=>ta σ H1 fun x H2=>∃ a C dx fs,x=.ref a/\H2 a=some (.ins C dx fs)/\zG K C/\iM K C f/\fs.length<1000/\
 D.nx σ (upd H2 a (.ins C dx (gK f y fs)))
theorem pG {X:Cx} (he:PE X e ta) (hb:attributeBase e f X.env (eval e X.env)=eval e X.env):PE X (.Attribute e f pos) (V2 X.K ta f):=by
 intro Z s σ H Q I h
 refine ur hb (b_ (he Z s σ H _ I h) fun u s1 ⟨x,H1,I1,rx,a,C,dx,fs,v,ex,ea,c,n,l,q⟩=>?_)
 subst ex
 obtain rfl:u=Value.ref a:=rx
 exact uh I1 ea c n l fun u' s2 I2 ru=>⟨v,H1,I2,ru,q⟩
theorem yJ {X:Cx} {pos:Pos} (ha:PE X o ta) (hv:PE X value tv) (hs:swapsWith value (some (.Attribute o f pos')) pos.line X.env=pure false):PS X (.Assign [.Attribute o f pos'] value pos) (Sh X.K ta tv f):=by
 intro Z s σ H D I h
 refine plainObj_wpAny_Assign_Attribute (b_ (hv Z s σ H _ I h) fun u s1 ⟨y,H1,I1,ry,q⟩=>b_ (ha Z s1 σ H1 _ I1 q) fun ov s2 ⟨x,H2,I2,rx,a,C,dx,fs,ex,ea,c,n,l,q2⟩=>?_) hs
 subst ex
 obtain rfl:ov=Value.ref a:=rx
 exact ul I2 ea c n l ry fun s3 I3=>⟨σ,_,I3,q2⟩
theorem Cy {X:Cx} {pl:Sem Bool} {m:Str} {apos:Pos} {args:List Expr} {Z:List (Addr×Obj)} {s:Shared} {σ:St} {H:Hp} {Q:Value->Shared->Prop} {te:TE} (he:PE X e te) (I:Inv X Z σ H s)
 (h:te σ H fun x H1=>∃ a C dx fs g,x=.ref a/\H1 a=some (.ins C dx fs)/\zG X.K C/\Meth X.K C m g/\fs.lookup m=none/\
  ∀ s1,Inv X Z σ H1 s1->wpAny (model X.prog X.w) X.A (callWith pos (.ref g) [.ref a] (backTo pos (starEach args X.env)) (backToKw pos (keywordEach [] X.env))) Q X.xe s1)
 (ht:eval (.Call (.Attribute e m apos) args [] pos) X.env=(do
  let ov ← eval e X.env
  standAt apos.atName
  let (f,first) ← holding [ov] (getMethod ov m pl)
  callWith pos f first (backTo pos (starEach args X.env)) (backToKw pos (keywordEach [] X.env)))) :
 wpAny (model X.prog X.w) X.A (eval (.Call (.Attribute e m apos) args [] pos) X.env) Q X.xe s:=by
 refine PySem.W.methodCall_KW (pl:=pl) (b_ (he Z s σ H _ I h) fun u s1 ⟨x,H1,I1,rx,a,C,dx,fs,g,ex,ea,c,k,l,q⟩=>?_) ht
 subst ex
 obtain rfl:u=Value.ref a:=rx
 exact m7 I1 ea c k l (q s1 I1)
structure bK (k:Nat) (A:Around):Prop where
 hd:A.handled=none
 dp:A.depth+3*k+5<recursionLimit
 un:A.units+16*k+200<cLine
 gd:A.guards=some []
theorem bK.mono (r:bK k A) (h:j≤k):bK j A:=⟨r.hd,by have:=r.dp;omega,by have:=r.un;omega,r.gd⟩
theorem bK.deeper (r:bK (k+1) A) (env:Env):bK k (A.deeper env):=
 ⟨r.hd,by have:=r.dp;show A.depth+1+3*k+5<_;omega,by have:=r.un;show A.units+3+16*k+200<_;omega,r.gd⟩
theorem tG {A:Around}:(A.under (.builtin "type.__call__" ⟨.ref C::us,kw⟩)).depth=A.depth+1:=by
 first|rfl|simp [Around.under,Code.weight,Code.isCreation,Code.isGuard,Code.isCaller,Code.frames,Code.isFrame,guardIds]
theorem rO {A:Around}:(A.under (.builtin "type.__call__" ⟨.ref C::us,kw⟩)).units=A.units+1:=by
 first|rfl|simp [Around.under,Code.cUnits,Code.frames,Code.isFrame]
theorem bK.make (r:bK (k+1) A) (C:Addr) (us:List Value) (kw:List (Str×Value)):bK k (A.under (.builtin "type.__call__" ⟨.ref C::us,kw⟩)):=
 ⟨r.hd,by have:=r.dp;rw [tG];omega,by have:=r.un;rw [rO];omega,by have:=r.gd;first|exact this|(simpa [Around.under] using this)⟩
theorem bK.depth (r:bK k A):A.depth<recursionLimit:=by have:=r.dp;omega
theorem bK.units (r:bK k A):A.units+64<cLine:=by have:=r.un;omega
def Pb:TA:=fun _ H Q=>Q [] H
def uV (ta:TE) (tr:TA):TA:=fun σ H Q=>ta σ H fun x H1=>tr σ H1 fun xs H2=>Q (x::xs) H2
theorem aj:PA X [] Pb:=fun _ _ _ _ H Q I h=>Calls.spliced_nil ⟨[],H,I,.nil,h⟩
theorem aa {X:Cx} (ha:PE X e te) (hr:PA X es t) (hs:starEach (e::es) X.env=(false,eval e X.env)::starEach es X.env:=by rfl):PA X (e::es) (uV te t):=by
 intro pos Z s σ H Q I h
 rw [hs]
 show wpAny _ _ (spliced ((false,eval e X.env)::backTo pos (starEach es X.env))) _ _ s
 refine Calls.spliced_cons (b_ (ha Z s σ H _ I h) fun u s1 ⟨x,H1,I1,r1,q1⟩=>?_)
 exact b_ (hr pos Z s1 σ H1 _ I1 q1) fun us s2 ⟨xs,H2,I2,r2,q2⟩=>⟨x::xs,H2,I2,.cons r1 r2,q2⟩
def T_ (t:TA):TE:=fun σ H Q=>t σ H fun xs H1=>xs.length≤sizeLine/\∀ p,H1 p=none->Q (.ref p) (upd H1 p (.tup xs))
def Vj (t:TA):TE:=fun σ H Q=>t σ H fun xs H1=>xs.length≤sizeLine/\∀ p,H1 p=none->Q (.ref p) (upd H1 p (.lst xs))
theorem bz {x1} (h:PA X es t):PE X (.Tuple es x1 pos) (T_ t):=by
 intro Z s σ H Q I hq
 refine wpAny_Tuple_spliced (b_ (h pos Z s σ H _ I hq) fun us s1 ⟨xs,H1,I1,r,z,q⟩=>⟨by rw [← r.length];exact z,?_⟩)
 have hf:H1 s1.heap.objs.size=none:=I1.hok.fresh (Nat.le_refl _)
 refine ⟨.ref s1.heap.objs.size,upd H1 s1.heap.objs.size (.tup xs),I1.laid (t':=s1.toks) (fun b u e=>Heap.get?_push_of_some _ e) (Nat.le_refl _) ?_,rfl,q _ hf⟩
 exact ⟨z,us,r,⟨_,Heap.get?_push_size _ rfl,rfl,_,rfl⟩⟩
theorem bY (h:PA X es t):PE X (.List es pos) (Vj t):=by
 intro Z s σ H Q I hq
 refine wpAny_List_spliced (b_ (h pos Z s σ H _ I hq) fun us s1 ⟨xs,H1,I1,r,z,q⟩=>⟨by rw [← r.length];exact z,?_⟩)
 have hf:H1 s1.heap.objs.size=none:=I1.hok.fresh (Nat.le_refl _)
 refine ⟨.ref s1.heap.objs.size,upd H1 s1.heap.objs.size (.lst xs),I1.laid (t':=s1.toks) (fun b u e=>Heap.get?_push_of_some _ e) (Nat.le_refl _) ?_,rfl,q _ hf⟩
 exact ⟨z,us,0,r,Heap.get?_push_size _ rfl⟩
abbrev Sp:=List V->Hp->VK->XK->Prop
abbrev rF:=List Env->Hp->Shared->XK->Value->Shared->Prop
structure oY (P:Program) (w:World) (K:PySem.W.Frag) (mg:Str->Option Value) (base:Heap) (A:Around) (outer:List Env) (s:Shared) (H:Hp):Prop where
 frames:A.frames=some outer
 mod:Mod K mg base
 bs:∀ b o,base.get? b=some o->s.heap.get? b=some o/\H b=none
 bsz:base.objs.size≤s.heap.objs.size
 funs:s.heap.FunFrames base outer
 frf:∀ b∈frs outer,H b=none
 hok:iK P w H s.heap
 bare:AllBare s.gens
def CE (outer:List Env) (P:Program) (w:World) (H:Hp) (s:Shared) (Q:VK) (u:Value) (s':Shared):Prop:=
 ∃ v H',s'.os=s.os/\AllBare s'.gens/\Un (frs outer) [] H H' s.heap s'.heap/\iK P w H' s'.heap/\RelV v u/\Q v H'
def CR (CX:rF) (outer:List Env) (P:Program) (w:World) (H:Hp) (s:Shared) (Q:VK) (E:XK) (r:Result) (s':Shared):Prop:=
 match r with
 |.ok (.ret u)=>CE outer P w H s Q u s'
 |.ok _=>False
 |.error e=>CX outer H s E e s'
structure aQ (P:Program) (w:World) (K:PySem.W.Frag) (mg:Str->Option Value) (base:Heap) (CX:rF) (k:Nat) (f:Addr) (fd:FuncData) (ps:List Str) (sp:Sp):Prop where
 len:∀ vs H Q E,sp vs H Q E->vs.length=ps.length
 run:∀ (A:Around) (outer:List Env) (s:Shared) (H:Hp) (args:Args) (us:List Value) (vs:List V) (Q:VK) (E:XK),bK k A->oY P w K mg base A outer s H->BindsTo s fd args (ps.zip us)->Vals vs us->sp vs H Q E->
  codeAny (model P w) A (.call (.ref f) args) (CR CX outer P w H s Q E) s
theorem oY.make {P:Program} {w:World} {K:PySem.W.Frag} {mg:Str->Option Value} {base:Heap} {A:Around} {outer:List Env} {s:Shared} {H:Hp} (e:oY P w K mg base A outer s H) (C:Addr) (us:List Value) (kw:List (Str×Value)) :
 oY P w K mg base (A.under (.builtin "type.__call__" ⟨.ref C::us,kw⟩)) outer s H:=⟨by first|exact e.frames|(simpa [Around.under,Code.envs,Code.isFrame,pushEnvs] using e.frames),e.mod,e.bs,e.bsz,e.funs,e.frf,e.hok,e.bare⟩
theorem Inv.env0 (I:Inv X Z σ H s):oY X.prog X.w X.K X.mg X.base X.A X.stack s H:=
 ⟨I.ok.frames,I.ok.mod,I.bs,Nat.le_trans I.ok.bsz I.sz,I.stack,I.stkFree,I.hok,I.bare⟩
theorem Inv.after (I:Inv X Z σ H s) (h:CE X.stack X.prog X.w H s Q u s'):EP X Z σ Q u s':=by
 obtain ⟨v,H',os,bare,un,hok,r,q⟩:=h
 obtain ⟨hh,g,d,t,os'⟩:=s'
 obtain rfl:os'=s.os:=os
 exact ⟨v,H',I.call (h':=hh) (g':=g) (d':=d) (t':=t) (ch:=[]) un hok bare (fun b z=>absurd z (by simp)),r,q⟩
def xO (sp:Sp) (dvs:List V) (E:XK) (t:TA):TE:=fun σ H Q=>t σ H fun vs H1=>sp (vs++dvs) H1 Q E
def Qt (C:Addr) (m:Str) (sp:Sp) (dvs:List V) (E:XK) (ta:TE) (t:TA):TE:=fun σ H Q=>ta σ H fun x H1=>∃ a dx fs,x=.ref a/\H1 a=some (.ins C dx fs)/\fs.lookup m=none/\
 t σ H1 fun vs H2=>sp (x::(vs++dvs)) H2 Q E
def QB (C:Addr) (sp:Sp) (dvs:List V) (E:XK) (t:TA):TE:=fun σ H Q=>t σ H fun vs H1=>∀ x dx,H1 x=none->H1 dx=none->dx≠x->
 sp (.ref x::(vs++dvs)) (upd (upd H1 dx (.own x)) x (.ins C dx [])) (fun v H2=>v=.non/\Q (.ref x) H2) E
def Binds (K:PySem.W.Frag) (fd:FuncData) (ps:List Str) (ds:List Value):Prop:=
 ∀ (s:Shared) (us:List Value),K.In s.heap->(us++ds).length=ps.length->BindsTo s fd ⟨us,[]⟩ (ps.zip (us++ds))
theorem Binds.all {K:PySem.W.Frag} {fd:FuncData} {ps:List Str} (h:∀ us:List Value,us.length=ps.length->bindArgs fd ⟨us,[]⟩=pure (ps.zip us)):Binds K fd ps []:=fun s us _ hl=>by
 rw [List.append_nil] at hl ⊢
 exact .of_eq (h us hl)
def eF (CX:rF) (X:Cx) (E:XK):Prop:=∀ (Z:List (Addr×Obj)) (σ:St) (H:Hp) (s:Shared) (e:Value) (s':Shared),Inv X Z σ H s->CX X.stack H s E e s'->X.xe e s'
section
variable {X:Cx} {CX:rF} {k:Nat} {f C:Addr} {fd:FuncData} {ps:List Str} {sp:Sp} {dvs:List V} {ds:List Value} {E:XK} {x m:Str} {p pos apos:Pos} {e o:Expr} {es:List Expr} {ta:TE} {t:TA}
theorem rT (F:aQ X.prog X.w X.K X.mg X.base CX k f fd ps sp) (hr:bK k X.A) (hb:Binds X.K fd ps ds) (hd:Vals dvs ds) (hx:eF CX X E)
 (I:Inv X Z σ H s) (r:Vals vs us) (h:sp (vs++dvs) H Q E):wpAny (model X.prog X.w) X.A (call (.ref f) us) (EP X Z σ Q) X.xe s:=by
 have r2:Vals (vs++dvs) (us++ds):=r.append hd
 have hl:(us++ds).length=ps.length:=by rw [← r2.length];exact F.len _ _ _ _ h
 refine wpAny_call (codeAny_mono (F.run X.A X.stack s H ⟨us,[]⟩ (us++ds) (vs++dvs) Q E hr I.env0 (hb s us I.kIn hl) r2 h) fun r s' hq=>?_)
 cases r with
 |error e=>exact hx Z σ H s e s' I hq
 | ok fl=>
   cases fl with
   |ret u=>exact I.after hq
   |next=>exact False.elim hq
   |brk=>exact False.elim hq
   |cont=>exact False.elim hq
theorem aD (F:aQ X.prog X.w X.K X.mg X.base CX k f fd ps sp) (hr:bK k X.A) (hg:Gl X x) (hm:X.mg x=some (.ref f)) (hk:PySem.W.keepIn X.K (.ref f)=true) (hb:Binds X.K fd ps ds) (hd:Vals dvs ds) (hx:eF CX X E)
 (ha:PA X (e::es) t) (hdb:(x == ("__debug__" : Str))=false:=by decide) (he:starEach (e::es) X.env=(false,eval e X.env)::starEach es X.env:=by rfl) (hpl:(backTo pos (starEach es X.env)).any (·.1)=false:=by rfl) :
 PE X (.Call (.Name x p) (e::es) [] pos) (xO sp dvs E t):=by
 intro Z s σ H Q I h
 refine wpAny_Call_Name_kw (jf I hg hm ?_ hdb)
 refine PySem.W.callWith_K (h₀:=X.base) I.ok.mod.kin hk (b_ (ha pos Z s σ H _ I h) fun us s1 ⟨vs,H1,I1,r,q⟩=>⟨I1.kIn,?_⟩) he hpl
 exact rT F hr hb hd hx I1 r q
theorem uB {pl:Sem Bool} (he:PE X o ta) (c:zG X.K C) (hm:Meth X.K C m f) (F:aQ X.prog X.w X.K X.mg X.base CX k f fd ps sp) (hr:bK k X.A) (hb:Binds X.K fd ps ds) (hd:Vals dvs ds) (hx:eF CX X E) (ha:PA X (e::es) t)
 (hst:starEach (e::es) X.env=(false,eval e X.env)::starEach es X.env:=by rfl) (hpl:(backTo pos (starEach es X.env)).any (·.1)=false:=by rfl)
 (ht:eval (.Call (.Attribute o m apos) (e::es) [] pos) X.env=(do
  let ov ← eval o X.env
  standAt apos.atName
  let (f,first) ← holding [ov] (getMethod ov m pl)
  callWith pos f first (backTo pos (starEach (e::es) X.env)) (backToKw pos (keywordEach [] X.env))):=by rfl) :
 PE X (.Call (.Attribute o m apos) (e::es) [] pos) (Qt C m sp dvs E ta t):=by
 intro Z s σ H Q I h
 refine PySem.W.methodCall_KW (pl:=pl) (b_ (he Z s σ H _ I h) fun u s1 ⟨x,H1,I1,rx,a,dx,fs,ex,ea,l,q⟩=>?_) ht
 subst ex
 obtain rfl:u=Value.ref a:=rx
 refine m7 I1 ea c hm l ?_
 refine PySem.W.callWith_K (first:=[.ref a]) (h₀:=X.base) I.ok.mod.kin hm.kp (b_ (ha pos Z s1 σ H1 _ I1 q) fun us s2 ⟨vs,H2,I2,r,q2⟩=>⟨I2.kIn,?_⟩) hst hpl
 exact rT (us:=.ref a::us) (vs:=.ref a::vs) F hr hb hd hx I2 (.cons rfl r) q2
structure Mk (K:PySem.W.Frag) (C f:Addr):Prop where
 makes:PySem.W.makesIn K C=true
 init:PySem.W.findIn K (.ref C) "__init__" = some (some (.ref f))
 fn:PySem.W.isFn K (.ref f)=true
 kp:PySem.W.keepIn K (.ref C)=true
theorem yU (M:Mk X.K C f) (F:aQ X.prog X.w X.K X.mg X.base CX k f fd ps sp) (hr:bK (k+1) X.A) (hb:Binds X.K fd ps ds) (hd:Vals dvs ds)
 (hx:eF CX X E) (I:Inv X Z σ H s) (r:Vals vs us)
 (h:∀ x dx,H x=none->H dx=none->dx≠x->sp (.ref x::(vs++dvs)) (upd (upd H dx (.own x)) x (.ins C dx [])) (fun v H2=>v=.non/\Q (.ref x) H2) E) :
 wpAny (model X.prog X.w) X.A (call (.ref C) us) (EP X Z σ Q) X.xe s:=by
 have hq:=h (s.heap.objs.size+1) s.heap.objs.size (I.hok.fresh (Nat.le_succ _)) (I.hok.fresh (Nat.le_refl _)) (Nat.ne_of_lt (Nat.lt_succ_self _))
 have I2:=Inv.made (C:=C) I
 have r2:Vals (V.ref (s.heap.objs.size+1)::(vs++dvs)) (Value.ref (s.heap.objs.size+1)::(us++ds)):=.cons rfl (r.append hd)
 have hl:(Value.ref (s.heap.objs.size+1)::us++ds).length=ps.length:=by
  have e:=r2.length
  rw [F.len _ _ _ _ hq] at e
  exact e.symm
 refine wpAny_call (yD (f:=f) I.kIn M.makes M.init (beq_iff_eq.mp M.fn) (codeAny_mono (F.run _ X.stack _ _ ⟨Value.ref (s.heap.objs.size+1)::us,[]⟩ (Value.ref (s.heap.objs.size+1)::(us++ds)) _ _ E (hr.make C us [])
  (I2.env0.make C us []) (hb _ (Value.ref (s.heap.objs.size+1)::us) I2.kIn hl) r2 hq) fun r s' hq'=>?_))
 cases r with
 |error e=>exact hx Z σ _ _ e s' I2 hq'
 | ok fl=>
   cases fl with
   | ret u=>
     obtain ⟨v,H',I3,rv,ev,q3⟩:=I2.after hq'
     subst ev
     exact ⟨rv,⟨V.ref (s.heap.objs.size+1),H',I3,rfl,q3⟩⟩
   |next=>exact False.elim hq'
   |brk=>exact False.elim hq'
   |cont=>exact False.elim hq'
theorem v5 (M:Mk X.K C f) (F:aQ X.prog X.w X.K X.mg X.base CX k f fd ps sp) (hr:bK (k+1) X.A) (hg:Gl X x) (hm:X.mg x=some (.ref C)) (hb:Binds X.K fd ps ds) (hd:Vals dvs ds) (hx:eF CX X E)
 (ha:PA X (e::es) t) (hdb:(x == ("__debug__" : Str))=false:=by decide) (he:starEach (e::es) X.env=(false,eval e X.env)::starEach es X.env:=by rfl) (hpl:(backTo pos (starEach es X.env)).any (·.1)=false:=by rfl) :
 PE X (.Call (.Name x p) (e::es) [] pos) (QB C sp dvs E t):=by
 intro Z s σ H Q I h
 refine wpAny_Call_Name_kw (jf I hg hm ?_ hdb)
 refine PySem.W.callWith_K (h₀:=X.base) I.ok.mod.kin M.kp (b_ (ha pos Z s σ H _ I h) fun us s1 ⟨vs,H1,I1,r,q⟩=>⟨I1.kIn,?_⟩) he hpl
 exact yU M F hr hb hd hx I1 r q
end
structure aU (N P:List Str) (sc:Scope):Prop where
 kind:sc.kind=.function
 co:sc.isCoroutine=false
 gen:sc.isGenerator=false
 nd:N.Nodup
 pre:N.take P.length=P
 par:∀ x∈P,sc.names.lookup x=some .local∨sc.names.lookup x=some .cell
 nofree:∀ y∈sc.names,y.2≠.free
theorem nP {kindOf:Str->Option NameKind} {x:Str}:∀ {binds:List (Str×Value)} {m:Str->Option Value},(∀ v,(x,v)∉binds)->bindL kindOf binds m x=m x
 |[],_,_=>rfl
 | (n,v)::r,m,h=>by
   unfold bindL
   rw [nP fun w hw=>h w (List.mem_cons_of_mem _ hw)]
   split
   ·have:x≠n:=by rintro rfl;exact h v List.mem_cons_self
    simp [this]
   ·rfl
theorem oE {kindOf:Str->Option NameKind} {x:Str}:∀ {binds:List (Str×Value)} {m:Str->Option Value},(∀ v,(x,v)∉binds)->bindC kindOf binds m x=m x
 |[],_,_=>rfl
 | (n,v)::r,m,h=>by
   unfold bindC
   rw [oE fun w hw=>h w (List.mem_cons_of_mem _ hw)]
   split
   ·rfl
   ·have:x≠n:=by rintro rfl;exact h v List.mem_cons_self
    simp [this]
theorem oG {kindOf:Str->Option NameKind}:∀ {P:List Str} {vs:List Value} {i:Nat} {m:Str->Option Value},P.Nodup->P[i]?=some x->vs[i]?=some v->kindOf x=some .local->
 bindL kindOf (P.zip vs) m x=some v
 |[],_,_,_,_,h,_,_=>by simp at h
 |_::_,[],_,_,_,_,h,_=>by simp at h
 | p::P,w::vs,0,m,nd,h1,h2,hk=>by
   simp at h1 h2;subst h1;subst h2
   show bindL kindOf ((p,w)::P.zip vs) m p=_
   unfold bindL
   rw [nP fun v hv=>(List.nodup_cons.mp nd).1 (List.of_mem_zip hv).1,if_pos hk]
   simp
 | p::P,w::vs,i+1,m,nd,h1,h2,hk=>by
   show bindL kindOf ((p,w)::P.zip vs) m x=_
   unfold bindL
   exact oG (i:=i) (List.nodup_cons.mp nd).2 (by simpa using h1) (by simpa using h2) hk
theorem oh {kindOf:Str->Option NameKind}:∀ {P:List Str} {vs:List Value} {i:Nat} {m:Str->Option Value},P.Nodup->P[i]?=some x->vs[i]?=some v->kindOf x≠some .local->
 bindC kindOf (P.zip vs) m x=some v
 |[],_,_,_,_,h,_,_=>by simp at h
 |_::_,[],_,_,_,_,h,_=>by simp at h
 | p::P,w::vs,0,m,nd,h1,h2,hk=>by
   simp at h1 h2;subst h1;subst h2
   show bindC kindOf ((p,w)::P.zip vs) m p=_
   unfold bindC
   rw [oE fun v hv=>(List.nodup_cons.mp nd).1 (List.of_mem_zip hv).1,if_neg hk]
   simp
 | p::P,w::vs,i+1,m,nd,h1,h2,hk=>by
   show bindC kindOf ((p,w)::P.zip vs) m x=_
   unfold bindC
   exact oh (i:=i) (List.nodup_cons.mp nd).2 (by simpa using h1) (by simpa using h2) hk
def start (N:List Str) (vs:List V):St:=vs.map some++List.replicate (N.length-vs.length) none
def iH (CX:rF) (P:Program) (w:World) (K:PySem.W.Frag) (mg:Str->Option Value) (base:Heap) (N:List Str) (qual:Str) (scope:Scope) (f:Addr) (cd:Value) (A:Around) (outer:List Env) (s:Shared) (H:Hp) (E:XK):Cx where
 prog:=P
 w:=w
 K:=K
 mg:=mg
 base:=base
 A:=A.deeper (envOfC qual scope s.heap.objs.size f cd)
 N:=N
 s₀:=s
 H₀:=H
 env:=envOfC qual scope s.heap.objs.size f cd
 outer:=outer
 stack:=envOfC qual scope s.heap.objs.size f cd::outer
 ex:=[]
 calm:=true
 fn:=fun _=>true
 pn:=[]
 xe:=fun e s'=>wpAny (model P w) (A.deeper (envOfC qual scope s.heap.objs.size f cd)) (leaving (envOfC qual scope s.heap.objs.size f cd) e) (fun _ s''=>CX outer H s E e s'') (fun e' s''=>CX outer H s E e' s'') s'
theorem rB {sc:Scope} (h:sc.names.lookup x=some .cell):∃ c,(cellsFrom n sc.names []).lookup x=some c:=by
 have q:=PySem.W.cellsFrom_some sc.names n [] (.inl h)
 exact Option.isSome_iff_exists.mp q
theorem ou {CX:rF} {P:Program} {w:World} {K:PySem.W.Frag} {mg:Str->Option Value} {base:Heap} {N ps:List Str} {qual:Str} {scope:Scope} {f:Addr} {cd:Value} {A:Around} {outer:List Env} {s s1:Shared} {H:Hp} {E:XK} {us:List Value} {vs:List V}
 (S:aU N ps scope) (hd:A.handled=none) (e0:oY P w K mg base A outer s H) (hl:vs.length=ps.length) (r:Vals vs us)
 (x:InCallC s s.heap.objs.size (bindL (envOfC qual scope s.heap.objs.size f cd).kindOf (ps.zip us) fun _=>none) (cellsFrom (s.heap.objs.size+1) scope.names []) (bindC (envOfC qual scope s.heap.objs.size f cd).kindOf (ps.zip us) fun _=>none) s1) :
 Inv (iH CX P w K mg base N qual scope f cd A outer s H E) [] (start N vs) H s1:=by
 have hpl:ps.length≤N.length:=by have:=congrArg List.length S.pre;rw [List.length_take] at this;omega
 obtain ⟨h1,tk,rfl,hk⟩:=x.done
 have noA:∀ b:Addr,b∉(iH CX P w K mg base N qual scope f cd A outer s H E).ex:=fun b z=>absurd (show b∈([]:List Addr) from z) (by simp)
 refine ⟨⟨e0.mod,S.kind,rfl,rfl,Nat.le_refl _,fun y z c h1 h2=>?_,fun y hy=>?_,fun y c _ h=>?_,fun _=>hd,Around.frames_deeper e0.frames,.inr ⟨rfl,rfl⟩,fun b z=>absurd z (noA b),e0.bs,e0.bsz,fun b _ _=>noA b,fun b z=>absurd z (noA b),e0.funs,e0.frf⟩,
  rfl,e0.bare,Un.kept hk,⟨_,x.toInCall.ns,fun i y v h1 h2 h3=>?_⟩,fun y c h=>⟨_,x.cell y c h⟩,e0.hok.fresh (Nat.le_refl _),fun y c h=>?_,fun p hp=>absurd (show p∈([]:List (Addr×Obj)) from hp) (by simp),e0.hok.kept hk,?_⟩
 ·exact name_of_addr x.apart (PySem.mem_of_lookup h1) (PySem.mem_of_lookup h2)
 ·have hy:scope.names.lookup y=some .cell∨scope.names.lookup y=some .free:=hy
  rcases hy with hy|hy
  ·exact rB hy
  ·exact absurd rfl (S.nofree _ (PySem.mem_of_lookup hy))
 ·exact Nat.le_of_lt (x.above y c (PySem.mem_of_lookup h))
 ·have hi:i<vs.length:=by
   unfold start at h2
   by_cases hi:i<vs.length
   ·exact hi
   ·rw [List.getElem?_append_right (by simpa using hi)] at h2
    rw [List.getElem?_replicate] at h2
    split at h2 <;> cases h2
  have ha:vs[i]?=some v:=by
   unfold start at h2
   rw [List.getElem?_append_left (by simpa using hi),List.getElem?_map] at h2
   cases e:vs[i]? with
   |none=>rw [e] at h2;cases h2
   |some a=>rw [e] at h2;cases h2;rfl
  obtain ⟨u,hu,rv⟩:=r.get ha
  have hp:ps[i]?=some y:=by
   rw [← S.pre,List.getElem?_take_of_lt (by omega)];exact h1
  have ndP:ps.Nodup:=by rw [← S.pre];exact S.nd.sublist (List.take_sublist _ _)
  refine ⟨u,rv,?_⟩
  rcases S.par y (List.mem_of_getElem? hp) with k|k
  ·exact .inl ⟨k,oG ndP hp hu k⟩
  ·obtain ⟨c,e⟩:=rB (n:=s.heap.objs.size+1) k
   refine .inr ⟨.inl k,c,e,?_⟩
   have q:=x.cell y c e
   rw [oh ndP hp hu (by show scope.names.lookup y≠_;rw [k];decide)] at q
   exact q
 ·exact e0.hok.fresh (Nat.le_of_lt (x.above y c (PySem.mem_of_lookup h)))
 ·unfold start
  show _=N.length
  rw [List.length_append,List.length_map,List.length_replicate]
  omega
theorem qx {CX:rF} {P:Program} {w:World} {K:PySem.W.Frag} {mg:Str->Option Value} {base:Heap} {k:Nat} {f:Addr} {name qual:Str} {params:Arguments} {body:List Stmt} {scope:Scope} {dV kV doc pm cdv ct oc:Value} {an od:Option Addr}
 {osl:Array (Option Value)} {N ps:List Str} {sp:Sp} (lk:K.lookup f=some ⟨oc,od,.func (PySem.W.fnOf name qual params body scope dV kV doc pm an cdv ct),osl⟩) (hcd:PySem.W.codeIn K cdv qual=true) (S:aU N ps scope)
 (len:∀ vs H Q E,sp vs H Q E->vs.length=ps.length)
 (hbody:∀ (A:Around) (outer:List Env) (s:Shared) (H:Hp) (vs:List V) (Q:VK) (E:XK),bK k (A.deeper (envOfC qual scope s.heap.objs.size f cdv))->sp vs H Q E->
  ∃ t,p7 (iH CX P w K mg base N qual scope f cdv A outer s H E) body t/\t { nx:=fun _ H'=>Q .non H',rt:=Q } (start N vs) H) :
 aQ P w K mg base CX (k+1) f (PySem.W.fnOf name qual params body scope dV kV doc pm an cdv ct) ps sp:=by
 refine ⟨len,fun A outer s H args us vs Q E hr e0 hb r hsp=>?_⟩
 have hl:=len _ _ _ _ hsp
 have KX:K.In s.heap:=e0.mod.kin.keeps fun b o e=>(e0.bs b o e).1
 have lim:s.heap.NoLimit:=e0.mod.nolimit.keeps fun b o e=>(e0.bs b o e).1
 have hkind:∀ y∈ps.zip us,scope.names.lookup y.1=some .local∨(scope.names.lookup y.1=some .cell/\((cellsFrom (s.heap.objs.size+1) scope.names []).lookup y.1).isSome=true):=fun ⟨n,v⟩ hy=>by
  rcases S.par n (List.of_mem_zip hy).1 with q|q
  ·exact .inl q
  ·exact .inr ⟨q,PySem.W.cellsFrom_some _ _ _ (.inl q)⟩
 refine codeAny_call_function hr.depth (KX _ _ lk) rfl S.co S.gen rfl (PySem.W.codeRec_of KX hcd) (hb _ _ _ _ ?_)
 refine wpAny_newFunctionEnv_cells S.kind hkind fun env he s1 x=>?_
 subst he
 refine ⟨lim.keeps x.toInCall.keep,codeAny_func ?_⟩
 obtain ⟨t,ht,hq⟩:=hbody A outer s H vs Q E (hr.deeper _) hsp
 have I:Inv (iH CX P w K mg base N qual scope f cdv A outer s H E) [] (start N vs) H s1:=ou S hr.hd e0 hl r x
 refine wpAny_mono (ht [] s1 (start N vs) H _ I hq) (fun fl s' hs=>?_) fun e s' hs=>hs
 have fin:∀ {σ':St} {H':Hp} {v:V} {u:Value},Inv (iH CX P w K mg base N qual scope f cdv A outer s H E) [] σ' H' s'->RelV v u->Q v H'->CE outer P w H s Q u s':=
  fun {σ' H' v u} J rv q=>⟨v,H',J.os,J.bare,J.base,J.hok,rv,q⟩
 cases fl with
 | ret u=>
   obtain ⟨v,σ',H',J,rv,q⟩:=hs
   exact fin J rv q
 | next=>
   obtain ⟨σ',H',J,q⟩:=hs
   exact fin (v:=V.non) (u:=Value.none) J rfl q
 | brk=>
   obtain ⟨_,_,_,q⟩:=hs
   exact False.elim q
 | cont=>
   obtain ⟨_,_,_,q⟩:=hs
   exact False.elim q
section
variable {X:Cx} {x:Str} {p pos:Pos} {e:Expr} {es:List Expr} {t:TA} {id T:String} {r:List V->Hp->VK->Prop}
def VD (r:List V->Hp->VK->Prop) (t:TA):TE:=fun σ H Q=>t σ H fun vs H1=>r vs H1 Q
theorem aG (hc:gH X (.builtin id) r) (hg:Gl X x) (hm:X.mg x=none) (hv:bootBuiltins x=some (.builtin id)) (ha:PA X (e::es) t) (hn:x ≠ "__name__":=by decide) (hdb:(x == ("__debug__" : Str))=false:=by decide)
 (he:starEach (e::es) X.env=(false,eval e X.env)::starEach es X.env:=by rfl) (hpl:(backTo pos (starEach es X.env)).any (·.1)=false:=by rfl):PE X (.Call (.Name x p) (e::es) [] pos) (VD r t):=by
 intro Z s σ H Q I h
 refine wpAny_Call_Name_kw (fG I hg hm hv ?_ hn hdb)
 exact PyProof.Rows.callWith_builtin1 (b_ (ha pos Z s σ H _ I h) fun us s1 ⟨vs,H1,I1,r1,q1⟩=>hc Z s1 σ H1 vs us Q I1 r1 q1) he hpl
theorem j7 (hc:gH X (.type T) r) (hg:Gl X x) (hm:X.mg x=none) (hv:bootBuiltins x=some (.type T)) (ha:PA X (e::es) t) (hn:x ≠ "__name__":=by decide) (hdb:(x == ("__debug__" : Str))=false:=by decide)
 (he:starEach (e::es) X.env=(false,eval e X.env)::starEach es X.env:=by rfl) (hpl:(backTo pos (starEach es X.env)).any (·.1)=false:=by rfl):PE X (.Call (.Name x p) (e::es) [] pos) (VD r t):=by
 intro Z s σ H Q I h
 refine wpAny_Call_Name_kw (fG I hg hm hv ?_ hn hdb)
 exact PyProof.Rows.callWith_type1 (b_ (ha pos Z s σ H _ I h) fun us s1 ⟨vs,H1,I1,r1,q1⟩=>hc Z s1 σ H1 vs us Q I1 r1 q1) he hpl
end
end L2
namespace HT
open PySem PyProof.Rows
section
open PySem.SeqAt
open PySem.AutoSeq1 (wpAny_loadPart')
open PySem.MeetsSeq PySem.MeetsSeq2 PySem.MeetsSeq3
end
section
variable {prog:Program} {w:World} {A:Around} {E:Value->Shared->Prop} {s:Shared}
theorem Ai (ht:IsTup s.heap t vs.toArray) (hb:IsTup s.heap b ws.toArray) (hv:vs≠[])
 (h1:ws=[]->Q (.ref t) s) (h2:ws≠[]->Q (.ref s.heap.objs.size) { s with heap:=s.heap.push { cls:=.type "tuple",data:=.seq (vs++ws).toArray } })
 (hsz:vs.length+ws.length≤sizeLine):wpAny (model prog w) A (binaryOp .Add (.ref t) (.ref b)) Q E s:=by
 obtain ⟨⟨cls,dd,data,sl⟩,ho,hc,n,hd⟩:=id ht
 obtain ⟨⟨cls2,dd2,data2,sl2⟩,ho2,hc2,n2,hd2⟩:=id hb
 simp only at hc hd hc2 hd2
 subst hc hd hc2 hd2
 have e:vs.toArray++ws.toArray=(vs++ws).toArray:=by simp
 by_cases hw:ws=[]
 ·exact concat_meets ⟨_,ho,rfl⟩ ⟨_,ho2,rfl⟩ noFill_tuple_add seq_tuple_add PySem.F.slot_tuple_add PySem.F.entry_tuple_add (PySem.F.args_tuple_add_2 _ _)
   (tuple_addW1 t b vs.toArray ws.toArray n n2 dd dd2 sl sl2 (by simpa using hv) (by simp [hw])) ⟨ho,ho2,h1 hw⟩
 ·refine concat_meets ⟨_,ho,rfl⟩ ⟨_,ho2,rfl⟩ noFill_tuple_add seq_tuple_add PySem.F.slot_tuple_add PySem.F.entry_tuple_add (PySem.F.args_tuple_add_2 _ _)
   (tuple_addW2 t b vs.toArray ws.toArray n n2 dd dd2 sl sl2 (by simpa using hv) (by simpa using hw) (by rw [List.size_toArray,List.size_toArray];exact hsz)) ⟨ho,ho2,?_⟩
  rw [e]
  exact h2 hw
def dR (n d:Nat):Option Int->Nat
 |none=>d
 |some v=>if v<0 then (v+(n:Int)).toNat else min v.toNat n
theorem jP (n d:Nat):dR n d none=d:=rfl
theorem pU (n d k:Nat):dR n d (some (k:Int))=min k n:=by
 show (if (k:Int)<0 then ((k:Int)+(n:Int)).toNat else min (k:Int).toNat n)=min k n
 rw [if_neg (by omega),Int.toNat_natCast]
theorem Fy (n d:Nat) (hd:d≤n) (o:Option Int):dR n d o≤n:=by
 cases o with
 |none=>exact hd
 | some v=>
   show (if v<0 then (v+(n:Int)).toNat else min v.toNat n)≤n
   by_cases hv:v<0
   ·rw [if_pos hv];omega
   ·rw [if_neg hv];exact Nat.min_le_right _ _
theorem uW (v:Int) (n d:Nat):(if v<0 then max (v+(n:Int)) 0 else min v (n:Int))=((dR n d (some v):Nat):Int):=by
 show (if v<0 then max (v+(n:Int)) 0 else min v (n:Int))=(((if v<0 then (v+(n:Int)).toNat else min v.toNat n):Nat):Int)
 by_cases hv:v<0
 ·simp only [if_pos hv];omega
 ·simp only [if_neg hv];omega
theorem sX (lo hi:Option Int) (n:Nat):Builtin.Slice.sliceAdjust lo hi 1 (n:Int)=(((dR n 0 lo:Nat):Int),((dR n n hi:Nat):Int)):=by
 have h1:¬ ((1:Int)<0):=by omega
 unfold Builtin.Slice.sliceAdjust
 simp only [h1,if_false]
 refine Prod.ext ?_ ?_
 ·cases lo with
  |none=>rfl
  |some v=>exact uW v n 0
 ·cases hi with
  |none=>rfl
  |some v=>exact uW v n n
theorem su (i j:Nat):Builtin.Slice.slicePlaces (i:Int) (j:Int) 1=j-i:=by
 unfold Builtin.Slice.slicePlaces
 have h1:(1:Int) > 0:=by omega
 simp only [h1,if_true,Int.ediv_one]
 split <;> omega
theorem mV (p:IsPart v o) (h:Q o s):wpAny (model prog w) A (Builtin.Slice.slicePartIndex v) Q E s:=by
 cases p with
 |none=>exact slicePart_none h
 |int i t=>exact slicePart_int h
theorem gW {sl:Addr} {vl vu:Value} {lo hi:Option Int} {n:Nat} {Q:Int×Int×Nat->Shared->Prop} (hs:s.heap.IsSliceOf sl vl vu .none) (pl:IsPart vl lo) (pu:IsPart vu hi)
 (h:Q (((dR n 0 lo:Nat):Int),1,dR n n hi-dR n 0 lo) s):wpAny (model prog w) A (Builtin.Slice.sliceApplied (.ref sl) (pure (n:Int))) Q E s:=by
 obtain ⟨os,hos,hcs,hds⟩:=id hs
 unfold Builtin.Slice.sliceApplied Builtin.Slice.sliceFields
 refine wpAny_bind (wpAny_bind (wpAny_field hos hds (x:=vl) rfl (wpAny_bind (wpAny_field hos hds (x:=vu) rfl (wpAny_bind (wpAny_field hos hds (x:=.none) rfl (wpAny_pure ?_)))))))
 refine wpAny_bind (slicePart_none ?_)
 show wpAny _ _ (if ((1:Int) == 0)=true then _ else _) _ _ s
 rw [if_neg (by decide)]
 refine wpAny_bind (mV pl (wpAny_bind (mV pu (wpAny_bind (wpAny_pure ?_)))))
 show wpAny _ _ (match Builtin.Slice.sliceAdjust lo hi 1 (n:Int) with|(lo,hi)=>pure (lo,(1:Int),Builtin.Slice.slicePlaces lo hi 1)) _ _ s
 rw [sX lo hi n]
 show wpAny _ _ (pure (((dR n 0 lo:Nat):Int),(1:Int),Builtin.Slice.slicePlaces ((dR n 0 lo:Nat):Int) ((dR n n hi:Nat):Int) 1)) _ _ s
 rw [su]
 exact wpAny_pure h
theorem yC (xs:Array Value) (i k:Nat):((List.range k).filterMap fun (m:Nat)=>xs[((i:Int)+(m:Int)*1).toNat]?).toArray=((xs.toList.drop i).take k).toArray:=by
 have e:(fun (m:Nat)=>xs[((i:Int)+(m:Int)*1).toNat]?)=fun m=>xs[i+m]?:=by
  funext m
  have:((i:Int)+(m:Int)*1).toNat=i+m:=by omega
  rw [this]
 rw [e]
 have:=pick_run xs i k
 rw [List.filterMap_map] at this
 have e2:((fun x=>xs[x]?) ∘ fun x=>i+x)=fun m=>xs[i+m]?:=rfl
 rw [e2] at this
 rw [this]
theorem jK {t sl:Addr} {items:Array Value} {vl vu:Value} {lo hi:Option Int} {Q:Value->Shared->Prop} (ht:IsTup s.heap t items) (hs:s.heap.IsSliceOf sl vl vu .none) (pl:IsPart vl lo) (pu:IsPart vu hi)
 (hw:¬ (dR items.size 0 lo=0/\dR items.size items.size hi=items.size))
 (h:Q (.ref s.heap.objs.size) { s with heap:=s.heap.push { cls:=.type "tuple",data:=.seq ((items.toList.drop (dR items.size 0 lo)).take (dR items.size items.size hi-dR items.size 0 lo)).toArray } })
 (hsz:items.size≤sizeLine):wpAny (model prog w) A (getItem (.ref t) (.ref sl)) Q E s:=by
 have htake:sizeOk (.seq ((items.toList.drop (dR items.size 0 lo)).take (dR items.size items.size hi-dR items.size 0 lo)).toArray):=by
  show ((items.toList.drop (dR items.size 0 lo)).take (dR items.size items.size hi-dR items.size 0 lo)).toArray.size≤sizeLine
  rw [List.size_toArray,List.length_take,List.length_drop,Array.length_toList]
  omega
 have hj:dR items.size items.size hi≤items.size:=Fy _ _ (Nat.le_refl _) hi
 obtain ⟨os,hos,hcs,hds⟩:=id hs
 have hTs:s.TypeIs (.ref sl) "slice":=⟨os,hos,hcs⟩
 unfold getItem
 try with_reducible refine wpAny_holding ?_
 first|refine wpAny_bind (wpAny_pure ?_)|skip
 refine wpAny_bind (wpAny_sequenceKey ht.typeIs (by decide) ?_)
 refine wpAny_bind (wpAny_callSpecial?_slot (name:=Str.ofString "__getitem__") ht.typeIs PyProof.Rows.slot_tuple_getitem
  (wpAny_call_entry PyProof.Rows.slot_tuple_getitem ht.typeIs entry_tuple_getitem ?_ (args_tuple_getitem _ _)))
 show wpAny _ _ (Builtin.Tuple.tupleItemsOf (.ref t) >>= _) _ _ s
 refine wpAny_bind (tupleItemsOf_ ht ?_)
 refine wpAny_bind (wpAny_typeOf hTs ?_)
 rw [if_pos (by decide)]
 refine wpAny_bind (gW hs pl pu ?_)
 have hno:¬ ((((dR items.size 0 lo:Nat):Int) == 0 && (1:Int) == 1 && (dR items.size items.size hi-dR items.size 0 lo) == items.size)=true):=by
  intro q
  rw [Bool.and_eq_true,Bool.and_eq_true] at q
  have q1:((dR items.size 0 lo:Nat):Int)=0:=eq_of_beq q.1.1
  have q2:dR items.size items.size hi-dR items.size 0 lo=items.size:=eq_of_beq q.2
  exact hw ⟨by omega,by omega⟩
 show wpAny _ _ (if (((dR items.size 0 lo:Nat):Int) == 0 && (1:Int) == 1 && (dR items.size items.size hi-dR items.size 0 lo) == items.size)=true then _ else _) _ _ s
 rw [if_neg hno,yC]
 first
  |exact wpAny_bind (m:=Builtin.Tuple.tupleExact _) (wpAny_newObj_type (wpAny_pure ⟨_,rfl,wpAny_pure h⟩) htake)
  |exact wpAny_bind (m:=Builtin.Tuple.tupleExact _) (wpAny_newObj_type (wpAny_bind (wpAny_pure (wpAny_pure ⟨_,rfl,wpAny_pure h⟩))) htake)
  |exact wpAny_bind (wpAny_bind (m:=Builtin.Tuple.tupleExact _) (wpAny_newObj_type (wpAny_pure (wpAny_pure ⟨_,rfl,wpAny_pure h⟩)) htake))
  |exact wpAny_bind (wpAny_bind (m:=Builtin.Tuple.tupleExact _) (wpAny_newObj_type (wpAny_pure ⟨_,rfl,wpAny_pure h⟩) htake))
end
end HT
namespace L2
open PySem PySem.Spec PyProof.Rows
abbrev TO:=St->Hp->(Option Int->Hp->Prop)->Prop
def PO (X:Cx) (e:Option Expr) (t:TO):Prop:=
 ∀ (Z:List (Addr×Obj)) (s:Shared) (σ:St) (H:Hp) (Q:Option Int->Hp->Prop),Inv X Z σ H s->t σ H Q->
   wpAny (model X.prog X.w) X.A (evalPart e X.env) (fun u s'=>∃ o H',Inv X Z σ H' s'/\IsPart u o/\Q o H') X.xe s
def pX:TO:=fun _ H Q=>Q none H
def JT (t:TE):TO:=fun σ H Q=>t σ H fun x H1=>∃ i,x=.int i/\Q (some i) H1
section
variable {X:Cx} {e:Expr} {te:TE} {lo hi:Option Expr} {tl th:TO} {pos p2:Pos}
theorem cG:PO X none pX:=by
 intro Z s σ H Q I h
 rw [evalPart_none]
 exact wpAny_pure ⟨none,H,I,.none,h⟩
theorem cF (h:PE X e te):PO X (some e) (JT te):=by
 intro Z s σ H Q I hw
 rw [evalPart_some]
 refine b_ (h Z s σ H _ I hw) fun u s1 ⟨x,H1,I1,r1,q1⟩=>?_
 obtain ⟨i,rfl,q⟩:=q1
 obtain ⟨t,rfl⟩:=r1
 exact ⟨some i,H1,I1,.int i t,q⟩
def Q5 (X:Cx) (r:V->Option Int->Option Int->Hp->VK->Prop):Prop:=
 ∀ (Z:List (Addr×Obj)) (s:Shared) (σ:St) (H:Hp) (x:V) (v vl vu:Value) (lo hi:Option Int) (sl:Addr) (Q:VK),Inv X Z σ H s->RelV x v->s.heap.IsSliceOf sl vl vu .none->IsPart vl lo->IsPart vu hi->r x lo hi H Q->
   ∃ T id,typeLookup (.type T) "__getitem__" = pure (some (.builtin id))/\s.TypeIs v T/\wpAny (model X.prog X.w) X.A (getItem v (.ref sl)) (EP X Z σ Q) X.xe s
def Wz (r:V->Option Int->Option Int->Hp->VK->Prop) (te:TE) (tl th:TO):TE:=fun σ H Q=>te σ H fun x H1=>tl σ H1 fun l H2=>th σ H2 fun u H3=>r x l u H3 Q
theorem bV {r:V->Option Int->Option Int->Hp->VK->Prop} (hr:Q5 X r) (he:PE X e te) (hl:PO X lo tl) (hu:PO X hi th):PE X (.Subscript e (.Slice lo hi none p2) pos) (Wz r te tl th):=by
 intro Z s σ H Q I h
 refine Subscript_ (b_ (he Z s σ H _ I h) fun v s1 ⟨x,H1,I1,r1,q1⟩=>?_)
 refine wpAny_Slice (b_ (hl Z s1 σ H1 _ I1 q1) fun vl s2 ⟨l,H2,I2,pl,q2⟩=>b_ (hu Z s2 σ H2 _ I2 q2) fun vu s3 ⟨u,H3,I3,pu,q3⟩=>?_)
 rw [evalPart_none]
 refine wpAny_pure ?_
 have I4:Inv X Z σ H3 { s3 with heap:=s3.heap.push { cls:=.type "slice",data:=.fields #[vl,vu,.none] } }:=I3.kept (t':=s3.toks) fun b ob q=>Heap.get?_push_of_some _ q
 obtain ⟨T,id,hT,ht,hg⟩:=hr Z { s3 with heap:=s3.heap.push { cls:=.type "slice",data:=.fields #[vl,vu,.none] } } σ H3 x v vl vu l u s3.heap.objs.size Q I4 r1 (Heap.IsSliceOf.new ..) pl pu q3
 show wpAny (model X.prog X.w) X.A (subscriptTail e (.Slice lo hi none p2) v (.ref s3.heap.objs.size)) (EP X Z σ Q) X.xe { s3 with heap:=s3.heap.push { cls:=.type "slice",data:=.fields #[vl,vu,.none] } }
 exact tail_any (ops:=[.ref s3.heap.objs.size,v]) ht hT hg (by with_unfolding_all rfl)
def gf (xs:List V) (lo hi:Option Int):List V:=(xs.drop (HT.dR xs.length 0 lo)).take (HT.dR xs.length xs.length hi-HT.dR xs.length 0 lo)
theorem lF (xs:List V) (lo hi:Option Int):(gf xs lo hi).length≤xs.length:=by
 unfold gf
 rw [List.length_take,List.length_drop]
 omega
def Tn (K:PySem.W.Frag):V->Option Int->Option Int->Hp->VK->Prop:=fun x lo hi H Q=>∃ a xs,x=.ref a/\bB K H a xs/\
 ¬ (HT.dR xs.length 0 lo=0/\HT.dR xs.length xs.length hi=xs.length)/\∀ p,H p=none->Q (.ref p) (upd H p (.tup (gf xs lo hi)))
theorem Ip:Q5 X (Tn X.K):=by
 intro Z s σ H x v vl vu lo hi sl Q I rx hs pl pu h
 obtain ⟨a,xs,rfl,hx,hw,q⟩:=h
 cases rx
 obtain ⟨its,r,ht,hz⟩:=I.tuple hx
 have hlen:its.toArray.size=xs.length:=by rw [List.size_toArray];exact r.length.symm
 refine ⟨"tuple",_,PyProof.Rows.slot_tuple_getitem.lookup,ht.typeIs,?_⟩
 refine HT.jK ht hs pl pu (by rw [hlen];exact hw) ?_ (by rw [hlen];exact hz)
 rw [hlen]
 refine ⟨.ref s.heap.objs.size,_,I.laid (t':=s.toks) (o:=.tup (gf xs lo hi)) (fun b ob q=>Heap.get?_push_of_some _ q) (Nat.le_refl _) ?_,rfl,q _ (I.hok.fresh (Nat.le_refl _))⟩
 exact ⟨Nat.le_trans (lF xs lo hi) hz,_,(r.drop (HT.dR xs.length 0 lo)).take (HT.dR xs.length xs.length hi-HT.dR xs.length 0 lo),IsTup.new _ _⟩
def Lf (K:PySem.W.Frag):R2:=fun x y H Q=>∃ a b xs ys,x=.ref a/\y=.ref b/\bB K H a xs/\bB K H b ys/\xs≠[]/\xs.length+ys.length≤sizeLine/\
 (ys=[]->Q (.ref a) H)/\(ys≠[]->∀ p,H p=none->Q (.ref p) (upd H p (.tup (xs++ys))))
theorem Vals.nil_iff (r:Vals xs us):us=[]↔xs=[]:=by
 cases r with
 |nil=>simp
 |cons _ _=>simp
theorem Aq:iD X (binaryOp .Add) (Lf X.K):=by
 intro Z s σ H x y v u Q I rx ry h
 obtain ⟨a,b,xs,ys,rfl,rfl,ha,hb,hx,hz,q1,q2⟩:=h
 cases rx
 cases ry
 obtain ⟨its,r1,p1,_⟩:=I.tuple ha
 obtain ⟨its2,r2,p2,_⟩:=I.tuple hb
 refine HT.Ai p1 p2 (fun z=>hx (r1.nil_iff.mp z)) (fun z=>⟨.ref a,H,I,rfl,q1 (r2.nil_iff.mp z)⟩) (fun z=>?_) (by rw [← r1.length,← r2.length];exact hz)
 refine ⟨.ref s.heap.objs.size,_,I.laid (t':=s.toks) (o:=.tup (xs++ys)) (fun b ob q=>Heap.get?_push_of_some _ q) (Nat.le_refl _) ?_,rfl,q2 (fun w=>z (r2.nil_iff.mpr w)) _ (I.hok.fresh (Nat.le_refl _))⟩
 exact ⟨by rw [List.length_append];exact hz,_,r1.append r2,IsTup.new _ _⟩
end
def Fe (n:Nat) (i:Int):Option Nat:=if 0≤i then (if i<n then some i.toNat else none) else if -(n:Int)≤i then some (i+n).toNat else none
def pM {α:Type} (xs:List α) (i:Int):Option α:=(Fe xs.length i).bind fun j=>xs[j]?
theorem BP (h:Fe n i=some j):seqIndex? i n=some j/\j<n/\-(n:Int)≤i/\i<n:=by
 unfold Fe at h
 by_cases h0:0≤i
 ·rw [if_pos h0] at h
  by_cases h1:i<n
  ·rw [if_pos h1] at h
   have e:i.toNat=j:=Option.some.inj h
   exact ⟨by rw [seqIndex_of h0 h1,e],by omega,by omega,h1⟩
  ·rw [if_neg h1] at h;cases h
 ·rw [if_neg h0] at h
  by_cases h1:-(n:Int)≤i
  ·rw [if_pos h1] at h
   have e:(i+n).toNat=j:=Option.some.inj h
   exact ⟨by rw [seqIndex_neg (by omega) h1,e],by omega,h1,by omega⟩
  ·rw [if_neg h1] at h;cases h
theorem pP {α:Type} {xs:List α} {i:Int} {v:α} (h:pM xs i=some v):∃ j,seqIndex? i xs.length=some j/\xs[j]?=some v/\j<xs.length/\-(xs.length:Int)≤i/\i<xs.length:=by
 unfold pM at h
 cases e:Fe xs.length i with
 |none=>rw [e] at h;cases h
 | some j=>
   rw [e] at h
   obtain ⟨h1,h2,h3,h4⟩:=BP e
   exact ⟨j,h1,h,h2,h3,h4⟩
theorem aJ {α:Type} {xs:List α} {j:Nat} {v:α} (h:xs[j]?=some v):pM xs (j:Int)=some v:=by
 have hj:j<xs.length:=(List.getElem?_eq_some_iff.mp h).1
 have e:Fe xs.length (j:Int)=some j:=by
  unfold Fe
  rw [if_pos (by omega),if_pos (by omega)];simp
 unfold pM;rw [e];exact h
def zX (b:Expr):Prop:=∀ o i,subscripted b false o i=operate [o,i] (getItem o i)
def Bl (X:Cx) (r:R2):Prop:=
 ∀ (value slice:Expr) (Z:List (Addr×Obj)) (s:Shared) (σ:St) (H:Hp) (x y:V) (v u:Value) (Q:VK),Inv X Z σ H s->RelV x v->RelV y u->r x y H Q->
   subscripted slice false v u=operate [v,u] (getItem v u)->wpAny (model X.prog X.w) X.A (subscriptTail value slice v u) (EP X Z σ Q) X.xe s
def Ff (X:Cx) (id:String) (r:V->List V->Hp->VK->Prop):Prop:=
 ∀ (Z:List (Addr×Obj)) (s:Shared) (σ:St) (H:Hp) (x:V) (xs:List V) (v:Value) (us:List Value) (Q:VK),Inv X Z σ H s->RelV x v->Vals xs us->r x xs H Q->
   wpAny (model X.prog X.w) X.A (call (.builtin id) (v::us)) (EP X Z σ Q) X.xe s
theorem Bl.or (h:Bl X r) (h':Bl X r'):Bl X (fun x y H Q=>r x y H Q∨r' x y H Q):=by
 intro value slice Z s σ H x y v u Q I rx ry q hs
 rcases q with q|q
 ·exact h value slice Z s σ H x y v u Q I rx ry q hs
 ·exact h' value slice Z s σ H x y v u Q I rx ry q hs
theorem a_ (hr:Bl X r) (ha:PE X a ta) (hb:PE X b tb) (hs:zX b):PE X (.Subscript a b pos) (RM r ta tb):=by
 intro Z s σ H Q I h
 exact Subscript_ (Iv ha hb I h fun v u s2 x y H2 I2 rx ry q=>hr a b Z s2 σ H2 x y v u Q I2 rx ry q (hs _ _))
def wJ (K:PySem.W.Frag):R2:=fun x y H Q=>∃ p xs i v,x=.ref p/\y=.int i/\bJ K H p xs/\pM xs i=some v/\Q v H
def wI (K:PySem.W.Frag):R2:=fun x y H Q=>∃ p xs i v,x=.ref p/\y=.int i/\bB K H p xs/\pM xs i=some v/\Q v H
def HS:R2:=fun x y H Q=>∃ z i c,x=.str z/\y=.int i/\z.length≤sizeLine/\pM z.cps.toList i=some c/\Q (.str ⟨#[c]⟩) H
theorem cR {X:Cx}:Bl X (wJ X.K):=by
 intro value slice Z s σ H x y v u Q I rx ry h hs
 obtain ⟨p,xs,i,z,rfl,rfl,hq,he,q⟩:=h
 cases rx
 obtain ⟨t,rfl⟩:=ry
 obtain ⟨its,r,pl,hz⟩:=I.list hq
 obtain ⟨j,h1,h2,h3,h4,h5⟩:=pP he
 obtain ⟨w,ew,rw'⟩:=r.get h2
 have hl:=r.length
 have hn:=kZ
 have fin:EP X Z σ Q w s:=⟨z,H,I,rw',q⟩
 by_cases h0:0≤i
 ·have hj:i.toNat=j:=by
   rw [seqIndex_of h0 h5] at h1
   exact Option.some.inj h1
  exact item_listR pl.isList h0 (by omega) (by rw [hj];simpa using ew) fin hs
 ·have hj:(i+(its.toArray.size:Int)).toNat=j:=by
   rw [seqIndex_neg (by omega) h4] at h1
   rw [List.size_toArray,← hl]
   exact Option.some.inj h1
  exact subscriptTail_builtinR (x:=w) pl.isList.typeIs slot_list_getitem.lookup
   (wpAny_getItem_list_neg (Q:=fun r s'=>r=w/\EP X Z σ Q r s') pl.isList (by omega) (by rw [List.size_toArray] <;> omega) (by omega) (by rw [hj];simpa using ew) ⟨rfl,fin⟩) hs
theorem aZ {X:Cx}:Bl X (wI X.K):=by
 intro value slice Z s σ H x y v u Q I rx ry h hs
 obtain ⟨p,xs,i,z,rfl,rfl,hq,he,q⟩:=h
 cases rx
 obtain ⟨t,rfl⟩:=ry
 obtain ⟨its,r,pl,hz⟩:=I.tuple hq
 obtain ⟨j,h1,h2,h3,h4,h5⟩:=pP he
 obtain ⟨w,ew,rw'⟩:=r.get h2
 have hl:=r.length
 have hn:=kZ
 have fin:EP X Z σ Q w s:=⟨z,H,I,rw',q⟩
 exact subscriptTail_builtinR (x:=w) pl.typeIs slot_tuple_getitem.lookup
  (getItem_tuple (j:=j) (Q:=fun r s'=>r=w/\EP X Z σ Q r s') pl (by omega) (by omega) (by rw [List.size_toArray,← hl];exact h1) (by simpa using ew) ⟨rfl,fin⟩) hs
theorem p6:Bl X HS:=by
 intro value slice Z s σ H x y v u Q I rx ry h hs
 obtain ⟨z,i,c,rfl,rfl,hz,he,q⟩:=h
 obtain ⟨t,rfl⟩:=rx
 obtain ⟨t',rfl⟩:=ry
 obtain ⟨j,h1,h2,h3,h4,h5⟩:=pP he
 have hl:z.cps.toList.length=z.length:=by simp [Str.length]
 rw [hl] at h1 h4 h5
 have hn:=kZ
 exact tail_any (typeIs_str s z t) slot_str_getitem.lookup (getItem_str (c:=c) (by
  have e1:decide (i < -(2 ^ 63:Int))=false:=decide_eq_false (by omega)
  have e2:decide (i ≥ 2 ^ 63)=false:=decide_eq_false (by omega)
  rw [e1,e2,Bool.or_false]) (by rw [h1];simpa using h2) ⟨.str ⟨#[c]⟩,H,I.tok _,⟨_,rfl⟩,q⟩) hs
def V6 (K:PySem.W.Frag):R2:=fun x y H Q=>wJ K x y H Q∨wI K x y H Q∨HS x y H Q
theorem xZ:Bl X (V6 X.K):=cR.or (aZ.or p6)
theorem oR (lo hi:Option Int) (n:Nat):(sliceBounds lo hi none n).1=((HT.dR n 0 lo:Nat):Int)/\(sliceBounds lo hi none n).2.1=((HT.dR n n hi:Nat):Int)/\(sliceBounds lo hi none n).2.2=1:=by
 refine ⟨?_,?_,rfl⟩
 ·cases lo with
  |none=>simp [sliceBounds,HT.dR]
  | some i=>
    simp only [sliceBounds,HT.dR,Option.getD_none,show (1:Int) > 0 by decide,if_true]
    by_cases h:i<0
    ·simp only [h,if_true] <;> omega
    ·simp only [h,if_false] <;> omega
 ·cases hi with
  |none=>simp [sliceBounds,HT.dR]
  | some i=>
    simp only [sliceBounds,HT.dR,Option.getD_none,show (1:Int) > 0 by decide,if_true]
    by_cases h:i<0
    ·simp only [h,if_true] <;> omega
    ·simp only [h,if_false] <;> omega
theorem nj (its:List Value) (lo hi:Option Int):slicePick its.toArray lo hi none=((its.drop (HT.dR its.length 0 lo)).take (HT.dR its.length its.length hi-HT.dR its.length 0 lo)).toArray:=by
 obtain ⟨h1,h2,h3⟩:=oR lo hi its.toArray.size
 unfold slicePick
 rw [h1,h2,h3]
 simp only [sliceRange_one,pick_run,List.size_toArray] <;> rfl
def Uj (K:PySem.W.Frag):V->Option Int->Option Int->Hp->VK->Prop:=fun x lo hi H Q=>∃ a xs,x=.ref a/\bJ K H a xs/\∀ p,H p=none->Q (.ref p) (upd H p (.lst (gf xs lo hi)))
theorem pW:Q5 X (Uj X.K):=by
 intro Z s σ H x v vl vu lo hi sl Q I rx hs pl pu h
 obtain ⟨a,xs,rfl,hx,q⟩:=h
 cases rx
 obtain ⟨its,r,ht,hz⟩:=I.list hx
 have hlen:=r.length
 refine ⟨"list",_,slot_list_getitem.lookup,ht.isList.typeIs,?_⟩
 refine wpAny_getItem_list_slice ht.isList hs pl pu .none (by simp) ?_ (by rw [List.size_toArray] <;> omega)
 rw [nj,← hlen]
 refine ⟨.ref s.heap.objs.size,_,I.laid (t':=s.toks) (o:=.lst (gf xs lo hi)) (fun b ob q=>Heap.get?_push_of_some _ q) (Nat.le_refl _) ?_,rfl,q _ (I.hok.fresh (Nat.le_refl _))⟩
 exact ⟨Nat.le_trans (lF xs lo hi) hz,_,0,(r.drop (HT.dR xs.length 0 lo)).take (HT.dR xs.length xs.length hi-HT.dR xs.length 0 lo),Heap.get?_push_size _ rfl⟩
def jy:V->Bool
 |.non=>true
 |.bl _=>true
 |.int _=>true
 |.str _=>true
 |_=>false
def rG:V->V->Bool
 |.non,.non=>true
 |.bl a,.bl b=>a == b
 |.bl a,.int b=>(if a then 1 else 0) == b
 |.int a,.bl b=>a == (if b then 1 else 0)
 |.int a,.int b=>a == b
 |.str a,.str b=>a == b
 |_,_=>false
theorem HF (ry:RelV y u) (rx:RelV x v) (fy:jy y=true) (fx:jy x=true):SeqAt.EqAt A s u v (rG y x):=by
 cases y with
 | non=>
   cases ry
   cases x with
   |non=>cases rx;exact SeqAt.EqAt.same _
   |bl b=>cases rx;exact SeqAt.EqAt.none_bool b
   |int b=>obtain ⟨t,rfl⟩:=rx;exact SeqAt.EqAt.none_int b t
   |str b=>obtain ⟨t,rfl⟩:=rx;exact SeqAt.EqAt.none_str b t
   |_=>exact absurd (show false=true from fx) Bool.false_ne_true
 | bl a=>
   cases ry
   cases x with
   |non=>cases rx;exact SeqAt.EqAt.bool_none a
   |bl b=>cases rx;exact SeqAt.EqAt.bool_bool a b
   |int b=>obtain ⟨t,rfl⟩:=rx;exact SeqAt.EqAt.bool_int a b t
   |str b=>obtain ⟨t,rfl⟩:=rx;exact SeqAt.EqAt.bool_str a b t
   |_=>exact absurd (show false=true from fx) Bool.false_ne_true
 | int a=>
   obtain ⟨t',rfl⟩:=ry
   cases x with
   |non=>cases rx;exact SeqAt.EqAt.int_none a t'
   |bl b=>cases rx;exact SeqAt.EqAt.int_bool a t' b
   |int b=>obtain ⟨t,rfl⟩:=rx;exact SeqAt.EqAt.int_int a t' b t
   |str b=>obtain ⟨t,rfl⟩:=rx;exact SeqAt.EqAt.int_str a t' b t
   |_=>exact absurd (show false=true from fx) Bool.false_ne_true
 | str a=>
   obtain ⟨t',rfl⟩:=ry
   cases x with
   |non=>cases rx;exact SeqAt.EqAt.str_none a t'
   |bl b=>cases rx;exact SeqAt.EqAt.str_bool a t' b
   |int b=>obtain ⟨t,rfl⟩:=rx;exact SeqAt.EqAt.str_int a t' b t
   |str b=>obtain ⟨t,rfl⟩:=rx;exact SeqAt.EqAt.str_str a t' b t
   |_=>exact absurd (show false=true from fx) Bool.false_ne_true
 |_=>exact absurd (show false=true from fy) Bool.false_ne_true
def sZ (x:V) (u:Value):Bool:=match u with
 |.none=>rG .non x
 |.bool b=>rG (.bl b) x
 |.int i _=>rG (.int i) x
 |.str z _=>rG (.str z) x
 |_=>false
theorem z7 (r:RelV y u) (f:jy y=true):sZ x u=rG y x:=by
 cases y with
 |non=>cases r;rfl
 |bl b=>cases r;rfl
 |int i=>obtain ⟨t,rfl⟩:=r;rfl
 |str z=>obtain ⟨t,rfl⟩:=r;rfl
 |_=>exact absurd (show false=true from f) Bool.false_ne_true
theorem jO:∀ {xs:List V} {us:List Value},Vals xs us->xs.all jy=true->us.any (sZ x)=xs.any fun y=>rG y x
 |_,_,.nil,_=>rfl
 | y::xs,u::us,.cons r t,f=>by
   rw [List.all_cons,Bool.and_eq_true] at f
   rw [List.any_cons,List.any_cons,z7 r f.1,jO t f.2]
theorem iJ (rx:RelV x v) (fx:jy x=true):∀ {xs:List V} {us:List Value},Vals xs us->xs.all jy=true->∀ u∈us,SeqAt.EqAt A s u v (sZ x u)
 |_,_,.nil,_=>fun u hu=>by cases hu
 | y::xs,u::us,.cons r t,f=>fun u' hu=>by
   rw [List.all_cons,Bool.and_eq_true] at f
   rcases List.mem_cons.mp hu with rfl|hu
   ·rw [z7 r f.1];exact HF r rx f.1 fx
   ·exact iJ rx fx t f.2 u' hu
def inV (x:V) (xs:List V):Bool:=xs.any fun y=>rG y x
def VR (K:PySem.W.Frag) (neg:Bool):R2:=fun x y H Q=>∃ p xs,y=.ref p/\(bJ K H p xs∨bB K H p xs)/\jy x=true/\xs.all jy=true/\Q (.bl (if neg then !inV x xs else inV x xs)) H
theorem dX:iD X (compareOp .In) (VR X.K false):=by
 intro Z s σ H x y v u Q I rx ry h
 obtain ⟨p,xs,rfl,hq,fx,fs,q⟩:=h
 cases ry
 rcases hq with hq|hq
 ·obtain ⟨its,r,pl,hz⟩:=I.list hq
  refine SeqAt.in_listAt (sZ x) pl.isList (fun w hw=>iJ rx fx r fs w (by simpa using hw)) ⟨.bl _,H,I,rfl,?_⟩
  rw [show its.toArray.any (sZ x)=its.any (sZ x) by simp,jO r fs]
  exact q
 ·obtain ⟨its,r,pl,hz⟩:=I.tuple hq
  refine SeqAt.in_tupleAt (sZ x) pl (fun w hw=>iJ rx fx r fs w (by simpa using hw)) ⟨.bl _,H,I,rfl,?_⟩
  rw [show its.toArray.any (sZ x)=its.any (sZ x) by simp,jO r fs]
  exact q
theorem fY:iD X (compareOp .NotIn) (VR X.K true):=by
 intro Z s σ H x y v u Q I rx ry h
 obtain ⟨p,xs,rfl,hq,fx,fs,q⟩:=h
 cases ry
 rcases hq with hq|hq
 ·obtain ⟨its,r,pl,hz⟩:=I.list hq
  refine SeqAt.notIn_listAt (sZ x) pl.isList (fun w hw=>iJ rx fx r fs w (by simpa using hw)) ⟨.bl _,H,I,rfl,?_⟩
  rw [show its.toArray.any (sZ x)=its.any (sZ x) by simp,jO r fs]
  exact q
 ·obtain ⟨its,r,pl,hz⟩:=I.tuple hq
  refine SeqAt.notIn_tupleAt (sZ x) pl (fun w hw=>iJ rx fx r fs w (by simpa using hw)) ⟨.bl _,H,I,rfl,?_⟩
  rw [show its.toArray.any (sZ x)=its.any (sZ x) by simp,jO r fs]
  exact q
theorem aV:gH X (.builtin "len") (fun xs H Q=>∃ p ys,xs=[.ref p]/\(bJ X.K H p ys∨bB X.K H p ys)/\Q (.int ys.length) H):=by
 intro Z s σ H xs us Q I r h
 obtain ⟨p,ys,rfl,hq,q⟩:=h
 obtain ⟨u,rfl,rx⟩:=vals1 r
 cases rx
 have hn:=kZ
 rcases hq with hq|hq
 ·obtain ⟨its,r',pl,hz⟩:=I.list hq
  have hlen:=r'.length
  exact Calls.call_len_list pl.isList (by simp only [List.size_toArray] <;> omega) ⟨.int ys.length,H,I.tok _,⟨s.toks+1,by rw [List.size_toArray,hlen]⟩,q⟩
 ·obtain ⟨its,r',pl,hz⟩:=I.tuple hq
  have hlen:=r'.length
  exact len_tuple pl (by simp only [List.size_toArray] <;> omega) ⟨.int ys.length,H,I.tok _,⟨s.toks+1,by rw [List.size_toArray,hlen]⟩,q⟩
theorem iz:gH X (.builtin "len") (fun xs H Q=>∃ z,xs=[.str z]/\z.length≤sizeLine/\Q (.int z.length) H):=by
 intro Z s σ H xs us Q I r h
 obtain ⟨z,rfl,hz,q⟩:=h
 obtain ⟨u,rfl,t,rfl⟩:=vals1 r
 have hn:=kZ
 exact len_str (by omega) ⟨.int z.length,H,I.tok _,⟨_,rfl⟩,q⟩
theorem pN:gH X (.type "list") (fun xs H Q=>∃ p ys,xs=[.ref p]/\(bJ X.K H p ys∨bB X.K H p ys)/\∀ l,H l=none->Q (.ref l) (upd H l (.lst ys))):=by
 intro Z s σ H xs us Q I r h
 obtain ⟨p,ys,rfl,hq,q⟩:=h
 obtain ⟨u,rfl,rx⟩:=vals1 r
 cases rx
 have fin:∀ (its:List Value),Vals ys its->ys.length≤sizeLine->∀ (h':Heap) (c':Nat),(∀ b o',s.heap.get? b=some o'->h'.get? b=some o')->
  h'.get? s.heap.objs.size=some { cls:=.type "list",dict:=none,data:=.seq its.toArray c',slots:=#[] }->EP X Z σ Q (.ref s.heap.objs.size) { s with heap:=h' }:=fun its r' hz h' c' kp e=>
  ⟨.ref s.heap.objs.size,_,I.laid (t':=s.toks) kp (Nat.le_refl _) (show cI X.prog X.w _ h' _ (.lst ys) from ⟨hz,its,c',r',e⟩),rfl,q _ (I.hok.fresh (Nat.le_refl _))⟩
 rcases hq with hq|hq
 ·obtain ⟨its,r',pl,hz⟩:=I.list hq
  have hlen:=r'.length
  obtain ⟨o,ho,hc,n,hd⟩:=pl.isList
  exact call_list_seq p (.inl rfl) ho hc hd (fun h' c' kp e=>fin its r' hz h' c' kp e) (by simp only [List.size_toArray] <;> omega)
 ·obtain ⟨its,r',pl,hz⟩:=I.tuple hq
  have hlen:=r'.length
  obtain ⟨o,ho,hc,n,hd⟩:=pl
  exact call_list_seq p (.inr rfl) ho hc hd (fun h' c' kp e=>fin its r' hz h' c' kp e) (by simp only [List.size_toArray] <;> omega)
theorem jt:gH X (.type "tuple") (fun xs H Q=>∃ p ys,xs=[.ref p]/\((bJ X.K H p ys/\∀ l,H l=none->Q (.ref l) (upd H l (.tup ys)))∨(bB X.K H p ys/\Q (.ref p) H))):=by
 intro Z s σ H xs us Q I r h
 obtain ⟨p,ys,rfl,h⟩:=h
 obtain ⟨u,rfl,rx⟩:=vals1 r
 cases rx
 rcases h with ⟨hq,q⟩|⟨hq,q⟩
 ·obtain ⟨its,r',pl,hz⟩:=I.list hq
  have hlen:=r'.length
  refine call_tuple_list pl.isList (fun h' kp=>?_) (by simp only [List.size_toArray] <;> omega)
  have I1:Inv X Z σ H { s with heap:=h' }:=I.kept (t':=s.toks) kp
  have I2:Inv X Z σ (upd H h'.objs.size (.tup ys)) { s with heap:=h'.push { cls:=.type "tuple",data:=.seq its.toArray } }:=
   I1.laid (t':=s.toks) (fun b o e=>Heap.get?_push_of_some _ e) (Nat.le_refl _) (show cI X.prog X.w _ _ _ (.tup ys) from ⟨hz,its,r',IsTup.new _ _⟩)
  exact ⟨.ref h'.objs.size,_,I2,rfl,q _ (I1.hok.fresh (Nat.le_refl _))⟩
 ·obtain ⟨its,r',pl,hz⟩:=I.tuple hq
  exact call_tuple_same pl ⟨.ref p,H,I,rfl,q⟩
def Su (K:PySem.W.Frag) (T:String) (x:V) (H:Hp):Prop:=match x with
 |.str _=>T = "str"
 |.int _=>T = "int"
 |.ref p=>(T = "list"/\∃ xs,bJ K H p xs)∨(T = "tuple"/\∃ o,K.lookup p=some o/\o.cls=.type "tuple"/\o.dict=none)∨
  (T = "dict"/\((∃ kvs,H p=some (.dK kvs))∨∃ kvs,H p=some (.dT kvs)))∨(T = "set"/\∃ S n,H p=some (.set S n))
 |_=>False
theorem yL (I:Inv X Z σ H s) (r:RelV x v) (ty:Su X.K T x H) :
 s.TypeIs v T/\∀ a,v=.ref a->∃ ob,s.heap.get? a=some ob/\ob.dict=none:=by
 cases x with
 | str z=>
   obtain ⟨t,rfl⟩:=r
   cases (show T = "str" from ty)
   exact ⟨typeIs_str s z t,fun _ e=>nomatch e⟩
 | int i=>
   obtain ⟨t,rfl⟩:=r
   cases (show T = "int" from ty)
   exact ⟨typeIs_int s i t,fun _ e=>nomatch e⟩
 | ref p=>
   cases r
   rcases ty with ⟨rfl,xs,hq⟩|⟨rfl,o,hk,hc,hd⟩|⟨rfl,hk⟩|⟨rfl,S,n,hk⟩
   ·obtain ⟨its,_,pl,_⟩:=I.list hq
    refine ⟨pl.isList.typeIs,fun a e=>?_⟩
    cases e
    obtain ⟨o,n,e,c,hd,_⟩:=pl
    exact ⟨o,e,hd⟩
   ·refine ⟨⟨o,I.kIn p o hk,hc⟩,fun a e=>?_⟩
    cases e
    exact ⟨o,I.kIn _ o hk,hd⟩
   ·have z:∃ o,s.heap.get? p=some o/\o.ExactDict:=by
     rcases hk with ⟨kvs,hk⟩|⟨kvs,hk⟩
     ·obtain ⟨_,_,_,_,o,_,_,e,ex,_⟩:=I.hok p _ hk
      exact ⟨o,e,ex⟩
     ·obtain ⟨_,_,_,_,o,_,_,e,ex,_⟩:=I.hok p _ hk
      exact ⟨o,e,ex⟩
    obtain ⟨o,e,ex⟩:=z
    refine ⟨⟨o,e,ex.1⟩,fun a e2=>?_⟩
    cases e2
    exact ⟨o,e,ex.2.1⟩
   ·obtain ⟨o,_,_,_,e,ex,_⟩:=I.hok p _ hk
    refine ⟨⟨o,e,ex.1⟩,fun a e2=>?_⟩
    cases e2
    exact ⟨o,e,ex.2.1⟩
 |_=>exact False.elim ty
def Vd (K:PySem.W.Frag) (T:String) (r:V->List V->Hp->VK->Prop) (to:TE):TE:=fun σ H Q=>to σ H fun x H1=>Su K T x H1/\r x [] H1 Q
def We (K:PySem.W.Frag) (T:String) (r:V->List V->Hp->VK->Prop) (to:TE) (t:TA):TE:=fun σ H Q=>to σ H fun x H1=>Su K T x H1/\t σ H1 fun xs H2=>r x xs H2 Q
theorem sJ {X:Cx} {o:Expr} {to:TE} {name:Str} {apos cpos:Pos} {T id:String} {r:V->List V->Hp->VK->Prop} (pa:PlainAttrs T) (slot:Slot T name id) (hty:typeOf (.builtin id)=pure (.type "method_descriptor")) (hm:Ff X id r) (ho:PE X o to)
 (hbase:attributeBase o name X.env (eval o X.env)=eval o X.env:=by rfl) (hline:(apos.endLine == cpos.line)=true:=by rfl):PE X (.Call (.Attribute o name apos) [] [] cpos) (Vd X.K T r to):=by
 intro Z s σ H Q I h
 refine wpAny_Call_method0_late hbase hline (b_ (ho Z s σ H _ I h) fun v s1 ⟨x,H1,I1,r1,ty,q1⟩=>?_)
 obtain ⟨h1,h2⟩:=yL I1 r1 ty
 exact ⟨T,id,pa,slot,hty,h1,h2,Calls.callWith_builtin rfl (PySem.evalArgs_none (hm Z s1 σ H1 x [] v [] Q I1 r1 .nil q1))⟩
theorem jw {X:Cx} {o e:Expr} {es:List Expr} {to:TE} {t:TA} {name:Str} {apos cpos:Pos} {T id:String} {r:V->List V->Hp->VK->Prop} (pa:PlainAttrs T) (slot:Slot T name id) (hty:typeOf (.builtin id)=pure (.type "method_descriptor")) (hm:Ff X id r) (ho:PE X o to) (ha:PA X (e::es) t)
 (hbase:attributeBase o name X.env (eval o X.env)=eval o X.env:=by rfl)
 (hfew:((backTo cpos (starEach (e::es) X.env)).all (fun x=>!x.1) && (backToKw cpos (keywordEach [] X.env)).all (fun x=>x.1.isSome)
  && decide ((e::es).length+([]:List Keyword).length+(if ([]:List Keyword).isEmpty then 0 else 1)<30))=true:=by rfl)
 (hline:(apos.endLine == cpos.line)=true:=by rfl) (hs:starEach (e::es) X.env=(false,eval e X.env)::starEach es X.env:=by rfl) (hplain:(backTo cpos (starEach es X.env)).any (·.1)=false:=by rfl) :
 PE X (.Call (.Attribute o name apos) (e::es) [] cpos) (We X.K T r to t):=by
 intro Z s σ H Q I h
 refine wpAny_Call_method_late hbase hfew hline rfl (b_ (ho Z s σ H _ I h) fun v s1 ⟨x,H1,I1,r1,ty,q1⟩=>?_)
 obtain ⟨h1,h2⟩:=yL I1 r1 ty
 refine ⟨T,id,pa,slot,hty,h1,h2,?_⟩
 have hA:=ha cpos Z s1 σ H1 _ I1 q1
 rw [hs] at hA ⊢
 refine Calls.callWith_builtin (by show (false || (backTo cpos (starEach es X.env)).any (·.1))=false;rw [hplain] <;> rfl) (Calls.evalArgs_plain ?_)
 exact b_ hA fun us s2 ⟨vs,H2,I2,r2,q2⟩=>hm Z s2 σ H2 x vs v us Q I2 r1 r2 q2
def UW (X:Cx) (id:String) (r:V->List V->Hp->VK->Prop):Prop:=
 ∀ (Z:List (Addr×Obj)) (s:Shared) (σ:St) (H:Hp) (x:V) (xs:List V) (v:Value) (us:List Value) (Q:VK),Inv X Z σ H s->RelV x v->Vals xs us->r x xs H Q->
   wpAny (model X.prog X.w) X.A (call (.builtin id) (v::us)) (EP X Z σ Q) X.xe s
theorem Vals.one:∀ {x:V} {us:List Value},Vals [x] us->∃ u,us=[u]/\RelV x u
 |_,_,.cons r .nil=>⟨_,rfl,r⟩
section
variable {X:Cx} {Z:List (Addr×Obj)} {σ:St} {H:Hp} {s:Shared} {l b:Addr} {xs ys zs:List V}
theorem Inv.lset {its its':List Value} {f:Array Value->Array Value} (I:Inv X Z σ H s) (hH:H l=some (.lst xs))
 (e:s.heap.get? l=some { cls:=.type "list",data:=.seq its.toArray n }) (hf:f its.toArray=its'.toArray) (hv:Vals ys its') (hz:ys.length≤sizeLine) :
 Inv X Z σ (upd H l (.lst ys)) { s with heap:=s.heap.update l (Obj.mapSeq f),toks:=t' }:=by
 have q:=PySem.IsL.update e f
 rw [hf] at q
 refine I.write (x:=l) (e:=l) (by rw [hH];exact trivial) (.inl rfl) (fun b' u hb hu=>(Heap.get?_update_other s.heap (Obj.mapSeq f) (Ne.symm hb)).trans hu) ⟨_,q⟩ ?_
 exact ⟨hz,its',_,hv,q⟩
theorem Inv.lnew (I:Inv X Z σ H s) (hv:Vals ys its) (hz:ys.length≤sizeLine) :
 Inv X Z σ (upd H s.heap.objs.size (.lst ys)) { s with heap:=s.heap.push { cls:=.type "list",data:=.seq its.toArray },toks:=t' }:=
 I.laid (fun _ _ q=>Heap.get?_push_of_some _ q) (Nat.le_refl _) ⟨hz,its,0,hv,Heap.get?_push_size _ rfl⟩
theorem Inv.fresh (I:Inv X Z σ H s):H s.heap.objs.size=none:=I.hok.fresh (Nat.le_refl _)
theorem Inv.lstM (I:Inv X Z σ H s) (hH:H l=some (.lst xs)):xs.length≤sizeLine/\∃ (its:List Value) (n:Nat),Vals xs its/\xs.length=its.length/\s.heap.get? l=some { cls:=.type "list",data:=.seq its.toArray n }:=by
 obtain ⟨z,its,n,r,e⟩:=I.hok l _ hH
 exact ⟨z,its,n,r,r.length,e⟩
theorem rA (h:n≤sizeLine):Builtin.List.listTooLong n=false:=by
 unfold Builtin.List.listTooLong
 exact decide_eq_false (by omega)
end
section
variable {X:Cx}
def Bp:V->List V->Hp->VK->Prop:=fun x vs H Q=>∃ l xs y,x=.ref l/\vs=[y]/\H l=some (.lst xs)/\xs.length<sizeLine/\Q .non (upd H l (.lst (xs++[y])))
theorem ir:UW X "list.append" Bp:=by
 intro Z s σ H x vs v us Q I rx rv h
 obtain ⟨l,xs,y,rfl,rfl,hH,hz,q⟩:=h
 cases rx
 obtain ⟨u,rfl,ru⟩:=rv.one
 obtain ⟨z,its,n,r,hl,e⟩:=I.lstM hH
 refine call_meets F.slot_list_append ⟨_,e,rfl⟩ F.entry_list_append (F.args_list_append_2 _ _) (PySem.list_append l its.toArray n u (by rw [List.size_toArray];omega)) ⟨e,?_⟩
 refine ⟨.non,_,I.lset (its':=its++[u]) hH e (by simp) (r.append (.cons ru .nil)) ?_,rfl,q⟩
 rw [List.length_append,List.length_singleton]
 omega
def BK:V->List V->Hp->VK->Prop:=fun x vs H Q=>∃ l b xs zs,x=.ref l/\vs=[.ref b]/\H l=some (.lst xs)/\H b=some (.lst zs)/\xs.length+zs.length≤sizeLine/\Q .non (upd H l (.lst (xs++zs)))
theorem oK:UW X "list.extend" BK:=by
 intro Z s σ H x vs v us Q I rx rv h
 obtain ⟨l,b,xs,zs,rfl,rfl,hH,hB,hz,q⟩:=h
 cases rx
 obtain ⟨u,rfl,ru⟩:=rv.one
 cases ru
 obtain ⟨z,its,n,r,hl,e⟩:=I.lstM hH
 obtain ⟨z2,its2,n2,r2,hl2,e2⟩:=I.lstM hB
 have hsz:its.toArray.size+its2.toArray.size≤sizeLine:=by rw [List.size_toArray,List.size_toArray];omega
 have hlong:¬ (!its.toArray.isEmpty && Builtin.List.listTooLong (its.toArray.size+its2.toArray.size))=true:=by
  rw [rA hsz,Bool.and_false]
  exact Bool.false_ne_true
 refine call_meets F.slot_list_extend ⟨_,e,rfl⟩ F.entry_list_extend (F.args_list_extend_2 _ _)
  (AutoSeq1.list_extend_list_list_0 l its.toArray n b its2.toArray n2 hlong (by rw [List.size_toArray];omega) (by omega)) ⟨e,e2,?_⟩
 refine ⟨.non,_,I.lset (its':=its++its2) hH e (by simp) (r.append r2) ?_,rfl,q⟩
 rw [List.length_append]
 omega
def Tz:R2:=fun x y H Q=>∃ l b xs zs,x=.ref l/\y=.ref b/\H l=some (.lst xs)/\H b=some (.lst zs)/\xs.length+zs.length≤sizeLine/\∀ p,H p=none->Q (.ref p) (upd H p (.lst (xs++zs)))
theorem Ij:iD X (binaryOp .Add) Tz:=by
 intro Z s σ H x y v u Q I rx ry h
 obtain ⟨l,b,xs,zs,rfl,rfl,hH,hB,hz,q⟩:=h
 cases rx
 cases ry
 obtain ⟨z,its,n,r,hl,e⟩:=I.lstM hH
 obtain ⟨z2,its2,n2,r2,hl2,e2⟩:=I.lstM hB
 refine PySem.P.add_list e e2 ?_ (by rw [List.size_toArray,List.size_toArray];omega)
 have ea:its.toArray++its2.toArray=(its++its2).toArray:=by simp
 rw [ea]
 exact ⟨.ref _,_,I.lnew (t':=s.toks) (r.append r2) (by rw [List.length_append];omega),rfl,q _ I.fresh⟩
end
section
variable {κ:Type} [DecidableEq κ]
def gG (kvs:List (κ×V)) (k:κ):Option V:=(kvs.find? fun kv=>decide (kv.1=k)).map (·.2)
def putK (kvs:List (κ×V)) (k:κ) (v:V):List (κ×V):=
 if (kvs.any fun kv=>decide (kv.1=k))=true then kvs.map (fun kv=>if kv.1=k then (kv.1,v) else kv) else kvs++[(k,v)]
theorem zu:gG ([]:List (κ×V)) k=none:=rfl
theorem dI {p:κ×V} {r:List (κ×V)} {k:κ} (e:p.1=k):gG (p::r) k=some p.2:=by simp [gG,List.find?_cons,e]
theorem dF {p:κ×V} {r:List (κ×V)} {k:κ} (e:¬ p.1=k):gG (p::r) k=gG r k:=by simp [gG,List.find?_cons,e]
theorem jY (k:κ):∀ kvs:List (κ×V),(kvs.any fun kv=>decide (kv.1=k))=(gG kvs k).isSome
 |[]=>rfl
 | p::r=>by
   rw [List.any_cons]
   by_cases e:p.1=k
   ·simp only [dI e,decide_eq_true e,Bool.true_or,Option.isSome_some]
   ·rw [dF e,decide_eq_false e,Bool.false_or];exact jY k r
theorem rC (k j:κ) (y:V):∀ kvs:List (κ×V),gG (kvs.map fun kv=>if kv.1=k then (kv.1,y) else kv) j=(gG kvs j).map fun x=>if j=k then y else x
 |[]=>rfl
 | p::r=>by
   have ih:=rC k j y r
   rw [List.map_cons]
   by_cases h:p.1=k
   ·rw [if_pos h]
    by_cases e:p.1=j
    ·rw [dI (p:=(p.1,y)) e,dI e,Option.map_some,if_pos (e.symm.trans h)]
    ·rw [dF (p:=(p.1,y)) e,dF e,ih]
   ·rw [if_neg h]
    by_cases e:p.1=j
    ·rw [dI (p:=p) e,dI e,Option.map_some,if_neg (fun z=>h (e.trans z))]
    ·rw [dF (p:=p) e,dF e,ih]
theorem nM (k j:κ) (y:V):∀ kvs:List (κ×V),gG kvs k=none->gG (kvs++[(k,y)]) j=if j=k then some y else gG kvs j
 | [],_=>by
   by_cases e:k=j
   ·rw [if_pos e.symm];exact dI (p:=(k,y)) e
   ·rw [if_neg (fun z=>e z.symm)];exact dF (p:=(k,y)) e
 | p::r,hn=>by
   rw [List.cons_append]
   have hk:¬ p.1=k:=fun z=>by rw [dI z] at hn;cases hn
   rw [dF hk] at hn
   have ih:=nM k j y r hn
   by_cases e:p.1=j
   ·rw [dI e,dI e,if_neg (fun z=>hk (e.trans z))]
   ·rw [dF e,dF e,ih]
theorem mq (kvs:List (κ×V)) (k j:κ) (y:V):gG (putK kvs k y) j=if j=k then some y else gG kvs j:=by
 unfold putK
 by_cases a:(kvs.any fun kv=>decide (kv.1=k))=true
 ·rw [if_pos a,rC]
  rw [jY] at a
  by_cases e:j=k
  ·obtain ⟨x,hx⟩:=Option.isSome_iff_exists.mp a
   rw [if_pos e,e,hx,Option.map_some,if_pos rfl]
  ·rw [if_neg e]
   cases gG kvs j with
   |none=>rfl
   |some x=>rw [Option.map_some,if_neg e]
 ·rw [if_neg a]
  refine nM k j y kvs ?_
  rw [jY] at a
  cases q:gG kvs k with
  |none=>rfl
  |some x=>rw [q] at a;exact (a rfl).elim
theorem gQ (kvs:List (κ×V)) (k:κ) (v:V):(putK kvs k v).length≤kvs.length+1:=by
 unfold putK
 split
 ·rw [List.length_map];omega
 ·rw [List.length_append,List.length_cons,List.length_nil];omega
theorem h_.isSome_eq (r:h_ o u):o.isSome=u.isSome:=by
 cases o with
 | none=>cases u with
   |none=>rfl
   |some _=>exact (show False from r).elim
 | some _=>cases u with
   |none=>exact (show False from r).elim
   |some _=>rfl
theorem KV.val {kvs:List (κ×V)} {vs:List (κ×Value)} (r:KV kvs vs) (k:κ):h_ (gG kvs k) (valueAt vs k):=by
 unfold KV at r
 induction r with
 |nil=>exact True.intro
 | @cons p q ps qs h t ih=>
   obtain ⟨h1,h2⟩:=h
   by_cases e:p.1=k
   ·have e':q.1=k:=h1.symm.trans e
    have b:valueAt (q::qs) k=some q.2:=by simp [valueAt,List.find?_cons,e']
    rw [dI e,b];exact h2
   ·have e':¬ q.1=k:=fun z=>e (h1.trans z)
    have b:valueAt (q::qs) k=valueAt qs k:=by simp [valueAt,List.find?_cons,e']
    rw [dF e,b];exact ih
theorem KV.any (r:KV kvs vs) (k:κ):(kvs.any fun kv=>decide (kv.1=k))=vs.any fun kv=>decide (kv.1=k):=by
 unfold KV at r
 induction r with
 |nil=>rfl
 |cons h t ih=>rw [List.any_cons,List.any_cons,ih,h.1]
theorem KV.repl (r:KV kvs vs) (k:κ) (ry:RelV y u) :
 KV (kvs.map fun kv=>if kv.1=k then (kv.1,y) else kv) (vs.map fun kv=>if kv.1=k then (kv.1,u) else kv):=by
 unfold KV at r ⊢
 induction r with
 |nil=>exact .nil
 | @cons p q ps qs h t ih=>
   rw [List.map_cons,List.map_cons]
   refine .cons ?_ ih
   obtain ⟨h1,h2⟩:=h
   by_cases e:p.1=k
   ·rw [if_pos e,if_pos (h1.symm.trans e)];exact ⟨h1,ry⟩
   ·rw [if_neg e,if_neg (fun z=>e (h1.trans z))];exact ⟨h1,h2⟩
theorem KV.put (r:KV kvs vs) (k:κ) (ry:RelV y u):KV (putK kvs k y) (stored vs k u):=by
 unfold putK stored
 rw [r.any k]
 by_cases e:(vs.any fun kv=>decide (kv.1=k))=true
 ·rw [if_pos e,if_pos e];exact r.repl k ry
 ·rw [if_neg e,if_neg e];exact Paired.snoc r ⟨rfl,ry⟩
theorem KV.length {kvs:List (κ×V)} {vs:List (κ×Value)} (r:KV kvs vs):kvs.length=vs.length:=Paired.length r
end
theorem uE (r:RelV (kV k) u):(dq P w).is k u=true:=by
 cases k with
 |inl i=>obtain ⟨t,e⟩:=(show ∃ t,u=Value.int i t from r);subst e;exact qy P w i t
 |inr x=>obtain ⟨t,e⟩:=(show ∃ t,u=Value.str x t from r);subst e;exact qO P w x t
theorem nU:∀ {ks:List Key} {us:List Value},Vals (ks.map kV) us->ItemsAre (dq P w) ks us
 |[],_,r=>by rw [List.map_nil] at r;cases r;exact .nil
 | k::ks,_,r=>by
   rw [List.map_cons] at r
   cases r with
   |cons h t=>exact .cons (uE h) (nU t)
abbrev KT (H:Hp):List (List Key×V)->List (List Key×Addr×Value)->Prop:=Paired fun p q=>p.1=q.1/\H q.2.1=some (.tup (p.1.map kV))/\RelV p.2 q.2.2
theorem KT.val {H:Hp} {kvs:List (List Key×V)} {xs:List (List Key×Addr×Value)} (r:KT H kvs xs) (k:List Key):h_ (gG kvs k) ((atKey xs k).map (·.2)):=by
 induction r with
 |nil=>exact True.intro
 | @cons p q ps qs h t ih=>
   obtain ⟨h1,_,h2⟩:=h
   by_cases e:p.1=k
   ·have e':q.1=k:=h1.symm.trans e
    have b:atKey (q::qs) k=some q.2:=by simp [atKey,List.find?_cons,e']
    rw [dI e,b];exact h2
   ·have e':¬ q.1=k:=fun z=>e (h1.trans z)
    have b:atKey (q::qs) k=atKey qs k:=by simp [atKey,List.find?_cons,e']
    rw [dF e,b];exact ih
theorem KT.repl (r:KT H kvs xs) (k:List Key) (ry:RelV y u) :
 KT H (kvs.map fun kv=>if kv.1=k then (kv.1,y) else kv) (xs.map (putAt k u)):=by
 induction r with
 |nil=>exact .nil
 | @cons p q ps qs h t ih=>
   rw [List.map_cons,List.map_cons]
   refine .cons ?_ ih
   obtain ⟨h1,h2,h3⟩:=h
   unfold putAt
   by_cases e:p.1=k
   ·rw [if_pos e,if_pos (h1.symm.trans e)];exact ⟨h1,h2,ry⟩
   ·rw [if_neg e,if_neg (fun z=>e (h1.trans z))];exact ⟨h1,h2,h3⟩
theorem KT.put (r:KT H kvs xs) (k:List Key) (hb:H b=some (.tup (k.map kV))) (ry:RelV y u) :
 KT H (putK kvs k y) (storedH xs k b u):=by
 have e:(kvs.any fun kv=>decide (kv.1=k))=(atKey xs k).isSome:=by
  rw [jY,(r.val k).isSome_eq,Option.isSome_map]
 unfold putK storedH
 rw [e]
 by_cases q:(atKey xs k).isSome=true
 ·rw [if_pos q,if_pos q];exact r.repl k ry
 ·rw [if_neg q,if_neg q];exact Paired.snoc r ⟨rfl,hb,ry⟩
theorem KT.keeps {H H':Hp} (r:KT H kvs xs) (ht:∀ b ys,H b=some (.tup ys)->H' b=some (.tup ys)):KT H' kvs xs:=
 Paired.mapP r fun _ _ z=>⟨z.1,ht _ _ z.2.1,z.2.2⟩
theorem Cj (ok:iK P w H h) (e:Rd H a u):cI P w H h a u:=e.ok ok
theorem zp (ok:iK P w H h) (e:Rd H a (.dK kvs)):kvs.length≤sizeLine/\(a == sysModules)=false/\∃ vs,KV kvs vs/\h.DictOf (dq P w) a vs:=
 show cI P w H h a (.dK kvs) from Cj ok e
theorem Dk (ok:iK P w H h) (e:H a=some (.dK kvs)):kvs.length≤sizeLine/\(a == sysModules)=false/\∃ vs,KV kvs vs/\h.DictOf (dq P w) a vs:=zp ok (.inl e)
theorem rY (ok:iK P w H h) (e:H a=some (.tup (ks.map kV))):(tupleKind (dq P w)).is h ks a:=by
 obtain ⟨_,its,r,o,h1,h2,n,h3⟩:=(show cI P w H h a (.tup (ks.map kV)) from ok a _ e)
 exact ⟨o,its.toArray,n,h1,h2,h3,by simpa using nU r⟩
theorem xr (ok:iK P w H h) (e:Rd H a (.dT kvs)):kvs.length≤sizeLine/\(a == sysModules)=false/\
 ∃ xs,KT H kvs xs/\h.DictOfH (tupleKind (dq P w)) a xs:=by
 obtain ⟨z,y,xs,r,o,es,ep,h1,h2,h3,h4,h5⟩:=(show cI P w H h a (.dT kvs) from Cj ok e)
 refine ⟨z,y,xs,r,o,es,ep,h1,h2,h3,h4,fun x hx=>?_,h5⟩
 have all:∀ {l:List (List Key×V)} {m:List (List Key×Addr×Value)},KT H l m->∀ x∈m,(tupleKind (dq P w)).is h x.1 x.2.1:=by
  intro l m q
  induction q with
  |nil=>intro x hx;exact nomatch hx
  | @cons p q ps qs hq t ih=>
    intro x hx
    rcases List.mem_cons.mp hx with e|hx
    ·subst e
     exact rY ok (by rw [← hq.1];exact hq.2.1)
    ·exact ih x hx
 exact all r x hx
theorem Kg (ok:iK P w H h) (e:H a=some (.dT kvs)):kvs.length≤sizeLine/\(a == sysModules)=false/\
 ∃ xs,KT H kvs xs/\h.DictOfH (tupleKind (dq P w)) a xs:=xr ok (.inl e)
def jC (H:Hp) (a:Addr) (y:V) (r:Option V):Prop:=
 (∃ kvs k,Rd H a (.dK kvs)/\y=kV k/\r=gG kvs k)∨∃ kvs k b,Rd H a (.dT kvs)/\y=.ref b/\H b=some (.tup (k.map kV))/\r=gG kvs k
def nu (H:Hp) (a:Addr) (y v:V) (H':Hp):Prop:=
 (∃ kvs k,H a=some (.dK kvs)/\y=kV k/\kvs.length<sizeLine/\H'=upd H a (.dK (putK kvs k v)))∨
 ∃ kvs k b,H a=some (.dT kvs)/\y=.ref b/\H b=some (.tup (k.map kV))/\kvs.length<sizeLine/\H'=upd H a (.dT (putK kvs k v))
theorem jC.k {H:Hp} {a:Addr} {kvs:List (Key×V)} {k:Key} (e:H a=some (.dK kvs)):jC H a (kV k) (gG kvs k):=.inl ⟨kvs,k,.inl e,rfl,rfl⟩
theorem nu.k {H:Hp} {a:Addr} {kvs:List (Key×V)} {k:Key} {v:V} (e:H a=some (.dK kvs)) (hl:kvs.length<sizeLine):nu H a (kV k) v (upd H a (.dK (putK kvs k v))):=.inl ⟨kvs,k,e,rfl,hl,rfl⟩
section
variable {X:Cx} {Z:List (Addr×Obj)} {σ:St} {H:Hp} {s:Shared} {a:Addr} {y v:V} {u r:Value} {o:Option V} {A:Around} {E:Value->Shared->Prop}
theorem Inv.big (I:Inv X Z σ H s):sysModules<s.heap.objs.size:=by
 have h:mainGlobals<s.heap.objs.size:=(I.mod.glob.keeps I.bk).lt
 exact Nat.lt_trans (by decide) h
theorem wA (hu:A.units+1<cLine) (I:Inv X Z σ H s) (g:jC H a y (some v)) (ry:RelV y u) (h:∀ w' s',Inv X Z σ H s'->RelV v w'->Q w' s') :
 wpAny (model X.prog X.w) A (getItem (.ref a) u) Q E s:=by
 rcases g with ⟨kvs,k,e,ey,l⟩|⟨kvs,k,b,e,ey,eb,l⟩
 ·subst ey
  obtain ⟨z,hd,vs,rel,dd⟩:=zp I.hok e
  obtain ⟨w',hw,rw'⟩:=h_.some_of (v:=v) (o:=valueAt vs k) (by rw [l];exact rel.val k)
  exact wpAny_getItem_of (uE ry) dd.mapOf hw (h w' _ (I.tok _) rw')
 ·subst ey
  cases (show u=Value.ref b from ry)
  obtain ⟨z,hd,xs,rel,dd⟩:=xr I.hok e
  obtain ⟨w',hw,rw'⟩:=h_.some_of (v:=v) (o:=(atKey xs k).map (·.2)) (by rw [l];exact rel.val k)
  obtain ⟨p,hp,hp2⟩:=Option.map_eq_some_iff.mp hw
  refine wpAny_getItem_heap (tupleKind_room_in1 hu) (rY I.hok eb) dd hp ?_
  rw [hp2]
  exact h w' _ (I.tok _) rw'
theorem pZ (I:Inv X Z σ H s) (mu:JP (H a)) (hs:Heap.SameBut a s.heap h') (he:∃ q,h'.get? a=some q) (new:cI X.prog X.w (upd H a ob) h' a ob) :
 Inv X Z σ (upd H a ob) { s with heap:=h',toks:=t' }:=
 I.write (x:=a) (e:=a) mu (.inl rfl) (fun b q hb z=>(hs.2 b hb).trans z) he new
theorem y_ (z:kvs.length≤sizeLine) (hd:(a == sysModules)=false) (rel:KV kvs vs) (dd:h'.DictOf (dq P w) a vs) :
 cI P w H' h' a (.dK kvs):=⟨z,hd,vs,rel,dd⟩
theorem vB {Q:Unit->Shared->Prop} (hu:A.units+1<cLine) (I:Inv X Z σ H s) (g:nu H a y v H') (ry:RelV y u) (rv:RelV v r) (h:∀ s',Inv X Z σ H' s'->Q () s') :
 wpAny (model X.prog X.w) A (setItem (.ref a) u r) Q E s:=by
 rcases g with ⟨kvs,k,e,ey,l,eH⟩|⟨kvs,k,b,e,ey,eb,l,eH⟩
 ·subst ey eH
  obtain ⟨z,hd,vs,rel,dd⟩:=Dk I.hok e
  have hz:vs.length≤sizeLine:=by rw [← rel.length];exact z
  have hl:(putK kvs k v).length≤sizeLine:=by have:=gQ kvs k v;omega
  refine wpAny_setItem_pairs (hsz:=hz) (uE ry) dd fun h' dd' hs=>h _ ?_
  have he:∃ q,h'.get? a=some q:=let ⟨q,_,_,hq,_⟩:=dd';⟨q,hq⟩
  exact pZ I (by rw [e];exact True.intro) hs he (y_ hl hd (rel.put k rv) dd')
 ·subst ey eH
  cases (show u=Value.ref b from ry)
  obtain ⟨z,hd,xs,rel,dd⟩:=Kg I.hok e
  have hz:xs.length≤sizeLine:=by rw [← Paired.length rel];exact z
  have hl:(putK kvs k v).length≤sizeLine:=by have:=gQ kvs k v;omega
  refine wpAny_setItem_heap (hsz:=hz) (tupleKind_room_in1 hu) (rY I.hok eb) dd fun h' dd' hs=>h _ ?_
  obtain ⟨q,es,ep,hq,h2,h3,h4,_,h5⟩:=dd'
  refine pZ I (by rw [e];exact True.intro) hs ⟨q,hq⟩ ⟨hl,hd,_,(rel.put k eb rv).keeps fun c ys ec=>?_,q,es,ep,hq,h2,h3,h4,h5⟩
  rw [aK (fK ec e (fun z=>nomatch z))]
  exact ec
end
def QS (i:Expr):Prop:=∀ ov iv,subscripted i false ov iv=operate [ov,iv] (getItem ov iv)
theorem Az {prog:Program} {w:World} {A:Around} {E:Value->Shared->Prop} {s:Shared} {env:Env} {value slice:Expr} {pos:Pos} {T id:String} {Q:Value->Shared->Prop}
 (hl:typeLookup (.type T) "__getitem__" = pure (some (.builtin id))) (hs:QS slice)
 (h:wpAny (model prog w) A (eval value env) (fun o s₁=>wpAny (model prog w) A (eval slice env) (fun i s₂=>s₂.TypeIs o T/\wpAny (model prog w) A (getItem o i) Q E s₂) E s₁) E s) :
 wpAny (model prog w) A (eval (.Subscript value slice pos) env) Q E s:=by
 refine Subscript_ (wpAny_mono h (fun o s₁ h₁=>wpAny_mono h₁ (fun i s₂ h₂=>?_) fun _ _ x=>x) fun _ _ x=>x)
 obtain ⟨hT,h₂⟩:=h₂
 unfold subscriptTail
 refine wpAny_bind ?_
 rw [getitemInPython_of_ne hT.not_modules]
 refine wpAny_bind (wpAny_specialOf hT hl ?_)
 have fin:wpAny (model prog w) A (subscripted slice false o i) (fun r s₃=>wpAny (model prog w) A (letTemporaryGo value o r >>= fun _=>pure r) Q E s₃) E s₂:=by
  rw [hs o i]
  exact wpAny_operating (wpAny_mono h₂ (fun r s₃ h₃=>wpAny_bind (wpAny_letTemporaryGo (wpAny_pure h₃))) fun _ _ x=>x)
 first
  |exact wpAny_pure (wpAny_bind fin)
  |exact wpAny_bind (wpAny_pure (wpAny_bind fin))
  |exact wpAny_bind fin
theorem rD (I:Inv X Z σ H s) (g:jC H a y o):s.TypeIs (.ref a) "dict":=by
 rcases g with ⟨kvs,k,e,_,_⟩|⟨kvs,k,b,e,_,_,_⟩
 ·obtain ⟨_,_,vs,_,dd⟩:=zp I.hok e
  exact dd.typeIs
 ·obtain ⟨_,_,xs,_,dd⟩:=xr I.hok e
  exact dd.typeIs
def P_ (td ty:TE):TE:=fun σ H Q=>td σ H fun x H1=>ty σ H1 fun y H2=>∃ a v,x=.ref a/\jC H2 a y (some v)/\Q v H2
def Nx (td ty tv:TE):TS:=fun D σ H=>tv σ H fun v H1=>td σ H1 fun x H2=>ty σ H2 fun y H3=>∃ a H4,x=.ref a/\nu H3 a y v H4/\D.nx σ H4
theorem cY {X:Cx} (hu:X.A.units+1<cLine) (ho:PE X o td) (hi:PE X i ty) (hs:QS i):PE X (.Subscript o i pos) (P_ td ty):=by
 intro Z s σ H Q I h
 refine Az PySem.F.slot_dict_getitem.lookup hs (b_ (ho Z s σ H _ I h) fun u s1 ⟨x,H1,I1,rx,q1⟩=>b_ (hi Z s1 σ H1 _ I1 q1) fun iv s2 ⟨y,H2,I2,ry,a,v,ex,g,q2⟩=>?_)
 subst ex
 obtain rfl:u=Value.ref a:=rx
 exact ⟨rD I2 g,wA hu I2 g ry fun w' s3 I3 rw'=>⟨v,H2,I3,rw',q2⟩⟩
theorem j8 {X:Cx} {pos:Pos} (hu:X.A.units+1<cLine) (ho:PE X o td) (hi:PE X i ty) (hv:PE X value tv) (hs:swapsWith value (some (.Subscript o i pos')) pos.line X.env=pure false) :
 PS X (.Assign [.Subscript o i pos'] value pos) (Nx td ty tv):=by
 intro Z s σ H D I h
 refine wpAny_Assign_Subscript (b_ (hv Z s σ H _ I h) fun r s1 ⟨v,H1,I1,rv,q1⟩=>b_ (ho Z s1 σ H1 _ I1 q1) fun u s2 ⟨x,H2,I2,rx,q2⟩=>b_ (hi Z s2 σ H2 _ I2 q2) fun iv s3 ⟨y,H3,I3,ry,a,H4,ex,g,q3⟩=>?_) hs
 subst ex
 obtain rfl:u=Value.ref a:=rx
 exact vB hu I3 g ry rv fun s4 I4=>⟨σ,H4,I4,q3⟩
theorem xY (h:Heap) (hb:sysModules<h.objs.size):cI P w H (h.push { cls:=.type "dict",data:=.dict #[] }) h.objs.size (.dK []):=
 ⟨Nat.zero_le _,beq_eq_false_iff_ne.mpr (Ne.symm (Nat.ne_of_lt hb)),[],.nil,Heap.DictOf.new h⟩
def rM:List (TE×TE)->St->Hp->(List (V×V)->Hp->Prop)->Prop
 |[],_,H,Q=>Q [] H
 |(tk,tv)::r,σ,H,Q=>tk σ H fun x H1=>tv σ H1 fun y H2=>rM r σ H2 fun ps H3=>Q ((x,y)::ps) H3
abbrev VV:List (V×V)->List (Value×Value)->Prop:=Paired fun p q=>RelV p.1 q.1/\RelV p.2 q.2
def Rk (X:Cx) (pos:Pos) (keys:List (Option Expr)) (values:List Expr) (trs:List (TE×TE)):Prop:=
 ∀ (Z:List (Addr×Obj)) (s:Shared) (σ:St) (H:Hp) (Q:List (V×V)->Hp->Prop),Inv X Z σ H s->rM trs σ H Q->
   wpAny (model X.prog X.w) X.A (evalPairs (pairTrees keys values X.env pos)) (fun vs s'=>∃ ps H',Inv X Z σ H' s'/\VV ps vs/\Q ps H') X.xe s
theorem uz:Rk X pos [] [] []:=fun Z s σ H Q I h=>pairTrees_nil_walk ⟨[],H,I,.nil,h⟩
theorem g_ {X:Cx} {pos:Pos} {k v:Expr} {ks:List (Option Expr)} {vs:List Expr} {tk tv:TE} {trs:List (TE×TE)} (hk:PE X k tk) (hv:PE X v tv) (hr:Rk X pos ks vs trs) :
 Rk X pos (some k::ks) (v::vs) ((tk,tv)::trs):=fun Z s σ H Q I h=>
 pairTrees_cons_walk (b_ (hk Z s σ H _ I h) fun u s1 ⟨x,H1,I1,rx,q1⟩=>b_ (hv Z s1 σ H1 _ I1 q1) fun w2 s2 ⟨y,H2,I2,ry,q2⟩=>
  b_ (hr Z s2 σ H2 _ I2 q2) fun ws s3 ⟨ps,H3,I3,rel,q3⟩=>⟨(x,y)::ps,H3,I3,.cons ⟨rx,ry⟩ rel,q3⟩)
def iy (kvs more:List (Key×V)):List (Key×V):=more.foldl (fun acc kv=>putK acc kv.1 kv.2) kvs
theorem KV.merge:∀ {more:List (Key×V)} {rs:List (Key×Value)} {kvs:List (Key×V)} {vs:List (Key×Value)},KV more rs->KV kvs vs->KV (iy kvs more) (merged vs rs):=by
 intro more rs kvs vs r
 unfold KV at r
 induction r generalizing kvs vs with
 |nil=>intro q;exact q
 | @cons p q ps qs h t ih=>
   intro r0
   have e:KV (putK kvs p.1 p.2) (stored vs q.1 q.2):=by
    have:=r0.put p.1 h.2
    rw [← h.1];exact this
   exact ih e
theorem jz:∀ (more kvs:List (Key×V)),(iy kvs more).length≤kvs.length+more.length
 |[],kvs=>by show kvs.length≤kvs.length+0;omega
 | p::r,kvs=>by
   have h1:=jz r (putK kvs p.1 p.2)
   have h2:=gQ kvs p.1 p.2
   show (iy (putK kvs p.1 p.2) r).length≤_
   rw [List.length_cons];omega
theorem m5:∀ {kvs:List (Key×V)} {ws:List (Value×Value)},VV (kvs.map fun kv=>(kV kv.1,kv.2)) ws->∃ rs,Carries (dq P w) ws rs/\KV kvs rs
 |[],_,r=>by rw [List.map_nil] at r;cases r;exact ⟨[],True.intro,.nil⟩
 | p::kvs,_,r=>by
   rw [List.map_cons] at r
   cases r with
   | @cons a b as bs h t=>
     obtain ⟨rs,c,q⟩:=m5 (P:=P) (w:=w) t
     obtain ⟨b1,b2⟩:=b
     exact ⟨(p.1,b2)::rs,⟨uE h.1,rfl,c⟩,.cons ⟨rfl,h.2⟩ q⟩
def Kr (trs:List (TE×TE)):TE:=fun σ H Q=>∀ p,H p=none->rM trs σ (upd H p (.dK [])) fun ps H2=>H2 p=some (.dK [])/\∃ kvs:List (Key×V),ps=kvs.map (fun kv=>(kV kv.1,kv.2))/\kvs.length≤15/\Q (.ref p) (upd H2 p (.dK (iy [] kvs)))
theorem uD {X:Cx} {pos:Pos} {keys:List (Option Expr)} {values:List Expr} {trs:List (TE×TE)} (h:Rk X pos keys values trs) (hall:keys.all (·.isSome)=true) (hl:keys.length=values.length) (h0:keys≠[])
 (h15:keys.length≤15):PE X (.Dict keys values pos) (Kr trs):=by
 intro Z s σ H Q I q
 have hn:=I.hok.fresh (Nat.le_refl s.heap.objs.size)
 have I1:=I.laid (a:=s.heap.objs.size) (o:=.dK []) (h':=s.heap.push { cls:=.type "dict",data:=.dict #[] }) (t':=s.toks) (fun _ _ q=>Heap.get?_push_of_some _ q) (Nat.le_refl _) (xY s.heap I.big)
 refine wpAny_Dict_walk (knd:=dq X.prog X.w) hall hl h0 h15 (b_ (h Z _ σ _ _ I1 (q _ hn)) fun ws s2 ⟨ps,H2,I2,rel,e,kvs,ep,lk,q2⟩=>?_)
 subst ep
 obtain ⟨rs,c,rk⟩:=m5 (P:=X.prog) (w:=X.w) rel
 obtain ⟨z,hd,vs0,r0,dd⟩:=Dk I2.hok e
 cases r0
 refine ⟨rs,c,dd,fun h' dd' hs=>⟨.ref s.heap.objs.size,_,?_,rfl,q2⟩⟩
 have hz:(iy [] kvs).length≤sizeLine:=by
  have h1:=jz kvs []
  rw [List.length_nil] at h1
  rw [sizeLine_eq];omega
 have he:∃ q,h'.get? s.heap.objs.size=some q:=let ⟨q,_,_,hq,_⟩:=dd';⟨q,hq⟩
 exact pZ I2 (by rw [e];exact True.intro) hs he (y_ hz hd (rk.merge .nil) dd')
structure M1 (X:Cx) (o:Expr) (m:Str) (apos:Pos) (e:Expr) (cpos:Pos):Prop where
 base:attributeBase o m X.env (eval o X.env)=eval o X.env
 few:((backTo cpos (starEach [e] X.env)).all (fun x=>!x.1) && (backToKw cpos (keywordEach [] X.env)).all (fun x=>x.1.isSome)
  && decide (([e]:List Expr).length+([]:List Keyword).length+(if ([]:List Keyword).isEmpty then 0 else 1)<30))=true
 line:(apos.endLine == cpos.line)=true
 trees:backTo cpos (starEach [e] X.env)=[(false,eval e X.env)]
end L2
namespace Att
open PySem PySem.W PySem.Calls PyProof.Rows
theorem lK:∀ (ns:List Int) (vs:List Value),WellAll P h vs (ns.map WData.int)->IntsAre vs ns:=by
 intro ns
 induction ns with
 | nil=>
   intro vs w
   rw [List.map_nil] at w
   cases w
   exact .nil
 | cons n ns ih=>
   intro vs w
   rw [List.map_cons] at w
   cases w with
   | cons a b=>
     cases a
     exact .cons _ _ (ih _ b)
theorem vq {l:OpenLaw} (hn:l.most=some n) {h:Heap}
 (hpre:l.row.toRowW.claim.pre args=true) (hwl:WellAll P h vals args) :
 ∃ a vs ns,vals=[Value.ref a]/\args=[WData.list (ns.map WData.int)]/\h.get? a=some { cls:=.type "list",data:=.seq vs.toArray }/\IntsAre vs ns/\ns.length≤n:=by
 have hsh:WShape.hasAll [] args [.list .int]=true:=(pre_splitW hpre).1
 have hc:l.pre.holds [] { args:=args }=true:=(pre_splitW hpre).2
 obtain ⟨d,r,rfl,h1,h2⟩:=hasAllW_cons hsh
 obtain rfl:=hasAllW_nil h2
 obtain ⟨xs,rfl,h3⟩:=hasW_list h1
 obtain ⟨ns,rfl⟩:=items_int h3
 have hlen:ns.length≤n:=by
  unfold OpenLaw.pre at hc
  have h4:(WTm.not (.lt (.lit (.int (n:Int))) (.len (.arg 0)))).holds [] { args:=[.list (ns.map .int)] }=true:=by
   have h4:=(holds_andW hc).1
   rw [hn] at h4
   exact h4
  have h5:=condW_of h4 (w_not (w_lt w_lit (w_len_list (w_arg rfl))))
  rw [List.length_map] at h5
  refine Nat.le_of_not_lt fun q=>?_
  have q':(n:Int)<((ns.length:Nat):Int):=by omega
  first
   |(rw [decide_eq_true q'] at h5;exact absurd h5 (by decide))
   |(simp at h5;omega)
 cases hwl with
 | cons w1 w2=>
   cases w2
   cases w1 with
   |list ho hall=>exact ⟨_,_,ns,rfl,rfl,ho,lK ns _ hall,hlen⟩
theorem wL (l:OpenLaw) (args:List WData):l.row.toRowW.claim.post args (.bool true) args=true:=
 postW_of (r:=l.row.toRowW) (X:=(true == true))
  (show WShape.has [] (.bool true) .bool=true by first|rfl|decide|simp [WShape.has,WShape.arms,WShape.armsAll])
  (show (WTm.eq .res (.lit (.bool true))).value [] { args:=args,res:=some (.bool true),after:=args }=some (.bool (true == true)) from w_eq_bool (w_res rfl) w_lit) rfl
theorem qt {l:OpenLaw} {YP:World->Heap->Prop} {d:DefRec}
 (hn:l.most=some n) (hdf:d.params.defaults=[])
 (call:∀ (w:World) (s₀ s₁:Shared) (mg mb:Str->Option Value) (fa:Addr) (o:Obj) (pm cd doc:Value) (a:Addr) (vs:List Value) (ns:List Int),
  Ground q loose [] XP w s₀ mg mb s₁.heap->YP w s₁.heap->
  s₁.heap.get? fa=some o->o.data=.func (docDef d.name d.params d.body d.scope pm cd doc)->s₁.heap.CodeRec cd d.name->mg d.name=some (.ref fa)->
  s₁.heap.get? a=some { cls:=.type "list",data:=.seq vs.toArray }->IntsAre vs ns->ns.length≤n->s₁.gens=#[]->
  codeAny (model l.prog w) callerA (.call (.ref fa) ⟨[.ref a],[]⟩) (fun r s'=>r=.ok (.ret (.bool true))/\OldK s₁.heap s'.heap/\s'.os=s₁.os/\AllBare s'.gens) s₁) :
 WalkO q loose XP YP l.row.toRowW d [] (fun f vs=>PySem.call f vs):=by
 intro w s₀ s₁ mg mb G Y fa o pm cd doc dV kV ho hd hcd hD hmg hg args vals as hpre hlay hrd hwl hlo
 obtain rfl:dV=.none:=Dflts.none hD hdf
 obtain rfl:kV=.none:=Dflts.noKw hD
 obtain ⟨a,vs,ns,rfl,rfl,hobj,hints,hlen⟩:=vq hn hpre hwl
 refine enter_call (codeAny_mono (call w s₀ s₁ mg mb fa o pm cd doc a vs ns G Y ho (fd_plain hd) hcd hmg hobj hints hlen hg) fun r s' hq=>?_)
 obtain ⟨rfl,h2,h3,h4⟩:=hq
 exact ⟨.inl ⟨.bool true,.bool true,[],rfl,fun _=>rfl,.bool true,wL l _,fun _=>⟨List.Pairwise.nil,fun _ hm=>(nomatch hm)⟩⟩,h2,h3,h4⟩
section
variable {prog:Program} {w:World} {A:Around} {E:Value->Shared->Prop} {s:Shared} {K:Frag}
end
end Att
namespace L2
open PySem PySem.Spec PyProof.Rows
theorem oF:∀ {vs:List Value} {ns:List Int},IntsAre vs ns->Vals (ns.map V.int) vs
 |_,_,.nil=>.nil
 |_,_,.cons n t h=>.cons ⟨t,rfl⟩ (oF h)
def inClass (s:Stmt) (j:Nat):Stmt:=match s with
 |.ClassDef _ _ _ body _ _ _ _ _ _ _=>body.getD j (.Pass ⟨0,0,0,0⟩)
 |_=>.Pass ⟨0,0,0,0⟩
def d9 (s:Stmt):Arguments:=match s with
 |.FunctionDef _ a _ _ _ _ _ _ _ _=>a
 |_=>{ posonlyargs:=[],args:=[],vararg:=none,kwonlyargs:=[],kw_defaults:=[],kwarg:=none,defaults:=[] }
def cg (s:Stmt):List Stmt:=match s with
 |.FunctionDef _ _ b _ _ _ _ _ _ _=>b
 |_=>[]
def aC (s:Stmt):Scope:=match s with
 |.FunctionDef _ _ _ _ _ _ sc _ _ _=>sc
 |_=>{ kind:=.function,names:=[],isGenerator:=false,isCoroutine:=false }
abbrev bL:rF:=fun _ _ _ _ _ _=>False
abbrev E0:XK:=fun _ _ _=>False
theorem aO:eF bL X E0:=fun _ _ _ _ _ _ _ h=>h.elim
structure fj (K:PySem.W.Frag) (x qual:Str) (st:Stmt) (f:Addr) (fd:FuncData):Prop where
 ex:∃ (oc:Value) (od:Option Addr) (kV doc pm:Value) (an:Option Addr) (cdv ct:Value) (osl:Array (Option Value)),
  fd=PySem.W.fnOf x qual (d9 st) (cg st) (aC st) .none kV doc pm an cdv ct/\K.lookup f=some ⟨oc,od,.func fd,osl⟩/\PySem.W.codeIn K cdv qual=true
 kp:PySem.W.keepIn K (.ref f)=true
theorem fj.ok {P:Program} {w:World} {K:PySem.W.Frag} {mg:Str->Option Value} {base:Heap} {x qual:Str} {st:Stmt} {f:Addr} {fd:FuncData} {N ps:List Str} {k:Nat} {sp:Sp} (F:fj K x qual st f fd) (S:aU N ps (aC st)) (len:∀ vs H Q E,sp vs H Q E->vs.length=ps.length)
 (hbody:∀ (cdv:Value) (A:Around) (outer:List Env) (s:Shared) (H:Hp) (vs:List V) (Q:VK) (E:XK),bK k (A.deeper (envOfC qual (aC st) s.heap.objs.size f cdv))->sp vs H Q E->
  ∃ t,p7 (iH bL P w K mg base N qual (aC st) f cdv A outer s H E).nox (cg st) t/\t { nx:=fun _ H'=>Q .non H',rt:=Q } (start N vs) H):aQ P w K mg base bL (k+1) f fd ps sp:=by
 obtain ⟨oc,od,kV,doc,pm,an,cdv,ct,osl,rfl,lk,hcd⟩:=F.ex
 refine qx lk hcd S len fun A outer s H vs Q E hr hsp=>?_
 obtain ⟨t,h,q⟩:=hbody cdv A outer s H vs Q E hr hsp
 exact ⟨t,h.nox,q⟩
theorem fj.binds {K:PySem.W.Frag} {x qual:Str} {st:Stmt} {f:Addr} {fd:FuncData} {ps:List Str} (F:fj K x qual st f fd)
 (h:∀ (kV doc pm:Value) (an:Option Addr) (cdv ct:Value) (us:List Value),us.length=ps.length->bindArgs (PySem.W.fnOf x qual (d9 st) (cg st) (aC st) .none kV doc pm an cdv ct) ⟨us,[]⟩=pure (ps.zip us)):Binds K fd ps []:=by
 obtain ⟨oc,od,kV,doc,pm,an,cdv,ct,osl,rfl,lk,hcd⟩:=F.ex
 exact .all (h kV doc pm an cdv ct)
theorem CJ (hr:bK k A):A.units+1<cLine:=Nat.lt_of_le_of_lt (Nat.add_le_add_left (by decide:1≤64) _) hr.units
theorem gr (h:n≤1000):n<sizeLine:=Nat.lt_of_le_of_lt h (by decide)
theorem pv (i:Nat) (hN:X.N[i]?=some x:=by rfl) (hv:Jc X.env.scope x:=by first|exact Or.inl rfl|exact Or.inr (Or.inl rfl)|exact Or.inr (Or.inr rfl)) (hd:(x == ("__debug__" : Str))=false:=by decide)
 (hcd:(x == ("__classdict__" : Str))=false:=by decide):PE X (.Name x pos) (wU i):=G5 hN hv hd hcd
theorem f9 {c A B:Prop} [Decidable c] (h1:c->A) (h2:¬ c->B):if c then A else B:=by
 by_cases h:c
 ·rw [if_pos h]
  exact h1 h
 ·rw [if_neg h]
  exact h2 h
def aB (H H':Hp):Prop:=∀ b o,H b=some o->H' b=some o
theorem aB.refl (H:Hp):aB H H:=fun _ _ h=>h
theorem aB.trans (a:aB H H1) (b:aB H1 H2):aB H H2:=fun c o h=>b c o (a c o h)
theorem aB.free (e:aB H H') (h:H' l=Option.none):H l=Option.none:=by
 cases q:H l with
 |none=>rfl
 | some o=>
   rw [e l o q] at h
   cases h
theorem aB.seq {K:PySem.W.Frag} {H H':Hp} {a:Addr} {xs:List V} (e:aB H H') (h:bJ K H a xs):bJ K H' a xs:=by
 rcases h with (h|⟨o,h⟩)|h
 ·exact .inl (.inl (e _ _ h))
 ·exact .inl (.inr ⟨o,e _ _ h⟩)
 ·exact .inr h
section
variable {κ:Type} [DecidableEq κ]
theorem uJ:∀ {l:List κ} {k:κ},l.Nodup->¬ k∈l->(l++[k]).Nodup
 |[],k,_,_=>by simp
 | a::r,k,h,hk=>by
   obtain ⟨h1,h2⟩:=List.nodup_cons.mp h
   show (a::(r++[k])).Nodup
   refine List.nodup_cons.mpr ⟨fun m=>?_,uJ h2 fun m=>hk (List.mem_cons.mpr (Or.inr m))⟩
   rcases List.mem_append.mp m with q|q
   ·exact h1 q
   ·exact hk (List.mem_cons.mpr (Or.inl (List.mem_singleton.mp q).symm))
end
theorem lZ (scope:Scope) (h:∀ y∈scope.names,y.2=.free->∃ c,env.cells.lookup y.1=some c) :
 ∃ cl,closureFor scope env=pure cl/\(∀ x c,cl.lookup x=some c->env.cells.lookup x=some c)/\∀ x,(x,NameKind.free)∈scope.names->∃ c,cl.lookup x=some c:=by
 have go:∀ (names:List (Str×NameKind)) (acc:List (Str×Addr)),(∀ y∈names,y.2=.free->∃ c,env.cells.lookup y.1=some c)->(∀ x c,acc.lookup x=some c->env.cells.lookup x=some c)->
  ∃ cl,(forIn names acc fun x cs=>(match x with
    |(name,kind)=>if kind == NameKind.free then (do let c ← cellOf env name;pure (ForInStep.yield ((name,c)::cs))) else pure (ForInStep.yield cs):Sem (ForInStep (List (Str×Addr)))))=pure cl/\
    (∀ x c,cl.lookup x=some c->env.cells.lookup x=some c)/\(∀ x,(x,NameKind.free)∈names∨(∃ c,acc.lookup x=some c)->∃ c,cl.lookup x=some c):=by
  intro names
  induction names with
  |nil=>intro acc _ ha;exact ⟨acc,rfl,ha,fun x z=>z.elim (fun q=>nomatch q) id⟩
  | cons y r ih=>
    intro acc hy ha
    obtain ⟨n,k⟩:=y
    by_cases hk:k=.free
    ·subst hk
     obtain ⟨c,hc⟩:=hy (n,.free) List.mem_cons_self rfl
     obtain ⟨cl,e,h1,h2⟩:=ih ((n,c)::acc) (fun z hz=>hy z (List.mem_cons_of_mem _ hz)) (fun x c' hx=>by
      rw [List.lookup_cons] at hx
      by_cases q:x == n
      ·rw [q] at hx
       cases hx
       rw [beq_iff_eq.mp q];exact hc
      ·rw [Bool.not_eq_true] at q
       rw [q] at hx
       exact ha x c' hx)
     refine ⟨cl,?_,h1,fun x z=>h2 x ?_⟩
     ·rw [List.forIn_cons]
      simp only [beq_self_eq_true,if_true,cellOf,hc]
      exact e
     ·have aux:∀ x,(∃ c',acc.lookup x=some c')->∃ c',((n,c)::acc).lookup x=some c':=fun x ⟨c',z⟩=>by
       rw [List.lookup_cons]
       by_cases q:x == n
       ·rw [q];exact ⟨_,rfl⟩
       ·rw [Bool.not_eq_true] at q
        rw [q];exact ⟨c',z⟩
      rcases z with z|z
      ·rcases List.mem_cons.mp z with z|z
       ·cases z
        exact .inr ⟨c,by rw [List.lookup_cons,beq_self_eq_true]⟩
       ·exact .inl z
      ·exact .inr (aux x z)
    ·have hb:(k == NameKind.free)=false:=by simpa using hk
     obtain ⟨cl,e,h1,h2⟩:=ih acc (fun z hz=>hy z (List.mem_cons_of_mem _ hz)) ha
     refine ⟨cl,?_,h1,fun x z=>h2 x ?_⟩
     ·rw [List.forIn_cons]
      simp only [hb,Bool.false_eq_true,if_false]
      exact e
     ·rcases z with z|z
      ·rcases List.mem_cons.mp z with z|z
       ·cases z
        exact absurd rfl hk
       ·exact .inl z
      ·exact .inr z
 obtain ⟨cl,e,h1,h2⟩:=go scope.names [] h (fun x c z=>by simp at z)
 refine ⟨cl,?_,h1,fun x z=>h2 x (.inl z)⟩
 unfold closureFor
 exact (congrArg (fun (m:Sem (List (Str×Addr)))=>m >>= fun cs=>pure cs) e).trans rfl
def cJ (X:Cx) (scope:Scope) (N':List Str) (cl:List (Str×Addr)) (C:Addr) (s₀:Shared) (H₀:Hp) (ex:List Addr):Cx where
 prog:=X.prog
 w:=X.w
 K:=X.K
 mg:=X.mg
 base:=X.base
 A:=X.A
 N:=N'
 s₀:=s₀
 H₀:=H₀
 env:=compEnvC scope cl C X.env
 outer:=X.stack
 stack:=X.stack
 ex:=ex
 fn:=fun _=>false
 calm:=X.calm
 pn:=[]
 xe:=fun _ _=>False
def iQ (k:Nat) (js:List Nat) (σ:St):St:=List.replicate k none++js.map fun j=>(σ[j]?).join
theorem uf (k:Nat) (js:List Nat) (σ:St):(iQ k js σ).length=k+js.length:=by simp [iQ]
structure bN (X:Cx) (scope:Scope) (own:List Str) (js:List Nat) (N':List Str):Prop where
 kind:scope.kind=.function
 nocell:∀ y∈scope.names,y.2≠.cell
 names:∀ y∈scope.names,y.2=.local->scope.names.lookup y.1=some .local
 free:∀ y∈scope.names,y.2=.free->X.env.kindOf y.1=some .cell∨X.env.kindOf y.1=some .free
 nm:N'=own++js.map fun j=>X.N.getD j Str.empty
 fr:∀ j∈js,j<X.N.length/\(X.N.getD j Str.empty,NameKind.free)∈scope.names/\∀ k,(X.N.getD j Str.empty,k)∈scope.names->k=.free
theorem lM {names:List (Str×NameKind)} (h:(x,NameKind.free)∈names) (u:∀ k,(x,k)∈names->k=.free):names.lookup x=some .free:=by
 induction names with
 |nil=>cases h
 | cons y r ih=>
   obtain ⟨n,k⟩:=y
   rw [List.lookup_cons]
   by_cases q:x == n
   ·rw [q]
    have e:x=n:=beq_iff_eq.mp q
    subst e
    rw [u k List.mem_cons_self]
   ·rw [Bool.not_eq_true] at q
    rw [q]
    refine ih ?_ fun k hk=>u k (List.mem_cons_of_mem _ hk)
    rcases List.mem_cons.mp h with z|z
    ·cases z
     rw [beq_self_eq_true] at q;cases q
    ·exact z
theorem lE (h:(x,k)∈(relabel scope env).names) (hk:k=.cell∨k=.free) (hc:∀ y∈scope.names,y.2≠.cell):(x,NameKind.free)∈scope.names:=by
 unfold relabel at h
 obtain ⟨⟨n,k'⟩,hm,e⟩:=List.mem_map.mp h
 dsimp only at e
 by_cases q:(k' == NameKind.free && env.scope.kind == .function && env.kindOf n == some .cell)=true
 ·rw [if_pos q] at e
  cases e
  rw [Bool.and_eq_true,Bool.and_eq_true] at q
  have:k'=.free:=by simpa using q.1.1
  rw [← this];exact hm
 ·rw [if_neg q] at e
  cases e
  rcases hk with z|z
  ·exact absurd z (hc _ hm)
  ·rw [← z];exact hm
theorem fU {env:Env} {x:Str}:∀ {names:List (Str×NameKind)},names.lookup x=some .free->
 (names.map fun (n,k)=>if (k == NameKind.free && env.scope.kind == .function && env.kindOf n == some .cell) then (n,NameKind.cell) else (n,k)).lookup x=some .cell∨
 (names.map fun (n,k)=>if (k == NameKind.free && env.scope.kind == .function && env.kindOf n == some .cell) then (n,NameKind.cell) else (n,k)).lookup x=some .free
 |[],h=>by simp at h
 | (n,k)::r,h=>by
   have ih:=@fU env x r
   rw [List.lookup_cons] at h
   rw [List.map_cons]
   dsimp only
   by_cases q:x == n
   ·rw [q] at h
    cases h
    by_cases c:(NameKind.free == NameKind.free && env.scope.kind == .function && env.kindOf n == some .cell)=true
    ·rw [if_pos c,List.lookup_cons,q];exact .inl rfl
    ·rw [if_neg c,List.lookup_cons,q];exact .inr rfl
   ·rw [Bool.not_eq_true] at q
    rw [q] at h
    by_cases c:(k == NameKind.free && env.scope.kind == .function && env.kindOf n == some .cell)=true
    ·rw [if_pos c,List.lookup_cons,q];exact ih h
    ·rw [if_neg c,List.lookup_cons,q];exact ih h
theorem Inv.comp {X:Cx} {H:Hp} {s:Shared} {scope:Scope} {own:List Str} {cl:List (Str×Addr)} {h₁:Heap} (S:bN X scope own js N') (I:Inv X Z σ H s)
 (hc1:∀ x c,cl.lookup x=some c->X.env.cells.lookup x=some c) (hc2:∀ x,(x,NameKind.free)∈scope.names->∃ c,cl.lookup x=some c) (hC:s.heap.objs.size≤C) (hns:h₁.Ns C m) (hk:∀ b o,s.heap.get? b=some o->h₁.get? b=some o)
 (hf:∀ b∈fp,jH X Z H b/\b<s.heap.objs.size) (hHC:H C=none) (hfree:∀ b o,s.heap.get? b=some o->b≠C) :
 Inv (cJ X scope N' cl C s H fp) [] (iQ own.length js σ) H { s with heap:=h₁,toks:=tk }:=by
 have ltx:∀ b o,X.s₀.heap.get? b=some o->b∉X.ex->b∉fp:=fun b o e hx hb=>by
  rcases (hf b hb).1.2.2.2.1 with z|z
  ·exact hx z
  ·exact absurd (Nat.lt_of_lt_of_le (Heap.lt_size e) z) (Nat.lt_irrefl _)
 refine ⟨⟨I.ok.mod,S.kind,I.ok.glob,I.ok.blt,hC,fun x y c h1 h2=>I.ok.inj x y c (hc1 x c h1) (hc1 y c h2),fun x hx=>?_,fun x c z=>(nomatch z),I.ok.hd,I.ok.frames,.inl rfl,fun b hb=>⟨Nat.ne_of_lt (Nat.lt_of_lt_of_le (hf b hb).2 hC),fun x c e=>(hf b hb).1.2.2.2.2.1 x c (hc1 x c e)⟩,I.bs,Nat.le_trans I.ok.bsz I.sz,fun b o e=>ltx b o (I.ok.bs b o e).1 (I.ok.noex b o e),fun b hb z=>?_,I.stack,I.stkFree⟩,
  rfl,I.bare,Un.kept hk,⟨m,hns,fun i x v e1 e2 e3=>?_⟩,fun x c e=>?_,hHC,fun x c e=>I.freeC x c (hc1 x c e),fun p hp=>absurd (show p∈([]:List (Addr×Obj)) from hp) (by simp),I.hok.kept hk,?_⟩
 ·have hx':(relabel scope X.env).names.lookup x=some .cell∨(relabel scope X.env).names.lookup x=some .free:=hx
  rcases hx' with z|z
  ·exact hc2 x (lE (PySem.mem_of_lookup z) (.inl rfl) S.nocell)
  ·exact hc2 x (lE (PySem.mem_of_lookup z) (.inr rfl) S.nocell)
 ·obtain ⟨_,f1,f2,_⟩:=(hf b hb).1
  rcases List.mem_cons.mp (I.stkSub b z) with q|q
  ·exact f1 q
  ·exact f2 q
 ·
  unfold iQ at e2
  by_cases hi:i<own.length
  ·rw [List.getElem?_append_left (by simpa using hi),List.getElem?_replicate] at e2
   split at e2 <;> cases e2
  ·rw [List.getElem?_append_right (by simpa using hi),List.length_replicate,List.getElem?_map] at e2
   cases ej:js[i-own.length]? with
   |none=>rw [ej] at e2;cases e2
   | some j=>
     rw [ej] at e2
     have e2':(σ[j]?).join=some v:=by simpa using e2
     have hσ:σ[j]?=some (some v):=by
      cases q:σ[j]? with
      |none=>rw [q] at e2';cases e2'
      |some o=>rw [q] at e2';exact congrArg some e2'
     have hj:=S.fr j (List.mem_of_getElem? ej)
     have hx:x=X.N.getD j Str.empty:=by
      have e1':N'[i]?=some x:=e1
      rw [S.nm,List.getElem?_append_right (by omega),List.getElem?_map,ej] at e1'
      exact (Option.some.inj e1').symm
     have hN:X.N[j]?=some x:=by
      rw [hx,List.getD_eq_getElem?_getD,List.getElem?_eq_getElem hj.1];rfl
     have hfr:scope.names.lookup x=some .free:=by rw [hx];exact lM hj.2.1 hj.2.2
     have hkx:=S.free (x,.free) (by rw [hx];exact hj.2.1) rfl
     have hvis:Jc X.env.scope x:=hkx.elim (fun z=>.inr (.inl z)) fun z=>.inr (.inr z)
     obtain ⟨mX,hnX,hlX⟩:=I.loc
     obtain ⟨u,r,l⟩:=hlX j x v hN hσ hvis
     refine ⟨u,r,.inr ⟨fU hfr,?_⟩⟩
     rcases l with ⟨z,_⟩|⟨_,c,hc,hcell⟩
     ·rcases hkx with q|q
      ·have:=q.symm.trans z;cases this
      ·have:=q.symm.trans z;cases this
     ·obtain ⟨c',hc'⟩:=hc2 x (by rw [hx];exact hj.2.1)
      have:c'=c:=Option.some.inj ((hc1 x c' hc').symm.trans hc)
      subst this
      obtain ⟨o,ho,hd⟩:=hcell
      exact ⟨c',hc',o,hk _ _ ho,hd⟩
 ·obtain ⟨v,o,ho,hd⟩:=I.cell x c (hc1 x c e)
  exact ⟨v,o,hk _ _ ho,hd⟩
 ·rw [uf]
  show _=N'.length
  rw [S.nm];simp
def wK (Y:Cx) (ifs:List Expr) (t:TT):Prop:=
 ∀ (Z:List (Addr×Obj)) (s:Shared) (σ:St) (H:Hp) (Q:Bool->Hp->Prop),Inv Y Z σ H s->t σ H Q->
   wpAny (model Y.prog Y.w) Y.A (forIn ifs true fun c r=>if r=true then do let ok ← isTrue c Y.env (eval c Y.env);pure (ForInStep.yield ok) else pure (ForInStep.yield r)) (TP Y Z σ Q) Y.xe s
def wR:TT:=fun _ H Q=>Q true H
theorem dh:wK Y [] wR:=fun _ _ _ H _ I h=>wpAny_tests_nil ⟨H,I,h⟩
theorem yt (h:PT Y c t):wK Y [c] t:=fun Z s σ H Q I hw=>wpAny_tests_one (h Z s σ H Q I hw)
abbrev eQ (us:List Value) (k:Nat):Obj:={ cls:=.type "list",data:=.seq us.toArray k }
def jM (J:It) (g:TG) (tt:TT) (te:TE) (F:List V->Hp->Prop) (W:Nat->Nat->List V->St->Hp->Prop):Prop:=
 ∀ i m ys σ H,W i m ys σ H->(J.stop i H/\F ys H)∨(J.go i H/\ys.length<sizeLine/\∀ x H1,J.yld i H x H1->g x σ H1 fun σ2 H2=>tt σ2 H2 fun b H3=>
   if b=true then te σ2 H3 fun y H4=>∃ m',m'<m/\W (i+1) m' (ys++[y]) σ2 H4 else ∃ m',m'<m/\W (i+1) m' ys σ2 H3)
theorem vK
 (W : Nat->Nat->List V->St->Hp->Prop) (turn:jM J g tt te F W) (T:Turn X.prog X.w X.K tg J fp it tn)
    (hg:PG (cJ X scope N' cl C s₂ H₂ fp) tg g) (hc:wK (cJ X scope N' cl C s₂ H₂ fp) ifs tt) (he:PE (cJ X scope N' cl C s₂ H₂ fp) elt te) (hcalm:X.calm=true)
    (hfp:∀ b∈fp,b≠C/\b∉frs X.stack/\(∀ x c,cl.lookup x=some c->c≠b)/\b≠acc) (hacc:acc≠C/\acc∉frs X.stack/\(∀ x c,cl.lookup x=some c->c≠acc)/\s₂.heap.objs.size≤acc)
    (hR:∀ s' σ' H' ys us k,Inv (cJ X scope N' cl C s₂ H₂ fp) [(acc,eQ us k)] σ' H' s'->Vals ys us->F ys H'->R (.ok .next) s')
 (I : Inv (cJ X scope N' cl C s₂ H₂ fp) [(acc,eQ [] 0)] σ H s) (st:tn 0 s.heap) (fr:∀ b∈fp,H b=none) (w0:W 0 m [] σ H) :
    codeAny (model X.prog X.w) X.A (.compLoop (.ListComp elt [⟨tg,iter,ifs,0⟩] scope pos) 0 (.ref it) (.ref acc) (compEnvC scope cl C X.env)) R s:=by
  refine codeAny_loop rfl (fun n s'=>∃ i ys us k σ' H',Vals ys us/\Inv (cJ X scope N' cl C s₂ H₂ fp) [(acc,eQ us k)] σ' H' s'/\tn i s'.heap/\(∀ b∈fp,H' b=none)/\W i n ys σ' H') (fun n s3 hI=>?_) m ⟨0,[],[],0,σ,H,.nil,I,st,fr,w0⟩
  obtain ⟨i,ys,us,k,σ3,H3,rv,I3,st3,fr3,w3⟩:=hI
  show wpAny _ X.A ((compTurn (.ListComp elt [⟨tg,iter,ifs,0⟩] scope pos) 0 (.ref it) (.ref acc) (compEnvC scope cl C X.env)).onRaise (fun x=>do noteFrame x (compEnvC scope cl C X.env);theTreesLotGoes x)) _ _ s3
  refine wpAny_noted ?_
  rw [compTurn_list]
  have fpk:∀ {Z:List (Addr×Obj)} {H':Hp},(∀ p∈Z,p.1=acc∨p.1∈([]:List Addr))->(∀ b∈fp,H' b=none)->∀ b∈fp,jH (cJ X scope N' cl C s₂ H₂ fp) Z H' b:=fun hp hn b hb=>
   ⟨hn b hb,(hfp b hb).1,(hfp b hb).2.1,.inl hb,(hfp b hb).2.2.1,fun p hp'=>by
    have hp'':p∈([]:List (Addr×Obj))++_:=hp'
    rcases hp p (by simpa using hp'') with z|z
    ·rw [z];exact Ne.symm (hfp b hb).2.2.2
    ·exact (nomatch z)⟩
  have fp1:=fpk (Z:=[(acc,eQ us k)]) (fun p hp=>.inl (by simp at hp;rw [hp])) fr3
  refine wpAny_bind (wpAny_standAt (wpAny_bind ?_))
  rcases turn i n ys σ3 H3 w3 with ⟨stop,qn⟩|⟨go,hz,step⟩
  ·refine wpAny_mono (T.done (cJ X scope N' cl C s₂ H₂ fp) rfl rfl rfl hcalm i _ s3 σ3 H3 (fun _ _=>False) I3 fp1 st3 stop) (fun r s4 ⟨hr,I4⟩=>?_) (fun _ _ z=>z.elim)
   subst hr
   exact wpAny_pure (hR s4 σ3 H3 ys us k I4 rv qn)
  ·refine wpAny_mono (T.item (cJ X scope N' cl C s₂ H₂ fp) rfl rfl rfl hcalm i _ s3 σ3 H3 (fun _ _=>False) I3 fp1 st3 go) (fun r s4 ⟨u,hr,h4⟩=>?_) (fun _ _ z=>z.elim)
   subst hr
   refine wpAny_bind (wpAny_mono h4 (fun _ s5 ⟨x,H5,I5,r5,y5,st5,fr5⟩=>?_) (fun _ _ z=>z.elim))
   have fp5:=fpk (Z:=[(acc,eQ us k)]) (fun p hp=>.inl (by simp at hp;rw [hp])) fr5
   have I5':=I5.pinned fp5 (T.obj _ _ st5)
   refine wpAny_bind (wpAny_mono (hg _ s5 σ3 H5 x u _ I5' r5 (step x H5 y5)) (fun _ s6 ⟨σ6,H6,I6,q6⟩=>?_) (fun _ _ z=>z.elim))
   refine wpAny_bind (wpAny_mono (hc _ s6 σ6 H6 _ I6 q6) (fun ok s7 ⟨H7,I7,q7⟩=>?_) (fun _ _ z=>z.elim))
   have again:∀ {s8:Shared} {σ8:St} {H8:Hp} {us8:List Value} {k8:Nat} {ys8:List V},Inv (cJ X scope N' cl C s₂ H₂ fp) ([(acc,eQ us k)]++mW fp s5.heap) σ8 H8 s8->tn (i+1) s8.heap/\∀ b∈fp,H8 b=none:=fun {s8 σ8 H8 us8 k8 ys8} I8=>
    ⟨T.keep _ _ _ st5 fun b hb o e=>(I8.pin (b,o) (List.mem_append_right _ (List.mem_append_right _ (iB hb e)))).1,fun b hb=>by
     obtain ⟨o,e,d⟩:=T.obj _ _ st5 b hb
     exact (I8.pin (b,o) (List.mem_append_right _ (List.mem_append_right _ (iB hb e)))).2.1⟩
   cases ok with
   | false=>
     rw [if_neg Bool.false_ne_true] at q7
     obtain ⟨m',hm,w7⟩:=q7
     obtain ⟨t1,t2⟩:=again (us8:=us) (k8:=k) (ys8:=ys) I7
     exact wpAny_pure ⟨rfl,m',hm,i+1,ys,us,k,σ6,H7,rv,I7.unpinned,t1,t2,w7⟩
   | true=>
     rw [if_pos rfl] at q7
     refine wpAny_bind (wpAny_bind (wpAny_mono (he _ s7 σ6 H7 _ I7 q7) (fun y s8 ⟨yv,H8,I8,r8,m',hm,w8⟩=>?_) (fun _ _ z=>z.elim)))
     obtain ⟨t1,t2⟩:=again (us8:=us) (k8:=k) (ys8:=ys) I8
     obtain ⟨e8,n8,l8,f8,d8⟩:=I8.pin (acc,eQ us k) (List.mem_append_right _ (List.mem_append_left _ List.mem_cons_self))
     have hlen:=rv.length
     have hz':us.toArray.size≤sizeLine:=by rw [List.size_toArray];omega
     refine wpAny_bind (call_meets PySem.F.slot_list_append ⟨_,e8,rfl⟩ PySem.F.entry_list_append (PySem.F.args_list_append_2 _ _) (PySem.list_append acc us.toArray k y hz') ⟨e8,?_⟩)
     have q:=PySem.IsL.update e8 (fun z=>z.push y)
     have I9:Inv (cJ X scope N' cl C s₂ H₂ fp) [] σ6 H8 s8:=I8.pins_of fun p hp=>(nomatch hp)
     have I10:=I9.turned (t':=s8.toks) (it:=acc) (h':=s8.heap.update acc (Obj.mapSeq fun z=>z.push y)) (fun b o hb e=>(Heap.get?_update_other s8.heap _ (Ne.symm hb)).trans e) n8 hacc.1 (.inr hacc.2.2.2) hacc.2.2.1 (fun p hp=>(nomatch hp))
     have e':(us.toArray.push y)=(us++[y]).toArray:=by simp
     rw [e'] at q
     obtain ⟨k9,ek⟩:∃ k9,k9=(if ((us++[y]).toArray.size == us.toArray.size)=true then k else k+1):=⟨_,rfl⟩
     rw [← ek] at q
     have I11:=I10.pins_of (pins':=[(acc,eQ (us++[y]) k9)]) fun p hp=>by
      obtain rfl:p=(acc,eQ (us++[y]) k9):=by simpa using hp
      exact ⟨q,n8,hacc.1,hacc.2.1,fun v z=>by cases z⟩
     refine wpAny_pure (wpAny_pure ⟨rfl,m',hm,i+1,ys++[yv],us++[y],k9,σ6,H8,rv.append (.cons r8 .nil),I11,T.keep _ _ _ t1 fun b hb o e=>?_,t2,w8⟩)
     exact (Heap.get?_update_other s8.heap _ (hfp b hb).2.2.2.symm).trans e
def Dn (wi:TI) (g:TG) (tt:TT) (te:TE) (k:Nat) (js:List Nat):TE:=fun σ H Q=>wi σ H fun J H1=>∃ W:Nat->Nat->List V->St->Hp->Prop,(∃ m,W 0 m [] (iQ k js σ) H1)/\
 jM J g tt te (fun ys H2=>ys.length≤sizeLine/\∀ p,H2 p=none->Q (.ref p) (upd H2 p (.lst ys))) W
theorem qz {X:Cx} {scope:Scope} {own:List Str} {s:Shared} {tn:Nat->Heap->Prop} {cl:List (Str×Addr)} {F:List V->Hp->Prop} {RR:Value->Addr->Result->Shared->Prop}
 (S:bN X scope own js N') (hcalm:X.calm=true) (hg:∀ cl C s₀ H₀ ex,PG (cJ X scope N' cl C s₀ H₀ ex) tg g) (hc:∀ cl C s₀ H₀ ex,wK (cJ X scope N' cl C s₀ H₀ ex) ifs tt) (he:∀ cl C s₀ H₀ ex,PE (cJ X scope N' cl C s₀ H₀ ex) elt te)
 (hc1:∀ x c,cl.lookup x=some c->X.env.cells.lookup x=some c) (hc2:∀ x,(x,NameKind.free)∈scope.names->∃ c,cl.lookup x=some c)
 (I:Inv X Z σ H s) (T:Turn X.prog X.w X.K tg J fp it tn) (st:tn 0 s.heap) (hf:∀ b∈fp,jH X Z H b) (W:Nat->Nat->List V->St->Hp->Prop) (w0:W 0 m0 [] (iQ own.length js σ) H) (turn:jM J g tt te F W)
 (hF:∀ ys H',F ys H'->ys.length≤sizeLine)
 (fin:∀ acc C H' ys s' m,Inv X Z σ (upd H' acc (.lst ys)) s'->H' acc=none->s'.heap.Ns C m->(upd H' acc (.lst ys)) C=none->C≠X.env.locals->X.s₀.heap.objs.size≤C->(∀ x c,X.env.cells.lookup x=some c->c≠C)->(∀ p∈X.pn++Z,p.1≠C)->F ys H'->RR (.ref acc) C (.ok .next) s') :
 wpAny (model X.prog X.w) X.A (newList []) (fun acc s₃=>wpAny (model X.prog X.w) X.A (newFunctionEnv scope X.env.globals cl [] X.env.qual none .none (some X.env)) (fun cenv s₄=>
  codeAny (model X.prog X.w) X.A (.compStart (.ListComp elt [⟨tg,iter,ifs,0⟩] scope pos) 0 (.ref it) acc { cenv with scope:=relabel scope X.env }) (RR acc cenv.locals) s₄) E s₃) E s:=by
 refine wpAny_newObj_type (wpAny_newFunctionEnv S.nocell (by intro y hy;simp at hy) (fun h₁ hns₁ hsb₁=>?_) S.kind)
 dsimp only at hns₁ hsb₁ ⊢
 generalize hH2:s.heap.push { cls:=.type "list",dict:=none,data:=.seq ([]:List Value).toArray }=H2 at hns₁ hsb₁ ⊢
 have hC:H2.objs.size=s.heap.objs.size+1:=by rw [← hH2,Heap.size_push]
 have hDC:s.heap.objs.size≠H2.objs.size:=by rw [hC];exact Nat.ne_of_lt (Nat.lt_succ_self _)
 have hCle:s.heap.objs.size≤H2.objs.size:=by rw [hC];exact Nat.le_succ _
 have below:∀ b,b<s.heap.objs.size->b≠H2.objs.size/\b≠s.heap.objs.size:=fun b hb=>⟨by rw [hC];exact Nat.ne_of_lt (Nat.lt_succ_of_lt hb),Nat.ne_of_lt hb⟩
 have old:∀ b o,s.heap.get? b=some o->h₁.get? b=some o:=fun b o e=>hsb₁.extBut b o (below b (Heap.lt_size e)).1 (Heap.get?_push_of_some _ (hH2 ▸ Heap.get?_push_of_some _ e))
 have hacc:h₁.get? s.heap.objs.size=some (eQ [] 0):=hsb₁.extBut _ _ hDC (Heap.get?_push_of_some _ (hH2 ▸ Heap.get?_push_size _ rfl))
 generalize hCn:H2.objs.size=C at *
 generalize hAn:s.heap.objs.size=acc at *
 have cellLt:∀ x c,X.env.cells.lookup x=some c->c<acc:=fun x c e=>by
  obtain ⟨v,q⟩:=I.cell x c e
  rw [← hAn];exact q.lt
 have pinLt:∀ p∈X.pn++Z,p.1<acc:=fun p hp=>by rw [← hAn];exact Heap.lt_size (I.pin p hp).1
 have stkLt:∀ b∈frs X.stack,b<acc:=fun b hb=>by
  obtain ⟨_,o,ho,_⟩:=I.stack.mem hb
  rw [← hAn];exact Heap.lt_size ho
 have fpLt:∀ b∈fp,b<acc:=fun b hb=>by
  obtain ⟨o,e,_⟩:=T.obj _ _ st b hb
  rw [← hAn];exact Heap.lt_size e
 have hHC:H C=none:=I.hok.fresh (by rw [hAn];exact hCle)
 have hHA:H acc=none:=I.hok.fresh (by rw [hAn];exact Nat.le_refl _)
 have I1:Inv (cJ X scope N' cl C s H fp) [] (iQ own.length js σ) H { s with heap:=h₁,toks:=s.toks+([]:List (Str×Value)).length }:=
  Inv.comp S I hc1 hc2 (by rw [hAn];exact hCle) hns₁ old (fun b hb=>⟨hf b hb,by rw [hAn];exact fpLt b hb⟩) hHC fun b o e=>(below b (by rw [← hAn];exact Heap.lt_size e)).1
 have I2:Inv (cJ X scope N' cl C s H fp) [(acc,eQ [] 0)] (iQ own.length js σ) H { s with heap:=h₁,toks:=s.toks+([]:List (Str×Value)).length }:=I1.pins_of fun p hp=>by
  obtain rfl:p=(acc,eQ [] 0):=by simpa using hp
  exact ⟨hacc,hHA,hDC,fun z=>absurd (stkLt acc z) (Nat.lt_irrefl _),fun v z=>by cases z⟩
 have st1:tn 0 h₁:=T.keep _ _ _ st fun b hb o e=>old b o e
 have loop:∀ s₃:Shared,s₃={ s with heap:=h₁,toks:=s.toks+([]:List (Str×Value)).length }->
  codeAny (model X.prog X.w) X.A (.compLoop (.ListComp elt [⟨tg,iter,ifs,0⟩] scope pos) 0 (.ref it) (.ref acc) (compEnvC scope cl C X.env)) (RR (.ref acc) C) s₃:=by
  rintro s₃ rfl
  refine vK W turn T (hg _ _ _ _ _) (hc _ _ _ _ _) (he _ _ _ _ _) hcalm
   (fun b hb=>⟨(below b (fpLt b hb)).1,fun z=>?_,fun x c e z=>(hf b hb).2.2.2.2.1 x c (hc1 x c e) z,(below b (fpLt b hb)).2⟩)
   ⟨hDC,fun z=>absurd (stkLt acc z) (Nat.lt_irrefl _),fun x c e z=>absurd (cellLt x c (hc1 x c e)) (by rw [z];exact Nat.lt_irrefl _),by rw [hAn];exact Nat.le_refl _⟩ ?_ I2 st1 (fun b hb=>(hf b hb).1) w0
  ·rcases List.mem_cons.mp (I.stkSub b z) with q|q
   ·exact (hf b hb).2.1 q
   ·exact (hf b hb).2.2.1 q
  ·intro s' σ' H' ys us k J' rv q
   obtain ⟨e',n',l',f',d'⟩:=J'.pin (acc,eQ us k) (List.mem_append_right _ List.mem_cons_self)
   have n'':H' acc=none:=n'
   obtain ⟨m,hm,_⟩:=J'.loc
   have oldLt:∀ b o,s.heap.get? b=some o->b<acc:=fun b o e=>by rw [← hAn];exact Heap.lt_size e
   have neA:∀ b o,s.heap.get? b=some o->b≠acc:=fun b o e=>Nat.ne_of_lt (oldLt b o e)
   have un:Un (frs X.stack) fp H (upd H' acc (.lst ys)) s.heap s'.heap:=⟨J'.base.keep,J'.base.slot,fun b o e n hx=>by rw [aK (neA b o e)];exact J'.base.free b o e n hx,J'.base.there,
    fun b xs e=>by
     have z:=J'.base.tups b xs e
     rw [aK (aP z n'')];exact z,
    fun b o u e=>by
     have z:=J'.base.frzs b o u e
     rw [aK (aP z n'')];exact z,
    fun b ps e=>by
     obtain ⟨more,z⟩:=J'.base.tbls b ps e
     exact ⟨more,by rw [aK (aP z n'')];exact z⟩⟩
   have hok:iK X.prog X.w (upd H' acc (.lst ys)) s'.heap:=fun b u e=>by
    by_cases hb:b=acc
    ·subst hb
     rw [ak] at e;cases e
     exact ⟨hF _ _ q,us,k,rv,e'⟩
    ·rw [aK hb] at e
     exact (J'.hok b u e).stay (fun c v _ z=>z) (fun c z=>by rw [aK (aP z n'')];exact z) fun c xs z=>by rw [aK (aP z n'')];exact z
   have IX:Inv X Z σ (upd H' acc (.lst ys)) s':=I.call' J'.os un hok J'.bare fun b hb=>⟨(hf b hb).2.2.2.1,(hf b hb).2.1,(hf b hb).2.2.2.2.1,(hf b hb).2.2.2.2.2⟩
   refine fin acc C H' ys s' m IX n'' hm ?_ ?_ ?_ ?_ ?_ q
   ·rw [aK (Ne.symm hDC)];exact J'.free
   ·exact Nat.ne_of_gt (Nat.lt_of_lt_of_le I.lt (by rw [hAn];exact hCle))
   ·exact Nat.le_trans I.sz (by rw [hAn];exact hCle)
   ·exact fun x c e z=>absurd (Nat.lt_of_lt_of_le (cellLt x c e) hCle) (by rw [z];exact Nat.lt_irrefl _)
   ·exact fun p hp z=>absurd (Nat.lt_of_lt_of_le (pinLt p hp) hCle) (by rw [z];exact Nat.lt_irrefl _)
 exact codeAny_compStart_list (loop _ rfl) (T.self _ 0 _ _ _ st1 (loop _ rfl))
theorem gk (S:bN X scope own js N') (hcalm:X.calm=true) (hi:PI X tg iter wi) (hg:∀ cl C s₀ H₀ ex,PG (cJ X scope N' cl C s₀ H₀ ex) tg g) (hc:∀ cl C s₀ H₀ ex,wK (cJ X scope N' cl C s₀ H₀ ex) ifs tt)
 (he:∀ cl C s₀ H₀ ex,PE (cJ X scope N' cl C s₀ H₀ ex) elt te) (hs:∀ x,foldedSetIterable iter X.env x=pure x:=by intro _;rfl):PE X (.ListComp elt [⟨tg,iter,ifs,0⟩] scope pos) (Dn wi g tt te own.length js):=by
 intro Z s σ H Q I h
 obtain ⟨cl,hcl,hc1,hc2⟩:=lZ (env:=X.env) scope fun y hy hk=>I.ok.has y.1 (S.free y hy hk)
 rw [eval_ListComp]
 refine wpAny_comprehension_free (use:=none) rfl hs hcl S.kind S.names (b_ (hi Z s σ H _ I h) fun v s1 h1=>b_ h1 fun itv s2 h2=>?_)
 obtain ⟨it,fp,tn,J,H2,e,I2,T,st2,f2,W,⟨m0,w0⟩,turn⟩:=h2
 subst e
 refine qz (RR:=fun acc C=>compPost (model X.prog X.w) X.A X.xe none (EP X Z σ Q) acc C) S hcalm hg hc he hc1 hc2 I2 T st2 f2 W w0 turn (fun ys H' q=>q.1) ?_
 intro acc C H' ys s' m IX na hm hCn hL hz hcn hpn q
 refine ⟨m,hm,fun h' hs'=>⟨.ref acc,_,?_,rfl,q.2 acc na⟩⟩
 exact IX.turned (t':=s'.toks) (it:=C) (fun b o hb e=>(hs'.2 b hb).trans e) hCn hL (.inr hz) hcn hpn
theorem gw (S:bN X scope own js N') (hcalm:X.calm=true) (hN:X.N.Nodup) (hx:X.N[i]?=some x) (hk:X.env.scope.names.lookup x=some .local) (hi:PI X tg iter wi) (hg:∀ cl C s₀ H₀ ex,PG (cJ X scope N' cl C s₀ H₀ ex) tg g) (hc:∀ cl C s₀ H₀ ex,wK (cJ X scope N' cl C s₀ H₀ ex) ifs tt)
 (he:∀ cl C s₀ H₀ ex,PE (cJ X scope N' cl C s₀ H₀ ex) elt te) (hsw:swapsWith (.ListComp elt [⟨tg,iter,ifs,0⟩] scope pos) (some (.Name x pos')) spos.line X.env=pure true:=by rfl) (hs:∀ x,foldedSetIterable iter X.env x=pure x:=by intro _;rfl) :
 PS X (.Assign [.Name x pos'] (.ListComp elt [⟨tg,iter,ifs,0⟩] scope pos) spos) (GJ (Dn wi g tt te own.length js) (bM i)):=by
 intro Z s σ H D I h
 obtain ⟨cl,hcl,hc1,hc2⟩:=lZ (env:=X.env) scope fun y hy hk=>I.ok.has y.1 (S.free y hy hk)
 rw [exec_Assign_Name_used _ _ _ _ hsw]
 refine wpAny_bind (wpAny_standAt (wpAny_bind ?_))
 show wpAny _ X.A (do let _ ← comprehension (.ListComp elt [⟨tg,iter,ifs,0⟩] scope pos) scope X.env _ (newList []) false (eval iter X.env) (some (assign (.Name x pos') X.env))) _ _ s
 refine wpAny_bind (wpAny_mono (wpAny_comprehension_free (use:=some (assign (.Name x pos') X.env)) (Q:=fun _ s'=>SP X Z D .next s') rfl hs hcl S.kind S.names
  (b_ (hi Z s σ H _ I h) fun v s1 h1=>b_ h1 fun itv s2 h2=>?_)) (fun _ s' hq=>wpAny_pure (wpAny_pure hq)) fun _ _ e=>e)
 obtain ⟨it,fp,tn,J,H2,e,I2,T,st2,f2,W,⟨m0,w0⟩,turn⟩:=h2
 subst e
 refine qz (RR:=fun acc C=>compPost (model X.prog X.w) X.A X.xe (some (assign (.Name x pos') X.env)) (fun _ s'=>SP X Z D .next s') acc C) S hcalm hg hc he hc1 hc2 I2 T st2 f2 W w0 turn (fun ys H' q=>q.1) ?_
 intro acc C H' ys s' m IX na hm hCn hL hz hcn hpn q
 show wpAny _ X.A (assign (.Name x pos') X.env (.ref acc)) _ _ s'
 refine wpAny_assign_Name (nW IX hN hx (.inl hk) (v:=.ref acc) rfl (fun s'' I'' hsb=>?_) (.inr hk))
 obtain ⟨a,hsb,ha⟩:=hsb
 have haC:C≠a:=by
  rcases ha with z|z
  ·rw [z];exact hL
  ·exact fun q=>hcn x a z q.symm
 refine ⟨m,hm.sameBut hsb haC,fun h' hs'=>⟨_,_,?_,q.2 acc na⟩⟩
 exact I''.turned (t':=s''.toks) (it:=C) (fun b o hb e=>(hs'.2 b hb).trans e) hCn hL (.inr hz) hcn hpn
section
variable {X:Cx}
def KH (i j:Int):Prop:=0<j/\j<340282366920938463463374607431768211456
theorem ye:iD X (binaryOp .FloorDiv) (rI KH fun i j=>.int (i / j)):=Qh fun i j _ _ _ _ _ hc q=>by
 rw [← Int.fdiv_eq_ediv_of_nonneg i (Int.le_of_lt hc.1)] at q
 have h1:(0:Int)<j:=hc.1
 have h2:j<340282366920938463463374607431768211456:=hc.2
 have hb:j.natAbs<340282366920938463463374607431768211456:=by omega
 have he:(2:Nat) ^ 128=340282366920938463463374607431768211456:=by decide +kernel
 have hl:j.natAbs.log2<128:=(Nat.log2_lt (by omega)).mpr (Nat.lt_of_lt_of_eq hb he.symm)
 exact floordiv_int (by have:=hc.1;omega) q (.inl (PyProof.noPylong_of_log2 (by omega)))
theorem iu {lo:Int} {n:Nat} {g:TG} {te:TE} {F:List V->Hp->Prop} {σ0:St} {H0:Hp} (Pv:Nat->List V->St->Hp->Prop) (hn:n≤sizeLine) (h0:Pv 0 [] σ0 H0)
 (hs:∀ i ys σ H,i<n->ys.length=i->Pv i ys σ H->∀ N:List V->St->Hp->Prop,(∀ ys' σ' H',ys'.length=i+1->Pv (i+1) ys' σ' H'->N ys' σ' H')->g (.int (lo+i)) σ H fun σ2 H2=>te σ2 H2 fun y H3=>N (ys++[y]) σ2 H3)
 (hd:∀ ys σ H,ys.length=n->Pv n ys σ H->F ys H) :
 ∃ W:Nat->Nat->List V->St->Hp->Prop,(∃ m,W 0 m [] σ0 H0)/\jM (Bm lo n) g wR te F W:=by
 refine ⟨fun i m ys σ H=>m=n-i/\i≤n/\ys.length=i/\Pv i ys σ H,⟨n,by simp,Nat.zero_le _,rfl,h0⟩,?_⟩
 rintro i m ys σ H ⟨rfl,hi,hl,p⟩
 by_cases hlt:i<n
 ·refine .inr ⟨hlt,by omega,fun x H' y=>?_⟩
  obtain ⟨e,y⟩:=y
  subst e y
  exact hs i ys σ _ hlt hl p (fun ys' σ' H'=>∃ m',m'<n-i/\m'=n-(i+1)/\i+1≤n/\ys'.length=i+1/\Pv (i+1) ys' σ' H') fun ys' σ' H' hl' q=>⟨n-(i+1),by omega,rfl,hlt,hl',q⟩
 ·have e:i=n:=by omega
  subst e
  exact .inl ⟨Nat.le_refl _,hd ys σ H hl p⟩
theorem kJ {K:PySem.W.Frag} {a:Addr} {xs:List V} {g:TG} {te:TE} {F:List V->Hp->Prop} {σ0:St} {H0:Hp} (Pv:Nat->List V->St->Hp->Prop) (hn:xs.length≤sizeLine) (h0:Pv 0 [] σ0 H0) (hq:∀ i ys σ H,i≤xs.length->Pv i ys σ H->bJ K H a xs)
 (hs:∀ i x ys σ H,xs[i]?=some x->ys.length=i->Pv i ys σ H->∀ N:List V->St->Hp->Prop,(∀ ys' σ' H',ys'.length=i+1->Pv (i+1) ys' σ' H'->N ys' σ' H')->g x σ H fun σ2 H2=>te σ2 H2 fun y H3=>N (ys++[y]) σ2 H3)
 (hd:∀ ys σ H,ys.length=xs.length->Pv xs.length ys σ H->F ys H) :
 ∃ W:Nat->Nat->List V->St->Hp->Prop,(∃ m,W 0 m [] σ0 H0)/\jM (Jh K a) g wR te F W:=by
 refine ⟨fun i m ys σ H=>m=xs.length-i/\i≤xs.length/\ys.length=i/\Pv i ys σ H,⟨xs.length,by simp,Nat.zero_le _,rfl,h0⟩,?_⟩
 rintro i m ys σ H ⟨rfl,hi,hl,p⟩
 have q:=hq i ys σ H hi p
 by_cases hlt:i<xs.length
 ·refine .inr ⟨⟨xs,xs[i],q,by simp [hlt]⟩,by omega,fun x H' y=>?_⟩
  obtain ⟨e,y⟩:=y
  subst e
  exact hs i x ys σ _ (y xs q) hl p (fun ys' σ' H'=>∃ m',m'<xs.length-i/\m'=xs.length-(i+1)/\i+1≤xs.length/\ys'.length=i+1/\Pv (i+1) ys' σ' H') fun ys' σ' H' hl' q=>⟨xs.length-(i+1),by omega,rfl,hlt,hl',q⟩
 ·have e:i=xs.length:=by omega
  subst e
  exact .inl ⟨⟨xs,q,Nat.le_refl _⟩,hd ys σ H hl p⟩
theorem iI {K:PySem.W.Frag} {a:Addr} {xs:List V} {g:TG} {te:TE} {F:List V->Hp->Prop} {σ0:St} {H0:Hp} (Pv:Nat->List V->St->Hp->Prop) (hn:xs.length≤sizeLine) (h0:Pv 0 [] σ0 H0) (hq:∀ i ys σ H,i≤xs.length->Pv i ys σ H->bB K H a xs)
 (hs:∀ i x ys σ H,xs[i]?=some x->ys.length=i->Pv i ys σ H->∀ N:List V->St->Hp->Prop,(∀ ys' σ' H',ys'.length=i+1->Pv (i+1) ys' σ' H'->N ys' σ' H')->g x σ H fun σ2 H2=>te σ2 H2 fun y H3=>N (ys++[y]) σ2 H3)
 (hd:∀ ys σ H,ys.length=xs.length->Pv xs.length ys σ H->F ys H) :
 ∃ W:Nat->Nat->List V->St->Hp->Prop,(∃ m,W 0 m [] σ0 H0)/\jM (Ji K a) g wR te F W:=by
 refine ⟨fun i m ys σ H=>m=xs.length-i/\i≤xs.length/\ys.length=i/\Pv i ys σ H,⟨xs.length,by simp,Nat.zero_le _,rfl,h0⟩,?_⟩
 rintro i m ys σ H ⟨rfl,hi,hl,p⟩
 have q:=hq i ys σ H hi p
 by_cases hlt:i<xs.length
 ·refine .inr ⟨⟨xs,xs[i],q,by simp [hlt]⟩,by omega,fun x H' y=>?_⟩
  obtain ⟨e,y⟩:=y
  subst e
  exact hs i x ys σ _ (y xs q) hl p (fun ys' σ' H'=>∃ m',m'<xs.length-i/\m'=xs.length-(i+1)/\i+1≤xs.length/\ys'.length=i+1/\Pv (i+1) ys' σ' H') fun ys' σ' H' hl' q=>⟨xs.length-(i+1),by omega,rfl,hlt,hl',q⟩
 ·have e:i=xs.length:=by omega
  subst e
  exact .inl ⟨⟨xs,q,Nat.le_refl _⟩,hd ys σ H hl p⟩
structure cH (K:PySem.W.Frag) (mg:Str->Option Value) (x:Str) (st:Stmt) (ps:List Str) (f:Addr) (fd:FuncData):Prop where
 F:fj K x x st f fd
 mg:mg x=some (.ref f)
 b:Binds K fd ps []
def cL (p:Addr) (H H':Hp):Prop:=∀ b o,H b=some o->b≠p->H' b=some o
theorem cL.refl:cL p H H:=fun _ _ h _=>h
theorem cL.trans (a:cL p H H1) (b:cL p H1 H2):cL p H H2:=fun c o h hc=>b c o (a c o h hc) hc
theorem cL.upd:cL p H (upd H p o):=fun b u h hb=>by rw [aK hb];exact h
theorem cL.new (h:H q=none):cL p H (L2.upd H q o):=fun b u e _=>by rw [aK (aP e h)];exact e
end
theorem mK (M:St->Hp->Prop) (h2:∀ σ' H',M σ' H'->u D σ' H') (h1:∀ N:St->Hp->Prop,(∀ σ' H',M σ' H'->N σ' H')->t { D with nx:=N } σ H):OJ t u D σ H:=h1 (u D) h2
theorem aB.new (h:H q=none):aB H (upd H q o):=fun b u e=>by rw [aK (aP e h)];exact e
theorem aB.but (h:aB H H'):cL p H H':=fun b o e _=>h b o e
theorem aB.tup {K:PySem.W.Frag} {H H':Hp} {a:Addr} {xs:List V} (e:aB H H') (h:bB K H a xs):bB K H' a xs:=by
 rcases h with (h|⟨o,h⟩)|h
 ·exact .inl (.inl (e _ _ h))
 ·exact .inl (.inr ⟨o,e _ _ h⟩)
 ·exact .inr h
theorem bR:bootBuiltins "len" = some (.builtin "len"):=by decide +kernel
theorem lU:bootBuiltins "list" = some (.type "list"):=by decide +kernel
theorem eV:bootBuiltins "tuple" = some (.type "tuple"):=by decide +kernel
theorem kI:bootBuiltins "str" = some (.type "str"):=by decide +kernel
theorem k_:bootBuiltins "int" = some (.type "int"):=by decide +kernel
theorem gb:bootBuiltins "bool" = some (.type "bool"):=by decide +kernel
theorem Dq:bootBuiltins "max" = some (.builtin "max"):=by decide +kernel
theorem p_:bootBuiltins "all" = some (.builtin "all"):=by decide +kernel
theorem Gj:bootBuiltins "any" = some (.builtin "any"):=by decide +kernel
theorem aX:bootBuiltins "isinstance" = some (.builtin "isinstance"):=by decide +kernel
theorem zm:bootBuiltins "sum" = some (.builtin "sum"):=by decide +kernel
end L2
namespace L2
open PySem PySem.Spec PyProof.Rows PySem.SeqAt
mutual
inductive Rep (K:PySem.W.Frag) (H:Hp):V->PyData->Prop
 |non:Rep K H .non .none
 |bl (b:Bool):Rep K H (.bl b) (.bool b)
 |int (i:Int):Rep K H (.int i) (.int i)
 |str (x:Str):Rep K H (.str x) (.str x)
 |tup {a:Addr} {xs:List V} {ds:List PyData}:bB K H a xs->bw K H xs ds->Rep K H (.ref a) (.tuple ds)
 |lst {a:Addr} {xs:List V} {ds:List PyData}:bJ K H a xs->bw K H xs ds->Rep K H (.ref a) (.list ds)
inductive bw (K:PySem.W.Frag) (H:Hp):List V->List PyData->Prop
 |nil:bw K H [] []
 |cons {x:V} {d:PyData} {xs:List V} {ds:List PyData}:Rep K H x d->bw K H xs ds->bw K H (x::xs) (d::ds)
end
section
variable {K:PySem.W.Frag} {H H':Hp}
theorem bw.length:∀ {xs:List V} {ds:List PyData},bw K H xs ds->xs.length=ds.length
 |_,_,.nil=>rfl
 |_,_,.cons _ t=>by rw [List.length_cons,List.length_cons,bw.length t]
mutual
theorem Rep.map (f1:∀ a xs,bB K H a xs->bB K H' a xs) (f2:∀ a xs,bJ K H a xs->bJ K H' a xs):∀ {v:V} {d:PyData},Rep K H v d->Rep K H' v d
 |_,_,.non=>.non
 |_,_,.bl b=>.bl b
 |_,_,.int i=>.int i
 |_,_,.str x=>.str x
 |_,_,.tup h r=>.tup (f1 _ _ h) (bw.map f1 f2 r)
 |_,_,.lst h r=>.lst (f2 _ _ h) (bw.map f1 f2 r)
theorem bw.map (f1:∀ a xs,bB K H a xs->bB K H' a xs) (f2:∀ a xs,bJ K H a xs->bJ K H' a xs):∀ {v:List V} {d:List PyData},bw K H v d->bw K H' v d
 |_,_,.nil=>.nil
 |_,_,.cons h r=>.cons (Rep.map f1 f2 h) (bw.map f1 f2 r)
end
theorem Rep.same (h:Rep K H v d) (e:aB H H'):Rep K H' v d:=h.map (fun _ _ z=>e.tup z) (fun _ _ z=>e.seq z)
theorem bw.same (h:bw K H v d) (e:aB H H'):bw K H' v d:=h.map (fun _ _ z=>e.tup z) (fun _ _ z=>e.seq z)
theorem cL.seq (e:cL p H H') (hp:H p=some (.dK kvs)) (h:bJ K H a xs):bJ K H' a xs:=by
 rcases h with (h|⟨o,h⟩)|h
 ·exact .inl (.inl (e _ _ h (fK h hp (by intro z;cases z))))
 ·exact .inl (.inr ⟨o,e _ _ h (fK h hp (by intro z;cases z))⟩)
 ·exact .inr h
theorem cL.tup (e:cL p H H') (hp:H p=some (.dK kvs)) (h:bB K H a xs):bB K H' a xs:=by
 rcases h with (h|⟨o,h⟩)|h
 ·exact .inl (.inl (e _ _ h (fK h hp (by intro z;cases z))))
 ·exact .inl (.inr ⟨o,e _ _ h (fK h hp (by intro z;cases z))⟩)
 ·exact .inr h
theorem Rep.but (h:Rep K H v d) (e:cL p H H') (hp:H p=some (.dK kvs)):Rep K H' v d:=h.map (fun _ _ z=>e.tup hp z) (fun _ _ z=>e.seq hp z)
theorem bw.get:∀ {xs:List V} {ds:List PyData} {i:Nat} {d:PyData},bw K H xs ds->ds[i]?=some d->∃ x,xs[i]?=some x/\Rep K H x d
 |_,_,_,_,.nil,e=>by simp at e
 |_,_,0,_,.cons r _,e=>by simp at e;subst e;exact ⟨_,rfl,r⟩
 | _,_,i+1,d,.cons _ t,e=>by
   obtain ⟨u,h1,h2⟩:=bw.get (i:=i) (d:=d) t (by simpa using e)
   exact ⟨u,by simpa using h1,h2⟩
theorem bw.get':∀ {xs:List V} {ds:List PyData} {i:Nat} {x:V},bw K H xs ds->xs[i]?=some x->∃ d,ds[i]?=some d/\Rep K H x d
 |_,_,_,_,.nil,e=>by simp at e
 |_,_,0,_,.cons r _,e=>by simp at e;subst e;exact ⟨_,rfl,r⟩
 | _,_,i+1,d,.cons _ t,e=>by
   obtain ⟨u,h1,h2⟩:=bw.get' (i:=i) (x:=d) t (by simpa using e)
   exact ⟨u,by simpa using h1,h2⟩
end
mutual
def cj:PyData->PyData->Bool
 |.none,.none=>true
 |.bool a,.bool b=>a == b
 |.bool a,.int b=>(if a then 1 else 0) == b
 |.int a,.bool b=>a == (if b then 1 else 0)
 |.int a,.int b=>a == b
 |.str a,.str b=>a == b
 |.tuple a,.tuple b=>dN a b
 |.list a,.list b=>dN a b
 |_,_=>false
def dN:List PyData->List PyData->Bool
 |[],[]=>true
 |a::r,b::t=>cj a b && dN r t
 |_,_=>false
end
theorem nR:∀ (ds es:List PyData),dN ds es=((List.range (min ds.length es.length)).all (fun j=>cj (ds.getD j .none) (es.getD j .none)) && ds.length == es.length)
 |[],[]=>by simp [dN]
 |[],_::_=>by simp [dN]
 |_::_,[]=>by simp [dN]
 | a::r,b::t=>by
   rw [dN,nR r t,List.length_cons,List.length_cons,Nat.succ_min_succ,List.range_succ_eq_map,List.all_cons,List.all_map]
   simp only [List.getD_cons_zero,Bool.and_assoc]
   congr 1
   have e:(r.length+1 == t.length+1)=(r.length == t.length):=by
    rw [Bool.eq_iff_iff];simp
   rw [e]
   congr 1
mutual
def cz:PyData->Nat
 |.tuple xs=>bI xs+1
 |.list xs=>bI xs+1
 |_=>0
def bI:List PyData->Nat
 |[]=>0
 |d::r=>max (cz d) (bI r)
end
section
variable {X:Cx} {Z:List (Addr×Obj)} {σ:St} {H:Hp} {s:Shared}
mutual
theorem Rep.fn (I:Inv X Z σ H s):∀ {v:V} {d e:PyData} {u:Value},Rep X.K H v d->Rep X.K H v e->RelV v u->d=e/\cj d d=true
 |_,_,_,_,.non,.non,_=>⟨rfl,rfl⟩
 |_,_,_,_,.bl b,.bl _,_=>⟨rfl,by simp [cj]⟩
 |_,_,_,_,.int i,.int _,_=>⟨rfl,by simp [cj]⟩
 |_,_,_,_,.str x,.str _,_=>⟨rfl,by simp [cj]⟩
 | _,_,_,_,.tup h1 r1,.tup h2 r2,r=>by
   have e:=I.tuple_inj h1 h2
   subst e
   obtain ⟨its,rv,_,_⟩:=I.tuple h1
   obtain ⟨e,q⟩:=bw.fn I r1 r2 rv
   exact ⟨by rw [e],q⟩
 | _,_,_,_,.lst h1 r1,.lst h2 r2,r=>by
   have e:=I.list_inj h1 h2
   subst e
   obtain ⟨its,rv,_,_⟩:=I.list h1
   obtain ⟨e,q⟩:=bw.fn I r1 r2 rv
   exact ⟨by rw [e],q⟩
 | _,_,_,_,.tup h1 _,.lst h2 _,r=>by
   obtain ⟨_,_,⟨o,e1,c1,_⟩,_⟩:=I.tuple h1
   obtain ⟨_,_,⟨o',n,e2,c2,_⟩,_⟩:=I.list h2
   rw [e1] at e2;cases e2
   rw [c1] at c2;injection c2 with z;exact absurd z (by decide)
 | _,_,_,_,.lst h2 _,.tup h1 _,r=>by
   obtain ⟨_,_,⟨o,e1,c1,_⟩,_⟩:=I.tuple h1
   obtain ⟨_,_,⟨o',n,e2,c2,_⟩,_⟩:=I.list h2
   rw [e1] at e2;cases e2
   rw [c1] at c2;injection c2 with z;exact absurd z (by decide)
theorem bw.fn (I:Inv X Z σ H s):∀ {v:List V} {d e:List PyData} {u:List Value},bw X.K H v d->bw X.K H v e->Vals v u->d=e/\dN d d=true
 |_,_,_,_,.nil,.nil,_=>⟨rfl,rfl⟩
 | _,_,_,_,.cons a b,.cons c d,.cons r rs=>by
   obtain ⟨e1,q1⟩:=Rep.fn I a c r
   obtain ⟨e2,q2⟩:=bw.fn I b d rs
   exact ⟨by rw [e1,e2],by simp [dN,q1,q2]⟩
end
theorem CN {ds es:List PyData} {us xs:List Value} {A:Around} (rs1:bw X.K H vs ds) (rs2:bw X.K H ws es) (rv1:Vals vs us) (rv2:Vals ws xs) :
 ((List.range (min us.toArray.size xs.toArray.size)).all (fun j=>cj (ds.getD j .none) (es.getD j .none)) && us.toArray.size == xs.toArray.size)=dN ds es:=by
 rw [nR,List.size_toArray,List.size_toArray,← rv1.length,← rv2.length,rs1.length,rs2.length]
theorem V_ {ds es:List PyData} {us xs:List Value} {A:Around} (rs1:bw X.K H vs ds) (rs2:bw X.K H ws es) (rv1:Vals vs us) (rv2:Vals ws xs) (p1:IsTup s.heap l us.toArray) (p2:IsTup s.heap b xs.toArray) (hu:A.units<cLine)
 (he:∀ j (h1:j<us.length) (h2:j<xs.length),EqAt A.in1 s us[j] xs[j] (cj (ds.getD j .none) (es.getD j .none))):RcAt A s (.ref l) (.ref b) (cj (.tuple ds) (.tuple es)):=by
 show RcAt A s (.ref l) (.ref b) (dN ds es)
 rw [← CN (A:=A) rs1 rs2 rv1 rv2]
 exact RcAt.tuples (show s.heap.IsTuple l us.toArray from p1) (show s.heap.IsTuple b xs.toArray from p2) hu fun j h1 h2=>by simpa using he j (by simpa using h1) (by simpa using h2)
theorem VB {ds es:List PyData} {us xs:List Value} {A:Around} (rs1:bw X.K H vs ds) (rs2:bw X.K H ws es) (rv1:Vals vs us) (rv2:Vals ws xs) (p1:s.heap.IsList l us.toArray) (p2:s.heap.IsList b xs.toArray) (hu:A.units<cLine)
 (he:∀ j (h1:j<us.length) (h2:j<xs.length),EqAt A.in1 s us[j] xs[j] (cj (ds.getD j .none) (es.getD j .none))):RcAt A s (.ref l) (.ref b) (cj (.list ds) (.list es)):=by
 show RcAt A s (.ref l) (.ref b) (dN ds es)
 have q:=CN (A:=A) rs1 rs2 rv1 rv2
 by_cases hz:us.toArray.size=xs.toArray.size
 ·rw [← q,hz,Nat.min_self,beq_self_eq_true,Bool.and_true,← hz]
  exact RcAt.lists p1 p2 hz hu fun j h1 h2=>by simpa using he j (by simpa using h1) (by simpa using h2)
 ·have e:dN ds es=false:=by
   rw [← q]
   have:(us.toArray.size == xs.toArray.size)=false:=by simpa using hz
   rw [this,Bool.and_false]
  rw [e]
  exact RcAt.lists_lengths p1 p2 (by simpa using hz) hu
theorem eqT (I:Inv X Z σ H s) (h1:bB X.K H l vs) (h2:bB X.K H b ws) (rs1:bw X.K H vs ds) (rs2:bw X.K H ws es) (rv1:Vals vs us) (rv2:Vals ws xs) (p1:IsTup s.heap l us.toArray) (p2:IsTup s.heap b xs.toArray) (hu:A.units<cLine)
 (he:∀ j (h1:j<us.length) (h2:j<xs.length),EqAt A.in1 s us[j] xs[j] (cj (ds.getD j .none) (es.getD j .none))):EqAt A s (.ref l) (.ref b) (cj (.tuple ds) (.tuple es)):=by
 by_cases hlb:l=b
 ·subst hlb
  obtain ⟨e,q⟩:=Rep.fn I (.tup h1 rs1) (.tup h2 rs2) (u:=.ref l) rfl
  rw [← e,q]
  exact EqAt.same _
 ·exact EqAt.of_refs hlb (V_ rs1 rs2 rv1 rv2 p1 p2 hu he)
theorem Wj (I:Inv X Z σ H s) (h1:bJ X.K H l vs) (h2:bJ X.K H b ws) (rs1:bw X.K H vs ds) (rs2:bw X.K H ws es) (rv1:Vals vs us) (rv2:Vals ws xs) (p1:s.heap.IsList l us.toArray) (p2:s.heap.IsList b xs.toArray) (hu:A.units<cLine)
 (he:∀ j (h1:j<us.length) (h2:j<xs.length),EqAt A.in1 s us[j] xs[j] (cj (ds.getD j .none) (es.getD j .none))):EqAt A s (.ref l) (.ref b) (cj (.list ds) (.list es)):=by
 by_cases hlb:l=b
 ·subst hlb
  obtain ⟨e,q⟩:=Rep.fn I (.lst h1 rs1) (.lst h2 rs2) (u:=.ref l) rfl
  rw [← e,q]
  exact EqAt.same _
 ·exact EqAt.of_refs hlb (VB rs1 rs2 rv1 rv2 p1 p2 hu he)
theorem dD {A:Around} (h:A.units+n<cLine):A.units<cLine:=by omega
theorem hu0 {A:Around} (h:A.units+(n+1)<cLine):A.units<cLine:=by omega
theorem hu1 {A:Around} (h:A.units+(n+1)<cLine):A.in1.units+n<cLine:=by show A.units+1+n<cLine;omega
mutual
theorem Dm (I:Inv X Z σ H s):∀ {v w:V} {d e:PyData} {u x:Value} {A:Around},Rep X.K H v d->Rep X.K H w e->RelV v u->RelV w x->A.units+cz d<cLine->EqAt A s u x (cj d e)
 | _,_,_,_,u,x,A,.non,.non,r1,r2,hu=>by
   cases (show u=Value.none from r1)
   cases (show x=Value.none from r2)
   exact EqAt.same _
 | _,_,_,_,u,x,A,.non,.bl b2,r1,r2,hu=>by
   cases (show u=Value.none from r1)
   cases (show x=Value.bool b2 from r2)
   exact EqAt.none_bool b2
 | _,_,_,_,u,x,A,.non,.int i2,r1,r2,hu=>by
   cases (show u=Value.none from r1)
   obtain ⟨t2,e2⟩:=(show ∃ t,x=Value.int i2 t from r2);subst e2
   exact EqAt.none_int i2 t2
 | _,_,_,_,u,x,A,.non,.str y2,r1,r2,hu=>by
   cases (show u=Value.none from r1)
   obtain ⟨t2,e2⟩:=(show ∃ t,x=Value.str y2 t from r2);subst e2
   exact EqAt.none_str y2 t2
 | _,_,_,_,u,x,A,.non,.lst h2 rs2,r1,r2,hu=>by
   cases (show u=Value.none from r1)
   cases (show x=Value.ref _ from r2);obtain ⟨its2,rv2,p2,_⟩:=I.list h2
   exact EqAt.none_list p2.isList (dD hu)
 | _,_,_,_,u,x,A,.non,.tup h2 rs2,r1,r2,hu=>by
   cases (show u=Value.none from r1)
   cases (show x=Value.ref _ from r2);obtain ⟨its2,rv2,p2,_⟩:=I.tuple h2
   exact EqAt.none_tuple p2 (dD hu)
 | _,_,_,_,u,x,A,.bl b1,.non,r1,r2,hu=>by
   cases (show u=Value.bool b1 from r1)
   cases (show x=Value.none from r2)
   exact EqAt.bool_none b1
 | _,_,_,_,u,x,A,.bl b1,.bl b2,r1,r2,hu=>by
   cases (show u=Value.bool b1 from r1)
   cases (show x=Value.bool b2 from r2)
   exact EqAt.bool_bool b1 b2
 | _,_,_,_,u,x,A,.bl b1,.int i2,r1,r2,hu=>by
   cases (show u=Value.bool b1 from r1)
   obtain ⟨t2,e2⟩:=(show ∃ t,x=Value.int i2 t from r2);subst e2
   exact EqAt.bool_int b1 i2 t2
 | _,_,_,_,u,x,A,.bl b1,.str y2,r1,r2,hu=>by
   cases (show u=Value.bool b1 from r1)
   obtain ⟨t2,e2⟩:=(show ∃ t,x=Value.str y2 t from r2);subst e2
   exact EqAt.bool_str b1 y2 t2
 | _,_,_,_,u,x,A,.bl b1,.lst h2 rs2,r1,r2,hu=>by
   cases (show u=Value.bool b1 from r1)
   cases (show x=Value.ref _ from r2);obtain ⟨its2,rv2,p2,_⟩:=I.list h2
   exact EqAt.bool_list b1 p2.isList (dD hu)
 | _,_,_,_,u,x,A,.bl b1,.tup h2 rs2,r1,r2,hu=>by
   cases (show u=Value.bool b1 from r1)
   cases (show x=Value.ref _ from r2);obtain ⟨its2,rv2,p2,_⟩:=I.tuple h2
   exact EqAt.bool_tuple b1 p2 (dD hu)
 | _,_,_,_,u,x,A,.int i1,.non,r1,r2,hu=>by
   obtain ⟨t1,e1⟩:=(show ∃ t,u=Value.int i1 t from r1);subst e1
   cases (show x=Value.none from r2)
   exact EqAt.int_none i1 t1
 | _,_,_,_,u,x,A,.int i1,.bl b2,r1,r2,hu=>by
   obtain ⟨t1,e1⟩:=(show ∃ t,u=Value.int i1 t from r1);subst e1
   cases (show x=Value.bool b2 from r2)
   exact EqAt.int_bool i1 t1 b2
 | _,_,_,_,u,x,A,.int i1,.int i2,r1,r2,hu=>by
   obtain ⟨t1,e1⟩:=(show ∃ t,u=Value.int i1 t from r1);subst e1
   obtain ⟨t2,e2⟩:=(show ∃ t,x=Value.int i2 t from r2);subst e2
   exact EqAt.int_int i1 t1 i2 t2
 | _,_,_,_,u,x,A,.int i1,.str y2,r1,r2,hu=>by
   obtain ⟨t1,e1⟩:=(show ∃ t,u=Value.int i1 t from r1);subst e1
   obtain ⟨t2,e2⟩:=(show ∃ t,x=Value.str y2 t from r2);subst e2
   exact EqAt.int_str i1 t1 y2 t2
 | _,_,_,_,u,x,A,.int i1,.lst h2 rs2,r1,r2,hu=>by
   obtain ⟨t1,e1⟩:=(show ∃ t,u=Value.int i1 t from r1);subst e1
   cases (show x=Value.ref _ from r2);obtain ⟨its2,rv2,p2,_⟩:=I.list h2
   exact EqAt.int_list i1 t1 p2.isList (dD hu)
 | _,_,_,_,u,x,A,.int i1,.tup h2 rs2,r1,r2,hu=>by
   obtain ⟨t1,e1⟩:=(show ∃ t,u=Value.int i1 t from r1);subst e1
   cases (show x=Value.ref _ from r2);obtain ⟨its2,rv2,p2,_⟩:=I.tuple h2
   exact EqAt.int_tuple i1 t1 p2 (dD hu)
 | _,_,_,_,u,x,A,.str y1,.non,r1,r2,hu=>by
   obtain ⟨t1,e1⟩:=(show ∃ t,u=Value.str y1 t from r1);subst e1
   cases (show x=Value.none from r2)
   exact EqAt.str_none y1 t1
 | _,_,_,_,u,x,A,.str y1,.bl b2,r1,r2,hu=>by
   obtain ⟨t1,e1⟩:=(show ∃ t,u=Value.str y1 t from r1);subst e1
   cases (show x=Value.bool b2 from r2)
   exact EqAt.str_bool y1 t1 b2
 | _,_,_,_,u,x,A,.str y1,.int i2,r1,r2,hu=>by
   obtain ⟨t1,e1⟩:=(show ∃ t,u=Value.str y1 t from r1);subst e1
   obtain ⟨t2,e2⟩:=(show ∃ t,x=Value.int i2 t from r2);subst e2
   exact EqAt.str_int y1 t1 i2 t2
 | _,_,_,_,u,x,A,.str y1,.str y2,r1,r2,hu=>by
   obtain ⟨t1,e1⟩:=(show ∃ t,u=Value.str y1 t from r1);subst e1
   obtain ⟨t2,e2⟩:=(show ∃ t,x=Value.str y2 t from r2);subst e2
   exact EqAt.str_str y1 t1 y2 t2
 | _,_,_,_,u,x,A,.str y1,.lst h2 rs2,r1,r2,hu=>by
   obtain ⟨t1,e1⟩:=(show ∃ t,u=Value.str y1 t from r1);subst e1
   cases (show x=Value.ref _ from r2);obtain ⟨its2,rv2,p2,_⟩:=I.list h2
   exact EqAt.str_list y1 t1 p2.isList (dD hu)
 | _,_,_,_,u,x,A,.str y1,.tup h2 rs2,r1,r2,hu=>by
   obtain ⟨t1,e1⟩:=(show ∃ t,u=Value.str y1 t from r1);subst e1
   cases (show x=Value.ref _ from r2);obtain ⟨its2,rv2,p2,_⟩:=I.tuple h2
   exact EqAt.str_tuple y1 t1 p2 (dD hu)
 | _,_,_,_,u,x,A,.lst h1 rs1,.non,r1,r2,hu=>by
   cases (show u=Value.ref _ from r1);obtain ⟨its1,rv1,p1,_⟩:=I.list h1
   cases (show x=Value.none from r2)
   exact EqAt.list_none p1.isList (dD hu)
 | _,_,_,_,u,x,A,.lst h1 rs1,.bl b2,r1,r2,hu=>by
   cases (show u=Value.ref _ from r1);obtain ⟨its1,rv1,p1,_⟩:=I.list h1
   cases (show x=Value.bool b2 from r2)
   exact EqAt.list_bool b2 p1.isList (dD hu)
 | _,_,_,_,u,x,A,.lst h1 rs1,.int i2,r1,r2,hu=>by
   cases (show u=Value.ref _ from r1);obtain ⟨its1,rv1,p1,_⟩:=I.list h1
   obtain ⟨t2,e2⟩:=(show ∃ t,x=Value.int i2 t from r2);subst e2
   exact EqAt.list_int i2 t2 p1.isList (dD hu)
 | _,_,_,_,u,x,A,.lst h1 rs1,.str y2,r1,r2,hu=>by
   cases (show u=Value.ref _ from r1);obtain ⟨its1,rv1,p1,_⟩:=I.list h1
   obtain ⟨t2,e2⟩:=(show ∃ t,x=Value.str y2 t from r2);subst e2
   exact EqAt.list_str y2 t2 p1.isList (dD hu)
 | _,_,_,_,u,x,A,.lst h1 rs1,.lst h2 rs2,r1,r2,hu=>by
   cases (show u=Value.ref _ from r1);obtain ⟨its1,rv1,p1,_⟩:=I.list h1
   cases (show x=Value.ref _ from r2);obtain ⟨its2,rv2,p2,_⟩:=I.list h2
   exact Wj I h1 h2 rs1 rs2 rv1 rv2 p1.isList p2.isList (hu0 hu) (mZ I rs1 rs2 rv1 rv2 (hu1 hu))
 | _,_,_,_,u,x,A,.lst h1 rs1,.tup h2 rs2,r1,r2,hu=>by
   cases (show u=Value.ref _ from r1);obtain ⟨its1,rv1,p1,_⟩:=I.list h1
   cases (show x=Value.ref _ from r2);obtain ⟨its2,rv2,p2,_⟩:=I.tuple h2
   exact EqAt.list_tuple p1.isList p2 (dD hu)
 | _,_,_,_,u,x,A,.tup h1 rs1,.non,r1,r2,hu=>by
   cases (show u=Value.ref _ from r1);obtain ⟨its1,rv1,p1,_⟩:=I.tuple h1
   cases (show x=Value.none from r2)
   exact EqAt.tuple_none p1 (dD hu)
 | _,_,_,_,u,x,A,.tup h1 rs1,.bl b2,r1,r2,hu=>by
   cases (show u=Value.ref _ from r1);obtain ⟨its1,rv1,p1,_⟩:=I.tuple h1
   cases (show x=Value.bool b2 from r2)
   exact EqAt.tuple_bool b2 p1 (dD hu)
 | _,_,_,_,u,x,A,.tup h1 rs1,.int i2,r1,r2,hu=>by
   cases (show u=Value.ref _ from r1);obtain ⟨its1,rv1,p1,_⟩:=I.tuple h1
   obtain ⟨t2,e2⟩:=(show ∃ t,x=Value.int i2 t from r2);subst e2
   exact EqAt.tuple_int i2 t2 p1 (dD hu)
 | _,_,_,_,u,x,A,.tup h1 rs1,.str y2,r1,r2,hu=>by
   cases (show u=Value.ref _ from r1);obtain ⟨its1,rv1,p1,_⟩:=I.tuple h1
   obtain ⟨t2,e2⟩:=(show ∃ t,x=Value.str y2 t from r2);subst e2
   exact EqAt.tuple_str y2 t2 p1 (dD hu)
 | _,_,_,_,u,x,A,.tup h1 rs1,.lst h2 rs2,r1,r2,hu=>by
   cases (show u=Value.ref _ from r1);obtain ⟨its1,rv1,p1,_⟩:=I.tuple h1
   cases (show x=Value.ref _ from r2);obtain ⟨its2,rv2,p2,_⟩:=I.list h2
   exact EqAt.tuple_list p1 p2.isList (dD hu)
 | _,_,_,_,u,x,A,.tup h1 rs1,.tup h2 rs2,r1,r2,hu=>by
   cases (show u=Value.ref _ from r1);obtain ⟨its1,rv1,p1,_⟩:=I.tuple h1
   cases (show x=Value.ref _ from r2);obtain ⟨its2,rv2,p2,_⟩:=I.tuple h2
   exact eqT I h1 h2 rs1 rs2 rv1 rv2 p1 p2 (hu0 hu) (mZ I rs1 rs2 rv1 rv2 (hu1 hu))
theorem mZ (I:Inv X Z σ H s):∀ {vs ws:List V} {ds es:List PyData} {us xs:List Value} {A:Around},bw X.K H vs ds->bw X.K H ws es->Vals vs us->Vals ws xs->A.units+bI ds<cLine->
 ∀ j (h1:j<us.length) (h2:j<xs.length),EqAt A s us[j] xs[j] (cj (ds.getD j .none) (es.getD j .none))
 |_,_,_,_,_,_,_,.nil,_,.nil,_,_,j,h1,_=>absurd h1 (Nat.not_lt_zero _)
 |_,_,_,_,_,_,_,.cons _ _,.nil,.cons _ _,.nil,_,j,_,h2=>absurd h2 (Nat.not_lt_zero _)
 |_,_,_,_,_,_,_,.cons a b,.cons c d,.cons r rs,.cons t ts,hu,0,_,_=>Dm I a c r t (by simp only [bI] at hu;simp only [List.getD_cons_zero];omega)
 |_,_,_,_,_,_,_,.cons a b,.cons c d,.cons r rs,.cons t ts,hu,j+1,h1,h2=>mZ I b d rs ts (by simp only [bI] at hu;omega) j (by simpa using h1) (by simpa using h2)
end
theorem Lb (I:Inv X Z σ H s):∀ {v w:V} {d e:PyData} {u x:Value} {A:Around},Rep X.K H v d->Rep X.K H w e->RelV v u->RelV w x->A.units+cz d<cLine->RcAt A s u x (cj d e)
 | _,_,_,_,u,x,A,.non,.non,r1,r2,hu=>by
   cases (show u=Value.none from r1)
   cases (show x=Value.none from r2)
   exact RcAt.none_none
 | _,_,_,_,u,x,A,.non,.bl b2,r1,r2,hu=>by
   cases (show u=Value.none from r1)
   cases (show x=Value.bool b2 from r2)
   exact RcAt.none_bool b2
 | _,_,_,_,u,x,A,.non,.int i2,r1,r2,hu=>by
   cases (show u=Value.none from r1)
   obtain ⟨t2,e2⟩:=(show ∃ t,x=Value.int i2 t from r2);subst e2
   exact RcAt.none_int i2 t2
 | _,_,_,_,u,x,A,.non,.str y2,r1,r2,hu=>by
   cases (show u=Value.none from r1)
   obtain ⟨t2,e2⟩:=(show ∃ t,x=Value.str y2 t from r2);subst e2
   exact RcAt.none_str y2 t2
 | _,_,_,_,u,x,A,.non,.lst h2 rs2,r1,r2,hu=>by
   cases (show u=Value.none from r1)
   cases (show x=Value.ref _ from r2);obtain ⟨its2,rv2,p2,_⟩:=I.list h2
   exact RcAt.none_list p2.isList (dD hu)
 | _,_,_,_,u,x,A,.non,.tup h2 rs2,r1,r2,hu=>by
   cases (show u=Value.none from r1)
   cases (show x=Value.ref _ from r2);obtain ⟨its2,rv2,p2,_⟩:=I.tuple h2
   exact RcAt.none_tuple p2 (dD hu)
 | _,_,_,_,u,x,A,.bl b1,.non,r1,r2,hu=>by
   cases (show u=Value.bool b1 from r1)
   cases (show x=Value.none from r2)
   exact RcAt.bool_none b1
 | _,_,_,_,u,x,A,.bl b1,.bl b2,r1,r2,hu=>by
   cases (show u=Value.bool b1 from r1)
   cases (show x=Value.bool b2 from r2)
   exact RcAt.bool_bool b1 b2
 | _,_,_,_,u,x,A,.bl b1,.int i2,r1,r2,hu=>by
   cases (show u=Value.bool b1 from r1)
   obtain ⟨t2,e2⟩:=(show ∃ t,x=Value.int i2 t from r2);subst e2
   exact RcAt.bool_int b1 i2 t2
 | _,_,_,_,u,x,A,.bl b1,.str y2,r1,r2,hu=>by
   cases (show u=Value.bool b1 from r1)
   obtain ⟨t2,e2⟩:=(show ∃ t,x=Value.str y2 t from r2);subst e2
   exact RcAt.bool_str b1 y2 t2
 | _,_,_,_,u,x,A,.bl b1,.lst h2 rs2,r1,r2,hu=>by
   cases (show u=Value.bool b1 from r1)
   cases (show x=Value.ref _ from r2);obtain ⟨its2,rv2,p2,_⟩:=I.list h2
   exact RcAt.bool_list b1 p2.isList (dD hu)
 | _,_,_,_,u,x,A,.bl b1,.tup h2 rs2,r1,r2,hu=>by
   cases (show u=Value.bool b1 from r1)
   cases (show x=Value.ref _ from r2);obtain ⟨its2,rv2,p2,_⟩:=I.tuple h2
   exact RcAt.bool_tuple b1 p2 (dD hu)
 | _,_,_,_,u,x,A,.int i1,.non,r1,r2,hu=>by
   obtain ⟨t1,e1⟩:=(show ∃ t,u=Value.int i1 t from r1);subst e1
   cases (show x=Value.none from r2)
   exact RcAt.int_none i1 t1
 | _,_,_,_,u,x,A,.int i1,.bl b2,r1,r2,hu=>by
   obtain ⟨t1,e1⟩:=(show ∃ t,u=Value.int i1 t from r1);subst e1
   cases (show x=Value.bool b2 from r2)
   exact RcAt.int_bool i1 t1 b2
 | _,_,_,_,u,x,A,.int i1,.int i2,r1,r2,hu=>by
   obtain ⟨t1,e1⟩:=(show ∃ t,u=Value.int i1 t from r1);subst e1
   obtain ⟨t2,e2⟩:=(show ∃ t,x=Value.int i2 t from r2);subst e2
   exact RcAt.int_int i1 t1 i2 t2
 | _,_,_,_,u,x,A,.int i1,.str y2,r1,r2,hu=>by
   obtain ⟨t1,e1⟩:=(show ∃ t,u=Value.int i1 t from r1);subst e1
   obtain ⟨t2,e2⟩:=(show ∃ t,x=Value.str y2 t from r2);subst e2
   exact RcAt.int_str i1 t1 y2 t2
 | _,_,_,_,u,x,A,.int i1,.lst h2 rs2,r1,r2,hu=>by
   obtain ⟨t1,e1⟩:=(show ∃ t,u=Value.int i1 t from r1);subst e1
   cases (show x=Value.ref _ from r2);obtain ⟨its2,rv2,p2,_⟩:=I.list h2
   exact RcAt.int_list i1 t1 p2.isList (dD hu)
 | _,_,_,_,u,x,A,.int i1,.tup h2 rs2,r1,r2,hu=>by
   obtain ⟨t1,e1⟩:=(show ∃ t,u=Value.int i1 t from r1);subst e1
   cases (show x=Value.ref _ from r2);obtain ⟨its2,rv2,p2,_⟩:=I.tuple h2
   exact RcAt.int_tuple i1 t1 p2 (dD hu)
 | _,_,_,_,u,x,A,.str y1,.non,r1,r2,hu=>by
   obtain ⟨t1,e1⟩:=(show ∃ t,u=Value.str y1 t from r1);subst e1
   cases (show x=Value.none from r2)
   exact RcAt.str_none y1 t1
 | _,_,_,_,u,x,A,.str y1,.bl b2,r1,r2,hu=>by
   obtain ⟨t1,e1⟩:=(show ∃ t,u=Value.str y1 t from r1);subst e1
   cases (show x=Value.bool b2 from r2)
   exact RcAt.str_bool y1 t1 b2
 | _,_,_,_,u,x,A,.str y1,.int i2,r1,r2,hu=>by
   obtain ⟨t1,e1⟩:=(show ∃ t,u=Value.str y1 t from r1);subst e1
   obtain ⟨t2,e2⟩:=(show ∃ t,x=Value.int i2 t from r2);subst e2
   exact RcAt.str_int y1 t1 i2 t2
 | _,_,_,_,u,x,A,.str y1,.str y2,r1,r2,hu=>by
   obtain ⟨t1,e1⟩:=(show ∃ t,u=Value.str y1 t from r1);subst e1
   obtain ⟨t2,e2⟩:=(show ∃ t,x=Value.str y2 t from r2);subst e2
   exact RcAt.str_str y1 t1 y2 t2
 | _,_,_,_,u,x,A,.str y1,.lst h2 rs2,r1,r2,hu=>by
   obtain ⟨t1,e1⟩:=(show ∃ t,u=Value.str y1 t from r1);subst e1
   cases (show x=Value.ref _ from r2);obtain ⟨its2,rv2,p2,_⟩:=I.list h2
   exact RcAt.str_list y1 t1 p2.isList (dD hu)
 | _,_,_,_,u,x,A,.str y1,.tup h2 rs2,r1,r2,hu=>by
   obtain ⟨t1,e1⟩:=(show ∃ t,u=Value.str y1 t from r1);subst e1
   cases (show x=Value.ref _ from r2);obtain ⟨its2,rv2,p2,_⟩:=I.tuple h2
   exact RcAt.str_tuple y1 t1 p2 (dD hu)
 | _,_,_,_,u,x,A,.lst h1 rs1,.non,r1,r2,hu=>by
   cases (show u=Value.ref _ from r1);obtain ⟨its1,rv1,p1,_⟩:=I.list h1
   cases (show x=Value.none from r2)
   exact RcAt.list_none p1.isList (dD hu)
 | _,_,_,_,u,x,A,.lst h1 rs1,.bl b2,r1,r2,hu=>by
   cases (show u=Value.ref _ from r1);obtain ⟨its1,rv1,p1,_⟩:=I.list h1
   cases (show x=Value.bool b2 from r2)
   exact RcAt.list_bool b2 p1.isList (dD hu)
 | _,_,_,_,u,x,A,.lst h1 rs1,.int i2,r1,r2,hu=>by
   cases (show u=Value.ref _ from r1);obtain ⟨its1,rv1,p1,_⟩:=I.list h1
   obtain ⟨t2,e2⟩:=(show ∃ t,x=Value.int i2 t from r2);subst e2
   exact RcAt.list_int i2 t2 p1.isList (dD hu)
 | _,_,_,_,u,x,A,.lst h1 rs1,.str y2,r1,r2,hu=>by
   cases (show u=Value.ref _ from r1);obtain ⟨its1,rv1,p1,_⟩:=I.list h1
   obtain ⟨t2,e2⟩:=(show ∃ t,x=Value.str y2 t from r2);subst e2
   exact RcAt.list_str y2 t2 p1.isList (dD hu)
 | _,_,_,_,u,x,A,.lst h1 rs1,.lst h2 rs2,r1,r2,hu=>by
   cases (show u=Value.ref _ from r1);obtain ⟨its1,rv1,p1,_⟩:=I.list h1
   cases (show x=Value.ref _ from r2);obtain ⟨its2,rv2,p2,_⟩:=I.list h2
   exact VB rs1 rs2 rv1 rv2 p1.isList p2.isList (hu0 hu) (mZ I rs1 rs2 rv1 rv2 (hu1 hu))
 | _,_,_,_,u,x,A,.lst h1 rs1,.tup h2 rs2,r1,r2,hu=>by
   cases (show u=Value.ref _ from r1);obtain ⟨its1,rv1,p1,_⟩:=I.list h1
   cases (show x=Value.ref _ from r2);obtain ⟨its2,rv2,p2,_⟩:=I.tuple h2
   exact RcAt.list_tuple p1.isList p2 (dD hu)
 | _,_,_,_,u,x,A,.tup h1 rs1,.non,r1,r2,hu=>by
   cases (show u=Value.ref _ from r1);obtain ⟨its1,rv1,p1,_⟩:=I.tuple h1
   cases (show x=Value.none from r2)
   exact RcAt.tuple_none p1 (dD hu)
 | _,_,_,_,u,x,A,.tup h1 rs1,.bl b2,r1,r2,hu=>by
   cases (show u=Value.ref _ from r1);obtain ⟨its1,rv1,p1,_⟩:=I.tuple h1
   cases (show x=Value.bool b2 from r2)
   exact RcAt.tuple_bool b2 p1 (dD hu)
 | _,_,_,_,u,x,A,.tup h1 rs1,.int i2,r1,r2,hu=>by
   cases (show u=Value.ref _ from r1);obtain ⟨its1,rv1,p1,_⟩:=I.tuple h1
   obtain ⟨t2,e2⟩:=(show ∃ t,x=Value.int i2 t from r2);subst e2
   exact RcAt.tuple_int i2 t2 p1 (dD hu)
 | _,_,_,_,u,x,A,.tup h1 rs1,.str y2,r1,r2,hu=>by
   cases (show u=Value.ref _ from r1);obtain ⟨its1,rv1,p1,_⟩:=I.tuple h1
   obtain ⟨t2,e2⟩:=(show ∃ t,x=Value.str y2 t from r2);subst e2
   exact RcAt.tuple_str y2 t2 p1 (dD hu)
 | _,_,_,_,u,x,A,.tup h1 rs1,.lst h2 rs2,r1,r2,hu=>by
   cases (show u=Value.ref _ from r1);obtain ⟨its1,rv1,p1,_⟩:=I.tuple h1
   cases (show x=Value.ref _ from r2);obtain ⟨its2,rv2,p2,_⟩:=I.list h2
   exact RcAt.tuple_list p1 p2.isList (dD hu)
 | _,_,_,_,u,x,A,.tup h1 rs1,.tup h2 rs2,r1,r2,hu=>by
   cases (show u=Value.ref _ from r1);obtain ⟨its1,rv1,p1,_⟩:=I.tuple h1
   cases (show x=Value.ref _ from r2);obtain ⟨its2,rv2,p2,_⟩:=I.tuple h2
   exact V_ rs1 rs2 rv1 rv2 p1 p2 (hu0 hu) (mZ I rs1 rs2 rv1 rv2 (hu1 hu))
end
def Vi (K:PySem.W.Frag):R2:=fun x y H Q=>∃ d e,Rep K H x d/\Rep K H y e/\cz d≤60/\Q (.bl (cj d e)) H
theorem tH (hu:X.A.units+64<cLine):iD X (compareOp .Eq) (Vi X.K):=by
 intro Z s σ H x y v u Q I rx ry h
 obtain ⟨d,e,h1,h2,hd,q⟩:=h
 exact Lb I h1 h2 rx ry (by omega) _ _ _ _ ⟨.bl _,H,I,rfl,q⟩
theorem iU:∀ {es:List PyData},e∈es->cz e≤bI es
 |_::_,.head _=>by simp only [bI];omega
 |_::r,.tail _ h=>by have:=iU h;simp only [bI];omega
def Gv:PyData->String
 |.none=>"NoneType"
 |.bool _=>"bool"
 |.int _=>"int"
 |.str _=>"str"
 |.list _=>"list"
 |.tuple _=>"tuple"
 |.dict _=>"dict"
theorem isD (I:Inv X Z σ H s) (r:Rep X.K H v d) (rv:RelV v u)
 (e:PySem.W.kitOne X.K (.type (Gv d)) c=some b) (h:∀ tk,Q (.bool b) { s with toks:=tk }):wpAny (model X.prog X.w) A (call (.builtin "isinstance") [u,c]) Q E s:=by
 cases r with
 |non=>cases (show u=Value.none from rv);exact PySem.W.kia_one PySem.W.kitx_none I.kIn True.intro e (fun z=>nomatch z) h
 |bl y=>cases (show u=Value.bool y from rv);exact PySem.W.kia_one PySem.W.kitx_bool I.kIn True.intro e (fun z=>nomatch z) h
 |int i=>obtain ⟨t,q⟩:=(show ∃ t,u=Value.int i t from rv);cases q;exact PySem.W.kia_one PySem.W.kitx_int I.kIn True.intro e (fun z=>nomatch z) h
 |str y=>obtain ⟨t,q⟩:=(show ∃ t,u=Value.str y t from rv);cases q;exact PySem.W.kia_one PySem.W.kitx_str I.kIn True.intro e (fun z=>nomatch z) h
 | tup g _=>
   cases (show u=Value.ref _ from rv)
   obtain ⟨_,_,⟨o,h1,h2,_⟩,_⟩:=I.tuple g
   exact PySem.W.kia_one PySem.W.kitx_tuple I.kIn ⟨o,h1,h2⟩ e (fun z=>nomatch z) h
 | lst g _=>
   cases (show u=Value.ref _ from rv)
   obtain ⟨_,_,⟨o,n,h1,h2,_⟩,_⟩:=I.list g
   exact PySem.W.kia_one PySem.W.kitx_list I.kIn ⟨o,h1,h2⟩ e (fun z=>nomatch z) h
theorem U6 (I:Inv X Z σ H s) (r:Rep X.K H v d) (rv:RelV v u)
 (htp:s.heap.get? tp=some ⟨.type "tuple",dd,.seq its.toArray n,sl⟩) (e:PySem.W.kitAny X.K (.type (Gv d)) its=some b) (h:∀ tk,Q (.bool b) { s with toks:=tk }):wpAny (model X.prog X.w) A (call (.builtin "isinstance") [u,.ref tp]) Q E s:=by
 cases r with
 |non=>cases (show u=Value.none from rv);exact PySem.W.kia_tup PySem.W.kitx_none I.kIn True.intro htp e (fun z=>nomatch z) h
 |bl y=>cases (show u=Value.bool y from rv);exact PySem.W.kia_tup PySem.W.kitx_bool I.kIn True.intro htp e (fun z=>nomatch z) h
 |int i=>obtain ⟨t,q⟩:=(show ∃ t,u=Value.int i t from rv);cases q;exact PySem.W.kia_tup PySem.W.kitx_int I.kIn True.intro htp e (fun z=>nomatch z) h
 |str y=>obtain ⟨t,q⟩:=(show ∃ t,u=Value.str y t from rv);cases q;exact PySem.W.kia_tup PySem.W.kitx_str I.kIn True.intro htp e (fun z=>nomatch z) h
 | tup g _=>
   cases (show u=Value.ref _ from rv)
   obtain ⟨_,_,⟨o,h1,h2,_⟩,_⟩:=I.tuple g
   exact PySem.W.kia_tup PySem.W.kitx_tuple I.kIn ⟨o,h1,h2⟩ htp e (fun z=>nomatch z) h
 | lst g _=>
   cases (show u=Value.ref _ from rv)
   obtain ⟨_,_,⟨o,n,h1,h2,_⟩,_⟩:=I.list g
   exact PySem.W.kia_tup PySem.W.kitx_list I.kIn ⟨o,h1,h2⟩ htp e (fun z=>nomatch z) h
def Ve (K:PySem.W.Frag):List V->Hp->VK->Prop:=fun xs H Q=>∃ x n d b,xs=[x,.ty n]/\Rep K H x d/\PySem.W.kitOne K (.type (Gv d)) (.type n)=some b/\Q (.bl b) H
theorem bC:gH X (.builtin "isinstance") (Ve X.K):=by
 intro Z s σ H xs us Q I r h
 obtain ⟨x,n,d,b,rfl,hr,e,q⟩:=h
 cases r with
 | cons r1 r=>
   cases r with
   | cons r2 r=>
     cases r
     cases (show _=Value.type n from r2)
     exact isD I hr r1 e fun tk=>⟨.bl b,H,I.tok tk,rfl,q⟩
def Qk (K:PySem.W.Frag):List V->Hp->VK->Prop:=fun xs H Q=>∃ x a n m d b,xs=[x,.ref a]/\H a=some (.tup [.ty n,.ty m])/\Rep K H x d/\PySem.W.kitAny K (.type (Gv d)) [.type n,.type m]=some b/\Q (.bl b) H
theorem oN:gH X (.builtin "isinstance") (Qk X.K):=by
 intro Z s σ H xs us Q I r h
 obtain ⟨x,a,n,m,d,b,rfl,ha,hr,e,q⟩:=h
 cases r with
 | cons r1 r=>
   cases r with
   | cons r2 r=>
     cases r
     cases (show _=Value.ref a from r2)
     obtain ⟨z,its,rv,o,h1,h2,k,h3⟩:=(show cI X.prog X.w H s.heap a (.tup [.ty n,.ty m]) from I.hok a _ ha)
     obtain ⟨cls,dd,data,sl⟩:=o
     simp only at h2 h3
     subst h2 h3
     cases rv with
     | cons g1 rv=>
       cases rv with
       | cons g2 rv=>
         cases rv
         cases (show _=Value.type n from g1)
         cases (show _=Value.type m from g2)
         exact U6 I hr r1 h1 e fun tk=>⟨.bl b,H,I.tok tk,rfl,q⟩
theorem qI:∀ {bs:List Bool},xs=bs.map V.bl->Vals xs us->us=bs.map Value.bool:=by
 intro bs e r
 induction bs generalizing xs us with
 |nil=>subst e;cases r;rfl
 | cons b t ih=>
   subst e
   cases r with
   |cons r1 r=>rw [List.map_cons,ih rfl r,(show _=Value.bool b from r1)]
theorem range_all (bs:List Bool):(List.range bs.length).all (fun i=>bs.getD i false)=bs.all id:=by
 induction bs with
 |nil=>rfl
 |cons b t ih=>rw [List.length_cons,List.range_succ_eq_map,List.all_cons,List.all_map,List.all_cons,← ih];rfl
theorem range_any (bs:List Bool):(List.range bs.length).any (fun i=>bs.getD i false)=bs.any id:=by
 induction bs with
 |nil=>rfl
 |cons b t ih=>rw [List.length_cons,List.range_succ_eq_map,List.any_cons,List.any_map,List.any_cons,← ih];rfl
theorem lH {bs:List Bool}:TruthOf P w A (fun i v=>((bs.map Value.bool).toArray)[i]?=some v) fun i=>bs.getD i false:=fun i v s Q E hP hQ=>by
 dsimp only at hP hQ
 rw [List.getElem?_toArray,List.getElem?_map] at hP
 cases e:bs[i]? with
 |none=>rw [e] at hP;cases hP
 | some b=>
   rw [e] at hP
   cases hP
   rw [List.getD_eq_getElem?_getD,e] at hQ
   exact wpAny_pure hQ
def Cu (K:PySem.W.Frag) (f:List Bool->Bool):List V->Hp->VK->Prop:=fun xs H Q=>∃ a bs,xs=[.ref a]/\bJ K H a (bs.map V.bl)/\Q (.bl (f bs)) H
theorem je {X:Cx} (hh:X.calm=true):gH X (.builtin "all") (Cu X.K fun bs=>bs.all id):=by
 intro Z s σ H xs us Q I r h
 obtain ⟨a,bs,rfl,hq,q⟩:=h
 cases r with
 | cons r1 r=>
   cases r
   cases (show _=Value.ref a from r1)
   obtain ⟨its,rv,p,hz⟩:=I.list hq
   have e:=qI rfl rv
   subst e
   refine PySem.call_all_walk (wpAny_pyIter_list p.isList ?_)
   have hne:a≠s.heap.objs.size:=(by obtain ⟨o,ho,_⟩:=p.isList;exact Nat.ne_of_lt (Heap.lt_size ho))
   refine ⟨s.heap.objs.size,_,_,_,_,_,_,rfl,Walks.list (A:=X.A.in1) (I.ok.hd hh) s.heap.objs.size a hne (bs.map Value.bool).toArray,⟨⟨_,Heap.get?_push_size _ rfl,rfl,rfl⟩,?_⟩,lH,fun h' tk hk=>?_⟩
   ·obtain ⟨o,ho,hc,n,hd⟩:=p.isList
    exact ⟨o,Heap.get?_push_of_some _ ho,hc,n,hd⟩
   ·rw [List.size_toArray,List.length_map,range_all]
    exact ⟨.bl _,H,I.kept fun b o e=>hk b o (by simp;exact Nat.ne_of_lt (Heap.lt_size e)) (Heap.get?_push_of_some _ e),rfl,q⟩
theorem vW {X:Cx} (hh:X.calm=true):gH X (.builtin "any") (Cu X.K fun bs=>bs.any id):=by
 intro Z s σ H xs us Q I r h
 obtain ⟨a,bs,rfl,hq,q⟩:=h
 cases r with
 | cons r1 r=>
   cases r
   cases (show _=Value.ref a from r1)
   obtain ⟨its,rv,p,hz⟩:=I.list hq
   have e:=qI rfl rv
   subst e
   refine PySem.call_any_walk (wpAny_pyIter_list p.isList ?_)
   have hne:a≠s.heap.objs.size:=(by obtain ⟨o,ho,_⟩:=p.isList;exact Nat.ne_of_lt (Heap.lt_size ho))
   refine ⟨s.heap.objs.size,_,_,_,_,_,_,rfl,Walks.list (A:=X.A.in1) (I.ok.hd hh) s.heap.objs.size a hne (bs.map Value.bool).toArray,⟨⟨_,Heap.get?_push_size _ rfl,rfl,rfl⟩,?_⟩,lH,fun h' tk hk=>?_⟩
   ·obtain ⟨o,ho,hc,n,hd⟩:=p.isList
    exact ⟨o,Heap.get?_push_of_some _ ho,hc,n,hd⟩
   ·rw [List.size_toArray,List.length_map,range_any]
    exact ⟨.bl _,H,I.kept fun b o e=>hk b o (by simp;exact Nat.ne_of_lt (Heap.lt_size e)) (Heap.get?_push_of_some _ e),rfl,q⟩
theorem BL:∀ {ys:List Str},Vals (ys.map V.str) us->StrsAre us ys:=by
 intro ys
 induction ys generalizing us with
 |nil=>intro r;cases r;exact .nil
 | cons y t ih=>
   intro r
   cases r with
   | cons r1 r=>
     obtain ⟨tk,e⟩:=(show ∃ t,_=Value.str y t from r1)
     subst e
     exact .cons _ _ (ih r)
def rJoin (K:PySem.W.Frag):V->List V->Hp->VK->Prop:=fun x vs H Q=>∃ z a ys,x=.str z/\vs=[.ref a]/\bJ K H a (ys.map V.str)/\(ys.map (·.length)).sum+ys.length*z.length≤16777216/\Q (.str (Txt.join z ys)) H
theorem Bg:Ff X "str.join" (rJoin X.K):=by
 intro Z s σ H x vs v us Q I rx rv h
 obtain ⟨z,a,ys,rfl,rfl,hq,hl,q⟩:=h
 obtain ⟨t,e⟩:=(show ∃ t,v=Value.str z t from rx)
 subst e
 cases rv with
 | cons r1 r=>
   cases r
   cases (show _=Value.ref a from r1)
   obtain ⟨its,rs,p,hz⟩:=I.list hq
   exact join_list p.isList (by simpa using BL rs) hl fun t' k=>⟨.str _,H,I.tok k,⟨t',rfl⟩,q⟩
def Ub (f:Str->Bool):V->List V->Hp->VK->Prop:=fun x vs H Q=>∃ z,x=.str z/\vs=[]/\Q (.bl (f z)) H
theorem tK:Ff X "str.isascii" (Ub fun x=>x.cps.all (·<128)):=by
 intro Z s σ H x vs v us Q I rx rv h
 obtain ⟨z,rfl,rfl,q⟩:=h
 obtain ⟨t,e⟩:=(show ∃ t,v=Value.str z t from rx)
 subst e
 cases rv
 exact call_gives PySem.F.slot_str_isascii (typeIs_str _ _ _) PySem.F.entry_str_isascii (PySem.F.args_str_isascii_1 _) (gives_str_isascii z t) ⟨.bl _,H,I,rfl,q⟩
theorem rJ:Ff X "str.isalpha" (Ub fun x=>x.length > 0 && x.cps.all Unicode.isAlpha):=by
 intro Z s σ H x vs v us Q I rx rv h
 obtain ⟨z,rfl,rfl,q⟩:=h
 obtain ⟨t,e⟩:=(show ∃ t,v=Value.str z t from rx)
 subst e
 cases rv
 exact call_gives PySem.F.slot_str_isalpha (typeIs_str _ _ _) PySem.F.entry_str_isalpha (PySem.F.args_str_isalpha_1 _) (gives_str_isalpha z t) ⟨.bl _,H,I,rfl,q⟩
theorem sY:Ff X "str.islower" (Ub fun x=>x.cps.any Unicode.isLower && !x.cps.any fun c=>Unicode.isUpper c || Unicode.isTitle c):=by
 intro Z s σ H x vs v us Q I rx rv h
 obtain ⟨z,rfl,rfl,q⟩:=h
 obtain ⟨t,e⟩:=(show ∃ t,v=Value.str z t from rx)
 subst e
 cases rv
 exact call_gives PySem.F.slot_str_islower (typeIs_str _ _ _) PySem.F.entry_str_islower (PySem.F.args_str_islower_1 _) (gives_str_islower z t) ⟨.bl _,H,I,rfl,q⟩
structure Mh (osc:Scope) (N:List Str) (scope:Scope) (own:List Str) (js:List Nat) (N':List Str):Prop where
 kind:scope.kind=.function
 nocell:∀ y∈scope.names,y.2≠.cell
 names:∀ y∈scope.names,y.2=.local->scope.names.lookup y.1=some .local
 free:∀ y∈scope.names,y.2=.free->osc.names.lookup y.1=some .cell∨osc.names.lookup y.1=some .free
 nm:N'=own++js.map fun j=>N.getD j Str.empty
 fr:∀ j∈js,j<N.length/\(N.getD j Str.empty,NameKind.free)∈scope.names/\∀ y∈scope.names,y.1=N.getD j Str.empty->y.2=.free
theorem bN.of (h1:X.env.scope=osc) (h2:X.N=N) (h:Mh osc N scope own js N'):bN X scope own js N':=by
 subst h1 h2
 exact ⟨h.kind,h.nocell,h.names,h.free,h.nm,fun j hj=>⟨(h.fr j hj).1,(h.fr j hj).2.1,fun k hk=>(h.fr j hj).2.2 _ hk rfl⟩⟩
mutual
def jN:PyData->Nat
 |.tuple xs=>max xs.length (kO xs)
 |.list xs=>max xs.length (kO xs)
 |_=>0
def kO:List PyData->Nat
 |[]=>0
 |d::r=>max (jN d) (kO r)
end
theorem m_:∀ {es:List PyData},e∈es->jN e≤kO es
 |_::_,.head _=>by simp only [kO];omega
 |_::r,.tail _ h=>by have:=m_ h;simp only [kO];omega
theorem cP (hg:Gl X x) (hm:X.mg x=none) (hv:bootBuiltins x=some (.type n)) (hn:x ≠ "__name__":=by decide) (hd:(x == ("__debug__" : Str))=false:=by decide):PE X (.Name x pos) (tC (.ty n)):=Bu (v:=.ty n) hg hm hv rfl hn hd
theorem cC {c:Bool} {A B:Prop} (h:c=true) (q:A):if c=true then A else B:=by rw [if_pos h];exact q
theorem bQ {c:Bool} {A B:Prop} (h:c=false) (q:B):if c=true then A else B:=by rw [if_neg (by rw [h];exact Bool.false_ne_true)];exact q
def An (r r' r'':R2) (ta tb tc td:TE):TE:=fun σ H Q=>ta σ H fun x H1=>tb σ H1 fun y H2=>r x y H2 fun z H3=>∃ k,z=.bl k/\
 (if k=true then tc σ H3 fun w' H4=>r' y w' H4 fun z' H5=>∃ k',z'=.bl k'/\(if k'=true then td σ H5 fun v' H6=>r'' w' v' H6 Q else Q (.bl false) H5) else Q (.bl false) H3)
theorem wu (ho:iD X (compareOp op) r) (ho':iD X (compareOp op') r') (ho'':iD X (compareOp op'') r'') (ha:PE X a ta) (hb:PE X b tb) (hc:PE X c tc) (hd:PE X d td)
 (hm:lastMarks [op,op',op''] [b,c,d]=false:=by with_unfolding_all rfl):PT X (.Compare a [op,op',op''] [b,c,d] pos) (uP (An r r' r'' ta tb tc td)):=by
 intro Z s σ H Q I h
 refine isTrue_chain (b_ (ha Z s σ H _ I h) fun v s1 ⟨x,H1,I1,r1,q1⟩=>test_link (b_ (hb Z s1 σ H1 _ I1 q1) fun u s2 ⟨y,H2,I2,r2,q2⟩=>
  b_ (ho Z s2 σ H2 x y v u _ I2 r1 r2 q2) fun d' s3 ⟨z,H3,I3,r3,k,e,q3⟩=>?_)) hm
 subst e
 cases r3
 refine wpAny_truthy_bool ?_
 cases k with
 | false=>
   obtain ⟨k',e',q'⟩:=q3
   cases e'
   exact ite_ff ⟨H3,I3,q'⟩
 | true=>
   refine ite_tt (test_link (b_ (hc Z s3 σ H3 _ I3 q3) fun w' s4 ⟨z',H4,I4,r4,q4⟩=>b_ (ho' Z s4 σ H4 y z' u w' _ I4 r2 r4 q4) fun d'' s5 ⟨z2,H5,I5,r5,k2,e2,q5⟩=>?_))
   subst e2
   cases r5
   refine wpAny_truthy_bool ?_
   cases k2 with
   | false=>
     obtain ⟨k',e',q'⟩:=q5
     cases e'
     exact ite_ff ⟨H5,I5,q'⟩
   | true=>
     refine ite_tt (test_last (b_ (hd Z s5 σ H5 _ I5 q5) fun w2 s6 ⟨z3,H6,I6,r6,q6⟩=>b_ (ho'' Z s6 σ H6 z' z3 w' w2 _ I6 r4 r6 q6) fun d3 s7 ⟨z4,H7,I7,r7,k3,e3,q7⟩=>?_))
     subst e3
     cases r7
     exact wpAny_truthy_bool ⟨H7,I7,q7⟩
end L2
namespace HT
open PySem PySem.Spec PyProof.Rows
theorem BW {s:Shared} {ws:List Value} {Q:Value->Shared->Prop} (ht:IsTup s.heap t #[]) (hb:IsTup s.heap b ws.toArray) (h:Q (.ref b) s):wpAny (model prog w) A (binaryOp .Add (.ref t) (.ref b)) Q E s:=by
 obtain ⟨⟨_,dd,_,sl⟩,ho,rfl,n,rfl⟩:=id ht
 obtain ⟨⟨_,dd2,_,sl2⟩,ho2,rfl,n2,rfl⟩:=id hb
 exact concat_meets ⟨_,ho,rfl⟩ ⟨_,ho2,rfl⟩ noFill_tuple_add seq_tuple_add PySem.F.slot_tuple_add PySem.F.entry_tuple_add (PySem.F.args_tuple_add_2 _ _) (tuple_addW0 t b #[] ws.toArray n n2 dd dd2 sl sl2 rfl) ⟨ho,ho2,h⟩
theorem oO {s:Shared} {t sl:Addr} {items:Array Value} {a b c:Value} {lo step:Int} {n:Nat} {Q:Value->Shared->Prop} (ht:IsTup s.heap t items) (hs:s.heap.IsSliceOf sl a b c)
 (ha:∀ (A':Around) (Q':Int×Int×Nat->Shared->Prop) (E':Value->Shared->Prop),Q' (lo,step,n) s->wpAny (model prog w) A' (Builtin.Slice.sliceApplied (.ref sl) (pure (items.size:Int))) Q' E' s)
 (h1:(lo == 0 && step == 1 && n == items.size)=true->Q (.ref t) s)
 (h2:¬ (lo == 0 && step == 1 && n == items.size)=true->((List.range n).filterMap fun (k:Nat)=>items[(lo+(k:Int)*step).toNat]?).length≤sizeLine/\
  Q (.ref s.heap.objs.size) { s with heap:=s.heap.push { cls:=.type "tuple",data:=.seq ((List.range n).filterMap fun (k:Nat)=>items[(lo+(k:Int)*step).toNat]?).toArray } }) :
 wpAny (model prog w) A (getItem (.ref t) (.ref sl)) Q E s:=by
 obtain ⟨so,hso,hsc,hsd⟩:=id hs
 have hty:s.TypeIs (.ref sl) "slice":=⟨so,hso,hsc⟩
 obtain ⟨to,hto,htc,nt,htd⟩:=id ht
 unfold getItem
 try with_reducible refine wpAny_holding ?_
 first|refine wpAny_bind (wpAny_pure ?_)|skip
 refine wpAny_bind (wpAny_sequenceKey ht.typeIs (by decide) (wpAny_bind (wpAny_callSpecial?_slot (name:=Str.ofString "__getitem__") ht.typeIs PyProof.Rows.slot_tuple_getitem (wpAny_call_entry PyProof.Rows.slot_tuple_getitem ht.typeIs entry_tuple_getitem ?_ (args_tuple_getitem _ _)))))
 show wpAny _ _ (Builtin.Tuple.tupleItemsOf (.ref t) >>= _) _ _ s
 refine wpAny_bind (tupleItemsOf_ ht (wpAny_bind (wpAny_typeOf hty ?_)))
 rw [if_pos (by decide)]
 refine wpAny_bind (ha _ _ _ ?_)
 show wpAny _ _ (if (lo == 0 && step == 1 && n == items.size)=true then _ else _) _ _ s
 by_cases hw:(lo == 0 && step == 1 && n == items.size)=true
 ·rw [if_pos hw]
  have hx:wpAny (model prog w) A.in1 (Builtin.Tuple.tupleIsExact (.ref t)) (fun b s'=>b=true/\s'=s) E s:=by
   unfold Builtin.Tuple.tupleIsExact
   refine wpAny_bind (wpAny_typeOf_ref hto ?_)
   rw [htc]
   exact wpAny_pure ⟨rfl,rfl⟩
  first
   |refine wpAny_bind (wpAny_mono hx (fun b s' h'=>?_) fun _ _ z=>z)
   |refine wpAny_bind (wpAny_bind (wpAny_mono hx (fun b s' h'=>?_) fun _ _ z=>z))
  obtain ⟨rfl,rfl⟩:=h'
  rw [if_pos rfl]
  first
   |exact wpAny_bind (wpAny_rule (wpAny_pure ⟨_,rfl,wpAny_pure (h1 hw)⟩))
   |exact wpAny_bind (wpAny_rule (wpAny_bind (wpAny_pure (wpAny_pure ⟨_,rfl,wpAny_pure (h1 hw)⟩))))
 ·rw [if_neg hw]
  obtain ⟨hz,hq⟩:=h2 hw
  have hok:sizeOk (.seq ((List.range n).filterMap fun (k:Nat)=>items[(lo+(k:Int)*step).toNat]?).toArray):=by
   show (_:Array Value).size≤sizeLine
   rw [List.size_toArray];exact hz
  first
   |exact wpAny_bind (m:=Builtin.Tuple.tupleExact _) (wpAny_newObj_type (wpAny_pure ⟨_,rfl,wpAny_pure hq⟩) hok)
   |exact wpAny_bind (m:=Builtin.Tuple.tupleExact _) (wpAny_newObj_type (wpAny_bind (wpAny_pure (wpAny_pure ⟨_,rfl,wpAny_pure hq⟩))) hok)
   |exact wpAny_bind (wpAny_bind (m:=Builtin.Tuple.tupleExact _) (wpAny_newObj_type (wpAny_pure (wpAny_pure ⟨_,rfl,wpAny_pure hq⟩)) hok))
theorem qJ {s:Shared} {sl:Addr} {n:Nat} {t:Tok} {Q:Int×Int×Nat->Shared->Prop} (hs:s.heap.IsSliceOf sl .none .none (.int (-1) t)) (h:Q ((n:Int)-1,-1,n) s):wpAny (model prog w) A (Builtin.Slice.sliceApplied (.ref sl) (pure (n:Int))) Q E s:=by
 obtain ⟨so,hso,hsc,hsd⟩:=id hs
 unfold Builtin.Slice.sliceApplied Builtin.Slice.sliceFields
 refine wpAny_bind (wpAny_bind (wpAny_field hso hsd (x:=.none) rfl (wpAny_bind (wpAny_field hso hsd (x:=.none) rfl (wpAny_bind (wpAny_field hso hsd (x:=.int (-1) t) rfl (wpAny_pure ?_)))))))
 refine wpAny_bind (slicePart_int ?_)
 show wpAny _ _ (if ((-1:Int) == 0)=true then _ else _) _ _ s
 rw [if_neg (by decide)]
 refine wpAny_bind (slicePart_none (wpAny_bind (slicePart_none (wpAny_bind (wpAny_pure ?_)))))
 have e:Builtin.Slice.sliceAdjust none none (-1) (n:Int)=((n:Int)-1,-1):=rfl
 have p:Builtin.Slice.slicePlaces ((n:Int)-1) (-1) (-1)=n:=by
  unfold Builtin.Slice.slicePlaces
  rw [if_neg (by decide),show (- -1:Int)=1 by decide]
  split <;> omega
 show wpAny _ _ (match Builtin.Slice.sliceAdjust none none (-1) (n:Int) with|(lo,hi)=>pure (lo,(-1:Int),Builtin.Slice.slicePlaces lo hi (-1))) _ _ s
 rw [e]
 show wpAny _ _ (pure ((n:Int)-1,(-1:Int),Builtin.Slice.slicePlaces ((n:Int)-1) (-1) (-1))) _ _ s
 rw [p]
 exact wpAny_pure h
theorem _root_.List.filterMap_congr' {α β:Type} {f g:α->Option β}:∀ {l:List α},(∀ x∈l,f x=g x)->l.filterMap f=l.filterMap g
 |[],_=>rfl
 |a::r,h=>by rw [List.filterMap_cons,List.filterMap_cons,h a (by simp),List.filterMap_congr' (l:=r) fun x hx=>h x (by simp [hx])]
theorem zx (xs:List Value):((List.range xs.length).filterMap fun (k:Nat)=>xs.toArray[(((xs.length:Nat):Int)-1+(k:Int) * -1).toNat]?)=xs.reverse:=by
 have e:(List.range xs.length).filterMap (fun (k:Nat)=>xs.toArray[(((xs.length:Nat):Int)-1+(k:Int) * -1).toNat]?)=((List.range xs.length).map fun k=>xs.length-1-k).filterMap (xs.toArray[·]?):=by
  rw [List.filterMap_map]
  refine List.filterMap_congr' fun k hk=>?_
  have:=List.mem_range.mp hk
  have q:((xs.length:Int)-1+(k:Int) * -1).toNat=xs.length-1-k:=by omega
  rw [q];rfl
 rw [e,PySem.W.krv_range,List.filterMap_reverse]
 have:=PySem.W.krv_all xs.toArray
 rw [List.size_toArray] at this
 rw [this]
end HT
namespace L2
open PySem PySem.Spec PyProof.Rows PySem.SeqAt
def uM (K:PySem.W.Frag):R2:=fun x y H Q=>∃ a b xs ys,x=.ref a/\y=.ref b/\bB K H a xs/\bB K H b ys/\xs.length+ys.length≤sizeLine/\(xs=[]->Q (.ref b) H)/\(ys=[]->Q (.ref a) H)/\∀ p,H p=none->Q (.ref p) (upd H p (.tup (xs++ys)))
theorem jX:iD X (binaryOp .Add) (uM X.K):=by
 intro Z s σ H x y v u Q I rx ry h
 obtain ⟨a,b,xs,ys,rfl,rfl,ha,hb,hz,q0,q1,q2⟩:=h
 by_cases hx:xs=[]
 ·subst hx
  cases (show v=Value.ref a from rx)
  cases (show u=Value.ref b from ry)
  obtain ⟨its,r1,p1,_⟩:=I.tuple ha
  obtain ⟨its2,r2,p2,_⟩:=I.tuple hb
  cases r1
  exact HT.BW p1 p2 ⟨.ref b,H,I,rfl,q0 rfl⟩
 ·refine Aq Z s σ H _ _ v u Q I rx ry ⟨a,b,xs,ys,rfl,rfl,ha,hb,hx,hz,q1,fun _=>q2⟩
def Fz (K:PySem.W.Frag):V->Option Int->Option Int->Hp->VK->Prop:=fun x lo hi H Q=>∃ a xs,x=.ref a/\bB K H a xs/\(gf xs lo hi=xs->Q (.ref a) H)/\∀ p,H p=none->Q (.ref p) (upd H p (.tup (gf xs lo hi)))
theorem d_ {X:Cx}:Q5 X (Fz X.K):=by
 intro Z s σ H x v vl vu lo hi sl Q I rx hs pl pu h
 obtain ⟨a,xs,rfl,hx,q1,q2⟩:=h
 by_cases hw:HT.dR xs.length 0 lo=0/\HT.dR xs.length xs.length hi=xs.length
 ·cases (show v=Value.ref a from rx)
  obtain ⟨its,r,ht,hz⟩:=I.tuple hx
  have hlen:its.toArray.size=xs.length:=by rw [List.size_toArray];exact r.length.symm
  refine ⟨"tuple",_,PyProof.Rows.slot_tuple_getitem.lookup,ht.typeIs,?_⟩
  have e:gf xs lo hi=xs:=by
   unfold gf
   rw [hw.1,hw.2,List.drop_zero,Nat.sub_zero,List.take_length]
  refine HT.oO ht hs (fun A' Q' E' q'=>HT.gW hs pl pu q') (fun _=>⟨.ref a,H,I,rfl,q1 e⟩) fun hn=>(hn ?_).elim
  rw [hlen,hw.1,hw.2]
  simp
 ·exact Ip Z s σ H _ v vl vu lo hi sl Q I rx hs pl pu ⟨a,xs,rfl,hx,hw,q2⟩
def Vm (K:PySem.W.Frag) (te:TE):TE:=fun σ H Q=>te σ H fun x H1=>∃ a xs,x=.ref a/\bB K H1 a xs/\∀ p,H1 p=none->Q (.ref p) (upd H1 p (.tup xs.reverse))
theorem pH {X:Cx} {e o:Expr} {te:TE} {pos p2:Pos} (he:PE X e te) (ho:PE X o (tC (.int (-1)))) {ops:Value->Value->List Value} (hop:∀ v i,subscripted (.Slice none none (some o) p2) false v i=operate (ops v i) (getItem v i)):PE X (.Subscript e (.Slice none none (some o) p2) pos) (Vm X.K te):=by
 intro Z s σ H Q I h
 refine Subscript_ (b_ (he Z s σ H _ I h) fun v s1 ⟨x,H1,I1,r1,q1⟩=>?_)
 obtain ⟨a,xs,rfl,hx,q⟩:=q1
 cases (show v=Value.ref a from r1)
 refine wpAny_Slice ?_
 rw [evalPart_none]
 refine wpAny_pure (wpAny_pure ?_)
 rw [evalPart_some]
 refine b_ (ho Z s1 σ H1 (fun v H'=>v=.int (-1)/\H'=H1) I1 ⟨rfl,rfl⟩) fun u s3 ⟨x3,H3,I3,r3,e3,e4⟩=>?_
 subst e3 e4
 obtain ⟨t,rfl⟩:=r3
 have I4:Inv X Z σ H3 { s3 with heap:=s3.heap.push { cls:=.type "slice",data:=.fields #[.none,.none,.int (-1) t] } }:=I3.kept (t':=s3.toks) fun b ob q=>Heap.get?_push_of_some _ q
 obtain ⟨its,r,ht,hz⟩:=I4.tuple hx
 have hlen:its.toArray.size=its.length:=List.size_toArray ..
 show wpAny (model X.prog X.w) X.A (subscriptTail e (.Slice none none (some o) p2) (.ref a) (.ref s3.heap.objs.size)) (EP X Z σ Q) X.xe { s3 with heap:=s3.heap.push { cls:=.type "slice",data:=.fields #[.none,.none,.int (-1) t] } }
 refine tail_any ht.typeIs PyProof.Rows.slot_tuple_getitem.lookup ?_ (hop _ _)
 have hs:(s3.heap.push { cls:=.type "slice",data:=.fields #[.none,.none,.int (-1) t] }).IsSliceOf s3.heap.objs.size .none .none (.int (-1) t):=Heap.IsSliceOf.new ..
 refine HT.oO (s:={ s3 with heap:=s3.heap.push { cls:=.type "slice",data:=.fields #[.none,.none,.int (-1) t] } }) ht hs (fun A' Q' E' q'=>HT.qJ hs q') (fun hw=>?_) fun hnw=>?_
 ·rw [Bool.and_eq_true,Bool.and_eq_true] at hw
  cases hw.1.2
 ·rw [hlen,HT.zx]
  have hl:=r.length
  refine ⟨by rw [List.length_reverse];omega,?_⟩
  refine ⟨.ref _,_,I4.laid (t':=s3.toks) (o:=.tup xs.reverse) (fun b ob q=>Heap.get?_push_of_some _ q) (Nat.le_refl _) ?_,rfl,q _ (I4.hok.fresh (Nat.le_refl _))⟩
  refine ⟨by rw [List.length_reverse];exact hz,_,?_,IsTup.new _ _⟩
  clear q hx ht hlen hl hz hnw
  induction r with
  |nil=>exact .nil
  |cons r1 r ih=>rw [List.reverse_cons,List.reverse_cons];exact Vals.append ih (.cons r1 .nil)
theorem Inv.turnLaid {X:Cx} {s:Shared} {h':Heap} {a:Addr} {o:HO} {t':Nat} {fp:List Addr} (I:Inv X Z σ H s) (k:∀ b u,b∉fp->s.heap.get? b=some u->h'.get? b=some u) (ke:∀ b∈fp,∃ u,h'.get? b=some u) (hf:∀ b∈fp,jH X Z H b) (hp:s.heap.objs.size≤a) (new:cI X.prog X.w (upd H a o) h' a o) :
 Inv X Z σ (upd H a o) { s with heap:=h',toks:=t' }:=by
 have hn:H a=none:=I.hok.fresh hp
 have off:∀ b u,H b=some u->b∉fp:=fun b u e z=>by rw [(hf b z).1] at e;cases e
 have up:∀ b u,H b=some u->(upd H a o) b=some u:=fun b u e=>by rw [aK (aP e hn)];exact e
 refine I.step (g':=s.gens) (d':=s.drawn) (ch:=fp) (fun b hb=>?_) (fun b u _ _ hc e _=>k b u hc e) (fun b u _ _ hc e _=>⟨u.slots,k b u hc e⟩) (fun b u _ e n=>?_) (fun b u hc e=>⟨u,k b u hc e⟩) (fun b xs e=>up b _ e) (fun b u z e=>up b _ e) (fun b ps e=>⟨#[],by rw [up b _ e];simp⟩) (fun m hm=>?_) (fun b u e=>?_) I.bare
 ·obtain ⟨_,f1,_,f3,f4,f5⟩:=hf b hb
  exact ⟨f3,f1,f4,f5⟩
 ·rw [aK (Nat.ne_of_lt (Nat.lt_of_lt_of_le (Heap.lt_size e) hp))];exact n
 ·obtain ⟨u,es,ep,ho,r⟩:=hm
  exact ⟨u,es,ep,k _ u (fun z=>(hf _ z).2.1 rfl) ho,r⟩
 ·by_cases hb:b=a
  ·subst hb;rw [ak] at e;cases e;exact new
  ·rw [aK hb] at e
   refine (I.hok b u e).stay (fun c v hc q=>k c v ?_ q) (fun c q=>up c _ q) fun c xs q=>up c _ q
   rcases hc with rfl|z
   ·exact off _ u e
   ·exact off c _ z
theorem gB (hit:s.heap.IsTupleIter it l i) (hl:s.heap.IsTuple l items) (hx:items[i]?=some x)
 (hQ:∀ g,g.IsTupleIter it l (i+1)->Heap.SameBut it s.heap g->Q x { s with heap:=g }):wpAny (model prog w) A (Builtin.SmallTypes.nextOf (.ref it)) Q E s:=by
 obtain ⟨o,ho,hc,hd⟩:=id hit
 obtain ⟨ol,hol,_,nl,hdl⟩:=hl
 unfold Builtin.SmallTypes.nextOf
 refine wpAny_bind (wpAny_callSpecial?_slot (name:=Str.ofString "__next__") hit.typeIs F.slot_tuple_iterator_next (wpAny_call_entry F.slot_tuple_iterator_next hit.typeIs F.entry_tuple_iterator_next ?_ (F.args_tuple_iterator_next_1 _)))
 show wpAny _ _ (field (.ref it) 0 >>= _) _ _ s
 refine wpAny_bind (wpAny_field ho hd (x:=.ref l) rfl ?_)
 show wpAny _ _ (if (Value.ref l == Value.none)=true then _ else _) _ _ s
 rw [if_neg (show ¬ ((Value.ref l == Value.none)=true) from nofun)]
 show wpAny _ _ (field (.ref it) 1 >>= _) _ _ s
 refine wpAny_bind (wpAny_field ho hd (x:=.int i 0) rfl ?_)
 show wpAny _ _ (seqItems? (.ref l) >>= _) _ _ s
 refine wpAny_bind (wpAny_seqItems hol hdl ?_)
 simp only [Int.toNat_natCast,hx]
 refine wpAny_bind (wpAny_setField ho hd (by simp) (wpAny_pure ⟨x,rfl,wpAny_pure (hQ _ ⟨_,Heap.get?_update_self _ ho (Obj.isFreed_of_fields (Obj.data_mapFields hd _)),(Obj.cls_mapFields ..).trans hc,by rw [Obj.data_mapFields hd];simp [rawInt]⟩ (Heap.SameBut.update ..))⟩))
theorem gn (hh:A.handled=none) (hit:s.heap.IsTupleIter it l i) (hl:s.heap.IsTuple l items) (hx:items[i]?=none)
 (hE:∀ g e,Heap.ExtBut it s.heap g->(∃ o,g.get? e=some o/\o.cls=.type "StopIteration")->E (.ref e) { s with heap:=g }):wpAny (model prog w) A (Builtin.SmallTypes.nextOf (.ref it)) Q E s:=by
 obtain ⟨o,ho,hc,hd⟩:=id hit
 obtain ⟨ol,hol,_,nl,hdl⟩:=hl
 unfold Builtin.SmallTypes.nextOf
 refine wpAny_bind (wpAny_callSpecial?_slot (name:=Str.ofString "__next__") hit.typeIs F.slot_tuple_iterator_next (wpAny_call_entry F.slot_tuple_iterator_next hit.typeIs F.entry_tuple_iterator_next ?_ (F.args_tuple_iterator_next_1 _)))
 show wpAny _ _ (field (.ref it) 0 >>= _) _ _ s
 refine wpAny_bind (wpAny_field ho hd (x:=.ref l) rfl ?_)
 show wpAny _ _ (if (Value.ref l == Value.none)=true then _ else _) _ _ s
 rw [if_neg (show ¬ ((Value.ref l == Value.none)=true) from nofun)]
 show wpAny _ _ (field (.ref it) 1 >>= _) _ _ s
 refine wpAny_bind (wpAny_field ho hd (x:=.int i 0) rfl ?_)
 show wpAny _ _ (seqItems? (.ref l) >>= _) _ _ s
 refine wpAny_bind (wpAny_seqItems hol hdl ?_)
 simp only [Int.toNat_natCast,hx]
 refine wpAny_bind (wpAny_rule (wpAny_bind (wpAny_setField ho hd (by simp) ?_)))
 show wpAny _ _ (newExc (.type "StopIteration") [] >>= _) _ _ _
 refine wpAny_bind ?_
 simp only [newExc,newTuple]
 refine wpAny_bind (wpAny_newObj_type ?_ (by size_fits))
 refine wpAny_bind (m:=firstArgMember _ _) (wpAny_of_eq (a:=Value.none) (by first|rfl|(simp only [firstArgMember];rfl)) (wpAny_newObj_type ?_ (by size_fits)))
 simp only [raiseNew]
 refine wpAny_bind (wpAny_handled ?_)
 first|rw [show A.in1.handled=none from hh]|rw [hh]
 exact wpAny_bind (wpAny_pure (wpAny_throw (hE _ _ (((Heap.SameBut.update ..).extBut.push _).push _) ⟨_,Heap.get?_push_size _ rfl,rfl⟩)))
theorem Hy (hh:A.handled=none) (it l:Addr) (hne:l≠it) (items:Array Value):Draws prog w A it [it,l] items.size (fun i v=>items[i]?=some v) (fun i h=>h.IsTupleIter it l i/\h.IsTuple l items) where
 live:=fun _ _ st=>let ⟨o,ho,_⟩:=st.1;⟨o,ho⟩
 frame:=fun _ _ _ st hk=>⟨st.1.at fun o e=>hk it (by simp) o e,let ⟨o,e,r⟩:=st.2;⟨o,hk l (by simp) o e,r⟩⟩
 item:=fun i s Q E hi st hQ=>gB st.1 st.2 (x:=items[i]) (by simp [hi]) fun g g1 g2=>hQ _ g s.toks (by simp [hi]) ⟨g1,let ⟨o,e,r⟩:=st.2;⟨o,(g2.2 l hne).trans e,r⟩⟩ g2
 done:=fun s Q E st hE=>gn hh st.1 st.2 (by simp) hE
theorem vR (l:Addr) (items:Array Value) (n:Nat) (dct:Option Addr) (sl:Array (Option Value)) :
 Meets (Builtin.«enumerate.__new__» ⟨[.type "enumerate",.ref l],[]⟩) (fun _ R s=>s.heap.get? l=some { cls:=.type "tuple",dict:=dct,data:=.seq items n,slots:=sl }/\
  R (.ok (.ret (.ref (s.heap.push { cls:=.type "tuple_iterator",data:=.fields #[.ref l,.int 0 0] }).objs.size)))
    { s with heap:=(s.heap.push { cls:=.type "tuple_iterator",data:=.fields #[.ref l,.int 0 0] }).push { cls:=.type "enumerate",data:=.fields #[.none,.bool false,.ref s.heap.objs.size,rawInt 0,.none,.none] } }):=
 .of_wp fun prog w A R s h=>by
  obtain ⟨hp,g,d,tk,os⟩:=s
  obtain ⟨hl,h⟩:=h
  have hsub:=sub_enumerate
  have hL:Heap.IsTuple (Shared.heap ⟨hp,g,d,tk,os⟩) l items:=⟨_,hl,rfl,n,rfl⟩
  wp_walk using AutoSeq1.wpAny_loadPart' hl
  refine wpAny_stack_any fun st=>wpAny_pure ?_
  split
  ·rename_i c _ _ _ _ _
   cases (c == Value.type "enumerate") <;> (wp_walk using AutoSeq1.wpAny_loadPart' hl,wpAny_pyIter_tuple hL;exact ⟨_,rfl,h⟩)
  ·wp_walk using AutoSeq1.wpAny_loadPart' hl,wpAny_pyIter_tuple hL
   exact ⟨_,rfl,h⟩
theorem sH (hL:s.heap.IsTuple l items)
 (h:∀ g,IsEnum g (s.heap.objs.size+1) s.heap.objs.size 0 .none->g.IsTupleIter s.heap.objs.size l 0->(∀ b o,s.heap.get? b=some o->g.get? b=some o)->Q (.ref (s.heap.objs.size+1)) { s with heap:=g }):wpAny (model prog w) A (call (.type "enumerate") [.ref l]) Q E s:=by
 obtain ⟨⟨_,dd,_,sl⟩,ho,rfl,n,rfl⟩:=id hL
 refine callType_new F.called_enumerate (by decide) (F.typeCall_enumerate_1 _) (F.newCall_enumerate_1 _) (fun obj=>F.args_object_init_2 obj _) F.entry_enumerate_new (vR l items n dd sl) ⟨ho,?_⟩
 have hz:(s.heap.push { cls:=.type "tuple_iterator",data:=.fields #[.ref l,.int 0 0] }).objs.size=s.heap.objs.size+1:=Heap.size_push ..
 have he:=Heap.get?_push_size (s.heap.push { cls:=.type "tuple_iterator",data:=.fields #[.ref l,.int 0 0] }) (o:={ cls:=.type "enumerate",data:=.fields #[.none,.bool false,.ref s.heap.objs.size,rawInt 0,.none,.none] }) rfl
 rw [hz] at he
 show _/\_
 rw [hz]
 exact ⟨⟨_,he,rfl⟩,h _ he ⟨_,Heap.get?_push_of_some _ (Heap.get?_push_size _ rfl),rfl,rfl⟩ fun b o x=>Heap.get?_push_of_some _ (Heap.get?_push_of_some _ x)⟩
def Jo (K:PySem.W.Frag) (a:Addr):It:=
 ⟨fun i H=>∃ xs x,bB K H a xs/\xs[i]?=some x,fun i H v H'=>∃ p x,H p=none/\v=.ref p/\(∀ xs,bB K H a xs->xs[i]?=some x)/\H'=upd H p (.tup [.int i,x]),fun i H=>∃ xs,bB K H a xs/\xs.length≤i⟩
theorem tR {P:Program} {w:World} {K:PySem.W.Frag} {elts:List Expr} {k1} {pos:Pos} (a e it:Addr) (hei:e≠it):Turn P w K (.Tuple elts k1 pos) (Jo K a) [e,it] e (fun i h=>(∃ old,IsEnum h e it i old)/\h.IsTupleIter it a i) where
 mem:=by simp
 obj:=fun i h st b hb=>by
  obtain ⟨⟨old,h1⟩,o,h2,_,h3⟩:=st
  rcases List.mem_cons.mp hb with rfl|hb
  ·exact ⟨_,h1,fun v z=>by cases (show Data.fields _=Data.cell v from z)⟩
  ·cases List.mem_singleton.mp hb
   exact ⟨o,h2,fun v z=>by rw [h3] at z;cases z⟩
 keep:=fun i h h' st k=>⟨let ⟨old,h1⟩:=st.1;⟨old,k e (by simp) _ h1⟩,st.2.at fun o z=>k it (by simp) o z⟩
 item:=by
  intro X hP hw hK hc i Z s σ H E I hf st hg
  subst hP hw hK
  obtain ⟨xs,x,hq,hx⟩:=hg
  obtain ⟨its,rv,p,hz⟩:=I.tuple hq
  obtain ⟨u,hu,ru⟩:=rv.get hx
  obtain ⟨⟨old,he⟩,ht⟩:=st
  have hit:s.heap.IsTuple a its.toArray:=p
  have han:a≠it:=by
   rintro rfl
   obtain ⟨o1,h1,h2,_⟩:=id hit
   obtain ⟨o2,h3,h4,_⟩:=id ht
   rw [h1] at h3;cases h3
   rw [h2] at h4;exact absurd (Value.type.inj h4) (by decide)
  have hae:a≠e:=by
   rintro rfl
   obtain ⟨o1,h1,h2,_⟩:=id hit
   rw [he] at h1;cases h1
   exact absurd (Value.type.inj h2) (by decide)
  have D:=Hy (prog:=X.prog) (w:=X.w) (A:=X.A.in1) (I.ok.hd hc) it a han its.toArray
  have hlt:i<its.toArray.size:=by
   have:=(List.getElem?_eq_some_iff.mp hx).1
   have hl:=rv.length
   rw [List.size_toArray];omega
  refine wpAny_pyNext_enum_itemD D he ⟨ht,hit⟩ hlt hei (by simp [hei,Ne.symm hae]) fun y g tk hy ho hst' htup hsz hk=>?_
  have e1:y=u:=by
   have:its.toArray[i]?=some u:=by simpa using hu
   rw [this] at hy;exact (Option.some.inj hy).symm
  subst e1
  refine ⟨_,rfl,?_⟩
  have helt:e<s.heap.objs.size:=Heap.lt_size he
  have hilt:it<s.heap.objs.size:=let ⟨o,z,_⟩:=ht;Heap.lt_size z
  have I1:Inv X Z σ (upd H s.heap.objs.size (.tup [.int i,x])) { s with heap:=g,toks:=tk+1 }:=by
   refine I.turnLaid (fp:=[e,it]) (fun b o hb z=>hk b o (fun q=>hb (by simp [q])) (fun q=>hb (by simp [q])) z) (fun b hb=>?_) hf (Nat.le_refl _) ?_
   ·rcases List.mem_cons.mp hb with rfl|hb
    ·exact ⟨_,ho⟩
    ·cases List.mem_singleton.mp hb
     exact let ⟨o,z,_⟩:=hst'.1;⟨o,z⟩
   ·exact ⟨by show 2≤sizeLine;decide,[.int i tk,y],.cons ⟨_,rfl⟩ (.cons ru .nil),⟨_,htup,rfl,_,rfl⟩⟩
  have hno:∀ b∈[e,it],(upd H s.heap.objs.size (.tup [.int i,x])) b=none:=fun b hb=>by
   have hbl:b<s.heap.objs.size:=by
    rcases List.mem_cons.mp hb with rfl|hb
    ·exact helt
    ·cases List.mem_singleton.mp hb;exact hilt
   rw [aK (Nat.ne_of_lt hbl)]
   exact (hf b hb).1
  refine wpAny_letOwnedTupleGo_enum ho fun g2 he2 hs2=>?_
  obtain ⟨f0,f1,f2,f3,f4,f5⟩:=hf e (by simp)
  refine ⟨.ref s.heap.objs.size,_,I1.turned (t':=tk+1) (fun b o hb z=>(hs2.2 b hb).trans z) (hno e (by simp)) f1 f3 f4 f5,rfl,⟨s.heap.objs.size,x,I.hok.fresh (Nat.le_refl _),rfl,fun ys hy=>by rw [I.tuple_inj hy hq];exact hx,rfl⟩,⟨⟨_,by simpa using he2⟩,?_⟩,hno⟩
  exact hst'.1.at fun o z=>(hs2.2 it (Ne.symm hei)).trans z
 done:=by
  intro X hP hw hK hc i Z s σ H E I hf st hg
  subst hP hw hK
  obtain ⟨xs,hq,hx⟩:=hg
  obtain ⟨its,rv,p,hz⟩:=I.tuple hq
  obtain ⟨⟨old,he⟩,ht⟩:=st
  obtain ⟨f0,f1,f2,f3,f4,f5⟩:=hf it (by simp)
  have hl:=rv.length
  have hT:s.TypeIs (.ref e) "enumerate":=⟨_,he,rfl⟩
  unfold pyNext
  refine wpAny_bind (wpAny_attempt (wpAny_callSpecial?_slot (name:=Str.ofString "__next__") hT F.slot_enumerate_next (wpAny_call_entry F.slot_enumerate_next hT F.entry_enumerate_next ?_ (F.args_enumerate_next_1 _))))
  show wpAny _ _ (field (.ref e) 2 >>= _) _ _ _
  refine wpAny_bind (wpAny_field he rfl (x:=.ref it) rfl (wpAny_bind (gn (A:=X.A.in1) (I.ok.hd hc) ht (show s.heap.IsTuple a its.toArray from p) (by simp;omega) fun g x ex hx'=>?_)))
  obtain ⟨o,ho,hcl⟩:=hx'
  exact wpAny_bind (wpAny_isInstance (T:="StopIteration") (b:=true) ⟨o,ho,hcl⟩ isSubtype_stop (wpAny_pure ⟨rfl,I.turned (t':=s.toks) (fun b o hb e=>ex b o hb e) f0 f1 f3 f4 f5⟩))
 self:=fun _ _ _ _ _ st h=>let ⟨_,he⟩:=st.1;wpAny_pyIter_enum he h
def Jr (K:PySem.W.Frag) (ta:TA):TI:=fun σ H R=>ta σ H fun vs H1=>∃ a,vs=[.ref a]/\(∃ xs,bB K H1 a xs)/\R (Jo K a) H1
theorem zy {X:Cx} {elts:List Expr} {k1} {pt:Pos} {a:Expr} {ta:TA} {p pos:Pos} (hg:Gl X "enumerate") (hm:X.mg "enumerate" = none) (hv:bootBuiltins "enumerate" = some (.type "enumerate")) (ha:PA X [a] ta) (hs:starEach [a] X.env=[(false,eval a X.env)]:=by rfl):PI X (.Tuple elts k1 pt) (.Call (.Name "enumerate" p) [a] [] pos) (Jr X.K ta):=by
 intro Z s σ H R I h
 refine Call_ (fG I hg hm hv (PyProof.Rows.callWith_type1 (b_ (ha pos Z s σ H _ I h) fun us s1 ⟨vs,H1,I1,r1,q1⟩=>?_) hs rfl))
 obtain ⟨l,rfl,⟨xs,hq⟩,q⟩:=q1
 obtain ⟨u,rfl,e⟩:=vals1 r1
 cases (show u=Value.ref l from e)
 obtain ⟨its,rv,hp,hz⟩:=I1.tuple hq
 refine sH (show s1.heap.IsTuple l its.toArray from hp) fun g he hi hk=>wpAny_pyIter_enum he ?_
 refine ⟨s1.heap.objs.size+1,[s1.heap.objs.size+1,s1.heap.objs.size],_,_,H1,rfl,I1.kept (t':=s1.toks) hk,tR l _ s1.heap.objs.size (Nat.succ_ne_self _),⟨⟨_,he⟩,hi⟩,fun b hb=>?_,q⟩
 rcases List.mem_cons.mp hb with rfl|hb
 ·exact I1.fpOk (Nat.le_succ _) (I1.hok.fresh (Nat.le_succ _))
 ·cases List.mem_singleton.mp hb
  exact I1.fpOk (Nat.le_refl _) (I1.hok.fresh (Nat.le_refl _))
theorem vM {K:PySem.W.Frag} {a:Addr} {xs:List V} {g:TG} {tb:TS} {D:Ends} {σ:St} {H:Hp} (Pv:Nat->St->Hp->Prop) (h0:Pv 0 σ H) (hl:∀ i σ H,i≤xs.length->Pv i σ H->bB K H a xs)
 (hs:∀ i x σ H p,xs[i]?=some x->Pv i σ H->H p=none->g (.ref p) σ (upd H p (.tup [.int i,x])) fun σ2 H2=>tb { D with nx:=Pv (i+1),ct:=Pv (i+1),bk:=D.nx } σ2 H2)
 (hd:∀ σ H,Pv xs.length σ H->D.nx σ H) :
 ∃ W:Nat->Nat->St->Hp->Prop,(∃ m,W 0 m σ H)/\∀ i m σ H,W i m σ H->((Jo K a).stop i H/\D.nx σ H)∨((Jo K a).go i H/\∃ N:St->Hp->Prop,(∀ σ' H',N σ' H'->∃ m',m'<m/\W (i+1) m' σ' H')/\∀ x H',(Jo K a).yld i H x H'->g x σ H' fun σ2 H2=>tb { D with nx:=N,ct:=N,bk:=D.nx } σ2 H2):=by
 refine ⟨fun i m σ H=>m=xs.length-i/\i≤xs.length/\Pv i σ H,⟨xs.length,by simp,Nat.zero_le _,h0⟩,?_⟩
 rintro i m σ H ⟨rfl,hi,p⟩
 have q:=hl i σ H hi p
 by_cases hlt:i<xs.length
 ·refine .inr ⟨⟨xs,xs[i],q,by simp [hlt]⟩,Pv (i+1),fun σ' H' z=>⟨xs.length-(i+1),by omega,rfl,hlt,z⟩,?_⟩
  rintro x H' ⟨p',y,hn,rfl,hy,rfl⟩
  exact hs i y σ H p' (hy xs q) p hn
 ·have e:i=xs.length:=by omega
  subst e
  exact .inl ⟨⟨xs,q,Nat.le_refl _⟩,hd σ H p⟩
theorem fX:bootBuiltins "enumerate" = some (.type "enumerate"):=by decide +kernel
def fQ (h:Heap) (H:Hp) (g:Heap) (e:Addr) (cls:Value) (dd:Option Addr):Prop:=
 ∃ oe vs,h.get? e=some oe/\oe.cls=cls/\oe.dict=dd/\oe.data=.fields vs/\g.get? e=none/\H e=none/\
   (vs[1]?=some .none∨∃ T oT ts,vs[1]?=some (.ref T)/\T≠e/\h.get? T=some oT/\oT.data=.fields ts/\ts[3]?=some .none/\g.get? T=none/\H T=none)
theorem fQ.mono (x:fQ h H g e cls dd) (hl:∀ b,g.get? b=none->g'.get? b=none):fQ h H g' e cls dd:=by
 obtain ⟨oe,vs,h1,h2,h3,h4,h5,h6,h7⟩:=x
 refine ⟨oe,vs,h1,h2,h3,h4,hl _ h5,h6,?_⟩
 rcases h7 with h7|⟨T,oT,ts,a,b,c,d,f,gT,i⟩
 ·exact .inl h7
 ·exact .inr ⟨T,oT,ts,a,b,c,d,f,hl _ gT,i⟩
theorem vg (f:Array Value->Array Value) (o:Obj):(Obj.mapFields f o).dict=o.dict:=by
 obtain ⟨c,d,da,sl⟩:=o
 cases da <;> rfl
theorem q9 (hfr:A.frames=some (env::outer)) (hl:s.heap.FunFrames base (env::outer)) (hf:env.frame=some L)
 (he:s.heap.get? e=some oe) (hd:oe.data=.fields vs) (hsz:1<vs.size)
 (h:∀ (h':Heap) (T:Addr) (oe' oT:Obj) (vs' ts:Array Value),s.heap.objs.size≤T->h'.get? e=some oe'->oe'.cls=oe.cls->oe'.dict=oe.dict->oe'.data=.fields vs'->vs'[1]?=some (.ref T)->h'.get? T=some oT->oT.data=.fields ts->ts[3]?=some .none->
  (∀ b o,b≠e->b∉(env::outer).filterMap (·.frame)->s.heap.get? b=some o->h'.get? b=some o)->(∀ b o,b≠e->s.heap.get? b=some o->∃ sl,h'.get? b=some { o with slots:=sl })->Q () { s with heap:=h' }) :
 wpAny M A (do let a ← frameOf env;let pl ← entryPlaceOf L hadNext;let b ← EntryCells.newEntry head a .none (rawInt L) .none pl;setField (.ref e) 1 b) (fun _ s'=>wpAny M A (setFlight (.ref e) none) Q E s') E s:=by
 have hene:e∉(env::outer).filterMap (·.frame):=fun hm=>by
  obtain ⟨_,o,ho,hnf⟩:=hl.mem hm
  rw [he] at ho
  cases ho
  exact hnf vs hd
 refine wpAny_bind (wpAny_frameOf_fun hfr hl hf fun g hs=>wpAny_bind (wpAny_entryPlaceOf fun pl hpl=>?_))
 unfold EntryCells.newEntry newFields
 refine wpAny_bind (wpAny_newObj_type ?_ (hpl.sizeOk5 _ _ _ _ _))
 have ge:g.get? e=some oe:=(hs.2.1 e hene).trans he
 generalize hto:([head,.ref L,.none,rawInt L,.none]++(if pl.isEmpty then List.replicate 6 Value.none else pl)).toArray=tv
 have t3:3<tv.size:=by
  rw [← hto]
  simp only [List.size_toArray,List.length_append,List.length_cons,List.length_nil]
  omega
 have pe:=Heap.get?_push_of_some (h:=g) { cls:=.type "traceback",dict:=none,data:=.fields tv } ge
 refine wpAny_setField pe hd hsz ?_
 have ne:g.objs.size≠e:=Nat.ne_of_gt (Heap.lt_size ge)
 have d3:=Obj.data_mapFields hd (·.setIfInBounds 1 (Value.ref g.objs.size))
 have e3:=Heap.get?_update_self (Obj.mapFields (·.setIfInBounds 1 (Value.ref g.objs.size))) pe (Obj.isFreed_of_fields d3)
 have T3:=(Heap.get?_update_other (g.push { cls:=.type "traceback",dict:=none,data:=.fields tv }) (Obj.mapFields (·.setIfInBounds 1 (Value.ref g.objs.size))) (Ne.symm ne)).trans (Heap.get?_push_size g rfl)
 unfold setFlight
 refine wpAny_bind (wpAny_field e3 d3 (x:=.ref g.objs.size) (by simp [hsz]) ?_)
 rw [if_pos (show (Value.ref g.objs.size != Value.none)=true by simp)]
 refine wpAny_setField T3 rfl t3 ?_
 have hgz:s.heap.objs.size≤g.objs.size:=Nat.le_of_eq hs.1.symm
 have keep:∀ b o,b≠e->g.get? b=some o->(((g.push { cls:=.type "traceback",dict:=none,data:=.fields tv }).update e (Obj.mapFields (·.setIfInBounds 1 (Value.ref g.objs.size)))).update g.objs.size (Obj.mapFields (·.setIfInBounds 3 ((none:Option Addr).elim Value.none fun f=>rawInt f)))).get? b=some o:=fun b o hb hg=>by
  rw [Heap.get?_update_other _ _ (Nat.ne_of_gt (Heap.lt_size hg)),Heap.get?_update_other _ _ (Ne.symm hb)]
  exact Heap.get?_push_of_some _ hg
 refine h _ g.objs.size _ _ _ _ hgz (by rw [Heap.get?_update_other _ _ ne];exact e3) (Obj.cls_mapFields _ _) (vg _ _) d3 (by simp [hsz]) (Heap.get?_update_self _ T3 (Obj.isFreed_of_fields (Obj.data_mapFields rfl _))) (Obj.data_mapFields rfl _) (by simp [t3]) (fun b o hb hbf hbo=>keep b o hb ((hs.2.1 b hbf).trans hbo)) fun b o hb hbo=>?_
 obtain ⟨sl,q⟩:=hs.2.2 b o hbo
 exact ⟨sl,keep b _ hb q⟩
theorem leaveX (I:Inv X Z σ H s) (hst:X.stack=X.env::X.outer) (hfm:X.env.frame=some X.env.locals) (hfr:A.frames=some X.stack) (hex:X.ex=[]) (x:fQ s.heap H X.s₀.heap e cls dd)
 (h:∀ h',fQ h' H X.s₀.heap e cls dd->Un (frs X.outer) [] X.H₀ H X.s₀.heap h'->iK X.prog X.w H h'->Q () { s with heap:=h' }):wpAny (model X.prog X.w) A (leaving X.env (.ref e)) Q E s:=by
 have hl:=I.stack
 rw [hst] at hfr hl
 obtain ⟨oe,vs,h1,h2,h3,h4,h5,h6,h7⟩:=x
 have free:∀ b∈(X.env::X.outer).filterMap (·.frame),H b=none:=fun b hb=>I.stkFree b (by rw [hst];exact hb)
 have fin:∀ (h':Heap) (T:Addr) (oe' oT:Obj) (vs' ts:Array Value),X.s₀.heap.get? T=none->T≠e->H T=none->h'.get? e=some oe'->oe'.cls=oe.cls->oe'.dict=oe.dict->oe'.data=.fields vs'->vs'[1]?=some (.ref T)->h'.get? T=some oT->oT.data=.fields ts->ts[3]?=some .none->
  (∀ b o,b≠e->(H b≠none∨∃ o₀,X.s₀.heap.get? b=some o₀)->b∉(X.env::X.outer).filterMap (·.frame)->s.heap.get? b=some o->h'.get? b=some o)->(∀ b o,(∃ o₀,X.s₀.heap.get? b=some o₀)->s.heap.get? b=some o->∃ sl,h'.get? b=some { o with slots:=sl })->Q () { s with heap:=h' }:=by
  intro h' T oe' oT vs' ts hT hTe hTn g1 g2 g3 g4 g5 g6 g7 g8 kp ks
  refine h h' ⟨oe',vs',g1,g2.trans h2,g3.trans h3,g4,h5,h6,.inr ⟨T,oT,ts,g5,hTe,g6,g7,g8,hT,hTn⟩⟩ ?_ ?_
  ·have B:=I.base
   rw [hex] at B
   have nl:∀ b o,X.s₀.heap.get? b=some o->b<X.s₀.heap.objs.size:=fun b o z=>Heap.lt_size z
   have ninF:∀ b,b<X.s₀.heap.objs.size->b∉frs X.outer->b∉(X.env::X.outer).filterMap (·.frame):=fun b hb hn hm=>by
    rw [List.filterMap_cons,hfm] at hm
    rcases List.mem_cons.mp hm with rfl|hm
    ·exact absurd (Nat.lt_of_lt_of_le hb I.ok.above) (Nat.lt_irrefl _)
    ·exact hn hm
   refine ⟨fun b o z n hb hx=>kp b o (fun q=>by subst q;rw [h5] at z;cases z) (.inr ⟨o,z⟩) (ninF b (nl b o z) hb) (B.keep b o z n hb hx),fun b o z n hb hx=>?_,B.free,fun b o z hx=>?_,B.tups,B.frzs,B.tbls⟩
   ·obtain ⟨sl,q⟩:=B.slot b o z n hb hx
    obtain ⟨sl',q'⟩:=ks b _ ⟨o,z⟩ q
    exact ⟨sl',q'⟩
   ·obtain ⟨o',q⟩:=B.there b o z hx
    obtain ⟨sl',q'⟩:=ks b _ ⟨o,z⟩ q
    exact ⟨_,q'⟩
  ·intro b u hb
   refine (I.hok b u hb).stay (fun c v hc q=>kp c v ?_ (.inl ?_) ?_ q) (fun _ q=>q) fun _ _ q=>q
   ·rintro rfl
    rcases hc with rfl|z
    ·rw [h6] at hb;cases hb
    ·rw [h6] at z;cases z
   ·rcases hc with rfl|z
    ·rw [hb];simp
    ·rw [z];simp
   ·intro hm
    have:=free c hm
    rcases hc with rfl|z
    ·rw [this] at hb;cases hb
    ·rw [this] at z;cases z
 unfold leaving noteFrame
 simp only [hfm]
 rcases h7 with h7|⟨T,oT,ts,t1,t2,t3,t4,t5,t6,t7⟩
 ·refine wpAny_bind (wpAny_bind (wpAny_field h1 h4 h7 ?_))
  rw [if_neg (by decide)]
  refine q9 hfr hl hfm h1 h4 (Array.getElem?_eq_some_iff.mp h7).1 fun h' T oe' oT vs' ts hT g1 g2 g3 g4 g5 g6 g7 g8 kp ks=>?_
  have hTe:T≠e:=fun q=>by subst q;exact absurd (Nat.lt_of_lt_of_le (Heap.lt_size h1) hT) (Nat.lt_irrefl _)
  exact fin h' T oe' oT vs' ts (Heap.get?_none_of_le (Nat.le_trans I.sz hT)) hTe (I.hok.fresh hT) g1 g2 g3 g4 g5 g6 g7 g8 (fun b o hb _ hm z=>kp b o hb hm z) fun b o hb z=>ks b o (fun q=>by subst q;obtain ⟨_,hb⟩:=hb;rw [h5] at hb;cases hb) z
 ·refine wpAny_bind (wpAny_bind (wpAny_field h1 h4 t1 ?_))
  rw [if_pos (show (Value.ref T != Value.none)=true by simp)]
  refine wpAny_bind (wpAny_field t3 t4 t5 ?_)
  rw [if_neg (show ¬ ((Value.none == rawInt X.env.locals)=true) by simp [rawInt])]
  refine wpAny_bind (wpAny_setField t3 t4 (Array.getElem?_eq_some_iff.mp t5).1 ?_)
  have other:∀ b,b≠T->(s.heap.update T (Obj.mapFields (·.setIfInBounds 3 Value.none))).get? b=s.heap.get? b:=fun b hb=>Heap.get?_update_other _ _ (Ne.symm hb)
  have noR:∀ b o,s.heap.get? b=some o->(∀ vs,o.data≠.fields vs)->b≠T:=fun b o hb hnf q=>by
   subst q
   rw [t3] at hb
   cases hb
   exact hnf ts t4
  refine q9 (s:={ s with heap:=s.heap.update T (Obj.mapFields (·.setIfInBounds 3 Value.none)) }) hfr (hl.of_keeps fun b o hb hnf=>⟨o,(other b (noR b o hb hnf)).trans hb,rfl⟩) hfm ((other e (Ne.symm t2)).trans h1) h4 (Array.getElem?_eq_some_iff.mp t1).1 fun h' T' oe' oT' vs' ts' hT g1 g2 g3 g4 g5 g6 g7 g8 kp ks=>?_
  have hT':s.heap.objs.size≤T':=by
   have z:(s.heap.update T (Obj.mapFields (·.setIfInBounds 3 Value.none))).objs.size=s.heap.objs.size:=Heap.size_update _ _ _
   exact Nat.le_trans (Nat.le_of_eq z.symm) hT
  have hTe:T'≠e:=fun q=>by subst q;exact absurd (Nat.lt_of_lt_of_le (Heap.lt_size h1) hT') (Nat.lt_irrefl _)
  refine fin h' T' oe' oT' vs' ts' (Heap.get?_none_of_le (Nat.le_trans I.sz hT')) hTe (I.hok.fresh hT') g1 g2 g3 g4 g5 g6 g7 g8 (fun b o hb hq hm z=>kp b o hb hm ((other b ?_).trans z)) fun b o hb z=>ks b o (fun q=>by subst q;obtain ⟨_,hb⟩:=hb;rw [h5] at hb;cases hb) ((other b ?_).trans z)
  ·rintro rfl
   rcases hq with hq|hq
   ·exact hq t7
   ·obtain ⟨_,hq⟩:=hq
    rw [t6] at hq;cases hq
  ·rintro rfl
   obtain ⟨_,hb⟩:=hb
   rw [t6] at hb;cases hb
def sW (P:Program) (w:World):rF:=fun outer H s E e s'=>∃ (ea:Addr) (cls:Value) (dd:Option Addr) (H':Hp),e=.ref ea/\s'.os=s.os/\AllBare s'.gens/\Un (frs outer) [] H H' s.heap s'.heap/\iK P w H' s'.heap/\fQ s'.heap H' s.heap ea cls dd/\E cls dd H'
theorem VP {P:Program} {w:World} {K:PySem.W.Frag} {mg:Str->Option Value} {base:Heap} {N:List Str} {qual:Str} {scope:Scope} {f:Addr} {cd:Value} {A:Around} {outer:List Env} {s:Shared} {H:Hp} {E:XK} {Z:List (Addr×Obj)} {σ:St} {H':Hp} {s':Shared} {e:Addr} {cls:Value} {dd:Option Addr} (I:Inv (iH (sW P w) P w K mg base N qual scope f cd A outer s H E) Z σ H' s') (x:fQ s'.heap H' s.heap e cls dd) (h:E cls dd H') :
 (iH (sW P w) P w K mg base N qual scope f cd A outer s H E).xe (.ref e) s':=
 leaveX I rfl rfl I.ok.frames rfl x fun h' x' u k=>⟨e,cls,dd,H',rfl,I.os,I.bare,u,k,x',h⟩
theorem Oz {P:Program} {w:World} {K:PySem.W.Frag} {mg:Str->Option Value} {base:Heap} {N:List Str} {qual:Str} {scope:Scope} {f:Addr} {cd:Value} {A:Around} {outer:List Env} {s:Shared} {H:Hp} {E:XK} {E':XK} (hE:∀ cls dd H',E' cls dd H'->E cls dd H'):eF (sW P w) (iH (sW P w) P w K mg base N qual scope f cd A outer s H E) E':=by
 intro Z σ H1 s1 e s' I h
 obtain ⟨ea,cls,dd,H',rfl,os,bare,un,hok,x,q⟩:=h
 obtain ⟨hh,g,d,t,os'⟩:=s'
 obtain rfl:os'=s1.os:=os
 have I':Inv (iH (sW P w) P w K mg base N qual scope f cd A outer s H E) Z σ H' ⟨hh,g,d,t,s1.os⟩:=I.call (h':=hh) (g':=g) (d':=d) (t':=t) (ch:=[]) un hok bare (fun b z=>absurd z (by simp))
 refine VP I' (x.mono fun b hb=>?_) (hE _ _ _ q)
 cases z:s.heap.get? b with
 |none=>rfl
 | some o=>
   obtain ⟨o',q'⟩:=I.base.there b o z (by intro hz;cases hz)
   rw [hb] at q';cases q'
end L2
namespace L2
open PySem PySem.Spec PyProof.Rows PySem.SeqAt PySem.W
def i_ (K:Frag) (C:Addr) (B newId:String):Bool:=match K.lookup C with
 |some ⟨_,_,.cls cd,sl⟩=>!cd.abstract && !cd.hasDel && (sl.toList[4]?).join == some (.builtin newId) && !cd.mro.isEmpty && cd.mro.contains (.ref C) && cd.mro.contains (.type B) && cd.mro.contains (.type "BaseException") && !cd.mro.contains (.type "AttributeError") && !cd.mro.contains (.type "NameError") &&
  specialIn K (.ref C) "__call__" == some (some (.builtin "type.__call__")) && instIn K (.ref C) (.type "type") == some true
 |_=>false
structure sS (M:Model) (h:Heap) (C:Addr) (B newId:String):Prop where
 obj:∃ oc od cd sl,h.get? C=some ⟨oc,od,.cls cd,sl⟩/\cd.abstract=false/\cd.hasDel=false/\cd.mro.isEmpty=false
 made:Looks M h (Bind.madeBy (.ref C)) (some newId)
 base:Looks M h (Bind.staticBase (.ref C)) (.ref C)
 self:Looks M h (isSubtype (.ref C) (.ref C)) true
 isB:Looks M h (isSubtype (.ref C) (.type B)) true
 isE:Looks M h (isSubtype (.ref C) (.type "BaseException")) true
 noA:Looks M h (isSubtype (.ref C) (.type "AttributeError")) false
 noN:Looks M h (isSubtype (.ref C) (.type "NameError")) false
 call:Looks M h (specialOf (.ref C) "__call__") (some (.builtin "type.__call__"))
 typ:Looks M h (isInstance (.ref C) (.type "type")) true
theorem jg {K:Frag} (X:K.In h) (e:i_ K C B newId=true):sS M h C B newId:=by
 unfold i_ at e
 split at e
 ·rename_i oc od cd sl ho
  simp only [Bool.and_eq_true,Bool.not_eq_true',beq_iff_eq] at e
  obtain ⟨⟨⟨⟨⟨⟨⟨⟨⟨⟨e1,e2⟩,e3⟩,e4⟩,e5⟩,e6⟩,e7⟩,e8⟩,e9⟩,e10⟩,e11⟩:=e
  have hc:clsIn K C=some cd:=by unfold clsIn;rw [ho]
  have hm:Looks M h (mroOf (.ref C)) cd.mro:=(looks_clsIn X hc).andThen .now
  obtain ⟨c,l,hl⟩:∃ c l,cd.mro=c::l:=by
   cases q:cd.mro with
   |nil=>rw [q] at e4;cases e4
   |cons c l=>exact ⟨c,l,rfl⟩
  have made:Looks M h (Bind.madeBy (.ref C)) (some newId):=by
   intro A Q E s k q
   unfold Bind.madeBy
   refine wpAny_bind (hm A _ E s k ?_)
   rw [hl,List.forIn_cons]
   refine wpAny_bind (wpAny_bind (wpAny_bind (wpAny_bind (wpAny_loadPart (k _ _ (X _ _ ho)) (wpAny_pure ?_)))))
   dsimp only
   rw [← Array.getElem?_toList,e3]
   exact wpAny_pure (wpAny_pure (wpAny_pure q))
  have sub:∀ (v:Value) (b:Bool),cd.mro.contains v=b->Looks M h (isSubtype (.ref C) v) b:=fun v b z=>looks_mroIn X (by unfold mroIn;rw [hc,Option.bind_some,if_neg (by rw [e4];decide),z])
  refine ⟨⟨oc,od,cd,sl,X _ _ ho,e1,e2,e4⟩,made,?_,sub _ _ e5,sub _ _ e6,sub _ _ e7,sub _ _ e8,sub _ _ e9,looks_specialIn X e10,looks_instIn X e11⟩
  intro A Q E s k q
  unfold Bind.staticBase
  refine wpAny_bind (hm A _ E s k ?_)
  rw [hl,List.forIn_cons]
  exact wpAny_bind (wpAny_bind (wpAny_bind (made A _ E s k (wpAny_pure (wpAny_pure (wpAny_pure q))))))
 ·cases e
abbrev fu (C t:Addr):Obj:={ cls:=.ref C,data:=.fields #[.ref t,.none,.none,.none,.bool false,.none] }
theorem newX {prog:Program} {w:World} {A:Around} {C:Addr} {R:Result->Shared->Prop} {h:Heap} {g:Array GenState} {d:Drawn} {t:Nat} {os:OsState} {B newId initId:String} {bm:List Value} (F:ExcBaseFacts B newId initId bm) {rest:List Value} (Y:sS (model prog w) h C B newId) (hrest:rest.length≤sizeLine)
 (hq:R (.ok (.ret (.ref (h.objs.size+1)))) ⟨(h.push { cls:=.type "tuple",data:=.seq rest.toArray }).push (fu C h.objs.size),g,d,t,os⟩) :
 codeAny (model prog w) A (.call (.builtin newId) ⟨.ref C::rest,[]⟩) R ⟨h,g,d,t,os⟩:=by
 obtain ⟨⟨oc,od,cd,sl,hC,e1,e2,e4⟩,made,base,self,isB,isE,noA,noN,call,typ⟩:=Y
 have hstar:=F.noStar
 have hends:=F.ends
 refine codeAny_call_builtin_code (Code.quiet_builtin _ F.quiet) ?_
 simp only [checkBuiltinCall,F.newKind,F.newSplit,F.newRow]
 have here:Looks (model prog w) h (Bind.madeHere newId (.ref C)) ():=base.andThen (made.andThen (Looks.of_pure (by simp only [Option.map_some,bne_self_eq_false,Bool.false_eq_true,if_false])))
 repeat (first|simp only [bne_self_eq_false,Bool.false_eq_true,if_false]|lk)
 repeat (first|wp_step)
 refine PySem.codeAny_builtinAt F.entry ?_
 unfold Builtin.«BaseException.__new__»
 refine PySem.wpAt_bind ?_
 show PySem.wpAt _ _ _ (stack >>= _) _ _ _
 refine PySem.wpAt_bind (PySem.wpAt_stack fun p below=>PySem.wpAt_of_wpAny ?_)
 wp_walk
 refine PySem.wpAt_of_wpAny ?_
 rw [F.owner]
 have here2:Looks (model prog w) h (Bind.madeHere "BaseException.__new__" (.ref C)) ():=base.andThen (made.andThen (Looks.of_pure (by simp only [Option.map_some,F.canon,bne_self_eq_false,Bool.false_eq_true,if_false])))
 repeat (first|with_reducible refine here2.at ?_|with_reducible refine isB.at ?_|with_reducible refine noA.at ?_|with_reducible refine noN.at ?_|with_reducible refine wpAny_loadPart_at hC ?_|wp_step)
 show R _ _
 rw [Heap.size_push]
 exact hq
theorem rK {prog:Program} {w:World} {A:Around} {C:Addr} {R:Result->Shared->Prop} {h:Heap} {g:Array GenState} {d:Drawn} {t:Nat} {os:OsState} {B newId initId:String} {bm:List Value} (F:ExcBaseFacts B newId initId bm) {rest:List Value} {init:Value} (Y:sS (model prog w) h C B newId) (hi:Looks (model prog w) h (typeLookup (.ref C) "__init__") (some init)) (hb:∀ self,Looks (model prog w) h (bindSpecial init self) (init,[self])) (hrest:rest.length≤sizeLine)
 (hq:codeAny (model prog w) (A.under (.builtin "type.__call__" ⟨.ref C::rest,[]⟩)) (.call init ⟨.ref (h.objs.size+1)::rest,[]⟩) (InitBack (h.objs.size+1) R) ⟨(h.push { cls:=.type "tuple",data:=.seq rest.toArray }).push (fu C h.objs.size),g,d,t,os⟩) :
 codeAny (model prog w) A (.call (.ref C) ⟨rest,[]⟩) R ⟨h,g,d,t,os⟩:=by
 have Y':=Y
 obtain ⟨⟨oc,od,cd,sl,hC,e1,e2,e4⟩,made,base,self,isB,isE,noA,noN,call,typ⟩:=Y
 refine codeAny_of_tree ?_
 show wpAny _ _ (callAny (.ref C) _) _ _ _
 refine nd_load hC ?_
 show wpAny _ _ (callAny.viaDunder (.ref C) _) _ _ _
 unfold callAny.viaDunder
 refine wpAny_bind (call.at ?_)
 dsimp only
 rw [tc_bind]
 refine wpAny_bind (wpAny_pure (wpAny_bind (wpAny_pure (wpAny_pure (a:=Fin.again (.call (.builtin "type.__call__") ⟨.ref C::rest,[]⟩)) (And.intro rfl ?_)))))
 refine codeAny_call_builtin_at (Code.quiet_builtin _ (by decide +kernel)) entry_typeCall (check_slot tc_kind tc_split typ (tc_args _ _ _) ?_)
 unfold Builtin.«type.__call__»
 have hm:Looks (model prog w) h (mroOf (.ref C)) cd.mro:=((Looks.ld (part:=none) hC).andThen .now).andThen .now
 repeat (first|simp only [e4,Bool.false_eq_true,if_false]|with_reducible refine wpAny_call ?_|lk)
 refine newX F Y' hrest ?_
 have k:∀ b o,h.get? b=some o->((h.push { cls:=.type "tuple",data:=.seq rest.toArray }).push (fu C h.objs.size)).get? b=some o:=fun b o e=>Heap.get?_push_of_some _ (Heap.get?_push_of_some _ e)
 have hx:((h.push { cls:=.type "tuple",data:=.seq rest.toArray }).push (fu C h.objs.size)).get? (h.objs.size+1)=some (fu C h.objs.size):=by
  have:=Heap.get?_push_size (h.push { cls:=.type "tuple",data:=.seq rest.toArray }) (o:=fu C h.objs.size) rfl
  rwa [Heap.size_push] at this
 have t1:Looks (model prog w) ((h.push { cls:=.type "tuple",data:=.seq rest.toArray }).push (fu C h.objs.size)) (typeOf (.ref (h.objs.size+1))) (.ref C):=(Looks.ld hx).andThen .now
 have s1:=self.keeps k
 have i1:=hi.keeps k
 have b1:=(hb (.ref (h.objs.size+1))).keeps k
 unfold isInstance callSpecial? specialOf
 repeat (first|with_reducible refine wpAny_call ?_|lk)
 refine codeAny_mono hq fun r s' z=>?_
 rcases r with e|(v|_|_|_) <;> first|exact z|exact z.elim|skip
 obtain ⟨rfl,z⟩:=z
 exact wpAny_pure (wpAny_pure z)
end L2
namespace L2
open PySem PySem.Spec PyProof.Rows PySem.SeqAt PySem.W Builtin.ObjectAttr
def dZ (e C:Addr) (dd:Option Addr):HO:=.ext fun h=>∃ a0:Value,h.get? e=some { cls:=.ref C,dict:=dd,data:=.fields #[a0,.none,.none,.none,.bool false,.none] }
def pA (da:Addr) (fs:List (Str×V)):HO:=.ext fun h=>∃ mA,h.Ns1 da mA/\(∀ f,h_ (fs.lookup f) (mA f))/\PySem.Within mA (fs.map (·.1))
theorem pK (x:h.get? e=some { cls:=.ref C,dict:=dd,data:=.fields #[a0,.none,.none,.none,.bool false,.none] }):cI P w H h e (dZ e C dd):=
 ⟨⟨a0,x⟩,⟨_,x⟩,fun h1 h2 ⟨a,z⟩ k=>⟨a,k _ z⟩⟩
theorem sO (x:h.Ns1 da mA) (r:∀ f,h_ (fs.lookup f) (mA f)) (wi:PySem.Within mA (fs.map (·.1))):cI P w H h da (pA da fs):=by
 obtain ⟨o,es,ep,ho,rest⟩:=id x
 refine ⟨⟨mA,x,r,wi⟩,⟨o,ho⟩,fun h1 h2 z k=>?_⟩
 obtain ⟨mB,⟨o',es',ep',ho',rest'⟩,r',wi'⟩:=z
 exact ⟨mB,⟨o',es',ep',k _ ho',rest'⟩,r',wi'⟩
theorem lq (self:Value) (hb:refuseLoop self "__setattr__" bm=pure ()) (hne:bm≠[]):∀ (rs:List Addr),refuseLoop self "__setattr__" (rs.map Value.ref++bm)=pure ()
 |[]=>hb
 | c::r=>by
   rw [List.map_cons,List.cons_append,refuseLoop_ref]
   exact lq self hb hne r
structure jq (K:Frag) (C:Addr) (B newId:String):Prop where
 mks:i_ K C B newId=true
 sa:findIn K (.ref C) "__setattr__" = some (some (.builtin "object.__setattr__"))
 cd:∃ (cd:ClassData) (rs:List Addr) (bm:List Value),clsIn K C=some cd/\cd.hasDict=true/\cd.mro=rs.map Value.ref++bm/\bm≠[]/\(∀ self,refuseLoop self "__setattr__" bm=pure ())/\bm.contains (.type "object")=true
 kp:keepIn K (.ref C)=true
 ty:typeIn K (.ref C)=some (.type "type")
theorem Pa {A:Around} {R:Result->Shared->Prop} {s:Shared} {K:Frag} (X:K.In s.heap) (I:InstAt s.heap x ox C od) (XC:jq K C B newId) (ht:takerIn K C name=some none)
 (h:∀ b,wpAny (model prog w) A.in1 (Builtin.ObjectAttr.storeInOwnDict (.ref x) (.ref C) (.str name tk) name v b) (fun fin s'=>match fin with|.done f=>R (.ok f) s'|.again c'=>c'.quiet=true/\codeAny (model prog w) A c' R s') (fun e s'=>R (.error e) s') s) :
 codeAny (model prog w) A (.call (.builtin "object.__setattr__") ⟨[.ref x,.str name tk,v],[]⟩) R s:=by
 have SF:=PySem.F.store_object
 obtain ⟨cd,rs,bm,hc,hdct,hmro,hne,hrf,hob⟩:=XC.cd
 have ne:cd.mro.isEmpty=false:=by
  rw [hmro]
  cases rs with
  |nil=>cases bm with|nil=>exact absurd rfl hne|cons _ _=>rfl
  |cons _ _=>rfl
 have hcon:cd.mro.contains (.type "object")=true:=by
  rw [hmro,List.contains_eq_mem,decide_eq_true_eq]
  rw [List.contains_eq_mem,decide_eq_true_eq] at hob
  exact List.mem_append_right _ hob
 have sub:Looks (model prog w) s.heap (isInstance (.ref x) (.type "object")) true:=I.type.andThen (looks_mroIn X (by unfold mroIn;rw [hc,Option.bind_some,if_neg (by rw [ne];decide),hcon]))
 refine codeAny_call_builtin SF.slot.plain SF.entry (@check_slot (model prog w) _ _ s "object.__setattr__" "object" "__setattr__" (.ref x) [.str name tk,v] [] _ SF.kind SF.split sub (SF.args (.ref x) (.str name tk) v) ?_)
 obtain ⟨attr,ha,hr⟩:=Option.bind_eq_some_iff.mp ht
 have hm:Looks (model prog w) s.heap (mroOf (.ref C)) cd.mro:=(looks_clsIn X hc).andThen .now
 have L3:Looks (model prog w) s.heap (storeTaker? attr) none:=by
  cases attr with
  |none=>exact .now
  | some a=>
    obtain ⟨b,hb,q⟩:=Option.map_eq_some_iff.mp hr
    refine (looks_takesIn X hb).andThen ?_
    cases b with
    |false=>exact .now
    |true=>cases q
 rw [osa_eq,refuse_eq]
 refine wpAny_bind (wpAny_bind (I.type.here (wpAny_bind (hm.here ?_))))
 rw [hmro,lq _ (hrf _) hne]
 refine wpAny_pure (wpAny_bind (I.type.here (wpAny_bind ((looks_findIn X ha).here (wpAny_bind (L3.here ?_))))))
 exact h _
theorem sG {s:Shared} {K:Frag} {name:Str} {Q:Fin->Shared->Prop} {cd:ClassData} (X:K.In s.heap) (hx:s.heap.get? x=some ⟨.ref C,none,.fields vs,sl⟩) (hc:clsIn K C=some cd) (hd:cd.hasDict=true)
 (h:∀ h',h'.Ns1 s.heap.objs.size (fun y=>if y=name then some v else none)->h'.get? x=some ⟨.ref C,some s.heap.objs.size,.fields vs,sl⟩->(∀ b o,b≠x->s.heap.get? b=some o->h'.get? b=some o)->Q (.done (.ret .none)) { s with heap:=h',toks:=s.toks+1 }) :
 wpAny (model prog w) A (storeInOwnDict (.ref x) (.ref C) (.str name tk) name v b) Q E s:=by
 unfold storeInOwnDict
 refine wpAny_bind (wpAny_pure (wpAny_bind (wpAny_bind (wpAny_loadPart hx (wpAny_bind (Looks.here (looks_clsIn X hc) ?_))))))
 rw [hd]
 have hx1:(s.heap.push { cls:=.type "dict",data:=.dict #[] }).get? x=some ⟨.ref C,none,.fields vs,sl⟩:=Heap.get?_push_of_some _ hx
 have hxs:x≠s.heap.objs.size:=Nat.ne_of_lt (Heap.lt_size hx)
 show wpAny _ _ (do
  let d ← alloc { cls:=Value.type "dict",data:=Data.dict #[] }
  update x fun o=>{ cls:=o.cls,dict:=some d,data:=o.data,slots:=o.slots }
  dictMade (Value.ref C) x d) _ _ _
 refine wpAny_bind (wpAny_alloc' (wpAny_bind (wpAny_update' hx1 ?_)))
 refine wpAny_pure ?_
 have hgd:((s.heap.push { cls:=.type "dict",data:=.dict #[] }).update x fun o=>{ cls:=o.cls,dict:=some s.heap.objs.size,data:=o.data,slots:=o.slots }).get? s.heap.objs.size=some { cls:=.type "dict",data:=.dict #[] }:=(Heap.get?_update_ne _ _ _ _ hxs.symm).trans (Heap.get?_push_at rfl rfl)
 have hnd:((s.heap.push { cls:=.type "dict",data:=.dict #[] }).update x fun o=>{ cls:=o.cls,dict:=some s.heap.objs.size,data:=o.data,slots:=o.slots }).Ns s.heap.objs.size (fun _=>none):=⟨_,#[],_,hgd,rfl,fun e he=>absurd he (by simp),fun _=>rfl⟩
 show wpAny _ _ (storeInDict s.heap.objs.size (.str name tk) name v) _ _ _
 unfold storeInDict newKeyGuard
 refine wpAny_bind (wpAny_pure (wpAny_bind (wpAny_nsSet1 (s:={ s with heap:=_ }) (Heap.Ns1.of_empty hnd) fun h' hn' hs=>?_)))
 obtain ⟨oD,esD,epD,hoD,hdD,hcD⟩:=hn'.count (PySem.Within.cons name v PySem.Within.nil)
 refine wpAny_bind (wpAny_lookBehind hoD (by rw [hdD];exact pastItsLine_dict (Nat.le_trans hcD (by rw [List.length_cons,List.length_nil,sizeLine_eq];omega))) ?_)
 refine wpAny_pure (h h' hn' ?_ fun b o hb hbo=>?_)
 ·exact (hs.2 x hxs).trans (Heap.get?_update_self _ hx1 rfl)
 ·exact (hs.2 b (Nat.ne_of_lt (Heap.lt_size hbo))).trans ((Heap.get?_update_ne _ _ _ _ hb).trans (Heap.get?_push_of_some _ hbo))
theorem tu {s:Shared} {K:Frag} {name:Str} {Q:Fin->Shared->Prop} {cd:ClassData} {ns:List Str} (X:K.In s.heap) (hx:s.heap.get? x=some ⟨.ref C,some da,.fields vs,sl⟩) (hc:clsIn K C=some cd) (hd:cd.hasDict=true) (hn:s.heap.Ns1 da mA) (hw:PySem.Within mA ns) (hz:ns.length<1000)
 (h:∀ h',h'.Ns1 da (fun y=>if y=name then some v else mA y)->Heap.SameBut da s.heap h'->Q (.done (.ret .none)) { s with heap:=h',toks:=s.toks+1 }) :
 wpAny (model prog w) A (storeInOwnDict (.ref x) (.ref C) (.str name tk) name v b) Q E s:=by
 unfold storeInOwnDict
 refine wpAny_bind (wpAny_pure (wpAny_bind (wpAny_bind (wpAny_loadPart hx (wpAny_bind (Looks.here (looks_clsIn X hc) ?_))))))
 rw [hd]
 refine wpAny_pure (a:=some da) ?_
 show wpAny _ _ (storeInDict da (.str name tk) name v) _ _ _
 unfold storeInDict newKeyGuard
 refine wpAny_bind (wpAny_pure (wpAny_bind (wpAny_nsSet1 hn fun h' hn' hs=>?_)))
 obtain ⟨oD,esD,epD,hoD,hdD,hcD⟩:=hn'.count (PySem.Within.cons name v hw)
 refine wpAny_bind (wpAny_lookBehind hoD (by rw [hdD];exact pastItsLine_dict (Nat.le_trans hcD (by rw [List.length_cons,sizeLine_eq];omega))) ?_)
 exact wpAny_pure (h h' hn' hs)
theorem qb (I:Inv X Z σ H s) (he:H e=some (dZ e C dd)):∃ a0,s.heap.get? e=some { cls:=.ref C,dict:=dd,data:=.fields #[a0,.none,.none,.none,.bool false,.none] }:=(show cI X.prog X.w H s.heap e (dZ e C dd) from I.hok e _ he).1
theorem yh (I:Inv X Z σ H s) (he:H e=some (dZ e C none)) (XC:jq X.K C B newId) (ht:takerIn X.K C f=some none) (ry:RelV y u)
 (h:∀ da s',H da=none->Inv X Z σ (upd (upd H e (dZ e C (some da))) da (pA da [(f,y)])) s'->Q () s'):wpAny (model X.prog X.w) A (setAttr (.ref e) f u) Q E s:=by
 obtain ⟨a0,hx⟩:=qb I he
 have J:InstAt s.heap e _ C none:=⟨hx,rfl,rfl,True.intro⟩
 obtain ⟨cd,rs,bm,hc,hdct,_⟩:=XC.cd
 refine set_plain I.kIn J XC.sa (Pa (s:={ s with toks:=s.toks+1 }) I.kIn J XC ht fun b=>sG (s:={ s with toks:=s.toks+1 }) I.kIn hx hc hdct fun h' hn hx' hk=>?_)
 have fr:H s.heap.objs.size=none:=I.hok.fresh (Nat.le_refl _)
 have nes:e≠s.heap.objs.size:=Nat.ne_of_lt (Heap.lt_size hx)
 refine h s.heap.objs.size _ fr ?_
 have hx1:(s.heap.push emptyDict).get? e=some _:=Heap.get?_push_of_some _ hx
 have g1:(s.heap.push emptyDict).get? s.heap.objs.size=some emptyDict:=Heap.get?_push_size s.heap rfl
 have e3:(s.heap.push emptyDict).Ns s.heap.objs.size (fun _=>none):=⟨emptyDict,#[],_,g1,rfl,(fun e he=>absurd he (by simp)),fun _=>rfl⟩
 have I1:=I.laid (a:=s.heap.objs.size) (o:=pA s.heap.objs.size []) (h':=s.heap.push emptyDict) (t':=s.toks) (fun b u q=>Heap.get?_push_of_some _ q) (Nat.le_refl _) (sO (Heap.Ns1.of_empty e3) (fun _=>True.intro) fun y hy=>absurd rfl hy)
 have hx2:=Heap.get?_update_self (fun o:Obj=>{ o with dict:=some s.heap.objs.size }) hx1 rfl
 have I2:=I1.write (x:=e) (e:=e) (o:=dZ e C (some s.heap.objs.size)) (h':=(s.heap.push emptyDict).update e fun o=>{ o with dict:=some s.heap.objs.size }) (t':=s.toks) (by rw [aK nes,he];exact True.intro) (.inl rfl)
  (fun b q hb z=>(Heap.get?_update_ne _ _ _ _ hb).trans z) ⟨_,hx2⟩ (pK hx2)
 have I3:=I2.write (x:=s.heap.objs.size) (e:=s.heap.objs.size) (o:=pA s.heap.objs.size [(f,y)]) (h':=h') (t':=s.toks+1+1) (by rw [aK nes.symm,ak];exact True.intro) (.inl rfl) (fun b q hb z=>?_) (let ⟨o,_,_,ho,_⟩:=hn;⟨o,ho⟩)
  (sO hn (fun g=>?_) fun g hg=>?_)
 ·have e1:upd (upd (upd H s.heap.objs.size (pA s.heap.objs.size [])) e (dZ e C (some s.heap.objs.size))) s.heap.objs.size (pA s.heap.objs.size [(f,y)])=upd (upd H e (dZ e C (some s.heap.objs.size))) s.heap.objs.size (pA s.heap.objs.size [(f,y)]):=by
   funext b
   unfold upd
   split
   ·rfl
   ·split
    ·rfl
    ·rfl
  rw [e1] at I3
  exact I3
 ·by_cases hbe:b=e
  ·subst hbe
   have z':some q=some _:=z.symm.trans hx2
   cases z'
   exact hx'
  ·have z1:(s.heap.push emptyDict).get? b=some q:=(Heap.get?_update_ne _ _ _ _ hbe).symm.trans z
   have z2:s.heap.get? b=some q:=by
    rcases Heap.get?_push_cases z1 with z|z
    ·exact absurd z.1 hb
    ·exact z
   exact hk b q hbe z2
 ·have e2:List.lookup g [(f,y)]=if g=f then some y else none:=cU f g y []
  rw [e2]
  by_cases q:g=f
  ·rw [if_pos q,if_pos q];exact ry
  ·rw [if_neg q,if_neg q];exact True.intro
 ·by_cases q:g=f
  ·subst q;simp
  ·exact absurd (if_neg q) hg
theorem vp (BF:ExcBaseFacts B newId initId bm) (XC:jq X.K C B newId) (hi:findIn X.K (.ref C) "__init__" = some (some (.ref f))) (hf:isFn X.K (.ref f)=true) (F:aQ X.prog X.w X.K X.mg X.base CX k f fd ps sp) (hr:bK (k+1) X.A)
 (hb:Binds X.K fd ps ds) (hd:Vals dvs ds) (hx:eF CX X E) (I:Inv X Z σ H s) (r:Vals vs us) (hz:us.length≤sizeLine)
 (h:∀ e,H e=none->sp (.ref e::(vs++dvs)) (upd H e (dZ e C none)) (fun v H2=>v=.non/\Q (.ref e) H2) E) :
 wpAny (model X.prog X.w) X.A (call (.ref C) us) (EP X Z σ Q) X.xe s:=by
 obtain ⟨hh,g,d,t,os⟩:=s
 have hq:=h (hh.objs.size+1) (I.hok.fresh (Nat.le_succ _))
 have hget:((hh.push { cls:=.type "tuple",data:=.seq us.toArray }).push (fu C hh.objs.size)).get? (hh.objs.size+1)=some (fu C hh.objs.size):=by
  have:=Heap.get?_push_size (hh.push { cls:=.type "tuple",data:=.seq us.toArray }) (o:=fu C hh.objs.size) rfl
  rwa [Heap.size_push] at this
 have I2:Inv X Z σ (upd H (hh.objs.size+1) (dZ (hh.objs.size+1) C none)) ⟨(hh.push { cls:=.type "tuple",data:=.seq us.toArray }).push (fu C hh.objs.size),g,d,t,os⟩:=
  I.laid (h':=(hh.push { cls:=.type "tuple",data:=.seq us.toArray }).push (fu C hh.objs.size)) (t':=t) (fun b u q=>Heap.get?_push_of_some _ (Heap.get?_push_of_some _ q)) (Nat.le_succ _) (pK hget)
 have r2:Vals (V.ref (hh.objs.size+1)::(vs++dvs)) (Value.ref (hh.objs.size+1)::(us++ds)):=.cons rfl (r.append hd)
 have hl:(Value.ref (hh.objs.size+1)::us++ds).length=ps.length:=by
  have e:=r2.length
  rw [F.len _ _ _ _ hq] at e
  exact e.symm
 refine wpAny_call (rK BF (jg I.kIn XC.mks) (looks_findIn I.kIn hi) (fun self=>bind_fn I.kIn self (beq_iff_eq.mp hf)) hz (codeAny_mono (F.run _ X.stack _ _ ⟨Value.ref (hh.objs.size+1)::us,[]⟩ (Value.ref (hh.objs.size+1)::(us++ds)) _ _ E (hr.make C us [])
  (I2.env0.make C us []) (hb _ (Value.ref (hh.objs.size+1)::us) I2.kIn hl) r2 hq) fun r s' hq'=>?_))
 match r,hq' with
 |.error e,hq'=>exact hx Z σ _ _ e s' I2 hq'
 | .ok (.ret u),hq'=>
   obtain ⟨v,H',I3,rv,ev,q3⟩:=I2.after hq'
   subst ev
   exact ⟨rv,⟨V.ref (hh.objs.size+1),H',I3,rfl,q3⟩⟩
def Hq (C:Addr) (sp:Sp) (dvs:List V) (E:XK) (t:TA):TE:=fun σ H Q=>t σ H fun vs H1=>∀ e,H1 e=none->sp (.ref e::(vs++dvs)) (upd H1 e (dZ e C none)) (fun v H2=>v=.non/\Q (.ref e) H2) E
theorem yX (BF:ExcBaseFacts B newId initId bm) (XC:jq X.K C B newId) (hi:findIn X.K (.ref C) "__init__" = some (some (.ref f))) (hf:isFn X.K (.ref f)=true) (F:aQ X.prog X.w X.K X.mg X.base CX k f fd ps sp) (hr:bK (k+1) X.A)
 (hg:Gl X x) (hm:X.mg x=some (.ref C)) (hb:Binds X.K fd ps ds) (hd:Vals dvs ds) (hx:eF CX X E) (ha:PA X (e::es) t) (hdb:(x == ("__debug__" : Str))=false:=by decide) (he:starEach (e::es) X.env=(false,eval e X.env)::starEach es X.env:=by rfl) (hpl:(backTo pos (starEach es X.env)).any (·.1)=false:=by rfl) (hle:ps.length≤20:=by decide) :
 PE X (.Call (.Name x p) (e::es) [] pos) (Hq C sp dvs E t):=by
 intro Z s σ H Q I h
 refine wpAny_Call_Name_kw (jf I hg hm ?_ hdb)
 refine callWith_K (h₀:=X.base) I.ok.mod.kin XC.kp (b_ (ha pos Z s σ H _ I h) fun us s1 ⟨vs,H1,I1,r,q⟩=>⟨I1.kIn,?_⟩) he hpl
 refine vp BF XC hi hf F hr hb hd hx I1 r ?_ q
 have h1:=F.len _ _ _ _ (q (s1.heap.objs.size) (I1.hok.fresh (Nat.le_refl _)))
 rw [List.length_cons,List.length_append] at h1
 have h2:=r.length
 exact Nat.le_trans (show us.length≤20 by omega) (by decide)
def xT (H:Hp) (a:Addr):Hp:=fun b=>if b=a then none else H b
theorem mj:xT H a a=none:=if_pos rfl
theorem tX (h:b≠a):xT H a b=H b:=if_neg h
theorem jQ (h:H b=none):xT H a b=none:=by
 unfold xT
 split
 ·rfl
 ·exact h
theorem Inv.xT (I:Inv X Z σ H s) (he:H e=some (dZ e C dd)):Inv X Z σ (L2.xT H e) s:=by
 have up:∀ b u,H b=some u->u≠dZ e C dd->L2.xT H e b=some u:=fun b u z hu=>by
  by_cases q:b=e
  ·subst q;rw [he] at z;exact absurd (Option.some.inj z).symm hu
  ·rw [tX q];exact z
 refine ⟨I.ok,I.os,I.bare,⟨I.base.keep,I.base.slot,fun b o z n hx=>jQ (I.base.free b o z n hx),I.base.there,fun b xs z=>up b _ (I.base.tups b xs z) (by intro q;cases q),fun b o u z=>up b _ (I.base.frzs b o u z) (by intro q;cases q),fun b ps z=>?_⟩,I.loc,I.cell,jQ I.free,fun x c z=>jQ (I.freeC x c z),fun p hp=>?_,fun b u z=>?_,I.len⟩
 ·obtain ⟨m,q⟩:=I.base.tbls b ps z
  exact ⟨m,up b _ q (by intro q;cases q)⟩
 ·obtain ⟨p1,p2,p3⟩:=I.pin p hp
  exact ⟨p1,jQ p2,p3⟩
 ·by_cases q:b=e
  ·subst q;rw [mj] at z;cases z
  ·rw [tX q] at z
   exact (I.hok b u z).stay (fun c v _ r=>r) (fun c r=>up c _ r (by intro q;cases q)) fun c xs r=>up c _ r (by intro q;cases q)
def Do (X:Cx) (B newId:String) (W:XK) (te:TE):TS:=fun _ σ H=>te σ H fun x H1=>∃ e C dd,x=.ref e/\H1 e=some (dZ e C dd)/\X.H₀ e=none/\jq X.K C B newId/\W (.ref C) dd (xT H1 e)
theorem yE (he:PE X ex te) (hcalm:X.calm=true) (hex:X.ex=[])
 (hxe:∀ (Z:List (Addr×Obj)) (σ:St) (H':Hp) (s':Shared) (e:Addr) (cls:Value) (dd:Option Addr),Inv X Z σ H' s'->fQ s'.heap H' X.s₀.heap e cls dd->W cls dd H'->X.xe (.ref e) s'):PS X (.Raise (some ex) none pos) (Do X B newId W te):=by
 intro Z s σ H D I h
 rw [arm_exec_Raise]
 have key:∀ xs:Sem Value,wpAny (model X.prog X.w) X.A xs (EP X Z σ fun x H1=>∃ e C dd,x=.ref e/\H1 e=some (dZ e C dd)/\X.H₀ e=none/\jq X.K C B newId/\W (.ref C) dd (L2.xT H1 e)) X.xe s->wpAny (model X.prog X.w) X.A (raiseStmt X.env (some xs) none) (SP X Z D) X.xe s:=by
  intro xs hxs
  unfold raiseStmt
  refine wpAny_bind (b_ hxs fun v s1 ⟨x,H1,I1,r1,e,C,dd,ex',hx,h0,XC,q⟩=>?_)
  subst ex'
  cases (show v=Value.ref e from r1)
  obtain ⟨a0,hg⟩:=qb I1 hx
  have Y:=jg (M:=model X.prog X.w) I1.kIn XC.mks
  obtain ⟨⟨oc,od,cd,sl,hC,e1,e2,e4⟩,made,base,self,isB,isE,noA,noN,call,typ⟩:=Y
  have T1:Looks (model X.prog X.w) s1.heap (typeOf (.ref e)) (.ref C):=(Looks.ld hg).andThen .now
  have fin:X.xe (.ref e) s1:=by
   refine hxe Z σ _ s1 e (.ref C) dd (I1.xT hx) ⟨_,_,hg,rfl,rfl,rfl,?_,mj,.inl rfl⟩ q
   cases z:X.s₀.heap.get? e with
   |none=>rfl
   | some o=>
     have:=I1.base.free e o z h0 (by rw [hex];simp)
     rw [hx] at this;cases this
  have T2:Looks (model X.prog X.w) s1.heap (typeOf (.ref C)) (.type "type"):=looks_typeIn I1.kIn XC.ty
  have T3:Looks (model X.prog X.w) s1.heap (isInstance (.ref e) (.type "BaseException")) true:=T1.andThen isE
  have hh:X.A.handled=none:=I1.ok.hd hcalm
  clear I1 r1 hxs he h I XC made base self isB noA noN call typ
  obtain ⟨hp,g,d,tk,os⟩:=s1
  repeat (first|with_reducible refine wpAny_loadPart_at hg ?_|with_reducible refine T3.at ?_|with_reducible refine T1.at ?_|with_reducible refine T2.at ?_|wp_step)
  exact wpAny_raiseNew_none hh fin
 first
  |exact wpAny_bind (wpAny_standAt (key _ (wpAny_bind (b_ (he Z s σ H _ I h) fun v s1 z=>wpAny_bind (wpAny_standAt (wpAny_pure z))))))
  |(simp only [evalOpt,Option.map];exact wpAny_bind (wpAny_standAt (key _ (wpAny_bind (b_ (he Z s σ H _ I h) fun v s1 z=>wpAny_bind (wpAny_standAt (wpAny_pure z)))))))
theorem z9 (I:Inv X Z σ H s) (he:H e=some (dZ e C (some da))) (hd:H da=some (pA da fs)) (hl:fs.length<1000) (XC:jq X.K C B newId) (ht:takerIn X.K C f=some none) (ry:RelV y u)
 (h:∀ s',Inv X Z σ (upd H da (pA da (gK f y fs))) s'->Q () s'):wpAny (model X.prog X.w) A (setAttr (.ref e) f u) Q E s:=by
 obtain ⟨a0,hx⟩:=qb I he
 obtain ⟨mA,hn,r,wi⟩:=(show cI X.prog X.w H s.heap da (pA da fs) from I.hok da _ hd).1
 obtain ⟨od,hod,_⟩:=lg hn
 have J:InstAt s.heap e _ C (some od):=⟨hx,rfl,rfl,hod⟩
 obtain ⟨cd,rs,bm,hc,hdct,_⟩:=XC.cd
 refine set_plain I.kIn J XC.sa (Pa (s:={ s with toks:=s.toks+1 }) I.kIn J XC ht fun b=>tu (s:={ s with toks:=s.toks+1 }) (ns:=fs.map (·.1)) I.kIn hx hc hdct hn wi (by rw [List.length_map];exact hl) fun h' hn' hs=>?_)
 refine h _ (I.write (x:=da) (e:=da) (h':=h') (t':=s.toks+1+1) (by rw [hd];exact True.intro) (.inl rfl) (fun b q hb z=>(hs.2 b hb).trans z) (let ⟨o,_,_,ho,_⟩:=hn';⟨o,ho⟩) (sO hn' (fun g=>?_) fun g hg=>?_))
 ·show h_ ((gK f y fs).lookup g) (if g=f then some u else mA g)
  rw [cU]
  by_cases q:g=f
  ·rw [if_pos q,if_pos q];exact ry
  ·rw [if_neg q,if_neg q];exact r g
 ·by_cases q:g=f
  ·rw [q];exact (ig f y fs).1
  ·refine (ig f y fs).2 g (wi g fun z=>hg ?_)
   show (if g=f then some u else mA g)=none
   rw [if_neg q];exact z
def Lq (K:Frag) (B newId:String) (ta tv:TE) (f:Str):TS:=fun D σ H=>tv σ H fun y H1=>ta σ H1 fun x H2=>∃ e C,x=.ref e/\jq K C B newId/\takerIn K C f=some none/\
 ((H2 e=some (dZ e C none)/\∀ da,H2 da=none->D.nx σ (upd (upd H2 e (dZ e C (some da))) da (pA da [(f,y)])))∨
   ∃ da fs,H2 e=some (dZ e C (some da))/\H2 da=some (pA da fs)/\fs.length<1000/\D.nx σ (upd H2 da (pA da (gK f y fs))))
theorem zL (ha:PE X o ta) (hv:PE X value tv) (hs:swapsWith value (some (.Attribute o f pos')) pos.line X.env=pure false):PS X (.Assign [.Attribute o f pos'] value pos) (Lq X.K B newId ta tv f):=by
 intro Z s σ H D I h
 refine plainObj_wpAny_Assign_Attribute (b_ (hv Z s σ H _ I h) fun u s1 ⟨y,H1,I1,ry,q⟩=>b_ (ha Z s1 σ H1 _ I1 q) fun ov s2 ⟨x,H2,I2,rx,e,C,ex,XC,ht,q2⟩=>?_) hs
 subst ex
 cases (show ov=Value.ref e from rx)
 rcases q2 with ⟨he,q2⟩|⟨da,fs,he,hd,hl,q2⟩
 ·exact yh I2 he XC ht ry fun da s' hda I3=>⟨σ,_,I3,q2 da hda⟩
 ·exact z9 I2 he hd hl XC ht ry fun s' I3=>⟨σ,_,I3,q2⟩
theorem tL (BF:ExcBaseFacts B newId initId bm):gH X (.builtin initId) (fun xs H Q=>∃ e C dd y,xs=[.ref e,y]/\H e=some (dZ e C dd)/\jq X.K C B newId/\Q .non H):=by
 intro Z s σ H xs us Q I r h
 obtain ⟨e,C,dd,y,rfl,he,XC,q⟩:=h
 cases r with
 | cons r1 r=>
   cases r with
   | cons r2 r=>
     cases r
     rename_i u1 u2
     cases (show u1=Value.ref e from r1)
     obtain ⟨a0,hg⟩:=qb I he
     have Y:=jg (M:=model X.prog X.w) I.kIn XC.mks
     have T1:Looks (model X.prog X.w) s.heap (typeOf (.ref e)) (.ref C):=(Looks.ld hg).andThen .now
     have T3:Looks (model X.prog X.w) s.heap (isInstance (.ref e) (.type B)) true:=T1.andThen Y.isB
     have hshort:=BF.noStar
     refine wpAny_call (codeAny_call_builtin BF.init.plain BF.initEntry ?_)
     simp only [checkBuiltinCall,BF.initKind,BF.initSplit,BF.initRow]
     refine wpAny_bind (T3.here ?_)
     simp only [Bool.not_true,Bool.false_eq_true,if_false]
     obtain ⟨oc,od,cd,sl,hC,e1,e2,e4⟩:=Y.obj
     have T2:=Y.typ
     obtain ⟨hp,g,d,tk,os⟩:=s
     unfold Bind.checkArgs
     repeat (first|with_reducible refine wpAny_loadPart_at hg ?_|with_reducible refine wpAny_loadPart_at hC ?_|with_reducible refine T1.at ?_|wp_step)
     have fin:∀ tk',EP X Z σ Q .none ⟨(hp.push { cls:=Value.type "tuple",data:=Data.seq #[u2] }).update e (Obj.mapFields fun x=>x.setIfInBounds 0 (Value.ref hp.objs.size)),g,d,tk',os⟩:=fun tk'=>by
      have hg':hp.get? e=some { cls:=.ref C,dict:=dd,data:=.fields #[a0,.none,.none,.none,.bool false,.none] }:=hg
      have hg1:=Heap.get?_push_of_some (h:=hp) { cls:=Value.type "tuple",data:=Data.seq #[u2] } hg'
      have hg2:=Heap.get?_update_self (Obj.mapFields fun x=>x.setIfInBounds 0 (Value.ref hp.objs.size)) hg1 rfl
      have I1:Inv X Z σ H ⟨hp.push { cls:=Value.type "tuple",data:=Data.seq #[u2] },g,d,tk',os⟩:=I.kept (s:=⟨hp,g,d,tk,os⟩) (t':=tk') fun b o z=>Heap.get?_push_of_some _ z
      have I2:=I1.write (x:=e) (e:=e) (o:=dZ e C dd) (h':=(hp.push { cls:=Value.type "tuple",data:=Data.seq #[u2] }).update e (Obj.mapFields fun x=>x.setIfInBounds 0 (Value.ref hp.objs.size))) (t':=tk') (by rw [he];exact True.intro) (.inl rfl) (fun b q hb z=>(Heap.get?_update_ne _ _ _ _ hb).trans z) ⟨_,hg2⟩ (pK (a0:=.ref hp.objs.size) hg2)
      have eH:upd H e (dZ e C dd)=H:=by
       funext b
       unfold upd
       split
       ·rename_i q;rw [q,he]
       ·rfl
      rw [eH] at I2
      exact ⟨.non,H,I2,rfl,q⟩
     cases a0 <;> first|exact wpAny_pure (wpAny_pure (fin _))|exact wpAny_letGo (wpAny_pure (fin _))
section
variable {X:Cx} {CX:rF} {k:Nat} {f C CS:Addr} {fd:FuncData} {ps:List Str} {sp:Sp} {dvs:List V} {ds:List Value} {E:XK} {m tn cn:Str} {T id:String} {p pos apos:Pos} {e:Expr} {es:List Expr} {t:TA} {r:List V->Hp->VK->Prop} {mc:Value}
def Em (r:List V->Hp->VK->Prop) (t:TA):TE:=fun σ H Q=>t σ H fun vs H1=>r vs H1 Q
theorem rn {pl:Sem Bool} (hg:Gl X tn) (hm:X.mg tn=none) (hv:bootBuiltins tn=some (.type T)) (ht:typeOf (.type T)=pure (.type "type")) (hs:Manifest.isStub T=false) (fc:findCls X.K (.type T) (.type "type") m=some (.val (.builtin id))) (hc:gH X (.builtin id) r) (ha:PA X (e::es) t) (hh:handedIn (.builtin id)=true:=by rfl)
 (hn:tn ≠ "__name__":=by decide) (hdb:(tn == ("__debug__" : Str))=false:=by decide) (hst:starEach (e::es) X.env=(false,eval e X.env)::starEach es X.env:=by rfl) (hpl:(backTo pos (starEach es X.env)).any (·.1)=false:=by rfl)
 (hte:eval (.Call (.Attribute (.Name tn p) m apos) (e::es) [] pos) X.env=(do
  let ov ← eval (.Name tn p) X.env
  standAt apos.atName
  let (f,first) ← holding [ov] (getMethod ov m pl)
  callWith pos f first (backTo pos (starEach (e::es) X.env)) (backToKw pos (keywordEach [] X.env))):=by rfl) :
 PE X (.Call (.Attribute (.Name tn p) m apos) (e::es) [] pos) (Em r t):=by
 intro Z s σ H Q I h
 obtain ⟨mm,F⟩:=I.fr
 refine methodCall_KW (pl:=pl) (fG I hg hm hv (method_type F I.ok.mod.kin ht hs fc hh ?_) hn hdb) hte
 exact callWith_builtin1 (b_ (ha pos Z _ σ H _ (I.tok _) h) fun us s1 ⟨vs,H1,I1,r1,q1⟩=>hc Z s1 σ H1 vs us Q I1 r1 q1) hst hpl
theorem rZ (hg:Gl X cn) (hm:X.mg cn=some (.ref CS)) (sg:specialIn X.K (.ref CS) "__getattribute__" = some (some (.builtin "type.__getattribute__"))) (hr':readsIn X.K CS mc=true) (fc:findCls X.K (.ref CS) mc m=some (.val (.ref f))) (hk:keepIn X.K (.ref f)=true)
 (F:aQ X.prog X.w X.K X.mg X.base CX k f fd ps sp) (hr:bK k X.A) (hb:Binds X.K fd ps ds) (hd:Vals dvs ds) (hx:eF CX X E) (ha:PA X (e::es) t) (hdb:(cn == ("__debug__" : Str))=false:=by decide)
 (hst:starEach (e::es) X.env=(false,eval e X.env)::starEach es X.env:=by rfl) (hpl:(backTo pos (starEach es X.env)).any (·.1)=false:=by rfl)
 (hte:eval (.Call (.Attribute (.Name cn p) m apos) (e::es) [] pos) X.env=(do
  let ov ← eval (.Name cn p) X.env
  standAt apos.atName
  let (f,first) ← holding [ov] (getMethod ov m pl)
  callWith pos f first (backTo pos (starEach (e::es) X.env)) (backToKw pos (keywordEach [] X.env))):=by rfl) :
 PE X (.Call (.Attribute (.Name cn p) m apos) (e::es) [] pos) (xO sp dvs E t):=by
 intro Z s σ H Q I h
 refine methodCall_KW (pl:=pl) (jf I hg hm (method_cls I.kIn sg (cls_value I.kIn hr' fc rfl ?_)) hdb) hte
 refine callWith_K (first:=[]) (h₀:=X.base) I.ok.mod.kin hk (b_ (ha pos Z _ σ H _ (I.tok _) h) fun us s1 ⟨vs,H1,I1,r,q⟩=>⟨I1.kIn,?_⟩) hst hpl
 exact rT F hr hb hd hx I1 r q
end
end L2
namespace L2
open PySem PySem.Spec PyProof.Rows
theorem Inv.stepN {X:Cx} {H H':Hp} {s:Shared} {h':Heap} {g':Array GenState} {t':Nat} {d':Drawn} {ch:List Addr} (I:Inv X Z σ H s)
 (hch:∀ b∈ch,X.s₀.heap.get? b=none/\b≠X.env.locals/\(∀ x c,X.env.cells.lookup x=some c->c≠b)/\∀ p∈X.pn++Z,p.1≠b)
 (keep:∀ b o,b≠X.env.locals->b∉X.fs->b∉ch->s.heap.get? b=some o->H b=none->h'.get? b=some o)
 (slot:∀ b o,b≠X.env.locals->b∈X.fs->b∉ch->s.heap.get? b=some o->H b=none->∃ sl,h'.get? b=some { o with slots:=sl }) (free:∀ b o,b∉ch->s.heap.get? b=some o->H b=none->H' b=none)
 (there:∀ b o,b∉ch->s.heap.get? b=some o->∃ o',h'.get? b=some o')
 (tups:∀ b xs,H b=some (.tup xs)->H' b=some (.tup xs)) (frzs:∀ b o u,H b=some (.frz o u)->H' b=some (.frz o u)) (tbls:∀ b ps,H b=some (.tbl ps)->∃ more,H' b=some (.tbl (ps++more)))
 (ns:∀ m,s.heap.Ns X.env.locals m->h'.Ns X.env.locals m) (hok:iK X.prog X.w H' h') (hg:AllBare g') :
 Inv X Z σ H' { s with heap:=h',gens:=g',drawn:=d',toks:=t' }:=by
 have neL:∀ b o,X.s₀.heap.get? b=some o->b≠X.env.locals:=fun b o e=>Nat.ne_of_lt (Nat.lt_of_lt_of_le (Heap.lt_size e) I.ok.above)
 have neC:∀ b o,X.s₀.heap.get? b=some o->b∉X.ex->b∉ch:=fun b o e hx hb=>by
  rw [(hch b hb).1] at e;cases e
 have cellK:∀ x c,X.env.cells.lookup x=some c->∀ v,s.heap.IsCell c v->h'.IsCell c v:=fun x c e v ⟨o,ho,hd⟩=>by
  have nch:c∉ch:=fun z=>(hch c z).2.2.1 x c e rfl
  by_cases hc:c∈X.fs
  ·obtain ⟨sl,q⟩:=slot c o (I.cne x c e) hc nch ho (I.freeC x c e)
   exact ⟨_,q,hd⟩
  ·exact ⟨o,keep c o (I.cne x c e) hc nch ho (I.freeC x c e),hd⟩
 refine ⟨I.ok,I.os,hg,⟨fun b o e n hb hx=>?_,fun b o e n hb hx=>?_,fun b o e n hx=>?_,fun b o e hx=>?_,fun b xs e=>tups b xs (I.base.tups b xs e),fun b o xs e=>frzs b o xs (I.base.frzs b o xs e),fun b ps e=>?_⟩,?_,fun x c e=>?_,?_,fun x c e=>?_,fun p hp=>?_,hok,I.len⟩
 ·exact keep b o (neL b o e) hb (neC b o e hx) (I.base.keep b o e n hb hx) (I.base.free b o e n hx)
 ·obtain ⟨sl,e1⟩:=I.base.slot b o e n hb hx
  obtain ⟨sl',e2⟩:=slot b _ (neL b o e) hb (neC b o e hx) e1 (I.base.free b o e n hx)
  exact ⟨sl',e2⟩
 ·obtain ⟨o',e1⟩:=I.base.there b o e hx
  exact free b o' (neC b o e hx) e1 (I.base.free b o e n hx)
 ·obtain ⟨o',e1⟩:=I.base.there b o e hx
  exact there b o' (neC b o e hx) e1
 ·obtain ⟨m1,e1⟩:=I.base.tbls b ps e
  obtain ⟨m2,e2⟩:=tbls b _ e1
  exact ⟨m1++m2,by rw [e2,Array.append_assoc]⟩
 ·obtain ⟨m,hn,hl⟩:=I.loc
  refine ⟨m,ns m hn,fun i x v e1 e2 e3=>?_⟩
  obtain ⟨u,r,l⟩:=hl i x v e1 e2 e3
  refine ⟨u,r,?_⟩
  rcases l with l|⟨k,c,e,z⟩
  ·exact .inl l
  ·exact .inr ⟨k,c,e,cellK x c e _ z⟩
 ·obtain ⟨v,z⟩:=I.cell x c e
  exact ⟨v,cellK x c e v z⟩
 ·obtain ⟨m,⟨o,_,_,ho,_⟩,_⟩:=I.loc
  exact free _ o (fun z=>(hch _ z).2.1 rfl) ho I.free
 ·obtain ⟨v,o,ho,hd⟩:=I.cell x c e
  exact free c o (fun z=>(hch c z).2.2.1 x c e rfl) ho (I.freeC x c e)
 ·obtain ⟨e,n,ne,nf,d⟩:=I.pin p hp
  have nch:p.1∉ch:=fun z=>(hch p.1 z).2.2.2 p hp rfl
  exact ⟨keep p.1 p.2 ne nf nch e n,free p.1 p.2 nch e n,ne,nf,d⟩
end L2
namespace L2
open PySem PySem.Spec PyProof.Rows PySem.SeqAt PySem.W Builtin.ObjectAttr
theorem Dp {X:Cx} {s s0:Shared} {A:Around} {Q:Unit->Shared->Prop} {E:Value->Shared->Prop} (I0:Inv X Z σ0 H0 s0) (I:Inv X Z σ H s) (hst:X.stack=X.env::X.outer) (hfm:X.env.frame=some X.env.locals) (hfr:A.frames=some X.stack) (hex:X.ex=[]) (hth:∀ b o,s0.heap.get? b=some o->∃ o',s.heap.get? b=some o') (x:fQ s.heap H s0.heap e cls dd)
 (h:∀ h',fQ h' H s0.heap e cls dd->Inv X Z σ H { s with heap:=h' }->Q () { s with heap:=h' }):wpAny (model X.prog X.w) A (noteFrame (.ref e) X.env) (fun _ s2=>wpAny (model X.prog X.w) A (setFlight (.ref e) none) Q E s2) E s:=by
 have hl:=I.stack
 rw [hst] at hfr hl
 obtain ⟨oe,vs,h1,h2,h3,h4,h5,h6,h7⟩:=x
 have free:∀ b∈(X.env::X.outer).filterMap (·.frame),H b=none:=fun b hb=>I.stkFree b (by rw [hst];exact hb)
 have old:∀ T,s0.heap.get? T=none->X.s₀.heap.get? T=none/\T≠X.env.locals/\(∀ x c,X.env.cells.lookup x=some c->c≠T)/\∀ p∈X.pn++Z,p.1≠T:=fun T hT=>by
  refine ⟨?_,?_,fun x c z q=>?_,fun p hp q=>?_⟩
  ·cases z:X.s₀.heap.get? T with
   |none=>rfl
   | some o=>
     obtain ⟨o',q⟩:=I0.base.there T o z (by rw [hex];simp)
     rw [hT] at q;cases q
  ·rintro rfl
   obtain ⟨_,⟨o,_,_,ho,_⟩,_⟩:=I0.loc
   rw [hT] at ho;cases ho
  ·obtain ⟨v,o,ho,_⟩:=I0.cell x c z
   rw [q,hT] at ho;cases ho
  ·have:=(I0.pin p hp).1
   rw [q,hT] at this;cases this
 have fin:∀ (ch:List Addr) (h':Heap) (T:Addr) (oe' oT:Obj) (vs' ts:Array Value),(∀ b∈ch,s0.heap.get? b=none/\H b=none)->s0.heap.get? T=none->T≠e->H T=none->h'.get? e=some oe'->oe'.cls=oe.cls->oe'.dict=oe.dict->oe'.data=.fields vs'->vs'[1]?=some (.ref T)->h'.get? T=some oT->oT.data=.fields ts->ts[3]?=some .none->
  (∀ b o,b∉ch->b∉(X.env::X.outer).filterMap (·.frame)->s.heap.get? b=some o->h'.get? b=some o)->(∀ b o,b∉ch->s.heap.get? b=some o->∃ sl,h'.get? b=some { o with slots:=sl })->Q () { s with heap:=h' }:=by
  intro ch h' T oe' oT vs' ts hch hT hTe hTn g1 g2 g3 g4 g5 g6 g7 g8 kp ks
  refine h h' ⟨oe',vs',g1,g2.trans h2,g3.trans h3,g4,h5,h6,.inr ⟨T,oT,ts,g5,hTe,g6,g7,g8,hT,hTn⟩⟩ ?_
  have ninF:∀ b,b≠X.env.locals->b∉X.fs->b∉(X.env::X.outer).filterMap (·.frame):=fun b hb hn hm=>by
   rw [List.filterMap_cons,hfm] at hm
   rcases List.mem_cons.mp hm with q|hm
   ·exact hb q
   ·exact hn hm
  refine I.stepN (ch:=ch) (g':=s.gens) (d':=s.drawn) (t':=s.toks) (fun b hb=>old b (hch b hb).1) (fun b o hL hf hc z _=>kp b o hc (ninF b hL hf) z) (fun b o _ _ hc z _=>ks b o hc z) (fun b o _ _ n=>n) (fun b o hc z=>let ⟨sl,q⟩:=ks b o hc z;⟨_,q⟩) (fun _ _ z=>z) (fun _ _ _ z=>z) (fun b ps z=>⟨#[],by rw [z];simp⟩) (fun m hm=>?_) (fun b u hb=>?_) I.bare
  ·obtain ⟨o,es,ep,ho,hd,r⟩:=hm
   have hnl:X.env.locals∉ch:=fun z=>(old _ (hch _ z).1).2.1 rfl
   obtain ⟨sl,q⟩:=ks _ o hnl ho
   exact ⟨_,es,ep,q,hd,r⟩
  ·refine (I.hok b u hb).stay (fun c v hc q=>kp c v (fun z=>?_) (fun hm=>?_) q) (fun _ q=>q) fun _ _ q=>q
   ·have:=(hch c z).2
    rcases hc with rfl|w
    ·rw [this] at hb;cases hb
    ·rw [this] at w;cases w
   ·have:=free c hm
    rcases hc with rfl|w
    ·rw [this] at hb;cases hb
    ·rw [this] at w;cases w
 have newT:∀ T,s.heap.objs.size≤T->s0.heap.get? T=none/\T≠e/\H T=none:=fun T hT=>by
  refine ⟨?_,fun q=>?_,I.hok.fresh hT⟩
  ·cases z:s0.heap.get? T with
   |none=>rfl
   | some o=>
     obtain ⟨o',q⟩:=hth T o z
     exact absurd (Nat.lt_of_lt_of_le (Heap.lt_size q) hT) (Nat.lt_irrefl _)
  ·subst q;exact absurd (Nat.lt_of_lt_of_le (Heap.lt_size h1) hT) (Nat.lt_irrefl _)
 unfold noteFrame
 simp only [hfm]
 rcases h7 with h7|⟨T,oT,ts,t1,t2,t3,t4,t5,t6,t7⟩
 ·refine wpAny_bind (wpAny_field h1 h4 h7 ?_)
  rw [if_neg (by decide)]
  refine q9 hfr hl hfm h1 h4 (Array.getElem?_eq_some_iff.mp h7).1 fun h' T oe' oT vs' ts hT g1 g2 g3 g4 g5 g6 g7 g8 kp ks=>?_
  obtain ⟨n1,n2,n3⟩:=newT T hT
  exact fin [e] h' T oe' oT vs' ts (fun b hb=>by cases List.mem_singleton.mp hb;exact ⟨h5,h6⟩) n1 n2 n3 g1 g2 g3 g4 g5 g6 g7 g8 (fun b o hb hm z=>kp b o (fun q=>hb (by simp [q])) hm z) fun b o hb z=>ks b o (fun q=>hb (by simp [q])) z
 ·refine wpAny_bind (wpAny_field h1 h4 t1 ?_)
  rw [if_pos (show (Value.ref T != Value.none)=true by simp)]
  refine wpAny_bind (wpAny_field t3 t4 t5 ?_)
  rw [if_neg (show ¬ ((Value.none == rawInt X.env.locals)=true) by simp [rawInt])]
  refine wpAny_bind (wpAny_setField t3 t4 (Array.getElem?_eq_some_iff.mp t5).1 ?_)
  have other:∀ b,b≠T->(s.heap.update T (Obj.mapFields (·.setIfInBounds 3 Value.none))).get? b=s.heap.get? b:=fun b hb=>Heap.get?_update_other _ _ (Ne.symm hb)
  have noR:∀ b o,s.heap.get? b=some o->(∀ vs,o.data≠.fields vs)->b≠T:=fun b o hb hnf q=>by
   subst q
   rw [t3] at hb
   cases hb
   exact hnf ts t4
  refine q9 (s:={ s with heap:=s.heap.update T (Obj.mapFields (·.setIfInBounds 3 Value.none)) }) hfr (hl.of_keeps fun b o hb hnf=>⟨o,(other b (noR b o hb hnf)).trans hb,rfl⟩) hfm ((other e (Ne.symm t2)).trans h1) h4 (Array.getElem?_eq_some_iff.mp t1).1 fun h' T' oe' oT' vs' ts' hT g1 g2 g3 g4 g5 g6 g7 g8 kp ks=>?_
  have hT':s.heap.objs.size≤T':=by
   have z:(s.heap.update T (Obj.mapFields (·.setIfInBounds 3 Value.none))).objs.size=s.heap.objs.size:=Heap.size_update _ _ _
   exact Nat.le_trans (Nat.le_of_eq z.symm) hT
  obtain ⟨n1,n2,n3⟩:=newT T' hT'
  refine fin [e,T] h' T' oe' oT' vs' ts' (fun b hb=>?_) n1 n2 n3 g1 g2 g3 g4 g5 g6 g7 g8 (fun b o hb hm z=>kp b o (fun q=>hb (by simp [q])) hm ((other b fun q=>hb (by simp [q])).trans z)) fun b o hb z=>ks b o (fun q=>hb (by simp [q])) ((other b fun q=>hb (by simp [q])).trans z)
  rcases List.mem_cons.mp hb with rfl|hb
  ·exact ⟨h5,h6⟩
  ·cases List.mem_singleton.mp hb;exact ⟨t6,t7⟩
theorem Fp {h:Heap} {f:Obj->Obj} (e:h.get? a=some o) (hf:f o=o):h.update a f=h:=by
 obtain ⟨objs,l⟩:=h
 have e':objs[a]?=some o:=by
  unfold Heap.get? at e
  dsimp only at e
  split at e
  ·cases e
  ·exact e
 show (⟨objs.modify a f,l⟩:Heap)=⟨objs,l⟩
 congr 1
 obtain ⟨hlt,e2⟩:=Array.getElem?_eq_some_iff.mp e'
 refine Array.ext (by simp) fun i h1 h2=>?_
 rw [Array.getElem_modify]
 split
 ·rename_i q
  subst q
  rw [e2,hf]
 ·rfl
theorem Inv.drop {σ:St} (I:Inv X Z σ H s) (i:Nat):Inv X Z (σ.set i none) H s:=by
 obtain ⟨ok,os,bare,base,⟨m,hn,hl⟩,cell,free,freeC,pin,hok,len⟩:=I
 refine ⟨ok,os,bare,base,⟨m,hn,fun j x v e1 e2 e3=>?_⟩,cell,free,freeC,pin,hok,by simpa using len⟩
 by_cases hj:j=i
 ·subst hj
  rw [List.getElem?_set] at e2
  split at e2 <;> simp_all
 ·rw [List.getElem?_set_ne (Ne.symm hj)] at e2
  exact hl j x v e1 e2 e3
theorem lW {X:Cx} {σ:St} {Q:Unit->Shared->Prop} (I:Inv X Z σ H s) (hN:X.N.Nodup) (hi:X.N[i]?=some x) (hx:X.env.scope.names.lookup x=some .local)
 (h:∀ s',Inv X Z (σ.set i none) H s'->Q () s'):wpAny M A (do bindName X.env x .none;unbindBehindTheSuite X.env x pos) Q E s:=by
 have hcls:(X.env.scope.kind == .class || (X.env.scope.kind == .module && X.env.locals != X.env.globals))=false:=by rw [I.ok.kind];rfl
 have hiσ:i<σ.length:=by rw [I.len];exact (List.getElem?_eq_some_iff.mp hi).1
 refine wpAny_bind (wpAny_bindName (ik I hN hi (.inl hx) (v:=.non) (u:=.none) rfl (fun s1 I1=>?_) (.inr hx)))
 obtain ⟨m,hn,hl⟩:=id I1.loc
 obtain ⟨u,_,lk⟩:=hl i x .non hi (by rw [List.getElem?_set_self hiσ]) (.inl hx)
 have hv:m x=some u:=by
  rcases lk with ⟨_,z⟩|⟨k,_⟩
  ·exact z
  ·unfold Env.kindOf at k
   rw [hx] at k
   rcases k with k|k <;> cases k
 unfold unbindBehindTheSuite
 refine wpAny_onRaise (wpAny_unbindName_local hx hn hv hcls fun h' u' hn' hs=>?_)
 have I2:=I1.drop i
 rw [List.set_set] at I2
 obtain ⟨ok,os,bare,base,⟨m2,hn2,hl2⟩,cell,free,freeC,pin,hok,len⟩:=id I2
 obtain ⟨oL,_,_,hoL,_⟩:=id hn
 have neL:∀ b o,X.s₀.heap.get? b=some o->b≠X.env.locals:=fun b o e=>Nat.ne_of_lt (Nat.lt_of_lt_of_le (Heap.lt_size e) ok.above)
 refine h _ ⟨ok,os,bare,⟨fun b o e n hb hx=>?_,fun b o e n hb hx=>?_,base.free,fun b o e hx=>?_,base.tups,base.frzs,base.tbls⟩,⟨_,hn',fun j y v' e1 e2 e3=>?_⟩,fun y c e=>?_,free,freeC,fun p hp=>?_,fun b ob e=>?_,len⟩
 ·exact (hs.2 b (neL b o e)).trans (base.keep b o e n hb hx)
 ·obtain ⟨sl,e1⟩:=base.slot b o e n hb hx
  exact ⟨sl,(hs.2 b (neL b o e)).trans e1⟩
 ·obtain ⟨o',e1⟩:=base.there b o e hx
  exact ⟨o',(hs.2 b (neL b o e)).trans e1⟩
 ·have hj:j≠i:=fun q=>by
   subst q
   rw [List.getElem?_set_self hiσ] at e2;cases e2
  rw [List.getElem?_set_ne (Ne.symm hj)] at e2
  obtain ⟨u'',r',q⟩:=hl j y v' e1 (by rw [List.getElem?_set_ne (Ne.symm hj)];exact e2) e3
  refine ⟨u'',r',?_⟩
  rcases q with ⟨k,e⟩|⟨k,c,e,z⟩
  ·refine .inl ⟨k,?_⟩
   have:y≠x:=fun e=>hj (jR hN e1 (e ▸ hi))
   simp [this,e]
  ·exact .inr ⟨k,c,e,z.sameBut hs (I1.cne y c e)⟩
 ·obtain ⟨w',z⟩:=I1.cell y c e
  exact ⟨w',z.sameBut hs (I1.cne y c e)⟩
 ·obtain ⟨e,n,ne,nf,d⟩:=pin p hp
  exact ⟨(hs.2 p.1 ne).trans e,n,ne,nf,d⟩
 ·refine (hok b ob e).stay (fun c w' hc q=>(hs.2 c ?_).trans q) (fun _ q=>q) fun _ _ q=>q
  rintro rfl
  rcases hc with rfl|hc
  ·rw [free] at e;cases e
  ·rw [free] at hc;cases hc
theorem t_ {s s0:Shared} {Q:Unit->Shared->Prop} (x:fQ s.heap H s0.heap e cls dd) (h:Q () s):wpAny M A (setFlight (.ref e) none) Q E s:=by
 obtain ⟨oe,vs,h1,h2,h3,h4,h5,h6,h7⟩:=x
 unfold setFlight
 rcases h7 with h7|⟨T,oT,ts,t1,t2,t3,t4,t5,t6,t7⟩
 ·refine wpAny_bind (wpAny_field h1 h4 h7 ?_)
  rw [if_neg (by decide)]
  exact wpAny_pure h
 ·refine wpAny_bind (wpAny_field h1 h4 t1 ?_)
  rw [if_pos (show (Value.ref T != Value.none)=true by simp)]
  refine wpAny_setField t3 t4 (Array.getElem?_eq_some_iff.mp t5).1 ?_
  have:s.heap.update T (Obj.mapFields (·.setIfInBounds 3 ((none:Option Addr).elim Value.none fun f=>rawInt f)))=s.heap:=by
   refine Fp t3 ?_
   obtain ⟨c,d,da,sl⟩:=oT
   cases (show da=.fields ts from t4)
   show (⟨c,d,.fields (ts.setIfInBounds 3 .none),sl⟩:Obj)=⟨c,d,.fields ts,sl⟩
   have:ts.setIfInBounds 3 .none=ts:=by
    obtain ⟨hlt,e2⟩:=Array.getElem?_eq_some_iff.mp t5
    refine Array.ext (by simp) fun i h1 h2=>?_
    rw [Array.getElem_setIfInBounds]
    split
    ·rename_i q
     subst q
     exact e2.symm
    ·rfl
   rw [this]
  rw [this]
  exact h
def yf (X:Cx) (ea:Addr) (ps:List (Addr×Obj)):Cx:={ X with A:=X.A.mark (some (.ref ea)),calm:=false,pn:=X.pn++ps,xe:=fun _ _=>False }
theorem Cx.Ok.into (ok:X.Ok):(yf X ea ps).Ok:=
 ⟨ok.mod,ok.kind,ok.glob,ok.blt,ok.above,ok.inj,ok.has,ok.cab,(fun h=>nomatch h),ok.frames,ok.stk,ok.exf,ok.bs,ok.bsz,ok.noex,ok.exfs,ok.funs,ok.frf⟩
theorem Inv.into (I:Inv X Z σ H s) (hp:∀ p∈ps,s.heap.get? p.1=some p.2/\H p.1=none/\p.1≠X.env.locals/\p.1∉X.fs/\∀ v,p.2.data≠.cell v):Inv (yf X ea ps) Z σ H s:=by
 refine ⟨I.ok.into,I.os,I.bare,I.base,I.loc,I.cell,I.free,I.freeC,fun p h=>?_,I.hok,I.len⟩
 rcases List.mem_append.mp h with h|h
 ·rcases List.mem_append.mp h with h|h
  ·exact I.pin p (List.mem_append_left _ h)
  ·exact hp p h
 ·exact I.pin p (List.mem_append_right _ h)
theorem Inv.outof (I:Inv (yf X ea ps) Z σ H s) (ok:X.Ok):Inv X Z σ H s:=by
 refine ⟨ok,I.os,I.bare,I.base,I.loc,I.cell,I.free,I.freeC,fun p h=>?_,I.hok,I.len⟩
 rcases List.mem_append.mp h with h|h
 ·exact I.pin p (List.mem_append_left _ (List.mem_append_left _ h))
 ·exact I.pin p (List.mem_append_right _ h)
theorem Inv.handle (I0:Inv X Z σ0 H0 s0) (I:Inv X Z σ H s) (x:fQ s.heap H s0.heap e cls dd):∃ ps oe,(e,oe)∈ps/\oe.cls=cls/\oe.dict=dd/\(∃ vs,oe.data=.fields vs)/\Inv (yf X e ps) Z σ H s/\∀ {σ1 H1 s1},Inv (yf X e ps) Z σ1 H1 s1->fQ s1.heap H1 s0.heap e cls dd:=by
 obtain ⟨oe,vs,h1,h2,h3,h4,h5,h6,h7⟩:=x
 have new:∀ T o vs,s0.heap.get? T=none->s.heap.get? T=some o->H T=none->o.data=.fields vs->s.heap.get? T=some o/\H T=none/\T≠X.env.locals/\T∉X.fs/\∀ v,o.data≠.cell v:=fun T o vs hT ho hn hd=>by
  refine ⟨ho,hn,?_,fun q=>?_,fun v q=>by rw [hd] at q;cases q⟩
  ·rintro rfl
   obtain ⟨_,⟨o,_,_,ho,_⟩,_⟩:=I0.loc
   rw [hT] at ho;cases ho
  ·obtain ⟨_,o,ho,_⟩:=I0.funs.mem q
   rw [hT] at ho;cases ho
 rcases h7 with h7|⟨T,oT,ts,t1,t2,t3,t4,t5,t6,t7⟩
 ·refine ⟨[(e,oe)],oe,List.mem_singleton.mpr rfl,h2,h3,⟨_,h4⟩,I.into fun p hp=>?_,fun {σ1 H1 s1} I1=>?_⟩
  ·cases List.mem_singleton.mp hp
   exact new e oe vs h5 h1 h6 h4
  ·have p:=I1.pin (e,oe) (List.mem_append_left _ (List.mem_append_right _ (List.mem_singleton.mpr rfl)))
   exact ⟨oe,vs,p.1,h2,h3,h4,h5,p.2.1,.inl h7⟩
 ·refine ⟨[(e,oe),(T,oT)],oe,List.mem_cons_self,h2,h3,⟨_,h4⟩,I.into fun p hp=>?_,fun {σ1 H1 s1} I1=>?_⟩
  ·rcases List.mem_cons.mp hp with rfl|hp
   ·exact new e oe vs h5 h1 h6 h4
   ·cases List.mem_singleton.mp hp
    exact new T oT ts t6 t3 t7 t4
  ·have p:=I1.pin (e,oe) (List.mem_append_left _ (List.mem_append_right _ List.mem_cons_self))
   have q:=I1.pin (T,oT) (List.mem_append_left _ (List.mem_append_right _ (List.mem_cons_of_mem _ (List.mem_singleton.mpr rfl))))
   exact ⟨oe,vs,p.1,h2,h3,h4,h5,p.2.1,.inr ⟨T,oT,ts,t1,t2,q.1,t4,t5,t6,q.2.1⟩⟩
theorem wD {s:Shared} {K:Frag} {Q:Bool->Shared->Prop} {oe:Obj} (kin:K.In s.heap) (he:s.heap.get? e=some oe) (hcls:oe.cls=.ref Ce) (XC:jq K C B newId) (hm:mroIn K Ce (.ref C)=some b) (h:Q b s) :
 wpAny (model P w) A (excMatches (.ref e) (.ref C)) Q E s:=by
 have Y:=jg (M:=model P w) kin XC.mks
 obtain ⟨⟨oc,od,cd,sl,hC,_,_,_⟩,_,_,_,_,isE,_,_,_,typ⟩:=Y
 have T1:Looks (model P w) s.heap (typeOf (.ref e)) (.ref Ce):=hcls ▸ (Looks.ld he).andThen .now
 have T2:Looks (model P w) s.heap (typeOf (.ref C)) (.type "type"):=looks_typeIn kin XC.ty
 have T4:Looks (model P w) s.heap (isSubtype (.ref Ce) (.ref C)) b:=looks_mroIn kin hm
 have f:=tc_notTuple
 obtain ⟨hp,g,d,tk,os⟩:=s
 unfold excMatches
 repeat (first|with_reducible refine wpAny_loadPart_at hC ?_|with_reducible refine isE.at ?_|with_reducible refine T4.at ?_|with_reducible refine typ.at ?_|with_reducible refine T1.at ?_|with_reducible refine T2.at ?_|wp_step)
 cases b <;> (wp_walk;exact h)
abbrev Nb:=Ends->Addr->Option Addr->St->Hp->Prop
def PH (X:Cx) (hs:List ExceptHandler) (th:Nb):Prop:=
 ∀ (Z:List (Addr×Obj)) (s0:Shared) (σ0:St) (H0:Hp) (s:Shared) (σ:St) (H:Hp) (D:Ends) (ea Ce:Addr) (dd:Option Addr),Inv X Z σ0 H0 s0->Inv X Z σ H s->fQ s.heap H s0.heap ea (.ref Ce) dd->th D Ce dd σ H->wpAny (model X.prog X.w) X.A (handleBy (.ref ea) X.env hs) (SP X Z D) X.xe s
def xx (i:Nat) (D:Ends):Ends:=⟨fun σ H=>D.nx (σ.set i none) H,D.rt,fun σ H=>D.bk (σ.set i none) H,fun σ H=>D.ct (σ.set i none) H⟩
def Oh (K:Frag) (C:Addr) (B newId:String) (i:Nat) (tb:Addr->Addr->Option Addr->TS) (tr:Nb):Nb:=fun D Ce dd σ H=>jq K C B newId/\∃ b,mroIn K Ce (.ref C)=some b/\if b then ∀ ea,tb ea Ce dd (xx i D) (σ.set i (some (.ref ea))) H else tr D Ce dd σ H
theorem Gw:PH X [] (fun _ _ _ _ _=>False):=fun _ _ _ _ _ _ _ _ _ _ _ _ _ _ h=>h.elim
theorem pB {X:Cx} {t:Expr} {n:Str} {b0:Stmt} {body:List Stmt} {pos:Pos} {rest:List ExceptHandler} {C:Addr} {B newId:String} {i:Nat} {tb:Addr->Addr->Option Addr->TS} {tr:Nb} (hN:X.N.Nodup) (hi:X.N[i]?=some n) (hx:X.env.scope.names.lookup n=some .local)
 (ht:∀ ea ps,PE (yf X ea ps) t (tC (.ref C))) (hb:∀ ea oe ps Ce dd,(ea,oe)∈ps->oe.cls=.ref Ce->oe.dict=dd->(∃ vs,oe.data=.fields vs)->p7 (yf X ea ps) (b0::body) (tb ea Ce dd)) (hr:PH X rest tr) :
 PH X (.ExceptHandler (some t) (some n) (b0::body) pos::rest) (Oh X.K C B newId i tb tr):=by
 intro Z s0 σ0 H0 s σ H D ea Ce dd I0 I x h
 obtain ⟨XC,b,hm,hk⟩:=h
 obtain ⟨ps,oe,hmem,hc,hd,hvs,IH,back⟩:=I0.handle I x
 refine wpAny_handleBy_cons (codeAny_handlers_test (wpAny_mono (ht ea ps Z s σ H (fun v H1=>v=.ref C/\H1=H) IH ⟨rfl,rfl⟩) (fun c s1 z=>?_) fun _ _ z=>z.elim)) (by intro q;cases q)
 obtain ⟨v,H1,I1,r,rfl,rfl⟩:=z
 cases (show c=Value.ref C from r)
 have p:=I1.pin (ea,oe) (List.mem_append_left _ (List.mem_append_right _ hmem))
 refine wD I1.kIn p.1 hc XC hm ?_
 cases b with
 |false=>exact hr Z s0 σ0 H0 s1 σ H1 D ea Ce dd I0 (I1.outof I.ok) (back I1) hk
 | true=>
   refine codeAny_handlers_suite_as (t_ (back I1) (ik (X:=yf X ea ps) I1 hN hi (.inl hx) (v:=.ref ea) rfl (fun s2 I2=>wpAny_mono (hb ea oe ps Ce dd hmem hc hd hvs Z s2 _ _ (xx i D) I2 (hk ea)) (fun f s3 z=>?_) fun _ _ z=>z.elim) (.inr hx)))
   show wpAny _ X.A _ _ X.xe s3
   cases f with
   | next=>
     obtain ⟨σ',H',I3,q⟩:=z
     exact lW (I3.outof I.ok) hN hi hx fun s' I'=>⟨_,_,I',q⟩
   | brk=>
     obtain ⟨σ',H',I3,q⟩:=z
     exact lW (I3.outof I.ok) hN hi hx fun s' I'=>⟨_,_,I',q⟩
   | cont=>
     obtain ⟨σ',H',I3,q⟩:=z
     exact lW (I3.outof I.ok) hN hi hx fun s' I'=>⟨_,_,I',q⟩
   | ret u=>
     obtain ⟨v,σ',H',I3,r',q⟩:=z
     exact lW (I3.outof I.ok) hN hi hx fun s' I'=>⟨v,_,_,I',r',q⟩
def zr (X:Cx) (Z:List (Addr×Obj)) (s0:Shared) (W:Addr->Option Addr->St->Hp->Prop):Value->Shared->Prop:=fun v s=>∃ ea Ce dd σ H,v=.ref ea/\Inv X Z σ H s/\(∀ b o,s0.heap.get? b=some o->∃ o',s.heap.get? b=some o')/\fQ s.heap H s0.heap ea (.ref Ce) dd/\W Ce dd σ H
abbrev Uy:=Ends->(Addr->Option Addr->St->Hp->Prop)->St->Hp->Prop
def VF (X:Cx) (st:List Stmt) (t:Uy):Prop:=
 ∀ (Z:List (Addr×Obj)) (s:Shared) (σ:St) (H:Hp) (D:Ends) (W:Addr->Option Addr->St->Hp->Prop),Inv X Z σ H s->t D W σ H->wpAny (model X.prog X.w) X.A (execs st X.env) (SP X Z D) (zr X Z s W) s
def U8 (t:Uy) (th:Nb):TS:=fun D σ H=>t D (fun Ce dd σ' H'=>th D Ce dd σ' H') σ H
theorem Ek (hst:X.stack=X.env::X.outer) (hfm:X.env.frame=some X.env.locals) (hex:X.ex=[]) (hb:VF X body t) (hh:PH X (h0::hs) th):PS X (.Try body (h0::hs) [] [] pos) (U8 t th):=by
 intro Z s σ H D I h
 refine wpAny_Try_except (wpAny_mono (hb Z s σ H D _ I h) (fun f s1 z=>?_) fun v s1 z=>?_)
 ·cases f with
  |next=>exact wpAny_execs_nil z
  |brk=>exact z
  |cont=>exact z
  |ret u=>exact z
 ·obtain ⟨ea,Ce,dd,σ1,H1,rfl,I1,th1,x,q⟩:=z
  refine Dp I I1 hst hfm I.ok.frames hex th1 x fun h' x' I2=>hh Z s σ H _ σ1 H1 D ea Ce dd I I2 x' q
structure Thunk (P:Program) (w:World) (K:Frag) (mg:Str->Option Value) (base:Heap) (g:Heap) (H₀:Hp) (fr:List Addr) (k:Nat) (f:Addr) (H:Hp) (Qv:VK) (Ev:XK):Prop where
 fn:∀ s:Shared,iK P w H s.heap->∃ fo fd,s.heap.get? f=some fo/\fo.data=.func fd
 run:∀ (A:Around) (outer:List Env) (s:Shared),bK k A->oY P w K mg base A outer s H->(∀ b o,g.get? b=some o->H₀ b=none->b∉fr->s.heap.get? b=some o)->codeAny (model P w) A (.call (.ref f) ⟨[],[]⟩) (CR (sW P w) outer P w H s Qv Ev) s
theorem keeps_F (h:Heap) (z:∃ fo fd,h.get? f=some fo/\fo.data=.func fd):∃ k,(k=Keeper.frame∨k=Keeper.machine∨k=Keeper.boundFrame)/\Looks M h (keeperOf (.ref f)) k:=by
 obtain ⟨fo,fd,e,d⟩:=z
 obtain ⟨c,di,da,sl⟩:=fo
 cases (show da=.func fd from d)
 exact ⟨.frame,.inl rfl,(Looks.ld (part:=none) e).andThen .now⟩
def HW (X:Cx) (k i j:Nat):Uy:=fun D W σ H=>∃ f Qv Ev,σ[j]?=some (some (.ref f))/\Thunk X.prog X.w X.K X.mg X.base X.s₀.heap X.H₀ X.fs k f H Qv Ev/\(∀ v H',Qv v H'->D.nx (σ.set i (some v)) H')/\∀ cls dd H',Ev cls dd H'->∃ Ce,cls=.ref Ce/\W Ce dd σ H'
theorem wM (hN:X.N.Nodup) (hi:X.N[i]?=some x) (hx:Loc X.env.scope x) (hj:X.N[j]?=some a) (ha:Jc X.env.scope a) (hex:X.ex=[]) (hr:bK k X.A) (hs:swapsWith (.Call (.Name a pa) [] [] pc) (some (.Name x px)) pos.line X.env=pure false:=by rfl) (hf:X.fn x=true∨X.env.scope.names.lookup x=some .local:=by first|exact .inl rfl|exact .inr rfl|assumption)
 (hd:(a == ("__debug__" : Str))=false:=by decide) (hcd:(a == ("__classdict__" : Str))=false:=by decide) :
 VF X [.Assign [.Name x px] (.Call (.Name a pa) [] [] pc) pos] (HW X k i j):=by
 intro Z s σ H D W I h
 obtain ⟨f,Qv,Ev,e,T,hv,he⟩:=h
 have kp:∀ b o,X.s₀.heap.get? b=some o->X.H₀ b=none->b∉X.fs->s.heap.get? b=some o:=fun b o z n hb=>I.base.keep b o z n hb (by rw [hex];simp)
 have fin:∀ t:Sem Flow,wpAny (model X.prog X.w) X.A t (fun f s1=>f=.next/\∃ v H',Inv X Z (σ.set i (some v)) H' s1/\Qv v H') (zr X Z s W) s->wpAny (model X.prog X.w) X.A t (SP X Z D) (zr X Z s W) s:=fun t ht=>b_ ht fun f s1 ⟨q,v,H',I1,z⟩=>by subst q;exact ⟨_,_,I1,hv _ _ z⟩
 have one:wpAny (model X.prog X.w) X.A (exec (.Assign [.Name x px] (.Call (.Name a pa) [] [] pc) pos) X.env) (fun f s1=>f=.next/\∃ v H',Inv X Z (σ.set i (some v)) H' s1/\Qv v H') (zr X Z s W) s:=by
  refine wpAny_Assign_Name (b_ (Q:=EP X Z σ Qv) ?_ fun v s1 ⟨y,H1,I1,r1,q1⟩=>ik I1 hN hi hx r1 (fun s2 I2=>⟨rfl,y,H1,I2,q1⟩) hf) hs
  refine wpAny_Call_Name_kw ?_
  have named:∀ Q':Value->Shared->Prop,Q' (.ref f) s->wpAny (model X.prog X.w) X.A (eval (.Name a pa) X.env) Q' (zr X Z s W) s:=fun Q' hq=>by
   obtain ⟨m,hn,hl⟩:=I.loc
   obtain ⟨u,r,l⟩:=hl j a (.ref f) hj e ha
   cases (show u=Value.ref f from r)
   rcases l with ⟨hk,hm⟩|⟨hk,c,hc,hcell⟩
   ·exact wpAny_Name (wpAny_loadName_local I.ok.kind hk hn hm hq) hd
   ·rcases hk with hk|hk
    ·exact wpAny_Name (wpAny_loadName_cell I.ok.kind hk hc hcell hq) hd
    ·exact wpAny_Name (wpAny_loadName_free I.ok.kind hk hc hcell hq hcd) hd
  refine named _ ?_
  obtain ⟨fo,fd,g1,g2⟩:=T.fn s I.hok
  refine callWith_of (P:=fun h=>∃ fo fd,h.get? f=some fo/\fo.data=.func fd) rfl keeps_F (evalArgs_nil3 ⟨⟨fo,fd,g1,g2⟩,?_⟩)
  refine wpAny_call (codeAny_mono (T.run X.A X.stack s hr I.env0 kp) fun r s' hq=>?_)
  cases r with
  | error ev=>
    obtain ⟨ea,cls,dd,H',rfl,os,bare,un,hok,xo,q⟩:=hq
    obtain ⟨Ce,rfl,z⟩:=he _ _ _ q
    refine ⟨ea,Ce,dd,σ,H',rfl,I.call' os un hok bare (fun b z=>absurd z (by simp)),fun b o z=>un.there b o z (by simp),xo,z⟩
  | ok fl=>
    cases fl with
    |ret u=>exact I.after hq
    |next=>exact False.elim hq
    |brk=>exact False.elim hq
    |cont=>exact False.elim hq
 refine wpAny_execs_cons (b_ one fun fl s1 z=>?_)
 obtain ⟨rfl,v,H',I1,q⟩:=z
 exact wpAny_execs_nil ⟨_,_,I1,hv _ _ q⟩
structure vX (K:Frag) (C:Addr) (f:Str):Prop where
 ga:findIn K (.ref C) "__getattribute__" = some (some (.builtin "BaseException.__getattribute__"))
 gh:findIn K (.ref C) "__getattr__" = some none
 hd:hasDictIn K C=true
 na:findIn K (.ref C) f=some none
 be:mroIn K C (.type "BaseException")=some true
theorem UG {s:Shared} {K:Frag} {Q:Value->Shared->Prop} (X:K.In s.heap) (I:InstAt s.heap x ox C od) (G:vX K C name) (hf:findObj K C od name=some (.value v)) (hh:handedIn v=true) (h:Q v { s with toks:=s.toks+1 }):wpAny (model prog w) A (getAttr (.ref x) name expr) Q E s:=by
 obtain ⟨hp,g,d,t,os⟩:=s
 have L0:=I.type (M:=model prog w)
 have L1:=looks_findIn (M:=model prog w) X G.ga
 have L2:=looks_findIn (M:=model prog w) X G.gh
 have L3:=looks_find (M:=model prog w) X I hf
 have LB:Looks (model prog w) hp (isInstance (.ref x) (.type "BaseException")) true:=L0.andThen (looks_mroIn X G.be)
 have f3:=F.excAttr_ValueError.ga.bind (.ref x)
 have hx0:(expr && onTheHeap (Value.builtin "BaseException.__getattribute__"))=false:=by cases expr <;> rfl
 have hx2:(Value.builtin "BaseException.__getattribute__" == Value.builtin "object.__getattribute__")=false:=by decide +kernel
 have hx1:(onTheHeap (Value.ref C) && Value.builtin "BaseException.__getattribute__" == Value.builtin "object.__getattribute__")=false:=by rw [hx2];rfl
 unfold getAttr getAttrBy
 refine wpAny_bind (wpAny_mkText (wpAny_holding (wpAny_bind (L0.at (wpAny_bind (L1.at ?_))))))
 dsimp only
 rw [if_neg (by rw [hx1];decide)]
 unfold getAttrByItsOwn hookBefore
 rw [if_pos (show onTheHeap (Value.ref C)=true from rfl)]
 refine wpAny_bind (L2.at ?_)
 have key:∀ R:Result->Shared->Prop,R (.ok (.ret v)) ⟨hp,g,d,t+1,os⟩->codeAny (model prog w) A (.call (.builtin "BaseException.__getattribute__") ⟨[.ref x,.str name t],[]⟩) R ⟨hp,g,d,t+1,os⟩:=fun R hR=>by
  refine codeAny_call_builtin F.excAttr_ValueError.ga.plain F.entry_bexc_ga (check_slot (i:="BaseException.__getattribute__") (owner:="BaseException") (n:="__getattribute__") (by decide +kernel) (by decide +kernel) LB (F.args_bexc_ga _ _) ?_)
  refine wpAny_bind (wpAny_pure (wpAny_bind (wpAny_pure (wpAny_bind (L0.at (wpAny_bind (L3.at ?_)))))))
  exact wpAny_pure hR
 have done:wpAny (model prog w) A (handedOut v) Q E ⟨hp,g,d,t+1,os⟩:=by rw [handedOut_of hh];exact wpAny_pure h
 clear L0 L1 L2 L3 LB hf I G X
 repeat (any_goals (first|assumption|wp_step))
 exact key _ done
def NT (K:Frag) (ea C:Addr) (dd:Option Addr) (ta:TE) (f:Str):TE:=fun σ H Q=>ta σ H fun x H1=>∃ da fs v,x=.ref ea/\dd=some da/\H1 da=some (pA da fs)/\vX K C f/\fs.lookup f=some v/\Q v H1
theorem Hu (hm:(ea,oe)∈X.pn) (hc:oe.cls=.ref C) (hdct:oe.dict=dd) (hd:∃ vs,oe.data=.fields vs) (he:PE X e ta) (hb:attributeBase e f X.env (eval e X.env)=eval e X.env:=by rfl):PE X (.Attribute e f pos) (NT X.K ea C dd ta f):=by
 intro Z s σ H Q I h
 refine ur hb (b_ (he Z s σ H _ I h) fun u s1 ⟨x,H1,I1,rx,da,fs,v,ex,ed,hH,G,l,q⟩=>?_)
 subst ex
 subst ed
 obtain rfl:u=Value.ref ea:=rx
 have p:=(I1.pin (ea,oe) (List.mem_append_left _ hm)).1
 obtain ⟨⟨mA,hn,r,wi⟩,_,_⟩:=I1.hok da _ hH
 obtain ⟨u,hu,ru⟩:=h_.some_of (v:=v) (o:=mA f) (by rw [← l];exact r f)
 obtain ⟨od,ho,hl⟩:=lg hn
 obtain ⟨vs,hvs⟩:=hd
 have J:InstAt s1.heap ea oe C (some od):=⟨p,hc,by unfold notCls;rw [hvs],by rw [hdct];exact ho⟩
 exact UG I1.kIn J G (findObj_own G.hd G.na rfl (by rw [hl,hu])) (nQ ru) ⟨v,H1,I1.tok _,ru,q⟩
end L2
namespace L2
open PySem PySem.Spec PyProof.Rows
structure nC (P:Program) (w:World) (K:PySem.W.Frag) (mg:Str->Option Value) (base:Heap) (CX:rF) (k:Nat) (f:Addr) (fd:FuncData) (ps:List Str) (sp:Shared->List Env->Sp):Prop where
 len:∀ s outer vs H Q E,sp s outer vs H Q E->vs.length=ps.length
 run:∀ (A:Around) (outer:List Env) (s:Shared) (H:Hp) (args:Args) (us:List Value) (vs:List V) (Q:VK) (E:XK),bK k A->oY P w K mg base A outer s H->BindsTo s fd args (ps.zip us)->Vals vs us->sp s outer vs H Q E->
  codeAny (model P w) A (.call (.ref f) args) (CR CX outer P w H s Q E) s
theorem Gk {CX:rF} {P:Program} {w:World} {K:PySem.W.Frag} {mg:Str->Option Value} {base:Heap} {k:Nat} {f:Addr} {name qual:Str} {params:Arguments} {body:List Stmt} {scope:Scope} {dV kV doc pm cdv ct oc:Value} {an od:Option Addr}
 {osl:Array (Option Value)} {N ps:List Str} {sp:Shared->List Env->Sp} (lk:K.lookup f=some ⟨oc,od,.func (PySem.W.fnOf name qual params body scope dV kV doc pm an cdv ct),osl⟩) (hcd:PySem.W.codeIn K cdv qual=true) (S:aU N ps scope)
 (len:∀ s outer vs H Q E,sp s outer vs H Q E->vs.length=ps.length)
 (hbody:∀ (A:Around) (outer:List Env) (s:Shared) (H:Hp) (vs:List V) (Q:VK) (E:XK),bK k (A.deeper (envOfC qual scope s.heap.objs.size f cdv))->sp s outer vs H Q E->
  ∃ t,p7 (iH CX P w K mg base N qual scope f cdv A outer s H E) body t/\t { nx:=fun _ H'=>Q .non H',rt:=Q } (start N vs) H) :
 nC P w K mg base CX (k+1) f (PySem.W.fnOf name qual params body scope dV kV doc pm an cdv ct) ps sp:=by
 refine ⟨len,fun A outer s H args us vs Q E hr e0 hb r hsp=>?_⟩
 have hl:=len _ _ _ _ _ _ hsp
 have KX:K.In s.heap:=e0.mod.kin.keeps fun b o e=>(e0.bs b o e).1
 have lim:s.heap.NoLimit:=e0.mod.nolimit.keeps fun b o e=>(e0.bs b o e).1
 have hkind:∀ y∈ps.zip us,scope.names.lookup y.1=some .local∨(scope.names.lookup y.1=some .cell/\((cellsFrom (s.heap.objs.size+1) scope.names []).lookup y.1).isSome=true):=fun ⟨n,v⟩ hy=>by
  rcases S.par n (List.of_mem_zip hy).1 with q|q
  ·exact .inl q
  ·exact .inr ⟨q,PySem.W.cellsFrom_some _ _ _ (.inl q)⟩
 refine codeAny_call_function hr.depth (KX _ _ lk) rfl S.co S.gen rfl (PySem.W.codeRec_of KX hcd) (hb _ _ _ _ ?_)
 refine wpAny_newFunctionEnv_cells S.kind hkind fun env he s1 x=>?_
 subst he
 refine ⟨lim.keeps x.toInCall.keep,codeAny_func ?_⟩
 obtain ⟨t,ht,hq⟩:=hbody A outer s H vs Q E (hr.deeper _) hsp
 have I:Inv (iH CX P w K mg base N qual scope f cdv A outer s H E) [] (start N vs) H s1:=ou S hr.hd e0 hl r x
 refine wpAny_mono (ht [] s1 (start N vs) H _ I hq) (fun fl s' hs=>?_) fun e s' hs=>hs
 have fin:∀ {σ':St} {H':Hp} {v:V} {u:Value},Inv (iH CX P w K mg base N qual scope f cdv A outer s H E) [] σ' H' s'->RelV v u->Q v H'->CE outer P w H s Q u s':=
  fun {σ' H' v u} J rv q=>⟨v,H',J.os,J.bare,J.base,J.hok,rv,q⟩
 cases fl with
 | ret u=>
   obtain ⟨v,σ',H',J,rv,q⟩:=hs
   exact fin J rv q
 | next=>
   obtain ⟨σ',H',J,q⟩:=hs
   exact fin (v:=V.non) (u:=Value.none) J rfl q
 | brk=>
   obtain ⟨_,_,_,q⟩:=hs
   exact False.elim q
 | cont=>
   obtain ⟨_,_,_,q⟩:=hs
   exact False.elim q
theorem fj.okS {P:Program} {w:World} {K:PySem.W.Frag} {mg:Str->Option Value} {base:Heap} {CX:rF} {x qual:Str} {st:Stmt} {f:Addr} {fd:FuncData} {N ps:List Str} {k:Nat} {sp:Shared->List Env->Sp} (F:fj K x qual st f fd) (S:aU N ps (aC st)) (len:∀ s outer vs H Q E,sp s outer vs H Q E->vs.length=ps.length)
 (hbody:∀ (cdv:Value) (A:Around) (outer:List Env) (s:Shared) (H:Hp) (vs:List V) (Q:VK) (E:XK),bK k (A.deeper (envOfC qual (aC st) s.heap.objs.size f cdv))->sp s outer vs H Q E->
  ∃ t,p7 (iH CX P w K mg base N qual (aC st) f cdv A outer s H E) (cg st) t/\t { nx:=fun _ H'=>Q .non H',rt:=Q } (start N vs) H):nC P w K mg base CX (k+1) f fd ps sp:=by
 obtain ⟨oc,od,kV,doc,pm,an,cdv,ct,osl,rfl,lk,hcd⟩:=F.ex
 exact Gk lk hcd S len fun A outer s H vs Q E hr hsp=>hbody cdv A outer s H vs Q E hr hsp
theorem fj.ok1 {P:Program} {w:World} {K:PySem.W.Frag} {mg:Str->Option Value} {base:Heap} {CX:rF} {x qual:Str} {st:Stmt} {f:Addr} {fd:FuncData} {N ps:List Str} {k:Nat} {sp:Sp} (F:fj K x qual st f fd) (S:aU N ps (aC st)) (len:∀ vs H Q E,sp vs H Q E->vs.length=ps.length)
 (hbody:∀ (cdv:Value) (A:Around) (outer:List Env) (s:Shared) (H:Hp) (vs:List V) (Q:VK) (E:XK),bK k (A.deeper (envOfC qual (aC st) s.heap.objs.size f cdv))->sp vs H Q E->
  ∃ t,p7 (iH CX P w K mg base N qual (aC st) f cdv A outer s H E) (cg st) t/\t { nx:=fun _ H'=>Q .non H',rt:=Q } (start N vs) H):aQ P w K mg base CX (k+1) f fd ps sp:=by
 obtain ⟨oc,od,kV,doc,pm,an,cdv,ct,osl,rfl,lk,hcd⟩:=F.ex
 exact qx lk hcd S len fun A outer s H vs Q E hr hsp=>hbody cdv A outer s H vs Q E hr hsp
theorem qi (hm:(ea,oe)∈ps) (hc:oe.cls=.ref C) (hdct:oe.dict=dd) (hd:∃ vs,oe.data=.fields vs) (he:PE (yf X ea ps) e ta) (hb:attributeBase e f X.env (eval e X.env)=eval e X.env:=by rfl):PE (yf X ea ps) (.Attribute e f pos) (NT X.K ea C dd ta f):=
 Hu (X:=yf X ea ps) (List.mem_append_right _ hm) hc hdct hd he hb
end L2
namespace L2
open PySem PySem.Spec PyProof.Rows PySem.W
def j5 (c:Addr) (qual:Str):HO:=.ext fun h=>h.CodeRec (.ref c) qual
theorem yP (x:h.CodeRec (.ref c) qual):cI P w H h c (j5 c qual):=by
 obtain ⟨c',o,vs,t,e,g,r⟩:=id x
 cases e
 refine ⟨x,⟨o,g⟩,fun h1 h2 z k=>?_⟩
 obtain ⟨c',o',vs',t',e',g',r'⟩:=z
 cases e'
 exact ⟨c,o',vs',t',rfl,k _ g',r'⟩
def lamO (f:Addr) (o:Obj):HO:=.ext fun h=>h.get? f=some o
theorem uA (x:h.get? f=some o):cI P w H h f (lamO f o):=⟨x,⟨o,x⟩,fun h1 h2 z k=>k _ z⟩
def mC (P:Program) (w:World) (K:Frag) (mg:Str->Option Value) (base:Heap) (N:List Str) (qual:Str) (scope:Scope) (f:Addr) (cd:Value) (cl:List (Str×Addr)) (A:Around) (outer:List Env) (s:Shared) (H:Hp) (E:XK):Cx where
 prog:=P
 w:=w
 K:=K
 mg:=mg
 base:=base
 A:=A.deeper (envX qual scope s.heap.objs.size f cd cl)
 N:=N
 s₀:=s
 H₀:=H
 env:=envX qual scope s.heap.objs.size f cd cl
 outer:=outer
 stack:=envX qual scope s.heap.objs.size f cd cl::outer
 ex:=[]
 calm:=true
 fn:=fun _=>false
 pn:=[]
 xe:=fun e s'=>wpAny (model P w) (A.deeper (envX qual scope s.heap.objs.size f cd cl)) (leaving (envX qual scope s.heap.objs.size f cd cl) e) (fun _ s''=>sW P w outer H s E e s'') (fun e' s''=>sW P w outer H s E e' s'') s'
section
variable {P:Program} {w:World} {K:Frag} {mg:Str->Option Value} {base:Heap} {N:List Str} {qual:Str} {scope:Scope} {f:Addr} {cd:Value} {cl:List (Str×Addr)} {A:Around} {outer:List Env} {s:Shared} {H:Hp} {E:XK}
theorem Wm (I:Inv (mC P w K mg base N qual scope f cd cl A outer s H E) Z σ H' s') (x:fQ s'.heap H' s.heap e cls dd) (h:E cls dd H') :
 (mC P w K mg base N qual scope f cd cl A outer s H E).xe (.ref e) s':=
 leaveX I rfl rfl I.ok.frames rfl x fun h' x' u k=>⟨e,cls,dd,H',rfl,I.os,I.bare,u,k,x',h⟩
theorem Pr (hE:∀ cls dd H',E' cls dd H'->E cls dd H'):eF (sW P w) (mC P w K mg base N qual scope f cd cl A outer s H E) E':=by
 intro Z σ H1 s1 e s' I h
 obtain ⟨ea,cls,dd,H',rfl,os,bare,un,hok,x,q⟩:=h
 have I':Inv (mC P w K mg base N qual scope f cd cl A outer s H E) Z σ H' s':=I.call' (ch:=[]) os un hok bare (fun b z=>absurd z (by simp))
 refine Wm I' (x.mono fun b hb=>?_) (hE _ _ _ q)
 cases z:s.heap.get? b with
 |none=>rfl
 | some o=>
   obtain ⟨o',q'⟩:=I.base.there b o z (by intro hz;cases hz)
   rw [hb] at q';cases q'
structure Qg (scope:Scope) (cl:List (Str×Addr)) (N:List Str) (g:Heap) (H:Hp) (fr:List Addr) (σ:St):Prop where
 inj:∀ x y c,cl.lookup x=some c->cl.lookup y=some c->x=y
 has:∀ x,(scope.names.lookup x=some .cell∨scope.names.lookup x=some .free)->∃ c,cl.lookup x=some c
 cell:∀ x c,cl.lookup x=some c->(∃ v,g.IsCell c v)/\H c=none/\c∉fr
 val:∀ (i:Nat) x v,N[i]?=some x->σ[i]?=some (some v)->scope.names.lookup x=some .free/\∃ c u,cl.lookup x=some c/\RelV v u/\g.IsCell c (some u)
 len:σ.length=N.length
theorem vG (ho:H f=some (lamO f (kla_obj name qual params body scope cl pm c' ctv)))
 (hc:H c'=some (j5 c' qual)) (C:Qg scope cl N g H fr σ) (hbind:bindArgs (kla_fn name qual params body scope cl pm (.ref c') ctv) ⟨[],[]⟩=pure [])
 (hco:scope.isCoroutine=false) (hgen:scope.isGenerator=false) (hk:scope.kind=.function) (hcell:∀ x∈scope.names,x.2≠.cell)
 (hb:∀ (A:Around) (outer:List Env) (s:Shared),bK k (A.deeper (envX qual scope s.heap.objs.size f (.ref c') cl))->PE (mC P w K mg base N qual scope f (.ref c') cl A outer s H E) body t) (hq:t σ H Qv):Thunk P w K mg base g H fr (k+1) f H Qv E:=by
 refine ⟨fun s hok=>⟨_,_,(hok f _ ho).1,rfl⟩,fun A outer s hr e0 kp=>?_⟩
 have lim:s.heap.NoLimit:=e0.mod.nolimit.keeps fun b o e=>(e0.bs b o e).1
 refine kla_callFunE hr.depth (e0.hok f _ ho).1 rfl hco hgen rfl (e0.hok c' _ hc).1 ?_
 rw [hbind]
 refine wpAny_pure (wpAny_newFunctionEnv hcell (fun y hy=>absurd hy (by simp)) (fun h₁ hns hsb=>⟨lim.fresh _ hsb,?_⟩) hk)
 show codeAny _ _ (.expr body (envX qual scope s.heap.objs.size f (.ref c') cl)) _ _
 have hk₁:∀ b o,s.heap.get? b=some o->h₁.get? b=some o:=fun b o e=>hsb.extBut b o (Nat.ne_of_lt (Heap.lt_size e)) (Heap.get?_push_of_some _ e)
 have isC:∀ x c v,cl.lookup x=some c->g.IsCell c v->h₁.IsCell c v:=fun x c v e z=>by
  obtain ⟨_,h2,h3⟩:=C.cell x c e
  obtain ⟨o,ho,hd⟩:=z
  exact ⟨o,hk₁ _ _ (kp _ _ ho h2 h3),hd⟩
 have noA:∀ b:Addr,b∉([]:List Addr):=fun b z=>absurd z (by simp)
 have I:Inv (mC P w K mg base N qual scope f (.ref c') cl A outer s H E) [] σ H { s with heap:=h₁,toks:=s.toks+0 }:=by
  refine ⟨⟨e0.mod,hk,rfl,rfl,Nat.le_refl _,C.inj,fun y hy=>C.has y hy,fun y c z=>absurd z (by simp [mC]),fun _=>hr.hd,Around.frames_deeper e0.frames,.inr ⟨rfl,rfl⟩,fun b z=>absurd z (noA b),e0.bs,e0.bsz,fun b _ _=>noA b,fun b z=>absurd z (noA b),e0.funs,e0.frf⟩,
   rfl,e0.bare,Un.kept hk₁,⟨_,hns,fun i y v h1 h2 h3=>?_⟩,fun y c h=>?_,e0.hok.fresh (Nat.le_refl _),fun y c h=>(C.cell y c h).2.1,fun p hp=>absurd (show p∈([]:List (Addr×Obj)) from hp) (by simp),e0.hok.kept hk₁,C.len⟩
  ·obtain ⟨fr',c,u,e,r,z⟩:=C.val i y v h1 h2
   exact ⟨u,r,.inr ⟨.inr fr',c,e,isC y c _ e z⟩⟩
  ·obtain ⟨⟨v,z⟩,_⟩:=C.cell y c h
   exact ⟨v,isC y c v h z⟩
 exact kla_codeExpr (wpAny_mono (hb A outer s (hr.deeper _) [] _ σ H Qv I hq) (fun u s' ⟨v,H',J,rv,q⟩=>⟨v,H',J.os,J.bare,J.base,J.hok,rv,q⟩) fun _ _ y=>y)
end
section
variable {X:Cx} {Z:List (Addr×Obj)} {σ:St} {H:Hp} {s:Shared} {h':Heap} {P c':Addr} {ps more:Array Value} {qual:Str}
theorem Inv.grow (I:Inv X Z σ H s) (hP:H P=some (.tbl ps)) (hx:Heap.ExtBut P s.heap h') (hc:s.heap.objs.size≤c') (hcr:h'.CodeRec (.ref c') qual) (hp:h'.get? P=some { cls:=.none,data:=.fields (ps++more) }) :
 Inv X Z σ (upd (upd H P (.tbl (ps++more))) c' (j5 c' qual)) { s with heap:=h',toks:=t' }:=by
 have hPl:P<s.heap.objs.size:=I.hok.lt hP
 have hcP:c'≠P:=fun q=>by subst q;exact absurd (Nat.lt_of_lt_of_le hPl hc) (Nat.lt_irrefl _)
 have lt:∀ b o,s.heap.get? b=some o->b≠c':=fun b o e q=>by subst q;exact absurd (Nat.lt_of_lt_of_le (Heap.lt_size e) hc) (Nat.lt_irrefl _)
 have neP:∀ b,H b=none->b≠P:=fun b e q=>by subst q;rw [hP] at e;cases e
 have kp:∀ b o,s.heap.get? b=some o->H b=none->h'.get? b=some o:=fun b o e n=>hx b o (neP b n) e
 have up:∀ b u,H b=some u->(∀ qs,u≠.tbl qs)->upd (upd H P (.tbl (ps++more))) c' (j5 c' qual) b=some u:=fun b u e ne=>by
  have h1:b≠c':=fun q=>by subst q;exact absurd (Nat.lt_of_lt_of_le (I.hok.lt e) hc) (Nat.lt_irrefl _)
  have h2:b≠P:=fun q=>by subst q;rw [hP] at e;exact ne _ (Option.some.inj e).symm
  rw [aK h1,aK h2];exact e
 refine I.stepN (ch:=[]) (g':=s.gens) (d':=s.drawn) (t':=t') (fun b hb=>absurd hb (by simp)) (fun b o _ _ _ e n=>kp b o e n) (fun b o _ _ _ e n=>⟨o.slots,kp b o e n⟩) (fun b o _ e n=>?_) (fun b o _ e=>?_) (fun b xs e=>up b _ e (by intro _ q;cases q)) (fun b o u e=>up b _ e (by intro _ q;cases q)) (fun b qs e=>?_) (fun m hm=>?_) (fun b u e=>?_) I.bare
 ·rw [aK (lt b o e),aK (neP b n)];exact n
 ·by_cases q:b=P
  ·subst q;exact ⟨_,hp⟩
  ·exact ⟨o,hx b o q e⟩
 ·have h1:b≠c':=fun q=>by subst q;exact absurd (Nat.lt_of_lt_of_le (I.hok.lt e) hc) (Nat.lt_irrefl _)
  by_cases q:b=P
  ·subst q
   rw [hP] at e
   cases e
   exact ⟨more,by rw [aK h1,ak]⟩
  ·exact ⟨#[],by rw [aK h1,aK q,e];simp⟩
 ·obtain ⟨o,es,ep,e,r⟩:=hm
  exact ⟨o,es,ep,kp _ _ e I.free,r⟩
 ·by_cases h1:b=c'
  ·subst h1
   rw [ak] at e
   cases e
   exact yP hcr
  ·rw [aK h1] at e
   by_cases h2:b=P
   ·subst h2
    rw [ak] at e
    cases e
    exact hp
   ·rw [aK h2] at e
    refine (I.hok b u e).stay (fun c v hc' q=>hx c v ?_ q) (fun c q=>up c _ q (by intro _ z;cases z)) fun c xs q=>up c _ q (by intro _ z;cases z)
    rintro rfl
    rcases hc' with rfl|z
    ·exact h2 rfl
    ·rw [hP] at z;cases z
structure uH (X:Cx) (c P:Addr):Prop where
 code:X.env.code=.ref c
 hd:CodeHd X.base c P
 bl:X.base.BuiltinsAt X.mg P
 gP:mainGlobals≠P
def Di (H:Hp) (P:Addr) (lp:Pos) (qual:Str) (c':Addr) (H1:Hp):Prop:=
 ∃ ps,H P=some (.tbl ps)/\((codeAmong lp ps.toList=none/\H c'=none/\c'≠P/\H1=upd (upd H P (.tbl (ps++#[rawInt lp.line,rawInt lp.col,.ref c']))) c' (j5 c' qual))∨(codeAmong lp ps.toList=some (.ref c')/\H c'=some (j5 c' qual)/\H1=H))
def TabOk (H:Hp) (P:Addr) (lp:Pos) (qual:Str):Prop:=∃ ps,H P=some (.tbl ps)/\TriplesOk ps.toList/\(codeAmong lp ps.toList=none∨∃ c',codeAmong lp ps.toList=some (.ref c')/\H c'=some (j5 c' qual))
def Uu (X:Cx) (P:Addr) (params:Arguments) (body:Expr) (scope:Scope) (lp:Pos) (cl:List (Str×Addr)):TE:=fun _ H Q=>TabOk H P lp (X.env.qual++"<lambda>")/\∀ c' H1,Di H P lp (X.env.qual++"<lambda>") c' H1->∀ f ctv,H1 f=none->Q (.ref f) (upd H1 f (lamO f (kla_obj "<lambda>" (X.env.qual++"<lambda>") params body scope cl ((X.mg "__name__").getD .none) c' ctv)))
theorem D_ (T:uH X c P) (hdef:defaultsOf params X.env=([],[])) (hcl:closureFor scope X.env=pure cl):PE X (.Lambda params body scope lp) (Uu X P params body scope lp cl):=by
 intro Z s σ H Q I h
 obtain ⟨⟨ps,hP,ht,hor⟩,h⟩:=h
 refine kla_eval hdef ?_
 have hPo:s.heap.get? P=some (tabObj ps):=I.hok P _ hP
 have hg:s.heap.Ns mainGlobals X.mg:=by
  obtain ⟨o,es,ep,e,r⟩:=I.ok.mod.glob
  exact ⟨o,es,ep,I.bk _ _ e,r⟩
 have hb:s.heap.BuiltinsAt X.mg P:=by
  obtain ⟨bm,o,b1,b2,b3,b4,b5,b6⟩:=T.bl
  exact ⟨bm,o,b1,b2,b3,b4,I.bk _ _ b5,b6⟩
 rcases hor with hn|⟨c',hf,hc'⟩
 ·refine kla_makeFunction (mg:=X.mg) hcl I.ok.glob hg T.code (T.hd.keeps I.bk) hPo ht hn T.gP hb fun c' ctv h' tk hx hge hlt hrec htb=>?_
  have I1:=I.grow (t':=tk) hP hx hge hrec htb
  have hPl:P<s.heap.objs.size:=I.hok.lt hP
  have fr:upd (upd H P (.tbl (ps++#[rawInt lp.line,rawInt lp.col,.ref c']))) c' (j5 c' (X.env.qual++"<lambda>")) h'.objs.size=none:=I1.hok.fresh (Nat.le_refl _)
  refine ⟨.ref h'.objs.size,_,I1.laid (a:=h'.objs.size) (t':=tk) (fun b u e=>Heap.get?_push_of_some _ e) (Nat.le_refl _) (uA (Heap.get?_push_size _ rfl)),rfl,h c' _ ⟨ps,hP,.inl ⟨hn,I.hok.fresh hge,fun q=>?_,rfl⟩⟩ _ ctv fr⟩
  subst q
  exact absurd (Nat.lt_of_lt_of_le hPl hge) (Nat.lt_irrefl _)
 ·refine kla_makeFunctionHit (mg:=X.mg) hcl I.ok.glob hg T.code (T.hd.keeps I.bk) hPo ht hf hb fun ctv h' tk hk hsz=>?_
  have fr:H h'.objs.size=none:=I.hok.fresh hsz
  exact ⟨.ref h'.objs.size,_,I.laid (a:=h'.objs.size) (h':=h'.push _) (t':=tk) (fun b u e=>Heap.get?_push_of_some _ (hk b u e)) hsz (uA (Heap.get?_push_size _ rfl)),rfl,h c' _ ⟨ps,hP,.inr ⟨hf,hc',rfl⟩⟩ _ ctv fr⟩
end
theorem zP (F:nC X.prog X.w X.K X.mg X.base CX k f fd ps sp) (hr:bK k X.A) (hb:Binds X.K fd ps []) (hx:eF CX X E)
 (I:Inv X Z σ H s) (r:Vals vs us) (h:sp s X.stack vs H Q E):wpAny (model X.prog X.w) X.A (call (.ref f) us) (EP X Z σ Q) X.xe s:=by
 have hl:us.length=ps.length:=by rw [← r.length];exact F.len _ _ _ _ _ _ h
 have hb':=hb s us I.kIn (by rw [List.append_nil];exact hl)
 rw [List.append_nil] at hb'
 refine wpAny_call (codeAny_mono (F.run X.A X.stack s H ⟨us,[]⟩ us vs Q E hr I.env0 hb' r h) fun r s' hq=>?_)
 cases r with
 |error e=>exact hx Z σ H s e s' I hq
 | ok fl=>
   cases fl with
   |ret u=>exact I.after hq
   |next=>exact False.elim hq
   |brk=>exact False.elim hq
   |cont=>exact False.elim hq
theorem yu {X:Cx} {sp:Shared->List Env->Sp} {t:TA} {r:St->List V->Hp->VK->Prop} (F:nC X.prog X.w X.K X.mg X.base CX k f fd ps sp) (hr:bK k X.A) (hg:Gl X x) (hm:X.mg x=some (.ref f)) (hk:keepIn X.K (.ref f)=true) (hb:Binds X.K fd ps []) (hx:eF CX X E)
 (hsp:∀ Z σ H s vs Q,Inv X Z σ H s->r σ vs H Q->sp s X.stack vs H Q E) (ha:PA X (e::es) t) (hdb:(x == ("__debug__" : Str))=false:=by decide) (he:starEach (e::es) X.env=(false,eval e X.env)::starEach es X.env:=by rfl) (hpl:(backTo pos (starEach es X.env)).any (·.1)=false:=by rfl) :
 PE X (.Call (.Name x p) (e::es) [] pos) (fun σ H Q=>t σ H fun vs H1=>r σ vs H1 Q):=by
 intro Z s σ H Q I h
 refine wpAny_Call_Name_kw (jf I hg hm ?_ hdb)
 refine callWith_K (h₀:=X.base) I.ok.mod.kin hk (b_ (ha pos Z s σ H _ I h) fun us s1 ⟨vs,H1,I1,r,q⟩=>⟨I1.kIn,?_⟩) he hpl
 exact zP F hr hb hx I1 r (hsp _ _ _ _ _ _ I1 q)
theorem gA {cl:List (Str×Addr)} (h:x∈cl.map (·.1)):∃ c,cl.lookup x=some c:=by
 induction cl with
 |nil=>simp at h
 | cons q r ih=>
   obtain ⟨y,c⟩:=q
   rw [List.lookup_cons]
   by_cases e:(x == y)=true
   ·exact ⟨c,by rw [e]⟩
   ·have e':(x == y)=false:=by simpa using e
    rw [e']
    refine ih ?_
    rcases List.mem_cons.mp h with z|z
    ·exact absurd (beq_iff_eq.mpr z) e
    ·exact z
def qp (js:List Nat) (σ:St):St:=js.map fun j=>(σ[j]?).join
theorem Ab {X:Cx} {s:Shared} {scope:Scope} {cl:List (Str×Addr)} {NL:List Str} {js:List Nat} (I:Inv X Z σ H s) (hcl:∀ p∈cl,X.env.cells.lookup p.1=some p.2) (hfn:∀ x,X.fn x=true)
 (hhas:∀ p∈scope.names,(p.2=.cell∨p.2=.free)->p.1∈cl.map (·.1)) (hfree:∀ x∈NL,scope.names.lookup x=some .free) (hown:∀ x∈NL,X.env.scope.names.lookup x=some .cell) (hN:NL.map some=js.map fun j=>X.N[j]?) (hst:X.stack=X.env::X.outer) (hfm:X.env.frame=some X.env.locals) :
 Qg scope cl NL s.heap H (frs X.stack) (qp js σ):=by
 have sub:∀ x c,cl.lookup x=some c->X.env.cells.lookup x=some c:=fun x c e=>hcl (x,c) (PySem.mem_of_lookup e)
 have hlen:js.length=NL.length:=by simpa using (congrArg List.length hN).symm
 refine ⟨fun x y c h1 h2=>I.ok.inj x y c (sub x c h1) (sub y c h2),fun x hx=>?_,fun x c e=>⟨I.cell x c (sub x c e),I.freeC x c (sub x c e),fun hm=>?_⟩,fun i x v h1 h2=>?_,by unfold qp;rw [List.length_map];exact hlen⟩
 ·refine gA ?_
  rcases hx with hx|hx
  ·exact hhas _ (PySem.mem_of_lookup hx) (.inl rfl)
  ·exact hhas _ (PySem.mem_of_lookup hx) (.inr rfl)
 ·rcases List.mem_cons.mp (I.stkSub c hm) with q|q
  ·exact I.cne x c (sub x c e) q
  ·obtain ⟨_,o,ho,_⟩:=I.ok.funs.mem q
   exact absurd (Nat.lt_of_lt_of_le (Heap.lt_size ho) (I.ok.cab x c (hfn x) (sub x c e))) (Nat.lt_irrefl _)
 ·have hx:x∈NL:=List.mem_of_getElem? h1
  have e1:(js.map fun j=>X.N[j]?)[i]?=some (some x):=by rw [← hN,List.getElem?_map,h1];rfl
  rw [List.getElem?_map] at e1
  obtain ⟨j,hj,e1⟩:=Option.map_eq_some_iff.mp e1
  unfold qp at h2
  rw [List.getElem?_map,hj] at h2
  have h3:σ[j]?=some (some v):=by
   have h2:(σ[j]?).join=some v:=Option.some.inj h2
   cases e:σ[j]? with
   |none=>rw [e] at h2;cases h2
   | some a=>rw [e] at h2;cases a with
     |none=>cases h2
     |some b=>exact congrArg some h2
  obtain ⟨m,hn,hl⟩:=I.loc
  obtain ⟨u,r,lk⟩:=hl j x v e1 h3 (.inr (.inl (hown x hx)))
  refine ⟨hfree x hx,?_⟩
  rcases lk with ⟨kk,_⟩|⟨_,c,hc,z⟩
  ·have kk:X.env.scope.names.lookup x=some .local:=kk
   rw [hown x hx] at kk;cases kk
  ·obtain ⟨c2,e2⟩:=gA (hhas _ (PySem.mem_of_lookup (hfree x hx)) (.inr rfl))
   have:=sub x c2 e2
   rw [hc] at this
   cases this
   exact ⟨c,u,e2,r,z⟩
end L2
namespace L2
open PySem PySem.Spec PyProof.Rows
end L2
namespace L2
open PySem PySem.Spec PyProof.Rows PySem.W
def tabIn (K:Frag) (c:Addr):Option Addr:=match K.lookup c with
 | some o=>(match o.data with
   | .fields vs=>(match (vs[11]?:Option Value),vs.getD 18 .none,vs.getD 7 .none,vs.getD 9 .none,vs.getD 10 .none with
     |some (Value.ref P),.str _ _,.int _ _,.bool _,.int _ _=>if (o.cls == .type "code" && c != P)=true then some P else none
     |_,_,_,_,_=>none)
   |_=>none)
 |none=>none
theorem Ca {K:Frag} (X:K.In h) (e:tabIn K c=some P):CodeHd h c P:=by
 unfold tabIn at e
 split at e
 ·rename_i o ho
  split at e
  ·rename_i vs hd
   split at e
   ·rename_i P' x18 t18 x7 t7 x9 x10 t10 h11 h18 h7 h9 h10
    split at e
    ·rename_i hc
     cases e
     simp only [Bool.and_eq_true,beq_iff_eq,bne_iff_ne] at hc
     refine ⟨o,vs,x18,t18,x7,t7,x9,x10,t10,X _ _ ho,hc.1,hd,h11,?_,h18,h7,h9,h10,hc.2⟩
     rw [Array.getD_eq_getD_getElem?,h11]
     rfl
    ·cases e
   ·cases e
  ·cases e
 ·cases e
end L2
namespace L2
open PySem PySem.Spec PyProof.Rows PySem.SeqAt
def Uh (x:Str):It:=⟨fun i _=>i<x.cps.size,fun i H v H'=>H'=H/\∃ c,x.cps[i]?=some c/\v=.str ⟨#[c]⟩,fun i _=>x.cps.size≤i⟩
theorem yg {P:Program} {w:World} {K:PySem.W.Frag} {tg:Expr} (x:Str) (t:Tok) (it:Addr):Turn P w K tg (Uh x) [it] it (fun i h=>h.IsStrIter it "str_ascii_iterator" x t i) where
 mem:=by simp
 obj:=fun i h st b hb=>by
  have e:b=it:=by simpa using hb
  subst e
  obtain ⟨o,e,c,d⟩:=st
  exact ⟨o,e,fun v z=>by rw [d] at z;cases z⟩
 keep:=fun i h h' st k=>let ⟨o,e,r⟩:=st;⟨o,k it (by simp) o e,r⟩
 item:=by
  intro X hP hw hK hc i Z s σ H E I hf st hg
  subst hP hw hK
  obtain ⟨f0,f1,f2,f3,f4,f5⟩:=hf it (by simp)
  have hg':i<x.cps.size:=hg
  have hx:x.cps[i]?=some (x.cps[i]'hg'):=Array.getElem?_eq_getElem hg'
  refine wpAny_pyNext_ascii_item st hx fun h' st' sb=>?_
  have I1:Inv X Z σ H { s with heap:=h',toks:=s.toks+1 }:=I.turned (t':=s.toks+1) (fun b o hb e=>(sb.2 b hb).trans e) f0 f1 f3 f4 f5
  obtain ⟨o,e,c,d⟩:=id st'
  exact ⟨_,rfl,qY (s:={ s with heap:=h',toks:=s.toks+1 }) e c d (by decide) ⟨.str ⟨#[x.cps[i]'hg']⟩,H,I1,⟨_,rfl⟩,⟨rfl,_,hx,rfl⟩,st',fun b hb=>(hf b hb).1⟩⟩
 done:=by
  intro X hP hw hK hc i Z s σ H E I hf st hg
  subst hP hw hK
  obtain ⟨f0,f1,f2,f3,f4,f5⟩:=hf it (by simp)
  have hx:x.cps[i]?=none:=Array.getElem?_eq_none hg
  exact wpAny_pyNext_ascii_end (I.ok.hd hc) st hx fun h' eb=>⟨rfl,I.turned (t':=s.toks) (fun b o hb e=>eb b o hb e) f0 f1 f3 f4 f5⟩
 self:=fun _ _ _ _ _ st h=>wpAny_pyIter_striter_ascii st h
def Vc (tl:TE):TI:=fun σ H R=>tl σ H fun v H1=>∃ x,v=.str x/\x.cps.all (·<128)=true/\R (Uh x) H1
theorem Ir {l:Expr} {tl:TE} (hl:PE X l tl):PI X tg l (Vc tl):=by
 intro Z s σ H R I h
 refine b_ (hl Z s σ H _ I h) fun v s1 ⟨y,H1,I1,r1,x,e,ha,q⟩=>?_
 subst e
 obtain ⟨t,rfl⟩:=r1
 refine wpAny_pyIter_ascii ha ?_
 refine ⟨s1.heap.objs.size,[s1.heap.objs.size],_,_,H1,rfl,I1.kept (t':=s1.toks) fun b o e=>Heap.get?_push_of_some _ e,yg x t _,⟨_,Heap.get?_push_size _ rfl,rfl,rfl⟩,fun b hb=>?_,q⟩
 have e:b=s1.heap.objs.size:=by simpa using hb
 subst e
 exact I1.fpOk (Nat.le_refl _) (I1.hok.fresh (Nat.le_refl _))
theorem xg (Pv:Nat->List V->St->Hp->Prop) (hn:x.cps.size≤sizeLine) (h0:Pv 0 [] σ0 H0)
 (hs:∀ i c ys σ H,x.cps[i]?=some c->ys.length=i->Pv i ys σ H->∀ N:List V->St->Hp->Prop,(∀ ys' σ' H',ys'.length=i+1->Pv (i+1) ys' σ' H'->N ys' σ' H')->g (.str ⟨#[c]⟩) σ H fun σ2 H2=>te σ2 H2 fun y H3=>N (ys++[y]) σ2 H3)
 (hd:∀ ys σ H,ys.length=x.cps.size->Pv x.cps.size ys σ H->F ys H) :
 ∃ W:Nat->Nat->List V->St->Hp->Prop,(∃ m,W 0 m [] σ0 H0)/\jM (Uh x) g wR te F W:=by
 refine ⟨fun i m ys σ H=>m=x.cps.size-i/\i≤x.cps.size/\ys.length=i/\Pv i ys σ H,⟨x.cps.size,by simp,Nat.zero_le _,rfl,h0⟩,?_⟩
 rintro i m ys σ H ⟨rfl,hi,hl,p⟩
 by_cases hlt:i<x.cps.size
 ·refine .inr ⟨hlt,by omega,fun v H' y=>?_⟩
  obtain ⟨e,c,hc,y⟩:=y
  subst e y
  exact hs i c ys σ _ hc hl p (fun ys' σ' H'=>∃ m',m'<x.cps.size-i/\m'=x.cps.size-(i+1)/\i+1≤x.cps.size/\ys'.length=i+1/\Pv (i+1) ys' σ' H') fun ys' σ' H' hl' q=>⟨x.cps.size-(i+1),by omega,rfl,hlt,hl',q⟩
 ·have e:i=x.cps.size:=by omega
  subst e
  exact .inl ⟨Nat.le_refl _,hd ys σ H hl p⟩
def Vb:V->Option Int->Option Int->Hp->VK->Prop:=fun x lo hi H Q=>∃ z j,x=.str z/\lo=none/\hi=some j/\z.length≤sizeLine/\Q (.str (Txt.slice z none (some j))) H
theorem lY:Q5 X Vb:=by
 intro Z s σ H x v vl vu lo hi sl Q I rx hs pl pu h
 obtain ⟨z,j,rfl,rfl,rfl,hz,q⟩:=h
 obtain ⟨t,rfl⟩:=rx
 cases pl
 cases pu
 rename_i uj
 refine ⟨"str",_,F.slot_str_getitem.lookup,typeIs_str _ _ _,wpAny_getItem_str_slice (l:=none) (u:=some (j,uj)) (st:=none) ?_ rfl (post_val_or_str ⟨Nat.le_trans (Txt.slice_le z none (some j)) hz,fun t' k=>⟨.str _,H,I.tok _,⟨_,rfl⟩,q⟩⟩)⟩
 exact hs
theorem vz (z:Str) (l u:Option Int):∀ c∈(Txt.slice z l u).cps.toList,c∈z.cps.toList:=by
 intro c hc
 unfold Txt.slice at hc
 split at hc
 ·exact hc
 ·rw [List.toList_toArray] at hc
  obtain ⟨i,_,e⟩:=List.mem_filterMap.mp hc
  rw [← Array.getElem?_toList] at e
  exact List.mem_of_getElem? e
end L2
namespace L2
open PySem PySem.Spec PyProof.Rows PySem.W
def jL (H:Hp) (T:Addr) (qual:Str) (u_:List Pos):Prop:=
 ∃ ps,H T=some (.tbl ps)/\TriplesOk ps.toList/\∀ lp∈u_,codeAmong lp ps.toList=none∨∃ c',codeAmong lp ps.toList=some (.ref c')/\H c'=some (j5 c' qual)
theorem jL.tab (h:jL H T qual u_) (m:lp∈u_):TabOk H T lp qual:=by
 obtain ⟨ps,h1,h2,h3⟩:=h
 exact ⟨ps,h1,h2,h3 lp m⟩
theorem jL.keep (h:jL H T qual u_) (k:∀ b u,H b=some u->(∀ kvs,u≠.dK kvs)->H' b=some u):jL H' T qual u_:=by
 obtain ⟨ps,h1,h2,h3⟩:=h
 refine ⟨ps,k _ _ h1 (by intro _ z;cases z),h2,fun lp m=>?_⟩
 rcases h3 lp m with z|⟨c',z,e⟩
 ·exact .inl z
 ·exact .inr ⟨c',z,k _ _ e (by intro _ z;cases z)⟩
theorem jL.same (h:jL H T qual u_) (s:aB H H'):jL H' T qual u_:=h.keep fun b u e _=>s b u e
theorem Di.code (h:Di H T lp qual c' H1):H1 c'=some (j5 c' qual):=by
 obtain ⟨ps,h1,⟨_,_,_,rfl⟩|⟨_,h2,rfl⟩⟩:=h
 ·exact ak
 ·exact h2
theorem Di.keep (h:Di H T lp qual c' H1) (e:H b=some u) (ne:∀ ps,u≠.tbl ps):H1 b=some u:=by
 obtain ⟨ps,h1,⟨_,h2,_,rfl⟩|⟨_,h2,rfl⟩⟩:=h
 ·rw [aK (aP e h2),aK (fK e h1 (ne _))];exact e
 ·exact e
theorem wg {P:Program} {w:World} {K:Frag} {mg mb:Str->Option Value} {CX:rF} {k:Nat} {fa a:Addr} {Ts:List Addr} {fd:FuncData} {x:Str} {sp:Sp} {s₁:Shared} {vs:List Value} {ns:List Int}
 (KX:K.In s₁.heap) (hns:s₁.heap.Ns mainGlobals mg) (hb:s₁.heap.Ns builtinsNs mb) (hbb:∀ x:Str,x ≠ "__name__"->mb x=bootBuiltins x) (hlim:s₁.heap.NoLimit) (hg:s₁.gens=#[])
 (ha:s₁.heap.get? a=some { cls:=.type "list",data:=.seq vs.toArray }) (hi:IntsAre vs ns) (hl:ns.length≤sizeLine) (hr:bK k callerA)
 (hT:∀ T∈Ts,s₁.heap.get? T=some (tabObj #[])/\K.lookup T=none/\∃ c,CodeHd s₁.heap c T)
 (F:∀ base:Heap,K.In base->base.Ns mainGlobals mg->(∀ b o,s₁.heap.get? b=some o->b∉Ts->b≠a->base.get? b=some o)->aQ P w K mg base CX k fa fd [x] sp) (hbind:∀ (s:Shared) (u:Value),BindsTo s fd ⟨[u],[]⟩ [(x,u)])
 (hsp:∀ H:Hp,(∀ T∈Ts,H T=some (.tbl #[]))->bJ K H a (ns.map V.int)->sp [.ref a] H (fun v _=>v=.bl true) fun _ _ _=>False)
 (hCX:∀ H e s',CX [] H s₁ (fun _ _ _=>False) e s'->False) :
 codeAny (model P w) callerA (.call (.ref fa) ⟨[.ref a],[]⟩) (fun r s'=>r=.ok (.ret (.bool true))/\OldK s₁.heap s'.heap/\s'.os=s₁.os/\AllBare s'.gens) s₁:=by
 have rv:=oF hi
 have lenV:=hi.length
 have haT:a∉Ts:=fun q=>by have:=(hT a q).1;rw [ha] at this;cases this
 have core:∀ H0:Hp,(∀ b,H0 b=none∨(b=a/\K.lookup a=none/\H0 b=some (.frz { cls:=.type "list",data:=.seq vs.toArray } (.lst (ns.map V.int)))))->bJ K (fun b=>if b∈Ts then some (.tbl #[]) else H0 b) a (ns.map V.int)->
  codeAny (model P w) callerA (.call (.ref fa) ⟨[.ref a],[]⟩) (fun r s'=>r=.ok (.ret (.bool true))/\OldK s₁.heap s'.heap/\s'.os=s₁.os/\AllBare s'.gens) s₁:=by
  intro H0 hO hS
  generalize hH:(fun b=>if b∈Ts then some (HO.tbl #[]) else H0 b:Hp)=H at hS
  have HT:∀ T∈Ts,H T=some (.tbl #[]):=fun T m=>by rw [← hH];exact if_pos m
  have Hne:∀ b,b∉Ts->H b=H0 b:=fun b e=>by rw [← hH];exact if_neg e
  have Hn:∀ b,b∉Ts->b≠a->H b=none:=fun b h1 h2=>by
   rw [Hne b h1]
   rcases hO b with z|⟨z,_⟩
   ·exact z
   ·exact absurd z h2
  have hok:iK P w H s₁.heap:=fun b u e=>by
   by_cases q:b∈Ts
   ·rw [HT b q] at e;cases e
    exact (hT b q).1
   ·rw [Hne b q] at e
    rcases hO b with z|⟨rfl,_,z⟩
    ·rw [z] at e;cases e
    ·rw [z] at e;cases e
     exact ⟨ha,by rw [List.length_map];exact hl,vs,_,rv,ha⟩
  have nsN:∀ {b:Addr} {o:Obj} {es:Array DictEntry} {ep:Nat},s₁.heap.get? b=some o->o.data=.dict es ep->H b=none:=fun {b o es ep} e d=>by
   refine Hn b (fun q=>?_) (fun q=>?_)
   ·rw [(hT b q).1] at e;cases e;cases d
   ·subst q;rw [ha] at e;cases e;cases d
  have nsK:∀ {b:Addr} {m:Str->Option Value},s₁.heap.Ns b m->(qU s₁.heap H).Ns b m:=fun {b m} ⟨o,es,ep,e,d,r⟩=>⟨o,es,ep,mF e (nsN e d),d,r⟩
  have hKb:K.In (qU s₁.heap H):=fun b o e=>by
   refine mF (KX b o e) ?_
   have q:b∉Ts:=fun m=>by rw [(hT b m).2.1] at e;cases e
   rw [Hne b q]
   rcases hO b with z|⟨rfl,z,_⟩
   ·exact z
   ·rw [z] at e;cases e
  have hM:Mod K mg (qU s₁.heap H):=⟨hKb,nsK hns,⟨mb,nsK hb,hbb⟩,let ⟨mc,h1,h2⟩:=hlim;⟨mc,nsK h1,h2⟩⟩
  have e0:oY P w K mg (qU s₁.heap H) callerA [] s₁ H:=⟨rfl,hM,fun b o e=>Be e,Nat.le_of_eq (wN _ _),trivial,fun b hb=>absurd (show b∈([]:List Addr) from hb) (by simp),hok,.of_eq hg⟩
  refine codeAny_mono ((F _ hKb (nsK hns) fun b o e h1 h2=>mF e (Hn b h1 h2)).run callerA [] s₁ H ⟨[.ref a],[]⟩ [.ref a] [.ref a] _ _ hr e0 (hbind s₁ (.ref a)) (.cons rfl .nil) (hsp H HT hS)) fun r s' h=>?_
  cases r with
  |error e=>exact (hCX H e s' h).elim
  | ok fl=>
    cases fl with
    |next=>exact False.elim h
    |brk=>exact False.elim h
    |cont=>exact False.elim h
    | ret u=>
      obtain ⟨v,H',os,bare,un,hok',r',q⟩:=h
      cases (show v=.bl true from q)
      cases (show u=Value.bool true from r')
      have was:∀ b o,s₁.heap.get? b=some o->b∉Ts->s'.heap.get? b=some o:=fun b o e h1=>by
       rcases hO b with z|⟨rfl,_,z⟩
       ·exact un.keep b o e (by rw [Hne b h1];exact z) (by intro z;exact absurd (show b∈([]:List Addr) from z) (by simp)) (by simp)
       ·have z2:=un.frzs b _ _ ((Hne b h1).trans z)
        obtain ⟨e2,_⟩:=hok' b _ z2
        rw [ha] at e;cases e
        exact e2
      have tbs:∀ T∈Ts,∃ more,s'.heap.get? T=some { cls:=.none,data:=.fields (#[]++more) }:=fun T m=>by
       obtain ⟨more,hm⟩:=un.tbls T #[] (HT T m)
       exact ⟨more,hok' T _ hm⟩
      refine ⟨rfl,⟨fun b o e=>?_,fun b o e=>?_⟩,os,bare⟩
      ·by_cases h1:b∈Ts
       ·obtain ⟨more,tb⟩:=tbs b h1
        obtain ⟨h2,_,c,hc⟩:=hT b h1
        rw [h2] at e;cases e
        exact .inr (.inl ⟨(hc.tab h2).isCodeTable,rfl,#[],more,rfl,tb⟩)
       ·exact .inl (was b o e h1)
      ·by_cases h1:b∈Ts
       ·obtain ⟨more,tb⟩:=tbs b h1
        exact ⟨_,tb⟩
       ·exact ⟨o,was b o e h1⟩
 cases hk:K.lookup a with
 | some o=>
   have e:=KX a o hk
   rw [ha] at e
   cases e
   exact core (fun _=>none) (fun _=>.inl rfl) (.inr ⟨_,vs.toArray,_,hk,rfl,rfl,rfl,by rw [List.size_toArray,lenV];exact hl,by simpa using rv⟩)
 | none=>
   refine core (fun b=>if b=a then some (.frz { cls:=.type "list",data:=.seq vs.toArray } (.lst (ns.map V.int))) else none) (fun b=>?_) (.inl (.inr ⟨_,(if_neg haT).trans (if_pos rfl)⟩))
   by_cases h:b=a
   ·exact .inr ⟨h,hk,if_pos h⟩
   ·exact .inl (if_neg h)
theorem yQ {l:OpenLaw} {n k:Nat} {q:Program} {loose:List Str} {XP:(Str->Option Value)->Heap->Prop} {YP:World->Heap->Prop} {d:DefRec} {K:Params->Frag} {CX:World->rF} {x:Str} {Ts:List Addr}
 (hn:l.most=some n) (hn2:n≤sizeLine) (hdf:d.params.defaults=[]) (hr:bK k callerA)
 (hY:∀ (w:World) (h:Heap),YP w h->(K w.params).In h) (hYT:∀ (w:World) (h:Heap),YP w h->∀ T∈Ts,h.get? T=some (tabObj #[]))
 (F:∀ (w:World) (mg:Str->Option Value) (fa:Addr) (h:Heap),(K w.params).In h->h.Ns mainGlobals mg->mg d.name=some (.ref fa)->
  ∃ (fd:FuncData) (sp:Sp),(∀ (s:Shared) (u:Value),BindsTo s fd ⟨[u],[]⟩ [(x,u)])/\(∀ T∈Ts,(K w.params).lookup T=none/\∃ c,tabIn (K w.params) c=some T)/\
    (∀ (H:Hp) (a:Addr) (ns:List Int),ns.length≤n->(∀ T∈Ts,H T=some (.tbl #[]))->bJ (K w.params) H a (ns.map V.int)->sp [.ref a] H (fun v _=>v=.bl true) fun _ _ _=>False)/\
    ∀ base:Heap,(K w.params).In base->base.Ns mainGlobals mg->(∀ T∈Ts,base.BuiltinsAt mg T/\mainGlobals≠T)->aQ l.prog w (K w.params) mg base (CX w) k fa fd [x] sp)
 (hCX:∀ (w:World) (H:Hp) (s:Shared) (e:Value) (s':Shared),CX w [] H s (fun _ _ _=>False) e s'->False) :
 WalkO q loose XP YP l.row.toRowW d [] (fun f vs=>PySem.call f vs):=by
 refine Att.qt hn hdf fun w s₀ s₁ mg mb fa o pm cd doc a vs ns G Y ho hd hcd hmg hobj hints hlen hg=>?_
 have KX:=hY w _ Y
 have TX:=hYT w _ Y
 obtain ⟨fd,sp,hb,ht,hsp,hF⟩:=F w mg fa _ KX G.T.g hmg
 obtain ⟨bm,ob,b1,b2,b3,b4,b5,b6⟩:=G.T.bmain
 have gT:∀ T∈Ts,mainGlobals≠T:=fun T m q=>by
  obtain ⟨o,es,ep,e,hd,_⟩:=G.T.g
  rw [q,TX T m] at e;cases e;cases hd
 have bT:bm∉Ts:=fun m=>by
  rw [TX _ m] at b3;cases b3;cases b4
 have ba:bm≠a:=fun q=>by
  rw [q,hobj] at b3;cases b3;cases b6
 have bG:bm≠mainGlobals:=fun q=>by
  obtain ⟨o,es,ep,e,hd,_⟩:=G.T.g
  rw [q,e] at b3;cases b3;rw [hd] at b6;cases b6
 exact wg KX G.T.g G.T.b G.T.builtins G.T.nolimit hg hobj hints (Nat.le_trans hlen hn2) hr (fun T m=>⟨TX T m,(ht T m).1,let ⟨c,z⟩:=(ht T m).2;⟨c,Ca KX z⟩⟩) (fun base kb nb old=>hF base kb nb fun T m=>⟨⟨bm,ob,b1,b2,bG,fun q=>bT (q ▸ m),old _ _ b3 bT ba,b4,b5,b6⟩,gT T m⟩) hb (fun H hH hS=>hsp H a ns hlen hH hS) fun H e s'=>hCX w H s₁ e s'
end L2
namespace L2
open PySem PySem.Spec PyProof.Rows
end L2
namespace L2
open PySem PySem.Spec PyProof.Rows PySem.SeqAt
theorem Li {α:Type} {us:List α} (h:us.length=1):∃ a,us=[a]:=List.length_eq_one_iff.mp h
theorem yR {α:Type} {us:List α} (h:us.length=2):∃ a b,us=[a,b]:=by
 cases us with
 |nil=>cases h
 | cons a r=>
   obtain ⟨b,rfl⟩:=Li (us:=r) (by simpa using h)
   exact ⟨a,b,rfl⟩
theorem J3 {α:Type} {us:List α} (h:us.length=3):∃ a b c,us=[a,b,c]:=by
 cases us with
 |nil=>cases h
 | cons a r=>
   obtain ⟨b,c,rfl⟩:=yR (us:=r) (by simpa using h)
   exact ⟨a,b,c,rfl⟩
theorem Tp {α:Type} {us:List α} (h:us.length=4):∃ a b c d,us=[a,b,c,d]:=by
 cases us with
 |nil=>cases h
 | cons a r=>
   obtain ⟨b,c,d,rfl⟩:=J3 (us:=r) (by simpa using h)
   exact ⟨a,b,c,d,rfl⟩
end L2
namespace L2
open PySem PySem.Spec PyProof.Rows
theorem kE:∀ {ns:List Int} {us:List Value},Vals (ns.map V.int) us->∃ ps:List (Int×Tok),us=ps.map (fun p=>Value.int p.1 p.2)/\ps.map (·.1)=ns
 |[],_,r=>by rw [List.map_nil] at r;cases r;exact ⟨[],rfl,rfl⟩
 | n::ns,_,r=>by
   rw [List.map_cons] at r
   cases r with
   | cons h t=>
     obtain ⟨tk,rfl⟩:=(show ∃ t,_=Value.int n t from h)
     obtain ⟨ps,e1,e2⟩:=kE t
     exact ⟨(n,tk)::ps,by rw [e1];rfl,by rw [List.map_cons,e2]⟩
theorem numAt_eq {ps:List (Int×Tok)} {ns:List Int} (e:ps.map (·.1)=ns) (h:i<ns.length):numAt ps.toArray i=ns[i]:=by
 subst e
 unfold numAt
 simp at h ⊢
 rw [List.getElem?_eq_getElem h]
 rfl
theorem qu {ps:List (Int×Tok)}:(ps.map (fun p=>Value.int p.1 p.2)).toArray=intItems ps.toArray:=by
 unfold intItems
 simp
theorem wz (hc:X.calm=true):gH X (.builtin "max") (fun xs H Q=>∃ p ns,xs=[.ref p]/\bJ X.K H p (ns.map V.int)/\ns≠[]/\∀ b,b∈ns->(∀ x∈ns,x≤b)->Q (.int b) H):=by
 intro Z s σ H xs us Q I r h
 obtain ⟨p,ns,rfl,hq,hne,q⟩:=h
 obtain ⟨u,rfl,ru⟩:=vals1 r
 cases (show u=Value.ref p from ru)
 obtain ⟨its,rv,pl,hz⟩:=I.list hq
 obtain ⟨ps,rfl,e⟩:=kE rv
 have hl:ps.length=ns.length:=by rw [← e,List.length_map]
 have hpos:0<ns.length:=List.length_pos_iff.mpr hne
 have pl':=pl.isList
 rw [qu] at pl'
 refine max_intList (I.ok.hd hc) pl' (by simp;omega) fun v h' tk hv k=>?_
 have hb:=argBest_gt (numAt ps.toArray) (ps.toArray.size-1)
 generalize argBest (fun i j=>decide (numAt ps.toArray i > numAt ps.toArray j)) (ps.toArray.size-1)=m at hv hb
 have hm:m<ns.length:=by have:=hb.1;simp at this;omega
 obtain ⟨t,rfl⟩:=intItems_at hv
 rw [numAt_eq e hm]
 refine ⟨.int ns[m],H,I.kept k,⟨_,rfl⟩,q _ (List.getElem_mem hm) fun x hx=>?_⟩
 obtain ⟨j,hj,rfl⟩:=List.getElem_of_mem hx
 have:=hb.2 j (by simp;omega)
 rw [numAt_eq e hj,numAt_eq e hm] at this
 exact this
end L2
namespace L2
open PySem PySem.Spec PyProof.Rows PySem.SeqAt
def lB (t:TE) (σ:St) (H:Hp) (v:V):Prop:=∀ Q:VK,Q v H->t σ H Q
def zE (t:TT) (σ:St) (H:Hp) (b:Bool):Prop:=∀ Q:Bool->Hp->Prop,Q b H->t σ H Q
def zH (r:R2) (x y:V) (H:Hp) (v:V):Prop:=∀ Q:VK,Q v H->r x y H Q
theorem lB.var (h:σ[i]?=some (some v)):lB (wU i) σ H v:=fun Q q=>⟨v,h,q⟩
theorem lB.con:lB (tC v) σ H v:=fun Q q=>q
theorem lB.neg (a:lB ta σ H (.int i)):lB (VM (rU fun i=>.int (-i)) ta) σ H (.int (-i)):=fun Q q=>a _ ⟨i,rfl,q⟩
theorem zH.i0:zH (zF g) (.int i) (.int j) H (g i j):=fun Q q=>⟨i,j,rfl,rfl,q⟩
theorem zE.test (a:lB t σ H (.bl k)):zE (uP t) σ H k:=fun Q q=>a _ ⟨k,rfl,q⟩
theorem lB.chain (a:lB ta σ H x) (b:lB tb σ H y) (c:lB tc σ H z) (h:zH r x y H (.bl k)) (h':zH r' y z H (.bl k')):lB (uc r r' ta tb tc) σ H (.bl (k && k')):=fun Q q=>a _ (b _ (h _ ⟨k,rfl,by
 cases k with
 |false=>exact bQ rfl q
 |true=>exact cC rfl (c _ (h' _ q))⟩))
theorem zE.not (a:zE t σ H k):zE (JS t) σ H (!k):=fun Q q=>a _ q
theorem zE.iff (h:zE t σ H k) (q:if k=true then a D σ H else b D σ H):Lr t a b D σ H:=h _ q
theorem iR {f:Nat->Int} {ns:List Int} (h:∀ i (hi:i<ns.length),f i=ns[i]):∀ k,k≤ns.length->preSum f k=(ns.take k).sum
 |0,_=>rfl
 | k+1,hk=>by
   have hk':k<ns.length:=hk
   show preSum f k+f k=_
   rw [iR h k (Nat.le_of_lt hk'),h k hk',List.take_add_one,List.getElem?_eq_getElem hk',List.sum_append]
   simp
theorem sum_bound:∀ {ns:List Int},(∀ x∈ns,-B≤x/\x≤B)->0≤B->-(B*ns.length)≤ns.sum/\ns.sum≤B*ns.length
 |[],_,_=>by simp
 | n::ns,h,hB=>by
   have h1:=h n (List.mem_cons_self ..)
   have h2:=sum_bound (ns:=ns) (fun x hx=>h x (List.mem_cons_of_mem _ hx)) hB
   rw [List.sum_cons,List.length_cons,Int.natCast_succ,Int.mul_add,Int.mul_one]
   omega
theorem oJ {X:Cx} (hc:X.calm=true):gH X (.builtin "sum") (fun xs H Q=>∃ (p:Addr) (ns:List Int),xs=[.ref p]/\bJ X.K H p (ns.map V.int)/\ns.length≤1000/\(∀ x∈ns,-10000000000000≤x/\x≤10000000000000)/\Q (.int ns.sum) H):=by
 intro Z s σ H xs us Q I r h
 obtain ⟨p,ns,rfl,hq,hl,hb,q⟩:=h
 obtain ⟨u,rfl,ru⟩:=vals1 r
 cases (show u=Value.ref p from ru)
 obtain ⟨its,rv,pl,hz⟩:=I.list hq
 obtain ⟨ps,rfl,e⟩:=kE rv
 have hlen:ps.length=ns.length:=by rw [← e,List.length_map]
 have pl':=pl.isList
 rw [qu] at pl'
 have at_:∀ i (hi:i<ns.length),numAt ps.toArray i=ns[i]:=fun i hi=>numAt_eq e hi
 refine sum_intList (I.ok.hd hc) pl' (fun j hj=>?_) fun h' tk t' k=>?_
 ·have hj':j<ns.length:=by simpa [hlen] using hj
  rw [at_ j hj',iR at_ (j+1) hj']
  have b1:=hb _ (List.getElem_mem hj')
  have b2:=sum_bound (B:=10000000000000) (ns:=ns.take (j+1)) (fun x hx=>hb x (List.mem_of_mem_take hx)) (by decide)
  have b3:(ns.take (j+1)).length≤1000:=by rw [List.length_take];omega
  refine ⟨⟨?_,?_⟩,?_,?_⟩ <;> omega
 ·have:preSum (numAt ps.toArray) ps.toArray.size=ns.sum:=by
   rw [List.size_toArray,hlen,iR at_ _ (Nat.le_refl _),List.take_length]
  rw [this]
  exact ⟨.int _,H,I.kept k,⟨_,rfl⟩,q⟩
end L2
namespace L2
open PySem PySem.Spec PyProof.Rows
end L2
namespace L2
open PySem
end L2
namespace L2
open PySem PySem.Spec PyProof.Rows PySem.SeqAt
abbrev eZ (h:Heap) (z TI TO:Addr) (f0:Value) (b:Bool):Prop:=
 h.get? z=some { cls:=.type "zip",dict:=none,data:=.fields #[f0,.bool b,.bool false,.ref TI,.ref TO],slots:=#[] }
section
variable {prog:Program} {w:World} {A:Around} {E:Value->Shared->Prop} {s:Shared}
theorem wV (h:Q (s.heap.get? a) s):wpAny (model prog w) A (loadIfAlive a) Q E s:=by
 exact fun _ _ _=>h
theorem qX {z TI TO:Addr} {f0:Value} {b:Bool} {Q:Bool->Shared->Prop} (hz:eZ s.heap z TI TO f0 b) (hf:f0=.none∨∃ a:Int,f0=rawInt a)
 (hT:Q true s) (hF:∀ h',eZ h' z TI TO f0 true->Heap.SameBut z s.heap h'->Q false { s with heap:=h' }):wpAny (model prog w) A (Builtin.SmallTypes.ownedTupleIsFree (.ref z)) Q E s:=by
 unfold Builtin.SmallTypes.ownedTupleIsFree
 rcases hf with rfl|⟨a,rfl⟩
 ·exact wpAny_bind (wpAny_field hz rfl (x:=.none) rfl (wpAny_pure hT))
 ·refine wpAny_bind (wpAny_field hz rfl (x:=rawInt a) rfl ?_)
  show wpAny _ _ (loadIfAlive a.toNat >>= _) _ _ _
  refine wpAny_bind (wV ?_)
  cases hR:s.heap.get? a.toNat with
  |none=>exact wpAny_pure hT
  | some o=>
    show wpAny _ _ (field (.ref z) 1 >>= _) _ _ _
    refine wpAny_bind (wpAny_field hz rfl (x:=.bool b) rfl ?_)
    cases b with
    |true=>exact wpAny_pure (hF s.heap hz (Heap.SameBut.refl ..))
    | false=>
      show wpAny _ _ (setField (.ref z) 1 (.bool true) >>= _) _ _ _
      exact wpAny_bind (wpAny_setField_rec hz (by simp) fun h₁ hz₁ hs₁=>wpAny_pure (hF h₁ hz₁ hs₁))
structure ZS (h:Heap) (z TI TO i1 i2 a1 a2:Addr) (k1 k2:Nat):Prop where
 zz:∃ f0 b,eZ h z TI TO f0 b/\(f0=.none∨∃ a:Int,f0=rawInt a)
 ti:IsPair h TI (.ref i1) (.ref i2)
 to:∃ x y,IsPair h TO x y
 h1:h.IsTupleIter i1 a1 k1
 h2:h.IsTupleIter i2 a2 k2
theorem bU (x:h.IsTupleIter it l i) (hs:Heap.ExtBut c h h') (hc:it≠c):h'.IsTupleIter it l i:=x.at fun o e=>hs _ _ hc e
theorem d7 (x:h.IsTuple l xs) (hs:Heap.ExtBut c h h') (hc:l≠c):h'.IsTuple l xs:=let ⟨o,e,r⟩:=x;⟨o,hs _ _ hc e,r⟩
theorem vQ {z TI TO i1 i2 a1 a2:Addr} {k1 k2:Nat} {xs ys:Array Value} {x y:Value} {Q:Value->Shared->Prop} (D:ZipApart z TI TO i1 i2 a1 a2) (S:ZS s.heap z TI TO i1 i2 a1 a2 k1 k2)
 (t1:s.heap.IsTuple a1 xs) (t2:s.heap.IsTuple a2 ys) (hx:xs[k1]?=some x) (hy:ys[k2]?=some y)
 (hQ:∀ h',ZS h' z TI TO i1 i2 a1 a2 (k1+1) (k2+1)->IsPair h' s.heap.objs.size x y->h'.objs.size=s.heap.objs.size+1->
  (∀ c o,c≠z->c≠TO->c≠i1->c≠i2->s.heap.get? c=some o->h'.get? c=some o)->Q (.ref s.heap.objs.size) { s with heap:=h' }) :
 wpAny (model prog w) A (Builtin.«zip.__next__» ⟨[.ref z],[]⟩) (fun fin s'=>∃ v,fin=.done (.ret v)/\Q v s') E s:=by
 obtain ⟨⟨f0,b,hz,hf⟩,hTI,⟨a,b',hTO⟩,h1,h2⟩:=S
 show wpAny _ _ (field (.ref z) 2 >>= _) _ _ _
 refine wpAny_bind (wpAny_field hz rfl (x:=.bool false) rfl ?_)
 show wpAny _ _ (field (.ref z) 3 >>= _) _ _ _
 refine wpAny_bind (wpAny_field hz rfl (x:=.ref TI) rfl ?_)
 refine wpAny_bind (wpAny_seqItems hTI rfl ?_)
 show wpAny _ _ (Builtin.SmallTypes.ownedTupleIsFree (.ref z) >>= _) _ _ _
 refine wpAny_bind (qX hz hf ?_ fun h₀ hz₀ hs₀=>?_)
 ·simp only [if_true]
  refine wpAny_bind (wpAny_rule ?_)
  refine wpAny_bind (wpAny_field hz rfl (x:=.ref TO) rfl ?_)
  refine wpAny_bind (wpAny_setField_rec hz (by simp) fun h₁ hz₁ hs₁=>?_)
  replace hz₁:eZ h₁ z TI TO .ellipsis b:=hz₁
  refine wpAny_bind ?_
  simp only [List.zipIdx_cons,List.zipIdx_nil,List.forIn_cons,List.forIn_nil]
  refine wpAny_bind (wpAny_bind (wpAny_onRaise ?_))
  show wpAny _ _ (Builtin.SmallTypes.nextOf (.ref i1) >>= _) _ _ _
  refine wpAny_bind (gB (bU h1 hs₁.extBut D.i1z) (d7 t1 hs₁.extBut D.l1z) hx fun h₂ h1₂ hs₂=>wpAny_pure ?_)
  have hTO₂:IsPair h₂ TO a b':=hs₂.extBut _ _ D.TOi1 (hs₁.extBut _ _ D.TOz hTO)
  refine wpAny_bind (wpAny_seqItems hTO₂ rfl ?_)
  refine wpAny_bind (wpAny_updateSeq_pair hTO₂ fun h₃ hTO₃ hs₃=>?_)
  replace hTO₃:IsPair h₃ TO x b':=hTO₃
  refine wpAny_bind (wpAny_letGo (wpAny_pure ?_))
  refine wpAny_bind (wpAny_bind (wpAny_onRaise ?_))
  show wpAny _ _ (Builtin.SmallTypes.nextOf (.ref i2) >>= _) _ _ _
  refine wpAny_bind (gB (bU (bU (bU h2 hs₁.extBut D.i2z) hs₂.extBut D.i12.symm) hs₃.extBut D.TOi2.symm)
   (d7 (d7 (d7 t2 hs₁.extBut D.l2z) hs₂.extBut D.l2i1) hs₃.extBut D.l2TO) hy fun h₄ h2₄ hs₄=>wpAny_pure ?_)
  have hTO₄:IsPair h₄ TO x b':=hs₄.extBut _ _ D.TOi2 hTO₃
  refine wpAny_bind (wpAny_seqItems hTO₄ rfl ?_)
  refine wpAny_bind (wpAny_updateSeq_pair hTO₄ fun h₅ hTO₅ hs₅=>?_)
  replace hTO₅:IsPair h₅ TO x y:=hTO₅
  refine wpAny_bind (wpAny_letGo (wpAny_pure (wpAny_pure ?_)))
  refine wpAny_bind (wpAny_seqItems hTO₅ rfl ?_)
  refine wpAny_bind (wpAny_newTuple ?_)
  have hsz:h₅.objs.size=s.heap.objs.size:=by rw [hs₅.1,hs₄.1,hs₃.1,hs₂.1,hs₁.1]
  have hz₅:eZ h₅ z TI TO .ellipsis b:=hs₅.extBut _ _ D.TOz.symm (hs₄.extBut _ _ D.i2z.symm (hs₃.extBut _ _ D.TOz.symm (hs₂.extBut _ _ D.i1z.symm hz₁)))
  have hk₅:∀ c o,c≠z->c≠TO->c≠i1->c≠i2->s.heap.get? c=some o->h₅.get? c=some o:=fun c o c1 c2 c3 c4 e=>
   hs₅.extBut _ _ c2 (hs₄.extBut _ _ c4 (hs₃.extBut _ _ c2 (hs₂.extBut _ _ c3 (hs₁.extBut _ _ c1 e))))
  have h1₅:h₅.IsTupleIter i1 a1 (k1+1):=bU (bU (bU h1₂ hs₃.extBut D.TOi1.symm) hs₄.extBut D.i12) hs₅.extBut D.TOi1.symm
  have h2₅:h₅.IsTupleIter i2 a2 (k2+1):=bU h2₄ hs₅.extBut D.TOi2.symm
  have hzlt:z<h₅.objs.size:=Heap.lt_size hz₅
  show wpAny _ _ (Builtin.SmallTypes.ownedTupleHandOut (.ref z) (.ref h₅.objs.size) >>= _) _ _ _
  refine wpAny_bind ?_
  unfold Builtin.SmallTypes.ownedTupleHandOut
  have hz₆:eZ (h₅.push { cls:=.type "tuple",data:=.seq #[x,y] }) z TI TO .ellipsis b:=Heap.get?_push_of_some _ hz₅
  refine wpAny_bind (wpAny_setField_rec hz₆ (by simp) fun h₇ hz₇ hs₇=>?_)
  replace hz₇:eZ h₇ z TI TO (rawInt h₅.objs.size) b:=hz₇
  refine wpAny_setField_rec hz₇ (by simp) fun h₈ hz₈ hs₈=>?_
  replace hz₈:eZ h₈ z TI TO (rawInt h₅.objs.size) false:=hz₈
  have up:∀ c o,c≠z->h₅.get? c=some o->h₈.get? c=some o:=fun c o c1 e=>hs₈.extBut _ _ c1 (hs₇.extBut _ _ c1 (Heap.get?_push_of_some _ e))
  have hT₈:IsPair h₈ h₅.objs.size x y:=hs₈.extBut _ _ (Nat.ne_of_gt hzlt) (hs₇.extBut _ _ (Nat.ne_of_gt hzlt) (Heap.get?_push_size _ rfl))
  have hz8:h₈.objs.size=h₅.objs.size+1:=by rw [hs₈.1,hs₇.1,Heap.size_push]
  rw [hsz] at hT₈ hz8
  refine wpAny_pure ⟨_,rfl,?_⟩
  show Q (.ref h₅.objs.size) _
  rw [hsz]
  exact hQ h₈ ⟨⟨_,_,hz₈,.inr ⟨_,rfl⟩⟩,up _ _ D.TIz (hk₅ _ _ D.TIz D.TITO D.TIi1 D.TIi2 hTI),⟨_,_,up _ _ D.TOz hTO₅⟩,h1₅.at fun o e=>up _ o D.i1z e,h2₅.at fun o e=>up _ o D.i2z e⟩ hT₈ hz8 fun c o c1 c2 c3 c4 e=>up c o c1 (hk₅ c o c1 c2 c3 c4 e)
 ·simp only [Bool.false_eq_true,if_false]
  rw [← Array.forIn_toList]
  simp only [List.forIn_cons,List.forIn_nil]
  refine wpAny_bind (wpAny_bind (wpAny_bind (wpAny_holding ?_)))
  show wpAny _ _ (Builtin.SmallTypes.nextOf (.ref i1) >>= _) _ _ _
  refine wpAny_bind (gB (bU h1 hs₀.extBut D.i1z) (d7 t1 hs₀.extBut D.l1z) hx fun h₂ h1₂ hs₂=>wpAny_pure (wpAny_pure ?_))
  dsimp only
  refine wpAny_bind (wpAny_bind (wpAny_holding ?_))
  show wpAny _ _ (Builtin.SmallTypes.nextOf (.ref i2) >>= _) _ _ _
  refine wpAny_bind (gB (bU (bU h2 hs₀.extBut D.i2z) hs₂.extBut D.i12.symm) (d7 (d7 t2 hs₀.extBut D.l2z) hs₂.extBut D.l2i1) hy fun h₄ h2₄ hs₄=>wpAny_pure (wpAny_pure ?_))
  dsimp only
  refine wpAny_pure ?_
  dsimp only
  refine wpAny_bind (wpAny_newTuple ?_ (by show 2≤sizeLine;decide))
  have hsz:h₄.objs.size=s.heap.objs.size:=by rw [hs₄.1,hs₂.1,hs₀.1]
  have hk₄:∀ c o,c≠z->c≠TO->c≠i1->c≠i2->s.heap.get? c=some o->h₄.get? c=some o:=fun c o c1 c2 c3 c4 e=>hs₄.extBut _ _ c4 (hs₂.extBut _ _ c3 (hs₀.extBut _ _ c1 e))
  have hz₄:eZ h₄ z TI TO f0 true:=hs₄.extBut _ _ D.i2z.symm (hs₂.extBut _ _ D.i1z.symm hz₀)
  have up:∀ c o,h₄.get? c=some o->(h₄.push { cls:=.type "tuple",data:=.seq #[x,y] }).get? c=some o:=fun c o e=>Heap.get?_push_of_some _ e
  refine wpAny_pure ⟨_,rfl,?_⟩
  show Q (.ref h₄.objs.size) _
  have hT:IsPair (h₄.push { cls:=.type "tuple",data:=.seq #[x,y] }) h₄.objs.size x y:=Heap.get?_push_size _ rfl
  have hz8:(h₄.push { cls:=.type "tuple",data:=.seq #[x,y] }).objs.size=h₄.objs.size+1:=Heap.size_push ..
  rw [hsz] at hT hz8
  rw [hsz]
  have hTO₄:IsPair h₄ TO a b':=hs₄.extBut _ _ D.TOi2 (hs₂.extBut _ _ D.TOi1 (hs₀.extBut _ _ D.TOz hTO))
  exact hQ _ ⟨⟨_,_,up _ _ hz₄,hf⟩,up _ _ (hk₄ _ _ D.TIz D.TITO D.TIi1 D.TIi2 hTI),⟨_,_,up _ _ hTO₄⟩,(bU h1₂ hs₄.extBut D.i12).at fun o e=>up _ o e,h2₄.at fun o e=>up _ o e⟩ hT hz8 fun c o c1 c2 c3 c4 e=>up c o (hk₄ c o c1 c2 c3 c4 e)
theorem za {z TI TO i1 i2 a1 a2:Addr} {k1 k2:Nat} {xs ys:Array Value} {Q:Fin->Shared->Prop} (hh:A.handled=none) (D:ZipApart z TI TO i1 i2 a1 a2) (S:ZS s.heap z TI TO i1 i2 a1 a2 k1 k2)
 (t1:s.heap.IsTuple a1 xs) (t2:s.heap.IsTuple a2 ys) (hend:xs[k1]?=none∨ys[k2]?=none)
 (hE:∀ h' e,(∀ c o,c≠z->c≠TO->c≠i1->c≠i2->s.heap.get? c=some o->h'.get? c=some o)->(∃ o,h'.get? e=some o/\o.cls=.type "StopIteration")->E (.ref e) { s with heap:=h' }) :
 wpAny (model prog w) A (Builtin.«zip.__next__» ⟨[.ref z],[]⟩) Q E s:=by
 obtain ⟨⟨f0,b,hz,hf⟩,hTI,⟨a,b',hTO⟩,h1,h2⟩:=S
 show wpAny _ _ (field (.ref z) 2 >>= _) _ _ _
 refine wpAny_bind (wpAny_field hz rfl (x:=.bool false) rfl ?_)
 show wpAny _ _ (field (.ref z) 3 >>= _) _ _ _
 refine wpAny_bind (wpAny_field hz rfl (x:=.ref TI) rfl ?_)
 refine wpAny_bind (wpAny_seqItems hTI rfl ?_)
 show wpAny _ _ (Builtin.SmallTypes.ownedTupleIsFree (.ref z) >>= _) _ _ _
 refine wpAny_bind (qX hz hf ?_ fun h₀ hz₀ hs₀=>?_)
 ·simp only [if_true]
  refine wpAny_bind (wpAny_rule ?_)
  refine wpAny_bind (wpAny_field hz rfl (x:=.ref TO) rfl ?_)
  refine wpAny_bind (wpAny_setField_rec hz (by simp) fun h₁ hz₁ hs₁=>?_)
  replace hz₁:eZ h₁ z TI TO .ellipsis b:=hz₁
  refine wpAny_bind ?_
  simp only [List.zipIdx_cons,List.zipIdx_nil,List.forIn_cons,List.forIn_nil]
  refine wpAny_bind (wpAny_bind (wpAny_onRaise ?_))
  show wpAny _ _ (Builtin.SmallTypes.nextOf (.ref i1) >>= _) _ _ _
  cases hx:xs[k1]? with
  | none=>
    refine wpAny_bind (gn hh (bU h1 hs₁.extBut D.i1z) (d7 t1 hs₁.extBut D.l1z) hx fun h₂ e hs₂ he=>?_)
    obtain ⟨oe,hoe,hce⟩:=he
    have hz₂:eZ h₂ z TI TO .ellipsis b:=hs₂ _ _ D.i1z.symm hz₁
    have hez:e≠z:=fun x=>by subst x;rw [hz₂] at hoe;cases hoe;simp at hce
    refine wpAny_setField_rec hz₂ (by simp) fun h₃ _ hs₃=>hE h₃ e (fun c o c1 _ c3 _ x=>hs₃.extBut _ _ c1 (hs₂ _ _ c3 (hs₁.extBut _ _ c1 x))) ⟨oe,hs₃.extBut _ _ hez hoe,hce⟩
  | some x=>
    have hy:ys[k2]?=none:=by rcases hend with h|h;rw [hx] at h;cases h;exact h
    refine wpAny_bind (gB (bU h1 hs₁.extBut D.i1z) (d7 t1 hs₁.extBut D.l1z) hx fun h₂ h1₂ hs₂=>wpAny_pure ?_)
    have hTO₂:IsPair h₂ TO a b':=hs₂.extBut _ _ D.TOi1 (hs₁.extBut _ _ D.TOz hTO)
    refine wpAny_bind (wpAny_seqItems hTO₂ rfl ?_)
    refine wpAny_bind (wpAny_updateSeq_pair hTO₂ fun h₃ hTO₃ hs₃=>?_)
    refine wpAny_bind (wpAny_letGo (wpAny_pure ?_))
    refine wpAny_bind (wpAny_bind (wpAny_onRaise ?_))
    show wpAny _ _ (Builtin.SmallTypes.nextOf (.ref i2) >>= _) _ _ _
    refine wpAny_bind (gn hh (bU (bU (bU h2 hs₁.extBut D.i2z) hs₂.extBut D.i12.symm) hs₃.extBut D.TOi2.symm)
     (d7 (d7 (d7 t2 hs₁.extBut D.l2z) hs₂.extBut D.l2i1) hs₃.extBut D.l2TO) hy fun h₄ e hs₄ he=>?_)
    obtain ⟨oe,hoe,hce⟩:=he
    have hz₄:eZ h₄ z TI TO .ellipsis b:=hs₄ _ _ D.i2z.symm (hs₃.extBut _ _ D.TOz.symm (hs₂.extBut _ _ D.i1z.symm hz₁))
    have hez:e≠z:=fun x=>by subst x;rw [hz₄] at hoe;cases hoe;simp at hce
    refine wpAny_setField_rec hz₄ (by simp) fun h₅ _ hs₅=>hE h₅ e (fun c o c1 c2 c3 c4 x=>hs₅.extBut _ _ c1 (hs₄ _ _ c4 (hs₃.extBut _ _ c2 (hs₂.extBut _ _ c3 (hs₁.extBut _ _ c1 x))))) ⟨oe,hs₅.extBut _ _ hez hoe,hce⟩
 ·simp only [Bool.false_eq_true,if_false]
  rw [← Array.forIn_toList]
  simp only [List.forIn_cons,List.forIn_nil]
  refine wpAny_bind (wpAny_bind (wpAny_bind (wpAny_holding ?_)))
  show wpAny _ _ (Builtin.SmallTypes.nextOf (.ref i1) >>= _) _ _ _
  cases hx:xs[k1]? with
  | none=>
    refine wpAny_bind (gn hh (bU h1 hs₀.extBut D.i1z) (d7 t1 hs₀.extBut D.l1z) hx fun h₂ e hs₂ he=>?_)
    exact hE h₂ e (fun c o c1 _ c3 _ x=>hs₂ _ _ c3 (hs₀.extBut _ _ c1 x)) he
  | some x=>
    have hy:ys[k2]?=none:=by rcases hend with h|h;rw [hx] at h;cases h;exact h
    refine wpAny_bind (gB (bU h1 hs₀.extBut D.i1z) (d7 t1 hs₀.extBut D.l1z) hx fun h₂ h1₂ hs₂=>wpAny_pure (wpAny_pure ?_))
    dsimp only
    refine wpAny_bind (wpAny_bind (wpAny_holding ?_))
    show wpAny _ _ (Builtin.SmallTypes.nextOf (.ref i2) >>= _) _ _ _
    refine wpAny_bind (gn hh (bU (bU h2 hs₀.extBut D.i2z) hs₂.extBut D.i12.symm) (d7 (d7 t2 hs₀.extBut D.l2z) hs₂.extBut D.l2i1) hy fun h₄ e hs₄ he=>?_)
    exact hE h₄ e (fun c o c1 c2 c3 c4 x=>hs₄ _ _ c4 (hs₂.extBut _ _ c3 (hs₀.extBut _ _ c1 x))) he
theorem tY {z TI TO i1 i2 a1 a2:Addr} {k1 k2:Nat} {xs ys:Array Value} {x y:Value} {Q:Value->Shared->Prop} (D:ZipApart z TI TO i1 i2 a1 a2) (S:ZS s.heap z TI TO i1 i2 a1 a2 k1 k2)
 (t1:s.heap.IsTuple a1 xs) (t2:s.heap.IsTuple a2 ys) (hx:xs[k1]?=some x) (hy:ys[k2]?=some y)
 (hQ:∀ h',ZS h' z TI TO i1 i2 a1 a2 (k1+1) (k2+1)->IsPair h' s.heap.objs.size x y->h'.objs.size=s.heap.objs.size+1->
  (∀ c o,c≠z->c≠TO->c≠i1->c≠i2->s.heap.get? c=some o->h'.get? c=some o)->Q (.ref s.heap.objs.size) { s with heap:=h' }) :
 wpAny (model prog w) A (Builtin.SmallTypes.nextOf (.ref z)) Q E s:=by
 obtain ⟨f0,b,hz,_⟩:=S.zz
 have hT:s.TypeIs (.ref z) "zip":=⟨_,hz,rfl⟩
 unfold Builtin.SmallTypes.nextOf
 exact wpAny_bind (wpAny_callSpecial?_slot (name:=Str.ofString "__next__") hT F.slot_zip_next (wpAny_call_entry F.slot_zip_next hT F.entry_zip_next
  (vQ D S t1 t2 hx hy fun h' a1 a2 a3 a4=>wpAny_pure (hQ h' a1 a2 a3 a4)) (F.args_zip_next_1 _)))
theorem vD {z TI TO i1 i2 a1 a2:Addr} {k1 k2:Nat} {xs ys:Array Value} {Q:Value->Shared->Prop} (hh:A.handled=none) (D:ZipApart z TI TO i1 i2 a1 a2) (S:ZS s.heap z TI TO i1 i2 a1 a2 k1 k2)
 (t1:s.heap.IsTuple a1 xs) (t2:s.heap.IsTuple a2 ys) (hend:xs[k1]?=none∨ys[k2]?=none)
 (hE:∀ h' e,(∀ c o,c≠z->c≠TO->c≠i1->c≠i2->s.heap.get? c=some o->h'.get? c=some o)->(∃ o,h'.get? e=some o/\o.cls=.type "StopIteration")->E (.ref e) { s with heap:=h' }) :
 wpAny (model prog w) A (Builtin.SmallTypes.nextOf (.ref z)) Q E s:=by
 obtain ⟨f0,b,hz,_⟩:=S.zz
 have hT:s.TypeIs (.ref z) "zip":=⟨_,hz,rfl⟩
 unfold Builtin.SmallTypes.nextOf
 exact wpAny_bind (wpAny_callSpecial?_slot (name:=Str.ofString "__next__") hT F.slot_zip_next (wpAny_call_entry F.slot_zip_next hT F.entry_zip_next (za (A:=A.in1) hh D S t1 t2 hend hE) (F.args_zip_next_1 _)))
theorem wG {e it:Addr} {i:Nat} {old:Value} {Q:Value->Shared->Prop} (he:IsEnum s.heap e it i old)
 (draw:wpAny (model prog w) A (Builtin.SmallTypes.nextOf (.ref it)) (fun x s₁=>∃ h₁ tk,s₁={ s with heap:=h₁,toks:=tk }/\IsEnum h₁ e it i old/\
  ∀ h',IsEnumOut h' e it ((i:Int)+1) x h₁.objs.size->h'.get? h₁.objs.size=some { cls:=.type "tuple",data:=.seq #[.int i tk,x] }->(∀ b o,b≠e->h₁.get? b=some o->h'.get? b=some o)->
    Q (.ref h₁.objs.size) { s with heap:=h',toks:=tk+1 }) E s) :
 wpAny (model prog w) A (Builtin.«enumerate.__next__» ⟨[.ref e],[]⟩) (fun fin s'=>∃ v,fin=.done (.ret v)/\Q v s') E s:=by
 obtain ⟨hp,g,d,tk₀,os⟩:=s
 show wpAny _ _ (field (.ref e) 2 >>= _) _ _ _
 refine wpAny_bind (wpAny_field he rfl (x:=.ref it) rfl ?_)
 refine wpAny_bind (wpAny_mono draw (fun x s₁ hx=>?_) fun _ _ z=>z)
 obtain ⟨h₁,tk,rfl,he₁,hQ⟩:=hx
 show wpAny _ _ (field (.ref e) 3 >>= _) _ _ ⟨h₁,g,d,tk,os⟩
 refine wpAny_bind (wpAny_field he₁ rfl (x:=rawInt i) rfl ?_)
 show wpAny _ _ (field (.ref e) 4 >>= _) _ _ ⟨h₁,g,d,tk,os⟩
 refine wpAny_bind (wpAny_field he₁ rfl (x:=.none) rfl ?_)
 show wpAny _ _ (mkInt i >>= _) _ _ ⟨h₁,g,d,tk,os⟩
 refine wpAny_bind (wpAny_mkInt ?_)
 show wpAny _ _ (setField (.ref e) 3 (rawInt ((i:Int)+1)) >>= _) _ _ ⟨h₁,g,d,tk+1,os⟩
 refine wpAny_bind (wpAny_setField_rec he₁ (by simp) fun h₂ he₂ hs₂=>?_)
 replace hs₂:Heap.SameBut e h₁ h₂:=hs₂
 replace he₂:IsEnum h₂ e it ((i:Int)+1) old:=he₂
 show wpAny _ _ (setField (.ref e) 4 .none >>= _) _ _ ⟨h₂,g,d,tk+1,os⟩
 refine wpAny_bind (wpAny_setField_rec he₂ (by simp) fun h₃ he₃ hs₃=>?_)
 replace hs₃:Heap.SameBut e h₂ h₃:=hs₃
 replace he₃:IsEnum h₃ e it ((i:Int)+1) old:=he₃
 show wpAny _ _ (newTuple [.int i tk,x] >>= _) _ _ ⟨h₃,g,d,tk+1,os⟩
 refine wpAny_bind (wpAny_newTuple ?_)
 have he₄:IsEnum (h₃.push { cls:=.type "tuple",data:=.seq #[.int i tk,x] }) e it ((i:Int)+1) old:=Heap.get?_push_of_some _ he₃
 have hsz:h₃.objs.size=h₁.objs.size:=by rw [hs₃.1,hs₂.1]
 have ht₄:(h₃.push { cls:=.type "tuple",data:=.seq #[.int i tk,x] }).get? h₃.objs.size=some { cls:=.type "tuple",data:=.seq #[.int i tk,x] }:=Heap.get?_push_size _ rfl
 have hk₄:∀ b o,b≠e->h₁.get? b=some o->(h₃.push { cls:=.type "tuple",data:=.seq #[.int i tk,x] }).get? b=some o:=fun b o hbe hb=>Heap.get?_push_of_some _ (hs₃.extBut b o hbe (hs₂.extBut b o hbe hb))
 have hel:e<h₃.objs.size:=Heap.lt_size he₃
 generalize h₃.push { cls:=.type "tuple",data:=.seq #[.int i tk,x] }=h₄ at he₄ ht₄ hk₄
 rw [hsz] at ht₄ hel ⊢
 show wpAny _ _ (Builtin.SmallTypes.ownedTupleIsFree (.ref e) >>= _) _ _ ⟨h₄,g,d,tk+1,os⟩
 refine wpAny_bind ?_
 unfold Builtin.SmallTypes.ownedTupleIsFree
 refine wpAny_bind (wpAny_field he₄ rfl (x:=.none) rfl (wpAny_pure ?_))
 simp only [if_true]
 refine wpAny_bind (wpAny_rule ?_)
 show wpAny _ _ (field (.ref e) 5 >>= _) _ _ _
 refine wpAny_bind (wpAny_field he₄ rfl (x:=old) rfl ?_)
 show wpAny _ _ (setField (.ref e) 5 x >>= _) _ _ ⟨h₄,g,d,tk+1,os⟩
 refine wpAny_bind (wpAny_setField_rec he₄ (by simp) fun h₅ he₅ hs₅=>?_)
 replace he₅:IsEnum h₅ e it ((i:Int)+1) x:=he₅
 replace hs₅:Heap.SameBut e h₄ h₅:=hs₅
 show wpAny _ _ (Builtin.SmallTypes.ownedTupleHandOut (.ref e) (.ref h₁.objs.size) >>= _) _ _ _
 refine wpAny_bind ?_
 unfold Builtin.SmallTypes.ownedTupleHandOut
 refine wpAny_bind (wpAny_setField_rec he₅ (by simp) fun h₆ he₆ hs₆=>?_)
 replace hs₆:Heap.SameBut e h₅ h₆:=hs₆
 replace he₆:IsEnumOut h₆ e it ((i:Int)+1) x h₁.objs.size:=he₆
 refine wpAny_setField_rec he₆ (by simp) fun h₇ he₇ hs₇=>?_
 replace hs₇:Heap.SameBut e h₆ h₇:=hs₇
 replace he₇:IsEnumOut h₇ e it ((i:Int)+1) x h₁.objs.size:=he₇
 refine wpAny_bind (wpAny_letGo (wpAny_pure ⟨_,rfl,?_⟩))
 have up:∀ b o,b≠e->h₄.get? b=some o->h₇.get? b=some o:=fun b o hb z=>hs₇.extBut b o hb (hs₆.extBut b o hb (hs₅.extBut b o hb z))
 exact hQ h₇ he₇ (up _ _ (Nat.ne_of_gt hel) ht₄) fun b o hb z=>up b o hb (hk₄ b o hb z)
end
abbrev Q_ (h:Heap) (l1:Addr):Heap:=h.push { cls:=.type "tuple_iterator",data:=.fields #[.ref l1,.int 0 0] }
abbrev Rz (h:Heap) (l1 l2:Addr):Heap:=(Q_ h l1).push { cls:=.type "tuple_iterator",data:=.fields #[.ref l2,.int 0 0] }
abbrev R5 (h:Heap) (l1 l2:Addr):Heap:=(Rz h l1 l2).push { cls:=.type "tuple",data:=.seq #[.ref h.objs.size,.ref (Q_ h l1).objs.size] }
abbrev RQ (h:Heap) (l1 l2:Addr):Heap:=(R5 h l1 l2).push { cls:=.type "tuple",data:=.seq #[.none,.none] }
abbrev FQ (h:Heap) (l1 l2:Addr):Heap:=(RQ h l1 l2).push { cls:=.type "zip",data:=.fields #[.none,.bool false,.bool false,.ref (Rz h l1 l2).objs.size,.ref (R5 h l1 l2).objs.size] }
theorem x_ (l1 l2:Addr) (xs ys:Array Value) :
 Meets (Builtin.«zip.__new__» ⟨[.type "zip",.ref l1,.ref l2],[]⟩) (fun _ R s=>s.heap.IsTuple l1 xs/\s.heap.IsTuple l2 ys/\
  R (.ok (.ret (.ref (RQ s.heap l1 l2).objs.size))) { s with heap:=FQ s.heap l1 l2 }):=
 .of_wp fun prog w A R s h=>by
  obtain ⟨hp,g,d,tk,os⟩:=s;obtain ⟨hl1,hl2,h⟩:=h
  have hsub:=sub_zip
  have hL1:Heap.IsTuple (Shared.heap ⟨hp,g,d,tk,os⟩) l1 xs:=hl1
  have hL2:Heap.IsTuple (Shared.heap ⟨hp.push { cls:=.type "tuple_iterator",data:=.fields #[.ref l1,.int 0 0] },g,d,tk,os⟩) l2 ys:=let ⟨o,e,r⟩:=hl2;⟨o,Heap.get?_push_of_some _ e,r⟩
  wp_walk using wpAny_pyIter_tuple hL1,wpAny_pyIter_tuple hL2
  exact ⟨_,rfl,h⟩
theorem vY (hl1:s.heap.IsTuple l1 xs) (hl2:s.heap.IsTuple l2 ys)
 (h:∀ h',eZ h' (s.heap.objs.size+4) (s.heap.objs.size+2) (s.heap.objs.size+3) .none false->IsPair h' (s.heap.objs.size+2) (.ref s.heap.objs.size) (.ref (s.heap.objs.size+1))->
  IsPair h' (s.heap.objs.size+3) .none .none->h'.IsTupleIter s.heap.objs.size l1 0->h'.IsTupleIter (s.heap.objs.size+1) l2 0->h'.objs.size=s.heap.objs.size+5->
  (∀ c o,s.heap.get? c=some o->h'.get? c=some o)->Q (.ref (s.heap.objs.size+4)) { s with heap:=h' }) :
 wpAny (model prog w) A (call (.type "zip") [.ref l1,.ref l2]) Q E s:=by
 refine callType_new F.called_zip (by decide) (F.typeCall_zip_2 _ _) (F.newCall_zip_2 _ _) (fun obj=>F.args_object_init_3 obj _ _) F.entry_zip_new
  (x_ l1 l2 xs ys) ⟨hl1,hl2,?_⟩
 have z1:(Q_ s.heap l1).objs.size=s.heap.objs.size+1:=Heap.size_push ..
 have z2:(Rz s.heap l1 l2).objs.size=s.heap.objs.size+2:=by rw [Heap.size_push,z1]
 have z3:(R5 s.heap l1 l2).objs.size=s.heap.objs.size+3:=by rw [Heap.size_push,z2]
 have z4:(RQ s.heap l1 l2).objs.size=s.heap.objs.size+4:=by rw [Heap.size_push,z3]
 have z5:(FQ s.heap l1 l2).objs.size=s.heap.objs.size+5:=by rw [Heap.size_push,z4]
 have g5:(FQ s.heap l1 l2).get? (RQ s.heap l1 l2).objs.size=some _:=Heap.get?_push_size _ rfl
 have g4:(FQ s.heap l1 l2).get? (R5 s.heap l1 l2).objs.size=some _:=Heap.get?_push_of_some _ (Heap.get?_push_size _ rfl)
 have g3:(FQ s.heap l1 l2).get? (Rz s.heap l1 l2).objs.size=some _:=Heap.get?_push_of_some _ (Heap.get?_push_of_some _ (Heap.get?_push_size _ rfl))
 have g2:(FQ s.heap l1 l2).get? (Q_ s.heap l1).objs.size=some _:=Heap.get?_push_of_some _ (Heap.get?_push_of_some _ (Heap.get?_push_of_some _ (Heap.get?_push_size _ rfl)))
 have g1:(FQ s.heap l1 l2).get? s.heap.objs.size=some _:=Heap.get?_push_of_some _ (Heap.get?_push_of_some _ (Heap.get?_push_of_some _ (Heap.get?_push_of_some _ (Heap.get?_push_size _ rfl))))
 show _/\_
 rw [z2,z3,z4] at g5
 rw [z1,z2] at g3
 rw [z3] at g4
 rw [z1] at g2
 rw [z4]
 exact ⟨⟨_,g5,rfl⟩,h _ g5 g3 g4 ⟨_,g1,rfl,rfl⟩ ⟨_,g2,rfl,rfl⟩ z5 fun c o x=>
  Heap.get?_push_of_some _ (Heap.get?_push_of_some _ (Heap.get?_push_of_some _ (Heap.get?_push_of_some _ (Heap.get?_push_of_some _ x))))⟩
theorem oH {s:Shared} {z TI TO:Addr} {f0:Value} {b:Bool} {Q:Value->Shared->Prop} (hz:eZ s.heap z TI TO f0 b) (h:Q (.ref z) s):wpAny (model prog w) A (pyIter (.ref z)) Q E s:=by
 have hT:s.TypeIs (.ref z) "zip":=⟨_,hz,rfl⟩
 refine wpAny_pyIter_slot hT F.slot_zip_iter (wpAny_call_entry F.slot_zip_iter hT F.entry_zip_iter ?_ (F.args_zip_iter_1 _))
 show wpAny _ _ (ret (.ref z)) _ _ s
 exact wpAny_pure ⟨_,rfl,"zip",_,hT,F.slot_zip_next.lookup,h⟩
theorem vU (z TI TO:Addr) :
 Meets (Builtin.«enumerate.__new__» ⟨[.type "enumerate",.ref z],[]⟩) (fun _ R s=>eZ s.heap z TI TO .none false/\
  R (.ok (.ret (.ref s.heap.objs.size))) { s with heap:=s.heap.push { cls:=.type "enumerate",data:=.fields #[.none,.bool false,.ref z,rawInt 0,.none,.none] } }):=
 .of_wp fun prog w A R s h=>by
  obtain ⟨hp,g,d,tk,os⟩:=s
  obtain ⟨hl,h⟩:=h
  have hsub:=sub_enumerate
  have hL:eZ (Shared.heap ⟨hp,g,d,tk,os⟩) z TI TO .none false:=hl
  wp_walk using AutoSeq1.wpAny_loadPart' hl
  refine wpAny_stack_any fun st=>wpAny_pure ?_
  split
  ·rename_i c _ _ _ _ _
   cases (c == Value.type "enumerate") <;> (wp_walk using AutoSeq1.wpAny_loadPart' hl,oH hL;exact ⟨_,rfl,h⟩)
  ·wp_walk using AutoSeq1.wpAny_loadPart' hl,oH hL
   exact ⟨_,rfl,h⟩
theorem tQ {prog:Program} {w:World} {A:Around} {E:Value->Shared->Prop} {s:Shared} {z TI TO:Addr} {Q:Value->Shared->Prop} (hz:eZ s.heap z TI TO .none false)
 (h:∀ g,IsEnum g s.heap.objs.size z 0 .none->(∀ b o,s.heap.get? b=some o->g.get? b=some o)->Q (.ref s.heap.objs.size) { s with heap:=g }):wpAny (model prog w) A (call (.type "enumerate") [.ref z]) Q E s:=by
 refine callType_new F.called_enumerate (by decide) (F.typeCall_enumerate_1 _) (F.newCall_enumerate_1 _) (fun obj=>F.args_object_init_2 obj _) F.entry_enumerate_new (vU z TI TO) ⟨hz,?_⟩
 have he:=Heap.get?_push_size s.heap (o:={ cls:=.type "enumerate",data:=.fields #[.none,.bool false,.ref z,rawInt 0,.none,.none] }) rfl
 exact ⟨⟨_,he,rfl⟩,h _ he fun b o x=>Heap.get?_push_of_some _ x⟩
def QQ (K:PySem.W.Frag) (a1 a2:Addr):It:=
 ⟨fun i H=>∃ xs ys x y,bB K H a1 xs/\bB K H a2 ys/\xs[i]?=some x/\ys[i]?=some y,
  fun i H v H'=>∃ q p x y,H q=none/\upd H q (.tup [x,y]) p=none/\v=.ref p/\(∀ xs,bB K H a1 xs->xs[i]?=some x)/\(∀ ys,bB K H a2 ys->ys[i]?=some y)/\H'=upd (upd H q (.tup [x,y])) p (.tup [.int i,.ref q]),
  fun i H=>∃ xs ys,bB K H a1 xs/\bB K H a2 ys/\(xs.length≤i∨ys.length≤i)⟩
structure Bb (e z TI TO i1 i2:Addr):Prop where
 ez:e≠z
 eTI:e≠TI
 eTO:e≠TO
 e1:e≠i1
 e2:e≠i2
 TIz:TI≠z
 TOz:TO≠z
 i1z:i1≠z
 i2z:i2≠z
 TITO:TI≠TO
 TIi1:TI≠i1
 TIi2:TI≠i2
 TOi1:TO≠i1
 TOi2:TO≠i2
 i12:i1≠i2
abbrev EZ (e z TI TO i1 i2 a1 a2:Addr) (i:Nat) (h:Heap):Prop:=(∃ old,IsEnum h e z i old)/\ZS h z TI TO i1 i2 a1 a2 i i
theorem EZ.obj {e z TI TO i1 i2 a1 a2:Addr} {i:Nat} {h:Heap} (st:EZ e z TI TO i1 i2 a1 a2 i h):∀ b∈[e,z,TI,TO,i1,i2],∃ o,h.get? b=some o/\∀ v,o.data≠.cell v:=by
 obtain ⟨⟨old,he⟩,⟨f0,b0,hz,_⟩,hTI,⟨x,y,hTO⟩,⟨o1,e1,_,d1⟩,⟨o2,e2,_,d2⟩⟩:=st
 intro b hb
 simp only [List.mem_cons,List.not_mem_nil,or_false] at hb
 rcases hb with rfl|rfl|rfl|rfl|rfl|rfl
 ·exact ⟨_,he,fun v z=>by cases z⟩
 ·exact ⟨_,hz,fun v z=>by cases z⟩
 ·exact ⟨_,hTI,fun v z=>by cases z⟩
 ·exact ⟨_,hTO,fun v z=>by cases z⟩
 ·exact ⟨_,e1,fun v z=>by rw [d1] at z;cases z⟩
 ·exact ⟨_,e2,fun v z=>by rw [d2] at z;cases z⟩
theorem ZS.keep {z TI TO i1 i2 a1 a2:Addr} {i:Nat} {h h':Heap} (st:ZS h z TI TO i1 i2 a1 a2 i i) (k:∀ b∈[z,TI,TO,i1,i2],∀ o,h.get? b=some o->h'.get? b=some o):ZS h' z TI TO i1 i2 a1 a2 i i:=by
 obtain ⟨⟨f0,b0,hz,hf⟩,hTI,⟨x,y,hTO⟩,h1,h2⟩:=st
 exact ⟨⟨f0,b0,k _ (by simp) _ hz,hf⟩,k _ (by simp) _ hTI,⟨x,y,k _ (by simp) _ hTO⟩,h1.at fun o e=>k _ (by simp) _ e,h2.at fun o e=>k _ (by simp) _ e⟩
theorem ZS.obj {z TI TO i1 i2 a1 a2:Addr} {i j:Nat} {h:Heap} (st:ZS h z TI TO i1 i2 a1 a2 i j):∀ b∈[z,TO,i1,i2],∃ o,h.get? b=some o:=by
 obtain ⟨⟨f0,b0,hz,_⟩,hTI,⟨x,y,hTO⟩,⟨o1,e1,_,d1⟩,⟨o2,e2,_,d2⟩⟩:=st
 intro b hb
 simp only [List.mem_cons,List.not_mem_nil,or_false] at hb
 rcases hb with rfl|rfl|rfl|rfl
 ·exact ⟨_,hz⟩
 ·exact ⟨_,hTO⟩
 ·exact ⟨_,e1⟩
 ·exact ⟨_,e2⟩
theorem yo (I:Inv X Z σ H s) (hq:bB X.K H a zs) (hb:jH X Z H b):a≠b:=by
 rintro rfl
 rcases hq with h|⟨o,its,n,hk,_⟩
 ·rcases h with h|⟨u,h⟩
  ·rw [hb.1] at h;cases h
  ·rw [hb.1] at h;cases h
 ·have e:=I.ok.mod.kin _ _ hk
  rcases hb.2.2.2.1 with z|z
  ·exact I.ok.noex _ _ e z
  ·exact absurd (Heap.lt_size (I.ok.bs _ _ e).1) (Nat.not_lt.mpr z)
theorem Inv.turnedN {X:Cx} {Z:List (Addr×Obj)} {σ:St} {H:Hp} {s:Shared} {h':Heap} {t':Nat} {fp:List Addr} (I:Inv X Z σ H s) (k:∀ b u,b∉fp->s.heap.get? b=some u->h'.get? b=some u) (hf:∀ b∈fp,jH X Z H b):Inv X Z σ H { s with heap:=h',toks:=t' }:=by
 have off:∀ b u,H b=some u->b∉fp:=fun b u e z=>by rw [(hf b z).1] at e;cases e
 refine I.step (g':=s.gens) (d':=s.drawn) (ch:=fp) (fun b hb=>?_) (fun b u _ _ hc e _=>k b u hc e) (fun b u _ _ hc e _=>⟨u.slots,k b u hc e⟩) (fun _ _ _ _ n=>n) (fun b u hc e=>⟨u,k b u hc e⟩) (fun _ _ e=>e) (fun _ _ _ e=>e) (fun b ps e=>⟨#[],by rw [e];simp⟩) (fun m hm=>?_) (fun b u e=>?_) I.bare
 ·obtain ⟨_,f1,_,f3,f4,f5⟩:=hf b hb
  exact ⟨f3,f1,f4,f5⟩
 ·obtain ⟨u,es,ep,ho,r⟩:=hm
  exact ⟨u,es,ep,k _ u (fun z=>(hf _ z).2.1 rfl) ho,r⟩
 ·refine (I.hok b u e).stay (fun c v hc q=>k c v ?_ q) (fun c q=>q) fun c xs q=>q
  rcases hc with rfl|z
  ·exact off _ u e
  ·exact off c _ z
theorem jH.upd (h:jH X Z H b) (ne:b≠a):jH X Z (upd H a o) b:=⟨by rw [aK ne];exact h.1,h.2⟩
theorem sV {P:Program} {w:World} {K:PySem.W.Frag} {elts:List Expr} {k1} {pos:Pos} (a1 a2 e z TI TO i1 i2:Addr) (D:Bb e z TI TO i1 i2) :
 Turn P w K (.Tuple elts k1 pos) (QQ K a1 a2) [e,z,TI,TO,i1,i2] e (EZ e z TI TO i1 i2 a1 a2) where
 mem:=by simp
 obj:=fun i h st b hb=>st.obj b hb
 keep:=fun i h h' st k=>⟨let ⟨old,h1⟩:=st.1;⟨old,k e (by simp) _ h1⟩,st.2.keep fun b hb o z=>k b (List.mem_cons_of_mem _ hb) o z⟩
 item:=by
  intro X hP hw hK hc i Z s σ H E I hf st hg
  subst hP hw hK
  obtain ⟨xs,ys,x,y,hq1,hq2,hx,hy⟩:=hg
  obtain ⟨its1,rv1,p1,_⟩:=I.tuple hq1
  obtain ⟨its2,rv2,p2,_⟩:=I.tuple hq2
  obtain ⟨u1,hu1,ru1⟩:=rv1.get hx
  obtain ⟨u2,hu2,ru2⟩:=rv2.get hy
  have t1:s.heap.IsTuple a1 its1.toArray:=p1
  have t2:s.heap.IsTuple a2 its2.toArray:=p2
  obtain ⟨⟨old,he⟩,S⟩:=st
  have free:∀ b∈[e,z,TI,TO,i1,i2],H b=none:=fun b hb=>(hf b hb).1
  have apart:∀ {a:Addr} {zs:List V},bB X.K H a zs->∀ b∈[e,z,TI,TO,i1,i2],a≠b:=fun hq b hb=>yo I hq (hf b hb)
  have ZA:ZipApart z TI TO i1 i2 a1 a2:=⟨D.TIz,D.TOz,D.i1z,D.i2z,D.TITO,D.TIi1,D.TIi2,D.TOi1,D.TOi2,D.i12,apart hq1 _ (by simp),apart hq1 _ (by simp),apart hq1 _ (by simp),apart hq1 _ (by simp),apart hq2 _ (by simp),apart hq2 _ (by simp),apart hq2 _ (by simp),apart hq2 _ (by simp)⟩
  have hT:s.TypeIs (.ref e) "enumerate":=⟨_,he,rfl⟩
  unfold pyNext
  refine wpAny_bind (wpAny_attempt (wpAny_callSpecial?_slot (name:=Str.ofString "__next__") hT F.slot_enumerate_next (wpAny_call_entry F.slot_enumerate_next hT F.entry_enumerate_next (wG he ?_) (F.args_enumerate_next_1 _))))
  refine tY ZA S t1 t2 (by simpa using hu1) (by simpa using hu2) fun h₁ S₁ hp₁ hz₁ hk₁=>?_
  have he₁:IsEnum h₁ e z i old:=hk₁ _ _ D.ez D.eTO D.e1 D.e2 he
  refine ⟨h₁,s.toks,rfl,he₁,fun h' ho ht hk'=>wpAny_pure ⟨_,rfl,?_⟩⟩
  have lt:∀ b∈[e,z,TI,TO,i1,i2],b<s.heap.objs.size:=fun b hb=>by
   obtain ⟨o,z',_⟩:=EZ.obj (⟨⟨old,he⟩,S⟩:EZ e z TI TO i1 i2 a1 a2 i s.heap) b hb
   exact Heap.lt_size z'
  have I1:Inv X Z σ (upd H s.heap.objs.size (.tup [x,y])) { s with heap:=h₁,toks:=s.toks }:=by
   refine I.turnLaid (fp:=[z,TO,i1,i2]) (fun b o hb q=>hk₁ b o (fun r=>hb (by simp [r])) (fun r=>hb (by simp [r])) (fun r=>hb (by simp [r])) (fun r=>hb (by simp [r])) q) (fun b hb=>?_) (fun b hb=>hf b ?_) (Nat.le_refl _) ?_
   ·exact S₁.obj b hb
   ·simp at hb ⊢
    rcases hb with h|h|h|h <;> simp [h]
   ·exact ⟨by show 2≤sizeLine;decide,[u1,u2],.cons ru1 (.cons ru2 .nil),⟨_,hp₁,rfl,_,rfl⟩⟩
  have hno1:∀ b∈[e,z,TI,TO,i1,i2],(upd H s.heap.objs.size (.tup [x,y])) b=none:=fun b hb=>by rw [aK (Nat.ne_of_lt (lt b hb))];exact free b hb
  have hpn:(upd H s.heap.objs.size (.tup [x,y])) h₁.objs.size=none:=I1.hok.fresh (Nat.le_refl _)
  have I2:Inv X Z σ (upd (upd H s.heap.objs.size (.tup [x,y])) h₁.objs.size (.tup [.int i,.ref s.heap.objs.size])) { s with heap:=h',toks:=s.toks+1 }:=by
   refine Inv.turnLaid (s:={ s with heap:=h₁,toks:=s.toks }) (fp:=[e]) I1 (fun b o hb q=>hk' b o (fun r=>hb (by simp [r])) q) (fun b hb=>?_) (fun b hb=>?_) (Nat.le_refl _) ?_
   ·cases List.mem_singleton.mp hb
    exact ⟨_,ho⟩
   ·cases List.mem_singleton.mp hb
    exact (hf e (by simp)).upd (Nat.ne_of_lt (lt e (by simp)))
   ·exact ⟨by show 2≤sizeLine;decide,[.int i s.toks,.ref s.heap.objs.size],.cons ⟨_,rfl⟩ (.cons rfl .nil),⟨_,ht,rfl,_,rfl⟩⟩
  have hno2:∀ b∈[e,z,TI,TO,i1,i2],(upd (upd H s.heap.objs.size (.tup [x,y])) h₁.objs.size (.tup [.int i,.ref s.heap.objs.size])) b=none:=fun b hb=>by
   rw [aK (Nat.ne_of_lt (Nat.lt_of_lt_of_le (lt b hb) (by rw [hz₁];exact Nat.le_succ _)))]
   exact hno1 b hb
  refine wpAny_letOwnedTupleGo_enum ho fun g2 he2 hs2=>?_
  obtain ⟨f0,f1,f2,f3,f4,f5⟩:=hf e (by simp)
  refine ⟨.ref h₁.objs.size,_,I2.turned (t':=s.toks+1) (fun b o hb q=>(hs2.2 b hb).trans q) (hno2 e (by simp)) f1 f3 f4 f5,rfl,⟨s.heap.objs.size,h₁.objs.size,x,y,I.hok.fresh (Nat.le_refl _),hpn,rfl,fun zs hz=>by rw [I.tuple_inj hz hq1];exact hx,fun zs hz=>by rw [I.tuple_inj hz hq2];exact hy,rfl⟩,⟨⟨_,by simpa using he2⟩,?_⟩,hno2⟩
  refine S₁.keep fun b hb o q=>?_
  have be:b≠e:=by
   simp only [List.mem_cons,List.not_mem_nil,or_false] at hb
   rcases hb with rfl|rfl|rfl|rfl|rfl
   ·exact D.ez.symm
   ·exact D.eTI.symm
   ·exact D.eTO.symm
   ·exact D.e1.symm
   ·exact D.e2.symm
  exact (hs2.2 b be).trans (hk' b o be q)
 done:=by
  intro X hP hw hK hc i Z s σ H E I hf st hg
  subst hP hw hK
  obtain ⟨xs,ys,hq1,hq2,hend⟩:=hg
  obtain ⟨its1,rv1,p1,_⟩:=I.tuple hq1
  obtain ⟨its2,rv2,p2,_⟩:=I.tuple hq2
  have t1:s.heap.IsTuple a1 its1.toArray:=p1
  have t2:s.heap.IsTuple a2 its2.toArray:=p2
  obtain ⟨⟨old,he⟩,S⟩:=st
  have l1:=rv1.length
  have l2:=rv2.length
  have apart:∀ {a:Addr} {zs:List V},bB X.K H a zs->∀ b∈[e,z,TI,TO,i1,i2],a≠b:=fun hq b hb=>yo I hq (hf b hb)
  have ZA:ZipApart z TI TO i1 i2 a1 a2:=⟨D.TIz,D.TOz,D.i1z,D.i2z,D.TITO,D.TIi1,D.TIi2,D.TOi1,D.TOi2,D.i12,apart hq1 _ (by simp),apart hq1 _ (by simp),apart hq1 _ (by simp),apart hq1 _ (by simp),apart hq2 _ (by simp),apart hq2 _ (by simp),apart hq2 _ (by simp),apart hq2 _ (by simp)⟩
  have hT:s.TypeIs (.ref e) "enumerate":=⟨_,he,rfl⟩
  unfold pyNext
  refine wpAny_bind (wpAny_attempt (wpAny_callSpecial?_slot (name:=Str.ofString "__next__") hT F.slot_enumerate_next (wpAny_call_entry F.slot_enumerate_next hT F.entry_enumerate_next ?_ (F.args_enumerate_next_1 _))))
  show wpAny _ _ (field (.ref e) 2 >>= _) _ _ _
  refine wpAny_bind (wpAny_field he rfl (x:=.ref z) rfl (wpAny_bind (vD (A:=X.A.in1) (I.ok.hd hc) ZA S t1 t2 (by simp;omega) fun g x' hk hx'=>?_)))
  obtain ⟨o,ho,hcl⟩:=hx'
  refine wpAny_bind (wpAny_isInstance (T:="StopIteration") (b:=true) ⟨o,ho,hcl⟩ isSubtype_stop (wpAny_pure ⟨rfl,?_⟩))
  exact I.turnedN (fp:=[z,TO,i1,i2]) (fun b o hb q=>hk b o (fun r=>hb (by simp [r])) (fun r=>hb (by simp [r])) (fun r=>hb (by simp [r])) (fun r=>hb (by simp [r])) q) (fun b hb=>hf b (by simp at hb ⊢;rcases hb with h|h|h|h <;> simp [h]))
 self:=fun _ _ _ _ _ st h=>let ⟨_,he⟩:=st.1;wpAny_pyIter_enum he h
def FT (K:PySem.W.Frag) (ta:TA):TI:=fun σ H R=>ta σ H fun vs H1=>∃ a1 a2,vs=[.ref a1,.ref a2]/\(∃ xs,bB K H1 a1 xs)/\(∃ ys,bB K H1 a2 ys)/\R (QQ K a1 a2) H1
theorem IV:bootBuiltins "zip" = some (.type "zip"):=by decide +kernel
theorem yp {k1} (hg:Gl X "enumerate") (hm:X.mg "enumerate" = none) (hg2:Gl X "zip") (hm2:X.mg "zip" = none) (ha:PA X [a,b] ta)
 (hs:starEach [a,b] X.env=(false,eval a X.env)::starEach [b] X.env:=by rfl) (hs1:(backTo pos2 (starEach [b] X.env)).any (·.1)=false:=by rfl)
 (hs2:starEach [.Call (.Name "zip" p2) [a,b] [] pos2] X.env=(false,eval (.Call (.Name "zip" p2) [a,b] [] pos2) X.env)::starEach [] X.env:=by rfl) (hs3:(backTo pos (starEach [] X.env)).any (·.1)=false:=by rfl) :
 PI X (.Tuple elts k1 pt) (.Call (.Name "enumerate" p) [.Call (.Name "zip" p2) [a,b] [] pos2] [] pos) (FT X.K ta):=by
 intro Z s σ H R I h
 refine Call_ (fG I hg hm fX (PyProof.Rows.callWith_type1 ?_ hs2 hs3))
 rw [hs2]
 show wpAny _ _ (spliced ((false,eval (.Call (.Name "zip" p2) [a,b] [] pos2) X.env)::backTo pos (starEach [] X.env))) _ _ s
 refine Calls.spliced_cons ?_
 refine wpAny_Call_Name_kw (fG I hg2 hm2 IV (PyProof.Rows.callWith_type1 (b_ (ha pos2 Z s σ H _ I h) fun us s1 ⟨vs,H1,I1,r1,q1⟩=>?_) hs hs1) (by decide) (by decide))
 obtain ⟨a1,a2,rfl,⟨xs,hq1⟩,⟨ys,hq2⟩,q⟩:=q1
 obtain ⟨u1,u2,rfl,e1,e2⟩:=vals2 r1
 cases (show u1=Value.ref a1 from e1)
 cases (show u2=Value.ref a2 from e2)
 obtain ⟨its1,rv1,p1,_⟩:=I1.tuple hq1
 obtain ⟨its2,rv2,p2',_⟩:=I1.tuple hq2
 refine vY (show s1.heap.IsTuple a1 its1.toArray from p1) (show s1.heap.IsTuple a2 its2.toArray from p2') fun h₁ hz hTI hTO h1 h2 hsz hk=>?_
 refine Calls.spliced_nil ?_
 refine tQ (s:={ s1 with heap:=h₁ }) hz fun g he hk2=>wpAny_pyIter_enum he ?_
 have hk3:∀ b o,s1.heap.get? b=some o->g.get? b=some o:=fun b o e=>hk2 _ _ (hk _ _ e)
 have eh:({ s1 with heap:=h₁ }:Shared).heap.objs.size=s1.heap.objs.size+5:=hsz
 refine ⟨s1.heap.objs.size+5,[s1.heap.objs.size+5,s1.heap.objs.size+4,s1.heap.objs.size+2,s1.heap.objs.size+3,s1.heap.objs.size,s1.heap.objs.size+1],_,_,H1,?_,I1.kept (t':=s1.toks) hk3,sV a1 a2 _ _ _ _ _ _ ?_,⟨⟨.none,?_⟩,⟨⟨_,_,hk2 _ _ hz,.inl rfl⟩,hk2 _ _ hTI,⟨_,_,hk2 _ _ hTO⟩,h1.at fun o e=>hk2 _ _ e,h2.at fun o e=>hk2 _ _ e⟩⟩,fun b hb=>?_,q⟩
 ·rw [hsz]
 ·constructor <;> (intro z;have z':(_:Nat)=_:=z;omega)
 ·rw [← hsz];exact he
 ·have hb':s1.heap.objs.size≤b:=by
   simp only [List.mem_cons,List.not_mem_nil,or_false] at hb
   rcases hb with rfl|rfl|rfl|rfl|rfl|rfl
   ·exact Nat.le_add_right _ 5
   ·exact Nat.le_add_right _ 4
   ·exact Nat.le_add_right _ 2
   ·exact Nat.le_add_right _ 3
   ·exact Nat.le_refl _
   ·exact Nat.le_add_right _ 1
  exact I1.fpOk hb' (I1.hok.fresh hb')
theorem vI {K:PySem.W.Frag} {a1 a2:Addr} {xs ys:List V} {g:TG} {tb:TS} {D:Ends} {σ:St} {H:Hp} (Pv:Nat->St->Hp->Prop) (h0:Pv 0 σ H) (hl:∀ i σ H,i≤min xs.length ys.length->Pv i σ H->bB K H a1 xs/\bB K H a2 ys)
 (hs:∀ i x y σ H q p,xs[i]?=some x->ys[i]?=some y->Pv i σ H->H q=none->upd H q (.tup [x,y]) p=none->g (.ref p) σ (upd (upd H q (.tup [x,y])) p (.tup [.int i,.ref q])) fun σ2 H2=>tb { D with nx:=Pv (i+1),ct:=Pv (i+1),bk:=D.nx } σ2 H2)
 (hd:∀ σ H,Pv (min xs.length ys.length) σ H->D.nx σ H) :
 ∃ W:Nat->Nat->St->Hp->Prop,(∃ m,W 0 m σ H)/\∀ i m σ H,W i m σ H->((QQ K a1 a2).stop i H/\D.nx σ H)∨((QQ K a1 a2).go i H/\∃ N:St->Hp->Prop,(∀ σ' H',N σ' H'->∃ m',m'<m/\W (i+1) m' σ' H')/\∀ x H',(QQ K a1 a2).yld i H x H'->g x σ H' fun σ2 H2=>tb { D with nx:=N,ct:=N,bk:=D.nx } σ2 H2):=by
 refine ⟨fun i m σ H=>m=min xs.length ys.length-i/\i≤min xs.length ys.length/\Pv i σ H,⟨min xs.length ys.length,by simp,Nat.zero_le _,h0⟩,?_⟩
 rintro i m σ H ⟨rfl,hi,p⟩
 obtain ⟨q1,q2⟩:=hl i σ H hi p
 by_cases hlt:i<min xs.length ys.length
 ·have l1:i<xs.length:=by omega
  have l2:i<ys.length:=by omega
  refine .inr ⟨⟨xs,ys,xs[i],ys[i],q1,q2,by simp [l1],by simp [l2]⟩,Pv (i+1),fun σ' H' z=>⟨min xs.length ys.length-(i+1),by omega,rfl,hlt,z⟩,?_⟩
  rintro x H' ⟨q,p',y1,y2,hn,hn2,rfl,hy1,hy2,rfl⟩
  exact hs i y1 y2 σ H q p' (hy1 xs q1) (hy2 ys q2) p hn hn2
 ·have e:i=min xs.length ys.length:=by omega
  subst e
  exact .inl ⟨⟨xs,ys,q1,q2,by omega⟩,hd σ H p⟩
end L2
namespace L2
open PySem PySem.Spec PyProof.Rows PySem.W PyProof.V
def vL (K:Frag) (a:Addr) (D:List (Str×PyData)):Prop:=KTD.tabLook KTD.flatLooks (fun b=>K.lookup b) a D=true
def Rf:PyData->V
 |.int i=>.int i
 |.str x=>.str x
 |.bool b=>.bl b
 |_=>.non
def kY (D:List (Str×PyData)) (k:Str):Option V:=(KTD.datumAt k D).map Rf
theorem zR {h:Heap}:∀ {d:PyData} {v:Value},Flat v d->RelV (Rf d) v:=by
 intro d v x
 cases x ⟨#[],h.life⟩
 all_goals first|exact ⟨_,rfl⟩|rfl|exact absurd (Heap.lt_size (by assumption)) (Nat.not_lt_zero _)
def O5 (D:List (Str×PyData)):List (Str×KTD.Dat):=D.map fun p=>(p.1,KTD.Dat.flat p.2)
theorem jh:∀ {D:List (Str×PyData)},KTD.datumAt k (O5 D)=(KTD.datumAt k D).map KTD.Dat.flat
 |[]=>rfl
 | (x,d)::D=>by
   show (if _ then _ else KTD.datumAt k (O5 D))=_
   rw [jh (D:=D)]
   show _=(if _ then _ else KTD.datumAt k D).map _
   split <;> rfl
theorem tV:KTD.inKeys k (O5 D)=(kY D k).isSome:=by
 rw [← KTD.isSome_datumAt,jh]
 unfold kY
 cases KTD.datumAt k D <;> rfl
theorem vL.here (T:vL X.K a D) (I:Inv X Z σ H s):KTD.Here s.heap s.heap a (O5 D):=⟨KTD.TabOf.text (KTD.tab_of_look (fun _ _ h=>KTD.flat_of_looks h) (fun b o e=>I.kIn b o e) T),fun _ _ h=>h⟩
def DQ (K:Frag) (neg:Bool):R2:=fun x y H Q=>∃ k a D,x=.str k/\y=.ref a/\vL K a D/\Q (.bl (if neg then !(kY D k).isSome else (kY D k).isSome)) H
theorem yd:iD X (compareOp .In) (DQ X.K false):=by
 intro Z s σ H x y v u Q I rx ry h
 obtain ⟨k,a,D,rfl,rfl,T,q⟩:=h
 obtain ⟨t,rfl⟩:=rx
 cases (show u=Value.ref a from ry)
 refine KTD.in_text (T.here I) ⟨.bl _,H,I.tok _,rfl,?_⟩
 rw [tV]
 exact q
def Bf (K:Frag) (td ty:TE):TE:=fun σ H Q=>td σ H fun x H1=>∃ a D,x=.ref a/\vL K a D/\ty σ H1 fun y H2=>∃ k,y=.str k/\Q ((kY D k).getD .non) H2
theorem wQ (ho:PE X o td) (he:PE X e ty) (m:M1 X o "get" apos e cpos):PE X (.Call (.Attribute o "get" apos) [e] [] cpos) (Bf X.K td ty):=by
 intro Z s σ H Q I h
 refine wpAny_Call_method m.base m.few m.line PySem.F.plainAttrs_dict PySem.F.slot_dict_get PySem.F.type_dict_get (b_ (ho Z s σ H _ I h) fun u s1 ⟨x,H1,I1,rx,a,D,ex,T,q1⟩=>?_)
 subst ex
 obtain rfl:u=Value.ref a:=rx
 refine ⟨(T.here I1).typeIs,(T.here I1).noDict,?_⟩
 rw [m.trees]
 refine Calls.callWith_builtin rfl (Calls.evalArgs_plain (Calls.spliced_cons (b_ (he Z s1 σ H1 _ I1 q1) fun iv s2 ⟨y,H2,I2,ry,k,ey,q2⟩=>Calls.spliced_nil ?_)))
 subst ey
 obtain ⟨t,rfl⟩:=ry
 refine call_meetsIn PySem.F.slot_dict_get (T.here I2).typeIs PySem.F.entry_dict_get (PySem.F.args_dict_get_2 _ _) (KTD.meets_get1 (h₀:=s2.heap) (D:=O5 D)) ⟨T.here I2,fun d v ha hv=>?_,fun hn=>?_⟩
 ·rw [jh] at ha
  unfold kY at q2
  cases hd:KTD.datumAt k D with
  |none=>rw [hd] at ha;cases ha
  | some d'=>
    rw [hd] at ha q2
    cases ha
    exact ⟨_,H2,I2.tok _,zR (h:=s.heap) hv,q2⟩
 ·rw [jh] at hn
  unfold kY at q2
  cases hd:KTD.datumAt k D with
  |some d'=>rw [hd] at hn;cases hn
  | none=>
    rw [hd] at q2
    exact ⟨.non,H2,I2.tok _,rfl,q2⟩
end L2
namespace L2
open PySem PySem.Spec PyProof.Rows PySem.SeqAt PySem.Builtin PySem.Builtin.Str
end L2
namespace L2
open PySem PySem.Spec PyProof.Rows PySem.SeqAt
end L2
namespace L2
open PySem PySem.Spec PyProof.Rows PySem.SeqAt PySem.Builtin PySem.Builtin.Str
theorem q_ {lo:Int} {n:Nat} {g:TG} {tt:TT} {te:TE} {F:List V->Hp->Prop} {σ0:St} {H0:Hp} (Pv:Nat->List V->St->Hp->Prop) (hn:n≤sizeLine) (h0:Pv 0 [] σ0 H0)
 (hs:∀ i ys σ H,i<n->Pv i ys σ H->∀ N:List V->St->Hp->Prop,(∀ ys' σ' H',Pv (i+1) ys' σ' H'->ys'.length≤ys.length+1->N ys' σ' H')->g (.int (lo+i)) σ H fun σ2 H2=>tt σ2 H2 fun b H3=>if b=true then te σ2 H3 fun y H4=>N (ys++[y]) σ2 H4 else N ys σ2 H3)
 (hd:∀ ys σ H,ys.length≤n->Pv n ys σ H->F ys H) :
 ∃ W:Nat->Nat->List V->St->Hp->Prop,(∃ m,W 0 m [] σ0 H0)/\jM (Bm lo n) g tt te F W:=by
 refine ⟨fun i m ys σ H=>m=n-i/\i≤n/\ys.length≤i/\Pv i ys σ H,⟨n,by simp,Nat.zero_le _,Nat.zero_le _,h0⟩,?_⟩
 rintro i m ys σ H ⟨rfl,hi,hl,p⟩
 by_cases hlt:i<n
 ·refine .inr ⟨hlt,by omega,fun x H' y=>?_⟩
  obtain ⟨e,y⟩:=y
  subst e y
  exact hs i ys σ _ hlt p (fun ys' σ' H'=>∃ m',m'<n-i/\m'=n-(i+1)/\i+1≤n/\ys'.length≤i+1/\Pv (i+1) ys' σ' H') fun ys' σ' H' q hl'=>⟨n-(i+1),by omega,rfl,hlt,by omega,q⟩
 ·have e:i=n:=by omega
  subst e
  exact .inl ⟨Nat.le_refl _,hd ys σ H hl p⟩
end L2
namespace L2
open PySem PySem.Spec PyProof.Rows PySem.SeqAt
theorem qm {K:PySem.W.Frag} {H:Hp} {w:Value}:∀ {xs:List V} {ds:List PyData} {its:List Value},bw K H xs ds->Vals xs its->w∈its->∃ x d,d∈ds/\Rep K H x d/\RelV x w
 | _,_,_,.cons h t,.cons r rs,m=>by
   rcases List.mem_cons.mp m with rfl|m
   ·exact ⟨_,_,List.mem_cons_self,h,r⟩
   ·obtain ⟨x,e,h1,h2,h3⟩:=qm t rs m
    exact ⟨x,e,List.mem_cons_of_mem _ h1,h2,h3⟩
 |_,_,_,.nil,.nil,m=>by simp at m
theorem Gx (hh:A.handled=none) (it l:Addr) (hne:l≠it) (items:Array Value) (i0:Nat) (h0:items.size≤i0):Draws prog w A it [it,l] 0 (fun i v=>False) (fun i h=>h.IsListIter it l i0/\h.IsList l items) where
 live:=fun _ _ st=>let ⟨o,ho,_⟩:=st.1;⟨o,ho⟩
 frame:=fun _ _ _ st hk=>⟨st.1.at fun o e=>hk it (by simp) o e,st.2.at fun o e=>hk l (by simp) o e⟩
 item:=fun i s Q E hi=>absurd hi (Nat.not_lt_zero _)
 done:=fun s Q E st hE=>wpAny_nextOf_list_end hh st.1 st.2 (by simp [h0]) hE
def vH (K:PySem.W.Frag) (a:Addr):It:=
 ⟨fun i H=>∃ xs x,bJ K H a xs/\xs[i]?=some x,fun i H v H'=>∃ p x,H p=none/\v=.ref p/\(∀ xs,bJ K H a xs->xs[i]?=some x)/\H'=upd H p (.tup [.int i,x]),fun i H=>∃ xs,bJ K H a xs/\xs.length≤i⟩
theorem rN {P:Program} {w:World} {K:PySem.W.Frag} {elts:List Expr} {k1} {pos:Pos} (a e it:Addr) (hei:e≠it):Turn P w K (.Tuple elts k1 pos) (vH K a) [e,it] e (fun i h=>(∃ old,IsEnum h e it i old)/\h.IsListIter it a i) where
 mem:=by simp
 obj:=fun i h st b hb=>by
  obtain ⟨⟨old,h1⟩,o,h2,_,h3⟩:=st
  rcases List.mem_cons.mp hb with rfl|hb
  ·exact ⟨_,h1,fun v z=>by cases (show Data.fields _=Data.cell v from z)⟩
  ·cases List.mem_singleton.mp hb
   exact ⟨o,h2,fun v z=>by rw [h3] at z;cases z⟩
 keep:=fun i h h' st k=>⟨let ⟨old,h1⟩:=st.1;⟨old,k e (by simp) _ h1⟩,st.2.at fun o z=>k it (by simp) o z⟩
 item:=by
  intro X hP hw hK hc i Z s σ H E I hf st hg
  subst hP hw hK
  obtain ⟨xs,x,hq,hx⟩:=hg
  obtain ⟨its,rv,p,hz⟩:=I.list hq
  obtain ⟨u,hu,ru⟩:=rv.get hx
  obtain ⟨⟨old,he⟩,ht⟩:=st
  have hit:s.heap.IsList a its.toArray:=p.isList
  have han:a≠it:=by
   rintro rfl
   obtain ⟨o1,h1,h2,_⟩:=id hit
   obtain ⟨o2,h3,h4,_⟩:=id ht
   rw [h1] at h3;cases h3
   rw [h2] at h4;exact absurd (Value.type.inj h4) (by decide)
  have hae:a≠e:=by
   rintro rfl
   obtain ⟨o1,h1,h2,_⟩:=id hit
   rw [he] at h1;cases h1
   exact absurd (Value.type.inj h2) (by decide)
  have D:=Draws.list (prog:=X.prog) (w:=X.w) (A:=X.A.in1) (I.ok.hd hc) it a han its.toArray
  have hlt:i<its.toArray.size:=by
   have:=(List.getElem?_eq_some_iff.mp hx).1
   have hl:=rv.length
   rw [List.size_toArray];omega
  refine wpAny_pyNext_enum_itemD D he ⟨ht,hit⟩ hlt hei (by simp [hei,Ne.symm hae]) fun y g tk hy ho hst' htup hsz hk=>?_
  have e1:y=u:=by
   have:its.toArray[i]?=some u:=by simpa using hu
   rw [this] at hy;exact (Option.some.inj hy).symm
  subst e1
  refine ⟨_,rfl,?_⟩
  have helt:e<s.heap.objs.size:=Heap.lt_size he
  have hilt:it<s.heap.objs.size:=let ⟨o,z,_⟩:=ht;Heap.lt_size z
  have I1:Inv X Z σ (upd H s.heap.objs.size (.tup [.int i,x])) { s with heap:=g,toks:=tk+1 }:=by
   refine I.turnLaid (fp:=[e,it]) (fun b o hb z=>hk b o (fun q=>hb (by simp [q])) (fun q=>hb (by simp [q])) z) (fun b hb=>?_) hf (Nat.le_refl _) ?_
   ·rcases List.mem_cons.mp hb with rfl|hb
    ·exact ⟨_,ho⟩
    ·cases List.mem_singleton.mp hb
     exact let ⟨o,z,_⟩:=hst'.1;⟨o,z⟩
   ·exact ⟨by show 2≤sizeLine;decide,[.int i tk,y],.cons ⟨_,rfl⟩ (.cons ru .nil),⟨_,htup,rfl,_,rfl⟩⟩
  have hno:∀ b∈[e,it],(upd H s.heap.objs.size (.tup [.int i,x])) b=none:=fun b hb=>by
   have hbl:b<s.heap.objs.size:=by
    rcases List.mem_cons.mp hb with rfl|hb
    ·exact helt
    ·cases List.mem_singleton.mp hb;exact hilt
   rw [aK (Nat.ne_of_lt hbl)]
   exact (hf b hb).1
  refine wpAny_letOwnedTupleGo_enum ho fun g2 he2 hs2=>?_
  obtain ⟨f0,f1,f2,f3,f4,f5⟩:=hf e (by simp)
  refine ⟨.ref s.heap.objs.size,_,I1.turned (t':=tk+1) (fun b o hb z=>(hs2.2 b hb).trans z) (hno e (by simp)) f1 f3 f4 f5,rfl,⟨s.heap.objs.size,x,I.hok.fresh (Nat.le_refl _),rfl,fun ys hy=>by rw [I.list_inj hy hq];exact hx,rfl⟩,⟨⟨_,by simpa using he2⟩,?_⟩,hno⟩
  exact hst'.1.at fun o z=>(hs2.2 it (Ne.symm hei)).trans z
 done:=by
  intro X hP hw hK hc i Z s σ H E I hf st hg
  subst hP hw hK
  obtain ⟨xs,hq,hx⟩:=hg
  obtain ⟨its,rv,p,hz⟩:=I.list hq
  obtain ⟨⟨old,he⟩,ht⟩:=st
  obtain ⟨f0,f1,f2,f3,f4,f5⟩:=hf it (by simp)
  have hl:=rv.length
  have hit:s.heap.IsList a its.toArray:=p.isList
  have han:a≠it:=by
   rintro rfl
   obtain ⟨o1,h1,h2,_⟩:=id hit
   obtain ⟨o2,h3,h4,_⟩:=id ht
   rw [h1] at h3;cases h3
   rw [h2] at h4;exact absurd (Value.type.inj h4) (by decide)
  have D:=Gx (prog:=X.prog) (w:=X.w) (A:=X.A.in1) (I.ok.hd hc) it a han its.toArray i (by rw [List.size_toArray];omega)
  exact wpAny_pyNext_enum_endD D he ⟨ht,hit⟩ fun h' ex=>⟨rfl,I.turned (t':=s.toks) (fun b o hb e=>ex b o hb e) f0 f1 f3 f4 f5⟩
 self:=fun _ _ _ _ _ st h=>let ⟨_,he⟩:=st.1;wpAny_pyIter_enum he h
def F_ (K:PySem.W.Frag) (ta:TA):TI:=fun σ H R=>ta σ H fun vs H1=>∃ a,vs=[.ref a]/\(∃ xs,bJ K H1 a xs)/\R (vH K a) H1
theorem qC {X:Cx} {elts:List Expr} {k1} {pt:Pos} {a:Expr} {ta:TA} {p pos:Pos} (hg:Gl X "enumerate") (hm:X.mg "enumerate" = none) (hv:bootBuiltins "enumerate" = some (.type "enumerate")) (ha:PA X [a] ta) (hs:starEach [a] X.env=[(false,eval a X.env)]:=by rfl):PI X (.Tuple elts k1 pt) (.Call (.Name "enumerate" p) [a] [] pos) (F_ X.K ta):=by
 intro Z s σ H R I h
 refine Call_ (fG I hg hm hv (PyProof.Rows.callWith_type1 (b_ (ha pos Z s σ H _ I h) fun us s1 ⟨vs,H1,I1,r1,q1⟩=>?_) hs rfl))
 obtain ⟨l,rfl,⟨xs,hq⟩,q⟩:=q1
 obtain ⟨u,rfl,e⟩:=vals1 r1
 cases (show u=Value.ref l from e)
 obtain ⟨its,rv,hp,hz⟩:=I1.list hq
 refine call_enumerate_list hp.isList fun g he hi _ hk=>wpAny_pyIter_enum he ?_
 refine ⟨s1.heap.objs.size+1,[s1.heap.objs.size+1,s1.heap.objs.size],_,_,H1,rfl,I1.kept (t':=s1.toks) hk,rN l _ s1.heap.objs.size (Nat.succ_ne_self _),⟨⟨_,he⟩,hi⟩,fun b hb=>?_,q⟩
 rcases List.mem_cons.mp hb with rfl|hb
 ·exact I1.fpOk (Nat.le_succ _) (I1.hok.fresh (Nat.le_succ _))
 ·cases List.mem_singleton.mp hb
  exact I1.fpOk (Nat.le_refl _) (I1.hok.fresh (Nat.le_refl _))
theorem v8 {K:PySem.W.Frag} {a:Addr} {xs:List V} {g:TG} {tb:TS} {D:Ends} {σ:St} {H:Hp} (Pv:Nat->St->Hp->Prop) (h0:Pv 0 σ H) (hl:∀ i σ H,i≤xs.length->Pv i σ H->bJ K H a xs)
 (hs:∀ i x σ H p,xs[i]?=some x->Pv i σ H->H p=none->g (.ref p) σ (upd H p (.tup [.int i,x])) fun σ2 H2=>tb { D with nx:=Pv (i+1),ct:=Pv (i+1),bk:=D.nx } σ2 H2)
 (hd:∀ σ H,Pv xs.length σ H->D.nx σ H) :
 ∃ W:Nat->Nat->St->Hp->Prop,(∃ m,W 0 m σ H)/\∀ i m σ H,W i m σ H->((vH K a).stop i H/\D.nx σ H)∨((vH K a).go i H/\∃ N:St->Hp->Prop,(∀ σ' H',N σ' H'->∃ m',m'<m/\W (i+1) m' σ' H')/\∀ x H',(vH K a).yld i H x H'->g x σ H' fun σ2 H2=>tb { D with nx:=N,ct:=N,bk:=D.nx } σ2 H2):=by
 refine ⟨fun i m σ H=>m=xs.length-i/\i≤xs.length/\Pv i σ H,⟨xs.length,by simp,Nat.zero_le _,h0⟩,?_⟩
 rintro i m σ H ⟨rfl,hi,p⟩
 have q:=hl i σ H hi p
 by_cases hlt:i<xs.length
 ·refine .inr ⟨⟨xs,xs[i],q,by simp [hlt]⟩,Pv (i+1),fun σ' H' z=>⟨xs.length-(i+1),by omega,rfl,hlt,z⟩,?_⟩
  rintro x H' ⟨p',y,hn,rfl,hy,rfl⟩
  exact hs i y σ H p' (hy xs q) p hn
 ·have e:i=xs.length:=by omega
  subst e
  exact .inl ⟨⟨xs,q,Nat.le_refl _⟩,hd σ H p⟩
end L2
namespace L2
open PySem PySem.Spec PyProof.Rows PySem.SeqAt PySem.Builtin PySem.Builtin.Str
end L2
namespace L2
open PySem PySem.Spec PyProof.Rows PySem.SeqAt PySem.Builtin
end L2
namespace L2
open PySem PySem.Spec PyProof.Rows PySem.SeqAt PySem.W Builtin.ObjectAttr
end L2
namespace L2
open PySem PySem.Spec PyProof.Rows PySem.SeqAt PySem.W
end L2
namespace L2
open PySem PySem.Spec PyProof.Rows
end L2
namespace L2
open PySem PySem.Spec PyProof.Rows PySem.SeqAt
section
open PySem.F
end
section
variable {K:Type} [DecidableEq K]
end
end L2
namespace L2
open PySem PySem.Spec PyProof.Rows PySem.SeqAt PySem.W
end L2
namespace L2
open PySem PySem.Spec PyProof.Rows
end L2
namespace L2
open PySem PySem.Spec PyProof.Rows PySem.SeqAt PySem.W
end L2
namespace L2
open PySem PySem.Spec PyProof.Rows PySem.SeqAt
theorem Ax (I:Inv X Z σ H s) (h:Rep X.K H x d) (h':Rep X.K H x' d') (r:RelV x u) (r':RelV x' u):d=d':=by
 obtain rfl:=r.inj r'
 exact (Rep.fn I h h' r).1
noncomputable def eqDa (K:PySem.W.Frag) (H:Hp) (d:PyData) (u:Value):Bool:=@decide (∃ x e,Rep K H x e/\RelV x u/\cj e d=true) (Classical.propDecidable _)
theorem pO (I:Inv X Z σ H s) (h:Rep X.K H x e) (r:RelV x u):eqDa X.K H d u=cj e d:=by
 unfold eqDa
 cases hp:cj e d with
 |true=>exact @decide_eq_true _ (Classical.propDecidable _) ⟨x,e,h,r,hp⟩
 | false=>
   refine @decide_eq_false _ (Classical.propDecidable _) ?_
   rintro ⟨x',e',h',r',p⟩
   rw [Ax I h h' r r',p] at hp
   cases hp
theorem qH (I:Inv X Z σ H s):∀ {xs:List V} {ds:List PyData} {its:List Value},bw X.K H xs ds->Vals xs its->its.any (eqDa X.K H d)=ds.any fun e=>cj e d
 |_,_,_,.nil,.nil=>rfl
 |_,_,_,.cons h t,.cons r rs=>by rw [List.any_cons,List.any_cons,pO I h r,qH I t rs]
def Sy (K:PySem.W.Frag) (neg:Bool):R2:=fun x y H Q=>∃ p xs ds d,Rep K H x d/\y=.ref p/\bJ K H p xs/\bw K H xs ds/\bI ds≤60/\Q (.bl (if neg then !(ds.any fun e=>cj e d) else ds.any fun e=>cj e d)) H
theorem yF (hu:X.A.units+64<cLine) (I:Inv X Z σ H s) (rx:RelV x v) (rd:Rep X.K H x d) (rs:bw X.K H xs ds) (r:Vals xs its) (hd:bI ds≤60) :
 ∀ w,w∈its.toArray->EqAt X.A.in1 s w v (eqDa X.K H d w):=fun w hw=>by
 obtain ⟨x',e,m,h1,h2⟩:=qm rs r (by simpa using hw)
 rw [pO I h1 h2]
 refine Dm I h1 rd h2 rx ?_
 show X.A.units+1+cz e<cLine
 have:=iU m
 omega
theorem wX (hu:X.A.units+64<cLine):iD X (compareOp .NotIn) (Sy X.K true):=by
 intro Z s σ H x y v u Q I rx ry h
 obtain ⟨b,xs,ds,d,rd,rfl,hq,rs,hd,q⟩:=h
 cases (show u=Value.ref b from ry)
 obtain ⟨its,r,pl,hz⟩:=I.list hq
 refine SeqAt.notIn_listAt (eqDa X.K H d) pl.isList (yF hu I rx rd rs r hd) ⟨.bl _,H,I,rfl,?_⟩
 rw [show its.toArray.any (eqDa X.K H d)=its.any (eqDa X.K H d) by simp,qH I rs r]
 exact q
def By (K:PySem.W.Frag):V->List V->Hp->VK->Prop:=fun x vs H Q=>∃ (a:Addr) (y:V) (d:PyData) (xs:List V) (ds:List PyData),x=.ref a/\vs=[y]/\Rep K H y d/\bJ K H a xs/\bw K H xs ds/\bI ds≤60/\(ds.any fun e=>cj e d)=true/\Q (.int (ds.findIdx fun e=>cj e d:Nat)) H
theorem vm (hu:X.A.units+64<cLine):Ff X "list.index" (By X.K):=by
 intro Z s σ H x vs v us Q I rx rv h
 obtain ⟨a,y,d,xs,ds,rfl,rfl,rd,hq,rs,hd,hy,q⟩:=h
 cases (show v=Value.ref a from rx)
 obtain ⟨u,rfl,ru⟩:=vals1 rv
 obtain ⟨its,r,p,hz⟩:=I.list hq
 have at_:=yF hu I ru rd rs r hd
 obtain ⟨⟨_,dd,_,sl⟩,ho,rfl,n,rfl⟩:=id p.isList
 have hlen:=r.length
 have hlen2:=rs.length
 have hj:ds.findIdx (fun e=>cj e d)<ds.length:=List.findIdx_lt_length_of_exists (by simpa using hy)
 have hn:=kZ
 have eqi:∀ i (hi:i<its.length) (hi':i<ds.length),eqDa X.K H d its[i]=cj ds[i] d:=fun i hi hi'=>by
  obtain ⟨x',hx',rx'⟩:=rs.get (i:=i) (d:=ds[i]) (List.getElem?_eq_getElem hi')
  obtain ⟨w',hw,rw'⟩:=r.get (i:=i) (x:=x') hx'
  rw [List.getElem?_eq_getElem hi] at hw
  cases Option.some.inj hw
  exact pO I rx' rw'
 refine call_meets PySem.F.slot_list_index ⟨_,ho,rfl⟩ PySem.F.entry_list_index (PySem.F.args_list_index_2 _ _) (list_indexAt a its.toArray n dd sl u (eqDa X.K H d) (ds.findIdx fun e=>cj e d) (by rw [List.size_toArray];omega) (by omega) ?_ ?_) ⟨ho,at_,⟨.int (ds.findIdx (fun e=>cj e d):Nat),H,I.tok _,⟨_,rfl⟩,q⟩⟩
 ·show eqDa X.K H d its[ds.findIdx fun e=>cj e d]=true
  rw [eqi _ (by omega) hj]
  exact List.findIdx_getElem (w:=hj)
 ·intro m hm hlt
  show eqDa X.K H d its[m]=false
  rw [eqi m (by simpa using hm) (by omega)]
  have:=List.not_of_lt_findIdx (p:=fun e=>cj e d) (xs:=ds) hlt
  simpa using this
def uR (x n c:Int):Obj:={ cls:=.type "range_iterator",dict:=none,data:=.fields #[rawInt x,rawInt n,rawInt c],slots:=#[] }
theorem jn {s:Shared} {r:Addr} {lo hi:Int} {t u v:Tok} {Q:Value->Shared->Prop} (hr:IsRange s.heap r lo hi 1 t u v) (h1:-(2 ^ 62)≤lo) (h2:lo<2 ^ 62) (h3:-(2 ^ 62)≤hi) (h4:hi<2 ^ 62) (hn:lo≤hi)
 (h:Q (.ref s.heap.objs.size) { s with heap:=s.heap.push (uR (hi-1) (hi-lo) (-1)) }):wpAny (model prog w) A (call (.builtin "range.__reversed__") [.ref r]) Q E s:=by
 refine wpAny_call_entry F.slot_range_reversed ⟨_,hr,rfl⟩ F.entry_range_reversed ?_ (F.args_range_reversed_1 _)
 unfold Builtin.«range.__reversed__»
 refine wpAny_bind (wpAny_of_eq (a:=Value.ref r) rfl ?_)
 have hsz:Builtin.Range.rangeSize lo hi 1=hi-lo:=by rw [rangeSize_one];split <;> omega
 have hsm:(Builtin.Range.rangeFitsLong lo && Builtin.Range.rangeFitsLong hi && Builtin.Range.rangeFitsLong 1 && Builtin.Range.rangeFitsLong (-1) && Builtin.Range.rangeFitsLong (lo-1) && Builtin.Range.rangeFitsLong (Builtin.Range.rangeSize lo hi 1))=true:=by
  rw [hsz]
  simp only [Builtin.Range.rangeFitsLong,Bool.and_eq_true,decide_eq_true_eq]
  omega
 unfold Builtin.Range.rangeFields
 refine wpAny_bind (wpAny_bind (wpAny_field hr rfl (x:=.int lo t) rfl ?_))
 refine wpAny_bind (wpAny_of_eq (a:=some lo) rfl ?_)
 refine wpAny_bind (wpAny_field hr rfl (x:=.int hi u) rfl ?_)
 refine wpAny_bind (wpAny_of_eq (a:=some hi) rfl ?_)
 refine wpAny_bind (wpAny_field hr rfl (x:=.int 1 v) rfl ?_)
 refine wpAny_bind (wpAny_of_eq (a:=some 1) rfl ?_)
 refine wpAny_pure ?_
 dsimp only
 rw [hsm]
 simp only [Bool.not_true,Bool.false_eq_true,if_false,if_true]
 refine wpAny_bind ?_
 unfold newFields
 refine wpAny_newObj_type (wpAny_pure ⟨_,rfl,?_⟩)
 rw [hsz,Int.mul_one,show lo+(hi-lo-1)=hi-1 by omega]
 exact h
theorem jr {s:Shared} {r:Addr} {lo hi:Int} {t u v:Tok} {Q₁:Value->Shared->Prop} (hr:IsRange s.heap r lo hi 1 t u v) (h1:-(2 ^ 62)≤lo) (h2:lo<2 ^ 62) (h3:-(2 ^ 62)≤hi) (h4:hi<2 ^ 62) (hn:lo≤hi)
 (h:Q₁ (.ref s.heap.objs.size) { s with heap:=s.heap.push (uR (hi-1) (hi-lo) (-1)) }) :
 codeAny (model prog w) A (.call (.builtin "reversed.__new__") ⟨[.type "reversed",.ref r],[]⟩) (wants Q₁ E) s:=by
 refine codeAny_of_tree ?_
 show wpAny _ A.in1 (do checkBuiltinCall "reversed.__new__" ⟨[.type "reversed",.ref r],[]⟩;again (.builtin "reversed.__new__" ⟨[.type "reversed",.ref r],[]⟩)) _ _ s
 refine wpAny_bind (wpAny_of_eq (F.newCall_reversed_1 _) (wpAny_pure ⟨plainId_quiet F.plain_reversed_new _,codeAny_builtin F.entry_reversed_new ?_⟩))
 rw [Around.under_plainId F.plain_reversed_new _]
 unfold Builtin.«reversed.__new__»
 refine wpAny_bind (wpAny_of_eq (newClass_reversed _) ?_)
 try dsimp only
 refine wpAny_bind (wpAny_of_eq (a:=()) (by first|rfl|kernel_rfl) ?_)
 refine wpAny_bind (wpAny_of_eq (a:=()) (by first|rfl|kernel_rfl) ?_)
 try dsimp only
 refine wpAny_bind (wpAny_specialOf ⟨_,hr,rfl⟩ F.slot_range_reversed.lookup ?_)
 try dsimp only
 refine wpAny_bind (wpAny_of_eq (F.slot_range_reversed.bind _) ?_)
 try dsimp only
 first
 |rw [if_neg (show ¬ ((Value.builtin "range.__reversed__" == Value.none)=true) from Bool.false_ne_true)]
 |(show wpAny _ _ (if (Value.builtin "range.__reversed__" == Value.none)=true then _ else _) _ _ _;rw [if_neg (show ¬ ((Value.builtin "range.__reversed__" == Value.none)=true) from Bool.false_ne_true)])
 refine wpAny_bind (wpAny_rule ?_)
 refine wpAny_bind (m:=runValue (.call (.builtin "range.__reversed__") ⟨[.ref r],[]⟩)) (show wpAny _ _ (call (.builtin "range.__reversed__") [.ref r]) _ _ _ from jn hr h1 h2 h3 h4 hn ?_)
 first
 |exact wpAny_pure h
 |exact wpAny_bind (wpAny_pure (wpAny_pure h))
theorem lL:isSubtype (.type "range_iterator") (.type "reversed")=pure false:=by rw [isSubtype_type];kernel_rfl
theorem jm {s:Shared} {r:Addr} {lo hi:Int} {t u v:Tok} {Q:Value->Shared->Prop} (hr:IsRange s.heap r lo hi 1 t u v) (h1:-(2 ^ 62)≤lo) (h2:lo<2 ^ 62) (h3:-(2 ^ 62)≤hi) (h4:hi<2 ^ 62) (hn:lo≤hi)
 (h:Q (.ref s.heap.objs.size) { s with heap:=s.heap.push (uR (hi-1) (hi-lo) (-1)) }):wpAny (model prog w) A (call (.type "reversed") [.ref r]) Q E s:=by
 refine callType_other (U:="range_iterator") (Q₁:=fun obj s₁=>obj=.ref s.heap.objs.size/\s₁={ s with heap:=s.heap.push (uR (hi-1) (hi-lo) (-1)) }) (by decide +kernel) F.create_reversed ⟨_,_,F.mro_reversed⟩ F.made_reversed lL (F.typeCall_reversed_1 _) (jr hr h1 h2 h3 h4 hn ⟨rfl,rfl⟩) ?_
 rintro obj s₁ ⟨rfl,rfl⟩
 exact ⟨⟨_,Heap.get?_push_size _ rfl,rfl⟩,h⟩
def Oq (hi:Int) (n:Nat):It:=⟨fun i _=>i<n,fun i H x H'=>H'=H/\x=.int (hi-1-i),fun i _=>n≤i⟩
theorem yS {P:Program} {w:World} {K:PySem.W.Frag} {tg:Expr} (it:Addr) (hi:Int) (n:Nat):Turn P w K tg (Oq hi n) [it] it (fun i h=>IsRangeIter h it (hi-1+(i:Nat)*(-1)) ((n:Int)-(i:Nat)) (-1)) where
 mem:=by simp
 obj:=fun i h st b hb=>by
  have e:b=it:=by simpa using hb
  subst e
  exact ⟨_,st,fun v z=>by
   have z':Data.fields _=Data.cell v:=z
   cases z'⟩
 keep:=fun i h h' st k=>k it (by simp) _ st
 item:=by
  intro X hP hw hK hc i Z s σ H E I hf st hg
  subst hP hw hK
  obtain ⟨f0,f1,f2,f3,f4,f5⟩:=hf it (by simp)
  have W:=Walks.range (prog:=X.prog) (w:=X.w) (I.ok.hd hc) it (hi-1) (-1) n
  refine W.item i s _ _ hg st fun v h' tk hv st' kk=>?_
  obtain ⟨t,rfl⟩:=hv
  have I1:Inv X Z σ H { s with heap:=h',toks:=tk }:=I.turned (fun b o hb e=>kk b o (by simpa using hb) e) f0 f1 f3 f4 f5
  refine ⟨_,rfl,qY (s:={ s with heap:=h',toks:=tk }) (n:="range_iterator") st' rfl rfl (by decide) ⟨.int (hi-1-i),H,I1,⟨t,?_⟩,⟨rfl,rfl⟩,st',fun b hb=>(hf b hb).1⟩⟩
  rw [show hi-1+(i:Int)*(-1)=hi-1-i by omega]
 done:=by
  intro X hP hw hK hc i Z s σ H E I hf st hg
  subst hP hw hK
  obtain ⟨f0,f1,f2,f3,f4,f5⟩:=hf it (by simp)
  exact wpAny_pyNext_range_end (I.ok.hd hc) st (by have:n≤i:=hg;omega) fun h' eb=>⟨rfl,I.turned (t':=s.toks) (fun b o hb e=>eb b o hb e) f0 f1 f3 f4 f5⟩
 self:=fun _ _ _ _ _ st h=>wpAny_pyIter_rangeiter st h
def Vh (ta:TA):TI:=fun σ H R=>ta σ H fun vs H1=>∃ i j:Int,vs=[.int i,.int j]/\(-(2 ^ 62)≤i/\i<2 ^ 62/\-(2 ^ 62)≤j/\j<2 ^ 62/\i≤j)/\R (Oq j (j-i).toNat) H1
theorem qZ:bootBuiltins "reversed" = some (.type "reversed"):=by decide +kernel
theorem Fv (hg:Gl X "reversed") (hm:X.mg "reversed" = none) (hg2:Gl X "range") (hm2:X.mg "range" = none) (ha:PA X [a,b] ta)
 (hs:starEach [a,b] X.env=(false,eval a X.env)::starEach [b] X.env:=by rfl) (hs1:(backTo pos2 (starEach [b] X.env)).any (·.1)=false:=by rfl)
 (hs2:starEach [.Call (.Name "range" p2) [a,b] [] pos2] X.env=(false,eval (.Call (.Name "range" p2) [a,b] [] pos2) X.env)::starEach [] X.env:=by rfl) (hs3:(backTo pos (starEach [] X.env)).any (·.1)=false:=by rfl) :
 PI X tg (.Call (.Name "reversed" p) [.Call (.Name "range" p2) [a,b] [] pos2] [] pos) (Vh ta):=by
 intro Z s σ H R I h
 refine Call_ (fG I hg hm qZ (PyProof.Rows.callWith_type1 ?_ hs2 hs3))
 rw [hs2]
 show wpAny _ _ (spliced ((false,eval (.Call (.Name "range" p2) [a,b] [] pos2) X.env)::backTo pos (starEach [] X.env))) _ _ s
 refine Calls.spliced_cons ?_
 refine wpAny_Call_Name_kw (fG I hg2 hm2 boot_range (PyProof.Rows.callWith_type1 (b_ (ha pos2 Z s σ H _ I h) fun us s1 ⟨vs,H1,I1,r1,q1⟩=>?_) hs hs1) (by decide) (by decide))
 obtain ⟨i,j,rfl,⟨q1,q2,q3,q4,q5⟩,q⟩:=q1
 obtain ⟨u1,u2,rfl,e1,e2⟩:=vals2 r1
 obtain ⟨t,rfl⟩:=e1
 obtain ⟨t',rfl⟩:=e2
 refine call_range_2 ?_
 refine Calls.spliced_nil ?_
 refine jm (IsRange.new ..) q1 q2 q3 q4 q5 ?_
 have I2:Inv X Z σ H1 { s1 with heap:=s1.heap.push { cls:=.type "range",data:=.fields #[.int i t,.int j t',.int 1 s1.toks] },toks:=s1.toks+1 }:=I1.kept fun b o e=>Heap.get?_push_of_some _ e
 refine wpAny_pyIter_rangeiter (x:=j-1) (left:=j-i) (step:=-1) (Heap.get?_push_size _ rfl) ?_
 refine ⟨_,[(s1.heap.push { cls:=.type "range",data:=.fields #[.int i t,.int j t',.int 1 s1.toks] }).objs.size],_,_,H1,rfl,I2.kept (t':=s1.toks+1) fun b o e=>Heap.get?_push_of_some _ e,yS _ j (j-i).toNat,?_,fun b hb=>?_,q⟩
 ·show IsRangeIter _ _ (j-1+((0:Nat):Int)*(-1)) (((j-i).toNat:Int)-((0:Nat):Int)) (-1)
  rw [show j-1+((0:Nat):Int)*(-1)=j-1 by omega,show ((j-i).toNat:Int)-((0:Nat):Int)=j-i by omega]
  exact Heap.get?_push_size _ rfl
 ·have e:b=(s1.heap.push { cls:=.type "range",data:=.fields #[.int i t,.int j t',.int 1 s1.toks] }).objs.size:=by simpa using hb
  subst e
  exact I2.fpOk (Nat.le_refl _) (I2.hok.fresh (Nat.le_refl _))
theorem Ay {hi:Int} {n:Nat} {g:TG} {tb:TS} {D:Ends} {σ:St} {H:Hp} (Pv:Nat->St->Hp->Prop) (h0:Pv 0 σ H)
 (hs:∀ i σ H,i<n->Pv i σ H->g (.int (hi-1-i)) σ H fun σ2 H2=>tb { D with nx:=Pv (i+1),ct:=Pv (i+1),bk:=D.nx } σ2 H2) (hd:∀ σ H,Pv n σ H->D.nx σ H) :
 ∃ W:Nat->Nat->St->Hp->Prop,(∃ m,W 0 m σ H)/\∀ i m σ H,W i m σ H->
   ((Oq hi n).stop i H/\D.nx σ H)∨((Oq hi n).go i H/\∃ N:St->Hp->Prop,(∀ σ' H',N σ' H'->∃ m',m'<m/\W (i+1) m' σ' H')/\∀ x H',(Oq hi n).yld i H x H'->g x σ H' fun σ2 H2=>tb { D with nx:=N,ct:=N,bk:=D.nx } σ2 H2):=by
 refine ⟨fun i m σ H=>m=n-i/\i≤n/\Pv i σ H,⟨n,by simp,Nat.zero_le _,h0⟩,?_⟩
 rintro i m σ H ⟨rfl,hi,p⟩
 by_cases hlt:i<n
 ·refine .inr ⟨hlt,Pv (i+1),fun σ' H' p'=>⟨n-(i+1),by omega,rfl,hlt,p'⟩,fun x H' y=>?_⟩
  obtain ⟨e,y⟩:=y
  subst e y
  exact hs i σ _ hlt p
 ·have e:i=n:=by omega
  subst e
  exact .inl ⟨Nat.le_refl _,hd σ H p⟩
open PySem.AutoSeq1 in
theorem jB (l:Addr) (items:Array Value) (n:Nat) (b:Addr) (items2:Array Value) (n2:Nat) (dd:Option Addr) (sl:Array (Option Value)) (hs0:¬(!items.isEmpty && Builtin.List.listTooLong (items.size+items2.size))=true) (hs1:items.size≤sizeLine) (hs2:items.size+items2.size≤sizeLine+1) :
 Meets (Builtin.«list.extend» ⟨[.ref l,.ref b],[]⟩) (fun _ R s=>s.heap.get? l=some { cls:=.type "list",dict:=none,data:=.seq items n,slots:=#[] }/\s.heap.get? b=some { cls:=.type "tuple",dict:=dd,data:=.seq items2 n2,slots:=sl }/\R (.ok (.ret Value.none)) { s with heap:=s.heap.update l (Obj.mapSeq fun x=>x++items2),toks:=s.toks }):=
 .of_wp fun prog w A R s h=>by
  obtain ⟨hp,g,d,tk,os⟩:=s;obtain ⟨hl,hb,h⟩:=h;have f1:=idx_int;have f2:=AutoSeq1.sub_tuple_tuple;have f3:=AutoSeq1.sub_list_list;have f4:=AutoSeq1.sub_tuple_list;have f5:=AutoSeq1.sub_list_tuple;
  have hz':(items++items2).size≤sizeLine+1:=by rw [Array.size_append];exact hs2
  wp_walk using (wpAny_updateSeq hl rfl (hz:=hs1) (_hz':=hz')),wpAny_loadPart' hl,wpAny_loadPart' hb;exact ⟨_,rfl,h⟩
def zc:V->List V->Hp->VK->Prop:=fun x vs H Q=>∃ l b xs zs,x=.ref l/\vs=[.ref b]/\H l=some (.lst xs)/\H b=some (.tup zs)/\xs.length+zs.length≤sizeLine/\Q .non (upd H l (.lst (xs++zs)))
theorem rH:UW X "list.extend" zc:=by
 intro Z s σ H x vs v us Q I rx rv h
 obtain ⟨l,b,xs,zs,rfl,rfl,hH,hB,hz,q⟩:=h
 cases rx
 obtain ⟨u,rfl,ru⟩:=rv.one
 cases ru
 obtain ⟨z,its,n,r,hl,e⟩:=I.lstM hH
 obtain ⟨z2,its2,r2,o,h1,h2,n2,h3⟩:=(show cI X.prog X.w H s.heap b (.tup zs) from I.hok b _ hB)
 have hl2:=r2.length
 have hsz:its.toArray.size+its2.toArray.size≤sizeLine:=by rw [List.size_toArray,List.size_toArray];omega
 have hlong:¬ (!its.toArray.isEmpty && Builtin.List.listTooLong (its.toArray.size+its2.toArray.size))=true:=by
  rw [rA hsz,Bool.and_false]
  exact Bool.false_ne_true
 obtain ⟨c,dd,dt,sl⟩:=o
 cases (show c=Value.type "tuple" from h2)
 cases (show dt=Data.seq its2.toArray n2 from h3)
 refine call_meets F.slot_list_extend ⟨_,e,rfl⟩ F.entry_list_extend (F.args_list_extend_2 _ _)
  (jB l its.toArray n b its2.toArray n2 dd sl hlong (by rw [List.size_toArray];omega) (by omega)) ⟨e,h1,?_⟩
 refine ⟨.non,_,I.lset (its':=its++its2) hH e (by simp) (r.append r2) ?_,rfl,q⟩
 rw [List.length_append]
 omega
theorem rP {K:PySem.W.Frag} {a:Addr} {xs:List V} {g:TG} {te:TE} {F:List V->Hp->Prop} {σ0:St} {H0:Hp} (Pv:Nat->List V->St->Hp->Prop) (hn:xs.length≤sizeLine) (h0:Pv 0 [] σ0 H0) (hq:∀ i ys σ H,i≤xs.length->Pv i ys σ H->bJ K H a xs)
 (hs:∀ i x ys σ H p,xs[i]?=some x->ys.length=i->Pv i ys σ H->H p=none->∀ N:List V->St->Hp->Prop,(∀ ys' σ' H',ys'.length=i+1->Pv (i+1) ys' σ' H'->N ys' σ' H')->g (.ref p) σ (upd H p (.tup [.int i,x])) fun σ2 H2=>te σ2 H2 fun y H3=>N (ys++[y]) σ2 H3)
 (hd:∀ ys σ H,ys.length=xs.length->Pv xs.length ys σ H->F ys H) :
 ∃ W:Nat->Nat->List V->St->Hp->Prop,(∃ m,W 0 m [] σ0 H0)/\jM (vH K a) g wR te F W:=by
 refine ⟨fun i m ys σ H=>m=xs.length-i/\i≤xs.length/\ys.length=i/\Pv i ys σ H,⟨xs.length,by simp,Nat.zero_le _,rfl,h0⟩,?_⟩
 rintro i m ys σ H ⟨rfl,hi,hl,p⟩
 have q:=hq i ys σ H hi p
 by_cases hlt:i<xs.length
 ·refine .inr ⟨⟨xs,xs[i],q,by simp [hlt]⟩,by omega,?_⟩
  rintro x H' ⟨p',y,hn',rfl,hy,rfl⟩
  exact hs i y ys σ H p' (hy xs q) hl p hn' (fun ys' σ' H'=>∃ m',m'<xs.length-i/\m'=xs.length-(i+1)/\i+1≤xs.length/\ys'.length=i+1/\Pv (i+1) ys' σ' H') fun ys' σ' H' hl' q=>⟨xs.length-(i+1),by omega,rfl,hlt,hl',q⟩
 ·have e:i=xs.length:=by omega
  subst e
  exact .inl ⟨⟨xs,q,Nat.le_refl _⟩,hd ys σ H hl p⟩
theorem yx:iD X (compareOp .Is) (fun x y H Q=>∃ b,y=.bl b/\((∃ c,x=.bl c)∨∃ i,x=.int i)/\Q (.bl (decide (x=.bl b))) H):=by
 intro Z s σ H x y v u Q I rx ry h
 obtain ⟨b,rfl,hx,q⟩:=h
 cases (show u=Value.bool b from ry)
 rcases hx with ⟨c,rfl⟩|⟨i,rfl⟩
 ·cases (show v=Value.bool c from rx)
  refine wpAny_is_plain (by cases b <;> cases c <;> rfl) (bO I q ?_)
  cases b <;> cases c <;> rfl
 ·obtain ⟨t,rfl⟩:=(show ∃ t,v=Value.int i t from rx)
  exact wpAny_is_plain (by cases b <;> rfl) (bO I q (by cases b <;> rfl))
end L2
namespace Cm
open PySem L2
def top (i:Nat):Stmt:=PySem.Challenge.pw_lanescribe_k10_whole_ways_tell_what_test.main.body.getD i (.Pass ⟨0,0,0,0⟩)
def v6 (c:Addr) (a r s:Int):List (Key×V):=[(.inr "cells",.ref c),(.inr "at",.int a),(.inr "rest",.int r),(.inr "seed",.int s)]
theorem pat:putK (v6 c a r s) (.inr "at") (.int x)=v6 c x r s:=by rfl
theorem CP:putK (v6 c a r s) (.inr "rest") (.int x)=v6 c a x s:=by rfl
theorem B_:putK (v6 c a r s) (.inr "seed") (.int x)=v6 c a r x:=by rfl
theorem xW (h:H p=some (.dK (v6 c a r s))):jC H p (.str "cells") (some (.ref c)):=jC.k (k:=Sum.inr "cells") h
theorem Vy (h:H p=some (.dK (v6 c a r s))):jC H p (.str "at") (some (.int a)):=jC.k (k:=Sum.inr "at") h
theorem uF (h:H p=some (.dK (v6 c a r s))):jC H p (.str "rest") (some (.int r)):=jC.k (k:=Sum.inr "rest") h
theorem qQ (h:H p=some (.dK (v6 c a r s))):jC H p (.str "seed") (some (.int s)):=jC.k (k:=Sum.inr "seed") h
abbrev Jd:Int:=2305843009213693951
structure Dr (H:Hp) (p c:Addr):Prop where
 ex:∃ (ns:List Int) (a r s:Int),H p=some (.dK (v6 c a r s))/\H c=some (.lst (ns.map V.int))/\ns.length≤63/\0≤a/\a≤ns.length/\0≤r/\0≤s/\s<Jd
theorem Dr.mono (d:Dr H p c) (h:aB H H'):Dr H' p c:=by
 obtain ⟨ns,a,r,s,h1,h2,k⟩:=d.ex
 exact ⟨ns,a,r,s,h _ _ h1,h _ _ h2,k⟩
theorem Dr.ne (d:Dr H p c) (h:H q=some o) (hd:∀ kvs,o≠.dK kvs):q≠p:=by
 obtain ⟨ns,a,r,s,h1,_⟩:=d.ex
 exact fK h h1 (hd _)
theorem Dr.put (d:Dr H p c) (h1:q≠p) (h2:q≠c):Dr (upd H q o) p c:=by
 obtain ⟨ns,a,r,s,e1,e2,k⟩:=d.ex
 exact ⟨ns,a,r,s,by rw [aK h1.symm];exact e1,by rw [aK h2.symm];exact e2,k⟩
theorem Dr.cell (d:Dr H p c):∃ xs,H c=some (.lst xs):=by
 obtain ⟨ns,a,r,s,e1,e2,k⟩:=d.ex
 exact ⟨_,e2⟩
theorem Dr.neN (d:Dr H p c) (h:H q=none):p≠q:=by
 obtain ⟨ns,a,r,s,h1,_⟩:=d.ex
 exact aP h1 h
structure Txt (K:PySem.W.Frag) (mg:Str->Option Value):Prop where
 len:mg "len" = none
 range:mg "range" = none
 list:mg "list" = none
 tuple:mg "tuple" = none
 str:mg "str" = none
 bool:mg "bool" = none
 int:mg "int" = none
 min:mg "min" = none
 repr:mg "repr" = none
 all:mg "all" = none
 any:mg "any" = none
 isinstance:mg "isinstance" = none
section
variable {P:Program} {w:World} {K:PySem.W.Frag} {mg:Str->Option Value} {base:Heap}
def uU (K:PySem.W.Frag):Sp:=fun vs H Q _=>∃ (a:Addr) (ns:List Int),vs=[.ref a]/\bJ K H a (ns.map V.int)/\ns.length≤63/\∀ (p c:Addr) (H':Hp),Dr H' p c->aB H H'->H p=none->Q (.ref p) H'
theorem Rp:aU ["_law_script","_law_seed","_law_cell"] ["_law_script"] (aC (top 48)):=⟨rfl,rfl,rfl,by decide +kernel,rfl,by decide +kernel,by decide +kernel⟩
theorem xM (F:fj K "_law_begin" "_law_begin" (top 48) f fd) (T:Txt K mg):aQ P w K mg base bL 1 f fd ["_law_script"] (uU K):=by
 refine F.ok Rp (fun vs H Q E h=>?_) (fun cdv A outer s H vs Q E hr h=>?_)
 ·obtain ⟨a,ns,rfl,_⟩:=h
  rfl
 ·obtain ⟨a,ns,rfl,hS,hlen,k⟩:=h
  refine ⟨_,(aq (bj (i:=1) Rp.nd rfl (Or.inl rfl) au)
   (aq (dM PassesOwn.never rfl (gO (bV pW (pv 0) cG (cF au))) (aR (i:=2) Rp.nd rfl (Or.inl rfl))
    (aA (bj (i:=1) Rp.nd rfl (Or.inl rfl) (bh gU (bh cX (bh cX (bh jG (pv 1) au) (bh jG (pv 2) au)) au) au))))
   (aA (aH (uD (g_ aF (j7 pN (by rfl) T.list lU (aa (bV pW (pv 0) cG (cF au)) aj)) (g_ aF au (g_ aF au (g_ aF (pv 1) uz)))) rfl rfl (List.cons_ne_nil _ _) (by show 4≤15;decide)))))),?_⟩
  have hcut:gf (ns.map V.int) none (some 63)=ns.map V.int:=by
   show ((ns.map V.int).drop (HT.dR _ 0 none)).take (HT.dR _ _ (some ((63:Nat):Int))-HT.dR _ 0 none)=_
   rw [HT.jP,HT.pU,List.drop_zero,Nat.sub_zero,List.take_of_length_le]
   rw [List.length_map];omega
  refine ⟨_,rfl,_,rfl,a,_,rfl,hS,fun q hq=>⟨q,rfl,⟨_,bJ.of ak⟩,?_⟩⟩
  rw [hcut]
  have hS':∀ o,bJ K (upd H q o) a (ns.map V.int):=fun o=>(show aB H (upd H q o) from fun b u e=>by rw [aK (aP e hq)];exact e).seq hS
  refine j6 (K:=K) (a:=q) (xs:=ns.map V.int) (fun i σ H2=>∃ (z:Int) (v:Option V),σ=[some (.ref a),some (.int z),v]/\0≤z/\z<Jd/\H2=upd H q (.lst (ns.map V.int)))
   ⟨20011,none,rfl,by decide,by decide,rfl⟩ (fun i σ H2 _ ⟨_,_,_,_,_,e⟩=>by rw [e];exact bJ.of ak) ?_ ?_
  ·rintro i y σ H2 hi ⟨z,v,rfl,h0,h1,rfl⟩
   obtain ⟨n,-,rfl⟩:=List.mem_map.mp (List.mem_of_getElem? hi)
   refine ⟨_,rfl,_,_,rfl,rfl,.inl ⟨by omega,by simp only [Jd] at h1;omega⟩,_,rfl,_,_,rfl,rfl,.inr ⟨by decide,by decide⟩,_,_,rfl,rfl,_,_,rfl,rfl,_,_,rfl,rfl,(by show (0:Int)<2305843009213693951;decide),?_⟩
   exact ⟨_,_,rfl,Int.emod_nonneg _ (by decide),Int.emod_lt_of_pos _ (by decide),rfl⟩
  ·rintro σ H2 ⟨z,v,rfl,h0,h1,rfl⟩
   intro p hp
   have s1:aB H (upd (upd H q (.lst (ns.map V.int))) p (.dK [])):=(aB.new hq).trans (aB.new hp)
   refine ⟨_,rfl,_,rfl,a,_,rfl,s1.seq hS,fun q2 hq2=>⟨q2,_,rfl,.inl (bJ.of ak),fun l hl=>⟨_,rfl,?_,v6 l 0 0 z,rfl,by show 4≤15;decide,?_⟩⟩⟩
   ·exact (aB.new hl) _ _ ((aB.new hq2) _ _ ak)
   ·rw [hcut]
    have hpl:(upd (upd (upd (upd H q (.lst (ns.map V.int))) p (.dK [])) q2 (.lst (ns.map V.int))) l (.lst (ns.map V.int))) p=some (.dK []):=(aB.new (by rw [hcut] at hl;exact hl)) _ _ ((aB.new hq2) _ _ ak)
    have hlp:l≠p:=fK ak hpl (by intro z;cases z)
    refine k p l _ ⟨ns,0,0,z,ak,by rw [aK hlp];exact ak,hlen,by decide,by omega,by decide,h0,h1⟩ ?_ ((aB.new hq).free hp)
    intro b u e
    have e1:=((aB.new (q:=l) (o:=.lst (ns.map V.int)) (by rw [hcut] at hl;exact hl)) _ _ ((aB.new hq2) _ _ (s1 b u e)))
    rw [aK (aP ((aB.new hq) b u e) hp)]
    exact e1
def gR:Sp:=fun vs H Q _=>∃ (p c:Addr) (m:Int),vs=[.ref p,.int m]/\Dr H p c/\0<m/\m<340282366920938463463374607431768211456/\∀ (r:Int) (H':Hp),0≤r->r<m->Dr H' p c->cL p H H'->Q (.int r) H'
theorem RD:aU ["_law_d","_law_many","_law_cell","_law_digit","_law_one"] ["_law_d","_law_many"] (aC (top 49)):=⟨rfl,rfl,rfl,by decide +kernel,rfl,by decide +kernel,by decide +kernel⟩
theorem fZ (F:fj K "_law_pick" "_law_pick" (top 49) f fd) (T:Txt K mg):aQ P w K mg base bL 1 f fd ["_law_d","_law_many"] gR:=by
 refine F.ok RD (fun vs H Q E h=>?_) (fun cdv A outer s H vs Q E hr h=>?_)
 ·obtain ⟨p,c,m,rfl,_⟩:=h
  rfl
 ·obtain ⟨p,c,m,rfl,D,m0,m1,k⟩:=h
  have hu:=CJ hr
  refine ⟨_,(aq
 (bc (PW.pt (o_ (aL bu (cY hu (pv 0) aF (fun _ _=>rfl)) au (aN _)) (pJ (aL jx (cY hu (pv 0) aF (fun _ _=>rfl)) (aG aV (by rfl) T.len bR (aa (cY hu (pv 0) aF (fun _ _=>rfl)) aj)) (aN _))))) (aq
 (bj (i:=2) RD.nd rfl (Or.inl rfl) (a_ cR (cY hu (pv 0) aF (fun _ _=>rfl)) (cY hu (pv 0) aF (fun _ _=>rfl)) (fun _ _=>rfl)))
 (aq
 (j8 hu (pv 0) aF (bh cX (cY hu (pv 0) aF (fun _ _=>rfl)) au) rfl)
 (aA
 (bc (aL QJ (pv 2) (bh sy au au) (aN _)) (aA
 (j8 hu (pv 0) aF (pv 2) rfl)) (aA
 (j8 hu (pv 0) aF (bh gU (bh cX (bh cX (bh jG (cY hu (pv 0) aF (fun _ _=>rfl)) au) (bh jG (pv 2) au)) au) au) rfl)))))) aM)
 (aq
 (bc (aL qF (cY hu (pv 0) aF (fun _ _=>rfl)) au (aN _)) (aq
 (bj (i:=3) RD.nd rfl (Or.inl rfl) (bh gU (cY hu (pv 0) aF (fun _ _=>rfl)) (pv 1)))
 (aq
 (j8 hu (pv 0) aF (bh ye (cY hu (pv 0) aF (fun _ _=>rfl)) (pv 1)) rfl)
 (aA
 (aH (pv 3))))) aM)
 (aq
 (bj (i:=4) RD.nd rfl (Or.inl rfl) (bh gU (bh jG (cY hu (pv 0) aF (fun _ _=>rfl)) (cY hu (pv 0) aF (fun _ _=>rfl))) au))
 (aq
 (j8 hu (pv 0) aF (bh gU (bh cX (bh cX (bh jG (pv 4) au) (bh jG (cY hu (pv 0) aF (fun _ _=>rfl)) au)) au) au) rfl)
 (aA
 (aH (bh gU (bh uw (cY hu (pv 0) aF (fun _ _=>rfl)) au) (pv 1)))))))),?_⟩
  obtain ⟨ns,a,r,sd,h1,h2,hl,a0,a1,r0,s0,s1⟩:=D.ex
  have npc:c≠p:=fK h2 h1 (by intro z;cases z)
  have small:∀ {x y z:Int},(v6 c x y z).length<sizeLine:=fun {x y z}=>gr (by show 4≤1000;decide)
  refine mK (fun σ' H'=>∃ (a' r' sd':Int) (v:Option V),σ'=[some (.ref p),some (.int m),v,none,none]/\H' p=some (.dK (v6 c a' r' sd'))/\cL p H H'/\0≤a'/\a'≤ns.length/\0≤r'/\0≤sd'/\sd'<Jd) ?_ ?_
  ·rintro σ' H1 ⟨a',r',sd',v,rfl,e1,bt,b0,b1,c0,d0,d1⟩
   have hc1:∀ o,(upd H1 p o) c=some (.lst (ns.map V.int)):=fun o=>by rw [aK npc];exact bt c _ h2 npc
   refine ⟨_,rfl,p,_,rfl,uF e1,_,_,rfl,rfl,_,rfl,?_⟩
   refine f9 (fun hpos=>?_) (fun _=>?_)
   ·refine ⟨_,rfl,p,_,rfl,uF e1,_,rfl,_,_,rfl,rfl,m0,?_⟩
    refine ⟨_,rfl,p,_,rfl,uF e1,_,rfl,_,_,rfl,rfl,⟨m0,m1⟩,_,rfl,p,_,rfl,nu.k (k:=Sum.inr "rest") e1 small,_,rfl,?_⟩
    rw [CP]
    exact k _ _ (Int.emod_nonneg _ (by omega)) (Int.emod_lt_of_pos _ m0) ⟨ns,a',r' / m,sd',ak,hc1 _,hl,b0,b1,Int.ediv_nonneg c0 (by omega),d0,d1⟩ (bt.trans cL.upd)
   ·have sq:Ae sd' sd':=.inl ⟨by omega,by simp only [Jd] at d1;omega⟩
    refine ⟨_,rfl,p,_,rfl,qQ e1,_,rfl,p,_,rfl,qQ e1,_,_,rfl,rfl,sq,_,_,rfl,rfl,(by show (0:Int)<2305843009213693951;decide),?_⟩
    have u0:=Int.emod_nonneg (sd'*sd') (show (2305843009213693951:Int)≠0 by decide)
    have u1:=Int.emod_lt_of_pos (sd'*sd') (show (0:Int)<2305843009213693951 by decide)
    refine ⟨_,rfl,_,_,rfl,rfl,.inr ⟨by decide,by decide⟩,_,rfl,p,_,rfl,qQ e1,_,_,rfl,rfl,.inr ⟨by decide,by decide⟩,_,_,rfl,rfl,_,_,rfl,rfl,_,_,rfl,rfl,(by show (0:Int)<2305843009213693951;decide),_,rfl,p,_,rfl,nu.k (k:=Sum.inr "seed") e1 small,?_⟩
    rw [B_]
    generalize hsd:(sd'*sd' % 2305843009213693951*7+sd'*40503+12345) % 2305843009213693951=sn
    have v0:0≤sn:=hsd ▸ Int.emod_nonneg _ (by decide)
    have v1:sn<Jd:=hsd ▸ Int.emod_lt_of_pos _ (by decide)
    refine ⟨_,rfl,p,_,rfl,qQ ak,_,_,rfl,rfl,⟨by decide,by decide⟩,_,rfl,_,_,rfl,rfl,m0,?_⟩
    exact k _ _ (Int.emod_nonneg _ (by omega)) (Int.emod_lt_of_pos _ m0) ⟨ns,a',r',sn,ak,hc1 _,hl,b0,b1,c0,v0,v1⟩ (bt.trans cL.upd)
  ·intro N hN
   refine ⟨_,rfl,p,_,rfl,uF h1,rfl,_,rfl,?_⟩
   refine f9 (fun hz=>?_) (fun _=>?_)
   ·refine ⟨_,rfl,p,_,rfl,Vy h1,_,rfl,p,_,rfl,xW h1,c,_,rfl,.inl (bJ.of h2),_,_,rfl,rfl,_,rfl,?_⟩
    rw [List.length_map]
    refine f9 (fun hlt=>?_) (fun _=>?_)
    ·have hlt:a<ns.length:=of_decide_eq_true hlt
     obtain ⟨z,hz'⟩:∃ z,ns[a.toNat]?=some z:=⟨_,List.getElem?_eq_getElem (by omega)⟩
     have hat:pM (ns.map V.int) a=some (.int z):=by
      have e:(a:Int)=((a.toNat:Nat):Int):=by omega
      rw [e]
      refine aJ ?_
      rw [List.getElem?_map,hz'];rfl
     refine ⟨_,rfl,p,_,rfl,xW h1,_,rfl,p,_,rfl,Vy h1,c,_,_,_,rfl,rfl,bJ.of h2,hat,?_⟩
     refine ⟨_,rfl,p,_,rfl,Vy h1,_,_,rfl,rfl,_,rfl,p,_,rfl,nu.k (k:=Sum.inr "at") h1 small,?_⟩
     rw [pat]
     refine ⟨_,rfl,_,_,rfl,rfl,⟨by decide,by decide,by decide⟩,_,_,rfl,rfl,_,rfl,?_⟩
     refine f9 (fun hge=>?_) (fun _=>?_)
     ·refine ⟨_,rfl,_,rfl,p,_,rfl,nu.k (k:=Sum.inr "rest") ak small,?_⟩
      rw [CP]
      have hge:(10:Int) ^ 18≤z:=of_decide_eq_true hge
      exact hN _ _ ⟨a+1,z,sd,_,rfl,ak,cL.upd.trans cL.upd,by omega,by omega,by omega,s0,s1⟩
     ·refine ⟨_,rfl,p,_,rfl,qQ ak,_,_,rfl,rfl,.inr ⟨by decide,by decide⟩,_,rfl,_,_,rfl,rfl,.inr ⟨by decide,by decide⟩,_,_,rfl,rfl,_,_,rfl,rfl,_,_,rfl,rfl,(by show (0:Int)<2305843009213693951;decide),_,rfl,p,_,rfl,nu.k (k:=Sum.inr "seed") ak small,?_⟩
      rw [B_]
      exact hN _ _ ⟨a+1,r,_,_,rfl,ak,cL.upd.trans cL.upd,by omega,by omega,r0,Int.emod_nonneg _ (by decide),Int.emod_lt_of_pos _ (by decide)⟩
    ·exact hN _ _ ⟨a,r,sd,_,rfl,h1,cL.refl,a0,a1,r0,s0,s1⟩
   ·exact hN _ _ ⟨a,r,sd,_,rfl,h1,cL.refl,a0,a1,r0,s0,s1⟩
end
theorem Dr.dk (d:Dr H p c):∃ kvs,H p=some (.dK kvs):=by
 obtain ⟨ns,a,r,s,h1,_⟩:=d.ex
 exact ⟨_,h1⟩
theorem Dr.seq (d:Dr H p c) (e:cL p H H') (h:bJ K H a xs):bJ K H' a xs:=let ⟨_,hp⟩:=d.dk;e.seq hp h
theorem Dr.rep (d:Dr H p c) (e:cL p H H') (h:Rep K H v x):Rep K H' v x:=let ⟨_,hp⟩:=d.dk;h.but e hp
theorem Dr.new (d:Dr H p c) (h:H q=none):Dr (upd H q o) p c:=d.mono (aB.new h)
def rQ (K:PySem.W.Frag):Sp:=fun vs H Q _=>∃ (p c q:Addr) (xs:List V),vs=[.ref p,.ref q]/\Dr H p c/\bJ K H q xs/\xs≠[]/\xs.length≤1000/\∀ (x:V) (H':Hp),x∈xs->Dr H' p c->cL p H H'->Q x H'
theorem Wg:aU ["_law_d","_law_things"] ["_law_d","_law_things"] (aC (top 50)):=⟨rfl,rfl,rfl,by decide +kernel,rfl,by decide +kernel,by decide +kernel⟩
theorem oA (F:fj K "_law_of" "_law_of" (top 50) f fd) (T:Txt K mg) (DP:cH K mg "_law_pick" (top 49) ["_law_d","_law_many"] fP fdP):aQ P w K mg base bL 2 f fd ["_law_d","_law_things"] (rQ K):=by
 have GP:aQ P w K mg base bL 1 fP fdP ["_law_d","_law_many"] gR:=fZ DP.F T
 refine F.ok Wg (fun vs H Q E h=>?_) (fun cdv A outer s H vs Q E hr h=>?_)
 ·obtain ⟨p,c,q,xs,rfl,_⟩:=h
  rfl
 ·obtain ⟨p,c,q,xs,rfl,D,hq,hne,hl,k⟩:=h
  refine ⟨_,(aA (aH (a_ cR (pv 1) (aD GP hr rfl DP.mg DP.F.kp DP.b .nil aO (aa (pv 0) (aa (aG aV (by rfl) T.len bR (aa (pv 1) aj)) aj))) (fun _ _=>rfl)))),?_⟩
  have hpos:0<xs.length:=List.length_pos_iff.mpr hne
  refine ⟨_,rfl,_,rfl,_,rfl,q,xs,rfl,(.inl hq),p,c,_,rfl,D,by omega,by omega,fun r H' r0 r1 D' bt=>?_⟩
  obtain ⟨j,rfl⟩:=Int.eq_ofNat_of_zero_le r0
  have hx:j<xs.length:=by omega
  exact ⟨q,xs,_,xs[j],rfl,rfl,D.seq bt hq,aJ (List.getElem?_eq_getElem hx),k _ _ (List.getElem_mem hx) D' bt⟩
def spS (K:PySem.W.Frag):Nat->Sp
 |0=>fun _ _ _ _=>False
 |n+1=>fun vs H Q _=>∃ (x y:V) (d:PyData),vs=[x,y]/\Rep K H x d/\Rep K H y d/\cz d≤n/\jN d≤100000/\∀ H':Hp,aB H H'->Q (.bl true) H'
theorem WK:aU ["_law_found","_law_due"] ["_law_found","_law_due"] (aC (top 52)):=⟨rfl,rfl,rfl,by decide +kernel,rfl,by decide +kernel,by decide +kernel⟩
theorem oZ {Q:VK} {v:V} {H:Hp} (h:Q (.bl true) H):Q (.bl (decide (v=v))) H:=by rw [decide_eq_true rfl];exact h
theorem zY {f:Addr} {fd:FuncData} (DS:cH K mg "_law_same" (top 52) ["_law_found","_law_due"] f fd) (T:Txt K mg) (n:Nat):aQ P w K mg base bL n f fd ["_law_found","_law_due"] (spS K n):=by
 refine Nat.rec (motive:=fun n=>aQ P w K mg base bL n f fd ["_law_found","_law_due"] (spS K n)) ⟨fun _ _ _ _ h=>h.elim,fun _ _ _ _ _ _ _ _ _ _ _ _ _ h=>h.elim⟩ (fun n GS=>?_) n
 refine DS.F.ok WK (fun vs H Q E h=>?_) (fun cdv A outer s H vs Q E hr h=>?_)
 ·obtain ⟨x,y,d,rfl,_⟩:=h
  rfl
 ·obtain ⟨x,y,d,rfl,hx,hy,hn,hm,k⟩:=h
  refine ⟨_,(aq
 (bc (aL sE (pv 1) mL (aN _)) (aA
 (aH (bH sE (pv 0) mL (aN _)))) aM)
 (aq
 (bc (PW.pt (gM (cD (aG bC (by rfl) T.isinstance aX (aa (pv 1) (aa (cP rfl T.bool gb) aj)))) (fH (cD (aG bC (by rfl) T.isinstance aX (aa (pv 0) (aa (cP rfl T.bool gb) aj))))))) (aA
 (aH (c7 (aG bC (by rfl) T.isinstance aX (aa (pv 1) (aa (cP rfl T.bool gb) aj))) (c7 (aG bC (by rfl) T.isinstance aX (aa (pv 0) (aa (cP rfl T.bool gb) aj))) (dw (bH bu (pv 0) (pv 1) (aN _))))))) aM)
 (aq
 (bc (cD (aG oN (by rfl) T.isinstance aX (aa (pv 1) (aa (bz (aa (cP rfl T.int k_) (aa (cP rfl T.str kI) aj))) aj)))) (aA
 (aH (c7 (aG oN (by rfl) T.isinstance aX (aa (pv 0) (aa (bz (aa (cP rfl T.int k_) (aa (cP rfl T.str kI) aj))) aj))) (c7 (bH bu (aG bC (by rfl) T.isinstance aX (aa (pv 0) (aa (cP rfl T.int k_) aj))) (aG bC (by rfl) T.isinstance aX (aa (pv 1) (aa (cP rfl T.int k_) aj))) (aN _)) (dw (bH bu (pv 0) (pv 1) (aN _))))))) aM)
 (aq
 (bc (PW.pt (gM (aL lA (aG bC (by rfl) T.isinstance aX (aa (pv 1) (aa (cP rfl T.list lU) aj))) (aG bC (by rfl) T.isinstance aX (aa (pv 0) (aa (cP rfl T.list lU) aj))) (aN _)) (fH (aL lA (aG bC (by rfl) T.isinstance aX (aa (pv 1) (aa (cP rfl T.tuple eV) aj))) (aG bC (by rfl) T.isinstance aX (aa (pv 0) (aa (cP rfl T.tuple eV) aj))) (aN _))))) (aA
 (aH eX)) aM)
 (aA
 (aH (c7 (bH bu (aG aV (by rfl) T.len bR (aa (pv 0) aj)) (aG aV (by rfl) T.len bR (aa (pv 1) aj)) (aN _)) (dw (aG (je rfl) (by rfl) T.all p_ (aa (gk (own:=["_law_k"]) (js:=[0,1]) (N':=["_law_k","_law_found","_law_due"]) (bN.of (osc:=aC (top 52)) (N:=["_law_found","_law_due"]) rfl rfl ⟨rfl,by decide +kernel,by decide +kernel,by decide +kernel,rfl,by decide +kernel⟩) rfl (eO rfl T.range (aa (aG aV (by rfl) T.len bR (aa (pv 1) aj)) aj)) (fun _ _ _ _ _=>(aR (i:=0) (show List.Nodup (["_law_k","_law_found","_law_due"]:List Str) by decide +kernel) rfl (Or.inl rfl) (Or.inr rfl))) (fun _ _ _ _ _=>dh) (fun _ _ _ _ _=>(aD GS hr rfl DS.mg DS.F.kp DS.b .nil aO (aa (a_ (r:=V6 K) xZ (pv 1) (pv 0) (fun _ _=>rfl)) (aa (a_ (r:=V6 K) xZ (pv 2) (pv 0) (fun _ _=>rfl)) aj))))) aj)))))))))),?_⟩
  have z2:2≤sizeLine:=by decide
  cases hx with
  | non=>
    cases hy
    refine ⟨_,rfl,rfl,_,rfl,cC rfl ?_⟩
    exact ⟨_,rfl,rfl,k _ (aB.refl _)⟩
  | bl b=>
    cases hy
    refine ⟨_,rfl,rfl,_,rfl,bQ rfl ?_⟩
    refine ⟨_,rfl,_,_,_,_,rfl,(.bl b),rfl,_,rfl,cC rfl (cC rfl ?_)⟩
    exact ⟨_,rfl,_,_,_,_,rfl,(.bl b),rfl,_,rfl,cC rfl ⟨_,rfl,_,_,_,_,rfl,(.bl b),rfl,_,rfl,cC rfl ⟨_,rfl,_,rfl,rfl,oZ (k _ (aB.refl _))⟩⟩⟩
  | int i=>
    cases hy
    refine ⟨_,rfl,rfl,_,rfl,bQ rfl ?_⟩
    refine ⟨_,rfl,_,_,_,_,rfl,(.int i),rfl,_,rfl,bQ rfl ?_⟩
    refine ⟨_,rfl,_,_,_,_,rfl,(.int i),rfl,_,rfl,bQ rfl ?_⟩
    refine ⟨_,rfl,z2,fun p hp=>⟨_,p,_,_,_,_,rfl,ak,.int i,rfl,_,rfl,cC rfl ?_⟩⟩
    refine ⟨_,rfl,z2,fun p2 hp2=>⟨_,p2,_,_,_,_,rfl,ak,.int i,rfl,_,rfl,cC rfl ?_⟩⟩
    refine ⟨_,rfl,_,_,_,_,rfl,.int i,rfl,_,rfl,_,_,_,_,rfl,.int i,rfl,rfl,_,rfl,?_⟩
    exact cC rfl ⟨_,rfl,_,rfl,rfl,oZ (k _ ((aB.new hp).trans (aB.new hp2)))⟩
  | str z=>
    cases hy
    refine ⟨_,rfl,rfl,_,rfl,bQ rfl ?_⟩
    refine ⟨_,rfl,_,_,_,_,rfl,(.str z),rfl,_,rfl,bQ rfl ?_⟩
    refine ⟨_,rfl,_,_,_,_,rfl,(.str z),rfl,_,rfl,bQ rfl ?_⟩
    refine ⟨_,rfl,z2,fun p hp=>⟨_,p,_,_,_,_,rfl,ak,.str z,rfl,_,rfl,cC rfl ?_⟩⟩
    refine ⟨_,rfl,z2,fun p2 hp2=>⟨_,p2,_,_,_,_,rfl,ak,.str z,rfl,_,rfl,cC rfl ?_⟩⟩
    refine ⟨_,rfl,_,_,_,_,rfl,.str z,rfl,_,rfl,_,_,_,_,rfl,.str z,rfl,rfl,_,rfl,?_⟩
    exact cC rfl ⟨_,rfl,_,rfl,rfl,oZ (k _ ((aB.new hp).trans (aB.new hp2)))⟩
  | tup g rs=>
    cases hy with
    | tup g2 rs2=>
      rename_i a1 xs1 ds a2 xs2
      refine ⟨_,rfl,rfl,_,rfl,bQ rfl ?_⟩
      refine ⟨_,rfl,_,_,_,_,rfl,(.tup g2 rs2),rfl,_,rfl,bQ rfl ?_⟩
      refine ⟨_,rfl,_,_,_,_,rfl,(.tup g rs),rfl,_,rfl,bQ rfl ?_⟩
      refine ⟨_,rfl,z2,fun p hp=>⟨_,p,_,_,_,_,rfl,ak,Rep.same (.tup g2 rs2) (aB.new hp),rfl,_,rfl,bQ rfl ?_⟩⟩
      have s1:aB H (upd H p (.tup [.ty "int",.ty "str"])):=aB.new hp
      refine ⟨_,rfl,_,_,_,_,rfl,(Rep.same (.tup g2 rs2) s1),rfl,_,rfl,_,_,_,_,rfl,(Rep.same (.tup g rs) s1),rfl,rfl,_,rfl,bQ rfl ?_⟩
      refine ⟨_,rfl,_,_,_,_,rfl,(Rep.same (.tup g2 rs2) s1),rfl,_,rfl,_,_,_,_,rfl,(Rep.same (.tup g rs) s1),rfl,rfl,_,rfl,bQ rfl ?_⟩
      refine ⟨_,rfl,_,_,rfl,.inr (s1.tup g),_,rfl,_,_,rfl,.inr (s1.tup g2),rfl,_,rfl,?_⟩
      have l1:=rs.length
      have l2:=rs2.length
      have hm':xs2.length≤100000:=by simp only [jN] at hm;omega
      have hl:xs1.length=xs2.length:=by omega
      generalize upd H p (.tup [.ty "int",.ty "str"])=H1 at s1 ⊢
      refine cC (by rw [hl];simp) ?_
      obtain ⟨n,rfl⟩:∃ n',n=n'+1:=⟨n-1,by simp only [cz] at hn;omega⟩
      refine ⟨_,rfl,_,_,rfl,.inr (s1.tup g2),_,rfl,by omega,by omega,?_⟩
      refine iu (n:=xs2.length) (fun i ys σ' H'=>∃ (v:Option V),ys=(List.replicate i true).map V.bl/\σ'=[v,some _,some _]/\aB H1 H') (by exact Nat.le_trans hm' (by decide)) ⟨none,rfl,rfl,aB.refl _⟩ ?_ ?_
      ·rintro i ys σ' H' hi hys ⟨v,rfl,rfl,s2⟩ N hN
       obtain ⟨d1,e1,r1⟩:=rs.get' (i:=i) (x:=xs1[i]) (List.getElem?_eq_getElem (by omega))
       obtain ⟨d2,e2,r2⟩:=rs2.get' (i:=i) (x:=xs2[i]) (List.getElem?_eq_getElem hi)
       rw [e1] at e2
       cases e2
       have m1:=List.mem_of_getElem? e1
       have q1:=iU m1
       have q2:=m_ m1
       have at1:pM xs1 (0+(i:Int))=some xs1[i]:=by rw [Int.zero_add];exact aJ (List.getElem?_eq_getElem (by omega))
       have at2:pM xs2 (0+(i:Int))=some xs2[i]:=by rw [Int.zero_add];exact aJ (List.getElem?_eq_getElem hi)
       refine ⟨_,rfl,_,rfl,.inr (.inl ⟨_,_,_,_,rfl,rfl,(s1.trans s2).tup g,at1,?_⟩)⟩
       refine ⟨_,rfl,_,rfl,.inr (.inl ⟨_,_,_,_,rfl,rfl,(s1.trans s2).tup g2,at2,?_⟩)⟩
       refine ⟨_,_,d1,rfl,r1.same (s1.trans s2),r2.same (s1.trans s2),?_,?_,fun H'' s3=>?_⟩
       ·simp only [cz] at hn;omega
       ·simp only [jN] at hm;omega
       exact hN _ _ _ (by simp) ⟨_,by rw [List.replicate_succ',List.map_append];rfl,rfl,s2.trans s3⟩
      ·rintro ys σ' H' hys ⟨v,rfl,rfl,s2⟩
       refine ⟨by rw [List.length_map,List.length_replicate];exact Nat.le_trans hm' (by decide),fun q hq=>⟨q,_,rfl,bJ.of ak,?_⟩⟩
       show Q (.bl ((List.replicate xs2.length true).all id)) _
       rw [show (List.replicate xs2.length true).all id=true by simp]
       exact k _ ((s1.trans s2).trans (aB.new hq))
  | lst g rs=>
    cases hy with
    | lst g2 rs2=>
      rename_i a1 xs1 ds a2 xs2
      refine ⟨_,rfl,rfl,_,rfl,bQ rfl ?_⟩
      refine ⟨_,rfl,_,_,_,_,rfl,(.lst g2 rs2),rfl,_,rfl,bQ rfl ?_⟩
      refine ⟨_,rfl,_,_,_,_,rfl,(.lst g rs),rfl,_,rfl,bQ rfl ?_⟩
      refine ⟨_,rfl,z2,fun p hp=>⟨_,p,_,_,_,_,rfl,ak,Rep.same (.lst g2 rs2) (aB.new hp),rfl,_,rfl,bQ rfl ?_⟩⟩
      have s1:aB H (upd H p (.tup [.ty "int",.ty "str"])):=aB.new hp
      refine ⟨_,rfl,_,_,_,_,rfl,(Rep.same (.lst g2 rs2) s1),rfl,_,rfl,_,_,_,_,rfl,(Rep.same (.lst g rs) s1),rfl,rfl,_,rfl,bQ rfl ?_⟩
      refine ⟨_,rfl,_,_,_,_,rfl,(Rep.same (.lst g2 rs2) s1),rfl,_,rfl,_,_,_,_,rfl,(Rep.same (.lst g rs) s1),rfl,rfl,_,rfl,bQ rfl ?_⟩
      refine ⟨_,rfl,_,_,rfl,.inl (s1.seq g),_,rfl,_,_,rfl,.inl (s1.seq g2),rfl,_,rfl,?_⟩
      have l1:=rs.length
      have l2:=rs2.length
      have hm':xs2.length≤100000:=by simp only [jN] at hm;omega
      have hl:xs1.length=xs2.length:=by omega
      generalize upd H p (.tup [.ty "int",.ty "str"])=H1 at s1 ⊢
      refine cC (by rw [hl];simp) ?_
      obtain ⟨n,rfl⟩:∃ n',n=n'+1:=⟨n-1,by simp only [cz] at hn;omega⟩
      refine ⟨_,rfl,_,_,rfl,.inl (s1.seq g2),_,rfl,by omega,by omega,?_⟩
      refine iu (n:=xs2.length) (fun i ys σ' H'=>∃ (v:Option V),ys=(List.replicate i true).map V.bl/\σ'=[v,some _,some _]/\aB H1 H') (by exact Nat.le_trans hm' (by decide)) ⟨none,rfl,rfl,aB.refl _⟩ ?_ ?_
      ·rintro i ys σ' H' hi hys ⟨v,rfl,rfl,s2⟩ N hN
       obtain ⟨d1,e1,r1⟩:=rs.get' (i:=i) (x:=xs1[i]) (List.getElem?_eq_getElem (by omega))
       obtain ⟨d2,e2,r2⟩:=rs2.get' (i:=i) (x:=xs2[i]) (List.getElem?_eq_getElem hi)
       rw [e1] at e2
       cases e2
       have m1:=List.mem_of_getElem? e1
       have q1:=iU m1
       have q2:=m_ m1
       have at1:pM xs1 (0+(i:Int))=some xs1[i]:=by rw [Int.zero_add];exact aJ (List.getElem?_eq_getElem (by omega))
       have at2:pM xs2 (0+(i:Int))=some xs2[i]:=by rw [Int.zero_add];exact aJ (List.getElem?_eq_getElem hi)
       refine ⟨_,rfl,_,rfl,.inl ⟨_,_,_,_,rfl,rfl,(s1.trans s2).seq g,at1,?_⟩⟩
       refine ⟨_,rfl,_,rfl,.inl ⟨_,_,_,_,rfl,rfl,(s1.trans s2).seq g2,at2,?_⟩⟩
       refine ⟨_,_,d1,rfl,r1.same (s1.trans s2),r2.same (s1.trans s2),?_,?_,fun H'' s3=>?_⟩
       ·simp only [cz] at hn;omega
       ·simp only [jN] at hm;omega
       exact hN _ _ _ (by simp) ⟨_,by rw [List.replicate_succ',List.map_append];rfl,rfl,s2.trans s3⟩
      ·rintro ys σ' H' hys ⟨v,rfl,rfl,s2⟩
       refine ⟨by rw [List.length_map,List.length_replicate];exact Nat.le_trans hm' (by decide),fun q hq=>⟨q,_,rfl,bJ.of ak,?_⟩⟩
       show Q (.bl ((List.replicate xs2.length true).all id)) _
       rw [show (List.replicate xs2.length true).all id=true by simp]
       exact k _ ((s1.trans s2).trans (aB.new hq))
def Lc (x:Str):Prop:=∀ c∈x.cps.toList,97≤c/\c≤122
structure Nm (x:Str):Prop where
 lo:1≤x.length
 hi:x.length≤8
 lc:Lc x
theorem Lc.app (a:Lc x) (b:Lc y):Lc (x++y):=fun c hc=>by
 rw [Str.cps_append,Array.toList_append,List.mem_append] at hc
 exact hc.elim (a c) (b c)
theorem mY (sep:Str) (hs:sep.cps.toList=[]):∀ ys:List Str,(Str.join sep ys).cps.toList=(ys.map (·.cps.toList)).flatten
 |[]=>rfl
 |[x]=>by show x.cps.toList=_;simp
 | x::y::r=>by
   show (x++sep++Str.join sep (y::r)).cps.toList=_
   rw [Str.cps_append,Array.toList_append,Str.cps_append,Array.toList_append,hs,List.append_nil,mY sep hs (y::r),List.map_cons (l:=y::r),List.flatten_cons]
theorem yW (sep:Str) (ys:List Str):PySem.Txt.join sep ys=Str.join sep ys:=by
 show PySem.Builtin.Str.glued sep ys=_
 rw [PySem.StrLaws.glued_eq_join]
theorem uY (x:Str):x.length=x.cps.toList.length:=by simp [Str.length]
section
variable {P:Program} {w:World} {K:PySem.W.Frag} {mg:Str->Option Value} {base:Heap}
def oW:Sp:=fun vs H Q _=>∃ (p dc:Addr),vs=[.ref p]/\Dr H p dc/\∀ (x:Str) (H':Hp),Nm x->Dr H' p dc->cL p H H'->Q (.str x) H'
theorem M6:aU ["_law_d","_law_letters","_law_first","_law_size","_law_some"] ["_law_d"] (aC (top 53)):=⟨rfl,rfl,rfl,by decide +kernel,rfl,by decide +kernel,by decide +kernel⟩
theorem tE (h:pM ("abcdefghijklmnopqrstuvwxyz" : Str).cps.toList i=some c):97≤c/\c≤122:=by
 have:c∈("abcdefghijklmnopqrstuvwxyz" : Str).cps.toList:=by
  unfold pM at h
  obtain ⟨j,_,e⟩:=Option.bind_eq_some_iff.mp h
  exact List.mem_of_getElem? e
 have all:∀ c∈("abcdefghijklmnopqrstuvwxyz" : Str).cps.toList,97≤c/\c≤122:=by decide +kernel
 exact all c this
theorem pD (F:fj K "_law_word" "_law_word" (top 53) f fd) (T:Txt K mg) (DP:cH K mg "_law_pick" (top 49) ["_law_d","_law_many"] fP fdP) (DO:cH K mg "_law_of" (top 50) ["_law_d","_law_things"] fO fdO) :
 aQ P w K mg base bL 3 f fd ["_law_d"] oW:=by
 have GP:aQ P w K mg base bL 1 fP fdP ["_law_d","_law_many"] gR:=fZ DP.F T
 have GO:aQ P w K mg base bL 2 fO fdO ["_law_d","_law_things"] (rQ K):=oA DO.F T DP
 refine F.ok M6 (fun vs H Q E h=>?_) (fun cdv A outer s H vs Q E hr h=>?_)
 ·obtain ⟨p,dc,rfl,_⟩:=h
  rfl
 ·obtain ⟨p,dc,rfl,D,k⟩:=h
  have hr1:bK 1 _:=hr.mono (by decide)
  refine ⟨_,(aq
 (bj (i:=1) M6.nd rfl (Or.inr rfl) aF)
 (aq
 (bj (i:=2) M6.nd rfl (Or.inl rfl) (aD GO hr rfl DO.mg DO.F.kp DO.b .nil aO (aa (pv 0) (aa (bY (aa aF (aa aF (aa aF (aa aF (aa aF aj)))))) aj))))
 (aq
 (bj (i:=3) M6.nd rfl (Or.inl rfl) (bh cX au (aD GP hr1 rfl DP.mg DP.F.kp DP.b .nil aO (aa (pv 0) (aa (bh e_ au (aG iz (by rfl) T.len bR (aa (pv 2) aj))) aj)))))
 (aq
 (bj (i:=4) M6.nd rfl (Or.inl rfl) (jw PySem.F.plainAttrs_str PySem.F.slot_str_join PySem.F.type_str_join Bg aF (aa (gk (own:=["_law_k"]) (js:=[1,0]) (N':=["_law_k","_law_letters","_law_d"]) (bN.of (osc:=aC (top 53)) (N:=["_law_d","_law_letters","_law_first","_law_size","_law_some"]) rfl rfl ⟨rfl,by decide +kernel,by decide +kernel,by decide +kernel,rfl,by decide +kernel⟩) rfl (eO rfl T.range (aa (pv 3) aj)) (fun _ _ _ _ _=>(aR (i:=0) (show List.Nodup (["_law_k","_law_letters","_law_d"]:List Str) by decide +kernel) rfl (Or.inl rfl) (Or.inr rfl))) (fun _ _ _ _ _=>dh) (fun _ _ _ _ _=>(a_ (r:=HS) p6 (pv 1) (aD GP hr1 rfl DP.mg DP.F.kp DP.b .nil aO (aa (pv 2) (aa au aj))) (fun _ _=>rfl)))) aj)))
 (aA
 (aH (a_ cR (bY (aa (bh cW (pv 2) (pv 4)) (aa (bh cW (pv 4) (pv 2)) aj))) (aD GP hr1 rfl DP.mg DP.F.kp DP.b .nil aO (aa (pv 0) (aa au aj))) (fun _ _=>rfl)))))))),?_⟩
  refine ⟨_,rfl,(show 5≤sizeLine by decide),fun q hq=>?_⟩
  refine ⟨p,dc,q,_,rfl,D.new hq,bJ.of ak,by simp,by simp,fun x H1 hx D1 b1=>?_⟩
  obtain ⟨z,rfl,hz,lz⟩:∃ z:Str,x=.str z/\z.length≤7/\Lc z:=by
   simp only [List.mem_cons,List.not_mem_nil,or_false] at hx
   rcases hx with rfl|rfl|rfl|rfl|rfl
   all_goals exact ⟨_,rfl,by decide +kernel,by unfold Lc;decide +kernel⟩
  refine ⟨_,rfl,_,rfl,z,rfl,Nat.le_trans hz (by decide),_,_,rfl,rfl,p,dc,_,rfl,D1,by omega,by omega,fun r H2 r0 r1 D2 b2=>?_⟩
  refine ⟨_,_,rfl,rfl,?_⟩
  refine ⟨rfl,_,rfl,_,rfl,by omega,by omega,?_⟩
  refine iu (n:=(1+r).toNat) (fun i ys σ' H'=>∃ (cs:List Str) (v:Option V),ys=cs.map V.str/\σ'=[v,some (.str "abcdefghijklmnopqrstuvwxyz"),some (.ref p)]/\Dr H' p dc/\cL p H2 H'/\∀ c∈cs,c.length=1/\Lc c) (Nat.le_trans (show (1+r).toNat≤8 by omega) (by decide)) ⟨[],none,rfl,rfl,D2,cL.refl,fun _ h=>nomatch h⟩ ?_ ?_
  ·rintro i ys σ' H' hi hys ⟨cs,v,rfl,rfl,D3,b3,hc⟩ N hN
   refine ⟨_,rfl,_,rfl,p,dc,_,rfl,D3,by decide,by decide,fun r' H4 r0' r1' D4 b4=>?_⟩
   obtain ⟨j,rfl⟩:=Int.eq_ofNat_of_zero_le r0'
   obtain ⟨c,hcj⟩:∃ c,("abcdefghijklmnopqrstuvwxyz" : Str).cps.toList[j]?=some c:=⟨_,List.getElem?_eq_getElem (by show j<26;omega)⟩
   have hat:pM ("abcdefghijklmnopqrstuvwxyz" : Str).cps.toList (j:Int)=some c:=aJ hcj
   refine ⟨_,_,c,rfl,rfl,(show 26≤sizeLine by decide),hat,?_⟩
   refine hN _ _ _ (by simpa using hys) ⟨cs++[⟨#[c]⟩],_,by simp,rfl,D4,b3.trans b4,fun c' hc'=>?_⟩
   rcases List.mem_append.mp hc' with hc'|hc'
   ·exact hc c' hc'
   ·obtain rfl:c'=⟨#[c]⟩:=by simpa using hc'
    refine ⟨rfl,fun x hx=>?_⟩
    obtain rfl:x=c:=by simpa using hx
    exact tE hat
  ·rintro ys σ' H' hys ⟨cs,v,rfl,rfl,D3,b3,hc⟩
   rw [List.length_map] at hys
   refine ⟨by rw [List.length_map,hys];exact Nat.le_trans (show (1+r).toNat≤8 by omega) (by decide),fun q2 hq2=>?_⟩
   have hsum:(cs.map (·.length)).sum=cs.length:=by
    clear hys
    induction cs with
    |nil=>rfl
    |cons c t ih=>rw [List.map_cons,List.sum_cons,ih fun d hd=>hc d (List.mem_cons_of_mem _ hd),(hc c List.mem_cons_self).1,List.length_cons,Nat.add_comm]
   refine ⟨_,q2,cs,rfl,rfl,bJ.of ak,by rw [hsum,show (Str.ofString "").length=0 from rfl];omega,?_⟩
   rw [yW]
   have jl:(Str.join (Str.ofString "") cs).length=cs.length:=by
    rw [uY,mY _ rfl,List.length_flatten,List.map_map,← hsum]
    congr 1
   have jc:Lc (Str.join (Str.ofString "") cs):=fun x hx=>by
    rw [mY _ rfl] at hx
    obtain ⟨l,hl,hxl⟩:=List.mem_flatten.mp hx
    obtain ⟨c,hcm,rfl⟩:=List.mem_map.mp hl
    exact (hc c hcm).2 x hxl
   generalize Str.join (Str.ofString "") cs=js at jl jc
   have hj8:js.length+z.length≤8/\1≤js.length:=by omega
   refine ⟨_,rfl,_,rfl,_,_,rfl,rfl,Nat.le_trans (show z.length+js.length≤8 by omega) (by decide),_,rfl,_,rfl,_,_,rfl,rfl,Nat.le_trans (show js.length+z.length≤8 by omega) (by decide),(show 2≤sizeLine by decide),fun q3 hq3=>?_⟩
   have D4:Dr _ p dc:=(D3.new (o:=.lst (cs.map V.str)) hq2).new (o:=.lst [.str (z++js),.str (js++z)]) hq3
   refine ⟨_,rfl,p,dc,_,rfl,D4,by decide,by decide,fun r' H5 r0' r1' D5 b5=>?_⟩
   have nm1:Nm (z++js):=⟨by rw [Str.length_append];omega,by rw [Str.length_append];omega,lz.app jc⟩
   have nm2:Nm (js++z):=⟨by rw [Str.length_append];omega,by rw [Str.length_append];omega,jc.app lz⟩
   have bt:cL p H H5:=((((cL.new hq).trans b1).trans b2).trans b3).trans (((cL.new hq2).trans (cL.new hq3)).trans b5)
   have hq5:bJ K H5 q3 [.str (z++js),.str (js++z)]:=D4.seq b5 (bJ.of ak)
   by_cases h0:r'=0
   ·subst h0
    exact ⟨_,_,_,_,rfl,rfl,hq5,rfl,k _ _ nm1 D5 bt⟩
   ·obtain rfl:r'=1:=by omega
    exact ⟨_,_,_,_,rfl,rfl,hq5,rfl,k _ _ nm2 D5 bt⟩
def ut (K:PySem.W.Frag):Sp:=fun vs H Q _=>∃ (p dc:Addr) (m:Int),vs=[.ref p,.int m]/\Dr H p dc/\0≤m/\m≤60/\∀ (q:Addr) (ys:List Str) (H':Hp),H' q=some (.lst (ys.map V.str))->H q=none->(ys.length:Int)=m->(∀ y∈ys,Nm y)->ys.Nodup->Dr H' p dc->cL p H H'->Q (.ref q) H'
theorem vO:aU ["_law_d","_law_many","_law_found","_law_k","_law_word_here","_law_step"] ["_law_d","_law_many"] (aC (top 54)):=⟨rfl,rfl,rfl,by decide +kernel,rfl,by decide +kernel,by decide +kernel⟩
def wd (t:Nat):Str:=⟨#[97+t % 8,113+t / 8 % 8]⟩
theorem Lz (t:Nat):Nm (wd t):=⟨by show 1≤2;decide,by show 2≤8;decide,fun c hc=>by
 have:c=97+t % 8∨c=113+t / 8 % 8:=by simpa [wd] using hc
 omega⟩
theorem HQ (h:wd (k+s)=wd (k+s')) (h1:s<64) (h2:s'<64):s=s':=by
 have e:(#[97+(k+s) % 8,113+(k+s) / 8 % 8]:Array Nat)=#[97+(k+s') % 8,113+(k+s') / 8 % 8]:=congrArg Str.cps h
 have e1:97+(k+s) % 8=97+(k+s') % 8/\113+(k+s) / 8 % 8=113+(k+s') / 8 % 8:=by simpa using congrArg Array.toList e
 omega
theorem sub_len {α:Type} [DecidableEq α]:∀ {l ys:List α},l.Nodup->(∀ x∈l,x∈ys)->l.length≤ys.length
 |[],_,_,_=>Nat.zero_le _
 | a::l,ys,nd,hs=>by
   obtain ⟨n1,n2⟩:=List.nodup_cons.mp nd
   have ha:=hs a List.mem_cons_self
   have q:=sub_len (ys:=ys.erase a) n2 fun x hx=>(List.mem_erase_of_ne (by intro z;exact n1 (z ▸ hx))).mpr (hs x (List.mem_cons_of_mem _ hx))
   rw [List.length_erase_of_mem ha] at q
   have:=List.length_pos_of_mem ha
   rw [List.length_cons];omega
theorem xG {α β:Type} {f:α->β}:∀ {l:List α},l.Nodup->(∀ a∈l,∀ b∈l,f a=f b->a=b)->(l.map f).Nodup
 |[],_,_=>List.nodup_nil
 | a::l,nd,h=>by
   obtain ⟨n1,n2⟩:=List.nodup_cons.mp nd
   rw [List.map_cons]
   refine List.nodup_cons.mpr ⟨fun m=>?_,xG n2 fun x hx y hy=>h x (List.mem_cons_of_mem _ hx) y (List.mem_cons_of_mem _ hy)⟩
   obtain ⟨b,hb,e⟩:=List.mem_map.mp m
   exact n1 (h b (List.mem_cons_of_mem _ hb) a List.mem_cons_self e ▸ hb)
theorem FW {ys:List Str} (hl:ys.length<64) (h:∀ s,s<64->wd (k+s)∈ys):False:=by
 have nd:((List.range 64).map fun s=>wd (k+s)).Nodup:=xG List.nodup_range fun a ha b hb e=>HQ e (List.mem_range.mp ha) (List.mem_range.mp hb)
 have q:=sub_len nd fun x hx=>by
  obtain ⟨s,hs,rfl⟩:=List.mem_map.mp hx
  exact h s (List.mem_range.mp hs)
 rw [List.length_map,List.length_range] at q
 omega
theorem yI (F:fj K "_law_words" "_law_words" (top 54) f fd) (T:Txt K mg) (DP:cH K mg "_law_pick" (top 49) ["_law_d","_law_many"] fP fdP) (DO:cH K mg "_law_of" (top 50) ["_law_d","_law_things"] fO fdO)
 (DW:cH K mg "_law_word" (top 53) ["_law_d"] fW fdW):aQ P w K mg base bL 4 f fd ["_law_d","_law_many"] (ut K):=by
 have GW:aQ P w K mg base bL 3 fW fdW ["_law_d"] oW:=pD DW.F T DP DO
 refine F.ok vO (fun vs H Q E h=>?_) (fun cdv A outer s H vs Q E hr h=>?_)
 ·obtain ⟨p,dc,m,rfl,_⟩:=h
  rfl
 ·obtain ⟨p,dc,m,rfl,D,m0,m1,k⟩:=h
  refine ⟨_,(aq
 (bj (i:=2) vO.nd rfl (Or.inl rfl) (bY aj))
 (aq
 (dM PassesOwn.never rfl (eO rfl T.range (aa (pv 1) aj)) (aR (i:=3) vO.nd rfl (Or.inl rfl)) (aq
 (bj (i:=4) vO.nd rfl (Or.inl rfl) (aD GW hr rfl DW.mg DW.F.kp DW.b .nil aO (aa (pv 0) aj)))
 (aq
 (dM PassesOwn.never rfl (eO rfl T.range (aa au aj)) (aR (i:=5) vO.nd rfl (Or.inl rfl)) (aA
 (bc (aL dX (pv 4) (pv 2) rfl) (aA
 (bj (i:=4) vO.nd rfl (Or.inl rfl) (bh cW (a_ p6 aF (bh gU (bh cX (pv 3) (pv 5)) au) (fun _ _=>rfl)) (a_ p6 aF (bh gU (bh uw (bh cX (pv 3) (pv 5)) au) au) (fun _ _=>rfl))))) aM)))
 (aA
 (cZ (jw PySem.F.plainAttrs_list PySem.F.slot_list_append PySem.F.type_list_append ir (pv 2) (aa (pv 4) aj)))))))
 (aA
 (aH (pv 2))))),?_⟩
  refine ⟨(show 0≤sizeLine by decide),fun q hq=>?_⟩
  refine ⟨_,rfl,m,rfl,by omega,by omega,?_⟩
  refine jj (n:=m.toNat) (fun i σ H1=>∃ (ys:List Str) (a b c:Option V),σ=[some (.ref p),some (.int m),some (.ref q),a,b,c]/\H1 q=some (.lst (ys.map V.str))/\ys.length=i/\(∀ y∈ys,Nm y)/\ys.Nodup/\Dr H1 p dc/\cL p H H1)
   ⟨[],none,none,none,rfl,ak,rfl,(fun _ h=>by cases h),List.nodup_nil,D.new hq,cL.new hq⟩ ?_ ?_
  ·rintro i σ H1 hi ⟨ys,a,b,c,rfl,e1,hl,hy,nd,D1,b1⟩
   refine ⟨_,rfl,p,dc,rfl,D1,fun x H2 nx D2 b2=>?_⟩
   have e2:H2 q=some (.lst (ys.map V.str)):=b2 q _ e1 (D1.ne e1 (by intro kvs z;cases z))
   refine ⟨_,rfl,by decide,by decide,?_⟩
   refine jj (n:=64) (fun j σ H3=>∃ (z:Str) (c:Option V),σ=[some (.ref p),some (.int m),some (.ref q),some (.int (0+(i:Int))),some (.str z),c]/\Nm z/\H3=H2/\(z∉ys∨∀ s,s<j->wd (i+s)∈ys)) ⟨x,_,rfl,nx,rfl,.inr fun s hs=>absurd hs (Nat.not_lt_zero _)⟩ ?_ ?_
   ·rintro j σ H3 hj ⟨z,c,rfl,nz,rfl,hz⟩
    refine ⟨_,rfl,_,rfl,q,_,rfl,.inl (bJ.of e2),rfl,?_,_,rfl,?_⟩
    ·rw [List.all_eq_true]
     intro v hv
     obtain ⟨y,_,rfl⟩:=List.mem_map.mp hv
     rfl
    ·have hin:inV (.str z) (ys.map V.str)=true↔z∈ys:=by
      unfold inV
      rw [List.any_map,List.any_eq_true]
      constructor
      ·rintro ⟨y,hy1,hy2⟩
       have:y=z:=by simpa [rG] using hy2
       exact this ▸ hy1
      ·intro hz'
       exact ⟨z,hz',by simp [rG]⟩
     refine f9 (fun hc=>?_) (fun hc=>⟨z,_,rfl,nz,rfl,.inl fun hz'=>hc (hin.mpr hz')⟩)
     have hz1:=hin.mp hc
     have hz2:∀ s,s<j->wd (i+s)∈ys:=hz.elim (fun n=>absurd hz1 n) id
     have u1:(0+(i:Int)+(0+(j:Int))) % 8=(((i+j) % 8:Nat):Int):=by omega
     have u2:(0+(i:Int)+(0+(j:Int))) / 8 % 8=(((i+j) / 8 % 8:Nat):Int):=by omega
     have h1:("abcdefgh" : Str).cps.toList[(i+j) % 8]?=some (97+(i+j) % 8):=by
      have:=Nat.mod_lt (i+j) (show 0<8 by decide)
      generalize (i+j) % 8=m8 at this
      revert m8;decide +kernel
     have h2:("qrstuvwx" : Str).cps.toList[(i+j) / 8 % 8]?=some (113+(i+j) / 8 % 8):=by
      have:=Nat.mod_lt ((i+j) / 8) (show 0<8 by decide)
      generalize (i+j) / 8 % 8=m8 at this
      revert m8;decide +kernel
     refine ⟨_,rfl,_,rfl,_,_,rfl,rfl,_,_,rfl,rfl,(by show (0:Int)<8;decide),_,_,_,rfl,rfl,(show 8≤sizeLine by decide),(by rw [u1];exact aJ h1),?_⟩
     refine ⟨_,rfl,_,rfl,_,_,rfl,rfl,_,_,rfl,rfl,⟨by decide,by decide⟩,_,_,rfl,rfl,(by show (0:Int)<8;decide),_,_,_,rfl,rfl,(show 8≤sizeLine by decide),(by rw [u2];exact aJ h2),?_⟩
     refine ⟨_,_,rfl,rfl,(show 1+1≤sizeLine by decide),wd (i+j),_,rfl,Lz _,rfl,?_⟩
     by_cases hw:wd (i+j)∈ys
     ·refine .inr fun s hs=>?_
      by_cases hsj:s=j
      ·rw [hsj];exact hw
      ·exact hz2 s (by omega)
     ·exact .inl hw
   ·rintro σ H3 ⟨z,c,rfl,nz,rfl,hz⟩
    have znew:z∉ys:=hz.elim id fun h=>(FW (by omega) h).elim
    refine ⟨_,rfl,.inl ⟨rfl,_,bJ.of e2⟩,_,rfl,q,_,_,rfl,rfl,e2,by rw [List.length_map];exact gr (by omega),?_⟩
    have nqc:q≠dc:=by
     obtain ⟨xs,e⟩:=D.cell
     exact (aP e hq).symm
    have nqp:q≠p:=D2.ne e2 (by intro kvs z;cases z)
    refine ⟨ys++[z],_,_,_,rfl,by rw [ak];simp,by simp [hl],fun y hy'=>(List.mem_append.mp hy').elim (hy y) (fun h=>by rw [List.mem_singleton.mp h];exact nz),uJ nd znew,D2.put nqp nqc,fun b o e hb=>?_⟩
    rw [aK (aP e hq)]
    exact (b1.trans b2) b o e hb
  ·rintro σ H1 ⟨ys,a,b,c,rfl,e1,hl,hy,nd,D1,b1⟩
   exact ⟨_,rfl,k q ys H1 e1 hq (by omega) hy nd D1 b1⟩
end
abbrev jJ:=Str×Int×Int
structure qD (f:jJ):Prop where
 nm:Nm f.1
 lo:-999999≤f.2.1
 le:f.2.1≤f.2.2
 hi:f.2.2≤999999
def TK (H H':Hp):Prop:=∀ b xs,H b=some (.tup xs)->H' b=some (.tup xs)
theorem TK.trans (a:TK H H1) (b:TK H1 H2):TK H H2:=fun c xs h=>b c xs (a c xs h)
theorem TK.but (d:Dr H p dc) (b:cL p H H'):TK H H':=fun c xs h=>b c _ h (d.ne h (by intro kvs z;cases z))
theorem TK.lst (h:H q=some (.lst xs)):TK H (upd H q o):=fun c ys e=>by rw [aK (fK e h (by intro z;cases z))];exact e
theorem TK.new (h:H q=none):TK H (upd H q o):=fun c ys e=>by rw [aK (aP e h)];exact e
def gF (H:Hp) (x:V) (f:jJ):Prop:=∃ b,x=.ref b/\H b=some (.tup [.str f.1,.int f.2.1,.int f.2.2])
theorem gF.tk (h:gF H x f) (k:TK H H'):gF H' x f:=let ⟨b,e,q⟩:=h;⟨b,e,k _ _ q⟩
theorem dC:∀ {xs:List V} {fs:List jJ},Paired (gF H) xs fs->TK H H'->Paired (gF H') xs fs
 |_,_,.nil,_=>.nil
 |_,_,.cons r t,k=>.cons (r.tk k) (dC t k)
theorem uni:∀ c<128,Unicode.isAlpha c=(decide (65≤c/\c≤90) || decide (97≤c/\c≤122))/\Unicode.isLower c=decide (97≤c/\c≤122)/\Unicode.isUpper c=decide (65≤c/\c≤90)/\Unicode.isTitle c=false:=by decide +kernel
def nameB (x:Str):Bool:=decide (x.length≤8) && (x.cps.all (·<128) && ((x.length > 0 && x.cps.all Unicode.isAlpha) && (x.cps.any Unicode.isLower && !x.cps.any fun c=>Unicode.isUpper c || Unicode.isTitle c)))
theorem gq (x:Str):nameB x=true↔Nm x:=by
 unfold nameB
 simp only [Bool.and_eq_true,decide_eq_true_eq,Bool.not_eq_true',← Array.all_toList,← Array.any_toList,List.all_eq_true,List.any_eq_true,List.any_eq_false]
 constructor
 ·rintro ⟨h8,ha,⟨h0,hal⟩,⟨c0,hc0,hl0⟩,hu⟩
  refine ⟨h0,h8,fun c hc=>?_⟩
  have c1:c<128:=ha c hc
  obtain ⟨u1,u2,u3,u4⟩:=uni c c1
  have a1:=hal c hc
  have a2:=hu c hc
  rw [u1] at a1
  rw [u3,u4] at a2
  simp at a1 a2
  omega
 ·rintro ⟨h0,h8,lc⟩
  have cc:∀ c∈x.cps.toList,c<128/\97≤c/\c≤122:=fun c hc=>⟨by have:=lc c hc;omega,lc c hc⟩
  refine ⟨h8,fun c hc=>(cc c hc).1,⟨h0,fun c hc=>?_⟩,?_,fun c hc=>?_⟩
  ·rw [(uni c (cc c hc).1).1];simp [(cc c hc).2]
  ·rw [uY] at h0
   obtain ⟨c,hc⟩:=List.exists_mem_of_length_pos (show 0<x.cps.toList.length by omega)
   exact ⟨c,hc,by rw [(uni c (cc c hc).1).2.1];simp [(cc c hc).2]⟩
  ·rw [(uni c (cc c hc).1).2.2.1,(uni c (cc c hc).1).2.2.2]
   have:=(cc c hc).2
   simp;omega
structure ph (mg:Str->Option Value):Prop where
 ml:∃ t,mg "MOST_LETTERS" = some (.int 8 t)
 mf:∃ t,mg "MOST_FIELDS" = some (.int 4 t)
 lim:∃ t,mg "LIMIT" = some (.int 999999 t)
def mG:Sp:=fun vs H Q _=>∃ x:Str,vs=[.str x]/\x.length≤sizeLine/\Q (.bl (nameB x)) H
theorem Te:aU ["text"] ["text"] (aC (top 15)):=⟨rfl,rfl,rfl,by decide +kernel,rfl,by decide +kernel,by decide +kernel⟩
theorem nO (F:fj K "is_name" "is_name" (top 15) f fd) (T:Txt K mg) (TK:ph mg):aQ P w K mg base bL 1 f fd ["text"] mG:=by
 refine F.ok Te (fun vs H Q E h=>?_) (fun cdv A outer s H vs Q E hr h=>?_)
 ·obtain ⟨x,rfl,_⟩:=h
  rfl
 ·obtain ⟨x,rfl,hl,k⟩:=h
  obtain ⟨t8,m8⟩:=TK.ml
  refine ⟨_,(aA
 (aH (c7 (bH fJ (aG iz (by rfl) T.len bR (aa (pv 0) aj)) (bW (v:=.int 8) rfl m8 ⟨_,rfl⟩) (aN _)) (c7 (sJ PySem.F.plainAttrs_str PySem.F.slot_str_isascii PySem.F.type_str_isascii tK (pv 0)) (c7 (sJ PySem.F.plainAttrs_str PySem.F.slot_str_isalpha PySem.F.type_str_isalpha rJ (pv 0)) (dw (sJ PySem.F.plainAttrs_str PySem.F.slot_str_islower PySem.F.type_str_islower sY (pv 0)))))))),?_⟩
  refine ⟨_,rfl,x,rfl,hl,_,_,rfl,rfl,_,rfl,?_⟩
  unfold nameB at k
  by_cases h8:x.length≤8
  ·refine cC (by simp;omega) ⟨_,rfl,rfl,x,rfl,rfl,_,rfl,?_⟩
   rw [decide_eq_true h8,Bool.true_and] at k
   cases h1:x.cps.all (·<128) with
   |false=>rw [h1] at k;exact bQ h1 k
   | true=>
     rw [h1,Bool.true_and] at k
     refine cC h1 ⟨_,rfl,rfl,x,rfl,rfl,_,rfl,?_⟩
     cases h2:(x.length > 0 && x.cps.all Unicode.isAlpha) with
     |false=>rw [h2] at k;exact bQ h2 k
     | true=>
       rw [h2,Bool.true_and] at k
       exact cC h2 ⟨_,rfl,rfl,x,rfl,rfl,k⟩
  ·refine bQ (by simp;omega) ?_
   rw [decide_eq_false h8,Bool.false_and] at k
   exact k
def jE:Sp:=fun vs H Q _=>∃ x:Str,vs=[.str x]/\Nm x/\Q .non H
theorem Ux:aU ["text"] ["text"] (aC (top 16)):=⟨rfl,rfl,rfl,by decide +kernel,rfl,by decide +kernel,by decide +kernel⟩
theorem lC (F:fj K "need_name" "need_name" (top 16) f fd) (T:Txt K mg) (TK:ph mg) (DI:cH K mg "is_name" (top 15) ["text"] fI fdI):aQ P w K mg base bL 2 f fd ["text"] jE:=by
 have GI:aQ P w K mg base bL 1 fI fdI ["text"] mG:=nO DI.F T TK
 refine F.ok Ux (fun vs H Q E h=>?_) (fun cdv A outer s H vs Q E hr h=>?_)
 ·obtain ⟨x,rfl,_⟩:=h
  rfl
 ·obtain ⟨x,rfl,nm,k⟩:=h
  refine ⟨_,(aA (bc (du (cD (aD GI hr rfl DI.mg DI.F.kp DI.b .nil aO (aa (pv 0) aj)))) (aA dJ) aM)),?_⟩
  refine ⟨_,rfl,x,rfl,Nat.le_trans nm.hi (by decide),_,rfl,?_⟩
  rw [(gq x).mpr nm]
  exact bQ rfl k
def jZ:Sp:=fun vs H Q _=>∃ (a:Addr) (xs:List V) (fs:List jJ),vs=[.ref a]/\H a=some (.tup xs)/\Paired (gF H) xs fs/\fs.length≤60/\(∀ f∈fs,qD f)/\(fs.map (·.1)).Nodup/\∀ H',aB H H'->Q .non H'
theorem cN {α β:Type} {F:α->β->Prop}:∀ {xs:List α} {ys:List β} {i:Nat} {x:α},Paired F xs ys->xs[i]?=some x->∃ y,ys[i]?=some y/\F x y
 |_,_,_,_,.nil,e=>by simp at e
 |_,_,0,_,.cons r _,e=>by simp at e;subst e;exact ⟨_,rfl,r⟩
 | _,_,i+1,x,.cons _ t,e=>by
   obtain ⟨y,h1,h2⟩:=cN (i:=i) (x:=x) t (by simpa using e)
   exact ⟨y,by simpa using h1,h2⟩
theorem z8:aU ["fields","seen","name","low","high"] ["fields"] (aC (top 17)):=⟨rfl,rfl,rfl,by decide +kernel,rfl,by decide +kernel,by decide +kernel⟩
theorem ni (F:fj K "need_fields" "need_fields" (top 17) f fd) (T:Txt K mg) (TK':ph mg) (DI:cH K mg "is_name" (top 15) ["text"] fI fdI) (DN:cH K mg "need_name" (top 16) ["text"] fN fdN):aQ P w K mg base bL 3 f fd ["fields"] jZ:=by
 have GN:aQ P w K mg base bL 2 fN fdN ["text"] jE:=lC DN.F T TK' DI
 refine F.ok z8 (fun vs H Q E h=>?_) (fun cdv A outer s H vs Q E hr h=>?_)
 ·obtain ⟨a,xs,fs,rfl,_⟩:=h
  rfl
 ·obtain ⟨a,xs,fs,rfl,ha,pf,hl,hf,nd,k⟩:=h
  obtain ⟨tl,ml⟩:=TK'.lim
  refine ⟨_,(aq
 (bj (i:=1) z8.nd rfl (Or.inl rfl) (bY aj))
 (aA
 (dM PassesOwn.never rfl (iw (pv 0)) (dH rfl (aY (aR (i:=2) z8.nd rfl (Or.inl rfl)) (aY (aR (i:=3) z8.nd rfl (Or.inl rfl)) (aY (aR (i:=4) z8.nd rfl (Or.inl rfl)) cO))))
  (aq (cZ (aD GN hr rfl DN.mg DN.F.kp DN.b .nil aO (aa (pv 2) aj)))
  (aq (bc (aL dX (pv 2) (pv 1) rfl) (aA dJ) aM)
  (aq (bc (du (wu fJ fJ fJ (iV gD (bW (v:=.int 999999) rfl ml ⟨_,rfl⟩)) (pv 3) (pv 4) (bW (v:=.int 999999) rfl ml ⟨_,rfl⟩))) (aA dJ) aM)
  (aA (cZ (jw PySem.F.plainAttrs_list PySem.F.slot_list_append PySem.F.type_list_append ir (pv 1) (aa (pv 2) aj)))))))))),?_⟩
  refine ⟨(show 0≤sizeLine by decide),fun q hq=>?_⟩
  have pl:=Paired.length pf
  have ha':∀ {H':Hp},aB H H'->H' a=some (.tup xs):=fun e=>e _ _ ha
  refine ⟨_,rfl,a,rfl,⟨_,bB.of (ha' (aB.new hq))⟩,lN (K:=K) (a:=a) (xs:=xs) (fun i σ H1=>∃ (b c d:Option V),σ=[some (.ref a),some (.ref q),b,c,d]/\H1 q=some (.lst (((fs.map (·.1)).take i).map V.str))/\aB H H1)
   ⟨none,none,none,rfl,by rw [ak];simp,aB.new hq⟩ (fun i σ H1 _ ⟨_,_,_,_,_,e⟩=>bB.of (ha' e)) ?_ ?_⟩
  ·rintro i x σ H1 hi ⟨b,c,d,rfl,e1,s1⟩
   obtain ⟨⟨n,lo,hi'⟩,hfi,b',rfl,hb⟩:=cN pf hi
   have fo:=hf _ (List.mem_of_getElem? hfi)
   have hil:i<fs.length:=(List.getElem?_eq_some_iff.mp hfi).1
   refine ⟨b',_,rfl,bB.of (s1 _ _ hb),rfl,_,_,rfl,_,_,rfl,_,_,rfl,rfl,?_⟩
   refine ⟨_,rfl,n,rfl,fo.nm,?_⟩
   have hnot:n∉(fs.map (·.1)).take i:=by
    intro hm
    have h1:(fs.map (·.1))[i]?=some n:=by rw [List.getElem?_map,hfi];rfl
    obtain ⟨j,hj,e⟩:=List.getElem_of_mem hm
    rw [List.length_take] at hj
    rw [List.getElem_take] at e
    have h2:(fs.map (·.1))[j]?=some n:=by rw [List.getElem?_eq_getElem (by omega),e]
    have:=jR nd h1 h2
    omega
   refine ⟨_,rfl,_,rfl,q,_,rfl,.inl (bJ.of e1),rfl,?_,_,rfl,?_⟩
   ·rw [List.all_eq_true]
    intro v hv
    obtain ⟨y,_,rfl⟩:=List.mem_map.mp hv
    rfl
   refine bQ ?_ ?_
   ·show inV (.str n) _=false
    unfold inV
    rw [List.any_map,List.any_eq_false]
    intro y hy hy2
    have:y=n:=by simpa [rG] using hy2
    exact hnot (this ▸ hy)
   have f1:=fo.lo
   have f2:=fo.le
   have f3:=fo.hi
   refine ⟨_,rfl,_,rfl,_,_,rfl,rfl,_,rfl,cC (by simpa using f1) ?_⟩
   refine ⟨_,rfl,_,_,rfl,rfl,_,rfl,cC (by simpa using f2) ?_⟩
   refine ⟨_,_,rfl,rfl,_,rfl,bQ (by simpa using f3) ?_⟩
   have lt:((fs.map (·.1)).take i).length≤60:=by rw [List.length_take,List.length_map];omega
   refine ⟨_,rfl,.inl ⟨rfl,_,bJ.of e1⟩,_,rfl,q,_,_,rfl,rfl,e1,by rw [List.length_map];exact gr (by omega),?_⟩
   refine ⟨_,_,_,rfl,?_,fun c o e=>by rw [aK (aP e hq)];exact s1 c o e⟩
   rw [ak,List.take_add_one,List.getElem?_map,hfi]
   simp
  ·rintro σ H1 ⟨b,c,d,rfl,e1,s1⟩
   exact k H1 s1
structure kh (K:PySem.W.Frag) (x qual:Str) (st:Stmt) (dV:Value) (f:Addr) (fd:FuncData):Prop where
 ex:∃ (oc:Value) (od:Option Addr) (kV doc pm:Value) (an:Option Addr) (cdv ct:Value) (osl:Array (Option Value)),
  fd=PySem.W.fnOf x qual (d9 st) (cg st) (aC st) dV kV doc pm an cdv ct/\K.lookup f=some ⟨oc,od,.func fd,osl⟩/\PySem.W.codeIn K cdv qual=true
 kp:PySem.W.keepIn K (.ref f)=true
section
variable {P:Program} {w:World} {K:PySem.W.Frag} {mg:Str->Option Value} {base:Heap}
theorem kh.ok (F:kh K x qual st dV f fd) (S:aU N ps (aC st)) (len:∀ vs H Q E,sp vs H Q E->vs.length=ps.length)
 (hbody:∀ (cdv:Value) (A:Around) (outer:List Env) (s:Shared) (H:Hp) (vs:List V) (Q:VK) (E:XK),bK k (A.deeper (PyProof.Rows.envOfC qual (aC st) s.heap.objs.size f cdv))->sp vs H Q E->
  ∃ t,p7 (iH bL P w K mg base N qual (aC st) f cdv A outer s H E).nox (cg st) t/\t { nx:=fun _ H'=>Q .non H',rt:=Q } (L2.start N vs) H):aQ P w K mg base bL (k+1) f fd ps sp:=by
 obtain ⟨oc,od,kV,doc,pm,an,cdv,ct,osl,rfl,lk,hcd⟩:=F.ex
 refine qx lk hcd S len fun A outer s H vs Q E hr hsp=>?_
 obtain ⟨t,h,q⟩:=hbody cdv A outer s H vs Q E hr hsp
 exact ⟨t,h.nox,q⟩
theorem kh.binds (F:kh K x qual st (.ref T) f fd) (hT:K.lookup T=some oT) (hd:oT.data=.seq items n)
 (h:∀ (kV doc pm:Value) (an:Option Addr) (cdv ct:Value) (s:Shared) (us:List Value),s.heap.get? T=some oT->(us++ds).length=ps.length->BindsTo s (PySem.W.fnOf x qual (d9 st) (cg st) (aC st) (.ref T) kV doc pm an cdv ct) ⟨us,[]⟩ (ps.zip (us++ds))):Binds K fd ps ds:=by
 obtain ⟨oc,od,kV,doc,pm,an,cdv,ct,osl,rfl,lk,hcd⟩:=F.ex
 exact fun s us X hl=>h kV doc pm an cdv ct s us (X _ _ hT) hl
abbrev ql:Stmt:=inClass (top 19) 0
theorem xu (hd:oT.data=.seq #[d0] n) (kV doc pm:Value) (an:Option Addr) (cdv ct:Value) (s:Shared) (us:List Value) (hT:s.heap.get? T=some oT) (h:(us++[]).length=(["self","name","fields"]:List Str).length) :
 BindsTo s (PySem.W.fnOf "__init__" "Kind.__init__" (d9 ql) (cg ql) (aC ql) (.ref T) kV doc pm an cdv ct) ⟨us,[]⟩ ((["self","name","fields"]:List Str).zip (us++[])):=by
 rw [List.append_nil] at h ⊢
 match us,h with
 |[a,b,c],_=>exact BindsTo.of_defaults rfl hT hd rfl rfl
structure KCls (K:PySem.W.Frag) (mg:Str->Option Value) (C:Addr):Prop where
 cl:zG K C
 nN:iM K C "name"
 nF:iM K C "fields"
 mg:mg "Kind" = some (.ref C)
theorem nf:¬ (("name" : Str) = "fields"):=by decide +kernel
def kf (n:Str) (a:Addr):List (Str×V):=gK "fields" (.ref a) (gK "name" (.str n) [])
theorem Bq (n:Str) (a:Addr):(kf n a).lookup ("name" : Str)=some (.str n):=by
 unfold kf
 rw [cU,if_neg nf,cU,if_pos rfl]
theorem kW (n:Str) (a:Addr):(kf n a).lookup ("fields" : Str)=some (.ref a):=by
 unfold kf
 rw [cU,if_pos rfl]
theorem Cw (n:Str) (a:Addr) {m:Str} (h1:¬ m = "fields") (h2:¬ m = "name"):(kf n a).lookup m=none:=by
 unfold kf
 rw [cU,if_neg h1,cU,if_neg h2]
 rfl
structure iZ (C:Addr) (H:Hp) (o:Addr) (n:Str) (a:Addr) (fs:List jJ):Prop where
 ob:∃ dx,H o=some (.ins C dx (kf n a))
 tp:∃ xs,H a=some (.tup xs)/\Paired (gF H) xs fs
def yG (C:Addr):Sp:=fun vs H Q _=>∃ (o dx a:Addr) (n:Str) (xs:List V) (fs:List jJ),vs=[.ref o,.str n,.ref a]/\H o=some (.ins C dx [])/\Nm n/\H a=some (.tup xs)/\Paired (gF H) xs fs/\fs.length≤4/\(∀ f∈fs,qD f)/\(fs.map (·.1)).Nodup/\
 ∀ H',iZ C H' o n a fs->(∀ b u,H b=some u->b≠o->H' b=some u)->Q .non H'
theorem Ug:aU ["self","name","fields"] ["self","name","fields"] (aC ql):=⟨rfl,rfl,rfl,by decide +kernel,rfl,by decide +kernel,by decide +kernel⟩
theorem zJ (F:kh K "__init__" "Kind.__init__" ql dV f fd) (T:Txt K mg) (TK':ph mg) (KC:KCls K mg C) (DI:cH K mg "is_name" (top 15) ["text"] fI fdI) (DN:cH K mg "need_name" (top 16) ["text"] fN fdN)
 (DF:cH K mg "need_fields" (top 17) ["fields"] fF fdF):aQ P w K mg base bL 4 f fd ["self","name","fields"] (yG C):=by
 have GN:aQ P w K mg base bL 2 fN fdN ["text"] jE:=lC DN.F T TK' DI
 have GF:aQ P w K mg base bL 3 fF fdF ["fields"] jZ:=ni DF.F T TK' DI DN
 refine F.ok Ug (fun vs H Q E h=>?_) (fun cdv A outer s H vs Q E hr h=>?_)
 ·obtain ⟨o,dx,a,n,xs,fs,rfl,_⟩:=h
  rfl
 ·obtain ⟨o,dx,a,n,xs,fs,rfl,ho,hn,ha,pf,hl,hf,nd,k⟩:=h
  obtain ⟨tf,mf⟩:=TK'.mf
  have hr2:bK 2 _:=hr.mono (by decide)
  have pl:=Paired.length pf
  refine ⟨_,(aq
 (cZ (aD GN hr2 rfl DN.mg DN.F.kp DN.b .nil aO (aa (pv 1) aj)))
 (aq
 (bc (aL qF (aG aV (by rfl) T.len bR (aa (pv 2) aj)) (bW (v:=.int 4) rfl mf ⟨_,rfl⟩) (aN _)) (aA dJ) aM)
 (aq
 (cZ (aD GF hr rfl DF.mg DF.F.kp DF.b .nil aO (aa (pv 2) aj)))
 (aq
 (yJ (pv 0) (pv 1) rfl)
 (aA
 (yJ (pv 0) (j7 jt (by rfl) T.tuple eV (aa (pv 2) aj)) rfl)))))),?_⟩
  refine ⟨_,rfl,n,rfl,hn,?_⟩
  refine ⟨_,rfl,a,xs,rfl,.inr (bB.of ha),_,_,rfl,rfl,_,rfl,bQ (by simp;omega) ?_⟩
  refine ⟨_,rfl,a,xs,fs,rfl,ha,pf,by omega,hf,nd,fun H1 s1=>?_⟩
  refine ⟨_,rfl,_,rfl,o,C,dx,[],rfl,s1 _ _ ho,KC.cl,KC.nN,(show 0<1000 by decide),?_⟩
  have nao:a≠o:=fK ha ho (by intro z;cases z)
  have ha1:∀ u,(upd H1 o u) a=some (.tup xs):=fun u=>by rw [aK nao];exact s1 _ _ ha
  refine ⟨_,rfl,a,xs,rfl,.inr ⟨bB.of (ha1 _),?_⟩⟩
  refine ⟨_,rfl,o,C,dx,_,rfl,ak,KC.cl,KC.nF,(show 1<1000 by decide),?_⟩
  have keep:∀ b u,H b=some u->b≠o->(upd (upd H1 o (.ins C dx (gK "name" (.str n) []))) o (.ins C dx (kf n a))) b=some u:=fun b u e hb=>by
   rw [aK hb,aK hb];exact s1 _ _ e
  refine k _ ⟨⟨dx,ak⟩,xs,keep a _ ha nao,dC pf fun b ys e=>keep b _ e (fK e ho (by intro z;cases z))⟩ keep
end
theorem iZ.same (h:iZ C H o n a fs) (e:aB H H'):iZ C H' o n a fs:=by
 obtain ⟨⟨dx,h1⟩,xs,h2,h3⟩:=h
 exact ⟨⟨dx,e _ _ h1⟩,xs,e _ _ h2,dC h3 fun b ys z=>e _ _ z⟩
def Uv (K:PySem.W.Frag):TG:=Ar K 3 (lD (bM 0) (lD (bM 1) (lD (bM 2) Ba)))
abbrev kM (j:Nat):Stmt:=inClass (top 19) j
def oU (fs:List jJ) (x:Str):V:=if x∈fs.map (·.1) then .int ((fs.map (·.1)).idxOf x:Nat) else .non
def uQ (C:Addr):Sp:=fun vs H Q _=>∃ (o a:Addr) (n x:Str) (fs:List jJ),vs=[.ref o,.str x]/\iZ C H o n a fs/\fs.length≤4/\∀ H',aB H H'->Q (oU fs x) H'
theorem yq:aU ["self","field","at","name","low","high"] ["self","field"] (aC (kM 3)):=⟨rfl,rfl,rfl,by decide +kernel,rfl,by decide +kernel,by decide +kernel⟩
theorem zj (F:fj K "place_of" "Kind.place_of" (kM 3) f fd) (T:Txt K mg) (hen:mg "enumerate" = none) (KC:KCls K mg C):aQ P w K mg base bL 1 f fd ["self","field"] (uQ C):=by
 refine F.ok yq (fun vs H Q E h=>?_) (fun cdv A outer s H vs Q E hr h=>?_)
 ·obtain ⟨o,a,n,x,fs,rfl,_⟩:=h
  rfl
 ·obtain ⟨o,a,n,x,fs,rfl,⟨⟨dx,ho⟩,xs,ha,pf⟩,hl,k⟩:=h
  have pl:=Paired.length pf
  refine ⟨_,(aq
 (dM PassesOwn.never rfl (zy rfl hen fX (aa (pG (pv 0) rfl) aj)) (dH rfl (aY (aR (i:=2) yq.nd rfl (Or.inl rfl)) (aY (dH rfl (aY (aR (i:=3) yq.nd rfl (Or.inl rfl)) (aY (aR (i:=4) yq.nd rfl (Or.inl rfl)) (aY (aR (i:=5) yq.nd rfl (Or.inl rfl)) cO)))) cO))) (aA
 (bc (aL bu (pv 3) (pv 1) (aN _)) (aA
 (aH (pv 2))) aM)))
 (aA
 (aH mL))),?_⟩
  refine ⟨_,rfl,o,C,dx,_,_,rfl,ho,KC.cl,KC.nF,kW n a,a,rfl,⟨xs,bB.of ha⟩,vM (K:=K) (a:=a) (xs:=xs) (fun i σ H1=>(∃ u1 u2 u3 u4,σ=[some (.ref o),some (.str x),u1,u2,u3,u4])/\aB H H1/\x∉(fs.map (·.1)).take i) ⟨⟨none,none,none,none,rfl⟩,aB.refl _,by simp⟩ (fun i σ H1 _ z=>bB.of (z.2.1 _ _ ha)) ?_ ?_⟩
  ·rintro i y σ H1 p hy ⟨⟨u1,u2,u3,u4,rfl⟩,s1,hn⟩ hp
   obtain ⟨⟨m,lo,hi⟩,hfi,b,rfl,hb⟩:=cN pf hy
   have s2:aB H (upd H1 p (.tup [.int i,.ref b])):=s1.trans (aB.new hp)
   refine ⟨p,_,rfl,bB.of ak,rfl,_,_,rfl,_,_,rfl,b,_,rfl,bB.of (s2 _ _ hb),rfl,_,_,rfl,_,_,rfl,_,_,rfl,rfl,rfl,?_⟩
   refine ⟨_,rfl,_,rfl,rfl,_,rfl,?_⟩
   have hmi:(fs.map (·.1))[i]?=some m:=by rw [List.getElem?_map,hfi];rfl
   by_cases e:m=x
   ·subst e
    refine cC (by simp) ⟨_,rfl,?_⟩
    have hmem:m∈fs.map (·.1):=List.mem_of_getElem? hmi
    have hix:(fs.map (·.1)).idxOf m=i:=by
     have hil:=(List.getElem?_eq_some_iff.mp hmi).1
     have hgt:¬ (fs.map (·.1)).idxOf m<i:=fun z=>hn (by
      rw [List.mem_iff_getElem?]
      refine ⟨(fs.map (·.1)).idxOf m,?_⟩
      rw [List.getElem?_take,if_pos z,List.getElem?_eq_getElem (by omega),List.getElem_idxOf])
     have hlt:¬ i<(fs.map (·.1)).idxOf m:=fun z=>by
      have:=List.not_of_lt_findIdx (p:=(· == m)) (xs:=fs.map (·.1)) z
      rw [(List.getElem?_eq_some_iff.mp hmi).2] at this
      simp at this
     omega
    have:=k _ s2
    unfold oU at this
    rw [if_pos hmem,hix] at this
    exact this
   ·refine bQ (by simp [e]) ⟨⟨_,_,_,_,rfl⟩,s2,?_⟩
    rw [List.take_add_one,hmi]
    simp only [Option.toList_some,List.mem_append,List.mem_singleton,not_or]
    exact ⟨hn,fun z=>e z.symm⟩
  ·rintro σ H1 ⟨⟨u1,u2,u3,u4,rfl⟩,s1,hn⟩
   have:=k _ s1
   unfold oU at this
   rw [List.take_of_length_le (by rw [List.length_map];omega)] at hn
   rw [if_neg hn] at this
   exact this
end Cm
namespace Cm
open PySem L2 PySem.W
def Ko (i:Nat):Stmt:=PySem.Challenge.pw_lanescribe_k10_whole_ways_tell_what_test.main.body.getD i (.Pass ⟨0,0,0,0⟩)
def IK (K:Frag) (cB cS cM Ce:Addr) (fs:List (Str×V)) (wd:Str):Prop:=
 (mroIn K Ce (.ref cB)=some true/\vX K Ce "at"/\∃ n:Int,fs.lookup ("at" : Str)=some (.int n)/\n.natAbs.log2<1920/\("badvalue " : Str).length+(toString n:Str).length≤sizeLine/\wd=("badvalue " : Str)++(toString n:Str))∨
 (mroIn K Ce (.ref cB)=some false/\mroIn K Ce (.ref cS)=some true/\vX K Ce "word"/\fs.lookup ("word" : Str)=some (.str wd))∨
 (mroIn K Ce (.ref cB)=some false/\mroIn K Ce (.ref cS)=some false/\mroIn K Ce (.ref cM)=some true/\vX K Ce "word"/\fs.lookup ("word" : Str)=some (.str wd))
section
variable {P:Program} {w:World} {K:Frag} {mg:Str->Option Value} {base:Heap}
def yK (P:Program) (w:World) (K:Frag) (mg:Str->Option Value) (base:Heap) (k:Nat) (cB cS cM:Addr):Shared->List Env->Sp:=fun s outer vs H Q _=>∃ g Qv Ev,vs=[.ref g]/\Thunk P w K mg base s.heap H (frs outer) k g H Qv Ev/\
 (∀ v H',Qv v H'->∀ l,H' l=none->Q (.ref l) (upd H' l (.lst [.str "",v])))/\
 ∀ cls dd H',Ev cls dd H'->∃ Ce da fs wd,cls=.ref Ce/\dd=some da/\H' da=some (pA da fs)/\IK K cB cS cM Ce fs wd/\∀ l,H' l=none->Q (.ref l) (upd H' l (.lst [.str wd,.non]))
structure O_ (K:Frag) (mg:Str->Option Value) (cB cS cM:Addr):Prop where
 str:mg "str" = none
 bv:mg "BadValue" = some (.ref cB)
 se:mg "ScribeError" = some (.ref cS)
 mi:mg "Missing" = some (.ref cM)
 xb:∃ B n,jq K cB B n
 xs:∃ B n,jq K cS B n
 xm:∃ B n,jq K cM B n
theorem ju:aU ["_law_ask_here","_law_told","_law_word_here","e"] ["_law_ask_here"] (aC (Ko 56)):=⟨rfl,rfl,rfl,by decide +kernel,rfl,by decide +kernel,by decide +kernel⟩
theorem Il (F:fj K "_law_ask" "_law_ask" (Ko 56) f fd) (T:O_ K mg cB cS cM):nC P w K mg base CX (k+1) f fd ["_law_ask_here"] (yK P w K mg base k cB cS cM):=by
 obtain ⟨B1,n1,x1⟩:=T.xb
 obtain ⟨B2,n2,x2⟩:=T.xs
 obtain ⟨B3,n3,x3⟩:=T.xm
 refine F.okS ju (fun s outer vs H Q E h=>?_) (fun cdv A outer s H vs Q E hr h=>?_)
 ·obtain ⟨g,Qv,Ev,rfl,_⟩:=h
  rfl
 ·obtain ⟨g,Qv,Ev,rfl,Th,hv,he⟩:=h
  refine ⟨_,(aq (bj (i:=1) ju.nd rfl (Or.inl rfl) mL)
   (aq (bj (i:=2) ju.nd rfl (Or.inl rfl) aF)
   (aq (Ek rfl rfl rfl (wM (k:=k) (i:=1) (j:=0) ju.nd rfl (Or.inl rfl) rfl (Or.inl rfl) rfl hr)
    (pB (i:=3) (C:=cB) (B:=B1) (newId:=n1) ju.nd rfl rfl (fun ea ps=>bW (by rfl) T.bv rfl) (fun ea oe ps Ce dd hm hc hd hvs=>aA (bj (i:=2) ju.nd rfl (Or.inl rfl) (bh cW aF (j7 pL (by rfl) T.str kI (aa (qi hm hc hd hvs (pv 3)) aj)))))
    (pB (i:=3) (C:=cS) (B:=B2) (newId:=n2) ju.nd rfl rfl (fun ea ps=>bW (by rfl) T.se rfl) (fun ea oe ps Ce dd hm hc hd hvs=>aA (bj (i:=2) ju.nd rfl (Or.inl rfl) (qi hm hc hd hvs (pv 3))))
    (pB (i:=3) (C:=cM) (B:=B3) (newId:=n3) ju.nd rfl rfl (fun ea ps=>bW (by rfl) T.mi rfl) (fun ea oe ps Ce dd hm hc hd hvs=>aA (bj (i:=2) ju.nd rfl (Or.inl rfl) (qi hm hc hd hvs (pv 3))))
    Gw))))
   (aA (aH (bY (aa (pv 2) (aa (pv 1) aj)))))))),?_⟩
  have small:∀ x y:V,[x,y].length≤sizeLine:=fun x y=>by rw [sizeLine_eq];show 2≤16777216;decide
  refine ⟨g,Qv,Ev,rfl,Th,fun v H' q=>?_,fun cls dd H' q=>?_⟩
  ·exact ⟨_,rfl,_,rfl,small _ _,fun p hp=>hv v H' q p hp⟩
  ·obtain ⟨Ce,da,fs,wd,rfl,rfl,hd,hc,hq⟩:=he _ _ _ q
   refine ⟨Ce,rfl,x1,?_⟩
   rcases hc with ⟨m1,G,n,l,z,zz,rfl⟩|⟨m1,m2,G,l⟩|⟨m1,m2,m3,G,l⟩
   ·refine ⟨true,m1,fun ea=>?_⟩
    exact ⟨_,rfl,da,fs,_,rfl,rfl,hd,G,l,n,rfl,z,_,_,rfl,rfl,zz,_,rfl,_,rfl,small _ _,fun p hp=>hq p hp⟩
   ·refine ⟨false,m1,x2,true,m2,fun ea=>?_⟩
    exact ⟨_,rfl,da,fs,_,rfl,rfl,hd,G,l,_,rfl,_,rfl,small _ _,fun p hp=>hq p hp⟩
   ·refine ⟨false,m1,x2,false,m2,x3,true,m3,fun ea=>?_⟩
    exact ⟨_,rfl,da,fs,_,rfl,rfl,hd,G,l,_,rfl,_,rfl,small _ _,fun p hp=>hq p hp⟩
end
end Cm
namespace Cm
open PySem L2
end Cm
namespace Cm
open PySem L2 PySem.W
abbrev Fw:Stmt:=inClass (top 2) 0
section
variable {P:Program} {w:World} {K:Frag} {mg:Str->Option Value} {base:Heap}
theorem kh.ok1 (F:kh K x qual st dV f fd) (S:aU N ps (aC st)) (len:∀ vs H Q E,sp vs H Q E->vs.length=ps.length)
 (hbody:∀ (cdv:Value) (A:Around) (outer:List Env) (s:Shared) (H:Hp) (vs:List V) (Q:VK) (E:XK),bK k (A.deeper (PyProof.Rows.envOfC qual (aC st) s.heap.objs.size f cdv))->sp vs H Q E->
  ∃ t,p7 (iH CX P w K mg base N qual (aC st) f cdv A outer s H E) (cg st) t/\t { nx:=fun _ H'=>Q .non H',rt:=Q } (L2.start N vs) H):aQ P w K mg base CX (k+1) f fd ps sp:=by
 obtain ⟨oc,od,kV,doc,pm,an,cdv,ct,osl,rfl,lk,hcd⟩:=F.ex
 exact qx lk hcd S len fun A outer s H vs Q E hr hsp=>hbody cdv A outer s H vs Q E hr hsp
structure BR (K:Frag) (C:Addr):Prop where
 x:jq K C "ValueError" "ValueError.__new__"
 w:takerIn K C "word" = some none
def Qs (K:Frag):Sp:=fun vs H Q _=>∃ (e C:Addr) (a:V) (b:V),vs=[.ref e,a,b]/\BR K C/\H e=some (dZ e C none)/\∀ da,H da=none->Q .non (upd (upd H e (dZ e C (some da))) da (pA da [("word",b)]))
theorem Va:aU ["self","words","word"] ["self","words","word"] (aC Fw):=⟨rfl,rfl,rfl,by decide +kernel,rfl,by decide +kernel,by decide +kernel⟩
structure J9 (K:Frag) (mg:Str->Option Value):Prop where
 ve:mg "ValueError" = none
 fc:findCls K (.type "ValueError") (.type "type") "__init__" = some (.val (.builtin "ValueError.__init__"))
theorem Lx (F:kh K "__init__" "ScribeError.__init__" Fw dV f fd) (T:J9 K mg):aQ P w K mg base CX 1 f fd ["self","words","word"] (Qs K):=by
 refine F.ok1 Va (fun vs H Q E h=>?_) (fun cdv A outer s H vs Q E hr h=>?_)
 ·obtain ⟨e,C,a,b,rfl,_⟩:=h
  rfl
 ·obtain ⟨e,C,a,b,rfl,EC,he,k⟩:=h
  refine ⟨_,(aq (cZ (rn (by rfl) T.ve (by rfl) (by kernel_rfl) (by decide +kernel) T.fc (tL PySem.F.excBase_ValueError) (aa (pv 0) (aa (pv 1) aj))))
   (aA (zL (B:="ValueError") (newId:="ValueError.__new__") (pv 0) (pv 2) rfl))),?_⟩
  exact ⟨_,rfl,_,rfl,e,C,_,_,rfl,he,EC.x,_,rfl,_,rfl,e,C,rfl,EC.x,EC.w,.inl ⟨he,k⟩⟩
structure Ku (K:Frag) (mg:Str->Option Value) (cn:Str) (C f:Addr):Prop where
 mg:mg cn=some (.ref C)
 sg:specialIn K (.ref C) "__getattribute__" = some (some (.builtin "type.__getattribute__"))
 rd:∃ mc,readsIn K C mc=true/\findCls K (.ref C) mc "__init__" = some (.val (.ref f))
 kp:keepIn K (.ref f)=true
def VH (K:Frag) (wd:Str):Sp:=fun vs H Q _=>∃ (e C:Addr) (a:V),vs=[.ref e,a]/\BR K C/\H e=some (dZ e C none)/\∀ da,H da=none->Q .non (upd (upd H e (dZ e C (some da))) da (pA da [("word",.str wd)]))
abbrev gZ:Stmt:=inClass (top 5) 0
theorem wC:aU ["self","words"] ["self","words"] (aC gZ):=⟨rfl,rfl,rfl,by decide +kernel,rfl,by decide +kernel,by decide +kernel⟩
theorem tU (F:kh K "__init__" "BadTest.__init__" gZ dW f fd) (T:J9 K mg) (FS:kh K "__init__" "ScribeError.__init__" Fw dV fS fdS) (bS:Binds K fdS ["self","words","word"] []) (MS:Ku K mg "ScribeError" cS fS):aQ P w K mg base CX 2 f fd ["self","words"] (VH K "badtest"):=by
 have GS:aQ P w K mg base bL 1 fS fdS ["self","words","word"] (Qs K):=Lx FS T
 obtain ⟨mc,m1,m2⟩:=MS.rd
 refine F.ok1 wC (fun vs H Q E h=>?_) (fun cdv A outer s H vs Q E hr h=>?_)
 ·obtain ⟨e,C,a,rfl,_⟩:=h
  rfl
 ·obtain ⟨e,C,a,rfl,EC,he,k⟩:=h
  refine ⟨_,(aA (cZ (rZ (E:=E0) (by rfl) MS.mg MS.sg m1 m2 MS.kp GS hr bS .nil aO (aa (pv 0) (aa (pv 1) (aa aF aj)))))),?_⟩
  exact ⟨_,rfl,_,rfl,e,C,_,_,rfl,EC,he,k⟩
def pF (H:Hp) (fs:List (Str×V)) (da:Addr) (H':Hp):Prop:=H da=none/\H'=upd H da (pA da fs)
theorem vd (h1:H e=none) (h2:upd H e (dZ e C none) da=none):pF H fs da (xT (upd (upd (upd H e (dZ e C none)) e (dZ e C (some da))) da (pA da fs)) e):=by
 have ne:da≠e:=fun q=>by subst q;rw [ak] at h2;cases h2
 rw [aK ne] at h2
 refine ⟨h2,funext fun b=>?_⟩
 by_cases q:b=e
 ·subst q
  rw [mj,aK (Ne.symm ne),h1]
 ·rw [tX q]
  by_cases r:b=da
  ·subst r;rw [ak,ak]
  ·rw [aK r,aK q,aK q,aK r]
theorem ii (h:aB H H1) (n:H1 e=none):H e=none:=by
 cases z:H e with
 |none=>rfl
 |some o=>have:=h _ _ z;rw [n] at this;cases this
structure Lk (K:Frag) (mg:Str->Option Value) (x:Str) (C f:Addr) (fd:FuncData):Prop where
 b:Binds K fd ["self","words"] []
 mg:mg x=some (.ref C)
 e:BR K C
 i:findIn K (.ref C) "__init__" = some (some (.ref f))
 n:isFn K (.ref f)=true
end
abbrev zO:Int:=1000000000000000000000000000000
def gV (x:Str):Prop:=x.cps.all (·<128)=true
def Dj:Sp:=fun vs H Q _=>∃ (p dc:Addr),vs=[.ref p]/\Dr H p dc/\∀ (z:Int) (H':Hp),-zO≤z->z≤zO->Dr H' p dc->cL p H H'->Q (.int z) H'
theorem De:aU ["_law_d","_law_number_here"] ["_law_d"] (aC (top 51)):=⟨rfl,rfl,rfl,by decide +kernel,rfl,by decide +kernel,by decide +kernel⟩
theorem E_ (F:fj K "_law_far" "_law_far" (top 51) f fd) (T:Txt K mg) (DP:cH K mg "_law_pick" (top 49) ["_law_d","_law_many"] fP fdP):aQ P w K mg base bL 2 f fd ["_law_d"] Dj:=by
 have GP:aQ P w K mg base bL 1 fP fdP ["_law_d","_law_many"] gR:=fZ DP.F T
 refine F.ok De (fun vs H Q E h=>?_) (fun cdv A outer s H vs Q E hr h=>?_)
 ·obtain ⟨p,dc,rfl,_⟩:=h
  rfl
 ·obtain ⟨p,dc,rfl,D,k⟩:=h
  refine ⟨_,(aq
 (bj (i:=1) De.nd rfl (Or.inl rfl) (bh cX (bh sy au au) (aD GP hr rfl DP.mg DP.F.kp DP.b .nil aO (aa (pv 0) (aa (bh sy au au) aj)))))
 (aA
 (aH (a_ cR (bY (aa (pv 1) (aa (bh e_ au (pv 1)) aj))) (aD GP hr rfl DP.mg DP.F.kp DP.b .nil aO (aa (pv 0) (aa au aj))) (fun _ _=>rfl))))),?_⟩
  have c1:G3 10 9:=⟨by decide,by decide,by decide⟩
  have c2:G3 10 29:=⟨by decide,by decide,by decide⟩
  have p1:(10:Int) ^ (9:Int).toNat=1000000000:=by decide
  have p2:(10:Int) ^ (29:Int).toNat=100000000000000000000000000000:=by decide +kernel
  refine ⟨_,_,rfl,rfl,c1,_,rfl,_,_,rfl,rfl,c2,p,dc,_,rfl,D,by rw [p2];decide,by rw [p2];decide,fun r H1 a1 b1 D1 t1=>⟨_,_,rfl,rfl,?_⟩⟩
  rw [p2] at b1
  rw [p1]
  have z1:1000000000+r≤zO:=by simp only [zO];omega
  refine ⟨_,rfl,_,rfl,_,_,rfl,rfl,(show 2≤sizeLine by decide),fun q1 h1=>?_⟩
  have D2:=D1.new (o:=.lst [.int (1000000000+r),.int (0-(1000000000+r))]) h1
  refine ⟨_,rfl,p,dc,_,rfl,D2,by decide,by decide,fun r2 H2 a2 b2 D3 t2=>?_⟩
  have e1:bJ K H2 q1 [.int (1000000000+r),.int (0-(1000000000+r))]:=D2.seq t2 (bJ.of ak)
  have bt:cL p H H2:=t1.trans ((cL.new h1).trans t2)
  by_cases h0:r2=0
  ·subst h0
   exact ⟨_,_,_,_,rfl,rfl,e1,rfl,k _ _ (by simp only [zO] at *;omega) z1 D3 bt⟩
  ·obtain rfl:r2=1:=by omega
   exact ⟨_,_,_,_,rfl,rfl,e1,rfl,k _ _ (by simp only [zO] at *;omega) (by simp only [zO] at *;omega) D3 bt⟩
theorem Uw:∀ c<128,(!(Builtin.Str.occurrences ("abcdefghijklmnopqrstuvwxyz" : Str) ⟨#[c]⟩ 0 ("abcdefghijklmnopqrstuvwxyz" : Str).length 1).isEmpty)=decide (97≤c/\c≤122):=by decide +kernel
def yw:Sp:=fun vs H Q _=>∃ x:Str,vs=[.str x]/\x.length≤50000/\gV x/\∀ H',aB H H'->Q (.bl (nameB x)) H'
theorem Vt:aU ["_law_text"] ["_law_text"] (aC (top 55)):=⟨rfl,rfl,rfl,by decide +kernel,rfl,by decide +kernel,by decide +kernel⟩
theorem n6 (x:Str):nameB x=(decide (1≤x.length) && (decide (x.length≤8) && x.cps.toList.all fun c=>decide (97≤c/\c≤122))):=by
 have h:nameB x=true↔(decide (1≤x.length) && (decide (x.length≤8) && x.cps.toList.all fun c=>decide (97≤c/\c≤122)))=true:=by
  rw [gq]
  simp only [Bool.and_eq_true,decide_eq_true_eq,List.all_eq_true]
  exact ⟨fun h=>⟨h.lo,h.hi,fun c hc=>h.lc c hc⟩,fun h=>⟨h.1,h.2.1,fun c hc=>h.2.2 c hc⟩⟩
 cases e1:nameB x with
 |true=>exact (h.mp e1).symm
 | false=>
   cases e2:(decide (1≤x.length) && (decide (x.length≤8) && x.cps.toList.all fun c=>decide (97≤c/\c≤122))) with
   |false=>rfl
   |true=>rw [h.mpr e2] at e1;cases e1
theorem Aj (F:fj K "_law_is_name" "_law_is_name" (top 55) f fd) (T:Txt K mg):aQ P w K mg base bL 1 f fd ["_law_text"] yw:=by
 refine F.ok Vt (fun vs H Q E h=>?_) (fun cdv A outer s H vs Q E hr h=>?_)
 ·obtain ⟨x,rfl,_⟩:=h
  rfl
 ·obtain ⟨x,rfl,hl,ha,k⟩:=h
  have big:50000≤sizeLine:=by decide
  refine ⟨_,(aA
 (aH (c7 (iT fJ fJ au (aG iz (by rfl) T.len bR (aa (pv 0) aj)) au) (dw (aG (je rfl) (by rfl) T.all p_ (aa (gk (own:=["_law_sign"]) (js:=[]) (N':=["_law_sign"]) (bN.of (osc:=aC (top 55)) (N:=["_law_text"]) rfl rfl ⟨rfl,by decide +kernel,by decide +kernel,by decide +kernel,rfl,by decide +kernel⟩) rfl (Ir (pv 0)) (fun _ _ _ _ _=>(aR (i:=0) (show List.Nodup (["_law_sign"]:List Str) by decide +kernel) rfl (Or.inl rfl) (Or.inr rfl))) (fun _ _ _ _ _=>dh) (fun _ _ _ _ _=>(bH vo (pv 0) aF rfl))) aj)))))),?_⟩
  rw [n6] at k
  refine ⟨_,rfl,x,rfl,by omega,_,_,rfl,rfl,_,rfl,?_⟩
  by_cases h1:1≤x.length
  ·rw [decide_eq_true h1,Bool.true_and] at k
   refine cC (by simp;omega) ⟨_,_,rfl,rfl,_,rfl,?_⟩
   by_cases h8:x.length≤8
   ·rw [decide_eq_true h8,Bool.true_and] at k
    refine cC (by simp;omega) ⟨_,rfl,x,rfl,ha,?_⟩
    have hz:x.cps.size=x.length:=rfl
    refine xg (x:=x) (fun i ys σ' H'=>∃ v,σ'=[v]/\H'=H/\ys=((x.cps.toList.take i).map fun c=>V.bl (decide (97≤c/\c≤122)))) (by omega) ⟨none,rfl,rfl,by simp⟩ ?_ ?_
    ·rintro i c ys σ' H' hc hy ⟨v,rfl,rfl,rfl⟩ N hN
     have hc':x.cps.toList[i]?=some c:=by rw [Array.getElem?_toList];exact hc
     have c1:c<128:=by
      have h':=ha
      unfold gV at h'
      rw [← Array.all_toList,List.all_eq_true] at h'
      simpa using h' c (List.mem_of_getElem? hc')
     refine ⟨_,rfl,_,_,rfl,rfl,?_⟩
     rw [Uw c c1]
     refine hN _ _ _ (by simpa using hy) ⟨_,rfl,rfl,?_⟩
     rw [List.take_add_one,hc']
     simp
    ·rintro ys σ' H' hy ⟨v,rfl,rfl,rfl⟩
     rw [List.take_of_length_le (by simp)]
     refine ⟨by rw [List.length_map];have:x.cps.toList.length=x.length:=rfl;omega,fun q hq=>?_⟩
     refine ⟨q,x.cps.toList.map fun c=>decide (97≤c/\c≤122),rfl,?_,?_⟩
     ·have:=bJ.of (K:=K) (H:=upd H' q (.lst (x.cps.toList.map fun c=>V.bl (decide (97≤c/\c≤122))))) (a:=q) (xs:=x.cps.toList.map fun c=>V.bl (decide (97≤c/\c≤122))) ak
      rw [List.map_map]
      exact this
     ·dsimp only
      rw [List.all_map]
      exact k _ (aB.new hq)
   ·rw [decide_eq_false h8,Bool.false_and] at k
    exact bQ (by simp;omega) (k H fun _ _ z=>z)
  ·rw [decide_eq_false h1,Bool.false_and] at k
   exact bQ (by simp;omega) ⟨_,rfl,bQ rfl (k H fun _ _ z=>z)⟩
theorem jb (a:gV x) (b:gV y):gV (x++y):=by
 unfold gV at *
 rw [← Array.all_toList,List.all_eq_true] at *
 intro c hc
 have:(x++y).cps.toList=x.cps.toList++y.cps.toList:=by
  show (x.cps++y.cps).toList=_
  simp
 rw [this] at hc
 rcases List.mem_append.mp hc with h|h
 ·exact a c h
 ·exact b c h
theorem gY (a:gV x) (l u:Option Int):gV (Txt.slice x l u):=by
 unfold gV at *
 rw [← Array.all_toList,List.all_eq_true] at *
 exact fun c hc=>a c (vz x l u c hc)
def Dd:Sp:=fun vs H Q _=>∃ (p dc:Addr) (x:Str),vs=[.ref p,.str x]/\Dr H p dc/\x.length≤500/\gV x/\∀ (y:Str) (H':Hp),gV y->y.length≤x.length+8->Dr H' p dc->cL p H H'->Q (.str y) H'
theorem Oc:aU ["_law_d","_law_text","_law_odd"] ["_law_d","_law_text"] (aC (top 57)):=⟨rfl,rfl,rfl,by decide +kernel,rfl,by decide +kernel,by decide +kernel⟩
theorem HX (F:fj K "_law_odd_name" "_law_odd_name" (top 57) f fd) (T:Txt K mg) (DP:cH K mg "_law_pick" (top 49) ["_law_d","_law_many"] fP fdP) (DO:cH K mg "_law_of" (top 50) ["_law_d","_law_things"] fO fdO) :
 aQ P w K mg base bL 3 f fd ["_law_d","_law_text"] Dd:=by
 have GO:aQ P w K mg base bL 2 fO fdO ["_law_d","_law_things"] (rQ K):=oA DO.F T DP
 refine F.ok Oc (fun vs H Q E h=>?_) (fun cdv A outer s H vs Q E hr h=>?_)
 ·obtain ⟨p,dc,x,rfl,_⟩:=h
  rfl
 ·obtain ⟨p,dc,x,rfl,D,hl,ha,k⟩:=h
  refine ⟨_,(aq
 (bj (i:=2) Oc.nd rfl (Or.inl rfl) (bY (aa aF (aa (bh cW (pv 1) aF) (aa (bh cW (bV lY (pv 1) cG (cF au)) aF) (aa (bh cW (bV lY (pv 1) cG (cF au)) aF) (aa (bh cW (bV lY (pv 1) cG (cF au)) aF) (aa (bh cW (bV lY (pv 1) cG (cF au)) aF) (aa (bh cW aF (bV lY (pv 1) cG (cF au))) aj)))))))))
 (aA
 (aH (aD GO hr rfl DO.mg DO.F.kp DO.b .nil aO (aa (pv 0) (aa (pv 2) aj)))))),?_⟩
  have big:1000≤sizeLine:=by decide
  have l1:(("abcdefgh" : Str)).length=8:=by decide +kernel
  have sl:∀ j:Int,(Txt.slice x none (some j)).length≤x.length:=fun j=>Txt.slice_le x none (some j)
  have m:∀ y z:Str,y.length≤x.length->z.length=1->y.length+z.length≤sizeLine:=fun y z h1 h2=>by omega
  have m':∀ y z:Str,y.length≤x.length->z.length=1->z.length+y.length≤sizeLine:=fun y z h1 h2=>by omega
  refine ⟨_,rfl,_,_,rfl,rfl,by omega,?_⟩
  refine ⟨_,rfl,_,rfl,x,_,rfl,rfl,rfl,by omega,_,_,rfl,rfl,m _ ("A" : Str) (sl _) (by decide +kernel),?_⟩
  refine ⟨_,rfl,_,rfl,x,_,rfl,rfl,rfl,by omega,_,_,rfl,rfl,m _ (" " : Str) (sl _) (by decide +kernel),?_⟩
  refine ⟨_,rfl,_,rfl,x,_,rfl,rfl,rfl,by omega,_,_,rfl,rfl,m _ ("1" : Str) (sl _) (by decide +kernel),?_⟩
  refine ⟨_,rfl,_,rfl,x,_,rfl,rfl,rfl,by omega,_,_,rfl,rfl,m _ ("_" : Str) (sl _) (by decide +kernel),?_⟩
  refine ⟨_,rfl,_,rfl,x,_,rfl,rfl,rfl,by omega,_,_,rfl,rfl,m' _ ("{" : Str) (sl _) (by decide +kernel),?_⟩
  refine ⟨(show 7≤sizeLine by decide),fun q hq=>?_⟩
  refine ⟨_,rfl,_,rfl,p,dc,q,_,rfl,D.new hq,bJ.of ak,by simp,by simp,fun v H1 hv D1 b1=>?_⟩
  have ap:∀ y z:Str,(y++z).length=y.length+z.length:=fun y z=>Str.length_append y z
  have one:∀ z:Str,z.length=1->∀ j:Int,(Txt.slice x none (some j)++z).length≤x.length+8/\(z++Txt.slice x none (some j)).length≤x.length+8:=fun z hz j=>by
   have:=sl j
   rw [ap,ap]
   omega
  obtain ⟨y,rfl,y1,y2⟩:∃ y:Str,v=.str y/\gV y/\y.length≤x.length+8:=by
   simp only [List.mem_cons,List.not_mem_nil,or_false] at hv
   rcases hv with rfl|rfl|rfl|rfl|rfl|rfl|rfl
   ·exact ⟨_,rfl,by unfold gV;decide +kernel,Nat.zero_le _⟩
   ·exact ⟨_,rfl,jb ha (by unfold gV;decide +kernel),by rw [ap];omega⟩
   ·exact ⟨_,rfl,jb (gY ha _ _) (by unfold gV;decide +kernel),(one _ (by decide +kernel) _).1⟩
   ·exact ⟨_,rfl,jb (gY ha _ _) (by unfold gV;decide +kernel),(one _ (by decide +kernel) _).1⟩
   ·exact ⟨_,rfl,jb (gY ha _ _) (by unfold gV;decide +kernel),(one _ (by decide +kernel) _).1⟩
   ·exact ⟨_,rfl,jb (gY ha _ _) (by unfold gV;decide +kernel),(one _ (by decide +kernel) _).1⟩
   ·exact ⟨_,rfl,jb (by unfold gV;decide +kernel) (gY ha _ _),(one _ (by decide +kernel) _).2⟩
  exact k y H1 y1 y2 D1 ((cL.new hq).trans b1)
abbrev rW:Int:=zO+2
inductive TD:PyData->Prop
 |str {x:Str}:gV x->x.length≤40->TD (.str x)
 |int {i:Int}:-rW≤i->i≤rW->TD (.int i)
 |nil:TD (.tuple [])
 |node {f:Str} {r:List PyData}:gV f->f.length≤40->r.length≤20->(∀ d∈r,TD d)->TD (.tuple (.str f::r))
def iW:PyData->Bool
 |.str x=>nameB x
 |_=>false
def oX:PyData->Bool
 |.int i=>decide (-999999≤i) && decide (i≤999999)
 |_=>false
def dY (f:Str) (r:List PyData):Bool:=
 if f = "all" then r.isEmpty else if f = "is" then (match r with|[x]=>iW x|_=>false)
 else decide (f = "less"∨f = "same") && (match r with|[x,y]=>iW x && oX y|_=>false)
def arity (f:Str):Option Nat:=if f = "not" then some 1 else if f = "and" then some 2 else if f = "or" then some 2 else none
def cnt:Nat->PyData->Nat
 |0,_=>0
 |n+1,.tuple (.str f::r)=>if dY f r=true then 1 else if arity f=some r.length then (if 0∈r.map (cnt n) then 0 else 1+(r.map (cnt n)).sum) else 0
 |_+1,_=>0
mutual
def bD:PyData->Bool
 |.tuple (.str f::r)=>if f = "and"∨f = "or" then decide (r.length=2) && shapes r else if f = "not" then decide (r.length=1) && shapes r else dY f r
 |_=>false
def shapes:List PyData->Bool
 |[]=>true
 |d::r=>bD d && shapes r
end
mutual
def bF:PyData->Nat
 |.tuple (.str f::r)=>if (arity f).isSome=true then 1+dm r else 1
 |_=>1
def dm:List PyData->Nat
 |[]=>0
 |d::r=>max (bF d) (dm r)
end
mutual
def cu:PyData->Nat
 |.tuple (.str f::r)=>if (arity f).isSome=true then 1+dU r else 1
 |_=>1
def dU:List PyData->Nat
 |[]=>0
 |d::r=>cu d+dU r
end
def dO (d:PyData):Bool:=bD d && (decide (bF d≤5) && decide (cu d≤15))
theorem nY:∀ d,1≤cu d:=by
 intro d
 unfold cu
 split
 ·split <;> omega
 ·omega
theorem dj:∀ d,1≤bF d:=by
 intro d
 unfold bF
 split
 ·split <;> omega
 ·omega
theorem rR (h:dY f r=true):arity f=none:=by
 unfold dY at h
 unfold arity
 by_cases h1:f = "all"
 ·subst h1;decide +kernel
 ·rw [if_neg h1] at h
  by_cases h2:f = "is"
  ·subst h2;decide +kernel
  ·rw [if_neg h2,Bool.and_eq_true,decide_eq_true_eq] at h
   rcases h.1 with rfl|rfl <;> decide +kernel
theorem mQ (k:Nat) (r:List PyData):decide (some k=some r.length)=decide (r.length=k):=by
 simp only [Option.some.injEq,decide_eq_decide]
 exact ⟨fun h=>h.symm,fun h=>h.symm⟩
theorem eU:bD (.tuple (.str f::r))=if arity f=none then dY f r else decide (arity f=some r.length) && shapes r:=by
 unfold bD
 by_cases h1:f = "and"
 ·subst h1
  rw [show arity "and" = some 2 from by decide +kernel,if_pos (Or.inl rfl),if_neg (show ¬ (some 2=(none:Option Nat)) from nofun),mQ]
 ·by_cases h2:f = "or"
  ·subst h2
   rw [show arity "or" = some 2 from by decide +kernel,if_pos (Or.inr rfl),if_neg (show ¬ (some 2=(none:Option Nat)) from nofun),mQ]
  ·rw [if_neg (by simp [h1,h2])]
   by_cases h3:f = "not"
   ·subst h3
    rw [show arity "not" = some 1 from by decide +kernel,if_pos rfl,if_neg (show ¬ (some 1=(none:Option Nat)) from nofun),mQ]
   ·have ha:arity f=none:=by unfold arity;rw [if_neg h3,if_neg h1,if_neg h2]
    rw [ha,if_neg h3,if_pos rfl]
theorem Ph (ih:∀ d,cnt n d=if bD d=true/\bF d≤n then cu d else 0):∀ r:List PyData,(if 0∈r.map (cnt n) then 0 else 1+(r.map (cnt n)).sum)=if shapes r=true/\dm r≤n then 1+dU r else 0
 |[]=>by simp [shapes,dm,dU]
 | d::r=>by
   have h:=Ph ih r
   have hp:=nY d
   rw [List.map_cons,List.sum_cons]
   have es:shapes (d::r)=(bD d && shapes r):=rfl
   have ed:dm (d::r)=max (bF d) (dm r):=rfl
   have ep:dU (d::r)=cu d+dU r:=rfl
   by_cases hd:bD d=true/\bF d≤n
   ·have e:cnt n d=cu d:=by rw [ih,if_pos hd]
    by_cases hr:shapes r=true/\dm r≤n
    ·rw [if_pos hr] at h
     have h0:¬ 0∈r.map (cnt n):=fun z=>by rw [if_pos z] at h;omega
     rw [if_neg h0] at h
     rw [if_neg (by rw [List.mem_cons,not_or,e];exact ⟨by omega,h0⟩),if_pos ⟨by rw [es,hd.1,hr.1];rfl,by rw [ed];omega⟩,e,ep]
     omega
    ·rw [if_neg hr] at h
     have h0:0∈r.map (cnt n):=by
      by_cases z:0∈r.map (cnt n)
      ·exact z
      ·rw [if_neg z] at h;omega
     rw [if_pos (List.mem_cons_of_mem _ h0),if_neg]
     rintro ⟨z1,z2⟩
     rw [es,Bool.and_eq_true] at z1
     rw [ed] at z2
     exact hr ⟨z1.2,by omega⟩
   ·have e:cnt n d=0:=by rw [ih,if_neg hd]
    rw [if_pos (by rw [e];exact List.mem_cons_self ..),if_neg]
    rintro ⟨z1,z2⟩
    rw [es,Bool.and_eq_true] at z1
    rw [ed] at z2
    exact hd ⟨z1.1,by omega⟩
theorem tO:∀ (n:Nat) (d:PyData),cnt n d=if bD d=true/\bF d≤n then cu d else 0
 | 0,d=>by
   have:=dj d
   rw [if_neg (by omega)]
   rfl
 | n+1,d=>by
   have ih:=tO n
   by_cases hd:∃ f r,d=.tuple (.str f::r)
   ·obtain ⟨f,r,rfl⟩:=hd
    have e1:cnt (n+1) (.tuple (.str f::r))=if dY f r=true then 1 else if arity f=some r.length then (if 0∈r.map (cnt n) then 0 else 1+(r.map (cnt n)).sum) else 0:=rfl
    have e2:bF (.tuple (.str f::r))=if (arity f).isSome=true then 1+dm r else 1:=rfl
    have e3:cu (.tuple (.str f::r))=if (arity f).isSome=true then 1+dU r else 1:=rfl
    have e4:=@eU f r
    by_cases hl:dY f r=true
    ·have ha:=rR hl
     rw [ha] at e2 e3 e4
     rw [e1,if_pos hl,if_pos ⟨by rw [e4,if_pos rfl];exact hl,by rw [e2];simp⟩,e3]
     rfl
    ·rw [e1,if_neg hl]
     by_cases ha:arity f=none
     ·rw [if_neg (by rw [ha];nofun),if_neg]
      rintro ⟨q,_⟩
      rw [e4,if_pos ha] at q
      exact hl q
     ·obtain ⟨k,hk⟩:=Option.ne_none_iff_exists'.mp ha
      rw [hk] at e2 e3 e4 ⊢
      rw [if_neg (show ¬ (some k=(none:Option Nat)) from nofun)] at e4
      by_cases hkr:k=r.length
      ·subst hkr
       rw [if_pos rfl,Ph ih r]
       by_cases z:shapes r=true/\dm r≤n
       ·rw [if_pos z,if_pos ⟨by rw [e4,z.1];simp,by rw [e2];simp;omega⟩,e3]
        rfl
       ·rw [if_neg z,if_neg]
        rintro ⟨q1,q2⟩
        rw [e4] at q1
        rw [e2] at q2
        simp at q1 q2
        exact z ⟨q1,by omega⟩
      ·rw [if_neg (by simpa using hkr),if_neg]
       rintro ⟨q,_⟩
       rw [e4] at q
       simp [hkr] at q
   ·have e1:cnt (n+1) d=0:=by
     unfold cnt
     split
     ·omega
     ·exact absurd ⟨_,_,rfl⟩ hd
     ·rfl
    have e2:bD d=false:=by
     unfold bD
     split
     ·exact absurd ⟨_,_,rfl⟩ hd
     ·rfl
    rw [e1,e2,if_neg (by simp)]
theorem zM (d:PyData):(decide (1≤cnt 5 d) && decide (cnt 5 d≤15))=dO d:=by
 have hp:=nY d
 rw [tO]
 unfold dO
 by_cases h:bD d=true/\bF d≤5
 ·rw [if_pos h,h.1,decide_eq_true h.2]
  simp [hp]
 ·rw [if_neg h]
  have:(bD d && decide (bF d≤5))=false:=by
   rw [← Bool.not_eq_true,Bool.and_eq_true,decide_eq_true_eq]
   exact h
  rw [← Bool.and_assoc,this]
  rfl
mutual
def j_:PyData->List PyData
 |.tuple (.str f::r)=>if (arity f).isSome=true then fV r else [.tuple (.str f::r)]
 |d=>[d]
def fV:List PyData->List PyData
 |[]=>[]
 |d::r=>j_ d++fV r
end
section
variable {P:Program} {w:World} {K:PySem.W.Frag} {mg:Str->Option Value} {base:Heap}
def NZ (K:Frag):Sp:=fun vs H Q _=>∃ (x:V) (d:PyData),vs=[x]/\Rep K H x d/\TD d/\Q (.bl (iW d)) H
theorem TQ:aU ["thing"] ["thing"] (aC (top 25)):=⟨rfl,rfl,rfl,by decide +kernel,rfl,by decide +kernel,by decide +kernel⟩
theorem K5 (F:fj K "is_word" "is_word" (top 25) f fd) (T:Txt K mg) (TK:ph mg) (DN:cH K mg "is_name" (top 15) ["text"] fN fdN):aQ P w K mg base bL 2 f fd ["thing"] (NZ K):=by
 have GN:aQ P w K mg base bL 1 fN fdN ["text"] mG:=nO DN.F T TK
 refine F.ok TQ (fun vs H Q E h=>?_) (fun cdv A outer s H vs Q E hr h=>?_)
 ·obtain ⟨x,d,rfl,_⟩:=h
  rfl
 ·obtain ⟨x,d,rfl,rd,td,k⟩:=h
  refine ⟨_,(aA (aH (c7 (aG bC (by rfl) T.isinstance aX (aa (pv 0) (aa (cP rfl T.str kI) aj))) (dw (aD GN hr rfl DN.mg DN.F.kp DN.b .nil aO (aa (pv 0) aj)))))),?_⟩
  cases td with
  | @str y a l=>
    cases rd
    exact ⟨_,rfl,_,_,_,_,rfl,.str y,rfl,_,rfl,cC rfl ⟨_,rfl,y,rfl,Nat.le_trans l (by decide),k⟩⟩
  | @int i a b=>
    cases rd
    exact ⟨_,rfl,_,_,_,_,rfl,.int i,rfl,_,rfl,bQ rfl k⟩
  |nil=>exact ⟨_,rfl,_,_,_,_,rfl,rd,rfl,_,rfl,bQ rfl k⟩
  |node a l n z=>exact ⟨_,rfl,_,_,_,_,rfl,rd,rfl,_,rfl,bQ rfl k⟩
def Kv (K:Frag):Sp:=fun vs H Q _=>∃ (x:V) (d:PyData),vs=[x]/\Rep K H x d/\TD d/\Q (.bl (oX d)) H
theorem U9:aU ["thing"] ["thing"] (aC (top 26)):=⟨rfl,rfl,rfl,by decide +kernel,rfl,by decide +kernel,by decide +kernel⟩
theorem Ls (F:fj K "is_number" "is_number" (top 26) f fd) (T:Txt K mg) (TK:ph mg):aQ P w K mg base bL 1 f fd ["thing"] (Kv K):=by
 refine F.ok U9 (fun vs H Q E h=>?_) (fun cdv A outer s H vs Q E hr h=>?_)
 ·obtain ⟨x,d,rfl,_⟩:=h
  rfl
 ·obtain ⟨x,d,rfl,rd,td,k⟩:=h
  obtain ⟨tl,ml⟩:=TK.lim
  refine ⟨_,(aA (aH (c7 (aG bC (by rfl) T.isinstance aX (aa (pv 0) (aa (cP rfl T.int k_) aj))) (c7 (yH (aG bC (by rfl) T.isinstance aX (aa (pv 0) (aa (cP rfl T.bool gb) aj)))) (dw (iT fJ fJ (iV gD (bW (v:=.int 999999) rfl ml ⟨_,rfl⟩)) (pv 0) (bW (v:=.int 999999) rfl ml ⟨_,rfl⟩))))))),?_⟩
  cases td with
  | @int i a b=>
    cases rd
    refine ⟨_,rfl,_,_,_,_,rfl,.int i,rfl,_,rfl,cC rfl ⟨_,rfl,_,_,_,_,rfl,.int i,rfl,_,rfl,_,rfl,cC rfl ?_⟩⟩
    exact lB.chain (lB.neg lB.con) (lB.var rfl) lB.con zH.i0 zH.i0 _ k
  | @str y a l=>
    cases rd
    exact ⟨_,rfl,_,_,_,_,rfl,.str y,rfl,_,rfl,bQ rfl k⟩
  |nil=>exact ⟨_,rfl,_,_,_,_,rfl,rd,rfl,_,rfl,bQ rfl k⟩
  |node a l n z=>exact ⟨_,rfl,_,_,_,_,rfl,rd,rfl,_,rfl,bQ rfl k⟩
abbrev dW:List (Str×PyData):=[("not",.int 1),("and",.int 2),("or",.int 2)]
abbrev dS:List (Str×PyData):=[("less",.str "<"),("same",.str "=")]
structure Gg (K:Frag) (mg:Str->Option Value) (aW aS:Addr):Prop where
 mw:mg "WITHIN" = some (.ref aW)
 ms:mg "SIGN_OF" = some (.ref aS)
 kw:vL K aW dW
 ks:vL K aS dS
theorem Nz (f:Str):kY dW f=(arity f).map fun n=>V.int (n:Nat):=by
 unfold kY arity
 show ((if _ then _ else if _ then _ else if _ then _ else none:Option PyData)).map Rf=_
 by_cases h1:f = "not"
 ·subst h1;rfl
 ·by_cases h2:f = "and"
  ·subst h2;rfl
  ·by_cases h3:f = "or"
   ·subst h3;rfl
   ·simp [h1,h2,h3]
theorem JF (f:Str):kY dS f=if f = "less" then some (.str "<") else if f = "same" then some (.str "=") else none:=by
 unfold kY
 show ((if _ then _ else if _ then _ else none:Option PyData)).map Rf=_
 by_cases h1:f = "less"
 ·subst h1;rfl
 ·by_cases h2:f = "same"
  ·subst h2;rfl
  ·simp [h1,h2]
def Hf (K:Frag):Sp:=fun vs H Q _=>∃ (a:Addr) (f:Str) (r:List PyData),vs=[.ref a]/\Rep K H (.ref a) (.tuple (.str f::r))/\TD (.tuple (.str f::r))/\Q (.bl (dY f r)) H
theorem Jl:aU ["test","form"] ["test"] (aC (top 27)):=⟨rfl,rfl,rfl,by decide +kernel,rfl,by decide +kernel,by decide +kernel⟩
theorem Cz (F:fj K "is_leaf" "is_leaf" (top 27) f fd) (T:Txt K mg) (TK:ph mg) (TB:Gg K mg aW aS) (DI:cH K mg "is_name" (top 15) ["text"] fI fdI) (DW:cH K mg "is_word" (top 25) ["thing"] fW fdW) (DN:cH K mg "is_number" (top 26) ["thing"] fN fdN):aQ P w K mg base bL 3 f fd ["test"] (Hf K):=by
 have GW:aQ P w K mg base bL 2 fW fdW ["thing"] (NZ K):=K5 DW.F T TK DI
 have GN:aQ P w K mg base bL 1 fN fdN ["thing"] (Kv K):=Ls DN.F T TK
 refine F.ok Jl (fun vs H Q E h=>?_) (fun cdv A outer s H vs Q E hr h=>?_)
 ·obtain ⟨a,f,r,rfl,_⟩:=h
  rfl
 ·obtain ⟨a,f,r,rfl,rd,td,k⟩:=h
  have hr1:bK 1 _:=hr.mono (by decide)
  refine ⟨_,(aq (bj (i:=1) Jl.nd rfl (Or.inl rfl) (a_ aZ (pv 0) au (fun _ _=>rfl)))
   (aq (bc (aL bu (pv 1) aF (aN _)) (aA (aH (bH bu (aG aV (by rfl) T.len bR (aa (pv 0) aj)) au (aN _)))) aM)
   (aq (bc (aL bu (pv 1) aF (aN _)) (aA (aH (c7 (bH bu (aG aV (by rfl) T.len bR (aa (pv 0) aj)) au (aN _)) (dw (aD GW hr rfl DW.mg DW.F.kp DW.b .nil aO (aa (a_ aZ (pv 0) au (fun _ _=>rfl)) aj)))))) aM)
   (aA (aH (c7 (bH yd (pv 1) (bW (v:=.ref aS) rfl TB.ms rfl) rfl) (c7 (bH bu (aG aV (by rfl) T.len bR (aa (pv 0) aj)) au (aN _)) (c7 (aD GW hr rfl DW.mg DW.F.kp DW.b .nil aO (aa (a_ aZ (pv 0) au (fun _ _=>rfl)) aj)) (dw (aD GN hr1 rfl DN.mg DN.F.kp DN.b .nil aO (aa (a_ aZ (pv 0) au (fun _ _=>rfl)) aj))))))))))),?_⟩
  cases td with
  |node af lf nr tr=>
  cases rd with
  |@tup _ xs _ sq rs=>
  obtain ⟨x0,ys,rfl⟩:∃ x0 ys,xs=x0::ys:=by cases rs;exact ⟨_,_,rfl⟩
  obtain ⟨r0,rt⟩:Rep K H x0 (.str f)/\bw K H ys r:=by cases rs with|cons a b=>exact ⟨a,b⟩
  cases r0
  have hl:=rt.length
  refine ⟨_,rfl,a,_,_,_,rfl,rfl,sq,aJ (j:=0) rfl,_,rfl,rfl,_,rfl,?_⟩
  unfold dY at k
  by_cases h1:f = "all"
  ·subst h1
   rw [if_pos rfl] at k
   refine cC (by simp) ⟨_,rfl,a,_,rfl,.inr sq,rfl,?_⟩
   have e:decide (V.int ((V.str "all"::ys).length:Nat)=V.int 1)=r.isEmpty:=by
    rw [Bool.eq_iff_iff,decide_eq_true_eq,List.isEmpty_iff,List.length_cons,V.int.injEq]
    constructor
    ·intro h
     exact List.length_eq_zero_iff.mp (by omega)
    ·rintro rfl
     simp at hl
     simp [hl]
   rw [e]
   exact k
  ·rw [if_neg h1] at k
   refine bQ (by simp [h1]) ⟨_,rfl,rfl,_,rfl,?_⟩
   by_cases h2:f = "is"
   ·subst h2
    rw [if_pos rfl] at k
    refine cC (by simp) ⟨_,rfl,a,_,rfl,.inr sq,rfl,_,rfl,?_⟩
    match r,ys,rt,k,hl with
    |[],[],_,k,_=>exact bQ (by simp) k
    |[d],[y],.cons ry .nil,k,_=>exact cC (by simp) ⟨_,rfl,a,_,_,_,rfl,rfl,sq,aJ (j:=1) rfl,y,d,rfl,ry,tr d (List.mem_cons_self ..),k⟩
    |_::_::_,_::_::_,_,k,_=>exact bQ (by simp;omega) k
   ·rw [if_neg h2] at k
    refine bQ (by simp [h2]) ⟨_,rfl,f,aS,dS,rfl,rfl,TB.ks,_,rfl,?_⟩
    have e:(if false=true then !(kY dS f).isSome else (kY dS f).isSome)=decide (f = "less"∨f = "same"):=by
     rw [JF]
     by_cases q1:f = "less"
     ·simp [q1]
     ·by_cases q2:f = "same"
      ·rw [if_neg q1,if_pos q2];simp [q2]
      ·simp [q1,q2]
    rw [e]
    by_cases h3:f = "less"∨f = "same"
    ·rw [decide_eq_true h3,Bool.true_and] at k
     refine cC (by simp [h3]) ⟨_,rfl,a,_,rfl,.inr sq,rfl,_,rfl,?_⟩
     match r,ys,rt,k,hl with
     |[],[],_,k,_=>exact bQ (by simp) k
     |[d],[y],_,k,_=>exact bQ (by simp) k
     | [d,d2],[y,y2],.cons ry (.cons ry2 .nil),k,_=>
       refine cC (by simp) ⟨_,rfl,a,_,_,_,rfl,rfl,sq,aJ (j:=1) rfl,y,d,rfl,ry,tr d (List.mem_cons_self ..),_,rfl,?_⟩
       have k:Q (.bl (iW d && oX d2)) H:=k
       cases hw:iW d with
       |false=>rw [hw] at k;exact bQ rfl k
       | true=>
         rw [hw] at k
         exact cC rfl ⟨_,rfl,a,_,_,_,rfl,rfl,sq,aJ (j:=2) rfl,y2,d2,rfl,ry2,tr d2 (List.mem_cons_of_mem _ (List.mem_cons_self ..)),k⟩
     |_::_::_::_,_::_::_::_,_,k,_=>exact bQ (by simp;omega) k
    ·rw [decide_eq_false h3,Bool.false_and] at k
     exact bQ (by simp [h3]) k
end
theorem gC (h:arity f=some k):1≤k/\k≤2:=by
 unfold arity at h
 split at h
 ·cases h;omega
 ·split at h
  ·cases h;omega
  ·split at h
   ·cases h;omega
   ·cases h
theorem ud:∀ (n:Nat) (d:PyData),cnt n d+1≤2 ^ n
 |0,_=>by simp [cnt]
 | n+1,d=>by
   have ih:=ud n
   have p:1≤2 ^ n:=Nat.one_le_two_pow
   rw [Nat.pow_succ]
   by_cases hd:∃ f r,d=.tuple (.str f::r)
   ·obtain ⟨f,r,rfl⟩:=hd
    show (if dY f r=true then 1 else if arity f=some r.length then (if 0∈r.map (cnt n) then 0 else 1+(r.map (cnt n)).sum) else 0)+1≤_
    split
    ·omega
    ·split
     ·rename_i h
      split
      ·omega
      ·have a:=gC h
       match r,a with
       |[x],_=>have:=ih x;simp;omega
       |[x,y],_=>have:=ih x;have:=ih y;simp;omega
       |_::_::_::_,a=>simp at a
       |[],a=>simp at a
     ·omega
   ·have e:cnt (n+1) d=0:=by
     unfold cnt
     split
     ·omega
     ·exact absurd ⟨_,_,rfl⟩ hd
     ·rfl
    omega
theorem qN (g:PyData->Nat) (r:List PyData):(r.map fun d=>((g d:Nat):Int)).sum=(((r.map g).sum:Nat):Int):=by
 induction r with
 |nil=>rfl
 |cons d r ih=>rw [List.map_cons,List.map_cons,List.sum_cons,List.sum_cons,ih];omega
def xP (K:Frag) (n:Nat):Sp:=fun vs H Q _=>∃ (x:V) (d:PyData),vs=[x,.int (n:Nat)]/\Rep K H x d/\TD d/\∀ H',aB H H'->Q (.int (cnt n d:Nat)) H'
abbrev Vz:List Str:=["thing","deep","counts"]
theorem Mz:aU Vz ["thing","deep"] (aC (top 28)):=⟨rfl,rfl,rfl,by decide +kernel,rfl,by decide +kernel,by decide +kernel⟩
theorem lJ:gf (x::xs) (some 1) none=xs:=by
 simp [gf,HT.dR]
theorem Nq (DC:cH K mg "count_parts" (top 28) ["thing","deep"] f fd) (T:Txt K mg) (hsum:mg "sum" = none) (TK:ph mg) (TB:Gg K mg aW aS) (DI:cH K mg "is_name" (top 15) ["text"] fI fdI) (DW:cH K mg "is_word" (top 25) ["thing"] fW fdW) (DN:cH K mg "is_number" (top 26) ["thing"] fN fdN)
 (DL:cH K mg "is_leaf" (top 27) ["test"] fL fdL) (n:Nat) (hn5:n≤20):aQ P w K mg base bL (n+4) f fd ["thing","deep"] (xP K n):=by
 have GL:aQ P w K mg base bL 3 fL fdL ["test"] (Hf K):=Cz DL.F T TK TB DI DW DN
 have main:∀ m k:Nat,m≤20->(∀ n,n+1=m->aQ P w K mg base bL (n+4) f fd ["thing","deep"] (xP K n))->aQ P w K mg base bL (m+4) f fd ["thing","deep"] (xP K m):=by
  intro m k0 hm GC
  refine DC.F.ok Mz (fun vs H Q E h=>?_) (fun cdv A outer s H vs Q E hr h=>?_)
  ·obtain ⟨x,d,rfl,_⟩:=h
   rfl
  ·obtain ⟨x,d,rfl,rd,td,k⟩:=h
   have hr3:bK 3 _:=hr.mono (by omega)
   have GC':aQ P w K mg base bL (m+3) f fd ["thing","deep"] (fun vs H Q E=>∃ n,n+1=m/\xP K n vs H Q E):=by
    match m,GC with
    |0,_=>exact ⟨fun _ _ _ _ ⟨n,e,_⟩=>by omega,fun _ _ _ _ _ _ _ _ _ _ _ _ _ ⟨n,e,_⟩=>by omega⟩
    | m+1,GC=>
      have G:=GC m rfl
      exact ⟨fun vs H Q E ⟨n,e,h⟩=>by cases e;exact G.1 vs H Q E h,fun a1 a2 a3 a4 a5 a6 a7 a8 a9 a10 a11 a12 a13 ⟨n,e,h⟩=>by cases e;exact G.2 a1 a2 a3 a4 a5 a6 a7 a8 a9 a10 a11 a12 a13 h⟩
   refine ⟨_,(aq (bc (PW.pt (gM (aL bu (pv 1) au (aN _)) (gM (du (cD (aG bC (by rfl) T.isinstance aX (aa (pv 0) (aa (cP rfl T.tuple eV) aj))))) (fH (aL bu (aG aV (by rfl) T.len bR (aa (pv 0) aj)) au (aN _)))))) (aA (aH au)) aM)
    (aq (bc (cD (aD GL hr3 rfl DL.mg DL.F.kp DL.b .nil aO (aa (pv 0) aj))) (aA (aH au)) aM)
    (aq (bc (aL lA (wQ (bW (v:=.ref aW) rfl TB.mw rfl) (a_ aZ (pv 0) au (fun _ _=>rfl)) ⟨rfl,rfl,rfl,rfl⟩) (bh e_ (aG aV (by rfl) T.len bR (aa (pv 0) aj)) au) (aN _)) (aA (aH au)) aM)
    (aq (gw (g:=bM 0) (i:=2) (own:=["part"]) (js:=[1]) (N':=["part","deep"]) (bN.of (osc:=aC (top 28)) (N:=Vz) rfl rfl ⟨rfl,by decide +kernel,by decide +kernel,by decide +kernel,rfl,by decide +kernel⟩) rfl Mz.nd rfl rfl (iw (bV d_ (pv 0) (cF au) cG)) (fun _ _ _ _ _=>(aR (i:=0) (show List.Nodup (["part","deep"]:List Str) by decide +kernel) rfl (Or.inl rfl) (Or.inr rfl))) (fun _ _ _ _ _=>dh) (fun _ _ _ _ _=>aD GC' hr rfl DC.mg DC.F.kp DC.b .nil aO (aa (pv 0) (aa (bh e_ (pv 1) au) aj))))
    (aA (aH (gJ (aL dX au (pv 2) rfl) au (bh cX au (aG (oJ rfl) (by rfl) hsum zm (aa (pv 2) aj)))))))))),?_⟩
   refine ⟨_,rfl,rfl,_,rfl,?_⟩
   by_cases h0:m=0
   ·subst h0
    exact cC (by simp) (cC rfl (k _ (aB.refl _)))
   refine bQ (by simp [h0]) ?_
   obtain ⟨n,rfl⟩:∃ n,m=n+1:=⟨m-1,by omega⟩
   cases td with
   |str a l=>cases rd;exact ⟨_,rfl,_,_,_,_,rfl,.str _,rfl,_,rfl,cC rfl (cC rfl (k _ (aB.refl _)))⟩
   |int a b=>cases rd;exact ⟨_,rfl,_,_,_,_,rfl,.int _,rfl,_,rfl,cC rfl (cC rfl (k _ (aB.refl _)))⟩
   | nil=>
     cases rd with
     |@tup a xs _ sq rs=>
     cases rs
     exact ⟨_,rfl,_,_,_,_,rfl,.tup sq .nil,rfl,_,rfl,bQ rfl ⟨_,rfl,a,_,rfl,.inr sq,rfl,_,rfl,cC (by simp) (k _ (aB.refl _))⟩⟩
   |@node f r af lf nr tr=>
   have rd0:=rd
   cases rd with
   |@tup a xs _ sq rs=>
   obtain ⟨x0,ys,rfl⟩:∃ x0 ys,xs=x0::ys:=by cases rs;exact ⟨_,_,rfl⟩
   obtain ⟨r0,rt⟩:Rep K H x0 (.str f)/\bw K H ys r:=by cases rs with|cons a b=>exact ⟨a,b⟩
   cases r0
   have hl:=rt.length
   refine ⟨_,rfl,_,_,_,_,rfl,rd0,rfl,_,rfl,bQ rfl ⟨_,rfl,a,_,rfl,.inr sq,rfl,_,rfl,bQ (by simp;omega) ?_⟩⟩
   refine ⟨_,rfl,a,f,r,rfl,rd0,.node af lf nr tr,_,rfl,?_⟩
   have e1:cnt (n+1) (.tuple (.str f::r))=if dY f r=true then 1 else if arity f=some r.length then (if 0∈r.map (cnt n) then 0 else 1+(r.map (cnt n)).sum) else 0:=rfl
   rw [e1] at k
   by_cases hlf:dY f r=true
   ·rw [if_pos hlf] at k
    rw [hlf]
    exact cC rfl (k _ (aB.refl _))
   rw [if_neg hlf] at k
   rw [Bool.eq_false_iff.mpr hlf]
   refine bQ rfl ?_
   refine ⟨aW,dW,rfl,TB.kw,_,rfl,a,_,_,_,rfl,rfl,sq,aJ (j:=0) rfl,f,rfl,_,rfl,a,_,rfl,.inr sq,_,_,rfl,rfl,?_⟩
   rw [Nz]
   by_cases ha:arity f=some r.length
   ·rw [if_pos ha] at k
    rw [ha]
    refine ⟨rfl,_,rfl,bQ (by simp;omega) ?_⟩
    refine ⟨_,rfl,1,rfl,a,_,rfl,sq,(fun e=>?_),fun p hp=>?_⟩
    ·rw [lJ] at e
     have:=congrArg List.length e
     simp at this
    ·rw [lJ]
     have sp:bB K (upd H p (.tup ys)) p ys:=bB.of ak
     have s1:aB H (upd H p (.tup ys)):=aB.new hp
     generalize upd H p (.tup ys)=H1 at sp s1 ⊢
     refine ⟨p,rfl,⟨_,sp⟩,?_⟩
     refine iI (K:=K) (a:=p) (xs:=ys) (fun i zs σ' H'=>(∃ v,σ'=[v,some (.int (n+1:Nat))])/\aB H1 H'/\zs=((r.take i).map fun d=>V.int (cnt n d:Nat))) (Nat.le_trans (show ys.length≤20 by omega) (by decide)) ⟨⟨none,rfl⟩,aB.refl _,rfl⟩ (fun i zs σ' H' _ ⟨_,s2,_⟩=>s2.tup sp) ?_ ?_
     ·rintro i y zs σ' H2 hy hzs ⟨⟨v,rfl⟩,s2,rfl⟩ N hN
      obtain ⟨d,hd,ry⟩:=rt.get' hy
      refine ⟨_,rfl,_,rfl,_,_,rfl,rfl,n,rfl,y,d,?_,ry.same (s1.trans s2),tr d (List.mem_of_getElem? hd),fun H3 s3=>?_⟩
      ·show [y,V.int ((n+1:Nat)-1)]=[y,V.int (n:Nat)]
       rw [show (((n+1:Nat):Int)-1)=(n:Nat) by omega]
      ·exact hN _ _ _ (by rw [List.length_append,hzs];rfl) ⟨⟨_,rfl⟩,s2.trans s3,by rw [List.take_add_one,hd];simp⟩
     ·rintro zs σ' H2 hzs ⟨⟨v,rfl⟩,s2,rfl⟩
      rw [List.take_of_length_le (by omega)]
      have lr:(r.map fun d=>V.int (cnt n d:Nat)).length≤20:=by rw [List.length_map];omega
      refine ⟨Nat.le_trans lr (by decide),fun q hq=>?_⟩
      have s3:aB H (upd H2 q (.lst (r.map fun d=>V.int (cnt n d:Nat)))):=(s1.trans s2).trans (aB.new hq)
      have sq2:bJ K (upd H2 q (.lst (r.map fun d=>V.int (cnt n d:Nat)))) q (r.map fun d=>V.int (cnt n d:Nat)):=bJ.of ak
      generalize upd H2 q (.lst (r.map fun d=>V.int (cnt n d:Nat)))=H3 at s3 sq2 ⊢
      refine ⟨_,rfl,q,_,rfl,.inl sq2,rfl,by simp [jy],_,rfl,?_⟩
      have ein:(if false=true then !inV (.int 0) (r.map fun d=>V.int (cnt n d:Nat)) else inV (.int 0) (r.map fun d=>V.int (cnt n d:Nat)))=decide (0∈r.map (cnt n)):=by
       show inV (.int 0) (r.map fun d=>V.int (cnt n d:Nat))=_
       rw [Bool.eq_iff_iff,decide_eq_true_eq]
       unfold inV
       simp only [List.any_eq_true,List.mem_map]
       constructor
       ·rintro ⟨_,⟨d,hd,rfl⟩,he⟩
        exact ⟨d,hd,by simpa [rG] using he⟩
       ·rintro ⟨d,hd,he⟩
        exact ⟨_,⟨d,hd,rfl⟩,by simp [he,rG]⟩
      rw [ein]
      by_cases hz:0∈r.map (cnt n)
      ·rw [if_pos hz] at k
       rw [decide_eq_true hz]
       exact cC rfl (k _ s3)
      ·rw [if_neg hz] at k
       rw [decide_eq_false hz]
       refine bQ rfl ?_
       refine ⟨_,rfl,q,r.map fun d=>((cnt n d:Nat):Int),rfl,by rw [List.map_map];exact sq2,by rw [List.length_map];omega,fun x hx=>?_,_,_,rfl,rfl,?_⟩
       ·obtain ⟨d,_,rfl⟩:=List.mem_map.mp hx
        have:=ud n d
        have p20:2 ^ n≤2 ^ 20:=Nat.pow_le_pow_right (by decide) (by omega)
        have:(2:Nat) ^ 20=1048576:=by decide
        omega
       ·have es:=qN (cnt n) r
        rw [es]
        have:=k _ s3
        rw [show ((1+(r.map (cnt n)).sum:Nat):Int)=1+(((r.map (cnt n)).sum:Nat):Int) by omega] at this
        exact this
   ·rw [if_neg ha] at k
    cases hb:arity f with
    |none=>exact ⟨rfl,_,rfl,cC rfl (k _ (aB.refl _))⟩
    | some j=>
      refine ⟨rfl,_,rfl,cC ?_ (k _ (aB.refl _))⟩
      have:¬ j=r.length:=fun e=>ha (by rw [hb,e])
      simp
      omega
 induction n with
 |zero=>exact main 0 0 (by omega) (fun n e=>by omega)
 |succ n ih=>exact main (n+1) 0 hn5 (fun n' e=>by cases e;exact ih (by omega))
theorem mO:∀ {r:List PyData} {d:PyData},shapes r=true->d∈r->bD d=true
 | e::r,d,h,m=>by
   have h:(bD e && shapes r)=true:=h
   rw [Bool.and_eq_true] at h
   rcases List.mem_cons.mp m with rfl|m
   ·exact h.1
   ·exact mO h.2 m
theorem n_:∀ {r:List PyData} {d:PyData},d∈r->bF d≤dm r
 | e::r,d,m=>by
   have h:dm (e::r)=max (bF e) (dm r):=rfl
   rcases List.mem_cons.mp m with rfl|m
   ·omega
   ·have:=n_ m
    omega
theorem j4:∀ (a b:List PyData),fV (a++b)=fV a++fV b
 |[],b=>rfl
 | d::a,b=>by
   show j_ d++fV (a++b)=(j_ d++fV a)++fV b
   rw [j4 a b,List.append_assoc]
theorem dG (d:PyData):fV [d]=j_ d:=by
 show j_ d++[]=_
 rw [List.append_nil]
structure Node (n:Nat) (f:Str) (r:List PyData):Prop where
 ar:arity f=some r.length
 sh:∀ d∈r,bD d=true
 de:∀ d∈r,bF d≤n
theorem gj (h:bD (.tuple (.str f::r))=true) (hd:bF (.tuple (.str f::r))≤n+1):(arity f=none/\dY f r=true)∨Node n f r:=by
 rw [eU] at h
 by_cases ha:arity f=none
 ·rw [if_pos ha] at h
  exact .inl ⟨ha,h⟩
 ·rw [if_neg ha,Bool.and_eq_true,decide_eq_true_eq] at h
  have e:bF (.tuple (.str f::r))=if (arity f).isSome=true then 1+dm r else 1:=rfl
  rw [h.1] at e
  have e:bF (.tuple (.str f::r))=1+dm r:=e
  exact .inr ⟨h.1,fun d m=>mO h.2 m,fun d m=>by have:=n_ m;omega⟩
theorem cA (td:TD d) (h:bD d=true):∃ f r,d=.tuple (.str f::r):=by
 cases td with
 |node a b c e=>exact ⟨_,_,rfl⟩
 |_=>exact absurd h (by simp [bD])
theorem iC:∀ {n:Nat} {d:PyData},TD d->bD d=true->bF d≤n->(j_ d).length≤2 ^ n
 |0,d,_,_,h=>by have:=dj d;omega
 | n+1,d,td,sh,h=>by
   obtain ⟨f,r,rfl⟩:=cA td sh
   have p:1≤2 ^ n:=Nat.one_le_two_pow
   have e:j_ (.tuple (.str f::r))=if (arity f).isSome=true then fV r else [.tuple (.str f::r)]:=rfl
   rw [e,Nat.pow_succ]
   cases td with
   |node a b c tr=>
   rcases gj sh h with ⟨ha,_⟩|N
   ·rw [ha];simp;omega
   ·rw [N.ar]
    simp only [Option.isSome_some,if_true]
    have a2:=gC N.ar
    match r,a2,N,tr with
    | [x],_,N,tr=>
      have:=iC (tr x (by simp)) (N.sh x (by simp)) (N.de x (by simp))
      rw [dG];omega
    | [x,y],_,N,tr=>
      have h1:=iC (tr x (by simp)) (N.sh x (by simp)) (N.de x (by simp))
      have h2:=iC (tr y (by simp)) (N.sh y (by simp)) (N.de y (by simp))
      have:fV [x,y]=j_ x++j_ y:=by rw [show [x,y]=[x]++[y] from rfl,j4,dG,dG]
      rw [this,List.length_append];omega
    |_::_::_::_,a2,_,_=>simp at a2
    |[],a2,_,_=>simp at a2
theorem mR:∀ {n:Nat} {d:PyData},TD d->bD d=true->bF d≤n->∀ e∈j_ d,TD e
 |0,d,_,_,h=>by have:=dj d;omega
 | n+1,d,td,sh,h=>by
   obtain ⟨f,r,rfl⟩:=cA td sh
   intro e he
   have td':=td
   have eq:j_ (.tuple (.str f::r))=if (arity f).isSome=true then fV r else [.tuple (.str f::r)]:=rfl
   rw [eq] at he
   cases td with
   |node a b c tr=>
   rcases gj sh h with ⟨ha,_⟩|N
   ·rw [ha] at he
    simp at he
    rw [he];exact td'
   ·rw [N.ar] at he
    simp only [Option.isSome_some,if_true] at he
    have a2:=gC N.ar
    match r,a2,N,tr,he with
    | [x],_,N,tr,he=>
      rw [dG] at he
      exact mR (tr x (by simp)) (N.sh x (by simp)) (N.de x (by simp)) e he
    | [x,y],_,N,tr,he=>
      have:fV [x,y]=j_ x++j_ y:=by rw [show [x,y]=[x]++[y] from rfl,j4,dG,dG]
      rw [this,List.mem_append] at he
      rcases he with he|he
      ·exact mR (tr x (by simp)) (N.sh x (by simp)) (N.de x (by simp)) e he
      ·exact mR (tr y (by simp)) (N.sh y (by simp)) (N.de y (by simp)) e he
    |_::_::_::_,a2,_,_,_=>simp at a2
    |[],a2,_,_,_=>simp at a2
theorem q8 (h:bB K H a xs) (hq:H q=some (.lst ys)):bB K (upd H q o) a xs:=by
 rcases h with (h|⟨ob,h⟩)|h
 ·exact .inl (.inl (by rw [aK (fK h hq (by intro z;cases z))];exact h))
 ·exact .inl (.inr ⟨ob,by rw [aK (fK h hq (by intro z;cases z))];exact h⟩)
 ·exact .inr h
theorem Ak (hq:H q=some (.lst ys)):∀ {d:PyData} {v:V},TD d->Rep K H v d->Rep K (upd H q o) v d:=by
 intro d v td
 induction td generalizing v with
 |str a l=>intro r;cases r;exact .str _
 |int a b=>intro r;cases r;exact .int _
 |nil=>intro r;cases r with|tup sq rs=>cases rs;exact .tup (q8 sq hq) .nil
 | @node f r a b c tr ih=>
   intro rp
   cases rp with
   |tup sq rs=>
   cases rs with
   |cons r0 rs=>
   cases r0
   refine .tup (q8 sq hq) (.cons (.str _) ?_)
   have:∀ {l:List PyData} {vs:List V},(∀ d∈l,d∈r)->bw K H vs l->bw K (upd H q o) vs l:=by
    intro l
    induction l with
    |nil=>intro vs _ h;cases h;exact .nil
    | cons e l ihl=>
      intro vs hm h
      cases h with
      |cons h1 h2=>exact .cons (ih e (hm e (List.mem_cons_self ..)) h1) (ihl (fun d m=>hm d (List.mem_cons_of_mem _ m)) h2)
   exact this (fun d m=>m) rs
theorem mH (hq:H q=some (.lst ys)):∀ {l:List PyData} {vs:List V},(∀ d∈l,TD d)->bw K H vs l->bw K (upd H q o) vs l
 |[],_,_,.nil=>.nil
 |e::l,_,ht,.cons a b=>.cons (Ak hq (ht e (List.mem_cons_self ..)) a) (mH hq (fun d m=>ht d (List.mem_cons_of_mem _ m)) b)
theorem iY:∀ {l m:List PyData} {vs us:List V},bw K H vs l->bw K H us m->bw K H (vs++us) (l++m)
 |[],_,_,_,.nil,h=>h
 |_::_,_,_,_,.cons a b,h=>.cons a (iY b h)
section
variable {P:Program} {w:World} {K:PySem.W.Frag} {mg:Str->Option Value} {base:Heap}
structure Jj (mg:Str->Option Value):Prop where
 mp:∃ t,mg "MOST_PARTS" = some (.int 15 t)
 md:∃ t,mg "MOST_DEEP" = some (.int 5 t)
def Mx (K:Frag):Sp:=fun vs H Q _=>∃ (x:V) (d:PyData),vs=[x]/\Rep K H x d/\TD d/\∀ H',aB H H'->Q (.bl (dO d)) H'
theorem Uc:aU ["test"] ["test"] (aC (top 29)):=⟨rfl,rfl,rfl,by decide +kernel,rfl,by decide +kernel,by decide +kernel⟩
theorem KY (F:fj K "is_test" "is_test" (top 29) f fd) (TT:Jj mg) (DC:cH K mg "count_parts" (top 28) ["thing","deep"] fC fdC) (GC:aQ P w K mg base bL 9 fC fdC ["thing","deep"] (xP K 5)):aQ P w K mg base bL 10 f fd ["test"] (Mx K):=by
 refine F.ok Uc (fun vs H Q E h=>?_) (fun cdv A outer s H vs Q E hr h=>?_)
 ·obtain ⟨x,d,rfl,_⟩:=h
  rfl
 ·obtain ⟨x,d,rfl,rd,td,k⟩:=h
  obtain ⟨t1,mp⟩:=TT.mp
  obtain ⟨t2,md⟩:=TT.md
  refine ⟨_,(aA (aH (iT fJ fJ au (aD GC hr rfl DC.mg DC.F.kp DC.b .nil aO (aa (pv 0) (aa (bW (v:=.int 5) rfl md ⟨_,rfl⟩) aj))) (bW (v:=.int 15) rfl mp ⟨_,rfl⟩)))),?_⟩
  refine ⟨_,rfl,x,d,rfl,rd,td,fun H' s1=>⟨_,_,rfl,rfl,_,rfl,?_⟩⟩
  have k:=k H' s1
  rw [← zM] at k
  refine f9 (fun h=>?_) (fun h=>?_)
  ·refine ⟨_,_,rfl,rfl,?_⟩
   have e1:1≤cnt 5 d:=by simp at h;omega
   have e2:decide (((cnt 5 d:Nat):Int)≤15)=decide (cnt 5 d≤15):=by rw [Bool.eq_iff_iff];simp;omega
   rw [decide_eq_true e1,Bool.true_and] at k
   show Q (.bl (decide (((cnt 5 d:Nat):Int)≤15))) H'
   rw [e2]
   exact k
  ·have e1:¬ 1≤cnt 5 d:=by simp at h;omega
   rw [decide_eq_false e1,Bool.false_and] at k
   exact k
abbrev Sq:List (Str×V):=[("word",.str "badtest")]
def NQ (K:Frag) (cT:Addr):Sp:=fun vs H Q E=>∃ (x:V) (d:PyData),vs=[x]/\Rep K H x d/\TD d/\(dO d=true->∀ H',aB H H'->Q .non H')/\(dO d=false->∀ H1 da H',aB H H1->pF H1 Sq da H'->E (.ref cT) (some da) H')
theorem Tj:aU ["test"] ["test"] (aC (top 30)):=⟨rfl,rfl,rfl,by decide +kernel,rfl,by decide +kernel,by decide +kernel⟩
theorem Kq (F:fj K "need_test" "need_test" (top 30) f fd) (DI:cH K mg "is_test" (top 29) ["test"] fI fdI) (GI:aQ P w K mg base bL 10 fI fdI ["test"] (Mx K)) (WT:Lk K mg "BadTest" cT fT fdT) (GT:aQ P w K mg base bL 2 fT fdT ["self","words"] (VH K "badtest")):aQ P w K mg base (sW P w) 11 f fd ["test"] (NQ K cT):=by
 refine F.ok1 Tj (fun vs H Q E h=>?_) (fun cdv A outer s H vs Q E hr h=>?_)
 ·obtain ⟨x,d,rfl,_⟩:=h
  rfl
 ·obtain ⟨x,d,rfl,rd,td,k,kx⟩:=h
  have hr3:bK 3 _:=hr.mono (by decide)
  refine ⟨_,(aA (bc (du (cD (aD (E:=E0) GI hr rfl DI.mg DI.F.kp DI.b .nil aO (aa (pv 0) aj)))) (aA (yE (B:="ValueError") (newId:="ValueError.__new__") (W:=E)
   (yX (E:=E0) PySem.F.excBase_ValueError WT.e.x WT.i WT.n GT hr3 (by rfl) WT.mg WT.b .nil aO (aa aF aj)) rfl rfl (fun Z σ H' s' e cls dd I x q=>VP I x q))) aM)),?_⟩
  refine ⟨_,rfl,x,d,rfl,rd,td,fun H1 s1=>⟨_,rfl,?_⟩⟩
  cases h:dO d with
  |true=>exact bQ rfl (k h H1 s1)
  | false=>
    refine cC rfl ?_
    intro e he
    refine ⟨e,cT,_,rfl,WT.e,ak,fun da hda=>⟨rfl,e,cT,some da,rfl,?_,ii s1 he,WT.e.x,kx h H1 da _ s1 (vd he hda)⟩⟩
    have ne:e≠da:=fun q=>by subst q;rw [ak] at hda;cases hda
    rw [aK ne,ak]
theorem m9 (h:dO d=true):bD d=true/\bF d≤5/\cu d≤15:=by
 unfold dO at h
 simpa using h
end
inductive jU:Str->List PyData->Prop
 |all:jU "all" []
 |is {x:Str}:nameB x=true->jU "is" [.str x]
 |num {f x:Str} {i:Int}:f = "less"∨f = "same"->nameB x=true->oX (.int i)=true->jU f [.str x,.int i]
theorem pq (h:dY f r=true):jU f r:=by
 unfold dY at h
 by_cases h1:f = "all"
 ·subst h1
  rw [if_pos rfl,List.isEmpty_iff] at h
  subst h
  exact .all
 ·rw [if_neg h1] at h
  by_cases h2:f = "is"
  ·subst h2
   rw [if_pos rfl] at h
   cases r with
   |nil=>cases h
   | cons d r=>
     cases r with
     |cons _ _=>cases h
     | nil=>
       cases d with
       |str x=>exact .is h
       |_=>exact absurd h (by simp [iW])
  ·rw [if_neg h2,Bool.and_eq_true,decide_eq_true_eq] at h
   obtain ⟨h0,h⟩:=h
   cases r with
   |nil=>cases h
   | cons d r=>
     cases r with
     |nil=>cases h
     | cons e r=>
       cases r with
       |cons _ _=>cases h
       | nil=>
         have h:(iW d && oX e)=true:=h
         rw [Bool.and_eq_true] at h
         cases d with
         | str x=>
           cases e with
           |int i=>exact .num h0 h.1 h.2
           |_=>exact absurd h.2 (by simp [oX])
         |_=>exact absurd h.1 (by simp [iW])
theorem jU.ar (h:jU f r):arity f=none:=by
 cases h with
 |all=>decide +kernel
 |is _=>decide +kernel
 |num h _ _=>rcases h with rfl|rfl <;> decide +kernel
theorem pY (h:Nm x):gV x:=by
 unfold gV
 rw [← Array.all_toList,List.all_eq_true]
 intro c hc
 have:=h.lc c hc
 simp;omega
structure Tr (n:Nat) (d:PyData):Prop where
 td:TD d
 sh:bD d=true
 dp:cz d≤n
theorem Cv (h:Nm x):TD (.str x):=.str (pY h) (by have:=h.hi;omega)
theorem jU.tr (h:jU f r):Tr 1 (.tuple (.str f::r)):=by
 have sh:bD (.tuple (.str f::r))=true:=by
  rw [eU,h.ar,if_pos rfl]
  cases h with
  |all=>rfl
  |is n=>exact n
  | num h n m=>
    unfold dY
    rcases h with rfl|rfl
    ·rw [if_neg (by decide +kernel),if_neg (by decide +kernel)];simp [iW,n,m]
    ·rw [if_neg (by decide +kernel),if_neg (by decide +kernel)];simp [iW,n,m]
 cases h with
 |all=>exact ⟨.node (by unfold gV;decide +kernel) (by decide +kernel) (by simp) (by simp),sh,by simp [cz,bI]⟩
 | @is x n=>
   refine ⟨.node (by unfold gV;decide +kernel) (by decide +kernel) (by simp) (fun d m=>?_),sh,by simp [cz,bI]⟩
   simp at m;subst m
   exact Cv ((gq x).mp n)
 | @num f x i h n m1=>
   refine ⟨.node ?_ ?_ (by simp) (fun d m=>?_),sh,by simp [cz,bI]⟩
   ·rcases h with rfl|rfl <;> (unfold gV;decide +kernel)
   ·rcases h with rfl|rfl <;> decide +kernel
   ·simp at m
    rcases m with rfl|rfl
    ·exact Cv ((gq x).mp n)
    ·have h:(decide (-999999≤i) && decide (i≤999999))=true:=m1
     simp at h
     have:(1000000:Int)≤rW:=by decide
     exact .int (by omega) (by omega)
def JK:Sp:=fun vs H Q _=>∃ (p dc:Addr),vs=[.ref p]/\Dr H p dc/\∀ (z:Int) (H':Hp),-999999≤z->z≤999999->Dr H' p dc->cL p H H'->Q (.int z) H'
theorem Ks:aU ["_law_d"] ["_law_d"] (aC (top 58)):=⟨rfl,rfl,rfl,by decide +kernel,rfl,by decide +kernel,by decide +kernel⟩
theorem KJ (F:fj K "_law_number" "_law_number" (top 58) f fd) (T:Txt K mg) (DP:cH K mg "_law_pick" (top 49) ["_law_d","_law_many"] fP fdP) (DO:cH K mg "_law_of" (top 50) ["_law_d","_law_things"] fO fdO):aQ P w K mg base bL 3 f fd ["_law_d"] JK:=by
 have GP:aQ P w K mg base bL 1 fP fdP ["_law_d","_law_many"] gR:=fZ DP.F T
 have GO:aQ P w K mg base bL 2 fO fdO ["_law_d","_law_things"] (rQ K):=oA DO.F T DP
 refine F.ok Ks (fun vs H Q E h=>?_) (fun cdv A outer s H vs Q E hr h=>?_)
 ·obtain ⟨p,dc,rfl,_⟩:=h
  rfl
 ·obtain ⟨p,dc,rfl,D,k⟩:=h
  have hr1:bK 1 _:=hr.mono (by decide)
  refine ⟨_,(aA (aH (aD GO hr rfl DO.mg DO.F.kp DO.b .nil aO (aa (pv 0) (aa (bY (aa au (aa au (aa (aD GP hr1 rfl DP.mg DP.F.kp DP.b .nil aO (aa (pv 0) (aa au aj))) (aa (bh e_ (aD GP hr1 rfl DP.mg DP.F.kp DP.b .nil aO (aa (pv 0) (aa au aj))) au) (aa au (aa (iV gD au) (aa (bh e_ (aD GP hr1 rfl DP.mg DP.F.kp DP.b .nil aO (aa (pv 0) (aa au aj))) au) aj)))))))) aj))))),?_⟩
  refine ⟨_,rfl,_,rfl,p,dc,_,rfl,D,by decide,by decide,fun r1 H1 r10 r11 D1 b1=>?_⟩
  refine ⟨_,rfl,p,dc,_,rfl,D1,by decide,by decide,fun r2 H2 r20 r21 D2 b2=>⟨_,_,rfl,rfl,_,rfl,?_⟩⟩
  refine ⟨_,rfl,p,dc,_,rfl,D2,by decide,by decide,fun r3 H3 r30 r31 D3 b3=>⟨_,_,rfl,rfl,(show 7≤sizeLine by decide),fun q hq=>?_⟩⟩
  refine ⟨p,dc,q,_,rfl,D3.new hq,bJ.of ak,by simp,by simp,fun y H4 hy D4 b4=>?_⟩
  obtain ⟨z,rfl,h1,h2⟩:∃ z:Int,y=.int z/\-999999≤z/\z≤999999:=by
   simp only [List.mem_cons,List.not_mem_nil,or_false] at hy
   rcases hy with rfl|rfl|rfl|rfl|rfl|rfl|rfl
   all_goals exact ⟨_,rfl,by omega,by omega⟩
  exact k z H4 h1 h2 D4 (((b1.trans b2).trans b3).trans ((cL.new hq).trans b4))
def BJ (K:Frag):Sp:=fun vs H Q _=>∃ (p dc q q':Addr) (ys ys':List Str),vs=[.ref p,.ref q,.ref q']/\Dr H p dc/\bJ K H q (ys.map V.str)/\bJ K H q' (ys'.map V.str)/\ys≠[]/\ys'≠[]/\ys.length≤100/\ys'.length≤100/\(∀ y∈ys,Nm y)/\(∀ y∈ys',Nm y)/\
 ∀ (x:V) (f:Str) (r:List PyData) (H':Hp),Rep K H' x (.tuple (.str f::r))->jU f r->Dr H' p dc->cL p H H'->Q x H'
abbrev Wi:List Str:=["_law_d","_law_names","_law_kinds","_law_way"]
theorem Ql:aU Wi ["_law_d","_law_names","_law_kinds"] (aC (top 59)):=⟨rfl,rfl,rfl,by decide +kernel,rfl,by decide +kernel,by decide +kernel⟩
theorem uC {ys:List Str} (h:v∈ys.map V.str):∃ y∈ys,v=.str y:=by
 obtain ⟨y,m,rfl⟩:=List.mem_map.mp h
 exact ⟨y,m,rfl⟩
theorem Cp (F:fj K "_law_leaf" "_law_leaf" (top 59) f fd) (T:Txt K mg) (DP:cH K mg "_law_pick" (top 49) ["_law_d","_law_many"] fP fdP) (DO:cH K mg "_law_of" (top 50) ["_law_d","_law_things"] fO fdO) (DN:cH K mg "_law_number" (top 58) ["_law_d"] fN fdN):aQ P w K mg base bL 4 f fd ["_law_d","_law_names","_law_kinds"] (BJ K):=by
 have GP:aQ P w K mg base bL 1 fP fdP ["_law_d","_law_many"] gR:=fZ DP.F T
 have GO:aQ P w K mg base bL 2 fO fdO ["_law_d","_law_things"] (rQ K):=oA DO.F T DP
 have GN:aQ P w K mg base bL 3 fN fdN ["_law_d"] JK:=KJ DN.F T DP DO
 refine F.ok Ql (fun vs H Q E h=>?_) (fun cdv A outer s H vs Q E hr h=>?_)
 ·obtain ⟨p,dc,q,q',ys,ys',rfl,_⟩:=h
  rfl
 ·obtain ⟨p,dc,q,q',ys,ys',rfl,D,hq,hq',ne,ne',l,l',nm,nm',k⟩:=h
  have hr1:bK 1 _:=hr.mono (by decide)
  have hr2:bK 2 _:=hr.mono (by decide)
  refine ⟨_,(aq (bj (i:=3) Ql.nd rfl (Or.inl rfl) (aD GP hr1 rfl DP.mg DP.F.kp DP.b .nil aO (aa (pv 0) (aa au aj))))
   (aq (bc (aL bu (pv 3) au (aN _)) (aA (aH (bz (aa aF aj)))) aM)
   (aq (bc (aL bu (pv 3) au (aN _)) (aA (aH (bz (aa aF (aa (aD GO hr2 rfl DO.mg DO.F.kp DO.b .nil aO (aa (pv 0) (aa (pv 2) aj))) aj))))) aM)
   (aA (aH (bz (aa (a_ cR (bY (aa aF (aa aF aj))) (bh gU (pv 3) au) (fun _ _=>rfl)) (aa (aD GO hr2 rfl DO.mg DO.F.kp DO.b .nil aO (aa (pv 0) (aa (pv 1) aj))) (aa (aD GN hr rfl DN.mg DN.F.kp DN.b .nil aO (aa (pv 0) aj)) aj))))))))),?_⟩
  refine ⟨_,rfl,p,dc,_,rfl,D,by decide,by decide,fun w1 H1 w0 w6 D1 b1=>⟨_,rfl,rfl,_,rfl,?_⟩⟩
  refine f9 (fun _=>⟨(show 1≤sizeLine by decide),fun t ht=>?_⟩) (fun _=>⟨_,rfl,rfl,_,rfl,?_⟩)
  ·exact k _ "all" [] _ (.tup (bB.of ak) (.cons (.str _) .nil)) .all (D1.new ht) (b1.trans (cL.new ht))
  refine f9 (fun _=>?_) (fun _=>?_)
  ·refine ⟨_,rfl,_,rfl,p,dc,q',_,rfl,D1,D.seq b1 hq',by simpa using ne',by rw [List.length_map];omega,fun y H2 hy D2 b2=>⟨(show 2≤sizeLine by decide),fun t ht=>?_⟩⟩
   obtain ⟨y,my,rfl⟩:=uC hy
   exact k _ "is" [.str y] _ (.tup (bB.of ak) (.cons (.str _) (.cons (.str _) .nil))) (.is ((gq y).mpr (nm' y my))) (D2.new ht) ((b1.trans b2).trans (cL.new ht))
  ·refine ⟨(show 2≤sizeLine by decide),fun l0 hl0=>⟨_,rfl,_,_,rfl,rfl,(by show (0:Int)<2;decide),?_⟩⟩
   have b2:cL p H (upd H1 l0 (.lst [.str "less",.str "same"])):=b1.trans (cL.new hl0)
   obtain ⟨j,hj,ej⟩:∃ j:Nat,j<2/\w1 % 2=j:=⟨(w1 % 2).toNat,by omega,by omega⟩
   have D2:=D1.new (o:=.lst [.str "less",.str "same"]) hl0
   obtain ⟨f0,hf,ef⟩:∃ f0:Str,(f0 = "less"∨f0 = "same")/\([V.str "less",V.str "same"])[j]?=some (.str f0):=by
    match j,hj with
    |0,_=>exact ⟨"less",.inl rfl,rfl⟩
    |1,_=>exact ⟨"same",.inr rfl,rfl⟩
   refine ⟨l0,_,_,_,rfl,rfl,bJ.of ak,(by rw [ej];exact aJ ef),_,rfl,_,rfl,p,dc,q,_,rfl,D2,D.seq b2 hq,by simpa using ne,by rw [List.length_map];omega,fun y H3 hy D3 b3=>?_⟩
   obtain ⟨y,my,rfl⟩:=uC hy
   refine ⟨_,rfl,p,dc,rfl,D3,fun z H4 z1 z2 D4 b4=>⟨(show 3≤sizeLine by decide),fun t ht=>?_⟩⟩
   exact k _ f0 [.str y,.int z] _ (.tup (bB.of ak) (.cons (.str _) (.cons (.str _) (.cons (.int _) .nil)))) (.num hf ((gq y).mpr (nm y my)) (by simp [oX];omega)) (D4.new ht) (((b2.trans b3).trans b4).trans (cL.new ht))
theorem Tr.mono (h:Tr n d) (l:n≤m):Tr m d:=⟨h.td,h.sh,Nat.le_trans h.dp l⟩
theorem Tr.one (h:Tr n d):Tr (n+1) (.tuple [.str "not",d]):=by
 refine ⟨.node (by unfold gV;decide +kernel) (by decide +kernel) (by simp) (fun e m=>?_),?_,?_⟩
 ·simp at m;subst m;exact h.td
 ·rw [eU,show arity "not" = some 1 from by decide +kernel,if_neg (by nofun)]
  simp [shapes,h.sh]
 ·have:=h.dp
  simp [cz,bI];omega
theorem Tr.two {n:Nat} {f:Str} {d e:PyData} (hf:f = "and"∨f = "or") (h:Tr n d) (h':Tr n e):Tr (n+1) (.tuple [.str f,d,e]):=by
 refine ⟨.node ?_ ?_ (by simp) (fun e m=>?_),?_,?_⟩
 ·rcases hf with rfl|rfl <;> (unfold gV;decide +kernel)
 ·rcases hf with rfl|rfl <;> decide +kernel
 ·simp at m
  rcases m with rfl|rfl
  ·exact h.td
  ·exact h'.td
 ·have ha:arity f=some 2:=by rcases hf with rfl|rfl <;> decide +kernel
  rw [eU,ha,if_neg (by nofun)]
  simp [shapes,h.sh,h'.sh]
 ·have:=h.dp
  have:=h'.dp
  simp [cz,bI];omega
def yM (K:Frag) (n:Nat):Sp:=fun vs H Q _=>∃ (p dc q q':Addr) (ys ys':List Str) (m:Int),vs=[.ref p,.int m,.ref q,.ref q']/\m≤n/\Dr H p dc/\bJ K H q (ys.map V.str)/\bJ K H q' (ys'.map V.str)/\ys≠[]/\ys'≠[]/\ys.length≤100/\ys'.length≤100/\(∀ y∈ys,Nm y)/\(∀ y∈ys',Nm y)/\
 ∀ (x:V) (d:PyData) (H':Hp),Rep K H' x d->Tr n d->Dr H' p dc->cL p H H'->Q x H'
abbrev W3:List Str:=["_law_d","_law_deep_here","_law_names","_law_kinds","_law_way","_law_word_here"]
theorem Hj:aU W3 ["_law_d","_law_deep_here","_law_names","_law_kinds"] (aC (top 60)):=⟨rfl,rfl,rfl,by decide +kernel,rfl,by decide +kernel,by decide +kernel⟩
theorem Pj {f fP fO fN fL:Addr} {fd fdP fdO fdN fdL:FuncData} (DT:cH K mg "_law_tree" (top 60) ["_law_d","_law_deep_here","_law_names","_law_kinds"] f fd) (T:Txt K mg) (DP:cH K mg "_law_pick" (top 49) ["_law_d","_law_many"] fP fdP) (DO:cH K mg "_law_of" (top 50) ["_law_d","_law_things"] fO fdO) (DN:cH K mg "_law_number" (top 58) ["_law_d"] fN fdN)
 (DL:cH K mg "_law_leaf" (top 59) ["_law_d","_law_names","_law_kinds"] fL fdL) (n:Nat):aQ P w K mg base bL (n+5) f fd ["_law_d","_law_deep_here","_law_names","_law_kinds"] (yM K (n+1)):=by
 have GP:aQ P w K mg base bL 1 fP fdP ["_law_d","_law_many"] gR:=fZ DP.F T
 have GL:aQ P w K mg base bL 4 fL fdL ["_law_d","_law_names","_law_kinds"] (BJ K):=Cp DL.F T DP DO DN
 have main:∀ m:Nat,(∀ j,j+1=m->aQ P w K mg base bL (j+5) f fd ["_law_d","_law_deep_here","_law_names","_law_kinds"] (yM K (j+1)))->aQ P w K mg base bL (m+5) f fd ["_law_d","_law_deep_here","_law_names","_law_kinds"] (yM K (m+1)):=by
  intro m GC
  have GT:aQ P w K mg base bL (m+4) f fd ["_law_d","_law_deep_here","_law_names","_law_kinds"] (fun vs H Q E=>∃ j,j+1=m/\yM K (j+1) vs H Q E):=by
   match m,GC with
   |0,_=>exact ⟨fun _ _ _ _ ⟨n,e,_⟩=>by omega,fun _ _ _ _ _ _ _ _ _ _ _ _ _ ⟨n,e,_⟩=>by omega⟩
   | m+1,GC=>
     have G:=GC m rfl
     exact ⟨fun vs H Q E ⟨n,e,h⟩=>by cases e;exact G.1 vs H Q E h,fun a1 a2 a3 a4 a5 a6 a7 a8 a9 a10 a11 a12 a13 ⟨n,e,h⟩=>by cases e;exact G.2 a1 a2 a3 a4 a5 a6 a7 a8 a9 a10 a11 a12 a13 h⟩
  refine DT.F.ok Hj (fun vs H Q E h=>?_) (fun cdv A outer s H vs Q E hr h=>?_)
  ·obtain ⟨p,dc,q,q',ys,ys',z,rfl,_⟩:=h
   rfl
  ·obtain ⟨p,dc,q,q',ys,ys',z,rfl,hz,D,hq,hq',ne,ne',l,l',nm,nm',k⟩:=h
   have hr1:bK 1 _:=hr.mono (by omega)
   have hr4:bK 4 _:=hr.mono (by omega)
   refine ⟨_,(aq (bj (i:=4) Hj.nd rfl (Or.inl rfl) (aD GP hr1 rfl DP.mg DP.F.kp DP.b .nil aO (aa (pv 0) (aa au aj))))
    (aq (bc (PW.pt (gM (aL jx (pv 1) au (aN _)) (fH (aL bu (pv 4) au (aN _))))) (aA (aH (aD GL hr4 rfl DL.mg DL.F.kp DL.b .nil aO (aa (pv 0) (aa (pv 2) (aa (pv 3) aj)))))) aM)
    (aq (bc (aL bu (pv 4) au (aN _)) (aA (aH (bz (aa aF (aa (aD GT hr rfl DT.mg DT.F.kp DT.b .nil aO (aa (pv 0) (aa (bh e_ (pv 1) au) (aa (pv 2) (aa (pv 3) aj))))) aj))))) aM)
    (aq (bj (i:=5) Hj.nd rfl (Or.inl rfl) (a_ cR (bY (aa aF (aa aF aj))) (bh gU (pv 4) au) (fun _ _=>rfl)))
    (aA (aH (bz (aa (pv 5) (aa (aD GT hr rfl DT.mg DT.F.kp DT.b .nil aO (aa (pv 0) (aa (bh e_ (pv 1) au) (aa (pv 2) (aa (pv 3) aj))))) (aa (aD GT hr rfl DT.mg DT.F.kp DT.b .nil aO (aa (pv 0) (aa (bh e_ (pv 1) au) (aa (pv 2) (aa (pv 3) aj))))) aj)))))))))),?_⟩
   refine ⟨_,rfl,p,dc,_,rfl,D,by decide,by decide,fun w1 H1 w0 w5 D1 b1=>?_⟩
   have hq1:=D.seq b1 hq
   have hq1':=D.seq b1 hq'
   have leaf:xO (BJ K) [] E0 (uV (wU 0) (uV (wU 2) (uV (wU 3) Pb))) [some (.ref p),some (.int z),some (.ref q),some (.ref q'),some (.int w1),none] H1 Q:=
    ⟨_,rfl,_,rfl,_,rfl,p,dc,q,q',ys,ys',rfl,D1,hq1,hq1',ne,ne',l,l',nm,nm',fun x f r H' rp lf D' b'=>k x _ H' rp (lf.tr.mono (by omega)) D' (b1.trans b')⟩
   refine ⟨_,rfl,_,_,rfl,rfl,_,rfl,f9 (fun _=>cC rfl leaf) (fun hz2=>⟨_,rfl,rfl,_,rfl,f9 (fun _=>leaf) (fun _=>?_)⟩)⟩
   have hz2:¬ z<2:=by simpa using hz2
   obtain ⟨j,rfl⟩:∃ j,m=j+1:=⟨m-1,by omega⟩
   refine ⟨_,rfl,rfl,_,rfl,f9 (fun _=>?_) (fun _=>?_)⟩
   ·refine ⟨_,rfl,_,rfl,_,_,rfl,rfl,_,rfl,_,rfl,j,rfl,p,dc,q,q',ys,ys',z-1,rfl,by omega,D1,hq1,hq1',ne,ne',l,l',nm,nm',fun x d H2 rx tx D2 b2=>⟨(show 2≤sizeLine by decide),fun t ht=>?_⟩⟩
    exact k _ _ _ (.tup (bB.of ak) (.cons (.str _) (.cons (rx.same (aB.new ht)) .nil))) tx.one (D2.new ht) ((b1.trans b2).trans (cL.new ht))
   ·refine ⟨(show 2≤sizeLine by decide),fun l0 hl0=>⟨_,rfl,_,_,rfl,rfl,(by show (0:Int)<2;decide),?_⟩⟩
    have b2:cL p H (upd H1 l0 (.lst [.str "and",.str "or"])):=b1.trans (cL.new hl0)
    obtain ⟨i,hj,ej⟩:∃ i:Nat,i<2/\w1 % 2=i:=⟨(w1 % 2).toNat,by omega,by omega⟩
    have D2:=D1.new (o:=.lst [.str "and",.str "or"]) hl0
    obtain ⟨f0,hf,ef⟩:∃ f0:Str,(f0 = "and"∨f0 = "or")/\([V.str "and",V.str "or"])[i]?=some (.str f0):=by
     match i,hj with
     |0,_=>exact ⟨"and",.inl rfl,rfl⟩
     |1,_=>exact ⟨"or",.inr rfl,rfl⟩
    refine ⟨l0,_,_,_,rfl,rfl,bJ.of ak,(by rw [ej];exact aJ ef),_,rfl,?_⟩
    have hq2:=D.seq b2 hq
    have hq2':=D.seq b2 hq'
    refine ⟨_,rfl,_,rfl,_,_,rfl,rfl,_,rfl,_,rfl,j,rfl,p,dc,q,q',ys,ys',z-1,rfl,by omega,D2,hq2,hq2',ne,ne',l,l',nm,nm',fun x d H3 rx tx D3 b3=>?_⟩
    have b3':=b2.trans b3
    refine ⟨_,rfl,_,rfl,_,_,rfl,rfl,_,rfl,_,rfl,j,rfl,p,dc,q,q',ys,ys',z-1,rfl,by omega,D3,D.seq b3' hq,D.seq b3' hq',ne,ne',l,l',nm,nm',fun x2 d2 H4 rx2 tx2 D4 b4=>⟨(show 3≤sizeLine by decide),fun t ht=>?_⟩⟩
    exact k _ _ _ (.tup (bB.of ak) (.cons (.str _) (.cons ((D3.rep b4 rx).same (aB.new ht)) (.cons (rx2.same (aB.new ht)) .nil)))) (tx.two hf tx2) (D4.new ht) ((b3'.trans b4).trans (cL.new ht))
 induction n with
 |zero=>exact main 0 (fun n e=>by omega)
 |succ n ih=>exact main (n+1) (fun n' e=>by cases e;exact ih)
theorem zZ (f a b:Str):inV (.str f) [.str a,.str b]=decide (f=a∨f=b):=by
 rw [Bool.eq_iff_iff]
 simp [inV,rG]
 constructor <;> (rintro (h|h) <;> simp [h])
theorem Bx (f a b c:Str):inV (.str f) [.str a,.str b,.str c]=decide (f=a∨f=b∨f=c):=by
 rw [Bool.eq_iff_iff]
 simp [inV,rG]
 constructor <;> (rintro (h|h|h) <;> simp [h])
theorem uv (f:Str):decide (f = "not"∨f = "and"∨f = "or")=(arity f).isSome:=by
 unfold arity
 by_cases h1:f = "not"
 ·simp [h1]
 ·by_cases h2:f = "and"
  ·subst h2;decide +kernel
  ·by_cases h3:f = "or"
   ·subst h3;decide +kernel
   ·simp [h1,h2,h3]
theorem rE (td:TD d):bD d=true->bF d≤cz d:=by
 induction td with
 |str a b=>intro h;cases h
 |int a b=>intro h;cases h
 |nil=>intro h;cases h
 | @node f r a b c tr ih=>
   intro sh
   have e:bF (.tuple (.str f::r))=if (arity f).isSome=true then 1+dm r else 1:=rfl
   have ep:cz (.tuple (.str f::r))=max 0 (bI r)+1:=rfl
   rcases gj (n:=bF (.tuple (.str f::r))) sh (by omega) with ⟨ha,_⟩|N
   ·rw [e,ha,ep]
    show 1≤_
    omega
   ·have:∀ l:List PyData,(∀ d∈l,d∈r)->dm l≤bI l:=by
     intro l
     induction l with
     |nil=>intro _;exact Nat.zero_le _
     | cons d l ihl=>
       intro hm
       have md:=hm d (List.mem_cons_self ..)
       have h1:=ih d md (N.sh d md)
       have h2:=ihl (fun d m=>hm d (List.mem_cons_of_mem _ m))
       show max (bF d) (dm l)≤max (cz d) (bI l)
       omega
    have:=this r (fun _ m=>m)
    rw [e,N.ar,ep]
    show 1+dm r≤_
    omega
def Wo:PyData->Bool
 |.str _=>true
 |_=>false
def isI:PyData->Bool
 |.int _=>true
 |_=>false
def T8:PyData->Bool
 |.tuple _=>true
 |_=>false
theorem Dg (td:TD d):kitOne K (.type (Gv d)) (.type "str")=some (Wo d):=by cases td <;> rfl
theorem Ou (td:TD d):kitOne K (.type (Gv d)) (.type "int")=some (isI d):=by cases td <;> rfl
theorem Pk (td:TD d):kitOne K (.type (Gv d)) (.type "tuple")=some (T8 d):=by cases td <;> rfl
def QX (K:Frag):Sp:=fun vs H Q _=>∃ (a:Addr) (f:Str) (r:List PyData),vs=[.ref a]/\Rep K H (.ref a) (.tuple (.str f::r))/\TD (.tuple (.str f::r))/\∀ H',aB H H'->Q (.bl (dY f r)) H'
theorem SN:aU ["_law_test_here"] ["_law_test_here"] (aC (top 64)):=⟨rfl,rfl,rfl,by decide +kernel,rfl,by decide +kernel,by decide +kernel⟩
theorem Jk (F:fj K "_law_leaf_ok" "_law_leaf_ok" (top 64) f fd) (T:Txt K mg) (DN:cH K mg "_law_is_name" (top 55) ["_law_text"] fN fdN):aQ P w K mg base bL 2 f fd ["_law_test_here"] (QX K):=by
 have GN:aQ P w K mg base bL 1 fN fdN ["_law_text"] yw:=Aj DN.F T
 refine F.ok SN (fun vs H Q E h=>?_) (fun cdv A outer s H vs Q E hr h=>?_)
 ·obtain ⟨a,f,r,rfl,_⟩:=h
  rfl
 ·obtain ⟨a,f,r,rfl,rd,td,k⟩:=h
  refine ⟨_,(aq (bc (aL bu (a_ aZ (pv 0) au (fun _ _=>rfl)) aF (aN _)) (aA (aH (bH bu (aG aV (by rfl) T.len bR (aa (pv 0) aj)) au (aN _)))) aM)
   (aq (bc (aL bu (a_ aZ (pv 0) au (fun _ _=>rfl)) aF (aN _)) (aA (aH (c7 (bH bu (aG aV (by rfl) T.len bR (aa (pv 0) aj)) au (aN _)) (c7 (aG bC (by rfl) T.isinstance aX (aa (a_ aZ (pv 0) au (fun _ _=>rfl)) (aa (cP rfl T.str kI) aj))) (dw (aD GN hr rfl DN.mg DN.F.kp DN.b .nil aO (aa (a_ aZ (pv 0) au (fun _ _=>rfl)) aj))))))) aM)
   (aq (bc (PW.pt (gM (aL fY (a_ aZ (pv 0) au (fun _ _=>rfl)) (bz (aa aF (aa aF aj))) rfl) (fH (aL lA (aG aV (by rfl) T.len bR (aa (pv 0) aj)) au (aN _))))) (aA (aH eX)) aM)
   (aq (bc (PW.pt (gM (du (cD (aG bC (by rfl) T.isinstance aX (aa (a_ aZ (pv 0) au (fun _ _=>rfl)) (aa (cP rfl T.str kI) aj))))) (fH (du (cD (aD GN hr rfl DN.mg DN.F.kp DN.b .nil aO (aa (a_ aZ (pv 0) au (fun _ _=>rfl)) aj))))))) (aA (aH eX)) aM)
   (aA (aH (c7 (aG bC (by rfl) T.isinstance aX (aa (a_ aZ (pv 0) au (fun _ _=>rfl)) (aa (cP rfl T.int k_) aj))) (dw (iT fJ fJ (iV gD au) (a_ aZ (pv 0) au (fun _ _=>rfl)) au))))))))),?_⟩
  cases td with
  |node af lf nr tr=>
  cases rd with
  |@tup _ xs _ sq rs=>
  obtain ⟨x0,ys,rfl⟩:∃ x0 ys,xs=x0::ys:=by cases rs;exact ⟨_,_,rfl⟩
  obtain ⟨r0,rt⟩:Rep K H x0 (.str f)/\bw K H ys r:=by cases rs with|cons a b=>exact ⟨a,b⟩
  cases r0
  have hl:=rt.length
  refine ⟨_,rfl,a,_,_,_,rfl,rfl,sq,aJ (j:=0) rfl,rfl,_,rfl,?_⟩
  unfold dY at k
  by_cases h1:f = "all"
  ·subst h1
   rw [if_pos rfl] at k
   refine cC (by simp) ⟨_,rfl,a,_,rfl,.inr sq,rfl,?_⟩
   have e:decide (V.int ((V.str "all"::ys).length:Nat)=V.int 1)=r.isEmpty:=by
    rw [Bool.eq_iff_iff,decide_eq_true_eq,List.isEmpty_iff,List.length_cons,V.int.injEq]
    constructor
    ·intro h
     exact List.length_eq_zero_iff.mp (by omega)
    ·rintro rfl
     simp at hl
     simp [hl]
   rw [e]
   exact k _ (aB.refl _)
  ·rw [if_neg h1] at k
   refine bQ (by simp [h1]) ⟨_,rfl,a,_,_,_,rfl,rfl,sq,aJ (j:=0) rfl,rfl,_,rfl,?_⟩
   by_cases h2:f = "is"
   ·subst h2
    rw [if_pos rfl] at k
    refine cC (by simp) ⟨_,rfl,a,_,rfl,.inr sq,rfl,_,rfl,?_⟩
    match r,ys,rt,k,hl,tr with
    |[],[],_,k,_,_=>exact bQ (by simp) (k _ (aB.refl _))
    | [d],[y],.cons ry .nil,k,_,tr=>
      have tdd:=tr d (List.mem_cons_self ..)
      refine cC (by simp) ⟨_,rfl,a,_,_,_,rfl,rfl,sq,aJ (j:=1) rfl,_,_,_,_,rfl,ry,Dg tdd,_,rfl,?_⟩
      cases tdd with
      | @str z az lz=>
        cases ry
        exact cC rfl ⟨_,rfl,a,_,_,_,rfl,rfl,sq,aJ (j:=1) rfl,z,rfl,by omega,az,fun H' s'=>k _ s'⟩
      |int _ _=>exact bQ rfl (k _ (aB.refl _))
      |nil=>exact bQ rfl (k _ (aB.refl _))
      |node _ _ _ _=>exact bQ rfl (k _ (aB.refl _))
    |_::_::_,_::_::_,_,k,_,_=>exact bQ (by simp;omega) (k _ (aB.refl _))
   ·rw [if_neg h2] at k
    refine bQ (by simp [h2]) ⟨_,rfl,a,_,_,_,rfl,rfl,sq,aJ (j:=0) rfl,(show 2≤sizeLine by decide),fun t ht=>?_⟩
    have s1:aB H (upd H t (.tup [.str "less",.str "same"])):=aB.new ht
    refine ⟨t,_,rfl,.inr (bB.of ak),rfl,rfl,_,rfl,?_⟩
    rw [zZ]
    have sq1:=s1.tup sq
    have rt1:=rt.same s1
    generalize upd H t (.tup [.str "less",.str "same"])=H1 at s1 sq1 rt1 ⊢
    by_cases h3:f = "less"∨f = "same"
    ·rw [decide_eq_true h3,Bool.true_and] at k
     refine bQ (by simp [h3]) ⟨_,rfl,a,_,rfl,.inr sq1,rfl,_,rfl,?_⟩
     match r,ys,rt1,k,hl,tr with
     |[],[],_,k,_,_=>exact cC (by simp) (k _ s1)
     |[d],[y],_,k,_,_=>exact cC (by simp) (k _ s1)
     | [d,d2],[y,y2],.cons ry (.cons ry2 .nil),k,_,tr=>
       have k:∀ H',aB H H'->Q (.bl (iW d && oX d2)) H':=k
       have tdd:=tr d (List.mem_cons_self ..)
       have tdd2:=tr d2 (List.mem_cons_of_mem _ (List.mem_cons_self ..))
       refine bQ (by simp) ⟨_,rfl,a,_,_,_,rfl,rfl,sq1,aJ (j:=1) rfl,_,_,_,_,rfl,ry,Dg tdd,_,rfl,?_⟩
       cases tdd with
       | @str z az lz=>
         cases ry
         refine bQ rfl ⟨_,rfl,a,_,_,_,rfl,rfl,sq1,aJ (j:=1) rfl,z,rfl,by omega,az,fun H2 s2=>⟨_,rfl,?_⟩⟩
         have sq2:=s2.tup sq1
         have ry3:=ry2.same s2
         have k:∀ H',aB H H'->Q (.bl (nameB z && oX d2)) H':=k
         cases hw:nameB z with
         |false=>rw [hw] at k;exact cC rfl (k _ (s1.trans s2))
         | true=>
           rw [hw,Bool.true_and] at k
           refine bQ rfl ⟨_,rfl,a,_,_,_,rfl,rfl,sq2,aJ (j:=2) rfl,_,_,_,_,rfl,ry3,Ou tdd2,_,rfl,?_⟩
           have k:=k _ (s1.trans s2)
           cases tdd2 with
           | @int i i1 i2=>
             cases ry3
             refine cC rfl ?_
             refine ⟨_,rfl,_,rfl,a,_,_,_,rfl,rfl,sq2,aJ (j:=2) rfl,_,_,rfl,rfl,_,rfl,?_⟩
             have k:Q (.bl (decide (-999999≤i) && decide (i≤999999))) H2:=k
             by_cases q1:-999999≤i
             ·rw [decide_eq_true q1,Bool.true_and] at k
              exact cC (by simpa using q1) ⟨_,_,rfl,rfl,k⟩
             ·rw [decide_eq_false q1,Bool.false_and] at k
              exact bQ (by simpa using q1) k
           |str _ _=>exact bQ rfl k
           |nil=>exact bQ rfl k
           |node _ _ _ _=>exact bQ rfl k
       |int _ _=>exact cC rfl (k _ s1)
       |nil=>exact cC rfl (k _ s1)
       |node _ _ _ _=>exact cC rfl (k _ s1)
     |_::_::_::_,_::_::_::_,_,k,_,_=>exact cC (by simp;omega) (k _ s1)
    ·rw [decide_eq_false h3,Bool.false_and] at k
     exact cC (by simp [h3]) (k _ s1)
theorem jW (h:cz (.tuple (.str f::r))≤n+1) (m:d∈r):cz d≤n:=by
 have:=iU m
 have h:max 0 (bI r)+1≤n+1:=h
 omega
theorem xR (sh:bD d=true) (h:bF d≤n):cu d+1≤2 ^ n:=by
 have:=ud n d
 rw [tO,if_pos ⟨sh,h⟩] at this
 exact this
theorem vP (h1:1≤r.length/\r.length≤2) (hb:b∈r.map fun d=>((bF d:Nat):Int)) (hm:∀ x∈r.map fun d=>((bF d:Nat):Int),x≤b):b=((dm r:Nat):Int):=by
 match r,h1 with
 | [x],_=>
   have e:dm [x]=max (bF x) 0:=rfl
   simp at hb
   rw [hb,e];omega
 | [x,y],_=>
   have e:dm [x,y]=max (bF x) (max (bF y) 0):=rfl
   have q1:=hm (bF x) (by simp)
   have q2:=hm (bF y) (by simp)
   simp at hb
   rw [e]
   rcases hb with rfl|rfl <;> omega
 |[],h=>exact absurd h.1 (by simp)
 |_::_::_::_,h=>exact absurd h.2 (by simp)
def ym (K:Frag) (n:Nat):Sp:=fun vs H Q _=>∃ (x:V) (d:PyData),vs=[x]/\Rep K H x d/\TD d/\cz d≤n/\∀ H',aB H H'->Q (.bl (bD d)) H'
theorem Tg:aU ["_law_test_here"] ["_law_test_here"] (aC (top 65)):=⟨rfl,rfl,rfl,by decide +kernel,rfl,by decide +kernel,by decide +kernel⟩
theorem Qp (DS:cH K mg "_law_shape_ok" (top 65) ["_law_test_here"] f fd) (T:Txt K mg) (DN:cH K mg "_law_is_name" (top 55) ["_law_text"] fN fdN) (DL:cH K mg "_law_leaf_ok" (top 64) ["_law_test_here"] fL fdL) (n:Nat):aQ P w K mg base bL (n+3) f fd ["_law_test_here"] (ym K n):=by
 have GL:aQ P w K mg base bL 2 fL fdL ["_law_test_here"] (QX K):=Jk DL.F T DN
 have main:∀ m:Nat,(∀ j,j+1=m->aQ P w K mg base bL (j+3) f fd ["_law_test_here"] (ym K j))->aQ P w K mg base bL (m+3) f fd ["_law_test_here"] (ym K m):=by
  intro m GC
  have GS:aQ P w K mg base bL (m+2) f fd ["_law_test_here"] (fun vs H Q E=>∃ j,j+1=m/\ym K j vs H Q E):=by
   match m,GC with
   |0,_=>exact ⟨fun _ _ _ _ ⟨n,e,_⟩=>by omega,fun _ _ _ _ _ _ _ _ _ _ _ _ _ ⟨n,e,_⟩=>by omega⟩
   | m+1,GC=>
     have G:=GC m rfl
     exact ⟨fun vs H Q E ⟨n,e,h⟩=>by cases e;exact G.1 vs H Q E h,fun a1 a2 a3 a4 a5 a6 a7 a8 a9 a10 a11 a12 a13 ⟨n,e,h⟩=>by cases e;exact G.2 a1 a2 a3 a4 a5 a6 a7 a8 a9 a10 a11 a12 a13 h⟩
  refine DS.F.ok Tg (fun vs H Q E h=>?_) (fun cdv A outer s H vs Q E hr h=>?_)
  ·obtain ⟨x,d,rfl,_⟩:=h
   rfl
  ·obtain ⟨x,d,rfl,rd,td,hd,k⟩:=h
   have hr2:bK 2 _:=hr.mono (by omega)
   refine ⟨_,(aq (bc (PW.pt (gM (du (cD (aG bC (by rfl) T.isinstance aX (aa (pv 0) (aa (cP rfl T.tuple eV) aj))))) (fH (aL bu (aG aV (by rfl) T.len bR (aa (pv 0) aj)) au (aN _))))) (aA (aH eX)) aM)
    (aq (bc (aL dX (a_ aZ (pv 0) au (fun _ _=>rfl)) (bz (aa aF (aa aF aj))) rfl) (aA (aH (c7 (bH bu (aG aV (by rfl) T.len bR (aa (pv 0) aj)) au (aN _)) (c7 (aD GS hr rfl DS.mg DS.F.kp DS.b .nil aO (aa (a_ aZ (pv 0) au (fun _ _=>rfl)) aj)) (dw (aD GS hr rfl DS.mg DS.F.kp DS.b .nil aO (aa (a_ aZ (pv 0) au (fun _ _=>rfl)) aj))))))) aM)
    (aq (bc (aL bu (a_ aZ (pv 0) au (fun _ _=>rfl)) aF (aN _)) (aA (aH (c7 (bH bu (aG aV (by rfl) T.len bR (aa (pv 0) aj)) au (aN _)) (dw (aD GS hr rfl DS.mg DS.F.kp DS.b .nil aO (aa (a_ aZ (pv 0) au (fun _ _=>rfl)) aj)))))) aM)
    (aA (aH (aD GL hr2 rfl DL.mg DL.F.kp DL.b .nil aO (aa (pv 0) aj))))))),?_⟩
   refine ⟨_,rfl,_,_,_,_,rfl,rd,Pk td,_,rfl,?_⟩
   cases td with
   |str a l=>exact cC rfl (cC rfl (k _ (aB.refl _)))
   |int a b=>exact cC rfl (cC rfl (k _ (aB.refl _)))
   | nil=>
     cases rd with
     |@tup a xs _ sq rs=>
     cases rs
     exact bQ rfl ⟨_,rfl,a,_,rfl,.inr sq,rfl,_,rfl,cC (by simp) (k _ (aB.refl _))⟩
   |@node f r af lf nr tr=>
   obtain ⟨n,rfl⟩:∃ n,m=n+1:=⟨m-1,by have h:max 0 (bI r)+1≤m:=hd;omega⟩
   have rd0:=rd
   cases rd with
   |@tup a xs _ sq rs=>
   obtain ⟨x0,ys,rfl⟩:∃ x0 ys,xs=x0::ys:=by cases rs;exact ⟨_,_,rfl⟩
   obtain ⟨r0,rt⟩:Rep K H x0 (.str f)/\bw K H ys r:=by cases rs with|cons a b=>exact ⟨a,b⟩
   cases r0
   have hl:=rt.length
   refine bQ rfl ⟨_,rfl,a,_,rfl,.inr sq,rfl,_,rfl,bQ (by simp;omega) ?_⟩
   refine ⟨_,rfl,a,_,_,_,rfl,rfl,sq,aJ (j:=0) rfl,(show 2≤sizeLine by decide),fun t ht=>?_⟩
   have s1:aB H (upd H t (.tup [.str "and",.str "or"])):=aB.new ht
   refine ⟨t,_,rfl,.inr (bB.of ak),rfl,rfl,_,rfl,?_⟩
   rw [zZ]
   have sq1:=s1.tup sq
   have rt1:=rt.same s1
   have rd1:=rd0.same s1
   generalize upd H t (.tup [.str "and",.str "or"])=H1 at s1 sq1 rt1 rd1 ⊢
   unfold bD at k
   by_cases h1:f = "and"∨f = "or"
   ·rw [if_pos h1] at k
    refine cC (by simp [h1]) ⟨_,rfl,a,_,rfl,.inr sq1,rfl,_,rfl,?_⟩
    match r,ys,rt1,k,hl,tr,hd with
    |[],[],_,k,_,_,_=>exact bQ (by simp) (k _ s1)
    |[_],[_],_,k,_,_,_=>exact bQ (by simp) (k _ s1)
    | [d,e],[y,z],.cons ry (.cons rz .nil),k,_,tr,hd=>
      have k:∀ H',aB H H'->Q (.bl (true && (bD d && (bD e && true)))) H':=k
      refine cC (by simp) ⟨_,rfl,a,_,_,_,rfl,rfl,sq1,aJ (j:=1) rfl,n,rfl,y,d,rfl,ry,tr d (by simp),jW hd (by simp),fun H2 s2=>⟨_,rfl,?_⟩⟩
      rw [Bool.true_and,Bool.and_true] at k
      cases hs:bD d with
      |false=>rw [hs] at k;exact bQ rfl (k _ (s1.trans s2))
      | true=>
        rw [hs,Bool.true_and] at k
        exact cC rfl ⟨_,rfl,a,_,_,_,rfl,rfl,s2.tup sq1,aJ (j:=2) rfl,n,rfl,z,e,rfl,rz.same s2,tr e (by simp),jW hd (by simp),fun H3 s3=>k _ ((s1.trans s2).trans s3)⟩
    |_::_::_::_,_::_::_::_,_,k,_,_,_=>exact bQ (by simp;omega) (k _ s1)
   ·rw [if_neg h1] at k
    refine bQ (by simp [h1]) ⟨_,rfl,a,_,_,_,rfl,rfl,sq1,aJ (j:=0) rfl,rfl,_,rfl,?_⟩
    by_cases h2:f = "not"
    ·rw [if_pos h2] at k
     refine cC (by simp [h2]) ⟨_,rfl,a,_,rfl,.inr sq1,rfl,_,rfl,?_⟩
     match r,ys,rt1,k,hl,tr,hd with
     |[],[],_,k,_,_,_=>exact bQ (by simp) (k _ s1)
     | [d],[y],.cons ry .nil,k,_,tr,hd=>
       have k:∀ H',aB H H'->Q (.bl (true && (bD d && true))) H':=k
       rw [Bool.true_and,Bool.and_true] at k
       exact cC (by simp) ⟨_,rfl,a,_,_,_,rfl,rfl,sq1,aJ (j:=1) rfl,n,rfl,y,d,rfl,ry,tr d (by simp),jW hd (by simp),fun H2 s2=>k _ (s1.trans s2)⟩
     |_::_::_,_::_::_,_,k,_,_,_=>exact bQ (by simp;omega) (k _ s1)
    ·rw [if_neg h2] at k
     exact bQ (by simp [h2]) ⟨_,rfl,a,f,r,rfl,rd1,.node af lf nr tr,fun H2 s2=>k _ (s1.trans s2)⟩
 induction n with
 |zero=>exact main 0 (fun n e=>by omega)
 |succ n ih=>exact main (n+1) (fun n' e=>by cases e;exact ih)
def ue (K:Frag) (g:PyData->Nat) (n:Nat):Sp:=fun vs H Q _=>∃ (x:V) (d:PyData),vs=[x]/\Rep K H x d/\TD d/\bD d=true/\bF d≤n/\n≤10/\∀ H',aB H H'->Q (.int (g d:Nat)) H'
theorem Ua:aU ["_law_test_here"] ["_law_test_here"] (aC (top 61)):=⟨rfl,rfl,rfl,by decide +kernel,rfl,by decide +kernel,by decide +kernel⟩
theorem V9:aU ["_law_test_here"] ["_law_test_here"] (aC (top 62)):=⟨rfl,rfl,rfl,by decide +kernel,rfl,by decide +kernel,by decide +kernel⟩
theorem Df (DL:cH K mg "_law_parts" (top 61) ["_law_test_here"] f fd) (hsum:mg "sum" = none) (n:Nat):aQ P w K mg base bL n f fd ["_law_test_here"] (ue K cu n):=by
 refine Nat.rec (motive:=fun n=>aQ P w K mg base bL n f fd ["_law_test_here"] (ue K cu n)) ⟨fun _ _ _ _ h=>?_,fun _ _ _ _ _ _ _ _ _ _ _ _ _ h=>?_⟩ (fun n GL=>?_) n
 ·obtain ⟨x,d,_,_,_,_,hd,_⟩:=h
  exact absurd (Nat.le_trans (dj d) hd) (by decide)
 ·obtain ⟨x,d,_,_,_,_,hd,_⟩:=h
  exact absurd (Nat.le_trans (dj d) hd) (by decide)
 refine DL.F.ok Ua (fun vs H Q E h=>?_) (fun cdv A outer s H vs Q E hr h=>?_)
 ·obtain ⟨x,d,rfl,_⟩:=h
  rfl
 ·obtain ⟨x,d,rfl,rd,td,sh,hd,hn,k⟩:=h
  refine ⟨_,(aq (bc (aL fY (a_ aZ (pv 0) au (fun _ _=>rfl)) (bz (aa aF (aa aF (aa aF aj)))) rfl) (aA (aH au)) aM)
   (aA (aH (bh cX au (aG (oJ rfl) (by rfl) hsum zm (aa (gk (g:=bM 0) (own:=["_law_part"]) (js:=[]) (N':=["_law_part"]) (bN.of (osc:=aC (top 61)) (N:=["_law_test_here"]) rfl rfl ⟨rfl,by decide +kernel,by decide +kernel,by decide +kernel,rfl,by decide +kernel⟩) rfl (iw (bV d_ (pv 0) (cF au) cG)) (fun _ _ _ _ _=>(aR (i:=0) (show List.Nodup (["_law_part"]:List Str) by decide +kernel) rfl (Or.inl rfl) (Or.inr rfl))) (fun _ _ _ _ _=>dh) (fun _ _ _ _ _=>aD GL hr rfl DL.mg DL.F.kp DL.b .nil aO (aa (pv 0) aj))) aj)))))),?_⟩
  obtain ⟨f,r,rfl⟩:=cA td sh
  cases td with
  |node af lf nr tr=>
  cases rd with
  |@tup a xs _ sq rs=>
  obtain ⟨x0,ys,rfl⟩:∃ x0 ys,xs=x0::ys:=by cases rs;exact ⟨_,_,rfl⟩
  obtain ⟨r0,rt⟩:Rep K H x0 (.str f)/\bw K H ys r:=by cases rs with|cons a b=>exact ⟨a,b⟩
  cases r0
  have hl:=rt.length
  refine ⟨_,rfl,a,_,_,_,rfl,rfl,sq,aJ (j:=0) rfl,(show 3≤sizeLine by decide),fun t ht=>?_⟩
  have s0:aB H (upd H t (.tup [.str "not",.str "and",.str "or"])):=aB.new ht
  refine ⟨t,_,rfl,.inr (bB.of ak),rfl,rfl,_,rfl,?_⟩
  rw [Bx,uv]
  have sq0:=s0.tup sq
  have rt0:=rt.same s0
  generalize upd H t (.tup [.str "not",.str "and",.str "or"])=H0 at s0 sq0 rt0 ⊢
  have e:cu (.tuple (.str f::r))=if (arity f).isSome=true then 1+dU r else 1:=rfl
  rw [e] at k
  rcases gj sh hd with ⟨ha,hlf⟩|N
  ·rw [ha] at k ⊢
   exact cC rfl (k _ s0)
  ·rw [N.ar] at k ⊢
   have k:∀ H',aB H H'->Q (.int (1+dU r:Nat)) H':=k
   have a2:=gC N.ar
   refine bQ rfl ⟨_,rfl,1,rfl,a,_,rfl,sq0,(fun e=>?_),fun p hp=>?_⟩
   ·rw [lJ] at e
    have:=congrArg List.length e
    simp at this
   ·rw [lJ]
    have sp:bB K (upd H0 p (.tup ys)) p ys:=bB.of ak
    have s1:aB H0 (upd H0 p (.tup ys)):=aB.new hp
    generalize upd H0 p (.tup ys)=H1 at sp s1 ⊢
    refine ⟨p,rfl,⟨_,sp⟩,?_⟩
    refine iI (K:=K) (a:=p) (xs:=ys) (fun i zs σ' H'=>(∃ v,σ'=[v])/\aB H1 H'/\zs=((r.take i).map fun d=>V.int (cu d:Nat))) (Nat.le_trans (show ys.length≤20 by omega) (by decide)) ⟨⟨none,rfl⟩,aB.refl _,rfl⟩ (fun i zs σ' H' _ ⟨_,s2,_⟩=>s2.tup sp) ?_ ?_
    ·rintro i y zs σ' H2 hy hzs ⟨⟨v,rfl⟩,s2,rfl⟩ N' hN
     obtain ⟨d,hd,ry⟩:=rt0.get' hy
     have me:=List.mem_of_getElem? hd
     refine ⟨_,rfl,y,d,rfl,ry.same (s1.trans s2),tr d me,N.sh d me,N.de d me,by omega,fun H3 s3=>?_⟩
     exact hN _ _ _ (by rw [List.length_append,hzs];rfl) ⟨⟨_,rfl⟩,s2.trans s3,by rw [List.take_add_one,hd];simp⟩
    ·rintro zs σ' H2 hzs ⟨⟨v,rfl⟩,s2,rfl⟩
     rw [List.take_of_length_le (by omega)]
     have lr:(r.map fun d=>V.int (cu d:Nat)).length≤20:=by rw [List.length_map];omega
     refine ⟨Nat.le_trans lr (by decide),fun q hq=>?_⟩
     have s3:aB H (upd H2 q (.lst (r.map fun d=>V.int (cu d:Nat)))):=((s0.trans s1).trans s2).trans (aB.new hq)
     refine ⟨q,r.map fun d=>((cu d:Nat):Int),rfl,by rw [List.map_map];exact bJ.of ak,by rw [List.length_map];omega,fun x hx=>?_,_,_,rfl,rfl,?_⟩
     ·obtain ⟨d,md,rfl⟩:=List.mem_map.mp hx
      have:=xR (N.sh d md) (N.de d md)
      have p20:2 ^ n≤2 ^ 10:=Nat.pow_le_pow_right (by decide) (by omega)
      have:(2:Nat) ^ 10=1024:=by decide
      omega
     ·have es:(r.map cu).sum=dU r:=by
       clear k lr s3 hq
       have:∀ l:List PyData,(l.map cu).sum=dU l:=by
        intro l
        induction l with
        |nil=>rfl
        |cons d l ih=>rw [List.map_cons,List.sum_cons,ih];rfl
       exact this r
      rw [qN,es]
      have:=k _ s3
      rw [show ((1+dU r:Nat):Int)=1+((dU r:Nat):Int) by omega] at this
      exact this
theorem KN (DL:cH K mg "_law_deep" (top 62) ["_law_test_here"] f fd) (hmax:mg "max" = none) (n:Nat):aQ P w K mg base bL n f fd ["_law_test_here"] (ue K bF n):=by
 refine Nat.rec (motive:=fun n=>aQ P w K mg base bL n f fd ["_law_test_here"] (ue K bF n)) ⟨fun _ _ _ _ h=>?_,fun _ _ _ _ _ _ _ _ _ _ _ _ _ h=>?_⟩ (fun n GL=>?_) n
 ·obtain ⟨x,d,_,_,_,_,hd,_⟩:=h
  exact absurd (Nat.le_trans (dj d) hd) (by decide)
 ·obtain ⟨x,d,_,_,_,_,hd,_⟩:=h
  exact absurd (Nat.le_trans (dj d) hd) (by decide)
 refine DL.F.ok V9 (fun vs H Q E h=>?_) (fun cdv A outer s H vs Q E hr h=>?_)
 ·obtain ⟨x,d,rfl,_⟩:=h
  rfl
 ·obtain ⟨x,d,rfl,rd,td,sh,hd,hn,k⟩:=h
  refine ⟨_,(aq (bc (aL fY (a_ aZ (pv 0) au (fun _ _=>rfl)) (bz (aa aF (aa aF (aa aF aj)))) rfl) (aA (aH au)) aM)
   (aA (aH (bh cX au (aG (wz rfl) (by rfl) hmax Dq (aa (gk (g:=bM 0) (own:=["_law_part"]) (js:=[]) (N':=["_law_part"]) (bN.of (osc:=aC (top 62)) (N:=["_law_test_here"]) rfl rfl ⟨rfl,by decide +kernel,by decide +kernel,by decide +kernel,rfl,by decide +kernel⟩) rfl (iw (bV d_ (pv 0) (cF au) cG)) (fun _ _ _ _ _=>(aR (i:=0) (show List.Nodup (["_law_part"]:List Str) by decide +kernel) rfl (Or.inl rfl) (Or.inr rfl))) (fun _ _ _ _ _=>dh) (fun _ _ _ _ _=>aD GL hr rfl DL.mg DL.F.kp DL.b .nil aO (aa (pv 0) aj))) aj)))))),?_⟩
  obtain ⟨f,r,rfl⟩:=cA td sh
  cases td with
  |node af lf nr tr=>
  cases rd with
  |@tup a xs _ sq rs=>
  obtain ⟨x0,ys,rfl⟩:∃ x0 ys,xs=x0::ys:=by cases rs;exact ⟨_,_,rfl⟩
  obtain ⟨r0,rt⟩:Rep K H x0 (.str f)/\bw K H ys r:=by cases rs with|cons a b=>exact ⟨a,b⟩
  cases r0
  have hl:=rt.length
  refine ⟨_,rfl,a,_,_,_,rfl,rfl,sq,aJ (j:=0) rfl,(show 3≤sizeLine by decide),fun t ht=>?_⟩
  have s0:aB H (upd H t (.tup [.str "not",.str "and",.str "or"])):=aB.new ht
  refine ⟨t,_,rfl,.inr (bB.of ak),rfl,rfl,_,rfl,?_⟩
  rw [Bx,uv]
  have sq0:=s0.tup sq
  have rt0:=rt.same s0
  generalize upd H t (.tup [.str "not",.str "and",.str "or"])=H0 at s0 sq0 rt0 ⊢
  have e:bF (.tuple (.str f::r))=if (arity f).isSome=true then 1+dm r else 1:=rfl
  rw [e] at k
  rcases gj sh hd with ⟨ha,hlf⟩|N
  ·rw [ha] at k ⊢
   exact cC rfl (k _ s0)
  ·rw [N.ar] at k ⊢
   have k:∀ H',aB H H'->Q (.int (1+dm r:Nat)) H':=k
   have a2:=gC N.ar
   refine bQ rfl ⟨_,rfl,1,rfl,a,_,rfl,sq0,(fun e=>?_),fun p hp=>?_⟩
   ·rw [lJ] at e
    have:=congrArg List.length e
    simp at this
   ·rw [lJ]
    have sp:bB K (upd H0 p (.tup ys)) p ys:=bB.of ak
    have s1:aB H0 (upd H0 p (.tup ys)):=aB.new hp
    generalize upd H0 p (.tup ys)=H1 at sp s1 ⊢
    refine ⟨p,rfl,⟨_,sp⟩,?_⟩
    refine iI (K:=K) (a:=p) (xs:=ys) (fun i zs σ' H'=>(∃ v,σ'=[v])/\aB H1 H'/\zs=((r.take i).map fun d=>V.int (bF d:Nat))) (Nat.le_trans (show ys.length≤20 by omega) (by decide)) ⟨⟨none,rfl⟩,aB.refl _,rfl⟩ (fun i zs σ' H' _ ⟨_,s2,_⟩=>s2.tup sp) ?_ ?_
    ·rintro i y zs σ' H2 hy hzs ⟨⟨v,rfl⟩,s2,rfl⟩ N' hN
     obtain ⟨d,hd,ry⟩:=rt0.get' hy
     have me:=List.mem_of_getElem? hd
     refine ⟨_,rfl,y,d,rfl,ry.same (s1.trans s2),tr d me,N.sh d me,N.de d me,by omega,fun H3 s3=>?_⟩
     exact hN _ _ _ (by rw [List.length_append,hzs];rfl) ⟨⟨_,rfl⟩,s2.trans s3,by rw [List.take_add_one,hd];simp⟩
    ·rintro zs σ' H2 hzs ⟨⟨v,rfl⟩,s2,rfl⟩
     rw [List.take_of_length_le (by omega)]
     have lr:(r.map fun d=>V.int (bF d:Nat)).length≤20:=by rw [List.length_map];omega
     refine ⟨Nat.le_trans lr (by decide),fun q hq=>?_⟩
     have s3:aB H (upd H2 q (.lst (r.map fun d=>V.int (bF d:Nat)))):=((s0.trans s1).trans s2).trans (aB.new hq)
     refine ⟨q,r.map fun d=>((bF d:Nat):Int),rfl,by rw [List.map_map];exact bJ.of ak,?_,fun b hb hm=>⟨_,_,rfl,rfl,?_⟩⟩
     ·intro z
      have:=congrArg List.length z
      rw [List.length_map] at this
      simp at this
      rw [this] at a2
      simp at a2
     ·rw [vP a2 hb hm]
      have:=k _ s3
      rw [show ((1+dm r:Nat):Int)=1+((dm r:Nat):Int) by omega] at this
      exact this
def H_ (K:Frag):Sp:=fun vs H Q _=>∃ (x:V) (d:PyData),vs=[x]/\Rep K H x d/\TD d/\cz d≤8/\∀ H',aB H H'->Q (.bl (dO d)) H'
theorem T5:aU ["_law_test_here"] ["_law_test_here"] (aC (top 66)):=⟨rfl,rfl,rfl,by decide +kernel,rfl,by decide +kernel,by decide +kernel⟩
theorem N_ {f fS fD fP:Addr} {fd fdS fdD fdP:FuncData} (F:fj K "_law_test_ok" "_law_test_ok" (top 66) f fd) (DS:cH K mg "_law_shape_ok" (top 65) ["_law_test_here"] fS fdS) (GS:aQ P w K mg base bL 11 fS fdS ["_law_test_here"] (ym K 8))
 (DD:cH K mg "_law_deep" (top 62) ["_law_test_here"] fD fdD) (GD:aQ P w K mg base bL 8 fD fdD ["_law_test_here"] (ue K bF 8)) (DP:cH K mg "_law_parts" (top 61) ["_law_test_here"] fP fdP) (GP:aQ P w K mg base bL 8 fP fdP ["_law_test_here"] (ue K cu 8)):aQ P w K mg base bL 12 f fd ["_law_test_here"] (H_ K):=by
 refine F.ok T5 (fun vs H Q E h=>?_) (fun cdv A outer s H vs Q E hr h=>?_)
 ·obtain ⟨x,d,rfl,_⟩:=h
  rfl
 ·obtain ⟨x,d,rfl,rd,td,hd,k⟩:=h
  have hr8:bK 8 _:=hr.mono (by decide)
  refine ⟨_,(aA (aH (c7 (aD GS hr rfl DS.mg DS.F.kp DS.b .nil aO (aa (pv 0) aj)) (c7 (bH fJ (aD GD hr8 rfl DD.mg DD.F.kp DD.b .nil aO (aa (pv 0) aj)) au (aN _)) (dw (bH fJ (aD GP hr8 rfl DP.mg DP.F.kp DP.b .nil aO (aa (pv 0) aj)) au (aN _))))))),?_⟩
  refine ⟨_,rfl,x,d,rfl,rd,td,hd,fun H1 s1=>⟨_,rfl,?_⟩⟩
  unfold dO at k
  cases sh:bD d with
  |false=>rw [sh] at k;exact bQ rfl (k _ s1)
  | true=>
    rw [sh,Bool.true_and] at k
    have dd:bF d≤8:=Nat.le_trans (rE td sh) hd
    refine cC rfl ⟨_,rfl,x,d,rfl,rd.same s1,td,sh,dd,by decide,fun H2 s2=>⟨_,_,rfl,rfl,_,rfl,?_⟩⟩
    by_cases h5:bF d≤5
    ·rw [decide_eq_true h5,Bool.true_and] at k
     refine cC (by simp;omega) ⟨_,rfl,x,d,rfl,rd.same (s1.trans s2),td,sh,dd,by decide,fun H3 s3=>⟨_,_,rfl,rfl,?_⟩⟩
     have:=k _ ((s1.trans s2).trans s3)
     rw [show decide (cu d≤15)=decide (((cu d:Nat):Int)≤15) by rw [Bool.eq_iff_iff];simp;omega] at this
     exact this
    ·rw [decide_eq_false h5,Bool.false_and] at k
     exact bQ (by simp;omega) (k _ (s1.trans s2))
def cutD (xs:List PyData) (lo hi:Option Int):List PyData:=(xs.drop (HT.dR xs.length 0 lo)).take (HT.dR xs.length xs.length hi-HT.dR xs.length 0 lo)
theorem nZ:∀ (n:Nat) {vs:List V} {ds:List PyData},bw K H vs ds->bw K H (vs.drop n) (ds.drop n)
 |0,_,_,h=>h
 |_+1,_,_,.nil=>.nil
 |n+1,_,_,.cons _ h=>nZ n h
theorem nJ:∀ (n:Nat) {vs:List V} {ds:List PyData},bw K H vs ds->bw K H (vs.take n) (ds.take n)
 |0,_,_,_=>.nil
 |_+1,_,_,.nil=>.nil
 |n+1,_,_,.cons a h=>.cons a (nJ n h)
theorem lQ (ra:Rep K H (.ref a) (.tuple ds)) (k:∀ v H',aB H H'->Rep K H' (.ref v) (.tuple (cutD ds lo hi))->Q (.ref v) H'):Fz K (.ref a) lo hi H Q:=by
 cases ra with
 |@tup _ xs _ sq rs=>
 have hl:=rs.length
 have rc:bw K H (gf xs lo hi) (cutD ds lo hi):=by
  unfold gf cutD
  rw [hl]
  exact nJ _ (nZ _ rs)
 refine ⟨a,xs,rfl,sq,fun e=>k a H (aB.refl _) ?_,fun p hp=>k p _ (aB.new hp) (.tup (bB.of ak) (rc.same (aB.new hp)))⟩
 rw [e] at rc
 exact .tup sq rc
theorem lO (ra:Rep K H (.ref a) (.tuple ds)) (rb:Rep K H (.ref b) (.tuple es)) (l:ds.length+es.length≤1000) (k:∀ v H',aB H H'->Rep K H' (.ref v) (.tuple (ds++es))->Q (.ref v) H'):uM K (.ref a) (.ref b) H Q:=by
 cases ra with
 |@tup _ xs _ sq rs=>
 cases rb with
 |@tup _ ys _ sq' rs'=>
 have hl:=rs.length
 have hl':=rs'.length
 have big:1000≤sizeLine:=by decide
 refine ⟨a,b,xs,ys,rfl,rfl,sq,sq',by omega,fun e=>k b H (aB.refl _) ?_,fun e=>k a H (aB.refl _) ?_,fun p hp=>k p _ (aB.new hp) (.tup (bB.of ak) ((iY rs rs').same (aB.new hp)))⟩
 ·subst e
  cases rs
  exact .tup sq' rs'
 ·subst e
  cases rs'
  rw [List.append_nil]
  exact .tup sq rs
theorem vh (x:PyData) (r:List PyData):cutD (x::r) (some 1) none=r:=by
 simp [cutD,HT.dR]
theorem ww {ds:List PyData} {v:Int} {k:Nat} (h:v=(k:Nat)) (hk:k≤ds.length):cutD ds none (some v)=ds.take k:=by
 subst h
 unfold cutD
 rw [HT.pU,HT.jP,List.drop_zero,Nat.sub_zero,Nat.min_eq_left hk]
theorem wW {ds:List PyData} {v:Int} {k:Nat} (h:v=(k:Nat)) (hk:k≤ds.length):cutD ds (some v) none=ds.drop k:=by
 subst h
 unfold cutD
 rw [HT.pU,HT.jP,Nat.min_eq_left hk]
 exact List.take_of_length_le (by rw [List.length_drop];omega)
theorem vZ (x:PyData) (r:List PyData):cutD (x::r) none (some (-1))=(x::r).take r.length:=by
 unfold cutD
 have e:HT.dR (x::r).length (x::r).length (some (-1))=r.length:=by
  unfold HT.dR
  simp only [List.length_cons]
  rw [if_pos (by decide)]
  omega
 rw [e,HT.jP,List.drop_zero,Nat.sub_zero]
structure Bd (n:Nat) (e:PyData):Prop where
 td:TD e
 dp:cz e≤n
theorem uK:∀ {l:List PyData},(∀ d∈l,cz d≤n)->bI l≤n
 |[],_=>Nat.zero_le _
 | d::l,h=>by
   have h1:=h d (List.mem_cons_self ..)
   have h2:=uK fun d m=>h d (List.mem_cons_of_mem _ m)
   show max (cz d) (bI l)≤n
   omega
theorem eG (a:gV f) (l:f.length≤40) (lr:r.length≤20) (h:∀ d∈r,Bd n d):Bd (n+1) (.tuple (.str f::r)):=by
 refine ⟨.node a l lr fun d m=>(h d m).td,?_⟩
 have:=uK fun d m=>(h d m).dp
 show max 0 (bI r)+1≤n+1
 omega
theorem Bd.mono (h:Bd n e) (l:n≤m):Bd m e:=⟨h.td,Nat.le_trans h.dp l⟩
theorem l_ (a:gV x) (l:x.length≤40):Bd n (.str x):=⟨.str a l,Nat.zero_le _⟩
theorem kj (a:-rW≤i) (b:i≤rW):Bd n (.int i):=⟨.int a b,Nat.zero_le _⟩
theorem tM:Bd (n+1) (.tuple [.str "all"]):=eG (by unfold gV;decide +kernel) (by decide +kernel) (by simp) (by simp)
theorem Tr.node (h:Tr n d):∃ f r k,n=k+1/\d=.tuple (.str f::r)/\gV f/\f.length≤40/\r.length≤2/\(∀ e∈r,Bd k e)/\((arity f).isSome=true->1≤r.length/\∀ e∈r,Tr k e):=by
 obtain ⟨f,r,rfl⟩:=cA h.td h.sh
 have hd:=h.dp
 have hd':max 0 (bI r)+1≤n:=hd
 obtain ⟨k,rfl⟩:∃ k,n=k+1:=⟨n-1,by omega⟩
 have td:=h.td
 cases td with
 |node a l lr tr=>
 have bds:∀ e∈r,Bd k e:=fun e m=>⟨tr e m,jW hd m⟩
 rcases gj (n:=bF (.tuple (.str f::r))) h.sh (by omega) with ⟨ha,hl⟩|N
 ·have lf:=pq hl
  refine ⟨f,r,k,rfl,rfl,a,l,?_,bds,fun z=>by rw [ha] at z;cases z⟩
  cases lf <;> simp
 ·have a2:=gC N.ar
  exact ⟨f,r,k,rfl,rfl,a,l,a2.2,bds,fun _=>⟨a2.1,fun e m=>⟨tr e m,N.sh e m,jW hd m⟩⟩⟩
def xH (K:Frag) (n:Nat):Sp:=fun vs H Q _=>∃ (p dc:Addr) (x:V) (d:PyData),vs=[.ref p,x]/\Dr H p dc/\Rep K H x d/\Tr n d/\n≤10/\∀ (y:V) (e:PyData) (H':Hp),Rep K H' y e->Bd (n+1) e->Dr H' p dc->cL p H H'->(∃ es,e=.tuple es)->Q y H'
abbrev Ww:List Str:=["_law_d","_law_test_here","_law_way","_law_at"]
theorem Gz:aU Ww ["_law_d","_law_test_here"] (aC (top 67)):=⟨rfl,rfl,rfl,by decide +kernel,rfl,by decide +kernel,by decide +kernel⟩
theorem Q7 {f fP fO fW fFr fOd:Addr} {fd fdP fdO fdW fdFr fdOd:FuncData} (DB:cH K mg "_law_bent_test" (top 67) ["_law_d","_law_test_here"] f fd) (T:Txt K mg) (DP:cH K mg "_law_pick" (top 49) ["_law_d","_law_many"] fP fdP) (DO:cH K mg "_law_of" (top 50) ["_law_d","_law_things"] fO fdO)
 (DW:cH K mg "_law_word" (top 53) ["_law_d"] fW fdW) (DFr:cH K mg "_law_far" (top 51) ["_law_d"] fFr fdFr) (DOd:cH K mg "_law_odd_name" (top 57) ["_law_d","_law_text"] fOd fdOd) (n:Nat):aQ P w K mg base bL (n+4) f fd ["_law_d","_law_test_here"] (xH K n):=by
 have GP:aQ P w K mg base bL 1 fP fdP ["_law_d","_law_many"] gR:=fZ DP.F T
 have GO:aQ P w K mg base bL 2 fO fdO ["_law_d","_law_things"] (rQ K):=oA DO.F T DP
 have GW:aQ P w K mg base bL 3 fW fdW ["_law_d"] oW:=pD DW.F T DP DO
 have GF:aQ P w K mg base bL 2 fFr fdFr ["_law_d"] Dj:=E_ DFr.F T DP
 have GOd:aQ P w K mg base bL 3 fOd fdOd ["_law_d","_law_text"] Dd:=HX DOd.F T DP DO
 have main:∀ m:Nat,(∀ j,j+1=m->aQ P w K mg base bL (j+4) f fd ["_law_d","_law_test_here"] (xH K j))->aQ P w K mg base bL (m+4) f fd ["_law_d","_law_test_here"] (xH K m):=by
  intro m GC
  have GB:aQ P w K mg base bL (m+3) f fd ["_law_d","_law_test_here"] (fun vs H Q E=>∃ j,j+1=m/\xH K j vs H Q E):=by
   match m,GC with
   |0,_=>exact ⟨fun _ _ _ _ ⟨n,e,_⟩=>by omega,fun _ _ _ _ _ _ _ _ _ _ _ _ _ ⟨n,e,_⟩=>by omega⟩
   | m+1,GC=>
     have G:=GC m rfl
     exact ⟨fun vs H Q E ⟨n,e,h⟩=>by cases e;exact G.1 vs H Q E h,fun a1 a2 a3 a4 a5 a6 a7 a8 a9 a10 a11 a12 a13 ⟨n,e,h⟩=>by cases e;exact G.2 a1 a2 a3 a4 a5 a6 a7 a8 a9 a10 a11 a12 a13 h⟩
  refine DB.F.ok Gz (fun vs H Q E h=>?_) (fun cdv A outer s H vs Q E hr h=>?_)
  ·obtain ⟨p,dc,x,d,rfl,_⟩:=h
   rfl
  ·obtain ⟨p,dc,x,d,rfl,D,rd,tr,hm,k⟩:=h
   have k:∀ (y:V) (e:PyData) (H':Hp),Rep K H' y e->Bd (m+1) e->Dr H' p dc->cL p H H'->(_:∃ es,e=.tuple es:=by exact ⟨_,rfl⟩)->Q y H':=k
   have hr1:bK 1 _:=hr.mono (by omega)
   have hr2:bK 2 _:=hr.mono (by omega)
   have hr3:bK 3 _:=hr.mono (by omega)
   refine ⟨_,(aq (bc (PW.pt (gM (du (cD (aG bC (by rfl) T.isinstance aX (aa (pv 1) (aa (cP rfl T.tuple eV) aj))))) (fH (aL (tH hr.units) (pv 1) (bz aj) (aN _))))) (aA (aH (pv 1))) aM)
    (aq (bj (i:=2) Gz.nd rfl (Or.inl rfl) (aD GP hr1 rfl DP.mg DP.F.kp DP.b .nil aO (aa (pv 0) (aa au aj))))
    (aq (bc (PW.pt (o_ (aL qF (aG aV (by rfl) T.len bR (aa (pv 1) aj)) au (aN _)) (o_ (aL dX (a_ aZ (pv 1) au (fun _ _=>rfl)) (bz (aa aF (aa aF (aa aF aj)))) rfl) (pJ (aL bu (aD GP hr1 rfl DP.mg DP.F.kp DP.b .nil aO (aa (pv 0) (aa au aj))) au (aN _)))))) (aq (bj (i:=3) Gz.nd rfl (Or.inl rfl) (bh cX au (aD GP hr1 rfl DP.mg DP.F.kp DP.b .nil aO (aa (pv 0) (aa (bh e_ (aG aV (by rfl) T.len bR (aa (pv 1) aj)) au) aj))))) (aA (aH (bh jX (bh jX (bV d_ (pv 1) cG (cF (pv 3))) (bz (aa (aD GB hr rfl DB.mg DB.F.kp DB.b .nil aO (aa (pv 0) (aa (a_ aZ (pv 1) (pv 3) (fun _ _=>rfl)) aj))) aj))) (bV d_ (pv 1) (cF (bh cX (pv 3) au)) cG))))) aM)
    (aq (bc (aL bu (pv 2) au (aN _)) (aA (aH (bV d_ (pv 1) cG (cF (iV gD au))))) aM)
    (aq (bc (aL bu (pv 2) au (aN _)) (aA (aH (bh jX (pv 1) (bz (aa (aD GO hr2 rfl DO.mg DO.F.kp DO.b .nil aO (aa (pv 0) (aa (bY (aa (bz (aa aF aj)) (aa au (aa aF aj)))) aj))) aj))))) aM)
    (aq (bc (aL bu (pv 2) au (aN _)) (aA (aH (bh jX (bz (aa (aD GO hr2 rfl DO.mg DO.F.kp DO.b .nil aO (aa (pv 0) (aa (bY (aa aF (aa aF (aa aF (aa aF (aa aF aj)))))) aj))) aj)) (bV d_ (pv 1) (cF au) cG)))) aM)
    (aq (bc (aL bu (pv 2) au (aN _)) (aA (aH (bz (aa aF (aa (aD GOd hr3 rfl DOd.mg DOd.F.kp DOd.b .nil aO (aa (pv 0) (aa (aD GW hr3 rfl DW.mg DW.F.kp DW.b .nil aO (aa (pv 0) aj)) aj))) (aa au aj)))))) aM)
    (aq (bc (aL bu (pv 2) au (aN _)) (aA (aH (bz (aa aF (aa (aD GW hr3 rfl DW.mg DW.F.kp DW.b .nil aO (aa (pv 0) aj)) (aa (aD GO hr2 rfl DO.mg DO.F.kp DO.b .nil aO (aa (pv 0) (aa (bY (aa au (aa (iV gD au) (aa (aD GF hr2 rfl DFr.mg DFr.F.kp DFr.b .nil aO (aa (pv 0) aj)) (aa (bz (aa aF aj)) aj))))) aj))) aj)))))) aM)
    (aq (bc (aL bu (pv 2) au (aN _)) (aA (aH (bz (aa aF (aa (aD GOd hr3 rfl DOd.mg DOd.F.kp DOd.b .nil aO (aa (pv 0) (aa (aD GW hr3 rfl DW.mg DW.F.kp DW.b .nil aO (aa (pv 0) aj)) aj))) aj))))) aM)
    (aq (bc (aL bu (pv 2) au (aN _)) (aA (aH (bz (aa aF (aa (pv 1) (aa (pv 1) aj)))))) aM)
    (aq (bc (aL bu (pv 2) au (aN _)) (aA (aH (bz (aa aF (aa (pv 1) aj))))) aM)
    (aq (bc (aL bu (pv 2) au (aN _)) (aA (aH (bz (aa aF (aa (pv 1) (aa (aD GO hr2 rfl DO.mg DO.F.kp DO.b .nil aO (aa (pv 0) (aa (bY (aa aF (aa au (aa (bz (aa aF aj)) aj)))) aj))) aj)))))) aM)
    (aA (aH (pv 1))))))))))))))),?_⟩
   obtain ⟨f,r,n,rfl,rfl,af,lf,lr,bds,hop⟩:=tr.node
   have rd0:=rd
   cases rd with
   |@tup a xs _ sq rs=>
   obtain ⟨x0,ys,rfl⟩:∃ x0 ys,xs=x0::ys:=by cases rs;exact ⟨_,_,rfl⟩
   obtain ⟨r0,rt⟩:Rep K H x0 (.str f)/\bw K H ys r:=by cases rs with|cons a b=>exact ⟨a,b⟩
   cases r0
   have hl:=rt.length
   have bd0:Bd (n+1) (.tuple (.str f::r)):=⟨tr.td,tr.dp⟩
   have h1000:1000≤sizeLine:=by decide
   have hu:(1000000:Int)≤rW:=by decide
   refine ⟨_,rfl,_,_,_,_,rfl,rd0,rfl,_,rfl,bQ rfl ?_⟩
   refine ⟨_,rfl,(show 0≤sizeLine by decide),fun t0 ht0=>?_⟩
   have s0:aB H (upd H t0 (.tup [])):=aB.new ht0
   refine ⟨_,_,rd0.same s0,.tup (bB.of ak) .nil,?_,_,rfl,bQ rfl ?_⟩
   ·have:=tr.dp;omega
   have D0:Dr (upd H t0 (.tup [])) p dc:=D.mono s0
   have rd1:=rd0.same s0
   have b0:cL p H (upd H t0 (.tup [])):=s0.but
   generalize upd H t0 (.tup [])=H0 at s0 D0 rd1 b0 ⊢
   refine ⟨_,rfl,p,dc,_,rfl,D0,by decide,by decide,fun w1 H1 w0 w10 D1 b1=>?_⟩
   have rd2:=D0.rep b1 rd1
   have b01:=b0.trans b1
   clear rd1 b1 D0 s0
   try dsimp only [bM]
   refine mK (fun σ' H'=>(∃ u,σ'=[some (.ref p),some (.ref a),some (.int w1),u])/\Dr H' p dc/\cL p H H'/\Rep K H' (.ref a) (.tuple (.str f::r))) ?nx fun N hN=>?st
   case st=>
    have sqOf:∀ {H':Hp},Rep K H' (.ref a) (.tuple (.str f::r))->∃ zs,bB K H' a (.str f::zs)/\bw K H' zs r:=by
     intro H' h
     cases h with
     |@tup _ zs _ q1 q2=>
     cases q2 with
     |@cons z0 _ zs _ q3 q4=>
     cases q3
     exact ⟨zs,q1,q4⟩
    obtain ⟨zs,sq2,rz2⟩:=sqOf rd2
    have hz:=rz2.length
    refine ⟨_,rfl,a,_,rfl,.inr sq2,_,_,rfl,rfl,_,rfl,f9 (fun hlen=>?_) (fun _=>hN _ _ ⟨⟨_,rfl⟩,D1,b01,rd2⟩)⟩
    refine ⟨_,rfl,a,_,_,_,rfl,rfl,sq2,aJ (j:=0) rfl,(show 3≤sizeLine by decide),fun t ht=>?_⟩
    have s2:aB H1 (upd H1 t (.tup [.str "not",.str "and",.str "or"])):=aB.new ht
    refine ⟨t,_,rfl,.inr (bB.of ak),rfl,rfl,_,rfl,?_⟩
    rw [Bx,uv]
    have rd3:=rd2.same s2
    have D2:=D1.mono s2
    have b2:cL p H (upd H1 t (.tup [.str "not",.str "and",.str "or"])):=b01.trans s2.but
    generalize upd H1 t (.tup [.str "not",.str "and",.str "or"])=H2 at s2 rd3 D2 b2 ⊢
    refine f9 (fun ho=>?_) (fun _=>hN _ _ ⟨⟨_,rfl⟩,D2,b2,rd3⟩)
    obtain ⟨r1,trs⟩:=hop ho
    refine ⟨_,rfl,p,dc,_,rfl,D2,by decide,by decide,fun q H3 q0 q1 D3 b3=>⟨rfl,_,rfl,f9 (fun _=>?_) (fun _=>hN _ _ ⟨⟨_,rfl⟩,D3,b2.trans b3,D2.rep b3 rd3⟩)⟩⟩
    have rd4:=D2.rep b3 rd3
    have b4:=b2.trans b3
    obtain ⟨zs4,sq4,rz4⟩:=sqOf rd4
    have hz4:=rz4.length
    refine ⟨_,rfl,_,rfl,a,_,rfl,.inr sq4,_,_,rfl,rfl,p,dc,_,rfl,D3,?_,?_,fun j H5 j0 j1 D5 b5=>⟨_,_,rfl,rfl,?_⟩⟩
    ·simp only [List.length_cons];omega
    ·simp only [List.length_cons];omega
    obtain ⟨i,rfl⟩:=Int.eq_ofNat_of_zero_le j0
    have hi:i<r.length:=by simp only [List.length_cons] at j1;omega
    have rd5:=D3.rep b5 rd4
    have b5':=b4.trans b5
    have ai:(1+(i:Int))=((i+1:Nat):Int):=by omega
    have ai2:(1+(i:Int)+1)=((i+2:Nat):Int):=by omega
    refine ⟨_,rfl,_,rfl,_,rfl,lQ rd5 fun v1 H6 s6 rv1=>?_⟩
    rw [ww ai (by simp;omega)] at rv1
    have rd6:=rd5.same s6
    have D6:=D5.mono s6
    obtain ⟨zs6,sq6,rz6⟩:=sqOf rd6
    have hz6:=rz6.length
    have hi6:i<zs6.length:=by omega
    obtain ⟨e,he,ry⟩:=rz6.get' (List.getElem?_eq_getElem hi6)
    have me:=List.mem_of_getElem? he
    refine ⟨_,rfl,_,rfl,_,rfl,a,_,_,zs6[i],rfl,rfl,sq6,(by rw [ai];exact aJ (by rw [List.getElem?_cons_succ];exact List.getElem?_eq_getElem hi6)),n,rfl,p,dc,_,e,rfl,D6,ry,trs e me,by omega,fun y2 e2 H7 ry2 bd2 D7 b7 _=>⟨(show 1≤sizeLine by decide),fun t7 ht7=>?_⟩⟩
    have s8:aB H7 (upd H7 t7 (.tup [y2])):=aB.new ht7
    have b8:cL p H (upd H7 t7 (.tup [y2])):=((b5'.trans s6.but).trans b7).trans s8.but
    refine lO ((D6.rep b7 rv1).same s8) (.tup (bB.of ak) (.cons (ry2.same s8) .nil)) (by simp;omega) fun v9 H9 s9 rv9=>?_
    have rd9:=((D6.rep b7 rd6).same s8).same s9
    refine ⟨_,rfl,_,rfl,_,_,rfl,rfl,_,rfl,?_⟩
    dsimp only [pX]
    refine lQ rd9 fun v10 H10 s10 rv10=>?_
    rw [wW ai2 (by simp;omega)] at rv10
    refine lO (rv9.same s10) rv10 (by simp;omega) fun v11 H11 s11 rv11=>?_
    have ee:((PyData.str f::r).take (i+1)++[e2]++(PyData.str f::r).drop (i+2))=.str f::(r.take i++[e2]++r.drop (i+1)):=by
     rw [List.take_succ_cons,List.drop_succ_cons];rfl
    rw [ee] at rv11
    refine k _ _ H11 rv11 (eG af lf (by simp;omega) fun d m=>?_) (((D7.mono s8).mono s9).mono (s10.trans s11)) (((b8.trans s9.but).trans s10.but).trans s11.but)
    simp only [List.mem_append,List.mem_singleton] at m
    rcases m with (m|m)|m
    ·exact (bds d (List.mem_of_mem_take m)).mono (by omega)
    ·subst m;exact bd2
    ·exact (bds d (List.mem_of_mem_drop m)).mono (by omega)
   rintro σ' H2 ⟨⟨u,rfl⟩,D2,b2,rd3⟩
   refine ⟨_,rfl,rfl,_,rfl,f9 (fun _=>?_) (fun _=>?_)⟩
   ·refine ⟨_,rfl,1,rfl,_,rfl,lQ rd3 fun v1 H3 s3 rv=>?_⟩
    have rv:Rep K H3 (.ref v1) (.tuple (cutD (.str f::r) none (some (-1)))):=rv
    rw [vZ] at rv
    cases r with
    |nil=>exact k _ _ H3 rv ⟨.nil,by simp [cz,bI]⟩ (D2.mono s3) (b2.trans s3.but)
    | cons d r=>
      rw [List.length_cons,List.take_succ_cons] at rv
      exact k _ _ H3 rv (eG af lf (by simp at lr ⊢;omega) fun e m=>(bds e (List.mem_of_mem_take m)).mono (by omega)) (D2.mono s3) (b2.trans s3.but)
   refine ⟨_,rfl,rfl,_,rfl,f9 (fun _=>?_) (fun _=>?_)⟩
   ·refine ⟨_,rfl,_,rfl,(show 1≤sizeLine by decide),fun t ht=>⟨(show 3≤sizeLine by decide),fun q hq=>?_⟩⟩
    have s4:aB H2 (upd (upd H2 t (.tup [.str "all"])) q (.lst [.ref t,.int 3,.str "ab"])):=(aB.new ht).trans (aB.new hq)
    have rt4:Rep K (upd (upd H2 t (.tup [.str "all"])) q (.lst [.ref t,.int 3,.str "ab"])) (.ref t) (.tuple [.str "all"]):=.tup (bB.of (aB.new hq _ _ ak)) (.cons (.str _) .nil)
    refine ⟨p,dc,q,_,rfl,D2.mono s4,bJ.of ak,by simp,by simp,fun y H5 hy D5 b5=>⟨(show 1≤sizeLine by decide),fun t6 ht6=>?_⟩⟩
    obtain ⟨e,re,be⟩:∃ e,Rep K H5 y e/\Bd (n+1) e:=by
     simp only [List.mem_cons,List.not_mem_nil,or_false] at hy
     rcases hy with rfl|rfl|rfl
     ·exact ⟨_,(D2.mono s4).rep b5 rt4,tM⟩
     ·exact ⟨_,.int _,kj (by omega) (by omega)⟩
     ·exact ⟨_,.str _,l_ (by unfold gV;decide +kernel) (by decide +kernel)⟩
    have s6:aB H5 (upd H5 t6 (.tup [y])):=aB.new ht6
    refine lO (((D2.mono s4).rep b5 (rd3.same s4)).same s6) (.tup (bB.of ak) (.cons (re.same s6) .nil)) (by simp;omega) fun v H7 s7 rv=>?_
    refine k _ _ H7 rv (eG (r:=r++[e]) af lf (by simp;omega) fun d m=>?_) ((D5.mono s6).mono s7) ((((b2.trans s4.but).trans b5).trans s6.but).trans s7.but)
    rcases List.mem_append.mp m with m|m
    ·exact (bds d m).mono (by omega)
    ·simp at m;subst m;exact be
   refine ⟨_,rfl,rfl,_,rfl,f9 (fun _=>?_) (fun _=>?_)⟩
   ·refine ⟨_,rfl,(show 5≤sizeLine by decide),fun q hq=>?_⟩
    have s4:aB H2 (upd H2 q (.lst [.str "",.str "All",.str "more",.str "xor",.str "less"])):=aB.new hq
    refine ⟨p,dc,q,_,rfl,D2.mono s4,bJ.of ak,by simp,by simp,fun y H5 hy D5 b5=>⟨(show 1≤sizeLine by decide),fun t6 ht6=>?_⟩⟩
    obtain ⟨z,rfl,az,lz⟩:∃ z:Str,y=.str z/\gV z/\z.length≤40:=by
     simp only [List.mem_cons,List.not_mem_nil,or_false] at hy
     rcases hy with rfl|rfl|rfl|rfl|rfl
     all_goals exact ⟨_,rfl,by unfold gV;decide +kernel,by decide +kernel⟩
    have s6:aB H5 (upd H5 t6 (.tup [.str z])):=aB.new ht6
    have rd6:=((D2.mono s4).rep b5 (rd3.same s4)).same s6
    have rt6:Rep K (upd H5 t6 (.tup [.str z])) (.ref t6) (.tuple [.str z]):=.tup (bB.of ak) (.cons (.str _) .nil)
    refine ⟨_,rfl,1,rfl,?_⟩
    dsimp only [pX]
    refine lQ rd6 fun v7 H7 s7 rv7=>?_
    rw [vh] at rv7
    refine lO (rt6.same s7) rv7 (by simp;omega) fun v H8 s8 rv=>?_
    exact k _ _ H8 rv (eG (r:=r) az lz (by omega) fun d m=>(bds d m).mono (by omega)) (((D5.mono s6).mono s7).mono s8) (((((b2.trans s4.but).trans b5).trans s6.but).trans s7.but).trans s8.but)
   refine ⟨_,rfl,rfl,_,rfl,f9 (fun _=>?_) (fun _=>?_)⟩
   ·refine ⟨_,rfl,_,rfl,p,dc,rfl,D2,fun z H3 nz D3 b3=>⟨p,dc,z,rfl,D3,by have:=nz.hi;omega,pY nz,fun o H4 ao lo D4 b4=>⟨(show 3≤sizeLine by decide),fun t ht=>?_⟩⟩⟩
    have:=nz.hi
    refine k _ (.tuple [.str "less",.str o,.int 4]) _ (.tup (bB.of ak) (.cons (.str _) (.cons (.str _) (.cons (.int _) .nil)))) (eG (by unfold gV;decide +kernel) (by decide +kernel) (by simp) fun d m=>?_) (D4.new ht) (((b2.trans b3).trans b4).trans (cL.new ht))
    simp at m
    rcases m with rfl|rfl
    ·exact l_ ao (by omega)
    ·exact kj (by omega) (by omega)
   refine ⟨_,rfl,rfl,_,rfl,f9 (fun _=>?_) (fun _=>?_)⟩
   ·refine ⟨_,rfl,p,dc,rfl,D2,fun z H3 nz D3 b3=>⟨_,rfl,1000000,rfl,_,rfl,p,dc,rfl,D3,fun g H4 g1 g2 D4 b4=>⟨(show 1≤sizeLine by decide),fun t ht=>⟨(show 4≤sizeLine by decide),fun q hq=>?_⟩⟩⟩⟩
    have s5:aB H4 (upd (upd H4 t (.tup [.str "all"])) q (.lst [.int 1000000,.int (-1000000),.int g,.ref t])):=(aB.new ht).trans (aB.new hq)
    have rt5:Rep K (upd (upd H4 t (.tup [.str "all"])) q (.lst [.int 1000000,.int (-1000000),.int g,.ref t])) (.ref t) (.tuple [.str "all"]):=.tup (bB.of (aB.new hq _ _ ak)) (.cons (.str _) .nil)
    refine ⟨p,dc,q,_,rfl,D4.mono s5,bJ.of ak,by simp,by simp,fun y H6 hy D6 b6=>⟨(show 3≤sizeLine by decide),fun t7 ht7=>?_⟩⟩
    obtain ⟨e,re,be⟩:∃ e,Rep K H6 y e/\Bd (n+1) e:=by
     simp only [List.mem_cons,List.not_mem_nil,or_false] at hy
     have:rW=zO+2:=rfl
     rcases hy with rfl|rfl|rfl|rfl
     ·exact ⟨_,.int _,kj (by omega) (by omega)⟩
     ·exact ⟨_,.int _,kj (by omega) (by omega)⟩
     ·exact ⟨_,.int _,kj (by omega) (by omega)⟩
     ·exact ⟨_,(D4.mono s5).rep b6 rt5,tM⟩
    have s7:aB H6 (upd H6 t7 (.tup [.str "same",.str z,y])):=aB.new ht7
    refine k _ (.tuple [.str "same",.str z,e]) _ (.tup (bB.of ak) (.cons (.str _) (.cons (.str _) (.cons (re.same s7) .nil)))) (eG (by unfold gV;decide +kernel) (by decide +kernel) (by simp) fun d m=>?_) (D6.mono s7) (((((b2.trans b3).trans b4).trans s5.but).trans b6).trans s7.but)
    simp at m
    rcases m with rfl|rfl
    ·exact l_ (pY nz) (by have:=nz.hi;omega)
    ·exact be
   refine ⟨_,rfl,rfl,_,rfl,f9 (fun _=>?_) (fun _=>?_)⟩
   ·refine ⟨_,rfl,_,rfl,p,dc,rfl,D2,fun z H3 nz D3 b3=>⟨p,dc,z,rfl,D3,by have:=nz.hi;omega,pY nz,fun o H4 ao lo D4 b4=>⟨(show 2≤sizeLine by decide),fun t ht=>?_⟩⟩⟩
    have:=nz.hi
    refine k _ (.tuple [.str "is",.str o]) _ (.tup (bB.of ak) (.cons (.str _) (.cons (.str _) .nil))) (eG (by unfold gV;decide +kernel) (by decide +kernel) (by simp) fun d m=>?_) (D4.new ht) (((b2.trans b3).trans b4).trans (cL.new ht))
    simp at m
    subst m
    exact l_ ao (by omega)
   refine ⟨_,rfl,rfl,_,rfl,f9 (fun _=>?_) (fun _=>?_)⟩
   ·refine ⟨_,rfl,_,rfl,(show 3≤sizeLine by decide),fun t ht=>?_⟩
    have s4:aB H2 (upd H2 t (.tup [.str "and",.ref a,.ref a])):=aB.new ht
    refine k _ (.tuple [.str "and",.tuple (.str f::r),.tuple (.str f::r)]) _ (.tup (bB.of ak) (.cons (.str _) (.cons (rd3.same s4) (.cons (rd3.same s4) .nil)))) (eG (by unfold gV;decide +kernel) (by decide +kernel) (by simp) fun d m=>?_) (D2.mono s4) (b2.trans s4.but)
    simp at m
    subst m
    exact bd0
   refine ⟨_,rfl,rfl,_,rfl,f9 (fun _=>?_) (fun _=>?_)⟩
   ·refine ⟨_,rfl,(show 2≤sizeLine by decide),fun t ht=>?_⟩
    have s4:aB H2 (upd H2 t (.tup [.str "not",.ref a])):=aB.new ht
    refine k _ (.tuple [.str "not",.tuple (.str f::r)]) _ (.tup (bB.of ak) (.cons (.str _) (.cons (rd3.same s4) .nil))) (eG (by unfold gV;decide +kernel) (by decide +kernel) (by simp) fun d m=>?_) (D2.mono s4) (b2.trans s4.but)
    simp at m
    subst m
    exact bd0
   refine ⟨_,rfl,rfl,_,rfl,f9 (fun _=>?_) (fun _=>?_)⟩
   ·refine ⟨_,rfl,_,rfl,(show 1≤sizeLine by decide),fun t ht=>⟨(show 3≤sizeLine by decide),fun q hq=>?_⟩⟩
    have s4:aB H2 (upd (upd H2 t (.tup [.str "all"])) q (.lst [.str "all",.int 1,.ref t])):=(aB.new ht).trans (aB.new hq)
    have rt4:Rep K (upd (upd H2 t (.tup [.str "all"])) q (.lst [.str "all",.int 1,.ref t])) (.ref t) (.tuple [.str "all"]):=.tup (bB.of (aB.new hq _ _ ak)) (.cons (.str _) .nil)
    refine ⟨p,dc,q,_,rfl,D2.mono s4,bJ.of ak,by simp,by simp,fun y H5 hy D5 b5=>⟨(show 3≤sizeLine by decide),fun t6 ht6=>?_⟩⟩
    obtain ⟨e,re,be⟩:∃ e,Rep K H5 y e/\Bd (n+1) e:=by
     simp only [List.mem_cons,List.not_mem_nil,or_false] at hy
     rcases hy with rfl|rfl|rfl
     ·exact ⟨_,.str _,l_ (by unfold gV;decide +kernel) (by decide +kernel)⟩
     ·exact ⟨_,.int _,kj (by omega) (by omega)⟩
     ·exact ⟨_,(D2.mono s4).rep b5 rt4,tM⟩
    have s6:aB H5 (upd H5 t6 (.tup [.str "or",.ref a,y])):=aB.new ht6
    refine k _ (.tuple [.str "or",.tuple (.str f::r),e]) _ (.tup (bB.of ak) (.cons (.str _) (.cons (((D2.mono s4).rep b5 (rd3.same s4)).same s6) (.cons (re.same s6) .nil)))) (eG (by unfold gV;decide +kernel) (by decide +kernel) (by simp) fun d m=>?_) (D5.mono s6) (((b2.trans s4.but).trans b5).trans s6.but)
    simp at m
    rcases m with rfl|rfl
    ·exact bd0
    ·exact be
   exact ⟨_,rfl,k _ _ H2 rd3 (bd0.mono (by omega)) D2 b2⟩
 induction n with
 |zero=>exact main 0 (fun n e=>by omega)
 |succ n ih=>exact main (n+1) (fun n' e=>by cases e;exact ih)
def Ed (K:Frag):Sp:=fun vs H Q _=>∃ (p dc q q':Addr) (ys ys':List Str),vs=[.ref p,.ref q,.ref q']/\Dr H p dc/\bJ K H q (ys.map V.str)/\bJ K H q' (ys'.map V.str)/\ys≠[]/\ys'≠[]/\ys.length≤100/\ys'.length≤100/\(∀ y∈ys,Nm y)/\(∀ y∈ys',Nm y)/\
 ∀ (x:V) (d:PyData) (H':Hp),Rep K H' x d->Tr 5 d->dO d=true->Dr H' p dc->cL p H H'->Q x H'
abbrev Wt:List Str:=["_law_d","_law_names","_law_kinds","_law_test_here"]
theorem QG:aU Wt ["_law_d","_law_names","_law_kinds"] (aC (top 63)):=⟨rfl,rfl,rfl,by decide +kernel,rfl,by decide +kernel,by decide +kernel⟩
theorem Jy (F:fj K "_law_test" "_law_test" (top 63) f fd) (T:Txt K mg) (hsum:mg "sum" = none) (DP:cH K mg "_law_pick" (top 49) ["_law_d","_law_many"] fP fdP) (DO:cH K mg "_law_of" (top 50) ["_law_d","_law_things"] fO fdO) (DN:cH K mg "_law_number" (top 58) ["_law_d"] fN fdN)
 (DL:cH K mg "_law_leaf" (top 59) ["_law_d","_law_names","_law_kinds"] fL fdL) (DT:cH K mg "_law_tree" (top 60) ["_law_d","_law_deep_here","_law_names","_law_kinds"] fT fdT) (DA:cH K mg "_law_parts" (top 61) ["_law_test_here"] fA fdA):aQ P w K mg base bL 10 f fd ["_law_d","_law_names","_law_kinds"] (Ed K):=by
 have GP:aQ P w K mg base bL 1 fP fdP ["_law_d","_law_many"] gR:=fZ DP.F T
 have GL:aQ P w K mg base bL 4 fL fdL ["_law_d","_law_names","_law_kinds"] (BJ K):=Cp DL.F T DP DO DN
 have GT:aQ P w K mg base bL 9 fT fdT ["_law_d","_law_deep_here","_law_names","_law_kinds"] (yM K 5):=Pj DT T DP DO DN DL 4
 have GA:aQ P w K mg base bL 5 fA fdA ["_law_test_here"] (ue K cu 5):=Df DA hsum 5
 refine F.ok QG (fun vs H Q E h=>?_) (fun cdv A outer s H vs Q E hr h=>?_)
 ·obtain ⟨p,dc,q,q',ys,ys',rfl,_⟩:=h
  rfl
 ·obtain ⟨p,dc,q,q',ys,ys',rfl,D,hq,hq',ne,ne',l,l',nm,nm',k⟩:=h
  have hr1:bK 1 _:=hr.mono (by decide)
  have hr4:bK 4 _:=hr.mono (by decide)
  have hr5:bK 5 _:=hr.mono (by decide)
  refine ⟨_,(aq (bj (i:=3) QG.nd rfl (Or.inl rfl) (aD GT hr rfl DT.mg DT.F.kp DT.b .nil aO (aa (pv 0) (aa (bh cX au (aD GP hr1 rfl DP.mg DP.F.kp DP.b .nil aO (aa (pv 0) (aa au aj)))) (aa (pv 1) (aa (pv 2) aj))))))
   (aA (aH (gJ (aL jx (aD GA hr5 rfl DA.mg DA.F.kp DA.b .nil aO (aa (pv 3) aj)) au (aN _)) (pv 3) (bz (aa aF (aa (aD GL hr4 rfl DL.mg DL.F.kp DL.b .nil aO (aa (pv 0) (aa (pv 1) (aa (pv 2) aj)))) aj))))))),?_⟩
  refine ⟨_,rfl,_,rfl,p,dc,_,rfl,D,by decide,by decide,fun r H1 r0 r1 D1 b1=>⟨_,_,rfl,rfl,_,rfl,_,rfl,?_⟩⟩
  refine ⟨p,dc,q,q',ys,ys',1+r,rfl,by omega,D1,D.seq b1 hq,D.seq b1 hq',ne,ne',l,l',nm,nm',fun x d H2 rx tx D2 b2=>?_⟩
  have de:bF d≤5:=Nat.le_trans (rE tx.td tx.sh) tx.dp
  refine ⟨_,rfl,x,d,rfl,rx,tx.td,tx.sh,de,by decide,fun H3 s3=>⟨_,_,rfl,rfl,_,rfl,f9 (fun h=>?_) (fun h=>?_)⟩⟩
  ·have h:cu d≤15:=by simp at h;omega
   exact ⟨_,rfl,k x d H3 (rx.same s3) tx (by unfold dO;rw [tx.sh,decide_eq_true de,decide_eq_true h];rfl) (D2.mono s3) ((b1.trans b2).trans s3.but)⟩
  ·have b3:=(b1.trans b2).trans (s3.but (p:=p))
   refine ⟨_,rfl,_,rfl,_,rfl,p,dc,q,q',ys,ys',rfl,D2.mono s3,D.seq b3 hq,D.seq b3 hq',ne,ne',l,l',nm,nm',fun y f r H4 ry lf D4 b4=>⟨(show 2≤sizeLine by decide),fun t ht=>?_⟩⟩
   have t1:Tr 2 (.tuple [.str "not",.tuple (.str f::r)]):=lf.tr.one
   refine k _ _ _ (.tup (bB.of ak) (.cons (.str _) (.cons (ry.same (aB.new ht)) .nil))) (t1.mono (by decide)) ?_ (D4.new ht) ((b3.trans b4).trans (cL.new ht))
   have e1:bF (.tuple [.str "not",.tuple (.str f::r)])=2:=by
    show (if (arity "not").isSome=true then 1+max (if (arity f).isSome=true then 1+dm r else 1) 0 else 1)=2
    rw [lf.ar,show arity "not" = some 1 from by decide +kernel];rfl
   have e2:cu (.tuple [.str "not",.tuple (.str f::r)])=2:=by
    show (if (arity "not").isSome=true then 1+((if (arity f).isSome=true then 1+dU r else 1)+0) else 1)=2
    rw [lf.ar,show arity "not" = some 1 from by decide +kernel];rfl
   unfold dO
   rw [t1.sh,e1,e2]
   rfl
def iG (nm:Str) (fs:List jJ) (zs:List Int) (f:Str) (r:List PyData):Bool:=
 if f = "all" then true else match r with
 |[.str x]=>decide (nm=x)
 |[.str x,.int i]=>if x∈fs.map (·.1) then (if f = "less" then decide (zs.getD ((fs.map (·.1)).idxOf x) 0<i) else decide (zs.getD ((fs.map (·.1)).idxOf x) 0=i)) else false
 |_=>false
def bZ (nm:Str) (fs:List jJ) (zs:List Int):Nat->Str->List PyData->Bool
 |0,_,_=>false
 | n+1,f,r=>
   if f = "not" then (match r with
    |[.tuple (.str g::q)]=>!bZ nm fs zs n g q
    |_=>false)
   else if f = "and" then (match r with
    |[.tuple (.str g::q),.tuple (.str h::p)]=>bZ nm fs zs n g q && bZ nm fs zs n h p
    |_=>false)
   else if f = "or" then (match r with
    |[.tuple (.str g::q),.tuple (.str h::p)]=>bZ nm fs zs n g q || bZ nm fs zs n h p
    |_=>false)
   else iG nm fs zs f r
structure MD (K:PySem.W.Frag) (C:Addr) (m qual:Str) (st:Stmt) (ps:List Str) (f:Addr) (fd:FuncData):Prop where
 M:Meth K C m f
 F:fj K m qual st f fd
 b:Binds K fd ps []
theorem uX (n:Str) (a:Addr):(kf n a).lookup ("place_of" : Str)=none/\(kf n a).lookup ("need" : Str)=none:=⟨Cw n a (by decide +kernel) (by decide +kernel),Cw n a (by decide +kernel) (by decide +kernel)⟩
def Mt (K:Frag) (C:Addr):Sp:=fun vs H Q _=>∃ (q o a b:Addr) (f nm:Str) (r:List PyData) (fs:List jJ) (zs:List Int),vs=[.ref q,.ref o,.ref b]/\Rep K H (.ref q) (.tuple (.str f::r))/\jU f r/\iZ C H o nm a fs/\fs.length≤4/\H b=some (.tup (zs.map V.int))/\zs.length=fs.length/\
 ∀ H',aB H H'->Q (.bl (iG nm fs zs f r)) H'
abbrev Ws:List Str:=["leaf","kind","values","form","place"]
theorem xN:aU Ws ["leaf","kind","values"] (aC (top 31)):=⟨rfl,rfl,rfl,by decide +kernel,rfl,by decide +kernel,by decide +kernel⟩
theorem Ju (F:fj K "passes_leaf" "passes_leaf" (top 31) f fd) (KC:KCls K mg C) (MP:MD K C "place_of" "Kind.place_of" (kM 3) ["self","field"] fM fdM) (GM:aQ P w K mg base bL 1 fM fdM ["self","field"] (uQ C)):aQ P w K mg base bL 2 f fd ["leaf","kind","values"] (Mt K C):=by
 refine F.ok xN (fun vs H Q E h=>?_) (fun cdv A outer s H vs Q E hr h=>?_)
 ·obtain ⟨q,o,a,b,f,nm,r,fs,zs,rfl,_⟩:=h
  rfl
 ·obtain ⟨q,o,a,b,f,nm,r,fs,zs,rfl,rq,lf,ka,fl,hb,zl,k⟩:=h
  refine ⟨_,(aq (bj (i:=3) xN.nd rfl (Or.inl rfl) (a_ aZ (pv 0) au (fun _ _=>rfl)))
   (aq (bc (aL bu (pv 3) aF (aN _)) (aA (aH eX)) aM)
   (aq (bc (aL bu (pv 3) aF (aN _)) (aA (aH (bH bu (pG (pv 1) rfl) (a_ aZ (pv 0) au (fun _ _=>rfl)) (aN _)))) aM)
   (aq (bj (i:=4) xN.nd rfl (Or.inl rfl) (uB (E:=E0) (pv 1) KC.cl MP.M GM hr MP.b .nil aO (aa (a_ aZ (pv 0) au (fun _ _=>rfl)) aj)))
   (aq (bc (aL sE (pv 4) mL (aN _)) (aA (aH eX)) aM)
   (aA (aH (gJ (aL bu (pv 3) aF (aN _)) (bH jx (a_ aZ (pv 2) (pv 4) (fun _ _=>rfl)) (a_ aZ (pv 0) au (fun _ _=>rfl)) (aN _)) (bH bu (a_ aZ (pv 2) (pv 4) (fun _ _=>rfl)) (a_ aZ (pv 0) au (fun _ _=>rfl)) (aN _)))))))))),?_⟩
  have ka0:=ka
  obtain ⟨⟨dx,ho⟩,_⟩:=ka0
  cases rq with
  |@tup _ xs _ sq rs=>
  cases lf with
  | all=>
    obtain ⟨x0,rfl⟩:∃ x0,xs=[x0]:=by
     cases rs with|cons r1 r2=>cases r2;exact ⟨_,rfl⟩
    cases rs with|cons r1 r2=>
    cases r1
    exact ⟨_,rfl,q,_,_,_,rfl,rfl,sq,aJ (j:=0) rfl,_,rfl,rfl,_,rfl,cC (by decide +kernel) (k _ (aB.refl _))⟩
  | @is x hx=>
    obtain ⟨x0,x1,rfl⟩:∃ x0 x1,xs=[x0,x1]:=by
     cases rs with|cons r1 r2=>cases r2 with|cons r2 r3=>cases r3;exact ⟨_,_,rfl⟩
    cases rs with|cons r1 r2=>
    cases r2 with|cons r2 r3=>
    cases r1
    cases r2
    refine ⟨_,rfl,q,_,_,_,rfl,rfl,sq,aJ (j:=0) rfl,_,rfl,rfl,_,rfl,bQ (by decide +kernel) ⟨_,rfl,rfl,_,rfl,cC (by decide +kernel) ?_⟩⟩
    refine ⟨_,rfl,o,C,dx,_,_,rfl,ho,KC.cl,KC.nN,Bq nm a,_,rfl,q,_,_,_,rfl,rfl,sq,aJ (j:=1) rfl,rfl,?_⟩
    have e:decide (V.str nm=V.str x)=iG nm fs zs "is" [.str x]:=by
     unfold iG
     rw [if_neg (by decide +kernel)]
     simp
    show Q (.bl (decide (V.str nm=V.str x))) H
    rw [e]
    exact k _ (aB.refl _)
  | @num f' x i hf hx hi=>
    obtain ⟨x0,x1,x2,rfl⟩:∃ x0 x1 x2,xs=[x0,x1,x2]:=by
     cases rs with|cons r1 r2=>cases r2 with|cons r2 r3=>cases r3 with|cons r3 r4=>cases r4;exact ⟨_,_,_,rfl⟩
    cases rs with|cons r1 r2=>
    cases r2 with|cons r2 r3=>
    cases r3 with|cons r3 r4=>
    cases r1
    cases r2
    cases r3
    have n1:decide (V.str f=V.str "all")=false:=by rcases hf with rfl|rfl <;> decide +kernel
    have n2:decide (V.str f=V.str "is")=false:=by rcases hf with rfl|rfl <;> decide +kernel
    have n3:¬ f = "all":=by rcases hf with rfl|rfl <;> decide +kernel
    refine ⟨_,rfl,q,_,_,_,rfl,rfl,sq,aJ (j:=0) rfl,_,rfl,rfl,_,rfl,bQ n1 ⟨_,rfl,rfl,_,rfl,bQ n2 ?_⟩⟩
    refine ⟨_,rfl,o,dx,_,rfl,ho,(uX nm a).1,_,rfl,q,_,_,_,rfl,rfl,sq,aJ (j:=1) rfl,o,a,nm,x,fs,rfl,ka,fl,fun H1 s1=>?_⟩
    have sq1:=s1.tup sq
    have hb1:=s1 _ _ hb
    unfold iG at k
    rw [if_neg n3] at k
    unfold oU
    by_cases hin:x∈fs.map (·.1)
    ·rw [if_pos hin]
     have k:∀ H',aB H H'->Q (.bl (if f = "less" then decide (zs.getD ((fs.map (·.1)).idxOf x) 0<i) else decide (zs.getD ((fs.map (·.1)).idxOf x) 0=i))) H':=fun H' s'=>by
      have:=k H' s'
      dsimp only at this
      rw [if_pos hin] at this
      exact this
     have il:(fs.map (·.1)).idxOf x<zs.length:=by
      have:=List.idxOf_lt_length_iff.mpr hin
      rw [List.length_map] at this
      omega
     have eg:zs.getD ((fs.map (·.1)).idxOf x) 0=zs[(fs.map (·.1)).idxOf x]:=by simp [List.getD_eq_getElem?_getD,il]
     rw [eg] at k
     refine ⟨_,rfl,rfl,_,rfl,bQ (by simp) ?_⟩
     have at1:pM (zs.map V.int) (((fs.map (·.1)).idxOf x:Nat):Int)=some (.int zs[(fs.map (·.1)).idxOf x]):=aJ (by rw [List.getElem?_map,List.getElem?_eq_getElem il];rfl)
     refine ⟨_,rfl,rfl,_,rfl,?_⟩
     rcases hf with rfl|rfl
     ·refine cC (by decide +kernel) ?_
      have:=k _ s1
      rw [if_pos rfl] at this
      exact ⟨_,rfl,_,rfl,b,_,_,_,rfl,rfl,bB.of hb1,at1,_,rfl,q,_,_,_,rfl,rfl,sq1,aJ (j:=2) rfl,_,_,rfl,rfl,this⟩
     ·refine bQ (by decide +kernel) ?_
      have:=k _ s1
      rw [if_neg (by decide +kernel)] at this
      refine ⟨_,rfl,_,rfl,b,_,_,_,rfl,rfl,bB.of hb1,at1,_,rfl,q,_,_,_,rfl,rfl,sq1,aJ (j:=2) rfl,rfl,?_⟩
      have e:decide (V.int zs[(fs.map (·.1)).idxOf x]=V.int i)=decide (zs[(fs.map (·.1)).idxOf x]=i):=by simp
      rw [e]
      exact this
    ·rw [if_neg hin]
     have k:∀ H',aB H H'->Q (.bl false) H':=fun H' s'=>by
      have:=k H' s'
      dsimp only at this
      rw [if_neg hin] at this
      exact this
     exact ⟨_,rfl,rfl,_,rfl,cC (by decide +kernel) (k _ s1)⟩
def Km (nm:Str) (fs:List jJ) (zs:List Int):PyData->Bool
 |.tuple (.str f::r)=>bZ nm fs zs 5 f r
 |_=>false
theorem nH (N:Node n f r) (tr:∀ d∈r,TD d):(f = "not"/\∃ g q,r=[.tuple (.str g::q)])∨((f = "and"∨f = "or")/\∃ g q h p,r=[.tuple (.str g::q),.tuple (.str h::p)]):=by
 have ar:=N.ar
 unfold arity at ar
 by_cases h1:f = "not"
 ·rw [if_pos h1] at ar
  injection ar with ar
  left
  refine ⟨h1,?_⟩
  match r,ar,N,tr with
  | [x],_,N,tr=>
    obtain ⟨g,q,rfl⟩:=cA (tr x (by simp)) (N.sh x (by simp))
    exact ⟨g,q,rfl⟩
 ·rw [if_neg h1] at ar
  right
  have two:∀ {r:List PyData},2=r.length->(∀ d∈r,TD d)->(∀ d∈r,bD d=true)->∃ g q h p,r=[.tuple (.str g::q),.tuple (.str h::p)]:=by
   intro r e t s
   match r,e,t,s with
   | [x,y],_,t,s=>
     obtain ⟨g,q,rfl⟩:=cA (t x (by simp)) (s x (by simp))
     obtain ⟨h,p,rfl⟩:=cA (t y (by simp)) (s y (by simp))
     exact ⟨g,q,h,p,rfl⟩
  by_cases h2:f = "and"
  ·rw [if_pos h2] at ar
   injection ar with ar
   exact ⟨.inl h2,two ar tr N.sh⟩
  ·rw [if_neg h2] at ar
   by_cases h3:f = "or"
   ·rw [if_pos h3] at ar
    injection ar with ar
    exact ⟨.inr h3,two ar tr N.sh⟩
   ·rw [if_neg h3] at ar
    cases ar
theorem km (h:arity f=none):¬ f = "not"/\¬ f = "and"/\¬ f = "or":=by
 unfold arity at h
 refine ⟨fun z=>?_,fun z=>?_,fun z=>?_⟩
 ·rw [if_pos z] at h;cases h
 ·by_cases h1:f = "not"
  ·rw [if_pos h1] at h;cases h
  ·rw [if_neg h1,if_pos z] at h;cases h
 ·by_cases h1:f = "not"
  ·rw [if_pos h1] at h;cases h
  ·rw [if_neg h1] at h
   by_cases h2:f = "and"
   ·rw [if_pos h2] at h;cases h
   ·rw [if_neg h2,if_pos z] at h;cases h
theorem eE (h:¬ f=g):decide (V.str f=V.str g)=false:=by
 rw [decide_eq_false_iff_not,V.str.injEq];exact h
def eN (x:Str) (ns:List Str) (n:Nat):List Nat:=(List.range n).filter fun i=>decide (ns[i]?=some x)
theorem tD (x y:Str) (t:List Str):eN x (y::t) (t.length+1)=(if y=x then [0] else [])++(eN x t t.length).map Nat.succ:=by
 unfold eN
 rw [List.range_succ_eq_map,List.filter_cons,List.filter_map]
 have e:((fun i=>decide ((y::t)[i]?=some x)) ∘ Nat.succ)=fun i=>decide (t[i]?=some x):=by
  funext i
  simp
 rw [e]
 by_cases h:y=x
 ·simp [h]
 ·simp [h]
theorem qR (x:Str):∀ ns:List Str,(x∉ns->eN x ns ns.length=[])/\(x∈ns->∃ r,eN x ns ns.length=ns.idxOf x::r)
 |[]=>⟨fun _=>rfl,fun h=>by simp at h⟩
 | y::t=>by
   obtain ⟨ih1,ih2⟩:=qR x t
   rw [List.length_cons,tD]
   refine ⟨fun h=>?_,fun h=>?_⟩
   ·simp at h
    rw [if_neg (fun z=>h.1 z.symm),ih1 h.2]
    rfl
   ·by_cases e:y=x
    ·rw [if_pos e]
     exact ⟨_,by rw [List.idxOf_cons,show (y == x)=true from by simp [e]];rfl⟩
    ·rw [if_neg e]
     have hm:x∈t:=by
      rcases List.mem_cons.mp h with z|z
      ·exact absurd z.symm e
      ·exact z
     obtain ⟨r,er⟩:=ih2 hm
     refine ⟨r.map Nat.succ,?_⟩
     rw [er,List.idxOf_cons,show (y == x)=false from by simp [e]]
     rfl
section
variable {P:Program} {w:World} {K:PySem.W.Frag} {mg:Str->Option Value} {base:Heap}
structure K4 (K:Frag) (n:Nat) (H:Hp) (q a b:Addr) (f:Str) (r:List PyData) (xs:List V) (fs:List jJ) (zs:List Int):Prop where
 rq:Rep K H (.ref q) (.tuple (.str f::r))
 td:TD (.tuple (.str f::r))
 sh:bD (.tuple (.str f::r))=true
 de:bF (.tuple (.str f::r))≤n
 ha:H a=some (.tup xs)
 pf:Paired (gF H) xs fs
 fl:fs.length≤4
 hb:H b=some (.tup (zs.map V.int))
 zl:zs.length=fs.length
def Gr (K:Frag) (n:Nat):Sp:=fun vs H Q _=>∃ (q a b:Addr) (f nm:Str) (r:List PyData) (xs:List V) (fs:List jJ) (zs:List Int),vs=[.ref q,.str nm,.ref a,.ref b]/\K4 K n H q a b f r xs fs zs/\∀ H',aB H H'->Q (.bl (bZ nm fs zs n f r)) H'
abbrev Jg:List Str:=["_law_test_here","_law_title","_law_fields","_law_values"]
abbrev Ui:List Str:=["_law_test_here","_law_title","_law_fields","_law_values","_law_both","_law_spots"]
theorem Ho:aU Ui Jg (aC (top 69)):=⟨rfl,rfl,rfl,by decide +kernel,rfl,by decide +kernel,by decide +kernel⟩
theorem N5 (DL:cH K mg "_law_passes" (top 69) Jg f fd) (T:Txt K mg) (n:Nat):aQ P w K mg base bL n f fd Jg (Gr K n):=by
 refine Nat.rec (motive:=fun n=>aQ P w K mg base bL n f fd Jg (Gr K n)) ⟨fun _ _ _ _ h=>?_,fun _ _ _ _ _ _ _ _ _ _ _ _ _ h=>?_⟩ (fun n GL=>?_) n
 ·obtain ⟨q,a,b,f,nm,r,xs,fs,zs,_,h,_⟩:=h
  exact absurd (Nat.le_trans (dj _) h.de) (by decide)
 ·obtain ⟨q,a,b,f,nm,r,xs,fs,zs,_,h,_⟩:=h
  exact absurd (Nat.le_trans (dj _) h.de) (by decide)
 refine DL.F.ok Ho (fun vs H Q E h=>?_) (fun cdv A outer s H vs Q E hr h=>?_)
 ·obtain ⟨q,a,b,f,nm,r,xs,fs,zs,rfl,_⟩:=h
  rfl
 ·obtain ⟨q,a,b,f,nm,r,xs,fs,zs,rfl,h,k⟩:=h
  refine ⟨_,(aq (bc (aL bu (a_ aZ (pv 0) au (fun _ _=>rfl)) aF (aN _)) (aA (aH (yH (aD GL hr rfl DL.mg DL.F.kp DL.b .nil aO (aa (a_ aZ (pv 0) au (fun _ _=>rfl)) (aa (pv 1) (aa (pv 2) (aa (pv 3) aj)))))))) aM)
   (aq (bc (aL dX (a_ aZ (pv 0) au (fun _ _=>rfl)) (bz (aa aF (aa aF aj))) rfl) (aq
    (gw (g:=bM 0) (i:=4) (own:=["_law_part"]) (js:=[2,1,3]) (N':=["_law_part","_law_fields","_law_title","_law_values"]) (bN.of (osc:=aC (top 69)) (N:=Ui) rfl rfl ⟨rfl,by decide +kernel,by decide +kernel,by decide +kernel,rfl,by decide +kernel⟩) rfl Ho.nd rfl rfl (iw (bV d_ (pv 0) (cF au) cG)) (fun _ _ _ _ _=>(aR (i:=0) (show List.Nodup (["_law_part","_law_fields","_law_title","_law_values"]:List Str) by decide +kernel) rfl (Or.inl rfl) (Or.inr rfl))) (fun _ _ _ _ _=>dh) (fun _ _ _ _ _=>aD GL hr rfl DL.mg DL.F.kp DL.b .nil aO (aa (pv 0) (aa (pv 2) (aa (pv 1) (aa (pv 3) aj))))))
    (aA (aH (gJ (aL bu (a_ aZ (pv 0) au (fun _ _=>rfl)) aF (aN _)) (aG (je rfl) (by rfl) T.all p_ (aa (pv 4) aj)) (aG (vW rfl) (by rfl) T.any Gj (aa (pv 4) aj)))))) aM)
   (aq (bc (aL bu (a_ aZ (pv 0) au (fun _ _=>rfl)) aF (aN _)) (aA (aH eX)) aM)
   (aq (bc (aL bu (a_ aZ (pv 0) au (fun _ _=>rfl)) aF (aN _)) (aA (aH (bH bu (pv 1) (a_ aZ (pv 0) au (fun _ _=>rfl)) (aN _)))) aM)
   (aq (gw (g:=bM 0) (i:=5) (own:=["_law_at"]) (js:=[2,0]) (N':=["_law_at","_law_fields","_law_test_here"]) (bN.of (osc:=aC (top 69)) (N:=Ui) rfl rfl ⟨rfl,by decide +kernel,by decide +kernel,by decide +kernel,rfl,by decide +kernel⟩) rfl Ho.nd rfl rfl (eO rfl T.range (aa (aG aV (by rfl) T.len bR (aa (pv 2) aj)) aj)) (fun _ _ _ _ _=>(aR (i:=0) (show List.Nodup (["_law_at","_law_fields","_law_test_here"]:List Str) by decide +kernel) rfl (Or.inl rfl) (Or.inr rfl))) (fun _ _ _ _ _=>yt (aL (r:=VL) bu (a_ (r:=wI K) aZ (a_ (r:=wI K) aZ (pv 1) (pv 0) (fun _ _=>rfl)) au (fun _ _=>rfl)) (a_ (r:=wI K) aZ (pv 2) au (fun _ _=>rfl)) (aN _))) (fun _ _ _ _ _=>pv 0))
   (aq (bc (aL bu (aG aV (by rfl) T.len bR (aa (pv 5) aj)) au (aN _)) (aA (aH eX)) aM)
   (aA (aH (gJ (aL bu (a_ aZ (pv 0) au (fun _ _=>rfl)) aF (aN _)) (bH jx (a_ aZ (pv 3) (a_ cR (pv 5) au (fun _ _=>rfl)) (fun _ _=>rfl)) (a_ aZ (pv 0) au (fun _ _=>rfl)) (aN _)) (bH bu (a_ aZ (pv 3) (a_ cR (pv 5) au (fun _ _=>rfl)) (fun _ _=>rfl)) (a_ aZ (pv 0) au (fun _ _=>rfl)) (aN _))))))))))),?_⟩
  obtain ⟨rq,td,sh,de,ha,pf,fl,hb,zl⟩:=h
  have rq0:=rq
  have pl:=Paired.length pf
  cases td with
  |node af lf nr tr=>
  cases rq with
  |@tup _ qs _ sq rs=>
  obtain ⟨x0,ys,rfl⟩:∃ x0 ys,qs=x0::ys:=by cases rs;exact ⟨_,_,rfl⟩
  obtain ⟨r0,rt⟩:Rep K H x0 (.str f)/\bw K H ys r:=by cases rs with|cons a b=>exact ⟨a,b⟩
  cases r0
  have hl:=rt.length
  refine ⟨_,rfl,q,_,_,_,rfl,rfl,sq,aJ (j:=0) rfl,rfl,_,rfl,?_⟩
  unfold bZ at k
  have ins:∀ {n':Nat} {g:Str} {u:List PyData} {y:V} {H1:Hp},aB H H1->Rep K H y (.tuple (.str g::u))->TD (.tuple (.str g::u))->bD (.tuple (.str g::u))=true->bF (.tuple (.str g::u))≤n'->∃ q1,y=.ref q1/\K4 K n' H1 q1 a b g u xs fs zs:=by
   intro n' g u y H1 e ry t s d
   cases ry with
   |@tup q1 z1 _ s1 t1=>exact ⟨q1,rfl,.tup (e.tup s1) (t1.same e),t,s,d,e _ _ ha,dC pf fun _ _ z=>e _ _ z,fl,e _ _ hb,zl⟩
  rcases gj sh de with ⟨hna,hlf⟩|N
  ·obtain ⟨n1,n2,n3⟩:=km hna
   rw [if_neg n1,if_neg n2,if_neg n3] at k
   refine bQ (eE n1) ⟨_,rfl,q,_,_,_,rfl,rfl,sq,aJ (j:=0) rfl,(show 2≤sizeLine by decide),fun t ht=>?_⟩
   have s0:aB H (upd H t (.tup [.str "and",.str "or"])):=aB.new ht
   refine ⟨t,_,rfl,.inr (bB.of ak),rfl,rfl,_,rfl,?_⟩
   rw [zZ]
   generalize upd H t (.tup [.str "and",.str "or"])=H0 at s0 ⊢
   have sq0:=s0.tup sq
   refine bQ (decide_eq_false fun z=>z.elim n2 n3) ⟨_,rfl,q,_,_,_,rfl,rfl,sq0,aJ (j:=0) rfl,rfl,_,rfl,?_⟩
   have lf:=pq hlf
   cases lf with
   |all=>exact cC (by decide +kernel) (k _ s0)
   | @is x hx=>
     cases rt with|@cons y1 _ y2 _ r1 r2=>
     cases r2
     cases r1
     refine bQ (by decide +kernel) ⟨_,rfl,q,_,_,_,rfl,rfl,sq0,aJ (j:=0) rfl,rfl,_,rfl,cC (by decide +kernel) ?_⟩
     refine ⟨_,rfl,_,rfl,q,_,_,_,rfl,rfl,sq0,aJ (j:=1) rfl,rfl,?_⟩
     have e:decide (V.str nm=V.str x)=iG nm fs zs "is" [.str x]:=by
      unfold iG
      rw [if_neg (by decide +kernel)]
      simp
     show Q (.bl (decide (V.str nm=V.str x))) H0
     rw [e]
     exact k _ s0
   | @num f' x i hf hx hi=>
     cases rt with|@cons y1 _ y2 _ r1 r2=>
     cases r2 with|@cons y3 _ y4 _ r2 r3=>
     cases r3
     cases r1
     cases r2
     have m1:decide (V.str f=V.str "all")=false:=by rcases hf with rfl|rfl <;> decide +kernel
     have m2:decide (V.str f=V.str "is")=false:=by rcases hf with rfl|rfl <;> decide +kernel
     have m3:¬ f = "all":=by rcases hf with rfl|rfl <;> decide +kernel
     unfold iG at k
     rw [if_neg m3] at k
     dsimp only at k
     have ha0:=s0 _ _ ha
     have big:200000≤sizeLine:=by decide
     refine bQ m1 ⟨_,rfl,q,_,_,_,rfl,rfl,sq0,aJ (j:=0) rfl,rfl,_,rfl,bQ m2 ?_⟩
     refine ⟨_,rfl,a,xs,rfl,.inr (bB.of ha0),(xs.length:Int),rfl,by omega,by omega,?_⟩
     refine q_ (lo:=0) (n:=xs.length) (fun j ws σ' H'=>(∃ v,σ'=[v,some (.ref a),some (.ref q)])/\H'=H0/\ws=(eN x (fs.map (·.1)) j).map fun j=>V.int (j:Nat)) (by omega) ⟨⟨none,rfl⟩,rfl,rfl⟩ ?_ ?_
     ·rintro j ws σ' H' hj ⟨⟨v,rfl⟩,rfl,rfl⟩ N hN
      rw [show (0:Int)+(j:Int)=((j:Nat):Int) from Int.zero_add _]
      have hxj:=List.getElem?_eq_getElem hj
      obtain ⟨⟨fn,flo,fhi⟩,hfj,b',e',hb'⟩:=cN pf hxj
      have hb0:=s0 _ _ hb'
      refine ⟨_,rfl,_,rfl,a,_,_,xs[j],rfl,rfl,bB.of ha0,aJ hxj,b',_,_,_,e',rfl,bB.of hb0,aJ (j:=0) rfl,_,rfl,q,_,_,_,rfl,rfl,sq0,aJ (j:=1) rfl,rfl,_,rfl,?_⟩
      have cd:decide (V.str fn=V.str x)=decide ((fs.map (·.1))[j]?=some x):=by
       rw [List.getElem?_map,hfj]
       simp
      have e1:eN x (fs.map (·.1)) (j+1)=eN x (fs.map (·.1)) j++(if decide ((fs.map (·.1))[j]?=some x)=true then [j] else []):=by
       unfold eN
       rw [List.range_succ,List.filter_append,List.filter_cons,List.filter_nil]
      refine (show (if decide (V.str fn=V.str x)=true then _ else _) from ?_)
      rw [cd]
      cases hd:decide ((fs.map (·.1))[j]?=some x) with
      | true=>
        rw [hd] at e1
        exact cC rfl ⟨_,rfl,hN _ _ _ ⟨⟨_,rfl⟩,rfl,by rw [e1];simp⟩ (by simp)⟩
      | false=>
        rw [hd] at e1
        exact bQ rfl (hN _ _ _ ⟨⟨_,rfl⟩,rfl,by rw [e1];simp⟩ (by simp))
     ·rintro ws σ' H' hw ⟨⟨v,rfl⟩,rfl,rfl⟩
      rw [show xs.length=(fs.map (·.1)).length by rw [List.length_map];exact pl] at hw ⊢
      refine ⟨Nat.le_trans hw (by rw [List.length_map];omega),fun p hp=>?_⟩
      obtain ⟨o1,o2⟩:=qR x (fs.map (·.1))
      have s1:aB H' (upd H' p (.lst ((eN x (fs.map (·.1)) (fs.map (·.1)).length).map fun j=>V.int (j:Nat)))):=aB.new hp
      have hp1:(upd H' p (.lst ((eN x (fs.map (·.1)) (fs.map (·.1)).length).map fun j=>V.int (j:Nat)))) p=some (.lst ((eN x (fs.map (·.1)) (fs.map (·.1)).length).map fun j=>V.int (j:Nat))):=ak
      generalize upd H' p (.lst ((eN x (fs.map (·.1)) (fs.map (·.1)).length).map fun j=>V.int (j:Nat)))=H1 at s1 hp1 ⊢
      have S1:=s0.trans s1
      have sq1:=S1.tup sq
      have hb1:=S1 _ _ hb
      by_cases hin:x∈fs.map (·.1)
      ·obtain ⟨rest,er⟩:=o2 hin
       rw [er,List.map_cons] at hp1
       rw [if_pos hin] at k
       have il:(fs.map (·.1)).idxOf x<zs.length:=by
        have:=List.idxOf_lt_length_iff.mpr hin
        rw [List.length_map] at this
        omega
       have eg:zs.getD ((fs.map (·.1)).idxOf x) 0=zs[(fs.map (·.1)).idxOf x]:=by simp [List.getD_eq_getElem?_getD,il]
       rw [eg] at k
       have at1:pM (zs.map V.int) (((fs.map (·.1)).idxOf x:Nat):Int)=some (.int zs[(fs.map (·.1)).idxOf x]):=aJ (by rw [List.getElem?_map,List.getElem?_eq_getElem il];rfl)
       refine ⟨_,rfl,p,_,rfl,.inl (bJ.of hp1),rfl,_,rfl,bQ (by simp;omega) ?_⟩
       refine ⟨_,rfl,q,_,_,_,rfl,rfl,sq1,aJ (j:=0) rfl,rfl,_,rfl,?_⟩
       rcases hf with rfl|rfl
       ·refine cC (by decide +kernel) ?_
        have:=k _ S1
        rw [if_pos rfl] at this
        exact ⟨_,rfl,_,rfl,p,_,_,_,rfl,rfl,bJ.of hp1,aJ (j:=0) rfl,b,_,_,_,rfl,rfl,bB.of hb1,at1,_,rfl,q,_,_,_,rfl,rfl,sq1,aJ (j:=2) rfl,_,_,rfl,rfl,this⟩
       ·refine bQ (by decide +kernel) ?_
        have:=k _ S1
        rw [if_neg (by decide +kernel)] at this
        refine ⟨_,rfl,_,rfl,p,_,_,_,rfl,rfl,bJ.of hp1,aJ (j:=0) rfl,b,_,_,_,rfl,rfl,bB.of hb1,at1,_,rfl,q,_,_,_,rfl,rfl,sq1,aJ (j:=2) rfl,rfl,?_⟩
        have e:decide (V.int zs[(fs.map (·.1)).idxOf x]=V.int i)=decide (zs[(fs.map (·.1)).idxOf x]=i):=by simp
        rw [e]
        exact this
      ·rw [o1 hin,List.map_nil] at hp1
       rw [if_neg hin] at k
       exact ⟨_,rfl,p,_,rfl,.inl (bJ.of hp1),rfl,_,rfl,cC (by decide +kernel) (k _ S1)⟩
  ·rcases nH N tr with ⟨rfl,g,u,rfl⟩|⟨hf,g,u,h,v,rfl⟩
   ·rw [if_pos rfl] at k
    cases rt with
    |@cons y1 _ y2 _ r1 r2=>
    cases r2
    obtain ⟨q1,rfl,i1⟩:=ins (aB.refl _) r1 (tr _ (by simp)) (N.sh _ (by simp)) (N.de _ (by simp))
    exact cC (by decide +kernel) ⟨_,rfl,q,_,_,_,rfl,rfl,sq,aJ (j:=1) rfl,_,rfl,_,rfl,_,rfl,q1,a,b,g,nm,u,xs,fs,zs,rfl,i1,fun H1 e1=>⟨_,rfl,k H1 e1⟩⟩
   ·have n1:¬ f = "not":=by rcases hf with rfl|rfl <;> decide +kernel
    refine bQ (eE n1) ⟨_,rfl,q,_,_,_,rfl,rfl,sq,aJ (j:=0) rfl,(show 2≤sizeLine by decide),fun t ht=>?_⟩
    have s0:aB H (upd H t (.tup [.str "and",.str "or"])):=aB.new ht
    refine ⟨t,_,rfl,.inr (bB.of ak),rfl,rfl,_,rfl,?_⟩
    rw [zZ]
    generalize upd H t (.tup [.str "and",.str "or"])=H0 at s0 ⊢
    have sq0:=s0.tup sq
    refine cC (decide_eq_true hf) ⟨_,rfl,1,rfl,q,_,rfl,sq0,(fun e=>?_),fun p hp=>?_⟩
    ·rw [lJ] at e
     have:=congrArg List.length e
     simp at this
    rw [lJ]
    have sp:bB K (upd H0 p (.tup ys)) p ys:=bB.of ak
    have s1:aB H0 (upd H0 p (.tup ys)):=aB.new hp
    generalize upd H0 p (.tup ys)=H1 at sp s1 ⊢
    refine ⟨p,rfl,⟨_,sp⟩,?_⟩
    refine iI (K:=K) (a:=p) (xs:=ys) (fun i ws σ' H'=>(∃ v,σ'=[v,some (.ref a),some (.str nm),some (.ref b)])/\aB H1 H'/\ws=(([bZ nm fs zs n g u,bZ nm fs zs n h v].take i).map V.bl)) (Nat.le_trans (show ys.length≤2 by rw [hl];simp) (by decide)) ⟨⟨none,rfl⟩,aB.refl _,rfl⟩ (fun i ws σ' H' _ ⟨_,s2,_⟩=>s2.tup sp) ?_ ?_
    ·rintro i y ws σ' H2 hy hws ⟨⟨v',rfl⟩,s2,rfl⟩ N' hN
     obtain ⟨d,hd,ry⟩:=rt.get' hy
     have me:=List.mem_of_getElem? hd
     have il:i<2:=(List.getElem?_eq_some_iff.mp hd).1
     obtain ⟨g',u',rfl,hi⟩:∃ g' u',d=.tuple (.str g'::u')/\([bZ nm fs zs n g u,bZ nm fs zs n h v]:List Bool)[i]?=some (bZ nm fs zs n g' u'):=by
      match i,il,hd with
      |0,_,hd=>exact ⟨g,u,by simpa using hd.symm,rfl⟩
      |1,_,hd=>exact ⟨h,v,by simpa using hd.symm,rfl⟩
     obtain ⟨q1,rfl,i1⟩:=ins ((s0.trans s1).trans s2) ry (tr _ me) (N.sh _ me) (N.de _ me)
     refine ⟨_,rfl,_,rfl,_,rfl,_,rfl,q1,a,b,g',nm,u',xs,fs,zs,rfl,i1,fun H3 s3=>?_⟩
     exact hN _ _ _ (by rw [List.length_append,hws];rfl) ⟨⟨_,rfl⟩,s2.trans s3,by rw [List.take_add_one,hi];simp⟩
    ·rintro ws σ' H2 hws ⟨⟨v',rfl⟩,s2,rfl⟩
     rw [List.take_of_length_le (by rw [hl];simp),show ([bZ nm fs zs n g u,bZ nm fs zs n h v]:List Bool).map V.bl=[.bl (bZ nm fs zs n g u),.bl (bZ nm fs zs n h v)] from rfl]
     refine ⟨(show 2≤sizeLine by decide),fun l hl'=>?_⟩
     have s3:aB H (upd H2 l (.lst [.bl (bZ nm fs zs n g u),.bl (bZ nm fs zs n h v)])):=((s0.trans s1).trans s2).trans (aB.new hl')
     have h3:(upd H2 l (.lst [.bl (bZ nm fs zs n g u),.bl (bZ nm fs zs n h v)])) l=some (.lst [.bl (bZ nm fs zs n g u),.bl (bZ nm fs zs n h v)]):=ak
     generalize upd H2 l (.lst [.bl (bZ nm fs zs n g u),.bl (bZ nm fs zs n h v)])=H3 at s3 h3 ⊢
     refine ⟨_,rfl,q,_,_,_,rfl,rfl,s3.tup sq,aJ (j:=0) rfl,rfl,_,rfl,?_⟩
     rcases hf with rfl|rfl
     ·rw [if_neg (by decide +kernel),if_pos rfl] at k
      have:=k _ s3
      refine cC (by decide +kernel) ⟨_,rfl,l,[bZ nm fs zs n g u,bZ nm fs zs n h v],rfl,bJ.of h3,?_⟩
      simpa using this
     ·rw [if_neg (by decide +kernel),if_neg (by decide +kernel),if_pos rfl] at k
      have:=k _ s3
      refine bQ (by decide +kernel) ⟨_,rfl,l,[bZ nm fs zs n g u,bZ nm fs zs n h v],rfl,bJ.of h3,?_⟩
      simpa using this
end
def ext (rows:List (List Int)) (ts:List Int):List (List Int):=rows.flatMap fun r=>ts.map fun v=>r++[v]
theorem uG:x∈ext rows ts↔∃ r∈rows,∃ v∈ts,x=r++[v]:=by
 unfold ext
 simp only [List.mem_flatMap,List.mem_map]
 exact ⟨fun ⟨r,hr,v,hv,e⟩=>⟨r,hr,v,hv,e.symm⟩,fun ⟨r,hr,v,hv,e⟩=>⟨r,hr,v,hv,e.symm⟩⟩
theorem uI:(ext rows ts).length=rows.length*ts.length:=by
 unfold ext
 induction rows with
 |nil=>simp
 |cons r t ih=>rw [List.flatMap_cons,List.length_append,ih,List.length_map,List.length_cons,Nat.succ_mul,Nat.add_comm]
def uZ (tss:List (List Int)):List (List Int):=tss.foldl ext [[]]
theorem zf (tss:List (List Int)) (ts:List Int):uZ (tss++[ts])=ext (uZ tss) ts:=by unfold uZ;rw [List.foldl_append];rfl
theorem pI:x∈uZ tss↔Paired (fun (v:Int) (ts:List Int)=>v∈ts) x tss:=by
 have go:∀ (tss rows:List (List Int)) (x:List Int),x∈tss.foldl ext rows↔∃ r∈rows,∃ y,x=r++y/\Paired (fun (v:Int) (ts:List Int)=>v∈ts) y tss:=by
  intro tss
  induction tss with
  | nil=>
    intro rows x
    refine ⟨fun h=>⟨x,h,[],(List.append_nil _).symm,.nil⟩,fun ⟨r,hr,y,e,p⟩=>?_⟩
    cases p
    rw [List.append_nil] at e
    subst e
    exact hr
  | cons ts t ih=>
    intro rows x
    show x∈t.foldl ext (ext rows ts)↔_
    rw [ih]
    constructor
    ·rintro ⟨r,hr,y,rfl,p⟩
     obtain ⟨r',hr',v,hv,rfl⟩:=uG.mp hr
     exact ⟨r',hr',v::y,by simp,.cons hv p⟩
    ·rintro ⟨r,hr,y,rfl,p⟩
     cases p with
     |@cons v _ y' _ hv p=>exact ⟨r++[v],uG.mpr ⟨r,hr,v,hv,rfl⟩,y',by simp,p⟩
 unfold uZ
 rw [go]
 constructor
 ·rintro ⟨r,hr,y,rfl,p⟩
  cases List.mem_singleton.mp hr
  exact p
 ·exact fun p=>⟨[],List.mem_singleton.mpr rfl,x,rfl,p⟩
def Et:List Int->List jJ->Prop:=Paired fun (z:Int) (f:jJ)=>f.2.1≤z/\z≤f.2.2
def nA (H:Hp) (x:V) (r:List Int):Prop:=∃ p,x=.ref p/\H p=some (.tup (r.map V.int))
theorem nA.tk (h:nA H x r) (k:TK H H'):nA H' x r:=let ⟨p,e,z⟩:=h;⟨p,e,k _ _ z⟩
theorem j9 (k:TK H H'):∀ {xs:List V} {rs:List (List Int)},Paired (nA H) xs rs->Paired (nA H') xs rs
 |_,_,.nil=>.nil
 |_,_,.cons a t=>.cons (a.tk k) (j9 k t)
theorem _root_.L2.aB.tkT (s:aB H H'):TK H H':=fun b xs e=>s _ _ e
theorem Paired.snoc2 {α β:Type} {R:α->β->Prop} {x:α} {y:β} (h:R x y):∀ {xs:List α} {ys:List β},Paired R xs ys->Paired R (xs++[x]) (ys++[y])
 |_,_,.nil=>.cons h .nil
 |_,_,.cons a t=>.cons a (Paired.snoc2 h t)
structure Ag (f:jJ):Prop where
 nm:Nm f.1
 lo:-2≤f.2.1
 lt:f.2.1≤10
 le:f.2.1≤f.2.2
 hi:f.2.2≤f.2.1+8
theorem Ag.ok (h:Ag f):qD f:=⟨h.nm,by have:=h.lo;omega,h.le,by have:=h.lt;have:=h.hi;omega⟩
def K1:Sp:=fun vs H Q _=>∃ (p dc:Addr),vs=[.ref p]/\Dr H p dc/\∀ (a:Addr) (xs:List V) (fs:List jJ) (H':Hp),H' a=some (.tup xs)->Paired (gF H') xs fs->fs.length≤3->(∀ f∈fs,Ag f)->(fs.map (·.1)).Nodup->Dr H' p dc->cL p H H'->Q (.ref a) H'
abbrev Wr:List Str:=["_law_d","_law_names","_law_found","_law_title","_law_low"]
theorem xQ:aU Wr ["_law_d"] (aC (top 70)):=⟨rfl,rfl,rfl,by decide +kernel,rfl,by decide +kernel,by decide +kernel⟩
theorem K7 (F:fj K "_law_small_fields" "_law_small_fields" (top 70) f fd) (T:Txt K mg) (DP:cH K mg "_law_pick" (top 49) ["_law_d","_law_many"] fP fdP) (DO:cH K mg "_law_of" (top 50) ["_law_d","_law_things"] fO fdO)
 (DW:cH K mg "_law_word" (top 53) ["_law_d"] fW fdW) (DWs:cH K mg "_law_words" (top 54) ["_law_d","_law_many"] fWs fdWs):aQ P w K mg base bL 5 f fd ["_law_d"] K1:=by
 have GP:aQ P w K mg base bL 1 fP fdP ["_law_d","_law_many"] gR:=fZ DP.F T
 have GO:aQ P w K mg base bL 2 fO fdO ["_law_d","_law_things"] (rQ K):=oA DO.F T DP
 have GWs:aQ P w K mg base bL 4 fWs fdWs ["_law_d","_law_many"] (ut K):=yI DWs.F T DP DO DW
 refine F.ok xQ (fun vs H Q E h=>?_) (fun cdv A outer s H vs Q E hr h=>?_)
 ·obtain ⟨p,dc,rfl,_⟩:=h
  rfl
 ·obtain ⟨p,dc,rfl,D,k⟩:=h
  have hr1:bK 1 _:=hr.mono (by decide)
  have hr2:bK 2 _:=hr.mono (by decide)
  refine ⟨_,(aq
 (bj (i:=1) xQ.nd rfl (Or.inl rfl) (aD GWs hr rfl DWs.mg DWs.F.kp DWs.b .nil aO (aa (pv 0) (aa (aD GP hr1 rfl DP.mg DP.F.kp DP.b .nil aO (aa (pv 0) (aa au aj))) aj))))
 (aq
 (bj (i:=2) xQ.nd rfl (Or.inl rfl) (bY aj))
 (aq
 (dM PassesOwn.never rfl (gO (pv 1)) (aR (i:=3) xQ.nd rfl (Or.inl rfl)) (aq
 (bj (i:=4) xQ.nd rfl (Or.inl rfl) (aD GO hr2 rfl DO.mg DO.F.kp DO.b .nil aO (aa (pv 0) (aa (bY (aa au (aa (iV gD au) (aa au (aa au aj))))) aj))))
 (aA
 (cZ (jw PySem.F.plainAttrs_list PySem.F.slot_list_append PySem.F.type_list_append ir (pv 2) (aa (bz (aa (pv 3) (aa (pv 4) (aa (bh cX (pv 4) (aD GO hr2 rfl DO.mg DO.F.kp DO.b .nil aO (aa (pv 0) (aa (bY (aa au (aa au (aa au (aa au aj))))) aj)))) aj)))) aj))))))
 (aA
 (aH (j7 jt (by rfl) T.tuple eV (aa (pv 2) aj))))))),?_⟩
  refine ⟨_,rfl,_,rfl,p,dc,_,rfl,D,by decide,by decide,fun m H00 m0 m1 D00 t00=>?_⟩
  refine ⟨p,dc,m,rfl,D00,m0,by omega,fun q ys H1 e1 hq hl hy nd D1 t1'=>?_⟩
  have t1:=t00.trans t1'
  refine ⟨(show 0≤sizeLine by decide),fun q2 h2=>?_⟩
  have D1':=D1.new (o:=.lst []) h2
  have e1':(upd H1 q2 (.lst [])) q=some (.lst (ys.map V.str)):=(aB.new h2) _ _ e1
  have nq:q2≠q:=(aP e1 h2).symm
  have hq2:H q2=none:=by
   cases e:H q2 with
   |none=>rfl
   |some o=>rw [t1 q2 o e (D1.neN h2).symm] at h2;cases h2
  have nq2c:q2≠dc:=by
   obtain ⟨xs,e⟩:=D1.cell
   exact (aP e h2).symm
  refine ⟨_,rfl,q,rfl,⟨_,bJ.of e1'⟩,j6 (K:=K) (a:=q) (xs:=ys.map V.str) (fun i σ H2=>∃ (xs:List V) (fs:List jJ) (a b:Option V),σ=[some (.ref p),some (.ref q),some (.ref q2),a,b]/\H2 q=some (.lst (ys.map V.str))/\H2 q2=some (.lst xs)/\Paired (gF H2) xs fs/\fs.map (·.1)=ys.take i/\(∀ f∈fs,Ag f)/\Dr H2 p dc/\cL p H H2)
   ⟨[],[],none,none,rfl,e1',ak,.nil,by simp,(fun _ h=>by cases h),D1',t1.trans (cL.new h2)⟩ (fun i σ H2 _ ⟨_,_,_,_,_,e,_⟩=>bJ.of e) ?_ ?_⟩
  ·rintro i y σ H2 hi ⟨xs,fs,a,b,rfl,g1,g2,pf,hm,hf,D2,t2⟩
   rw [List.getElem?_map] at hi
   obtain ⟨n,hn,rfl⟩:=Option.map_eq_some_iff.mp hi
   have hil:i<ys.length:=(List.getElem?_eq_some_iff.mp hn).1
   have np:∀ {b:Addr} {ws:List V} {H':Hp},Dr H' p dc->H' b=some (.lst ws)->b≠p:=fun d e=>d.ne e (by intro kvs z;cases z)
   refine ⟨_,rfl,_,rfl,(show 4≤sizeLine by decide),fun q3 h3=>?_⟩
   refine ⟨p,dc,q3,_,rfl,D2.new h3,bJ.of ak,by simp,by simp,fun x H5 hx D5 t5=>?_⟩
   obtain ⟨lo,rfl,lo0,lo1⟩:∃ z:Int,x=.int z/\-2≤z/\z≤10:=by
    simp only [List.mem_cons,List.not_mem_nil,or_false] at hx
    rcases hx with rfl|rfl|rfl|rfl
    all_goals exact ⟨_,rfl,by decide,by decide⟩
   have t25:cL p H2 H5:=(cL.new h3).trans t5
   have g2a:H5 q2=some (.lst xs):=t25 q2 _ g2 (np D2 g2)
   refine ⟨_,rfl,.inl ⟨rfl,_,bJ.of g2a⟩,_,rfl,_,rfl,_,rfl,_,rfl,(show 4≤sizeLine by decide),fun q5 h5=>?_⟩
   refine ⟨p,dc,q5,_,rfl,D5.new h5,bJ.of ak,by simp,by simp,fun x H6 hx D6 t6=>?_⟩
   obtain ⟨z,rfl,z0,z1⟩:∃ z:Int,x=.int z/\0≤z/\z≤8:=by
    simp only [List.mem_cons,List.not_mem_nil,or_false] at hx
    rcases hx with rfl|rfl|rfl|rfl
    all_goals exact ⟨_,rfl,by decide,by decide⟩
   have t26:cL p H2 H6:=t25.trans ((cL.new h5).trans t6)
   have g1':H6 q=some (.lst (ys.map V.str)):=t26 q _ g1 (np D2 g1)
   have g2':H6 q2=some (.lst xs):=t26 q2 _ g2 (np D2 g2)
   have k5:TK H2 H6:=TK.but D2 t26
   refine ⟨_,_,rfl,rfl,(show 3≤sizeLine by decide),fun q4 h4=>?_⟩
   have g2'':∀ o,(upd H6 q4 o) q2=some (.lst xs):=fun o=>(aB.new h4) _ _ g2'
   have hlen:fs.length=i:=by
    have:=congrArg List.length hm
    rw [List.length_map,List.length_take] at this
    omega
   have pl:=Paired.length pf
   refine ⟨q2,xs,_,rfl,rfl,g2'' _,gr (by omega),?_⟩
   refine ⟨xs++[.ref q4],fs++[(n,lo,lo+z)],_,_,rfl,?_,ak,?_,?_,?_,?_,?_⟩
   ·rw [aK nq.symm];exact (aB.new h4) _ _ g1'
   ·refine Paired.snoc2 ⟨q4,rfl,?_⟩ (dC pf (k5.trans ((TK.new h4).trans (TK.lst (g2'' _)))))
    exact (TK.lst (g2'' _)) _ _ ak
   ·rw [List.map_append,hm,List.take_add_one,hn];rfl
   ·intro f hf'
    rcases List.mem_append.mp hf' with hf'|hf'
    ·exact hf f hf'
    ·obtain rfl:f=(n,lo,lo+z):=by simpa using hf'
     exact ⟨hy n (List.mem_of_getElem? hn),lo0,lo1,by dsimp only;omega,by dsimp only;omega⟩
   ·exact (D6.new h4).put (np (D6.new (o:=.tup [.str n,.int lo,.int (lo+z)]) h4) (g2'' _)) nq2c
   ·intro b o e hb
    rw [aK (aP e hq2)]
    exact (aB.new h4) _ _ ((t2.trans t26) b o e hb)
  ·rintro σ H2 ⟨xs,fs,a,b,rfl,g1,g2,pf,hm,hf,D2,t2⟩
   rw [List.length_map,List.take_length] at hm
   refine ⟨_,rfl,q2,xs,rfl,.inl ⟨bJ.of g2,fun l hn=>?_⟩⟩
   refine k l xs fs _ ak (dC pf (TK.new hn)) ?_ hf (by rw [hm];exact nd) (D2.new hn) (t2.trans (cL.new hn))
   rw [← List.length_map (f:=(·.1)),hm];omega
def dz (f:jJ):List Int:=(List.range (f.2.2+1-f.2.1).toNat).map fun i:Nat=>f.2.1+i
theorem qw:v∈dz f↔f.2.1≤v/\v≤f.2.2:=by
 unfold dz
 rw [List.mem_map]
 refine ⟨fun ⟨i,hi,e⟩=>?_,fun h=>⟨(v-f.2.1).toNat,List.mem_range.mpr (by omega),by omega⟩⟩
 have:=List.mem_range.mp hi
 omega
theorem mD (h:Ag f):(dz f).length≤9:=by
 unfold dz
 rw [List.length_map,List.length_range]
 have:=h.hi
 omega
theorem jT:∀ {fs:List jJ} {zs:List Int},Paired (fun (v:Int) (ts:List Int)=>v∈ts) zs (fs.map dz)↔Et zs fs
 | [],zs=>by
   constructor
   ·intro h;cases h;exact .nil
   ·intro h;cases h;exact .nil
 | f::fs,zs=>by
   rw [List.map_cons]
   constructor
   ·intro h
    cases h with
    |cons a t=>exact .cons (qw.mp a) (jT.mp t)
   ·intro h
    cases h with
    |cons a t=>exact .cons (qw.mpr a) (jT.mpr t)
theorem ux {fs:List jJ} (h:∀ f∈fs,Ag f):∀ n,fs.length≤n->(uZ (fs.map dz)).length≤9 ^ fs.length:=fun _ _=>by
 have go:∀ (fs:List jJ) (rows:List (List Int)),(∀ f∈fs,Ag f)->((fs.map dz).foldl ext rows).length≤rows.length*9 ^ fs.length:=by
  intro fs
  induction fs with
  |nil=>intro rows _;simp
  | cons f t ih=>
    intro rows h
    rw [List.map_cons,List.foldl_cons,List.length_cons,Nat.pow_succ,Nat.mul_comm (9 ^ t.length),← Nat.mul_assoc]
    refine Nat.le_trans (ih _ fun g hg=>h g (.tail _ hg)) (Nat.mul_le_mul_right _ ?_)
    rw [uI]
    exact Nat.mul_le_mul_left _ (mD (h f (.head _)))
 have:=go fs [[]] h
 simpa [uZ] using this
def Jw (H:Hp) (v:V) (x:List Int×Int):Prop:=∃ p b,v=.ref p/\H p=some (.tup [.ref b,.int x.2])/\H b=some (.tup (x.1.map V.int))
theorem qe (k:TK H H'):∀ {xs:List V} {rs:List (List Int×Int)},Paired (Jw H) xs rs->Paired (Jw H') xs rs
 |_,_,.nil=>.nil
 |_,_,.cons ⟨p,b,e,h1,h2⟩ t=>.cons ⟨p,b,e,k _ _ h1,k _ _ h2⟩ (qe k t)
def mJ (rows:List (List Int)) (ts:List Int):List (List Int×Int):=rows.flatMap fun r=>ts.map fun v=>(r,v)
theorem v4 (rows:List (List Int)) (ts:List Int):(mJ rows ts).map (fun x=>x.1++[x.2])=ext rows ts:=by
 unfold mJ ext
 rw [List.map_flatMap]
 congr 1
 funext r
 rw [List.map_map]
 rfl
theorem Paired.app2 {α β:Type} {R:α->β->Prop}:∀ {a c:List α} {b d:List β},Paired R a b->Paired R c d->Paired R (a++c) (b++d)
 |_,_,_,_,.nil,h=>h
 |_,_,_,_,.cons x t,h=>.cons x (Paired.app2 t h)
def Mj (K:Frag):Sp:=fun vs H Q _=>∃ (q:Addr) (x:V) (ys:List V) (rows:List (List Int)) (f:jJ),vs=[.ref q,x]/\H q=some (.lst ys)/\Paired (nA H) ys rows/\gF H x f/\Ag f/\rows.length≤1000/\∀ l zs H',H' l=some (.lst zs)->Paired (Jw H') zs (mJ rows (dz f))->aB H H'->Q (.ref l) H'
abbrev VN:List Str:=["_law_rows","_law_field","_law_found","_law_row"]
theorem J2:aU VN ["_law_rows","_law_field"] (aC (top 71)):=⟨rfl,rfl,rfl,by decide +kernel,rfl,by decide +kernel,by decide +kernel⟩
theorem Qc {f:Addr} {fd:FuncData} (F:fj K "_law_all_pairs" "_law_all_pairs" (top 71) f fd) (T:Txt K mg):aQ P w K mg base bL 1 f fd ["_law_rows","_law_field"] (Mj K):=by
 refine F.ok J2 (fun vs H Q E h=>?_) (fun cdv A outer s H vs Q E hr h=>?_)
 ·obtain ⟨q,x,ys,rows,f,rfl,_⟩:=h
  rfl
 ·obtain ⟨q,x,ys,rows,g,rfl,hq,py,⟨bf,rfl,hbf⟩,sm,rl,k⟩:=h
  refine ⟨_,(aq (bj (i:=2) J2.nd rfl (by first|exact Or.inl rfl|exact Or.inr rfl) (bY aj))
   (aq (dM PassesOwn.never rfl (gO (pv 0)) (aR (i:=3) J2.nd rfl (by first|exact Or.inl rfl|exact Or.inr rfl))
    (aA (cZ (jw PySem.F.plainAttrs_list PySem.F.slot_list_extend PySem.F.type_list_extend oK (pv 2) (aa (gk (g:=bM 0) (own:=["_law_number_here"]) (js:=[3]) (N':=["_law_number_here","_law_row"]) (bN.of (osc:=aC (top 71)) (N:=VN) rfl rfl ⟨rfl,by decide +kernel,by decide +kernel,by decide +kernel,rfl,by decide +kernel⟩) rfl (wH rfl T.range (aa (a_ aZ (pv 1) au (fun _ _=>rfl)) (aa (bh cX (a_ aZ (pv 1) au (fun _ _=>rfl)) au) aj))) (fun _ _ _ _ _=>(aR (i:=0) (show List.Nodup (["_law_number_here","_law_row"]:List Str) by decide +kernel) rfl (Or.inl rfl) (Or.inr rfl))) (fun _ _ _ _ _=>dh) (fun _ _ _ _ _=>(bz (aa (pv 1) (aa (pv 0) aj))))) aj)))))
   (aA (aH (pv 2))))),?_⟩
  have yl:=Paired.length py
  have fl:=mD sm
  have hlo:=sm.lo
  have hlt:=sm.lt
  have hle:=sm.le
  have hhi:=sm.hi
  refine ⟨(by show 0≤sizeLine;decide),fun l hl=>?_⟩
  have s0:aB H (upd H l (.lst [])):=aB.new hl
  have e0:upd H l (.lst []) l=some (.lst []):=ak
  generalize upd H l (.lst [])=H0 at s0 e0 ⊢
  dsimp only [bM,List.set]
  have plen:∀ i,i≤rows.length->(mJ (rows.take i) (dz g)).length≤9*i:=fun i=>by
   induction i with
   |zero=>intro _;simp [mJ]
   | succ i ih=>
     intro h
     have:=ih (by omega)
     rw [List.take_add_one,List.getElem?_eq_getElem (by omega)]
     unfold mJ at this ⊢
     rw [List.flatMap_append,List.length_append,Option.toList_some,List.flatMap_cons,List.flatMap_nil,List.append_nil,List.length_map]
     omega
  refine ⟨_,rfl,q,rfl,⟨_,bJ.of (s0 _ _ hq)⟩,j6 (K:=K) (a:=q) (xs:=ys) (fun i σ' H'=>∃ zs u,σ'=[some (.ref q),some (.ref bf),some (.ref l),u]/\H' l=some (.lst zs)/\Paired (Jw H') zs (mJ (rows.take i) (dz g))/\aB H H') ⟨[],_,rfl,e0,.nil,s0⟩ (fun i σ H' _ ⟨_,_,_,_,_,e⟩=>bJ.of (e _ _ hq)) ?_ ?_⟩
  ·rintro i y σ' H1 hi ⟨zs,u,rfl,hl1,pz,s1⟩
   obtain ⟨r,hr',b,rfl,hb⟩:=cN py hi
   have il:=(List.getElem?_eq_some_iff.mp hr').1
   have zl:=Paired.length pz
   have pl:=plen i (by omega)
   have er:mJ (rows.take (i+1)) (dz g)=mJ (rows.take i) (dz g)++(dz g).map fun v=>(r,v):=by
    rw [List.take_add_one,hr']
    unfold mJ
    rw [List.flatMap_append,Option.toList_some,List.flatMap_cons,List.flatMap_nil,List.append_nil]
   dsimp only [bM,List.set]
   refine ⟨_,rfl,.inl ⟨rfl,_,bJ.of hl1⟩,_,rfl,bf,_,_,_,rfl,rfl,bB.of (s1 _ _ hbf),aJ (j:=1) rfl,_,rfl,bf,_,_,_,rfl,rfl,bB.of (s1 _ _ hbf),aJ (j:=2) rfl,_,_,rfl,rfl,_,_,rfl,⟨by omega,by omega,by omega,by omega⟩,?_⟩
   generalize en:(g.2.2+1-g.2.1).toNat=n
   have n9:n≤9:=by omega
   refine iu (lo:=g.2.1) (n:=n) (fun j ws σ' H'=>(∃ v,σ'=[v,some (.ref b)])/\aB H1 H'/\Paired (Jw H') ws ((List.range j).map fun i:Nat=>(r,g.2.1+(i:Int)))) (Nat.le_trans n9 (by decide)) ⟨⟨none,rfl⟩,aB.refl _,.nil⟩ ?_ ?_
   ·rintro j ws σ' H' hj hw ⟨⟨v,rfl⟩,s2,pw⟩ M hM
    dsimp only [bM,List.set]
    refine ⟨_,rfl,_,rfl,(by show 2≤sizeLine;decide),fun p hp=>hM _ _ _ (by rw [List.length_append,hw];rfl) ⟨⟨_,rfl⟩,s2.trans (aB.new hp),?_⟩⟩
    rw [List.range_succ,List.map_append]
    exact Paired.snoc2 ⟨p,b,rfl,ak,(s2.trans (aB.new hp)) _ _ (s1 _ _ hb)⟩ (qe (aB.new hp).tkT pw)
   ·rintro ws σ' H' hw ⟨⟨v,rfl⟩,s2,pw⟩
    refine ⟨by rw [hw];exact Nat.le_trans n9 (by decide),fun p hp=>?_⟩
    have s3:=s2.trans (aB.new (o:=.lst ws) hp)
    refine ⟨l,p,zs,ws,rfl,rfl,s3 _ _ hl1,ak,?_,?_⟩
    ·rw [hw,zl]
     exact Nat.le_trans (show _≤10000 by omega) (by decide)
    have tk:TK (upd H' p (.lst ws)) (upd (upd H' p (.lst ws)) l (.lst (zs++ws))):=TK.lst (s3 _ _ hl1)
    refine ⟨zs++ws,_,rfl,ak,?_,fun c o e=>?_⟩
    ·rw [er]
     refine Paired.app2 (qe (s3.tkT.trans tk) pz) ?_
     have ef:(dz g).map (fun v=>(r,v))=(List.range n).map fun i:Nat=>(r,g.2.1+(i:Int)):=by
      unfold dz
      rw [List.map_map,en]
      rfl
     rw [ef]
     exact qe ((aB.new hp).tkT.trans tk) pw
    ·rw [aK (aP e hl)]
     exact s3 _ _ (s1 _ _ e)
  ·rintro σ' H1 ⟨zs,u,rfl,hl1,pz,s1⟩
   rw [yl,List.take_length] at pz
   exact ⟨_,rfl,k l zs H1 hl1 pz s1⟩
def DY (K:Frag) (n:Nat):Sp:=fun vs H Q _=>∃ (x:V) (d:PyData),vs=[x]/\Rep K H x d/\TD d/\bD d=true/\bF d≤n/\n≤10/\∀ l xs H',aB H H'->H l=none->H' l=some (.lst xs)->bw K H' xs (j_ d)->Q (.ref l) H'
abbrev W6:List Str:=["_law_test_here","_law_found","_law_part"]
theorem Fx:aU W6 ["_law_test_here"] (aC (top 68)):=⟨rfl,rfl,rfl,by decide +kernel,rfl,by decide +kernel,by decide +kernel⟩
theorem Lh (DL:cH K mg "_law_leaves" (top 68) ["_law_test_here"] f fd) (n:Nat):aQ P w K mg base bL n f fd ["_law_test_here"] (DY K n):=by
 refine Nat.rec (motive:=fun n=>aQ P w K mg base bL n f fd ["_law_test_here"] (DY K n)) ⟨fun _ _ _ _ h=>?_,fun _ _ _ _ _ _ _ _ _ _ _ _ _ h=>?_⟩ (fun n GL=>?_) n
 ·obtain ⟨x,d,_,_,_,_,hd,_⟩:=h
  have:=dj d
  exact absurd (Nat.le_trans this hd) (by decide)
 ·obtain ⟨x,d,_,_,_,_,hd,_⟩:=h
  have:=dj d
  exact absurd (Nat.le_trans this hd) (by decide)
 refine DL.F.ok Fx (fun vs H Q E h=>?_) (fun cdv A outer s H vs Q E hr h=>?_)
 ·obtain ⟨x,d,rfl,_⟩:=h
  rfl
 ·obtain ⟨x,d,rfl,rd,td,sh,hd,hn,k⟩:=h
  refine ⟨_,(aq (bc (aL fY (a_ aZ (pv 0) au (fun _ _=>rfl)) (bz (aa aF (aa aF (aa aF aj)))) rfl) (aA (aH (bY (aa (pv 0) aj)))) aM)
   (aq (bj (i:=1) Fx.nd rfl (Or.inl rfl) (bY aj))
   (aq (dM PassesOwn.never rfl (iw (bV d_ (pv 0) (cF au) cG)) (aR (i:=2) Fx.nd rfl (Or.inl rfl)) (aA (cZ (jw PySem.F.plainAttrs_list PySem.F.slot_list_extend PySem.F.type_list_extend oK (pv 1) (aa (aD GL hr rfl DL.mg DL.F.kp DL.b .nil aO (aa (pv 2) aj)) aj)))))
   (aA (aH (pv 1)))))),?_⟩
  obtain ⟨f,r,rfl⟩:=cA td sh
  have td0:=td
  have rd0:=rd
  cases td with
  |node af lf nr tr=>
  cases rd with
  |@tup a xs _ sq rs=>
  obtain ⟨x0,ys,rfl⟩:∃ x0 ys,xs=x0::ys:=by cases rs;exact ⟨_,_,rfl⟩
  obtain ⟨r0,rt⟩:Rep K H x0 (.str f)/\bw K H ys r:=by cases rs with|cons a b=>exact ⟨a,b⟩
  cases r0
  have hl:=rt.length
  refine ⟨_,rfl,a,_,_,_,rfl,rfl,sq,aJ (j:=0) rfl,(show 3≤sizeLine by decide),fun t ht=>?_⟩
  have s0:aB H (upd H t (.tup [.str "not",.str "and",.str "or"])):=aB.new ht
  refine ⟨t,_,rfl,.inr (bB.of ak),rfl,rfl,_,rfl,?_⟩
  rw [Bx,uv]
  have k0:=k
  have k:∀ l xs H',aB (upd H t (.tup [.str "not",.str "and",.str "or"])) H'->(upd H t (.tup [.str "not",.str "and",.str "or"])) l=none->H' l=some (.lst xs)->bw K H' xs (j_ (.tuple (.str f::r)))->Q (.ref l) H':=fun l xs H' s1 hn=>k0 l xs H' (s0.trans s1) (ii s0 hn)
  clear k0
  have sq:=s0.tup sq
  have rt:=rt.same s0
  have rd0:=rd0.same s0
  generalize upd H t (.tup [.str "not",.str "and",.str "or"])=H at k sq rt rd0 ⊢
  have eq:j_ (.tuple (.str f::r))=if (arity f).isSome=true then fV r else [.tuple (.str f::r)]:=rfl
  rcases gj sh hd with ⟨ha,_⟩|N
  ·rw [ha] at eq ⊢
   have eq:j_ (.tuple (.str f::r))=[.tuple (.str f::r)]:=eq
   rw [eq] at k
   refine cC rfl ⟨_,rfl,(show 1≤sizeLine by decide),fun q hq=>k q _ _ (aB.new hq) hq ak (.cons (rd0.same (aB.new hq)) .nil)⟩
  ·rw [N.ar] at eq ⊢
   have eq:j_ (.tuple (.str f::r))=fV r:=eq
   rw [eq] at k
   refine bQ rfl ⟨(show 0≤sizeLine by decide),fun q hq=>?_⟩
   have s1:aB H (upd H q (.lst [])):=aB.new hq
   have hq1:(upd H q (.lst [])) q=some (.lst []):=ak
   generalize upd H q (.lst [])=H1 at s1 hq1 ⊢
   have a2:=gC N.ar
   refine ⟨_,rfl,1,rfl,a,_,rfl,s1.tup sq,(fun e=>?_),fun p hp=>?_⟩
   ·rw [lJ] at e
    have:=congrArg List.length e
    simp at this
   ·rw [lJ]
    have sp:bB K (upd H1 p (.tup ys)) p ys:=bB.of ak
    have s2:aB H1 (upd H1 p (.tup ys)):=aB.new hp
    have hq2:=s2 _ _ hq1
    generalize upd H1 p (.tup ys)=H2 at sp s2 hq2 ⊢
    refine ⟨p,rfl,⟨_,sp⟩,?_⟩
    refine lN (K:=K) (a:=p) (xs:=ys) (fun i σ' H'=>(∃ v,σ'=[some (.ref a),some (.ref q),v])/\aB H H'/\bB K H' p ys/\∃ zs,H' q=some (.lst zs)/\bw K H' zs (fV (r.take i))) ⟨⟨none,rfl⟩,s1.trans s2,sp,[],hq2,.nil⟩ (fun i σ' H' _ z=>z.2.2.1) ?_ ?_
    ·rintro i y σ' H3 hy ⟨⟨v,rfl⟩,s3,sp3,zs,hz,rz⟩
     obtain ⟨e,he,ry⟩:=rt.get' hy
     have me:=List.mem_of_getElem? he
     refine ⟨_,rfl,.inl ⟨rfl,_,bJ.of hz⟩,_,rfl,y,e,rfl,ry.same s3,tr e me,N.sh e me,N.de e me,by omega,fun l us H4 s4 hn4 hl4 ru=>?_⟩
     have hz4:=s4 _ _ hz
     have le1:=rz.length
     have le2:=ru.length
     have lb:(j_ e).length≤2 ^ n:=iC (tr e me) (N.sh e me) (N.de e me)
     have p10:2 ^ n≤2 ^ 10:=Nat.pow_le_pow_right (by decide) (by omega)
     have lz:(fV (r.take i)).length≤2*2 ^ n:=by
      have hi:i<r.length:=(List.getElem?_eq_some_iff.mp he).1
      match r,a2,i,hi,N,tr with
      |[x],_,0,_,_,_=>exact Nat.zero_le _
      |[x,y'],_,0,_,_,_=>exact Nat.zero_le _
      | [x,y'],_,1,_,N,tr=>
        have:=iC (tr x (by simp)) (N.sh x (by simp)) (N.de x (by simp))
        rw [show [x,y'].take 1=[x] from rfl,dG];omega
      |[x],_,i+1,h,_,_=>exact absurd h (by simp)
      |[x,y'],_,i+2,h,_,_=>exact absurd h (by simp)
      |_::_::_::_,a2,_,_,_,_=>simp at a2
      |[],_,_,h,_,_=>simp at h
     have:(2:Nat) ^ 10=1024:=by decide
     refine ⟨q,l,zs,us,rfl,rfl,hz4,hl4,Nat.le_trans (show zs.length+us.length≤4000 by omega) (by decide),?_⟩
     have qn:∀ {b:Addr} {u:HO},H b=some u->b≠q:=fun e=>aP e hq
     have tdl:∀ d∈fV (r.take i),TD d:=by
      intro d m
      clear lz
      have:∀ (l:List PyData),(∀ e∈l,e∈r)->d∈fV l->TD d:=by
       intro l
       induction l with
       |nil=>intro _ m;cases m
       | cons e l ih=>
         intro hm m
         have m:d∈j_ e++fV l:=m
         rcases List.mem_append.mp m with m|m
         ·have me:=hm e (List.mem_cons_self ..)
          exact mR (tr e me) (N.sh e me) (N.de e me) d m
         ·exact ih (fun e m=>hm e (List.mem_cons_of_mem _ m)) m
      exact this _ (fun e m=>List.mem_of_mem_take m) m
     refine ⟨⟨_,rfl⟩,fun b u e=>by rw [aK (qn e)];exact s4 _ _ (s3 _ _ e),q8 (s4.tup sp3) hz4,zs++us,ak,?_⟩
     rw [List.take_add_one,he]
     show bw K _ (zs++us) (fV (r.take i++[e]))
     rw [j4,dG]
     exact iY (mH hz4 tdl (rz.same s4)) (mH hz4 (mR (tr e me) (N.sh e me) (N.de e me)) ru)
    ·rintro σ' H3 ⟨⟨v,rfl⟩,s3,sp3,zs,hz,rz⟩
     rw [List.take_of_length_le (by omega)] at rz
     exact ⟨_,rfl,k q zs H3 s3 hq hz rz⟩
inductive xf:PyData->Prop
 |str {x:Str}:xf (.str x)
 |int {i:Int}:xf (.int i)
 |tup {ds:List PyData}:(∀ d∈ds,xf d)->xf (.tuple ds)
theorem TD.noL (td:TD d):xf d:=by
 induction td with
 |str _ _=>exact .str
 |int _ _=>exact .int
 |nil=>exact .tup fun _ h=>by cases h
 | node _ _ _ _ ih=>
   refine .tup fun d h=>?_
   rcases List.mem_cons.mp h with rfl|h
   ·exact .str
   ·exact ih d h
theorem xf.rep (f:∀ a xs,bB K H a xs->bB K H' a xs) (n:xf d):∀ {v:V},Rep K H v d->Rep K H' v d:=by
 induction n with
 |str=>intro v r;cases r;exact .str _
 |int=>intro v r;cases r;exact .int _
 | @tup ds h ih=>
   intro v r
   cases r with
   |@tup a xs _ sq rs=>
   refine .tup (f _ _ sq) ?_
   have go:∀ {l:List PyData} {vs:List V},(∀ d∈l,d∈ds)->bw K H vs l->bw K H' vs l:=by
    intro l
    induction l with
    |nil=>intro vs _ h;cases h;exact .nil
    | cons d l il=>
      intro vs hm h
      cases h with
      |cons a b=>exact .cons (ih d (hm d (.head _)) a) (il (fun e m=>hm e (.tail _ m)) b)
   exact go (fun _ m=>m) rs
theorem xf.reps (f:∀ a xs,bB K H a xs->bB K H' a xs):∀ {ds:List PyData} {vs:List V},(∀ d∈ds,xf d)->bw K H vs ds->bw K H' vs ds
 |_,_,_,.nil=>.nil
 |_,_,n,.cons a b=>.cons ((n _ (.head _)).rep f a) (xf.reps f (fun d m=>n d (.tail _ m)) b)
theorem _root_.L2.cL.sqt (b:cL l H H') (hl:H l=some (.lst ys)):∀ a xs,bB K H a xs->bB K H' a xs:=by
 rintro a xs ((h|⟨o,h⟩)|h)
 ·exact .inl (.inl (b _ _ h (fK h hl (by intro z;cases z))))
 ·exact .inl (.inr ⟨o,b _ _ h (fK h hl (by intro z;cases z))⟩)
 ·exact .inr h
theorem xK (td:TD d):∀ {e:PyData},TD e->(cj d e=true↔d=e):=by
 induction td with
 | str a b=>
   intro e te
   cases te <;> simp [cj]
 | int a b=>
   intro e te
   cases te <;> simp [cj]
 | nil=>
   intro e te
   cases te <;> simp [cj,dN]
 | @node f r a b c tr ih=>
   intro e te
   cases te with
   |str _ _=>simp [cj]
   |int _ _=>simp [cj]
   |nil=>simp [cj,dN]
   | @node f' r' a' b' c' tr'=>
     have:∀ (l l':List PyData),(∀ d∈l,d∈r)->(∀ d∈l',TD d)->(dN l l'=true↔l=l'):=by
      intro l
      induction l with
      |nil=>intro l' _ _;cases l' <;> simp [dN]
      | cons d l ihl=>
        intro l' h h'
        cases l' with
        |nil=>simp [dN]
        | cons e l'=>
          have q1:=ih d (h d (List.mem_cons_self ..)) (h' e (List.mem_cons_self ..))
          have q2:=ihl l' (fun d m=>h d (List.mem_cons_of_mem _ m)) (fun d m=>h' d (List.mem_cons_of_mem _ m))
          simp only [dN,Bool.and_eq_true,q1,q2,List.cons.injEq]
     have q:=this r r' (fun _ m=>m) tr'
     simp only [cj,dN,Bool.and_eq_true,q,PyData.tuple.injEq,List.cons.injEq,PyData.str.injEq]
     simp
abbrev Rw:=PyData×Nat×Nat
def ie (r:Rw):PyData:=.tuple [r.1,.int r.2.1,.int r.2.2]
def uo (nm:Str) (fs:List jJ) (zs:List Int):PyData->Bool
 |.tuple (.str f::r)=>iG nm fs zs f r
 |_=>false
def xV (d:PyData):Prop:=∃ f r,d=.tuple (.str f::r)/\jU f r/\¬ f = "all"
theorem xV.td (h:xV d):TD d:=by
 obtain ⟨f,r,rfl,lf,_⟩:=h
 exact lf.tr.td
inductive Ev (pz:PyData->Bool) (L:List Rw):Nat->Bool->Prop
 |no:Ev pz L 0 false
 |yes:Ev pz L 1 true
 |row {i:Nat} {r:Rw} {b:Bool}:L[i]?=some r->Ev pz L (if pz r.1=true then r.2.1 else r.2.2) b->Ev pz L (i+2) b
structure wO (L:List Rw):Prop where
 lf:∀ r∈L,xV r.1
 lo:∀ i r,L[i]?=some r->r.2.1<i+2/\r.2.2<i+2
theorem Ev.one (h:Ev pz L g b) (h':Ev pz L g c):b=c:=by
 induction h with
 |no=>cases h';rfl
 |yes=>cases h';rfl
 | row e _ ih=>
   cases h' with
   | row e' h'=>
     rw [e] at e'
     cases e'
     exact ih h'
theorem Ev.more (h:Ev pz L g b):Ev pz (L++M) g b:=by
 induction h with
 |no=>exact .no
 |yes=>exact .yes
 |row e _ ih=>exact .row (by rw [List.getElem?_append_left (List.getElem?_eq_some_iff.mp e).1];exact e) ih
structure Laid (pass:Str->List jJ->List Int->Bool) (m y n:Nat) (L L':List Rw) (g:Nat):Prop where
 ex:∃ M,L'=L++M/\M.length≤m
 ok:wO L'
 lt:g<L'.length+2
 ev:∀ nm fs zs by' bn,Ev (uo nm fs zs) L y by'->Ev (uo nm fs zs) L n bn->Ev (uo nm fs zs) L' g (if pass nm fs zs=true then by' else bn)
theorem yZ (ok:wO L):∀ d∈L.map ie,xf d:=by
 intro d h
 obtain ⟨r,hr,rfl⟩:=List.mem_map.mp h
 refine .tup fun e he=>?_
 simp only [List.mem_cons,List.not_mem_nil,or_false] at he
 rcases he with rfl|rfl|rfl
 ·exact (ok.lf r hr).td.noL
 ·exact .int
 ·exact .int
theorem C_ (ha:xV a.1) (hb:xV b.1):cj (ie a) (ie b)=true↔a=b:=by
 have h1:=xK ha.td hb.td
 obtain ⟨d,y,n⟩:=a
 obtain ⟨e,u,v⟩:=b
 simp [ie,cj,dN,h1]
 omega
theorem yc (ok:wO L) (lf:xV r.1) (hy:r.2.1<L.length+2) (hn:r.2.2<L.length+2) :
 ((L.map ie).any (fun e=>cj e (ie r))=true->Laid (fun nm fs zs=>uo nm fs zs r.1) 1 r.2.1 r.2.2 L L (2+(L.map ie).findIdx fun e=>cj e (ie r)))/\
 ((L.map ie).any (fun e=>cj e (ie r))=false->(((L++[r]).map ie).any fun e=>cj e (ie r))=true/\Laid (fun nm fs zs=>uo nm fs zs r.1) 1 r.2.1 r.2.2 L (L++[r]) (2+((L++[r]).map ie).findIdx fun e=>cj e (ie r))):=by
 have self:cj (ie r) (ie r)=true:=(C_ lf lf).mpr rfl
 have ok':wO (L++[r]):=by
  refine ⟨fun q hq=>?_,fun i q hq=>?_⟩
  ·rcases List.mem_append.mp hq with hq|hq
   ·exact ok.lf q hq
   ·cases List.mem_singleton.mp hq;exact lf
  ·rw [List.getElem?_append] at hq
   split at hq
   ·exact ok.lo i q hq
   ·rename_i hi
    rw [List.getElem?_singleton] at hq
    split at hq
    ·cases hq
     omega
    ·cases hq
 have main:∀ {L':List Rw} {M:List Rw},L'=L++M->M.length≤1->wO L'->(L'.map ie).any (fun e=>cj e (ie r))=true->Laid (fun nm fs zs=>uo nm fs zs r.1) 1 r.2.1 r.2.2 L L' (2+(L'.map ie).findIdx fun e=>cj e (ie r)):=by
  intro L' M e hM ok' h
  have hj:(L'.map ie).findIdx (fun e=>cj e (ie r))<(L'.map ie).length:=List.findIdx_lt_length_of_exists (List.any_eq_true.mp h)
  have hg:=List.findIdx_getElem (p:=fun e=>cj e (ie r)) (xs:=L'.map ie) (w:=hj)
  rw [List.length_map] at hj
  rw [List.getElem_map] at hg
  have er:L'[(L'.map ie).findIdx fun e=>cj e (ie r)]=r:=(C_ (ok'.lf _ (List.getElem_mem _)) lf).mp hg
  refine ⟨⟨M,e,hM⟩,ok',by omega,fun nm fs zs by' bn h1 h2=>?_⟩
  rw [Nat.add_comm]
  refine .row (r:=r) (by rw [List.getElem?_eq_getElem hj,er]) ?_
  subst e
  cases uo nm fs zs r.1 with
  |true=>exact h1.more
  |false=>exact h2.more
 refine ⟨fun h=>main (M:=[]) (by simp) (by simp) ok h,fun h=>?_⟩
 have h':(((L++[r]).map ie).any fun e=>cj e (ie r))=true:=by
  rw [List.map_append,List.any_append,List.map_singleton,List.any_cons,self]
  simp
 exact ⟨h',main (M:=[r]) rfl (by simp) ok' h'⟩
theorem v_ (ok:wO L) (hy:y<L.length+2):Laid pass m y y L L y:=
 ⟨⟨[],by simp,by simp⟩,ok,hy,fun nm fs zs by' bn h1 h2=>by rw [h1.one h2];simp;exact h2⟩
theorem xj (ok:wO L) (hy:y<L.length+2):Laid (fun _ _ _=>true) m y n L L y:=
 ⟨⟨[],by simp,by simp⟩,ok,hy,fun nm fs zs by' bn h1 h2=>h1⟩
theorem Laid.not (h:Laid pass m n y L L' g):Laid (fun nm fs zs=>!pass nm fs zs) m y n L L' g:=
 ⟨h.ex,h.ok,h.lt,fun nm fs zs by' bn h1 h2=>by
  have:=h.ev nm fs zs bn by' h2 h1
  try dsimp only
  cases hp:pass nm fs zs <;> rw [hp] at this <;> exact this⟩
theorem Laid.len (h:Laid pass m y n L L' g):L.length≤L'.length/\L'.length≤L.length+m:=by
 obtain ⟨M,rfl,hM⟩:=h.ex
 rw [List.length_append]
 omega
theorem Laid.evs (h:Laid pass m y n L L' g) (e:Ev pz L k b):Ev pz L' k b:=by
 obtain ⟨M,rfl,hM⟩:=h.ex
 exact e.more
theorem Laid.and (h2:Laid p2 m2 y n L L1 g1) (h1:Laid p1 m1 g1 n L1 L2 g2):Laid (fun nm fs zs=>p1 nm fs zs && p2 nm fs zs) (m1+m2) y n L L2 g2:=by
 obtain ⟨M1,e1,l1⟩:=h2.ex
 obtain ⟨M2,e2,l2⟩:=h1.ex
 refine ⟨⟨M1++M2,by rw [e2,e1,List.append_assoc],by rw [List.length_append];omega⟩,h1.ok,h1.lt,fun nm fs zs by' bn a b=>?_⟩
 have:=h1.ev nm fs zs _ _ (h2.ev nm fs zs _ _ a b) (h2.evs b)
 try dsimp only
 cases hp:p1 nm fs zs <;> rw [hp] at this <;> simpa using this
theorem Laid.or (h2:Laid p2 m2 y n L L1 g1) (h1:Laid p1 m1 y g1 L1 L2 g2):Laid (fun nm fs zs=>p1 nm fs zs || p2 nm fs zs) (m1+m2) y n L L2 g2:=by
 obtain ⟨M1,e1,l1⟩:=h2.ex
 obtain ⟨M2,e2,l2⟩:=h1.ex
 refine ⟨⟨M1++M2,by rw [e2,e1,List.append_assoc],by rw [List.length_append];omega⟩,h1.ok,h1.lt,fun nm fs zs by' bn a b=>?_⟩
 have:=h1.ev nm fs zs _ _ (h2.evs a) (h2.ev nm fs zs _ _ a b)
 try dsimp only
 cases hp:p1 nm fs zs <;> rw [hp] at this <;> simpa using this
structure Av (mg:Str->Option Value):Prop where
 no:∃ t,mg "NO" = some (.int 0 t)
 yes:∃ t,mg "YES" = some (.int 1 t)
 row:∃ t,mg "ROW" = some (.int 2 t)
theorem qg (ok:wO L):bI (L.map ie)≤60:=by
 have go:∀ l:List PyData,(∀ d∈l,cz d≤2)->bI l≤2:=by
  intro l
  induction l with
  |nil=>intro _;simp [bI]
  | cons d l ih=>
    intro h
    have h1:=h d (.head _)
    have h2:=ih fun e m=>h e (.tail _ m)
    simp only [bI]
    omega
 refine Nat.le_trans (go _ fun d hd=>?_) (by decide)
 obtain ⟨r,hr,rfl⟩:=List.mem_map.mp hd
 obtain ⟨f,q,e,lf,_⟩:=ok.lf r hr
 have:=lf.tr.dp
 rw [← e] at this
 simp only [ie,cz,bI]
 omega
theorem ji:decide (V.int i=V.int j)=decide (i=j):=by simp
def xU (K:Frag) (H:Hp) (l:Addr) (L:List Rw):Prop:=∃ xs,H l=some (.lst xs)/\bw K H xs (L.map ie)
def QL (K:Frag):Sp:=fun vs H Q _=>∃ (x:V) (d:PyData) (y n:Nat) (l:Addr) (L:List Rw),vs=[x,.int y,.int n,.ref l]/\Rep K H x d/\xV d/\xU K H l L/\wO L/\L.length≤100/\y<L.length+2/\n<L.length+2/\
 ∀ (g:Nat) L' H',Laid (fun nm fs zs=>uo nm fs zs d) 1 y n L L' g->xU K H' l L'->cL l H H'->Q (.int g) H'
abbrev RP:List Str:=["leaf","yes","no","laid"]
abbrev Wx:List Str:=["leaf","yes","no","laid","row"]
theorem Qd:aU Wx RP (aC (top 43)):=⟨rfl,rfl,rfl,by decide +kernel,rfl,by decide +kernel,by decide +kernel⟩
theorem Ms (F:fj K "lay_row" "lay_row" (top 43) f fd) (TW:Av mg):aQ P w K mg base bL 1 f fd RP (QL K):=by
 refine F.ok Qd (fun vs H Q E h=>?_) (fun cdv A outer s H vs Q E hr h=>?_)
 ·obtain ⟨x,d,y,n,l,L,rfl,_⟩:=h
  rfl
 ·obtain ⟨x,d,y,n,l,L,rfl,rd,lf,⟨xs,hl,rs⟩,ok,ll,hy,hn,k⟩:=h
  obtain ⟨t2,mr⟩:=TW.row
  refine ⟨_,(aq (bc (aL bu (pv 1) (pv 2) (aN _)) (aA (aH (pv 1))) aM)
   (aq (bj (i:=4) Qd.nd rfl (Or.inl rfl) (bz (aa (pv 0) (aa (pv 1) (aa (pv 2) aj)))))
   (aq (bc (aL (wX hr.units) (pv 4) (pv 3) rfl) (aA (cZ (jw PySem.F.plainAttrs_list PySem.F.slot_list_append PySem.F.type_list_append ir (pv 3) (aa (pv 4) aj)))) aM)
   (aA (aH (bh cX (bW (v:=.int 2) rfl mr ⟨_,rfl⟩) (jw PySem.F.plainAttrs_list PySem.F.slot_list_index PySem.F.type_list_index (vm hr.units) (pv 3) (aa (pv 4) aj)))))))),?_⟩
  refine ⟨_,rfl,_,rfl,rfl,_,rfl,?_⟩
  rw [ji]
  by_cases e:y=n
  ·subst e
   exact cC (by simp) ⟨_,rfl,k y L H (v_ ok hy) ⟨xs,hl,rs⟩ cL.refl⟩
  refine bQ (by simp;omega) ?_
  refine ⟨_,rfl,_,rfl,_,rfl,(by show 3≤sizeLine;decide),fun p hp=>?_⟩
  have s1:aB H (upd H p (.tup [x,.int y,.int n])):=aB.new hp
  have rp:Rep K (upd H p (.tup [x,.int y,.int n])) (.ref p) (ie (d,y,n)):=.tup (bB.of ak) (.cons (rd.same s1) (.cons (.int _) (.cons (.int _) .nil)))
  generalize upd H p (.tup [x,.int y,.int n])=H1 at s1 rp ⊢
  have hl1:=s1 _ _ hl
  have rs1:=rs.same s1
  obtain ⟨k1,k2⟩:=yc (r:=(d,y,n)) ok lf hy hn
  have b1:cL l H H1:=fun b o e _=>s1 _ _ e
  refine ⟨_,rfl,_,rfl,l,xs,L.map ie,ie (d,y,n),rp,rfl,bJ.of hl1,rs1,qg ok,_,rfl,?_⟩
  cases h:(L.map ie).any fun e=>cj e (ie (d,y,n)) with
  | true=>
    refine bQ rfl ?_
    refine ⟨_,rfl,.inl ⟨rfl,_,bJ.of hl1⟩,_,rfl,l,_,_,xs,_,rfl,rfl,rp,bJ.of hl1,rs1,qg ok,h,_,_,rfl,rfl,?_⟩
    have:=k _ L H1 (k1 h) ⟨xs,hl1,rs1⟩ b1
    rw [Int.natCast_add] at this
    exact this
  | false=>
    obtain ⟨h',lk⟩:=k2 h
    refine cC rfl ?_
    have xl:=rs1.length
    rw [List.length_map] at xl
    refine ⟨_,rfl,.inl ⟨rfl,_,bJ.of hl1⟩,_,rfl,l,xs,_,rfl,rfl,hl1,gr (by omega),?_⟩
    have b2:cL l H1 (upd H1 l (.lst (xs++[.ref p]))):=cL.upd
    have f2:=b2.sqt (K:=K) hl1
    have hl2:upd H1 l (.lst (xs++[.ref p])) l=some (.lst (xs++[.ref p])):=ak
    have rp2:Rep K (upd H1 l (.lst (xs++[.ref p]))) (.ref p) (ie (d,y,n)):=(yZ lk.ok _ (List.mem_map.mpr ⟨(d,y,n),by simp,rfl⟩)).rep f2 rp
    have rs2:bw K (upd H1 l (.lst (xs++[.ref p]))) (xs++[.ref p]) ((L++[(d,y,n)]).map ie):=by
     rw [List.map_append]
     exact iY (xf.reps f2 (yZ ok) rs1) (.cons rp2 .nil)
    generalize upd H1 l (.lst (xs++[.ref p]))=H2 at b2 f2 hl2 rp2 rs2 ⊢
    refine ⟨_,rfl,.inl ⟨rfl,_,bJ.of hl2⟩,_,rfl,l,_,_,_,_,rfl,rfl,rp2,bJ.of hl2,rs2,qg lk.ok,h',_,_,rfl,rfl,?_⟩
    have:=k _ _ H2 lk ⟨_,hl2,rs2⟩ (b1.trans b2)
    rw [Int.natCast_add] at this
    exact this
theorem Laid.by (h:Laid p m y n L L' g) (e:∀ nm fs zs,p nm fs zs=q nm fs zs) (hm:m≤m'):Laid q m' y n L L' g:=by
 obtain ⟨M,e1,l1⟩:=h.ex
 exact ⟨⟨M,e1,by omega⟩,h.ok,h.lt,fun nm fs zs a b x y=>by rw [← e];exact h.ev nm fs zs a b x y⟩
def Ep (K:Frag) (n:Nat):Sp:=fun vs H Q _=>∃ (q:Addr) (f:Str) (r:List PyData) (y m:Nat) (l:Addr) (L:List Rw),vs=[.ref q,.int y,.int m,.ref l]/\Rep K H (.ref q) (.tuple (.str f::r))/\TD (.tuple (.str f::r))/\bD (.tuple (.str f::r))=true/\bF (.tuple (.str f::r))≤n/\
 xU K H l L/\wO L/\L.length+(j_ (.tuple (.str f::r))).length≤100/\y<L.length+2/\m<L.length+2/\
 ∀ (g:Nat) L' H',Laid (fun nm fs zs=>bZ nm fs zs n f r) (j_ (.tuple (.str f::r))).length y m L L' g->xU K H' l L'->cL l H H'->Q (.int g) H'
abbrev Jf:List Str:=["test","yes","no","laid"]
abbrev Wl:List Str:=["test","yes","no","laid","form"]
theorem Mq:aU Wl Jf (aC (top 42)):=⟨rfl,rfl,rfl,by decide +kernel,rfl,by decide +kernel,by decide +kernel⟩
theorem Mr (D:cH K mg "lay_test" (top 42) Jf f fd) (DR:cH K mg "lay_row" (top 43) RP fR fdR) (GR:aQ P w K mg base bL 1 fR fdR RP (QL K)) (n:Nat):aQ P w K mg base bL (n+1) f fd Jf (Ep K n):=by
 refine Nat.rec (motive:=fun n=>aQ P w K mg base bL (n+1) f fd Jf (Ep K n)) ⟨fun _ _ _ _ h=>?_,fun _ _ _ _ _ _ _ _ _ _ _ _ _ h=>?_⟩ (fun n GL=>?_) n
 ·obtain ⟨q,f,r,y,m,l,L,_,_,_,_,h,_⟩:=h
  exact absurd (Nat.le_trans (dj _) h) (by decide)
 ·obtain ⟨q,f,r,y,m,l,L,_,_,_,_,h,_⟩:=h
  exact absurd (Nat.le_trans (dj _) h) (by decide)
 refine D.F.ok Mq (fun vs H Q E h=>?_) (fun cdv A outer s H vs Q E hr h=>?_)
 ·obtain ⟨q,f,r,y,m,l,L,rfl,_⟩:=h
  rfl
 ·obtain ⟨q,f,r,y,m,l,L,rfl,rq,td,sh,de,⟨xs,hl,rs0⟩,ok,ll,hy,hm,k⟩:=h
  have hr1:bK 1 _:=hr.mono (show 1≤n+1 by omega)
  refine ⟨_,(aq (bj (i:=4) Mq.nd rfl (Or.inl rfl) (a_ aZ (pv 0) au (fun _ _=>rfl)))
   (aq (bc (aL bu (pv 4) aF (aN _)) (aA (aH (pv 1))) aM)
   (aq (bc (aL bu (pv 4) aF (aN _)) (aA (aH (aD GL hr rfl D.mg D.F.kp D.b .nil aO (aa (a_ aZ (pv 0) au (fun _ _=>rfl)) (aa (pv 2) (aa (pv 1) (aa (pv 3) aj))))))) aM)
   (aq (bc (aL bu (pv 4) aF (aN _)) (aA (aH (aD GL hr rfl D.mg D.F.kp D.b .nil aO (aa (a_ aZ (pv 0) au (fun _ _=>rfl)) (aa (aD GL hr rfl D.mg D.F.kp D.b .nil aO (aa (a_ aZ (pv 0) au (fun _ _=>rfl)) (aa (pv 1) (aa (pv 2) (aa (pv 3) aj))))) (aa (pv 2) (aa (pv 3) aj))))))) aM)
   (aq (bc (aL bu (pv 4) aF (aN _)) (aA (aH (aD GL hr rfl D.mg D.F.kp D.b .nil aO (aa (a_ aZ (pv 0) au (fun _ _=>rfl)) (aa (pv 1) (aa (aD GL hr rfl D.mg D.F.kp D.b .nil aO (aa (a_ aZ (pv 0) au (fun _ _=>rfl)) (aa (pv 1) (aa (pv 2) (aa (pv 3) aj))))) (aa (pv 3) aj))))))) aM)
   (aA (aH (aD GR hr1 rfl DR.mg DR.F.kp DR.b .nil aO (aa (pv 0) (aa (pv 1) (aa (pv 2) (aa (pv 3) aj)))))))))))),?_⟩
  have rq0:=rq
  have td0:=td
  cases td with
  |node af lf nr tr=>
  cases rq with
  |@tup _ us _ sq rs=>
  obtain ⟨x0,ys,rfl⟩:∃ x0 ys,us=x0::ys:=by cases rs;exact ⟨_,_,rfl⟩
  obtain ⟨r0,rt⟩:Rep K H x0 (.str f)/\bw K H ys r:=by cases rs with|cons a b=>exact ⟨a,b⟩
  cases r0
  refine ⟨_,rfl,q,_,_,_,rfl,rfl,sq,aJ (j:=0) rfl,_,rfl,rfl,_,rfl,?_⟩
  have el:j_ (.tuple (.str f::r))=if (arity f).isSome=true then fV r else [.tuple (.str f::r)]:=rfl
  by_cases ha:f = "all"
  ·subst ha
   refine cC (by decide +kernel) ⟨_,rfl,k y L H ?_ ⟨xs,hl,rs0⟩ cL.refl⟩
   refine (xj (m:=0) (n:=m) ok hy).by (fun nm fs zs=>?_) (Nat.zero_le _)
   unfold bZ
   rw [if_neg (by decide +kernel),if_neg (by decide +kernel),if_neg (by decide +kernel)]
   unfold iG
   rw [if_pos rfl]
  refine bQ (eE ha) ⟨_,rfl,rfl,_,rfl,?_⟩
  rcases gj sh de with ⟨hna,hlf⟩|N
  ·obtain ⟨n1,n2,n3⟩:=km hna
   rw [hna] at el
   have el:j_ (.tuple (.str f::r))=[.tuple (.str f::r)]:=el
   rw [el] at k ll
   refine bQ (eE n1) ⟨_,rfl,rfl,_,rfl,bQ (eE n2) ⟨_,rfl,rfl,_,rfl,bQ (eE n3) ?_⟩⟩
   refine ⟨_,rfl,_,rfl,_,rfl,_,rfl,.ref q,_,y,m,l,L,rfl,rq0,⟨f,r,rfl,pq hlf,ha⟩,⟨xs,hl,rs0⟩,ok,by omega,hy,hm,fun g L' H' la ld b=>k g L' H' (la.by (fun nm fs zs=>?_) (Nat.le_refl _)) ld b⟩
   unfold bZ
   rw [if_neg n1,if_neg n2,if_neg n3]
   rfl
  ·have el:j_ (.tuple (.str f::r))=fV r:=by rw [el,N.ar];rfl
   rcases nH N tr with ⟨rfl,g,u,rfl⟩|⟨hf,g,u,h,v,rfl⟩
   ·rw [dG] at el
    rw [el] at k ll
    cases rt with
    |@cons y1 _ y2 _ r1 r2=>
    cases r2
    cases r1 with
    |@tup q1 z1 _ s1 t1=>
    refine cC (by decide +kernel) ⟨_,rfl,q,_,_,_,rfl,rfl,sq,aJ (j:=1) rfl,_,rfl,_,rfl,_,rfl,q1,g,u,m,y,l,L,rfl,.tup s1 t1,tr _ (by simp),N.sh _ (by simp),N.de _ (by simp),⟨xs,hl,rs0⟩,ok,ll,hm,hy,fun g' L' H' la ld b=>k g' L' H' (la.not.by (fun nm fs zs=>?_) (Nat.le_refl _)) ld b⟩
    conv=>rhs;unfold bZ
    rw [if_pos rfl]
   ·have e2:fV [.tuple (.str g::u),.tuple (.str h::v)]=j_ (.tuple (.str g::u))++j_ (.tuple (.str h::v)):=by rw [show [PyData.tuple (.str g::u),PyData.tuple (.str h::v)]=[.tuple (.str g::u)]++[.tuple (.str h::v)] from rfl,j4,dG,dG]
    rw [el,e2,List.length_append] at k ll
    cases rt with
    |@cons y1 _ y2 _ r1 r2=>
    cases r2 with
    |@cons y3 _ y4 _ r2 r3=>
    cases r3
    cases r1 with
    |@tup q1 z1 _ s1 t1=>
    cases r2 with
    |@tup q2 z2 _ s2 t2=>
    have n1:¬ f = "not":=by rcases hf with rfl|rfl <;> decide +kernel
    refine bQ (eE n1) ⟨_,rfl,rfl,_,rfl,?_⟩
    have i1:∀ {H1:Hp},cL l H H1->Rep K H1 (.ref q1) (.tuple (.str g::u)):=fun b=>(tr _ (by simp)).noL.rep (b.sqt hl) (.tup s1 t1)
    rcases hf with rfl|rfl
    ·refine cC (by decide +kernel) ⟨_,rfl,q,_,_,_,rfl,rfl,sq,aJ (j:=1) rfl,_,rfl,q,_,_,_,rfl,rfl,sq,aJ (j:=2) rfl,_,rfl,_,rfl,_,rfl,q2,h,v,y,m,l,L,rfl,.tup s2 t2,tr _ (by simp),N.sh _ (by simp),N.de _ (by simp),⟨xs,hl,rs0⟩,ok,by omega,hy,hm,fun g1 L1 H1 la1 ld1 b1=>?_⟩
     have l1:=la1.len
     refine ⟨_,rfl,_,rfl,q1,g,u,g1,m,l,L1,rfl,i1 b1,tr _ (by simp),N.sh _ (by simp),N.de _ (by simp),ld1,la1.ok,by omega,la1.lt,by omega,fun g2 L2 H2 la2 ld2 b2=>k g2 L2 H2 ((la1.and la2).by (fun nm fs zs=>?_) (Nat.le_refl _)) ld2 (b1.trans b2)⟩
     conv=>rhs;unfold bZ
     rw [if_neg (by decide +kernel),if_pos rfl]
    ·refine bQ (by decide +kernel) ⟨_,rfl,rfl,_,rfl,cC (by decide +kernel) ⟨_,rfl,q,_,_,_,rfl,rfl,sq,aJ (j:=1) rfl,_,rfl,_,rfl,q,_,_,_,rfl,rfl,sq,aJ (j:=2) rfl,_,rfl,_,rfl,_,rfl,q2,h,v,y,m,l,L,rfl,.tup s2 t2,tr _ (by simp),N.sh _ (by simp),N.de _ (by simp),⟨xs,hl,rs0⟩,ok,by omega,hy,hm,fun g1 L1 H1 la1 ld1 b1=>?_⟩⟩
     have l1:=la1.len
     refine ⟨_,rfl,q1,g,u,y,g1,l,L1,rfl,i1 b1,tr _ (by simp),N.sh _ (by simp),N.de _ (by simp),ld1,la1.ok,by omega,by omega,la1.lt,fun g2 L2 H2 la2 ld2 b2=>k g2 L2 H2 ((la1.or la2).by (fun nm fs zs=>?_) (Nat.le_refl _)) ld2 (b1.trans b2)⟩
     conv=>rhs;unfold bZ
     rw [if_neg (by decide +kernel),if_neg (by decide +kernel),if_pos rfl]
abbrev m6:=Bool ⊕ Nat
def jV:m6->V
 |.inl b=>.bl b
 |.inr n=>.int n
def jD:m6->PyData
 |.inl b=>.bool b
 |.inr n=>.int n
theorem DG (K:Frag) (H:Hp):∀ j:m6,Rep K H (jV j) (jD j)
 |.inl b=>.bl b
 |.inr n=>.int n
abbrev wB:=PyData×m6×m6
def zg (r:wB):PyData:=.tuple [r.1,jD r.2.1,jD r.2.2]
def zB (i n:Nat):m6->Prop
 |.inl _=>True
 |.inr k=>i<k/\k<n
structure W7 (W:List wB):Prop where
 lf:∀ r∈W,xV r.1
 jp:∀ i r,W[i]?=some r->zB i W.length r.2.1/\zB i W.length r.2.2
def oM (st:m6) (W:List wB):Prop:=(∃ b,st=.inl b/\W=[])∨(st=.inr 0/\0<W.length/\W7 W)
inductive Wk (pz:PyData->Bool) (W:List wB):m6->Bool->Prop
 |fin {b:Bool}:Wk pz W (.inl b) b
 |row {k:Nat} {r:wB} {b:Bool}:W[k]?=some r->Wk pz W (if pz r.1=true then r.2.1 else r.2.2) b->Wk pz W (.inr k) b
structure wY (L:List Rw) (g i:Nat) (O R:List Nat):Prop where
 dec:O.Pairwise (· > ·)
 bd:∀ n∈O,2≤n/\n≤g/\g<n+i
 hd:1≤i->O[0]?=some g
 rg:g∈R
 rr:∀ n∈O,∀ r,L[n-2]?=some r->r.2.1∈R/\r.2.2∈R
 cl:∀ n∈R,2≤n->n≤g->g<n+i->n∈O
 ol:O.length≤i
 rl:R.length≤1+2*i
theorem wY.zero:wY L g 0 [] [g]:=
 ⟨.nil,(fun _ h=>by cases h),fun h=>by omega,by simp,(fun _ h=>by cases h),fun n h _ _ _=>by omega,by simp,by simp⟩
theorem wY.skip (o:wY L g i O R) (hi:i+2≤g) (hn:g-i∉R):wY L g (i+1) O R:=by
 refine ⟨o.dec,fun n h=>?_,fun h=>?_,o.rg,o.rr,fun n h h2 hg hc=>?_,?_,?_⟩
 ·have:=o.bd n h;omega
 ·by_cases h0:i=0
  ·subst h0
   exact absurd o.rg (by simpa using hn)
  ·exact o.hd (by omega)
 ·by_cases e:n=g-i
  ·subst e;exact absurd h hn
  ·exact o.cl n h h2 hg (by omega)
 ·have:=o.ol;omega
 ·have:=o.rl;omega
theorem wY.take (ok:wO L) (o:wY L g i O R) (hi:i+2≤g) (hn:g-i∈R) (hr:L[g-i-2]?=some r):wY L g (i+1) (O++[g-i]) (R++[r.2.1,r.2.2]):=by
 have lo:=ok.lo _ _ hr
 refine ⟨?_,fun n h=>?_,fun h=>?_,List.mem_append_left _ o.rg,fun n h q hq=>?_,fun n h h2 hg hc=>?_,?_,?_⟩
 ·rw [List.pairwise_append]
  refine ⟨o.dec,.cons (fun _ h=>by cases h) .nil,fun a ha b hb=>?_⟩
  cases List.mem_singleton.mp hb
  have:=o.bd a ha
  show g-i<a
  omega
 ·rcases List.mem_append.mp h with h|h
  ·have:=o.bd n h;omega
  ·cases List.mem_singleton.mp h;omega
 ·by_cases h0:i=0
  ·subst h0
   have:=o.ol
   have:O=[]:=List.eq_nil_of_length_eq_zero (by omega)
   subst this
   simp
  ·have:=o.hd (by omega)
   rw [List.getElem?_append_left (List.getElem?_eq_some_iff.mp this).1]
   exact this
 ·rcases List.mem_append.mp h with h|h
  ·have:=o.rr n h q hq
   exact ⟨List.mem_append_left _ this.1,List.mem_append_left _ this.2⟩
  ·cases List.mem_singleton.mp h
   rw [hr] at hq
   cases hq
   exact ⟨List.mem_append_right _ (by simp),List.mem_append_right _ (by simp)⟩
 ·rcases List.mem_append.mp h with h|h
  ·by_cases e:n=g-i
   ·subst e;exact List.mem_append_right _ (by simp)
   ·exact List.mem_append_left _ (o.cl n h h2 hg (by omega))
  ·simp only [List.mem_cons,List.not_mem_nil,or_false] at h
   rcases h with rfl|rfl <;> omega
 ·rw [List.length_append];have:=o.ol;simp;omega
 ·rw [List.length_append];have:=o.rl;simp;omega
def uO (O:List Nat) (m:Nat):m6:=if m=0 then .inl false else if m=1 then .inl true else .inr (O.idxOf m)
def wy (O:List Nat) (r:Rw):wB:=(r.1,uO O r.2.1,uO O r.2.2)
theorem um {t:List Nat} (h:¬ x=a):(x::t).idxOf a=t.idxOf a+1:=by
 rw [List.idxOf_cons,show (x == a)=false from by simp [h]]
 rfl
theorem uq:∀ {O:List Nat} {a b:Nat},O.Pairwise (· > ·)->a∈O->b∈O->b<a->O.idxOf a<O.idxOf b
 | x::t,a,b,h,ha,hb,hlt=>by
   cases h with
   |cons h1 h2=>
   by_cases e:x=a
   ·subst e
    rw [List.idxOf_cons_self,um (by omega)]
    omega
   ·by_cases e':x=b
    ·subst e'
     rcases List.mem_cons.mp ha with z|z
     ·omega
     ·have:=h1 a z;omega
    ·rw [um e,um e']
     have:=uq h2 ((List.mem_cons.mp ha).resolve_left fun z=>e z.symm) ((List.mem_cons.mp hb).resolve_left fun z=>e' z.symm) hlt
     omega
theorem HN (ok:wO L) (hg:2≤g) (hl:g<L.length+2) (o:wY L g (g-1) O R) (hw:∀ j:Nat,W[j]?=(O[j]?).bind fun n=>(L[n-2]?).map (wy O)) (wl:W.length=O.length) :
 oM (.inr 0) W/\W.length≤L.length/\∀ pz b,Ev pz L g b->Wk pz W (.inr 0) b:=by
 have nd:O.Nodup:=o.dec.imp fun h=>by omega
 have h0:=o.hd (by omega)
 have ol:=o.ol
 have pos:0<O.length:=(List.getElem?_eq_some_iff.mp h0).1
 have cl:∀ n∈O,∀ r,L[n-2]?=some r->∀ m,m=r.2.1∨m=r.2.2->m<n/\(2≤m->m∈O):=fun n hn r hr m hm=>by
  have b:=o.bd n hn
  have lo:=ok.lo _ _ hr
  have rr:=o.rr n hn r hr
  refine ⟨by rcases hm with rfl|rfl <;> omega,fun h2=>o.cl m (by rcases hm with rfl|rfl;exact rr.1;exact rr.2) h2 (by rcases hm with rfl|rfl <;> omega) (by omega)⟩
 have jok:∀ n∈O,∀ m,m<n/\(2≤m->m∈O)->zB (O.idxOf n) O.length (uO O m):=fun n hn m ⟨h1,h2⟩=>by
  unfold uO
  split
  ·trivial
  ·split
   ·trivial
   ·have hm:=h2 (by omega)
    exact ⟨uq o.dec hn hm h1,List.idxOf_lt_length_iff.mpr hm⟩
 have at_:∀ j r,W[j]?=some r->∃ n q,O[j]?=some n/\L[n-2]?=some q/\r=wy O q/\n∈O/\O.idxOf n=j:=fun j r h=>by
  rw [hw j,Option.bind_eq_some_iff] at h
  obtain ⟨n,hn,h⟩:=h
  obtain ⟨q,hq,rfl⟩:=Option.map_eq_some_iff.mp h
  have hj:=(List.getElem?_eq_some_iff.mp hn).1
  refine ⟨n,q,hn,hq,rfl,List.mem_of_getElem? hn,?_⟩
  have:=(List.getElem?_eq_some_iff.mp hn).2
  rw [← this]
  exact nd.idxOf_getElem j hj
 refine ⟨.inr ⟨rfl,by omega,⟨fun r hr=>?_,fun j r h=>?_⟩⟩,by omega,fun pz b=>?_⟩
 ·obtain ⟨j,hj⟩:=List.getElem?_of_mem hr
  obtain ⟨n,q,_,hq,rfl,_⟩:=at_ j r hj
  exact ok.lf q (List.mem_of_getElem? hq)
 ·obtain ⟨n,q,hn,hq,rfl,hm,rfl⟩:=at_ j r h
  rw [wl]
  exact ⟨jok n hm _ (cl n hm q hq _ (.inl rfl)),jok n hm _ (cl n hm q hq _ (.inr rfl))⟩
 ·have go:∀ {m:Nat} {b:Bool},Ev pz L m b->(2≤m->m∈O)->Wk pz W (uO O m) b:=by
   intro m b h
   induction h with
   |no=>intro _;exact .fin
   |yes=>intro _;exact .fin
   | @row i r b e _ ih=>
     intro hm
     have hm:=hm (by omega)
     have ej:uO O (i+2)=.inr (O.idxOf (i+2)):=by
      unfold uO
      rw [if_neg (by omega),if_neg (by omega)]
     rw [ej]
     have hi:=List.idxOf_lt_length_iff.mpr hm
     refine .row (r:=wy O r) (by rw [hw,List.getElem?_eq_getElem hi,List.getElem_idxOf,Option.bind_some,show i+2-2=i from by omega,e];rfl) ?_
     have c:=cl (i+2) hm r e
     show Wk pz W (if pz r.1=true then uO O r.2.1 else uO O r.2.2) b
     cases hp:pz r.1 with
     | true=>
       rw [hp] at ih
       exact ih (c _ (.inl rfl)).2
     | false=>
       rw [hp] at ih
       exact ih (c _ (.inr rfl)).2
  intro h
  have:=go h fun _=>o.cl g o.rg hg (Nat.le_refl _) (by omega)
  have e:uO O g=.inr 0:=by
   unfold uO
   rw [if_neg (by omega),if_neg (by omega)]
   have:O[0]=g:=(List.getElem?_eq_some_iff.mp h0).2
   rw [← this,nd.idxOf_getElem 0 pos]
  rw [e] at this
  exact this
def nV (R:List Nat):List V:=R.map fun n:Nat=>V.int n
theorem zK (R:List Nat):(nV R).all jy=true:=by
 unfold nV
 rw [List.all_map,List.all_eq_true]
 intro n _
 rfl
theorem Cr (m:Nat):∀ R:List Nat,inV (.int m) (nV R)=decide (m∈R)
 |[]=>by simp [inV,nV]
 | n::R=>by
   have ih:=Cr m R
   unfold inV nV at ih ⊢
   rw [List.map_cons,List.any_cons,ih]
   show ((n:Int) == (m:Int) || _)=_
   rw [Bool.eq_iff_iff]
   simp
   constructor
   ·rintro (h|h)
    ·exact .inl (by omega)
    ·exact .inr h
   ·rintro (h|h)
    ·exact .inl (by omega)
    ·exact .inr h
def qW (O:List Nat) (i m:Nat):Option V:=if m∈O.take i then some (.int (O.idxOf m:Nat)) else if m=1 then some (.bl true) else if m=0 then some (.bl false) else none
theorem yz (nd:O.Nodup) (h:O[i]?=some n):qW O (i+1) m=if m=n then some (.int (i:Nat)) else qW O i m:=by
 have hi:=(List.getElem?_eq_some_iff.mp h).1
 have hn:=(List.getElem?_eq_some_iff.mp h).2
 unfold qW
 rw [List.take_add_one,h]
 by_cases e:m=n
 ·subst e
  rw [if_pos (by simp),if_pos rfl]
  have:O.idxOf m=i:=by rw [← hn];exact nd.idxOf_getElem i hi
  rw [this]
 ·rw [if_neg e]
  simp [e]
theorem xF (h:∀ n∈O,2≤n) (hm:m<2∨m∈O):qW O O.length m=some (jV (uO O m)):=by
 unfold qW uO
 rw [List.take_length]
 by_cases h0:m=0
 ·subst h0
  rw [if_neg (fun z=>by have:=h _ z;omega),if_neg (by decide),if_pos rfl,if_pos rfl];rfl
 ·by_cases h1:m=1
  ·subst h1
   rw [if_neg (fun z=>by have:=h _ z;omega),if_pos rfl,if_neg (by decide),if_pos rfl];rfl
  ·rw [if_pos (hm.resolve_left (by omega)),if_neg h0,if_neg h1];rfl
theorem p8 {m n:Nat}:((Sum.inl (m:Int):Key)=Sum.inl (n:Int))↔m=n:=by
 constructor
 ·intro h;injection h with h;omega
 ·rintro rfl;rfl
def MT (K:Frag):Sp:=fun vs H Q _=>∃ (g:Nat) (l:Addr) (L:List Rw),vs=[.int g,.ref l]/\xU K H l L/\wO L/\L.length≤100/\g<L.length+2/\
 ∀ p lw ws st W H',H' p=some (.tup [jV st,.ref lw])->H' lw=some (.lst ws)->bw K H' ws (W.map zg)->oM st W->W.length≤L.length->(∀ pz b,Ev pz L g b->Wk pz W st b)->aB H H'->Q (.ref p) H'
abbrev V0:List Str:=["goal","laid","reached","order","number","ends","at","rows"]
theorem rm:aU V0 ["goal","laid"] (aC (top 44)):=⟨rfl,rfl,rfl,by decide +kernel,rfl,by decide +kernel,by decide +kernel⟩
theorem Eh:List.Nodup (["leaf","yes","no","ends"]:List Str):=by decide +kernel
theorem Nr {mg:Str->Option Value} {f:Addr} {fd:FuncData} (F:fj K "way_from" "way_from" (top 44) f fd) (T:Txt K mg) (TW:Av mg) (hrv:mg "reversed" = none) (hen:mg "enumerate" = none):aQ P w K mg base bL 1 f fd ["goal","laid"] (MT K):=by
 refine F.ok rm (fun vs H Q E h=>?_) (fun cdv A outer s H vs Q E hr h=>?_)
 ·obtain ⟨g,l,L,rfl,_⟩:=h
  rfl
 ·obtain ⟨g,l,L,rfl,⟨xs,hl,rs⟩,ok,ll,hg,k⟩:=h
  obtain ⟨t0,m0⟩:=TW.no
  obtain ⟨t1,m1⟩:=TW.yes
  obtain ⟨t2,m2⟩:=TW.row
  have hu:=CJ hr
  refine ⟨_,(aq (bc (aL jx (pv 0) (bW (v:=.int 2) rfl m2 ⟨_,rfl⟩) (aN _)) (aA (aH (bz (aa (bH bu (pv 0) (bW (v:=.int 1) rfl m1 ⟨_,rfl⟩) (aN _)) (aa (bY aj) aj))))) aM)
   (aq (bj (i:=2) rm.nd rfl (Or.inl rfl) (bY (aa (pv 0) aj)))
   (aq (bj (i:=3) rm.nd rfl (Or.inl rfl) (bY aj))
   (aq (dM PassesOwn.never rfl (Fv rfl hrv rfl T.range (aa (bW (v:=.int 2) rfl m2 ⟨_,rfl⟩) (aa (bh cX (pv 0) au) aj))) (aR (i:=4) rm.nd rfl (.inl rfl)) (aA
    (bc (aL dX (pv 4) (pv 2) rfl) (aq (cZ (jw PySem.F.plainAttrs_list PySem.F.slot_list_append PySem.F.type_list_append ir (pv 3) (aa (pv 4) aj)))
     (aA (cZ (jw PySem.F.plainAttrs_list PySem.F.slot_list_extend PySem.F.type_list_extend rH (pv 2) (aa (bV d_ (a_ cR (pv 1) (bh e_ (pv 4) (bW (v:=.int 2) rfl m2 ⟨_,rfl⟩)) (fun _ _=>rfl)) (cF au) cG) aj))))) aM)))
   (aq (bj (i:=5) rm.nd rfl (.inr rfl) (uD (g_ (bW (v:=.int 0) rfl m0 ⟨_,rfl⟩) eX (g_ (bW (v:=.int 1) rfl m1 ⟨_,rfl⟩) eX uz)) rfl rfl (List.cons_ne_nil _ _) (by show 2≤15;decide)))
   (aq (dM PassesOwn.never rfl (qC rfl hen fX (aa (pv 3) aj)) (dH rfl (aY (aR (i:=6) rm.nd rfl (.inl rfl)) (aY (aR (i:=4) rm.nd rfl (.inl rfl)) cO))) (aA (j8 hu (pv 5) (pv 4) (pv 6) rfl)))
   (aq (gw (g:=bM 0) (i:=7) (own:=["number"]) (js:=[1]) (N':=["number","laid"]) (bN.of (osc:=aC (top 44)) (N:=V0) rfl rfl ⟨rfl,by decide +kernel,by decide +kernel,by decide +kernel,rfl,by decide +kernel⟩) rfl rm.nd rfl rfl (gO (pv 3)) (fun _ _ _ _ _=>(aR (i:=0) (show List.Nodup (["number","laid"]:List Str) by decide +kernel) rfl (Or.inl rfl) (Or.inr rfl))) (fun _ _ _ _ _=>dh) (fun _ _ _ _ _=>(a_ (r:=wJ K) cR (pv 1) (bh e_ (pv 0) (bW (v:=.int 2) rfl m2 ⟨_,rfl⟩)) (fun _ _=>rfl))))
   (aA (aH (bz (aa au (aa (gk (g:=Uv K) (own:=["leaf","yes","no"]) (js:=[5]) (N':=["leaf","yes","no","ends"]) (bN.of (osc:=aC (top 44)) (N:=V0) rfl rfl ⟨rfl,by decide +kernel,by decide +kernel,by decide +kernel,rfl,by decide +kernel⟩) rfl (gO (pv 7)) (fun _ _ _ _ _=>(dH rfl (aY (aR (i:=0) Eh rfl (Or.inl rfl) (Or.inr rfl)) (aY (aR (i:=1) Eh rfl (Or.inl rfl) (Or.inr rfl)) (aY (aR (i:=2) Eh rfl (Or.inl rfl) (Or.inr rfl)) cO))))) (fun _ _ _ _ _=>dh) (fun _ _ _ _ _=>(bz (aa (pv 0) (aa (cY hu (pv 3) (pv 1) (fun _ _=>rfl)) (aa (cY hu (pv 3) (pv 2) (fun _ _=>rfl)) aj)))))) aj)))))))))))),?_⟩
  refine ⟨_,rfl,_,_,rfl,rfl,_,rfl,?_⟩
  by_cases h2:g<2
  ·refine cC (by simp;omega) ⟨_,rfl,rfl,(by show 0≤sizeLine;decide),fun q hq=>⟨(by show 2≤sizeLine;decide),fun p hp=>?_⟩⟩
   have e:decide (V.int (g:Int)=V.int 1)=decide (g=1):=by rw [ji,decide_eq_decide];omega
   have s1:aB H (upd H q (.lst [])):=aB.new hq
   have s2:=s1.trans (aB.new (o:=.tup [.bl (decide (V.int (g:Int)=V.int 1)),.ref q]) hp)
   refine k p q [] (.inl (decide (g=1))) [] _ (by rw [← e];exact ak) ((aB.new hp) _ _ ak) .nil (.inl ⟨_,rfl,rfl⟩) (Nat.zero_le _) (fun pz b h=>?_) s2
   cases h with
   |no=>exact .fin
   |yes=>exact .fin
   |row=>omega
  refine bQ (by simp;omega) ⟨_,rfl,(by show 1≤sizeLine;decide),fun qr hqr=>⟨(by show 0≤sizeLine;decide),fun qo hqo=>?_⟩⟩
  have s0:aB H (upd (upd H qr (.lst [.int g])) qo (.lst [])):=(aB.new hqr).trans (aB.new hqo)
  have nro:qr≠qo:=fun z=>by rw [← z,ak] at hqo;cases hqo
  have er:upd (upd H qr (.lst [.int g])) qo (.lst []) qr=some (.lst (nV [g])):=by rw [aK nro,ak];rfl
  have eo:upd (upd H qr (.lst [.int g])) qo (.lst []) qo=some (.lst (nV [])):=ak
  have hqo':H qo=none:=ii (aB.new hqr) hqo
  generalize upd (upd H qr (.lst [.int g])) qo (.lst [])=H0 at s0 er eo ⊢
  dsimp only [bM,List.set,L2.start]
  have xl:=rs.length
  rw [List.length_map] at xl
  have nat1:(g:Int)+1-2=((g-1:Nat):Int):=by omega
  refine ⟨_,rfl,_,_,rfl,rfl,2,(g:Int)+1,rfl,⟨by omega,by omega,by omega,by omega,by omega⟩,Ay (fun i σ H'=>∃ O R u,σ=[some (.int g),some (.ref l),some (.ref qr),some (.ref qo),u,none,none,none]/\H' qr=some (.lst (nV R))/\H' qo=some (.lst (nV O))/\wY L g i O R/\aB H H') ⟨[],[g],none,rfl,er,eo,wY.zero,s0⟩ ?_ ?_⟩
  ·rintro i σ H1 hi ⟨O,R,u,rfl,er,eo,od,s1⟩
   have hi:i+2≤g:=by omega
   have en:(g:Int)+1-1-(i:Int)=((g-i:Nat):Int):=by omega
   rw [en]
   dsimp only [bM,List.set]
   have ol:=od.ol
   have rl:=od.rl
   refine ⟨_,rfl,_,rfl,qr,nV R,rfl,.inl (bJ.of er),rfl,zK R,_,rfl,?_⟩
   show if inV (.int ((g-i:Nat):Int)) (nV R)=true then _ else _
   rw [Cr]
   by_cases hm:g-i∈R
   ·refine cC (decide_eq_true hm) ?_
    obtain ⟨r,hrw⟩:∃ r,L[g-i-2]?=some r:=⟨L[g-i-2]'(by omega),List.getElem?_eq_getElem _⟩
    have od':=od.take ok hi hm hrw
    refine ⟨_,rfl,.inl ⟨rfl,_,bJ.of eo⟩,_,rfl,qo,_,_,rfl,rfl,eo,gr (by unfold nV;rw [List.length_map];omega),?_⟩
    have s2:aB H (upd H1 qo (.lst (nV O++[.int ((g-i:Nat):Int)]))):=fun b o e=>by rw [aK (aP e hqo')];exact s1 _ _ e
    have er2:upd H1 qo (.lst (nV O++[.int ((g-i:Nat):Int)])) qr=some (.lst (nV R)):=by rw [aK nro];exact er
    have eo2:upd H1 qo (.lst (nV O++[.int ((g-i:Nat):Int)])) qo=some (.lst (nV (O++[g-i]))):=by rw [ak];unfold nV;rw [List.map_append];rfl
    generalize upd H1 qo (.lst (nV O++[.int ((g-i:Nat):Int)]))=H2 at s2 er2 eo2 ⊢
    have rs2:=rs.same s2
    obtain ⟨x,hx,rx⟩:=rs2.get (i:=g-i-2) (d:=ie r) (by rw [List.getElem?_map,hrw];rfl)
    have e3:((g-i:Nat):Int)-2=((g-i-2:Nat):Int):=by omega
    cases rx with
    |@tup a us _ sq ru=>
    obtain ⟨x0,rfl⟩:∃ x0,us=[x0,.int r.2.1,.int r.2.2]:=by
     cases ru with|cons r1 r2=>cases r2 with|cons r2 r3=>cases r3 with|cons r3 r4=>cases r2;cases r3;cases r4;exact ⟨_,rfl⟩
    refine ⟨_,rfl,.inl ⟨rfl,_,bJ.of er2⟩,_,rfl,_,rfl,_,_,rfl,rfl,l,_,_,_,rfl,rfl,bJ.of (s2 _ _ hl),(by rw [e3];exact aJ hx),1,rfl,a,_,rfl,sq,(fun e=>?_),fun p hp=>?_⟩
    ·rw [lJ] at e
     have:=congrArg List.length e
     simp at this
    rw [lJ]
    have s3:=s2.trans (aB.new (o:=.tup [.int (r.2.1:Nat),.int (r.2.2:Nat)]) hp)
    have er3:=(aB.new (o:=.tup [.int (r.2.1:Nat),.int (r.2.2:Nat)]) hp) _ _ er2
    have eo3:=(aB.new (o:=.tup [.int (r.2.1:Nat),.int (r.2.2:Nat)]) hp) _ _ eo2
    have ep:upd H2 p (.tup [.int (r.2.1:Nat),.int (r.2.2:Nat)]) p=some (.tup [.int (r.2.1:Nat),.int (r.2.2:Nat)]):=ak
    generalize upd H2 p (.tup [.int (r.2.1:Nat),.int (r.2.2:Nat)])=H3 at s3 er3 eo3 ep ⊢
    refine ⟨qr,p,_,_,rfl,rfl,er3,ep,Nat.le_trans (show _≤1000 by unfold nV;rw [List.length_map];simp;omega) (by decide),?_⟩
    refine ⟨O++[g-i],R++[r.2.1,r.2.2],_,rfl,?_,?_,od',fun b o e=>?_⟩
    ·rw [ak];unfold nV;rw [List.map_append];rfl
    ·rw [aK nro.symm];exact eo3
    ·rw [aK (aP e hqr)];exact s3 _ _ e
   ·exact bQ (decide_eq_false hm) ⟨O,R,_,rfl,er,eo,od.skip hi hm,s1⟩
  ·rintro σ H1 ⟨O,R,u,rfl,er,eo,od,s1⟩
   have od:wY L g (g-1) O R:=by
    have:((g:Int)+1-2).toNat=g-1:=by omega
    rw [this] at od
    exact od
   have nd:O.Nodup:=od.dec.imp fun h=>by omega
   have ol:=od.ol
   have two:∀ n∈O,2≤n/\n-2<L.length:=fun n h=>by have:=od.bd n h;omega
   have nl:(nV O).length=O.length:=by unfold nV;rw [List.length_map]
   have big:1000≤sizeLine:=by decide
   refine fun qd hqd=>⟨ak,[(.inl 0,.bl false),(.inl 1,.bl true)],rfl,by decide,?_⟩
   have hqd':H qd=none:=ii s1 hqd
   have s2:aB H (upd (upd H1 qd (.dK [])) qd (.dK (iy [] [(.inl 0,.bl false),(.inl 1,.bl true)]))):=fun b o e=>by rw [aK (aP e hqd'),aK (aP e hqd')];exact s1 _ _ e
   have nod:qo≠qd:=aP eo hqd
   have eo2:(upd (upd H1 qd (.dK [])) qd (.dK (iy [] [(.inl 0,.bl false),(.inl 1,.bl true)]))) qo=some (.lst (nV O)):=by rw [aK nod,aK nod];exact eo
   have ed:(upd (upd H1 qd (.dK [])) qd (.dK (iy [] [(.inl 0,.bl false),(.inl 1,.bl true)]))) qd=some (.dK (putK (putK [] (.inl 0) (.bl false)) (.inl 1) (.bl true))):=ak
   generalize upd (upd H1 qd (.dK [])) qd (.dK (iy [] [(.inl 0,.bl false),(.inl 1,.bl true)]))=H2 at s2 eo2 ed ⊢
   dsimp only [bM,List.set]
   have v0:∀ m:Nat,gG (putK (putK ([]:List (Key×V)) (.inl 0) (.bl false)) (.inl 1) (.bl true)) (.inl (m:Int))=qW O 0 m:=fun m=>by
    rw [mq,mq,zu]
    unfold qW
    rw [List.take_zero,if_neg (show ¬ m∈([]:List Nat) from nofun)]
    by_cases h1:m=1
    ·subst h1;rfl
    ·rw [if_neg (show ¬ (Sum.inl (m:Int):Key)=Sum.inl 1 from fun z=>h1 (p8.mp z)),if_neg h1]
     by_cases h0:m=0
     ·subst h0;rfl
     ·rw [if_neg (show ¬ (Sum.inl (m:Int):Key)=Sum.inl 0 from fun z=>h0 (p8.mp z)),if_neg h0]
   refine ⟨_,rfl,qo,rfl,⟨_,bJ.of eo2⟩,v8 (K:=K) (a:=qo) (xs:=nV O) (fun i σ H'=>∃ u v kvs,σ=[some (.int g),some (.ref l),some (.ref qr),some (.ref qo),u,some (.ref qd),v,none]/\H' qd=some (.dK kvs)/\kvs.length≤2+i/\(∀ m:Nat,gG kvs (.inl (m:Int))=qW O i m)/\H' qo=some (.lst (nV O))/\aB H H')
    ⟨_,_,_,rfl,ed,by decide,v0,eo2,s2⟩ (fun i σ H' _ ⟨_,_,_,_,_,_,_,e,_⟩=>bJ.of e) ?_ ?_⟩
   ·rintro i v σ H3 p hv ⟨u,v',kvs,rfl,hd,kl,kv,eo3,s3⟩ hp
    unfold nV at hv
    rw [List.getElem?_map] at hv
    obtain ⟨n,hn,rfl⟩:=Option.map_eq_some_iff.mp hv
    have il:=(List.getElem?_eq_some_iff.mp hn).1
    refine ⟨p,_,rfl,bB.of ak,rfl,_,_,rfl,_,_,rfl,rfl,?_⟩
    have s4:=s3.trans (aB.new (o:=.tup [.int (i:Nat),.int (n:Nat)]) hp)
    have hd4:=(aB.new (o:=.tup [.int (i:Nat),.int (n:Nat)]) hp) _ _ hd
    have eo4:=(aB.new (o:=.tup [.int (i:Nat),.int (n:Nat)]) hp) _ _ eo3
    generalize upd H3 p (.tup [.int (i:Nat),.int (n:Nat)])=H4 at s4 hd4 eo4 ⊢
    have pl:=gQ kvs (.inl (n:Int)) (.int (i:Nat))
    refine ⟨_,rfl,_,rfl,_,rfl,qd,_,rfl,nu.k (k:=.inl (n:Int)) hd4 (Nat.lt_of_lt_of_le (show _<1000 by omega) big),?_⟩
    refine ⟨_,_,_,rfl,ak,by omega,fun m=>?_,by rw [aK nod];exact eo4,fun b o e=>by rw [aK (aP e hqd')];exact s4 _ _ e⟩
    rw [mq,kv,yz nd hn]
    by_cases e:m=n
    ·subst e;rw [if_pos rfl,if_pos rfl]
    ·rw [if_neg (fun z=>e (p8.mp z)),if_neg e]
   rintro σ H3 ⟨u2,v2,kvs,rfl,hd,kl,kv,eo3,s3⟩
   rw [nl] at kv
   have rs3:=rs.same s3
   have hl3:=s3 _ _ hl
   refine ⟨_,rfl,qo,rfl,⟨_,bJ.of eo3⟩,?_⟩
   refine kJ (K:=K) (a:=qo) (xs:=nV O) (fun i ys σ' H'=>(∃ v,σ'=[v,some (.ref l)])/\H'=H3/\ys=(O.take i).map fun n=>xs.getD (n-2) .non) (by omega) ⟨⟨none,rfl⟩,rfl,rfl⟩ (fun i ys σ' H' _ ⟨_,e,_⟩=>by rw [e];exact bJ.of eo3) ?_ ?_
   ·rintro i x ys σ' H' hx hys ⟨⟨v,rfl⟩,rfl,rfl⟩ N hN
    unfold nV at hx
    rw [List.getElem?_map] at hx
    obtain ⟨n,hn,rfl⟩:=Option.map_eq_some_iff.mp hx
    obtain ⟨t1',t2'⟩:=two n (List.mem_of_getElem? hn)
    have e3:(n:Int)-2=((n-2:Nat):Int):=by omega
    have hxn:xs[n-2]?=some (xs.getD (n-2) .non):=by rw [List.getD_eq_getElem?_getD,List.getElem?_eq_getElem (by omega)];rfl
    dsimp only [bM,List.set]
    exact ⟨_,rfl,_,rfl,_,_,rfl,rfl,l,_,_,_,rfl,rfl,bJ.of hl3,(by rw [e3];exact aJ hxn),hN _ _ _ (by rw [List.length_append,hys];rfl) ⟨⟨_,rfl⟩,rfl,by rw [List.take_add_one,hn];simp⟩⟩
   rintro ws σ' H' hws ⟨⟨v,rfl⟩,rfl,rfl⟩
   rw [nl,List.take_length]
   refine ⟨by rw [List.length_map];omega,fun q7 hq7=>?_⟩
   have s4:=s3.trans (aB.new (o:=.lst (O.map fun n=>xs.getD (n-2) .non)) hq7)
   have e7:upd H' q7 (.lst (O.map fun n=>xs.getD (n-2) .non)) q7=some (.lst (O.map fun n=>xs.getD (n-2) .non)):=ak
   have hd4:=(aB.new (o:=.lst (O.map fun n=>xs.getD (n-2) .non)) hq7) _ _ hd
   generalize upd H' q7 (.lst (O.map fun n=>xs.getD (n-2) .non))=H4 at s4 e7 hd4 ⊢
   have rs4:=rs.same s4
   have cl:∀ n∈O,∀ r,L[n-2]?=some r->∀ m,m=r.2.1∨m=r.2.2->m<2∨m∈O:=fun n hn r hr m hm=>by
    have b:=od.bd n hn
    have lo:=ok.lo _ _ hr
    have rr:=od.rr n hn r hr
    by_cases h2:m<2
    ·exact .inl h2
    ·exact .inr (od.cl m (by rcases hm with rfl|rfl;exact rr.1;exact rr.2) (by omega) (by rcases hm with rfl|rfl <;> omega) (by omega))
   have dg:∀ {H':Hp} {m:Nat},H' qd=some (.dK kvs)->(m<2∨m∈O)->jC H' qd (.int m) (some (jV (uO O m))):=fun {H' m} e h=>by
    have:=jC.k (k:=.inl (m:Int)) e
    rw [kv,xF (fun n hn=>(two n hn).1) h] at this
    exact this
   let W:List wB:=O.map fun n=>wy O ((L[n-2]?).getD (.none,0,0))
   have wl:W.length=O.length:=List.length_map ..
   have wj:∀ j:Nat,W[j]?=(O[j]?).bind fun n=>(L[n-2]?).map (wy O):=fun j=>by
    show (O.map _)[j]?=_
    rw [List.getElem?_map]
    cases hj:O[j]? with
    |none=>rfl
    | some n=>
      have:=(two n (List.mem_of_getElem? hj)).2
      rw [Option.map_some,Option.bind_some,List.getElem?_eq_getElem this]
      rfl
   obtain ⟨wo,wle,wev⟩:=HN ok (by omega) hg od wj wl
   dsimp only [bM,List.set]
   refine ⟨_,rfl,q7,rfl,⟨_,bJ.of e7⟩,?_⟩
   refine kJ (K:=K) (a:=q7) (xs:=O.map fun n=>xs.getD (n-2) .non) (fun i ys σ' H'=>(∃ u v w,σ'=[u,v,w,some (.ref qd)])/\aB H4 H'/\bw K H' ys ((W.take i).map zg)) (by rw [List.length_map];omega) ⟨⟨none,none,none,rfl⟩,aB.refl _,.nil⟩ (fun i ys σ' H' _ ⟨_,e,_⟩=>bJ.of (e _ _ e7)) ?_ ?_
   ·rintro i x ys σ' H5 hx hys ⟨⟨u,v,w,rfl⟩,s5,ry⟩ N hN
    rw [List.getElem?_map] at hx
    obtain ⟨n,hn,rfl⟩:=Option.map_eq_some_iff.mp hx
    have mn:=List.mem_of_getElem? hn
    obtain ⟨t1',t2'⟩:=two n mn
    have hrw:L[n-2]?=some L[n-2]:=List.getElem?_eq_getElem t2'
    generalize L[n-2]=r at hrw
    obtain ⟨x,hx,rx⟩:=rs4.get (i:=n-2) (d:=ie r) (by rw [List.getElem?_map,hrw];rfl)
    have ex:xs.getD (n-2) .non=x:=by rw [List.getD_eq_getElem?_getD,hx];rfl
    rw [ex]
    have rx5:=rx.same s5
    cases rx5 with
    |@tup a us _ sq ru=>
    obtain ⟨x0,rfl,rx0⟩:∃ x0,us=[x0,.int r.2.1,.int r.2.2]/\Rep K H5 x0 r.1:=by
     cases ru with|cons r1 r2=>cases r2 with|cons r2 r3=>cases r3 with|cons r3 r4=>cases r2;cases r3;cases r4;exact ⟨_,rfl,r1⟩
    refine ⟨a,_,rfl,sq,rfl,_,_,rfl,_,_,rfl,_,_,rfl,rfl,?_⟩
    have d5:=s5 _ _ hd4
    refine ⟨_,rfl,_,rfl,_,rfl,qd,_,rfl,dg d5 (cl n mn r hrw _ (.inl rfl)),_,rfl,_,rfl,qd,_,rfl,dg d5 (cl n mn r hrw _ (.inr rfl)),(by show 3≤sizeLine;decide),fun p hp=>hN _ _ _ (by rw [List.length_append,hys];rfl) ⟨⟨_,_,_,rfl⟩,s5.trans (aB.new hp),?_⟩⟩
    have ew:W[i]?=some (wy O r):=by rw [wj,hn,Option.bind_some,hrw];rfl
    rw [List.take_add_one,ew,List.map_append]
    refine iY (ry.same (aB.new hp)) (.cons (.tup (bB.of ak) (.cons (rx0.same (aB.new hp)) (.cons (DG _ _ _) (.cons (DG _ _ _) .nil)))) .nil)
   ·rintro ws σ' H5 hws ⟨_,s5,ry⟩
    rw [List.length_map,← wl,List.take_length] at ry
    refine ⟨by rw [hws,List.length_map];omega,fun lw hlw=>⟨(by show 2≤sizeLine;decide),fun p hp=>?_⟩⟩
    have s6:=(aB.new (o:=.lst ws) hlw).trans (aB.new (o:=.tup [.int 0,.ref lw]) hp)
    exact k p lw ws (.inr 0) W _ ak ((aB.new hp) _ _ ak) (ry.same s6) wo wle wev ((s4.trans s5).trans s6)
section
variable {P:Program} {w:World} {K:PySem.W.Frag} {mg:Str->Option Value} {base:Heap}
structure lG (K:Frag) (H:Hp) (p lw:Addr) (st:m6) (W:List wB):Prop where
 hp:H p=some (.tup [jV st,.ref lw])
 hl:∃ ws,H lw=some (.lst ws)/\bw K H ws (W.map zg)
 ok:oM st W
theorem lG.same (h:lG K H p lw st W) (s:aB H H'):lG K H' p lw st W:=by
 obtain ⟨hp,⟨ws,hl,rs⟩,ok⟩:=h
 exact ⟨s _ _ hp,⟨ws,s _ _ hl,rs.same s⟩,ok⟩
def Ib (K:Frag) (cT:Addr):Sp:=fun vs H Q E=>∃ (x:V) (d:PyData),vs=[x]/\Rep K H x d/\TD d/\
 (dO d=true->∀ p lw st W H',lG K H' p lw st W->W.length≤(j_ d).length->(∀ nm fs zs,Wk (uo nm fs zs) W st (Km nm fs zs d))->aB H H'->Q (.ref p) H')/\
 (dO d=false->∀ H1 da H',aB H H1->pF H1 Sq da H'->E (.ref cT) (some da) H')
theorem Pg:aU ["test","laid"] ["test"] (aC (top 41)):=⟨rfl,rfl,rfl,by decide +kernel,rfl,by decide +kernel,by decide +kernel⟩
theorem Lg (F:fj K "made" "made" (top 41) f fd) (TW:Av mg) (DN:cH K mg "need_test" (top 30) ["test"] fN fdN) (GN:aQ P w K mg base (sW P w) 11 fN fdN ["test"] (NQ K cT))
 (DL:cH K mg "lay_test" (top 42) Jf fL fdL) (GL:aQ P w K mg base bL 6 fL fdL Jf (Ep K 5)) (DW:cH K mg "way_from" (top 44) ["goal","laid"] fW fdW) (GW:aQ P w K mg base bL 1 fW fdW ["goal","laid"] (MT K)):aQ P w K mg base (sW P w) 12 f fd ["test"] (Ib K cT):=by
 refine F.ok1 Pg (fun vs H Q E h=>?_) (fun cdv A outer s H vs Q E hr h=>?_)
 ·obtain ⟨x,d,rfl,_⟩:=h
  rfl
 ·obtain ⟨x,d,rfl,rx,td,k,kx⟩:=h
  obtain ⟨t0,m0⟩:=TW.no
  obtain ⟨t1,m1⟩:=TW.yes
  have hr6:bK 6 _:=hr.mono (by decide)
  have hr1:bK 1 _:=hr.mono (by decide)
  refine ⟨_,(aq (cZ (aD (E:=E) GN hr rfl DN.mg DN.F.kp DN.b .nil (Oz fun _ _ _ h=>h) (aa (pv 0) aj)))
   (aq (bj (i:=1) Pg.nd rfl (by first|exact Or.inl rfl|exact Or.inr rfl) (bY aj))
   (aA (aH (aD (E:=E0) GW hr1 rfl DW.mg DW.F.kp DW.b .nil aO (aa (aD (E:=E0) GL hr6 rfl DL.mg DL.F.kp DL.b .nil aO (aa (pv 0) (aa (bW (v:=.int 1) rfl m1 ⟨_,rfl⟩) (aa (bW (v:=.int 0) rfl m0 ⟨_,rfl⟩) (aa (pv 1) aj))))) (aa (pv 1) aj))))))),?_⟩
  refine ⟨_,rfl,x,d,rfl,rx,td,fun h1 H1 s1=>?_,fun h1 H1 da H' s1 th=>kx h1 H1 da H' s1 th⟩
  obtain ⟨sh,de,pa⟩:=m9 h1
  have k:=k h1
  have ll:=iC td sh de
  have p5:(2:Nat) ^ 5=32:=by decide
  obtain ⟨f,r,rfl⟩:=cA td sh
  refine ⟨(by show 0≤sizeLine;decide),fun l hl=>?_⟩
  have s2:=s1.trans (aB.new (o:=.lst []) hl)
  have hl0:H l=none:=ii s1 hl
  have e2:upd H1 l (.lst []) l=some (.lst []):=ak
  generalize upd H1 l (.lst [])=H2 at s2 e2 ⊢
  have rx2:=rx.same s2
  cases rx2 with
  |@tup q us _ sq rs=>
  refine ⟨_,rfl,_,rfl,q,f,r,1,0,l,[],rfl,.tup sq rs,td,sh,de,⟨[],e2,.nil⟩,⟨(fun _ h=>by cases h),fun i r h=>by simp at h⟩,by simp;omega,by simp,by simp,fun g L' H3 la ld b3=>?_⟩
  have ln:=la.len
  simp at ln
  have s3:aB H H3:=fun b o e=>b3 _ _ (s2 _ _ e) (aP e hl0)
  refine ⟨_,rfl,g,l,L',rfl,ld,la.ok,by omega,la.lt,fun p lw ws st W H4 h1 h2 h3 wo wl we s4=>k p lw st W H4 ⟨h1,⟨ws,h2,h3⟩,wo⟩ (by omega) (fun nm fs zs=>?_) (s3.trans s4)⟩
  have:=we _ _ (la.ev nm fs zs _ _ .yes .no)
  show Wk _ _ _ (bZ nm fs zs 5 f r)
  cases hp:bZ nm fs zs 5 f r <;> rw [hp] at this <;> exact this
end
theorem xJ (h:jU f r):dY f r=true:=by
 have:=h.tr.sh
 rw [eU,h.ar,if_pos rfl] at this
 exact this
def My (K:Frag):List V->Hp->VK->Prop:=fun xs H Q=>∃ p ys,xs=[.ref p]/\(bJ K H p ys∨bB K H p ys)/\Q (.int ys.length) H
def CZ (K:Frag):Sp:=fun vs H Q _=>∃ (j:m6) (i n:Nat),vs=[jV j,.int i,.int n]/\zB i n j/\Q (.bl true) H
theorem JC:aU ["goal","at","many"] ["goal","at","many"] (aC (top 39)):=⟨rfl,rfl,rfl,by decide +kernel,rfl,by decide +kernel,by decide +kernel⟩
theorem Gi (F:fj K "leads_on" "leads_on" (top 39) f fd) (T:Txt K mg):aQ P w K mg base bL 1 f fd ["goal","at","many"] (CZ K):=by
 refine F.ok JC (fun vs H Q E h=>?_) (fun cdv A outer s H vs Q E hr h=>?_)
 ·obtain ⟨j,i,n,rfl,_⟩:=h
  rfl
 ·obtain ⟨j,i,n,rfl,jo,k⟩:=h
  refine ⟨_,(aA (aH (Ck (aG bC (by rfl) T.isinstance aX (aa (pv 0) (aa (cP rfl T.bool gb) aj))) (dw (iT jx jx (pv 1) (pv 0) (pv 2)))))),?_⟩
  cases j with
  |inl b=>exact ⟨_,rfl,_,_,_,_,rfl,.bl b,rfl,_,rfl,cC rfl k⟩
  | inr m=>
    obtain ⟨h1,h2⟩:=(show i<m/\m<n from jo)
    refine ⟨_,rfl,_,_,_,_,rfl,.int _,rfl,_,rfl,bQ rfl ?_⟩
    refine lB.chain (lB.var rfl) (lB.var rfl) (lB.var rfl) zH.i0 zH.i0 _ ?_
    rw [decide_eq_true (show (i:Int)<m by omega),decide_eq_true (show (m:Int)<n by omega)]
    exact k
def O9 (K:Frag):Sp:=fun vs H Q _=>∃ (x:V) (d:PyData),vs=[x]/\Rep K H x d/\xV d/\Q (.bl true) H
theorem UV:aU ["leaf"] ["leaf"] (aC (top 38)):=⟨rfl,rfl,rfl,by decide +kernel,rfl,by decide +kernel,by decide +kernel⟩
theorem Mv {f fL:Addr} {fd fdL:FuncData} (F:fj K "can_be_asked" "can_be_asked" (top 38) f fd) (T:Txt K mg) (DL:cH K mg "is_leaf" (top 27) ["test"] fL fdL) (GL:aQ P w K mg base bL 3 fL fdL ["test"] (Hf K)):aQ P w K mg base bL 4 f fd ["leaf"] (O9 K):=by
 refine F.ok UV (fun vs H Q E h=>?_) (fun cdv A outer s H vs Q E hr h=>?_)
 ·obtain ⟨x,d,rfl,_⟩:=h
  rfl
 ·obtain ⟨x,d,rfl,rx,⟨f,r,rfl,lf,na⟩,k⟩:=h
  refine ⟨_,(aA (aH (c7 (bH qF (aG aV (by rfl) T.len bR (aa (pv 0) aj)) au (aN _)) (c7 (bH lA (a_ aZ (pv 0) au (fun _ _=>rfl)) aF (aN _)) (dw (aD GL hr rfl DL.mg DL.F.kp DL.b .nil aO (aa (pv 0) aj))))))),?_⟩
  have rx0:=rx
  cases rx with
  |@tup q us _ sq rs=>
  obtain ⟨x0,ys,rfl⟩:∃ x0 ys,us=x0::ys:=by cases rs;exact ⟨_,_,rfl⟩
  obtain ⟨r0,rt⟩:Rep K H x0 (.str f)/\bw K H ys r:=by cases rs with|cons a b=>exact ⟨a,b⟩
  cases r0
  refine ⟨_,rfl,q,_,rfl,.inr sq,_,_,rfl,rfl,_,rfl,cC (by simp) ?_⟩
  refine ⟨_,rfl,q,_,_,_,rfl,rfl,sq,aJ (j:=0) rfl,rfl,_,rfl,cC (by rw [eE na];rfl) ?_⟩
  refine ⟨_,rfl,q,f,r,rfl,rx0,lf.tr.td,?_⟩
  rw [xJ lf]
  exact k
def Px (K:Frag):Sp:=fun vs H Q _=>∃ (x:V) (r:wB) (i n:Nat),vs=[x,.int i,.int n]/\Rep K H x (zg r)/\xV r.1/\zB i n r.2.1/\zB i n r.2.2/\Q (.bl true) H
abbrev Wu:List Str:=["row","at","many","leaf","yes","no"]
theorem Ac:aU Wu ["row","at","many"] (aC (top 37)):=⟨rfl,rfl,rfl,by decide +kernel,rfl,by decide +kernel,by decide +kernel⟩
theorem sI (h:Rep K H x (zg r)):∃ a x0,x=.ref a/\bB K H a [x0,jV r.2.1,jV r.2.2]/\Rep K H x0 r.1:=by
 have jv:∀ {v:V} {j:m6},Rep K H v (jD j)->v=jV j:=by
  intro v j h
  cases j with
  |inl b=>cases h;rfl
  |inr n=>cases h;rfl
 cases h with
 |@tup a us _ sq ru=>
 cases ru with|cons r1 r2=>cases r2 with|cons r2 r3=>cases r3 with|cons r3 r4=>
 cases r4
 cases jv r2
 cases jv r3
 exact ⟨a,_,rfl,sq,r1⟩
theorem Lj (F:fj K "is_row" "is_row" (top 37) f fd) (DC:cH K mg "can_be_asked" (top 38) ["leaf"] fC fdC) (GC:aQ P w K mg base bL 4 fC fdC ["leaf"] (O9 K)) (DL:cH K mg "leads_on" (top 39) ["goal","at","many"] fL fdL) (GL:aQ P w K mg base bL 1 fL fdL ["goal","at","many"] (CZ K)):aQ P w K mg base bL 5 f fd ["row","at","many"] (Px K):=by
 refine F.ok Ac (fun vs H Q E h=>?_) (fun cdv A outer s H vs Q E hr h=>?_)
 ·obtain ⟨x,r,i,n,rfl,_⟩:=h
  rfl
 ·obtain ⟨x,r,i,n,rfl,rx,lf,j1,j2,k⟩:=h
  have hr1:bK 1 _:=hr.mono (show 1≤4 by decide)
  refine ⟨_,(aq (jF (pv 0) (dH rfl (aY (aR (i:=3) Ac.nd rfl (.inl rfl)) (aY (aR (i:=4) Ac.nd rfl (.inl rfl)) (aY (aR (i:=5) Ac.nd rfl (.inl rfl)) cO)))))
   (aA (aH (c7 (aD GC hr rfl DC.mg DC.F.kp DC.b .nil aO (aa (pv 3) aj)) (c7 (aD GL hr1 rfl DL.mg DL.F.kp DL.b .nil aO (aa (pv 4) (aa (pv 1) (aa (pv 2) aj)))) (dw (aD GL hr1 rfl DL.mg DL.F.kp DL.b .nil aO (aa (pv 5) (aa (pv 1) (aa (pv 2) aj)))))))))),?_⟩
  obtain ⟨a,x0,rfl,sq,r1⟩:=sI rx
  refine ⟨_,rfl,a,_,rfl,sq,rfl,_,_,rfl,_,_,rfl,_,_,rfl,rfl,?_⟩
  refine ⟨_,rfl,x0,_,rfl,r1,lf,_,rfl,cC rfl ?_⟩
  refine ⟨_,rfl,_,rfl,_,rfl,r.2.1,i,n,rfl,j1,_,rfl,cC rfl ?_⟩
  exact ⟨_,rfl,_,rfl,_,rfl,r.2.2,i,n,rfl,j2,k⟩
def Cg (K:Frag):Sp:=fun vs H Q _=>∃ (p lw:Addr) (st:m6) (W:List wB),vs=[.ref p]/\lG K H p lw st W/\W.length≤100/\∀ H',aB H H'->Q (.bl true) H'
theorem zA:aU ["way","start","rows"] ["way"] (aC (top 36)):=⟨rfl,rfl,rfl,by decide +kernel,rfl,by decide +kernel,by decide +kernel⟩
theorem Fb (F:fj K "is_way" "is_way" (top 36) f fd) (T:Txt K mg) (hen:mg "enumerate" = none) (DR:cH K mg "is_row" (top 37) ["row","at","many"] fR fdR) (GR:aQ P w K mg base bL 5 fR fdR ["row","at","many"] (Px K)):aQ P w K mg base bL 6 f fd ["way"] (Cg K):=by
 refine F.ok zA (fun vs H Q E h=>?_) (fun cdv A outer s H vs Q E hr h=>?_)
 ·obtain ⟨p,lw,st,W,rfl,_⟩:=h
  rfl
 ·obtain ⟨p,lw,st,W,rfl,⟨hp,⟨ws,hl,rs⟩,wo⟩,wl,k⟩:=h
  refine ⟨_,(aq (jF (pv 0) (dH rfl (aY (aR (i:=1) zA.nd rfl (.inl rfl)) (aY (aR (i:=2) zA.nd rfl (.inr rfl)) cO))))
   (aq (bc (aL bu (aG aV (by rfl) T.len bR (aa (pv 2) aj)) au (aN _)) (aA (aH (aG bC (by rfl) T.isinstance aX (aa (pv 1) (aa (cP rfl T.bool gb) aj))))) aM)
   (aq (bc (PW.pt (gM (cD (aG bC (by rfl) T.isinstance aX (aa (pv 1) (aa (cP rfl T.bool gb) aj)))) (fH (aL lA (pv 1) au (aN _))))) (aA (aH eX)) aM)
   (aA (aH (aG (je rfl) (by rfl) T.all p_ (aa (gk (g:=Ar K 2 (lD (bM 0) (lD (bM 1) Ba))) (own:=["at","row"]) (js:=[2]) (N':=["at","row","rows"]) (bN.of (osc:=aC (top 36)) (N:=["way","start","rows"]) rfl rfl ⟨rfl,by decide +kernel,by decide +kernel,by decide +kernel,rfl,by decide +kernel⟩) rfl (qC rfl hen fX (aa (pv 2) aj)) (fun _ _ _ _ _=>(dH rfl (aY (aR (i:=0) (show List.Nodup (["at","row","rows"]:List Str) by decide +kernel) rfl (Or.inl rfl) (Or.inr rfl)) (aY (aR (i:=1) (show List.Nodup (["at","row","rows"]:List Str) by decide +kernel) rfl (Or.inl rfl) (Or.inr rfl)) cO)))) (fun _ _ _ _ _=>dh) (fun _ _ _ _ _=>aD GR hr rfl DR.mg DR.F.kp DR.b .nil aO (aa (pv 1) (aa (pv 0) (aa (aG (r:=My K) aV (by rfl) T.len bR (aa (pv 2) aj)) aj))))) aj))))))),?_⟩
  have xl:=rs.length
  rw [List.length_map] at xl
  refine ⟨_,rfl,p,_,rfl,bB.of hp,rfl,_,_,rfl,_,_,rfl,rfl,?_⟩
  refine ⟨_,rfl,lw,ws,rfl,.inl (bJ.of hl),rfl,_,rfl,?_⟩
  rcases wo with ⟨b,rfl,rfl⟩|⟨rfl,pos,wok⟩
  ·cases rs
   exact cC rfl ⟨_,rfl,_,_,_,_,rfl,.bl b,rfl,k _ (aB.refl _)⟩
  refine bQ (by rw [ji,decide_eq_false_iff_not];omega) ?_
  refine ⟨_,rfl,_,_,_,_,rfl,.int _,rfl,_,rfl,bQ rfl ⟨_,rfl,rfl,_,rfl,bQ rfl ?_⟩⟩
  refine ⟨_,rfl,lw,rfl,⟨_,bJ.of hl⟩,?_⟩
  refine rP (K:=K) (a:=lw) (xs:=ws) (fun i ys σ' H'=>(∃ u v,σ'=[u,v,some (.ref lw)])/\aB H H'/\ys=(List.replicate i true).map V.bl) (Nat.le_trans (show _≤100 by omega) (by decide)) ⟨⟨none,none,rfl⟩,aB.refl _,rfl⟩ (fun i ys σ' H' _ ⟨_,e,_⟩=>bJ.of (e _ _ hl)) ?_ ?_
  ·rintro i x ys σ' H1 q hx hys ⟨⟨u,v,rfl⟩,s1,rfl⟩ hq N hN
   obtain ⟨d,hd,rx⟩:=rs.get' hx
   rw [List.getElem?_map] at hd
   obtain ⟨r,hr',rfl⟩:=Option.map_eq_some_iff.mp hd
   have jp:=wok.jp i r hr'
   rw [← xl] at jp
   have s2:=s1.trans (aB.new (o:=.tup [.int (i:Nat),x]) hq)
   refine ⟨q,_,rfl,bB.of ak,rfl,_,_,rfl,_,_,rfl,rfl,?_⟩
   generalize upd H1 q (.tup [.int (i:Nat),x])=H2 at s2 ⊢
   refine ⟨_,rfl,_,rfl,_,rfl,lw,ws,rfl,.inl (bJ.of (s2 _ _ hl)),x,r,i,ws.length,rfl,rx.same s2,wok.lf r (List.mem_of_getElem? hr'),jp.1,jp.2,?_⟩
   exact hN _ _ _ (by rw [List.length_append,hys];rfl) ⟨⟨_,_,rfl⟩,s2,by rw [List.replicate_succ',List.map_append];rfl⟩
  ·rintro ys σ' H1 hys ⟨_,s1,rfl⟩
   refine ⟨Nat.le_trans (show _≤100 by rw [hys];omega) (by decide),fun l hl'=>⟨l,List.replicate ws.length true,rfl,bJ.of ak,?_⟩⟩
   have e:(List.replicate ws.length true).all id=true:=by simp
   show Q (.bl ((List.replicate ws.length true).all id)) _
   rw [e]
   exact k _ (s1.trans (aB.new hl'))
theorem V8:aU ["way"] ["way"] (aC (top 40)):=⟨rfl,rfl,rfl,by decide +kernel,rfl,by decide +kernel,by decide +kernel⟩
def CV (K:Frag):Sp:=fun vs H Q _=>∃ (p lw:Addr) (st:m6) (W:List wB),vs=[.ref p]/\lG K H p lw st W/\W.length≤100/\∀ H',aB H H'->Q .non H'
theorem G6 (F:fj K "need_way" "need_way" (top 40) f fd) (DI:cH K mg "is_way" (top 36) ["way"] fI fdI) (GI:aQ P w K mg base bL 6 fI fdI ["way"] (Cg K)):aQ P w K mg base bL 7 f fd ["way"] (CV K):=by
 refine F.ok V8 (fun vs H Q E h=>?_) (fun cdv A outer s H vs Q E hr h=>?_)
 ·obtain ⟨p,lw,st,W,rfl,_⟩:=h
  rfl
 ·obtain ⟨p,lw,st,W,rfl,wa,wl,k⟩:=h
  refine ⟨_,(aA (bc (du (cD (aD GI hr rfl DI.mg DI.F.kp DI.b .nil aO (aa (pv 0) aj)))) (aA dJ) aM)),?_⟩
  exact ⟨_,rfl,p,lw,st,W,rfl,wa,wl,fun H' s1=>⟨_,rfl,bQ rfl (k H' s1)⟩⟩
theorem lX:∀ {zs:List Int} {fs:List jJ},Et zs fs->zs.length=fs.length:=fun h=>Paired.length h
section
variable {P:Program} {w:World} {K:PySem.W.Frag} {mg:Str->Option Value} {base:Heap}
abbrev Wd:List Str:=["self","values","at","name","low","high","value"]
theorem wF:aU Wd ["self","values"] (aC (kM 4)):=⟨rfl,rfl,rfl,by decide +kernel,rfl,by decide +kernel,by decide +kernel⟩
def CQ (C:Addr):Sp:=fun vs H Q _=>∃ (o a b:Addr) (n:Str) (fs:List jJ) (zs:List Int),vs=[.ref o,.ref b]/\iZ C H o n a fs/\H b=some (.tup (zs.map V.int))/\Et zs fs/\∀ H',aB H H'->Q .non H'
theorem Eu (F:fj K "need" "Kind.need" (kM 4) f fd) (T:Txt K mg) (hen:mg "enumerate" = none) (hzp:mg "zip" = none) (KC:KCls K mg C) :
 aQ P w K mg base bL 1 f fd ["self","values"] (CQ C):=by
 refine F.ok wF (fun vs H Q E h=>?_) (fun cdv A outer s H vs Q E hr h=>?_)
 ·obtain ⟨o,a,b,n,fs,zs,rfl,_⟩:=h
  rfl
 ·obtain ⟨o,a,b,n,fs,zs,rfl,⟨⟨dx,ho⟩,xs,ha,pf⟩,hb,fz,k⟩:=h
  refine ⟨_,(aq (dM PassesOwn.never rfl (yp rfl hen rfl hzp (aa (pG (pv 0) rfl) (aa (pv 1) aj))) (dH rfl (aY (aR (i:=2) wF.nd rfl (Or.inl rfl)) (aY (dH rfl (aY (dH rfl (aY (aR (i:=3) wF.nd rfl (Or.inl rfl)) (aY (aR (i:=4) wF.nd rfl (Or.inl rfl)) (aY (aR (i:=5) wF.nd rfl (Or.inl rfl)) cO)))) (aY (aR (i:=6) wF.nd rfl (Or.inl rfl)) cO))) cO)))
   (aA (bc (du (qP fJ fJ (pv 4) (pv 6) (pv 5))) (aA dJ) aM)))
   (aA (bc (aL lA (aG aV (by rfl) T.len bR (aa (pv 1) aj)) (aG aV (by rfl) T.len bR (aa (pG (pv 0) rfl) aj)) (aN _)) (aA dJ) aM))),?_⟩
  have pl:=Paired.length pf
  have zl':(zs.map V.int).length=zs.length:=List.length_map ..
  have fl:=lX fz
  refine ⟨_,rfl,o,C,dx,_,_,rfl,ho,KC.cl,KC.nF,kW n a,_,rfl,a,b,rfl,⟨xs,bB.of ha⟩,⟨_,bB.of hb⟩,?_⟩
  refine vI (K:=K) (a1:=a) (a2:=b) (xs:=xs) (ys:=zs.map V.int) (fun i σ' H'=>(∃ u1 u2 u3 u4 u5,σ'=[some (.ref o),some (.ref b),u1,u2,u3,u4,u5])/\aB H H') ⟨⟨none,none,none,none,none,rfl⟩,aB.refl _⟩ (fun i σ' H' _ z=>⟨bB.of (z.2 _ _ ha),bB.of (z.2 _ _ hb)⟩) ?_ ?_
  ·rintro i x y σ' H1 q p hx hy ⟨⟨u1,u2,u3,u4,u5,rfl⟩,s1⟩ hq hp
   obtain ⟨⟨m,lo,hi⟩,hfi,bb,rfl,hbb⟩:=cN pf hx
   rw [List.getElem?_map] at hy
   obtain ⟨z,hz,rfl⟩:=Option.map_eq_some_iff.mp hy
   obtain ⟨f',hf',yb⟩:=cN fz hz
   rw [hfi] at hf'
   cases hf'
   have s2:aB H1 (upd (upd H1 q (.tup [.ref bb,.int z])) p (.tup [.int i,.ref q])):=(aB.new hq).trans (aB.new hp)
   have hq2:(upd (upd H1 q (.tup [.ref bb,.int z])) p (.tup [.int i,.ref q])) q=some (.tup [.ref bb,.int z]):=(aB.new hp) _ _ ak
   refine ⟨p,_,rfl,bB.of ak,rfl,_,_,rfl,_,_,rfl,q,_,rfl,bB.of hq2,rfl,_,_,rfl,bb,_,rfl,bB.of (s2 _ _ (s1 _ _ hbb)),rfl,_,_,rfl,_,_,rfl,_,_,rfl,rfl,_,_,rfl,rfl,rfl,?_⟩
   dsimp only [bM]
   refine zE.iff (zE.not (zE.test (lB.chain (lB.var rfl) (lB.var rfl) (lB.var rfl) zH.i0 zH.i0))) ?_
   refine f9 (fun h=>?_) (fun h=>?_)
   ·exfalso
    have yb:lo≤z/\z≤hi:=yb
    simp [yb.1,yb.2] at h
   ·exact ⟨⟨_,_,_,_,_,rfl⟩,s1.trans s2⟩
  ·rintro σ' H1 ⟨⟨u1,u2,u3,u4,u5,rfl⟩,s1⟩
   refine ⟨_,rfl,b,_,rfl,.inr (bB.of (s1 _ _ hb)),_,rfl,o,C,dx,_,_,rfl,s1 _ _ ho,KC.cl,KC.nF,kW n a,a,xs,rfl,.inr (bB.of (s1 _ _ ha)),rfl,_,rfl,bQ (by simp [pl,fl]) (k _ s1)⟩
structure Mf (K:Frag) (C:Addr) (H:Hp) (p lw o a b:Addr) (st:m6) (W:List wB) (nm:Str) (fs:List jJ) (zs:List Int) (v:Bool):Prop where
 wa:lG K H p lw st W
 wl:W.length≤100
 ka:iZ C H o nm a fs
 fl:fs.length≤4
 hb:H b=some (.tup (zs.map V.int))
 ib:Et zs fs
 wk:Wk (uo nm fs zs) W st v
def MF (K:Frag) (C:Addr):Sp:=fun vs H Q _=>∃ p lw o a b st W nm fs zs v,vs=[.ref p,.ref o,.ref b]/\Mf K C H p lw o a b st W nm fs zs v/\∀ q n H',H' q=some (.tup [.bl v,.int n])->aB H H'->Q (.ref q) H'
abbrev W2:List Str:=["way","kind","values","goal","rows","many","leaf","yes","no"]
theorem pR:aU W2 ["way","kind","values"] (aC (top 46)):=⟨rfl,rfl,rfl,by decide +kernel,rfl,by decide +kernel,by decide +kernel⟩
theorem mU (h:oM st W) (hr:W[i]?=some r):xV r.1/\zB i W.length r.2.1/\zB i W.length r.2.2:=by
 rcases h with ⟨b,_,rfl⟩|⟨_,_,ok⟩
 ·simp at hr
 ·exact ⟨ok.lf r (List.mem_of_getElem? hr),ok.jp i r hr⟩
theorem QF (F:fj K "walk" "walk" (top 46) f fd) (T:Txt K mg) (KC:KCls K mg C) (DN:cH K mg "need_way" (top 40) ["way"] fN fdN) (GN:aQ P w K mg base bL 7 fN fdN ["way"] (CV K))
 (MN:MD K C "need" "Kind.need" (kM 4) ["self","values"] fM fdM) (GM:aQ P w K mg base bL 1 fM fdM ["self","values"] (CQ C)) (DP:cH K mg "passes_leaf" (top 31) ["leaf","kind","values"] fP fdP) (GP:aQ P w K mg base bL 2 fP fdP ["leaf","kind","values"] (Mt K C)):aQ P w K mg base bL 8 f fd ["way","kind","values"] (MF K C):=by
 refine F.ok pR (fun vs H Q E h=>?_) (fun cdv A outer s H vs Q E hr h=>?_)
 ·obtain ⟨p,lw,o,a,b,st,W,nm,fs,zs,v,rfl,_⟩:=h
  rfl
 ·obtain ⟨p,lw,o,a,b,st,W,nm,fs,zs,v,rfl,⟨wa,wl,ka,fl,hb,ib,wk⟩,k⟩:=h
  have hr1:bK 1 _:=hr.mono (show 1≤7 by decide)
  have hr2:bK 2 _:=hr.mono (show 2≤7 by decide)
  refine ⟨_,(aq (cZ (aD GN hr rfl DN.mg DN.F.kp DN.b .nil aO (aa (pv 0) aj)))
   (aq (cZ (uB (E:=E0) (pv 1) KC.cl MN.M GM hr1 MN.b .nil aO (aa (pv 2) aj)))
   (aq (jF (pv 0) (dH rfl (aY (aR (i:=3) pR.nd rfl (.inl rfl)) (aY (aR (i:=4) pR.nd rfl (.inl rfl)) cO))))
   (aq (bj (i:=5) pR.nd rfl (.inl rfl) au)
   (aq (yO PassesOwn.never (du (cD (aG bC (by rfl) T.isinstance aX (aa (pv 3) (aa (cP rfl T.bool gb) aj)))))
    (aq (jF (a_ cR (pv 4) (pv 3) (fun _ _=>rfl)) (dH rfl (aY (aR (i:=6) pR.nd rfl (.inl rfl)) (aY (aR (i:=7) pR.nd rfl (.inl rfl)) (aY (aR (i:=8) pR.nd rfl (.inl rfl)) cO)))))
    (aq (bj (i:=3) pR.nd rfl (.inl rfl) (gJ (cD (aD GP hr2 rfl DP.mg DP.F.kp DP.b .nil aO (aa (pv 6) (aa (pv 1) (aa (pv 2) aj))))) (pv 7) (pv 8)))
    (aA (Dv (i:=5) pR.nd rfl (.inl rfl) au Af)))))
   (aA (aH (bz (aa (pv 3) (aa (pv 5) aj)))))))))),?_⟩
  refine ⟨_,rfl,p,lw,st,W,rfl,wa,wl,fun H1 s1=>?_⟩
  have ka1:=ka.same s1
  obtain ⟨⟨dx,ho⟩,_⟩:=id ka1
  refine ⟨_,rfl,o,dx,_,rfl,ho,(uX nm a).2,_,rfl,o,a,b,nm,fs,zs,rfl,ka1,s1 _ _ hb,ib,fun H2 s2=>?_⟩
  have S2:=s1.trans s2
  obtain ⟨hp,⟨ws,hl,rs⟩,wo⟩:=wa
  refine ⟨_,rfl,p,_,rfl,bB.of (S2 _ _ hp),rfl,_,_,rfl,_,_,rfl,rfl,?_⟩
  dsimp only [bM,List.set,L2.start]
  refine yN (fun σ' H'=>∃ (j:m6) (n:Int) (u1 u2 u3:Option V),σ'=[some (.ref p),some (.ref o),some (.ref b),some (jV j),some (.ref lw),some (.int n),u1,u2,u3]/\Wk (uo nm fs zs) W j v/\aB H H') (fun σ' _=>match σ' with|[_,_,_,some (.int i),_,_,_,_,_]=>W.length-i.toNat+1|_=>0) ⟨st,0,none,none,none,rfl,wk,S2⟩ ?_ ?_
  ·rintro σ' H3 ⟨j,n,u1,u2,u3,rfl,wk3,s3⟩
   cases wk3 with
   | fin=>
     refine ⟨_,rfl,_,_,_,_,rfl,.bl v,rfl,_,rfl,bQ rfl ?_⟩
     exact ⟨_,rfl,_,rfl,(by show 2≤sizeLine;decide),fun q hq=>k q n _ ak (s3.trans (aB.new hq))⟩
   | @row i r _ hir wk4=>
     obtain ⟨lf,j1,j2⟩:=mU wo hir
     have il:=(List.getElem?_eq_some_iff.mp hir).1
     refine ⟨_,rfl,_,_,_,_,rfl,.int _,rfl,_,rfl,cC rfl ?_⟩
     obtain ⟨x,hx,rx⟩:=(rs.same s3).get (i:=i) (d:=zg r) (by rw [List.getElem?_map,hir];rfl)
     obtain ⟨c,x0,rfl,sq,r1⟩:=sI rx
     refine ⟨_,rfl,_,rfl,lw,_,_,_,rfl,rfl,bJ.of (s3 _ _ hl),aJ hx,c,_,rfl,sq,rfl,_,_,rfl,_,_,rfl,_,_,rfl,rfl,?_⟩
     dsimp only [bM,List.set]
     obtain ⟨f',r',er,lf',na⟩:=lf
     rw [er] at r1
     cases r1 with
     |@tup q us _ sq' rs'=>
     refine ⟨_,rfl,_,rfl,_,rfl,q,o,a,b,f',nm,r',fs,zs,rfl,.tup sq' rs',lf',ka.same s3,fl,s3 _ _ hb,lX ib,fun H4 s4=>?_⟩
     have ep:uo nm fs zs r.1=iG nm fs zs f' r':=by rw [er];rfl
     rw [ep] at wk4
     have s5:=s3.trans s4
     have fin:∀ j':m6,Wk (uo nm fs zs) W j' v->zB i W.length j'->(∃ (j:m6) (n':Int) (u1 u2 u3:Option V),[some (.ref p),some (.ref o),some (.ref b),some (jV j'),some (.ref lw),some (.int (n+1)),some (.ref q),some (jV r.2.1),some (jV r.2.2)]=[some (.ref p),some (.ref o),some (.ref b),some (jV j),some (.ref lw),some (.int n'),u1,u2,u3]/\Wk (uo nm fs zs) W j v/\aB H H4)/\(match [some (V.ref p),some (.ref o),some (.ref b),some (jV j'),some (.ref lw),some (.int (n+1)),some (.ref q),some (jV r.2.1),some (jV r.2.2)] with|[_,_,_,some (.int i),_,_,_,_,_]=>W.length-i.toNat+1|_=>0)<W.length-i+1:=fun j' w' jo=>by
      refine ⟨⟨j',_,_,_,_,rfl,w',s5⟩,?_⟩
      cases j' with
      |inl b'=>show 0<_;omega
      | inr m=>
        obtain ⟨h1,h2⟩:=(show i<m/\m<W.length from jo)
        show W.length-((m:Nat):Int).toNat+1<_
        omega
     cases hp':iG nm fs zs f' r' with
     | true=>
       rw [hp'] at wk4
       rw [if_pos rfl] at wk4
       exact ⟨_,rfl,cC rfl ⟨_,rfl,_,rfl,_,_,rfl,rfl,fin _ wk4 j1⟩⟩
     | false=>
       rw [hp'] at wk4
       rw [if_neg Bool.false_ne_true] at wk4
       exact ⟨_,rfl,bQ rfl ⟨_,rfl,_,rfl,_,_,rfl,rfl,fin _ wk4 j2⟩⟩
  ·rintro σ' H' Q1 Q2 hQ ⟨v',e1,x,n,d,b',e2,rd,e3,y,e4,q⟩
   exact ⟨v',e1,x,n,d,b',e2,rd,e3,y,e4,hQ _ _ q⟩
def CG (K:Frag) (C:Addr):Sp:=fun vs H Q _=>∃ p lw o a b st W nm fs zs v,vs=[.ref p,.ref o,.ref b]/\Mf K C H p lw o a b st W nm fs zs v/\∀ H',aB H H'->Q (.bl v) H'
abbrev Wh:List Str:=["way","kind","values","told","many"]
theorem J8:aU Wh ["way","kind","values"] (aC (top 45)):=⟨rfl,rfl,rfl,by decide +kernel,rfl,by decide +kernel,by decide +kernel⟩
theorem Hi (F:fj K "run" "run" (top 45) f fd) (DW:cH K mg "walk" (top 46) ["way","kind","values"] fW fdW) (GW:aQ P w K mg base bL 8 fW fdW ["way","kind","values"] (MF K C)):aQ P w K mg base bL 9 f fd ["way","kind","values"] (CG K C):=by
 refine F.ok J8 (fun vs H Q E h=>?_) (fun cdv A outer s H vs Q E hr h=>?_)
 ·obtain ⟨p,lw,o,a,b,st,W,nm,fs,zs,v,rfl,_⟩:=h
  rfl
 ·obtain ⟨p,lw,o,a,b,st,W,nm,fs,zs,v,rfl,h,k⟩:=h
  refine ⟨_,(aq (jF (aD GW hr rfl DW.mg DW.F.kp DW.b .nil aO (aa (pv 0) (aa (pv 1) (aa (pv 2) aj)))) (dH rfl (aY (aR (i:=3) J8.nd rfl (.inl rfl)) (aY (aR (i:=4) J8.nd rfl (.inl rfl)) cO))))
   (aA (aH (pv 3)))),?_⟩
  refine ⟨_,rfl,_,rfl,_,rfl,p,lw,o,a,b,st,W,nm,fs,zs,v,rfl,h,fun q n H1 hq s1=>?_⟩
  exact ⟨q,_,rfl,bB.of hq,rfl,_,_,rfl,_,_,rfl,rfl,_,rfl,k _ s1⟩
end
def isEnd:m6->Bool
 |.inl _=>true
 |.inr _=>false
def QT:Sp:=fun vs H Q _=>∃ j:m6,vs=[jV j]/\Q (.bl (isEnd j)) H
theorem TY:aU ["_law_jump"] ["_law_jump"] (aC (top 72)):=⟨rfl,rfl,rfl,by decide +kernel,rfl,by decide +kernel,by decide +kernel⟩
theorem LQ (F:fj K "_law_ended" "_law_ended" (top 72) f fd):aQ P w K mg base bL 1 f fd ["_law_jump"] QT:=by
 refine F.ok TY (fun vs H Q E h=>?_) (fun cdv A outer s H vs Q E hr h=>?_)
 ·obtain ⟨j,rfl,_⟩:=h
  rfl
 ·obtain ⟨j,rfl,k⟩:=h
  refine ⟨_,(aA (aH (Ck (bH yx (pv 0) eX (aN _)) (dw (bH yx (pv 0) eX (aN _)))))),?_⟩
  cases j with
  | inl b=>
    cases b with
    |true=>exact ⟨_,rfl,true,rfl,.inl ⟨_,rfl⟩,_,rfl,cC rfl k⟩
    |false=>exact ⟨_,rfl,true,rfl,.inl ⟨_,rfl⟩,_,rfl,bQ rfl ⟨_,rfl,false,rfl,.inl ⟨_,rfl⟩,k⟩⟩
  |inr n=>exact ⟨_,rfl,true,rfl,.inr ⟨_,rfl⟩,_,rfl,bQ rfl ⟨_,rfl,false,rfl,.inr ⟨_,rfl⟩,k⟩⟩
def QD (K:Frag):Sp:=fun vs H Q _=>∃ (p lw:Addr) (st:m6) (W:List wB),vs=[.ref p]/\lG K H p lw st W/\W.length≤100/\∀ H',aB H H'->Q (.bl true) H'
abbrev W5:List Str:=["_law_way","_law_start","_law_rows","_law_at","_law_leaf_here","_law_yes","_law_no","_law_jump"]
theorem qG:aU W5 ["_law_way"] (aC (top 73)):=⟨rfl,rfl,rfl,by decide +kernel,rfl,by decide +kernel,by decide +kernel⟩
theorem Bj (h:oM st W):cz (.list (W.map zg))≤60:=by
 have go:∀ l:List PyData,(∀ d∈l,cz d≤2)->bI l≤2:=by
  intro l
  induction l with
  |nil=>intro _;simp [bI]
  | cons d l ih=>
    intro h
    have h1:=h d (.head _)
    have h2:=ih fun e m=>h e (.tail _ m)
    simp only [bI]
    omega
 refine Nat.le_trans (show bI (W.map zg)+1≤3 from Nat.succ_le_succ (go _ fun d hd=>?_)) (by decide)
 obtain ⟨r,hr,rfl⟩:=List.mem_map.mp hd
 obtain ⟨i,hi⟩:=List.getElem?_of_mem hr
 obtain ⟨⟨f,q,e,lf,_⟩,_⟩:=mU h hi
 have:=lf.tr.dp
 rw [← e] at this
 have jd:∀ j:m6,cz (jD j)=0:=fun j=>by cases j <;> rfl
 simp only [zg,cz,bI,jd]
 omega
theorem vV (h:jU f r):dO (.tuple (.str f::r))=true:=by
 have h1:=h.tr.sh
 have e2:bF (.tuple (.str f::r))=1:=by
  show (if (arity f).isSome=true then 1+dm r else 1)=1
  rw [h.ar];rfl
 have e3:cu (.tuple (.str f::r))=1:=by
  show (if (arity f).isSome=true then 1+dU r else 1)=1
  rw [h.ar];rfl
 unfold dO
 rw [h1,e2,e3]
 rfl
theorem JD (F:fj K "_law_way_ok" "_law_way_ok" (top 73) f fd) (T:Txt K mg) (DE:cH K mg "_law_ended" (top 72) ["_law_jump"] fE fdE) (GE:aQ P w K mg base bL 1 fE fdE ["_law_jump"] QT)
 (DT:cH K mg "_law_test_ok" (top 66) ["_law_test_here"] fT fdT) (GT:aQ P w K mg base bL 12 fT fdT ["_law_test_here"] (H_ K)):aQ P w K mg base bL 13 f fd ["_law_way"] (QD K):=by
 refine F.ok qG (fun vs H Q E h=>?_) (fun cdv A outer s H vs Q E hr h=>?_)
 ·obtain ⟨p,lw,st,W,rfl,_⟩:=h
  rfl
 ·obtain ⟨p,lw,st,W,rfl,⟨hp,⟨ws,hl,rs⟩,wo⟩,wl,k⟩:=h
  have hr1:bK 1 _:=hr.mono (show 1≤12 by decide)
  refine ⟨_,(aq (jF (pv 0) (dH rfl (aY (aR (i:=1) qG.nd rfl (.inl rfl)) (aY (aR (i:=2) qG.nd rfl (.inl rfl)) cO))))
   (aq (bc (cD (aD GE hr1 rfl DE.mg DE.F.kp DE.b .nil aO (aa (pv 1) aj))) (aA (aH (bH (tH hr.units) (pv 2) (bY aj) (aN _)))) aM)
   (aq (bc (PW.pt (gM (aL lA (pv 1) au (aN _)) (fH (aL (tH hr.units) (pv 2) (bY aj) (aN _))))) (aA (aH eX)) aM)
   (aq (dM PassesOwn.never rfl (eO rfl T.range (aa (aG aV (by rfl) T.len bR (aa (pv 2) aj)) aj)) (aR (i:=3) qG.nd rfl (.inl rfl))
    (aq (jF (a_ cR (pv 2) (pv 3) (fun _ _=>rfl)) (dH rfl (aY (aR (i:=4) qG.nd rfl (.inl rfl)) (aY (aR (i:=5) qG.nd rfl (.inl rfl)) (aY (aR (i:=6) qG.nd rfl (.inl rfl)) cO)))))
    (aq (bc (PW.pt (gM (du (cD (aD GT hr rfl DT.mg DT.F.kp DT.b .nil aO (aa (pv 4) aj)))) (fH (aL dX (a_ aZ (pv 4) au (fun _ _=>rfl)) (bz (aa aF (aa aF (aa aF (aa aF aj))))) rfl)))) (aA (aH eX)) aM)
    (aA (dM PassesOwn.never rfl (iw (bz (aa (pv 5) (aa (pv 6) aj)))) (aR (i:=7) qG.nd rfl (.inl rfl)) (aA
     (bc (PW.pt (o_ (du (cD (aD GE hr1 rfl DE.mg DE.F.kp DE.b .nil aO (aa (pv 7) aj)))) (pJ (du (qP jx jx (pv 3) (pv 7) (aG aV (by rfl) T.len bR (aa (pv 2) aj))))))) (aA (aH eX)) aM)))))))
   (aA (aH eX)))))),?_⟩
  have xl:=rs.length
  rw [List.length_map] at xl
  have rl:Rep K H (.ref lw) (.list (W.map zg)):=.lst (bJ.of hl) rs
  refine ⟨_,rfl,p,_,rfl,bB.of hp,rfl,_,_,rfl,_,_,rfl,rfl,?_⟩
  refine ⟨_,rfl,st,rfl,_,rfl,?_⟩
  rcases wo with ⟨b,rfl,rfl⟩|⟨rfl,pos,wok⟩
  ·refine cC rfl ⟨_,rfl,(by show 0≤sizeLine;decide),fun q hq=>?_⟩
   exact ⟨_,.list [],rl.same (aB.new hq),.lst (bJ.of ak) .nil,by decide,k _ (aB.new hq)⟩
  refine bQ rfl ⟨_,rfl,rfl,_,rfl,bQ rfl ⟨_,rfl,(by show 0≤sizeLine;decide),fun q hq=>?_⟩⟩
  have wo:oM (.inr 0) W:=.inr ⟨rfl,pos,wok⟩
  refine ⟨_,.list [],rl.same (aB.new hq),.lst (bJ.of ak) .nil,Bj wo,_,rfl,bQ ?_ ?_⟩
  ·cases W with
   |nil=>simp at pos
   |cons r t=>rfl
  have s0:aB H (upd H q (.lst [])):=aB.new hq
  generalize upd H q (.lst [])=H0 at s0 ⊢
  dsimp only [bM,List.set,L2.start]
  have big:200000≤sizeLine:=by decide
  refine ⟨_,rfl,lw,ws,rfl,.inl (bJ.of (s0 _ _ hl)),(ws.length:Int),rfl,by omega,by omega,jj (lo:=0) (fun i σ' H'=>(∃ u3 u4 u5 u6 u7,σ'=[some (.ref p),some (jV (.inr 0)),some (.ref lw),u3,u4,u5,u6,u7])/\aB H H') ⟨⟨_,_,_,_,_,rfl⟩,s0⟩ ?_ ?_⟩
  ·rintro i σ' H1 hi ⟨⟨u3,u4,u5,u6,u7,rfl⟩,s1⟩
   have hi:i<ws.length:=by omega
   rw [Int.zero_add]
   obtain ⟨d,hd,rx⟩:=(rs.same s1).get' (List.getElem?_eq_getElem hi)
   rw [List.getElem?_map] at hd
   obtain ⟨r,hir,rfl⟩:=Option.map_eq_some_iff.mp hd
   obtain ⟨lf,j1,j2⟩:=mU wo hir
   obtain ⟨c,x0,ex,sq,r1⟩:=sI rx
   have hx:=List.getElem?_eq_getElem hi
   rw [ex] at hx
   have ltd:=lf.td
   obtain ⟨f',r',er,lf',na⟩:=lf
   rw [er] at r1 ltd
   cases r1 with
   |@tup q' us _ sq' rs'=>
   obtain ⟨y0,ys,rfl⟩:∃ y0 ys,us=y0::ys:=by cases rs';exact ⟨_,_,rfl⟩
   obtain ⟨ry0,_⟩:Rep K H1 y0 (.str f')/\bw K H1 ys r':=by cases rs' with|cons a b=>exact ⟨a,b⟩
   cases ry0
   dsimp only [bM,List.set]
   refine ⟨_,rfl,_,rfl,lw,_,_,_,rfl,rfl,bJ.of (s1 _ _ hl),aJ hx,c,_,rfl,sq,rfl,_,_,rfl,_,_,rfl,_,_,rfl,rfl,?_⟩
   dsimp only [bM,List.set]
   refine ⟨_,rfl,.ref q',_,rfl,.tup sq' rs',ltd,Nat.le_trans lf'.tr.dp (by decide),fun H2 s2=>⟨_,rfl,bQ (by rw [vV lf'];rfl) ?_⟩⟩
   refine ⟨_,rfl,q',_,_,_,rfl,rfl,s2.tup sq',aJ (j:=0) rfl,(by show 4≤sizeLine;decide),fun t ht=>?_⟩
   refine ⟨t,_,rfl,.inr (bB.of ak),rfl,rfl,_,rfl,bQ ?_ ?_⟩
   ·obtain ⟨n1,n2,n3⟩:=km lf'.ar
    show inV (.str f') [.str "all",.str "not",.str "and",.str "or"]=false
    have e0:∀ z:Str,¬ f'=z->rG (.str z) (.str f')=false:=fun z h=>by
     show (z == f')=false
     exact beq_eq_false_iff_ne.mpr fun e=>h e.symm
    unfold inV
    rw [List.any_cons,List.any_cons,List.any_cons,List.any_cons,List.any_nil,e0 _ na,e0 _ n1,e0 _ n2,e0 _ n3]
    rfl
   have s3:=(s1.trans s2).trans (aB.new (o:=.tup [.str "all",.str "not",.str "and",.str "or"]) ht)
   generalize upd H2 t (.tup [.str "all",.str "not",.str "and",.str "or"])=H3 at s3 ⊢
   refine ⟨_,rfl,_,rfl,(by show 2≤sizeLine;decide),fun t2 ht2=>?_⟩
   have s4:=s3.trans (aB.new (o:=.tup [jV r.2.1,jV r.2.2]) ht2)
   have e4:upd H3 t2 (.tup [jV r.2.1,jV r.2.2]) t2=some (.tup [jV r.2.1,jV r.2.2]):=ak
   generalize upd H3 t2 (.tup [jV r.2.1,jV r.2.2])=H4 at s4 e4 ⊢
   refine ⟨t2,rfl,⟨_,bB.of e4⟩,lN (K:=K) (a:=t2) (xs:=[jV r.2.1,jV r.2.2]) (fun m σ' H'=>(∃ u7,σ'=[some (.ref p),some (jV (.inr 0)),some (.ref lw),some (.int (i:Int)),some (.ref q'),some (jV r.2.1),some (jV r.2.2),u7])/\aB H4 H') ⟨⟨_,rfl⟩,aB.refl _⟩ (fun m σ' H' _ ⟨_,e⟩=>bB.of (e _ _ e4)) ?_ ?_⟩
   ·rintro m x σ' H5 hm ⟨⟨u7',rfl⟩,s5⟩
    obtain ⟨j,rfl,jo⟩:∃ j:m6,x=jV j/\zB i W.length j:=by
     match m,hm with
     |0,hm=>exact ⟨r.2.1,by simpa using hm.symm,j1⟩
     |1,hm=>exact ⟨r.2.2,by simpa using hm.symm,j2⟩
     |m+2,hm=>simp at hm
    dsimp only [bM,List.set]
    refine ⟨_,rfl,j,rfl,_,rfl,?_⟩
    cases j with
    |inl b=>exact bQ rfl (bQ rfl ⟨⟨_,rfl⟩,s5⟩)
    | inr n=>
      obtain ⟨h1,h2⟩:=(show i<n/\n<W.length from jo)
      refine cC rfl ?_
      refine ⟨_,rfl,_,rfl,_,_,rfl,rfl,_,rfl,cC (decide_eq_true (show (i:Int)<(n:Int) by omega)) ⟨_,rfl,lw,ws,rfl,.inl (bJ.of ((s4.trans s5) _ _ hl)),_,_,rfl,rfl,_,rfl,bQ ?_ ⟨⟨_,rfl⟩,s5⟩⟩⟩
      rw [decide_eq_true (show (n:Int)<(ws.length:Int) by omega)]
      rfl
   ·rintro σ' H5 ⟨⟨u7',rfl⟩,s5⟩
    exact ⟨⟨_,_,_,_,_,rfl⟩,s4.trans s5⟩
  ·rintro σ' H1 ⟨_,s1⟩
   exact k _ s1
theorem lR:PE X (.UnaryOp .USub (.Constant (.int 1) j p1) p2) (tC (.int (-1))):=fun Z s σ H Q I h=>iV gD au Z s σ H Q I ⟨1,rfl,h⟩
def FP:Stmt->Expr
 |.Return (some (.Compare (.Subscript (.Call _ (e::_) _ _) _ _) _ _ _)) _=>e
 |_=>.Constant .none 0 ⟨0,0,0,0⟩
def uT:Expr->Arguments
 |.Lambda p _ _ _=>p
 |_=>{ posonlyargs:=[],args:=[],vararg:=none,kwonlyargs:=[],kw_defaults:=[],kwarg:=none,defaults:=[] }
def CK:Expr->Expr
 |.Lambda _ b _ _=>b
 |e=>e
def oV:Expr->Scope
 |.Lambda _ _ s _=>s
 |_=>{ kind:=.function,names:=[],isGenerator:=false,isCoroutine:=false }
def T9:Expr->Pos
 |.Lambda _ _ _ p=>p
 |_=>⟨0,0,0,0⟩
def Wn:Stmt:=.Pass ⟨0,0,0,0⟩
def pQ:Expr:=FP ((cg (top 74)).getD 3 Wn)
abbrev NL:List Str:=["_law_bad"]
theorem _root_.L2.jL.but (h:jL H T qual u_) (D:Dr H p dc) (b:cL p H H'):jL H' T qual u_:=h.keep fun q u e ne=>b q u e (D.ne e ne)
structure Ik (K:Frag) (cT cV cS:Addr):Prop where
 nv:mroIn K cT (.ref cV)=some false
 se:mroIn K cT (.ref cS)=some true
 gt:vX K cT "word"
def Wy (b:Bool):Str:=if b=true then "" else "badtest"
def Dh (K:Frag) (qual:Str) (cl:List (Str×Addr)) (pm:Value):St->List V->Hp->VK->Prop:=fun σ vs H Q=>∃ f c' ctv x d,vs=[.ref f]/\H f=some (lamO f (kla_obj "<lambda>" qual (uT pQ) (CK pQ) (oV pQ) cl pm c' ctv))/\H c'=some (j5 c' qual)/\
 σ[14]?=some (some x)/\Rep K H x d/\TD d/\∀ H' l y,aB H H'->H' l=none->Q (.ref l) (upd H' l (.lst [.str (Wy (dO d)),y]))
theorem O8 (ecl:cl.map (·.1)=NL)
 (hcl:∀ p∈cl,X.env.cells.lookup p.1=some p.2) (hfn:∀ x,X.fn x=true) (hown:∀ x∈NL,X.env.scope.names.lookup x=some .cell) (hN:[X.N[14]?]=NL.map some) (hst:X.stack=X.env::X.outer) (hfm:X.env.frame=some X.env.locals)
 (DN:cH X.K X.mg "made" (top 41) ["test"] fN fdN) (GN:aQ X.prog X.w X.K X.mg X.base (sW X.prog X.w) 12 fN fdN ["test"] (Ib X.K cT)) (BT:Ik X.K cT cV cS)
 (I:Inv X Z σ H s) (h:Dh X.K qual cl pm σ vs H Q):yK X.prog X.w X.K X.mg X.base 13 cV cS cM s X.stack vs H Q E:=by
 obtain ⟨f,c',ctv,x,d,rfl,ho,hc,h14,rx,td,k⟩:=h
 have Cl:=Ab (scope:=oV pQ) (NL:=NL) (js:=[14]) I hcl hfn (fun p hp h=>by rw [ecl];exact (show ∀ p∈(oV pQ).names,(p.2=.cell∨p.2=.free)->p.1∈NL by decide +kernel) p hp h) (by decide +kernel) hown (by rw [← hN];rfl) hst hfm
 have ev:qp [14] σ=[some x]:=by
  unfold qp
  rw [List.map_cons,List.map_nil,h14]
  rfl
 rw [ev] at Cl
 refine ⟨f,fun v H'=>dO d=true/\aB H H',fun cls dd H'=>∃ (H1:Hp) (da:Addr),dd=some da/\aB H H1/\dO d=false/\cls=.ref cT/\pF H1 Sq da H',rfl,?_,?_,?_⟩
 ·refine vG (N:=NL) (k:=12) ho hc Cl rfl rfl rfl rfl (by decide +kernel) (fun A outer s hr=>aD GN hr rfl DN.mg DN.F.kp DN.b .nil (Pr fun _ _ _ h=>h) (aa (pv 0) aj)) ?_
  exact ⟨_,rfl,x,d,rfl,rx,td,fun h p lw st W H' _ _ _ s1=>⟨h,s1⟩,fun h H1 da H' s1 th=>⟨H1,da,rfl,s1,h,rfl,th⟩⟩
 ·rintro v H' ⟨h1,s1⟩ q hq
  have:=k H' q v s1 hq
  rw [h1] at this
  exact this
 ·rintro cls dd H' ⟨H1,da,rfl,s1,h1,rfl,d0,rfl⟩
  refine ⟨_,da,_,"badtest",rfl,rfl,ak,.inr (.inl ⟨BT.nv,BT.se,BT.gt,?_⟩),fun l hl=>?_⟩
  ·rw [List.lookup_cons,show (("word" : Str) == ("word" : Str))=true from by decide +kernel]
  ·have:=k _ l .non (fun b u e=>by rw [aK (aP (s1 _ _ e) d0)];exact s1 _ _ e) hl
   rw [h1] at this
   exact this
theorem Di.keeps (lm:Di H T lp qual c' H1) (hf:H1 f'=none):∀ b u,H b=some u->(∀ qs,u≠.tbl qs)->(upd H1 f' o) b=some u:=fun b u e ne=>by
 have e9:=lm.keep e ne
 rw [aK (aP e9 hf)];exact e9
theorem Rep.keeps (k:∀ b u,H b=some u->(∀ qs,u≠.tbl qs)->H' b=some u) (h:Rep K H v d):Rep K H' v d:=by
 refine h.map (fun a xs q=>?_) (fun a xs q=>?_)
 ·rcases q with (q|⟨o,q⟩)|q
  ·exact .inl (.inl (k _ _ q (by intro _ z;cases z)))
  ·exact .inl (.inr ⟨o,k _ _ q (by intro _ z;cases z)⟩)
  ·exact .inr q
 ·rcases q with (q|⟨o,q⟩)|q
  ·exact .inl (.inl (k _ _ q (by intro _ z;cases z)))
  ·exact .inl (.inr ⟨o,k _ _ q (by intro _ z;cases z)⟩)
  ·exact .inr q
abbrev qL:Str:="law.<locals>."++"<lambda>"
abbrev zV:List Str:=["_law_script","_law_d","_law_turn","_law_title","_law_fields","_law_names","_law_test_here","_law_way","_law_rows","_law_field","_law_sort","_law_values","_law_other","_law_due","_law_bad"]
def Td (n:Nat):List (Str×Addr):=[("_law_bad",n+1)]
abbrev u_:List Pos:=[T9 pQ]
def Wv (K:PySem.W.Frag):TG:=Ar K 2 (lD (bM 0) (lD (bM 1) Ba))
theorem eY:aU zV ["_law_script"] (aC (top 74)):=⟨rfl,rfl,rfl,by decide +kernel,rfl,by decide +kernel,by decide +kernel⟩
theorem uy {α β:Type} {R:α->β->Prop} {x:α} {y:β} (h:R x y):∀ {xs:List α} {ys:List β},Paired R xs ys->Paired R (xs++[x]) (ys++[y])
 |_,_,.nil=>.cons h .nil
 |_,_,.cons a t=>.cons a (uy h t)
theorem sU {α β:Type} {R:α->β->Prop}:∀ {xs:List α} {ys:List β},Paired R xs ys->Paired R xs.reverse ys.reverse
 |_,_,.nil=>.nil
 |_,_,.cons a t=>by rw [List.reverse_cons,List.reverse_cons];exact uy a (sU t)
theorem Gm:eF (sW P w) X (fun _ _ _=>False):=fun Z σ H s e s' I h=>by
 obtain ⟨_,_,_,_,_,_,_,_,_,_,q⟩:=h
 exact q.elim
theorem Nj (ha:H a=some (.tup xs)) (k:∀ p H',aB H H'->H' p=some (.tup (gf xs lo hi))->Q (.ref p) H'):Fz K (.ref a) lo hi H Q:=
 ⟨a,xs,rfl,bB.of ha,fun e=>k a H (aB.refl _) (by rw [e];exact ha),fun p hp=>k p _ (aB.new hp) ak⟩
theorem Gb (ha:H a=some (.tup xs)) (hb:H b=some (.tup ys)) (hl:xs.length+ys.length≤sizeLine) (k:∀ p H',aB H H'->H' p=some (.tup (xs++ys))->Q (.ref p) H'):uM K (.ref a) (.ref b) H Q:=
 ⟨a,b,xs,ys,rfl,rfl,bB.of ha,bB.of hb,hl,fun e=>k b H (aB.refl _) (by rw [e];exact hb),fun e=>k a H (aB.refl _) (by rw [e,List.append_nil];exact ha),fun p hp=>k p _ (aB.new hp) ak⟩
theorem z_:∀ {xs:List V},xs.length≤3->gf xs none (some 2)=xs.take 2/\gf xs (some 2) none=xs.drop 2
 |[],_=>⟨rfl,rfl⟩
 |[_],_=>⟨rfl,rfl⟩
 |[_,_],_=>⟨rfl,rfl⟩
 |[_,_,_],_=>⟨rfl,rfl⟩
 |_::_::_::_::_,h=>by simp at h
def FA (H:Hp) (a:Addr) (fs:List jJ):Prop:=∃ xs,H a=some (.tup xs)/\Paired (gF H) xs fs
theorem FA.tk (h:FA H a fs) (k:TK H H'):FA H' a fs:=let ⟨xs,h1,h2⟩:=h;⟨xs,k _ _ h1,dC h2 k⟩
theorem uN {α β:Type} {R:α->β->Prop}:∀ {xs:List α} {ys:List β} (n:Nat),Paired R xs ys->Paired R (xs.take n) (ys.take n)
 |_,_,0,_=>.nil
 |_,_,_+1,.nil=>.nil
 |_,_,n+1,.cons a t=>.cons a (uN n t)
def Ci (K:PySem.W.Frag) (Tt:Addr) (ps:Array Value):Sp:=fun vs H Q _=>∃ (a:Addr) (ns:List Int),vs=[.ref a]/\bJ K H a (ns.map V.int)/\ns.length≤63/\H Tt=some (.tbl ps)/\∀ H',Q (.bl true) H'
theorem HD {K:PySem.W.Frag} {mg:Str->Option Value} {base:Heap} {f c Tt fB fW fS fA fSf fTe fBt fTo fAp fLL fLp fMd fWo fR fKI C cV cS cM cT:Addr} {fdB fdW fdS fdA fdSf fdTe fdBt fdTo fdAp fdLL fdLp fdMd fdWo fdR fdKI:FuncData} {oc kV doc pm ct:Value} {od an:Option Addr} {osl:Array (Option Value)} {ps:Array Value}
 (lk:K.lookup f=some ⟨oc,od,.func (PySem.W.fnOf "law" "law" (d9 (top 74)) (cg (top 74)) (aC (top 74)) .none kV doc pm an (.ref c) ct),osl⟩) (hcd:PySem.W.codeIn K (.ref c) "law" = true)
 (HT:CodeHd base c Tt) (HB:base.BuiltinsAt mg Tt) (HG:mainGlobals≠Tt) (tri:TriplesOk ps.toList) (cn:∀ lp∈u_,codeAmong lp ps.toList=none)
 (T:Txt K mg) (KC:KCls K mg C) (BT:Ik K cT cV cS)
 (DB:cH K mg "_law_begin" (top 48) ["_law_script"] fB fdB) (DW:cH K mg "_law_word" (top 53) ["_law_d"] fW fdW) (GW:aQ P w K mg base bL 3 fW fdW ["_law_d"] oW) (DS:cH K mg "_law_same" (top 52) ["_law_found","_law_due"] fS fdS)
 (DSf:cH K mg "_law_small_fields" (top 70) ["_law_d"] fSf fdSf) (GSf:aQ P w K mg base bL 5 fSf fdSf ["_law_d"] K1)
 (DTe:cH K mg "_law_test" (top 63) ["_law_d","_law_names","_law_kinds"] fTe fdTe) (GTe:aQ P w K mg base bL 10 fTe fdTe ["_law_d","_law_names","_law_kinds"] (Ed K))
 (DBt:cH K mg "_law_bent_test" (top 67) ["_law_d","_law_test_here"] fBt fdBt) (GBt:aQ P w K mg base bL 9 fBt fdBt ["_law_d","_law_test_here"] (xH K 5))
 (DTo:cH K mg "_law_test_ok" (top 66) ["_law_test_here"] fTo fdTo) (GTo:aQ P w K mg base bL 12 fTo fdTo ["_law_test_here"] (H_ K))
 (DAp:cH K mg "_law_all_pairs" (top 71) ["_law_rows","_law_field"] fAp fdAp) (GAp:aQ P w K mg base bL 1 fAp fdAp ["_law_rows","_law_field"] (Mj K))
 (DLL:cH K mg "_law_leaves" (top 68) ["_law_test_here"] fLL fdLL) (GLL:aQ P w K mg base bL 5 fLL fdLL ["_law_test_here"] (DY K 5))
 (DLp:cH K mg "_law_passes" (top 69) Jg fLp fdLp) (GLp:aQ P w K mg base bL 5 fLp fdLp Jg (Gr K 5))
 (DMd:cH K mg "made" (top 41) ["test"] fMd fdMd) (GMd:aQ P w K mg base (sW P w) 12 fMd fdMd ["test"] (Ib K cT)) (DWo:cH K mg "_law_way_ok" (top 73) ["_law_way"] fWo fdWo) (GWo:aQ P w K mg base bL 13 fWo fdWo ["_law_way"] (QD K))
 (DR:cH K mg "run" (top 45) ["way","kind","values"] fR fdR) (GR:aQ P w K mg base bL 9 fR fdR ["way","kind","values"] (CG K C)) (MkK:Mk K C fKI) (GKI:aQ P w K mg base bL 4 fKI fdKI ["self","name","fields"] (yG C)) (bKI:Binds K fdKI ["self","name","fields"] [])
 (GA:nC P w K mg base bL 14 fA fdA ["_law_ask_here"] (yK P w K mg base 13 cV cS cM)) (hA:mg "_law_ask" = some (.ref fA)) (kA:keepIn K (.ref fA)=true) (bA:Binds K fdA ["_law_ask_here"] []) :
 aQ P w K mg base bL 15 f (PySem.W.fnOf "law" "law" (d9 (top 74)) (cg (top 74)) (aC (top 74)) .none kV doc pm an (.ref c) ct) ["_law_script"] (Ci K Tt ps):=by
 have GB:aQ P w K mg base bL 1 fB fdB ["_law_script"] (uU K):=xM DB.F T
 have GS:aQ P w K mg base bL 5 fS fdS ["_law_found","_law_due"] (spS K 5):=zY DS T 5
 refine qx lk hcd eY (fun vs H Q E h=>?_) (fun A outer s H vs Q E hr h=>?_)
 ·obtain ⟨a,ns,rfl,_⟩:=h
  rfl
 ·obtain ⟨sa,ns,rfl,hS,hlen,hTb,k⟩:=h
  have hr1:bK 1 _:=hr.mono (by decide)
  have hr3:bK 3 _:=hr.mono (by decide)
  have hr5:bK 5 _:=hr.mono (by decide)
  have hr6:bK 6 _:=hr.mono (by decide)
  have hr8:bK 8 _:=hr.mono (by decide)
  have hr9:bK 9 _:=hr.mono (by decide)
  have hr10:bK 10 _:=hr.mono (by decide)
  have hr13:bK 13 _:=hr.mono (by decide)
  have hr12:bK 12 _:=hr.mono (by decide)
  have CT:uH (iH bL P w K mg base zV "law" (aC (top 74)) f (.ref c) A outer s H E) c Tt:=⟨rfl,HT,HB,HG⟩
  have h1:∀ q∈Td s.heap.objs.size,(PyProof.Rows.envOfC "law" (aC (top 74)) s.heap.objs.size f (.ref c)).cells.lookup q.1=some q.2:=by
   intro q hq
   cases List.mem_singleton.mp hq
   rfl
  have h3:∀ x∈NL,(aC (top 74)).names.lookup x=some .cell:=by decide +kernel
  refine ⟨_,(aq (bj (i:=1) eY.nd rfl (.inl rfl) (aD GB hr1 rfl DB.mg DB.F.kp DB.b .nil aO (aa (pv 0) aj)))
   (aq (dM PassesOwn.leaving rfl (eO rfl T.range (aa au aj)) (aR (i:=2) eY.nd rfl (.inl rfl))
   (aq (bj (i:=3) eY.nd rfl (.inl rfl) (aD GW hr3 rfl DW.mg DW.F.kp DW.b .nil aO (aa (pv 1) aj)))
   (aq (bj (i:=4) eY.nd rfl (.inl rfl) (bV d_ (aD GSf hr5 rfl DSf.mg DSf.F.kp DSf.b .nil aO (aa (pv 1) aj)) cG (cF au)))
   (aq (bj (i:=5) eY.nd rfl (.inl rfl) (bh Ij (gk (g:=bM 0) (own:=["_law_field"]) (js:=[]) (N':=["_law_field"]) (bN.of (osc:=aC (top 74)) (N:=zV) rfl rfl ⟨rfl,by decide +kernel,by decide +kernel,by decide +kernel,rfl,by decide +kernel⟩) rfl (iw (pv 4)) (fun _ _ _ _ _=>(aR (i:=0) (show List.Nodup (["_law_field"]:List Str) by decide +kernel) rfl (Or.inl rfl) (Or.inr rfl))) (fun _ _ _ _ _=>dh) (fun _ _ _ _ _=>(a_ (r:=wI K) aZ (pv 0) au (fun _ _=>rfl)))) (bY (aa (aD GW hr3 rfl DW.mg DW.F.kp DW.b .nil aO (aa (pv 1) aj)) aj))))
   (aq (bj (i:=6) eY.nd rfl (.inl rfl) (aD GTe hr10 rfl DTe.mg DTe.F.kp DTe.b .nil aO (aa (pv 1) (aa (pv 5) (aa (bY (aa (pv 3) (aa (a_ (r:=wJ K) cR (pv 5) (iV gD au) (fun _ _=>rfl)) aj))) aj)))))
   (aq (bj (i:=7) eY.nd rfl (.inl rfl) (aD (E:=fun _ _ _=>False) GMd hr12 rfl DMd.mg DMd.F.kp DMd.b .nil Gm (aa (pv 6) aj)))
   (aq (bc (PW.pt (gM (du (cD (aD GWo hr13 rfl DWo.mg DWo.F.kp DWo.b .nil aO (aa (pv 7) aj)))) (gM (du (cD (aG bC (by rfl) T.isinstance aX (aa (pv 7) (aa (cP rfl T.tuple eV) aj))))) (fH (du (cD (aG bC (by rfl) T.isinstance aX (aa (a_ aZ (pv 7) au (fun _ _=>rfl)) (aa (cP rfl T.list lU) aj))))))))) (aA dJ) aM)
   (aq (bc (aL qF (aG aV (by rfl) T.len bR (aa (a_ aZ (pv 7) au (fun _ _=>rfl)) aj)) (aG aV (by rfl) T.len bR (aa (aD GLL hr5 rfl DLL.mg DLL.F.kp DLL.b .nil aO (aa (pv 6) aj)) aj)) (aN _)) (aA dJ) aM)
   (aq (bj (i:=8) eY.nd rfl (.inl rfl) (bY (aa (bz aj) aj)))
   (aq (dM PassesOwn.leaving rfl (iw (pv 4)) (aR (i:=9) eY.nd rfl (.inl rfl))
   (aA (gw (i:=8) (g:=Wv K) (own:=["_law_row","_law_number_here"]) (js:=[]) (N':=["_law_row","_law_number_here"]) (bN.of (osc:=aC (top 74)) (N:=zV) rfl rfl ⟨rfl,by decide +kernel,by decide +kernel,by decide +kernel,rfl,by decide +kernel⟩) rfl eY.nd rfl rfl (gO (aD GAp hr1 rfl DAp.mg DAp.F.kp DAp.b .nil aO (aa (pv 8) (aa (pv 9) aj)))) (fun _ _ _ _ _=>(dH rfl (aY (aR (i:=0) (show List.Nodup (["_law_row","_law_number_here"]:List Str) by decide +kernel) rfl (Or.inl rfl) (Or.inr rfl)) (aY (aR (i:=1) (show List.Nodup (["_law_row","_law_number_here"]:List Str) by decide +kernel) rfl (Or.inl rfl) (Or.inr rfl)) cO)))) (fun _ _ _ _ _=>dh) (fun _ _ _ _ _=>(bh (r:=uM K) jX (pv 0) (bz (aa (pv 1) aj)))))))
   (aq (bj (i:=10) eY.nd rfl (.inl rfl) (v5 (E:=E0) MkK GKI hr5 rfl KC.mg bKI .nil aO (aa (pv 3) (aa (pv 4) aj))))
   (aq (dM PassesOwn.leaving rfl (gO (pv 8)) (aR (i:=11) eY.nd rfl (.inl rfl))
   (aA (bc (du (cD (aD GS hr5 rfl DS.mg DS.F.kp DS.b .nil aO (aa (aD GR hr9 rfl DR.mg DR.F.kp DR.b .nil aO (aa (pv 7) (aa (pv 10) (aa (pv 11) aj)))) (aa (aD GLp hr5 rfl DLp.mg DLp.F.kp DLp.b .nil aO (aa (pv 6) (aa (pv 3) (aa (pv 4) (aa (pv 11) aj))))) aj))))) (aA dJ) aM)))
   (aq (bj (i:=12) eY.nd rfl (.inl rfl) (v5 (E:=E0) MkK GKI hr5 rfl KC.mg bKI .nil aO (aa (a_ (r:=wJ K) cR (pv 5) (iV gD au) (fun _ _=>rfl)) (aa (pH (pv 4) lR (fun _ _=>by with_unfolding_all rfl)) aj))))
   (aA (dM PassesOwn.leaving rfl (gO (bV pW (pv 8) cG (cF au))) (aR (i:=11) eY.nd rfl (.inl rfl))
   (aq (bj (i:=13) eY.nd rfl (.inl rfl) (aD GLp hr5 rfl DLp.mg DLp.F.kp DLp.b .nil aO (aa (pv 6) (aa (a_ (r:=wJ K) cR (pv 5) (iV gD au) (fun _ _=>rfl)) (aa (pH (pv 4) lR (fun _ _=>by with_unfolding_all rfl)) (aa (pH (pv 11) lR (fun _ _=>by with_unfolding_all rfl)) aj))))))
   (aA (bc (du (cD (aD GS hr5 rfl DS.mg DS.F.kp DS.b .nil aO (aa (aD GR hr9 rfl DR.mg DR.F.kp DR.b .nil aO (aa (pv 7) (aa (pv 12) (aa (pH (pv 11) lR (fun _ _=>by with_unfolding_all rfl)) aj)))) (aa (pv 13) aj))))) (aA dJ) aM))))))))))))))))))
   (aq (bj (i:=14) eY.nd rfl (.inr rfl) (aD GBt hr9 rfl DBt.mg DBt.F.kp DBt.b .nil aO (aa (pv 1) (aa (bz (aa aF (aa (bz (aa aF (aa aF aj))) aj))) aj))))
   (aA (aH (bH bu (a_ cR (yu (E:=E0) (r:=Dh K qL (Td s.heap.objs.size) ((mg "__name__").getD .none)) GA hr (by rfl) hA kA bA aO (fun Z σ H s' vs Q I h=>O8 rfl h1 (fun _=>rfl) h3 rfl rfl rfl DMd GMd BT I h) (aa (D_ CT rfl rfl) aj)) au (fun _ _=>rfl)) (gJ (cD (aD GTo hr12 rfl DTo.mg DTo.F.kp DTo.b .nil aO (aa (pv 14) aj))) aF aF) (aN _))))))),?_⟩
  refine ⟨_,rfl,sa,ns,rfl,hS,hlen,fun p dc H0 D0 s0 _=>?_⟩
  have tb0:jL H0 Tt qL u_:=⟨ps,s0 _ _ hTb,tri,fun lp m=>.inl (cn lp m)⟩
  refine ⟨2,rfl,by decide,by decide,jj (n:=2) (fun i σ H'=>(∃ u2 u3 u4 u5 u6 u7 u8 u9 u10 u11 u12 u13,σ=[some (.ref sa),some (.ref p),u2,u3,u4,u5,u6,u7,u8,u9,u10,u11,u12,u13,none])/\Dr H' p dc/\jL H' Tt qL u_) ⟨⟨none,none,none,none,none,none,none,none,none,none,none,none,rfl⟩,D0,tb0⟩ ?_ ?_⟩
  ·rintro i σ H1 hi ⟨⟨u2,u3,u4,u5,u6,u7,u8,u9,u10,u11,u12,u13,rfl⟩,D1,tb1⟩
   dsimp only [bM,List.set]
   refine ⟨_,rfl,p,dc,rfl,D1,fun nm H2 hnm D2 b2=>?_⟩
   have tb2:=tb1.but D1 b2
   dsimp only [bM,List.set]
   refine ⟨_,rfl,p,dc,rfl,D2,fun a0 xs0 fs0 H3 ha0 pf0 fl0 sm0 nd0 D3 b3=>?_⟩
   have tb3:=tb2.but D2 b3
   clear tb1 tb2 D1 D2 b2 b3
   have xl0:=Paired.length pf0
   obtain ⟨ct1,ct2⟩:=z_ (xs:=xs0) (by omega)
   refine ⟨2,rfl,Nj ha0 fun a H4 s4 ha=>?_⟩
   rw [ct1] at ha
   obtain ⟨fs,efs⟩:∃ fs,fs=fs0.take 2:=⟨_,rfl⟩
   have fa4:FA H4 a fs:=⟨_,ha,by rw [efs];exact dC (uN 2 pf0) s4.tkT⟩
   have fl:fs.length≤2:=by rw [efs,List.length_take];omega
   have sm:∀ f∈fs,Ag f:=fun f hf=>sm0 f (List.mem_of_mem_take (by rw [← efs];exact hf))
   have nd:(fs.map (·.1)).Nodup:=by rw [efs,List.map_take];exact nd0.sublist (List.take_sublist _ _)
   have D4:=D3.mono s4
   have tb4:=tb3.same s4
   clear tb3 D3 pf0 ha0 ha efs ct1 ct2 s4
   dsimp only [bM,List.set]
   refine mK (fun σ' H'=>∃ (ln:Addr) (ys:List Str),σ'=[some (.ref sa),some (.ref p),some (.int (0+(i:Int))),some (.str nm),some (.ref a),some (.ref ln),u6,u7,u8,u9,u10,u11,u12,u13,none]/\FA H' a fs/\H' ln=some (.lst (ys.map V.str))/\ys≠[]/\ys.length≤5/\(∀ y∈ys,Nm y)/\Dr H' p dc/\jL H' Tt qL u_) ?nx2 fun N hN=>?st2
   case st2=>
    obtain ⟨xs,ha,pf⟩:=id fa4
    have pl:=Paired.length pf
    refine ⟨_,rfl,a,rfl,⟨xs,bB.of ha⟩,?_⟩
    refine iI (K:=K) (a:=a) (xs:=xs) (fun i zs σ' H'=>(∃ v,σ'=[v])/\H'=H4/\zs=((fs.map (·.1)).take i).map V.str) (Nat.le_trans (show xs.length≤4 by omega) (by decide)) ⟨⟨none,rfl⟩,rfl,rfl⟩ (fun i zs σ' H' _ ⟨_,e,_⟩=>by rw [e];exact bB.of ha) ?_ ?_
    ·rintro i y zs σ' H5 hy hzs ⟨⟨v,rfl⟩,rfl,rfl⟩ N' hN
     obtain ⟨⟨fn,lo,hi⟩,hfi,b,rfl,hb⟩:=cN pf hy
     refine ⟨_,rfl,b,_,_,_,rfl,rfl,bB.of hb,aJ (j:=0) rfl,?_⟩
     exact hN _ _ _ (by rw [List.length_append,hzs];rfl) ⟨⟨_,rfl⟩,rfl,by rw [List.take_add_one,List.getElem?_map,hfi];simp⟩
    ·rintro zs σ' H5 hzs ⟨⟨v,rfl⟩,rfl,rfl⟩
     rw [List.take_of_length_le (by rw [List.length_map];omega)]
     refine ⟨Nat.le_trans (show ((fs.map (·.1)).map V.str).length≤4 by rw [List.length_map,List.length_map];omega) (by decide),fun l hl=>?_⟩
     have s1:aB H5 (upd H5 l (.lst ((fs.map (·.1)).map V.str))):=aB.new hl
     have h1':(upd H5 l (.lst ((fs.map (·.1)).map V.str))) l=some (.lst ((fs.map (·.1)).map V.str)):=ak
     generalize upd H5 l (.lst ((fs.map (·.1)).map V.str))=H6 at s1 h1' ⊢
     have D6:=D4.mono s1
     refine ⟨_,rfl,p,dc,rfl,D6,fun w1 H7 hw1 D7 b7=>⟨(show 1≤sizeLine by decide),fun l2 hl2=>?_⟩⟩
     have h4:H7 l=some (.lst ((fs.map (·.1)).map V.str)):=b7 _ _ h1' (D6.ne h1' (by intro _ z;cases z))
     refine ⟨l,l2,_,_,rfl,rfl,aB.new hl2 _ _ h4,ak,?_,fun l3 hl3=>?_⟩
     ·have big:1000≤sizeLine:=by decide
      rw [List.length_map,List.length_map,List.length_singleton]
      omega
     ·have s9:=(aB.new (o:=.lst [.str w1]) hl2).trans (aB.new (o:=.lst ((fs.map (·.1)).map V.str++[.str w1])) hl3)
      have b9:cL p H5 (upd (upd H7 l2 (.lst [.str w1])) l3 (.lst ((fs.map (·.1)).map V.str++[.str w1]))):=(s1.but.trans b7).trans s9.but
      refine hN _ _ ⟨l3,fs.map (·.1)++[w1],rfl,fa4.tk (TK.but D4 b9),?_,by simp,by rw [List.length_append,List.length_map,List.length_singleton];omega,fun y m=>?_,(D7.new hl2).new hl3,tb4.but D4 b9⟩
      ·rw [ak,List.map_append];rfl
      ·rcases List.mem_append.mp m with m|m
       ·obtain ⟨f1,m1,rfl⟩:=List.mem_map.mp m
        exact (sm f1 m1).nm
       ·rw [List.mem_singleton.mp m];exact hw1
   rintro σ' H5 ⟨ln,ys,rfl,fa5,hln5,yne,yl,ynm,D5,tb5⟩
   clear tb4 D4 fa4
   have fl4:fs.length≤4:=by omega
   have tst:∀ {H':Hp} (R:V->Hp->Prop),Dr H' p dc->H' ln=some (.lst (ys.map V.str))->(∀ x d H'',Rep K H'' x d->Tr 5 d->dO d=true->Dr H'' p dc->cL p H' H''->R x H'')->∀ (l1:Addr),H' l1=none->Ed K [.ref p,.ref ln,.ref l1] (upd H' l1 (.lst [.str nm,.str (ys.getLast yne)])) R E0:=fun R D' hn kk l1 hl1=>by
    refine ⟨p,dc,ln,l1,ys,[nm,ys.getLast yne],rfl,D'.new hl1,bJ.of (aB.new hl1 _ _ hn),bJ.of ak,yne,by simp,by omega,by simp,ynm,?_,fun x d H'' rx tx tb D'' b''=>kk x d H'' rx tx tb D'' ((cL.new hl1).trans b'')⟩
    intro y hy
    simp at hy
    rcases hy with rfl|rfl
    ·exact hnm
    ·exact ynm _ (List.getLast_mem yne)
   have lastV:pM (ys.map V.str) (-1)=some (.str (ys.getLast yne)):=by
    have hl:0<ys.length:=List.length_pos_iff.mpr yne
    unfold pM Fe
    rw [if_neg (by decide),if_pos (by rw [List.length_map];omega)]
    have e:(-1+((ys.map V.str).length:Int)).toNat=ys.length-1:=by rw [List.length_map];omega
    show (ys.map V.str)[(-1+((ys.map V.str).length:Int)).toNat]?=_
    rw [e,List.getElem?_map,List.getElem?_eq_getElem (by omega),List.getLast_eq_getElem]
    rfl
   refine ⟨_,rfl,_,rfl,_,rfl,_,rfl,_,rfl,ln,_,_,_,rfl,rfl,bJ.of hln5,lastV,(by show 2≤sizeLine;decide),fun l1 hl1=>tst _ D5 hln5 (fun x1 d1 H6 rx1 tx1 ok1 D6 b6=>?_) l1 hl1⟩
   have fa6:=fa5.tk (TK.but D5 b6)
   have hln6:H6 ln=some (.lst (ys.map V.str)):=b6 _ _ hln5 (D5.ne hln5 (by intro _ z;cases z))
   have tb6:=tb5.but D5 b6
   clear b6 tb5 fa5 D5 hln5 hl1 tst
   obtain ⟨sh1,de1,pa1⟩:=m9 ok1
   dsimp only [bM,List.set]
   refine ⟨_,rfl,x1,d1,rfl,rx1,tx1.td,fun _ pw lw st W H7 wa wle wk s7=>?_,(fun h=>by rw [ok1] at h;cases h)⟩
   have ll:=iC tx1.td sh1 de1
   have p5:(2:Nat) ^ 5=32:=by decide
   have rx1:=rx1.same s7
   have fa7:=fa6.tk s7.tkT
   have hln7:=s7 _ _ hln6
   have tb7:=tb6.same s7
   have D7:=D6.mono s7
   clear s7 tb6 fa6 D6 hln6
   dsimp only [bM,List.set]
   refine ⟨_,rfl,pw,lw,st,W,rfl,wa,by omega,fun H8 s8=>⟨_,rfl,bQ rfl ?_⟩⟩
   have wa8:=wa.same s8
   obtain ⟨hp8,⟨ws8,hl8,rs8⟩,wo⟩:=id wa8
   have wsl:=rs8.length
   rw [List.length_map] at wsl
   have rl8:Rep K H8 (.ref lw) (.list (W.map zg)):=.lst (bJ.of hl8) rs8
   refine ⟨_,rfl,_,_,_,_,rfl,.tup (bB.of hp8) (.cons (DG K H8 st) (.cons rl8 .nil)),rfl,_,rfl,bQ rfl ?_⟩
   refine ⟨_,rfl,pw,_,_,_,rfl,rfl,bB.of hp8,aJ (j:=1) rfl,_,_,_,_,rfl,rl8,rfl,_,rfl,bQ rfl ?_⟩
   refine ⟨_,rfl,pw,_,_,_,rfl,rfl,bB.of hp8,aJ (j:=1) rfl,lw,ws8,rfl,.inl (bJ.of hl8),?_⟩
   refine ⟨_,rfl,x1,d1,rfl,rx1.same s8,tx1.td,sh1,de1,by decide,fun l2 xs2 H10 s9 _ hl9 ru=>?_⟩
   have rul:=ru.length
   refine ⟨l2,xs2,rfl,.inl (bJ.of hl9),_,_,rfl,rfl,_,rfl,bQ (by rw [decide_eq_false_iff_not];omega) ?_⟩
   have S9:=s8.trans s9
   have rx1:=rx1.same S9
   have fa10:=fa7.tk S9.tkT
   have hln10:=S9 _ _ hln7
   have tb10:=tb7.same S9
   have D10:=D7.mono S9
   have wa10:=wa.same S9
   have wl100:W.length≤100:=by omega
   clear S9 s8 s9 wa wa8 hp8 hl8 rs8 rl8 ru rul hl9 fa7 hln7 tb7 D7 wo wsl
   obtain ⟨xsf,haf,pff⟩:=id fa10
   refine ⟨(by show 0≤sizeLine;decide),fun p0 hp0=>⟨(by show 1≤sizeLine;decide),fun r0 hr0=>?_⟩⟩
   have S13:=(aB.new (o:=.tup []) hp0).trans (aB.new (o:=.lst [.ref p0]) hr0)
   have e13:upd (upd H10 p0 (.tup [])) r0 (.lst [.ref p0]) r0=some (.lst [.ref p0]):=ak
   have e13':upd (upd H10 p0 (.tup [])) r0 (.lst [.ref p0]) p0=some (.tup []):=aB.new hr0 _ _ ak
   generalize upd (upd H10 p0 (.tup [])) r0 (.lst [.ref p0])=H13 at S13 e13 e13' ⊢
   dsimp only [bM,List.set]
   refine mK (fun σ' H'=>∃ (r:Addr) (ys:List V) (v9:Option V),σ'=[some (.ref sa),some (.ref p),some (.int (0+(i:Int))),some (.str nm),some (.ref a),some (.ref ln),some x1,some (.ref pw),some (.ref r),v9,u10,u11,u12,u13,none]/\aB H10 H'/\H' r=some (.lst ys)/\Paired (nA H') ys (uZ (fs.map dz))) ?nx7 fun N3 hN3=>?st7
   case st7=>
    have wl:=Paired.length pff
    refine ⟨_,rfl,a,rfl,⟨_,bB.of (S13 _ _ haf)⟩,lN (K:=K) (a:=a) (xs:=xsf) (fun j σ' H'=>∃ (r:Addr) (ys:List V) (v9:Option V),σ'=[some (.ref sa),some (.ref p),some (.int (0+(i:Int))),some (.str nm),some (.ref a),some (.ref ln),some x1,some (.ref pw),some (.ref r),v9,u10,u11,u12,u13,none]/\aB H10 H'/\H' r=some (.lst ys)/\Paired (nA H') ys (uZ ((fs.take j).map dz))) ⟨r0,_,_,rfl,S13,e13,.cons ⟨p0,rfl,e13'⟩ .nil⟩ (fun j σ H' _ ⟨_,_,_,_,e,_⟩=>bB.of (e _ _ haf)) ?_ ?_⟩
    ·rintro j y σ' H14 hj ⟨r,ys',v9',rfl,s14,hr14,py⟩
     obtain ⟨g,hg,b,rfl,hb⟩:=cN pff hj
     have mg':=List.mem_of_getElem? hg
     have jl:j<fs.length:=(List.getElem?_eq_some_iff.mp hg).1
     have fw:(uZ ((fs.take j).map dz)).length≤81:=by
      have h1:=ux (fs:=fs.take j) (fun f hf=>sm f (List.mem_of_mem_take hf)) _ (Nat.le_refl _)
      have h2:(fs.take j).length≤2:=by rw [List.length_take];omega
      exact Nat.le_trans h1 (Nat.pow_le_pow_right (by decide) h2)
     dsimp only [bM,List.set]
     refine ⟨_,rfl,_,rfl,r,.ref b,ys',uZ ((fs.take j).map dz),g,rfl,hr14,py,⟨b,rfl,s14 _ _ hb⟩,sm g mg',by omega,fun l zs H15 hl15 pz s15=>⟨l,rfl,⟨_,bJ.of hl15⟩,?_⟩⟩
     have zl:=Paired.length pz
     have zb:zs.length≤729:=by
      rw [zl,← List.length_map (f:=fun x:List Int×Int=>x.1++[x.2]),v4,uI]
      exact Nat.mul_le_mul fw (mD (sm g mg'))
     refine kJ (K:=K) (a:=l) (xs:=zs) (fun m ws σ' H'=>(∃ u v,σ'=[u,v])/\aB H15 H'/\Paired (nA H') ws (((mJ (uZ ((fs.take j).map dz)) (dz g)).take m).map fun x=>x.1++[x.2])) (Nat.le_trans zb (by decide)) ⟨⟨none,none,rfl⟩,aB.refl _,.nil⟩ (fun m ws σ H' _ z=>bJ.of (z.2.1 _ _ hl15)) ?_ ?_
     ·rintro m z ws σ' H16 hm hw ⟨⟨u,v,rfl⟩,s16,pw2⟩ M hM
      obtain ⟨x,hx,p',b',rfl,hp',hb'⟩:=cN pz hm
      have mx:=List.mem_of_getElem? hx
      have x1l:x.1.length≤10:=by
       obtain ⟨r',hr',hv⟩:=List.mem_flatMap.mp mx
       obtain ⟨v',_,rfl⟩:=List.mem_map.mp hv
       have:=Paired.length (pI.mp hr')
       rw [List.length_map,List.length_take] at this
       dsimp only
       omega
      refine ⟨p',_,rfl,bB.of (s16 _ _ hp'),rfl,_,_,rfl,_,_,rfl,rfl,?_⟩
      dsimp only [bM,List.set]
      refine ⟨_,rfl,_,rfl,(by show 1≤sizeLine;decide),fun p3 hp3=>?_⟩
      have t3:=aB.new (o:=.tup [.int x.2]) hp3
      refine Gb (t3 _ _ (s16 _ _ hb')) ak ?_ fun p4 H17 s17 hp4=>hM _ _ _ (by rw [List.length_append,hw];rfl) ⟨⟨_,_,rfl⟩,(s16.trans t3).trans s17,?_⟩
      ·rw [List.length_map]
       exact Nat.le_trans (show x.1.length+1≤11 by omega) (by decide)
      ·rw [List.take_add_one,hx,List.map_append]
       refine Paired.snoc2 ⟨p4,rfl,?_⟩ (j9 (t3.trans s17).tkT pw2)
       rw [hp4]
       simp
     ·rintro ws σ' H16 hw ⟨_,s16,pw2⟩
      rw [zl,List.take_length,v4] at pw2
      refine ⟨by rw [hw];exact Nat.le_trans zb (by decide),fun r' hr'=>?_⟩
      have s17:=aB.new (o:=.lst ws) hr'
      refine ⟨r',ws,_,rfl,((s14.trans s15).trans s16).trans s17,ak,?_⟩
      rw [List.take_add_one,hg,List.map_append]
      show Paired (nA _) ws (uZ ((fs.take j).map dz++[dz g]))
      rw [zf]
      exact j9 s17.tkT pw2
    ·rintro σ' H14 ⟨r,ys',v9',rfl,s14,hr14,py⟩
     rw [wl,List.take_length] at py
     exact hN3 _ _ ⟨r,ys',v9',rfl,s14,hr14,py⟩
   rintro σ' H14 ⟨r,yr,v9,rfl,s14,hr14,py⟩
   have yl14:=Paired.length py
   have few:(uZ (fs.map dz)).length≤81:=by
    have h1:=ux sm _ (Nat.le_refl _)
    exact Nat.le_trans h1 (Nat.pow_le_pow_right (by decide) fl)
   have rx1:=rx1.same s14
   have hln14:=s14 _ _ hln10
   have D14:=D10.mono s14
   have tb14:=tb10.same s14
   have wa14:=wa10.same s14
   have haf:=s14 _ _ haf
   have pff:=dC pff s14.tkT
   clear s14 D10 tb10 fa10 wa10 hln10 S13 e13 e13' hp0 hr0
   have fo:∀ f∈fs,qD f:=fun f hf=>(sm f hf).ok
   refine ⟨_,rfl,_,rfl,fun o dx ho hdx ndx=>?_⟩
   have s15:aB H14 (upd (upd H14 dx (.own o)) o (.ins C dx [])):=fun b u e=>by
    rw [aK (aP e ho),aK (aP e hdx)];exact e
   refine ⟨o,dx,a,nm,xsf,fs,rfl,ak,hnm,s15 _ _ haf,dC pff s15.tkT,fl4,fo,nd,fun H15 ka kp=>⟨rfl,?_⟩⟩
   have S15:aB H14 H15:=fun b u e=>kp b u (s15 _ _ e) (aP e ho)
   have rx1:=rx1.same S15
   have hln15:=S15 _ _ hln14
   have D15:=D14.mono S15
   have tb15:=tb14.same S15
   have wa15:=wa14.same S15
   have haf:=S15 _ _ haf
   have pff:=dC pff S15.tkT
   have hr15:=S15 _ _ hr14
   have py:=j9 S15.tkT py
   clear kp s15 S15 D14 tb14 wa14 hln14 hr14 ho hdx ndx
   dsimp only [bM,List.set]
   have tdx:=tx1.td
   obtain ⟨f1,r1,rfl⟩:=cA tx1.td sh1
   obtain ⟨q1,rfl⟩:∃ q1,x1=.ref q1:=by cases rx1;exact ⟨_,rfl⟩
   refine mK (fun σ' H'=>(∃ v11,σ'=[some (.ref sa),some (.ref p),some (.int (0+(i:Int))),some (.str nm),some (.ref a),some (.ref ln),some (.ref q1),some (.ref pw),some (.ref r),v9,some (.ref o),v11,u12,u13,none])/\aB H15 H') ?nx8 fun N4 hN4=>?st8
   case st8=>
    refine ⟨_,rfl,r,rfl,⟨_,bJ.of hr15⟩,j6 (K:=K) (a:=r) (xs:=yr) (fun j σ' H'=>(∃ v11,σ'=[some (.ref sa),some (.ref p),some (.int (0+(i:Int))),some (.str nm),some (.ref a),some (.ref ln),some (.ref q1),some (.ref pw),some (.ref r),v9,some (.ref o),v11,u12,u13,none])/\aB H15 H') ⟨⟨_,rfl⟩,aB.refl _⟩ (fun j σ H' _ z=>bJ.of (z.2 _ _ hr15)) ?_ ?_⟩
    ·rintro j y σ' H16 hj ⟨⟨v11,rfl⟩,s16⟩
     obtain ⟨zs,hzs,b,rfl,hb⟩:=cN py hj
     have mz:=List.mem_of_getElem? hzs
     have ib:Et zs fs:=jT.mp (pI.mp mz)
     have hb16:=s16 _ _ hb
     dsimp only [bM,List.set]
     refine ⟨_,rfl,_,rfl,_,rfl,pw,lw,o,a,b,st,W,nm,fs,zs,_,rfl,⟨wa15.same s16,wl100,ka.same s16,fl4,hb16,ib,wk nm fs zs⟩,fun H17 s17=>?_⟩
     have S17:=s16.trans s17
     refine ⟨_,rfl,_,rfl,_,rfl,_,rfl,q1,a,b,f1,nm,r1,xsf,fs,zs,rfl,⟨rx1.same S17,tdx,sh1,de1,S17 _ _ haf,dC pff S17.tkT,fl4,s17 _ _ hb16,lX ib⟩,fun H18 s18=>?_⟩
     have S18:=S17.trans s18
     exact ⟨_,_,.bool (bZ nm fs zs 5 f1 r1),rfl,.bl _,.bl _,by simp [cz],by simp [jN],fun H19 s19=>⟨true,rfl,bQ rfl ⟨⟨_,rfl⟩,S18.trans s19⟩⟩⟩
    ·rintro σ' H16 ⟨⟨v11,rfl⟩,s16⟩
     exact hN4 _ _ ⟨⟨v11,rfl⟩,s16⟩
   rintro σ' H16 ⟨⟨v11,rfl⟩,s16⟩
   have rx1:=rx1.same s16
   have hln16:=s16 _ _ hln15
   have D16:=D15.mono s16
   have tb16:=tb15.same s16
   have wa16:=wa15.same s16
   have haf:=s16 _ _ haf
   have pff:=dC pff s16.tkT
   have hr16:=s16 _ _ hr15
   have py:=j9 s16.tkT py
   clear s16 D15 tb15 wa15 hln15 hr15 ka
   have pfr:∀ {H':Hp},aB H16 H'->Paired (gF H') xsf.reverse fs.reverse:=fun s=>sU (dC pff s.tkT)
   refine ⟨_,rfl,_,rfl,ln,_,_,_,rfl,rfl,bJ.of hln16,lastV,_,rfl,a,xsf,rfl,bB.of haf,fun a2 ha2=>fun o2 dx2 ho2 hdx2 ndx2=>?_⟩
   have s17:=aB.new (o:=.tup xsf.reverse) ha2
   have e17:upd H16 a2 (.tup xsf.reverse) a2=some (.tup xsf.reverse):=ak
   generalize upd H16 a2 (.tup xsf.reverse)=H17 at s17 e17 ho2 hdx2 ⊢
   have s18:aB H17 (upd (upd H17 dx2 (.own o2)) o2 (.ins C dx2 [])):=fun b u e=>by
    rw [aK (aP e ho2),aK (aP e hdx2)];exact e
   have S18':=s17.trans s18
   have fol:∀ f∈fs.reverse,qD f:=fun f hf=>fo f (List.mem_reverse.mp hf)
   have ndr:(fs.reverse.map (·.1)).Nodup:=by rw [List.map_reverse];exact List.pairwise_reverse.mpr (List.Pairwise.imp (fun h=>Ne.symm h) nd)
   have flr:fs.reverse.length≤4:=by rw [List.length_reverse];exact fl4
   refine ⟨o2,dx2,a2,ys.getLast yne,xsf.reverse,fs.reverse,rfl,ak,ynm _ (List.getLast_mem yne),s18 _ _ e17,pfr S18',flr,fol,ndr,fun H19 ka2 kp=>⟨rfl,?_⟩⟩
   have S19:aB H16 H19:=fun b u e=>kp b u (s18 _ _ (s17 _ _ e)) (aP (s17 _ _ e) ho2)
   have rx1:=rx1.same S19
   have hln19:=S19 _ _ hln16
   have D19:=D16.mono S19
   have tb19:=tb16.same S19
   have wa19:=wa16.same S19
   have haf:=S19 _ _ haf
   have hr19:=S19 _ _ hr16
   have py:=j9 S19.tkT py
   have pfr:∀ {H':Hp},aB H19 H'->Paired (gF H') xsf.reverse fs.reverse:=fun s=>pfr (S19.trans s)
   clear kp s17 s18 S18' S19 D16 tb16 wa16 hln16 hr16 ho2 hdx2 ndx2 e17 pff
   dsimp only [bM,List.set]
   refine ⟨_,rfl,9,rfl,r,yr,rfl,bJ.of hr19,fun r2 hr2=>?_⟩
   have s20:=aB.new (o:=.lst (gf yr none (some 9))) hr2
   have e20:upd H19 r2 (.lst (gf yr none (some 9))) r2=some (.lst (gf yr none (some 9))):=ak
   generalize upd H19 r2 (.lst (gf yr none (some 9)))=H20 at s20 e20 ⊢
   refine ⟨r2,rfl,⟨_,bJ.of e20⟩,j6 (K:=K) (a:=r2) (xs:=gf yr none (some 9)) (fun j σ' H'=>(∃ v11 v13,σ'=[some (.ref sa),some (.ref p),some (.int (0+(i:Int))),some (.str nm),some (.ref a),some (.ref ln),some (.ref q1),some (.ref pw),some (.ref r),v9,some (.ref o),v11,some (.ref o2),v13,none])/\aB H20 H') ⟨⟨_,_,rfl⟩,aB.refl _⟩ (fun j σ H' _ z=>bJ.of (z.2 _ _ e20)) ?_ ?_⟩
   ·rintro j y σ' H21 hj ⟨⟨w11,w13,rfl⟩,s21⟩
    have my:y∈yr:=by
     have:=List.mem_of_getElem? hj
     unfold gf at this
     exact List.mem_of_mem_drop (List.mem_of_mem_take this)
    obtain ⟨j',hj'⟩:=List.getElem?_of_mem my
    obtain ⟨zs,hzs,b,rfl,hb⟩:=cN py hj'
    have ib:Et zs fs:=jT.mp (pI.mp (List.mem_of_getElem? hzs))
    have ibr:Et zs.reverse fs.reverse:=sU ib
    have zlr:=lX ibr
    have S21:=s20.trans s21
    dsimp only [bM,List.set]
    refine ⟨_,rfl,_,rfl,_,rfl,ln,_,_,_,rfl,rfl,bJ.of (S21 _ _ hln19),lastV,_,rfl,a,xsf,rfl,bB.of (S21 _ _ haf),fun a3 ha3=>⟨_,rfl,b,_,rfl,bB.of ((aB.new ha3) _ _ (S21 _ _ hb)),fun b3 hb3=>?_⟩⟩
    have s22:=(aB.new (o:=.tup xsf.reverse) ha3).trans (aB.new (o:=.tup (zs.map V.int).reverse) hb3)
    have e22:upd (upd H21 a3 (.tup xsf.reverse)) b3 (.tup (zs.map V.int).reverse) a3=some (.tup xsf.reverse):=(aB.new hb3) _ _ ak
    have e22':upd (upd H21 a3 (.tup xsf.reverse)) b3 (.tup (zs.map V.int).reverse) b3=some (.tup (zs.reverse.map V.int)):=by rw [ak,List.map_reverse]
    generalize upd (upd H21 a3 (.tup xsf.reverse)) b3 (.tup (zs.map V.int).reverse)=H22 at s22 e22 e22' ⊢
    have S22:=S21.trans s22
    refine ⟨q1,a3,b3,f1,ys.getLast yne,r1,xsf.reverse,fs.reverse,zs.reverse,rfl,⟨rx1.same S22,tdx,sh1,de1,e22,pfr S22,flr,e22',zlr⟩,fun H23 s23=>?_⟩
    have S23:=S22.trans s23
    dsimp only [bM,List.set]
    refine ⟨_,rfl,_,rfl,_,rfl,b,_,rfl,bB.of (S23 _ _ hb),fun b4 hb4=>?_⟩
    have s24:=aB.new (o:=.tup (zs.map V.int).reverse) hb4
    have e24:upd H23 b4 (.tup (zs.map V.int).reverse) b4=some (.tup (zs.reverse.map V.int)):=by rw [ak,List.map_reverse]
    generalize upd H23 b4 (.tup (zs.map V.int).reverse)=H24 at s24 e24 ⊢
    have S24:=S23.trans s24
    refine ⟨pw,lw,o2,a2,b4,st,W,ys.getLast yne,fs.reverse,zs.reverse,_,rfl,⟨wa19.same S24,wl100,ka2.same S24,flr,e24,ibr,wk _ fs.reverse zs.reverse⟩,fun H25 s25=>?_⟩
    exact ⟨_,rfl,_,_,.bool (bZ (ys.getLast yne) fs.reverse zs.reverse 5 f1 r1),rfl,.bl _,.bl _,by simp [cz],by simp [jN],fun H26 s26=>⟨true,rfl,bQ rfl ⟨⟨_,_,rfl⟩,s21.trans ((((s22.trans s23).trans s24).trans s25).trans s26)⟩⟩⟩
   ·rintro σ' H21 ⟨⟨w11,w13,rfl⟩,s21⟩
    exact ⟨⟨_,_,_,_,_,_,_,_,_,_,_,_,rfl⟩,D19.mono (s20.trans s21),tb19.same (s20.trans s21)⟩
  ·rintro σ H1 ⟨⟨u2,u3,u4,u5,u6,u7,u8,u9,u10,u11,u12,u13,rfl⟩,D1,tb1⟩
   refine ⟨_,rfl,(by show 2≤sizeLine;decide),fun p1 hp1=>⟨(by show 2≤sizeLine;decide),fun p2 hp2=>?_⟩⟩
   have t1:=aB.new (o:=.tup [.str "is",.str "a"]) hp1
   have t2:=aB.new (o:=.tup [.str "not",.ref p1]) hp2
   have lfa:jU "is" [.str "a"]:=.is (by decide +kernel)
   have tra:Tr 5 (.tuple [.str "not",.tuple [.str "is",.str "a"]]):=lfa.tr.one.mono (by decide)
   refine ⟨p,dc,.ref p2,_,rfl,(D1.new hp1).new hp2,.tup (bB.of ak) (.cons (.str _) (.cons (.tup (bB.of (t2 _ _ ak)) (.cons (.str _) (.cons (.str _) .nil))) .nil)),tra,by decide,fun y e H2 ry be D2 b2 _=>?_⟩
   have tb2:=(tb1.same (t1.trans t2)).but ((D1.new hp1).new hp2) b2
   dsimp only [bM,List.set]
   refine ⟨tb2.tab (List.mem_cons_self ..),fun c' H15 lm f' ctv hf'=>?_⟩
   have k15:=Di.keeps (o:=lamO f' (kla_obj "<lambda>" qL (uT pQ) (CK pQ) (oV pQ) (Td s.heap.objs.size) ((mg "__name__").getD .none) c' ctv)) lm hf'
   have ry:=Rep.keeps k15 ry
   refine ⟨f',c',ctv,y,e,rfl,ak,aB.new hf' _ _ lm.code,rfl,ry,be.td,fun H16 l y' s16 hl=>?_⟩
   refine ⟨l,_,_,_,rfl,rfl,bJ.of ak,aJ (j:=0) rfl,?_⟩
   refine ⟨_,rfl,y,e,rfl,ry.same (s16.trans (aB.new hl)),be.td,Nat.le_trans be.dp (by decide),fun H17 s17=>⟨_,rfl,?_⟩⟩
   cases dO e with
   |true=>exact cC rfl ⟨rfl,k _⟩
   |false=>exact bQ rfl ⟨rfl,k _⟩
def bx (K:Frag) (n:Str) (i:Nat) (f:Addr):Prop:=nsIn K mainGlobals n=some (some (.ref f))/\∃ fd,fj K n n (top i) f fd
def Cq (K:Frag) (C:Addr) (n q:Str) (st:Stmt) (f:Addr):Prop:=∃ fd,(findIn K (.ref C) n=some (some (.ref f))/\isFn K (.ref f)=true)/\fj K n q st f fd
theorem bx.d1 (H:bx K n i f) (X:K.In h) (G:h.Ns mainGlobals mg) (x0:Str) (b:∀ (kV doc pm:Value) (an:Option Addr) (cdv ct u0:Value),bindArgs (fnOf n n (d9 (top i)) (cg (top i)) (aC (top i)) .none kV doc pm an cdv ct) ⟨[u0],[]⟩=pure ([x0].zip [u0])):∃ fd,cH K mg n (top i) [x0] f fd:=by
 obtain ⟨a,fd,F⟩:=H
 exact ⟨fd,F,mg_of X G a,F.binds fun _ _ _ _ _ _ us hl=>by obtain ⟨_,rfl⟩:=Li hl;exact b _ _ _ _ _ _ _⟩
theorem bx.d2 (H:bx K n i f) (X:K.In h) (G:h.Ns mainGlobals mg) (x0 x1:Str) (b:∀ (kV doc pm:Value) (an:Option Addr) (cdv ct u0 u1:Value),bindArgs (fnOf n n (d9 (top i)) (cg (top i)) (aC (top i)) .none kV doc pm an cdv ct) ⟨[u0,u1],[]⟩=pure ([x0,x1].zip [u0,u1])):∃ fd,cH K mg n (top i) [x0,x1] f fd:=by
 obtain ⟨a,fd,F⟩:=H
 exact ⟨fd,F,mg_of X G a,F.binds fun _ _ _ _ _ _ us hl=>by obtain ⟨_,_,rfl⟩:=yR hl;exact b _ _ _ _ _ _ _ _⟩
theorem bx.d3 (H:bx K n i f) (X:K.In h) (G:h.Ns mainGlobals mg) (x0 x1 x2:Str) (b:∀ (kV doc pm:Value) (an:Option Addr) (cdv ct u0 u1 u2:Value),bindArgs (fnOf n n (d9 (top i)) (cg (top i)) (aC (top i)) .none kV doc pm an cdv ct) ⟨[u0,u1,u2],[]⟩=pure ([x0,x1,x2].zip [u0,u1,u2])):∃ fd,cH K mg n (top i) [x0,x1,x2] f fd:=by
 obtain ⟨a,fd,F⟩:=H
 exact ⟨fd,F,mg_of X G a,F.binds fun _ _ _ _ _ _ us hl=>by obtain ⟨_,_,_,rfl⟩:=J3 hl;exact b _ _ _ _ _ _ _ _ _⟩
theorem bx.d4 (H:bx K n i f) (X:K.In h) (G:h.Ns mainGlobals mg) (x0 x1 x2 x3:Str) (b:∀ (kV doc pm:Value) (an:Option Addr) (cdv ct u0 u1 u2 u3:Value),bindArgs (fnOf n n (d9 (top i)) (cg (top i)) (aC (top i)) .none kV doc pm an cdv ct) ⟨[u0,u1,u2,u3],[]⟩=pure ([x0,x1,x2,x3].zip [u0,u1,u2,u3])):∃ fd,cH K mg n (top i) [x0,x1,x2,x3] f fd:=by
 obtain ⟨a,fd,F⟩:=H
 exact ⟨fd,F,mg_of X G a,F.binds fun _ _ _ _ _ _ us hl=>by obtain ⟨_,_,_,_,rfl⟩:=Tp hl;exact b _ _ _ _ _ _ _ _ _ _⟩
def zq (B:String):List Value:=[.type B,.type "Exception",.type "BaseException",.type "object"]
theorem xX (self:Value):refuseLoop self "__setattr__" (zq "ValueError")=pure ():=by kernel_rfl
theorem Le (self:Value):refuseLoop self "__setattr__" (zq "LookupError")=pure ():=by kernel_rfl
def Je (K:Frag) (C:Addr) (rs:List Addr) (bm:List Value):Bool:=match clsIn K C with
 |some cd=>cd.hasDict && (cd.mro == rs.map Value.ref++bm)
 |none=>false
theorem lV (h1:i_ K C B n=true) (h2:findIn K (.ref C) "__setattr__" = some (some (.builtin "object.__setattr__"))) (h3:Je K C rs (zq B)=true) (h4:keepIn K (.ref C)=true) (h5:typeIn K (.ref C)=some (.type "type"))
 (hr:∀ self,refuseLoop self "__setattr__" (zq B)=pure ()):jq K C B n:=by
 refine ⟨h1,h2,?_,h4,h5⟩
 unfold Je at h3
 split at h3
 ·rename_i cd hc
  rw [Bool.and_eq_true,beq_iff_eq] at h3
  refine ⟨cd,rs,zq B,hc,h3.1,h3.2,by simp [zq],hr,?_⟩
  unfold zq
  simp
 ·cases h3
theorem Iz {l:PySem.W.OpenLaw} {w:World} {K:PySem.W.Frag} {h:Heap} {mg:Str->Option Value} {fa fLa Tt cc fB fP fO fW fWs fS fFr fIs fOd fNu fLe fTr fPa fDe fTe fLo fSo fTo fBt fLp fSf fAp fLL fEd fWo fA fNm fNn fNf fIw fNb fLf fCp fIt fNt fPl fMd fLt fLr fWf fIy fIr fCa fLeo fNy fWa fR tW tS qK fKI TdK d0K fPo fNe qS qV qM fSE TS qT fiT TdT:Addr} (X:K.In h) (G:h.Ns mainGlobals mg) (hfa:mg "law" = some (.ref fa))
 {odLa anLa odcc odKI anKI odTK odSE anSE odTS odiT aniT odTT:Option Addr} {slLa slcc slKI slTK slSE slTS sliT slTT:Array (Option Value)} {t_MOST_LETTERS t_MOST_FIELDS t_LIMIT t_MOST_PARTS t_MOST_DEEP t_NO t_YES t_ROW nTK nTS nTT:Nat} {ocLa kVLa dcLa pmLa ctLa w0 w1 w2 w3 w4 w5 w6 w7 w8 w9 w10 w12 w13 w14 w15 w16 w17 w18 Uw ocKI kVKI dcKI pmKI cdKI ctKI ocTK ocSE kVSE dcSE pmSE cdSE ctSE dS1 dS2 ocTS ociT kViT dciT pmiT cdiT ctiT diT ocTT:Value}
 (aLa:PySem.W.nsIn K mainGlobals "law" = some (some (.ref fLa)))
 (lLa:K.lookup fLa=some ⟨ocLa,odLa,.func (PySem.W.fnOf "law" "law" (d9 (top 74)) (cg (top 74)) (aC (top 74)) .none kVLa dcLa pmLa anLa (.ref cc) ctLa),slLa⟩)
 (lcc:K.lookup cc=some ⟨Uw,odcc,.fields #[w0,w1,w2,w3,w4,w5,w6,w7,w8,w9,w10,.ref Tt,w12,w13,w14,w15,w16,w17,w18],slcc⟩)
 (lTt:K.lookup Tt=none)
 (tb:L2.tabIn K cc=some Tt)
 (cLa:PySem.W.codeIn K (.ref cc) "law" = true)
 (hB:bx K "_law_begin" 48 fB)
 (hP:bx K "_law_pick" 49 fP)
 (hO:bx K "_law_of" 50 fO)
 (hW:bx K "_law_word" 53 fW)
 (hWs:bx K "_law_words" 54 fWs)
 (hS:bx K "_law_same" 52 fS)
 (hFr:bx K "_law_far" 51 fFr)
 (hIs:bx K "_law_is_name" 55 fIs)
 (hOd:bx K "_law_odd_name" 57 fOd)
 (hNu:bx K "_law_number" 58 fNu)
 (hLe:bx K "_law_leaf" 59 fLe)
 (hTr:bx K "_law_tree" 60 fTr)
 (hPa:bx K "_law_parts" 61 fPa)
 (hDe:bx K "_law_deep" 62 fDe)
 (hTe:bx K "_law_test" 63 fTe)
 (hLo:bx K "_law_leaf_ok" 64 fLo)
 (hSo:bx K "_law_shape_ok" 65 fSo)
 (hTo:bx K "_law_test_ok" 66 fTo)
 (hBt:bx K "_law_bent_test" 67 fBt)
 (hLp:bx K "_law_passes" 69 fLp)
 (hSf:bx K "_law_small_fields" 70 fSf)
 (hAp:bx K "_law_all_pairs" 71 fAp)
 (hLL:bx K "_law_leaves" 68 fLL)
 (hEd:bx K "_law_ended" 72 fEd)
 (hWo:bx K "_law_way_ok" 73 fWo)
 (hA:bx K "_law_ask" 56 fA)
 (hNm:bx K "is_name" 15 fNm)
 (hNn:bx K "need_name" 16 fNn)
 (hNf:bx K "need_fields" 17 fNf)
 (hIw:bx K "is_word" 25 fIw)
 (hNb:bx K "is_number" 26 fNb)
 (hLf:bx K "is_leaf" 27 fLf)
 (hCp:bx K "count_parts" 28 fCp)
 (hIt:bx K "is_test" 29 fIt)
 (hNt:bx K "need_test" 30 fNt)
 (hPl:bx K "passes_leaf" 31 fPl)
 (hMd:bx K "made" 41 fMd)
 (hLt:bx K "lay_test" 42 fLt)
 (hLr:bx K "lay_row" 43 fLr)
 (hWf:bx K "way_from" 44 fWf)
 (hIy:bx K "is_way" 36 fIy)
 (hIr:bx K "is_row" 37 fIr)
 (hCa:bx K "can_be_asked" 38 fCa)
 (hLeo:bx K "leads_on" 39 fLeo)
 (hNy:bx K "need_way" 40 fNy)
 (hWa:bx K "walk" 46 fWa)
 (hR:bx K "run" 45 fR)
 (z_len:PySem.W.nsIn K mainGlobals "len" = some none)
 (z_range:PySem.W.nsIn K mainGlobals "range" = some none)
 (z_list:PySem.W.nsIn K mainGlobals "list" = some none)
 (z_tuple:PySem.W.nsIn K mainGlobals "tuple" = some none)
 (z_str:PySem.W.nsIn K mainGlobals "str" = some none)
 (z_bool:PySem.W.nsIn K mainGlobals "bool" = some none)
 (z_int:PySem.W.nsIn K mainGlobals "int" = some none)
 (z_min:PySem.W.nsIn K mainGlobals "min" = some none)
 (z_repr:PySem.W.nsIn K mainGlobals "repr" = some none)
 (z_all:PySem.W.nsIn K mainGlobals "all" = some none)
 (z_any:PySem.W.nsIn K mainGlobals "any" = some none)
 (z_isinstance:PySem.W.nsIn K mainGlobals "isinstance" = some none)
 (z_sum:PySem.W.nsIn K mainGlobals "sum" = some none)
 (z_max:PySem.W.nsIn K mainGlobals "max" = some none)
 (z_ValueError:PySem.W.nsIn K mainGlobals "ValueError" = some none)
 (z_enumerate:PySem.W.nsIn K mainGlobals "enumerate" = some none)
 (z_zip:PySem.W.nsIn K mainGlobals "zip" = some none)
 (z_reversed:PySem.W.nsIn K mainGlobals "reversed" = some none)
 (i_MOST_LETTERS:PySem.W.nsIn K mainGlobals "MOST_LETTERS" = some (some (.int 8 t_MOST_LETTERS)))
 (i_MOST_FIELDS:PySem.W.nsIn K mainGlobals "MOST_FIELDS" = some (some (.int 4 t_MOST_FIELDS)))
 (i_LIMIT:PySem.W.nsIn K mainGlobals "LIMIT" = some (some (.int 999999 t_LIMIT)))
 (i_MOST_PARTS:PySem.W.nsIn K mainGlobals "MOST_PARTS" = some (some (.int 15 t_MOST_PARTS)))
 (i_MOST_DEEP:PySem.W.nsIn K mainGlobals "MOST_DEEP" = some (some (.int 5 t_MOST_DEEP)))
 (i_NO:PySem.W.nsIn K mainGlobals "NO" = some (some (.int 0 t_NO)))
 (i_YES:PySem.W.nsIn K mainGlobals "YES" = some (some (.int 1 t_YES)))
 (i_ROW:PySem.W.nsIn K mainGlobals "ROW" = some (some (.int 2 t_ROW)))
 (a_tW:PySem.W.nsIn K mainGlobals "WITHIN" = some (some (.ref tW)))
 (ktW:PyProof.Rows.KTD.tabLook PyProof.Rows.KTD.flatLooks (fun b=>K.lookup b) tW dW=true)
 (a_tS:PySem.W.nsIn K mainGlobals "SIGN_OF" = some (some (.ref tS)))
 (ktS:PyProof.Rows.KTD.tabLook PyProof.Rows.KTD.flatLooks (fun b=>K.lookup b) tS dS=true)
 (a_qK:PySem.W.nsIn K mainGlobals "Kind" = some (some (.ref qK)))
 (pgK:PySem.W.plainGet K qK Str.empty=true)
 (hdK:PySem.W.hasDictIn K qK=true)
 (poK:PySem.W.plainOver K qK=true)
 (saK:PySem.W.findIn K (.ref qK) "__setattr__" = some (some (.builtin "object.__setattr__")))
 (mkK:PySem.W.makesIn K qK=true)
 (kcK:PySem.W.keepIn K (.ref qK)=true)
 (nK_name:PySem.W.findIn K (.ref qK) "name" = some none)
 (nK_fields:PySem.W.findIn K (.ref qK) "fields" = some none)
 (aKI:PySem.W.findIn K (.ref qK) "__init__" = some (some (.ref fKI)))
 (lKI:K.lookup fKI=some ⟨ocKI,odKI,.func (PySem.W.fnOf "__init__" "Kind.__init__" (d9 (kM 0)) (cg (kM 0)) (aC (kM 0)) (.ref TdK) kVKI dcKI pmKI anKI cdKI ctKI),slKI⟩)
 (cKI:PySem.W.codeIn K cdKI "Kind.__init__" = true)
 (kKI:PySem.W.keepIn K (.ref fKI)=true)
 (iKI:PySem.W.isFn K (.ref fKI)=true)
 (lTK:K.lookup TdK=some ⟨ocTK,odTK,.seq #[.ref d0K] nTK,slTK⟩)
 (hPo:Cq K qK "place_of" "Kind.place_of" (kM 3) fPo)
 (hNe:Cq K qK "need" "Kind.need" (kM 4) fNe)
 (a_qS:PySem.W.nsIn K mainGlobals "ScribeError" = some (some (.ref qS)))
 (a_qV:PySem.W.nsIn K mainGlobals "BadValue" = some (some (.ref qV)))
 (a_qM:PySem.W.nsIn K mainGlobals "Missing" = some (some (.ref qM)))
 (x1S:i_ K qS "ValueError" "ValueError.__new__" = true)
 (x2S:PySem.W.findIn K (.ref qS) "__setattr__" = some (some (.builtin "object.__setattr__")))
 (x3S:Je K qS [qS] (zq "ValueError")=true)
 (x4S:PySem.W.keepIn K (.ref qS)=true)
 (x5S:PySem.W.typeIn K (.ref qS)=some (.type "type"))
 (x1V:i_ K qV "ValueError" "ValueError.__new__" = true)
 (x2V:PySem.W.findIn K (.ref qV) "__setattr__" = some (some (.builtin "object.__setattr__")))
 (x3V:Je K qV [qV,qS] (zq "ValueError")=true)
 (x4V:PySem.W.keepIn K (.ref qV)=true)
 (x5V:PySem.W.typeIn K (.ref qV)=some (.type "type"))
 (x1M:i_ K qM "LookupError" "LookupError.__new__" = true)
 (x2M:PySem.W.findIn K (.ref qM) "__setattr__" = some (some (.builtin "object.__setattr__")))
 (x3M:Je K qM [qM] (zq "LookupError")=true)
 (x4M:PySem.W.keepIn K (.ref qM)=true)
 (x5M:PySem.W.typeIn K (.ref qM)=some (.type "type"))
 (aSE:PySem.W.findIn K (.ref qS) "__init__" = some (some (.ref fSE)))
 (lSE:K.lookup fSE=some ⟨ocSE,odSE,.func (PySem.W.fnOf "__init__" "ScribeError.__init__" (d9 Fw) (cg Fw) (aC Fw) (.ref TS) kVSE dcSE pmSE anSE cdSE ctSE),slSE⟩)
 (cSE:PySem.W.codeIn K cdSE "ScribeError.__init__" = true)
 (kSE:PySem.W.keepIn K (.ref fSE)=true)
 (lTS:K.lookup TS=some ⟨ocTS,odTS,.seq #[dS1,dS2] nTS,slTS⟩)
 (fc:PySem.W.findCls K (.type "ValueError") (.type "type") "__init__" = some (.val (.builtin "ValueError.__init__")))
 (sg:PySem.W.specialIn K (.ref qS) "__getattribute__" = some (some (.builtin "type.__getattribute__")))
 (rd1:PySem.W.readsIn K qS (.type "type")=true)
 (rd2:PySem.W.findCls K (.ref qS) (.type "type") "__init__" = some (.val (.ref fSE)))
 (a_qT:PySem.W.nsIn K mainGlobals "BadTest" = some (some (.ref qT)))
 (x1T:i_ K qT "ValueError" "ValueError.__new__" = true)
 (x2T:PySem.W.findIn K (.ref qT) "__setattr__" = some (some (.builtin "object.__setattr__")))
 (x3T:Je K qT [qT,qS] (zq "ValueError")=true)
 (x4T:PySem.W.keepIn K (.ref qT)=true)
 (x5T:PySem.W.typeIn K (.ref qT)=some (.type "type"))
 (tkT:PySem.W.takerIn K qT "word" = some none)
 (aiT:PySem.W.findIn K (.ref qT) "__init__" = some (some (.ref fiT)))
 (liT:K.lookup fiT=some ⟨ociT,odiT,.func (PySem.W.fnOf "__init__" "BadTest.__init__" (d9 gZ) (cg gZ) (aC gZ) (.ref TdT) kViT dciT pmiT aniT cdiT ctiT),sliT⟩)
 (ciT:PySem.W.codeIn K cdiT "BadTest.__init__" = true)
 (kiT:PySem.W.keepIn K (.ref fiT)=true)
 (biT:PySem.W.findIn K (.ref qT) "__init__" = some (some (.ref fiT)))
 (niT:PySem.W.isFn K (.ref fiT)=true)
 (lTT:K.lookup TdT=some ⟨ocTT,odTT,.seq #[diT] nTT,slTT⟩)
 (mvT:PySem.W.mroIn K qT (.ref qV)=some false)
 (msT:PySem.W.mroIn K qT (.ref qS)=some true)
 (g1T:PySem.W.findIn K (.ref qT) "__getattribute__" = some (some (.builtin "BaseException.__getattribute__")))
 (g2T:PySem.W.findIn K (.ref qT) "__getattr__" = some none)
 (g3T:PySem.W.hasDictIn K qT=true)
 (g4T:PySem.W.findIn K (.ref qT) "word" = some none)
 (g5T:PySem.W.mroIn K qT (.type "BaseException")=some true) :
 ∃ (fd:FuncData) (sp:Sp),(∀ (s:Shared) (u:Value),BindsTo s fd ⟨[u],[]⟩ [("_law_script",u)])/\(∀ T∈[Tt],K.lookup T=none/\∃ c,L2.tabIn K c=some T)/\
  (∀ (H:Hp) (a:Addr) (ns:List Int),ns.length≤63->(∀ T∈[Tt],H T=some (.tbl #[]))->bJ K H a (ns.map V.int)->sp [.ref a] H (fun v _=>v=.bl true) fun _ _ _=>False)/\
  ∀ base:Heap,K.In base->base.Ns mainGlobals mg->(∀ T∈[Tt],base.BuiltinsAt mg T/\mainGlobals≠T)->aQ l.prog w K mg base bL 15 fa fd ["_law_script"] sp:=by
 have e:=hfa.symm.trans (PySem.W.mg_of X G aLa)
 cases e
 have T:Txt K mg:=⟨PySem.W.mg_none_of X G z_len,PySem.W.mg_none_of X G z_range,PySem.W.mg_none_of X G z_list,PySem.W.mg_none_of X G z_tuple,PySem.W.mg_none_of X G z_str,PySem.W.mg_none_of X G z_bool,PySem.W.mg_none_of X G z_int,PySem.W.mg_none_of X G z_min,PySem.W.mg_none_of X G z_repr,PySem.W.mg_none_of X G z_all,PySem.W.mg_none_of X G z_any,PySem.W.mg_none_of X G z_isinstance⟩
 have TE:J9 K mg:=⟨PySem.W.mg_none_of X G z_ValueError,fc⟩
 obtain ⟨_,DB⟩:=hB.d1 (mg:=mg) X G "_law_script" fun _ _ _ _ _ _ _=>rfl
 obtain ⟨_,DP⟩:=hP.d2 (mg:=mg) X G "_law_d" "_law_many" fun _ _ _ _ _ _ _ _=>rfl
 obtain ⟨_,DO⟩:=hO.d2 (mg:=mg) X G "_law_d" "_law_things" fun _ _ _ _ _ _ _ _=>rfl
 obtain ⟨_,DW⟩:=hW.d1 (mg:=mg) X G "_law_d" fun _ _ _ _ _ _ _=>rfl
 obtain ⟨_,DWs⟩:=hWs.d2 (mg:=mg) X G "_law_d" "_law_many" fun _ _ _ _ _ _ _ _=>rfl
 obtain ⟨_,DS⟩:=hS.d2 (mg:=mg) X G "_law_found" "_law_due" fun _ _ _ _ _ _ _ _=>rfl
 obtain ⟨_,DFr⟩:=hFr.d1 (mg:=mg) X G "_law_d" fun _ _ _ _ _ _ _=>rfl
 obtain ⟨_,DIs⟩:=hIs.d1 (mg:=mg) X G "_law_text" fun _ _ _ _ _ _ _=>rfl
 obtain ⟨_,DOd⟩:=hOd.d2 (mg:=mg) X G "_law_d" "_law_text" fun _ _ _ _ _ _ _ _=>rfl
 obtain ⟨_,DNu⟩:=hNu.d1 (mg:=mg) X G "_law_d" fun _ _ _ _ _ _ _=>rfl
 obtain ⟨_,DLe⟩:=hLe.d3 (mg:=mg) X G "_law_d" "_law_names" "_law_kinds" fun _ _ _ _ _ _ _ _ _=>rfl
 obtain ⟨_,DTr⟩:=hTr.d4 (mg:=mg) X G "_law_d" "_law_deep_here" "_law_names" "_law_kinds" fun _ _ _ _ _ _ _ _ _ _=>rfl
 obtain ⟨_,DPa⟩:=hPa.d1 (mg:=mg) X G "_law_test_here" fun _ _ _ _ _ _ _=>rfl
 obtain ⟨_,DDe⟩:=hDe.d1 (mg:=mg) X G "_law_test_here" fun _ _ _ _ _ _ _=>rfl
 obtain ⟨_,DTe⟩:=hTe.d3 (mg:=mg) X G "_law_d" "_law_names" "_law_kinds" fun _ _ _ _ _ _ _ _ _=>rfl
 obtain ⟨_,DLo⟩:=hLo.d1 (mg:=mg) X G "_law_test_here" fun _ _ _ _ _ _ _=>rfl
 obtain ⟨_,DSo⟩:=hSo.d1 (mg:=mg) X G "_law_test_here" fun _ _ _ _ _ _ _=>rfl
 obtain ⟨_,DTo⟩:=hTo.d1 (mg:=mg) X G "_law_test_here" fun _ _ _ _ _ _ _=>rfl
 obtain ⟨_,DBt⟩:=hBt.d2 (mg:=mg) X G "_law_d" "_law_test_here" fun _ _ _ _ _ _ _ _=>rfl
 obtain ⟨_,DLp⟩:=hLp.d4 (mg:=mg) X G "_law_test_here" "_law_title" "_law_fields" "_law_values" fun _ _ _ _ _ _ _ _ _ _=>rfl
 obtain ⟨_,DSf⟩:=hSf.d1 (mg:=mg) X G "_law_d" fun _ _ _ _ _ _ _=>rfl
 obtain ⟨_,DAp⟩:=hAp.d2 (mg:=mg) X G "_law_rows" "_law_field" fun _ _ _ _ _ _ _ _=>rfl
 obtain ⟨_,DLL⟩:=hLL.d1 (mg:=mg) X G "_law_test_here" fun _ _ _ _ _ _ _=>rfl
 obtain ⟨_,DEd⟩:=hEd.d1 (mg:=mg) X G "_law_jump" fun _ _ _ _ _ _ _=>rfl
 obtain ⟨_,DWo⟩:=hWo.d1 (mg:=mg) X G "_law_way" fun _ _ _ _ _ _ _=>rfl
 obtain ⟨_,DA⟩:=hA.d1 (mg:=mg) X G "_law_ask_here" fun _ _ _ _ _ _ _=>rfl
 obtain ⟨_,DNm⟩:=hNm.d1 (mg:=mg) X G "text" fun _ _ _ _ _ _ _=>rfl
 obtain ⟨_,DNn⟩:=hNn.d1 (mg:=mg) X G "text" fun _ _ _ _ _ _ _=>rfl
 obtain ⟨_,DNf⟩:=hNf.d1 (mg:=mg) X G "fields" fun _ _ _ _ _ _ _=>rfl
 obtain ⟨_,DIw⟩:=hIw.d1 (mg:=mg) X G "thing" fun _ _ _ _ _ _ _=>rfl
 obtain ⟨_,DNb⟩:=hNb.d1 (mg:=mg) X G "thing" fun _ _ _ _ _ _ _=>rfl
 obtain ⟨_,DLf⟩:=hLf.d1 (mg:=mg) X G "test" fun _ _ _ _ _ _ _=>rfl
 obtain ⟨_,DCp⟩:=hCp.d2 (mg:=mg) X G "thing" "deep" fun _ _ _ _ _ _ _ _=>rfl
 obtain ⟨_,DIt⟩:=hIt.d1 (mg:=mg) X G "test" fun _ _ _ _ _ _ _=>rfl
 obtain ⟨_,DNt⟩:=hNt.d1 (mg:=mg) X G "test" fun _ _ _ _ _ _ _=>rfl
 obtain ⟨_,DPl⟩:=hPl.d3 (mg:=mg) X G "leaf" "kind" "values" fun _ _ _ _ _ _ _ _ _=>rfl
 obtain ⟨_,DMd⟩:=hMd.d1 (mg:=mg) X G "test" fun _ _ _ _ _ _ _=>rfl
 obtain ⟨_,DLt⟩:=hLt.d4 (mg:=mg) X G "test" "yes" "no" "laid" fun _ _ _ _ _ _ _ _ _ _=>rfl
 obtain ⟨_,DLr⟩:=hLr.d4 (mg:=mg) X G "leaf" "yes" "no" "laid" fun _ _ _ _ _ _ _ _ _ _=>rfl
 obtain ⟨_,DWf⟩:=hWf.d2 (mg:=mg) X G "goal" "laid" fun _ _ _ _ _ _ _ _=>rfl
 obtain ⟨_,DIy⟩:=hIy.d1 (mg:=mg) X G "way" fun _ _ _ _ _ _ _=>rfl
 obtain ⟨_,DIr⟩:=hIr.d3 (mg:=mg) X G "row" "at" "many" fun _ _ _ _ _ _ _ _ _=>rfl
 obtain ⟨_,DCa⟩:=hCa.d1 (mg:=mg) X G "leaf" fun _ _ _ _ _ _ _=>rfl
 obtain ⟨_,DLeo⟩:=hLeo.d3 (mg:=mg) X G "goal" "at" "many" fun _ _ _ _ _ _ _ _ _=>rfl
 obtain ⟨_,DNy⟩:=hNy.d1 (mg:=mg) X G "way" fun _ _ _ _ _ _ _=>rfl
 obtain ⟨_,DWa⟩:=hWa.d3 (mg:=mg) X G "way" "kind" "values" fun _ _ _ _ _ _ _ _ _=>rfl
 obtain ⟨_,DR⟩:=hR.d3 (mg:=mg) X G "way" "kind" "values" fun _ _ _ _ _ _ _ _ _=>rfl
 have FSE:kh K "__init__" "ScribeError.__init__" Fw (.ref TS) fSE _:=⟨⟨_,_,_,_,_,_,_,_,_,rfl,lSE,cSE⟩,kSE⟩
 have bSE:=FSE.binds (ps:=["self","words","word"]) (ds:=[]) lTS rfl fun kV doc pm an cdv ct s us hT hl=>(by rw [List.append_nil] at hl ⊢;obtain ⟨_,_,_,rfl⟩:=J3 hl;exact BindsTo.of_defaults rfl hT rfl rfl rfl)
 have MS:Ku K mg "ScribeError" qS fSE:=⟨PySem.W.mg_of X G a_qS,sg,⟨_,rd1,rd2⟩,kSE⟩
 have FiT:kh K "__init__" "BadTest.__init__" gZ (.ref TdT) fiT _:=⟨⟨_,_,_,_,_,_,_,_,_,rfl,liT,ciT⟩,kiT⟩
 have bbT:=FiT.binds (ps:=["self","words"]) (ds:=[]) lTT rfl fun kV doc pm an cdv ct s us hT hl=>(by rw [List.append_nil] at hl ⊢;obtain ⟨_,_,rfl⟩:=yR hl;exact BindsTo.of_defaults rfl hT rfl rfl rfl)
 have ECT:BR K qT:=⟨lV x1T x2T x3T x4T x5T xX,tkT⟩
 have WCT:Lk K mg "BadTest" qT fiT _:=⟨bbT,PySem.W.mg_of X G a_qT,ECT,biT,niT⟩
 have TA:O_ K mg qV qS qM:=⟨PySem.W.mg_none_of X G z_str,PySem.W.mg_of X G a_qV,PySem.W.mg_of X G a_qS,PySem.W.mg_of X G a_qM,⟨_,_,lV x1V x2V x3V x4V x5V xX⟩,⟨_,_,lV x1S x2S x3S x4S x5S xX⟩,⟨_,_,lV x1M x2M x3M x4M x5M Le⟩⟩
 have FKI:kh K "__init__" "Kind.__init__" (kM 0) (.ref TdK) fKI _:=⟨⟨_,_,_,_,_,_,_,_,_,rfl,lKI,cKI⟩,kKI⟩
 have bKI:=FKI.binds (ps:=["self","name","fields"]) (ds:=[]) lTK rfl fun kV doc pm an cdv ct s us hT hl=>xu rfl kV doc pm an cdv ct s us hT hl
 have MkK:Mk K qK fKI:=⟨mkK,aKI,iKI,kcK⟩
 obtain ⟨fdPo,aPo,FPo⟩:=hPo
 have bPo:=FPo.binds (ps:=["self","field"]) fun _ _ _ _ _ _ us hl=>by obtain ⟨_,_,rfl⟩:=yR hl;rfl
 have MPo:MD K qK "place_of" "Kind.place_of" (kM 3) ["self","field"] fPo _:=⟨⟨aPo.1,aPo.2,FPo.kp⟩,FPo,bPo⟩
 obtain ⟨fdNe,aNe,FNe⟩:=hNe
 have bNe:=FNe.binds (ps:=["self","values"]) fun _ _ _ _ _ _ us hl=>by obtain ⟨_,_,rfl⟩:=yR hl;rfl
 have MNe:MD K qK "need" "Kind.need" (kM 4) ["self","values"] fNe _:=⟨⟨aNe.1,aNe.2,FNe.kp⟩,FNe,bNe⟩
 refine ⟨PySem.W.fnOf "law" "law" (d9 (top 74)) (cg (top 74)) (aC (top 74)) .none kVLa dcLa pmLa anLa (.ref cc) ctLa,Ci K Tt #[],fun s v=>.of_eq rfl,fun T m=>by cases List.mem_singleton.mp m;exact ⟨lTt,cc,tb⟩,fun H a ns hl hT hS=>⟨a,ns,rfl,hS,hl,hT _ (List.mem_singleton.mpr rfl),fun _=>rfl⟩,fun base kb0' nsb hbt=>?_⟩
 obtain ⟨hbb,hg⟩:=hbt Tt (List.mem_singleton.mpr rfl)
 have TK':ph mg:=⟨⟨_,PySem.W.mg_of X G i_MOST_LETTERS⟩,⟨_,PySem.W.mg_of X G i_MOST_FIELDS⟩,⟨_,PySem.W.mg_of X G i_LIMIT⟩⟩
 have TT:Jj mg:=⟨⟨_,PySem.W.mg_of X G i_MOST_PARTS⟩,⟨_,PySem.W.mg_of X G i_MOST_DEEP⟩⟩
 have TB:Gg K mg tW tS:=⟨PySem.W.mg_of X G a_tW,PySem.W.mg_of X G a_tS,ktW,ktS⟩
 have hsum:=PySem.W.mg_none_of X G z_sum
 have hmax:=PySem.W.mg_none_of X G z_max
 have hen:=PySem.W.mg_none_of X G z_enumerate
 have hzp:=PySem.W.mg_none_of X G z_zip
 have hrv:=PySem.W.mg_none_of X G z_reversed
 have TW:Av mg:=⟨⟨_,PySem.W.mg_of X G i_NO⟩,⟨_,PySem.W.mg_of X G i_YES⟩,⟨_,PySem.W.mg_of X G i_ROW⟩⟩
 have KC:KCls K mg qK:=⟨⟨pgK,hdK,poK,saK⟩,nK_name,nK_fields,PySem.W.mg_of X G a_qK⟩
 have BT:Ik K qT qV qS:=⟨mvT,msT,g1T,g2T,g3T,g4T,g5T⟩
 have GCp:=Nq (P:=l.prog) (w:=w) (base:=base) DCp T hsum TK' TB DNm DIw DNb DLf 5 (by decide)
 have GIt:=KY (P:=l.prog) (w:=w) (base:=base) DIt.F TT DCp GCp
 have GBT:=tU (P:=l.prog) (w:=w) (base:=base) (CX:=bL) FiT TE FSE bSE MS
 have GNt:=Kq (P:=l.prog) (w:=w) (base:=base) DNt.F DIt GIt WCT GBT
 have GPo:=zj (P:=l.prog) (w:=w) (base:=base) FPo T hen KC
 have GPl:=Ju (P:=l.prog) (w:=w) (base:=base) DPl.F KC MPo GPo
 have GLf:=Cz (P:=l.prog) (w:=w) (base:=base) DLf.F T TK' TB DNm DIw DNb
 have GLt:=Mr (P:=l.prog) (w:=w) (base:=base) DLt DLr (Ms DLr.F TW) 5
 have GMd:=Lg (P:=l.prog) (w:=w) (base:=base) DMd.F TW DNt GNt DLt GLt DWf (Nr DWf.F T TW hrv hen)
 have GIr:=Lj (P:=l.prog) (w:=w) (base:=base) DIr.F DCa (Mv DCa.F T DLf GLf) DLeo (Gi DLeo.F T)
 have GNy:=G6 (P:=l.prog) (w:=w) (base:=base) DNy.F DIy (Fb DIy.F T hen DIr GIr)
 have GNe:=Eu (P:=l.prog) (w:=w) (base:=base) FNe T hen hzp KC
 have GWa:=QF (P:=l.prog) (w:=w) (base:=base) DWa.F T KC DNy GNy MNe GNe DPl GPl
 have GR:=Hi (P:=l.prog) (w:=w) (base:=base) DR.F DWa GWa
 have GW:=pD (P:=l.prog) (w:=w) (base:=base) DW.F T DP DO
 have GTe:=Jy (P:=l.prog) (w:=w) (base:=base) DTe.F T hsum DP DO DNu DLe DTr DPa
 have GBt:=Q7 (P:=l.prog) (w:=w) (base:=base) DBt T DP DO DW DFr DOd 5
 have GSo:=Qp (P:=l.prog) (w:=w) (base:=base) DSo T DIs DLo 8
 have GTo:=N_ (P:=l.prog) (w:=w) (base:=base) DTo.F DSo GSo DDe (KN DDe hmax 8) DPa (Df DPa hsum 8)
 have GKI:=zJ (P:=l.prog) (w:=w) (base:=base) FKI T TK' KC DNm DNn DNf
 have GA:=Il (P:=l.prog) (w:=w) (base:=base) (CX:=bL) (k:=13) DA.F TA
 exact HD lLa cLa (Ca kb0' tb) hbb hg trivial (fun lp m=>rfl) T KC BT DB DW GW DS DSf (K7 DSf.F T DP DO DW DWs) DTe GTe DBt GBt DTo GTo DAp (Qc DAp.F T) DLL (Lh DLL 5) DLp (N5 DLp T 5) DMd GMd DWo (JD DWo.F T DEd (LQ DEd.F) DTo GTo) DR GR MkK GKI bKI GA DA.mg DA.F.kp DA.b
end Cm
open PySem PySem.W PyProof.Rows
set_option maxRecDepth 100000 in
set_option maxHeartbeats 0 in
theorem PySem.Challenge.cw_lanescribe_k10_whole_ways_tell_what_test_holds : PySem.Challenge.rw_lanescribe_k10_whole_ways_tell_what_test.Holds := by
 w_on
 refine Kd.head ?hw (by rfl) (by rfl) (by rfl) ?hc
 (case hw=>w_witness2)
 k_fill
 refine L2.yQ (l:=PySem.Challenge.rw_lanescribe_k10_whole_ways_tell_what_test) (n:=63) (k:=15) (x:="_law_script") (CX:=fun _=>L2.bL) rfl (by decide) rfl ⟨rfl,by decide,by decide,rfl⟩ (fun w h Y=>km_in_of Y) (fun w h Y=>km_tabs_of Y) ?F (fun _ _ _ _ _ z=>z)
 case F=>
  intro w mg fa h KX G hmg
  refine' Cm.Iz KX G hmg ?_ ?_ ?_ ?_ ?_ ?_ ?_ ?_ ?_ ?_ ?_ ?_ ?_ ?_ ?_ ?_ ?_ ?_ ?_ ?_ ?_ ?_ ?_ ?_ ?_ ?_ ?_ ?_ ?_ ?_ ?_ ?_ ?_ ?_ ?_ ?_ ?_ ?_ ?_ ?_ ?_ ?_ ?_ ?_ ?_ ?_ ?_ ?_ ?_ ?_ ?_ ?_ ?_ ?_ ?_ ?_ ?_ ?_ ?_ ?_ ?_ ?_ ?_ ?_ ?_ ?_ ?_ ?_ ?_ ?_ ?_ ?_ ?_ ?_ ?_ ?_ ?_ ?_ ?_ ?_ ?_ ?_ ?_ ?_ ?_ ?_ ?_ ?_ ?_ ?_ ?_ ?_ ?_ ?_ ?_ ?_ ?_ ?_ ?_ ?_ ?_ ?_ ?_ ?_ ?_ ?_ ?_ ?_ ?_ ?_ ?_ ?_ ?_ ?_ ?_ ?_ ?_ ?_ ?_ ?_ ?_ ?_ ?_ ?_ ?_ ?_ ?_ ?_ ?_ ?_ ?_ ?_ ?_ ?_ ?_ ?_ ?_ ?_ ?_ ?_ ?_ ?_ ?_ ?_ ?_ ?_ ?_ ?_
  any_goals first|k_is|exact ⟨by k_is,_,⟨_,_,_,_,_,_,_,_,_,rfl,by k_is,by k_is⟩,by k_is⟩|exact ⟨_,⟨by k_is,by k_is⟩,⟨_,_,_,_,_,_,_,_,_,rfl,by k_is,by k_is⟩,by k_is⟩|skip
  any_goals first|kernel_rfl|decide|(intros;kernel_rfl)|skip
