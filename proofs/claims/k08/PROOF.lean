import PyProof.Rows.All
import Wide.All
import OpenK.AllK
import Wide.FinOn
import KE.KNestM
import Lean
import PyProof.EqAt
import PyProof.EqKinds
import PyProof.TupleCall
import PyProof.StationsW
import PyProof.ExcBaseAll.ValueError
import PyProof.InstStoreFacts
import PyProof.RulesAs
import PyProof.RulesDel
import KE.KLam
import PyProof.ExcArgsOwn
import PyProof.AutoListH
import PyProof.StrWalks
import PyProof.StrBlockH
import PyProof.WalkInts
import PyProof.SeqI3
import PyProof.Rows.SetFrom
import PyProof.ZipIter
import KE.KTabLook
import PyProof.StrLaws
import KE.KIntText
import KE.KStrOpen
import PyProof.StrLawsTight
import PyProof.Rows.StrFit
import PyProof.Draws
import PyProof.EnumMake
import PyProof.StrCalls2
import PyProof.Rows.StrSplitJoin
import PyProof.CollectIter
import PyProof.StrBlock2
import PyProof.Rows.SortWalk
import PyProof.Rows.CallKwBuiltin
import KE.KMinBuiltin
import KE.KRevSl
import PyProof.DictItemsLoops
import PyProof.CollectWalk
import PyProof.ListRange
import KE.KSortAsk
import PyProof.SetRoads
import PySem.Challenge.RW_lanescribe_k08_whole_great_fields_parted
set_option Elab.async false
set_option linter.all false
set_option maxRecDepth 1000000
set_option maxHeartbeats 0
namespace Kd
open PySem PySem.W
noncomputable section
theorem vy {p q:Program} {loose:List Str} {Xt:Shared->Bool} {α:Type} {Yf:Shared->α} {Ya:World->α} {N:Nat} (e:opening p=plainProg p.main.scope.names) (hN:Nat.ble 600 N=true) (f:∀ s,fenceModules? p s=some s)
 (h:∀ (w:World) (os:OsState),(topFrom treeTable p w N ⟨boot_heap w.params,Array.mk [],boot_drawn,boot_toks,os⟩).map (fun s=>(openSeen q loose (importedModules p.main.body) Xt true s,Yf s))=some (openGood q loose,Ya w)):LeftO p q loose Xt Yf Ya N:=fun w=>by
 obtain ⟨⟨h',gs,d,k,os⟩,e1,e2⟩:=Option.map_eq_some_iff.mp (boot_open e hN f w)
 obtain ⟨rfl,rfl,rfl,rfl⟩:h'=boot_heap w.params/\gs=Array.mk []/\d=boot_drawn/\k=boot_toks:=by simpa using e2
 unfold openEnds
 rw [e1]
 exact h w os
abbrev u (x:String):Str:=Str.ofString x
abbrev vs (x:String) (t:Nat):Value:=.str (Str.ofString x) t
abbrev vi (x:Int) (t:Nat):Value:=.int x t
abbrev vr (x:Nat):Value:=.ref x
abbrev vt (x:String):Value:=.type x
abbrev vn:Value:=.none
abbrev vb:Value:=.bool true
abbrev vf (t:Nat):Value:=.str (Str.ofString "/claim/cut.py") t
abbrev ot (x:Array Value):Obj:={ cls:=.type "tuple",data:=Data.seq x }
abbrev oc (x:Array Value):Obj:={ cls:=.type "code",data:=Data.fields x }
abbrev of (n q:String) (a:Arguments) (b:List Stmt) (s:Scope) (d m c:Value):Obj:={ cls:=.type "function",data:=Data.func { name:=Str.ofString n,qualname:=Str.ofString q,params:=a,body:=FuncBody.stmts b,scope:=s,globals:=3,closure:=[],defaults:=d,kwdefaults:=.none,pyModule:=m,code:=c } }
abbrev de (P:Params) (x:String) (t:Nat) (v:Value):DictEntry:={ hash:=PyData.keyHash P (Str.ofString x),key:=.str (Str.ofString x) t,val:=v }
def tp (i:Nat):Stmt:=PySem.Challenge.pw_lanescribe_k08_whole_great_fields_parted.main.body.getD i (.Pass ⟨0,0,0,0⟩)
def meth (i j:Nat):Stmt:=match tp i with
 |.ClassDef _ _ _ body _ _ _ _ _ _ _=>body.getD j (.Pass ⟨0,0,0,0⟩)
 |_=>.Pass ⟨0,0,0,0⟩
def dA (s:Stmt):Arguments:=match s with
 |.FunctionDef _ a _ _ _ _ _ _ _ _=>a
 |_=>{ posonlyargs:=[],args:=[],vararg:=none,kwonlyargs:=[],kw_defaults:=[],kwarg:=none,defaults:=[] }
def dB (s:Stmt):List Stmt:=match s with
 |.FunctionDef _ _ b _ _ _ _ _ _ _=>b
 |_=>[]
def dS (s:Stmt):Scope:=match s with
 |.FunctionDef _ _ _ _ _ _ sc _ _ _=>sc
 |_=>{ kind:=.function,names:=[],isGenerator:=false,isCoroutine:=false }
abbrev TA (i:Nat):Arguments:=dA (tp i)
abbrev TB (i:Nat):List Stmt:=dB (tp i)
abbrev TS (i:Nat):Scope:=dS (tp i)
abbrev MA (i j:Nat):Arguments:=dA (meth i j)
abbrev MB (i j:Nat):List Stmt:=dB (meth i j)
abbrev MS (i j:Nat):Scope:=dS (meth i j)
abbrev og (n q:String) (a:Arguments) (b:List Stmt) (s:Scope):Obj:={ cls:=.none,data:=Data.func { name:=Str.ofString n,qualname:=Str.ofString q,params:=a,body:=FuncBody.stmts b,scope:=s,globals:=0,closure:=[],defaults:=.none,kwdefaults:=.none } }
abbrev gt (n:String) (i:Nat):Obj:=og n n (TA i) (TB i) (TS i)
abbrev gm (n q:String) (i j:Nat):Obj:=og n q (MA i j) (MB i j) (MS i j)
abbrev ft (n:String) (i:Nat):Value->Value->Value->Obj:=of n n (TA i) (TB i) (TS i)
abbrev fm (n q:String) (i j:Nat):Value->Value->Value->Obj:=of n q (MA i j) (MB i j) (MS i j)
abbrev oq (n:String) (a:Nat) (q:String) (b c:Nat) (l k:Int) (r s:Nat) (x y z:Value) (t:Int) (d:Nat):Obj:=oc #[vs n a,vs q b,vf c,vi l 0,vi k 0,vi 0 0,vi 0 0,vi 3 0,vr r,vb,vi 181 0,vr s,vn,x,y,z,vi t 0,vi l 0,vf d]
abbrev ok (n:String) (a b c:Nat) (l k:Int) (r s:Nat) (x y z:Value) (t:Int) (d:Nat):Obj:=oq n a n b c l k r s x y z t d
abbrev z1:Value:=vs "lanescribe.errors" 194
abbrev z2:Value:=vs "law_lanescribe_k08_whole_great_fields_parted" 641
abbrev z3:Value:=vs "lanescribe.kinds" 376
abbrev z4:Value:=vs "lanescribe.sieve" 515
abbrev z5:Value:=vs "ScribeError" 204
def o0:Obj:=ot #[]
def o1:Obj:={ cls:=vn,data:=Data.fields #[] }
def o2:Obj:=oc #[vs "<module>" 182,vs "<module>" 183,vf 184,vi 1 0,vi 0 0,vi 0 0,vi 0 0,vi 0 0,vr 11,Value.bool false,vi 181 0,vr 12,vn,vn,vn,vn,vi 185 0,vi 1 0,vf 186]
def o3:Obj:={ cls:=vt "frame",slots:=#[some (vr 13),some (vr 3),some (vr 3),none,some (vs "__main__" 164),none,some (vr 0)] }
def o4 (P:Params):Obj:={ cls:=vt "dict",data:=Data.dict #[de P "__name__" 165 z1,de P "__doc__" 166 (vn),de P "__package__" 167 (vn),de P "__loader__" 168 (Value.builtin "__main__.__loader__#opaque"),de P "__spec__" 169 (vn),de P "__annotations__" 170 (vr 6),de P "__builtins__" 171 (vr 4),de P "__file__" 173 (vf 172),de P "__cached__" 174 (vn),de P "_wall" 193 (vr 21),de P "ScribeError" 225 (vr 39),de P "BadName" 250 (vr 60),de P "BadBounds" 275 (vr 80),de P "BadTest" 300 (vr 100),de P "Taken" 325 (vr 120)] 15 }
def o5:Obj:={ cls:=vn,data:=Data.fields #[vi 1 0,vi 0 0,vr 20,vi 5 0,vi 0 0,vr 27,vi 10 0,vi 0 0,vr 48,vi 14 0,vi 0 0,vr 68,vi 18 0,vi 0 0,vr 88,vi 22 0,vi 0 0,vr 108] }
def o6:Obj:=ot #[vs "k" 190]
def o7:Obj:=gt "_wall" 0
def o8:Obj:=ok "_wall" 187 188 189 1 1 15 16 (vr 17) (vr 18) (vr 19) 191 192
def o9:Obj:=ft "_wall" 0 vn (vs "__main__" 164) (vr 20)
def M4:Obj:=ot #[vt "ValueError"]
def mK:Obj:={ cls:=vt "builtin_function_or_method",data:=Data.fields #[Value.builtin "type.__prepare__",vt "type"] }
def Nf (P:Params):Obj:={ cls:=vt "dict",data:=Data.dict #[de P "__module__" 203 z1,de P "__qualname__" 205 z5,de P "__firstlineno__" 207 (vi 5 206),de P "__init__" 218 (vr 36),de P "__static_attributes__" 220 (vr 37)] 5 }
def PK:Obj:={ cls:=vn,data:=Data.fields #[vi 7 0,vi 4 0,vr 35] }
def N6:Obj:=oc #[vs "ScribeError" 198,vs "ScribeError" 199,vf 200,vi 5 0,vi 0 0,vi 0 0,vi 0 0,vi 0 0,vr 25,Value.bool false,vi 181 0,vr 26,vn,vn,vn,vn,vi 201 0,vi 5 0,vf 202]
def Pa:Obj:={ cls:=vt "frame",slots:=#[some (vr 27),some (vr 3),some (vr 24),none,some z1,none,some (vr 0)] }
def M8:Obj:=ot #[vs "" 208,vs "scribeerror" 209]
def M6:Obj:=ot #[vs "self" 213,vs "words" 214,vs "word" 215]
def O1:Obj:=gm "__init__" "ScribeError.__init__" 2 0
def Mv:Obj:=oq "__init__" 210 "ScribeError.__init__" 211 212 7 3 30 31 (vr 32) (vr 33) (vr 34) 216 217
def Mr:Obj:=fm "__init__" "ScribeError.__init__" 2 0 (vr 29) z1 (vr 35)
def LC:Obj:=ot #[vs "word" 219]
def Lp (P:Params):Obj:={ cls:=vt "dict",data:=Data.dict #[de P "__module__" 203 z1,de P "__firstlineno__" 207 (vi 5 206),de P "__init__" 218 (vr 36),de P "__static_attributes__" 220 (vr 37),de P "__weakref__" 222 (vr 40),de P "__doc__" 223 (vn)] 3 }
def Rr:Obj:={ cls:=vt "type",data:=Data.cls { name:=u "ScribeError",bases:=[vt "ValueError"],mro:=[vr 39,vt "ValueError",vt "Exception",vt "BaseException",vt "object"],ns:=38,qualname:=u "ScribeError",subclasses:=[vr 60,vr 80,vr 100,vr 120] },slots:=#[some (vr 22),none,some (vs "ScribeError" 196),some z5,some (Value.builtin "ValueError.__new__"),some (vb)] }
def Lw:Obj:={ cls:=vt "getset_descriptor",data:=Data.fields #[vs "__weakref__" 221,vr 39,Value.builtin "ExceptionGroup.__weakref__",vn] }
def O6:Obj:={ cls:=vt "super",data:=Data.fields #[vr 39,vr 39,vr 39] }
def Qa:Obj:={ cls:=vt "builtin_function_or_method",data:=Data.fields #[Value.builtin "object.__init_subclass__",vr 39] }
def mD:Obj:=ot #[vr 39]
def Ny (P:Params):Obj:={ cls:=vt "dict",data:=Data.dict #[de P "__module__" 233 z1,de P "__qualname__" 235 (vs "BadName" 234),de P "__firstlineno__" 237 (vi 10 236),de P "__init__" 246 (vr 57),de P "__static_attributes__" 247 (vr 58)] 5 }
def Od:Obj:={ cls:=vn,data:=Data.fields #[vi 12 0,vi 4 0,vr 56] }
def Oo:Obj:=oc #[vs "BadName" 228,vs "BadName" 229,vf 230,vi 10 0,vi 0 0,vi 0 0,vi 0 0,vi 0 0,vr 46,Value.bool false,vi 181 0,vr 47,vn,vn,vn,vn,vi 231 0,vi 10 0,vf 232]
def Qj:Obj:={ cls:=vt "frame",slots:=#[some (vr 48),some (vr 3),some (vr 45),none,some z1,none,some (vr 0)] }
def Ms:Obj:=ot #[vs "" 238]
def M9:Obj:=ot #[vs "self" 242,vs "words" 243]
def MT:Obj:=gm "__init__" "BadName.__init__" 3 0
def Lz:Obj:=oq "__init__" 239 "BadName.__init__" 240 241 12 2 51 52 (vr 53) (vr 54) (vr 55) 244 245
def Ls:Obj:=fm "__init__" "BadName.__init__" 3 0 (vr 50) z1 (vr 56)
def Mu (P:Params):Obj:={ cls:=vt "dict",data:=Data.dict #[de P "__module__" 233 z1,de P "__firstlineno__" 237 (vi 10 236),de P "__init__" 246 (vr 57),de P "__static_attributes__" 247 (vr 58),de P "__doc__" 248 (vn)] 2 }
def Lb:Obj:={ cls:=vt "type",data:=Data.cls { name:=u "BadName",bases:=[vr 39],mro:=[vr 60,vr 39,vt "ValueError",vt "Exception",vt "BaseException",vt "object"],ns:=59,qualname:=u "BadName" },slots:=#[some (vr 43),none,some (vs "BadName" 226),some (vs "BadName" 234),some (Value.builtin "ValueError.__new__"),some (vb)] }
def Q7:Obj:={ cls:=vt "super",data:=Data.fields #[vr 60,vr 60,vr 60] }
def OJ:Obj:={ cls:=vt "builtin_function_or_method",data:=Data.fields #[Value.builtin "object.__init_subclass__",vr 60] }
def Qs (P:Params):Obj:={ cls:=vt "dict",data:=Data.dict #[de P "__module__" 258 z1,de P "__qualname__" 260 (vs "BadBounds" 259),de P "__firstlineno__" 262 (vi 14 261),de P "__init__" 271 (vr 77),de P "__static_attributes__" 272 (vr 78)] 5 }
def Qh:Obj:={ cls:=vn,data:=Data.fields #[vi 16 0,vi 4 0,vr 76] }
def Nq:Obj:=oc #[vs "BadBounds" 253,vs "BadBounds" 254,vf 255,vi 14 0,vi 0 0,vi 0 0,vi 0 0,vi 0 0,vr 66,Value.bool false,vi 181 0,vr 67,vn,vn,vn,vn,vi 256 0,vi 14 0,vf 257]
def OD:Obj:={ cls:=vt "frame",slots:=#[some (vr 68),some (vr 3),some (vr 65),none,some z1,none,some (vr 0)] }
def Li:Obj:=ot #[vs "" 263]
def Mi:Obj:=ot #[vs "self" 267,vs "words" 268]
def Om:Obj:=gm "__init__" "BadBounds.__init__" 4 0
def Lf:Obj:=oq "__init__" 264 "BadBounds.__init__" 265 266 16 2 71 72 (vr 73) (vr 74) (vr 75) 269 270
def Mh:Obj:=fm "__init__" "BadBounds.__init__" 4 0 (vr 70) z1 (vr 76)
def Lj (P:Params):Obj:={ cls:=vt "dict",data:=Data.dict #[de P "__module__" 258 z1,de P "__firstlineno__" 262 (vi 14 261),de P "__init__" 271 (vr 77),de P "__static_attributes__" 272 (vr 78),de P "__doc__" 273 (vn)] 2 }
def Ml:Obj:={ cls:=vt "type",data:=Data.cls { name:=u "BadBounds",bases:=[vr 39],mro:=[vr 80,vr 39,vt "ValueError",vt "Exception",vt "BaseException",vt "object"],ns:=79,qualname:=u "BadBounds" },slots:=#[some (vr 63),none,some (vs "BadBounds" 251),some (vs "BadBounds" 259),some (Value.builtin "ValueError.__new__"),some (vb)] }
def Pb:Obj:={ cls:=vt "super",data:=Data.fields #[vr 80,vr 80,vr 80] }
def Ng:Obj:={ cls:=vt "builtin_function_or_method",data:=Data.fields #[Value.builtin "object.__init_subclass__",vr 80] }
def MJ (P:Params):Obj:={ cls:=vt "dict",data:=Data.dict #[de P "__module__" 283 z1,de P "__qualname__" 285 (vs "BadTest" 284),de P "__firstlineno__" 287 (vi 18 286),de P "__init__" 296 (vr 97),de P "__static_attributes__" 297 (vr 98)] 5 }
def Qd:Obj:={ cls:=vn,data:=Data.fields #[vi 20 0,vi 4 0,vr 96] }
def Ol:Obj:=oc #[vs "BadTest" 278,vs "BadTest" 279,vf 280,vi 18 0,vi 0 0,vi 0 0,vi 0 0,vi 0 0,vr 86,Value.bool false,vi 181 0,vr 87,vn,vn,vn,vn,vi 281 0,vi 18 0,vf 282]
def Qu:Obj:={ cls:=vt "frame",slots:=#[some (vr 88),some (vr 3),some (vr 85),none,some z1,none,some (vr 0)] }
def Mt:Obj:=ot #[vs "" 288]
def Ma:Obj:=ot #[vs "self" 292,vs "words" 293]
def Q6:Obj:=gm "__init__" "BadTest.__init__" 5 0
def K_:Obj:=oq "__init__" 289 "BadTest.__init__" 290 291 20 2 91 92 (vr 93) (vr 94) (vr 95) 294 295
def L_:Obj:=fm "__init__" "BadTest.__init__" 5 0 (vr 90) z1 (vr 96)
def Lq (P:Params):Obj:={ cls:=vt "dict",data:=Data.dict #[de P "__module__" 283 z1,de P "__firstlineno__" 287 (vi 18 286),de P "__init__" 296 (vr 97),de P "__static_attributes__" 297 (vr 98),de P "__doc__" 298 (vn)] 2 }
def Ld:Obj:={ cls:=vt "type",data:=Data.cls { name:=u "BadTest",bases:=[vr 39],mro:=[vr 100,vr 39,vt "ValueError",vt "Exception",vt "BaseException",vt "object"],ns:=99,qualname:=u "BadTest" },slots:=#[some (vr 83),none,some (vs "BadTest" 276),some (vs "BadTest" 284),some (Value.builtin "ValueError.__new__"),some (vb)] }
def Qp:Obj:={ cls:=vt "super",data:=Data.fields #[vr 100,vr 100,vr 100] }
def Nk:Obj:={ cls:=vt "builtin_function_or_method",data:=Data.fields #[Value.builtin "object.__init_subclass__",vr 100] }
def PX (P:Params):Obj:={ cls:=vt "dict",data:=Data.dict #[de P "__module__" 308 z1,de P "__qualname__" 310 (vs "Taken" 309),de P "__firstlineno__" 312 (vi 22 311),de P "__init__" 321 (vr 117),de P "__static_attributes__" 322 (vr 118)] 5 }
def Qy:Obj:={ cls:=vn,data:=Data.fields #[vi 24 0,vi 4 0,vr 116] }
def Py:Obj:=oc #[vs "Taken" 303,vs "Taken" 304,vf 305,vi 22 0,vi 0 0,vi 0 0,vi 0 0,vi 0 0,vr 106,Value.bool false,vi 181 0,vr 107,vn,vn,vn,vn,vi 306 0,vi 22 0,vf 307]
def PB:Obj:={ cls:=vt "frame",slots:=#[some (vr 108),some (vr 3),some (vr 105),none,some z1,none,some (vr 0)] }
def LQ:Obj:=ot #[vs "" 313]
def Mq:Obj:=ot #[vs "self" 317,vs "words" 318]
def P_:Obj:=gm "__init__" "Taken.__init__" 6 0
def M7:Obj:=oq "__init__" 314 "Taken.__init__" 315 316 24 2 111 112 (vr 113) (vr 114) (vr 115) 319 320
def Lk:Obj:=fm "__init__" "Taken.__init__" 6 0 (vr 110) z1 (vr 116)
def Mf (P:Params):Obj:={ cls:=vt "dict",data:=Data.dict #[de P "__module__" 308 z1,de P "__firstlineno__" 312 (vi 22 311),de P "__init__" 321 (vr 117),de P "__static_attributes__" 322 (vr 118),de P "__doc__" 323 (vn)] 2 }
def LK:Obj:={ cls:=vt "type",data:=Data.cls { name:=u "Taken",bases:=[vr 39],mro:=[vr 120,vr 39,vt "ValueError",vt "Exception",vt "BaseException",vt "object"],ns:=119,qualname:=u "Taken" },slots:=#[some (vr 103),none,some (vs "Taken" 301),some (vs "Taken" 309),some (Value.builtin "ValueError.__new__"),some (vb)] }
def N5:Obj:={ cls:=vt "super",data:=Data.fields #[vr 120,vr 120,vr 120] }
def Mz:Obj:={ cls:=vt "builtin_function_or_method",data:=Data.fields #[Value.builtin "object.__init_subclass__",vr 120] }
def Rn (P:Params):Obj:={ cls:=vt "dict",data:=Data.dict #[de P "__name__" 165 z3,de P "__doc__" 166 (vn),de P "__package__" 167 (vn),de P "__loader__" 168 (Value.builtin "__main__.__loader__#opaque"),de P "__spec__" 169 (vn),de P "__annotations__" 170 (vr 6),de P "__builtins__" 171 (vr 4),de P "__file__" 173 (vf 172),de P "__cached__" 174 (vn),de P "_wall" 193 (vr 21),de P "ScribeError" 225 (vr 39),de P "BadName" 250 (vr 60),de P "BadBounds" 275 (vr 80),de P "BadTest" 300 (vr 100),de P "Taken" 325 (vr 120),de P "Full" 350 (vr 140),de P "BadValue" 375 (vr 159),de P "LIMIT" 379 (vi 999999 378),de P "MOST_LETTERS" 381 (vi 8 380),de P "MOST_FIELDS" 383 (vi 4 382),de P "is_name" 390 (vr 168),de P "need_name" 397 (vr 175),de P "need_fields" 408 (vr 182),de P "bounds_text" 414 (vr 187),de P "Kind" 514 (vr 262)] 25 }
def RG:Obj:={ cls:=vn,data:=Data.fields #[vi 1 0,vi 0 0,vr 20,vi 5 0,vi 0 0,vr 27,vi 10 0,vi 0 0,vr 48,vi 14 0,vi 0 0,vr 68,vi 18 0,vi 0 0,vr 88,vi 22 0,vi 0 0,vr 108,vi 26 0,vi 0 0,vr 128,vi 30 0,vi 0 0,vr 148,vi 39 0,vi 0 0,vr 167,vi 41 0,vi 0 0,vr 174,vi 44 0,vi 0 0,vr 181,vi 53 0,vi 0 0,vr 186,vi 55 0,vi 0 0,vr 193] }
def PP:Obj:={ cls:=vt "type",data:=Data.cls { name:=u "ScribeError",bases:=[vt "ValueError"],mro:=[vr 39,vt "ValueError",vt "Exception",vt "BaseException",vt "object"],ns:=38,qualname:=u "ScribeError",subclasses:=[vr 60,vr 80,vr 100,vr 120,vr 140,vr 159] },slots:=#[some (vr 22),none,some (vs "ScribeError" 196),some z5,some (Value.builtin "ValueError.__new__"),some (vb)] }
def R6 (P:Params):Obj:={ cls:=vt "dict",data:=Data.dict #[de P "__module__" 333 z1,de P "__qualname__" 335 (vs "Full" 334),de P "__firstlineno__" 337 (vi 26 336),de P "__init__" 346 (vr 137),de P "__static_attributes__" 347 (vr 138)] 5 }
def QS:Obj:={ cls:=vn,data:=Data.fields #[vi 28 0,vi 4 0,vr 136] }
def QJ:Obj:=oc #[vs "Full" 328,vs "Full" 329,vf 330,vi 26 0,vi 0 0,vi 0 0,vi 0 0,vi 0 0,vr 126,Value.bool false,vi 181 0,vr 127,vn,vn,vn,vn,vi 331 0,vi 26 0,vf 332]
def QX:Obj:={ cls:=vt "frame",slots:=#[some (vr 128),some (vr 3),some (vr 125),none,some z1,none,some (vr 0)] }
def Oj:Obj:=ot #[vs "" 338]
def Ob:Obj:=ot #[vs "self" 342,vs "words" 343]
def Q_:Obj:=gm "__init__" "Full.__init__" 7 0
def MK:Obj:=oq "__init__" 339 "Full.__init__" 340 341 28 2 131 132 (vr 133) (vr 134) (vr 135) 344 345
def Pu:Obj:=fm "__init__" "Full.__init__" 7 0 (vr 130) z1 (vr 136)
def Ox (P:Params):Obj:={ cls:=vt "dict",data:=Data.dict #[de P "__module__" 333 z1,de P "__firstlineno__" 337 (vi 26 336),de P "__init__" 346 (vr 137),de P "__static_attributes__" 347 (vr 138),de P "__doc__" 348 (vn)] 2 }
def Qv:Obj:={ cls:=vt "type",data:=Data.cls { name:=u "Full",bases:=[vr 39],mro:=[vr 140,vr 39,vt "ValueError",vt "Exception",vt "BaseException",vt "object"],ns:=139,qualname:=u "Full" },slots:=#[some (vr 123),none,some (vs "Full" 326),some (vs "Full" 334),some (Value.builtin "ValueError.__new__"),some (vb)] }
def R5:Obj:={ cls:=vt "super",data:=Data.fields #[vr 140,vr 140,vr 140] }
def QM:Obj:={ cls:=vt "builtin_function_or_method",data:=Data.fields #[Value.builtin "object.__init_subclass__",vr 140] }
def QF (P:Params):Obj:={ cls:=vt "dict",data:=Data.dict #[de P "__module__" 358 z1,de P "__qualname__" 360 (vs "BadValue" 359),de P "__firstlineno__" 362 (vi 30 361),de P "__init__" 370 (vr 156),de P "__static_attributes__" 372 (vr 157)] 5 }
def QW:Obj:={ cls:=vn,data:=Data.fields #[vi 32 0,vi 4 0,vr 155] }
def QG:Obj:=oc #[vs "BadValue" 353,vs "BadValue" 354,vf 355,vi 30 0,vi 0 0,vi 0 0,vi 0 0,vi 0 0,vr 146,Value.bool false,vi 181 0,vr 147,vn,vn,vn,vn,vi 356 0,vi 30 0,vf 357]
def QT:Obj:={ cls:=vt "frame",slots:=#[some (vr 148),some (vr 3),some (vr 145),none,some z1,none,some (vr 0)] }
def o100:Obj:=ot #[vs "self" 366,vs "at" 367]
def Hv:Obj:=gm "__init__" "BadValue.__init__" 8 0
def DR:Obj:=oq "__init__" 363 "BadValue.__init__" 364 365 32 2 150 151 (vr 152) (vr 153) (vr 154) 368 369
def Ca:Obj:=fm "__init__" "BadValue.__init__" 8 0 vn z1 (vr 155)
def Du:Obj:=ot #[vs "at" 371]
def Eb (P:Params):Obj:={ cls:=vt "dict",data:=Data.dict #[de P "__module__" 358 z1,de P "__firstlineno__" 362 (vi 30 361),de P "__init__" 370 (vr 156),de P "__static_attributes__" 372 (vr 157),de P "__doc__" 373 (vn)] 2 }
def Ay:Obj:={ cls:=vt "type",data:=Data.cls { name:=u "BadValue",bases:=[vr 39],mro:=[vr 159,vr 39,vt "ValueError",vt "Exception",vt "BaseException",vt "object"],ns:=158,qualname:=u "BadValue" },slots:=#[some (vr 143),none,some (vs "BadValue" 351),some (vs "BadValue" 359),some (Value.builtin "ValueError.__new__"),some (vb)] }
def FT:Obj:={ cls:=vt "super",data:=Data.fields #[vr 159,vr 159,vr 159] }
def Ja:Obj:={ cls:=vt "builtin_function_or_method",data:=Data.fields #[Value.builtin "object.__init_subclass__",vr 159] }
def CK:Obj:=ot #[vs "text" 387]
def Js:Obj:=gt "is_name" 13
def o111:Obj:=ok "is_name" 384 385 386 39 1 162 163 (vr 164) (vr 165) (vr 166) 388 389
def CJ:Obj:=ft "is_name" 13 vn z3 (vr 167)
def Cq:Obj:=ot #[vs "text" 394]
def Kp:Obj:=gt "need_name" 14
def BX:Obj:=ok "need_name" 391 392 393 41 1 169 170 (vr 171) (vr 172) (vr 173) 395 396
def Ck:Obj:=ft "need_name" 14 vn z3 (vr 174)
def Fd:Obj:=ot #[vs "fields" 401,vs "seen" 402,vs "name" 403,vs "low" 404,vs "high" 405]
def Fx:Obj:=gt "need_fields" 15
def Dq:Obj:=ok "need_fields" 398 399 400 44 1 176 177 (vr 178) (vr 179) (vr 180) 406 407
def EY:Obj:=ft "need_fields" 15 vn z3 (vr 181)
def Gm:Obj:=gt "bounds_text" 16
def Ce:Obj:=ok "bounds_text" 409 410 411 53 1 183 184 vn vn (vr 185) 412 413
def CT:Obj:=ft "bounds_text" 16 vn z3 (vr 186)
def GR (P:Params):Obj:={ cls:=vt "dict",data:=Data.dict #[de P "__module__" 422 z3,de P "__qualname__" 424 (vs "Kind" 423),de P "__firstlineno__" 426 (vi 55 425),de P "__init__" 435 (vr 203),de P "lowest" 442 (vr 210),de P "cells" 449 (vr 217),de P "place_of" 461 (vr 224),de P "need" 474 (vr 231),de P "__eq__" 482 (vr 238),de P "__len__" 489 (vr 245),de P "__str__" 496 (vr 252),de P "__repr__" 503 (vr 259),de P "__static_attributes__" 506 (vr 260)] 13 }
def JZ:Obj:={ cls:=vn,data:=Data.fields #[vi 57 0,vi 4 0,vr 202,vi 65 0,vi 4 0,vr 209,vi 68 0,vi 4 0,vr 216,vi 71 0,vi 4 0,vr 223,vi 77 0,vi 4 0,vr 230,vi 84 0,vi 4 0,vr 237,vi 87 0,vi 4 0,vr 244,vi 90 0,vi 4 0,vr 251,vi 93 0,vi 4 0,vr 258] }
def Ha:Obj:=oc #[vs "Kind" 417,vs "Kind" 418,vf 419,vi 55 0,vi 0 0,vi 0 0,vi 0 0,vi 0 0,vr 191,Value.bool false,vi 181 0,vr 192,vn,vn,vn,vn,vi 420 0,vi 55 0,vf 421]
def K4:Obj:={ cls:=vt "frame",slots:=#[some (vr 193),some (vr 3),some (vr 190),none,some z3,none,some (vr 0)] }
def Dl:Obj:=ot #[vr 195]
def DX:Obj:=ot #[vs "self" 430,vs "name" 431,vs "fields" 432]
def Iw:Obj:=gm "__init__" "Kind.__init__" 17 0
def Cv:Obj:=oq "__init__" 427 "Kind.__init__" 428 429 57 3 197 198 (vr 199) (vr 200) (vr 201) 433 434
def C_:Obj:=fm "__init__" "Kind.__init__" 17 0 (vr 196) z3 (vr 202)
def Bg:Obj:=ot #[vs "self" 439]
def Ga:Obj:=gm "lowest" "Kind.lowest" 17 1
def Em:Obj:=oq "lowest" 436 "Kind.lowest" 437 438 65 1 204 205 (vr 206) (vr 207) (vr 208) 440 441
def Cr:Obj:=fm "lowest" "Kind.lowest" 17 1 vn z3 (vr 209)
def CP:Obj:=ot #[vs "self" 446]
def Ie:Obj:=gm "cells" "Kind.cells" 17 2
def Et:Obj:=oq "cells" 443 "Kind.cells" 444 445 68 1 211 212 (vr 213) (vr 214) (vr 215) 447 448
def BK:Obj:=fm "cells" "Kind.cells" 17 2 vn z3 (vr 216)
def Dw:Obj:=ot #[vs "self" 453,vs "field" 454,vs "at" 455,vs "name" 456,vs "low" 457,vs "high" 458]
def Je:Obj:=gm "place_of" "Kind.place_of" 17 3
def Ds:Obj:=oq "place_of" 450 "Kind.place_of" 451 452 71 2 218 219 (vr 220) (vr 221) (vr 222) 459 460
def Eg:Obj:=fm "place_of" "Kind.place_of" 17 3 vn z3 (vr 223)
def Dc:Obj:=ot #[vs "self" 465,vs "values" 466,vs "at" 467,vs "name" 468,vs "low" 469,vs "high" 470,vs "value" 471]
def Hg:Obj:=gm "need" "Kind.need" 17 4
def Cy:Obj:=oq "need" 462 "Kind.need" 463 464 77 2 225 226 (vr 227) (vr 228) (vr 229) 472 473
def A_:Obj:=fm "need" "Kind.need" 17 4 vn z3 (vr 230)
def BW:Obj:=ot #[vs "self" 478,vs "other" 479]
def JN:Obj:=gm "__eq__" "Kind.__eq__" 17 5
def Ec:Obj:=oq "__eq__" 475 "Kind.__eq__" 476 477 84 2 232 233 (vr 234) (vr 235) (vr 236) 480 481
def Bk:Obj:=fm "__eq__" "Kind.__eq__" 17 5 vn z3 (vr 237)
def CV:Obj:=ot #[vs "self" 486]
def KN:Obj:=gm "__len__" "Kind.__len__" 17 6
def Dg:Obj:=oq "__len__" 483 "Kind.__len__" 484 485 87 1 239 240 (vr 241) (vr 242) (vr 243) 487 488
def BP:Obj:=fm "__len__" "Kind.__len__" 17 6 vn z3 (vr 244)
def Dj:Obj:=ot #[vs "self" 493]
def Kg:Obj:=gm "__str__" "Kind.__str__" 17 7
def Cj:Obj:=oq "__str__" 490 "Kind.__str__" 491 492 90 1 246 247 (vr 248) (vr 249) (vr 250) 494 495
def Fe:Obj:=fm "__str__" "Kind.__str__" 17 7 vn z3 (vr 251)
def Bl:Obj:=ot #[vs "self" 500]
def Kl:Obj:=gm "__repr__" "Kind.__repr__" 17 8
def BV:Obj:=oq "__repr__" 497 "Kind.__repr__" 498 499 93 1 253 254 (vr 255) (vr 256) (vr 257) 501 502
def Cu:Obj:=fm "__repr__" "Kind.__repr__" 17 8 vn z3 (vr 258)
def CG:Obj:=ot #[vs "fields" 504,vs "name" 505]
def Di (P:Params):Obj:={ cls:=vt "dict",data:=Data.dict #[de P "__module__" 422 z3,de P "__firstlineno__" 426 (vi 55 425),de P "__init__" 435 (vr 203),de P "lowest" 442 (vr 210),de P "cells" 449 (vr 217),de P "place_of" 461 (vr 224),de P "need" 474 (vr 231),de P "__eq__" 482 (vr 238),de P "__len__" 489 (vr 245),de P "__str__" 496 (vr 252),de P "__repr__" 503 (vr 259),de P "__static_attributes__" 506 (vr 260),de P "__dict__" 508 (vr 263),de P "__weakref__" 510 (vr 264),de P "__doc__" 511 (vn),de P "__hash__" 512 (vn)] 5 }
def Dm:Obj:={ cls:=vt "type",data:=Data.cls { name:=u "Kind",bases:=[vt "object"],mro:=[vr 262,vt "object"],ns:=261,qualname:=u "Kind" },slots:=#[none,none,some (vs "Kind" 415),some (vs "Kind" 423),some (Value.builtin "object.__new__"),some (vb)] }
def DG:Obj:={ cls:=vt "getset_descriptor",data:=Data.fields #[vs "__dict__" 507,vr 262,Value.builtin "function.__dict__",Value.builtin "function.__dict__#set"] }
def Ci:Obj:={ cls:=vt "getset_descriptor",data:=Data.fields #[vs "__weakref__" 509,vr 262,Value.builtin "ExceptionGroup.__weakref__",vn] }
def JD:Obj:={ cls:=vt "super",data:=Data.fields #[vr 262,vr 262,vr 262] }
def Hc:Obj:={ cls:=vt "builtin_function_or_method",data:=Data.fields #[Value.builtin "object.__init_subclass__",vr 262] }
def Qt (P:Params):Obj:={ cls:=vt "dict",data:=Data.dict #[de P "__name__" 165 z2,de P "__doc__" 166 (vn),de P "__package__" 167 (vn),de P "__loader__" 168 (Value.builtin "__main__.__loader__#opaque"),de P "__spec__" 169 (vn),de P "__annotations__" 170 (vr 6),de P "__builtins__" 171 (vr 4),de P "__file__" 173 (vf 172),de P "__cached__" 174 (vn),de P "_wall" 193 (vr 21),de P "ScribeError" 225 (vr 39),de P "BadName" 250 (vr 60),de P "BadBounds" 275 (vr 80),de P "BadTest" 300 (vr 100),de P "Taken" 325 (vr 120),de P "Full" 350 (vr 140),de P "BadValue" 375 (vr 159),de P "LIMIT" 379 (vi 999999 378),de P "MOST_LETTERS" 381 (vi 8 380),de P "MOST_FIELDS" 383 (vi 4 382),de P "is_name" 390 (vr 168),de P "need_name" 397 (vr 175),de P "need_fields" 408 (vr 182),de P "bounds_text" 414 (vr 187),de P "Kind" 514 (vr 262),de P "MOST_PARTS" 518 (vi 15 517),de P "MOST_DEEP" 520 (vi 5 519),de P "WITHIN" 530 (vr 267),de P "SIGN_OF" 537 (vr 268),de P "is_word" 544 (vr 275),de P "is_number" 551 (vr 282),de P "is_leaf" 559 (vr 289),de P "count_parts" 565 (vr 294),de P "is_test" 572 (vr 301),de P "need_test" 579 (vr 308),de P "leaves_within" 588 (vr 315),de P "holds" 597 (vr 322),de P "passes" 607 (vr 329),de P "passes_leaf" 618 (vr 336),de P "parted" 628 (vr 343),de P "corners" 634 (vr 348),de P "turns" 640 (vr 353),de P "_law_begin" 651 (vr 360),de P "_law_pick" 662 (vr 367),de P "_law_of" 670 (vr 374),de P "_law_same" 676 (vr 379),de P "_law_word" 682 (vr 384),de P "_law_words" 694 (vr 391),de P "_law_bound" 702 (vr 398),de P "_law_fields" 715 (vr 405),de P "_law_value" 726 (vr 412),de P "_law_values_word" 736 (vr 419),de P "_law_number" 743 (vr 426)] 53 }
def Og:Obj:={ cls:=vn,data:=Data.fields #[vi 1 0,vi 0 0,vr 20,vi 5 0,vi 0 0,vr 27,vi 10 0,vi 0 0,vr 48,vi 14 0,vi 0 0,vr 68,vi 18 0,vi 0 0,vr 88,vi 22 0,vi 0 0,vr 108,vi 26 0,vi 0 0,vr 128,vi 30 0,vi 0 0,vr 148,vi 39 0,vi 0 0,vr 167,vi 41 0,vi 0 0,vr 174,vi 44 0,vi 0 0,vr 181,vi 53 0,vi 0 0,vr 186,vi 55 0,vi 0 0,vr 193,vi 100 0,vi 0 0,vr 274,vi 102 0,vi 0 0,vr 281,vi 104 0,vi 0 0,vr 288,vi 111 0,vi 0 0,vr 293,vi 120 0,vi 0 0,vr 300,vi 122 0,vi 0 0,vr 307,vi 125 0,vi 0 0,vr 314,vi 132 0,vi 0 0,vr 321,vi 136 0,vi 0 0,vr 328,vi 145 0,vi 0 0,vr 335,vi 155 0,vi 0 0,vr 342,vi 162 0,vi 0 0,vr 347,vi 168 0,vi 0 0,vr 352,vi 177 0,vi 0 0,vr 359,vi 182 0,vi 0 0,vr 366,vi 197 0,vi 0 0,vr 373,vi 199 0,vi 0 0,vr 378,vi 209 0,vi 0 0,vr 383,vi 215 0,vi 0 0,vr 390,vi 224 0,vi 0 0,vr 397,vi 227 0,vi 0 0,vr 404,vi 235 0,vi 0 0,vr 411,vi 238 0,vi 0 0,vr 418,vi 244 0,vi 0 0,vr 425] }
def KR (P:Params):Obj:={ cls:=vt "dict",data:=Data.dict #[de P "not" 521 (vi 1 522),de P "and" 523 (vi 2 524),de P "or" 525 (vi 2 526)] 3 }
def GX (P:Params):Obj:={ cls:=vt "dict",data:=Data.dict #[de P "less" 531 (vs "<" 532),de P "same" 533 (vs "=" 534)] 2 }
def HS:Obj:=ot #[vs "thing" 541]
def Nu:Obj:=gt "is_word" 23
def Ke:Obj:=ok "is_word" 538 539 540 100 1 269 270 (vr 271) (vr 272) (vr 273) 542 543
def JB:Obj:=ft "is_word" 23 vn z4 (vr 274)
def FJ:Obj:=ot #[vs "thing" 548]
def Oh:Obj:=gt "is_number" 24
def Jr:Obj:=ok "is_number" 545 546 547 102 1 276 277 (vr 278) (vr 279) (vr 280) 549 550
def JR:Obj:=ft "is_number" 24 vn z4 (vr 281)
def Ky:Obj:=ot #[vs "test" 555,vs "form" 556]
def Qg:Obj:=gt "is_leaf" 25
def K3:Obj:=ok "is_leaf" 552 553 554 104 1 283 284 (vr 285) (vr 286) (vr 287) 557 558
def Im:Obj:=ft "is_leaf" 25 vn z4 (vr 288)
def Pg:Obj:=gt "count_parts" 26
def JT:Obj:=ok "count_parts" 560 561 562 111 2 290 291 vn vn (vr 292) 563 564
def G8:Obj:=ft "count_parts" 26 vn z4 (vr 293)
def KH:Obj:=ot #[vs "test" 569]
def Nr:Obj:=gt "is_test" 27
def Gh:Obj:=ok "is_test" 566 567 568 120 1 295 296 (vr 297) (vr 298) (vr 299) 570 571
def Gi:Obj:=ft "is_test" 27 vn z4 (vr 300)
def Jw:Obj:=ot #[vs "test" 576]
def O3:Obj:=gt "need_test" 28
def K6:Obj:=ok "need_test" 573 574 575 122 1 302 303 (vr 304) (vr 305) (vr 306) 577 578
def HD:Obj:=ft "need_test" 28 vn z4 (vr 307)
def JV:Obj:=ot #[vs "test" 583,vs "found" 584,vs "part" 585]
def o200:Obj:=gt "leaves_within" 29
def Gd:Obj:=ok "leaves_within" 580 581 582 125 1 309 310 (vr 311) (vr 312) (vr 313) 586 587
def HX:Obj:=ft "leaves_within" 29 vn z4 (vr 314)
def F_:Obj:=ot #[vs "test" 592,vs "kind" 593,vs "values" 594]
def Oi:Obj:=gt "holds" 30
def GZ:Obj:=ok "holds" 589 590 591 132 3 316 317 (vr 318) (vr 319) (vr 320) 595 596
def Hx:Obj:=ft "holds" 30 vn z4 (vr 321)
def HR:Obj:=ot #[vs "test" 601,vs "kind" 602,vs "values" 603,vs "form" 604]
def Qf:Obj:=gt "passes" 31
def HQ:Obj:=ok "passes" 598 599 600 136 3 323 324 (vr 325) (vr 326) (vr 327) 605 606
def Ji:Obj:=ft "passes" 31 vn z4 (vr 328)
def JG:Obj:=ot #[vs "leaf" 611,vs "kind" 612,vs "values" 613,vs "form" 614,vs "place" 615]
def Qz:Obj:=gt "passes_leaf" 32
def KY:Obj:=ok "passes_leaf" 608 609 610 145 3 330 331 (vr 332) (vr 333) (vr 334) 616 617
def Jo:Obj:=ft "passes_leaf" 32 vn z4 (vr 335)
def Hs:Obj:=ot #[vs "one" 622,vs "other" 623,vs "kind" 624,vs "values" 625]
def Oc:Obj:=gt "parted" 33
def Km:Obj:=ok "parted" 619 620 621 155 3 337 338 (vr 339) (vr 340) (vr 341) 626 627
def Jy:Obj:=ft "parted" 33 vn z4 (vr 342)
def O4:Obj:=gt "corners" 34
def Ju:Obj:=ok "corners" 629 630 631 162 2 344 345 vn vn (vr 346) 632 633
def Hi:Obj:=ft "corners" 34 vn z4 (vr 347)
def Oa:Obj:=gt "turns" 35
def KD:Obj:=ok "turns" 635 636 637 168 4 349 350 vn vn (vr 351) 638 639
def Ge:Obj:=ft "turns" 35 vn z4 (vr 352)
def FP:Obj:=ot #[vs "_law_script" 646,vs "_law_seed" 647,vs "_law_cell" 648]
def Ow:Obj:=gt "_law_begin" 37
def Fz:Obj:=ok "_law_begin" 643 644 645 177 1 354 355 (vr 356) (vr 357) (vr 358) 649 650
def Gy:Obj:=ft "_law_begin" 37 vn z2 (vr 359)
def Gk:Obj:=ot #[vs "_law_d" 655,vs "_law_many" 656,vs "_law_cell" 657,vs "_law_digit" 658,vs "_law_one" 659]
def Oz:Obj:=gt "_law_pick" 38
def KZ:Obj:=ok "_law_pick" 652 653 654 182 2 361 362 (vr 363) (vr 364) (vr 365) 660 661
def K7:Obj:=ft "_law_pick" 38 vn z2 (vr 366)
def G6:Obj:=ot #[vs "_law_d" 666,vs "_law_things" 667]
def NB:Obj:=gt "_law_of" 39
def Ip:Obj:=ok "_law_of" 663 664 665 197 2 368 369 (vr 370) (vr 371) (vr 372) 668 669
def Hq:Obj:=ft "_law_of" 39 vn z2 (vr 373)
def Pr:Obj:=gt "_law_same" 40
def Gu:Obj:=ok "_law_same" 671 672 673 199 2 375 376 vn vn (vr 377) 674 675
def Jt:Obj:=ft "_law_same" 40 vn z2 (vr 378)
def O2:Obj:=gt "_law_word" 41
def JW:Obj:=ok "_law_word" 677 678 679 209 1 380 381 vn vn (vr 382) 680 681
def Gb:Obj:=ft "_law_word" 41 vn z2 (vr 383)
def JL:Obj:=ot #[vs "_law_d" 686,vs "_law_many" 687,vs "_law_found" 688,vs "_law_k" 689,vs "_law_word_here" 690,vs "_law_step" 691]
def Pk:Obj:=gt "_law_words" 42
def J1:Obj:=ok "_law_words" 683 684 685 215 2 385 386 (vr 387) (vr 388) (vr 389) 692 693
def JS:Obj:=ft "_law_words" 42 vn z2 (vr 390)
def Jd:Obj:=ot #[vs "_law_d" 698,vs "_law_near" 699]
def Nt:Obj:=gt "_law_bound" 43
def JQ:Obj:=ok "_law_bound" 695 696 697 224 1 392 393 (vr 394) (vr 395) (vr 396) 700 701
def FQ:Obj:=ft "_law_bound" 43 vn z2 (vr 397)
def Hj:Obj:=ot #[vs "_law_d" 706,vs "_law_many" 707,vs "_law_names" 708,vs "_law_found" 709,vs "_law_title" 710,vs "_law_low" 711,vs "_law_high" 712]
def QC:Obj:=gt "_law_fields" 44
def IW:Obj:=ok "_law_fields" 703 704 705 227 2 399 400 (vr 401) (vr 402) (vr 403) 713 714
def JM:Obj:=ft "_law_fields" 44 vn z2 (vr 404)
def Ib:Obj:=ot #[vs "_law_d" 719,vs "_law_field" 720,vs "_law_title" 721,vs "_law_low" 722,vs "_law_high" 723]
def O5:Obj:=gt "_law_value" 45
def JF:Obj:=ok "_law_value" 716 717 718 235 2 406 407 (vr 408) (vr 409) (vr 410) 724 725
def Ia:Obj:=ft "_law_value" 45 vn z2 (vr 411)
def Ft:Obj:=ot #[vs "_law_fields_here" 730,vs "_law_values" 731,vs "_law_least" 732,vs "_law_at" 733]
def Ov:Obj:=gt "_law_values_word" 46
def IV:Obj:=ok "_law_values_word" 727 728 729 238 2 413 414 (vr 415) (vr 416) (vr 417) 734 735
def I_:Obj:=ft "_law_values_word" 46 vn z2 (vr 418)
def Hh:Obj:=ot #[vs "_law_d" 740]
def Np:Obj:=gt "_law_number" 47
def Gx:Obj:=ok "_law_number" 737 738 739 244 1 420 421 (vr 422) (vr 423) (vr 424) 741 742
def JK:Obj:=ft "_law_number" 47 vn z2 (vr 425)
def KK:Params->Frag:=fun P=>
 (nat_lit 2,{ cls:=vn,data:=Data.dict #[] })::
 (nat_lit 3,{ cls:=vt "dict",data:=Data.dict #[de P "__name__" 165 z2,de P "__doc__" 166 (vn),de P "__package__" 167 (vn),de P "__loader__" 168 (Value.builtin "__main__.__loader__#opaque"),de P "__spec__" 169 (vn),de P "__annotations__" 170 (vr 6),de P "__builtins__" 171 (vr 4),de P "__file__" 173 (vf 172),de P "__cached__" 174 (vn),de P "_wall" 193 (vr 21),de P "ScribeError" 225 (vr 39),de P "BadName" 250 (vr 60),de P "BadBounds" 275 (vr 80),de P "BadTest" 300 (vr 100),de P "Taken" 325 (vr 120),de P "Full" 350 (vr 140),de P "BadValue" 375 (vr 159),de P "LIMIT" 379 (vi 999999 378),de P "MOST_LETTERS" 381 (vi 8 380),de P "MOST_FIELDS" 383 (vi 4 382),de P "is_name" 390 (vr 168),de P "need_name" 397 (vr 175),de P "need_fields" 408 (vr 182),de P "bounds_text" 414 (vr 187),de P "Kind" 514 (vr 262),de P "MOST_PARTS" 518 (vi 15 517),de P "MOST_DEEP" 520 (vi 5 519),de P "WITHIN" 530 (vr 267),de P "SIGN_OF" 537 (vr 268),de P "is_word" 544 (vr 275),de P "is_number" 551 (vr 282),de P "is_leaf" 559 (vr 289),de P "count_parts" 565 (vr 294),de P "is_test" 572 (vr 301),de P "need_test" 579 (vr 308),de P "leaves_within" 588 (vr 315),de P "holds" 597 (vr 322),de P "passes" 607 (vr 329),de P "passes_leaf" 618 (vr 336),de P "parted" 628 (vr 343),de P "corners" 634 (vr 348),de P "turns" 640 (vr 353),de P "_law_begin" 651 (vr 360),de P "_law_pick" 662 (vr 367),de P "_law_of" 670 (vr 374),de P "_law_same" 676 (vr 379),de P "_law_word" 682 (vr 384),de P "_law_words" 694 (vr 391),de P "_law_bound" 702 (vr 398),de P "_law_fields" 715 (vr 405),de P "_law_value" 726 (vr 412),de P "_law_values_word" 736 (vr 419),de P "_law_number" 743 (vr 426),de P "_law_leaf" 753 (vr 433),de P "_law_tree" 765 (vr 440),de P "_law_passes" 771 (vr 445),de P "_law_kind_of" 779 (vr 452),de P "_law_names_of" 785 (vr 457),de P "_law_near_values" 791 (vr 462),de P "_law_leaves_any" 800 (vr 469),de P "_law_parts_them" 811 (vr 476),de P "law" 829 (vr 483)] 62 })::
 (nat_lit 15,o0)::
 (nat_lit 17,o6)::
 (nat_lit 18,o0)::
 (nat_lit 20,o8)::
 (nat_lit 21,o9)::
 (nat_lit 22,M4)::
 (nat_lit 29,M8)::
 (nat_lit 30,o0)::
 (nat_lit 32,M6)::
 (nat_lit 33,o0)::
 (nat_lit 35,Mv)::
 (nat_lit 36,Mr)::
 (nat_lit 37,LC)::
 (nat_lit 38,Lp P)::
 (nat_lit 39,PP)::
 (nat_lit 40,Lw)::
 (nat_lit 43,mD)::
 (nat_lit 50,Ms)::
 (nat_lit 51,o0)::
 (nat_lit 53,M9)::
 (nat_lit 54,o0)::
 (nat_lit 56,Lz)::
 (nat_lit 57,Ls)::
 (nat_lit 58,o0)::
 (nat_lit 59,Mu P)::
 (nat_lit 60,Lb)::
 (nat_lit 63,mD)::
 (nat_lit 70,Li)::
 (nat_lit 71,o0)::
 (nat_lit 73,Mi)::
 (nat_lit 74,o0)::
 (nat_lit 76,Lf)::
 (nat_lit 77,Mh)::
 (nat_lit 78,o0)::
 (nat_lit 79,Lj P)::
 (nat_lit 80,Ml)::
 (nat_lit 83,mD)::
 (nat_lit 90,Mt)::
 (nat_lit 91,o0)::
 (nat_lit 93,Ma)::
 (nat_lit 94,o0)::
 (nat_lit 96,K_)::
 (nat_lit 97,L_)::
 (nat_lit 98,o0)::
 (nat_lit 99,Lq P)::
 (nat_lit 100,Ld)::
 (nat_lit 103,mD)::
 (nat_lit 110,LQ)::
 (nat_lit 111,o0)::
 (nat_lit 113,Mq)::
 (nat_lit 114,o0)::
 (nat_lit 116,M7)::
 (nat_lit 117,Lk)::
 (nat_lit 118,o0)::
 (nat_lit 119,Mf P)::
 (nat_lit 120,LK)::
 (nat_lit 123,mD)::
 (nat_lit 130,Oj)::
 (nat_lit 131,o0)::
 (nat_lit 133,Ob)::
 (nat_lit 134,o0)::
 (nat_lit 136,MK)::
 (nat_lit 137,Pu)::
 (nat_lit 138,o0)::
 (nat_lit 139,Ox P)::
 (nat_lit 140,Qv)::
 (nat_lit 143,mD)::
 (nat_lit 150,o0)::
 (nat_lit 152,o100)::
 (nat_lit 153,o0)::
 (nat_lit 155,DR)::
 (nat_lit 156,Ca)::
 (nat_lit 157,Du)::
 (nat_lit 158,Eb P)::
 (nat_lit 159,Ay)::
 (nat_lit 162,o0)::
 (nat_lit 164,CK)::
 (nat_lit 165,o0)::
 (nat_lit 167,o111)::
 (nat_lit 168,CJ)::
 (nat_lit 169,o0)::
 (nat_lit 171,Cq)::
 (nat_lit 172,o0)::
 (nat_lit 174,BX)::
 (nat_lit 175,Ck)::
 (nat_lit 176,o0)::
 (nat_lit 178,Fd)::
 (nat_lit 179,o0)::
 (nat_lit 181,Dq)::
 (nat_lit 182,EY)::
 (nat_lit 183,o0)::
 (nat_lit 186,Ce)::
 (nat_lit 187,CT)::
 (nat_lit 195,o0)::
 (nat_lit 196,Dl)::
 (nat_lit 197,o0)::
 (nat_lit 199,DX)::
 (nat_lit 200,o0)::
 (nat_lit 202,Cv)::
 (nat_lit 203,C_)::
 (nat_lit 204,o0)::
 (nat_lit 206,Bg)::
 (nat_lit 207,o0)::
 (nat_lit 209,Em)::
 (nat_lit 210,Cr)::
 (nat_lit 211,o0)::
 (nat_lit 213,CP)::
 (nat_lit 214,o0)::
 (nat_lit 216,Et)::
 (nat_lit 217,BK)::
 (nat_lit 218,o0)::
 (nat_lit 220,Dw)::
 (nat_lit 221,o0)::
 (nat_lit 223,Ds)::
 (nat_lit 224,Eg)::
 (nat_lit 225,o0)::
 (nat_lit 227,Dc)::
 (nat_lit 228,o0)::
 (nat_lit 230,Cy)::
 (nat_lit 231,A_)::
 (nat_lit 232,o0)::
 (nat_lit 234,BW)::
 (nat_lit 235,o0)::
 (nat_lit 237,Ec)::
 (nat_lit 238,Bk)::
 (nat_lit 239,o0)::
 (nat_lit 241,CV)::
 (nat_lit 242,o0)::
 (nat_lit 244,Dg)::
 (nat_lit 245,BP)::
 (nat_lit 246,o0)::
 (nat_lit 248,Dj)::
 (nat_lit 249,o0)::
 (nat_lit 251,Cj)::
 (nat_lit 252,Fe)::
 (nat_lit 253,o0)::
 (nat_lit 255,Bl)::
 (nat_lit 256,o0)::
 (nat_lit 258,BV)::
 (nat_lit 259,Cu)::
 (nat_lit 260,CG)::
 (nat_lit 261,Di P)::
 (nat_lit 262,Dm)::
 (nat_lit 263,DG)::
 (nat_lit 264,Ci)::
 (nat_lit 267,KR P)::
 (nat_lit 268,GX P)::
 (nat_lit 269,o0)::
 (nat_lit 271,HS)::
 (nat_lit 272,o0)::
 (nat_lit 274,Ke)::
 (nat_lit 275,JB)::
 (nat_lit 276,o0)::
 (nat_lit 278,FJ)::
 (nat_lit 279,o0)::
 (nat_lit 281,Jr)::
 (nat_lit 282,JR)::
 (nat_lit 283,o0)::
 (nat_lit 285,Ky)::
 (nat_lit 286,o0)::
 (nat_lit 288,K3)::
 (nat_lit 289,Im)::
 (nat_lit 290,o0)::
 (nat_lit 293,JT)::
 (nat_lit 294,G8)::
 (nat_lit 295,o0)::
 (nat_lit 297,KH)::
 (nat_lit 298,o0)::
 (nat_lit 300,Gh)::
 (nat_lit 301,Gi)::
 (nat_lit 302,o0)::
 (nat_lit 304,Jw)::
 (nat_lit 305,o0)::
 (nat_lit 307,K6)::
 (nat_lit 308,HD)::
 (nat_lit 309,o0)::
 (nat_lit 311,JV)::
 (nat_lit 312,o0)::
 (nat_lit 314,Gd)::
 (nat_lit 315,HX)::
 (nat_lit 316,o0)::
 (nat_lit 318,F_)::
 (nat_lit 319,o0)::
 (nat_lit 321,GZ)::
 (nat_lit 322,Hx)::
 (nat_lit 323,o0)::
 (nat_lit 325,HR)::
 (nat_lit 326,o0)::
 (nat_lit 328,HQ)::
 (nat_lit 329,Ji)::
 (nat_lit 330,o0)::
 (nat_lit 332,JG)::
 (nat_lit 333,o0)::
 (nat_lit 335,KY)::
 (nat_lit 336,Jo)::
 (nat_lit 337,o0)::
 (nat_lit 339,Hs)::
 (nat_lit 340,o0)::
 (nat_lit 342,Km)::
 (nat_lit 343,Jy)::
 (nat_lit 344,o0)::
 (nat_lit 347,Ju)::
 (nat_lit 348,Hi)::
 (nat_lit 349,o0)::
 (nat_lit 352,KD)::
 (nat_lit 353,Ge)::
 (nat_lit 354,o0)::
 (nat_lit 356,FP)::
 (nat_lit 357,o0)::
 (nat_lit 359,Fz)::
 (nat_lit 360,Gy)::
 (nat_lit 361,o0)::
 (nat_lit 363,Gk)::
 (nat_lit 364,o0)::
 (nat_lit 366,KZ)::
 (nat_lit 367,K7)::
 (nat_lit 368,o0)::
 (nat_lit 370,G6)::
 (nat_lit 371,o0)::
 (nat_lit 373,Ip)::
 (nat_lit 374,Hq)::
 (nat_lit 375,o0)::
 (nat_lit 378,Gu)::
 (nat_lit 379,Jt)::
 (nat_lit 380,o0)::
 (nat_lit 383,JW)::
 (nat_lit 384,Gb)::
 (nat_lit 385,o0)::
 (nat_lit 387,JL)::
 (nat_lit 388,o0)::
 (nat_lit 390,J1)::
 (nat_lit 391,JS)::
 (nat_lit 392,o0)::
 (nat_lit 394,Jd)::
 (nat_lit 395,o0)::
 (nat_lit 397,JQ)::
 (nat_lit 398,FQ)::
 (nat_lit 399,o0)::
 (nat_lit 401,Hj)::
 (nat_lit 402,o0)::
 (nat_lit 404,IW)::
 (nat_lit 405,JM)::
 (nat_lit 406,o0)::
 (nat_lit 408,Ib)::
 (nat_lit 409,o0)::
 (nat_lit 411,JF)::
 (nat_lit 412,Ia)::
 (nat_lit 413,o0)::
 (nat_lit 415,Ft)::
 (nat_lit 416,o0)::
 (nat_lit 418,IV)::
 (nat_lit 419,I_)::
 (nat_lit 420,o0)::
 (nat_lit 422,Hh)::
 (nat_lit 423,o0)::
 (nat_lit 425,Gx)::
 (nat_lit 426,JK)::
 (nat_lit 427,o0)::
 (nat_lit 429,ot #[vs "_law_d" 747,vs "_law_names" 748,vs "_law_kinds" 749,vs "_law_way" 750])::
 (nat_lit 430,o0)::
 (nat_lit 432,ok "_law_leaf" 744 745 746 246 3 427 428 (vr 429) (vr 430) (vr 431) 751 752)::
 (nat_lit 433,ft "_law_leaf" 48 vn z2 (vr 432))::
 (nat_lit 434,o0)::
 (nat_lit 436,ot #[vs "_law_d" 757,vs "_law_deep" 758,vs "_law_names" 759,vs "_law_kinds" 760,vs "_law_way" 761,vs "_law_word_here" 762])::
 (nat_lit 437,o0)::
 (nat_lit 439,ok "_law_tree" 754 755 756 253 4 434 435 (vr 436) (vr 437) (vr 438) 763 764)::
 (nat_lit 440,ft "_law_tree" 49 vn z2 (vr 439))::
 (nat_lit 441,o0)::
 (nat_lit 444,ok "_law_passes" 766 767 768 261 4 441 442 vn vn (vr 443) 769 770)::
 (nat_lit 445,ft "_law_passes" 50 vn z2 (vr 444))::
 (nat_lit 446,o0)::
 (nat_lit 448,ot #[vs "_law_d" 775,vs "_law_fields_here" 776])::
 (nat_lit 449,o0)::
 (nat_lit 451,ok "_law_kind_of" 772 773 774 275 1 446 447 (vr 448) (vr 449) (vr 450) 777 778)::
 (nat_lit 452,ft "_law_kind_of" 51 vn z2 (vr 451))::
 (nat_lit 453,o0)::
 (nat_lit 456,ok "_law_names_of" 780 781 782 278 2 453 454 vn vn (vr 455) 783 784)::
 (nat_lit 457,ft "_law_names_of" 52 vn z2 (vr 456))::
 (nat_lit 458,o0)::
 (nat_lit 461,ok "_law_near_values" 786 787 788 280 3 458 459 vn vn (vr 460) 789 790)::
 (nat_lit 462,ft "_law_near_values" 53 vn z2 (vr 461))::
 (nat_lit 463,o0)::
 (nat_lit 465,ot #[vs "_law_test" 795,vs "_law_found" 796,vs "_law_part" 797])::
 (nat_lit 466,o0)::
 (nat_lit 468,ok "_law_leaves_any" 792 793 794 290 1 463 464 (vr 465) (vr 466) (vr 467) 798 799)::
 (nat_lit 469,ft "_law_leaves_any" 54 vn z2 (vr 468))::
 (nat_lit 470,o0)::
 (nat_lit 472,ot #[vs "_law_one" 804,vs "_law_other" 805,vs "_law_title" 806,vs "_law_fields_here" 807,vs "_law_row" 808])::
 (nat_lit 473,o0)::
 (nat_lit 475,ok "_law_parts_them" 801 802 803 296 5 470 471 (vr 472) (vr 473) (vr 474) 809 810)::
 (nat_lit 476,ft "_law_parts_them" 55 vn z2 (vr 475))::
 (nat_lit 477,o0)::
 (nat_lit 479,ot #[vs "_law_script" 815,vs "_law_d" 816,vs "_law_title" 817,vs "_law_fields_here" 818,vs "_law_names" 819,vs "_law_one" 820,vs "_law_other" 821,vs "_law_sort" 822,vs "_law_found" 823,vs "_law_step" 824,vs "_law_values" 825,vs "_law_third" 826])::
 (nat_lit 480,o0)::
 (nat_lit 482,ok "law" 812 813 814 298 1 477 478 (vr 479) (vr 480) (vr 481) 827 828)::
 (nat_lit 483,ft "law" 56 vn z2 (vr 482))::[]
def Nz:List Addr:=[2,3,15,17,18,20,21,22,29,30,32,33,35,36,37,38,39,40,43,50,51,53,54,56,57,58,59,60,63,70,71,73,74,76,77,78,79,80,83,90,91,93,94,96,97,98,99,100,103,110,111,113,114,116,117,118,119,120,123,130,131,133,134,136,137,138,139,140,143,150,152,153,155,156,157,158,159,162,164,165,167,168,169,171,172,174,175,176,178,179,181,182,183,186,187,195,196,197,199,200,202,203,204,206,207,209,210,211,213,214,216,217,218,220,221,223,224,225,227,228,230,231,232,234,235,237,238,239,241,242,244,245,246,248,249,251,252,253,255,256,258,259,260,261,262,263,264,267,268,269,271,272,274,275,276,278,279,281,282,283,285,286,288,289,290,293,294,295,297,298,300,301,302,304,305,307,308,309,311,312,314,315,316,318,319,321,322,323,325,326,328,329,330,332,333,335,336,337,339,340,342,343,344,347,348,349,352,353,354,356,357,359,360,361,363,364,366,367,368,370,371,373,374,375,378,379,380,383,384,385,387,388,390,391,392,394,395,397,398,399,401,402,404,405,406,408,409,411,412,413,415,416,418,419,420,422,423,425,426,427,429,430,432,433,434,436,437,439,440,441,444,445,446,448,449,451,452,453,456,457,458,461,462,463,465,466,468,469,470,472,473,475,476,477,479,480,482,483]
theorem eK:∀ P,Nz=(KK P).map (·.1):=fun P=>by kernel_rfl
def vw:Program:={ PySem.Challenge.pw_lanescribe_k08_whole_great_fields_parted with main:={ PySem.Challenge.pw_lanescribe_k08_whole_great_fields_parted.main with body:=[tp 0,tp 2,tp 3,tp 4,tp 5,tp 6,tp 7,tp 8,tp 10,tp 11,tp 12,tp 13,tp 14,tp 15,tp 16,tp 17,tp 19,tp 20,tp 21,tp 22,tp 23,tp 24,tp 25,tp 26,tp 27,tp 28,tp 29,tp 30,tp 31,tp 32,tp 33,tp 34,tp 35,tp 37,tp 38,tp 39,tp 40,tp 41,tp 42,tp 43,tp 44,tp 45,tp 46,tp 47,tp 48,tp 49,tp 50,tp 51,tp 52,tp 53,tp 54,tp 55,tp 56] } }
def ls:List Str:=[u "ScribeError",u "BadName",u "BadBounds",u "BadTest",u "Taken",u "Full",u "Kind",u "WITHIN",u "SIGN_OF"]
def lv:List (Str×WData):=[]
abbrev Xt:Shared->Bool:=fun s=>xlAt vw lv s && recOk (RowW.records (OpenRow.toRowW PySem.Challenge.rw_lanescribe_k08_whole_great_fields_parted.row)) s
abbrev hk:Hook:=kHook KK Nz eK
theorem said:PySem.Challenge.rw_lanescribe_k08_whole_great_fields_parted.wellSaid=true:=by kernel_rfl
theorem openP:opening (OpenRow.toRowW PySem.Challenge.rw_lanescribe_k08_whole_great_fields_parted.row).prog=plainProg (OpenRow.toRowW PySem.Challenge.rw_lanescribe_k08_whole_great_fields_parted.row).prog.main.scope.names:=by kernel_rfl
theorem xK {p:Program} {w:World} {N L:Nat} {s0 s':Shared} {t':Thread} {m0:Nat} {ann:Option Value} {β:Type} {F:Shared->β} {X:β} (h1:(s0.heap.isNs mainGlobals && s0.gens.size == 0)=true) (h2:s0.heap.objs.size=m0) (h3:s0.heap.nsMap mainGlobals "__annotations__" = ann)
 (chain:∀ r,topRun treeTable p w m0 ann L s' t'=some r->topRun treeTable p w m0 ann N s0 (topStub p)=some r)
 (last:((topRun treeTable p w m0 ann L s' t').bind fun s₁=>match staticsOk (importedModules p.main.body) s0.heap s₁.heap && namesBound p s₁.heap && gensDone s₁ && laidKept s0.heap s₁.heap with
  |true=>some s₁
  |false=>none).map F=some X):(topFrom treeTable p w N s0).map F=some X:=by
 cases hA:topRun treeTable p w m0 ann L s' t' with
 |none=>rw [hA] at last;cases last
 | some r=>
   have e:=chain r hA
   unfold topFrom
   rw [h1,h2,h3,e]
   rw [hA] at last
   exact last
abbrev pp:Program:=(OpenRow.toRowW PySem.Challenge.rw_lanescribe_k08_whole_great_fields_parted.row).prog
def env:Env:={ scope:=pp.main.scope,locals:=mainNs,globals:=mainNs,cells:=[],code:=vr 13,frame:=some 14 }
abbrev cd:Code:=.body (behindTheImports pp) env
abbrev fp:Pos:={ line:=0,col:=0,endLine:=0,endCol:=0 }
abbrev an:Option Value:=some (vr 6)
abbrev vZ (w:World) (os:OsState):Shared:=⟨boot_heap w.params,Array.mk [],boot_drawn,boot_toks,os⟩
def Ra (P:Params):Heap:=⟨⟨boot_o_0 P::boot_o_1 P::boot_o_2 P::boot_o_3 P::boot_o_4 P::boot_o_5 P::boot_o_6 P::boot_o_7 P::boot_o_8 P::boot_o_9 P::boot_o_10 P::o0::o1::o2::o3::[]⟩,{ }⟩
abbrev R1 (w:World) (os:OsState):Shared:=⟨Ra w.params,Array.mk [],{ },187,os⟩
abbrev QL:Pos:={ line:=0,col:=0,endLine:=0,endCol:=0 }
def Rk (P:Params):Heap:=⟨⟨boot_o_0 P::boot_o_1 P::boot_o_2 P::boot_o_3 P::boot_o_4 P::boot_o_5 P::boot_o_6 P::boot_o_7 P::boot_o_8 P::boot_o_9 P::boot_o_10 P::o0::o1::o2::o3::[]⟩,{ }⟩
abbrev PQ (w:World) (os:OsState):Shared:=⟨Rk w.params,Array.mk [],{ },187,os⟩
abbrev Mx:Pos:={ line:=0,col:=0,endLine:=0,endCol:=0 }
theorem Rj (w:World) (os:OsState):topGo treeTable pp w 11 an 12 (vZ w os) (topStub pp)=some (R1 w os,⟨denote treeTable cd,cd,QL,[topFrame fp]⟩):=by (revert w os;refine (byRow2 "special-get-raises" ?_ ?_:∀ w,_) <;> (intro w os;kernel_rfl))
theorem Ri (w:World) (os:OsState):segRun treeTable pp w 11 an 1 1 (R1 w os) (blockOf (behindTheImports pp) env cd QL [topFrame fp])=some (.next,PQ w os,cd,Mx):=by (revert w os;refine (byRow2 "special-get-raises" ?_ ?_:∀ w,_) <;> (intro w os;kernel_rfl))
def Nj (P:Params):Heap:=⟨⟨boot_o_0 P::boot_o_1 P::boot_o_2 P::o4 P::boot_o_4 P::boot_o_5 P::boot_o_6 P::boot_o_7 P::boot_o_8 P::boot_o_9 P::boot_o_10 P::o0::o5::o2::o3::o0::o1::o6::o0::o7::o8::o9::M4::mK::Nf P::o0::PK::N6::Pa::M8::o0::o1::M6::o0::O1::Mv::Mr::LC::Lp P::Rr::Lw::O6::Qa::mD::mK::Ny P::o0::Od::Oo::Qj::Ms::o0::o1::M9::o0::MT::Lz::Ls::o0::Mu P::Lb::Q7::OJ::mD::mK::Qs P::o0::Qh::Nq::OD::Li::o0::o1::Mi::o0::Om::Lf::Mh::o0::Lj P::Ml::Pb::Ng::mD::mK::MJ P::o0::Qd::Ol::Qu::Mt::o0::o1::Ma::o0::Q6::K_::L_::o0::Lq P::Ld::Qp::Nk::mD::mK::PX P::o0::Qy::Py::PB::LQ::o0::o1::Mq::o0::P_::M7::Lk::o0::Mf P::LK::N5::Mz::[]⟩,{ }⟩
abbrev Gp (w:World) (os:OsState):Shared:=⟨Nj w.params,Array.mk [],{ },326,os⟩
abbrev FW:Pos:={ line:=22,col:=0,endLine:=25,endCol:=50 }
abbrev N_:List Stmt:=((behindTheImports pp).drop 0).take 7
theorem Rq (w:World) (os:OsState):segRun treeTable pp w 11 an 1 1245 (PQ w os) (piecesOf N_ env cd Mx [topFrame fp])=some (.next,Gp w os,cd,FW):=by (revert w os;refine (byRow2 "special-get-raises" ?_ ?_:∀ w,_) <;> (intro w os;kernel_rfl))
def Jh (P:Params):Heap:=⟨⟨boot_o_0 P::boot_o_1 P::boot_o_2 P::Rn P::boot_o_4 P::boot_o_5 P::boot_o_6 P::boot_o_7 P::boot_o_8 P::boot_o_9 P::boot_o_10 P::o0::RG::o2::o3::o0::o1::o6::o0::o7::o8::o9::M4::mK::Nf P::o0::PK::N6::Pa::M8::o0::o1::M6::o0::O1::Mv::Mr::LC::Lp P::PP::Lw::O6::Qa::mD::mK::Ny P::o0::Od::Oo::Qj::Ms::o0::o1::M9::o0::MT::Lz::Ls::o0::Mu P::Lb::Q7::OJ::mD::mK::Qs P::o0::Qh::Nq::OD::Li::o0::o1::Mi::o0::Om::Lf::Mh::o0::Lj P::Ml::Pb::Ng::mD::mK::MJ P::o0::Qd::Ol::Qu::Mt::o0::o1::Ma::o0::Q6::K_::L_::o0::Lq P::Ld::Qp::Nk::mD::mK::PX P::o0::Qy::Py::PB::LQ::o0::o1::Mq::o0::P_::M7::Lk::o0::Mf P::LK::N5::Mz::mD::mK::R6 P::o0::QS::QJ::QX::Oj::o0::o1::Ob::o0::Q_::MK::Pu::o0::Ox P::Qv::R5::QM::mD::mK::QF P::o0::QW::QG::QT::o0::o1::o100::o0::Hv::DR::Ca::Du::Eb P::Ay::FT::Ja::o0::o1::CK::o0::Js::o111::CJ::o0::o1::Cq::o0::Kp::BX::Ck::o0::o1::Fd::o0::Fx::Dq::EY::o0::o1::Gm::Ce::CT::o0::mK::GR P::o0::JZ::Ha::K4::o0::Dl::o0::o1::DX::o0::Iw::Cv::C_::o0::o1::Bg::o0::Ga::Em::Cr::o0::o1::CP::o0::Ie::Et::BK::o0::o1::Dw::o0::Je::Ds::Eg::o0::o1::Dc::o0::Hg::Cy::A_::o0::o1::BW::o0::JN::Ec::Bk::o0::o1::CV::o0::KN::Dg::BP::o0::o1::Dj::o0::Kg::Cj::Fe::o0::o1::Bl::o0::Kl::BV::Cu::CG::Di P::Dm::DG::Ci::JD::Hc::[]⟩,{ }⟩
abbrev As (w:World) (os:OsState):Shared:=⟨Jh w.params,Array.mk [],{ },515,os⟩
abbrev Ab:Pos:={ line:=55,col:=0,endLine:=94,endCol:=54 }
abbrev Bb:List Stmt:=((behindTheImports pp).drop 7).take 11
theorem Nh (w:World) (os:OsState):segRun treeTable pp w 11 an 1 1138 (Gp w os) (piecesOf Bb env cd FW [topFrame fp])=some (.next,As w os,cd,Ab):=by (revert w os;refine (byRow2 "special-get-raises" ?_ ?_:∀ w,_) <;> (intro w os;kernel_rfl))
def FZ (P:Params):Heap:=⟨⟨boot_o_0 P::boot_o_1 P::boot_o_2 P::Qt P::boot_o_4 P::boot_o_5 P::boot_o_6 P::boot_o_7 P::boot_o_8 P::boot_o_9 P::boot_o_10 P::o0::Og::o2::o3::o0::o1::o6::o0::o7::o8::o9::M4::mK::Nf P::o0::PK::N6::Pa::M8::o0::o1::M6::o0::O1::Mv::Mr::LC::Lp P::PP::Lw::O6::Qa::mD::mK::Ny P::o0::Od::Oo::Qj::Ms::o0::o1::M9::o0::MT::Lz::Ls::o0::Mu P::Lb::Q7::OJ::mD::mK::Qs P::o0::Qh::Nq::OD::Li::o0::o1::Mi::o0::Om::Lf::Mh::o0::Lj P::Ml::Pb::Ng::mD::mK::MJ P::o0::Qd::Ol::Qu::Mt::o0::o1::Ma::o0::Q6::K_::L_::o0::Lq P::Ld::Qp::Nk::mD::mK::PX P::o0::Qy::Py::PB::LQ::o0::o1::Mq::o0::P_::M7::Lk::o0::Mf P::LK::N5::Mz::mD::mK::R6 P::o0::QS::QJ::QX::Oj::o0::o1::Ob::o0::Q_::MK::Pu::o0::Ox P::Qv::R5::QM::mD::mK::QF P::o0::QW::QG::QT::o0::o1::o100::o0::Hv::DR::Ca::Du::Eb P::Ay::FT::Ja::o0::o1::CK::o0::Js::o111::CJ::o0::o1::Cq::o0::Kp::BX::Ck::o0::o1::Fd::o0::Fx::Dq::EY::o0::o1::Gm::Ce::CT::o0::mK::GR P::o0::JZ::Ha::K4::o0::Dl::o0::o1::DX::o0::Iw::Cv::C_::o0::o1::Bg::o0::Ga::Em::Cr::o0::o1::CP::o0::Ie::Et::BK::o0::o1::Dw::o0::Je::Ds::Eg::o0::o1::Dc::o0::Hg::Cy::A_::o0::o1::BW::o0::JN::Ec::Bk::o0::o1::CV::o0::KN::Dg::BP::o0::o1::Dj::o0::Kg::Cj::Fe::o0::o1::Bl::o0::Kl::BV::Cu::CG::Di P::Dm::DG::Ci::JD::Hc::KR P::GX P::o0::o1::HS::o0::Nu::Ke::JB::o0::o1::FJ::o0::Oh::Jr::JR::o0::o1::Ky::o0::Qg::K3::Im::o0::o1::Pg::JT::G8::o0::o1::KH::o0::Nr::Gh::Gi::o0::o1::Jw::o0::O3::K6::HD::o0::o1::JV::o0::o200::Gd::HX::o0::o1::F_::o0::Oi::GZ::Hx::o0::o1::HR::o0::Qf::HQ::Ji::o0::o1::JG::o0::Qz::KY::Jo::o0::o1::Hs::o0::Oc::Km::Jy::o0::o1::O4::Ju::Hi::o0::o1::Oa::KD::Ge::o0::o1::FP::o0::Ow::Fz::Gy::o0::o1::Gk::o0::Oz::KZ::K7::o0::o1::G6::o0::NB::Ip::Hq::o0::o1::Pr::Gu::Jt::o0::o1::O2::JW::Gb::o0::o1::JL::o0::Pk::J1::JS::o0::o1::Jd::o0::Nt::JQ::FQ::o0::o1::Hj::o0::QC::IW::JM::o0::o1::Ib::o0::O5::JF::Ia::o0::o1::Ft::o0::Ov::IV::I_::o0::o1::Hh::o0::Np::Gx::JK::[]⟩,{ }⟩
abbrev oA (w:World) (os:OsState):Shared:=⟨FZ w.params,Array.mk [],{ },744,os⟩
abbrev nU:Pos:={ line:=244,col:=0,endLine:=245,endCol:=139 }
abbrev Df:List Stmt:=((behindTheImports pp).drop 18).take 30
theorem Qw (w:World) (os:OsState):segRun treeTable pp w 11 an 1 854 (As w os) (piecesOf Df env cd Ab [topFrame fp])=some (.next,oA w os,cd,nU):=by (revert w os;refine (byRow2 "special-get-raises" ?_ ?_:∀ w,_) <;> (intro w os;kernel_rfl))
abbrev Cd:List Stmt:=(behindTheImports pp).drop 48
theorem Iz:behindTheImports pp=(N_++(Bb++(Df++Cd))):=by kernel_rfl
abbrev wf (w:World):World:=w.withFollow "special-get-raises" false
theorem Iu (w:World) (os:OsState):((topRun treeTable pp (wf w) 11 an 779 (oA (wf w) os) (restOf Cd env cd nU [topFrame fp])).bind fun s₁=>match staticsOk (importedModules pp.main.body) (vZ (wf w) os).heap s₁.heap && namesBound pp s₁.heap && gensDone s₁ && laidKept (vZ (wf w) os).heap s₁.heap with
 |true=>some s₁
 |false=>none).map (fun s=>(openSeen vw ls (importedModules pp.main.body) Xt true s,hk.obs s))=some (openGood vw ls,hk.val (wf w)):=by kernel_rfl
abbrev wt (w:World):World:=w.withFollow "special-get-raises" true
theorem HH (w:World) (os:OsState):((topRun treeTable pp (wt w) 11 an 779 (oA (wt w) os) (restOf Cd env cd nU [topFrame fp])).bind fun s₁=>match staticsOk (importedModules pp.main.body) (vZ (wt w) os).heap s₁.heap && namesBound pp s₁.heap && gensDone s₁ && laidKept (vZ (wt w) os).heap s₁.heap with
 |true=>some s₁
 |false=>none).map (fun s=>(openSeen vw ls (importedModules pp.main.body) Xt true s,hk.obs s))=some (openGood vw ls,hk.val (wt w)):=by kernel_rfl
theorem last (w:World) (os:OsState):((topRun treeTable pp w 11 an 779 (oA w os) (restOf Cd env cd nU [topFrame fp])).bind fun s₁=>match staticsOk (importedModules pp.main.body) (vZ w os).heap s₁.heap && namesBound pp s₁.heap && gensDone s₁ && laidKept (vZ w os).heap s₁.heap with
 |true=>some s₁
 |false=>none).map (fun s=>(openSeen vw ls (importedModules pp.main.body) Xt true s,hk.obs s))=some (openGood vw ls,hk.val w):=byRow2 "special-get-raises" (P:=fun w=>((topRun treeTable pp w 11 an 779 (oA w os) (restOf Cd env cd nU [topFrame fp])).bind fun s₁=>match staticsOk (importedModules pp.main.body) (vZ w os).heap s₁.heap && namesBound pp s₁.heap && gensDone s₁ && laidKept (vZ w os).heap s₁.heap with
 |true=>some s₁
 |false=>none).map (fun s=>(openSeen vw ls (importedModules pp.main.body) Xt true s,hk.obs s))=some (openGood vw ls,hk.val w)) (fun w=>Iu w os) (fun w=>HH w os) w
theorem chain (w:World) (os:OsState) (r:Shared) (h:topRun treeTable pp w 11 an 779 (oA w os) (restOf Cd env cd nU [topFrame fp])=some r):topRun treeTable pp w 11 an 4029 (vZ w os) (topStub pp)=some r:=by
 have k:topRun treeTable pp w 11 an 4016 (PQ w os) (restOf (N_++(Bb++(Df++Cd))) env cd Mx [topFrame fp])=some r:=piece_app (Rq w os) (piece_app (Nh w os) (piece_app (Qw w os) (h)))
 rw [← Iz] at k
 exact go_top (n:=12) (N:=4017) (Rj w os) (piece_block (n:=1) (N:=4016) (Ri w os) k)
theorem run (w:World) (os:OsState):(topFrom treeTable pp w 4029 (vZ w os)).map (fun s=>(openSeen vw ls (importedModules pp.main.body) Xt true s,hk.obs s))=some (openGood vw ls,hk.val w):=xK (s0:=vZ w os) (by kernel_rfl) (by kernel_rfl) (by kernel_rfl) (chain w os) (last w os)
theorem left:LeftO (OpenRow.toRowW PySem.Challenge.rw_lanescribe_k08_whole_great_fields_parted.row).prog vw ls Xt hk.obs hk.val 4029:=vy openP (by decide) (fun s=>by kernel_rfl) run
theorem head (hw:(OpenRow.toRowW PySem.Challenge.rw_lanescribe_k08_whole_great_fields_parted.row).promised) {d:DefRec} {kwd:List (Str×Expr)} (hdef:defOf vw PySem.Challenge.rw_lanescribe_k08_whole_great_fields_parted.row.name=some (d,kwd)) (hp:PySem.Challenge.rw_lanescribe_k08_whole_great_fields_parted.row.prog.theDef PySem.Challenge.rw_lanescribe_k08_whole_great_fields_parted.row.name=some (d.params,d.body,d.scope)) (hk1:kwWritten? d.params.kwonlyargs d.params.kw_defaults=some kwd)
 (hc:WalkO vw ls (XL vw lv) (kHook KK Nz eK).says (OpenRow.toRowW PySem.Challenge.rw_lanescribe_k08_whole_great_fields_parted.row) d kwd fun f vs=>PySem.call f vs):PySem.Challenge.rw_lanescribe_k08_whole_great_fields_parted.Holds:=
 holds_law said fun said'=>holds_open (q:=vw) (loose:=ls) (Xt:=Xt) (XP:=XL vw lv) (Yf:=hk.obs) (Ya:=hk.val) (YP:=hk.says) (N:=4029) left hk.of hk.keeps (fun s e=>xl_of s (Bool.and_eq_true_iff.mp e).1) XL.keeps hdef hp hk1 (fun s e=>recFacts_of (Bool.and_eq_true_iff.mp e).2) (by rfl) said' (by decide +kernel) ⟨rfl,rfl,rfl,rfl,rfl,by decide +kernel⟩ hw hc
end
end Kd
namespace L2
open PySem PySem.Spec PyProof.Rows
abbrev Key:=Sum Int Str
def n6:Key->Value->Bool
 |.inl k,v=>Value.isInt k v
 |.inr x,v=>Value.isStrOf x v
def PJ (w:World):Key->Int
 |.inl k=>hashInt k
 |.inr x=>hashStr w x
theorem cz:∀ {k:Key} {v:Value},n6 k v=true->(∃ i t,k=Sum.inl i/\v=Value.int i t)∨(∃ x t,k=Sum.inr x/\v=Value.str x t)
 | .inl i,v,h=>by
   obtain ⟨t,e⟩:=Value.isInt_shape (k:=i) (v:=v) h
   exact .inl ⟨i,t,rfl,e⟩
 | .inr x,v,h=>by
   obtain ⟨t,e⟩:=Value.isStrOf_shape (x:=x) (v:=v) h
   exact .inr ⟨x,t,rfl,e⟩
theorem vR (i:Int) (t:Tok):n6 (.inl i) (.int i t)=true:=by simp [n6,Value.isInt]
theorem uP (x:Str) (t:Tok):n6 (.inr x) (.str x t)=true:=by simp [n6,Value.isStrOf]
theorem BL (a b:Int):decide ((Sum.inl a:Key)=Sum.inl b)=(a == b):=by
 by_cases e:a=b
 ·subst e;simp
 ·have h:¬ (Sum.inl a:Key)=Sum.inl b:=fun q=>e (Sum.inl.inj q)
  rw [decide_eq_false h]
  exact (beq_eq_false_iff_ne.mpr e).symm
theorem Ax (a b:Str):decide ((Sum.inr a:Key)=Sum.inr b)=decide (a=b):=by
 by_cases e:a=b
 ·subst e;simp
 ·have h:¬ (Sum.inr a:Key)=Sum.inr b:=fun q=>e (Sum.inr.inj q)
  rw [decide_eq_false h,decide_eq_false e]
theorem Bd (a:Int) (b:Str):decide ((Sum.inl a:Key)=Sum.inr b)=false:=decide_eq_false (fun q=>nomatch q)
theorem Dn (a:Str) (b:Int):decide ((Sum.inr a:Key)=Sum.inl b)=false:=decide_eq_false (fun q=>nomatch q)
def cH (prog:Program) (w:World):PySem.KeyKind prog w Key where
 is:=n6
 hash:=PJ w
 inj:=fun v a b ha hb=>by
  rcases cz ha with ⟨i,t,rfl,rfl⟩|⟨x,t,rfl,rfl⟩
  ·rcases cz hb with ⟨j,u,rfl,e⟩|⟨y,u,rfl,e⟩
   ·injection e with e1 _;rw [e1]
   ·exact nomatch e
  ·rcases cz hb with ⟨j,u,rfl,e⟩|⟨y,u,rfl,e⟩
   ·exact nomatch e
   ·injection e with e1 _;rw [e1]
 byValue:=fun k v h=>by
  rcases cz h with ⟨i,t,rfl,rfl⟩|⟨x,t,rfl,rfl⟩ <;> rfl
 pyHash:=fun hv h=>by
  rcases cz hv with ⟨i,t,rfl,rfl⟩|⟨x,t,rfl,rfl⟩
  ·exact wpAny_pyHash_int h
  ·exact wpAny_pyHash_str h
 eqBool:=fun hu hv h=>by
  rcases cz hu with ⟨i,t,rfl,rfl⟩|⟨x,t,rfl,rfl⟩
  ·rcases cz hv with ⟨j,u,rfl,rfl⟩|⟨y,u,rfl,rfl⟩
   ·rw [BL] at h;exact wpAny_eqBool_int h
   ·rw [Bd] at h;exact SeqAt.EqAt.int_str i t y u _ _ _ _ h
  ·rcases cz hv with ⟨j,u,rfl,rfl⟩|⟨y,u,rfl,rfl⟩
   ·rw [Dn] at h;exact SeqAt.EqAt.str_int x t j u _ _ _ _ h
   ·rw [Ax] at h;exact wpAny_eqBool_str h
 «strs»:=fun k x t v h=>by
  rcases cz h with ⟨i,u,rfl,e⟩|⟨y,u,rfl,e⟩
  ·exact nomatch e
  ·injection e with e1 _
   subst e1
   cases v <;> rfl
theorem q9 (prog:Program) (w:World) (i:Int) (t:Tok):(cH prog w).is (.inl i) (.int i t)=true:=vR i t
theorem qe (prog:Program) (w:World) (x:Str) (t:Tok):(cH prog w).is (.inr x) (.str x t)=true:=uP x t
inductive V where
 |non|bl (b:Bool)|int (i:Int)|str (x:Str)|byt (b:Array UInt8)|flt (b:UInt64)|ref (a:Addr)|ty (n:String)
 deriving DecidableEq
def RelV:V->Value->Prop
 |.non,u=>u=Value.none
 |.bl b,u=>u=Value.bool b
 |.int i,u=>∃ t,u=Value.int i t
 |.str x,u=>∃ t,u=Value.str x t
 |.byt b,u=>∃ t,u=Value.bytes b t
 |.flt b,u=>∃ t,u=Value.float b t
 |.ref a,u=>u=Value.ref a
 |.ty n,u=>u=Value.type n
abbrev Vals:List V->List Value->Prop:=Paired RelV
theorem Vals.length {xs:List V} {us:List Value} (r:Vals xs us):xs.length=us.length:=Paired.length r
theorem Vals.get:∀ {xs:List V} {us:List Value} {i:Nat} {x:V},Vals xs us->xs[i]?=some x->∃ u,us[i]?=some u/\RelV x u
 |_,_,_,_,.nil,e=>by simp at e
 |_,_,0,_,.cons r _,e=>by simp at e;subst e;exact ⟨_,rfl,r⟩
 | _,_,i+1,x,.cons _ t,e=>by
   obtain ⟨u,h1,h2⟩:=Vals.get (i:=i) (x:=x) t (by simpa using e)
   exact ⟨u,by simpa using h1,h2⟩
theorem Vals.append:∀ {xs ys:List V} {us ws:List Value},Vals xs us->Vals ys ws->Vals (xs++ys) (us++ws)
 |_,_,_,_,.nil,s=>s
 |_,_,_,_,.cons r t,s=>.cons r (Vals.append t s)
theorem Vals.take:∀ {xs:List V} {us:List Value} (n:Nat),Vals xs us->Vals (xs.take n) (us.take n)
 |_,_,0,_=>.nil
 |_,_,_+1,.nil=>.nil
 |_,_,n+1,.cons r t=>.cons r (Vals.take n t)
theorem Vals.drop:∀ {xs:List V} {us:List Value} (n:Nat),Vals xs us->Vals (xs.drop n) (us.drop n)
 |_,_,0,r=>r
 |_,_,_+1,.nil=>.nil
 |_,_,n+1,.cons _ t=>Vals.drop n t
def gO:Option V->Option Value->Prop
 |some v,some u=>RelV v u
 |none,none=>True
 |_,_=>False
def KV {κ:Type}:List (κ×V)->List (κ×Value)->Prop:=Paired fun (p:κ×V) (q:κ×Value)=>p.1=q.1/\RelV p.2 q.2
def kV:Key->V
 |.inl i=>.int i
 |.inr x=>.str x
inductive HO where
 |lst (xs:List V)
 |tup (xs:List V)
 |dK (kvs:List (Key×V))|dT (kvs:List (List Key×V))
 |set (S:Int->Bool) (n:Nat)
 |ins (C dx:Addr) (fs:List (Str×V))
 |own (x:Addr)
 |xd (fs:List (Str×V))
 |met (f x:Addr)
 |rng (lo hi:Int)
 |frz (o:Obj) (u:HO)
 |tbl (ps:Array Value)
 |ext (φ:Heap->Prop)
abbrev Hp:=Addr->Option HO
def upd (H:Hp) (a:Addr) (o:HO):Hp:=fun b=>if b=a then some o else H b
theorem ak {H:Hp} {a:Addr} {o:HO}:upd H a o a=some o:=by unfold upd;rw [if_pos rfl]
theorem aF {H:Hp} {a b:Addr} {o:HO} (h:b≠a):upd H a o b=H b:=by unfold upd;rw [if_neg h]
theorem zy {H:Hp} {a:Addr} {o u:HO}:upd (upd H a o) a u=upd H a u:=by
 funext b;unfold upd;split <;> rfl
theorem gn {H:Hp} {a b:Addr} {o u:HO} (h:H a=some o) (h':H b=some u) (d:o≠u):a≠b:=by
 intro e;subst e;rw [h] at h';exact d (Option.some.inj h')
theorem aH {H:Hp} {a b:Addr} {o:HO} (h:H a=some o) (h':H b=none):a≠b:=by
 intro e;subst e;rw [h] at h';cases h'
section
variable (P:Program) (w:World)
def cg (H:Hp) (h:Heap) (a:Addr):HO->Prop
 |.lst xs=>xs.length≤sizeLine/\∃ (its:List Value) (n:Nat),Vals xs its/\h.get? a=some { cls:=.type "list",data:=.seq its.toArray n }
 |.tup xs=>xs.length≤sizeLine/\∃ its:List Value,Vals xs its/\IsTup h a its.toArray
 |.dK kvs=>kvs.length≤sizeLine/\(a == sysModules)=false/\∃ vs,KV kvs vs/\h.DictOf (cH P w) a vs
 |.dT kvs=>kvs.length≤sizeLine/\(a == sysModules)=false/\∃ xs:List (List Key×Addr×Value),
  Paired (fun (p:List Key×V) (q:List Key×Addr×Value)=>p.1=q.1/\H q.2.1=some (.tup (p.1.map kV))/\RelV p.2 q.2.2) kvs xs/\
  ∃ o es ep,h.get? a=some o/\o.ExactDict/\o.data=.dict es ep/\es.toList=xs.map (entryOfKey (tupleKind (cH P w)))/\(xs.map (·.1)).Nodup
 |.set S n=>h.SetOf (intKind P w) a S n
 |.ins C dx fs=>H dx=some (.own a)/\fs.length≤1000/\dx≠a/\h.get? a=some (PySem.W.instObj C dx)/\
  ∃ mA,h.Ns1 dx mA/\(∀ f,gO (fs.lookup f) (mA f))/\PySem.Within mA (fs.map (·.1))
 |.own _=>∃ o,h.get? a=some o
 |.xd fs=>∃ mA,h.Ns1 a mA/\∀ f,gO (fs.lookup f) (mA f)
 |.rng lo hi=>∃ t u v,h.get? a=some { cls:=.type "range",data:=.fields #[.int lo t,.int hi u,.int 1 v] }
 |.frz o u=>h.get? a=some o/\cg H h a u
 |.tbl ps=>h.get? a=some { cls:=.none,data:=.fields ps }
 |.met f x=>h.get? a=some (PySem.W.methodObj (.ref f) (.ref x))
 |.ext φ=>φ h/\(∃ o,h.get? a=some o)/\∀ h1 h2:Heap,φ h1->(∀ o,h1.get? a=some o->h2.get? a=some o)->φ h2
def iC (H:Hp) (h:Heap):Prop:=∀ a o,H a=some o->cg P w H h a o
end
section
variable {P:Program} {w:World} {H H':Hp} {h h':Heap} {a:Addr} {o:HO}
theorem cg.lt (x:cg P w H h a o):a<h.objs.size:=by
 cases o with
 |lst xs=>obtain ⟨_,_,_,_,e⟩:=x;exact Heap.lt_size e
 |tup xs=>obtain ⟨_,_,_,p⟩:=x;exact p.lt
 |dK kvs=>obtain ⟨_,_,_,_,o,_,_,e,_⟩:=x;exact Heap.lt_size e
 |dT kvs=>obtain ⟨_,_,_,_,o,_,_,e,_⟩:=x;exact Heap.lt_size e
 |set S n=>obtain ⟨o,_,_,_,e,_⟩:=x;exact Heap.lt_size e
 |ins C dx fs=>obtain ⟨_,_,_,e,_⟩:=x;exact Heap.lt_size e
 |own y=>obtain ⟨_,e⟩:=x;exact Heap.lt_size e
 |xd fs=>obtain ⟨_,⟨_,_,_,e,_⟩,_⟩:=x;exact Heap.lt_size e
 |rng lo hi=>obtain ⟨_,_,_,e⟩:=x;exact Heap.lt_size e
 |frz ob u=>obtain ⟨e,_⟩:=x;exact Heap.lt_size e
 |tbl ps=>exact Heap.lt_size (show h.get? a=some _ from x)
 |met f y=>exact Heap.lt_size (show h.get? a=some _ from x)
 |ext φ=>obtain ⟨_,⟨_,e⟩,_⟩:=x;exact Heap.lt_size e
theorem Paired.mapP {α β:Type} {F G:α->β->Prop}:∀ {l₁:List α} {l₂:List β},Paired F l₁ l₂->(∀ a b,F a b->G a b)->Paired G l₁ l₂
 |_,_,.nil,_=>.nil
 |_,_,.cons r t,f=>.cons (f _ _ r) (Paired.mapP t f)
theorem cg.stay (x:cg P w H h a o) (k:∀ b u,(b=a∨H b=some (.own a))->h.get? b=some u->h'.get? b=some u)
 (ho:∀ b,H b=some (.own a)->H' b=some (.own a)) (ht:∀ b xs,H b=some (.tup xs)->H' b=some (.tup xs)):cg P w H' h' a o:=by
 induction o with
 |lst xs=>obtain ⟨z,its,n,r,e⟩:=x;exact ⟨z,its,n,r,k _ _ (.inl rfl) e⟩
 |tup xs=>obtain ⟨z,its,r,ob,e,c⟩:=x;exact ⟨z,its,r,ob,k _ _ (.inl rfl) e,c⟩
 |dK kvs=>obtain ⟨z,y,vs,r,ob,es,ep,e,c⟩:=x;exact ⟨z,y,vs,r,ob,es,ep,k _ _ (.inl rfl) e,c⟩
 | dT kvs=>
   obtain ⟨z,y,xs,r,ob,es,ep,e,c⟩:=x
   exact ⟨z,y,xs,Paired.mapP r fun p q z=>⟨z.1,ht _ _ z.2.1,z.2.2⟩,ob,es,ep,k _ _ (.inl rfl) e,c⟩
 |set S n=>obtain ⟨ob,es,ep,t,e,c⟩:=x;exact ⟨ob,es,ep,t,k _ _ (.inl rfl) e,c⟩
 | ins C dx fs=>
   obtain ⟨d,z,ne,e,mA,⟨od,es,ep,e2,c⟩,r⟩:=x
   exact ⟨ho _ d,z,ne,k _ _ (.inl rfl) e,mA,⟨od,es,ep,k _ _ (.inr d) e2,c⟩,r⟩
 |own y=>obtain ⟨ob,e⟩:=x;exact ⟨ob,k _ _ (.inl rfl) e⟩
 |xd fs=>obtain ⟨mA,⟨od,es,ep,e,c⟩,r⟩:=x;exact ⟨mA,⟨od,es,ep,k _ _ (.inl rfl) e,c⟩,r⟩
 |rng lo hi=>obtain ⟨t,u,v,e⟩:=x;exact ⟨t,u,v,k _ _ (.inl rfl) e⟩
 |frz ob u ih=>obtain ⟨e,q⟩:=x;exact ⟨k _ _ (.inl rfl) e,ih q⟩
 | tbl ps=>
   have e:h.get? a=some { cls:=.none,data:=.fields ps }:=x
   show h'.get? a=some { cls:=.none,data:=.fields ps }
   exact k a _ (.inl rfl) e
 | met f y=>
   have e:h.get? a=some (PySem.W.methodObj (.ref f) (.ref y)):=x
   show h'.get? a=some (PySem.W.methodObj (.ref f) (.ref y))
   exact k a _ (.inl rfl) e
 |ext φ=>obtain ⟨p,⟨o,e⟩,st⟩:=x;exact ⟨st _ _ p fun o q=>k _ _ (.inl rfl) q,⟨o,k _ _ (.inl rfl) e⟩,st⟩
theorem iC.lt (x:iC P w H h) (e:H a=some o):a<h.objs.size:=(x a o e).lt
theorem iC.fresh (x:iC P w H h) (e:h.objs.size≤a):H a=none:=by
 cases q:H a with
 |none=>rfl
 |some u=>exact absurd (Nat.lt_of_lt_of_le (x.lt q) e) (Nat.lt_irrefl _)
theorem iC.kept (x:iC P w H h) (k:∀ b u,h.get? b=some u->h'.get? b=some u):iC P w H h':=fun a o e=>
 (x a o e).stay (fun b u _ q=>k b u q) (fun _ q=>q) fun _ _ q=>q
theorem iC.laid (x:iC P w H h) (k:∀ b u,h.get? b=some u->h'.get? b=some u) (hp:h.objs.size≤a) (new:cg P w (upd H a o) h' a o):iC P w (upd H a o) h':=fun b u e=>by
 have hn:=x.fresh hp
 by_cases hb:b=a
 ·subst hb;rw [ak] at e;cases e;exact new
 ·rw [aF hb] at e
  exact (x b u e).stay (fun c v _ q=>k c v q) (fun c q=>by rw [aF (aH q hn)];exact q) fun c xs q=>by rw [aF (aH q hn)];exact q
end
def Rd (H:Hp) (a:Addr) (u:HO):Prop:=H a=some u∨∃ o,H a=some (.frz o u)
theorem Rd.ok {P:Program} {w:World} {H:Hp} {h:Heap} {a:Addr} {u:HO} (r:Rd H a u) (x:iC P w H h):cg P w H h a u:=by
 rcases r with r|⟨o,r⟩
 ·exact x a u r
 ·obtain ⟨_,q⟩:=x a _ r
  exact q
def Ka:Option HO->Prop
 |some (.lst _)=>True
 |some (.dK _)=>True
 |some (.dT _)=>True
 |some (.set _ _)=>True
 |some (.ins _ _ _)=>True
 |some (.ext _)=>True
 |_=>False
section
variable {P:Program} {w:World} {H:Hp} {h h':Heap} {x e:Addr} {o':HO}
theorem iC.write (ok:iC P w H h) (mu:Ka (H x)) (he:e=x∨H e=some (.own x)) (k:∀ b u,b≠e->h.get? b=some u->h'.get? b=some u) (heo:∃ u,h'.get? e=some u)
 (new:cg P w (upd H x o') h' x o'):iC P w (upd H x o') h':=fun b u q=>by
 have nown:∀ c y,H c=some (.own y)->c≠x:=fun c y r z=>by subst z;rw [r] at mu;exact mu
 have ntup:∀ c xs,H c=some (.tup xs)->c≠x:=fun c xs r z=>by subst z;rw [r] at mu;exact mu
 by_cases hb:b=x
 ·subst hb;rw [ak] at q;cases q;exact new
 ·rw [aF hb] at q
  by_cases hbe:b=e
  ·have q':H b=some (.own x):=by
    rcases he with z|z
    ·exact absurd (hbe.trans z) hb
    ·rw [hbe];exact z
   rw [q] at q';cases q'
   obtain ⟨v,hv⟩:=heo
   exact ⟨v,by rw [hbe];exact hv⟩
  ·refine (ok b u q).stay (fun c v hc r=>k c v ?_ r) (fun c r=>by rw [aF (nown c b r)];exact r) fun c xs r=>by rw [aF (ntup c xs r)];exact r
   rcases hc with rfl|hc
   ·exact hbe
   ·rintro rfl
    rcases he with z|z
    ·exact nown c b hc z
    ·rw [hc] at z;cases z;exact hb rfl
end
structure Un (fs ex:List Addr) (H H':Hp) (h h':Heap):Prop where
 keep:∀ b o,h.get? b=some o->H b=none->b∉fs->b∉ex->h'.get? b=some o
 slot:∀ b o,h.get? b=some o->H b=none->b∈fs->b∉ex->∃ sl,h'.get? b=some { o with slots:=sl }
 free:∀ b o,h.get? b=some o->H b=none->b∉ex->H' b=none
 there:∀ b o,h.get? b=some o->b∉ex->∃ o',h'.get? b=some o'
 tups:∀ b xs,H b=some (.tup xs)->H' b=some (.tup xs)
 frzs:∀ b o u,H b=some (.frz o u)->H' b=some (.frz o u)
 tbls:∀ b ps,H b=some (.tbl ps)->∃ more,H' b=some (.tbl (ps++more))
section
variable {fs fs' ex ex':List Addr} {H H1 H2:Hp} {h h1 h2 h':Heap} {a x e:Addr} {o:HO}
theorem Un.any (u:Un fs ex H H1 h h1) {b:Addr} {ob:Obj} (q:h.get? b=some ob) (n:H b=none) (hx:b∉ex):∃ sl,h1.get? b=some { ob with slots:=sl }:=by
 by_cases hb:b∈fs
 ·exact u.slot b ob q n hb hx
 ·exact ⟨ob.slots,u.keep b ob q n hb hx⟩
theorem Un.kept (k:∀ b u,h.get? b=some u->h'.get? b=some u):Un fs ex H H h h':=
 ⟨fun b ob q _ _ _=>k b ob q,fun b ob q _ _ _=>⟨ob.slots,k b ob q⟩,fun _ _ _ n _=>n,fun b ob q _=>⟨ob,k b ob q⟩,fun _ _ q=>q,fun _ _ _ q=>q,fun _ ps q=>⟨#[],by rw [q];simp⟩⟩
theorem Un.refl:Un fs ex H H h h:=Un.kept fun _ _ q=>q
theorem Un.laid (k:∀ b u,h.get? b=some u->h'.get? b=some u) (hp:h.objs.size≤a) (hn:H a=none):Un fs ex H (upd H a o) h h' where
 keep:=fun b u q _ _ _=>k b u q
 slot:=fun b u q _ _ _=>⟨u.slots,k b u q⟩
 free:=fun b u q n _=>by rw [aF (Nat.ne_of_lt (Nat.lt_of_lt_of_le (Heap.lt_size q) hp))];exact n
 there:=fun b u q _=>⟨u,k b u q⟩
 tups:=fun b xs q=>by rw [aF (aH q hn)];exact q
 frzs:=fun b u xs q=>by rw [aF (aH q hn)];exact q
 tbls:=fun b ps q=>⟨#[],by rw [aF (aH q hn),q];simp⟩
theorem Un.write (mu:Ka (H x)) (he:e=x∨H e=some (.own x)) (k:∀ b u,b≠e->h.get? b=some u->h'.get? b=some u) (heo:∃ u,h'.get? e=some u):Un fs ex H (upd H x o) h h':=by
 have hx:∀ b,H b=none->b≠x:=fun b n z=>by subst z;rw [n] at mu;exact mu
 have hb:∀ b,H b=none->b≠e:=fun b n z=>by
  subst z
  rcases he with r|r
  ·exact hx b n r
  ·rw [n] at r;cases r
 have hm:∀ b u,H b=some u->¬ Ka (some u)->b≠x:=fun b u q nm z=>by subst z;rw [q] at mu;exact nm mu
 refine ⟨fun b u q n _ _=>k b u (hb b n) q,fun b u q n _ _=>⟨u.slots,k b u (hb b n) q⟩,fun b u q n _=>by rw [aF (hx b n)];exact n,fun b u q _=>?_,
  fun b xs q=>by rw [aF (hm b _ q fun z=>z)];exact q,fun b u xs q=>by rw [aF (hm b _ q fun z=>z)];exact q,fun b ps q=>⟨#[],by rw [aF (hm b _ q fun z=>z),q];simp⟩⟩
 by_cases hbe:b=e
 ·subst hbe;exact heo
 ·exact ⟨u,k b u hbe q⟩
end
def Lx (h:Heap) (H:Hp):List Addr:=(List.range h.objs.size).filter fun a=>(H a).isSome
def oH (h:Heap) (H:Hp):Heap:=PySem.W.hideAll h (Lx h H)
theorem vV (h:Heap) (H:Hp):(oH h H).objs.size=h.objs.size:=PySem.W.hideAll_size _ _
theorem wN {h:Heap} {H:Hp} {b:Addr} {o:Obj} (e:h.get? b=some o) (n:H b=none):(oH h H).get? b=some o:=
 PySem.W.hideAll_get _ e fun hm=>by
  have q:(H b).isSome=true:=(List.mem_filter.mp hm).2
  rw [n] at q;simp at q
theorem zT {h:Heap} {H:Hp} {b:Addr} {o:Obj} (e:(oH h H).get? b=some o):h.get? b=some o/\H b=none:=by
 have e':h.get? b=some o:=PySem.W.of_hideAll (Lx h H) e
 refine ⟨e',?_⟩
 cases q:H b with
 |none=>rfl
 | some x=>
   have hm:b∈Lx h H:=List.mem_filter.mpr ⟨List.mem_range.mpr (Heap.lt_size e'),by simp [q]⟩
   have z:(oH h H).get? b=none:=PySem.W.hideAll_none (Lx h H) hm
   rw [z] at e;cases e
structure Mod (K:PySem.W.Frag) (mg:Str->Option Value) (base:Heap):Prop where
 kin:K.In base
 glob:base.Ns mainGlobals mg
 blt:∃ mb,base.Ns builtinsNs mb/\∀ x:Str,x ≠ "__name__"->mb x=bootBuiltins x
 nolimit:base.NoLimit
structure Cx where
 prog:Program
 w:World
 K:PySem.W.Frag
 mg:Str->Option Value
 base:Heap
 A:Around
 N:List Str
 s₀:Shared
 H₀:Hp
 env:Env
 outer:List Env
 stack:List Env
 ex:List Addr
 fn:Str->Bool
 calm:Bool
 pn:List (Addr×Obj)
 xe:Value->Shared->Prop
def frs (l:List Env):List Addr:=l.filterMap (·.frame)
abbrev Cx.fs (X:Cx):List Addr:=frs X.outer
def Lr (sc:Scope) (x:Str):Prop:=sc.names.lookup x=some .local∨sc.names.lookup x=some .cell∨sc.names.lookup x=some .free
def Loc (sc:Scope) (x:Str):Prop:=sc.names.lookup x=some .local∨sc.names.lookup x=some .cell
def Look (env:Env) (h:Heap) (m:Str->Option Value) (x:Str) (u:Value):Prop:=
 (env.kindOf x=some .local/\m x=some u)∨((env.kindOf x=some .cell∨env.kindOf x=some .free)/\∃ c,env.cells.lookup x=some c/\h.IsCell c (some u))
structure Cx.Ok (X:Cx):Prop where
 mod:Mod X.K X.mg X.base
 kind:X.env.scope.kind=.function
 glob:X.env.globals=mainGlobals
 blt:X.env.builtins=builtinsNs
 above:X.s₀.heap.objs.size≤X.env.locals
 inj:∀ x y c,X.env.cells.lookup x=some c->X.env.cells.lookup y=some c->x=y
 has:∀ x,(X.env.kindOf x=some .cell∨X.env.kindOf x=some .free)->∃ c,X.env.cells.lookup x=some c
 cab:∀ x c,X.fn x=true->X.env.cells.lookup x=some c->X.s₀.heap.objs.size≤c
 hd:X.calm=true->X.A.handled=none
 frames:X.A.frames=some X.stack
 stk:X.stack=X.outer∨(X.stack=X.env::X.outer/\X.env.frame=some X.env.locals)
 exf:∀ b∈X.ex,b≠X.env.locals/\∀ x c,X.env.cells.lookup x=some c->c≠b
 bs:∀ b o,X.base.get? b=some o->X.s₀.heap.get? b=some o/\X.H₀ b=none
 bsz:X.base.objs.size≤X.s₀.heap.objs.size
 noex:∀ b o,X.base.get? b=some o->b∉X.ex
 exfs:∀ b∈X.ex,b∉X.fs
 funs:X.s₀.heap.FunFrames X.base X.outer
 frf:∀ b∈X.fs,X.H₀ b=none
structure Inv (X:Cx) (Z:List (Addr×Obj)) (U:List (Option V)) (H:Hp) (s:Shared):Prop where
 ok:X.Ok
 os:s.os=X.s₀.os
 bare:AllBare s.gens
 base:Un X.fs X.ex X.H₀ H X.s₀.heap s.heap
 loc:∃ m,s.heap.Ns X.env.locals m/\∀ (i:Nat) (x:Str) (v:V),X.N[i]?=some x->U[i]?=some (some v)->Lr X.env.scope x->∃ u,RelV v u/\Look X.env s.heap m x u
 cell:∀ x c,X.env.cells.lookup x=some c->∃ v,s.heap.IsCell c v
 free:H X.env.locals=none
 freeC:∀ x c,X.env.cells.lookup x=some c->H c=none
 pin:∀ p∈X.pn++Z,s.heap.get? p.1=some p.2/\H p.1=none/\p.1≠X.env.locals/\p.1∉X.fs/\∀ v,p.2.data≠.cell v
 hok:iC X.prog X.w H s.heap
 len:U.length=X.N.length
section
variable {X:Cx} {Z:List (Addr×Obj)} {U:List (Option V)} {H H':Hp} {s:Shared} {h':Heap}
theorem Cx.Ok.nofr (ok:X.Ok) {b:Addr} {o:Obj} (e:X.base.get? b=some o):b∉X.fs:=fun hb=>by
 have:=(ok.funs.mem hb).1
 rw [e] at this;cases this
theorem Inv.bs (I:Inv X Z U H s):∀ b o,X.base.get? b=some o->s.heap.get? b=some o/\H b=none:=fun b o e=>
 ⟨I.base.keep b o (I.ok.bs b o e).1 (I.ok.bs b o e).2 (I.ok.nofr e) (I.ok.noex b o e),I.base.free b o (I.ok.bs b o e).1 (I.ok.bs b o e).2 (I.ok.noex b o e)⟩
theorem Inv.bk (I:Inv X Z U H s):∀ b o,X.base.get? b=some o->s.heap.get? b=some o:=fun b o e=>(I.bs b o e).1
theorem Inv.mod (I:Inv X Z U H s):Mod X.K X.mg X.base:=I.ok.mod
theorem Inv.kIn (I:Inv X Z U H s):X.K.In s.heap:=I.ok.mod.kin.keeps I.bk
theorem Inv.fr (I:Inv X Z U H s):∃ m,Fr X.base X.env.locals s.heap m:=
 let ⟨m,hn,_⟩:=I.loc
 ⟨m,hn,I.bk,Nat.le_trans I.ok.bsz I.ok.above⟩
theorem Inv.lt (I:Inv X Z U H s):X.env.locals<s.heap.objs.size:=let ⟨_,hn,_⟩:=I.loc;hn.lt
theorem Inv.sz (I:Inv X Z U H s):X.s₀.heap.objs.size≤s.heap.objs.size:=Nat.le_trans I.ok.above (Nat.le_of_lt I.lt)
theorem Inv.nofs (I:Inv X Z U H s) {a:Addr} (h:s.heap.objs.size≤a):a∉X.fs:=fun hb=>by
 obtain ⟨_,o,ho,_⟩:=I.ok.funs.mem hb
 exact absurd (Nat.lt_of_lt_of_le (Heap.lt_size ho) (Nat.le_trans I.sz h)) (Nat.lt_irrefl _)
theorem Inv.cne (I:Inv X Z U H s):∀ x c,X.env.cells.lookup x=some c->c≠X.env.locals:=fun x c e z=>by
 obtain ⟨v,o,ho,hd⟩:=I.cell x c e
 obtain ⟨m,⟨o',es,ep,ho',hd',_⟩,_⟩:=I.loc
 rw [z,ho'] at ho;cases ho;rw [hd'] at hd;cases hd
theorem Inv.funs (I:Inv X Z U H s):s.heap.FunFrames X.base X.outer:=by
 have all:∀ (l:List Env),(∀ b∈frs l,b∈X.fs)->X.s₀.heap.FunFrames X.base l->s.heap.FunFrames X.base l:=by
  intro l
  induction l with
  |nil=>intro _ _;trivial
  | cons env r ih=>
    intro hs hl
    obtain ⟨hk,⟨L,o,hf,hn,ho,hd⟩,hr⟩:=hl
    have hL:L∈X.fs:=hs L (by unfold frs;rw [List.filterMap_cons,hf];exact List.mem_cons_self)
    obtain ⟨sl,e⟩:=I.base.slot L o ho (I.ok.frf L hL) hL fun z=>I.ok.exfs L z hL
    exact ⟨hk,⟨L,_,hf,hn,e,hd⟩,ih (fun b hb=>hs b (by unfold frs;rw [List.filterMap_cons,hf];exact List.mem_cons_of_mem _ hb)) hr⟩
 exact all X.outer (fun _ hb=>hb) I.ok.funs
theorem Inv.stack (I:Inv X Z U H s):s.heap.FunFrames X.base X.stack:=by
 rcases I.ok.stk with e|⟨e,hf⟩
 ·rw [e];exact I.funs
 ·rw [e]
  obtain ⟨m,hn,_⟩:=I.loc
  refine .cons (by rw [I.ok.kind];decide) hf hn ?_ I.funs
  exact Heap.get?_none_of_le (Nat.le_trans I.ok.bsz I.ok.above)
theorem Inv.stkSub (I:Inv X Z U H s):∀ b∈frs X.stack,b∈X.env.locals::X.fs:=fun b hb=>by
 rcases I.ok.stk with e|⟨e,hf⟩
 ·rw [e] at hb;exact List.mem_cons_of_mem _ hb
 ·rw [e] at hb
  unfold frs at hb
  rw [List.filterMap_cons,hf] at hb
  exact hb
theorem Inv.stkFree (I:Inv X Z U H s):∀ b∈frs X.stack,H b=none:=fun b hb=>by
 rcases List.mem_cons.mp (I.stkSub b hb) with e|hb
 ·rw [e];exact I.free
 ·obtain ⟨_,o,ho,_⟩:=I.ok.funs.mem hb
  exact I.base.free b o ho (I.ok.frf b hb) fun z=>I.ok.exfs b z hb
theorem Inv.step {g':Array GenState} {t':Nat} {d':Drawn} {ch:List Addr} (I:Inv X Z U H s)
 (hch:∀ b∈ch,(b∈X.ex∨X.s₀.heap.objs.size≤b)/\b≠X.env.locals/\(∀ x c,X.env.cells.lookup x=some c->c≠b)/\∀ p∈X.pn++Z,p.1≠b)
 (keep:∀ b o,b≠X.env.locals->b∉X.fs->b∉ch->s.heap.get? b=some o->H b=none->h'.get? b=some o)
 (slot:∀ b o,b≠X.env.locals->b∈X.fs->b∉ch->s.heap.get? b=some o->H b=none->∃ sl,h'.get? b=some { o with slots:=sl }) (free:∀ b o,b∉ch->s.heap.get? b=some o->H b=none->H' b=none)
 (there:∀ b o,b∉ch->s.heap.get? b=some o->∃ o',h'.get? b=some o')
 (tups:∀ b xs,H b=some (.tup xs)->H' b=some (.tup xs)) (frzs:∀ b o u,H b=some (.frz o u)->H' b=some (.frz o u)) (tbls:∀ b ps,H b=some (.tbl ps)->∃ more,H' b=some (.tbl (ps++more)))
 (ns:∀ m,s.heap.Ns X.env.locals m->h'.Ns X.env.locals m) (hok:iC X.prog X.w H' h') (hg:AllBare g') :
 Inv X Z U H' { s with heap:=h',gens:=g',drawn:=d',toks:=t' }:=by
 have neL:∀ b o,X.s₀.heap.get? b=some o->b≠X.env.locals:=fun b o e=>Nat.ne_of_lt (Nat.lt_of_lt_of_le (Heap.lt_size e) I.ok.above)
 have neC:∀ b o,X.s₀.heap.get? b=some o->b∉X.ex->b∉ch:=fun b o e hx hb=>by
  rcases (hch b hb).1 with z|z
  ·exact hx z
  ·exact absurd (Nat.lt_of_lt_of_le (Heap.lt_size e) z) (Nat.lt_irrefl _)
 have cellK:∀ x c,X.env.cells.lookup x=some c->∀ v,s.heap.IsCell c v->h'.IsCell c v:=fun x c e v ⟨o,ho,hd⟩=>by
  have nch:c∉ch:=fun z=>(hch c z).2.2.1 x c e rfl
  by_cases hc:c∈X.fs
  ·obtain ⟨sl,q⟩:=slot c o (I.cne x c e) hc nch ho (I.freeC x c e)
   exact ⟨_,q,hd⟩
  ·exact ⟨o,keep c o (I.cne x c e) hc nch ho (I.freeC x c e),hd⟩
 refine ⟨I.ok,I.os,hg,⟨fun b o e n hb hx=>?_,fun b o e n hb hx=>?_,fun b o e n hx=>?_,fun b o e hx=>?_,fun b xs e=>tups b xs (I.base.tups b xs e),fun b o xs e=>frzs b o xs (I.base.frzs b o xs e),fun b ps e=>?_⟩,?_,fun x c e=>?_,?_,fun x c e=>?_,fun p hp=>?_,hok,I.len⟩
 ·exact keep b o (neL b o e) hb (neC b o e hx) (I.base.keep b o e n hb hx) (I.base.free b o e n hx)
 ·obtain ⟨sl,e1⟩:=I.base.slot b o e n hb hx
  obtain ⟨sl',e2⟩:=slot b _ (neL b o e) hb (neC b o e hx) e1 (I.base.free b o e n hx)
  exact ⟨sl',e2⟩
 ·obtain ⟨o',e1⟩:=I.base.there b o e hx
  exact free b o' (neC b o e hx) e1 (I.base.free b o e n hx)
 ·obtain ⟨o',e1⟩:=I.base.there b o e hx
  exact there b o' (neC b o e hx) e1
 ·obtain ⟨m1,e1⟩:=I.base.tbls b ps e
  obtain ⟨m2,e2⟩:=tbls b _ e1
  exact ⟨m1++m2,by rw [e2,Array.append_assoc]⟩
 ·obtain ⟨m,hn,hl⟩:=I.loc
  refine ⟨m,ns m hn,fun i x v e1 e2 e3=>?_⟩
  obtain ⟨u,r,l⟩:=hl i x v e1 e2 e3
  refine ⟨u,r,?_⟩
  rcases l with l|⟨k,c,e,z⟩
  ·exact .inl l
  ·exact .inr ⟨k,c,e,cellK x c e _ z⟩
 ·obtain ⟨v,z⟩:=I.cell x c e
  exact ⟨v,cellK x c e v z⟩
 ·obtain ⟨m,⟨o,_,_,ho,_⟩,_⟩:=I.loc
  exact free _ o (fun z=>(hch _ z).2.1 rfl) ho I.free
 ·obtain ⟨v,o,ho,hd⟩:=I.cell x c e
  exact free c o (fun z=>(hch c z).2.2.1 x c e rfl) ho (I.freeC x c e)
 ·obtain ⟨e,n,ne,nf,d⟩:=I.pin p hp
  have nch:p.1∉ch:=fun z=>(hch p.1 z).2.2.2 p hp rfl
  exact ⟨keep p.1 p.2 ne nf nch e n,free p.1 p.2 nch e n,ne,nf,d⟩
theorem Inv.un {t':Nat} (I:Inv X Z U H s) (u:Un X.fs [] H H' s.heap h') (hok:iC X.prog X.w H' h'):Inv X Z U H' { s with heap:=h',toks:=t' }:=by
 obtain ⟨m,⟨o,es,ep,ho,r⟩,_⟩:=id I.loc
 obtain ⟨sl,hL⟩:=u.any ho I.free (by simp)
 exact I.step (g':=s.gens) (d':=s.drawn) (ch:=[]) (fun _ z=>nomatch z) (fun b o _ hb _ e n=>u.keep b o e n hb (by simp)) (fun b o _ hb _ e n=>u.slot b o e n hb (by simp)) (fun b o _ e n=>u.free b o e n (by simp)) (fun b o _ e=>u.there b o e (by simp)) u.tups u.frzs u.tbls (fun m' hm=>by
  obtain ⟨o',es',ep',ho',r'⟩:=hm
  rw [ho] at ho';cases ho'
  exact ⟨_,es',ep',hL,r'⟩) hok I.bare
theorem Inv.call {g':Array GenState} {t':Nat} {d':Drawn} {ch:List Addr} (I:Inv X Z U H s) (u:Un (frs X.stack) ch H H' s.heap h') (hok:iC X.prog X.w H' h') (hg:AllBare g')
 (hch:∀ b∈ch,(b∈X.ex∨X.s₀.heap.objs.size≤b)/\b≠X.env.locals/\(∀ x c,X.env.cells.lookup x=some c->c≠b)/\∀ p∈X.pn++Z,p.1≠b) :
 Inv X Z U H' { s with heap:=h',gens:=g',drawn:=d',toks:=t' }:=by
 obtain ⟨m,⟨o,es,ep,ho,r⟩,_⟩:=id I.loc
 obtain ⟨sl,hL⟩:=u.any ho I.free fun z=>(hch _ z).2.1 rfl
 exact I.step (ch:=ch) hch (fun b o hL hb hc e n=>u.keep b o e n (fun z=>(List.mem_cons.mp (I.stkSub b z)).elim hL hb) hc) (fun b o _ _ hc e n=>u.any e n hc) (fun b o hc e n=>u.free b o e n hc) (fun b o hc e=>u.there b o e hc) u.tups u.frzs u.tbls (fun m' hm=>by
  obtain ⟨o',es',ep',ho',r'⟩:=hm
  rw [ho] at ho';cases ho'
  exact ⟨_,es',ep',hL,r'⟩) hok hg
theorem Inv.turned {t':Nat} {it:Addr} (I:Inv X Z U H s) (k:∀ b o,b≠it->s.heap.get? b=some o->h'.get? b=some o) (hn:H it=none) (hL:it≠X.env.locals)
 (h1:it∈X.ex∨X.s₀.heap.objs.size≤it) (h2:∀ x c,X.env.cells.lookup x=some c->c≠it) (h3:∀ p∈X.pn++Z,p.1≠it):Inv X Z U H { s with heap:=h',toks:=t' }:=by
 have nit:∀ b u,H b=some u->b≠it:=fun b u e z=>by rw [z,hn] at e;cases e
 refine I.step (g':=s.gens) (d':=s.drawn) (ch:=[it]) (fun b hb=>?_) (fun b o _ _ hc e _=>k b o (fun z=>hc (by simp [z])) e) (fun b o _ _ hc e _=>⟨o.slots,k b o (fun z=>hc (by simp [z])) e⟩) (fun _ _ _ _ n=>n)
  (fun b o hc e=>⟨o,k b o (fun z=>hc (by simp [z])) e⟩) (fun _ _ e=>e) (fun _ _ _ e=>e) (fun b ps e=>⟨#[],by rw [e];simp⟩) (fun m hm=>?_) (fun b u e=>?_) I.bare
 ·have e:b=it:=by simpa using hb
  subst e
  exact ⟨h1,hL,h2,h3⟩
 ·obtain ⟨o,es,ep,ho,r⟩:=hm
  exact ⟨o,es,ep,k _ o (Ne.symm hL) ho,r⟩
 ·refine (I.hok b u e).stay (fun c v hc q=>k c v ?_ q) (fun _ q=>q) fun _ _ q=>q
  rcases hc with z|z
  ·rw [z];exact nit b u e
  ·exact nit c _ z
theorem Inv.tok (I:Inv X Z U H s) (t:Nat):Inv X Z U H { s with toks:=t }:=I.un (h':=s.heap) (t':=t) Un.refl I.hok
theorem Inv.kept {t':Nat} (I:Inv X Z U H s) (k:∀ b u,s.heap.get? b=some u->h'.get? b=some u):Inv X Z U H { s with heap:=h',toks:=t' }:=I.un (Un.kept k) (I.hok.kept k)
theorem Inv.laid {a:Addr} {o:HO} {t':Nat} (I:Inv X Z U H s) (k:∀ b u,s.heap.get? b=some u->h'.get? b=some u) (hp:s.heap.objs.size≤a) (new:cg X.prog X.w (upd H a o) h' a o) :
 Inv X Z U (upd H a o) { s with heap:=h',toks:=t' }:=I.un (Un.laid k hp (I.hok.fresh hp)) (I.hok.laid k hp new)
theorem Inv.write {x e:Addr} {o:HO} {t':Nat} (I:Inv X Z U H s) (mu:Ka (H x)) (he:e=x∨H e=some (.own x)) (k:∀ b u,b≠e->s.heap.get? b=some u->h'.get? b=some u) (heo:∃ u,h'.get? e=some u)
 (new:cg X.prog X.w (upd H x o) h' x o):Inv X Z U (upd H x o) { s with heap:=h',toks:=t' }:=I.un (Un.write mu he k heo) (I.hok.write mu he k heo new)
theorem Inv.pins_of {pins':List (Addr×Obj)} (I:Inv X Z U H s) (h:∀ p∈pins',s.heap.get? p.1=some p.2/\H p.1=none/\p.1≠X.env.locals/\p.1∉X.fs/\∀ v,p.2.data≠.cell v):Inv X pins' U H s:=
 ⟨I.ok,I.os,I.bare,I.base,I.loc,I.cell,I.free,I.freeC,fun p hp=>(List.mem_append.mp hp).elim (fun z=>I.pin p (List.mem_append_left _ z)) (h p),I.hok,I.len⟩
theorem lD {N:List Str} (hN:N.Nodup) {i j:Nat} {x:Str} (a:N[i]?=some x) (b:N[j]?=some x):i=j:=by
 obtain ⟨h1,e1⟩:=List.getElem?_eq_some_iff.mp a
 obtain ⟨h2,e2⟩:=List.getElem?_eq_some_iff.mp b
 exact (List.getElem_inj hN).mp (e1.trans e2.symm)
theorem jO {M:Model} {A:Around} {E:Value->Shared->Prop} {i:Nat} {x:Str} {v:V} {u:Value} {Q:Unit->Shared->Prop} (I:Inv X Z U H s) (hN:X.N.Nodup) (hi:X.N[i]?=some x) (hx:Loc X.env.scope x) (r:RelV v u)
 (h:∀ s',Inv X Z (U.set i (some v)) H s'->(∃ a,Heap.SameBut a s.heap s'.heap/\(a=X.env.locals∨X.env.cells.lookup x=some a))->Q () s') (hf:X.fn x=true∨X.env.scope.names.lookup x=some .local:=by first|exact .inl rfl|exact .inr rfl|assumption):wpAny M A (storeName X.env x u) Q E s:=by
 obtain ⟨m,hn,hl⟩:=id I.loc
 have hcls:(X.env.scope.kind == .class || (X.env.scope.kind == .module && X.env.locals != X.env.globals))=false:=by rw [I.ok.kind];rfl
 have hiU:i<U.length:=by rw [I.len];exact (List.getElem?_eq_some_iff.mp hi).1
 have cne:=I.cne
 have tracked:∀ {a:Addr} {h':Heap},(∃ o,s.heap.get? a=some o/\H a=none)->Heap.SameBut a s.heap h'->iC X.prog X.w H h':=fun {a h'} ha hs b ob e=>by
  obtain ⟨_,_,hfree⟩:=ha
  refine (I.hok b ob e).stay (fun c w' hc q=>(hs.2 c ?_).trans q) (fun _ q=>q) fun _ _ q=>q
  rintro rfl
  rcases hc with rfl|hc
  ·rw [hfree] at e;cases e
  ·rw [hfree] at hc;cases hc
 rcases hx with hk|hk
 ·refine wpAny_storeName_local hk hn (fun h' hn' hs=>?_) hcls
  obtain ⟨oL,_,_,hoL,_⟩:=id hn
  refine h _ ⟨I.ok,I.os,I.bare,⟨fun b o e n hb hx=>?_,fun b o e n hb hx=>?_,I.base.free,fun b o e hx=>?_,I.base.tups,I.base.frzs,I.base.tbls⟩,⟨_,hn',fun j y v' e1 e2 e3=>?_⟩,fun y c e=>?_,I.free,I.freeC,fun p hp=>?_,tracked ⟨oL,hoL,I.free⟩ hs,by simpa using I.len⟩ ⟨_,hs,.inl rfl⟩
  ·exact (hs.2 b (Nat.ne_of_lt (Nat.lt_of_lt_of_le (Heap.lt_size e) I.ok.above))).trans (I.base.keep b o e n hb hx)
  ·obtain ⟨sl,e1⟩:=I.base.slot b o e n hb hx
   exact ⟨sl,(hs.2 b (Nat.ne_of_lt (Nat.lt_of_lt_of_le (Heap.lt_size e) I.ok.above))).trans e1⟩
  ·obtain ⟨o',e1⟩:=I.base.there b o e hx
   exact ⟨o',(hs.2 b (Nat.ne_of_lt (Nat.lt_of_lt_of_le (Heap.lt_size e) I.ok.above))).trans e1⟩
  ·by_cases hj:j=i
   ·subst hj
    rw [hi] at e1;cases e1
    rw [List.getElem?_set_self hiU] at e2
    cases e2
    exact ⟨u,r,.inl ⟨hk,by simp⟩⟩
   ·rw [List.getElem?_set_ne (Ne.symm hj)] at e2
    obtain ⟨u',r',q⟩:=hl j y v' e1 e2 e3
    refine ⟨u',r',?_⟩
    rcases q with ⟨k,e⟩|⟨k,c,e,z⟩
    ·refine .inl ⟨k,?_⟩
     have:y≠x:=fun e=>hj (lD hN e1 (e ▸ hi))
     simp [this,e]
    ·exact .inr ⟨k,c,e,z.sameBut hs (cne y c e)⟩
  ·obtain ⟨w',z⟩:=I.cell y c e
   exact ⟨w',z.sameBut hs (cne y c e)⟩
  ·obtain ⟨e,n,ne,nf,d⟩:=I.pin p hp
   exact ⟨(hs.2 p.1 ne).trans e,n,ne,nf,d⟩
 ·have hfn:X.fn x=true:=by
   rcases hf with z|z
   ·exact z
   ·rw [z] at hk;cases hk
  obtain ⟨c,hc⟩:=I.ok.has x (.inl hk)
  obtain ⟨w',z⟩:=I.cell x c hc
  refine wpAny_storeName_cell I.ok.kind hk hc z (fun h' hc' hs=>?_)
  obtain ⟨oc,hoc,hocd⟩:=id z
  refine h { s with heap:=h' } ⟨I.ok,I.os,I.bare,⟨fun b o e n hb hx=>?_,fun b o e n hb hx=>?_,I.base.free,fun b o e hx=>?_,I.base.tups,I.base.frzs,I.base.tbls⟩,⟨m,hn.sameBut hs (Ne.symm (cne x c hc)),fun j y v' e1 e2 e3=>?_⟩,fun y c' e=>?_,I.free,I.freeC,fun p hp=>?_,tracked ⟨oc,hoc,I.freeC x c hc⟩ hs,by simpa using I.len⟩ ⟨c,hs,.inr hc⟩
  ·exact (hs.2 b (Nat.ne_of_lt (Nat.lt_of_lt_of_le (Heap.lt_size e) (I.ok.cab x c hfn hc)))).trans (I.base.keep b o e n hb hx)
  ·obtain ⟨sl,e1⟩:=I.base.slot b o e n hb hx
   exact ⟨sl,(hs.2 b (Nat.ne_of_lt (Nat.lt_of_lt_of_le (Heap.lt_size e) (I.ok.cab x c hfn hc)))).trans e1⟩
  ·obtain ⟨o',e1⟩:=I.base.there b o e hx
   exact ⟨o',(hs.2 b (Nat.ne_of_lt (Nat.lt_of_lt_of_le (Heap.lt_size e) (I.ok.cab x c hfn hc)))).trans e1⟩
  ·by_cases hj:j=i
   ·subst hj
    rw [hi] at e1;cases e1
    rw [List.getElem?_set_self hiU] at e2
    cases e2
    exact ⟨u,r,.inr ⟨.inl hk,c,hc,hc'⟩⟩
   ·rw [List.getElem?_set_ne (Ne.symm hj)] at e2
    obtain ⟨u',r',q⟩:=hl j y v' e1 e2 e3
    refine ⟨u',r',?_⟩
    rcases q with q|⟨k,c',e,z'⟩
    ·exact .inl q
    ·refine .inr ⟨k,c',e,z'.sameBut hs ?_⟩
     rintro rfl
     exact hj (lD hN e1 (I.ok.inj _ _ _ e hc ▸ hi))
  ·by_cases hcc:c'=c
   ·subst hcc;exact ⟨_,hc'⟩
   ·obtain ⟨w2,z2⟩:=I.cell y c' e
    exact ⟨w2,z2.sameBut hs hcc⟩
  ·obtain ⟨e,n,ne,nf,d⟩:=I.pin p hp
   refine ⟨(hs.2 p.1 ?_).trans e,n,ne,nf,d⟩
   intro q
   rw [q,hoc] at e
   have q':oc=p.2:=Option.some.inj e
   exact d w' (by rw [← q'];exact hocd)
theorem qu {M:Model} {A:Around} {E:Value->Shared->Prop} {i:Nat} {x:Str} {v:V} {u:Value} {Q:Unit->Shared->Prop} (I:Inv X Z U H s) (hN:X.N.Nodup) (hi:X.N[i]?=some x) (hx:Loc X.env.scope x) (r:RelV v u)
 (h:∀ s',Inv X Z (U.set i (some v)) H s'->Q () s') (hf:X.fn x=true∨X.env.scope.names.lookup x=some .local:=by first|exact .inl rfl|exact .inr rfl|assumption):wpAny M A (storeName X.env x u) Q E s:=
 jO I hN hi hx r (fun s' I' _=>h s' I') hf
theorem Inv.call' {s':Shared} {ch:List Addr} (I:Inv X Z U H s) (ho:s'.os=s.os) (u:Un (frs X.stack) ch H H' s.heap s'.heap) (hok:iC X.prog X.w H' s'.heap) (hg:AllBare s'.gens)
 (hch:∀ b∈ch,(b∈X.ex∨X.s₀.heap.objs.size≤b)/\b≠X.env.locals/\(∀ x c,X.env.cells.lookup x=some c->c≠b)/\∀ p∈X.pn++Z,p.1≠b):Inv X Z U H' s':=by
 obtain ⟨h',g',d',t',o'⟩:=s'
 have e:o'=s.os:=ho
 subst e
 exact I.call (g':=g') (t':=t') (d':=d') u hok hg hch
end
abbrev XK:=Value->Option Addr->Hp->Prop
abbrev St:=List (Option V)
abbrev VK:=V->Hp->Prop
abbrev TE:=St->Hp->VK->Prop
abbrev TT:=St->Hp->(Bool->Hp->Prop)->Prop
abbrev TA:=St->Hp->(List V->Hp->Prop)->Prop
structure Ends where
 nx:St->Hp->Prop
 rt:VK
 bk:St->Hp->Prop:=fun _ _=>False
 ct:St->Hp->Prop:=fun _ _=>False
abbrev TS:=Ends->St->Hp->Prop
def EP (X:Cx) (Z:List (Addr×Obj)) (U:St) (Q:VK) (u:Value) (s':Shared):Prop:=∃ v H',Inv X Z U H' s'/\RelV v u/\Q v H'
def TP (X:Cx) (Z:List (Addr×Obj)) (U:St) (Q:Bool->Hp->Prop) (b:Bool) (s':Shared):Prop:=∃ H',Inv X Z U H' s'/\Q b H'
def AP (X:Cx) (Z:List (Addr×Obj)) (U:St) (Q:List V->Hp->Prop) (us:List Value) (s':Shared):Prop:=∃ vs H',Inv X Z U H' s'/\Vals vs us/\Q vs H'
def SP (X:Cx) (Z:List (Addr×Obj)) (D:Ends) (f:Flow) (s':Shared):Prop:=
 match f with
 |.next=>∃ σ' H',Inv X Z σ' H' s'/\D.nx σ' H'
 |.brk=>∃ σ' H',Inv X Z σ' H' s'/\D.bk σ' H'
 |.cont=>∃ σ' H',Inv X Z σ' H' s'/\D.ct σ' H'
 |.ret u=>∃ v σ' H',Inv X Z σ' H' s'/\RelV v u/\D.rt v H'
def PE (X:Cx) (e:Expr) (t:TE):Prop:=
 ∀ (Z:List (Addr×Obj)) (s:Shared) (U:St) (H:Hp) (Q:VK),Inv X Z U H s->t U H Q->wpAny (model X.prog X.w) X.A (eval e X.env) (EP X Z U Q) X.xe s
def PT (X:Cx) (e:Expr) (t:TT):Prop:=
 ∀ (Z:List (Addr×Obj)) (s:Shared) (U:St) (H:Hp) (Q:Bool->Hp->Prop),Inv X Z U H s->t U H Q->wpAny (model X.prog X.w) X.A (isTrue e X.env (eval e X.env)) (TP X Z U Q) X.xe s
def PW (X:Cx) (e:Expr) (t:TT):Prop:=
 ∀ (whole:Sem Value) (Z:List (Addr×Obj)) (s:Shared) (U:St) (H:Hp) (Q:Bool->Hp->Prop),Inv X Z U H s->t U H Q->wpAny (model X.prog X.w) X.A (isTrue e X.env whole) (TP X Z U Q) X.xe s
theorem PW.pt {X:Cx} {e:Expr} {t:TT} (h:PW X e t):PT X e t:=h _
def PA (X:Cx) (es:List Expr) (t:TA):Prop:=
 ∀ (pos:Pos) (Z:List (Addr×Obj)) (s:Shared) (U:St) (H:Hp) (Q:List V->Hp->Prop),Inv X Z U H s->t U H Q->wpAny (model X.prog X.w) X.A (spliced (backTo pos (starEach es X.env))) (AP X Z U Q) X.xe s
def PS (X:Cx) (st:Stmt) (t:TS):Prop:=
 ∀ (Z:List (Addr×Obj)) (s:Shared) (U:St) (H:Hp) (D:Ends),Inv X Z U H s->t D U H->wpAny (model X.prog X.w) X.A (exec st X.env) (SP X Z D) X.xe s
def qU (X:Cx) (st:List Stmt) (t:TS):Prop:=
 ∀ (Z:List (Addr×Obj)) (s:Shared) (U:St) (H:Hp) (D:Ends),Inv X Z U H s->t D U H->wpAny (model X.prog X.w) X.A (execs st X.env) (SP X Z D) X.xe s
theorem bU {α:Type} {t:Sem α} {Q Q':α->Shared->Prop} {M:Model} {A:Around} {E:Value->Shared->Prop} {s:Shared} (h:wpAny M A t Q E s) (hQ:∀ a s,Q a s->Q' a s):wpAny M A t Q' E s:=wpAny_mono h hQ fun _ _ x=>x
section
variable {X:Cx}
theorem bin {a b:Expr} {ta tb:TE} (ha:PE X a ta) (hb:PE X b tb) {Z:List (Addr×Obj)} {s:Shared} {U:St} {H:Hp} {R:V->V->Hp->Prop} (I:Inv X Z U H s) (h:ta U H fun x H1=>tb U H1 fun y H2=>R x y H2)
 {α:Type} {Q:α->Shared->Prop} {f:Value->Value->Sem α}
 (hf:∀ v u s2 x y H2,Inv X Z U H2 s2->RelV x v->RelV y u->R x y H2->wpAny (model X.prog X.w) X.A (f v u) Q X.xe s2) :
 wpAny (model X.prog X.w) X.A (eval a X.env) (fun v s₁=>wpAny (model X.prog X.w) X.A (eval b X.env) (fun u s₂=>wpAny (model X.prog X.w) X.A (f v u) Q X.xe s₂) X.xe s₁) X.xe s:=by
 refine bU (ha Z s U H _ I h) fun v s1 ⟨x,H1,I1,r1,q1⟩=>?_
 refine bU (hb Z s1 U H1 _ I1 q1) fun u s2 ⟨y,H2,I2,r2,q2⟩=>?_
 exact hf v u s2 x y H2 I2 r1 r2 q2
def lZ (i:Nat):TE:=fun U H Q=>∃ v,U[i]?=some (some v)/\Q v H
def tC (v:V):TE:=fun _ H Q=>Q v H
theorem CW {i:Nat} {x:Str} {pos:Pos} (hN:X.N[i]?=some x) (hv:Lr X.env.scope x) (hd:(x == ("__debug__" : Str))=false:=by decide) (hcd:(x == ("__classdict__" : Str))=false:=by decide):PE X (.Name x pos) (lZ i):=by
 intro Z s U H Q I h
 obtain ⟨v,e,h⟩:=h
 obtain ⟨m,hn,hl⟩:=I.loc
 obtain ⟨u,r,l⟩:=hl i x v hN e hv
 have fin:EP X Z U Q u s:=⟨v,H,I,r,h⟩
 rcases l with ⟨hk,hm⟩|⟨hk,c,hc,hcell⟩
 ·exact wpAny_Name (wpAny_loadName_local I.ok.kind hk hn hm fin) hd
 ·rcases hk with hk|hk
  ·exact wpAny_Name (wpAny_loadName_cell I.ok.kind hk hc hcell fin) hd
  ·exact wpAny_Name (wpAny_loadName_free I.ok.kind hk hc hcell fin hcd) hd
theorem aq {i j pos}:PE X (.Constant (.int i) j pos) (tC (.int i)):=fun _ _ _ H _ I h=>wpAny_Constant_int ⟨.int i,H,I.tok _,⟨_,rfl⟩,h⟩
theorem qm {b j pos}:PE X (.Constant (.bool b) j pos) (tC (.bl b)):=fun _ _ _ H _ I h=>Constant_bool ⟨.bl b,H,I,rfl,h⟩
theorem gQ {j pos}:PE X (.Constant .none j pos) (tC .non):=fun _ _ _ H _ I h=>Constant_none ⟨.non,H,I,rfl,h⟩
theorem aO {x j pos}:PE X (.Constant (.str x) j pos) (tC (.str x)):=fun _ _ _ H _ I h=>Calls.Constant_str ⟨.str x,H,I.tok _,⟨_,rfl⟩,h⟩
def Gl (X:Cx) (x:Str):Prop:=X.env.kindOf x=some .globalImplicit
theorem jx {E:Value->Shared->Prop} {Z:List (Addr×Obj)} {s:Shared} {U:St} {H:Hp} {x:Str} {u:Value} {pos:Pos} {Q:Value->Shared->Prop} (I:Inv X Z U H s) (hg:Gl X x) (hm:X.mg x=some u) (h:Q u s)
 (hd:(x == ("__debug__" : Str))=false:=by decide):wpAny (model X.prog X.w) X.A (eval (.Name x pos) X.env) Q E s:=
 Calls.Name_function_global I.ok.kind hg (Calls.loadGlobal_global (by rw [I.ok.glob];exact I.mod.glob.keeps I.bk) hm h) hd
theorem iw {E:Value->Shared->Prop} {Z:List (Addr×Obj)} {s:Shared} {U:St} {H:Hp} {x:Str} {u:Value} {pos:Pos} {Q:Value->Shared->Prop} (I:Inv X Z U H s) (hg:Gl X x) (hm:X.mg x=none) (hv:bootBuiltins x=some u) (h:Q u s)
 (hn:x ≠ "__name__":=by decide) (hd:(x == ("__debug__" : Str))=false:=by decide):wpAny (model X.prog X.w) X.A (eval (.Name x pos) X.env) Q E s:=by
 obtain ⟨mb,h1,h2⟩:=I.mod.blt
 exact Calls.Name_function_global I.ok.kind hg (Calls.loadGlobal_builtin (by rw [I.ok.glob];exact I.mod.glob.keeps I.bk) hm (by rw [I.ok.blt];exact h1.keeps I.bk) ((h2 x hn).trans hv) h) hd
theorem d7 {x:Str} {v:V} {u:Value} {pos:Pos} (hg:Gl X x) (hm:X.mg x=some u) (r:RelV v u) (hd:(x == ("__debug__" : Str))=false:=by decide):PE X (.Name x pos) (tC v):=
 fun _ _ _ H _ I h=>jx I hg hm ⟨v,H,I,r,h⟩ hd
theorem zb {x:Str} {v:V} {u:Value} {pos:Pos} (hg:Gl X x) (hm:X.mg x=none) (hv:bootBuiltins x=some u) (r:RelV v u) (hn:x ≠ "__name__":=by decide) (hd:(x == ("__debug__" : Str))=false:=by decide):PE X (.Name x pos) (tC v):=
 fun _ _ _ H _ I h=>iw I hg hm hv ⟨v,H,I,r,h⟩ hn hd
variable {a b:Expr} {ta tb:TE} {pos:Pos}
def PC (X:Cx) (op:CmpOp) (a b:Expr) (t:TE):Prop:=
 ∀ (Z:List (Addr×Obj)) (s:Shared) (U:St) (H:Hp) (Q:VK),Inv X Z U H s->t U H Q->
   wpAny (model X.prog X.w) X.A (eval a X.env) (fun v s₁=>wpAny (model X.prog X.w) X.A (eval b X.env) (fun u s₂=>wpAny (model X.prog X.w) X.A (compareOp op v u) (EP X Z U Q) X.xe s₂) X.xe s₁) X.xe s
def tB (t:TE):TT:=fun U H Q=>t U H fun x H1=>∃ c,x=.bl c/\Q c H1
theorem Nb {op:CmpOp} {t:TE} (h:PC X op a b t) (h1:behindInMarks op b=false:=by first|exact nobehind _ (by decide) (by decide)|rfl):PT X (.Compare a [op] [b] pos) (tB t):=by
 intro Z s U H Q I hw
 refine wpAny_isTrue_Compare1 (bU (h Z s U H _ I hw) fun v s1 h1=>bU h1 fun u s2 h2=>bU h2 fun c s3 ⟨x,H1,I1,r1,q1⟩=>?_) h1
 obtain ⟨d,rfl,q⟩:=q1
 cases r1
 exact wpAny_truthy_bool ⟨H1,I1,q⟩
theorem dI {e:Expr} {t:TE} (h:PE X e t) (he:∀ whole,isTrue e X.env whole=(do let v ← whole;standAt e.pos;holding [v] (truthy v)):=by intro _;rfl):PT X e (tB t):=by
 intro Z s U H Q I hw
 refine isTrue_plain (bU (h Z s U H _ I hw) fun v s1 ⟨x,H1,I1,r1,q1⟩=>?_) (he _)
 obtain ⟨d,rfl,q⟩:=q1
 cases r1
 exact wpAny_truthy_bool ⟨H1,I1,q⟩
variable {tA tB':TT} {rest:List Expr}
def Qx (t u:TT):TT:=fun U H Q=>t U H fun c H1=>if c=true then u U H1 Q else Q false H1
def RD (t u:TT):TT:=fun U H Q=>t U H fun c H1=>if c=true then Q true H1 else u U H1 Q
def Ig (t:TT):TT:=fun U H Q=>t U H fun c H1=>Q (!c) H1
theorem jt (ha:PT X a tA):PW X (.BoolOp .And [a] pos) tA:=by
 intro wh Z s U H Q I h
 refine isTrue_and (bU (ha Z s U H Q I h) fun c s1 e=>?_)
 cases c with
 |true=>exact isTrue_and_nil e
 |false=>exact e
theorem jD (ha:PT X a tA):PW X (.BoolOp .Or [a] pos) tA:=by
 intro wh Z s U H Q I h
 refine isTrue_or (bU (ha Z s U H Q I h) fun c s1 e=>?_)
 cases c with
 |false=>exact isTrue_or_nil e
 |true=>exact e
theorem m6 (ha:PT X a tA) (hb:PW X (.BoolOp .And (b::rest) pos) tB'):PW X (.BoolOp .And (a::b::rest) pos) (Qx tA tB'):=by
 intro wh Z s U H Q I h
 refine isTrue_and (bU (ha Z s U H _ I h) fun c s1 ⟨H1,I1,q1⟩=>?_)
 cases c with
 |true=>exact hb wh Z s1 U H1 Q I1 q1
 |false=>exact ⟨H1,I1,q1⟩
theorem m7 (ha:PT X a tA) (hb:PW X (.BoolOp .Or (b::rest) pos) tB'):PW X (.BoolOp .Or (a::b::rest) pos) (RD tA tB'):=by
 intro wh Z s U H Q I h
 refine isTrue_or (bU (ha Z s U H _ I h) fun c s1 ⟨H1,I1,q1⟩=>?_)
 cases c with
 |true=>exact ⟨H1,I1,q1⟩
 |false=>exact hb wh Z s1 U H1 Q I1 q1
theorem gU (ha:PT X a tA):PT X (.UnaryOp .Not a pos) (Ig tA):=by
 intro Z s U H Q I h
 exact isTrue_not (ha Z s U H (fun c H1=>Q (!c) H1) I h)
def Hb (ta tb:TE):TE:=fun U H Q=>ta U H fun x H1=>∃ c,x=.bl c/\if c=true then tb U H1 Q else Q (.bl false) H1
def Ou (ta tb:TE):TE:=fun U H Q=>ta U H fun x H1=>∃ c,x=.bl c/\if c=true then Q (.bl true) H1 else tb U H1 Q
def Hr (ta:TE):TE:=fun U H Q=>ta U H fun x H1=>∃ c,x=.bl c/\Q (.bl (!c)) H1
theorem fZ {op} {t:TE} (h:PE X a t):PE X (.BoolOp op [a] pos) t:=fun Z s U H Q I hw=>BoolOp_one (h Z s U H Q I hw)
theorem cX (ha:PE X a ta) (hb:PE X (.BoolOp .And (b::rest) pos) tb):PE X (.BoolOp .And (a::b::rest) pos) (Hb ta tb):=by
 intro Z s U H Q I h
 refine BoolOp_and (bU (ha Z s U H _ I h) fun v s1 ⟨x,H1,I1,r1,q1⟩=>?_)
 obtain ⟨c,rfl,q1⟩:=q1
 cases r1
 refine wpAny_truthy_bool ?_
 cases c with
 |true=>exact hb Z s1 U H1 Q I1 q1
 |false=>exact ⟨.bl false,H1,I1,rfl,q1⟩
theorem Ih (ha:PE X a ta) (hb:PE X (.BoolOp .Or (b::rest) pos) tb):PE X (.BoolOp .Or (a::b::rest) pos) (Ou ta tb):=by
 intro Z s U H Q I h
 refine BoolOp_or (bU (ha Z s U H _ I h) fun v s1 ⟨x,H1,I1,r1,q1⟩=>?_)
 obtain ⟨c,rfl,q1⟩:=q1
 cases r1
 refine wpAny_truthy_bool ?_
 cases c with
 |false=>exact hb Z s1 U H1 Q I1 q1
 |true=>exact ⟨.bl true,H1,I1,rfl,q1⟩
theorem qO (ha:PE X a ta):PE X (.UnaryOp .Not a pos) (Hr ta):=by
 intro Z s U H Q I h
 refine UnaryOp_ (bU (ha Z s U H _ I h) fun v s1 ⟨x,H1,I1,r1,q1⟩=>?_)
 obtain ⟨c,rfl,q1⟩:=q1
 cases r1
 exact not_of (wpAny_truthy_bool ⟨.bl (!c),H1,I1,rfl,q1⟩)
def RB (t:TT) (ta tb:TE):TE:=fun U H Q=>t U H fun c H1=>if c=true then ta U H1 Q else tb U H1 Q
theorem gj {c:Expr} (hc:PT X c tA) (ha:PE X a ta) (hb:PE X b tb):PE X (.IfExp c a b pos) (RB tA ta tb):=by
 intro Z s U H Q I h
 refine wpAny_IfExp (bU (hc Z s U H _ I h) fun d s1 ⟨H1,I1,q1⟩=>?_)
 cases d with
 |true=>exact ha Z s1 U H1 Q I1 q1
 |false=>exact hb Z s1 U H1 Q I1 q1
end
def bM (K:PySem.W.Frag) (H:Hp) (a:Addr) (xs:List V):Prop:=
 Rd H a (.lst xs)∨
  ∃ (o:Obj) (its:Array Value) (n:Nat),K.lookup a=some o/\o.cls=.type "list"/\o.dict=none/\o.data=.seq its n/\its.size≤sizeLine/\Vals xs its.toList
def bF (K:PySem.W.Frag) (H:Hp) (a:Addr) (xs:List V):Prop:=
 Rd H a (.tup xs)∨
  ∃ (o:Obj) (its:Array Value) (n:Nat),K.lookup a=some o/\o.cls=.type "tuple"/\o.data=.seq its n/\its.size≤sizeLine/\Vals xs its.toList
def Q4:Value->Option V
 |.none=>some .non
 |.bool b=>some (.bl b)
 |.int i _=>some (.int i)
 |.str x _=>some (.str x)
 |.bytes b _=>some (.byt b)
 |.float b _=>some (.flt b)
 |.ref a=>some (.ref a)
 |.type n=>some (.ty n)
 |_=>none
theorem RelV.abs {x:V} {u:Value} (r:RelV x u):Q4 u=some x:=by
 cases x with
 |non=>cases r;rfl
 |bl _=>cases r;rfl
 |int _=>obtain ⟨t,rfl⟩:=r;rfl
 |str _=>obtain ⟨t,rfl⟩:=r;rfl
 |byt _=>obtain ⟨t,rfl⟩:=r;rfl
 |flt _=>obtain ⟨t,rfl⟩:=r;rfl
 |ref _=>cases r;rfl
 |ty _=>cases r;rfl
theorem RelV.inj {x y:V} {u:Value} (r:RelV x u) (q:RelV y u):x=y:=Option.some.inj (r.abs.symm.trans q.abs)
theorem Vals.inj:∀ {xs ys:List V} {us:List Value},Vals xs us->Vals ys us->xs=ys
 |_,_,_,.nil,.nil=>rfl
 |_,_,_,.cons r t,.cons r' t'=>by rw [r.inj r',Vals.inj t t']
section
variable {X:Cx} {Z:List (Addr×Obj)} {U:St} {H:Hp} {s:Shared} {a:Addr} {xs ys:List V}
theorem bM.of {K:PySem.W.Frag} (h:H a=some (.lst xs)):bM K H a xs:=.inl (.inl h)
theorem bF.of {K:PySem.W.Frag} (h:H a=some (.tup xs)):bF K H a xs:=.inl (.inl h)
theorem Inv.list (I:Inv X Z U H s) (h:bM X.K H a xs):∃ its:List Value,Vals xs its/\PlainL s.heap a its.toArray/\xs.length≤sizeLine:=by
 rcases h with h|⟨o,its,n,hk,hc,hd,hs,hz,r⟩
 ·obtain ⟨z,its,n,r,e⟩:=h.ok I.hok
  exact ⟨its,r,⟨_,n,e,rfl,rfl,rfl⟩,z⟩
 ·refine ⟨its.toList,r,⟨o,n,I.kIn a o hk,hc,hd,by simpa using hs⟩,?_⟩
  have e:=r.length
  simp only [Array.length_toList] at e
  omega
theorem Inv.tuple (I:Inv X Z U H s) (h:bF X.K H a xs):∃ its:List Value,Vals xs its/\IsTup s.heap a its.toArray/\xs.length≤sizeLine:=by
 rcases h with h|⟨o,its,n,hk,hc,hs,hz,r⟩
 ·obtain ⟨z,its,r,p⟩:=h.ok I.hok
  exact ⟨its,r,p,z⟩
 ·refine ⟨its.toList,r,⟨o,I.kIn a o hk,hc,n,by simpa using hs⟩,?_⟩
  have e:=r.length
  simp only [Array.length_toList] at e
  omega
theorem Inv.list_inj (I:Inv X Z U H s) (h:bM X.K H a xs) (h':bM X.K H a ys):xs=ys:=by
 obtain ⟨its,r,⟨o,n,e,_,_,d⟩,_⟩:=I.list h
 obtain ⟨its',r',⟨o',n',e',_,_,d'⟩,_⟩:=I.list h'
 rw [e] at e';cases e'
 rw [d] at d'
 injection d' with d1 _
 have:its=its':=by simpa using congrArg Array.toList d1
 subst this
 exact r.inj r'
theorem Inv.tuple_inj (I:Inv X Z U H s) (h:bF X.K H a xs) (h':bF X.K H a ys):xs=ys:=by
 obtain ⟨its,r,⟨o,e,_,n,d⟩,_⟩:=I.tuple h
 obtain ⟨its',r',⟨o',e',_,n',d'⟩,_⟩:=I.tuple h'
 rw [e] at e';cases e'
 rw [d] at d'
 injection d' with d1 _
 have:its=its':=by simpa using congrArg Array.toList d1
 subst this
 exact r.inj r'
end
abbrev Cx.wish (X:Cx) (E:Value->Shared->Prop):Cx:={ X with xe:=E }
abbrev Cx.nox (X:Cx):Cx:=X.wish fun _ _=>False
theorem Cx.Ok.wish {X:Cx} (ok:X.Ok) (E:Value->Shared->Prop):(X.wish E).Ok:=
 ⟨ok.mod,ok.kind,ok.glob,ok.blt,ok.above,ok.inj,ok.has,ok.cab,ok.hd,ok.frames,ok.stk,ok.exf,ok.bs,ok.bsz,ok.noex,ok.exfs,ok.funs,ok.frf⟩
theorem Cx.Ok.unwish {X:Cx} {E:Value->Shared->Prop} (ok:(X.wish E).Ok):X.Ok:=
 ⟨ok.mod,ok.kind,ok.glob,ok.blt,ok.above,ok.inj,ok.has,ok.cab,ok.hd,ok.frames,ok.stk,ok.exf,ok.bs,ok.bsz,ok.noex,ok.exfs,ok.funs,ok.frf⟩
section
variable {X:Cx} {Z:List (Addr×Obj)} {U:St} {H:Hp} {s:Shared} {E:Value->Shared->Prop}
theorem Inv.wish (I:Inv X Z U H s) (E:Value->Shared->Prop):Inv (X.wish E) Z U H s:=⟨I.ok.wish E,I.os,I.bare,I.base,I.loc,I.cell,I.free,I.freeC,I.pin,I.hok,I.len⟩
theorem Inv.unwish (I:Inv (X.wish E) Z U H s):Inv X Z U H s:=⟨I.ok.unwish,I.os,I.bare,I.base,I.loc,I.cell,I.free,I.freeC,I.pin,I.hok,I.len⟩
theorem SP.unwish {D:Ends} {f:Flow} {s':Shared} (h:SP (X.wish E) Z D f s'):SP X Z D f s':=by
 cases f with
 |next=>obtain ⟨σ',H',I,q⟩:=h;exact ⟨σ',H',I.unwish,q⟩
 |brk=>obtain ⟨σ',H',I,q⟩:=h;exact ⟨σ',H',I.unwish,q⟩
 |cont=>obtain ⟨σ',H',I,q⟩:=h;exact ⟨σ',H',I.unwish,q⟩
 |ret u=>obtain ⟨v,σ',H',I,r,q⟩:=h;exact ⟨v,σ',H',I.unwish,r,q⟩
theorem qU.nox {st:List Stmt} {t:TS} (h:qU X.nox st t):qU X st t:=fun Z s U H D I hw=>
 wpAny_mono (h Z s U H D (I.wish _) hw) (fun _ _ q=>q.unwish) fun _ _ z=>False.elim z
end
section
variable {X:Cx} {st:Stmt} {rest:List Stmt} {t u:TS} {e:Expr} {te:TE} {pos:Pos}
def Kw:TS:=fun D U H=>D.nx U H
def Gv (t u:TS):TS:=fun D U H=>t { D with nx:=u D } U H
theorem aQ:qU X [] Kw:=fun _ _ U H _ I h=>wpAny_execs_nil ⟨U,H,I,h⟩
theorem ao (h1:PS X st t) (h2:qU X rest u):qU X (st::rest) (Gv t u):=by
 intro Z s U H D I h
 refine wpAny_execs_cons (bU (h1 Z s U H { D with nx:=u D } I h) fun f s1 q=>?_)
 cases f with
 | next=>
   obtain ⟨σ',H',I',q⟩:=q
   exact h2 Z s1 σ' H' D I' q
 |ret v=>exact q
 |brk=>exact q
 |cont=>exact q
theorem au (h1:PS X st t):qU X [st] t:=by
 intro Z s U H D I h
 refine wpAny_execs_cons (bU (h1 Z s U H D I h) fun f s1 q=>?_)
 cases f with
 |next=>exact wpAny_execs_nil q
 |ret v=>exact q
 |brk=>exact q
 |cont=>exact q
theorem Inv.quiet {Z:List (Addr×Obj)} {U:St} {H:Hp} {s:Shared} (I:Inv X Z U H s):interactive X.env=false:=by simp [interactive,I.ok.kind]
def JC (te:TE):TS:=fun D U H=>te U H fun _ H1=>D.nx U H1
theorem c7 (he:PE X e te) (hs:swapsWith e none pos.line X.env=pure false:=by rfl):PS X (.Expr e pos) (JC te):=by
 intro Z s U H D I h
 exact wpAny_Expr_any (bU (he Z s U H _ I h) fun v s1 ⟨x,H1,I1,r1,q1⟩=>⟨U,H1,I1,q1⟩) I.quiet hs
def N7 (te:TE):TS:=fun D U H=>te U H D.rt
theorem aP (he:PE X e te):PS X (.Return (some e) pos) (N7 te):=by
 intro Z s U H D I h
 exact wpAny_Return_some (bU (he Z s U H _ I h) fun v s1 ⟨x,H1,I1,r1,q1⟩=>⟨x,U,H1,I1,r1,q1⟩)
def Gg (c:TT) (t u:TS):TS:=fun D U H=>c U H fun b H1=>if b=true then t D U H1 else u D U H1
theorem bh {c:Expr} {a b:List Stmt} {tc:TT} (hc:PT X c tc) (ha:qU X a t) (hb:qU X b u):PS X (.If c a b pos) (Gg tc t u):=by
 intro Z s U H D I h
 refine wpAny_If (bU (hc Z s U H _ I h) fun d s1 ⟨H1,I1,q1⟩=>?_)
 cases d with
 |true=>exact ha Z s1 U H1 D I1 q1
 |false=>exact hb Z s1 U H1 D I1 q1
def Fb:TS:=fun _ _ _=>False
theorem fD:PS X st Fb:=fun _ _ _ _ _ _ h=>h.elim
end
abbrev TG:=V->St->Hp->(St->Hp->Prop)->Prop
abbrev CZ:=List V->St->Hp->(St->Hp->Prop)->Prop
def PG (X:Cx) (target:Expr) (t:TG):Prop:=
 ∀ (Z:List (Addr×Obj)) (s:Shared) (U:St) (H:Hp) (v:V) (u:Value) (Q:St->Hp->Prop),Inv X Z U H s->RelV v u->t v U H Q->
   wpAny (model X.prog X.w) X.A (assign target X.env u) (fun _ s'=>∃ σ' H',Inv X Z σ' H' s'/\Q σ' H') X.xe s
def M5 (X:Cx) (ts:List Expr) (t:CZ):Prop:=
 ∀ (Z:List (Addr×Obj)) (s:Shared) (U:St) (H:Hp) (vs:List V) (us:List Value) (Q:St->Hp->Prop),Inv X Z U H s->Vals vs us->t vs U H Q->
   wpAny (model X.prog X.w) X.A (assignInOrder ((assignEach ts X.env).map (·.2)) us) (fun _ s'=>∃ σ' H',Inv X Z σ' H' s'/\Q σ' H') X.xe s
section
variable {X:Cx} {pos:Pos}
def bK (i:Nat):TG:=fun v U H Q=>Q (U.set i (some v)) H
theorem aV {i:Nat} {x:Str} (hN:X.N.Nodup) (hi:X.N[i]?=some x) (hx:Loc X.env.scope x) (hf:X.fn x=true∨X.env.scope.names.lookup x=some .local:=by first|exact .inl rfl|exact .inr rfl|assumption):PG X (.Name x pos) (bK i):=by
 intro Z s U H v u Q I r h
 exact wpAny_assign_Name (qu I hN hi hx r (fun s' I'=>⟨_,H,I',h⟩) hf)
def Ni:CZ:=fun vs U H Q=>vs=[]/\Q U H
def GK (t:TG) (u:CZ):CZ:=fun vs U H Q=>∃ v r,vs=v::r/\t v U H fun σ' H'=>u r σ' H' Q
theorem dX:M5 X [] Ni:=by
 intro Z s U H vs us Q I r h
 obtain ⟨e,h⟩:=h
 subst e
 cases r
 exact assignInOrder_nil ⟨U,H,I,h⟩
theorem bw {e:Expr} {es:List Expr} {t:TG} {u:CZ} (h1:PG X e t) (h2:M5 X es u)
 (hs:(assignEach (e::es) X.env).map (·.2)=assign e X.env::(assignEach es X.env).map (·.2):=by rfl):M5 X (e::es) (GK t u):=by
 intro Z s U H vs us Q I r h
 obtain ⟨v,vr,e1,h⟩:=h
 subst e1
 cases r with
 | cons r rr=>
   rw [hs]
   refine assignInOrder_cons (bU (h1 Z s U H _ _ _ I r h) fun _ s1 ⟨σ1,H1,I1,q1⟩=>?_)
   exact h2 Z s1 σ1 H1 _ _ Q I1 rr q1
def Qo (K:PySem.W.Frag) (n:Nat) (t:CZ):TG:=fun v U H Q=>∃ a xs,v=.ref a/\bF K H a xs/\xs.length=n/\t xs U H Q
theorem gW {es:List Expr} {k:Nat} {t:CZ} {n:Nat} (hc:X.calm=true) (h:M5 X es t)
 (hn:(assignEach es X.env).length=n:=by rfl) (hst:(assignEach es X.env).findIdx? (·.1)=none:=by rfl):PG X (.Tuple es k pos) (Qo X.K n t):=by
 intro Z s U H v u Q I r hw
 obtain ⟨a,xs,e1,hq,hl,hw⟩:=hw
 subst e1
 cases r
 obtain ⟨its,rv,ht,hz⟩:=I.tuple hq
 refine assign_Tuple_tuple (I.ok.hd hc) ht (by simp [hn,← hl,rv.length]) hst fun h' hx=>?_
 have I1:Inv X Z U H { s with heap:=h' }:=I.kept (t':=s.toks) fun b o e=>hx b o (Nat.ne_of_lt (Heap.lt_size e)) e
 exact h Z _ U H xs _ Q I1 (by simpa using rv) hw
def yI (te:TE) (g:TG):TS:=fun D U H=>te U H fun x H1=>g x U H1 D.nx
theorem xx {tg e:Expr} {te:TE} {g:TG} (he:PE X e te) (hg:PG X tg g) (hs:swapsWithSole [tg] e pos.line X.env=pure false:=by rfl) (hw:swappedStores [tg] e X.env=pure none:=by rfl)
 (h1:(assignEach [tg] X.env).map (·.2)=[assign tg X.env]:=by rfl):PS X (.Assign [tg] e pos) (yI te g):=by
 intro Z s U H D I h
 refine wpAny_Assign_stores (bU (he Z s U H _ I h) fun v s1 ⟨x,H1,I1,r1,q1⟩=>?_) hs hw
 rw [h1]
 exact bU (hg Z s1 U H1 x v _ I1 r1 q1) fun _ s2 q=>q
theorem b7 {i:Nat} {x:Str} {e:Expr} {te:TE} {pos':Pos} (hN:X.N.Nodup) (hi:X.N[i]?=some x) (hx:Loc X.env.scope x) (he:PE X e te) (hs:swapsWith e (some (.Name x pos')) pos.line X.env=pure false:=by rfl) (hf:X.fn x=true∨X.env.scope.names.lookup x=some .local:=by first|exact .inl rfl|exact .inr rfl|assumption) :
 PS X (.Assign [.Name x pos'] e pos) (yI te (bK i)):=by
 intro Z s U H D I h
 refine wpAny_Assign_Name (bU (he Z s U H _ I h) fun v s1 ⟨y,H1,I1,r1,q1⟩=>?_) hs
 exact qu I1 hN hi hx r1 (fun s2 I2=>⟨_,H1,I2,q1⟩) hf
end
structure It where
 go:Nat->Hp->Prop
 yld:Nat->Hp->V->Hp->Prop
 stop:Nat->Hp->Prop
def gh (X:Cx) (Z:List (Addr×Obj)) (H:Hp) (b:Addr):Prop:=
 H b=none/\b≠X.env.locals/\b∉X.fs/\(b∈X.ex∨X.s₀.heap.objs.size≤b)/\(∀ x c,X.env.cells.lookup x=some c->c≠b)/\∀ p∈X.pn++Z,p.1≠b
theorem Inv.fpOk {X:Cx} {Z:List (Addr×Obj)} {U:St} {H H':Hp} {s:Shared} {b:Addr} (I:Inv X Z U H s) (hb:s.heap.objs.size≤b) (hn:H' b=none):gh X Z H' b:=by
 refine ⟨hn,Nat.ne_of_gt (Nat.lt_of_lt_of_le I.lt hb),I.nofs hb,.inr (Nat.le_trans I.sz hb),fun x c e z=>?_,fun p hp z=>?_⟩
 ·obtain ⟨v,q⟩:=I.cell x c e
  exact absurd (Nat.lt_of_lt_of_le q.lt (by rw [z];exact hb)) (Nat.lt_irrefl _)
 ·exact absurd (Nat.lt_of_lt_of_le (Heap.lt_size (I.pin p hp).1) (by rw [z];exact hb)) (Nat.lt_irrefl _)
structure Turn (P:Program) (w:World) (K:PySem.W.Frag) (tg:Expr) (J:It) (fp:List Addr) (it:Addr) (tn:Nat->Heap->Prop):Prop where
 mem:it∈fp
 obj:∀ i h,tn i h->∀ b∈fp,∃ o,h.get? b=some o/\∀ v,o.data≠.cell v
 keep:∀ i h h',tn i h->(∀ b∈fp,∀ o,h.get? b=some o->h'.get? b=some o)->tn i h'
 item:∀ (X:Cx),X.prog=P->X.w=w->X.K=K->X.calm=true->∀ (i:Nat) (Z:List (Addr×Obj)) (s:Shared) (U:St) (H:Hp) (E:Value->Shared->Prop),Inv X Z U H s->(∀ b∈fp,gh X Z H b)->tn i s.heap->J.go i H->
  wpAny (model P w) X.A (pyNext (.ref it)) (fun r s1=>∃ u,r=some u/\
   wpAny (model P w) X.A (letOwnedTupleGo tg (.ref it) u) (fun _ s2=>∃ x H',Inv X Z U H' s2/\RelV x u/\J.yld i H x H'/\tn (i+1) s2.heap/\∀ b∈fp,H' b=none) E s1) E s
 done:∀ (X:Cx),X.prog=P->X.w=w->X.K=K->X.calm=true->∀ (i:Nat) (Z:List (Addr×Obj)) (s:Shared) (U:St) (H:Hp) (E:Value->Shared->Prop),Inv X Z U H s->(∀ b∈fp,gh X Z H b)->tn i s.heap->J.stop i H->
  wpAny (model P w) X.A (pyNext (.ref it)) (fun r s1=>r=none/\Inv X Z U H s1) E s
 self:∀ (A:Around) (i:Nat) (s:Shared) (Q:Value->Shared->Prop) (E:Value->Shared->Prop),tn i s.heap->Q (.ref it) s->wpAny (model P w) A (pyIter (.ref it)) Q E s
abbrev TI:=St->Hp->(It->Hp->Prop)->Prop
def PIE (X:Cx) (Z:List (Addr×Obj)) (U:St) (tg:Expr) (R:It->Hp->Prop) (itv:Value) (s2:Shared):Prop:=
 ∃ (it:Addr) (fp:List Addr) (tn:Nat->Heap->Prop) (J:It) (H':Hp),itv=.ref it/\Inv X Z U H' s2/\Turn X.prog X.w X.K tg J fp it tn/\tn 0 s2.heap/\(∀ b∈fp,gh X Z H' b)/\R J H'
def PI (X:Cx) (tg iter:Expr) (wi:TI):Prop:=
 ∀ (Z:List (Addr×Obj)) (s:Shared) (U:St) (H:Hp) (R:It->Hp->Prop),Inv X Z U H s->wi U H R->
   wpAny (model X.prog X.w) X.A (eval iter X.env) (fun v s1=>wpAny (model X.prog X.w) X.A (pyIter v) (PIE X Z U tg R) X.xe s1) X.xe s
theorem xq {M:Model} {A:Around} {E:Value->Shared->Prop} {s:Shared} {tg:Expr} {it:Addr} {u:Value} {o:Obj} {n:String} {vs:Array Value} {Q:Unit->Shared->Prop} (ho:s.heap.get? it=some o) (hc:o.cls=.type n) (hd:o.data=.fields vs)
 (hn:["enumerate","zip","dict_itemiterator","dict_reverseitemiterator","odict_iterator","itertools.zip_longest","itertools.pairwise"].contains n=false) (hQ:Q () s):wpAny M A (letOwnedTupleGo tg (.ref it) u) Q E s:=by
 unfold letOwnedTupleGo
 cases tg <;> first
  |exact wpAny_pure hQ
  |(cases u <;> first
   |exact wpAny_pure hQ
   | (refine wpAny_bind (wpAny_load ho ?_)
      rw [hc,hd]
      show wpAny M A (if (["enumerate","zip","dict_itemiterator","dict_reverseitemiterator","odict_iterator","itertools.zip_longest","itertools.pairwise"].contains n && vs[0]? == some (rawInt _))=true then _ else _) Q E s
      rw [if_neg (by intro h;rw [hn,Bool.false_and] at h;cases h)]
      exact wpAny_pure hQ))
def zr (K:PySem.W.Frag) (a:Addr):It:=
 ⟨fun i H=>∃ xs x,bM K H a xs/\xs[i]?=some x,fun i H x H'=>H'=H/\∀ xs,bM K H a xs->xs[i]?=some x,fun i H=>∃ xs,bM K H a xs/\xs.length≤i⟩
def Fi (K:PySem.W.Frag) (a:Addr):It:=
 ⟨fun i H=>∃ xs x,bF K H a xs/\xs[i]?=some x,fun i H x H'=>H'=H/\∀ xs,bF K H a xs->xs[i]?=some x,fun i H=>∃ xs,bF K H a xs/\xs.length≤i⟩
def Am (lo:Int) (n:Nat):It:=⟨fun i _=>i<n,fun i H x H'=>H'=H/\x=.int (lo+i),fun i _=>n≤i⟩
theorem uO {P:Program} {w:World} {K:PySem.W.Frag} {tg:Expr} (a it:Addr):Turn P w K tg (zr K a) [it] it (fun i h=>h.IsListIter it a i) where
 mem:=by simp
 obj:=fun i h st b hb=>by
  have e:b=it:=by simpa using hb
  subst e
  obtain ⟨o,e,c,d⟩:=st
  exact ⟨o,e,fun v z=>by rw [d] at z;cases z⟩
 keep:=fun i h h' st k=>st.at fun o e=>k it (by simp) o e
 item:=by
  intro X hP hw hK hc i Z s U H E I hf st hg
  subst hP hw hK
  obtain ⟨xs,x,hq,hx⟩:=hg
  obtain ⟨its,rv,p,hz⟩:=I.list hq
  obtain ⟨u,hu,ru⟩:=rv.get hx
  obtain ⟨f0,f1,f2,f3,f4,f5⟩:=hf it (by simp)
  refine wpAny_pyNext_list_item st p.isList (x:=u) (by simpa using hu) fun h' st' sb=>?_
  have I1:Inv X Z U H { s with heap:=h' }:=I.turned (t':=s.toks) (fun b o hb e=>(sb.2 b hb).trans e) f0 f1 f3 f4 f5
  obtain ⟨o,e,c,d⟩:=id st'
  exact ⟨u,rfl,xq (s:={ s with heap:=h' }) e c d (by decide) ⟨x,H,I1,ru,⟨rfl,fun ys hy=>by rw [I.list_inj hy hq];exact hx⟩,st',fun b hb=>(hf b hb).1⟩⟩
 done:=by
  intro X hP hw hK hc i Z s U H E I hf st hg
  subst hP hw hK
  obtain ⟨xs,hq,hx⟩:=hg
  obtain ⟨its,rv,p,hz⟩:=I.list hq
  obtain ⟨f0,f1,f2,f3,f4,f5⟩:=hf it (by simp)
  have hl:=rv.length
  exact wpAny_pyNext_list_end (I.ok.hd hc) st p.isList (by simp;omega) fun h' eb=>⟨rfl,I.turned (t':=s.toks) (fun b o hb e=>eb b o hb e) f0 f1 f3 f4 f5⟩
 self:=fun _ _ _ _ _ st h=>wpAny_pyIter_listiter st h
theorem rm {P:Program} {w:World} {K:PySem.W.Frag} {tg:Expr} (a it:Addr):Turn P w K tg (Fi K a) [it] it (fun i h=>h.IsTupleIter it a i) where
 mem:=by simp
 obj:=fun i h st b hb=>by
  have e:b=it:=by simpa using hb
  subst e
  obtain ⟨o,e,c,d⟩:=st
  exact ⟨o,e,fun v z=>by rw [d] at z;cases z⟩
 keep:=fun i h h' st k=>st.at fun o e=>k it (by simp) o e
 item:=by
  intro X hP hw hK hc i Z s U H E I hf st hg
  subst hP hw hK
  obtain ⟨xs,x,hq,hx⟩:=hg
  obtain ⟨its,rv,p,hz⟩:=I.tuple hq
  obtain ⟨u,hu,ru⟩:=rv.get hx
  obtain ⟨f0,f1,f2,f3,f4,f5⟩:=hf it (by simp)
  refine wpAny_pyNext_tuple_item st (show s.heap.IsTuple a its.toArray from p) (x:=u) (by simpa using hu) fun h' st' sb=>?_
  have I1:Inv X Z U H { s with heap:=h' }:=I.turned (t':=s.toks) (fun b o hb e=>(sb.2 b hb).trans e) f0 f1 f3 f4 f5
  obtain ⟨o,e,c,d⟩:=id st'
  exact ⟨u,rfl,xq (s:={ s with heap:=h' }) e c d (by decide) ⟨x,H,I1,ru,⟨rfl,fun ys hy=>by rw [I.tuple_inj hy hq];exact hx⟩,st',fun b hb=>(hf b hb).1⟩⟩
 done:=by
  intro X hP hw hK hc i Z s U H E I hf st hg
  subst hP hw hK
  obtain ⟨xs,hq,hx⟩:=hg
  obtain ⟨its,rv,p,hz⟩:=I.tuple hq
  obtain ⟨f0,f1,f2,f3,f4,f5⟩:=hf it (by simp)
  have hl:=rv.length
  exact wpAny_pyNext_tuple_end (I.ok.hd hc) st (show s.heap.IsTuple a its.toArray from p) (by simp;omega) fun h' eb=>⟨rfl,I.turned (t':=s.toks) (fun b o hb e=>eb b o hb e) f0 f1 f3 f4 f5⟩
 self:=fun _ _ _ _ _ st h=>wpAny_pyIter_tupleiter st h
theorem rR {P:Program} {w:World} {K:PySem.W.Frag} {tg:Expr} (it:Addr) (lo:Int) (n:Nat):Turn P w K tg (Am lo n) [it] it (fun i h=>IsRangeIter h it (lo+(i:Nat)*1) ((n:Int)-(i:Nat)) 1) where
 mem:=by simp
 obj:=fun i h st b hb=>by
  have e:b=it:=by simpa using hb
  subst e
  exact ⟨_,st,fun v z=>by
   have z':Data.fields _=Data.cell v:=z
   cases z'⟩
 keep:=fun i h h' st k=>k it (by simp) _ st
 item:=by
  intro X hP hw hK hc i Z s U H E I hf st hg
  subst hP hw hK
  obtain ⟨f0,f1,f2,f3,f4,f5⟩:=hf it (by simp)
  have W:=Walks.range (prog:=X.prog) (w:=X.w) (I.ok.hd hc) it lo 1 n
  refine W.item i s _ _ hg st fun v h' tk hv st' kk=>?_
  obtain ⟨t,rfl⟩:=hv
  have I1:Inv X Z U H { s with heap:=h',toks:=tk }:=I.turned (fun b o hb e=>kk b o (by simpa using hb) e) f0 f1 f3 f4 f5
  refine ⟨_,rfl,xq (s:={ s with heap:=h',toks:=tk }) (n:="range_iterator") st' rfl rfl (by decide) ⟨.int (lo+i),H,I1,⟨t,?_⟩,⟨rfl,rfl⟩,st',fun b hb=>(hf b hb).1⟩⟩
  rw [Int.mul_one]
 done:=by
  intro X hP hw hK hc i Z s U H E I hf st hg
  subst hP hw hK
  obtain ⟨f0,f1,f2,f3,f4,f5⟩:=hf it (by simp)
  exact wpAny_pyNext_range_end (I.ok.hd hc) st (by have:n≤i:=hg;omega) fun h' eb=>⟨rfl,I.turned (t':=s.toks) (fun b o hb e=>eb b o hb e) f0 f1 f3 f4 f5⟩
 self:=fun _ _ _ _ _ st h=>wpAny_pyIter_rangeiter st h
section
variable {X:Cx} {tg:Expr}
def tH (K:PySem.W.Frag) (tl:TE):TI:=fun U H R=>tl U H fun x H1=>∃ a,x=.ref a/\(∃ xs,bM K H1 a xs)/\R (zr K a) H1
def NK (K:PySem.W.Frag) (tl:TE):TI:=fun U H R=>tl U H fun x H1=>∃ a,x=.ref a/\(∃ xs,bF K H1 a xs)/\R (Fi K a) H1
theorem dY {l:Expr} {tl:TE} (hl:PE X l tl):PI X tg l (tH X.K tl):=by
 intro Z s U H R I h
 refine bU (hl Z s U H _ I h) fun v s1 ⟨x,H1,I1,r1,q1⟩=>?_
 obtain ⟨a,e,⟨xs,hq⟩,q⟩:=q1
 subst e
 cases r1
 obtain ⟨its,rv,p,hz⟩:=I1.list hq
 refine wpAny_pyIter_list p.isList ?_
 refine ⟨s1.heap.objs.size,[s1.heap.objs.size],_,_,H1,rfl,I1.kept (t':=s1.toks) fun b o e=>Heap.get?_push_of_some _ e,uO a _,⟨_,Heap.get?_push_size _ rfl,rfl,rfl⟩,fun b hb=>?_,q⟩
 have e:b=s1.heap.objs.size:=by simpa using hb
 subst e
 exact I1.fpOk (Nat.le_refl _) (I1.hok.fresh (Nat.le_refl _))
theorem ig {l:Expr} {tl:TE} (hl:PE X l tl):PI X tg l (NK X.K tl):=by
 intro Z s U H R I h
 refine bU (hl Z s U H _ I h) fun v s1 ⟨x,H1,I1,r1,q1⟩=>?_
 obtain ⟨a,e,⟨xs,hq⟩,q⟩:=q1
 subst e
 cases r1
 obtain ⟨its,rv,p,hz⟩:=I1.tuple hq
 refine wpAny_pyIter_tuple (show s1.heap.IsTuple a its.toArray from p) ?_
 refine ⟨s1.heap.objs.size,[s1.heap.objs.size],_,_,H1,rfl,I1.kept (t':=s1.toks) fun b o e=>Heap.get?_push_of_some _ e,rm a _,⟨_,Heap.get?_push_size _ rfl,rfl,rfl⟩,fun b hb=>?_,q⟩
 have e:b=s1.heap.objs.size:=by simpa using hb
 subst e
 exact I1.fpOk (Nat.le_refl _) (I1.hok.fresh (Nat.le_refl _))
theorem yf {Z:List (Addr×Obj)} {U:St} {H:Hp} {s:Shared} {R:It->Hp->Prop} {E:Value->Shared->Prop} {lo hi:Int} {t u v:Tok} {tk:Nat} (I:Inv X Z U H s) (h1:-(2 ^ 62)≤lo) (h2:lo<2 ^ 62) (h3:-(2 ^ 62)≤hi) (h4:hi<2 ^ 62)
 (q:R (Am lo (hi-lo).toNat) H):wpAny (model X.prog X.w) X.A (pyIter (.ref s.heap.objs.size)) (PIE X Z U tg R) E { s with heap:=s.heap.push { cls:=.type "range",data:=.fields #[.int lo t,.int hi u,.int 1 v] },toks:=tk }:=by
 refine wpAny_pyIter_range (IsRange.new ..) (small_one h1 h2 h3 h4) ?_
 have I1:Inv X Z U H { s with heap:=s.heap.push { cls:=.type "range",data:=.fields #[.int lo t,.int hi u,.int 1 v] },toks:=tk }:=I.kept fun b o e=>Heap.get?_push_of_some _ e
 refine ⟨(s.heap.push { cls:=.type "range",data:=.fields #[.int lo t,.int hi u,.int 1 v] }).objs.size,[(s.heap.push { cls:=.type "range",data:=.fields #[.int lo t,.int hi u,.int 1 v] }).objs.size],_,_,H,rfl,
  I1.kept (t':=tk) fun b o e=>Heap.get?_push_of_some _ e,rR _ lo (hi-lo).toNat,?_,fun b hb=>?_,q⟩
 ·have e1:lo+((0:Nat):Int)*1=lo:=by simp
  have e2:(((hi-lo).toNat:Nat):Int)-((0:Nat):Int)=Builtin.Range.rangeSize lo hi 1:=by rw [rangeSize_one];split <;> omega
  show IsRangeIter _ _ (lo+((0:Nat):Int)*1) ((((hi-lo).toNat:Nat):Int)-((0:Nat):Int)) 1
  rw [e1,e2]
  exact Heap.get?_push_size _ rfl
 ·have e:b=(s.heap.push { cls:=.type "range",data:=.fields #[.int lo t,.int hi u,.int 1 v] }).objs.size:=by simpa using hb
  subst e
  exact I1.fpOk (Nat.le_refl _) (I1.hok.fresh (Nat.le_refl _))
def HW (ta:TA):TI:=fun U H R=>ta U H fun vs H1=>∃ j:Int,vs=[.int j]/\-(2 ^ 62)≤j/\j<2 ^ 62/\R (Am 0 j.toNat) H1
theorem dC {a:Expr} {ta:TA} {p pos:Pos} (hg:Gl X "range") (hm:X.mg "range" = none) (ha:PA X [a] ta) (hs:starEach [a] X.env=[(false,eval a X.env)]:=by rfl):PI X tg (.Call (.Name "range" p) [a] [] pos) (HW ta):=by
 intro Z s U H R I h
 refine Call_ (iw I hg hm boot_range (PyProof.Rows.callWith_type1 (bU (ha pos Z s U H _ I h) fun us s1 ⟨vs,H1,I1,r1,q1⟩=>?_) hs rfl))
 obtain ⟨j,e,q1,q2,q⟩:=q1
 subst e
 cases r1 with
 | cons r rr=>
   cases rr
   obtain ⟨t,rfl⟩:=r
   exact call_range_1 (yf I1 (by omega) (by omega) q1 q2 (by simpa using q))
def Nv (wi:TI) (g:TG) (tb:TS):TS:=fun D U H=>wi U H fun J H1=>∃ W:Nat->Nat->St->Hp->Prop,(∃ m,W 0 m U H1)/\∀ i m U H,W i m U H->
 (J.stop i H/\D.nx U H)∨(J.go i H/\∃ N:St->Hp->Prop,(∀ σ' H',N σ' H'->∃ m',m'<m/\W (i+1) m' σ' H')/\∀ x H',J.yld i H x H'->g x U H' fun σ2 H2=>tb { D with nx:=N,ct:=N,bk:=D.nx } σ2 H2)
def gf (fp:List Addr) (h:Heap):List (Addr×Obj):=fp.filterMap fun b=>(h.get? b).map fun o=>(b,o)
theorem cA {fp:List Addr} {h:Heap} {b:Addr} {o:Obj} (hb:b∈fp) (e:h.get? b=some o):(b,o)∈gf fp h:=List.mem_filterMap.mpr ⟨b,hb,by rw [e];rfl⟩
theorem oh {fp:List Addr} {h:Heap} {p:Addr×Obj} (hp:p∈gf fp h):p.1∈fp/\h.get? p.1=some p.2:=by
 obtain ⟨b,hb,e⟩:=List.mem_filterMap.mp hp
 cases q:h.get? b with
 |none=>rw [q] at e;cases e
 | some o=>
   rw [q] at e
   have e':(b,o)=p:=Option.some.inj e
   subst e'
   exact ⟨hb,q⟩
theorem Inv.pinned {Z:List (Addr×Obj)} {U:St} {H:Hp} {s:Shared} {fp:List Addr} (I:Inv X Z U H s) (hf:∀ b∈fp,gh X Z H b) (ho:∀ b∈fp,∃ o,s.heap.get? b=some o/\∀ v,o.data≠.cell v):Inv X (Z++gf fp s.heap) U H s:=
 I.pins_of fun p hp=>(List.mem_append.mp hp).elim (fun z=>I.pin p (List.mem_append_right _ z)) fun z=>by
  obtain ⟨hb,e⟩:=oh z
  obtain ⟨f0,f1,f2,_⟩:=hf p.1 hb
  obtain ⟨o,e',d⟩:=ho p.1 hb
  rw [e] at e';cases e'
  exact ⟨e,f0,f1,f2,d⟩
theorem Inv.unpinned {Z pl:List (Addr×Obj)} {U:St} {H:Hp} {s:Shared} (I:Inv X (Z++pl) U H s):Inv X Z U H s:=I.pins_of fun p hp=>I.pin p (List.mem_append_right _ (List.mem_append_left _ hp))
theorem d9 {iter:Expr} {body:List Stmt} {wi:TI} {g:TG} {tb:TS} {pos:Pos} (hp:PassesOwn (model X.prog X.w) X.A X.env X.xe) (hc:X.calm=true) (hi:PI X tg iter wi) (hg:PG X tg g) (hb:qU X body tb)
 (hs:∀ x,foldedSetIterable iter X.env x=pure x:=by intro _;rfl):PS X (.For tg iter body [] pos) (Nv wi g tb):=by
 intro Z s U H D I h
 refine wpAny_For (bU (hi Z s U H _ I h) fun v s1 h1=>bU h1 fun itv s2 h2=>?_) hs
 obtain ⟨it,fp,tn,J,H2,e,I2,T,st2,f2,W,⟨m0,w0⟩,turn⟩:=h2
 subst e
 have stat:∀ {H':Hp},(∀ b∈fp,H' b=none)->∀ b∈fp,gh X Z H' b:=fun hn b hb=>⟨hn b hb,(f2 b hb).2⟩
 refine codeAny_forLoop_any (fun n s'=>∃ i σ' H',Inv X Z σ' H' s'/\tn i s'.heap/\(∀ b∈fp,H' b=none)/\W i n σ' H') ?_ m0 ⟨0,U,H2,I2,st2,fun b hb=>(f2 b hb).1,w0⟩
 rintro n s3 ⟨i,σ3,H3,I3,st3,fr3,w3⟩
 rcases turn i n σ3 H3 w3 with ⟨stop,qn⟩|⟨go,N,hN,step⟩
 ·refine wpAny_passesOwn hp (bU (T.done X rfl rfl rfl hc i Z s3 σ3 H3 X.xe I3 (stat fr3) st3 stop) fun r s4 ⟨hr,I4⟩=>?_)
  subst hr
  exact wpAny_execs_nil ⟨σ3,H3,I4,qn⟩
 ·refine wpAny_passesOwn hp (bU (T.item X rfl rfl rfl hc i Z s3 σ3 H3 X.xe I3 (stat fr3) st3 go) fun r s4 ⟨u,hr,h4⟩=>?_)
  subst hr
  refine wpAny_passesOwn hp (bU h4 fun _ s5 ⟨x,H5,I5,r5,y5,st5,fr5⟩=>?_)
  have I5':=I5.pinned (stat fr5) (T.obj _ _ st5)
  refine wpAny_passesOwn hp (bU (hg _ s5 σ3 H5 x u _ I5' r5 (step x H5 y5)) fun _ s6 ⟨σ6,H6,I6,q6⟩=>?_)
  refine wpAny_passesOwn hp (bU (hb _ s6 σ6 H6 _ I6 q6) fun f s7 q7=>?_)
  have again:∀ {σ7:St} {H7:Hp},Inv X (Z++gf fp s5.heap) σ7 H7 s7->N σ7 H7->∃ m,m<n/\∃ i σ' H',Inv X Z σ' H' s7/\tn i s7.heap/\(∀ b∈fp,H' b=none)/\W i m σ' H':=fun {σ7 H7} I7 n7=>by
   obtain ⟨m',hm,w7⟩:=hN σ7 H7 n7
   refine ⟨m',hm,i+1,σ7,H7,I7.unpinned,T.keep _ _ _ st5 fun b hb o e=>(I7.pin (b,o) (List.mem_append_right _ (List.mem_append_right _ (cA hb e)))).1,fun b hb=>?_,w7⟩
   obtain ⟨o,e,d⟩:=T.obj _ _ st5 b hb
   exact (I7.pin (b,o) (List.mem_append_right _ (List.mem_append_right _ (cA hb e)))).2.1
  cases f with
  |next=>obtain ⟨σ7,H7,I7,n7⟩:=q7;exact again I7 n7
  |cont=>obtain ⟨σ7,H7,I7,n7⟩:=q7;exact again I7 n7
  |brk=>obtain ⟨σ7,H7,I7,q7⟩:=q7;exact ⟨σ7,H7,I7.unpinned,q7⟩
  |ret v=>obtain ⟨x7,σ7,H7,I7,r7,q7⟩:=q7;exact ⟨x7,σ7,H7,I7.unpinned,r7,q7⟩
end
theorem jb {K:PySem.W.Frag} {a:Addr} {xs:List V} {g:TG} {tb:TS} {D:Ends} {U:St} {H:Hp} (Pv:Nat->St->Hp->Prop) (h0:Pv 0 U H) (hl:∀ i U H,i≤xs.length->Pv i U H->bM K H a xs)
 (hs:∀ i x U H,xs[i]?=some x->Pv i U H->g x U H fun σ2 H2=>tb { D with nx:=Pv (i+1),ct:=Pv (i+1),bk:=D.nx } σ2 H2) (hd:∀ U H,Pv xs.length U H->D.nx U H) :
 ∃ W:Nat->Nat->St->Hp->Prop,(∃ m,W 0 m U H)/\∀ i m U H,W i m U H->
   ((zr K a).stop i H/\D.nx U H)∨((zr K a).go i H/\∃ N:St->Hp->Prop,(∀ σ' H',N σ' H'->∃ m',m'<m/\W (i+1) m' σ' H')/\∀ x H',(zr K a).yld i H x H'->g x U H' fun σ2 H2=>tb { D with nx:=N,ct:=N,bk:=D.nx } σ2 H2):=by
 refine ⟨fun i m U H=>m=xs.length-i/\i≤xs.length/\Pv i U H,⟨xs.length,by simp,Nat.zero_le _,h0⟩,?_⟩
 rintro i m U H ⟨rfl,hi,p⟩
 have q:=hl i U H hi p
 by_cases hlt:i<xs.length
 ·refine .inr ⟨⟨xs,xs[i],q,by simp [hlt]⟩,Pv (i+1),fun σ' H' p'=>⟨xs.length-(i+1),by omega,rfl,hlt,p'⟩,fun x H' y=>?_⟩
  obtain ⟨e,y⟩:=y
  subst e
  exact hs i x U _ (y xs q) p
 ·have e:i=xs.length:=by omega
  subst e
  exact .inl ⟨⟨xs,q,Nat.le_refl _⟩,hd U H p⟩
theorem jB {K:PySem.W.Frag} {a:Addr} {xs:List V} {g:TG} {tb:TS} {D:Ends} {U:St} {H:Hp} (Pv:Nat->St->Hp->Prop) (h0:Pv 0 U H) (hl:∀ i U H,i≤xs.length->Pv i U H->bF K H a xs)
 (hs:∀ i x U H,xs[i]?=some x->Pv i U H->g x U H fun σ2 H2=>tb { D with nx:=Pv (i+1),ct:=Pv (i+1),bk:=D.nx } σ2 H2) (hd:∀ U H,Pv xs.length U H->D.nx U H) :
 ∃ W:Nat->Nat->St->Hp->Prop,(∃ m,W 0 m U H)/\∀ i m U H,W i m U H->
   ((Fi K a).stop i H/\D.nx U H)∨((Fi K a).go i H/\∃ N:St->Hp->Prop,(∀ σ' H',N σ' H'->∃ m',m'<m/\W (i+1) m' σ' H')/\∀ x H',(Fi K a).yld i H x H'->g x U H' fun σ2 H2=>tb { D with nx:=N,ct:=N,bk:=D.nx } σ2 H2):=by
 refine ⟨fun i m U H=>m=xs.length-i/\i≤xs.length/\Pv i U H,⟨xs.length,by simp,Nat.zero_le _,h0⟩,?_⟩
 rintro i m U H ⟨rfl,hi,p⟩
 have q:=hl i U H hi p
 by_cases hlt:i<xs.length
 ·refine .inr ⟨⟨xs,xs[i],q,by simp [hlt]⟩,Pv (i+1),fun σ' H' p'=>⟨xs.length-(i+1),by omega,rfl,hlt,p'⟩,fun x H' y=>?_⟩
  obtain ⟨e,y⟩:=y
  subst e
  exact hs i x U _ (y xs q) p
 ·have e:i=xs.length:=by omega
  subst e
  exact .inl ⟨⟨xs,q,Nat.le_refl _⟩,hd U H p⟩
theorem iB {lo:Int} {n:Nat} {g:TG} {tb:TS} {D:Ends} {U:St} {H:Hp} (Pv:Nat->St->Hp->Prop) (h0:Pv 0 U H)
 (hs:∀ i U H,i<n->Pv i U H->g (.int (lo+i)) U H fun σ2 H2=>tb { D with nx:=Pv (i+1),ct:=Pv (i+1),bk:=D.nx } σ2 H2) (hd:∀ U H,Pv n U H->D.nx U H) :
 ∃ W:Nat->Nat->St->Hp->Prop,(∃ m,W 0 m U H)/\∀ i m U H,W i m U H->
   ((Am lo n).stop i H/\D.nx U H)∨((Am lo n).go i H/\∃ N:St->Hp->Prop,(∀ σ' H',N σ' H'->∃ m',m'<m/\W (i+1) m' σ' H')/\∀ x H',(Am lo n).yld i H x H'->g x U H' fun σ2 H2=>tb { D with nx:=N,ct:=N,bk:=D.nx } σ2 H2):=by
 refine ⟨fun i m U H=>m=n-i/\i≤n/\Pv i U H,⟨n,by simp,Nat.zero_le _,h0⟩,?_⟩
 rintro i m U H ⟨rfl,hi,p⟩
 by_cases hlt:i<n
 ·refine .inr ⟨hlt,Pv (i+1),fun σ' H' p'=>⟨n-(i+1),by omega,rfl,hlt,p'⟩,fun x H' y=>?_⟩
  obtain ⟨e,y⟩:=y
  subst e y
  exact hs i U _ hlt p
 ·have e:i=n:=by omega
  subst e
  exact .inl ⟨Nat.le_refl _,hd U H p⟩
abbrev R2:=V->V->Hp->VK->Prop
def gR (X:Cx) (f:Value->Value->Sem Value) (r:R2):Prop:=
 ∀ (Z:List (Addr×Obj)) (s:Shared) (U:St) (H:Hp) (x y:V) (v u:Value) (Q:VK),Inv X Z U H s->RelV x v->RelV y u->r x y H Q->
   wpAny (model X.prog X.w) X.A (f v u) (EP X Z U Q) X.xe s
def Oq (X:Cx) (f:Value->Sem Value) (r:V->Hp->VK->Prop):Prop:=
 ∀ (Z:List (Addr×Obj)) (s:Shared) (U:St) (H:Hp) (x:V) (v:Value) (Q:VK),Inv X Z U H s->RelV x v->r x H Q->
   wpAny (model X.prog X.w) X.A (f v) (EP X Z U Q) X.xe s
def dG (X:Cx) (f:Value) (r:List V->Hp->VK->Prop):Prop:=
 ∀ (Z:List (Addr×Obj)) (s:Shared) (U:St) (H:Hp) (xs:List V) (us:List Value) (Q:VK),Inv X Z U H s->Vals xs us->r xs H Q->
   wpAny (model X.prog X.w) X.A (call f us) (EP X Z U Q) X.xe s
def Kr (r:R2) (ta tb:TE):TE:=fun U H Q=>ta U H fun x H1=>tb U H1 fun y H2=>r x y H2 Q
def QR (r:V->Hp->VK->Prop) (ta:TE):TE:=fun U H Q=>ta U H fun x H1=>r x H1 Q
def rI (C:Int->Int->Prop) (g:Int->Int->V):R2:=fun x y H Q=>∃ i j,x=.int i/\y=.int j/\C i j/\Q (g i j) H
def zq (g:Int->Int->V):R2:=fun x y H Q=>∃ i j,x=.int i/\y=.int j/\Q (g i j) H
def rU (g:Int->V):V->Hp->VK->Prop:=fun x H Q=>∃ i,x=.int i/\Q (g i) H
section
variable {X:Cx} {a b c:Expr} {ta tb tc:TE} {pos:Pos}
theorem B_ (ha:PE X a ta) (hb:PE X b tb) {Z:List (Addr×Obj)} {s:Shared} {U:St} {H:Hp} {R:V->V->Hp->Prop} (I:Inv X Z U H s)
 (h:ta U H fun x H1=>tb U H1 fun y H2=>R x y H2) {Q:Value->Shared->Prop} {f:Value->Value->Sem Value}
 (hf:∀ v u s2 x y H2,Inv X Z U H2 s2->RelV x v->RelV y u->R x y H2->wpAny (model X.prog X.w) X.A (f v u) Q X.xe s2) :
 wpAny (model X.prog X.w) X.A (eval a X.env) (fun v s₁=>wpAny (model X.prog X.w) X.A (eval b X.env) (fun u s₂=>wpAny (model X.prog X.w) X.A (f v u) Q X.xe s₂) X.xe s₁) X.xe s:=by
 refine bU (ha Z s U H _ I h) fun v s1 ⟨x,H1,I1,r1,q1⟩=>?_
 refine bU (hb Z s1 U H1 _ I1 q1) fun u s2 ⟨y,H2,I2,r2,q2⟩=>?_
 exact hf v u s2 x y H2 I2 r1 r2 q2
theorem a_ {op:Operator} {r:R2} (ho:gR X (binaryOp op) r) (ha:PE X a ta) (hb:PE X b tb):PE X (.BinOp a op b pos) (Kr r ta tb):=by
 intro Z s U H Q I h
 exact wpAny_BinOp (B_ ha hb I h fun v u s2 x y H2 I2 rx ry q=>ho Z s2 U H2 x y v u Q I2 rx ry q)
theorem lY {op:UnaryOp} {r:V->Hp->VK->Prop} (ho:Oq X (unaryOp op) r) (ha:PE X a ta):PE X (.UnaryOp op a pos) (QR r ta):=by
 intro Z s U H Q I h
 exact UnaryOp_ (bU (ha Z s U H _ I h) fun v s1 ⟨x,H1,I1,r1,q1⟩=>ho Z s1 U H1 x v Q I1 r1 q1)
theorem HN {f:Value->Value->Sem Value} {C:Int->Int->Prop} {g:Int->Int->Int}
 (rule:∀ (i j:Int) (t u:Tok) (s:Shared) (Q:Value->Shared->Prop) (E:Value->Shared->Prop),C i j->Q (.int (g i j) s.toks) { s with toks:=s.toks+1 }->wpAny (model X.prog X.w) X.A (f (.int i t) (.int j u)) Q E s) :
 gR X f (rI C fun i j=>.int (g i j)):=by
 intro Z s U H x y v u Q I rx ry h
 obtain ⟨i,j,rfl,rfl,hc,q⟩:=h
 obtain ⟨t,rfl⟩:=rx
 obtain ⟨t',rfl⟩:=ry
 exact rule i j t t' s _ _ hc ⟨.int (g i j),H,I.tok _,⟨_,rfl⟩,q⟩
theorem Jg {f:Value->Value->Sem Value} {g:Int->Int->Int}
 (rule:∀ (i j:Int) (t u:Tok) (s:Shared) (Q:Value->Shared->Prop) (E:Value->Shared->Prop),Q (.int (g i j) s.toks) { s with toks:=s.toks+1 }->wpAny (model X.prog X.w) X.A (f (.int i t) (.int j u)) Q E s) :
 gR X f (zq fun i j=>.int (g i j)):=by
 intro Z s U H x y v u Q I rx ry h
 obtain ⟨i,j,rfl,rfl,q⟩:=h
 obtain ⟨t,rfl⟩:=rx
 obtain ⟨t',rfl⟩:=ry
 exact rule i j t t' s _ _ ⟨.int (g i j),H,I.tok _,⟨_,rfl⟩,q⟩
theorem yH {f:Value->Value->Sem Value} {g:Int->Int->Bool}
 (rule:∀ (i j:Int) (t u:Tok) (s:Shared) (Q:Value->Shared->Prop) (E:Value->Shared->Prop),Q (.bool (g i j)) s->wpAny (model X.prog X.w) X.A (f (.int i t) (.int j u)) Q E s) :
 gR X f (zq fun i j=>.bl (g i j)):=by
 intro Z s U H x y v u Q I rx ry h
 obtain ⟨i,j,rfl,rfl,q⟩:=h
 obtain ⟨t,rfl⟩:=rx
 obtain ⟨t',rfl⟩:=ry
 exact rule i j t t' s _ _ ⟨.bl (g i j),H,I,rfl,q⟩
def N8 (i j:Int):Prop:=0<j/\j<1073741824
def O8 (i j:Int):Prop:=0≤j/\j≤1000000/\i.natAbs<2 ^ 64
def zf (i j:Int):Prop:=(-(2 ^ 64)<i/\i<2 ^ 64)∨(-(2 ^ 64)<j/\j<2 ^ 64)
theorem zf.ok {i j:Int} (h:zf i j):IntMulOk i j:=by
 rcases h with ⟨h1,h2⟩|⟨h1,h2⟩
 ·exact .of_left (intBits_le_64 h1 h2)
 ·exact .of_right (intBits_le_64 h1 h2)
theorem cI:gR X (binaryOp .Add) (zq fun i j=>.int (i+j)):=Jg fun _ _ _ _ _ _ _ q=>add_int q
theorem dJ:gR X (binaryOp .Sub) (zq fun i j=>.int (i-j)):=Jg fun _ _ _ _ _ _ _ q=>sub_int q
theorem iZ:gR X (binaryOp .Mult) (rI zf fun i j=>.int (i*j)):=HN fun _ _ _ _ _ _ _ hc q=>mul_int q hc.ok
theorem uw:gR X (binaryOp .FloorDiv) (rI N8 fun i j=>.int (i / j)):=HN fun i j _ _ _ _ _ hc q=>by
 have h1:(0:Int)<j:=hc.1
 have h2:j<1073741824:=hc.2
 exact floordiv_int (by omega) (by rw [Int.fdiv_eq_ediv_of_nonneg i (by omega)];exact q) (.inl (PyProof.noPylong_small (by omega)))
theorem eG:gR X (binaryOp .Mod) (rI (fun _ j=>0<j) fun i j=>.int (i % j)):=HN fun i j _ _ _ _ _ hc q=>by
 have h1:(0:Int)<j:=hc
 exact mod_int' (by omega) (by rw [Int.fmod_eq_emod_of_nonneg i (by omega)];exact q)
theorem Dv:gR X (binaryOp .Pow) (rI O8 fun i j=>.int (i ^ j.toNat)):=HN fun _ _ _ _ _ _ _ hc q=>pow_int_small hc.1 hc.2.1 hc.2.2 q
theorem Rc {f:Value->Sem Value} {g:Int->Int}
 (rule:∀ (i:Int) (t:Tok) (s:Shared) (Q:Value->Shared->Prop) (E:Value->Shared->Prop),Q (.int (g i) s.toks) { s with toks:=s.toks+1 }->wpAny (model X.prog X.w) X.A (f (.int i t)) Q E s) :
 Oq X f (rU fun i=>.int (g i)):=by
 intro Z s U H x v Q I rx h
 obtain ⟨i,rfl,q⟩:=h
 obtain ⟨t,rfl⟩:=rx
 exact rule i t s _ _ ⟨.int (g i),H,I.tok _,⟨_,rfl⟩,q⟩
theorem j5:Oq X (unaryOp .USub) (rU fun i=>.int (-i)):=Rc fun _ _ _ _ _ q=>neg_int q
end
def JX:V->V->Bool
 |.non,.non=>true|.non,.int _=>true|.int _,.non=>true|.non,.bl _=>true|.bl _,.non=>true|.non,.str _=>true|.str _,.non=>true
 |.int _,.int _=>true|.bl _,.bl _=>true|.str _,.str _=>true|.byt _,.byt _=>true
 |.int _,.str _=>true|.str _,.int _=>true|.bl _,.str _=>true|.str _,.bl _=>true
 |_,_=>false
def Ql:R2:=fun x y H Q=>JX x y=true/\Q (.bl (decide (x=y))) H
def Rp:R2:=fun x y H Q=>JX x y=true/\Q (.bl (!decide (x=y))) H
theorem uh {i j:Int}:decide (V.int i=V.int j)=(i == j):=by
 rw [Bool.eq_iff_iff]
 simp
theorem wO {i j:Bool}:decide (V.bl i=V.bl j)=(i == j):=by
 rw [Bool.eq_iff_iff]
 simp
theorem fU {i j:Str}:decide (V.str i=V.str j)=(i == j):=by
 rw [Bool.eq_iff_iff]
 simp
theorem tQ {i j:Array UInt8}:decide (V.byt i=V.byt j)=(i.toList == j.toList):=by
 rw [Bool.eq_iff_iff]
 cases i
 cases j
 simp
section
variable {X:Cx} {a b c:Expr} {ta tb tc:TE} {pos:Pos}
theorem bC {Z:List (Addr×Obj)} {U:St} {H:Hp} {s:Shared} {Q:VK} {k k':Bool} (I:Inv X Z U H s) (q:Q (.bl k) H) (e:k=k'):EP X Z U Q (.bool k') s:=by
 subst e
 exact ⟨.bl k,H,I,rfl,q⟩
theorem bJ:gR X (compareOp .Eq) Ql:=by
 intro Z s U H x y v u Q I rx ry h
 obtain ⟨hs,q⟩:=h
 cases x with
 | non=>
   cases rx
   cases y with
   |non=>cases ry;exact PySem.EqNone.eq_none_none (bC I q (by simp))
   |bl j=>cases ry;exact PySem.EqNone.eq_none_bool (bC I q (by simp))
   |int j=>obtain ⟨t',rfl⟩:=ry;exact PySem.EqNone.eq_none_int (bC I q (by simp))
   |str j=>obtain ⟨t',rfl⟩:=ry;exact PySem.EqNone.eq_none_str (bC I q (by simp))
   |_=>exact absurd (show false=true from hs) Bool.false_ne_true
 | bl i=>
   cases rx
   cases y with
   |non=>cases ry;exact PySem.EqNone.eq_bool_none (bC I q (by simp))
   |bl j=>cases ry;exact eq_bool (bC I q wO)
   |str j=>obtain ⟨t',rfl⟩:=ry;exact PySem.EqMixed.eq_bool_str (bC I q (by simp))
   |_=>exact absurd (show false=true from hs) Bool.false_ne_true
 | int i=>
   obtain ⟨t,rfl⟩:=rx
   cases y with
   |non=>cases ry;exact PySem.EqNone.eq_int_none (bC I q (by simp))
   |int j=>obtain ⟨t',rfl⟩:=ry;exact eq_int (bC I q uh)
   |str j=>obtain ⟨t',rfl⟩:=ry;exact PySem.EqMixed.eq_int_str (bC I q (by simp))
   |_=>exact absurd (show false=true from hs) Bool.false_ne_true
 | str i=>
   obtain ⟨t,rfl⟩:=rx
   cases y with
   |non=>cases ry;exact PySem.EqNone.eq_str_none (bC I q (by simp))
   |bl j=>cases ry;exact PySem.EqMixed.eq_str_bool (bC I q (by simp))
   |int j=>obtain ⟨t',rfl⟩:=ry;exact PySem.EqMixed.eq_str_int (bC I q (by simp))
   |str j=>obtain ⟨t',rfl⟩:=ry;exact eq_str (bC I q fU)
   |_=>exact absurd (show false=true from hs) Bool.false_ne_true
 | byt i=>
   obtain ⟨t,rfl⟩:=rx
   cases y with
   |byt j=>obtain ⟨t',rfl⟩:=ry;exact PySem.W.eq_bytes (bC I q tQ)
   |_=>exact absurd (show false=true from hs) Bool.false_ne_true
 |_=>cases y <;> exact absurd (show false=true from hs) Bool.false_ne_true
theorem jU:gR X (compareOp .NotEq) Rp:=by
 intro Z s U H x y v u Q I rx ry h
 obtain ⟨hs,q⟩:=h
 cases x with
 | non=>
   cases rx
   cases y with
   |non=>cases ry;exact PySem.EqNone.ne_none_none (bC I q (by simp))
   |bl j=>cases ry;exact PySem.EqNone.ne_none_bool (bC I q (by simp))
   |int j=>obtain ⟨t',rfl⟩:=ry;exact PySem.EqNone.ne_none_int (bC I q (by simp))
   |str j=>obtain ⟨t',rfl⟩:=ry;exact PySem.EqNone.ne_none_str (bC I q (by simp))
   |_=>exact absurd (show false=true from hs) Bool.false_ne_true
 | bl i=>
   cases rx
   cases y with
   |non=>cases ry;exact PySem.EqNone.ne_bool_none (bC I q (by simp))
   |bl j=>cases ry;exact ne_bool (bC I q (congrArg not wO))
   |str j=>obtain ⟨t',rfl⟩:=ry;exact PySem.EqMixed.ne_bool_str (bC I q (by simp))
   |_=>exact absurd (show false=true from hs) Bool.false_ne_true
 | int i=>
   obtain ⟨t,rfl⟩:=rx
   cases y with
   |non=>cases ry;exact PySem.EqNone.ne_int_none (bC I q (by simp))
   |int j=>obtain ⟨t',rfl⟩:=ry;exact ne_int (bC I q (congrArg not uh))
   |str j=>obtain ⟨t',rfl⟩:=ry;exact PySem.EqMixed.ne_int_str (bC I q (by simp))
   |_=>exact absurd (show false=true from hs) Bool.false_ne_true
 | str i=>
   obtain ⟨t,rfl⟩:=rx
   cases y with
   |non=>cases ry;exact PySem.EqNone.ne_str_none (bC I q (by simp))
   |bl j=>cases ry;exact PySem.EqMixed.ne_str_bool (bC I q (by simp))
   |int j=>obtain ⟨t',rfl⟩:=ry;exact PySem.EqMixed.ne_str_int (bC I q (by simp))
   |str j=>obtain ⟨t',rfl⟩:=ry;exact ne_str (bC I q (congrArg not fU))
   |_=>exact absurd (show false=true from hs) Bool.false_ne_true
 | byt i=>
   obtain ⟨t,rfl⟩:=rx
   cases y with
   |byt j=>obtain ⟨t',rfl⟩:=ry;exact PySem.W.ne_bytes (bC I q (congrArg not tQ))
   |_=>exact absurd (show false=true from hs) Bool.false_ne_true
 |_=>cases y <;> exact absurd (show false=true from hs) Bool.false_ne_true
theorem uq:gR X (compareOp .Lt) (zq fun i j=>.bl (decide (i<j))):=yH fun _ _ _ _ _ _ _ q=>lt_int q
theorem fK:gR X (compareOp .LtE) (zq fun i j=>.bl (decide (i≤j))):=yH fun _ _ _ _ _ _ _ q=>le_int q
theorem wX:gR X (compareOp .Gt) (zq fun i j=>.bl (decide (j<i))):=yH fun _ _ _ _ _ _ _ q=>gt_int q
theorem J8:gR X (compareOp .GtE) (zq fun i j=>.bl (decide (j≤i))):=yH fun _ _ _ _ _ _ _ q=>ge_int q
theorem lL:gR X (compareOp .Is) (fun x y H Q=>y=.non/\Q (.bl (decide (x=.non))) H):=by
 intro Z s U H x y v u Q I rx ry h
 obtain ⟨rfl,q⟩:=h
 cases ry
 refine is_none_gen (bC I q ?_)
 cases x <;> first
  |(cases rx;rfl)
  |(obtain ⟨t,rfl⟩:=rx;rfl)
theorem zu:gR X (compareOp .IsNot) (fun x y H Q=>y=.non/\Q (.bl (!decide (x=.non))) H):=by
 intro Z s U H x y v u Q I rx ry h
 obtain ⟨rfl,q⟩:=h
 cases ry
 refine isnot_none_gen (bC I q ?_)
 cases x <;> first
  |(cases rx;rfl)
  |(obtain ⟨t,rfl⟩:=rx;rfl)
theorem aM (b:Expr) {op:CmpOp} (h:op≠.In:=by decide) (h2:op≠.NotIn:=by decide):behindInMarks op b=false:=by
 have e1:(op == CmpOp.In)=false:=by cases op <;> first|rfl|exact absurd rfl h
 have e2:(op == CmpOp.NotIn)=false:=by cases op <;> first|rfl|exact absurd rfl h2
 cases b <;> simp [behindInMarks,e1,e2]
theorem bZ {op:CmpOp} {r:R2} (ho:gR X (compareOp op) r) (ha:PE X a ta) (hb:PE X b tb) (hm:behindInMarks op b=false):PE X (.Compare a [op] [b] pos) (Kr r ta tb):=by
 intro Z s U H Q I h
 exact wpAny_Compare1 (B_ ha hb I h fun v u s2 x y H2 I2 rx ry q=>ho Z s2 U H2 x y v u Q I2 rx ry q) hm
def uy (t:TE):TT:=fun U H Q=>t U H fun x H'=>∃ k,x=.bl k/\Q k H'
theorem aK {op:CmpOp} {r:R2} (ho:gR X (compareOp op) r) (ha:PE X a ta) (hb:PE X b tb) (hm:behindInMarks op b=false):PT X (.Compare a [op] [b] pos) (uy (Kr r ta tb)):=by
 intro Z s U H Q I h
 refine wpAny_isTrue_Compare1 (bU (ha Z s U H _ I h) fun v s1 ⟨x,H1,I1,r1,q1⟩=>bU (hb Z s1 U H1 _ I1 q1) fun u s2 ⟨y,H2,I2,r2,q2⟩=>
  bU (ho Z s2 U H2 x y v u _ I2 r1 r2 q2) fun c s3 ⟨z,H3,I3,r3,k,e,q3⟩=>?_) hm
 subst e
 cases r3
 exact wpAny_truthy_bool ⟨H3,I3,q3⟩
def sW (r r':R2) (ta tb tc:TE):TE:=fun U H Q=>ta U H fun x H1=>tb U H1 fun y H2=>r x y H2 fun z H3=>∃ k,z=.bl k/\
 (if k=true then tc U H3 fun w' H4=>r' y w' H4 Q else Q (.bl false) H3)
theorem ql {op op':CmpOp} {r r':R2} (ho:gR X (compareOp op) r) (ho':gR X (compareOp op') r') (ha:PE X a ta) (hb:PE X b tb) (hc:PE X c tc)
 (hm:lastMarks [op,op'] [b,c]=false:=by with_unfolding_all rfl):PE X (.Compare a [op,op'] [b,c] pos) (sW r r' ta tb tc):=by
 intro Z s U H Q I h
 refine Compare_chain (bU (ha Z s U H _ I h) fun v s1 ⟨x,H1,I1,r1,q1⟩=>chain_link (bU (hb Z s1 U H1 _ I1 q1) fun u s2 ⟨y,H2,I2,r2,q2⟩=>
  bU (ho Z s2 U H2 x y v u _ I2 r1 r2 q2) fun d s3 ⟨z,H3,I3,r3,k,e,q3⟩=>?_)) hm
 subst e
 cases r3
 refine wpAny_truthy_bool ?_
 cases k with
 |false=>exact ite_ff ⟨.bl false,H3,I3,rfl,q3⟩
 |true=>exact ite_tt (chain_last (bU (hc Z s3 U H3 _ I3 q3) fun w' s4 ⟨z',H4,I4,r4,q4⟩=>ho' Z s4 U H4 y z' u w' Q I4 r2 r4 q4))
theorem lX {op op':CmpOp} {r r':R2} (ho:gR X (compareOp op) r) (ho':gR X (compareOp op') r') (ha:PE X a ta) (hb:PE X b tb) (hc:PE X c tc)
 (hm:lastMarks [op,op'] [b,c]=false:=by with_unfolding_all rfl):PT X (.Compare a [op,op'] [b,c] pos) (uy (sW r r' ta tb tc)):=by
 intro Z s U H Q I h
 refine isTrue_chain (bU (ha Z s U H _ I h) fun v s1 ⟨x,H1,I1,r1,q1⟩=>test_link (bU (hb Z s1 U H1 _ I1 q1) fun u s2 ⟨y,H2,I2,r2,q2⟩=>
  bU (ho Z s2 U H2 x y v u _ I2 r1 r2 q2) fun d s3 ⟨z,H3,I3,r3,k,e,q3⟩=>?_)) hm
 subst e
 cases r3
 refine wpAny_truthy_bool ?_
 cases k with
 | false=>
   obtain ⟨k',e',q'⟩:=q3
   cases e'
   exact ite_ff ⟨H3,I3,q'⟩
 | true=>
   refine ite_tt (test_last (bU (hc Z s3 U H3 _ I3 q3) fun w' s4 ⟨z',H4,I4,r4,q4⟩=>bU (ho' Z s4 U H4 y z' u w' _ I4 r2 r4 q4) fun d' s5 ⟨z2,H5,I5,r5,k2,e2,q5⟩=>?_))
   subst e2
   cases r5
   exact wpAny_truthy_bool ⟨H5,I5,q5⟩
theorem lg:(sizeLine:Nat)<2 ^ 63:=by rw [sizeLine_eq];decide
theorem eN:gR X (binaryOp .Add) (fun x y H Q=>∃ i j,x=.str i/\y=.str j/\i.length+j.length≤sizeLine/\Q (.str (i++j)) H):=by
 intro Z s U H x y v u Q I rx ry h
 obtain ⟨i,j,rfl,rfl,hz,q⟩:=h
 obtain ⟨t,rfl⟩:=rx
 obtain ⟨t',rfl⟩:=ry
 exact add_str (fun t' tk=>⟨.str (i++j),H,I.tok _,⟨_,rfl⟩,q⟩) hz
theorem vals1 {x:V} {us:List Value} (r:Vals [x] us):∃ u,us=[u]/\RelV x u:=by
 cases r with
 |cons r1 r2=>cases r2;exact ⟨_,rfl,r1⟩
theorem vals2 {x y:V} {us:List Value} (r:Vals [x,y] us):∃ u w',us=[u,w']/\RelV x u/\RelV y w':=by
 cases r with
 | cons r1 r2=>
   cases r2 with
   |cons r3 r4=>cases r4;exact ⟨_,_,rfl,r1,r3⟩
theorem uZ (hc:X.calm=true):dG X (.builtin "max") (fun xs H Q=>∃ i j,xs=[.int i,.int j]/\Q (.int (if j > i then j else i)) H):=by
 intro Z s U H xs us Q I r h
 obtain ⟨i,j,rfl,q⟩:=h
 obtain ⟨u,w',rfl,⟨t,rfl⟩,⟨t',rfl⟩⟩:=vals2 r
 refine max_two_ints (I.ok.hd hc) fun h' tk k=>⟨_,H,I.kept k,?_,q⟩
 by_cases hj:j > i
 ·rw [if_pos hj,if_pos hj];exact ⟨_,rfl⟩
 ·rw [if_neg hj,if_neg hj];exact ⟨_,rfl⟩
theorem iM (hc:X.calm=true):dG X (.builtin "min") (fun xs H Q=>∃ i j,xs=[.int i,.int j]/\Q (.int (if j<i then j else i)) H):=by
 intro Z s U H xs us Q I r h
 obtain ⟨i,j,rfl,q⟩:=h
 obtain ⟨u,w',rfl,⟨t,rfl⟩,⟨t',rfl⟩⟩:=vals2 r
 refine min_two_ints (I.ok.hd hc) fun h' tk k=>⟨_,H,I.kept k,?_,q⟩
 by_cases hj:j<i
 ·rw [if_pos hj,if_pos hj];exact ⟨_,rfl⟩
 ·rw [if_neg hj,if_neg hj];exact ⟨_,rfl⟩
theorem ju:dG X (.type "str") (fun xs H Q=>∃ i,xs=[.int i]/\i.natAbs.log2<1920/\Q (.str (toString i)) H):=by
 intro Z s U H xs us Q I r h
 obtain ⟨i,rfl,hz,q⟩:=h
 obtain ⟨u,rfl,t,rfl⟩:=vals1 r
 exact PySem.P.str_of_int hz ⟨.str _,H,I.tok _,⟨_,rfl⟩,q⟩
end
structure qZ (h:Heap) (x dx C:Addr) (mA:Str->Option Value):Prop where
 obj:h.get? x=some (PySem.W.instObj C dx)
 ns:h.Ns1 dx mA
 ne:dx≠x
theorem nJ {h:Heap} {dx:Addr} {mA:Str->Option Value} (n:h.Ns1 dx mA):∃ od,h.get? dx=some od/\∀ name,PySem.W.lookIn name od=some (mA name):=by
 obtain ⟨o,es,ep,ho,hd,hk,_,hm⟩:=n
 refine ⟨o,ho,fun name=>?_⟩
 have e:=hm name
 unfold nsFind findBy at e
 rw [← Array.find?_toList] at e
 unfold PySem.W.lookIn
 rw [hd]
 dsimp only
 split
 ·rename_i y q
  rw [q] at e
  exact congrArg some e
 ·rename_i q
  rw [q] at e
  have a:es.toList.any (·.refKey)=false:=by
   rw [List.any_eq_false]
   intro y hy
   obtain ⟨z,t,hkey⟩:=hk y (Array.mem_toList_iff.mp hy)
   simp [DictEntry.refKey,hkey]
  have a':¬ es.toList.any (·.refKey)=true:=by rw [a];exact Bool.false_ne_true
  rw [if_neg a']
  exact congrArg some e
theorem qZ.look {h:Heap} {x dx C:Addr} {mA:Str->Option Value} (I:qZ h x dx C mA):∃ od,PySem.W.InstAt h x (PySem.W.instObj C dx) C (some od)/\∀ name,PySem.W.lookIn name od=some (mA name):=
 let ⟨od,ho,hl⟩:=nJ I.ns
 ⟨od,⟨I.obj,rfl,rfl,ho⟩,hl⟩
section
variable {prog:Program} {w:World} {A:Around} {E:Value->Shared->Prop} {s:Shared} {K:PySem.W.Frag} {x dx C f:Addr} {mA:Str->Option Value} {name:Str} {v:Value}
theorem yQ {expr:Bool} {Q:Value->Shared->Prop} (X:K.In s.heap) (I:qZ s.heap x dx C mA) (hg:PySem.W.plainGet K C name=true) (hh:PySem.W.hasDictIn K C=true)
 (ha:PySem.W.findIn K (.ref C) name=some none) (hv:mA name=some v) (hv':PySem.W.handedIn v=true) (h:Q v { s with toks:=s.toks+1 }) :
 wpAny (model prog w) A (getAttr (.ref x) name expr) Q E s:=by
 obtain ⟨od,J,hl⟩:=I.look
 exact PySem.W.get_value X J (PySem.W.plainGet_of hg).1 (PySem.W.findObj_own hh ha rfl (by rw [hl,hv])) hv' h
theorem xH {pl:Sem Bool} {Q:Value×List Value->Shared->Prop} (X:K.In s.heap) (I:qZ s.heap x dx C mA) (hg:PySem.W.plainGet K C name=true)
 (hf:PySem.W.findIn K (.ref C) name=some (some (.ref f))) (ht:PySem.W.isFn K (.ref f)=true) (hv:mA name=none) (h:Q (.ref f,[.ref x]) s) :
 wpAny (model prog w) A (getMethod (.ref x) name pl) Q E s:=by
 obtain ⟨od,J,hl⟩:=I.look
 exact PySem.W.method_fn X J (PySem.W.plainGet_of hg).1 (PySem.W.plainGet_of hg).2 hf (beq_iff_eq.mp ht) (by show (PySem.W.lookIn name od).map (·.isSome)=some false;rw [hl,hv];rfl) h
theorem yK {ns:List Str} {Q:Unit->Shared->Prop} (X:K.In s.heap) (I:qZ s.heap x dx C mA)
 (hs:PySem.W.findIn K (.ref C) "__setattr__" = some (some (.builtin "object.__setattr__"))) (hp:PySem.W.plainOver K C=true) (ht:PySem.W.takerIn K C name=some none) (hh:PySem.W.hasDictIn K C=true)
 (hw:PySem.Within mA ns) (hsz:ns.length≤sizeLine)
 (h:∀ h',qZ h' x dx C (fun y=>if y=name then some v else mA y)->Heap.SameBut dx s.heap h'->Q () { s with heap:=h',toks:=s.toks+2 }) :
 wpAny (model prog w) A (setAttr (.ref x) name v) Q E s:=by
 obtain ⟨od,J,hl⟩:=I.look
 refine PySem.W.set_plain X J hs (PySem.W.osa_open (s:={ s with toks:=s.toks+1 }) (r:=none) X J hp ht fun b=>?_)
 obtain ⟨cd,hc,hd'⟩:=PySem.W.any_some hh
 have hx:s.heap.get? x=some ⟨.ref C,some dx,.plain,#[]⟩:=I.obj
 refine wpAny_bind (wpAny_pure (wpAny_bind (wpAny_bind (wpAny_loadPart hx (wpAny_bind (PySem.W.Looks.here (s:={ s with toks:=s.toks+1 }) (PySem.W.looks_clsIn X hc) ?_))))))
 rw [hd']
 refine wpAny_pure (a:=some dx) (wpAny_bind (wpAny_pure (wpAny_bind ?_)))
 refine wpAny_nsSet1 (s:={ s with toks:=s.toks+1 }) I.ns fun h' hn2 hs2=>?_
 obtain ⟨oD,esD,epD,hoD,hdD,hcD⟩:=hn2.count (PySem.Within.cons name v hw)
 refine wpAny_bind (wpAny_lookBehind hoD (by rw [hdD];exact pastItsLine_dict (Nat.le_trans hcD (by rw [List.length_cons];omega))) ?_)
 exact wpAny_pure (h _ ⟨(hs2.2 _ (Ne.symm I.ne)).trans I.obj,hn2,I.ne⟩ hs2)
theorem wI {R:Result->Shared->Prop} {vs:List Value} {kw:List (Str×Value)} (X:K.In s.heap) (hm:PySem.W.makesIn K C=true)
 (hi:PySem.W.findIn K (.ref C) "__init__" = some (some (.ref f))) (hf:PySem.W.typeIn K (.ref f)=some (.type "function"))
 (h:codeAny (model prog w) (A.under (.builtin "type.__call__" ⟨.ref C::vs,kw⟩)) (.call (.ref f) ⟨.ref (s.heap.objs.size+1)::vs,kw⟩) (PySem.W.InitBack (s.heap.objs.size+1) R)
  { s with heap:=(s.heap.push PySem.W.emptyDict).push (PySem.W.instObj C s.heap.objs.size) }) :
 codeAny (model prog w) A (.call (.ref C) ⟨vs,kw⟩) R s:=by
 obtain ⟨hh,g,d,t,os⟩:=s
 exact PySem.W.make_core (PySem.W.makes_of X hm) (PySem.W.looks_findIn X hi) (fun self=>PySem.W.bind_fn X self hf) (.inl rfl) h
end
def eO (f:Str) (v:V):List (Str×V)->List (Str×V)
 |[]=>[(f,v)]
 |(g,x)::r=>if g=f then (g,v)::r else (g,x)::eO f v r
theorem cu (f g:Str) (v:V):∀ fs:List (Str×V),(eO f v fs).lookup g=if g=f then some v else fs.lookup g
 | []=>by
   show List.lookup g [(f,v)]=_
   by_cases h:g=f
   ·have hb:(g == f)=true:=beq_iff_eq.mpr h
    simp only [List.lookup,hb,if_pos h]
   ·have hb:(g == f)=false:=beq_eq_false_iff_ne.mpr h
    simp only [List.lookup,hb,if_neg h]
 | (k,x)::r=>by
   have ih:=cu f g v r
   rw [show eO f v ((k,x)::r)=(if k=f then (k,v)::r else (k,x)::eO f v r) from rfl]
   by_cases hk:k=f
   ·rw [if_pos hk]
    by_cases h:g=k
    ·have hb:(g == k)=true:=beq_iff_eq.mpr h
     simp only [List.lookup,hb,if_pos (h.trans hk)]
    ·have hb:(g == k)=false:=beq_eq_false_iff_ne.mpr h
     simp only [List.lookup,hb,if_neg (fun e:g=f=>h (e.trans hk.symm))]
   ·rw [if_neg hk]
    by_cases h:g=k
    ·have hb:(g == k)=true:=beq_iff_eq.mpr h
     simp only [List.lookup,hb,if_neg (fun e:g=f=>hk (h.symm.trans e))]
    ·have hb:(g == k)=false:=beq_eq_false_iff_ne.mpr h
     simp only [List.lookup,hb]
     exact ih
theorem gk (f:Str) (v:V):∀ fs:List (Str×V),f∈(eO f v fs).map (·.1)/\∀ g,g∈fs.map (·.1)->g∈(eO f v fs).map (·.1)
 |[]=>⟨by simp [eO],fun g h=>by simp at h⟩
 | (k,x)::r=>by
   obtain ⟨i1,i2⟩:=gk f v r
   rw [show eO f v ((k,x)::r)=(if k=f then (k,v)::r else (k,x)::eO f v r) from rfl]
   by_cases hk:k=f
   ·rw [if_pos hk]
    subst hk
    exact ⟨by simp,fun g h=>by simpa using h⟩
   ·rw [if_neg hk]
    refine ⟨?_,fun g h=>?_⟩
    ·rw [List.map_cons]
     exact List.mem_cons_of_mem _ i1
    ·rw [List.map_cons] at h ⊢
     rcases List.mem_cons.mp h with e|e
     ·exact List.mem_cons.mpr (.inl e)
     ·exact List.mem_cons_of_mem _ (i2 g e)
theorem jR (f:Str) (v:V):∀ fs:List (Str×V),(eO f v fs).length≤fs.length+1
 |[]=>by simp [eO]
 | (k,x)::r=>by
   have ih:=jR f v r
   rw [show eO f v ((k,x)::r)=(if k=f then (k,v)::r else (k,x)::eO f v r) from rfl]
   by_cases hk:k=f
   ·rw [if_pos hk,List.length_cons,List.length_cons];omega
   ·rw [if_neg hk,List.length_cons,List.length_cons];omega
theorem gO.some_of {v:V} {o:Option Value} (r:gO (some v) o):∃ u,o=some u/\RelV v u:=by
 cases o with
 |none=>exact (show False from r).elim
 |some u=>exact ⟨u,rfl,r⟩
theorem gO.none_of {o:Option Value} (r:gO none o):o=none:=by
 cases o with
 |none=>rfl
 |some u=>exact (show False from r).elim
theorem uR {v:V} {u:Value} (r:RelV v u):PySem.W.handedIn u=true:=by
 cases v with
 |non=>cases (show u=Value.none from r);rfl
 |bl b=>cases (show u=Value.bool b from r);rfl
 |int i=>obtain ⟨t,e⟩:=(show ∃ t,u=Value.int i t from r);cases e;rfl
 |str x=>obtain ⟨t,e⟩:=(show ∃ t,u=Value.str x t from r);cases e;rfl
 |byt b=>obtain ⟨t,e⟩:=(show ∃ t,u=Value.bytes b t from r);cases e;rfl
 |flt b=>obtain ⟨t,e⟩:=(show ∃ t,u=Value.float b t from r);cases e;rfl
 |ref a=>cases (show u=Value.ref a from r);rfl
 |ty n=>cases (show u=Value.type n from r);rfl
section
variable {P:Program} {w:World} {H H':Hp} {h h':Heap} {a C dx:Addr} {fs fs':List (Str×V)}
theorem oV (hok:iC P w H h) (e:H a=some (.ins C dx fs)):∃ mA,qZ h a dx C mA/\(∀ f,gO (fs.lookup f) (mA f))/\PySem.Within mA (fs.map (·.1))/\fs.length≤1000/\H dx=some (.own a):=by
 obtain ⟨d,z,ne,ob,mA,n,r,q⟩:=(show cg P w H h a (.ins C dx fs) from hok a _ e)
 exact ⟨mA,⟨ob,n,ne⟩,r,q,z,d⟩
end
structure yG (K:PySem.W.Frag) (C:Addr):Prop where
 pg:PySem.W.plainGet K C Str.empty=true
 hd:PySem.W.hasDictIn K C=true
 po:PySem.W.plainOver K C=true
 sa:PySem.W.findIn K (.ref C) "__setattr__" = some (some (.builtin "object.__setattr__"))
theorem yG.get {K:PySem.W.Frag} {C:Addr} (c:yG K C) (f:Str):PySem.W.plainGet K C f=true:=c.pg
def h_ (K:PySem.W.Frag) (C:Addr) (f:Str):Prop:=PySem.W.findIn K (.ref C) f=some none
theorem h_.taker {K:PySem.W.Frag} {C:Addr} {f:Str} (n:h_ K C f):PySem.W.takerIn K C f=some none:=by
 unfold PySem.W.takerIn
 rw [show PySem.W.findIn K (.ref C) f=some none from n]
 rfl
structure Meth (K:PySem.W.Frag) (C:Addr) (m:Str) (f:Addr):Prop where
 at_:PySem.W.findIn K (.ref C) m=some (some (.ref f))
 fn:PySem.W.isFn K (.ref f)=true
 kp:PySem.W.keepIn K (.ref f)=true
section
variable {X:Cx} {Z:List (Addr×Obj)} {U:St} {H:Hp} {s:Shared} {a C dx:Addr} {fs:List (Str×V)} {f:Str} {v:V} {A:Around} {E:Value->Shared->Prop}
theorem sU {b:Bool} {Q:Value->Shared->Prop} (I:Inv X Z U H s) (e:H a=some (.ins C dx fs)) (c:yG X.K C) (n:h_ X.K C f) (l:fs.lookup f=some v)
 (h:∀ u s',Inv X Z U H s'->RelV v u->Q u s'):wpAny (model X.prog X.w) A (getAttr (.ref a) f b) Q E s:=by
 obtain ⟨mA,O,r,_,_,_⟩:=oV I.hok e
 obtain ⟨u,hu,ru⟩:=gO.some_of (v:=v) (o:=mA f) (by rw [← l];exact r f)
 exact yQ I.kIn O (c.get f) c.hd n hu (uR ru) (h u _ (I.tok _) ru)
theorem lO {m:Str} {g:Addr} {pl:Sem Bool} {Q:Value×List Value->Shared->Prop} (I:Inv X Z U H s) (e:H a=some (.ins C dx fs)) (c:yG X.K C) (k:Meth X.K C m g) (l:fs.lookup m=none)
 (h:Q (.ref g,[.ref a]) s):wpAny (model X.prog X.w) A (getMethod (.ref a) m pl) Q E s:=by
 obtain ⟨mA,O,r,_,_,_⟩:=oV I.hok e
 have hn:mA m=none:=gO.none_of (by rw [← l];exact r m)
 exact xH I.kIn O (c.get m) k.at_ k.fn hn h
theorem sJ {y:V} {u:Value} {Q:Unit->Shared->Prop} (I:Inv X Z U H s) (e:H a=some (.ins C dx fs)) (c:yG X.K C) (n:h_ X.K C f) (hl:fs.length<1000) (ry:RelV y u)
 (h:∀ s',Inv X Z U (upd H a (.ins C dx (eO f y fs))) s'->Q () s'):wpAny (model X.prog X.w) A (setAttr (.ref a) f u) Q E s:=by
 obtain ⟨mA,O,r,wi,_,ho⟩:=oV I.hok e
 have hz:(fs.map (·.1)).length≤sizeLine:=by rw [List.length_map,sizeLine_eq];omega
 refine yK I.kIn O c.sa c.po n.taker c.hd wi hz fun h' O' sb=>h _ ?_
 have hd:∃ o,h'.get? dx=some o:=let ⟨o,_,_,e',_⟩:=O'.ns;⟨o,e'⟩
 refine I.write (x:=a) (e:=dx) (by rw [e];exact True.intro) (.inr ho) (fun b q hb z=>(sb.2 b hb).trans z) hd ?_
 refine ⟨by rw [aF O.ne];exact ho,?_,O.ne,O'.obj,_,O'.ns,fun g=>?_,fun g hg=>?_⟩
 ·have:=jR f y fs;omega
 ·show gO ((eO f y fs).lookup g) (if g=f then some u else mA g)
  rw [cu]
  by_cases q:g=f
  ·rw [if_pos q,if_pos q];exact ry
  ·rw [if_neg q,if_neg q];exact r g
 ·by_cases q:g=f
  ·rw [q];exact (gk f y fs).1
  ·refine (gk f y fs).2 g (wi g fun z=>hg ?_)
   show (if g=f then some u else mA g)=none
   rw [if_neg q];exact z
theorem Inv.made (I:Inv X Z U H s):Inv X Z U (upd (upd H s.heap.objs.size (.own (s.heap.objs.size+1))) (s.heap.objs.size+1) (.ins C s.heap.objs.size []))
 { s with heap:=(s.heap.push PySem.W.emptyDict).push (PySem.W.instObj C s.heap.objs.size) }:=by
 have e1:(s.heap.push PySem.W.emptyDict).get? s.heap.objs.size=some PySem.W.emptyDict:=Heap.get?_push_size s.heap rfl
 have e2:((s.heap.push PySem.W.emptyDict).push (PySem.W.instObj C s.heap.objs.size)).get? (s.heap.objs.size+1)=some (PySem.W.instObj C s.heap.objs.size):=by
  have:=Heap.get?_push_size (s.heap.push PySem.W.emptyDict) (o:=PySem.W.instObj C s.heap.objs.size) rfl
  rwa [Heap.size_push] at this
 have e3:(s.heap.push PySem.W.emptyDict).Ns s.heap.objs.size (fun _=>none):=⟨PySem.W.emptyDict,#[],_,e1,rfl,(fun e he=>absurd he (by simp)),fun _=>rfl⟩
 have I1:=I.laid (a:=s.heap.objs.size) (o:=.own (s.heap.objs.size+1)) (h':=s.heap.push PySem.W.emptyDict) (t':=s.toks) (fun b u q=>Heap.get?_push_of_some _ q) (Nat.le_refl _) ⟨_,e1⟩
 refine I1.laid (a:=s.heap.objs.size+1) (o:=.ins C s.heap.objs.size []) (t':=s.toks) (fun b u q=>Heap.get?_push_of_some _ q) (Nat.le_of_eq (Heap.size_push _ _)) ?_
 have ne:s.heap.objs.size≠s.heap.objs.size+1:=Nat.ne_of_lt (Nat.lt_succ_self _)
 refine ⟨by rw [aF ne,ak],Nat.zero_le _,ne,e2,fun _=>none,(Heap.Ns1.of_empty e3).at fun o q=>Heap.get?_push_of_some _ q,fun _=>True.intro,fun y hy=>absurd rfl hy⟩
theorem yR {prog:Program} {w:World} {env:Env} {e:Expr} {f:Str} {pos:Pos} {s:Shared} {Q:Value->Shared->Prop} (hb:attributeBase e f env (eval e env)=eval e env)
 (h:wpAny (model prog w) A (eval e env) (fun o s₁=>wpAny (model prog w) A (getAttr o f true) Q E s₁) E s):wpAny (model prog w) A (eval (.Attribute e f pos) env) Q E s:=
 Attribute_any_ h (by rw [arm_eval_Attribute,hb])
end
def My (K:PySem.W.Frag) (ta:TE) (f:Str):TE:=fun U H Q=>ta U H fun x H1=>∃ a C dx fs v,x=.ref a/\H1 a=some (.ins C dx fs)/\yG K C/\h_ K C f/\fs.lookup f=some v/\Q v H1
def Q8 (K:PySem.W.Frag) (ta tv:TE) (f:Str):TS:=fun D U H=>tv U H fun y H1=>ta U H1 fun x H2=>∃ a C dx fs,x=.ref a/\H2 a=some (.ins C dx fs)/\yG K C/\h_ K C f/\fs.length<1000/\
 D.nx U (upd H2 a (.ins C dx (eO f y fs)))
section
variable {X:Cx} {o e value:Expr} {f:Str} {pos pos' tpos:Pos} {ta tv:TE}
theorem jM (he:PE X e ta) (hb:attributeBase e f X.env (eval e X.env)=eval e X.env):PE X (.Attribute e f pos) (My X.K ta f):=by
 intro Z s U H Q I h
 refine yR hb (bU (he Z s U H _ I h) fun u s1 ⟨x,H1,I1,rx,a,C,dx,fs,v,ex,ea,c,n,l,q⟩=>?_)
 subst ex
 obtain rfl:u=Value.ref a:=rx
 exact sU I1 ea c n l fun u' s2 I2 ru=>⟨v,H1,I2,ru,q⟩
theorem yF (ha:PE X o ta) (hv:PE X value tv) (hs:swapsWith value (some (.Attribute o f pos')) pos.line X.env=pure false):PS X (.Assign [.Attribute o f pos'] value pos) (Q8 X.K ta tv f):=by
 intro Z s U H D I h
 refine plainObj_wpAny_Assign_Attribute (bU (hv Z s U H _ I h) fun u s1 ⟨y,H1,I1,ry,q⟩=>bU (ha Z s1 U H1 _ I1 q) fun ov s2 ⟨x,H2,I2,rx,a,C,dx,fs,ex,ea,c,n,l,q2⟩=>?_) hs
 subst ex
 obtain rfl:ov=Value.ref a:=rx
 exact sJ I2 ea c n l ry fun s3 I3=>⟨U,_,I3,q2⟩
theorem Ag {pl:Sem Bool} {m:Str} {apos:Pos} {args:List Expr} {Z:List (Addr×Obj)} {s:Shared} {U:St} {H:Hp} {Q:Value->Shared->Prop} {te:TE} (he:PE X e te) (I:Inv X Z U H s)
 (h:te U H fun x H1=>∃ a C dx fs g,x=.ref a/\H1 a=some (.ins C dx fs)/\yG X.K C/\Meth X.K C m g/\fs.lookup m=none/\
  ∀ s1,Inv X Z U H1 s1->wpAny (model X.prog X.w) X.A (callWith pos (.ref g) [.ref a] (backTo pos (starEach args X.env)) (backToKw pos (keywordEach [] X.env))) Q X.xe s1)
 (ht:eval (.Call (.Attribute e m apos) args [] pos) X.env=(do
  let ov ← eval e X.env
  standAt apos.atName
  let (f,first) ← holding [ov] (getMethod ov m pl)
  callWith pos f first (backTo pos (starEach args X.env)) (backToKw pos (keywordEach [] X.env)))) :
 wpAny (model X.prog X.w) X.A (eval (.Call (.Attribute e m apos) args [] pos) X.env) Q X.xe s:=by
 refine PySem.W.methodCall_KW (pl:=pl) (bU (he Z s U H _ I h) fun u s1 ⟨x,H1,I1,rx,a,C,dx,fs,g,ex,ea,c,k,l,q⟩=>?_) ht
 subst ex
 obtain rfl:u=Value.ref a:=rx
 exact lO I1 ea c k l (q s1 I1)
end
section
variable {X:Cx} {Z:List (Addr×Obj)} {U:St} {H:Hp} {s:Shared} {A:Around} {E:Value->Shared->Prop} {Q:Value->Shared->Prop} {c:Value} {b:Bool}
end
structure bH (k:Nat) (A:Around):Prop where
 hd:A.handled=none
 dp:A.depth+3*k+5<recursionLimit
 un:A.units+16*k+200<cLine
 gd:A.guards=some []
theorem bH.mono {j k:Nat} {A:Around} (r:bH k A) (h:j≤k):bH j A:=⟨r.hd,by have:=r.dp;omega,by have:=r.un;omega,r.gd⟩
theorem bH.deeper {k:Nat} {A:Around} (r:bH (k+1) A) (env:Env):bH k (A.deeper env):=
 ⟨r.hd,by have:=r.dp;show A.depth+1+3*k+5<_;omega,by have:=r.un;show A.units+3+16*k+200<_;omega,r.gd⟩
theorem rY {A:Around} {C:Addr} {us:List Value} {kw:List (Str×Value)}:(A.under (.builtin "type.__call__" ⟨.ref C::us,kw⟩)).depth=A.depth+1:=by
 first|rfl|simp [Around.under,Code.weight,Code.isCreation,Code.isGuard,Code.isCaller,Code.frames,Code.isFrame,guardIds]
theorem rN {A:Around} {C:Addr} {us:List Value} {kw:List (Str×Value)}:(A.under (.builtin "type.__call__" ⟨.ref C::us,kw⟩)).units=A.units+1:=by
 first|rfl|simp [Around.under,Code.cUnits,Code.frames,Code.isFrame]
theorem bH.make {k:Nat} {A:Around} (r:bH (k+1) A) (C:Addr) (us:List Value) (kw:List (Str×Value)):bH k (A.under (.builtin "type.__call__" ⟨.ref C::us,kw⟩)):=
 ⟨r.hd,by have:=r.dp;rw [rY];omega,by have:=r.un;rw [rN];omega,by have:=r.gd;first|exact this|(simpa [Around.under] using this)⟩
theorem bH.depth {k:Nat} {A:Around} (r:bH k A):A.depth<recursionLimit:=by have:=r.dp;omega
theorem bH.units {k:Nat} {A:Around} (r:bH k A):A.units+64<cLine:=by have:=r.un;omega
def Dd:TA:=fun _ H Q=>Q [] H
def mq (ta:TE) (tr:TA):TA:=fun U H Q=>ta U H fun x H1=>tr U H1 fun xs H2=>Q (x::xs) H2
section
variable {X:Cx} {e:Expr} {es:List Expr} {te:TE} {t:TA} {pos:Pos}
theorem aj:PA X [] Dd:=fun _ _ _ _ H Q I h=>Calls.spliced_nil ⟨[],H,I,.nil,h⟩
theorem aa (ha:PE X e te) (hr:PA X es t) (hs:starEach (e::es) X.env=(false,eval e X.env)::starEach es X.env:=by rfl):PA X (e::es) (mq te t):=by
 intro pos Z s U H Q I h
 rw [hs]
 show wpAny _ _ (spliced ((false,eval e X.env)::backTo pos (starEach es X.env))) _ _ s
 refine Calls.spliced_cons (bU (ha Z s U H _ I h) fun u s1 ⟨x,H1,I1,r1,q1⟩=>?_)
 exact bU (hr pos Z s1 U H1 _ I1 q1) fun us s2 ⟨xs,H2,I2,r2,q2⟩=>⟨x::xs,H2,I2,.cons r1 r2,q2⟩
def Px (t:TA):TE:=fun U H Q=>t U H fun xs H1=>xs.length≤sizeLine/\∀ p,H1 p=none->Q (.ref p) (upd H1 p (.tup xs))
def Q9 (t:TA):TE:=fun U H Q=>t U H fun xs H1=>xs.length≤sizeLine/\∀ p,H1 p=none->Q (.ref p) (upd H1 p (.lst xs))
theorem dm {x1} (h:PA X es t):PE X (.Tuple es x1 pos) (Px t):=by
 intro Z s U H Q I hq
 refine wpAny_Tuple_spliced (bU (h pos Z s U H _ I hq) fun us s1 ⟨xs,H1,I1,r,z,q⟩=>⟨by rw [← r.length];exact z,?_⟩)
 have hf:H1 s1.heap.objs.size=none:=I1.hok.fresh (Nat.le_refl _)
 refine ⟨.ref s1.heap.objs.size,upd H1 s1.heap.objs.size (.tup xs),I1.laid (t':=s1.toks) (fun b u e=>Heap.get?_push_of_some _ e) (Nat.le_refl _) ?_,rfl,q _ hf⟩
 exact ⟨z,us,r,⟨_,Heap.get?_push_size _ rfl,rfl,_,rfl⟩⟩
theorem bW (h:PA X es t):PE X (.List es pos) (Q9 t):=by
 intro Z s U H Q I hq
 refine wpAny_List_spliced (bU (h pos Z s U H _ I hq) fun us s1 ⟨xs,H1,I1,r,z,q⟩=>⟨by rw [← r.length];exact z,?_⟩)
 have hf:H1 s1.heap.objs.size=none:=I1.hok.fresh (Nat.le_refl _)
 refine ⟨.ref s1.heap.objs.size,upd H1 s1.heap.objs.size (.lst xs),I1.laid (t':=s1.toks) (fun b u e=>Heap.get?_push_of_some _ e) (Nat.le_refl _) ?_,rfl,q _ hf⟩
 exact ⟨z,us,0,r,Heap.get?_push_size _ rfl⟩
end
abbrev Sp:=List V->Hp->VK->XK->Prop
abbrev mU:=List Env->Hp->Shared->XK->Value->Shared->Prop
structure qN (P:Program) (w:World) (K:PySem.W.Frag) (mg:Str->Option Value) (base:Heap) (A:Around) (outer:List Env) (s:Shared) (H:Hp):Prop where
 frames:A.frames=some outer
 mod:Mod K mg base
 bs:∀ b o,base.get? b=some o->s.heap.get? b=some o/\H b=none
 bsz:base.objs.size≤s.heap.objs.size
 funs:s.heap.FunFrames base outer
 frf:∀ b∈frs outer,H b=none
 hok:iC P w H s.heap
 bare:AllBare s.gens
def CE (outer:List Env) (P:Program) (w:World) (H:Hp) (s:Shared) (Q:VK) (u:Value) (s':Shared):Prop:=
 ∃ v H',s'.os=s.os/\AllBare s'.gens/\Un (frs outer) [] H H' s.heap s'.heap/\iC P w H' s'.heap/\RelV v u/\Q v H'
def CR (CX:mU) (outer:List Env) (P:Program) (w:World) (H:Hp) (s:Shared) (Q:VK) (E:XK) (r:Result) (s':Shared):Prop:=
 match r with
 |.ok (.ret u)=>CE outer P w H s Q u s'
 |.ok _=>False
 |.error e=>CX outer H s E e s'
structure aN (P:Program) (w:World) (K:PySem.W.Frag) (mg:Str->Option Value) (base:Heap) (CX:mU) (k:Nat) (f:Addr) (fd:FuncData) (ps:List Str) (sp:Sp):Prop where
 len:∀ vs H Q E,sp vs H Q E->vs.length=ps.length
 run:∀ (A:Around) (outer:List Env) (s:Shared) (H:Hp) (args:Args) (us:List Value) (vs:List V) (Q:VK) (E:XK),bH k A->qN P w K mg base A outer s H->BindsTo s fd args (ps.zip us)->Vals vs us->sp vs H Q E->
  codeAny (model P w) A (.call (.ref f) args) (CR CX outer P w H s Q E) s
theorem qN.make {P:Program} {w:World} {K:PySem.W.Frag} {mg:Str->Option Value} {base:Heap} {A:Around} {outer:List Env} {s:Shared} {H:Hp} (e:qN P w K mg base A outer s H) (C:Addr) (us:List Value) (kw:List (Str×Value)) :
 qN P w K mg base (A.under (.builtin "type.__call__" ⟨.ref C::us,kw⟩)) outer s H:=⟨by first|exact e.frames|(simpa [Around.under,Code.envs,Code.isFrame,pushEnvs] using e.frames),e.mod,e.bs,e.bsz,e.funs,e.frf,e.hok,e.bare⟩
section
variable {X:Cx} {Z:List (Addr×Obj)} {U:St} {H:Hp} {s s':Shared}
theorem Inv.env0 (I:Inv X Z U H s):qN X.prog X.w X.K X.mg X.base X.A X.stack s H:=
 ⟨I.ok.frames,I.ok.mod,I.bs,Nat.le_trans I.ok.bsz I.sz,I.stack,I.stkFree,I.hok,I.bare⟩
theorem Inv.after {Q:VK} {u:Value} (I:Inv X Z U H s) (h:CE X.stack X.prog X.w H s Q u s'):EP X Z U Q u s':=by
 obtain ⟨v,H',os,bare,un,hok,r,q⟩:=h
 obtain ⟨hh,g,d,t,os'⟩:=s'
 obtain rfl:os'=s.os:=os
 exact ⟨v,H',I.call (h':=hh) (g':=g) (d':=d) (t':=t) (ch:=[]) un hok bare (fun b z=>absurd z (by simp)),r,q⟩
end
def tX (sp:Sp) (dvs:List V) (E:XK) (t:TA):TE:=fun U H Q=>t U H fun vs H1=>sp (vs++dvs) H1 Q E
def G7 (C:Addr) (m:Str) (sp:Sp) (dvs:List V) (E:XK) (ta:TE) (t:TA):TE:=fun U H Q=>ta U H fun x H1=>∃ a dx fs,x=.ref a/\H1 a=some (.ins C dx fs)/\fs.lookup m=none/\
 t U H1 fun vs H2=>sp (x::(vs++dvs)) H2 Q E
def HJ (C:Addr) (sp:Sp) (dvs:List V) (E:XK) (t:TA):TE:=fun U H Q=>t U H fun vs H1=>∀ x dx,H1 x=none->H1 dx=none->dx≠x->
 sp (.ref x::(vs++dvs)) (upd (upd H1 dx (.own x)) x (.ins C dx [])) (fun v H2=>v=.non/\Q (.ref x) H2) E
def Binds (K:PySem.W.Frag) (fd:FuncData) (ps:List Str) (ds:List Value):Prop:=
 ∀ (s:Shared) (us:List Value),K.In s.heap->(us++ds).length=ps.length->BindsTo s fd ⟨us,[]⟩ (ps.zip (us++ds))
theorem Binds.all {K:PySem.W.Frag} {fd:FuncData} {ps:List Str} (h:∀ us:List Value,us.length=ps.length->bindArgs fd ⟨us,[]⟩=pure (ps.zip us)):Binds K fd ps []:=fun s us _ hl=>by
 rw [List.append_nil] at hl ⊢
 exact .of_eq (h us hl)
def fu (CX:mU) (X:Cx) (E:XK):Prop:=∀ (Z:List (Addr×Obj)) (U:St) (H:Hp) (s:Shared) (e:Value) (s':Shared),Inv X Z U H s->CX X.stack H s E e s'->X.xe e s'
section
variable {X:Cx} {CX:mU} {k:Nat} {f C:Addr} {fd:FuncData} {ps:List Str} {sp:Sp} {dvs:List V} {ds:List Value} {E:XK} {x m:Str} {p pos apos:Pos} {e o:Expr} {es:List Expr} {ta:TE} {t:TA}
theorem qX {Z:List (Addr×Obj)} {U:St} {H:Hp} {s:Shared} {Q:VK} {us:List Value} {vs:List V} (F:aN X.prog X.w X.K X.mg X.base CX k f fd ps sp) (hr:bH k X.A) (hb:Binds X.K fd ps ds) (hd:Vals dvs ds) (hx:fu CX X E)
 (I:Inv X Z U H s) (r:Vals vs us) (h:sp (vs++dvs) H Q E):wpAny (model X.prog X.w) X.A (call (.ref f) us) (EP X Z U Q) X.xe s:=by
 have r2:Vals (vs++dvs) (us++ds):=r.append hd
 have hl:(us++ds).length=ps.length:=by rw [← r2.length];exact F.len _ _ _ _ h
 refine wpAny_call (codeAny_mono (F.run X.A X.stack s H ⟨us,[]⟩ (us++ds) (vs++dvs) Q E hr I.env0 (hb s us I.kIn hl) r2 h) fun r s' hq=>?_)
 cases r with
 |error e=>exact hx Z U H s e s' I hq
 | ok fl=>
   cases fl with
   |ret u=>exact I.after hq
   |next=>exact False.elim hq
   |brk=>exact False.elim hq
   |cont=>exact False.elim hq
theorem aB (F:aN X.prog X.w X.K X.mg X.base CX k f fd ps sp) (hr:bH k X.A) (hg:Gl X x) (hm:X.mg x=some (.ref f)) (hk:PySem.W.keepIn X.K (.ref f)=true) (hb:Binds X.K fd ps ds) (hd:Vals dvs ds) (hx:fu CX X E)
 (ha:PA X (e::es) t) (hdb:(x == ("__debug__" : Str))=false:=by decide) (he:starEach (e::es) X.env=(false,eval e X.env)::starEach es X.env:=by rfl) (hpl:(backTo pos (starEach es X.env)).any (·.1)=false:=by rfl) :
 PE X (.Call (.Name x p) (e::es) [] pos) (tX sp dvs E t):=by
 intro Z s U H Q I h
 refine wpAny_Call_Name_kw (jx I hg hm ?_ hdb)
 refine PySem.W.callWith_K (h₀:=X.base) I.ok.mod.kin hk (bU (ha pos Z s U H _ I h) fun us s1 ⟨vs,H1,I1,r,q⟩=>⟨I1.kIn,?_⟩) he hpl
 exact qX F hr hb hd hx I1 r q
theorem uD {pl:Sem Bool} (he:PE X o ta) (c:yG X.K C) (hm:Meth X.K C m f) (F:aN X.prog X.w X.K X.mg X.base CX k f fd ps sp) (hr:bH k X.A) (hb:Binds X.K fd ps ds) (hd:Vals dvs ds) (hx:fu CX X E) (ha:PA X (e::es) t)
 (hst:starEach (e::es) X.env=(false,eval e X.env)::starEach es X.env:=by rfl) (hpl:(backTo pos (starEach es X.env)).any (·.1)=false:=by rfl)
 (ht:eval (.Call (.Attribute o m apos) (e::es) [] pos) X.env=(do
  let ov ← eval o X.env
  standAt apos.atName
  let (f,first) ← holding [ov] (getMethod ov m pl)
  callWith pos f first (backTo pos (starEach (e::es) X.env)) (backToKw pos (keywordEach [] X.env))):=by rfl) :
 PE X (.Call (.Attribute o m apos) (e::es) [] pos) (G7 C m sp dvs E ta t):=by
 intro Z s U H Q I h
 refine PySem.W.methodCall_KW (pl:=pl) (bU (he Z s U H _ I h) fun u s1 ⟨x,H1,I1,rx,a,dx,fs,ex,ea,l,q⟩=>?_) ht
 subst ex
 obtain rfl:u=Value.ref a:=rx
 refine lO I1 ea c hm l ?_
 refine PySem.W.callWith_K (first:=[.ref a]) (h₀:=X.base) I.ok.mod.kin hm.kp (bU (ha pos Z s1 U H1 _ I1 q) fun us s2 ⟨vs,H2,I2,r,q2⟩=>⟨I2.kIn,?_⟩) hst hpl
 exact qX (us:=.ref a::us) (vs:=.ref a::vs) F hr hb hd hx I2 (.cons rfl r) q2
structure Mk (K:PySem.W.Frag) (C f:Addr):Prop where
 makes:PySem.W.makesIn K C=true
 init:PySem.W.findIn K (.ref C) "__init__" = some (some (.ref f))
 fn:PySem.W.isFn K (.ref f)=true
 kp:PySem.W.keepIn K (.ref C)=true
theorem wk {Z:List (Addr×Obj)} {U:St} {H:Hp} {s:Shared} {Q:VK} {us:List Value} {vs:List V} (M:Mk X.K C f) (F:aN X.prog X.w X.K X.mg X.base CX k f fd ps sp) (hr:bH (k+1) X.A) (hb:Binds X.K fd ps ds) (hd:Vals dvs ds)
 (hx:fu CX X E) (I:Inv X Z U H s) (r:Vals vs us)
 (h:∀ x dx,H x=none->H dx=none->dx≠x->sp (.ref x::(vs++dvs)) (upd (upd H dx (.own x)) x (.ins C dx [])) (fun v H2=>v=.non/\Q (.ref x) H2) E) :
 wpAny (model X.prog X.w) X.A (call (.ref C) us) (EP X Z U Q) X.xe s:=by
 have hq:=h (s.heap.objs.size+1) s.heap.objs.size (I.hok.fresh (Nat.le_succ _)) (I.hok.fresh (Nat.le_refl _)) (Nat.ne_of_lt (Nat.lt_succ_self _))
 have I2:=Inv.made (C:=C) I
 have r2:Vals (V.ref (s.heap.objs.size+1)::(vs++dvs)) (Value.ref (s.heap.objs.size+1)::(us++ds)):=.cons rfl (r.append hd)
 have hl:(Value.ref (s.heap.objs.size+1)::us++ds).length=ps.length:=by
  have e:=r2.length
  rw [F.len _ _ _ _ hq] at e
  exact e.symm
 refine wpAny_call (wI (f:=f) I.kIn M.makes M.init (beq_iff_eq.mp M.fn) (codeAny_mono (F.run _ X.stack _ _ ⟨Value.ref (s.heap.objs.size+1)::us,[]⟩ (Value.ref (s.heap.objs.size+1)::(us++ds)) _ _ E (hr.make C us [])
  (I2.env0.make C us []) (hb _ (Value.ref (s.heap.objs.size+1)::us) I2.kIn hl) r2 hq) fun r s' hq'=>?_))
 cases r with
 |error e=>exact hx Z U _ _ e s' I2 hq'
 | ok fl=>
   cases fl with
   | ret u=>
     obtain ⟨v,H',I3,rv,ev,q3⟩:=I2.after hq'
     subst ev
     exact ⟨rv,⟨V.ref (s.heap.objs.size+1),H',I3,rfl,q3⟩⟩
   |next=>exact False.elim hq'
   |brk=>exact False.elim hq'
   |cont=>exact False.elim hq'
theorem z6 (M:Mk X.K C f) (F:aN X.prog X.w X.K X.mg X.base CX k f fd ps sp) (hr:bH (k+1) X.A) (hg:Gl X x) (hm:X.mg x=some (.ref C)) (hb:Binds X.K fd ps ds) (hd:Vals dvs ds) (hx:fu CX X E)
 (ha:PA X (e::es) t) (hdb:(x == ("__debug__" : Str))=false:=by decide) (he:starEach (e::es) X.env=(false,eval e X.env)::starEach es X.env:=by rfl) (hpl:(backTo pos (starEach es X.env)).any (·.1)=false:=by rfl) :
 PE X (.Call (.Name x p) (e::es) [] pos) (HJ C sp dvs E t):=by
 intro Z s U H Q I h
 refine wpAny_Call_Name_kw (jx I hg hm ?_ hdb)
 refine PySem.W.callWith_K (h₀:=X.base) I.ok.mod.kin M.kp (bU (ha pos Z s U H _ I h) fun us s1 ⟨vs,H1,I1,r,q⟩=>⟨I1.kIn,?_⟩) he hpl
 exact wk M F hr hb hd hx I1 r q
end
section
variable {X:Cx} {CX:mU} {k:Nat} {f C:Addr} {fd:FuncData} {ps ks:List Str} {sp:Sp} {E:XK} {x m:Str} {p pos apos kpos:Pos} {e o:Expr} {es:List Expr} {kws:List Keyword} {te ta:TE} {t tk:TA} {nm:Option Str}
variable {g:List Value->List Value->List Value} {gV:List V->List V->List V}
end
structure aR (N P:List Str) (sc:Scope):Prop where
 kind:sc.kind=.function
 co:sc.isCoroutine=false
 gen:sc.isGenerator=false
 nd:N.Nodup
 pre:N.take P.length=P
 par:∀ x∈P,sc.names.lookup x=some .local∨sc.names.lookup x=some .cell
 nofree:∀ y∈sc.names,y.2≠.free
theorem n_ {kindOf:Str->Option NameKind} {x:Str}:∀ {binds:List (Str×Value)} {m:Str->Option Value},(∀ v,(x,v)∉binds)->bindL kindOf binds m x=m x
 |[],_,_=>rfl
 | (n,v)::r,m,h=>by
   unfold bindL
   rw [n_ fun w hw=>h w (List.mem_cons_of_mem _ hw)]
   split
   ·have:x≠n:=by rintro rfl;exact h v List.mem_cons_self
    simp [this]
   ·rfl
theorem ou {kindOf:Str->Option NameKind} {x:Str}:∀ {binds:List (Str×Value)} {m:Str->Option Value},(∀ v,(x,v)∉binds)->bindC kindOf binds m x=m x
 |[],_,_=>rfl
 | (n,v)::r,m,h=>by
   unfold bindC
   rw [ou fun w hw=>h w (List.mem_cons_of_mem _ hw)]
   split
   ·rfl
   ·have:x≠n:=by rintro rfl;exact h v List.mem_cons_self
    simp [this]
theorem oE {kindOf:Str->Option NameKind} {x:Str} {v:Value}:∀ {P:List Str} {vs:List Value} {i:Nat} {m:Str->Option Value},P.Nodup->P[i]?=some x->vs[i]?=some v->kindOf x=some .local->
 bindL kindOf (P.zip vs) m x=some v
 |[],_,_,_,_,h,_,_=>by simp at h
 |_::_,[],_,_,_,_,h,_=>by simp at h
 | p::P,w::vs,0,m,nd,h1,h2,hk=>by
   simp at h1 h2;subst h1;subst h2
   show bindL kindOf ((p,w)::P.zip vs) m p=_
   unfold bindL
   rw [n_ fun v hv=>(List.nodup_cons.mp nd).1 (List.of_mem_zip hv).1,if_pos hk]
   simp
 | p::P,w::vs,i+1,m,nd,h1,h2,hk=>by
   show bindL kindOf ((p,w)::P.zip vs) m x=_
   unfold bindL
   exact oE (i:=i) (List.nodup_cons.mp nd).2 (by simpa using h1) (by simpa using h2) hk
theorem nj {kindOf:Str->Option NameKind} {x:Str} {v:Value}:∀ {P:List Str} {vs:List Value} {i:Nat} {m:Str->Option Value},P.Nodup->P[i]?=some x->vs[i]?=some v->kindOf x≠some .local->
 bindC kindOf (P.zip vs) m x=some v
 |[],_,_,_,_,h,_,_=>by simp at h
 |_::_,[],_,_,_,_,h,_=>by simp at h
 | p::P,w::vs,0,m,nd,h1,h2,hk=>by
   simp at h1 h2;subst h1;subst h2
   show bindC kindOf ((p,w)::P.zip vs) m p=_
   unfold bindC
   rw [ou fun v hv=>(List.nodup_cons.mp nd).1 (List.of_mem_zip hv).1,if_neg hk]
   simp
 | p::P,w::vs,i+1,m,nd,h1,h2,hk=>by
   show bindC kindOf ((p,w)::P.zip vs) m x=_
   unfold bindC
   exact nj (i:=i) (List.nodup_cons.mp nd).2 (by simpa using h1) (by simpa using h2) hk
def start (N:List Str) (vs:List V):St:=vs.map some++List.replicate (N.length-vs.length) none
def jG (CX:mU) (P:Program) (w:World) (K:PySem.W.Frag) (mg:Str->Option Value) (base:Heap) (N:List Str) (qual:Str) (scope:Scope) (f:Addr) (cd:Value) (A:Around) (outer:List Env) (s:Shared) (H:Hp) (E:XK):Cx where
 prog:=P
 w:=w
 K:=K
 mg:=mg
 base:=base
 A:=A.deeper (envOfC qual scope s.heap.objs.size f cd)
 N:=N
 s₀:=s
 H₀:=H
 env:=envOfC qual scope s.heap.objs.size f cd
 outer:=outer
 stack:=envOfC qual scope s.heap.objs.size f cd::outer
 ex:=[]
 calm:=true
 fn:=fun _=>true
 pn:=[]
 xe:=fun e s'=>wpAny (model P w) (A.deeper (envOfC qual scope s.heap.objs.size f cd)) (leaving (envOfC qual scope s.heap.objs.size f cd) e) (fun _ s''=>CX outer H s E e s'') (fun e' s''=>CX outer H s E e' s'') s'
theorem p_ {sc:Scope} {n:Nat} {x:Str} (h:sc.names.lookup x=some .cell):∃ c,(cellsFrom n sc.names []).lookup x=some c:=by
 have q:=PySem.W.cellsFrom_some sc.names n [] (.inl h)
 exact Option.isSome_iff_exists.mp q
theorem vg {CX:mU} {P:Program} {w:World} {K:PySem.W.Frag} {mg:Str->Option Value} {base:Heap} {N ps:List Str} {qual:Str} {scope:Scope} {f:Addr} {cd:Value} {A:Around} {outer:List Env} {s s1:Shared} {H:Hp} {E:XK} {us:List Value} {vs:List V}
 (S:aR N ps scope) (hd:A.handled=none) (e0:qN P w K mg base A outer s H) (hl:vs.length=ps.length) (r:Vals vs us)
 (x:InCallC s s.heap.objs.size (bindL (envOfC qual scope s.heap.objs.size f cd).kindOf (ps.zip us) fun _=>none) (cellsFrom (s.heap.objs.size+1) scope.names []) (bindC (envOfC qual scope s.heap.objs.size f cd).kindOf (ps.zip us) fun _=>none) s1) :
 Inv (jG CX P w K mg base N qual scope f cd A outer s H E) [] (start N vs) H s1:=by
 have hpl:ps.length≤N.length:=by have:=congrArg List.length S.pre;rw [List.length_take] at this;omega
 obtain ⟨h1,tk,rfl,hk⟩:=x.done
 have noA:∀ b:Addr,b∉(jG CX P w K mg base N qual scope f cd A outer s H E).ex:=fun b z=>absurd (show b∈([]:List Addr) from z) (by simp)
 refine ⟨⟨e0.mod,S.kind,rfl,rfl,Nat.le_refl _,fun y z c h1 h2=>?_,fun y hy=>?_,fun y c _ h=>?_,fun _=>hd,Around.frames_deeper e0.frames,.inr ⟨rfl,rfl⟩,fun b z=>absurd z (noA b),e0.bs,e0.bsz,fun b _ _=>noA b,fun b z=>absurd z (noA b),e0.funs,e0.frf⟩,
  rfl,e0.bare,Un.kept hk,⟨_,x.toInCall.ns,fun i y v h1 h2 h3=>?_⟩,fun y c h=>⟨_,x.cell y c h⟩,e0.hok.fresh (Nat.le_refl _),fun y c h=>?_,fun p hp=>absurd (show p∈([]:List (Addr×Obj)) from hp) (by simp),e0.hok.kept hk,?_⟩
 ·exact name_of_addr x.apart (PySem.mem_of_lookup h1) (PySem.mem_of_lookup h2)
 ·have hy:scope.names.lookup y=some .cell∨scope.names.lookup y=some .free:=hy
  rcases hy with hy|hy
  ·exact p_ hy
  ·exact absurd rfl (S.nofree _ (PySem.mem_of_lookup hy))
 ·exact Nat.le_of_lt (x.above y c (PySem.mem_of_lookup h))
 ·have hi:i<vs.length:=by
   unfold start at h2
   by_cases hi:i<vs.length
   ·exact hi
   ·rw [List.getElem?_append_right (by simpa using hi)] at h2
    rw [List.getElem?_replicate] at h2
    split at h2 <;> cases h2
  have ha:vs[i]?=some v:=by
   unfold start at h2
   rw [List.getElem?_append_left (by simpa using hi),List.getElem?_map] at h2
   cases e:vs[i]? with
   |none=>rw [e] at h2;cases h2
   |some a=>rw [e] at h2;cases h2;rfl
  obtain ⟨u,hu,rv⟩:=r.get ha
  have hp:ps[i]?=some y:=by
   rw [← S.pre,List.getElem?_take_of_lt (by omega)];exact h1
  have ndP:ps.Nodup:=by rw [← S.pre];exact S.nd.sublist (List.take_sublist _ _)
  refine ⟨u,rv,?_⟩
  rcases S.par y (List.mem_of_getElem? hp) with k|k
  ·exact .inl ⟨k,oE ndP hp hu k⟩
  ·obtain ⟨c,e⟩:=p_ (n:=s.heap.objs.size+1) k
   refine .inr ⟨.inl k,c,e,?_⟩
   have q:=x.cell y c e
   rw [nj ndP hp hu (by show scope.names.lookup y≠_;rw [k];decide)] at q
   exact q
 ·exact e0.hok.fresh (Nat.le_of_lt (x.above y c (PySem.mem_of_lookup h)))
 ·unfold start
  show _=N.length
  rw [List.length_append,List.length_map,List.length_replicate]
  omega
theorem uI {CX:mU} {P:Program} {w:World} {K:PySem.W.Frag} {mg:Str->Option Value} {base:Heap} {k:Nat} {f:Addr} {name qual:Str} {params:Arguments} {body:List Stmt} {scope:Scope} {dV kV doc pm cdv ct oc:Value} {an od:Option Addr}
 {osl:Array (Option Value)} {N ps:List Str} {sp:Sp} (lk:K.lookup f=some ⟨oc,od,.func (PySem.W.fnOf name qual params body scope dV kV doc pm an cdv ct),osl⟩) (hcd:PySem.W.codeIn K cdv qual=true) (S:aR N ps scope)
 (len:∀ vs H Q E,sp vs H Q E->vs.length=ps.length)
 (hbody:∀ (A:Around) (outer:List Env) (s:Shared) (H:Hp) (vs:List V) (Q:VK) (E:XK),bH k (A.deeper (envOfC qual scope s.heap.objs.size f cdv))->sp vs H Q E->
  ∃ t,qU (jG CX P w K mg base N qual scope f cdv A outer s H E) body t/\t { nx:=fun _ H'=>Q .non H',rt:=Q } (start N vs) H) :
 aN P w K mg base CX (k+1) f (PySem.W.fnOf name qual params body scope dV kV doc pm an cdv ct) ps sp:=by
 refine ⟨len,fun A outer s H args us vs Q E hr e0 hb r hsp=>?_⟩
 have hl:=len _ _ _ _ hsp
 have KX:K.In s.heap:=e0.mod.kin.keeps fun b o e=>(e0.bs b o e).1
 have lim:s.heap.NoLimit:=e0.mod.nolimit.keeps fun b o e=>(e0.bs b o e).1
 have hkind:∀ y∈ps.zip us,scope.names.lookup y.1=some .local∨(scope.names.lookup y.1=some .cell/\((cellsFrom (s.heap.objs.size+1) scope.names []).lookup y.1).isSome=true):=fun ⟨n,v⟩ hy=>by
  rcases S.par n (List.of_mem_zip hy).1 with q|q
  ·exact .inl q
  ·exact .inr ⟨q,PySem.W.cellsFrom_some _ _ _ (.inl q)⟩
 refine codeAny_call_function hr.depth (KX _ _ lk) rfl S.co S.gen rfl (PySem.W.codeRec_of KX hcd) (hb _ _ _ _ ?_)
 refine wpAny_newFunctionEnv_cells S.kind hkind fun env he s1 x=>?_
 subst he
 refine ⟨lim.keeps x.toInCall.keep,codeAny_func ?_⟩
 obtain ⟨t,ht,hq⟩:=hbody A outer s H vs Q E (hr.deeper _) hsp
 have I:Inv (jG CX P w K mg base N qual scope f cdv A outer s H E) [] (start N vs) H s1:=vg S hr.hd e0 hl r x
 refine wpAny_mono (ht [] s1 (start N vs) H _ I hq) (fun fl s' hs=>?_) fun e s' hs=>hs
 have fin:∀ {σ':St} {H':Hp} {v:V} {u:Value},Inv (jG CX P w K mg base N qual scope f cdv A outer s H E) [] σ' H' s'->RelV v u->Q v H'->CE outer P w H s Q u s':=
  fun {σ' H' v u} J rv q=>⟨v,H',J.os,J.bare,J.base,J.hok,rv,q⟩
 cases fl with
 | ret u=>
   obtain ⟨v,σ',H',J,rv,q⟩:=hs
   exact fin J rv q
 | next=>
   obtain ⟨σ',H',J,q⟩:=hs
   exact fin (v:=V.non) (u:=Value.none) J rfl q
 | brk=>
   obtain ⟨_,_,_,q⟩:=hs
   exact False.elim q
 | cont=>
   obtain ⟨_,_,_,q⟩:=hs
   exact False.elim q
section
variable {X:Cx} {x:Str} {p pos:Pos} {e:Expr} {es:List Expr} {t:TA} {id T:String} {r:List V->Hp->VK->Prop}
def R0 (r:List V->Hp->VK->Prop) (t:TA):TE:=fun U H Q=>t U H fun vs H1=>r vs H1 Q
theorem aG (hc:dG X (.builtin id) r) (hg:Gl X x) (hm:X.mg x=none) (hv:bootBuiltins x=some (.builtin id)) (ha:PA X (e::es) t) (hn:x ≠ "__name__":=by decide) (hdb:(x == ("__debug__" : Str))=false:=by decide)
 (he:starEach (e::es) X.env=(false,eval e X.env)::starEach es X.env:=by rfl) (hpl:(backTo pos (starEach es X.env)).any (·.1)=false:=by rfl):PE X (.Call (.Name x p) (e::es) [] pos) (R0 r t):=by
 intro Z s U H Q I h
 refine wpAny_Call_Name_kw (iw I hg hm hv ?_ hn hdb)
 exact PyProof.Rows.callWith_builtin1 (bU (ha pos Z s U H _ I h) fun us s1 ⟨vs,H1,I1,r1,q1⟩=>hc Z s1 U H1 vs us Q I1 r1 q1) he hpl
theorem dZ (hc:dG X (.type T) r) (hg:Gl X x) (hm:X.mg x=none) (hv:bootBuiltins x=some (.type T)) (ha:PA X (e::es) t) (hn:x ≠ "__name__":=by decide) (hdb:(x == ("__debug__" : Str))=false:=by decide)
 (he:starEach (e::es) X.env=(false,eval e X.env)::starEach es X.env:=by rfl) (hpl:(backTo pos (starEach es X.env)).any (·.1)=false:=by rfl):PE X (.Call (.Name x p) (e::es) [] pos) (R0 r t):=by
 intro Z s U H Q I h
 refine wpAny_Call_Name_kw (iw I hg hm hv ?_ hn hdb)
 exact PyProof.Rows.callWith_type1 (bU (ha pos Z s U H _ I h) fun us s1 ⟨vs,H1,I1,r1,q1⟩=>hc Z s1 U H1 vs us Q I1 r1 q1) he hpl
end
end L2
namespace HT
open PySem PyProof.Rows
section
open PySem.SeqAt
open PySem.AutoSeq1 (wpAny_loadPart')
open PySem.MeetsSeq PySem.MeetsSeq2 PySem.MeetsSeq3
end
section
variable {prog:Program} {w:World} {A:Around} {E:Value->Shared->Prop} {s:Shared}
theorem yV {t b:Addr} {vs ws:List Value} {Q:Value->Shared->Prop} (ht:IsTup s.heap t vs.toArray) (hb:IsTup s.heap b ws.toArray) (hv:vs≠[])
 (h1:ws=[]->Q (.ref t) s) (h2:ws≠[]->Q (.ref s.heap.objs.size) { s with heap:=s.heap.push { cls:=.type "tuple",data:=.seq (vs++ws).toArray } })
 (hsz:vs.length+ws.length≤sizeLine):wpAny (model prog w) A (binaryOp .Add (.ref t) (.ref b)) Q E s:=by
 obtain ⟨⟨cls,dd,data,sl⟩,ho,hc,n,hd⟩:=id ht
 obtain ⟨⟨cls2,dd2,data2,sl2⟩,ho2,hc2,n2,hd2⟩:=id hb
 simp only at hc hd hc2 hd2
 subst hc hd hc2 hd2
 have e:vs.toArray++ws.toArray=(vs++ws).toArray:=by simp
 by_cases hw:ws=[]
 ·exact concat_meets ⟨_,ho,rfl⟩ ⟨_,ho2,rfl⟩ noFill_tuple_add seq_tuple_add PySem.F.slot_tuple_add PySem.F.entry_tuple_add (PySem.F.args_tuple_add_2 _ _)
   (tuple_addW1 t b vs.toArray ws.toArray n n2 dd dd2 sl sl2 (by simpa using hv) (by simp [hw])) ⟨ho,ho2,h1 hw⟩
 ·refine concat_meets ⟨_,ho,rfl⟩ ⟨_,ho2,rfl⟩ noFill_tuple_add seq_tuple_add PySem.F.slot_tuple_add PySem.F.entry_tuple_add (PySem.F.args_tuple_add_2 _ _)
   (tuple_addW2 t b vs.toArray ws.toArray n n2 dd dd2 sl sl2 (by simpa using hv) (by simpa using hw) (by rw [List.size_toArray,List.size_toArray];exact hsz)) ⟨ho,ho2,?_⟩
  rw [e]
  exact h2 hw
def dj (n d:Nat):Option Int->Nat
 |none=>d
 |some v=>if v<0 then (v+(n:Int)).toNat else min v.toNat n
theorem xW (n d:Nat):dj n d none=d:=rfl
theorem yM (n d k:Nat):dj n d (some (k:Int))=min k n:=by
 show (if (k:Int)<0 then ((k:Int)+(n:Int)).toNat else min (k:Int).toNat n)=min k n
 rw [if_neg (by omega),Int.toNat_natCast]
theorem Eo (n d:Nat) (hd:d≤n) (o:Option Int):dj n d o≤n:=by
 cases o with
 |none=>exact hd
 | some v=>
   show (if v<0 then (v+(n:Int)).toNat else min v.toNat n)≤n
   by_cases hv:v<0
   ·rw [if_pos hv];omega
   ·rw [if_neg hv];exact Nat.min_le_right _ _
theorem ue (v:Int) (n d:Nat):(if v<0 then max (v+(n:Int)) 0 else min v (n:Int))=((dj n d (some v):Nat):Int):=by
 show (if v<0 then max (v+(n:Int)) 0 else min v (n:Int))=(((if v<0 then (v+(n:Int)).toNat else min v.toNat n):Nat):Int)
 by_cases hv:v<0
 ·simp only [if_pos hv];omega
 ·simp only [if_neg hv];omega
theorem sV (lo hi:Option Int) (n:Nat):Builtin.Slice.sliceAdjust lo hi 1 (n:Int)=(((dj n 0 lo:Nat):Int),((dj n n hi:Nat):Int)):=by
 have h1:¬ ((1:Int)<0):=by omega
 unfold Builtin.Slice.sliceAdjust
 simp only [h1,if_false]
 refine Prod.ext ?_ ?_
 ·cases lo with
  |none=>rfl
  |some v=>exact ue v n 0
 ·cases hi with
  |none=>rfl
  |some v=>exact ue v n n
theorem rP (i j:Nat):Builtin.Slice.slicePlaces (i:Int) (j:Int) 1=j-i:=by
 unfold Builtin.Slice.slicePlaces
 have h1:(1:Int) > 0:=by omega
 simp only [h1,if_true,Int.ediv_one]
 split <;> omega
theorem lN {v:Value} {o:Option Int} {Q:Option Int->Shared->Prop} (p:IsPart v o) (h:Q o s):wpAny (model prog w) A (Builtin.Slice.slicePartIndex v) Q E s:=by
 cases p with
 |none=>exact slicePart_none h
 |int i t=>exact slicePart_int h
theorem gC {sl:Addr} {vl vu:Value} {lo hi:Option Int} {n:Nat} {Q:Int×Int×Nat->Shared->Prop} (hs:s.heap.IsSliceOf sl vl vu .none) (pl:IsPart vl lo) (pu:IsPart vu hi)
 (h:Q (((dj n 0 lo:Nat):Int),1,dj n n hi-dj n 0 lo) s):wpAny (model prog w) A (Builtin.Slice.sliceApplied (.ref sl) (pure (n:Int))) Q E s:=by
 obtain ⟨os,hos,hcs,hds⟩:=id hs
 unfold Builtin.Slice.sliceApplied Builtin.Slice.sliceFields
 refine wpAny_bind (wpAny_bind (wpAny_field hos hds (x:=vl) rfl (wpAny_bind (wpAny_field hos hds (x:=vu) rfl (wpAny_bind (wpAny_field hos hds (x:=.none) rfl (wpAny_pure ?_)))))))
 refine wpAny_bind (slicePart_none ?_)
 show wpAny _ _ (if ((1:Int) == 0)=true then _ else _) _ _ s
 rw [if_neg (by decide)]
 refine wpAny_bind (lN pl (wpAny_bind (lN pu (wpAny_bind (wpAny_pure ?_)))))
 show wpAny _ _ (match Builtin.Slice.sliceAdjust lo hi 1 (n:Int) with|(lo,hi)=>pure (lo,(1:Int),Builtin.Slice.slicePlaces lo hi 1)) _ _ s
 rw [sV lo hi n]
 show wpAny _ _ (pure (((dj n 0 lo:Nat):Int),(1:Int),Builtin.Slice.slicePlaces ((dj n 0 lo:Nat):Int) ((dj n n hi:Nat):Int) 1)) _ _ s
 rw [rP]
 exact wpAny_pure h
theorem xu (xs:Array Value) (i k:Nat):((List.range k).filterMap fun (m:Nat)=>xs[((i:Int)+(m:Int)*1).toNat]?).toArray=((xs.toList.drop i).take k).toArray:=by
 have e:(fun (m:Nat)=>xs[((i:Int)+(m:Int)*1).toNat]?)=fun m=>xs[i+m]?:=by
  funext m
  have:((i:Int)+(m:Int)*1).toNat=i+m:=by omega
  rw [this]
 rw [e]
 have:=pick_run xs i k
 rw [List.filterMap_map] at this
 have e2:((fun x=>xs[x]?) ∘ fun x=>i+x)=fun m=>xs[i+m]?:=rfl
 rw [e2] at this
 rw [this]
theorem jq {t sl:Addr} {items:Array Value} {vl vu:Value} {lo hi:Option Int} {Q:Value->Shared->Prop} (ht:IsTup s.heap t items) (hs:s.heap.IsSliceOf sl vl vu .none) (pl:IsPart vl lo) (pu:IsPart vu hi)
 (hw:¬ (dj items.size 0 lo=0/\dj items.size items.size hi=items.size))
 (h:Q (.ref s.heap.objs.size) { s with heap:=s.heap.push { cls:=.type "tuple",data:=.seq ((items.toList.drop (dj items.size 0 lo)).take (dj items.size items.size hi-dj items.size 0 lo)).toArray } })
 (hsz:items.size≤sizeLine):wpAny (model prog w) A (getItem (.ref t) (.ref sl)) Q E s:=by
 have htake:sizeOk (.seq ((items.toList.drop (dj items.size 0 lo)).take (dj items.size items.size hi-dj items.size 0 lo)).toArray):=by
  show ((items.toList.drop (dj items.size 0 lo)).take (dj items.size items.size hi-dj items.size 0 lo)).toArray.size≤sizeLine
  rw [List.size_toArray,List.length_take,List.length_drop,Array.length_toList]
  omega
 have hj:dj items.size items.size hi≤items.size:=Eo _ _ (Nat.le_refl _) hi
 obtain ⟨os,hos,hcs,hds⟩:=id hs
 have hTs:s.TypeIs (.ref sl) "slice":=⟨os,hos,hcs⟩
 unfold getItem
 try with_reducible refine wpAny_holding ?_
 first|refine wpAny_bind (wpAny_pure ?_)|skip
 refine wpAny_bind (wpAny_sequenceKey ht.typeIs (by decide) ?_)
 refine wpAny_bind (wpAny_callSpecial?_slot (name:=Str.ofString "__getitem__") ht.typeIs PyProof.Rows.slot_tuple_getitem
  (wpAny_call_entry PyProof.Rows.slot_tuple_getitem ht.typeIs entry_tuple_getitem ?_ (args_tuple_getitem _ _)))
 show wpAny _ _ (Builtin.Tuple.tupleItemsOf (.ref t) >>= _) _ _ s
 refine wpAny_bind (tupleItemsOf_ ht ?_)
 refine wpAny_bind (wpAny_typeOf hTs ?_)
 rw [if_pos (by decide)]
 refine wpAny_bind (gC hs pl pu ?_)
 have hno:¬ ((((dj items.size 0 lo:Nat):Int) == 0 && (1:Int) == 1 && (dj items.size items.size hi-dj items.size 0 lo) == items.size)=true):=by
  intro q
  rw [Bool.and_eq_true,Bool.and_eq_true] at q
  have q1:((dj items.size 0 lo:Nat):Int)=0:=eq_of_beq q.1.1
  have q2:dj items.size items.size hi-dj items.size 0 lo=items.size:=eq_of_beq q.2
  exact hw ⟨by omega,by omega⟩
 show wpAny _ _ (if (((dj items.size 0 lo:Nat):Int) == 0 && (1:Int) == 1 && (dj items.size items.size hi-dj items.size 0 lo) == items.size)=true then _ else _) _ _ s
 rw [if_neg hno,xu]
 first
  |exact wpAny_bind (m:=Builtin.Tuple.tupleExact _) (wpAny_newObj_type (wpAny_pure ⟨_,rfl,wpAny_pure h⟩) htake)
  |exact wpAny_bind (m:=Builtin.Tuple.tupleExact _) (wpAny_newObj_type (wpAny_bind (wpAny_pure (wpAny_pure ⟨_,rfl,wpAny_pure h⟩))) htake)
  |exact wpAny_bind (wpAny_bind (m:=Builtin.Tuple.tupleExact _) (wpAny_newObj_type (wpAny_pure (wpAny_pure ⟨_,rfl,wpAny_pure h⟩)) htake))
  |exact wpAny_bind (wpAny_bind (m:=Builtin.Tuple.tupleExact _) (wpAny_newObj_type (wpAny_pure ⟨_,rfl,wpAny_pure h⟩) htake))
end
end HT
namespace L2
open PySem PySem.Spec PyProof.Rows
abbrev TO:=St->Hp->(Option Int->Hp->Prop)->Prop
def PO (X:Cx) (e:Option Expr) (t:TO):Prop:=
 ∀ (Z:List (Addr×Obj)) (s:Shared) (U:St) (H:Hp) (Q:Option Int->Hp->Prop),Inv X Z U H s->t U H Q->
   wpAny (model X.prog X.w) X.A (evalPart e X.env) (fun u s'=>∃ o H',Inv X Z U H' s'/\IsPart u o/\Q o H') X.xe s
def tK:TO:=fun _ H Q=>Q none H
def Jm (t:TE):TO:=fun U H Q=>t U H fun x H1=>∃ i,x=.int i/\Q (some i) H1
section
variable {X:Cx} {e:Expr} {te:TE} {lo hi:Option Expr} {tl th:TO} {pos p2:Pos}
theorem iH:PO X none tK:=by
 intro Z s U H Q I h
 rw [evalPart_none]
 exact wpAny_pure ⟨none,H,I,.none,h⟩
theorem iD (h:PE X e te):PO X (some e) (Jm te):=by
 intro Z s U H Q I hw
 rw [evalPart_some]
 refine bU (h Z s U H _ I hw) fun u s1 ⟨x,H1,I1,r1,q1⟩=>?_
 obtain ⟨i,rfl,q⟩:=q1
 obtain ⟨t,rfl⟩:=r1
 exact ⟨some i,H1,I1,.int i t,q⟩
def M3 (X:Cx) (r:V->Option Int->Option Int->Hp->VK->Prop):Prop:=
 ∀ (Z:List (Addr×Obj)) (s:Shared) (U:St) (H:Hp) (x:V) (v vl vu:Value) (lo hi:Option Int) (sl:Addr) (Q:VK),Inv X Z U H s->RelV x v->s.heap.IsSliceOf sl vl vu .none->IsPart vl lo->IsPart vu hi->r x lo hi H Q->
   ∃ T id,typeLookup (.type T) "__getitem__" = pure (some (.builtin id))/\s.TypeIs v T/\wpAny (model X.prog X.w) X.A (getItem v (.ref sl)) (EP X Z U Q) X.xe s
def Rx (r:V->Option Int->Option Int->Hp->VK->Prop) (te:TE) (tl th:TO):TE:=fun U H Q=>te U H fun x H1=>tl U H1 fun l H2=>th U H2 fun u H3=>r x l u H3 Q
theorem gF {r:V->Option Int->Option Int->Hp->VK->Prop} (hr:M3 X r) (he:PE X e te) (hl:PO X lo tl) (hu:PO X hi th):PE X (.Subscript e (.Slice lo hi none p2) pos) (Rx r te tl th):=by
 intro Z s U H Q I h
 refine Subscript_ (bU (he Z s U H _ I h) fun v s1 ⟨x,H1,I1,r1,q1⟩=>?_)
 refine wpAny_Slice (bU (hl Z s1 U H1 _ I1 q1) fun vl s2 ⟨l,H2,I2,pl,q2⟩=>bU (hu Z s2 U H2 _ I2 q2) fun vu s3 ⟨u,H3,I3,pu,q3⟩=>?_)
 rw [evalPart_none]
 refine wpAny_pure ?_
 have I4:Inv X Z U H3 { s3 with heap:=s3.heap.push { cls:=.type "slice",data:=.fields #[vl,vu,.none] } }:=I3.kept (t':=s3.toks) fun b ob q=>Heap.get?_push_of_some _ q
 obtain ⟨T,id,hT,ht,hg⟩:=hr Z { s3 with heap:=s3.heap.push { cls:=.type "slice",data:=.fields #[vl,vu,.none] } } U H3 x v vl vu l u s3.heap.objs.size Q I4 r1 (Heap.IsSliceOf.new ..) pl pu q3
 show wpAny (model X.prog X.w) X.A (subscriptTail e (.Slice lo hi none p2) v (.ref s3.heap.objs.size)) (EP X Z U Q) X.xe { s3 with heap:=s3.heap.push { cls:=.type "slice",data:=.fields #[vl,vu,.none] } }
 exact tail_any (ops:=[.ref s3.heap.objs.size,v]) ht hT hg (by with_unfolding_all rfl)
def j0 (xs:List V) (lo hi:Option Int):List V:=(xs.drop (HT.dj xs.length 0 lo)).take (HT.dj xs.length xs.length hi-HT.dj xs.length 0 lo)
theorem jW (xs:List V) (lo hi:Option Int):(j0 xs lo hi).length≤xs.length:=by
 unfold j0
 rw [List.length_take,List.length_drop]
 omega
def Oe (K:PySem.W.Frag):V->Option Int->Option Int->Hp->VK->Prop:=fun x lo hi H Q=>∃ a xs,x=.ref a/\bF K H a xs/\
 ¬ (HT.dj xs.length 0 lo=0/\HT.dj xs.length xs.length hi=xs.length)/\∀ p,H p=none->Q (.ref p) (upd H p (.tup (j0 xs lo hi)))
theorem DY:M3 X (Oe X.K):=by
 intro Z s U H x v vl vu lo hi sl Q I rx hs pl pu h
 obtain ⟨a,xs,rfl,hx,hw,q⟩:=h
 cases rx
 obtain ⟨its,r,ht,hz⟩:=I.tuple hx
 have hlen:its.toArray.size=xs.length:=by rw [List.size_toArray];exact r.length.symm
 refine ⟨"tuple",_,PyProof.Rows.slot_tuple_getitem.lookup,ht.typeIs,?_⟩
 refine HT.jq ht hs pl pu (by rw [hlen];exact hw) ?_ (by rw [hlen];exact hz)
 rw [hlen]
 refine ⟨.ref s.heap.objs.size,_,I.laid (t':=s.toks) (o:=.tup (j0 xs lo hi)) (fun b ob q=>Heap.get?_push_of_some _ q) (Nat.le_refl _) ?_,rfl,q _ (I.hok.fresh (Nat.le_refl _))⟩
 exact ⟨Nat.le_trans (jW xs lo hi) hz,_,(r.drop (HT.dj xs.length 0 lo)).take (HT.dj xs.length xs.length hi-HT.dj xs.length 0 lo),IsTup.new _ _⟩
def G4 (K:PySem.W.Frag):R2:=fun x y H Q=>∃ a b xs ys,x=.ref a/\y=.ref b/\bF K H a xs/\bF K H b ys/\xs≠[]/\xs.length+ys.length≤sizeLine/\
 (ys=[]->Q (.ref a) H)/\(ys≠[]->∀ p,H p=none->Q (.ref p) (upd H p (.tup (xs++ys))))
theorem Vals.nil_iff {xs:List V} {us:List Value} (r:Vals xs us):us=[]↔xs=[]:=by
 cases r with
 |nil=>simp
 |cons _ _=>simp
theorem z9:gR X (binaryOp .Add) (G4 X.K):=by
 intro Z s U H x y v u Q I rx ry h
 obtain ⟨a,b,xs,ys,rfl,rfl,ha,hb,hx,hz,q1,q2⟩:=h
 cases rx
 cases ry
 obtain ⟨its,r1,p1,_⟩:=I.tuple ha
 obtain ⟨its2,r2,p2,_⟩:=I.tuple hb
 refine HT.yV p1 p2 (fun z=>hx (r1.nil_iff.mp z)) (fun z=>⟨.ref a,H,I,rfl,q1 (r2.nil_iff.mp z)⟩) (fun z=>?_) (by rw [← r1.length,← r2.length];exact hz)
 refine ⟨.ref s.heap.objs.size,_,I.laid (t':=s.toks) (o:=.tup (xs++ys)) (fun b ob q=>Heap.get?_push_of_some _ q) (Nat.le_refl _) ?_,rfl,q2 (fun w=>z (r2.nil_iff.mpr w)) _ (I.hok.fresh (Nat.le_refl _))⟩
 exact ⟨by rw [List.length_append];exact hz,_,r1.append r2,IsTup.new _ _⟩
end
def BJ (n:Nat) (i:Int):Option Nat:=if 0≤i then (if i<n then some i.toNat else none) else if -(n:Int)≤i then some (i+n).toNat else none
def lG {α:Type} (xs:List α) (i:Int):Option α:=(BJ xs.length i).bind fun j=>xs[j]?
theorem zR {n:Nat} {i:Int} {j:Nat} (h:BJ n i=some j):seqIndex? i n=some j/\j<n/\-(n:Int)≤i/\i<n:=by
 unfold BJ at h
 by_cases h0:0≤i
 ·rw [if_pos h0] at h
  by_cases h1:i<n
  ·rw [if_pos h1] at h
   have e:i.toNat=j:=Option.some.inj h
   exact ⟨by rw [seqIndex_of h0 h1,e],by omega,by omega,h1⟩
  ·rw [if_neg h1] at h;cases h
 ·rw [if_neg h0] at h
  by_cases h1:-(n:Int)≤i
  ·rw [if_pos h1] at h
   have e:(i+n).toNat=j:=Option.some.inj h
   exact ⟨by rw [seqIndex_neg (by omega) h1,e],by omega,h1,by omega⟩
  ·rw [if_neg h1] at h;cases h
theorem oY {α:Type} {xs:List α} {i:Int} {v:α} (h:lG xs i=some v):∃ j,seqIndex? i xs.length=some j/\xs[j]?=some v/\j<xs.length/\-(xs.length:Int)≤i/\i<xs.length:=by
 unfold lG at h
 cases e:BJ xs.length i with
 |none=>rw [e] at h;cases h
 | some j=>
   rw [e] at h
   obtain ⟨h1,h2,h3,h4⟩:=zR e
   exact ⟨j,h1,h,h2,h3,h4⟩
theorem aD {α:Type} {xs:List α} {j:Nat} {v:α} (h:xs[j]?=some v):lG xs (j:Int)=some v:=by
 have hj:j<xs.length:=(List.getElem?_eq_some_iff.mp h).1
 have e:BJ xs.length (j:Int)=some j:=by
  unfold BJ
  rw [if_pos (by omega),if_pos (by omega)];simp
 unfold lG;rw [e];exact h
def yU (b:Expr):Prop:=∀ o i,subscripted b false o i=operate [o,i] (getItem o i)
def zJ (X:Cx) (r:R2):Prop:=
 ∀ (value slice:Expr) (Z:List (Addr×Obj)) (s:Shared) (U:St) (H:Hp) (x y:V) (v u:Value) (Q:VK),Inv X Z U H s->RelV x v->RelV y u->r x y H Q->
   subscripted slice false v u=operate [v,u] (getItem v u)->wpAny (model X.prog X.w) X.A (subscriptTail value slice v u) (EP X Z U Q) X.xe s
def Fo (X:Cx) (id:String) (r:V->List V->Hp->VK->Prop):Prop:=
 ∀ (Z:List (Addr×Obj)) (s:Shared) (U:St) (H:Hp) (x:V) (xs:List V) (v:Value) (us:List Value) (Q:VK),Inv X Z U H s->RelV x v->Vals xs us->r x xs H Q->
   wpAny (model X.prog X.w) X.A (call (.builtin id) (v::us)) (EP X Z U Q) X.xe s
section
variable {X:Cx} {a b:Expr} {ta tb:TE} {pos:Pos}
theorem zJ.or {r r':R2} (h:zJ X r) (h':zJ X r'):zJ X (fun x y H Q=>r x y H Q∨r' x y H Q):=by
 intro value slice Z s U H x y v u Q I rx ry q hs
 rcases q with q|q
 ·exact h value slice Z s U H x y v u Q I rx ry q hs
 ·exact h' value slice Z s U H x y v u Q I rx ry q hs
theorem aX {r:R2} (hr:zJ X r) (ha:PE X a ta) (hb:PE X b tb) (hs:yU b):PE X (.Subscript a b pos) (Kr r ta tb):=by
 intro Z s U H Q I h
 exact Subscript_ (B_ ha hb I h fun v u s2 x y H2 I2 rx ry q=>hr a b Z s2 U H2 x y v u Q I2 rx ry q (hs _ _))
def vG (K:PySem.W.Frag):R2:=fun x y H Q=>∃ p xs i v,x=.ref p/\y=.int i/\bM K H p xs/\lG xs i=some v/\Q v H
def lV (K:PySem.W.Frag):R2:=fun x y H Q=>∃ p xs i v,x=.ref p/\y=.int i/\bF K H p xs/\lG xs i=some v/\Q v H
def Dk:R2:=fun x y H Q=>∃ z i c,x=.str z/\y=.int i/\z.length≤sizeLine/\lG z.cps.toList i=some c/\Q (.str ⟨#[c]⟩) H
theorem cR:zJ X (vG X.K):=by
 intro value slice Z s U H x y v u Q I rx ry h hs
 obtain ⟨p,xs,i,z,rfl,rfl,hq,he,q⟩:=h
 cases rx
 obtain ⟨t,rfl⟩:=ry
 obtain ⟨its,r,pl,hz⟩:=I.list hq
 obtain ⟨j,h1,h2,h3,h4,h5⟩:=oY he
 obtain ⟨w,ew,rw'⟩:=r.get h2
 have hl:=r.length
 have hn:=lg
 have fin:EP X Z U Q w s:=⟨z,H,I,rw',q⟩
 by_cases h0:0≤i
 ·have hj:i.toNat=j:=by
   rw [seqIndex_of h0 h5] at h1
   exact Option.some.inj h1
  exact item_listR pl.isList h0 (by omega) (by rw [hj];simpa using ew) fin hs
 ·have hj:(i+(its.toArray.size:Int)).toNat=j:=by
   rw [seqIndex_neg (by omega) h4] at h1
   rw [List.size_toArray,← hl]
   exact Option.some.inj h1
  exact subscriptTail_builtinR (x:=w) pl.isList.typeIs slot_list_getitem.lookup
   (wpAny_getItem_list_neg (Q:=fun r s'=>r=w/\EP X Z U Q r s') pl.isList (by omega) (by rw [List.size_toArray] <;> omega) (by omega) (by rw [hj];simpa using ew) ⟨rfl,fin⟩) hs
theorem aZ:zJ X (lV X.K):=by
 intro value slice Z s U H x y v u Q I rx ry h hs
 obtain ⟨p,xs,i,z,rfl,rfl,hq,he,q⟩:=h
 cases rx
 obtain ⟨t,rfl⟩:=ry
 obtain ⟨its,r,pl,hz⟩:=I.tuple hq
 obtain ⟨j,h1,h2,h3,h4,h5⟩:=oY he
 obtain ⟨w,ew,rw'⟩:=r.get h2
 have hl:=r.length
 have hn:=lg
 have fin:EP X Z U Q w s:=⟨z,H,I,rw',q⟩
 exact subscriptTail_builtinR (x:=w) pl.typeIs slot_tuple_getitem.lookup
  (getItem_tuple (j:=j) (Q:=fun r s'=>r=w/\EP X Z U Q r s') pl (by omega) (by omega) (by rw [List.size_toArray,← hl];exact h1) (by simpa using ew) ⟨rfl,fin⟩) hs
theorem o_:zJ X Dk:=by
 intro value slice Z s U H x y v u Q I rx ry h hs
 obtain ⟨z,i,c,rfl,rfl,hz,he,q⟩:=h
 obtain ⟨t,rfl⟩:=rx
 obtain ⟨t',rfl⟩:=ry
 obtain ⟨j,h1,h2,h3,h4,h5⟩:=oY he
 have hl:z.cps.toList.length=z.length:=by simp [Str.length]
 rw [hl] at h1 h4 h5
 have hn:=lg
 exact tail_any (typeIs_str s z t) slot_str_getitem.lookup (getItem_str (c:=c) (by
  have e1:decide (i < -(2 ^ 63:Int))=false:=decide_eq_false (by omega)
  have e2:decide (i ≥ 2 ^ 63)=false:=decide_eq_false (by omega)
  rw [e1,e2,Bool.or_false]) (by rw [h1];simpa using h2) ⟨.str ⟨#[c]⟩,H,I.tok _,⟨_,rfl⟩,q⟩) hs
def zW (K:PySem.W.Frag):R2:=fun x y H Q=>vG K x y H Q∨lV K x y H Q∨Dk x y H Q
theorem j4:zJ X (zW X.K):=cR.or (aZ.or o_)
theorem oU (lo hi:Option Int) (n:Nat):(sliceBounds lo hi none n).1=((HT.dj n 0 lo:Nat):Int)/\(sliceBounds lo hi none n).2.1=((HT.dj n n hi:Nat):Int)/\(sliceBounds lo hi none n).2.2=1:=by
 refine ⟨?_,?_,rfl⟩
 ·cases lo with
  |none=>simp [sliceBounds,HT.dj]
  | some i=>
    simp only [sliceBounds,HT.dj,Option.getD_none,show (1:Int) > 0 by decide,if_true]
    by_cases h:i<0
    ·simp only [h,if_true] <;> omega
    ·simp only [h,if_false] <;> omega
 ·cases hi with
  |none=>simp [sliceBounds,HT.dj]
  | some i=>
    simp only [sliceBounds,HT.dj,Option.getD_none,show (1:Int) > 0 by decide,if_true]
    by_cases h:i<0
    ·simp only [h,if_true] <;> omega
    ·simp only [h,if_false] <;> omega
theorem mG (its:List Value) (lo hi:Option Int):slicePick its.toArray lo hi none=((its.drop (HT.dj its.length 0 lo)).take (HT.dj its.length its.length hi-HT.dj its.length 0 lo)).toArray:=by
 obtain ⟨h1,h2,h3⟩:=oU lo hi its.toArray.size
 unfold slicePick
 rw [h1,h2,h3]
 simp only [sliceRange_one,pick_run,List.size_toArray] <;> rfl
def Pq (K:PySem.W.Frag):V->Option Int->Option Int->Hp->VK->Prop:=fun x lo hi H Q=>∃ a xs,x=.ref a/\bM K H a xs/\∀ p,H p=none->Q (.ref p) (upd H p (.lst (j0 xs lo hi)))
theorem uf:M3 X (Pq X.K):=by
 intro Z s U H x v vl vu lo hi sl Q I rx hs pl pu h
 obtain ⟨a,xs,rfl,hx,q⟩:=h
 cases rx
 obtain ⟨its,r,ht,hz⟩:=I.list hx
 have hlen:=r.length
 refine ⟨"list",_,slot_list_getitem.lookup,ht.isList.typeIs,?_⟩
 refine wpAny_getItem_list_slice ht.isList hs pl pu .none (by simp) ?_ (by rw [List.size_toArray] <;> omega)
 rw [mG,← hlen]
 refine ⟨.ref s.heap.objs.size,_,I.laid (t':=s.toks) (o:=.lst (j0 xs lo hi)) (fun b ob q=>Heap.get?_push_of_some _ q) (Nat.le_refl _) ?_,rfl,q _ (I.hok.fresh (Nat.le_refl _))⟩
 exact ⟨Nat.le_trans (jW xs lo hi) hz,_,0,(r.drop (HT.dj xs.length 0 lo)).take (HT.dj xs.length xs.length hi-HT.dj xs.length 0 lo),Heap.get?_push_size _ rfl⟩
def jo:V->Bool
 |.non=>true
 |.bl _=>true
 |.int _=>true
 |.str _=>true
 |_=>false
def tR:V->V->Bool
 |.non,.non=>true
 |.bl a,.bl b=>a == b
 |.bl a,.int b=>(if a then 1 else 0) == b
 |.int a,.bl b=>a == (if b then 1 else 0)
 |.int a,.int b=>a == b
 |.str a,.str b=>a == b
 |_,_=>false
theorem Ba {A:Around} {s:Shared} {y x:V} {u v:Value} (ry:RelV y u) (rx:RelV x v) (fy:jo y=true) (fx:jo x=true):SeqAt.EqAt A s u v (tR y x):=by
 cases y with
 | non=>
   cases ry
   cases x with
   |non=>cases rx;exact SeqAt.EqAt.same _
   |bl b=>cases rx;exact SeqAt.EqAt.none_bool b
   |int b=>obtain ⟨t,rfl⟩:=rx;exact SeqAt.EqAt.none_int b t
   |str b=>obtain ⟨t,rfl⟩:=rx;exact SeqAt.EqAt.none_str b t
   |_=>exact absurd (show false=true from fx) Bool.false_ne_true
 | bl a=>
   cases ry
   cases x with
   |non=>cases rx;exact SeqAt.EqAt.bool_none a
   |bl b=>cases rx;exact SeqAt.EqAt.bool_bool a b
   |int b=>obtain ⟨t,rfl⟩:=rx;exact SeqAt.EqAt.bool_int a b t
   |str b=>obtain ⟨t,rfl⟩:=rx;exact SeqAt.EqAt.bool_str a b t
   |_=>exact absurd (show false=true from fx) Bool.false_ne_true
 | int a=>
   obtain ⟨t',rfl⟩:=ry
   cases x with
   |non=>cases rx;exact SeqAt.EqAt.int_none a t'
   |bl b=>cases rx;exact SeqAt.EqAt.int_bool a t' b
   |int b=>obtain ⟨t,rfl⟩:=rx;exact SeqAt.EqAt.int_int a t' b t
   |str b=>obtain ⟨t,rfl⟩:=rx;exact SeqAt.EqAt.int_str a t' b t
   |_=>exact absurd (show false=true from fx) Bool.false_ne_true
 | str a=>
   obtain ⟨t',rfl⟩:=ry
   cases x with
   |non=>cases rx;exact SeqAt.EqAt.str_none a t'
   |bl b=>cases rx;exact SeqAt.EqAt.str_bool a t' b
   |int b=>obtain ⟨t,rfl⟩:=rx;exact SeqAt.EqAt.str_int a t' b t
   |str b=>obtain ⟨t,rfl⟩:=rx;exact SeqAt.EqAt.str_str a t' b t
   |_=>exact absurd (show false=true from fx) Bool.false_ne_true
 |_=>exact absurd (show false=true from fy) Bool.false_ne_true
def yW (x:V) (u:Value):Bool:=match u with
 |.none=>tR .non x
 |.bool b=>tR (.bl b) x
 |.int i _=>tR (.int i) x
 |.str z _=>tR (.str z) x
 |_=>false
theorem xg {x y:V} {u:Value} (r:RelV y u) (f:jo y=true):yW x u=tR y x:=by
 cases y with
 |non=>cases r;rfl
 |bl b=>cases r;rfl
 |int i=>obtain ⟨t,rfl⟩:=r;rfl
 |str z=>obtain ⟨t,rfl⟩:=r;rfl
 |_=>exact absurd (show false=true from f) Bool.false_ne_true
theorem oX {x:V}:∀ {xs:List V} {us:List Value},Vals xs us->xs.all jo=true->us.any (yW x)=xs.any fun y=>tR y x
 |_,_,.nil,_=>rfl
 | y::xs,u::us,.cons r t,f=>by
   rw [List.all_cons,Bool.and_eq_true] at f
   rw [List.any_cons,List.any_cons,xg r f.1,oX t f.2]
theorem m5 {A:Around} {s:Shared} {x:V} {v:Value} (rx:RelV x v) (fx:jo x=true):∀ {xs:List V} {us:List Value},Vals xs us->xs.all jo=true->∀ u∈us,SeqAt.EqAt A s u v (yW x u)
 |_,_,.nil,_=>fun u hu=>by cases hu
 | y::xs,u::us,.cons r t,f=>fun u' hu=>by
   rw [List.all_cons,Bool.and_eq_true] at f
   rcases List.mem_cons.mp hu with rfl|hu
   ·rw [xg r f.1];exact Ba r rx f.1 fx
   ·exact m5 rx fx t f.2 u' hu
def inV (x:V) (xs:List V):Bool:=xs.any fun y=>tR y x
def R3 (K:PySem.W.Frag) (neg:Bool):R2:=fun x y H Q=>∃ p xs,y=.ref p/\(bM K H p xs∨bF K H p xs)/\jo x=true/\xs.all jo=true/\Q (.bl (if neg then !inV x xs else inV x xs)) H
theorem gK:gR X (compareOp .In) (R3 X.K false):=by
 intro Z s U H x y v u Q I rx ry h
 obtain ⟨p,xs,rfl,hq,fx,fs,q⟩:=h
 cases ry
 rcases hq with hq|hq
 ·obtain ⟨its,r,pl,hz⟩:=I.list hq
  refine SeqAt.in_listAt (yW x) pl.isList (fun w hw=>m5 rx fx r fs w (by simpa using hw)) ⟨.bl _,H,I,rfl,?_⟩
  rw [show its.toArray.any (yW x)=its.any (yW x) by simp,oX r fs]
  exact q
 ·obtain ⟨its,r,pl,hz⟩:=I.tuple hq
  refine SeqAt.in_tupleAt (yW x) pl (fun w hw=>m5 rx fx r fs w (by simpa using hw)) ⟨.bl _,H,I,rfl,?_⟩
  rw [show its.toArray.any (yW x)=its.any (yW x) by simp,oX r fs]
  exact q
theorem aU:dG X (.builtin "len") (fun xs H Q=>∃ p ys,xs=[.ref p]/\(bM X.K H p ys∨bF X.K H p ys)/\Q (.int ys.length) H):=by
 intro Z s U H xs us Q I r h
 obtain ⟨p,ys,rfl,hq,q⟩:=h
 obtain ⟨u,rfl,rx⟩:=vals1 r
 cases rx
 have hn:=lg
 rcases hq with hq|hq
 ·obtain ⟨its,r',pl,hz⟩:=I.list hq
  have hlen:=r'.length
  exact Calls.call_len_list pl.isList (by simp only [List.size_toArray] <;> omega) ⟨.int ys.length,H,I.tok _,⟨s.toks+1,by rw [List.size_toArray,hlen]⟩,q⟩
 ·obtain ⟨its,r',pl,hz⟩:=I.tuple hq
  have hlen:=r'.length
  exact len_tuple pl (by simp only [List.size_toArray] <;> omega) ⟨.int ys.length,H,I.tok _,⟨s.toks+1,by rw [List.size_toArray,hlen]⟩,q⟩
theorem jg:dG X (.builtin "len") (fun xs H Q=>∃ z,xs=[.str z]/\z.length≤sizeLine/\Q (.int z.length) H):=by
 intro Z s U H xs us Q I r h
 obtain ⟨z,rfl,hz,q⟩:=h
 obtain ⟨u,rfl,t,rfl⟩:=vals1 r
 have hn:=lg
 exact len_str (by omega) ⟨.int z.length,H,I.tok _,⟨_,rfl⟩,q⟩
theorem oG:dG X (.type "list") (fun xs H Q=>∃ p ys,xs=[.ref p]/\(bM X.K H p ys∨bF X.K H p ys)/\∀ l,H l=none->Q (.ref l) (upd H l (.lst ys))):=by
 intro Z s U H xs us Q I r h
 obtain ⟨p,ys,rfl,hq,q⟩:=h
 obtain ⟨u,rfl,rx⟩:=vals1 r
 cases rx
 have fin:∀ (its:List Value),Vals ys its->ys.length≤sizeLine->∀ (h':Heap) (c':Nat),(∀ b o',s.heap.get? b=some o'->h'.get? b=some o')->
  h'.get? s.heap.objs.size=some { cls:=.type "list",dict:=none,data:=.seq its.toArray c',slots:=#[] }->EP X Z U Q (.ref s.heap.objs.size) { s with heap:=h' }:=fun its r' hz h' c' kp e=>
  ⟨.ref s.heap.objs.size,_,I.laid (t':=s.toks) kp (Nat.le_refl _) (show cg X.prog X.w _ h' _ (.lst ys) from ⟨hz,its,c',r',e⟩),rfl,q _ (I.hok.fresh (Nat.le_refl _))⟩
 rcases hq with hq|hq
 ·obtain ⟨its,r',pl,hz⟩:=I.list hq
  have hlen:=r'.length
  obtain ⟨o,ho,hc,n,hd⟩:=pl.isList
  exact call_list_seq p (.inl rfl) ho hc hd (fun h' c' kp e=>fin its r' hz h' c' kp e) (by simp only [List.size_toArray] <;> omega)
 ·obtain ⟨its,r',pl,hz⟩:=I.tuple hq
  have hlen:=r'.length
  obtain ⟨o,ho,hc,n,hd⟩:=pl
  exact call_list_seq p (.inr rfl) ho hc hd (fun h' c' kp e=>fin its r' hz h' c' kp e) (by simp only [List.size_toArray] <;> omega)
theorem gb:dG X (.type "tuple") (fun xs H Q=>∃ p ys,xs=[.ref p]/\((bM X.K H p ys/\∀ l,H l=none->Q (.ref l) (upd H l (.tup ys)))∨(bF X.K H p ys/\Q (.ref p) H))):=by
 intro Z s U H xs us Q I r h
 obtain ⟨p,ys,rfl,h⟩:=h
 obtain ⟨u,rfl,rx⟩:=vals1 r
 cases rx
 rcases h with ⟨hq,q⟩|⟨hq,q⟩
 ·obtain ⟨its,r',pl,hz⟩:=I.list hq
  have hlen:=r'.length
  refine call_tuple_list pl.isList (fun h' kp=>?_) (by simp only [List.size_toArray] <;> omega)
  have I1:Inv X Z U H { s with heap:=h' }:=I.kept (t':=s.toks) kp
  have I2:Inv X Z U (upd H h'.objs.size (.tup ys)) { s with heap:=h'.push { cls:=.type "tuple",data:=.seq its.toArray } }:=
   I1.laid (t':=s.toks) (fun b o e=>Heap.get?_push_of_some _ e) (Nat.le_refl _) (show cg X.prog X.w _ _ _ (.tup ys) from ⟨hz,its,r',IsTup.new _ _⟩)
  exact ⟨.ref h'.objs.size,_,I2,rfl,q _ (I1.hok.fresh (Nat.le_refl _))⟩
 ·obtain ⟨its,r',pl,hz⟩:=I.tuple hq
  exact call_tuple_same pl ⟨.ref p,H,I,rfl,q⟩
def MF (K:PySem.W.Frag) (T:String) (x:V) (H:Hp):Prop:=match x with
 |.str _=>T = "str"
 |.int _=>T = "int"
 |.ref p=>(T = "list"/\∃ xs,bM K H p xs)∨(T = "tuple"/\∃ o,K.lookup p=some o/\o.cls=.type "tuple"/\o.dict=none)∨
  (T = "dict"/\((∃ kvs,H p=some (.dK kvs))∨∃ kvs,H p=some (.dT kvs)))∨(T = "set"/\∃ S n,H p=some (.set S n))
 |_=>False
theorem yw {Z:List (Addr×Obj)} {U:St} {H:Hp} {s:Shared} {T:String} {x:V} {v:Value} (I:Inv X Z U H s) (r:RelV x v) (ty:MF X.K T x H) :
 s.TypeIs v T/\∀ a,v=.ref a->∃ ob,s.heap.get? a=some ob/\ob.dict=none:=by
 cases x with
 | str z=>
   obtain ⟨t,rfl⟩:=r
   cases (show T = "str" from ty)
   exact ⟨typeIs_str s z t,fun _ e=>nomatch e⟩
 | int i=>
   obtain ⟨t,rfl⟩:=r
   cases (show T = "int" from ty)
   exact ⟨typeIs_int s i t,fun _ e=>nomatch e⟩
 | ref p=>
   cases r
   rcases ty with ⟨rfl,xs,hq⟩|⟨rfl,o,hk,hc,hd⟩|⟨rfl,hk⟩|⟨rfl,S,n,hk⟩
   ·obtain ⟨its,_,pl,_⟩:=I.list hq
    refine ⟨pl.isList.typeIs,fun a e=>?_⟩
    cases e
    obtain ⟨o,n,e,c,hd,_⟩:=pl
    exact ⟨o,e,hd⟩
   ·refine ⟨⟨o,I.kIn p o hk,hc⟩,fun a e=>?_⟩
    cases e
    exact ⟨o,I.kIn _ o hk,hd⟩
   ·have z:∃ o,s.heap.get? p=some o/\o.ExactDict:=by
     rcases hk with ⟨kvs,hk⟩|⟨kvs,hk⟩
     ·obtain ⟨_,_,_,_,o,_,_,e,ex,_⟩:=I.hok p _ hk
      exact ⟨o,e,ex⟩
     ·obtain ⟨_,_,_,_,o,_,_,e,ex,_⟩:=I.hok p _ hk
      exact ⟨o,e,ex⟩
    obtain ⟨o,e,ex⟩:=z
    refine ⟨⟨o,e,ex.1⟩,fun a e2=>?_⟩
    cases e2
    exact ⟨o,e,ex.2.1⟩
   ·obtain ⟨o,_,_,_,e,ex,_⟩:=I.hok p _ hk
    refine ⟨⟨o,e,ex.1⟩,fun a e2=>?_⟩
    cases e2
    exact ⟨o,e,ex.2.1⟩
 |_=>exact False.elim ty
def O9 (K:PySem.W.Frag) (T:String) (r:V->List V->Hp->VK->Prop) (to:TE):TE:=fun U H Q=>to U H fun x H1=>MF K T x H1/\r x [] H1 Q
def Ro (K:PySem.W.Frag) (T:String) (r:V->List V->Hp->VK->Prop) (to:TE) (t:TA):TE:=fun U H Q=>to U H fun x H1=>MF K T x H1/\t U H1 fun xs H2=>r x xs H2 Q
variable {o e:Expr} {es:List Expr} {to:TE} {t:TA} {name:Str} {apos cpos:Pos} {T id:String} {r:V->List V->Hp->VK->Prop}
theorem sS (pa:PlainAttrs T) (slot:Slot T name id) (hty:typeOf (.builtin id)=pure (.type "method_descriptor")) (hm:Fo X id r) (ho:PE X o to)
 (hbase:attributeBase o name X.env (eval o X.env)=eval o X.env:=by rfl) (hline:(apos.endLine == cpos.line)=true:=by rfl):PE X (.Call (.Attribute o name apos) [] [] cpos) (O9 X.K T r to):=by
 intro Z s U H Q I h
 refine wpAny_Call_method0_late hbase hline (bU (ho Z s U H _ I h) fun v s1 ⟨x,H1,I1,r1,ty,q1⟩=>?_)
 obtain ⟨h1,h2⟩:=yw I1 r1 ty
 exact ⟨T,id,pa,slot,hty,h1,h2,Calls.callWith_builtin rfl (PySem.evalArgs_none (hm Z s1 U H1 x [] v [] Q I1 r1 .nil q1))⟩
theorem jm (pa:PlainAttrs T) (slot:Slot T name id) (hty:typeOf (.builtin id)=pure (.type "method_descriptor")) (hm:Fo X id r) (ho:PE X o to) (ha:PA X (e::es) t)
 (hbase:attributeBase o name X.env (eval o X.env)=eval o X.env:=by rfl)
 (hfew:((backTo cpos (starEach (e::es) X.env)).all (fun x=>!x.1) && (backToKw cpos (keywordEach [] X.env)).all (fun x=>x.1.isSome)
  && decide ((e::es).length+([]:List Keyword).length+(if ([]:List Keyword).isEmpty then 0 else 1)<30))=true:=by rfl)
 (hline:(apos.endLine == cpos.line)=true:=by rfl) (hs:starEach (e::es) X.env=(false,eval e X.env)::starEach es X.env:=by rfl) (hplain:(backTo cpos (starEach es X.env)).any (·.1)=false:=by rfl) :
 PE X (.Call (.Attribute o name apos) (e::es) [] cpos) (Ro X.K T r to t):=by
 intro Z s U H Q I h
 refine wpAny_Call_method_late hbase hfew hline rfl (bU (ho Z s U H _ I h) fun v s1 ⟨x,H1,I1,r1,ty,q1⟩=>?_)
 obtain ⟨h1,h2⟩:=yw I1 r1 ty
 refine ⟨T,id,pa,slot,hty,h1,h2,?_⟩
 have hA:=ha cpos Z s1 U H1 _ I1 q1
 rw [hs] at hA ⊢
 refine Calls.callWith_builtin (by show (false || (backTo cpos (starEach es X.env)).any (·.1))=false;rw [hplain] <;> rfl) (Calls.evalArgs_plain ?_)
 exact bU hA fun us s2 ⟨vs,H2,I2,r2,q2⟩=>hm Z s2 U H2 x vs v us Q I2 r1 r2 q2
end
def R7 (X:Cx) (id:String) (r:V->List V->Hp->VK->Prop):Prop:=
 ∀ (Z:List (Addr×Obj)) (s:Shared) (U:St) (H:Hp) (x:V) (xs:List V) (v:Value) (us:List Value) (Q:VK),Inv X Z U H s->RelV x v->Vals xs us->r x xs H Q->
   wpAny (model X.prog X.w) X.A (call (.builtin id) (v::us)) (EP X Z U Q) X.xe s
theorem Vals.one:∀ {x:V} {us:List Value},Vals [x] us->∃ u,us=[u]/\RelV x u
 |_,_,.cons r .nil=>⟨_,rfl,r⟩
section
variable {X:Cx} {Z:List (Addr×Obj)} {U:St} {H:Hp} {s:Shared} {l b:Addr} {xs ys zs:List V}
theorem Inv.lset {its its':List Value} {n:Nat} {f:Array Value->Array Value} {t':Nat} (I:Inv X Z U H s) (hH:H l=some (.lst xs))
 (e:s.heap.get? l=some { cls:=.type "list",data:=.seq its.toArray n }) (hf:f its.toArray=its'.toArray) (hv:Vals ys its') (hz:ys.length≤sizeLine) :
 Inv X Z U (upd H l (.lst ys)) { s with heap:=s.heap.update l (Obj.mapSeq f),toks:=t' }:=by
 have q:=PySem.IsL.update e f
 rw [hf] at q
 refine I.write (x:=l) (e:=l) (by rw [hH];exact trivial) (.inl rfl) (fun b' u hb hu=>(Heap.get?_update_other s.heap (Obj.mapSeq f) (Ne.symm hb)).trans hu) ⟨_,q⟩ ?_
 exact ⟨hz,its',_,hv,q⟩
theorem Inv.lnew {its:List Value} {t':Nat} (I:Inv X Z U H s) (hv:Vals ys its) (hz:ys.length≤sizeLine) :
 Inv X Z U (upd H s.heap.objs.size (.lst ys)) { s with heap:=s.heap.push { cls:=.type "list",data:=.seq its.toArray },toks:=t' }:=
 I.laid (fun _ _ q=>Heap.get?_push_of_some _ q) (Nat.le_refl _) ⟨hz,its,0,hv,Heap.get?_push_size _ rfl⟩
theorem Inv.fresh (I:Inv X Z U H s):H s.heap.objs.size=none:=I.hok.fresh (Nat.le_refl _)
theorem Inv.lstM (I:Inv X Z U H s) (hH:H l=some (.lst xs)):xs.length≤sizeLine/\∃ (its:List Value) (n:Nat),Vals xs its/\xs.length=its.length/\s.heap.get? l=some { cls:=.type "list",data:=.seq its.toArray n }:=by
 obtain ⟨z,its,n,r,e⟩:=I.hok l _ hH
 exact ⟨z,its,n,r,r.length,e⟩
theorem wz {n:Nat} (h:n≤sizeLine):Builtin.List.listTooLong n=false:=by
 unfold Builtin.List.listTooLong
 exact decide_eq_false (by omega)
end
section
variable {X:Cx}
def zK:V->List V->Hp->VK->Prop:=fun x vs H Q=>∃ l xs y,x=.ref l/\vs=[y]/\H l=some (.lst xs)/\xs.length<sizeLine/\Q .non (upd H l (.lst (xs++[y])))
theorem d_:R7 X "list.append" zK:=by
 intro Z s U H x vs v us Q I rx rv h
 obtain ⟨l,xs,y,rfl,rfl,hH,hz,q⟩:=h
 cases rx
 obtain ⟨u,rfl,ru⟩:=rv.one
 obtain ⟨z,its,n,r,hl,e⟩:=I.lstM hH
 refine call_meets F.slot_list_append ⟨_,e,rfl⟩ F.entry_list_append (F.args_list_append_2 _ _) (PySem.list_append l its.toArray n u (by rw [List.size_toArray];omega)) ⟨e,?_⟩
 refine ⟨.non,_,I.lset (its':=its++[u]) hH e (by simp) (r.append (.cons ru .nil)) ?_,rfl,q⟩
 rw [List.length_append,List.length_singleton]
 omega
def zF:V->List V->Hp->VK->Prop:=fun x vs H Q=>∃ l b xs zs,x=.ref l/\vs=[.ref b]/\H l=some (.lst xs)/\H b=some (.lst zs)/\xs.length+zs.length≤sizeLine/\Q .non (upd H l (.lst (xs++zs)))
theorem nA:R7 X "list.extend" zF:=by
 intro Z s U H x vs v us Q I rx rv h
 obtain ⟨l,b,xs,zs,rfl,rfl,hH,hB,hz,q⟩:=h
 cases rx
 obtain ⟨u,rfl,ru⟩:=rv.one
 cases ru
 obtain ⟨z,its,n,r,hl,e⟩:=I.lstM hH
 obtain ⟨z2,its2,n2,r2,hl2,e2⟩:=I.lstM hB
 have hsz:its.toArray.size+its2.toArray.size≤sizeLine:=by rw [List.size_toArray,List.size_toArray];omega
 have hlong:¬ (!its.toArray.isEmpty && Builtin.List.listTooLong (its.toArray.size+its2.toArray.size))=true:=by
  rw [wz hsz,Bool.and_false]
  exact Bool.false_ne_true
 refine call_meets F.slot_list_extend ⟨_,e,rfl⟩ F.entry_list_extend (F.args_list_extend_2 _ _)
  (AutoSeq1.list_extend_list_list_0 l its.toArray n b its2.toArray n2 hlong (by rw [List.size_toArray];omega) (by omega)) ⟨e,e2,?_⟩
 refine ⟨.non,_,I.lset (its':=its++its2) hH e (by simp) (r.append r2) ?_,rfl,q⟩
 rw [List.length_append]
 omega
def O_:R2:=fun x y H Q=>∃ l b xs zs,x=.ref l/\y=.ref b/\H l=some (.lst xs)/\H b=some (.lst zs)/\xs.length+zs.length≤sizeLine/\∀ p,H p=none->Q (.ref p) (upd H p (.lst (xs++zs)))
theorem qI:gR X (binaryOp .Add) O_:=by
 intro Z s U H x y v u Q I rx ry h
 obtain ⟨l,b,xs,zs,rfl,rfl,hH,hB,hz,q⟩:=h
 cases rx
 cases ry
 obtain ⟨z,its,n,r,hl,e⟩:=I.lstM hH
 obtain ⟨z2,its2,n2,r2,hl2,e2⟩:=I.lstM hB
 refine PySem.P.add_list e e2 ?_ (by rw [List.size_toArray,List.size_toArray];omega)
 have ea:its.toArray++its2.toArray=(its++its2).toArray:=by simp
 rw [ea]
 exact ⟨.ref _,_,I.lnew (t':=s.toks) (r.append r2) (by rw [List.length_append];omega),rfl,q _ I.fresh⟩
end
section
variable {prog:Program} {w:World} {A:Around} {E:Value->Shared->Prop} {s:Shared}
end
section
variable {X:Cx}
end
section
variable {κ:Type} [DecidableEq κ]
def kY (kvs:List (κ×V)) (k:κ):Option V:=(kvs.find? fun kv=>decide (kv.1=k)).map (·.2)
def putK (kvs:List (κ×V)) (k:κ) (v:V):List (κ×V):=
 if (kvs.any fun kv=>decide (kv.1=k))=true then kvs.map (fun kv=>if kv.1=k then (kv.1,v) else kv) else kvs++[(k,v)]
theorem lC {p:κ×V} {r:List (κ×V)} {k:κ} (e:p.1=k):kY (p::r) k=some p.2:=by simp [kY,List.find?_cons,e]
theorem mC {p:κ×V} {r:List (κ×V)} {k:κ} (e:¬ p.1=k):kY (p::r) k=kY r k:=by simp [kY,List.find?_cons,e]
theorem pN (k:κ):∀ kvs:List (κ×V),(kvs.any fun kv=>decide (kv.1=k))=(kY kvs k).isSome
 |[]=>rfl
 | p::r=>by
   rw [List.any_cons]
   by_cases e:p.1=k
   ·simp only [lC e,decide_eq_true e,Bool.true_or,Option.isSome_some]
   ·rw [mC e,decide_eq_false e,Bool.false_or];exact pN k r
theorem ir (kvs:List (κ×V)) (k:κ) (v:V):(putK kvs k v).length≤kvs.length+1:=by
 unfold putK
 split
 ·rw [List.length_map];omega
 ·rw [List.length_append,List.length_cons,List.length_nil];omega
theorem gO.isSome_eq {o:Option V} {u:Option Value} (r:gO o u):o.isSome=u.isSome:=by
 cases o with
 | none=>cases u with
   |none=>rfl
   |some _=>exact (show False from r).elim
 | some _=>cases u with
   |none=>exact (show False from r).elim
   |some _=>rfl
theorem KV.val {kvs:List (κ×V)} {vs:List (κ×Value)} (r:KV kvs vs) (k:κ):gO (kY kvs k) (valueAt vs k):=by
 unfold KV at r
 induction r with
 |nil=>exact True.intro
 | @cons p q ps qs h t ih=>
   obtain ⟨h1,h2⟩:=h
   by_cases e:p.1=k
   ·have e':q.1=k:=h1.symm.trans e
    have b:valueAt (q::qs) k=some q.2:=by simp [valueAt,List.find?_cons,e']
    rw [lC e,b];exact h2
   ·have e':¬ q.1=k:=fun z=>e (h1.trans z)
    have b:valueAt (q::qs) k=valueAt qs k:=by simp [valueAt,List.find?_cons,e']
    rw [mC e,b];exact ih
theorem KV.any {kvs:List (κ×V)} {vs:List (κ×Value)} (r:KV kvs vs) (k:κ):(kvs.any fun kv=>decide (kv.1=k))=vs.any fun kv=>decide (kv.1=k):=by
 unfold KV at r
 induction r with
 |nil=>rfl
 |cons h t ih=>rw [List.any_cons,List.any_cons,ih,h.1]
theorem KV.repl {kvs:List (κ×V)} {vs:List (κ×Value)} (r:KV kvs vs) (k:κ) {y:V} {u:Value} (ry:RelV y u) :
 KV (kvs.map fun kv=>if kv.1=k then (kv.1,y) else kv) (vs.map fun kv=>if kv.1=k then (kv.1,u) else kv):=by
 unfold KV at r ⊢
 induction r with
 |nil=>exact .nil
 | @cons p q ps qs h t ih=>
   rw [List.map_cons,List.map_cons]
   refine .cons ?_ ih
   obtain ⟨h1,h2⟩:=h
   by_cases e:p.1=k
   ·rw [if_pos e,if_pos (h1.symm.trans e)];exact ⟨h1,ry⟩
   ·rw [if_neg e,if_neg (fun z=>e (h1.trans z))];exact ⟨h1,h2⟩
theorem KV.put {kvs:List (κ×V)} {vs:List (κ×Value)} (r:KV kvs vs) (k:κ) {y:V} {u:Value} (ry:RelV y u):KV (putK kvs k y) (stored vs k u):=by
 unfold putK stored
 rw [r.any k]
 by_cases e:(vs.any fun kv=>decide (kv.1=k))=true
 ·rw [if_pos e,if_pos e];exact r.repl k ry
 ·rw [if_neg e,if_neg e];exact Paired.snoc r ⟨rfl,ry⟩
theorem KV.length {kvs:List (κ×V)} {vs:List (κ×Value)} (r:KV kvs vs):kvs.length=vs.length:=Paired.length r
end
theorem tU {P:Program} {w:World} {k:Key} {u:Value} (r:RelV (kV k) u):(cH P w).is k u=true:=by
 cases k with
 |inl i=>obtain ⟨t,e⟩:=(show ∃ t,u=Value.int i t from r);subst e;exact q9 P w i t
 |inr x=>obtain ⟨t,e⟩:=(show ∃ t,u=Value.str x t from r);subst e;exact qe P w x t
theorem m_ {P:Program} {w:World}:∀ {ks:List Key} {us:List Value},Vals (ks.map kV) us->ItemsAre (cH P w) ks us
 |[],_,r=>by rw [List.map_nil] at r;cases r;exact .nil
 | k::ks,_,r=>by
   rw [List.map_cons] at r
   cases r with
   |cons h t=>exact .cons (tU h) (m_ t)
abbrev KT (H:Hp):List (List Key×V)->List (List Key×Addr×Value)->Prop:=Paired fun p q=>p.1=q.1/\H q.2.1=some (.tup (p.1.map kV))/\RelV p.2 q.2.2
theorem KT.val {H:Hp} {kvs:List (List Key×V)} {xs:List (List Key×Addr×Value)} (r:KT H kvs xs) (k:List Key):gO (kY kvs k) ((atKey xs k).map (·.2)):=by
 induction r with
 |nil=>exact True.intro
 | @cons p q ps qs h t ih=>
   obtain ⟨h1,_,h2⟩:=h
   by_cases e:p.1=k
   ·have e':q.1=k:=h1.symm.trans e
    have b:atKey (q::qs) k=some q.2:=by simp [atKey,List.find?_cons,e']
    rw [lC e,b];exact h2
   ·have e':¬ q.1=k:=fun z=>e (h1.trans z)
    have b:atKey (q::qs) k=atKey qs k:=by simp [atKey,List.find?_cons,e']
    rw [mC e,b];exact ih
theorem KT.repl {H:Hp} {kvs:List (List Key×V)} {xs:List (List Key×Addr×Value)} (r:KT H kvs xs) (k:List Key) {y:V} {u:Value} (ry:RelV y u) :
 KT H (kvs.map fun kv=>if kv.1=k then (kv.1,y) else kv) (xs.map (putAt k u)):=by
 induction r with
 |nil=>exact .nil
 | @cons p q ps qs h t ih=>
   rw [List.map_cons,List.map_cons]
   refine .cons ?_ ih
   obtain ⟨h1,h2,h3⟩:=h
   unfold putAt
   by_cases e:p.1=k
   ·rw [if_pos e,if_pos (h1.symm.trans e)];exact ⟨h1,h2,ry⟩
   ·rw [if_neg e,if_neg (fun z=>e (h1.trans z))];exact ⟨h1,h2,h3⟩
theorem KT.put {H:Hp} {kvs:List (List Key×V)} {xs:List (List Key×Addr×Value)} (r:KT H kvs xs) (k:List Key) {b:Addr} {y:V} {u:Value} (hb:H b=some (.tup (k.map kV))) (ry:RelV y u) :
 KT H (putK kvs k y) (storedH xs k b u):=by
 have e:(kvs.any fun kv=>decide (kv.1=k))=(atKey xs k).isSome:=by
  rw [pN,(r.val k).isSome_eq,Option.isSome_map]
 unfold putK storedH
 rw [e]
 by_cases q:(atKey xs k).isSome=true
 ·rw [if_pos q,if_pos q];exact r.repl k ry
 ·rw [if_neg q,if_neg q];exact Paired.snoc r ⟨rfl,hb,ry⟩
theorem KT.keeps {H H':Hp} {kvs:List (List Key×V)} {xs:List (List Key×Addr×Value)} (r:KT H kvs xs) (ht:∀ b ys,H b=some (.tup ys)->H' b=some (.tup ys)):KT H' kvs xs:=
 Paired.mapP r fun _ _ z=>⟨z.1,ht _ _ z.2.1,z.2.2⟩
section
variable {P:Program} {w:World} {H:Hp} {h:Heap} {a:Addr}
theorem Aq {u:HO} (ok:iC P w H h) (e:Rd H a u):cg P w H h a u:=e.ok ok
theorem xX {kvs:List (Key×V)} (ok:iC P w H h) (e:Rd H a (.dK kvs)):kvs.length≤sizeLine/\(a == sysModules)=false/\∃ vs,KV kvs vs/\h.DictOf (cH P w) a vs:=
 show cg P w H h a (.dK kvs) from Aq ok e
theorem Ak {kvs:List (Key×V)} (ok:iC P w H h) (e:H a=some (.dK kvs)):kvs.length≤sizeLine/\(a == sysModules)=false/\∃ vs,KV kvs vs/\h.DictOf (cH P w) a vs:=xX ok (.inl e)
theorem qR {ks:List Key} (ok:iC P w H h) (e:H a=some (.tup (ks.map kV))):(tupleKind (cH P w)).is h ks a:=by
 obtain ⟨_,its,r,o,h1,h2,n,h3⟩:=(show cg P w H h a (.tup (ks.map kV)) from ok a _ e)
 exact ⟨o,its.toArray,n,h1,h2,h3,by simpa using m_ r⟩
theorem xM {kvs:List (List Key×V)} (ok:iC P w H h) (e:Rd H a (.dT kvs)):kvs.length≤sizeLine/\(a == sysModules)=false/\
 ∃ xs,KT H kvs xs/\h.DictOfH (tupleKind (cH P w)) a xs:=by
 obtain ⟨z,y,xs,r,o,es,ep,h1,h2,h3,h4,h5⟩:=(show cg P w H h a (.dT kvs) from Aq ok e)
 refine ⟨z,y,xs,r,o,es,ep,h1,h2,h3,h4,fun x hx=>?_,h5⟩
 have all:∀ {l:List (List Key×V)} {m:List (List Key×Addr×Value)},KT H l m->∀ x∈m,(tupleKind (cH P w)).is h x.1 x.2.1:=by
  intro l m q
  induction q with
  |nil=>intro x hx;exact nomatch hx
  | @cons p q ps qs hq t ih=>
    intro x hx
    rcases List.mem_cons.mp hx with e|hx
    ·subst e
     exact qR ok (by rw [← hq.1];exact hq.2.1)
    ·exact ih x hx
 exact all r x hx
theorem Gn {kvs:List (List Key×V)} (ok:iC P w H h) (e:H a=some (.dT kvs)):kvs.length≤sizeLine/\(a == sysModules)=false/\
 ∃ xs,KT H kvs xs/\h.DictOfH (tupleKind (cH P w)) a xs:=xM ok (.inl e)
end
def jN (H:Hp) (a:Addr) (y:V) (r:Option V):Prop:=
 (∃ kvs k,Rd H a (.dK kvs)/\y=kV k/\r=kY kvs k)∨∃ kvs k b,Rd H a (.dT kvs)/\y=.ref b/\H b=some (.tup (k.map kV))/\r=kY kvs k
def pB (H:Hp) (a:Addr) (y v:V) (H':Hp):Prop:=
 (∃ kvs k,H a=some (.dK kvs)/\y=kV k/\kvs.length<sizeLine/\H'=upd H a (.dK (putK kvs k v)))∨
 ∃ kvs k b,H a=some (.dT kvs)/\y=.ref b/\H b=some (.tup (k.map kV))/\kvs.length<sizeLine/\H'=upd H a (.dT (putK kvs k v))
theorem jN.k {H:Hp} {a:Addr} {kvs:List (Key×V)} {k:Key} (e:H a=some (.dK kvs)):jN H a (kV k) (kY kvs k):=.inl ⟨kvs,k,.inl e,rfl,rfl⟩
theorem pB.k {H:Hp} {a:Addr} {kvs:List (Key×V)} {k:Key} {v:V} (e:H a=some (.dK kvs)) (hl:kvs.length<sizeLine):pB H a (kV k) v (upd H a (.dK (putK kvs k v))):=.inl ⟨kvs,k,e,rfl,hl,rfl⟩
section
variable {X:Cx} {Z:List (Addr×Obj)} {U:St} {H:Hp} {s:Shared} {a:Addr} {y v:V} {u r:Value} {o:Option V} {A:Around} {E:Value->Shared->Prop}
theorem Inv.big (I:Inv X Z U H s):sysModules<s.heap.objs.size:=by
 have h:mainGlobals<s.heap.objs.size:=(I.mod.glob.keeps I.bk).lt
 exact Nat.lt_trans (by decide) h
theorem vp {Q:Value->Shared->Prop} (hu:A.units+1<cLine) (I:Inv X Z U H s) (g:jN H a y (some v)) (ry:RelV y u) (h:∀ w' s',Inv X Z U H s'->RelV v w'->Q w' s') :
 wpAny (model X.prog X.w) A (getItem (.ref a) u) Q E s:=by
 rcases g with ⟨kvs,k,e,ey,l⟩|⟨kvs,k,b,e,ey,eb,l⟩
 ·subst ey
  obtain ⟨z,hd,vs,rel,dd⟩:=xX I.hok e
  obtain ⟨w',hw,rw'⟩:=gO.some_of (v:=v) (o:=valueAt vs k) (by rw [l];exact rel.val k)
  exact wpAny_getItem_of (tU ry) dd.mapOf hw (h w' _ (I.tok _) rw')
 ·subst ey
  cases (show u=Value.ref b from ry)
  obtain ⟨z,hd,xs,rel,dd⟩:=xM I.hok e
  obtain ⟨w',hw,rw'⟩:=gO.some_of (v:=v) (o:=(atKey xs k).map (·.2)) (by rw [l];exact rel.val k)
  obtain ⟨p,hp,hp2⟩:=Option.map_eq_some_iff.mp hw
  refine wpAny_getItem_heap (tupleKind_room_in1 hu) (qR I.hok eb) dd hp ?_
  rw [hp2]
  exact h w' _ (I.tok _) rw'
theorem kE {h':Heap} {t':Nat} {ob:HO} (I:Inv X Z U H s) (mu:Ka (H a)) (hs:Heap.SameBut a s.heap h') (he:∃ q,h'.get? a=some q) (new:cg X.prog X.w (upd H a ob) h' a ob) :
 Inv X Z U (upd H a ob) { s with heap:=h',toks:=t' }:=
 I.write (x:=a) (e:=a) mu (.inl rfl) (fun b q hb z=>(hs.2 b hb).trans z) he new
theorem wu {P:Program} {w:World} {H':Hp} {h':Heap} {kvs:List (Key×V)} {vs:List (Key×Value)} (z:kvs.length≤sizeLine) (hd:(a == sysModules)=false) (rel:KV kvs vs) (dd:h'.DictOf (cH P w) a vs) :
 cg P w H' h' a (.dK kvs):=⟨z,hd,vs,rel,dd⟩
theorem vD {H':Hp} {Q:Unit->Shared->Prop} (hu:A.units+1<cLine) (I:Inv X Z U H s) (g:pB H a y v H') (ry:RelV y u) (rv:RelV v r) (h:∀ s',Inv X Z U H' s'->Q () s') :
 wpAny (model X.prog X.w) A (setItem (.ref a) u r) Q E s:=by
 rcases g with ⟨kvs,k,e,ey,l,eH⟩|⟨kvs,k,b,e,ey,eb,l,eH⟩
 ·subst ey eH
  obtain ⟨z,hd,vs,rel,dd⟩:=Ak I.hok e
  have hz:vs.length≤sizeLine:=by rw [← rel.length];exact z
  have hl:(putK kvs k v).length≤sizeLine:=by have:=ir kvs k v;omega
  refine wpAny_setItem_pairs (hsz:=hz) (tU ry) dd fun h' dd' hs=>h _ ?_
  have he:∃ q,h'.get? a=some q:=let ⟨q,_,_,hq,_⟩:=dd';⟨q,hq⟩
  exact kE I (by rw [e];exact True.intro) hs he (wu hl hd (rel.put k rv) dd')
 ·subst ey eH
  cases (show u=Value.ref b from ry)
  obtain ⟨z,hd,xs,rel,dd⟩:=Gn I.hok e
  have hz:xs.length≤sizeLine:=by rw [← Paired.length rel];exact z
  have hl:(putK kvs k v).length≤sizeLine:=by have:=ir kvs k v;omega
  refine wpAny_setItem_heap (hsz:=hz) (tupleKind_room_in1 hu) (qR I.hok eb) dd fun h' dd' hs=>h _ ?_
  obtain ⟨q,es,ep,hq,h2,h3,h4,_,h5⟩:=dd'
  refine kE I (by rw [e];exact True.intro) hs ⟨q,hq⟩ ⟨hl,hd,_,(rel.put k eb rv).keeps fun c ys ec=>?_,q,es,ep,hq,h2,h3,h4,h5⟩
  rw [aF (gn ec e (fun z=>nomatch z))]
  exact ec
end
section
variable {X:Cx} {Z:List (Addr×Obj)} {U:St} {H:Hp} {s:Shared} {a:Addr} {kvs:List (Key×V)} {k:Key} {u:Value} {A:Around} {E:Value->Shared->Prop}
end
def Jj (i:Expr):Prop:=∀ ov iv,subscripted i false ov iv=operate [ov,iv] (getItem ov iv)
theorem zP {prog:Program} {w:World} {A:Around} {E:Value->Shared->Prop} {s:Shared} {env:Env} {value slice:Expr} {pos:Pos} {T id:String} {Q:Value->Shared->Prop}
 (hl:typeLookup (.type T) "__getitem__" = pure (some (.builtin id))) (hs:Jj slice)
 (h:wpAny (model prog w) A (eval value env) (fun o s₁=>wpAny (model prog w) A (eval slice env) (fun i s₂=>s₂.TypeIs o T/\wpAny (model prog w) A (getItem o i) Q E s₂) E s₁) E s) :
 wpAny (model prog w) A (eval (.Subscript value slice pos) env) Q E s:=by
 refine Subscript_ (wpAny_mono h (fun o s₁ h₁=>wpAny_mono h₁ (fun i s₂ h₂=>?_) fun _ _ x=>x) fun _ _ x=>x)
 obtain ⟨hT,h₂⟩:=h₂
 unfold subscriptTail
 refine wpAny_bind ?_
 rw [getitemInPython_of_ne hT.not_modules]
 refine wpAny_bind (wpAny_specialOf hT hl ?_)
 have fin:wpAny (model prog w) A (subscripted slice false o i) (fun r s₃=>wpAny (model prog w) A (letTemporaryGo value o r >>= fun _=>pure r) Q E s₃) E s₂:=by
  rw [hs o i]
  exact wpAny_operating (wpAny_mono h₂ (fun r s₃ h₃=>wpAny_bind (wpAny_letTemporaryGo (wpAny_pure h₃))) fun _ _ x=>x)
 first
  |exact wpAny_pure (wpAny_bind fin)
  |exact wpAny_bind (wpAny_pure (wpAny_bind fin))
  |exact wpAny_bind fin
theorem qd {X:Cx} {Z:List (Addr×Obj)} {U:St} {H:Hp} {s:Shared} {a:Addr} {y:V} {o:Option V} (I:Inv X Z U H s) (g:jN H a y o):s.TypeIs (.ref a) "dict":=by
 rcases g with ⟨kvs,k,e,_,_⟩|⟨kvs,k,b,e,_,_,_⟩
 ·obtain ⟨_,_,vs,_,dd⟩:=xX I.hok e
  exact dd.typeIs
 ·obtain ⟨_,_,xs,_,dd⟩:=xM I.hok e
  exact dd.typeIs
def Hd (td ty:TE):TE:=fun U H Q=>td U H fun x H1=>ty U H1 fun y H2=>∃ a v,x=.ref a/\jN H2 a y (some v)/\Q v H2
def Fv (td ty tv:TE):TS:=fun D U H=>tv U H fun v H1=>td U H1 fun x H2=>ty U H2 fun y H3=>∃ a H4,x=.ref a/\pB H3 a y v H4/\D.nx U H4
section
variable {X:Cx} {o i e value:Expr} {pos pos' tpos:Pos} {td ty tv:TE}
theorem cJ (hu:X.A.units+1<cLine) (ho:PE X o td) (hi:PE X i ty) (hs:Jj i):PE X (.Subscript o i pos) (Hd td ty):=by
 intro Z s U H Q I h
 refine zP PySem.F.slot_dict_getitem.lookup hs (bU (ho Z s U H _ I h) fun u s1 ⟨x,H1,I1,rx,q1⟩=>bU (hi Z s1 U H1 _ I1 q1) fun iv s2 ⟨y,H2,I2,ry,a,v,ex,g,q2⟩=>?_)
 subst ex
 obtain rfl:u=Value.ref a:=rx
 exact ⟨qd I2 g,vp hu I2 g ry fun w' s3 I3 rw'=>⟨v,H2,I3,rw',q2⟩⟩
theorem jf (hu:X.A.units+1<cLine) (ho:PE X o td) (hi:PE X i ty) (hv:PE X value tv) (hs:swapsWith value (some (.Subscript o i pos')) pos.line X.env=pure false) :
 PS X (.Assign [.Subscript o i pos'] value pos) (Fv td ty tv):=by
 intro Z s U H D I h
 refine wpAny_Assign_Subscript (bU (hv Z s U H _ I h) fun r s1 ⟨v,H1,I1,rv,q1⟩=>bU (ho Z s1 U H1 _ I1 q1) fun u s2 ⟨x,H2,I2,rx,q2⟩=>bU (hi Z s2 U H2 _ I2 q2) fun iv s3 ⟨y,H3,I3,ry,a,H4,ex,g,q3⟩=>?_) hs
 subst ex
 obtain rfl:u=Value.ref a:=rx
 exact vD hu I3 g ry rv fun s4 I4=>⟨U,H4,I4,q3⟩
end
theorem xP {P:Program} {w:World} {H:Hp} (h:Heap) (hb:sysModules<h.objs.size):cg P w H (h.push { cls:=.type "dict",data:=.dict #[] }) h.objs.size (.dK []):=
 ⟨Nat.zero_le _,beq_eq_false_iff_ne.mpr (Ne.symm (Nat.ne_of_lt hb)),[],.nil,Heap.DictOf.new h⟩
section
variable {X:Cx} {pos:Pos}
end
def sX:List (TE×TE)->St->Hp->(List (V×V)->Hp->Prop)->Prop
 |[],_,H,Q=>Q [] H
 |(tk,tv)::r,U,H,Q=>tk U H fun x H1=>tv U H1 fun y H2=>sX r U H2 fun ps H3=>Q ((x,y)::ps) H3
abbrev VV:List (V×V)->List (Value×Value)->Prop:=Paired fun p q=>RelV p.1 q.1/\RelV p.2 q.2
def Mw (X:Cx) (pos:Pos) (keys:List (Option Expr)) (values:List Expr) (trs:List (TE×TE)):Prop:=
 ∀ (Z:List (Addr×Obj)) (s:Shared) (U:St) (H:Hp) (Q:List (V×V)->Hp->Prop),Inv X Z U H s->sX trs U H Q->
   wpAny (model X.prog X.w) X.A (evalPairs (pairTrees keys values X.env pos)) (fun vs s'=>∃ ps H',Inv X Z U H' s'/\VV ps vs/\Q ps H') X.xe s
theorem zM {X:Cx} {pos:Pos}:Mw X pos [] [] []:=fun Z s U H Q I h=>pairTrees_nil_walk ⟨[],H,I,.nil,h⟩
theorem jj {X:Cx} {pos:Pos} {k v:Expr} {ks:List (Option Expr)} {vs:List Expr} {tk tv:TE} {trs:List (TE×TE)} (hk:PE X k tk) (hv:PE X v tv) (hr:Mw X pos ks vs trs) :
 Mw X pos (some k::ks) (v::vs) ((tk,tv)::trs):=fun Z s U H Q I h=>
 pairTrees_cons_walk (bU (hk Z s U H _ I h) fun u s1 ⟨x,H1,I1,rx,q1⟩=>bU (hv Z s1 U H1 _ I1 q1) fun w2 s2 ⟨y,H2,I2,ry,q2⟩=>
  bU (hr Z s2 U H2 _ I2 q2) fun ws s3 ⟨ps,H3,I3,rel,q3⟩=>⟨(x,y)::ps,H3,I3,.cons ⟨rx,ry⟩ rel,q3⟩)
def lJ (kvs more:List (Key×V)):List (Key×V):=more.foldl (fun acc kv=>putK acc kv.1 kv.2) kvs
theorem KV.merge:∀ {more:List (Key×V)} {rs:List (Key×Value)} {kvs:List (Key×V)} {vs:List (Key×Value)},KV more rs->KV kvs vs->KV (lJ kvs more) (merged vs rs):=by
 intro more rs kvs vs r
 unfold KV at r
 induction r generalizing kvs vs with
 |nil=>intro q;exact q
 | @cons p q ps qs h t ih=>
   intro r0
   have e:KV (putK kvs p.1 p.2) (stored vs q.1 q.2):=by
    have:=r0.put p.1 h.2
    rw [← h.1];exact this
   exact ih e
theorem iV:∀ (more kvs:List (Key×V)),(lJ kvs more).length≤kvs.length+more.length
 |[],kvs=>by show kvs.length≤kvs.length+0;omega
 | p::r,kvs=>by
   have h1:=iV r (putK kvs p.1 p.2)
   have h2:=ir kvs p.1 p.2
   show (lJ (putK kvs p.1 p.2) r).length≤_
   rw [List.length_cons];omega
theorem m9 {P:Program} {w:World}:∀ {kvs:List (Key×V)} {ws:List (Value×Value)},VV (kvs.map fun kv=>(kV kv.1,kv.2)) ws->∃ rs,Carries (cH P w) ws rs/\KV kvs rs
 |[],_,r=>by rw [List.map_nil] at r;cases r;exact ⟨[],True.intro,.nil⟩
 | p::kvs,_,r=>by
   rw [List.map_cons] at r
   cases r with
   | @cons a b as bs h t=>
     obtain ⟨rs,c,q⟩:=m9 (P:=P) (w:=w) t
     obtain ⟨b1,b2⟩:=b
     exact ⟨(p.1,b2)::rs,⟨tU h.1,rfl,c⟩,.cons ⟨rfl,h.2⟩ q⟩
def Hu (trs:List (TE×TE)):TE:=fun U H Q=>∀ p,H p=none->sX trs U (upd H p (.dK [])) fun ps H2=>H2 p=some (.dK [])/\∃ kvs:List (Key×V),ps=kvs.map (fun kv=>(kV kv.1,kv.2))/\kvs.length≤15/\Q (.ref p) (upd H2 p (.dK (lJ [] kvs)))
theorem zH {X:Cx} {pos:Pos} {keys:List (Option Expr)} {values:List Expr} {trs:List (TE×TE)} (h:Mw X pos keys values trs) (hall:keys.all (·.isSome)=true) (hl:keys.length=values.length) (h0:keys≠[])
 (h15:keys.length≤15):PE X (.Dict keys values pos) (Hu trs):=by
 intro Z s U H Q I q
 have hn:=I.hok.fresh (Nat.le_refl s.heap.objs.size)
 have I1:=I.laid (a:=s.heap.objs.size) (o:=.dK []) (h':=s.heap.push { cls:=.type "dict",data:=.dict #[] }) (t':=s.toks) (fun _ _ q=>Heap.get?_push_of_some _ q) (Nat.le_refl _) (xP s.heap I.big)
 refine wpAny_Dict_walk (knd:=cH X.prog X.w) hall hl h0 h15 (bU (h Z _ U _ _ I1 (q _ hn)) fun ws s2 ⟨ps,H2,I2,rel,e,kvs,ep,lk,q2⟩=>?_)
 subst ep
 obtain ⟨rs,c,rk⟩:=m9 (P:=X.prog) (w:=X.w) rel
 obtain ⟨z,hd,vs0,r0,dd⟩:=Ak I2.hok e
 cases r0
 refine ⟨rs,c,dd,fun h' dd' hs=>⟨.ref s.heap.objs.size,_,?_,rfl,q2⟩⟩
 have hz:(lJ [] kvs).length≤sizeLine:=by
  have h1:=iV kvs []
  rw [List.length_nil] at h1
  rw [sizeLine_eq];omega
 have he:∃ q,h'.get? s.heap.objs.size=some q:=let ⟨q,_,_,hq,_⟩:=dd';⟨q,hq⟩
 exact kE I2 (by rw [e];exact True.intro) hs he (wu hz hd (rk.merge .nil) dd')
structure M1 (X:Cx) (o:Expr) (m:Str) (apos:Pos) (e:Expr) (cpos:Pos):Prop where
 base:attributeBase o m X.env (eval o X.env)=eval o X.env
 few:((backTo cpos (starEach [e] X.env)).all (fun x=>!x.1) && (backToKw cpos (keywordEach [] X.env)).all (fun x=>x.1.isSome)
  && decide (([e]:List Expr).length+([]:List Keyword).length+(if ([]:List Keyword).isEmpty then 0 else 1)<30))=true
 line:(apos.endLine == cpos.line)=true
 trees:backTo cpos (starEach [e] X.env)=[(false,eval e X.env)]
section
variable {X:Cx} {Z:List (Addr×Obj)} {U:St} {H:Hp} {s:Shared} {a:Addr} {y d:V} {u r:Value} {o:Option V} {A:Around} {E:Value->Shared->Prop}
end
section
variable {X:Cx} {o e f:Expr} {apos cpos:Pos} {td ty tx:TE}
end
section
variable {X:Cx} {Z:List (Addr×Obj)} {U:St} {H:Hp} {s:Shared} {a:Addr} {kvs:List (Key×V)} {A:Around} {E:Value->Shared->Prop}
end
section
variable {X:Cx} {Z:List (Addr×Obj)} {U:St} {H:Hp} {s:Shared} {a:Addr} {y:V} {u:Value} {A:Around} {E:Value->Shared->Prop}
end
end L2
namespace Att
open PySem PySem.W PySem.Calls PyProof.Rows
theorem km {P:Params} {h:Heap}:∀ (ns:List Int) (vs:List Value),WellAll P h vs (ns.map WData.int)->IntsAre vs ns:=by
 intro ns
 induction ns with
 | nil=>
   intro vs w
   rw [List.map_nil] at w
   cases w
   exact .nil
 | cons n ns ih=>
   intro vs w
   rw [List.map_cons] at w
   cases w with
   | cons a b=>
     cases a
     exact .cons _ _ (ih _ b)
theorem vm {l:OpenLaw} {n:Nat} (hn:l.most=some n) {P:Params} {h:Heap} {args:List WData} {vals:List Value}
 (hpre:l.row.toRowW.claim.pre args=true) (hwl:WellAll P h vals args) :
 ∃ a vs ns,vals=[Value.ref a]/\args=[WData.list (ns.map WData.int)]/\h.get? a=some { cls:=.type "list",data:=.seq vs.toArray }/\IntsAre vs ns/\ns.length≤n:=by
 have hsh:WShape.hasAll [] args [.list .int]=true:=(pre_splitW hpre).1
 have hc:l.pre.holds [] { args:=args }=true:=(pre_splitW hpre).2
 obtain ⟨d,r,rfl,h1,h2⟩:=hasAllW_cons hsh
 obtain rfl:=hasAllW_nil h2
 obtain ⟨xs,rfl,h3⟩:=hasW_list h1
 obtain ⟨ns,rfl⟩:=items_int h3
 have hlen:ns.length≤n:=by
  unfold OpenLaw.pre at hc
  have h4:(WTm.not (.lt (.lit (.int (n:Int))) (.len (.arg 0)))).holds [] { args:=[.list (ns.map .int)] }=true:=by
   have h4:=(holds_andW hc).1
   rw [hn] at h4
   exact h4
  have h5:=condW_of h4 (w_not (w_lt w_lit (w_len_list (w_arg rfl))))
  rw [List.length_map] at h5
  refine Nat.le_of_not_lt fun q=>?_
  have q':(n:Int)<((ns.length:Nat):Int):=by omega
  first
   |(rw [decide_eq_true q'] at h5;exact absurd h5 (by decide))
   |(simp at h5;omega)
 cases hwl with
 | cons w1 w2=>
   cases w2
   cases w1 with
   |list ho hall=>exact ⟨_,_,ns,rfl,rfl,ho,km ns _ hall,hlen⟩
theorem vW (l:OpenLaw) (args:List WData):l.row.toRowW.claim.post args (.bool true) args=true:=
 postW_of (r:=l.row.toRowW) (X:=(true == true))
  (show WShape.has [] (.bool true) .bool=true by first|rfl|decide|simp [WShape.has,WShape.arms,WShape.armsAll])
  (show (WTm.eq .res (.lit (.bool true))).value [] { args:=args,res:=some (.bool true),after:=args }=some (.bool (true == true)) from w_eq_bool (w_res rfl) w_lit) rfl
theorem pW {l:OpenLaw} {n:Nat} {q:Program} {loose:List Str} {XP:(Str->Option Value)->Heap->Prop} {YP:World->Heap->Prop} {d:DefRec}
 (hn:l.most=some n) (hdf:d.params.defaults=[])
 (call:∀ (w:World) (s₀ s₁:Shared) (mg mb:Str->Option Value) (fa:Addr) (o:Obj) (pm cd doc:Value) (a:Addr) (vs:List Value) (ns:List Int),
  Ground q loose [] XP w s₀ mg mb s₁.heap->YP w s₁.heap->
  s₁.heap.get? fa=some o->o.data=.func (docDef d.name d.params d.body d.scope pm cd doc)->s₁.heap.CodeRec cd d.name->mg d.name=some (.ref fa)->
  s₁.heap.get? a=some { cls:=.type "list",data:=.seq vs.toArray }->IntsAre vs ns->ns.length≤n->s₁.gens=#[]->
  codeAny (model l.prog w) callerA (.call (.ref fa) ⟨[.ref a],[]⟩) (fun r s'=>r=.ok (.ret (.bool true))/\OldK s₁.heap s'.heap/\s'.os=s₁.os/\AllBare s'.gens) s₁) :
 WalkO q loose XP YP l.row.toRowW d [] (fun f vs=>PySem.call f vs):=by
 intro w s₀ s₁ mg mb G Y fa o pm cd doc dV kV ho hd hcd hD hmg hg args vals as hpre hlay hrd hwl hlo
 obtain rfl:dV=.none:=Dflts.none hD hdf
 obtain rfl:kV=.none:=Dflts.noKw hD
 obtain ⟨a,vs,ns,rfl,rfl,hobj,hints,hlen⟩:=vm hn hpre hwl
 refine enter_call (codeAny_mono (call w s₀ s₁ mg mb fa o pm cd doc a vs ns G Y ho (fd_plain hd) hcd hmg hobj hints hlen hg) fun r s' hq=>?_)
 obtain ⟨rfl,h2,h3,h4⟩:=hq
 exact ⟨.inl ⟨.bool true,.bool true,[],rfl,fun _=>rfl,.bool true,vW l _,fun _=>⟨List.Pairwise.nil,fun _ hm=>(nomatch hm)⟩⟩,h2,h3,h4⟩
section
variable {prog:Program} {w:World} {A:Around} {E:Value->Shared->Prop} {s:Shared} {K:Frag}
end
end Att
namespace L2
open PySem PySem.Spec PyProof.Rows
theorem mZ:∀ {vs:List Value} {ns:List Int},IntsAre vs ns->Vals (ns.map V.int) vs
 |_,_,.nil=>.nil
 |_,_,.cons n t h=>.cons ⟨t,rfl⟩ (mZ h)
def Only (H:Hp):Prop:=∀ b,H b=none∨∃ o xs,H b=some (.frz o (.lst xs))
theorem wL {P:Program} {w:World} {K:PySem.W.Frag} {mg mb:Str->Option Value} {CX:mU} {k:Nat} {fa a:Addr} {fd:FuncData} {x:Str} {sp:Sp} {s₁:Shared} {vs:List Value} {ns:List Int}
 (KX:K.In s₁.heap) (hns:s₁.heap.Ns mainGlobals mg) (hb:s₁.heap.Ns builtinsNs mb) (hbb:∀ x:Str,x ≠ "__name__"->mb x=bootBuiltins x) (hlim:s₁.heap.NoLimit) (hg:s₁.gens=#[])
 (ha:s₁.heap.get? a=some { cls:=.type "list",data:=.seq vs.toArray }) (hi:IntsAre vs ns) (hl:ns.length≤sizeLine) (hr:bH k callerA)
 (F:∀ base:Heap,K.In base->base.Ns mainGlobals mg->aN P w K mg base CX k fa fd [x] sp) (hbind:∀ (s:Shared) (u:Value),BindsTo s fd ⟨[u],[]⟩ [(x,u)])
 (hsp:∀ H:Hp,Only H->bM K H a (ns.map V.int)->sp [.ref a] H (fun v _=>v=.bl true) fun _ _ _=>False)
 (hCX:∀ H e s',CX [] H s₁ (fun _ _ _=>False) e s'->False) :
 codeAny (model P w) callerA (.call (.ref fa) ⟨[.ref a],[]⟩) (fun r s'=>r=.ok (.ret (.bool true))/\OldK s₁.heap s'.heap/\s'.os=s₁.os/\AllBare s'.gens) s₁:=by
 have rv:=mZ hi
 have lenV:=hi.length
 have core:∀ H:Hp,Only H->bM K H a (ns.map V.int)->iC P w H s₁.heap->(∀ b,H b≠none->b=a)->(H a≠none->K.lookup a=none)->
  codeAny (model P w) callerA (.call (.ref fa) ⟨[.ref a],[]⟩) (fun r s'=>r=.ok (.ret (.bool true))/\OldK s₁.heap s'.heap/\s'.os=s₁.os/\AllBare s'.gens) s₁:=by
  intro H hO hS hok hA hK
  have base_of:∀ {b:Addr} {o:Obj},s₁.heap.get? b=some o->H b=none->(oH s₁.heap H).get? b=some o:=fun e n=>wN e n
  have noA:∀ {b:Addr} {o:Obj} {es:Array DictEntry} {ep:Nat},s₁.heap.get? b=some o->o.data=.dict es ep->H b=none:=fun {b o es ep} e d=>by
   cases q:H b with
   |none=>rfl
   | some u=>
     have e':b=a:=hA b (by rw [q];simp)
     subst e'
     rw [ha] at e;cases e
     have d':Data.seq vs.toArray _=Data.dict es ep:=d
     cases d'
  have nsK:∀ {b:Addr} {m:Str->Option Value},s₁.heap.Ns b m->(oH s₁.heap H).Ns b m:=fun {b m} ⟨o,es,ep,e,d,r⟩=>⟨o,es,ep,base_of e (noA e d),d,r⟩
  have hKb:K.In (oH s₁.heap H):=fun b o e=>base_of (KX b o e) (by
   cases q:H b with
   |none=>rfl
   | some u=>
     have e':b=a:=hA b (by rw [q];simp)
     subst e'
     rw [hK (by rw [q];simp)] at e;cases e)
  have hM:Mod K mg (oH s₁.heap H):=⟨hKb,nsK hns,⟨mb,nsK hb,hbb⟩,let ⟨mc,h1,h2⟩:=hlim;⟨mc,nsK h1,h2⟩⟩
  have e0:qN P w K mg (oH s₁.heap H) callerA [] s₁ H:=⟨rfl,hM,fun b o e=>zT e,Nat.le_of_eq (vV _ _),trivial,fun b hb=>absurd (show b∈([]:List Addr) from hb) (by simp),hok,.of_eq hg⟩
  refine codeAny_mono ((F _ hKb (nsK hns)).run callerA [] s₁ H ⟨[.ref a],[]⟩ [.ref a] [.ref a] _ _ hr e0 (hbind s₁ (.ref a)) (.cons rfl .nil) (hsp H hO hS)) fun r s' h=>?_
  cases r with
  |error e=>exact (hCX H e s' h).elim
  | ok fl=>
    cases fl with
    |next=>exact False.elim h
    |brk=>exact False.elim h
    |cont=>exact False.elim h
    | ret u=>
      obtain ⟨v,H',os,bare,un,hok',r',q⟩:=h
      have q':v=.bl true:=q
      subst q'
      obtain rfl:u=Value.bool true:=r'
      refine ⟨rfl,OldK.of_keep fun b o e=>?_,os,bare⟩
      cases q:H b with
      |none=>exact un.keep b o e q (by intro z;exact absurd (show b∈([]:List Addr) from z) (by simp)) (by simp)
      | some u=>
        rcases hO b with z|⟨ob,xs,z⟩
        ·rw [q] at z;cases z
        ·have z2:=un.frzs b ob _ z
         obtain ⟨e1,_⟩:=hok b _ z
         obtain ⟨e2,_⟩:=hok' b _ z2
         rw [e] at e1;cases e1
         exact e2
 cases hk:K.lookup a with
 | some o=>
   have e:=KX a o hk
   rw [ha] at e
   cases e
   refine core (fun _=>none) (fun _=>.inl rfl) (.inr ⟨_,vs.toArray,_,hk,rfl,rfl,rfl,by rw [List.size_toArray,lenV];exact hl,by simpa using rv⟩) (fun b u z=>by have z':(none:Option HO)=some u:=z;cases z') (fun b z=>absurd rfl z) fun z=>absurd rfl z
 | none=>
   refine core (fun b=>if b=a then some (.frz { cls:=.type "list",data:=.seq vs.toArray } (.lst (ns.map V.int))) else none) (fun b=>?_) (.inl (.inr ⟨{ cls:=.type "list",data:=.seq vs.toArray },if_pos rfl⟩)) (fun b u z=>?_) (fun b z=>?_) fun _=>hk
   ·by_cases hb:b=a
    ·exact .inr ⟨_,_,if_pos hb⟩
    ·exact .inl (if_neg hb)
   ·by_cases hb:b=a
    ·have z':=(if_pos hb).symm.trans z
     cases z'
     subst hb
     exact ⟨ha,by rw [List.length_map];exact hl,vs,_,rv,ha⟩
    ·have z':=(if_neg hb).symm.trans z
     cases z'
   ·by_cases hb:b=a
    ·exact hb
    ·exact absurd (if_neg hb) z
theorem zp {l:PySem.W.OpenLaw} {n k:Nat} {q:Program} {loose:List Str} {XP:(Str->Option Value)->Heap->Prop} {YP:World->Heap->Prop} {d:DefRec} {K:Params->PySem.W.Frag} {CX:World->mU} {sp:World->Sp} {x:Str}
 (hn:l.most=some n) (hn2:n≤sizeLine) (hdf:d.params.defaults=[]) (hr:bH k callerA)
 (hY:∀ (w:World) (h:Heap),YP w h->(K w.params).In h)
 (F:∀ (w:World) (mg:Str->Option Value) (fa:Addr) (h:Heap),(K w.params).In h->h.Ns mainGlobals mg->mg d.name=some (.ref fa)->
  ∃ fd:FuncData,(∀ (s:Shared) (u:Value),BindsTo s fd ⟨[u],[]⟩ [(x,u)])/\
    ∀ base:Heap,(K w.params).In base->base.Ns mainGlobals mg->aN l.prog w (K w.params) mg base (CX w) k fa fd [x] (sp w))
 (hsp:∀ (w:World) (H:Hp) (a:Addr) (ns:List Int),ns.length≤n->Only H->bM (K w.params) H a (ns.map V.int)->sp w [.ref a] H (fun v _=>v=.bl true) fun _ _ _=>False)
 (hCX:∀ (w:World) (H:Hp) (s:Shared) (e:Value) (s':Shared),CX w [] H s (fun _ _ _=>False) e s'->False) :
 PySem.W.WalkO q loose XP YP l.row.toRowW d [] (fun f vs=>PySem.call f vs):=by
 refine Att.pW hn hdf fun w s₀ s₁ mg mb fa o pm cd doc a vs ns G Y ho hd hcd hmg hobj hints hlen hg=>?_
 have KX:=hY w _ Y
 obtain ⟨fd,hb,hF⟩:=F w mg fa _ KX G.T.g hmg
 exact wL KX G.T.g G.T.b G.T.builtins G.T.nolimit hg hobj hints (Nat.le_trans hlen hn2) hr hF hb (fun H hO hS=>hsp w H a ns hlen hO hS) fun H e s'=>hCX w H s₁ e s'
def inClass (s:Stmt) (j:Nat):Stmt:=match s with
 |.ClassDef _ _ _ body _ _ _ _ _ _ _=>body.getD j (.Pass ⟨0,0,0,0⟩)
 |_=>.Pass ⟨0,0,0,0⟩
def cj (s:Stmt):Arguments:=match s with
 |.FunctionDef _ a _ _ _ _ _ _ _ _=>a
 |_=>{ posonlyargs:=[],args:=[],vararg:=none,kwonlyargs:=[],kw_defaults:=[],kwarg:=none,defaults:=[] }
def bN (s:Stmt):List Stmt:=match s with
 |.FunctionDef _ _ b _ _ _ _ _ _ _=>b
 |_=>[]
def aA (s:Stmt):Scope:=match s with
 |.FunctionDef _ _ _ _ _ _ sc _ _ _=>sc
 |_=>{ kind:=.function,names:=[],isGenerator:=false,isCoroutine:=false }
abbrev bL:mU:=fun _ _ _ _ _ _=>False
abbrev E0:XK:=fun _ _ _=>False
theorem aL {X:Cx}:fu bL X E0:=fun _ _ _ _ _ _ _ h=>h.elim
structure fX (K:PySem.W.Frag) (x qual:Str) (st:Stmt) (f:Addr) (fd:FuncData):Prop where
 ex:∃ (oc:Value) (od:Option Addr) (kV doc pm:Value) (an:Option Addr) (cdv ct:Value) (osl:Array (Option Value)),
  fd=PySem.W.fnOf x qual (cj st) (bN st) (aA st) .none kV doc pm an cdv ct/\K.lookup f=some ⟨oc,od,.func fd,osl⟩/\PySem.W.codeIn K cdv qual=true
 kp:PySem.W.keepIn K (.ref f)=true
section
variable {P:Program} {w:World} {K:PySem.W.Frag} {mg:Str->Option Value} {base:Heap}
theorem fX.ok {x qual:Str} {st:Stmt} {f:Addr} {fd:FuncData} {N ps:List Str} {k:Nat} {sp:Sp} (F:fX K x qual st f fd) (S:aR N ps (aA st)) (len:∀ vs H Q E,sp vs H Q E->vs.length=ps.length)
 (hbody:∀ (cdv:Value) (A:Around) (outer:List Env) (s:Shared) (H:Hp) (vs:List V) (Q:VK) (E:XK),bH k (A.deeper (envOfC qual (aA st) s.heap.objs.size f cdv))->sp vs H Q E->
  ∃ t,qU (jG bL P w K mg base N qual (aA st) f cdv A outer s H E).nox (bN st) t/\t { nx:=fun _ H'=>Q .non H',rt:=Q } (start N vs) H):aN P w K mg base bL (k+1) f fd ps sp:=by
 obtain ⟨oc,od,kV,doc,pm,an,cdv,ct,osl,rfl,lk,hcd⟩:=F.ex
 refine uI lk hcd S len fun A outer s H vs Q E hr hsp=>?_
 obtain ⟨t,h,q⟩:=hbody cdv A outer s H vs Q E hr hsp
 exact ⟨t,h.nox,q⟩
theorem fX.binds {x qual:Str} {st:Stmt} {f:Addr} {fd:FuncData} {ps:List Str} (F:fX K x qual st f fd)
 (h:∀ (kV doc pm:Value) (an:Option Addr) (cdv ct:Value) (us:List Value),us.length=ps.length->bindArgs (PySem.W.fnOf x qual (cj st) (bN st) (aA st) .none kV doc pm an cdv ct) ⟨us,[]⟩=pure (ps.zip us)):Binds K fd ps []:=by
 obtain ⟨oc,od,kV,doc,pm,an,cdv,ct,osl,rfl,lk,hcd⟩:=F.ex
 exact .all (h kV doc pm an cdv ct)
theorem Bt {x qual:Str} {st:Stmt} {f:Addr} {oc:Value} {od an:Option Addr} {osl:Array (Option Value)} {kV doc pm cdv ct:Value} (l:K.lookup f=some ⟨oc,od,.func (PySem.W.fnOf x qual (cj st) (bN st) (aA st) .none kV doc pm an cdv ct),osl⟩)
 (c:PySem.W.codeIn K cdv qual=true) (k:PySem.W.keepIn K (.ref f)=true):fX K x qual st f (PySem.W.fnOf x qual (cj st) (bN st) (aA st) .none kV doc pm an cdv ct):=⟨⟨oc,od,kV,doc,pm,an,cdv,ct,osl,rfl,l,c⟩,k⟩
end
theorem Ii {A:Around} {k:Nat} (hr:bH k A):A.units+1<cLine:=Nat.lt_of_le_of_lt (Nat.add_le_add_left (by decide:1≤64) _) hr.units
theorem iJ {n:Nat} (h:n≤1000):n<sizeLine:=Nat.lt_of_le_of_lt h (by decide)
section
variable {X:Cx}
theorem pv (i:Nat) {x:Str} {pos:Pos} (hN:X.N[i]?=some x:=by rfl) (hv:Lr X.env.scope x:=by first|exact Or.inl rfl|exact Or.inr (Or.inl rfl)|exact Or.inr (Or.inr rfl)) (hd:(x == ("__debug__" : Str))=false:=by decide)
 (hcd:(x == ("__classdict__" : Str))=false:=by decide):PE X (.Name x pos) (lZ i):=CW hN hv hd hcd
end
theorem fH {c A B:Prop} [Decidable c] (h1:c->A) (h2:¬ c->B):if c then A else B:=by
 by_cases h:c
 ·rw [if_pos h]
  exact h1 h
 ·rw [if_neg h]
  exact h2 h
def aC (H H':Hp):Prop:=∀ b o,H b=some o->H' b=some o
theorem aC.refl (H:Hp):aC H H:=fun _ _ h=>h
theorem aC.trans {H H1 H2:Hp} (a:aC H H1) (b:aC H1 H2):aC H H2:=fun c o h=>b c o (a c o h)
theorem aC.free {H H':Hp} (e:aC H H') {l:Addr} (h:H' l=Option.none):H l=Option.none:=by
 cases q:H l with
 |none=>rfl
 | some o=>
   rw [e l o q] at h
   cases h
theorem aC.seq {K:PySem.W.Frag} {H H':Hp} {a:Addr} {xs:List V} (e:aC H H') (h:bM K H a xs):bM K H' a xs:=by
 rcases h with (h|⟨o,h⟩)|h
 ·exact .inl (.inl (e _ _ h))
 ·exact .inl (.inr ⟨o,e _ _ h⟩)
 ·exact .inr h
section
variable {X:Cx}
end
section
variable {κ:Type} [DecidableEq κ]
theorem t_:∀ {l:List κ} {k:κ},l.Nodup->¬ k∈l->(l++[k]).Nodup
 |[],k,_,_=>by simp
 | a::r,k,h,hk=>by
   obtain ⟨h1,h2⟩:=List.nodup_cons.mp h
   show (a::(r++[k])).Nodup
   refine List.nodup_cons.mpr ⟨fun m=>?_,t_ h2 fun m=>hk (List.mem_cons.mpr (Or.inr m))⟩
   rcases List.mem_append.mp m with q|q
   ·exact h1 q
   ·exact hk (List.mem_cons.mpr (Or.inl (List.mem_singleton.mp q).symm))
end
theorem gM {env:Env} (scope:Scope) (h:∀ y∈scope.names,y.2=.free->∃ c,env.cells.lookup y.1=some c) :
 ∃ cl,closureFor scope env=pure cl/\(∀ x c,cl.lookup x=some c->env.cells.lookup x=some c)/\∀ x,(x,NameKind.free)∈scope.names->∃ c,cl.lookup x=some c:=by
 have go:∀ (names:List (Str×NameKind)) (acc:List (Str×Addr)),(∀ y∈names,y.2=.free->∃ c,env.cells.lookup y.1=some c)->(∀ x c,acc.lookup x=some c->env.cells.lookup x=some c)->
  ∃ cl,(forIn names acc fun x cs=>(match x with
    |(name,kind)=>if kind == NameKind.free then (do let c ← cellOf env name;pure (ForInStep.yield ((name,c)::cs))) else pure (ForInStep.yield cs):Sem (ForInStep (List (Str×Addr)))))=pure cl/\
    (∀ x c,cl.lookup x=some c->env.cells.lookup x=some c)/\(∀ x,(x,NameKind.free)∈names∨(∃ c,acc.lookup x=some c)->∃ c,cl.lookup x=some c):=by
  intro names
  induction names with
  |nil=>intro acc _ ha;exact ⟨acc,rfl,ha,fun x z=>z.elim (fun q=>nomatch q) id⟩
  | cons y r ih=>
    intro acc hy ha
    obtain ⟨n,k⟩:=y
    by_cases hk:k=.free
    ·subst hk
     obtain ⟨c,hc⟩:=hy (n,.free) List.mem_cons_self rfl
     obtain ⟨cl,e,h1,h2⟩:=ih ((n,c)::acc) (fun z hz=>hy z (List.mem_cons_of_mem _ hz)) (fun x c' hx=>by
      rw [List.lookup_cons] at hx
      by_cases q:x == n
      ·rw [q] at hx
       cases hx
       rw [beq_iff_eq.mp q];exact hc
      ·rw [Bool.not_eq_true] at q
       rw [q] at hx
       exact ha x c' hx)
     refine ⟨cl,?_,h1,fun x z=>h2 x ?_⟩
     ·rw [List.forIn_cons]
      simp only [beq_self_eq_true,if_true,cellOf,hc]
      exact e
     ·have aux:∀ x,(∃ c',acc.lookup x=some c')->∃ c',((n,c)::acc).lookup x=some c':=fun x ⟨c',z⟩=>by
       rw [List.lookup_cons]
       by_cases q:x == n
       ·rw [q];exact ⟨_,rfl⟩
       ·rw [Bool.not_eq_true] at q
        rw [q];exact ⟨c',z⟩
      rcases z with z|z
      ·rcases List.mem_cons.mp z with z|z
       ·cases z
        exact .inr ⟨c,by rw [List.lookup_cons,beq_self_eq_true]⟩
       ·exact .inl z
      ·exact .inr (aux x z)
    ·have hb:(k == NameKind.free)=false:=by simpa using hk
     obtain ⟨cl,e,h1,h2⟩:=ih acc (fun z hz=>hy z (List.mem_cons_of_mem _ hz)) ha
     refine ⟨cl,?_,h1,fun x z=>h2 x ?_⟩
     ·rw [List.forIn_cons]
      simp only [hb,Bool.false_eq_true,if_false]
      exact e
     ·rcases z with z|z
      ·rcases List.mem_cons.mp z with z|z
       ·cases z
        exact absurd rfl hk
       ·exact .inl z
      ·exact .inr z
 obtain ⟨cl,e,h1,h2⟩:=go scope.names [] h (fun x c z=>by simp at z)
 refine ⟨cl,?_,h1,fun x z=>h2 x (.inl z)⟩
 unfold closureFor
 exact (congrArg (fun (m:Sem (List (Str×Addr)))=>m >>= fun cs=>pure cs) e).trans rfl
def aJ (X:Cx) (scope:Scope) (N':List Str) (cl:List (Str×Addr)) (C:Addr) (s₀:Shared) (H₀:Hp) (ex:List Addr):Cx where
 prog:=X.prog
 w:=X.w
 K:=X.K
 mg:=X.mg
 base:=X.base
 A:=X.A
 N:=N'
 s₀:=s₀
 H₀:=H₀
 env:=compEnvC scope cl C X.env
 outer:=X.stack
 stack:=X.stack
 ex:=ex
 fn:=fun _=>false
 calm:=X.calm
 pn:=[]
 xe:=fun _ _=>False
def dg (k:Nat) (js:List Nat) (U:St):St:=List.replicate k none++js.map fun j=>(U[j]?).join
theorem sH (k:Nat) (js:List Nat) (U:St):(dg k js U).length=k+js.length:=by simp [dg]
structure bu (X:Cx) (scope:Scope) (own:List Str) (js:List Nat) (N':List Str):Prop where
 kind:scope.kind=.function
 nocell:∀ y∈scope.names,y.2≠.cell
 names:∀ y∈scope.names,y.2=.local->scope.names.lookup y.1=some .local
 free:∀ y∈scope.names,y.2=.free->X.env.kindOf y.1=some .cell∨X.env.kindOf y.1=some .free
 nm:N'=own++js.map fun j=>X.N.getD j Str.empty
 fr:∀ j∈js,j<X.N.length/\(X.N.getD j Str.empty,NameKind.free)∈scope.names/\∀ k,(X.N.getD j Str.empty,k)∈scope.names->k=.free
theorem kj {names:List (Str×NameKind)} {x:Str} (h:(x,NameKind.free)∈names) (u:∀ k,(x,k)∈names->k=.free):names.lookup x=some .free:=by
 induction names with
 |nil=>cases h
 | cons y r ih=>
   obtain ⟨n,k⟩:=y
   rw [List.lookup_cons]
   by_cases q:x == n
   ·rw [q]
    have e:x=n:=beq_iff_eq.mp q
    subst e
    rw [u k List.mem_cons_self]
   ·rw [Bool.not_eq_true] at q
    rw [q]
    refine ih ?_ fun k hk=>u k (List.mem_cons_of_mem _ hk)
    rcases List.mem_cons.mp h with z|z
    ·cases z
     rw [beq_self_eq_true] at q;cases q
    ·exact z
theorem jX {scope:Scope} {env:Env} {x:Str} {k:NameKind} (h:(x,k)∈(relabel scope env).names) (hk:k=.cell∨k=.free) (hc:∀ y∈scope.names,y.2≠.cell):(x,NameKind.free)∈scope.names:=by
 unfold relabel at h
 obtain ⟨⟨n,k'⟩,hm,e⟩:=List.mem_map.mp h
 dsimp only at e
 by_cases q:(k' == NameKind.free && env.scope.kind == .function && env.kindOf n == some .cell)=true
 ·rw [if_pos q] at e
  cases e
  rw [Bool.and_eq_true,Bool.and_eq_true] at q
  have:k'=.free:=by simpa using q.1.1
  rw [← this];exact hm
 ·rw [if_neg q] at e
  cases e
  rcases hk with z|z
  ·exact absurd z (hc _ hm)
  ·rw [← z];exact hm
theorem dO {env:Env} {x:Str}:∀ {names:List (Str×NameKind)},names.lookup x=some .free->
 (names.map fun (n,k)=>if (k == NameKind.free && env.scope.kind == .function && env.kindOf n == some .cell) then (n,NameKind.cell) else (n,k)).lookup x=some .cell∨
 (names.map fun (n,k)=>if (k == NameKind.free && env.scope.kind == .function && env.kindOf n == some .cell) then (n,NameKind.cell) else (n,k)).lookup x=some .free
 |[],h=>by simp at h
 | (n,k)::r,h=>by
   have ih:=@dO env x r
   rw [List.lookup_cons] at h
   rw [List.map_cons]
   dsimp only
   by_cases q:x == n
   ·rw [q] at h
    cases h
    by_cases c:(NameKind.free == NameKind.free && env.scope.kind == .function && env.kindOf n == some .cell)=true
    ·rw [if_pos c,List.lookup_cons,q];exact .inl rfl
    ·rw [if_neg c,List.lookup_cons,q];exact .inr rfl
   ·rw [Bool.not_eq_true] at q
    rw [q] at h
    by_cases c:(k == NameKind.free && env.scope.kind == .function && env.kindOf n == some .cell)=true
    ·rw [if_pos c,List.lookup_cons,q];exact ih h
    ·rw [if_neg c,List.lookup_cons,q];exact ih h
section
variable {X:Cx} {Z:List (Addr×Obj)} {U:St} {H:Hp} {s:Shared}
theorem Inv.comp {scope:Scope} {own:List Str} {js:List Nat} {N':List Str} {cl:List (Str×Addr)} {C:Addr} {h₁:Heap} {tk:Nat} {fp:List Addr} {m:Str->Option Value} (S:bu X scope own js N') (I:Inv X Z U H s)
 (hc1:∀ x c,cl.lookup x=some c->X.env.cells.lookup x=some c) (hc2:∀ x,(x,NameKind.free)∈scope.names->∃ c,cl.lookup x=some c) (hC:s.heap.objs.size≤C) (hns:h₁.Ns C m) (hk:∀ b o,s.heap.get? b=some o->h₁.get? b=some o)
 (hf:∀ b∈fp,gh X Z H b/\b<s.heap.objs.size) (hHC:H C=none) (hfree:∀ b o,s.heap.get? b=some o->b≠C) :
 Inv (aJ X scope N' cl C s H fp) [] (dg own.length js U) H { s with heap:=h₁,toks:=tk }:=by
 have ltx:∀ b o,X.s₀.heap.get? b=some o->b∉X.ex->b∉fp:=fun b o e hx hb=>by
  rcases (hf b hb).1.2.2.2.1 with z|z
  ·exact hx z
  ·exact absurd (Nat.lt_of_lt_of_le (Heap.lt_size e) z) (Nat.lt_irrefl _)
 refine ⟨⟨I.ok.mod,S.kind,I.ok.glob,I.ok.blt,hC,fun x y c h1 h2=>I.ok.inj x y c (hc1 x c h1) (hc1 y c h2),fun x hx=>?_,fun x c z=>(nomatch z),I.ok.hd,I.ok.frames,.inl rfl,fun b hb=>⟨Nat.ne_of_lt (Nat.lt_of_lt_of_le (hf b hb).2 hC),fun x c e=>(hf b hb).1.2.2.2.2.1 x c (hc1 x c e)⟩,I.bs,Nat.le_trans I.ok.bsz I.sz,fun b o e=>ltx b o (I.ok.bs b o e).1 (I.ok.noex b o e),fun b hb z=>?_,I.stack,I.stkFree⟩,
  rfl,I.bare,Un.kept hk,⟨m,hns,fun i x v e1 e2 e3=>?_⟩,fun x c e=>?_,hHC,fun x c e=>I.freeC x c (hc1 x c e),fun p hp=>absurd (show p∈([]:List (Addr×Obj)) from hp) (by simp),I.hok.kept hk,?_⟩
 ·have hx':(relabel scope X.env).names.lookup x=some .cell∨(relabel scope X.env).names.lookup x=some .free:=hx
  rcases hx' with z|z
  ·exact hc2 x (jX (PySem.mem_of_lookup z) (.inl rfl) S.nocell)
  ·exact hc2 x (jX (PySem.mem_of_lookup z) (.inr rfl) S.nocell)
 ·obtain ⟨_,f1,f2,_⟩:=(hf b hb).1
  rcases List.mem_cons.mp (I.stkSub b z) with q|q
  ·exact f1 q
  ·exact f2 q
 ·
  unfold dg at e2
  by_cases hi:i<own.length
  ·rw [List.getElem?_append_left (by simpa using hi),List.getElem?_replicate] at e2
   split at e2 <;> cases e2
  ·rw [List.getElem?_append_right (by simpa using hi),List.length_replicate,List.getElem?_map] at e2
   cases ej:js[i-own.length]? with
   |none=>rw [ej] at e2;cases e2
   | some j=>
     rw [ej] at e2
     have e2':(U[j]?).join=some v:=by simpa using e2
     have hU:U[j]?=some (some v):=by
      cases q:U[j]? with
      |none=>rw [q] at e2';cases e2'
      |some o=>rw [q] at e2';exact congrArg some e2'
     have hj:=S.fr j (List.mem_of_getElem? ej)
     have hx:x=X.N.getD j Str.empty:=by
      have e1':N'[i]?=some x:=e1
      rw [S.nm,List.getElem?_append_right (by omega),List.getElem?_map,ej] at e1'
      exact (Option.some.inj e1').symm
     have hN:X.N[j]?=some x:=by
      rw [hx,List.getD_eq_getElem?_getD,List.getElem?_eq_getElem hj.1];rfl
     have hfr:scope.names.lookup x=some .free:=by rw [hx];exact kj hj.2.1 hj.2.2
     have hkx:=S.free (x,.free) (by rw [hx];exact hj.2.1) rfl
     have hvis:Lr X.env.scope x:=hkx.elim (fun z=>.inr (.inl z)) fun z=>.inr (.inr z)
     obtain ⟨mX,hnX,hlX⟩:=I.loc
     obtain ⟨u,r,l⟩:=hlX j x v hN hU hvis
     refine ⟨u,r,.inr ⟨dO hfr,?_⟩⟩
     rcases l with ⟨z,_⟩|⟨_,c,hc,hcell⟩
     ·rcases hkx with q|q
      ·have:=q.symm.trans z;cases this
      ·have:=q.symm.trans z;cases this
     ·obtain ⟨c',hc'⟩:=hc2 x (by rw [hx];exact hj.2.1)
      have:c'=c:=Option.some.inj ((hc1 x c' hc').symm.trans hc)
      subst this
      obtain ⟨o,ho,hd⟩:=hcell
      exact ⟨c',hc',o,hk _ _ ho,hd⟩
 ·obtain ⟨v,o,ho,hd⟩:=I.cell x c (hc1 x c e)
  exact ⟨v,o,hk _ _ ho,hd⟩
 ·rw [sH]
  show _=N'.length
  rw [S.nm];simp
end
def iR (Y:Cx) (ifs:List Expr) (t:TT):Prop:=
 ∀ (Z:List (Addr×Obj)) (s:Shared) (U:St) (H:Hp) (Q:Bool->Hp->Prop),Inv Y Z U H s->t U H Q->
   wpAny (model Y.prog Y.w) Y.A (forIn ifs true fun c r=>if r=true then do let ok ← isTrue c Y.env (eval c Y.env);pure (ForInStep.yield ok) else pure (ForInStep.yield r)) (TP Y Z U Q) Y.xe s
def mL:TT:=fun _ H Q=>Q true H
theorem eY {Y:Cx}:iR Y [] mL:=fun _ _ _ H _ I h=>wpAny_tests_nil ⟨H,I,h⟩
theorem jw {Y:Cx} {c:Expr} {t:TT} (h:PT Y c t):iR Y [c] t:=fun Z s U H Q I hw=>wpAny_tests_one (h Z s U H Q I hw)
abbrev bB (us:List Value) (k:Nat):Obj:={ cls:=.type "list",data:=.seq us.toArray k }
def jZ (J:It) (g:TG) (tt:TT) (te:TE) (F:List V->Hp->Prop) (W:Nat->Nat->List V->St->Hp->Prop):Prop:=
 ∀ i m ys U H,W i m ys U H->(J.stop i H/\F ys H)∨(J.go i H/\ys.length<sizeLine/\∀ x H1,J.yld i H x H1->g x U H1 fun σ2 H2=>tt σ2 H2 fun b H3=>
   if b=true then te σ2 H3 fun y H4=>∃ m',m'<m/\W (i+1) m' (ys++[y]) σ2 H4 else ∃ m',m'<m/\W (i+1) m' ys σ2 H3)
theorem uY {X:Cx} {scope:Scope} {N':List Str} {cl:List (Str×Addr)} {C acc it:Addr} {s₂:Shared} {H₂:Hp} {fp:List Addr} {tn:Nat->Heap->Prop} {J:It} {g:TG} {tt:TT} {te:TE} {F:List V->Hp->Prop}
 {elt tg iter:Expr} {ifs:List Expr} {pos:Pos} {R:Result->Shared->Prop} (W:Nat->Nat->List V->St->Hp->Prop) (turn:jZ J g tt te F W) (T:Turn X.prog X.w X.K tg J fp it tn)
 (hg:PG (aJ X scope N' cl C s₂ H₂ fp) tg g) (hc:iR (aJ X scope N' cl C s₂ H₂ fp) ifs tt) (he:PE (aJ X scope N' cl C s₂ H₂ fp) elt te) (hcalm:X.calm=true)
 (hfp:∀ b∈fp,b≠C/\b∉frs X.stack/\(∀ x c,cl.lookup x=some c->c≠b)/\b≠acc) (hacc:acc≠C/\acc∉frs X.stack/\(∀ x c,cl.lookup x=some c->c≠acc)/\s₂.heap.objs.size≤acc)
 (hR:∀ s' σ' H' ys us k,Inv (aJ X scope N' cl C s₂ H₂ fp) [(acc,bB us k)] σ' H' s'->Vals ys us->F ys H'->R (.ok .next) s')
 {s:Shared} {U:St} {H:Hp} {m:Nat} (I:Inv (aJ X scope N' cl C s₂ H₂ fp) [(acc,bB [] 0)] U H s) (st:tn 0 s.heap) (fr:∀ b∈fp,H b=none) (w0:W 0 m [] U H) :
 codeAny (model X.prog X.w) X.A (.compLoop (.ListComp elt [⟨tg,iter,ifs,0⟩] scope pos) 0 (.ref it) (.ref acc) (compEnvC scope cl C X.env)) R s:=by
 refine codeAny_loop rfl (fun n s'=>∃ i ys us k σ' H',Vals ys us/\Inv (aJ X scope N' cl C s₂ H₂ fp) [(acc,bB us k)] σ' H' s'/\tn i s'.heap/\(∀ b∈fp,H' b=none)/\W i n ys σ' H') (fun n s3 hI=>?_) m ⟨0,[],[],0,U,H,.nil,I,st,fr,w0⟩
 obtain ⟨i,ys,us,k,σ3,H3,rv,I3,st3,fr3,w3⟩:=hI
 show wpAny _ X.A ((compTurn (.ListComp elt [⟨tg,iter,ifs,0⟩] scope pos) 0 (.ref it) (.ref acc) (compEnvC scope cl C X.env)).onRaise (fun x=>do noteFrame x (compEnvC scope cl C X.env);theTreesLotGoes x)) _ _ s3
 refine wpAny_noted ?_
 rw [compTurn_list]
 have fpk:∀ {Z:List (Addr×Obj)} {H':Hp},(∀ p∈Z,p.1=acc∨p.1∈([]:List Addr))->(∀ b∈fp,H' b=none)->∀ b∈fp,gh (aJ X scope N' cl C s₂ H₂ fp) Z H' b:=fun hp hn b hb=>
  ⟨hn b hb,(hfp b hb).1,(hfp b hb).2.1,.inl hb,(hfp b hb).2.2.1,fun p hp'=>by
   have hp'':p∈([]:List (Addr×Obj))++_:=hp'
   rcases hp p (by simpa using hp'') with z|z
   ·rw [z];exact Ne.symm (hfp b hb).2.2.2
   ·exact (nomatch z)⟩
 have fp1:=fpk (Z:=[(acc,bB us k)]) (fun p hp=>.inl (by simp at hp;rw [hp])) fr3
 refine wpAny_bind (wpAny_standAt (wpAny_bind ?_))
 rcases turn i n ys σ3 H3 w3 with ⟨stop,qn⟩|⟨go,hz,step⟩
 ·refine wpAny_mono (T.done (aJ X scope N' cl C s₂ H₂ fp) rfl rfl rfl hcalm i _ s3 σ3 H3 (fun _ _=>False) I3 fp1 st3 stop) (fun r s4 ⟨hr,I4⟩=>?_) (fun _ _ z=>z.elim)
  subst hr
  exact wpAny_pure (hR s4 σ3 H3 ys us k I4 rv qn)
 ·refine wpAny_mono (T.item (aJ X scope N' cl C s₂ H₂ fp) rfl rfl rfl hcalm i _ s3 σ3 H3 (fun _ _=>False) I3 fp1 st3 go) (fun r s4 ⟨u,hr,h4⟩=>?_) (fun _ _ z=>z.elim)
  subst hr
  refine wpAny_bind (wpAny_mono h4 (fun _ s5 ⟨x,H5,I5,r5,y5,st5,fr5⟩=>?_) (fun _ _ z=>z.elim))
  have fp5:=fpk (Z:=[(acc,bB us k)]) (fun p hp=>.inl (by simp at hp;rw [hp])) fr5
  have I5':=I5.pinned fp5 (T.obj _ _ st5)
  refine wpAny_bind (wpAny_mono (hg _ s5 σ3 H5 x u _ I5' r5 (step x H5 y5)) (fun _ s6 ⟨σ6,H6,I6,q6⟩=>?_) (fun _ _ z=>z.elim))
  refine wpAny_bind (wpAny_mono (hc _ s6 σ6 H6 _ I6 q6) (fun ok s7 ⟨H7,I7,q7⟩=>?_) (fun _ _ z=>z.elim))
  have again:∀ {s8:Shared} {σ8:St} {H8:Hp} {us8:List Value} {k8:Nat} {ys8:List V},Inv (aJ X scope N' cl C s₂ H₂ fp) ([(acc,bB us k)]++gf fp s5.heap) σ8 H8 s8->tn (i+1) s8.heap/\∀ b∈fp,H8 b=none:=fun {s8 σ8 H8 us8 k8 ys8} I8=>
   ⟨T.keep _ _ _ st5 fun b hb o e=>(I8.pin (b,o) (List.mem_append_right _ (List.mem_append_right _ (cA hb e)))).1,fun b hb=>by
    obtain ⟨o,e,d⟩:=T.obj _ _ st5 b hb
    exact (I8.pin (b,o) (List.mem_append_right _ (List.mem_append_right _ (cA hb e)))).2.1⟩
  cases ok with
  | false=>
    rw [if_neg Bool.false_ne_true] at q7
    obtain ⟨m',hm,w7⟩:=q7
    obtain ⟨t1,t2⟩:=again (us8:=us) (k8:=k) (ys8:=ys) I7
    exact wpAny_pure ⟨rfl,m',hm,i+1,ys,us,k,σ6,H7,rv,I7.unpinned,t1,t2,w7⟩
  | true=>
    rw [if_pos rfl] at q7
    refine wpAny_bind (wpAny_bind (wpAny_mono (he _ s7 σ6 H7 _ I7 q7) (fun y s8 ⟨yv,H8,I8,r8,m',hm,w8⟩=>?_) (fun _ _ z=>z.elim)))
    obtain ⟨t1,t2⟩:=again (us8:=us) (k8:=k) (ys8:=ys) I8
    obtain ⟨e8,n8,l8,f8,d8⟩:=I8.pin (acc,bB us k) (List.mem_append_right _ (List.mem_append_left _ List.mem_cons_self))
    have hlen:=rv.length
    have hz':us.toArray.size≤sizeLine:=by rw [List.size_toArray];omega
    refine wpAny_bind (call_meets PySem.F.slot_list_append ⟨_,e8,rfl⟩ PySem.F.entry_list_append (PySem.F.args_list_append_2 _ _) (PySem.list_append acc us.toArray k y hz') ⟨e8,?_⟩)
    have q:=PySem.IsL.update e8 (fun z=>z.push y)
    have I9:Inv (aJ X scope N' cl C s₂ H₂ fp) [] σ6 H8 s8:=I8.pins_of fun p hp=>(nomatch hp)
    have I10:=I9.turned (t':=s8.toks) (it:=acc) (h':=s8.heap.update acc (Obj.mapSeq fun z=>z.push y)) (fun b o hb e=>(Heap.get?_update_other s8.heap _ (Ne.symm hb)).trans e) n8 hacc.1 (.inr hacc.2.2.2) hacc.2.2.1 (fun p hp=>(nomatch hp))
    have e':(us.toArray.push y)=(us++[y]).toArray:=by simp
    rw [e'] at q
    obtain ⟨k9,ek⟩:∃ k9,k9=(if ((us++[y]).toArray.size == us.toArray.size)=true then k else k+1):=⟨_,rfl⟩
    rw [← ek] at q
    have I11:=I10.pins_of (pins':=[(acc,bB (us++[y]) k9)]) fun p hp=>by
     obtain rfl:p=(acc,bB (us++[y]) k9):=by simpa using hp
     exact ⟨q,n8,hacc.1,hacc.2.1,fun v z=>by cases z⟩
    refine wpAny_pure (wpAny_pure ⟨rfl,m',hm,i+1,ys++[yv],us++[y],k9,σ6,H8,rv.append (.cons r8 .nil),I11,T.keep _ _ _ t1 fun b hb o e=>?_,t2,w8⟩)
    exact (Heap.get?_update_other s8.heap _ (hfp b hb).2.2.2.symm).trans e
def Ad (wi:TI) (g:TG) (tt:TT) (te:TE) (k:Nat) (js:List Nat):TE:=fun U H Q=>wi U H fun J H1=>∃ W:Nat->Nat->List V->St->Hp->Prop,(∃ m,W 0 m [] (dg k js U) H1)/\
 jZ J g tt te (fun ys H2=>ys.length≤sizeLine/\∀ p,H2 p=none->Q (.ref p) (upd H2 p (.lst ys))) W
section
variable {X:Cx} {scope:Scope} {own:List Str} {js:List Nat} {N':List Str} {wi:TI} {g:TG} {tt:TT} {te:TE} {elt tg iter:Expr} {ifs:List Expr} {pos:Pos}
theorem pZ {Z:List (Addr×Obj)} {U:St} {H:Hp} {s:Shared} {it:Addr} {fp:List Addr} {tn:Nat->Heap->Prop} {J:It} {cl:List (Str×Addr)} {F:List V->Hp->Prop} {E:Value->Shared->Prop} {RR:Value->Addr->Result->Shared->Prop}
 (S:bu X scope own js N') (hcalm:X.calm=true) (hg:∀ cl C s₀ H₀ ex,PG (aJ X scope N' cl C s₀ H₀ ex) tg g) (hc:∀ cl C s₀ H₀ ex,iR (aJ X scope N' cl C s₀ H₀ ex) ifs tt) (he:∀ cl C s₀ H₀ ex,PE (aJ X scope N' cl C s₀ H₀ ex) elt te)
 (hc1:∀ x c,cl.lookup x=some c->X.env.cells.lookup x=some c) (hc2:∀ x,(x,NameKind.free)∈scope.names->∃ c,cl.lookup x=some c)
 (I:Inv X Z U H s) (T:Turn X.prog X.w X.K tg J fp it tn) (st:tn 0 s.heap) (hf:∀ b∈fp,gh X Z H b) (W:Nat->Nat->List V->St->Hp->Prop) {m0:Nat} (w0:W 0 m0 [] (dg own.length js U) H) (turn:jZ J g tt te F W)
 (hF:∀ ys H',F ys H'->ys.length≤sizeLine)
 (fin:∀ acc C H' ys s' m,Inv X Z U (upd H' acc (.lst ys)) s'->H' acc=none->s'.heap.Ns C m->(upd H' acc (.lst ys)) C=none->C≠X.env.locals->X.s₀.heap.objs.size≤C->(∀ x c,X.env.cells.lookup x=some c->c≠C)->(∀ p∈X.pn++Z,p.1≠C)->F ys H'->RR (.ref acc) C (.ok .next) s') :
 wpAny (model X.prog X.w) X.A (newList []) (fun acc s₃=>wpAny (model X.prog X.w) X.A (newFunctionEnv scope X.env.globals cl [] X.env.qual none .none (some X.env)) (fun cenv s₄=>
  codeAny (model X.prog X.w) X.A (.compStart (.ListComp elt [⟨tg,iter,ifs,0⟩] scope pos) 0 (.ref it) acc { cenv with scope:=relabel scope X.env }) (RR acc cenv.locals) s₄) E s₃) E s:=by
 refine wpAny_newObj_type (wpAny_newFunctionEnv S.nocell (by intro y hy;simp at hy) (fun h₁ hns₁ hsb₁=>?_) S.kind)
 dsimp only at hns₁ hsb₁ ⊢
 generalize hH2:s.heap.push { cls:=.type "list",dict:=none,data:=.seq ([]:List Value).toArray }=H2 at hns₁ hsb₁ ⊢
 have hC:H2.objs.size=s.heap.objs.size+1:=by rw [← hH2,Heap.size_push]
 have hDC:s.heap.objs.size≠H2.objs.size:=by rw [hC];exact Nat.ne_of_lt (Nat.lt_succ_self _)
 have hCle:s.heap.objs.size≤H2.objs.size:=by rw [hC];exact Nat.le_succ _
 have below:∀ b,b<s.heap.objs.size->b≠H2.objs.size/\b≠s.heap.objs.size:=fun b hb=>⟨by rw [hC];exact Nat.ne_of_lt (Nat.lt_succ_of_lt hb),Nat.ne_of_lt hb⟩
 have old:∀ b o,s.heap.get? b=some o->h₁.get? b=some o:=fun b o e=>hsb₁.extBut b o (below b (Heap.lt_size e)).1 (Heap.get?_push_of_some _ (hH2 ▸ Heap.get?_push_of_some _ e))
 have hacc:h₁.get? s.heap.objs.size=some (bB [] 0):=hsb₁.extBut _ _ hDC (Heap.get?_push_of_some _ (hH2 ▸ Heap.get?_push_size _ rfl))
 generalize hCn:H2.objs.size=C at *
 generalize hAn:s.heap.objs.size=acc at *
 have cellLt:∀ x c,X.env.cells.lookup x=some c->c<acc:=fun x c e=>by
  obtain ⟨v,q⟩:=I.cell x c e
  rw [← hAn];exact q.lt
 have pinLt:∀ p∈X.pn++Z,p.1<acc:=fun p hp=>by rw [← hAn];exact Heap.lt_size (I.pin p hp).1
 have stkLt:∀ b∈frs X.stack,b<acc:=fun b hb=>by
  obtain ⟨_,o,ho,_⟩:=I.stack.mem hb
  rw [← hAn];exact Heap.lt_size ho
 have fpLt:∀ b∈fp,b<acc:=fun b hb=>by
  obtain ⟨o,e,_⟩:=T.obj _ _ st b hb
  rw [← hAn];exact Heap.lt_size e
 have hHC:H C=none:=I.hok.fresh (by rw [hAn];exact hCle)
 have hHA:H acc=none:=I.hok.fresh (by rw [hAn];exact Nat.le_refl _)
 have I1:Inv (aJ X scope N' cl C s H fp) [] (dg own.length js U) H { s with heap:=h₁,toks:=s.toks+([]:List (Str×Value)).length }:=
  Inv.comp S I hc1 hc2 (by rw [hAn];exact hCle) hns₁ old (fun b hb=>⟨hf b hb,by rw [hAn];exact fpLt b hb⟩) hHC fun b o e=>(below b (by rw [← hAn];exact Heap.lt_size e)).1
 have I2:Inv (aJ X scope N' cl C s H fp) [(acc,bB [] 0)] (dg own.length js U) H { s with heap:=h₁,toks:=s.toks+([]:List (Str×Value)).length }:=I1.pins_of fun p hp=>by
  obtain rfl:p=(acc,bB [] 0):=by simpa using hp
  exact ⟨hacc,hHA,hDC,fun z=>absurd (stkLt acc z) (Nat.lt_irrefl _),fun v z=>by cases z⟩
 have st1:tn 0 h₁:=T.keep _ _ _ st fun b hb o e=>old b o e
 have loop:∀ s₃:Shared,s₃={ s with heap:=h₁,toks:=s.toks+([]:List (Str×Value)).length }->
  codeAny (model X.prog X.w) X.A (.compLoop (.ListComp elt [⟨tg,iter,ifs,0⟩] scope pos) 0 (.ref it) (.ref acc) (compEnvC scope cl C X.env)) (RR (.ref acc) C) s₃:=by
  rintro s₃ rfl
  refine uY W turn T (hg _ _ _ _ _) (hc _ _ _ _ _) (he _ _ _ _ _) hcalm
   (fun b hb=>⟨(below b (fpLt b hb)).1,fun z=>?_,fun x c e z=>(hf b hb).2.2.2.2.1 x c (hc1 x c e) z,(below b (fpLt b hb)).2⟩)
   ⟨hDC,fun z=>absurd (stkLt acc z) (Nat.lt_irrefl _),fun x c e z=>absurd (cellLt x c (hc1 x c e)) (by rw [z];exact Nat.lt_irrefl _),by rw [hAn];exact Nat.le_refl _⟩ ?_ I2 st1 (fun b hb=>(hf b hb).1) w0
  ·rcases List.mem_cons.mp (I.stkSub b z) with q|q
   ·exact (hf b hb).2.1 q
   ·exact (hf b hb).2.2.1 q
  ·intro s' σ' H' ys us k J' rv q
   obtain ⟨e',n',l',f',d'⟩:=J'.pin (acc,bB us k) (List.mem_append_right _ List.mem_cons_self)
   have n'':H' acc=none:=n'
   obtain ⟨m,hm,_⟩:=J'.loc
   have oldLt:∀ b o,s.heap.get? b=some o->b<acc:=fun b o e=>by rw [← hAn];exact Heap.lt_size e
   have neA:∀ b o,s.heap.get? b=some o->b≠acc:=fun b o e=>Nat.ne_of_lt (oldLt b o e)
   have un:Un (frs X.stack) fp H (upd H' acc (.lst ys)) s.heap s'.heap:=⟨J'.base.keep,J'.base.slot,fun b o e n hx=>by rw [aF (neA b o e)];exact J'.base.free b o e n hx,J'.base.there,
    fun b xs e=>by
     have z:=J'.base.tups b xs e
     rw [aF (aH z n'')];exact z,
    fun b o u e=>by
     have z:=J'.base.frzs b o u e
     rw [aF (aH z n'')];exact z,
    fun b ps e=>by
     obtain ⟨more,z⟩:=J'.base.tbls b ps e
     exact ⟨more,by rw [aF (aH z n'')];exact z⟩⟩
   have hok:iC X.prog X.w (upd H' acc (.lst ys)) s'.heap:=fun b u e=>by
    by_cases hb:b=acc
    ·subst hb
     rw [ak] at e;cases e
     exact ⟨hF _ _ q,us,k,rv,e'⟩
    ·rw [aF hb] at e
     exact (J'.hok b u e).stay (fun c v _ z=>z) (fun c z=>by rw [aF (aH z n'')];exact z) fun c xs z=>by rw [aF (aH z n'')];exact z
   have IX:Inv X Z U (upd H' acc (.lst ys)) s':=I.call' J'.os un hok J'.bare fun b hb=>⟨(hf b hb).2.2.2.1,(hf b hb).2.1,(hf b hb).2.2.2.2.1,(hf b hb).2.2.2.2.2⟩
   refine fin acc C H' ys s' m IX n'' hm ?_ ?_ ?_ ?_ ?_ q
   ·rw [aF (Ne.symm hDC)];exact J'.free
   ·exact Nat.ne_of_gt (Nat.lt_of_lt_of_le I.lt (by rw [hAn];exact hCle))
   ·exact Nat.le_trans I.sz (by rw [hAn];exact hCle)
   ·exact fun x c e z=>absurd (Nat.lt_of_lt_of_le (cellLt x c e) hCle) (by rw [z];exact Nat.lt_irrefl _)
   ·exact fun p hp z=>absurd (Nat.lt_of_lt_of_le (pinLt p hp) hCle) (by rw [z];exact Nat.lt_irrefl _)
 exact codeAny_compStart_list (loop _ rfl) (T.self _ 0 _ _ _ st1 (loop _ rfl))
theorem oN (S:bu X scope own js N') (hcalm:X.calm=true) (hi:PI X tg iter wi) (hg:∀ cl C s₀ H₀ ex,PG (aJ X scope N' cl C s₀ H₀ ex) tg g) (hc:∀ cl C s₀ H₀ ex,iR (aJ X scope N' cl C s₀ H₀ ex) ifs tt)
 (he:∀ cl C s₀ H₀ ex,PE (aJ X scope N' cl C s₀ H₀ ex) elt te) (hs:∀ x,foldedSetIterable iter X.env x=pure x:=by intro _;rfl):PE X (.ListComp elt [⟨tg,iter,ifs,0⟩] scope pos) (Ad wi g tt te own.length js):=by
 intro Z s U H Q I h
 obtain ⟨cl,hcl,hc1,hc2⟩:=gM (env:=X.env) scope fun y hy hk=>I.ok.has y.1 (S.free y hy hk)
 rw [eval_ListComp]
 refine wpAny_comprehension_free (use:=none) rfl hs hcl S.kind S.names (bU (hi Z s U H _ I h) fun v s1 h1=>bU h1 fun itv s2 h2=>?_)
 obtain ⟨it,fp,tn,J,H2,e,I2,T,st2,f2,W,⟨m0,w0⟩,turn⟩:=h2
 subst e
 refine pZ (RR:=fun acc C=>compPost (model X.prog X.w) X.A X.xe none (EP X Z U Q) acc C) S hcalm hg hc he hc1 hc2 I2 T st2 f2 W w0 turn (fun ys H' q=>q.1) ?_
 intro acc C H' ys s' m IX na hm hCn hL hz hcn hpn q
 refine ⟨m,hm,fun h' hs'=>⟨.ref acc,_,?_,rfl,q.2 acc na⟩⟩
 exact IX.turned (t':=s'.toks) (it:=C) (fun b o hb e=>(hs'.2 b hb).trans e) hCn hL (.inr hz) hcn hpn
theorem eZ {i:Nat} {x:Str} {pos' spos:Pos} (S:bu X scope own js N') (hcalm:X.calm=true) (hN:X.N.Nodup) (hx:X.N[i]?=some x) (hk:X.env.scope.names.lookup x=some .local) (hi:PI X tg iter wi) (hg:∀ cl C s₀ H₀ ex,PG (aJ X scope N' cl C s₀ H₀ ex) tg g) (hc:∀ cl C s₀ H₀ ex,iR (aJ X scope N' cl C s₀ H₀ ex) ifs tt)
 (he:∀ cl C s₀ H₀ ex,PE (aJ X scope N' cl C s₀ H₀ ex) elt te) (hsw:swapsWith (.ListComp elt [⟨tg,iter,ifs,0⟩] scope pos) (some (.Name x pos')) spos.line X.env=pure true:=by rfl) (hs:∀ x,foldedSetIterable iter X.env x=pure x:=by intro _;rfl) :
 PS X (.Assign [.Name x pos'] (.ListComp elt [⟨tg,iter,ifs,0⟩] scope pos) spos) (yI (Ad wi g tt te own.length js) (bK i)):=by
 intro Z s U H D I h
 obtain ⟨cl,hcl,hc1,hc2⟩:=gM (env:=X.env) scope fun y hy hk=>I.ok.has y.1 (S.free y hy hk)
 rw [exec_Assign_Name_used _ _ _ _ hsw]
 refine wpAny_bind (wpAny_standAt (wpAny_bind ?_))
 show wpAny _ X.A (do let _ ← comprehension (.ListComp elt [⟨tg,iter,ifs,0⟩] scope pos) scope X.env _ (newList []) false (eval iter X.env) (some (assign (.Name x pos') X.env))) _ _ s
 refine wpAny_bind (wpAny_mono (wpAny_comprehension_free (use:=some (assign (.Name x pos') X.env)) (Q:=fun _ s'=>SP X Z D .next s') rfl hs hcl S.kind S.names
  (bU (hi Z s U H _ I h) fun v s1 h1=>bU h1 fun itv s2 h2=>?_)) (fun _ s' hq=>wpAny_pure (wpAny_pure hq)) fun _ _ e=>e)
 obtain ⟨it,fp,tn,J,H2,e,I2,T,st2,f2,W,⟨m0,w0⟩,turn⟩:=h2
 subst e
 refine pZ (RR:=fun acc C=>compPost (model X.prog X.w) X.A X.xe (some (assign (.Name x pos') X.env)) (fun _ s'=>SP X Z D .next s') acc C) S hcalm hg hc he hc1 hc2 I2 T st2 f2 W w0 turn (fun ys H' q=>q.1) ?_
 intro acc C H' ys s' m IX na hm hCn hL hz hcn hpn q
 show wpAny _ X.A (assign (.Name x pos') X.env (.ref acc)) _ _ s'
 refine wpAny_assign_Name (jO IX hN hx (.inl hk) (v:=.ref acc) rfl (fun s'' I'' hsb=>?_) (.inr hk))
 obtain ⟨a,hsb,ha⟩:=hsb
 have haC:C≠a:=by
  rcases ha with z|z
  ·rw [z];exact hL
  ·exact fun q=>hcn x a z q.symm
 refine ⟨m,hm.sameBut hsb haC,fun h' hs'=>⟨_,_,?_,q.2 acc na⟩⟩
 exact I''.turned (t':=s''.toks) (it:=C) (fun b o hb e=>(hs'.2 b hb).trans e) hCn hL (.inr hz) hcn hpn
end
section
variable {X:Cx}
def Kc (i j:Int):Prop:=0<j/\j<340282366920938463463374607431768211456
theorem xV:gR X (binaryOp .FloorDiv) (rI Kc fun i j=>.int (i / j)):=HN fun i j _ _ _ _ _ hc q=>by
 rw [← Int.fdiv_eq_ediv_of_nonneg i (Int.le_of_lt hc.1)] at q
 have h1:(0:Int)<j:=hc.1
 have h2:j<340282366920938463463374607431768211456:=hc.2
 have hb:j.natAbs<340282366920938463463374607431768211456:=by omega
 have he:(2:Nat) ^ 128=340282366920938463463374607431768211456:=by decide +kernel
 have hl:j.natAbs.log2<128:=(Nat.log2_lt (by omega)).mpr (Nat.lt_of_lt_of_eq hb he.symm)
 exact floordiv_int (by have:=hc.1;omega) q (.inl (PyProof.noPylong_of_log2 (by omega)))
theorem j7 {lo:Int} {n:Nat} {g:TG} {te:TE} {F:List V->Hp->Prop} {σ0:St} {H0:Hp} (Pv:Nat->List V->St->Hp->Prop) (hn:n≤sizeLine) (h0:Pv 0 [] σ0 H0)
 (hs:∀ i ys U H,i<n->ys.length=i->Pv i ys U H->∀ N:List V->St->Hp->Prop,(∀ ys' σ' H',ys'.length=i+1->Pv (i+1) ys' σ' H'->N ys' σ' H')->g (.int (lo+i)) U H fun σ2 H2=>te σ2 H2 fun y H3=>N (ys++[y]) σ2 H3)
 (hd:∀ ys U H,ys.length=n->Pv n ys U H->F ys H) :
 ∃ W:Nat->Nat->List V->St->Hp->Prop,(∃ m,W 0 m [] σ0 H0)/\jZ (Am lo n) g mL te F W:=by
 refine ⟨fun i m ys U H=>m=n-i/\i≤n/\ys.length=i/\Pv i ys U H,⟨n,by simp,Nat.zero_le _,rfl,h0⟩,?_⟩
 rintro i m ys U H ⟨rfl,hi,hl,p⟩
 by_cases hlt:i<n
 ·refine .inr ⟨hlt,by omega,fun x H' y=>?_⟩
  obtain ⟨e,y⟩:=y
  subst e y
  exact hs i ys U _ hlt hl p (fun ys' σ' H'=>∃ m',m'<n-i/\m'=n-(i+1)/\i+1≤n/\ys'.length=i+1/\Pv (i+1) ys' σ' H') fun ys' σ' H' hl' q=>⟨n-(i+1),by omega,rfl,hlt,hl',q⟩
 ·have e:i=n:=by omega
  subst e
  exact .inl ⟨Nat.le_refl _,hd ys U H hl p⟩
theorem Fj {K:PySem.W.Frag} {a:Addr} {xs:List V} {g:TG} {te:TE} {F:List V->Hp->Prop} {σ0:St} {H0:Hp} (Pv:Nat->List V->St->Hp->Prop) (hn:xs.length≤sizeLine) (h0:Pv 0 [] σ0 H0) (hq:∀ i ys U H,i≤xs.length->Pv i ys U H->bM K H a xs)
 (hs:∀ i x ys U H,xs[i]?=some x->ys.length=i->Pv i ys U H->∀ N:List V->St->Hp->Prop,(∀ ys' σ' H',ys'.length=i+1->Pv (i+1) ys' σ' H'->N ys' σ' H')->g x U H fun σ2 H2=>te σ2 H2 fun y H3=>N (ys++[y]) σ2 H3)
 (hd:∀ ys U H,ys.length=xs.length->Pv xs.length ys U H->F ys H) :
 ∃ W:Nat->Nat->List V->St->Hp->Prop,(∃ m,W 0 m [] σ0 H0)/\jZ (zr K a) g mL te F W:=by
 refine ⟨fun i m ys U H=>m=xs.length-i/\i≤xs.length/\ys.length=i/\Pv i ys U H,⟨xs.length,by simp,Nat.zero_le _,rfl,h0⟩,?_⟩
 rintro i m ys U H ⟨rfl,hi,hl,p⟩
 have q:=hq i ys U H hi p
 by_cases hlt:i<xs.length
 ·refine .inr ⟨⟨xs,xs[i],q,by simp [hlt]⟩,by omega,fun x H' y=>?_⟩
  obtain ⟨e,y⟩:=y
  subst e
  exact hs i x ys U _ (y xs q) hl p (fun ys' σ' H'=>∃ m',m'<xs.length-i/\m'=xs.length-(i+1)/\i+1≤xs.length/\ys'.length=i+1/\Pv (i+1) ys' σ' H') fun ys' σ' H' hl' q=>⟨xs.length-(i+1),by omega,rfl,hlt,hl',q⟩
 ·have e:i=xs.length:=by omega
  subst e
  exact .inl ⟨⟨xs,q,Nat.le_refl _⟩,hd ys U H hl p⟩
theorem lW {K:PySem.W.Frag} {a:Addr} {xs:List V} {g:TG} {te:TE} {F:List V->Hp->Prop} {σ0:St} {H0:Hp} (Pv:Nat->List V->St->Hp->Prop) (hn:xs.length≤sizeLine) (h0:Pv 0 [] σ0 H0) (hq:∀ i ys U H,i≤xs.length->Pv i ys U H->bF K H a xs)
 (hs:∀ i x ys U H,xs[i]?=some x->ys.length=i->Pv i ys U H->∀ N:List V->St->Hp->Prop,(∀ ys' σ' H',ys'.length=i+1->Pv (i+1) ys' σ' H'->N ys' σ' H')->g x U H fun σ2 H2=>te σ2 H2 fun y H3=>N (ys++[y]) σ2 H3)
 (hd:∀ ys U H,ys.length=xs.length->Pv xs.length ys U H->F ys H) :
 ∃ W:Nat->Nat->List V->St->Hp->Prop,(∃ m,W 0 m [] σ0 H0)/\jZ (Fi K a) g mL te F W:=by
 refine ⟨fun i m ys U H=>m=xs.length-i/\i≤xs.length/\ys.length=i/\Pv i ys U H,⟨xs.length,by simp,Nat.zero_le _,rfl,h0⟩,?_⟩
 rintro i m ys U H ⟨rfl,hi,hl,p⟩
 have q:=hq i ys U H hi p
 by_cases hlt:i<xs.length
 ·refine .inr ⟨⟨xs,xs[i],q,by simp [hlt]⟩,by omega,fun x H' y=>?_⟩
  obtain ⟨e,y⟩:=y
  subst e
  exact hs i x ys U _ (y xs q) hl p (fun ys' σ' H'=>∃ m',m'<xs.length-i/\m'=xs.length-(i+1)/\i+1≤xs.length/\ys'.length=i+1/\Pv (i+1) ys' σ' H') fun ys' σ' H' hl' q=>⟨xs.length-(i+1),by omega,rfl,hlt,hl',q⟩
 ·have e:i=xs.length:=by omega
  subst e
  exact .inl ⟨⟨xs,q,Nat.le_refl _⟩,hd ys U H hl p⟩
structure cF (K:PySem.W.Frag) (mg:Str->Option Value) (x:Str) (st:Stmt) (ps:List Str) (f:Addr) (fd:FuncData):Prop where
 F:fX K x x st f fd
 mg:mg x=some (.ref f)
 b:Binds K fd ps []
def cD (p:Addr) (H H':Hp):Prop:=∀ b o,H b=some o->b≠p->H' b=some o
theorem cD.refl {p:Addr} {H:Hp}:cD p H H:=fun _ _ h _=>h
theorem cD.trans {p:Addr} {H H1 H2:Hp} (a:cD p H H1) (b:cD p H1 H2):cD p H H2:=fun c o h hc=>b c o (a c o h hc) hc
theorem cD.upd {p:Addr} {H:Hp} {o:HO}:cD p H (upd H p o):=fun b u h hb=>by rw [aF hb];exact h
theorem cD.new {p q:Addr} {H:Hp} {o:HO} (h:H q=none):cD p H (L2.upd H q o):=fun b u e _=>by rw [aF (aH e h)];exact e
end
theorem iW {t u:TS} {D:Ends} {U:St} {H:Hp} (M:St->Hp->Prop) (h2:∀ σ' H',M σ' H'->u D σ' H') (h1:∀ N:St->Hp->Prop,(∀ σ' H',M σ' H'->N σ' H')->t { D with nx:=N } U H):Gv t u D U H:=h1 (u D) h2
theorem aC.new {H:Hp} {q:Addr} {o:HO} (h:H q=none):aC H (upd H q o):=fun b u e=>by rw [aF (aH e h)];exact e
theorem aC.but {H H':Hp} {p:Addr} (h:aC H H'):cD p H H':=fun b o e _=>h b o e
theorem aC.tup {K:PySem.W.Frag} {H H':Hp} {a:Addr} {xs:List V} (e:aC H H') (h:bF K H a xs):bF K H' a xs:=by
 rcases h with (h|⟨o,h⟩)|h
 ·exact .inl (.inl (e _ _ h))
 ·exact .inl (.inr ⟨o,e _ _ h⟩)
 ·exact .inr h
theorem bV:bootBuiltins "len" = some (.builtin "len"):=by decide +kernel
theorem pC:bootBuiltins "list" = some (.type "list"):=by decide +kernel
theorem fG:bootBuiltins "tuple" = some (.type "tuple"):=by decide +kernel
theorem lF:bootBuiltins "str" = some (.type "str"):=by decide +kernel
theorem jQ:bootBuiltins "int" = some (.type "int"):=by decide +kernel
theorem jA:bootBuiltins "bool" = some (.type "bool"):=by decide +kernel
theorem pG:bootBuiltins "min" = some (.builtin "min"):=by decide +kernel
theorem Cz:bootBuiltins "max" = some (.builtin "max"):=by decide +kernel
theorem xf:bootBuiltins "all" = some (.builtin "all"):=by decide +kernel
theorem CN:bootBuiltins "any" = some (.builtin "any"):=by decide +kernel
theorem aY:bootBuiltins "isinstance" = some (.builtin "isinstance"):=by decide +kernel
theorem Ej:bootBuiltins "sum" = some (.builtin "sum"):=by decide +kernel
theorem v9:bootBuiltins "sorted" = some (.builtin "sorted"):=by decide +kernel
end L2
namespace L2
open PySem PySem.Spec PyProof.Rows PySem.SeqAt
mutual
inductive Rep (K:PySem.W.Frag) (H:Hp):V->PyData->Prop
 |non:Rep K H .non .none
 |bl (b:Bool):Rep K H (.bl b) (.bool b)
 |int (i:Int):Rep K H (.int i) (.int i)
 |str (x:Str):Rep K H (.str x) (.str x)
 |tup {a:Addr} {xs:List V} {ds:List PyData}:bF K H a xs->bj K H xs ds->Rep K H (.ref a) (.tuple ds)
 |lst {a:Addr} {xs:List V} {ds:List PyData}:bM K H a xs->bj K H xs ds->Rep K H (.ref a) (.list ds)
inductive bj (K:PySem.W.Frag) (H:Hp):List V->List PyData->Prop
 |nil:bj K H [] []
 |cons {x:V} {d:PyData} {xs:List V} {ds:List PyData}:Rep K H x d->bj K H xs ds->bj K H (x::xs) (d::ds)
end
section
variable {K:PySem.W.Frag} {H H':Hp}
theorem bj.length:∀ {xs:List V} {ds:List PyData},bj K H xs ds->xs.length=ds.length
 |_,_,.nil=>rfl
 |_,_,.cons _ t=>by rw [List.length_cons,List.length_cons,bj.length t]
mutual
theorem Rep.map (f1:∀ a xs,bF K H a xs->bF K H' a xs) (f2:∀ a xs,bM K H a xs->bM K H' a xs):∀ {v:V} {d:PyData},Rep K H v d->Rep K H' v d
 |_,_,.non=>.non
 |_,_,.bl b=>.bl b
 |_,_,.int i=>.int i
 |_,_,.str x=>.str x
 |_,_,.tup h r=>.tup (f1 _ _ h) (bj.map f1 f2 r)
 |_,_,.lst h r=>.lst (f2 _ _ h) (bj.map f1 f2 r)
theorem bj.map (f1:∀ a xs,bF K H a xs->bF K H' a xs) (f2:∀ a xs,bM K H a xs->bM K H' a xs):∀ {v:List V} {d:List PyData},bj K H v d->bj K H' v d
 |_,_,.nil=>.nil
 |_,_,.cons h r=>.cons (Rep.map f1 f2 h) (bj.map f1 f2 r)
end
theorem Rep.same {v:V} {d:PyData} (h:Rep K H v d) (e:aC H H'):Rep K H' v d:=h.map (fun _ _ z=>e.tup z) (fun _ _ z=>e.seq z)
theorem bj.same {v:List V} {d:List PyData} (h:bj K H v d) (e:aC H H'):bj K H' v d:=h.map (fun _ _ z=>e.tup z) (fun _ _ z=>e.seq z)
theorem cD.seq {p a:Addr} {xs:List V} {kvs:List (Key×V)} (e:cD p H H') (hp:H p=some (.dK kvs)) (h:bM K H a xs):bM K H' a xs:=by
 rcases h with (h|⟨o,h⟩)|h
 ·exact .inl (.inl (e _ _ h (gn h hp (by intro z;cases z))))
 ·exact .inl (.inr ⟨o,e _ _ h (gn h hp (by intro z;cases z))⟩)
 ·exact .inr h
theorem cD.tup {p a:Addr} {xs:List V} {kvs:List (Key×V)} (e:cD p H H') (hp:H p=some (.dK kvs)) (h:bF K H a xs):bF K H' a xs:=by
 rcases h with (h|⟨o,h⟩)|h
 ·exact .inl (.inl (e _ _ h (gn h hp (by intro z;cases z))))
 ·exact .inl (.inr ⟨o,e _ _ h (gn h hp (by intro z;cases z))⟩)
 ·exact .inr h
theorem Rep.but {p:Addr} {kvs:List (Key×V)} {v:V} {d:PyData} (h:Rep K H v d) (e:cD p H H') (hp:H p=some (.dK kvs)):Rep K H' v d:=h.map (fun _ _ z=>e.tup hp z) (fun _ _ z=>e.seq hp z)
theorem bj.but {p:Addr} {kvs:List (Key×V)} {v:List V} {d:List PyData} (h:bj K H v d) (e:cD p H H') (hp:H p=some (.dK kvs)):bj K H' v d:=h.map (fun _ _ z=>e.tup hp z) (fun _ _ z=>e.seq hp z)
theorem bj.get':∀ {xs:List V} {ds:List PyData} {i:Nat} {x:V},bj K H xs ds->xs[i]?=some x->∃ d,ds[i]?=some d/\Rep K H x d
 |_,_,_,_,.nil,e=>by simp at e
 |_,_,0,_,.cons r _,e=>by simp at e;subst e;exact ⟨_,rfl,r⟩
 | _,_,i+1,d,.cons _ t,e=>by
   obtain ⟨u,h1,h2⟩:=bj.get' (i:=i) (x:=d) t (by simpa using e)
   exact ⟨u,by simpa using h1,h2⟩
end
section
variable {X:Cx} {Z:List (Addr×Obj)} {U:St} {H:Hp} {s:Shared}
end
mutual
def dU:PyData->PyData->Bool
 |.none,.none=>true
 |.bool a,.bool b=>a == b
 |.bool a,.int b=>(if a then 1 else 0) == b
 |.int a,.bool b=>a == (if b then 1 else 0)
 |.int a,.int b=>a == b
 |.str a,.str b=>a == b
 |.tuple a,.tuple b=>cY a b
 |.list a,.list b=>cY a b
 |_,_=>false
def cY:List PyData->List PyData->Bool
 |[],[]=>true
 |a::r,b::t=>dU a b && cY r t
 |_,_=>false
end
theorem ni:∀ (ds es:List PyData),cY ds es=((List.range (min ds.length es.length)).all (fun j=>dU (ds.getD j .none) (es.getD j .none)) && ds.length == es.length)
 |[],[]=>by simp [cY]
 |[],_::_=>by simp [cY]
 |_::_,[]=>by simp [cY]
 | a::r,b::t=>by
   rw [cY,ni r t,List.length_cons,List.length_cons,Nat.succ_min_succ,List.range_succ_eq_map,List.all_cons,List.all_map]
   simp only [List.getD_cons_zero,Bool.and_assoc]
   congr 1
   have e:(r.length+1 == t.length+1)=(r.length == t.length):=by
    rw [Bool.eq_iff_iff];simp
   rw [e]
   congr 1
mutual
def bI:PyData->Nat
 |.tuple xs=>bQ xs+1
 |.list xs=>bQ xs+1
 |_=>0
def bQ:List PyData->Nat
 |[]=>0
 |d::r=>max (bI d) (bQ r)
end
section
variable {X:Cx} {Z:List (Addr×Obj)} {U:St} {H:Hp} {s:Shared}
mutual
theorem Rep.fn (I:Inv X Z U H s):∀ {v:V} {d e:PyData} {u:Value},Rep X.K H v d->Rep X.K H v e->RelV v u->d=e/\dU d d=true
 |_,_,_,_,.non,.non,_=>⟨rfl,rfl⟩
 |_,_,_,_,.bl b,.bl _,_=>⟨rfl,by simp [dU]⟩
 |_,_,_,_,.int i,.int _,_=>⟨rfl,by simp [dU]⟩
 |_,_,_,_,.str x,.str _,_=>⟨rfl,by simp [dU]⟩
 | _,_,_,_,.tup h1 r1,.tup h2 r2,r=>by
   have e:=I.tuple_inj h1 h2
   subst e
   obtain ⟨its,rv,_,_⟩:=I.tuple h1
   obtain ⟨e,q⟩:=bj.fn I r1 r2 rv
   exact ⟨by rw [e],q⟩
 | _,_,_,_,.lst h1 r1,.lst h2 r2,r=>by
   have e:=I.list_inj h1 h2
   subst e
   obtain ⟨its,rv,_,_⟩:=I.list h1
   obtain ⟨e,q⟩:=bj.fn I r1 r2 rv
   exact ⟨by rw [e],q⟩
 | _,_,_,_,.tup h1 _,.lst h2 _,r=>by
   obtain ⟨_,_,⟨o,e1,c1,_⟩,_⟩:=I.tuple h1
   obtain ⟨_,_,⟨o',n,e2,c2,_⟩,_⟩:=I.list h2
   rw [e1] at e2;cases e2
   rw [c1] at c2;injection c2 with z;exact absurd z (by decide)
 | _,_,_,_,.lst h2 _,.tup h1 _,r=>by
   obtain ⟨_,_,⟨o,e1,c1,_⟩,_⟩:=I.tuple h1
   obtain ⟨_,_,⟨o',n,e2,c2,_⟩,_⟩:=I.list h2
   rw [e1] at e2;cases e2
   rw [c1] at c2;injection c2 with z;exact absurd z (by decide)
theorem bj.fn (I:Inv X Z U H s):∀ {v:List V} {d e:List PyData} {u:List Value},bj X.K H v d->bj X.K H v e->Vals v u->d=e/\cY d d=true
 |_,_,_,_,.nil,.nil,_=>⟨rfl,rfl⟩
 | _,_,_,_,.cons a b,.cons c d,.cons r rs=>by
   obtain ⟨e1,q1⟩:=Rep.fn I a c r
   obtain ⟨e2,q2⟩:=bj.fn I b d rs
   exact ⟨by rw [e1,e2],by simp [cY,q1,q2]⟩
end
theorem uv {vs ws:List V} {ds es:List PyData} {us xs:List Value} {A:Around} (rs1:bj X.K H vs ds) (rs2:bj X.K H ws es) (rv1:Vals vs us) (rv2:Vals ws xs) :
 ((List.range (min us.toArray.size xs.toArray.size)).all (fun j=>dU (ds.getD j .none) (es.getD j .none)) && us.toArray.size == xs.toArray.size)=cY ds es:=by
 rw [ni,List.size_toArray,List.size_toArray,← rv1.length,← rv2.length,rs1.length,rs2.length]
theorem R4 {l b:Addr} {vs ws:List V} {ds es:List PyData} {us xs:List Value} {A:Around} (rs1:bj X.K H vs ds) (rs2:bj X.K H ws es) (rv1:Vals vs us) (rv2:Vals ws xs) (p1:IsTup s.heap l us.toArray) (p2:IsTup s.heap b xs.toArray) (hu:A.units<cLine)
 (he:∀ j (h1:j<us.length) (h2:j<xs.length),EqAt A.in1 s us[j] xs[j] (dU (ds.getD j .none) (es.getD j .none))):RcAt A s (.ref l) (.ref b) (dU (.tuple ds) (.tuple es)):=by
 show RcAt A s (.ref l) (.ref b) (cY ds es)
 rw [← uv (A:=A) rs1 rs2 rv1 rv2]
 exact RcAt.tuples (show s.heap.IsTuple l us.toArray from p1) (show s.heap.IsTuple b xs.toArray from p2) hu fun j h1 h2=>by simpa using he j (by simpa using h1) (by simpa using h2)
theorem QH {l b:Addr} {vs ws:List V} {ds es:List PyData} {us xs:List Value} {A:Around} (rs1:bj X.K H vs ds) (rs2:bj X.K H ws es) (rv1:Vals vs us) (rv2:Vals ws xs) (p1:s.heap.IsList l us.toArray) (p2:s.heap.IsList b xs.toArray) (hu:A.units<cLine)
 (he:∀ j (h1:j<us.length) (h2:j<xs.length),EqAt A.in1 s us[j] xs[j] (dU (ds.getD j .none) (es.getD j .none))):RcAt A s (.ref l) (.ref b) (dU (.list ds) (.list es)):=by
 show RcAt A s (.ref l) (.ref b) (cY ds es)
 have q:=uv (A:=A) rs1 rs2 rv1 rv2
 by_cases hz:us.toArray.size=xs.toArray.size
 ·rw [← q,hz,Nat.min_self,beq_self_eq_true,Bool.and_true,← hz]
  exact RcAt.lists p1 p2 hz hu fun j h1 h2=>by simpa using he j (by simpa using h1) (by simpa using h2)
 ·have e:cY ds es=false:=by
   rw [← q]
   have:(us.toArray.size == xs.toArray.size)=false:=by simpa using hz
   rw [this,Bool.and_false]
  rw [e]
  exact RcAt.lists_lengths p1 p2 (by simpa using hz) hu
theorem eqT (I:Inv X Z U H s) {l b:Addr} {vs ws:List V} {ds es:List PyData} {us xs:List Value} {A:Around} (h1:bF X.K H l vs) (h2:bF X.K H b ws) (rs1:bj X.K H vs ds) (rs2:bj X.K H ws es) (rv1:Vals vs us) (rv2:Vals ws xs) (p1:IsTup s.heap l us.toArray) (p2:IsTup s.heap b xs.toArray) (hu:A.units<cLine)
 (he:∀ j (h1:j<us.length) (h2:j<xs.length),EqAt A.in1 s us[j] xs[j] (dU (ds.getD j .none) (es.getD j .none))):EqAt A s (.ref l) (.ref b) (dU (.tuple ds) (.tuple es)):=by
 by_cases hlb:l=b
 ·subst hlb
  obtain ⟨e,q⟩:=Rep.fn I (.tup h1 rs1) (.tup h2 rs2) (u:=.ref l) rfl
  rw [← e,q]
  exact EqAt.same _
 ·exact EqAt.of_refs hlb (R4 rs1 rs2 rv1 rv2 p1 p2 hu he)
theorem RC (I:Inv X Z U H s) {l b:Addr} {vs ws:List V} {ds es:List PyData} {us xs:List Value} {A:Around} (h1:bM X.K H l vs) (h2:bM X.K H b ws) (rs1:bj X.K H vs ds) (rs2:bj X.K H ws es) (rv1:Vals vs us) (rv2:Vals ws xs) (p1:s.heap.IsList l us.toArray) (p2:s.heap.IsList b xs.toArray) (hu:A.units<cLine)
 (he:∀ j (h1:j<us.length) (h2:j<xs.length),EqAt A.in1 s us[j] xs[j] (dU (ds.getD j .none) (es.getD j .none))):EqAt A s (.ref l) (.ref b) (dU (.list ds) (.list es)):=by
 by_cases hlb:l=b
 ·subst hlb
  obtain ⟨e,q⟩:=Rep.fn I (.lst h1 rs1) (.lst h2 rs2) (u:=.ref l) rfl
  rw [← e,q]
  exact EqAt.same _
 ·exact EqAt.of_refs hlb (QH rs1 rs2 rv1 rv2 p1 p2 hu he)
theorem cL {A:Around} {n:Nat} (h:A.units+n<cLine):A.units<cLine:=by omega
theorem hu0 {A:Around} {n:Nat} (h:A.units+(n+1)<cLine):A.units<cLine:=by omega
theorem hu1 {A:Around} {n:Nat} (h:A.units+(n+1)<cLine):A.in1.units+n<cLine:=by show A.units+1+n<cLine;omega
mutual
theorem Kv (I:Inv X Z U H s):∀ {v w:V} {d e:PyData} {u x:Value} {A:Around},Rep X.K H v d->Rep X.K H w e->RelV v u->RelV w x->A.units+bI d<cLine->EqAt A s u x (dU d e)
 | _,_,_,_,u,x,A,.non,.non,r1,r2,hu=>by
   cases (show u=Value.none from r1)
   cases (show x=Value.none from r2)
   exact EqAt.same _
 | _,_,_,_,u,x,A,.non,.bl b2,r1,r2,hu=>by
   cases (show u=Value.none from r1)
   cases (show x=Value.bool b2 from r2)
   exact EqAt.none_bool b2
 | _,_,_,_,u,x,A,.non,.int i2,r1,r2,hu=>by
   cases (show u=Value.none from r1)
   obtain ⟨t2,e2⟩:=(show ∃ t,x=Value.int i2 t from r2);subst e2
   exact EqAt.none_int i2 t2
 | _,_,_,_,u,x,A,.non,.str y2,r1,r2,hu=>by
   cases (show u=Value.none from r1)
   obtain ⟨t2,e2⟩:=(show ∃ t,x=Value.str y2 t from r2);subst e2
   exact EqAt.none_str y2 t2
 | _,_,_,_,u,x,A,.non,.lst h2 rs2,r1,r2,hu=>by
   cases (show u=Value.none from r1)
   cases (show x=Value.ref _ from r2);obtain ⟨its2,rv2,p2,_⟩:=I.list h2
   exact EqAt.none_list p2.isList (cL hu)
 | _,_,_,_,u,x,A,.non,.tup h2 rs2,r1,r2,hu=>by
   cases (show u=Value.none from r1)
   cases (show x=Value.ref _ from r2);obtain ⟨its2,rv2,p2,_⟩:=I.tuple h2
   exact EqAt.none_tuple p2 (cL hu)
 | _,_,_,_,u,x,A,.bl b1,.non,r1,r2,hu=>by
   cases (show u=Value.bool b1 from r1)
   cases (show x=Value.none from r2)
   exact EqAt.bool_none b1
 | _,_,_,_,u,x,A,.bl b1,.bl b2,r1,r2,hu=>by
   cases (show u=Value.bool b1 from r1)
   cases (show x=Value.bool b2 from r2)
   exact EqAt.bool_bool b1 b2
 | _,_,_,_,u,x,A,.bl b1,.int i2,r1,r2,hu=>by
   cases (show u=Value.bool b1 from r1)
   obtain ⟨t2,e2⟩:=(show ∃ t,x=Value.int i2 t from r2);subst e2
   exact EqAt.bool_int b1 i2 t2
 | _,_,_,_,u,x,A,.bl b1,.str y2,r1,r2,hu=>by
   cases (show u=Value.bool b1 from r1)
   obtain ⟨t2,e2⟩:=(show ∃ t,x=Value.str y2 t from r2);subst e2
   exact EqAt.bool_str b1 y2 t2
 | _,_,_,_,u,x,A,.bl b1,.lst h2 rs2,r1,r2,hu=>by
   cases (show u=Value.bool b1 from r1)
   cases (show x=Value.ref _ from r2);obtain ⟨its2,rv2,p2,_⟩:=I.list h2
   exact EqAt.bool_list b1 p2.isList (cL hu)
 | _,_,_,_,u,x,A,.bl b1,.tup h2 rs2,r1,r2,hu=>by
   cases (show u=Value.bool b1 from r1)
   cases (show x=Value.ref _ from r2);obtain ⟨its2,rv2,p2,_⟩:=I.tuple h2
   exact EqAt.bool_tuple b1 p2 (cL hu)
 | _,_,_,_,u,x,A,.int i1,.non,r1,r2,hu=>by
   obtain ⟨t1,e1⟩:=(show ∃ t,u=Value.int i1 t from r1);subst e1
   cases (show x=Value.none from r2)
   exact EqAt.int_none i1 t1
 | _,_,_,_,u,x,A,.int i1,.bl b2,r1,r2,hu=>by
   obtain ⟨t1,e1⟩:=(show ∃ t,u=Value.int i1 t from r1);subst e1
   cases (show x=Value.bool b2 from r2)
   exact EqAt.int_bool i1 t1 b2
 | _,_,_,_,u,x,A,.int i1,.int i2,r1,r2,hu=>by
   obtain ⟨t1,e1⟩:=(show ∃ t,u=Value.int i1 t from r1);subst e1
   obtain ⟨t2,e2⟩:=(show ∃ t,x=Value.int i2 t from r2);subst e2
   exact EqAt.int_int i1 t1 i2 t2
 | _,_,_,_,u,x,A,.int i1,.str y2,r1,r2,hu=>by
   obtain ⟨t1,e1⟩:=(show ∃ t,u=Value.int i1 t from r1);subst e1
   obtain ⟨t2,e2⟩:=(show ∃ t,x=Value.str y2 t from r2);subst e2
   exact EqAt.int_str i1 t1 y2 t2
 | _,_,_,_,u,x,A,.int i1,.lst h2 rs2,r1,r2,hu=>by
   obtain ⟨t1,e1⟩:=(show ∃ t,u=Value.int i1 t from r1);subst e1
   cases (show x=Value.ref _ from r2);obtain ⟨its2,rv2,p2,_⟩:=I.list h2
   exact EqAt.int_list i1 t1 p2.isList (cL hu)
 | _,_,_,_,u,x,A,.int i1,.tup h2 rs2,r1,r2,hu=>by
   obtain ⟨t1,e1⟩:=(show ∃ t,u=Value.int i1 t from r1);subst e1
   cases (show x=Value.ref _ from r2);obtain ⟨its2,rv2,p2,_⟩:=I.tuple h2
   exact EqAt.int_tuple i1 t1 p2 (cL hu)
 | _,_,_,_,u,x,A,.str y1,.non,r1,r2,hu=>by
   obtain ⟨t1,e1⟩:=(show ∃ t,u=Value.str y1 t from r1);subst e1
   cases (show x=Value.none from r2)
   exact EqAt.str_none y1 t1
 | _,_,_,_,u,x,A,.str y1,.bl b2,r1,r2,hu=>by
   obtain ⟨t1,e1⟩:=(show ∃ t,u=Value.str y1 t from r1);subst e1
   cases (show x=Value.bool b2 from r2)
   exact EqAt.str_bool y1 t1 b2
 | _,_,_,_,u,x,A,.str y1,.int i2,r1,r2,hu=>by
   obtain ⟨t1,e1⟩:=(show ∃ t,u=Value.str y1 t from r1);subst e1
   obtain ⟨t2,e2⟩:=(show ∃ t,x=Value.int i2 t from r2);subst e2
   exact EqAt.str_int y1 t1 i2 t2
 | _,_,_,_,u,x,A,.str y1,.str y2,r1,r2,hu=>by
   obtain ⟨t1,e1⟩:=(show ∃ t,u=Value.str y1 t from r1);subst e1
   obtain ⟨t2,e2⟩:=(show ∃ t,x=Value.str y2 t from r2);subst e2
   exact EqAt.str_str y1 t1 y2 t2
 | _,_,_,_,u,x,A,.str y1,.lst h2 rs2,r1,r2,hu=>by
   obtain ⟨t1,e1⟩:=(show ∃ t,u=Value.str y1 t from r1);subst e1
   cases (show x=Value.ref _ from r2);obtain ⟨its2,rv2,p2,_⟩:=I.list h2
   exact EqAt.str_list y1 t1 p2.isList (cL hu)
 | _,_,_,_,u,x,A,.str y1,.tup h2 rs2,r1,r2,hu=>by
   obtain ⟨t1,e1⟩:=(show ∃ t,u=Value.str y1 t from r1);subst e1
   cases (show x=Value.ref _ from r2);obtain ⟨its2,rv2,p2,_⟩:=I.tuple h2
   exact EqAt.str_tuple y1 t1 p2 (cL hu)
 | _,_,_,_,u,x,A,.lst h1 rs1,.non,r1,r2,hu=>by
   cases (show u=Value.ref _ from r1);obtain ⟨its1,rv1,p1,_⟩:=I.list h1
   cases (show x=Value.none from r2)
   exact EqAt.list_none p1.isList (cL hu)
 | _,_,_,_,u,x,A,.lst h1 rs1,.bl b2,r1,r2,hu=>by
   cases (show u=Value.ref _ from r1);obtain ⟨its1,rv1,p1,_⟩:=I.list h1
   cases (show x=Value.bool b2 from r2)
   exact EqAt.list_bool b2 p1.isList (cL hu)
 | _,_,_,_,u,x,A,.lst h1 rs1,.int i2,r1,r2,hu=>by
   cases (show u=Value.ref _ from r1);obtain ⟨its1,rv1,p1,_⟩:=I.list h1
   obtain ⟨t2,e2⟩:=(show ∃ t,x=Value.int i2 t from r2);subst e2
   exact EqAt.list_int i2 t2 p1.isList (cL hu)
 | _,_,_,_,u,x,A,.lst h1 rs1,.str y2,r1,r2,hu=>by
   cases (show u=Value.ref _ from r1);obtain ⟨its1,rv1,p1,_⟩:=I.list h1
   obtain ⟨t2,e2⟩:=(show ∃ t,x=Value.str y2 t from r2);subst e2
   exact EqAt.list_str y2 t2 p1.isList (cL hu)
 | _,_,_,_,u,x,A,.lst h1 rs1,.lst h2 rs2,r1,r2,hu=>by
   cases (show u=Value.ref _ from r1);obtain ⟨its1,rv1,p1,_⟩:=I.list h1
   cases (show x=Value.ref _ from r2);obtain ⟨its2,rv2,p2,_⟩:=I.list h2
   exact RC I h1 h2 rs1 rs2 rv1 rv2 p1.isList p2.isList (hu0 hu) (iY I rs1 rs2 rv1 rv2 (hu1 hu))
 | _,_,_,_,u,x,A,.lst h1 rs1,.tup h2 rs2,r1,r2,hu=>by
   cases (show u=Value.ref _ from r1);obtain ⟨its1,rv1,p1,_⟩:=I.list h1
   cases (show x=Value.ref _ from r2);obtain ⟨its2,rv2,p2,_⟩:=I.tuple h2
   exact EqAt.list_tuple p1.isList p2 (cL hu)
 | _,_,_,_,u,x,A,.tup h1 rs1,.non,r1,r2,hu=>by
   cases (show u=Value.ref _ from r1);obtain ⟨its1,rv1,p1,_⟩:=I.tuple h1
   cases (show x=Value.none from r2)
   exact EqAt.tuple_none p1 (cL hu)
 | _,_,_,_,u,x,A,.tup h1 rs1,.bl b2,r1,r2,hu=>by
   cases (show u=Value.ref _ from r1);obtain ⟨its1,rv1,p1,_⟩:=I.tuple h1
   cases (show x=Value.bool b2 from r2)
   exact EqAt.tuple_bool b2 p1 (cL hu)
 | _,_,_,_,u,x,A,.tup h1 rs1,.int i2,r1,r2,hu=>by
   cases (show u=Value.ref _ from r1);obtain ⟨its1,rv1,p1,_⟩:=I.tuple h1
   obtain ⟨t2,e2⟩:=(show ∃ t,x=Value.int i2 t from r2);subst e2
   exact EqAt.tuple_int i2 t2 p1 (cL hu)
 | _,_,_,_,u,x,A,.tup h1 rs1,.str y2,r1,r2,hu=>by
   cases (show u=Value.ref _ from r1);obtain ⟨its1,rv1,p1,_⟩:=I.tuple h1
   obtain ⟨t2,e2⟩:=(show ∃ t,x=Value.str y2 t from r2);subst e2
   exact EqAt.tuple_str y2 t2 p1 (cL hu)
 | _,_,_,_,u,x,A,.tup h1 rs1,.lst h2 rs2,r1,r2,hu=>by
   cases (show u=Value.ref _ from r1);obtain ⟨its1,rv1,p1,_⟩:=I.tuple h1
   cases (show x=Value.ref _ from r2);obtain ⟨its2,rv2,p2,_⟩:=I.list h2
   exact EqAt.tuple_list p1 p2.isList (cL hu)
 | _,_,_,_,u,x,A,.tup h1 rs1,.tup h2 rs2,r1,r2,hu=>by
   cases (show u=Value.ref _ from r1);obtain ⟨its1,rv1,p1,_⟩:=I.tuple h1
   cases (show x=Value.ref _ from r2);obtain ⟨its2,rv2,p2,_⟩:=I.tuple h2
   exact eqT I h1 h2 rs1 rs2 rv1 rv2 p1 p2 (hu0 hu) (iY I rs1 rs2 rv1 rv2 (hu1 hu))
theorem iY (I:Inv X Z U H s):∀ {vs ws:List V} {ds es:List PyData} {us xs:List Value} {A:Around},bj X.K H vs ds->bj X.K H ws es->Vals vs us->Vals ws xs->A.units+bQ ds<cLine->
 ∀ j (h1:j<us.length) (h2:j<xs.length),EqAt A s us[j] xs[j] (dU (ds.getD j .none) (es.getD j .none))
 |_,_,_,_,_,_,_,.nil,_,.nil,_,_,j,h1,_=>absurd h1 (Nat.not_lt_zero _)
 |_,_,_,_,_,_,_,.cons _ _,.nil,.cons _ _,.nil,_,j,_,h2=>absurd h2 (Nat.not_lt_zero _)
 |_,_,_,_,_,_,_,.cons a b,.cons c d,.cons r rs,.cons t ts,hu,0,_,_=>Kv I a c r t (by simp only [bQ] at hu;simp only [List.getD_cons_zero];omega)
 |_,_,_,_,_,_,_,.cons a b,.cons c d,.cons r rs,.cons t ts,hu,j+1,h1,h2=>iY I b d rs ts (by simp only [bQ] at hu;omega) j (by simpa using h1) (by simpa using h2)
end
theorem Jq (I:Inv X Z U H s):∀ {v w:V} {d e:PyData} {u x:Value} {A:Around},Rep X.K H v d->Rep X.K H w e->RelV v u->RelV w x->A.units+bI d<cLine->RcAt A s u x (dU d e)
 | _,_,_,_,u,x,A,.non,.non,r1,r2,hu=>by
   cases (show u=Value.none from r1)
   cases (show x=Value.none from r2)
   exact RcAt.none_none
 | _,_,_,_,u,x,A,.non,.bl b2,r1,r2,hu=>by
   cases (show u=Value.none from r1)
   cases (show x=Value.bool b2 from r2)
   exact RcAt.none_bool b2
 | _,_,_,_,u,x,A,.non,.int i2,r1,r2,hu=>by
   cases (show u=Value.none from r1)
   obtain ⟨t2,e2⟩:=(show ∃ t,x=Value.int i2 t from r2);subst e2
   exact RcAt.none_int i2 t2
 | _,_,_,_,u,x,A,.non,.str y2,r1,r2,hu=>by
   cases (show u=Value.none from r1)
   obtain ⟨t2,e2⟩:=(show ∃ t,x=Value.str y2 t from r2);subst e2
   exact RcAt.none_str y2 t2
 | _,_,_,_,u,x,A,.non,.lst h2 rs2,r1,r2,hu=>by
   cases (show u=Value.none from r1)
   cases (show x=Value.ref _ from r2);obtain ⟨its2,rv2,p2,_⟩:=I.list h2
   exact RcAt.none_list p2.isList (cL hu)
 | _,_,_,_,u,x,A,.non,.tup h2 rs2,r1,r2,hu=>by
   cases (show u=Value.none from r1)
   cases (show x=Value.ref _ from r2);obtain ⟨its2,rv2,p2,_⟩:=I.tuple h2
   exact RcAt.none_tuple p2 (cL hu)
 | _,_,_,_,u,x,A,.bl b1,.non,r1,r2,hu=>by
   cases (show u=Value.bool b1 from r1)
   cases (show x=Value.none from r2)
   exact RcAt.bool_none b1
 | _,_,_,_,u,x,A,.bl b1,.bl b2,r1,r2,hu=>by
   cases (show u=Value.bool b1 from r1)
   cases (show x=Value.bool b2 from r2)
   exact RcAt.bool_bool b1 b2
 | _,_,_,_,u,x,A,.bl b1,.int i2,r1,r2,hu=>by
   cases (show u=Value.bool b1 from r1)
   obtain ⟨t2,e2⟩:=(show ∃ t,x=Value.int i2 t from r2);subst e2
   exact RcAt.bool_int b1 i2 t2
 | _,_,_,_,u,x,A,.bl b1,.str y2,r1,r2,hu=>by
   cases (show u=Value.bool b1 from r1)
   obtain ⟨t2,e2⟩:=(show ∃ t,x=Value.str y2 t from r2);subst e2
   exact RcAt.bool_str b1 y2 t2
 | _,_,_,_,u,x,A,.bl b1,.lst h2 rs2,r1,r2,hu=>by
   cases (show u=Value.bool b1 from r1)
   cases (show x=Value.ref _ from r2);obtain ⟨its2,rv2,p2,_⟩:=I.list h2
   exact RcAt.bool_list b1 p2.isList (cL hu)
 | _,_,_,_,u,x,A,.bl b1,.tup h2 rs2,r1,r2,hu=>by
   cases (show u=Value.bool b1 from r1)
   cases (show x=Value.ref _ from r2);obtain ⟨its2,rv2,p2,_⟩:=I.tuple h2
   exact RcAt.bool_tuple b1 p2 (cL hu)
 | _,_,_,_,u,x,A,.int i1,.non,r1,r2,hu=>by
   obtain ⟨t1,e1⟩:=(show ∃ t,u=Value.int i1 t from r1);subst e1
   cases (show x=Value.none from r2)
   exact RcAt.int_none i1 t1
 | _,_,_,_,u,x,A,.int i1,.bl b2,r1,r2,hu=>by
   obtain ⟨t1,e1⟩:=(show ∃ t,u=Value.int i1 t from r1);subst e1
   cases (show x=Value.bool b2 from r2)
   exact RcAt.int_bool i1 t1 b2
 | _,_,_,_,u,x,A,.int i1,.int i2,r1,r2,hu=>by
   obtain ⟨t1,e1⟩:=(show ∃ t,u=Value.int i1 t from r1);subst e1
   obtain ⟨t2,e2⟩:=(show ∃ t,x=Value.int i2 t from r2);subst e2
   exact RcAt.int_int i1 t1 i2 t2
 | _,_,_,_,u,x,A,.int i1,.str y2,r1,r2,hu=>by
   obtain ⟨t1,e1⟩:=(show ∃ t,u=Value.int i1 t from r1);subst e1
   obtain ⟨t2,e2⟩:=(show ∃ t,x=Value.str y2 t from r2);subst e2
   exact RcAt.int_str i1 t1 y2 t2
 | _,_,_,_,u,x,A,.int i1,.lst h2 rs2,r1,r2,hu=>by
   obtain ⟨t1,e1⟩:=(show ∃ t,u=Value.int i1 t from r1);subst e1
   cases (show x=Value.ref _ from r2);obtain ⟨its2,rv2,p2,_⟩:=I.list h2
   exact RcAt.int_list i1 t1 p2.isList (cL hu)
 | _,_,_,_,u,x,A,.int i1,.tup h2 rs2,r1,r2,hu=>by
   obtain ⟨t1,e1⟩:=(show ∃ t,u=Value.int i1 t from r1);subst e1
   cases (show x=Value.ref _ from r2);obtain ⟨its2,rv2,p2,_⟩:=I.tuple h2
   exact RcAt.int_tuple i1 t1 p2 (cL hu)
 | _,_,_,_,u,x,A,.str y1,.non,r1,r2,hu=>by
   obtain ⟨t1,e1⟩:=(show ∃ t,u=Value.str y1 t from r1);subst e1
   cases (show x=Value.none from r2)
   exact RcAt.str_none y1 t1
 | _,_,_,_,u,x,A,.str y1,.bl b2,r1,r2,hu=>by
   obtain ⟨t1,e1⟩:=(show ∃ t,u=Value.str y1 t from r1);subst e1
   cases (show x=Value.bool b2 from r2)
   exact RcAt.str_bool y1 t1 b2
 | _,_,_,_,u,x,A,.str y1,.int i2,r1,r2,hu=>by
   obtain ⟨t1,e1⟩:=(show ∃ t,u=Value.str y1 t from r1);subst e1
   obtain ⟨t2,e2⟩:=(show ∃ t,x=Value.int i2 t from r2);subst e2
   exact RcAt.str_int y1 t1 i2 t2
 | _,_,_,_,u,x,A,.str y1,.str y2,r1,r2,hu=>by
   obtain ⟨t1,e1⟩:=(show ∃ t,u=Value.str y1 t from r1);subst e1
   obtain ⟨t2,e2⟩:=(show ∃ t,x=Value.str y2 t from r2);subst e2
   exact RcAt.str_str y1 t1 y2 t2
 | _,_,_,_,u,x,A,.str y1,.lst h2 rs2,r1,r2,hu=>by
   obtain ⟨t1,e1⟩:=(show ∃ t,u=Value.str y1 t from r1);subst e1
   cases (show x=Value.ref _ from r2);obtain ⟨its2,rv2,p2,_⟩:=I.list h2
   exact RcAt.str_list y1 t1 p2.isList (cL hu)
 | _,_,_,_,u,x,A,.str y1,.tup h2 rs2,r1,r2,hu=>by
   obtain ⟨t1,e1⟩:=(show ∃ t,u=Value.str y1 t from r1);subst e1
   cases (show x=Value.ref _ from r2);obtain ⟨its2,rv2,p2,_⟩:=I.tuple h2
   exact RcAt.str_tuple y1 t1 p2 (cL hu)
 | _,_,_,_,u,x,A,.lst h1 rs1,.non,r1,r2,hu=>by
   cases (show u=Value.ref _ from r1);obtain ⟨its1,rv1,p1,_⟩:=I.list h1
   cases (show x=Value.none from r2)
   exact RcAt.list_none p1.isList (cL hu)
 | _,_,_,_,u,x,A,.lst h1 rs1,.bl b2,r1,r2,hu=>by
   cases (show u=Value.ref _ from r1);obtain ⟨its1,rv1,p1,_⟩:=I.list h1
   cases (show x=Value.bool b2 from r2)
   exact RcAt.list_bool b2 p1.isList (cL hu)
 | _,_,_,_,u,x,A,.lst h1 rs1,.int i2,r1,r2,hu=>by
   cases (show u=Value.ref _ from r1);obtain ⟨its1,rv1,p1,_⟩:=I.list h1
   obtain ⟨t2,e2⟩:=(show ∃ t,x=Value.int i2 t from r2);subst e2
   exact RcAt.list_int i2 t2 p1.isList (cL hu)
 | _,_,_,_,u,x,A,.lst h1 rs1,.str y2,r1,r2,hu=>by
   cases (show u=Value.ref _ from r1);obtain ⟨its1,rv1,p1,_⟩:=I.list h1
   obtain ⟨t2,e2⟩:=(show ∃ t,x=Value.str y2 t from r2);subst e2
   exact RcAt.list_str y2 t2 p1.isList (cL hu)
 | _,_,_,_,u,x,A,.lst h1 rs1,.lst h2 rs2,r1,r2,hu=>by
   cases (show u=Value.ref _ from r1);obtain ⟨its1,rv1,p1,_⟩:=I.list h1
   cases (show x=Value.ref _ from r2);obtain ⟨its2,rv2,p2,_⟩:=I.list h2
   exact QH rs1 rs2 rv1 rv2 p1.isList p2.isList (hu0 hu) (iY I rs1 rs2 rv1 rv2 (hu1 hu))
 | _,_,_,_,u,x,A,.lst h1 rs1,.tup h2 rs2,r1,r2,hu=>by
   cases (show u=Value.ref _ from r1);obtain ⟨its1,rv1,p1,_⟩:=I.list h1
   cases (show x=Value.ref _ from r2);obtain ⟨its2,rv2,p2,_⟩:=I.tuple h2
   exact RcAt.list_tuple p1.isList p2 (cL hu)
 | _,_,_,_,u,x,A,.tup h1 rs1,.non,r1,r2,hu=>by
   cases (show u=Value.ref _ from r1);obtain ⟨its1,rv1,p1,_⟩:=I.tuple h1
   cases (show x=Value.none from r2)
   exact RcAt.tuple_none p1 (cL hu)
 | _,_,_,_,u,x,A,.tup h1 rs1,.bl b2,r1,r2,hu=>by
   cases (show u=Value.ref _ from r1);obtain ⟨its1,rv1,p1,_⟩:=I.tuple h1
   cases (show x=Value.bool b2 from r2)
   exact RcAt.tuple_bool b2 p1 (cL hu)
 | _,_,_,_,u,x,A,.tup h1 rs1,.int i2,r1,r2,hu=>by
   cases (show u=Value.ref _ from r1);obtain ⟨its1,rv1,p1,_⟩:=I.tuple h1
   obtain ⟨t2,e2⟩:=(show ∃ t,x=Value.int i2 t from r2);subst e2
   exact RcAt.tuple_int i2 t2 p1 (cL hu)
 | _,_,_,_,u,x,A,.tup h1 rs1,.str y2,r1,r2,hu=>by
   cases (show u=Value.ref _ from r1);obtain ⟨its1,rv1,p1,_⟩:=I.tuple h1
   obtain ⟨t2,e2⟩:=(show ∃ t,x=Value.str y2 t from r2);subst e2
   exact RcAt.tuple_str y2 t2 p1 (cL hu)
 | _,_,_,_,u,x,A,.tup h1 rs1,.lst h2 rs2,r1,r2,hu=>by
   cases (show u=Value.ref _ from r1);obtain ⟨its1,rv1,p1,_⟩:=I.tuple h1
   cases (show x=Value.ref _ from r2);obtain ⟨its2,rv2,p2,_⟩:=I.list h2
   exact RcAt.tuple_list p1 p2.isList (cL hu)
 | _,_,_,_,u,x,A,.tup h1 rs1,.tup h2 rs2,r1,r2,hu=>by
   cases (show u=Value.ref _ from r1);obtain ⟨its1,rv1,p1,_⟩:=I.tuple h1
   cases (show x=Value.ref _ from r2);obtain ⟨its2,rv2,p2,_⟩:=I.tuple h2
   exact R4 rs1 rs2 rv1 rv2 p1 p2 (hu0 hu) (iY I rs1 rs2 rv1 rv2 (hu1 hu))
end
section
variable {X:Cx}
def zB (K:PySem.W.Frag):R2:=fun x y H Q=>∃ d e,Rep K H x d/\Rep K H y e/\bI d≤60/\Q (.bl (dU d e)) H
theorem xj (hu:X.A.units+64<cLine):gR X (compareOp .Eq) (zB X.K):=by
 intro Z s U H x y v u Q I rx ry h
 obtain ⟨d,e,h1,h2,hd,q⟩:=h
 exact Jq I h1 h2 rx ry (by omega) _ _ _ _ ⟨.bl _,H,I,rfl,q⟩
def Qc (K:PySem.W.Frag):R2:=fun x y H Q=>∃ d e,Rep K H x (.tuple d)/\Rep K H y (.tuple e)/\bQ d≤60/\Q (.bl (!cY d e)) H
theorem Aw (hu:X.A.units+64<cLine):gR X (compareOp .NotEq) (Qc X.K):=by
 intro Z s U H x y v u Q I rx ry h
 obtain ⟨d,e,h1,h2,hd,q⟩:=h
 cases h1 with
 | tup g1 rs1=>
   cases h2 with
   | tup g2 rs2=>
     cases (show v=Value.ref _ from rx)
     cases (show u=Value.ref _ from ry)
     obtain ⟨its1,rv1,p1,_⟩:=I.tuple g1
     obtain ⟨its2,rv2,p2,_⟩:=I.tuple g2
     have hz:=uv (X:=X) (H:=H) (A:=X.A) rs1 rs2 rv1 rv2
     have hw:=RcNeAt.tuples (A:=X.A) (show s.heap.IsTuple _ its1.toArray from p1) (show s.heap.IsTuple _ its2.toArray from p2) (by omega)
      (e:=fun j=>dU (d.getD j .none) (e.getD j .none)) (fun j h1 h2=>by simpa using iY I rs1 rs2 rv1 rv2 (A:=X.A.in1) (by show X.A.units+1+_<_;omega) j (by simpa using h1) (by simpa using h2))
     rw [hz] at hw
     exact hw _ _ _ _ ⟨.bl _,H,I,rfl,q⟩
theorem jd {e:PyData}:∀ {es:List PyData},e∈es->bI e≤bQ es
 |_::_,.head _=>by simp only [bQ];omega
 |_::r,.tail _ h=>by have:=jd h;simp only [bQ];omega
def LR:PyData->String
 |.none=>"NoneType"
 |.bool _=>"bool"
 |.int _=>"int"
 |.str _=>"str"
 |.list _=>"list"
 |.tuple _=>"tuple"
 |.dict _=>"dict"
theorem isD {Z:List (Addr×Obj)} {U:St} {H:Hp} {s:Shared} {A:Around} {E:Value->Shared->Prop} {Q:Value->Shared->Prop} {v:V} {d:PyData} {u c:Value} {b:Bool} (I:Inv X Z U H s) (r:Rep X.K H v d) (rv:RelV v u)
 (e:PySem.W.kitOne X.K (.type (LR d)) c=some b) (h:∀ tk,Q (.bool b) { s with toks:=tk }):wpAny (model X.prog X.w) A (call (.builtin "isinstance") [u,c]) Q E s:=by
 cases r with
 |non=>cases (show u=Value.none from rv);exact PySem.W.kia_one PySem.W.kitx_none I.kIn True.intro e (fun z=>nomatch z) h
 |bl y=>cases (show u=Value.bool y from rv);exact PySem.W.kia_one PySem.W.kitx_bool I.kIn True.intro e (fun z=>nomatch z) h
 |int i=>obtain ⟨t,q⟩:=(show ∃ t,u=Value.int i t from rv);cases q;exact PySem.W.kia_one PySem.W.kitx_int I.kIn True.intro e (fun z=>nomatch z) h
 |str y=>obtain ⟨t,q⟩:=(show ∃ t,u=Value.str y t from rv);cases q;exact PySem.W.kia_one PySem.W.kitx_str I.kIn True.intro e (fun z=>nomatch z) h
 | tup g _=>
   cases (show u=Value.ref _ from rv)
   obtain ⟨_,_,⟨o,h1,h2,_⟩,_⟩:=I.tuple g
   exact PySem.W.kia_one PySem.W.kitx_tuple I.kIn ⟨o,h1,h2⟩ e (fun z=>nomatch z) h
 | lst g _=>
   cases (show u=Value.ref _ from rv)
   obtain ⟨_,_,⟨o,n,h1,h2,_⟩,_⟩:=I.list g
   exact PySem.W.kia_one PySem.W.kitx_list I.kIn ⟨o,h1,h2⟩ e (fun z=>nomatch z) h
theorem NP {Z:List (Addr×Obj)} {U:St} {H:Hp} {s:Shared} {A:Around} {E:Value->Shared->Prop} {Q:Value->Shared->Prop} {v:V} {d:PyData} {u:Value} {tp:Addr} {dd:Option Addr} {its:List Value} {n:Nat} {sl:Array (Option Value)} {b:Bool} (I:Inv X Z U H s) (r:Rep X.K H v d) (rv:RelV v u)
 (htp:s.heap.get? tp=some ⟨.type "tuple",dd,.seq its.toArray n,sl⟩) (e:PySem.W.kitAny X.K (.type (LR d)) its=some b) (h:∀ tk,Q (.bool b) { s with toks:=tk }):wpAny (model X.prog X.w) A (call (.builtin "isinstance") [u,.ref tp]) Q E s:=by
 cases r with
 |non=>cases (show u=Value.none from rv);exact PySem.W.kia_tup PySem.W.kitx_none I.kIn True.intro htp e (fun z=>nomatch z) h
 |bl y=>cases (show u=Value.bool y from rv);exact PySem.W.kia_tup PySem.W.kitx_bool I.kIn True.intro htp e (fun z=>nomatch z) h
 |int i=>obtain ⟨t,q⟩:=(show ∃ t,u=Value.int i t from rv);cases q;exact PySem.W.kia_tup PySem.W.kitx_int I.kIn True.intro htp e (fun z=>nomatch z) h
 |str y=>obtain ⟨t,q⟩:=(show ∃ t,u=Value.str y t from rv);cases q;exact PySem.W.kia_tup PySem.W.kitx_str I.kIn True.intro htp e (fun z=>nomatch z) h
 | tup g _=>
   cases (show u=Value.ref _ from rv)
   obtain ⟨_,_,⟨o,h1,h2,_⟩,_⟩:=I.tuple g
   exact PySem.W.kia_tup PySem.W.kitx_tuple I.kIn ⟨o,h1,h2⟩ htp e (fun z=>nomatch z) h
 | lst g _=>
   cases (show u=Value.ref _ from rv)
   obtain ⟨_,_,⟨o,n,h1,h2,_⟩,_⟩:=I.list g
   exact PySem.W.kia_tup PySem.W.kitx_list I.kIn ⟨o,h1,h2⟩ htp e (fun z=>nomatch z) h
def Hw (K:PySem.W.Frag):List V->Hp->VK->Prop:=fun xs H Q=>∃ x n d b,xs=[x,.ty n]/\Rep K H x d/\PySem.W.kitOne K (.type (LR d)) (.type n)=some b/\Q (.bl b) H
theorem bY:dG X (.builtin "isinstance") (Hw X.K):=by
 intro Z s U H xs us Q I r h
 obtain ⟨x,n,d,b,rfl,hr,e,q⟩:=h
 cases r with
 | cons r1 r=>
   cases r with
   | cons r2 r=>
     cases r
     cases (show _=Value.type n from r2)
     exact isD I hr r1 e fun tk=>⟨.bl b,H,I.tok tk,rfl,q⟩
def J9 (K:PySem.W.Frag):List V->Hp->VK->Prop:=fun xs H Q=>∃ x a n m d b,xs=[x,.ref a]/\H a=some (.tup [.ty n,.ty m])/\Rep K H x d/\PySem.W.kitAny K (.type (LR d)) [.type n,.type m]=some b/\Q (.bl b) H
theorem nM:dG X (.builtin "isinstance") (J9 X.K):=by
 intro Z s U H xs us Q I r h
 obtain ⟨x,a,n,m,d,b,rfl,ha,hr,e,q⟩:=h
 cases r with
 | cons r1 r=>
   cases r with
   | cons r2 r=>
     cases r
     cases (show _=Value.ref a from r2)
     obtain ⟨z,its,rv,o,h1,h2,k,h3⟩:=(show cg X.prog X.w H s.heap a (.tup [.ty n,.ty m]) from I.hok a _ ha)
     obtain ⟨cls,dd,data,sl⟩:=o
     simp only at h2 h3
     subst h2 h3
     cases rv with
     | cons g1 rv=>
       cases rv with
       | cons g2 rv=>
         cases rv
         cases (show _=Value.type n from g1)
         cases (show _=Value.type m from g2)
         exact NP I hr r1 h1 e fun tk=>⟨.bl b,H,I.tok tk,rfl,q⟩
theorem qt {xs:List V} {us:List Value}:∀ {bs:List Bool},xs=bs.map V.bl->Vals xs us->us=bs.map Value.bool:=by
 intro bs e r
 induction bs generalizing xs us with
 |nil=>subst e;cases r;rfl
 | cons b t ih=>
   subst e
   cases r with
   |cons r1 r=>rw [List.map_cons,ih rfl r,(show _=Value.bool b from r1)]
theorem range_all (bs:List Bool):(List.range bs.length).all (fun i=>bs.getD i false)=bs.all id:=by
 induction bs with
 |nil=>rfl
 |cons b t ih=>rw [List.length_cons,List.range_succ_eq_map,List.all_cons,List.all_map,List.all_cons,← ih];rfl
theorem range_any (bs:List Bool):(List.range bs.length).any (fun i=>bs.getD i false)=bs.any id:=by
 induction bs with
 |nil=>rfl
 |cons b t ih=>rw [List.length_cons,List.range_succ_eq_map,List.any_cons,List.any_map,List.any_cons,← ih];rfl
theorem j_ {P:Program} {w:World} {A:Around} {bs:List Bool}:TruthOf P w A (fun i v=>((bs.map Value.bool).toArray)[i]?=some v) fun i=>bs.getD i false:=fun i v s Q E hP hQ=>by
 dsimp only at hP hQ
 rw [List.getElem?_toArray,List.getElem?_map] at hP
 cases e:bs[i]? with
 |none=>rw [e] at hP;cases hP
 | some b=>
   rw [e] at hP
   cases hP
   rw [List.getD_eq_getElem?_getD,e] at hQ
   exact wpAny_pure hQ
def Af (K:PySem.W.Frag) (f:List Bool->Bool):List V->Hp->VK->Prop:=fun xs H Q=>∃ a bs,xs=[.ref a]/\bM K H a (bs.map V.bl)/\Q (.bl (f bs)) H
theorem mQ (hh:X.calm=true):dG X (.builtin "all") (Af X.K fun bs=>bs.all id):=by
 intro Z s U H xs us Q I r h
 obtain ⟨a,bs,rfl,hq,q⟩:=h
 cases r with
 | cons r1 r=>
   cases r
   cases (show _=Value.ref a from r1)
   obtain ⟨its,rv,p,hz⟩:=I.list hq
   have e:=qt rfl rv
   subst e
   refine PySem.call_all_walk (wpAny_pyIter_list p.isList ?_)
   have hne:a≠s.heap.objs.size:=(by obtain ⟨o,ho,_⟩:=p.isList;exact Nat.ne_of_lt (Heap.lt_size ho))
   refine ⟨s.heap.objs.size,_,_,_,_,_,_,rfl,Walks.list (A:=X.A.in1) (I.ok.hd hh) s.heap.objs.size a hne (bs.map Value.bool).toArray,⟨⟨_,Heap.get?_push_size _ rfl,rfl,rfl⟩,?_⟩,j_,fun h' tk hk=>?_⟩
   ·obtain ⟨o,ho,hc,n,hd⟩:=p.isList
    exact ⟨o,Heap.get?_push_of_some _ ho,hc,n,hd⟩
   ·rw [List.size_toArray,List.length_map,range_all]
    exact ⟨.bl _,H,I.kept fun b o e=>hk b o (by simp;exact Nat.ne_of_lt (Heap.lt_size e)) (Heap.get?_push_of_some _ e),rfl,q⟩
theorem vH (hh:X.calm=true):dG X (.builtin "any") (Af X.K fun bs=>bs.any id):=by
 intro Z s U H xs us Q I r h
 obtain ⟨a,bs,rfl,hq,q⟩:=h
 cases r with
 | cons r1 r=>
   cases r
   cases (show _=Value.ref a from r1)
   obtain ⟨its,rv,p,hz⟩:=I.list hq
   have e:=qt rfl rv
   subst e
   refine PySem.call_any_walk (wpAny_pyIter_list p.isList ?_)
   have hne:a≠s.heap.objs.size:=(by obtain ⟨o,ho,_⟩:=p.isList;exact Nat.ne_of_lt (Heap.lt_size ho))
   refine ⟨s.heap.objs.size,_,_,_,_,_,_,rfl,Walks.list (A:=X.A.in1) (I.ok.hd hh) s.heap.objs.size a hne (bs.map Value.bool).toArray,⟨⟨_,Heap.get?_push_size _ rfl,rfl,rfl⟩,?_⟩,j_,fun h' tk hk=>?_⟩
   ·obtain ⟨o,ho,hc,n,hd⟩:=p.isList
    exact ⟨o,Heap.get?_push_of_some _ ho,hc,n,hd⟩
   ·rw [List.size_toArray,List.length_map,range_any]
    exact ⟨.bl _,H,I.kept fun b o e=>hk b o (by simp;exact Nat.ne_of_lt (Heap.lt_size e)) (Heap.get?_push_of_some _ e),rfl,q⟩
theorem zX {us:List Value}:∀ {ys:List Str},Vals (ys.map V.str) us->StrsAre us ys:=by
 intro ys
 induction ys generalizing us with
 |nil=>intro r;cases r;exact .nil
 | cons y t ih=>
   intro r
   cases r with
   | cons r1 r=>
     obtain ⟨tk,e⟩:=(show ∃ t,_=Value.str y t from r1)
     subst e
     exact .cons _ _ (ih r)
def rJoin (K:PySem.W.Frag):V->List V->Hp->VK->Prop:=fun x vs H Q=>∃ z a ys,x=.str z/\vs=[.ref a]/\bM K H a (ys.map V.str)/\(ys.map (·.length)).sum+ys.length*z.length≤16777216/\Q (.str (Txt.join z ys)) H
theorem yL:Fo X "str.join" (rJoin X.K):=by
 intro Z s U H x vs v us Q I rx rv h
 obtain ⟨z,a,ys,rfl,rfl,hq,hl,q⟩:=h
 obtain ⟨t,e⟩:=(show ∃ t,v=Value.str z t from rx)
 subst e
 cases rv with
 | cons r1 r=>
   cases r
   cases (show _=Value.ref a from r1)
   obtain ⟨its,rs,p,hz⟩:=I.list hq
   exact join_list p.isList (by simpa using zX rs) hl fun t' k=>⟨.str _,H,I.tok k,⟨t',rfl⟩,q⟩
def PL (f:Str->Bool):V->List V->Hp->VK->Prop:=fun x vs H Q=>∃ z,x=.str z/\vs=[]/\Q (.bl (f z)) H
theorem sE:Fo X "str.isascii" (PL fun x=>x.cps.all (·<128)):=by
 intro Z s U H x vs v us Q I rx rv h
 obtain ⟨z,rfl,rfl,q⟩:=h
 obtain ⟨t,e⟩:=(show ∃ t,v=Value.str z t from rx)
 subst e
 cases rv
 exact call_gives PySem.F.slot_str_isascii (typeIs_str _ _ _) PySem.F.entry_str_isascii (PySem.F.args_str_isascii_1 _) (gives_str_isascii z t) ⟨.bl _,H,I,rfl,q⟩
theorem rB:Fo X "str.isalpha" (PL fun x=>x.length > 0 && x.cps.all Unicode.isAlpha):=by
 intro Z s U H x vs v us Q I rx rv h
 obtain ⟨z,rfl,rfl,q⟩:=h
 obtain ⟨t,e⟩:=(show ∃ t,v=Value.str z t from rx)
 subst e
 cases rv
 exact call_gives PySem.F.slot_str_isalpha (typeIs_str _ _ _) PySem.F.entry_str_isalpha (PySem.F.args_str_isalpha_1 _) (gives_str_isalpha z t) ⟨.bl _,H,I,rfl,q⟩
theorem tu:Fo X "str.islower" (PL fun x=>x.cps.any Unicode.isLower && !x.cps.any fun c=>Unicode.isUpper c || Unicode.isTitle c):=by
 intro Z s U H x vs v us Q I rx rv h
 obtain ⟨z,rfl,rfl,q⟩:=h
 obtain ⟨t,e⟩:=(show ∃ t,v=Value.str z t from rx)
 subst e
 cases rv
 exact call_gives PySem.F.slot_str_islower (typeIs_str _ _ _) PySem.F.entry_str_islower (PySem.F.args_str_islower_1 _) (gives_str_islower z t) ⟨.bl _,H,I,rfl,q⟩
end
structure GD (osc:Scope) (N:List Str) (scope:Scope) (own:List Str) (js:List Nat) (N':List Str):Prop where
 kind:scope.kind=.function
 nocell:∀ y∈scope.names,y.2≠.cell
 names:∀ y∈scope.names,y.2=.local->scope.names.lookup y.1=some .local
 free:∀ y∈scope.names,y.2=.free->osc.names.lookup y.1=some .cell∨osc.names.lookup y.1=some .free
 nm:N'=own++js.map fun j=>N.getD j Str.empty
 fr:∀ j∈js,j<N.length/\(N.getD j Str.empty,NameKind.free)∈scope.names/\∀ y∈scope.names,y.1=N.getD j Str.empty->y.2=.free
theorem bu.of {X:Cx} {osc scope:Scope} {N own N':List Str} {js:List Nat} (h1:X.env.scope=osc) (h2:X.N=N) (h:GD osc N scope own js N'):bu X scope own js N':=by
 subst h1 h2
 exact ⟨h.kind,h.nocell,h.names,h.free,h.nm,fun j hj=>⟨(h.fr j hj).1,(h.fr j hj).2.1,fun k hk=>(h.fr j hj).2.2 _ hk rfl⟩⟩
mutual
def l_:PyData->Nat
 |.tuple xs=>max xs.length (jC xs)
 |.list xs=>max xs.length (jC xs)
 |_=>0
def jC:List PyData->Nat
 |[]=>0
 |d::r=>max (l_ d) (jC r)
end
theorem lM {e:PyData}:∀ {es:List PyData},e∈es->l_ e≤jC es
 |_::_,.head _=>by simp only [jC];omega
 |_::r,.tail _ h=>by have:=lM h;simp only [jC];omega
theorem dh {X:Cx} {x:Str} {n:String} {pos:Pos} (hg:Gl X x) (hm:X.mg x=none) (hv:bootBuiltins x=some (.type n)) (hn:x ≠ "__name__":=by decide) (hd:(x == ("__debug__" : Str))=false:=by decide):PE X (.Name x pos) (tC (.ty n)):=zb (v:=.ty n) hg hm hv rfl hn hd
theorem cQ {c:Bool} {A B:Prop} (h:c=true) (q:A):if c=true then A else B:=by rw [if_pos h];exact q
theorem b_ {c:Bool} {A B:Prop} (h:c=false) (q:B):if c=true then A else B:=by rw [if_neg (by rw [h];exact Bool.false_ne_true)];exact q
section
variable {X:Cx} {a b c d:Expr} {ta tb tc td:TE} {pos:Pos}
def yN (r r' r'':R2) (ta tb tc td:TE):TE:=fun U H Q=>ta U H fun x H1=>tb U H1 fun y H2=>r x y H2 fun z H3=>∃ k,z=.bl k/\
 (if k=true then tc U H3 fun w' H4=>r' y w' H4 fun z' H5=>∃ k',z'=.bl k'/\(if k'=true then td U H5 fun v' H6=>r'' w' v' H6 Q else Q (.bl false) H5) else Q (.bl false) H3)
theorem vz {op op' op'':CmpOp} {r r' r'':R2} (ho:gR X (compareOp op) r) (ho':gR X (compareOp op') r') (ho'':gR X (compareOp op'') r'') (ha:PE X a ta) (hb:PE X b tb) (hc:PE X c tc) (hd:PE X d td)
 (hm:lastMarks [op,op',op''] [b,c,d]=false:=by with_unfolding_all rfl):PT X (.Compare a [op,op',op''] [b,c,d] pos) (uy (yN r r' r'' ta tb tc td)):=by
 intro Z s U H Q I h
 refine isTrue_chain (bU (ha Z s U H _ I h) fun v s1 ⟨x,H1,I1,r1,q1⟩=>test_link (bU (hb Z s1 U H1 _ I1 q1) fun u s2 ⟨y,H2,I2,r2,q2⟩=>
  bU (ho Z s2 U H2 x y v u _ I2 r1 r2 q2) fun d' s3 ⟨z,H3,I3,r3,k,e,q3⟩=>?_)) hm
 subst e
 cases r3
 refine wpAny_truthy_bool ?_
 cases k with
 | false=>
   obtain ⟨k',e',q'⟩:=q3
   cases e'
   exact ite_ff ⟨H3,I3,q'⟩
 | true=>
   refine ite_tt (test_link (bU (hc Z s3 U H3 _ I3 q3) fun w' s4 ⟨z',H4,I4,r4,q4⟩=>bU (ho' Z s4 U H4 y z' u w' _ I4 r2 r4 q4) fun d'' s5 ⟨z2,H5,I5,r5,k2,e2,q5⟩=>?_))
   subst e2
   cases r5
   refine wpAny_truthy_bool ?_
   cases k2 with
   | false=>
     obtain ⟨k',e',q'⟩:=q5
     cases e'
     exact ite_ff ⟨H5,I5,q'⟩
   | true=>
     refine ite_tt (test_last (bU (hd Z s5 U H5 _ I5 q5) fun w2 s6 ⟨z3,H6,I6,r6,q6⟩=>bU (ho'' Z s6 U H6 z' z3 w' w2 _ I6 r4 r6 q6) fun d3 s7 ⟨z4,H7,I7,r7,k3,e3,q7⟩=>?_))
     subst e3
     cases r7
     exact wpAny_truthy_bool ⟨H7,I7,q7⟩
end
abbrev TF:=Str->St->Hp->VK->Prop
def PF (X:Cx) (es:List Expr) (t:TF):Prop:=
 ∀ (out:Str) (Z:List (Addr×Obj)) (s:Shared) (U:St) (H:Hp) (Q:VK),Inv X Z U H s->t out U H Q->wpAny (model X.prog X.w) X.A (joinParts out (evalEach es X.env)) (EP X Z U Q) X.xe s
def Ot (x:V) (y:Str):Prop:=(x=.str y/\y.length≤sizeLine)∨∃ i:Int,x=.int i/\i.natAbs.log2<1920/\y=Str.ofString (toString i)
section
variable {X:Cx} {es:List Expr} {t:TF} {e:Expr} {te:TE} {pos:Pos}
theorem BZ:PF X [] (fun out _ H Q=>out.length≤sizeLine/\Q (.str out) H):=fun out Z s U H Q I h=>joinParts_nil ⟨.str out,H,I.tok _,⟨_,rfl⟩,h.2⟩ h.1
theorem Dz {x:Str} {j:Nat} (hr:PF X es t) (hs:evalEach (.Constant (.str x) j pos::es) X.env=eval (.Constant (.str x) j pos) X.env::evalEach es X.env:=by rfl) :
 PF X (.Constant (.str x) j pos::es) (fun out U H Q=>(out++x).length≤sizeLine/\t (out++x) U H Q):=by
 intro out Z s U H Q I h
 rw [hs]
 exact joinParts_cons (Calls.Constant_str ⟨h.1,hr (out++x) Z _ U H Q (I.tok _) h.2⟩)
theorem En (he:PE X e te) (hr:PF X es t) (hs:evalEach (.FormattedValue e (-1) none pos::es) X.env=eval (.FormattedValue e (-1) none pos) X.env::evalEach es X.env:=by rfl) :
 PF X (.FormattedValue e (-1) none pos::es) (fun out U H Q=>te U H fun x H1=>∃ y,Ot x y/\(out++y).length≤sizeLine/\t (out++y) U H1 Q):=by
 intro out Z s U H Q I h
 rw [hs]
 refine joinParts_cons (FormattedValue_plain (bU (he Z s U H _ I h) fun v s1 ⟨x,H1,I1,r1,y,fm,hl,q⟩=>?_))
 rcases fm with ⟨rfl,hy⟩|⟨i,rfl,hi,rfl⟩
 ·obtain ⟨tk,rfl⟩:=r1
  exact formatField_str (fun t' tk=>⟨hl,hr _ Z _ U H1 Q (I1.tok tk) q⟩) hy
 ·obtain ⟨tk,rfl⟩:=r1
  exact formatField_int_small hi ⟨hl,hr _ Z _ U H1 Q (I1.tok _) q⟩
def Gr (t:TF):TE:=fun U H Q=>t Str.empty U H Q
theorem y_ {e1 e2:Expr} (h:PF X (e1::e2::es) t) (hs:evalEach (e1::e2::es) X.env=eval e1 X.env::eval e2 X.env::evalEach es X.env:=by rfl):PE X (.JoinedStr (e1::e2::es) pos) (Gr t):=by
 intro Z s U H Q I hw
 refine JoinedStr_many ?_
 rw [← hs]
 exact h _ Z s U H Q I hw
end
section
variable {X:Cx} {CX:mU} {k:Nat} {f C:Addr} {fd:FuncData} {ps:List Str} {sp:Sp} {E:XK}
end
end L2
namespace HT
open PySem PySem.Spec PyProof.Rows
section
variable {prog:Program} {w:World} {A:Around} {E:Value->Shared->Prop} {s:Shared}
theorem yZ {t b:Addr} {ws:List Value} {Q:Value->Shared->Prop} (ht:IsTup s.heap t #[]) (hb:IsTup s.heap b ws.toArray) (h:Q (.ref b) s):wpAny (model prog w) A (binaryOp .Add (.ref t) (.ref b)) Q E s:=by
 obtain ⟨⟨_,dd,_,sl⟩,ho,rfl,n,rfl⟩:=id ht
 obtain ⟨⟨_,dd2,_,sl2⟩,ho2,rfl,n2,rfl⟩:=id hb
 exact concat_meets ⟨_,ho,rfl⟩ ⟨_,ho2,rfl⟩ noFill_tuple_add seq_tuple_add PySem.F.slot_tuple_add PySem.F.entry_tuple_add (PySem.F.args_tuple_add_2 _ _) (tuple_addW0 t b #[] ws.toArray n n2 dd dd2 sl sl2 rfl) ⟨ho,ho2,h⟩
theorem uK {t sl:Addr} {items:Array Value} {a b c:Value} {lo step:Int} {n:Nat} {Q:Value->Shared->Prop} (ht:IsTup s.heap t items) (hs:s.heap.IsSliceOf sl a b c)
 (ha:∀ (A':Around) (Q':Int×Int×Nat->Shared->Prop) (E':Value->Shared->Prop),Q' (lo,step,n) s->wpAny (model prog w) A' (Builtin.Slice.sliceApplied (.ref sl) (pure (items.size:Int))) Q' E' s)
 (h1:(lo == 0 && step == 1 && n == items.size)=true->Q (.ref t) s)
 (h2:¬ (lo == 0 && step == 1 && n == items.size)=true->((List.range n).filterMap fun (k:Nat)=>items[(lo+(k:Int)*step).toNat]?).length≤sizeLine/\
  Q (.ref s.heap.objs.size) { s with heap:=s.heap.push { cls:=.type "tuple",data:=.seq ((List.range n).filterMap fun (k:Nat)=>items[(lo+(k:Int)*step).toNat]?).toArray } }) :
 wpAny (model prog w) A (getItem (.ref t) (.ref sl)) Q E s:=by
 obtain ⟨so,hso,hsc,hsd⟩:=id hs
 have hty:s.TypeIs (.ref sl) "slice":=⟨so,hso,hsc⟩
 obtain ⟨to,hto,htc,nt,htd⟩:=id ht
 unfold getItem
 try with_reducible refine wpAny_holding ?_
 first|refine wpAny_bind (wpAny_pure ?_)|skip
 refine wpAny_bind (wpAny_sequenceKey ht.typeIs (by decide) (wpAny_bind (wpAny_callSpecial?_slot (name:=Str.ofString "__getitem__") ht.typeIs PyProof.Rows.slot_tuple_getitem (wpAny_call_entry PyProof.Rows.slot_tuple_getitem ht.typeIs entry_tuple_getitem ?_ (args_tuple_getitem _ _)))))
 show wpAny _ _ (Builtin.Tuple.tupleItemsOf (.ref t) >>= _) _ _ s
 refine wpAny_bind (tupleItemsOf_ ht (wpAny_bind (wpAny_typeOf hty ?_)))
 rw [if_pos (by decide)]
 refine wpAny_bind (ha _ _ _ ?_)
 show wpAny _ _ (if (lo == 0 && step == 1 && n == items.size)=true then _ else _) _ _ s
 by_cases hw:(lo == 0 && step == 1 && n == items.size)=true
 ·rw [if_pos hw]
  have hx:wpAny (model prog w) A.in1 (Builtin.Tuple.tupleIsExact (.ref t)) (fun b s'=>b=true/\s'=s) E s:=by
   unfold Builtin.Tuple.tupleIsExact
   refine wpAny_bind (wpAny_typeOf_ref hto ?_)
   rw [htc]
   exact wpAny_pure ⟨rfl,rfl⟩
  first
   |refine wpAny_bind (wpAny_mono hx (fun b s' h'=>?_) fun _ _ z=>z)
   |refine wpAny_bind (wpAny_bind (wpAny_mono hx (fun b s' h'=>?_) fun _ _ z=>z))
  obtain ⟨rfl,rfl⟩:=h'
  rw [if_pos rfl]
  first
   |exact wpAny_bind (wpAny_rule (wpAny_pure ⟨_,rfl,wpAny_pure (h1 hw)⟩))
   |exact wpAny_bind (wpAny_rule (wpAny_bind (wpAny_pure (wpAny_pure ⟨_,rfl,wpAny_pure (h1 hw)⟩))))
 ·rw [if_neg hw]
  obtain ⟨hz,hq⟩:=h2 hw
  have hok:sizeOk (.seq ((List.range n).filterMap fun (k:Nat)=>items[(lo+(k:Int)*step).toNat]?).toArray):=by
   show (_:Array Value).size≤sizeLine
   rw [List.size_toArray];exact hz
  first
   |exact wpAny_bind (m:=Builtin.Tuple.tupleExact _) (wpAny_newObj_type (wpAny_pure ⟨_,rfl,wpAny_pure hq⟩) hok)
   |exact wpAny_bind (m:=Builtin.Tuple.tupleExact _) (wpAny_newObj_type (wpAny_bind (wpAny_pure (wpAny_pure ⟨_,rfl,wpAny_pure hq⟩))) hok)
   |exact wpAny_bind (wpAny_bind (m:=Builtin.Tuple.tupleExact _) (wpAny_newObj_type (wpAny_pure (wpAny_pure ⟨_,rfl,wpAny_pure hq⟩)) hok))
end
end HT
namespace L2
open PySem PySem.Spec PyProof.Rows PySem.SeqAt
section
variable {X:Cx}
def Ah (K:PySem.W.Frag):R2:=fun x y H Q=>∃ a b xs ys,x=.ref a/\y=.ref b/\bF K H a xs/\bF K H b ys/\xs.length+ys.length≤sizeLine/\(xs=[]->Q (.ref b) H)/\(ys=[]->Q (.ref a) H)/\∀ p,H p=none->Q (.ref p) (upd H p (.tup (xs++ys)))
theorem z8:gR X (binaryOp .Add) (Ah X.K):=by
 intro Z s U H x y v u Q I rx ry h
 obtain ⟨a,b,xs,ys,rfl,rfl,ha,hb,hz,q0,q1,q2⟩:=h
 by_cases hx:xs=[]
 ·subst hx
  cases (show v=Value.ref a from rx)
  cases (show u=Value.ref b from ry)
  obtain ⟨its,r1,p1,_⟩:=I.tuple ha
  obtain ⟨its2,r2,p2,_⟩:=I.tuple hb
  cases r1
  exact HT.yZ p1 p2 ⟨.ref b,H,I,rfl,q0 rfl⟩
 ·refine z9 Z s U H _ _ v u Q I rx ry ⟨a,b,xs,ys,rfl,rfl,ha,hb,hx,hz,q1,fun _=>q2⟩
def HY (K:PySem.W.Frag):V->Option Int->Option Int->Hp->VK->Prop:=fun x lo hi H Q=>∃ a xs,x=.ref a/\bF K H a xs/\(j0 xs lo hi=xs->Q (.ref a) H)/\∀ p,H p=none->Q (.ref p) (upd H p (.tup (j0 xs lo hi)))
theorem kO:M3 X (HY X.K):=by
 intro Z s U H x v vl vu lo hi sl Q I rx hs pl pu h
 obtain ⟨a,xs,rfl,hx,q1,q2⟩:=h
 by_cases hw:HT.dj xs.length 0 lo=0/\HT.dj xs.length xs.length hi=xs.length
 ·cases (show v=Value.ref a from rx)
  obtain ⟨its,r,ht,hz⟩:=I.tuple hx
  have hlen:its.toArray.size=xs.length:=by rw [List.size_toArray];exact r.length.symm
  refine ⟨"tuple",_,PyProof.Rows.slot_tuple_getitem.lookup,ht.typeIs,?_⟩
  have e:j0 xs lo hi=xs:=by
   unfold j0
   rw [hw.1,hw.2,List.drop_zero,Nat.sub_zero,List.take_length]
  refine HT.uK ht hs (fun A' Q' E' q'=>HT.gC hs pl pu q') (fun _=>⟨.ref a,H,I,rfl,q1 e⟩) fun hn=>(hn ?_).elim
  rw [hlen,hw.1,hw.2]
  simp
 ·exact DY Z s U H _ v vl vu lo hi sl Q I rx hs pl pu ⟨a,xs,rfl,hx,hw,q2⟩
end
section
variable {X:Cx} {CX:mU} {k:Nat} {f C:Addr} {fd:FuncData} {ps:List Str} {sp:Sp} {E:XK}
end
section
variable {X:Cx} {Z:List (Addr×Obj)} {U:St} {H:Hp} {s:Shared} {h':Heap}
theorem Inv.turnLaid {a:Addr} {o:HO} {t':Nat} {fp:List Addr} (I:Inv X Z U H s) (k:∀ b u,b∉fp->s.heap.get? b=some u->h'.get? b=some u) (ke:∀ b∈fp,∃ u,h'.get? b=some u) (hf:∀ b∈fp,gh X Z H b) (hp:s.heap.objs.size≤a) (new:cg X.prog X.w (upd H a o) h' a o) :
 Inv X Z U (upd H a o) { s with heap:=h',toks:=t' }:=by
 have hn:H a=none:=I.hok.fresh hp
 have off:∀ b u,H b=some u->b∉fp:=fun b u e z=>by rw [(hf b z).1] at e;cases e
 have up:∀ b u,H b=some u->(upd H a o) b=some u:=fun b u e=>by rw [aF (aH e hn)];exact e
 refine I.step (g':=s.gens) (d':=s.drawn) (ch:=fp) (fun b hb=>?_) (fun b u _ _ hc e _=>k b u hc e) (fun b u _ _ hc e _=>⟨u.slots,k b u hc e⟩) (fun b u _ e n=>?_) (fun b u hc e=>⟨u,k b u hc e⟩) (fun b xs e=>up b _ e) (fun b u z e=>up b _ e) (fun b ps e=>⟨#[],by rw [up b _ e];simp⟩) (fun m hm=>?_) (fun b u e=>?_) I.bare
 ·obtain ⟨_,f1,_,f3,f4,f5⟩:=hf b hb
  exact ⟨f3,f1,f4,f5⟩
 ·rw [aF (Nat.ne_of_lt (Nat.lt_of_lt_of_le (Heap.lt_size e) hp))];exact n
 ·obtain ⟨u,es,ep,ho,r⟩:=hm
  exact ⟨u,es,ep,k _ u (fun z=>(hf _ z).2.1 rfl) ho,r⟩
 ·by_cases hb:b=a
  ·subst hb;rw [ak] at e;cases e;exact new
  ·rw [aF hb] at e
   refine (I.hok b u e).stay (fun c v hc q=>k c v ?_ q) (fun c q=>up c _ q) fun c xs q=>up c _ q
   rcases hc with rfl|z
   ·exact off _ u e
   ·exact off c _ z
theorem eX {prog:Program} {w:World} {A:Around} {E:Value->Shared->Prop} {s:Shared} {it l:Addr} {i:Nat} {items:Array Value} {x:Value} {Q:Value->Shared->Prop} (hit:s.heap.IsTupleIter it l i) (hl:s.heap.IsTuple l items) (hx:items[i]?=some x)
 (hQ:∀ g,g.IsTupleIter it l (i+1)->Heap.SameBut it s.heap g->Q x { s with heap:=g }):wpAny (model prog w) A (Builtin.SmallTypes.nextOf (.ref it)) Q E s:=by
 obtain ⟨o,ho,hc,hd⟩:=id hit
 obtain ⟨ol,hol,_,nl,hdl⟩:=hl
 unfold Builtin.SmallTypes.nextOf
 refine wpAny_bind (wpAny_callSpecial?_slot (name:=Str.ofString "__next__") hit.typeIs F.slot_tuple_iterator_next (wpAny_call_entry F.slot_tuple_iterator_next hit.typeIs F.entry_tuple_iterator_next ?_ (F.args_tuple_iterator_next_1 _)))
 show wpAny _ _ (field (.ref it) 0 >>= _) _ _ s
 refine wpAny_bind (wpAny_field ho hd (x:=.ref l) rfl ?_)
 show wpAny _ _ (if (Value.ref l == Value.none)=true then _ else _) _ _ s
 rw [if_neg (show ¬ ((Value.ref l == Value.none)=true) from nofun)]
 show wpAny _ _ (field (.ref it) 1 >>= _) _ _ s
 refine wpAny_bind (wpAny_field ho hd (x:=.int i 0) rfl ?_)
 show wpAny _ _ (seqItems? (.ref l) >>= _) _ _ s
 refine wpAny_bind (wpAny_seqItems hol hdl ?_)
 simp only [Int.toNat_natCast,hx]
 refine wpAny_bind (wpAny_setField ho hd (by simp) (wpAny_pure ⟨x,rfl,wpAny_pure (hQ _ ⟨_,Heap.get?_update_self _ ho (Obj.isFreed_of_fields (Obj.data_mapFields hd _)),(Obj.cls_mapFields ..).trans hc,by rw [Obj.data_mapFields hd];simp [rawInt]⟩ (Heap.SameBut.update ..))⟩))
theorem eE {prog:Program} {w:World} {A:Around} {E:Value->Shared->Prop} {s:Shared} {it l:Addr} {i:Nat} {items:Array Value} {Q:Value->Shared->Prop} (hh:A.handled=none) (hit:s.heap.IsTupleIter it l i) (hl:s.heap.IsTuple l items) (hx:items[i]?=none)
 (hE:∀ g e,Heap.ExtBut it s.heap g->(∃ o,g.get? e=some o/\o.cls=.type "StopIteration")->E (.ref e) { s with heap:=g }):wpAny (model prog w) A (Builtin.SmallTypes.nextOf (.ref it)) Q E s:=by
 obtain ⟨o,ho,hc,hd⟩:=id hit
 obtain ⟨ol,hol,_,nl,hdl⟩:=hl
 unfold Builtin.SmallTypes.nextOf
 refine wpAny_bind (wpAny_callSpecial?_slot (name:=Str.ofString "__next__") hit.typeIs F.slot_tuple_iterator_next (wpAny_call_entry F.slot_tuple_iterator_next hit.typeIs F.entry_tuple_iterator_next ?_ (F.args_tuple_iterator_next_1 _)))
 show wpAny _ _ (field (.ref it) 0 >>= _) _ _ s
 refine wpAny_bind (wpAny_field ho hd (x:=.ref l) rfl ?_)
 show wpAny _ _ (if (Value.ref l == Value.none)=true then _ else _) _ _ s
 rw [if_neg (show ¬ ((Value.ref l == Value.none)=true) from nofun)]
 show wpAny _ _ (field (.ref it) 1 >>= _) _ _ s
 refine wpAny_bind (wpAny_field ho hd (x:=.int i 0) rfl ?_)
 show wpAny _ _ (seqItems? (.ref l) >>= _) _ _ s
 refine wpAny_bind (wpAny_seqItems hol hdl ?_)
 simp only [Int.toNat_natCast,hx]
 refine wpAny_bind (wpAny_rule (wpAny_bind (wpAny_setField ho hd (by simp) ?_)))
 show wpAny _ _ (newExc (.type "StopIteration") [] >>= _) _ _ _
 refine wpAny_bind ?_
 simp only [newExc,newTuple]
 refine wpAny_bind (wpAny_newObj_type ?_ (by size_fits))
 refine wpAny_bind (m:=firstArgMember _ _) (wpAny_of_eq (a:=Value.none) (by first|rfl|(simp only [firstArgMember];rfl)) (wpAny_newObj_type ?_ (by size_fits)))
 simp only [raiseNew]
 refine wpAny_bind (wpAny_handled ?_)
 first|rw [show A.in1.handled=none from hh]|rw [hh]
 exact wpAny_bind (wpAny_pure (wpAny_throw (hE _ _ (((Heap.SameBut.update ..).extBut.push _).push _) ⟨_,Heap.get?_push_size _ rfl,rfl⟩)))
theorem Bs {prog:Program} {w:World} {A:Around} (hh:A.handled=none) (it l:Addr) (hne:l≠it) (items:Array Value):Draws prog w A it [it,l] items.size (fun i v=>items[i]?=some v) (fun i h=>h.IsTupleIter it l i/\h.IsTuple l items) where
 live:=fun _ _ st=>let ⟨o,ho,_⟩:=st.1;⟨o,ho⟩
 frame:=fun _ _ _ st hk=>⟨st.1.at fun o e=>hk it (by simp) o e,let ⟨o,e,r⟩:=st.2;⟨o,hk l (by simp) o e,r⟩⟩
 item:=fun i s Q E hi st hQ=>eX st.1 st.2 (x:=items[i]) (by simp [hi]) fun g g1 g2=>hQ _ g s.toks (by simp [hi]) ⟨g1,let ⟨o,e,r⟩:=st.2;⟨o,(g2.2 l hne).trans e,r⟩⟩ g2
 done:=fun s Q E st hE=>eE hh st.1 st.2 (by simp) hE
theorem vo (l:Addr) (items:Array Value) (n:Nat) (dct:Option Addr) (sl:Array (Option Value)) :
 Meets (Builtin.«enumerate.__new__» ⟨[.type "enumerate",.ref l],[]⟩) (fun _ R s=>s.heap.get? l=some { cls:=.type "tuple",dict:=dct,data:=.seq items n,slots:=sl }/\
  R (.ok (.ret (.ref (s.heap.push { cls:=.type "tuple_iterator",data:=.fields #[.ref l,.int 0 0] }).objs.size)))
    { s with heap:=(s.heap.push { cls:=.type "tuple_iterator",data:=.fields #[.ref l,.int 0 0] }).push { cls:=.type "enumerate",data:=.fields #[.none,.bool false,.ref s.heap.objs.size,rawInt 0,.none,.none] } }):=
 .of_wp fun prog w A R s h=>by
  obtain ⟨hp,g,d,tk,os⟩:=s
  obtain ⟨hl,h⟩:=h
  have hsub:=sub_enumerate
  have hL:Heap.IsTuple (Shared.heap ⟨hp,g,d,tk,os⟩) l items:=⟨_,hl,rfl,n,rfl⟩
  wp_walk using AutoSeq1.wpAny_loadPart' hl
  refine wpAny_stack_any fun st=>wpAny_pure ?_
  split
  ·rename_i c _ _ _ _ _
   cases (c == Value.type "enumerate") <;> (wp_walk using AutoSeq1.wpAny_loadPart' hl,wpAny_pyIter_tuple hL;exact ⟨_,rfl,h⟩)
  ·wp_walk using AutoSeq1.wpAny_loadPart' hl,wpAny_pyIter_tuple hL
   exact ⟨_,rfl,h⟩
theorem q_ {prog:Program} {w:World} {A:Around} {E:Value->Shared->Prop} {s:Shared} {l:Addr} {items:Array Value} {Q:Value->Shared->Prop} (hL:s.heap.IsTuple l items)
 (h:∀ g,IsEnum g (s.heap.objs.size+1) s.heap.objs.size 0 .none->g.IsTupleIter s.heap.objs.size l 0->(∀ b o,s.heap.get? b=some o->g.get? b=some o)->Q (.ref (s.heap.objs.size+1)) { s with heap:=g }):wpAny (model prog w) A (call (.type "enumerate") [.ref l]) Q E s:=by
 obtain ⟨⟨_,dd,_,sl⟩,ho,rfl,n,rfl⟩:=id hL
 refine callType_new F.called_enumerate (by decide) (F.typeCall_enumerate_1 _) (F.newCall_enumerate_1 _) (fun obj=>F.args_object_init_2 obj _) F.entry_enumerate_new (vo l items n dd sl) ⟨ho,?_⟩
 have hz:(s.heap.push { cls:=.type "tuple_iterator",data:=.fields #[.ref l,.int 0 0] }).objs.size=s.heap.objs.size+1:=Heap.size_push ..
 have he:=Heap.get?_push_size (s.heap.push { cls:=.type "tuple_iterator",data:=.fields #[.ref l,.int 0 0] }) (o:={ cls:=.type "enumerate",data:=.fields #[.none,.bool false,.ref s.heap.objs.size,rawInt 0,.none,.none] }) rfl
 rw [hz] at he
 show _/\_
 rw [hz]
 exact ⟨⟨_,he,rfl⟩,h _ he ⟨_,Heap.get?_push_of_some _ (Heap.get?_push_size _ rfl),rfl,rfl⟩ fun b o x=>Heap.get?_push_of_some _ (Heap.get?_push_of_some _ x)⟩
def J_ (K:PySem.W.Frag) (a:Addr):It:=
 ⟨fun i H=>∃ xs x,bF K H a xs/\xs[i]?=some x,fun i H v H'=>∃ p x,H p=none/\v=.ref p/\(∀ xs,bF K H a xs->xs[i]?=some x)/\H'=upd H p (.tup [.int i,x]),fun i H=>∃ xs,bF K H a xs/\xs.length≤i⟩
theorem rM {P:Program} {w:World} {K:PySem.W.Frag} {elts:List Expr} {k1} {pos:Pos} (a e it:Addr) (hei:e≠it):Turn P w K (.Tuple elts k1 pos) (J_ K a) [e,it] e (fun i h=>(∃ old,IsEnum h e it i old)/\h.IsTupleIter it a i) where
 mem:=by simp
 obj:=fun i h st b hb=>by
  obtain ⟨⟨old,h1⟩,o,h2,_,h3⟩:=st
  rcases List.mem_cons.mp hb with rfl|hb
  ·exact ⟨_,h1,fun v z=>by cases (show Data.fields _=Data.cell v from z)⟩
  ·cases List.mem_singleton.mp hb
   exact ⟨o,h2,fun v z=>by rw [h3] at z;cases z⟩
 keep:=fun i h h' st k=>⟨let ⟨old,h1⟩:=st.1;⟨old,k e (by simp) _ h1⟩,st.2.at fun o z=>k it (by simp) o z⟩
 item:=by
  intro X hP hw hK hc i Z s U H E I hf st hg
  subst hP hw hK
  obtain ⟨xs,x,hq,hx⟩:=hg
  obtain ⟨its,rv,p,hz⟩:=I.tuple hq
  obtain ⟨u,hu,ru⟩:=rv.get hx
  obtain ⟨⟨old,he⟩,ht⟩:=st
  have hit:s.heap.IsTuple a its.toArray:=p
  have han:a≠it:=by
   rintro rfl
   obtain ⟨o1,h1,h2,_⟩:=id hit
   obtain ⟨o2,h3,h4,_⟩:=id ht
   rw [h1] at h3;cases h3
   rw [h2] at h4;exact absurd (Value.type.inj h4) (by decide)
  have hae:a≠e:=by
   rintro rfl
   obtain ⟨o1,h1,h2,_⟩:=id hit
   rw [he] at h1;cases h1
   exact absurd (Value.type.inj h2) (by decide)
  have D:=Bs (prog:=X.prog) (w:=X.w) (A:=X.A.in1) (I.ok.hd hc) it a han its.toArray
  have hlt:i<its.toArray.size:=by
   have:=(List.getElem?_eq_some_iff.mp hx).1
   have hl:=rv.length
   rw [List.size_toArray];omega
  refine wpAny_pyNext_enum_itemD D he ⟨ht,hit⟩ hlt hei (by simp [hei,Ne.symm hae]) fun y g tk hy ho hst' htup hsz hk=>?_
  have e1:y=u:=by
   have:its.toArray[i]?=some u:=by simpa using hu
   rw [this] at hy;exact (Option.some.inj hy).symm
  subst e1
  refine ⟨_,rfl,?_⟩
  have helt:e<s.heap.objs.size:=Heap.lt_size he
  have hilt:it<s.heap.objs.size:=let ⟨o,z,_⟩:=ht;Heap.lt_size z
  have I1:Inv X Z U (upd H s.heap.objs.size (.tup [.int i,x])) { s with heap:=g,toks:=tk+1 }:=by
   refine I.turnLaid (fp:=[e,it]) (fun b o hb z=>hk b o (fun q=>hb (by simp [q])) (fun q=>hb (by simp [q])) z) (fun b hb=>?_) hf (Nat.le_refl _) ?_
   ·rcases List.mem_cons.mp hb with rfl|hb
    ·exact ⟨_,ho⟩
    ·cases List.mem_singleton.mp hb
     exact let ⟨o,z,_⟩:=hst'.1;⟨o,z⟩
   ·exact ⟨by show 2≤sizeLine;decide,[.int i tk,y],.cons ⟨_,rfl⟩ (.cons ru .nil),⟨_,htup,rfl,_,rfl⟩⟩
  have hno:∀ b∈[e,it],(upd H s.heap.objs.size (.tup [.int i,x])) b=none:=fun b hb=>by
   have hbl:b<s.heap.objs.size:=by
    rcases List.mem_cons.mp hb with rfl|hb
    ·exact helt
    ·cases List.mem_singleton.mp hb;exact hilt
   rw [aF (Nat.ne_of_lt hbl)]
   exact (hf b hb).1
  refine wpAny_letOwnedTupleGo_enum ho fun g2 he2 hs2=>?_
  obtain ⟨f0,f1,f2,f3,f4,f5⟩:=hf e (by simp)
  refine ⟨.ref s.heap.objs.size,_,I1.turned (t':=tk+1) (fun b o hb z=>(hs2.2 b hb).trans z) (hno e (by simp)) f1 f3 f4 f5,rfl,⟨s.heap.objs.size,x,I.hok.fresh (Nat.le_refl _),rfl,fun ys hy=>by rw [I.tuple_inj hy hq];exact hx,rfl⟩,⟨⟨_,by simpa using he2⟩,?_⟩,hno⟩
  exact hst'.1.at fun o z=>(hs2.2 it (Ne.symm hei)).trans z
 done:=by
  intro X hP hw hK hc i Z s U H E I hf st hg
  subst hP hw hK
  obtain ⟨xs,hq,hx⟩:=hg
  obtain ⟨its,rv,p,hz⟩:=I.tuple hq
  obtain ⟨⟨old,he⟩,ht⟩:=st
  obtain ⟨f0,f1,f2,f3,f4,f5⟩:=hf it (by simp)
  have hl:=rv.length
  have hT:s.TypeIs (.ref e) "enumerate":=⟨_,he,rfl⟩
  unfold pyNext
  refine wpAny_bind (wpAny_attempt (wpAny_callSpecial?_slot (name:=Str.ofString "__next__") hT F.slot_enumerate_next (wpAny_call_entry F.slot_enumerate_next hT F.entry_enumerate_next ?_ (F.args_enumerate_next_1 _))))
  show wpAny _ _ (field (.ref e) 2 >>= _) _ _ _
  refine wpAny_bind (wpAny_field he rfl (x:=.ref it) rfl (wpAny_bind (eE (A:=X.A.in1) (I.ok.hd hc) ht (show s.heap.IsTuple a its.toArray from p) (by simp;omega) fun g x ex hx'=>?_)))
  obtain ⟨o,ho,hcl⟩:=hx'
  exact wpAny_bind (wpAny_isInstance (T:="StopIteration") (b:=true) ⟨o,ho,hcl⟩ isSubtype_stop (wpAny_pure ⟨rfl,I.turned (t':=s.toks) (fun b o hb e=>ex b o hb e) f0 f1 f3 f4 f5⟩))
 self:=fun _ _ _ _ _ st h=>let ⟨_,he⟩:=st.1;wpAny_pyIter_enum he h
def Io (K:PySem.W.Frag) (ta:TA):TI:=fun U H R=>ta U H fun vs H1=>∃ a,vs=[.ref a]/\(∃ xs,bF K H1 a xs)/\R (J_ K a) H1
theorem yE {elts:List Expr} {k1} {pt:Pos} {a:Expr} {ta:TA} {p pos:Pos} (hg:Gl X "enumerate") (hm:X.mg "enumerate" = none) (hv:bootBuiltins "enumerate" = some (.type "enumerate")) (ha:PA X [a] ta) (hs:starEach [a] X.env=[(false,eval a X.env)]:=by rfl):PI X (.Tuple elts k1 pt) (.Call (.Name "enumerate" p) [a] [] pos) (Io X.K ta):=by
 intro Z s U H R I h
 refine Call_ (iw I hg hm hv (PyProof.Rows.callWith_type1 (bU (ha pos Z s U H _ I h) fun us s1 ⟨vs,H1,I1,r1,q1⟩=>?_) hs rfl))
 obtain ⟨l,rfl,⟨xs,hq⟩,q⟩:=q1
 obtain ⟨u,rfl,e⟩:=vals1 r1
 cases (show u=Value.ref l from e)
 obtain ⟨its,rv,hp,hz⟩:=I1.tuple hq
 refine q_ (show s1.heap.IsTuple l its.toArray from hp) fun g he hi hk=>wpAny_pyIter_enum he ?_
 refine ⟨s1.heap.objs.size+1,[s1.heap.objs.size+1,s1.heap.objs.size],_,_,H1,rfl,I1.kept (t':=s1.toks) hk,rM l _ s1.heap.objs.size (Nat.succ_ne_self _),⟨⟨_,he⟩,hi⟩,fun b hb=>?_,q⟩
 rcases List.mem_cons.mp hb with rfl|hb
 ·exact I1.fpOk (Nat.le_succ _) (I1.hok.fresh (Nat.le_succ _))
 ·cases List.mem_singleton.mp hb
  exact I1.fpOk (Nat.le_refl _) (I1.hok.fresh (Nat.le_refl _))
theorem vP {K:PySem.W.Frag} {a:Addr} {xs:List V} {g:TG} {tb:TS} {D:Ends} {U:St} {H:Hp} (Pv:Nat->St->Hp->Prop) (h0:Pv 0 U H) (hl:∀ i U H,i≤xs.length->Pv i U H->bF K H a xs)
 (hs:∀ i x U H p,xs[i]?=some x->Pv i U H->H p=none->g (.ref p) U (upd H p (.tup [.int i,x])) fun σ2 H2=>tb { D with nx:=Pv (i+1),ct:=Pv (i+1),bk:=D.nx } σ2 H2)
 (hd:∀ U H,Pv xs.length U H->D.nx U H) :
 ∃ W:Nat->Nat->St->Hp->Prop,(∃ m,W 0 m U H)/\∀ i m U H,W i m U H->((J_ K a).stop i H/\D.nx U H)∨((J_ K a).go i H/\∃ N:St->Hp->Prop,(∀ σ' H',N σ' H'->∃ m',m'<m/\W (i+1) m' σ' H')/\∀ x H',(J_ K a).yld i H x H'->g x U H' fun σ2 H2=>tb { D with nx:=N,ct:=N,bk:=D.nx } σ2 H2):=by
 refine ⟨fun i m U H=>m=xs.length-i/\i≤xs.length/\Pv i U H,⟨xs.length,by simp,Nat.zero_le _,h0⟩,?_⟩
 rintro i m U H ⟨rfl,hi,p⟩
 have q:=hl i U H hi p
 by_cases hlt:i<xs.length
 ·refine .inr ⟨⟨xs,xs[i],q,by simp [hlt]⟩,Pv (i+1),fun σ' H' z=>⟨xs.length-(i+1),by omega,rfl,hlt,z⟩,?_⟩
  rintro x H' ⟨p',y,hn,rfl,hy,rfl⟩
  exact hs i y U H p' (hy xs q) p hn
 ·have e:i=xs.length:=by omega
  subst e
  exact .inl ⟨⟨xs,q,Nat.le_refl _⟩,hd U H p⟩
theorem ji:bootBuiltins "enumerate" = some (.type "enumerate"):=by decide +kernel
end
def jV (h:Heap) (H:Hp) (g:Heap) (e:Addr) (cls:Value) (dd:Option Addr):Prop:=
 ∃ oe vs,h.get? e=some oe/\oe.cls=cls/\oe.dict=dd/\oe.data=.fields vs/\g.get? e=none/\H e=none/\
   (vs[1]?=some .none∨∃ T oT ts,vs[1]?=some (.ref T)/\T≠e/\h.get? T=some oT/\oT.data=.fields ts/\ts[3]?=some .none/\g.get? T=none/\H T=none)
theorem jV.mono {h:Heap} {H:Hp} {g g':Heap} {e:Addr} {cls:Value} {dd:Option Addr} (x:jV h H g e cls dd) (hl:∀ b,g.get? b=none->g'.get? b=none):jV h H g' e cls dd:=by
 obtain ⟨oe,vs,h1,h2,h3,h4,h5,h6,h7⟩:=x
 refine ⟨oe,vs,h1,h2,h3,h4,hl _ h5,h6,?_⟩
 rcases h7 with h7|⟨T,oT,ts,a,b,c,d,f,gT,i⟩
 ·exact .inl h7
 ·exact .inr ⟨T,oT,ts,a,b,c,d,f,hl _ gT,i⟩
theorem vB (f:Array Value->Array Value) (o:Obj):(Obj.mapFields f o).dict=o.dict:=by
 obtain ⟨c,d,da,sl⟩:=o
 cases da <;> rfl
section
variable {M:Model} {A:Around} {E:Value->Shared->Prop} {s:Shared}
theorem wW {base:Heap} {env:Env} {outer:List Env} {L e:Addr} {oe:Obj} {vs:Array Value} {head:Value} {hadNext:Bool} {Q:Unit->Shared->Prop} (hfr:A.frames=some (env::outer)) (hl:s.heap.FunFrames base (env::outer)) (hf:env.frame=some L)
 (he:s.heap.get? e=some oe) (hd:oe.data=.fields vs) (hsz:1<vs.size)
 (h:∀ (h':Heap) (T:Addr) (oe' oT:Obj) (vs' ts:Array Value),s.heap.objs.size≤T->h'.get? e=some oe'->oe'.cls=oe.cls->oe'.dict=oe.dict->oe'.data=.fields vs'->vs'[1]?=some (.ref T)->h'.get? T=some oT->oT.data=.fields ts->ts[3]?=some .none->
  (∀ b o,b≠e->b∉(env::outer).filterMap (·.frame)->s.heap.get? b=some o->h'.get? b=some o)->(∀ b o,b≠e->s.heap.get? b=some o->∃ sl,h'.get? b=some { o with slots:=sl })->Q () { s with heap:=h' }) :
 wpAny M A (do let a ← frameOf env;let pl ← entryPlaceOf L hadNext;let b ← EntryCells.newEntry head a .none (rawInt L) .none pl;setField (.ref e) 1 b) (fun _ s'=>wpAny M A (setFlight (.ref e) none) Q E s') E s:=by
 have hene:e∉(env::outer).filterMap (·.frame):=fun hm=>by
  obtain ⟨_,o,ho,hnf⟩:=hl.mem hm
  rw [he] at ho
  cases ho
  exact hnf vs hd
 refine wpAny_bind (wpAny_frameOf_fun hfr hl hf fun g hs=>wpAny_bind (wpAny_entryPlaceOf fun pl hpl=>?_))
 unfold EntryCells.newEntry newFields
 refine wpAny_bind (wpAny_newObj_type ?_ (hpl.sizeOk5 _ _ _ _ _))
 have ge:g.get? e=some oe:=(hs.2.1 e hene).trans he
 generalize hto:([head,.ref L,.none,rawInt L,.none]++(if pl.isEmpty then List.replicate 6 Value.none else pl)).toArray=tv
 have t3:3<tv.size:=by
  rw [← hto]
  simp only [List.size_toArray,List.length_append,List.length_cons,List.length_nil]
  omega
 have pe:=Heap.get?_push_of_some (h:=g) { cls:=.type "traceback",dict:=none,data:=.fields tv } ge
 refine wpAny_setField pe hd hsz ?_
 have ne:g.objs.size≠e:=Nat.ne_of_gt (Heap.lt_size ge)
 have d3:=Obj.data_mapFields hd (·.setIfInBounds 1 (Value.ref g.objs.size))
 have e3:=Heap.get?_update_self (Obj.mapFields (·.setIfInBounds 1 (Value.ref g.objs.size))) pe (Obj.isFreed_of_fields d3)
 have T3:=(Heap.get?_update_other (g.push { cls:=.type "traceback",dict:=none,data:=.fields tv }) (Obj.mapFields (·.setIfInBounds 1 (Value.ref g.objs.size))) (Ne.symm ne)).trans (Heap.get?_push_size g rfl)
 unfold setFlight
 refine wpAny_bind (wpAny_field e3 d3 (x:=.ref g.objs.size) (by simp [hsz]) ?_)
 rw [if_pos (show (Value.ref g.objs.size != Value.none)=true by simp)]
 refine wpAny_setField T3 rfl t3 ?_
 have hgz:s.heap.objs.size≤g.objs.size:=Nat.le_of_eq hs.1.symm
 have keep:∀ b o,b≠e->g.get? b=some o->(((g.push { cls:=.type "traceback",dict:=none,data:=.fields tv }).update e (Obj.mapFields (·.setIfInBounds 1 (Value.ref g.objs.size)))).update g.objs.size (Obj.mapFields (·.setIfInBounds 3 ((none:Option Addr).elim Value.none fun f=>rawInt f)))).get? b=some o:=fun b o hb hg=>by
  rw [Heap.get?_update_other _ _ (Nat.ne_of_gt (Heap.lt_size hg)),Heap.get?_update_other _ _ (Ne.symm hb)]
  exact Heap.get?_push_of_some _ hg
 refine h _ g.objs.size _ _ _ _ hgz (by rw [Heap.get?_update_other _ _ ne];exact e3) (Obj.cls_mapFields _ _) (vB _ _) d3 (by simp [hsz]) (Heap.get?_update_self _ T3 (Obj.isFreed_of_fields (Obj.data_mapFields rfl _))) (Obj.data_mapFields rfl _) (by simp [t3]) (fun b o hb hbf hbo=>keep b o hb ((hs.2.1 b hbf).trans hbo)) fun b o hb hbo=>?_
 obtain ⟨sl,q⟩:=hs.2.2 b o hbo
 exact ⟨sl,keep b _ hb q⟩
end
section
variable {X:Cx} {Z:List (Addr×Obj)} {U:St} {H:Hp} {s:Shared} {e:Addr} {cls:Value} {dd:Option Addr}
theorem leaveX {A:Around} {Q:Unit->Shared->Prop} {E:Value->Shared->Prop} (I:Inv X Z U H s) (hst:X.stack=X.env::X.outer) (hfm:X.env.frame=some X.env.locals) (hfr:A.frames=some X.stack) (hex:X.ex=[]) (x:jV s.heap H X.s₀.heap e cls dd)
 (h:∀ h',jV h' H X.s₀.heap e cls dd->Un (frs X.outer) [] X.H₀ H X.s₀.heap h'->iC X.prog X.w H h'->Q () { s with heap:=h' }):wpAny (model X.prog X.w) A (leaving X.env (.ref e)) Q E s:=by
 have hl:=I.stack
 rw [hst] at hfr hl
 obtain ⟨oe,vs,h1,h2,h3,h4,h5,h6,h7⟩:=x
 have free:∀ b∈(X.env::X.outer).filterMap (·.frame),H b=none:=fun b hb=>I.stkFree b (by rw [hst];exact hb)
 have fin:∀ (h':Heap) (T:Addr) (oe' oT:Obj) (vs' ts:Array Value),X.s₀.heap.get? T=none->T≠e->H T=none->h'.get? e=some oe'->oe'.cls=oe.cls->oe'.dict=oe.dict->oe'.data=.fields vs'->vs'[1]?=some (.ref T)->h'.get? T=some oT->oT.data=.fields ts->ts[3]?=some .none->
  (∀ b o,b≠e->(H b≠none∨∃ o₀,X.s₀.heap.get? b=some o₀)->b∉(X.env::X.outer).filterMap (·.frame)->s.heap.get? b=some o->h'.get? b=some o)->(∀ b o,(∃ o₀,X.s₀.heap.get? b=some o₀)->s.heap.get? b=some o->∃ sl,h'.get? b=some { o with slots:=sl })->Q () { s with heap:=h' }:=by
  intro h' T oe' oT vs' ts hT hTe hTn g1 g2 g3 g4 g5 g6 g7 g8 kp ks
  refine h h' ⟨oe',vs',g1,g2.trans h2,g3.trans h3,g4,h5,h6,.inr ⟨T,oT,ts,g5,hTe,g6,g7,g8,hT,hTn⟩⟩ ?_ ?_
  ·have B:=I.base
   rw [hex] at B
   have nl:∀ b o,X.s₀.heap.get? b=some o->b<X.s₀.heap.objs.size:=fun b o z=>Heap.lt_size z
   have ninF:∀ b,b<X.s₀.heap.objs.size->b∉frs X.outer->b∉(X.env::X.outer).filterMap (·.frame):=fun b hb hn hm=>by
    rw [List.filterMap_cons,hfm] at hm
    rcases List.mem_cons.mp hm with rfl|hm
    ·exact absurd (Nat.lt_of_lt_of_le hb I.ok.above) (Nat.lt_irrefl _)
    ·exact hn hm
   refine ⟨fun b o z n hb hx=>kp b o (fun q=>by subst q;rw [h5] at z;cases z) (.inr ⟨o,z⟩) (ninF b (nl b o z) hb) (B.keep b o z n hb hx),fun b o z n hb hx=>?_,B.free,fun b o z hx=>?_,B.tups,B.frzs,B.tbls⟩
   ·obtain ⟨sl,q⟩:=B.slot b o z n hb hx
    obtain ⟨sl',q'⟩:=ks b _ ⟨o,z⟩ q
    exact ⟨sl',q'⟩
   ·obtain ⟨o',q⟩:=B.there b o z hx
    obtain ⟨sl',q'⟩:=ks b _ ⟨o,z⟩ q
    exact ⟨_,q'⟩
  ·intro b u hb
   refine (I.hok b u hb).stay (fun c v hc q=>kp c v ?_ (.inl ?_) ?_ q) (fun _ q=>q) fun _ _ q=>q
   ·rintro rfl
    rcases hc with rfl|z
    ·rw [h6] at hb;cases hb
    ·rw [h6] at z;cases z
   ·rcases hc with rfl|z
    ·rw [hb];simp
    ·rw [z];simp
   ·intro hm
    have:=free c hm
    rcases hc with rfl|z
    ·rw [this] at hb;cases hb
    ·rw [this] at z;cases z
 unfold leaving noteFrame
 simp only [hfm]
 rcases h7 with h7|⟨T,oT,ts,t1,t2,t3,t4,t5,t6,t7⟩
 ·refine wpAny_bind (wpAny_bind (wpAny_field h1 h4 h7 ?_))
  rw [if_neg (by decide)]
  refine wW hfr hl hfm h1 h4 (Array.getElem?_eq_some_iff.mp h7).1 fun h' T oe' oT vs' ts hT g1 g2 g3 g4 g5 g6 g7 g8 kp ks=>?_
  have hTe:T≠e:=fun q=>by subst q;exact absurd (Nat.lt_of_lt_of_le (Heap.lt_size h1) hT) (Nat.lt_irrefl _)
  exact fin h' T oe' oT vs' ts (Heap.get?_none_of_le (Nat.le_trans I.sz hT)) hTe (I.hok.fresh hT) g1 g2 g3 g4 g5 g6 g7 g8 (fun b o hb _ hm z=>kp b o hb hm z) fun b o hb z=>ks b o (fun q=>by subst q;obtain ⟨_,hb⟩:=hb;rw [h5] at hb;cases hb) z
 ·refine wpAny_bind (wpAny_bind (wpAny_field h1 h4 t1 ?_))
  rw [if_pos (show (Value.ref T != Value.none)=true by simp)]
  refine wpAny_bind (wpAny_field t3 t4 t5 ?_)
  rw [if_neg (show ¬ ((Value.none == rawInt X.env.locals)=true) by simp [rawInt])]
  refine wpAny_bind (wpAny_setField t3 t4 (Array.getElem?_eq_some_iff.mp t5).1 ?_)
  have other:∀ b,b≠T->(s.heap.update T (Obj.mapFields (·.setIfInBounds 3 Value.none))).get? b=s.heap.get? b:=fun b hb=>Heap.get?_update_other _ _ (Ne.symm hb)
  have noR:∀ b o,s.heap.get? b=some o->(∀ vs,o.data≠.fields vs)->b≠T:=fun b o hb hnf q=>by
   subst q
   rw [t3] at hb
   cases hb
   exact hnf ts t4
  refine wW (s:={ s with heap:=s.heap.update T (Obj.mapFields (·.setIfInBounds 3 Value.none)) }) hfr (hl.of_keeps fun b o hb hnf=>⟨o,(other b (noR b o hb hnf)).trans hb,rfl⟩) hfm ((other e (Ne.symm t2)).trans h1) h4 (Array.getElem?_eq_some_iff.mp t1).1 fun h' T' oe' oT' vs' ts' hT g1 g2 g3 g4 g5 g6 g7 g8 kp ks=>?_
  have hT':s.heap.objs.size≤T':=by
   have z:(s.heap.update T (Obj.mapFields (·.setIfInBounds 3 Value.none))).objs.size=s.heap.objs.size:=Heap.size_update _ _ _
   exact Nat.le_trans (Nat.le_of_eq z.symm) hT
  have hTe:T'≠e:=fun q=>by subst q;exact absurd (Nat.lt_of_lt_of_le (Heap.lt_size h1) hT') (Nat.lt_irrefl _)
  refine fin h' T' oe' oT' vs' ts' (Heap.get?_none_of_le (Nat.le_trans I.sz hT')) hTe (I.hok.fresh hT') g1 g2 g3 g4 g5 g6 g7 g8 (fun b o hb hq hm z=>kp b o hb hm ((other b ?_).trans z)) fun b o hb z=>ks b o (fun q=>by subst q;obtain ⟨_,hb⟩:=hb;rw [h5] at hb;cases hb) ((other b ?_).trans z)
  ·rintro rfl
   rcases hq with hq|hq
   ·exact hq t7
   ·obtain ⟨_,hq⟩:=hq
    rw [t6] at hq;cases hq
  ·rintro rfl
   obtain ⟨_,hb⟩:=hb
   rw [t6] at hb;cases hb
end
def qY (P:Program) (w:World):mU:=fun outer H s E e s'=>∃ (ea:Addr) (cls:Value) (dd:Option Addr) (H':Hp),e=.ref ea/\s'.os=s.os/\AllBare s'.gens/\Un (frs outer) [] H H' s.heap s'.heap/\iC P w H' s'.heap/\jV s'.heap H' s.heap ea cls dd/\E cls dd H'
section
variable {P:Program} {w:World} {K:PySem.W.Frag} {mg:Str->Option Value} {base:Heap} {N:List Str} {qual:Str} {scope:Scope} {f:Addr} {cd:Value} {A:Around} {outer:List Env} {s:Shared} {H:Hp} {E:XK}
theorem Ly {Z:List (Addr×Obj)} {U:St} {H':Hp} {s':Shared} {e:Addr} {cls:Value} {dd:Option Addr} (I:Inv (jG (qY P w) P w K mg base N qual scope f cd A outer s H E) Z U H' s') (x:jV s'.heap H' s.heap e cls dd) (h:E cls dd H') :
 (jG (qY P w) P w K mg base N qual scope f cd A outer s H E).xe (.ref e) s':=
 leaveX I rfl rfl I.ok.frames rfl x fun h' x' u k=>⟨e,cls,dd,H',rfl,I.os,I.bare,u,k,x',h⟩
theorem ut {E':XK} (hE:∀ cls dd H',E' cls dd H'->E cls dd H'):fu (qY P w) (jG (qY P w) P w K mg base N qual scope f cd A outer s H E) E':=by
 intro Z U H1 s1 e s' I h
 obtain ⟨ea,cls,dd,H',rfl,os,bare,un,hok,x,q⟩:=h
 obtain ⟨hh,g,d,t,os'⟩:=s'
 obtain rfl:os'=s1.os:=os
 have I':Inv (jG (qY P w) P w K mg base N qual scope f cd A outer s H E) Z U H' ⟨hh,g,d,t,s1.os⟩:=I.call (h':=hh) (g':=g) (d':=d) (t':=t) (ch:=[]) un hok bare (fun b z=>absurd z (by simp))
 refine Ly I' (x.mono fun b hb=>?_) (hE _ _ _ q)
 cases z:s.heap.get? b with
 |none=>rfl
 | some o=>
   obtain ⟨o',q'⟩:=I.base.there b o z (by intro hz;cases hz)
   rw [hb] at q';cases q'
end
end L2
namespace L2
open PySem PySem.Spec PyProof.Rows PySem.SeqAt PySem.W
def i_ (K:Frag) (C:Addr) (B newId:String):Bool:=match K.lookup C with
 |some ⟨_,_,.cls cd,sl⟩=>!cd.abstract && !cd.hasDel && (sl.toList[4]?).join == some (.builtin newId) && !cd.mro.isEmpty && cd.mro.contains (.ref C) && cd.mro.contains (.type B) && cd.mro.contains (.type "BaseException") && !cd.mro.contains (.type "AttributeError") && !cd.mro.contains (.type "NameError") &&
  specialIn K (.ref C) "__call__" == some (some (.builtin "type.__call__")) && instIn K (.ref C) (.type "type") == some true
 |_=>false
structure qW (M:Model) (h:Heap) (C:Addr) (B newId:String):Prop where
 obj:∃ oc od cd sl,h.get? C=some ⟨oc,od,.cls cd,sl⟩/\cd.abstract=false/\cd.hasDel=false/\cd.mro.isEmpty=false
 made:Looks M h (Bind.madeBy (.ref C)) (some newId)
 base:Looks M h (Bind.staticBase (.ref C)) (.ref C)
 self:Looks M h (isSubtype (.ref C) (.ref C)) true
 isB:Looks M h (isSubtype (.ref C) (.type B)) true
 isE:Looks M h (isSubtype (.ref C) (.type "BaseException")) true
 noA:Looks M h (isSubtype (.ref C) (.type "AttributeError")) false
 noN:Looks M h (isSubtype (.ref C) (.type "NameError")) false
 call:Looks M h (specialOf (.ref C) "__call__") (some (.builtin "type.__call__"))
 typ:Looks M h (isInstance (.ref C) (.type "type")) true
theorem jJ {K:Frag} {M:Model} {h:Heap} (X:K.In h) {C:Addr} {B newId:String} (e:i_ K C B newId=true):qW M h C B newId:=by
 unfold i_ at e
 split at e
 ·rename_i oc od cd sl ho
  simp only [Bool.and_eq_true,Bool.not_eq_true',beq_iff_eq] at e
  obtain ⟨⟨⟨⟨⟨⟨⟨⟨⟨⟨e1,e2⟩,e3⟩,e4⟩,e5⟩,e6⟩,e7⟩,e8⟩,e9⟩,e10⟩,e11⟩:=e
  have hc:clsIn K C=some cd:=by unfold clsIn;rw [ho]
  have hm:Looks M h (mroOf (.ref C)) cd.mro:=(looks_clsIn X hc).andThen .now
  obtain ⟨c,l,hl⟩:∃ c l,cd.mro=c::l:=by
   cases q:cd.mro with
   |nil=>rw [q] at e4;cases e4
   |cons c l=>exact ⟨c,l,rfl⟩
  have made:Looks M h (Bind.madeBy (.ref C)) (some newId):=by
   intro A Q E s k q
   unfold Bind.madeBy
   refine wpAny_bind (hm A _ E s k ?_)
   rw [hl,List.forIn_cons]
   refine wpAny_bind (wpAny_bind (wpAny_bind (wpAny_bind (wpAny_loadPart (k _ _ (X _ _ ho)) (wpAny_pure ?_)))))
   dsimp only
   rw [← Array.getElem?_toList,e3]
   exact wpAny_pure (wpAny_pure (wpAny_pure q))
  have sub:∀ (v:Value) (b:Bool),cd.mro.contains v=b->Looks M h (isSubtype (.ref C) v) b:=fun v b z=>looks_mroIn X (by unfold mroIn;rw [hc,Option.bind_some,if_neg (by rw [e4];decide),z])
  refine ⟨⟨oc,od,cd,sl,X _ _ ho,e1,e2,e4⟩,made,?_,sub _ _ e5,sub _ _ e6,sub _ _ e7,sub _ _ e8,sub _ _ e9,looks_specialIn X e10,looks_instIn X e11⟩
  intro A Q E s k q
  unfold Bind.staticBase
  refine wpAny_bind (hm A _ E s k ?_)
  rw [hl,List.forIn_cons]
  exact wpAny_bind (wpAny_bind (wpAny_bind (made A _ E s k (wpAny_pure (wpAny_pure (wpAny_pure q))))))
 ·cases e
abbrev dM (C t:Addr):Obj:={ cls:=.ref C,data:=.fields #[.ref t,.none,.none,.none,.bool false,.none] }
section
variable {prog:Program} {w:World} {A:Around} {C:Addr} {R:Result->Shared->Prop} {h:Heap} {g:Array GenState} {d:Drawn} {t:Nat} {os:OsState} {B newId initId:String} {bm:List Value}
theorem newX (F:ExcBaseFacts B newId initId bm) {rest:List Value} (Y:qW (model prog w) h C B newId) (hrest:rest.length≤sizeLine)
 (hq:R (.ok (.ret (.ref (h.objs.size+1)))) ⟨(h.push { cls:=.type "tuple",data:=.seq rest.toArray }).push (dM C h.objs.size),g,d,t,os⟩) :
 codeAny (model prog w) A (.call (.builtin newId) ⟨.ref C::rest,[]⟩) R ⟨h,g,d,t,os⟩:=by
 obtain ⟨⟨oc,od,cd,sl,hC,e1,e2,e4⟩,made,base,self,isB,isE,noA,noN,call,typ⟩:=Y
 have hstar:=F.noStar
 have hends:=F.ends
 refine codeAny_call_builtin_code (Code.quiet_builtin _ F.quiet) ?_
 simp only [checkBuiltinCall,F.newKind,F.newSplit,F.newRow]
 have here:Looks (model prog w) h (Bind.madeHere newId (.ref C)) ():=base.andThen (made.andThen (Looks.of_pure (by simp only [Option.map_some,bne_self_eq_false,Bool.false_eq_true,if_false])))
 repeat (first|simp only [bne_self_eq_false,Bool.false_eq_true,if_false]|lk)
 repeat (first|wp_step)
 refine PySem.codeAny_builtinAt F.entry ?_
 unfold Builtin.«BaseException.__new__»
 refine PySem.wpAt_bind ?_
 show PySem.wpAt _ _ _ (stack >>= _) _ _ _
 refine PySem.wpAt_bind (PySem.wpAt_stack fun p below=>PySem.wpAt_of_wpAny ?_)
 wp_walk
 refine PySem.wpAt_of_wpAny ?_
 rw [F.owner]
 have here2:Looks (model prog w) h (Bind.madeHere "BaseException.__new__" (.ref C)) ():=base.andThen (made.andThen (Looks.of_pure (by simp only [Option.map_some,F.canon,bne_self_eq_false,Bool.false_eq_true,if_false])))
 repeat (first|with_reducible refine here2.at ?_|with_reducible refine isB.at ?_|with_reducible refine noA.at ?_|with_reducible refine noN.at ?_|with_reducible refine wpAny_loadPart_at hC ?_|wp_step)
 show R _ _
 rw [Heap.size_push]
 exact hq
theorem rA (F:ExcBaseFacts B newId initId bm) {rest:List Value} {init:Value} (Y:qW (model prog w) h C B newId) (hi:Looks (model prog w) h (typeLookup (.ref C) "__init__") (some init)) (hb:∀ self,Looks (model prog w) h (bindSpecial init self) (init,[self])) (hrest:rest.length≤sizeLine)
 (hq:codeAny (model prog w) (A.under (.builtin "type.__call__" ⟨.ref C::rest,[]⟩)) (.call init ⟨.ref (h.objs.size+1)::rest,[]⟩) (InitBack (h.objs.size+1) R) ⟨(h.push { cls:=.type "tuple",data:=.seq rest.toArray }).push (dM C h.objs.size),g,d,t,os⟩) :
 codeAny (model prog w) A (.call (.ref C) ⟨rest,[]⟩) R ⟨h,g,d,t,os⟩:=by
 have Y':=Y
 obtain ⟨⟨oc,od,cd,sl,hC,e1,e2,e4⟩,made,base,self,isB,isE,noA,noN,call,typ⟩:=Y
 refine codeAny_of_tree ?_
 show wpAny _ _ (callAny (.ref C) _) _ _ _
 refine nd_load hC ?_
 show wpAny _ _ (callAny.viaDunder (.ref C) _) _ _ _
 unfold callAny.viaDunder
 refine wpAny_bind (call.at ?_)
 dsimp only
 rw [tc_bind]
 refine wpAny_bind (wpAny_pure (wpAny_bind (wpAny_pure (wpAny_pure (a:=Fin.again (.call (.builtin "type.__call__") ⟨.ref C::rest,[]⟩)) (And.intro rfl ?_)))))
 refine codeAny_call_builtin_at (Code.quiet_builtin _ (by decide +kernel)) entry_typeCall (check_slot tc_kind tc_split typ (tc_args _ _ _) ?_)
 unfold Builtin.«type.__call__»
 have hm:Looks (model prog w) h (mroOf (.ref C)) cd.mro:=((Looks.ld (part:=none) hC).andThen .now).andThen .now
 repeat (first|simp only [e4,Bool.false_eq_true,if_false]|with_reducible refine wpAny_call ?_|lk)
 refine newX F Y' hrest ?_
 have k:∀ b o,h.get? b=some o->((h.push { cls:=.type "tuple",data:=.seq rest.toArray }).push (dM C h.objs.size)).get? b=some o:=fun b o e=>Heap.get?_push_of_some _ (Heap.get?_push_of_some _ e)
 have hx:((h.push { cls:=.type "tuple",data:=.seq rest.toArray }).push (dM C h.objs.size)).get? (h.objs.size+1)=some (dM C h.objs.size):=by
  have:=Heap.get?_push_size (h.push { cls:=.type "tuple",data:=.seq rest.toArray }) (o:=dM C h.objs.size) rfl
  rwa [Heap.size_push] at this
 have t1:Looks (model prog w) ((h.push { cls:=.type "tuple",data:=.seq rest.toArray }).push (dM C h.objs.size)) (typeOf (.ref (h.objs.size+1))) (.ref C):=(Looks.ld hx).andThen .now
 have s1:=self.keeps k
 have i1:=hi.keeps k
 have b1:=(hb (.ref (h.objs.size+1))).keeps k
 unfold isInstance callSpecial? specialOf
 repeat (first|with_reducible refine wpAny_call ?_|lk)
 refine codeAny_mono hq fun r s' z=>?_
 rcases r with e|(v|_|_|_) <;> first|exact z|exact z.elim|skip
 obtain ⟨rfl,z⟩:=z
 exact wpAny_pure (wpAny_pure z)
end
end L2
namespace L2
open PySem PySem.Spec PyProof.Rows PySem.SeqAt PySem.W Builtin.ObjectAttr
def cW (e C:Addr) (dd:Option Addr):HO:=.ext fun h=>∃ a0:Value,h.get? e=some { cls:=.ref C,dict:=dd,data:=.fields #[a0,.none,.none,.none,.bool false,.none] }
def pA (da:Addr) (fs:List (Str×V)):HO:=.ext fun h=>∃ mA,h.Ns1 da mA/\(∀ f,gO (fs.lookup f) (mA f))/\PySem.Within mA (fs.map (·.1))
theorem p6 {P:Program} {w:World} {H:Hp} {h:Heap} {e C:Addr} {dd:Option Addr} {a0:Value} (x:h.get? e=some { cls:=.ref C,dict:=dd,data:=.fields #[a0,.none,.none,.none,.bool false,.none] }):cg P w H h e (cW e C dd):=
 ⟨⟨a0,x⟩,⟨_,x⟩,fun h1 h2 ⟨a,z⟩ k=>⟨a,k _ z⟩⟩
theorem rE {P:Program} {w:World} {H:Hp} {h:Heap} {da:Addr} {fs:List (Str×V)} {mA:Str->Option Value} (x:h.Ns1 da mA) (r:∀ f,gO (fs.lookup f) (mA f)) (wi:PySem.Within mA (fs.map (·.1))):cg P w H h da (pA da fs):=by
 obtain ⟨o,es,ep,ho,rest⟩:=id x
 refine ⟨⟨mA,x,r,wi⟩,⟨o,ho⟩,fun h1 h2 z k=>?_⟩
 obtain ⟨mB,⟨o',es',ep',ho',rest'⟩,r',wi'⟩:=z
 exact ⟨mB,⟨o',es',ep',k _ ho',rest'⟩,r',wi'⟩
theorem jY (self:Value) {bm:List Value} (hb:refuseLoop self "__setattr__" bm=pure ()) (hne:bm≠[]):∀ (rs:List Addr),refuseLoop self "__setattr__" (rs.map Value.ref++bm)=pure ()
 |[]=>hb
 | c::r=>by
   rw [List.map_cons,List.cons_append,refuseLoop_ref]
   exact jY self hb hne r
structure kh (K:Frag) (C:Addr) (B newId:String):Prop where
 mks:i_ K C B newId=true
 sa:findIn K (.ref C) "__setattr__" = some (some (.builtin "object.__setattr__"))
 cd:∃ (cd:ClassData) (rs:List Addr) (bm:List Value),clsIn K C=some cd/\cd.hasDict=true/\cd.mro=rs.map Value.ref++bm/\bm≠[]/\(∀ self,refuseLoop self "__setattr__" bm=pure ())/\bm.contains (.type "object")=true
 kp:keepIn K (.ref C)=true
 ty:typeIn K (.ref C)=some (.type "type")
section
variable {prog:Program} {w:World} {A:Around} {R:Result->Shared->Prop} {s:Shared} {K:Frag} {x C:Addr} {name:Str}
theorem G3 {ox:Obj} {od:Option Obj} {tk:Tok} {v:Value} {B newId:String} (X:K.In s.heap) (I:InstAt s.heap x ox C od) (XC:kh K C B newId) (ht:takerIn K C name=some none)
 (h:∀ b,wpAny (model prog w) A.in1 (Builtin.ObjectAttr.storeInOwnDict (.ref x) (.ref C) (.str name tk) name v b) (fun fin s'=>match fin with|.done f=>R (.ok f) s'|.again c'=>c'.quiet=true/\codeAny (model prog w) A c' R s') (fun e s'=>R (.error e) s') s) :
 codeAny (model prog w) A (.call (.builtin "object.__setattr__") ⟨[.ref x,.str name tk,v],[]⟩) R s:=by
 have SF:=PySem.F.store_object
 obtain ⟨cd,rs,bm,hc,hdct,hmro,hne,hrf,hob⟩:=XC.cd
 have ne:cd.mro.isEmpty=false:=by
  rw [hmro]
  cases rs with
  |nil=>cases bm with|nil=>exact absurd rfl hne|cons _ _=>rfl
  |cons _ _=>rfl
 have hcon:cd.mro.contains (.type "object")=true:=by
  rw [hmro,List.contains_eq_mem,decide_eq_true_eq]
  rw [List.contains_eq_mem,decide_eq_true_eq] at hob
  exact List.mem_append_right _ hob
 have sub:Looks (model prog w) s.heap (isInstance (.ref x) (.type "object")) true:=I.type.andThen (looks_mroIn X (by unfold mroIn;rw [hc,Option.bind_some,if_neg (by rw [ne];decide),hcon]))
 refine codeAny_call_builtin SF.slot.plain SF.entry (@check_slot (model prog w) _ _ s "object.__setattr__" "object" "__setattr__" (.ref x) [.str name tk,v] [] _ SF.kind SF.split sub (SF.args (.ref x) (.str name tk) v) ?_)
 obtain ⟨attr,ha,hr⟩:=Option.bind_eq_some_iff.mp ht
 have hm:Looks (model prog w) s.heap (mroOf (.ref C)) cd.mro:=(looks_clsIn X hc).andThen .now
 have L3:Looks (model prog w) s.heap (storeTaker? attr) none:=by
  cases attr with
  |none=>exact .now
  | some a=>
    obtain ⟨b,hb,q⟩:=Option.map_eq_some_iff.mp hr
    refine (looks_takesIn X hb).andThen ?_
    cases b with
    |false=>exact .now
    |true=>cases q
 rw [osa_eq,refuse_eq]
 refine wpAny_bind (wpAny_bind (I.type.here (wpAny_bind (hm.here ?_))))
 rw [hmro,jY _ (hrf _) hne]
 refine wpAny_pure (wpAny_bind (I.type.here (wpAny_bind ((looks_findIn X ha).here (wpAny_bind (L3.here ?_))))))
 exact h _
end
section
variable {prog:Program} {w:World} {A:Around} {E:Value->Shared->Prop} {s:Shared} {K:Frag} {x C:Addr} {name:Str} {v:Value} {tk:Tok} {Q:Fin->Shared->Prop} {vs:Array Value} {sl:Array (Option Value)}
theorem rK {cd:ClassData} {b:Bool} (X:K.In s.heap) (hx:s.heap.get? x=some ⟨.ref C,none,.fields vs,sl⟩) (hc:clsIn K C=some cd) (hd:cd.hasDict=true)
 (h:∀ h',h'.Ns1 s.heap.objs.size (fun y=>if y=name then some v else none)->h'.get? x=some ⟨.ref C,some s.heap.objs.size,.fields vs,sl⟩->(∀ b o,b≠x->s.heap.get? b=some o->h'.get? b=some o)->Q (.done (.ret .none)) { s with heap:=h',toks:=s.toks+1 }) :
 wpAny (model prog w) A (storeInOwnDict (.ref x) (.ref C) (.str name tk) name v b) Q E s:=by
 unfold storeInOwnDict
 refine wpAny_bind (wpAny_pure (wpAny_bind (wpAny_bind (wpAny_loadPart hx (wpAny_bind (Looks.here (looks_clsIn X hc) ?_))))))
 rw [hd]
 have hx1:(s.heap.push { cls:=.type "dict",data:=.dict #[] }).get? x=some ⟨.ref C,none,.fields vs,sl⟩:=Heap.get?_push_of_some _ hx
 have hxs:x≠s.heap.objs.size:=Nat.ne_of_lt (Heap.lt_size hx)
 show wpAny _ _ (do
  let d ← alloc { cls:=Value.type "dict",data:=Data.dict #[] }
  update x fun o=>{ cls:=o.cls,dict:=some d,data:=o.data,slots:=o.slots }
  dictMade (Value.ref C) x d) _ _ _
 refine wpAny_bind (wpAny_alloc' (wpAny_bind (wpAny_update' hx1 ?_)))
 refine wpAny_pure ?_
 have hgd:((s.heap.push { cls:=.type "dict",data:=.dict #[] }).update x fun o=>{ cls:=o.cls,dict:=some s.heap.objs.size,data:=o.data,slots:=o.slots }).get? s.heap.objs.size=some { cls:=.type "dict",data:=.dict #[] }:=(Heap.get?_update_ne _ _ _ _ hxs.symm).trans (Heap.get?_push_at rfl rfl)
 have hnd:((s.heap.push { cls:=.type "dict",data:=.dict #[] }).update x fun o=>{ cls:=o.cls,dict:=some s.heap.objs.size,data:=o.data,slots:=o.slots }).Ns s.heap.objs.size (fun _=>none):=⟨_,#[],_,hgd,rfl,fun e he=>absurd he (by simp),fun _=>rfl⟩
 show wpAny _ _ (storeInDict s.heap.objs.size (.str name tk) name v) _ _ _
 unfold storeInDict newKeyGuard
 refine wpAny_bind (wpAny_pure (wpAny_bind (wpAny_nsSet1 (s:={ s with heap:=_ }) (Heap.Ns1.of_empty hnd) fun h' hn' hs=>?_)))
 obtain ⟨oD,esD,epD,hoD,hdD,hcD⟩:=hn'.count (PySem.Within.cons name v PySem.Within.nil)
 refine wpAny_bind (wpAny_lookBehind hoD (by rw [hdD];exact pastItsLine_dict (Nat.le_trans hcD (by rw [List.length_cons,List.length_nil,sizeLine_eq];omega))) ?_)
 refine wpAny_pure (h h' hn' ?_ fun b o hb hbo=>?_)
 ·exact (hs.2 x hxs).trans (Heap.get?_update_self _ hx1 rfl)
 ·exact (hs.2 b (Nat.ne_of_lt (Heap.lt_size hbo))).trans ((Heap.get?_update_ne _ _ _ _ hb).trans (Heap.get?_push_of_some _ hbo))
theorem rF {cd:ClassData} {b:Bool} {da:Addr} {mA:Str->Option Value} {ns:List Str} (X:K.In s.heap) (hx:s.heap.get? x=some ⟨.ref C,some da,.fields vs,sl⟩) (hc:clsIn K C=some cd) (hd:cd.hasDict=true) (hn:s.heap.Ns1 da mA) (hw:PySem.Within mA ns) (hz:ns.length<1000)
 (h:∀ h',h'.Ns1 da (fun y=>if y=name then some v else mA y)->Heap.SameBut da s.heap h'->Q (.done (.ret .none)) { s with heap:=h',toks:=s.toks+1 }) :
 wpAny (model prog w) A (storeInOwnDict (.ref x) (.ref C) (.str name tk) name v b) Q E s:=by
 unfold storeInOwnDict
 refine wpAny_bind (wpAny_pure (wpAny_bind (wpAny_bind (wpAny_loadPart hx (wpAny_bind (Looks.here (looks_clsIn X hc) ?_))))))
 rw [hd]
 refine wpAny_pure (a:=some da) ?_
 show wpAny _ _ (storeInDict da (.str name tk) name v) _ _ _
 unfold storeInDict newKeyGuard
 refine wpAny_bind (wpAny_pure (wpAny_bind (wpAny_nsSet1 hn fun h' hn' hs=>?_)))
 obtain ⟨oD,esD,epD,hoD,hdD,hcD⟩:=hn'.count (PySem.Within.cons name v hw)
 refine wpAny_bind (wpAny_lookBehind hoD (by rw [hdD];exact pastItsLine_dict (Nat.le_trans hcD (by rw [List.length_cons,sizeLine_eq];omega))) ?_)
 exact wpAny_pure (h h' hn' hs)
end
section
variable {X:Cx} {Z:List (Addr×Obj)} {U:St} {H:Hp} {s:Shared} {e C:Addr} {f:Str} {B newId:String} {A:Around} {E:Value->Shared->Prop} {y:V} {u:Value} {Q:Unit->Shared->Prop}
theorem ph {dd:Option Addr} (I:Inv X Z U H s) (he:H e=some (cW e C dd)):∃ a0,s.heap.get? e=some { cls:=.ref C,dict:=dd,data:=.fields #[a0,.none,.none,.none,.bool false,.none] }:=(show cg X.prog X.w H s.heap e (cW e C dd) from I.hok e _ he).1
theorem wH (I:Inv X Z U H s) (he:H e=some (cW e C none)) (XC:kh X.K C B newId) (ht:takerIn X.K C f=some none) (ry:RelV y u)
 (h:∀ da s',H da=none->Inv X Z U (upd (upd H e (cW e C (some da))) da (pA da [(f,y)])) s'->Q () s'):wpAny (model X.prog X.w) A (setAttr (.ref e) f u) Q E s:=by
 obtain ⟨a0,hx⟩:=ph I he
 have J:InstAt s.heap e _ C none:=⟨hx,rfl,rfl,True.intro⟩
 obtain ⟨cd,rs,bm,hc,hdct,_⟩:=XC.cd
 refine set_plain I.kIn J XC.sa (G3 (s:={ s with toks:=s.toks+1 }) I.kIn J XC ht fun b=>rK (s:={ s with toks:=s.toks+1 }) I.kIn hx hc hdct fun h' hn hx' hk=>?_)
 have fr:H s.heap.objs.size=none:=I.hok.fresh (Nat.le_refl _)
 have nes:e≠s.heap.objs.size:=Nat.ne_of_lt (Heap.lt_size hx)
 refine h s.heap.objs.size _ fr ?_
 have hx1:(s.heap.push emptyDict).get? e=some _:=Heap.get?_push_of_some _ hx
 have g1:(s.heap.push emptyDict).get? s.heap.objs.size=some emptyDict:=Heap.get?_push_size s.heap rfl
 have e3:(s.heap.push emptyDict).Ns s.heap.objs.size (fun _=>none):=⟨emptyDict,#[],_,g1,rfl,(fun e he=>absurd he (by simp)),fun _=>rfl⟩
 have I1:=I.laid (a:=s.heap.objs.size) (o:=pA s.heap.objs.size []) (h':=s.heap.push emptyDict) (t':=s.toks) (fun b u q=>Heap.get?_push_of_some _ q) (Nat.le_refl _) (rE (Heap.Ns1.of_empty e3) (fun _=>True.intro) fun y hy=>absurd rfl hy)
 have hx2:=Heap.get?_update_self (fun o:Obj=>{ o with dict:=some s.heap.objs.size }) hx1 rfl
 have I2:=I1.write (x:=e) (e:=e) (o:=cW e C (some s.heap.objs.size)) (h':=(s.heap.push emptyDict).update e fun o=>{ o with dict:=some s.heap.objs.size }) (t':=s.toks) (by rw [aF nes,he];exact True.intro) (.inl rfl)
  (fun b q hb z=>(Heap.get?_update_ne _ _ _ _ hb).trans z) ⟨_,hx2⟩ (p6 hx2)
 have I3:=I2.write (x:=s.heap.objs.size) (e:=s.heap.objs.size) (o:=pA s.heap.objs.size [(f,y)]) (h':=h') (t':=s.toks+1+1) (by rw [aF nes.symm,ak];exact True.intro) (.inl rfl) (fun b q hb z=>?_) (let ⟨o,_,_,ho,_⟩:=hn;⟨o,ho⟩)
  (rE hn (fun g=>?_) fun g hg=>?_)
 ·have e1:upd (upd (upd H s.heap.objs.size (pA s.heap.objs.size [])) e (cW e C (some s.heap.objs.size))) s.heap.objs.size (pA s.heap.objs.size [(f,y)])=upd (upd H e (cW e C (some s.heap.objs.size))) s.heap.objs.size (pA s.heap.objs.size [(f,y)]):=by
   funext b
   unfold upd
   split
   ·rfl
   ·split
    ·rfl
    ·rfl
  rw [e1] at I3
  exact I3
 ·by_cases hbe:b=e
  ·subst hbe
   have z':some q=some _:=z.symm.trans hx2
   cases z'
   exact hx'
  ·have z1:(s.heap.push emptyDict).get? b=some q:=(Heap.get?_update_ne _ _ _ _ hbe).symm.trans z
   have z2:s.heap.get? b=some q:=by
    rcases Heap.get?_push_cases z1 with z|z
    ·exact absurd z.1 hb
    ·exact z
   exact hk b q hbe z2
 ·have e2:List.lookup g [(f,y)]=if g=f then some y else none:=cu f g y []
  rw [e2]
  by_cases q:g=f
  ·rw [if_pos q,if_pos q];exact ry
  ·rw [if_neg q,if_neg q];exact True.intro
 ·by_cases q:g=f
  ·subst q;simp
  ·exact absurd (if_neg q) hg
end
section
variable {X:Cx} {CX:mU} {k:Nat} {f C:Addr} {fd:FuncData} {ps:List Str} {sp:Sp} {dvs:List V} {ds:List Value} {E:XK} {B newId initId:String} {bm:List Value}
theorem u_ {Z:List (Addr×Obj)} {U:St} {H:Hp} {s:Shared} {Q:VK} {us:List Value} {vs:List V} (BF:ExcBaseFacts B newId initId bm) (XC:kh X.K C B newId) (hi:findIn X.K (.ref C) "__init__" = some (some (.ref f))) (hf:isFn X.K (.ref f)=true) (F:aN X.prog X.w X.K X.mg X.base CX k f fd ps sp) (hr:bH (k+1) X.A)
 (hb:Binds X.K fd ps ds) (hd:Vals dvs ds) (hx:fu CX X E) (I:Inv X Z U H s) (r:Vals vs us) (hz:us.length≤sizeLine)
 (h:∀ e,H e=none->sp (.ref e::(vs++dvs)) (upd H e (cW e C none)) (fun v H2=>v=.non/\Q (.ref e) H2) E) :
 wpAny (model X.prog X.w) X.A (call (.ref C) us) (EP X Z U Q) X.xe s:=by
 obtain ⟨hh,g,d,t,os⟩:=s
 have hq:=h (hh.objs.size+1) (I.hok.fresh (Nat.le_succ _))
 have hget:((hh.push { cls:=.type "tuple",data:=.seq us.toArray }).push (dM C hh.objs.size)).get? (hh.objs.size+1)=some (dM C hh.objs.size):=by
  have:=Heap.get?_push_size (hh.push { cls:=.type "tuple",data:=.seq us.toArray }) (o:=dM C hh.objs.size) rfl
  rwa [Heap.size_push] at this
 have I2:Inv X Z U (upd H (hh.objs.size+1) (cW (hh.objs.size+1) C none)) ⟨(hh.push { cls:=.type "tuple",data:=.seq us.toArray }).push (dM C hh.objs.size),g,d,t,os⟩:=
  I.laid (h':=(hh.push { cls:=.type "tuple",data:=.seq us.toArray }).push (dM C hh.objs.size)) (t':=t) (fun b u q=>Heap.get?_push_of_some _ (Heap.get?_push_of_some _ q)) (Nat.le_succ _) (p6 hget)
 have r2:Vals (V.ref (hh.objs.size+1)::(vs++dvs)) (Value.ref (hh.objs.size+1)::(us++ds)):=.cons rfl (r.append hd)
 have hl:(Value.ref (hh.objs.size+1)::us++ds).length=ps.length:=by
  have e:=r2.length
  rw [F.len _ _ _ _ hq] at e
  exact e.symm
 refine wpAny_call (rA BF (jJ I.kIn XC.mks) (looks_findIn I.kIn hi) (fun self=>bind_fn I.kIn self (beq_iff_eq.mp hf)) hz (codeAny_mono (F.run _ X.stack _ _ ⟨Value.ref (hh.objs.size+1)::us,[]⟩ (Value.ref (hh.objs.size+1)::(us++ds)) _ _ E (hr.make C us [])
  (I2.env0.make C us []) (hb _ (Value.ref (hh.objs.size+1)::us) I2.kIn hl) r2 hq) fun r s' hq'=>?_))
 match r,hq' with
 |.error e,hq'=>exact hx Z U _ _ e s' I2 hq'
 | .ok (.ret u),hq'=>
   obtain ⟨v,H',I3,rv,ev,q3⟩:=I2.after hq'
   subst ev
   exact ⟨rv,⟨V.ref (hh.objs.size+1),H',I3,rfl,q3⟩⟩
def Ed (C:Addr) (sp:Sp) (dvs:List V) (E:XK) (t:TA):TE:=fun U H Q=>t U H fun vs H1=>∀ e,H1 e=none->sp (.ref e::(vs++dvs)) (upd H1 e (cW e C none)) (fun v H2=>v=.non/\Q (.ref e) H2) E
theorem mz {x:Str} {p pos:Pos} {e:Expr} {es:List Expr} {t:TA} (BF:ExcBaseFacts B newId initId bm) (XC:kh X.K C B newId) (hi:findIn X.K (.ref C) "__init__" = some (some (.ref f))) (hf:isFn X.K (.ref f)=true) (F:aN X.prog X.w X.K X.mg X.base CX k f fd ps sp) (hr:bH (k+1) X.A)
 (hg:Gl X x) (hm:X.mg x=some (.ref C)) (hb:Binds X.K fd ps ds) (hd:Vals dvs ds) (hx:fu CX X E) (ha:PA X (e::es) t) (hdb:(x == ("__debug__" : Str))=false:=by decide) (he:starEach (e::es) X.env=(false,eval e X.env)::starEach es X.env:=by rfl) (hpl:(backTo pos (starEach es X.env)).any (·.1)=false:=by rfl) (hle:ps.length≤20:=by decide) :
 PE X (.Call (.Name x p) (e::es) [] pos) (Ed C sp dvs E t):=by
 intro Z s U H Q I h
 refine wpAny_Call_Name_kw (jx I hg hm ?_ hdb)
 refine callWith_K (h₀:=X.base) I.ok.mod.kin XC.kp (bU (ha pos Z s U H _ I h) fun us s1 ⟨vs,H1,I1,r,q⟩=>⟨I1.kIn,?_⟩) he hpl
 refine u_ BF XC hi hf F hr hb hd hx I1 r ?_ q
 have h1:=F.len _ _ _ _ (q (s1.heap.objs.size) (I1.hok.fresh (Nat.le_refl _)))
 rw [List.length_cons,List.length_append] at h1
 have h2:=r.length
 exact Nat.le_trans (show us.length≤20 by omega) (by decide)
end
def vY (H:Hp) (a:Addr):Hp:=fun b=>if b=a then none else H b
theorem lu {H:Hp} {a:Addr}:vY H a a=none:=if_pos rfl
theorem qL {H:Hp} {a b:Addr} (h:b≠a):vY H a b=H b:=if_neg h
theorem jz {H:Hp} {a b:Addr} (h:H b=none):vY H a b=none:=by
 unfold vY
 split
 ·rfl
 ·exact h
section
variable {X:Cx} {Z:List (Addr×Obj)} {U:St} {H:Hp} {s:Shared} {e C:Addr} {dd:Option Addr}
theorem Inv.vY (I:Inv X Z U H s) (he:H e=some (cW e C dd)):Inv X Z U (L2.vY H e) s:=by
 have up:∀ b u,H b=some u->u≠cW e C dd->L2.vY H e b=some u:=fun b u z hu=>by
  by_cases q:b=e
  ·subst q;rw [he] at z;exact absurd (Option.some.inj z).symm hu
  ·rw [qL q];exact z
 refine ⟨I.ok,I.os,I.bare,⟨I.base.keep,I.base.slot,fun b o z n hx=>jz (I.base.free b o z n hx),I.base.there,fun b xs z=>up b _ (I.base.tups b xs z) (by intro q;cases q),fun b o u z=>up b _ (I.base.frzs b o u z) (by intro q;cases q),fun b ps z=>?_⟩,I.loc,I.cell,jz I.free,fun x c z=>jz (I.freeC x c z),fun p hp=>?_,fun b u z=>?_,I.len⟩
 ·obtain ⟨m,q⟩:=I.base.tbls b ps z
  exact ⟨m,up b _ q (by intro q;cases q)⟩
 ·obtain ⟨p1,p2,p3⟩:=I.pin p hp
  exact ⟨p1,jz p2,p3⟩
 ·by_cases q:b=e
  ·subst q;rw [lu] at z;cases z
  ·rw [qL q] at z
   exact (I.hok b u z).stay (fun c v _ r=>r) (fun c r=>up c _ r (by intro q;cases q)) fun c xs r=>up c _ r (by intro q;cases q)
def Ea (X:Cx) (B newId:String) (W:XK) (te:TE):TS:=fun _ U H=>te U H fun x H1=>∃ e C dd,x=.ref e/\H1 e=some (cW e C dd)/\X.H₀ e=none/\kh X.K C B newId/\W (.ref C) dd (vY H1 e)
theorem lU {ex:Expr} {pos:Pos} {te:TE} {W:XK} {B newId:String} (he:PE X ex te) (hcalm:X.calm=true) (hex:X.ex=[])
 (hxe:∀ (Z:List (Addr×Obj)) (U:St) (H':Hp) (s':Shared) (e:Addr) (cls:Value) (dd:Option Addr),Inv X Z U H' s'->jV s'.heap H' X.s₀.heap e cls dd->W cls dd H'->X.xe (.ref e) s'):PS X (.Raise (some ex) none pos) (Ea X B newId W te):=by
 intro Z s U H D I h
 rw [arm_exec_Raise]
 have key:∀ xs:Sem Value,wpAny (model X.prog X.w) X.A xs (EP X Z U fun x H1=>∃ e C dd,x=.ref e/\H1 e=some (cW e C dd)/\X.H₀ e=none/\kh X.K C B newId/\W (.ref C) dd (L2.vY H1 e)) X.xe s->wpAny (model X.prog X.w) X.A (raiseStmt X.env (some xs) none) (SP X Z D) X.xe s:=by
  intro xs hxs
  unfold raiseStmt
  refine wpAny_bind (bU hxs fun v s1 ⟨x,H1,I1,r1,e,C,dd,ex',hx,h0,XC,q⟩=>?_)
  subst ex'
  cases (show v=Value.ref e from r1)
  obtain ⟨a0,hg⟩:=ph I1 hx
  have Y:=jJ (M:=model X.prog X.w) I1.kIn XC.mks
  obtain ⟨⟨oc,od,cd,sl,hC,e1,e2,e4⟩,made,base,self,isB,isE,noA,noN,call,typ⟩:=Y
  have T1:Looks (model X.prog X.w) s1.heap (typeOf (.ref e)) (.ref C):=(Looks.ld hg).andThen .now
  have fin:X.xe (.ref e) s1:=by
   refine hxe Z U _ s1 e (.ref C) dd (I1.vY hx) ⟨_,_,hg,rfl,rfl,rfl,?_,lu,.inl rfl⟩ q
   cases z:X.s₀.heap.get? e with
   |none=>rfl
   | some o=>
     have:=I1.base.free e o z h0 (by rw [hex];simp)
     rw [hx] at this;cases this
  have T2:Looks (model X.prog X.w) s1.heap (typeOf (.ref C)) (.type "type"):=looks_typeIn I1.kIn XC.ty
  have T3:Looks (model X.prog X.w) s1.heap (isInstance (.ref e) (.type "BaseException")) true:=T1.andThen isE
  have hh:X.A.handled=none:=I1.ok.hd hcalm
  clear I1 r1 hxs he h I XC made base self isB noA noN call typ
  obtain ⟨hp,g,d,tk,os⟩:=s1
  repeat (first|with_reducible refine wpAny_loadPart_at hg ?_|with_reducible refine T3.at ?_|with_reducible refine T1.at ?_|with_reducible refine T2.at ?_|wp_step)
  exact wpAny_raiseNew_none hh fin
 first
  |exact wpAny_bind (wpAny_standAt (key _ (wpAny_bind (bU (he Z s U H _ I h) fun v s1 z=>wpAny_bind (wpAny_standAt (wpAny_pure z))))))
  |(simp only [evalOpt,Option.map];exact wpAny_bind (wpAny_standAt (key _ (wpAny_bind (bU (he Z s U H _ I h) fun v s1 z=>wpAny_bind (wpAny_standAt (wpAny_pure z)))))))
end
section
variable {X:Cx} {Z:List (Addr×Obj)} {U:St} {H:Hp} {s:Shared} {e C:Addr} {f:Str} {B newId initId:String} {bm:List Value} {A:Around} {E:Value->Shared->Prop} {y:V} {u:Value} {Q:Unit->Shared->Prop}
theorem yx {da:Addr} {fs:List (Str×V)} (I:Inv X Z U H s) (he:H e=some (cW e C (some da))) (hd:H da=some (pA da fs)) (hl:fs.length<1000) (XC:kh X.K C B newId) (ht:takerIn X.K C f=some none) (ry:RelV y u)
 (h:∀ s',Inv X Z U (upd H da (pA da (eO f y fs))) s'->Q () s'):wpAny (model X.prog X.w) A (setAttr (.ref e) f u) Q E s:=by
 obtain ⟨a0,hx⟩:=ph I he
 obtain ⟨mA,hn,r,wi⟩:=(show cg X.prog X.w H s.heap da (pA da fs) from I.hok da _ hd).1
 obtain ⟨od,hod,_⟩:=nJ hn
 have J:InstAt s.heap e _ C (some od):=⟨hx,rfl,rfl,hod⟩
 obtain ⟨cd,rs,bm,hc,hdct,_⟩:=XC.cd
 refine set_plain I.kIn J XC.sa (G3 (s:={ s with toks:=s.toks+1 }) I.kIn J XC ht fun b=>rF (s:={ s with toks:=s.toks+1 }) (ns:=fs.map (·.1)) I.kIn hx hc hdct hn wi (by rw [List.length_map];exact hl) fun h' hn' hs=>?_)
 refine h _ (I.write (x:=da) (e:=da) (h':=h') (t':=s.toks+1+1) (by rw [hd];exact True.intro) (.inl rfl) (fun b q hb z=>(hs.2 b hb).trans z) (let ⟨o,_,_,ho,_⟩:=hn';⟨o,ho⟩) (rE hn' (fun g=>?_) fun g hg=>?_))
 ·show gO ((eO f y fs).lookup g) (if g=f then some u else mA g)
  rw [cu]
  by_cases q:g=f
  ·rw [if_pos q,if_pos q];exact ry
  ·rw [if_neg q,if_neg q];exact r g
 ·by_cases q:g=f
  ·rw [q];exact (gk f y fs).1
  ·refine (gk f y fs).2 g (wi g fun z=>hg ?_)
   show (if g=f then some u else mA g)=none
   rw [if_neg q];exact z
def GQ (K:Frag) (B newId:String) (ta tv:TE) (f:Str):TS:=fun D U H=>tv U H fun y H1=>ta U H1 fun x H2=>∃ e C,x=.ref e/\kh K C B newId/\takerIn K C f=some none/\
 ((H2 e=some (cW e C none)/\∀ da,H2 da=none->D.nx U (upd (upd H2 e (cW e C (some da))) da (pA da [(f,y)])))∨
   ∃ da fs,H2 e=some (cW e C (some da))/\H2 da=some (pA da fs)/\fs.length<1000/\D.nx U (upd H2 da (pA da (eO f y fs))))
theorem uF {o value:Expr} {pos pos':Pos} {ta tv:TE} (ha:PE X o ta) (hv:PE X value tv) (hs:swapsWith value (some (.Attribute o f pos')) pos.line X.env=pure false):PS X (.Assign [.Attribute o f pos'] value pos) (GQ X.K B newId ta tv f):=by
 intro Z s U H D I h
 refine plainObj_wpAny_Assign_Attribute (bU (hv Z s U H _ I h) fun u s1 ⟨y,H1,I1,ry,q⟩=>bU (ha Z s1 U H1 _ I1 q) fun ov s2 ⟨x,H2,I2,rx,e,C,ex,XC,ht,q2⟩=>?_) hs
 subst ex
 cases (show ov=Value.ref e from rx)
 rcases q2 with ⟨he,q2⟩|⟨da,fs,he,hd,hl,q2⟩
 ·exact wH I2 he XC ht ry fun da s' hda I3=>⟨U,_,I3,q2 da hda⟩
 ·exact yx I2 he hd hl XC ht ry fun s' I3=>⟨U,_,I3,q2⟩
theorem rn (BF:ExcBaseFacts B newId initId bm):dG X (.builtin initId) (fun xs H Q=>∃ e C dd y,xs=[.ref e,y]/\H e=some (cW e C dd)/\kh X.K C B newId/\Q .non H):=by
 intro Z s U H xs us Q I r h
 obtain ⟨e,C,dd,y,rfl,he,XC,q⟩:=h
 cases r with
 | cons r1 r=>
   cases r with
   | cons r2 r=>
     cases r
     rename_i u1 u2
     cases (show u1=Value.ref e from r1)
     obtain ⟨a0,hg⟩:=ph I he
     have Y:=jJ (M:=model X.prog X.w) I.kIn XC.mks
     have T1:Looks (model X.prog X.w) s.heap (typeOf (.ref e)) (.ref C):=(Looks.ld hg).andThen .now
     have T3:Looks (model X.prog X.w) s.heap (isInstance (.ref e) (.type B)) true:=T1.andThen Y.isB
     have hshort:=BF.noStar
     refine wpAny_call (codeAny_call_builtin BF.init.plain BF.initEntry ?_)
     simp only [checkBuiltinCall,BF.initKind,BF.initSplit,BF.initRow]
     refine wpAny_bind (T3.here ?_)
     simp only [Bool.not_true,Bool.false_eq_true,if_false]
     obtain ⟨oc,od,cd,sl,hC,e1,e2,e4⟩:=Y.obj
     have T2:=Y.typ
     obtain ⟨hp,g,d,tk,os⟩:=s
     unfold Bind.checkArgs
     repeat (first|with_reducible refine wpAny_loadPart_at hg ?_|with_reducible refine wpAny_loadPart_at hC ?_|with_reducible refine T1.at ?_|wp_step)
     have fin:∀ tk',EP X Z U Q .none ⟨(hp.push { cls:=Value.type "tuple",data:=Data.seq #[u2] }).update e (Obj.mapFields fun x=>x.setIfInBounds 0 (Value.ref hp.objs.size)),g,d,tk',os⟩:=fun tk'=>by
      have hg':hp.get? e=some { cls:=.ref C,dict:=dd,data:=.fields #[a0,.none,.none,.none,.bool false,.none] }:=hg
      have hg1:=Heap.get?_push_of_some (h:=hp) { cls:=Value.type "tuple",data:=Data.seq #[u2] } hg'
      have hg2:=Heap.get?_update_self (Obj.mapFields fun x=>x.setIfInBounds 0 (Value.ref hp.objs.size)) hg1 rfl
      have I1:Inv X Z U H ⟨hp.push { cls:=Value.type "tuple",data:=Data.seq #[u2] },g,d,tk',os⟩:=I.kept (s:=⟨hp,g,d,tk,os⟩) (t':=tk') fun b o z=>Heap.get?_push_of_some _ z
      have I2:=I1.write (x:=e) (e:=e) (o:=cW e C dd) (h':=(hp.push { cls:=Value.type "tuple",data:=Data.seq #[u2] }).update e (Obj.mapFields fun x=>x.setIfInBounds 0 (Value.ref hp.objs.size))) (t':=tk') (by rw [he];exact True.intro) (.inl rfl) (fun b q hb z=>(Heap.get?_update_ne _ _ _ _ hb).trans z) ⟨_,hg2⟩ (p6 (a0:=.ref hp.objs.size) hg2)
      have eH:upd H e (cW e C dd)=H:=by
       funext b
       unfold upd
       split
       ·rename_i q;rw [q,he]
       ·rfl
      rw [eH] at I2
      exact ⟨.non,H,I2,rfl,q⟩
     cases a0 <;> first|exact wpAny_pure (wpAny_pure (fin _))|exact wpAny_letGo (wpAny_pure (fin _))
end
section
variable {X:Cx} {CX:mU} {k:Nat} {f C CS:Addr} {fd:FuncData} {ps:List Str} {sp:Sp} {dvs:List V} {ds:List Value} {E:XK} {m tn cn:Str} {T id:String} {p pos apos:Pos} {e:Expr} {es:List Expr} {t:TA} {r:List V->Hp->VK->Prop} {mc:Value}
def Er (r:List V->Hp->VK->Prop) (t:TA):TE:=fun U H Q=>t U H fun vs H1=>r vs H1 Q
theorem q8 {pl:Sem Bool} (hg:Gl X tn) (hm:X.mg tn=none) (hv:bootBuiltins tn=some (.type T)) (ht:typeOf (.type T)=pure (.type "type")) (hs:Manifest.isStub T=false) (fc:findCls X.K (.type T) (.type "type") m=some (.val (.builtin id))) (hc:dG X (.builtin id) r) (ha:PA X (e::es) t) (hh:handedIn (.builtin id)=true:=by rfl)
 (hn:tn ≠ "__name__":=by decide) (hdb:(tn == ("__debug__" : Str))=false:=by decide) (hst:starEach (e::es) X.env=(false,eval e X.env)::starEach es X.env:=by rfl) (hpl:(backTo pos (starEach es X.env)).any (·.1)=false:=by rfl)
 (hte:eval (.Call (.Attribute (.Name tn p) m apos) (e::es) [] pos) X.env=(do
  let ov ← eval (.Name tn p) X.env
  standAt apos.atName
  let (f,first) ← holding [ov] (getMethod ov m pl)
  callWith pos f first (backTo pos (starEach (e::es) X.env)) (backToKw pos (keywordEach [] X.env))):=by rfl) :
 PE X (.Call (.Attribute (.Name tn p) m apos) (e::es) [] pos) (Er r t):=by
 intro Z s U H Q I h
 obtain ⟨mm,F⟩:=I.fr
 refine methodCall_KW (pl:=pl) (iw I hg hm hv (method_type F I.ok.mod.kin ht hs fc hh ?_) hn hdb) hte
 exact callWith_builtin1 (bU (ha pos Z _ U H _ (I.tok _) h) fun us s1 ⟨vs,H1,I1,r1,q1⟩=>hc Z s1 U H1 vs us Q I1 r1 q1) hst hpl
theorem kZ {pl:Sem Bool} (hg:Gl X cn) (hm:X.mg cn=some (.ref CS)) (sg:specialIn X.K (.ref CS) "__getattribute__" = some (some (.builtin "type.__getattribute__"))) (hr':readsIn X.K CS mc=true) (fc:findCls X.K (.ref CS) mc m=some (.val (.ref f))) (hk:keepIn X.K (.ref f)=true)
 (F:aN X.prog X.w X.K X.mg X.base CX k f fd ps sp) (hr:bH k X.A) (hb:Binds X.K fd ps ds) (hd:Vals dvs ds) (hx:fu CX X E) (ha:PA X (e::es) t) (hdb:(cn == ("__debug__" : Str))=false:=by decide)
 (hst:starEach (e::es) X.env=(false,eval e X.env)::starEach es X.env:=by rfl) (hpl:(backTo pos (starEach es X.env)).any (·.1)=false:=by rfl)
 (hte:eval (.Call (.Attribute (.Name cn p) m apos) (e::es) [] pos) X.env=(do
  let ov ← eval (.Name cn p) X.env
  standAt apos.atName
  let (f,first) ← holding [ov] (getMethod ov m pl)
  callWith pos f first (backTo pos (starEach (e::es) X.env)) (backToKw pos (keywordEach [] X.env))):=by rfl) :
 PE X (.Call (.Attribute (.Name cn p) m apos) (e::es) [] pos) (tX sp dvs E t):=by
 intro Z s U H Q I h
 refine methodCall_KW (pl:=pl) (jx I hg hm (method_cls I.kIn sg (cls_value I.kIn hr' fc rfl ?_)) hdb) hte
 refine callWith_K (first:=[]) (h₀:=X.base) I.ok.mod.kin hk (bU (ha pos Z _ U H _ (I.tok _) h) fun us s1 ⟨vs,H1,I1,r,q⟩=>⟨I1.kIn,?_⟩) hst hpl
 exact qX F hr hb hd hx I1 r q
end
end L2
namespace L2
open PySem PySem.Spec PyProof.Rows
section
variable {X:Cx} {Z:List (Addr×Obj)} {U:List (Option V)} {H H':Hp} {s:Shared} {h':Heap}
end
end L2
namespace L2
open PySem PySem.Spec PyProof.Rows PySem.SeqAt PySem.W Builtin.ObjectAttr
section
variable {X:Cx} {Z:List (Addr×Obj)} {U σ0:St} {H H0:Hp} {s s0:Shared} {e:Addr} {cls:Value} {dd:Option Addr}
end
section
variable {X:Cx}
end
section
variable {prog:Program} {w:World} {A:Around} {E:Value->Shared->Prop} {s:Shared} {K:Frag} {x C:Addr} {ox:Obj} {od:Option Obj} {name:Str} {expr:Bool} {Q:Value->Shared->Prop}
end
section
variable {X:Cx} {e:Expr} {f:Str} {pos:Pos} {ta:TE} {ea C:Addr} {oe:Obj} {dd:Option Addr}
end
end L2
namespace L2
open PySem PySem.Spec PyProof.Rows
section
variable {P:Program} {w:World} {K:PySem.W.Frag} {mg:Str->Option Value} {base:Heap}
theorem fX.ok1 {CX:mU} {x qual:Str} {st:Stmt} {f:Addr} {fd:FuncData} {N ps:List Str} {k:Nat} {sp:Sp} (F:fX K x qual st f fd) (S:aR N ps (aA st)) (len:∀ vs H Q E,sp vs H Q E->vs.length=ps.length)
 (hbody:∀ (cdv:Value) (A:Around) (outer:List Env) (s:Shared) (H:Hp) (vs:List V) (Q:VK) (E:XK),bH k (A.deeper (envOfC qual (aA st) s.heap.objs.size f cdv))->sp vs H Q E->
  ∃ t,qU (jG CX P w K mg base N qual (aA st) f cdv A outer s H E) (bN st) t/\t { nx:=fun _ H'=>Q .non H',rt:=Q } (start N vs) H):aN P w K mg base CX (k+1) f fd ps sp:=by
 obtain ⟨oc,od,kV,doc,pm,an,cdv,ct,osl,rfl,lk,hcd⟩:=F.ex
 exact uI lk hcd S len fun A outer s H vs Q E hr hsp=>hbody cdv A outer s H vs Q E hr hsp
end
section
variable {X:Cx} {e:Expr} {f:Str} {pos:Pos} {ta:TE} {ea C:Addr} {oe:Obj} {ps:List (Addr×Obj)} {dd:Option Addr}
end
end L2
namespace L2
open PySem PySem.Spec PyProof.Rows PySem.W
section
variable {P:Program} {w:World} {K:Frag} {mg:Str->Option Value} {base:Heap} {N:List Str} {qual:Str} {scope:Scope} {f:Addr} {cd:Value} {cl:List (Str×Addr)} {A:Around} {outer:List Env} {s:Shared} {H:Hp} {E:XK}
end
section
variable {X:Cx} {Z:List (Addr×Obj)} {U:St} {H:Hp} {s:Shared} {h':Heap} {P c':Addr} {ps more:Array Value} {qual:Str}
end
section
variable {X:Cx} {CX:mU} {k:Nat} {f C:Addr} {fd:FuncData} {ps:List Str} {sp:Shared->List Env->Sp} {E:XK} {x:Str} {p pos:Pos} {e:Expr} {es:List Expr} {t:TA}
end
end L2
namespace L2
open PySem PySem.Spec PyProof.Rows
end L2
namespace L2
open PySem PySem.Spec PyProof.Rows PySem.W
end L2
namespace L2
open PySem PySem.Spec PyProof.Rows PySem.SeqAt
section
variable {X:Cx}
end
section
variable {X:Cx} {tg:Expr}
end
section
variable {X:Cx}
end
section
variable {prog:Program} {w:World} {A:Around} {E:Value->Shared->Prop} {s:Shared} {l:Addr} {x y:Value}
end
section
variable {X:Cx} {pos:Pos}
end
section
variable {X:Cx} {CX:mU} {k:Nat} {f C:Addr} {fd:FuncData} {ps ks:List Str} {sp:Sp} {E:XK} {x m:Str} {p pos apos kpos:Pos} {e o:Expr} {es:List Expr} {kws:List Keyword} {te ta:TE} {t tk:TA}
variable {g:List Value->List Value->List Value} {gV:List V->List V->List V}
end
end L2
namespace L2
open PySem PySem.Spec PyProof.Rows PySem.W
end L2
namespace L2
open PySem PySem.Spec PyProof.Rows
section
variable {X:Cx} {scope:Scope} {own:List Str} {js:List Nat} {N':List Str} {wi:TI} {g:TG} {tt:TT} {tk tv:TE} {ke ve tg iter:Expr} {ifs:List Expr} {pos:Pos}
end
end L2
namespace L2
open PySem PySem.Spec PyProof.Rows PySem.SeqAt
theorem Fp {α:Type} {us:List α} (h:us.length=1):∃ a,us=[a]:=List.length_eq_one_iff.mp h
theorem vL {α:Type} {us:List α} (h:us.length=2):∃ a b,us=[a,b]:=by
 cases us with
 |nil=>cases h
 | cons a r=>
   obtain ⟨b,rfl⟩:=Fp (us:=r) (by simpa using h)
   exact ⟨a,b,rfl⟩
theorem El {α:Type} {us:List α} (h:us.length=3):∃ a b c,us=[a,b,c]:=by
 cases us with
 |nil=>cases h
 | cons a r=>
   obtain ⟨b,c,rfl⟩:=vL (us:=r) (by simpa using h)
   exact ⟨a,b,c,rfl⟩
theorem P0 {α:Type} {us:List α} (h:us.length=4):∃ a b c d,us=[a,b,c,d]:=by
 cases us with
 |nil=>cases h
 | cons a r=>
   obtain ⟨b,c,d,rfl⟩:=El (us:=r) (by simpa using h)
   exact ⟨a,b,c,d,rfl⟩
end L2
namespace L2
open PySem PySem.Spec PyProof.Rows
theorem nC:∀ {ns:List Int} {us:List Value},Vals (ns.map V.int) us->∃ ps:List (Int×Tok),us=ps.map (fun p=>Value.int p.1 p.2)/\ps.map (·.1)=ns
 |[],_,r=>by rw [List.map_nil] at r;cases r;exact ⟨[],rfl,rfl⟩
 | n::ns,_,r=>by
   rw [List.map_cons] at r
   cases r with
   | cons h t=>
     obtain ⟨tk,rfl⟩:=(show ∃ t,_=Value.int n t from h)
     obtain ⟨ps,e1,e2⟩:=nC t
     exact ⟨(n,tk)::ps,by rw [e1];rfl,by rw [List.map_cons,e2]⟩
theorem numAt_eq {ps:List (Int×Tok)} {ns:List Int} (e:ps.map (·.1)=ns) {i:Nat} (h:i<ns.length):numAt ps.toArray i=ns[i]:=by
 subst e
 unfold numAt
 simp at h ⊢
 rw [List.getElem?_eq_getElem h]
 rfl
theorem yc {ps:List (Int×Tok)}:(ps.map (fun p=>Value.int p.1 p.2)).toArray=intItems ps.toArray:=by
 unfold intItems
 simp
section
variable {X:Cx}
end
theorem lE {K:PySem.W.Frag} {a:Addr} {xs:List V} {g:TG} {tt:TT} {te:TE} {F:List V->Hp->Prop} {σ0:St} {H0:Hp} (Pv:Nat->List V->St->Hp->Prop) (hn:xs.length≤sizeLine) (h0:Pv 0 [] σ0 H0) (hq:∀ i ys U H,i≤xs.length->Pv i ys U H->bM K H a xs)
 (hs:∀ i x ys U H,xs[i]?=some x->Pv i ys U H->∀ N:List V->St->Hp->Prop,(∀ ys' σ' H',Pv (i+1) ys' σ' H'->ys'.length≤ys.length+1->N ys' σ' H')->g x U H fun σ2 H2=>tt σ2 H2 fun b H3=>if b=true then te σ2 H3 fun y H4=>N (ys++[y]) σ2 H4 else N ys σ2 H3)
 (hd:∀ ys U H,ys.length≤xs.length->Pv xs.length ys U H->F ys H) :
 ∃ W:Nat->Nat->List V->St->Hp->Prop,(∃ m,W 0 m [] σ0 H0)/\jZ (zr K a) g tt te F W:=by
 refine ⟨fun i m ys U H=>m=xs.length-i/\i≤xs.length/\ys.length≤i/\Pv i ys U H,⟨xs.length,by simp,Nat.zero_le _,Nat.zero_le _,h0⟩,?_⟩
 rintro i m ys U H ⟨rfl,hi,hl,p⟩
 have q:=hq i ys U H hi p
 by_cases hlt:i<xs.length
 ·refine .inr ⟨⟨xs,xs[i],q,by simp [hlt]⟩,by omega,fun x H' y=>?_⟩
  obtain ⟨e,y⟩:=y
  subst e
  refine hs i x ys U _ (y xs q) p (fun ys' σ' H'=>∃ m',m'<xs.length-i/\m'=xs.length-(i+1)/\i+1≤xs.length/\ys'.length≤i+1/\Pv (i+1) ys' σ' H') fun ys' σ' H' q hl'=>⟨xs.length-(i+1),by omega,rfl,hlt,by omega,q⟩
 ·have e:i=xs.length:=by omega
  subst e
  exact .inl ⟨⟨xs,q,Nat.le_refl _⟩,hd ys U H hl p⟩
end L2
namespace L2
open PySem PySem.Spec PyProof.Rows PySem.SeqAt
def fJ (t:TE) (U:St) (H:Hp) (v:V):Prop:=∀ Q:VK,Q v H->t U H Q
def uQ (t:TT) (U:St) (H:Hp) (b:Bool):Prop:=∀ Q:Bool->Hp->Prop,Q b H->t U H Q
def nO (r:R2) (x y:V) (H:Hp) (v:V):Prop:=∀ Q:VK,Q v H->r x y H Q
section
variable {U:St} {H:Hp} {ta tb tc:TE} {t u:TT} {x y z v:V} {r r':R2} {k k':Bool} {f:TF} {m n:Nat}
theorem fJ.var {i:Nat} (h:U[i]?=some (some v)):fJ (lZ i) U H v:=fun Q q=>⟨v,h,q⟩
theorem fJ.con:fJ (tC v) U H v:=fun Q q=>q
theorem fJ.op (a:fJ ta U H x) (b:fJ tb U H y) (c:nO r x y H v):fJ (Kr r ta tb) U H v:=fun Q q=>a _ (b _ (c _ q))
theorem fJ.neg {i:Int} (a:fJ ta U H (.int i)):fJ (QR (rU fun i=>.int (-i)) ta) U H (.int (-i)):=fun Q q=>a _ ⟨i,rfl,q⟩
theorem nO.i0 {g:Int->Int->V} {i j:Int}:nO (zq g) (.int i) (.int j) H (g i j):=fun Q q=>⟨i,j,rfl,rfl,q⟩
theorem uQ.test {t:TE} (a:fJ t U H (.bl k)):uQ (uy t) U H k:=fun Q q=>a _ ⟨k,rfl,q⟩
theorem fJ.chain (a:fJ ta U H x) (b:fJ tb U H y) (c:fJ tc U H z) (h:nO r x y H (.bl k)) (h':nO r' y z H (.bl k')):fJ (sW r r' ta tb tc) U H (.bl (k && k')):=fun Q q=>a _ (b _ (h _ ⟨k,rfl,by
 cases k with
 |false=>exact b_ rfl q
 |true=>exact cQ rfl (c _ (h' _ q))⟩))
theorem uQ.not (a:uQ t U H k):uQ (Ig t) U H (!k):=fun Q q=>a _ q
theorem uQ.iff {D:Ends} {a b:TS} (h:uQ t U H k) (q:if k=true then a D U H else b D U H):Gg t a b D U H:=h _ q
end
variable {X:Cx}
def Nx (K:PySem.W.Frag):R2:=fun x y H Q=>∃ d e,Rep K H x (.list d)/\Rep K H y (.list e)/\bQ d≤60/\Q (.bl (!cY d e)) H
theorem Dt (hu:X.A.units+64<cLine):gR X (compareOp .NotEq) (Nx X.K):=by
 intro Z s U H x y v u Q I rx ry h
 obtain ⟨d,e,h1,h2,hd,q⟩:=h
 cases h1 with
 | lst g1 rs1=>
   cases h2 with
   | lst g2 rs2=>
     cases (show v=Value.ref _ from rx)
     cases (show u=Value.ref _ from ry)
     obtain ⟨its1,rv1,p1,_⟩:=I.list g1
     obtain ⟨its2,rv2,p2,_⟩:=I.list g2
     have hz:=uv (X:=X) (H:=H) (A:=X.A) rs1 rs2 rv1 rv2
     by_cases hs:its1.toArray.size=its2.toArray.size
     ·have hw:=RcNeAt.lists (A:=X.A) p1.isList p2.isList hs (by omega)
       (e:=fun j=>dU (d.getD j .none) (e.getD j .none)) (fun j h1 h2=>by simpa using iY I rs1 rs2 rv1 rv2 (A:=X.A.in1) (by show X.A.units+1+_<_;omega) j (by simpa using h1) (by simpa using h2))
      rw [← hs,Nat.min_self,beq_self_eq_true,Bool.and_true] at hz
      rw [hz] at hw
      exact hw _ _ _ _ ⟨.bl _,H,I,rfl,q⟩
     ·have hw:=RcNeAt.lists_lengths (A:=X.A) p1.isList p2.isList (by simpa using hs) (by omega)
      have:cY d e=false:=by
       rw [← hz,beq_eq_false_iff_ne.mpr hs,Bool.and_false]
      rw [this] at q
      exact hw _ _ _ _ ⟨.bl _,H,I,rfl,q⟩
section
variable {U:St} {H:Hp} {ta tb:TE} {k k':Bool} {x y:V}
end
theorem jF:∀ {ns:List Int} {us:List Value},Vals (ns.map V.int) us->IntsAre us ns
 |[],_,r=>by rw [List.map_nil] at r;cases r;exact .nil
 | n::ns,_,r=>by
   rw [List.map_cons] at r
   cases r with
   | cons r1 r=>
     obtain ⟨t,rfl⟩:=r1
     exact .cons n t (jF r)
section
variable {X:Cx}
end
theorem g_ {f:Nat->Int} {ns:List Int} (h:∀ i (hi:i<ns.length),f i=ns[i]):∀ k,k≤ns.length->preSum f k=(ns.take k).sum
 |0,_=>rfl
 | k+1,hk=>by
   have hk':k<ns.length:=hk
   show preSum f k+f k=_
   rw [g_ h k (Nat.le_of_lt hk'),h k hk',List.take_add_one,List.getElem?_eq_getElem hk',List.sum_append]
   simp
theorem sum_bound {B:Int}:∀ {ns:List Int},(∀ x∈ns,-B≤x/\x≤B)->0≤B->-(B*ns.length)≤ns.sum/\ns.sum≤B*ns.length
 |[],_,_=>by simp
 | n::ns,h,hB=>by
   have h1:=h n (List.mem_cons_self ..)
   have h2:=sum_bound (ns:=ns) (fun x hx=>h x (List.mem_cons_of_mem _ hx)) hB
   rw [List.sum_cons,List.length_cons,Int.natCast_succ,Int.mul_add,Int.mul_one]
   omega
section
variable {X:Cx}
theorem vQ (hc:X.calm=true):dG X (.builtin "sum") (fun xs H Q=>∃ (p:Addr) (ns:List Int),xs=[.ref p]/\bM X.K H p (ns.map V.int)/\ns.length≤1000/\(∀ x∈ns,-10000000000000≤x/\x≤10000000000000)/\Q (.int ns.sum) H):=by
 intro Z s U H xs us Q I r h
 obtain ⟨p,ns,rfl,hq,hl,hb,q⟩:=h
 obtain ⟨u,rfl,ru⟩:=vals1 r
 cases (show u=Value.ref p from ru)
 obtain ⟨its,rv,pl,hz⟩:=I.list hq
 obtain ⟨ps,rfl,e⟩:=nC rv
 have hlen:ps.length=ns.length:=by rw [← e,List.length_map]
 have pl':=pl.isList
 rw [yc] at pl'
 have at_:∀ i (hi:i<ns.length),numAt ps.toArray i=ns[i]:=fun i hi=>numAt_eq e hi
 refine sum_intList (I.ok.hd hc) pl' (fun j hj=>?_) fun h' tk t' k=>?_
 ·have hj':j<ns.length:=by simpa [hlen] using hj
  rw [at_ j hj',g_ at_ (j+1) hj']
  have b1:=hb _ (List.getElem_mem hj')
  have b2:=sum_bound (B:=10000000000000) (ns:=ns.take (j+1)) (fun x hx=>hb x (List.mem_of_mem_take hx)) (by decide)
  have b3:(ns.take (j+1)).length≤1000:=by rw [List.length_take];omega
  refine ⟨⟨?_,?_⟩,?_,?_⟩ <;> omega
 ·have:preSum (numAt ps.toArray) ps.toArray.size=ns.sum:=by
   rw [List.size_toArray,hlen,g_ at_ _ (Nat.le_refl _),List.take_length]
  rw [this]
  exact ⟨.int _,H,I.kept k,⟨_,rfl⟩,q⟩
end
end L2
namespace L2
open PySem PySem.Spec PyProof.Rows
section
variable {X:Cx} {Z:List (Addr×Obj)} {U:St} {H:Hp} {s:Shared}
end
section
variable {X:Cx} {scope:Scope} {own:List Str} {js:List Nat} {N':List Str} {wi:TI} {g:TG} {tt:TT} {te:TE} {elt tg iter:Expr} {ifs:List Expr} {pos:Pos}
end
end L2
namespace L2
open PySem
theorem wZ {X:Cx} {tg l:Expr} {tl:TE} {K:PySem.W.Frag} (hK:X.K=K) (hl:PE X l tl):PI X tg l (tH K tl):=by
 subst hK
 exact dY hl
end L2
namespace L2
open PySem PySem.Spec PyProof.Rows PySem.SeqAt
abbrev dF (h:Heap) (z TI TO:Addr) (f0:Value) (b:Bool):Prop:=
 h.get? z=some { cls:=.type "zip",dict:=none,data:=.fields #[f0,.bool b,.bool false,.ref TI,.ref TO],slots:=#[] }
section
variable {prog:Program} {w:World} {A:Around} {E:Value->Shared->Prop} {s:Shared}
theorem vd {a:Addr} {Q:Option Obj->Shared->Prop} (h:Q (s.heap.get? a) s):wpAny (model prog w) A (loadIfAlive a) Q E s:=by
 exact fun _ _ _=>h
theorem qi {z TI TO:Addr} {f0:Value} {b:Bool} {Q:Bool->Shared->Prop} (hz:dF s.heap z TI TO f0 b) (hf:f0=.none∨∃ a:Int,f0=rawInt a)
 (hT:Q true s) (hF:∀ h',dF h' z TI TO f0 true->Heap.SameBut z s.heap h'->Q false { s with heap:=h' }):wpAny (model prog w) A (Builtin.SmallTypes.ownedTupleIsFree (.ref z)) Q E s:=by
 unfold Builtin.SmallTypes.ownedTupleIsFree
 rcases hf with rfl|⟨a,rfl⟩
 ·exact wpAny_bind (wpAny_field hz rfl (x:=.none) rfl (wpAny_pure hT))
 ·refine wpAny_bind (wpAny_field hz rfl (x:=rawInt a) rfl ?_)
  show wpAny _ _ (loadIfAlive a.toNat >>= _) _ _ _
  refine wpAny_bind (vd ?_)
  cases hR:s.heap.get? a.toNat with
  |none=>exact wpAny_pure hT
  | some o=>
    show wpAny _ _ (field (.ref z) 1 >>= _) _ _ _
    refine wpAny_bind (wpAny_field hz rfl (x:=.bool b) rfl ?_)
    cases b with
    |true=>exact wpAny_pure (hF s.heap hz (Heap.SameBut.refl ..))
    | false=>
      show wpAny _ _ (setField (.ref z) 1 (.bool true) >>= _) _ _ _
      exact wpAny_bind (wpAny_setField_rec hz (by simp) fun h₁ hz₁ hs₁=>wpAny_pure (hF h₁ hz₁ hs₁))
structure ZS (h:Heap) (z TI TO i1 i2 a1 a2:Addr) (k1 k2:Nat):Prop where
 zz:∃ f0 b,dF h z TI TO f0 b/\(f0=.none∨∃ a:Int,f0=rawInt a)
 ti:IsPair h TI (.ref i1) (.ref i2)
 to:∃ x y,IsPair h TO x y
 h1:h.IsTupleIter i1 a1 k1
 h2:h.IsTupleIter i2 a2 k2
theorem bG {h h':Heap} {c it l:Addr} {i:Nat} (x:h.IsTupleIter it l i) (hs:Heap.ExtBut c h h') (hc:it≠c):h'.IsTupleIter it l i:=x.at fun o e=>hs _ _ hc e
theorem cB {h h':Heap} {c l:Addr} {xs:Array Value} (x:h.IsTuple l xs) (hs:Heap.ExtBut c h h') (hc:l≠c):h'.IsTuple l xs:=let ⟨o,e,r⟩:=x;⟨o,hs _ _ hc e,r⟩
theorem vN {z TI TO i1 i2 a1 a2:Addr} {k1 k2:Nat} {xs ys:Array Value} {x y:Value} {Q:Value->Shared->Prop} (D:ZipApart z TI TO i1 i2 a1 a2) (S:ZS s.heap z TI TO i1 i2 a1 a2 k1 k2)
 (t1:s.heap.IsTuple a1 xs) (t2:s.heap.IsTuple a2 ys) (hx:xs[k1]?=some x) (hy:ys[k2]?=some y)
 (hQ:∀ h',ZS h' z TI TO i1 i2 a1 a2 (k1+1) (k2+1)->IsPair h' s.heap.objs.size x y->h'.objs.size=s.heap.objs.size+1->
  (∀ c o,c≠z->c≠TO->c≠i1->c≠i2->s.heap.get? c=some o->h'.get? c=some o)->Q (.ref s.heap.objs.size) { s with heap:=h' }) :
 wpAny (model prog w) A (Builtin.«zip.__next__» ⟨[.ref z],[]⟩) (fun fin s'=>∃ v,fin=.done (.ret v)/\Q v s') E s:=by
 obtain ⟨⟨f0,b,hz,hf⟩,hTI,⟨a,b',hTO⟩,h1,h2⟩:=S
 show wpAny _ _ (field (.ref z) 2 >>= _) _ _ _
 refine wpAny_bind (wpAny_field hz rfl (x:=.bool false) rfl ?_)
 show wpAny _ _ (field (.ref z) 3 >>= _) _ _ _
 refine wpAny_bind (wpAny_field hz rfl (x:=.ref TI) rfl ?_)
 refine wpAny_bind (wpAny_seqItems hTI rfl ?_)
 show wpAny _ _ (Builtin.SmallTypes.ownedTupleIsFree (.ref z) >>= _) _ _ _
 refine wpAny_bind (qi hz hf ?_ fun h₀ hz₀ hs₀=>?_)
 ·simp only [if_true]
  refine wpAny_bind (wpAny_rule ?_)
  refine wpAny_bind (wpAny_field hz rfl (x:=.ref TO) rfl ?_)
  refine wpAny_bind (wpAny_setField_rec hz (by simp) fun h₁ hz₁ hs₁=>?_)
  replace hz₁:dF h₁ z TI TO .ellipsis b:=hz₁
  refine wpAny_bind ?_
  simp only [List.zipIdx_cons,List.zipIdx_nil,List.forIn_cons,List.forIn_nil]
  refine wpAny_bind (wpAny_bind (wpAny_onRaise ?_))
  show wpAny _ _ (Builtin.SmallTypes.nextOf (.ref i1) >>= _) _ _ _
  refine wpAny_bind (eX (bG h1 hs₁.extBut D.i1z) (cB t1 hs₁.extBut D.l1z) hx fun h₂ h1₂ hs₂=>wpAny_pure ?_)
  have hTO₂:IsPair h₂ TO a b':=hs₂.extBut _ _ D.TOi1 (hs₁.extBut _ _ D.TOz hTO)
  refine wpAny_bind (wpAny_seqItems hTO₂ rfl ?_)
  refine wpAny_bind (wpAny_updateSeq_pair hTO₂ fun h₃ hTO₃ hs₃=>?_)
  replace hTO₃:IsPair h₃ TO x b':=hTO₃
  refine wpAny_bind (wpAny_letGo (wpAny_pure ?_))
  refine wpAny_bind (wpAny_bind (wpAny_onRaise ?_))
  show wpAny _ _ (Builtin.SmallTypes.nextOf (.ref i2) >>= _) _ _ _
  refine wpAny_bind (eX (bG (bG (bG h2 hs₁.extBut D.i2z) hs₂.extBut D.i12.symm) hs₃.extBut D.TOi2.symm)
   (cB (cB (cB t2 hs₁.extBut D.l2z) hs₂.extBut D.l2i1) hs₃.extBut D.l2TO) hy fun h₄ h2₄ hs₄=>wpAny_pure ?_)
  have hTO₄:IsPair h₄ TO x b':=hs₄.extBut _ _ D.TOi2 hTO₃
  refine wpAny_bind (wpAny_seqItems hTO₄ rfl ?_)
  refine wpAny_bind (wpAny_updateSeq_pair hTO₄ fun h₅ hTO₅ hs₅=>?_)
  replace hTO₅:IsPair h₅ TO x y:=hTO₅
  refine wpAny_bind (wpAny_letGo (wpAny_pure (wpAny_pure ?_)))
  refine wpAny_bind (wpAny_seqItems hTO₅ rfl ?_)
  refine wpAny_bind (wpAny_newTuple ?_)
  have hsz:h₅.objs.size=s.heap.objs.size:=by rw [hs₅.1,hs₄.1,hs₃.1,hs₂.1,hs₁.1]
  have hz₅:dF h₅ z TI TO .ellipsis b:=hs₅.extBut _ _ D.TOz.symm (hs₄.extBut _ _ D.i2z.symm (hs₃.extBut _ _ D.TOz.symm (hs₂.extBut _ _ D.i1z.symm hz₁)))
  have hk₅:∀ c o,c≠z->c≠TO->c≠i1->c≠i2->s.heap.get? c=some o->h₅.get? c=some o:=fun c o c1 c2 c3 c4 e=>
   hs₅.extBut _ _ c2 (hs₄.extBut _ _ c4 (hs₃.extBut _ _ c2 (hs₂.extBut _ _ c3 (hs₁.extBut _ _ c1 e))))
  have h1₅:h₅.IsTupleIter i1 a1 (k1+1):=bG (bG (bG h1₂ hs₃.extBut D.TOi1.symm) hs₄.extBut D.i12) hs₅.extBut D.TOi1.symm
  have h2₅:h₅.IsTupleIter i2 a2 (k2+1):=bG h2₄ hs₅.extBut D.TOi2.symm
  have hzlt:z<h₅.objs.size:=Heap.lt_size hz₅
  show wpAny _ _ (Builtin.SmallTypes.ownedTupleHandOut (.ref z) (.ref h₅.objs.size) >>= _) _ _ _
  refine wpAny_bind ?_
  unfold Builtin.SmallTypes.ownedTupleHandOut
  have hz₆:dF (h₅.push { cls:=.type "tuple",data:=.seq #[x,y] }) z TI TO .ellipsis b:=Heap.get?_push_of_some _ hz₅
  refine wpAny_bind (wpAny_setField_rec hz₆ (by simp) fun h₇ hz₇ hs₇=>?_)
  replace hz₇:dF h₇ z TI TO (rawInt h₅.objs.size) b:=hz₇
  refine wpAny_setField_rec hz₇ (by simp) fun h₈ hz₈ hs₈=>?_
  replace hz₈:dF h₈ z TI TO (rawInt h₅.objs.size) false:=hz₈
  have up:∀ c o,c≠z->h₅.get? c=some o->h₈.get? c=some o:=fun c o c1 e=>hs₈.extBut _ _ c1 (hs₇.extBut _ _ c1 (Heap.get?_push_of_some _ e))
  have hT₈:IsPair h₈ h₅.objs.size x y:=hs₈.extBut _ _ (Nat.ne_of_gt hzlt) (hs₇.extBut _ _ (Nat.ne_of_gt hzlt) (Heap.get?_push_size _ rfl))
  have hz8:h₈.objs.size=h₅.objs.size+1:=by rw [hs₈.1,hs₇.1,Heap.size_push]
  rw [hsz] at hT₈ hz8
  refine wpAny_pure ⟨_,rfl,?_⟩
  show Q (.ref h₅.objs.size) _
  rw [hsz]
  exact hQ h₈ ⟨⟨_,_,hz₈,.inr ⟨_,rfl⟩⟩,up _ _ D.TIz (hk₅ _ _ D.TIz D.TITO D.TIi1 D.TIi2 hTI),⟨_,_,up _ _ D.TOz hTO₅⟩,h1₅.at fun o e=>up _ o D.i1z e,h2₅.at fun o e=>up _ o D.i2z e⟩ hT₈ hz8 fun c o c1 c2 c3 c4 e=>up c o c1 (hk₅ c o c1 c2 c3 c4 e)
 ·simp only [Bool.false_eq_true,if_false]
  rw [← Array.forIn_toList]
  simp only [List.forIn_cons,List.forIn_nil]
  refine wpAny_bind (wpAny_bind (wpAny_bind (wpAny_holding ?_)))
  show wpAny _ _ (Builtin.SmallTypes.nextOf (.ref i1) >>= _) _ _ _
  refine wpAny_bind (eX (bG h1 hs₀.extBut D.i1z) (cB t1 hs₀.extBut D.l1z) hx fun h₂ h1₂ hs₂=>wpAny_pure (wpAny_pure ?_))
  dsimp only
  refine wpAny_bind (wpAny_bind (wpAny_holding ?_))
  show wpAny _ _ (Builtin.SmallTypes.nextOf (.ref i2) >>= _) _ _ _
  refine wpAny_bind (eX (bG (bG h2 hs₀.extBut D.i2z) hs₂.extBut D.i12.symm) (cB (cB t2 hs₀.extBut D.l2z) hs₂.extBut D.l2i1) hy fun h₄ h2₄ hs₄=>wpAny_pure (wpAny_pure ?_))
  dsimp only
  refine wpAny_pure ?_
  dsimp only
  refine wpAny_bind (wpAny_newTuple ?_ (by show 2≤sizeLine;decide))
  have hsz:h₄.objs.size=s.heap.objs.size:=by rw [hs₄.1,hs₂.1,hs₀.1]
  have hk₄:∀ c o,c≠z->c≠TO->c≠i1->c≠i2->s.heap.get? c=some o->h₄.get? c=some o:=fun c o c1 c2 c3 c4 e=>hs₄.extBut _ _ c4 (hs₂.extBut _ _ c3 (hs₀.extBut _ _ c1 e))
  have hz₄:dF h₄ z TI TO f0 true:=hs₄.extBut _ _ D.i2z.symm (hs₂.extBut _ _ D.i1z.symm hz₀)
  have up:∀ c o,h₄.get? c=some o->(h₄.push { cls:=.type "tuple",data:=.seq #[x,y] }).get? c=some o:=fun c o e=>Heap.get?_push_of_some _ e
  refine wpAny_pure ⟨_,rfl,?_⟩
  show Q (.ref h₄.objs.size) _
  have hT:IsPair (h₄.push { cls:=.type "tuple",data:=.seq #[x,y] }) h₄.objs.size x y:=Heap.get?_push_size _ rfl
  have hz8:(h₄.push { cls:=.type "tuple",data:=.seq #[x,y] }).objs.size=h₄.objs.size+1:=Heap.size_push ..
  rw [hsz] at hT hz8
  rw [hsz]
  have hTO₄:IsPair h₄ TO a b':=hs₄.extBut _ _ D.TOi2 (hs₂.extBut _ _ D.TOi1 (hs₀.extBut _ _ D.TOz hTO))
  exact hQ _ ⟨⟨_,_,up _ _ hz₄,hf⟩,up _ _ (hk₄ _ _ D.TIz D.TITO D.TIi1 D.TIi2 hTI),⟨_,_,up _ _ hTO₄⟩,(bG h1₂ hs₄.extBut D.i12).at fun o e=>up _ o e,h2₄.at fun o e=>up _ o e⟩ hT hz8 fun c o c1 c2 c3 c4 e=>up c o (hk₄ c o c1 c2 c3 c4 e)
theorem xU {z TI TO i1 i2 a1 a2:Addr} {k1 k2:Nat} {xs ys:Array Value} {Q:Fin->Shared->Prop} (hh:A.handled=none) (D:ZipApart z TI TO i1 i2 a1 a2) (S:ZS s.heap z TI TO i1 i2 a1 a2 k1 k2)
 (t1:s.heap.IsTuple a1 xs) (t2:s.heap.IsTuple a2 ys) (hend:xs[k1]?=none∨ys[k2]?=none)
 (hE:∀ h' e,(∀ c o,c≠z->c≠TO->c≠i1->c≠i2->s.heap.get? c=some o->h'.get? c=some o)->(∃ o,h'.get? e=some o/\o.cls=.type "StopIteration")->E (.ref e) { s with heap:=h' }) :
 wpAny (model prog w) A (Builtin.«zip.__next__» ⟨[.ref z],[]⟩) Q E s:=by
 obtain ⟨⟨f0,b,hz,hf⟩,hTI,⟨a,b',hTO⟩,h1,h2⟩:=S
 show wpAny _ _ (field (.ref z) 2 >>= _) _ _ _
 refine wpAny_bind (wpAny_field hz rfl (x:=.bool false) rfl ?_)
 show wpAny _ _ (field (.ref z) 3 >>= _) _ _ _
 refine wpAny_bind (wpAny_field hz rfl (x:=.ref TI) rfl ?_)
 refine wpAny_bind (wpAny_seqItems hTI rfl ?_)
 show wpAny _ _ (Builtin.SmallTypes.ownedTupleIsFree (.ref z) >>= _) _ _ _
 refine wpAny_bind (qi hz hf ?_ fun h₀ hz₀ hs₀=>?_)
 ·simp only [if_true]
  refine wpAny_bind (wpAny_rule ?_)
  refine wpAny_bind (wpAny_field hz rfl (x:=.ref TO) rfl ?_)
  refine wpAny_bind (wpAny_setField_rec hz (by simp) fun h₁ hz₁ hs₁=>?_)
  replace hz₁:dF h₁ z TI TO .ellipsis b:=hz₁
  refine wpAny_bind ?_
  simp only [List.zipIdx_cons,List.zipIdx_nil,List.forIn_cons,List.forIn_nil]
  refine wpAny_bind (wpAny_bind (wpAny_onRaise ?_))
  show wpAny _ _ (Builtin.SmallTypes.nextOf (.ref i1) >>= _) _ _ _
  cases hx:xs[k1]? with
  | none=>
    refine wpAny_bind (eE hh (bG h1 hs₁.extBut D.i1z) (cB t1 hs₁.extBut D.l1z) hx fun h₂ e hs₂ he=>?_)
    obtain ⟨oe,hoe,hce⟩:=he
    have hz₂:dF h₂ z TI TO .ellipsis b:=hs₂ _ _ D.i1z.symm hz₁
    have hez:e≠z:=fun x=>by subst x;rw [hz₂] at hoe;cases hoe;simp at hce
    refine wpAny_setField_rec hz₂ (by simp) fun h₃ _ hs₃=>hE h₃ e (fun c o c1 _ c3 _ x=>hs₃.extBut _ _ c1 (hs₂ _ _ c3 (hs₁.extBut _ _ c1 x))) ⟨oe,hs₃.extBut _ _ hez hoe,hce⟩
  | some x=>
    have hy:ys[k2]?=none:=by rcases hend with h|h;rw [hx] at h;cases h;exact h
    refine wpAny_bind (eX (bG h1 hs₁.extBut D.i1z) (cB t1 hs₁.extBut D.l1z) hx fun h₂ h1₂ hs₂=>wpAny_pure ?_)
    have hTO₂:IsPair h₂ TO a b':=hs₂.extBut _ _ D.TOi1 (hs₁.extBut _ _ D.TOz hTO)
    refine wpAny_bind (wpAny_seqItems hTO₂ rfl ?_)
    refine wpAny_bind (wpAny_updateSeq_pair hTO₂ fun h₃ hTO₃ hs₃=>?_)
    refine wpAny_bind (wpAny_letGo (wpAny_pure ?_))
    refine wpAny_bind (wpAny_bind (wpAny_onRaise ?_))
    show wpAny _ _ (Builtin.SmallTypes.nextOf (.ref i2) >>= _) _ _ _
    refine wpAny_bind (eE hh (bG (bG (bG h2 hs₁.extBut D.i2z) hs₂.extBut D.i12.symm) hs₃.extBut D.TOi2.symm)
     (cB (cB (cB t2 hs₁.extBut D.l2z) hs₂.extBut D.l2i1) hs₃.extBut D.l2TO) hy fun h₄ e hs₄ he=>?_)
    obtain ⟨oe,hoe,hce⟩:=he
    have hz₄:dF h₄ z TI TO .ellipsis b:=hs₄ _ _ D.i2z.symm (hs₃.extBut _ _ D.TOz.symm (hs₂.extBut _ _ D.i1z.symm hz₁))
    have hez:e≠z:=fun x=>by subst x;rw [hz₄] at hoe;cases hoe;simp at hce
    refine wpAny_setField_rec hz₄ (by simp) fun h₅ _ hs₅=>hE h₅ e (fun c o c1 c2 c3 c4 x=>hs₅.extBut _ _ c1 (hs₄ _ _ c4 (hs₃.extBut _ _ c2 (hs₂.extBut _ _ c3 (hs₁.extBut _ _ c1 x))))) ⟨oe,hs₅.extBut _ _ hez hoe,hce⟩
 ·simp only [Bool.false_eq_true,if_false]
  rw [← Array.forIn_toList]
  simp only [List.forIn_cons,List.forIn_nil]
  refine wpAny_bind (wpAny_bind (wpAny_bind (wpAny_holding ?_)))
  show wpAny _ _ (Builtin.SmallTypes.nextOf (.ref i1) >>= _) _ _ _
  cases hx:xs[k1]? with
  | none=>
    refine wpAny_bind (eE hh (bG h1 hs₀.extBut D.i1z) (cB t1 hs₀.extBut D.l1z) hx fun h₂ e hs₂ he=>?_)
    exact hE h₂ e (fun c o c1 _ c3 _ x=>hs₂ _ _ c3 (hs₀.extBut _ _ c1 x)) he
  | some x=>
    have hy:ys[k2]?=none:=by rcases hend with h|h;rw [hx] at h;cases h;exact h
    refine wpAny_bind (eX (bG h1 hs₀.extBut D.i1z) (cB t1 hs₀.extBut D.l1z) hx fun h₂ h1₂ hs₂=>wpAny_pure (wpAny_pure ?_))
    dsimp only
    refine wpAny_bind (wpAny_bind (wpAny_holding ?_))
    show wpAny _ _ (Builtin.SmallTypes.nextOf (.ref i2) >>= _) _ _ _
    refine wpAny_bind (eE hh (bG (bG h2 hs₀.extBut D.i2z) hs₂.extBut D.i12.symm) (cB (cB t2 hs₀.extBut D.l2z) hs₂.extBut D.l2i1) hy fun h₄ e hs₄ he=>?_)
    exact hE h₄ e (fun c o c1 c2 c3 c4 x=>hs₄ _ _ c4 (hs₂.extBut _ _ c3 (hs₀.extBut _ _ c1 x))) he
theorem rG {z TI TO i1 i2 a1 a2:Addr} {k1 k2:Nat} {xs ys:Array Value} {x y:Value} {Q:Value->Shared->Prop} (D:ZipApart z TI TO i1 i2 a1 a2) (S:ZS s.heap z TI TO i1 i2 a1 a2 k1 k2)
 (t1:s.heap.IsTuple a1 xs) (t2:s.heap.IsTuple a2 ys) (hx:xs[k1]?=some x) (hy:ys[k2]?=some y)
 (hQ:∀ h',ZS h' z TI TO i1 i2 a1 a2 (k1+1) (k2+1)->IsPair h' s.heap.objs.size x y->h'.objs.size=s.heap.objs.size+1->
  (∀ c o,c≠z->c≠TO->c≠i1->c≠i2->s.heap.get? c=some o->h'.get? c=some o)->Q (.ref s.heap.objs.size) { s with heap:=h' }) :
 wpAny (model prog w) A (Builtin.SmallTypes.nextOf (.ref z)) Q E s:=by
 obtain ⟨f0,b,hz,_⟩:=S.zz
 have hT:s.TypeIs (.ref z) "zip":=⟨_,hz,rfl⟩
 unfold Builtin.SmallTypes.nextOf
 exact wpAny_bind (wpAny_callSpecial?_slot (name:=Str.ofString "__next__") hT F.slot_zip_next (wpAny_call_entry F.slot_zip_next hT F.entry_zip_next
  (vN D S t1 t2 hx hy fun h' a1 a2 a3 a4=>wpAny_pure (hQ h' a1 a2 a3 a4)) (F.args_zip_next_1 _)))
theorem vO {z TI TO i1 i2 a1 a2:Addr} {k1 k2:Nat} {xs ys:Array Value} {Q:Value->Shared->Prop} (hh:A.handled=none) (D:ZipApart z TI TO i1 i2 a1 a2) (S:ZS s.heap z TI TO i1 i2 a1 a2 k1 k2)
 (t1:s.heap.IsTuple a1 xs) (t2:s.heap.IsTuple a2 ys) (hend:xs[k1]?=none∨ys[k2]?=none)
 (hE:∀ h' e,(∀ c o,c≠z->c≠TO->c≠i1->c≠i2->s.heap.get? c=some o->h'.get? c=some o)->(∃ o,h'.get? e=some o/\o.cls=.type "StopIteration")->E (.ref e) { s with heap:=h' }) :
 wpAny (model prog w) A (Builtin.SmallTypes.nextOf (.ref z)) Q E s:=by
 obtain ⟨f0,b,hz,_⟩:=S.zz
 have hT:s.TypeIs (.ref z) "zip":=⟨_,hz,rfl⟩
 unfold Builtin.SmallTypes.nextOf
 exact wpAny_bind (wpAny_callSpecial?_slot (name:=Str.ofString "__next__") hT F.slot_zip_next (wpAny_call_entry F.slot_zip_next hT F.entry_zip_next (xU (A:=A.in1) hh D S t1 t2 hend hE) (F.args_zip_next_1 _)))
theorem vU {e it:Addr} {i:Nat} {old:Value} {Q:Value->Shared->Prop} (he:IsEnum s.heap e it i old)
 (draw:wpAny (model prog w) A (Builtin.SmallTypes.nextOf (.ref it)) (fun x s₁=>∃ h₁ tk,s₁={ s with heap:=h₁,toks:=tk }/\IsEnum h₁ e it i old/\
  ∀ h',IsEnumOut h' e it ((i:Int)+1) x h₁.objs.size->h'.get? h₁.objs.size=some { cls:=.type "tuple",data:=.seq #[.int i tk,x] }->(∀ b o,b≠e->h₁.get? b=some o->h'.get? b=some o)->
    Q (.ref h₁.objs.size) { s with heap:=h',toks:=tk+1 }) E s) :
 wpAny (model prog w) A (Builtin.«enumerate.__next__» ⟨[.ref e],[]⟩) (fun fin s'=>∃ v,fin=.done (.ret v)/\Q v s') E s:=by
 obtain ⟨hp,g,d,tk₀,os⟩:=s
 show wpAny _ _ (field (.ref e) 2 >>= _) _ _ _
 refine wpAny_bind (wpAny_field he rfl (x:=.ref it) rfl ?_)
 refine wpAny_bind (wpAny_mono draw (fun x s₁ hx=>?_) fun _ _ z=>z)
 obtain ⟨h₁,tk,rfl,he₁,hQ⟩:=hx
 show wpAny _ _ (field (.ref e) 3 >>= _) _ _ ⟨h₁,g,d,tk,os⟩
 refine wpAny_bind (wpAny_field he₁ rfl (x:=rawInt i) rfl ?_)
 show wpAny _ _ (field (.ref e) 4 >>= _) _ _ ⟨h₁,g,d,tk,os⟩
 refine wpAny_bind (wpAny_field he₁ rfl (x:=.none) rfl ?_)
 show wpAny _ _ (mkInt i >>= _) _ _ ⟨h₁,g,d,tk,os⟩
 refine wpAny_bind (wpAny_mkInt ?_)
 show wpAny _ _ (setField (.ref e) 3 (rawInt ((i:Int)+1)) >>= _) _ _ ⟨h₁,g,d,tk+1,os⟩
 refine wpAny_bind (wpAny_setField_rec he₁ (by simp) fun h₂ he₂ hs₂=>?_)
 replace hs₂:Heap.SameBut e h₁ h₂:=hs₂
 replace he₂:IsEnum h₂ e it ((i:Int)+1) old:=he₂
 show wpAny _ _ (setField (.ref e) 4 .none >>= _) _ _ ⟨h₂,g,d,tk+1,os⟩
 refine wpAny_bind (wpAny_setField_rec he₂ (by simp) fun h₃ he₃ hs₃=>?_)
 replace hs₃:Heap.SameBut e h₂ h₃:=hs₃
 replace he₃:IsEnum h₃ e it ((i:Int)+1) old:=he₃
 show wpAny _ _ (newTuple [.int i tk,x] >>= _) _ _ ⟨h₃,g,d,tk+1,os⟩
 refine wpAny_bind (wpAny_newTuple ?_)
 have he₄:IsEnum (h₃.push { cls:=.type "tuple",data:=.seq #[.int i tk,x] }) e it ((i:Int)+1) old:=Heap.get?_push_of_some _ he₃
 have hsz:h₃.objs.size=h₁.objs.size:=by rw [hs₃.1,hs₂.1]
 have ht₄:(h₃.push { cls:=.type "tuple",data:=.seq #[.int i tk,x] }).get? h₃.objs.size=some { cls:=.type "tuple",data:=.seq #[.int i tk,x] }:=Heap.get?_push_size _ rfl
 have hk₄:∀ b o,b≠e->h₁.get? b=some o->(h₃.push { cls:=.type "tuple",data:=.seq #[.int i tk,x] }).get? b=some o:=fun b o hbe hb=>Heap.get?_push_of_some _ (hs₃.extBut b o hbe (hs₂.extBut b o hbe hb))
 have hel:e<h₃.objs.size:=Heap.lt_size he₃
 generalize h₃.push { cls:=.type "tuple",data:=.seq #[.int i tk,x] }=h₄ at he₄ ht₄ hk₄
 rw [hsz] at ht₄ hel ⊢
 show wpAny _ _ (Builtin.SmallTypes.ownedTupleIsFree (.ref e) >>= _) _ _ ⟨h₄,g,d,tk+1,os⟩
 refine wpAny_bind ?_
 unfold Builtin.SmallTypes.ownedTupleIsFree
 refine wpAny_bind (wpAny_field he₄ rfl (x:=.none) rfl (wpAny_pure ?_))
 simp only [if_true]
 refine wpAny_bind (wpAny_rule ?_)
 show wpAny _ _ (field (.ref e) 5 >>= _) _ _ _
 refine wpAny_bind (wpAny_field he₄ rfl (x:=old) rfl ?_)
 show wpAny _ _ (setField (.ref e) 5 x >>= _) _ _ ⟨h₄,g,d,tk+1,os⟩
 refine wpAny_bind (wpAny_setField_rec he₄ (by simp) fun h₅ he₅ hs₅=>?_)
 replace he₅:IsEnum h₅ e it ((i:Int)+1) x:=he₅
 replace hs₅:Heap.SameBut e h₄ h₅:=hs₅
 show wpAny _ _ (Builtin.SmallTypes.ownedTupleHandOut (.ref e) (.ref h₁.objs.size) >>= _) _ _ _
 refine wpAny_bind ?_
 unfold Builtin.SmallTypes.ownedTupleHandOut
 refine wpAny_bind (wpAny_setField_rec he₅ (by simp) fun h₆ he₆ hs₆=>?_)
 replace hs₆:Heap.SameBut e h₅ h₆:=hs₆
 replace he₆:IsEnumOut h₆ e it ((i:Int)+1) x h₁.objs.size:=he₆
 refine wpAny_setField_rec he₆ (by simp) fun h₇ he₇ hs₇=>?_
 replace hs₇:Heap.SameBut e h₆ h₇:=hs₇
 replace he₇:IsEnumOut h₇ e it ((i:Int)+1) x h₁.objs.size:=he₇
 refine wpAny_bind (wpAny_letGo (wpAny_pure ⟨_,rfl,?_⟩))
 have up:∀ b o,b≠e->h₄.get? b=some o->h₇.get? b=some o:=fun b o hb z=>hs₇.extBut b o hb (hs₆.extBut b o hb (hs₅.extBut b o hb z))
 exact hQ h₇ he₇ (up _ _ (Nat.ne_of_gt hel) ht₄) fun b o hb z=>up b o hb (hk₄ b o hb z)
end
abbrev Le (h:Heap) (l1:Addr):Heap:=h.push { cls:=.type "tuple_iterator",data:=.fields #[.ref l1,.int 0 0] }
abbrev Mm (h:Heap) (l1 l2:Addr):Heap:=(Le h l1).push { cls:=.type "tuple_iterator",data:=.fields #[.ref l2,.int 0 0] }
abbrev Ln (h:Heap) (l1 l2:Addr):Heap:=(Mm h l1 l2).push { cls:=.type "tuple",data:=.seq #[.ref h.objs.size,.ref (Le h l1).objs.size] }
abbrev Lh (h:Heap) (l1 l2:Addr):Heap:=(Ln h l1 l2).push { cls:=.type "tuple",data:=.seq #[.none,.none] }
abbrev Ew (h:Heap) (l1 l2:Addr):Heap:=(Lh h l1 l2).push { cls:=.type "zip",data:=.fields #[.none,.bool false,.bool false,.ref (Mm h l1 l2).objs.size,.ref (Ln h l1 l2).objs.size] }
theorem wU (l1 l2:Addr) (xs ys:Array Value) :
 Meets (Builtin.«zip.__new__» ⟨[.type "zip",.ref l1,.ref l2],[]⟩) (fun _ R s=>s.heap.IsTuple l1 xs/\s.heap.IsTuple l2 ys/\
  R (.ok (.ret (.ref (Lh s.heap l1 l2).objs.size))) { s with heap:=Ew s.heap l1 l2 }):=
 .of_wp fun prog w A R s h=>by
  obtain ⟨hp,g,d,tk,os⟩:=s;obtain ⟨hl1,hl2,h⟩:=h
  have hsub:=sub_zip
  have hL1:Heap.IsTuple (Shared.heap ⟨hp,g,d,tk,os⟩) l1 xs:=hl1
  have hL2:Heap.IsTuple (Shared.heap ⟨hp.push { cls:=.type "tuple_iterator",data:=.fields #[.ref l1,.int 0 0] },g,d,tk,os⟩) l2 ys:=let ⟨o,e,r⟩:=hl2;⟨o,Heap.get?_push_of_some _ e,r⟩
  wp_walk using wpAny_pyIter_tuple hL1,wpAny_pyIter_tuple hL2
  exact ⟨_,rfl,h⟩
section
variable {prog:Program} {w:World} {A:Around} {E:Value->Shared->Prop} {s:Shared}
theorem vX {l1 l2:Addr} {xs ys:Array Value} {Q:Value->Shared->Prop} (hl1:s.heap.IsTuple l1 xs) (hl2:s.heap.IsTuple l2 ys)
 (h:∀ h',dF h' (s.heap.objs.size+4) (s.heap.objs.size+2) (s.heap.objs.size+3) .none false->IsPair h' (s.heap.objs.size+2) (.ref s.heap.objs.size) (.ref (s.heap.objs.size+1))->
  IsPair h' (s.heap.objs.size+3) .none .none->h'.IsTupleIter s.heap.objs.size l1 0->h'.IsTupleIter (s.heap.objs.size+1) l2 0->h'.objs.size=s.heap.objs.size+5->
  (∀ c o,s.heap.get? c=some o->h'.get? c=some o)->Q (.ref (s.heap.objs.size+4)) { s with heap:=h' }) :
 wpAny (model prog w) A (call (.type "zip") [.ref l1,.ref l2]) Q E s:=by
 refine callType_new F.called_zip (by decide) (F.typeCall_zip_2 _ _) (F.newCall_zip_2 _ _) (fun obj=>F.args_object_init_3 obj _ _) F.entry_zip_new
  (wU l1 l2 xs ys) ⟨hl1,hl2,?_⟩
 have z1:(Le s.heap l1).objs.size=s.heap.objs.size+1:=Heap.size_push ..
 have z2:(Mm s.heap l1 l2).objs.size=s.heap.objs.size+2:=by rw [Heap.size_push,z1]
 have z3:(Ln s.heap l1 l2).objs.size=s.heap.objs.size+3:=by rw [Heap.size_push,z2]
 have z4:(Lh s.heap l1 l2).objs.size=s.heap.objs.size+4:=by rw [Heap.size_push,z3]
 have z5:(Ew s.heap l1 l2).objs.size=s.heap.objs.size+5:=by rw [Heap.size_push,z4]
 have g5:(Ew s.heap l1 l2).get? (Lh s.heap l1 l2).objs.size=some _:=Heap.get?_push_size _ rfl
 have g4:(Ew s.heap l1 l2).get? (Ln s.heap l1 l2).objs.size=some _:=Heap.get?_push_of_some _ (Heap.get?_push_size _ rfl)
 have g3:(Ew s.heap l1 l2).get? (Mm s.heap l1 l2).objs.size=some _:=Heap.get?_push_of_some _ (Heap.get?_push_of_some _ (Heap.get?_push_size _ rfl))
 have g2:(Ew s.heap l1 l2).get? (Le s.heap l1).objs.size=some _:=Heap.get?_push_of_some _ (Heap.get?_push_of_some _ (Heap.get?_push_of_some _ (Heap.get?_push_size _ rfl)))
 have g1:(Ew s.heap l1 l2).get? s.heap.objs.size=some _:=Heap.get?_push_of_some _ (Heap.get?_push_of_some _ (Heap.get?_push_of_some _ (Heap.get?_push_of_some _ (Heap.get?_push_size _ rfl))))
 show _/\_
 rw [z2,z3,z4] at g5
 rw [z1,z2] at g3
 rw [z3] at g4
 rw [z1] at g2
 rw [z4]
 exact ⟨⟨_,g5,rfl⟩,h _ g5 g3 g4 ⟨_,g1,rfl,rfl⟩ ⟨_,g2,rfl,rfl⟩ z5 fun c o x=>
  Heap.get?_push_of_some _ (Heap.get?_push_of_some _ (Heap.get?_push_of_some _ (Heap.get?_push_of_some _ (Heap.get?_push_of_some _ x))))⟩
theorem nY {z TI TO:Addr} {f0:Value} {b:Bool} {Q:Value->Shared->Prop} (hz:dF s.heap z TI TO f0 b) (h:Q (.ref z) s):wpAny (model prog w) A (pyIter (.ref z)) Q E s:=by
 have hT:s.TypeIs (.ref z) "zip":=⟨_,hz,rfl⟩
 refine wpAny_pyIter_slot hT F.slot_zip_iter (wpAny_call_entry F.slot_zip_iter hT F.entry_zip_iter ?_ (F.args_zip_iter_1 _))
 show wpAny _ _ (ret (.ref z)) _ _ s
 exact wpAny_pure ⟨_,rfl,"zip",_,hT,F.slot_zip_next.lookup,h⟩
end
theorem vM (z TI TO:Addr) :
 Meets (Builtin.«enumerate.__new__» ⟨[.type "enumerate",.ref z],[]⟩) (fun _ R s=>dF s.heap z TI TO .none false/\
  R (.ok (.ret (.ref s.heap.objs.size))) { s with heap:=s.heap.push { cls:=.type "enumerate",data:=.fields #[.none,.bool false,.ref z,rawInt 0,.none,.none] } }):=
 .of_wp fun prog w A R s h=>by
  obtain ⟨hp,g,d,tk,os⟩:=s
  obtain ⟨hl,h⟩:=h
  have hsub:=sub_enumerate
  have hL:dF (Shared.heap ⟨hp,g,d,tk,os⟩) z TI TO .none false:=hl
  wp_walk using AutoSeq1.wpAny_loadPart' hl
  refine wpAny_stack_any fun st=>wpAny_pure ?_
  split
  ·rename_i c _ _ _ _ _
   cases (c == Value.type "enumerate") <;> (wp_walk using AutoSeq1.wpAny_loadPart' hl,nY hL;exact ⟨_,rfl,h⟩)
  ·wp_walk using AutoSeq1.wpAny_loadPart' hl,nY hL
   exact ⟨_,rfl,h⟩
theorem rD {prog:Program} {w:World} {A:Around} {E:Value->Shared->Prop} {s:Shared} {z TI TO:Addr} {Q:Value->Shared->Prop} (hz:dF s.heap z TI TO .none false)
 (h:∀ g,IsEnum g s.heap.objs.size z 0 .none->(∀ b o,s.heap.get? b=some o->g.get? b=some o)->Q (.ref s.heap.objs.size) { s with heap:=g }):wpAny (model prog w) A (call (.type "enumerate") [.ref z]) Q E s:=by
 refine callType_new F.called_enumerate (by decide) (F.typeCall_enumerate_1 _) (F.newCall_enumerate_1 _) (fun obj=>F.args_object_init_2 obj _) F.entry_enumerate_new (vM z TI TO) ⟨hz,?_⟩
 have he:=Heap.get?_push_size s.heap (o:={ cls:=.type "enumerate",data:=.fields #[.none,.bool false,.ref z,rawInt 0,.none,.none] }) rfl
 exact ⟨⟨_,he,rfl⟩,h _ he fun b o x=>Heap.get?_push_of_some _ x⟩
def J5 (K:PySem.W.Frag) (a1 a2:Addr):It:=
 ⟨fun i H=>∃ xs ys x y,bF K H a1 xs/\bF K H a2 ys/\xs[i]?=some x/\ys[i]?=some y,
  fun i H v H'=>∃ q p x y,H q=none/\upd H q (.tup [x,y]) p=none/\v=.ref p/\(∀ xs,bF K H a1 xs->xs[i]?=some x)/\(∀ ys,bF K H a2 ys->ys[i]?=some y)/\H'=upd (upd H q (.tup [x,y])) p (.tup [.int i,.ref q]),
  fun i H=>∃ xs ys,bF K H a1 xs/\bF K H a2 ys/\(xs.length≤i∨ys.length≤i)⟩
structure zN (e z TI TO i1 i2:Addr):Prop where
 ez:e≠z
 eTI:e≠TI
 eTO:e≠TO
 e1:e≠i1
 e2:e≠i2
 TIz:TI≠z
 TOz:TO≠z
 i1z:i1≠z
 i2z:i2≠z
 TITO:TI≠TO
 TIi1:TI≠i1
 TIi2:TI≠i2
 TOi1:TO≠i1
 TOi2:TO≠i2
 i12:i1≠i2
abbrev EZ (e z TI TO i1 i2 a1 a2:Addr) (i:Nat) (h:Heap):Prop:=(∃ old,IsEnum h e z i old)/\ZS h z TI TO i1 i2 a1 a2 i i
theorem EZ.obj {e z TI TO i1 i2 a1 a2:Addr} {i:Nat} {h:Heap} (st:EZ e z TI TO i1 i2 a1 a2 i h):∀ b∈[e,z,TI,TO,i1,i2],∃ o,h.get? b=some o/\∀ v,o.data≠.cell v:=by
 obtain ⟨⟨old,he⟩,⟨f0,b0,hz,_⟩,hTI,⟨x,y,hTO⟩,⟨o1,e1,_,d1⟩,⟨o2,e2,_,d2⟩⟩:=st
 intro b hb
 simp only [List.mem_cons,List.not_mem_nil,or_false] at hb
 rcases hb with rfl|rfl|rfl|rfl|rfl|rfl
 ·exact ⟨_,he,fun v z=>by cases z⟩
 ·exact ⟨_,hz,fun v z=>by cases z⟩
 ·exact ⟨_,hTI,fun v z=>by cases z⟩
 ·exact ⟨_,hTO,fun v z=>by cases z⟩
 ·exact ⟨_,e1,fun v z=>by rw [d1] at z;cases z⟩
 ·exact ⟨_,e2,fun v z=>by rw [d2] at z;cases z⟩
theorem ZS.keep {z TI TO i1 i2 a1 a2:Addr} {i:Nat} {h h':Heap} (st:ZS h z TI TO i1 i2 a1 a2 i i) (k:∀ b∈[z,TI,TO,i1,i2],∀ o,h.get? b=some o->h'.get? b=some o):ZS h' z TI TO i1 i2 a1 a2 i i:=by
 obtain ⟨⟨f0,b0,hz,hf⟩,hTI,⟨x,y,hTO⟩,h1,h2⟩:=st
 exact ⟨⟨f0,b0,k _ (by simp) _ hz,hf⟩,k _ (by simp) _ hTI,⟨x,y,k _ (by simp) _ hTO⟩,h1.at fun o e=>k _ (by simp) _ e,h2.at fun o e=>k _ (by simp) _ e⟩
theorem ZS.obj {z TI TO i1 i2 a1 a2:Addr} {i j:Nat} {h:Heap} (st:ZS h z TI TO i1 i2 a1 a2 i j):∀ b∈[z,TO,i1,i2],∃ o,h.get? b=some o:=by
 obtain ⟨⟨f0,b0,hz,_⟩,hTI,⟨x,y,hTO⟩,⟨o1,e1,_,d1⟩,⟨o2,e2,_,d2⟩⟩:=st
 intro b hb
 simp only [List.mem_cons,List.not_mem_nil,or_false] at hb
 rcases hb with rfl|rfl|rfl|rfl
 ·exact ⟨_,hz⟩
 ·exact ⟨_,hTO⟩
 ·exact ⟨_,e1⟩
 ·exact ⟨_,e2⟩
theorem yt {X:Cx} {Z:List (Addr×Obj)} {U:St} {H:Hp} {s:Shared} {a b:Addr} {zs:List V} (I:Inv X Z U H s) (hq:bF X.K H a zs) (hb:gh X Z H b):a≠b:=by
 rintro rfl
 rcases hq with h|⟨o,its,n,hk,_⟩
 ·rcases h with h|⟨u,h⟩
  ·rw [hb.1] at h;cases h
  ·rw [hb.1] at h;cases h
 ·have e:=I.ok.mod.kin _ _ hk
  rcases hb.2.2.2.1 with z|z
  ·exact I.ok.noex _ _ e z
  ·exact absurd (Heap.lt_size (I.ok.bs _ _ e).1) (Nat.not_lt.mpr z)
theorem Inv.turnedN {X:Cx} {Z:List (Addr×Obj)} {U:St} {H:Hp} {s:Shared} {h':Heap} {t':Nat} {fp:List Addr} (I:Inv X Z U H s) (k:∀ b u,b∉fp->s.heap.get? b=some u->h'.get? b=some u) (hf:∀ b∈fp,gh X Z H b):Inv X Z U H { s with heap:=h',toks:=t' }:=by
 have off:∀ b u,H b=some u->b∉fp:=fun b u e z=>by rw [(hf b z).1] at e;cases e
 refine I.step (g':=s.gens) (d':=s.drawn) (ch:=fp) (fun b hb=>?_) (fun b u _ _ hc e _=>k b u hc e) (fun b u _ _ hc e _=>⟨u.slots,k b u hc e⟩) (fun _ _ _ _ n=>n) (fun b u hc e=>⟨u,k b u hc e⟩) (fun _ _ e=>e) (fun _ _ _ e=>e) (fun b ps e=>⟨#[],by rw [e];simp⟩) (fun m hm=>?_) (fun b u e=>?_) I.bare
 ·obtain ⟨_,f1,_,f3,f4,f5⟩:=hf b hb
  exact ⟨f3,f1,f4,f5⟩
 ·obtain ⟨u,es,ep,ho,r⟩:=hm
  exact ⟨u,es,ep,k _ u (fun z=>(hf _ z).2.1 rfl) ho,r⟩
 ·refine (I.hok b u e).stay (fun c v hc q=>k c v ?_ q) (fun c q=>q) fun c xs q=>q
  rcases hc with rfl|z
  ·exact off _ u e
  ·exact off c _ z
theorem gh.upd {X:Cx} {Z:List (Addr×Obj)} {H:Hp} {b a:Addr} {o:HO} (h:gh X Z H b) (ne:b≠a):gh X Z (upd H a o) b:=⟨by rw [aF ne];exact h.1,h.2⟩
theorem su {P:Program} {w:World} {K:PySem.W.Frag} {elts:List Expr} {k1} {pos:Pos} (a1 a2 e z TI TO i1 i2:Addr) (D:zN e z TI TO i1 i2) :
 Turn P w K (.Tuple elts k1 pos) (J5 K a1 a2) [e,z,TI,TO,i1,i2] e (EZ e z TI TO i1 i2 a1 a2) where
 mem:=by simp
 obj:=fun i h st b hb=>st.obj b hb
 keep:=fun i h h' st k=>⟨let ⟨old,h1⟩:=st.1;⟨old,k e (by simp) _ h1⟩,st.2.keep fun b hb o z=>k b (List.mem_cons_of_mem _ hb) o z⟩
 item:=by
  intro X hP hw hK hc i Z s U H E I hf st hg
  subst hP hw hK
  obtain ⟨xs,ys,x,y,hq1,hq2,hx,hy⟩:=hg
  obtain ⟨its1,rv1,p1,_⟩:=I.tuple hq1
  obtain ⟨its2,rv2,p2,_⟩:=I.tuple hq2
  obtain ⟨u1,hu1,ru1⟩:=rv1.get hx
  obtain ⟨u2,hu2,ru2⟩:=rv2.get hy
  have t1:s.heap.IsTuple a1 its1.toArray:=p1
  have t2:s.heap.IsTuple a2 its2.toArray:=p2
  obtain ⟨⟨old,he⟩,S⟩:=st
  have free:∀ b∈[e,z,TI,TO,i1,i2],H b=none:=fun b hb=>(hf b hb).1
  have apart:∀ {a:Addr} {zs:List V},bF X.K H a zs->∀ b∈[e,z,TI,TO,i1,i2],a≠b:=fun hq b hb=>yt I hq (hf b hb)
  have ZA:ZipApart z TI TO i1 i2 a1 a2:=⟨D.TIz,D.TOz,D.i1z,D.i2z,D.TITO,D.TIi1,D.TIi2,D.TOi1,D.TOi2,D.i12,apart hq1 _ (by simp),apart hq1 _ (by simp),apart hq1 _ (by simp),apart hq1 _ (by simp),apart hq2 _ (by simp),apart hq2 _ (by simp),apart hq2 _ (by simp),apart hq2 _ (by simp)⟩
  have hT:s.TypeIs (.ref e) "enumerate":=⟨_,he,rfl⟩
  unfold pyNext
  refine wpAny_bind (wpAny_attempt (wpAny_callSpecial?_slot (name:=Str.ofString "__next__") hT F.slot_enumerate_next (wpAny_call_entry F.slot_enumerate_next hT F.entry_enumerate_next (vU he ?_) (F.args_enumerate_next_1 _))))
  refine rG ZA S t1 t2 (by simpa using hu1) (by simpa using hu2) fun h₁ S₁ hp₁ hz₁ hk₁=>?_
  have he₁:IsEnum h₁ e z i old:=hk₁ _ _ D.ez D.eTO D.e1 D.e2 he
  refine ⟨h₁,s.toks,rfl,he₁,fun h' ho ht hk'=>wpAny_pure ⟨_,rfl,?_⟩⟩
  have lt:∀ b∈[e,z,TI,TO,i1,i2],b<s.heap.objs.size:=fun b hb=>by
   obtain ⟨o,z',_⟩:=EZ.obj (⟨⟨old,he⟩,S⟩:EZ e z TI TO i1 i2 a1 a2 i s.heap) b hb
   exact Heap.lt_size z'
  have I1:Inv X Z U (upd H s.heap.objs.size (.tup [x,y])) { s with heap:=h₁,toks:=s.toks }:=by
   refine I.turnLaid (fp:=[z,TO,i1,i2]) (fun b o hb q=>hk₁ b o (fun r=>hb (by simp [r])) (fun r=>hb (by simp [r])) (fun r=>hb (by simp [r])) (fun r=>hb (by simp [r])) q) (fun b hb=>?_) (fun b hb=>hf b ?_) (Nat.le_refl _) ?_
   ·exact S₁.obj b hb
   ·simp at hb ⊢
    rcases hb with h|h|h|h <;> simp [h]
   ·exact ⟨by show 2≤sizeLine;decide,[u1,u2],.cons ru1 (.cons ru2 .nil),⟨_,hp₁,rfl,_,rfl⟩⟩
  have hno1:∀ b∈[e,z,TI,TO,i1,i2],(upd H s.heap.objs.size (.tup [x,y])) b=none:=fun b hb=>by rw [aF (Nat.ne_of_lt (lt b hb))];exact free b hb
  have hpn:(upd H s.heap.objs.size (.tup [x,y])) h₁.objs.size=none:=I1.hok.fresh (Nat.le_refl _)
  have I2:Inv X Z U (upd (upd H s.heap.objs.size (.tup [x,y])) h₁.objs.size (.tup [.int i,.ref s.heap.objs.size])) { s with heap:=h',toks:=s.toks+1 }:=by
   refine Inv.turnLaid (s:={ s with heap:=h₁,toks:=s.toks }) (fp:=[e]) I1 (fun b o hb q=>hk' b o (fun r=>hb (by simp [r])) q) (fun b hb=>?_) (fun b hb=>?_) (Nat.le_refl _) ?_
   ·cases List.mem_singleton.mp hb
    exact ⟨_,ho⟩
   ·cases List.mem_singleton.mp hb
    exact (hf e (by simp)).upd (Nat.ne_of_lt (lt e (by simp)))
   ·exact ⟨by show 2≤sizeLine;decide,[.int i s.toks,.ref s.heap.objs.size],.cons ⟨_,rfl⟩ (.cons rfl .nil),⟨_,ht,rfl,_,rfl⟩⟩
  have hno2:∀ b∈[e,z,TI,TO,i1,i2],(upd (upd H s.heap.objs.size (.tup [x,y])) h₁.objs.size (.tup [.int i,.ref s.heap.objs.size])) b=none:=fun b hb=>by
   rw [aF (Nat.ne_of_lt (Nat.lt_of_lt_of_le (lt b hb) (by rw [hz₁];exact Nat.le_succ _)))]
   exact hno1 b hb
  refine wpAny_letOwnedTupleGo_enum ho fun g2 he2 hs2=>?_
  obtain ⟨f0,f1,f2,f3,f4,f5⟩:=hf e (by simp)
  refine ⟨.ref h₁.objs.size,_,I2.turned (t':=s.toks+1) (fun b o hb q=>(hs2.2 b hb).trans q) (hno2 e (by simp)) f1 f3 f4 f5,rfl,⟨s.heap.objs.size,h₁.objs.size,x,y,I.hok.fresh (Nat.le_refl _),hpn,rfl,fun zs hz=>by rw [I.tuple_inj hz hq1];exact hx,fun zs hz=>by rw [I.tuple_inj hz hq2];exact hy,rfl⟩,⟨⟨_,by simpa using he2⟩,?_⟩,hno2⟩
  refine S₁.keep fun b hb o q=>?_
  have be:b≠e:=by
   simp only [List.mem_cons,List.not_mem_nil,or_false] at hb
   rcases hb with rfl|rfl|rfl|rfl|rfl
   ·exact D.ez.symm
   ·exact D.eTI.symm
   ·exact D.eTO.symm
   ·exact D.e1.symm
   ·exact D.e2.symm
  exact (hs2.2 b be).trans (hk' b o be q)
 done:=by
  intro X hP hw hK hc i Z s U H E I hf st hg
  subst hP hw hK
  obtain ⟨xs,ys,hq1,hq2,hend⟩:=hg
  obtain ⟨its1,rv1,p1,_⟩:=I.tuple hq1
  obtain ⟨its2,rv2,p2,_⟩:=I.tuple hq2
  have t1:s.heap.IsTuple a1 its1.toArray:=p1
  have t2:s.heap.IsTuple a2 its2.toArray:=p2
  obtain ⟨⟨old,he⟩,S⟩:=st
  have l1:=rv1.length
  have l2:=rv2.length
  have apart:∀ {a:Addr} {zs:List V},bF X.K H a zs->∀ b∈[e,z,TI,TO,i1,i2],a≠b:=fun hq b hb=>yt I hq (hf b hb)
  have ZA:ZipApart z TI TO i1 i2 a1 a2:=⟨D.TIz,D.TOz,D.i1z,D.i2z,D.TITO,D.TIi1,D.TIi2,D.TOi1,D.TOi2,D.i12,apart hq1 _ (by simp),apart hq1 _ (by simp),apart hq1 _ (by simp),apart hq1 _ (by simp),apart hq2 _ (by simp),apart hq2 _ (by simp),apart hq2 _ (by simp),apart hq2 _ (by simp)⟩
  have hT:s.TypeIs (.ref e) "enumerate":=⟨_,he,rfl⟩
  unfold pyNext
  refine wpAny_bind (wpAny_attempt (wpAny_callSpecial?_slot (name:=Str.ofString "__next__") hT F.slot_enumerate_next (wpAny_call_entry F.slot_enumerate_next hT F.entry_enumerate_next ?_ (F.args_enumerate_next_1 _))))
  show wpAny _ _ (field (.ref e) 2 >>= _) _ _ _
  refine wpAny_bind (wpAny_field he rfl (x:=.ref z) rfl (wpAny_bind (vO (A:=X.A.in1) (I.ok.hd hc) ZA S t1 t2 (by simp;omega) fun g x' hk hx'=>?_)))
  obtain ⟨o,ho,hcl⟩:=hx'
  refine wpAny_bind (wpAny_isInstance (T:="StopIteration") (b:=true) ⟨o,ho,hcl⟩ isSubtype_stop (wpAny_pure ⟨rfl,?_⟩))
  exact I.turnedN (fp:=[z,TO,i1,i2]) (fun b o hb q=>hk b o (fun r=>hb (by simp [r])) (fun r=>hb (by simp [r])) (fun r=>hb (by simp [r])) (fun r=>hb (by simp [r])) q) (fun b hb=>hf b (by simp at hb ⊢;rcases hb with h|h|h|h <;> simp [h]))
 self:=fun _ _ _ _ _ st h=>let ⟨_,he⟩:=st.1;wpAny_pyIter_enum he h
variable {X:Cx}
def Ef (K:PySem.W.Frag) (ta:TA):TI:=fun U H R=>ta U H fun vs H1=>∃ a1 a2,vs=[.ref a1,.ref a2]/\(∃ xs,bF K H1 a1 xs)/\(∃ ys,bF K H1 a2 ys)/\R (J5 K a1 a2) H1
theorem Cp:bootBuiltins "zip" = some (.type "zip"):=by decide +kernel
theorem wQ {elts:List Expr} {k1} {pt:Pos} {a b:Expr} {ta:TA} {p p2 pos pos2:Pos} (hg:Gl X "enumerate") (hm:X.mg "enumerate" = none) (hg2:Gl X "zip") (hm2:X.mg "zip" = none) (ha:PA X [a,b] ta)
 (hs:starEach [a,b] X.env=(false,eval a X.env)::starEach [b] X.env:=by rfl) (hs1:(backTo pos2 (starEach [b] X.env)).any (·.1)=false:=by rfl)
 (hs2:starEach [.Call (.Name "zip" p2) [a,b] [] pos2] X.env=(false,eval (.Call (.Name "zip" p2) [a,b] [] pos2) X.env)::starEach [] X.env:=by rfl) (hs3:(backTo pos (starEach [] X.env)).any (·.1)=false:=by rfl) :
 PI X (.Tuple elts k1 pt) (.Call (.Name "enumerate" p) [.Call (.Name "zip" p2) [a,b] [] pos2] [] pos) (Ef X.K ta):=by
 intro Z s U H R I h
 refine Call_ (iw I hg hm ji (PyProof.Rows.callWith_type1 ?_ hs2 hs3))
 rw [hs2]
 show wpAny _ _ (spliced ((false,eval (.Call (.Name "zip" p2) [a,b] [] pos2) X.env)::backTo pos (starEach [] X.env))) _ _ s
 refine Calls.spliced_cons ?_
 refine wpAny_Call_Name_kw (iw I hg2 hm2 Cp (PyProof.Rows.callWith_type1 (bU (ha pos2 Z s U H _ I h) fun us s1 ⟨vs,H1,I1,r1,q1⟩=>?_) hs hs1) (by decide) (by decide))
 obtain ⟨a1,a2,rfl,⟨xs,hq1⟩,⟨ys,hq2⟩,q⟩:=q1
 obtain ⟨u1,u2,rfl,e1,e2⟩:=vals2 r1
 cases (show u1=Value.ref a1 from e1)
 cases (show u2=Value.ref a2 from e2)
 obtain ⟨its1,rv1,p1,_⟩:=I1.tuple hq1
 obtain ⟨its2,rv2,p2',_⟩:=I1.tuple hq2
 refine vX (show s1.heap.IsTuple a1 its1.toArray from p1) (show s1.heap.IsTuple a2 its2.toArray from p2') fun h₁ hz hTI hTO h1 h2 hsz hk=>?_
 refine Calls.spliced_nil ?_
 refine rD (s:={ s1 with heap:=h₁ }) hz fun g he hk2=>wpAny_pyIter_enum he ?_
 have hk3:∀ b o,s1.heap.get? b=some o->g.get? b=some o:=fun b o e=>hk2 _ _ (hk _ _ e)
 have eh:({ s1 with heap:=h₁ }:Shared).heap.objs.size=s1.heap.objs.size+5:=hsz
 refine ⟨s1.heap.objs.size+5,[s1.heap.objs.size+5,s1.heap.objs.size+4,s1.heap.objs.size+2,s1.heap.objs.size+3,s1.heap.objs.size,s1.heap.objs.size+1],_,_,H1,?_,I1.kept (t':=s1.toks) hk3,su a1 a2 _ _ _ _ _ _ ?_,⟨⟨.none,?_⟩,⟨⟨_,_,hk2 _ _ hz,.inl rfl⟩,hk2 _ _ hTI,⟨_,_,hk2 _ _ hTO⟩,h1.at fun o e=>hk2 _ _ e,h2.at fun o e=>hk2 _ _ e⟩⟩,fun b hb=>?_,q⟩
 ·rw [hsz]
 ·constructor <;> (intro z;have z':(_:Nat)=_:=z;omega)
 ·rw [← hsz];exact he
 ·have hb':s1.heap.objs.size≤b:=by
   simp only [List.mem_cons,List.not_mem_nil,or_false] at hb
   rcases hb with rfl|rfl|rfl|rfl|rfl|rfl
   ·exact Nat.le_add_right _ 5
   ·exact Nat.le_add_right _ 4
   ·exact Nat.le_add_right _ 2
   ·exact Nat.le_add_right _ 3
   ·exact Nat.le_refl _
   ·exact Nat.le_add_right _ 1
  exact I1.fpOk hb' (I1.hok.fresh hb')
theorem vI {K:PySem.W.Frag} {a1 a2:Addr} {xs ys:List V} {g:TG} {tb:TS} {D:Ends} {U:St} {H:Hp} (Pv:Nat->St->Hp->Prop) (h0:Pv 0 U H) (hl:∀ i U H,i≤min xs.length ys.length->Pv i U H->bF K H a1 xs/\bF K H a2 ys)
 (hs:∀ i x y U H q p,xs[i]?=some x->ys[i]?=some y->Pv i U H->H q=none->upd H q (.tup [x,y]) p=none->g (.ref p) U (upd (upd H q (.tup [x,y])) p (.tup [.int i,.ref q])) fun σ2 H2=>tb { D with nx:=Pv (i+1),ct:=Pv (i+1),bk:=D.nx } σ2 H2)
 (hd:∀ U H,Pv (min xs.length ys.length) U H->D.nx U H) :
 ∃ W:Nat->Nat->St->Hp->Prop,(∃ m,W 0 m U H)/\∀ i m U H,W i m U H->((J5 K a1 a2).stop i H/\D.nx U H)∨((J5 K a1 a2).go i H/\∃ N:St->Hp->Prop,(∀ σ' H',N σ' H'->∃ m',m'<m/\W (i+1) m' σ' H')/\∀ x H',(J5 K a1 a2).yld i H x H'->g x U H' fun σ2 H2=>tb { D with nx:=N,ct:=N,bk:=D.nx } σ2 H2):=by
 refine ⟨fun i m U H=>m=min xs.length ys.length-i/\i≤min xs.length ys.length/\Pv i U H,⟨min xs.length ys.length,by simp,Nat.zero_le _,h0⟩,?_⟩
 rintro i m U H ⟨rfl,hi,p⟩
 obtain ⟨q1,q2⟩:=hl i U H hi p
 by_cases hlt:i<min xs.length ys.length
 ·have l1:i<xs.length:=by omega
  have l2:i<ys.length:=by omega
  refine .inr ⟨⟨xs,ys,xs[i],ys[i],q1,q2,by simp [l1],by simp [l2]⟩,Pv (i+1),fun σ' H' z=>⟨min xs.length ys.length-(i+1),by omega,rfl,hlt,z⟩,?_⟩
  rintro x H' ⟨q,p',y1,y2,hn,hn2,rfl,hy1,hy2,rfl⟩
  exact hs i y1 y2 U H q p' (hy1 xs q1) (hy2 ys q2) p hn hn2
 ·have e:i=min xs.length ys.length:=by omega
  subst e
  exact .inl ⟨⟨xs,ys,q1,q2,by omega⟩,hd U H p⟩
end L2
namespace L2
open PySem PySem.Spec PyProof.Rows PySem.W PyProof.V
def v7 (K:Frag) (a:Addr) (D:List (Str×PyData)):Prop:=KTD.tabLook KTD.flatLooks (fun b=>K.lookup b) a D=true
def Mg:PyData->V
 |.int i=>.int i
 |.str x=>.str x
 |.bool b=>.bl b
 |_=>.non
def j9 (D:List (Str×PyData)) (k:Str):Option V:=(KTD.datumAt k D).map Mg
theorem yS {h:Heap}:∀ {d:PyData} {v:Value},Flat v d->RelV (Mg d) v:=by
 intro d v x
 cases x ⟨#[],h.life⟩
 all_goals first|exact ⟨_,rfl⟩|rfl|exact absurd (Heap.lt_size (by assumption)) (Nat.not_lt_zero _)
def J6 (D:List (Str×PyData)):List (Str×KTD.Dat):=D.map fun p=>(p.1,KTD.Dat.flat p.2)
theorem iG {k:Str}:∀ {D:List (Str×PyData)},KTD.datumAt k (J6 D)=(KTD.datumAt k D).map KTD.Dat.flat
 |[]=>rfl
 | (x,d)::D=>by
   show (if _ then _ else KTD.datumAt k (J6 D))=_
   rw [iG (D:=D)]
   show _=(if _ then _ else KTD.datumAt k D).map _
   split <;> rfl
theorem kW {k:Str} {D:List (Str×PyData)}:KTD.inKeys k (J6 D)=(j9 D k).isSome:=by
 rw [← KTD.isSome_datumAt,iG]
 unfold j9
 cases KTD.datumAt k D <;> rfl
section
variable {X:Cx} {Z:List (Addr×Obj)} {U:St} {H:Hp} {s:Shared} {a:Addr} {D:List (Str×PyData)}
theorem v7.here (T:v7 X.K a D) (I:Inv X Z U H s):KTD.Here s.heap s.heap a (J6 D):=⟨KTD.TabOf.text (KTD.tab_of_look (fun _ _ h=>KTD.flat_of_looks h) (fun b o e=>I.kIn b o e) T),fun _ _ h=>h⟩
def xT (K:Frag) (neg:Bool):R2:=fun x y H Q=>∃ k a D,x=.str k/\y=.ref a/\v7 K a D/\Q (.bl (if neg then !(j9 D k).isSome else (j9 D k).isSome)) H
theorem pU:gR X (compareOp .In) (xT X.K false):=by
 intro Z s U H x y v u Q I rx ry h
 obtain ⟨k,a,D,rfl,rfl,T,q⟩:=h
 obtain ⟨t,rfl⟩:=rx
 cases (show u=Value.ref a from ry)
 refine KTD.in_text (T.here I) ⟨.bl _,H,I.tok _,rfl,?_⟩
 rw [kW]
 exact q
theorem pY:gR X (compareOp .NotIn) (xT X.K true):=by
 intro Z s U H x y v u Q I rx ry h
 obtain ⟨k,a,D,rfl,rfl,T,q⟩:=h
 obtain ⟨t,rfl⟩:=rx
 cases (show u=Value.ref a from ry)
 refine KTD.notin_text (T.here I) ⟨.bl _,H,I.tok _,rfl,?_⟩
 rw [kW]
 exact q
def zj (K:Frag) (td ty:TE):TE:=fun U H Q=>td U H fun x H1=>∃ a D,x=.ref a/\v7 K a D/\ty U H1 fun y H2=>∃ k,y=.str k/\Q ((j9 D k).getD .non) H2
theorem uV {o e:Expr} {apos cpos:Pos} {td ty:TE} (ho:PE X o td) (he:PE X e ty) (m:M1 X o "get" apos e cpos):PE X (.Call (.Attribute o "get" apos) [e] [] cpos) (zj X.K td ty):=by
 intro Z s U H Q I h
 refine wpAny_Call_method m.base m.few m.line PySem.F.plainAttrs_dict PySem.F.slot_dict_get PySem.F.type_dict_get (bU (ho Z s U H _ I h) fun u s1 ⟨x,H1,I1,rx,a,D,ex,T,q1⟩=>?_)
 subst ex
 obtain rfl:u=Value.ref a:=rx
 refine ⟨(T.here I1).typeIs,(T.here I1).noDict,?_⟩
 rw [m.trees]
 refine Calls.callWith_builtin rfl (Calls.evalArgs_plain (Calls.spliced_cons (bU (he Z s1 U H1 _ I1 q1) fun iv s2 ⟨y,H2,I2,ry,k,ey,q2⟩=>Calls.spliced_nil ?_)))
 subst ey
 obtain ⟨t,rfl⟩:=ry
 refine call_meetsIn PySem.F.slot_dict_get (T.here I2).typeIs PySem.F.entry_dict_get (PySem.F.args_dict_get_2 _ _) (KTD.meets_get1 (h₀:=s2.heap) (D:=J6 D)) ⟨T.here I2,fun d v ha hv=>?_,fun hn=>?_⟩
 ·rw [iG] at ha
  unfold j9 at q2
  cases hd:KTD.datumAt k D with
  |none=>rw [hd] at ha;cases ha
  | some d'=>
    rw [hd] at ha q2
    cases ha
    exact ⟨_,H2,I2.tok _,yS (h:=s.heap) hv,q2⟩
 ·rw [iG] at hn
  unfold j9 at q2
  cases hd:KTD.datumAt k D with
  |some d'=>rw [hd] at hn;cases hn
  | none=>
    rw [hd] at q2
    exact ⟨.non,H2,I2.tok _,rfl,q2⟩
end
end L2
namespace L2
open PySem PySem.Spec PyProof.Rows PySem.SeqAt PySem.Builtin PySem.Builtin.Str
section
variable {X:Cx}
end
end L2
namespace L2
open PySem PySem.Spec PyProof.Rows PySem.SeqAt
section
variable {X:Cx}
end
end L2
namespace L2
open PySem PySem.Spec PyProof.Rows PySem.SeqAt PySem.Builtin PySem.Builtin.Str
section
variable {X:Cx}
end
theorem pO {lo:Int} {n:Nat} {g:TG} {tt:TT} {te:TE} {F:List V->Hp->Prop} {σ0:St} {H0:Hp} (Pv:Nat->List V->St->Hp->Prop) (hn:n≤sizeLine) (h0:Pv 0 [] σ0 H0)
 (hs:∀ i ys U H,i<n->Pv i ys U H->∀ N:List V->St->Hp->Prop,(∀ ys' σ' H',Pv (i+1) ys' σ' H'->ys'.length≤ys.length+1->N ys' σ' H')->g (.int (lo+i)) U H fun σ2 H2=>tt σ2 H2 fun b H3=>if b=true then te σ2 H3 fun y H4=>N (ys++[y]) σ2 H4 else N ys σ2 H3)
 (hd:∀ ys U H,ys.length≤n->Pv n ys U H->F ys H) :
 ∃ W:Nat->Nat->List V->St->Hp->Prop,(∃ m,W 0 m [] σ0 H0)/\jZ (Am lo n) g tt te F W:=by
 refine ⟨fun i m ys U H=>m=n-i/\i≤n/\ys.length≤i/\Pv i ys U H,⟨n,by simp,Nat.zero_le _,Nat.zero_le _,h0⟩,?_⟩
 rintro i m ys U H ⟨rfl,hi,hl,p⟩
 by_cases hlt:i<n
 ·refine .inr ⟨hlt,by omega,fun x H' y=>?_⟩
  obtain ⟨e,y⟩:=y
  subst e y
  exact hs i ys U _ hlt p (fun ys' σ' H'=>∃ m',m'<n-i/\m'=n-(i+1)/\i+1≤n/\ys'.length≤i+1/\Pv (i+1) ys' σ' H') fun ys' σ' H' q hl'=>⟨n-(i+1),by omega,rfl,hlt,by omega,q⟩
 ·have e:i=n:=by omega
  subst e
  exact .inl ⟨Nat.le_refl _,hd ys U H hl p⟩
end L2
namespace L2
open PySem PySem.Spec PyProof.Rows PySem.SeqAt
section
variable {X:Cx}
end
section
variable {X:Cx} {Z:List (Addr×Obj)} {U:St} {H:Hp} {s:Shared} {h':Heap}
end
end L2
namespace L2
open PySem PySem.Spec PyProof.Rows PySem.SeqAt PySem.Builtin PySem.Builtin.Str
section
variable {X:Cx}
end
section
variable {prog:Program} {w:World} {A:Around} {E:Value->Shared->Prop} {s:Shared} {l:Addr}
end
section
variable {X:Cx} {pos:Pos}
end
end L2
namespace L2
open PySem PySem.Spec PyProof.Rows PySem.SeqAt PySem.Builtin
variable {X:Cx} {pos:Pos}
end L2
namespace L2
open PySem PySem.Spec PyProof.Rows PySem.SeqAt PySem.W Builtin.ObjectAttr
end L2
namespace L2
open PySem PySem.Spec PyProof.Rows PySem.SeqAt PySem.W
variable {X:Cx}
end L2
namespace L2
open PySem PySem.Spec PyProof.Rows
def xm (J:It) (g:TG) (tt:TT) (te:TE) (F:List V->St->Hp->Prop) (W:Nat->Nat->List V->St->Hp->Prop):Prop:=
 ∀ i m ys U H,W i m ys U H->(J.stop i H/\F ys U H)∨(J.go i H/\ys.length<sizeLine/\∀ x H1,J.yld i H x H1->g x U H1 fun σ2 H2=>tt σ2 H2 fun b H3=>
   if b=true then te σ2 H3 fun y H4=>∃ m',m'<m/\W (i+1) m' (ys++[y]) σ2 H4 else ∃ m',m'<m/\W (i+1) m' ys σ2 H3)
def pH (J:It) (g:TG) (tt:TT) (wi2:TI) (g2:TG) (tt2:TT) (te:TE) (F:List V->Hp->Prop) (W:Nat->Nat->List V->St->Hp->Prop):Prop:=
 ∀ i m ys U H,W i m ys U H->(J.stop i H/\F ys H)∨(J.go i H/\∀ x H1,J.yld i H x H1->g x U H1 fun σ2 H2=>tt σ2 H2 fun b H3=>
   if b=true then wi2 σ2 H3 fun J2 H4=>∃ W2:Nat->Nat->List V->St->Hp->Prop,(∃ m2,W2 0 m2 ys σ2 H4)/\xm J2 g2 tt2 te (fun ys' σ' H'=>∃ m',m'<m/\W (i+1) m' ys' σ' H') W2
   else ∃ m',m'<m/\W (i+1) m' ys σ2 H3)
theorem pX (elt:Expr) (g0:Comprehension) (target iter:Expr) (ifs:List Expr) (scope:Scope) (pos:Pos) (it acc:Value) (env:Env) :
 compTurn (.ListComp elt [g0,⟨target,iter,ifs,0⟩] scope pos) 1 it acc env=(do
  standAt iter.pos
  match ← pyNext it with
  |none=>pure (.done .next)
  | some v=>
    letOwnedTupleGo target it v
    assign target env v
    let mut ok:=true
    for c in ifs do
     if ok then ok ← isTrue c env (eval c env)
    if ok then
     (do let _ ← call (.builtin "list.append") [acc,← eval elt env])
    again (.compLoop (.ListComp elt [g0,⟨target,iter,ifs,0⟩] scope pos) 1 it acc env)):=by rfl
theorem oW (elt target iter:Expr) (ifs:List Expr) (target2 iter2:Expr) (ifs2:List Expr) (scope:Scope) (pos:Pos) (it acc:Value) (env:Env) :
 compTurn (.ListComp elt [⟨target,iter,ifs,0⟩,⟨target2,iter2,ifs2,0⟩] scope pos) 0 it acc env=(do
  standAt iter.pos
  match ← pyNext it with
  |none=>pure (.done .next)
  | some v=>
    letOwnedTupleGo target it v
    assign target env v
    let mut ok:=true
    for c in ifs do
     if ok then ok ← isTrue c env (eval c env)
    if ok then
     let x ← eval iter2 env
     standAt iter2.pos
     let x ← foldedSetIterable iter2 env x
     let _ ← runOwn (.compStart (.ListComp elt [⟨target,iter,ifs,0⟩,⟨target2,iter2,ifs2,0⟩] scope pos) 1 (← holding [x] (pyIter x)) acc env) env
    again (.compLoop (.ListComp elt [⟨target,iter,ifs,0⟩,⟨target2,iter2,ifs2,0⟩] scope pos) 0 it acc env)):=by rfl
theorem ik {prog:Program} {w:World} {A:Around} {R:Result->Shared->Prop} {s:Shared} {elt g0 target iter ifs scope pos it acc env}
 (h0:codeAny (model prog w) A (.compLoop (.ListComp elt [g0,⟨target,iter,ifs,0⟩] scope pos) 1 it acc env) R s)
 (h:wpAny (model prog w) A (pyIter it) (fun it' s'=>codeAny (model prog w) A (.compLoop (.ListComp elt [g0,⟨target,iter,ifs,0⟩] scope pos) 1 it' acc env) R s')
  (notedBy (model prog w) A env fun x s'=>R (.error x) s') s) :
 codeAny (model prog w) A (.compStart (.ListComp elt [g0,⟨target,iter,ifs,0⟩] scope pos) 1 it acc env) R s:=by
 refine codeAny_of_tree ?_
 show wpAny _ _ ((compStart (.ListComp elt [g0,⟨target,iter,ifs,0⟩] scope pos) 1 it acc env).onRaise (fun x=>do noteFrame x env;standAt theWindowsPlace)) _ _ s
 refine wpAny_notedAt ?_
 unfold compStart
 show wpAny _ _ (ask >>= _) _ _ s
 refine wpAny_bind (wpAny_askSetting (wpAny_ite ?_))
 split
 ·first
   |exact wpAny_bind (wpAny_pure (wpAny_pure (And.intro rfl h0)))
   |exact wpAny_pure (And.intro rfl h0)
 ·first
   |exact wpAny_bind (wpAny_rule (wpAny_bind (wpAny_standAt (wpAny_bind (wpAny_mono h (fun it' s' h'=>wpAny_pure (And.intro rfl h')) fun _ _ x=>x)))))
   |(refine wpAny_bind (wpAny_rule ?_);show wpAny _ _ (standAt iter.pos >>= _) _ _ s;exact wpAny_bind (wpAny_standAt (wpAny_bind (wpAny_mono h (fun it' s' h'=>wpAny_pure (And.intro rfl h')) fun _ _ x=>x))))
theorem sI {Y:Cx} {ps:List (Addr×Obj)} {acc it:Addr} {fp:List Addr} {tn:Nat->Heap->Prop} {J:It} {g:TG} {tt:TT} {te:TE} {F:List V->St->Hp->Prop}
 {elt tg iter:Expr} {g0:Comprehension} {ifs:List Expr} {scope:Scope} {pos:Pos} {R:Result->Shared->Prop} (W:Nat->Nat->List V->St->Hp->Prop) (turn:xm J g tt te F W) (T:Turn Y.prog Y.w Y.K tg J fp it tn)
 (hg:PG Y tg g) (hc:iR Y ifs tt) (he:PE Y elt te) (hcalm:Y.calm=true) (hx:∀ v s,¬ Y.xe v s)
 (hfp:∀ b∈fp,b≠Y.env.locals/\b∉Y.fs/\(b∈Y.ex∨Y.s₀.heap.objs.size≤b)/\(∀ x c,Y.env.cells.lookup x=some c->c≠b)/\(∀ p∈Y.pn++ps,p.1≠b)/\b≠acc)
 (hacc:acc≠Y.env.locals/\acc∉Y.fs/\(acc∈Y.ex∨Y.s₀.heap.objs.size≤acc)/\(∀ x c,Y.env.cells.lookup x=some c->c≠acc)/\∀ p∈Y.pn++ps,p.1≠acc)
 (hR:∀ s' σ' H' ys us k,Inv Y ((acc,bB us k)::ps) σ' H' s'->Vals ys us->F ys σ' H'->R (.ok .next) s')
 {s:Shared} {U:St} {H:Hp} {m:Nat} {ys0:List V} {us0:List Value} {k0:Nat} (rv0:Vals ys0 us0) (I:Inv Y ((acc,bB us0 k0)::ps) U H s) (st:tn 0 s.heap) (fr:∀ b∈fp,H b=none) (w0:W 0 m ys0 U H) :
 codeAny (model Y.prog Y.w) Y.A (.compLoop (.ListComp elt [g0,⟨tg,iter,ifs,0⟩] scope pos) 1 (.ref it) (.ref acc) Y.env) R s:=by
 refine codeAny_loop rfl (fun n s'=>∃ i ys us k σ' H',Vals ys us/\Inv Y ((acc,bB us k)::ps) σ' H' s'/\tn i s'.heap/\(∀ b∈fp,H' b=none)/\W i n ys σ' H') (fun n s3 hI=>?_) m ⟨0,ys0,us0,k0,U,H,rv0,I,st,fr,w0⟩
 obtain ⟨i,ys,us,k,σ3,H3,rv,I3,st3,fr3,w3⟩:=hI
 show wpAny _ Y.A ((compTurn (.ListComp elt [g0,⟨tg,iter,ifs,0⟩] scope pos) 1 (.ref it) (.ref acc) Y.env).onRaise (fun x=>do noteFrame x Y.env;theTreesLotGoes x)) _ _ s3
 refine wpAny_noted ?_
 rw [pX]
 have fpk:∀ {H':Hp},(∀ b∈fp,H' b=none)->∀ b∈fp,gh Y ((acc,bB us k)::ps) H' b:=fun hn b hb=>
  ⟨hn b hb,(hfp b hb).1,(hfp b hb).2.1,(hfp b hb).2.2.1,(hfp b hb).2.2.2.1,fun p hp'=>by
   rcases List.mem_append.mp hp' with z|z
   ·exact (hfp b hb).2.2.2.2.1 p (List.mem_append_left _ z)
   ·rcases List.mem_cons.mp z with rfl|z
    ·exact Ne.symm (hfp b hb).2.2.2.2.2
    ·exact (hfp b hb).2.2.2.2.1 p (List.mem_append_right _ z)⟩
 have fp1:=fpk fr3
 refine wpAny_bind (wpAny_standAt (wpAny_bind ?_))
 rcases turn i n ys σ3 H3 w3 with ⟨stop,qn⟩|⟨go,hz,step⟩
 ·refine wpAny_mono (T.done Y rfl rfl rfl hcalm i _ s3 σ3 H3 (fun _ _=>False) I3 fp1 st3 stop) (fun r s4 ⟨hr,I4⟩=>?_) (fun _ _ z=>z.elim)
  subst hr
  exact wpAny_pure (hR s4 σ3 H3 ys us k I4 rv qn)
 ·refine wpAny_mono (T.item Y rfl rfl rfl hcalm i _ s3 σ3 H3 (fun _ _=>False) I3 fp1 st3 go) (fun r s4 ⟨u,hr,h4⟩=>?_) (fun _ _ z=>z.elim)
  subst hr
  refine wpAny_bind (wpAny_mono h4 (fun _ s5 ⟨x,H5,I5,r5,y5,st5,fr5⟩=>?_) (fun _ _ z=>z.elim))
  have fp5:=fpk fr5
  have I5':=I5.pinned fp5 (T.obj _ _ st5)
  refine wpAny_bind (wpAny_mono (hg _ s5 σ3 H5 x u _ I5' r5 (step x H5 y5)) (fun _ s6 ⟨σ6,H6,I6,q6⟩=>?_) (fun v s z=>(hx v s z).elim))
  refine wpAny_bind (wpAny_mono (hc _ s6 σ6 H6 _ I6 q6) (fun ok s7 ⟨H7,I7,q7⟩=>?_) (fun v s z=>(hx v s z).elim))
  have again:∀ {s8:Shared} {σ8:St} {H8:Hp},Inv Y (((acc,bB us k)::ps)++gf fp s5.heap) σ8 H8 s8->tn (i+1) s8.heap/\∀ b∈fp,H8 b=none:=fun {s8 σ8 H8} I8=>
   ⟨T.keep _ _ _ st5 fun b hb o e=>(I8.pin (b,o) (List.mem_append_right _ (List.mem_append_right _ (cA hb e)))).1,fun b hb=>by
    obtain ⟨o,e,d⟩:=T.obj _ _ st5 b hb
    exact (I8.pin (b,o) (List.mem_append_right _ (List.mem_append_right _ (cA hb e)))).2.1⟩
  cases ok with
  | false=>
    rw [if_neg Bool.false_ne_true] at q7
    obtain ⟨m',hm,w7⟩:=q7
    obtain ⟨t1,t2⟩:=again I7
    exact wpAny_pure ⟨rfl,m',hm,i+1,ys,us,k,σ6,H7,rv,I7.unpinned,t1,t2,w7⟩
  | true=>
    rw [if_pos rfl] at q7
    refine wpAny_bind (wpAny_bind (wpAny_mono (he _ s7 σ6 H7 _ I7 q7) (fun y s8 ⟨yv,H8,I8,r8,m',hm,w8⟩=>?_) (fun v s z=>(hx v s z).elim)))
    obtain ⟨t1,t2⟩:=again I8
    obtain ⟨e8,n8,l8,f8,d8⟩:=I8.pin (acc,bB us k) (List.mem_append_right _ (List.mem_append_left _ List.mem_cons_self))
    have hlen:=rv.length
    have hz':us.toArray.size≤sizeLine:=by rw [List.size_toArray];omega
    refine wpAny_bind (call_meets PySem.F.slot_list_append ⟨_,e8,rfl⟩ PySem.F.entry_list_append (PySem.F.args_list_append_2 _ _) (PySem.list_append acc us.toArray k y hz') ⟨e8,?_⟩)
    have q:=PySem.IsL.update e8 (fun z=>z.push y)
    have I9:Inv Y ps σ6 H8 s8:=I8.pins_of fun p hp=>I8.pin p (List.mem_append_right _ (List.mem_append_left _ (List.mem_cons_of_mem _ hp)))
    have I10:=I9.turned (t':=s8.toks) (it:=acc) (h':=s8.heap.update acc (Obj.mapSeq fun z=>z.push y)) (fun b o hb e=>(Heap.get?_update_other s8.heap _ (Ne.symm hb)).trans e) n8 hacc.1 hacc.2.2.1 hacc.2.2.2.1 hacc.2.2.2.2
    have e':(us.toArray.push y)=(us++[y]).toArray:=by simp
    rw [e'] at q
    obtain ⟨k9,ek⟩:∃ k9,k9=(if ((us++[y]).toArray.size == us.toArray.size)=true then k else k+1):=⟨_,rfl⟩
    rw [← ek] at q
    have I11:=I10.pins_of (pins':=(acc,bB (us++[y]) k9)::ps) fun p hp=>by
     rcases List.mem_cons.mp hp with rfl|hp
     ·exact ⟨q,n8,hacc.1,hacc.2.1,fun v z=>by cases z⟩
     ·exact I10.pin p (List.mem_append_right _ hp)
    refine wpAny_pure (wpAny_pure ⟨rfl,m',hm,i+1,ys++[yv],us++[y],k9,σ6,H8,rv.append (.cons r8 .nil),I11,T.keep _ _ _ t1 fun b hb o e=>?_,t2,w8⟩)
    exact (Heap.get?_update_other s8.heap _ (hfp b hb).2.2.2.2.2.symm).trans e
theorem qP {X:Cx} {scope:Scope} {N':List Str} {cl:List (Str×Addr)} {C acc it:Addr} {s₂:Shared} {H₂:Hp} {fp:List Addr} {tn:Nat->Heap->Prop} {J:It} {g g2:TG} {tt tt2:TT} {wi2:TI} {te:TE} {F:List V->Hp->Prop}
 {elt tg iter tg2 iter2:Expr} {ifs ifs2:List Expr} {pos:Pos} {R:Result->Shared->Prop} (W:Nat->Nat->List V->St->Hp->Prop) (turn:pH J g tt wi2 g2 tt2 te F W) (T:Turn X.prog X.w X.K tg J fp it tn)
 (hg:PG (aJ X scope N' cl C s₂ H₂ fp) tg g) (hc:iR (aJ X scope N' cl C s₂ H₂ fp) ifs tt) (hi2:PI (aJ X scope N' cl C s₂ H₂ fp) tg2 iter2 wi2) (hs2:∀ x,foldedSetIterable iter2 (compEnvC scope cl C X.env) x=pure x) (hg2:PG (aJ X scope N' cl C s₂ H₂ fp) tg2 g2) (hc2:iR (aJ X scope N' cl C s₂ H₂ fp) ifs2 tt2) (he:PE (aJ X scope N' cl C s₂ H₂ fp) elt te) (hcalm:X.calm=true)
 (hfp:∀ b∈fp,b≠C/\b∉frs X.stack/\(∀ x c,cl.lookup x=some c->c≠b)/\b≠acc) (hacc:acc≠C/\acc∉frs X.stack/\(∀ x c,cl.lookup x=some c->c≠acc)/\s₂.heap.objs.size≤acc)
 (hR:∀ s' σ' H' ys us k,Inv (aJ X scope N' cl C s₂ H₂ fp) [(acc,bB us k)] σ' H' s'->Vals ys us->F ys H'->R (.ok .next) s')
 {s:Shared} {U:St} {H:Hp} {m:Nat} (I:Inv (aJ X scope N' cl C s₂ H₂ fp) [(acc,bB [] 0)] U H s) (st:tn 0 s.heap) (fr:∀ b∈fp,H b=none) (w0:W 0 m [] U H) :
 codeAny (model X.prog X.w) X.A (.compLoop (.ListComp elt [⟨tg,iter,ifs,0⟩,⟨tg2,iter2,ifs2,0⟩] scope pos) 0 (.ref it) (.ref acc) (compEnvC scope cl C X.env)) R s:=by
 refine codeAny_loop rfl (fun n s'=>∃ i ys us k σ' H',Vals ys us/\Inv (aJ X scope N' cl C s₂ H₂ fp) [(acc,bB us k)] σ' H' s'/\tn i s'.heap/\(∀ b∈fp,H' b=none)/\W i n ys σ' H') (fun n s3 hI=>?_) m ⟨0,[],[],0,U,H,.nil,I,st,fr,w0⟩
 obtain ⟨i,ys,us,k,σ3,H3,rv,I3,st3,fr3,w3⟩:=hI
 show wpAny _ X.A ((compTurn (.ListComp elt [⟨tg,iter,ifs,0⟩,⟨tg2,iter2,ifs2,0⟩] scope pos) 0 (.ref it) (.ref acc) (compEnvC scope cl C X.env)).onRaise (fun x=>do noteFrame x (compEnvC scope cl C X.env);theTreesLotGoes x)) _ _ s3
 refine wpAny_noted ?_
 rw [oW]
 have fpk:∀ {Z:List (Addr×Obj)} {H':Hp},(∀ p∈Z,p.1=acc∨p.1∈([]:List Addr))->(∀ b∈fp,H' b=none)->∀ b∈fp,gh (aJ X scope N' cl C s₂ H₂ fp) Z H' b:=fun hp hn b hb=>
  ⟨hn b hb,(hfp b hb).1,(hfp b hb).2.1,.inl hb,(hfp b hb).2.2.1,fun p hp'=>by
   have hp'':p∈([]:List (Addr×Obj))++_:=hp'
   rcases hp p (by simpa using hp'') with z|z
   ·rw [z];exact Ne.symm (hfp b hb).2.2.2
   ·exact (nomatch z)⟩
 have fp1:=fpk (Z:=[(acc,bB us k)]) (fun p hp=>.inl (by simp at hp;rw [hp])) fr3
 refine wpAny_bind (wpAny_standAt (wpAny_bind ?_))
 rcases turn i n ys σ3 H3 w3 with ⟨stop,qn⟩|⟨go,step⟩
 ·refine wpAny_mono (T.done (aJ X scope N' cl C s₂ H₂ fp) rfl rfl rfl hcalm i _ s3 σ3 H3 (fun _ _=>False) I3 fp1 st3 stop) (fun r s4 ⟨hr,I4⟩=>?_) (fun _ _ z=>z.elim)
  subst hr
  exact wpAny_pure (hR s4 σ3 H3 ys us k I4 rv qn)
 ·refine wpAny_mono (T.item (aJ X scope N' cl C s₂ H₂ fp) rfl rfl rfl hcalm i _ s3 σ3 H3 (fun _ _=>False) I3 fp1 st3 go) (fun r s4 ⟨u,hr,h4⟩=>?_) (fun _ _ z=>z.elim)
  subst hr
  refine wpAny_bind (wpAny_mono h4 (fun _ s5 ⟨x,H5,I5,r5,y5,st5,fr5⟩=>?_) (fun _ _ z=>z.elim))
  have fp5:=fpk (Z:=[(acc,bB us k)]) (fun p hp=>.inl (by simp at hp;rw [hp])) fr5
  have I5':=I5.pinned fp5 (T.obj _ _ st5)
  refine wpAny_bind (wpAny_mono (hg _ s5 σ3 H5 x u _ I5' r5 (step x H5 y5)) (fun _ s6 ⟨σ6,H6,I6,q6⟩=>?_) (fun _ _ z=>z.elim))
  refine wpAny_bind (wpAny_mono (hc _ s6 σ6 H6 _ I6 q6) (fun ok s7 ⟨H7,I7,q7⟩=>?_) (fun _ _ z=>z.elim))
  have again:∀ {s8:Shared} {σ8:St} {H8:Hp} {us8:List Value} {k8:Nat},Inv (aJ X scope N' cl C s₂ H₂ fp) ((acc,bB us8 k8)::gf fp s5.heap) σ8 H8 s8->Inv (aJ X scope N' cl C s₂ H₂ fp) [(acc,bB us8 k8)] σ8 H8 s8/\tn (i+1) s8.heap/\∀ b∈fp,H8 b=none:=fun {s8 σ8 H8 us8 k8} I8=>
   ⟨Inv.unpinned (Z:=[(acc,bB us8 k8)]) I8,T.keep _ _ _ st5 fun b hb o e=>(I8.pin (b,o) (List.mem_append_right _ (List.mem_cons_of_mem _ (cA hb e)))).1,fun b hb=>by
    obtain ⟨o,e,d⟩:=T.obj _ _ st5 b hb
    exact (I8.pin (b,o) (List.mem_append_right _ (List.mem_cons_of_mem _ (cA hb e)))).2.1⟩
  cases ok with
  | false=>
    rw [if_neg Bool.false_ne_true] at q7
    obtain ⟨m',hm,w7⟩:=q7
    obtain ⟨I7',t1,t2⟩:=again I7
    exact wpAny_pure ⟨rfl,m',hm,i+1,ys,us,k,σ6,H7,rv,I7',t1,t2,w7⟩
  | true=>
    rw [if_pos rfl] at q7
    refine wpAny_bind (wpAny_mono (hi2 _ s7 σ6 H7 _ I7 q7) (fun v s8 h8=>?_) (fun _ _ z=>z.elim))
    refine wpAny_bind (wpAny_standAt ?_)
    rw [hs2 v]
    refine wpAny_bind (wpAny_pure ?_)
    refine wpAny_bind (wpAny_holding (wpAny_mono h8 (fun itv s9 h9=>?_) (fun _ _ z=>z.elim)))
    obtain ⟨it2,fp2,tn2,J2,H9,e9,I9,T2,st9,f9,W2,⟨m2,w2⟩,turn2⟩:=h9
    subst e9
    have loop:∀ Q:Flow->Shared->Prop,(∀ s10,(∃ m',m'<n/\∃ i ys us k σ' H',Vals ys us/\Inv (aJ X scope N' cl C s₂ H₂ fp) [(acc,bB us k)] σ' H' s10/\tn i s10.heap/\(∀ b∈fp,H' b=none)/\W i m' ys σ' H')->Q .next s10)->
     codeAny (model X.prog X.w) X.A (.compLoop (.ListComp elt [⟨tg,iter,ifs,0⟩,⟨tg2,iter2,ifs2,0⟩] scope pos) 1 (.ref it2) (.ref acc) (compEnvC scope cl C X.env)) (fun r s'=>match r with|.ok f=>Q f s'|.error e=>cameBackBy (model X.prog X.w) X.A (compEnvC scope cl C X.env) (notedBy (model X.prog X.w) X.A (compEnvC scope cl C X.env) fun x s'=>R (.error x) s') e s') s9:=by
     intro Q hQ
     refine sI (Y:=aJ X scope N' cl C s₂ H₂ fp) (ps:=gf fp s5.heap) W2 turn2 T2 hg2 hc2 he hcalm (fun _ _ z=>z) (fun b hb=>?_) ⟨hacc.1,hacc.2.1,.inr hacc.2.2.2,hacc.2.2.1,fun p hp z=>?_⟩ (fun s' σ' H' ys' us' k' I' rv' q'=>?_) rv I9 st9 (fun b hb=>(f9 b hb).1) w2
     ·obtain ⟨_,a1,a2,a3,a4,a5⟩:=f9 b hb
      refine ⟨a1,a2,a3,a4,fun p hp=>?_,fun z=>?_⟩
      ·rcases List.mem_append.mp hp with y|y
       ·exact a5 p (List.mem_append_left _ y)
       ·exact a5 p (List.mem_append_right _ (List.mem_cons_of_mem _ y))
      ·exact a5 (acc,bB us k) (List.mem_append_right _ List.mem_cons_self) z.symm
     ·have hp':p∈([]:List (Addr×Obj))++gf fp s5.heap:=hp
      rw [List.nil_append] at hp'
      obtain ⟨hb,_⟩:=oh hp'
      exact (hfp _ hb).2.2.2 z
     ·obtain ⟨m',hm,w'⟩:=q'
      obtain ⟨I8',t1,t2⟩:=again I'
      exact hQ s' ⟨m',hm,i+1,ys',us',k',σ',H',rv',I8',t1,t2,w'⟩
    refine wpAny_bind (wpAny_runOwn (ik (loop _ fun s10 q=>?_) (T2.self _ 0 _ _ _ st9 (loop _ fun s10 q=>?_))))
    ·obtain ⟨m',hm,q⟩:=q
     exact wpAny_pure ⟨rfl,m',hm,q⟩
    ·obtain ⟨m',hm,q⟩:=q
     exact wpAny_pure ⟨rfl,m',hm,q⟩
def Bh (wi:TI) (g:TG) (tt:TT) (wi2:TI) (g2:TG) (tt2:TT) (te:TE) (k:Nat) (js:List Nat):TE:=fun U H Q=>wi U H fun J H1=>∃ W:Nat->Nat->List V->St->Hp->Prop,(∃ m,W 0 m [] (dg k js U) H1)/\
 pH J g tt wi2 g2 tt2 te (fun ys H2=>ys.length≤sizeLine/\∀ p,H2 p=none->Q (.ref p) (upd H2 p (.lst ys))) W
section
variable {X:Cx} {scope:Scope} {own:List Str} {js:List Nat} {N':List Str} {wi wi2:TI} {g g2:TG} {tt tt2:TT} {te:TE} {elt tg iter tg2 iter2:Expr} {ifs ifs2:List Expr} {pos:Pos}
theorem vK {Z:List (Addr×Obj)} {U:St} {H:Hp} {s:Shared} {it:Addr} {fp:List Addr} {tn:Nat->Heap->Prop} {J:It} {cl:List (Str×Addr)} {F:List V->Hp->Prop} {E:Value->Shared->Prop} {RR:Value->Addr->Result->Shared->Prop}
 (S:bu X scope own js N') (hcalm:X.calm=true) (hg:∀ cl C s₀ H₀ ex,PG (aJ X scope N' cl C s₀ H₀ ex) tg g) (hc:∀ cl C s₀ H₀ ex,iR (aJ X scope N' cl C s₀ H₀ ex) ifs tt) (hi2:∀ cl C s₀ H₀ ex,PI (aJ X scope N' cl C s₀ H₀ ex) tg2 iter2 wi2) (hs2:∀ env x,foldedSetIterable iter2 env x=pure x) (hg2:∀ cl C s₀ H₀ ex,PG (aJ X scope N' cl C s₀ H₀ ex) tg2 g2) (hc2':∀ cl C s₀ H₀ ex,iR (aJ X scope N' cl C s₀ H₀ ex) ifs2 tt2) (he:∀ cl C s₀ H₀ ex,PE (aJ X scope N' cl C s₀ H₀ ex) elt te)
 (hc1:∀ x c,cl.lookup x=some c->X.env.cells.lookup x=some c) (hc2:∀ x,(x,NameKind.free)∈scope.names->∃ c,cl.lookup x=some c)
 (I:Inv X Z U H s) (T:Turn X.prog X.w X.K tg J fp it tn) (st:tn 0 s.heap) (hf:∀ b∈fp,gh X Z H b) (W:Nat->Nat->List V->St->Hp->Prop) {m0:Nat} (w0:W 0 m0 [] (dg own.length js U) H) (turn:pH J g tt wi2 g2 tt2 te F W)
 (hF:∀ ys H',F ys H'->ys.length≤sizeLine)
 (fin:∀ acc C H' ys s' m,Inv X Z U (upd H' acc (.lst ys)) s'->H' acc=none->s'.heap.Ns C m->(upd H' acc (.lst ys)) C=none->C≠X.env.locals->X.s₀.heap.objs.size≤C->(∀ x c,X.env.cells.lookup x=some c->c≠C)->(∀ p∈X.pn++Z,p.1≠C)->F ys H'->RR (.ref acc) C (.ok .next) s') :
 wpAny (model X.prog X.w) X.A (newList []) (fun acc s₃=>wpAny (model X.prog X.w) X.A (newFunctionEnv scope X.env.globals cl [] X.env.qual none .none (some X.env)) (fun cenv s₄=>
  codeAny (model X.prog X.w) X.A (.compStart (.ListComp elt [⟨tg,iter,ifs,0⟩,⟨tg2,iter2,ifs2,0⟩] scope pos) 0 (.ref it) acc { cenv with scope:=relabel scope X.env }) (RR acc cenv.locals) s₄) E s₃) E s:=by
 refine wpAny_newObj_type (wpAny_newFunctionEnv S.nocell (by intro y hy;simp at hy) (fun h₁ hns₁ hsb₁=>?_) S.kind)
 dsimp only at hns₁ hsb₁ ⊢
 generalize hH2:s.heap.push { cls:=.type "list",dict:=none,data:=.seq ([]:List Value).toArray }=H2 at hns₁ hsb₁ ⊢
 have hC:H2.objs.size=s.heap.objs.size+1:=by rw [← hH2,Heap.size_push]
 have hDC:s.heap.objs.size≠H2.objs.size:=by rw [hC];exact Nat.ne_of_lt (Nat.lt_succ_self _)
 have hCle:s.heap.objs.size≤H2.objs.size:=by rw [hC];exact Nat.le_succ _
 have below:∀ b,b<s.heap.objs.size->b≠H2.objs.size/\b≠s.heap.objs.size:=fun b hb=>⟨by rw [hC];exact Nat.ne_of_lt (Nat.lt_succ_of_lt hb),Nat.ne_of_lt hb⟩
 have old:∀ b o,s.heap.get? b=some o->h₁.get? b=some o:=fun b o e=>hsb₁.extBut b o (below b (Heap.lt_size e)).1 (Heap.get?_push_of_some _ (hH2 ▸ Heap.get?_push_of_some _ e))
 have hacc:h₁.get? s.heap.objs.size=some (bB [] 0):=hsb₁.extBut _ _ hDC (Heap.get?_push_of_some _ (hH2 ▸ Heap.get?_push_size _ rfl))
 generalize hCn:H2.objs.size=C at *
 generalize hAn:s.heap.objs.size=acc at *
 have cellLt:∀ x c,X.env.cells.lookup x=some c->c<acc:=fun x c e=>by
  obtain ⟨v,q⟩:=I.cell x c e
  rw [← hAn];exact q.lt
 have pinLt:∀ p∈X.pn++Z,p.1<acc:=fun p hp=>by rw [← hAn];exact Heap.lt_size (I.pin p hp).1
 have stkLt:∀ b∈frs X.stack,b<acc:=fun b hb=>by
  obtain ⟨_,o,ho,_⟩:=I.stack.mem hb
  rw [← hAn];exact Heap.lt_size ho
 have fpLt:∀ b∈fp,b<acc:=fun b hb=>by
  obtain ⟨o,e,_⟩:=T.obj _ _ st b hb
  rw [← hAn];exact Heap.lt_size e
 have hHC:H C=none:=I.hok.fresh (by rw [hAn];exact hCle)
 have hHA:H acc=none:=I.hok.fresh (by rw [hAn];exact Nat.le_refl _)
 have I1:Inv (aJ X scope N' cl C s H fp) [] (dg own.length js U) H { s with heap:=h₁,toks:=s.toks+([]:List (Str×Value)).length }:=
  Inv.comp S I hc1 hc2 (by rw [hAn];exact hCle) hns₁ old (fun b hb=>⟨hf b hb,by rw [hAn];exact fpLt b hb⟩) hHC fun b o e=>(below b (by rw [← hAn];exact Heap.lt_size e)).1
 have I2:Inv (aJ X scope N' cl C s H fp) [(acc,bB [] 0)] (dg own.length js U) H { s with heap:=h₁,toks:=s.toks+([]:List (Str×Value)).length }:=I1.pins_of fun p hp=>by
  obtain rfl:p=(acc,bB [] 0):=by simpa using hp
  exact ⟨hacc,hHA,hDC,fun z=>absurd (stkLt acc z) (Nat.lt_irrefl _),fun v z=>by cases z⟩
 have st1:tn 0 h₁:=T.keep _ _ _ st fun b hb o e=>old b o e
 have loop:∀ s₃:Shared,s₃={ s with heap:=h₁,toks:=s.toks+([]:List (Str×Value)).length }->
  codeAny (model X.prog X.w) X.A (.compLoop (.ListComp elt [⟨tg,iter,ifs,0⟩,⟨tg2,iter2,ifs2,0⟩] scope pos) 0 (.ref it) (.ref acc) (compEnvC scope cl C X.env)) (RR (.ref acc) C) s₃:=by
  rintro s₃ rfl
  refine qP W turn T (hg _ _ _ _ _) (hc _ _ _ _ _) (hi2 _ _ _ _ _) (hs2 _) (hg2 _ _ _ _ _) (hc2' _ _ _ _ _) (he _ _ _ _ _) hcalm
   (fun b hb=>⟨(below b (fpLt b hb)).1,fun z=>?_,fun x c e z=>(hf b hb).2.2.2.2.1 x c (hc1 x c e) z,(below b (fpLt b hb)).2⟩)
   ⟨hDC,fun z=>absurd (stkLt acc z) (Nat.lt_irrefl _),fun x c e z=>absurd (cellLt x c (hc1 x c e)) (by rw [z];exact Nat.lt_irrefl _),by rw [hAn];exact Nat.le_refl _⟩ ?_ I2 st1 (fun b hb=>(hf b hb).1) w0
  ·rcases List.mem_cons.mp (I.stkSub b z) with q|q
   ·exact (hf b hb).2.1 q
   ·exact (hf b hb).2.2.1 q
  ·intro s' σ' H' ys us k J' rv q
   obtain ⟨e',n',l',f',d'⟩:=J'.pin (acc,bB us k) (List.mem_append_right _ List.mem_cons_self)
   have n'':H' acc=none:=n'
   obtain ⟨m,hm,_⟩:=J'.loc
   have oldLt:∀ b o,s.heap.get? b=some o->b<acc:=fun b o e=>by rw [← hAn];exact Heap.lt_size e
   have neA:∀ b o,s.heap.get? b=some o->b≠acc:=fun b o e=>Nat.ne_of_lt (oldLt b o e)
   have un:Un (frs X.stack) fp H (upd H' acc (.lst ys)) s.heap s'.heap:=⟨J'.base.keep,J'.base.slot,fun b o e n hx=>by rw [aF (neA b o e)];exact J'.base.free b o e n hx,J'.base.there,
    fun b xs e=>by
     have z:=J'.base.tups b xs e
     rw [aF (aH z n'')];exact z,
    fun b o u e=>by
     have z:=J'.base.frzs b o u e
     rw [aF (aH z n'')];exact z,
    fun b ps e=>by
     obtain ⟨more,z⟩:=J'.base.tbls b ps e
     exact ⟨more,by rw [aF (aH z n'')];exact z⟩⟩
   have hok:iC X.prog X.w (upd H' acc (.lst ys)) s'.heap:=fun b u e=>by
    by_cases hb:b=acc
    ·subst hb
     rw [ak] at e;cases e
     exact ⟨hF _ _ q,us,k,rv,e'⟩
    ·rw [aF hb] at e
     exact (J'.hok b u e).stay (fun c v _ z=>z) (fun c z=>by rw [aF (aH z n'')];exact z) fun c xs z=>by rw [aF (aH z n'')];exact z
   have IX:Inv X Z U (upd H' acc (.lst ys)) s':=I.call' J'.os un hok J'.bare fun b hb=>⟨(hf b hb).2.2.2.1,(hf b hb).2.1,(hf b hb).2.2.2.2.1,(hf b hb).2.2.2.2.2⟩
   refine fin acc C H' ys s' m IX n'' hm ?_ ?_ ?_ ?_ ?_ q
   ·rw [aF (Ne.symm hDC)];exact J'.free
   ·exact Nat.ne_of_gt (Nat.lt_of_lt_of_le I.lt (by rw [hAn];exact hCle))
   ·exact Nat.le_trans I.sz (by rw [hAn];exact hCle)
   ·exact fun x c e z=>absurd (Nat.lt_of_lt_of_le (cellLt x c e) hCle) (by rw [z];exact Nat.lt_irrefl _)
   ·exact fun p hp z=>absurd (Nat.lt_of_lt_of_le (pinLt p hp) hCle) (by rw [z];exact Nat.lt_irrefl _)
 exact codeAny_compStart_list (loop _ rfl) (T.self _ 0 _ _ _ st1 (loop _ rfl))
theorem pM {i:Nat} {x:Str} {pos' spos:Pos} (S:bu X scope own js N') (hcalm:X.calm=true) (hN:X.N.Nodup) (hx:X.N[i]?=some x) (hk:X.env.scope.names.lookup x=some .local) (hi:PI X tg iter wi) (hg:∀ cl C s₀ H₀ ex,PG (aJ X scope N' cl C s₀ H₀ ex) tg g) (hc:∀ cl C s₀ H₀ ex,iR (aJ X scope N' cl C s₀ H₀ ex) ifs tt)
 (hi2:∀ cl C s₀ H₀ ex,PI (aJ X scope N' cl C s₀ H₀ ex) tg2 iter2 wi2) (hs2:∀ env x,foldedSetIterable iter2 env x=pure x) (hg2:∀ cl C s₀ H₀ ex,PG (aJ X scope N' cl C s₀ H₀ ex) tg2 g2) (hc2':∀ cl C s₀ H₀ ex,iR (aJ X scope N' cl C s₀ H₀ ex) ifs2 tt2) (he:∀ cl C s₀ H₀ ex,PE (aJ X scope N' cl C s₀ H₀ ex) elt te) (hsw:swapsWith (.ListComp elt [⟨tg,iter,ifs,0⟩,⟨tg2,iter2,ifs2,0⟩] scope pos) (some (.Name x pos')) spos.line X.env=pure true:=by rfl) (hs:∀ x,foldedSetIterable iter X.env x=pure x:=by intro _;rfl) :
 PS X (.Assign [.Name x pos'] (.ListComp elt [⟨tg,iter,ifs,0⟩,⟨tg2,iter2,ifs2,0⟩] scope pos) spos) (yI (Bh wi g tt wi2 g2 tt2 te own.length js) (bK i)):=by
 intro Z s U H D I h
 obtain ⟨cl,hcl,hc1,hc2⟩:=gM (env:=X.env) scope fun y hy hk=>I.ok.has y.1 (S.free y hy hk)
 rw [exec_Assign_Name_used _ _ _ _ hsw]
 refine wpAny_bind (wpAny_standAt (wpAny_bind ?_))
 show wpAny _ X.A (do let _ ← comprehension (.ListComp elt [⟨tg,iter,ifs,0⟩,⟨tg2,iter2,ifs2,0⟩] scope pos) scope X.env _ (newList []) false (eval iter X.env) (some (assign (.Name x pos') X.env))) _ _ s
 refine wpAny_bind (wpAny_mono (wpAny_comprehension_free (use:=some (assign (.Name x pos') X.env)) (Q:=fun _ s'=>SP X Z D .next s') rfl hs hcl S.kind S.names
  (bU (hi Z s U H _ I h) fun v s1 h1=>bU h1 fun itv s2 h2=>?_)) (fun _ s' hq=>wpAny_pure (wpAny_pure hq)) fun _ _ e=>e)
 obtain ⟨it,fp,tn,J,H2,e,I2,T,st2,f2,W,⟨m0,w0⟩,turn⟩:=h2
 subst e
 refine vK (RR:=fun acc C=>compPost (model X.prog X.w) X.A X.xe (some (assign (.Name x pos') X.env)) (fun _ s'=>SP X Z D .next s') acc C) S hcalm hg hc hi2 hs2 hg2 hc2' he hc1 hc2 I2 T st2 f2 W w0 turn (fun ys H' q=>q.1) ?_
 intro acc C H' ys s' m IX na hm hCn hL hz hcn hpn q
 show wpAny _ X.A (assign (.Name x pos') X.env (.ref acc)) _ _ s'
 refine wpAny_assign_Name (jO IX hN hx (.inl hk) (v:=.ref acc) rfl (fun s'' I'' hsb=>?_) (.inr hk))
 obtain ⟨a,hsb,ha⟩:=hsb
 have haC:C≠a:=by
  rcases ha with z|z
  ·rw [z];exact hL
  ·exact fun q=>hcn x a z q.symm
 refine ⟨m,hm.sameBut hsb haC,fun h' hs'=>⟨_,_,?_,q.2 acc na⟩⟩
 exact I''.turned (t':=s''.toks) (it:=C) (fun b o hb e=>(hs'.2 b hb).trans e) hCn hL (.inr hz) hcn hpn
end
theorem jh:∀ {us:List Value} {ns:List Int},IntsAre us ns->Vals (ns.map V.int) us
 |_,_,.nil=>.nil
 |_,_,.cons n t h=>.cons ⟨t,rfl⟩ (jh h)
section
variable {X:Cx}
end
section
variable {prog:Program} {w:World} {A:Around} {R:Result->Shared->Prop} {I:Addr} {fp wr:List Addr} {n:Nat} {P:Nat->Value->Prop} {St:Nat->Heap->Prop}
end
section
variable {prog:Program} {w:World} {A:Around} {E:Value->Shared->Prop} {s:Shared} {l:Addr} {xs:Array (Int×Tok)}
end
section
variable {X:Cx}
end
section
variable {X:Cx} {scope:Scope} {own:List Str} {js:List Nat} {N':List Str} {wi:TI} {g:TG} {tt:TT} {te:TE} {tf:St->TE} {elt tg iter:Expr} {ifs:List Expr} {pos:Pos}
end
end L2
namespace L2
open PySem PySem.Spec PyProof.Rows PySem.SeqAt
section
variable {prog:Program} {w:World} {A:Around} {E:Value->Shared->Prop} {s:Shared} {l:Addr} {x y z:Value}
end
section
variable {X:Cx} {pos:Pos}
end
section
variable {X:Cx}
end
section
variable {X:Cx} {CX:mU} {k:Nat} {f C:Addr} {fd:FuncData} {ps ks:List Str} {sp:Sp} {E:XK} {m:Str} {pos apos:Pos} {o:Expr} {kws:List Keyword} {ta:TE} {tk:TA} {g:List Value->List Value->List Value} {gV:List V->List V->List V}
end
section
variable {prog:Program} {w:World} {A:Around} {R:Result->Shared->Prop} {I:Addr} {fp wr:List Addr} {G:Array GenState->Array GenState->Prop} {n:Nat} {P:Nat->Value->Prop} {St:Nat->Shared->Prop}
end
section
open PySem.F
variable {prog:Program} {w:World} {A:Around} {E:Value->Shared->Prop} {s:Shared}
end
section
variable {X:Cx}
end
section
variable {prog:Program} {w:World} {A:Around} {E:Value->Shared->Prop} {s:Shared} {K:Type} [DecidableEq K] {knd:KeyKind prog w K}
end
section
variable {X:Cx}
end
def oF (xs:Array Nat):Prop:=∀ i j a b:Nat,i<j->xs[i]?=some a->xs[j]?=some b->a<b
theorem lq {xs:Array Nat} {j:Nat} (R:oF xs):∀ (f lo hi:Nat),lo≤hi->hi≤xs.size->hi-lo≤f->(∀ i a,i<lo->xs[i]?=some a->a<j)->(∀ i a,hi≤i->xs[i]?=some a->j≤a)->
 SetTable.below.go xs j f lo hi≤xs.size/\(∀ i a,i<SetTable.below.go xs j f lo hi->xs[i]?=some a->a<j)/\∀ i a,SetTable.below.go xs j f lo hi≤i->xs[i]?=some a->j≤a
 | 0,lo,hi,h1,h2,h3,a1,a2=>by
   have e:lo=hi:=by omega
   subst e
   exact ⟨h2,a1,a2⟩
 | f+1,lo,hi,h1,h2,h3,a1,a2=>by
   unfold SetTable.below.go
   split
   ·rename_i hlt
    have hm:(lo+hi) / 2<xs.size:=by omega
    have eg:xs[(lo+hi) / 2]?=some (xs.getD ((lo+hi) / 2) j):=by rw [Array.getD_eq_getD_getElem?,Array.getElem?_eq_getElem hm];rfl
    dsimp only
    generalize xs.getD ((lo+hi) / 2) j=y at eg ⊢
    by_cases hs:y<j
    ·simp only [if_pos hs]
     refine lq R f ((lo+hi) / 2+1) hi (by omega) h2 (by omega) (fun i a hi' e=>?_) a2
     by_cases q:i=(lo+hi) / 2
     ·subst q;rw [eg] at e;cases e;exact hs
     ·exact Nat.lt_trans (R i ((lo+hi) / 2) a _ (by omega) e eg) hs
    ·simp only [if_neg hs]
     refine lq R f lo ((lo+hi) / 2) (by omega) (by omega) (by omega) a1 (fun i a hi' e=>?_)
     by_cases q:i=(lo+hi) / 2
     ·subst q;rw [eg] at e;cases e;omega
     ·exact Nat.le_trans (Nat.not_lt.mp hs) (Nat.le_of_lt (R ((lo+hi) / 2) i _ a (by omega) eg e))
   ·rename_i hlt
    have e:lo=hi:=by omega
    subst e
    exact ⟨h2,a1,a2⟩
theorem pL {xs:Array Nat} {j:Nat} (R:oF xs):SetTable.below xs j≤xs.size/\(∀ i a,i<SetTable.below xs j->xs[i]?=some a->a<j)/\∀ i a,SetTable.below xs j≤i->xs[i]?=some a->j≤a:=
 lq R _ _ _ (Nat.zero_le _) (Nat.le_refl _) (by omega) (fun i a h=>by omega) fun i a h e=>by
  have:=(Array.getElem?_eq_some_iff.mp e).1
  omega
theorem vh {α:Type} {xs:Array α} {p:Nat} {x:α} (hp:p≤xs.size) (i:Nat):(SetTable.insertAt xs p x)[i]?=if i<p then xs[i]? else if i=p then some x else xs[i-1]?:=by
 obtain ⟨l⟩:=xs
 simp only [List.size_toArray] at hp
 unfold SetTable.insertAt
 simp only [List.extract_toArray,List.push_toArray,List.append_toArray,List.getElem?_toArray,List.size_toArray]
 simp only [List.extract_eq_drop_take,Nat.sub_zero,List.drop_zero]
 by_cases h1:i<p
 ·rw [if_pos h1,List.append_assoc,List.getElem?_append_left (by rw [List.length_take];omega),List.getElem?_take,if_pos h1]
 ·rw [if_neg h1,List.append_assoc,List.getElem?_append_right (by rw [List.length_take];omega),List.length_take,Nat.min_eq_left hp]
  by_cases h2:i=p
  ·subst h2;rw [if_pos rfl];simp
  ·rw [if_neg h2]
   obtain ⟨k,hk⟩:∃ k,i-p=k+1:=⟨i-p-1,by omega⟩
   rw [hk]
   simp only [List.singleton_append,List.getElem?_cons_succ]
   rw [List.getElem?_take]
   by_cases h3:k<l.length-p
   ·rw [if_pos h3,List.getElem?_drop];congr 1;omega
   ·rw [if_neg h3,eq_comm,List.getElem?_eq_none_iff];omega
theorem oF.ins {xs:Array Nat} {j:Nat} (R:oF xs) (hj:(xs[SetTable.below xs j]? == some j)=false):oF (SetTable.insertAt xs (SetTable.below xs j) j):=by
 obtain ⟨b1,b2,b3⟩:=pL (j:=j) R
 have b4:∀ i a,SetTable.below xs j≤i->xs[i]?=some a->j<a:=fun i a h e=>by
  rcases Nat.lt_or_eq_of_le (b3 i a h e) with z|z
  ·exact z
  ·subst z
   rcases Nat.lt_or_eq_of_le h with q|q
   ·have hb:SetTable.below xs j<xs.size:=Nat.lt_of_lt_of_le q (Nat.le_of_lt (Array.getElem?_eq_some_iff.mp e).1)
    have:=R _ i _ _ q (Array.getElem?_eq_getElem hb) e
    have:=b3 _ _ (Nat.le_refl _) (Array.getElem?_eq_getElem hb)
    omega
   ·rw [← q] at e
    rw [e] at hj
    simp at hj
 intro i k a b hik e1 e2
 rw [vh b1] at e1 e2
 by_cases c1:i<SetTable.below xs j
 ·rw [if_pos c1] at e1
  by_cases c2:k<SetTable.below xs j
  ·rw [if_pos c2] at e2;exact R i k a b hik e1 e2
  ·rw [if_neg c2] at e2
   by_cases c3:k=SetTable.below xs j
   ·rw [if_pos c3] at e2;cases e2;exact b2 i a c1 e1
   ·rw [if_neg c3] at e2
    exact Nat.lt_trans (b2 i a c1 e1) (b4 _ b (by omega) e2)
 ·rw [if_neg c1] at e1
  rw [if_neg (by omega),if_neg (by omega)] at e2
  by_cases c3:i=SetTable.below xs j
  ·rw [if_pos c3] at e1;cases e1;exact b4 _ b (by omega) e2
  ·rw [if_neg c3] at e1
   exact R _ _ a b (by omega) e1 e2
theorem uT {l:List Nat} (h:l.Pairwise (·<·)):oF l.toArray:=fun i j a b hij e1 e2=>by
 rw [List.getElem?_toArray] at e1 e2
 obtain ⟨h1,rfl⟩:=List.getElem?_eq_some_iff.mp e1
 obtain ⟨h2,rfl⟩:=List.getElem?_eq_some_iff.mp e2
 exact List.pairwise_iff_getElem.mp h i j h1 h2 hij
structure mO (led:Bool) (t:SetTable):Prop where
 rise:oF t.place
 dum:t.dummies=#[]
 led:t.led=led
theorem mO.fresh {b:Bool}:mO b (.fresh 0 0 b):=⟨fun i j a c _ e=>by simp [SetTable.fresh] at e,rfl,rfl⟩
theorem mO.standIn {b:Bool} {t:SetTable} {n:Nat} (g:mO b t):mO b (t.standIn n):=
 ⟨fun i j a c h e1 e2=>by
  unfold SetTable.standIn at e1 e2
  dsimp only at e1 e2
  obtain ⟨_,rfl⟩:=Array.getElem?_eq_some_iff.mp e1
  obtain ⟨_,rfl⟩:=Array.getElem?_eq_some_iff.mp e2
  simpa using h,rfl,g.led⟩
theorem mO.orStandIn {b:Bool} {t:SetTable} {n:Nat} (g:mO b t):mO b (t.orStandIn n):=by
 unfold SetTable.orStandIn
 split
 ·exact g
 ·exact g.standIn
theorem mO.has {b:Bool} {t:SetTable} (g:mO b t) (j:Nat):SetTable.has t.dummies j=false:=by rw [g.dum];simp [SetTable.has]
theorem mO.probe {b:Bool} {t:SetTable} (g:mO b t) {ha:Nat->Int} {h:Int}:∀ (f:Nat) (p:SetTable.Probe) (j:Nat) (d:Option Nat),p.dummy=none->SetTable.probe.go t ha h f p=some (.empty j d)->d=none/\(t.place[SetTable.below t.place j]? == some j)=false
 |0,p,j,d,hp,e=>by simp [SetTable.probe.go] at e
 | f+1,p,j,d,hp,e=>by
   have adv:(t.advance p).dummy=none:=by unfold SetTable.advance;split <;> exact hp
   unfold SetTable.probe.go at e
   have sl:t.slot p.j=if t.place[SetTable.below t.place p.j]? == some p.j then .live (SetTable.below t.place p.j) else .empty:=by
    unfold SetTable.slot
    rw [g.has]
    rfl
   by_cases q:(t.place[SetTable.below t.place p.j]? == some p.j)=true
   ·rw [if_pos q] at sl
    rw [sl] at e
    dsimp only at e
    split at e
    ·cases e
    ·exact g.probe f _ j d adv e
   ·rw [if_neg q] at sl
    rw [sl] at e
    cases e
    exact ⟨hp,by simpa using q⟩
theorem mO.layNew {b:Bool} {t:SetTable} (g:mO b t) (es:Array (Int×Value)) (h:Int) (x:Value):mO b (layNew t es h x).2.1:=by
 unfold PySem.layNew
 split
 ·rename_i sl wd e
  refine mO.orStandIn ?_
  have:(t.place[SetTable.below t.place sl]? == some sl)=false:=by
   unfold SetTable.freeSlot at e
   split at e
   ·rename_i j d ep
    obtain ⟨rfl,q⟩:=g.probe _ _ j d rfl ep
    cases e
    exact q
   ·cases e
  refine ⟨g.rise.ins this,?_,g.led⟩
  show (if SetTable.has t.dummies sl then _ else t.dummies)=#[]
  rw [g.has,if_neg (by simp),g.dum]
 ·exact g.standIn
theorem mO.relayAll {b:Bool} {t:SetTable} (g:mO b t) (es:Array (Int×Value)) (n:Nat):mO b (relayAll t es n).2.1:=by
 unfold PySem.relayAll
 split
 ·rename_i t' od e
  dsimp only
  split
  ·unfold SetTable.relaid SetTable.laid at e
   rw [Option.bind_eq_bind,Option.bind_eq_some_iff] at e
   obtain ⟨ow,_,e⟩:=e
   cases e
   refine ⟨uT ?_,rfl,g.led⟩
   rw [List.pairwise_map,List.pairwise_filterMap]
   refine List.Pairwise.imp ?_ List.pairwise_lt_range
   intro a c hac x hx y hy
   obtain ⟨_,_,rfl⟩:=Option.map_eq_some_iff.mp hx
   obtain ⟨_,_,rfl⟩:=Option.map_eq_some_iff.mp hy
   exact hac
  ·exact g.standIn
 ·exact g.standIn
abbrev qz (w:World):Bool:=w.params.followText "set-order"
def iQ (P:Program) (w:World) (h:Heap) (a:Addr) (ns:List Int):Prop:=
 ∃ o es ep t,h.get? a=some o/\o.ExactSet/\o.data=.set es ep t/\ElemsOf (intKind P w) es.toList/\(es.toList.map fun e=>numOf e.2).Perm ns/\es.size<scanBound/\t.fits es.size=true/\mO (!qz w) t
def adj (ns:List Int) (k:Int):List Int:=if k∈ns then ns else ns++[k]
def dd (ns:List Int):List Int:=ns.foldl adj []
theorem yO (ns:List Int) (k:Int):dd (ns++[k])=adj (dd ns) k:=by unfold dd;rw [List.foldl_append];rfl
theorem pR:∀ (ns ms:List Int) (x:Int),x∈ns.foldl adj ms↔x∈ms∨x∈ns
 |[],ms,x=>by simp
 | n::r,ms,x=>by
   rw [List.foldl_cons,pR r _ x]
   unfold adj
   split <;> simp only [List.mem_append,List.mem_cons,List.mem_singleton,List.not_mem_nil,or_false]
   ·rename_i h
    constructor
    ·rintro (a|a)
     ·exact .inl a
     ·exact .inr (.inr a)
    ·rintro (a|rfl|a)
     ·exact .inl a
     ·exact .inl h
     ·exact .inr a
   ·rw [or_assoc]
theorem lA:∀ (ns ms:List Int),ms.Nodup->(ns.foldl adj ms).Nodup
 |[],ms,h=>h
 | n::r,ms,h=>by
   rw [List.foldl_cons]
   refine lA r _ ?_
   unfold adj
   split
   ·exact h
   ·rename_i q
    rw [List.nodup_append]
    exact ⟨h,by simp,fun a ha b hb=>by simp at hb;subst hb;exact fun e=>q (e ▸ ha)⟩
theorem qC:∀ (ns ms:List Int),(ns.foldl adj ms).length≤ms.length+ns.length
 |[],ms=>Nat.le_refl _
 | n::r,ms=>by
   rw [List.foldl_cons]
   refine Nat.le_trans (qC r _) ?_
   unfold adj
   split <;> simp <;> omega
theorem DK {ns:List Int} {x:Int}:x∈dd ns↔x∈ns:=by unfold dd;rw [pR];simp
theorem yr (ns:List Int):(dd ns).Nodup:=lA ns [] .nil
theorem xR (ns:List Int):(dd ns).length≤ns.length:=by have:=qC ns [];simpa [dd] using this
section
variable {P:Program} {w:World} {A:Around} {E:Value->Shared->Prop} {s:Shared} {a:Addr} {ns:List Int}
theorem xr {k:Int} {v:Value} (h:(intKind P w).is k v=true):numOf v=k:=by obtain ⟨t,rfl⟩:=Value.isInt_shape h;rfl
theorem iQ.at {h h':Heap} (g:iQ P w h a ns) (e:∀ o,h.get? a=some o->h'.get? a=some o):iQ P w h' a ns:=
 let ⟨o,es,ep,t,ho,r⟩:=g;⟨o,es,ep,t,e _ ho,r⟩
theorem uC {h:Heap} {o:Obj} {es es':Array (Int×Value)} {ep:Nat} {t t':SetTable} (ho:h.get? a=some o) (hd:o.data=.set es ep t) :
 (h.update a (Obj.putSet es' t')).get? a=some { o with data:=.set es' (ep+1) t' }:=by
 have e:=Heap.get?_update_self (Obj.putSet es' t') ho (by rw [putSet_of es' t' hd];rfl)
 rwa [putSet_of es' t' hd] at e
theorem Iv {k:Int} {tk:Tok} {Q:Bool->Shared->Prop} (hS:iQ P w s.heap a ns) (hr:ns.length+1<scanBound) (h:∀ b h',Heap.SameBut a s.heap h'->iQ P w h' a (adj ns k)->Q b { s with heap:=h' }) :
 wpAny (model P w) A (setAddHashed a (.int k tk) ((intKind P w).hash k)) Q E s:=by
 obtain ⟨o,es,ep,t,ho,hex,hd,hel,hp,hb,hf,tg⟩:=hS
 have hkey:=intKind_is P w k tk
 have hsz:es.size=ns.length:=by rw [← Array.length_toList,← hp.length_eq,List.length_map]
 unfold setAddHashed setAddHashedIn
 refine wpAny_holding (wpAny_bind (wpAny_setState_of ho hd hf ?_))
 dsimp only
 rw [byScan_of rfl hb hel]
 simp only [↓reduceIte]
 unfold setAddByScan
 refine wpAny_bind (wpAny_bind (wpAny_rule (wpAny_bind (wpAny_setScan_of hkey ho hd hf hel ?_))))
 cases hr':List.findIdx? (fun e=>(intKind P w).is k e.2) es.toList with
 | some j=>
   obtain ⟨hj,hpj,_⟩:=List.findIdx?_eq_some_iff_getElem.mp hr'
   have hm:k∈ns:=hp.mem_iff.mp (List.mem_map.mpr ⟨_,List.getElem_mem hj,xr hpj⟩)
   dsimp only
   refine wpAny_pure (wpAny_pure ?_)
   exact h false s.heap (Heap.SameBut.refl a s.heap) (by unfold adj;rw [if_pos hm];exact ⟨o,es,ep,t,ho,hex,hd,hel,hp,hb,hf,tg⟩)
 | none=>
   have hm:k∉ns:=fun hk=>by
    obtain ⟨e,he,hn⟩:=List.mem_map.mp (hp.mem_iff.mpr hk)
    obtain ⟨⟨k',hk',_⟩,_⟩:=hel e he
    have e1:=xr hk'
    have e2:=List.findIdx?_eq_none_iff.mp hr' e he
    rw [hn] at e1
    rw [e1,hk'] at e2
    cases e2
   have gw:∀ (b:Bool) {s₁:Shared} {Q':Unit->Shared->Prop},Q' () s₁->wpAny (model P w) A (match b with|true=>rule "set.scan.the-table-gave-way" | false=>pure ()) Q' E s₁:=
    fun b s₁ Q' q=>by cases b;exact wpAny_pure q;exact wpAny_rule q
   dsimp only
   have l1:=layNew_perm t es ((intKind P w).hash k) (.int k tk)
   have l2:=layNew_fits t es ((intKind P w).hash k) (.int k tk)
   have l3:=tg.layNew es ((intKind P w).hash k) (.int k tk)
   generalize layNew t es ((intKind P w).hash k) (.int k tk)=L at l1 l2 l3 ⊢
   obtain ⟨es1,t1,wd,gv⟩:=L
   dsimp only at l1 l2 l3 ⊢
   rw [Array.toList_push] at l1
   have e1:ElemsOf (intKind P w) es1.toList:=(hel.push hkey rfl).perm l1
   have e2:(es1.toList.map fun e=>numOf e.2).Perm (adj ns k):=by
    unfold adj
    rw [if_neg hm]
    refine (l1.map _).trans ?_
    rw [List.map_append]
    exact hp.append (.refl _)
   have e3:es1.size<scanBound:=by rw [← Array.length_toList,l1.length_eq,List.length_append,Array.length_toList,hsz];exact hr
   refine wpAny_bind (gw _ ?_)
   have tail:wpAny (model P w) A (do
    storeSet a es1 t1
    if (!wd && t1.tooFull)=true then do
        (match (relayAll t1 es1 (SetTable.grown es1.size)).2.2 with|true=>rule "set.scan.the-table-gave-way" | false=>pure ())
        storeSet a (relayAll t1 es1 (SetTable.grown es1.size)).1 (relayAll t1 es1 (SetTable.grown es1.size)).2.1
        pure (some true)
     else pure (some true)) (fun r s'=>r=some true/\Q true s') E s:=by
    refine wpAny_bind (wpAny_storeSet_of ho hd ?_ (fits_of_scanBound e3))
    have g1:=uC (es':=es1) (t':=t1) ho hd
    have b1:=Heap.SameBut.update s.heap a (Obj.putSet es1 t1)
    split
    ·have r1:=relayAll_perm t1 es1 (SetTable.grown es1.size)
     have r2:=relayAll_fits t1 es1 (SetTable.grown es1.size)
     have r3:=l3.relayAll es1 (SetTable.grown es1.size)
     generalize relayAll t1 es1 (SetTable.grown es1.size)=L at r1 r2 r3 ⊢
     obtain ⟨es2,t2,gv2⟩:=L
     dsimp only at r1 r2 r3 ⊢
     have z:es2.size=es1.size:=by rw [← Array.length_toList,r1.length_eq,Array.length_toList]
     refine wpAny_bind (gw _ ?_)
     refine wpAny_bind (wpAny_storeSet_of g1 rfl ?_ (fits_of_scanBound (by rw [z];exact e3)))
     exact wpAny_pure ⟨rfl,h true _ (b1.trans (Heap.SameBut.update _ a _)) ⟨_,es2,_,t2,uC g1 rfl,hex,rfl,e1.perm r1,(r1.map _).trans e2,by rw [z];exact e3,r2,r3⟩⟩
    ·exact wpAny_pure ⟨rfl,h true _ b1 ⟨_,es1,_,t1,g1,hex,rfl,e1,e2,e3,l2,l3⟩⟩
   have fin:∀ s',(fun r s'=>r=some true/\Q true s') (some true) s'->wpAny (model P w) A (pure true) Q E s':=fun s' q=>wpAny_pure q.2
   split
   ·refine wpAny_bind ?_
    rw [hashByValue_scannable 8 rfl]
    refine wpAny_pure ?_
    refine wpAny_mono tail (fun r s' q=>?_) fun _ _ e=>e
    obtain ⟨rfl,q⟩:=q
    exact wpAny_pure q
   ·refine wpAny_bind (wpAny_pure ?_)
    simp only [↓reduceIte]
    refine wpAny_mono tail (fun r s' q=>?_) fun _ _ e=>e
    obtain ⟨rfl,q⟩:=q
    exact wpAny_pure q
end
section
variable {P:Program} {w:World} {A:Around} {R:Result->Shared->Prop} {I:Addr} {fp wr:List Addr} {G:Array GenState->Array GenState->Prop} {n:Nat} {Pv:Nat->Value->Prop} {St:Nat->Shared->Prop}
end
section
variable {P:Program} {w:World} {A:Around} {E:Value->Shared->Prop} {s:Shared}
abbrev zx (w:World):Obj:={ cls:=.type "set",dict:=none,data:=.set #[] 0 (.fresh 0 0 (!qz w)) }
theorem Bo {h:Heap} {a:Addr} (e:h.get? a=some (zx w)):iQ P w h a []:=
 ⟨_,#[],0,_,e,⟨rfl,rfl,rfl⟩,rfl,fun e he=>by simp at he,.refl _,by unfold scanBound;decide,by rfl,mO.fresh⟩
end
theorem cN:Slot "set_iterator" "__next__" "set_iterator.__next__" :=
 Slot.of (owner:="set_iterator") (n:="__next__") (by rw [typeLookup_type,builtinLookup_eq_fast];kernel_rfl) (by decide +kernel) (by decide +kernel) (by decide +kernel) (by first|exact .inl (by decide +kernel)|exact .inr (by decide +kernel)) (by rw [isSubtype_type];kernel_rfl)
theorem iI:entryFor table "set_iterator.__next__" = some Builtin.«set_iterator.__next__»:=entryFor_of_tree (by kernel_rfl)
theorem je (a:Value):argsOk "set_iterator.__next__" ⟨[a],[]⟩:=by unfold argsOk;kernel_rfl
theorem mF:entryFor table "set.__iter__" = some Builtin.«frozenset.__iter__»:=entryFor_alias (id':="frozenset.__iter__") (by kernel_rfl) rfl (by decide +kernel) (by kernel_rfl)
abbrev zA (f:Value) (i:Nat) (a:Addr) (n ep:Nat):Obj:={ cls:=.type "set_iterator",data:=.fields #[f,.int i 0,.ref a,.int n 0,.int ep 0] }
section
variable {P:Program} {w:World} {A:Around} {E:Value->Shared->Prop} {s:Shared} {I a:Addr} {i n ep:Nat} {o:Obj} {es:Array (Int×Value)} {t:SetTable}
theorem Ik {sl nx:Nat} {x:Value} {Q:Option Value->Shared->Prop} (hI:s.heap.get? I=some (zA (.int sl 0) i a es.size ep)) (ho:s.heap.get? a=some o) (hd:o.data=.set es ep t) (hf:t.fits es.size=true)
 (hN:∀ {A:Around} {E:Value->Shared->Prop} (Q':Option (Value×Nat)->Shared->Prop),Q' (some (x,nx)) s->wpAny (model P w) A (setNext a sl i ep) Q' E s)
 (hQ:∀ h',h'.get? I=some (zA (.int nx 0) (i+1) a es.size ep)->Heap.SameBut I s.heap h'->Q (some x) { s with heap:=h' }):wpAny (model P w) A (pyNext (.ref I)) Q E s:=by
 have hT:s.TypeIs (.ref I) "set_iterator":=⟨_,hI,rfl⟩
 unfold pyNext
 refine wpAny_bind (wpAny_attempt (wpAny_callSpecial?_slot (name:=Str.ofString "__next__") hT cN (wpAny_call_entry cN hT iI ?_ (je _))))
 unfold Builtin.«set_iterator.__next__»
 refine wpAny_bind (wpAny_pure ?_)
 refine wpAny_bind (wpAny_fieldsOf hI rfl ?_)
 dsimp only
 refine wpAny_bind (m:=setEntries a) (wpAny_setEntries_of ho hd hf ?_)
 rw [if_neg (by simp)]
 refine wpAny_bind (hN _ ?_)
 dsimp only
 refine wpAny_bind (wpAny_setField hI rfl (by simp) ?_)
 have g1:=Heap.get?_update_self (Obj.mapFields fun fs=>fs.set! 0 (rawInt nx)) hI rfl
 refine wpAny_bind (wpAny_setField g1 rfl (by simp) ?_)
 have g2:=Heap.get?_update_self (Obj.mapFields fun fs=>fs.set! 1 (rawInt ((i:Int)+1))) g1 rfl
 refine wpAny_pure ⟨x,rfl,wpAny_pure (hQ _ g2 ((Heap.SameBut.update ..).trans (Heap.SameBut.update ..)))⟩
theorem K8 {sl:Nat} {Q:Option Value->Shared->Prop} (hh:A.handled=none) (hI:s.heap.get? I=some (zA (.int sl 0) i a es.size ep)) (ho:s.heap.get? a=some o) (hd:o.data=.set es ep t) (hf:t.fits es.size=true)
 (hN:∀ {A:Around} {E:Value->Shared->Prop} (Q':Option (Value×Nat)->Shared->Prop),Q' none s->wpAny (model P w) A (setNext a sl i ep) Q' E s)
 (hQ:∀ h',Heap.ExtBut I s.heap h'->Q none { s with heap:=h' }):wpAny (model P w) A (pyNext (.ref I)) Q E s:=by
 have hT:s.TypeIs (.ref I) "set_iterator":=⟨_,hI,rfl⟩
 unfold pyNext
 refine wpAny_bind (wpAny_attempt (wpAny_callSpecial?_slot (name:=Str.ofString "__next__") hT cN (wpAny_call_entry cN hT iI ?_ (je _))))
 unfold Builtin.«set_iterator.__next__»
 refine wpAny_bind (wpAny_pure ?_)
 refine wpAny_bind (wpAny_fieldsOf hI rfl ?_)
 dsimp only
 refine wpAny_bind (m:=setEntries a) (wpAny_setEntries_of ho hd hf ?_)
 rw [if_neg (by simp)]
 refine wpAny_bind (hN _ ?_)
 dsimp only
 refine wpAny_bind (wpAny_setField hI rfl (by simp) ?_)
 refine wpAny_bind ?_
 simp only [newExc,newTuple]
 refine wpAny_bind (wpAny_newObj_type ?_ (by size_fits))
 refine wpAny_bind (m:=firstArgMember _ _) (wpAny_of_eq (a:=Value.none) (by first|rfl|(simp only [firstArgMember];rfl)) ?_)
 refine wpAny_newObj_type ?_ (by size_fits)
 simp only [raiseNew]
 refine wpAny_bind (wpAny_handled ?_)
 rw [show A.in1.handled=none from hh]
 refine wpAny_bind (wpAny_pure (wpAny_throw ?_))
 refine wpAny_bind (wpAny_isInstance (T:="StopIteration") (b:=true) ⟨_,Heap.get?_push_size _ rfl,rfl⟩ isSubtype_stop ?_)
 exact wpAny_pure (hQ _ (((Heap.SameBut.update ..).extBut.push _).push _))
theorem JH {T:Addr} {ps:Array Value} {c p:Nat} {x:Value} {h0:Int} {Q:Option Value->Shared->Prop} (hI:s.heap.get? I=some (zA (.ref T) i a es.size ep)) (ho:s.heap.get? a=some o) (hd:o.data=.set es ep t) (hf:t.fits es.size=true)
 {oT:Obj} (hT':s.heap.get? T=some oT) (hTd:oT.data=.seq ps c) (hp:ps[i]?=some (.int p 0)) (hx:es[p]?=some (h0,x))
 (hQ:∀ h',h'.get? I=some (zA (.ref T) (i+1) a es.size ep)->Heap.SameBut I s.heap h'->Q (some x) { s with heap:=h' }):wpAny (model P w) A (pyNext (.ref I)) Q E s:=by
 have hT:s.TypeIs (.ref I) "set_iterator":=⟨_,hI,rfl⟩
 unfold pyNext
 refine wpAny_bind (wpAny_attempt (wpAny_callSpecial?_slot (name:=Str.ofString "__next__") hT cN (wpAny_call_entry cN hT iI ?_ (je _))))
 unfold Builtin.«set_iterator.__next__»
 refine wpAny_bind (wpAny_pure ?_)
 refine wpAny_bind (wpAny_fieldsOf hI rfl ?_)
 dsimp only
 refine wpAny_bind (m:=setEntries a) (wpAny_setEntries_of ho hd hf ?_)
 rw [if_neg (by simp)]
 refine wpAny_bind (wpAny_seqItems hT' hTd ?_)
 dsimp only
 rw [Int.toNat_natCast,hp]
 dsimp only
 unfold setNextDrawn
 refine wpAny_bind (wpAny_bind (wpAny_setState_of ho hd hf ?_))
 dsimp only
 rw [if_neg (by simp),Int.toNat_natCast,hx]
 refine wpAny_pure ?_
 refine wpAny_bind (wpAny_setField hI rfl (by simp) ?_)
 have g2:=Heap.get?_update_self (Obj.mapFields fun fs=>fs.set! 1 (rawInt ((i:Int)+1))) hI rfl
 exact wpAny_pure ⟨x,rfl,wpAny_pure (hQ _ g2 (Heap.SameBut.update ..))⟩
theorem Do {T:Addr} {ps:Array Value} {c:Nat} {Q:Option Value->Shared->Prop} (hh:A.handled=none) (hI:s.heap.get? I=some (zA (.ref T) i a es.size ep)) (ho:s.heap.get? a=some o) (hd:o.data=.set es ep t) (hf:t.fits es.size=true)
 {oT:Obj} (hT':s.heap.get? T=some oT) (hTd:oT.data=.seq ps c) (hp:ps[i]?=none) (hQ:∀ h',Heap.ExtBut I s.heap h'->Q none { s with heap:=h' }):wpAny (model P w) A (pyNext (.ref I)) Q E s:=by
 have hT:s.TypeIs (.ref I) "set_iterator":=⟨_,hI,rfl⟩
 unfold pyNext
 refine wpAny_bind (wpAny_attempt (wpAny_callSpecial?_slot (name:=Str.ofString "__next__") hT cN (wpAny_call_entry cN hT iI ?_ (je _))))
 unfold Builtin.«set_iterator.__next__»
 refine wpAny_bind (wpAny_pure ?_)
 refine wpAny_bind (wpAny_fieldsOf hI rfl ?_)
 dsimp only
 refine wpAny_bind (m:=setEntries a) (wpAny_setEntries_of ho hd hf ?_)
 rw [if_neg (by simp)]
 refine wpAny_bind (wpAny_seqItems hT' hTd ?_)
 dsimp only
 rw [Int.toNat_natCast,hp]
 dsimp only
 refine wpAny_bind (wpAny_setField hI rfl (by simp) ?_)
 have g1:=Heap.get?_update_self (Obj.mapFields fun fs=>fs.set! 0 (rawInt 0)) hI rfl
 refine wpAny_bind (wpAny_setField g1 rfl (by simp) ?_)
 refine wpAny_bind ?_
 simp only [newExc,newTuple]
 refine wpAny_bind (wpAny_newObj_type ?_ (by size_fits))
 refine wpAny_bind (m:=firstArgMember _ _) (wpAny_of_eq (a:=Value.none) (by first|rfl|(simp only [firstArgMember];rfl)) ?_)
 refine wpAny_newObj_type ?_ (by size_fits)
 simp only [raiseNew]
 refine wpAny_bind (wpAny_handled ?_)
 rw [show A.in1.handled=none from hh]
 refine wpAny_bind (wpAny_pure (wpAny_throw ?_))
 refine wpAny_bind (wpAny_isInstance (T:="StopIteration") (b:=true) ⟨_,Heap.get?_push_size _ rfl,rfl⟩ isSubtype_stop ?_)
 exact wpAny_pure (hQ _ ((((Heap.SameBut.update ..).trans (Heap.SameBut.update ..)).extBut.push _).push _))
end
def slotAt (p:Array Nat):Nat->Nat
 |0=>0
 |i+1=>p.getD i 0+1
theorem sY {p:Array Nat} (R:oF p) {i:Nat} (hi:i≤p.size):SetTable.below p (slotAt p i)=i:=by
 obtain ⟨b1,b2,b3⟩:=pL (j:=slotAt p i) R
 have gd:∀ k,k<p.size->p[k]?=some (p.getD k 0):=fun k hk=>by rw [Array.getD_eq_getD_getElem?,Array.getElem?_eq_getElem hk];rfl
 cases i with
 | zero=>
   rcases Nat.eq_zero_or_pos (SetTable.below p (slotAt p 0)) with e|e
   ·exact e
   ·exact absurd (b2 0 _ e (gd 0 (by omega))) (Nat.not_lt_zero _)
 | succ i=>
   rcases Nat.lt_trichotomy (SetTable.below p (slotAt p (i+1))) (i+1) with e|e|e
   ·have h1:=b3 i _ (by omega) (gd i (by omega))
    simp only [slotAt] at h1
    omega
   ·exact e
   ·have h1:=b2 (i+1) _ e (gd (i+1) (by omega))
    have h2:=R i (i+1) _ _ (by omega) (gd i (by omega)) (gd (i+1) (by omega))
    simp only [slotAt] at h1
    omega
theorem j6 {α:Type}:∀ (l:List α) (i:Nat) (h:i<l.length),(l[i]::l.eraseIdx i).Perm l
 |x::l,0,h=>.refl _
 | x::l,i+1,h=>by
   rw [List.eraseIdx_cons_succ,List.getElem_cons_succ]
   exact (List.Perm.swap _ _ _).trans ((j6 l i (by simpa using h)).cons _)
theorem um {α:Type} (f:Nat->Nat):∀ (n k:Nat) (l:List α) (out:Array α),l.length=n->(pickOrder.go f n k l out).toList.Perm (out.toList++l)
 | 0,k,l,out,h=>by
   obtain rfl:=List.length_eq_zero_iff.mp h
   rw [List.append_nil]
   exact .refl _
 | n+1,k,l,out,h=>by
   have hm:f k % l.length<l.length:=Nat.mod_lt _ (by omega)
   unfold pickOrder.go
   rw [List.getElem?_eq_getElem hm]
   refine (um f n (k+1) _ _ (by rw [List.length_eraseIdx,if_pos hm,h];rfl)).trans ?_
   rw [Array.toList_push,List.append_assoc]
   exact (List.Perm.refl _).append (j6 _ _ hm)
theorem uU {α:Type} (f:Nat->Nat) (xs:Array α):(pickOrder f xs).toList.Perm xs.toList:=by
 unfold pickOrder
 exact um f _ 0 _ _ (by simp)
section
variable {P:Program} {w:World} {A:Around} {E:Value->Shared->Prop} {s:Shared}
theorem rQ {src:Source} {n:Nat} {Q:Nat->Shared->Prop} (hn:n≠0) (h:∀ i d,i<n->Q i { s with drawn:=d }):wpAny (model P w) A (choose src n) Q E s:=by
 intro Γ p hΓ
 unfold choose
 rw [Sem.wp_choose]
 exact ⟨hn,by rw [Sem.wp_pure];exact h _ _ (Nat.mod_lt _ (Nat.pos_of_ne_zero hn))⟩
theorem nG {α:Type}:∀ (n:Nat) (xs:List α) (s:Shared) {Q:List α->Shared->Prop},xs.length≤n->(∀ ys d,ys.Perm xs->Q ys { s with drawn:=d })->wpAny (model P w) A (drawOrder n xs) Q E s
 | 0,xs,s,Q,hl,h=>by
   obtain rfl:=List.length_eq_zero_iff.mp (Nat.le_zero.mp hl)
   exact wpAny_pure (h [] s.drawn (.refl _))
 |n+1,[],s,Q,hl,h=>wpAny_pure (h [] s.drawn (.refl _))
 | n+1,x::xs,s,Q,hl,h=>by
   unfold drawOrder
   refine wpAny_bind (rQ (by simp) fun i d hi=>?_)
   rw [List.getElem?_eq_getElem hi]
   dsimp only
   refine wpAny_bind (nG n _ _ (by rw [List.length_eraseIdx,if_pos hi];simp only [List.length_cons] at hl ⊢;omega) fun ys d' hp=>?_)
   exact wpAny_pure (h _ d' ((hp.cons _).trans (j6 _ _ hi)))
variable {a:Addr} {ep:Nat} {o:Obj} {es:Array (Int×Value)} {t:SetTable} {Q:Option (Value×Nat)->Shared->Prop}
theorem gA {Q:Bool->Shared->Prop} (h:Q (qz w) s):wpAny (model P w) A setsByText Q E s:=by
 unfold setsByText
 exact wpAny_bind (wpAny_askSetting (wpAny_pure h))
theorem Ir {g i:Nat} (ho:s.heap.get? a=some o) (hd:o.data=.set es ep t) (hf:t.fits es.size=true) (R:oF t.place) (hb:qz w=false) (nd:(!t.plain && decide (es.size > 1))=false) (hl:t.led=true) (hi:i≤es.size)
 (h:Q (es[i]?.map fun e=>(e.2,slotAt t.place (i+1))) s):wpAny (model P w) A (setNext a (slotAt t.place i) g ep) Q E s:=by
 have hz:t.place.size=es.size:=by
  simp only [SetTable.fits,Bool.and_eq_true,beq_iff_eq,decide_eq_true_eq] at hf
  exact hf.1
 unfold setNext
 refine wpAny_bind (wpAny_setState_of ho hd hf ?_)
 dsimp only
 refine wpAny_bind (gA ?_)
 rw [if_neg (by rw [hb];simp)]
 split
 ·rename_i q
  exact absurd (show (!t.plain && decide (es.size > 1))=true from q) (by rw [nd];simp)
 ·refine wpAny_bind (m:=(if (!t.led && !es.isEmpty)=true then unsupported "set:maker-not-led" else pure ())) ?_
  rw [if_neg (by rw [hl];simp)]
  refine wpAny_pure ?_
  rw [sY R (by omega)]
  refine wpAny_pure ?_
  by_cases q:i<es.size
  ·rw [Array.getElem?_eq_getElem q] at h ⊢
   rw [Array.getElem?_eq_getElem (show i<t.place.size by omega)]
   have e:slotAt t.place (i+1)=t.place[i]+1:=by
    show t.place.getD i 0+1=_
    rw [Array.getD_eq_getD_getElem?,Array.getElem?_eq_getElem (show i<t.place.size by omega)]
    rfl
   rw [e] at h
   exact h
  ·rw [Array.getElem?_eq_none (by omega)] at h ⊢
   exact h
theorem nextT {g sl:Nat} (ho:s.heap.get? a=some o) (hd:o.data=.set es ep t) (hf:t.fits es.size=true) (hb:qz w=true)
 (h:Q ((pickOrder (w.params.setOrder a ep) es)[g]?.map fun e=>(e.2,sl)) s):wpAny (model P w) A (setNext a sl g ep) Q E s:=by
 unfold setNext
 refine wpAny_bind (wpAny_setState_of ho hd hf ?_)
 dsimp only
 refine wpAny_bind (gA ?_)
 rw [if_pos (by rw [hb]),if_neg (by simp)]
 unfold setWalk
 refine wpAny_bind (wpAny_bind (wpAny_setState_of ho hd hf ?_))
 dsimp only
 refine wpAny_bind (gA ?_)
 rw [if_pos (by rw [hb])]
 exact wpAny_bind (wpAny_askSetting (wpAny_pure (wpAny_pure h)))
end
theorem qb:Slot "set_iterator" "__iter__" "set_iterator.__iter__" :=
 Slot.of (owner:="set_iterator") (n:="__iter__") (by rw [typeLookup_type,builtinLookup_eq_fast];kernel_rfl) (by decide +kernel) (by decide +kernel) (by decide +kernel) (by first|exact .inl (by decide +kernel)|exact .inr (by decide +kernel)) (by rw [isSubtype_type];kernel_rfl)
theorem vq:entryFor table "set_iterator.__iter__" = some Builtin.«dict_keyiterator.__iter__»:=entryFor_alias (id':="dict_keyiterator.__iter__") (by kernel_rfl) rfl (by decide +kernel) (by kernel_rfl)
theorem wG (a:Value):argsOk "set_iterator.__iter__" ⟨[a],[]⟩:=by unfold argsOk;kernel_rfl
section
variable {P:Program} {w:World} {A:Around} {E:Value->Shared->Prop} {s:Shared}
theorem mW {I:Addr} {Q:Value->Shared->Prop} (hT:s.TypeIs (.ref I) "set_iterator") (h:Q (.ref I) s):wpAny (model P w) A (pyIter (.ref I)) Q E s:=by
 refine wpAny_pyIter_slot hT qb (wpAny_call_entry qb hT vq ?_ (wG _))
 exact wpAny_pure ⟨_,rfl,"set_iterator",_,hT,cN.lookup,h⟩
abbrev Es (out:List (Int×Value)):Nat->Value->Prop:=fun i v=>out[i]?.map (·.2)=some v
theorem wR {I a:Addr} {o:Obj} {es:Array (Int×Value)} {ep:Nat} {t:SetTable} {out:List (Int×Value)} {sl:Nat->Nat} (hh:A.handled=none) (ne:a≠I) (hd:o.data=.set es ep t) (hf:t.fits es.size=true)
 (nx:∀ {A:Around} {E:Value->Shared->Prop} (i:Nat) (s:Shared) (Q:Option (Value×Nat)->Shared->Prop),i≤out.length->s.heap.get? a=some o->Q (out[i]?.map fun e=>(e.2,sl (i+1))) s->wpAny (model P w) A (setNext a (sl i) i ep) Q E s) :
 Walks P w A I [I,a] [I] out.length (Es out) (fun i h=>h.get? I=some (zA (.int (sl i) 0) i a es.size ep)/\h.get? a=some o) where
 sub:=fun b q=>by simp at q;simp [q]
 frame:=fun _ _ _ st k=>⟨k I (by simp) _ st.1,k a (by simp) _ st.2⟩
 item:=fun i s Q E hi st q=>by
  refine Ik (x:=out[i].2) (nx:=sl (i+1)) st.1 st.2 hd hf (fun Q' z=>nx i s Q' (Nat.le_of_lt hi) st.2 (by rw [List.getElem?_eq_getElem hi];exact z)) fun h' e sb=>?_
  exact q _ h' s.toks (by simp [Es,hi]) ⟨e,by rw [sb.2 a ne];exact st.2⟩ fun b u hb eb=>by rw [sb.2 b (fun z=>hb (by simp [z]))];exact eb
 done:=fun s Q E st q=>K8 hh st.1 st.2 hd hf (fun Q' z=>nx _ s Q' (Nat.le_refl _) st.2 (by rw [List.getElem?_eq_none (Nat.le_refl _)];exact z)) fun h' eb=>q h' s.toks fun b u hb e=>eb b u (fun z=>hb (by simp [z])) e
 self:=fun _ _ _ _ st q=>mW ⟨_,st.1,rfl⟩ q
theorem Bj {I a T:Addr} {o oT:Obj} {es:Array (Int×Value)} {ep c:Nat} {t:SetTable} {ps:List Nat} {out:List (Int×Value)} (hh:A.handled=none) (ne:a≠I) (neT:T≠I) (hd:o.data=.set es ep t) (hf:t.fits es.size=true)
 (hT:oT.data=.seq (ps.map fun i:Nat=>rawInt i).toArray c) (hz:out.length=ps.length) (hp:∀ i p:Nat,ps[i]?=some p->es[p]?=out[i]?) :
 Walks P w A I [I,a,T] [I] out.length (Es out) (fun i h=>h.get? I=some (zA (.ref T) i a es.size ep)/\h.get? a=some o/\h.get? T=some oT) where
 sub:=fun b q=>by simp at q;simp [q]
 frame:=fun _ _ _ st k=>⟨k I (by simp) _ st.1,k a (by simp) _ st.2.1,k T (by simp) _ st.2.2⟩
 item:=fun i s Q E hi st q=>by
  have hi':i<ps.length:=by rw [← hz];exact hi
  refine JH (p:=ps[i]) (x:=out[i].2) (h0:=out[i].1) st.1 st.2.1 hd hf st.2.2 hT (by simp [hi',rawInt]) (by rw [hp i _ (List.getElem?_eq_getElem hi'),List.getElem?_eq_getElem hi]) fun h' e sb=>?_
  exact q _ h' s.toks (by simp [Es,hi]) ⟨e,by rw [sb.2 a ne];exact st.2.1,by rw [sb.2 T neT];exact st.2.2⟩ fun b u hb eb=>by rw [sb.2 b (fun z=>hb (by simp [z]))];exact eb
 done:=fun s Q E st q=>Do hh st.1 st.2.1 hd hf st.2.2 hT (by simp [hz]) fun h' eb=>q h' s.toks fun b u hb e=>eb b u (fun z=>hb (by simp [z])) e
 self:=fun _ _ _ _ st q=>mW ⟨_,st.1,rfl⟩ q
theorem BR {a:Addr} {ns:List Int} {Q:Value->Shared->Prop} (g:iQ P w s.heap a ns)
 (h:∀ (s':Shared) (I:Addr) (fp:List Addr) (out:List (Int×Value)) (St:Nat->Heap->Prop),s'.os=s.os->s'.gens=s.gens->s'.toks=s.toks->(∀ b o,s.heap.get? b=some o->s'.heap.get? b=some o)->(∀ b∈fp,b<s'.heap.objs.size/\(s.heap.objs.size≤b∨b=a))->(∀ A:Around,A.handled=none->Walks P w A I fp [I] out.length (Es out) St)->St 0 s'.heap->
  s.heap.objs.size≤I->(∀ e∈out,∃ k t,e.2=.int k t)->(out.map fun e=>numOf e.2).Perm ns->Q (.ref I) s'):wpAny (model P w) A (pyIter (.ref a)) Q E s:=by
 obtain ⟨o,es,ep,t,ho,hex,hd,hel,hp,hb,hf,tg⟩:=g
 have hT:s.TypeIs (.ref a) "set":=⟨o,ho,hex.1⟩
 have la:=Heap.lt_size ho
 have ia:∀ out:List (Int×Value),out.Perm es.toList->(∀ e∈out,∃ k t,e.2=.int k t)/\(out.map fun e=>numOf e.2).Perm ns:=fun out q=>
  ⟨fun e he=>by
   obtain ⟨⟨k,hk,_⟩,_⟩:=hel e (q.mem_iff.mp he)
   obtain ⟨t,e⟩:=Value.isInt_shape hk
   exact ⟨k,t,e⟩,(q.map _).trans hp⟩
 refine wpAny_pyIter_slot hT PySem.F.slot_set_iter (wpAny_call_entry PySem.F.slot_set_iter hT mF ?_ (PySem.F.args_set_iter_1 _))
 unfold Builtin.«frozenset.__iter__»
 refine wpAny_bind (m:=Builtin.Frozenset.slot0 "__iter__" _) (wpAny_of_eq (a:=a) rfl ?_)
 refine wpAny_bind (m:=Builtin.Frozenset.sizeOf a) (wpAny_bind (wpAny_setEntries_of ho hd hf (wpAny_pure ?_)))
 unfold setDrawn
 refine wpAny_bind (wpAny_bind (wpAny_setState_of ho hd hf ?_))
 dsimp only
 refine wpAny_bind (gA ?_)
 refine wpAny_pure ?_
 split
 ·rename_i q
  refine wpAny_bind (nG es.size (List.range es.size) _ (by simp) fun ys d hy=>?_)
  have hl:ys.length=es.size:=by rw [hy.length_eq,List.length_range]
  refine wpAny_bind (wpAny_newTuple ?_ (by rw [List.length_map,hl];exact fits_of_scanBound hb))
  have h1:(s.heap.push { cls:=.type "tuple",data:=.seq (ys.map fun i:Nat=>rawInt i).toArray }).get? s.heap.objs.size=some { cls:=.type "tuple",data:=.seq (ys.map fun i:Nat=>rawInt i).toArray }:=Heap.get?_push_size _ rfl
  have k1:=fun (b:Addr) (u:Obj) (e:s.heap.get? b=some u)=>Heap.get?_push_of_some { cls:=.type "tuple",data:=.seq (ys.map fun i:Nat=>rawInt i).toArray } e
  have z1:(s.heap.push { cls:=.type "tuple",data:=.seq (ys.map fun i:Nat=>rawInt i).toArray }).objs.size=s.heap.objs.size+1:=Heap.size_push ..
  generalize (s.heap.push { cls:=.type "tuple",data:=.seq (ys.map fun i:Nat=>rawInt i).toArray })=h2 at h1 k1 z1 ⊢
  refine wpAny_bind (wpAny_setEpoch_of (k1 _ _ ho) hd hf ?_)
  refine wpAny_bind (wpAny_newObj_type (wpAny_pure ⟨_,rfl,"set_iterator",_,⟨_,Heap.get?_push_size _ rfl,rfl⟩,cN.lookup,?_⟩))
  have hp2:(ys.map fun i=>(es[i]?).getD default).Perm es.toList:=by
   refine (hy.map _).trans (List.Perm.of_eq (List.ext_getElem (by simp) fun i q1 q2=>?_))
   have q3:i<es.size:=by simpa using q2
   simp [q3]
  obtain ⟨i1,i2⟩:=ia _ hp2
  refine h _ h2.objs.size [h2.objs.size,a,s.heap.objs.size] (ys.map fun i=>(es[i]?).getD default) _ rfl rfl rfl (fun b u e=>Heap.get?_push_of_some _ (k1 b u e)) ?_ (fun A' hh=>Bj (ps:=ys) hh (by rw [z1];exact Nat.ne_of_lt (Nat.lt_succ_of_lt la)) (by rw [z1];exact Nat.ne_of_lt (Nat.lt_succ_self _)) hd hf rfl (by simp) ?_) ⟨Heap.get?_push_size _ rfl,Heap.get?_push_of_some _ (k1 _ _ ho),Heap.get?_push_of_some _ h1⟩ (by rw [z1];exact Nat.le_succ _) i1 i2
  ·intro b hb
   rw [Heap.size_push,z1]
   simp only [List.mem_cons,List.not_mem_nil,or_false] at hb
   rcases hb with rfl|rfl|rfl
   ·exact ⟨by rw [z1];exact Nat.lt_succ_self _,.inl (by rw [z1];exact Nat.le_succ _)⟩
   ·exact ⟨Nat.lt_succ_of_lt (Nat.lt_succ_of_lt la),.inr rfl⟩
   ·exact ⟨Nat.lt_succ_of_lt (Nat.lt_succ_self _),.inl (Nat.le_refl _)⟩
  ·intro i p e
   rw [List.getElem?_map,e]
   have hm:p∈List.range es.size:=hy.mem_iff.mp (List.mem_of_getElem? e)
   have hp3:p<es.size:=List.mem_range.mp hm
   simp [hp3]
 ·rename_i q
  refine wpAny_bind (wpAny_pure ?_)
  refine wpAny_bind (wpAny_setEpoch_of ho hd hf ?_)
  refine wpAny_bind (wpAny_newObj_type (wpAny_pure ⟨_,rfl,"set_iterator",_,⟨_,Heap.get?_push_size _ rfl,rfl⟩,cN.lookup,?_⟩))
  have q':(!qz w && (!t.plain && decide (es.size > 1)))=false:=by simpa using (show ¬ (!qz w && (!t.plain && decide (es.size > 1)))=true from q)
  have fpk:∀ b∈[s.heap.objs.size,a],b<(s.heap.push (zA (rawInt 0) 0 a es.size ep)).objs.size/\(s.heap.objs.size≤b∨b=a):=fun b hb=>by
   rw [Heap.size_push]
   simp only [List.mem_cons,List.not_mem_nil,or_false] at hb
   rcases hb with rfl|rfl
   ·exact ⟨Nat.lt_succ_self _,.inl (Nat.le_refl _)⟩
   ·exact ⟨Nat.lt_succ_of_lt la,.inr rfl⟩
  cases hbt:qz w with
  | false=>
    rw [hbt] at q' tg
    obtain ⟨i1,i2⟩:=ia es.toList (.refl _)
    exact h _ s.heap.objs.size [s.heap.objs.size,a] es.toList _ rfl rfl rfl (fun b u e=>Heap.get?_push_of_some _ e) fpk
     (fun A' hh=>wR (sl:=slotAt t.place) hh (Nat.ne_of_lt la) hd hf fun i s1 Q1 hi e z=>Ir e hd hf tg.rise hbt (by simpa using q') tg.led (by simpa using hi) (by simpa using z))
     ⟨Heap.get?_push_size _ rfl,Heap.get?_push_of_some _ ho⟩ (Nat.le_refl _) i1 i2
  | true=>
    obtain ⟨i1,i2⟩:=ia _ (uU (w.params.setOrder a ep) es)
    exact h _ s.heap.objs.size [s.heap.objs.size,a] (pickOrder (w.params.setOrder a ep) es).toList _ rfl rfl rfl (fun b u e=>Heap.get?_push_of_some _ e) fpk
     (fun A' hh=>wR (sl:=fun _=>0) hh (Nat.ne_of_lt la) hd hf fun i s1 Q1 hi e z=>nextT e hd hf hbt (by simpa using z))
     ⟨Heap.get?_push_size _ rfl,Heap.get?_push_of_some _ ho⟩ (Nat.le_refl _) i1 i2
end
theorem zV:typeLookup (.type "set") "__len__" = pure (some (.builtin "set.__len__")):=by rw [typeLookup_type,builtinLookup_eq_fast];kernel_rfl
theorem sZ {out:List (Int×Value)} {acc:Array Value} (hi:∀ e∈out,∃ k t,e.2=.int k t) (h:PySem.ItemsOf (Es out) acc out.length):IntsAre acc.toList (out.map fun e=>numOf e.2):=by
 have e:acc.toList=out.map (·.2):=by
  refine List.ext_getElem (by rw [Array.length_toList,List.length_map];exact h.1) fun i q1 q2=>?_
  have q3:i<out.length:=by simpa using q2
  have q4:i<acc.size:=by simpa using q1
  have:=h.2 i acc[i] (by simp [q4])
  simp only [Es,List.getElem?_eq_getElem q3,Option.map_some,Option.some.injEq] at this
  simp [← this]
 rw [e]
 clear e h
 induction out with
 |nil=>exact .nil
 | cons x r ih=>
   obtain ⟨k,t,e⟩:=hi x (List.mem_cons_self ..)
   simp only [List.map_cons,e]
   exact .cons k t (ih fun y hy=>hi y (List.mem_cons_of_mem _ hy))
section
variable {P:Program} {w:World} {A:Around} {E:Value->Shared->Prop} {s:Shared}
theorem vC {a:Addr} {ns:List Int} {Q:List Value->Shared->Prop} (hh:A.handled=none) (g:iQ P w s.heap a ns) (hz:ns.length≤1000)
 (hQ:∀ s' vs ms,s'.os=s.os->s'.gens=s.gens->s.heap.objs.size≤s'.heap.objs.size->(∀ b o,s.heap.get? b=some o->s'.heap.get? b=some o)->IntsAre vs ms->ms.Perm ns->Q vs s'):wpAny (model P w) A (collect (.ref a)) Q E s:=by
 have la:a<s.heap.objs.size:=by
  obtain ⟨o,es,ep,t,ho,_⟩:=g
  exact Heap.lt_size ho
 have ty:∀ {s':Shared},iQ P w s'.heap a ns->s'.TypeIs (.ref a) "set":=fun g=>by
  obtain ⟨o,es,ep,t,ho,hex,_⟩:=g
  exact ⟨o,ho,hex.1⟩
 unfold collect
 refine wpAny_bind (wpAny_runValue (codeAny_builtin PySem.F.entry_proto_collect ?_))
 rw [Around.under_plainId PySem.F.plain_proto_collect _]
 refine wpAny_bind (m:=newList []) (wpAny_newObj_type ?_)
 refine wpAny_pure ⟨plainId_quiet PySem.F.plain_list_iadd _,codeAny_builtin PySem.F.entry_list_iadd ?_⟩
 rw [Around.under_plainId PySem.F.plain_list_iadd _]
 show wpAny _ A.in1 (Builtin.List.listExtendWith (.ref s.heap.objs.size) (.ref a) (.ref s.heap.objs.size)) _ _ _
 have hS₁:(s.heap.push { cls:=.type "list",data:=.seq ([]:List Value).toArray }).get? s.heap.objs.size=some { cls:=.type "list",data:=.seq ([]:List Value).toArray }:=Heap.get?_push_size _ rfl
 have k₁:∀ b o,s.heap.get? b=some o->(s.heap.push { cls:=.type "list",data:=.seq ([]:List Value).toArray }).get? b=some o:=fun b o e=>Heap.get?_push_of_some _ e
 have z₁:(s.heap.push { cls:=.type "list",data:=.seq ([]:List Value).toArray }).objs.size=s.heap.objs.size+1:=by rw [Heap.size_push]
 generalize (s.heap.push { cls:=.type "list",data:=.seq ([]:List Value).toArray })=H₁ at hS₁ k₁ z₁ ⊢
 have g₁:iQ P w H₁ a ns:=g.at fun o e=>k₁ _ _ e
 unfold Builtin.List.listExtendWith
 refine wpAny_bind (wpAny_typeOf (s:={ s with heap:=H₁ }) (ty g₁) ?_)
 have h1:Builtin.List.listSameRef (.ref s.heap.objs.size) (.ref a)=false:=by simp [Builtin.List.listSameRef,Nat.ne_of_gt la]
 have h2:(Value.type "set" == Value.type "list")=false:=by decide
 have h3:(Value.type "set" == Value.type "tuple")=false:=by decide
 simp only [h1,h2,h3,Bool.or_false,Bool.false_eq_true,if_false]
 refine wpAny_bind (BR (s:={ s with heap:=H₁ }) g₁ fun s₂ I fp out St e1 e2 e3 k₂ fpk W st lI hi hp=>?_)
 have g₂:iQ P w s₂.heap a ns:=g₁.at fun o e=>k₂ _ _ e
 refine wpAny_bind (wpAny_holding ?_)
 unfold Builtin.List.listLengthHint
 refine wpAny_bind (wpAny_specialOf (ty g₂) zV ?_)
 wp_delta
 refine wpAny_bind (wpAny_isInstance (b:=true) (ty g₂) (by rw [isSubtype_type];kernel_rfl) ?_)
 refine wpAny_bind (m:=typeOf (Value.ref a)) (wpAny_typeOf (ty g₂) ?_)
 refine wpAny_pure ?_
 show wpAny _ A.in1 (rule "list.extend.makes-room" >>= fun _=>Builtin.List.listTouch (.ref s.heap.objs.size) >>= fun _=>
  again (.builtin "list.extend.loop" ⟨[.ref s.heap.objs.size,.ref I,.ref s.heap.objs.size],[]⟩)) _ _ _
 refine wpAny_bind (wpAny_rule (wpAny_bind ?_))
 show wpAny _ A.in1 (updateSeq s.heap.objs.size (·.push .none) >>= fun _=>updateSeq s.heap.objs.size (·.pop)) _ _ _
 have hS₂:=k₂ _ _ hS₁
 refine wpAny_bind (wpAny_updateSeq hS₂ rfl ?_)
 have hS₃:=Heap.get?_update_self (Obj.mapSeq (·.push Value.none)) hS₂ rfl
 refine wpAny_updateSeq hS₃ rfl ?_
 have hS₄:=Heap.get?_update_self (Obj.mapSeq (·.pop)) hS₃ rfl
 have oth:∀ b o,b≠s.heap.objs.size->s₂.heap.get? b=some o->((s₂.heap.update s.heap.objs.size (Obj.mapSeq (·.push Value.none))).update s.heap.objs.size (Obj.mapSeq (·.pop))).get? b=some o:=
  fun b o hb e=>(Heap.get?_update_other _ _ (Ne.symm hb)).trans ((Heap.get?_update_other _ _ (Ne.symm hb)).trans e)
 dsimp only at hS₄ oth ⊢
 generalize ((s₂.heap.update s.heap.objs.size (Obj.mapSeq (·.push Value.none))).update s.heap.objs.size (Obj.mapSeq (·.pop)))=H₄ at hS₄ oth ⊢
 have nf:s.heap.objs.size∉fp:=fun q=>by
  rcases (fpk _ q).2 with z|z
  ·dsimp only at z
   rw [z₁] at z
   exact absurd z (Nat.not_le_of_lt (Nat.lt_succ_self _))
  ·exact absurd z (Nat.ne_of_gt la)
 have hlen:out.length≤1000:=by rw [← List.length_map (f:=fun e:Int×Value=>numOf e.2),hp.length_eq];exact hz
 have W1:=W A.in1 (by simp [hh])
 refine wpAny_pure ⟨plainId_quiet PySem.F.plain_extend_loop _,codeAny_extend_loopS W1.toS (Nat.le_trans hlen (by decide)) s.heap.objs.size nf (.ref s.heap.objs.size) _ 0 { s₂ with heap:=H₄ } #[] 2 rfl (Nat.zero_le _) (W1.frame 0 _ _ st fun b q o e=>oth b o (fun z=>nf (z ▸ q)) e) hS₄ (PySem.ItemsOf.nil _) fun s' acc c mv e it=>?_⟩
 dsimp only
 refine wpAny_bind (wpAny_load e ?_)
 refine wpAny_pure (hQ s' acc.toList _ (mv.os.trans e1) (Eq.trans mv.gens e2) (Nat.le_of_lt (Heap.lt_size e)) (fun b o eb=>?_) (sZ hi it) hp)
 have lb:=Heap.lt_size eb
 refine mv.heap b o ?_ (oth _ _ (Nat.ne_of_lt lb) (k₂ _ _ (k₁ _ _ eb)))
 simp only [List.mem_cons,List.not_mem_nil,or_false,not_or]
 refine ⟨Nat.ne_of_lt lb,Nat.ne_of_lt (Nat.lt_of_lt_of_le lb (Nat.le_trans ?_ lI))⟩
 dsimp only
 rw [z₁]
 exact Nat.le_succ _
theorem wV {a:Addr} {ns:List Int} {Q:Value->Shared->Prop} (hh:A.handled=none) (g:iQ P w s.heap a ns) (hz:ns.length<64)
 (hQ:∀ s' l c vs ms,s'.os=s.os->s'.gens=s.gens->s.heap.objs.size≤l->(∀ b o,s.heap.get? b=some o->s'.heap.get? b=some o)->s'.heap.get? l=some (seqObj "list" vs c)->IntsAre vs.toList ms->ms.Perm ns->ms.Pairwise (·≤·)->Q (.ref l) s'):wpAny (model P w) A (call (.builtin "sorted") [.ref a]) Q E s:=by
 refine Calls.call_function_entry kind_sorted plain_sorted entry_sorted (args_sorted1 _) ?_
 unfold Builtin.«sorted»
 refine wpAny_bind (m:=checkCount "sorted" 1 1 _) (wpAny_pure ?_)
 refine wpAny_bind (vC (by simp [hh]) g (by omega) fun s₁ vs ms e1 e2 le k hi hp=>?_)
 have hl:vs.length<64:=by rw [hi.length,hp.length_eq];exact hz
 refine wpAny_bind (wpAny_newList ?_ (Nat.le_trans (Nat.le_of_lt hl) (by decide)))
 have hoL:(s₁.heap.push (seqObj "list" vs.toArray 0)).get? s₁.heap.objs.size=some (seqObj "list" vs.toArray 0):=Heap.get?_push_size _ rfl
 show wpAny _ _ _ _ _ { s₁ with heap:=s₁.heap.push (seqObj "list" vs.toArray 0) }
 refine wpAny_bind (wpAny_holding (wpAny_call_entry slot_list_sort ⟨_,hoL,rfl⟩ entry_list_sort (list_sort_tree hoL hi hl fun out ns' a1 a2 a3=>⟨_,rfl,?_⟩) (args_list_sort _)))
 obtain ⟨c,ec⟩:=sortedHeap_at (vs:=vs) (out:=out) hoL
 refine wpAny_pure ⟨_,rfl,hQ _ _ c out ns' e1 e2 le (fun b o e=>?_) ec a1 (a2.trans hp) a3⟩
 have lb:=Nat.lt_of_lt_of_le (Heap.lt_size e) le
 rw [sortedHeap_old (Nat.ne_of_lt lb) (by rw [Heap.size_push];exact Nat.lt_succ_of_lt lb)]
 exact Heap.get?_push_of_some _ (k _ _ e)
end
def setG (P:Program) (w:World) (a:Addr) (ns:List Int):HO:=.ext fun h=>iQ P w h a ns
theorem uA {P:Program} {w:World} {H:Hp} {h:Heap} {a:Addr} {ns:List Int} (x:iQ P w h a ns):cg P w H h a (setG P w a ns):=by
 refine ⟨x,?_,fun h1 h2 z k=>z.at fun o e=>k _ e⟩
 obtain ⟨o,es,ep,t,e,_⟩:=x
 exact ⟨o,e⟩
section
variable {X:Cx} {Z:List (Addr×Obj)} {U:List (Option V)} {H:Hp} {s:Shared}
theorem Inv.dr (I:Inv X Z U H s) (d:Drawn):Inv X Z U H { s with drawn:=d }:=⟨I.ok,I.os,I.bare,I.base,I.loc,I.cell,I.free,I.freeC,I.pin,I.hok,I.len⟩
theorem oJ (hc:X.calm=true):dG X (.builtin "sorted") (fun xs H Q=>∃ (a:Addr) (ns:List Int),xs=[.ref a]/\H a=some (setG X.prog X.w a ns)/\ns.length<64/\∀ (ms:List Int) l,ms.Perm ns->ms.Pairwise (·≤·)->H l=none->Q (.ref l) (upd H l (.lst (ms.map V.int)))):=by
 intro Z s U H xs us Q I r h
 obtain ⟨a,ns,rfl,ha,hl,q⟩:=h
 obtain ⟨u,rfl,ru⟩:=vals1 r
 cases (show u=Value.ref a from ru)
 refine wV (I.ok.hd hc) (I.hok a _ ha).1 hl fun s' l c vs ms e1 e2 le k e hi hp hs=>?_
 obtain ⟨h',g',d',tk',os'⟩:=s'
 dsimp only at e1 e2 k e
 subst e1;subst e2
 have lz:(ms.map V.int).length≤sizeLine:=by rw [List.length_map,hp.length_eq];exact Nat.le_trans (Nat.le_of_lt hl) (by decide)
 exact ⟨.ref l,_,(I.laid (t':=tk') k le (show cg X.prog X.w _ _ _ (.lst (ms.map V.int)) from ⟨lz,vs.toList,c,jh hi,by simpa using e⟩)).dr d',rfl,q ms l hp hs (I.hok.fresh le)⟩
end
section
variable {X:Cx}
end
end L2
namespace L2
open PySem PySem.Spec PyProof.Rows PySem.SeqAt PySem.W
section
variable {n:Nat} {rk:Nat->Int} {cmp:Nat->Nat->(Bool->Shared->Prop)->Shared->Prop} {s:Shared}
end
section
variable {prog:Program} {w:World} {A:Around} {E:Value->Shared->Prop} {s:Shared}
end
section
variable {X:Cx}
end
section
variable {P:Program} {w:World} {K:Frag} {mg:Str->Option Value} {base:Heap} {N:List Str} {qual pn:Str} {scope:Scope} {f:Addr} {cl:List (Str×Addr)} {A:Around} {outer:List Env} {s:Shared} {H:Hp} {E:XK}
end
section
variable {X:Cx}
end
section
variable {prog:Program} {w:World} {A:Around} {E:Value->Shared->Prop} {s:Shared}
end
section
variable {X:Cx} {K:Frag}
end
end L2
namespace L2
open PySem PySem.Spec PyProof.Rows
theorem pq (elt target iter:Expr) (ifs:List Expr) (scope:Scope) (pos:Pos) (it acc:Value) (env:Env) :
 compTurn (.SetComp elt [⟨target,iter,ifs,0⟩] scope pos) 0 it acc env=(do
  standAt iter.pos
  match ← pyNext it with
  |none=>pure (.done .next)
  | some v=>
    letOwnedTupleGo target it v
    assign target env v
    let mut ok:=true
    for c in ifs do
     if ok then ok ← isTrue c env (eval c env)
    if ok then
     (do
      let v ← eval elt env
      standAt elt.pos
      let _ ← call (.builtin "set.add") [acc,v])
    again (.compLoop (.SetComp elt [⟨target,iter,ifs,0⟩] scope pos) 0 it acc env)):=by rfl
theorem gZ {prog:Program} {w:World} {A:Around} {R:Result->Shared->Prop} {s:Shared} {elt target iter ifs rest scope pos it acc env}
 (h0:codeAny (model prog w) A (.compLoop (.SetComp elt (⟨target,iter,ifs,0⟩::rest) scope pos) 0 it acc env) R s)
 (h:wpAny (model prog w) A (pyIter it) (fun it' s'=>codeAny (model prog w) A (.compLoop (.SetComp elt (⟨target,iter,ifs,0⟩::rest) scope pos) 0 it' acc env) R s')
  (notedBy (model prog w) A env fun x s'=>R (.error x) s') s) :
 codeAny (model prog w) A (.compStart (.SetComp elt (⟨target,iter,ifs,0⟩::rest) scope pos) 0 it acc env) R s:=by
 refine codeAny_of_tree ?_
 show wpAny _ _ ((compStart (.SetComp elt (⟨target,iter,ifs,0⟩::rest) scope pos) 0 it acc env).onRaise (fun x=>do noteFrame x env;standAt theWindowsPlace)) _ _ s
 refine wpAny_notedAt ?_
 unfold compStart
 show wpAny _ _ (ask >>= _) _ _ s
 refine wpAny_bind (wpAny_askSetting (wpAny_ite ?_))
 split
 ·first
   |exact wpAny_bind (wpAny_pure (wpAny_pure (And.intro rfl h0)))
   |exact wpAny_pure (And.intro rfl h0)
 ·first
   |exact wpAny_bind (wpAny_rule (wpAny_bind (wpAny_standAt (wpAny_bind (wpAny_mono h (fun it' s' h'=>wpAny_pure (And.intro rfl h')) fun _ _ x=>x)))))
   |(refine wpAny_bind (wpAny_rule ?_);show wpAny _ _ (standAt iter.pos >>= _) _ _ s;exact wpAny_bind (wpAny_standAt (wpAny_bind (wpAny_mono h (fun it' s' h'=>wpAny_pure (And.intro rfl h')) fun _ _ x=>x))))
theorem rO {P:Program} {w:World} {A:Around} {E:Value->Shared->Prop} {s:Shared} {a:Addr} {ns:List Int} {k:Int} {tk:Tok} {Q:Value->Shared->Prop} (hS:iQ P w s.heap a ns) (hr:ns.length+1<scanBound) (h:∀ h',Heap.SameBut a s.heap h'->iQ P w h' a (adj ns k)->Q .none { s with heap:=h',toks:=s.toks+1 }):wpAny (model P w) A (call (.builtin "set.add") [.ref a,.int k tk]) Q E s:=by
 have hT:s.TypeIs (.ref a) "set":=by
  obtain ⟨o,es,ep,t,ho,hex,_⟩:=hS
  exact ⟨o,ho,hex.1⟩
 refine wpAny_call_entry PySem.F.slot_set_add hT PySem.F.entry_set_add ?_ (PySem.F.args_set_add_2 _ _)
 unfold Builtin.«set.add» Builtin.Frozenset.oneOther
 simp only [List.isEmpty_nil,bind_assoc]
 unfold Builtin.Frozenset.addrOf setAdd
 refine wpAny_bind (wpAny_pure ?_)
 try dsimp only
 refine wpAny_bind (wpAny_pure ?_)
 try dsimp only
 refine wpAny_bind ?_
 refine wpAny_holding ?_
 refine wpAny_bind ((intKind P w).pyHash (k:=k) (intKind_is _ _ _ _) ?_)
 refine Iv (s:={ s with toks:=s.toks+1 }) hS hr fun b h' sb g=>?_
 show wpAny _ _ (ret Value.none) _ _ _
 exact wpAny_pure ⟨_,rfl,h h' sb g⟩
theorem yh {X:Cx} {Z:List (Addr×Obj)} {U:St} {H:Hp} {s:Shared} {a:Addr} {k:Int} {u:Value} {A:Around} {E:Value->Shared->Prop} {ns:List Int} {Q:Value->Shared->Prop} (I:Inv X Z U H s) (e:H a=some (setG X.prog X.w a ns)) (l:ns.length+1<scanBound) (ry:RelV (.int k) u)
 (h:∀ s',Inv X Z U (upd H a (setG X.prog X.w a (adj ns k))) s'->Q .none s'):wpAny (model X.prog X.w) A (call (.builtin "set.add") [.ref a,u]) Q E s:=by
 obtain ⟨t,rfl⟩:=ry
 refine rO (I.hok a _ e).1 l fun h' hs g=>h _ ?_
 have ok:=uA (H:=upd H a (setG X.prog X.w a (adj ns k))) g
 exact kE I (by rw [e];exact True.intro) hs ok.2.1 ok
def uG (P:Program) (w:World) (J:It) (g:TG) (tt:TT) (te:TE) (acc:Addr) (F:Hp->Prop) (W:Nat->Nat->St->Hp->Prop):Prop:=
 ∀ i m U H,W i m U H->(J.stop i H/\F H)∨(J.go i H/\∀ x H1,J.yld i H x H1->g x U H1 fun σ2 H2=>tt σ2 H2 fun b H3=>
   if b=true then te σ2 H3 fun y H4=>∃ ns k,H4 acc=some (setG P w acc ns)/\y=.int k/\ns.length+1<scanBound/\∃ m',m'<m/\W (i+1) m' σ2 (upd H4 acc (setG P w acc (adj ns k))) else ∃ m',m'<m/\W (i+1) m' σ2 H3)
theorem rH {X:Cx} {scope:Scope} {N':List Str} {cl:List (Str×Addr)} {C acc it:Addr} {s₂:Shared} {H₂:Hp} {fp:List Addr} {tn:Nat->Heap->Prop} {J:It} {g:TG} {tt:TT} {te:TE} {F:Hp->Prop}
 {elt tg iter:Expr} {ifs:List Expr} {pos:Pos} {R:Result->Shared->Prop} (W:Nat->Nat->St->Hp->Prop) (turn:uG X.prog X.w J g tt te acc F W) (T:Turn X.prog X.w X.K tg J fp it tn)
 (hg:PG (aJ X scope N' cl C s₂ H₂ fp) tg g) (hc:iR (aJ X scope N' cl C s₂ H₂ fp) ifs tt) (he:PE (aJ X scope N' cl C s₂ H₂ fp) elt te) (hcalm:X.calm=true)
 (hfp:∀ b∈fp,b≠C/\b∉frs X.stack/\(∀ x c,cl.lookup x=some c->c≠b))
 (hR:∀ s' σ' H',Inv (aJ X scope N' cl C s₂ H₂ fp) [] σ' H' s'->F H'->R (.ok .next) s')
 {s:Shared} {U:St} {H:Hp} {m:Nat} (I:Inv (aJ X scope N' cl C s₂ H₂ fp) [] U H s) (st:tn 0 s.heap) (fr:∀ b∈fp,H b=none) (w0:W 0 m U H) :
 codeAny (model X.prog X.w) X.A (.compLoop (.SetComp elt [⟨tg,iter,ifs,0⟩] scope pos) 0 (.ref it) (.ref acc) (compEnvC scope cl C X.env)) R s:=by
 refine codeAny_loop rfl (fun n s'=>∃ i σ' H',Inv (aJ X scope N' cl C s₂ H₂ fp) [] σ' H' s'/\tn i s'.heap/\(∀ b∈fp,H' b=none)/\W i n σ' H') (fun n s3 hI=>?_) m ⟨0,U,H,I,st,fr,w0⟩
 obtain ⟨i,σ3,H3,I3,st3,fr3,w3⟩:=hI
 show wpAny _ X.A ((compTurn (.SetComp elt [⟨tg,iter,ifs,0⟩] scope pos) 0 (.ref it) (.ref acc) (compEnvC scope cl C X.env)).onRaise (fun x=>do noteFrame x (compEnvC scope cl C X.env);theTreesLotGoes x)) _ _ s3
 refine wpAny_noted ?_
 rw [pq]
 have fpk:∀ {H':Hp},(∀ b∈fp,H' b=none)->∀ b∈fp,gh (aJ X scope N' cl C s₂ H₂ fp) [] H' b:=fun hn b hb=>
  ⟨hn b hb,(hfp b hb).1,(hfp b hb).2.1,.inl hb,(hfp b hb).2.2,fun p hp'=>by
   have hp'':p∈([]:List (Addr×Obj))++[]:=hp'
   exact absurd hp'' (by simp)⟩
 have fp1:=fpk fr3
 refine wpAny_bind (wpAny_standAt (wpAny_bind ?_))
 rcases turn i n σ3 H3 w3 with ⟨stop,qn⟩|⟨go,step⟩
 ·refine wpAny_mono (T.done (aJ X scope N' cl C s₂ H₂ fp) rfl rfl rfl hcalm i _ s3 σ3 H3 (fun _ _=>False) I3 fp1 st3 stop) (fun r s4 ⟨hr,I4⟩=>?_) (fun _ _ z=>z.elim)
  subst hr
  exact wpAny_pure (hR s4 σ3 H3 I4 qn)
 ·refine wpAny_mono (T.item (aJ X scope N' cl C s₂ H₂ fp) rfl rfl rfl hcalm i _ s3 σ3 H3 (fun _ _=>False) I3 fp1 st3 go) (fun r s4 ⟨u,hr,h4⟩=>?_) (fun _ _ z=>z.elim)
  subst hr
  refine wpAny_bind (wpAny_mono h4 (fun _ s5 ⟨x,H5,I5,r5,y5,st5,fr5⟩=>?_) (fun _ _ z=>z.elim))
  have fp5:=fpk fr5
  have I5':=I5.pinned fp5 (T.obj _ _ st5)
  refine wpAny_bind (wpAny_mono (hg _ s5 σ3 H5 x u _ I5' r5 (step x H5 y5)) (fun _ s6 ⟨σ6,H6,I6,q6⟩=>?_) (fun _ _ z=>z.elim))
  refine wpAny_bind (wpAny_mono (hc _ s6 σ6 H6 _ I6 q6) (fun ok s7 ⟨H7,I7,q7⟩=>?_) (fun _ _ z=>z.elim))
  have again:∀ {s8:Shared} {σ8:St} {H8:Hp},Inv (aJ X scope N' cl C s₂ H₂ fp) ([]++gf fp s5.heap) σ8 H8 s8->tn (i+1) s8.heap/\∀ b∈fp,H8 b=none:=fun {s8 σ8 H8} I8=>
   ⟨T.keep _ _ _ st5 fun b hb o e=>(I8.pin (b,o) (List.mem_append_right _ (List.mem_append_right _ (cA hb e)))).1,fun b hb=>by
    obtain ⟨o,e,d⟩:=T.obj _ _ st5 b hb
    exact (I8.pin (b,o) (List.mem_append_right _ (List.mem_append_right _ (cA hb e)))).2.1⟩
  cases ok with
  | false=>
    rw [if_neg Bool.false_ne_true] at q7
    obtain ⟨m',hm,w7⟩:=q7
    obtain ⟨t1,t2⟩:=again I7
    exact wpAny_pure ⟨rfl,m',hm,i+1,σ6,H7,I7.unpinned,t1,t2,w7⟩
  | true=>
    rw [if_pos rfl] at q7
    refine wpAny_bind (wpAny_bind (wpAny_mono (he _ s7 σ6 H7 _ I7 q7) (fun y s8 ⟨yv,H8,I8,r8,ns,k,e8,ek,hl,m',hm,w8⟩=>?_) (fun _ _ z=>z.elim)))
    subst ek
    refine wpAny_bind (wpAny_standAt (wpAny_bind ?_))
    refine yh (X:=aJ X scope N' cl C s₂ H₂ fp) I8 e8 hl r8 fun s10 I10=>?_
    obtain ⟨t1,t2⟩:=again I10
    exact wpAny_pure (wpAny_pure ⟨rfl,m',hm,i+1,σ6,_,I10.unpinned,t1,t2,w8⟩)
def De (P:Program) (w:World) (wi:TI) (g:TG) (tt:TT) (te:TE) (k:Nat) (js:List Nat):TE:=fun U H Q=>wi U H fun J H1=>∀ acc,H1 acc=none->∃ W:Nat->Nat->St->Hp->Prop,(∃ m,W 0 m (dg k js U) (upd H1 acc (setG P w acc [])))/\
 uG P w J g tt te acc (fun H2=>Q (.ref acc) H2) W
section
variable {X:Cx} {scope:Scope} {own:List Str} {js:List Nat} {N':List Str} {wi:TI} {g:TG} {tt:TT} {te:TE} {elt tg iter:Expr} {ifs:List Expr} {pos:Pos}
theorem v5 {Z:List (Addr×Obj)} {U:St} {H:Hp} {s:Shared} {it:Addr} {fp:List Addr} {tn:Nat->Heap->Prop} {J:It} {cl:List (Str×Addr)} {F:Addr->Hp->Prop} {E:Value->Shared->Prop} {RR:Value->Addr->Result->Shared->Prop}
 (S:bu X scope own js N') (hcalm:X.calm=true) (hg:∀ cl C s₀ H₀ ex,PG (aJ X scope N' cl C s₀ H₀ ex) tg g) (hc:∀ cl C s₀ H₀ ex,iR (aJ X scope N' cl C s₀ H₀ ex) ifs tt) (he:∀ cl C s₀ H₀ ex,PE (aJ X scope N' cl C s₀ H₀ ex) elt te)
 (hc1:∀ x c,cl.lookup x=some c->X.env.cells.lookup x=some c) (hc2:∀ x,(x,NameKind.free)∈scope.names->∃ c,cl.lookup x=some c)
 (I:Inv X Z U H s) (T:Turn X.prog X.w X.K tg J fp it tn) (st:tn 0 s.heap) (hf:∀ b∈fp,gh X Z H b)
 (hW:∀ acc,H acc=none->∃ W:Nat->Nat->St->Hp->Prop,(∃ m,W 0 m (dg own.length js U) (upd H acc (setG X.prog X.w acc [])))/\uG X.prog X.w J g tt te acc (F acc) W)
 (fin:∀ acc C H' s' m,Inv X Z U H' s'->s'.heap.Ns C m->H' C=none->C≠X.env.locals->X.s₀.heap.objs.size≤C->(∀ x c,X.env.cells.lookup x=some c->c≠C)->(∀ p∈X.pn++Z,p.1≠C)->F acc H'->RR (.ref acc) C (.ok .next) s') :
 wpAny (model X.prog X.w) X.A (newSet (.type "set")) (fun acc s₃=>wpAny (model X.prog X.w) X.A (newFunctionEnv scope X.env.globals cl [] X.env.qual none .none (some X.env)) (fun cenv s₄=>
  codeAny (model X.prog X.w) X.A (.compStart (.SetComp elt [⟨tg,iter,ifs,0⟩] scope pos) 0 (.ref it) acc { cenv with scope:=relabel scope X.env }) (RR acc cenv.locals) s₄) E s₃) E s:=by
 unfold newSet
 refine wpAny_bind (gA ?_)
 refine wpAny_newObj_type (wpAny_newFunctionEnv S.nocell (by intro y hy;simp at hy) (fun h₁ hns₁ hsb₁=>?_) S.kind)
 dsimp only at hns₁ hsb₁ ⊢
 have hHA:H s.heap.objs.size=none:=I.hok.fresh (Nat.le_refl _)
 have IL:Inv X Z U (upd H s.heap.objs.size (setG X.prog X.w s.heap.objs.size [])) { s with heap:=s.heap.push (zx X.w),toks:=s.toks }:=I.laid (a:=s.heap.objs.size) (o:=setG X.prog X.w s.heap.objs.size []) (t':=s.toks) (fun _ _ q=>Heap.get?_push_of_some _ q) (Nat.le_refl _) (uA (Bo (Heap.get?_push_size _ rfl)))
 obtain ⟨W,⟨m0,w0⟩,turn⟩:=hW _ hHA
 have stL:tn 0 (s.heap.push (zx X.w)):=T.keep _ _ _ st fun b hb o e=>Heap.get?_push_of_some _ e
 have fpLt0:∀ b∈fp,b<s.heap.objs.size:=fun b hb=>by
  obtain ⟨o,e,_⟩:=T.obj _ _ st b hb
  exact Heap.lt_size e
 have hfL:∀ b∈fp,gh X Z (upd H s.heap.objs.size (setG X.prog X.w s.heap.objs.size [])) b:=fun b hb=>by
  obtain ⟨f0,f⟩:=hf b hb
  exact ⟨by rw [aF (Nat.ne_of_lt (fpLt0 b hb))];exact f0,f⟩
 generalize hH2:s.heap.push (zx X.w)=H2 at hns₁ hsb₁ IL stL ⊢
 have hC:H2.objs.size=s.heap.objs.size+1:=by rw [← hH2,Heap.size_push]
 generalize hHn:upd H s.heap.objs.size (setG X.prog X.w s.heap.objs.size [])=HL at IL hfL w0
 generalize hAn:s.heap.objs.size=acc at *
 have below:∀ b,b<H2.objs.size->b≠H2.objs.size:=fun b hb=>Nat.ne_of_lt hb
 have old:∀ b o,H2.get? b=some o->h₁.get? b=some o:=fun b o e=>hsb₁.extBut b o (below b (Heap.lt_size e)) (Heap.get?_push_of_some _ e)
 generalize hCn:H2.objs.size=C at *
 have cellLt:∀ x c,X.env.cells.lookup x=some c->c<C:=fun x c e=>by
  obtain ⟨v,q⟩:=IL.cell x c e
  rw [← hCn];exact q.lt
 have pinLt:∀ p∈X.pn++Z,p.1<C:=fun p hp=>by rw [← hCn];exact Heap.lt_size (IL.pin p hp).1
 have fpLt:∀ b∈fp,b<C:=fun b hb=>Nat.lt_of_lt_of_le (fpLt0 b hb) (by rw [hC];exact Nat.le_succ _)
 have hHC:HL C=none:=IL.hok.fresh (by show H2.objs.size≤C;rw [hCn];exact Nat.le_refl _)
 have I1:Inv (aJ X scope N' cl C { s with heap:=H2,toks:=s.toks } HL fp) [] (dg own.length js U) HL { s with heap:=h₁,toks:=s.toks+([]:List (Str×Value)).length }:=
  Inv.comp S IL hc1 hc2 (by show H2.objs.size≤C;rw [hCn];exact Nat.le_refl _) hns₁ old (fun b hb=>⟨hfL b hb,by show b<H2.objs.size;rw [hCn];exact fpLt b hb⟩) hHC fun b o e=>below b (by rw [← hCn];exact Heap.lt_size e)
 have st1:tn 0 h₁:=T.keep _ _ _ stL fun b hb o e=>old b o e
 have loop:∀ s₃:Shared,s₃={ s with heap:=h₁,toks:=s.toks+([]:List (Str×Value)).length }->
  codeAny (model X.prog X.w) X.A (.compLoop (.SetComp elt [⟨tg,iter,ifs,0⟩] scope pos) 0 (.ref it) (.ref acc) (compEnvC scope cl C X.env)) (RR (.ref acc) C) s₃:=by
  rintro s₃ rfl
  refine rH W turn T (hg _ _ _ _ _) (hc _ _ _ _ _) (he _ _ _ _ _) hcalm
   (fun b hb=>⟨below b (fpLt b hb),fun z=>?_,fun x c e z=>(hfL b hb).2.2.2.2.1 x c (hc1 x c e) z⟩) ?_ I1 st1 (fun b hb=>(hfL b hb).1) w0
  ·rcases List.mem_cons.mp (IL.stkSub b z) with q|q
   ·exact (hfL b hb).2.1 q
   ·exact (hfL b hb).2.2.1 q
  ·intro s' σ' H' J' q
   obtain ⟨m,hm,_⟩:=J'.loc
   have IX:Inv X Z U H' s':=IL.call' J'.os J'.base J'.hok J'.bare fun b hb=>⟨(hfL b hb).2.2.2.1,(hfL b hb).2.1,(hfL b hb).2.2.2.2.1,(hfL b hb).2.2.2.2.2⟩
   refine fin acc C H' s' m IX hm J'.free ?_ ?_ ?_ ?_ q
   ·exact Nat.ne_of_gt (Nat.lt_of_lt_of_le IL.lt (by show H2.objs.size≤C;rw [hCn];exact Nat.le_refl _))
   ·exact Nat.le_trans IL.sz (by show H2.objs.size≤C;rw [hCn];exact Nat.le_refl _)
   ·exact fun x c e z=>absurd (cellLt x c e) (by rw [z];exact Nat.lt_irrefl _)
   ·exact fun p hp z=>absurd (pinLt p hp) (by rw [z];exact Nat.lt_irrefl _)
 exact gZ (loop _ rfl) (T.self _ 0 _ _ _ st1 (loop _ rfl))
theorem xY (S:bu X scope own js N') (hcalm:X.calm=true) (hi:PI X tg iter wi) (hg:∀ cl C s₀ H₀ ex,PG (aJ X scope N' cl C s₀ H₀ ex) tg g) (hc:∀ cl C s₀ H₀ ex,iR (aJ X scope N' cl C s₀ H₀ ex) ifs tt)
 (he:∀ cl C s₀ H₀ ex,PE (aJ X scope N' cl C s₀ H₀ ex) elt te) (hs:∀ x,foldedSetIterable iter X.env x=pure x:=by intro _;rfl):PE X (.SetComp elt [⟨tg,iter,ifs,0⟩] scope pos) (De X.prog X.w wi g tt te own.length js):=by
 intro Z s U H Q I h
 obtain ⟨cl,hcl,hc1,hc2⟩:=gM (env:=X.env) scope fun y hy hk=>I.ok.has y.1 (S.free y hy hk)
 show wpAny _ X.A (comprehension (.SetComp elt [⟨tg,iter,ifs,0⟩] scope pos) scope X.env _ (newSet (.type "set")) false (eval iter X.env)) _ _ s
 refine wpAny_comprehension_free (use:=none) rfl hs hcl S.kind S.names (bU (hi Z s U H _ I h) fun v s1 h1=>bU h1 fun itv s2 h2=>?_)
 obtain ⟨it,fp,tn,J,H2,e,I2,T,st2,f2,hW⟩:=h2
 subst e
 refine v5 (RR:=fun acc C=>compPost (model X.prog X.w) X.A X.xe none (EP X Z U Q) acc C) S hcalm hg hc he hc1 hc2 I2 T st2 f2 hW ?_
 intro acc C H' s' m IX hm hCn hL hz hcn hpn q
 refine ⟨m,hm,fun h' hs'=>⟨.ref acc,_,?_,rfl,q⟩⟩
 exact IX.turned (t':=s'.toks) (it:=C) (fun b o hb e=>(hs'.2 b hb).trans e) hCn hL (.inr hz) hcn hpn
end
theorem qj {P:Program} {w:World} {K:PySem.W.Frag} {a acc:Addr} {xs:List V} {g:TG} {tt:TT} {te:TE} {F:Hp->Prop} {σ0:St} {H0:Hp} (Pv:Nat->St->Hp->Prop) (h0:Pv 0 σ0 H0) (hq:∀ i U H,i≤xs.length->Pv i U H->bM K H a xs)
 (hs:∀ i x U H,xs[i]?=some x->Pv i U H->∀ N:St->Hp->Prop,(∀ σ' H',Pv (i+1) σ' H'->N σ' H')->g x U H fun σ2 H2=>tt σ2 H2 fun b H3=>if b=true then te σ2 H3 fun y H4=>∃ ns k,H4 acc=some (setG P w acc ns)/\y=.int k/\ns.length+1<scanBound/\N σ2 (upd H4 acc (setG P w acc (adj ns k))) else N σ2 H3)
 (hd:∀ U H,Pv xs.length U H->F H):∃ W:Nat->Nat->St->Hp->Prop,(∃ m,W 0 m σ0 H0)/\uG P w (zr K a) g tt te acc F W:=by
 refine ⟨fun i m U H=>m=xs.length-i/\i≤xs.length/\Pv i U H,⟨xs.length,by simp,Nat.zero_le _,h0⟩,?_⟩
 rintro i m U H ⟨rfl,hi,p⟩
 have q:=hq i U H hi p
 by_cases hlt:i<xs.length
 ·refine .inr ⟨⟨xs,xs[i],q,by simp [hlt]⟩,fun x H' y=>?_⟩
  obtain ⟨e,y⟩:=y
  subst e
  exact hs i x U _ (y xs q) p (fun σ' H'=>∃ m',m'<xs.length-i/\m'=xs.length-(i+1)/\i+1≤xs.length/\Pv (i+1) σ' H') fun σ' H' q=>⟨xs.length-(i+1),by omega,rfl,hlt,q⟩
 ·have e:i=xs.length:=by omega
  subst e
  exact .inl ⟨⟨xs,q,Nat.le_refl _⟩,hd U H p⟩
end L2
namespace L2
open PySem PySem.Spec PyProof.Rows PySem.SeqAt PySem.W
theorem lQ:∀ {us:List Value} {ns:List Int},IntsAre us ns->us.length=ns.length
 |_,_,.nil=>rfl
 |_,_,.cons _ _ t=>by rw [List.length_cons,List.length_cons,lQ t]
def xJ:List Int->List Int->Bool
 |a::as,b::bs=>if a=b then xJ as bs else decide (a≤b)
 |_,_=>true
section
variable {prog:Program} {w:World} {A:Around} {E:Value->Shared->Prop} {s:Shared}
theorem oM {p q:Addr} {as bs:List Int} {xs ys:List Value} {Q:PySem.Fin->Shared->Prop} (hx:IsTup s.heap p xs.toArray) (hy:IsTup s.heap q ys.toArray) (ix:IntsAre xs as) (iy:IntsAre ys bs) (hl:as.length=bs.length) (h:Q (.done (.ret (.bool (xJ as bs)))) s):wpAny (model prog w) A (Builtin.«tuple.__le__» ⟨[.ref p,.ref q],[]⟩) Q E s:=by
 obtain ⟨op,hop,hcp,np,hdp⟩:=hx
 obtain ⟨oq,hoq,hcq,nq,hdq⟩:=hy
 have hTb:s.TypeIs (.ref q) "tuple":=⟨oq,hoq,hcq⟩
 show wpAny _ _ (isInstance (.ref q) (.type "tuple") >>= _) _ _ s
 refine wpAny_bind (wpAny_isInstance hTb isSubtype_tuple_tuple ?_)
 simp only [Bool.not_true,Bool.false_eq_true,if_false]
 refine wpAny_bind (wpAny_tupleItemsOf hop hdp ?_)
 refine wpAny_bind (wpAny_tupleItemsOf hoq hdq ?_)
 have sz:xs.toArray.size=ys.toArray.size:=by
  have h1:=lQ ix
  have h2:=lQ iy
  simp only [List.size_toArray]
  omega
 rw [sz]
 generalize ys.toArray.size=n
 have e1:xs.toArray.toList=xs:=rfl
 have e2:ys.toArray.toList=ys:=rfl
 rw [e1,e2]
 have hz:Builtin.Tuple.tupleCompareSizes .LtE n n=Value.bool true:=by simp [Builtin.Tuple.tupleCompareSizes]
 refine wpAny_bind ?_
 refine wpAny_forIn_list _ (fun l b s'=>s'=s/\b=(none,())/\∃ xs' ys' as' bs',l=List.zip xs' ys'/\IntsAre xs' as'/\IntsAre ys' bs'/\as'.length=bs'.length/\xJ as' bs'=xJ as bs) _ ?_ ?_ _ _ ⟨rfl,rfl,xs,ys,as,bs,rfl,ix,iy,hl,rfl⟩
 ·rintro x rest b s' ⟨rfl,rfl,xs',ys',as',bs',el,ix',iy',hl',e⟩
  cases ix' with
  |nil=>simp at el
  | @cons a t us ns ix'=>
    cases iy' with
    |nil=>simp at el
    | @cons b u vs ms iy'=>
      rw [List.zip_cons_cons] at el
      injection el with e1 e2
      subst e1 e2
      refine wpAny_bind (wpAny_eqBool_int ?_)
      by_cases c:a=b
      ·rw [show (a == b)=true by simpa using c]
       refine wpAny_pure ⟨rfl,rfl,us,vs,ns,ms,rfl,ix',iy',by simpa using hl',?_⟩
       rw [← e]
       simp [xJ,c]
      ·rw [show (a == b)=false by simpa using c]
       refine wpAny_bind (wpAny_rule (wpAny_bind (PyProof.Rows.le_int (wpAny_bind (wpAny_pure (wpAny_pure (wpAny_pure ?_)))))))
       rw [← e] at h
       simp only [xJ,if_neg c] at h
       exact h
 ·rintro b s' ⟨rfl,rfl,xs',ys',as',bs',el,ix',iy',hl',e⟩
  have:as'=[]:=by
   cases ix' with
   |nil=>rfl
   | cons=>cases iy' with
     |nil=>simp at hl'
     |cons=>simp at el
  subst this
  dsimp only
  rw [hz]
  refine wpAny_pure ?_
  rw [← e] at h
  simpa [xJ] using h
theorem yP {p q:Addr} {as bs:List Int} {xs ys:List Value} {Q:Value->Shared->Prop} (hu:A.units<cLine) (hx:IsTup s.heap p xs.toArray) (hy:IsTup s.heap q ys.toArray) (ix:IntsAre xs as) (iy:IntsAre ys bs) (hl:as.length=bs.length) (h:Q (.bool (xJ as bs)) s):wpAny (model prog w) A (compareOp .LtE (.ref p) (.ref q)) Q E s:=by
 have hTx:s.TypeIs (.ref p) "tuple":=let ⟨o,ho,hc,_⟩:=hx;⟨o,ho,hc⟩
 have hTy:s.TypeIs (.ref q) "tuple":=let ⟨o,ho,hc,_⟩:=hy;⟨o,ho,hc⟩
 show wpAny _ _ (richCompare .LtE (.ref p) (.ref q)) Q E s
 exact wpAny_richCompare_same_room (op:=.LtE) hTx hTy PySem.F.slot_tuple_le (wpAny_call_entry PySem.F.slot_tuple_le hTx PySem.F.entry_tuple_le (oM hx hy ix iy hl ⟨_,rfl,(fun e=>nomatch e),h⟩) (PySem.F.args_tuple_le_2 _ _)) hu
end
def Pn (K:Frag):R2:=fun x y H Q=>∃ a b as bs,x=.ref a/\y=.ref b/\bF K H a (as.map V.int)/\bF K H b (bs.map V.int)/\as.length=bs.length/\Q (.bl (xJ as bs)) H
theorem Bv {X:Cx} (hu:X.A.units+64<cLine):gR X (compareOp .LtE) (Pn X.K):=by
 intro Z s U H x y v u Q I rx ry h
 obtain ⟨a,b,as,bs,rfl,rfl,ha,hb,hl,q⟩:=h
 cases (show v=Value.ref a from rx)
 cases (show u=Value.ref b from ry)
 obtain ⟨its,r1,p1,_⟩:=I.tuple ha
 obtain ⟨its2,r2,p2,_⟩:=I.tuple hb
 exact yP (Nat.lt_of_le_of_lt (Nat.le_add_right _ _) hu) p1 p2 (jF r1) (jF r2) hl (bC I q rfl)
end L2
namespace Cm
open PySem L2
def top (i:Nat):Stmt:=PySem.Challenge.pw_lanescribe_k08_whole_great_fields_parted.main.body.getD i (.Pass ⟨0,0,0,0⟩)
def tM (c:Addr) (a r s:Int):List (Key×V):=[(.inr "cells",.ref c),(.inr "at",.int a),(.inr "rest",.int r),(.inr "seed",.int s)]
theorem pat:putK (tM c a r s) (.inr "at") (.int x)=tM c x r s:=by rfl
theorem z_:putK (tM c a r s) (.inr "rest") (.int x)=tM c a x s:=by rfl
theorem Ar:putK (tM c a r s) (.inr "seed") (.int x)=tM c a r x:=by rfl
theorem xG (h:H p=some (.dK (tM c a r s))):jN H p (.str "cells") (some (.ref c)):=jN.k (k:=Sum.inr "cells") h
theorem QD (h:H p=some (.dK (tM c a r s))):jN H p (.str "at") (some (.int a)):=jN.k (k:=Sum.inr "at") h
theorem tL (h:H p=some (.dK (tM c a r s))):jN H p (.str "rest") (some (.int r)):=jN.k (k:=Sum.inr "rest") h
theorem pP (h:H p=some (.dK (tM c a r s))):jN H p (.str "seed") (some (.int s)):=jN.k (k:=Sum.inr "seed") h
abbrev Fg:Int:=2305843009213693951
structure Dr (H:Hp) (p c:Addr):Prop where
 ex:∃ (ns:List Int) (a r s:Int),H p=some (.dK (tM c a r s))/\H c=some (.lst (ns.map V.int))/\ns.length≤63/\0≤a/\a≤ns.length/\0≤r/\0≤s/\s<Fg
theorem Dr.mono (d:Dr H p c) (h:aC H H'):Dr H' p c:=by
 obtain ⟨ns,a,r,s,h1,h2,k⟩:=d.ex
 exact ⟨ns,a,r,s,h _ _ h1,h _ _ h2,k⟩
theorem Dr.ne (d:Dr H p c) (h:H q=some o) (hd:∀ kvs,o≠.dK kvs):q≠p:=by
 obtain ⟨ns,a,r,s,h1,_⟩:=d.ex
 exact gn h h1 (hd _)
theorem Dr.put (d:Dr H p c) (h1:q≠p) (h2:q≠c):Dr (upd H q o) p c:=by
 obtain ⟨ns,a,r,s,e1,e2,k⟩:=d.ex
 exact ⟨ns,a,r,s,by rw [aF h1.symm];exact e1,by rw [aF h2.symm];exact e2,k⟩
theorem Dr.cell (d:Dr H p c):∃ xs,H c=some (.lst xs):=by
 obtain ⟨ns,a,r,s,e1,e2,k⟩:=d.ex
 exact ⟨_,e2⟩
theorem Dr.neN (d:Dr H p c) (h:H q=none):p≠q:=by
 obtain ⟨ns,a,r,s,h1,_⟩:=d.ex
 exact aH h1 h
structure Txt (K:PySem.W.Frag) (mg:Str->Option Value):Prop where
 len:mg "len" = none
 range:mg "range" = none
 list:mg "list" = none
 tuple:mg "tuple" = none
 str:mg "str" = none
 bool:mg "bool" = none
 int:mg "int" = none
 min:mg "min" = none
 repr:mg "repr" = none
 all:mg "all" = none
 any:mg "any" = none
 isinstance:mg "isinstance" = none
section
variable {P:Program} {w:World} {K:PySem.W.Frag} {mg:Str->Option Value} {base:Heap}
def tO (K:PySem.W.Frag):Sp:=fun vs H Q _=>∃ (a:Addr) (ns:List Int),vs=[.ref a]/\bM K H a (ns.map V.int)/\ns.length≤63/\∀ (p c:Addr) (H':Hp),Dr H' p c->aC H H'->H p=none->Q (.ref p) H'
theorem Mp:aR ["_law_script","_law_seed","_law_cell"] ["_law_script"] (aA (top 37)):=⟨rfl,rfl,rfl,by decide +kernel,rfl,by decide +kernel,by decide +kernel⟩
theorem wC (F:fX K "_law_begin" "_law_begin" (top 37) f fd) (T:Txt K mg):aN P w K mg base bL 1 f fd ["_law_script"] (tO K):=by
 refine F.ok Mp (fun vs H Q E h=>?_) (fun cdv A outer s H vs Q E hr h=>?_)
 ·obtain ⟨a,ns,rfl,_⟩:=h
  rfl
 ·obtain ⟨a,ns,rfl,hS,hlen,k⟩:=h
  refine ⟨_,(ao (b7 (i:=1) Mp.nd rfl (Or.inl rfl) aq)
   (ao (d9 PassesOwn.never rfl (dY (gF uf (pv 0) iH (iD aq))) (aV (i:=2) Mp.nd rfl (Or.inl rfl))
    (au (b7 (i:=1) Mp.nd rfl (Or.inl rfl) (a_ eG (a_ cI (a_ cI (a_ iZ (pv 1) aq) (a_ iZ (pv 2) aq)) aq) aq))))
   (au (aP (zH (jj aO (dZ oG (by rfl) T.list pC (aa (gF uf (pv 0) iH (iD aq)) aj)) (jj aO aq (jj aO aq (jj aO (pv 1) zM)))) rfl rfl (List.cons_ne_nil _ _) (by show 4≤15;decide)))))),?_⟩
  have hcut:j0 (ns.map V.int) none (some 63)=ns.map V.int:=by
   show ((ns.map V.int).drop (HT.dj _ 0 none)).take (HT.dj _ _ (some ((63:Nat):Int))-HT.dj _ 0 none)=_
   rw [HT.xW,HT.yM,List.drop_zero,Nat.sub_zero,List.take_of_length_le]
   rw [List.length_map];omega
  refine ⟨_,rfl,_,rfl,a,_,rfl,hS,fun q hq=>⟨q,rfl,⟨_,bM.of ak⟩,?_⟩⟩
  rw [hcut]
  have hS':∀ o,bM K (upd H q o) a (ns.map V.int):=fun o=>(show aC H (upd H q o) from fun b u e=>by rw [aF (aH e hq)];exact e).seq hS
  refine jb (K:=K) (a:=q) (xs:=ns.map V.int) (fun i U H2=>∃ (z:Int) (v:Option V),U=[some (.ref a),some (.int z),v]/\0≤z/\z<Fg/\H2=upd H q (.lst (ns.map V.int)))
   ⟨20011,none,rfl,by decide,by decide,rfl⟩ (fun i U H2 _ ⟨_,_,_,_,_,e⟩=>by rw [e];exact bM.of ak) ?_ ?_
  ·rintro i y U H2 hi ⟨z,v,rfl,h0,h1,rfl⟩
   obtain ⟨n,-,rfl⟩:=List.mem_map.mp (List.mem_of_getElem? hi)
   refine ⟨_,rfl,_,_,rfl,rfl,.inl ⟨by omega,by simp only [Fg] at h1;omega⟩,_,rfl,_,_,rfl,rfl,.inr ⟨by decide,by decide⟩,_,_,rfl,rfl,_,_,rfl,rfl,_,_,rfl,rfl,(by show (0:Int)<2305843009213693951;decide),?_⟩
   exact ⟨_,_,rfl,Int.emod_nonneg _ (by decide),Int.emod_lt_of_pos _ (by decide),rfl⟩
  ·rintro U H2 ⟨z,v,rfl,h0,h1,rfl⟩
   intro p hp
   have s1:aC H (upd (upd H q (.lst (ns.map V.int))) p (.dK [])):=(aC.new hq).trans (aC.new hp)
   refine ⟨_,rfl,_,rfl,a,_,rfl,s1.seq hS,fun q2 hq2=>⟨q2,_,rfl,.inl (bM.of ak),fun l hl=>⟨_,rfl,?_,tM l 0 0 z,rfl,by show 4≤15;decide,?_⟩⟩⟩
   ·exact (aC.new hl) _ _ ((aC.new hq2) _ _ ak)
   ·rw [hcut]
    have hpl:(upd (upd (upd (upd H q (.lst (ns.map V.int))) p (.dK [])) q2 (.lst (ns.map V.int))) l (.lst (ns.map V.int))) p=some (.dK []):=(aC.new (by rw [hcut] at hl;exact hl)) _ _ ((aC.new hq2) _ _ ak)
    have hlp:l≠p:=gn ak hpl (by intro z;cases z)
    refine k p l _ ⟨ns,0,0,z,ak,by rw [aF hlp];exact ak,hlen,by decide,by omega,by decide,h0,h1⟩ ?_ ((aC.new hq).free hp)
    intro b u e
    have e1:=((aC.new (q:=l) (o:=.lst (ns.map V.int)) (by rw [hcut] at hl;exact hl)) _ _ ((aC.new hq2) _ _ (s1 b u e)))
    rw [aF (aH ((aC.new hq) b u e) hp)]
    exact e1
def dH:Sp:=fun vs H Q _=>∃ (p c:Addr) (m:Int),vs=[.ref p,.int m]/\Dr H p c/\0<m/\m<340282366920938463463374607431768211456/\∀ (r:Int) (H':Hp),0≤r->r<m->Dr H' p c->cD p H H'->Q (.int r) H'
theorem Mj:aR ["_law_d","_law_many","_law_cell","_law_digit","_law_one"] ["_law_d","_law_many"] (aA (top 38)):=⟨rfl,rfl,rfl,by decide +kernel,rfl,by decide +kernel,by decide +kernel⟩
theorem di (F:fX K "_law_pick" "_law_pick" (top 38) f fd) (T:Txt K mg):aN P w K mg base bL 1 f fd ["_law_d","_law_many"] dH:=by
 refine F.ok Mj (fun vs H Q E h=>?_) (fun cdv A outer s H vs Q E hr h=>?_)
 ·obtain ⟨p,c,m,rfl,_⟩:=h
  rfl
 ·obtain ⟨p,c,m,rfl,D,m0,m1,k⟩:=h
  have hu:=Ii hr
  refine ⟨_,(ao
 (bh (PW.pt (m6 (aK bJ (cJ hu (pv 0) aO (fun _ _=>rfl)) aq (aM _)) (jt (aK uq (cJ hu (pv 0) aO (fun _ _=>rfl)) (aG aU (by rfl) T.len bV (aa (cJ hu (pv 0) aO (fun _ _=>rfl)) aj)) (aM _))))) (ao
 (b7 (i:=2) Mj.nd rfl (Or.inl rfl) (aX cR (cJ hu (pv 0) aO (fun _ _=>rfl)) (cJ hu (pv 0) aO (fun _ _=>rfl)) (fun _ _=>rfl)))
 (ao
 (jf hu (pv 0) aO (a_ cI (cJ hu (pv 0) aO (fun _ _=>rfl)) aq) rfl)
 (au
 (bh (aK J8 (pv 2) (a_ Dv aq aq) (aM _)) (au
 (jf hu (pv 0) aO (pv 2) rfl)) (au
 (jf hu (pv 0) aO (a_ eG (a_ cI (a_ cI (a_ iZ (cJ hu (pv 0) aO (fun _ _=>rfl)) aq) (a_ iZ (pv 2) aq)) aq) aq) rfl)))))) aQ)
 (ao
 (bh (aK wX (cJ hu (pv 0) aO (fun _ _=>rfl)) aq (aM _)) (ao
 (b7 (i:=3) Mj.nd rfl (Or.inl rfl) (a_ eG (cJ hu (pv 0) aO (fun _ _=>rfl)) (pv 1)))
 (ao
 (jf hu (pv 0) aO (a_ xV (cJ hu (pv 0) aO (fun _ _=>rfl)) (pv 1)) rfl)
 (au
 (aP (pv 3))))) aQ)
 (ao
 (b7 (i:=4) Mj.nd rfl (Or.inl rfl) (a_ eG (a_ iZ (cJ hu (pv 0) aO (fun _ _=>rfl)) (cJ hu (pv 0) aO (fun _ _=>rfl))) aq))
 (ao
 (jf hu (pv 0) aO (a_ eG (a_ cI (a_ cI (a_ iZ (pv 4) aq) (a_ iZ (cJ hu (pv 0) aO (fun _ _=>rfl)) aq)) aq) aq) rfl)
 (au
 (aP (a_ eG (a_ uw (cJ hu (pv 0) aO (fun _ _=>rfl)) aq) (pv 1)))))))),?_⟩
  obtain ⟨ns,a,r,sd,h1,h2,hl,a0,a1,r0,s0,s1⟩:=D.ex
  have npc:c≠p:=gn h2 h1 (by intro z;cases z)
  have small:∀ {x y z:Int},(tM c x y z).length<sizeLine:=fun {x y z}=>iJ (by show 4≤1000;decide)
  refine iW (fun σ' H'=>∃ (a' r' sd':Int) (v:Option V),σ'=[some (.ref p),some (.int m),v,none,none]/\H' p=some (.dK (tM c a' r' sd'))/\cD p H H'/\0≤a'/\a'≤ns.length/\0≤r'/\0≤sd'/\sd'<Fg) ?_ ?_
  ·rintro σ' H1 ⟨a',r',sd',v,rfl,e1,bt,b0,b1,c0,d0,d1⟩
   have hc1:∀ o,(upd H1 p o) c=some (.lst (ns.map V.int)):=fun o=>by rw [aF npc];exact bt c _ h2 npc
   refine ⟨_,rfl,p,_,rfl,tL e1,_,_,rfl,rfl,_,rfl,?_⟩
   refine fH (fun hpos=>?_) (fun _=>?_)
   ·refine ⟨_,rfl,p,_,rfl,tL e1,_,rfl,_,_,rfl,rfl,m0,?_⟩
    refine ⟨_,rfl,p,_,rfl,tL e1,_,rfl,_,_,rfl,rfl,⟨m0,m1⟩,_,rfl,p,_,rfl,pB.k (k:=Sum.inr "rest") e1 small,_,rfl,?_⟩
    rw [z_]
    exact k _ _ (Int.emod_nonneg _ (by omega)) (Int.emod_lt_of_pos _ m0) ⟨ns,a',r' / m,sd',ak,hc1 _,hl,b0,b1,Int.ediv_nonneg c0 (by omega),d0,d1⟩ (bt.trans cD.upd)
   ·have sq:zf sd' sd':=.inl ⟨by omega,by simp only [Fg] at d1;omega⟩
    refine ⟨_,rfl,p,_,rfl,pP e1,_,rfl,p,_,rfl,pP e1,_,_,rfl,rfl,sq,_,_,rfl,rfl,(by show (0:Int)<2305843009213693951;decide),?_⟩
    have u0:=Int.emod_nonneg (sd'*sd') (show (2305843009213693951:Int)≠0 by decide)
    have u1:=Int.emod_lt_of_pos (sd'*sd') (show (0:Int)<2305843009213693951 by decide)
    refine ⟨_,rfl,_,_,rfl,rfl,.inr ⟨by decide,by decide⟩,_,rfl,p,_,rfl,pP e1,_,_,rfl,rfl,.inr ⟨by decide,by decide⟩,_,_,rfl,rfl,_,_,rfl,rfl,_,_,rfl,rfl,(by show (0:Int)<2305843009213693951;decide),_,rfl,p,_,rfl,pB.k (k:=Sum.inr "seed") e1 small,?_⟩
    rw [Ar]
    generalize hsd:(sd'*sd' % 2305843009213693951*7+sd'*40503+12345) % 2305843009213693951=sn
    have v0:0≤sn:=hsd ▸ Int.emod_nonneg _ (by decide)
    have v1:sn<Fg:=hsd ▸ Int.emod_lt_of_pos _ (by decide)
    refine ⟨_,rfl,p,_,rfl,pP ak,_,_,rfl,rfl,⟨by decide,by decide⟩,_,rfl,_,_,rfl,rfl,m0,?_⟩
    exact k _ _ (Int.emod_nonneg _ (by omega)) (Int.emod_lt_of_pos _ m0) ⟨ns,a',r',sn,ak,hc1 _,hl,b0,b1,c0,v0,v1⟩ (bt.trans cD.upd)
  ·intro N hN
   refine ⟨_,rfl,p,_,rfl,tL h1,rfl,_,rfl,?_⟩
   refine fH (fun hz=>?_) (fun _=>?_)
   ·refine ⟨_,rfl,p,_,rfl,QD h1,_,rfl,p,_,rfl,xG h1,c,_,rfl,.inl (bM.of h2),_,_,rfl,rfl,_,rfl,?_⟩
    rw [List.length_map]
    refine fH (fun hlt=>?_) (fun _=>?_)
    ·have hlt:a<ns.length:=of_decide_eq_true hlt
     obtain ⟨z,hz'⟩:∃ z,ns[a.toNat]?=some z:=⟨_,List.getElem?_eq_getElem (by omega)⟩
     have hat:lG (ns.map V.int) a=some (.int z):=by
      have e:(a:Int)=((a.toNat:Nat):Int):=by omega
      rw [e]
      refine aD ?_
      rw [List.getElem?_map,hz'];rfl
     refine ⟨_,rfl,p,_,rfl,xG h1,_,rfl,p,_,rfl,QD h1,c,_,_,_,rfl,rfl,bM.of h2,hat,?_⟩
     refine ⟨_,rfl,p,_,rfl,QD h1,_,_,rfl,rfl,_,rfl,p,_,rfl,pB.k (k:=Sum.inr "at") h1 small,?_⟩
     rw [pat]
     refine ⟨_,rfl,_,_,rfl,rfl,⟨by decide,by decide,by decide⟩,_,_,rfl,rfl,_,rfl,?_⟩
     refine fH (fun hge=>?_) (fun _=>?_)
     ·refine ⟨_,rfl,_,rfl,p,_,rfl,pB.k (k:=Sum.inr "rest") ak small,?_⟩
      rw [z_]
      have hge:(10:Int) ^ 18≤z:=of_decide_eq_true hge
      exact hN _ _ ⟨a+1,z,sd,_,rfl,ak,cD.upd.trans cD.upd,by omega,by omega,by omega,s0,s1⟩
     ·refine ⟨_,rfl,p,_,rfl,pP ak,_,_,rfl,rfl,.inr ⟨by decide,by decide⟩,_,rfl,_,_,rfl,rfl,.inr ⟨by decide,by decide⟩,_,_,rfl,rfl,_,_,rfl,rfl,_,_,rfl,rfl,(by show (0:Int)<2305843009213693951;decide),_,rfl,p,_,rfl,pB.k (k:=Sum.inr "seed") ak small,?_⟩
      rw [Ar]
      exact hN _ _ ⟨a+1,r,_,_,rfl,ak,cD.upd.trans cD.upd,by omega,by omega,r0,Int.emod_nonneg _ (by decide),Int.emod_lt_of_pos _ (by decide)⟩
    ·exact hN _ _ ⟨a,r,sd,_,rfl,h1,cD.refl,a0,a1,r0,s0,s1⟩
   ·exact hN _ _ ⟨a,r,sd,_,rfl,h1,cD.refl,a0,a1,r0,s0,s1⟩
end
theorem Dr.dk (d:Dr H p c):∃ kvs,H p=some (.dK kvs):=by
 obtain ⟨ns,a,r,s,h1,_⟩:=d.ex
 exact ⟨_,h1⟩
theorem Dr.seq (d:Dr H p c) (e:cD p H H') (h:bM K H a xs):bM K H' a xs:=let ⟨_,hp⟩:=d.dk;e.seq hp h
theorem Dr.rep (d:Dr H p c) (e:cD p H H') (h:Rep K H v x):Rep K H' v x:=let ⟨_,hp⟩:=d.dk;h.but e hp
theorem Dr.reps (d:Dr H p c) (e:cD p H H') (h:bj K H v x):bj K H' v x:=let ⟨_,hp⟩:=d.dk;h.but e hp
theorem Dr.new (d:Dr H p c) (h:H q=none):Dr (upd H q o) p c:=d.mono (aC.new h)
def rJ (K:PySem.W.Frag):Sp:=fun vs H Q _=>∃ (p c q:Addr) (xs:List V),vs=[.ref p,.ref q]/\Dr H p c/\bM K H q xs/\xs≠[]/\xs.length≤1000/\∀ (x:V) (H':Hp),x∈xs->Dr H' p c->cD p H H'->Q x H'
theorem Rt:aR ["_law_d","_law_things"] ["_law_d","_law_things"] (aA (top 39)):=⟨rfl,rfl,rfl,by decide +kernel,rfl,by decide +kernel,by decide +kernel⟩
theorem nQ (F:fX K "_law_of" "_law_of" (top 39) f fd) (T:Txt K mg) (DP:cF K mg "_law_pick" (top 38) ["_law_d","_law_many"] fP fdP):aN P w K mg base bL 2 f fd ["_law_d","_law_things"] (rJ K):=by
 have GP:aN P w K mg base bL 1 fP fdP ["_law_d","_law_many"] dH:=di DP.F T
 refine F.ok Rt (fun vs H Q E h=>?_) (fun cdv A outer s H vs Q E hr h=>?_)
 ·obtain ⟨p,c,q,xs,rfl,_⟩:=h
  rfl
 ·obtain ⟨p,c,q,xs,rfl,D,hq,hne,hl,k⟩:=h
  refine ⟨_,(au (aP (aX cR (pv 1) (aB GP hr rfl DP.mg DP.F.kp DP.b .nil aL (aa (pv 0) (aa (aG aU (by rfl) T.len bV (aa (pv 1) aj)) aj))) (fun _ _=>rfl)))),?_⟩
  have hpos:0<xs.length:=List.length_pos_iff.mpr hne
  refine ⟨_,rfl,_,rfl,_,rfl,q,xs,rfl,(.inl hq),p,c,_,rfl,D,by omega,by omega,fun r H' r0 r1 D' bt=>?_⟩
  obtain ⟨j,rfl⟩:=Int.eq_ofNat_of_zero_le r0
  have hx:j<xs.length:=by omega
  exact ⟨q,xs,_,xs[j],rfl,rfl,D.seq bt hq,aD (List.getElem?_eq_getElem hx),k _ _ (List.getElem_mem hx) D' bt⟩
def spS (K:PySem.W.Frag):Nat->Sp
 |0=>fun _ _ _ _=>False
 |n+1=>fun vs H Q _=>∃ (x y:V) (d:PyData),vs=[x,y]/\Rep K H x d/\Rep K H y d/\bI d≤n/\l_ d≤100000/\∀ H':Hp,aC H H'->Q (.bl true) H'
theorem Ru:aR ["_law_found","_law_due"] ["_law_found","_law_due"] (aA (top 40)):=⟨rfl,rfl,rfl,by decide +kernel,rfl,by decide +kernel,by decide +kernel⟩
theorem oZ {Q:VK} {v:V} {H:Hp} (h:Q (.bl true) H):Q (.bl (decide (v=v))) H:=by rw [decide_eq_true rfl];exact h
theorem zc {f:Addr} {fd:FuncData} (DS:cF K mg "_law_same" (top 40) ["_law_found","_law_due"] f fd) (T:Txt K mg) (n:Nat):aN P w K mg base bL n f fd ["_law_found","_law_due"] (spS K n):=by
 refine Nat.rec (motive:=fun n=>aN P w K mg base bL n f fd ["_law_found","_law_due"] (spS K n)) ⟨fun _ _ _ _ h=>h.elim,fun _ _ _ _ _ _ _ _ _ _ _ _ _ h=>h.elim⟩ (fun n GS=>?_) n
 refine DS.F.ok Ru (fun vs H Q E h=>?_) (fun cdv A outer s H vs Q E hr h=>?_)
 ·obtain ⟨x,y,d,rfl,_⟩:=h
  rfl
 ·obtain ⟨x,y,d,rfl,hx,hy,hn,hm,k⟩:=h
  refine ⟨_,(ao
 (bh (aK lL (pv 1) gQ (aM _)) (au
 (aP (bZ lL (pv 0) gQ (aM _)))) aQ)
 (ao
 (bh (PW.pt (m7 (dI (aG bY (by rfl) T.isinstance aY (aa (pv 1) (aa (dh rfl T.bool jA) aj)))) (jD (dI (aG bY (by rfl) T.isinstance aY (aa (pv 0) (aa (dh rfl T.bool jA) aj))))))) (au
 (aP (cX (aG bY (by rfl) T.isinstance aY (aa (pv 1) (aa (dh rfl T.bool jA) aj))) (cX (aG bY (by rfl) T.isinstance aY (aa (pv 0) (aa (dh rfl T.bool jA) aj))) (fZ (bZ bJ (pv 0) (pv 1) (aM _))))))) aQ)
 (ao
 (bh (dI (aG nM (by rfl) T.isinstance aY (aa (pv 1) (aa (dm (aa (dh rfl T.int jQ) (aa (dh rfl T.str lF) aj))) aj)))) (au
 (aP (cX (aG nM (by rfl) T.isinstance aY (aa (pv 0) (aa (dm (aa (dh rfl T.int jQ) (aa (dh rfl T.str lF) aj))) aj))) (cX (bZ bJ (aG bY (by rfl) T.isinstance aY (aa (pv 0) (aa (dh rfl T.int jQ) aj))) (aG bY (by rfl) T.isinstance aY (aa (pv 1) (aa (dh rfl T.int jQ) aj))) (aM _)) (fZ (bZ bJ (pv 0) (pv 1) (aM _))))))) aQ)
 (ao
 (bh (PW.pt (m7 (aK jU (aG bY (by rfl) T.isinstance aY (aa (pv 1) (aa (dh rfl T.list pC) aj))) (aG bY (by rfl) T.isinstance aY (aa (pv 0) (aa (dh rfl T.list pC) aj))) (aM _)) (jD (aK jU (aG bY (by rfl) T.isinstance aY (aa (pv 1) (aa (dh rfl T.tuple fG) aj))) (aG bY (by rfl) T.isinstance aY (aa (pv 0) (aa (dh rfl T.tuple fG) aj))) (aM _))))) (au
 (aP qm)) aQ)
 (au
 (aP (cX (bZ bJ (aG aU (by rfl) T.len bV (aa (pv 0) aj)) (aG aU (by rfl) T.len bV (aa (pv 1) aj)) (aM _)) (fZ (aG (mQ rfl) (by rfl) T.all xf (aa (oN (own:=["_law_k"]) (js:=[0,1]) (N':=["_law_k","_law_found","_law_due"]) (bu.of (osc:=aA (top 40)) (N:=["_law_found","_law_due"]) rfl rfl ⟨rfl,by decide +kernel,by decide +kernel,by decide +kernel,rfl,by decide +kernel⟩) rfl (dC rfl T.range (aa (aG aU (by rfl) T.len bV (aa (pv 1) aj)) aj)) (fun _ _ _ _ _=>(aV (i:=0) (show List.Nodup (["_law_k","_law_found","_law_due"]:List Str) by decide +kernel) rfl (Or.inl rfl) (Or.inr rfl))) (fun _ _ _ _ _=>eY) (fun _ _ _ _ _=>(aB GS hr rfl DS.mg DS.F.kp DS.b .nil aL (aa (aX (r:=zW K) j4 (pv 1) (pv 0) (fun _ _=>rfl)) (aa (aX (r:=zW K) j4 (pv 2) (pv 0) (fun _ _=>rfl)) aj))))) aj)))))))))),?_⟩
  have z2:2≤sizeLine:=by decide
  cases hx with
  | non=>
    cases hy
    refine ⟨_,rfl,rfl,_,rfl,cQ rfl ?_⟩
    exact ⟨_,rfl,rfl,k _ (aC.refl _)⟩
  | bl b=>
    cases hy
    refine ⟨_,rfl,rfl,_,rfl,b_ rfl ?_⟩
    refine ⟨_,rfl,_,_,_,_,rfl,(.bl b),rfl,_,rfl,cQ rfl (cQ rfl ?_)⟩
    exact ⟨_,rfl,_,_,_,_,rfl,(.bl b),rfl,_,rfl,cQ rfl ⟨_,rfl,_,_,_,_,rfl,(.bl b),rfl,_,rfl,cQ rfl ⟨_,rfl,_,rfl,rfl,oZ (k _ (aC.refl _))⟩⟩⟩
  | int i=>
    cases hy
    refine ⟨_,rfl,rfl,_,rfl,b_ rfl ?_⟩
    refine ⟨_,rfl,_,_,_,_,rfl,(.int i),rfl,_,rfl,b_ rfl ?_⟩
    refine ⟨_,rfl,_,_,_,_,rfl,(.int i),rfl,_,rfl,b_ rfl ?_⟩
    refine ⟨_,rfl,z2,fun p hp=>⟨_,p,_,_,_,_,rfl,ak,.int i,rfl,_,rfl,cQ rfl ?_⟩⟩
    refine ⟨_,rfl,z2,fun p2 hp2=>⟨_,p2,_,_,_,_,rfl,ak,.int i,rfl,_,rfl,cQ rfl ?_⟩⟩
    refine ⟨_,rfl,_,_,_,_,rfl,.int i,rfl,_,rfl,_,_,_,_,rfl,.int i,rfl,rfl,_,rfl,?_⟩
    exact cQ rfl ⟨_,rfl,_,rfl,rfl,oZ (k _ ((aC.new hp).trans (aC.new hp2)))⟩
  | str z=>
    cases hy
    refine ⟨_,rfl,rfl,_,rfl,b_ rfl ?_⟩
    refine ⟨_,rfl,_,_,_,_,rfl,(.str z),rfl,_,rfl,b_ rfl ?_⟩
    refine ⟨_,rfl,_,_,_,_,rfl,(.str z),rfl,_,rfl,b_ rfl ?_⟩
    refine ⟨_,rfl,z2,fun p hp=>⟨_,p,_,_,_,_,rfl,ak,.str z,rfl,_,rfl,cQ rfl ?_⟩⟩
    refine ⟨_,rfl,z2,fun p2 hp2=>⟨_,p2,_,_,_,_,rfl,ak,.str z,rfl,_,rfl,cQ rfl ?_⟩⟩
    refine ⟨_,rfl,_,_,_,_,rfl,.str z,rfl,_,rfl,_,_,_,_,rfl,.str z,rfl,rfl,_,rfl,?_⟩
    exact cQ rfl ⟨_,rfl,_,rfl,rfl,oZ (k _ ((aC.new hp).trans (aC.new hp2)))⟩
  | tup g rs=>
    cases hy with
    | tup g2 rs2=>
      rename_i a1 xs1 ds a2 xs2
      refine ⟨_,rfl,rfl,_,rfl,b_ rfl ?_⟩
      refine ⟨_,rfl,_,_,_,_,rfl,(.tup g2 rs2),rfl,_,rfl,b_ rfl ?_⟩
      refine ⟨_,rfl,_,_,_,_,rfl,(.tup g rs),rfl,_,rfl,b_ rfl ?_⟩
      refine ⟨_,rfl,z2,fun p hp=>⟨_,p,_,_,_,_,rfl,ak,Rep.same (.tup g2 rs2) (aC.new hp),rfl,_,rfl,b_ rfl ?_⟩⟩
      have s1:aC H (upd H p (.tup [.ty "int",.ty "str"])):=aC.new hp
      refine ⟨_,rfl,_,_,_,_,rfl,(Rep.same (.tup g2 rs2) s1),rfl,_,rfl,_,_,_,_,rfl,(Rep.same (.tup g rs) s1),rfl,rfl,_,rfl,b_ rfl ?_⟩
      refine ⟨_,rfl,_,_,_,_,rfl,(Rep.same (.tup g2 rs2) s1),rfl,_,rfl,_,_,_,_,rfl,(Rep.same (.tup g rs) s1),rfl,rfl,_,rfl,b_ rfl ?_⟩
      refine ⟨_,rfl,_,_,rfl,.inr (s1.tup g),_,rfl,_,_,rfl,.inr (s1.tup g2),rfl,_,rfl,?_⟩
      have l1:=rs.length
      have l2:=rs2.length
      have hm':xs2.length≤100000:=by simp only [l_] at hm;omega
      have hl:xs1.length=xs2.length:=by omega
      generalize upd H p (.tup [.ty "int",.ty "str"])=H1 at s1 ⊢
      refine cQ (by rw [hl];simp) ?_
      obtain ⟨n,rfl⟩:∃ n',n=n'+1:=⟨n-1,by simp only [bI] at hn;omega⟩
      refine ⟨_,rfl,_,_,rfl,.inr (s1.tup g2),_,rfl,by omega,by omega,?_⟩
      refine j7 (n:=xs2.length) (fun i ys σ' H'=>∃ (v:Option V),ys=(List.replicate i true).map V.bl/\σ'=[v,some _,some _]/\aC H1 H') (by exact Nat.le_trans hm' (by decide)) ⟨none,rfl,rfl,aC.refl _⟩ ?_ ?_
      ·rintro i ys σ' H' hi hys ⟨v,rfl,rfl,s2⟩ N hN
       obtain ⟨d1,e1,r1⟩:=rs.get' (i:=i) (x:=xs1[i]) (List.getElem?_eq_getElem (by omega))
       obtain ⟨d2,e2,r2⟩:=rs2.get' (i:=i) (x:=xs2[i]) (List.getElem?_eq_getElem hi)
       rw [e1] at e2
       cases e2
       have m1:=List.mem_of_getElem? e1
       have q1:=jd m1
       have q2:=lM m1
       have at1:lG xs1 (0+(i:Int))=some xs1[i]:=by rw [Int.zero_add];exact aD (List.getElem?_eq_getElem (by omega))
       have at2:lG xs2 (0+(i:Int))=some xs2[i]:=by rw [Int.zero_add];exact aD (List.getElem?_eq_getElem hi)
       refine ⟨_,rfl,_,rfl,.inr (.inl ⟨_,_,_,_,rfl,rfl,(s1.trans s2).tup g,at1,?_⟩)⟩
       refine ⟨_,rfl,_,rfl,.inr (.inl ⟨_,_,_,_,rfl,rfl,(s1.trans s2).tup g2,at2,?_⟩)⟩
       refine ⟨_,_,d1,rfl,r1.same (s1.trans s2),r2.same (s1.trans s2),?_,?_,fun H'' s3=>?_⟩
       ·simp only [bI] at hn;omega
       ·simp only [l_] at hm;omega
       exact hN _ _ _ (by simp) ⟨_,by rw [List.replicate_succ',List.map_append];rfl,rfl,s2.trans s3⟩
      ·rintro ys σ' H' hys ⟨v,rfl,rfl,s2⟩
       refine ⟨by rw [List.length_map,List.length_replicate];exact Nat.le_trans hm' (by decide),fun q hq=>⟨q,_,rfl,bM.of ak,?_⟩⟩
       show Q (.bl ((List.replicate xs2.length true).all id)) _
       rw [show (List.replicate xs2.length true).all id=true by simp]
       exact k _ ((s1.trans s2).trans (aC.new hq))
  | lst g rs=>
    cases hy with
    | lst g2 rs2=>
      rename_i a1 xs1 ds a2 xs2
      refine ⟨_,rfl,rfl,_,rfl,b_ rfl ?_⟩
      refine ⟨_,rfl,_,_,_,_,rfl,(.lst g2 rs2),rfl,_,rfl,b_ rfl ?_⟩
      refine ⟨_,rfl,_,_,_,_,rfl,(.lst g rs),rfl,_,rfl,b_ rfl ?_⟩
      refine ⟨_,rfl,z2,fun p hp=>⟨_,p,_,_,_,_,rfl,ak,Rep.same (.lst g2 rs2) (aC.new hp),rfl,_,rfl,b_ rfl ?_⟩⟩
      have s1:aC H (upd H p (.tup [.ty "int",.ty "str"])):=aC.new hp
      refine ⟨_,rfl,_,_,_,_,rfl,(Rep.same (.lst g2 rs2) s1),rfl,_,rfl,_,_,_,_,rfl,(Rep.same (.lst g rs) s1),rfl,rfl,_,rfl,b_ rfl ?_⟩
      refine ⟨_,rfl,_,_,_,_,rfl,(Rep.same (.lst g2 rs2) s1),rfl,_,rfl,_,_,_,_,rfl,(Rep.same (.lst g rs) s1),rfl,rfl,_,rfl,b_ rfl ?_⟩
      refine ⟨_,rfl,_,_,rfl,.inl (s1.seq g),_,rfl,_,_,rfl,.inl (s1.seq g2),rfl,_,rfl,?_⟩
      have l1:=rs.length
      have l2:=rs2.length
      have hm':xs2.length≤100000:=by simp only [l_] at hm;omega
      have hl:xs1.length=xs2.length:=by omega
      generalize upd H p (.tup [.ty "int",.ty "str"])=H1 at s1 ⊢
      refine cQ (by rw [hl];simp) ?_
      obtain ⟨n,rfl⟩:∃ n',n=n'+1:=⟨n-1,by simp only [bI] at hn;omega⟩
      refine ⟨_,rfl,_,_,rfl,.inl (s1.seq g2),_,rfl,by omega,by omega,?_⟩
      refine j7 (n:=xs2.length) (fun i ys σ' H'=>∃ (v:Option V),ys=(List.replicate i true).map V.bl/\σ'=[v,some _,some _]/\aC H1 H') (by exact Nat.le_trans hm' (by decide)) ⟨none,rfl,rfl,aC.refl _⟩ ?_ ?_
      ·rintro i ys σ' H' hi hys ⟨v,rfl,rfl,s2⟩ N hN
       obtain ⟨d1,e1,r1⟩:=rs.get' (i:=i) (x:=xs1[i]) (List.getElem?_eq_getElem (by omega))
       obtain ⟨d2,e2,r2⟩:=rs2.get' (i:=i) (x:=xs2[i]) (List.getElem?_eq_getElem hi)
       rw [e1] at e2
       cases e2
       have m1:=List.mem_of_getElem? e1
       have q1:=jd m1
       have q2:=lM m1
       have at1:lG xs1 (0+(i:Int))=some xs1[i]:=by rw [Int.zero_add];exact aD (List.getElem?_eq_getElem (by omega))
       have at2:lG xs2 (0+(i:Int))=some xs2[i]:=by rw [Int.zero_add];exact aD (List.getElem?_eq_getElem hi)
       refine ⟨_,rfl,_,rfl,.inl ⟨_,_,_,_,rfl,rfl,(s1.trans s2).seq g,at1,?_⟩⟩
       refine ⟨_,rfl,_,rfl,.inl ⟨_,_,_,_,rfl,rfl,(s1.trans s2).seq g2,at2,?_⟩⟩
       refine ⟨_,_,d1,rfl,r1.same (s1.trans s2),r2.same (s1.trans s2),?_,?_,fun H'' s3=>?_⟩
       ·simp only [bI] at hn;omega
       ·simp only [l_] at hm;omega
       exact hN _ _ _ (by simp) ⟨_,by rw [List.replicate_succ',List.map_append];rfl,rfl,s2.trans s3⟩
      ·rintro ys σ' H' hys ⟨v,rfl,rfl,s2⟩
       refine ⟨by rw [List.length_map,List.length_replicate];exact Nat.le_trans hm' (by decide),fun q hq=>⟨q,_,rfl,bM.of ak,?_⟩⟩
       show Q (.bl ((List.replicate xs2.length true).all id)) _
       rw [show (List.replicate xs2.length true).all id=true by simp]
       exact k _ ((s1.trans s2).trans (aC.new hq))
def Lc (x:Str):Prop:=∀ c∈x.cps.toList,97≤c/\c≤122
structure Nm (x:Str):Prop where
 lo:1≤x.length
 hi:x.length≤8
 lc:Lc x
theorem Lc.app (a:Lc x) (b:Lc y):Lc (x++y):=fun c hc=>by
 rw [Str.cps_append,Array.toList_append,List.mem_append] at hc
 exact hc.elim (a c) (b c)
theorem lw (sep:Str) (hs:sep.cps.toList=[]):∀ ys:List Str,(Str.join sep ys).cps.toList=(ys.map (·.cps.toList)).flatten
 |[]=>rfl
 |[x]=>by show x.cps.toList=_;simp
 | x::y::r=>by
   show (x++sep++Str.join sep (y::r)).cps.toList=_
   rw [Str.cps_append,Array.toList_append,Str.cps_append,Array.toList_append,hs,List.append_nil,lw sep hs (y::r),List.map_cons (l:=y::r),List.flatten_cons]
theorem yu (sep:Str) (ys:List Str):PySem.Txt.join sep ys=Str.join sep ys:=by
 show PySem.Builtin.Str.glued sep ys=_
 rw [PySem.StrLaws.glued_eq_join]
theorem uB (x:Str):x.length=x.cps.toList.length:=by simp [Str.length]
section
variable {P:Program} {w:World} {K:PySem.W.Frag} {mg:Str->Option Value} {base:Heap}
def oO:Sp:=fun vs H Q _=>∃ (p dc:Addr),vs=[.ref p]/\Dr H p dc/\∀ (x:Str) (H':Hp),Nm x->Dr H' p dc->cD p H H'->Q (.str x) H'
theorem Gw:aR ["_law_d","_law_letters","_law_first","_law_size","_law_some"] ["_law_d"] (aA (top 41)):=⟨rfl,rfl,rfl,by decide +kernel,rfl,by decide +kernel,by decide +kernel⟩
theorem rW (h:lG ("abcdefghijklmnopqrstuvwxyz" : Str).cps.toList i=some c):97≤c/\c≤122:=by
 have:c∈("abcdefghijklmnopqrstuvwxyz" : Str).cps.toList:=by
  unfold lG at h
  obtain ⟨j,_,e⟩:=Option.bind_eq_some_iff.mp h
  exact List.mem_of_getElem? e
 have all:∀ c∈("abcdefghijklmnopqrstuvwxyz" : Str).cps.toList,97≤c/\c≤122:=by decide +kernel
 exact all c this
theorem uc (F:fX K "_law_word" "_law_word" (top 41) f fd) (T:Txt K mg) (DP:cF K mg "_law_pick" (top 38) ["_law_d","_law_many"] fP fdP) (DO:cF K mg "_law_of" (top 39) ["_law_d","_law_things"] fO fdO) :
 aN P w K mg base bL 3 f fd ["_law_d"] oO:=by
 have GP:aN P w K mg base bL 1 fP fdP ["_law_d","_law_many"] dH:=di DP.F T
 have GO:aN P w K mg base bL 2 fO fdO ["_law_d","_law_things"] (rJ K):=nQ DO.F T DP
 refine F.ok Gw (fun vs H Q E h=>?_) (fun cdv A outer s H vs Q E hr h=>?_)
 ·obtain ⟨p,dc,rfl,_⟩:=h
  rfl
 ·obtain ⟨p,dc,rfl,D,k⟩:=h
  have hr1:bH 1 _:=hr.mono (by decide)
  refine ⟨_,(ao
 (b7 (i:=1) Gw.nd rfl (Or.inr rfl) aO)
 (ao
 (b7 (i:=2) Gw.nd rfl (Or.inl rfl) (aB GO hr rfl DO.mg DO.F.kp DO.b .nil aL (aa (pv 0) (aa (bW (aa aO (aa aO (aa aO (aa aO (aa aO aj)))))) aj))))
 (ao
 (b7 (i:=3) Gw.nd rfl (Or.inl rfl) (a_ cI aq (aB GP hr1 rfl DP.mg DP.F.kp DP.b .nil aL (aa (pv 0) (aa (a_ dJ aq (aG jg (by rfl) T.len bV (aa (pv 2) aj))) aj)))))
 (ao
 (b7 (i:=4) Gw.nd rfl (Or.inl rfl) (jm PySem.F.plainAttrs_str PySem.F.slot_str_join PySem.F.type_str_join yL aO (aa (oN (own:=["_law_k"]) (js:=[1,0]) (N':=["_law_k","_law_letters","_law_d"]) (bu.of (osc:=aA (top 41)) (N:=["_law_d","_law_letters","_law_first","_law_size","_law_some"]) rfl rfl ⟨rfl,by decide +kernel,by decide +kernel,by decide +kernel,rfl,by decide +kernel⟩) rfl (dC rfl T.range (aa (pv 3) aj)) (fun _ _ _ _ _=>(aV (i:=0) (show List.Nodup (["_law_k","_law_letters","_law_d"]:List Str) by decide +kernel) rfl (Or.inl rfl) (Or.inr rfl))) (fun _ _ _ _ _=>eY) (fun _ _ _ _ _=>(aX (r:=Dk) o_ (pv 1) (aB GP hr1 rfl DP.mg DP.F.kp DP.b .nil aL (aa (pv 2) (aa aq aj))) (fun _ _=>rfl)))) aj)))
 (au
 (aP (aX cR (bW (aa (a_ eN (pv 2) (pv 4)) (aa (a_ eN (pv 4) (pv 2)) aj))) (aB GP hr1 rfl DP.mg DP.F.kp DP.b .nil aL (aa (pv 0) (aa aq aj))) (fun _ _=>rfl)))))))),?_⟩
  refine ⟨_,rfl,(show 5≤sizeLine by decide),fun q hq=>?_⟩
  refine ⟨p,dc,q,_,rfl,D.new hq,bM.of ak,by simp,by simp,fun x H1 hx D1 b1=>?_⟩
  obtain ⟨z,rfl,hz,lz⟩:∃ z:Str,x=.str z/\z.length≤7/\Lc z:=by
   simp only [List.mem_cons,List.not_mem_nil,or_false] at hx
   rcases hx with rfl|rfl|rfl|rfl|rfl
   all_goals exact ⟨_,rfl,by decide +kernel,by unfold Lc;decide +kernel⟩
  refine ⟨_,rfl,_,rfl,z,rfl,Nat.le_trans hz (by decide),_,_,rfl,rfl,p,dc,_,rfl,D1,by omega,by omega,fun r H2 r0 r1 D2 b2=>?_⟩
  refine ⟨_,_,rfl,rfl,?_⟩
  refine ⟨rfl,_,rfl,_,rfl,by omega,by omega,?_⟩
  refine j7 (n:=(1+r).toNat) (fun i ys σ' H'=>∃ (cs:List Str) (v:Option V),ys=cs.map V.str/\σ'=[v,some (.str "abcdefghijklmnopqrstuvwxyz"),some (.ref p)]/\Dr H' p dc/\cD p H2 H'/\∀ c∈cs,c.length=1/\Lc c) (Nat.le_trans (show (1+r).toNat≤8 by omega) (by decide)) ⟨[],none,rfl,rfl,D2,cD.refl,fun _ h=>nomatch h⟩ ?_ ?_
  ·rintro i ys σ' H' hi hys ⟨cs,v,rfl,rfl,D3,b3,hc⟩ N hN
   refine ⟨_,rfl,_,rfl,p,dc,_,rfl,D3,by decide,by decide,fun r' H4 r0' r1' D4 b4=>?_⟩
   obtain ⟨j,rfl⟩:=Int.eq_ofNat_of_zero_le r0'
   obtain ⟨c,hcj⟩:∃ c,("abcdefghijklmnopqrstuvwxyz" : Str).cps.toList[j]?=some c:=⟨_,List.getElem?_eq_getElem (by show j<26;omega)⟩
   have hat:lG ("abcdefghijklmnopqrstuvwxyz" : Str).cps.toList (j:Int)=some c:=aD hcj
   refine ⟨_,_,c,rfl,rfl,(show 26≤sizeLine by decide),hat,?_⟩
   refine hN _ _ _ (by simpa using hys) ⟨cs++[⟨#[c]⟩],_,by simp,rfl,D4,b3.trans b4,fun c' hc'=>?_⟩
   rcases List.mem_append.mp hc' with hc'|hc'
   ·exact hc c' hc'
   ·obtain rfl:c'=⟨#[c]⟩:=by simpa using hc'
    refine ⟨rfl,fun x hx=>?_⟩
    obtain rfl:x=c:=by simpa using hx
    exact rW hat
  ·rintro ys σ' H' hys ⟨cs,v,rfl,rfl,D3,b3,hc⟩
   rw [List.length_map] at hys
   refine ⟨by rw [List.length_map,hys];exact Nat.le_trans (show (1+r).toNat≤8 by omega) (by decide),fun q2 hq2=>?_⟩
   have hsum:(cs.map (·.length)).sum=cs.length:=by
    clear hys
    induction cs with
    |nil=>rfl
    |cons c t ih=>rw [List.map_cons,List.sum_cons,ih fun d hd=>hc d (List.mem_cons_of_mem _ hd),(hc c List.mem_cons_self).1,List.length_cons,Nat.add_comm]
   refine ⟨_,q2,cs,rfl,rfl,bM.of ak,by rw [hsum,show (Str.ofString "").length=0 from rfl];omega,?_⟩
   rw [yu]
   have jl:(Str.join (Str.ofString "") cs).length=cs.length:=by
    rw [uB,lw _ rfl,List.length_flatten,List.map_map,← hsum]
    congr 1
   have jc:Lc (Str.join (Str.ofString "") cs):=fun x hx=>by
    rw [lw _ rfl] at hx
    obtain ⟨l,hl,hxl⟩:=List.mem_flatten.mp hx
    obtain ⟨c,hcm,rfl⟩:=List.mem_map.mp hl
    exact (hc c hcm).2 x hxl
   generalize Str.join (Str.ofString "") cs=js at jl jc
   have hj8:js.length+z.length≤8/\1≤js.length:=by omega
   refine ⟨_,rfl,_,rfl,_,_,rfl,rfl,Nat.le_trans (show z.length+js.length≤8 by omega) (by decide),_,rfl,_,rfl,_,_,rfl,rfl,Nat.le_trans (show js.length+z.length≤8 by omega) (by decide),(show 2≤sizeLine by decide),fun q3 hq3=>?_⟩
   have D4:Dr _ p dc:=(D3.new (o:=.lst (cs.map V.str)) hq2).new (o:=.lst [.str (z++js),.str (js++z)]) hq3
   refine ⟨_,rfl,p,dc,_,rfl,D4,by decide,by decide,fun r' H5 r0' r1' D5 b5=>?_⟩
   have nm1:Nm (z++js):=⟨by rw [Str.length_append];omega,by rw [Str.length_append];omega,lz.app jc⟩
   have nm2:Nm (js++z):=⟨by rw [Str.length_append];omega,by rw [Str.length_append];omega,jc.app lz⟩
   have bt:cD p H H5:=((((cD.new hq).trans b1).trans b2).trans b3).trans (((cD.new hq2).trans (cD.new hq3)).trans b5)
   have hq5:bM K H5 q3 [.str (z++js),.str (js++z)]:=D4.seq b5 (bM.of ak)
   by_cases h0:r'=0
   ·subst h0
    exact ⟨_,_,_,_,rfl,rfl,hq5,rfl,k _ _ nm1 D5 bt⟩
   ·obtain rfl:r'=1:=by omega
    exact ⟨_,_,_,_,rfl,rfl,hq5,rfl,k _ _ nm2 D5 bt⟩
def uJ (K:PySem.W.Frag):Sp:=fun vs H Q _=>∃ (p dc:Addr) (m:Int),vs=[.ref p,.int m]/\Dr H p dc/\0≤m/\m≤60/\∀ (q:Addr) (ys:List Str) (H':Hp),H' q=some (.lst (ys.map V.str))->H q=none->(ys.length:Int)=m->(∀ y∈ys,Nm y)->ys.Nodup->Dr H' p dc->cD p H H'->Q (.ref q) H'
theorem v4:aR ["_law_d","_law_many","_law_found","_law_k","_law_word_here","_law_step"] ["_law_d","_law_many"] (aA (top 42)):=⟨rfl,rfl,rfl,by decide +kernel,rfl,by decide +kernel,by decide +kernel⟩
def wd (t:Nat):Str:=⟨#[97+t % 8,113+t / 8 % 8]⟩
theorem Gz (t:Nat):Nm (wd t):=⟨by show 1≤2;decide,by show 2≤8;decide,fun c hc=>by
 have:c=97+t % 8∨c=113+t / 8 % 8:=by simpa [wd] using hc
 omega⟩
theorem CQ (h:wd (k+s)=wd (k+s')) (h1:s<64) (h2:s'<64):s=s':=by
 have e:(#[97+(k+s) % 8,113+(k+s) / 8 % 8]:Array Nat)=#[97+(k+s') % 8,113+(k+s') / 8 % 8]:=congrArg Str.cps h
 have e1:97+(k+s) % 8=97+(k+s') % 8/\113+(k+s) / 8 % 8=113+(k+s') / 8 % 8:=by simpa using congrArg Array.toList e
 omega
theorem sub_len {α:Type} [DecidableEq α]:∀ {l ys:List α},l.Nodup->(∀ x∈l,x∈ys)->l.length≤ys.length
 |[],_,_,_=>Nat.zero_le _
 | a::l,ys,nd,hs=>by
   obtain ⟨n1,n2⟩:=List.nodup_cons.mp nd
   have ha:=hs a List.mem_cons_self
   have q:=sub_len (ys:=ys.erase a) n2 fun x hx=>(List.mem_erase_of_ne (by intro z;exact n1 (z ▸ hx))).mpr (hs x (List.mem_cons_of_mem _ hx))
   rw [List.length_erase_of_mem ha] at q
   have:=List.length_pos_of_mem ha
   rw [List.length_cons];omega
theorem ww {α β:Type} {f:α->β}:∀ {l:List α},l.Nodup->(∀ a∈l,∀ b∈l,f a=f b->a=b)->(l.map f).Nodup
 |[],_,_=>List.nodup_nil
 | a::l,nd,h=>by
   obtain ⟨n1,n2⟩:=List.nodup_cons.mp nd
   rw [List.map_cons]
   refine List.nodup_cons.mpr ⟨fun m=>?_,ww n2 fun x hx y hy=>h x (List.mem_cons_of_mem _ hx) y (List.mem_cons_of_mem _ hy)⟩
   obtain ⟨b,hb,e⟩:=List.mem_map.mp m
   exact n1 (h b (List.mem_cons_of_mem _ hb) a List.mem_cons_self e ▸ hb)
theorem Bu {ys:List Str} (hl:ys.length<64) (h:∀ s,s<64->wd (k+s)∈ys):False:=by
 have nd:((List.range 64).map fun s=>wd (k+s)).Nodup:=ww List.nodup_range fun a ha b hb e=>CQ e (List.mem_range.mp ha) (List.mem_range.mp hb)
 have q:=sub_len nd fun x hx=>by
  obtain ⟨s,hs,rfl⟩:=List.mem_map.mp hx
  exact h s (List.mem_range.mp hs)
 rw [List.length_map,List.length_range] at q
 omega
theorem wj (F:fX K "_law_words" "_law_words" (top 42) f fd) (T:Txt K mg) (DP:cF K mg "_law_pick" (top 38) ["_law_d","_law_many"] fP fdP) (DO:cF K mg "_law_of" (top 39) ["_law_d","_law_things"] fO fdO)
 (DW:cF K mg "_law_word" (top 41) ["_law_d"] fW fdW):aN P w K mg base bL 4 f fd ["_law_d","_law_many"] (uJ K):=by
 have GW:aN P w K mg base bL 3 fW fdW ["_law_d"] oO:=uc DW.F T DP DO
 refine F.ok v4 (fun vs H Q E h=>?_) (fun cdv A outer s H vs Q E hr h=>?_)
 ·obtain ⟨p,dc,m,rfl,_⟩:=h
  rfl
 ·obtain ⟨p,dc,m,rfl,D,m0,m1,k⟩:=h
  refine ⟨_,(ao
 (b7 (i:=2) v4.nd rfl (Or.inl rfl) (bW aj))
 (ao
 (d9 PassesOwn.never rfl (dC rfl T.range (aa (pv 1) aj)) (aV (i:=3) v4.nd rfl (Or.inl rfl)) (ao
 (b7 (i:=4) v4.nd rfl (Or.inl rfl) (aB GW hr rfl DW.mg DW.F.kp DW.b .nil aL (aa (pv 0) aj)))
 (ao
 (d9 PassesOwn.never rfl (dC rfl T.range (aa aq aj)) (aV (i:=5) v4.nd rfl (Or.inl rfl)) (au
 (bh (aK gK (pv 4) (pv 2) rfl) (au
 (b7 (i:=4) v4.nd rfl (Or.inl rfl) (a_ eN (aX o_ aO (a_ eG (a_ cI (pv 3) (pv 5)) aq) (fun _ _=>rfl)) (aX o_ aO (a_ eG (a_ uw (a_ cI (pv 3) (pv 5)) aq) aq) (fun _ _=>rfl))))) aQ)))
 (au
 (c7 (jm PySem.F.plainAttrs_list PySem.F.slot_list_append PySem.F.type_list_append d_ (pv 2) (aa (pv 4) aj)))))))
 (au
 (aP (pv 2))))),?_⟩
  refine ⟨(show 0≤sizeLine by decide),fun q hq=>?_⟩
  refine ⟨_,rfl,m,rfl,by omega,by omega,?_⟩
  refine iB (n:=m.toNat) (fun i U H1=>∃ (ys:List Str) (a b c:Option V),U=[some (.ref p),some (.int m),some (.ref q),a,b,c]/\H1 q=some (.lst (ys.map V.str))/\ys.length=i/\(∀ y∈ys,Nm y)/\ys.Nodup/\Dr H1 p dc/\cD p H H1)
   ⟨[],none,none,none,rfl,ak,rfl,(fun _ h=>by cases h),List.nodup_nil,D.new hq,cD.new hq⟩ ?_ ?_
  ·rintro i U H1 hi ⟨ys,a,b,c,rfl,e1,hl,hy,nd,D1,b1⟩
   refine ⟨_,rfl,p,dc,rfl,D1,fun x H2 nx D2 b2=>?_⟩
   have e2:H2 q=some (.lst (ys.map V.str)):=b2 q _ e1 (D1.ne e1 (by intro kvs z;cases z))
   refine ⟨_,rfl,by decide,by decide,?_⟩
   refine iB (n:=64) (fun j U H3=>∃ (z:Str) (c:Option V),U=[some (.ref p),some (.int m),some (.ref q),some (.int (0+(i:Int))),some (.str z),c]/\Nm z/\H3=H2/\(z∉ys∨∀ s,s<j->wd (i+s)∈ys)) ⟨x,_,rfl,nx,rfl,.inr fun s hs=>absurd hs (Nat.not_lt_zero _)⟩ ?_ ?_
   ·rintro j U H3 hj ⟨z,c,rfl,nz,rfl,hz⟩
    refine ⟨_,rfl,_,rfl,q,_,rfl,.inl (bM.of e2),rfl,?_,_,rfl,?_⟩
    ·rw [List.all_eq_true]
     intro v hv
     obtain ⟨y,_,rfl⟩:=List.mem_map.mp hv
     rfl
    ·have hin:inV (.str z) (ys.map V.str)=true↔z∈ys:=by
      unfold inV
      rw [List.any_map,List.any_eq_true]
      constructor
      ·rintro ⟨y,hy1,hy2⟩
       have:y=z:=by simpa [tR] using hy2
       exact this ▸ hy1
      ·intro hz'
       exact ⟨z,hz',by simp [tR]⟩
     refine fH (fun hc=>?_) (fun hc=>⟨z,_,rfl,nz,rfl,.inl fun hz'=>hc (hin.mpr hz')⟩)
     have hz1:=hin.mp hc
     have hz2:∀ s,s<j->wd (i+s)∈ys:=hz.elim (fun n=>absurd hz1 n) id
     have u1:(0+(i:Int)+(0+(j:Int))) % 8=(((i+j) % 8:Nat):Int):=by omega
     have u2:(0+(i:Int)+(0+(j:Int))) / 8 % 8=(((i+j) / 8 % 8:Nat):Int):=by omega
     have h1:("abcdefgh" : Str).cps.toList[(i+j) % 8]?=some (97+(i+j) % 8):=by
      have:=Nat.mod_lt (i+j) (show 0<8 by decide)
      generalize (i+j) % 8=m8 at this
      revert m8;decide +kernel
     have h2:("qrstuvwx" : Str).cps.toList[(i+j) / 8 % 8]?=some (113+(i+j) / 8 % 8):=by
      have:=Nat.mod_lt ((i+j) / 8) (show 0<8 by decide)
      generalize (i+j) / 8 % 8=m8 at this
      revert m8;decide +kernel
     refine ⟨_,rfl,_,rfl,_,_,rfl,rfl,_,_,rfl,rfl,(by show (0:Int)<8;decide),_,_,_,rfl,rfl,(show 8≤sizeLine by decide),(by rw [u1];exact aD h1),?_⟩
     refine ⟨_,rfl,_,rfl,_,_,rfl,rfl,_,_,rfl,rfl,⟨by decide,by decide⟩,_,_,rfl,rfl,(by show (0:Int)<8;decide),_,_,_,rfl,rfl,(show 8≤sizeLine by decide),(by rw [u2];exact aD h2),?_⟩
     refine ⟨_,_,rfl,rfl,(show 1+1≤sizeLine by decide),wd (i+j),_,rfl,Gz _,rfl,?_⟩
     by_cases hw:wd (i+j)∈ys
     ·refine .inr fun s hs=>?_
      by_cases hsj:s=j
      ·rw [hsj];exact hw
      ·exact hz2 s (by omega)
     ·exact .inl hw
   ·rintro U H3 ⟨z,c,rfl,nz,rfl,hz⟩
    have znew:z∉ys:=hz.elim id fun h=>(Bu (by omega) h).elim
    refine ⟨_,rfl,.inl ⟨rfl,_,bM.of e2⟩,_,rfl,q,_,_,rfl,rfl,e2,by rw [List.length_map];exact iJ (by omega),?_⟩
    have nqc:q≠dc:=by
     obtain ⟨xs,e⟩:=D.cell
     exact (aH e hq).symm
    have nqp:q≠p:=D2.ne e2 (by intro kvs z;cases z)
    refine ⟨ys++[z],_,_,_,rfl,by rw [ak];simp,by simp [hl],fun y hy'=>(List.mem_append.mp hy').elim (hy y) (fun h=>by rw [List.mem_singleton.mp h];exact nz),t_ nd znew,D2.put nqp nqc,fun b o e hb=>?_⟩
    rw [aF (aH e hq)]
    exact (b1.trans b2) b o e hb
  ·rintro U H1 ⟨ys,a,b,c,rfl,e1,hl,hy,nd,D1,b1⟩
   exact ⟨_,rfl,k q ys H1 e1 hq (by omega) hy nd D1 b1⟩
end
abbrev dN:=Str×Int×Int
structure iT (f:dN):Prop where
 nm:Nm f.1
 lo:-999999≤f.2.1
 le:f.2.1≤f.2.2
 hi:f.2.2≤999999
def TK (H H':Hp):Prop:=∀ b xs,H b=some (.tup xs)->H' b=some (.tup xs)
theorem TK.trans (a:TK H H1) (b:TK H1 H2):TK H H2:=fun c xs h=>b c xs (a c xs h)
theorem TK.but (d:Dr H p dc) (b:cD p H H'):TK H H':=fun c xs h=>b c _ h (d.ne h (by intro kvs z;cases z))
theorem TK.lst (h:H q=some (.lst xs)):TK H (upd H q o):=fun c ys e=>by rw [aF (gn e h (by intro z;cases z))];exact e
theorem TK.new (h:H q=none):TK H (upd H q o):=fun c ys e=>by rw [aF (aH e h)];exact e
def cZ (H:Hp) (x:V) (f:dN):Prop:=∃ b,x=.ref b/\H b=some (.tup [.str f.1,.int f.2.1,.int f.2.2])
theorem cZ.tk (h:cZ H x f) (k:TK H H'):cZ H' x f:=let ⟨b,e,q⟩:=h;⟨b,e,k _ _ q⟩
theorem cG:∀ {xs:List V} {fs:List dN},Paired (cZ H) xs fs->TK H H'->Paired (cZ H') xs fs
 |_,_,.nil,_=>.nil
 |_,_,.cons r t,k=>.cons (r.tk k) (cG t k)
def ug:Sp:=fun vs H Q _=>∃ (p dc:Addr),vs=[.ref p]/\Dr H p dc/\∀ (z:Int) (H':Hp),-999999≤z->z≤999999->Dr H' p dc->cD p H H'->Q (.int z) H'
theorem Gj:aR ["_law_d","_law_near"] ["_law_d"] (aA (top 43)):=⟨rfl,rfl,rfl,by decide +kernel,rfl,by decide +kernel,by decide +kernel⟩
theorem wB (F:fX K "_law_bound" "_law_bound" (top 43) f fd) (T:Txt K mg) (DP:cF K mg "_law_pick" (top 38) ["_law_d","_law_many"] fP fdP) (DO:cF K mg "_law_of" (top 39) ["_law_d","_law_things"] fO fdO) :
 aN P w K mg base bL 3 f fd ["_law_d"] ug:=by
 have GP:aN P w K mg base bL 1 fP fdP ["_law_d","_law_many"] dH:=di DP.F T
 have GO:aN P w K mg base bL 2 fO fdO ["_law_d","_law_things"] (rJ K):=nQ DO.F T DP
 refine F.ok Gj (fun vs H Q E h=>?_) (fun cdv A outer s H vs Q E hr h=>?_)
 ·obtain ⟨p,dc,rfl,_⟩:=h
  rfl
 ·obtain ⟨p,dc,rfl,D,k⟩:=h
  have hr1:bH 1 _:=hr.mono (by decide)
  refine ⟨_,(ao
 (b7 (i:=1) Gj.nd rfl (Or.inl rfl) (bW (aa aq (aa aq (aa aq (aa (aB GP hr1 rfl DP.mg DP.F.kp DP.b .nil aL (aa (pv 0) (aa aq aj))) (aa (a_ dJ (aB GP hr1 rfl DP.mg DP.F.kp DP.b .nil aL (aa (pv 0) (aa aq aj))) aq) aj)))))))
 (au
 (aP (aB GO hr rfl DO.mg DO.F.kp DO.b .nil aL (aa (pv 0) (aa (a_ qI (pv 1) (bW (aa aq (aa (lY j5 aq) (aa (a_ dJ (aB GP hr1 rfl DP.mg DP.F.kp DP.b .nil aL (aa (pv 0) (aa aq aj))) aq) aj))))) aj)))))),?_⟩
  refine ⟨_,rfl,p,dc,_,rfl,D,by decide,by decide,fun r1 H1 a1 b1 D1 t1=>?_⟩
  refine ⟨_,rfl,p,dc,_,rfl,D1,by decide,by decide,fun r2 H2 a2 b2 D2 t2=>⟨_,_,rfl,rfl,(show 5≤sizeLine by decide),fun q1 h1=>?_⟩⟩
  have D2':=D2.new (o:=.lst [.int 0,.int 0,.int 5,.int r1,.int (r2-20)]) h1
  refine ⟨_,rfl,_,rfl,_,rfl,_,rfl,p,dc,_,rfl,D2',by decide,by decide,fun r3 H3 a3 b3 D3 t3=>⟨_,_,rfl,rfl,(show 3≤sizeLine by decide),fun q2 h2=>?_⟩⟩
  have e1:H3 q1=some (.lst [.int 0,.int 0,.int 5,.int r1,.int (r2-20)]):=t3 q1 _ ak (D2'.ne ak (by intro kvs z;cases z))
  refine ⟨q1,q2,_,_,rfl,rfl,(aC.new h2) _ _ e1,ak,(show 5+3≤sizeLine by decide),fun q3 h3=>?_⟩
  have D4:=(D3.new (o:=.lst [.int 999999,.int (-999999),.int (r3-999999)]) h2)
  refine ⟨p,dc,q3,_,rfl,D4.new h3,bM.of ak,by simp,by simp,fun x H5 hx D5 t5=>?_⟩
  obtain ⟨z,rfl,z0,z1⟩:∃ z:Int,x=.int z/\-999999≤z/\z≤999999:=by
   simp only [List.cons_append,List.nil_append,List.mem_cons,List.not_mem_nil,or_false] at hx
   rcases hx with rfl|rfl|rfl|rfl|rfl|rfl|rfl|rfl
   all_goals exact ⟨_,rfl,by omega,by omega⟩
  exact k z H5 z0 z1 D5 (((t1.trans t2).trans (cD.new h1)).trans (((t3.trans (cD.new h2)).trans (cD.new h3)).trans t5))
def qp (K:PySem.W.Frag):Sp:=fun vs H Q _=>∃ (p dc:Addr) (m:Int),vs=[.ref p,.int m]/\Dr H p dc/\0≤m/\m≤60/\∀ (a:Addr) (xs:List V) (fs:List dN) (H':Hp),H' a=some (.tup xs)->Paired (cZ H') xs fs->(fs.length:Int)=m->(∀ f∈fs,iT f)->(fs.map (·.1)).Nodup->H a=none->Dr H' p dc->cD p H H'->Q (.ref a) H'
theorem uN:aR ["_law_d","_law_many","_law_names","_law_found","_law_title","_law_low","_law_high"] ["_law_d","_law_many"] (aA (top 44)):=⟨rfl,rfl,rfl,by decide +kernel,rfl,by decide +kernel,by decide +kernel⟩
theorem uW (F:fX K "_law_fields" "_law_fields" (top 44) f fd) (T:Txt K mg) (DP:cF K mg "_law_pick" (top 38) ["_law_d","_law_many"] fP fdP) (DO:cF K mg "_law_of" (top 39) ["_law_d","_law_things"] fO fdO)
 (DW:cF K mg "_law_word" (top 41) ["_law_d"] fW fdW) (DWs:cF K mg "_law_words" (top 42) ["_law_d","_law_many"] fWs fdWs) (DB:cF K mg "_law_bound" (top 43) ["_law_d"] fB fdB):aN P w K mg base bL 5 f fd ["_law_d","_law_many"] (qp K):=by
 have GP:aN P w K mg base bL 1 fP fdP ["_law_d","_law_many"] dH:=di DP.F T
 have GO:aN P w K mg base bL 2 fO fdO ["_law_d","_law_things"] (rJ K):=nQ DO.F T DP
 have GWs:aN P w K mg base bL 4 fWs fdWs ["_law_d","_law_many"] (uJ K):=wj DWs.F T DP DO DW
 have GB:aN P w K mg base bL 3 fB fdB ["_law_d"] ug:=wB DB.F T DP DO
 refine F.ok uN (fun vs H Q E h=>?_) (fun cdv A outer s H vs Q E hr h=>?_)
 ·obtain ⟨p,dc,m,rfl,_⟩:=h
  rfl
 ·obtain ⟨p,dc,m,rfl,D,m0,m1,k⟩:=h
  have hr1:bH 1 _:=hr.mono (by decide)
  have hr2:bH 2 _:=hr.mono (by decide)
  have hr3:bH 3 _:=hr.mono (by decide)
  refine ⟨_,(ao
 (b7 (i:=2) uN.nd rfl (Or.inl rfl) (aB GWs hr rfl DWs.mg DWs.F.kp DWs.b .nil aL (aa (pv 0) (aa (pv 1) aj))))
 (ao
 (b7 (i:=3) uN.nd rfl (Or.inl rfl) (bW aj))
 (ao
 (d9 PassesOwn.never rfl (dY (pv 2)) (aV (i:=4) uN.nd rfl (Or.inl rfl)) (ao
 (b7 (i:=5) uN.nd rfl (Or.inl rfl) (aB GB hr3 rfl DB.mg DB.F.kp DB.b .nil aL (aa (pv 0) aj)))
 (ao
 (b7 (i:=6) uN.nd rfl (Or.inl rfl) (aG (iM rfl) (by rfl) T.min pG (aa aq (aa (a_ cI (pv 5) (aB GO hr2 rfl DO.mg DO.F.kp DO.b .nil aL (aa (pv 0) (aa (bW (aa aq (aa aq (aa aq (aa aq (aa (aB GP hr1 rfl DP.mg DP.F.kp DP.b .nil aL (aa (pv 0) (aa aq aj))) aj)))))) aj)))) aj))))
 (au
 (c7 (jm PySem.F.plainAttrs_list PySem.F.slot_list_append PySem.F.type_list_append d_ (pv 3) (aa (dm (aa (pv 4) (aa (pv 5) (aa (pv 6) aj)))) aj)))))))
 (au
 (aP (dZ gb (by rfl) T.tuple fG (aa (pv 3) aj))))))),?_⟩
  refine ⟨_,rfl,_,rfl,p,dc,m,rfl,D,m0,m1,fun q ys H1 e1 hq hl hy nd D1 t1=>?_⟩
  refine ⟨(show 0≤sizeLine by decide),fun q2 h2=>?_⟩
  have D1':=D1.new (o:=.lst []) h2
  have e1':(upd H1 q2 (.lst [])) q=some (.lst (ys.map V.str)):=(aC.new h2) _ _ e1
  have nq:q2≠q:=(aH e1 h2).symm
  have hq2:H q2=none:=by
   cases e:H q2 with
   |none=>rfl
   |some o=>rw [t1 q2 o e (D1.neN h2).symm] at h2;cases h2
  have nq2c:q2≠dc:=by
   obtain ⟨xs,e⟩:=D1.cell
   exact (aH e h2).symm
  refine ⟨_,rfl,q,rfl,⟨_,bM.of e1'⟩,jb (K:=K) (a:=q) (xs:=ys.map V.str) (fun i U H2=>∃ (xs:List V) (fs:List dN) (a b c:Option V),U=[some (.ref p),some (.int m),some (.ref q),some (.ref q2),a,b,c]/\H2 q=some (.lst (ys.map V.str))/\H2 q2=some (.lst xs)/\Paired (cZ H2) xs fs/\fs.map (·.1)=ys.take i/\(∀ f∈fs,iT f)/\Dr H2 p dc/\cD p H H2)
   ⟨[],[],none,none,none,rfl,e1',ak,.nil,by simp,(fun _ h=>by cases h),D1',t1.trans (cD.new h2)⟩ (fun i U H2 _ ⟨_,_,_,_,_,_,e,_⟩=>bM.of e) ?_ ?_⟩
  ·rintro i y U H2 hi ⟨xs,fs,a,b,c,rfl,g1,g2,pf,hm,hf,D2,t2⟩
   rw [List.getElem?_map] at hi
   obtain ⟨n,hn,rfl⟩:=Option.map_eq_some_iff.mp hi
   have hil:i<ys.length:=(List.getElem?_eq_some_iff.mp hn).1
   refine ⟨_,rfl,p,dc,rfl,D2,fun lo H3 l0 l1 D3 t3=>?_⟩
   have np:∀ {b:Addr} {ws:List V} {H':Hp},Dr H' p dc->H' b=some (.lst ws)->b≠p:=fun d e=>d.ne e (by intro kvs z;cases z)
   refine ⟨_,rfl,_,rfl,_,rfl,p,dc,_,rfl,D3,by decide,by decide,fun r H4 r0 r1 D4 t4=>⟨(show 5≤sizeLine by decide),fun q3 h3=>?_⟩⟩
   have D4':=D4.new (o:=.lst [.int 0,.int 1,.int 3,.int 9,.int r]) h3
   refine ⟨p,dc,q3,_,rfl,D4',bM.of ak,by simp,by simp,fun x H5 hx D5 t5=>?_⟩
   obtain ⟨z,rfl,z0⟩:∃ z:Int,x=.int z/\0≤z:=by
    simp only [List.mem_cons,List.not_mem_nil,or_false] at hx
    rcases hx with rfl|rfl|rfl|rfl|rfl
    all_goals exact ⟨_,rfl,by omega⟩
   refine ⟨_,_,rfl,rfl,_,_,rfl,?_⟩
   have t35:cD p H2 H5:=((t3.trans t4).trans (cD.new h3)).trans t5
   have g1':H5 q=some (.lst (ys.map V.str)):=t35 q _ g1 (np D2 g1)
   have g2':H5 q2=some (.lst xs):=t35 q2 _ g2 (np D2 g2)
   have k5:TK H2 H5:=TK.but D2 t35
   refine ⟨_,rfl,.inl ⟨rfl,_,bM.of g2'⟩,_,rfl,_,rfl,_,rfl,(show 3≤sizeLine by decide),fun q4 h4=>?_⟩
   have g2'':∀ o,(upd H5 q4 o) q2=some (.lst xs):=fun o=>(aC.new h4) _ _ g2'
   have hlen:fs.length=i:=by
    have:=congrArg List.length hm
    rw [List.length_map,List.length_take] at this
    omega
   have pl:=Paired.length pf
   refine ⟨q2,xs,_,rfl,rfl,g2'' _,iJ (by omega),?_⟩
   generalize hhi:(if lo+z<999999 then lo+z else 999999)=hi'
   have h1:lo≤hi'/\hi'≤999999:=by rw [← hhi];split <;> omega
   refine ⟨xs++[.ref q4],fs++[(n,lo,hi')],_,_,_,rfl,?_,ak,?_,?_,?_,?_,?_⟩
   ·rw [aF nq.symm];exact (aC.new h4) _ _ g1'
   ·refine Paired.snoc (cG pf (k5.trans ((TK.new h4).trans (TK.lst (g2'' _))))) ⟨q4,rfl,?_⟩
    exact (TK.lst (g2'' _)) _ _ ak
   ·rw [List.map_append,hm,List.take_add_one,hn];rfl
   ·intro f hf'
    rcases List.mem_append.mp hf' with hf'|hf'
    ·exact hf f hf'
    ·obtain rfl:f=(n,lo,hi'):=by simpa using hf'
     exact ⟨hy n (List.mem_of_getElem? hn),l0,h1.1,h1.2⟩
   ·exact (D5.new h4).put (np (D5.new (o:=.tup [.str n,.int lo,.int hi']) h4) (g2'' _)) nq2c
   ·intro b o e hb
    rw [aF (aH e hq2)]
    exact (aC.new h4) _ _ ((t2.trans t35) b o e hb)
  ·rintro U H2 ⟨xs,fs,a,b,c,rfl,g1,g2,pf,hm,hf,D2,t2⟩
   rw [List.length_map,List.take_length] at hm
   refine ⟨_,rfl,q2,xs,rfl,.inl ⟨bM.of g2,fun l hn=>?_⟩⟩
   refine k l xs fs _ ak (cG pf (TK.new hn)) ?_ hf (by rw [hm];exact nd) ?_ (D2.new hn) (t2.trans (cD.new hn))
   ·rw [← List.length_map (f:=(·.1)),hm];exact hl
   ·cases e:H l with
    |none=>rfl
    |some o=>rw [t2 l o e (D2.neN hn).symm] at hn;cases hn
theorem uni:∀ c<128,Unicode.isAlpha c=(decide (65≤c/\c≤90) || decide (97≤c/\c≤122))/\Unicode.isLower c=decide (97≤c/\c≤122)/\Unicode.isUpper c=decide (65≤c/\c≤90)/\Unicode.isTitle c=false:=by decide +kernel
def nameB (x:Str):Bool:=decide (x.length≤8) && (x.cps.all (·<128) && ((x.length > 0 && x.cps.all Unicode.isAlpha) && (x.cps.any Unicode.isLower && !x.cps.any fun c=>Unicode.isUpper c || Unicode.isTitle c)))
theorem gD (x:Str):nameB x=true↔Nm x:=by
 unfold nameB
 simp only [Bool.and_eq_true,decide_eq_true_eq,Bool.not_eq_true',← Array.all_toList,← Array.any_toList,List.all_eq_true,List.any_eq_true,List.any_eq_false]
 constructor
 ·rintro ⟨h8,ha,⟨h0,hal⟩,⟨c0,hc0,hl0⟩,hu⟩
  refine ⟨h0,h8,fun c hc=>?_⟩
  have c1:c<128:=ha c hc
  obtain ⟨u1,u2,u3,u4⟩:=uni c c1
  have a1:=hal c hc
  have a2:=hu c hc
  rw [u1] at a1
  rw [u3,u4] at a2
  simp at a1 a2
  omega
 ·rintro ⟨h0,h8,lc⟩
  have cc:∀ c∈x.cps.toList,c<128/\97≤c/\c≤122:=fun c hc=>⟨by have:=lc c hc;omega,lc c hc⟩
  refine ⟨h8,fun c hc=>(cc c hc).1,⟨h0,fun c hc=>?_⟩,?_,fun c hc=>?_⟩
  ·rw [(uni c (cc c hc).1).1];simp [(cc c hc).2]
  ·rw [uB] at h0
   obtain ⟨c,hc⟩:=List.exists_mem_of_length_pos (show 0<x.cps.toList.length by omega)
   exact ⟨c,hc,by rw [(uni c (cc c hc).1).2.1];simp [(cc c hc).2]⟩
  ·rw [(uni c (cc c hc).1).2.2.1,(uni c (cc c hc).1).2.2.2]
   have:=(cc c hc).2
   simp;omega
structure oK (mg:Str->Option Value):Prop where
 ml:∃ t,mg "MOST_LETTERS" = some (.int 8 t)
 mf:∃ t,mg "MOST_FIELDS" = some (.int 4 t)
 lim:∃ t,mg "LIMIT" = some (.int 999999 t)
def lB:Sp:=fun vs H Q _=>∃ x:Str,vs=[.str x]/\x.length≤sizeLine/\Q (.bl (nameB x)) H
theorem PN:aR ["text"] ["text"] (aA (top 13)):=⟨rfl,rfl,rfl,by decide +kernel,rfl,by decide +kernel,by decide +kernel⟩
theorem nW (F:fX K "is_name" "is_name" (top 13) f fd) (T:Txt K mg) (TK:oK mg):aN P w K mg base bL 1 f fd ["text"] lB:=by
 refine F.ok PN (fun vs H Q E h=>?_) (fun cdv A outer s H vs Q E hr h=>?_)
 ·obtain ⟨x,rfl,_⟩:=h
  rfl
 ·obtain ⟨x,rfl,hl,k⟩:=h
  obtain ⟨t8,m8⟩:=TK.ml
  refine ⟨_,(au
 (aP (cX (bZ fK (aG jg (by rfl) T.len bV (aa (pv 0) aj)) (d7 (v:=.int 8) rfl m8 ⟨_,rfl⟩) (aM _)) (cX (sS PySem.F.plainAttrs_str PySem.F.slot_str_isascii PySem.F.type_str_isascii sE (pv 0)) (cX (sS PySem.F.plainAttrs_str PySem.F.slot_str_isalpha PySem.F.type_str_isalpha rB (pv 0)) (fZ (sS PySem.F.plainAttrs_str PySem.F.slot_str_islower PySem.F.type_str_islower tu (pv 0)))))))),?_⟩
  refine ⟨_,rfl,x,rfl,hl,_,_,rfl,rfl,_,rfl,?_⟩
  unfold nameB at k
  by_cases h8:x.length≤8
  ·refine cQ (by simp;omega) ⟨_,rfl,rfl,x,rfl,rfl,_,rfl,?_⟩
   rw [decide_eq_true h8,Bool.true_and] at k
   cases h1:x.cps.all (·<128) with
   |false=>rw [h1] at k;exact b_ h1 k
   | true=>
     rw [h1,Bool.true_and] at k
     refine cQ h1 ⟨_,rfl,rfl,x,rfl,rfl,_,rfl,?_⟩
     cases h2:(x.length > 0 && x.cps.all Unicode.isAlpha) with
     |false=>rw [h2] at k;exact b_ h2 k
     | true=>
       rw [h2,Bool.true_and] at k
       exact cQ h2 ⟨_,rfl,rfl,x,rfl,rfl,k⟩
  ·refine b_ (by simp;omega) ?_
   rw [decide_eq_false h8,Bool.false_and] at k
   exact k
def j8:Sp:=fun vs H Q _=>∃ x:Str,vs=[.str x]/\Nm x/\Q .non H
theorem NT:aR ["text"] ["text"] (aA (top 14)):=⟨rfl,rfl,rfl,by decide +kernel,rfl,by decide +kernel,by decide +kernel⟩
theorem jT (F:fX K "need_name" "need_name" (top 14) f fd) (T:Txt K mg) (TK:oK mg) (DI:cF K mg "is_name" (top 13) ["text"] fI fdI):aN P w K mg base bL 2 f fd ["text"] j8:=by
 have GI:aN P w K mg base bL 1 fI fdI ["text"] lB:=nW DI.F T TK
 refine F.ok NT (fun vs H Q E h=>?_) (fun cdv A outer s H vs Q E hr h=>?_)
 ·obtain ⟨x,rfl,_⟩:=h
  rfl
 ·obtain ⟨x,rfl,nm,k⟩:=h
  refine ⟨_,(au (bh (gU (dI (aB GI hr rfl DI.mg DI.F.kp DI.b .nil aL (aa (pv 0) aj)))) (au fD) aQ)),?_⟩
  refine ⟨_,rfl,x,rfl,Nat.le_trans nm.hi (by decide),_,rfl,?_⟩
  rw [(gD x).mpr nm]
  exact b_ rfl k
def jy:Sp:=fun vs H Q _=>∃ (a:Addr) (xs:List V) (fs:List dN),vs=[.ref a]/\H a=some (.tup xs)/\Paired (cZ H) xs fs/\fs.length≤60/\(∀ f∈fs,iT f)/\(fs.map (·.1)).Nodup/\∀ H',aC H H'->Q .non H'
theorem cC {α β:Type} {F:α->β->Prop}:∀ {xs:List α} {ys:List β} {i:Nat} {x:α},Paired F xs ys->xs[i]?=some x->∃ y,ys[i]?=some y/\F x y
 |_,_,_,_,.nil,e=>by simp at e
 |_,_,0,_,.cons r _,e=>by simp at e;subst e;exact ⟨_,rfl,r⟩
 | _,_,i+1,x,.cons _ t,e=>by
   obtain ⟨y,h1,h2⟩:=cC (i:=i) (x:=x) t (by simpa using e)
   exact ⟨y,by simpa using h1,h2⟩
theorem wD:aR ["fields","seen","name","low","high"] ["fields"] (aA (top 15)):=⟨rfl,rfl,rfl,by decide +kernel,rfl,by decide +kernel,by decide +kernel⟩
theorem mJ (F:fX K "need_fields" "need_fields" (top 15) f fd) (T:Txt K mg) (TK':oK mg) (DI:cF K mg "is_name" (top 13) ["text"] fI fdI) (DN:cF K mg "need_name" (top 14) ["text"] fN fdN):aN P w K mg base bL 3 f fd ["fields"] jy:=by
 have GN:aN P w K mg base bL 2 fN fdN ["text"] j8:=jT DN.F T TK' DI
 refine F.ok wD (fun vs H Q E h=>?_) (fun cdv A outer s H vs Q E hr h=>?_)
 ·obtain ⟨a,xs,fs,rfl,_⟩:=h
  rfl
 ·obtain ⟨a,xs,fs,rfl,ha,pf,hl,hf,nd,k⟩:=h
  obtain ⟨tl,ml⟩:=TK'.lim
  refine ⟨_,(ao
 (b7 (i:=1) wD.nd rfl (Or.inl rfl) (bW aj))
 (au
 (d9 PassesOwn.never rfl (ig (pv 0)) (gW rfl (bw (aV (i:=2) wD.nd rfl (Or.inl rfl)) (bw (aV (i:=3) wD.nd rfl (Or.inl rfl)) (bw (aV (i:=4) wD.nd rfl (Or.inl rfl)) dX))))
  (ao (c7 (aB GN hr rfl DN.mg DN.F.kp DN.b .nil aL (aa (pv 2) aj)))
  (ao (bh (aK gK (pv 2) (pv 1) rfl) (au fD) aQ)
  (ao (bh (gU (vz fK fK fK (lY j5 (d7 (v:=.int 999999) rfl ml ⟨_,rfl⟩)) (pv 3) (pv 4) (d7 (v:=.int 999999) rfl ml ⟨_,rfl⟩))) (au fD) aQ)
  (au (c7 (jm PySem.F.plainAttrs_list PySem.F.slot_list_append PySem.F.type_list_append d_ (pv 1) (aa (pv 2) aj)))))))))),?_⟩
  refine ⟨(show 0≤sizeLine by decide),fun q hq=>?_⟩
  have pl:=Paired.length pf
  have ha':∀ {H':Hp},aC H H'->H' a=some (.tup xs):=fun e=>e _ _ ha
  refine ⟨_,rfl,a,rfl,⟨_,bF.of (ha' (aC.new hq))⟩,jB (K:=K) (a:=a) (xs:=xs) (fun i U H1=>∃ (b c d:Option V),U=[some (.ref a),some (.ref q),b,c,d]/\H1 q=some (.lst (((fs.map (·.1)).take i).map V.str))/\aC H H1)
   ⟨none,none,none,rfl,by rw [ak];simp,aC.new hq⟩ (fun i U H1 _ ⟨_,_,_,_,_,e⟩=>bF.of (ha' e)) ?_ ?_⟩
  ·rintro i x U H1 hi ⟨b,c,d,rfl,e1,s1⟩
   obtain ⟨⟨n,lo,hi'⟩,hfi,b',rfl,hb⟩:=cC pf hi
   have fo:=hf _ (List.mem_of_getElem? hfi)
   have hil:i<fs.length:=(List.getElem?_eq_some_iff.mp hfi).1
   refine ⟨b',_,rfl,bF.of (s1 _ _ hb),rfl,_,_,rfl,_,_,rfl,_,_,rfl,rfl,?_⟩
   refine ⟨_,rfl,n,rfl,fo.nm,?_⟩
   have hnot:n∉(fs.map (·.1)).take i:=by
    intro hm
    have h1:(fs.map (·.1))[i]?=some n:=by rw [List.getElem?_map,hfi];rfl
    obtain ⟨j,hj,e⟩:=List.getElem_of_mem hm
    rw [List.length_take] at hj
    rw [List.getElem_take] at e
    have h2:(fs.map (·.1))[j]?=some n:=by rw [List.getElem?_eq_getElem (by omega),e]
    have:=lD nd h1 h2
    omega
   refine ⟨_,rfl,_,rfl,q,_,rfl,.inl (bM.of e1),rfl,?_,_,rfl,?_⟩
   ·rw [List.all_eq_true]
    intro v hv
    obtain ⟨y,_,rfl⟩:=List.mem_map.mp hv
    rfl
   refine b_ ?_ ?_
   ·show inV (.str n) _=false
    unfold inV
    rw [List.any_map,List.any_eq_false]
    intro y hy hy2
    have:y=n:=by simpa [tR] using hy2
    exact hnot (this ▸ hy)
   have f1:=fo.lo
   have f2:=fo.le
   have f3:=fo.hi
   refine ⟨_,rfl,_,rfl,_,_,rfl,rfl,_,rfl,cQ (by simpa using f1) ?_⟩
   refine ⟨_,rfl,_,_,rfl,rfl,_,rfl,cQ (by simpa using f2) ?_⟩
   refine ⟨_,_,rfl,rfl,_,rfl,b_ (by simpa using f3) ?_⟩
   have lt:((fs.map (·.1)).take i).length≤60:=by rw [List.length_take,List.length_map];omega
   refine ⟨_,rfl,.inl ⟨rfl,_,bM.of e1⟩,_,rfl,q,_,_,rfl,rfl,e1,by rw [List.length_map];exact iJ (by omega),?_⟩
   refine ⟨_,_,_,rfl,?_,fun c o e=>by rw [aF (aH e hq)];exact s1 c o e⟩
   rw [ak,List.take_add_one,List.getElem?_map,hfi]
   simp
  ·rintro U H1 ⟨b,c,d,rfl,e1,s1⟩
   exact k H1 s1
structure jk (K:PySem.W.Frag) (x qual:Str) (st:Stmt) (dV:Value) (f:Addr) (fd:FuncData):Prop where
 ex:∃ (oc:Value) (od:Option Addr) (kV doc pm:Value) (an:Option Addr) (cdv ct:Value) (osl:Array (Option Value)),
  fd=PySem.W.fnOf x qual (cj st) (bN st) (aA st) dV kV doc pm an cdv ct/\K.lookup f=some ⟨oc,od,.func fd,osl⟩/\PySem.W.codeIn K cdv qual=true
 kp:PySem.W.keepIn K (.ref f)=true
section
variable {P:Program} {w:World} {K:PySem.W.Frag} {mg:Str->Option Value} {base:Heap}
theorem jk.ok (F:jk K x qual st dV f fd) (S:aR N ps (aA st)) (len:∀ vs H Q E,sp vs H Q E->vs.length=ps.length)
 (hbody:∀ (cdv:Value) (A:Around) (outer:List Env) (s:Shared) (H:Hp) (vs:List V) (Q:VK) (E:XK),bH k (A.deeper (PyProof.Rows.envOfC qual (aA st) s.heap.objs.size f cdv))->sp vs H Q E->
  ∃ t,qU (jG bL P w K mg base N qual (aA st) f cdv A outer s H E).nox (bN st) t/\t { nx:=fun _ H'=>Q .non H',rt:=Q } (L2.start N vs) H):aN P w K mg base bL (k+1) f fd ps sp:=by
 obtain ⟨oc,od,kV,doc,pm,an,cdv,ct,osl,rfl,lk,hcd⟩:=F.ex
 refine uI lk hcd S len fun A outer s H vs Q E hr hsp=>?_
 obtain ⟨t,h,q⟩:=hbody cdv A outer s H vs Q E hr hsp
 exact ⟨t,h.nox,q⟩
theorem jk.binds (F:jk K x qual st (.ref T) f fd) (hT:K.lookup T=some oT) (hd:oT.data=.seq items n)
 (h:∀ (kV doc pm:Value) (an:Option Addr) (cdv ct:Value) (s:Shared) (us:List Value),s.heap.get? T=some oT->(us++ds).length=ps.length->BindsTo s (PySem.W.fnOf x qual (cj st) (bN st) (aA st) (.ref T) kV doc pm an cdv ct) ⟨us,[]⟩ (ps.zip (us++ds))):Binds K fd ps ds:=by
 obtain ⟨oc,od,kV,doc,pm,an,cdv,ct,osl,rfl,lk,hcd⟩:=F.ex
 exact fun s us X hl=>h kV doc pm an cdv ct s us (X _ _ hT) hl
abbrev pQ:Stmt:=inClass (top 17) 0
theorem yz (hd:oT.data=.seq #[d0] n) (kV doc pm:Value) (an:Option Addr) (cdv ct:Value) (s:Shared) (us:List Value) (hT:s.heap.get? T=some oT) (h:(us++[]).length=(["self","name","fields"]:List Str).length) :
 BindsTo s (PySem.W.fnOf "__init__" "Kind.__init__" (cj pQ) (bN pQ) (aA pQ) (.ref T) kV doc pm an cdv ct) ⟨us,[]⟩ ((["self","name","fields"]:List Str).zip (us++[])):=by
 rw [List.append_nil] at h ⊢
 match us,h with
 |[a,b,c],_=>exact BindsTo.of_defaults rfl hT hd rfl rfl
structure KCls (K:PySem.W.Frag) (mg:Str->Option Value) (C:Addr):Prop where
 cl:yG K C
 nN:h_ K C "name"
 nF:h_ K C "fields"
 mg:mg "Kind" = some (.ref C)
theorem nf:¬ (("name" : Str) = "fields"):=by decide +kernel
def kf (n:Str) (a:Addr):List (Str×V):=eO "fields" (.ref a) (eO "name" (.str n) [])
theorem yJ (n:Str) (a:Addr):(kf n a).lookup ("name" : Str)=some (.str n):=by
 unfold kf
 rw [cu,if_neg nf,cu,if_pos rfl]
theorem gB (n:Str) (a:Addr):(kf n a).lookup ("fields" : Str)=some (.ref a):=by
 unfold kf
 rw [cu,if_pos rfl]
theorem Av (n:Str) (a:Addr) {m:Str} (h1:¬ m = "fields") (h2:¬ m = "name"):(kf n a).lookup m=none:=by
 unfold kf
 rw [cu,if_neg h1,cu,if_neg h2]
 rfl
structure cP (C:Addr) (H:Hp) (o:Addr) (n:Str) (a:Addr) (fs:List dN):Prop where
 ob:∃ dx,H o=some (.ins C dx (kf n a))
 tp:∃ xs,H a=some (.tup xs)/\Paired (cZ H) xs fs
def x_ (C:Addr):Sp:=fun vs H Q _=>∃ (o dx a:Addr) (n:Str) (xs:List V) (fs:List dN),vs=[.ref o,.str n,.ref a]/\H o=some (.ins C dx [])/\Nm n/\H a=some (.tup xs)/\Paired (cZ H) xs fs/\fs.length≤4/\(∀ f∈fs,iT f)/\(fs.map (·.1)).Nodup/\
 ∀ H',cP C H' o n a fs->(∀ b u,H b=some u->b≠o->H' b=some u)->Q .non H'
theorem Qk:aR ["self","name","fields"] ["self","name","fields"] (aA pQ):=⟨rfl,rfl,rfl,by decide +kernel,rfl,by decide +kernel,by decide +kernel⟩
theorem zE (F:jk K "__init__" "Kind.__init__" pQ dV f fd) (T:Txt K mg) (TK':oK mg) (KC:KCls K mg C) (DI:cF K mg "is_name" (top 13) ["text"] fI fdI) (DN:cF K mg "need_name" (top 14) ["text"] fN fdN)
 (DF:cF K mg "need_fields" (top 15) ["fields"] fF fdF):aN P w K mg base bL 4 f fd ["self","name","fields"] (x_ C):=by
 have GN:aN P w K mg base bL 2 fN fdN ["text"] j8:=jT DN.F T TK' DI
 have GF:aN P w K mg base bL 3 fF fdF ["fields"] jy:=mJ DF.F T TK' DI DN
 refine F.ok Qk (fun vs H Q E h=>?_) (fun cdv A outer s H vs Q E hr h=>?_)
 ·obtain ⟨o,dx,a,n,xs,fs,rfl,_⟩:=h
  rfl
 ·obtain ⟨o,dx,a,n,xs,fs,rfl,ho,hn,ha,pf,hl,hf,nd,k⟩:=h
  obtain ⟨tf,mf⟩:=TK'.mf
  have hr2:bH 2 _:=hr.mono (by decide)
  have pl:=Paired.length pf
  refine ⟨_,(ao
 (c7 (aB GN hr2 rfl DN.mg DN.F.kp DN.b .nil aL (aa (pv 1) aj)))
 (ao
 (bh (aK wX (aG aU (by rfl) T.len bV (aa (pv 2) aj)) (d7 (v:=.int 4) rfl mf ⟨_,rfl⟩) (aM _)) (au fD) aQ)
 (ao
 (c7 (aB GF hr rfl DF.mg DF.F.kp DF.b .nil aL (aa (pv 2) aj)))
 (ao
 (yF (pv 0) (pv 1) rfl)
 (au
 (yF (pv 0) (dZ gb (by rfl) T.tuple fG (aa (pv 2) aj)) rfl)))))),?_⟩
  refine ⟨_,rfl,n,rfl,hn,?_⟩
  refine ⟨_,rfl,a,xs,rfl,.inr (bF.of ha),_,_,rfl,rfl,_,rfl,b_ (by simp;omega) ?_⟩
  refine ⟨_,rfl,a,xs,fs,rfl,ha,pf,by omega,hf,nd,fun H1 s1=>?_⟩
  refine ⟨_,rfl,_,rfl,o,C,dx,[],rfl,s1 _ _ ho,KC.cl,KC.nN,(show 0<1000 by decide),?_⟩
  have nao:a≠o:=gn ha ho (by intro z;cases z)
  have ha1:∀ u,(upd H1 o u) a=some (.tup xs):=fun u=>by rw [aF nao];exact s1 _ _ ha
  refine ⟨_,rfl,a,xs,rfl,.inr ⟨bF.of (ha1 _),?_⟩⟩
  refine ⟨_,rfl,o,C,dx,_,rfl,ak,KC.cl,KC.nF,(show 1<1000 by decide),?_⟩
  have keep:∀ b u,H b=some u->b≠o->(upd (upd H1 o (.ins C dx (eO "name" (.str n) []))) o (.ins C dx (kf n a))) b=some u:=fun b u e hb=>by
   rw [aF hb,aF hb];exact s1 _ _ e
  refine k _ ⟨⟨dx,ak⟩,xs,keep a _ ha nao,cG pf fun b ys e=>keep b _ e (gn e ho (by intro z;cases z))⟩ keep
end
theorem cP.same (h:cP C H o n a fs) (e:aC H H'):cP C H' o n a fs:=by
 obtain ⟨⟨dx,h1⟩,xs,h2,h3⟩:=h
 exact ⟨⟨dx,e _ _ h1⟩,xs,e _ _ h2,cG h3 fun b ys z=>e _ _ z⟩
abbrev kM (j:Nat):Stmt:=inClass (top 17) j
def p8 (fs:List dN) (x:Str):V:=if x∈fs.map (·.1) then .int ((fs.map (·.1)).idxOf x:Nat) else .non
def uH (C:Addr):Sp:=fun vs H Q _=>∃ (o a:Addr) (n x:Str) (fs:List dN),vs=[.ref o,.str x]/\cP C H o n a fs/\fs.length≤4/\∀ H',aC H H'->Q (p8 fs x) H'
theorem yd:aR ["self","field","at","name","low","high"] ["self","field"] (aA (kM 3)):=⟨rfl,rfl,rfl,by decide +kernel,rfl,by decide +kernel,by decide +kernel⟩
theorem xZ (F:fX K "place_of" "Kind.place_of" (kM 3) f fd) (T:Txt K mg) (hen:mg "enumerate" = none) (KC:KCls K mg C):aN P w K mg base bL 1 f fd ["self","field"] (uH C):=by
 refine F.ok yd (fun vs H Q E h=>?_) (fun cdv A outer s H vs Q E hr h=>?_)
 ·obtain ⟨o,a,n,x,fs,rfl,_⟩:=h
  rfl
 ·obtain ⟨o,a,n,x,fs,rfl,⟨⟨dx,ho⟩,xs,ha,pf⟩,hl,k⟩:=h
  have pl:=Paired.length pf
  refine ⟨_,(ao
 (d9 PassesOwn.never rfl (yE rfl hen ji (aa (jM (pv 0) rfl) aj)) (gW rfl (bw (aV (i:=2) yd.nd rfl (Or.inl rfl)) (bw (gW rfl (bw (aV (i:=3) yd.nd rfl (Or.inl rfl)) (bw (aV (i:=4) yd.nd rfl (Or.inl rfl)) (bw (aV (i:=5) yd.nd rfl (Or.inl rfl)) dX)))) dX))) (au
 (bh (aK bJ (pv 3) (pv 1) (aM _)) (au
 (aP (pv 2))) aQ)))
 (au
 (aP gQ))),?_⟩
  refine ⟨_,rfl,o,C,dx,_,_,rfl,ho,KC.cl,KC.nF,gB n a,a,rfl,⟨xs,bF.of ha⟩,vP (K:=K) (a:=a) (xs:=xs) (fun i U H1=>(∃ u1 u2 u3 u4,U=[some (.ref o),some (.str x),u1,u2,u3,u4])/\aC H H1/\x∉(fs.map (·.1)).take i) ⟨⟨none,none,none,none,rfl⟩,aC.refl _,by simp⟩ (fun i U H1 _ z=>bF.of (z.2.1 _ _ ha)) ?_ ?_⟩
  ·rintro i y U H1 p hy ⟨⟨u1,u2,u3,u4,rfl⟩,s1,hn⟩ hp
   obtain ⟨⟨m,lo,hi⟩,hfi,b,rfl,hb⟩:=cC pf hy
   have s2:aC H (upd H1 p (.tup [.int i,.ref b])):=s1.trans (aC.new hp)
   refine ⟨p,_,rfl,bF.of ak,rfl,_,_,rfl,_,_,rfl,b,_,rfl,bF.of (s2 _ _ hb),rfl,_,_,rfl,_,_,rfl,_,_,rfl,rfl,rfl,?_⟩
   refine ⟨_,rfl,_,rfl,rfl,_,rfl,?_⟩
   have hmi:(fs.map (·.1))[i]?=some m:=by rw [List.getElem?_map,hfi];rfl
   by_cases e:m=x
   ·subst e
    refine cQ (by simp) ⟨_,rfl,?_⟩
    have hmem:m∈fs.map (·.1):=List.mem_of_getElem? hmi
    have hix:(fs.map (·.1)).idxOf m=i:=by
     have hil:=(List.getElem?_eq_some_iff.mp hmi).1
     have hgt:¬ (fs.map (·.1)).idxOf m<i:=fun z=>hn (by
      rw [List.mem_iff_getElem?]
      refine ⟨(fs.map (·.1)).idxOf m,?_⟩
      rw [List.getElem?_take,if_pos z,List.getElem?_eq_getElem (by omega),List.getElem_idxOf])
     have hlt:¬ i<(fs.map (·.1)).idxOf m:=fun z=>by
      have:=List.not_of_lt_findIdx (p:=(· == m)) (xs:=fs.map (·.1)) z
      rw [(List.getElem?_eq_some_iff.mp hmi).2] at this
      simp at this
     omega
    have:=k _ s2
    unfold p8 at this
    rw [if_pos hmem,hix] at this
    exact this
   ·refine b_ (by simp [e]) ⟨⟨_,_,_,_,rfl⟩,s2,?_⟩
    rw [List.take_add_one,hmi]
    simp only [Option.toList_some,List.mem_append,List.mem_singleton,not_or]
    exact ⟨hn,fun z=>e z.symm⟩
  ·rintro U H1 ⟨⟨u1,u2,u3,u4,rfl⟩,s1,hn⟩
   have:=k _ s1
   unfold p8 at this
   rw [List.take_of_length_le (by rw [List.length_map];omega)] at hn
   rw [if_neg hn] at this
   exact this
end Cm
namespace Cm
open PySem L2 PySem.W
abbrev zY:Stmt:=inClass (top 2) 0
abbrev Ff:Stmt:=inClass (top 8) 0
section
variable {P:Program} {w:World} {K:Frag} {mg:Str->Option Value} {base:Heap}
theorem jk.ok1 (F:jk K x qual st dV f fd) (S:aR N ps (aA st)) (len:∀ vs H Q E,sp vs H Q E->vs.length=ps.length)
 (hbody:∀ (cdv:Value) (A:Around) (outer:List Env) (s:Shared) (H:Hp) (vs:List V) (Q:VK) (E:XK),bH k (A.deeper (PyProof.Rows.envOfC qual (aA st) s.heap.objs.size f cdv))->sp vs H Q E->
  ∃ t,qU (jG CX P w K mg base N qual (aA st) f cdv A outer s H E) (bN st) t/\t { nx:=fun _ H'=>Q .non H',rt:=Q } (L2.start N vs) H):aN P w K mg base CX (k+1) f fd ps sp:=by
 obtain ⟨oc,od,kV,doc,pm,an,cdv,ct,osl,rfl,lk,hcd⟩:=F.ex
 exact uI lk hcd S len fun A outer s H vs Q E hr hsp=>hbody cdv A outer s H vs Q E hr hsp
structure xF (K:Frag) (C:Addr):Prop where
 x:kh K C "ValueError" "ValueError.__new__"
 w:takerIn K C "word" = some none
def E_ (K:Frag):Sp:=fun vs H Q _=>∃ (e C:Addr) (a:V) (b:V),vs=[.ref e,a,b]/\xF K C/\H e=some (cW e C none)/\∀ da,H da=none->Q .non (upd (upd H e (cW e C (some da))) da (pA da [("word",b)]))
theorem NQ:aR ["self","words","word"] ["self","words","word"] (aA zY):=⟨rfl,rfl,rfl,by decide +kernel,rfl,by decide +kernel,by decide +kernel⟩
structure za (K:Frag) (mg:Str->Option Value):Prop where
 ve:mg "ValueError" = none
 fc:findCls K (.type "ValueError") (.type "type") "__init__" = some (.val (.builtin "ValueError.__init__"))
theorem An (F:jk K "__init__" "ScribeError.__init__" zY dV f fd) (T:za K mg):aN P w K mg base CX 1 f fd ["self","words","word"] (E_ K):=by
 refine F.ok1 NQ (fun vs H Q E h=>?_) (fun cdv A outer s H vs Q E hr h=>?_)
 ·obtain ⟨e,C,a,b,rfl,_⟩:=h
  rfl
 ·obtain ⟨e,C,a,b,rfl,EC,he,k⟩:=h
  refine ⟨_,(ao (c7 (q8 (by rfl) T.ve (by rfl) (by kernel_rfl) (by decide +kernel) T.fc (rn PySem.F.excBase_ValueError) (aa (pv 0) (aa (pv 1) aj))))
   (au (uF (B:="ValueError") (newId:="ValueError.__new__") (pv 0) (pv 2) rfl))),?_⟩
  exact ⟨_,rfl,_,rfl,e,C,_,_,rfl,he,EC.x,_,rfl,_,rfl,e,C,rfl,EC.x,EC.w,.inl ⟨he,k⟩⟩
structure Aa (K:Frag) (C:Addr):Prop where
 e:xF K C
 a:takerIn K C "at" = some none
structure Ez (K:Frag) (mg:Str->Option Value) (cn:Str) (C f:Addr):Prop where
 mg:mg cn=some (.ref C)
 sg:specialIn K (.ref C) "__getattribute__" = some (some (.builtin "type.__getattribute__"))
 rd:∃ mc,readsIn K C mc=true/\findCls K (.ref C) mc "__init__" = some (.val (.ref f))
 kp:keepIn K (.ref f)=true
def NZ (n:Int):List (Str×V):=eO "at" (.int n) [("word",.str "badvalue")]
def Cg (K:Frag):Sp:=fun vs H Q _=>∃ (e C:Addr) (n:Int),vs=[.ref e,.int n]/\Aa K C/\H e=some (cW e C none)/\n.natAbs.log2<1920/\(Str.ofString (toString n)).length≤1000/\
 ∀ da,H da=none->Q .non (upd (upd (upd H e (cW e C (some da))) da (pA da [("word",.str "badvalue")])) da (pA da (NZ n)))
theorem Q0:aR ["self","at"] ["self","at"] (aA Ff):=⟨rfl,rfl,rfl,by decide +kernel,rfl,by decide +kernel,by decide +kernel⟩
theorem HB (F:fX K "__init__" "BadValue.__init__" Ff f fd) (T:za K mg) (FS:jk K "__init__" "ScribeError.__init__" zY dV fS fdS) (bS:Binds K fdS ["self","words","word"] []) (MS:Ez K mg "ScribeError" cS fS):aN P w K mg base CX 2 f fd ["self","at"] (Cg K):=by
 have GS:aN P w K mg base bL 1 fS fdS ["self","words","word"] (E_ K):=An FS T
 obtain ⟨mc,m1,m2⟩:=MS.rd
 refine F.ok1 Q0 (fun vs H Q E h=>?_) (fun cdv A outer s H vs Q E hr h=>?_)
 ·obtain ⟨e,C,n,rfl,_⟩:=h
  rfl
 ·obtain ⟨e,C,n,rfl,EC,he,hn,hl,k⟩:=h
  refine ⟨_,(ao (c7 (kZ (E:=E0) (by rfl) MS.mg MS.sg m1 m2 MS.kp GS hr bS .nil aL (aa (pv 0) (aa (y_ (Dz (En (pv 1) BZ))) (aa aO aj)))))
   (au (uF (B:="ValueError") (newId:="ValueError.__new__") (pv 0) (pv 1) rfl))),?_⟩
  have big:3000≤sizeLine:=by decide
  have e1:(("the values are wrong at " : Str)).length=24:=by decide +kernel
  refine ⟨_,rfl,?_,_,rfl,_,.inr ⟨n,rfl,hn,rfl⟩,?_,?_,e,C,_,_,rfl,EC.e,he,fun da hda=>⟨_,rfl,_,rfl,e,C,rfl,EC.e.x,EC.a,.inr ⟨da,_,?_,?_,?_,k da hda⟩⟩⟩
  all_goals (try rw [Str.empty_append])
  all_goals (try (first|omega|(simp only [Str.length_append,e1];omega)))
  ·rw [aF (aH he hda),ak]
  ·rw [ak]
  ·decide
def QQ (K:Frag) (wd:Str):Sp:=fun vs H Q _=>∃ (e C:Addr) (a:V),vs=[.ref e,a]/\xF K C/\H e=some (cW e C none)/\∀ da,H da=none->Q .non (upd (upd H e (cW e C (some da))) da (pA da [("word",.str wd)]))
abbrev gq:Stmt:=inClass (top 5) 0
theorem uM:aR ["self","words"] ["self","words"] (aA gq):=⟨rfl,rfl,rfl,by decide +kernel,rfl,by decide +kernel,by decide +kernel⟩
theorem rT (F:jk K "__init__" "BadTest.__init__" gq dW f fd) (T:za K mg) (FS:jk K "__init__" "ScribeError.__init__" zY dV fS fdS) (bS:Binds K fdS ["self","words","word"] []) (MS:Ez K mg "ScribeError" cS fS):aN P w K mg base CX 2 f fd ["self","words"] (QQ K "badtest"):=by
 have GS:aN P w K mg base bL 1 fS fdS ["self","words","word"] (E_ K):=An FS T
 obtain ⟨mc,m1,m2⟩:=MS.rd
 refine F.ok1 uM (fun vs H Q E h=>?_) (fun cdv A outer s H vs Q E hr h=>?_)
 ·obtain ⟨e,C,a,rfl,_⟩:=h
  rfl
 ·obtain ⟨e,C,a,rfl,EC,he,k⟩:=h
  refine ⟨_,(au (c7 (kZ (E:=E0) (by rfl) MS.mg MS.sg m1 m2 MS.kp GS hr bS .nil aL (aa (pv 0) (aa (pv 1) (aa aO aj)))))),?_⟩
  exact ⟨_,rfl,_,rfl,e,C,_,_,rfl,EC,he,k⟩
def jP (H:Hp) (fs:List (Str×V)) (da:Addr) (H':Hp):Prop:=H da=none/\H'=upd H da (pA da fs)
theorem mV (h1:H e=none) (h2:upd H e (cW e C none) da=none):jP H fs da (vY (upd (upd (upd H e (cW e C none)) e (cW e C (some da))) da (pA da fs)) e):=by
 have ne:da≠e:=fun q=>by subst q;rw [ak] at h2;cases h2
 rw [aF ne] at h2
 refine ⟨h2,funext fun b=>?_⟩
 by_cases q:b=e
 ·subst q
  rw [lu,aF (Ne.symm ne),h1]
 ·rw [qL q]
  by_cases r:b=da
  ·subst r;rw [ak,ak]
  ·rw [aF r,aF q,aF q,aF r]
theorem gH (h:aC H H1) (n:H1 e=none):H e=none:=by
 cases z:H e with
 |none=>rfl
 |some o=>have:=h _ _ z;rw [n] at this;cases this
structure Ht (K:Frag) (mg:Str->Option Value) (x:Str) (C f:Addr) (fd:FuncData):Prop where
 b:Binds K fd ["self","words"] []
 mg:mg x=some (.ref C)
 e:xF K C
 i:findIn K (.ref C) "__init__" = some (some (.ref f))
 n:isFn K (.ref f)=true
end
abbrev Rv:Int:=1000000000000000000000000000000
def zU (x:Str):Prop:=x.cps.all (·<128)=true
abbrev D_:Int:=Rv+2
inductive TD:PyData->Prop
 |str {x:Str}:zU x->x.length≤40->TD (.str x)
 |int {i:Int}:-D_≤i->i≤D_->TD (.int i)
 |nil:TD (.tuple [])
 |node {f:Str} {r:List PyData}:zU f->f.length≤40->r.length≤4->(∀ d∈r,TD d)->TD (.tuple (.str f::r))
def iU:PyData->Bool
 |.str x=>nameB x
 |_=>false
def qM:PyData->Bool
 |.int i=>decide (-999999≤i) && decide (i≤999999)
 |_=>false
def dR (f:Str) (r:List PyData):Bool:=
 if f = "all" then r.isEmpty else if f = "is" then (match r with|[x]=>iU x|_=>false)
 else decide (f = "less"∨f = "same") && (match r with|[x,y]=>iU x && qM y|_=>false)
def arity (f:Str):Option Nat:=if f = "not" then some 1 else if f = "and" then some 2 else if f = "or" then some 2 else none
def cnt:Nat->PyData->Nat
 |0,_=>0
 |n+1,.tuple (.str f::r)=>if dR f r=true then 1 else if arity f=some r.length then (if 0∈r.map (cnt n) then 0 else 1+(r.map (cnt n)).sum) else 0
 |_+1,_=>0
mutual
def bA:PyData->Bool
 |.tuple (.str f::r)=>if f = "and"∨f = "or" then decide (r.length=2) && shapes r else if f = "not" then decide (r.length=1) && shapes r else dR f r
 |_=>false
def shapes:List PyData->Bool
 |[]=>true
 |d::r=>bA d && shapes r
end
mutual
def bO:PyData->Nat
 |.tuple (.str f::r)=>if (arity f).isSome=true then 1+dw r else 1
 |_=>1
def dw:List PyData->Nat
 |[]=>0
 |d::r=>max (bO d) (dw r)
end
mutual
def cM:PyData->Nat
 |.tuple (.str f::r)=>if (arity f).isSome=true then 1+iz r else 1
 |_=>1
def iz:List PyData->Nat
 |[]=>0
 |d::r=>cM d+iz r
end
def cU (d:PyData):Bool:=bA d && (decide (bO d≤5) && decide (cM d≤15))
theorem nT:∀ d,1≤cM d:=by
 intro d
 unfold cM
 split
 ·split <;> omega
 ·omega
theorem cO:∀ d,1≤bO d:=by
 intro d
 unfold bO
 split
 ·split <;> omega
 ·omega
theorem qD (h:dR f r=true):arity f=none:=by
 unfold dR at h
 unfold arity
 by_cases h1:f = "all"
 ·subst h1;decide +kernel
 ·rw [if_neg h1] at h
  by_cases h2:f = "is"
  ·subst h2;decide +kernel
  ·rw [if_neg h2,Bool.and_eq_true,decide_eq_true_eq] at h
   rcases h.1 with rfl|rfl <;> decide +kernel
theorem lH (k:Nat) (r:List PyData):decide (some k=some r.length)=decide (r.length=k):=by
 simp only [Option.some.injEq,decide_eq_decide]
 exact ⟨fun h=>h.symm,fun h=>h.symm⟩
theorem eU:bA (.tuple (.str f::r))=if arity f=none then dR f r else decide (arity f=some r.length) && shapes r:=by
 unfold bA
 by_cases h1:f = "and"
 ·subst h1
  rw [show arity "and" = some 2 from by decide +kernel,if_pos (Or.inl rfl),if_neg (show ¬ (some 2=(none:Option Nat)) from nofun),lH]
 ·by_cases h2:f = "or"
  ·subst h2
   rw [show arity "or" = some 2 from by decide +kernel,if_pos (Or.inr rfl),if_neg (show ¬ (some 2=(none:Option Nat)) from nofun),lH]
  ·rw [if_neg (by simp [h1,h2])]
   by_cases h3:f = "not"
   ·subst h3
    rw [show arity "not" = some 1 from by decide +kernel,if_pos rfl,if_neg (show ¬ (some 1=(none:Option Nat)) from nofun),lH]
   ·have ha:arity f=none:=by unfold arity;rw [if_neg h3,if_neg h1,if_neg h2]
    rw [ha,if_neg h3,if_pos rfl]
theorem Hl (ih:∀ d,cnt n d=if bA d=true/\bO d≤n then cM d else 0):∀ r:List PyData,(if 0∈r.map (cnt n) then 0 else 1+(r.map (cnt n)).sum)=if shapes r=true/\dw r≤n then 1+iz r else 0
 |[]=>by simp [shapes,dw,iz]
 | d::r=>by
   have h:=Hl ih r
   have hp:=nT d
   rw [List.map_cons,List.sum_cons]
   have es:shapes (d::r)=(bA d && shapes r):=rfl
   have ed:dw (d::r)=max (bO d) (dw r):=rfl
   have ep:iz (d::r)=cM d+iz r:=rfl
   by_cases hd:bA d=true/\bO d≤n
   ·have e:cnt n d=cM d:=by rw [ih,if_pos hd]
    by_cases hr:shapes r=true/\dw r≤n
    ·rw [if_pos hr] at h
     have h0:¬ 0∈r.map (cnt n):=fun z=>by rw [if_pos z] at h;omega
     rw [if_neg h0] at h
     rw [if_neg (by rw [List.mem_cons,not_or,e];exact ⟨by omega,h0⟩),if_pos ⟨by rw [es,hd.1,hr.1];rfl,by rw [ed];omega⟩,e,ep]
     omega
    ·rw [if_neg hr] at h
     have h0:0∈r.map (cnt n):=by
      by_cases z:0∈r.map (cnt n)
      ·exact z
      ·rw [if_neg z] at h;omega
     rw [if_pos (List.mem_cons_of_mem _ h0),if_neg]
     rintro ⟨z1,z2⟩
     rw [es,Bool.and_eq_true] at z1
     rw [ed] at z2
     exact hr ⟨z1.2,by omega⟩
   ·have e:cnt n d=0:=by rw [ih,if_neg hd]
    rw [if_pos (by rw [e];exact List.mem_cons_self ..),if_neg]
    rintro ⟨z1,z2⟩
    rw [es,Bool.and_eq_true] at z1
    rw [ed] at z2
    exact hd ⟨z1.1,by omega⟩
theorem rZ:∀ (n:Nat) (d:PyData),cnt n d=if bA d=true/\bO d≤n then cM d else 0
 | 0,d=>by
   have:=cO d
   rw [if_neg (by omega)]
   rfl
 | n+1,d=>by
   have ih:=rZ n
   by_cases hd:∃ f r,d=.tuple (.str f::r)
   ·obtain ⟨f,r,rfl⟩:=hd
    have e1:cnt (n+1) (.tuple (.str f::r))=if dR f r=true then 1 else if arity f=some r.length then (if 0∈r.map (cnt n) then 0 else 1+(r.map (cnt n)).sum) else 0:=rfl
    have e2:bO (.tuple (.str f::r))=if (arity f).isSome=true then 1+dw r else 1:=rfl
    have e3:cM (.tuple (.str f::r))=if (arity f).isSome=true then 1+iz r else 1:=rfl
    have e4:=@eU f r
    by_cases hl:dR f r=true
    ·have ha:=qD hl
     rw [ha] at e2 e3 e4
     rw [e1,if_pos hl,if_pos ⟨by rw [e4,if_pos rfl];exact hl,by rw [e2];simp⟩,e3]
     rfl
    ·rw [e1,if_neg hl]
     by_cases ha:arity f=none
     ·rw [if_neg (by rw [ha];nofun),if_neg]
      rintro ⟨q,_⟩
      rw [e4,if_pos ha] at q
      exact hl q
     ·obtain ⟨k,hk⟩:=Option.ne_none_iff_exists'.mp ha
      rw [hk] at e2 e3 e4 ⊢
      rw [if_neg (show ¬ (some k=(none:Option Nat)) from nofun)] at e4
      by_cases hkr:k=r.length
      ·subst hkr
       rw [if_pos rfl,Hl ih r]
       by_cases z:shapes r=true/\dw r≤n
       ·rw [if_pos z,if_pos ⟨by rw [e4,z.1];simp,by rw [e2];simp;omega⟩,e3]
        rfl
       ·rw [if_neg z,if_neg]
        rintro ⟨q1,q2⟩
        rw [e4] at q1
        rw [e2] at q2
        simp at q1 q2
        exact z ⟨q1,by omega⟩
      ·rw [if_neg (by simpa using hkr),if_neg]
       rintro ⟨q,_⟩
       rw [e4] at q
       simp [hkr] at q
   ·have e1:cnt (n+1) d=0:=by
     unfold cnt
     split
     ·omega
     ·exact absurd ⟨_,_,rfl⟩ hd
     ·rfl
    have e2:bA d=false:=by
     unfold bA
     split
     ·exact absurd ⟨_,_,rfl⟩ hd
     ·rfl
    rw [e1,e2,if_neg (by simp)]
theorem zm (d:PyData):(decide (1≤cnt 5 d) && decide (cnt 5 d≤15))=cU d:=by
 have hp:=nT d
 rw [rZ]
 unfold cU
 by_cases h:bA d=true/\bO d≤5
 ·rw [if_pos h,h.1,decide_eq_true h.2]
  simp [hp]
 ·rw [if_neg h]
  have:(bA d && decide (bO d≤5))=false:=by
   rw [← Bool.not_eq_true,Bool.and_eq_true,decide_eq_true_eq]
   exact h
  rw [← Bool.and_assoc,this]
  rfl
mutual
def gG:PyData->List PyData
 |.tuple (.str f::r)=>if (arity f).isSome=true then du r else [.tuple (.str f::r)]
 |d=>[d]
def du:List PyData->List PyData
 |[]=>[]
 |d::r=>gG d++du r
end
section
variable {P:Program} {w:World} {K:PySem.W.Frag} {mg:Str->Option Value} {base:Heap}
def Kh (K:Frag):Sp:=fun vs H Q _=>∃ (x:V) (d:PyData),vs=[x]/\Rep K H x d/\TD d/\Q (.bl (iU d)) H
theorem Qn:aR ["thing"] ["thing"] (aA (top 23)):=⟨rfl,rfl,rfl,by decide +kernel,rfl,by decide +kernel,by decide +kernel⟩
theorem Kf (F:fX K "is_word" "is_word" (top 23) f fd) (T:Txt K mg) (TK:oK mg) (DN:cF K mg "is_name" (top 13) ["text"] fN fdN):aN P w K mg base bL 2 f fd ["thing"] (Kh K):=by
 have GN:aN P w K mg base bL 1 fN fdN ["text"] lB:=nW DN.F T TK
 refine F.ok Qn (fun vs H Q E h=>?_) (fun cdv A outer s H vs Q E hr h=>?_)
 ·obtain ⟨x,d,rfl,_⟩:=h
  rfl
 ·obtain ⟨x,d,rfl,rd,td,k⟩:=h
  refine ⟨_,(au (aP (cX (aG bY (by rfl) T.isinstance aY (aa (pv 0) (aa (dh rfl T.str lF) aj))) (fZ (aB GN hr rfl DN.mg DN.F.kp DN.b .nil aL (aa (pv 0) aj)))))),?_⟩
  cases td with
  | @str y a l=>
    cases rd
    exact ⟨_,rfl,_,_,_,_,rfl,.str y,rfl,_,rfl,cQ rfl ⟨_,rfl,y,rfl,Nat.le_trans l (by decide),k⟩⟩
  | @int i a b=>
    cases rd
    exact ⟨_,rfl,_,_,_,_,rfl,.int i,rfl,_,rfl,b_ rfl k⟩
  |nil=>exact ⟨_,rfl,_,_,_,_,rfl,rd,rfl,_,rfl,b_ rfl k⟩
  |node a l n z=>exact ⟨_,rfl,_,_,_,_,rfl,rd,rfl,_,rfl,b_ rfl k⟩
def GJ (K:Frag):Sp:=fun vs H Q _=>∃ (x:V) (d:PyData),vs=[x]/\Rep K H x d/\TD d/\Q (.bl (qM d)) H
theorem Qq:aR ["thing"] ["thing"] (aA (top 24)):=⟨rfl,rfl,rfl,by decide +kernel,rfl,by decide +kernel,by decide +kernel⟩
theorem J7 (F:fX K "is_number" "is_number" (top 24) f fd) (T:Txt K mg) (TK:oK mg):aN P w K mg base bL 1 f fd ["thing"] (GJ K):=by
 refine F.ok Qq (fun vs H Q E h=>?_) (fun cdv A outer s H vs Q E hr h=>?_)
 ·obtain ⟨x,d,rfl,_⟩:=h
  rfl
 ·obtain ⟨x,d,rfl,rd,td,k⟩:=h
  obtain ⟨tl,ml⟩:=TK.lim
  refine ⟨_,(au (aP (cX (aG bY (by rfl) T.isinstance aY (aa (pv 0) (aa (dh rfl T.int jQ) aj))) (cX (qO (aG bY (by rfl) T.isinstance aY (aa (pv 0) (aa (dh rfl T.bool jA) aj)))) (fZ (ql fK fK (lY j5 (d7 (v:=.int 999999) rfl ml ⟨_,rfl⟩)) (pv 0) (d7 (v:=.int 999999) rfl ml ⟨_,rfl⟩))))))),?_⟩
  cases td with
  | @int i a b=>
    cases rd
    refine ⟨_,rfl,_,_,_,_,rfl,.int i,rfl,_,rfl,cQ rfl ⟨_,rfl,_,_,_,_,rfl,.int i,rfl,_,rfl,_,rfl,cQ rfl ?_⟩⟩
    exact fJ.chain (fJ.neg fJ.con) (fJ.var rfl) fJ.con nO.i0 nO.i0 _ k
  | @str y a l=>
    cases rd
    exact ⟨_,rfl,_,_,_,_,rfl,.str y,rfl,_,rfl,b_ rfl k⟩
  |nil=>exact ⟨_,rfl,_,_,_,_,rfl,rd,rfl,_,rfl,b_ rfl k⟩
  |node a l n z=>exact ⟨_,rfl,_,_,_,_,rfl,rd,rfl,_,rfl,b_ rfl k⟩
abbrev dW:List (Str×PyData):=[("not",.int 1),("and",.int 2),("or",.int 2)]
abbrev dS:List (Str×PyData):=[("less",.str "<"),("same",.str "=")]
structure rC (K:Frag) (mg:Str->Option Value) (aW aS:Addr):Prop where
 mw:mg "WITHIN" = some (.ref aW)
 ms:mg "SIGN_OF" = some (.ref aS)
 kw:v7 K aW dW
 ks:v7 K aS dS
theorem Ao (f:Str):j9 dW f=(arity f).map fun n=>V.int (n:Nat):=by
 unfold j9 arity
 show ((if _ then _ else if _ then _ else if _ then _ else none:Option PyData)).map Mg=_
 by_cases h1:f = "not"
 ·subst h1;rfl
 ·by_cases h2:f = "and"
  ·subst h2;rfl
  ·by_cases h3:f = "or"
   ·subst h3;rfl
   ·simp [h1,h2,h3]
theorem tV (f:Str):j9 dS f=if f = "less" then some (.str "<") else if f = "same" then some (.str "=") else none:=by
 unfold j9
 show ((if _ then _ else if _ then _ else none:Option PyData)).map Mg=_
 by_cases h1:f = "less"
 ·subst h1;rfl
 ·by_cases h2:f = "same"
  ·subst h2;rfl
  ·simp [h1,h2]
def Fq (K:Frag):Sp:=fun vs H Q _=>∃ (a:Addr) (f:Str) (r:List PyData),vs=[.ref a]/\Rep K H (.ref a) (.tuple (.str f::r))/\TD (.tuple (.str f::r))/\Q (.bl (dR f r)) H
theorem Kq:aR ["test","form"] ["test"] (aA (top 25)):=⟨rfl,rfl,rfl,by decide +kernel,rfl,by decide +kernel,by decide +kernel⟩
theorem Jb (F:fX K "is_leaf" "is_leaf" (top 25) f fd) (T:Txt K mg) (TK:oK mg) (TB:rC K mg aW aS) (DI:cF K mg "is_name" (top 13) ["text"] fI fdI) (DW:cF K mg "is_word" (top 23) ["thing"] fW fdW) (DN:cF K mg "is_number" (top 24) ["thing"] fN fdN):aN P w K mg base bL 3 f fd ["test"] (Fq K):=by
 have GW:aN P w K mg base bL 2 fW fdW ["thing"] (Kh K):=Kf DW.F T TK DI
 have GN:aN P w K mg base bL 1 fN fdN ["thing"] (GJ K):=J7 DN.F T TK
 refine F.ok Kq (fun vs H Q E h=>?_) (fun cdv A outer s H vs Q E hr h=>?_)
 ·obtain ⟨a,f,r,rfl,_⟩:=h
  rfl
 ·obtain ⟨a,f,r,rfl,rd,td,k⟩:=h
  have hr1:bH 1 _:=hr.mono (by decide)
  refine ⟨_,(ao (b7 (i:=1) Kq.nd rfl (Or.inl rfl) (aX aZ (pv 0) aq (fun _ _=>rfl)))
   (ao (bh (aK bJ (pv 1) aO (aM _)) (au (aP (bZ bJ (aG aU (by rfl) T.len bV (aa (pv 0) aj)) aq (aM _)))) aQ)
   (ao (bh (aK bJ (pv 1) aO (aM _)) (au (aP (cX (bZ bJ (aG aU (by rfl) T.len bV (aa (pv 0) aj)) aq (aM _)) (fZ (aB GW hr rfl DW.mg DW.F.kp DW.b .nil aL (aa (aX aZ (pv 0) aq (fun _ _=>rfl)) aj)))))) aQ)
   (au (aP (cX (bZ pU (pv 1) (d7 (v:=.ref aS) rfl TB.ms rfl) rfl) (cX (bZ bJ (aG aU (by rfl) T.len bV (aa (pv 0) aj)) aq (aM _)) (cX (aB GW hr rfl DW.mg DW.F.kp DW.b .nil aL (aa (aX aZ (pv 0) aq (fun _ _=>rfl)) aj)) (fZ (aB GN hr1 rfl DN.mg DN.F.kp DN.b .nil aL (aa (aX aZ (pv 0) aq (fun _ _=>rfl)) aj))))))))))),?_⟩
  cases td with
  |node af lf nr tr=>
  cases rd with
  |@tup _ xs _ sq rs=>
  obtain ⟨x0,ys,rfl⟩:∃ x0 ys,xs=x0::ys:=by cases rs;exact ⟨_,_,rfl⟩
  obtain ⟨r0,rt⟩:Rep K H x0 (.str f)/\bj K H ys r:=by cases rs with|cons a b=>exact ⟨a,b⟩
  cases r0
  have hl:=rt.length
  refine ⟨_,rfl,a,_,_,_,rfl,rfl,sq,aD (j:=0) rfl,_,rfl,rfl,_,rfl,?_⟩
  unfold dR at k
  by_cases h1:f = "all"
  ·subst h1
   rw [if_pos rfl] at k
   refine cQ (by simp) ⟨_,rfl,a,_,rfl,.inr sq,rfl,?_⟩
   have e:decide (V.int ((V.str "all"::ys).length:Nat)=V.int 1)=r.isEmpty:=by
    rw [Bool.eq_iff_iff,decide_eq_true_eq,List.isEmpty_iff,List.length_cons,V.int.injEq]
    constructor
    ·intro h
     exact List.length_eq_zero_iff.mp (by omega)
    ·rintro rfl
     simp at hl
     simp [hl]
   rw [e]
   exact k
  ·rw [if_neg h1] at k
   refine b_ (by simp [h1]) ⟨_,rfl,rfl,_,rfl,?_⟩
   by_cases h2:f = "is"
   ·subst h2
    rw [if_pos rfl] at k
    refine cQ (by simp) ⟨_,rfl,a,_,rfl,.inr sq,rfl,_,rfl,?_⟩
    match r,ys,rt,k,hl with
    |[],[],_,k,_=>exact b_ (by simp) k
    |[d],[y],.cons ry .nil,k,_=>exact cQ (by simp) ⟨_,rfl,a,_,_,_,rfl,rfl,sq,aD (j:=1) rfl,y,d,rfl,ry,tr d (List.mem_cons_self ..),k⟩
    |_::_::_,_::_::_,_,k,_=>exact b_ (by simp;omega) k
   ·rw [if_neg h2] at k
    refine b_ (by simp [h2]) ⟨_,rfl,f,aS,dS,rfl,rfl,TB.ks,_,rfl,?_⟩
    have e:(if false=true then !(j9 dS f).isSome else (j9 dS f).isSome)=decide (f = "less"∨f = "same"):=by
     rw [tV]
     by_cases q1:f = "less"
     ·simp [q1]
     ·by_cases q2:f = "same"
      ·rw [if_neg q1,if_pos q2];simp [q2]
      ·simp [q1,q2]
    rw [e]
    by_cases h3:f = "less"∨f = "same"
    ·rw [decide_eq_true h3,Bool.true_and] at k
     refine cQ (by simp [h3]) ⟨_,rfl,a,_,rfl,.inr sq,rfl,_,rfl,?_⟩
     match r,ys,rt,k,hl with
     |[],[],_,k,_=>exact b_ (by simp) k
     |[d],[y],_,k,_=>exact b_ (by simp) k
     | [d,d2],[y,y2],.cons ry (.cons ry2 .nil),k,_=>
       refine cQ (by simp) ⟨_,rfl,a,_,_,_,rfl,rfl,sq,aD (j:=1) rfl,y,d,rfl,ry,tr d (List.mem_cons_self ..),_,rfl,?_⟩
       have k:Q (.bl (iU d && qM d2)) H:=k
       cases hw:iU d with
       |false=>rw [hw] at k;exact b_ rfl k
       | true=>
         rw [hw] at k
         exact cQ rfl ⟨_,rfl,a,_,_,_,rfl,rfl,sq,aD (j:=2) rfl,y2,d2,rfl,ry2,tr d2 (List.mem_cons_of_mem _ (List.mem_cons_self ..)),k⟩
     |_::_::_::_,_::_::_::_,_,k,_=>exact b_ (by simp;omega) k
    ·rw [decide_eq_false h3,Bool.false_and] at k
     exact b_ (by simp [h3]) k
end
theorem gr (h:arity f=some k):1≤k/\k≤2:=by
 unfold arity at h
 split at h
 ·cases h;omega
 ·split at h
  ·cases h;omega
  ·split at h
   ·cases h;omega
   ·cases h
theorem qJ:∀ (n:Nat) (d:PyData),cnt n d+1≤2 ^ n
 |0,_=>by simp [cnt]
 | n+1,d=>by
   have ih:=qJ n
   have p:1≤2 ^ n:=Nat.one_le_two_pow
   rw [Nat.pow_succ]
   by_cases hd:∃ f r,d=.tuple (.str f::r)
   ·obtain ⟨f,r,rfl⟩:=hd
    show (if dR f r=true then 1 else if arity f=some r.length then (if 0∈r.map (cnt n) then 0 else 1+(r.map (cnt n)).sum) else 0)+1≤_
    split
    ·omega
    ·split
     ·rename_i h
      split
      ·omega
      ·have a:=gr h
       match r,a with
       |[x],_=>have:=ih x;simp;omega
       |[x,y],_=>have:=ih x;have:=ih y;simp;omega
       |_::_::_::_,a=>simp at a
       |[],a=>simp at a
     ·omega
   ·have e:cnt (n+1) d=0:=by
     unfold cnt
     split
     ·omega
     ·exact absurd ⟨_,_,rfl⟩ hd
     ·rfl
    omega
theorem ym (g:PyData->Nat) (r:List PyData):(r.map fun d=>((g d:Nat):Int)).sum=(((r.map g).sum:Nat):Int):=by
 induction r with
 |nil=>rfl
 |cons d r ih=>rw [List.map_cons,List.map_cons,List.sum_cons,List.sum_cons,ih];omega
def xn (K:Frag) (n:Nat):Sp:=fun vs H Q _=>∃ (x:V) (d:PyData),vs=[x,.int (n:Nat)]/\Rep K H x d/\TD d/\∀ H',aC H H'->Q (.int (cnt n d:Nat)) H'
abbrev QK:List Str:=["thing","deep","counts"]
theorem KQ:aR QK ["thing","deep"] (aA (top 26)):=⟨rfl,rfl,rfl,by decide +kernel,rfl,by decide +kernel,by decide +kernel⟩
theorem qF:j0 (x::xs) (some 1) none=xs:=by
 simp [j0,HT.dj]
theorem K1 (DC:cF K mg "count_parts" (top 26) ["thing","deep"] f fd) (T:Txt K mg) (hsum:mg "sum" = none) (TK:oK mg) (TB:rC K mg aW aS) (DI:cF K mg "is_name" (top 13) ["text"] fI fdI) (DW:cF K mg "is_word" (top 23) ["thing"] fW fdW) (DN:cF K mg "is_number" (top 24) ["thing"] fN fdN)
 (DL:cF K mg "is_leaf" (top 25) ["test"] fL fdL) (n:Nat) (hn5:n≤20):aN P w K mg base bL (n+4) f fd ["thing","deep"] (xn K n):=by
 have GL:aN P w K mg base bL 3 fL fdL ["test"] (Fq K):=Jb DL.F T TK TB DI DW DN
 have main:∀ m k:Nat,m≤20->(∀ n,n+1=m->aN P w K mg base bL (n+4) f fd ["thing","deep"] (xn K n))->aN P w K mg base bL (m+4) f fd ["thing","deep"] (xn K m):=by
  intro m k0 hm GC
  refine DC.F.ok KQ (fun vs H Q E h=>?_) (fun cdv A outer s H vs Q E hr h=>?_)
  ·obtain ⟨x,d,rfl,_⟩:=h
   rfl
  ·obtain ⟨x,d,rfl,rd,td,k⟩:=h
   have hr3:bH 3 _:=hr.mono (by omega)
   have GC':aN P w K mg base bL (m+3) f fd ["thing","deep"] (fun vs H Q E=>∃ n,n+1=m/\xn K n vs H Q E):=by
    match m,GC with
    |0,_=>exact ⟨fun _ _ _ _ ⟨n,e,_⟩=>by omega,fun _ _ _ _ _ _ _ _ _ _ _ _ _ ⟨n,e,_⟩=>by omega⟩
    | m+1,GC=>
      have G:=GC m rfl
      exact ⟨fun vs H Q E ⟨n,e,h⟩=>by cases e;exact G.1 vs H Q E h,fun a1 a2 a3 a4 a5 a6 a7 a8 a9 a10 a11 a12 a13 ⟨n,e,h⟩=>by cases e;exact G.2 a1 a2 a3 a4 a5 a6 a7 a8 a9 a10 a11 a12 a13 h⟩
   refine ⟨_,(ao (bh (PW.pt (m7 (aK bJ (pv 1) aq (aM _)) (m7 (gU (dI (aG bY (by rfl) T.isinstance aY (aa (pv 0) (aa (dh rfl T.tuple fG) aj))))) (jD (aK bJ (aG aU (by rfl) T.len bV (aa (pv 0) aj)) aq (aM _)))))) (au (aP aq)) aQ)
    (ao (bh (dI (aB GL hr3 rfl DL.mg DL.F.kp DL.b .nil aL (aa (pv 0) aj))) (au (aP aq)) aQ)
    (ao (bh (aK jU (uV (d7 (v:=.ref aW) rfl TB.mw rfl) (aX aZ (pv 0) aq (fun _ _=>rfl)) ⟨rfl,rfl,rfl,rfl⟩) (a_ dJ (aG aU (by rfl) T.len bV (aa (pv 0) aj)) aq) (aM _)) (au (aP aq)) aQ)
    (ao (eZ (g:=bK 0) (i:=2) (own:=["part"]) (js:=[1]) (N':=["part","deep"]) (bu.of (osc:=aA (top 26)) (N:=QK) rfl rfl ⟨rfl,by decide +kernel,by decide +kernel,by decide +kernel,rfl,by decide +kernel⟩) rfl KQ.nd rfl rfl (ig (gF kO (pv 0) (iD aq) iH)) (fun _ _ _ _ _=>(aV (i:=0) (show List.Nodup (["part","deep"]:List Str) by decide +kernel) rfl (Or.inl rfl) (Or.inr rfl))) (fun _ _ _ _ _=>eY) (fun _ _ _ _ _=>aB GC' hr rfl DC.mg DC.F.kp DC.b .nil aL (aa (pv 0) (aa (a_ dJ (pv 1) aq) aj))))
    (au (aP (gj (aK gK aq (pv 2) rfl) aq (a_ cI aq (aG (vQ rfl) (by rfl) hsum Ej (aa (pv 2) aj)))))))))),?_⟩
   refine ⟨_,rfl,rfl,_,rfl,?_⟩
   by_cases h0:m=0
   ·subst h0
    exact cQ (by simp) (cQ rfl (k _ (aC.refl _)))
   refine b_ (by simp [h0]) ?_
   obtain ⟨n,rfl⟩:∃ n,m=n+1:=⟨m-1,by omega⟩
   cases td with
   |str a l=>cases rd;exact ⟨_,rfl,_,_,_,_,rfl,.str _,rfl,_,rfl,cQ rfl (cQ rfl (k _ (aC.refl _)))⟩
   |int a b=>cases rd;exact ⟨_,rfl,_,_,_,_,rfl,.int _,rfl,_,rfl,cQ rfl (cQ rfl (k _ (aC.refl _)))⟩
   | nil=>
     cases rd with
     |@tup a xs _ sq rs=>
     cases rs
     exact ⟨_,rfl,_,_,_,_,rfl,.tup sq .nil,rfl,_,rfl,b_ rfl ⟨_,rfl,a,_,rfl,.inr sq,rfl,_,rfl,cQ (by simp) (k _ (aC.refl _))⟩⟩
   |@node f r af lf nr tr=>
   have rd0:=rd
   cases rd with
   |@tup a xs _ sq rs=>
   obtain ⟨x0,ys,rfl⟩:∃ x0 ys,xs=x0::ys:=by cases rs;exact ⟨_,_,rfl⟩
   obtain ⟨r0,rt⟩:Rep K H x0 (.str f)/\bj K H ys r:=by cases rs with|cons a b=>exact ⟨a,b⟩
   cases r0
   have hl:=rt.length
   refine ⟨_,rfl,_,_,_,_,rfl,rd0,rfl,_,rfl,b_ rfl ⟨_,rfl,a,_,rfl,.inr sq,rfl,_,rfl,b_ (by simp;omega) ?_⟩⟩
   refine ⟨_,rfl,a,f,r,rfl,rd0,.node af lf nr tr,_,rfl,?_⟩
   have e1:cnt (n+1) (.tuple (.str f::r))=if dR f r=true then 1 else if arity f=some r.length then (if 0∈r.map (cnt n) then 0 else 1+(r.map (cnt n)).sum) else 0:=rfl
   rw [e1] at k
   by_cases hlf:dR f r=true
   ·rw [if_pos hlf] at k
    rw [hlf]
    exact cQ rfl (k _ (aC.refl _))
   rw [if_neg hlf] at k
   rw [Bool.eq_false_iff.mpr hlf]
   refine b_ rfl ?_
   refine ⟨aW,dW,rfl,TB.kw,_,rfl,a,_,_,_,rfl,rfl,sq,aD (j:=0) rfl,f,rfl,_,rfl,a,_,rfl,.inr sq,_,_,rfl,rfl,?_⟩
   rw [Ao]
   by_cases ha:arity f=some r.length
   ·rw [if_pos ha] at k
    rw [ha]
    refine ⟨rfl,_,rfl,b_ (by simp;omega) ?_⟩
    refine ⟨_,rfl,1,rfl,a,_,rfl,sq,(fun e=>?_),fun p hp=>?_⟩
    ·rw [qF] at e
     have:=congrArg List.length e
     simp at this
    ·rw [qF]
     have sp:bF K (upd H p (.tup ys)) p ys:=bF.of ak
     have s1:aC H (upd H p (.tup ys)):=aC.new hp
     generalize upd H p (.tup ys)=H1 at sp s1 ⊢
     refine ⟨p,rfl,⟨_,sp⟩,?_⟩
     refine lW (K:=K) (a:=p) (xs:=ys) (fun i zs σ' H'=>(∃ v,σ'=[v,some (.int (n+1:Nat))])/\aC H1 H'/\zs=((r.take i).map fun d=>V.int (cnt n d:Nat))) (Nat.le_trans (show ys.length≤20 by omega) (by decide)) ⟨⟨none,rfl⟩,aC.refl _,rfl⟩ (fun i zs σ' H' _ ⟨_,s2,_⟩=>s2.tup sp) ?_ ?_
     ·rintro i y zs σ' H2 hy hzs ⟨⟨v,rfl⟩,s2,rfl⟩ N hN
      obtain ⟨d,hd,ry⟩:=rt.get' hy
      refine ⟨_,rfl,_,rfl,_,_,rfl,rfl,n,rfl,y,d,?_,ry.same (s1.trans s2),tr d (List.mem_of_getElem? hd),fun H3 s3=>?_⟩
      ·show [y,V.int ((n+1:Nat)-1)]=[y,V.int (n:Nat)]
       rw [show (((n+1:Nat):Int)-1)=(n:Nat) by omega]
      ·exact hN _ _ _ (by rw [List.length_append,hzs];rfl) ⟨⟨_,rfl⟩,s2.trans s3,by rw [List.take_add_one,hd];simp⟩
     ·rintro zs σ' H2 hzs ⟨⟨v,rfl⟩,s2,rfl⟩
      rw [List.take_of_length_le (by omega)]
      have lr:(r.map fun d=>V.int (cnt n d:Nat)).length≤20:=by rw [List.length_map];omega
      refine ⟨Nat.le_trans lr (by decide),fun q hq=>?_⟩
      have s3:aC H (upd H2 q (.lst (r.map fun d=>V.int (cnt n d:Nat)))):=(s1.trans s2).trans (aC.new hq)
      have sq2:bM K (upd H2 q (.lst (r.map fun d=>V.int (cnt n d:Nat)))) q (r.map fun d=>V.int (cnt n d:Nat)):=bM.of ak
      generalize upd H2 q (.lst (r.map fun d=>V.int (cnt n d:Nat)))=H3 at s3 sq2 ⊢
      refine ⟨_,rfl,q,_,rfl,.inl sq2,rfl,by simp [jo],_,rfl,?_⟩
      have ein:(if false=true then !inV (.int 0) (r.map fun d=>V.int (cnt n d:Nat)) else inV (.int 0) (r.map fun d=>V.int (cnt n d:Nat)))=decide (0∈r.map (cnt n)):=by
       show inV (.int 0) (r.map fun d=>V.int (cnt n d:Nat))=_
       rw [Bool.eq_iff_iff,decide_eq_true_eq]
       unfold inV
       simp only [List.any_eq_true,List.mem_map]
       constructor
       ·rintro ⟨_,⟨d,hd,rfl⟩,he⟩
        exact ⟨d,hd,by simpa [tR] using he⟩
       ·rintro ⟨d,hd,he⟩
        exact ⟨_,⟨d,hd,rfl⟩,by simp [he,tR]⟩
      rw [ein]
      by_cases hz:0∈r.map (cnt n)
      ·rw [if_pos hz] at k
       rw [decide_eq_true hz]
       exact cQ rfl (k _ s3)
      ·rw [if_neg hz] at k
       rw [decide_eq_false hz]
       refine b_ rfl ?_
       refine ⟨_,rfl,q,r.map fun d=>((cnt n d:Nat):Int),rfl,by rw [List.map_map];exact sq2,by rw [List.length_map];omega,fun x hx=>?_,_,_,rfl,rfl,?_⟩
       ·obtain ⟨d,_,rfl⟩:=List.mem_map.mp hx
        have:=qJ n d
        have p20:2 ^ n≤2 ^ 20:=Nat.pow_le_pow_right (by decide) (by omega)
        have:(2:Nat) ^ 20=1048576:=by decide
        omega
       ·have es:=ym (cnt n) r
        rw [es]
        have:=k _ s3
        rw [show ((1+(r.map (cnt n)).sum:Nat):Int)=1+(((r.map (cnt n)).sum:Nat):Int) by omega] at this
        exact this
   ·rw [if_neg ha] at k
    cases hb:arity f with
    |none=>exact ⟨rfl,_,rfl,cQ rfl (k _ (aC.refl _))⟩
    | some j=>
      refine ⟨rfl,_,rfl,cQ ?_ (k _ (aC.refl _))⟩
      have:¬ j=r.length:=fun e=>ha (by rw [hb,e])
      simp
      omega
 induction n with
 |zero=>exact main 0 0 (by omega) (fun n e=>by omega)
 |succ n ih=>exact main (n+1) 0 hn5 (fun n' e=>by cases e;exact ih (by omega))
theorem k_:∀ {r:List PyData} {d:PyData},shapes r=true->d∈r->bA d=true
 | e::r,d,h,m=>by
   have h:(bA e && shapes r)=true:=h
   rw [Bool.and_eq_true] at h
   rcases List.mem_cons.mp m with rfl|m
   ·exact h.1
   ·exact k_ h.2 m
theorem nR:∀ {r:List PyData} {d:PyData},d∈r->bO d≤dw r
 | e::r,d,m=>by
   have h:dw (e::r)=max (bO e) (dw r):=rfl
   rcases List.mem_cons.mp m with rfl|m
   ·omega
   ·have:=nR m
    omega
theorem e_:∀ (a b:List PyData),du (a++b)=du a++du b
 |[],b=>rfl
 | d::a,b=>by
   show gG d++du (a++b)=(gG d++du a)++du b
   rw [e_ a b,List.append_assoc]
theorem bR (d:PyData):du [d]=gG d:=by
 show gG d++[]=_
 rw [List.append_nil]
structure Node (n:Nat) (f:Str) (r:List PyData):Prop where
 ar:arity f=some r.length
 sh:∀ d∈r,bA d=true
 de:∀ d∈r,bO d≤n
theorem fQ (h:bA (.tuple (.str f::r))=true) (hd:bO (.tuple (.str f::r))≤n+1):(arity f=none/\dR f r=true)∨Node n f r:=by
 rw [eU] at h
 by_cases ha:arity f=none
 ·rw [if_pos ha] at h
  exact .inl ⟨ha,h⟩
 ·rw [if_neg ha,Bool.and_eq_true,decide_eq_true_eq] at h
  have e:bO (.tuple (.str f::r))=if (arity f).isSome=true then 1+dw r else 1:=rfl
  rw [h.1] at e
  have e:bO (.tuple (.str f::r))=1+dw r:=e
  exact .inr ⟨h.1,fun d m=>k_ h.2 m,fun d m=>by have:=nR m;omega⟩
theorem bT (td:TD d) (h:bA d=true):∃ f r,d=.tuple (.str f::r):=by
 cases td with
 |node a b c e=>exact ⟨_,_,rfl⟩
 |_=>exact absurd h (by simp [bA])
theorem jn:∀ {n:Nat} {d:PyData},TD d->bA d=true->bO d≤n->(gG d).length≤2 ^ n
 |0,d,_,_,h=>by have:=cO d;omega
 | n+1,d,td,sh,h=>by
   obtain ⟨f,r,rfl⟩:=bT td sh
   have p:1≤2 ^ n:=Nat.one_le_two_pow
   have e:gG (.tuple (.str f::r))=if (arity f).isSome=true then du r else [.tuple (.str f::r)]:=rfl
   rw [e,Nat.pow_succ]
   cases td with
   |node a b c tr=>
   rcases fQ sh h with ⟨ha,_⟩|N
   ·rw [ha];simp;omega
   ·rw [N.ar]
    simp only [Option.isSome_some,if_true]
    have a2:=gr N.ar
    match r,a2,N,tr with
    | [x],_,N,tr=>
      have:=jn (tr x (by simp)) (N.sh x (by simp)) (N.de x (by simp))
      rw [bR];omega
    | [x,y],_,N,tr=>
      have h1:=jn (tr x (by simp)) (N.sh x (by simp)) (N.de x (by simp))
      have h2:=jn (tr y (by simp)) (N.sh y (by simp)) (N.de y (by simp))
      have:du [x,y]=gG x++gG y:=by rw [show [x,y]=[x]++[y] from rfl,e_,bR,bR]
      rw [this,List.length_append];omega
    |_::_::_::_,a2,_,_=>simp at a2
    |[],a2,_,_=>simp at a2
theorem lR:∀ {n:Nat} {d:PyData},TD d->bA d=true->bO d≤n->∀ e∈gG d,TD e
 |0,d,_,_,h=>by have:=cO d;omega
 | n+1,d,td,sh,h=>by
   obtain ⟨f,r,rfl⟩:=bT td sh
   intro e he
   have td':=td
   have eq:gG (.tuple (.str f::r))=if (arity f).isSome=true then du r else [.tuple (.str f::r)]:=rfl
   rw [eq] at he
   cases td with
   |node a b c tr=>
   rcases fQ sh h with ⟨ha,_⟩|N
   ·rw [ha] at he
    simp at he
    rw [he];exact td'
   ·rw [N.ar] at he
    simp only [Option.isSome_some,if_true] at he
    have a2:=gr N.ar
    match r,a2,N,tr,he with
    | [x],_,N,tr,he=>
      rw [bR] at he
      exact lR (tr x (by simp)) (N.sh x (by simp)) (N.de x (by simp)) e he
    | [x,y],_,N,tr,he=>
      have:du [x,y]=gG x++gG y:=by rw [show [x,y]=[x]++[y] from rfl,e_,bR,bR]
      rw [this,List.mem_append] at he
      rcases he with he|he
      ·exact lR (tr x (by simp)) (N.sh x (by simp)) (N.de x (by simp)) e he
      ·exact lR (tr y (by simp)) (N.sh y (by simp)) (N.de y (by simp)) e he
    |_::_::_::_,a2,_,_,_=>simp at a2
    |[],a2,_,_,_=>simp at a2
theorem jr (h:bF K H a xs) (hq:H q=some (.lst ys)):bF K (upd H q o) a xs:=by
 rcases h with (h|⟨ob,h⟩)|h
 ·exact .inl (.inl (by rw [aF (gn h hq (by intro z;cases z))];exact h))
 ·exact .inl (.inr ⟨ob,by rw [aF (gn h hq (by intro z;cases z))];exact h⟩)
 ·exact .inr h
theorem yX (hq:H q=some (.lst ys)):∀ {d:PyData} {v:V},TD d->Rep K H v d->Rep K (upd H q o) v d:=by
 intro d v td
 induction td generalizing v with
 |str a l=>intro r;cases r;exact .str _
 |int a b=>intro r;cases r;exact .int _
 |nil=>intro r;cases r with|tup sq rs=>cases rs;exact .tup (jr sq hq) .nil
 | @node f r a b c tr ih=>
   intro rp
   cases rp with
   |tup sq rs=>
   cases rs with
   |cons r0 rs=>
   cases r0
   refine .tup (jr sq hq) (.cons (.str _) ?_)
   have:∀ {l:List PyData} {vs:List V},(∀ d∈l,d∈r)->bj K H vs l->bj K (upd H q o) vs l:=by
    intro l
    induction l with
    |nil=>intro vs _ h;cases h;exact .nil
    | cons e l ihl=>
      intro vs hm h
      cases h with
      |cons h1 h2=>exact .cons (ih e (hm e (List.mem_cons_self ..)) h1) (ihl (fun d m=>hm d (List.mem_cons_of_mem _ m)) h2)
   exact this (fun d m=>m) rs
theorem ie (hq:H q=some (.lst ys)):∀ {l:List PyData} {vs:List V},(∀ d∈l,TD d)->bj K H vs l->bj K (upd H q o) vs l
 |[],_,_,.nil=>.nil
 |e::l,_,ht,.cons a b=>.cons (yX hq (ht e (List.mem_cons_self ..)) a) (ie hq (fun d m=>ht d (List.mem_cons_of_mem _ m)) b)
theorem ii:∀ {l m:List PyData} {vs us:List V},bj K H vs l->bj K H us m->bj K H (vs++us) (l++m)
 |[],_,_,_,.nil,h=>h
 |_::_,_,_,_,.cons a b,h=>.cons a (ii b h)
section
variable {P:Program} {w:World} {K:PySem.W.Frag} {mg:Str->Option Value} {base:Heap}
structure Jk (mg:Str->Option Value):Prop where
 mp:∃ t,mg "MOST_PARTS" = some (.int 15 t)
 md:∃ t,mg "MOST_DEEP" = some (.int 5 t)
def Hz (K:Frag):Sp:=fun vs H Q _=>∃ (x:V) (d:PyData),vs=[x]/\Rep K H x d/\TD d/\∀ H',aC H H'->Q (.bl (cU d)) H'
theorem QB:aR ["test"] ["test"] (aA (top 27)):=⟨rfl,rfl,rfl,by decide +kernel,rfl,by decide +kernel,by decide +kernel⟩
theorem FN (F:fX K "is_test" "is_test" (top 27) f fd) (TT:Jk mg) (DC:cF K mg "count_parts" (top 26) ["thing","deep"] fC fdC) (GC:aN P w K mg base bL 9 fC fdC ["thing","deep"] (xn K 5)):aN P w K mg base bL 10 f fd ["test"] (Hz K):=by
 refine F.ok QB (fun vs H Q E h=>?_) (fun cdv A outer s H vs Q E hr h=>?_)
 ·obtain ⟨x,d,rfl,_⟩:=h
  rfl
 ·obtain ⟨x,d,rfl,rd,td,k⟩:=h
  obtain ⟨t1,mp⟩:=TT.mp
  obtain ⟨t2,md⟩:=TT.md
  refine ⟨_,(au (aP (ql fK fK aq (aB GC hr rfl DC.mg DC.F.kp DC.b .nil aL (aa (pv 0) (aa (d7 (v:=.int 5) rfl md ⟨_,rfl⟩) aj))) (d7 (v:=.int 15) rfl mp ⟨_,rfl⟩)))),?_⟩
  refine ⟨_,rfl,x,d,rfl,rd,td,fun H' s1=>⟨_,_,rfl,rfl,_,rfl,?_⟩⟩
  have k:=k H' s1
  rw [← zm] at k
  refine fH (fun h=>?_) (fun h=>?_)
  ·refine ⟨_,_,rfl,rfl,?_⟩
   have e1:1≤cnt 5 d:=by simp at h;omega
   have e2:decide (((cnt 5 d:Nat):Int)≤15)=decide (cnt 5 d≤15):=by rw [Bool.eq_iff_iff];simp;omega
   rw [decide_eq_true e1,Bool.true_and] at k
   show Q (.bl (decide (((cnt 5 d:Nat):Int)≤15))) H'
   rw [e2]
   exact k
  ·have e1:¬ 1≤cnt 5 d:=by simp at h;omega
   rw [decide_eq_false e1,Bool.false_and] at k
   exact k
abbrev Ph:List (Str×V):=[("word",.str "badtest")]
def Dh (K:Frag) (cT:Addr):Sp:=fun vs H Q E=>∃ (x:V) (d:PyData),vs=[x]/\Rep K H x d/\TD d/\(cU d=true->∀ H',aC H H'->Q .non H')/\(cU d=false->∀ H1 da H',aC H H1->jP H1 Ph da H'->E (.ref cT) (some da) H')
theorem Qe:aR ["test"] ["test"] (aA (top 28)):=⟨rfl,rfl,rfl,by decide +kernel,rfl,by decide +kernel,by decide +kernel⟩
theorem K5 (F:fX K "need_test" "need_test" (top 28) f fd) (DI:cF K mg "is_test" (top 27) ["test"] fI fdI) (GI:aN P w K mg base bL 10 fI fdI ["test"] (Hz K)) (WT:Ht K mg "BadTest" cT fT fdT) (GT:aN P w K mg base bL 2 fT fdT ["self","words"] (QQ K "badtest")):aN P w K mg base (qY P w) 11 f fd ["test"] (Dh K cT):=by
 refine F.ok1 Qe (fun vs H Q E h=>?_) (fun cdv A outer s H vs Q E hr h=>?_)
 ·obtain ⟨x,d,rfl,_⟩:=h
  rfl
 ·obtain ⟨x,d,rfl,rd,td,k,kx⟩:=h
  have hr3:bH 3 _:=hr.mono (by decide)
  refine ⟨_,(au (bh (gU (dI (aB (E:=E0) GI hr rfl DI.mg DI.F.kp DI.b .nil aL (aa (pv 0) aj)))) (au (lU (B:="ValueError") (newId:="ValueError.__new__") (W:=E)
   (mz (E:=E0) PySem.F.excBase_ValueError WT.e.x WT.i WT.n GT hr3 (by rfl) WT.mg WT.b .nil aL (aa aO aj)) rfl rfl (fun Z U H' s' e cls dd I x q=>Ly I x q))) aQ)),?_⟩
  refine ⟨_,rfl,x,d,rfl,rd,td,fun H1 s1=>⟨_,rfl,?_⟩⟩
  cases h:cU d with
  |true=>exact b_ rfl (k h H1 s1)
  | false=>
    refine cQ rfl ?_
    intro e he
    refine ⟨e,cT,_,rfl,WT.e,ak,fun da hda=>⟨rfl,e,cT,some da,rfl,?_,gH s1 he,WT.e.x,kx h H1 da _ s1 (mV he hda)⟩⟩
    have ne:e≠da:=fun q=>by subst q;rw [ak] at hda;cases hda
    rw [aF ne,ak]
theorem sr (h:cU d=true):bA d=true/\bO d≤5/\cM d≤15:=by
 unfold cU at h
 simpa using h
def Be (K:Frag) (n:Nat):Sp:=fun vs H Q _=>∃ (x:V) (d:PyData),vs=[x]/\Rep K H x d/\TD d/\bA d=true/\bO d≤n/\n≤10/\∀ l xs H',aC H H'->H l=none->H' l=some (.lst xs)->bj K H' xs (gG d)->Q (.ref l) H'
abbrev R8:List Str:=["test","found","part"]
theorem Ei:aR R8 ["test"] (aA (top 29)):=⟨rfl,rfl,rfl,by decide +kernel,rfl,by decide +kernel,by decide +kernel⟩
theorem Jc (DL:cF K mg "leaves_within" (top 29) ["test"] f fd) (TB:rC K mg aW aS) (n:Nat):aN P w K mg base bL n f fd ["test"] (Be K n):=by
 refine Nat.rec (motive:=fun n=>aN P w K mg base bL n f fd ["test"] (Be K n)) ⟨fun _ _ _ _ h=>?_,fun _ _ _ _ _ _ _ _ _ _ _ _ _ h=>?_⟩ (fun n GL=>?_) n
 ·obtain ⟨x,d,_,_,_,_,hd,_⟩:=h
  have:=cO d
  exact absurd (Nat.le_trans this hd) (by decide)
 ·obtain ⟨x,d,_,_,_,_,hd,_⟩:=h
  have:=cO d
  exact absurd (Nat.le_trans this hd) (by decide)
 refine DL.F.ok Ei (fun vs H Q E h=>?_) (fun cdv A outer s H vs Q E hr h=>?_)
 ·obtain ⟨x,d,rfl,_⟩:=h
  rfl
 ·obtain ⟨x,d,rfl,rd,td,sh,hd,hn,k⟩:=h
  refine ⟨_,(ao (bh (aK pY (aX aZ (pv 0) aq (fun _ _=>rfl)) (d7 (v:=.ref aW) rfl TB.mw rfl) rfl) (au (aP (bW (aa (pv 0) aj)))) aQ)
   (ao (b7 (i:=1) Ei.nd rfl (Or.inl rfl) (bW aj))
   (ao (d9 PassesOwn.never rfl (ig (gF kO (pv 0) (iD aq) iH)) (aV (i:=2) Ei.nd rfl (Or.inl rfl)) (au (c7 (jm PySem.F.plainAttrs_list PySem.F.slot_list_extend PySem.F.type_list_extend nA (pv 1) (aa (aB GL hr rfl DL.mg DL.F.kp DL.b .nil aL (aa (pv 2) aj)) aj)))))
   (au (aP (pv 1)))))),?_⟩
  obtain ⟨f,r,rfl⟩:=bT td sh
  have td0:=td
  have rd0:=rd
  cases td with
  |node af lf nr tr=>
  cases rd with
  |@tup a xs _ sq rs=>
  obtain ⟨x0,ys,rfl⟩:∃ x0 ys,xs=x0::ys:=by cases rs;exact ⟨_,_,rfl⟩
  obtain ⟨r0,rt⟩:Rep K H x0 (.str f)/\bj K H ys r:=by cases rs with|cons a b=>exact ⟨a,b⟩
  cases r0
  have hl:=rt.length
  refine ⟨_,rfl,a,_,_,_,rfl,rfl,sq,aD (j:=0) rfl,f,aW,dW,rfl,rfl,TB.kw,_,rfl,?_⟩
  rw [Ao]
  have eq:gG (.tuple (.str f::r))=if (arity f).isSome=true then du r else [.tuple (.str f::r)]:=rfl
  rcases fQ sh hd with ⟨ha,_⟩|N
  ·rw [ha] at eq ⊢
   have eq:gG (.tuple (.str f::r))=[.tuple (.str f::r)]:=eq
   rw [eq] at k
   refine cQ rfl ⟨_,rfl,(show 1≤sizeLine by decide),fun q hq=>k q _ _ (aC.new hq) hq ak (.cons (rd0.same (aC.new hq)) .nil)⟩
  ·rw [N.ar] at eq ⊢
   have eq:gG (.tuple (.str f::r))=du r:=eq
   rw [eq] at k
   refine b_ rfl ⟨(show 0≤sizeLine by decide),fun q hq=>?_⟩
   have s1:aC H (upd H q (.lst [])):=aC.new hq
   have hq1:(upd H q (.lst [])) q=some (.lst []):=ak
   generalize upd H q (.lst [])=H1 at s1 hq1 ⊢
   have a2:=gr N.ar
   refine ⟨_,rfl,1,rfl,a,_,rfl,s1.tup sq,(fun e=>?_),fun p hp=>?_⟩
   ·rw [qF] at e
    have:=congrArg List.length e
    simp at this
   ·rw [qF]
    have sp:bF K (upd H1 p (.tup ys)) p ys:=bF.of ak
    have s2:aC H1 (upd H1 p (.tup ys)):=aC.new hp
    have hq2:=s2 _ _ hq1
    generalize upd H1 p (.tup ys)=H2 at sp s2 hq2 ⊢
    refine ⟨p,rfl,⟨_,sp⟩,?_⟩
    refine jB (K:=K) (a:=p) (xs:=ys) (fun i σ' H'=>(∃ v,σ'=[some (.ref a),some (.ref q),v])/\aC H H'/\bF K H' p ys/\∃ zs,H' q=some (.lst zs)/\bj K H' zs (du (r.take i))) ⟨⟨none,rfl⟩,s1.trans s2,sp,[],hq2,.nil⟩ (fun i σ' H' _ z=>z.2.2.1) ?_ ?_
    ·rintro i y σ' H3 hy ⟨⟨v,rfl⟩,s3,sp3,zs,hz,rz⟩
     obtain ⟨e,he,ry⟩:=rt.get' hy
     have me:=List.mem_of_getElem? he
     refine ⟨_,rfl,.inl ⟨rfl,_,bM.of hz⟩,_,rfl,y,e,rfl,ry.same s3,tr e me,N.sh e me,N.de e me,by omega,fun l us H4 s4 hn4 hl4 ru=>?_⟩
     have hz4:=s4 _ _ hz
     have le1:=rz.length
     have le2:=ru.length
     have lb:(gG e).length≤2 ^ n:=jn (tr e me) (N.sh e me) (N.de e me)
     have p10:2 ^ n≤2 ^ 10:=Nat.pow_le_pow_right (by decide) (by omega)
     have lz:(du (r.take i)).length≤2*2 ^ n:=by
      have hi:i<r.length:=(List.getElem?_eq_some_iff.mp he).1
      match r,a2,i,hi,N,tr with
      |[x],_,0,_,_,_=>exact Nat.zero_le _
      |[x,y'],_,0,_,_,_=>exact Nat.zero_le _
      | [x,y'],_,1,_,N,tr=>
        have:=jn (tr x (by simp)) (N.sh x (by simp)) (N.de x (by simp))
        rw [show [x,y'].take 1=[x] from rfl,bR];omega
      |[x],_,i+1,h,_,_=>exact absurd h (by simp)
      |[x,y'],_,i+2,h,_,_=>exact absurd h (by simp)
      |_::_::_::_,a2,_,_,_,_=>simp at a2
      |[],_,_,h,_,_=>simp at h
     have:(2:Nat) ^ 10=1024:=by decide
     refine ⟨q,l,zs,us,rfl,rfl,hz4,hl4,Nat.le_trans (show zs.length+us.length≤4000 by omega) (by decide),?_⟩
     have qn:∀ {b:Addr} {u:HO},H b=some u->b≠q:=fun e=>aH e hq
     have tdl:∀ d∈du (r.take i),TD d:=by
      intro d m
      clear lz
      have:∀ (l:List PyData),(∀ e∈l,e∈r)->d∈du l->TD d:=by
       intro l
       induction l with
       |nil=>intro _ m;cases m
       | cons e l ih=>
         intro hm m
         have m:d∈gG e++du l:=m
         rcases List.mem_append.mp m with m|m
         ·have me:=hm e (List.mem_cons_self ..)
          exact lR (tr e me) (N.sh e me) (N.de e me) d m
         ·exact ih (fun e m=>hm e (List.mem_cons_of_mem _ m)) m
      exact this _ (fun e m=>List.mem_of_mem_take m) m
     refine ⟨⟨_,rfl⟩,fun b u e=>by rw [aF (qn e)];exact s4 _ _ (s3 _ _ e),jr (s4.tup sp3) hz4,zs++us,ak,?_⟩
     rw [List.take_add_one,he]
     show bj K _ (zs++us) (du (r.take i++[e]))
     rw [e_,bR]
     exact ii (ie hz4 tdl (rz.same s4)) (ie hz4 (lR (tr e me) (N.sh e me) (N.de e me)) ru)
    ·rintro σ' H3 ⟨⟨v,rfl⟩,s3,sp3,zs,hz,rz⟩
     rw [List.take_of_length_le (by omega)] at rz
     exact ⟨_,rfl,k q zs H3 s3 hq hz rz⟩
end
inductive jL:Str->List PyData->Prop
 |all:jL "all" []
 |is {x:Str}:nameB x=true->jL "is" [.str x]
 |num {f x:Str} {i:Int}:f = "less"∨f = "same"->nameB x=true->qM (.int i)=true->jL f [.str x,.int i]
theorem pF (h:dR f r=true):jL f r:=by
 unfold dR at h
 by_cases h1:f = "all"
 ·subst h1
  rw [if_pos rfl,List.isEmpty_iff] at h
  subst h
  exact .all
 ·rw [if_neg h1] at h
  by_cases h2:f = "is"
  ·subst h2
   rw [if_pos rfl] at h
   cases r with
   |nil=>cases h
   | cons d r=>
     cases r with
     |cons _ _=>cases h
     | nil=>
       cases d with
       |str x=>exact .is h
       |_=>exact absurd h (by simp [iU])
  ·rw [if_neg h2,Bool.and_eq_true,decide_eq_true_eq] at h
   obtain ⟨h0,h⟩:=h
   cases r with
   |nil=>cases h
   | cons d r=>
     cases r with
     |nil=>cases h
     | cons e r=>
       cases r with
       |cons _ _=>cases h
       | nil=>
         have h:(iU d && qM e)=true:=h
         rw [Bool.and_eq_true] at h
         cases d with
         | str x=>
           cases e with
           |int i=>exact .num h0 h.1 h.2
           |_=>exact absurd h.2 (by simp [qM])
         |_=>exact absurd h.1 (by simp [iU])
theorem jL.ar (h:jL f r):arity f=none:=by
 cases h with
 |all=>decide +kernel
 |is _=>decide +kernel
 |num h _ _=>rcases h with rfl|rfl <;> decide +kernel
theorem Eu (h:Nm x):zU x:=by
 unfold zU
 rw [← Array.all_toList,List.all_eq_true]
 intro c hc
 have:=h.lc c hc
 simp;omega
structure Tr (n:Nat) (d:PyData):Prop where
 td:TD d
 sh:bA d=true
 dp:bI d≤n
theorem Ai (h:Nm x):TD (.str x):=.str (Eu h) (by have:=h.hi;omega)
theorem jL.tr (h:jL f r):Tr 1 (.tuple (.str f::r)):=by
 have sh:bA (.tuple (.str f::r))=true:=by
  rw [eU,h.ar,if_pos rfl]
  cases h with
  |all=>rfl
  |is n=>exact n
  | num h n m=>
    unfold dR
    rcases h with rfl|rfl
    ·rw [if_neg (by decide +kernel),if_neg (by decide +kernel)];simp [iU,n,m]
    ·rw [if_neg (by decide +kernel),if_neg (by decide +kernel)];simp [iU,n,m]
 cases h with
 |all=>exact ⟨.node (by unfold zU;decide +kernel) (by decide +kernel) (by simp) (by simp),sh,by simp [bI,bQ]⟩
 | @is x n=>
   refine ⟨.node (by unfold zU;decide +kernel) (by decide +kernel) (by simp) (fun d m=>?_),sh,by simp [bI,bQ]⟩
   simp at m;subst m
   exact Ai ((gD x).mp n)
 | @num f x i h n m1=>
   refine ⟨.node ?_ ?_ (by simp) (fun d m=>?_),sh,by simp [bI,bQ]⟩
   ·rcases h with rfl|rfl <;> (unfold zU;decide +kernel)
   ·rcases h with rfl|rfl <;> decide +kernel
   ·simp at m
    rcases m with rfl|rfl
    ·exact Ai ((gD x).mp n)
    ·have h:(decide (-999999≤i) && decide (i≤999999))=true:=m1
     simp at h
     have:(1000000:Int)≤D_:=by decide
     exact .int (by omega) (by omega)
def Jz:Sp:=fun vs H Q _=>∃ (p dc:Addr),vs=[.ref p]/\Dr H p dc/\∀ (z:Int) (H':Hp),-999999≤z->z≤999999->Dr H' p dc->cD p H H'->Q (.int z) H'
theorem Kz:aR ["_law_d"] ["_law_d"] (aA (top 47)):=⟨rfl,rfl,rfl,by decide +kernel,rfl,by decide +kernel,by decide +kernel⟩
theorem Fw (F:fX K "_law_number" "_law_number" (top 47) f fd) (T:Txt K mg) (DP:cF K mg "_law_pick" (top 38) ["_law_d","_law_many"] fP fdP) (DO:cF K mg "_law_of" (top 39) ["_law_d","_law_things"] fO fdO):aN P w K mg base bL 3 f fd ["_law_d"] Jz:=by
 have GP:aN P w K mg base bL 1 fP fdP ["_law_d","_law_many"] dH:=di DP.F T
 have GO:aN P w K mg base bL 2 fO fdO ["_law_d","_law_things"] (rJ K):=nQ DO.F T DP
 refine F.ok Kz (fun vs H Q E h=>?_) (fun cdv A outer s H vs Q E hr h=>?_)
 ·obtain ⟨p,dc,rfl,_⟩:=h
  rfl
 ·obtain ⟨p,dc,rfl,D,k⟩:=h
  have hr1:bH 1 _:=hr.mono (by decide)
  refine ⟨_,(au (aP (aB GO hr rfl DO.mg DO.F.kp DO.b .nil aL (aa (pv 0) (aa (bW (aa aq (aa aq (aa (aB GP hr1 rfl DP.mg DP.F.kp DP.b .nil aL (aa (pv 0) (aa aq aj))) (aa (a_ dJ (aB GP hr1 rfl DP.mg DP.F.kp DP.b .nil aL (aa (pv 0) (aa aq aj))) aq) (aa aq (aa (lY j5 aq) (aa (a_ dJ (aB GP hr1 rfl DP.mg DP.F.kp DP.b .nil aL (aa (pv 0) (aa aq aj))) aq) aj)))))))) aj))))),?_⟩
  refine ⟨_,rfl,_,rfl,p,dc,_,rfl,D,by decide,by decide,fun r1 H1 r10 r11 D1 b1=>?_⟩
  refine ⟨_,rfl,p,dc,_,rfl,D1,by decide,by decide,fun r2 H2 r20 r21 D2 b2=>⟨_,_,rfl,rfl,_,rfl,?_⟩⟩
  refine ⟨_,rfl,p,dc,_,rfl,D2,by decide,by decide,fun r3 H3 r30 r31 D3 b3=>⟨_,_,rfl,rfl,(show 7≤sizeLine by decide),fun q hq=>?_⟩⟩
  refine ⟨p,dc,q,_,rfl,D3.new hq,bM.of ak,by simp,by simp,fun y H4 hy D4 b4=>?_⟩
  obtain ⟨z,rfl,h1,h2⟩:∃ z:Int,y=.int z/\-999999≤z/\z≤999999:=by
   simp only [List.mem_cons,List.not_mem_nil,or_false] at hy
   rcases hy with rfl|rfl|rfl|rfl|rfl|rfl|rfl
   all_goals exact ⟨_,rfl,by omega,by omega⟩
  exact k z H4 h1 h2 D4 (((b1.trans b2).trans b3).trans ((cD.new hq).trans b4))
def DQ (K:Frag):Sp:=fun vs H Q _=>∃ (p dc q q':Addr) (ys ys':List Str),vs=[.ref p,.ref q,.ref q']/\Dr H p dc/\bM K H q (ys.map V.str)/\bM K H q' (ys'.map V.str)/\ys≠[]/\ys'≠[]/\ys.length≤100/\ys'.length≤100/\(∀ y∈ys,Nm y)/\(∀ y∈ys',Nm y)/\
 ∀ (x:V) (f:Str) (r:List PyData) (H':Hp),Rep K H' x (.tuple (.str f::r))->jL f r->Dr H' p dc->cD p H H'->Q x H'
abbrev Rz:List Str:=["_law_d","_law_names","_law_kinds","_law_way"]
theorem J0:aR Rz ["_law_d","_law_names","_law_kinds"] (aA (top 48)):=⟨rfl,rfl,rfl,by decide +kernel,rfl,by decide +kernel,by decide +kernel⟩
theorem tE {ys:List Str} (h:v∈ys.map V.str):∃ y∈ys,v=.str y:=by
 obtain ⟨y,m,rfl⟩:=List.mem_map.mp h
 exact ⟨y,m,rfl⟩
theorem H_ (F:fX K "_law_leaf" "_law_leaf" (top 48) f fd) (T:Txt K mg) (DP:cF K mg "_law_pick" (top 38) ["_law_d","_law_many"] fP fdP) (DO:cF K mg "_law_of" (top 39) ["_law_d","_law_things"] fO fdO) (DN:cF K mg "_law_number" (top 47) ["_law_d"] fN fdN):aN P w K mg base bL 4 f fd ["_law_d","_law_names","_law_kinds"] (DQ K):=by
 have GP:aN P w K mg base bL 1 fP fdP ["_law_d","_law_many"] dH:=di DP.F T
 have GO:aN P w K mg base bL 2 fO fdO ["_law_d","_law_things"] (rJ K):=nQ DO.F T DP
 have GN:aN P w K mg base bL 3 fN fdN ["_law_d"] Jz:=Fw DN.F T DP DO
 refine F.ok J0 (fun vs H Q E h=>?_) (fun cdv A outer s H vs Q E hr h=>?_)
 ·obtain ⟨p,dc,q,q',ys,ys',rfl,_⟩:=h
  rfl
 ·obtain ⟨p,dc,q,q',ys,ys',rfl,D,hq,hq',ne,ne',l,l',nm,nm',k⟩:=h
  have hr1:bH 1 _:=hr.mono (by decide)
  have hr2:bH 2 _:=hr.mono (by decide)
  refine ⟨_,(ao (b7 (i:=3) J0.nd rfl (Or.inl rfl) (aB GP hr1 rfl DP.mg DP.F.kp DP.b .nil aL (aa (pv 0) (aa aq aj))))
   (ao (bh (aK bJ (pv 3) aq (aM _)) (au (aP (dm (aa aO aj)))) aQ)
   (ao (bh (aK bJ (pv 3) aq (aM _)) (au (aP (dm (aa aO (aa (aB GO hr2 rfl DO.mg DO.F.kp DO.b .nil aL (aa (pv 0) (aa (pv 2) aj))) aj))))) aQ)
   (au (aP (dm (aa (aX cR (bW (aa aO (aa aO aj))) (a_ eG (pv 3) aq) (fun _ _=>rfl)) (aa (aB GO hr2 rfl DO.mg DO.F.kp DO.b .nil aL (aa (pv 0) (aa (pv 1) aj))) (aa (aB GN hr rfl DN.mg DN.F.kp DN.b .nil aL (aa (pv 0) aj)) aj))))))))),?_⟩
  refine ⟨_,rfl,p,dc,_,rfl,D,by decide,by decide,fun w1 H1 w0 w6 D1 b1=>⟨_,rfl,rfl,_,rfl,?_⟩⟩
  refine fH (fun _=>⟨(show 1≤sizeLine by decide),fun t ht=>?_⟩) (fun _=>⟨_,rfl,rfl,_,rfl,?_⟩)
  ·exact k _ "all" [] _ (.tup (bF.of ak) (.cons (.str _) .nil)) .all (D1.new ht) (b1.trans (cD.new ht))
  refine fH (fun _=>?_) (fun _=>?_)
  ·refine ⟨_,rfl,_,rfl,p,dc,q',_,rfl,D1,D.seq b1 hq',by simpa using ne',by rw [List.length_map];omega,fun y H2 hy D2 b2=>⟨(show 2≤sizeLine by decide),fun t ht=>?_⟩⟩
   obtain ⟨y,my,rfl⟩:=tE hy
   exact k _ "is" [.str y] _ (.tup (bF.of ak) (.cons (.str _) (.cons (.str _) .nil))) (.is ((gD y).mpr (nm' y my))) (D2.new ht) ((b1.trans b2).trans (cD.new ht))
  ·refine ⟨(show 2≤sizeLine by decide),fun l0 hl0=>⟨_,rfl,_,_,rfl,rfl,(by show (0:Int)<2;decide),?_⟩⟩
   have b2:cD p H (upd H1 l0 (.lst [.str "less",.str "same"])):=b1.trans (cD.new hl0)
   obtain ⟨j,hj,ej⟩:∃ j:Nat,j<2/\w1 % 2=j:=⟨(w1 % 2).toNat,by omega,by omega⟩
   have D2:=D1.new (o:=.lst [.str "less",.str "same"]) hl0
   obtain ⟨f0,hf,ef⟩:∃ f0:Str,(f0 = "less"∨f0 = "same")/\([V.str "less",V.str "same"])[j]?=some (.str f0):=by
    match j,hj with
    |0,_=>exact ⟨"less",.inl rfl,rfl⟩
    |1,_=>exact ⟨"same",.inr rfl,rfl⟩
   refine ⟨l0,_,_,_,rfl,rfl,bM.of ak,(by rw [ej];exact aD ef),_,rfl,_,rfl,p,dc,q,_,rfl,D2,D.seq b2 hq,by simpa using ne,by rw [List.length_map];omega,fun y H3 hy D3 b3=>?_⟩
   obtain ⟨y,my,rfl⟩:=tE hy
   refine ⟨_,rfl,p,dc,rfl,D3,fun z H4 z1 z2 D4 b4=>⟨(show 3≤sizeLine by decide),fun t ht=>?_⟩⟩
   exact k _ f0 [.str y,.int z] _ (.tup (bF.of ak) (.cons (.str _) (.cons (.str _) (.cons (.int _) .nil)))) (.num hf ((gD y).mpr (nm y my)) (by simp [qM];omega)) (D4.new ht) (((b2.trans b3).trans b4).trans (cD.new ht))
theorem Tr.mono (h:Tr n d) (l:n≤m):Tr m d:=⟨h.td,h.sh,Nat.le_trans h.dp l⟩
theorem Tr.one (h:Tr n d):Tr (n+1) (.tuple [.str "not",d]):=by
 refine ⟨.node (by unfold zU;decide +kernel) (by decide +kernel) (by simp) (fun e m=>?_),?_,?_⟩
 ·simp at m;subst m;exact h.td
 ·rw [eU,show arity "not" = some 1 from by decide +kernel,if_neg (by nofun)]
  simp [shapes,h.sh]
 ·have:=h.dp
  simp [bI,bQ];omega
theorem Tr.two {n:Nat} {f:Str} {d e:PyData} (hf:f = "and"∨f = "or") (h:Tr n d) (h':Tr n e):Tr (n+1) (.tuple [.str f,d,e]):=by
 refine ⟨.node ?_ ?_ (by simp) (fun e m=>?_),?_,?_⟩
 ·rcases hf with rfl|rfl <;> (unfold zU;decide +kernel)
 ·rcases hf with rfl|rfl <;> decide +kernel
 ·simp at m
  rcases m with rfl|rfl
  ·exact h.td
  ·exact h'.td
 ·have ha:arity f=some 2:=by rcases hf with rfl|rfl <;> decide +kernel
  rw [eU,ha,if_neg (by nofun)]
  simp [shapes,h.sh,h'.sh]
 ·have:=h.dp
  have:=h'.dp
  simp [bI,bQ];omega
def uL (K:Frag) (n:Nat):Sp:=fun vs H Q _=>∃ (p dc q q':Addr) (ys ys':List Str) (m:Int),vs=[.ref p,.int m,.ref q,.ref q']/\m≤n/\Dr H p dc/\bM K H q (ys.map V.str)/\bM K H q' (ys'.map V.str)/\ys≠[]/\ys'≠[]/\ys.length≤100/\ys'.length≤100/\(∀ y∈ys,Nm y)/\(∀ y∈ys',Nm y)/\
 ∀ (x:V) (d:PyData) (H':Hp),Rep K H' x d->Tr n d->Dr H' p dc->cD p H H'->Q x H'
abbrev Rh:List Str:=["_law_d","_law_deep","_law_names","_law_kinds","_law_way","_law_word_here"]
theorem Dy:aR Rh ["_law_d","_law_deep","_law_names","_law_kinds"] (aA (top 49)):=⟨rfl,rfl,rfl,by decide +kernel,rfl,by decide +kernel,by decide +kernel⟩
theorem HF {f fP fO fN fL:Addr} {fd fdP fdO fdN fdL:FuncData} (DT:cF K mg "_law_tree" (top 49) ["_law_d","_law_deep","_law_names","_law_kinds"] f fd) (T:Txt K mg) (DP:cF K mg "_law_pick" (top 38) ["_law_d","_law_many"] fP fdP) (DO:cF K mg "_law_of" (top 39) ["_law_d","_law_things"] fO fdO) (DN:cF K mg "_law_number" (top 47) ["_law_d"] fN fdN)
 (DL:cF K mg "_law_leaf" (top 48) ["_law_d","_law_names","_law_kinds"] fL fdL) (n:Nat):aN P w K mg base bL (n+5) f fd ["_law_d","_law_deep","_law_names","_law_kinds"] (uL K (n+1)):=by
 have GP:aN P w K mg base bL 1 fP fdP ["_law_d","_law_many"] dH:=di DP.F T
 have GL:aN P w K mg base bL 4 fL fdL ["_law_d","_law_names","_law_kinds"] (DQ K):=H_ DL.F T DP DO DN
 have main:∀ m:Nat,(∀ j,j+1=m->aN P w K mg base bL (j+5) f fd ["_law_d","_law_deep","_law_names","_law_kinds"] (uL K (j+1)))->aN P w K mg base bL (m+5) f fd ["_law_d","_law_deep","_law_names","_law_kinds"] (uL K (m+1)):=by
  intro m GC
  have GT:aN P w K mg base bL (m+4) f fd ["_law_d","_law_deep","_law_names","_law_kinds"] (fun vs H Q E=>∃ j,j+1=m/\uL K (j+1) vs H Q E):=by
   match m,GC with
   |0,_=>exact ⟨fun _ _ _ _ ⟨n,e,_⟩=>by omega,fun _ _ _ _ _ _ _ _ _ _ _ _ _ ⟨n,e,_⟩=>by omega⟩
   | m+1,GC=>
     have G:=GC m rfl
     exact ⟨fun vs H Q E ⟨n,e,h⟩=>by cases e;exact G.1 vs H Q E h,fun a1 a2 a3 a4 a5 a6 a7 a8 a9 a10 a11 a12 a13 ⟨n,e,h⟩=>by cases e;exact G.2 a1 a2 a3 a4 a5 a6 a7 a8 a9 a10 a11 a12 a13 h⟩
  refine DT.F.ok Dy (fun vs H Q E h=>?_) (fun cdv A outer s H vs Q E hr h=>?_)
  ·obtain ⟨p,dc,q,q',ys,ys',z,rfl,_⟩:=h
   rfl
  ·obtain ⟨p,dc,q,q',ys,ys',z,rfl,hz,D,hq,hq',ne,ne',l,l',nm,nm',k⟩:=h
   have hr1:bH 1 _:=hr.mono (by omega)
   have hr4:bH 4 _:=hr.mono (by omega)
   refine ⟨_,(ao (b7 (i:=4) Dy.nd rfl (Or.inl rfl) (aB GP hr1 rfl DP.mg DP.F.kp DP.b .nil aL (aa (pv 0) (aa aq aj))))
    (ao (bh (PW.pt (m7 (aK uq (pv 1) aq (aM _)) (jD (aK bJ (pv 4) aq (aM _))))) (au (aP (aB GL hr4 rfl DL.mg DL.F.kp DL.b .nil aL (aa (pv 0) (aa (pv 2) (aa (pv 3) aj)))))) aQ)
    (ao (bh (aK bJ (pv 4) aq (aM _)) (au (aP (dm (aa aO (aa (aB GT hr rfl DT.mg DT.F.kp DT.b .nil aL (aa (pv 0) (aa (a_ dJ (pv 1) aq) (aa (pv 2) (aa (pv 3) aj))))) aj))))) aQ)
    (ao (b7 (i:=5) Dy.nd rfl (Or.inl rfl) (aX cR (bW (aa aO (aa aO aj))) (a_ eG (pv 4) aq) (fun _ _=>rfl)))
    (au (aP (dm (aa (pv 5) (aa (aB GT hr rfl DT.mg DT.F.kp DT.b .nil aL (aa (pv 0) (aa (a_ dJ (pv 1) aq) (aa (pv 2) (aa (pv 3) aj))))) (aa (aB GT hr rfl DT.mg DT.F.kp DT.b .nil aL (aa (pv 0) (aa (a_ dJ (pv 1) aq) (aa (pv 2) (aa (pv 3) aj))))) aj)))))))))),?_⟩
   refine ⟨_,rfl,p,dc,_,rfl,D,by decide,by decide,fun w1 H1 w0 w5 D1 b1=>?_⟩
   have hq1:=D.seq b1 hq
   have hq1':=D.seq b1 hq'
   have leaf:tX (DQ K) [] E0 (mq (lZ 0) (mq (lZ 2) (mq (lZ 3) Dd))) [some (.ref p),some (.int z),some (.ref q),some (.ref q'),some (.int w1),none] H1 Q:=
    ⟨_,rfl,_,rfl,_,rfl,p,dc,q,q',ys,ys',rfl,D1,hq1,hq1',ne,ne',l,l',nm,nm',fun x f r H' rp lf D' b'=>k x _ H' rp (lf.tr.mono (by omega)) D' (b1.trans b')⟩
   refine ⟨_,rfl,_,_,rfl,rfl,_,rfl,fH (fun _=>cQ rfl leaf) (fun hz2=>⟨_,rfl,rfl,_,rfl,fH (fun _=>leaf) (fun _=>?_)⟩)⟩
   have hz2:¬ z<2:=by simpa using hz2
   obtain ⟨j,rfl⟩:∃ j,m=j+1:=⟨m-1,by omega⟩
   refine ⟨_,rfl,rfl,_,rfl,fH (fun _=>?_) (fun _=>?_)⟩
   ·refine ⟨_,rfl,_,rfl,_,_,rfl,rfl,_,rfl,_,rfl,j,rfl,p,dc,q,q',ys,ys',z-1,rfl,by omega,D1,hq1,hq1',ne,ne',l,l',nm,nm',fun x d H2 rx tx D2 b2=>⟨(show 2≤sizeLine by decide),fun t ht=>?_⟩⟩
    exact k _ _ _ (.tup (bF.of ak) (.cons (.str _) (.cons (rx.same (aC.new ht)) .nil))) tx.one (D2.new ht) ((b1.trans b2).trans (cD.new ht))
   ·refine ⟨(show 2≤sizeLine by decide),fun l0 hl0=>⟨_,rfl,_,_,rfl,rfl,(by show (0:Int)<2;decide),?_⟩⟩
    have b2:cD p H (upd H1 l0 (.lst [.str "and",.str "or"])):=b1.trans (cD.new hl0)
    obtain ⟨i,hj,ej⟩:∃ i:Nat,i<2/\w1 % 2=i:=⟨(w1 % 2).toNat,by omega,by omega⟩
    have D2:=D1.new (o:=.lst [.str "and",.str "or"]) hl0
    obtain ⟨f0,hf,ef⟩:∃ f0:Str,(f0 = "and"∨f0 = "or")/\([V.str "and",V.str "or"])[i]?=some (.str f0):=by
     match i,hj with
     |0,_=>exact ⟨"and",.inl rfl,rfl⟩
     |1,_=>exact ⟨"or",.inr rfl,rfl⟩
    refine ⟨l0,_,_,_,rfl,rfl,bM.of ak,(by rw [ej];exact aD ef),_,rfl,?_⟩
    have hq2:=D.seq b2 hq
    have hq2':=D.seq b2 hq'
    refine ⟨_,rfl,_,rfl,_,_,rfl,rfl,_,rfl,_,rfl,j,rfl,p,dc,q,q',ys,ys',z-1,rfl,by omega,D2,hq2,hq2',ne,ne',l,l',nm,nm',fun x d H3 rx tx D3 b3=>?_⟩
    have b3':=b2.trans b3
    refine ⟨_,rfl,_,rfl,_,_,rfl,rfl,_,rfl,_,rfl,j,rfl,p,dc,q,q',ys,ys',z-1,rfl,by omega,D3,D.seq b3' hq,D.seq b3' hq',ne,ne',l,l',nm,nm',fun x2 d2 H4 rx2 tx2 D4 b4=>⟨(show 3≤sizeLine by decide),fun t ht=>?_⟩⟩
    exact k _ _ _ (.tup (bF.of ak) (.cons (.str _) (.cons ((D3.rep b4 rx).same (aC.new ht)) (.cons (rx2.same (aC.new ht)) .nil)))) (tx.two hf tx2) (D4.new ht) ((b3'.trans b4).trans (cD.new ht))
 induction n with
 |zero=>exact main 0 (fun n e=>by omega)
 |succ n ih=>exact main (n+1) (fun n' e=>by cases e;exact ih)
theorem Fy (f a b:Str):inV (.str f) [.str a,.str b]=decide (f=a∨f=b):=by
 rw [Bool.eq_iff_iff]
 simp [inV,tR]
 constructor <;> (rintro (h|h) <;> simp [h])
theorem yg (td:TD d):bA d=true->bO d≤bI d:=by
 induction td with
 |str a b=>intro h;cases h
 |int a b=>intro h;cases h
 |nil=>intro h;cases h
 | @node f r a b c tr ih=>
   intro sh
   have e:bO (.tuple (.str f::r))=if (arity f).isSome=true then 1+dw r else 1:=rfl
   have ep:bI (.tuple (.str f::r))=max 0 (bQ r)+1:=rfl
   rcases fQ (n:=bO (.tuple (.str f::r))) sh (by omega) with ⟨ha,_⟩|N
   ·rw [e,ha,ep]
    show 1≤_
    omega
   ·have:∀ l:List PyData,(∀ d∈l,d∈r)->dw l≤bQ l:=by
     intro l
     induction l with
     |nil=>intro _;exact Nat.zero_le _
     | cons d l ihl=>
       intro hm
       have md:=hm d (List.mem_cons_self ..)
       have h1:=ih d md (N.sh d md)
       have h2:=ihl (fun d m=>hm d (List.mem_cons_of_mem _ m))
       show max (bO d) (dw l)≤max (bI d) (bQ l)
       omega
    have:=this r (fun _ m=>m)
    rw [e,N.ar,ep]
    show 1+dw r≤_
    omega
theorem uo (h:bI (.tuple (.str f::r))≤n+1) (m:d∈r):bI d≤n:=by
 have:=jd m
 have h:max 0 (bQ r)+1≤n+1:=h
 omega
theorem xO (sh:bA d=true) (h:bO d≤n):cM d+1≤2 ^ n:=by
 have:=qJ n d
 rw [rZ,if_pos ⟨sh,h⟩] at this
 exact this
theorem mR:∀ (n:Nat) {vs:List V} {ds:List PyData},bj K H vs ds->bj K H (vs.drop n) (ds.drop n)
 |0,_,_,h=>h
 |_+1,_,_,.nil=>.nil
 |n+1,_,_,.cons _ h=>mR n h
theorem iK:∀ {n:Nat} {d:PyData},TD d->bA d=true->bO d≤n->2*(gG d).length≤cM d+1
 |0,d,_,_,h=>by have:=cO d;omega
 | n+1,d,td,sh,h=>by
   obtain ⟨f,r,rfl⟩:=bT td sh
   have e:gG (.tuple (.str f::r))=if (arity f).isSome=true then du r else [.tuple (.str f::r)]:=rfl
   have e2:cM (.tuple (.str f::r))=if (arity f).isSome=true then 1+iz r else 1:=rfl
   rw [e,e2]
   cases td with
   |node a b c tr=>
   rcases fQ sh h with ⟨ha,_⟩|N
   ·rw [ha];simp
   ·rw [N.ar]
    simp only [Option.isSome_some,if_true]
    have a2:=gr N.ar
    match r,a2,N,tr with
    | [x],_,N,tr=>
      have:=iK (tr x (by simp)) (N.sh x (by simp)) (N.de x (by simp))
      rw [bR]
      show _≤1+(cM x+0)+1
      omega
    | [x,y],_,N,tr=>
      have h1:=iK (tr x (by simp)) (N.sh x (by simp)) (N.de x (by simp))
      have h2:=iK (tr y (by simp)) (N.sh y (by simp)) (N.de y (by simp))
      have:du [x,y]=gG x++gG y:=by rw [show [x,y]=[x]++[y] from rfl,e_,bR,bR]
      rw [this,List.length_append]
      show _≤1+(cM x+(cM y+0))+1
      omega
    |_::_::_::_,a2,_,_=>simp at a2
    |[],a2,_,_=>simp at a2
def dD:List dN->List Int->Option Nat
 |[],[]=>none
 |[],_::_=>some 0
 |_::_,[]=>some 0
 |f::fs,z::zs=>if f.2.1≤z/\z≤f.2.2 then (dD fs zs).map (·+1) else some 0
def fj (fs:List dN) (zs:List Int) (i:Nat):Prop:=dD fs zs=(dD (fs.drop i) (zs.drop i)).map (·+i)
theorem pK (fs:List dN) (zs:List Int):fj fs zs 0:=by
 unfold fj
 rw [List.drop_zero,List.drop_zero]
 cases dD fs zs <;> rfl
theorem yD {fs:List dN} {zs:List Int} (hf:fs[i]?=some f) (hz:zs[i]?=some z):dD (fs.drop i) (zs.drop i)=if f.2.1≤z/\z≤f.2.2 then (dD (fs.drop (i+1)) (zs.drop (i+1))).map (·+1) else some 0:=by
 obtain ⟨h1,e1⟩:=List.getElem?_eq_some_iff.mp hf
 obtain ⟨h2,e2⟩:=List.getElem?_eq_some_iff.mp hz
 rw [List.drop_eq_getElem_cons h1,List.drop_eq_getElem_cons h2,e1,e2]
 rfl
theorem wY (b:fj fs zs i) (hf:fs[i]?=some f) (hz:zs[i]?=some z) (h:f.2.1≤z/\z≤f.2.2):fj fs zs (i+1):=by
 unfold fj at b ⊢
 rw [b,yD hf hz,if_pos h]
 cases dD (fs.drop (i+1)) (zs.drop (i+1)) with
 |none=>rfl
 |some k=>simp;omega
theorem xN (b:fj fs zs i) (hf:fs[i]?=some f) (hz:zs[i]?=some z) (h:¬ (f.2.1≤z/\z≤f.2.2)):dD fs zs=some i:=by
 unfold fj at b
 rw [b,yD hf hz,if_neg h]
 simp
theorem ux (b:fj fs zs (min fs.length zs.length)):dD fs zs=if fs.length=zs.length then none else some (min fs.length zs.length):=by
 unfold fj at b
 rw [b]
 by_cases h:fs.length=zs.length
 ·rw [if_pos h,h,Nat.min_self,List.drop_of_length_le (by omega),List.drop_of_length_le (by omega)]
  rfl
 ·rw [if_neg h]
  by_cases l:fs.length≤zs.length
  ·have h1:min fs.length zs.length=fs.length:=by omega
   rw [h1,List.drop_of_length_le (Nat.le_refl _)]
   cases e:zs.drop fs.length with
   |nil=>have:=congrArg List.length e;rw [List.length_drop] at this;simp at this;omega
   |cons x r=>simp [dD]
  ·have h1:min fs.length zs.length=zs.length:=by omega
   rw [h1,List.drop_of_length_le (l:=zs) (Nat.le_refl _)]
   cases e:fs.drop zs.length with
   |nil=>have:=congrArg List.length e;rw [List.length_drop] at this;simp at this;omega
   |cons x r=>simp [dD]
theorem Cw (h:dD fs zs=some n):n≤fs.length/\n≤zs.length:=by
 induction fs generalizing zs n with
 | nil=>
   cases zs with
   |nil=>cases h
   |cons z zs=>simp [dD] at h;omega
 | cons f fs ih=>
   cases zs with
   |nil=>simp [dD] at h;omega
   | cons z zs=>
     simp only [dD] at h
     split at h
     ·cases e:dD fs zs with
      |none=>rw [e] at h;cases h
      | some k=>
        rw [e] at h
        have:=ih e
        simp at h
        simp only [List.length_cons]
        omega
     ·simp at h;omega
def Rm (n:Nat):Str:=("badvalue " : Str)++(toString (n:Int):Str)
def nD (fs:List dN) (zs:List Int):Str:=match dD fs zs with
 |none=>""
 |some n=>Rm n
theorem jE {m:Nat} (hm:m≤100):(Str.ofString (toString (m:Int))).length≤8/\(m:Int).natAbs.log2<1920:=by
 constructor
 ·have:=int_text_length_le10 (a:=(m:Int)) (k:=6) (by decide) (by omega)
  have e:(Str.ofString (toString (m:Int))).length=(toString (m:Int)).length:=ofString_length _
  omega
 ·by_cases h0:(m:Int).natAbs=0
  ·rw [h0];decide
  ·exact Nat.lt_trans ((Nat.log2_lt h0).mpr (show (m:Int).natAbs<2 ^ 20 by omega)) (by decide)
def wg (K:PySem.W.Frag):Sp:=fun vs H Q _=>∃ (p dc:Addr) (x:V) (f:dN),vs=[.ref p,x]/\Dr H p dc/\cZ H x f/\iT f/\∀ (z:Int) (H':Hp),f.2.1≤z->z≤f.2.2->Dr H' p dc->cD p H H'->Q (.int z) H'
theorem tZ:aR ["_law_d","_law_field","_law_title","_law_low","_law_high"] ["_law_d","_law_field"] (aA (top 45)):=⟨rfl,rfl,rfl,by decide +kernel,rfl,by decide +kernel,by decide +kernel⟩
theorem zL (F:fX K "_law_value" "_law_value" (top 45) f fd) (T:Txt K mg) (DP:cF K mg "_law_pick" (top 38) ["_law_d","_law_many"] fP fdP) (DO:cF K mg "_law_of" (top 39) ["_law_d","_law_things"] fO fdO) :
 aN P w K mg base bL 3 f fd ["_law_d","_law_field"] (wg K):=by
 have GP:aN P w K mg base bL 1 fP fdP ["_law_d","_law_many"] dH:=di DP.F T
 have GO:aN P w K mg base bL 2 fO fdO ["_law_d","_law_things"] (rJ K):=nQ DO.F T DP
 refine F.ok tZ (fun vs H Q E h=>?_) (fun cdv A outer s H vs Q E hr h=>?_)
 ·obtain ⟨p,dc,x,f,rfl,_⟩:=h
  rfl
 ·obtain ⟨p,dc,x,fl,rfl,D,⟨b,rfl,hb⟩,fo,k⟩:=h
  have hr1:bH 1 _:=hr.mono (by decide)
  refine ⟨_,(ao (xx (pv 1) (gW rfl (bw (aV (i:=2) tZ.nd rfl (Or.inl rfl)) (bw (aV (i:=3) tZ.nd rfl (Or.inl rfl)) (bw (aV (i:=4) tZ.nd rfl (Or.inl rfl)) dX)))))
   (au (aP (aB GO hr rfl DO.mg DO.F.kp DO.b .nil aL (aa (pv 0) (aa (bW (aa (pv 3) (aa (pv 4) (aa (a_ cI (pv 3) (aB GP hr1 rfl DP.mg DP.F.kp DP.b .nil aL (aa (pv 0) (aa (a_ cI (a_ dJ (pv 4) (pv 3)) aq) aj)))) aj)))) aj)))))),?_⟩
  have f1:=fo.lo
  have f2:=fo.le
  have f3:=fo.hi
  refine ⟨_,rfl,b,_,rfl,bF.of hb,rfl,_,_,rfl,_,_,rfl,_,_,rfl,rfl,?_⟩
  refine ⟨_,rfl,_,rfl,_,rfl,_,rfl,_,rfl,_,rfl,_,rfl,_,_,rfl,rfl,_,_,rfl,rfl,p,dc,_,rfl,D,by omega,by omega,fun r H1 r0 r1 D1 t1=>⟨_,_,rfl,rfl,(show 3≤sizeLine by decide),fun q hq=>?_⟩⟩
  refine ⟨p,dc,q,_,rfl,D1.new hq,bM.of ak,by simp,by simp,fun y H2 hy D2 t2=>?_⟩
  obtain ⟨z,rfl,z0,z1⟩:∃ z:Int,y=.int z/\fl.2.1≤z/\z≤fl.2.2:=by
   simp only [List.mem_cons,List.not_mem_nil,or_false] at hy
   rcases hy with rfl|rfl|rfl
   all_goals exact ⟨_,rfl,by omega,by omega⟩
  exact k z H2 z0 z1 D2 ((t1.trans (cD.new hq)).trans t2)
theorem _root_.L2.nO.ixTu (h:bF K H a xs) (e:lG xs i=some v):nO (zW K) (.ref a) (.int i) H v:=fun Q q=>.inr (.inl ⟨a,xs,i,v,rfl,rfl,h,e,q⟩)
def J4 (K:PySem.W.Frag):Sp:=fun vs H Q _=>∃ (a b:Addr) (xs:List V) (fs:List dN) (zs:List Int),vs=[.ref a,.ref b]/\H a=some (.tup xs)/\Paired (cZ H) xs fs/\H b=some (.tup (zs.map V.int))/\fs.length≤60/\zs.length≤70/\Q (.str (nD fs zs)) H
theorem Bm:aR ["_law_fields_here","_law_values","_law_least","_law_at"] ["_law_fields_here","_law_values"] (aA (top 46)):=⟨rfl,rfl,rfl,by decide +kernel,rfl,by decide +kernel,by decide +kernel⟩
theorem Jp (F:fX K "_law_values_word" "_law_values_word" (top 46) f fd) (T:Txt K mg):aN P w K mg base bL 1 f fd ["_law_fields_here","_law_values"] (J4 K):=by
 refine F.ok Bm (fun vs H Q E h=>?_) (fun cdv A outer s H vs Q E hr h=>?_)
 ·obtain ⟨a,b,xs,fs,zs,rfl,_⟩:=h
  rfl
 ·obtain ⟨a,b,xs,fs,zs,rfl,ha,pf,hb,fl,zl,k⟩:=h
  refine ⟨_,(ao (b7 (i:=2) Bm.nd rfl (Or.inl rfl) (aG (iM rfl) (by rfl) T.min pG (aa (aG aU (by rfl) T.len bV (aa (pv 0) aj)) (aa (aG aU (by rfl) T.len bV (aa (pv 1) aj)) aj))))
   (ao (d9 PassesOwn.never rfl (dC rfl T.range (aa (pv 2) aj)) (aV (i:=3) Bm.nd rfl (Or.inl rfl))
    (au (bh (gU (lX fK fK (aX (r:=zW K) j4 (aX (r:=zW K) j4 (pv 0) (pv 3) (fun _ _=>rfl)) aq (fun _ _=>rfl)) (aX (r:=zW K) j4 (pv 1) (pv 3) (fun _ _=>rfl)) (aX (r:=zW K) j4 (aX (r:=zW K) j4 (pv 0) (pv 3) (fun _ _=>rfl)) aq (fun _ _=>rfl))))
     (au (aP (a_ eN aO (dZ ju (by rfl) T.str lF (aa (pv 3) aj))))) aQ)))
   (au (aP (gj (aK bJ (aG aU (by rfl) T.len bV (aa (pv 0) aj)) (aG aU (by rfl) T.len bV (aa (pv 1) aj)) (aM _)) aO (a_ eN aO (dZ ju (by rfl) T.str lF (aa (pv 2) aj)))))))),?_⟩
  have pl:=Paired.length pf
  have zl':(zs.map V.int).length=zs.length:=List.length_map ..
  have big:100≤sizeLine:=by decide
  have e9:("badvalue " : Str).length=9:=by decide +kernel
  have mn:min (xs.length:Int) ((zs.map V.int).length:Int)=((min fs.length zs.length:Nat):Int):=by rw [zl',pl];omega
  refine ⟨_,rfl,a,xs,rfl,.inr (bF.of ha),_,rfl,b,_,rfl,.inr (bF.of hb),?_⟩
  refine ⟨_,_,rfl,?_⟩
  have mn':(if ((zs.map V.int).length:Int)<(xs.length:Int) then ((zs.map V.int).length:Int) else (xs.length:Int))=((min fs.length zs.length:Nat):Int):=by
   rw [zl',pl]
   split <;> omega
  rw [mn']
  have ml:min fs.length zs.length≤60:=by omega
  refine ⟨_,rfl,_,rfl,by omega,by omega,iB (n:=((min fs.length zs.length:Nat):Int).toNat) (fun i σ' H'=>(∃ v,σ'=[some (.ref a),some (.ref b),some (.int ((min fs.length zs.length:Nat):Int)),v])/\H=H'/\fj fs zs i) ⟨⟨none,rfl⟩,rfl,pK fs zs⟩ ?_ ?_⟩
  ·rintro i σ' H' hi ⟨⟨v,rfl⟩,rfl,bi⟩
   rw [Int.toNat_natCast] at hi
   have l1:i<fs.length:=by omega
   have l2:i<zs.length:=by omega
   have hf:fs[i]?=some fs[i]:=List.getElem?_eq_getElem l1
   have hz:zs[i]?=some zs[i]:=List.getElem?_eq_getElem l2
   have hx:xs[i]?=some xs[i]:=List.getElem?_eq_getElem (by omega)
   obtain ⟨f',hf',bb,ex,hbb⟩:=cC pf hx
   rw [hf] at hf'
   cases hf'
   have ax:lG xs (0+(i:Int))=some (.ref bb):=by rw [Int.zero_add,← ex];exact aD hx
   have az:lG (zs.map V.int) (0+(i:Int))=some (.int zs[i]):=by rw [Int.zero_add];exact aD (by rw [List.getElem?_map,hz];rfl)
   have q1:bF K H bb [.str fs[i].1,.int fs[i].2.1,.int fs[i].2.2]:=bF.of hbb
   dsimp only [bK]
   refine uQ.iff (uQ.not (uQ.test (fJ.chain (fJ.op (fJ.op (fJ.var rfl) (fJ.var rfl) (nO.ixTu (bF.of ha) ax)) fJ.con (nO.ixTu q1 rfl)) (fJ.op (fJ.var rfl) (fJ.var rfl) (nO.ixTu (bF.of hb) az)) (fJ.op (fJ.op (fJ.var rfl) (fJ.var rfl) (nO.ixTu (bF.of ha) ax)) fJ.con (nO.ixTu q1 rfl)) nO.i0 nO.i0))) ?_
   refine fH (fun h=>?_) (fun h=>?_)
   ·have nb:¬ (fs[i].2.1≤zs[i]/\zs[i]≤fs[i].2.2):=by
     intro z
     simp [z.1,z.2] at h
    have e:=xN bi hf hz nb
    have tx:=jE (m:=i) (by omega)
    refine ⟨_,rfl,_,rfl,(by rw [Int.zero_add];exact tx.2),_,_,rfl,rfl,?_,?_⟩
    ·rw [Int.zero_add,e9]
     have:=tx.1
     show 9+(Str.ofString (toString (i:Int))).length≤sizeLine
     omega
    ·have k2:=k
     unfold nD at k2
     rw [e] at k2
     rw [Int.zero_add]
     exact k2
   ·have yb:fs[i].2.1≤zs[i]/\zs[i]≤fs[i].2.2:=by
     simpa using h
    exact ⟨⟨_,rfl⟩,rfl,wY bi hf hz yb⟩
  ·rintro σ' H' ⟨⟨v,rfl⟩,rfl,bi⟩
   rw [Int.toNat_natCast] at bi
   have e:=ux bi
   refine ⟨_,rfl,a,xs,rfl,.inr (bF.of ha),_,rfl,b,_,rfl,.inr (bF.of hb),rfl,_,rfl,fH (fun h=>?_) (fun h=>?_)⟩
   ·have he:fs.length=zs.length:=by
     simp at h
     omega
    have k2:=k
    unfold nD at k2
    rw [e,if_pos he] at k2
    exact k2
   ·have he:¬ fs.length=zs.length:=by
     intro z
     simp [pl,z] at h
    have tx:=jE (m:=min fs.length zs.length) (by omega)
    refine ⟨_,rfl,_,rfl,tx.2,_,_,rfl,rfl,?_,?_⟩
    ·rw [e9]
     have:=tx.1
     show 9+(Str.ofString (toString ((min fs.length zs.length:Nat):Int))).length≤sizeLine
     omega
    ·have k2:=k
     unfold nD at k2
     rw [e,if_neg he] at k2
     exact k2
theorem nu:upd (upd H a x) a y=upd H a y:=funext fun b=>by
 by_cases h:b=a
 ·subst h;rw [ak,ak]
 ·rw [aF h,aF h,aF h]
section
variable {P:Program} {w:World} {K:PySem.W.Frag} {mg:Str->Option Value} {base:Heap}
abbrev ye:Stmt:=inClass (top 17) 4
abbrev Rb:List Str:=["self","values","at","name","low","high","value"]
theorem vJ:aR Rb ["self","values"] (aA ye):=⟨rfl,rfl,rfl,by decide +kernel,rfl,by decide +kernel,by decide +kernel⟩
structure G_ (K:Frag) (mg:Str->Option Value) (C f:Addr) (fd:FuncData):Prop where
 b:Binds K fd ["self","at"] []
 mg:mg "BadValue" = some (.ref C)
 e:Aa K C
 i:findIn K (.ref C) "__init__" = some (some (.ref f))
 n:isFn K (.ref f)=true
def wK (C cV:Addr):Sp:=fun vs H Q E=>∃ (o a b:Addr) (n:Str) (fs:List dN) (zs:List Int),vs=[.ref o,.ref b]/\cP C H o n a fs/\H b=some (.tup (zs.map V.int))/\fs.length≤60/\zs.length≤70/\
 (dD fs zs=none->∀ H',aC H H'->Q .non H')/\∀ i:Nat,dD fs zs=some i->∀ H1 da H',aC H H1->jP H1 (NZ i) da H'->E (.ref cV) (some da) H'
theorem zG (F:fX K "need" "Kind.need" ye f fd) (T:Txt K mg) (hen:mg "enumerate" = none) (hzp:mg "zip" = none) (KC:KCls K mg C) (WV:G_ K mg cV fV fdV) (GV:aN P w K mg base bL 2 fV fdV ["self","at"] (Cg K)) :
 aN P w K mg base (qY P w) 5 f fd ["self","values"] (wK C cV):=by
 refine F.ok1 vJ (fun vs H Q E h=>?_) (fun cdv A outer s H vs Q E hr h=>?_)
 ·obtain ⟨o,a,b,n,fs,zs,rfl,_⟩:=h
  rfl
 ·obtain ⟨o,a,b,n,fs,zs,rfl,⟨⟨dx,ho⟩,xs,ha,pf⟩,hb,fl,zl,k,kx⟩:=h
  have hr3:bH 3 (A.deeper (PyProof.Rows.envOfC "Kind.need" (aA ye) s.heap.objs.size f cdv)):=hr.mono (by decide)
  refine ⟨_,(ao (d9 PassesOwn.leaving rfl (wQ rfl hen rfl hzp (aa (jM (pv 0) rfl) (aa (pv 1) aj))) (gW rfl (bw (aV (i:=2) vJ.nd rfl (Or.inl rfl)) (bw (gW rfl (bw (gW rfl (bw (aV (i:=3) vJ.nd rfl (Or.inl rfl)) (bw (aV (i:=4) vJ.nd rfl (Or.inl rfl)) (bw (aV (i:=5) vJ.nd rfl (Or.inl rfl)) dX)))) (bw (aV (i:=6) vJ.nd rfl (Or.inl rfl)) dX))) dX)))
   (au (bh (gU (lX fK fK (pv 4) (pv 6) (pv 5))) (au (lU (B:="ValueError") (newId:="ValueError.__new__") (W:=E)
    (mz (E:=E0) PySem.F.excBase_ValueError WV.e.e.x WV.i WV.n GV hr3 (by rfl) WV.mg WV.b .nil aL (aa (pv 2) aj)) rfl rfl (fun Z U H' s' e cls dd I x q=>Ly I x q))) aQ)))
   (au (bh (aK jU (aG aU (by rfl) T.len bV (aa (pv 1) aj)) (aG aU (by rfl) T.len bV (aa (jM (pv 0) rfl) aj)) (aM _)) (au (lU (B:="ValueError") (newId:="ValueError.__new__") (W:=E)
    (mz (E:=E0) PySem.F.excBase_ValueError WV.e.e.x WV.i WV.n GV hr3 (by rfl) WV.mg WV.b .nil aL (aa (aG (iM rfl) (by rfl) T.min pG (aa (aG aU (by rfl) T.len bV (aa (pv 1) aj)) (aa (aG aU (by rfl) T.len bV (aa (jM (pv 0) rfl) aj)) aj))) aj)) rfl rfl (fun Z U H' s' e cls dd I x q=>Ly I x q))) aQ))),?_⟩
  have pl:=Paired.length pf
  have zl':(zs.map V.int).length=zs.length:=List.length_map ..
  have raiseB:∀ {H1:Hp} {i:Nat},aC H H1->dD fs zs=some i->∀ e,H1 e=none->Cg K [.ref e,.int i] (upd H1 e (cW e cV none)) (fun v H2=>v=.non/\∃ (e':Addr) (C':Addr) (dd:Option Addr),V.ref e=.ref e'/\H2 e'=some (cW e' C' dd)/\H e'=none/\kh K C' "ValueError" "ValueError.__new__"/\E (.ref C') dd (vY H2 e')) (fun _ _ _=>False):=by
   intro H1 i s1 hi e he
   have bl:=Cw hi
   have tx:=jE (m:=i) (by omega)
   refine ⟨e,cV,i,rfl,WV.e,ak,tx.2,by have:=tx.1;omega,fun da hda=>⟨rfl,e,cV,some da,rfl,?_,gH s1 he,WV.e.e.x,?_⟩⟩
   ·have ne:e≠da:=fun q=>by subst q;rw [ak] at hda;cases hda
    rw [nu,aF ne,ak]
   ·rw [nu]
    exact kx i hi H1 da _ s1 (mV he hda)
  refine ⟨_,rfl,o,C,dx,_,_,rfl,ho,KC.cl,KC.nF,gB n a,_,rfl,a,b,rfl,⟨xs,bF.of ha⟩,⟨_,bF.of hb⟩,?_⟩
  refine vI (K:=K) (a1:=a) (a2:=b) (xs:=xs) (ys:=zs.map V.int) (fun i σ' H'=>(∃ u1 u2 u3 u4 u5,σ'=[some (.ref o),some (.ref b),u1,u2,u3,u4,u5])/\aC H H'/\fj fs zs i) ⟨⟨none,none,none,none,none,rfl⟩,aC.refl _,pK fs zs⟩ (fun i σ' H' _ z=>⟨bF.of (z.2.1 _ _ ha),bF.of (z.2.1 _ _ hb)⟩) ?_ ?_
  ·rintro i x y σ' H1 q p hx hy ⟨⟨u1,u2,u3,u4,u5,rfl⟩,s1,bi⟩ hq hp
   obtain ⟨⟨m,lo,hi⟩,hfi,bb,rfl,hbb⟩:=cC pf hx
   rw [List.getElem?_map] at hy
   obtain ⟨z,hz,rfl⟩:=Option.map_eq_some_iff.mp hy
   have s2:aC H1 (upd (upd H1 q (.tup [.ref bb,.int z])) p (.tup [.int i,.ref q])):=(aC.new hq).trans (aC.new hp)
   have hq2:(upd (upd H1 q (.tup [.ref bb,.int z])) p (.tup [.int i,.ref q])) q=some (.tup [.ref bb,.int z]):=(aC.new hp) _ _ ak
   refine ⟨p,_,rfl,bF.of ak,rfl,_,_,rfl,_,_,rfl,q,_,rfl,bF.of hq2,rfl,_,_,rfl,bb,_,rfl,bF.of (s2 _ _ (s1 _ _ hbb)),rfl,_,_,rfl,_,_,rfl,_,_,rfl,rfl,_,_,rfl,rfl,rfl,?_⟩
   dsimp only [bK]
   refine uQ.iff (uQ.not (uQ.test (fJ.chain (fJ.var rfl) (fJ.var rfl) (fJ.var rfl) nO.i0 nO.i0))) ?_
   refine fH (fun h=>?_) (fun h=>?_)
   ·have nb:¬ (lo≤z/\z≤hi):=by
     intro w
     simp [w.1,w.2] at h
    have e:=xN bi hfi hz nb
    exact ⟨_,rfl,fun e' he=>raiseB (s1.trans s2) e e' he⟩
   ·have yb:lo≤z/\z≤hi:=by simpa using h
    exact ⟨⟨_,_,_,_,_,rfl⟩,s1.trans s2,wY bi hfi hz yb⟩
  ·rintro σ' H1 ⟨⟨u1,u2,u3,u4,u5,rfl⟩,s1,bi⟩
   rw [zl',pl] at bi
   have e:=ux bi
   refine ⟨_,rfl,b,_,rfl,.inr (bF.of (s1 _ _ hb)),_,rfl,o,C,dx,_,_,rfl,s1 _ _ ho,KC.cl,KC.nF,gB n a,a,xs,rfl,.inr (bF.of (s1 _ _ ha)),rfl,_,rfl,fH (fun h=>?_) (fun h=>?_)⟩
   ·have he:¬ fs.length=zs.length:=by
     intro w
     simp [pl,w] at h
    rw [if_neg he] at e
    refine ⟨_,rfl,b,_,rfl,.inr (bF.of (s1 _ _ hb)),_,rfl,o,C,dx,_,_,rfl,s1 _ _ ho,KC.cl,KC.nF,gB n a,a,xs,rfl,.inr (bF.of (s1 _ _ ha)),_,_,rfl,fun e' he'=>?_⟩
    have mn:(if (xs.length:Int)<((zs.map V.int).length:Int) then (xs.length:Int) else ((zs.map V.int).length:Int))=((min fs.length zs.length:Nat):Int):=by
     rw [zl',pl]
     split <;> omega
    rw [mn]
    exact raiseB s1 e e' he'
   ·have he:fs.length=zs.length:=by
     simp at h
     omega
    rw [if_pos he] at e
    exact k e H1 s1
end
def gJ (nm:Str) (fs:List dN) (zs:List Int) (f:Str) (r:List PyData):Bool:=
 if f = "all" then true else match r with
 |[.str x]=>decide (nm=x)
 |[.str x,.int i]=>if x∈fs.map (·.1) then (if f = "less" then decide (zs.getD ((fs.map (·.1)).idxOf x) 0<i) else decide (zs.getD ((fs.map (·.1)).idxOf x) 0=i)) else false
 |_=>false
def bD (nm:Str) (fs:List dN) (zs:List Int):Nat->Str->List PyData->Bool
 |0,_,_=>false
 | n+1,f,r=>
   if f = "not" then (match r with
    |[.tuple (.str g::q)]=>!bD nm fs zs n g q
    |_=>false)
   else if f = "and" then (match r with
    |[.tuple (.str g::q),.tuple (.str h::p)]=>bD nm fs zs n g q && bD nm fs zs n h p
    |_=>false)
   else if f = "or" then (match r with
    |[.tuple (.str g::q),.tuple (.str h::p)]=>bD nm fs zs n g q || bD nm fs zs n h p
    |_=>false)
   else gJ nm fs zs f r
structure MD (K:PySem.W.Frag) (C:Addr) (m qual:Str) (st:Stmt) (ps:List Str) (f:Addr) (fd:FuncData):Prop where
 M:Meth K C m f
 F:fX K m qual st f fd
 b:Binds K fd ps []
theorem tD (n:Str) (a:Addr):(kf n a).lookup ("place_of" : Str)=none/\(kf n a).lookup ("need" : Str)=none:=⟨Av n a (by decide +kernel) (by decide +kernel),Av n a (by decide +kernel) (by decide +kernel)⟩
def G9 (K:Frag) (C:Addr):Sp:=fun vs H Q _=>∃ (q o a b:Addr) (f nm:Str) (r:List PyData) (fs:List dN) (zs:List Int),vs=[.ref q,.ref o,.ref b]/\Rep K H (.ref q) (.tuple (.str f::r))/\jL f r/\cP C H o nm a fs/\fs.length≤4/\H b=some (.tup (zs.map V.int))/\zs.length=fs.length/\
 ∀ H',aC H H'->Q (.bl (gJ nm fs zs f r)) H'
abbrev Rw:List Str:=["leaf","kind","values","form","place"]
theorem yp:aR Rw ["leaf","kind","values"] (aA (top 32)):=⟨rfl,rfl,rfl,by decide +kernel,rfl,by decide +kernel,by decide +kernel⟩
theorem Hk (F:fX K "passes_leaf" "passes_leaf" (top 32) f fd) (KC:KCls K mg C) (MP:MD K C "place_of" "Kind.place_of" (kM 3) ["self","field"] fM fdM) (GM:aN P w K mg base bL 1 fM fdM ["self","field"] (uH C)):aN P w K mg base bL 2 f fd ["leaf","kind","values"] (G9 K C):=by
 refine F.ok yp (fun vs H Q E h=>?_) (fun cdv A outer s H vs Q E hr h=>?_)
 ·obtain ⟨q,o,a,b,f,nm,r,fs,zs,rfl,_⟩:=h
  rfl
 ·obtain ⟨q,o,a,b,f,nm,r,fs,zs,rfl,rq,lf,ka,fl,hb,zl,k⟩:=h
  refine ⟨_,(ao (b7 (i:=3) yp.nd rfl (Or.inl rfl) (aX aZ (pv 0) aq (fun _ _=>rfl)))
   (ao (bh (aK bJ (pv 3) aO (aM _)) (au (aP qm)) aQ)
   (ao (bh (aK bJ (pv 3) aO (aM _)) (au (aP (bZ bJ (jM (pv 1) rfl) (aX aZ (pv 0) aq (fun _ _=>rfl)) (aM _)))) aQ)
   (ao (b7 (i:=4) yp.nd rfl (Or.inl rfl) (uD (E:=E0) (pv 1) KC.cl MP.M GM hr MP.b .nil aL (aa (aX aZ (pv 0) aq (fun _ _=>rfl)) aj)))
   (ao (bh (aK lL (pv 4) gQ (aM _)) (au (aP qm)) aQ)
   (au (aP (gj (aK bJ (pv 3) aO (aM _)) (bZ uq (aX aZ (pv 2) (pv 4) (fun _ _=>rfl)) (aX aZ (pv 0) aq (fun _ _=>rfl)) (aM _)) (bZ bJ (aX aZ (pv 2) (pv 4) (fun _ _=>rfl)) (aX aZ (pv 0) aq (fun _ _=>rfl)) (aM _)))))))))),?_⟩
  have ka0:=ka
  obtain ⟨⟨dx,ho⟩,_⟩:=ka0
  cases rq with
  |@tup _ xs _ sq rs=>
  cases lf with
  | all=>
    obtain ⟨x0,rfl⟩:∃ x0,xs=[x0]:=by
     cases rs with|cons r1 r2=>cases r2;exact ⟨_,rfl⟩
    cases rs with|cons r1 r2=>
    cases r1
    exact ⟨_,rfl,q,_,_,_,rfl,rfl,sq,aD (j:=0) rfl,_,rfl,rfl,_,rfl,cQ (by decide +kernel) (k _ (aC.refl _))⟩
  | @is x hx=>
    obtain ⟨x0,x1,rfl⟩:∃ x0 x1,xs=[x0,x1]:=by
     cases rs with|cons r1 r2=>cases r2 with|cons r2 r3=>cases r3;exact ⟨_,_,rfl⟩
    cases rs with|cons r1 r2=>
    cases r2 with|cons r2 r3=>
    cases r1
    cases r2
    refine ⟨_,rfl,q,_,_,_,rfl,rfl,sq,aD (j:=0) rfl,_,rfl,rfl,_,rfl,b_ (by decide +kernel) ⟨_,rfl,rfl,_,rfl,cQ (by decide +kernel) ?_⟩⟩
    refine ⟨_,rfl,o,C,dx,_,_,rfl,ho,KC.cl,KC.nN,yJ nm a,_,rfl,q,_,_,_,rfl,rfl,sq,aD (j:=1) rfl,rfl,?_⟩
    have e:decide (V.str nm=V.str x)=gJ nm fs zs "is" [.str x]:=by
     unfold gJ
     rw [if_neg (by decide +kernel)]
     simp
    show Q (.bl (decide (V.str nm=V.str x))) H
    rw [e]
    exact k _ (aC.refl _)
  | @num f' x i hf hx hi=>
    obtain ⟨x0,x1,x2,rfl⟩:∃ x0 x1 x2,xs=[x0,x1,x2]:=by
     cases rs with|cons r1 r2=>cases r2 with|cons r2 r3=>cases r3 with|cons r3 r4=>cases r4;exact ⟨_,_,_,rfl⟩
    cases rs with|cons r1 r2=>
    cases r2 with|cons r2 r3=>
    cases r3 with|cons r3 r4=>
    cases r1
    cases r2
    cases r3
    have n1:decide (V.str f=V.str "all")=false:=by rcases hf with rfl|rfl <;> decide +kernel
    have n2:decide (V.str f=V.str "is")=false:=by rcases hf with rfl|rfl <;> decide +kernel
    have n3:¬ f = "all":=by rcases hf with rfl|rfl <;> decide +kernel
    refine ⟨_,rfl,q,_,_,_,rfl,rfl,sq,aD (j:=0) rfl,_,rfl,rfl,_,rfl,b_ n1 ⟨_,rfl,rfl,_,rfl,b_ n2 ?_⟩⟩
    refine ⟨_,rfl,o,dx,_,rfl,ho,(tD nm a).1,_,rfl,q,_,_,_,rfl,rfl,sq,aD (j:=1) rfl,o,a,nm,x,fs,rfl,ka,fl,fun H1 s1=>?_⟩
    have sq1:=s1.tup sq
    have hb1:=s1 _ _ hb
    unfold gJ at k
    rw [if_neg n3] at k
    unfold p8
    by_cases hin:x∈fs.map (·.1)
    ·rw [if_pos hin]
     have k:∀ H',aC H H'->Q (.bl (if f = "less" then decide (zs.getD ((fs.map (·.1)).idxOf x) 0<i) else decide (zs.getD ((fs.map (·.1)).idxOf x) 0=i))) H':=fun H' s'=>by
      have:=k H' s'
      dsimp only at this
      rw [if_pos hin] at this
      exact this
     have il:(fs.map (·.1)).idxOf x<zs.length:=by
      have:=List.idxOf_lt_length_iff.mpr hin
      rw [List.length_map] at this
      omega
     have eg:zs.getD ((fs.map (·.1)).idxOf x) 0=zs[(fs.map (·.1)).idxOf x]:=by simp [List.getD_eq_getElem?_getD,il]
     rw [eg] at k
     refine ⟨_,rfl,rfl,_,rfl,b_ (by simp) ?_⟩
     have at1:lG (zs.map V.int) (((fs.map (·.1)).idxOf x:Nat):Int)=some (.int zs[(fs.map (·.1)).idxOf x]):=aD (by rw [List.getElem?_map,List.getElem?_eq_getElem il];rfl)
     refine ⟨_,rfl,rfl,_,rfl,?_⟩
     rcases hf with rfl|rfl
     ·refine cQ (by decide +kernel) ?_
      have:=k _ s1
      rw [if_pos rfl] at this
      exact ⟨_,rfl,_,rfl,b,_,_,_,rfl,rfl,bF.of hb1,at1,_,rfl,q,_,_,_,rfl,rfl,sq1,aD (j:=2) rfl,_,_,rfl,rfl,this⟩
     ·refine b_ (by decide +kernel) ?_
      have:=k _ s1
      rw [if_neg (by decide +kernel)] at this
      refine ⟨_,rfl,_,rfl,b,_,_,_,rfl,rfl,bF.of hb1,at1,_,rfl,q,_,_,_,rfl,rfl,sq1,aD (j:=2) rfl,rfl,?_⟩
      have e:decide (V.int zs[(fs.map (·.1)).idxOf x]=V.int i)=decide (zs[(fs.map (·.1)).idxOf x]=i):=by simp
      rw [e]
      exact this
    ·rw [if_neg hin]
     have k:∀ H',aC H H'->Q (.bl false) H':=fun H' s'=>by
      have:=k H' s'
      dsimp only at this
      rw [if_neg hin] at this
      exact this
     exact ⟨_,rfl,rfl,_,rfl,cQ (by decide +kernel) (k _ s1)⟩
theorem uE:∀ {fs:List dN} {zs:List Int},dD fs zs=none->zs.length=fs.length
 |[],[],_=>rfl
 |[],_::_,h=>by cases h
 |_::_,[],h=>by cases h
 | f::fs,z::zs,h=>by
   unfold dD at h
   split at h
   ·rw [Option.map_eq_none_iff] at h
    rw [List.length_cons,List.length_cons,uE h]
   ·cases h
def eQ (nm:Str) (fs:List dN) (zs:List Int):PyData->Bool
 |.tuple (.str f::r)=>bD nm fs zs 5 f r
 |_=>false
theorem nZ (N:Node n f r) (tr:∀ d∈r,TD d):(f = "not"/\∃ g q,r=[.tuple (.str g::q)])∨((f = "and"∨f = "or")/\∃ g q h p,r=[.tuple (.str g::q),.tuple (.str h::p)]):=by
 have ar:=N.ar
 unfold arity at ar
 by_cases h1:f = "not"
 ·rw [if_pos h1] at ar
  injection ar with ar
  left
  refine ⟨h1,?_⟩
  match r,ar,N,tr with
  | [x],_,N,tr=>
    obtain ⟨g,q,rfl⟩:=bT (tr x (by simp)) (N.sh x (by simp))
    exact ⟨g,q,rfl⟩
 ·rw [if_neg h1] at ar
  right
  have two:∀ {r:List PyData},2=r.length->(∀ d∈r,TD d)->(∀ d∈r,bA d=true)->∃ g q h p,r=[.tuple (.str g::q),.tuple (.str h::p)]:=by
   intro r e t s
   match r,e,t,s with
   | [x,y],_,t,s=>
     obtain ⟨g,q,rfl⟩:=bT (t x (by simp)) (s x (by simp))
     obtain ⟨h,p,rfl⟩:=bT (t y (by simp)) (s y (by simp))
     exact ⟨g,q,h,p,rfl⟩
  by_cases h2:f = "and"
  ·rw [if_pos h2] at ar
   injection ar with ar
   exact ⟨.inl h2,two ar tr N.sh⟩
  ·rw [if_neg h2] at ar
   by_cases h3:f = "or"
   ·rw [if_pos h3] at ar
    injection ar with ar
    exact ⟨.inr h3,two ar tr N.sh⟩
   ·rw [if_neg h3] at ar
    cases ar
theorem nP (h:arity f=none):¬ f = "not"/\¬ f = "and"/\¬ f = "or":=by
 unfold arity at h
 refine ⟨fun z=>?_,fun z=>?_,fun z=>?_⟩
 ·rw [if_pos z] at h;cases h
 ·by_cases h1:f = "not"
  ·rw [if_pos h1] at h;cases h
  ·rw [if_neg h1,if_pos z] at h;cases h
 ·by_cases h1:f = "not"
  ·rw [if_pos h1] at h;cases h
  ·rw [if_neg h1] at h
   by_cases h2:f = "and"
   ·rw [if_pos h2] at h;cases h
   ·rw [if_neg h2,if_pos z] at h;cases h
theorem fU (h:¬ f=g):decide (V.str f=V.str g)=false:=by
 rw [decide_eq_false_iff_not,V.str.injEq];exact h
section
variable {P:Program} {w:World} {K:PySem.W.Frag} {mg:Str->Option Value} {base:Heap}
structure Ex (K:Frag) (C:Addr) (n:Nat) (H:Hp) (q o a b:Addr) (f nm:Str) (r:List PyData) (fs:List dN) (zs:List Int):Prop where
 rq:Rep K H (.ref q) (.tuple (.str f::r))
 td:TD (.tuple (.str f::r))
 sh:bA (.tuple (.str f::r))=true
 de:bO (.tuple (.str f::r))≤n
 ka:cP C H o nm a fs
 fl:fs.length≤4
 hb:H b=some (.tup (zs.map V.int))
 zl:zs.length=fs.length
def zQ (K:Frag) (C:Addr) (n:Nat):Sp:=fun vs H Q _=>∃ (q o a b:Addr) (f nm:Str) (r:List PyData) (fs:List dN) (zs:List Int),vs=[.ref q,.ref o,.ref b]/\Ex K C n H q o a b f nm r fs zs/\∀ H',aC H H'->Q (.bl (bD nm fs zs n f r)) H'
abbrev R9:List Str:=["test","kind","values","form"]
theorem Hy:aR R9 ["test","kind","values"] (aA (top 31)):=⟨rfl,rfl,rfl,by decide +kernel,rfl,by decide +kernel,by decide +kernel⟩
theorem Jv (DP:cF K mg "passes" (top 31) ["test","kind","values"] f fd) (DL:cF K mg "passes_leaf" (top 32) ["leaf","kind","values"] fL fdL) (GL:aN P w K mg base bL 2 fL fdL ["leaf","kind","values"] (G9 K C)) (n:Nat):aN P w K mg base bL (n+2) f fd ["test","kind","values"] (zQ K C n):=by
 refine Nat.rec (motive:=fun n=>aN P w K mg base bL (n+2) f fd ["test","kind","values"] (zQ K C n)) ⟨fun _ _ _ _ h=>?_,fun _ _ _ _ _ _ _ _ _ _ _ _ _ h=>?_⟩ (fun n GP=>?_) n
 ·obtain ⟨q,o,a,b,f,nm,r,fs,zs,_,h,_⟩:=h
  exact absurd (Nat.le_trans (cO _) h.de) (by decide)
 ·obtain ⟨q,o,a,b,f,nm,r,fs,zs,_,h,_⟩:=h
  exact absurd (Nat.le_trans (cO _) h.de) (by decide)
 refine DP.F.ok Hy (fun vs H Q E h=>?_) (fun cdv A outer s H vs Q E hr h=>?_)
 ·obtain ⟨q,o,a,b,f,nm,r,fs,zs,rfl,_⟩:=h
  rfl
 ·obtain ⟨q,o,a,b,f,nm,r,fs,zs,rfl,h,k⟩:=h
  have hr2:bH 2 _:=hr.mono (show 2≤n+2 by omega)
  refine ⟨_,(ao (b7 (i:=3) Hy.nd rfl (Or.inl rfl) (aX aZ (pv 0) aq (fun _ _=>rfl)))
   (ao (bh (aK bJ (pv 3) aO (aM _)) (au (aP (qO (aB GP hr rfl DP.mg DP.F.kp DP.b .nil aL (aa (aX aZ (pv 0) aq (fun _ _=>rfl)) (aa (pv 1) (aa (pv 2) aj))))))) aQ)
   (ao (bh (aK bJ (pv 3) aO (aM _)) (au (aP (cX (aB GP hr rfl DP.mg DP.F.kp DP.b .nil aL (aa (aX aZ (pv 0) aq (fun _ _=>rfl)) (aa (pv 1) (aa (pv 2) aj)))) (fZ (aB GP hr rfl DP.mg DP.F.kp DP.b .nil aL (aa (aX aZ (pv 0) aq (fun _ _=>rfl)) (aa (pv 1) (aa (pv 2) aj)))))))) aQ)
   (ao (bh (aK bJ (pv 3) aO (aM _)) (au (aP (Ih (aB GP hr rfl DP.mg DP.F.kp DP.b .nil aL (aa (aX aZ (pv 0) aq (fun _ _=>rfl)) (aa (pv 1) (aa (pv 2) aj)))) (fZ (aB GP hr rfl DP.mg DP.F.kp DP.b .nil aL (aa (aX aZ (pv 0) aq (fun _ _=>rfl)) (aa (pv 1) (aa (pv 2) aj)))))))) aQ)
   (au (aP (aB GL hr2 rfl DL.mg DL.F.kp DL.b .nil aL (aa (pv 0) (aa (pv 1) (aa (pv 2) aj)))))))))),?_⟩
  obtain ⟨rq,td,sh,de,ka,fl,hb,zl⟩:=h
  have rq0:=rq
  cases td with
  |node af lf nr tr=>
  cases rq with
  |@tup _ xs _ sq rs=>
  obtain ⟨x0,ys,rfl⟩:∃ x0 ys,xs=x0::ys:=by cases rs;exact ⟨_,_,rfl⟩
  obtain ⟨r0,rt⟩:Rep K H x0 (.str f)/\bj K H ys r:=by cases rs with|cons a b=>exact ⟨a,b⟩
  cases r0
  refine ⟨_,rfl,q,_,_,_,rfl,rfl,sq,aD (j:=0) rfl,_,rfl,rfl,_,rfl,?_⟩
  unfold bD at k
  rcases fQ sh de with ⟨ha,hlf⟩|N
  ·obtain ⟨n1,n2,n3⟩:=nP ha
   rw [if_neg n1,if_neg n2,if_neg n3] at k
   refine b_ (fU n1) ⟨_,rfl,rfl,_,rfl,b_ (fU n2) ⟨_,rfl,rfl,_,rfl,b_ (fU n3) ?_⟩⟩
   exact ⟨_,rfl,_,rfl,_,rfl,q,o,a,b,f,nm,r,fs,zs,rfl,rq0,pF hlf,ka,fl,hb,zl,k⟩
  ·rcases nZ N tr with ⟨rfl,g,u,rfl⟩|⟨hf,g,u,h,v,rfl⟩
   ·rw [if_pos rfl] at k
    cases rt with
    |@cons y1 _ y2 _ r1 r2=>
    cases r2
    cases r1 with
    |@tup q1 z1 _ s1 t1=>
    refine cQ (by decide +kernel) ⟨_,rfl,q,_,_,_,rfl,rfl,sq,aD (j:=1) rfl,_,rfl,_,rfl,q1,o,a,b,g,nm,u,fs,zs,rfl,⟨.tup s1 t1,tr _ (by simp),N.sh _ (by simp),N.de _ (by simp),ka,fl,hb,zl⟩,fun H1 e1=>⟨_,rfl,k H1 e1⟩⟩
   ·cases rt with
    |@cons y1 _ y2 _ r1 r2=>
    cases r2 with
    |@cons y3 _ y4 _ r2 r3=>
    cases r3
    cases r1 with
    |@tup q1 z1 _ s1 t1=>
    cases r2 with
    |@tup q2 z2 _ s2 t2=>
    have i1:∀ {H1},aC H H1->Ex K C n H1 q1 o a b g nm u fs zs:=fun e=>⟨.tup (e.tup s1) (t1.same e),tr _ (by simp),N.sh _ (by simp),N.de _ (by simp),ka.same e,fl,e _ _ hb,zl⟩
    have i2:∀ {H1},aC H H1->Ex K C n H1 q2 o a b h nm v fs zs:=fun e=>⟨.tup (e.tup s2) (t2.same e),tr _ (by simp),N.sh _ (by simp),N.de _ (by simp),ka.same e,fl,e _ _ hb,zl⟩
    rcases hf with rfl|rfl
    ·rw [if_neg (by decide +kernel),if_pos rfl] at k
     refine b_ (by decide +kernel) ⟨_,rfl,rfl,_,rfl,cQ (by decide +kernel) ?_⟩
     refine ⟨_,rfl,q,_,_,_,rfl,rfl,sq,aD (j:=1) rfl,_,rfl,_,rfl,q1,o,a,b,g,nm,u,fs,zs,rfl,i1 (aC.refl _),fun H1 e1=>⟨_,rfl,?_⟩⟩
     dsimp only at k
     cases hp:bD nm fs zs n g u with
     |false=>rw [hp,Bool.false_and] at k;exact b_ rfl (k _ e1)
     | true=>
       rw [hp,Bool.true_and] at k
       exact cQ rfl ⟨_,rfl,q,_,_,_,rfl,rfl,e1.tup sq,aD (j:=2) rfl,_,rfl,_,rfl,q2,o,a,b,h,nm,v,fs,zs,rfl,i2 e1,fun H2 e2=>k _ (e1.trans e2)⟩
    ·rw [if_neg (by decide +kernel),if_neg (by decide +kernel),if_pos rfl] at k
     refine b_ (by decide +kernel) ⟨_,rfl,rfl,_,rfl,b_ (by decide +kernel) ⟨_,rfl,rfl,_,rfl,cQ (by decide +kernel) ?_⟩⟩
     refine ⟨_,rfl,q,_,_,_,rfl,rfl,sq,aD (j:=1) rfl,_,rfl,_,rfl,q1,o,a,b,g,nm,u,fs,zs,rfl,i1 (aC.refl _),fun H1 e1=>⟨_,rfl,?_⟩⟩
     dsimp only at k
     cases hp:bD nm fs zs n g u with
     |true=>rw [hp,Bool.true_or] at k;exact cQ rfl (k _ e1)
     | false=>
       rw [hp,Bool.false_or] at k
       exact b_ rfl ⟨_,rfl,q,_,_,_,rfl,rfl,e1.tup sq,aD (j:=2) rfl,_,rfl,_,rfl,q2,o,a,b,h,nm,v,fs,zs,rfl,i2 e1,fun H2 e2=>k _ (e1.trans e2)⟩
def Hn (K:Frag) (C cT cV:Addr):Sp:=fun vs H Q E=>∃ (x:V) (o a b:Addr) (d:PyData) (nm:Str) (fs:List dN) (zs:List Int),vs=[x,.ref o,.ref b]/\Rep K H x d/\TD d/\cP C H o nm a fs/\fs.length≤4/\H b=some (.tup (zs.map V.int))/\zs.length≤70/\
 (cU d=true->dD fs zs=none->∀ H',aC H H'->Q (.bl (eQ nm fs zs d)) H')/\(cU d=false->∀ H1 da H',aC H H1->jP H1 Ph da H'->E (.ref cT) (some da) H')/\
 (cU d=true->∀ i:Nat,dD fs zs=some i->∀ H1 da H',aC H H1->jP H1 (NZ i) da H'->E (.ref cV) (some da) H')
theorem Q5:aR ["test","kind","values"] ["test","kind","values"] (aA (top 30)):=⟨rfl,rfl,rfl,by decide +kernel,rfl,by decide +kernel,by decide +kernel⟩
theorem J3 (F:fX K "holds" "holds" (top 30) f fd) (KC:KCls K mg C) (DT:cF K mg "need_test" (top 28) ["test"] fT fdT) (GT:aN P w K mg base (qY P w) 11 fT fdT ["test"] (Dh K cT))
 (MN:MD K C "need" "Kind.need" (kM 4) ["self","values"] fM fdM) (GN:aN P w K mg base (qY P w) 5 fM fdM ["self","values"] (wK C cV)) (DP:cF K mg "passes" (top 31) ["test","kind","values"] fP fdP) (GP:aN P w K mg base bL 7 fP fdP ["test","kind","values"] (zQ K C 5)):aN P w K mg base (qY P w) 12 f fd ["test","kind","values"] (Hn K C cT cV):=by
 refine F.ok1 Q5 (fun vs H Q E h=>?_) (fun cdv A outer s H vs Q E hr h=>?_)
 ·obtain ⟨x,o,a,b,d,nm,fs,zs,rfl,_⟩:=h
  rfl
 ·obtain ⟨x,o,a,b,d,nm,fs,zs,rfl,rx,td,ka,fl,hb,zl,k,kt,kv⟩:=h
  have hr5:bH 5 _:=hr.mono (by decide)
  have hr7:bH 7 _:=hr.mono (by decide)
  refine ⟨_,(ao (c7 (aB (E:=E) GT hr rfl DT.mg DT.F.kp DT.b .nil (ut fun _ _ _ h=>h) (aa (pv 0) aj)))
   (ao (c7 (uD (E:=E) (pv 1) KC.cl MN.M GN hr5 MN.b .nil (ut fun _ _ _ h=>h) (aa (pv 2) aj)))
   (au (aP (aB (E:=E0) GP hr7 rfl DP.mg DP.F.kp DP.b .nil aL (aa (pv 0) (aa (pv 1) (aa (pv 2) aj)))))))),?_⟩
  refine ⟨_,rfl,x,d,rfl,rx,td,fun h1 H1 s1=>?_,fun h1 H1 da H' s1 th=>kt h1 H1 da H' s1 th⟩
  have ka1:=ka.same s1
  obtain ⟨⟨dx,ho⟩,_⟩:=id ka1
  refine ⟨_,rfl,o,dx,_,rfl,ho,(tD nm a).2,_,rfl,o,a,b,nm,fs,zs,rfl,ka1,s1 _ _ hb,by omega,zl,fun h2 H2 s2=>?_,fun i h2 H2 da H' s2 th=>kv h1 i h2 H2 da H' (s1.trans s2) th⟩
  obtain ⟨sh,de,_⟩:=sr h1
  obtain ⟨f,r,rfl⟩:=bT td sh
  have S2:=s1.trans s2
  have rx2:=rx.same S2
  cases rx2 with
  |@tup q xs _ sq rs=>
  exact ⟨_,rfl,_,rfl,_,rfl,q,o,a,b,f,nm,r,fs,zs,rfl,⟨.tup sq rs,td,sh,de,ka.same S2,fl,S2 _ _ hb,uE h2⟩,fun H3 s3=>k h1 h2 H3 (S2.trans s3)⟩
end
def dz (x:Str) (ns:List Str) (n:Nat):List Nat:=(List.range n).filter fun i=>decide (ns[i]?=some x)
theorem qQ (x y:Str) (t:List Str):dz x (y::t) (t.length+1)=(if y=x then [0] else [])++(dz x t t.length).map Nat.succ:=by
 unfold dz
 rw [List.range_succ_eq_map,List.filter_cons,List.filter_map]
 have e:((fun i=>decide ((y::t)[i]?=some x)) ∘ Nat.succ)=fun i=>decide (t[i]?=some x):=by
  funext i
  simp
 rw [e]
 by_cases h:y=x
 ·simp [h]
 ·simp [h]
theorem qg (x:Str):∀ ns:List Str,(x∉ns->dz x ns ns.length=[])/\(x∈ns->∃ r,dz x ns ns.length=ns.idxOf x::r)
 |[]=>⟨fun _=>rfl,fun h=>by simp at h⟩
 | y::t=>by
   obtain ⟨ih1,ih2⟩:=qg x t
   rw [List.length_cons,qQ]
   refine ⟨fun h=>?_,fun h=>?_⟩
   ·simp at h
    rw [if_neg (fun z=>h.1 z.symm),ih1 h.2]
    rfl
   ·by_cases e:y=x
    ·rw [if_pos e]
     exact ⟨_,by rw [List.idxOf_cons,show (y == x)=true from by simp [e]];rfl⟩
    ·rw [if_neg e]
     have hm:x∈t:=by
      rcases List.mem_cons.mp h with z|z
      ·exact absurd z.symm e
      ·exact z
     obtain ⟨r,er⟩:=ih2 hm
     refine ⟨r.map Nat.succ,?_⟩
     rw [er,List.idxOf_cons,show (y == x)=false from by simp [e]]
     rfl
section
variable {P:Program} {w:World} {K:PySem.W.Frag} {mg:Str->Option Value} {base:Heap}
structure KJ (K:Frag) (n:Nat) (H:Hp) (q a b:Addr) (f:Str) (r:List PyData) (xs:List V) (fs:List dN) (zs:List Int):Prop where
 rq:Rep K H (.ref q) (.tuple (.str f::r))
 td:TD (.tuple (.str f::r))
 sh:bA (.tuple (.str f::r))=true
 de:bO (.tuple (.str f::r))≤n
 ha:H a=some (.tup xs)
 pf:Paired (cZ H) xs fs
 fl:fs.length≤4
 hb:H b=some (.tup (zs.map V.int))
 zl:zs.length=fs.length
def Br (K:Frag) (n:Nat):Sp:=fun vs H Q _=>∃ (q a b:Addr) (f nm:Str) (r:List PyData) (xs:List V) (fs:List dN) (zs:List Int),vs=[.ref q,.str nm,.ref a,.ref b]/\KJ K n H q a b f r xs fs zs/\∀ H',aC H H'->Q (.bl (bD nm fs zs n f r)) H'
abbrev Fl:List Str:=["_law_test","_law_title","_law_fields_here","_law_values"]
abbrev M_:List Str:=["_law_test","_law_title","_law_fields_here","_law_values","_law_both","_law_spots"]
theorem Bp:aR M_ Fl (aA (top 50)):=⟨rfl,rfl,rfl,by decide +kernel,rfl,by decide +kernel,by decide +kernel⟩
theorem Il (DL:cF K mg "_law_passes" (top 50) Fl f fd) (T:Txt K mg) (n:Nat):aN P w K mg base bL n f fd Fl (Br K n):=by
 refine Nat.rec (motive:=fun n=>aN P w K mg base bL n f fd Fl (Br K n)) ⟨fun _ _ _ _ h=>?_,fun _ _ _ _ _ _ _ _ _ _ _ _ _ h=>?_⟩ (fun n GL=>?_) n
 ·obtain ⟨q,a,b,f,nm,r,xs,fs,zs,_,h,_⟩:=h
  exact absurd (Nat.le_trans (cO _) h.de) (by decide)
 ·obtain ⟨q,a,b,f,nm,r,xs,fs,zs,_,h,_⟩:=h
  exact absurd (Nat.le_trans (cO _) h.de) (by decide)
 refine DL.F.ok Bp (fun vs H Q E h=>?_) (fun cdv A outer s H vs Q E hr h=>?_)
 ·obtain ⟨q,a,b,f,nm,r,xs,fs,zs,rfl,_⟩:=h
  rfl
 ·obtain ⟨q,a,b,f,nm,r,xs,fs,zs,rfl,h,k⟩:=h
  refine ⟨_,(ao (bh (aK bJ (aX aZ (pv 0) aq (fun _ _=>rfl)) aO (aM _)) (au (aP (qO (aB GL hr rfl DL.mg DL.F.kp DL.b .nil aL (aa (aX aZ (pv 0) aq (fun _ _=>rfl)) (aa (pv 1) (aa (pv 2) (aa (pv 3) aj)))))))) aQ)
   (ao (bh (aK gK (aX aZ (pv 0) aq (fun _ _=>rfl)) (dm (aa aO (aa aO aj))) rfl) (ao
    (eZ (g:=bK 0) (i:=4) (own:=["_law_part"]) (js:=[2,1,3]) (N':=["_law_part","_law_fields_here","_law_title","_law_values"]) (bu.of (osc:=aA (top 50)) (N:=M_) rfl rfl ⟨rfl,by decide +kernel,by decide +kernel,by decide +kernel,rfl,by decide +kernel⟩) rfl Bp.nd rfl rfl (ig (gF kO (pv 0) (iD aq) iH)) (fun _ _ _ _ _=>(aV (i:=0) (show List.Nodup (["_law_part","_law_fields_here","_law_title","_law_values"]:List Str) by decide +kernel) rfl (Or.inl rfl) (Or.inr rfl))) (fun _ _ _ _ _=>eY) (fun _ _ _ _ _=>aB GL hr rfl DL.mg DL.F.kp DL.b .nil aL (aa (pv 0) (aa (pv 2) (aa (pv 1) (aa (pv 3) aj))))))
    (au (aP (gj (aK bJ (aX aZ (pv 0) aq (fun _ _=>rfl)) aO (aM _)) (aG (mQ rfl) (by rfl) T.all xf (aa (pv 4) aj)) (aG (vH rfl) (by rfl) T.any CN (aa (pv 4) aj)))))) aQ)
   (ao (bh (aK bJ (aX aZ (pv 0) aq (fun _ _=>rfl)) aO (aM _)) (au (aP qm)) aQ)
   (ao (bh (aK bJ (aX aZ (pv 0) aq (fun _ _=>rfl)) aO (aM _)) (au (aP (bZ bJ (pv 1) (aX aZ (pv 0) aq (fun _ _=>rfl)) (aM _)))) aQ)
   (ao (eZ (g:=bK 0) (i:=5) (own:=["_law_at"]) (js:=[2,0]) (N':=["_law_at","_law_fields_here","_law_test"]) (bu.of (osc:=aA (top 50)) (N:=M_) rfl rfl ⟨rfl,by decide +kernel,by decide +kernel,by decide +kernel,rfl,by decide +kernel⟩) rfl Bp.nd rfl rfl (dC rfl T.range (aa (aG aU (by rfl) T.len bV (aa (pv 2) aj)) aj)) (fun _ _ _ _ _=>(aV (i:=0) (show List.Nodup (["_law_at","_law_fields_here","_law_test"]:List Str) by decide +kernel) rfl (Or.inl rfl) (Or.inr rfl))) (fun _ _ _ _ _=>jw (aK (r:=Ql) bJ (aX (r:=lV K) aZ (aX (r:=lV K) aZ (pv 1) (pv 0) (fun _ _=>rfl)) aq (fun _ _=>rfl)) (aX (r:=lV K) aZ (pv 2) aq (fun _ _=>rfl)) (aM _))) (fun _ _ _ _ _=>pv 0))
   (ao (bh (aK bJ (aG aU (by rfl) T.len bV (aa (pv 5) aj)) aq (aM _)) (au (aP qm)) aQ)
   (au (aP (gj (aK bJ (aX aZ (pv 0) aq (fun _ _=>rfl)) aO (aM _)) (bZ uq (aX aZ (pv 3) (aX cR (pv 5) aq (fun _ _=>rfl)) (fun _ _=>rfl)) (aX aZ (pv 0) aq (fun _ _=>rfl)) (aM _)) (bZ bJ (aX aZ (pv 3) (aX cR (pv 5) aq (fun _ _=>rfl)) (fun _ _=>rfl)) (aX aZ (pv 0) aq (fun _ _=>rfl)) (aM _))))))))))),?_⟩
  obtain ⟨rq,td,sh,de,ha,pf,fl,hb,zl⟩:=h
  have rq0:=rq
  have pl:=Paired.length pf
  cases td with
  |node af lf nr tr=>
  cases rq with
  |@tup _ qs _ sq rs=>
  obtain ⟨x0,ys,rfl⟩:∃ x0 ys,qs=x0::ys:=by cases rs;exact ⟨_,_,rfl⟩
  obtain ⟨r0,rt⟩:Rep K H x0 (.str f)/\bj K H ys r:=by cases rs with|cons a b=>exact ⟨a,b⟩
  cases r0
  have hl:=rt.length
  refine ⟨_,rfl,q,_,_,_,rfl,rfl,sq,aD (j:=0) rfl,rfl,_,rfl,?_⟩
  unfold bD at k
  have ins:∀ {n':Nat} {g:Str} {u:List PyData} {y:V} {H1:Hp},aC H H1->Rep K H y (.tuple (.str g::u))->TD (.tuple (.str g::u))->bA (.tuple (.str g::u))=true->bO (.tuple (.str g::u))≤n'->∃ q1,y=.ref q1/\KJ K n' H1 q1 a b g u xs fs zs:=by
   intro n' g u y H1 e ry t s d
   cases ry with
   |@tup q1 z1 _ s1 t1=>exact ⟨q1,rfl,.tup (e.tup s1) (t1.same e),t,s,d,e _ _ ha,cG pf fun _ _ z=>e _ _ z,fl,e _ _ hb,zl⟩
  rcases fQ sh de with ⟨hna,hlf⟩|N
  ·obtain ⟨n1,n2,n3⟩:=nP hna
   rw [if_neg n1,if_neg n2,if_neg n3] at k
   refine b_ (fU n1) ⟨_,rfl,q,_,_,_,rfl,rfl,sq,aD (j:=0) rfl,(show 2≤sizeLine by decide),fun t ht=>?_⟩
   have s0:aC H (upd H t (.tup [.str "and",.str "or"])):=aC.new ht
   refine ⟨t,_,rfl,.inr (bF.of ak),rfl,rfl,_,rfl,?_⟩
   rw [Fy]
   generalize upd H t (.tup [.str "and",.str "or"])=H0 at s0 ⊢
   have sq0:=s0.tup sq
   refine b_ (decide_eq_false fun z=>z.elim n2 n3) ⟨_,rfl,q,_,_,_,rfl,rfl,sq0,aD (j:=0) rfl,rfl,_,rfl,?_⟩
   have lf:=pF hlf
   cases lf with
   |all=>exact cQ (by decide +kernel) (k _ s0)
   | @is x hx=>
     cases rt with|@cons y1 _ y2 _ r1 r2=>
     cases r2
     cases r1
     refine b_ (by decide +kernel) ⟨_,rfl,q,_,_,_,rfl,rfl,sq0,aD (j:=0) rfl,rfl,_,rfl,cQ (by decide +kernel) ?_⟩
     refine ⟨_,rfl,_,rfl,q,_,_,_,rfl,rfl,sq0,aD (j:=1) rfl,rfl,?_⟩
     have e:decide (V.str nm=V.str x)=gJ nm fs zs "is" [.str x]:=by
      unfold gJ
      rw [if_neg (by decide +kernel)]
      simp
     show Q (.bl (decide (V.str nm=V.str x))) H0
     rw [e]
     exact k _ s0
   | @num f' x i hf hx hi=>
     cases rt with|@cons y1 _ y2 _ r1 r2=>
     cases r2 with|@cons y3 _ y4 _ r2 r3=>
     cases r3
     cases r1
     cases r2
     have m1:decide (V.str f=V.str "all")=false:=by rcases hf with rfl|rfl <;> decide +kernel
     have m2:decide (V.str f=V.str "is")=false:=by rcases hf with rfl|rfl <;> decide +kernel
     have m3:¬ f = "all":=by rcases hf with rfl|rfl <;> decide +kernel
     unfold gJ at k
     rw [if_neg m3] at k
     dsimp only at k
     have ha0:=s0 _ _ ha
     have big:200000≤sizeLine:=by decide
     refine b_ m1 ⟨_,rfl,q,_,_,_,rfl,rfl,sq0,aD (j:=0) rfl,rfl,_,rfl,b_ m2 ?_⟩
     refine ⟨_,rfl,a,xs,rfl,.inr (bF.of ha0),(xs.length:Int),rfl,by omega,by omega,?_⟩
     refine pO (lo:=0) (n:=xs.length) (fun j ws σ' H'=>(∃ v,σ'=[v,some (.ref a),some (.ref q)])/\H'=H0/\ws=(dz x (fs.map (·.1)) j).map fun j=>V.int (j:Nat)) (by omega) ⟨⟨none,rfl⟩,rfl,rfl⟩ ?_ ?_
     ·rintro j ws σ' H' hj ⟨⟨v,rfl⟩,rfl,rfl⟩ N hN
      rw [show (0:Int)+(j:Int)=((j:Nat):Int) from Int.zero_add _]
      have hxj:=List.getElem?_eq_getElem hj
      obtain ⟨⟨fn,flo,fhi⟩,hfj,b',e',hb'⟩:=cC pf hxj
      have hb0:=s0 _ _ hb'
      refine ⟨_,rfl,_,rfl,a,_,_,xs[j],rfl,rfl,bF.of ha0,aD hxj,b',_,_,_,e',rfl,bF.of hb0,aD (j:=0) rfl,_,rfl,q,_,_,_,rfl,rfl,sq0,aD (j:=1) rfl,rfl,_,rfl,?_⟩
      have cd:decide (V.str fn=V.str x)=decide ((fs.map (·.1))[j]?=some x):=by
       rw [List.getElem?_map,hfj]
       simp
      have e1:dz x (fs.map (·.1)) (j+1)=dz x (fs.map (·.1)) j++(if decide ((fs.map (·.1))[j]?=some x)=true then [j] else []):=by
       unfold dz
       rw [List.range_succ,List.filter_append,List.filter_cons,List.filter_nil]
      refine (show (if decide (V.str fn=V.str x)=true then _ else _) from ?_)
      rw [cd]
      cases hd:decide ((fs.map (·.1))[j]?=some x) with
      | true=>
        rw [hd] at e1
        exact cQ rfl ⟨_,rfl,hN _ _ _ ⟨⟨_,rfl⟩,rfl,by rw [e1];simp⟩ (by simp)⟩
      | false=>
        rw [hd] at e1
        exact b_ rfl (hN _ _ _ ⟨⟨_,rfl⟩,rfl,by rw [e1];simp⟩ (by simp))
     ·rintro ws σ' H' hw ⟨⟨v,rfl⟩,rfl,rfl⟩
      rw [show xs.length=(fs.map (·.1)).length by rw [List.length_map];exact pl] at hw ⊢
      refine ⟨Nat.le_trans hw (by rw [List.length_map];omega),fun p hp=>?_⟩
      obtain ⟨o1,o2⟩:=qg x (fs.map (·.1))
      have s1:aC H' (upd H' p (.lst ((dz x (fs.map (·.1)) (fs.map (·.1)).length).map fun j=>V.int (j:Nat)))):=aC.new hp
      have hp1:(upd H' p (.lst ((dz x (fs.map (·.1)) (fs.map (·.1)).length).map fun j=>V.int (j:Nat)))) p=some (.lst ((dz x (fs.map (·.1)) (fs.map (·.1)).length).map fun j=>V.int (j:Nat))):=ak
      generalize upd H' p (.lst ((dz x (fs.map (·.1)) (fs.map (·.1)).length).map fun j=>V.int (j:Nat)))=H1 at s1 hp1 ⊢
      have S1:=s0.trans s1
      have sq1:=S1.tup sq
      have hb1:=S1 _ _ hb
      by_cases hin:x∈fs.map (·.1)
      ·obtain ⟨rest,er⟩:=o2 hin
       rw [er,List.map_cons] at hp1
       rw [if_pos hin] at k
       have il:(fs.map (·.1)).idxOf x<zs.length:=by
        have:=List.idxOf_lt_length_iff.mpr hin
        rw [List.length_map] at this
        omega
       have eg:zs.getD ((fs.map (·.1)).idxOf x) 0=zs[(fs.map (·.1)).idxOf x]:=by simp [List.getD_eq_getElem?_getD,il]
       rw [eg] at k
       have at1:lG (zs.map V.int) (((fs.map (·.1)).idxOf x:Nat):Int)=some (.int zs[(fs.map (·.1)).idxOf x]):=aD (by rw [List.getElem?_map,List.getElem?_eq_getElem il];rfl)
       refine ⟨_,rfl,p,_,rfl,.inl (bM.of hp1),rfl,_,rfl,b_ (by simp;omega) ?_⟩
       refine ⟨_,rfl,q,_,_,_,rfl,rfl,sq1,aD (j:=0) rfl,rfl,_,rfl,?_⟩
       rcases hf with rfl|rfl
       ·refine cQ (by decide +kernel) ?_
        have:=k _ S1
        rw [if_pos rfl] at this
        exact ⟨_,rfl,_,rfl,p,_,_,_,rfl,rfl,bM.of hp1,aD (j:=0) rfl,b,_,_,_,rfl,rfl,bF.of hb1,at1,_,rfl,q,_,_,_,rfl,rfl,sq1,aD (j:=2) rfl,_,_,rfl,rfl,this⟩
       ·refine b_ (by decide +kernel) ?_
        have:=k _ S1
        rw [if_neg (by decide +kernel)] at this
        refine ⟨_,rfl,_,rfl,p,_,_,_,rfl,rfl,bM.of hp1,aD (j:=0) rfl,b,_,_,_,rfl,rfl,bF.of hb1,at1,_,rfl,q,_,_,_,rfl,rfl,sq1,aD (j:=2) rfl,rfl,?_⟩
        have e:decide (V.int zs[(fs.map (·.1)).idxOf x]=V.int i)=decide (zs[(fs.map (·.1)).idxOf x]=i):=by simp
        rw [e]
        exact this
      ·rw [o1 hin,List.map_nil] at hp1
       rw [if_neg hin] at k
       exact ⟨_,rfl,p,_,rfl,.inl (bM.of hp1),rfl,_,rfl,cQ (by decide +kernel) (k _ S1)⟩
  ·rcases nZ N tr with ⟨rfl,g,u,rfl⟩|⟨hf,g,u,h,v,rfl⟩
   ·rw [if_pos rfl] at k
    cases rt with
    |@cons y1 _ y2 _ r1 r2=>
    cases r2
    obtain ⟨q1,rfl,i1⟩:=ins (aC.refl _) r1 (tr _ (by simp)) (N.sh _ (by simp)) (N.de _ (by simp))
    exact cQ (by decide +kernel) ⟨_,rfl,q,_,_,_,rfl,rfl,sq,aD (j:=1) rfl,_,rfl,_,rfl,_,rfl,q1,a,b,g,nm,u,xs,fs,zs,rfl,i1,fun H1 e1=>⟨_,rfl,k H1 e1⟩⟩
   ·have n1:¬ f = "not":=by rcases hf with rfl|rfl <;> decide +kernel
    refine b_ (fU n1) ⟨_,rfl,q,_,_,_,rfl,rfl,sq,aD (j:=0) rfl,(show 2≤sizeLine by decide),fun t ht=>?_⟩
    have s0:aC H (upd H t (.tup [.str "and",.str "or"])):=aC.new ht
    refine ⟨t,_,rfl,.inr (bF.of ak),rfl,rfl,_,rfl,?_⟩
    rw [Fy]
    generalize upd H t (.tup [.str "and",.str "or"])=H0 at s0 ⊢
    have sq0:=s0.tup sq
    refine cQ (decide_eq_true hf) ⟨_,rfl,1,rfl,q,_,rfl,sq0,(fun e=>?_),fun p hp=>?_⟩
    ·rw [qF] at e
     have:=congrArg List.length e
     simp at this
    rw [qF]
    have sp:bF K (upd H0 p (.tup ys)) p ys:=bF.of ak
    have s1:aC H0 (upd H0 p (.tup ys)):=aC.new hp
    generalize upd H0 p (.tup ys)=H1 at sp s1 ⊢
    refine ⟨p,rfl,⟨_,sp⟩,?_⟩
    refine lW (K:=K) (a:=p) (xs:=ys) (fun i ws σ' H'=>(∃ v,σ'=[v,some (.ref a),some (.str nm),some (.ref b)])/\aC H1 H'/\ws=(([bD nm fs zs n g u,bD nm fs zs n h v].take i).map V.bl)) (Nat.le_trans (show ys.length≤2 by rw [hl];simp) (by decide)) ⟨⟨none,rfl⟩,aC.refl _,rfl⟩ (fun i ws σ' H' _ ⟨_,s2,_⟩=>s2.tup sp) ?_ ?_
    ·rintro i y ws σ' H2 hy hws ⟨⟨v',rfl⟩,s2,rfl⟩ N' hN
     obtain ⟨d,hd,ry⟩:=rt.get' hy
     have me:=List.mem_of_getElem? hd
     have il:i<2:=(List.getElem?_eq_some_iff.mp hd).1
     obtain ⟨g',u',rfl,hi⟩:∃ g' u',d=.tuple (.str g'::u')/\([bD nm fs zs n g u,bD nm fs zs n h v]:List Bool)[i]?=some (bD nm fs zs n g' u'):=by
      match i,il,hd with
      |0,_,hd=>exact ⟨g,u,by simpa using hd.symm,rfl⟩
      |1,_,hd=>exact ⟨h,v,by simpa using hd.symm,rfl⟩
     obtain ⟨q1,rfl,i1⟩:=ins ((s0.trans s1).trans s2) ry (tr _ me) (N.sh _ me) (N.de _ me)
     refine ⟨_,rfl,_,rfl,_,rfl,_,rfl,q1,a,b,g',nm,u',xs,fs,zs,rfl,i1,fun H3 s3=>?_⟩
     exact hN _ _ _ (by rw [List.length_append,hws];rfl) ⟨⟨_,rfl⟩,s2.trans s3,by rw [List.take_add_one,hi];simp⟩
    ·rintro ws σ' H2 hws ⟨⟨v',rfl⟩,s2,rfl⟩
     rw [List.take_of_length_le (by rw [hl];simp),show ([bD nm fs zs n g u,bD nm fs zs n h v]:List Bool).map V.bl=[.bl (bD nm fs zs n g u),.bl (bD nm fs zs n h v)] from rfl]
     refine ⟨(show 2≤sizeLine by decide),fun l hl'=>?_⟩
     have s3:aC H (upd H2 l (.lst [.bl (bD nm fs zs n g u),.bl (bD nm fs zs n h v)])):=((s0.trans s1).trans s2).trans (aC.new hl')
     have h3:(upd H2 l (.lst [.bl (bD nm fs zs n g u),.bl (bD nm fs zs n h v)])) l=some (.lst [.bl (bD nm fs zs n g u),.bl (bD nm fs zs n h v)]):=ak
     generalize upd H2 l (.lst [.bl (bD nm fs zs n g u),.bl (bD nm fs zs n h v)])=H3 at s3 h3 ⊢
     refine ⟨_,rfl,q,_,_,_,rfl,rfl,s3.tup sq,aD (j:=0) rfl,rfl,_,rfl,?_⟩
     rcases hf with rfl|rfl
     ·rw [if_neg (by decide +kernel),if_pos rfl] at k
      have:=k _ s3
      refine cQ (by decide +kernel) ⟨_,rfl,l,[bD nm fs zs n g u,bD nm fs zs n h v],rfl,bM.of h3,?_⟩
      simpa using this
     ·rw [if_neg (by decide +kernel),if_neg (by decide +kernel),if_pos rfl] at k
      have:=k _ s3
      refine b_ (by decide +kernel) ⟨_,rfl,l,[bD nm fs zs n g u,bD nm fs zs n h v],rfl,bM.of h3,?_⟩
      simpa using this
end
def La (e:PyData):Prop:=TD e/\bI e≤60/\∃ f r,e=.tuple (.str f::r)
theorem Rg (ha:bF K H a xs) (e:j0 xs lo hi=zs) (k:∀ l H',aC H H'->bF K H' l zs->Q (.ref l) H'):HY K (.ref a) lo hi H Q:=by
 subst e
 exact ⟨a,xs,rfl,ha,fun e=>k a H (aC.refl _) (by rw [e];exact ha),fun p hp=>k p _ (aC.new hp) (bF.of ak)⟩
def Hm:Sp:=fun vs H Q _=>∃ (p dc:Addr),vs=[.ref p]/\Dr H p dc/\∀ (t a:Addr) (nm:Str) (xs:List V) (fs:List dN) (H':Hp),H' t=some (.tup [.str nm,.ref a])->Nm nm->H' a=some (.tup xs)->Paired (cZ H') xs fs->fs.length≤4->(∀ f∈fs,iT f)->(fs.map (·.1)).Nodup->Dr H' p dc->cD p H H'->Q (.ref t) H'
theorem Ku:aR ["_law_d","_law_fields_here"] ["_law_d"] (aA (top 51)):=⟨rfl,rfl,rfl,by decide +kernel,rfl,by decide +kernel,by decide +kernel⟩
theorem Ho (F:fX K "_law_kind_of" "_law_kind_of" (top 51) f fd) (T:Txt K mg) (DP:cF K mg "_law_pick" (top 38) ["_law_d","_law_many"] fP fdP) (DW:cF K mg "_law_word" (top 41) ["_law_d"] fW fdW) (GW:aN P w K mg base bL 3 fW fdW ["_law_d"] oO) (DF:cF K mg "_law_fields" (top 44) ["_law_d","_law_many"] fF fdF) (GF:aN P w K mg base bL 5 fF fdF ["_law_d","_law_many"] (qp K)):aN P w K mg base bL 6 f fd ["_law_d"] Hm:=by
 have GP:aN P w K mg base bL 1 fP fdP ["_law_d","_law_many"] dH:=di DP.F T
 refine F.ok Ku (fun vs H Q E h=>?_) (fun cdv A outer s H vs Q E hr h=>?_)
 ·obtain ⟨p,dc,rfl,_⟩:=h
  rfl
 ·obtain ⟨p,dc,rfl,D,k⟩:=h
  have hr1:bH 1 _:=hr.mono (by decide)
  have hr3:bH 3 _:=hr.mono (by decide)
  refine ⟨_,(ao (b7 (i:=1) Ku.nd rfl (Or.inl rfl) (aB GF hr rfl DF.mg DF.F.kp DF.b .nil aL (aa (pv 0) (aa (aB GP hr1 rfl DP.mg DP.F.kp DP.b .nil aL (aa (pv 0) (aa aq aj))) aj))))
   (au (aP (dm (aa (aB GW hr3 rfl DW.mg DW.F.kp DW.b .nil aL (aa (pv 0) aj)) (aa (pv 1) aj)))))),?_⟩
  refine ⟨_,rfl,_,rfl,p,dc,_,rfl,D,by decide,by decide,fun m H1 m0 m1 D1 b1=>?_⟩
  refine ⟨p,dc,m,rfl,D1,m0,by omega,fun a xs fs H2 ha pf hl ok nd hn D2 b2=>?_⟩
  refine ⟨_,rfl,p,dc,rfl,D2,fun nm H3 hnm D3 b3=>⟨_,rfl,(show 2≤sizeLine by decide),fun t ht=>?_⟩⟩
  have ha3:H3 a=some (.tup xs):=b3 _ _ ha (D2.ne ha (by intro _ z;cases z))
  have pf3:Paired (cZ H3) xs fs:=cG pf fun b ys e=>b3 _ _ e (D2.ne e (by intro _ z;cases z))
  exact k t a nm xs fs _ ak hnm (aC.new ht _ _ ha3) (cG pf3 fun b ys e=>aC.new ht _ _ e) (by omega) ok nd (D3.new ht) (((b1.trans b2).trans b3).trans (cD.new ht))
def Bw (K:Frag) (n:Nat):Sp:=fun vs H Q _=>∃ (a:Addr) (ds:List PyData),vs=[.ref a]/\Rep K H (.ref a) (.tuple ds)/\TD (.tuple ds)/\bI (.tuple ds)≤n/\n≤8/\∀ (l:Addr) (ws:List V) (es:List PyData) (H':Hp),aC H H'->H l=none->H' l=some (.lst ws)->bj K H' ws es->(∀ e∈es,La e)->es.length≤5 ^ n->Q (.ref l) H'
abbrev Rf:List Str:=["_law_test","_law_found","_law_part"]
theorem Ey:aR Rf ["_law_test"] (aA (top 54)):=⟨rfl,rfl,rfl,by decide +kernel,rfl,by decide +kernel,by decide +kernel⟩
theorem Ko (DL:cF K mg "_law_leaves_any" (top 54) ["_law_test"] f fd) (T:Txt K mg) (n:Nat):aN P w K mg base bL n f fd ["_law_test"] (Bw K n):=by
 refine Nat.rec (motive:=fun n=>aN P w K mg base bL n f fd ["_law_test"] (Bw K n)) ⟨fun _ _ _ _ h=>?_,fun _ _ _ _ _ _ _ _ _ _ _ _ _ h=>?_⟩ (fun n GL=>?_) n
 ·obtain ⟨a,ds,_,_,_,h,_⟩:=h
  exact absurd h (by simp [bI])
 ·obtain ⟨a,ds,_,_,_,h,_⟩:=h
  exact absurd h (by simp [bI])
 refine DL.F.ok Ey (fun vs H Q E h=>?_) (fun cdv A outer s H vs Q E hr h=>?_)
 ·obtain ⟨a,ds,rfl,_⟩:=h
  rfl
 ·obtain ⟨a,ds,rfl,ra,td,dp,hn,k⟩:=h
  refine ⟨_,(ao (b7 (i:=1) Ey.nd rfl (Or.inl rfl) (gj (aK (Aw hr.units) (pv 0) (dm aj) (aM _)) (bW (aa (pv 0) aj)) (bW aj)))
   (ao (d9 PassesOwn.never rfl (ig (gF kO (pv 0) (iD aq) iH)) (aV (i:=2) Ey.nd rfl (Or.inl rfl)) (au
    (bh (dI (aG bY (by rfl) T.isinstance aY (aa (pv 2) (aa (dh rfl T.tuple fG) aj)))) (au (c7 (jm PySem.F.plainAttrs_list PySem.F.slot_list_extend PySem.F.type_list_extend nA (pv 1) (aa (aB GL hr rfl DL.mg DL.F.kp DL.b .nil aL (aa (pv 2) aj)) aj)))) aQ)))
   (au (aP (pv 1))))),?_⟩
  have hdd:bI (.tuple ds)=bQ ds+1:=rfl
  refine iW (fun σ' H'=>∃ (l:Addr) (w0:List V) (e0:List PyData),σ'=[some (.ref a),some (.ref l),none]/\aC H H'/\H l=none/\H' l=some (.lst w0)/\bj K H' w0 e0/\(∀ e∈e0,La e)/\e0.length≤1) ?nx1 fun N hN=>?st1
  case st1=>
   refine ⟨_,rfl,(show 0≤sizeLine by decide),fun t ht=>?_⟩
   have s0:aC H (upd H t (.tup [])):=aC.new ht
   have ht0:(upd H t (.tup [])) t=some (.tup []):=ak
   generalize upd H t (.tup [])=H0 at s0 ht0 ⊢
   refine ⟨ds,[],ra.same s0,.tup (bF.of ht0) .nil,by omega,_,rfl,?_⟩
   have td0:=td
   cases td with
   |nil=>exact b_ rfl ⟨(show 0≤sizeLine by decide),fun l hl=>hN _ _ ⟨l,[],[],rfl,s0.trans (aC.new hl),gH s0 hl,ak,.nil,by simp,by simp⟩⟩
   | @node f r af lf nr tr=>
     refine cQ rfl ⟨_,rfl,(show 1≤sizeLine by decide),fun l hl=>hN _ _ ⟨l,[.ref a],[.tuple (.str f::r)],rfl,s0.trans (aC.new hl),gH s0 hl,ak,.cons ((ra.same s0).same (aC.new hl)) .nil,fun e m=>?_,by simp⟩⟩
     rw [List.mem_singleton.mp m]
     exact ⟨td0,by omega,_,_,rfl⟩
  rintro σ' H1 ⟨l,w0,e0,rfl,s1,hl,hl1,rw0,la0,c0⟩
  have inn:∀ d∈ds.drop 1,TD d/\bI d≤n:=fun d m=>by
   cases td with
   |nil=>simp at m
   | @node f r af lf nr tr=>
     have m:d∈r:=m
     exact ⟨tr d m,uo dp m⟩
  have dl:(ds.drop 1).length≤4:=by
   cases td with
   |nil=>simp
   |@node f r af lf nr tr=>exact nr
  have p5:5 ^ n≤5 ^ 7:=Nat.pow_le_pow_right (by decide) (by omega)
  have p7:(5:Nat) ^ 7=78125:=by decide
  have p1:1≤5 ^ n:=Nat.le_trans Nat.one_le_two_pow (Nat.pow_le_pow_left (by decide) n)
  have big:1000000≤sizeLine:=by decide
  cases ra with
  |@tup _ xs _ sq rs=>
  have cutt:j0 xs (some 1) none=xs.drop 1:=by
   cases xs with
   |nil=>rfl
   |cons x0 ys=>exact qF
  have rsd:=mR 1 rs
  have xl:=rsd.length
  refine ⟨_,rfl,1,rfl,?_⟩
  delta tK
  refine Rg (s1.tup sq) cutt fun v H2 s2 sv=>?_
  refine ⟨v,rfl,⟨_,sv⟩,?_⟩
  refine jB (K:=K) (a:=v) (xs:=xs.drop 1) (fun i σ' H'=>∃ ws es u,σ'=[some (.ref a),some (.ref l),u]/\aC H H'/\bF K H' v (xs.drop 1)/\H' l=some (.lst ws)/\bj K H' ws es/\(∀ e∈es,La e)/\es.length≤1+i*5 ^ n) ⟨w0,e0,none,rfl,s1.trans s2,sv,s2 _ _ hl1,rw0.same s2,la0,by omega⟩ (fun i σ' H' _ ⟨_,_,_,_,_,q,_⟩=>q) ?_ ?_
  ·rintro i y σ' H3 hy ⟨ws,es,u,rfl,s3,sv3,hl3,rws,la,c3⟩
   have i4:i<4:=by
    have:=(List.getElem?_eq_some_iff.mp hy).1
    omega
   obtain ⟨d,hd,ry⟩:=rsd.get' hy
   obtain ⟨tdd,dpd⟩:=inn d (List.mem_of_getElem? hd)
   have ry3:=ry.same s3
   have nxt:es.length≤1+(i+1)*5 ^ n:=by rw [Nat.add_mul];omega
   have tup:∀ ds1,d=.tuple ds1->∃ q1,y=.ref q1:=fun ds1 e=>by
    subst e
    cases ry with
    |@tup q1 _ _ _ _=>exact ⟨q1,rfl⟩
   have go:∀ ds1,d=.tuple ds1->∃ q1,y=.ref q1/\Rep K H3 (.ref q1) (.tuple ds1)/\TD (.tuple ds1)/\bI (.tuple ds1)≤n:=fun ds1 e=>by
    obtain ⟨q1,rfl⟩:=tup ds1 e
    subst e
    exact ⟨q1,rfl,ry3,tdd,dpd⟩
   by_cases isT:∃ ds1,d=.tuple ds1
   ·obtain ⟨ds1,e⟩:=isT
    obtain ⟨q1,rfl,rq1,td1,dp1⟩:=go ds1 e
    refine ⟨_,rfl,_,_,_,_,rfl,rq1,rfl,_,rfl,cQ rfl ?_⟩
    refine ⟨_,rfl,.inl ⟨rfl,_,bM.of hl3⟩,_,rfl,q1,ds1,rfl,rq1,td1,dp1,by omega,fun l2 w2 e2 H4 s4 hn4 hl4 r4 la4 c4=>?_⟩
    have l1:=rws.length
    have l2':=r4.length
    have hi4:i*5 ^ n≤4*5 ^ n:=Nat.mul_le_mul_right _ (by omega)
    refine ⟨l,l2,ws,w2,rfl,rfl,s4 _ _ hl3,hl4,by omega,?_⟩
    refine ⟨ws++w2,es++e2,_,rfl,fun b u' e'=>?_,jr (s4.tup sv3) (s4 _ _ hl3),ak,ie (s4 _ _ hl3) (fun e' m=>?_) (ii (rws.same s4) r4),fun e' m=>?_,?_⟩
    ·rw [aF (aH e' hl)]
     exact s4 _ _ (s3 _ _ e')
    ·rcases List.mem_append.mp m with m|m
     ·exact (la e' m).1
     ·exact (la4 e' m).1
    ·rcases List.mem_append.mp m with m|m
     ·exact la e' m
     ·exact la4 e' m
    ·rw [List.length_append,Nat.add_mul]
     omega
   ·cases tdd with
    |str _ _=>exact ⟨_,rfl,_,_,_,_,rfl,ry3,rfl,_,rfl,b_ rfl ⟨ws,es,_,rfl,s3,sv3,hl3,rws,la,nxt⟩⟩
    |int _ _=>exact ⟨_,rfl,_,_,_,_,rfl,ry3,rfl,_,rfl,b_ rfl ⟨ws,es,_,rfl,s3,sv3,hl3,rws,la,nxt⟩⟩
    |nil=>exact absurd ⟨_,rfl⟩ isT
    |node af lf nr tr=>exact absurd ⟨_,rfl⟩ isT
  ·rintro σ' H3 ⟨ws,es,u,rfl,s3,sv3,hl3,rws,la,c3⟩
   refine ⟨_,rfl,k l ws es H3 s3 hl hl3 rws la ?_⟩
   have:(xs.drop 1).length*5 ^ n≤4*5 ^ n:=Nat.mul_le_mul_right _ (by omega)
   rw [Nat.pow_succ]
   omega
def Gs (K:Frag):List V->Hp->VK->Prop:=fun xs H Q=>∃ p ys,xs=[.ref p]/\(bM K H p ys∨bF K H p ys)/\Q (.int ys.length) H
def JP:Sp:=fun vs H Q _=>∃ (p dc a:Addr) (xs:List V) (fs:List dN),vs=[.ref p,.ref a]/\Dr H p dc/\H a=some (.tup xs)/\Paired (cZ H) xs fs/\fs.length≤4/\(∀ f∈fs,iT f)/\∀ (l:Addr) (ys:List Str) (H':Hp),H' l=some (.lst (ys.map V.str))->ys≠[]->ys.length≤5->(∀ y∈ys,Nm y)->Dr H' p dc->cD p H H'->Q (.ref l) H'
theorem Qi:aR ["_law_d","_law_fields_here"] ["_law_d","_law_fields_here"] (aA (top 52)):=⟨rfl,rfl,rfl,by decide +kernel,rfl,by decide +kernel,by decide +kernel⟩
theorem IK (F:fX K "_law_names_of" "_law_names_of" (top 52) f fd) (DW:cF K mg "_law_word" (top 41) ["_law_d"] fW fdW) (GW:aN P w K mg base bL 3 fW fdW ["_law_d"] oO):aN P w K mg base bL 4 f fd ["_law_d","_law_fields_here"] JP:=by
 refine F.ok Qi (fun vs H Q E h=>?_) (fun cdv A outer s H vs Q E hr h=>?_)
 ·obtain ⟨p,dc,a,xs,fs,rfl,_⟩:=h
  rfl
 ·obtain ⟨p,dc,a,xs,fs,rfl,D,ha,pf,fl,fo,k⟩:=h
  have pl:=Paired.length pf
  refine ⟨_,(au (aP (a_ qI (oN (g:=bK 0) (own:=["_law_field"]) (js:=[]) (N':=["_law_field"]) (bu.of (osc:=aA (top 52)) (N:=["_law_d","_law_fields_here"]) rfl rfl ⟨rfl,by decide +kernel,by decide +kernel,by decide +kernel,rfl,by decide +kernel⟩) rfl (ig (pv 1)) (fun _ _ _ _ _=>(aV (i:=0) (show List.Nodup (["_law_field"]:List Str) by decide +kernel) rfl (Or.inl rfl) (Or.inr rfl))) (fun _ _ _ _ _=>eY) (fun _ _ _ _ _=>aX (r:=lV K) aZ (pv 0) aq (fun _ _=>rfl))) (bW (aa (aB GW hr rfl DW.mg DW.F.kp DW.b .nil aL (aa (pv 0) aj)) aj))))),?_⟩
  refine ⟨_,rfl,a,rfl,⟨xs,bF.of ha⟩,?_⟩
  refine lW (K:=K) (a:=a) (xs:=xs) (fun i zs σ' H'=>(∃ v,σ'=[v])/\H'=H/\zs=((fs.map (·.1)).take i).map V.str) (Nat.le_trans (show xs.length≤4 by omega) (by decide)) ⟨⟨none,rfl⟩,rfl,rfl⟩ (fun i zs σ' H' _ ⟨_,e,_⟩=>by rw [e];exact bF.of ha) ?_ ?_
  ·rintro i y zs σ' H2 hy hzs ⟨⟨v,rfl⟩,rfl,rfl⟩ N' hN
   obtain ⟨⟨fn,lo,hi⟩,hfi,b,rfl,hb⟩:=cC pf hy
   refine ⟨_,rfl,b,_,_,_,rfl,rfl,bF.of hb,aD (j:=0) rfl,?_⟩
   exact hN _ _ _ (by rw [List.length_append,hzs];rfl) ⟨⟨_,rfl⟩,rfl,by rw [List.take_add_one,List.getElem?_map,hfi];simp⟩
  ·rintro zs σ' H2 hzs ⟨⟨v,rfl⟩,rfl,rfl⟩
   rw [List.take_of_length_le (by rw [List.length_map];omega)]
   refine ⟨Nat.le_trans (show ((fs.map (·.1)).map V.str).length≤4 by rw [List.length_map,List.length_map];exact fl) (by decide),fun l hl=>?_⟩
   have s1:aC H2 (upd H2 l (.lst ((fs.map (·.1)).map V.str))):=aC.new hl
   have h1:(upd H2 l (.lst ((fs.map (·.1)).map V.str))) l=some (.lst ((fs.map (·.1)).map V.str)):=ak
   generalize upd H2 l (.lst ((fs.map (·.1)).map V.str))=H3 at s1 h1 ⊢
   refine ⟨_,rfl,p,dc,rfl,D.mono s1,fun nm H4 hnm D4 b4=>⟨(show 1≤sizeLine by decide),fun l2 hl2=>?_⟩⟩
   have h4:H4 l=some (.lst ((fs.map (·.1)).map V.str)):=b4 _ _ h1 ((D.mono s1).ne h1 (by intro _ z;cases z))
   refine ⟨l,l2,_,_,rfl,rfl,aC.new hl2 _ _ h4,ak,?_,fun l3 hl3=>?_⟩
   ·have big:1000≤sizeLine:=by decide
    rw [List.length_map,List.length_map,List.length_singleton]
    omega
   ·refine k l3 (fs.map (·.1)++[nm]) _ ?_ (by simp) (by rw [List.length_append,List.length_map,List.length_singleton];omega) (fun y m=>?_) ((D4.new hl2).new hl3) (((s1.but.trans b4).trans (cD.new hl2)).trans (cD.new hl3))
    ·rw [ak,List.map_append];rfl
    ·rcases List.mem_append.mp m with m|m
     ·obtain ⟨f1,m1,rfl⟩:=List.mem_map.mp m
      exact (fo f1 m1).nm
     ·rw [List.mem_singleton.mp m];exact hnm
def L3 (e:PyData):Prop:=TD e/\bI e≤60/\∃ f d1 d2,e=.tuple [.str f,d1,d2]
theorem ints_rep:∀ ks:List Int,bj K H (ks.map V.int) (ks.map PyData.int)
 |[]=>.nil
 |y::r=>.cons (.int y) (ints_rep r)
theorem nH:∀ ks:List Int,bQ (ks.map PyData.int)≤60
 |[]=>by simp [bQ]
 | y::r=>by
   have:=nH r
   simp only [List.map_cons,bQ,bI]
   omega
abbrev Bx (zs:List Int) (fs:List dN):Prop:=Paired (fun (z:Int) (f:dN)=>f.2.1≤z/\z≤f.2.2) zs fs
def Al (K:Frag):Sp:=fun vs H Q _=>∃ (p dc q a:Addr) (ds:List PyData) (xs:List V) (fs:List dN),vs=[.ref p,.ref q,.ref a]/\Dr H p dc/\Rep K H (.ref q) (.tuple ds)/\TD (.tuple ds)/\bI (.tuple ds)≤7/\H a=some (.tup xs)/\Paired (cZ H) xs fs/\fs.length≤4/\(∀ f∈fs,iT f)/\
 ∀ (b:Addr) (zs:List Int) (H':Hp),H' b=some (.tup (zs.map V.int))->zs.length=fs.length->Bx zs fs->Dr H' p dc->cD p H H'->H b=none->Q (.ref b) H'
abbrev Lg:List Str:=["_law_d","_law_test","_law_fields_here"]
abbrev O7:List Str:=["_law_d","_law_test","_law_fields_here","_law_asked","_law_found","_law_field","_law_near","_law_number_here"]
theorem qG:aR O7 Lg (aA (top 53)):=⟨rfl,rfl,rfl,by decide +kernel,rfl,by decide +kernel,by decide +kernel⟩
theorem Ek (F:fX K "_law_near_values" "_law_near_values" (top 53) f fd) (T:Txt K mg) (hmax:mg "max" = none) (DP:cF K mg "_law_pick" (top 38) ["_law_d","_law_many"] fP fdP) (DV:cF K mg "_law_value" (top 45) ["_law_d","_law_field"] fV fdV) (GV:aN P w K mg base bL 3 fV fdV ["_law_d","_law_field"] (wg K)) (DL:cF K mg "_law_leaves_any" (top 54) ["_law_test"] fL fdL):aN P w K mg base bL 8 f fd Lg (Al K):=by
 have GP:aN P w K mg base bL 1 fP fdP ["_law_d","_law_many"] dH:=di DP.F T
 have GL:aN P w K mg base bL 7 fL fdL ["_law_test"] (Bw K 7):=Ko DL T 7
 refine F.ok qG (fun vs H Q E h=>?_) (fun cdv A outer s H vs Q E hr h=>?_)
 ·obtain ⟨p,dc,q,a,ds,xs,fs,rfl,_⟩:=h
  rfl
 ·obtain ⟨p,dc,q,a,ds,xs,fs,rfl,D,rq,td,dp,ha,pf,fl,fo,k⟩:=h
  have hr1:bH 1 _:=hr.mono (by decide)
  have hr3:bH 3 _:=hr.mono (by decide)
  refine ⟨_,(ao (eZ (g:=bK 0) (i:=3) (own:=["_law_leaf_here"]) (js:=[]) (N':=["_law_leaf_here"]) (bu.of (osc:=aA (top 53)) (N:=O7) rfl rfl ⟨rfl,by decide +kernel,by decide +kernel,by decide +kernel,rfl,by decide +kernel⟩) rfl qG.nd rfl rfl (dY (aB GL hr rfl DL.mg DL.F.kp DL.b .nil aL (aa (pv 1) aj))) (fun _ _ _ _ _=>(aV (i:=0) (show List.Nodup (["_law_leaf_here"]:List Str) by decide +kernel) rfl (Or.inl rfl) (Or.inr rfl)))
   (fun _ _ _ _ _=>jw (PW.pt (m6 (aK (r:=R3 K false) gK (aX (r:=lV K) aZ (pv 0) aq (fun _ _=>rfl)) (dm (aa aO (aa aO aj))) rfl) (jt (aK (r:=Ql) bJ (aG (r:=Gs K) aU (by rfl) T.len bV (aa (pv 0) aj)) aq (aM _)))))) (fun _ _ _ _ _=>pv 0))
   (ao (b7 (i:=4) qG.nd rfl (Or.inl rfl) (bW aj))
   (ao (d9 PassesOwn.never rfl (ig (pv 2)) (aV (i:=5) qG.nd rfl (Or.inr rfl)) (ao
    (eZ (g:=bK 0) (i:=6) (own:=["_law_leaf_here"]) (js:=[5]) (N':=["_law_leaf_here","_law_field"]) (bu.of (osc:=aA (top 53)) (N:=O7) rfl rfl ⟨rfl,by decide +kernel,by decide +kernel,by decide +kernel,rfl,by decide +kernel⟩) rfl qG.nd rfl rfl (dY (pv 3)) (fun _ _ _ _ _=>(aV (i:=0) (show List.Nodup (["_law_leaf_here","_law_field"]:List Str) by decide +kernel) rfl (Or.inl rfl) (Or.inr rfl)))
     (fun _ _ _ _ _=>jw (PW.pt (m6 (aK (r:=zB K) (xj hr.units) (aX (r:=lV K) aZ (pv 0) aq (fun _ _=>rfl)) (aX (r:=lV K) aZ (pv 1) aq (fun _ _=>rfl)) (aM _)) (jt (dI (aG (r:=Hw K) bY (by rfl) T.isinstance aY (aa (aX (r:=lV K) aZ (pv 0) aq (fun _ _=>rfl)) (aa (dh rfl T.int jQ) aj)))))))) (fun _ _ _ _ _=>aX (r:=lV K) aZ (pv 0) aq (fun _ _=>rfl)))
    (ao (b7 (i:=7) qG.nd rfl (Or.inl rfl) (aB GV hr3 rfl DV.mg DV.F.kp DV.b .nil aL (aa (pv 0) (aa (pv 5) aj))))
    (ao (bh (PW.pt (m6 (aK (Dt hr.units) (pv 6) (bW aj) (aM _)) (jt (aK wX (aB GP hr1 rfl DP.mg DP.F.kp DP.b .nil aL (aa (pv 0) (aa aq aj))) aq (aM _))))) (au
     (b7 (i:=7) qG.nd rfl (Or.inl rfl) (aG (iM rfl) (by rfl) T.min pG (aa (aX aZ (pv 5) aq (fun _ _=>rfl)) (aa (aG (uZ rfl) (by rfl) hmax Cz (aa (aX aZ (pv 5) aq (fun _ _=>rfl)) (aa (a_ dJ (a_ cI (aX cR (pv 6) (aB GP hr1 rfl DP.mg DP.F.kp DP.b .nil aL (aa (pv 0) (aa (aG aU (by rfl) T.len bV (aa (pv 6) aj)) aj))) (fun _ _=>rfl)) (aB GP hr1 rfl DP.mg DP.F.kp DP.b .nil aL (aa (pv 0) (aa aq aj)))) aq) aj))) aj))))) aQ)
    (au (c7 (jm PySem.F.plainAttrs_list PySem.F.slot_list_append PySem.F.type_list_append d_ (pv 4) (aa (pv 7) aj))))))))
   (au (aP (dZ gb (by rfl) T.tuple fG (aa (pv 4) aj))))))),?_⟩
  have big:1000000≤sizeLine:=by decide
  have p7:(5:Nat) ^ 7=78125:=by decide
  have pl:=Paired.length pf
  have nea:∀ {H':Hp} {b:Addr} {o:HO},H b=some o->(∀ kvs,o≠.dK kvs)->cD p H H'->H' b=some o:=fun e ne b=>b _ _ e (D.ne e ne)
  refine ⟨_,rfl,q,ds,rfl,rq,td,dp,by decide,fun l0 ws0 es0 H1 s1 hl0 hl1 r1 la1 c1=>?_⟩
  rw [p7] at c1
  have wl:=r1.length
  refine ⟨l0,rfl,⟨_,bM.of hl1⟩,?_⟩
  refine lE (K:=K) (a:=l0) (xs:=ws0) (fun i zs σ' H'=>(∃ v,σ'=[v])/\aC H1 H'/\∃ es,bj K H' zs es/\∀ e∈es,L3 e) (by omega) ⟨⟨none,rfl⟩,aC.refl _,[],.nil,by simp⟩ (fun i zs σ' H' _ ⟨_,s',_⟩=>s'.seq (bM.of hl1)) ?_ ?_
  ·rintro i y zs σ' H2 hy ⟨⟨v,rfl⟩,s2,es,rz,l3⟩ N hN
   obtain ⟨e,he,ry⟩:=r1.get' hy
   obtain ⟨tde,dpe,g,r,rfl⟩:=la1 e (List.mem_of_getElem? he)
   have ry2:=ry.same s2
   have ry2':=ry2
   cases ry2 with
   |@tup q1 us _ sq us'=>
   obtain ⟨x0,us1,rfl⟩:∃ x0 us1,us=x0::us1:=by cases us';exact ⟨_,_,rfl⟩
   obtain ⟨h0,ht⟩:Rep K H2 x0 (.str g)/\bj K H2 us1 r:=by cases us' with|cons a b=>exact ⟨a,b⟩
   cases h0
   have ul:=ht.length
   refine ⟨_,rfl,q1,_,_,_,rfl,rfl,sq,aD (j:=0) rfl,(show 2≤sizeLine by decide),fun t ht'=>?_⟩
   have s3:aC H2 (upd H2 t (.tup [.str "less",.str "same"])):=aC.new ht'
   refine ⟨t,_,rfl,.inr (bF.of ak),rfl,rfl,_,rfl,?_⟩
   generalize upd H2 t (.tup [.str "less",.str "same"])=H3 at s3 ⊢
   refine fH (fun _=>?_) (fun _=>b_ rfl (hN _ _ _ ⟨⟨_,rfl⟩,s2.trans s3,es,rz.same s3,l3⟩ (by simp)))
   refine ⟨_,rfl,q1,_,rfl,.inr (s3.tup sq),rfl,_,rfl,fH (fun h3=>?_) (fun _=>hN _ _ _ ⟨⟨_,rfl⟩,s2.trans s3,es,rz.same s3,l3⟩ (by simp))⟩
   obtain ⟨d1,d2,rfl⟩:∃ d1 d2,r=[d1,d2]:=by
    have:r.length=2:=by
     simp at h3
     omega
    match r,this with
    |[d1,d2],_=>exact ⟨d1,d2,rfl⟩
   refine ⟨_,rfl,hN _ _ _ ⟨⟨_,rfl⟩,s2.trans s3,es++[.tuple [.str g,d1,d2]],ii (rz.same s3) (.cons (ry2'.same s3) .nil),fun e' m=>?_⟩ (by simp)⟩
   rcases List.mem_append.mp m with m|m
   ·exact l3 e' m
   ·rw [List.mem_singleton.mp m]
    exact ⟨tde,dpe,g,d1,d2,rfl⟩
  ·rintro zs σ' H2 hz ⟨⟨v,rfl⟩,s2,es,rz,l3⟩
   refine ⟨by omega,fun la hla=>?_⟩
   have S2:=s1.trans s2
   have s3:aC H2 (upd H2 la (.lst zs)):=aC.new hla
   have h3:(upd H2 la (.lst zs)) la=some (.lst zs):=ak
   generalize upd H2 la (.lst zs)=H3 at s3 h3 ⊢
   refine ⟨(show 0≤sizeLine by decide),fun lf hlf=>?_⟩
   have s4:aC H3 (upd H3 lf (.lst [])):=aC.new hlf
   have h4:(upd H3 lf (.lst [])) lf=some (.lst []):=ak
   generalize upd H3 lf (.lst [])=H4 at s4 h4 ⊢
   have S4:=S2.trans (s3.trans s4)
   have D4:=D.mono S4
   have hlfn:H lf=none:=gH (S2.trans s3) hlf
   have nlp:lf≠p:=(D.neN hlfn).symm
   have nld:lf≠dc:=by
    obtain ⟨ws,e⟩:=D.cell
    exact (aH e hlfn).symm
   have nla:la≠lf:=fun z=>by rw [z,hlf] at h3;cases h3
   refine ⟨_,rfl,a,rfl,⟨xs,bF.of (S4 _ _ ha)⟩,?_⟩
   refine jB (K:=K) (a:=a) (xs:=xs) (fun i σ' H'=>∃ (zs':List Int) (u5 u6 u7:Option V),σ'=[some (.ref p),some (.ref q),some (.ref a),some (.ref la),some (.ref lf),u5,u6,u7]/\Dr H' p dc/\cD p H H'/\H' la=some (.lst zs)/\bj K H' zs es/\H' lf=some (.lst (zs'.map V.int))/\zs'.length=i/\Bx zs' (fs.take i)) ⟨[],none,none,none,rfl,D4,S4.but,s4 _ _ h3,(rz.same s3).same s4,h4,rfl,.nil⟩ (fun i σ' H' _ ⟨_,_,_,_,_,_,b',_⟩=>bF.of (nea ha (by intro _ z;cases z) b')) ?_ ?_
   ·rintro i y σ' H5 hy ⟨zs',u5,u6,u7,rfl,D5,b5,hla5,rz5,hlf5,zl,bx⟩
    obtain ⟨⟨fn,lo,hi⟩,hfi,bf,rfl,hbf⟩:=cC pf hy
    have il:i<xs.length:=(List.getElem?_eq_some_iff.mp hy).1
    have hbf5:=nea hbf (by intro _ z;cases z) b5
    refine ⟨_,rfl,la,rfl,⟨_,bM.of hla5⟩,?_⟩
    refine lE (K:=K) (a:=la) (xs:=zs) (fun i ns σ' H'=>(∃ v,σ'=[v,some (.ref bf)])/\H'=H5/\∃ ks:List Int,ns=ks.map V.int) (by omega) ⟨⟨none,rfl⟩,rfl,[],rfl⟩ (fun i ns σ' H' _ ⟨_,e,_⟩=>by rw [e];exact bM.of hla5) ?_ ?_
    ·rintro j y ns σ' H6 hy' ⟨⟨v,rfl⟩,rfl,ks,rfl⟩ N hN
     obtain ⟨e,he,ry⟩:=rz5.get' hy'
     obtain ⟨tde,dpe,g,d1,d2,rfl⟩:=l3 e (List.mem_of_getElem? he)
     cases ry with
     |@tup q1 us _ sq us'=>
     cases us' with|@cons x0 _ us1 _ w0 w1=>
     cases w1 with|@cons x1 _ us2 _ w1 w2=>
     cases w2 with|@cons x2 _ us3 _ w2 w3=>
     cases w3
     cases tde with
     |node af lf' nr tr=>
     have e1:bI d1≤59:=uo (n:=59) dpe (by simp)
     have t2:=tr d2 (by simp)
     refine ⟨_,rfl,q1,_,_,_,rfl,rfl,sq,aD (j:=1) rfl,_,rfl,bf,_,_,_,rfl,rfl,bF.of hbf5,aD (j:=0) rfl,d1,.str fn,w1,.str _,by omega,_,rfl,fH (fun _=>?_) (fun _=>b_ rfl (hN _ _ _ ⟨⟨_,rfl⟩,rfl,ks,rfl⟩ (by simp)))⟩
     cases t2 with
     | @int i2 _ _=>
       cases w2
       refine ⟨_,rfl,q1,_,_,_,rfl,rfl,sq,aD (j:=2) rfl,_,_,_,_,rfl,.int i2,rfl,_,rfl,cQ rfl ?_⟩
       exact ⟨_,rfl,q1,_,_,_,rfl,rfl,sq,aD (j:=2) rfl,hN _ _ _ ⟨⟨_,rfl⟩,rfl,ks++[i2],by simp⟩ (by simp)⟩
     |str _ _=>exact ⟨_,rfl,q1,_,_,_,rfl,rfl,sq,aD (j:=2) rfl,_,_,_,_,rfl,w2,rfl,_,rfl,b_ rfl (hN _ _ _ ⟨⟨_,rfl⟩,rfl,ks,rfl⟩ (by simp))⟩
     |nil=>exact ⟨_,rfl,q1,_,_,_,rfl,rfl,sq,aD (j:=2) rfl,_,_,_,_,rfl,w2,rfl,_,rfl,b_ rfl (hN _ _ _ ⟨⟨_,rfl⟩,rfl,ks,rfl⟩ (by simp))⟩
     |node _ _ _ _=>exact ⟨_,rfl,q1,_,_,_,rfl,rfl,sq,aD (j:=2) rfl,_,_,_,_,rfl,w2,rfl,_,rfl,b_ rfl (hN _ _ _ ⟨⟨_,rfl⟩,rfl,ks,rfl⟩ (by simp))⟩
    ·rintro ns σ' H6 hn ⟨⟨v,rfl⟩,rfl,ks,rfl⟩
     rw [List.length_map] at hn
     refine ⟨by rw [List.length_map];omega,fun ln hln=>?_⟩
     have s7:aC H6 (upd H6 ln (.lst (ks.map V.int))):=aC.new hln
     have h7:(upd H6 ln (.lst (ks.map V.int))) ln=some (.lst (ks.map V.int)):=ak
     generalize upd H6 ln (.lst (ks.map V.int))=H7 at s7 h7 ⊢
     have D7:=D5.mono s7
     refine ⟨_,rfl,_,rfl,p,dc,.ref bf,(fn,lo,hi),rfl,D7,⟨bf,rfl,s7 _ _ hbf5⟩,fo _ (List.mem_of_getElem? hfi),fun z H8 z0 z1 D8 b8=>?_⟩
     dsimp only at z0 z1
     have lh:lo≤hi:=(fo _ (List.mem_of_getElem? hfi)).le
     have b8':cD p H H8:=(b5.trans s7.but).trans b8
     have h8n:H8 ln=some (.lst (ks.map V.int)):=b8 _ _ h7 (D7.ne h7 (by intro _ z;cases z))
     have hla8:H8 la=some (.lst zs):=b8 _ _ (s7 _ _ hla5) (D7.ne (s7 _ _ hla5) (by intro _ z;cases z))
     have rz8:=D7.reps b8 (rz5.same s7)
     have hlf8:H8 lf=some (.lst (zs'.map V.int)):=b8 _ _ (s7 _ _ hlf5) nlp
     clear b8 D7 hlf5 rz5 hla5 D5 b5 s7 hln h7
     try dsimp only [bK]
     refine iW (fun σ' H'=>∃ z':Int,σ'=[some (.ref p),some (.ref q),some (.ref a),some (.ref la),some (.ref lf),some (.ref bf),some (.ref ln),some (.int z')]/\Dr H' p dc/\cD p H H'/\H' la=some (.lst zs)/\bj K H' zs es/\H' lf=some (.lst (zs'.map V.int))/\lo≤z'/\z'≤hi) ?nx2 fun N hN=>?st2
     case st2=>
      refine ⟨_,rfl,(show 0≤sizeLine by decide),fun l hl=>?_⟩
      have s9:aC H8 (upd H8 l (.lst [])):=aC.new hl
      have hl9:(upd H8 l (.lst [])) l=some (.lst []):=ak
      generalize upd H8 l (.lst [])=H9 at s9 hl9 ⊢
      have D9:=D8.mono s9
      have b9:cD p H H9:=b8'.trans s9.but
      have h9n:=s9 _ _ h8n
      have hla9:=s9 _ _ hla8
      have rz9:=rz8.same s9
      have hlf9:=s9 _ _ hlf8
      refine ⟨ks.map PyData.int,[],.lst (bM.of h9n) (ints_rep ks),.lst (bM.of hl9) .nil,nH ks,_,rfl,?_⟩
      by_cases hk:ks=[]
      ·have e:(!cY (ks.map PyData.int) [])=false:=by subst hk;rfl
       rw [e]
       exact b_ rfl (b_ rfl (hN _ _ ⟨z,rfl,D9,b9,hla9,rz9,hlf9,z0,z1⟩))
      ·have e:(!cY (ks.map PyData.int) [])=true:=by
        obtain ⟨y,r,rfl⟩:=List.exists_cons_of_ne_nil hk
        rfl
       rw [e]
       have k1:0<ks.length:=List.length_pos_iff.mpr hk
       have bump:∀ {H10 H11:Hp},Dr H10 p dc->H10 ln=some (.lst (ks.map V.int))->H10 la=some (.lst zs)->bj K H10 zs es->H10 lf=some (.lst (zs'.map V.int))->cD p H10 H11->H11 ln=some (.lst (ks.map V.int))/\H11 la=some (.lst zs)/\bj K H11 zs es/\H11 lf=some (.lst (zs'.map V.int)):=fun d e1 e2 e3 e4 b=>⟨b _ _ e1 (d.ne e1 (by intro _ z;cases z)),b _ _ e2 (d.ne e2 (by intro _ z;cases z)),d.reps b e3,b _ _ e4 nlp⟩
       refine cQ rfl ⟨_,rfl,p,dc,_,rfl,D9,by decide,by decide,fun w1 H10 w0 w2 D10 b10=>?_⟩
       obtain ⟨g1,g2,g3,g4⟩:=bump D9 h9n hla9 rz9 hlf9 b10
       have b10':=b9.trans b10
       have hbf10:=nea hbf (by intro _ z;cases z) b10'
       refine ⟨_,_,rfl,rfl,_,rfl,fH (fun _=>?_) (fun _=>hN _ _ ⟨z,rfl,D10,b10',g2,g3,g4,z0,z1⟩)⟩
       refine ⟨_,rfl,bf,_,_,_,rfl,rfl,bF.of hbf10,aD (j:=2) rfl,_,rfl,bf,_,_,_,rfl,rfl,bF.of hbf10,aD (j:=1) rfl,?_⟩
       refine ⟨_,rfl,_,rfl,_,rfl,ln,_,rfl,.inl (bM.of g1),p,dc,_,rfl,D10,by rw [List.length_map];omega,by rw [List.length_map];omega,fun a' H11 a0 a1 D11 b11=>?_⟩
       obtain ⟨ka,rfl⟩:=Int.eq_ofNat_of_zero_le a0
       have ka':ka<ks.length:=by rw [List.length_map] at a1;omega
       obtain ⟨f1,f2,f3,f4⟩:=bump D10 g1 g2 g3 g4 b11
       refine ⟨ln,_,_,.int ks[ka],rfl,rfl,bM.of f1,aD (by rw [List.getElem?_map,List.getElem?_eq_getElem ka'];rfl),_,rfl,p,dc,_,rfl,D11,by decide,by decide,fun c H12 c0 c1 D12 b12=>?_⟩
       obtain ⟨e1,e2,e3,e4⟩:=bump D11 f1 f2 f3 f4 b12
       exact ⟨_,_,rfl,rfl,_,_,rfl,rfl,_,_,rfl,_,_,rfl,hN _ _ ⟨_,rfl,D12,(b10'.trans b11).trans b12,e2,e3,e4,by dsimp only;split <;> split at * <;> omega,by dsimp only;split <;> omega⟩⟩
     rintro σ' H9 ⟨z',rfl,D9,b9,hla9,rz9,hlf9,y0,y1⟩
     have zl4:zs'.length<4:=by omega
     refine ⟨_,rfl,.inl ⟨rfl,_,bM.of hlf9⟩,_,rfl,lf,_,_,rfl,rfl,hlf9,Nat.lt_of_lt_of_le (show (zs'.map V.int).length<4 by rw [List.length_map];exact zl4) (by decide),?_⟩
     refine ⟨zs'++[z'],_,_,_,rfl,D9.put nlp nld,fun b o e ne=>?_,?_,ie hlf9 (fun e m=>(l3 e m).1) rz9,?_,by rw [List.length_append,zl];rfl,?_⟩
     ·rw [aF (aH e hlfn)]
      exact b9 b o e ne
     ·rw [aF nla]
      exact hla9
     ·rw [ak,List.map_append]
      rfl
     ·rw [List.take_add_one,hfi]
      exact Paired.snoc bx ⟨y0,y1⟩
   ·rintro σ' H5 ⟨zs',u5,u6,u7,rfl,D5,b5,hla5,rz5,hlf5,zl,bx⟩
    rw [pl,List.take_length] at bx
    refine ⟨_,rfl,lf,_,rfl,.inl ⟨bM.of hlf5,fun b hb=>k b zs' _ ak (by omega) bx (D5.new hb) (b5.trans (cD.new hb)) ?_⟩⟩
    cases z:H b with
    |none=>rfl
    | some o=>
      by_cases e:b=p
      ·obtain ⟨kvs,e5⟩:=D5.dk
       rw [e,e5] at hb
       cases hb
      ·have:=b5 _ _ z e
       rw [hb] at this
       cases this
def lx:List Int->List Int->Bool
 |a::as,b::bs=>decide (a<b) || (decide (a=b) && lx as bs)
 |_,_=>false
theorem yC:∀ a:List Int,lx a a=false
 |[]=>rfl
 |a::as=>by simp [lx,yC as]
theorem lK:∀ {a b c:List Int},lx a b=true->lx b c=true->lx a c=true
 | a::as,b::bs,c::cs,h1,h2=>by
   simp only [lx,Bool.or_eq_true,Bool.and_eq_true,decide_eq_true_eq] at h1 h2 ⊢
   rcases h1 with h1|⟨h1,h1'⟩ <;> rcases h2 with h2|⟨h2,h2'⟩
   ·exact .inl (by omega)
   ·exact .inl (by omega)
   ·exact .inl (by omega)
   ·exact .inr ⟨by omega,lK h1' h2'⟩
 |[],b,_,h1,_=>by simp [lx] at h1
 |_::_,[],_,h1,_=>by simp [lx] at h1
 |_::_,_::_,[],_,h2=>by simp [lx] at h2
theorem wy (h1:lx a b=true) (h2:lx b a=true):False:=by
 have:=lK h1 h2
 rw [yC] at this
 cases this
theorem wM:∀ {a b s t:List Int},lx a b=true->lx (a++s) (b++t)=true
 | a::as,b::bs,s,t,h=>by
   simp only [lx,List.cons_append,Bool.or_eq_true,Bool.and_eq_true,decide_eq_true_eq] at h ⊢
   rcases h with h|⟨h,h'⟩
   ·exact .inl h
   ·exact .inr ⟨h,wM h'⟩
 |[],b,_,_,h=>by simp [lx] at h
 |_::_,[],_,_,h=>by simp [lx] at h
theorem ud:∀ (r:List Int) {u v:Int},u<v->lx (r++[u]) (r++[v])=true
 |[],u,v,h=>by simp [lx,h]
 |a::r,u,v,h=>by simp [lx,ud r h]
theorem Aj:∀ {a b:List Int},Paired (fun x y:Int=>x≤y) a b->a=b∨lx a b=true
 |_,_,.nil=>.inl rfl
 | x::_,y::_,.cons h t=>by
   have h:x≤y:=h
   rcases Aj t with e|e
   ·subst e
    by_cases z:x=y
    ·exact .inl (by rw [z])
    ·exact .inr (by simp only [lx,Bool.or_eq_true,decide_eq_true_eq];exact .inl (by omega))
   ·refine .inr ?_
    simp only [lx,Bool.or_eq_true,Bool.and_eq_true,decide_eq_true_eq]
    by_cases z:x=y
    ·exact .inr ⟨z,e⟩
    ·exact .inl (by omega)
def ext (rows:List (List Int)) (ts:List Int):List (List Int):=rows.flatMap fun r=>ts.map fun v=>r++[v]
theorem ur:x∈ext rows ts↔∃ r∈rows,∃ v∈ts,x=r++[v]:=by
 unfold ext
 simp only [List.mem_flatMap,List.mem_map]
 exact ⟨fun ⟨r,hr,v,hv,e⟩=>⟨r,hr,v,hv,e.symm⟩,fun ⟨r,hr,v,hv,e⟩=>⟨r,hr,v,hv,e.symm⟩⟩
theorem Dp (h1:rows.Pairwise fun a b=>lx a b=true) (h2:ts.Pairwise (·<·)):(ext rows ts).Pairwise fun a b=>lx a b=true:=by
 unfold ext
 rw [List.pairwise_flatMap]
 refine ⟨fun r _=>?_,h1.imp fun {r r'} h x hx y hy=>?_⟩
 ·rw [List.pairwise_map]
  exact h2.imp fun {u v} h=>ud r h
 ·obtain ⟨u,_,rfl⟩:=List.mem_map.mp hx
  obtain ⟨v,_,rfl⟩:=List.mem_map.mp hy
  exact wM h
theorem pD:(ext rows ts).length=rows.length*ts.length:=by
 unfold ext
 induction rows with
 |nil=>simp
 |cons r t ih=>rw [List.flatMap_cons,List.length_append,ih,List.length_map,List.length_cons,Nat.succ_mul,Nat.add_comm]
def mH (tss:List (List Int)):List (List Int):=tss.foldl ext [[]]
theorem qw (tss:List (List Int)) (ts:List Int):mH (tss++[ts])=ext (mH tss) ts:=by unfold mH;rw [List.foldl_append];rfl
theorem Ep (h:∀ ts∈tss,ts.Pairwise (·<·)):(mH tss).Pairwise fun a b=>lx a b=true:=by
 have go:∀ (tss rows:List (List Int)),rows.Pairwise (fun a b=>lx a b=true)->(∀ ts∈tss,ts.Pairwise (·<·))->(tss.foldl ext rows).Pairwise fun a b=>lx a b=true:=by
  intro tss
  induction tss with
  |nil=>intro rows h _;exact h
  |cons ts t ih=>intro rows h1 h2;exact ih _ (Dp h1 (h2 ts (.head _))) fun x hx=>h2 x (.tail _ hx)
 exact go tss [[]] (List.pairwise_singleton _ _) h
theorem kJ:x∈mH tss↔Paired (fun (v:Int) (ts:List Int)=>v∈ts) x tss:=by
 have go:∀ (tss rows:List (List Int)) (x:List Int),x∈tss.foldl ext rows↔∃ r∈rows,∃ y,x=r++y/\Paired (fun (v:Int) (ts:List Int)=>v∈ts) y tss:=by
  intro tss
  induction tss with
  | nil=>
    intro rows x
    refine ⟨fun h=>⟨x,h,[],(List.append_nil _).symm,.nil⟩,fun ⟨r,hr,y,e,p⟩=>?_⟩
    cases p
    rw [List.append_nil] at e
    subst e
    exact hr
  | cons ts t ih=>
    intro rows x
    show x∈t.foldl ext (ext rows ts)↔_
    rw [ih]
    constructor
    ·rintro ⟨r,hr,y,rfl,p⟩
     obtain ⟨r',hr',v,hv,rfl⟩:=ur.mp hr
     exact ⟨r',hr',v::y,by simp,.cons hv p⟩
    ·rintro ⟨r,hr,y,rfl,p⟩
     cases p with
     |@cons v _ y' _ hv p=>exact ⟨r++[v],ur.mpr ⟨r,hr,v,hv,rfl⟩,y',by simp,p⟩
 unfold mH
 rw [go]
 constructor
 ·rintro ⟨r,hr,y,rfl,p⟩
  cases List.mem_singleton.mp hr
  exact p
 ·exact fun p=>⟨[],List.mem_singleton.mpr rfl,x,rfl,p⟩
theorem yq {rows:List (List Int)} {p:List Int->Bool} (h:rows.Pairwise fun a b=>lx a b=true) (e:rows.find? p=some c):c∈rows/\p c=true/\∀ x∈rows,p x=true->c=x∨lx c x=true:=by
 refine ⟨List.mem_of_find?_eq_some e,List.find?_some e,fun x hx px=>?_⟩
 obtain ⟨_,as,bs,rfl,no⟩:=List.find?_eq_some_iff_append.mp e
 rcases List.mem_append.mp hx with hx|hx
 ·have:=no x hx
  rw [px] at this
  cases this
 ·rcases List.mem_cons.mp hx with hx|hx
  ·exact .inl hx.symm
  ·exact .inr ((List.pairwise_cons.mp (List.pairwise_append.mp h).2.1).1 x hx)
def v_ (x:Str):PyData->List Int
 |.tuple [.str f,.str y,.int i]=>if f = "less"∨f = "same" then (if y=x then (if f = "same" then [i,i+1] else [i]) else []) else []
 |_=>[]
def tvs (x:Str) (L:List PyData):List Int:=L.flatMap (v_ x)
structure mj (L:List PyData) (f:dN) (ts:List Int):Prop where
 up:ts.Pairwise (·<·)
 mem:∀ v,v∈ts↔(v=f.2.1∨v∈tvs f.1 L)/\f.2.1≤v/\v≤f.2.2
def zg:List Int->List dN->Prop:=Paired fun (z:Int) (f:dN)=>f.2.1≤z/\z≤f.2.2
structure Snap (L:List PyData) (f:dN) (z c:Int):Prop where
 le:c≤z
 lo:f.2.1≤c
 hi:z≤f.2.2
 top:∀ t,(t=f.2.1∨t∈tvs f.1 L)->f.2.1≤t->t≤z->t≤c
theorem wA (z:Int):∀ ts:List Int,(∃ t∈ts,t≤z)->∃ c∈ts,c≤z/\∀ t∈ts,t≤z->t≤c
 |[],⟨t,h,_⟩=>by cases h
 | a::r,h=>by
   by_cases hr:∃ t∈r,t≤z
   ·obtain ⟨c,hc,c1,c2⟩:=wA z r hr
    by_cases ha:a≤z/\c≤a
    ·refine ⟨a,.head _,ha.1,fun t ht tz=>?_⟩
     rcases List.mem_cons.mp ht with rfl|ht
     ·exact Int.le_refl _
     ·exact Int.le_trans (c2 t ht tz) ha.2
    ·refine ⟨c,.tail _ hc,c1,fun t ht tz=>?_⟩
     rcases List.mem_cons.mp ht with rfl|ht
     ·omega
     ·exact c2 t ht tz
   ·obtain ⟨t,ht,tz⟩:=h
    rcases List.mem_cons.mp ht with rfl|ht
    ·refine ⟨t,.head _,tz,fun u hu uz=>?_⟩
     rcases List.mem_cons.mp hu with rfl|hu
     ·exact Int.le_refl _
     ·exact absurd ⟨u,hu,uz⟩ hr
    ·exact absurd ⟨t,ht,tz⟩ hr
theorem tY:∀ {fs:List dN} {tss:List (List Int)} {zs:List Int},Paired (mj L) fs tss->zg zs fs->∃ cs,Paired (fun (v:Int) (ts:List Int)=>v∈ts) cs tss/\Paired (fun x y:Int=>x≤y) cs zs/\∀ (j:Nat) (f:dN),fs[j]?=some f->Snap L f (zs.getD j 0) (cs.getD j 0)
 |_,_,_,.nil,.nil=>⟨[],.nil,.nil,fun j f e=>by simp at e⟩
 | f::_,ts::_,z::_,.cons s t,.cons b u=>by
   obtain ⟨cs,h1,h2,h3⟩:=tY t u
   obtain ⟨c,hc,c1,c2⟩:=wA z ts ⟨f.2.1,(s.mem _).mpr ⟨.inl rfl,Int.le_refl _,Int.le_trans b.1 b.2⟩,b.1⟩
   refine ⟨c::cs,.cons hc h1,.cons c1 h2,fun j g e=>?_⟩
   cases j with
   | zero=>
     cases e
     exact ⟨c1,((s.mem _).mp hc).2.1,b.2,fun t' h l tz=>c2 t' ((s.mem _).mpr ⟨h,l,Int.le_trans tz b.2⟩) tz⟩
   |succ j=>exact h3 j g (by simpa using e)
theorem sO:∀ {fs:List dN} {tss:List (List Int)} {cs:List Int},Paired (mj L) fs tss->Paired (fun (v:Int) (ts:List Int)=>v∈ts) cs tss->zg cs fs
 |_,_,_,.nil,.nil=>.nil
 |_,_,_,.cons s t,.cons h u=>.cons ((s.mem _).mp h).2 (sO t u)
theorem vA (h:∀ (j:Nat) (g:dN),fs[j]?=some g->Snap L g (zs.getD j 0) (cs.getD j 0)) (lf:jL f r) (m:.tuple (.str f::r)∈L):gJ nm fs zs f r=gJ nm fs cs f r:=by
 cases lf with
 |all=>rfl
 |is _=>rfl
 | @num f x i hf hx hi=>
   unfold gJ
   by_cases h0:f = "all"
   ·rw [if_pos h0,if_pos h0]
   rw [if_neg h0,if_neg h0]
   dsimp only
   by_cases hin:x∈fs.map (·.1)
   ·rw [if_pos hin,if_pos hin]
    have il:=List.idxOf_lt_length_iff.mpr hin
    have il2:=il
    rw [List.length_map] at il2
    have e1:(fs.map (·.1))[(fs.map (·.1)).idxOf x]=x:=List.getElem_idxOf il
    generalize (fs.map (·.1)).idxOf x=j at il il2 e1 ⊢
    have s:=h j fs[j] (List.getElem?_eq_getElem il2)
    have e2:fs[j].1=x:=by rw [List.getElem_map] at e1;exact e1
    have ls:¬ (("less" : Str) = "same"):=by decide
    have tm:∀ v,v∈v_ x (.tuple [.str f,.str x,.int i])->v∈tvs fs[j].1 L:=fun v hv=>by
     rw [e2]
     exact List.mem_flatMap.mpr ⟨_,m,hv⟩
    have le:=s.le
    have lo:=s.lo
    have hi':=s.hi
    rcases hf with rfl|rfl
    ·rw [if_pos rfl,if_pos rfl,decide_eq_decide]
     have t1:=s.top i (.inr (tm i (by simp [v_,ls])))
     constructor
     ·intro z;omega
     ·intro z
      refine Classical.byContradiction fun q=>?_
      by_cases l:fs[j].2.1≤i
      ·have:=t1 l (by omega);omega
      ·omega
    ·rw [if_neg (by decide),if_neg (by decide),decide_eq_decide]
     have t1:=s.top i (.inr (tm i (by simp [v_])))
     have t2:=s.top (i+1) (.inr (tm (i+1) (by simp [v_])))
     constructor
     ·intro z
      have:=t1 (by omega) (by omega)
      omega
     ·intro z
      refine Classical.byContradiction fun q=>?_
      have:=t2 (by omega) (by omega)
      omega
   ·rw [if_neg hin,if_neg hin]
theorem iu:∀ {n:Nat} {d:PyData},TD d->bA d=true->bO d≤n->∀ e∈gG d,∃ f r,e=.tuple (.str f::r)/\jL f r
 |0,d,_,_,h=>by have:=cO d;omega
 | n+1,d,td,sh,h=>by
   obtain ⟨f,r,rfl⟩:=bT td sh
   intro e he
   have eq:gG (.tuple (.str f::r))=if (arity f).isSome=true then du r else [.tuple (.str f::r)]:=rfl
   rw [eq] at he
   cases td with
   |node a b c tr=>
   rcases fQ sh h with ⟨ha,lf⟩|N
   ·rw [ha] at he
    simp at he
    exact ⟨f,r,he,pF lf⟩
   ·rw [N.ar] at he
    simp only [Option.isSome_some,if_true] at he
    have a2:=gr N.ar
    match r,a2,N,tr,he with
    | [x],_,N,tr,he=>
      rw [bR] at he
      exact iu (tr x (by simp)) (N.sh x (by simp)) (N.de x (by simp)) e he
    | [x,y],_,N,tr,he=>
      have:du [x,y]=gG x++gG y:=by rw [show [x,y]=[x]++[y] from rfl,e_,bR,bR]
      rw [this,List.mem_append] at he
      rcases he with he|he
      ·exact iu (tr x (by simp)) (N.sh x (by simp)) (N.de x (by simp)) e he
      ·exact iu (tr y (by simp)) (N.sh y (by simp)) (N.de y (by simp)) e he
    |_::_::_::_,a2,_,_,_=>simp at a2
    |[],a2,_,_,_=>simp at a2
theorem eF:∀ (n:Nat) (f:Str) (r:List PyData),(∀ g q,.tuple (.str g::q)∈gG (.tuple (.str f::r))->gJ nm fs zs g q=gJ nm fs cs g q)->bD nm fs zs n f r=bD nm fs cs n f r
 |0,_,_,_=>rfl
 | n+1,f,r,h=>by
   have eq:gG (.tuple (.str f::r))=if (arity f).isSome=true then du r else [.tuple (.str f::r)]:=rfl
   rw [eq] at h
   have one:∀ (g:Str) (q:List PyData),du [.tuple (.str g::q)]=gG (.tuple (.str g::q)):=fun g q=>bR _
   have two:∀ (a b:PyData),du [a,b]=gG a++gG b:=fun a b=>by rw [show [a,b]=[a]++[b] from rfl,e_,bR,bR]
   unfold bD
   by_cases h1:f = "not"
   ·rw [if_pos h1,if_pos h1]
    rw [h1,show (arity "not").isSome=true from by decide +kernel,if_pos rfl] at h
    split
    ·rename_i g q
     rw [one] at h
     rw [eF n g q h]
    ·rfl
   ·rw [if_neg h1,if_neg h1]
    by_cases h2:f = "and"
    ·rw [if_pos h2,if_pos h2]
     rw [h2,show (arity "and").isSome=true from by decide +kernel,if_pos rfl] at h
     split
     ·rename_i g q g' q'
      rw [two] at h
      rw [eF n g q fun a b m=>h a b (List.mem_append_left _ m),eF n g' q' fun a b m=>h a b (List.mem_append_right _ m)]
     ·rfl
    ·rw [if_neg h2,if_neg h2]
     by_cases h3:f = "or"
     ·rw [if_pos h3,if_pos h3]
      rw [h3,show (arity "or").isSome=true from by decide +kernel,if_pos rfl] at h
      split
      ·rename_i g q g' q'
       rw [two] at h
       rw [eF n g q fun a b m=>h a b (List.mem_append_left _ m),eF n g' q' fun a b m=>h a b (List.mem_append_right _ m)]
      ·rfl
     ·rw [if_neg h3,if_neg h3]
      have ha:arity f=none:=by unfold arity;rw [if_neg h1,if_neg h2,if_neg h3]
      rw [ha] at h
      exact h f r (by simp)
structure pJ (d:PyData):Prop where
 td:TD d
 ok:cU d=true
theorem pJ.sh (t:pJ d):bA d=true:=by
 have:=t.ok
 unfold cU at this
 rw [Bool.and_eq_true] at this
 exact this.1
theorem pJ.de (t:pJ d):bO d≤5:=by
 have:=t.ok
 unfold cU at this
 rw [Bool.and_eq_true,Bool.and_eq_true,decide_eq_true_eq] at this
 exact this.2.1
theorem pJ.few (t:pJ d):(gG d).length≤8:=by
 have h:=t.ok
 unfold cU at h
 rw [Bool.and_eq_true,Bool.and_eq_true,decide_eq_true_eq,decide_eq_true_eq] at h
 have:=iK t.td t.sh t.de
 omega
theorem pJ.form (t:pJ d):∃ f r,d=.tuple (.str f::r):=bT t.td t.sh
theorem pJ.same (t:pJ d) (sub:∀ e∈gG d,e∈L) (h:∀ (j:Nat) (g:dN),fs[j]?=some g->Snap L g (zs.getD j 0) (cs.getD j 0)):eQ nm fs zs d=eQ nm fs cs d:=by
 obtain ⟨f,r,rfl⟩:=t.form
 show bD nm fs zs 5 f r=bD nm fs cs 5 f r
 refine eF 5 f r fun g q m=>?_
 obtain ⟨f',r',e,lf⟩:=iu t.td t.sh t.de _ m
 injection e with e
 injection e with e1 e2
 injection e1 with e1
 subst e1 e2
 exact vA h lf (sub _ m)
def eV (nm:Str) (fs:List dN) (d e:PyData) (zs:List Int):Bool:=eQ nm fs zs d != eQ nm fs zs e
def fY (nm:Str) (fs:List dN) (d e:PyData):Option (List Int)->Prop
 |none=>∀ zs,zg zs fs->eV nm fs d e zs=false
 |some c=>zg c fs/\eV nm fs d e c=true/\∀ zs,zg zs fs->eV nm fs d e zs=true->c=zs∨lx c zs=true
theorem wJ (td:pJ d) (te:pJ e) (st:Paired (mj (gG d++gG e)) fs tss):fY nm fs d e ((mH tss).find? (eV nm fs d e)):=by
 have up:(mH tss).Pairwise fun a b=>lx a b=true:=Ep fun ts hts=>by
  obtain ⟨i,hi⟩:=List.getElem?_of_mem hts
  have:∀ {fs:List dN} {tss:List (List Int)} {i:Nat} {ts:List Int},Paired (mj (gG d++gG e)) fs tss->tss[i]?=some ts->ts.Pairwise (·<·):=by
   intro fs tss i ts p
   induction p generalizing i with
   |nil=>intro z;simp at z
   | cons a _ ih=>
     intro z
     cases i with
     |zero=>cases z;exact a.up
     |succ i=>exact ih (by simpa using z)
  exact this st hi
 have down:∀ zs,zg zs fs->eV nm fs d e zs=true->∃ c∈mH tss,eV nm fs d e c=true/\(c=zs∨lx c zs=true):=fun zs b h=>by
  obtain ⟨cs,c1,c2,c3⟩:=tY st b
  refine ⟨cs,kJ.mpr c1,?_,Aj c2⟩
  unfold eV at h ⊢
  rw [← td.same (fun x hx=>List.mem_append_left _ hx) c3,← te.same (fun x hx=>List.mem_append_right _ hx) c3]
  exact h
 cases hf:(mH tss).find? (eV nm fs d e) with
 | none=>
   intro zs b
   refine Bool.eq_false_iff.mpr fun h=>?_
   obtain ⟨c,hc,pc,_⟩:=down zs b h
   exact absurd pc (List.find?_eq_none.mp hf c hc)
 | some c=>
   obtain ⟨h1,h2,h3⟩:=yq up hf
   refine ⟨sO st (kJ.mp h1),h2,fun zs b h=>?_⟩
   obtain ⟨x,hx,px,lx'⟩:=down zs b h
   rcases h3 x hx px with rfl|l1
   ·exact lx'
   ·rcases lx' with rfl|l2
    ·exact .inr l1
    ·exact .inr (lK l1 l2)
theorem v6 (h1:fY nm fs d e a) (h2:fY nm fs d e b):a=b:=by
 cases a with
 | none=>
   cases b with
   |none=>rfl
   |some c=>have:=h1 c h2.1;rw [h2.2.1] at this;cases this
 | some c=>
   cases b with
   |none=>have:=h2 c h1.1;rw [h1.2.1] at this;cases this
   | some c'=>
     rcases h1.2.2 c' h2.1 h2.2.1 with rfl|l1
     ·rfl
     ·rcases h2.2.2 c h1.1 h1.2.1 with rfl|l2
      ·rfl
      ·exact (wy l1 l2).elim
theorem yj (x:Str) (L:List PyData) (d:PyData):tvs x (L++[d])=tvs x L++v_ x d:=by
 unfold tvs
 rw [List.flatMap_append,List.flatMap_cons,List.flatMap_nil,List.append_nil]
theorem z7 (x:Str) (d:PyData):(v_ x d).length≤2:=by
 unfold v_
 split
 ·split
  ·split
   ·split <;> simp
   ·simp
  ·simp
 ·simp
theorem oR (x:Str):∀ L:List PyData,(tvs x L).length≤2*L.length
 |[]=>by simp [tvs]
 | d::r=>by
   have h1:=oR x r
   have h2:=z7 x d
   unfold tvs at h1 ⊢
   rw [List.flatMap_cons,List.length_append,List.length_cons]
   omega
def Q3 (L:List PyData):Prop:=∀ e∈L,∃ f r,e=.tuple (.str f::r)/\jL f r
def Gq (K:Frag):Sp:=fun vs H Q _=>∃ (l:Addr) (x:Str) (lo hi:Int) (xs:List V) (L:List PyData),vs=[.ref l,.str x,.int lo,.int hi]/\bM K H l xs/\bj K H xs L/\Q3 L/\L.length≤16/\lo≤hi/\∀ q ts H',mj L (x,lo,hi) ts->ts.length≤33->H' q=some (.lst (ts.map V.int))->aC H H'->Q (.ref q) H'
abbrev QZ:List Str:=["found","field","low","high","values","leaf"]
theorem By:aR QZ ["found","field","low","high"] (aA (top 35)):=⟨rfl,rfl,rfl,by decide +kernel,rfl,by decide +kernel,by decide +kernel⟩
theorem G5 (F:fX K "turns" "turns" (top 35) f fd) (T:Txt K mg) (hso:mg "sorted" = none) (TB:rC K mg aW aS):aN P w K mg base bL 1 f fd ["found","field","low","high"] (Gq K):=by
 refine F.ok By (fun vs H Q E h=>?_) (fun cdv A outer s H vs Q E hr h=>?_)
 ·obtain ⟨l,x,lo,hi,xs,L,rfl,_⟩:=h
  rfl
 ·obtain ⟨l,x,lo,hi,xs,L,rfl,hl,rp,lv,ll,lh,k⟩:=h
  refine ⟨_,(ao (b7 (i:=4) By.nd rfl (by first|exact Or.inl rfl|exact Or.inr rfl) (bW (aa (pv 2) aj)))
   (ao (d9 PassesOwn.never rfl (dY (pv 0)) (aV (i:=5) By.nd rfl (by first|exact Or.inl rfl|exact Or.inr rfl))
    (au (bh (PW.pt (m6 (aK pU (aX aZ (pv 5) aq (fun _ _=>rfl)) (d7 (v:=.ref aS) rfl TB.ms rfl) rfl) (jt (aK bJ (aX aZ (pv 5) aq (fun _ _=>rfl)) (pv 1) (aM _)))))
     (ao (c7 (jm PySem.F.plainAttrs_list PySem.F.slot_list_append PySem.F.type_list_append d_ (pv 4) (aa (aX aZ (pv 5) aq (fun _ _=>rfl)) aj)))
     (au (bh (aK bJ (aX aZ (pv 5) aq (fun _ _=>rfl)) aO (aM _)) (au (c7 (jm PySem.F.plainAttrs_list PySem.F.slot_list_append PySem.F.type_list_append d_ (pv 4) (aa (a_ cI (aX aZ (pv 5) aq (fun _ _=>rfl)) aq) aj)))) aQ))) aQ)))
   (au (aP (aG (oJ rfl) (by rfl) hso v9 (aa (xY (g:=bK 0) (own:=["value"]) (js:=[2,3]) (N':=["value","low","high"]) (bu.of (osc:=aA (top 35)) (N:=QZ) rfl rfl ⟨rfl,by decide +kernel,by decide +kernel,by decide +kernel,rfl,by decide +kernel⟩) rfl (dY (pv 4)) (fun _ _ _ _ _=>(aV (i:=0) (show List.Nodup (["value","low","high"]:List Str) by decide +kernel) rfl (Or.inl rfl) (Or.inr rfl)))
    (fun _ _ _ _ _=>jw (lX fK fK (pv 1) (pv 0) (pv 2))) (fun _ _ _ _ _=>pv 0)) aj)))))),?_⟩
  have xl:=rp.length
  refine ⟨_,rfl,(by show 1≤sizeLine;decide),fun v hv=>?_⟩
  have s0:aC H (upd H v (.lst [.int lo])):=aC.new hv
  have e0:upd H v (.lst [.int lo]) v=some (.lst [.int lo]):=ak
  generalize upd H v (.lst [.int lo])=H0 at s0 e0 ⊢
  dsimp only [bK,List.set]
  refine ⟨_,rfl,l,rfl,⟨_,s0.seq hl⟩,jb (K:=K) (a:=l) (xs:=xs) (fun i σ' H'=>(∃ u,σ'=[some (.ref l),some (.str x),some (.int lo),some (.int hi),some (.ref v),u])/\H' v=some (.lst ((lo::tvs x (L.take i)).map V.int))/\aC H H') ⟨⟨none,rfl⟩,e0,s0⟩ (fun i U H' _ e=>e.2.2.seq hl) ?_ ?_⟩
  ·rintro i y σ' H1 hi' ⟨⟨u,rfl⟩,h1,s1⟩
   obtain ⟨d,hd,rd⟩:=rp.get' hi'
   have md:=List.mem_of_getElem? hd
   obtain ⟨f',r,rfl,lf⟩:=lv d md
   have rd1:=rd.same s1
   have tl:=oR x (L.take i)
   have tk:(L.take i).length≤16:=by rw [List.length_take];omega
   have et:tvs x (L.take (i+1))=tvs x (L.take i)++v_ x (.tuple (.str f'::r)):=by
    rw [List.take_add_one,hd]
    exact yj _ _ _
   cases rd1 with
   |@tup a zs _ sq rs=>
   have keep:∀ {H2:Hp} {o:HO},aC H H2->aC H (upd H2 v o):=fun s2 b u e=>by rw [aF (aH e hv)];exact s2 _ _ e
   dsimp only [bK,List.set]
   cases lf with
   | all=>
     obtain ⟨x0,rfl⟩:∃ x0,zs=[x0]:=by
      cases rs with|cons r1 r2=>cases r2;exact ⟨_,rfl⟩
     cases rs with|cons r1 r2=>
     cases r1
     refine ⟨_,rfl,a,_,_,_,rfl,rfl,sq,aD (j:=0) rfl,"all",aS,dS,rfl,rfl,TB.ks,_,rfl,?_⟩
     rw [tV]
     refine b_ (by decide +kernel) (b_ rfl ⟨⟨_,rfl⟩,?_,s1⟩)
     rw [et,show v_ x (.tuple [.str "all"])=[] from rfl,List.append_nil]
     exact h1
   | @is z hz=>
     obtain ⟨x0,x1,rfl⟩:∃ x0 x1,zs=[x0,x1]:=by
      cases rs with|cons r1 r2=>cases r2 with|cons r2 r3=>cases r3;exact ⟨_,_,rfl⟩
     cases rs with|cons r1 r2=>
     cases r1
     refine ⟨_,rfl,a,_,_,_,rfl,rfl,sq,aD (j:=0) rfl,"is",aS,dS,rfl,rfl,TB.ks,_,rfl,?_⟩
     rw [tV]
     refine b_ (by decide +kernel) (b_ rfl ⟨⟨_,rfl⟩,?_,s1⟩)
     rw [et,show v_ x (.tuple [.str "is",.str z])=[] from rfl,List.append_nil]
     exact h1
   | @num _ z j hf hz hj=>
     obtain ⟨x0,x1,x2,rfl⟩:∃ x0 x1 x2,zs=[x0,x1,x2]:=by
      cases rs with|cons r1 r2=>cases r2 with|cons r2 r3=>cases r3 with|cons r3 r4=>cases r4;exact ⟨_,_,_,rfl⟩
     cases rs with|cons r1 r2=>
     cases r2 with|cons r2 r3=>
     cases r3 with|cons r3 r4=>
     cases r1
     cases r2
     cases r3
     have some':(j9 dS f').isSome=true:=by rw [tV];rcases hf with rfl|rfl <;> decide +kernel
     refine ⟨_,rfl,a,_,_,_,rfl,rfl,sq,aD (j:=0) rfl,f',aS,dS,rfl,rfl,TB.ks,_,rfl,?_⟩
     refine cQ some' ⟨_,rfl,a,_,_,_,rfl,rfl,sq,aD (j:=1) rfl,_,rfl,rfl,_,rfl,?_⟩
     have e1:v_ x (.tuple [.str f',.str z,.int j])=if z=x then (if f' = "same" then [j,j+1] else [j]) else []:=by
      show (if f' = "less"∨f' = "same" then (if z=x then (if f' = "same" then [j,j+1] else [j]) else []) else [])=_
      rw [if_pos hf]
     rw [e1] at et
     refine fH (fun h=>?_) (fun h=>?_)
     ·have h':z=x:=by simpa using h
      rw [if_pos h'] at et
      refine ⟨_,rfl,.inl ⟨rfl,_,bM.of h1⟩,_,rfl,a,_,_,_,rfl,rfl,sq,aD (j:=2) rfl,v,_,_,rfl,rfl,h1,?_,?_⟩
      ·rw [List.length_map,List.length_cons]
       exact Nat.lt_of_le_of_lt (show (tvs x (L.take i)).length+1≤40 by omega) (by decide)
      have s2:aC H (upd H1 v (.lst ((lo::tvs x (L.take i)).map V.int++[.int j]))):=keep s1
      have h2:upd H1 v (.lst ((lo::tvs x (L.take i)).map V.int++[.int j])) v=some (.lst ((lo::tvs x (L.take i)).map V.int++[.int j])):=ak
      have sq2:bF K (upd H1 v (.lst ((lo::tvs x (L.take i)).map V.int++[.int j]))) a [.str f',.str z,.int j]:=jr sq h1
      generalize upd H1 v (.lst ((lo::tvs x (L.take i)).map V.int++[.int j]))=H2 at s2 h2 sq2 ⊢
      refine ⟨_,rfl,a,_,_,_,rfl,rfl,sq2,aD (j:=0) rfl,rfl,_,rfl,?_⟩
      rcases hf with rfl|rfl
      ·refine b_ (by decide +kernel) ⟨⟨_,rfl⟩,?_,s2⟩
       rw [et,if_neg (by decide)]
       rw [h2]
       simp
      ·refine cQ (by decide +kernel) ⟨_,rfl,.inl ⟨rfl,_,bM.of h2⟩,_,rfl,a,_,_,_,rfl,rfl,sq2,aD (j:=2) rfl,_,_,rfl,rfl,v,_,_,rfl,rfl,h2,?_,⟨_,rfl⟩,?_,keep s2⟩
       ·rw [List.length_append,List.length_map,List.length_cons]
        exact Nat.lt_of_le_of_lt (show (tvs x (L.take i)).length+1+1≤41 by omega) (by decide)
       ·rw [ak,et,if_pos rfl]
        simp
     ·have h':¬ z=x:=by simpa using h
      rw [if_neg h',List.append_nil] at et
      exact ⟨⟨_,rfl⟩,by rw [et];exact h1,s1⟩
  ·rintro σ' H1 ⟨⟨u,rfl⟩,h1,s1⟩
   rw [xl,List.take_length] at h1
   have tl:=oR x L
   generalize ev:lo::tvs x L=vs at h1
   have vl:vs.length≤33:=by rw [← ev,List.length_cons];omega
   refine ⟨_,rfl,v,rfl,⟨_,bM.of h1⟩,fun acc hacc=>?_⟩
   have vacc:v≠acc:=aH h1 hacc
   refine qj (K:=K) (a:=v) (xs:=vs.map V.int) (fun i σ' H'=>(∃ u,σ'=[u,some (.int lo),some (.int hi)])/\H'=upd H1 acc (setG P w acc (dd ((vs.take i).filter fun z=>decide (lo≤z) && decide (z≤hi))))) ⟨⟨none,rfl⟩,rfl⟩ (fun i U H' _ e=>by rw [e.2];exact bM.of (by rw [aF vacc];exact h1)) ?_ ?_
   ·rintro i y σ' H' hi' ⟨⟨u,rfl⟩,rfl⟩ N hN
    rw [List.getElem?_map] at hi'
    obtain ⟨z,hz,rfl⟩:=Option.map_eq_some_iff.mp hi'
    dsimp only [bK,List.set]
    refine fJ.chain (fJ.var rfl) (fJ.var rfl) (fJ.var rfl) nO.i0 nO.i0 _ ⟨_,rfl,?_⟩
    have ed:vs.take (i+1)=vs.take i++[z]:=by rw [List.take_add_one,hz];rfl
    refine fH (fun h=>?_) (fun h=>?_)
    ·refine ⟨_,rfl,_,z,ak,rfl,?_,hN _ _ ⟨⟨_,rfl⟩,?_⟩⟩
     ·have a1:=xR ((vs.take i).filter fun z=>decide (lo≤z) && decide (z≤hi))
      have a2:=List.length_filter_le (fun z=>decide (lo≤z) && decide (z≤hi)) (vs.take i)
      have a3:(vs.take i).length≤33:=by rw [List.length_take];omega
      exact Nat.lt_of_le_of_lt (show _≤34 by omega) (by decide)
     ·rw [zy,ed,List.filter_append,List.filter_cons_of_pos (by exact h),List.filter_nil,yO]
      rfl
    ·refine hN _ _ ⟨⟨_,rfl⟩,?_⟩
     rw [ed,List.filter_append,List.filter_cons_of_neg (by exact h),List.filter_nil,List.append_nil]
   ·rintro σ' H' ⟨_,rfl⟩
    rw [List.length_map,List.take_length]
    have a1:=xR (vs.filter fun z=>decide (lo≤z) && decide (z≤hi))
    have a2:=List.length_filter_le (fun z=>decide (lo≤z) && decide (z≤hi)) vs
    refine ⟨acc,_,rfl,ak,by omega,fun ms q hp hs hq=>?_⟩
    have pl:=hp.length_eq
    refine k q ms _ ⟨?_,fun z=>?_⟩ (by omega) ak ?_
    ·have nd:ms.Nodup:=hp.nodup_iff.mpr (yr _)
     exact (hs.and nd).imp fun {a b} h=>by have:=h.1;have:=h.2;omega
    ·rw [hp.mem_iff,DK,List.mem_filter,← ev,List.mem_cons]
     simp
    ·exact (s1.trans (aC.new hacc)).trans (aC.new hq)
def jK (H:Hp) (x:V) (r:List Int):Prop:=∃ p,x=.ref p/\H p=some (.tup (r.map V.int))
theorem jK.tk (h:jK H x r) (k:TK H H'):jK H' x r:=let ⟨p,e,z⟩:=h;⟨p,e,k _ _ z⟩
theorem kI (k:TK H H'):∀ {xs:List V} {rs:List (List Int)},Paired (jK H) xs rs->Paired (jK H') xs rs
 |_,_,.nil=>.nil
 |_,_,.cons a t=>.cons (a.tk k) (kI k t)
theorem _root_.L2.aC.tkT (s:aC H H'):TK H H':=fun b xs e=>s _ _ e
theorem Paired.snoc2 {α β:Type} {R:α->β->Prop} {x:α} {y:β} (h:R x y):∀ {xs:List α} {ys:List β},Paired R xs ys->Paired R (xs++[x]) (ys++[y])
 |_,_,.nil=>.cons h .nil
 |_,_,.cons a t=>.cons a (Paired.snoc2 h t)
theorem v8 {K:Frag} {a b:Addr} {xs:List V} {rows:List (List Int)} {ts:List Int} {te:TE} {H0:Hp} {F:List V->Hp->Prop} {σ0:St} (e0:∃ u v,σ0=[u,v,some (.ref b)]) (hq:bM K H0 a xs) (hb:bM K H0 b (ts.map V.int)) (hp:Paired (jK H0) xs rows) (hl:rows.length*ts.length<sizeLine)
 (hte:∀ x r v H (N:V->Hp->Prop),jK H x r->r∈rows->(∀ y H',aC H H'->jK H' y (r++[v])->N y H')->te [some x,some (.int v),some (.ref b)] H N) (hF:∀ ys H',aC H0 H'->Paired (jK H') ys (ext rows ts)->F ys H') :
 ∃ W:Nat->Nat->List V->St->Hp->Prop,(∃ m,W 0 m [] σ0 H0)/\pH (zr K a) (bK 0) mL (tH K (lZ 2)) (bK 1) mL te F W:=by
 have xl:=Paired.length hp
 have elen:∀ i,i≤rows.length->(ext (rows.take i) ts).length=i*ts.length:=fun i hi=>by rw [pD,List.length_take,Nat.min_eq_left hi]
 refine ⟨fun i m ys U H=>m=xs.length-i/\i≤xs.length/\(∃ u v,U=[u,v,some (.ref b)])/\aC H0 H/\Paired (jK H) ys (ext (rows.take i) ts),⟨xs.length,by simp,Nat.zero_le _,e0,aC.refl _,.nil⟩,?_⟩
 rintro i m ys U H ⟨rfl,hi,⟨u,v,rfl⟩,s1,py⟩
 have q:=s1.seq hq
 by_cases hlt:i<xs.length
 ·refine .inr ⟨⟨xs,xs[i],q,by simp [hlt]⟩,fun x H' y=>?_⟩
  obtain ⟨e,y⟩:=y
  subst e
  have hx:=y xs q
  obtain ⟨r,hr,rx⟩:=cC hp hx
  have mr:=List.mem_of_getElem? hr
  have er:rows.take (i+1)=rows.take i++[r]:=by rw [List.take_add_one,hr];rfl
  have ee:ext (rows.take (i+1)) ts=ext (rows.take i) ts++ts.map fun v=>r++[v]:=by
   rw [er]
   unfold ext
   rw [List.flatMap_append,List.flatMap_cons,List.flatMap_nil,List.append_nil]
  dsimp only [bK,List.set,mL]
  rw [if_pos rfl]
  refine ⟨_,rfl,b,rfl,⟨_,s1.seq hb⟩,?_⟩
  refine ⟨fun j m2 ys U H=>m2=ts.length-j/\j≤ts.length/\(∃ v,U=[some x,v,some (.ref b)])/\aC H0 H/\Paired (jK H) ys (ext (rows.take i) ts++(ts.take j).map fun v=>r++[v]),⟨ts.length,by simp,Nat.zero_le _,⟨_,rfl⟩,s1,by rw [List.take_zero,List.map_nil,List.append_nil];exact py⟩,?_⟩
  rintro j m2 ys2 σ2 H2 ⟨rfl,hj,⟨v2,rfl⟩,s2,py2⟩
  have q2:=s2.seq hb
  by_cases hlt2:j<ts.length
  ·have yl:=Paired.length py2
   rw [List.length_append,elen i (by omega),List.length_map,List.length_take] at yl
   have bd:i*ts.length+ts.length≤rows.length*ts.length:=by
    have:=Nat.mul_le_mul_right ts.length (show i+1≤rows.length by omega)
    rw [Nat.succ_mul] at this
    exact this
   refine .inr ⟨⟨ts.map V.int,.int ts[j],q2,by simp [hlt2]⟩,by omega,fun z H3 y2=>?_⟩
   obtain ⟨e,y2⟩:=y2
   subst e
   have hz:=y2 _ q2
   rw [List.getElem?_map] at hz
   obtain ⟨v,hv,rfl⟩:=Option.map_eq_some_iff.mp hz
   dsimp only [bK,List.set,mL]
   rw [if_pos rfl]
   refine hte x r v _ _ (rx.tk s2.tkT) mr fun y H4 s4 ry=>⟨ts.length-(j+1),by omega,rfl,hlt2,⟨_,rfl⟩,s2.trans s4,?_⟩
   have et:(ts.take (j+1)).map (fun v=>r++[v])=(ts.take j).map (fun v=>r++[v])++[r++[v]]:=by rw [List.take_add_one,hv,List.map_append];rfl
   rw [et,← List.append_assoc]
   exact Paired.snoc2 ry (kI s4.tkT py2)
  ·have e:j=ts.length:=by omega
   subst e
   refine .inl ⟨⟨_,q2,by simp⟩,xs.length-(i+1),by omega,rfl,hlt,⟨_,_,rfl⟩,s2,?_⟩
   rw [List.take_length] at py2
   rw [ee]
   exact py2
 ·have e:i=xs.length:=by omega
  subst e
  rw [xl,List.take_length] at py
  exact .inl ⟨⟨xs,q,Nat.le_refl _⟩,hF _ _ s1 py⟩
def Jf (K:Frag) (C:Addr):Sp:=fun vs H Q _=>∃ (l o a:Addr) (nm:Str) (fs:List dN) (xs:List V) (L:List PyData),vs=[.ref l,.ref o]/\bM K H l xs/\bj K H xs L/\Q3 L/\L.length≤16/\cP C H o nm a fs/\fs.length≤4/\(∀ f∈fs,iT f)/\∀ q ys tss H',Paired (mj L) fs tss->H' q=some (.lst ys)->Paired (jK H') ys (mH tss)->aC H H'->Q (.ref q) H'
abbrev QV:List Str:=["found","kind","rows","name","low","high","steps"]
theorem qH:aR QV ["found","kind"] (aA (top 34)):=⟨rfl,rfl,rfl,by decide +kernel,rfl,by decide +kernel,by decide +kernel⟩
theorem Ks {mg:Str->Option Value} {f aW aS C fT:Addr} {fd fdT:FuncData} (F:fX K "corners" "corners" (top 34) f fd) (T:Txt K mg) (hso:mg "sorted" = none) (TB:rC K mg aW aS) (KC:KCls K mg C) (DT:cF K mg "turns" (top 35) ["found","field","low","high"] fT fdT):aN P w K mg base bL 2 f fd ["found","kind"] (Jf K C):=by
 have GT:aN P w K mg base bL 1 fT fdT ["found","field","low","high"] (Gq K):=G5 DT.F T hso TB
 refine F.ok qH (fun vs H Q E h=>?_) (fun cdv A outer s H vs Q E hr h=>?_)
 ·obtain ⟨l,o,a,nm,fs,xs,L,rfl,_⟩:=h
  rfl
 ·obtain ⟨l,o,a,nm,fs,xs,L,rfl,hl,rp,lv,ll,ka,fl,fo,k⟩:=h
  refine ⟨_,(ao (b7 (i:=2) qH.nd rfl (by first|exact Or.inl rfl|exact Or.inr rfl) (bW (aa (dm aj) aj)))
   (ao (d9 PassesOwn.never rfl (ig (jM (pv 1) rfl)) (gW rfl (bw (aV (i:=3) qH.nd rfl (by first|exact Or.inl rfl|exact Or.inr rfl)) (bw (aV (i:=4) qH.nd rfl (by first|exact Or.inl rfl|exact Or.inr rfl)) (bw (aV (i:=5) qH.nd rfl (by first|exact Or.inl rfl|exact Or.inr rfl)) dX))))
    (ao (b7 (i:=6) qH.nd rfl (by first|exact Or.inl rfl|exact Or.inr rfl) (aB GT hr rfl DT.mg DT.F.kp DT.b .nil aL (aa (pv 0) (aa (pv 3) (aa (pv 4) (aa (pv 5) aj))))))
    (au (pM (i:=2) (g:=bK 0) (g2:=bK 1) (tt:=mL) (tt2:=mL) (wi2:=tH K (lZ 2)) (own:=["row","value"]) (js:=[6]) (N':=["row","value","steps"]) (bu.of (osc:=aA (top 34)) (N:=QV) rfl rfl ⟨rfl,by decide +kernel,by decide +kernel,by decide +kernel,rfl,by decide +kernel⟩) rfl qH.nd rfl rfl (dY (pv 2)) (fun _ _ _ _ _=>(aV (i:=0) (show List.Nodup (["row","value","steps"]:List Str) by decide +kernel) rfl (Or.inl rfl) (Or.inr rfl))) (fun _ _ _ _ _=>eY) (fun _ _ _ _ _=>wZ rfl (pv 2)) (fun _ _=>rfl) (fun _ _ _ _ _=>(aV (i:=1) (show List.Nodup (["row","value","steps"]:List Str) by decide +kernel) rfl (Or.inl rfl) (Or.inr rfl))) (fun _ _ _ _ _=>eY)
     (fun _ _ _ _ _=>(a_ (r:=Ah K) z8 (pv 0) (dm (aa (pv 1) aj))))))))
   (au (aP (pv 2))))),?_⟩
  obtain ⟨⟨dx,ho⟩,ws,ha,pf⟩:=ka
  have wl:=Paired.length pf
  refine ⟨(by show 0≤sizeLine;decide),fun p0 hp0=>⟨(by show 1≤sizeLine;decide),fun q0 hq0=>?_⟩⟩
  have s0:=(aC.new (o:=.tup []) hp0).trans (aC.new (o:=.lst [.ref p0]) hq0)
  have e0:upd (upd H p0 (.tup [])) q0 (.lst [.ref p0]) q0=some (.lst [.ref p0]):=ak
  have e1:upd (upd H p0 (.tup [])) q0 (.lst [.ref p0]) p0=some (.tup []):=aC.new hq0 _ _ ak
  generalize upd (upd H p0 (.tup [])) q0 (.lst [.ref p0])=H0 at s0 e0 e1 ⊢
  dsimp only [bK,List.set]
  refine ⟨_,rfl,o,C,dx,_,_,rfl,s0 _ _ ho,KC.cl,KC.nF,gB nm a,a,rfl,⟨_,bF.of (s0 _ _ ha)⟩,?_⟩
  refine jB (K:=K) (a:=a) (xs:=ws) (fun i σ' H'=>∃ q ys tss u3 u4 u5 u6,σ'=[some (.ref l),some (.ref o),some (.ref q),u3,u4,u5,u6]/\H' q=some (.lst ys)/\Paired (jK H') ys (mH tss)/\Paired (mj L) (fs.take i) tss/\(mH tss).length≤33 ^ i/\aC H H') ⟨q0,_,[],_,_,_,_,rfl,e0,.cons ⟨p0,rfl,e1⟩ .nil,.nil,by simp [mH],s0⟩ (fun i U H' _ ⟨_,_,_,_,_,_,_,_,_,_,_,_,e⟩=>bF.of (e _ _ ha)) ?_ ?_
  ·rintro i x σ' H1 hi ⟨q,ys,tss,u3,u4,u5,u6,rfl,hq,py,pt,cl,s1⟩
   obtain ⟨f',hf,b',rfl,hb⟩:=cC pf hi
   have mf:=List.mem_of_getElem? hf
   have fk:=fo f' mf
   have il:i<4:=by
    have:=(List.getElem?_eq_some_iff.mp hf).1
    omega
   refine ⟨b',_,rfl,bF.of (s1 _ _ hb),rfl,_,_,rfl,_,_,rfl,_,_,rfl,rfl,?_⟩
   dsimp only [bK,List.set]
   refine ⟨_,rfl,_,rfl,_,rfl,_,rfl,l,f'.1,f'.2.1,f'.2.2,xs,L,rfl,s1.seq hl,rp.same s1,lv,ll,fk.le,fun b ts H2 st tl hb2 s2=>?_⟩
   dsimp only [bK,List.set]
   refine ⟨_,rfl,q,rfl,⟨_,bM.of (s2 _ _ hq)⟩,?_⟩
   have cb:(mH tss).length*ts.length≤33 ^ (i+1):=by
    rw [Nat.pow_succ]
    exact Nat.mul_le_mul cl tl
   have c4:33 ^ (i+1)≤33 ^ 4:=Nat.pow_le_pow_right (by decide) (by omega)
   have c5:33 ^ 4<sizeLine:=by decide
   refine v8 (b:=b) (ts:=ts) (rows:=mH tss) ⟨_,_,rfl⟩ (bM.of (s2 _ _ hq)) (bM.of hb2) (kI s2.tkT py) (by omega) ?_ ?_
   ·rintro y r v H3 N ⟨p,rfl,hp⟩ mr hN
    have rlen:=Paired.length (kJ.mp mr)
    have tsl:=Paired.length pt
    rw [List.length_take] at tsl
    refine ⟨_,rfl,_,rfl,(by show 1≤sizeLine;decide),fun p2 hp2=>?_⟩
    have t1:=aC.new (o:=.tup [.int v]) hp2
    refine ⟨p,p2,_,_,rfl,rfl,bF.of (t1 _ _ hp),bF.of ak,?_,fun e=>?_,fun e=>?_,fun p3 hp3=>?_⟩
    ·rw [List.length_map]
     exact Nat.le_trans (show r.length+1≤10 by omega) (by decide)
    ·have:r=[]:=by simpa using e
     subst this
     exact hN _ _ t1 ⟨p2,rfl,ak⟩
    ·simp at e
    ·refine hN _ _ (t1.trans (aC.new hp3)) ⟨p3,rfl,?_⟩
     rw [ak,List.map_append]
     rfl
   ·intro ys' H3 s3 py3
    have yl:=Paired.length py3
    rw [pD] at yl
    refine ⟨by omega,fun q3 hq3=>?_⟩
    have s4:=aC.new (o:=.lst ys') hq3
    refine ⟨q3,ys',tss++[ts],_,_,_,_,rfl,ak,?_,?_,?_,((s1.trans s2).trans s3).trans s4⟩
    ·rw [qw]
     exact kI s4.tkT py3
    ·rw [List.take_add_one,hf]
     exact Paired.snoc2 st pt
    ·rw [qw,pD]
     exact cb
  ·rintro σ' H1 ⟨q,ys,tss,u3,u4,u5,u6,rfl,hq,py,pt,cl,s1⟩
   rw [wl,List.take_length] at pt
   exact ⟨_,rfl,k q ys tss H1 pt hq py s1⟩
def Bc (K:Frag) (C cT:Addr):Sp:=fun vs H Q E=>∃ (x y:V) (o a:Addr) (d e:PyData) (nm:Str) (fs:List dN),vs=[x,y,.ref o]/\Rep K H x d/\Rep K H y e/\TD d/\TD e/\cP C H o nm a fs/\fs.length≤4/\(∀ f∈fs,iT f)/\
 (cU d=true->cU e=true->(∀ H',fY nm fs d e none->aC H H'->Q .non H')/\∀ c p H',fY nm fs d e (some c)->H' p=some (.tup (c.map V.int))->aC H H'->Q (.ref p) H')/\
 (cU d=false∨cU e=false->∀ H1 da H',aC H H1->jP H1 Ph da H'->E (.ref cT) (some da) H')
abbrev Ry:List Str:=["one","other","kind","values"]
theorem Hf:aR Ry ["one","other","kind"] (aA (top 33)):=⟨rfl,rfl,rfl,by decide +kernel,rfl,by decide +kernel,by decide +kernel⟩
theorem wF (td:TD d) (sh:bA d=true) (de:bO d≤n):Q3 (gG d):=iu td sh de
theorem gP:∀ {zs:List Int} {fs:List dN},zg zs fs->zs.length=fs.length
 |_,_,.nil=>rfl
 |_,_,.cons _ t=>by rw [List.length_cons,List.length_cons,gP t]
theorem Ij (F:fX K "parted" "parted" (top 33) f fd) (T:Txt K mg) (hso:mg "sorted" = none) (TB:rC K mg aW aS) (KC:KCls K mg C)
 (DN:cF K mg "need_test" (top 28) ["test"] fN fdN) (GN:aN P w K mg base (qY P w) 11 fN fdN ["test"] (Dh K cT)) (DL:cF K mg "leaves_within" (top 29) ["test"] fL fdL) (DC:cF K mg "corners" (top 34) ["found","kind"] fC fdC) (DT:cF K mg "turns" (top 35) ["found","field","low","high"] fT fdT)
 (DP:cF K mg "passes" (top 31) ["test","kind","values"] fP fdP) (GP:aN P w K mg base bL 7 fP fdP ["test","kind","values"] (zQ K C 5)):aN P w K mg base (qY P w) 12 f fd ["one","other","kind"] (Bc K C cT):=by
 have GL:aN P w K mg base bL 5 fL fdL ["test"] (Be K 5):=Jc DL TB 5
 have GC:aN P w K mg base bL 2 fC fdC ["found","kind"] (Jf K C):=Ks DC.F T hso TB KC DT
 refine F.ok1 Hf (fun vs H Q E h=>?_) (fun cdv A outer s H vs Q E hr h=>?_)
 ·obtain ⟨x,y,o,a,d,e,nm,fs,rfl,_⟩:=h
  rfl
 ·obtain ⟨x,y,o,a,d,e,nm,fs,rfl,rx,ry,td,te,ka,fl,fo,k,kx⟩:=h
  have hr2:bH 2 _:=hr.mono (by decide)
  have hr5:bH 5 _:=hr.mono (by decide)
  have hr7:bH 7 _:=hr.mono (by decide)
  refine ⟨_,(ao (c7 (aB (E:=E) GN hr rfl DN.mg DN.F.kp DN.b .nil (ut fun _ _ _ h=>h) (aa (pv 0) aj)))
   (ao (c7 (aB (E:=E) GN hr rfl DN.mg DN.F.kp DN.b .nil (ut fun _ _ _ h=>h) (aa (pv 1) aj)))
   (ao (d9 PassesOwn.leaving rfl (dY (aB (E:=E0) GC hr2 rfl DC.mg DC.F.kp DC.b .nil aL (aa (a_ qI (aB (E:=E0) GL hr5 rfl DL.mg DL.F.kp DL.b .nil aL (aa (pv 0) aj)) (aB (E:=E0) GL hr5 rfl DL.mg DL.F.kp DL.b .nil aL (aa (pv 1) aj))) (aa (pv 2) aj)))) (aV (i:=3) Hf.nd rfl (by first|exact Or.inl rfl|exact Or.inr rfl))
    (au (bh (aK jU (aB (E:=E0) GP hr7 rfl DP.mg DP.F.kp DP.b .nil aL (aa (pv 0) (aa (pv 2) (aa (pv 3) aj)))) (aB (E:=E0) GP hr7 rfl DP.mg DP.F.kp DP.b .nil aL (aa (pv 1) (aa (pv 2) (aa (pv 3) aj)))) (aM _)) (au (aP (pv 3))) aQ)))
   (au (aP gQ))))),?_⟩
  refine ⟨_,rfl,x,d,rfl,rx,td,fun h1 H1 s1=>?_,fun h1 H1 da H' s1 th=>kx (.inl h1) H1 da H' s1 th⟩
  refine ⟨_,rfl,y,e,rfl,ry.same s1,te,fun h2 H2 s2=>?_,fun h2 H2 da H' s2 th=>kx (.inr h2) H2 da H' (s1.trans s2) th⟩
  obtain ⟨k1,k2⟩:=k h1 h2
  have t1:pJ d:=⟨td,h1⟩
  have t2:pJ e:=⟨te,h2⟩
  have S2:=s1.trans s2
  clear s1 s2
  refine ⟨_,rfl,x,d,rfl,rx.same S2,td,t1.sh,t1.de,by decide,fun l1 xs1 H3 s3 n1 hl1 rp1=>?_⟩
  refine ⟨_,rfl,y,e,rfl,ry.same (S2.trans s3),te,t2.sh,t2.de,by decide,fun l2 xs2 H4 s4 n2 hl2 rp2=>?_⟩
  have f1:=rp1.length
  have f2:=rp2.length
  have g1:=t1.few
  have g2:=t2.few
  refine ⟨l1,l2,xs1,xs2,rfl,rfl,s4 _ _ hl1,hl2,Nat.le_trans (show xs1.length+xs2.length≤16 by omega) (by decide),fun l3 hl3=>⟨_,rfl,?_⟩⟩
  have s5:=aC.new (o:=.lst (xs1++xs2)) hl3
  have S5:=((S2.trans s3).trans s4).trans s5
  refine ⟨l3,o,a,nm,fs,_,gG d++gG e,rfl,bM.of ak,ii (rp1.same (s4.trans s5)) (rp2.same s5),fun z hz=>?_,by rw [List.length_append];omega,ka.same S5,fl,fo,fun q ys tss H6 st hq py s6=>?_⟩
  ·rcases List.mem_append.mp hz with hz|hz
   ·exact wF td t1.sh t1.de z hz
   ·exact wF te t2.sh t2.de z hz
  have S6:=S5.trans s6
  have lst:=wJ (nm:=nm) t1 t2 st
  have yl:=Paired.length py
  obtain ⟨fd',rd',rfl⟩:=t1.form
  obtain ⟨fe',re',rfl⟩:=t2.form
  have rx6:=rx.same S6
  have ry6:=ry.same S6
  cases rx6 with
  |@tup qx xsx _ sqx rsx=>
  cases ry6 with
  |@tup qy xsy _ sqy rsy=>
  refine ⟨q,rfl,⟨_,bM.of hq⟩,jb (K:=K) (a:=q) (xs:=ys) (fun i σ' H'=>(∃ u,σ'=[some (.ref qx),some (.ref qy),some (.ref o),u])/\aC H6 H'/\∀ c∈(mH tss).take i,eV nm fs (.tuple (.str fd'::rd')) (.tuple (.str fe'::re')) c=false) ⟨⟨none,rfl⟩,aC.refl _,by simp⟩ (fun i U H' _ z=>bM.of (z.2.1 _ _ hq)) ?_ ?_⟩
  ·rintro i z σ' H7 hi ⟨⟨u,rfl⟩,s7,no⟩
   obtain ⟨c,hc,p,rfl,hp⟩:=cC py hi
   have mc:=List.mem_of_getElem? hc
   have bc:=sO st (kJ.mp mc)
   have ka7:=ka.same (S6.trans s7)
   dsimp only [bK,List.set]
   refine ⟨_,rfl,_,rfl,_,rfl,qx,o,a,p,fd',nm,rd',fs,c,rfl,⟨.tup (s7.tup sqx) (rsx.same s7),td,t1.sh,t1.de,ka7,fl,s7 _ _ hp,gP bc⟩,fun H8 s8=>?_⟩
   have s78:=s7.trans s8
   refine ⟨_,rfl,_,rfl,_,rfl,qy,o,a,p,fe',nm,re',fs,c,rfl,⟨.tup (s78.tup sqy) (rsy.same s78),te,t2.sh,t2.de,ka.same (S6.trans s78),fl,s78 _ _ hp,gP bc⟩,fun H9 s9=>?_⟩
   have s79:=s78.trans s9
   refine ⟨rfl,_,rfl,fH (fun h=>?_) (fun h=>?_)⟩
   ·have pc:eV nm fs (.tuple (.str fd'::rd')) (.tuple (.str fe'::re')) c=true:=by
     unfold eV eQ
     simpa using h
    have ef:(mH tss).find? (eV nm fs (.tuple (.str fd'::rd')) (.tuple (.str fe'::re')))=some c:=by
     refine List.find?_eq_some_iff_append.mpr ⟨pc,(mH tss).take i,(mH tss).drop (i+1),?_,fun b hb=>by rw [no b hb];rfl⟩
     have il:=(List.getElem?_eq_some_iff.mp hc)
     obtain ⟨il,ec⟩:=il
     rw [← ec]
     simp
    rw [ef] at lst
    exact ⟨_,rfl,k2 c p H9 lst (s79 _ _ hp) (S6.trans s79)⟩
   ·refine ⟨⟨_,rfl⟩,s79,fun c' hc'=>?_⟩
    rw [List.take_add_one,hc] at hc'
    rcases List.mem_append.mp hc' with z|z
    ·exact no _ z
    ·obtain rfl:c'=c:=by simpa using z
     unfold eV eQ
     simpa using h
  ·rintro σ' H7 ⟨⟨u,rfl⟩,s7,no⟩
   rw [yl,List.take_length] at no
   have ef:(mH tss).find? (eV nm fs (.tuple (.str fd'::rd')) (.tuple (.str fe'::re')))=none:=List.find?_eq_none.mpr fun c hc=>by rw [no c hc];simp
   rw [ef] at lst
   exact k1 H7 lst (S6.trans s7)
abbrev Jl:List Str:=["_law_one","_law_other","_law_title","_law_fields_here","_law_row"]
def K9 (K:Frag):Sp:=fun vs H Q _=>∃ (x y:V) (a b:Addr) (d e:PyData) (nm:Str) (xs:List V) (fs:List dN) (zs:List Int),vs=[x,y,.str nm,.ref a,.ref b]/\Rep K H x d/\Rep K H y e/\pJ d/\pJ e/\H a=some (.tup xs)/\Paired (cZ H) xs fs/\fs.length≤4/\H b=some (.tup (zs.map V.int))/\zs.length=fs.length/\∀ H',aC H H'->Q (.bl (eV nm fs d e zs)) H'
theorem Pj:aR Jl Jl (aA (top 55)):=⟨rfl,rfl,rfl,by decide +kernel,rfl,by decide +kernel,by decide +kernel⟩
theorem Jx (F:fX K "_law_parts_them" "_law_parts_them" (top 55) f fd) (T:Txt K mg) (DL:cF K mg "_law_passes" (top 50) Fl fL fdL):aN P w K mg base bL 6 f fd Jl (K9 K):=by
 have GL:aN P w K mg base bL 5 fL fdL Fl (Br K 5):=Il DL T 5
 refine F.ok Pj (fun vs H Q E h=>?_) (fun cdv A outer s H vs Q E hr h=>?_)
 ·obtain ⟨x,y,a,b,d,e,nm,xs,fs,zs,rfl,_⟩:=h
  rfl
 ·obtain ⟨x,y,a,b,d,e,nm,xs,fs,zs,rfl,rx,ry,td,te,ha,pf,fl,hb,zl,k⟩:=h
  refine ⟨_,(au (aP (bZ jU (aB GL hr rfl DL.mg DL.F.kp DL.b .nil aL (aa (pv 0) (aa (pv 2) (aa (pv 3) (aa (pv 4) aj))))) (aB GL hr rfl DL.mg DL.F.kp DL.b .nil aL (aa (pv 1) (aa (pv 2) (aa (pv 3) (aa (pv 4) aj))))) (aM _)))),?_⟩
  obtain ⟨f1,r1,rfl⟩:=td.form
  obtain ⟨f2,r2,rfl⟩:=te.form
  have ry0:=ry
  cases rx with
  |@tup qx _ _ sx tx=>
  cases ry with
  |@tup qy _ _ sy ty=>
  refine ⟨_,rfl,_,rfl,_,rfl,_,rfl,qx,a,b,f1,nm,r1,xs,fs,zs,rfl,⟨.tup sx tx,td.td,td.sh,td.de,ha,pf,fl,hb,zl⟩,fun H1 s1=>?_⟩
  refine ⟨_,rfl,_,rfl,_,rfl,_,rfl,qy,a,b,f2,nm,r2,xs,fs,zs,rfl,⟨ry0.same s1,te.td,te.sh,te.de,s1 _ _ ha,cG pf s1.tkT,fl,s1 _ _ hb,zl⟩,fun H2 s2=>⟨rfl,?_⟩⟩
  have:=k H2 (s1.trans s2)
  have e:decide (V.bl (bD nm fs zs 5 f1 r1)=V.bl (bD nm fs zs 5 f2 r2))=(bD nm fs zs 5 f1 r1 == bD nm fs zs 5 f2 r2):=by
   cases bD nm fs zs 5 f1 r1 <;> cases bD nm fs zs 5 f2 r2 <;> rfl
  unfold eV eQ at this
  rw [e]
  exact this
theorem jH:fu (qY P w) X (fun _ _ _=>False):=fun Z U H s e s' I h=>by
 obtain ⟨_,_,_,_,_,_,_,_,_,_,q⟩:=h
 exact q.elim
theorem cP.but (h:cP C H o n a fs) (D:Dr H p dc) (b:cD p H H'):cP C H' o n a fs:=by
 obtain ⟨⟨dx,ho⟩,xs,ha,pf⟩:=h
 exact ⟨⟨dx,b _ _ ho (D.ne ho (by intro _ z;cases z))⟩,xs,b _ _ ha (D.ne ha (by intro _ z;cases z)),cG pf fun q ys e=>b _ _ e (D.ne e (by intro _ z;cases z))⟩
theorem sG:∀ {zs:List Int} {fs:List dN},zg zs fs->dD fs zs=none
 |_,_,.nil=>rfl
 | _,_,.cons h t=>by
   unfold dD
   rw [if_pos h,sG t]
   rfl
theorem Ac:∀ {c z:List Int},c.length=z.length->(c=z∨lx c z=true)->xJ c z=true
 |[],[],_,_=>rfl
 | a::as,b::bs,hl,h=>by
   unfold xJ
   by_cases e:a=b
   ·rw [if_pos e]
    refine Ac (by simpa using hl) ?_
    rcases h with h|h
    ·injection h with _ h;exact .inl h
    ·refine .inr ?_
     simp only [lx,e,Int.lt_irrefl,decide_false,Bool.false_or,decide_true,Bool.true_and] at h
     exact h
   ·rw [if_neg e,decide_eq_true_eq]
    rcases h with h|h
    ·injection h with h _;exact absurd h e
    ·simp only [lx,Bool.or_eq_true,Bool.and_eq_true,decide_eq_true_eq] at h
     rcases h with h|⟨h,_⟩
     ·omega
     ·exact absurd h e
 |[],_::_,hl,_=>by simp at hl
 |_::_,[],hl,_=>by simp at hl
theorem uX (nm:Str) (fs:List dN) (d:PyData) (zs:List Int):eV nm fs d d zs=false:=by
 unfold eV
 cases eQ nm fs zs d <;> rfl
theorem pI (t:Tr 3 d):pJ d:=by
 have de:bO d≤3:=Nat.le_trans (yg t.td t.sh) t.dp
 have pa:=xO t.sh de
 refine ⟨t.td,?_⟩
 unfold cU
 rw [t.sh,decide_eq_true (show bO d≤5 by omega),decide_eq_true (show cM d≤15 by omega)]
 rfl
def yo (H:Hp) (v:V):Option (List Int)->Prop
 |none=>v=.non
 |some c=>∃ p,v=.ref p/\H p=some (.tup (c.map V.int))
theorem yo.tk (h:yo H v o) (k:TK H H'):yo H' v o:=by
 cases o with
 |none=>exact h
 |some c=>obtain ⟨p,e,z⟩:=h;exact ⟨p,e,k _ _ z⟩
def Eh:Option (List Int)->PyData
 |none=>.none
 |some c=>.tuple (c.map .int)
theorem mY:∀ c:List Int,bj K H (c.map V.int) (c.map PyData.int)
 |[]=>.nil
 |_::r=>.cons (.int _) (mY r)
theorem yo.rep (h:yo H v o):Rep K H v (Eh o):=by
 cases o with
 |none=>cases (show v=.non from h);exact .non
 |some c=>obtain ⟨p,rfl,z⟩:=h;exact .tup (bF.of z) (mY c)
theorem Bf:∀ o,bI (Eh o)≤1/\dU (Eh o) (Eh o)=true:=by
 intro o
 cases o with
 |none=>exact ⟨by simp [Eh,bI],rfl⟩
 | some c=>
   have:∀ c:List Int,bQ (c.map PyData.int)=0/\cY (c.map PyData.int) (c.map PyData.int)=true:=by
    intro c
    induction c with
    |nil=>exact ⟨rfl,rfl⟩
    | cons a t ih=>
      rw [List.map_cons]
      refine ⟨by simp only [bQ,bI,ih.1];omega,by simp [cY,dU,ih.2]⟩
   have:=this c
   exact ⟨by simp only [Eh,bI,this.1];omega,by simp only [Eh,dU,this.2]⟩
abbrev Pz:List Str:=["_law_script","_law_d","_law_title","_law_fields_here","_law_names","_law_one","_law_other","_law_sort","_law_found","_law_step","_law_values","_law_third"]
theorem gY:aR Pz ["_law_script"] (aA (top 56)):=⟨rfl,rfl,rfl,by decide +kernel,rfl,by decide +kernel,by decide +kernel⟩
def xQ (K:PySem.W.Frag):Sp:=fun vs H Q _=>∃ (a:Addr) (ns:List Int),vs=[.ref a]/\bM K H a (ns.map V.int)/\ns.length≤63/\∀ H',Q (.bl true) H'
theorem Az {f fB fP fS fKo fNo fTr fVw fPt fNv fPd fHo fKI C cT cV:Addr} {fd fdB fdP fdS fdKo fdNo fdTr fdVw fdPt fdNv fdPd fdHo fdKI:FuncData} (F:fX K "law" "law" (top 56) f fd) (T:Txt K mg) (KC:KCls K mg C)
 (DB:cF K mg "_law_begin" (top 37) ["_law_script"] fB fdB) (DP:cF K mg "_law_pick" (top 38) ["_law_d","_law_many"] fP fdP) (DS:cF K mg "_law_same" (top 40) ["_law_found","_law_due"] fS fdS)
 (DKo:cF K mg "_law_kind_of" (top 51) ["_law_d"] fKo fdKo) (GKo:aN P w K mg base bL 6 fKo fdKo ["_law_d"] Hm) (DNo:cF K mg "_law_names_of" (top 52) ["_law_d","_law_fields_here"] fNo fdNo) (GNo:aN P w K mg base bL 4 fNo fdNo ["_law_d","_law_fields_here"] JP)
 (DTr:cF K mg "_law_tree" (top 49) ["_law_d","_law_deep","_law_names","_law_kinds"] fTr fdTr) (GTr:aN P w K mg base bL 7 fTr fdTr ["_law_d","_law_deep","_law_names","_law_kinds"] (uL K 3))
 (DVw:cF K mg "_law_values_word" (top 46) ["_law_fields_here","_law_values"] fVw fdVw) (GVw:aN P w K mg base bL 1 fVw fdVw ["_law_fields_here","_law_values"] (J4 K)) (DPt:cF K mg "_law_parts_them" (top 55) Jl fPt fdPt) (GPt:aN P w K mg base bL 6 fPt fdPt Jl (K9 K))
 (DNv:cF K mg "_law_near_values" (top 53) Lg fNv fdNv) (GNv:aN P w K mg base bL 8 fNv fdNv Lg (Al K))
 (DPd:cF K mg "parted" (top 33) ["one","other","kind"] fPd fdPd) (GPd:aN P w K mg base (qY P w) 12 fPd fdPd ["one","other","kind"] (Bc K C cT)) (DHo:cF K mg "holds" (top 30) ["test","kind","values"] fHo fdHo) (GHo:aN P w K mg base (qY P w) 12 fHo fdHo ["test","kind","values"] (Hn K C cT cV))
 (MkK:Mk K C fKI) (GKI:aN P w K mg base bL 4 fKI fdKI ["self","name","fields"] (x_ C)) (bKI:Binds K fdKI ["self","name","fields"] []) :
 aN P w K mg base bL 13 f fd ["_law_script"] (xQ K):=by
 have GB:aN P w K mg base bL 1 fB fdB ["_law_script"] (tO K):=wC DB.F T
 have GP:aN P w K mg base bL 1 fP fdP ["_law_d","_law_many"] dH:=di DP.F T
 have GS:aN P w K mg base bL 5 fS fdS ["_law_found","_law_due"] (spS K 5):=zc DS T 5
 refine F.ok gY (fun vs H Q E h=>?_) (fun cdv A outer s H vs Q E hr h=>?_)
 ·obtain ⟨a,ns,rfl,_⟩:=h
  rfl
 ·obtain ⟨sa,ns,rfl,hS,hlen,k⟩:=h
  have hr1:bH 1 _:=hr.mono (by decide)
  have hr4:bH 4 _:=hr.mono (by decide)
  have hr5:bH 5 _:=hr.mono (by decide)
  have hr6:bH 6 _:=hr.mono (by decide)
  have hr7:bH 7 _:=hr.mono (by decide)
  have hr8:bH 8 _:=hr.mono (by decide)
  have hr12:bH 12 _:=hr.mono (by decide)
  refine ⟨_,(ao (b7 (i:=1) gY.nd rfl (by first|exact Or.inl rfl|exact Or.inr rfl) (aB GB hr1 rfl DB.mg DB.F.kp DB.b .nil aL (aa (pv 0) aj)))
   (ao (xx (aB GKo hr6 rfl DKo.mg DKo.F.kp DKo.b .nil aL (aa (pv 1) aj)) (gW rfl (bw (aV (i:=2) gY.nd rfl (by first|exact Or.inl rfl|exact Or.inr rfl)) (bw (aV (i:=3) gY.nd rfl (by first|exact Or.inl rfl|exact Or.inr rfl)) dX))))
   (ao (b7 (i:=4) gY.nd rfl (by first|exact Or.inl rfl|exact Or.inr rfl) (aB GNo hr4 rfl DNo.mg DNo.F.kp DNo.b .nil aL (aa (pv 1) (aa (pv 3) aj))))
   (ao (b7 (i:=5) gY.nd rfl (by first|exact Or.inl rfl|exact Or.inr rfl) (aB GTr hr7 rfl DTr.mg DTr.F.kp DTr.b .nil aL (aa (pv 1) (aa (a_ cI aq (aB GP hr1 rfl DP.mg DP.F.kp DP.b .nil aL (aa (pv 1) (aa aq aj)))) (aa (pv 4) (aa (bW (aa (pv 2) (aa (aX (r:=vG K) cR (pv 4) (lY j5 aq) (fun _ _=>rfl)) aj))) aj))))))
   (ao (b7 (i:=6) gY.nd rfl (by first|exact Or.inl rfl|exact Or.inr rfl) (aB GTr hr7 rfl DTr.mg DTr.F.kp DTr.b .nil aL (aa (pv 1) (aa (a_ cI aq (aB GP hr1 rfl DP.mg DP.F.kp DP.b .nil aL (aa (pv 1) (aa aq aj)))) (aa (pv 4) (aa (bW (aa (pv 2) (aa (aX (r:=vG K) cR (pv 4) (lY j5 aq) (fun _ _=>rfl)) aj))) aj))))))
   (ao (b7 (i:=7) gY.nd rfl (by first|exact Or.inl rfl|exact Or.inr rfl) (z6 (E:=E0) MkK GKI hr5 rfl KC.mg bKI .nil aL (aa (pv 2) (aa (pv 3) aj))))
   (ao (bh (gU (dI (aB GS hr5 rfl DS.mg DS.F.kp DS.b .nil aL (aa (aB (E:=fun _ _ _=>False) GPd hr12 rfl DPd.mg DPd.F.kp DPd.b .nil jH (aa (pv 5) (aa (pv 5) (aa (pv 7) aj)))) (aa gQ aj))))) (au fD) aQ)
   (ao (b7 (i:=8) gY.nd rfl (by first|exact Or.inl rfl|exact Or.inr rfl) (aB (E:=fun _ _ _=>False) GPd hr12 rfl DPd.mg DPd.F.kp DPd.b .nil jH (aa (pv 5) (aa (pv 6) (aa (pv 7) aj)))))
   (ao (bh (aK zu (pv 8) gQ (aM _)) (au (bh (PW.pt (m7 (aK jU (aB GVw hr1 rfl DVw.mg DVw.F.kp DVw.b .nil aL (aa (pv 3) (aa (pv 8) aj))) aO (aM _)) (jD (gU (dI (aB GPt hr6 rfl DPt.mg DPt.F.kp DPt.b .nil aL (aa (pv 5) (aa (pv 6) (aa (pv 2) (aa (pv 3) (aa (pv 8) aj))))))))))) (au fD) aQ)) aQ)
   (ao (d9 PassesOwn.never rfl (dC rfl T.range (aa aq aj)) (aV (i:=9) gY.nd rfl (by first|exact Or.inl rfl|exact Or.inr rfl))
   (ao (b7 (i:=10) gY.nd rfl (by first|exact Or.inl rfl|exact Or.inr rfl) (aB GNv hr8 rfl DNv.mg DNv.F.kp DNv.b .nil aL (aa (pv 1) (aa (aX (r:=vG K) cR (bW (aa (pv 5) (aa (pv 6) aj))) (a_ eG (pv 9) aq) (fun _ _=>rfl)) (aa (pv 3) aj)))))
   (au (bh (dI (aB GPt hr6 rfl DPt.mg DPt.F.kp DPt.b .nil aL (aa (pv 5) (aa (pv 6) (aa (pv 2) (aa (pv 3) (aa (pv 10) aj))))))) (au (bh (PW.pt (m7 (aK lL (pv 8) gQ (aM _)) (jD (gU (aK (Bv hr.units) (pv 8) (pv 10) (aM _)))))) (au fD) aQ)) aQ))))
   (ao (b7 (i:=11) gY.nd rfl (by first|exact Or.inl rfl|exact Or.inr rfl) (aB GTr hr7 rfl DTr.mg DTr.F.kp DTr.b .nil aL (aa (pv 1) (aa aq (aa (pv 4) (aa (bW (aa (pv 2) (aa (aX (r:=vG K) cR (pv 4) (lY j5 aq) (fun _ _=>rfl)) aj))) aj))))))
   (ao (bh (aK lL (pv 8) gQ (aM _)) (au (aP (bZ (xj hr.units) (aB (E:=fun _ _ _=>False) GPd hr12 rfl DPd.mg DPd.F.kp DPd.b .nil jH (aa (pv 5) (aa (pv 11) (aa (pv 7) aj)))) (aB (E:=fun _ _ _=>False) GPd hr12 rfl DPd.mg DPd.F.kp DPd.b .nil jH (aa (pv 6) (aa (pv 11) (aa (pv 7) aj)))) (aM _)))) aQ)
   (au (aP (bZ jU (aB (E:=fun _ _ _=>False) GHo hr12 rfl DHo.mg DHo.F.kp DHo.b .nil jH (aa (pv 5) (aa (pv 7) (aa (pv 8) aj)))) (aB (E:=fun _ _ _=>False) GHo hr12 rfl DHo.mg DHo.F.kp DHo.b .nil jH (aa (pv 6) (aa (pv 7) (aa (pv 8) aj)))) (aM _)))))))))))))))),?_⟩
  refine ⟨_,rfl,sa,ns,rfl,hS,hlen,fun p dc H0 D0 s0 _=>?_⟩
  dsimp only [bK,List.set]
  refine ⟨_,rfl,p,dc,rfl,D0,fun t a nm xs fs H1 ht hnm ha pf fl fo nd D1 b1=>?_⟩
  refine ⟨t,_,rfl,bF.of ht,rfl,_,_,rfl,_,_,rfl,rfl,?_⟩
  dsimp only [bK,List.set]
  refine ⟨_,rfl,_,rfl,p,dc,a,xs,fs,rfl,D1,ha,pf,fl,fo,fun ln ys H2 hln yne yl ynm D2 b2=>?_⟩
  have ha2:H2 a=some (.tup xs):=b2 _ _ ha (D1.ne ha (by intro _ z;cases z))
  have pf2:Paired (cZ H2) xs fs:=cG pf (TK.but D1 b2)
  clear ht ha pf D1 b1 b2 D0 s0
  have lastV:lG (ys.map V.str) (-1)=some (.str (ys.getLast yne)):=by
   have hl:0<ys.length:=List.length_pos_iff.mpr yne
   unfold lG BJ
   rw [if_neg (by decide),if_pos (by rw [List.length_map];omega)]
   have e:(-1+((ys.map V.str).length:Int)).toNat=ys.length-1:=by rw [List.length_map];omega
   show (ys.map V.str)[(-1+((ys.map V.str).length:Int)).toNat]?=_
   rw [e,List.getElem?_map,List.getElem?_eq_getElem (by omega),List.getLast_eq_getElem]
   rfl
  have tst:∀ {H':Hp} {m:Int} (R:V->Hp->Prop),m≤3->Dr H' p dc->H' ln=some (.lst (ys.map V.str))->(∀ x d H'',Rep K H'' x d->Tr 3 d->Dr H'' p dc->cD p H' H''->R x H'')->∀ (l1:Addr),H' l1=none->uL K 3 [.ref p,.int m,.ref ln,.ref l1] (upd H' l1 (.lst [.str nm,.str (ys.getLast yne)])) R E0:=fun R hm D' hn kk l1 hl1=>by
   refine ⟨p,dc,ln,l1,ys,[nm,ys.getLast yne],_,rfl,hm,D'.new hl1,bM.of (aC.new hl1 _ _ hn),bM.of ak,yne,by simp,by omega,by simp,ynm,?_,fun x d H'' rx tx D'' b''=>kk x d H'' rx tx D'' ((cD.new hl1).trans b'')⟩
   intro y hy
   simp at hy
   rcases hy with rfl|rfl
   ·exact hnm
   ·exact ynm _ (List.getLast_mem yne)
  dsimp only [bK,List.set]
  refine ⟨_,rfl,_,rfl,p,dc,_,rfl,D2,by decide,by decide,fun m1 H3 m10 m11 D3 b3=>⟨_,_,rfl,rfl,?_⟩⟩
  have hln3:H3 ln=some (.lst (ys.map V.str)):=b3 _ _ hln (D2.ne hln (by intro _ z;cases z))
  refine ⟨_,rfl,_,rfl,_,rfl,_,rfl,ln,_,_,_,rfl,rfl,bM.of hln3,lastV,(by show 2≤sizeLine;decide),fun l1 hl1=>tst _ (by omega) D3 hln3 (fun x1 d1 H4 rx1 tx1 D4 b4=>?_) l1 hl1⟩
  have b24:=b3.trans b4
  have hln4:H4 ln=some (.lst (ys.map V.str)):=b24 _ _ hln (D2.ne hln (by intro _ z;cases z))
  have ha4:H4 a=some (.tup xs):=b24 _ _ ha2 (D2.ne ha2 (by intro _ z;cases z))
  have pf4:Paired (cZ H4) xs fs:=cG pf2 (TK.but D2 b24)
  clear b3 b4 b24 hln3 D3 D2 hln ha2 pf2 hl1
  dsimp only [bK,List.set]
  refine ⟨_,rfl,_,rfl,p,dc,_,rfl,D4,by decide,by decide,fun m2 H5 m20 m21 D5 b5=>⟨_,_,rfl,rfl,?_⟩⟩
  have hln5:H5 ln=some (.lst (ys.map V.str)):=b5 _ _ hln4 (D4.ne hln4 (by intro _ z;cases z))
  refine ⟨_,rfl,_,rfl,_,rfl,_,rfl,ln,_,_,_,rfl,rfl,bM.of hln5,lastV,(by show 2≤sizeLine;decide),fun l2 hl2=>tst _ (by omega) D5 hln5 (fun x2 d2 H6 rx2 tx2 D6 b6=>?_) l2 hl2⟩
  have b46:=b5.trans b6
  have hln6:H6 ln=some (.lst (ys.map V.str)):=b46 _ _ hln4 (D4.ne hln4 (by intro _ z;cases z))
  have ha6:H6 a=some (.tup xs):=b46 _ _ ha4 (D4.ne ha4 (by intro _ z;cases z))
  have pf6:Paired (cZ H6) xs fs:=cG pf4 (TK.but D4 b46)
  have rx1:=D4.rep b46 rx1
  clear b5 b6 b46 hln5 D5 D4 hln4 ha4 pf4 hl2
  have T1:=pI tx1
  have T2:=pI tx2
  dsimp only [bK,List.set]
  refine ⟨_,rfl,_,rfl,fun o dx ho hdx ndx=>?_⟩
  have s7:aC H6 (upd (upd H6 dx (.own o)) o (.ins C dx [])):=fun b u e=>by
   rw [aF (aH e ho),aF (aH e hdx)];exact e
  refine ⟨o,dx,a,nm,xs,fs,rfl,ak,hnm,s7 _ _ ha6,cG pf6 s7.tkT,fl,fo,nd,fun H7 ka kp=>⟨rfl,?_⟩⟩
  have S7:aC H6 H7:=fun b u e=>kp b u (s7 _ _ e) (aH e ho)
  have rx1:=rx1.same S7
  have rx2:=rx2.same S7
  have hln7:=S7 _ _ hln6
  have D7:=D6.mono S7
  clear kp s7 S7 hln6 D6 ha6 pf6 ho hdx ndx
  dsimp only [bK,List.set]
  refine iW (fun σ' H'=>σ'=[some (.ref sa),some (.ref p),some (.str nm),some (.ref a),some (.ref ln),some x1,some x2,some (.ref o),none,none,none,none]/\aC H7 H') ?nx1 fun N hN=>?st1
  case st1=>
   refine ⟨_,rfl,_,rfl,_,rfl,x1,x1,o,a,d1,d1,nm,fs,rfl,rx1,rx1,T1.td,T1.td,ka,fl,fo,fun _ _=>⟨fun H8 _ s8=>?_,fun c p' H8 lt _ _=>?_⟩,fun hh=>?_⟩
   ·exact ⟨.non,.non,.none,rfl,.non,.non,by decide,by decide,fun H9 s9=>⟨true,rfl,b_ rfl (hN _ _ ⟨rfl,s8.trans s9⟩)⟩⟩
   ·have:=lt.2.1
    rw [uX] at this
    cases this
   ·rcases hh with h|h <;> rw [T1.ok] at h <;> cases h
  rintro σ' H8 ⟨rfl,s8⟩
  have rx1:=rx1.same s8
  have rx2:=rx2.same s8
  have ka:=ka.same s8
  have hln8:=s8 _ _ hln7
  have D8:=D7.mono s8
  clear s8 hln7 D7
  refine iW (fun σ' H'=>∃ (v:V) (fnd:Option (List Int)),σ'=[some (.ref sa),some (.ref p),some (.str nm),some (.ref a),some (.ref ln),some x1,some x2,some (.ref o),some v,none,none,none]/\aC H8 H'/\yo H' v fnd/\fY nm fs d1 d2 fnd) ?nx2 fun N hN=>?st2
  case st2=>
   refine ⟨_,rfl,_,rfl,_,rfl,x1,x2,o,a,d1,d2,nm,fs,rfl,rx1,rx2,T1.td,T2.td,ka,fl,fo,fun _ _=>⟨fun H9 lt s9=>hN _ _ ⟨.non,none,rfl,s9,rfl,lt⟩,fun c p' H9 lt hp s9=>hN _ _ ⟨.ref p',some c,rfl,s9,⟨p',rfl,hp⟩,lt⟩⟩,fun hh=>?_⟩
   rcases hh with h|h
   ·rw [T1.ok] at h;cases h
   ·rw [T2.ok] at h;cases h
  rintro σ' H9 ⟨v,fnd,rfl,s9,fa9,lst9⟩
  have rx1:=rx1.same s9
  have rx2:=rx2.same s9
  have ka:=ka.same s9
  have hln9:=s9 _ _ hln8
  have D9:=D8.mono s9
  clear s9 hln8 D8
  obtain ⟨xs9,ha9,pf9⟩:=ka.tp
  refine iW (fun σ' H'=>σ'=[some (.ref sa),some (.ref p),some (.str nm),some (.ref a),some (.ref ln),some x1,some x2,some (.ref o),some v,none,none,none]/\aC H9 H') ?nx3 fun N hN=>?st3
  case st3=>
   cases fnd with
   | none=>
     cases (show v=.non from fa9)
     exact ⟨_,rfl,rfl,_,rfl,b_ rfl (hN _ _ ⟨rfl,aC.refl _⟩)⟩
   | some c=>
     obtain ⟨b,rfl,hb⟩:=fa9
     have zl:=gP lst9.1
     refine ⟨_,rfl,rfl,_,rfl,cQ (by simp) ?_⟩
     refine ⟨_,rfl,_,rfl,a,b,xs9,fs,c,rfl,ha9,pf9,hb,by omega,by omega,rfl,_,rfl,b_ ?_ ?_⟩
     ·have:nD fs c = "":=by unfold nD;rw [sG lst9.1]
      rw [this]
      simp
     refine ⟨_,rfl,_,rfl,_,rfl,_,rfl,_,rfl,x1,x2,a,b,d1,d2,nm,xs9,fs,c,rfl,rx1,rx2,T1,T2,ha9,pf9,fl,hb,zl,fun H10 s10=>⟨_,rfl,?_⟩⟩
     rw [lst9.2.1]
     exact b_ rfl (hN _ _ ⟨rfl,s10⟩)
  rintro σ' H10 ⟨rfl,s10⟩
  have rx1:=rx1.same s10
  have rx2:=rx2.same s10
  have ka:=ka.same s10
  have fa10:=fa9.tk s10.tkT
  have hln10:=s10 _ _ hln9
  have D10:=D9.mono s10
  clear s10 hln9 D9 ha9 pf9 fa9
  refine iW (fun σ' H'=>(∃ u9 u10,σ'=[some (.ref sa),some (.ref p),some (.str nm),some (.ref a),some (.ref ln),some x1,some x2,some (.ref o),some v,u9,u10,none])/\Rep K H' x1 d1/\Rep K H' x2 d2/\cP C H' o nm a fs/\yo H' v fnd/\H' ln=some (.lst (ys.map V.str))/\Dr H' p dc) ?nx4 fun N hN=>?st4
  case st4=>
   refine ⟨24,rfl,by decide,by decide,iB (n:=24) (fun i σ' H'=>(∃ u9 u10,σ'=[some (.ref sa),some (.ref p),some (.str nm),some (.ref a),some (.ref ln),some x1,some x2,some (.ref o),some v,u9,u10,none])/\Rep K H' x1 d1/\Rep K H' x2 d2/\cP C H' o nm a fs/\yo H' v fnd/\H' ln=some (.lst (ys.map V.str))/\Dr H' p dc) ⟨⟨none,none,rfl⟩,rx1,rx2,ka,fa10,hln10,D10⟩ ?_ ?_⟩
   ·clear rx1 rx2 ka fa10 hln10 D10
    rintro i σ' H11 hi ⟨⟨u9,u10,rfl⟩,rx1,rx2,ka,fa11,hln11,D11⟩
    obtain ⟨xs11,ha11,pf11⟩:=ka.tp
    dsimp only [bK,List.set]
    refine ⟨_,rfl,_,rfl,_,rfl,(by show 2≤sizeLine;decide),fun l hl=>⟨_,rfl,?_⟩⟩
    have s12:=aC.new (o:=.lst [x1,x2]) hl
    have hl12:upd H11 l (.lst [x1,x2]) l=some (.lst [x1,x2]):=ak
    generalize upd H11 l (.lst [x1,x2])=H12 at s12 hl12 ⊢
    have D12:=D11.mono s12
    have pickT:∃ (q:Addr) (ds:List PyData),lG [x1,x2] ((0+(i:Int)) % 2)=some (.ref q)/\Rep K H12 (.ref q) (.tuple ds)/\TD (.tuple ds)/\bI (.tuple ds)≤7:=by
     have two:∀ {x:V} {d:PyData},Rep K H12 x d->Tr 3 d->∃ (q:Addr) (ds:List PyData),x=.ref q/\Rep K H12 (.ref q) (.tuple ds)/\TD (.tuple ds)/\bI (.tuple ds)≤7:=fun rx tx=>by
      obtain ⟨f',r',rfl⟩:=bT tx.td tx.sh
      cases rx with
      |@tup q _ _ s1 t1=>exact ⟨q,_,rfl,.tup s1 t1,tx.td,by have:=tx.dp;omega⟩
     by_cases e:(0+(i:Int)) % 2=0
     ·obtain ⟨q,ds,rfl,r⟩:=two (rx1.same s12) tx1
      exact ⟨q,ds,by rw [e];rfl,r⟩
     ·have e1:(0+(i:Int)) % 2=1:=by omega
      obtain ⟨q,ds,rfl,r⟩:=two (rx2.same s12) tx2
      exact ⟨q,ds,by rw [e1];rfl,r⟩
    obtain ⟨q,ds,eq,rq,tq,dq⟩:=pickT
    refine ⟨_,_,rfl,rfl,(by show (0:Int)<2;decide),l,_,_,_,rfl,rfl,bM.of hl12,eq,_,rfl,p,dc,q,a,ds,xs11,fs,rfl,D12,rq,tq,dq,s12 _ _ ha11,cG pf11 s12.tkT,fl,fo,fun b zs H13 hb zl bx D13 b13 hbn=>?_⟩
    have b1113:=s12.but.trans b13
    have rx1:=D11.rep b1113 rx1
    have rx2:=D11.rep b1113 rx2
    have ka:=ka.but D11 b1113
    have fa13:=fa11.tk (TK.but D11 b1113)
    have hln13:H13 ln=some (.lst (ys.map V.str)):=b1113 _ _ hln11 (D11.ne hln11 (by intro _ z;cases z))
    obtain ⟨xs13,ha13,pf13⟩:=ka.tp
    clear b1113 b13 hbn D12 D11 hln11 fa11 ha11 pf11 s12 rq eq hl12
    dsimp only [bK,List.set]
    refine ⟨_,rfl,_,rfl,_,rfl,_,rfl,_,rfl,x1,x2,a,b,d1,d2,nm,xs13,fs,zs,rfl,rx1,rx2,T1,T2,ha13,pf13,fl,hb,zl,fun H14 s14=>⟨_,rfl,?_⟩⟩
    have fin:∀ {H':Hp},aC H13 H'->(∃ u9 u10,[some (V.ref sa),some (.ref p),some (.str nm),some (.ref a),some (.ref ln),some x1,some x2,some (.ref o),some v,some (.int (0+(i:Int))),some (.ref b),none]=[some (.ref sa),some (.ref p),some (.str nm),some (.ref a),some (.ref ln),some x1,some x2,some (.ref o),some v,u9,u10,none])/\Rep K H' x1 d1/\Rep K H' x2 d2/\cP C H' o nm a fs/\yo H' v fnd/\H' ln=some (.lst (ys.map V.str))/\Dr H' p dc:=fun s'=>⟨⟨_,_,rfl⟩,rx1.same s',rx2.same s',ka.same s',fa13.tk s'.tkT,s' _ _ hln13,D13.mono s'⟩
    cases pz:eV nm fs d1 d2 zs with
    |false=>exact b_ rfl (fin s14)
    | true=>
      refine cQ rfl ?_
      cases fnd with
      | none=>
        have:=lst9 zs bx
        rw [pz] at this
        cases this
      | some c=>
        obtain ⟨b',rfl,hb'⟩:=id fa13
        have le:=Ac (by rw [gP lst9.1,zl]) (lst9.2.2 zs bx pz)
        refine ⟨_,rfl,rfl,_,rfl,b_ (by simp) ?_⟩
        refine ⟨_,rfl,_,rfl,b',b,c,zs,rfl,rfl,bF.of (s14 _ _ hb'),bF.of (s14 _ _ hb),by rw [gP lst9.1,zl],?_⟩
        rw [le]
        exact ⟨_,rfl,b_ rfl (fin s14)⟩
   ·rintro σ' H11 h
    exact hN _ _ h
  clear rx1 rx2 ka fa10 hln10 D10
  rintro σ' H11 ⟨⟨u9,u10,rfl⟩,rx1,rx2,ka,fa11,hln11,D11⟩
  try dsimp only [bK,List.set]
  refine ⟨_,rfl,_,rfl,_,rfl,_,rfl,_,rfl,ln,_,_,_,rfl,rfl,bM.of hln11,lastV,(by show 2≤sizeLine;decide),fun l3 hl3=>tst (m:=2) _ (by decide) D11 hln11 (fun x3 d3 H12 rx3 tx3 D12 b12=>?_) l3 hl3⟩
  have rx1:=D11.rep b12 rx1
  have rx2:=D11.rep b12 rx2
  have ka:=ka.but D11 b12
  have fa12:=fa11.tk (TK.but D11 b12)
  have T3:=pI tx3
  clear b12 D11 hln11 fa11 hl3 tst
  dsimp only [bK,List.set]
  cases fnd with
  | none=>
    cases (show v=.non from fa12)
    refine ⟨_,rfl,rfl,_,rfl,cQ rfl ?_⟩
    have alike:∀ zs,zg zs fs->eV nm fs d2 d3 zs=eV nm fs d1 d3 zs:=fun zs bx=>by
     have:=lst9 zs bx
     unfold eV at this ⊢
     have e:eQ nm fs zs d1=eQ nm fs zs d2:=by simpa using this
     rw [e]
    have conv:∀ {o':Option (List Int)},fY nm fs d1 d3 o'->fY nm fs d2 d3 o':=fun {o'} h=>by
     cases o' with
     |none=>exact fun zs bx=>by rw [alike zs bx];exact h zs bx
     |some c=>exact ⟨h.1,by rw [alike c h.1];exact h.2.1,fun zs bx pz=>h.2.2 zs bx (by rw [← alike zs bx];exact pz)⟩
    have no3:∀ {d:PyData},pJ d->(cU d=false∨cU d3=false)->False:=fun t hh=>by
     rcases hh with h|h
     ·rw [t.ok] at h;cases h
     ·rw [T3.ok] at h;cases h
    have second:∀ {v1:V} {o1:Option (List Int)} {H13:Hp},aC H12 H13->yo H13 v1 o1->fY nm fs d1 d3 o1->tX (Bc K C cT) [] (fun _ _ _=>False) (mq (lZ 6) (mq (lZ 11) (mq (lZ 7) Dd))) [some (.ref sa),some (.ref p),some (.str nm),some (.ref a),some (.ref ln),some x1,some x2,some (.ref o),some .non,u9,u10,some x3] H13 (fun y H14=>zB K v1 y H14 Q):=fun {v1 o1 H13} s13 f13 l13=>by
     have fin:∀ {v2:V} {o2:Option (List Int)} {H14:Hp},aC H13 H14->yo H14 v2 o2->fY nm fs d2 d3 o2->zB K v1 v2 H14 Q:=fun {v2 o2 H14} s14 f14 l14=>by
      have e:=v6 (conv l13) l14
      subst e
      have ok:=Bf o1
      refine ⟨_,_,(f13.tk s14.tkT).rep,f14.rep,Nat.le_trans ok.1 (by decide),?_⟩
      rw [ok.2]
      exact k _
     exact ⟨_,rfl,_,rfl,_,rfl,x2,x3,o,a,d2,d3,nm,fs,rfl,rx2.same s13,rx3.same s13,T2.td,T3.td,ka.same s13,fl,fo,fun _ _=>⟨fun H14 lt s14=>fin (o2:=none) s14 rfl lt,fun c p' H14 lt hp s14=>fin (o2:=some c) s14 ⟨p',rfl,hp⟩ lt⟩,fun hh=>(no3 T2 hh).elim⟩
    exact ⟨_,rfl,_,rfl,_,rfl,x1,x3,o,a,d1,d3,nm,fs,rfl,rx1,rx3,T1.td,T3.td,ka,fl,fo,fun _ _=>⟨fun H13 lt s13=>second (o1:=none) s13 rfl lt,fun c p' H13 lt hp s13=>second (o1:=some c) s13 ⟨p',rfl,hp⟩ lt⟩,fun hh=>(no3 T1 hh).elim⟩
  | some c=>
    obtain ⟨b,rfl,hb⟩:=fa12
    refine ⟨_,rfl,rfl,_,rfl,b_ (by simp) ?_⟩
    have bn:=sG lst9.1
    have zl:=gP lst9.1
    refine ⟨_,rfl,_,rfl,_,rfl,x1,o,a,b,d1,nm,fs,c,rfl,rx1,T1.td,ka,fl,hb,by omega,fun _ _ H13 s13=>?_,fun h=>(by rw [T1.ok] at h;cases h),fun _ i h=>(by rw [bn] at h;cases h)⟩
    refine ⟨_,rfl,_,rfl,_,rfl,x2,o,a,b,d2,nm,fs,c,rfl,rx2.same s13,T2.td,ka.same s13,fl,s13 _ _ hb,by omega,fun _ _ H14 s14=>⟨rfl,?_⟩,fun h=>(by rw [T2.ok] at h;cases h),fun _ i h=>(by rw [bn] at h;cases h)⟩
    have pc:=lst9.2.1
    unfold eV at pc
    have e:(!decide (V.bl (eQ nm fs c d1)=V.bl (eQ nm fs c d2)))=true:=by
     cases h1:eQ nm fs c d1 <;> cases h2:eQ nm fs c d2 <;> rw [h1,h2] at pc <;> first|rfl|cases pc
    rw [e]
    exact k _
def bz (K:Frag) (n:Str) (i:Nat) (f:Addr):Prop:=nsIn K mainGlobals n=some (some (.ref f))/\∃ fd,fX K n n (top i) f fd
def Ae (K:Frag) (C:Addr) (n q:Str) (st:Stmt) (f:Addr):Prop:=∃ fd,(findIn K (.ref C) n=some (some (.ref f))/\isFn K (.ref f)=true)/\fX K n q st f fd
theorem Qm {α:Type} {l:List α} (h:l.length=5):∃ a b c d e,l=[a,b,c,d,e]:=by
 match l,h with
 |[a,b,c,d,e],_=>exact ⟨a,b,c,d,e,rfl⟩
theorem bz.d1 (H:bz K n i f) (X:K.In h) (G:h.Ns mainGlobals mg) (x0:Str) (b:∀ (kV doc pm:Value) (an:Option Addr) (cdv ct u0:Value),bindArgs (fnOf n n (cj (top i)) (bN (top i)) (aA (top i)) .none kV doc pm an cdv ct) ⟨[u0],[]⟩=pure ([x0].zip [u0])):∃ fd,cF K mg n (top i) [x0] f fd:=by
 obtain ⟨a,fd,F⟩:=H
 exact ⟨fd,F,mg_of X G a,F.binds fun _ _ _ _ _ _ us hl=>by obtain ⟨_,rfl⟩:=Fp hl;exact b _ _ _ _ _ _ _⟩
theorem bz.d2 (H:bz K n i f) (X:K.In h) (G:h.Ns mainGlobals mg) (x0 x1:Str) (b:∀ (kV doc pm:Value) (an:Option Addr) (cdv ct u0 u1:Value),bindArgs (fnOf n n (cj (top i)) (bN (top i)) (aA (top i)) .none kV doc pm an cdv ct) ⟨[u0,u1],[]⟩=pure ([x0,x1].zip [u0,u1])):∃ fd,cF K mg n (top i) [x0,x1] f fd:=by
 obtain ⟨a,fd,F⟩:=H
 exact ⟨fd,F,mg_of X G a,F.binds fun _ _ _ _ _ _ us hl=>by obtain ⟨_,_,rfl⟩:=vL hl;exact b _ _ _ _ _ _ _ _⟩
theorem bz.d3 (H:bz K n i f) (X:K.In h) (G:h.Ns mainGlobals mg) (x0 x1 x2:Str) (b:∀ (kV doc pm:Value) (an:Option Addr) (cdv ct u0 u1 u2:Value),bindArgs (fnOf n n (cj (top i)) (bN (top i)) (aA (top i)) .none kV doc pm an cdv ct) ⟨[u0,u1,u2],[]⟩=pure ([x0,x1,x2].zip [u0,u1,u2])):∃ fd,cF K mg n (top i) [x0,x1,x2] f fd:=by
 obtain ⟨a,fd,F⟩:=H
 exact ⟨fd,F,mg_of X G a,F.binds fun _ _ _ _ _ _ us hl=>by obtain ⟨_,_,_,rfl⟩:=El hl;exact b _ _ _ _ _ _ _ _ _⟩
theorem bz.d4 (H:bz K n i f) (X:K.In h) (G:h.Ns mainGlobals mg) (x0 x1 x2 x3:Str) (b:∀ (kV doc pm:Value) (an:Option Addr) (cdv ct u0 u1 u2 u3:Value),bindArgs (fnOf n n (cj (top i)) (bN (top i)) (aA (top i)) .none kV doc pm an cdv ct) ⟨[u0,u1,u2,u3],[]⟩=pure ([x0,x1,x2,x3].zip [u0,u1,u2,u3])):∃ fd,cF K mg n (top i) [x0,x1,x2,x3] f fd:=by
 obtain ⟨a,fd,F⟩:=H
 exact ⟨fd,F,mg_of X G a,F.binds fun _ _ _ _ _ _ us hl=>by obtain ⟨_,_,_,_,rfl⟩:=P0 hl;exact b _ _ _ _ _ _ _ _ _ _⟩
theorem bz.d5 {K:Frag} {h:Heap} (H:bz K n i f) (X:K.In h) (G:h.Ns mainGlobals mg) (x0 x1 x2 x3 x4:Str) (b:∀ (kV doc pm:Value) (an:Option Addr) (cdv ct u0 u1 u2 u3 u4:Value),bindArgs (fnOf n n (cj (top i)) (bN (top i)) (aA (top i)) .none kV doc pm an cdv ct) ⟨[u0,u1,u2,u3,u4],[]⟩=pure ([x0,x1,x2,x3,x4].zip [u0,u1,u2,u3,u4])):∃ fd,cF K mg n (top i) [x0,x1,x2,x3,x4] f fd:=by
 obtain ⟨a,fd,F⟩:=H
 exact ⟨fd,F,mg_of X G a,F.binds fun _ _ _ _ _ _ us hl=>by obtain ⟨_,_,_,_,_,rfl⟩:=Qm hl;exact b _ _ _ _ _ _ _ _ _ _ _⟩
def zO (B:String):List Value:=[.type B,.type "Exception",.type "BaseException",.type "object"]
theorem zZ (self:Value):refuseLoop self "__setattr__" (zO "ValueError")=pure ():=by kernel_rfl
def Gf (K:Frag) (C:Addr) (rs:List Addr) (bm:List Value):Bool:=match clsIn K C with
 |some cd=>cd.hasDict && (cd.mro == rs.map Value.ref++bm)
 |none=>false
theorem tG (h1:i_ K C B n=true) (h2:findIn K (.ref C) "__setattr__" = some (some (.builtin "object.__setattr__"))) (h3:Gf K C rs (zO B)=true) (h4:keepIn K (.ref C)=true) (h5:typeIn K (.ref C)=some (.type "type"))
 (hr:∀ self,refuseLoop self "__setattr__" (zO B)=pure ()):kh K C B n:=by
 refine ⟨h1,h2,?_,h4,h5⟩
 unfold Gf at h3
 split at h3
 ·rename_i cd hc
  rw [Bool.and_eq_true,beq_iff_eq] at h3
  refine ⟨cd,rs,zO B,hc,h3.1,h3.2,by simp [zO],hr,?_⟩
  unfold zO
  simp
 ·cases h3
theorem Bq {l:PySem.W.OpenLaw} {w:World} {K:PySem.W.Frag} {h:Heap} {mg:Str->Option Value} {fa fLa fB fP fO fW fWs fBd fF fS fVl fVw fNu fLe fTr fLp fKo fNo fNv fLy fPt fNm fNn fNf fIw fNb fLf fCp fIt fNt fLw fHo fPs fPl fPd fCn fTn tW tS qK fKI TdK d0K fPo fNe qS qV fSE TS qT fiT TdT fBq:Addr} (X:K.In h) (G:h.Ns mainGlobals mg) (hfa:mg "law" = some (.ref fa))
 {odKI anKI odTK odSE anSE odTS odiT aniT odTT odBq anBq:Option Addr} {slKI slTK slSE slTS sliT slTT slBq:Array (Option Value)} {t_MOST_LETTERS t_MOST_FIELDS t_LIMIT t_MOST_PARTS t_MOST_DEEP nTK nTS nTT:Nat} {ocKI kVKI dcKI pmKI cdKI ctKI ocTK ocSE kVSE dcSE pmSE cdSE ctSE dS1 dS2 ocTS ociT kViT dciT pmiT cdiT ctiT diT ocTT ocBq kVBq dcBq pmBq cdBq ctBq:Value}
 (hLa:bz K "law" 56 fLa)
 (hB:bz K "_law_begin" 37 fB)
 (hP:bz K "_law_pick" 38 fP)
 (hO:bz K "_law_of" 39 fO)
 (hW:bz K "_law_word" 41 fW)
 (hWs:bz K "_law_words" 42 fWs)
 (hBd:bz K "_law_bound" 43 fBd)
 (hF:bz K "_law_fields" 44 fF)
 (hS:bz K "_law_same" 40 fS)
 (hVl:bz K "_law_value" 45 fVl)
 (hVw:bz K "_law_values_word" 46 fVw)
 (hNu:bz K "_law_number" 47 fNu)
 (hLe:bz K "_law_leaf" 48 fLe)
 (hTr:bz K "_law_tree" 49 fTr)
 (hLp:bz K "_law_passes" 50 fLp)
 (hKo:bz K "_law_kind_of" 51 fKo)
 (hNo:bz K "_law_names_of" 52 fNo)
 (hNv:bz K "_law_near_values" 53 fNv)
 (hLy:bz K "_law_leaves_any" 54 fLy)
 (hPt:bz K "_law_parts_them" 55 fPt)
 (hNm:bz K "is_name" 13 fNm)
 (hNn:bz K "need_name" 14 fNn)
 (hNf:bz K "need_fields" 15 fNf)
 (hIw:bz K "is_word" 23 fIw)
 (hNb:bz K "is_number" 24 fNb)
 (hLf:bz K "is_leaf" 25 fLf)
 (hCp:bz K "count_parts" 26 fCp)
 (hIt:bz K "is_test" 27 fIt)
 (hNt:bz K "need_test" 28 fNt)
 (hLw:bz K "leaves_within" 29 fLw)
 (hHo:bz K "holds" 30 fHo)
 (hPs:bz K "passes" 31 fPs)
 (hPl:bz K "passes_leaf" 32 fPl)
 (hPd:bz K "parted" 33 fPd)
 (hCn:bz K "corners" 34 fCn)
 (hTn:bz K "turns" 35 fTn)
 (z_len:PySem.W.nsIn K mainGlobals "len" = some none)
 (z_range:PySem.W.nsIn K mainGlobals "range" = some none)
 (z_list:PySem.W.nsIn K mainGlobals "list" = some none)
 (z_tuple:PySem.W.nsIn K mainGlobals "tuple" = some none)
 (z_str:PySem.W.nsIn K mainGlobals "str" = some none)
 (z_bool:PySem.W.nsIn K mainGlobals "bool" = some none)
 (z_int:PySem.W.nsIn K mainGlobals "int" = some none)
 (z_min:PySem.W.nsIn K mainGlobals "min" = some none)
 (z_repr:PySem.W.nsIn K mainGlobals "repr" = some none)
 (z_all:PySem.W.nsIn K mainGlobals "all" = some none)
 (z_any:PySem.W.nsIn K mainGlobals "any" = some none)
 (z_isinstance:PySem.W.nsIn K mainGlobals "isinstance" = some none)
 (z_sum:PySem.W.nsIn K mainGlobals "sum" = some none)
 (z_max:PySem.W.nsIn K mainGlobals "max" = some none)
 (z_ValueError:PySem.W.nsIn K mainGlobals "ValueError" = some none)
 (z_enumerate:PySem.W.nsIn K mainGlobals "enumerate" = some none)
 (z_zip:PySem.W.nsIn K mainGlobals "zip" = some none)
 (z_sorted:PySem.W.nsIn K mainGlobals "sorted" = some none)
 (i_MOST_LETTERS:PySem.W.nsIn K mainGlobals "MOST_LETTERS" = some (some (.int 8 t_MOST_LETTERS)))
 (i_MOST_FIELDS:PySem.W.nsIn K mainGlobals "MOST_FIELDS" = some (some (.int 4 t_MOST_FIELDS)))
 (i_LIMIT:PySem.W.nsIn K mainGlobals "LIMIT" = some (some (.int 999999 t_LIMIT)))
 (i_MOST_PARTS:PySem.W.nsIn K mainGlobals "MOST_PARTS" = some (some (.int 15 t_MOST_PARTS)))
 (i_MOST_DEEP:PySem.W.nsIn K mainGlobals "MOST_DEEP" = some (some (.int 5 t_MOST_DEEP)))
 (a_tW:PySem.W.nsIn K mainGlobals "WITHIN" = some (some (.ref tW)))
 (ktW:PyProof.Rows.KTD.tabLook PyProof.Rows.KTD.flatLooks (fun b=>K.lookup b) tW dW=true)
 (a_tS:PySem.W.nsIn K mainGlobals "SIGN_OF" = some (some (.ref tS)))
 (ktS:PyProof.Rows.KTD.tabLook PyProof.Rows.KTD.flatLooks (fun b=>K.lookup b) tS dS=true)
 (a_qK:PySem.W.nsIn K mainGlobals "Kind" = some (some (.ref qK)))
 (pgK:PySem.W.plainGet K qK Str.empty=true)
 (hdK:PySem.W.hasDictIn K qK=true)
 (poK:PySem.W.plainOver K qK=true)
 (saK:PySem.W.findIn K (.ref qK) "__setattr__" = some (some (.builtin "object.__setattr__")))
 (mkK:PySem.W.makesIn K qK=true)
 (kcK:PySem.W.keepIn K (.ref qK)=true)
 (nK_name:PySem.W.findIn K (.ref qK) "name" = some none)
 (nK_fields:PySem.W.findIn K (.ref qK) "fields" = some none)
 (aKI:PySem.W.findIn K (.ref qK) "__init__" = some (some (.ref fKI)))
 (lKI:K.lookup fKI=some ⟨ocKI,odKI,.func (PySem.W.fnOf "__init__" "Kind.__init__" (cj (kM 0)) (bN (kM 0)) (aA (kM 0)) (.ref TdK) kVKI dcKI pmKI anKI cdKI ctKI),slKI⟩)
 (cKI:PySem.W.codeIn K cdKI "Kind.__init__" = true)
 (kKI:PySem.W.keepIn K (.ref fKI)=true)
 (iKI:PySem.W.isFn K (.ref fKI)=true)
 (lTK:K.lookup TdK=some ⟨ocTK,odTK,.seq #[.ref d0K] nTK,slTK⟩)
 (hPo:Ae K qK "place_of" "Kind.place_of" (kM 3) fPo)
 (hNe:Ae K qK "need" "Kind.need" (kM 4) fNe)
 (a_qS:PySem.W.nsIn K mainGlobals "ScribeError" = some (some (.ref qS)))
 (a_qV:PySem.W.nsIn K mainGlobals "BadValue" = some (some (.ref qV)))
 (x1S:i_ K qS "ValueError" "ValueError.__new__" = true)
 (x2S:PySem.W.findIn K (.ref qS) "__setattr__" = some (some (.builtin "object.__setattr__")))
 (x3S:Gf K qS [qS] (zO "ValueError")=true)
 (x4S:PySem.W.keepIn K (.ref qS)=true)
 (x5S:PySem.W.typeIn K (.ref qS)=some (.type "type"))
 (x1V:i_ K qV "ValueError" "ValueError.__new__" = true)
 (x2V:PySem.W.findIn K (.ref qV) "__setattr__" = some (some (.builtin "object.__setattr__")))
 (x3V:Gf K qV [qV,qS] (zO "ValueError")=true)
 (x4V:PySem.W.keepIn K (.ref qV)=true)
 (x5V:PySem.W.typeIn K (.ref qV)=some (.type "type"))
 (aSE:PySem.W.findIn K (.ref qS) "__init__" = some (some (.ref fSE)))
 (lSE:K.lookup fSE=some ⟨ocSE,odSE,.func (PySem.W.fnOf "__init__" "ScribeError.__init__" (cj zY) (bN zY) (aA zY) (.ref TS) kVSE dcSE pmSE anSE cdSE ctSE),slSE⟩)
 (cSE:PySem.W.codeIn K cdSE "ScribeError.__init__" = true)
 (kSE:PySem.W.keepIn K (.ref fSE)=true)
 (lTS:K.lookup TS=some ⟨ocTS,odTS,.seq #[dS1,dS2] nTS,slTS⟩)
 (fc:PySem.W.findCls K (.type "ValueError") (.type "type") "__init__" = some (.val (.builtin "ValueError.__init__")))
 (sg:PySem.W.specialIn K (.ref qS) "__getattribute__" = some (some (.builtin "type.__getattribute__")))
 (rd1:PySem.W.readsIn K qS (.type "type")=true)
 (rd2:PySem.W.findCls K (.ref qS) (.type "type") "__init__" = some (.val (.ref fSE)))
 (a_qT:PySem.W.nsIn K mainGlobals "BadTest" = some (some (.ref qT)))
 (x1T:i_ K qT "ValueError" "ValueError.__new__" = true)
 (x2T:PySem.W.findIn K (.ref qT) "__setattr__" = some (some (.builtin "object.__setattr__")))
 (x3T:Gf K qT [qT,qS] (zO "ValueError")=true)
 (x4T:PySem.W.keepIn K (.ref qT)=true)
 (x5T:PySem.W.typeIn K (.ref qT)=some (.type "type"))
 (tkT:PySem.W.takerIn K qT "word" = some none)
 (aiT:PySem.W.findIn K (.ref qT) "__init__" = some (some (.ref fiT)))
 (liT:K.lookup fiT=some ⟨ociT,odiT,.func (PySem.W.fnOf "__init__" "BadTest.__init__" (cj gq) (bN gq) (aA gq) (.ref TdT) kViT dciT pmiT aniT cdiT ctiT),sliT⟩)
 (ciT:PySem.W.codeIn K cdiT "BadTest.__init__" = true)
 (kiT:PySem.W.keepIn K (.ref fiT)=true)
 (biT:PySem.W.findIn K (.ref qT) "__init__" = some (some (.ref fiT)))
 (niT:PySem.W.isFn K (.ref fiT)=true)
 (lTT:K.lookup TdT=some ⟨ocTT,odTT,.seq #[diT] nTT,slTT⟩)
 (mvT:PySem.W.mroIn K qT (.ref qV)=some false)
 (msT:PySem.W.mroIn K qT (.ref qS)=some true)
 (g1T:PySem.W.findIn K (.ref qT) "__getattribute__" = some (some (.builtin "BaseException.__getattribute__")))
 (g2T:PySem.W.findIn K (.ref qT) "__getattr__" = some none)
 (g3T:PySem.W.hasDictIn K qT=true)
 (g4T:PySem.W.findIn K (.ref qT) "word" = some none)
 (g5T:PySem.W.mroIn K qT (.type "BaseException")=some true)
 (aBq:PySem.W.findIn K (.ref qV) "__init__" = some (some (.ref fBq)))
 (lBq:K.lookup fBq=some ⟨ocBq,odBq,.func (PySem.W.fnOf "__init__" "BadValue.__init__" (cj Ff) (bN Ff) (aA Ff) .none kVBq dcBq pmBq anBq cdBq ctBq),slBq⟩)
 (cBq:PySem.W.codeIn K cdBq "BadValue.__init__" = true)
 (kBq:PySem.W.keepIn K (.ref fBq)=true)
 (nBq:PySem.W.isFn K (.ref fBq)=true)
 (tw:PySem.W.takerIn K qV "word" = some none)
 (ta:PySem.W.takerIn K qV "at" = some none)
 (mv:PySem.W.mroIn K qV (.ref qV)=some true)
 (g1:PySem.W.findIn K (.ref qV) "__getattribute__" = some (some (.builtin "BaseException.__getattribute__")))
 (g2:PySem.W.findIn K (.ref qV) "__getattr__" = some none)
 (g3:PySem.W.hasDictIn K qV=true)
 (g4:PySem.W.findIn K (.ref qV) "at" = some none)
 (g5:PySem.W.mroIn K qV (.type "BaseException")=some true) :
 ∃ fd:FuncData,(∀ (s:Shared) (v:Value),BindsTo s fd ⟨[v],[]⟩ [("_law_script",v)])/\∀ base:Heap,K.In base->base.Ns mainGlobals mg->aN l.prog w K mg base bL 13 fa fd ["_law_script"] (xQ K):=by
 obtain ⟨aLa,fd,FLa⟩:=hLa
 have e:=hfa.symm.trans (PySem.W.mg_of X G aLa)
 cases e
 have FLb:=FLa
 obtain ⟨oc,od,kV,doc,pm,an,cdv,ct,osl,rfl,lk,hcd⟩:=FLb.ex
 have T:Txt K mg:=⟨PySem.W.mg_none_of X G z_len,PySem.W.mg_none_of X G z_range,PySem.W.mg_none_of X G z_list,PySem.W.mg_none_of X G z_tuple,PySem.W.mg_none_of X G z_str,PySem.W.mg_none_of X G z_bool,PySem.W.mg_none_of X G z_int,PySem.W.mg_none_of X G z_min,PySem.W.mg_none_of X G z_repr,PySem.W.mg_none_of X G z_all,PySem.W.mg_none_of X G z_any,PySem.W.mg_none_of X G z_isinstance⟩
 have TE:za K mg:=⟨PySem.W.mg_none_of X G z_ValueError,fc⟩
 obtain ⟨_,DB⟩:=hB.d1 (mg:=mg) X G "_law_script" fun _ _ _ _ _ _ _=>rfl
 obtain ⟨_,DP⟩:=hP.d2 (mg:=mg) X G "_law_d" "_law_many" fun _ _ _ _ _ _ _ _=>rfl
 obtain ⟨_,DO⟩:=hO.d2 (mg:=mg) X G "_law_d" "_law_things" fun _ _ _ _ _ _ _ _=>rfl
 obtain ⟨_,DW⟩:=hW.d1 (mg:=mg) X G "_law_d" fun _ _ _ _ _ _ _=>rfl
 obtain ⟨_,DWs⟩:=hWs.d2 (mg:=mg) X G "_law_d" "_law_many" fun _ _ _ _ _ _ _ _=>rfl
 obtain ⟨_,DBd⟩:=hBd.d1 (mg:=mg) X G "_law_d" fun _ _ _ _ _ _ _=>rfl
 obtain ⟨_,DF⟩:=hF.d2 (mg:=mg) X G "_law_d" "_law_many" fun _ _ _ _ _ _ _ _=>rfl
 obtain ⟨_,DS⟩:=hS.d2 (mg:=mg) X G "_law_found" "_law_due" fun _ _ _ _ _ _ _ _=>rfl
 obtain ⟨_,DVl⟩:=hVl.d2 (mg:=mg) X G "_law_d" "_law_field" fun _ _ _ _ _ _ _ _=>rfl
 obtain ⟨_,DVw⟩:=hVw.d2 (mg:=mg) X G "_law_fields_here" "_law_values" fun _ _ _ _ _ _ _ _=>rfl
 obtain ⟨_,DNu⟩:=hNu.d1 (mg:=mg) X G "_law_d" fun _ _ _ _ _ _ _=>rfl
 obtain ⟨_,DLe⟩:=hLe.d3 (mg:=mg) X G "_law_d" "_law_names" "_law_kinds" fun _ _ _ _ _ _ _ _ _=>rfl
 obtain ⟨_,DTr⟩:=hTr.d4 (mg:=mg) X G "_law_d" "_law_deep" "_law_names" "_law_kinds" fun _ _ _ _ _ _ _ _ _ _=>rfl
 obtain ⟨_,DLp⟩:=hLp.d4 (mg:=mg) X G "_law_test" "_law_title" "_law_fields_here" "_law_values" fun _ _ _ _ _ _ _ _ _ _=>rfl
 obtain ⟨_,DKo⟩:=hKo.d1 (mg:=mg) X G "_law_d" fun _ _ _ _ _ _ _=>rfl
 obtain ⟨_,DNo⟩:=hNo.d2 (mg:=mg) X G "_law_d" "_law_fields_here" fun _ _ _ _ _ _ _ _=>rfl
 obtain ⟨_,DNv⟩:=hNv.d3 (mg:=mg) X G "_law_d" "_law_test" "_law_fields_here" fun _ _ _ _ _ _ _ _ _=>rfl
 obtain ⟨_,DLy⟩:=hLy.d1 (mg:=mg) X G "_law_test" fun _ _ _ _ _ _ _=>rfl
 obtain ⟨_,DPt⟩:=hPt.d5 (mg:=mg) X G "_law_one" "_law_other" "_law_title" "_law_fields_here" "_law_row" fun _ _ _ _ _ _ _ _ _ _ _=>rfl
 obtain ⟨_,DNm⟩:=hNm.d1 (mg:=mg) X G "text" fun _ _ _ _ _ _ _=>rfl
 obtain ⟨_,DNn⟩:=hNn.d1 (mg:=mg) X G "text" fun _ _ _ _ _ _ _=>rfl
 obtain ⟨_,DNf⟩:=hNf.d1 (mg:=mg) X G "fields" fun _ _ _ _ _ _ _=>rfl
 obtain ⟨_,DIw⟩:=hIw.d1 (mg:=mg) X G "thing" fun _ _ _ _ _ _ _=>rfl
 obtain ⟨_,DNb⟩:=hNb.d1 (mg:=mg) X G "thing" fun _ _ _ _ _ _ _=>rfl
 obtain ⟨_,DLf⟩:=hLf.d1 (mg:=mg) X G "test" fun _ _ _ _ _ _ _=>rfl
 obtain ⟨_,DCp⟩:=hCp.d2 (mg:=mg) X G "thing" "deep" fun _ _ _ _ _ _ _ _=>rfl
 obtain ⟨_,DIt⟩:=hIt.d1 (mg:=mg) X G "test" fun _ _ _ _ _ _ _=>rfl
 obtain ⟨_,DNt⟩:=hNt.d1 (mg:=mg) X G "test" fun _ _ _ _ _ _ _=>rfl
 obtain ⟨_,DLw⟩:=hLw.d1 (mg:=mg) X G "test" fun _ _ _ _ _ _ _=>rfl
 obtain ⟨_,DHo⟩:=hHo.d3 (mg:=mg) X G "test" "kind" "values" fun _ _ _ _ _ _ _ _ _=>rfl
 obtain ⟨_,DPs⟩:=hPs.d3 (mg:=mg) X G "test" "kind" "values" fun _ _ _ _ _ _ _ _ _=>rfl
 obtain ⟨_,DPl⟩:=hPl.d3 (mg:=mg) X G "leaf" "kind" "values" fun _ _ _ _ _ _ _ _ _=>rfl
 obtain ⟨_,DPd⟩:=hPd.d3 (mg:=mg) X G "one" "other" "kind" fun _ _ _ _ _ _ _ _ _=>rfl
 obtain ⟨_,DCn⟩:=hCn.d2 (mg:=mg) X G "found" "kind" fun _ _ _ _ _ _ _ _=>rfl
 obtain ⟨_,DTn⟩:=hTn.d4 (mg:=mg) X G "found" "field" "low" "high" fun _ _ _ _ _ _ _ _ _ _=>rfl
 have FSE:jk K "__init__" "ScribeError.__init__" zY (.ref TS) fSE _:=⟨⟨_,_,_,_,_,_,_,_,_,rfl,lSE,cSE⟩,kSE⟩
 have bSE:=FSE.binds (ps:=["self","words","word"]) (ds:=[]) lTS rfl fun kV doc pm an cdv ct s us hT hl=>(by rw [List.append_nil] at hl ⊢;obtain ⟨_,_,_,rfl⟩:=El hl;exact BindsTo.of_defaults rfl hT rfl rfl rfl)
 have MS:Ez K mg "ScribeError" qS fSE:=⟨PySem.W.mg_of X G a_qS,sg,⟨_,rd1,rd2⟩,kSE⟩
 have FiT:jk K "__init__" "BadTest.__init__" gq (.ref TdT) fiT _:=⟨⟨_,_,_,_,_,_,_,_,_,rfl,liT,ciT⟩,kiT⟩
 have bbT:=FiT.binds (ps:=["self","words"]) (ds:=[]) lTT rfl fun kV doc pm an cdv ct s us hT hl=>(by rw [List.append_nil] at hl ⊢;obtain ⟨_,_,rfl⟩:=vL hl;exact BindsTo.of_defaults rfl hT rfl rfl rfl)
 have ECT:xF K qT:=⟨tG x1T x2T x3T x4T x5T zZ,tkT⟩
 have WCT:Ht K mg "BadTest" qT fiT _:=⟨bbT,PySem.W.mg_of X G a_qT,ECT,biT,niT⟩
 have FBq:=Bt (st:=Ff) lBq cBq kBq
 have bBq:=FBq.binds (ps:=["self","at"]) fun _ _ _ _ _ _ us hl=>by obtain ⟨_,_,rfl⟩:=vL hl;rfl
 have WV:G_ K mg qV fBq _:=⟨bBq,PySem.W.mg_of X G a_qV,⟨⟨tG x1V x2V x3V x4V x5V zZ,tw⟩,ta⟩,aBq,nBq⟩
 have FKI:jk K "__init__" "Kind.__init__" (kM 0) (.ref TdK) fKI _:=⟨⟨_,_,_,_,_,_,_,_,_,rfl,lKI,cKI⟩,kKI⟩
 have bKI:=FKI.binds (ps:=["self","name","fields"]) (ds:=[]) lTK rfl fun kV doc pm an cdv ct s us hT hl=>yz rfl kV doc pm an cdv ct s us hT hl
 have MkK:Mk K qK fKI:=⟨mkK,aKI,iKI,kcK⟩
 obtain ⟨fdPo,aPo,FPo⟩:=hPo
 have bPo:=FPo.binds (ps:=["self","field"]) fun _ _ _ _ _ _ us hl=>by obtain ⟨_,_,rfl⟩:=vL hl;rfl
 have MPo:MD K qK "place_of" "Kind.place_of" (kM 3) ["self","field"] fPo _:=⟨⟨aPo.1,aPo.2,FPo.kp⟩,FPo,bPo⟩
 obtain ⟨fdNe,aNe,FNe⟩:=hNe
 have bNe:=FNe.binds (ps:=["self","values"]) fun _ _ _ _ _ _ us hl=>by obtain ⟨_,_,rfl⟩:=vL hl;rfl
 have MNe:MD K qK "need" "Kind.need" (kM 4) ["self","values"] fNe _:=⟨⟨aNe.1,aNe.2,FNe.kp⟩,FNe,bNe⟩
 refine ⟨PySem.W.fnOf "law" "law" (cj (top 56)) (bN (top 56)) (aA (top 56)) .none kV doc pm an cdv ct,fun s v=>.of_eq rfl,fun base _ _=>?_⟩
 have TK':oK mg:=⟨⟨_,PySem.W.mg_of X G i_MOST_LETTERS⟩,⟨_,PySem.W.mg_of X G i_MOST_FIELDS⟩,⟨_,PySem.W.mg_of X G i_LIMIT⟩⟩
 have TT:Jk mg:=⟨⟨_,PySem.W.mg_of X G i_MOST_PARTS⟩,⟨_,PySem.W.mg_of X G i_MOST_DEEP⟩⟩
 have TB:rC K mg tW tS:=⟨PySem.W.mg_of X G a_tW,PySem.W.mg_of X G a_tS,ktW,ktS⟩
 have hsum:=PySem.W.mg_none_of X G z_sum
 have hmax:=PySem.W.mg_none_of X G z_max
 have hen:=PySem.W.mg_none_of X G z_enumerate
 have hzp:=PySem.W.mg_none_of X G z_zip
 have hso:=PySem.W.mg_none_of X G z_sorted
 have KC:KCls K mg qK:=⟨⟨pgK,hdK,poK,saK⟩,nK_name,nK_fields,PySem.W.mg_of X G a_qK⟩
 have GCp:=K1 (P:=l.prog) (w:=w) (base:=base) DCp T hsum TK' TB DNm DIw DNb DLf 5 (by decide)
 have GIt:=FN (P:=l.prog) (w:=w) (base:=base) DIt.F TT DCp GCp
 have GBT:=rT (P:=l.prog) (w:=w) (base:=base) (CX:=bL) FiT TE FSE bSE MS
 have GNt:=K5 (P:=l.prog) (w:=w) (base:=base) DNt.F DIt GIt WCT GBT
 have GBV:=HB (P:=l.prog) (w:=w) (base:=base) (CX:=bL) FBq TE FSE bSE MS
 have GNe:=zG (P:=l.prog) (w:=w) (base:=base) FNe T hen hzp KC WV GBV
 have GPo:=xZ (P:=l.prog) (w:=w) (base:=base) FPo T hen KC
 have GPl:=Hk (P:=l.prog) (w:=w) (base:=base) DPl.F KC MPo GPo
 have GPs:=Jv (P:=l.prog) (w:=w) (base:=base) DPs DPl GPl 5
 have GHo:=J3 (P:=l.prog) (w:=w) (base:=base) DHo.F KC DNt GNt MNe GNe DPs GPs
 have GPd:=Ij (P:=l.prog) (w:=w) (base:=base) DPd.F T hso TB KC DNt GNt DLw DCn DTn DPs GPs
 have GW:=uc (P:=l.prog) (w:=w) (base:=base) DW.F T DP DO
 have GF:=uW (P:=l.prog) (w:=w) (base:=base) DF.F T DP DO DW DWs DBd
 have GKI:=zE (P:=l.prog) (w:=w) (base:=base) FKI T TK' KC DNm DNn DNf
 exact Az FLa T KC DB DP DS DKo (Ho DKo.F T DP DW GW DF GF) DNo (IK DNo.F DW GW) DTr (HF DTr T DP DO DNu DLe 2) DVw (Jp DVw.F T) DPt (Jx DPt.F T DLp) DNv (Ek DNv.F T hmax DP DVl (zL DVl.F T DP DO) DLy) DPd GPd DHo GHo MkK GKI bKI
end Cm
open PySem PySem.W PyProof.Rows
set_option maxRecDepth 100000 in
set_option maxHeartbeats 0 in
theorem PySem.Challenge.cw_lanescribe_k08_whole_great_fields_parted_holds : PySem.Challenge.rw_lanescribe_k08_whole_great_fields_parted.Holds := by
 w_on
 refine Kd.head ?hw (by rfl) (by rfl) (by rfl) ?hc
 (case hw=>w_witness2)
 k_fill
 refine L2.zp (l:=PySem.Challenge.rw_lanescribe_k08_whole_great_fields_parted) (n:=63) (k:=13) (x:="_law_script") (CX:=fun _=>L2.bL) (sp:=fun w=>Cm.xQ _) rfl (by decide) rfl ⟨rfl,by decide,by decide,rfl⟩ (fun w h Y=>kIn_of Y) ?F (fun _ _ a ns hl _ hS=>⟨a,ns,rfl,hS,hl,fun _=>rfl⟩) fun _ _ _ _ _ z=>z
 case F=>
  intro w mg fa h KX G hmg
  refine' Cm.Bq KX G hmg ?_ ?_ ?_ ?_ ?_ ?_ ?_ ?_ ?_ ?_ ?_ ?_ ?_ ?_ ?_ ?_ ?_ ?_ ?_ ?_ ?_ ?_ ?_ ?_ ?_ ?_ ?_ ?_ ?_ ?_ ?_ ?_ ?_ ?_ ?_ ?_ ?_ ?_ ?_ ?_ ?_ ?_ ?_ ?_ ?_ ?_ ?_ ?_ ?_ ?_ ?_ ?_ ?_ ?_ ?_ ?_ ?_ ?_ ?_ ?_ ?_ ?_ ?_ ?_ ?_ ?_ ?_ ?_ ?_ ?_ ?_ ?_ ?_ ?_ ?_ ?_ ?_ ?_ ?_ ?_ ?_ ?_ ?_ ?_ ?_ ?_ ?_ ?_ ?_ ?_ ?_ ?_ ?_ ?_ ?_ ?_ ?_ ?_ ?_ ?_ ?_ ?_ ?_ ?_ ?_ ?_ ?_ ?_ ?_ ?_ ?_ ?_ ?_ ?_ ?_ ?_ ?_ ?_ ?_ ?_ ?_ ?_ ?_ ?_ ?_ ?_ ?_ ?_ ?_ ?_ ?_ ?_ ?_ ?_ ?_
  any_goals first|k_is|exact ⟨by k_is,_,⟨_,_,_,_,_,_,_,_,_,rfl,by k_is,by k_is⟩,by k_is⟩|exact ⟨_,⟨by k_is,by k_is⟩,⟨_,_,_,_,_,_,_,_,_,rfl,by k_is,by k_is⟩,by k_is⟩|skip
  any_goals first|kernel_rfl|decide|(intros;kernel_rfl)|skip
