import PyProof.Rows.All
import Wide.All
import OpenK.AllK
import Wide.FinOn
import KE.KNestM
import Lean
import PyProof.EqAt
import PyProof.EqKinds
import PyProof.TupleCall
import PyProof.StationsW
import PyProof.ExcBaseAll.ValueError
import PyProof.InstStoreFacts
import PyProof.RulesAs
import PyProof.RulesDel
import KE.KLam
import PyProof.ExcArgsOwn
import PyProof.AutoListH
import PyProof.StrWalks
import PyProof.StrBlockH
import PyProof.WalkInts
import PyProof.SeqI3
import PyProof.Rows.SetFrom
import PyProof.ZipIter
import KE.KTabLook
import PyProof.StrLaws
import KE.KIntText
import KE.KStrOpen
import PyProof.StrLawsTight
import PyProof.Rows.StrFit
import PyProof.Draws
import PyProof.EnumMake
import PyProof.StrCalls2
import PyProof.Rows.StrSplitJoin
import PyProof.CollectIter
import PyProof.StrBlock2
import PyProof.Rows.SortWalk
import PyProof.Rows.CallKwBuiltin
import KE.KMinBuiltin
import KE.KRevSl
import PyProof.DictItemsLoops
import PyProof.CollectWalk
import PyProof.ListRange
import KE.KSortAsk
import PyProof.SetRoads
import PySem.Challenge.RW_lanescribe_k07_whole_tests_held_against
set_option Elab.async false
set_option linter.all false
set_option maxRecDepth 1000000
set_option maxHeartbeats 0
namespace Kd
open PySem PySem.W
noncomputable section
theorem vV {p q:Program} {loose:List Str} {Xt:Shared->Bool} {α:Type} {Yf:Shared->α} {Ya:World->α} {N:Nat} (e:opening p=plainProg p.main.scope.names) (hN:Nat.ble 600 N=true) (f:∀ s,fenceModules? p s=some s)
 (h:∀ (w:World) (os:OsState),(topFrom treeTable p w N ⟨boot_heap w.params,Array.mk [],boot_drawn,boot_toks,os⟩).map (fun s=>(openSeen q loose (importedModules p.main.body) Xt true s,Yf s))=some (openGood q loose,Ya w)):LeftO p q loose Xt Yf Ya N:=fun w=>by
 obtain ⟨⟨h',gs,d,k,os⟩,e1,e2⟩:=Option.map_eq_some_iff.mp (boot_open e hN f w)
 obtain ⟨rfl,rfl,rfl,rfl⟩:h'=boot_heap w.params/\gs=Array.mk []/\d=boot_drawn/\k=boot_toks:=by simpa using e2
 unfold openEnds
 rw [e1]
 exact h w os
noncomputable abbrev u (x:String):Str:=Str.ofString x
noncomputable abbrev vs (x:String) (t:Nat):Value:=.str (Str.ofString x) t
noncomputable abbrev vi (x:Int) (t:Nat):Value:=.int x t
noncomputable abbrev vr (x:Nat):Value:=.ref x
noncomputable abbrev vt (x:String):Value:=.type x
noncomputable abbrev vn:Value:=.none
noncomputable abbrev vb:Value:=.bool true
noncomputable abbrev vf (t:Nat):Value:=.str (Str.ofString "/claim/cut.py") t
noncomputable abbrev ot (x:Array Value):Obj:={ cls:=.type "tuple",data:=Data.seq x }
noncomputable abbrev oc (x:Array Value):Obj:={ cls:=.type "code",data:=Data.fields x }
noncomputable abbrev of (n q:String) (a:Arguments) (b:List Stmt) (s:Scope) (d m c:Value):Obj:={ cls:=.type "function",data:=Data.func { name:=Str.ofString n,qualname:=Str.ofString q,params:=a,body:=FuncBody.stmts b,scope:=s,globals:=3,closure:=[],defaults:=d,kwdefaults:=.none,pyModule:=m,code:=c } }
noncomputable abbrev de (P:Params) (x:String) (t:Nat) (v:Value):DictEntry:={ hash:=PyData.keyHash P (Str.ofString x),key:=.str (Str.ofString x) t,val:=v }
noncomputable def tp (i:Nat):Stmt:=PySem.Challenge.pw_lanescribe_k07_whole_tests_held_against.main.body.getD i (.Pass ⟨0,0,0,0⟩)
noncomputable def meth (i j:Nat):Stmt:=match tp i with
 |.ClassDef _ _ _ body _ _ _ _ _ _ _=>body.getD j (.Pass ⟨0,0,0,0⟩)
 |_=>.Pass ⟨0,0,0,0⟩
noncomputable def dA (s:Stmt):Arguments:=match s with
 |.FunctionDef _ a _ _ _ _ _ _ _ _=>a
 |_=>{ posonlyargs:=[],args:=[],vararg:=none,kwonlyargs:=[],kw_defaults:=[],kwarg:=none,defaults:=[] }
noncomputable def dB (s:Stmt):List Stmt:=match s with
 |.FunctionDef _ _ b _ _ _ _ _ _ _=>b
 |_=>[]
noncomputable def dS (s:Stmt):Scope:=match s with
 |.FunctionDef _ _ _ _ _ _ sc _ _ _=>sc
 |_=>{ kind:=.function,names:=[],isGenerator:=false,isCoroutine:=false }
noncomputable abbrev TA (i:Nat):Arguments:=dA (tp i)
noncomputable abbrev TB (i:Nat):List Stmt:=dB (tp i)
noncomputable abbrev TS (i:Nat):Scope:=dS (tp i)
noncomputable abbrev MA (i j:Nat):Arguments:=dA (meth i j)
noncomputable abbrev MB (i j:Nat):List Stmt:=dB (meth i j)
noncomputable abbrev MS (i j:Nat):Scope:=dS (meth i j)
noncomputable abbrev og (n q:String) (a:Arguments) (b:List Stmt) (s:Scope):Obj:={ cls:=.none,data:=Data.func { name:=Str.ofString n,qualname:=Str.ofString q,params:=a,body:=FuncBody.stmts b,scope:=s,globals:=0,closure:=[],defaults:=.none,kwdefaults:=.none } }
noncomputable abbrev gt (n:String) (i:Nat):Obj:=og n n (TA i) (TB i) (TS i)
noncomputable abbrev gm (n q:String) (i j:Nat):Obj:=og n q (MA i j) (MB i j) (MS i j)
noncomputable abbrev ft (n:String) (i:Nat):Value->Value->Value->Obj:=of n n (TA i) (TB i) (TS i)
noncomputable abbrev fm (n q:String) (i j:Nat):Value->Value->Value->Obj:=of n q (MA i j) (MB i j) (MS i j)
noncomputable abbrev oq (n:String) (a:Nat) (q:String) (b c:Nat) (l k:Int) (r s:Nat) (x y z:Value) (t:Int) (d:Nat):Obj:=oc #[vs n a,vs q b,vf c,vi l 0,vi k 0,vi 0 0,vi 0 0,vi 3 0,vr r,vb,vi 181 0,vr s,vn,x,y,z,vi t 0,vi l 0,vf d]
noncomputable abbrev ok (n:String) (a b c:Nat) (l k:Int) (r s:Nat) (x y z:Value) (t:Int) (d:Nat):Obj:=oq n a n b c l k r s x y z t d
noncomputable abbrev z1:Value:=vs "lanescribe.errors" 194
noncomputable abbrev z2:Value:=vs "law_lanescribe_k07_whole_tests_held_against" 657
noncomputable abbrev z3:Value:=vs "lanescribe.kinds" 406
noncomputable abbrev z4:Value:=vs "lanescribe.sieve" 540
noncomputable abbrev z5:Value:=vs "ScribeError" 204
noncomputable def o0:Obj:=ot #[]
noncomputable def o1:Obj:={ cls:=vn,data:=Data.fields #[] }
noncomputable def o2:Obj:=oc #[vs "<module>" 182,vs "<module>" 183,vf 184,vi 1 0,vi 0 0,vi 0 0,vi 0 0,vi 0 0,vr 11,Value.bool false,vi 181 0,vr 12,vn,vn,vn,vn,vi 185 0,vi 1 0,vf 186]
noncomputable def o3:Obj:={ cls:=vt "frame",slots:=#[some (vr 13),some (vr 3),some (vr 3),none,some (vs "__main__" 164),none,some (vr 0)] }
noncomputable def o4 (P:Params):Obj:={ cls:=vt "dict",data:=Data.dict #[de P "__name__" 165 z1,de P "__doc__" 166 (vn),de P "__package__" 167 (vn),de P "__loader__" 168 (Value.builtin "__main__.__loader__#opaque"),de P "__spec__" 169 (vn),de P "__annotations__" 170 (vr 6),de P "__builtins__" 171 (vr 4),de P "__file__" 173 (vf 172),de P "__cached__" 174 (vn),de P "_wall" 193 (vr 21),de P "ScribeError" 225 (vr 39),de P "BadName" 250 (vr 60),de P "BadBounds" 275 (vr 80),de P "BadTest" 300 (vr 100),de P "Taken" 325 (vr 120)] 15 }
noncomputable def o5:Obj:={ cls:=vn,data:=Data.fields #[vi 1 0,vi 0 0,vr 20,vi 5 0,vi 0 0,vr 27,vi 10 0,vi 0 0,vr 48,vi 14 0,vi 0 0,vr 68,vi 18 0,vi 0 0,vr 88,vi 22 0,vi 0 0,vr 108] }
noncomputable def o6:Obj:=ot #[vs "k" 190]
noncomputable def o7:Obj:=gt "_wall" 0
noncomputable def o8:Obj:=ok "_wall" 187 188 189 1 1 15 16 (vr 17) (vr 18) (vr 19) 191 192
noncomputable def o9:Obj:=ft "_wall" 0 vn (vs "__main__" 164) (vr 20)
noncomputable def PN:Obj:=ot #[vt "ValueError"]
noncomputable def nA:Obj:={ cls:=vt "builtin_function_or_method",data:=Data.fields #[Value.builtin "type.__prepare__",vt "type"] }
noncomputable def Qx (P:Params):Obj:={ cls:=vt "dict",data:=Data.dict #[de P "__module__" 203 z1,de P "__qualname__" 205 z5,de P "__firstlineno__" 207 (vi 5 206),de P "__init__" 218 (vr 36),de P "__static_attributes__" 220 (vr 37)] 5 }
noncomputable def SM:Obj:={ cls:=vn,data:=Data.fields #[vi 7 0,vi 4 0,vr 35] }
noncomputable def QR:Obj:=oc #[vs "ScribeError" 198,vs "ScribeError" 199,vf 200,vi 5 0,vi 0 0,vi 0 0,vi 0 0,vi 0 0,vr 25,Value.bool false,vi 181 0,vr 26,vn,vn,vn,vn,vi 201 0,vi 5 0,vf 202]
noncomputable def R0:Obj:={ cls:=vt "frame",slots:=#[some (vr 27),some (vr 3),some (vr 24),none,some z1,none,some (vr 0)] }
noncomputable def Om:Obj:=ot #[vs "" 208,vs "scribeerror" 209]
noncomputable def Px:Obj:=ot #[vs "self" 213,vs "words" 214,vs "word" 215]
noncomputable def R8:Obj:=gm "__init__" "ScribeError.__init__" 2 0
noncomputable def Pk:Obj:=oq "__init__" 210 "ScribeError.__init__" 211 212 7 3 30 31 (vr 32) (vr 33) (vr 34) 216 217
noncomputable def Ov:Obj:=fm "__init__" "ScribeError.__init__" 2 0 (vr 29) z1 (vr 35)
noncomputable def P0:Obj:=ot #[vs "word" 219]
noncomputable def Oc (P:Params):Obj:={ cls:=vt "dict",data:=Data.dict #[de P "__module__" 203 z1,de P "__firstlineno__" 207 (vi 5 206),de P "__init__" 218 (vr 36),de P "__static_attributes__" 220 (vr 37),de P "__weakref__" 222 (vr 40),de P "__doc__" 223 (vn)] 3 }
noncomputable def V8:Obj:={ cls:=vt "type",data:=Data.cls { name:=u "ScribeError",bases:=[vt "ValueError"],mro:=[vr 39,vt "ValueError",vt "Exception",vt "BaseException",vt "object"],ns:=38,qualname:=u "ScribeError",subclasses:=[vr 60,vr 80,vr 100,vr 120] },slots:=#[some (vr 22),none,some (vs "ScribeError" 196),some z5,some (Value.builtin "ValueError.__new__"),some (vb)] }
noncomputable def O_:Obj:={ cls:=vt "getset_descriptor",data:=Data.fields #[vs "__weakref__" 221,vr 39,Value.builtin "ExceptionGroup.__weakref__",vn] }
noncomputable def R5:Obj:={ cls:=vt "super",data:=Data.fields #[vr 39,vr 39,vr 39] }
noncomputable def Rm:Obj:={ cls:=vt "builtin_function_or_method",data:=Data.fields #[Value.builtin "object.__init_subclass__",vr 39] }
noncomputable def nU:Obj:=ot #[vr 39]
noncomputable def RP (P:Params):Obj:={ cls:=vt "dict",data:=Data.dict #[de P "__module__" 233 z1,de P "__qualname__" 235 (vs "BadName" 234),de P "__firstlineno__" 237 (vi 10 236),de P "__init__" 246 (vr 57),de P "__static_attributes__" 247 (vr 58)] 5 }
noncomputable def Tj:Obj:={ cls:=vn,data:=Data.fields #[vi 12 0,vi 4 0,vr 56] }
noncomputable def Rj:Obj:=oc #[vs "BadName" 228,vs "BadName" 229,vf 230,vi 10 0,vi 0 0,vi 0 0,vi 0 0,vi 0 0,vr 46,Value.bool false,vi 181 0,vr 47,vn,vn,vn,vn,vi 231 0,vi 10 0,vf 232]
noncomputable def Rr:Obj:={ cls:=vt "frame",slots:=#[some (vr 48),some (vr 3),some (vr 45),none,some z1,none,some (vr 0)] }
noncomputable def PK:Obj:=ot #[vs "" 238]
noncomputable def PQ:Obj:=ot #[vs "self" 242,vs "words" 243]
noncomputable def R3:Obj:=gm "__init__" "BadName.__init__" 3 0
noncomputable def PJ:Obj:=oq "__init__" 239 "BadName.__init__" 240 241 12 2 51 52 (vr 53) (vr 54) (vr 55) 244 245
noncomputable def Oh:Obj:=fm "__init__" "BadName.__init__" 3 0 (vr 50) z1 (vr 56)
noncomputable def Ob (P:Params):Obj:={ cls:=vt "dict",data:=Data.dict #[de P "__module__" 233 z1,de P "__firstlineno__" 237 (vi 10 236),de P "__init__" 246 (vr 57),de P "__static_attributes__" 247 (vr 58),de P "__doc__" 248 (vn)] 2 }
noncomputable def Ot:Obj:={ cls:=vt "type",data:=Data.cls { name:=u "BadName",bases:=[vr 39],mro:=[vr 60,vr 39,vt "ValueError",vt "Exception",vt "BaseException",vt "object"],ns:=59,qualname:=u "BadName" },slots:=#[some (vr 43),none,some (vs "BadName" 226),some (vs "BadName" 234),some (Value.builtin "ValueError.__new__"),some (vb)] }
noncomputable def Sg:Obj:={ cls:=vt "super",data:=Data.fields #[vr 60,vr 60,vr 60] }
noncomputable def Qs:Obj:={ cls:=vt "builtin_function_or_method",data:=Data.fields #[Value.builtin "object.__init_subclass__",vr 60] }
noncomputable def QW (P:Params):Obj:={ cls:=vt "dict",data:=Data.dict #[de P "__module__" 258 z1,de P "__qualname__" 260 (vs "BadBounds" 259),de P "__firstlineno__" 262 (vi 14 261),de P "__init__" 271 (vr 77),de P "__static_attributes__" 272 (vr 78)] 5 }
noncomputable def QX:Obj:={ cls:=vn,data:=Data.fields #[vi 16 0,vi 4 0,vr 76] }
noncomputable def Rf:Obj:=oc #[vs "BadBounds" 253,vs "BadBounds" 254,vf 255,vi 14 0,vi 0 0,vi 0 0,vi 0 0,vi 0 0,vr 66,Value.bool false,vi 181 0,vr 67,vn,vn,vn,vn,vi 256 0,vi 14 0,vf 257]
noncomputable def Q5:Obj:={ cls:=vt "frame",slots:=#[some (vr 68),some (vr 3),some (vr 65),none,some z1,none,some (vr 0)] }
noncomputable def Ou:Obj:=ot #[vs "" 263]
noncomputable def Pg:Obj:=ot #[vs "self" 267,vs "words" 268]
noncomputable def RM:Obj:=gm "__init__" "BadBounds.__init__" 4 0
noncomputable def Pq:Obj:=oq "__init__" 264 "BadBounds.__init__" 265 266 16 2 71 72 (vr 73) (vr 74) (vr 75) 269 270
noncomputable def Ow:Obj:=fm "__init__" "BadBounds.__init__" 4 0 (vr 70) z1 (vr 76)
noncomputable def Oj (P:Params):Obj:={ cls:=vt "dict",data:=Data.dict #[de P "__module__" 258 z1,de P "__firstlineno__" 262 (vi 14 261),de P "__init__" 271 (vr 77),de P "__static_attributes__" 272 (vr 78),de P "__doc__" 273 (vn)] 2 }
noncomputable def Pb:Obj:={ cls:=vt "type",data:=Data.cls { name:=u "BadBounds",bases:=[vr 39],mro:=[vr 80,vr 39,vt "ValueError",vt "Exception",vt "BaseException",vt "object"],ns:=79,qualname:=u "BadBounds" },slots:=#[some (vr 63),none,some (vs "BadBounds" 251),some (vs "BadBounds" 259),some (Value.builtin "ValueError.__new__"),some (vb)] }
noncomputable def RC:Obj:={ cls:=vt "super",data:=Data.fields #[vr 80,vr 80,vr 80] }
noncomputable def Ss:Obj:={ cls:=vt "builtin_function_or_method",data:=Data.fields #[Value.builtin "object.__init_subclass__",vr 80] }
noncomputable def Rx (P:Params):Obj:={ cls:=vt "dict",data:=Data.dict #[de P "__module__" 283 z1,de P "__qualname__" 285 (vs "BadTest" 284),de P "__firstlineno__" 287 (vi 18 286),de P "__init__" 296 (vr 97),de P "__static_attributes__" 297 (vr 98)] 5 }
noncomputable def Rp:Obj:={ cls:=vn,data:=Data.fields #[vi 20 0,vi 4 0,vr 96] }
noncomputable def Qq:Obj:=oc #[vs "BadTest" 278,vs "BadTest" 279,vf 280,vi 18 0,vi 0 0,vi 0 0,vi 0 0,vi 0 0,vr 86,Value.bool false,vi 181 0,vr 87,vn,vn,vn,vn,vi 281 0,vi 18 0,vf 282]
noncomputable def Te:Obj:={ cls:=vt "frame",slots:=#[some (vr 88),some (vr 3),some (vr 85),none,some z1,none,some (vr 0)] }
noncomputable def PL:Obj:=ot #[vs "" 288]
noncomputable def Oz:Obj:=ot #[vs "self" 292,vs "words" 293]
noncomputable def Rb:Obj:=gm "__init__" "BadTest.__init__" 5 0
noncomputable def Oo:Obj:=oq "__init__" 289 "BadTest.__init__" 290 291 20 2 91 92 (vr 93) (vr 94) (vr 95) 294 295
noncomputable def Pn:Obj:=fm "__init__" "BadTest.__init__" 5 0 (vr 90) z1 (vr 96)
noncomputable def Py (P:Params):Obj:={ cls:=vt "dict",data:=Data.dict #[de P "__module__" 283 z1,de P "__firstlineno__" 287 (vi 18 286),de P "__init__" 296 (vr 97),de P "__static_attributes__" 297 (vr 98),de P "__doc__" 298 (vn)] 2 }
noncomputable def Oq:Obj:={ cls:=vt "type",data:=Data.cls { name:=u "BadTest",bases:=[vr 39],mro:=[vr 100,vr 39,vt "ValueError",vt "Exception",vt "BaseException",vt "object"],ns:=99,qualname:=u "BadTest" },slots:=#[some (vr 83),none,some (vs "BadTest" 276),some (vs "BadTest" 284),some (Value.builtin "ValueError.__new__"),some (vb)] }
noncomputable def SX:Obj:={ cls:=vt "super",data:=Data.fields #[vr 100,vr 100,vr 100] }
noncomputable def T5:Obj:={ cls:=vt "builtin_function_or_method",data:=Data.fields #[Value.builtin "object.__init_subclass__",vr 100] }
noncomputable def RD (P:Params):Obj:={ cls:=vt "dict",data:=Data.dict #[de P "__module__" 308 z1,de P "__qualname__" 310 (vs "Taken" 309),de P "__firstlineno__" 312 (vi 22 311),de P "__init__" 321 (vr 117),de P "__static_attributes__" 322 (vr 118)] 5 }
noncomputable def Rz:Obj:={ cls:=vn,data:=Data.fields #[vi 24 0,vi 4 0,vr 116] }
noncomputable def Sd:Obj:=oc #[vs "Taken" 303,vs "Taken" 304,vf 305,vi 22 0,vi 0 0,vi 0 0,vi 0 0,vi 0 0,vr 106,Value.bool false,vi 181 0,vr 107,vn,vn,vn,vn,vi 306 0,vi 22 0,vf 307]
noncomputable def Rn:Obj:={ cls:=vt "frame",slots:=#[some (vr 108),some (vr 3),some (vr 105),none,some z1,none,some (vr 0)] }
noncomputable def Ol:Obj:=ot #[vs "" 313]
noncomputable def OJ:Obj:=ot #[vs "self" 317,vs "words" 318]
noncomputable def QS:Obj:=gm "__init__" "Taken.__init__" 6 0
noncomputable def OD:Obj:=oq "__init__" 314 "Taken.__init__" 315 316 24 2 111 112 (vr 113) (vr 114) (vr 115) 319 320
noncomputable def PP:Obj:=fm "__init__" "Taken.__init__" 6 0 (vr 110) z1 (vr 116)
noncomputable def Oe (P:Params):Obj:={ cls:=vt "dict",data:=Data.dict #[de P "__module__" 308 z1,de P "__firstlineno__" 312 (vi 22 311),de P "__init__" 321 (vr 117),de P "__static_attributes__" 322 (vr 118),de P "__doc__" 323 (vn)] 2 }
noncomputable def PB:Obj:={ cls:=vt "type",data:=Data.cls { name:=u "Taken",bases:=[vr 39],mro:=[vr 120,vr 39,vt "ValueError",vt "Exception",vt "BaseException",vt "object"],ns:=119,qualname:=u "Taken" },slots:=#[some (vr 103),none,some (vs "Taken" 301),some (vs "Taken" 309),some (Value.builtin "ValueError.__new__"),some (vb)] }
noncomputable def RG:Obj:={ cls:=vt "super",data:=Data.fields #[vr 120,vr 120,vr 120] }
noncomputable def Tq:Obj:={ cls:=vt "builtin_function_or_method",data:=Data.fields #[Value.builtin "object.__init_subclass__",vr 120] }
noncomputable def Uv (P:Params):Obj:={ cls:=vt "dict",data:=Data.dict #[de P "__name__" 165 z3,de P "__doc__" 166 (vn),de P "__package__" 167 (vn),de P "__loader__" 168 (Value.builtin "__main__.__loader__#opaque"),de P "__spec__" 169 (vn),de P "__annotations__" 170 (vr 6),de P "__builtins__" 171 (vr 4),de P "__file__" 173 (vf 172),de P "__cached__" 174 (vn),de P "_wall" 193 (vr 21),de P "ScribeError" 225 (vr 39),de P "BadName" 250 (vr 60),de P "BadBounds" 275 (vr 80),de P "BadTest" 300 (vr 100),de P "Taken" 325 (vr 120),de P "Full" 350 (vr 140),de P "BadValue" 375 (vr 159),de P "Missing" 405 (vr 179),de P "LIMIT" 409 (vi 999999 408),de P "MOST_LETTERS" 411 (vi 8 410),de P "MOST_FIELDS" 413 (vi 4 412),de P "is_name" 420 (vr 189),de P "need_name" 427 (vr 196),de P "need_fields" 438 (vr 203),de P "bounds_text" 444 (vr 208),de P "Kind" 539 (vr 283)] 26 }
noncomputable def V5:Obj:={ cls:=vn,data:=Data.fields #[vi 1 0,vi 0 0,vr 20,vi 5 0,vi 0 0,vr 27,vi 10 0,vi 0 0,vr 48,vi 14 0,vi 0 0,vr 68,vi 18 0,vi 0 0,vr 88,vi 22 0,vi 0 0,vr 108,vi 26 0,vi 0 0,vr 128,vi 30 0,vi 0 0,vr 148,vi 35 0,vi 0 0,vr 167,vi 44 0,vi 0 0,vr 188,vi 46 0,vi 0 0,vr 195,vi 49 0,vi 0 0,vr 202,vi 58 0,vi 0 0,vr 207,vi 60 0,vi 0 0,vr 214] }
noncomputable def Qt:Obj:={ cls:=vt "type",data:=Data.cls { name:=u "ScribeError",bases:=[vt "ValueError"],mro:=[vr 39,vt "ValueError",vt "Exception",vt "BaseException",vt "object"],ns:=38,qualname:=u "ScribeError",subclasses:=[vr 60,vr 80,vr 100,vr 120,vr 140,vr 159] },slots:=#[some (vr 22),none,some (vs "ScribeError" 196),some z5,some (Value.builtin "ValueError.__new__"),some (vb)] }
noncomputable def TJ (P:Params):Obj:={ cls:=vt "dict",data:=Data.dict #[de P "__module__" 333 z1,de P "__qualname__" 335 (vs "Full" 334),de P "__firstlineno__" 337 (vi 26 336),de P "__init__" 346 (vr 137),de P "__static_attributes__" 347 (vr 138)] 5 }
noncomputable def Ue:Obj:={ cls:=vn,data:=Data.fields #[vi 28 0,vi 4 0,vr 136] }
noncomputable def U5:Obj:=oc #[vs "Full" 328,vs "Full" 329,vf 330,vi 26 0,vi 0 0,vi 0 0,vi 0 0,vi 0 0,vr 126,Value.bool false,vi 181 0,vr 127,vn,vn,vn,vn,vi 331 0,vi 26 0,vf 332]
noncomputable def Tw:Obj:={ cls:=vt "frame",slots:=#[some (vr 128),some (vr 3),some (vr 125),none,some z1,none,some (vr 0)] }
noncomputable def Tc:Obj:=ot #[vs "" 338]
noncomputable def Qg:Obj:=ot #[vs "self" 342,vs "words" 343]
noncomputable def U8:Obj:=gm "__init__" "Full.__init__" 7 0
noncomputable def Tu:Obj:=oq "__init__" 339 "Full.__init__" 340 341 28 2 131 132 (vr 133) (vr 134) (vr 135) 344 345
noncomputable def RL:Obj:=fm "__init__" "Full.__init__" 7 0 (vr 130) z1 (vr 136)
noncomputable def RV (P:Params):Obj:={ cls:=vt "dict",data:=Data.dict #[de P "__module__" 333 z1,de P "__firstlineno__" 337 (vi 26 336),de P "__init__" 346 (vr 137),de P "__static_attributes__" 347 (vr 138),de P "__doc__" 348 (vn)] 2 }
noncomputable def SN:Obj:={ cls:=vt "type",data:=Data.cls { name:=u "Full",bases:=[vr 39],mro:=[vr 140,vr 39,vt "ValueError",vt "Exception",vt "BaseException",vt "object"],ns:=139,qualname:=u "Full" },slots:=#[some (vr 123),none,some (vs "Full" 326),some (vs "Full" 334),some (Value.builtin "ValueError.__new__"),some (vb)] }
noncomputable def Ua:Obj:={ cls:=vt "super",data:=Data.fields #[vr 140,vr 140,vr 140] }
noncomputable def U3:Obj:={ cls:=vt "builtin_function_or_method",data:=Data.fields #[Value.builtin "object.__init_subclass__",vr 140] }
noncomputable def Uk (P:Params):Obj:={ cls:=vt "dict",data:=Data.dict #[de P "__module__" 358 z1,de P "__qualname__" 360 (vs "BadValue" 359),de P "__firstlineno__" 362 (vi 30 361),de P "__init__" 370 (vr 156),de P "__static_attributes__" 372 (vr 157)] 5 }
noncomputable def U0:Obj:={ cls:=vn,data:=Data.fields #[vi 32 0,vi 4 0,vr 155] }
noncomputable def Ui:Obj:=oc #[vs "BadValue" 353,vs "BadValue" 354,vf 355,vi 30 0,vi 0 0,vi 0 0,vi 0 0,vi 0 0,vr 146,Value.bool false,vi 181 0,vr 147,vn,vn,vn,vn,vi 356 0,vi 30 0,vf 357]
noncomputable def Tv:Obj:={ cls:=vt "frame",slots:=#[some (vr 148),some (vr 3),some (vr 145),none,some z1,none,some (vr 0)] }
noncomputable def o100:Obj:=ot #[vs "self" 366,vs "at" 367]
noncomputable def O9:Obj:=gm "__init__" "BadValue.__init__" 8 0
noncomputable def D_:Obj:=oq "__init__" 363 "BadValue.__init__" 364 365 32 2 150 151 (vr 152) (vr 153) (vr 154) 368 369
noncomputable def Eu:Obj:=fm "__init__" "BadValue.__init__" 8 0 vn z1 (vr 155)
noncomputable def Ec:Obj:=ot #[vs "at" 371]
noncomputable def Fv (P:Params):Obj:={ cls:=vt "dict",data:=Data.dict #[de P "__module__" 358 z1,de P "__firstlineno__" 362 (vi 30 361),de P "__init__" 370 (vr 156),de P "__static_attributes__" 372 (vr 157),de P "__doc__" 373 (vn)] 2 }
noncomputable def Fw:Obj:={ cls:=vt "type",data:=Data.cls { name:=u "BadValue",bases:=[vr 39],mro:=[vr 159,vr 39,vt "ValueError",vt "Exception",vt "BaseException",vt "object"],ns:=158,qualname:=u "BadValue" },slots:=#[some (vr 143),none,some (vs "BadValue" 351),some (vs "BadValue" 359),some (Value.builtin "ValueError.__new__"),some (vb)] }
noncomputable def JN:Obj:={ cls:=vt "super",data:=Data.fields #[vr 159,vr 159,vr 159] }
noncomputable def Km:Obj:={ cls:=vt "builtin_function_or_method",data:=Data.fields #[Value.builtin "object.__init_subclass__",vr 159] }
noncomputable def El:Obj:=ot #[vt "LookupError"]
noncomputable def M6 (P:Params):Obj:={ cls:=vt "dict",data:=Data.dict #[de P "__module__" 383 z1,de P "__qualname__" 385 (vs "Missing" 384),de P "__firstlineno__" 387 (vi 35 386),de P "__init__" 398 (vr 176),de P "__static_attributes__" 400 (vr 177)] 5 }
noncomputable def o111:Obj:={ cls:=vn,data:=Data.fields #[vi 37 0,vi 4 0,vr 175] }
noncomputable def Lj:Obj:=oc #[vs "Missing" 378,vs "Missing" 379,vf 380,vi 35 0,vi 0 0,vi 0 0,vi 0 0,vi 0 0,vr 165,Value.bool false,vi 181 0,vr 166,vn,vn,vn,vn,vi 381 0,vi 35 0,vf 382]
noncomputable def Lq:Obj:={ cls:=vt "frame",slots:=#[some (vr 167),some (vr 3),some (vr 164),none,some z1,none,some (vr 0)] }
noncomputable def FT:Obj:=ot #[vs "" 388,vs "missing" 389]
noncomputable def Di:Obj:=ot #[vs "self" 393,vs "words" 394,vs "word" 395]
noncomputable def JB:Obj:=gm "__init__" "Missing.__init__" 9 0
noncomputable def DK:Obj:=oq "__init__" 390 "Missing.__init__" 391 392 37 3 170 171 (vr 172) (vr 173) (vr 174) 396 397
noncomputable def Fe:Obj:=fm "__init__" "Missing.__init__" 9 0 (vr 169) z1 (vr 175)
noncomputable def Fy:Obj:=ot #[vs "word" 399]
noncomputable def C_ (P:Params):Obj:={ cls:=vt "dict",data:=Data.dict #[de P "__module__" 383 z1,de P "__firstlineno__" 387 (vi 35 386),de P "__init__" 398 (vr 176),de P "__static_attributes__" 400 (vr 177),de P "__weakref__" 402 (vr 180),de P "__doc__" 403 (vn)] 3 }
noncomputable def Gw:Obj:={ cls:=vt "type",data:=Data.cls { name:=u "Missing",bases:=[vt "LookupError"],mro:=[vr 179,vt "LookupError",vt "Exception",vt "BaseException",vt "object"],ns:=178,qualname:=u "Missing" },slots:=#[some (vr 162),none,some (vs "Missing" 376),some (vs "Missing" 384),some (Value.builtin "LookupError.__new__"),some (vb)] }
noncomputable def Ex:Obj:={ cls:=vt "getset_descriptor",data:=Data.fields #[vs "__weakref__" 401,vr 179,Value.builtin "ExceptionGroup.__weakref__",vn] }
noncomputable def Nq:Obj:={ cls:=vt "super",data:=Data.fields #[vr 179,vr 179,vr 179] }
noncomputable def JZ:Obj:={ cls:=vt "builtin_function_or_method",data:=Data.fields #[Value.builtin "object.__init_subclass__",vr 179] }
noncomputable def Gg:Obj:=ot #[vs "text" 417]
noncomputable def Jh:Obj:=gt "is_name" 14
noncomputable def Gq:Obj:=ok "is_name" 414 415 416 44 1 183 184 (vr 185) (vr 186) (vr 187) 418 419
noncomputable def Hl:Obj:=ft "is_name" 14 vn z3 (vr 188)
noncomputable def FP:Obj:=ot #[vs "text" 424]
noncomputable def Ls:Obj:=gt "need_name" 15
noncomputable def Gy:Obj:=ok "need_name" 421 422 423 46 1 190 191 (vr 192) (vr 193) (vr 194) 425 426
noncomputable def Gj:Obj:=ft "need_name" 15 vn z3 (vr 195)
noncomputable def DY:Obj:=ot #[vs "fields" 431,vs "seen" 432,vs "name" 433,vs "low" 434,vs "high" 435]
noncomputable def Ia:Obj:=gt "need_fields" 16
noncomputable def EY:Obj:=ok "need_fields" 428 429 430 49 1 197 198 (vr 199) (vr 200) (vr 201) 436 437
noncomputable def Gf:Obj:=ft "need_fields" 16 vn z3 (vr 202)
noncomputable def NK:Obj:=gt "bounds_text" 17
noncomputable def GX:Obj:=ok "bounds_text" 439 440 441 58 1 204 205 vn vn (vr 206) 442 443
noncomputable def DG:Obj:=ft "bounds_text" 17 vn z3 (vr 207)
noncomputable def Mr (P:Params):Obj:={ cls:=vt "dict",data:=Data.dict #[de P "__module__" 452 z3,de P "__qualname__" 454 (vs "Kind" 453),de P "__firstlineno__" 456 (vi 60 455),de P "__init__" 465 (vr 224),de P "lowest" 472 (vr 231),de P "cells" 479 (vr 238),de P "place_of" 491 (vr 245),de P "need" 499 (vr 252),de P "__eq__" 507 (vr 259),de P "__len__" 514 (vr 266),de P "__str__" 521 (vr 273),de P "__repr__" 528 (vr 280),de P "__static_attributes__" 531 (vr 281)] 13 }
noncomputable def Ik:Obj:={ cls:=vn,data:=Data.fields #[vi 62 0,vi 4 0,vr 223,vi 70 0,vi 4 0,vr 230,vi 73 0,vi 4 0,vr 237,vi 76 0,vi 4 0,vr 244,vi 82 0,vi 4 0,vr 251,vi 85 0,vi 4 0,vr 258,vi 88 0,vi 4 0,vr 265,vi 91 0,vi 4 0,vr 272,vi 94 0,vi 4 0,vr 279] }
noncomputable def LK:Obj:=oc #[vs "Kind" 447,vs "Kind" 448,vf 449,vi 60 0,vi 0 0,vi 0 0,vi 0 0,vi 0 0,vr 212,Value.bool false,vi 181 0,vr 213,vn,vn,vn,vn,vi 450 0,vi 60 0,vf 451]
noncomputable def J9:Obj:={ cls:=vt "frame",slots:=#[some (vr 214),some (vr 3),some (vr 211),none,some z3,none,some (vr 0)] }
noncomputable def Fb:Obj:=ot #[vr 216]
noncomputable def Do:Obj:=ot #[vs "self" 460,vs "name" 461,vs "fields" 462]
noncomputable def Ie:Obj:=gm "__init__" "Kind.__init__" 18 0
noncomputable def Gs:Obj:=oq "__init__" 457 "Kind.__init__" 458 459 62 3 218 219 (vr 220) (vr 221) (vr 222) 463 464
noncomputable def Ey:Obj:=fm "__init__" "Kind.__init__" 18 0 (vr 217) z3 (vr 223)
noncomputable def Fi:Obj:=ot #[vs "self" 469]
noncomputable def Nf:Obj:=gm "lowest" "Kind.lowest" 18 1
noncomputable def G5:Obj:=oq "lowest" 466 "Kind.lowest" 467 468 70 1 225 226 (vr 227) (vr 228) (vr 229) 470 471
noncomputable def Dp:Obj:=fm "lowest" "Kind.lowest" 18 1 vn z3 (vr 230)
noncomputable def G8:Obj:=ot #[vs "self" 476]
noncomputable def O8:Obj:=gm "cells" "Kind.cells" 18 2
noncomputable def Ew:Obj:=oq "cells" 473 "Kind.cells" 474 475 73 1 232 233 (vr 234) (vr 235) (vr 236) 477 478
noncomputable def Hc:Obj:=fm "cells" "Kind.cells" 18 2 vn z3 (vr 237)
noncomputable def DR:Obj:=ot #[vs "self" 483,vs "field" 484,vs "at" 485,vs "name" 486,vs "low" 487,vs "high" 488]
noncomputable def Js:Obj:=gm "place_of" "Kind.place_of" 18 3
noncomputable def Fq:Obj:=oq "place_of" 480 "Kind.place_of" 481 482 76 2 239 240 (vr 241) (vr 242) (vr 243) 489 490
noncomputable def Ej:Obj:=fm "place_of" "Kind.place_of" 18 3 vn z3 (vr 244)
noncomputable def Ds:Obj:=ot #[vs "self" 495,vs "values" 496]
noncomputable def Ig:Obj:=gm "need" "Kind.need" 18 4
noncomputable def Gx:Obj:=oq "need" 492 "Kind.need" 493 494 82 2 246 247 (vr 248) (vr 249) (vr 250) 497 498
noncomputable def Hj:Obj:=fm "need" "Kind.need" 18 4 vn z3 (vr 251)
noncomputable def Eh:Obj:=ot #[vs "self" 503,vs "other" 504]
noncomputable def O7:Obj:=gm "__eq__" "Kind.__eq__" 18 5
noncomputable def Em:Obj:=oq "__eq__" 500 "Kind.__eq__" 501 502 85 2 253 254 (vr 255) (vr 256) (vr 257) 505 506
noncomputable def Hk:Obj:=fm "__eq__" "Kind.__eq__" 18 5 vn z3 (vr 258)
noncomputable def Eg:Obj:=ot #[vs "self" 511]
noncomputable def MJ:Obj:=gm "__len__" "Kind.__len__" 18 6
noncomputable def Ff:Obj:=oq "__len__" 508 "Kind.__len__" 509 510 88 1 260 261 (vr 262) (vr 263) (vr 264) 512 513
noncomputable def De:Obj:=fm "__len__" "Kind.__len__" 18 6 vn z3 (vr 265)
noncomputable def Er:Obj:=ot #[vs "self" 518]
noncomputable def O3:Obj:=gm "__str__" "Kind.__str__" 18 7
noncomputable def Dc:Obj:=oq "__str__" 515 "Kind.__str__" 516 517 91 1 267 268 (vr 269) (vr 270) (vr 271) 519 520
noncomputable def CV:Obj:=fm "__str__" "Kind.__str__" 18 7 vn z3 (vr 272)
noncomputable def Dl:Obj:=ot #[vs "self" 525]
noncomputable def Kp:Obj:=gm "__repr__" "Kind.__repr__" 18 8
noncomputable def G4:Obj:=oq "__repr__" 522 "Kind.__repr__" 523 524 94 1 274 275 (vr 276) (vr 277) (vr 278) 526 527
noncomputable def Dh:Obj:=fm "__repr__" "Kind.__repr__" 18 8 vn z3 (vr 279)
noncomputable def Fg:Obj:=ot #[vs "fields" 529,vs "name" 530]
noncomputable def G7 (P:Params):Obj:={ cls:=vt "dict",data:=Data.dict #[de P "__module__" 452 z3,de P "__firstlineno__" 456 (vi 60 455),de P "__init__" 465 (vr 224),de P "lowest" 472 (vr 231),de P "cells" 479 (vr 238),de P "place_of" 491 (vr 245),de P "need" 499 (vr 252),de P "__eq__" 507 (vr 259),de P "__len__" 514 (vr 266),de P "__str__" 521 (vr 273),de P "__repr__" 528 (vr 280),de P "__static_attributes__" 531 (vr 281),de P "__dict__" 533 (vr 284),de P "__weakref__" 535 (vr 285),de P "__doc__" 536 (vn),de P "__hash__" 537 (vn)] 5 }
noncomputable def Dy:Obj:={ cls:=vt "type",data:=Data.cls { name:=u "Kind",bases:=[vt "object"],mro:=[vr 283,vt "object"],ns:=282,qualname:=u "Kind" },slots:=#[none,none,some (vs "Kind" 445),some (vs "Kind" 453),some (Value.builtin "object.__new__"),some (vb)] }
noncomputable def G6:Obj:={ cls:=vt "getset_descriptor",data:=Data.fields #[vs "__dict__" 532,vr 283,Value.builtin "function.__dict__",Value.builtin "function.__dict__#set"] }
noncomputable def Ez:Obj:={ cls:=vt "getset_descriptor",data:=Data.fields #[vs "__weakref__" 534,vr 283,Value.builtin "ExceptionGroup.__weakref__",vn] }
noncomputable def Je:Obj:={ cls:=vt "super",data:=Data.fields #[vr 283,vr 283,vr 283] }
noncomputable def NQ:Obj:={ cls:=vt "builtin_function_or_method",data:=Data.fields #[Value.builtin "object.__init_subclass__",vr 283] }
noncomputable def Qk (P:Params):Obj:={ cls:=vt "dict",data:=Data.dict #[de P "__name__" 165 z2,de P "__doc__" 166 (vn),de P "__package__" 167 (vn),de P "__loader__" 168 (Value.builtin "__main__.__loader__#opaque"),de P "__spec__" 169 (vn),de P "__annotations__" 170 (vr 6),de P "__builtins__" 171 (vr 4),de P "__file__" 173 (vf 172),de P "__cached__" 174 (vn),de P "_wall" 193 (vr 21),de P "ScribeError" 225 (vr 39),de P "BadName" 250 (vr 60),de P "BadBounds" 275 (vr 80),de P "BadTest" 300 (vr 100),de P "Taken" 325 (vr 120),de P "Full" 350 (vr 140),de P "BadValue" 375 (vr 159),de P "Missing" 405 (vr 179),de P "LIMIT" 409 (vi 999999 408),de P "MOST_LETTERS" 411 (vi 8 410),de P "MOST_FIELDS" 413 (vi 4 412),de P "is_name" 420 (vr 189),de P "need_name" 427 (vr 196),de P "need_fields" 438 (vr 203),de P "bounds_text" 444 (vr 208),de P "Kind" 539 (vr 283),de P "MOST_PARTS" 543 (vi 15 542),de P "MOST_DEEP" 545 (vi 5 544),de P "WITHIN" 555 (vr 288),de P "SIGN_OF" 562 (vr 289),de P "is_word" 569 (vr 296),de P "is_number" 576 (vr 303),de P "is_leaf" 584 (vr 310),de P "count_parts" 590 (vr 315),de P "is_test" 597 (vr 322),de P "need_test" 604 (vr 329),de P "leaves_within" 613 (vr 336),de P "passes" 623 (vr 343),de P "passes_leaf" 634 (vr 350),de P "parted" 644 (vr 357),de P "corners" 650 (vr 362),de P "turns" 656 (vr 367),de P "_law_begin" 667 (vr 374),de P "_law_pick" 678 (vr 381),de P "_law_of" 686 (vr 388),de P "_law_far" 694 (vr 395),de P "_law_same" 700 (vr 400),de P "_law_word" 706 (vr 405),de P "_law_words" 718 (vr 412),de P "_law_is_name" 724 (vr 417),de P "_law_ask" 734 (vr 424),de P "_law_odd_name" 743 (vr 431),de P "_law_number" 750 (vr 438),de P "_law_leaf" 760 (vr 445),de P "_law_tree" 772 (vr 452),de P "_law_parts" 778 (vr 457),de P "_law_deep" 784 (vr 462)] 57 }
noncomputable def QC:Obj:={ cls:=vn,data:=Data.fields #[vi 1 0,vi 0 0,vr 20,vi 5 0,vi 0 0,vr 27,vi 10 0,vi 0 0,vr 48,vi 14 0,vi 0 0,vr 68,vi 18 0,vi 0 0,vr 88,vi 22 0,vi 0 0,vr 108,vi 26 0,vi 0 0,vr 128,vi 30 0,vi 0 0,vr 148,vi 35 0,vi 0 0,vr 167,vi 44 0,vi 0 0,vr 188,vi 46 0,vi 0 0,vr 195,vi 49 0,vi 0 0,vr 202,vi 58 0,vi 0 0,vr 207,vi 60 0,vi 0 0,vr 214,vi 101 0,vi 0 0,vr 295,vi 103 0,vi 0 0,vr 302,vi 105 0,vi 0 0,vr 309,vi 112 0,vi 0 0,vr 314,vi 121 0,vi 0 0,vr 321,vi 123 0,vi 0 0,vr 328,vi 126 0,vi 0 0,vr 335,vi 133 0,vi 0 0,vr 342,vi 142 0,vi 0 0,vr 349,vi 152 0,vi 0 0,vr 356,vi 159 0,vi 0 0,vr 361,vi 165 0,vi 0 0,vr 366,vi 174 0,vi 0 0,vr 373,vi 179 0,vi 0 0,vr 380,vi 194 0,vi 0 0,vr 387,vi 196 0,vi 0 0,vr 394,vi 199 0,vi 0 0,vr 399,vi 209 0,vi 0 0,vr 404,vi 215 0,vi 0 0,vr 411,vi 224 0,vi 0 0,vr 416,vi 226 0,vi 0 0,vr 423,vi 238 0,vi 0 0,vr 430,vi 241 0,vi 0 0,vr 437,vi 243 0,vi 0 0,vr 444,vi 250 0,vi 0 0,vr 451,vi 258 0,vi 0 0,vr 456,vi 262 0,vi 0 0,vr 461] }
noncomputable def K1 (P:Params):Obj:={ cls:=vt "dict",data:=Data.dict #[de P "not" 546 (vi 1 547),de P "and" 548 (vi 2 549),de P "or" 550 (vi 2 551)] 3 }
noncomputable def Ny (P:Params):Obj:={ cls:=vt "dict",data:=Data.dict #[de P "less" 556 (vs "<" 557),de P "same" 558 (vs "=" 559)] 2 }
noncomputable def NP:Obj:=ot #[vs "thing" 566]
noncomputable def QM:Obj:=gt "is_word" 24
noncomputable def Mq:Obj:=ok "is_word" 563 564 565 101 1 290 291 (vr 292) (vr 293) (vr 294) 567 568
noncomputable def Ke:Obj:=ft "is_word" 24 vn z4 (vr 295)
noncomputable def J3:Obj:=ot #[vs "thing" 573]
noncomputable def Qp:Obj:=gt "is_number" 25
noncomputable def Ja:Obj:=ok "is_number" 570 571 572 103 1 297 298 (vr 299) (vr 300) (vr 301) 574 575
noncomputable def Mp:Obj:=ft "is_number" 25 vn z4 (vr 302)
noncomputable def o200:Obj:=ot #[vs "test" 580,vs "form" 581]
noncomputable def Tg:Obj:=gt "is_leaf" 26
noncomputable def KH:Obj:=ok "is_leaf" 577 578 579 105 1 304 305 (vr 306) (vr 307) (vr 308) 582 583
noncomputable def Kc:Obj:=ft "is_leaf" 26 vn z4 (vr 309)
noncomputable def QJ:Obj:=gt "count_parts" 27
noncomputable def Mz:Obj:=ok "count_parts" 585 586 587 112 2 311 312 vn vn (vr 313) 588 589
noncomputable def IV:Obj:=ft "count_parts" 27 vn z4 (vr 314)
noncomputable def KZ:Obj:=ot #[vs "test" 594]
noncomputable def QK:Obj:=gt "is_test" 28
noncomputable def Hv:Obj:=ok "is_test" 591 592 593 121 1 316 317 (vr 318) (vr 319) (vr 320) 595 596
noncomputable def La:Obj:=ft "is_test" 28 vn z4 (vr 321)
noncomputable def M4:Obj:=ot #[vs "test" 601]
noncomputable def Qu:Obj:=gt "need_test" 29
noncomputable def Ky:Obj:=ok "need_test" 598 599 600 123 1 323 324 (vr 325) (vr 326) (vr 327) 602 603
noncomputable def HY:Obj:=ft "need_test" 29 vn z4 (vr 328)
noncomputable def O4:Obj:=ot #[vs "test" 608,vs "found" 609,vs "part" 610]
noncomputable def Q6:Obj:=gt "leaves_within" 30
noncomputable def N7:Obj:=ok "leaves_within" 605 606 607 126 1 330 331 (vr 332) (vr 333) (vr 334) 611 612
noncomputable def HN:Obj:=ft "leaves_within" 30 vn z4 (vr 335)
noncomputable def Jt:Obj:=ot #[vs "test" 617,vs "kind" 618,vs "values" 619,vs "form" 620]
noncomputable def S7:Obj:=gt "passes" 31
noncomputable def HD:Obj:=ok "passes" 614 615 616 133 3 337 338 (vr 339) (vr 340) (vr 341) 621 622
noncomputable def LQ:Obj:=ft "passes" 31 vn z4 (vr 342)
noncomputable def J8:Obj:=ot #[vs "leaf" 627,vs "kind" 628,vs "values" 629,vs "form" 630,vs "place" 631]
noncomputable def Qm:Obj:=gt "passes_leaf" 32
noncomputable def Ka:Obj:=ok "passes_leaf" 624 625 626 142 3 344 345 (vr 346) (vr 347) (vr 348) 632 633
noncomputable def M5:Obj:=ft "passes_leaf" 32 vn z4 (vr 349)
noncomputable def Ku:Obj:=ot #[vs "one" 638,vs "other" 639,vs "kind" 640,vs "values" 641]
noncomputable def Tp:Obj:=gt "parted" 33
noncomputable def Jr:Obj:=ok "parted" 635 636 637 152 3 351 352 (vr 353) (vr 354) (vr 355) 642 643
noncomputable def NT:Obj:=ft "parted" 33 vn z4 (vr 356)
noncomputable def Rk:Obj:=gt "corners" 34
noncomputable def Lr:Obj:=ok "corners" 645 646 647 159 2 358 359 vn vn (vr 360) 648 649
noncomputable def J0:Obj:=ft "corners" 34 vn z4 (vr 361)
noncomputable def R6:Obj:=gt "turns" 35
noncomputable def Hx:Obj:=ok "turns" 651 652 653 165 4 363 364 vn vn (vr 365) 654 655
noncomputable def Lh:Obj:=ft "turns" 35 vn z4 (vr 366)
noncomputable def Jx:Obj:=ot #[vs "_law_script" 662,vs "_law_seed" 663,vs "_law_cell" 664]
noncomputable def R_:Obj:=gt "_law_begin" 37
noncomputable def Jv:Obj:=ok "_law_begin" 659 660 661 174 1 368 369 (vr 370) (vr 371) (vr 372) 665 666
noncomputable def Ib:Obj:=ft "_law_begin" 37 vn z2 (vr 373)
noncomputable def HF:Obj:=ot #[vs "_law_d" 671,vs "_law_many" 672,vs "_law_cell" 673,vs "_law_digit" 674,vs "_law_one" 675]
noncomputable def QL:Obj:=gt "_law_pick" 38
noncomputable def JS:Obj:=ok "_law_pick" 668 669 670 179 2 375 376 (vr 377) (vr 378) (vr 379) 676 677
noncomputable def HH:Obj:=ft "_law_pick" 38 vn z2 (vr 380)
noncomputable def IK:Obj:=ot #[vs "_law_d" 682,vs "_law_things" 683]
noncomputable def T9:Obj:=gt "_law_of" 39
noncomputable def Nv:Obj:=ok "_law_of" 679 680 681 194 2 382 383 (vr 384) (vr 385) (vr 386) 684 685
noncomputable def Kw:Obj:=ft "_law_of" 39 vn z2 (vr 387)
noncomputable def Nz:Obj:=ot #[vs "_law_d" 690,vs "_law_number_here" 691]
noncomputable def QF:Obj:=gt "_law_far" 40
noncomputable def Kl:Obj:=ok "_law_far" 687 688 689 196 1 389 390 (vr 391) (vr 392) (vr 393) 692 693
noncomputable def Mj:Obj:=ft "_law_far" 40 vn z2 (vr 394)
noncomputable def RJ:Obj:=gt "_law_same" 41
noncomputable def IW:Obj:=ok "_law_same" 695 696 697 199 2 396 397 vn vn (vr 398) 698 699
noncomputable def Jz:Obj:=ft "_law_same" 41 vn z2 (vr 399)
noncomputable def Tn:Obj:=gt "_law_word" 42
noncomputable def JD:Obj:=ok "_law_word" 701 702 703 209 1 401 402 vn vn (vr 403) 704 705
noncomputable def HR:Obj:=ft "_law_word" 42 vn z2 (vr 404)
noncomputable def JR:Obj:=ot #[vs "_law_d" 710,vs "_law_many" 711,vs "_law_found" 712,vs "_law_k" 713,vs "_law_word_here" 714,vs "_law_step" 715]
noncomputable def Qj:Obj:=gt "_law_words" 43
noncomputable def K6:Obj:=ok "_law_words" 707 708 709 215 2 406 407 (vr 408) (vr 409) (vr 410) 716 717
noncomputable def K4:Obj:=ft "_law_words" 43 vn z2 (vr 411)
noncomputable def Sw:Obj:=gt "_law_is_name" 44
noncomputable def Mf:Obj:=ok "_law_is_name" 719 720 721 224 1 413 414 vn vn (vr 415) 722 723
noncomputable def O5:Obj:=ft "_law_is_name" 44 vn z2 (vr 416)
noncomputable def Ni:Obj:=ot #[vs "_law_ask_here" 728,vs "_law_told" 729,vs "_law_word_here" 730,vs "e" 731]
noncomputable def Sy:Obj:=gt "_law_ask" 45
noncomputable def Ml:Obj:=ok "_law_ask" 725 726 727 226 1 418 419 (vr 420) (vr 421) (vr 422) 732 733
noncomputable def Jg:Obj:=ft "_law_ask" 45 vn z2 (vr 423)
noncomputable def Lg:Obj:=ot #[vs "_law_d" 738,vs "_law_text" 739,vs "_law_odd" 740]
noncomputable def Ro:Obj:=gt "_law_odd_name" 46
noncomputable def M_:Obj:=ok "_law_odd_name" 735 736 737 238 2 425 426 (vr 427) (vr 428) (vr 429) 741 742
noncomputable def O1:Obj:=ft "_law_odd_name" 46 vn z2 (vr 430)
noncomputable def K5:Obj:=ot #[vs "_law_d" 747]
noncomputable def Q0:Obj:=gt "_law_number" 47
noncomputable def KN:Obj:=ok "_law_number" 744 745 746 241 1 432 433 (vr 434) (vr 435) (vr 436) 748 749
noncomputable def Jc:Obj:=ft "_law_number" 47 vn z2 (vr 437)
noncomputable def Jj:Obj:=ot #[vs "_law_d" 754,vs "_law_names" 755,vs "_law_kinds" 756,vs "_law_way" 757]
noncomputable def T8:Obj:=gt "_law_leaf" 48
noncomputable def JL:Obj:=ok "_law_leaf" 751 752 753 243 3 439 440 (vr 441) (vr 442) (vr 443) 758 759
noncomputable def HS:Obj:=ft "_law_leaf" 48 vn z2 (vr 444)
noncomputable def Iu:Obj:=ot #[vs "_law_d" 764,vs "_law_deep_here" 765,vs "_law_names" 766,vs "_law_kinds" 767,vs "_law_way" 768,vs "_law_word_here" 769]
noncomputable def Qi:Obj:=gt "_law_tree" 49
noncomputable def Ij:Obj:=ok "_law_tree" 761 762 763 250 4 446 447 (vr 448) (vr 449) (vr 450) 770 771
noncomputable def KD:Obj:=ft "_law_tree" 49 vn z2 (vr 451)
noncomputable def R4:Obj:=gt "_law_parts" 50
noncomputable def Nh:Obj:=ok "_law_parts" 773 774 775 258 1 453 454 vn vn (vr 455) 776 777
noncomputable def J5:Obj:=ft "_law_parts" 50 vn z2 (vr 456)
noncomputable def Q7:Obj:=gt "_law_deep" 51
noncomputable def JH:Obj:=ok "_law_deep" 779 780 781 262 1 458 459 vn vn (vr 460) 782 783
noncomputable def J7:Obj:=ft "_law_deep" 51 vn z2 (vr 461)
noncomputable def KK:Params->Frag:=fun P=>
 (nat_lit 2,{ cls:=vn,data:=Data.dict #[] })::
 (nat_lit 3,{ cls:=vt "dict",data:=Data.dict #[de P "__name__" 165 z2,de P "__doc__" 166 (vn),de P "__package__" 167 (vn),de P "__loader__" 168 (Value.builtin "__main__.__loader__#opaque"),de P "__spec__" 169 (vn),de P "__annotations__" 170 (vr 6),de P "__builtins__" 171 (vr 4),de P "__file__" 173 (vf 172),de P "__cached__" 174 (vn),de P "_wall" 193 (vr 21),de P "ScribeError" 225 (vr 39),de P "BadName" 250 (vr 60),de P "BadBounds" 275 (vr 80),de P "BadTest" 300 (vr 100),de P "Taken" 325 (vr 120),de P "Full" 350 (vr 140),de P "BadValue" 375 (vr 159),de P "Missing" 405 (vr 179),de P "LIMIT" 409 (vi 999999 408),de P "MOST_LETTERS" 411 (vi 8 410),de P "MOST_FIELDS" 413 (vi 4 412),de P "is_name" 420 (vr 189),de P "need_name" 427 (vr 196),de P "need_fields" 438 (vr 203),de P "bounds_text" 444 (vr 208),de P "Kind" 539 (vr 283),de P "MOST_PARTS" 543 (vi 15 542),de P "MOST_DEEP" 545 (vi 5 544),de P "WITHIN" 555 (vr 288),de P "SIGN_OF" 562 (vr 289),de P "is_word" 569 (vr 296),de P "is_number" 576 (vr 303),de P "is_leaf" 584 (vr 310),de P "count_parts" 590 (vr 315),de P "is_test" 597 (vr 322),de P "need_test" 604 (vr 329),de P "leaves_within" 613 (vr 336),de P "passes" 623 (vr 343),de P "passes_leaf" 634 (vr 350),de P "parted" 644 (vr 357),de P "corners" 650 (vr 362),de P "turns" 656 (vr 367),de P "_law_begin" 667 (vr 374),de P "_law_pick" 678 (vr 381),de P "_law_of" 686 (vr 388),de P "_law_far" 694 (vr 395),de P "_law_same" 700 (vr 400),de P "_law_word" 706 (vr 405),de P "_law_words" 718 (vr 412),de P "_law_is_name" 724 (vr 417),de P "_law_ask" 734 (vr 424),de P "_law_odd_name" 743 (vr 431),de P "_law_number" 750 (vr 438),de P "_law_leaf" 760 (vr 445),de P "_law_tree" 772 (vr 452),de P "_law_parts" 778 (vr 457),de P "_law_deep" 784 (vr 462),de P "_law_test" 794 (vr 469),de P "_law_leaf_ok" 801 (vr 476),de P "_law_shape_ok" 808 (vr 483),de P "_law_test_ok" 815 (vr 490),de P "_law_bent_test" 825 (vr 497),de P "_law_passes" 831 (vr 502),de P "_law_small_fields" 842 (vr 509),de P "_law_all_pairs" 848 (vr 514),de P "_law_parts_them" 859 (vr 521),de P "law" 865 (vr 526)] 67 })::
 (nat_lit 15,o0)::
 (nat_lit 17,o6)::
 (nat_lit 18,o0)::
 (nat_lit 20,o8)::
 (nat_lit 21,o9)::
 (nat_lit 22,PN)::
 (nat_lit 29,Om)::
 (nat_lit 30,o0)::
 (nat_lit 32,Px)::
 (nat_lit 33,o0)::
 (nat_lit 35,Pk)::
 (nat_lit 36,Ov)::
 (nat_lit 37,P0)::
 (nat_lit 38,Oc P)::
 (nat_lit 39,Qt)::
 (nat_lit 40,O_)::
 (nat_lit 43,nU)::
 (nat_lit 50,PK)::
 (nat_lit 51,o0)::
 (nat_lit 53,PQ)::
 (nat_lit 54,o0)::
 (nat_lit 56,PJ)::
 (nat_lit 57,Oh)::
 (nat_lit 58,o0)::
 (nat_lit 59,Ob P)::
 (nat_lit 60,Ot)::
 (nat_lit 63,nU)::
 (nat_lit 70,Ou)::
 (nat_lit 71,o0)::
 (nat_lit 73,Pg)::
 (nat_lit 74,o0)::
 (nat_lit 76,Pq)::
 (nat_lit 77,Ow)::
 (nat_lit 78,o0)::
 (nat_lit 79,Oj P)::
 (nat_lit 80,Pb)::
 (nat_lit 83,nU)::
 (nat_lit 90,PL)::
 (nat_lit 91,o0)::
 (nat_lit 93,Oz)::
 (nat_lit 94,o0)::
 (nat_lit 96,Oo)::
 (nat_lit 97,Pn)::
 (nat_lit 98,o0)::
 (nat_lit 99,Py P)::
 (nat_lit 100,Oq)::
 (nat_lit 103,nU)::
 (nat_lit 110,Ol)::
 (nat_lit 111,o0)::
 (nat_lit 113,OJ)::
 (nat_lit 114,o0)::
 (nat_lit 116,OD)::
 (nat_lit 117,PP)::
 (nat_lit 118,o0)::
 (nat_lit 119,Oe P)::
 (nat_lit 120,PB)::
 (nat_lit 123,nU)::
 (nat_lit 130,Tc)::
 (nat_lit 131,o0)::
 (nat_lit 133,Qg)::
 (nat_lit 134,o0)::
 (nat_lit 136,Tu)::
 (nat_lit 137,RL)::
 (nat_lit 138,o0)::
 (nat_lit 139,RV P)::
 (nat_lit 140,SN)::
 (nat_lit 143,nU)::
 (nat_lit 150,o0)::
 (nat_lit 152,o100)::
 (nat_lit 153,o0)::
 (nat_lit 155,D_)::
 (nat_lit 156,Eu)::
 (nat_lit 157,Ec)::
 (nat_lit 158,Fv P)::
 (nat_lit 159,Fw)::
 (nat_lit 162,El)::
 (nat_lit 169,FT)::
 (nat_lit 170,o0)::
 (nat_lit 172,Di)::
 (nat_lit 173,o0)::
 (nat_lit 175,DK)::
 (nat_lit 176,Fe)::
 (nat_lit 177,Fy)::
 (nat_lit 178,C_ P)::
 (nat_lit 179,Gw)::
 (nat_lit 180,Ex)::
 (nat_lit 183,o0)::
 (nat_lit 185,Gg)::
 (nat_lit 186,o0)::
 (nat_lit 188,Gq)::
 (nat_lit 189,Hl)::
 (nat_lit 190,o0)::
 (nat_lit 192,FP)::
 (nat_lit 193,o0)::
 (nat_lit 195,Gy)::
 (nat_lit 196,Gj)::
 (nat_lit 197,o0)::
 (nat_lit 199,DY)::
 (nat_lit 200,o0)::
 (nat_lit 202,EY)::
 (nat_lit 203,Gf)::
 (nat_lit 204,o0)::
 (nat_lit 207,GX)::
 (nat_lit 208,DG)::
 (nat_lit 216,o0)::
 (nat_lit 217,Fb)::
 (nat_lit 218,o0)::
 (nat_lit 220,Do)::
 (nat_lit 221,o0)::
 (nat_lit 223,Gs)::
 (nat_lit 224,Ey)::
 (nat_lit 225,o0)::
 (nat_lit 227,Fi)::
 (nat_lit 228,o0)::
 (nat_lit 230,G5)::
 (nat_lit 231,Dp)::
 (nat_lit 232,o0)::
 (nat_lit 234,G8)::
 (nat_lit 235,o0)::
 (nat_lit 237,Ew)::
 (nat_lit 238,Hc)::
 (nat_lit 239,o0)::
 (nat_lit 241,DR)::
 (nat_lit 242,o0)::
 (nat_lit 244,Fq)::
 (nat_lit 245,Ej)::
 (nat_lit 246,o0)::
 (nat_lit 248,Ds)::
 (nat_lit 249,o0)::
 (nat_lit 251,Gx)::
 (nat_lit 252,Hj)::
 (nat_lit 253,o0)::
 (nat_lit 255,Eh)::
 (nat_lit 256,o0)::
 (nat_lit 258,Em)::
 (nat_lit 259,Hk)::
 (nat_lit 260,o0)::
 (nat_lit 262,Eg)::
 (nat_lit 263,o0)::
 (nat_lit 265,Ff)::
 (nat_lit 266,De)::
 (nat_lit 267,o0)::
 (nat_lit 269,Er)::
 (nat_lit 270,o0)::
 (nat_lit 272,Dc)::
 (nat_lit 273,CV)::
 (nat_lit 274,o0)::
 (nat_lit 276,Dl)::
 (nat_lit 277,o0)::
 (nat_lit 279,G4)::
 (nat_lit 280,Dh)::
 (nat_lit 281,Fg)::
 (nat_lit 282,G7 P)::
 (nat_lit 283,Dy)::
 (nat_lit 284,G6)::
 (nat_lit 285,Ez)::
 (nat_lit 288,K1 P)::
 (nat_lit 289,Ny P)::
 (nat_lit 290,o0)::
 (nat_lit 292,NP)::
 (nat_lit 293,o0)::
 (nat_lit 295,Mq)::
 (nat_lit 296,Ke)::
 (nat_lit 297,o0)::
 (nat_lit 299,J3)::
 (nat_lit 300,o0)::
 (nat_lit 302,Ja)::
 (nat_lit 303,Mp)::
 (nat_lit 304,o0)::
 (nat_lit 306,o200)::
 (nat_lit 307,o0)::
 (nat_lit 309,KH)::
 (nat_lit 310,Kc)::
 (nat_lit 311,o0)::
 (nat_lit 314,Mz)::
 (nat_lit 315,IV)::
 (nat_lit 316,o0)::
 (nat_lit 318,KZ)::
 (nat_lit 319,o0)::
 (nat_lit 321,Hv)::
 (nat_lit 322,La)::
 (nat_lit 323,o0)::
 (nat_lit 325,M4)::
 (nat_lit 326,o0)::
 (nat_lit 328,Ky)::
 (nat_lit 329,HY)::
 (nat_lit 330,o0)::
 (nat_lit 332,O4)::
 (nat_lit 333,o0)::
 (nat_lit 335,N7)::
 (nat_lit 336,HN)::
 (nat_lit 337,o0)::
 (nat_lit 339,Jt)::
 (nat_lit 340,o0)::
 (nat_lit 342,HD)::
 (nat_lit 343,LQ)::
 (nat_lit 344,o0)::
 (nat_lit 346,J8)::
 (nat_lit 347,o0)::
 (nat_lit 349,Ka)::
 (nat_lit 350,M5)::
 (nat_lit 351,o0)::
 (nat_lit 353,Ku)::
 (nat_lit 354,o0)::
 (nat_lit 356,Jr)::
 (nat_lit 357,NT)::
 (nat_lit 358,o0)::
 (nat_lit 361,Lr)::
 (nat_lit 362,J0)::
 (nat_lit 363,o0)::
 (nat_lit 366,Hx)::
 (nat_lit 367,Lh)::
 (nat_lit 368,o0)::
 (nat_lit 370,Jx)::
 (nat_lit 371,o0)::
 (nat_lit 373,Jv)::
 (nat_lit 374,Ib)::
 (nat_lit 375,o0)::
 (nat_lit 377,HF)::
 (nat_lit 378,o0)::
 (nat_lit 380,JS)::
 (nat_lit 381,HH)::
 (nat_lit 382,o0)::
 (nat_lit 384,IK)::
 (nat_lit 385,o0)::
 (nat_lit 387,Nv)::
 (nat_lit 388,Kw)::
 (nat_lit 389,o0)::
 (nat_lit 391,Nz)::
 (nat_lit 392,o0)::
 (nat_lit 394,Kl)::
 (nat_lit 395,Mj)::
 (nat_lit 396,o0)::
 (nat_lit 399,IW)::
 (nat_lit 400,Jz)::
 (nat_lit 401,o0)::
 (nat_lit 404,JD)::
 (nat_lit 405,HR)::
 (nat_lit 406,o0)::
 (nat_lit 408,JR)::
 (nat_lit 409,o0)::
 (nat_lit 411,K6)::
 (nat_lit 412,K4)::
 (nat_lit 413,o0)::
 (nat_lit 416,Mf)::
 (nat_lit 417,O5)::
 (nat_lit 418,o0)::
 (nat_lit 420,Ni)::
 (nat_lit 421,o0)::
 (nat_lit 423,Ml)::
 (nat_lit 424,Jg)::
 (nat_lit 425,o0)::
 (nat_lit 427,Lg)::
 (nat_lit 428,o0)::
 (nat_lit 430,M_)::
 (nat_lit 431,O1)::
 (nat_lit 432,o0)::
 (nat_lit 434,K5)::
 (nat_lit 435,o0)::
 (nat_lit 437,KN)::
 (nat_lit 438,Jc)::
 (nat_lit 439,o0)::
 (nat_lit 441,Jj)::
 (nat_lit 442,o0)::
 (nat_lit 444,JL)::
 (nat_lit 445,HS)::
 (nat_lit 446,o0)::
 (nat_lit 448,Iu)::
 (nat_lit 449,o0)::
 (nat_lit 451,Ij)::
 (nat_lit 452,KD)::
 (nat_lit 453,o0)::
 (nat_lit 456,Nh)::
 (nat_lit 457,J5)::
 (nat_lit 458,o0)::
 (nat_lit 461,JH)::
 (nat_lit 462,J7)::
 (nat_lit 463,o0)::
 (nat_lit 465,ot #[vs "_law_d" 788,vs "_law_names" 789,vs "_law_kinds" 790,vs "_law_test_here" 791])::
 (nat_lit 466,o0)::
 (nat_lit 468,ok "_law_test" 785 786 787 266 3 463 464 (vr 465) (vr 466) (vr 467) 792 793)::
 (nat_lit 469,ft "_law_test" 52 vn z2 (vr 468))::
 (nat_lit 470,o0)::
 (nat_lit 472,ot #[vs "_law_test_here" 798])::
 (nat_lit 473,o0)::
 (nat_lit 475,ok "_law_leaf_ok" 795 796 797 269 1 470 471 (vr 472) (vr 473) (vr 474) 799 800)::
 (nat_lit 476,ft "_law_leaf_ok" 53 vn z2 (vr 475))::
 (nat_lit 477,o0)::
 (nat_lit 479,ot #[vs "_law_test_here" 805])::
 (nat_lit 480,o0)::
 (nat_lit 482,ok "_law_shape_ok" 802 803 804 279 1 477 478 (vr 479) (vr 480) (vr 481) 806 807)::
 (nat_lit 483,ft "_law_shape_ok" 54 vn z2 (vr 482))::
 (nat_lit 484,o0)::
 (nat_lit 486,ot #[vs "_law_test_here" 812])::
 (nat_lit 487,o0)::
 (nat_lit 489,ok "_law_test_ok" 809 810 811 287 1 484 485 (vr 486) (vr 487) (vr 488) 813 814)::
 (nat_lit 490,ft "_law_test_ok" 55 vn z2 (vr 489))::
 (nat_lit 491,o0)::
 (nat_lit 493,ot #[vs "_law_d" 819,vs "_law_test_here" 820,vs "_law_way" 821,vs "_law_at" 822])::
 (nat_lit 494,o0)::
 (nat_lit 496,ok "_law_bent_test" 816 817 818 289 2 491 492 (vr 493) (vr 494) (vr 495) 823 824)::
 (nat_lit 497,ft "_law_bent_test" 56 vn z2 (vr 496))::
 (nat_lit 498,o0)::
 (nat_lit 501,ok "_law_passes" 826 827 828 315 4 498 499 vn vn (vr 500) 829 830)::
 (nat_lit 502,ft "_law_passes" 57 vn z2 (vr 501))::
 (nat_lit 503,o0)::
 (nat_lit 505,ot #[vs "_law_d" 835,vs "_law_names" 836,vs "_law_found" 837,vs "_law_title" 838,vs "_law_low" 839])::
 (nat_lit 506,o0)::
 (nat_lit 508,ok "_law_small_fields" 832 833 834 329 1 503 504 (vr 505) (vr 506) (vr 507) 840 841)::
 (nat_lit 509,ft "_law_small_fields" 58 vn z2 (vr 508))::
 (nat_lit 510,o0)::
 (nat_lit 513,ok "_law_all_pairs" 843 844 845 336 2 510 511 vn vn (vr 512) 846 847)::
 (nat_lit 514,ft "_law_all_pairs" 59 vn z2 (vr 513))::
 (nat_lit 515,o0)::
 (nat_lit 517,ot #[vs "_law_one" 852,vs "_law_other" 853,vs "_law_title" 854,vs "_law_fields" 855,vs "_law_row" 856])::
 (nat_lit 518,o0)::
 (nat_lit 520,ok "_law_parts_them" 849 850 851 341 5 515 516 (vr 517) (vr 518) (vr 519) 857 858)::
 (nat_lit 521,ft "_law_parts_them" 60 vn z2 (vr 520))::
 (nat_lit 522,o0)::
 (nat_lit 525,ok "law" 860 861 862 343 1 522 523 vn vn (vr 524) 863 864)::
 (nat_lit 526,ft "law" 61 vn z2 (vr 525))::[]
noncomputable def RK:List Addr:=[2,3,15,17,18,20,21,22,29,30,32,33,35,36,37,38,39,40,43,50,51,53,54,56,57,58,59,60,63,70,71,73,74,76,77,78,79,80,83,90,91,93,94,96,97,98,99,100,103,110,111,113,114,116,117,118,119,120,123,130,131,133,134,136,137,138,139,140,143,150,152,153,155,156,157,158,159,162,169,170,172,173,175,176,177,178,179,180,183,185,186,188,189,190,192,193,195,196,197,199,200,202,203,204,207,208,216,217,218,220,221,223,224,225,227,228,230,231,232,234,235,237,238,239,241,242,244,245,246,248,249,251,252,253,255,256,258,259,260,262,263,265,266,267,269,270,272,273,274,276,277,279,280,281,282,283,284,285,288,289,290,292,293,295,296,297,299,300,302,303,304,306,307,309,310,311,314,315,316,318,319,321,322,323,325,326,328,329,330,332,333,335,336,337,339,340,342,343,344,346,347,349,350,351,353,354,356,357,358,361,362,363,366,367,368,370,371,373,374,375,377,378,380,381,382,384,385,387,388,389,391,392,394,395,396,399,400,401,404,405,406,408,409,411,412,413,416,417,418,420,421,423,424,425,427,428,430,431,432,434,435,437,438,439,441,442,444,445,446,448,449,451,452,453,456,457,458,461,462,463,465,466,468,469,470,472,473,475,476,477,479,480,482,483,484,486,487,489,490,491,493,494,496,497,498,501,502,503,505,506,508,509,510,513,514,515,517,518,520,521,522,525,526]
theorem eK:∀ P,RK=(KK P).map (·.1):=fun P=>by kernel_rfl
noncomputable def vw:Program:={ PySem.Challenge.pw_lanescribe_k07_whole_tests_held_against with main:={ PySem.Challenge.pw_lanescribe_k07_whole_tests_held_against.main with body:=[tp 0,tp 2,tp 3,tp 4,tp 5,tp 6,tp 7,tp 8,tp 9,tp 11,tp 12,tp 13,tp 14,tp 15,tp 16,tp 17,tp 18,tp 20,tp 21,tp 22,tp 23,tp 24,tp 25,tp 26,tp 27,tp 28,tp 29,tp 30,tp 31,tp 32,tp 33,tp 34,tp 35,tp 37,tp 38,tp 39,tp 40,tp 41,tp 42,tp 43,tp 44,tp 45,tp 46,tp 47,tp 48,tp 49,tp 50,tp 51,tp 52,tp 53,tp 54,tp 55,tp 56,tp 57,tp 58,tp 59,tp 60,tp 61] } }
noncomputable def ls:List Str:=[u "ScribeError",u "BadName",u "BadBounds",u "BadTest",u "Taken",u "Full",u "Missing",u "Kind",u "WITHIN",u "SIGN_OF"]
noncomputable def lv:List (Str×WData):=[]
noncomputable abbrev Xt:Shared->Bool:=fun s=>xlAt vw lv s && recOk (RowW.records (OpenRow.toRowW PySem.Challenge.rw_lanescribe_k07_whole_tests_held_against.row)) s
noncomputable abbrev hk:Hook:=kmHook KK RK eK [523]
theorem said:PySem.Challenge.rw_lanescribe_k07_whole_tests_held_against.wellSaid=true:=by kernel_rfl
theorem openP:opening (OpenRow.toRowW PySem.Challenge.rw_lanescribe_k07_whole_tests_held_against.row).prog=plainProg (OpenRow.toRowW PySem.Challenge.rw_lanescribe_k07_whole_tests_held_against.row).prog.main.scope.names:=by kernel_rfl
theorem yU {p:Program} {w:World} {N L:Nat} {s0 s':Shared} {t':Thread} {m0:Nat} {ann:Option Value} {β:Type} {F:Shared->β} {X:β} (h1:(s0.heap.isNs mainGlobals && s0.gens.size == 0)=true) (h2:s0.heap.objs.size=m0) (h3:s0.heap.nsMap mainGlobals "__annotations__" = ann)
 (chain:∀ r,topRun treeTable p w m0 ann L s' t'=some r->topRun treeTable p w m0 ann N s0 (topStub p)=some r)
 (last:((topRun treeTable p w m0 ann L s' t').bind fun s₁=>match staticsOk (importedModules p.main.body) s0.heap s₁.heap && namesBound p s₁.heap && gensDone s₁ && laidKept s0.heap s₁.heap with
  |true=>some s₁
  |false=>none).map F=some X):(topFrom treeTable p w N s0).map F=some X:=by
 cases hA:topRun treeTable p w m0 ann L s' t' with
 |none=>rw [hA] at last;cases last
 | some r=>
   have e:=chain r hA
   unfold topFrom
   rw [h1,h2,h3,e]
   rw [hA] at last
   exact last
noncomputable abbrev pp:Program:=(OpenRow.toRowW PySem.Challenge.rw_lanescribe_k07_whole_tests_held_against.row).prog
noncomputable def env:Env:={ scope:=pp.main.scope,locals:=mainNs,globals:=mainNs,cells:=[],code:=vr 13,frame:=some 14 }
noncomputable abbrev cd:Code:=.body (behindTheImports pp) env
noncomputable abbrev fp:Pos:={ line:=0,col:=0,endLine:=0,endCol:=0 }
noncomputable abbrev an:Option Value:=some (vr 6)
abbrev xP (w:World) (os:OsState):Shared:=⟨boot_heap w.params,Array.mk [],boot_drawn,boot_toks,os⟩
def Ux (P:Params):Heap:=⟨⟨boot_o_0 P::boot_o_1 P::boot_o_2 P::boot_o_3 P::boot_o_4 P::boot_o_5 P::boot_o_6 P::boot_o_7 P::boot_o_8 P::boot_o_9 P::boot_o_10 P::o0::o1::o2::o3::[]⟩,{ }⟩
abbrev T_ (w:World) (os:OsState):Shared:=⟨Ux w.params,Array.mk [],{ },187,os⟩
noncomputable abbrev Ug:Pos:={ line:=0,col:=0,endLine:=0,endCol:=0 }
def V7 (P:Params):Heap:=⟨⟨boot_o_0 P::boot_o_1 P::boot_o_2 P::boot_o_3 P::boot_o_4 P::boot_o_5 P::boot_o_6 P::boot_o_7 P::boot_o_8 P::boot_o_9 P::boot_o_10 P::o0::o1::o2::o3::[]⟩,{ }⟩
abbrev Q9 (w:World) (os:OsState):Shared:=⟨V7 w.params,Array.mk [],{ },187,os⟩
noncomputable abbrev Qd:Pos:={ line:=0,col:=0,endLine:=0,endCol:=0 }
theorem V2 (w:World) (os:OsState):topGo treeTable pp w 11 an 12 (xP w os) (topStub pp)=some (T_ w os,⟨denote treeTable cd,cd,Ug,[topFrame fp]⟩):=by (revert w os;refine (byRow2 "special-get-raises" ?_ ?_:∀ w,_) <;> (intro w os;kernel_rfl))
theorem Uz (w:World) (os:OsState):segRun treeTable pp w 11 an 1 1 (T_ w os) (blockOf (behindTheImports pp) env cd Ug [topFrame fp])=some (.next,Q9 w os,cd,Qd):=by (revert w os;refine (byRow2 "special-get-raises" ?_ ?_:∀ w,_) <;> (intro w os;kernel_rfl))
def S_ (P:Params):Heap:=⟨⟨boot_o_0 P::boot_o_1 P::boot_o_2 P::o4 P::boot_o_4 P::boot_o_5 P::boot_o_6 P::boot_o_7 P::boot_o_8 P::boot_o_9 P::boot_o_10 P::o0::o5::o2::o3::o0::o1::o6::o0::o7::o8::o9::PN::nA::Qx P::o0::SM::QR::R0::Om::o0::o1::Px::o0::R8::Pk::Ov::P0::Oc P::V8::O_::R5::Rm::nU::nA::RP P::o0::Tj::Rj::Rr::PK::o0::o1::PQ::o0::R3::PJ::Oh::o0::Ob P::Ot::Sg::Qs::nU::nA::QW P::o0::QX::Rf::Q5::Ou::o0::o1::Pg::o0::RM::Pq::Ow::o0::Oj P::Pb::RC::Ss::nU::nA::Rx P::o0::Rp::Qq::Te::PL::o0::o1::Oz::o0::Rb::Oo::Pn::o0::Py P::Oq::SX::T5::nU::nA::RD P::o0::Rz::Sd::Rn::Ol::o0::o1::OJ::o0::QS::OD::PP::o0::Oe P::PB::RG::Tq::[]⟩,{ }⟩
abbrev Lw (w:World) (os:OsState):Shared:=⟨S_ w.params,Array.mk [],{ },326,os⟩
noncomputable abbrev Iz:Pos:={ line:=22,col:=0,endLine:=25,endCol:=50 }
noncomputable abbrev S9:List Stmt:=((behindTheImports pp).drop 0).take 7
theorem U_ (w:World) (os:OsState):segRun treeTable pp w 11 an 1 1245 (Q9 w os) (piecesOf S9 env cd Qd [topFrame fp])=some (.next,Lw w os,cd,Iz):=by (revert w os;refine (byRow2 "special-get-raises" ?_ ?_:∀ w,_) <;> (intro w os;kernel_rfl))
def Nr (P:Params):Heap:=⟨⟨boot_o_0 P::boot_o_1 P::boot_o_2 P::Uv P::boot_o_4 P::boot_o_5 P::boot_o_6 P::boot_o_7 P::boot_o_8 P::boot_o_9 P::boot_o_10 P::o0::V5::o2::o3::o0::o1::o6::o0::o7::o8::o9::PN::nA::Qx P::o0::SM::QR::R0::Om::o0::o1::Px::o0::R8::Pk::Ov::P0::Oc P::Qt::O_::R5::Rm::nU::nA::RP P::o0::Tj::Rj::Rr::PK::o0::o1::PQ::o0::R3::PJ::Oh::o0::Ob P::Ot::Sg::Qs::nU::nA::QW P::o0::QX::Rf::Q5::Ou::o0::o1::Pg::o0::RM::Pq::Ow::o0::Oj P::Pb::RC::Ss::nU::nA::Rx P::o0::Rp::Qq::Te::PL::o0::o1::Oz::o0::Rb::Oo::Pn::o0::Py P::Oq::SX::T5::nU::nA::RD P::o0::Rz::Sd::Rn::Ol::o0::o1::OJ::o0::QS::OD::PP::o0::Oe P::PB::RG::Tq::nU::nA::TJ P::o0::Ue::U5::Tw::Tc::o0::o1::Qg::o0::U8::Tu::RL::o0::RV P::SN::Ua::U3::nU::nA::Uk P::o0::U0::Ui::Tv::o0::o1::o100::o0::O9::D_::Eu::Ec::Fv P::Fw::JN::Km::El::nA::M6 P::o0::o111::Lj::Lq::FT::o0::o1::Di::o0::JB::DK::Fe::Fy::C_ P::Gw::Ex::Nq::JZ::o0::o1::Gg::o0::Jh::Gq::Hl::o0::o1::FP::o0::Ls::Gy::Gj::o0::o1::DY::o0::Ia::EY::Gf::o0::o1::NK::GX::DG::o0::nA::Mr P::o0::Ik::LK::J9::o0::Fb::o0::o1::Do::o0::Ie::Gs::Ey::o0::o1::Fi::o0::Nf::G5::Dp::o0::o1::G8::o0::O8::Ew::Hc::o0::o1::DR::o0::Js::Fq::Ej::o0::o1::Ds::o0::Ig::Gx::Hj::o0::o1::Eh::o0::O7::Em::Hk::o0::o1::Eg::o0::MJ::Ff::De::o0::o1::Er::o0::O3::Dc::CV::o0::o1::Dl::o0::Kp::G4::Dh::Fg::G7 P::Dy::G6::Ez::Je::NQ::[]⟩,{ }⟩
abbrev BP (w:World) (os:OsState):Shared:=⟨Nr w.params,Array.mk [],{ },540,os⟩
noncomputable abbrev Cg:Pos:={ line:=60,col:=0,endLine:=95,endCol:=54 }
noncomputable abbrev G9:List Stmt:=((behindTheImports pp).drop 7).take 12
theorem RZ (w:World) (os:OsState):segRun treeTable pp w 11 an 1 1355 (Lw w os) (piecesOf G9 env cd Iz [topFrame fp])=some (.next,BP w os,cd,Cg):=by (revert w os;refine (byRow2 "special-get-raises" ?_ ?_:∀ w,_) <;> (intro w os;kernel_rfl))
def N6 (P:Params):Heap:=⟨⟨boot_o_0 P::boot_o_1 P::boot_o_2 P::Qk P::boot_o_4 P::boot_o_5 P::boot_o_6 P::boot_o_7 P::boot_o_8 P::boot_o_9 P::boot_o_10 P::o0::QC::o2::o3::o0::o1::o6::o0::o7::o8::o9::PN::nA::Qx P::o0::SM::QR::R0::Om::o0::o1::Px::o0::R8::Pk::Ov::P0::Oc P::Qt::O_::R5::Rm::nU::nA::RP P::o0::Tj::Rj::Rr::PK::o0::o1::PQ::o0::R3::PJ::Oh::o0::Ob P::Ot::Sg::Qs::nU::nA::QW P::o0::QX::Rf::Q5::Ou::o0::o1::Pg::o0::RM::Pq::Ow::o0::Oj P::Pb::RC::Ss::nU::nA::Rx P::o0::Rp::Qq::Te::PL::o0::o1::Oz::o0::Rb::Oo::Pn::o0::Py P::Oq::SX::T5::nU::nA::RD P::o0::Rz::Sd::Rn::Ol::o0::o1::OJ::o0::QS::OD::PP::o0::Oe P::PB::RG::Tq::nU::nA::TJ P::o0::Ue::U5::Tw::Tc::o0::o1::Qg::o0::U8::Tu::RL::o0::RV P::SN::Ua::U3::nU::nA::Uk P::o0::U0::Ui::Tv::o0::o1::o100::o0::O9::D_::Eu::Ec::Fv P::Fw::JN::Km::El::nA::M6 P::o0::o111::Lj::Lq::FT::o0::o1::Di::o0::JB::DK::Fe::Fy::C_ P::Gw::Ex::Nq::JZ::o0::o1::Gg::o0::Jh::Gq::Hl::o0::o1::FP::o0::Ls::Gy::Gj::o0::o1::DY::o0::Ia::EY::Gf::o0::o1::NK::GX::DG::o0::nA::Mr P::o0::Ik::LK::J9::o0::Fb::o0::o1::Do::o0::Ie::Gs::Ey::o0::o1::Fi::o0::Nf::G5::Dp::o0::o1::G8::o0::O8::Ew::Hc::o0::o1::DR::o0::Js::Fq::Ej::o0::o1::Ds::o0::Ig::Gx::Hj::o0::o1::Eh::o0::O7::Em::Hk::o0::o1::Eg::o0::MJ::Ff::De::o0::o1::Er::o0::O3::Dc::CV::o0::o1::Dl::o0::Kp::G4::Dh::Fg::G7 P::Dy::G6::Ez::Je::NQ::K1 P::Ny P::o0::o1::NP::o0::QM::Mq::Ke::o0::o1::J3::o0::Qp::Ja::Mp::o0::o1::o200::o0::Tg::KH::Kc::o0::o1::QJ::Mz::IV::o0::o1::KZ::o0::QK::Hv::La::o0::o1::M4::o0::Qu::Ky::HY::o0::o1::O4::o0::Q6::N7::HN::o0::o1::Jt::o0::S7::HD::LQ::o0::o1::J8::o0::Qm::Ka::M5::o0::o1::Ku::o0::Tp::Jr::NT::o0::o1::Rk::Lr::J0::o0::o1::R6::Hx::Lh::o0::o1::Jx::o0::R_::Jv::Ib::o0::o1::HF::o0::QL::JS::HH::o0::o1::IK::o0::T9::Nv::Kw::o0::o1::Nz::o0::QF::Kl::Mj::o0::o1::RJ::IW::Jz::o0::o1::Tn::JD::HR::o0::o1::JR::o0::Qj::K6::K4::o0::o1::Sw::Mf::O5::o0::o1::Ni::o0::Sy::Ml::Jg::o0::o1::Lg::o0::Ro::M_::O1::o0::o1::K5::o0::Q0::KN::Jc::o0::o1::Jj::o0::T8::JL::HS::o0::o1::Iu::o0::Qi::Ij::KD::o0::o1::R4::Nh::J5::o0::o1::Q7::JH::J7::[]⟩,{ }⟩
abbrev oH (w:World) (os:OsState):Shared:=⟨N6 w.params,Array.mk [],{ },785,os⟩
noncomputable abbrev pq:Pos:={ line:=262,col:=0,endLine:=265,endCol:=78 }
noncomputable abbrev Ek:List Stmt:=((behindTheImports pp).drop 19).take 33
theorem RN (w:World) (os:OsState):segRun treeTable pp w 11 an 1 930 (BP w os) (piecesOf Ek env cd Cg [topFrame fp])=some (.next,oH w os,cd,pq):=by (revert w os;refine (byRow2 "special-get-raises" ?_ ?_:∀ w,_) <;> (intro w os;kernel_rfl))
noncomputable abbrev Ef:List Stmt:=(behindTheImports pp).drop 52
theorem Li:behindTheImports pp=(S9++(G9++(Ek++Ef))):=by kernel_rfl
noncomputable abbrev wf (w:World):World:=w.withFollow "special-get-raises" false
theorem J_ (w:World) (os:OsState):((topRun treeTable pp (wf w) 11 an 796 (oH (wf w) os) (restOf Ef env cd pq [topFrame fp])).bind fun s₁=>match staticsOk (importedModules pp.main.body) (xP (wf w) os).heap s₁.heap && namesBound pp s₁.heap && gensDone s₁ && laidKept (xP (wf w) os).heap s₁.heap with
 |true=>some s₁
 |false=>none).map (fun s=>(openSeen vw ls (importedModules pp.main.body) Xt true s,hk.obs s))=some (openGood vw ls,hk.val (wf w)):=by kernel_rfl
noncomputable abbrev wt (w:World):World:=w.withFollow "special-get-raises" true
theorem Jp (w:World) (os:OsState):((topRun treeTable pp (wt w) 11 an 796 (oH (wt w) os) (restOf Ef env cd pq [topFrame fp])).bind fun s₁=>match staticsOk (importedModules pp.main.body) (xP (wt w) os).heap s₁.heap && namesBound pp s₁.heap && gensDone s₁ && laidKept (xP (wt w) os).heap s₁.heap with
 |true=>some s₁
 |false=>none).map (fun s=>(openSeen vw ls (importedModules pp.main.body) Xt true s,hk.obs s))=some (openGood vw ls,hk.val (wt w)):=by kernel_rfl
theorem last (w:World) (os:OsState):((topRun treeTable pp w 11 an 796 (oH w os) (restOf Ef env cd pq [topFrame fp])).bind fun s₁=>match staticsOk (importedModules pp.main.body) (xP w os).heap s₁.heap && namesBound pp s₁.heap && gensDone s₁ && laidKept (xP w os).heap s₁.heap with
 |true=>some s₁
 |false=>none).map (fun s=>(openSeen vw ls (importedModules pp.main.body) Xt true s,hk.obs s))=some (openGood vw ls,hk.val w):=byRow2 "special-get-raises" (P:=fun w=>((topRun treeTable pp w 11 an 796 (oH w os) (restOf Ef env cd pq [topFrame fp])).bind fun s₁=>match staticsOk (importedModules pp.main.body) (xP w os).heap s₁.heap && namesBound pp s₁.heap && gensDone s₁ && laidKept (xP w os).heap s₁.heap with
 |true=>some s₁
 |false=>none).map (fun s=>(openSeen vw ls (importedModules pp.main.body) Xt true s,hk.obs s))=some (openGood vw ls,hk.val w)) (fun w=>J_ w os) (fun w=>Jp w os) w
theorem chain (w:World) (os:OsState) (r:Shared) (h:topRun treeTable pp w 11 an 796 (oH w os) (restOf Ef env cd pq [topFrame fp])=some r):topRun treeTable pp w 11 an 4339 (xP w os) (topStub pp)=some r:=by
 have k:topRun treeTable pp w 11 an 4326 (Q9 w os) (restOf (S9++(G9++(Ek++Ef))) env cd Qd [topFrame fp])=some r:=piece_app (U_ w os) (piece_app (RZ w os) (piece_app (RN w os) (h)))
 rw [← Li] at k
 exact go_top (n:=12) (N:=4327) (V2 w os) (piece_block (n:=1) (N:=4326) (Uz w os) k)
theorem run (w:World) (os:OsState):(topFrom treeTable pp w 4339 (xP w os)).map (fun s=>(openSeen vw ls (importedModules pp.main.body) Xt true s,hk.obs s))=some (openGood vw ls,hk.val w):=yU (s0:=xP w os) (by kernel_rfl) (by kernel_rfl) (by kernel_rfl) (chain w os) (last w os)
theorem left:LeftO (OpenRow.toRowW PySem.Challenge.rw_lanescribe_k07_whole_tests_held_against.row).prog vw ls Xt hk.obs hk.val 4339:=vV openP (by decide) (fun s=>by kernel_rfl) run
theorem head (hw:(OpenRow.toRowW PySem.Challenge.rw_lanescribe_k07_whole_tests_held_against.row).promised) {d:DefRec} {kwd:List (Str×Expr)} (hdef:defOf vw PySem.Challenge.rw_lanescribe_k07_whole_tests_held_against.row.name=some (d,kwd)) (hp:PySem.Challenge.rw_lanescribe_k07_whole_tests_held_against.row.prog.theDef PySem.Challenge.rw_lanescribe_k07_whole_tests_held_against.row.name=some (d.params,d.body,d.scope)) (hk1:kwWritten? d.params.kwonlyargs d.params.kw_defaults=some kwd)
 (hc:WalkO vw ls (XL vw lv) (kmHook KK RK eK [523]).says (OpenRow.toRowW PySem.Challenge.rw_lanescribe_k07_whole_tests_held_against.row) d kwd fun f vs=>PySem.call f vs):PySem.Challenge.rw_lanescribe_k07_whole_tests_held_against.Holds:=
 holds_law said fun said'=>holds_open (q:=vw) (loose:=ls) (Xt:=Xt) (XP:=XL vw lv) (Yf:=hk.obs) (Ya:=hk.val) (YP:=hk.says) (N:=4339) left hk.of hk.keeps (fun s e=>xl_of s (Bool.and_eq_true_iff.mp e).1) XL.keeps hdef hp hk1 (fun s e=>recFacts_of (Bool.and_eq_true_iff.mp e).2) (by rfl) said' (by decide +kernel) ⟨rfl,rfl,rfl,rfl,rfl,by decide +kernel⟩ hw hc
end
end Kd
namespace L2
open PySem PySem.Spec PyProof.Rows
abbrev Key:=Sum Int Str
def oK:Key->Value->Bool
 |.inl k,v=>Value.isInt k v
 |.inr x,v=>Value.isStrOf x v
def R7 (w:World):Key->Int
 |.inl k=>hashInt k
 |.inr x=>hashStr w x
theorem cP:∀ {k:Key} {v:Value},oK k v=true->(∃ i t,k=Sum.inl i/\v=Value.int i t)∨(∃ x t,k=Sum.inr x/\v=Value.str x t)
 | .inl i,v,h=>by
   obtain ⟨t,e⟩:=Value.isInt_shape (k:=i) (v:=v) h
   exact .inl ⟨i,t,rfl,e⟩
 | .inr x,v,h=>by
   obtain ⟨t,e⟩:=Value.isStrOf_shape (x:=x) (v:=v) h
   exact .inr ⟨x,t,rfl,e⟩
theorem vR (i:Int) (t:Tok):oK (.inl i) (.int i t)=true:=by simp [oK,Value.isInt]
theorem wR (x:Str) (t:Tok):oK (.inr x) (.str x t)=true:=by simp [oK,Value.isStrOf]
theorem FN (a b:Int):decide ((Sum.inl a:Key)=Sum.inl b)=(a == b):=by
 by_cases e:a=b
 ·subst e;simp
 ·have h:¬ (Sum.inl a:Key)=Sum.inl b:=fun q=>e (Sum.inl.inj q)
  rw [decide_eq_false h]
  exact (beq_eq_false_iff_ne.mpr e).symm
theorem Hi (a b:Str):decide ((Sum.inr a:Key)=Sum.inr b)=decide (a=b):=by
 by_cases e:a=b
 ·subst e;simp
 ·have h:¬ (Sum.inr a:Key)=Sum.inr b:=fun q=>e (Sum.inr.inj q)
  rw [decide_eq_false h,decide_eq_false e]
theorem Ep (a:Int) (b:Str):decide ((Sum.inl a:Key)=Sum.inr b)=false:=decide_eq_false (fun q=>nomatch q)
theorem Gn (a:Str) (b:Int):decide ((Sum.inr a:Key)=Sum.inl b)=false:=decide_eq_false (fun q=>nomatch q)
def dg (prog:Program) (w:World):PySem.KeyKind prog w Key where
 is:=oK
 hash:=R7 w
 inj:=fun v a b ha hb=>by
  rcases cP ha with ⟨i,t,rfl,rfl⟩|⟨x,t,rfl,rfl⟩
  ·rcases cP hb with ⟨j,u,rfl,e⟩|⟨y,u,rfl,e⟩
   ·injection e with e1 _;rw [e1]
   ·exact nomatch e
  ·rcases cP hb with ⟨j,u,rfl,e⟩|⟨y,u,rfl,e⟩
   ·exact nomatch e
   ·injection e with e1 _;rw [e1]
 byValue:=fun k v h=>by
  rcases cP h with ⟨i,t,rfl,rfl⟩|⟨x,t,rfl,rfl⟩ <;> rfl
 pyHash:=fun hv h=>by
  rcases cP hv with ⟨i,t,rfl,rfl⟩|⟨x,t,rfl,rfl⟩
  ·exact wpAny_pyHash_int h
  ·exact wpAny_pyHash_str h
 eqBool:=fun hu hv h=>by
  rcases cP hu with ⟨i,t,rfl,rfl⟩|⟨x,t,rfl,rfl⟩
  ·rcases cP hv with ⟨j,u,rfl,rfl⟩|⟨y,u,rfl,rfl⟩
   ·rw [FN] at h;exact wpAny_eqBool_int h
   ·rw [Ep] at h;exact SeqAt.EqAt.int_str i t y u _ _ _ _ h
  ·rcases cP hv with ⟨j,u,rfl,rfl⟩|⟨y,u,rfl,rfl⟩
   ·rw [Gn] at h;exact SeqAt.EqAt.str_int x t j u _ _ _ _ h
   ·rw [Hi] at h;exact wpAny_eqBool_str h
 «strs»:=fun k x t v h=>by
  rcases cP h with ⟨i,u,rfl,e⟩|⟨y,u,rfl,e⟩
  ·exact nomatch e
  ·injection e with e1 _
   subst e1
   cases v <;> rfl
theorem rW (prog:Program) (w:World) (i:Int) (t:Tok):(dg prog w).is (.inl i) (.int i t)=true:=vR i t
theorem rD (prog:Program) (w:World) (x:Str) (t:Tok):(dg prog w).is (.inr x) (.str x t)=true:=wR x t
inductive V where
 |non|bl (b:Bool)|int (i:Int)|str (x:Str)|byt (b:Array UInt8)|flt (b:UInt64)|ref (a:Addr)|ty (n:String)
 deriving DecidableEq
def RelV:V->Value->Prop
 |.non,u=>u=Value.none
 |.bl b,u=>u=Value.bool b
 |.int i,u=>∃ t,u=Value.int i t
 |.str x,u=>∃ t,u=Value.str x t
 |.byt b,u=>∃ t,u=Value.bytes b t
 |.flt b,u=>∃ t,u=Value.float b t
 |.ref a,u=>u=Value.ref a
 |.ty n,u=>u=Value.type n
abbrev Vals:List V->List Value->Prop:=Paired RelV
theorem Vals.length {xs:List V} {us:List Value} (r:Vals xs us):xs.length=us.length:=Paired.length r
theorem Vals.get:∀ {xs:List V} {us:List Value} {i:Nat} {x:V},Vals xs us->xs[i]?=some x->∃ u,us[i]?=some u/\RelV x u
 |_,_,_,_,.nil,e=>by simp at e
 |_,_,0,_,.cons r _,e=>by simp at e;subst e;exact ⟨_,rfl,r⟩
 | _,_,i+1,x,.cons _ t,e=>by
   obtain ⟨u,h1,h2⟩:=Vals.get (i:=i) (x:=x) t (by simpa using e)
   exact ⟨u,by simpa using h1,h2⟩
theorem Vals.append:∀ {xs ys:List V} {us ws:List Value},Vals xs us->Vals ys ws->Vals (xs++ys) (us++ws)
 |_,_,_,_,.nil,s=>s
 |_,_,_,_,.cons r t,s=>.cons r (Vals.append t s)
theorem Vals.take:∀ {xs:List V} {us:List Value} (n:Nat),Vals xs us->Vals (xs.take n) (us.take n)
 |_,_,0,_=>.nil
 |_,_,_+1,.nil=>.nil
 |_,_,n+1,.cons r t=>.cons r (Vals.take n t)
theorem Vals.drop:∀ {xs:List V} {us:List Value} (n:Nat),Vals xs us->Vals (xs.drop n) (us.drop n)
 |_,_,0,r=>r
 |_,_,_+1,.nil=>.nil
 |_,_,n+1,.cons _ t=>Vals.drop n t
def ii:Option V->Option Value->Prop
 |some v,some u=>RelV v u
 |none,none=>True
 |_,_=>False
def KV {κ:Type}:List (κ×V)->List (κ×Value)->Prop:=Paired fun (p:κ×V) (q:κ×Value)=>p.1=q.1/\RelV p.2 q.2
def kV:Key->V
 |.inl i=>.int i
 |.inr x=>.str x
inductive HO where
 |lst (xs:List V)
 |tup (xs:List V)
 |dK (kvs:List (Key×V))|dT (kvs:List (List Key×V))
 |set (S:Int->Bool) (n:Nat)
 |ins (C dx:Addr) (fs:List (Str×V))
 |own (x:Addr)
 |xd (fs:List (Str×V))
 |met (f x:Addr)
 |rng (lo hi:Int)
 |frz (o:Obj) (u:HO)
 |tbl (ps:Array Value)
 |ext (φ:Heap->Prop)
abbrev Hp:=Addr->Option HO
def upd (H:Hp) (a:Addr) (o:HO):Hp:=fun b=>if b=a then some o else H b
theorem ak {H:Hp} {a:Addr} {o:HO}:upd H a o a=some o:=by unfold upd;rw [if_pos rfl]
theorem aJ {H:Hp} {a b:Addr} {o:HO} (h:b≠a):upd H a o b=H b:=by unfold upd;rw [if_neg h]
theorem Bk {H:Hp} {a:Addr} {o u:HO}:upd (upd H a o) a u=upd H a u:=by
 funext b;unfold upd;split <;> rfl
theorem fZ {H:Hp} {a b:Addr} {o u:HO} (h:H a=some o) (h':H b=some u) (d:o≠u):a≠b:=by
 intro e;subst e;rw [h] at h';exact d (Option.some.inj h')
theorem aO {H:Hp} {a b:Addr} {o:HO} (h:H a=some o) (h':H b=none):a≠b:=by
 intro e;subst e;rw [h] at h';cases h'
section
variable (P:Program) (w:World)
def cG (H:Hp) (h:Heap) (a:Addr):HO->Prop
 |.lst xs=>xs.length≤sizeLine/\∃ (its:List Value) (n:Nat),Vals xs its/\h.get? a=some { cls:=.type "list",data:=.seq its.toArray n }
 |.tup xs=>xs.length≤sizeLine/\∃ its:List Value,Vals xs its/\IsTup h a its.toArray
 |.dK kvs=>kvs.length≤sizeLine/\(a == sysModules)=false/\∃ vs,KV kvs vs/\h.DictOf (dg P w) a vs
 |.dT kvs=>kvs.length≤sizeLine/\(a == sysModules)=false/\∃ xs:List (List Key×Addr×Value),
  Paired (fun (p:List Key×V) (q:List Key×Addr×Value)=>p.1=q.1/\H q.2.1=some (.tup (p.1.map kV))/\RelV p.2 q.2.2) kvs xs/\
  ∃ o es ep,h.get? a=some o/\o.ExactDict/\o.data=.dict es ep/\es.toList=xs.map (entryOfKey (tupleKind (dg P w)))/\(xs.map (·.1)).Nodup
 |.set S n=>h.SetOf (intKind P w) a S n
 |.ins C dx fs=>H dx=some (.own a)/\fs.length≤1000/\dx≠a/\h.get? a=some (PySem.W.instObj C dx)/\
  ∃ mA,h.Ns1 dx mA/\(∀ f,ii (fs.lookup f) (mA f))/\PySem.Within mA (fs.map (·.1))
 |.own _=>∃ o,h.get? a=some o
 |.xd fs=>∃ mA,h.Ns1 a mA/\∀ f,ii (fs.lookup f) (mA f)
 |.rng lo hi=>∃ t u v,h.get? a=some { cls:=.type "range",data:=.fields #[.int lo t,.int hi u,.int 1 v] }
 |.frz o u=>h.get? a=some o/\cG H h a u
 |.tbl ps=>h.get? a=some { cls:=.none,data:=.fields ps }
 |.met f x=>h.get? a=some (PySem.W.methodObj (.ref f) (.ref x))
 |.ext φ=>φ h/\(∃ o,h.get? a=some o)/\∀ h1 h2:Heap,φ h1->(∀ o,h1.get? a=some o->h2.get? a=some o)->φ h2
def iR (H:Hp) (h:Heap):Prop:=∀ a o,H a=some o->cG P w H h a o
end
section
variable {P:Program} {w:World} {H H':Hp} {h h':Heap} {a:Addr} {o:HO}
theorem cG.lt (x:cG P w H h a o):a<h.objs.size:=by
 cases o with
 |lst xs=>obtain ⟨_,_,_,_,e⟩:=x;exact Heap.lt_size e
 |tup xs=>obtain ⟨_,_,_,p⟩:=x;exact p.lt
 |dK kvs=>obtain ⟨_,_,_,_,o,_,_,e,_⟩:=x;exact Heap.lt_size e
 |dT kvs=>obtain ⟨_,_,_,_,o,_,_,e,_⟩:=x;exact Heap.lt_size e
 |set S n=>obtain ⟨o,_,_,_,e,_⟩:=x;exact Heap.lt_size e
 |ins C dx fs=>obtain ⟨_,_,_,e,_⟩:=x;exact Heap.lt_size e
 |own y=>obtain ⟨_,e⟩:=x;exact Heap.lt_size e
 |xd fs=>obtain ⟨_,⟨_,_,_,e,_⟩,_⟩:=x;exact Heap.lt_size e
 |rng lo hi=>obtain ⟨_,_,_,e⟩:=x;exact Heap.lt_size e
 |frz ob u=>obtain ⟨e,_⟩:=x;exact Heap.lt_size e
 |tbl ps=>exact Heap.lt_size (show h.get? a=some _ from x)
 |met f y=>exact Heap.lt_size (show h.get? a=some _ from x)
 |ext φ=>obtain ⟨_,⟨_,e⟩,_⟩:=x;exact Heap.lt_size e
theorem Paired.mapP {α β:Type} {F G:α->β->Prop}:∀ {l₁:List α} {l₂:List β},Paired F l₁ l₂->(∀ a b,F a b->G a b)->Paired G l₁ l₂
 |_,_,.nil,_=>.nil
 |_,_,.cons r t,f=>.cons (f _ _ r) (Paired.mapP t f)
theorem cG.stay (x:cG P w H h a o) (k:∀ b u,(b=a∨H b=some (.own a))->h.get? b=some u->h'.get? b=some u)
 (ho:∀ b,H b=some (.own a)->H' b=some (.own a)) (ht:∀ b xs,H b=some (.tup xs)->H' b=some (.tup xs)):cG P w H' h' a o:=by
 induction o with
 |lst xs=>obtain ⟨z,its,n,r,e⟩:=x;exact ⟨z,its,n,r,k _ _ (.inl rfl) e⟩
 |tup xs=>obtain ⟨z,its,r,ob,e,c⟩:=x;exact ⟨z,its,r,ob,k _ _ (.inl rfl) e,c⟩
 |dK kvs=>obtain ⟨z,y,vs,r,ob,es,ep,e,c⟩:=x;exact ⟨z,y,vs,r,ob,es,ep,k _ _ (.inl rfl) e,c⟩
 | dT kvs=>
   obtain ⟨z,y,xs,r,ob,es,ep,e,c⟩:=x
   exact ⟨z,y,xs,Paired.mapP r fun p q z=>⟨z.1,ht _ _ z.2.1,z.2.2⟩,ob,es,ep,k _ _ (.inl rfl) e,c⟩
 |set S n=>obtain ⟨ob,es,ep,t,e,c⟩:=x;exact ⟨ob,es,ep,t,k _ _ (.inl rfl) e,c⟩
 | ins C dx fs=>
   obtain ⟨d,z,ne,e,mA,⟨od,es,ep,e2,c⟩,r⟩:=x
   exact ⟨ho _ d,z,ne,k _ _ (.inl rfl) e,mA,⟨od,es,ep,k _ _ (.inr d) e2,c⟩,r⟩
 |own y=>obtain ⟨ob,e⟩:=x;exact ⟨ob,k _ _ (.inl rfl) e⟩
 |xd fs=>obtain ⟨mA,⟨od,es,ep,e,c⟩,r⟩:=x;exact ⟨mA,⟨od,es,ep,k _ _ (.inl rfl) e,c⟩,r⟩
 |rng lo hi=>obtain ⟨t,u,v,e⟩:=x;exact ⟨t,u,v,k _ _ (.inl rfl) e⟩
 |frz ob u ih=>obtain ⟨e,q⟩:=x;exact ⟨k _ _ (.inl rfl) e,ih q⟩
 | tbl ps=>
   have e:h.get? a=some { cls:=.none,data:=.fields ps }:=x
   show h'.get? a=some { cls:=.none,data:=.fields ps }
   exact k a _ (.inl rfl) e
 | met f y=>
   have e:h.get? a=some (PySem.W.methodObj (.ref f) (.ref y)):=x
   show h'.get? a=some (PySem.W.methodObj (.ref f) (.ref y))
   exact k a _ (.inl rfl) e
 |ext φ=>obtain ⟨p,⟨o,e⟩,st⟩:=x;exact ⟨st _ _ p fun o q=>k _ _ (.inl rfl) q,⟨o,k _ _ (.inl rfl) e⟩,st⟩
theorem iR.lt (x:iR P w H h) (e:H a=some o):a<h.objs.size:=(x a o e).lt
theorem iR.fresh (x:iR P w H h) (e:h.objs.size≤a):H a=none:=by
 cases q:H a with
 |none=>rfl
 |some u=>exact absurd (Nat.lt_of_lt_of_le (x.lt q) e) (Nat.lt_irrefl _)
theorem iR.kept (x:iR P w H h) (k:∀ b u,h.get? b=some u->h'.get? b=some u):iR P w H h':=fun a o e=>
 (x a o e).stay (fun b u _ q=>k b u q) (fun _ q=>q) fun _ _ q=>q
theorem iR.laid (x:iR P w H h) (k:∀ b u,h.get? b=some u->h'.get? b=some u) (hp:h.objs.size≤a) (new:cG P w (upd H a o) h' a o):iR P w (upd H a o) h':=fun b u e=>by
 have hn:=x.fresh hp
 by_cases hb:b=a
 ·subst hb;rw [ak] at e;cases e;exact new
 ·rw [aJ hb] at e
  exact (x b u e).stay (fun c v _ q=>k c v q) (fun c q=>by rw [aJ (aO q hn)];exact q) fun c xs q=>by rw [aJ (aO q hn)];exact q
end
def Rd (H:Hp) (a:Addr) (u:HO):Prop:=H a=some u∨∃ o,H a=some (.frz o u)
theorem Rd.ok {P:Program} {w:World} {H:Hp} {h:Heap} {a:Addr} {u:HO} (r:Rd H a u) (x:iR P w H h):cG P w H h a u:=by
 rcases r with r|⟨o,r⟩
 ·exact x a u r
 ·obtain ⟨_,q⟩:=x a _ r
  exact q
def Kh:Option HO->Prop
 |some (.lst _)=>True
 |some (.dK _)=>True
 |some (.dT _)=>True
 |some (.set _ _)=>True
 |some (.ins _ _ _)=>True
 |some (.ext _)=>True
 |_=>False
section
variable {P:Program} {w:World} {H:Hp} {h h':Heap} {x e:Addr} {o':HO}
theorem iR.write (ok:iR P w H h) (mu:Kh (H x)) (he:e=x∨H e=some (.own x)) (k:∀ b u,b≠e->h.get? b=some u->h'.get? b=some u) (heo:∃ u,h'.get? e=some u)
 (new:cG P w (upd H x o') h' x o'):iR P w (upd H x o') h':=fun b u q=>by
 have nown:∀ c y,H c=some (.own y)->c≠x:=fun c y r z=>by subst z;rw [r] at mu;exact mu
 have ntup:∀ c xs,H c=some (.tup xs)->c≠x:=fun c xs r z=>by subst z;rw [r] at mu;exact mu
 by_cases hb:b=x
 ·subst hb;rw [ak] at q;cases q;exact new
 ·rw [aJ hb] at q
  by_cases hbe:b=e
  ·have q':H b=some (.own x):=by
    rcases he with z|z
    ·exact absurd (hbe.trans z) hb
    ·rw [hbe];exact z
   rw [q] at q';cases q'
   obtain ⟨v,hv⟩:=heo
   exact ⟨v,by rw [hbe];exact hv⟩
  ·refine (ok b u q).stay (fun c v hc r=>k c v ?_ r) (fun c r=>by rw [aJ (nown c b r)];exact r) fun c xs r=>by rw [aJ (ntup c xs r)];exact r
   rcases hc with rfl|hc
   ·exact hbe
   ·rintro rfl
    rcases he with z|z
    ·exact nown c b hc z
    ·rw [hc] at z;cases z;exact hb rfl
end
structure Un (fs ex:List Addr) (H H':Hp) (h h':Heap):Prop where
 keep:∀ b o,h.get? b=some o->H b=none->b∉fs->b∉ex->h'.get? b=some o
 slot:∀ b o,h.get? b=some o->H b=none->b∈fs->b∉ex->∃ sl,h'.get? b=some { o with slots:=sl }
 free:∀ b o,h.get? b=some o->H b=none->b∉ex->H' b=none
 there:∀ b o,h.get? b=some o->b∉ex->∃ o',h'.get? b=some o'
 tups:∀ b xs,H b=some (.tup xs)->H' b=some (.tup xs)
 frzs:∀ b o u,H b=some (.frz o u)->H' b=some (.frz o u)
 tbls:∀ b ps,H b=some (.tbl ps)->∃ more,H' b=some (.tbl (ps++more))
section
variable {fs fs' ex ex':List Addr} {H H1 H2:Hp} {h h1 h2 h':Heap} {a x e:Addr} {o:HO}
theorem Un.any (u:Un fs ex H H1 h h1) {b:Addr} {ob:Obj} (q:h.get? b=some ob) (n:H b=none) (hx:b∉ex):∃ sl,h1.get? b=some { ob with slots:=sl }:=by
 by_cases hb:b∈fs
 ·exact u.slot b ob q n hb hx
 ·exact ⟨ob.slots,u.keep b ob q n hb hx⟩
theorem Un.kept (k:∀ b u,h.get? b=some u->h'.get? b=some u):Un fs ex H H h h':=
 ⟨fun b ob q _ _ _=>k b ob q,fun b ob q _ _ _=>⟨ob.slots,k b ob q⟩,fun _ _ _ n _=>n,fun b ob q _=>⟨ob,k b ob q⟩,fun _ _ q=>q,fun _ _ _ q=>q,fun _ ps q=>⟨#[],by rw [q];simp⟩⟩
theorem Un.refl:Un fs ex H H h h:=Un.kept fun _ _ q=>q
theorem Un.laid (k:∀ b u,h.get? b=some u->h'.get? b=some u) (hp:h.objs.size≤a) (hn:H a=none):Un fs ex H (upd H a o) h h' where
 keep:=fun b u q _ _ _=>k b u q
 slot:=fun b u q _ _ _=>⟨u.slots,k b u q⟩
 free:=fun b u q n _=>by rw [aJ (Nat.ne_of_lt (Nat.lt_of_lt_of_le (Heap.lt_size q) hp))];exact n
 there:=fun b u q _=>⟨u,k b u q⟩
 tups:=fun b xs q=>by rw [aJ (aO q hn)];exact q
 frzs:=fun b u xs q=>by rw [aJ (aO q hn)];exact q
 tbls:=fun b ps q=>⟨#[],by rw [aJ (aO q hn),q];simp⟩
theorem Un.write (mu:Kh (H x)) (he:e=x∨H e=some (.own x)) (k:∀ b u,b≠e->h.get? b=some u->h'.get? b=some u) (heo:∃ u,h'.get? e=some u):Un fs ex H (upd H x o) h h':=by
 have hx:∀ b,H b=none->b≠x:=fun b n z=>by subst z;rw [n] at mu;exact mu
 have hb:∀ b,H b=none->b≠e:=fun b n z=>by
  subst z
  rcases he with r|r
  ·exact hx b n r
  ·rw [n] at r;cases r
 have hm:∀ b u,H b=some u->¬ Kh (some u)->b≠x:=fun b u q nm z=>by subst z;rw [q] at mu;exact nm mu
 refine ⟨fun b u q n _ _=>k b u (hb b n) q,fun b u q n _ _=>⟨u.slots,k b u (hb b n) q⟩,fun b u q n _=>by rw [aJ (hx b n)];exact n,fun b u q _=>?_,
  fun b xs q=>by rw [aJ (hm b _ q fun z=>z)];exact q,fun b u xs q=>by rw [aJ (hm b _ q fun z=>z)];exact q,fun b ps q=>⟨#[],by rw [aJ (hm b _ q fun z=>z),q];simp⟩⟩
 by_cases hbe:b=e
 ·subst hbe;exact heo
 ·exact ⟨u,k b u hbe q⟩
end
def Pa (h:Heap) (H:Hp):List Addr:=(List.range h.objs.size).filter fun a=>(H a).isSome
def sr (h:Heap) (H:Hp):Heap:=PySem.W.hideAll h (Pa h H)
theorem wI (h:Heap) (H:Hp):(sr h H).objs.size=h.objs.size:=PySem.W.hideAll_size _ _
theorem nP {h:Heap} {H:Hp} {b:Addr} {o:Obj} (e:h.get? b=some o) (n:H b=none):(sr h H).get? b=some o:=
 PySem.W.hideAll_get _ e fun hm=>by
  have q:(H b).isSome=true:=(List.mem_filter.mp hm).2
  rw [n] at q;simp at q
theorem Av {h:Heap} {H:Hp} {b:Addr} {o:Obj} (e:(sr h H).get? b=some o):h.get? b=some o/\H b=none:=by
 have e':h.get? b=some o:=PySem.W.of_hideAll (Pa h H) e
 refine ⟨e',?_⟩
 cases q:H b with
 |none=>rfl
 | some x=>
   have hm:b∈Pa h H:=List.mem_filter.mpr ⟨List.mem_range.mpr (Heap.lt_size e'),by simp [q]⟩
   have z:(sr h H).get? b=none:=PySem.W.hideAll_none (Pa h H) hm
   rw [z] at e;cases e
structure Mod (K:PySem.W.Frag) (mg:Str->Option Value) (base:Heap):Prop where
 kin:K.In base
 glob:base.Ns mainGlobals mg
 blt:∃ mb,base.Ns builtinsNs mb/\∀ x:Str,x ≠ "__name__"->mb x=bootBuiltins x
 nolimit:base.NoLimit
structure Cx where
 prog:Program
 w:World
 K:PySem.W.Frag
 mg:Str->Option Value
 base:Heap
 A:Around
 N:List Str
 s₀:Shared
 H₀:Hp
 env:Env
 outer:List Env
 stack:List Env
 ex:List Addr
 fn:Str->Bool
 calm:Bool
 pn:List (Addr×Obj)
 xe:Value->Shared->Prop
def frs (l:List Env):List Addr:=l.filterMap (·.frame)
abbrev Cx.fs (X:Cx):List Addr:=frs X.outer
def KQ (sc:Scope) (x:Str):Prop:=sc.names.lookup x=some .local∨sc.names.lookup x=some .cell∨sc.names.lookup x=some .free
def Loc (sc:Scope) (x:Str):Prop:=sc.names.lookup x=some .local∨sc.names.lookup x=some .cell
def Look (env:Env) (h:Heap) (m:Str->Option Value) (x:Str) (u:Value):Prop:=
 (env.kindOf x=some .local/\m x=some u)∨((env.kindOf x=some .cell∨env.kindOf x=some .free)/\∃ c,env.cells.lookup x=some c/\h.IsCell c (some u))
structure Cx.Ok (X:Cx):Prop where
 mod:Mod X.K X.mg X.base
 kind:X.env.scope.kind=.function
 glob:X.env.globals=mainGlobals
 blt:X.env.builtins=builtinsNs
 above:X.s₀.heap.objs.size≤X.env.locals
 inj:∀ x y c,X.env.cells.lookup x=some c->X.env.cells.lookup y=some c->x=y
 has:∀ x,(X.env.kindOf x=some .cell∨X.env.kindOf x=some .free)->∃ c,X.env.cells.lookup x=some c
 cab:∀ x c,X.fn x=true->X.env.cells.lookup x=some c->X.s₀.heap.objs.size≤c
 hd:X.calm=true->X.A.handled=none
 frames:X.A.frames=some X.stack
 stk:X.stack=X.outer∨(X.stack=X.env::X.outer/\X.env.frame=some X.env.locals)
 exf:∀ b∈X.ex,b≠X.env.locals/\∀ x c,X.env.cells.lookup x=some c->c≠b
 bs:∀ b o,X.base.get? b=some o->X.s₀.heap.get? b=some o/\X.H₀ b=none
 bsz:X.base.objs.size≤X.s₀.heap.objs.size
 noex:∀ b o,X.base.get? b=some o->b∉X.ex
 exfs:∀ b∈X.ex,b∉X.fs
 funs:X.s₀.heap.FunFrames X.base X.outer
 frf:∀ b∈X.fs,X.H₀ b=none
structure Inv (X:Cx) (Z:List (Addr×Obj)) (U:List (Option V)) (H:Hp) (s:Shared):Prop where
 ok:X.Ok
 os:s.os=X.s₀.os
 bare:AllBare s.gens
 base:Un X.fs X.ex X.H₀ H X.s₀.heap s.heap
 loc:∃ m,s.heap.Ns X.env.locals m/\∀ (i:Nat) (x:Str) (v:V),X.N[i]?=some x->U[i]?=some (some v)->KQ X.env.scope x->∃ u,RelV v u/\Look X.env s.heap m x u
 cell:∀ x c,X.env.cells.lookup x=some c->∃ v,s.heap.IsCell c v
 free:H X.env.locals=none
 freeC:∀ x c,X.env.cells.lookup x=some c->H c=none
 pin:∀ p∈X.pn++Z,s.heap.get? p.1=some p.2/\H p.1=none/\p.1≠X.env.locals/\p.1∉X.fs/\∀ v,p.2.data≠.cell v
 hok:iR X.prog X.w H s.heap
 len:U.length=X.N.length
section
variable {X:Cx} {Z:List (Addr×Obj)} {U:List (Option V)} {H H':Hp} {s:Shared} {h':Heap}
theorem Cx.Ok.nofr (ok:X.Ok) {b:Addr} {o:Obj} (e:X.base.get? b=some o):b∉X.fs:=fun hb=>by
 have:=(ok.funs.mem hb).1
 rw [e] at this;cases this
theorem Inv.bs (I:Inv X Z U H s):∀ b o,X.base.get? b=some o->s.heap.get? b=some o/\H b=none:=fun b o e=>
 ⟨I.base.keep b o (I.ok.bs b o e).1 (I.ok.bs b o e).2 (I.ok.nofr e) (I.ok.noex b o e),I.base.free b o (I.ok.bs b o e).1 (I.ok.bs b o e).2 (I.ok.noex b o e)⟩
theorem Inv.bk (I:Inv X Z U H s):∀ b o,X.base.get? b=some o->s.heap.get? b=some o:=fun b o e=>(I.bs b o e).1
theorem Inv.mod (I:Inv X Z U H s):Mod X.K X.mg X.base:=I.ok.mod
theorem Inv.kIn (I:Inv X Z U H s):X.K.In s.heap:=I.ok.mod.kin.keeps I.bk
theorem Inv.fr (I:Inv X Z U H s):∃ m,Fr X.base X.env.locals s.heap m:=
 let ⟨m,hn,_⟩:=I.loc
 ⟨m,hn,I.bk,Nat.le_trans I.ok.bsz I.ok.above⟩
theorem Inv.lt (I:Inv X Z U H s):X.env.locals<s.heap.objs.size:=let ⟨_,hn,_⟩:=I.loc;hn.lt
theorem Inv.sz (I:Inv X Z U H s):X.s₀.heap.objs.size≤s.heap.objs.size:=Nat.le_trans I.ok.above (Nat.le_of_lt I.lt)
theorem Inv.nofs (I:Inv X Z U H s) {a:Addr} (h:s.heap.objs.size≤a):a∉X.fs:=fun hb=>by
 obtain ⟨_,o,ho,_⟩:=I.ok.funs.mem hb
 exact absurd (Nat.lt_of_lt_of_le (Heap.lt_size ho) (Nat.le_trans I.sz h)) (Nat.lt_irrefl _)
theorem Inv.cne (I:Inv X Z U H s):∀ x c,X.env.cells.lookup x=some c->c≠X.env.locals:=fun x c e z=>by
 obtain ⟨v,o,ho,hd⟩:=I.cell x c e
 obtain ⟨m,⟨o',es,ep,ho',hd',_⟩,_⟩:=I.loc
 rw [z,ho'] at ho;cases ho;rw [hd'] at hd;cases hd
theorem Inv.funs (I:Inv X Z U H s):s.heap.FunFrames X.base X.outer:=by
 have all:∀ (l:List Env),(∀ b∈frs l,b∈X.fs)->X.s₀.heap.FunFrames X.base l->s.heap.FunFrames X.base l:=by
  intro l
  induction l with
  |nil=>intro _ _;trivial
  | cons env r ih=>
    intro hs hl
    obtain ⟨hk,⟨L,o,hf,hn,ho,hd⟩,hr⟩:=hl
    have hL:L∈X.fs:=hs L (by unfold frs;rw [List.filterMap_cons,hf];exact List.mem_cons_self)
    obtain ⟨sl,e⟩:=I.base.slot L o ho (I.ok.frf L hL) hL fun z=>I.ok.exfs L z hL
    exact ⟨hk,⟨L,_,hf,hn,e,hd⟩,ih (fun b hb=>hs b (by unfold frs;rw [List.filterMap_cons,hf];exact List.mem_cons_of_mem _ hb)) hr⟩
 exact all X.outer (fun _ hb=>hb) I.ok.funs
theorem Inv.stack (I:Inv X Z U H s):s.heap.FunFrames X.base X.stack:=by
 rcases I.ok.stk with e|⟨e,hf⟩
 ·rw [e];exact I.funs
 ·rw [e]
  obtain ⟨m,hn,_⟩:=I.loc
  refine .cons (by rw [I.ok.kind];decide) hf hn ?_ I.funs
  exact Heap.get?_none_of_le (Nat.le_trans I.ok.bsz I.ok.above)
theorem Inv.stkSub (I:Inv X Z U H s):∀ b∈frs X.stack,b∈X.env.locals::X.fs:=fun b hb=>by
 rcases I.ok.stk with e|⟨e,hf⟩
 ·rw [e] at hb;exact List.mem_cons_of_mem _ hb
 ·rw [e] at hb
  unfold frs at hb
  rw [List.filterMap_cons,hf] at hb
  exact hb
theorem Inv.stkFree (I:Inv X Z U H s):∀ b∈frs X.stack,H b=none:=fun b hb=>by
 rcases List.mem_cons.mp (I.stkSub b hb) with e|hb
 ·rw [e];exact I.free
 ·obtain ⟨_,o,ho,_⟩:=I.ok.funs.mem hb
  exact I.base.free b o ho (I.ok.frf b hb) fun z=>I.ok.exfs b z hb
theorem Inv.step {g':Array GenState} {t':Nat} {d':Drawn} {ch:List Addr} (I:Inv X Z U H s)
 (hch:∀ b∈ch,(b∈X.ex∨X.s₀.heap.objs.size≤b)/\b≠X.env.locals/\(∀ x c,X.env.cells.lookup x=some c->c≠b)/\∀ p∈X.pn++Z,p.1≠b)
 (keep:∀ b o,b≠X.env.locals->b∉X.fs->b∉ch->s.heap.get? b=some o->H b=none->h'.get? b=some o)
 (slot:∀ b o,b≠X.env.locals->b∈X.fs->b∉ch->s.heap.get? b=some o->H b=none->∃ sl,h'.get? b=some { o with slots:=sl }) (free:∀ b o,b∉ch->s.heap.get? b=some o->H b=none->H' b=none)
 (there:∀ b o,b∉ch->s.heap.get? b=some o->∃ o',h'.get? b=some o')
 (tups:∀ b xs,H b=some (.tup xs)->H' b=some (.tup xs)) (frzs:∀ b o u,H b=some (.frz o u)->H' b=some (.frz o u)) (tbls:∀ b ps,H b=some (.tbl ps)->∃ more,H' b=some (.tbl (ps++more)))
 (ns:∀ m,s.heap.Ns X.env.locals m->h'.Ns X.env.locals m) (hok:iR X.prog X.w H' h') (hg:AllBare g') :
 Inv X Z U H' { s with heap:=h',gens:=g',drawn:=d',toks:=t' }:=by
 have neL:∀ b o,X.s₀.heap.get? b=some o->b≠X.env.locals:=fun b o e=>Nat.ne_of_lt (Nat.lt_of_lt_of_le (Heap.lt_size e) I.ok.above)
 have neC:∀ b o,X.s₀.heap.get? b=some o->b∉X.ex->b∉ch:=fun b o e hx hb=>by
  rcases (hch b hb).1 with z|z
  ·exact hx z
  ·exact absurd (Nat.lt_of_lt_of_le (Heap.lt_size e) z) (Nat.lt_irrefl _)
 have cellK:∀ x c,X.env.cells.lookup x=some c->∀ v,s.heap.IsCell c v->h'.IsCell c v:=fun x c e v ⟨o,ho,hd⟩=>by
  have nch:c∉ch:=fun z=>(hch c z).2.2.1 x c e rfl
  by_cases hc:c∈X.fs
  ·obtain ⟨sl,q⟩:=slot c o (I.cne x c e) hc nch ho (I.freeC x c e)
   exact ⟨_,q,hd⟩
  ·exact ⟨o,keep c o (I.cne x c e) hc nch ho (I.freeC x c e),hd⟩
 refine ⟨I.ok,I.os,hg,⟨fun b o e n hb hx=>?_,fun b o e n hb hx=>?_,fun b o e n hx=>?_,fun b o e hx=>?_,fun b xs e=>tups b xs (I.base.tups b xs e),fun b o xs e=>frzs b o xs (I.base.frzs b o xs e),fun b ps e=>?_⟩,?_,fun x c e=>?_,?_,fun x c e=>?_,fun p hp=>?_,hok,I.len⟩
 ·exact keep b o (neL b o e) hb (neC b o e hx) (I.base.keep b o e n hb hx) (I.base.free b o e n hx)
 ·obtain ⟨sl,e1⟩:=I.base.slot b o e n hb hx
  obtain ⟨sl',e2⟩:=slot b _ (neL b o e) hb (neC b o e hx) e1 (I.base.free b o e n hx)
  exact ⟨sl',e2⟩
 ·obtain ⟨o',e1⟩:=I.base.there b o e hx
  exact free b o' (neC b o e hx) e1 (I.base.free b o e n hx)
 ·obtain ⟨o',e1⟩:=I.base.there b o e hx
  exact there b o' (neC b o e hx) e1
 ·obtain ⟨m1,e1⟩:=I.base.tbls b ps e
  obtain ⟨m2,e2⟩:=tbls b _ e1
  exact ⟨m1++m2,by rw [e2,Array.append_assoc]⟩
 ·obtain ⟨m,hn,hl⟩:=I.loc
  refine ⟨m,ns m hn,fun i x v e1 e2 e3=>?_⟩
  obtain ⟨u,r,l⟩:=hl i x v e1 e2 e3
  refine ⟨u,r,?_⟩
  rcases l with l|⟨k,c,e,z⟩
  ·exact .inl l
  ·exact .inr ⟨k,c,e,cellK x c e _ z⟩
 ·obtain ⟨v,z⟩:=I.cell x c e
  exact ⟨v,cellK x c e v z⟩
 ·obtain ⟨m,⟨o,_,_,ho,_⟩,_⟩:=I.loc
  exact free _ o (fun z=>(hch _ z).2.1 rfl) ho I.free
 ·obtain ⟨v,o,ho,hd⟩:=I.cell x c e
  exact free c o (fun z=>(hch c z).2.2.1 x c e rfl) ho (I.freeC x c e)
 ·obtain ⟨e,n,ne,nf,d⟩:=I.pin p hp
  have nch:p.1∉ch:=fun z=>(hch p.1 z).2.2.2 p hp rfl
  exact ⟨keep p.1 p.2 ne nf nch e n,free p.1 p.2 nch e n,ne,nf,d⟩
theorem Inv.un {t':Nat} (I:Inv X Z U H s) (u:Un X.fs [] H H' s.heap h') (hok:iR X.prog X.w H' h'):Inv X Z U H' { s with heap:=h',toks:=t' }:=by
 obtain ⟨m,⟨o,es,ep,ho,r⟩,_⟩:=id I.loc
 obtain ⟨sl,hL⟩:=u.any ho I.free (by simp)
 exact I.step (g':=s.gens) (d':=s.drawn) (ch:=[]) (fun _ z=>nomatch z) (fun b o _ hb _ e n=>u.keep b o e n hb (by simp)) (fun b o _ hb _ e n=>u.slot b o e n hb (by simp)) (fun b o _ e n=>u.free b o e n (by simp)) (fun b o _ e=>u.there b o e (by simp)) u.tups u.frzs u.tbls (fun m' hm=>by
  obtain ⟨o',es',ep',ho',r'⟩:=hm
  rw [ho] at ho';cases ho'
  exact ⟨_,es',ep',hL,r'⟩) hok I.bare
theorem Inv.call {g':Array GenState} {t':Nat} {d':Drawn} {ch:List Addr} (I:Inv X Z U H s) (u:Un (frs X.stack) ch H H' s.heap h') (hok:iR X.prog X.w H' h') (hg:AllBare g')
 (hch:∀ b∈ch,(b∈X.ex∨X.s₀.heap.objs.size≤b)/\b≠X.env.locals/\(∀ x c,X.env.cells.lookup x=some c->c≠b)/\∀ p∈X.pn++Z,p.1≠b) :
 Inv X Z U H' { s with heap:=h',gens:=g',drawn:=d',toks:=t' }:=by
 obtain ⟨m,⟨o,es,ep,ho,r⟩,_⟩:=id I.loc
 obtain ⟨sl,hL⟩:=u.any ho I.free fun z=>(hch _ z).2.1 rfl
 exact I.step (ch:=ch) hch (fun b o hL hb hc e n=>u.keep b o e n (fun z=>(List.mem_cons.mp (I.stkSub b z)).elim hL hb) hc) (fun b o _ _ hc e n=>u.any e n hc) (fun b o hc e n=>u.free b o e n hc) (fun b o hc e=>u.there b o e hc) u.tups u.frzs u.tbls (fun m' hm=>by
  obtain ⟨o',es',ep',ho',r'⟩:=hm
  rw [ho] at ho';cases ho'
  exact ⟨_,es',ep',hL,r'⟩) hok hg
theorem Inv.turned {t':Nat} {it:Addr} (I:Inv X Z U H s) (k:∀ b o,b≠it->s.heap.get? b=some o->h'.get? b=some o) (hn:H it=none) (hL:it≠X.env.locals)
 (h1:it∈X.ex∨X.s₀.heap.objs.size≤it) (h2:∀ x c,X.env.cells.lookup x=some c->c≠it) (h3:∀ p∈X.pn++Z,p.1≠it):Inv X Z U H { s with heap:=h',toks:=t' }:=by
 have nit:∀ b u,H b=some u->b≠it:=fun b u e z=>by rw [z,hn] at e;cases e
 refine I.step (g':=s.gens) (d':=s.drawn) (ch:=[it]) (fun b hb=>?_) (fun b o _ _ hc e _=>k b o (fun z=>hc (by simp [z])) e) (fun b o _ _ hc e _=>⟨o.slots,k b o (fun z=>hc (by simp [z])) e⟩) (fun _ _ _ _ n=>n)
  (fun b o hc e=>⟨o,k b o (fun z=>hc (by simp [z])) e⟩) (fun _ _ e=>e) (fun _ _ _ e=>e) (fun b ps e=>⟨#[],by rw [e];simp⟩) (fun m hm=>?_) (fun b u e=>?_) I.bare
 ·have e:b=it:=by simpa using hb
  subst e
  exact ⟨h1,hL,h2,h3⟩
 ·obtain ⟨o,es,ep,ho,r⟩:=hm
  exact ⟨o,es,ep,k _ o (Ne.symm hL) ho,r⟩
 ·refine (I.hok b u e).stay (fun c v hc q=>k c v ?_ q) (fun _ q=>q) fun _ _ q=>q
  rcases hc with z|z
  ·rw [z];exact nit b u e
  ·exact nit c _ z
theorem Inv.tok (I:Inv X Z U H s) (t:Nat):Inv X Z U H { s with toks:=t }:=I.un (h':=s.heap) (t':=t) Un.refl I.hok
theorem Inv.kept {t':Nat} (I:Inv X Z U H s) (k:∀ b u,s.heap.get? b=some u->h'.get? b=some u):Inv X Z U H { s with heap:=h',toks:=t' }:=I.un (Un.kept k) (I.hok.kept k)
theorem Inv.laid {a:Addr} {o:HO} {t':Nat} (I:Inv X Z U H s) (k:∀ b u,s.heap.get? b=some u->h'.get? b=some u) (hp:s.heap.objs.size≤a) (new:cG X.prog X.w (upd H a o) h' a o) :
 Inv X Z U (upd H a o) { s with heap:=h',toks:=t' }:=I.un (Un.laid k hp (I.hok.fresh hp)) (I.hok.laid k hp new)
theorem Inv.write {x e:Addr} {o:HO} {t':Nat} (I:Inv X Z U H s) (mu:Kh (H x)) (he:e=x∨H e=some (.own x)) (k:∀ b u,b≠e->s.heap.get? b=some u->h'.get? b=some u) (heo:∃ u,h'.get? e=some u)
 (new:cG X.prog X.w (upd H x o) h' x o):Inv X Z U (upd H x o) { s with heap:=h',toks:=t' }:=I.un (Un.write mu he k heo) (I.hok.write mu he k heo new)
theorem Inv.pins_of {pins':List (Addr×Obj)} (I:Inv X Z U H s) (h:∀ p∈pins',s.heap.get? p.1=some p.2/\H p.1=none/\p.1≠X.env.locals/\p.1∉X.fs/\∀ v,p.2.data≠.cell v):Inv X pins' U H s:=
 ⟨I.ok,I.os,I.bare,I.base,I.loc,I.cell,I.free,I.freeC,fun p hp=>(List.mem_append.mp hp).elim (fun z=>I.pin p (List.mem_append_left _ z)) (h p),I.hok,I.len⟩
theorem jL {N:List Str} (hN:N.Nodup) {i j:Nat} {x:Str} (a:N[i]?=some x) (b:N[j]?=some x):i=j:=by
 obtain ⟨h1,e1⟩:=List.getElem?_eq_some_iff.mp a
 obtain ⟨h2,e2⟩:=List.getElem?_eq_some_iff.mp b
 exact (List.getElem_inj hN).mp (e1.trans e2.symm)
theorem lC {M:Model} {A:Around} {E:Value->Shared->Prop} {i:Nat} {x:Str} {v:V} {u:Value} {Q:Unit->Shared->Prop} (I:Inv X Z U H s) (hN:X.N.Nodup) (hi:X.N[i]?=some x) (hx:Loc X.env.scope x) (r:RelV v u)
 (h:∀ s',Inv X Z (U.set i (some v)) H s'->(∃ a,Heap.SameBut a s.heap s'.heap/\(a=X.env.locals∨X.env.cells.lookup x=some a))->Q () s') (hf:X.fn x=true∨X.env.scope.names.lookup x=some .local:=by first|exact .inl rfl|exact .inr rfl|assumption):wpAny M A (storeName X.env x u) Q E s:=by
 obtain ⟨m,hn,hl⟩:=id I.loc
 have hcls:(X.env.scope.kind == .class || (X.env.scope.kind == .module && X.env.locals != X.env.globals))=false:=by rw [I.ok.kind];rfl
 have hiU:i<U.length:=by rw [I.len];exact (List.getElem?_eq_some_iff.mp hi).1
 have cne:=I.cne
 have tracked:∀ {a:Addr} {h':Heap},(∃ o,s.heap.get? a=some o/\H a=none)->Heap.SameBut a s.heap h'->iR X.prog X.w H h':=fun {a h'} ha hs b ob e=>by
  obtain ⟨_,_,hfree⟩:=ha
  refine (I.hok b ob e).stay (fun c w' hc q=>(hs.2 c ?_).trans q) (fun _ q=>q) fun _ _ q=>q
  rintro rfl
  rcases hc with rfl|hc
  ·rw [hfree] at e;cases e
  ·rw [hfree] at hc;cases hc
 rcases hx with hk|hk
 ·refine wpAny_storeName_local hk hn (fun h' hn' hs=>?_) hcls
  obtain ⟨oL,_,_,hoL,_⟩:=id hn
  refine h _ ⟨I.ok,I.os,I.bare,⟨fun b o e n hb hx=>?_,fun b o e n hb hx=>?_,I.base.free,fun b o e hx=>?_,I.base.tups,I.base.frzs,I.base.tbls⟩,⟨_,hn',fun j y v' e1 e2 e3=>?_⟩,fun y c e=>?_,I.free,I.freeC,fun p hp=>?_,tracked ⟨oL,hoL,I.free⟩ hs,by simpa using I.len⟩ ⟨_,hs,.inl rfl⟩
  ·exact (hs.2 b (Nat.ne_of_lt (Nat.lt_of_lt_of_le (Heap.lt_size e) I.ok.above))).trans (I.base.keep b o e n hb hx)
  ·obtain ⟨sl,e1⟩:=I.base.slot b o e n hb hx
   exact ⟨sl,(hs.2 b (Nat.ne_of_lt (Nat.lt_of_lt_of_le (Heap.lt_size e) I.ok.above))).trans e1⟩
  ·obtain ⟨o',e1⟩:=I.base.there b o e hx
   exact ⟨o',(hs.2 b (Nat.ne_of_lt (Nat.lt_of_lt_of_le (Heap.lt_size e) I.ok.above))).trans e1⟩
  ·by_cases hj:j=i
   ·subst hj
    rw [hi] at e1;cases e1
    rw [List.getElem?_set_self hiU] at e2
    cases e2
    exact ⟨u,r,.inl ⟨hk,by simp⟩⟩
   ·rw [List.getElem?_set_ne (Ne.symm hj)] at e2
    obtain ⟨u',r',q⟩:=hl j y v' e1 e2 e3
    refine ⟨u',r',?_⟩
    rcases q with ⟨k,e⟩|⟨k,c,e,z⟩
    ·refine .inl ⟨k,?_⟩
     have:y≠x:=fun e=>hj (jL hN e1 (e ▸ hi))
     simp [this,e]
    ·exact .inr ⟨k,c,e,z.sameBut hs (cne y c e)⟩
  ·obtain ⟨w',z⟩:=I.cell y c e
   exact ⟨w',z.sameBut hs (cne y c e)⟩
  ·obtain ⟨e,n,ne,nf,d⟩:=I.pin p hp
   exact ⟨(hs.2 p.1 ne).trans e,n,ne,nf,d⟩
 ·have hfn:X.fn x=true:=by
   rcases hf with z|z
   ·exact z
   ·rw [z] at hk;cases hk
  obtain ⟨c,hc⟩:=I.ok.has x (.inl hk)
  obtain ⟨w',z⟩:=I.cell x c hc
  refine wpAny_storeName_cell I.ok.kind hk hc z (fun h' hc' hs=>?_)
  obtain ⟨oc,hoc,hocd⟩:=id z
  refine h { s with heap:=h' } ⟨I.ok,I.os,I.bare,⟨fun b o e n hb hx=>?_,fun b o e n hb hx=>?_,I.base.free,fun b o e hx=>?_,I.base.tups,I.base.frzs,I.base.tbls⟩,⟨m,hn.sameBut hs (Ne.symm (cne x c hc)),fun j y v' e1 e2 e3=>?_⟩,fun y c' e=>?_,I.free,I.freeC,fun p hp=>?_,tracked ⟨oc,hoc,I.freeC x c hc⟩ hs,by simpa using I.len⟩ ⟨c,hs,.inr hc⟩
  ·exact (hs.2 b (Nat.ne_of_lt (Nat.lt_of_lt_of_le (Heap.lt_size e) (I.ok.cab x c hfn hc)))).trans (I.base.keep b o e n hb hx)
  ·obtain ⟨sl,e1⟩:=I.base.slot b o e n hb hx
   exact ⟨sl,(hs.2 b (Nat.ne_of_lt (Nat.lt_of_lt_of_le (Heap.lt_size e) (I.ok.cab x c hfn hc)))).trans e1⟩
  ·obtain ⟨o',e1⟩:=I.base.there b o e hx
   exact ⟨o',(hs.2 b (Nat.ne_of_lt (Nat.lt_of_lt_of_le (Heap.lt_size e) (I.ok.cab x c hfn hc)))).trans e1⟩
  ·by_cases hj:j=i
   ·subst hj
    rw [hi] at e1;cases e1
    rw [List.getElem?_set_self hiU] at e2
    cases e2
    exact ⟨u,r,.inr ⟨.inl hk,c,hc,hc'⟩⟩
   ·rw [List.getElem?_set_ne (Ne.symm hj)] at e2
    obtain ⟨u',r',q⟩:=hl j y v' e1 e2 e3
    refine ⟨u',r',?_⟩
    rcases q with q|⟨k,c',e,z'⟩
    ·exact .inl q
    ·refine .inr ⟨k,c',e,z'.sameBut hs ?_⟩
     rintro rfl
     exact hj (jL hN e1 (I.ok.inj _ _ _ e hc ▸ hi))
  ·by_cases hcc:c'=c
   ·subst hcc;exact ⟨_,hc'⟩
   ·obtain ⟨w2,z2⟩:=I.cell y c' e
    exact ⟨w2,z2.sameBut hs hcc⟩
  ·obtain ⟨e,n,ne,nf,d⟩:=I.pin p hp
   refine ⟨(hs.2 p.1 ?_).trans e,n,ne,nf,d⟩
   intro q
   rw [q,hoc] at e
   have q':oc=p.2:=Option.some.inj e
   exact d w' (by rw [← q'];exact hocd)
theorem j4 {M:Model} {A:Around} {E:Value->Shared->Prop} {i:Nat} {x:Str} {v:V} {u:Value} {Q:Unit->Shared->Prop} (I:Inv X Z U H s) (hN:X.N.Nodup) (hi:X.N[i]?=some x) (hx:Loc X.env.scope x) (r:RelV v u)
 (h:∀ s',Inv X Z (U.set i (some v)) H s'->Q () s') (hf:X.fn x=true∨X.env.scope.names.lookup x=some .local:=by first|exact .inl rfl|exact .inr rfl|assumption):wpAny M A (storeName X.env x u) Q E s:=
 lC I hN hi hx r (fun s' I' _=>h s' I') hf
theorem Inv.call' {s':Shared} {ch:List Addr} (I:Inv X Z U H s) (ho:s'.os=s.os) (u:Un (frs X.stack) ch H H' s.heap s'.heap) (hok:iR X.prog X.w H' s'.heap) (hg:AllBare s'.gens)
 (hch:∀ b∈ch,(b∈X.ex∨X.s₀.heap.objs.size≤b)/\b≠X.env.locals/\(∀ x c,X.env.cells.lookup x=some c->c≠b)/\∀ p∈X.pn++Z,p.1≠b):Inv X Z U H' s':=by
 obtain ⟨h',g',d',t',o'⟩:=s'
 have e:o'=s.os:=ho
 subst e
 exact I.call (g':=g') (t':=t') (d':=d') u hok hg hch
end
abbrev XK:=Value->Option Addr->Hp->Prop
abbrev St:=List (Option V)
abbrev VK:=V->Hp->Prop
abbrev TE:=St->Hp->VK->Prop
abbrev TT:=St->Hp->(Bool->Hp->Prop)->Prop
abbrev TA:=St->Hp->(List V->Hp->Prop)->Prop
structure Ends where
 nx:St->Hp->Prop
 rt:VK
 bk:St->Hp->Prop:=fun _ _=>False
 ct:St->Hp->Prop:=fun _ _=>False
abbrev TS:=Ends->St->Hp->Prop
def EP (X:Cx) (Z:List (Addr×Obj)) (U:St) (Q:VK) (u:Value) (s':Shared):Prop:=∃ v H',Inv X Z U H' s'/\RelV v u/\Q v H'
def TP (X:Cx) (Z:List (Addr×Obj)) (U:St) (Q:Bool->Hp->Prop) (b:Bool) (s':Shared):Prop:=∃ H',Inv X Z U H' s'/\Q b H'
def AP (X:Cx) (Z:List (Addr×Obj)) (U:St) (Q:List V->Hp->Prop) (us:List Value) (s':Shared):Prop:=∃ vs H',Inv X Z U H' s'/\Vals vs us/\Q vs H'
def SP (X:Cx) (Z:List (Addr×Obj)) (D:Ends) (f:Flow) (s':Shared):Prop:=
 match f with
 |.next=>∃ σ' H',Inv X Z σ' H' s'/\D.nx σ' H'
 |.brk=>∃ σ' H',Inv X Z σ' H' s'/\D.bk σ' H'
 |.cont=>∃ σ' H',Inv X Z σ' H' s'/\D.ct σ' H'
 |.ret u=>∃ v σ' H',Inv X Z σ' H' s'/\RelV v u/\D.rt v H'
def PE (X:Cx) (e:Expr) (t:TE):Prop:=
 ∀ (Z:List (Addr×Obj)) (s:Shared) (U:St) (H:Hp) (Q:VK),Inv X Z U H s->t U H Q->wpAny (model X.prog X.w) X.A (eval e X.env) (EP X Z U Q) X.xe s
def PT (X:Cx) (e:Expr) (t:TT):Prop:=
 ∀ (Z:List (Addr×Obj)) (s:Shared) (U:St) (H:Hp) (Q:Bool->Hp->Prop),Inv X Z U H s->t U H Q->wpAny (model X.prog X.w) X.A (isTrue e X.env (eval e X.env)) (TP X Z U Q) X.xe s
def PW (X:Cx) (e:Expr) (t:TT):Prop:=
 ∀ (whole:Sem Value) (Z:List (Addr×Obj)) (s:Shared) (U:St) (H:Hp) (Q:Bool->Hp->Prop),Inv X Z U H s->t U H Q->wpAny (model X.prog X.w) X.A (isTrue e X.env whole) (TP X Z U Q) X.xe s
theorem PW.pt {X:Cx} {e:Expr} {t:TT} (h:PW X e t):PT X e t:=h _
def PA (X:Cx) (es:List Expr) (t:TA):Prop:=
 ∀ (pos:Pos) (Z:List (Addr×Obj)) (s:Shared) (U:St) (H:Hp) (Q:List V->Hp->Prop),Inv X Z U H s->t U H Q->wpAny (model X.prog X.w) X.A (spliced (backTo pos (starEach es X.env))) (AP X Z U Q) X.xe s
def PS (X:Cx) (st:Stmt) (t:TS):Prop:=
 ∀ (Z:List (Addr×Obj)) (s:Shared) (U:St) (H:Hp) (D:Ends),Inv X Z U H s->t D U H->wpAny (model X.prog X.w) X.A (exec st X.env) (SP X Z D) X.xe s
def qQ (X:Cx) (st:List Stmt) (t:TS):Prop:=
 ∀ (Z:List (Addr×Obj)) (s:Shared) (U:St) (H:Hp) (D:Ends),Inv X Z U H s->t D U H->wpAny (model X.prog X.w) X.A (execs st X.env) (SP X Z D) X.xe s
theorem cz {α:Type} {t:Sem α} {Q Q':α->Shared->Prop} {M:Model} {A:Around} {E:Value->Shared->Prop} {s:Shared} (h:wpAny M A t Q E s) (hQ:∀ a s,Q a s->Q' a s):wpAny M A t Q' E s:=wpAny_mono h hQ fun _ _ x=>x
section
variable {X:Cx}
theorem bin {a b:Expr} {ta tb:TE} (ha:PE X a ta) (hb:PE X b tb) {Z:List (Addr×Obj)} {s:Shared} {U:St} {H:Hp} {R:V->V->Hp->Prop} (I:Inv X Z U H s) (h:ta U H fun x H1=>tb U H1 fun y H2=>R x y H2)
 {α:Type} {Q:α->Shared->Prop} {f:Value->Value->Sem α}
 (hf:∀ v u s2 x y H2,Inv X Z U H2 s2->RelV x v->RelV y u->R x y H2->wpAny (model X.prog X.w) X.A (f v u) Q X.xe s2) :
 wpAny (model X.prog X.w) X.A (eval a X.env) (fun v s₁=>wpAny (model X.prog X.w) X.A (eval b X.env) (fun u s₂=>wpAny (model X.prog X.w) X.A (f v u) Q X.xe s₂) X.xe s₁) X.xe s:=by
 refine cz (ha Z s U H _ I h) fun v s1 ⟨x,H1,I1,r1,q1⟩=>?_
 refine cz (hb Z s1 U H1 _ I1 q1) fun u s2 ⟨y,H2,I2,r2,q2⟩=>?_
 exact hf v u s2 x y H2 I2 r1 r2 q2
def jU (i:Nat):TE:=fun U H Q=>∃ v,U[i]?=some (some v)/\Q v H
def tC (v:V):TE:=fun _ H Q=>Q v H
theorem E_ {i:Nat} {x:Str} {pos:Pos} (hN:X.N[i]?=some x) (hv:KQ X.env.scope x) (hd:(x == ("__debug__" : Str))=false:=by decide) (hcd:(x == ("__classdict__" : Str))=false:=by decide):PE X (.Name x pos) (jU i):=by
 intro Z s U H Q I h
 obtain ⟨v,e,h⟩:=h
 obtain ⟨m,hn,hl⟩:=I.loc
 obtain ⟨u,r,l⟩:=hl i x v hN e hv
 have fin:EP X Z U Q u s:=⟨v,H,I,r,h⟩
 rcases l with ⟨hk,hm⟩|⟨hk,c,hc,hcell⟩
 ·exact wpAny_Name (wpAny_loadName_local I.ok.kind hk hn hm fin) hd
 ·rcases hk with hk|hk
  ·exact wpAny_Name (wpAny_loadName_cell I.ok.kind hk hc hcell fin) hd
  ·exact wpAny_Name (wpAny_loadName_free I.ok.kind hk hc hcell fin hcd) hd
theorem aq {i j pos}:PE X (.Constant (.int i) j pos) (tC (.int i)):=fun _ _ _ H _ I h=>wpAny_Constant_int ⟨.int i,H,I.tok _,⟨_,rfl⟩,h⟩
theorem km {b j pos}:PE X (.Constant (.bool b) j pos) (tC (.bl b)):=fun _ _ _ H _ I h=>Constant_bool ⟨.bl b,H,I,rfl,h⟩
theorem iZ {j pos}:PE X (.Constant .none j pos) (tC .non):=fun _ _ _ H _ I h=>Constant_none ⟨.non,H,I,rfl,h⟩
theorem aF {x j pos}:PE X (.Constant (.str x) j pos) (tC (.str x)):=fun _ _ _ H _ I h=>Calls.Constant_str ⟨.str x,H,I.tok _,⟨_,rfl⟩,h⟩
def Gl (X:Cx) (x:Str):Prop:=X.env.kindOf x=some .globalImplicit
theorem jf {E:Value->Shared->Prop} {Z:List (Addr×Obj)} {s:Shared} {U:St} {H:Hp} {x:Str} {u:Value} {pos:Pos} {Q:Value->Shared->Prop} (I:Inv X Z U H s) (hg:Gl X x) (hm:X.mg x=some u) (h:Q u s)
 (hd:(x == ("__debug__" : Str))=false:=by decide):wpAny (model X.prog X.w) X.A (eval (.Name x pos) X.env) Q E s:=
 Calls.Name_function_global I.ok.kind hg (Calls.loadGlobal_global (by rw [I.ok.glob];exact I.mod.glob.keeps I.bk) hm h) hd
theorem jw {E:Value->Shared->Prop} {Z:List (Addr×Obj)} {s:Shared} {U:St} {H:Hp} {x:Str} {u:Value} {pos:Pos} {Q:Value->Shared->Prop} (I:Inv X Z U H s) (hg:Gl X x) (hm:X.mg x=none) (hv:bootBuiltins x=some u) (h:Q u s)
 (hn:x ≠ "__name__":=by decide) (hd:(x == ("__debug__" : Str))=false:=by decide):wpAny (model X.prog X.w) X.A (eval (.Name x pos) X.env) Q E s:=by
 obtain ⟨mb,h1,h2⟩:=I.mod.blt
 exact Calls.Name_function_global I.ok.kind hg (Calls.loadGlobal_builtin (by rw [I.ok.glob];exact I.mod.glob.keeps I.bk) hm (by rw [I.ok.blt];exact h1.keeps I.bk) ((h2 x hn).trans hv) h) hd
theorem dh {x:Str} {v:V} {u:Value} {pos:Pos} (hg:Gl X x) (hm:X.mg x=some u) (r:RelV v u) (hd:(x == ("__debug__" : Str))=false:=by decide):PE X (.Name x pos) (tC v):=
 fun _ _ _ H _ I h=>jf I hg hm ⟨v,H,I,r,h⟩ hd
theorem Ad {x:Str} {v:V} {u:Value} {pos:Pos} (hg:Gl X x) (hm:X.mg x=none) (hv:bootBuiltins x=some u) (r:RelV v u) (hn:x ≠ "__name__":=by decide) (hd:(x == ("__debug__" : Str))=false:=by decide):PE X (.Name x pos) (tC v):=
 fun _ _ _ H _ I h=>jw I hg hm hv ⟨v,H,I,r,h⟩ hn hd
variable {a b:Expr} {ta tb:TE} {pos:Pos}
def PC (X:Cx) (op:CmpOp) (a b:Expr) (t:TE):Prop:=
 ∀ (Z:List (Addr×Obj)) (s:Shared) (U:St) (H:Hp) (Q:VK),Inv X Z U H s->t U H Q->
   wpAny (model X.prog X.w) X.A (eval a X.env) (fun v s₁=>wpAny (model X.prog X.w) X.A (eval b X.env) (fun u s₂=>wpAny (model X.prog X.w) X.A (compareOp op v u) (EP X Z U Q) X.xe s₂) X.xe s₁) X.xe s
def tB (t:TE):TT:=fun U H Q=>t U H fun x H1=>∃ c,x=.bl c/\Q c H1
theorem QZ {op:CmpOp} {t:TE} (h:PC X op a b t) (h1:behindInMarks op b=false:=by first|exact nobehind _ (by decide) (by decide)|rfl):PT X (.Compare a [op] [b] pos) (tB t):=by
 intro Z s U H Q I hw
 refine wpAny_isTrue_Compare1 (cz (h Z s U H _ I hw) fun v s1 h1=>cz h1 fun u s2 h2=>cz h2 fun c s3 ⟨x,H1,I1,r1,q1⟩=>?_) h1
 obtain ⟨d,rfl,q⟩:=q1
 cases r1
 exact wpAny_truthy_bool ⟨H1,I1,q⟩
theorem dC {e:Expr} {t:TE} (h:PE X e t) (he:∀ whole,isTrue e X.env whole=(do let v ← whole;standAt e.pos;holding [v] (truthy v)):=by intro _;rfl):PT X e (tB t):=by
 intro Z s U H Q I hw
 refine isTrue_plain (cz (h Z s U H _ I hw) fun v s1 ⟨x,H1,I1,r1,q1⟩=>?_) (he _)
 obtain ⟨d,rfl,q⟩:=q1
 cases r1
 exact wpAny_truthy_bool ⟨H1,I1,q⟩
variable {tA tB':TT} {rest:List Expr}
def Qo (t u:TT):TT:=fun U H Q=>t U H fun c H1=>if c=true then u U H1 Q else Q false H1
def Up (t u:TT):TT:=fun U H Q=>t U H fun c H1=>if c=true then Q true H1 else u U H1 Q
def Rv (t:TT):TT:=fun U H Q=>t U H fun c H1=>Q (!c) H1
theorem jV (ha:PT X a tA):PW X (.BoolOp .And [a] pos) tA:=by
 intro wh Z s U H Q I h
 refine isTrue_and (cz (ha Z s U H Q I h) fun c s1 e=>?_)
 cases c with
 |true=>exact isTrue_and_nil e
 |false=>exact e
theorem i_ (ha:PT X a tA):PW X (.BoolOp .Or [a] pos) tA:=by
 intro wh Z s U H Q I h
 refine isTrue_or (cz (ha Z s U H Q I h) fun c s1 e=>?_)
 cases c with
 |false=>exact isTrue_or_nil e
 |true=>exact e
theorem kJ (ha:PT X a tA) (hb:PW X (.BoolOp .And (b::rest) pos) tB'):PW X (.BoolOp .And (a::b::rest) pos) (Qo tA tB'):=by
 intro wh Z s U H Q I h
 refine isTrue_and (cz (ha Z s U H _ I h) fun c s1 ⟨H1,I1,q1⟩=>?_)
 cases c with
 |true=>exact hb wh Z s1 U H1 Q I1 q1
 |false=>exact ⟨H1,I1,q1⟩
theorem jQ (ha:PT X a tA) (hb:PW X (.BoolOp .Or (b::rest) pos) tB'):PW X (.BoolOp .Or (a::b::rest) pos) (Up tA tB'):=by
 intro wh Z s U H Q I h
 refine isTrue_or (cz (ha Z s U H _ I h) fun c s1 ⟨H1,I1,q1⟩=>?_)
 cases c with
 |true=>exact ⟨H1,I1,q1⟩
 |false=>exact hb wh Z s1 U H1 Q I1 q1
theorem gQ (ha:PT X a tA):PT X (.UnaryOp .Not a pos) (Rv tA):=by
 intro Z s U H Q I h
 exact isTrue_not (ha Z s U H (fun c H1=>Q (!c) H1) I h)
def Jm (ta tb:TE):TE:=fun U H Q=>ta U H fun x H1=>∃ c,x=.bl c/\if c=true then tb U H1 Q else Q (.bl false) H1
def Qw (ta tb:TE):TE:=fun U H Q=>ta U H fun x H1=>∃ c,x=.bl c/\if c=true then Q (.bl true) H1 else tb U H1 Q
def JP (ta:TE):TE:=fun U H Q=>ta U H fun x H1=>∃ c,x=.bl c/\Q (.bl (!c)) H1
theorem dD {op} {t:TE} (h:PE X a t):PE X (.BoolOp op [a] pos) t:=fun Z s U H Q I hw=>BoolOp_one (h Z s U H Q I hw)
theorem cC (ha:PE X a ta) (hb:PE X (.BoolOp .And (b::rest) pos) tb):PE X (.BoolOp .And (a::b::rest) pos) (Jm ta tb):=by
 intro Z s U H Q I h
 refine BoolOp_and (cz (ha Z s U H _ I h) fun v s1 ⟨x,H1,I1,r1,q1⟩=>?_)
 obtain ⟨c,rfl,q1⟩:=q1
 cases r1
 refine wpAny_truthy_bool ?_
 cases c with
 |true=>exact hb Z s1 U H1 Q I1 q1
 |false=>exact ⟨.bl false,H1,I1,rfl,q1⟩
theorem Lz (ha:PE X a ta) (hb:PE X (.BoolOp .Or (b::rest) pos) tb):PE X (.BoolOp .Or (a::b::rest) pos) (Qw ta tb):=by
 intro Z s U H Q I h
 refine BoolOp_or (cz (ha Z s U H _ I h) fun v s1 ⟨x,H1,I1,r1,q1⟩=>?_)
 obtain ⟨c,rfl,q1⟩:=q1
 cases r1
 refine wpAny_truthy_bool ?_
 cases c with
 |false=>exact hb Z s1 U H1 Q I1 q1
 |true=>exact ⟨.bl true,H1,I1,rfl,q1⟩
theorem uP (ha:PE X a ta):PE X (.UnaryOp .Not a pos) (JP ta):=by
 intro Z s U H Q I h
 refine UnaryOp_ (cz (ha Z s U H _ I h) fun v s1 ⟨x,H1,I1,r1,q1⟩=>?_)
 obtain ⟨c,rfl,q1⟩:=q1
 cases r1
 exact not_of (wpAny_truthy_bool ⟨.bl (!c),H1,I1,rfl,q1⟩)
def Us (t:TT) (ta tb:TE):TE:=fun U H Q=>t U H fun c H1=>if c=true then ta U H1 Q else tb U H1 Q
theorem eZ {c:Expr} (hc:PT X c tA) (ha:PE X a ta) (hb:PE X b tb):PE X (.IfExp c a b pos) (Us tA ta tb):=by
 intro Z s U H Q I h
 refine wpAny_IfExp (cz (hc Z s U H _ I h) fun d s1 ⟨H1,I1,q1⟩=>?_)
 cases d with
 |true=>exact ha Z s1 U H1 Q I1 q1
 |false=>exact hb Z s1 U H1 Q I1 q1
end
def bM (K:PySem.W.Frag) (H:Hp) (a:Addr) (xs:List V):Prop:=
 Rd H a (.lst xs)∨
  ∃ (o:Obj) (its:Array Value) (n:Nat),K.lookup a=some o/\o.cls=.type "list"/\o.dict=none/\o.data=.seq its n/\its.size≤sizeLine/\Vals xs its.toList
def b_ (K:PySem.W.Frag) (H:Hp) (a:Addr) (xs:List V):Prop:=
 Rd H a (.tup xs)∨
  ∃ (o:Obj) (its:Array Value) (n:Nat),K.lookup a=some o/\o.cls=.type "tuple"/\o.data=.seq its n/\its.size≤sizeLine/\Vals xs its.toList
def R1:Value->Option V
 |.none=>some .non
 |.bool b=>some (.bl b)
 |.int i _=>some (.int i)
 |.str x _=>some (.str x)
 |.bytes b _=>some (.byt b)
 |.float b _=>some (.flt b)
 |.ref a=>some (.ref a)
 |.type n=>some (.ty n)
 |_=>none
theorem RelV.abs {x:V} {u:Value} (r:RelV x u):R1 u=some x:=by
 cases x with
 |non=>cases r;rfl
 |bl _=>cases r;rfl
 |int _=>obtain ⟨t,rfl⟩:=r;rfl
 |str _=>obtain ⟨t,rfl⟩:=r;rfl
 |byt _=>obtain ⟨t,rfl⟩:=r;rfl
 |flt _=>obtain ⟨t,rfl⟩:=r;rfl
 |ref _=>cases r;rfl
 |ty _=>cases r;rfl
theorem RelV.inj {x y:V} {u:Value} (r:RelV x u) (q:RelV y u):x=y:=Option.some.inj (r.abs.symm.trans q.abs)
theorem Vals.inj:∀ {xs ys:List V} {us:List Value},Vals xs us->Vals ys us->xs=ys
 |_,_,_,.nil,.nil=>rfl
 |_,_,_,.cons r t,.cons r' t'=>by rw [r.inj r',Vals.inj t t']
section
variable {X:Cx} {Z:List (Addr×Obj)} {U:St} {H:Hp} {s:Shared} {a:Addr} {xs ys:List V}
theorem bM.of {K:PySem.W.Frag} (h:H a=some (.lst xs)):bM K H a xs:=.inl (.inl h)
theorem b_.of {K:PySem.W.Frag} (h:H a=some (.tup xs)):b_ K H a xs:=.inl (.inl h)
theorem Inv.list (I:Inv X Z U H s) (h:bM X.K H a xs):∃ its:List Value,Vals xs its/\PlainL s.heap a its.toArray/\xs.length≤sizeLine:=by
 rcases h with h|⟨o,its,n,hk,hc,hd,hs,hz,r⟩
 ·obtain ⟨z,its,n,r,e⟩:=h.ok I.hok
  exact ⟨its,r,⟨_,n,e,rfl,rfl,rfl⟩,z⟩
 ·refine ⟨its.toList,r,⟨o,n,I.kIn a o hk,hc,hd,by simpa using hs⟩,?_⟩
  have e:=r.length
  simp only [Array.length_toList] at e
  omega
theorem Inv.tuple (I:Inv X Z U H s) (h:b_ X.K H a xs):∃ its:List Value,Vals xs its/\IsTup s.heap a its.toArray/\xs.length≤sizeLine:=by
 rcases h with h|⟨o,its,n,hk,hc,hs,hz,r⟩
 ·obtain ⟨z,its,r,p⟩:=h.ok I.hok
  exact ⟨its,r,p,z⟩
 ·refine ⟨its.toList,r,⟨o,I.kIn a o hk,hc,n,by simpa using hs⟩,?_⟩
  have e:=r.length
  simp only [Array.length_toList] at e
  omega
theorem Inv.list_inj (I:Inv X Z U H s) (h:bM X.K H a xs) (h':bM X.K H a ys):xs=ys:=by
 obtain ⟨its,r,⟨o,n,e,_,_,d⟩,_⟩:=I.list h
 obtain ⟨its',r',⟨o',n',e',_,_,d'⟩,_⟩:=I.list h'
 rw [e] at e';cases e'
 rw [d] at d'
 injection d' with d1 _
 have:its=its':=by simpa using congrArg Array.toList d1
 subst this
 exact r.inj r'
theorem Inv.tuple_inj (I:Inv X Z U H s) (h:b_ X.K H a xs) (h':b_ X.K H a ys):xs=ys:=by
 obtain ⟨its,r,⟨o,e,_,n,d⟩,_⟩:=I.tuple h
 obtain ⟨its',r',⟨o',e',_,n',d'⟩,_⟩:=I.tuple h'
 rw [e] at e';cases e'
 rw [d] at d'
 injection d' with d1 _
 have:its=its':=by simpa using congrArg Array.toList d1
 subst this
 exact r.inj r'
end
abbrev Cx.wish (X:Cx) (E:Value->Shared->Prop):Cx:={ X with xe:=E }
abbrev Cx.nox (X:Cx):Cx:=X.wish fun _ _=>False
theorem Cx.Ok.wish {X:Cx} (ok:X.Ok) (E:Value->Shared->Prop):(X.wish E).Ok:=
 ⟨ok.mod,ok.kind,ok.glob,ok.blt,ok.above,ok.inj,ok.has,ok.cab,ok.hd,ok.frames,ok.stk,ok.exf,ok.bs,ok.bsz,ok.noex,ok.exfs,ok.funs,ok.frf⟩
theorem Cx.Ok.unwish {X:Cx} {E:Value->Shared->Prop} (ok:(X.wish E).Ok):X.Ok:=
 ⟨ok.mod,ok.kind,ok.glob,ok.blt,ok.above,ok.inj,ok.has,ok.cab,ok.hd,ok.frames,ok.stk,ok.exf,ok.bs,ok.bsz,ok.noex,ok.exfs,ok.funs,ok.frf⟩
section
variable {X:Cx} {Z:List (Addr×Obj)} {U:St} {H:Hp} {s:Shared} {E:Value->Shared->Prop}
theorem Inv.wish (I:Inv X Z U H s) (E:Value->Shared->Prop):Inv (X.wish E) Z U H s:=⟨I.ok.wish E,I.os,I.bare,I.base,I.loc,I.cell,I.free,I.freeC,I.pin,I.hok,I.len⟩
theorem Inv.unwish (I:Inv (X.wish E) Z U H s):Inv X Z U H s:=⟨I.ok.unwish,I.os,I.bare,I.base,I.loc,I.cell,I.free,I.freeC,I.pin,I.hok,I.len⟩
theorem SP.unwish {D:Ends} {f:Flow} {s':Shared} (h:SP (X.wish E) Z D f s'):SP X Z D f s':=by
 cases f with
 |next=>obtain ⟨σ',H',I,q⟩:=h;exact ⟨σ',H',I.unwish,q⟩
 |brk=>obtain ⟨σ',H',I,q⟩:=h;exact ⟨σ',H',I.unwish,q⟩
 |cont=>obtain ⟨σ',H',I,q⟩:=h;exact ⟨σ',H',I.unwish,q⟩
 |ret u=>obtain ⟨v,σ',H',I,r,q⟩:=h;exact ⟨v,σ',H',I.unwish,r,q⟩
theorem qQ.nox {st:List Stmt} {t:TS} (h:qQ X.nox st t):qQ X st t:=fun Z s U H D I hw=>
 wpAny_mono (h Z s U H D (I.wish _) hw) (fun _ _ q=>q.unwish) fun _ _ z=>False.elim z
end
section
variable {X:Cx} {st:Stmt} {rest:List Stmt} {t u:TS} {e:Expr} {te:TE} {pos:Pos}
def JG:TS:=fun D U H=>D.nx U H
def JM (t u:TS):TS:=fun D U H=>t { D with nx:=u D } U H
theorem aP:qQ X [] JG:=fun _ _ U H _ I h=>wpAny_execs_nil ⟨U,H,I,h⟩
theorem au (h1:PS X st t) (h2:qQ X rest u):qQ X (st::rest) (JM t u):=by
 intro Z s U H D I h
 refine wpAny_execs_cons (cz (h1 Z s U H { D with nx:=u D } I h) fun f s1 q=>?_)
 cases f with
 | next=>
   obtain ⟨σ',H',I',q⟩:=q
   exact h2 Z s1 σ' H' D I' q
 |ret v=>exact q
 |brk=>exact q
 |cont=>exact q
theorem aB (h1:PS X st t):qQ X [st] t:=by
 intro Z s U H D I h
 refine wpAny_execs_cons (cz (h1 Z s U H D I h) fun f s1 q=>?_)
 cases f with
 |next=>exact wpAny_execs_nil q
 |ret v=>exact q
 |brk=>exact q
 |cont=>exact q
theorem Inv.quiet {Z:List (Addr×Obj)} {U:St} {H:Hp} {s:Shared} (I:Inv X Z U H s):interactive X.env=false:=by simp [interactive,I.ok.kind]
def Ii (te:TE):TS:=fun D U H=>te U H fun _ H1=>D.nx U H1
theorem dm (he:PE X e te) (hs:swapsWith e none pos.line X.env=pure false:=by rfl):PS X (.Expr e pos) (Ii te):=by
 intro Z s U H D I h
 exact wpAny_Expr_any (cz (he Z s U H _ I h) fun v s1 ⟨x,H1,I1,r1,q1⟩=>⟨U,H1,I1,q1⟩) I.quiet hs
def Qe (te:TE):TS:=fun D U H=>te U H D.rt
theorem aK (he:PE X e te):PS X (.Return (some e) pos) (Qe te):=by
 intro Z s U H D I h
 exact wpAny_Return_some (cz (he Z s U H _ I h) fun v s1 ⟨x,H1,I1,r1,q1⟩=>⟨x,U,H1,I1,r1,q1⟩)
def QH (c:TT) (t u:TS):TS:=fun D U H=>c U H fun b H1=>if b=true then t D U H1 else u D U H1
theorem bu {c:Expr} {a b:List Stmt} {tc:TT} (hc:PT X c tc) (ha:qQ X a t) (hb:qQ X b u):PS X (.If c a b pos) (QH tc t u):=by
 intro Z s U H D I h
 refine wpAny_If (cz (hc Z s U H _ I h) fun d s1 ⟨H1,I1,q1⟩=>?_)
 cases d with
 |true=>exact ha Z s1 U H1 D I1 q1
 |false=>exact hb Z s1 U H1 D I1 q1
def Gz:TS:=fun _ _ _=>False
theorem ir:PS X st Gz:=fun _ _ _ _ _ _ h=>h.elim
end
abbrev TG:=V->St->Hp->(St->Hp->Prop)->Prop
abbrev Fd:=List V->St->Hp->(St->Hp->Prop)->Prop
def PG (X:Cx) (target:Expr) (t:TG):Prop:=
 ∀ (Z:List (Addr×Obj)) (s:Shared) (U:St) (H:Hp) (v:V) (u:Value) (Q:St->Hp->Prop),Inv X Z U H s->RelV v u->t v U H Q->
   wpAny (model X.prog X.w) X.A (assign target X.env u) (fun _ s'=>∃ σ' H',Inv X Z σ' H' s'/\Q σ' H') X.xe s
def Pj (X:Cx) (ts:List Expr) (t:Fd):Prop:=
 ∀ (Z:List (Addr×Obj)) (s:Shared) (U:St) (H:Hp) (vs:List V) (us:List Value) (Q:St->Hp->Prop),Inv X Z U H s->Vals vs us->t vs U H Q->
   wpAny (model X.prog X.w) X.A (assignInOrder ((assignEach ts X.env).map (·.2)) us) (fun _ s'=>∃ σ' H',Inv X Z σ' H' s'/\Q σ' H') X.xe s
section
variable {X:Cx} {pos:Pos}
def bH (i:Nat):TG:=fun v U H Q=>Q (U.set i (some v)) H
theorem bj {i:Nat} {x:Str} (hN:X.N.Nodup) (hi:X.N[i]?=some x) (hx:Loc X.env.scope x) (hf:X.fn x=true∨X.env.scope.names.lookup x=some .local:=by first|exact .inl rfl|exact .inr rfl|assumption):PG X (.Name x pos) (bH i):=by
 intro Z s U H v u Q I r h
 exact wpAny_assign_Name (j4 I hN hi hx r (fun s' I'=>⟨_,H,I',h⟩) hf)
def Eb:Fd:=fun vs U H Q=>vs=[]/\Q U H
def oY (t:TG) (u:Fd):Fd:=fun vs U H Q=>∃ v r,vs=v::r/\t v U H fun σ' H'=>u r σ' H' Q
theorem je:Pj X [] Eb:=by
 intro Z s U H vs us Q I r h
 obtain ⟨e,h⟩:=h
 subst e
 cases r
 exact assignInOrder_nil ⟨U,H,I,h⟩
theorem cD {e:Expr} {es:List Expr} {t:TG} {u:Fd} (h1:PG X e t) (h2:Pj X es u)
 (hs:(assignEach (e::es) X.env).map (·.2)=assign e X.env::(assignEach es X.env).map (·.2):=by rfl):Pj X (e::es) (oY t u):=by
 intro Z s U H vs us Q I r h
 obtain ⟨v,vr,e1,h⟩:=h
 subst e1
 cases r with
 | cons r rr=>
   rw [hs]
   refine assignInOrder_cons (cz (h1 Z s U H _ _ _ I r h) fun _ s1 ⟨σ1,H1,I1,q1⟩=>?_)
   exact h2 Z s1 σ1 H1 _ _ Q I1 rr q1
def G_ (K:PySem.W.Frag) (n:Nat) (t:Fd):TG:=fun v U H Q=>∃ a xs,v=.ref a/\b_ K H a xs/\xs.length=n/\t xs U H Q
theorem lq {es:List Expr} {k:Nat} {t:Fd} {n:Nat} (hc:X.calm=true) (h:Pj X es t)
 (hn:(assignEach es X.env).length=n:=by rfl) (hst:(assignEach es X.env).findIdx? (·.1)=none:=by rfl):PG X (.Tuple es k pos) (G_ X.K n t):=by
 intro Z s U H v u Q I r hw
 obtain ⟨a,xs,e1,hq,hl,hw⟩:=hw
 subst e1
 cases r
 obtain ⟨its,rv,ht,hz⟩:=I.tuple hq
 refine assign_Tuple_tuple (I.ok.hd hc) ht (by simp [hn,← hl,rv.length]) hst fun h' hx=>?_
 have I1:Inv X Z U H { s with heap:=h' }:=I.kept (t':=s.toks) fun b o e=>hx b o (Nat.ne_of_lt (Heap.lt_size e)) e
 exact h Z _ U H xs _ Q I1 (by simpa using rv) hw
def Dz (te:TE) (g:TG):TS:=fun D U H=>te U H fun x H1=>g x U H1 D.nx
theorem bh {i:Nat} {x:Str} {e:Expr} {te:TE} {pos':Pos} (hN:X.N.Nodup) (hi:X.N[i]?=some x) (hx:Loc X.env.scope x) (he:PE X e te) (hs:swapsWith e (some (.Name x pos')) pos.line X.env=pure false:=by rfl) (hf:X.fn x=true∨X.env.scope.names.lookup x=some .local:=by first|exact .inl rfl|exact .inr rfl|assumption) :
 PS X (.Assign [.Name x pos'] e pos) (Dz te (bH i)):=by
 intro Z s U H D I h
 refine wpAny_Assign_Name (cz (he Z s U H _ I h) fun v s1 ⟨y,H1,I1,r1,q1⟩=>?_) hs
 exact j4 I1 hN hi hx r1 (fun s2 I2=>⟨_,H1,I2,q1⟩) hf
end
structure It where
 go:Nat->Hp->Prop
 yld:Nat->Hp->V->Hp->Prop
 stop:Nat->Hp->Prop
def jo (X:Cx) (Z:List (Addr×Obj)) (H:Hp) (b:Addr):Prop:=
 H b=none/\b≠X.env.locals/\b∉X.fs/\(b∈X.ex∨X.s₀.heap.objs.size≤b)/\(∀ x c,X.env.cells.lookup x=some c->c≠b)/\∀ p∈X.pn++Z,p.1≠b
theorem Inv.fpOk {X:Cx} {Z:List (Addr×Obj)} {U:St} {H H':Hp} {s:Shared} {b:Addr} (I:Inv X Z U H s) (hb:s.heap.objs.size≤b) (hn:H' b=none):jo X Z H' b:=by
 refine ⟨hn,Nat.ne_of_gt (Nat.lt_of_lt_of_le I.lt hb),I.nofs hb,.inr (Nat.le_trans I.sz hb),fun x c e z=>?_,fun p hp z=>?_⟩
 ·obtain ⟨v,q⟩:=I.cell x c e
  exact absurd (Nat.lt_of_lt_of_le q.lt (by rw [z];exact hb)) (Nat.lt_irrefl _)
 ·exact absurd (Nat.lt_of_lt_of_le (Heap.lt_size (I.pin p hp).1) (by rw [z];exact hb)) (Nat.lt_irrefl _)
structure Turn (P:Program) (w:World) (K:PySem.W.Frag) (tg:Expr) (J:It) (fp:List Addr) (it:Addr) (tn:Nat->Heap->Prop):Prop where
 mem:it∈fp
 obj:∀ i h,tn i h->∀ b∈fp,∃ o,h.get? b=some o/\∀ v,o.data≠.cell v
 keep:∀ i h h',tn i h->(∀ b∈fp,∀ o,h.get? b=some o->h'.get? b=some o)->tn i h'
 item:∀ (X:Cx),X.prog=P->X.w=w->X.K=K->X.calm=true->∀ (i:Nat) (Z:List (Addr×Obj)) (s:Shared) (U:St) (H:Hp) (E:Value->Shared->Prop),Inv X Z U H s->(∀ b∈fp,jo X Z H b)->tn i s.heap->J.go i H->
  wpAny (model P w) X.A (pyNext (.ref it)) (fun r s1=>∃ u,r=some u/\
   wpAny (model P w) X.A (letOwnedTupleGo tg (.ref it) u) (fun _ s2=>∃ x H',Inv X Z U H' s2/\RelV x u/\J.yld i H x H'/\tn (i+1) s2.heap/\∀ b∈fp,H' b=none) E s1) E s
 done:∀ (X:Cx),X.prog=P->X.w=w->X.K=K->X.calm=true->∀ (i:Nat) (Z:List (Addr×Obj)) (s:Shared) (U:St) (H:Hp) (E:Value->Shared->Prop),Inv X Z U H s->(∀ b∈fp,jo X Z H b)->tn i s.heap->J.stop i H->
  wpAny (model P w) X.A (pyNext (.ref it)) (fun r s1=>r=none/\Inv X Z U H s1) E s
 self:∀ (A:Around) (i:Nat) (s:Shared) (Q:Value->Shared->Prop) (E:Value->Shared->Prop),tn i s.heap->Q (.ref it) s->wpAny (model P w) A (pyIter (.ref it)) Q E s
abbrev TI:=St->Hp->(It->Hp->Prop)->Prop
def PIE (X:Cx) (Z:List (Addr×Obj)) (U:St) (tg:Expr) (R:It->Hp->Prop) (itv:Value) (s2:Shared):Prop:=
 ∃ (it:Addr) (fp:List Addr) (tn:Nat->Heap->Prop) (J:It) (H':Hp),itv=.ref it/\Inv X Z U H' s2/\Turn X.prog X.w X.K tg J fp it tn/\tn 0 s2.heap/\(∀ b∈fp,jo X Z H' b)/\R J H'
def PI (X:Cx) (tg iter:Expr) (wi:TI):Prop:=
 ∀ (Z:List (Addr×Obj)) (s:Shared) (U:St) (H:Hp) (R:It->Hp->Prop),Inv X Z U H s->wi U H R->
   wpAny (model X.prog X.w) X.A (eval iter X.env) (fun v s1=>wpAny (model X.prog X.w) X.A (pyIter v) (PIE X Z U tg R) X.xe s1) X.xe s
theorem uR {M:Model} {A:Around} {E:Value->Shared->Prop} {s:Shared} {tg:Expr} {it:Addr} {u:Value} {o:Obj} {n:String} {vs:Array Value} {Q:Unit->Shared->Prop} (ho:s.heap.get? it=some o) (hc:o.cls=.type n) (hd:o.data=.fields vs)
 (hn:["enumerate","zip","dict_itemiterator","dict_reverseitemiterator","odict_iterator","itertools.zip_longest","itertools.pairwise"].contains n=false) (hQ:Q () s):wpAny M A (letOwnedTupleGo tg (.ref it) u) Q E s:=by
 unfold letOwnedTupleGo
 cases tg <;> first
  |exact wpAny_pure hQ
  |(cases u <;> first
   |exact wpAny_pure hQ
   | (refine wpAny_bind (wpAny_load ho ?_)
      rw [hc,hd]
      show wpAny M A (if (["enumerate","zip","dict_itemiterator","dict_reverseitemiterator","odict_iterator","itertools.zip_longest","itertools.pairwise"].contains n && vs[0]? == some (rawInt _))=true then _ else _) Q E s
      rw [if_neg (by intro h;rw [hn,Bool.false_and] at h;cases h)]
      exact wpAny_pure hQ))
def BJ (K:PySem.W.Frag) (a:Addr):It:=
 ⟨fun i H=>∃ xs x,bM K H a xs/\xs[i]?=some x,fun i H x H'=>H'=H/\∀ xs,bM K H a xs->xs[i]?=some x,fun i H=>∃ xs,bM K H a xs/\xs.length≤i⟩
def Hm (K:PySem.W.Frag) (a:Addr):It:=
 ⟨fun i H=>∃ xs x,b_ K H a xs/\xs[i]?=some x,fun i H x H'=>H'=H/\∀ xs,b_ K H a xs->xs[i]?=some x,fun i H=>∃ xs,b_ K H a xs/\xs.length≤i⟩
def Az (lo:Int) (n:Nat):It:=⟨fun i _=>i<n,fun i H x H'=>H'=H/\x=.int (lo+i),fun i _=>n≤i⟩
theorem wz {P:Program} {w:World} {K:PySem.W.Frag} {tg:Expr} (a it:Addr):Turn P w K tg (BJ K a) [it] it (fun i h=>h.IsListIter it a i) where
 mem:=by simp
 obj:=fun i h st b hb=>by
  have e:b=it:=by simpa using hb
  subst e
  obtain ⟨o,e,c,d⟩:=st
  exact ⟨o,e,fun v z=>by rw [d] at z;cases z⟩
 keep:=fun i h h' st k=>st.at fun o e=>k it (by simp) o e
 item:=by
  intro X hP hw hK hc i Z s U H E I hf st hg
  subst hP hw hK
  obtain ⟨xs,x,hq,hx⟩:=hg
  obtain ⟨its,rv,p,hz⟩:=I.list hq
  obtain ⟨u,hu,ru⟩:=rv.get hx
  obtain ⟨f0,f1,f2,f3,f4,f5⟩:=hf it (by simp)
  refine wpAny_pyNext_list_item st p.isList (x:=u) (by simpa using hu) fun h' st' sb=>?_
  have I1:Inv X Z U H { s with heap:=h' }:=I.turned (t':=s.toks) (fun b o hb e=>(sb.2 b hb).trans e) f0 f1 f3 f4 f5
  obtain ⟨o,e,c,d⟩:=id st'
  exact ⟨u,rfl,uR (s:={ s with heap:=h' }) e c d (by decide) ⟨x,H,I1,ru,⟨rfl,fun ys hy=>by rw [I.list_inj hy hq];exact hx⟩,st',fun b hb=>(hf b hb).1⟩⟩
 done:=by
  intro X hP hw hK hc i Z s U H E I hf st hg
  subst hP hw hK
  obtain ⟨xs,hq,hx⟩:=hg
  obtain ⟨its,rv,p,hz⟩:=I.list hq
  obtain ⟨f0,f1,f2,f3,f4,f5⟩:=hf it (by simp)
  have hl:=rv.length
  exact wpAny_pyNext_list_end (I.ok.hd hc) st p.isList (by simp;omega) fun h' eb=>⟨rfl,I.turned (t':=s.toks) (fun b o hb e=>eb b o hb e) f0 f1 f3 f4 f5⟩
 self:=fun _ _ _ _ _ st h=>wpAny_pyIter_listiter st h
theorem ux {P:Program} {w:World} {K:PySem.W.Frag} {tg:Expr} (a it:Addr):Turn P w K tg (Hm K a) [it] it (fun i h=>h.IsTupleIter it a i) where
 mem:=by simp
 obj:=fun i h st b hb=>by
  have e:b=it:=by simpa using hb
  subst e
  obtain ⟨o,e,c,d⟩:=st
  exact ⟨o,e,fun v z=>by rw [d] at z;cases z⟩
 keep:=fun i h h' st k=>st.at fun o e=>k it (by simp) o e
 item:=by
  intro X hP hw hK hc i Z s U H E I hf st hg
  subst hP hw hK
  obtain ⟨xs,x,hq,hx⟩:=hg
  obtain ⟨its,rv,p,hz⟩:=I.tuple hq
  obtain ⟨u,hu,ru⟩:=rv.get hx
  obtain ⟨f0,f1,f2,f3,f4,f5⟩:=hf it (by simp)
  refine wpAny_pyNext_tuple_item st (show s.heap.IsTuple a its.toArray from p) (x:=u) (by simpa using hu) fun h' st' sb=>?_
  have I1:Inv X Z U H { s with heap:=h' }:=I.turned (t':=s.toks) (fun b o hb e=>(sb.2 b hb).trans e) f0 f1 f3 f4 f5
  obtain ⟨o,e,c,d⟩:=id st'
  exact ⟨u,rfl,uR (s:={ s with heap:=h' }) e c d (by decide) ⟨x,H,I1,ru,⟨rfl,fun ys hy=>by rw [I.tuple_inj hy hq];exact hx⟩,st',fun b hb=>(hf b hb).1⟩⟩
 done:=by
  intro X hP hw hK hc i Z s U H E I hf st hg
  subst hP hw hK
  obtain ⟨xs,hq,hx⟩:=hg
  obtain ⟨its,rv,p,hz⟩:=I.tuple hq
  obtain ⟨f0,f1,f2,f3,f4,f5⟩:=hf it (by simp)
  have hl:=rv.length
  exact wpAny_pyNext_tuple_end (I.ok.hd hc) st (show s.heap.IsTuple a its.toArray from p) (by simp;omega) fun h' eb=>⟨rfl,I.turned (t':=s.toks) (fun b o hb e=>eb b o hb e) f0 f1 f3 f4 f5⟩
 self:=fun _ _ _ _ _ st h=>wpAny_pyIter_tupleiter st h
theorem tY {P:Program} {w:World} {K:PySem.W.Frag} {tg:Expr} (it:Addr) (lo:Int) (n:Nat):Turn P w K tg (Az lo n) [it] it (fun i h=>IsRangeIter h it (lo+(i:Nat)*1) ((n:Int)-(i:Nat)) 1) where
 mem:=by simp
 obj:=fun i h st b hb=>by
  have e:b=it:=by simpa using hb
  subst e
  exact ⟨_,st,fun v z=>by
   have z':Data.fields _=Data.cell v:=z
   cases z'⟩
 keep:=fun i h h' st k=>k it (by simp) _ st
 item:=by
  intro X hP hw hK hc i Z s U H E I hf st hg
  subst hP hw hK
  obtain ⟨f0,f1,f2,f3,f4,f5⟩:=hf it (by simp)
  have W:=Walks.range (prog:=X.prog) (w:=X.w) (I.ok.hd hc) it lo 1 n
  refine W.item i s _ _ hg st fun v h' tk hv st' kk=>?_
  obtain ⟨t,rfl⟩:=hv
  have I1:Inv X Z U H { s with heap:=h',toks:=tk }:=I.turned (fun b o hb e=>kk b o (by simpa using hb) e) f0 f1 f3 f4 f5
  refine ⟨_,rfl,uR (s:={ s with heap:=h',toks:=tk }) (n:="range_iterator") st' rfl rfl (by decide) ⟨.int (lo+i),H,I1,⟨t,?_⟩,⟨rfl,rfl⟩,st',fun b hb=>(hf b hb).1⟩⟩
  rw [Int.mul_one]
 done:=by
  intro X hP hw hK hc i Z s U H E I hf st hg
  subst hP hw hK
  obtain ⟨f0,f1,f2,f3,f4,f5⟩:=hf it (by simp)
  exact wpAny_pyNext_range_end (I.ok.hd hc) st (by have:n≤i:=hg;omega) fun h' eb=>⟨rfl,I.turned (t':=s.toks) (fun b o hb e=>eb b o hb e) f0 f1 f3 f4 f5⟩
 self:=fun _ _ _ _ _ st h=>wpAny_pyIter_rangeiter st h
section
variable {X:Cx} {tg:Expr}
def vp (K:PySem.W.Frag) (tl:TE):TI:=fun U H R=>tl U H fun x H1=>∃ a,x=.ref a/\(∃ xs,bM K H1 a xs)/\R (BJ K a) H1
def QV (K:PySem.W.Frag) (tl:TE):TI:=fun U H R=>tl U H fun x H1=>∃ a,x=.ref a/\(∃ xs,b_ K H1 a xs)/\R (Hm K a) H1
theorem eU {l:Expr} {tl:TE} (hl:PE X l tl):PI X tg l (vp X.K tl):=by
 intro Z s U H R I h
 refine cz (hl Z s U H _ I h) fun v s1 ⟨x,H1,I1,r1,q1⟩=>?_
 obtain ⟨a,e,⟨xs,hq⟩,q⟩:=q1
 subst e
 cases r1
 obtain ⟨its,rv,p,hz⟩:=I1.list hq
 refine wpAny_pyIter_list p.isList ?_
 refine ⟨s1.heap.objs.size,[s1.heap.objs.size],_,_,H1,rfl,I1.kept (t':=s1.toks) fun b o e=>Heap.get?_push_of_some _ e,wz a _,⟨_,Heap.get?_push_size _ rfl,rfl,rfl⟩,fun b hb=>?_,q⟩
 have e:b=s1.heap.objs.size:=by simpa using hb
 subst e
 exact I1.fpOk (Nat.le_refl _) (I1.hok.fresh (Nat.le_refl _))
theorem gR {l:Expr} {tl:TE} (hl:PE X l tl):PI X tg l (QV X.K tl):=by
 intro Z s U H R I h
 refine cz (hl Z s U H _ I h) fun v s1 ⟨x,H1,I1,r1,q1⟩=>?_
 obtain ⟨a,e,⟨xs,hq⟩,q⟩:=q1
 subst e
 cases r1
 obtain ⟨its,rv,p,hz⟩:=I1.tuple hq
 refine wpAny_pyIter_tuple (show s1.heap.IsTuple a its.toArray from p) ?_
 refine ⟨s1.heap.objs.size,[s1.heap.objs.size],_,_,H1,rfl,I1.kept (t':=s1.toks) fun b o e=>Heap.get?_push_of_some _ e,ux a _,⟨_,Heap.get?_push_size _ rfl,rfl,rfl⟩,fun b hb=>?_,q⟩
 have e:b=s1.heap.objs.size:=by simpa using hb
 subst e
 exact I1.fpOk (Nat.le_refl _) (I1.hok.fresh (Nat.le_refl _))
theorem qZ {Z:List (Addr×Obj)} {U:St} {H:Hp} {s:Shared} {R:It->Hp->Prop} {E:Value->Shared->Prop} {lo hi:Int} {t u v:Tok} {tk:Nat} (I:Inv X Z U H s) (h1:-(2 ^ 62)≤lo) (h2:lo<2 ^ 62) (h3:-(2 ^ 62)≤hi) (h4:hi<2 ^ 62)
 (q:R (Az lo (hi-lo).toNat) H):wpAny (model X.prog X.w) X.A (pyIter (.ref s.heap.objs.size)) (PIE X Z U tg R) E { s with heap:=s.heap.push { cls:=.type "range",data:=.fields #[.int lo t,.int hi u,.int 1 v] },toks:=tk }:=by
 refine wpAny_pyIter_range (IsRange.new ..) (small_one h1 h2 h3 h4) ?_
 have I1:Inv X Z U H { s with heap:=s.heap.push { cls:=.type "range",data:=.fields #[.int lo t,.int hi u,.int 1 v] },toks:=tk }:=I.kept fun b o e=>Heap.get?_push_of_some _ e
 refine ⟨(s.heap.push { cls:=.type "range",data:=.fields #[.int lo t,.int hi u,.int 1 v] }).objs.size,[(s.heap.push { cls:=.type "range",data:=.fields #[.int lo t,.int hi u,.int 1 v] }).objs.size],_,_,H,rfl,
  I1.kept (t':=tk) fun b o e=>Heap.get?_push_of_some _ e,tY _ lo (hi-lo).toNat,?_,fun b hb=>?_,q⟩
 ·have e1:lo+((0:Nat):Int)*1=lo:=by simp
  have e2:(((hi-lo).toNat:Nat):Int)-((0:Nat):Int)=Builtin.Range.rangeSize lo hi 1:=by rw [rangeSize_one];split <;> omega
  show IsRangeIter _ _ (lo+((0:Nat):Int)*1) ((((hi-lo).toNat:Nat):Int)-((0:Nat):Int)) 1
  rw [e1,e2]
  exact Heap.get?_push_size _ rfl
 ·have e:b=(s.heap.push { cls:=.type "range",data:=.fields #[.int lo t,.int hi u,.int 1 v] }).objs.size:=by simpa using hb
  subst e
  exact I1.fpOk (Nat.le_refl _) (I1.hok.fresh (Nat.le_refl _))
def Jk (ta:TA):TI:=fun U H R=>ta U H fun vs H1=>∃ j:Int,vs=[.int j]/\-(2 ^ 62)≤j/\j<2 ^ 62/\R (Az 0 j.toNat) H1
def Mw (ta:TA):TI:=fun U H R=>ta U H fun vs H1=>∃ i j:Int,vs=[.int i,.int j]/\(-(2 ^ 62)≤i/\i<2 ^ 62/\-(2 ^ 62)≤j/\j<2 ^ 62)/\R (Az i (j-i).toNat) H1
theorem fU {a:Expr} {ta:TA} {p pos:Pos} (hg:Gl X "range") (hm:X.mg "range" = none) (ha:PA X [a] ta) (hs:starEach [a] X.env=[(false,eval a X.env)]:=by rfl):PI X tg (.Call (.Name "range" p) [a] [] pos) (Jk ta):=by
 intro Z s U H R I h
 refine Call_ (jw I hg hm boot_range (PyProof.Rows.callWith_type1 (cz (ha pos Z s U H _ I h) fun us s1 ⟨vs,H1,I1,r1,q1⟩=>?_) hs rfl))
 obtain ⟨j,e,q1,q2,q⟩:=q1
 subst e
 cases r1 with
 | cons r rr=>
   cases rr
   obtain ⟨t,rfl⟩:=r
   exact call_range_1 (qZ I1 (by omega) (by omega) q1 q2 (by simpa using q))
theorem vW {a b:Expr} {ta:TA} {p pos:Pos} (hg:Gl X "range") (hm:X.mg "range" = none) (ha:PA X [a,b] ta) (hs:starEach [a,b] X.env=[(false,eval a X.env),(false,eval b X.env)]:=by rfl) (hs2:starEach [b] X.env=[(false,eval b X.env)]:=by rfl) :
 PI X tg (.Call (.Name "range" p) [a,b] [] pos) (Mw ta):=by
 intro Z s U H R I h
 refine Call_ (jw I hg hm boot_range (PyProof.Rows.callWith_type1 (cz (ha pos Z s U H _ I h) fun us s1 ⟨vs,H1,I1,r1,q1⟩=>?_) (by rw [hs,hs2]) (by rw [hs2];rfl)))
 obtain ⟨i,j,e,⟨q1,q2,q3,q4⟩,q⟩:=q1
 subst e
 cases r1 with
 | cons r rr=>
   cases rr with
   | cons r' rr=>
     cases rr
     obtain ⟨t,rfl⟩:=r
     obtain ⟨t',rfl⟩:=r'
     exact call_range_2 (qZ I1 q1 q2 q3 q4 q)
def QD (wi:TI) (g:TG) (tb:TS):TS:=fun D U H=>wi U H fun J H1=>∃ W:Nat->Nat->St->Hp->Prop,(∃ m,W 0 m U H1)/\∀ i m U H,W i m U H->
 (J.stop i H/\D.nx U H)∨(J.go i H/\∃ N:St->Hp->Prop,(∀ σ' H',N σ' H'->∃ m',m'<m/\W (i+1) m' σ' H')/\∀ x H',J.yld i H x H'->g x U H' fun σ2 H2=>tb { D with nx:=N,ct:=N,bk:=D.nx } σ2 H2)
def gG (fp:List Addr) (h:Heap):List (Addr×Obj):=fp.filterMap fun b=>(h.get? b).map fun o=>(b,o)
theorem cX {fp:List Addr} {h:Heap} {b:Addr} {o:Obj} (hb:b∈fp) (e:h.get? b=some o):(b,o)∈gG fp h:=List.mem_filterMap.mpr ⟨b,hb,by rw [e];rfl⟩
theorem oW {fp:List Addr} {h:Heap} {p:Addr×Obj} (hp:p∈gG fp h):p.1∈fp/\h.get? p.1=some p.2:=by
 obtain ⟨b,hb,e⟩:=List.mem_filterMap.mp hp
 cases q:h.get? b with
 |none=>rw [q] at e;cases e
 | some o=>
   rw [q] at e
   have e':(b,o)=p:=Option.some.inj e
   subst e'
   exact ⟨hb,q⟩
theorem Inv.pinned {Z:List (Addr×Obj)} {U:St} {H:Hp} {s:Shared} {fp:List Addr} (I:Inv X Z U H s) (hf:∀ b∈fp,jo X Z H b) (ho:∀ b∈fp,∃ o,s.heap.get? b=some o/\∀ v,o.data≠.cell v):Inv X (Z++gG fp s.heap) U H s:=
 I.pins_of fun p hp=>(List.mem_append.mp hp).elim (fun z=>I.pin p (List.mem_append_right _ z)) fun z=>by
  obtain ⟨hb,e⟩:=oW z
  obtain ⟨f0,f1,f2,_⟩:=hf p.1 hb
  obtain ⟨o,e',d⟩:=ho p.1 hb
  rw [e] at e';cases e'
  exact ⟨e,f0,f1,f2,d⟩
theorem Inv.unpinned {Z pl:List (Addr×Obj)} {U:St} {H:Hp} {s:Shared} (I:Inv X (Z++pl) U H s):Inv X Z U H s:=I.pins_of fun p hp=>I.pin p (List.mem_append_right _ (List.mem_append_left _ hp))
theorem eG {iter:Expr} {body:List Stmt} {wi:TI} {g:TG} {tb:TS} {pos:Pos} (hp:PassesOwn (model X.prog X.w) X.A X.env X.xe) (hc:X.calm=true) (hi:PI X tg iter wi) (hg:PG X tg g) (hb:qQ X body tb)
 (hs:∀ x,foldedSetIterable iter X.env x=pure x:=by intro _;rfl):PS X (.For tg iter body [] pos) (QD wi g tb):=by
 intro Z s U H D I h
 refine wpAny_For (cz (hi Z s U H _ I h) fun v s1 h1=>cz h1 fun itv s2 h2=>?_) hs
 obtain ⟨it,fp,tn,J,H2,e,I2,T,st2,f2,W,⟨m0,w0⟩,turn⟩:=h2
 subst e
 have stat:∀ {H':Hp},(∀ b∈fp,H' b=none)->∀ b∈fp,jo X Z H' b:=fun hn b hb=>⟨hn b hb,(f2 b hb).2⟩
 refine codeAny_forLoop_any (fun n s'=>∃ i σ' H',Inv X Z σ' H' s'/\tn i s'.heap/\(∀ b∈fp,H' b=none)/\W i n σ' H') ?_ m0 ⟨0,U,H2,I2,st2,fun b hb=>(f2 b hb).1,w0⟩
 rintro n s3 ⟨i,σ3,H3,I3,st3,fr3,w3⟩
 rcases turn i n σ3 H3 w3 with ⟨stop,qn⟩|⟨go,N,hN,step⟩
 ·refine wpAny_passesOwn hp (cz (T.done X rfl rfl rfl hc i Z s3 σ3 H3 X.xe I3 (stat fr3) st3 stop) fun r s4 ⟨hr,I4⟩=>?_)
  subst hr
  exact wpAny_execs_nil ⟨σ3,H3,I4,qn⟩
 ·refine wpAny_passesOwn hp (cz (T.item X rfl rfl rfl hc i Z s3 σ3 H3 X.xe I3 (stat fr3) st3 go) fun r s4 ⟨u,hr,h4⟩=>?_)
  subst hr
  refine wpAny_passesOwn hp (cz h4 fun _ s5 ⟨x,H5,I5,r5,y5,st5,fr5⟩=>?_)
  have I5':=I5.pinned (stat fr5) (T.obj _ _ st5)
  refine wpAny_passesOwn hp (cz (hg _ s5 σ3 H5 x u _ I5' r5 (step x H5 y5)) fun _ s6 ⟨σ6,H6,I6,q6⟩=>?_)
  refine wpAny_passesOwn hp (cz (hb _ s6 σ6 H6 _ I6 q6) fun f s7 q7=>?_)
  have again:∀ {σ7:St} {H7:Hp},Inv X (Z++gG fp s5.heap) σ7 H7 s7->N σ7 H7->∃ m,m<n/\∃ i σ' H',Inv X Z σ' H' s7/\tn i s7.heap/\(∀ b∈fp,H' b=none)/\W i m σ' H':=fun {σ7 H7} I7 n7=>by
   obtain ⟨m',hm,w7⟩:=hN σ7 H7 n7
   refine ⟨m',hm,i+1,σ7,H7,I7.unpinned,T.keep _ _ _ st5 fun b hb o e=>(I7.pin (b,o) (List.mem_append_right _ (List.mem_append_right _ (cX hb e)))).1,fun b hb=>?_,w7⟩
   obtain ⟨o,e,d⟩:=T.obj _ _ st5 b hb
   exact (I7.pin (b,o) (List.mem_append_right _ (List.mem_append_right _ (cX hb e)))).2.1
  cases f with
  |next=>obtain ⟨σ7,H7,I7,n7⟩:=q7;exact again I7 n7
  |cont=>obtain ⟨σ7,H7,I7,n7⟩:=q7;exact again I7 n7
  |brk=>obtain ⟨σ7,H7,I7,q7⟩:=q7;exact ⟨σ7,H7,I7.unpinned,q7⟩
  |ret v=>obtain ⟨x7,σ7,H7,I7,r7,q7⟩:=q7;exact ⟨x7,σ7,H7,I7.unpinned,r7,q7⟩
end
theorem j5 {K:PySem.W.Frag} {a:Addr} {xs:List V} {g:TG} {tb:TS} {D:Ends} {U:St} {H:Hp} (Pv:Nat->St->Hp->Prop) (h0:Pv 0 U H) (hl:∀ i U H,i≤xs.length->Pv i U H->bM K H a xs)
 (hs:∀ i x U H,xs[i]?=some x->Pv i U H->g x U H fun σ2 H2=>tb { D with nx:=Pv (i+1),ct:=Pv (i+1),bk:=D.nx } σ2 H2) (hd:∀ U H,Pv xs.length U H->D.nx U H) :
 ∃ W:Nat->Nat->St->Hp->Prop,(∃ m,W 0 m U H)/\∀ i m U H,W i m U H->
   ((BJ K a).stop i H/\D.nx U H)∨((BJ K a).go i H/\∃ N:St->Hp->Prop,(∀ σ' H',N σ' H'->∃ m',m'<m/\W (i+1) m' σ' H')/\∀ x H',(BJ K a).yld i H x H'->g x U H' fun σ2 H2=>tb { D with nx:=N,ct:=N,bk:=D.nx } σ2 H2):=by
 refine ⟨fun i m U H=>m=xs.length-i/\i≤xs.length/\Pv i U H,⟨xs.length,by simp,Nat.zero_le _,h0⟩,?_⟩
 rintro i m U H ⟨rfl,hi,p⟩
 have q:=hl i U H hi p
 by_cases hlt:i<xs.length
 ·refine .inr ⟨⟨xs,xs[i],q,by simp [hlt]⟩,Pv (i+1),fun σ' H' p'=>⟨xs.length-(i+1),by omega,rfl,hlt,p'⟩,fun x H' y=>?_⟩
  obtain ⟨e,y⟩:=y
  subst e
  exact hs i x U _ (y xs q) p
 ·have e:i=xs.length:=by omega
  subst e
  exact .inl ⟨⟨xs,q,Nat.le_refl _⟩,hd U H p⟩
theorem l_ {K:PySem.W.Frag} {a:Addr} {xs:List V} {g:TG} {tb:TS} {D:Ends} {U:St} {H:Hp} (Pv:Nat->St->Hp->Prop) (h0:Pv 0 U H) (hl:∀ i U H,i≤xs.length->Pv i U H->b_ K H a xs)
 (hs:∀ i x U H,xs[i]?=some x->Pv i U H->g x U H fun σ2 H2=>tb { D with nx:=Pv (i+1),ct:=Pv (i+1),bk:=D.nx } σ2 H2) (hd:∀ U H,Pv xs.length U H->D.nx U H) :
 ∃ W:Nat->Nat->St->Hp->Prop,(∃ m,W 0 m U H)/\∀ i m U H,W i m U H->
   ((Hm K a).stop i H/\D.nx U H)∨((Hm K a).go i H/\∃ N:St->Hp->Prop,(∀ σ' H',N σ' H'->∃ m',m'<m/\W (i+1) m' σ' H')/\∀ x H',(Hm K a).yld i H x H'->g x U H' fun σ2 H2=>tb { D with nx:=N,ct:=N,bk:=D.nx } σ2 H2):=by
 refine ⟨fun i m U H=>m=xs.length-i/\i≤xs.length/\Pv i U H,⟨xs.length,by simp,Nat.zero_le _,h0⟩,?_⟩
 rintro i m U H ⟨rfl,hi,p⟩
 have q:=hl i U H hi p
 by_cases hlt:i<xs.length
 ·refine .inr ⟨⟨xs,xs[i],q,by simp [hlt]⟩,Pv (i+1),fun σ' H' p'=>⟨xs.length-(i+1),by omega,rfl,hlt,p'⟩,fun x H' y=>?_⟩
  obtain ⟨e,y⟩:=y
  subst e
  exact hs i x U _ (y xs q) p
 ·have e:i=xs.length:=by omega
  subst e
  exact .inl ⟨⟨xs,q,Nat.le_refl _⟩,hd U H p⟩
theorem lD {lo:Int} {n:Nat} {g:TG} {tb:TS} {D:Ends} {U:St} {H:Hp} (Pv:Nat->St->Hp->Prop) (h0:Pv 0 U H)
 (hs:∀ i U H,i<n->Pv i U H->g (.int (lo+i)) U H fun σ2 H2=>tb { D with nx:=Pv (i+1),ct:=Pv (i+1),bk:=D.nx } σ2 H2) (hd:∀ U H,Pv n U H->D.nx U H) :
 ∃ W:Nat->Nat->St->Hp->Prop,(∃ m,W 0 m U H)/\∀ i m U H,W i m U H->
   ((Az lo n).stop i H/\D.nx U H)∨((Az lo n).go i H/\∃ N:St->Hp->Prop,(∀ σ' H',N σ' H'->∃ m',m'<m/\W (i+1) m' σ' H')/\∀ x H',(Az lo n).yld i H x H'->g x U H' fun σ2 H2=>tb { D with nx:=N,ct:=N,bk:=D.nx } σ2 H2):=by
 refine ⟨fun i m U H=>m=n-i/\i≤n/\Pv i U H,⟨n,by simp,Nat.zero_le _,h0⟩,?_⟩
 rintro i m U H ⟨rfl,hi,p⟩
 by_cases hlt:i<n
 ·refine .inr ⟨hlt,Pv (i+1),fun σ' H' p'=>⟨n-(i+1),by omega,rfl,hlt,p'⟩,fun x H' y=>?_⟩
  obtain ⟨e,y⟩:=y
  subst e y
  exact hs i U _ hlt p
 ·have e:i=n:=by omega
  subst e
  exact .inl ⟨Nat.le_refl _,hd U H p⟩
abbrev R2:=V->V->Hp->VK->Prop
def iI (X:Cx) (f:Value->Value->Sem Value) (r:R2):Prop:=
 ∀ (Z:List (Addr×Obj)) (s:Shared) (U:St) (H:Hp) (x y:V) (v u:Value) (Q:VK),Inv X Z U H s->RelV x v->RelV y u->r x y H Q->
   wpAny (model X.prog X.w) X.A (f v u) (EP X Z U Q) X.xe s
def P_ (X:Cx) (f:Value->Sem Value) (r:V->Hp->VK->Prop):Prop:=
 ∀ (Z:List (Addr×Obj)) (s:Shared) (U:St) (H:Hp) (x:V) (v:Value) (Q:VK),Inv X Z U H s->RelV x v->r x H Q->
   wpAny (model X.prog X.w) X.A (f v) (EP X Z U Q) X.xe s
def eX (X:Cx) (f:Value) (r:List V->Hp->VK->Prop):Prop:=
 ∀ (Z:List (Addr×Obj)) (s:Shared) (U:St) (H:Hp) (xs:List V) (us:List Value) (Q:VK),Inv X Z U H s->Vals xs us->r xs H Q->
   wpAny (model X.prog X.w) X.A (call f us) (EP X Z U Q) X.xe s
def Og (r:R2) (ta tb:TE):TE:=fun U H Q=>ta U H fun x H1=>tb U H1 fun y H2=>r x y H2 Q
def Ud (r:V->Hp->VK->Prop) (ta:TE):TE:=fun U H Q=>ta U H fun x H1=>r x H1 Q
def rI (C:Int->Int->Prop) (g:Int->Int->V):R2:=fun x y H Q=>∃ i j,x=.int i/\y=.int j/\C i j/\Q (g i j) H
def Bf (g:Int->Int->V):R2:=fun x y H Q=>∃ i j,x=.int i/\y=.int j/\Q (g i j) H
def rU (g:Int->V):V->Hp->VK->Prop:=fun x H Q=>∃ i,x=.int i/\Q (g i) H
section
variable {X:Cx} {a b c:Expr} {ta tb tc:TE} {pos:Pos}
theorem Gk (ha:PE X a ta) (hb:PE X b tb) {Z:List (Addr×Obj)} {s:Shared} {U:St} {H:Hp} {R:V->V->Hp->Prop} (I:Inv X Z U H s)
 (h:ta U H fun x H1=>tb U H1 fun y H2=>R x y H2) {Q:Value->Shared->Prop} {f:Value->Value->Sem Value}
 (hf:∀ v u s2 x y H2,Inv X Z U H2 s2->RelV x v->RelV y u->R x y H2->wpAny (model X.prog X.w) X.A (f v u) Q X.xe s2) :
 wpAny (model X.prog X.w) X.A (eval a X.env) (fun v s₁=>wpAny (model X.prog X.w) X.A (eval b X.env) (fun u s₂=>wpAny (model X.prog X.w) X.A (f v u) Q X.xe s₂) X.xe s₁) X.xe s:=by
 refine cz (ha Z s U H _ I h) fun v s1 ⟨x,H1,I1,r1,q1⟩=>?_
 refine cz (hb Z s1 U H1 _ I1 q1) fun u s2 ⟨y,H2,I2,r2,q2⟩=>?_
 exact hf v u s2 x y H2 I2 r1 r2 q2
theorem aZ {op:Operator} {r:R2} (ho:iI X (binaryOp op) r) (ha:PE X a ta) (hb:PE X b tb):PE X (.BinOp a op b pos) (Og r ta tb):=by
 intro Z s U H Q I h
 exact wpAny_BinOp (Gk ha hb I h fun v u s2 x y H2 I2 rx ry q=>ho Z s2 U H2 x y v u Q I2 rx ry q)
theorem jG {op:UnaryOp} {r:V->Hp->VK->Prop} (ho:P_ X (unaryOp op) r) (ha:PE X a ta):PE X (.UnaryOp op a pos) (Ud r ta):=by
 intro Z s U H Q I h
 exact UnaryOp_ (cz (ha Z s U H _ I h) fun v s1 ⟨x,H1,I1,r1,q1⟩=>ho Z s1 U H1 x v Q I1 r1 q1)
theorem Kz {f:Value->Value->Sem Value} {C:Int->Int->Prop} {g:Int->Int->Int}
 (rule:∀ (i j:Int) (t u:Tok) (s:Shared) (Q:Value->Shared->Prop) (E:Value->Shared->Prop),C i j->Q (.int (g i j) s.toks) { s with toks:=s.toks+1 }->wpAny (model X.prog X.w) X.A (f (.int i t) (.int j u)) Q E s) :
 iI X f (rI C fun i j=>.int (g i j)):=by
 intro Z s U H x y v u Q I rx ry h
 obtain ⟨i,j,rfl,rfl,hc,q⟩:=h
 obtain ⟨t,rfl⟩:=rx
 obtain ⟨t',rfl⟩:=ry
 exact rule i j t t' s _ _ hc ⟨.int (g i j),H,I.tok _,⟨_,rfl⟩,q⟩
theorem Jw {f:Value->Value->Sem Value} {g:Int->Int->Int}
 (rule:∀ (i j:Int) (t u:Tok) (s:Shared) (Q:Value->Shared->Prop) (E:Value->Shared->Prop),Q (.int (g i j) s.toks) { s with toks:=s.toks+1 }->wpAny (model X.prog X.w) X.A (f (.int i t) (.int j u)) Q E s) :
 iI X f (Bf fun i j=>.int (g i j)):=by
 intro Z s U H x y v u Q I rx ry h
 obtain ⟨i,j,rfl,rfl,q⟩:=h
 obtain ⟨t,rfl⟩:=rx
 obtain ⟨t',rfl⟩:=ry
 exact rule i j t t' s _ _ ⟨.int (g i j),H,I.tok _,⟨_,rfl⟩,q⟩
theorem Ar {f:Value->Value->Sem Value} {g:Int->Int->Bool}
 (rule:∀ (i j:Int) (t u:Tok) (s:Shared) (Q:Value->Shared->Prop) (E:Value->Shared->Prop),Q (.bool (g i j)) s->wpAny (model X.prog X.w) X.A (f (.int i t) (.int j u)) Q E s) :
 iI X f (Bf fun i j=>.bl (g i j)):=by
 intro Z s U H x y v u Q I rx ry h
 obtain ⟨i,j,rfl,rfl,q⟩:=h
 obtain ⟨t,rfl⟩:=rx
 obtain ⟨t',rfl⟩:=ry
 exact rule i j t t' s _ _ ⟨.bl (g i j),H,I,rfl,q⟩
def Rq (i j:Int):Prop:=0<j/\j<1073741824
def Dq (i j:Int):Prop:=0≤j/\j≤1000000/\i.natAbs<2 ^ 64
def BL (i j:Int):Prop:=(-(2 ^ 64)<i/\i<2 ^ 64)∨(-(2 ^ 64)<j/\j<2 ^ 64)
theorem BL.ok {i j:Int} (h:BL i j):IntMulOk i j:=by
 rcases h with ⟨h1,h2⟩|⟨h1,h2⟩
 ·exact .of_left (intBits_le_64 h1 h2)
 ·exact .of_right (intBits_le_64 h1 h2)
theorem cW:iI X (binaryOp .Add) (Bf fun i j=>.int (i+j)):=Jw fun _ _ _ _ _ _ _ q=>add_int q
theorem gO:iI X (binaryOp .Sub) (Bf fun i j=>.int (i-j)):=Jw fun _ _ _ _ _ _ _ q=>sub_int q
theorem jA:iI X (binaryOp .Mult) (rI BL fun i j=>.int (i*j)):=Kz fun _ _ _ _ _ _ _ hc q=>mul_int q hc.ok
theorem vN:iI X (binaryOp .FloorDiv) (rI Rq fun i j=>.int (i / j)):=Kz fun i j _ _ _ _ _ hc q=>by
 have h1:(0:Int)<j:=hc.1
 have h2:j<1073741824:=hc.2
 exact floordiv_int (by omega) (by rw [Int.fdiv_eq_ediv_of_nonneg i (by omega)];exact q) (.inl (PyProof.noPylong_small (by omega)))
theorem gJ:iI X (binaryOp .Mod) (rI (fun _ j=>0<j) fun i j=>.int (i % j)):=Kz fun i j _ _ _ _ _ hc q=>by
 have h1:(0:Int)<j:=hc
 exact mod_int' (by omega) (by rw [Int.fmod_eq_emod_of_nonneg i (by omega)];exact q)
theorem ue:iI X (binaryOp .Pow) (rI Dq fun i j=>.int (i ^ j.toNat)):=Kz fun _ _ _ _ _ _ _ hc q=>pow_int_small hc.1 hc.2.1 hc.2.2 q
theorem UL {f:Value->Sem Value} {g:Int->Int}
 (rule:∀ (i:Int) (t:Tok) (s:Shared) (Q:Value->Shared->Prop) (E:Value->Shared->Prop),Q (.int (g i) s.toks) { s with toks:=s.toks+1 }->wpAny (model X.prog X.w) X.A (f (.int i t)) Q E s) :
 P_ X f (rU fun i=>.int (g i)):=by
 intro Z s U H x v Q I rx h
 obtain ⟨i,rfl,q⟩:=h
 obtain ⟨t,rfl⟩:=rx
 exact rule i t s _ _ ⟨.int (g i),H,I.tok _,⟨_,rfl⟩,q⟩
theorem iB:P_ X (unaryOp .USub) (rU fun i=>.int (-i)):=UL fun _ _ _ _ _ q=>neg_int q
end
def Nx:V->V->Bool
 |.non,.non=>true|.non,.int _=>true|.int _,.non=>true|.non,.bl _=>true|.bl _,.non=>true|.non,.str _=>true|.str _,.non=>true
 |.int _,.int _=>true|.bl _,.bl _=>true|.str _,.str _=>true|.byt _,.byt _=>true
 |.int _,.str _=>true|.str _,.int _=>true|.bl _,.str _=>true|.str _,.bl _=>true
 |_,_=>false
def U4:R2:=fun x y H Q=>Nx x y=true/\Q (.bl (decide (x=y))) H
def UG:R2:=fun x y H Q=>Nx x y=true/\Q (.bl (!decide (x=y))) H
theorem vA {i j:Int}:decide (V.int i=V.int j)=(i == j):=by
 rw [Bool.eq_iff_iff]
 simp
theorem zy {i j:Bool}:decide (V.bl i=V.bl j)=(i == j):=by
 rw [Bool.eq_iff_iff]
 simp
theorem gC {i j:Str}:decide (V.str i=V.str j)=(i == j):=by
 rw [Bool.eq_iff_iff]
 simp
theorem vG {i j:Array UInt8}:decide (V.byt i=V.byt j)=(i.toList == j.toList):=by
 rw [Bool.eq_iff_iff]
 cases i
 cases j
 simp
section
variable {X:Cx} {a b c:Expr} {ta tb tc:TE} {pos:Pos}
theorem bO {Z:List (Addr×Obj)} {U:St} {H:Hp} {s:Shared} {Q:VK} {k k':Bool} (I:Inv X Z U H s) (q:Q (.bl k) H) (e:k=k'):EP X Z U Q (.bool k') s:=by
 subst e
 exact ⟨.bl k,H,I,rfl,q⟩
theorem bx:iI X (compareOp .Eq) U4:=by
 intro Z s U H x y v u Q I rx ry h
 obtain ⟨hs,q⟩:=h
 cases x with
 | non=>
   cases rx
   cases y with
   |non=>cases ry;exact PySem.EqNone.eq_none_none (bO I q (by simp))
   |bl j=>cases ry;exact PySem.EqNone.eq_none_bool (bO I q (by simp))
   |int j=>obtain ⟨t',rfl⟩:=ry;exact PySem.EqNone.eq_none_int (bO I q (by simp))
   |str j=>obtain ⟨t',rfl⟩:=ry;exact PySem.EqNone.eq_none_str (bO I q (by simp))
   |_=>exact absurd (show false=true from hs) Bool.false_ne_true
 | bl i=>
   cases rx
   cases y with
   |non=>cases ry;exact PySem.EqNone.eq_bool_none (bO I q (by simp))
   |bl j=>cases ry;exact eq_bool (bO I q zy)
   |str j=>obtain ⟨t',rfl⟩:=ry;exact PySem.EqMixed.eq_bool_str (bO I q (by simp))
   |_=>exact absurd (show false=true from hs) Bool.false_ne_true
 | int i=>
   obtain ⟨t,rfl⟩:=rx
   cases y with
   |non=>cases ry;exact PySem.EqNone.eq_int_none (bO I q (by simp))
   |int j=>obtain ⟨t',rfl⟩:=ry;exact eq_int (bO I q vA)
   |str j=>obtain ⟨t',rfl⟩:=ry;exact PySem.EqMixed.eq_int_str (bO I q (by simp))
   |_=>exact absurd (show false=true from hs) Bool.false_ne_true
 | str i=>
   obtain ⟨t,rfl⟩:=rx
   cases y with
   |non=>cases ry;exact PySem.EqNone.eq_str_none (bO I q (by simp))
   |bl j=>cases ry;exact PySem.EqMixed.eq_str_bool (bO I q (by simp))
   |int j=>obtain ⟨t',rfl⟩:=ry;exact PySem.EqMixed.eq_str_int (bO I q (by simp))
   |str j=>obtain ⟨t',rfl⟩:=ry;exact eq_str (bO I q gC)
   |_=>exact absurd (show false=true from hs) Bool.false_ne_true
 | byt i=>
   obtain ⟨t,rfl⟩:=rx
   cases y with
   |byt j=>obtain ⟨t',rfl⟩:=ry;exact PySem.W.eq_bytes (bO I q vG)
   |_=>exact absurd (show false=true from hs) Bool.false_ne_true
 |_=>cases y <;> exact absurd (show false=true from hs) Bool.false_ne_true
theorem pC:iI X (compareOp .NotEq) UG:=by
 intro Z s U H x y v u Q I rx ry h
 obtain ⟨hs,q⟩:=h
 cases x with
 | non=>
   cases rx
   cases y with
   |non=>cases ry;exact PySem.EqNone.ne_none_none (bO I q (by simp))
   |bl j=>cases ry;exact PySem.EqNone.ne_none_bool (bO I q (by simp))
   |int j=>obtain ⟨t',rfl⟩:=ry;exact PySem.EqNone.ne_none_int (bO I q (by simp))
   |str j=>obtain ⟨t',rfl⟩:=ry;exact PySem.EqNone.ne_none_str (bO I q (by simp))
   |_=>exact absurd (show false=true from hs) Bool.false_ne_true
 | bl i=>
   cases rx
   cases y with
   |non=>cases ry;exact PySem.EqNone.ne_bool_none (bO I q (by simp))
   |bl j=>cases ry;exact ne_bool (bO I q (congrArg not zy))
   |str j=>obtain ⟨t',rfl⟩:=ry;exact PySem.EqMixed.ne_bool_str (bO I q (by simp))
   |_=>exact absurd (show false=true from hs) Bool.false_ne_true
 | int i=>
   obtain ⟨t,rfl⟩:=rx
   cases y with
   |non=>cases ry;exact PySem.EqNone.ne_int_none (bO I q (by simp))
   |int j=>obtain ⟨t',rfl⟩:=ry;exact ne_int (bO I q (congrArg not vA))
   |str j=>obtain ⟨t',rfl⟩:=ry;exact PySem.EqMixed.ne_int_str (bO I q (by simp))
   |_=>exact absurd (show false=true from hs) Bool.false_ne_true
 | str i=>
   obtain ⟨t,rfl⟩:=rx
   cases y with
   |non=>cases ry;exact PySem.EqNone.ne_str_none (bO I q (by simp))
   |bl j=>cases ry;exact PySem.EqMixed.ne_str_bool (bO I q (by simp))
   |int j=>obtain ⟨t',rfl⟩:=ry;exact PySem.EqMixed.ne_str_int (bO I q (by simp))
   |str j=>obtain ⟨t',rfl⟩:=ry;exact ne_str (bO I q (congrArg not gC))
   |_=>exact absurd (show false=true from hs) Bool.false_ne_true
 | byt i=>
   obtain ⟨t,rfl⟩:=rx
   cases y with
   |byt j=>obtain ⟨t',rfl⟩:=ry;exact PySem.W.ne_bytes (bO I q (congrArg not vG))
   |_=>exact absurd (show false=true from hs) Bool.false_ne_true
 |_=>cases y <;> exact absurd (show false=true from hs) Bool.false_ne_true
theorem nR:iI X (compareOp .Lt) (Bf fun i j=>.bl (decide (i<j))):=Ar fun _ _ _ _ _ _ _ q=>lt_int q
theorem fH:iI X (compareOp .LtE) (Bf fun i j=>.bl (decide (i≤j))):=Ar fun _ _ _ _ _ _ _ q=>le_int q
theorem zG:iI X (compareOp .Gt) (Bf fun i j=>.bl (decide (j<i))):=Ar fun _ _ _ _ _ _ _ q=>gt_int q
theorem Lx:iI X (compareOp .GtE) (Bf fun i j=>.bl (decide (j≤i))):=Ar fun _ _ _ _ _ _ _ q=>ge_int q
theorem vP:iI X (compareOp .In) (fun x y H Q=>∃ i j,x=.str i/\y=.str j/\Q (.bl (!(Builtin.Str.occurrences j i 0 j.length 1).isEmpty)) H):=by
 intro Z s U H x y v u Q I rx ry h
 obtain ⟨i,j,rfl,rfl,q⟩:=h
 obtain ⟨t,rfl⟩:=rx
 obtain ⟨t',rfl⟩:=ry
 exact in_str (bO I q rfl)
theorem uB:iI X (compareOp .Is) (fun x y H Q=>y=.non/\Q (.bl (decide (x=.non))) H):=by
 intro Z s U H x y v u Q I rx ry h
 obtain ⟨rfl,q⟩:=h
 cases ry
 refine is_none_gen (bO I q ?_)
 cases x <;> first
  |(cases rx;rfl)
  |(obtain ⟨t,rfl⟩:=rx;rfl)
theorem aL (b:Expr) {op:CmpOp} (h:op≠.In:=by decide) (h2:op≠.NotIn:=by decide):behindInMarks op b=false:=by
 have e1:(op == CmpOp.In)=false:=by cases op <;> first|rfl|exact absurd rfl h
 have e2:(op == CmpOp.NotIn)=false:=by cases op <;> first|rfl|exact absurd rfl h2
 cases b <;> simp [behindInMarks,e1,e2]
theorem bY {op:CmpOp} {r:R2} (ho:iI X (compareOp op) r) (ha:PE X a ta) (hb:PE X b tb) (hm:behindInMarks op b=false):PE X (.Compare a [op] [b] pos) (Og r ta tb):=by
 intro Z s U H Q I h
 exact wpAny_Compare1 (Gk ha hb I h fun v u s2 x y H2 I2 rx ry q=>ho Z s2 U H2 x y v u Q I2 rx ry q) hm
def zN (t:TE):TT:=fun U H Q=>t U H fun x H'=>∃ k,x=.bl k/\Q k H'
theorem aH {op:CmpOp} {r:R2} (ho:iI X (compareOp op) r) (ha:PE X a ta) (hb:PE X b tb) (hm:behindInMarks op b=false):PT X (.Compare a [op] [b] pos) (zN (Og r ta tb)):=by
 intro Z s U H Q I h
 refine wpAny_isTrue_Compare1 (cz (ha Z s U H _ I h) fun v s1 ⟨x,H1,I1,r1,q1⟩=>cz (hb Z s1 U H1 _ I1 q1) fun u s2 ⟨y,H2,I2,r2,q2⟩=>
  cz (ho Z s2 U H2 x y v u _ I2 r1 r2 q2) fun c s3 ⟨z,H3,I3,r3,k,e,q3⟩=>?_) hm
 subst e
 cases r3
 exact wpAny_truthy_bool ⟨H3,I3,q3⟩
def uI (r r':R2) (ta tb tc:TE):TE:=fun U H Q=>ta U H fun x H1=>tb U H1 fun y H2=>r x y H2 fun z H3=>∃ k,z=.bl k/\
 (if k=true then tc U H3 fun w' H4=>r' y w' H4 Q else Q (.bl false) H3)
theorem jZ {op op':CmpOp} {r r':R2} (ho:iI X (compareOp op) r) (ho':iI X (compareOp op') r') (ha:PE X a ta) (hb:PE X b tb) (hc:PE X c tc)
 (hm:lastMarks [op,op'] [b,c]=false:=by with_unfolding_all rfl):PE X (.Compare a [op,op'] [b,c] pos) (uI r r' ta tb tc):=by
 intro Z s U H Q I h
 refine Compare_chain (cz (ha Z s U H _ I h) fun v s1 ⟨x,H1,I1,r1,q1⟩=>chain_link (cz (hb Z s1 U H1 _ I1 q1) fun u s2 ⟨y,H2,I2,r2,q2⟩=>
  cz (ho Z s2 U H2 x y v u _ I2 r1 r2 q2) fun d s3 ⟨z,H3,I3,r3,k,e,q3⟩=>?_)) hm
 subst e
 cases r3
 refine wpAny_truthy_bool ?_
 cases k with
 |false=>exact ite_ff ⟨.bl false,H3,I3,rfl,q3⟩
 |true=>exact ite_tt (chain_last (cz (hc Z s3 U H3 _ I3 q3) fun w' s4 ⟨z',H4,I4,r4,q4⟩=>ho' Z s4 U H4 y z' u w' Q I4 r2 r4 q4))
theorem z6 {op op':CmpOp} {r r':R2} (ho:iI X (compareOp op) r) (ho':iI X (compareOp op') r') (ha:PE X a ta) (hb:PE X b tb) (hc:PE X c tc)
 (hm:lastMarks [op,op'] [b,c]=false:=by with_unfolding_all rfl):PT X (.Compare a [op,op'] [b,c] pos) (zN (uI r r' ta tb tc)):=by
 intro Z s U H Q I h
 refine isTrue_chain (cz (ha Z s U H _ I h) fun v s1 ⟨x,H1,I1,r1,q1⟩=>test_link (cz (hb Z s1 U H1 _ I1 q1) fun u s2 ⟨y,H2,I2,r2,q2⟩=>
  cz (ho Z s2 U H2 x y v u _ I2 r1 r2 q2) fun d s3 ⟨z,H3,I3,r3,k,e,q3⟩=>?_)) hm
 subst e
 cases r3
 refine wpAny_truthy_bool ?_
 cases k with
 | false=>
   obtain ⟨k',e',q'⟩:=q3
   cases e'
   exact ite_ff ⟨H3,I3,q'⟩
 | true=>
   refine ite_tt (test_last (cz (hc Z s3 U H3 _ I3 q3) fun w' s4 ⟨z',H4,I4,r4,q4⟩=>cz (ho' Z s4 U H4 y z' u w' _ I4 r2 r4 q4) fun d' s5 ⟨z2,H5,I5,r5,k2,e2,q5⟩=>?_))
   subst e2
   cases r5
   exact wpAny_truthy_bool ⟨H5,I5,q5⟩
theorem n6:(sizeLine:Nat)<2 ^ 63:=by rw [sizeLine_eq];decide
theorem cU:iI X (binaryOp .Add) (fun x y H Q=>∃ i j,x=.str i/\y=.str j/\i.length+j.length≤sizeLine/\Q (.str (i++j)) H):=by
 intro Z s U H x y v u Q I rx ry h
 obtain ⟨i,j,rfl,rfl,hz,q⟩:=h
 obtain ⟨t,rfl⟩:=rx
 obtain ⟨t',rfl⟩:=ry
 exact add_str (fun t' tk=>⟨.str (i++j),H,I.tok _,⟨_,rfl⟩,q⟩) hz
theorem vals1 {x:V} {us:List Value} (r:Vals [x] us):∃ u,us=[u]/\RelV x u:=by
 cases r with
 |cons r1 r2=>cases r2;exact ⟨_,rfl,r1⟩
theorem vals2 {x y:V} {us:List Value} (r:Vals [x,y] us):∃ u w',us=[u,w']/\RelV x u/\RelV y w':=by
 cases r with
 | cons r1 r2=>
   cases r2 with
   |cons r3 r4=>cases r4;exact ⟨_,_,rfl,r1,r3⟩
theorem vY (hc:X.calm=true):eX X (.builtin "min") (fun xs H Q=>∃ i j,xs=[.int i,.int j]/\Q (.int (if j<i then j else i)) H):=by
 intro Z s U H xs us Q I r h
 obtain ⟨i,j,rfl,q⟩:=h
 obtain ⟨u,w',rfl,⟨t,rfl⟩,⟨t',rfl⟩⟩:=vals2 r
 refine min_two_ints (I.ok.hd hc) fun h' tk k=>⟨_,H,I.kept k,?_,q⟩
 by_cases hj:j<i
 ·rw [if_pos hj,if_pos hj];exact ⟨_,rfl⟩
 ·rw [if_neg hj,if_neg hj];exact ⟨_,rfl⟩
theorem qP:eX X (.type "str") (fun xs H Q=>∃ i,xs=[.int i]/\i.natAbs.log2<1920/\Q (.str (toString i)) H):=by
 intro Z s U H xs us Q I r h
 obtain ⟨i,rfl,hz,q⟩:=h
 obtain ⟨u,rfl,t,rfl⟩:=vals1 r
 exact PySem.P.str_of_int hz ⟨.str _,H,I.tok _,⟨_,rfl⟩,q⟩
end
structure tK (h:Heap) (x dx C:Addr) (mA:Str->Option Value):Prop where
 obj:h.get? x=some (PySem.W.instObj C dx)
 ns:h.Ns1 dx mA
 ne:dx≠x
theorem kY {h:Heap} {dx:Addr} {mA:Str->Option Value} (n:h.Ns1 dx mA):∃ od,h.get? dx=some od/\∀ name,PySem.W.lookIn name od=some (mA name):=by
 obtain ⟨o,es,ep,ho,hd,hk,_,hm⟩:=n
 refine ⟨o,ho,fun name=>?_⟩
 have e:=hm name
 unfold nsFind findBy at e
 rw [← Array.find?_toList] at e
 unfold PySem.W.lookIn
 rw [hd]
 dsimp only
 split
 ·rename_i y q
  rw [q] at e
  exact congrArg some e
 ·rename_i q
  rw [q] at e
  have a:es.toList.any (·.refKey)=false:=by
   rw [List.any_eq_false]
   intro y hy
   obtain ⟨z,t,hkey⟩:=hk y (Array.mem_toList_iff.mp hy)
   simp [DictEntry.refKey,hkey]
  have a':¬ es.toList.any (·.refKey)=true:=by rw [a];exact Bool.false_ne_true
  rw [if_neg a']
  exact congrArg some e
theorem tK.look {h:Heap} {x dx C:Addr} {mA:Str->Option Value} (I:tK h x dx C mA):∃ od,PySem.W.InstAt h x (PySem.W.instObj C dx) C (some od)/\∀ name,PySem.W.lookIn name od=some (mA name):=
 let ⟨od,ho,hl⟩:=kY I.ns
 ⟨od,⟨I.obj,rfl,rfl,ho⟩,hl⟩
section
variable {prog:Program} {w:World} {A:Around} {E:Value->Shared->Prop} {s:Shared} {K:PySem.W.Frag} {x dx C f:Addr} {mA:Str->Option Value} {name:Str} {v:Value}
theorem Bs {expr:Bool} {Q:Value->Shared->Prop} (X:K.In s.heap) (I:tK s.heap x dx C mA) (hg:PySem.W.plainGet K C name=true) (hh:PySem.W.hasDictIn K C=true)
 (ha:PySem.W.findIn K (.ref C) name=some none) (hv:mA name=some v) (hv':PySem.W.handedIn v=true) (h:Q v { s with toks:=s.toks+1 }) :
 wpAny (model prog w) A (getAttr (.ref x) name expr) Q E s:=by
 obtain ⟨od,J,hl⟩:=I.look
 exact PySem.W.get_value X J (PySem.W.plainGet_of hg).1 (PySem.W.findObj_own hh ha rfl (by rw [hl,hv])) hv' h
theorem zK {pl:Sem Bool} {Q:Value×List Value->Shared->Prop} (X:K.In s.heap) (I:tK s.heap x dx C mA) (hg:PySem.W.plainGet K C name=true)
 (hf:PySem.W.findIn K (.ref C) name=some (some (.ref f))) (ht:PySem.W.isFn K (.ref f)=true) (hv:mA name=none) (h:Q (.ref f,[.ref x]) s) :
 wpAny (model prog w) A (getMethod (.ref x) name pl) Q E s:=by
 obtain ⟨od,J,hl⟩:=I.look
 exact PySem.W.method_fn X J (PySem.W.plainGet_of hg).1 (PySem.W.plainGet_of hg).2 hf (beq_iff_eq.mp ht) (by show (PySem.W.lookIn name od).map (·.isSome)=some false;rw [hl,hv];rfl) h
theorem Bv {ns:List Str} {Q:Unit->Shared->Prop} (X:K.In s.heap) (I:tK s.heap x dx C mA)
 (hs:PySem.W.findIn K (.ref C) "__setattr__" = some (some (.builtin "object.__setattr__"))) (hp:PySem.W.plainOver K C=true) (ht:PySem.W.takerIn K C name=some none) (hh:PySem.W.hasDictIn K C=true)
 (hw:PySem.Within mA ns) (hsz:ns.length≤sizeLine)
 (h:∀ h',tK h' x dx C (fun y=>if y=name then some v else mA y)->Heap.SameBut dx s.heap h'->Q () { s with heap:=h',toks:=s.toks+2 }) :
 wpAny (model prog w) A (setAttr (.ref x) name v) Q E s:=by
 obtain ⟨od,J,hl⟩:=I.look
 refine PySem.W.set_plain X J hs (PySem.W.osa_open (s:={ s with toks:=s.toks+1 }) (r:=none) X J hp ht fun b=>?_)
 obtain ⟨cd,hc,hd'⟩:=PySem.W.any_some hh
 have hx:s.heap.get? x=some ⟨.ref C,some dx,.plain,#[]⟩:=I.obj
 refine wpAny_bind (wpAny_pure (wpAny_bind (wpAny_bind (wpAny_loadPart hx (wpAny_bind (PySem.W.Looks.here (s:={ s with toks:=s.toks+1 }) (PySem.W.looks_clsIn X hc) ?_))))))
 rw [hd']
 refine wpAny_pure (a:=some dx) (wpAny_bind (wpAny_pure (wpAny_bind ?_)))
 refine wpAny_nsSet1 (s:={ s with toks:=s.toks+1 }) I.ns fun h' hn2 hs2=>?_
 obtain ⟨oD,esD,epD,hoD,hdD,hcD⟩:=hn2.count (PySem.Within.cons name v hw)
 refine wpAny_bind (wpAny_lookBehind hoD (by rw [hdD];exact pastItsLine_dict (Nat.le_trans hcD (by rw [List.length_cons];omega))) ?_)
 exact wpAny_pure (h _ ⟨(hs2.2 _ (Ne.symm I.ne)).trans I.obj,hn2,I.ne⟩ hs2)
theorem xZ {R:Result->Shared->Prop} {vs:List Value} {kw:List (Str×Value)} (X:K.In s.heap) (hm:PySem.W.makesIn K C=true)
 (hi:PySem.W.findIn K (.ref C) "__init__" = some (some (.ref f))) (hf:PySem.W.typeIn K (.ref f)=some (.type "function"))
 (h:codeAny (model prog w) (A.under (.builtin "type.__call__" ⟨.ref C::vs,kw⟩)) (.call (.ref f) ⟨.ref (s.heap.objs.size+1)::vs,kw⟩) (PySem.W.InitBack (s.heap.objs.size+1) R)
  { s with heap:=(s.heap.push PySem.W.emptyDict).push (PySem.W.instObj C s.heap.objs.size) }) :
 codeAny (model prog w) A (.call (.ref C) ⟨vs,kw⟩) R s:=by
 obtain ⟨hh,g,d,t,os⟩:=s
 exact PySem.W.make_core (PySem.W.makes_of X hm) (PySem.W.looks_findIn X hi) (fun self=>PySem.W.bind_fn X self hf) (.inl rfl) h
end
def gr (f:Str) (v:V):List (Str×V)->List (Str×V)
 |[]=>[(f,v)]
 |(g,x)::r=>if g=f then (g,v)::r else (g,x)::gr f v r
theorem cQ (f g:Str) (v:V):∀ fs:List (Str×V),(gr f v fs).lookup g=if g=f then some v else fs.lookup g
 | []=>by
   show List.lookup g [(f,v)]=_
   by_cases h:g=f
   ·have hb:(g == f)=true:=beq_iff_eq.mpr h
    simp only [List.lookup,hb,if_pos h]
   ·have hb:(g == f)=false:=beq_eq_false_iff_ne.mpr h
    simp only [List.lookup,hb,if_neg h]
 | (k,x)::r=>by
   have ih:=cQ f g v r
   rw [show gr f v ((k,x)::r)=(if k=f then (k,v)::r else (k,x)::gr f v r) from rfl]
   by_cases hk:k=f
   ·rw [if_pos hk]
    by_cases h:g=k
    ·have hb:(g == k)=true:=beq_iff_eq.mpr h
     simp only [List.lookup,hb,if_pos (h.trans hk)]
    ·have hb:(g == k)=false:=beq_eq_false_iff_ne.mpr h
     simp only [List.lookup,hb,if_neg (fun e:g=f=>h (e.trans hk.symm))]
   ·rw [if_neg hk]
    by_cases h:g=k
    ·have hb:(g == k)=true:=beq_iff_eq.mpr h
     simp only [List.lookup,hb,if_neg (fun e:g=f=>hk (h.symm.trans e))]
    ·have hb:(g == k)=false:=beq_eq_false_iff_ne.mpr h
     simp only [List.lookup,hb]
     exact ih
theorem gZ (f:Str) (v:V):∀ fs:List (Str×V),f∈(gr f v fs).map (·.1)/\∀ g,g∈fs.map (·.1)->g∈(gr f v fs).map (·.1)
 |[]=>⟨by simp [gr],fun g h=>by simp at h⟩
 | (k,x)::r=>by
   obtain ⟨i1,i2⟩:=gZ f v r
   rw [show gr f v ((k,x)::r)=(if k=f then (k,v)::r else (k,x)::gr f v r) from rfl]
   by_cases hk:k=f
   ·rw [if_pos hk]
    subst hk
    exact ⟨by simp,fun g h=>by simpa using h⟩
   ·rw [if_neg hk]
    refine ⟨?_,fun g h=>?_⟩
    ·rw [List.map_cons]
     exact List.mem_cons_of_mem _ i1
    ·rw [List.map_cons] at h ⊢
     rcases List.mem_cons.mp h with e|e
     ·exact List.mem_cons.mpr (.inl e)
     ·exact List.mem_cons_of_mem _ (i2 g e)
theorem lL (f:Str) (v:V):∀ fs:List (Str×V),(gr f v fs).length≤fs.length+1
 |[]=>by simp [gr]
 | (k,x)::r=>by
   have ih:=lL f v r
   rw [show gr f v ((k,x)::r)=(if k=f then (k,v)::r else (k,x)::gr f v r) from rfl]
   by_cases hk:k=f
   ·rw [if_pos hk,List.length_cons,List.length_cons];omega
   ·rw [if_neg hk,List.length_cons,List.length_cons];omega
theorem ii.some_of {v:V} {o:Option Value} (r:ii (some v) o):∃ u,o=some u/\RelV v u:=by
 cases o with
 |none=>exact (show False from r).elim
 |some u=>exact ⟨u,rfl,r⟩
theorem ii.none_of {o:Option Value} (r:ii none o):o=none:=by
 cases o with
 |none=>rfl
 |some u=>exact (show False from r).elim
theorem pB {v:V} {u:Value} (r:RelV v u):PySem.W.handedIn u=true:=by
 cases v with
 |non=>cases (show u=Value.none from r);rfl
 |bl b=>cases (show u=Value.bool b from r);rfl
 |int i=>obtain ⟨t,e⟩:=(show ∃ t,u=Value.int i t from r);cases e;rfl
 |str x=>obtain ⟨t,e⟩:=(show ∃ t,u=Value.str x t from r);cases e;rfl
 |byt b=>obtain ⟨t,e⟩:=(show ∃ t,u=Value.bytes b t from r);cases e;rfl
 |flt b=>obtain ⟨t,e⟩:=(show ∃ t,u=Value.float b t from r);cases e;rfl
 |ref a=>cases (show u=Value.ref a from r);rfl
 |ty n=>cases (show u=Value.type n from r);rfl
section
variable {P:Program} {w:World} {H H':Hp} {h h':Heap} {a C dx:Addr} {fs fs':List (Str×V)}
theorem qu (hok:iR P w H h) (e:H a=some (.ins C dx fs)):∃ mA,tK h a dx C mA/\(∀ f,ii (fs.lookup f) (mA f))/\PySem.Within mA (fs.map (·.1))/\fs.length≤1000/\H dx=some (.own a):=by
 obtain ⟨d,z,ne,ob,mA,n,r,q⟩:=(show cG P w H h a (.ins C dx fs) from hok a _ e)
 exact ⟨mA,⟨ob,n,ne⟩,r,q,z,d⟩
end
structure zW (K:PySem.W.Frag) (C:Addr):Prop where
 pg:PySem.W.plainGet K C Str.empty=true
 hd:PySem.W.hasDictIn K C=true
 po:PySem.W.plainOver K C=true
 sa:PySem.W.findIn K (.ref C) "__setattr__" = some (some (.builtin "object.__setattr__"))
theorem zW.get {K:PySem.W.Frag} {C:Addr} (c:zW K C) (f:Str):PySem.W.plainGet K C f=true:=c.pg
def iT (K:PySem.W.Frag) (C:Addr) (f:Str):Prop:=PySem.W.findIn K (.ref C) f=some none
theorem iT.taker {K:PySem.W.Frag} {C:Addr} {f:Str} (n:iT K C f):PySem.W.takerIn K C f=some none:=by
 unfold PySem.W.takerIn
 rw [show PySem.W.findIn K (.ref C) f=some none from n]
 rfl
structure Meth (K:PySem.W.Frag) (C:Addr) (m:Str) (f:Addr):Prop where
 at_:PySem.W.findIn K (.ref C) m=some (some (.ref f))
 fn:PySem.W.isFn K (.ref f)=true
 kp:PySem.W.keepIn K (.ref f)=true
section
variable {X:Cx} {Z:List (Addr×Obj)} {U:St} {H:Hp} {s:Shared} {a C dx:Addr} {fs:List (Str×V)} {f:Str} {v:V} {A:Around} {E:Value->Shared->Prop}
theorem tR {b:Bool} {Q:Value->Shared->Prop} (I:Inv X Z U H s) (e:H a=some (.ins C dx fs)) (c:zW X.K C) (n:iT X.K C f) (l:fs.lookup f=some v)
 (h:∀ u s',Inv X Z U H s'->RelV v u->Q u s'):wpAny (model X.prog X.w) A (getAttr (.ref a) f b) Q E s:=by
 obtain ⟨mA,O,r,_,_,_⟩:=qu I.hok e
 obtain ⟨u,hu,ru⟩:=ii.some_of (v:=v) (o:=mA f) (by rw [← l];exact r f)
 exact Bs I.kIn O (c.get f) c.hd n hu (pB ru) (h u _ (I.tok _) ru)
theorem nT {m:Str} {g:Addr} {pl:Sem Bool} {Q:Value×List Value->Shared->Prop} (I:Inv X Z U H s) (e:H a=some (.ins C dx fs)) (c:zW X.K C) (k:Meth X.K C m g) (l:fs.lookup m=none)
 (h:Q (.ref g,[.ref a]) s):wpAny (model X.prog X.w) A (getMethod (.ref a) m pl) Q E s:=by
 obtain ⟨mA,O,r,_,_,_⟩:=qu I.hok e
 have hn:mA m=none:=ii.none_of (by rw [← l];exact r m)
 exact zK I.kIn O (c.get m) k.at_ k.fn hn h
theorem uQ {y:V} {u:Value} {Q:Unit->Shared->Prop} (I:Inv X Z U H s) (e:H a=some (.ins C dx fs)) (c:zW X.K C) (n:iT X.K C f) (hl:fs.length<1000) (ry:RelV y u)
 (h:∀ s',Inv X Z U (upd H a (.ins C dx (gr f y fs))) s'->Q () s'):wpAny (model X.prog X.w) A (setAttr (.ref a) f u) Q E s:=by
 obtain ⟨mA,O,r,wi,_,ho⟩:=qu I.hok e
 have hz:(fs.map (·.1)).length≤sizeLine:=by rw [List.length_map,sizeLine_eq];omega
 refine Bv I.kIn O c.sa c.po n.taker c.hd wi hz fun h' O' sb=>h _ ?_
 have hd:∃ o,h'.get? dx=some o:=let ⟨o,_,_,e',_⟩:=O'.ns;⟨o,e'⟩
 refine I.write (x:=a) (e:=dx) (by rw [e];exact True.intro) (.inr ho) (fun b q hb z=>(sb.2 b hb).trans z) hd ?_
 refine ⟨by rw [aJ O.ne];exact ho,?_,O.ne,O'.obj,_,O'.ns,fun g=>?_,fun g hg=>?_⟩
 ·have:=lL f y fs;omega
 ·show ii ((gr f y fs).lookup g) (if g=f then some u else mA g)
  rw [cQ]
  by_cases q:g=f
  ·rw [if_pos q,if_pos q];exact ry
  ·rw [if_neg q,if_neg q];exact r g
 ·by_cases q:g=f
  ·rw [q];exact (gZ f y fs).1
  ·refine (gZ f y fs).2 g (wi g fun z=>hg ?_)
   show (if g=f then some u else mA g)=none
   rw [if_neg q];exact z
theorem Inv.made (I:Inv X Z U H s):Inv X Z U (upd (upd H s.heap.objs.size (.own (s.heap.objs.size+1))) (s.heap.objs.size+1) (.ins C s.heap.objs.size []))
 { s with heap:=(s.heap.push PySem.W.emptyDict).push (PySem.W.instObj C s.heap.objs.size) }:=by
 have e1:(s.heap.push PySem.W.emptyDict).get? s.heap.objs.size=some PySem.W.emptyDict:=Heap.get?_push_size s.heap rfl
 have e2:((s.heap.push PySem.W.emptyDict).push (PySem.W.instObj C s.heap.objs.size)).get? (s.heap.objs.size+1)=some (PySem.W.instObj C s.heap.objs.size):=by
  have:=Heap.get?_push_size (s.heap.push PySem.W.emptyDict) (o:=PySem.W.instObj C s.heap.objs.size) rfl
  rwa [Heap.size_push] at this
 have e3:(s.heap.push PySem.W.emptyDict).Ns s.heap.objs.size (fun _=>none):=⟨PySem.W.emptyDict,#[],_,e1,rfl,(fun e he=>absurd he (by simp)),fun _=>rfl⟩
 have I1:=I.laid (a:=s.heap.objs.size) (o:=.own (s.heap.objs.size+1)) (h':=s.heap.push PySem.W.emptyDict) (t':=s.toks) (fun b u q=>Heap.get?_push_of_some _ q) (Nat.le_refl _) ⟨_,e1⟩
 refine I1.laid (a:=s.heap.objs.size+1) (o:=.ins C s.heap.objs.size []) (t':=s.toks) (fun b u q=>Heap.get?_push_of_some _ q) (Nat.le_of_eq (Heap.size_push _ _)) ?_
 have ne:s.heap.objs.size≠s.heap.objs.size+1:=Nat.ne_of_lt (Nat.lt_succ_self _)
 refine ⟨by rw [aJ ne,ak],Nat.zero_le _,ne,e2,fun _=>none,(Heap.Ns1.of_empty e3).at fun o q=>Heap.get?_push_of_some _ q,fun _=>True.intro,fun y hy=>absurd rfl hy⟩
theorem vM {prog:Program} {w:World} {env:Env} {e:Expr} {f:Str} {pos:Pos} {s:Shared} {Q:Value->Shared->Prop} (hb:attributeBase e f env (eval e env)=eval e env)
 (h:wpAny (model prog w) A (eval e env) (fun o s₁=>wpAny (model prog w) A (getAttr o f true) Q E s₁) E s):wpAny (model prog w) A (eval (.Attribute e f pos) env) Q E s:=
 Attribute_any_ h (by rw [arm_eval_Attribute,hb])
end
def Rc (K:PySem.W.Frag) (ta:TE) (f:Str):TE:=fun U H Q=>ta U H fun x H1=>∃ a C dx fs v,x=.ref a/\H1 a=some (.ins C dx fs)/\zW K C/\iT K C f/\fs.lookup f=some v/\Q v H1
def SJ (K:PySem.W.Frag) (ta tv:TE) (f:Str):TS:=fun D U H=>tv U H fun y H1=>ta U H1 fun x H2=>∃ a C dx fs,x=.ref a/\H2 a=some (.ins C dx fs)/\zW K C/\iT K C f/\fs.length<1000/\
 D.nx U (upd H2 a (.ins C dx (gr f y fs)))
section
variable {X:Cx} {o e value:Expr} {f:Str} {pos pos' tpos:Pos} {ta tv:TE}
theorem sZ (he:PE X e ta) (hb:attributeBase e f X.env (eval e X.env)=eval e X.env):PE X (.Attribute e f pos) (Rc X.K ta f):=by
 intro Z s U H Q I h
 refine vM hb (cz (he Z s U H _ I h) fun u s1 ⟨x,H1,I1,rx,a,C,dx,fs,v,ex,ea,c,n,l,q⟩=>?_)
 subst ex
 obtain rfl:u=Value.ref a:=rx
 exact tR I1 ea c n l fun u' s2 I2 ru=>⟨v,H1,I2,ru,q⟩
theorem zO (ha:PE X o ta) (hv:PE X value tv) (hs:swapsWith value (some (.Attribute o f pos')) pos.line X.env=pure false):PS X (.Assign [.Attribute o f pos'] value pos) (SJ X.K ta tv f):=by
 intro Z s U H D I h
 refine plainObj_wpAny_Assign_Attribute (cz (hv Z s U H _ I h) fun u s1 ⟨y,H1,I1,ry,q⟩=>cz (ha Z s1 U H1 _ I1 q) fun ov s2 ⟨x,H2,I2,rx,a,C,dx,fs,ex,ea,c,n,l,q2⟩=>?_) hs
 subst ex
 obtain rfl:ov=Value.ref a:=rx
 exact uQ I2 ea c n l ry fun s3 I3=>⟨U,_,I3,q2⟩
theorem Cw {pl:Sem Bool} {m:Str} {apos:Pos} {args:List Expr} {Z:List (Addr×Obj)} {s:Shared} {U:St} {H:Hp} {Q:Value->Shared->Prop} {te:TE} (he:PE X e te) (I:Inv X Z U H s)
 (h:te U H fun x H1=>∃ a C dx fs g,x=.ref a/\H1 a=some (.ins C dx fs)/\zW X.K C/\Meth X.K C m g/\fs.lookup m=none/\
  ∀ s1,Inv X Z U H1 s1->wpAny (model X.prog X.w) X.A (callWith pos (.ref g) [.ref a] (backTo pos (starEach args X.env)) (backToKw pos (keywordEach [] X.env))) Q X.xe s1)
 (ht:eval (.Call (.Attribute e m apos) args [] pos) X.env=(do
  let ov ← eval e X.env
  standAt apos.atName
  let (f,first) ← holding [ov] (getMethod ov m pl)
  callWith pos f first (backTo pos (starEach args X.env)) (backToKw pos (keywordEach [] X.env)))) :
 wpAny (model X.prog X.w) X.A (eval (.Call (.Attribute e m apos) args [] pos) X.env) Q X.xe s:=by
 refine PySem.W.methodCall_KW (pl:=pl) (cz (he Z s U H _ I h) fun u s1 ⟨x,H1,I1,rx,a,C,dx,fs,g,ex,ea,c,k,l,q⟩=>?_) ht
 subst ex
 obtain rfl:u=Value.ref a:=rx
 exact nT I1 ea c k l (q s1 I1)
end
section
variable {X:Cx} {Z:List (Addr×Obj)} {U:St} {H:Hp} {s:Shared} {A:Around} {E:Value->Shared->Prop} {Q:Value->Shared->Prop} {c:Value} {b:Bool}
end
structure bF (k:Nat) (A:Around):Prop where
 hd:A.handled=none
 dp:A.depth+3*k+5<recursionLimit
 un:A.units+16*k+200<cLine
 gd:A.guards=some []
theorem bF.mono {j k:Nat} {A:Around} (r:bF k A) (h:j≤k):bF j A:=⟨r.hd,by have:=r.dp;omega,by have:=r.un;omega,r.gd⟩
theorem bF.deeper {k:Nat} {A:Around} (r:bF (k+1) A) (env:Env):bF k (A.deeper env):=
 ⟨r.hd,by have:=r.dp;show A.depth+1+3*k+5<_;omega,by have:=r.un;show A.units+3+16*k+200<_;omega,r.gd⟩
theorem uO {A:Around} {C:Addr} {us:List Value} {kw:List (Str×Value)}:(A.under (.builtin "type.__call__" ⟨.ref C::us,kw⟩)).depth=A.depth+1:=by
 first|rfl|simp [Around.under,Code.weight,Code.isCreation,Code.isGuard,Code.isCaller,Code.frames,Code.isFrame,guardIds]
theorem tQ {A:Around} {C:Addr} {us:List Value} {kw:List (Str×Value)}:(A.under (.builtin "type.__call__" ⟨.ref C::us,kw⟩)).units=A.units+1:=by
 first|rfl|simp [Around.under,Code.cUnits,Code.frames,Code.isFrame]
theorem bF.make {k:Nat} {A:Around} (r:bF (k+1) A) (C:Addr) (us:List Value) (kw:List (Str×Value)):bF k (A.under (.builtin "type.__call__" ⟨.ref C::us,kw⟩)):=
 ⟨r.hd,by have:=r.dp;rw [uO];omega,by have:=r.un;rw [tQ];omega,by have:=r.gd;first|exact this|(simpa [Around.under] using this)⟩
theorem bF.depth {k:Nat} {A:Around} (r:bF k A):A.depth<recursionLimit:=by have:=r.dp;omega
theorem bF.units {k:Nat} {A:Around} (r:bF k A):A.units+64<cLine:=by have:=r.un;omega
def By:TA:=fun _ H Q=>Q [] H
def ju (ta:TE) (tr:TA):TA:=fun U H Q=>ta U H fun x H1=>tr U H1 fun xs H2=>Q (x::xs) H2
section
variable {X:Cx} {e:Expr} {es:List Expr} {te:TE} {t:TA} {pos:Pos}
theorem aj:PA X [] By:=fun _ _ _ _ H Q I h=>Calls.spliced_nil ⟨[],H,I,.nil,h⟩
theorem aa (ha:PE X e te) (hr:PA X es t) (hs:starEach (e::es) X.env=(false,eval e X.env)::starEach es X.env:=by rfl):PA X (e::es) (ju te t):=by
 intro pos Z s U H Q I h
 rw [hs]
 show wpAny _ _ (spliced ((false,eval e X.env)::backTo pos (starEach es X.env))) _ _ s
 refine Calls.spliced_cons (cz (ha Z s U H _ I h) fun u s1 ⟨x,H1,I1,r1,q1⟩=>?_)
 exact cz (hr pos Z s1 U H1 _ I1 q1) fun us s2 ⟨xs,H2,I2,r2,q2⟩=>⟨x::xs,H2,I2,.cons r1 r2,q2⟩
def Ri (t:TA):TE:=fun U H Q=>t U H fun xs H1=>xs.length≤sizeLine/\∀ p,H1 p=none->Q (.ref p) (upd H1 p (.tup xs))
def Q4 (t:TA):TE:=fun U H Q=>t U H fun xs H1=>xs.length≤sizeLine/\∀ p,H1 p=none->Q (.ref p) (upd H1 p (.lst xs))
theorem bD {x1} (h:PA X es t):PE X (.Tuple es x1 pos) (Ri t):=by
 intro Z s U H Q I hq
 refine wpAny_Tuple_spliced (cz (h pos Z s U H _ I hq) fun us s1 ⟨xs,H1,I1,r,z,q⟩=>⟨by rw [← r.length];exact z,?_⟩)
 have hf:H1 s1.heap.objs.size=none:=I1.hok.fresh (Nat.le_refl _)
 refine ⟨.ref s1.heap.objs.size,upd H1 s1.heap.objs.size (.tup xs),I1.laid (t':=s1.toks) (fun b u e=>Heap.get?_push_of_some _ e) (Nat.le_refl _) ?_,rfl,q _ hf⟩
 exact ⟨z,us,r,⟨_,Heap.get?_push_size _ rfl,rfl,_,rfl⟩⟩
theorem bU (h:PA X es t):PE X (.List es pos) (Q4 t):=by
 intro Z s U H Q I hq
 refine wpAny_List_spliced (cz (h pos Z s U H _ I hq) fun us s1 ⟨xs,H1,I1,r,z,q⟩=>⟨by rw [← r.length];exact z,?_⟩)
 have hf:H1 s1.heap.objs.size=none:=I1.hok.fresh (Nat.le_refl _)
 refine ⟨.ref s1.heap.objs.size,upd H1 s1.heap.objs.size (.lst xs),I1.laid (t':=s1.toks) (fun b u e=>Heap.get?_push_of_some _ e) (Nat.le_refl _) ?_,rfl,q _ hf⟩
 exact ⟨z,us,0,r,Heap.get?_push_size _ rfl⟩
end
abbrev Sp:=List V->Hp->VK->XK->Prop
abbrev nH:=List Env->Hp->Shared->XK->Value->Shared->Prop
structure p_ (P:Program) (w:World) (K:PySem.W.Frag) (mg:Str->Option Value) (base:Heap) (A:Around) (outer:List Env) (s:Shared) (H:Hp):Prop where
 frames:A.frames=some outer
 mod:Mod K mg base
 bs:∀ b o,base.get? b=some o->s.heap.get? b=some o/\H b=none
 bsz:base.objs.size≤s.heap.objs.size
 funs:s.heap.FunFrames base outer
 frf:∀ b∈frs outer,H b=none
 hok:iR P w H s.heap
 bare:AllBare s.gens
def CE (outer:List Env) (P:Program) (w:World) (H:Hp) (s:Shared) (Q:VK) (u:Value) (s':Shared):Prop:=
 ∃ v H',s'.os=s.os/\AllBare s'.gens/\Un (frs outer) [] H H' s.heap s'.heap/\iR P w H' s'.heap/\RelV v u/\Q v H'
def CR (CX:nH) (outer:List Env) (P:Program) (w:World) (H:Hp) (s:Shared) (Q:VK) (E:XK) (r:Result) (s':Shared):Prop:=
 match r with
 |.ok (.ret u)=>CE outer P w H s Q u s'
 |.ok _=>False
 |.error e=>CX outer H s E e s'
structure aR (P:Program) (w:World) (K:PySem.W.Frag) (mg:Str->Option Value) (base:Heap) (CX:nH) (k:Nat) (f:Addr) (fd:FuncData) (ps:List Str) (sp:Sp):Prop where
 len:∀ vs H Q E,sp vs H Q E->vs.length=ps.length
 run:∀ (A:Around) (outer:List Env) (s:Shared) (H:Hp) (args:Args) (us:List Value) (vs:List V) (Q:VK) (E:XK),bF k A->p_ P w K mg base A outer s H->BindsTo s fd args (ps.zip us)->Vals vs us->sp vs H Q E->
  codeAny (model P w) A (.call (.ref f) args) (CR CX outer P w H s Q E) s
theorem p_.make {P:Program} {w:World} {K:PySem.W.Frag} {mg:Str->Option Value} {base:Heap} {A:Around} {outer:List Env} {s:Shared} {H:Hp} (e:p_ P w K mg base A outer s H) (C:Addr) (us:List Value) (kw:List (Str×Value)) :
 p_ P w K mg base (A.under (.builtin "type.__call__" ⟨.ref C::us,kw⟩)) outer s H:=⟨by first|exact e.frames|(simpa [Around.under,Code.envs,Code.isFrame,pushEnvs] using e.frames),e.mod,e.bs,e.bsz,e.funs,e.frf,e.hok,e.bare⟩
section
variable {X:Cx} {Z:List (Addr×Obj)} {U:St} {H:Hp} {s s':Shared}
theorem Inv.env0 (I:Inv X Z U H s):p_ X.prog X.w X.K X.mg X.base X.A X.stack s H:=
 ⟨I.ok.frames,I.ok.mod,I.bs,Nat.le_trans I.ok.bsz I.sz,I.stack,I.stkFree,I.hok,I.bare⟩
theorem Inv.after {Q:VK} {u:Value} (I:Inv X Z U H s) (h:CE X.stack X.prog X.w H s Q u s'):EP X Z U Q u s':=by
 obtain ⟨v,H',os,bare,un,hok,r,q⟩:=h
 obtain ⟨hh,g,d,t,os'⟩:=s'
 obtain rfl:os'=s.os:=os
 exact ⟨v,H',I.call (h':=hh) (g':=g) (d':=d) (t':=t) (ch:=[]) un hok bare (fun b z=>absurd z (by simp)),r,q⟩
end
def rO (sp:Sp) (dvs:List V) (E:XK) (t:TA):TE:=fun U H Q=>t U H fun vs H1=>sp (vs++dvs) H1 Q E
def Lp (C:Addr) (m:Str) (sp:Sp) (dvs:List V) (E:XK) (ta:TE) (t:TA):TE:=fun U H Q=>ta U H fun x H1=>∃ a dx fs,x=.ref a/\H1 a=some (.ins C dx fs)/\fs.lookup m=none/\
 t U H1 fun vs H2=>sp (x::(vs++dvs)) H2 Q E
def Oa (C:Addr) (sp:Sp) (dvs:List V) (E:XK) (t:TA):TE:=fun U H Q=>t U H fun vs H1=>∀ x dx,H1 x=none->H1 dx=none->dx≠x->
 sp (.ref x::(vs++dvs)) (upd (upd H1 dx (.own x)) x (.ins C dx [])) (fun v H2=>v=.non/\Q (.ref x) H2) E
def Binds (K:PySem.W.Frag) (fd:FuncData) (ps:List Str) (ds:List Value):Prop:=
 ∀ (s:Shared) (us:List Value),K.In s.heap->(us++ds).length=ps.length->BindsTo s fd ⟨us,[]⟩ (ps.zip (us++ds))
theorem Binds.all {K:PySem.W.Frag} {fd:FuncData} {ps:List Str} (h:∀ us:List Value,us.length=ps.length->bindArgs fd ⟨us,[]⟩=pure (ps.zip us)):Binds K fd ps []:=fun s us _ hl=>by
 rw [List.append_nil] at hl ⊢
 exact .of_eq (h us hl)
def eN (CX:nH) (X:Cx) (E:XK):Prop:=∀ (Z:List (Addr×Obj)) (U:St) (H:Hp) (s:Shared) (e:Value) (s':Shared),Inv X Z U H s->CX X.stack H s E e s'->X.xe e s'
section
variable {X:Cx} {CX:nH} {k:Nat} {f C:Addr} {fd:FuncData} {ps:List Str} {sp:Sp} {dvs:List V} {ds:List Value} {E:XK} {x m:Str} {p pos apos:Pos} {e o:Expr} {es:List Expr} {ta:TE} {t:TA}
theorem ud {Z:List (Addr×Obj)} {U:St} {H:Hp} {s:Shared} {Q:VK} {us:List Value} {vs:List V} (F:aR X.prog X.w X.K X.mg X.base CX k f fd ps sp) (hr:bF k X.A) (hb:Binds X.K fd ps ds) (hd:Vals dvs ds) (hx:eN CX X E)
 (I:Inv X Z U H s) (r:Vals vs us) (h:sp (vs++dvs) H Q E):wpAny (model X.prog X.w) X.A (call (.ref f) us) (EP X Z U Q) X.xe s:=by
 have r2:Vals (vs++dvs) (us++ds):=r.append hd
 have hl:(us++ds).length=ps.length:=by rw [← r2.length];exact F.len _ _ _ _ h
 refine wpAny_call (codeAny_mono (F.run X.A X.stack s H ⟨us,[]⟩ (us++ds) (vs++dvs) Q E hr I.env0 (hb s us I.kIn hl) r2 h) fun r s' hq=>?_)
 cases r with
 |error e=>exact hx Z U H s e s' I hq
 | ok fl=>
   cases fl with
   |ret u=>exact I.after hq
   |next=>exact False.elim hq
   |brk=>exact False.elim hq
   |cont=>exact False.elim hq
theorem aD (F:aR X.prog X.w X.K X.mg X.base CX k f fd ps sp) (hr:bF k X.A) (hg:Gl X x) (hm:X.mg x=some (.ref f)) (hk:PySem.W.keepIn X.K (.ref f)=true) (hb:Binds X.K fd ps ds) (hd:Vals dvs ds) (hx:eN CX X E)
 (ha:PA X (e::es) t) (hdb:(x == ("__debug__" : Str))=false:=by decide) (he:starEach (e::es) X.env=(false,eval e X.env)::starEach es X.env:=by rfl) (hpl:(backTo pos (starEach es X.env)).any (·.1)=false:=by rfl) :
 PE X (.Call (.Name x p) (e::es) [] pos) (rO sp dvs E t):=by
 intro Z s U H Q I h
 refine wpAny_Call_Name_kw (jf I hg hm ?_ hdb)
 refine PySem.W.callWith_K (h₀:=X.base) I.ok.mod.kin hk (cz (ha pos Z s U H _ I h) fun us s1 ⟨vs,H1,I1,r,q⟩=>⟨I1.kIn,?_⟩) he hpl
 exact ud F hr hb hd hx I1 r q
theorem A_ {pl:Sem Bool} (he:PE X o ta) (c:zW X.K C) (hm:Meth X.K C m f) (F:aR X.prog X.w X.K X.mg X.base CX k f fd ps sp) (hr:bF k X.A) (hb:Binds X.K fd ps ds) (hd:Vals dvs ds) (hx:eN CX X E) (ha:PA X (e::es) t)
 (hst:starEach (e::es) X.env=(false,eval e X.env)::starEach es X.env:=by rfl) (hpl:(backTo pos (starEach es X.env)).any (·.1)=false:=by rfl)
 (ht:eval (.Call (.Attribute o m apos) (e::es) [] pos) X.env=(do
  let ov ← eval o X.env
  standAt apos.atName
  let (f,first) ← holding [ov] (getMethod ov m pl)
  callWith pos f first (backTo pos (starEach (e::es) X.env)) (backToKw pos (keywordEach [] X.env))):=by rfl) :
 PE X (.Call (.Attribute o m apos) (e::es) [] pos) (Lp C m sp dvs E ta t):=by
 intro Z s U H Q I h
 refine PySem.W.methodCall_KW (pl:=pl) (cz (he Z s U H _ I h) fun u s1 ⟨x,H1,I1,rx,a,dx,fs,ex,ea,l,q⟩=>?_) ht
 subst ex
 obtain rfl:u=Value.ref a:=rx
 refine nT I1 ea c hm l ?_
 refine PySem.W.callWith_K (first:=[.ref a]) (h₀:=X.base) I.ok.mod.kin hm.kp (cz (ha pos Z s1 U H1 _ I1 q) fun us s2 ⟨vs,H2,I2,r,q2⟩=>⟨I2.kIn,?_⟩) hst hpl
 exact ud (us:=.ref a::us) (vs:=.ref a::vs) F hr hb hd hx I2 (.cons rfl r) q2
structure Mk (K:PySem.W.Frag) (C f:Addr):Prop where
 makes:PySem.W.makesIn K C=true
 init:PySem.W.findIn K (.ref C) "__init__" = some (some (.ref f))
 fn:PySem.W.isFn K (.ref f)=true
 kp:PySem.W.keepIn K (.ref C)=true
theorem zU {Z:List (Addr×Obj)} {U:St} {H:Hp} {s:Shared} {Q:VK} {us:List Value} {vs:List V} (M:Mk X.K C f) (F:aR X.prog X.w X.K X.mg X.base CX k f fd ps sp) (hr:bF (k+1) X.A) (hb:Binds X.K fd ps ds) (hd:Vals dvs ds)
 (hx:eN CX X E) (I:Inv X Z U H s) (r:Vals vs us)
 (h:∀ x dx,H x=none->H dx=none->dx≠x->sp (.ref x::(vs++dvs)) (upd (upd H dx (.own x)) x (.ins C dx [])) (fun v H2=>v=.non/\Q (.ref x) H2) E) :
 wpAny (model X.prog X.w) X.A (call (.ref C) us) (EP X Z U Q) X.xe s:=by
 have hq:=h (s.heap.objs.size+1) s.heap.objs.size (I.hok.fresh (Nat.le_succ _)) (I.hok.fresh (Nat.le_refl _)) (Nat.ne_of_lt (Nat.lt_succ_self _))
 have I2:=Inv.made (C:=C) I
 have r2:Vals (V.ref (s.heap.objs.size+1)::(vs++dvs)) (Value.ref (s.heap.objs.size+1)::(us++ds)):=.cons rfl (r.append hd)
 have hl:(Value.ref (s.heap.objs.size+1)::us++ds).length=ps.length:=by
  have e:=r2.length
  rw [F.len _ _ _ _ hq] at e
  exact e.symm
 refine wpAny_call (xZ (f:=f) I.kIn M.makes M.init (beq_iff_eq.mp M.fn) (codeAny_mono (F.run _ X.stack _ _ ⟨Value.ref (s.heap.objs.size+1)::us,[]⟩ (Value.ref (s.heap.objs.size+1)::(us++ds)) _ _ E (hr.make C us [])
  (I2.env0.make C us []) (hb _ (Value.ref (s.heap.objs.size+1)::us) I2.kIn hl) r2 hq) fun r s' hq'=>?_))
 cases r with
 |error e=>exact hx Z U _ _ e s' I2 hq'
 | ok fl=>
   cases fl with
   | ret u=>
     obtain ⟨v,H',I3,rv,ev,q3⟩:=I2.after hq'
     subst ev
     exact ⟨rv,⟨V.ref (s.heap.objs.size+1),H',I3,rfl,q3⟩⟩
   |next=>exact False.elim hq'
   |brk=>exact False.elim hq'
   |cont=>exact False.elim hq'
theorem Bt (M:Mk X.K C f) (F:aR X.prog X.w X.K X.mg X.base CX k f fd ps sp) (hr:bF (k+1) X.A) (hg:Gl X x) (hm:X.mg x=some (.ref C)) (hb:Binds X.K fd ps ds) (hd:Vals dvs ds) (hx:eN CX X E)
 (ha:PA X (e::es) t) (hdb:(x == ("__debug__" : Str))=false:=by decide) (he:starEach (e::es) X.env=(false,eval e X.env)::starEach es X.env:=by rfl) (hpl:(backTo pos (starEach es X.env)).any (·.1)=false:=by rfl) :
 PE X (.Call (.Name x p) (e::es) [] pos) (Oa C sp dvs E t):=by
 intro Z s U H Q I h
 refine wpAny_Call_Name_kw (jf I hg hm ?_ hdb)
 refine PySem.W.callWith_K (h₀:=X.base) I.ok.mod.kin M.kp (cz (ha pos Z s U H _ I h) fun us s1 ⟨vs,H1,I1,r,q⟩=>⟨I1.kIn,?_⟩) he hpl
 exact zU M F hr hb hd hx I1 r q
end
section
variable {X:Cx} {CX:nH} {k:Nat} {f C:Addr} {fd:FuncData} {ps ks:List Str} {sp:Sp} {E:XK} {x m:Str} {p pos apos kpos:Pos} {e o:Expr} {es:List Expr} {kws:List Keyword} {te ta:TE} {t tk:TA} {nm:Option Str}
variable {g:List Value->List Value->List Value} {gV:List V->List V->List V}
end
structure aU (N P:List Str) (sc:Scope):Prop where
 kind:sc.kind=.function
 co:sc.isCoroutine=false
 gen:sc.isGenerator=false
 nd:N.Nodup
 pre:N.take P.length=P
 par:∀ x∈P,sc.names.lookup x=some .local∨sc.names.lookup x=some .cell
 nofree:∀ y∈sc.names,y.2≠.free
theorem oG {kindOf:Str->Option NameKind} {x:Str}:∀ {binds:List (Str×Value)} {m:Str->Option Value},(∀ v,(x,v)∉binds)->bindL kindOf binds m x=m x
 |[],_,_=>rfl
 | (n,v)::r,m,h=>by
   unfold bindL
   rw [oG fun w hw=>h w (List.mem_cons_of_mem _ hw)]
   split
   ·have:x≠n:=by rintro rfl;exact h v List.mem_cons_self
    simp [this]
   ·rfl
theorem oM {kindOf:Str->Option NameKind} {x:Str}:∀ {binds:List (Str×Value)} {m:Str->Option Value},(∀ v,(x,v)∉binds)->bindC kindOf binds m x=m x
 |[],_,_=>rfl
 | (n,v)::r,m,h=>by
   unfold bindC
   rw [oM fun w hw=>h w (List.mem_cons_of_mem _ hw)]
   split
   ·rfl
   ·have:x≠n:=by rintro rfl;exact h v List.mem_cons_self
    simp [this]
theorem pI {kindOf:Str->Option NameKind} {x:Str} {v:Value}:∀ {P:List Str} {vs:List Value} {i:Nat} {m:Str->Option Value},P.Nodup->P[i]?=some x->vs[i]?=some v->kindOf x=some .local->
 bindL kindOf (P.zip vs) m x=some v
 |[],_,_,_,_,h,_,_=>by simp at h
 |_::_,[],_,_,_,_,h,_=>by simp at h
 | p::P,w::vs,0,m,nd,h1,h2,hk=>by
   simp at h1 h2;subst h1;subst h2
   show bindL kindOf ((p,w)::P.zip vs) m p=_
   unfold bindL
   rw [oG fun v hv=>(List.nodup_cons.mp nd).1 (List.of_mem_zip hv).1,if_pos hk]
   simp
 | p::P,w::vs,i+1,m,nd,h1,h2,hk=>by
   show bindL kindOf ((p,w)::P.zip vs) m x=_
   unfold bindL
   exact pI (i:=i) (List.nodup_cons.mp nd).2 (by simpa using h1) (by simpa using h2) hk
theorem oV {kindOf:Str->Option NameKind} {x:Str} {v:Value}:∀ {P:List Str} {vs:List Value} {i:Nat} {m:Str->Option Value},P.Nodup->P[i]?=some x->vs[i]?=some v->kindOf x≠some .local->
 bindC kindOf (P.zip vs) m x=some v
 |[],_,_,_,_,h,_,_=>by simp at h
 |_::_,[],_,_,_,_,h,_=>by simp at h
 | p::P,w::vs,0,m,nd,h1,h2,hk=>by
   simp at h1 h2;subst h1;subst h2
   show bindC kindOf ((p,w)::P.zip vs) m p=_
   unfold bindC
   rw [oM fun v hv=>(List.nodup_cons.mp nd).1 (List.of_mem_zip hv).1,if_neg hk]
   simp
 | p::P,w::vs,i+1,m,nd,h1,h2,hk=>by
   show bindC kindOf ((p,w)::P.zip vs) m x=_
   unfold bindC
   exact oV (i:=i) (List.nodup_cons.mp nd).2 (by simpa using h1) (by simpa using h2) hk
def start (N:List Str) (vs:List V):St:=vs.map some++List.replicate (N.length-vs.length) none
def iK (CX:nH) (P:Program) (w:World) (K:PySem.W.Frag) (mg:Str->Option Value) (base:Heap) (N:List Str) (qual:Str) (scope:Scope) (f:Addr) (cd:Value) (A:Around) (outer:List Env) (s:Shared) (H:Hp) (E:XK):Cx where
 prog:=P
 w:=w
 K:=K
 mg:=mg
 base:=base
 A:=A.deeper (envOfC qual scope s.heap.objs.size f cd)
 N:=N
 s₀:=s
 H₀:=H
 env:=envOfC qual scope s.heap.objs.size f cd
 outer:=outer
 stack:=envOfC qual scope s.heap.objs.size f cd::outer
 ex:=[]
 calm:=true
 fn:=fun _=>true
 pn:=[]
 xe:=fun e s'=>wpAny (model P w) (A.deeper (envOfC qual scope s.heap.objs.size f cd)) (leaving (envOfC qual scope s.heap.objs.size f cd) e) (fun _ s''=>CX outer H s E e s'') (fun e' s''=>CX outer H s E e' s'') s'
theorem rB {sc:Scope} {n:Nat} {x:Str} (h:sc.names.lookup x=some .cell):∃ c,(cellsFrom n sc.names []).lookup x=some c:=by
 have q:=PySem.W.cellsFrom_some sc.names n [] (.inl h)
 exact Option.isSome_iff_exists.mp q
theorem pH {CX:nH} {P:Program} {w:World} {K:PySem.W.Frag} {mg:Str->Option Value} {base:Heap} {N ps:List Str} {qual:Str} {scope:Scope} {f:Addr} {cd:Value} {A:Around} {outer:List Env} {s s1:Shared} {H:Hp} {E:XK} {us:List Value} {vs:List V}
 (S:aU N ps scope) (hd:A.handled=none) (e0:p_ P w K mg base A outer s H) (hl:vs.length=ps.length) (r:Vals vs us)
 (x:InCallC s s.heap.objs.size (bindL (envOfC qual scope s.heap.objs.size f cd).kindOf (ps.zip us) fun _=>none) (cellsFrom (s.heap.objs.size+1) scope.names []) (bindC (envOfC qual scope s.heap.objs.size f cd).kindOf (ps.zip us) fun _=>none) s1) :
 Inv (iK CX P w K mg base N qual scope f cd A outer s H E) [] (start N vs) H s1:=by
 have hpl:ps.length≤N.length:=by have:=congrArg List.length S.pre;rw [List.length_take] at this;omega
 obtain ⟨h1,tk,rfl,hk⟩:=x.done
 have noA:∀ b:Addr,b∉(iK CX P w K mg base N qual scope f cd A outer s H E).ex:=fun b z=>absurd (show b∈([]:List Addr) from z) (by simp)
 refine ⟨⟨e0.mod,S.kind,rfl,rfl,Nat.le_refl _,fun y z c h1 h2=>?_,fun y hy=>?_,fun y c _ h=>?_,fun _=>hd,Around.frames_deeper e0.frames,.inr ⟨rfl,rfl⟩,fun b z=>absurd z (noA b),e0.bs,e0.bsz,fun b _ _=>noA b,fun b z=>absurd z (noA b),e0.funs,e0.frf⟩,
  rfl,e0.bare,Un.kept hk,⟨_,x.toInCall.ns,fun i y v h1 h2 h3=>?_⟩,fun y c h=>⟨_,x.cell y c h⟩,e0.hok.fresh (Nat.le_refl _),fun y c h=>?_,fun p hp=>absurd (show p∈([]:List (Addr×Obj)) from hp) (by simp),e0.hok.kept hk,?_⟩
 ·exact name_of_addr x.apart (PySem.mem_of_lookup h1) (PySem.mem_of_lookup h2)
 ·have hy:scope.names.lookup y=some .cell∨scope.names.lookup y=some .free:=hy
  rcases hy with hy|hy
  ·exact rB hy
  ·exact absurd rfl (S.nofree _ (PySem.mem_of_lookup hy))
 ·exact Nat.le_of_lt (x.above y c (PySem.mem_of_lookup h))
 ·have hi:i<vs.length:=by
   unfold start at h2
   by_cases hi:i<vs.length
   ·exact hi
   ·rw [List.getElem?_append_right (by simpa using hi)] at h2
    rw [List.getElem?_replicate] at h2
    split at h2 <;> cases h2
  have ha:vs[i]?=some v:=by
   unfold start at h2
   rw [List.getElem?_append_left (by simpa using hi),List.getElem?_map] at h2
   cases e:vs[i]? with
   |none=>rw [e] at h2;cases h2
   |some a=>rw [e] at h2;cases h2;rfl
  obtain ⟨u,hu,rv⟩:=r.get ha
  have hp:ps[i]?=some y:=by
   rw [← S.pre,List.getElem?_take_of_lt (by omega)];exact h1
  have ndP:ps.Nodup:=by rw [← S.pre];exact S.nd.sublist (List.take_sublist _ _)
  refine ⟨u,rv,?_⟩
  rcases S.par y (List.mem_of_getElem? hp) with k|k
  ·exact .inl ⟨k,pI ndP hp hu k⟩
  ·obtain ⟨c,e⟩:=rB (n:=s.heap.objs.size+1) k
   refine .inr ⟨.inl k,c,e,?_⟩
   have q:=x.cell y c e
   rw [oV ndP hp hu (by show scope.names.lookup y≠_;rw [k];decide)] at q
   exact q
 ·exact e0.hok.fresh (Nat.le_of_lt (x.above y c (PySem.mem_of_lookup h)))
 ·unfold start
  show _=N.length
  rw [List.length_append,List.length_map,List.length_replicate]
  omega
theorem rA {CX:nH} {P:Program} {w:World} {K:PySem.W.Frag} {mg:Str->Option Value} {base:Heap} {k:Nat} {f:Addr} {name qual:Str} {params:Arguments} {body:List Stmt} {scope:Scope} {dV kV doc pm cdv ct oc:Value} {an od:Option Addr}
 {osl:Array (Option Value)} {N ps:List Str} {sp:Sp} (lk:K.lookup f=some ⟨oc,od,.func (PySem.W.fnOf name qual params body scope dV kV doc pm an cdv ct),osl⟩) (hcd:PySem.W.codeIn K cdv qual=true) (S:aU N ps scope)
 (len:∀ vs H Q E,sp vs H Q E->vs.length=ps.length)
 (hbody:∀ (A:Around) (outer:List Env) (s:Shared) (H:Hp) (vs:List V) (Q:VK) (E:XK),bF k (A.deeper (envOfC qual scope s.heap.objs.size f cdv))->sp vs H Q E->
  ∃ t,qQ (iK CX P w K mg base N qual scope f cdv A outer s H E) body t/\t { nx:=fun _ H'=>Q .non H',rt:=Q } (start N vs) H) :
 aR P w K mg base CX (k+1) f (PySem.W.fnOf name qual params body scope dV kV doc pm an cdv ct) ps sp:=by
 refine ⟨len,fun A outer s H args us vs Q E hr e0 hb r hsp=>?_⟩
 have hl:=len _ _ _ _ hsp
 have KX:K.In s.heap:=e0.mod.kin.keeps fun b o e=>(e0.bs b o e).1
 have lim:s.heap.NoLimit:=e0.mod.nolimit.keeps fun b o e=>(e0.bs b o e).1
 have hkind:∀ y∈ps.zip us,scope.names.lookup y.1=some .local∨(scope.names.lookup y.1=some .cell/\((cellsFrom (s.heap.objs.size+1) scope.names []).lookup y.1).isSome=true):=fun ⟨n,v⟩ hy=>by
  rcases S.par n (List.of_mem_zip hy).1 with q|q
  ·exact .inl q
  ·exact .inr ⟨q,PySem.W.cellsFrom_some _ _ _ (.inl q)⟩
 refine codeAny_call_function hr.depth (KX _ _ lk) rfl S.co S.gen rfl (PySem.W.codeRec_of KX hcd) (hb _ _ _ _ ?_)
 refine wpAny_newFunctionEnv_cells S.kind hkind fun env he s1 x=>?_
 subst he
 refine ⟨lim.keeps x.toInCall.keep,codeAny_func ?_⟩
 obtain ⟨t,ht,hq⟩:=hbody A outer s H vs Q E (hr.deeper _) hsp
 have I:Inv (iK CX P w K mg base N qual scope f cdv A outer s H E) [] (start N vs) H s1:=pH S hr.hd e0 hl r x
 refine wpAny_mono (ht [] s1 (start N vs) H _ I hq) (fun fl s' hs=>?_) fun e s' hs=>hs
 have fin:∀ {σ':St} {H':Hp} {v:V} {u:Value},Inv (iK CX P w K mg base N qual scope f cdv A outer s H E) [] σ' H' s'->RelV v u->Q v H'->CE outer P w H s Q u s':=
  fun {σ' H' v u} J rv q=>⟨v,H',J.os,J.bare,J.base,J.hok,rv,q⟩
 cases fl with
 | ret u=>
   obtain ⟨v,σ',H',J,rv,q⟩:=hs
   exact fin J rv q
 | next=>
   obtain ⟨σ',H',J,q⟩:=hs
   exact fin (v:=V.non) (u:=Value.none) J rfl q
 | brk=>
   obtain ⟨_,_,_,q⟩:=hs
   exact False.elim q
 | cont=>
   obtain ⟨_,_,_,q⟩:=hs
   exact False.elim q
section
variable {X:Cx} {x:Str} {p pos:Pos} {e:Expr} {es:List Expr} {t:TA} {id T:String} {r:List V->Hp->VK->Prop}
def Ul (r:List V->Hp->VK->Prop) (t:TA):TE:=fun U H Q=>t U H fun vs H1=>r vs H1 Q
theorem aM (hc:eX X (.builtin id) r) (hg:Gl X x) (hm:X.mg x=none) (hv:bootBuiltins x=some (.builtin id)) (ha:PA X (e::es) t) (hn:x ≠ "__name__":=by decide) (hdb:(x == ("__debug__" : Str))=false:=by decide)
 (he:starEach (e::es) X.env=(false,eval e X.env)::starEach es X.env:=by rfl) (hpl:(backTo pos (starEach es X.env)).any (·.1)=false:=by rfl):PE X (.Call (.Name x p) (e::es) [] pos) (Ul r t):=by
 intro Z s U H Q I h
 refine wpAny_Call_Name_kw (jw I hg hm hv ?_ hn hdb)
 exact PyProof.Rows.callWith_builtin1 (cz (ha pos Z s U H _ I h) fun us s1 ⟨vs,H1,I1,r1,q1⟩=>hc Z s1 U H1 vs us Q I1 r1 q1) he hpl
theorem ig (hc:eX X (.type T) r) (hg:Gl X x) (hm:X.mg x=none) (hv:bootBuiltins x=some (.type T)) (ha:PA X (e::es) t) (hn:x ≠ "__name__":=by decide) (hdb:(x == ("__debug__" : Str))=false:=by decide)
 (he:starEach (e::es) X.env=(false,eval e X.env)::starEach es X.env:=by rfl) (hpl:(backTo pos (starEach es X.env)).any (·.1)=false:=by rfl):PE X (.Call (.Name x p) (e::es) [] pos) (Ul r t):=by
 intro Z s U H Q I h
 refine wpAny_Call_Name_kw (jw I hg hm hv ?_ hn hdb)
 exact PyProof.Rows.callWith_type1 (cz (ha pos Z s U H _ I h) fun us s1 ⟨vs,H1,I1,r1,q1⟩=>hc Z s1 U H1 vs us Q I1 r1 q1) he hpl
end
end L2
namespace HT
open PySem PyProof.Rows
section
open PySem.SeqAt
open PySem.AutoSeq1 (wpAny_loadPart')
open PySem.MeetsSeq PySem.MeetsSeq2 PySem.MeetsSeq3
end
section
variable {prog:Program} {w:World} {A:Around} {E:Value->Shared->Prop} {s:Shared}
theorem Be {t b:Addr} {vs ws:List Value} {Q:Value->Shared->Prop} (ht:IsTup s.heap t vs.toArray) (hb:IsTup s.heap b ws.toArray) (hv:vs≠[])
 (h1:ws=[]->Q (.ref t) s) (h2:ws≠[]->Q (.ref s.heap.objs.size) { s with heap:=s.heap.push { cls:=.type "tuple",data:=.seq (vs++ws).toArray } })
 (hsz:vs.length+ws.length≤sizeLine):wpAny (model prog w) A (binaryOp .Add (.ref t) (.ref b)) Q E s:=by
 obtain ⟨⟨cls,dd,data,sl⟩,ho,hc,n,hd⟩:=id ht
 obtain ⟨⟨cls2,dd2,data2,sl2⟩,ho2,hc2,n2,hd2⟩:=id hb
 simp only at hc hd hc2 hd2
 subst hc hd hc2 hd2
 have e:vs.toArray++ws.toArray=(vs++ws).toArray:=by simp
 by_cases hw:ws=[]
 ·exact concat_meets ⟨_,ho,rfl⟩ ⟨_,ho2,rfl⟩ noFill_tuple_add seq_tuple_add PySem.F.slot_tuple_add PySem.F.entry_tuple_add (PySem.F.args_tuple_add_2 _ _)
   (tuple_addW1 t b vs.toArray ws.toArray n n2 dd dd2 sl sl2 (by simpa using hv) (by simp [hw])) ⟨ho,ho2,h1 hw⟩
 ·refine concat_meets ⟨_,ho,rfl⟩ ⟨_,ho2,rfl⟩ noFill_tuple_add seq_tuple_add PySem.F.slot_tuple_add PySem.F.entry_tuple_add (PySem.F.args_tuple_add_2 _ _)
   (tuple_addW2 t b vs.toArray ws.toArray n n2 dd dd2 sl sl2 (by simpa using hv) (by simpa using hw) (by rw [List.size_toArray,List.size_toArray];exact hsz)) ⟨ho,ho2,?_⟩
  rw [e]
  exact h2 hw
def dF (n d:Nat):Option Int->Nat
 |none=>d
 |some v=>if v<0 then (v+(n:Int)).toNat else min v.toNat n
theorem jE (n d:Nat):dF n d none=d:=rfl
theorem qt (n d k:Nat):dF n d (some (k:Int))=min k n:=by
 show (if (k:Int)<0 then ((k:Int)+(n:Int)).toNat else min (k:Int).toNat n)=min k n
 rw [if_neg (by omega),Int.toNat_natCast]
theorem Hd (n d:Nat) (hd:d≤n) (o:Option Int):dF n d o≤n:=by
 cases o with
 |none=>exact hd
 | some v=>
   show (if v<0 then (v+(n:Int)).toNat else min v.toNat n)≤n
   by_cases hv:v<0
   ·rw [if_pos hv];omega
   ·rw [if_neg hv];exact Nat.min_le_right _ _
theorem vL (v:Int) (n d:Nat):(if v<0 then max (v+(n:Int)) 0 else min v (n:Int))=((dF n d (some v):Nat):Int):=by
 show (if v<0 then max (v+(n:Int)) 0 else min v (n:Int))=(((if v<0 then (v+(n:Int)).toNat else min v.toNat n):Nat):Int)
 by_cases hv:v<0
 ·simp only [if_pos hv];omega
 ·simp only [if_neg hv];omega
theorem sO (lo hi:Option Int) (n:Nat):Builtin.Slice.sliceAdjust lo hi 1 (n:Int)=(((dF n 0 lo:Nat):Int),((dF n n hi:Nat):Int)):=by
 have h1:¬ ((1:Int)<0):=by omega
 unfold Builtin.Slice.sliceAdjust
 simp only [h1,if_false]
 refine Prod.ext ?_ ?_
 ·cases lo with
  |none=>rfl
  |some v=>exact vL v n 0
 ·cases hi with
  |none=>rfl
  |some v=>exact vL v n n
theorem tu (i j:Nat):Builtin.Slice.slicePlaces (i:Int) (j:Int) 1=j-i:=by
 unfold Builtin.Slice.slicePlaces
 have h1:(1:Int) > 0:=by omega
 simp only [h1,if_true,Int.ediv_one]
 split <;> omega
theorem mU {v:Value} {o:Option Int} {Q:Option Int->Shared->Prop} (p:IsPart v o) (h:Q o s):wpAny (model prog w) A (Builtin.Slice.slicePartIndex v) Q E s:=by
 cases p with
 |none=>exact slicePart_none h
 |int i t=>exact slicePart_int h
theorem h_ {sl:Addr} {vl vu:Value} {lo hi:Option Int} {n:Nat} {Q:Int×Int×Nat->Shared->Prop} (hs:s.heap.IsSliceOf sl vl vu .none) (pl:IsPart vl lo) (pu:IsPart vu hi)
 (h:Q (((dF n 0 lo:Nat):Int),1,dF n n hi-dF n 0 lo) s):wpAny (model prog w) A (Builtin.Slice.sliceApplied (.ref sl) (pure (n:Int))) Q E s:=by
 obtain ⟨os,hos,hcs,hds⟩:=id hs
 unfold Builtin.Slice.sliceApplied Builtin.Slice.sliceFields
 refine wpAny_bind (wpAny_bind (wpAny_field hos hds (x:=vl) rfl (wpAny_bind (wpAny_field hos hds (x:=vu) rfl (wpAny_bind (wpAny_field hos hds (x:=.none) rfl (wpAny_pure ?_)))))))
 refine wpAny_bind (slicePart_none ?_)
 show wpAny _ _ (if ((1:Int) == 0)=true then _ else _) _ _ s
 rw [if_neg (by decide)]
 refine wpAny_bind (mU pl (wpAny_bind (mU pu (wpAny_bind (wpAny_pure ?_)))))
 show wpAny _ _ (match Builtin.Slice.sliceAdjust lo hi 1 (n:Int) with|(lo,hi)=>pure (lo,(1:Int),Builtin.Slice.slicePlaces lo hi 1)) _ _ s
 rw [sO lo hi n]
 show wpAny _ _ (pure (((dF n 0 lo:Nat):Int),(1:Int),Builtin.Slice.slicePlaces ((dF n 0 lo:Nat):Int) ((dF n n hi:Nat):Int) 1)) _ _ s
 rw [tu]
 exact wpAny_pure h
theorem yu (xs:Array Value) (i k:Nat):((List.range k).filterMap fun (m:Nat)=>xs[((i:Int)+(m:Int)*1).toNat]?).toArray=((xs.toList.drop i).take k).toArray:=by
 have e:(fun (m:Nat)=>xs[((i:Int)+(m:Int)*1).toNat]?)=fun m=>xs[i+m]?:=by
  funext m
  have:((i:Int)+(m:Int)*1).toNat=i+m:=by omega
  rw [this]
 rw [e]
 have:=pick_run xs i k
 rw [List.filterMap_map] at this
 have e2:((fun x=>xs[x]?) ∘ fun x=>i+x)=fun m=>xs[i+m]?:=rfl
 rw [e2] at this
 rw [this]
theorem jF {t sl:Addr} {items:Array Value} {vl vu:Value} {lo hi:Option Int} {Q:Value->Shared->Prop} (ht:IsTup s.heap t items) (hs:s.heap.IsSliceOf sl vl vu .none) (pl:IsPart vl lo) (pu:IsPart vu hi)
 (hw:¬ (dF items.size 0 lo=0/\dF items.size items.size hi=items.size))
 (h:Q (.ref s.heap.objs.size) { s with heap:=s.heap.push { cls:=.type "tuple",data:=.seq ((items.toList.drop (dF items.size 0 lo)).take (dF items.size items.size hi-dF items.size 0 lo)).toArray } })
 (hsz:items.size≤sizeLine):wpAny (model prog w) A (getItem (.ref t) (.ref sl)) Q E s:=by
 have htake:sizeOk (.seq ((items.toList.drop (dF items.size 0 lo)).take (dF items.size items.size hi-dF items.size 0 lo)).toArray):=by
  show ((items.toList.drop (dF items.size 0 lo)).take (dF items.size items.size hi-dF items.size 0 lo)).toArray.size≤sizeLine
  rw [List.size_toArray,List.length_take,List.length_drop,Array.length_toList]
  omega
 have hj:dF items.size items.size hi≤items.size:=Hd _ _ (Nat.le_refl _) hi
 obtain ⟨os,hos,hcs,hds⟩:=id hs
 have hTs:s.TypeIs (.ref sl) "slice":=⟨os,hos,hcs⟩
 unfold getItem
 try with_reducible refine wpAny_holding ?_
 first|refine wpAny_bind (wpAny_pure ?_)|skip
 refine wpAny_bind (wpAny_sequenceKey ht.typeIs (by decide) ?_)
 refine wpAny_bind (wpAny_callSpecial?_slot (name:=Str.ofString "__getitem__") ht.typeIs PyProof.Rows.slot_tuple_getitem
  (wpAny_call_entry PyProof.Rows.slot_tuple_getitem ht.typeIs entry_tuple_getitem ?_ (args_tuple_getitem _ _)))
 show wpAny _ _ (Builtin.Tuple.tupleItemsOf (.ref t) >>= _) _ _ s
 refine wpAny_bind (tupleItemsOf_ ht ?_)
 refine wpAny_bind (wpAny_typeOf hTs ?_)
 rw [if_pos (by decide)]
 refine wpAny_bind (h_ hs pl pu ?_)
 have hno:¬ ((((dF items.size 0 lo:Nat):Int) == 0 && (1:Int) == 1 && (dF items.size items.size hi-dF items.size 0 lo) == items.size)=true):=by
  intro q
  rw [Bool.and_eq_true,Bool.and_eq_true] at q
  have q1:((dF items.size 0 lo:Nat):Int)=0:=eq_of_beq q.1.1
  have q2:dF items.size items.size hi-dF items.size 0 lo=items.size:=eq_of_beq q.2
  exact hw ⟨by omega,by omega⟩
 show wpAny _ _ (if (((dF items.size 0 lo:Nat):Int) == 0 && (1:Int) == 1 && (dF items.size items.size hi-dF items.size 0 lo) == items.size)=true then _ else _) _ _ s
 rw [if_neg hno,yu]
 first
  |exact wpAny_bind (m:=Builtin.Tuple.tupleExact _) (wpAny_newObj_type (wpAny_pure ⟨_,rfl,wpAny_pure h⟩) htake)
  |exact wpAny_bind (m:=Builtin.Tuple.tupleExact _) (wpAny_newObj_type (wpAny_bind (wpAny_pure (wpAny_pure ⟨_,rfl,wpAny_pure h⟩))) htake)
  |exact wpAny_bind (wpAny_bind (m:=Builtin.Tuple.tupleExact _) (wpAny_newObj_type (wpAny_pure (wpAny_pure ⟨_,rfl,wpAny_pure h⟩)) htake))
  |exact wpAny_bind (wpAny_bind (m:=Builtin.Tuple.tupleExact _) (wpAny_newObj_type (wpAny_pure ⟨_,rfl,wpAny_pure h⟩) htake))
end
end HT
namespace L2
open PySem PySem.Spec PyProof.Rows
abbrev TO:=St->Hp->(Option Int->Hp->Prop)->Prop
def PO (X:Cx) (e:Option Expr) (t:TO):Prop:=
 ∀ (Z:List (Addr×Obj)) (s:Shared) (U:St) (H:Hp) (Q:Option Int->Hp->Prop),Inv X Z U H s->t U H Q->
   wpAny (model X.prog X.w) X.A (evalPart e X.env) (fun u s'=>∃ o H',Inv X Z U H' s'/\IsPart u o/\Q o H') X.xe s
def lR:TO:=fun _ H Q=>Q none H
def Lk (t:TE):TO:=fun U H Q=>t U H fun x H1=>∃ i,x=.int i/\Q (some i) H1
section
variable {X:Cx} {e:Expr} {te:TE} {lo hi:Option Expr} {tl th:TO} {pos p2:Pos}
theorem cN:PO X none lR:=by
 intro Z s U H Q I h
 rw [evalPart_none]
 exact wpAny_pure ⟨none,H,I,.none,h⟩
theorem cL (h:PE X e te):PO X (some e) (Lk te):=by
 intro Z s U H Q I hw
 rw [evalPart_some]
 refine cz (h Z s U H _ I hw) fun u s1 ⟨x,H1,I1,r1,q1⟩=>?_
 obtain ⟨i,rfl,q⟩:=q1
 obtain ⟨t,rfl⟩:=r1
 exact ⟨some i,H1,I1,.int i t,q⟩
def Jo (X:Cx) (r:V->Option Int->Option Int->Hp->VK->Prop):Prop:=
 ∀ (Z:List (Addr×Obj)) (s:Shared) (U:St) (H:Hp) (x:V) (v vl vu:Value) (lo hi:Option Int) (sl:Addr) (Q:VK),Inv X Z U H s->RelV x v->s.heap.IsSliceOf sl vl vu .none->IsPart vl lo->IsPart vu hi->r x lo hi H Q->
   ∃ T id,typeLookup (.type T) "__getitem__" = pure (some (.builtin id))/\s.TypeIs v T/\wpAny (model X.prog X.w) X.A (getItem v (.ref sl)) (EP X Z U Q) X.xe s
def V0 (r:V->Option Int->Option Int->Hp->VK->Prop) (te:TE) (tl th:TO):TE:=fun U H Q=>te U H fun x H1=>tl U H1 fun l H2=>th U H2 fun u H3=>r x l u H3 Q
theorem cj {r:V->Option Int->Option Int->Hp->VK->Prop} (hr:Jo X r) (he:PE X e te) (hl:PO X lo tl) (hu:PO X hi th):PE X (.Subscript e (.Slice lo hi none p2) pos) (V0 r te tl th):=by
 intro Z s U H Q I h
 refine Subscript_ (cz (he Z s U H _ I h) fun v s1 ⟨x,H1,I1,r1,q1⟩=>?_)
 refine wpAny_Slice (cz (hl Z s1 U H1 _ I1 q1) fun vl s2 ⟨l,H2,I2,pl,q2⟩=>cz (hu Z s2 U H2 _ I2 q2) fun vu s3 ⟨u,H3,I3,pu,q3⟩=>?_)
 rw [evalPart_none]
 refine wpAny_pure ?_
 have I4:Inv X Z U H3 { s3 with heap:=s3.heap.push { cls:=.type "slice",data:=.fields #[vl,vu,.none] } }:=I3.kept (t':=s3.toks) fun b ob q=>Heap.get?_push_of_some _ q
 obtain ⟨T,id,hT,ht,hg⟩:=hr Z { s3 with heap:=s3.heap.push { cls:=.type "slice",data:=.fields #[vl,vu,.none] } } U H3 x v vl vu l u s3.heap.objs.size Q I4 r1 (Heap.IsSliceOf.new ..) pl pu q3
 show wpAny (model X.prog X.w) X.A (subscriptTail e (.Slice lo hi none p2) v (.ref s3.heap.objs.size)) (EP X Z U Q) X.xe { s3 with heap:=s3.heap.push { cls:=.type "slice",data:=.fields #[vl,vu,.none] } }
 exact tail_any (ops:=[.ref s3.heap.objs.size,v]) ht hT hg (by with_unfolding_all rfl)
def iM (xs:List V) (lo hi:Option Int):List V:=(xs.drop (HT.dF xs.length 0 lo)).take (HT.dF xs.length xs.length hi-HT.dF xs.length 0 lo)
theorem lG (xs:List V) (lo hi:Option Int):(iM xs lo hi).length≤xs.length:=by
 unfold iM
 rw [List.length_take,List.length_drop]
 omega
def Rg (K:PySem.W.Frag):V->Option Int->Option Int->Hp->VK->Prop:=fun x lo hi H Q=>∃ a xs,x=.ref a/\b_ K H a xs/\
 ¬ (HT.dF xs.length 0 lo=0/\HT.dF xs.length xs.length hi=xs.length)/\∀ p,H p=none->Q (.ref p) (upd H p (.tup (iM xs lo hi)))
theorem Ft:Jo X (Rg X.K):=by
 intro Z s U H x v vl vu lo hi sl Q I rx hs pl pu h
 obtain ⟨a,xs,rfl,hx,hw,q⟩:=h
 cases rx
 obtain ⟨its,r,ht,hz⟩:=I.tuple hx
 have hlen:its.toArray.size=xs.length:=by rw [List.size_toArray];exact r.length.symm
 refine ⟨"tuple",_,PyProof.Rows.slot_tuple_getitem.lookup,ht.typeIs,?_⟩
 refine HT.jF ht hs pl pu (by rw [hlen];exact hw) ?_ (by rw [hlen];exact hz)
 rw [hlen]
 refine ⟨.ref s.heap.objs.size,_,I.laid (t':=s.toks) (o:=.tup (iM xs lo hi)) (fun b ob q=>Heap.get?_push_of_some _ q) (Nat.le_refl _) ?_,rfl,q _ (I.hok.fresh (Nat.le_refl _))⟩
 exact ⟨Nat.le_trans (lG xs lo hi) hz,_,(r.drop (HT.dF xs.length 0 lo)).take (HT.dF xs.length xs.length hi-HT.dF xs.length 0 lo),IsTup.new _ _⟩
def Ng (K:PySem.W.Frag):R2:=fun x y H Q=>∃ a b xs ys,x=.ref a/\y=.ref b/\b_ K H a xs/\b_ K H b ys/\xs≠[]/\xs.length+ys.length≤sizeLine/\
 (ys=[]->Q (.ref a) H)/\(ys≠[]->∀ p,H p=none->Q (.ref p) (upd H p (.tup (xs++ys))))
theorem Vals.nil_iff {xs:List V} {us:List Value} (r:Vals xs us):us=[]↔xs=[]:=by
 cases r with
 |nil=>simp
 |cons _ _=>simp
theorem Bw:iI X (binaryOp .Add) (Ng X.K):=by
 intro Z s U H x y v u Q I rx ry h
 obtain ⟨a,b,xs,ys,rfl,rfl,ha,hb,hx,hz,q1,q2⟩:=h
 cases rx
 cases ry
 obtain ⟨its,r1,p1,_⟩:=I.tuple ha
 obtain ⟨its2,r2,p2,_⟩:=I.tuple hb
 refine HT.Be p1 p2 (fun z=>hx (r1.nil_iff.mp z)) (fun z=>⟨.ref a,H,I,rfl,q1 (r2.nil_iff.mp z)⟩) (fun z=>?_) (by rw [← r1.length,← r2.length];exact hz)
 refine ⟨.ref s.heap.objs.size,_,I.laid (t':=s.toks) (o:=.tup (xs++ys)) (fun b ob q=>Heap.get?_push_of_some _ q) (Nat.le_refl _) ?_,rfl,q2 (fun w=>z (r2.nil_iff.mpr w)) _ (I.hok.fresh (Nat.le_refl _))⟩
 exact ⟨by rw [List.length_append];exact hz,_,r1.append r2,IsTup.new _ _⟩
end
def Ga (n:Nat) (i:Int):Option Nat:=if 0≤i then (if i<n then some i.toNat else none) else if -(n:Int)≤i then some (i+n).toNat else none
def qe {α:Type} (xs:List α) (i:Int):Option α:=(Ga xs.length i).bind fun j=>xs[j]?
theorem Bg {n:Nat} {i:Int} {j:Nat} (h:Ga n i=some j):seqIndex? i n=some j/\j<n/\-(n:Int)≤i/\i<n:=by
 unfold Ga at h
 by_cases h0:0≤i
 ·rw [if_pos h0] at h
  by_cases h1:i<n
  ·rw [if_pos h1] at h
   have e:i.toNat=j:=Option.some.inj h
   exact ⟨by rw [seqIndex_of h0 h1,e],by omega,by omega,h1⟩
  ·rw [if_neg h1] at h;cases h
 ·rw [if_neg h0] at h
  by_cases h1:-(n:Int)≤i
  ·rw [if_pos h1] at h
   have e:(i+n).toNat=j:=Option.some.inj h
   exact ⟨by rw [seqIndex_neg (by omega) h1,e],by omega,h1,by omega⟩
  ·rw [if_neg h1] at h;cases h
theorem q8 {α:Type} {xs:List α} {i:Int} {v:α} (h:qe xs i=some v):∃ j,seqIndex? i xs.length=some j/\xs[j]?=some v/\j<xs.length/\-(xs.length:Int)≤i/\i<xs.length:=by
 unfold qe at h
 cases e:Ga xs.length i with
 |none=>rw [e] at h;cases h
 | some j=>
   rw [e] at h
   obtain ⟨h1,h2,h3,h4⟩:=Bg e
   exact ⟨j,h1,h,h2,h3,h4⟩
theorem aG {α:Type} {xs:List α} {j:Nat} {v:α} (h:xs[j]?=some v):qe xs (j:Int)=some v:=by
 have hj:j<xs.length:=(List.getElem?_eq_some_iff.mp h).1
 have e:Ga xs.length (j:Int)=some j:=by
  unfold Ga
  rw [if_pos (by omega),if_pos (by omega)];simp
 unfold qe;rw [e];exact h
def Aa (b:Expr):Prop:=∀ o i,subscripted b false o i=operate [o,i] (getItem o i)
def z_ (X:Cx) (r:R2):Prop:=
 ∀ (value slice:Expr) (Z:List (Addr×Obj)) (s:Shared) (U:St) (H:Hp) (x y:V) (v u:Value) (Q:VK),Inv X Z U H s->RelV x v->RelV y u->r x y H Q->
   subscripted slice false v u=operate [v,u] (getItem v u)->wpAny (model X.prog X.w) X.A (subscriptTail value slice v u) (EP X Z U Q) X.xe s
def Hr (X:Cx) (id:String) (r:V->List V->Hp->VK->Prop):Prop:=
 ∀ (Z:List (Addr×Obj)) (s:Shared) (U:St) (H:Hp) (x:V) (xs:List V) (v:Value) (us:List Value) (Q:VK),Inv X Z U H s->RelV x v->Vals xs us->r x xs H Q->
   wpAny (model X.prog X.w) X.A (call (.builtin id) (v::us)) (EP X Z U Q) X.xe s
section
variable {X:Cx} {a b:Expr} {ta tb:TE} {pos:Pos}
theorem z_.or {r r':R2} (h:z_ X r) (h':z_ X r'):z_ X (fun x y H Q=>r x y H Q∨r' x y H Q):=by
 intro value slice Z s U H x y v u Q I rx ry q hs
 rcases q with q|q
 ·exact h value slice Z s U H x y v u Q I rx ry q hs
 ·exact h' value slice Z s U H x y v u Q I rx ry q hs
theorem aY {r:R2} (hr:z_ X r) (ha:PE X a ta) (hb:PE X b tb) (hs:Aa b):PE X (.Subscript a b pos) (Og r ta tb):=by
 intro Z s U H Q I h
 exact Subscript_ (Gk ha hb I h fun v u s2 x y H2 I2 rx ry q=>hr a b Z s2 U H2 x y v u Q I2 rx ry q (hs _ _))
def zQ (K:PySem.W.Frag):R2:=fun x y H Q=>∃ p xs i v,x=.ref p/\y=.int i/\bM K H p xs/\qe xs i=some v/\Q v H
def xg (K:PySem.W.Frag):R2:=fun x y H Q=>∃ p xs i v,x=.ref p/\y=.int i/\b_ K H p xs/\qe xs i=some v/\Q v H
def Dj:R2:=fun x y H Q=>∃ z i c,x=.str z/\y=.int i/\z.length≤sizeLine/\qe z.cps.toList i=some c/\Q (.str ⟨#[c]⟩) H
theorem dG:z_ X (zQ X.K):=by
 intro value slice Z s U H x y v u Q I rx ry h hs
 obtain ⟨p,xs,i,z,rfl,rfl,hq,he,q⟩:=h
 cases rx
 obtain ⟨t,rfl⟩:=ry
 obtain ⟨its,r,pl,hz⟩:=I.list hq
 obtain ⟨j,h1,h2,h3,h4,h5⟩:=q8 he
 obtain ⟨w,ew,rw'⟩:=r.get h2
 have hl:=r.length
 have hn:=n6
 have fin:EP X Z U Q w s:=⟨z,H,I,rw',q⟩
 by_cases h0:0≤i
 ·have hj:i.toNat=j:=by
   rw [seqIndex_of h0 h5] at h1
   exact Option.some.inj h1
  exact item_listR pl.isList h0 (by omega) (by rw [hj];simpa using ew) fin hs
 ·have hj:(i+(its.toArray.size:Int)).toNat=j:=by
   rw [seqIndex_neg (by omega) h4] at h1
   rw [List.size_toArray,← hl]
   exact Option.some.inj h1
  exact subscriptTail_builtinR (x:=w) pl.isList.typeIs slot_list_getitem.lookup
   (wpAny_getItem_list_neg (Q:=fun r s'=>r=w/\EP X Z U Q r s') pl.isList (by omega) (by rw [List.size_toArray] <;> omega) (by omega) (by rw [hj];simpa using ew) ⟨rfl,fin⟩) hs
theorem aV:z_ X (xg X.K):=by
 intro value slice Z s U H x y v u Q I rx ry h hs
 obtain ⟨p,xs,i,z,rfl,rfl,hq,he,q⟩:=h
 cases rx
 obtain ⟨t,rfl⟩:=ry
 obtain ⟨its,r,pl,hz⟩:=I.tuple hq
 obtain ⟨j,h1,h2,h3,h4,h5⟩:=q8 he
 obtain ⟨w,ew,rw'⟩:=r.get h2
 have hl:=r.length
 have hn:=n6
 have fin:EP X Z U Q w s:=⟨z,H,I,rw',q⟩
 exact subscriptTail_builtinR (x:=w) pl.typeIs slot_tuple_getitem.lookup
  (getItem_tuple (j:=j) (Q:=fun r s'=>r=w/\EP X Z U Q r s') pl (by omega) (by omega) (by rw [List.size_toArray,← hl];exact h1) (by simpa using ew) ⟨rfl,fin⟩) hs
theorem pP:z_ X Dj:=by
 intro value slice Z s U H x y v u Q I rx ry h hs
 obtain ⟨z,i,c,rfl,rfl,hz,he,q⟩:=h
 obtain ⟨t,rfl⟩:=rx
 obtain ⟨t',rfl⟩:=ry
 obtain ⟨j,h1,h2,h3,h4,h5⟩:=q8 he
 have hl:z.cps.toList.length=z.length:=by simp [Str.length]
 rw [hl] at h1 h4 h5
 have hn:=n6
 exact tail_any (typeIs_str s z t) slot_str_getitem.lookup (getItem_str (c:=c) (by
  have e1:decide (i < -(2 ^ 63:Int))=false:=decide_eq_false (by omega)
  have e2:decide (i ≥ 2 ^ 63)=false:=decide_eq_false (by omega)
  rw [e1,e2,Bool.or_false]) (by rw [h1];simpa using h2) ⟨.str ⟨#[c]⟩,H,I.tok _,⟨_,rfl⟩,q⟩) hs
def T6 (K:PySem.W.Frag):R2:=fun x y H Q=>zQ K x y H Q∨xg K x y H Q∨Dj x y H Q
theorem xT:z_ X (T6 X.K):=dG.or (aV.or pP)
theorem qi (lo hi:Option Int) (n:Nat):(sliceBounds lo hi none n).1=((HT.dF n 0 lo:Nat):Int)/\(sliceBounds lo hi none n).2.1=((HT.dF n n hi:Nat):Int)/\(sliceBounds lo hi none n).2.2=1:=by
 refine ⟨?_,?_,rfl⟩
 ·cases lo with
  |none=>simp [sliceBounds,HT.dF]
  | some i=>
    simp only [sliceBounds,HT.dF,Option.getD_none,show (1:Int) > 0 by decide,if_true]
    by_cases h:i<0
    ·simp only [h,if_true] <;> omega
    ·simp only [h,if_false] <;> omega
 ·cases hi with
  |none=>simp [sliceBounds,HT.dF]
  | some i=>
    simp only [sliceBounds,HT.dF,Option.getD_none,show (1:Int) > 0 by decide,if_true]
    by_cases h:i<0
    ·simp only [h,if_true] <;> omega
    ·simp only [h,if_false] <;> omega
theorem nZ (its:List Value) (lo hi:Option Int):slicePick its.toArray lo hi none=((its.drop (HT.dF its.length 0 lo)).take (HT.dF its.length its.length hi-HT.dF its.length 0 lo)).toArray:=by
 obtain ⟨h1,h2,h3⟩:=qi lo hi its.toArray.size
 unfold slicePick
 rw [h1,h2,h3]
 simp only [sliceRange_one,pick_run,List.size_toArray] <;> rfl
def Ql (K:PySem.W.Frag):V->Option Int->Option Int->Hp->VK->Prop:=fun x lo hi H Q=>∃ a xs,x=.ref a/\bM K H a xs/\∀ p,H p=none->Q (.ref p) (upd H p (.lst (iM xs lo hi)))
theorem vH:Jo X (Ql X.K):=by
 intro Z s U H x v vl vu lo hi sl Q I rx hs pl pu h
 obtain ⟨a,xs,rfl,hx,q⟩:=h
 cases rx
 obtain ⟨its,r,ht,hz⟩:=I.list hx
 have hlen:=r.length
 refine ⟨"list",_,slot_list_getitem.lookup,ht.isList.typeIs,?_⟩
 refine wpAny_getItem_list_slice ht.isList hs pl pu .none (by simp) ?_ (by rw [List.size_toArray] <;> omega)
 rw [nZ,← hlen]
 refine ⟨.ref s.heap.objs.size,_,I.laid (t':=s.toks) (o:=.lst (iM xs lo hi)) (fun b ob q=>Heap.get?_push_of_some _ q) (Nat.le_refl _) ?_,rfl,q _ (I.hok.fresh (Nat.le_refl _))⟩
 exact ⟨Nat.le_trans (lG xs lo hi) hz,_,0,(r.drop (HT.dF xs.length 0 lo)).take (HT.dF xs.length xs.length hi-HT.dF xs.length 0 lo),Heap.get?_push_size _ rfl⟩
def jR:V->Bool
 |.non=>true
 |.bl _=>true
 |.int _=>true
 |.str _=>true
 |_=>false
def tD:V->V->Bool
 |.non,.non=>true
 |.bl a,.bl b=>a == b
 |.bl a,.int b=>(if a then 1 else 0) == b
 |.int a,.bl b=>a == (if b then 1 else 0)
 |.int a,.int b=>a == b
 |.str a,.str b=>a == b
 |_,_=>false
theorem Fo {A:Around} {s:Shared} {y x:V} {u v:Value} (ry:RelV y u) (rx:RelV x v) (fy:jR y=true) (fx:jR x=true):SeqAt.EqAt A s u v (tD y x):=by
 cases y with
 | non=>
   cases ry
   cases x with
   |non=>cases rx;exact SeqAt.EqAt.same _
   |bl b=>cases rx;exact SeqAt.EqAt.none_bool b
   |int b=>obtain ⟨t,rfl⟩:=rx;exact SeqAt.EqAt.none_int b t
   |str b=>obtain ⟨t,rfl⟩:=rx;exact SeqAt.EqAt.none_str b t
   |_=>exact absurd (show false=true from fx) Bool.false_ne_true
 | bl a=>
   cases ry
   cases x with
   |non=>cases rx;exact SeqAt.EqAt.bool_none a
   |bl b=>cases rx;exact SeqAt.EqAt.bool_bool a b
   |int b=>obtain ⟨t,rfl⟩:=rx;exact SeqAt.EqAt.bool_int a b t
   |str b=>obtain ⟨t,rfl⟩:=rx;exact SeqAt.EqAt.bool_str a b t
   |_=>exact absurd (show false=true from fx) Bool.false_ne_true
 | int a=>
   obtain ⟨t',rfl⟩:=ry
   cases x with
   |non=>cases rx;exact SeqAt.EqAt.int_none a t'
   |bl b=>cases rx;exact SeqAt.EqAt.int_bool a t' b
   |int b=>obtain ⟨t,rfl⟩:=rx;exact SeqAt.EqAt.int_int a t' b t
   |str b=>obtain ⟨t,rfl⟩:=rx;exact SeqAt.EqAt.int_str a t' b t
   |_=>exact absurd (show false=true from fx) Bool.false_ne_true
 | str a=>
   obtain ⟨t',rfl⟩:=ry
   cases x with
   |non=>cases rx;exact SeqAt.EqAt.str_none a t'
   |bl b=>cases rx;exact SeqAt.EqAt.str_bool a t' b
   |int b=>obtain ⟨t,rfl⟩:=rx;exact SeqAt.EqAt.str_int a t' b t
   |str b=>obtain ⟨t,rfl⟩:=rx;exact SeqAt.EqAt.str_str a t' b t
   |_=>exact absurd (show false=true from fx) Bool.false_ne_true
 |_=>exact absurd (show false=true from fy) Bool.false_ne_true
def uf (x:V) (u:Value):Bool:=match u with
 |.none=>tD .non x
 |.bool b=>tD (.bl b) x
 |.int i _=>tD (.int i) x
 |.str z _=>tD (.str z) x
 |_=>false
theorem yg {x y:V} {u:Value} (r:RelV y u) (f:jR y=true):uf x u=tD y x:=by
 cases y with
 |non=>cases r;rfl
 |bl b=>cases r;rfl
 |int i=>obtain ⟨t,rfl⟩:=r;rfl
 |str z=>obtain ⟨t,rfl⟩:=r;rfl
 |_=>exact absurd (show false=true from f) Bool.false_ne_true
theorem jY {x:V}:∀ {xs:List V} {us:List Value},Vals xs us->xs.all jR=true->us.any (uf x)=xs.any fun y=>tD y x
 |_,_,.nil,_=>rfl
 | y::xs,u::us,.cons r t,f=>by
   rw [List.all_cons,Bool.and_eq_true] at f
   rw [List.any_cons,List.any_cons,yg r f.1,jY t f.2]
theorem j9 {A:Around} {s:Shared} {x:V} {v:Value} (rx:RelV x v) (fx:jR x=true):∀ {xs:List V} {us:List Value},Vals xs us->xs.all jR=true->∀ u∈us,SeqAt.EqAt A s u v (uf x u)
 |_,_,.nil,_=>fun u hu=>by cases hu
 | y::xs,u::us,.cons r t,f=>fun u' hu=>by
   rw [List.all_cons,Bool.and_eq_true] at f
   rcases List.mem_cons.mp hu with rfl|hu
   ·rw [yg r f.1];exact Fo r rx f.1 fx
   ·exact j9 rx fx t f.2 u' hu
def inV (x:V) (xs:List V):Bool:=xs.any fun y=>tD y x
def U9 (K:PySem.W.Frag) (neg:Bool):R2:=fun x y H Q=>∃ p xs,y=.ref p/\(bM K H p xs∨b_ K H p xs)/\jR x=true/\xs.all jR=true/\Q (.bl (if neg then !inV x xs else inV x xs)) H
theorem fK:iI X (compareOp .In) (U9 X.K false):=by
 intro Z s U H x y v u Q I rx ry h
 obtain ⟨p,xs,rfl,hq,fx,fs,q⟩:=h
 cases ry
 rcases hq with hq|hq
 ·obtain ⟨its,r,pl,hz⟩:=I.list hq
  refine SeqAt.in_listAt (uf x) pl.isList (fun w hw=>j9 rx fx r fs w (by simpa using hw)) ⟨.bl _,H,I,rfl,?_⟩
  rw [show its.toArray.any (uf x)=its.any (uf x) by simp,jY r fs]
  exact q
 ·obtain ⟨its,r,pl,hz⟩:=I.tuple hq
  refine SeqAt.in_tupleAt (uf x) pl (fun w hw=>j9 rx fx r fs w (by simpa using hw)) ⟨.bl _,H,I,rfl,?_⟩
  rw [show its.toArray.any (uf x)=its.any (uf x) by simp,jY r fs]
  exact q
theorem iC:iI X (compareOp .NotIn) (U9 X.K true):=by
 intro Z s U H x y v u Q I rx ry h
 obtain ⟨p,xs,rfl,hq,fx,fs,q⟩:=h
 cases ry
 rcases hq with hq|hq
 ·obtain ⟨its,r,pl,hz⟩:=I.list hq
  refine SeqAt.notIn_listAt (uf x) pl.isList (fun w hw=>j9 rx fx r fs w (by simpa using hw)) ⟨.bl _,H,I,rfl,?_⟩
  rw [show its.toArray.any (uf x)=its.any (uf x) by simp,jY r fs]
  exact q
 ·obtain ⟨its,r,pl,hz⟩:=I.tuple hq
  refine SeqAt.notIn_tupleAt (uf x) pl (fun w hw=>j9 rx fx r fs w (by simpa using hw)) ⟨.bl _,H,I,rfl,?_⟩
  rw [show its.toArray.any (uf x)=its.any (uf x) by simp,jY r fs]
  exact q
theorem a_:eX X (.builtin "len") (fun xs H Q=>∃ p ys,xs=[.ref p]/\(bM X.K H p ys∨b_ X.K H p ys)/\Q (.int ys.length) H):=by
 intro Z s U H xs us Q I r h
 obtain ⟨p,ys,rfl,hq,q⟩:=h
 obtain ⟨u,rfl,rx⟩:=vals1 r
 cases rx
 have hn:=n6
 rcases hq with hq|hq
 ·obtain ⟨its,r',pl,hz⟩:=I.list hq
  have hlen:=r'.length
  exact Calls.call_len_list pl.isList (by simp only [List.size_toArray] <;> omega) ⟨.int ys.length,H,I.tok _,⟨s.toks+1,by rw [List.size_toArray,hlen]⟩,q⟩
 ·obtain ⟨its,r',pl,hz⟩:=I.tuple hq
  have hlen:=r'.length
  exact len_tuple pl (by simp only [List.size_toArray] <;> omega) ⟨.int ys.length,H,I.tok _,⟨s.toks+1,by rw [List.size_toArray,hlen]⟩,q⟩
theorem iG:eX X (.builtin "len") (fun xs H Q=>∃ z,xs=[.str z]/\z.length≤sizeLine/\Q (.int z.length) H):=by
 intro Z s U H xs us Q I r h
 obtain ⟨z,rfl,hz,q⟩:=h
 obtain ⟨u,rfl,t,rfl⟩:=vals1 r
 have hn:=n6
 exact len_str (by omega) ⟨.int z.length,H,I.tok _,⟨_,rfl⟩,q⟩
theorem ql:eX X (.type "list") (fun xs H Q=>∃ p ys,xs=[.ref p]/\(bM X.K H p ys∨b_ X.K H p ys)/\∀ l,H l=none->Q (.ref l) (upd H l (.lst ys))):=by
 intro Z s U H xs us Q I r h
 obtain ⟨p,ys,rfl,hq,q⟩:=h
 obtain ⟨u,rfl,rx⟩:=vals1 r
 cases rx
 have fin:∀ (its:List Value),Vals ys its->ys.length≤sizeLine->∀ (h':Heap) (c':Nat),(∀ b o',s.heap.get? b=some o'->h'.get? b=some o')->
  h'.get? s.heap.objs.size=some { cls:=.type "list",dict:=none,data:=.seq its.toArray c',slots:=#[] }->EP X Z U Q (.ref s.heap.objs.size) { s with heap:=h' }:=fun its r' hz h' c' kp e=>
  ⟨.ref s.heap.objs.size,_,I.laid (t':=s.toks) kp (Nat.le_refl _) (show cG X.prog X.w _ h' _ (.lst ys) from ⟨hz,its,c',r',e⟩),rfl,q _ (I.hok.fresh (Nat.le_refl _))⟩
 rcases hq with hq|hq
 ·obtain ⟨its,r',pl,hz⟩:=I.list hq
  have hlen:=r'.length
  obtain ⟨o,ho,hc,n,hd⟩:=pl.isList
  exact call_list_seq p (.inl rfl) ho hc hd (fun h' c' kp e=>fin its r' hz h' c' kp e) (by simp only [List.size_toArray] <;> omega)
 ·obtain ⟨its,r',pl,hz⟩:=I.tuple hq
  have hlen:=r'.length
  obtain ⟨o,ho,hc,n,hd⟩:=pl
  exact call_list_seq p (.inr rfl) ho hc hd (fun h' c' kp e=>fin its r' hz h' c' kp e) (by simp only [List.size_toArray] <;> omega)
theorem gF:eX X (.type "tuple") (fun xs H Q=>∃ p ys,xs=[.ref p]/\((bM X.K H p ys/\∀ l,H l=none->Q (.ref l) (upd H l (.tup ys)))∨(b_ X.K H p ys/\Q (.ref p) H))):=by
 intro Z s U H xs us Q I r h
 obtain ⟨p,ys,rfl,h⟩:=h
 obtain ⟨u,rfl,rx⟩:=vals1 r
 cases rx
 rcases h with ⟨hq,q⟩|⟨hq,q⟩
 ·obtain ⟨its,r',pl,hz⟩:=I.list hq
  have hlen:=r'.length
  refine call_tuple_list pl.isList (fun h' kp=>?_) (by simp only [List.size_toArray] <;> omega)
  have I1:Inv X Z U H { s with heap:=h' }:=I.kept (t':=s.toks) kp
  have I2:Inv X Z U (upd H h'.objs.size (.tup ys)) { s with heap:=h'.push { cls:=.type "tuple",data:=.seq its.toArray } }:=
   I1.laid (t':=s.toks) (fun b o e=>Heap.get?_push_of_some _ e) (Nat.le_refl _) (show cG X.prog X.w _ _ _ (.tup ys) from ⟨hz,its,r',IsTup.new _ _⟩)
  exact ⟨.ref h'.objs.size,_,I2,rfl,q _ (I1.hok.fresh (Nat.le_refl _))⟩
 ·obtain ⟨its,r',pl,hz⟩:=I.tuple hq
  exact call_tuple_same pl ⟨.ref p,H,I,rfl,q⟩
def Ti (K:PySem.W.Frag) (T:String) (x:V) (H:Hp):Prop:=match x with
 |.str _=>T = "str"
 |.int _=>T = "int"
 |.ref p=>(T = "list"/\∃ xs,bM K H p xs)∨(T = "tuple"/\∃ o,K.lookup p=some o/\o.cls=.type "tuple"/\o.dict=none)∨
  (T = "dict"/\((∃ kvs,H p=some (.dK kvs))∨∃ kvs,H p=some (.dT kvs)))∨(T = "set"/\∃ S n,H p=some (.set S n))
 |_=>False
theorem yh {Z:List (Addr×Obj)} {U:St} {H:Hp} {s:Shared} {T:String} {x:V} {v:Value} (I:Inv X Z U H s) (r:RelV x v) (ty:Ti X.K T x H) :
 s.TypeIs v T/\∀ a,v=.ref a->∃ ob,s.heap.get? a=some ob/\ob.dict=none:=by
 cases x with
 | str z=>
   obtain ⟨t,rfl⟩:=r
   cases (show T = "str" from ty)
   exact ⟨typeIs_str s z t,fun _ e=>nomatch e⟩
 | int i=>
   obtain ⟨t,rfl⟩:=r
   cases (show T = "int" from ty)
   exact ⟨typeIs_int s i t,fun _ e=>nomatch e⟩
 | ref p=>
   cases r
   rcases ty with ⟨rfl,xs,hq⟩|⟨rfl,o,hk,hc,hd⟩|⟨rfl,hk⟩|⟨rfl,S,n,hk⟩
   ·obtain ⟨its,_,pl,_⟩:=I.list hq
    refine ⟨pl.isList.typeIs,fun a e=>?_⟩
    cases e
    obtain ⟨o,n,e,c,hd,_⟩:=pl
    exact ⟨o,e,hd⟩
   ·refine ⟨⟨o,I.kIn p o hk,hc⟩,fun a e=>?_⟩
    cases e
    exact ⟨o,I.kIn _ o hk,hd⟩
   ·have z:∃ o,s.heap.get? p=some o/\o.ExactDict:=by
     rcases hk with ⟨kvs,hk⟩|⟨kvs,hk⟩
     ·obtain ⟨_,_,_,_,o,_,_,e,ex,_⟩:=I.hok p _ hk
      exact ⟨o,e,ex⟩
     ·obtain ⟨_,_,_,_,o,_,_,e,ex,_⟩:=I.hok p _ hk
      exact ⟨o,e,ex⟩
    obtain ⟨o,e,ex⟩:=z
    refine ⟨⟨o,e,ex.1⟩,fun a e2=>?_⟩
    cases e2
    exact ⟨o,e,ex.2.1⟩
   ·obtain ⟨o,_,_,_,e,ex,_⟩:=I.hok p _ hk
    refine ⟨⟨o,e,ex.1⟩,fun a e2=>?_⟩
    cases e2
    exact ⟨o,e,ex.2.1⟩
 |_=>exact False.elim ty
def SQ (K:PySem.W.Frag) (T:String) (r:V->List V->Hp->VK->Prop) (to:TE):TE:=fun U H Q=>to U H fun x H1=>Ti K T x H1/\r x [] H1 Q
def UW (K:PySem.W.Frag) (T:String) (r:V->List V->Hp->VK->Prop) (to:TE) (t:TA):TE:=fun U H Q=>to U H fun x H1=>Ti K T x H1/\t U H1 fun xs H2=>r x xs H2 Q
variable {o e:Expr} {es:List Expr} {to:TE} {t:TA} {name:Str} {apos cpos:Pos} {T id:String} {r:V->List V->Hp->VK->Prop}
theorem uv (pa:PlainAttrs T) (slot:Slot T name id) (hty:typeOf (.builtin id)=pure (.type "method_descriptor")) (hm:Hr X id r) (ho:PE X o to)
 (hbase:attributeBase o name X.env (eval o X.env)=eval o X.env:=by rfl) (hline:(apos.endLine == cpos.line)=true:=by rfl):PE X (.Call (.Attribute o name apos) [] [] cpos) (SQ X.K T r to):=by
 intro Z s U H Q I h
 refine wpAny_Call_method0_late hbase hline (cz (ho Z s U H _ I h) fun v s1 ⟨x,H1,I1,r1,ty,q1⟩=>?_)
 obtain ⟨h1,h2⟩:=yh I1 r1 ty
 exact ⟨T,id,pa,slot,hty,h1,h2,Calls.callWith_builtin rfl (PySem.evalArgs_none (hm Z s1 U H1 x [] v [] Q I1 r1 .nil q1))⟩
theorem lM (pa:PlainAttrs T) (slot:Slot T name id) (hty:typeOf (.builtin id)=pure (.type "method_descriptor")) (hm:Hr X id r) (ho:PE X o to) (ha:PA X (e::es) t)
 (hbase:attributeBase o name X.env (eval o X.env)=eval o X.env:=by rfl)
 (hfew:((backTo cpos (starEach (e::es) X.env)).all (fun x=>!x.1) && (backToKw cpos (keywordEach [] X.env)).all (fun x=>x.1.isSome)
  && decide ((e::es).length+([]:List Keyword).length+(if ([]:List Keyword).isEmpty then 0 else 1)<30))=true:=by rfl)
 (hline:(apos.endLine == cpos.line)=true:=by rfl) (hs:starEach (e::es) X.env=(false,eval e X.env)::starEach es X.env:=by rfl) (hplain:(backTo cpos (starEach es X.env)).any (·.1)=false:=by rfl) :
 PE X (.Call (.Attribute o name apos) (e::es) [] cpos) (UW X.K T r to t):=by
 intro Z s U H Q I h
 refine wpAny_Call_method_late hbase hfew hline rfl (cz (ho Z s U H _ I h) fun v s1 ⟨x,H1,I1,r1,ty,q1⟩=>?_)
 obtain ⟨h1,h2⟩:=yh I1 r1 ty
 refine ⟨T,id,pa,slot,hty,h1,h2,?_⟩
 have hA:=ha cpos Z s1 U H1 _ I1 q1
 rw [hs] at hA ⊢
 refine Calls.callWith_builtin (by show (false || (backTo cpos (starEach es X.env)).any (·.1))=false;rw [hplain] <;> rfl) (Calls.evalArgs_plain ?_)
 exact cz hA fun us s2 ⟨vs,H2,I2,r2,q2⟩=>hm Z s2 U H2 x vs v us Q I2 r1 r2 q2
end
def TV (X:Cx) (id:String) (r:V->List V->Hp->VK->Prop):Prop:=
 ∀ (Z:List (Addr×Obj)) (s:Shared) (U:St) (H:Hp) (x:V) (xs:List V) (v:Value) (us:List Value) (Q:VK),Inv X Z U H s->RelV x v->Vals xs us->r x xs H Q->
   wpAny (model X.prog X.w) X.A (call (.builtin id) (v::us)) (EP X Z U Q) X.xe s
theorem Vals.one:∀ {x:V} {us:List Value},Vals [x] us->∃ u,us=[u]/\RelV x u
 |_,_,.cons r .nil=>⟨_,rfl,r⟩
section
variable {X:Cx} {Z:List (Addr×Obj)} {U:St} {H:Hp} {s:Shared} {l b:Addr} {xs ys zs:List V}
theorem Inv.lset {its its':List Value} {n:Nat} {f:Array Value->Array Value} {t':Nat} (I:Inv X Z U H s) (hH:H l=some (.lst xs))
 (e:s.heap.get? l=some { cls:=.type "list",data:=.seq its.toArray n }) (hf:f its.toArray=its'.toArray) (hv:Vals ys its') (hz:ys.length≤sizeLine) :
 Inv X Z U (upd H l (.lst ys)) { s with heap:=s.heap.update l (Obj.mapSeq f),toks:=t' }:=by
 have q:=PySem.IsL.update e f
 rw [hf] at q
 refine I.write (x:=l) (e:=l) (by rw [hH];exact trivial) (.inl rfl) (fun b' u hb hu=>(Heap.get?_update_other s.heap (Obj.mapSeq f) (Ne.symm hb)).trans hu) ⟨_,q⟩ ?_
 exact ⟨hz,its',_,hv,q⟩
theorem Inv.lnew {its:List Value} {t':Nat} (I:Inv X Z U H s) (hv:Vals ys its) (hz:ys.length≤sizeLine) :
 Inv X Z U (upd H s.heap.objs.size (.lst ys)) { s with heap:=s.heap.push { cls:=.type "list",data:=.seq its.toArray },toks:=t' }:=
 I.laid (fun _ _ q=>Heap.get?_push_of_some _ q) (Nat.le_refl _) ⟨hz,its,0,hv,Heap.get?_push_size _ rfl⟩
theorem Inv.fresh (I:Inv X Z U H s):H s.heap.objs.size=none:=I.hok.fresh (Nat.le_refl _)
theorem Inv.lstM (I:Inv X Z U H s) (hH:H l=some (.lst xs)):xs.length≤sizeLine/\∃ (its:List Value) (n:Nat),Vals xs its/\xs.length=its.length/\s.heap.get? l=some { cls:=.type "list",data:=.seq its.toArray n }:=by
 obtain ⟨z,its,n,r,e⟩:=I.hok l _ hH
 exact ⟨z,its,n,r,r.length,e⟩
theorem yt {n:Nat} (h:n≤sizeLine):Builtin.List.listTooLong n=false:=by
 unfold Builtin.List.listTooLong
 exact decide_eq_false (by omega)
end
section
variable {X:Cx}
def Aj:V->List V->Hp->VK->Prop:=fun x vs H Q=>∃ l xs y,x=.ref l/\vs=[y]/\H l=some (.lst xs)/\xs.length<sizeLine/\Q .non (upd H l (.lst (xs++[y])))
theorem gY:TV X "list.append" Aj:=by
 intro Z s U H x vs v us Q I rx rv h
 obtain ⟨l,xs,y,rfl,rfl,hH,hz,q⟩:=h
 cases rx
 obtain ⟨u,rfl,ru⟩:=rv.one
 obtain ⟨z,its,n,r,hl,e⟩:=I.lstM hH
 refine call_meets F.slot_list_append ⟨_,e,rfl⟩ F.entry_list_append (F.args_list_append_2 _ _) (PySem.list_append l its.toArray n u (by rw [List.size_toArray];omega)) ⟨e,?_⟩
 refine ⟨.non,_,I.lset (its':=its++[u]) hH e (by simp) (r.append (.cons ru .nil)) ?_,rfl,q⟩
 rw [List.length_append,List.length_singleton]
 omega
def Bj:V->List V->Hp->VK->Prop:=fun x vs H Q=>∃ l b xs zs,x=.ref l/\vs=[.ref b]/\H l=some (.lst xs)/\H b=some (.lst zs)/\xs.length+zs.length≤sizeLine/\Q .non (upd H l (.lst (xs++zs)))
theorem pF:TV X "list.extend" Bj:=by
 intro Z s U H x vs v us Q I rx rv h
 obtain ⟨l,b,xs,zs,rfl,rfl,hH,hB,hz,q⟩:=h
 cases rx
 obtain ⟨u,rfl,ru⟩:=rv.one
 cases ru
 obtain ⟨z,its,n,r,hl,e⟩:=I.lstM hH
 obtain ⟨z2,its2,n2,r2,hl2,e2⟩:=I.lstM hB
 have hsz:its.toArray.size+its2.toArray.size≤sizeLine:=by rw [List.size_toArray,List.size_toArray];omega
 have hlong:¬ (!its.toArray.isEmpty && Builtin.List.listTooLong (its.toArray.size+its2.toArray.size))=true:=by
  rw [yt hsz,Bool.and_false]
  exact Bool.false_ne_true
 refine call_meets F.slot_list_extend ⟨_,e,rfl⟩ F.entry_list_extend (F.args_list_extend_2 _ _)
  (AutoSeq1.list_extend_list_list_0 l its.toArray n b its2.toArray n2 hlong (by rw [List.size_toArray];omega) (by omega)) ⟨e,e2,?_⟩
 refine ⟨.non,_,I.lset (its':=its++its2) hH e (by simp) (r.append r2) ?_,rfl,q⟩
 rw [List.length_append]
 omega
def Sx:R2:=fun x y H Q=>∃ l b xs zs,x=.ref l/\y=.ref b/\H l=some (.lst xs)/\H b=some (.lst zs)/\xs.length+zs.length≤sizeLine/\∀ p,H p=none->Q (.ref p) (upd H p (.lst (xs++zs)))
theorem yc:iI X (binaryOp .Add) Sx:=by
 intro Z s U H x y v u Q I rx ry h
 obtain ⟨l,b,xs,zs,rfl,rfl,hH,hB,hz,q⟩:=h
 cases rx
 cases ry
 obtain ⟨z,its,n,r,hl,e⟩:=I.lstM hH
 obtain ⟨z2,its2,n2,r2,hl2,e2⟩:=I.lstM hB
 refine PySem.P.add_list e e2 ?_ (by rw [List.size_toArray,List.size_toArray];omega)
 have ea:its.toArray++its2.toArray=(its++its2).toArray:=by simp
 rw [ea]
 exact ⟨.ref _,_,I.lnew (t':=s.toks) (r.append r2) (by rw [List.length_append];omega),rfl,q _ I.fresh⟩
end
section
variable {prog:Program} {w:World} {A:Around} {E:Value->Shared->Prop} {s:Shared}
end
section
variable {X:Cx}
end
section
variable {κ:Type} [DecidableEq κ]
def nM (kvs:List (κ×V)) (k:κ):Option V:=(kvs.find? fun kv=>decide (kv.1=k)).map (·.2)
def putK (kvs:List (κ×V)) (k:κ) (v:V):List (κ×V):=
 if (kvs.any fun kv=>decide (kv.1=k))=true then kvs.map (fun kv=>if kv.1=k then (kv.1,v) else kv) else kvs++[(k,v)]
theorem mC {p:κ×V} {r:List (κ×V)} {k:κ} (e:p.1=k):nM (p::r) k=some p.2:=by simp [nM,List.find?_cons,e]
theorem mJ {p:κ×V} {r:List (κ×V)} {k:κ} (e:¬ p.1=k):nM (p::r) k=nM r k:=by simp [nM,List.find?_cons,e]
theorem rN (k:κ):∀ kvs:List (κ×V),(kvs.any fun kv=>decide (kv.1=k))=(nM kvs k).isSome
 |[]=>rfl
 | p::r=>by
   rw [List.any_cons]
   by_cases e:p.1=k
   ·simp only [mC e,decide_eq_true e,Bool.true_or,Option.isSome_some]
   ·rw [mJ e,decide_eq_false e,Bool.false_or];exact rN k r
theorem iW (kvs:List (κ×V)) (k:κ) (v:V):(putK kvs k v).length≤kvs.length+1:=by
 unfold putK
 split
 ·rw [List.length_map];omega
 ·rw [List.length_append,List.length_cons,List.length_nil];omega
theorem ii.isSome_eq {o:Option V} {u:Option Value} (r:ii o u):o.isSome=u.isSome:=by
 cases o with
 | none=>cases u with
   |none=>rfl
   |some _=>exact (show False from r).elim
 | some _=>cases u with
   |none=>exact (show False from r).elim
   |some _=>rfl
theorem KV.val {kvs:List (κ×V)} {vs:List (κ×Value)} (r:KV kvs vs) (k:κ):ii (nM kvs k) (valueAt vs k):=by
 unfold KV at r
 induction r with
 |nil=>exact True.intro
 | @cons p q ps qs h t ih=>
   obtain ⟨h1,h2⟩:=h
   by_cases e:p.1=k
   ·have e':q.1=k:=h1.symm.trans e
    have b:valueAt (q::qs) k=some q.2:=by simp [valueAt,List.find?_cons,e']
    rw [mC e,b];exact h2
   ·have e':¬ q.1=k:=fun z=>e (h1.trans z)
    have b:valueAt (q::qs) k=valueAt qs k:=by simp [valueAt,List.find?_cons,e']
    rw [mJ e,b];exact ih
theorem KV.any {kvs:List (κ×V)} {vs:List (κ×Value)} (r:KV kvs vs) (k:κ):(kvs.any fun kv=>decide (kv.1=k))=vs.any fun kv=>decide (kv.1=k):=by
 unfold KV at r
 induction r with
 |nil=>rfl
 |cons h t ih=>rw [List.any_cons,List.any_cons,ih,h.1]
theorem KV.repl {kvs:List (κ×V)} {vs:List (κ×Value)} (r:KV kvs vs) (k:κ) {y:V} {u:Value} (ry:RelV y u) :
 KV (kvs.map fun kv=>if kv.1=k then (kv.1,y) else kv) (vs.map fun kv=>if kv.1=k then (kv.1,u) else kv):=by
 unfold KV at r ⊢
 induction r with
 |nil=>exact .nil
 | @cons p q ps qs h t ih=>
   rw [List.map_cons,List.map_cons]
   refine .cons ?_ ih
   obtain ⟨h1,h2⟩:=h
   by_cases e:p.1=k
   ·rw [if_pos e,if_pos (h1.symm.trans e)];exact ⟨h1,ry⟩
   ·rw [if_neg e,if_neg (fun z=>e (h1.trans z))];exact ⟨h1,h2⟩
theorem KV.put {kvs:List (κ×V)} {vs:List (κ×Value)} (r:KV kvs vs) (k:κ) {y:V} {u:Value} (ry:RelV y u):KV (putK kvs k y) (stored vs k u):=by
 unfold putK stored
 rw [r.any k]
 by_cases e:(vs.any fun kv=>decide (kv.1=k))=true
 ·rw [if_pos e,if_pos e];exact r.repl k ry
 ·rw [if_neg e,if_neg e];exact Paired.snoc r ⟨rfl,ry⟩
theorem KV.length {kvs:List (κ×V)} {vs:List (κ×Value)} (r:KV kvs vs):kvs.length=vs.length:=Paired.length r
end
theorem vB {P:Program} {w:World} {k:Key} {u:Value} (r:RelV (kV k) u):(dg P w).is k u=true:=by
 cases k with
 |inl i=>obtain ⟨t,e⟩:=(show ∃ t,u=Value.int i t from r);subst e;exact rW P w i t
 |inr x=>obtain ⟨t,e⟩:=(show ∃ t,u=Value.str x t from r);subst e;exact rD P w x t
theorem pD {P:Program} {w:World}:∀ {ks:List Key} {us:List Value},Vals (ks.map kV) us->ItemsAre (dg P w) ks us
 |[],_,r=>by rw [List.map_nil] at r;cases r;exact .nil
 | k::ks,_,r=>by
   rw [List.map_cons] at r
   cases r with
   |cons h t=>exact .cons (vB h) (pD t)
abbrev KT (H:Hp):List (List Key×V)->List (List Key×Addr×Value)->Prop:=Paired fun p q=>p.1=q.1/\H q.2.1=some (.tup (p.1.map kV))/\RelV p.2 q.2.2
theorem KT.val {H:Hp} {kvs:List (List Key×V)} {xs:List (List Key×Addr×Value)} (r:KT H kvs xs) (k:List Key):ii (nM kvs k) ((atKey xs k).map (·.2)):=by
 induction r with
 |nil=>exact True.intro
 | @cons p q ps qs h t ih=>
   obtain ⟨h1,_,h2⟩:=h
   by_cases e:p.1=k
   ·have e':q.1=k:=h1.symm.trans e
    have b:atKey (q::qs) k=some q.2:=by simp [atKey,List.find?_cons,e']
    rw [mC e,b];exact h2
   ·have e':¬ q.1=k:=fun z=>e (h1.trans z)
    have b:atKey (q::qs) k=atKey qs k:=by simp [atKey,List.find?_cons,e']
    rw [mJ e,b];exact ih
theorem KT.repl {H:Hp} {kvs:List (List Key×V)} {xs:List (List Key×Addr×Value)} (r:KT H kvs xs) (k:List Key) {y:V} {u:Value} (ry:RelV y u) :
 KT H (kvs.map fun kv=>if kv.1=k then (kv.1,y) else kv) (xs.map (putAt k u)):=by
 induction r with
 |nil=>exact .nil
 | @cons p q ps qs h t ih=>
   rw [List.map_cons,List.map_cons]
   refine .cons ?_ ih
   obtain ⟨h1,h2,h3⟩:=h
   unfold putAt
   by_cases e:p.1=k
   ·rw [if_pos e,if_pos (h1.symm.trans e)];exact ⟨h1,h2,ry⟩
   ·rw [if_neg e,if_neg (fun z=>e (h1.trans z))];exact ⟨h1,h2,h3⟩
theorem KT.put {H:Hp} {kvs:List (List Key×V)} {xs:List (List Key×Addr×Value)} (r:KT H kvs xs) (k:List Key) {b:Addr} {y:V} {u:Value} (hb:H b=some (.tup (k.map kV))) (ry:RelV y u) :
 KT H (putK kvs k y) (storedH xs k b u):=by
 have e:(kvs.any fun kv=>decide (kv.1=k))=(atKey xs k).isSome:=by
  rw [rN,(r.val k).isSome_eq,Option.isSome_map]
 unfold putK storedH
 rw [e]
 by_cases q:(atKey xs k).isSome=true
 ·rw [if_pos q,if_pos q];exact r.repl k ry
 ·rw [if_neg q,if_neg q];exact Paired.snoc r ⟨rfl,hb,ry⟩
theorem KT.keeps {H H':Hp} {kvs:List (List Key×V)} {xs:List (List Key×Addr×Value)} (r:KT H kvs xs) (ht:∀ b ys,H b=some (.tup ys)->H' b=some (.tup ys)):KT H' kvs xs:=
 Paired.mapP r fun _ _ z=>⟨z.1,ht _ _ z.2.1,z.2.2⟩
section
variable {P:Program} {w:World} {H:Hp} {h:Heap} {a:Addr}
theorem Ca {u:HO} (ok:iR P w H h) (e:Rd H a u):cG P w H h a u:=e.ok ok
theorem xR {kvs:List (Key×V)} (ok:iR P w H h) (e:Rd H a (.dK kvs)):kvs.length≤sizeLine/\(a == sysModules)=false/\∃ vs,KV kvs vs/\h.DictOf (dg P w) a vs:=
 show cG P w H h a (.dK kvs) from Ca ok e
theorem BX {kvs:List (Key×V)} (ok:iR P w H h) (e:H a=some (.dK kvs)):kvs.length≤sizeLine/\(a == sysModules)=false/\∃ vs,KV kvs vs/\h.DictOf (dg P w) a vs:=xR ok (.inl e)
theorem uA {ks:List Key} (ok:iR P w H h) (e:H a=some (.tup (ks.map kV))):(tupleKind (dg P w)).is h ks a:=by
 obtain ⟨_,its,r,o,h1,h2,n,h3⟩:=(show cG P w H h a (.tup (ks.map kV)) from ok a _ e)
 exact ⟨o,its.toArray,n,h1,h2,h3,by simpa using pD r⟩
theorem zR {kvs:List (List Key×V)} (ok:iR P w H h) (e:Rd H a (.dT kvs)):kvs.length≤sizeLine/\(a == sysModules)=false/\
 ∃ xs,KT H kvs xs/\h.DictOfH (tupleKind (dg P w)) a xs:=by
 obtain ⟨z,y,xs,r,o,es,ep,h1,h2,h3,h4,h5⟩:=(show cG P w H h a (.dT kvs) from Ca ok e)
 refine ⟨z,y,xs,r,o,es,ep,h1,h2,h3,h4,fun x hx=>?_,h5⟩
 have all:∀ {l:List (List Key×V)} {m:List (List Key×Addr×Value)},KT H l m->∀ x∈m,(tupleKind (dg P w)).is h x.1 x.2.1:=by
  intro l m q
  induction q with
  |nil=>intro x hx;exact nomatch hx
  | @cons p q ps qs hq t ih=>
    intro x hx
    rcases List.mem_cons.mp hx with e|hx
    ·subst e
     exact uA ok (by rw [← hq.1];exact hq.2.1)
    ·exact ih x hx
 exact all r x hx
theorem KR {kvs:List (List Key×V)} (ok:iR P w H h) (e:H a=some (.dT kvs)):kvs.length≤sizeLine/\(a == sysModules)=false/\
 ∃ xs,KT H kvs xs/\h.DictOfH (tupleKind (dg P w)) a xs:=zR ok (.inl e)
end
def kI (H:Hp) (a:Addr) (y:V) (r:Option V):Prop:=
 (∃ kvs k,Rd H a (.dK kvs)/\y=kV k/\r=nM kvs k)∨∃ kvs k b,Rd H a (.dT kvs)/\y=.ref b/\H b=some (.tup (k.map kV))/\r=nM kvs k
def qH (H:Hp) (a:Addr) (y v:V) (H':Hp):Prop:=
 (∃ kvs k,H a=some (.dK kvs)/\y=kV k/\kvs.length<sizeLine/\H'=upd H a (.dK (putK kvs k v)))∨
 ∃ kvs k b,H a=some (.dT kvs)/\y=.ref b/\H b=some (.tup (k.map kV))/\kvs.length<sizeLine/\H'=upd H a (.dT (putK kvs k v))
theorem kI.k {H:Hp} {a:Addr} {kvs:List (Key×V)} {k:Key} (e:H a=some (.dK kvs)):kI H a (kV k) (nM kvs k):=.inl ⟨kvs,k,.inl e,rfl,rfl⟩
theorem qH.k {H:Hp} {a:Addr} {kvs:List (Key×V)} {k:Key} {v:V} (e:H a=some (.dK kvs)) (hl:kvs.length<sizeLine):qH H a (kV k) v (upd H a (.dK (putK kvs k v))):=.inl ⟨kvs,k,e,rfl,hl,rfl⟩
section
variable {X:Cx} {Z:List (Addr×Obj)} {U:St} {H:Hp} {s:Shared} {a:Addr} {y v:V} {u r:Value} {o:Option V} {A:Around} {E:Value->Shared->Prop}
theorem Inv.big (I:Inv X Z U H s):sysModules<s.heap.objs.size:=by
 have h:mainGlobals<s.heap.objs.size:=(I.mod.glob.keeps I.bk).lt
 exact Nat.lt_trans (by decide) h
theorem v_ {Q:Value->Shared->Prop} (hu:A.units+1<cLine) (I:Inv X Z U H s) (g:kI H a y (some v)) (ry:RelV y u) (h:∀ w' s',Inv X Z U H s'->RelV v w'->Q w' s') :
 wpAny (model X.prog X.w) A (getItem (.ref a) u) Q E s:=by
 rcases g with ⟨kvs,k,e,ey,l⟩|⟨kvs,k,b,e,ey,eb,l⟩
 ·subst ey
  obtain ⟨z,hd,vs,rel,dd⟩:=xR I.hok e
  obtain ⟨w',hw,rw'⟩:=ii.some_of (v:=v) (o:=valueAt vs k) (by rw [l];exact rel.val k)
  exact wpAny_getItem_of (vB ry) dd.mapOf hw (h w' _ (I.tok _) rw')
 ·subst ey
  cases (show u=Value.ref b from ry)
  obtain ⟨z,hd,xs,rel,dd⟩:=zR I.hok e
  obtain ⟨w',hw,rw'⟩:=ii.some_of (v:=v) (o:=(atKey xs k).map (·.2)) (by rw [l];exact rel.val k)
  obtain ⟨p,hp,hp2⟩:=Option.map_eq_some_iff.mp hw
  refine wpAny_getItem_heap (tupleKind_room_in1 hu) (uA I.hok eb) dd hp ?_
  rw [hp2]
  exact h w' _ (I.tok _) rw'
theorem lW {h':Heap} {t':Nat} {ob:HO} (I:Inv X Z U H s) (mu:Kh (H a)) (hs:Heap.SameBut a s.heap h') (he:∃ q,h'.get? a=some q) (new:cG X.prog X.w (upd H a ob) h' a ob) :
 Inv X Z U (upd H a ob) { s with heap:=h',toks:=t' }:=
 I.write (x:=a) (e:=a) mu (.inl rfl) (fun b q hb z=>(hs.2 b hb).trans z) he new
theorem zV {P:Program} {w:World} {H':Hp} {h':Heap} {kvs:List (Key×V)} {vs:List (Key×Value)} (z:kvs.length≤sizeLine) (hd:(a == sysModules)=false) (rel:KV kvs vs) (dd:h'.DictOf (dg P w) a vs) :
 cG P w H' h' a (.dK kvs):=⟨z,hd,vs,rel,dd⟩
theorem wN {H':Hp} {Q:Unit->Shared->Prop} (hu:A.units+1<cLine) (I:Inv X Z U H s) (g:qH H a y v H') (ry:RelV y u) (rv:RelV v r) (h:∀ s',Inv X Z U H' s'->Q () s') :
 wpAny (model X.prog X.w) A (setItem (.ref a) u r) Q E s:=by
 rcases g with ⟨kvs,k,e,ey,l,eH⟩|⟨kvs,k,b,e,ey,eb,l,eH⟩
 ·subst ey eH
  obtain ⟨z,hd,vs,rel,dd⟩:=BX I.hok e
  have hz:vs.length≤sizeLine:=by rw [← rel.length];exact z
  have hl:(putK kvs k v).length≤sizeLine:=by have:=iW kvs k v;omega
  refine wpAny_setItem_pairs (hsz:=hz) (vB ry) dd fun h' dd' hs=>h _ ?_
  have he:∃ q,h'.get? a=some q:=let ⟨q,_,_,hq,_⟩:=dd';⟨q,hq⟩
  exact lW I (by rw [e];exact True.intro) hs he (zV hl hd (rel.put k rv) dd')
 ·subst ey eH
  cases (show u=Value.ref b from ry)
  obtain ⟨z,hd,xs,rel,dd⟩:=KR I.hok e
  have hz:xs.length≤sizeLine:=by rw [← Paired.length rel];exact z
  have hl:(putK kvs k v).length≤sizeLine:=by have:=iW kvs k v;omega
  refine wpAny_setItem_heap (hsz:=hz) (tupleKind_room_in1 hu) (uA I.hok eb) dd fun h' dd' hs=>h _ ?_
  obtain ⟨q,es,ep,hq,h2,h3,h4,_,h5⟩:=dd'
  refine lW I (by rw [e];exact True.intro) hs ⟨q,hq⟩ ⟨hl,hd,_,(rel.put k eb rv).keeps fun c ys ec=>?_,q,es,ep,hq,h2,h3,h4,h5⟩
  rw [aJ (fZ ec e (fun z=>nomatch z))]
  exact ec
end
section
variable {X:Cx} {Z:List (Addr×Obj)} {U:St} {H:Hp} {s:Shared} {a:Addr} {kvs:List (Key×V)} {k:Key} {u:Value} {A:Around} {E:Value->Shared->Prop}
end
def Mm (i:Expr):Prop:=∀ ov iv,subscripted i false ov iv=operate [ov,iv] (getItem ov iv)
theorem Ac {prog:Program} {w:World} {A:Around} {E:Value->Shared->Prop} {s:Shared} {env:Env} {value slice:Expr} {pos:Pos} {T id:String} {Q:Value->Shared->Prop}
 (hl:typeLookup (.type T) "__getitem__" = pure (some (.builtin id))) (hs:Mm slice)
 (h:wpAny (model prog w) A (eval value env) (fun o s₁=>wpAny (model prog w) A (eval slice env) (fun i s₂=>s₂.TypeIs o T/\wpAny (model prog w) A (getItem o i) Q E s₂) E s₁) E s) :
 wpAny (model prog w) A (eval (.Subscript value slice pos) env) Q E s:=by
 refine Subscript_ (wpAny_mono h (fun o s₁ h₁=>wpAny_mono h₁ (fun i s₂ h₂=>?_) fun _ _ x=>x) fun _ _ x=>x)
 obtain ⟨hT,h₂⟩:=h₂
 unfold subscriptTail
 refine wpAny_bind ?_
 rw [getitemInPython_of_ne hT.not_modules]
 refine wpAny_bind (wpAny_specialOf hT hl ?_)
 have fin:wpAny (model prog w) A (subscripted slice false o i) (fun r s₃=>wpAny (model prog w) A (letTemporaryGo value o r >>= fun _=>pure r) Q E s₃) E s₂:=by
  rw [hs o i]
  exact wpAny_operating (wpAny_mono h₂ (fun r s₃ h₃=>wpAny_bind (wpAny_letTemporaryGo (wpAny_pure h₃))) fun _ _ x=>x)
 first
  |exact wpAny_pure (wpAny_bind fin)
  |exact wpAny_bind (wpAny_pure (wpAny_bind fin))
  |exact wpAny_bind fin
theorem rm {X:Cx} {Z:List (Addr×Obj)} {U:St} {H:Hp} {s:Shared} {a:Addr} {y:V} {o:Option V} (I:Inv X Z U H s) (g:kI H a y o):s.TypeIs (.ref a) "dict":=by
 rcases g with ⟨kvs,k,e,_,_⟩|⟨kvs,k,b,e,_,_,_⟩
 ·obtain ⟨_,_,vs,_,dd⟩:=xR I.hok e
  exact dd.typeIs
 ·obtain ⟨_,_,xs,_,dd⟩:=zR I.hok e
  exact dd.typeIs
def N5 (td ty:TE):TE:=fun U H Q=>td U H fun x H1=>ty U H1 fun y H2=>∃ a v,x=.ref a/\kI H2 a y (some v)/\Q v H2
def Ih (td ty tv:TE):TS:=fun D U H=>tv U H fun v H1=>td U H1 fun x H2=>ty U H2 fun y H3=>∃ a H4,x=.ref a/\qH H3 a y v H4/\D.nx U H4
section
variable {X:Cx} {o i e value:Expr} {pos pos' tpos:Pos} {td ty tv:TE}
theorem dq (hu:X.A.units+1<cLine) (ho:PE X o td) (hi:PE X i ty) (hs:Mm i):PE X (.Subscript o i pos) (N5 td ty):=by
 intro Z s U H Q I h
 refine Ac PySem.F.slot_dict_getitem.lookup hs (cz (ho Z s U H _ I h) fun u s1 ⟨x,H1,I1,rx,q1⟩=>cz (hi Z s1 U H1 _ I1 q1) fun iv s2 ⟨y,H2,I2,ry,a,v,ex,g,q2⟩=>?_)
 subst ex
 obtain rfl:u=Value.ref a:=rx
 exact ⟨rm I2 g,v_ hu I2 g ry fun w' s3 I3 rw'=>⟨v,H2,I3,rw',q2⟩⟩
theorem jW (hu:X.A.units+1<cLine) (ho:PE X o td) (hi:PE X i ty) (hv:PE X value tv) (hs:swapsWith value (some (.Subscript o i pos')) pos.line X.env=pure false) :
 PS X (.Assign [.Subscript o i pos'] value pos) (Ih td ty tv):=by
 intro Z s U H D I h
 refine wpAny_Assign_Subscript (cz (hv Z s U H _ I h) fun r s1 ⟨v,H1,I1,rv,q1⟩=>cz (ho Z s1 U H1 _ I1 q1) fun u s2 ⟨x,H2,I2,rx,q2⟩=>cz (hi Z s2 U H2 _ I2 q2) fun iv s3 ⟨y,H3,I3,ry,a,H4,ex,g,q3⟩=>?_) hs
 subst ex
 obtain rfl:u=Value.ref a:=rx
 exact wN hu I3 g ry rv fun s4 I4=>⟨U,H4,I4,q3⟩
end
theorem zM {P:Program} {w:World} {H:Hp} (h:Heap) (hb:sysModules<h.objs.size):cG P w H (h.push { cls:=.type "dict",data:=.dict #[] }) h.objs.size (.dK []):=
 ⟨Nat.zero_le _,beq_eq_false_iff_ne.mpr (Ne.symm (Nat.ne_of_lt hb)),[],.nil,Heap.DictOf.new h⟩
section
variable {X:Cx} {pos:Pos}
end
def um:List (TE×TE)->St->Hp->(List (V×V)->Hp->Prop)->Prop
 |[],_,H,Q=>Q [] H
 |(tk,tv)::r,U,H,Q=>tk U H fun x H1=>tv U H1 fun y H2=>um r U H2 fun ps H3=>Q ((x,y)::ps) H3
abbrev VV:List (V×V)->List (Value×Value)->Prop:=Paired fun p q=>RelV p.1 q.1/\RelV p.2 q.2
def Pz (X:Cx) (pos:Pos) (keys:List (Option Expr)) (values:List Expr) (trs:List (TE×TE)):Prop:=
 ∀ (Z:List (Addr×Obj)) (s:Shared) (U:St) (H:Hp) (Q:List (V×V)->Hp->Prop),Inv X Z U H s->um trs U H Q->
   wpAny (model X.prog X.w) X.A (evalPairs (pairTrees keys values X.env pos)) (fun vs s'=>∃ ps H',Inv X Z U H' s'/\VV ps vs/\Q ps H') X.xe s
theorem Af {X:Cx} {pos:Pos}:Pz X pos [] [] []:=fun Z s U H Q I h=>pairTrees_nil_walk ⟨[],H,I,.nil,h⟩
theorem jK {X:Cx} {pos:Pos} {k v:Expr} {ks:List (Option Expr)} {vs:List Expr} {tk tv:TE} {trs:List (TE×TE)} (hk:PE X k tk) (hv:PE X v tv) (hr:Pz X pos ks vs trs) :
 Pz X pos (some k::ks) (v::vs) ((tk,tv)::trs):=fun Z s U H Q I h=>
 pairTrees_cons_walk (cz (hk Z s U H _ I h) fun u s1 ⟨x,H1,I1,rx,q1⟩=>cz (hv Z s1 U H1 _ I1 q1) fun w2 s2 ⟨y,H2,I2,ry,q2⟩=>
  cz (hr Z s2 U H2 _ I2 q2) fun ws s3 ⟨ps,H3,I3,rel,q3⟩=>⟨(x,y)::ps,H3,I3,.cons ⟨rx,ry⟩ rel,q3⟩)
def nJ (kvs more:List (Key×V)):List (Key×V):=more.foldl (fun acc kv=>putK acc kv.1 kv.2) kvs
theorem KV.merge:∀ {more:List (Key×V)} {rs:List (Key×Value)} {kvs:List (Key×V)} {vs:List (Key×Value)},KV more rs->KV kvs vs->KV (nJ kvs more) (merged vs rs):=by
 intro more rs kvs vs r
 unfold KV at r
 induction r generalizing kvs vs with
 |nil=>intro q;exact q
 | @cons p q ps qs h t ih=>
   intro r0
   have e:KV (putK kvs p.1 p.2) (stored vs q.1 q.2):=by
    have:=r0.put p.1 h.2
    rw [← h.1];exact this
   exact ih e
theorem jr:∀ (more kvs:List (Key×V)),(nJ kvs more).length≤kvs.length+more.length
 |[],kvs=>by show kvs.length≤kvs.length+0;omega
 | p::r,kvs=>by
   have h1:=jr r (putK kvs p.1 p.2)
   have h2:=iW kvs p.1 p.2
   show (nJ (putK kvs p.1 p.2) r).length≤_
   rw [List.length_cons];omega
theorem nj {P:Program} {w:World}:∀ {kvs:List (Key×V)} {ws:List (Value×Value)},VV (kvs.map fun kv=>(kV kv.1,kv.2)) ws->∃ rs,Carries (dg P w) ws rs/\KV kvs rs
 |[],_,r=>by rw [List.map_nil] at r;cases r;exact ⟨[],True.intro,.nil⟩
 | p::kvs,_,r=>by
   rw [List.map_cons] at r
   cases r with
   | @cons a b as bs h t=>
     obtain ⟨rs,c,q⟩:=nj (P:=P) (w:=w) t
     obtain ⟨b1,b2⟩:=b
     exact ⟨(p.1,b2)::rs,⟨vB h.1,rfl,c⟩,.cons ⟨rfl,h.2⟩ q⟩
def H_ (trs:List (TE×TE)):TE:=fun U H Q=>∀ p,H p=none->um trs U (upd H p (.dK [])) fun ps H2=>H2 p=some (.dK [])/\∃ kvs:List (Key×V),ps=kvs.map (fun kv=>(kV kv.1,kv.2))/\kvs.length≤15/\Q (.ref p) (upd H2 p (.dK (nJ [] kvs)))
theorem Bo {X:Cx} {pos:Pos} {keys:List (Option Expr)} {values:List Expr} {trs:List (TE×TE)} (h:Pz X pos keys values trs) (hall:keys.all (·.isSome)=true) (hl:keys.length=values.length) (h0:keys≠[])
 (h15:keys.length≤15):PE X (.Dict keys values pos) (H_ trs):=by
 intro Z s U H Q I q
 have hn:=I.hok.fresh (Nat.le_refl s.heap.objs.size)
 have I1:=I.laid (a:=s.heap.objs.size) (o:=.dK []) (h':=s.heap.push { cls:=.type "dict",data:=.dict #[] }) (t':=s.toks) (fun _ _ q=>Heap.get?_push_of_some _ q) (Nat.le_refl _) (zM s.heap I.big)
 refine wpAny_Dict_walk (knd:=dg X.prog X.w) hall hl h0 h15 (cz (h Z _ U _ _ I1 (q _ hn)) fun ws s2 ⟨ps,H2,I2,rel,e,kvs,ep,lk,q2⟩=>?_)
 subst ep
 obtain ⟨rs,c,rk⟩:=nj (P:=X.prog) (w:=X.w) rel
 obtain ⟨z,hd,vs0,r0,dd⟩:=BX I2.hok e
 cases r0
 refine ⟨rs,c,dd,fun h' dd' hs=>⟨.ref s.heap.objs.size,_,?_,rfl,q2⟩⟩
 have hz:(nJ [] kvs).length≤sizeLine:=by
  have h1:=jr kvs []
  rw [List.length_nil] at h1
  rw [sizeLine_eq];omega
 have he:∃ q,h'.get? s.heap.objs.size=some q:=let ⟨q,_,_,hq,_⟩:=dd';⟨q,hq⟩
 exact lW I2 (by rw [e];exact True.intro) hs he (zV hz hd (rk.merge .nil) dd')
structure M1 (X:Cx) (o:Expr) (m:Str) (apos:Pos) (e:Expr) (cpos:Pos):Prop where
 base:attributeBase o m X.env (eval o X.env)=eval o X.env
 few:((backTo cpos (starEach [e] X.env)).all (fun x=>!x.1) && (backToKw cpos (keywordEach [] X.env)).all (fun x=>x.1.isSome)
  && decide (([e]:List Expr).length+([]:List Keyword).length+(if ([]:List Keyword).isEmpty then 0 else 1)<30))=true
 line:(apos.endLine == cpos.line)=true
 trees:backTo cpos (starEach [e] X.env)=[(false,eval e X.env)]
section
variable {X:Cx} {Z:List (Addr×Obj)} {U:St} {H:Hp} {s:Shared} {a:Addr} {y d:V} {u r:Value} {o:Option V} {A:Around} {E:Value->Shared->Prop}
end
section
variable {X:Cx} {o e f:Expr} {apos cpos:Pos} {td ty tx:TE}
end
section
variable {X:Cx} {Z:List (Addr×Obj)} {U:St} {H:Hp} {s:Shared} {a:Addr} {kvs:List (Key×V)} {A:Around} {E:Value->Shared->Prop}
end
section
variable {X:Cx} {Z:List (Addr×Obj)} {U:St} {H:Hp} {s:Shared} {a:Addr} {y:V} {u:Value} {A:Around} {E:Value->Shared->Prop}
end
end L2
namespace Att
open PySem PySem.W PySem.Calls PyProof.Rows
theorem lN {P:Params} {h:Heap}:∀ (ns:List Int) (vs:List Value),WellAll P h vs (ns.map WData.int)->IntsAre vs ns:=by
 intro ns
 induction ns with
 | nil=>
   intro vs w
   rw [List.map_nil] at w
   cases w
   exact .nil
 | cons n ns ih=>
   intro vs w
   rw [List.map_cons] at w
   cases w with
   | cons a b=>
     cases a
     exact .cons _ _ (ih _ b)
theorem xr {l:OpenLaw} {n:Nat} (hn:l.most=some n) {P:Params} {h:Heap} {args:List WData} {vals:List Value}
 (hpre:l.row.toRowW.claim.pre args=true) (hwl:WellAll P h vals args) :
 ∃ a vs ns,vals=[Value.ref a]/\args=[WData.list (ns.map WData.int)]/\h.get? a=some { cls:=.type "list",data:=.seq vs.toArray }/\IntsAre vs ns/\ns.length≤n:=by
 have hsh:WShape.hasAll [] args [.list .int]=true:=(pre_splitW hpre).1
 have hc:l.pre.holds [] { args:=args }=true:=(pre_splitW hpre).2
 obtain ⟨d,r,rfl,h1,h2⟩:=hasAllW_cons hsh
 obtain rfl:=hasAllW_nil h2
 obtain ⟨xs,rfl,h3⟩:=hasW_list h1
 obtain ⟨ns,rfl⟩:=items_int h3
 have hlen:ns.length≤n:=by
  unfold OpenLaw.pre at hc
  have h4:(WTm.not (.lt (.lit (.int (n:Int))) (.len (.arg 0)))).holds [] { args:=[.list (ns.map .int)] }=true:=by
   have h4:=(holds_andW hc).1
   rw [hn] at h4
   exact h4
  have h5:=condW_of h4 (w_not (w_lt w_lit (w_len_list (w_arg rfl))))
  rw [List.length_map] at h5
  refine Nat.le_of_not_lt fun q=>?_
  have q':(n:Int)<((ns.length:Nat):Int):=by omega
  first
   |(rw [decide_eq_true q'] at h5;exact absurd h5 (by decide))
   |(simp at h5;omega)
 cases hwl with
 | cons w1 w2=>
   cases w2
   cases w1 with
   |list ho hall=>exact ⟨_,_,ns,rfl,rfl,ho,lN ns _ hall,hlen⟩
theorem wG (l:OpenLaw) (args:List WData):l.row.toRowW.claim.post args (.bool true) args=true:=
 postW_of (r:=l.row.toRowW) (X:=(true == true))
  (show WShape.has [] (.bool true) .bool=true by first|rfl|decide|simp [WShape.has,WShape.arms,WShape.armsAll])
  (show (WTm.eq .res (.lit (.bool true))).value [] { args:=args,res:=some (.bool true),after:=args }=some (.bool (true == true)) from w_eq_bool (w_res rfl) w_lit) rfl
theorem rR {l:OpenLaw} {n:Nat} {q:Program} {loose:List Str} {XP:(Str->Option Value)->Heap->Prop} {YP:World->Heap->Prop} {d:DefRec}
 (hn:l.most=some n) (hdf:d.params.defaults=[])
 (call:∀ (w:World) (s₀ s₁:Shared) (mg mb:Str->Option Value) (fa:Addr) (o:Obj) (pm cd doc:Value) (a:Addr) (vs:List Value) (ns:List Int),
  Ground q loose [] XP w s₀ mg mb s₁.heap->YP w s₁.heap->
  s₁.heap.get? fa=some o->o.data=.func (docDef d.name d.params d.body d.scope pm cd doc)->s₁.heap.CodeRec cd d.name->mg d.name=some (.ref fa)->
  s₁.heap.get? a=some { cls:=.type "list",data:=.seq vs.toArray }->IntsAre vs ns->ns.length≤n->s₁.gens=#[]->
  codeAny (model l.prog w) callerA (.call (.ref fa) ⟨[.ref a],[]⟩) (fun r s'=>r=.ok (.ret (.bool true))/\OldK s₁.heap s'.heap/\s'.os=s₁.os/\AllBare s'.gens) s₁) :
 WalkO q loose XP YP l.row.toRowW d [] (fun f vs=>PySem.call f vs):=by
 intro w s₀ s₁ mg mb G Y fa o pm cd doc dV kV ho hd hcd hD hmg hg args vals as hpre hlay hrd hwl hlo
 obtain rfl:dV=.none:=Dflts.none hD hdf
 obtain rfl:kV=.none:=Dflts.noKw hD
 obtain ⟨a,vs,ns,rfl,rfl,hobj,hints,hlen⟩:=xr hn hpre hwl
 refine enter_call (codeAny_mono (call w s₀ s₁ mg mb fa o pm cd doc a vs ns G Y ho (fd_plain hd) hcd hmg hobj hints hlen hg) fun r s' hq=>?_)
 obtain ⟨rfl,h2,h3,h4⟩:=hq
 exact ⟨.inl ⟨.bool true,.bool true,[],rfl,fun _=>rfl,.bool true,wG l _,fun _=>⟨List.Pairwise.nil,fun _ hm=>(nomatch hm)⟩⟩,h2,h3,h4⟩
section
variable {prog:Program} {w:World} {A:Around} {E:Value->Shared->Prop} {s:Shared} {K:Frag}
end
end Att
namespace L2
open PySem PySem.Spec PyProof.Rows
theorem pA:∀ {vs:List Value} {ns:List Int},IntsAre vs ns->Vals (ns.map V.int) vs
 |_,_,.nil=>.nil
 |_,_,.cons n t h=>.cons ⟨t,rfl⟩ (pA h)
def inClass (s:Stmt) (j:Nat):Stmt:=match s with
 |.ClassDef _ _ _ body _ _ _ _ _ _ _=>body.getD j (.Pass ⟨0,0,0,0⟩)
 |_=>.Pass ⟨0,0,0,0⟩
def cR (s:Stmt):Arguments:=match s with
 |.FunctionDef _ a _ _ _ _ _ _ _ _=>a
 |_=>{ posonlyargs:=[],args:=[],vararg:=none,kwonlyargs:=[],kw_defaults:=[],kwarg:=none,defaults:=[] }
def bW (s:Stmt):List Stmt:=match s with
 |.FunctionDef _ _ b _ _ _ _ _ _ _=>b
 |_=>[]
def aC (s:Stmt):Scope:=match s with
 |.FunctionDef _ _ _ _ _ _ sc _ _ _=>sc
 |_=>{ kind:=.function,names:=[],isGenerator:=false,isCoroutine:=false }
abbrev bQ:nH:=fun _ _ _ _ _ _=>False
abbrev E0:XK:=fun _ _ _=>False
theorem aN {X:Cx}:eN bQ X E0:=fun _ _ _ _ _ _ _ h=>h.elim
structure gU (K:PySem.W.Frag) (x qual:Str) (st:Stmt) (f:Addr) (fd:FuncData):Prop where
 ex:∃ (oc:Value) (od:Option Addr) (kV doc pm:Value) (an:Option Addr) (cdv ct:Value) (osl:Array (Option Value)),
  fd=PySem.W.fnOf x qual (cR st) (bW st) (aC st) .none kV doc pm an cdv ct/\K.lookup f=some ⟨oc,od,.func fd,osl⟩/\PySem.W.codeIn K cdv qual=true
 kp:PySem.W.keepIn K (.ref f)=true
section
variable {P:Program} {w:World} {K:PySem.W.Frag} {mg:Str->Option Value} {base:Heap}
theorem gU.ok {x qual:Str} {st:Stmt} {f:Addr} {fd:FuncData} {N ps:List Str} {k:Nat} {sp:Sp} (F:gU K x qual st f fd) (S:aU N ps (aC st)) (len:∀ vs H Q E,sp vs H Q E->vs.length=ps.length)
 (hbody:∀ (cdv:Value) (A:Around) (outer:List Env) (s:Shared) (H:Hp) (vs:List V) (Q:VK) (E:XK),bF k (A.deeper (envOfC qual (aC st) s.heap.objs.size f cdv))->sp vs H Q E->
  ∃ t,qQ (iK bQ P w K mg base N qual (aC st) f cdv A outer s H E).nox (bW st) t/\t { nx:=fun _ H'=>Q .non H',rt:=Q } (start N vs) H):aR P w K mg base bQ (k+1) f fd ps sp:=by
 obtain ⟨oc,od,kV,doc,pm,an,cdv,ct,osl,rfl,lk,hcd⟩:=F.ex
 refine rA lk hcd S len fun A outer s H vs Q E hr hsp=>?_
 obtain ⟨t,h,q⟩:=hbody cdv A outer s H vs Q E hr hsp
 exact ⟨t,h.nox,q⟩
theorem gU.binds {x qual:Str} {st:Stmt} {f:Addr} {fd:FuncData} {ps:List Str} (F:gU K x qual st f fd)
 (h:∀ (kV doc pm:Value) (an:Option Addr) (cdv ct:Value) (us:List Value),us.length=ps.length->bindArgs (PySem.W.fnOf x qual (cR st) (bW st) (aC st) .none kV doc pm an cdv ct) ⟨us,[]⟩=pure (ps.zip us)):Binds K fd ps []:=by
 obtain ⟨oc,od,kV,doc,pm,an,cdv,ct,osl,rfl,lk,hcd⟩:=F.ex
 exact .all (h kV doc pm an cdv ct)
end
theorem Kv {A:Around} {k:Nat} (hr:bF k A):A.units+1<cLine:=Nat.lt_of_le_of_lt (Nat.add_le_add_left (by decide:1≤64) _) hr.units
theorem jg {n:Nat} (h:n≤1000):n<sizeLine:=Nat.lt_of_le_of_lt h (by decide)
section
variable {X:Cx}
theorem pv (i:Nat) {x:Str} {pos:Pos} (hN:X.N[i]?=some x:=by rfl) (hv:KQ X.env.scope x:=by first|exact Or.inl rfl|exact Or.inr (Or.inl rfl)|exact Or.inr (Or.inr rfl)) (hd:(x == ("__debug__" : Str))=false:=by decide)
 (hcd:(x == ("__classdict__" : Str))=false:=by decide):PE X (.Name x pos) (jU i):=E_ hN hv hd hcd
end
theorem dM {c A B:Prop} [Decidable c] (h1:c->A) (h2:¬ c->B):if c then A else B:=by
 by_cases h:c
 ·rw [if_pos h]
  exact h1 h
 ·rw [if_neg h]
  exact h2 h
def aA (H H':Hp):Prop:=∀ b o,H b=some o->H' b=some o
theorem aA.refl (H:Hp):aA H H:=fun _ _ h=>h
theorem aA.trans {H H1 H2:Hp} (a:aA H H1) (b:aA H1 H2):aA H H2:=fun c o h=>b c o (a c o h)
theorem aA.free {H H':Hp} (e:aA H H') {l:Addr} (h:H' l=Option.none):H l=Option.none:=by
 cases q:H l with
 |none=>rfl
 | some o=>
   rw [e l o q] at h
   cases h
theorem aA.seq {K:PySem.W.Frag} {H H':Hp} {a:Addr} {xs:List V} (e:aA H H') (h:bM K H a xs):bM K H' a xs:=by
 rcases h with (h|⟨o,h⟩)|h
 ·exact .inl (.inl (e _ _ h))
 ·exact .inl (.inr ⟨o,e _ _ h⟩)
 ·exact .inr h
section
variable {X:Cx}
end
section
variable {κ:Type} [DecidableEq κ]
theorem vI:∀ {l:List κ} {k:κ},l.Nodup->¬ k∈l->(l++[k]).Nodup
 |[],k,_,_=>by simp
 | a::r,k,h,hk=>by
   obtain ⟨h1,h2⟩:=List.nodup_cons.mp h
   show (a::(r++[k])).Nodup
   refine List.nodup_cons.mpr ⟨fun m=>?_,vI h2 fun m=>hk (List.mem_cons.mpr (Or.inr m))⟩
   rcases List.mem_append.mp m with q|q
   ·exact h1 q
   ·exact hk (List.mem_cons.mpr (Or.inl (List.mem_singleton.mp q).symm))
end
theorem iH {env:Env} (scope:Scope) (h:∀ y∈scope.names,y.2=.free->∃ c,env.cells.lookup y.1=some c) :
 ∃ cl,closureFor scope env=pure cl/\(∀ x c,cl.lookup x=some c->env.cells.lookup x=some c)/\∀ x,(x,NameKind.free)∈scope.names->∃ c,cl.lookup x=some c:=by
 have go:∀ (names:List (Str×NameKind)) (acc:List (Str×Addr)),(∀ y∈names,y.2=.free->∃ c,env.cells.lookup y.1=some c)->(∀ x c,acc.lookup x=some c->env.cells.lookup x=some c)->
  ∃ cl,(forIn names acc fun x cs=>(match x with
    |(name,kind)=>if kind == NameKind.free then (do let c ← cellOf env name;pure (ForInStep.yield ((name,c)::cs))) else pure (ForInStep.yield cs):Sem (ForInStep (List (Str×Addr)))))=pure cl/\
    (∀ x c,cl.lookup x=some c->env.cells.lookup x=some c)/\(∀ x,(x,NameKind.free)∈names∨(∃ c,acc.lookup x=some c)->∃ c,cl.lookup x=some c):=by
  intro names
  induction names with
  |nil=>intro acc _ ha;exact ⟨acc,rfl,ha,fun x z=>z.elim (fun q=>nomatch q) id⟩
  | cons y r ih=>
    intro acc hy ha
    obtain ⟨n,k⟩:=y
    by_cases hk:k=.free
    ·subst hk
     obtain ⟨c,hc⟩:=hy (n,.free) List.mem_cons_self rfl
     obtain ⟨cl,e,h1,h2⟩:=ih ((n,c)::acc) (fun z hz=>hy z (List.mem_cons_of_mem _ hz)) (fun x c' hx=>by
      rw [List.lookup_cons] at hx
      by_cases q:x == n
      ·rw [q] at hx
       cases hx
       rw [beq_iff_eq.mp q];exact hc
      ·rw [Bool.not_eq_true] at q
       rw [q] at hx
       exact ha x c' hx)
     refine ⟨cl,?_,h1,fun x z=>h2 x ?_⟩
     ·rw [List.forIn_cons]
      simp only [beq_self_eq_true,if_true,cellOf,hc]
      exact e
     ·have aux:∀ x,(∃ c',acc.lookup x=some c')->∃ c',((n,c)::acc).lookup x=some c':=fun x ⟨c',z⟩=>by
       rw [List.lookup_cons]
       by_cases q:x == n
       ·rw [q];exact ⟨_,rfl⟩
       ·rw [Bool.not_eq_true] at q
        rw [q];exact ⟨c',z⟩
      rcases z with z|z
      ·rcases List.mem_cons.mp z with z|z
       ·cases z
        exact .inr ⟨c,by rw [List.lookup_cons,beq_self_eq_true]⟩
       ·exact .inl z
      ·exact .inr (aux x z)
    ·have hb:(k == NameKind.free)=false:=by simpa using hk
     obtain ⟨cl,e,h1,h2⟩:=ih acc (fun z hz=>hy z (List.mem_cons_of_mem _ hz)) ha
     refine ⟨cl,?_,h1,fun x z=>h2 x ?_⟩
     ·rw [List.forIn_cons]
      simp only [hb,Bool.false_eq_true,if_false]
      exact e
     ·rcases z with z|z
      ·rcases List.mem_cons.mp z with z|z
       ·cases z
        exact absurd rfl hk
       ·exact .inl z
      ·exact .inr z
 obtain ⟨cl,e,h1,h2⟩:=go scope.names [] h (fun x c z=>by simp at z)
 refine ⟨cl,?_,h1,fun x z=>h2 x (.inl z)⟩
 unfold closureFor
 exact (congrArg (fun (m:Sem (List (Str×Addr)))=>m >>= fun cs=>pure cs) e).trans rfl
def aQ (X:Cx) (scope:Scope) (N':List Str) (cl:List (Str×Addr)) (C:Addr) (s₀:Shared) (H₀:Hp) (ex:List Addr):Cx where
 prog:=X.prog
 w:=X.w
 K:=X.K
 mg:=X.mg
 base:=X.base
 A:=X.A
 N:=N'
 s₀:=s₀
 H₀:=H₀
 env:=compEnvC scope cl C X.env
 outer:=X.stack
 stack:=X.stack
 ex:=ex
 fn:=fun _=>false
 calm:=X.calm
 pn:=[]
 xe:=fun _ _=>False
def dH (k:Nat) (js:List Nat) (U:St):St:=List.replicate k none++js.map fun j=>(U[j]?).join
theorem uK (k:Nat) (js:List Nat) (U:St):(dH k js U).length=k+js.length:=by simp [dH]
structure bw (X:Cx) (scope:Scope) (own:List Str) (js:List Nat) (N':List Str):Prop where
 kind:scope.kind=.function
 nocell:∀ y∈scope.names,y.2≠.cell
 names:∀ y∈scope.names,y.2=.local->scope.names.lookup y.1=some .local
 free:∀ y∈scope.names,y.2=.free->X.env.kindOf y.1=some .cell∨X.env.kindOf y.1=some .free
 nm:N'=own++js.map fun j=>X.N.getD j Str.empty
 fr:∀ j∈js,j<X.N.length/\(X.N.getD j Str.empty,NameKind.free)∈scope.names/\∀ k,(X.N.getD j Str.empty,k)∈scope.names->k=.free
theorem lQ {names:List (Str×NameKind)} {x:Str} (h:(x,NameKind.free)∈names) (u:∀ k,(x,k)∈names->k=.free):names.lookup x=some .free:=by
 induction names with
 |nil=>cases h
 | cons y r ih=>
   obtain ⟨n,k⟩:=y
   rw [List.lookup_cons]
   by_cases q:x == n
   ·rw [q]
    have e:x=n:=beq_iff_eq.mp q
    subst e
    rw [u k List.mem_cons_self]
   ·rw [Bool.not_eq_true] at q
    rw [q]
    refine ih ?_ fun k hk=>u k (List.mem_cons_of_mem _ hk)
    rcases List.mem_cons.mp h with z|z
    ·cases z
     rw [beq_self_eq_true] at q;cases q
    ·exact z
theorem lE {scope:Scope} {env:Env} {x:Str} {k:NameKind} (h:(x,k)∈(relabel scope env).names) (hk:k=.cell∨k=.free) (hc:∀ y∈scope.names,y.2≠.cell):(x,NameKind.free)∈scope.names:=by
 unfold relabel at h
 obtain ⟨⟨n,k'⟩,hm,e⟩:=List.mem_map.mp h
 dsimp only at e
 by_cases q:(k' == NameKind.free && env.scope.kind == .function && env.kindOf n == some .cell)=true
 ·rw [if_pos q] at e
  cases e
  rw [Bool.and_eq_true,Bool.and_eq_true] at q
  have:k'=.free:=by simpa using q.1.1
  rw [← this];exact hm
 ·rw [if_neg q] at e
  cases e
  rcases hk with z|z
  ·exact absurd z (hc _ hm)
  ·rw [← z];exact hm
theorem fJ {env:Env} {x:Str}:∀ {names:List (Str×NameKind)},names.lookup x=some .free->
 (names.map fun (n,k)=>if (k == NameKind.free && env.scope.kind == .function && env.kindOf n == some .cell) then (n,NameKind.cell) else (n,k)).lookup x=some .cell∨
 (names.map fun (n,k)=>if (k == NameKind.free && env.scope.kind == .function && env.kindOf n == some .cell) then (n,NameKind.cell) else (n,k)).lookup x=some .free
 |[],h=>by simp at h
 | (n,k)::r,h=>by
   have ih:=@fJ env x r
   rw [List.lookup_cons] at h
   rw [List.map_cons]
   dsimp only
   by_cases q:x == n
   ·rw [q] at h
    cases h
    by_cases c:(NameKind.free == NameKind.free && env.scope.kind == .function && env.kindOf n == some .cell)=true
    ·rw [if_pos c,List.lookup_cons,q];exact .inl rfl
    ·rw [if_neg c,List.lookup_cons,q];exact .inr rfl
   ·rw [Bool.not_eq_true] at q
    rw [q] at h
    by_cases c:(k == NameKind.free && env.scope.kind == .function && env.kindOf n == some .cell)=true
    ·rw [if_pos c,List.lookup_cons,q];exact ih h
    ·rw [if_neg c,List.lookup_cons,q];exact ih h
section
variable {X:Cx} {Z:List (Addr×Obj)} {U:St} {H:Hp} {s:Shared}
theorem Inv.comp {scope:Scope} {own:List Str} {js:List Nat} {N':List Str} {cl:List (Str×Addr)} {C:Addr} {h₁:Heap} {tk:Nat} {fp:List Addr} {m:Str->Option Value} (S:bw X scope own js N') (I:Inv X Z U H s)
 (hc1:∀ x c,cl.lookup x=some c->X.env.cells.lookup x=some c) (hc2:∀ x,(x,NameKind.free)∈scope.names->∃ c,cl.lookup x=some c) (hC:s.heap.objs.size≤C) (hns:h₁.Ns C m) (hk:∀ b o,s.heap.get? b=some o->h₁.get? b=some o)
 (hf:∀ b∈fp,jo X Z H b/\b<s.heap.objs.size) (hHC:H C=none) (hfree:∀ b o,s.heap.get? b=some o->b≠C) :
 Inv (aQ X scope N' cl C s H fp) [] (dH own.length js U) H { s with heap:=h₁,toks:=tk }:=by
 have ltx:∀ b o,X.s₀.heap.get? b=some o->b∉X.ex->b∉fp:=fun b o e hx hb=>by
  rcases (hf b hb).1.2.2.2.1 with z|z
  ·exact hx z
  ·exact absurd (Nat.lt_of_lt_of_le (Heap.lt_size e) z) (Nat.lt_irrefl _)
 refine ⟨⟨I.ok.mod,S.kind,I.ok.glob,I.ok.blt,hC,fun x y c h1 h2=>I.ok.inj x y c (hc1 x c h1) (hc1 y c h2),fun x hx=>?_,fun x c z=>(nomatch z),I.ok.hd,I.ok.frames,.inl rfl,fun b hb=>⟨Nat.ne_of_lt (Nat.lt_of_lt_of_le (hf b hb).2 hC),fun x c e=>(hf b hb).1.2.2.2.2.1 x c (hc1 x c e)⟩,I.bs,Nat.le_trans I.ok.bsz I.sz,fun b o e=>ltx b o (I.ok.bs b o e).1 (I.ok.noex b o e),fun b hb z=>?_,I.stack,I.stkFree⟩,
  rfl,I.bare,Un.kept hk,⟨m,hns,fun i x v e1 e2 e3=>?_⟩,fun x c e=>?_,hHC,fun x c e=>I.freeC x c (hc1 x c e),fun p hp=>absurd (show p∈([]:List (Addr×Obj)) from hp) (by simp),I.hok.kept hk,?_⟩
 ·have hx':(relabel scope X.env).names.lookup x=some .cell∨(relabel scope X.env).names.lookup x=some .free:=hx
  rcases hx' with z|z
  ·exact hc2 x (lE (PySem.mem_of_lookup z) (.inl rfl) S.nocell)
  ·exact hc2 x (lE (PySem.mem_of_lookup z) (.inr rfl) S.nocell)
 ·obtain ⟨_,f1,f2,_⟩:=(hf b hb).1
  rcases List.mem_cons.mp (I.stkSub b z) with q|q
  ·exact f1 q
  ·exact f2 q
 ·
  unfold dH at e2
  by_cases hi:i<own.length
  ·rw [List.getElem?_append_left (by simpa using hi),List.getElem?_replicate] at e2
   split at e2 <;> cases e2
  ·rw [List.getElem?_append_right (by simpa using hi),List.length_replicate,List.getElem?_map] at e2
   cases ej:js[i-own.length]? with
   |none=>rw [ej] at e2;cases e2
   | some j=>
     rw [ej] at e2
     have e2':(U[j]?).join=some v:=by simpa using e2
     have hU:U[j]?=some (some v):=by
      cases q:U[j]? with
      |none=>rw [q] at e2';cases e2'
      |some o=>rw [q] at e2';exact congrArg some e2'
     have hj:=S.fr j (List.mem_of_getElem? ej)
     have hx:x=X.N.getD j Str.empty:=by
      have e1':N'[i]?=some x:=e1
      rw [S.nm,List.getElem?_append_right (by omega),List.getElem?_map,ej] at e1'
      exact (Option.some.inj e1').symm
     have hN:X.N[j]?=some x:=by
      rw [hx,List.getD_eq_getElem?_getD,List.getElem?_eq_getElem hj.1];rfl
     have hfr:scope.names.lookup x=some .free:=by rw [hx];exact lQ hj.2.1 hj.2.2
     have hkx:=S.free (x,.free) (by rw [hx];exact hj.2.1) rfl
     have hvis:KQ X.env.scope x:=hkx.elim (fun z=>.inr (.inl z)) fun z=>.inr (.inr z)
     obtain ⟨mX,hnX,hlX⟩:=I.loc
     obtain ⟨u,r,l⟩:=hlX j x v hN hU hvis
     refine ⟨u,r,.inr ⟨fJ hfr,?_⟩⟩
     rcases l with ⟨z,_⟩|⟨_,c,hc,hcell⟩
     ·rcases hkx with q|q
      ·have:=q.symm.trans z;cases this
      ·have:=q.symm.trans z;cases this
     ·obtain ⟨c',hc'⟩:=hc2 x (by rw [hx];exact hj.2.1)
      have:c'=c:=Option.some.inj ((hc1 x c' hc').symm.trans hc)
      subst this
      obtain ⟨o,ho,hd⟩:=hcell
      exact ⟨c',hc',o,hk _ _ ho,hd⟩
 ·obtain ⟨v,o,ho,hd⟩:=I.cell x c (hc1 x c e)
  exact ⟨v,o,hk _ _ ho,hd⟩
 ·rw [uK]
  show _=N'.length
  rw [S.nm];simp
end
def jq (Y:Cx) (ifs:List Expr) (t:TT):Prop:=
 ∀ (Z:List (Addr×Obj)) (s:Shared) (U:St) (H:Hp) (Q:Bool->Hp->Prop),Inv Y Z U H s->t U H Q->
   wpAny (model Y.prog Y.w) Y.A (forIn ifs true fun c r=>if r=true then do let ok ← isTrue c Y.env (eval c Y.env);pure (ForInStep.yield ok) else pure (ForInStep.yield r)) (TP Y Z U Q) Y.xe s
def mZ:TT:=fun _ H Q=>Q true H
theorem cZ {Y:Cx}:jq Y [] mZ:=fun _ _ _ H _ I h=>wpAny_tests_nil ⟨H,I,h⟩
theorem m_ {Y:Cx} {c:Expr} {t:TT} (h:PT Y c t):jq Y [c] t:=fun Z s U H Q I hw=>wpAny_tests_one (h Z s U H Q I hw)
abbrev bJ (us:List Value) (k:Nat):Obj:={ cls:=.type "list",data:=.seq us.toArray k }
def jJ (J:It) (g:TG) (tt:TT) (te:TE) (F:List V->Hp->Prop) (W:Nat->Nat->List V->St->Hp->Prop):Prop:=
 ∀ i m ys U H,W i m ys U H->(J.stop i H/\F ys H)∨(J.go i H/\ys.length<sizeLine/\∀ x H1,J.yld i H x H1->g x U H1 fun σ2 H2=>tt σ2 H2 fun b H3=>
   if b=true then te σ2 H3 fun y H4=>∃ m',m'<m/\W (i+1) m' (ys++[y]) σ2 H4 else ∃ m',m'<m/\W (i+1) m' ys σ2 H3)
theorem xF {X:Cx} {scope:Scope} {N':List Str} {cl:List (Str×Addr)} {C acc it:Addr} {s₂:Shared} {H₂:Hp} {fp:List Addr} {tn:Nat->Heap->Prop} {J:It} {g:TG} {tt:TT} {te:TE} {F:List V->Hp->Prop}
 {elt tg iter:Expr} {ifs:List Expr} {pos:Pos} {R:Result->Shared->Prop} (W:Nat->Nat->List V->St->Hp->Prop) (turn:jJ J g tt te F W) (T:Turn X.prog X.w X.K tg J fp it tn)
 (hg:PG (aQ X scope N' cl C s₂ H₂ fp) tg g) (hc:jq (aQ X scope N' cl C s₂ H₂ fp) ifs tt) (he:PE (aQ X scope N' cl C s₂ H₂ fp) elt te) (hcalm:X.calm=true)
 (hfp:∀ b∈fp,b≠C/\b∉frs X.stack/\(∀ x c,cl.lookup x=some c->c≠b)/\b≠acc) (hacc:acc≠C/\acc∉frs X.stack/\(∀ x c,cl.lookup x=some c->c≠acc)/\s₂.heap.objs.size≤acc)
 (hR:∀ s' σ' H' ys us k,Inv (aQ X scope N' cl C s₂ H₂ fp) [(acc,bJ us k)] σ' H' s'->Vals ys us->F ys H'->R (.ok .next) s')
 {s:Shared} {U:St} {H:Hp} {m:Nat} (I:Inv (aQ X scope N' cl C s₂ H₂ fp) [(acc,bJ [] 0)] U H s) (st:tn 0 s.heap) (fr:∀ b∈fp,H b=none) (w0:W 0 m [] U H) :
 codeAny (model X.prog X.w) X.A (.compLoop (.ListComp elt [⟨tg,iter,ifs,0⟩] scope pos) 0 (.ref it) (.ref acc) (compEnvC scope cl C X.env)) R s:=by
 refine codeAny_loop rfl (fun n s'=>∃ i ys us k σ' H',Vals ys us/\Inv (aQ X scope N' cl C s₂ H₂ fp) [(acc,bJ us k)] σ' H' s'/\tn i s'.heap/\(∀ b∈fp,H' b=none)/\W i n ys σ' H') (fun n s3 hI=>?_) m ⟨0,[],[],0,U,H,.nil,I,st,fr,w0⟩
 obtain ⟨i,ys,us,k,σ3,H3,rv,I3,st3,fr3,w3⟩:=hI
 show wpAny _ X.A ((compTurn (.ListComp elt [⟨tg,iter,ifs,0⟩] scope pos) 0 (.ref it) (.ref acc) (compEnvC scope cl C X.env)).onRaise (fun x=>do noteFrame x (compEnvC scope cl C X.env);theTreesLotGoes x)) _ _ s3
 refine wpAny_noted ?_
 rw [compTurn_list]
 have fpk:∀ {Z:List (Addr×Obj)} {H':Hp},(∀ p∈Z,p.1=acc∨p.1∈([]:List Addr))->(∀ b∈fp,H' b=none)->∀ b∈fp,jo (aQ X scope N' cl C s₂ H₂ fp) Z H' b:=fun hp hn b hb=>
  ⟨hn b hb,(hfp b hb).1,(hfp b hb).2.1,.inl hb,(hfp b hb).2.2.1,fun p hp'=>by
   have hp'':p∈([]:List (Addr×Obj))++_:=hp'
   rcases hp p (by simpa using hp'') with z|z
   ·rw [z];exact Ne.symm (hfp b hb).2.2.2
   ·exact (nomatch z)⟩
 have fp1:=fpk (Z:=[(acc,bJ us k)]) (fun p hp=>.inl (by simp at hp;rw [hp])) fr3
 refine wpAny_bind (wpAny_standAt (wpAny_bind ?_))
 rcases turn i n ys σ3 H3 w3 with ⟨stop,qn⟩|⟨go,hz,step⟩
 ·refine wpAny_mono (T.done (aQ X scope N' cl C s₂ H₂ fp) rfl rfl rfl hcalm i _ s3 σ3 H3 (fun _ _=>False) I3 fp1 st3 stop) (fun r s4 ⟨hr,I4⟩=>?_) (fun _ _ z=>z.elim)
  subst hr
  exact wpAny_pure (hR s4 σ3 H3 ys us k I4 rv qn)
 ·refine wpAny_mono (T.item (aQ X scope N' cl C s₂ H₂ fp) rfl rfl rfl hcalm i _ s3 σ3 H3 (fun _ _=>False) I3 fp1 st3 go) (fun r s4 ⟨u,hr,h4⟩=>?_) (fun _ _ z=>z.elim)
  subst hr
  refine wpAny_bind (wpAny_mono h4 (fun _ s5 ⟨x,H5,I5,r5,y5,st5,fr5⟩=>?_) (fun _ _ z=>z.elim))
  have fp5:=fpk (Z:=[(acc,bJ us k)]) (fun p hp=>.inl (by simp at hp;rw [hp])) fr5
  have I5':=I5.pinned fp5 (T.obj _ _ st5)
  refine wpAny_bind (wpAny_mono (hg _ s5 σ3 H5 x u _ I5' r5 (step x H5 y5)) (fun _ s6 ⟨σ6,H6,I6,q6⟩=>?_) (fun _ _ z=>z.elim))
  refine wpAny_bind (wpAny_mono (hc _ s6 σ6 H6 _ I6 q6) (fun ok s7 ⟨H7,I7,q7⟩=>?_) (fun _ _ z=>z.elim))
  have again:∀ {s8:Shared} {σ8:St} {H8:Hp} {us8:List Value} {k8:Nat} {ys8:List V},Inv (aQ X scope N' cl C s₂ H₂ fp) ([(acc,bJ us k)]++gG fp s5.heap) σ8 H8 s8->tn (i+1) s8.heap/\∀ b∈fp,H8 b=none:=fun {s8 σ8 H8 us8 k8 ys8} I8=>
   ⟨T.keep _ _ _ st5 fun b hb o e=>(I8.pin (b,o) (List.mem_append_right _ (List.mem_append_right _ (cX hb e)))).1,fun b hb=>by
    obtain ⟨o,e,d⟩:=T.obj _ _ st5 b hb
    exact (I8.pin (b,o) (List.mem_append_right _ (List.mem_append_right _ (cX hb e)))).2.1⟩
  cases ok with
  | false=>
    rw [if_neg Bool.false_ne_true] at q7
    obtain ⟨m',hm,w7⟩:=q7
    obtain ⟨t1,t2⟩:=again (us8:=us) (k8:=k) (ys8:=ys) I7
    exact wpAny_pure ⟨rfl,m',hm,i+1,ys,us,k,σ6,H7,rv,I7.unpinned,t1,t2,w7⟩
  | true=>
    rw [if_pos rfl] at q7
    refine wpAny_bind (wpAny_bind (wpAny_mono (he _ s7 σ6 H7 _ I7 q7) (fun y s8 ⟨yv,H8,I8,r8,m',hm,w8⟩=>?_) (fun _ _ z=>z.elim)))
    obtain ⟨t1,t2⟩:=again (us8:=us) (k8:=k) (ys8:=ys) I8
    obtain ⟨e8,n8,l8,f8,d8⟩:=I8.pin (acc,bJ us k) (List.mem_append_right _ (List.mem_append_left _ List.mem_cons_self))
    have hlen:=rv.length
    have hz':us.toArray.size≤sizeLine:=by rw [List.size_toArray];omega
    refine wpAny_bind (call_meets PySem.F.slot_list_append ⟨_,e8,rfl⟩ PySem.F.entry_list_append (PySem.F.args_list_append_2 _ _) (PySem.list_append acc us.toArray k y hz') ⟨e8,?_⟩)
    have q:=PySem.IsL.update e8 (fun z=>z.push y)
    have I9:Inv (aQ X scope N' cl C s₂ H₂ fp) [] σ6 H8 s8:=I8.pins_of fun p hp=>(nomatch hp)
    have I10:=I9.turned (t':=s8.toks) (it:=acc) (h':=s8.heap.update acc (Obj.mapSeq fun z=>z.push y)) (fun b o hb e=>(Heap.get?_update_other s8.heap _ (Ne.symm hb)).trans e) n8 hacc.1 (.inr hacc.2.2.2) hacc.2.2.1 (fun p hp=>(nomatch hp))
    have e':(us.toArray.push y)=(us++[y]).toArray:=by simp
    rw [e'] at q
    obtain ⟨k9,ek⟩:∃ k9,k9=(if ((us++[y]).toArray.size == us.toArray.size)=true then k else k+1):=⟨_,rfl⟩
    rw [← ek] at q
    have I11:=I10.pins_of (pins':=[(acc,bJ (us++[y]) k9)]) fun p hp=>by
     obtain rfl:p=(acc,bJ (us++[y]) k9):=by simpa using hp
     exact ⟨q,n8,hacc.1,hacc.2.1,fun v z=>by cases z⟩
    refine wpAny_pure (wpAny_pure ⟨rfl,m',hm,i+1,ys++[yv],us++[y],k9,σ6,H8,rv.append (.cons r8 .nil),I11,T.keep _ _ _ t1 fun b hb o e=>?_,t2,w8⟩)
    exact (Heap.get?_update_other s8.heap _ (hfp b hb).2.2.2.symm).trans e
def Cr (wi:TI) (g:TG) (tt:TT) (te:TE) (k:Nat) (js:List Nat):TE:=fun U H Q=>wi U H fun J H1=>∃ W:Nat->Nat->List V->St->Hp->Prop,(∃ m,W 0 m [] (dH k js U) H1)/\
 jJ J g tt te (fun ys H2=>ys.length≤sizeLine/\∀ p,H2 p=none->Q (.ref p) (upd H2 p (.lst ys))) W
section
variable {X:Cx} {scope:Scope} {own:List Str} {js:List Nat} {N':List Str} {wi:TI} {g:TG} {tt:TT} {te:TE} {elt tg iter:Expr} {ifs:List Expr} {pos:Pos}
theorem sH {Z:List (Addr×Obj)} {U:St} {H:Hp} {s:Shared} {it:Addr} {fp:List Addr} {tn:Nat->Heap->Prop} {J:It} {cl:List (Str×Addr)} {F:List V->Hp->Prop} {E:Value->Shared->Prop} {RR:Value->Addr->Result->Shared->Prop}
 (S:bw X scope own js N') (hcalm:X.calm=true) (hg:∀ cl C s₀ H₀ ex,PG (aQ X scope N' cl C s₀ H₀ ex) tg g) (hc:∀ cl C s₀ H₀ ex,jq (aQ X scope N' cl C s₀ H₀ ex) ifs tt) (he:∀ cl C s₀ H₀ ex,PE (aQ X scope N' cl C s₀ H₀ ex) elt te)
 (hc1:∀ x c,cl.lookup x=some c->X.env.cells.lookup x=some c) (hc2:∀ x,(x,NameKind.free)∈scope.names->∃ c,cl.lookup x=some c)
 (I:Inv X Z U H s) (T:Turn X.prog X.w X.K tg J fp it tn) (st:tn 0 s.heap) (hf:∀ b∈fp,jo X Z H b) (W:Nat->Nat->List V->St->Hp->Prop) {m0:Nat} (w0:W 0 m0 [] (dH own.length js U) H) (turn:jJ J g tt te F W)
 (hF:∀ ys H',F ys H'->ys.length≤sizeLine)
 (fin:∀ acc C H' ys s' m,Inv X Z U (upd H' acc (.lst ys)) s'->H' acc=none->s'.heap.Ns C m->(upd H' acc (.lst ys)) C=none->C≠X.env.locals->X.s₀.heap.objs.size≤C->(∀ x c,X.env.cells.lookup x=some c->c≠C)->(∀ p∈X.pn++Z,p.1≠C)->F ys H'->RR (.ref acc) C (.ok .next) s') :
 wpAny (model X.prog X.w) X.A (newList []) (fun acc s₃=>wpAny (model X.prog X.w) X.A (newFunctionEnv scope X.env.globals cl [] X.env.qual none .none (some X.env)) (fun cenv s₄=>
  codeAny (model X.prog X.w) X.A (.compStart (.ListComp elt [⟨tg,iter,ifs,0⟩] scope pos) 0 (.ref it) acc { cenv with scope:=relabel scope X.env }) (RR acc cenv.locals) s₄) E s₃) E s:=by
 refine wpAny_newObj_type (wpAny_newFunctionEnv S.nocell (by intro y hy;simp at hy) (fun h₁ hns₁ hsb₁=>?_) S.kind)
 dsimp only at hns₁ hsb₁ ⊢
 generalize hH2:s.heap.push { cls:=.type "list",dict:=none,data:=.seq ([]:List Value).toArray }=H2 at hns₁ hsb₁ ⊢
 have hC:H2.objs.size=s.heap.objs.size+1:=by rw [← hH2,Heap.size_push]
 have hDC:s.heap.objs.size≠H2.objs.size:=by rw [hC];exact Nat.ne_of_lt (Nat.lt_succ_self _)
 have hCle:s.heap.objs.size≤H2.objs.size:=by rw [hC];exact Nat.le_succ _
 have below:∀ b,b<s.heap.objs.size->b≠H2.objs.size/\b≠s.heap.objs.size:=fun b hb=>⟨by rw [hC];exact Nat.ne_of_lt (Nat.lt_succ_of_lt hb),Nat.ne_of_lt hb⟩
 have old:∀ b o,s.heap.get? b=some o->h₁.get? b=some o:=fun b o e=>hsb₁.extBut b o (below b (Heap.lt_size e)).1 (Heap.get?_push_of_some _ (hH2 ▸ Heap.get?_push_of_some _ e))
 have hacc:h₁.get? s.heap.objs.size=some (bJ [] 0):=hsb₁.extBut _ _ hDC (Heap.get?_push_of_some _ (hH2 ▸ Heap.get?_push_size _ rfl))
 generalize hCn:H2.objs.size=C at *
 generalize hAn:s.heap.objs.size=acc at *
 have cellLt:∀ x c,X.env.cells.lookup x=some c->c<acc:=fun x c e=>by
  obtain ⟨v,q⟩:=I.cell x c e
  rw [← hAn];exact q.lt
 have pinLt:∀ p∈X.pn++Z,p.1<acc:=fun p hp=>by rw [← hAn];exact Heap.lt_size (I.pin p hp).1
 have stkLt:∀ b∈frs X.stack,b<acc:=fun b hb=>by
  obtain ⟨_,o,ho,_⟩:=I.stack.mem hb
  rw [← hAn];exact Heap.lt_size ho
 have fpLt:∀ b∈fp,b<acc:=fun b hb=>by
  obtain ⟨o,e,_⟩:=T.obj _ _ st b hb
  rw [← hAn];exact Heap.lt_size e
 have hHC:H C=none:=I.hok.fresh (by rw [hAn];exact hCle)
 have hHA:H acc=none:=I.hok.fresh (by rw [hAn];exact Nat.le_refl _)
 have I1:Inv (aQ X scope N' cl C s H fp) [] (dH own.length js U) H { s with heap:=h₁,toks:=s.toks+([]:List (Str×Value)).length }:=
  Inv.comp S I hc1 hc2 (by rw [hAn];exact hCle) hns₁ old (fun b hb=>⟨hf b hb,by rw [hAn];exact fpLt b hb⟩) hHC fun b o e=>(below b (by rw [← hAn];exact Heap.lt_size e)).1
 have I2:Inv (aQ X scope N' cl C s H fp) [(acc,bJ [] 0)] (dH own.length js U) H { s with heap:=h₁,toks:=s.toks+([]:List (Str×Value)).length }:=I1.pins_of fun p hp=>by
  obtain rfl:p=(acc,bJ [] 0):=by simpa using hp
  exact ⟨hacc,hHA,hDC,fun z=>absurd (stkLt acc z) (Nat.lt_irrefl _),fun v z=>by cases z⟩
 have st1:tn 0 h₁:=T.keep _ _ _ st fun b hb o e=>old b o e
 have loop:∀ s₃:Shared,s₃={ s with heap:=h₁,toks:=s.toks+([]:List (Str×Value)).length }->
  codeAny (model X.prog X.w) X.A (.compLoop (.ListComp elt [⟨tg,iter,ifs,0⟩] scope pos) 0 (.ref it) (.ref acc) (compEnvC scope cl C X.env)) (RR (.ref acc) C) s₃:=by
  rintro s₃ rfl
  refine xF W turn T (hg _ _ _ _ _) (hc _ _ _ _ _) (he _ _ _ _ _) hcalm
   (fun b hb=>⟨(below b (fpLt b hb)).1,fun z=>?_,fun x c e z=>(hf b hb).2.2.2.2.1 x c (hc1 x c e) z,(below b (fpLt b hb)).2⟩)
   ⟨hDC,fun z=>absurd (stkLt acc z) (Nat.lt_irrefl _),fun x c e z=>absurd (cellLt x c (hc1 x c e)) (by rw [z];exact Nat.lt_irrefl _),by rw [hAn];exact Nat.le_refl _⟩ ?_ I2 st1 (fun b hb=>(hf b hb).1) w0
  ·rcases List.mem_cons.mp (I.stkSub b z) with q|q
   ·exact (hf b hb).2.1 q
   ·exact (hf b hb).2.2.1 q
  ·intro s' σ' H' ys us k J' rv q
   obtain ⟨e',n',l',f',d'⟩:=J'.pin (acc,bJ us k) (List.mem_append_right _ List.mem_cons_self)
   have n'':H' acc=none:=n'
   obtain ⟨m,hm,_⟩:=J'.loc
   have oldLt:∀ b o,s.heap.get? b=some o->b<acc:=fun b o e=>by rw [← hAn];exact Heap.lt_size e
   have neA:∀ b o,s.heap.get? b=some o->b≠acc:=fun b o e=>Nat.ne_of_lt (oldLt b o e)
   have un:Un (frs X.stack) fp H (upd H' acc (.lst ys)) s.heap s'.heap:=⟨J'.base.keep,J'.base.slot,fun b o e n hx=>by rw [aJ (neA b o e)];exact J'.base.free b o e n hx,J'.base.there,
    fun b xs e=>by
     have z:=J'.base.tups b xs e
     rw [aJ (aO z n'')];exact z,
    fun b o u e=>by
     have z:=J'.base.frzs b o u e
     rw [aJ (aO z n'')];exact z,
    fun b ps e=>by
     obtain ⟨more,z⟩:=J'.base.tbls b ps e
     exact ⟨more,by rw [aJ (aO z n'')];exact z⟩⟩
   have hok:iR X.prog X.w (upd H' acc (.lst ys)) s'.heap:=fun b u e=>by
    by_cases hb:b=acc
    ·subst hb
     rw [ak] at e;cases e
     exact ⟨hF _ _ q,us,k,rv,e'⟩
    ·rw [aJ hb] at e
     exact (J'.hok b u e).stay (fun c v _ z=>z) (fun c z=>by rw [aJ (aO z n'')];exact z) fun c xs z=>by rw [aJ (aO z n'')];exact z
   have IX:Inv X Z U (upd H' acc (.lst ys)) s':=I.call' J'.os un hok J'.bare fun b hb=>⟨(hf b hb).2.2.2.1,(hf b hb).2.1,(hf b hb).2.2.2.2.1,(hf b hb).2.2.2.2.2⟩
   refine fin acc C H' ys s' m IX n'' hm ?_ ?_ ?_ ?_ ?_ q
   ·rw [aJ (Ne.symm hDC)];exact J'.free
   ·exact Nat.ne_of_gt (Nat.lt_of_lt_of_le I.lt (by rw [hAn];exact hCle))
   ·exact Nat.le_trans I.sz (by rw [hAn];exact hCle)
   ·exact fun x c e z=>absurd (Nat.lt_of_lt_of_le (cellLt x c e) hCle) (by rw [z];exact Nat.lt_irrefl _)
   ·exact fun p hp z=>absurd (Nat.lt_of_lt_of_le (pinLt p hp) hCle) (by rw [z];exact Nat.lt_irrefl _)
 exact codeAny_compStart_list (loop _ rfl) (T.self _ 0 _ _ _ st1 (loop _ rfl))
theorem gD (S:bw X scope own js N') (hcalm:X.calm=true) (hi:PI X tg iter wi) (hg:∀ cl C s₀ H₀ ex,PG (aQ X scope N' cl C s₀ H₀ ex) tg g) (hc:∀ cl C s₀ H₀ ex,jq (aQ X scope N' cl C s₀ H₀ ex) ifs tt)
 (he:∀ cl C s₀ H₀ ex,PE (aQ X scope N' cl C s₀ H₀ ex) elt te) (hs:∀ x,foldedSetIterable iter X.env x=pure x:=by intro _;rfl):PE X (.ListComp elt [⟨tg,iter,ifs,0⟩] scope pos) (Cr wi g tt te own.length js):=by
 intro Z s U H Q I h
 obtain ⟨cl,hcl,hc1,hc2⟩:=iH (env:=X.env) scope fun y hy hk=>I.ok.has y.1 (S.free y hy hk)
 rw [eval_ListComp]
 refine wpAny_comprehension_free (use:=none) rfl hs hcl S.kind S.names (cz (hi Z s U H _ I h) fun v s1 h1=>cz h1 fun itv s2 h2=>?_)
 obtain ⟨it,fp,tn,J,H2,e,I2,T,st2,f2,W,⟨m0,w0⟩,turn⟩:=h2
 subst e
 refine sH (RR:=fun acc C=>compPost (model X.prog X.w) X.A X.xe none (EP X Z U Q) acc C) S hcalm hg hc he hc1 hc2 I2 T st2 f2 W w0 turn (fun ys H' q=>q.1) ?_
 intro acc C H' ys s' m IX na hm hCn hL hz hcn hpn q
 refine ⟨m,hm,fun h' hs'=>⟨.ref acc,_,?_,rfl,q.2 acc na⟩⟩
 exact IX.turned (t':=s'.toks) (it:=C) (fun b o hb e=>(hs'.2 b hb).trans e) hCn hL (.inr hz) hcn hpn
theorem fX {i:Nat} {x:Str} {pos' spos:Pos} (S:bw X scope own js N') (hcalm:X.calm=true) (hN:X.N.Nodup) (hx:X.N[i]?=some x) (hk:X.env.scope.names.lookup x=some .local) (hi:PI X tg iter wi) (hg:∀ cl C s₀ H₀ ex,PG (aQ X scope N' cl C s₀ H₀ ex) tg g) (hc:∀ cl C s₀ H₀ ex,jq (aQ X scope N' cl C s₀ H₀ ex) ifs tt)
 (he:∀ cl C s₀ H₀ ex,PE (aQ X scope N' cl C s₀ H₀ ex) elt te) (hsw:swapsWith (.ListComp elt [⟨tg,iter,ifs,0⟩] scope pos) (some (.Name x pos')) spos.line X.env=pure true:=by rfl) (hs:∀ x,foldedSetIterable iter X.env x=pure x:=by intro _;rfl) :
 PS X (.Assign [.Name x pos'] (.ListComp elt [⟨tg,iter,ifs,0⟩] scope pos) spos) (Dz (Cr wi g tt te own.length js) (bH i)):=by
 intro Z s U H D I h
 obtain ⟨cl,hcl,hc1,hc2⟩:=iH (env:=X.env) scope fun y hy hk=>I.ok.has y.1 (S.free y hy hk)
 rw [exec_Assign_Name_used _ _ _ _ hsw]
 refine wpAny_bind (wpAny_standAt (wpAny_bind ?_))
 show wpAny _ X.A (do let _ ← comprehension (.ListComp elt [⟨tg,iter,ifs,0⟩] scope pos) scope X.env _ (newList []) false (eval iter X.env) (some (assign (.Name x pos') X.env))) _ _ s
 refine wpAny_bind (wpAny_mono (wpAny_comprehension_free (use:=some (assign (.Name x pos') X.env)) (Q:=fun _ s'=>SP X Z D .next s') rfl hs hcl S.kind S.names
  (cz (hi Z s U H _ I h) fun v s1 h1=>cz h1 fun itv s2 h2=>?_)) (fun _ s' hq=>wpAny_pure (wpAny_pure hq)) fun _ _ e=>e)
 obtain ⟨it,fp,tn,J,H2,e,I2,T,st2,f2,W,⟨m0,w0⟩,turn⟩:=h2
 subst e
 refine sH (RR:=fun acc C=>compPost (model X.prog X.w) X.A X.xe (some (assign (.Name x pos') X.env)) (fun _ s'=>SP X Z D .next s') acc C) S hcalm hg hc he hc1 hc2 I2 T st2 f2 W w0 turn (fun ys H' q=>q.1) ?_
 intro acc C H' ys s' m IX na hm hCn hL hz hcn hpn q
 show wpAny _ X.A (assign (.Name x pos') X.env (.ref acc)) _ _ s'
 refine wpAny_assign_Name (lC IX hN hx (.inl hk) (v:=.ref acc) rfl (fun s'' I'' hsb=>?_) (.inr hk))
 obtain ⟨a,hsb,ha⟩:=hsb
 have haC:C≠a:=by
  rcases ha with z|z
  ·rw [z];exact hL
  ·exact fun q=>hcn x a z q.symm
 refine ⟨m,hm.sameBut hsb haC,fun h' hs'=>⟨_,_,?_,q.2 acc na⟩⟩
 exact I''.turned (t':=s''.toks) (it:=C) (fun b o hb e=>(hs'.2 b hb).trans e) hCn hL (.inr hz) hcn hpn
end
section
variable {X:Cx}
def Lf (i j:Int):Prop:=0<j/\j<340282366920938463463374607431768211456
theorem yE:iI X (binaryOp .FloorDiv) (rI Lf fun i j=>.int (i / j)):=Kz fun i j _ _ _ _ _ hc q=>by
 rw [← Int.fdiv_eq_ediv_of_nonneg i (Int.le_of_lt hc.1)] at q
 have h1:(0:Int)<j:=hc.1
 have h2:j<340282366920938463463374607431768211456:=hc.2
 have hb:j.natAbs<340282366920938463463374607431768211456:=by omega
 have he:(2:Nat) ^ 128=340282366920938463463374607431768211456:=by decide +kernel
 have hl:j.natAbs.log2<128:=(Nat.log2_lt (by omega)).mpr (Nat.lt_of_lt_of_eq hb he.symm)
 exact floordiv_int (by have:=hc.1;omega) q (.inl (PyProof.noPylong_of_log2 (by omega)))
theorem iD {lo:Int} {n:Nat} {g:TG} {te:TE} {F:List V->Hp->Prop} {σ0:St} {H0:Hp} (Pv:Nat->List V->St->Hp->Prop) (hn:n≤sizeLine) (h0:Pv 0 [] σ0 H0)
 (hs:∀ i ys U H,i<n->ys.length=i->Pv i ys U H->∀ N:List V->St->Hp->Prop,(∀ ys' σ' H',ys'.length=i+1->Pv (i+1) ys' σ' H'->N ys' σ' H')->g (.int (lo+i)) U H fun σ2 H2=>te σ2 H2 fun y H3=>N (ys++[y]) σ2 H3)
 (hd:∀ ys U H,ys.length=n->Pv n ys U H->F ys H) :
 ∃ W:Nat->Nat->List V->St->Hp->Prop,(∃ m,W 0 m [] σ0 H0)/\jJ (Az lo n) g mZ te F W:=by
 refine ⟨fun i m ys U H=>m=n-i/\i≤n/\ys.length=i/\Pv i ys U H,⟨n,by simp,Nat.zero_le _,rfl,h0⟩,?_⟩
 rintro i m ys U H ⟨rfl,hi,hl,p⟩
 by_cases hlt:i<n
 ·refine .inr ⟨hlt,by omega,fun x H' y=>?_⟩
  obtain ⟨e,y⟩:=y
  subst e y
  exact hs i ys U _ hlt hl p (fun ys' σ' H'=>∃ m',m'<n-i/\m'=n-(i+1)/\i+1≤n/\ys'.length=i+1/\Pv (i+1) ys' σ' H') fun ys' σ' H' hl' q=>⟨n-(i+1),by omega,rfl,hlt,hl',q⟩
 ·have e:i=n:=by omega
  subst e
  exact .inl ⟨Nat.le_refl _,hd ys U H hl p⟩
theorem xH {K:PySem.W.Frag} {a:Addr} {xs:List V} {g:TG} {te:TE} {F:List V->Hp->Prop} {σ0:St} {H0:Hp} (Pv:Nat->List V->St->Hp->Prop) (hn:xs.length≤sizeLine) (h0:Pv 0 [] σ0 H0) (hq:∀ i ys U H,i≤xs.length->Pv i ys U H->bM K H a xs)
 (hs:∀ i x ys U H,xs[i]?=some x->ys.length=i->Pv i ys U H->∀ N:List V->St->Hp->Prop,(∀ ys' σ' H',ys'.length=i+1->Pv (i+1) ys' σ' H'->N ys' σ' H')->g x U H fun σ2 H2=>te σ2 H2 fun y H3=>N (ys++[y]) σ2 H3)
 (hd:∀ ys U H,ys.length=xs.length->Pv xs.length ys U H->F ys H) :
 ∃ W:Nat->Nat->List V->St->Hp->Prop,(∃ m,W 0 m [] σ0 H0)/\jJ (BJ K a) g mZ te F W:=by
 refine ⟨fun i m ys U H=>m=xs.length-i/\i≤xs.length/\ys.length=i/\Pv i ys U H,⟨xs.length,by simp,Nat.zero_le _,rfl,h0⟩,?_⟩
 rintro i m ys U H ⟨rfl,hi,hl,p⟩
 have q:=hq i ys U H hi p
 by_cases hlt:i<xs.length
 ·refine .inr ⟨⟨xs,xs[i],q,by simp [hlt]⟩,by omega,fun x H' y=>?_⟩
  obtain ⟨e,y⟩:=y
  subst e
  exact hs i x ys U _ (y xs q) hl p (fun ys' σ' H'=>∃ m',m'<xs.length-i/\m'=xs.length-(i+1)/\i+1≤xs.length/\ys'.length=i+1/\Pv (i+1) ys' σ' H') fun ys' σ' H' hl' q=>⟨xs.length-(i+1),by omega,rfl,hlt,hl',q⟩
 ·have e:i=xs.length:=by omega
  subst e
  exact .inl ⟨⟨xs,q,Nat.le_refl _⟩,hd ys U H hl p⟩
theorem iw {K:PySem.W.Frag} {a:Addr} {xs:List V} {g:TG} {te:TE} {F:List V->Hp->Prop} {σ0:St} {H0:Hp} (Pv:Nat->List V->St->Hp->Prop) (hn:xs.length≤sizeLine) (h0:Pv 0 [] σ0 H0) (hq:∀ i ys U H,i≤xs.length->Pv i ys U H->b_ K H a xs)
 (hs:∀ i x ys U H,xs[i]?=some x->ys.length=i->Pv i ys U H->∀ N:List V->St->Hp->Prop,(∀ ys' σ' H',ys'.length=i+1->Pv (i+1) ys' σ' H'->N ys' σ' H')->g x U H fun σ2 H2=>te σ2 H2 fun y H3=>N (ys++[y]) σ2 H3)
 (hd:∀ ys U H,ys.length=xs.length->Pv xs.length ys U H->F ys H) :
 ∃ W:Nat->Nat->List V->St->Hp->Prop,(∃ m,W 0 m [] σ0 H0)/\jJ (Hm K a) g mZ te F W:=by
 refine ⟨fun i m ys U H=>m=xs.length-i/\i≤xs.length/\ys.length=i/\Pv i ys U H,⟨xs.length,by simp,Nat.zero_le _,rfl,h0⟩,?_⟩
 rintro i m ys U H ⟨rfl,hi,hl,p⟩
 have q:=hq i ys U H hi p
 by_cases hlt:i<xs.length
 ·refine .inr ⟨⟨xs,xs[i],q,by simp [hlt]⟩,by omega,fun x H' y=>?_⟩
  obtain ⟨e,y⟩:=y
  subst e
  exact hs i x ys U _ (y xs q) hl p (fun ys' σ' H'=>∃ m',m'<xs.length-i/\m'=xs.length-(i+1)/\i+1≤xs.length/\ys'.length=i+1/\Pv (i+1) ys' σ' H') fun ys' σ' H' hl' q=>⟨xs.length-(i+1),by omega,rfl,hlt,hl',q⟩
 ·have e:i=xs.length:=by omega
  subst e
  exact .inl ⟨⟨xs,q,Nat.le_refl _⟩,hd ys U H hl p⟩
structure cO (K:PySem.W.Frag) (mg:Str->Option Value) (x:Str) (st:Stmt) (ps:List Str) (f:Addr) (fd:FuncData):Prop where
 F:gU K x x st f fd
 mg:mg x=some (.ref f)
 b:Binds K fd ps []
def d9 (p:Addr) (H H':Hp):Prop:=∀ b o,H b=some o->b≠p->H' b=some o
theorem d9.refl {p:Addr} {H:Hp}:d9 p H H:=fun _ _ h _=>h
theorem d9.trans {p:Addr} {H H1 H2:Hp} (a:d9 p H H1) (b:d9 p H1 H2):d9 p H H2:=fun c o h hc=>b c o (a c o h hc) hc
theorem d9.upd {p:Addr} {H:Hp} {o:HO}:d9 p H (upd H p o):=fun b u h hb=>by rw [aJ hb];exact h
theorem d9.new {p q:Addr} {H:Hp} {o:HO} (h:H q=none):d9 p H (L2.upd H q o):=fun b u e _=>by rw [aJ (aO e h)];exact e
end
theorem gb {t u:TS} {D:Ends} {U:St} {H:Hp} (M:St->Hp->Prop) (h2:∀ σ' H',M σ' H'->u D σ' H') (h1:∀ N:St->Hp->Prop,(∀ σ' H',M σ' H'->N σ' H')->t { D with nx:=N } U H):JM t u D U H:=h1 (u D) h2
theorem aA.new {H:Hp} {q:Addr} {o:HO} (h:H q=none):aA H (upd H q o):=fun b u e=>by rw [aJ (aO e h)];exact e
theorem aA.but {H H':Hp} {p:Addr} (h:aA H H'):d9 p H H':=fun b o e _=>h b o e
theorem aA.tup {K:PySem.W.Frag} {H H':Hp} {a:Addr} {xs:List V} (e:aA H H') (h:b_ K H a xs):b_ K H' a xs:=by
 rcases h with (h|⟨o,h⟩)|h
 ·exact .inl (.inl (e _ _ h))
 ·exact .inl (.inr ⟨o,e _ _ h⟩)
 ·exact .inr h
theorem cF:bootBuiltins "len" = some (.builtin "len"):=by decide +kernel
theorem pU:bootBuiltins "list" = some (.type "list"):=by decide +kernel
theorem e_:bootBuiltins "tuple" = some (.type "tuple"):=by decide +kernel
theorem lA:bootBuiltins "str" = some (.type "str"):=by decide +kernel
theorem kE:bootBuiltins "int" = some (.type "int"):=by decide +kernel
theorem jC:bootBuiltins "bool" = some (.type "bool"):=by decide +kernel
theorem DX:bootBuiltins "min" = some (.builtin "min"):=by decide +kernel
theorem Gp:bootBuiltins "max" = some (.builtin "max"):=by decide +kernel
theorem uL:bootBuiltins "all" = some (.builtin "all"):=by decide +kernel
theorem GQ:bootBuiltins "any" = some (.builtin "any"):=by decide +kernel
theorem aX:bootBuiltins "isinstance" = some (.builtin "isinstance"):=by decide +kernel
theorem zB:bootBuiltins "sum" = some (.builtin "sum"):=by decide +kernel
theorem wA:bootBuiltins "sorted" = some (.builtin "sorted"):=by decide +kernel
end L2
namespace L2
open PySem PySem.Spec PyProof.Rows PySem.SeqAt
mutual
inductive Rep (K:PySem.W.Frag) (H:Hp):V->PyData->Prop
 |non:Rep K H .non .none
 |bl (b:Bool):Rep K H (.bl b) (.bool b)
 |int (i:Int):Rep K H (.int i) (.int i)
 |str (x:Str):Rep K H (.str x) (.str x)
 |tup {a:Addr} {xs:List V} {ds:List PyData}:b_ K H a xs->bK K H xs ds->Rep K H (.ref a) (.tuple ds)
 |lst {a:Addr} {xs:List V} {ds:List PyData}:bM K H a xs->bK K H xs ds->Rep K H (.ref a) (.list ds)
inductive bK (K:PySem.W.Frag) (H:Hp):List V->List PyData->Prop
 |nil:bK K H [] []
 |cons {x:V} {d:PyData} {xs:List V} {ds:List PyData}:Rep K H x d->bK K H xs ds->bK K H (x::xs) (d::ds)
end
section
variable {K:PySem.W.Frag} {H H':Hp}
theorem bK.length:∀ {xs:List V} {ds:List PyData},bK K H xs ds->xs.length=ds.length
 |_,_,.nil=>rfl
 |_,_,.cons _ t=>by rw [List.length_cons,List.length_cons,bK.length t]
mutual
theorem Rep.map (f1:∀ a xs,b_ K H a xs->b_ K H' a xs) (f2:∀ a xs,bM K H a xs->bM K H' a xs):∀ {v:V} {d:PyData},Rep K H v d->Rep K H' v d
 |_,_,.non=>.non
 |_,_,.bl b=>.bl b
 |_,_,.int i=>.int i
 |_,_,.str x=>.str x
 |_,_,.tup h r=>.tup (f1 _ _ h) (bK.map f1 f2 r)
 |_,_,.lst h r=>.lst (f2 _ _ h) (bK.map f1 f2 r)
theorem bK.map (f1:∀ a xs,b_ K H a xs->b_ K H' a xs) (f2:∀ a xs,bM K H a xs->bM K H' a xs):∀ {v:List V} {d:List PyData},bK K H v d->bK K H' v d
 |_,_,.nil=>.nil
 |_,_,.cons h r=>.cons (Rep.map f1 f2 h) (bK.map f1 f2 r)
end
theorem Rep.same {v:V} {d:PyData} (h:Rep K H v d) (e:aA H H'):Rep K H' v d:=h.map (fun _ _ z=>e.tup z) (fun _ _ z=>e.seq z)
theorem bK.same {v:List V} {d:List PyData} (h:bK K H v d) (e:aA H H'):bK K H' v d:=h.map (fun _ _ z=>e.tup z) (fun _ _ z=>e.seq z)
theorem d9.seq {p a:Addr} {xs:List V} {kvs:List (Key×V)} (e:d9 p H H') (hp:H p=some (.dK kvs)) (h:bM K H a xs):bM K H' a xs:=by
 rcases h with (h|⟨o,h⟩)|h
 ·exact .inl (.inl (e _ _ h (fZ h hp (by intro z;cases z))))
 ·exact .inl (.inr ⟨o,e _ _ h (fZ h hp (by intro z;cases z))⟩)
 ·exact .inr h
theorem d9.tup {p a:Addr} {xs:List V} {kvs:List (Key×V)} (e:d9 p H H') (hp:H p=some (.dK kvs)) (h:b_ K H a xs):b_ K H' a xs:=by
 rcases h with (h|⟨o,h⟩)|h
 ·exact .inl (.inl (e _ _ h (fZ h hp (by intro z;cases z))))
 ·exact .inl (.inr ⟨o,e _ _ h (fZ h hp (by intro z;cases z))⟩)
 ·exact .inr h
theorem Rep.but {p:Addr} {kvs:List (Key×V)} {v:V} {d:PyData} (h:Rep K H v d) (e:d9 p H H') (hp:H p=some (.dK kvs)):Rep K H' v d:=h.map (fun _ _ z=>e.tup hp z) (fun _ _ z=>e.seq hp z)
theorem bK.get':∀ {xs:List V} {ds:List PyData} {i:Nat} {x:V},bK K H xs ds->xs[i]?=some x->∃ d,ds[i]?=some d/\Rep K H x d
 |_,_,_,_,.nil,e=>by simp at e
 |_,_,0,_,.cons r _,e=>by simp at e;subst e;exact ⟨_,rfl,r⟩
 | _,_,i+1,d,.cons _ t,e=>by
   obtain ⟨u,h1,h2⟩:=bK.get' (i:=i) (x:=d) t (by simpa using e)
   exact ⟨u,by simpa using h1,h2⟩
end
section
variable {X:Cx} {Z:List (Addr×Obj)} {U:St} {H:Hp} {s:Shared}
end
mutual
def ik:PyData->PyData->Bool
 |.none,.none=>true
 |.bool a,.bool b=>a == b
 |.bool a,.int b=>(if a then 1 else 0) == b
 |.int a,.bool b=>a == (if b then 1 else 0)
 |.int a,.int b=>a == b
 |.str a,.str b=>a == b
 |.tuple a,.tuple b=>eY a b
 |.list a,.list b=>eY a b
 |_,_=>false
def eY:List PyData->List PyData->Bool
 |[],[]=>true
 |a::r,b::t=>ik a b && eY r t
 |_,_=>false
end
theorem oU:∀ (ds es:List PyData),eY ds es=((List.range (min ds.length es.length)).all (fun j=>ik (ds.getD j .none) (es.getD j .none)) && ds.length == es.length)
 |[],[]=>by simp [eY]
 |[],_::_=>by simp [eY]
 |_::_,[]=>by simp [eY]
 | a::r,b::t=>by
   rw [eY,oU r t,List.length_cons,List.length_cons,Nat.succ_min_succ,List.range_succ_eq_map,List.all_cons,List.all_map]
   simp only [List.getD_cons_zero,Bool.and_assoc]
   congr 1
   have e:(r.length+1 == t.length+1)=(r.length == t.length):=by
    rw [Bool.eq_iff_iff];simp
   rw [e]
   congr 1
mutual
def cu:PyData->Nat
 |.tuple xs=>bI xs+1
 |.list xs=>bI xs+1
 |_=>0
def bI:List PyData->Nat
 |[]=>0
 |d::r=>max (cu d) (bI r)
end
section
variable {X:Cx} {Z:List (Addr×Obj)} {U:St} {H:Hp} {s:Shared}
mutual
theorem Rep.fn (I:Inv X Z U H s):∀ {v:V} {d e:PyData} {u:Value},Rep X.K H v d->Rep X.K H v e->RelV v u->d=e/\ik d d=true
 |_,_,_,_,.non,.non,_=>⟨rfl,rfl⟩
 |_,_,_,_,.bl b,.bl _,_=>⟨rfl,by simp [ik]⟩
 |_,_,_,_,.int i,.int _,_=>⟨rfl,by simp [ik]⟩
 |_,_,_,_,.str x,.str _,_=>⟨rfl,by simp [ik]⟩
 | _,_,_,_,.tup h1 r1,.tup h2 r2,r=>by
   have e:=I.tuple_inj h1 h2
   subst e
   obtain ⟨its,rv,_,_⟩:=I.tuple h1
   obtain ⟨e,q⟩:=bK.fn I r1 r2 rv
   exact ⟨by rw [e],q⟩
 | _,_,_,_,.lst h1 r1,.lst h2 r2,r=>by
   have e:=I.list_inj h1 h2
   subst e
   obtain ⟨its,rv,_,_⟩:=I.list h1
   obtain ⟨e,q⟩:=bK.fn I r1 r2 rv
   exact ⟨by rw [e],q⟩
 | _,_,_,_,.tup h1 _,.lst h2 _,r=>by
   obtain ⟨_,_,⟨o,e1,c1,_⟩,_⟩:=I.tuple h1
   obtain ⟨_,_,⟨o',n,e2,c2,_⟩,_⟩:=I.list h2
   rw [e1] at e2;cases e2
   rw [c1] at c2;injection c2 with z;exact absurd z (by decide)
 | _,_,_,_,.lst h2 _,.tup h1 _,r=>by
   obtain ⟨_,_,⟨o,e1,c1,_⟩,_⟩:=I.tuple h1
   obtain ⟨_,_,⟨o',n,e2,c2,_⟩,_⟩:=I.list h2
   rw [e1] at e2;cases e2
   rw [c1] at c2;injection c2 with z;exact absurd z (by decide)
theorem bK.fn (I:Inv X Z U H s):∀ {v:List V} {d e:List PyData} {u:List Value},bK X.K H v d->bK X.K H v e->Vals v u->d=e/\eY d d=true
 |_,_,_,_,.nil,.nil,_=>⟨rfl,rfl⟩
 | _,_,_,_,.cons a b,.cons c d,.cons r rs=>by
   obtain ⟨e1,q1⟩:=Rep.fn I a c r
   obtain ⟨e2,q2⟩:=bK.fn I b d rs
   exact ⟨by rw [e1,e2],by simp [eY,q1,q2]⟩
end
theorem yI {vs ws:List V} {ds es:List PyData} {us xs:List Value} {A:Around} (rs1:bK X.K H vs ds) (rs2:bK X.K H ws es) (rv1:Vals vs us) (rv2:Vals ws xs) :
 ((List.range (min us.toArray.size xs.toArray.size)).all (fun j=>ik (ds.getD j .none) (es.getD j .none)) && us.toArray.size == xs.toArray.size)=eY ds es:=by
 rw [oU,List.size_toArray,List.size_toArray,← rv1.length,← rv2.length,rs1.length,rs2.length]
theorem Uc {l b:Addr} {vs ws:List V} {ds es:List PyData} {us xs:List Value} {A:Around} (rs1:bK X.K H vs ds) (rs2:bK X.K H ws es) (rv1:Vals vs us) (rv2:Vals ws xs) (p1:IsTup s.heap l us.toArray) (p2:IsTup s.heap b xs.toArray) (hu:A.units<cLine)
 (he:∀ j (h1:j<us.length) (h2:j<xs.length),EqAt A.in1 s us[j] xs[j] (ik (ds.getD j .none) (es.getD j .none))):RcAt A s (.ref l) (.ref b) (ik (.tuple ds) (.tuple es)):=by
 show RcAt A s (.ref l) (.ref b) (eY ds es)
 rw [← yI (A:=A) rs1 rs2 rv1 rv2]
 exact RcAt.tuples (show s.heap.IsTuple l us.toArray from p1) (show s.heap.IsTuple b xs.toArray from p2) hu fun j h1 h2=>by simpa using he j (by simpa using h1) (by simpa using h2)
theorem Ub {l b:Addr} {vs ws:List V} {ds es:List PyData} {us xs:List Value} {A:Around} (rs1:bK X.K H vs ds) (rs2:bK X.K H ws es) (rv1:Vals vs us) (rv2:Vals ws xs) (p1:s.heap.IsList l us.toArray) (p2:s.heap.IsList b xs.toArray) (hu:A.units<cLine)
 (he:∀ j (h1:j<us.length) (h2:j<xs.length),EqAt A.in1 s us[j] xs[j] (ik (ds.getD j .none) (es.getD j .none))):RcAt A s (.ref l) (.ref b) (ik (.list ds) (.list es)):=by
 show RcAt A s (.ref l) (.ref b) (eY ds es)
 have q:=yI (A:=A) rs1 rs2 rv1 rv2
 by_cases hz:us.toArray.size=xs.toArray.size
 ·rw [← q,hz,Nat.min_self,beq_self_eq_true,Bool.and_true,← hz]
  exact RcAt.lists p1 p2 hz hu fun j h1 h2=>by simpa using he j (by simpa using h1) (by simpa using h2)
 ·have e:eY ds es=false:=by
   rw [← q]
   have:(us.toArray.size == xs.toArray.size)=false:=by simpa using hz
   rw [this,Bool.and_false]
  rw [e]
  exact RcAt.lists_lengths p1 p2 (by simpa using hz) hu
theorem eqT (I:Inv X Z U H s) {l b:Addr} {vs ws:List V} {ds es:List PyData} {us xs:List Value} {A:Around} (h1:b_ X.K H l vs) (h2:b_ X.K H b ws) (rs1:bK X.K H vs ds) (rs2:bK X.K H ws es) (rv1:Vals vs us) (rv2:Vals ws xs) (p1:IsTup s.heap l us.toArray) (p2:IsTup s.heap b xs.toArray) (hu:A.units<cLine)
 (he:∀ j (h1:j<us.length) (h2:j<xs.length),EqAt A.in1 s us[j] xs[j] (ik (ds.getD j .none) (es.getD j .none))):EqAt A s (.ref l) (.ref b) (ik (.tuple ds) (.tuple es)):=by
 by_cases hlb:l=b
 ·subst hlb
  obtain ⟨e,q⟩:=Rep.fn I (.tup h1 rs1) (.tup h2 rs2) (u:=.ref l) rfl
  rw [← e,q]
  exact EqAt.same _
 ·exact EqAt.of_refs hlb (Uc rs1 rs2 rv1 rv2 p1 p2 hu he)
theorem UT (I:Inv X Z U H s) {l b:Addr} {vs ws:List V} {ds es:List PyData} {us xs:List Value} {A:Around} (h1:bM X.K H l vs) (h2:bM X.K H b ws) (rs1:bK X.K H vs ds) (rs2:bK X.K H ws es) (rv1:Vals vs us) (rv2:Vals ws xs) (p1:s.heap.IsList l us.toArray) (p2:s.heap.IsList b xs.toArray) (hu:A.units<cLine)
 (he:∀ j (h1:j<us.length) (h2:j<xs.length),EqAt A.in1 s us[j] xs[j] (ik (ds.getD j .none) (es.getD j .none))):EqAt A s (.ref l) (.ref b) (ik (.list ds) (.list es)):=by
 by_cases hlb:l=b
 ·subst hlb
  obtain ⟨e,q⟩:=Rep.fn I (.lst h1 rs1) (.lst h2 rs2) (u:=.ref l) rfl
  rw [← e,q]
  exact EqAt.same _
 ·exact EqAt.of_refs hlb (Ub rs1 rs2 rv1 rv2 p1 p2 hu he)
theorem du {A:Around} {n:Nat} (h:A.units+n<cLine):A.units<cLine:=by omega
theorem hu0 {A:Around} {n:Nat} (h:A.units+(n+1)<cLine):A.units<cLine:=by omega
theorem hu1 {A:Around} {n:Nat} (h:A.units+(n+1)<cLine):A.in1.units+n<cLine:=by show A.units+1+n<cLine;omega
mutual
theorem N8 (I:Inv X Z U H s):∀ {v w:V} {d e:PyData} {u x:Value} {A:Around},Rep X.K H v d->Rep X.K H w e->RelV v u->RelV w x->A.units+cu d<cLine->EqAt A s u x (ik d e)
 | _,_,_,_,u,x,A,.non,.non,r1,r2,hu=>by
   cases (show u=Value.none from r1)
   cases (show x=Value.none from r2)
   exact EqAt.same _
 | _,_,_,_,u,x,A,.non,.bl b2,r1,r2,hu=>by
   cases (show u=Value.none from r1)
   cases (show x=Value.bool b2 from r2)
   exact EqAt.none_bool b2
 | _,_,_,_,u,x,A,.non,.int i2,r1,r2,hu=>by
   cases (show u=Value.none from r1)
   obtain ⟨t2,e2⟩:=(show ∃ t,x=Value.int i2 t from r2);subst e2
   exact EqAt.none_int i2 t2
 | _,_,_,_,u,x,A,.non,.str y2,r1,r2,hu=>by
   cases (show u=Value.none from r1)
   obtain ⟨t2,e2⟩:=(show ∃ t,x=Value.str y2 t from r2);subst e2
   exact EqAt.none_str y2 t2
 | _,_,_,_,u,x,A,.non,.lst h2 rs2,r1,r2,hu=>by
   cases (show u=Value.none from r1)
   cases (show x=Value.ref _ from r2);obtain ⟨its2,rv2,p2,_⟩:=I.list h2
   exact EqAt.none_list p2.isList (du hu)
 | _,_,_,_,u,x,A,.non,.tup h2 rs2,r1,r2,hu=>by
   cases (show u=Value.none from r1)
   cases (show x=Value.ref _ from r2);obtain ⟨its2,rv2,p2,_⟩:=I.tuple h2
   exact EqAt.none_tuple p2 (du hu)
 | _,_,_,_,u,x,A,.bl b1,.non,r1,r2,hu=>by
   cases (show u=Value.bool b1 from r1)
   cases (show x=Value.none from r2)
   exact EqAt.bool_none b1
 | _,_,_,_,u,x,A,.bl b1,.bl b2,r1,r2,hu=>by
   cases (show u=Value.bool b1 from r1)
   cases (show x=Value.bool b2 from r2)
   exact EqAt.bool_bool b1 b2
 | _,_,_,_,u,x,A,.bl b1,.int i2,r1,r2,hu=>by
   cases (show u=Value.bool b1 from r1)
   obtain ⟨t2,e2⟩:=(show ∃ t,x=Value.int i2 t from r2);subst e2
   exact EqAt.bool_int b1 i2 t2
 | _,_,_,_,u,x,A,.bl b1,.str y2,r1,r2,hu=>by
   cases (show u=Value.bool b1 from r1)
   obtain ⟨t2,e2⟩:=(show ∃ t,x=Value.str y2 t from r2);subst e2
   exact EqAt.bool_str b1 y2 t2
 | _,_,_,_,u,x,A,.bl b1,.lst h2 rs2,r1,r2,hu=>by
   cases (show u=Value.bool b1 from r1)
   cases (show x=Value.ref _ from r2);obtain ⟨its2,rv2,p2,_⟩:=I.list h2
   exact EqAt.bool_list b1 p2.isList (du hu)
 | _,_,_,_,u,x,A,.bl b1,.tup h2 rs2,r1,r2,hu=>by
   cases (show u=Value.bool b1 from r1)
   cases (show x=Value.ref _ from r2);obtain ⟨its2,rv2,p2,_⟩:=I.tuple h2
   exact EqAt.bool_tuple b1 p2 (du hu)
 | _,_,_,_,u,x,A,.int i1,.non,r1,r2,hu=>by
   obtain ⟨t1,e1⟩:=(show ∃ t,u=Value.int i1 t from r1);subst e1
   cases (show x=Value.none from r2)
   exact EqAt.int_none i1 t1
 | _,_,_,_,u,x,A,.int i1,.bl b2,r1,r2,hu=>by
   obtain ⟨t1,e1⟩:=(show ∃ t,u=Value.int i1 t from r1);subst e1
   cases (show x=Value.bool b2 from r2)
   exact EqAt.int_bool i1 t1 b2
 | _,_,_,_,u,x,A,.int i1,.int i2,r1,r2,hu=>by
   obtain ⟨t1,e1⟩:=(show ∃ t,u=Value.int i1 t from r1);subst e1
   obtain ⟨t2,e2⟩:=(show ∃ t,x=Value.int i2 t from r2);subst e2
   exact EqAt.int_int i1 t1 i2 t2
 | _,_,_,_,u,x,A,.int i1,.str y2,r1,r2,hu=>by
   obtain ⟨t1,e1⟩:=(show ∃ t,u=Value.int i1 t from r1);subst e1
   obtain ⟨t2,e2⟩:=(show ∃ t,x=Value.str y2 t from r2);subst e2
   exact EqAt.int_str i1 t1 y2 t2
 | _,_,_,_,u,x,A,.int i1,.lst h2 rs2,r1,r2,hu=>by
   obtain ⟨t1,e1⟩:=(show ∃ t,u=Value.int i1 t from r1);subst e1
   cases (show x=Value.ref _ from r2);obtain ⟨its2,rv2,p2,_⟩:=I.list h2
   exact EqAt.int_list i1 t1 p2.isList (du hu)
 | _,_,_,_,u,x,A,.int i1,.tup h2 rs2,r1,r2,hu=>by
   obtain ⟨t1,e1⟩:=(show ∃ t,u=Value.int i1 t from r1);subst e1
   cases (show x=Value.ref _ from r2);obtain ⟨its2,rv2,p2,_⟩:=I.tuple h2
   exact EqAt.int_tuple i1 t1 p2 (du hu)
 | _,_,_,_,u,x,A,.str y1,.non,r1,r2,hu=>by
   obtain ⟨t1,e1⟩:=(show ∃ t,u=Value.str y1 t from r1);subst e1
   cases (show x=Value.none from r2)
   exact EqAt.str_none y1 t1
 | _,_,_,_,u,x,A,.str y1,.bl b2,r1,r2,hu=>by
   obtain ⟨t1,e1⟩:=(show ∃ t,u=Value.str y1 t from r1);subst e1
   cases (show x=Value.bool b2 from r2)
   exact EqAt.str_bool y1 t1 b2
 | _,_,_,_,u,x,A,.str y1,.int i2,r1,r2,hu=>by
   obtain ⟨t1,e1⟩:=(show ∃ t,u=Value.str y1 t from r1);subst e1
   obtain ⟨t2,e2⟩:=(show ∃ t,x=Value.int i2 t from r2);subst e2
   exact EqAt.str_int y1 t1 i2 t2
 | _,_,_,_,u,x,A,.str y1,.str y2,r1,r2,hu=>by
   obtain ⟨t1,e1⟩:=(show ∃ t,u=Value.str y1 t from r1);subst e1
   obtain ⟨t2,e2⟩:=(show ∃ t,x=Value.str y2 t from r2);subst e2
   exact EqAt.str_str y1 t1 y2 t2
 | _,_,_,_,u,x,A,.str y1,.lst h2 rs2,r1,r2,hu=>by
   obtain ⟨t1,e1⟩:=(show ∃ t,u=Value.str y1 t from r1);subst e1
   cases (show x=Value.ref _ from r2);obtain ⟨its2,rv2,p2,_⟩:=I.list h2
   exact EqAt.str_list y1 t1 p2.isList (du hu)
 | _,_,_,_,u,x,A,.str y1,.tup h2 rs2,r1,r2,hu=>by
   obtain ⟨t1,e1⟩:=(show ∃ t,u=Value.str y1 t from r1);subst e1
   cases (show x=Value.ref _ from r2);obtain ⟨its2,rv2,p2,_⟩:=I.tuple h2
   exact EqAt.str_tuple y1 t1 p2 (du hu)
 | _,_,_,_,u,x,A,.lst h1 rs1,.non,r1,r2,hu=>by
   cases (show u=Value.ref _ from r1);obtain ⟨its1,rv1,p1,_⟩:=I.list h1
   cases (show x=Value.none from r2)
   exact EqAt.list_none p1.isList (du hu)
 | _,_,_,_,u,x,A,.lst h1 rs1,.bl b2,r1,r2,hu=>by
   cases (show u=Value.ref _ from r1);obtain ⟨its1,rv1,p1,_⟩:=I.list h1
   cases (show x=Value.bool b2 from r2)
   exact EqAt.list_bool b2 p1.isList (du hu)
 | _,_,_,_,u,x,A,.lst h1 rs1,.int i2,r1,r2,hu=>by
   cases (show u=Value.ref _ from r1);obtain ⟨its1,rv1,p1,_⟩:=I.list h1
   obtain ⟨t2,e2⟩:=(show ∃ t,x=Value.int i2 t from r2);subst e2
   exact EqAt.list_int i2 t2 p1.isList (du hu)
 | _,_,_,_,u,x,A,.lst h1 rs1,.str y2,r1,r2,hu=>by
   cases (show u=Value.ref _ from r1);obtain ⟨its1,rv1,p1,_⟩:=I.list h1
   obtain ⟨t2,e2⟩:=(show ∃ t,x=Value.str y2 t from r2);subst e2
   exact EqAt.list_str y2 t2 p1.isList (du hu)
 | _,_,_,_,u,x,A,.lst h1 rs1,.lst h2 rs2,r1,r2,hu=>by
   cases (show u=Value.ref _ from r1);obtain ⟨its1,rv1,p1,_⟩:=I.list h1
   cases (show x=Value.ref _ from r2);obtain ⟨its2,rv2,p2,_⟩:=I.list h2
   exact UT I h1 h2 rs1 rs2 rv1 rv2 p1.isList p2.isList (hu0 hu) (lw I rs1 rs2 rv1 rv2 (hu1 hu))
 | _,_,_,_,u,x,A,.lst h1 rs1,.tup h2 rs2,r1,r2,hu=>by
   cases (show u=Value.ref _ from r1);obtain ⟨its1,rv1,p1,_⟩:=I.list h1
   cases (show x=Value.ref _ from r2);obtain ⟨its2,rv2,p2,_⟩:=I.tuple h2
   exact EqAt.list_tuple p1.isList p2 (du hu)
 | _,_,_,_,u,x,A,.tup h1 rs1,.non,r1,r2,hu=>by
   cases (show u=Value.ref _ from r1);obtain ⟨its1,rv1,p1,_⟩:=I.tuple h1
   cases (show x=Value.none from r2)
   exact EqAt.tuple_none p1 (du hu)
 | _,_,_,_,u,x,A,.tup h1 rs1,.bl b2,r1,r2,hu=>by
   cases (show u=Value.ref _ from r1);obtain ⟨its1,rv1,p1,_⟩:=I.tuple h1
   cases (show x=Value.bool b2 from r2)
   exact EqAt.tuple_bool b2 p1 (du hu)
 | _,_,_,_,u,x,A,.tup h1 rs1,.int i2,r1,r2,hu=>by
   cases (show u=Value.ref _ from r1);obtain ⟨its1,rv1,p1,_⟩:=I.tuple h1
   obtain ⟨t2,e2⟩:=(show ∃ t,x=Value.int i2 t from r2);subst e2
   exact EqAt.tuple_int i2 t2 p1 (du hu)
 | _,_,_,_,u,x,A,.tup h1 rs1,.str y2,r1,r2,hu=>by
   cases (show u=Value.ref _ from r1);obtain ⟨its1,rv1,p1,_⟩:=I.tuple h1
   obtain ⟨t2,e2⟩:=(show ∃ t,x=Value.str y2 t from r2);subst e2
   exact EqAt.tuple_str y2 t2 p1 (du hu)
 | _,_,_,_,u,x,A,.tup h1 rs1,.lst h2 rs2,r1,r2,hu=>by
   cases (show u=Value.ref _ from r1);obtain ⟨its1,rv1,p1,_⟩:=I.tuple h1
   cases (show x=Value.ref _ from r2);obtain ⟨its2,rv2,p2,_⟩:=I.list h2
   exact EqAt.tuple_list p1 p2.isList (du hu)
 | _,_,_,_,u,x,A,.tup h1 rs1,.tup h2 rs2,r1,r2,hu=>by
   cases (show u=Value.ref _ from r1);obtain ⟨its1,rv1,p1,_⟩:=I.tuple h1
   cases (show x=Value.ref _ from r2);obtain ⟨its2,rv2,p2,_⟩:=I.tuple h2
   exact eqT I h1 h2 rs1 rs2 rv1 rv2 p1 p2 (hu0 hu) (lw I rs1 rs2 rv1 rv2 (hu1 hu))
theorem lw (I:Inv X Z U H s):∀ {vs ws:List V} {ds es:List PyData} {us xs:List Value} {A:Around},bK X.K H vs ds->bK X.K H ws es->Vals vs us->Vals ws xs->A.units+bI ds<cLine->
 ∀ j (h1:j<us.length) (h2:j<xs.length),EqAt A s us[j] xs[j] (ik (ds.getD j .none) (es.getD j .none))
 |_,_,_,_,_,_,_,.nil,_,.nil,_,_,j,h1,_=>absurd h1 (Nat.not_lt_zero _)
 |_,_,_,_,_,_,_,.cons _ _,.nil,.cons _ _,.nil,_,j,_,h2=>absurd h2 (Nat.not_lt_zero _)
 |_,_,_,_,_,_,_,.cons a b,.cons c d,.cons r rs,.cons t ts,hu,0,_,_=>N8 I a c r t (by simp only [bI] at hu;simp only [List.getD_cons_zero];omega)
 |_,_,_,_,_,_,_,.cons a b,.cons c d,.cons r rs,.cons t ts,hu,j+1,h1,h2=>lw I b d rs ts (by simp only [bI] at hu;omega) j (by simpa using h1) (by simpa using h2)
end
theorem JW (I:Inv X Z U H s):∀ {v w:V} {d e:PyData} {u x:Value} {A:Around},Rep X.K H v d->Rep X.K H w e->RelV v u->RelV w x->A.units+cu d<cLine->RcAt A s u x (ik d e)
 | _,_,_,_,u,x,A,.non,.non,r1,r2,hu=>by
   cases (show u=Value.none from r1)
   cases (show x=Value.none from r2)
   exact RcAt.none_none
 | _,_,_,_,u,x,A,.non,.bl b2,r1,r2,hu=>by
   cases (show u=Value.none from r1)
   cases (show x=Value.bool b2 from r2)
   exact RcAt.none_bool b2
 | _,_,_,_,u,x,A,.non,.int i2,r1,r2,hu=>by
   cases (show u=Value.none from r1)
   obtain ⟨t2,e2⟩:=(show ∃ t,x=Value.int i2 t from r2);subst e2
   exact RcAt.none_int i2 t2
 | _,_,_,_,u,x,A,.non,.str y2,r1,r2,hu=>by
   cases (show u=Value.none from r1)
   obtain ⟨t2,e2⟩:=(show ∃ t,x=Value.str y2 t from r2);subst e2
   exact RcAt.none_str y2 t2
 | _,_,_,_,u,x,A,.non,.lst h2 rs2,r1,r2,hu=>by
   cases (show u=Value.none from r1)
   cases (show x=Value.ref _ from r2);obtain ⟨its2,rv2,p2,_⟩:=I.list h2
   exact RcAt.none_list p2.isList (du hu)
 | _,_,_,_,u,x,A,.non,.tup h2 rs2,r1,r2,hu=>by
   cases (show u=Value.none from r1)
   cases (show x=Value.ref _ from r2);obtain ⟨its2,rv2,p2,_⟩:=I.tuple h2
   exact RcAt.none_tuple p2 (du hu)
 | _,_,_,_,u,x,A,.bl b1,.non,r1,r2,hu=>by
   cases (show u=Value.bool b1 from r1)
   cases (show x=Value.none from r2)
   exact RcAt.bool_none b1
 | _,_,_,_,u,x,A,.bl b1,.bl b2,r1,r2,hu=>by
   cases (show u=Value.bool b1 from r1)
   cases (show x=Value.bool b2 from r2)
   exact RcAt.bool_bool b1 b2
 | _,_,_,_,u,x,A,.bl b1,.int i2,r1,r2,hu=>by
   cases (show u=Value.bool b1 from r1)
   obtain ⟨t2,e2⟩:=(show ∃ t,x=Value.int i2 t from r2);subst e2
   exact RcAt.bool_int b1 i2 t2
 | _,_,_,_,u,x,A,.bl b1,.str y2,r1,r2,hu=>by
   cases (show u=Value.bool b1 from r1)
   obtain ⟨t2,e2⟩:=(show ∃ t,x=Value.str y2 t from r2);subst e2
   exact RcAt.bool_str b1 y2 t2
 | _,_,_,_,u,x,A,.bl b1,.lst h2 rs2,r1,r2,hu=>by
   cases (show u=Value.bool b1 from r1)
   cases (show x=Value.ref _ from r2);obtain ⟨its2,rv2,p2,_⟩:=I.list h2
   exact RcAt.bool_list b1 p2.isList (du hu)
 | _,_,_,_,u,x,A,.bl b1,.tup h2 rs2,r1,r2,hu=>by
   cases (show u=Value.bool b1 from r1)
   cases (show x=Value.ref _ from r2);obtain ⟨its2,rv2,p2,_⟩:=I.tuple h2
   exact RcAt.bool_tuple b1 p2 (du hu)
 | _,_,_,_,u,x,A,.int i1,.non,r1,r2,hu=>by
   obtain ⟨t1,e1⟩:=(show ∃ t,u=Value.int i1 t from r1);subst e1
   cases (show x=Value.none from r2)
   exact RcAt.int_none i1 t1
 | _,_,_,_,u,x,A,.int i1,.bl b2,r1,r2,hu=>by
   obtain ⟨t1,e1⟩:=(show ∃ t,u=Value.int i1 t from r1);subst e1
   cases (show x=Value.bool b2 from r2)
   exact RcAt.int_bool i1 t1 b2
 | _,_,_,_,u,x,A,.int i1,.int i2,r1,r2,hu=>by
   obtain ⟨t1,e1⟩:=(show ∃ t,u=Value.int i1 t from r1);subst e1
   obtain ⟨t2,e2⟩:=(show ∃ t,x=Value.int i2 t from r2);subst e2
   exact RcAt.int_int i1 t1 i2 t2
 | _,_,_,_,u,x,A,.int i1,.str y2,r1,r2,hu=>by
   obtain ⟨t1,e1⟩:=(show ∃ t,u=Value.int i1 t from r1);subst e1
   obtain ⟨t2,e2⟩:=(show ∃ t,x=Value.str y2 t from r2);subst e2
   exact RcAt.int_str i1 t1 y2 t2
 | _,_,_,_,u,x,A,.int i1,.lst h2 rs2,r1,r2,hu=>by
   obtain ⟨t1,e1⟩:=(show ∃ t,u=Value.int i1 t from r1);subst e1
   cases (show x=Value.ref _ from r2);obtain ⟨its2,rv2,p2,_⟩:=I.list h2
   exact RcAt.int_list i1 t1 p2.isList (du hu)
 | _,_,_,_,u,x,A,.int i1,.tup h2 rs2,r1,r2,hu=>by
   obtain ⟨t1,e1⟩:=(show ∃ t,u=Value.int i1 t from r1);subst e1
   cases (show x=Value.ref _ from r2);obtain ⟨its2,rv2,p2,_⟩:=I.tuple h2
   exact RcAt.int_tuple i1 t1 p2 (du hu)
 | _,_,_,_,u,x,A,.str y1,.non,r1,r2,hu=>by
   obtain ⟨t1,e1⟩:=(show ∃ t,u=Value.str y1 t from r1);subst e1
   cases (show x=Value.none from r2)
   exact RcAt.str_none y1 t1
 | _,_,_,_,u,x,A,.str y1,.bl b2,r1,r2,hu=>by
   obtain ⟨t1,e1⟩:=(show ∃ t,u=Value.str y1 t from r1);subst e1
   cases (show x=Value.bool b2 from r2)
   exact RcAt.str_bool y1 t1 b2
 | _,_,_,_,u,x,A,.str y1,.int i2,r1,r2,hu=>by
   obtain ⟨t1,e1⟩:=(show ∃ t,u=Value.str y1 t from r1);subst e1
   obtain ⟨t2,e2⟩:=(show ∃ t,x=Value.int i2 t from r2);subst e2
   exact RcAt.str_int y1 t1 i2 t2
 | _,_,_,_,u,x,A,.str y1,.str y2,r1,r2,hu=>by
   obtain ⟨t1,e1⟩:=(show ∃ t,u=Value.str y1 t from r1);subst e1
   obtain ⟨t2,e2⟩:=(show ∃ t,x=Value.str y2 t from r2);subst e2
   exact RcAt.str_str y1 t1 y2 t2
 | _,_,_,_,u,x,A,.str y1,.lst h2 rs2,r1,r2,hu=>by
   obtain ⟨t1,e1⟩:=(show ∃ t,u=Value.str y1 t from r1);subst e1
   cases (show x=Value.ref _ from r2);obtain ⟨its2,rv2,p2,_⟩:=I.list h2
   exact RcAt.str_list y1 t1 p2.isList (du hu)
 | _,_,_,_,u,x,A,.str y1,.tup h2 rs2,r1,r2,hu=>by
   obtain ⟨t1,e1⟩:=(show ∃ t,u=Value.str y1 t from r1);subst e1
   cases (show x=Value.ref _ from r2);obtain ⟨its2,rv2,p2,_⟩:=I.tuple h2
   exact RcAt.str_tuple y1 t1 p2 (du hu)
 | _,_,_,_,u,x,A,.lst h1 rs1,.non,r1,r2,hu=>by
   cases (show u=Value.ref _ from r1);obtain ⟨its1,rv1,p1,_⟩:=I.list h1
   cases (show x=Value.none from r2)
   exact RcAt.list_none p1.isList (du hu)
 | _,_,_,_,u,x,A,.lst h1 rs1,.bl b2,r1,r2,hu=>by
   cases (show u=Value.ref _ from r1);obtain ⟨its1,rv1,p1,_⟩:=I.list h1
   cases (show x=Value.bool b2 from r2)
   exact RcAt.list_bool b2 p1.isList (du hu)
 | _,_,_,_,u,x,A,.lst h1 rs1,.int i2,r1,r2,hu=>by
   cases (show u=Value.ref _ from r1);obtain ⟨its1,rv1,p1,_⟩:=I.list h1
   obtain ⟨t2,e2⟩:=(show ∃ t,x=Value.int i2 t from r2);subst e2
   exact RcAt.list_int i2 t2 p1.isList (du hu)
 | _,_,_,_,u,x,A,.lst h1 rs1,.str y2,r1,r2,hu=>by
   cases (show u=Value.ref _ from r1);obtain ⟨its1,rv1,p1,_⟩:=I.list h1
   obtain ⟨t2,e2⟩:=(show ∃ t,x=Value.str y2 t from r2);subst e2
   exact RcAt.list_str y2 t2 p1.isList (du hu)
 | _,_,_,_,u,x,A,.lst h1 rs1,.lst h2 rs2,r1,r2,hu=>by
   cases (show u=Value.ref _ from r1);obtain ⟨its1,rv1,p1,_⟩:=I.list h1
   cases (show x=Value.ref _ from r2);obtain ⟨its2,rv2,p2,_⟩:=I.list h2
   exact Ub rs1 rs2 rv1 rv2 p1.isList p2.isList (hu0 hu) (lw I rs1 rs2 rv1 rv2 (hu1 hu))
 | _,_,_,_,u,x,A,.lst h1 rs1,.tup h2 rs2,r1,r2,hu=>by
   cases (show u=Value.ref _ from r1);obtain ⟨its1,rv1,p1,_⟩:=I.list h1
   cases (show x=Value.ref _ from r2);obtain ⟨its2,rv2,p2,_⟩:=I.tuple h2
   exact RcAt.list_tuple p1.isList p2 (du hu)
 | _,_,_,_,u,x,A,.tup h1 rs1,.non,r1,r2,hu=>by
   cases (show u=Value.ref _ from r1);obtain ⟨its1,rv1,p1,_⟩:=I.tuple h1
   cases (show x=Value.none from r2)
   exact RcAt.tuple_none p1 (du hu)
 | _,_,_,_,u,x,A,.tup h1 rs1,.bl b2,r1,r2,hu=>by
   cases (show u=Value.ref _ from r1);obtain ⟨its1,rv1,p1,_⟩:=I.tuple h1
   cases (show x=Value.bool b2 from r2)
   exact RcAt.tuple_bool b2 p1 (du hu)
 | _,_,_,_,u,x,A,.tup h1 rs1,.int i2,r1,r2,hu=>by
   cases (show u=Value.ref _ from r1);obtain ⟨its1,rv1,p1,_⟩:=I.tuple h1
   obtain ⟨t2,e2⟩:=(show ∃ t,x=Value.int i2 t from r2);subst e2
   exact RcAt.tuple_int i2 t2 p1 (du hu)
 | _,_,_,_,u,x,A,.tup h1 rs1,.str y2,r1,r2,hu=>by
   cases (show u=Value.ref _ from r1);obtain ⟨its1,rv1,p1,_⟩:=I.tuple h1
   obtain ⟨t2,e2⟩:=(show ∃ t,x=Value.str y2 t from r2);subst e2
   exact RcAt.tuple_str y2 t2 p1 (du hu)
 | _,_,_,_,u,x,A,.tup h1 rs1,.lst h2 rs2,r1,r2,hu=>by
   cases (show u=Value.ref _ from r1);obtain ⟨its1,rv1,p1,_⟩:=I.tuple h1
   cases (show x=Value.ref _ from r2);obtain ⟨its2,rv2,p2,_⟩:=I.list h2
   exact RcAt.tuple_list p1 p2.isList (du hu)
 | _,_,_,_,u,x,A,.tup h1 rs1,.tup h2 rs2,r1,r2,hu=>by
   cases (show u=Value.ref _ from r1);obtain ⟨its1,rv1,p1,_⟩:=I.tuple h1
   cases (show x=Value.ref _ from r2);obtain ⟨its2,rv2,p2,_⟩:=I.tuple h2
   exact Uc rs1 rs2 rv1 rv2 p1 p2 (hu0 hu) (lw I rs1 rs2 rv1 rv2 (hu1 hu))
end
section
variable {X:Cx}
def Ra (K:PySem.W.Frag):R2:=fun x y H Q=>∃ d e,Rep K H x d/\Rep K H y e/\cu d≤60/\Q (.bl (ik d e)) H
theorem yz (hu:X.A.units+64<cLine):iI X (compareOp .Eq) (Ra X.K):=by
 intro Z s U H x y v u Q I rx ry h
 obtain ⟨d,e,h1,h2,hd,q⟩:=h
 exact JW I h1 h2 rx ry (by omega) _ _ _ _ ⟨.bl _,H,I,rfl,q⟩
theorem jB {e:PyData}:∀ {es:List PyData},e∈es->cu e≤bI es
 |_::_,.head _=>by simp only [bI];omega
 |_::r,.tail _ h=>by have:=jB h;simp only [bI];omega
def Dk:PyData->String
 |.none=>"NoneType"
 |.bool _=>"bool"
 |.int _=>"int"
 |.str _=>"str"
 |.list _=>"list"
 |.tuple _=>"tuple"
 |.dict _=>"dict"
theorem isD {Z:List (Addr×Obj)} {U:St} {H:Hp} {s:Shared} {A:Around} {E:Value->Shared->Prop} {Q:Value->Shared->Prop} {v:V} {d:PyData} {u c:Value} {b:Bool} (I:Inv X Z U H s) (r:Rep X.K H v d) (rv:RelV v u)
 (e:PySem.W.kitOne X.K (.type (Dk d)) c=some b) (h:∀ tk,Q (.bool b) { s with toks:=tk }):wpAny (model X.prog X.w) A (call (.builtin "isinstance") [u,c]) Q E s:=by
 cases r with
 |non=>cases (show u=Value.none from rv);exact PySem.W.kia_one PySem.W.kitx_none I.kIn True.intro e (fun z=>nomatch z) h
 |bl y=>cases (show u=Value.bool y from rv);exact PySem.W.kia_one PySem.W.kitx_bool I.kIn True.intro e (fun z=>nomatch z) h
 |int i=>obtain ⟨t,q⟩:=(show ∃ t,u=Value.int i t from rv);cases q;exact PySem.W.kia_one PySem.W.kitx_int I.kIn True.intro e (fun z=>nomatch z) h
 |str y=>obtain ⟨t,q⟩:=(show ∃ t,u=Value.str y t from rv);cases q;exact PySem.W.kia_one PySem.W.kitx_str I.kIn True.intro e (fun z=>nomatch z) h
 | tup g _=>
   cases (show u=Value.ref _ from rv)
   obtain ⟨_,_,⟨o,h1,h2,_⟩,_⟩:=I.tuple g
   exact PySem.W.kia_one PySem.W.kitx_tuple I.kIn ⟨o,h1,h2⟩ e (fun z=>nomatch z) h
 | lst g _=>
   cases (show u=Value.ref _ from rv)
   obtain ⟨_,_,⟨o,n,h1,h2,_⟩,_⟩:=I.list g
   exact PySem.W.kia_one PySem.W.kitx_list I.kIn ⟨o,h1,h2⟩ e (fun z=>nomatch z) h
theorem Ru {Z:List (Addr×Obj)} {U:St} {H:Hp} {s:Shared} {A:Around} {E:Value->Shared->Prop} {Q:Value->Shared->Prop} {v:V} {d:PyData} {u:Value} {tp:Addr} {dd:Option Addr} {its:List Value} {n:Nat} {sl:Array (Option Value)} {b:Bool} (I:Inv X Z U H s) (r:Rep X.K H v d) (rv:RelV v u)
 (htp:s.heap.get? tp=some ⟨.type "tuple",dd,.seq its.toArray n,sl⟩) (e:PySem.W.kitAny X.K (.type (Dk d)) its=some b) (h:∀ tk,Q (.bool b) { s with toks:=tk }):wpAny (model X.prog X.w) A (call (.builtin "isinstance") [u,.ref tp]) Q E s:=by
 cases r with
 |non=>cases (show u=Value.none from rv);exact PySem.W.kia_tup PySem.W.kitx_none I.kIn True.intro htp e (fun z=>nomatch z) h
 |bl y=>cases (show u=Value.bool y from rv);exact PySem.W.kia_tup PySem.W.kitx_bool I.kIn True.intro htp e (fun z=>nomatch z) h
 |int i=>obtain ⟨t,q⟩:=(show ∃ t,u=Value.int i t from rv);cases q;exact PySem.W.kia_tup PySem.W.kitx_int I.kIn True.intro htp e (fun z=>nomatch z) h
 |str y=>obtain ⟨t,q⟩:=(show ∃ t,u=Value.str y t from rv);cases q;exact PySem.W.kia_tup PySem.W.kitx_str I.kIn True.intro htp e (fun z=>nomatch z) h
 | tup g _=>
   cases (show u=Value.ref _ from rv)
   obtain ⟨_,_,⟨o,h1,h2,_⟩,_⟩:=I.tuple g
   exact PySem.W.kia_tup PySem.W.kitx_tuple I.kIn ⟨o,h1,h2⟩ htp e (fun z=>nomatch z) h
 | lst g _=>
   cases (show u=Value.ref _ from rv)
   obtain ⟨_,_,⟨o,n,h1,h2,_⟩,_⟩:=I.list g
   exact PySem.W.kia_tup PySem.W.kitx_list I.kIn ⟨o,h1,h2⟩ htp e (fun z=>nomatch z) h
def QT (K:PySem.W.Frag):List V->Hp->VK->Prop:=fun xs H Q=>∃ x n d b,xs=[x,.ty n]/\Rep K H x d/\PySem.W.kitOne K (.type (Dk d)) (.type n)=some b/\Q (.bl b) H
theorem cg:eX X (.builtin "isinstance") (QT X.K):=by
 intro Z s U H xs us Q I r h
 obtain ⟨x,n,d,b,rfl,hr,e,q⟩:=h
 cases r with
 | cons r1 r=>
   cases r with
   | cons r2 r=>
     cases r
     cases (show _=Value.type n from r2)
     exact isD I hr r1 e fun tk=>⟨.bl b,H,I.tok tk,rfl,q⟩
def MK (K:PySem.W.Frag):List V->Hp->VK->Prop:=fun xs H Q=>∃ x a n m d b,xs=[x,.ref a]/\H a=some (.tup [.ty n,.ty m])/\Rep K H x d/\PySem.W.kitAny K (.type (Dk d)) [.type n,.type m]=some b/\Q (.bl b) H
theorem oO:eX X (.builtin "isinstance") (MK X.K):=by
 intro Z s U H xs us Q I r h
 obtain ⟨x,a,n,m,d,b,rfl,ha,hr,e,q⟩:=h
 cases r with
 | cons r1 r=>
   cases r with
   | cons r2 r=>
     cases r
     cases (show _=Value.ref a from r2)
     obtain ⟨z,its,rv,o,h1,h2,k,h3⟩:=(show cG X.prog X.w H s.heap a (.tup [.ty n,.ty m]) from I.hok a _ ha)
     obtain ⟨cls,dd,data,sl⟩:=o
     simp only at h2 h3
     subst h2 h3
     cases rv with
     | cons g1 rv=>
       cases rv with
       | cons g2 rv=>
         cases rv
         cases (show _=Value.type n from g1)
         cases (show _=Value.type m from g2)
         exact Ru I hr r1 h1 e fun tk=>⟨.bl b,H,I.tok tk,rfl,q⟩
theorem rJ {xs:List V} {us:List Value}:∀ {bs:List Bool},xs=bs.map V.bl->Vals xs us->us=bs.map Value.bool:=by
 intro bs e r
 induction bs generalizing xs us with
 |nil=>subst e;cases r;rfl
 | cons b t ih=>
   subst e
   cases r with
   |cons r1 r=>rw [List.map_cons,ih rfl r,(show _=Value.bool b from r1)]
theorem range_all (bs:List Bool):(List.range bs.length).all (fun i=>bs.getD i false)=bs.all id:=by
 induction bs with
 |nil=>rfl
 |cons b t ih=>rw [List.length_cons,List.range_succ_eq_map,List.all_cons,List.all_map,List.all_cons,← ih];rfl
theorem range_any (bs:List Bool):(List.range bs.length).any (fun i=>bs.getD i false)=bs.any id:=by
 induction bs with
 |nil=>rfl
 |cons b t ih=>rw [List.length_cons,List.range_succ_eq_map,List.any_cons,List.any_map,List.any_cons,← ih];rfl
theorem lF {P:Program} {w:World} {A:Around} {bs:List Bool}:TruthOf P w A (fun i v=>((bs.map Value.bool).toArray)[i]?=some v) fun i=>bs.getD i false:=fun i v s Q E hP hQ=>by
 dsimp only at hP hQ
 rw [List.getElem?_toArray,List.getElem?_map] at hP
 cases e:bs[i]? with
 |none=>rw [e] at hP;cases hP
 | some b=>
   rw [e] at hP
   cases hP
   rw [List.getD_eq_getElem?_getD,e] at hQ
   exact wpAny_pure hQ
def B_ (K:PySem.W.Frag) (f:List Bool->Bool):List V->Hp->VK->Prop:=fun xs H Q=>∃ a bs,xs=[.ref a]/\bM K H a (bs.map V.bl)/\Q (.bl (f bs)) H
theorem kZ (hh:X.calm=true):eX X (.builtin "all") (B_ X.K fun bs=>bs.all id):=by
 intro Z s U H xs us Q I r h
 obtain ⟨a,bs,rfl,hq,q⟩:=h
 cases r with
 | cons r1 r=>
   cases r
   cases (show _=Value.ref a from r1)
   obtain ⟨its,rv,p,hz⟩:=I.list hq
   have e:=rJ rfl rv
   subst e
   refine PySem.call_all_walk (wpAny_pyIter_list p.isList ?_)
   have hne:a≠s.heap.objs.size:=(by obtain ⟨o,ho,_⟩:=p.isList;exact Nat.ne_of_lt (Heap.lt_size ho))
   refine ⟨s.heap.objs.size,_,_,_,_,_,_,rfl,Walks.list (A:=X.A.in1) (I.ok.hd hh) s.heap.objs.size a hne (bs.map Value.bool).toArray,⟨⟨_,Heap.get?_push_size _ rfl,rfl,rfl⟩,?_⟩,lF,fun h' tk hk=>?_⟩
   ·obtain ⟨o,ho,hc,n,hd⟩:=p.isList
    exact ⟨o,Heap.get?_push_of_some _ ho,hc,n,hd⟩
   ·rw [List.size_toArray,List.length_map,range_all]
    exact ⟨.bl _,H,I.kept fun b o e=>hk b o (by simp;exact Nat.ne_of_lt (Heap.lt_size e)) (Heap.get?_push_of_some _ e),rfl,q⟩
theorem vX (hh:X.calm=true):eX X (.builtin "any") (B_ X.K fun bs=>bs.any id):=by
 intro Z s U H xs us Q I r h
 obtain ⟨a,bs,rfl,hq,q⟩:=h
 cases r with
 | cons r1 r=>
   cases r
   cases (show _=Value.ref a from r1)
   obtain ⟨its,rv,p,hz⟩:=I.list hq
   have e:=rJ rfl rv
   subst e
   refine PySem.call_any_walk (wpAny_pyIter_list p.isList ?_)
   have hne:a≠s.heap.objs.size:=(by obtain ⟨o,ho,_⟩:=p.isList;exact Nat.ne_of_lt (Heap.lt_size ho))
   refine ⟨s.heap.objs.size,_,_,_,_,_,_,rfl,Walks.list (A:=X.A.in1) (I.ok.hd hh) s.heap.objs.size a hne (bs.map Value.bool).toArray,⟨⟨_,Heap.get?_push_size _ rfl,rfl,rfl⟩,?_⟩,lF,fun h' tk hk=>?_⟩
   ·obtain ⟨o,ho,hc,n,hd⟩:=p.isList
    exact ⟨o,Heap.get?_push_of_some _ ho,hc,n,hd⟩
   ·rw [List.size_toArray,List.length_map,range_any]
    exact ⟨.bl _,H,I.kept fun b o e=>hk b o (by simp;exact Nat.ne_of_lt (Heap.lt_size e)) (Heap.get?_push_of_some _ e),rfl,q⟩
theorem zZ {us:List Value}:∀ {ys:List Str},Vals (ys.map V.str) us->StrsAre us ys:=by
 intro ys
 induction ys generalizing us with
 |nil=>intro r;cases r;exact .nil
 | cons y t ih=>
   intro r
   cases r with
   | cons r1 r=>
     obtain ⟨tk,e⟩:=(show ∃ t,_=Value.str y t from r1)
     subst e
     exact .cons _ _ (ih r)
def rJoin (K:PySem.W.Frag):V->List V->Hp->VK->Prop:=fun x vs H Q=>∃ z a ys,x=.str z/\vs=[.ref a]/\bM K H a (ys.map V.str)/\(ys.map (·.length)).sum+ys.length*z.length≤16777216/\Q (.str (Txt.join z ys)) H
theorem Bm:Hr X "str.join" (rJoin X.K):=by
 intro Z s U H x vs v us Q I rx rv h
 obtain ⟨z,a,ys,rfl,rfl,hq,hl,q⟩:=h
 obtain ⟨t,e⟩:=(show ∃ t,v=Value.str z t from rx)
 subst e
 cases rv with
 | cons r1 r=>
   cases r
   cases (show _=Value.ref a from r1)
   obtain ⟨its,rs,p,hz⟩:=I.list hq
   exact join_list p.isList (by simpa using zZ rs) hl fun t' k=>⟨.str _,H,I.tok k,⟨t',rfl⟩,q⟩
def QB (f:Str->Bool):V->List V->Hp->VK->Prop:=fun x vs H Q=>∃ z,x=.str z/\vs=[]/\Q (.bl (f z)) H
theorem tU:Hr X "str.isascii" (QB fun x=>x.cps.all (·<128)):=by
 intro Z s U H x vs v us Q I rx rv h
 obtain ⟨z,rfl,rfl,q⟩:=h
 obtain ⟨t,e⟩:=(show ∃ t,v=Value.str z t from rx)
 subst e
 cases rv
 exact call_gives PySem.F.slot_str_isascii (typeIs_str _ _ _) PySem.F.entry_str_isascii (PySem.F.args_str_isascii_1 _) (gives_str_isascii z t) ⟨.bl _,H,I,rfl,q⟩
theorem tO:Hr X "str.isalpha" (QB fun x=>x.length > 0 && x.cps.all Unicode.isAlpha):=by
 intro Z s U H x vs v us Q I rx rv h
 obtain ⟨z,rfl,rfl,q⟩:=h
 obtain ⟨t,e⟩:=(show ∃ t,v=Value.str z t from rx)
 subst e
 cases rv
 exact call_gives PySem.F.slot_str_isalpha (typeIs_str _ _ _) PySem.F.entry_str_isalpha (PySem.F.args_str_isalpha_1 _) (gives_str_isalpha z t) ⟨.bl _,H,I,rfl,q⟩
theorem ut:Hr X "str.islower" (QB fun x=>x.cps.any Unicode.isLower && !x.cps.any fun c=>Unicode.isUpper c || Unicode.isTitle c):=by
 intro Z s U H x vs v us Q I rx rv h
 obtain ⟨z,rfl,rfl,q⟩:=h
 obtain ⟨t,e⟩:=(show ∃ t,v=Value.str z t from rx)
 subst e
 cases rv
 exact call_gives PySem.F.slot_str_islower (typeIs_str _ _ _) PySem.F.entry_str_islower (PySem.F.args_str_islower_1 _) (gives_str_islower z t) ⟨.bl _,H,I,rfl,q⟩
end
structure Iw (osc:Scope) (N:List Str) (scope:Scope) (own:List Str) (js:List Nat) (N':List Str):Prop where
 kind:scope.kind=.function
 nocell:∀ y∈scope.names,y.2≠.cell
 names:∀ y∈scope.names,y.2=.local->scope.names.lookup y.1=some .local
 free:∀ y∈scope.names,y.2=.free->osc.names.lookup y.1=some .cell∨osc.names.lookup y.1=some .free
 nm:N'=own++js.map fun j=>N.getD j Str.empty
 fr:∀ j∈js,j<N.length/\(N.getD j Str.empty,NameKind.free)∈scope.names/\∀ y∈scope.names,y.1=N.getD j Str.empty->y.2=.free
theorem bw.of {X:Cx} {osc scope:Scope} {N own N':List Str} {js:List Nat} (h1:X.env.scope=osc) (h2:X.N=N) (h:Iw osc N scope own js N'):bw X scope own js N':=by
 subst h1 h2
 exact ⟨h.kind,h.nocell,h.names,h.free,h.nm,fun j hj=>⟨(h.fr j hj).1,(h.fr j hj).2.1,fun k hk=>(h.fr j hj).2.2 _ hk rfl⟩⟩
mutual
def iJ:PyData->Nat
 |.tuple xs=>max xs.length (gf xs)
 |.list xs=>max xs.length (gf xs)
 |_=>0
def gf:List PyData->Nat
 |[]=>0
 |d::r=>max (iJ d) (gf r)
end
theorem nG {e:PyData}:∀ {es:List PyData},e∈es->iJ e≤gf es
 |_::_,.head _=>by simp only [gf];omega
 |_::r,.tail _ h=>by have:=nG h;simp only [gf];omega
theorem dz {X:Cx} {x:Str} {n:String} {pos:Pos} (hg:Gl X x) (hm:X.mg x=none) (hv:bootBuiltins x=some (.type n)) (hn:x ≠ "__name__":=by decide) (hd:(x == ("__debug__" : Str))=false:=by decide):PE X (.Name x pos) (tC (.ty n)):=Ad (v:=.ty n) hg hm hv rfl hn hd
theorem cI {c:Bool} {A B:Prop} (h:c=true) (q:A):if c=true then A else B:=by rw [if_pos h];exact q
theorem bZ {c:Bool} {A B:Prop} (h:c=false) (q:B):if c=true then A else B:=by rw [if_neg (by rw [h];exact Bool.false_ne_true)];exact q
section
variable {X:Cx} {a b c d:Expr} {ta tb tc td:TE} {pos:Pos}
def Ag (r r' r'':R2) (ta tb tc td:TE):TE:=fun U H Q=>ta U H fun x H1=>tb U H1 fun y H2=>r x y H2 fun z H3=>∃ k,z=.bl k/\
 (if k=true then tc U H3 fun w' H4=>r' y w' H4 fun z' H5=>∃ k',z'=.bl k'/\(if k'=true then td U H5 fun v' H6=>r'' w' v' H6 Q else Q (.bl false) H5) else Q (.bl false) H3)
theorem wH {op op' op'':CmpOp} {r r' r'':R2} (ho:iI X (compareOp op) r) (ho':iI X (compareOp op') r') (ho'':iI X (compareOp op'') r'') (ha:PE X a ta) (hb:PE X b tb) (hc:PE X c tc) (hd:PE X d td)
 (hm:lastMarks [op,op',op''] [b,c,d]=false:=by with_unfolding_all rfl):PT X (.Compare a [op,op',op''] [b,c,d] pos) (zN (Ag r r' r'' ta tb tc td)):=by
 intro Z s U H Q I h
 refine isTrue_chain (cz (ha Z s U H _ I h) fun v s1 ⟨x,H1,I1,r1,q1⟩=>test_link (cz (hb Z s1 U H1 _ I1 q1) fun u s2 ⟨y,H2,I2,r2,q2⟩=>
  cz (ho Z s2 U H2 x y v u _ I2 r1 r2 q2) fun d' s3 ⟨z,H3,I3,r3,k,e,q3⟩=>?_)) hm
 subst e
 cases r3
 refine wpAny_truthy_bool ?_
 cases k with
 | false=>
   obtain ⟨k',e',q'⟩:=q3
   cases e'
   exact ite_ff ⟨H3,I3,q'⟩
 | true=>
   refine ite_tt (test_link (cz (hc Z s3 U H3 _ I3 q3) fun w' s4 ⟨z',H4,I4,r4,q4⟩=>cz (ho' Z s4 U H4 y z' u w' _ I4 r2 r4 q4) fun d'' s5 ⟨z2,H5,I5,r5,k2,e2,q5⟩=>?_))
   subst e2
   cases r5
   refine wpAny_truthy_bool ?_
   cases k2 with
   | false=>
     obtain ⟨k',e',q'⟩:=q5
     cases e'
     exact ite_ff ⟨H5,I5,q'⟩
   | true=>
     refine ite_tt (test_last (cz (hd Z s5 U H5 _ I5 q5) fun w2 s6 ⟨z3,H6,I6,r6,q6⟩=>cz (ho'' Z s6 U H6 z' z3 w' w2 _ I6 r4 r6 q6) fun d3 s7 ⟨z4,H7,I7,r7,k3,e3,q7⟩=>?_))
     subst e3
     cases r7
     exact wpAny_truthy_bool ⟨H7,I7,q7⟩
end
section
variable {X:Cx} {es:List Expr} {t:TF} {e:Expr} {te:TE} {pos:Pos}
end
section
variable {X:Cx} {CX:nH} {k:Nat} {f C:Addr} {fd:FuncData} {ps:List Str} {sp:Sp} {E:XK}
end
end L2
namespace HT
open PySem PySem.Spec PyProof.Rows
section
variable {prog:Program} {w:World} {A:Around} {E:Value->Shared->Prop} {s:Shared}
theorem Al {t b:Addr} {ws:List Value} {Q:Value->Shared->Prop} (ht:IsTup s.heap t #[]) (hb:IsTup s.heap b ws.toArray) (h:Q (.ref b) s):wpAny (model prog w) A (binaryOp .Add (.ref t) (.ref b)) Q E s:=by
 obtain ⟨⟨_,dd,_,sl⟩,ho,rfl,n,rfl⟩:=id ht
 obtain ⟨⟨_,dd2,_,sl2⟩,ho2,rfl,n2,rfl⟩:=id hb
 exact concat_meets ⟨_,ho,rfl⟩ ⟨_,ho2,rfl⟩ noFill_tuple_add seq_tuple_add PySem.F.slot_tuple_add PySem.F.entry_tuple_add (PySem.F.args_tuple_add_2 _ _) (tuple_addW0 t b #[] ws.toArray n n2 dd dd2 sl sl2 rfl) ⟨ho,ho2,h⟩
theorem xx {t sl:Addr} {items:Array Value} {a b c:Value} {lo step:Int} {n:Nat} {Q:Value->Shared->Prop} (ht:IsTup s.heap t items) (hs:s.heap.IsSliceOf sl a b c)
 (ha:∀ (A':Around) (Q':Int×Int×Nat->Shared->Prop) (E':Value->Shared->Prop),Q' (lo,step,n) s->wpAny (model prog w) A' (Builtin.Slice.sliceApplied (.ref sl) (pure (items.size:Int))) Q' E' s)
 (h1:(lo == 0 && step == 1 && n == items.size)=true->Q (.ref t) s)
 (h2:¬ (lo == 0 && step == 1 && n == items.size)=true->((List.range n).filterMap fun (k:Nat)=>items[(lo+(k:Int)*step).toNat]?).length≤sizeLine/\
  Q (.ref s.heap.objs.size) { s with heap:=s.heap.push { cls:=.type "tuple",data:=.seq ((List.range n).filterMap fun (k:Nat)=>items[(lo+(k:Int)*step).toNat]?).toArray } }) :
 wpAny (model prog w) A (getItem (.ref t) (.ref sl)) Q E s:=by
 obtain ⟨so,hso,hsc,hsd⟩:=id hs
 have hty:s.TypeIs (.ref sl) "slice":=⟨so,hso,hsc⟩
 obtain ⟨to,hto,htc,nt,htd⟩:=id ht
 unfold getItem
 try with_reducible refine wpAny_holding ?_
 first|refine wpAny_bind (wpAny_pure ?_)|skip
 refine wpAny_bind (wpAny_sequenceKey ht.typeIs (by decide) (wpAny_bind (wpAny_callSpecial?_slot (name:=Str.ofString "__getitem__") ht.typeIs PyProof.Rows.slot_tuple_getitem (wpAny_call_entry PyProof.Rows.slot_tuple_getitem ht.typeIs entry_tuple_getitem ?_ (args_tuple_getitem _ _)))))
 show wpAny _ _ (Builtin.Tuple.tupleItemsOf (.ref t) >>= _) _ _ s
 refine wpAny_bind (tupleItemsOf_ ht (wpAny_bind (wpAny_typeOf hty ?_)))
 rw [if_pos (by decide)]
 refine wpAny_bind (ha _ _ _ ?_)
 show wpAny _ _ (if (lo == 0 && step == 1 && n == items.size)=true then _ else _) _ _ s
 by_cases hw:(lo == 0 && step == 1 && n == items.size)=true
 ·rw [if_pos hw]
  have hx:wpAny (model prog w) A.in1 (Builtin.Tuple.tupleIsExact (.ref t)) (fun b s'=>b=true/\s'=s) E s:=by
   unfold Builtin.Tuple.tupleIsExact
   refine wpAny_bind (wpAny_typeOf_ref hto ?_)
   rw [htc]
   exact wpAny_pure ⟨rfl,rfl⟩
  first
   |refine wpAny_bind (wpAny_mono hx (fun b s' h'=>?_) fun _ _ z=>z)
   |refine wpAny_bind (wpAny_bind (wpAny_mono hx (fun b s' h'=>?_) fun _ _ z=>z))
  obtain ⟨rfl,rfl⟩:=h'
  rw [if_pos rfl]
  first
   |exact wpAny_bind (wpAny_rule (wpAny_pure ⟨_,rfl,wpAny_pure (h1 hw)⟩))
   |exact wpAny_bind (wpAny_rule (wpAny_bind (wpAny_pure (wpAny_pure ⟨_,rfl,wpAny_pure (h1 hw)⟩))))
 ·rw [if_neg hw]
  obtain ⟨hz,hq⟩:=h2 hw
  have hok:sizeOk (.seq ((List.range n).filterMap fun (k:Nat)=>items[(lo+(k:Int)*step).toNat]?).toArray):=by
   show (_:Array Value).size≤sizeLine
   rw [List.size_toArray];exact hz
  first
   |exact wpAny_bind (m:=Builtin.Tuple.tupleExact _) (wpAny_newObj_type (wpAny_pure ⟨_,rfl,wpAny_pure hq⟩) hok)
   |exact wpAny_bind (m:=Builtin.Tuple.tupleExact _) (wpAny_newObj_type (wpAny_bind (wpAny_pure (wpAny_pure ⟨_,rfl,wpAny_pure hq⟩))) hok)
   |exact wpAny_bind (wpAny_bind (m:=Builtin.Tuple.tupleExact _) (wpAny_newObj_type (wpAny_pure (wpAny_pure ⟨_,rfl,wpAny_pure hq⟩)) hok))
end
end HT
namespace L2
open PySem PySem.Spec PyProof.Rows PySem.SeqAt
section
variable {X:Cx}
def pN (K:PySem.W.Frag):R2:=fun x y H Q=>∃ a b xs ys,x=.ref a/\y=.ref b/\b_ K H a xs/\b_ K H b ys/\xs.length+ys.length≤sizeLine/\(xs=[]->Q (.ref b) H)/\(ys=[]->Q (.ref a) H)/\∀ p,H p=none->Q (.ref p) (upd H p (.tup (xs++ys)))
theorem iz:iI X (binaryOp .Add) (pN X.K):=by
 intro Z s U H x y v u Q I rx ry h
 obtain ⟨a,b,xs,ys,rfl,rfl,ha,hb,hz,q0,q1,q2⟩:=h
 by_cases hx:xs=[]
 ·subst hx
  cases (show v=Value.ref a from rx)
  cases (show u=Value.ref b from ry)
  obtain ⟨its,r1,p1,_⟩:=I.tuple ha
  obtain ⟨its2,r2,p2,_⟩:=I.tuple hb
  cases r1
  exact HT.Al p1 p2 ⟨.ref b,H,I,rfl,q0 rfl⟩
 ·refine Bw Z s U H _ _ v u Q I rx ry ⟨a,b,xs,ys,rfl,rfl,ha,hb,hx,hz,q1,fun _=>q2⟩
def Gv (K:PySem.W.Frag):V->Option Int->Option Int->Hp->VK->Prop:=fun x lo hi H Q=>∃ a xs,x=.ref a/\b_ K H a xs/\(iM xs lo hi=xs->Q (.ref a) H)/\∀ p,H p=none->Q (.ref p) (upd H p (.tup (iM xs lo hi)))
theorem dU:Jo X (Gv X.K):=by
 intro Z s U H x v vl vu lo hi sl Q I rx hs pl pu h
 obtain ⟨a,xs,rfl,hx,q1,q2⟩:=h
 by_cases hw:HT.dF xs.length 0 lo=0/\HT.dF xs.length xs.length hi=xs.length
 ·cases (show v=Value.ref a from rx)
  obtain ⟨its,r,ht,hz⟩:=I.tuple hx
  have hlen:its.toArray.size=xs.length:=by rw [List.size_toArray];exact r.length.symm
  refine ⟨"tuple",_,PyProof.Rows.slot_tuple_getitem.lookup,ht.typeIs,?_⟩
  have e:iM xs lo hi=xs:=by
   unfold iM
   rw [hw.1,hw.2,List.drop_zero,Nat.sub_zero,List.take_length]
  refine HT.xx ht hs (fun A' Q' E' q'=>HT.h_ hs pl pu q') (fun _=>⟨.ref a,H,I,rfl,q1 e⟩) fun hn=>(hn ?_).elim
  rw [hlen,hw.1,hw.2]
  simp
 ·exact Ft Z s U H _ v vl vu lo hi sl Q I rx hs pl pu ⟨a,xs,rfl,hx,hw,q2⟩
end
section
variable {X:Cx} {CX:nH} {k:Nat} {f C:Addr} {fd:FuncData} {ps:List Str} {sp:Sp} {E:XK}
end
section
variable {X:Cx} {Z:List (Addr×Obj)} {U:St} {H:Hp} {s:Shared} {h':Heap}
theorem Inv.turnLaid {a:Addr} {o:HO} {t':Nat} {fp:List Addr} (I:Inv X Z U H s) (k:∀ b u,b∉fp->s.heap.get? b=some u->h'.get? b=some u) (ke:∀ b∈fp,∃ u,h'.get? b=some u) (hf:∀ b∈fp,jo X Z H b) (hp:s.heap.objs.size≤a) (new:cG X.prog X.w (upd H a o) h' a o) :
 Inv X Z U (upd H a o) { s with heap:=h',toks:=t' }:=by
 have hn:H a=none:=I.hok.fresh hp
 have off:∀ b u,H b=some u->b∉fp:=fun b u e z=>by rw [(hf b z).1] at e;cases e
 have up:∀ b u,H b=some u->(upd H a o) b=some u:=fun b u e=>by rw [aJ (aO e hn)];exact e
 refine I.step (g':=s.gens) (d':=s.drawn) (ch:=fp) (fun b hb=>?_) (fun b u _ _ hc e _=>k b u hc e) (fun b u _ _ hc e _=>⟨u.slots,k b u hc e⟩) (fun b u _ e n=>?_) (fun b u hc e=>⟨u,k b u hc e⟩) (fun b xs e=>up b _ e) (fun b u z e=>up b _ e) (fun b ps e=>⟨#[],by rw [up b _ e];simp⟩) (fun m hm=>?_) (fun b u e=>?_) I.bare
 ·obtain ⟨_,f1,_,f3,f4,f5⟩:=hf b hb
  exact ⟨f3,f1,f4,f5⟩
 ·rw [aJ (Nat.ne_of_lt (Nat.lt_of_lt_of_le (Heap.lt_size e) hp))];exact n
 ·obtain ⟨u,es,ep,ho,r⟩:=hm
  exact ⟨u,es,ep,k _ u (fun z=>(hf _ z).2.1 rfl) ho,r⟩
 ·by_cases hb:b=a
  ·subst hb;rw [ak] at e;cases e;exact new
  ·rw [aJ hb] at e
   refine (I.hok b u e).stay (fun c v hc q=>k c v ?_ q) (fun c q=>up c _ q) fun c xs q=>up c _ q
   rcases hc with rfl|z
   ·exact off _ u e
   ·exact off c _ z
theorem yH {prog:Program} {w:World} {A:Around} {E:Value->Shared->Prop} {s:Shared} {it l:Addr} {i:Nat} {items:Array Value} {x:Value} {Q:Value->Shared->Prop} (hit:s.heap.IsTupleIter it l i) (hl:s.heap.IsTuple l items) (hx:items[i]?=some x)
 (hQ:∀ g,g.IsTupleIter it l (i+1)->Heap.SameBut it s.heap g->Q x { s with heap:=g }):wpAny (model prog w) A (Builtin.SmallTypes.nextOf (.ref it)) Q E s:=by
 obtain ⟨o,ho,hc,hd⟩:=id hit
 obtain ⟨ol,hol,_,nl,hdl⟩:=hl
 unfold Builtin.SmallTypes.nextOf
 refine wpAny_bind (wpAny_callSpecial?_slot (name:=Str.ofString "__next__") hit.typeIs F.slot_tuple_iterator_next (wpAny_call_entry F.slot_tuple_iterator_next hit.typeIs F.entry_tuple_iterator_next ?_ (F.args_tuple_iterator_next_1 _)))
 show wpAny _ _ (field (.ref it) 0 >>= _) _ _ s
 refine wpAny_bind (wpAny_field ho hd (x:=.ref l) rfl ?_)
 show wpAny _ _ (if (Value.ref l == Value.none)=true then _ else _) _ _ s
 rw [if_neg (show ¬ ((Value.ref l == Value.none)=true) from nofun)]
 show wpAny _ _ (field (.ref it) 1 >>= _) _ _ s
 refine wpAny_bind (wpAny_field ho hd (x:=.int i 0) rfl ?_)
 show wpAny _ _ (seqItems? (.ref l) >>= _) _ _ s
 refine wpAny_bind (wpAny_seqItems hol hdl ?_)
 simp only [Int.toNat_natCast,hx]
 refine wpAny_bind (wpAny_setField ho hd (by simp) (wpAny_pure ⟨x,rfl,wpAny_pure (hQ _ ⟨_,Heap.get?_update_self _ ho (Obj.isFreed_of_fields (Obj.data_mapFields hd _)),(Obj.cls_mapFields ..).trans hc,by rw [Obj.data_mapFields hd];simp [rawInt]⟩ (Heap.SameBut.update ..))⟩))
theorem oX {prog:Program} {w:World} {A:Around} {E:Value->Shared->Prop} {s:Shared} {it l:Addr} {i:Nat} {items:Array Value} {Q:Value->Shared->Prop} (hh:A.handled=none) (hit:s.heap.IsTupleIter it l i) (hl:s.heap.IsTuple l items) (hx:items[i]?=none)
 (hE:∀ g e,Heap.ExtBut it s.heap g->(∃ o,g.get? e=some o/\o.cls=.type "StopIteration")->E (.ref e) { s with heap:=g }):wpAny (model prog w) A (Builtin.SmallTypes.nextOf (.ref it)) Q E s:=by
 obtain ⟨o,ho,hc,hd⟩:=id hit
 obtain ⟨ol,hol,_,nl,hdl⟩:=hl
 unfold Builtin.SmallTypes.nextOf
 refine wpAny_bind (wpAny_callSpecial?_slot (name:=Str.ofString "__next__") hit.typeIs F.slot_tuple_iterator_next (wpAny_call_entry F.slot_tuple_iterator_next hit.typeIs F.entry_tuple_iterator_next ?_ (F.args_tuple_iterator_next_1 _)))
 show wpAny _ _ (field (.ref it) 0 >>= _) _ _ s
 refine wpAny_bind (wpAny_field ho hd (x:=.ref l) rfl ?_)
 show wpAny _ _ (if (Value.ref l == Value.none)=true then _ else _) _ _ s
 rw [if_neg (show ¬ ((Value.ref l == Value.none)=true) from nofun)]
 show wpAny _ _ (field (.ref it) 1 >>= _) _ _ s
 refine wpAny_bind (wpAny_field ho hd (x:=.int i 0) rfl ?_)
 show wpAny _ _ (seqItems? (.ref l) >>= _) _ _ s
 refine wpAny_bind (wpAny_seqItems hol hdl ?_)
 simp only [Int.toNat_natCast,hx]
 refine wpAny_bind (wpAny_rule (wpAny_bind (wpAny_setField ho hd (by simp) ?_)))
 show wpAny _ _ (newExc (.type "StopIteration") [] >>= _) _ _ _
 refine wpAny_bind ?_
 simp only [newExc,newTuple]
 refine wpAny_bind (wpAny_newObj_type ?_ (by size_fits))
 refine wpAny_bind (m:=firstArgMember _ _) (wpAny_of_eq (a:=Value.none) (by first|rfl|(simp only [firstArgMember];rfl)) (wpAny_newObj_type ?_ (by size_fits)))
 simp only [raiseNew]
 refine wpAny_bind (wpAny_handled ?_)
 first|rw [show A.in1.handled=none from hh]|rw [hh]
 exact wpAny_bind (wpAny_pure (wpAny_throw (hE _ _ (((Heap.SameBut.update ..).extBut.push _).push _) ⟨_,Heap.get?_push_size _ rfl,rfl⟩)))
theorem Df {prog:Program} {w:World} {A:Around} (hh:A.handled=none) (it l:Addr) (hne:l≠it) (items:Array Value):Draws prog w A it [it,l] items.size (fun i v=>items[i]?=some v) (fun i h=>h.IsTupleIter it l i/\h.IsTuple l items) where
 live:=fun _ _ st=>let ⟨o,ho,_⟩:=st.1;⟨o,ho⟩
 frame:=fun _ _ _ st hk=>⟨st.1.at fun o e=>hk it (by simp) o e,let ⟨o,e,r⟩:=st.2;⟨o,hk l (by simp) o e,r⟩⟩
 item:=fun i s Q E hi st hQ=>yH st.1 st.2 (x:=items[i]) (by simp [hi]) fun g g1 g2=>hQ _ g s.toks (by simp [hi]) ⟨g1,let ⟨o,e,r⟩:=st.2;⟨o,(g2.2 l hne).trans e,r⟩⟩ g2
 done:=fun s Q E st hE=>oX hh st.1 st.2 (by simp) hE
theorem wj (l:Addr) (items:Array Value) (n:Nat) (dct:Option Addr) (sl:Array (Option Value)) :
 Meets (Builtin.«enumerate.__new__» ⟨[.type "enumerate",.ref l],[]⟩) (fun _ R s=>s.heap.get? l=some { cls:=.type "tuple",dict:=dct,data:=.seq items n,slots:=sl }/\
  R (.ok (.ret (.ref (s.heap.push { cls:=.type "tuple_iterator",data:=.fields #[.ref l,.int 0 0] }).objs.size)))
    { s with heap:=(s.heap.push { cls:=.type "tuple_iterator",data:=.fields #[.ref l,.int 0 0] }).push { cls:=.type "enumerate",data:=.fields #[.none,.bool false,.ref s.heap.objs.size,rawInt 0,.none,.none] } }):=
 .of_wp fun prog w A R s h=>by
  obtain ⟨hp,g,d,tk,os⟩:=s
  obtain ⟨hl,h⟩:=h
  have hsub:=sub_enumerate
  have hL:Heap.IsTuple (Shared.heap ⟨hp,g,d,tk,os⟩) l items:=⟨_,hl,rfl,n,rfl⟩
  wp_walk using AutoSeq1.wpAny_loadPart' hl
  refine wpAny_stack_any fun st=>wpAny_pure ?_
  split
  ·rename_i c _ _ _ _ _
   cases (c == Value.type "enumerate") <;> (wp_walk using AutoSeq1.wpAny_loadPart' hl,wpAny_pyIter_tuple hL;exact ⟨_,rfl,h⟩)
  ·wp_walk using AutoSeq1.wpAny_loadPart' hl,wpAny_pyIter_tuple hL
   exact ⟨_,rfl,h⟩
theorem tV {prog:Program} {w:World} {A:Around} {E:Value->Shared->Prop} {s:Shared} {l:Addr} {items:Array Value} {Q:Value->Shared->Prop} (hL:s.heap.IsTuple l items)
 (h:∀ g,IsEnum g (s.heap.objs.size+1) s.heap.objs.size 0 .none->g.IsTupleIter s.heap.objs.size l 0->(∀ b o,s.heap.get? b=some o->g.get? b=some o)->Q (.ref (s.heap.objs.size+1)) { s with heap:=g }):wpAny (model prog w) A (call (.type "enumerate") [.ref l]) Q E s:=by
 obtain ⟨⟨_,dd,_,sl⟩,ho,rfl,n,rfl⟩:=id hL
 refine callType_new F.called_enumerate (by decide) (F.typeCall_enumerate_1 _) (F.newCall_enumerate_1 _) (fun obj=>F.args_object_init_2 obj _) F.entry_enumerate_new (wj l items n dd sl) ⟨ho,?_⟩
 have hz:(s.heap.push { cls:=.type "tuple_iterator",data:=.fields #[.ref l,.int 0 0] }).objs.size=s.heap.objs.size+1:=Heap.size_push ..
 have he:=Heap.get?_push_size (s.heap.push { cls:=.type "tuple_iterator",data:=.fields #[.ref l,.int 0 0] }) (o:={ cls:=.type "enumerate",data:=.fields #[.none,.bool false,.ref s.heap.objs.size,rawInt 0,.none,.none] }) rfl
 rw [hz] at he
 show _/\_
 rw [hz]
 exact ⟨⟨_,he,rfl⟩,h _ he ⟨_,Heap.get?_push_of_some _ (Heap.get?_push_size _ rfl),rfl,rfl⟩ fun b o x=>Heap.get?_push_of_some _ (Heap.get?_push_of_some _ x)⟩
def Ln (K:PySem.W.Frag) (a:Addr):It:=
 ⟨fun i H=>∃ xs x,b_ K H a xs/\xs[i]?=some x,fun i H v H'=>∃ p x,H p=none/\v=.ref p/\(∀ xs,b_ K H a xs->xs[i]?=some x)/\H'=upd H p (.tup [.int i,x]),fun i H=>∃ xs,b_ K H a xs/\xs.length≤i⟩
theorem uc {P:Program} {w:World} {K:PySem.W.Frag} {elts:List Expr} {k1} {pos:Pos} (a e it:Addr) (hei:e≠it):Turn P w K (.Tuple elts k1 pos) (Ln K a) [e,it] e (fun i h=>(∃ old,IsEnum h e it i old)/\h.IsTupleIter it a i) where
 mem:=by simp
 obj:=fun i h st b hb=>by
  obtain ⟨⟨old,h1⟩,o,h2,_,h3⟩:=st
  rcases List.mem_cons.mp hb with rfl|hb
  ·exact ⟨_,h1,fun v z=>by cases (show Data.fields _=Data.cell v from z)⟩
  ·cases List.mem_singleton.mp hb
   exact ⟨o,h2,fun v z=>by rw [h3] at z;cases z⟩
 keep:=fun i h h' st k=>⟨let ⟨old,h1⟩:=st.1;⟨old,k e (by simp) _ h1⟩,st.2.at fun o z=>k it (by simp) o z⟩
 item:=by
  intro X hP hw hK hc i Z s U H E I hf st hg
  subst hP hw hK
  obtain ⟨xs,x,hq,hx⟩:=hg
  obtain ⟨its,rv,p,hz⟩:=I.tuple hq
  obtain ⟨u,hu,ru⟩:=rv.get hx
  obtain ⟨⟨old,he⟩,ht⟩:=st
  have hit:s.heap.IsTuple a its.toArray:=p
  have han:a≠it:=by
   rintro rfl
   obtain ⟨o1,h1,h2,_⟩:=id hit
   obtain ⟨o2,h3,h4,_⟩:=id ht
   rw [h1] at h3;cases h3
   rw [h2] at h4;exact absurd (Value.type.inj h4) (by decide)
  have hae:a≠e:=by
   rintro rfl
   obtain ⟨o1,h1,h2,_⟩:=id hit
   rw [he] at h1;cases h1
   exact absurd (Value.type.inj h2) (by decide)
  have D:=Df (prog:=X.prog) (w:=X.w) (A:=X.A.in1) (I.ok.hd hc) it a han its.toArray
  have hlt:i<its.toArray.size:=by
   have:=(List.getElem?_eq_some_iff.mp hx).1
   have hl:=rv.length
   rw [List.size_toArray];omega
  refine wpAny_pyNext_enum_itemD D he ⟨ht,hit⟩ hlt hei (by simp [hei,Ne.symm hae]) fun y g tk hy ho hst' htup hsz hk=>?_
  have e1:y=u:=by
   have:its.toArray[i]?=some u:=by simpa using hu
   rw [this] at hy;exact (Option.some.inj hy).symm
  subst e1
  refine ⟨_,rfl,?_⟩
  have helt:e<s.heap.objs.size:=Heap.lt_size he
  have hilt:it<s.heap.objs.size:=let ⟨o,z,_⟩:=ht;Heap.lt_size z
  have I1:Inv X Z U (upd H s.heap.objs.size (.tup [.int i,x])) { s with heap:=g,toks:=tk+1 }:=by
   refine I.turnLaid (fp:=[e,it]) (fun b o hb z=>hk b o (fun q=>hb (by simp [q])) (fun q=>hb (by simp [q])) z) (fun b hb=>?_) hf (Nat.le_refl _) ?_
   ·rcases List.mem_cons.mp hb with rfl|hb
    ·exact ⟨_,ho⟩
    ·cases List.mem_singleton.mp hb
     exact let ⟨o,z,_⟩:=hst'.1;⟨o,z⟩
   ·exact ⟨by show 2≤sizeLine;decide,[.int i tk,y],.cons ⟨_,rfl⟩ (.cons ru .nil),⟨_,htup,rfl,_,rfl⟩⟩
  have hno:∀ b∈[e,it],(upd H s.heap.objs.size (.tup [.int i,x])) b=none:=fun b hb=>by
   have hbl:b<s.heap.objs.size:=by
    rcases List.mem_cons.mp hb with rfl|hb
    ·exact helt
    ·cases List.mem_singleton.mp hb;exact hilt
   rw [aJ (Nat.ne_of_lt hbl)]
   exact (hf b hb).1
  refine wpAny_letOwnedTupleGo_enum ho fun g2 he2 hs2=>?_
  obtain ⟨f0,f1,f2,f3,f4,f5⟩:=hf e (by simp)
  refine ⟨.ref s.heap.objs.size,_,I1.turned (t':=tk+1) (fun b o hb z=>(hs2.2 b hb).trans z) (hno e (by simp)) f1 f3 f4 f5,rfl,⟨s.heap.objs.size,x,I.hok.fresh (Nat.le_refl _),rfl,fun ys hy=>by rw [I.tuple_inj hy hq];exact hx,rfl⟩,⟨⟨_,by simpa using he2⟩,?_⟩,hno⟩
  exact hst'.1.at fun o z=>(hs2.2 it (Ne.symm hei)).trans z
 done:=by
  intro X hP hw hK hc i Z s U H E I hf st hg
  subst hP hw hK
  obtain ⟨xs,hq,hx⟩:=hg
  obtain ⟨its,rv,p,hz⟩:=I.tuple hq
  obtain ⟨⟨old,he⟩,ht⟩:=st
  obtain ⟨f0,f1,f2,f3,f4,f5⟩:=hf it (by simp)
  have hl:=rv.length
  have hT:s.TypeIs (.ref e) "enumerate":=⟨_,he,rfl⟩
  unfold pyNext
  refine wpAny_bind (wpAny_attempt (wpAny_callSpecial?_slot (name:=Str.ofString "__next__") hT F.slot_enumerate_next (wpAny_call_entry F.slot_enumerate_next hT F.entry_enumerate_next ?_ (F.args_enumerate_next_1 _))))
  show wpAny _ _ (field (.ref e) 2 >>= _) _ _ _
  refine wpAny_bind (wpAny_field he rfl (x:=.ref it) rfl (wpAny_bind (oX (A:=X.A.in1) (I.ok.hd hc) ht (show s.heap.IsTuple a its.toArray from p) (by simp;omega) fun g x ex hx'=>?_)))
  obtain ⟨o,ho,hcl⟩:=hx'
  exact wpAny_bind (wpAny_isInstance (T:="StopIteration") (b:=true) ⟨o,ho,hcl⟩ isSubtype_stop (wpAny_pure ⟨rfl,I.turned (t':=s.toks) (fun b o hb e=>ex b o hb e) f0 f1 f3 f4 f5⟩))
 self:=fun _ _ _ _ _ st h=>let ⟨_,he⟩:=st.1;wpAny_pyIter_enum he h
def NB (K:PySem.W.Frag) (ta:TA):TI:=fun U H R=>ta U H fun vs H1=>∃ a,vs=[.ref a]/\(∃ xs,b_ K H1 a xs)/\R (Ln K a) H1
theorem yX {elts:List Expr} {k1} {pt:Pos} {a:Expr} {ta:TA} {p pos:Pos} (hg:Gl X "enumerate") (hm:X.mg "enumerate" = none) (hv:bootBuiltins "enumerate" = some (.type "enumerate")) (ha:PA X [a] ta) (hs:starEach [a] X.env=[(false,eval a X.env)]:=by rfl):PI X (.Tuple elts k1 pt) (.Call (.Name "enumerate" p) [a] [] pos) (NB X.K ta):=by
 intro Z s U H R I h
 refine Call_ (jw I hg hm hv (PyProof.Rows.callWith_type1 (cz (ha pos Z s U H _ I h) fun us s1 ⟨vs,H1,I1,r1,q1⟩=>?_) hs rfl))
 obtain ⟨l,rfl,⟨xs,hq⟩,q⟩:=q1
 obtain ⟨u,rfl,e⟩:=vals1 r1
 cases (show u=Value.ref l from e)
 obtain ⟨its,rv,hp,hz⟩:=I1.tuple hq
 refine tV (show s1.heap.IsTuple l its.toArray from hp) fun g he hi hk=>wpAny_pyIter_enum he ?_
 refine ⟨s1.heap.objs.size+1,[s1.heap.objs.size+1,s1.heap.objs.size],_,_,H1,rfl,I1.kept (t':=s1.toks) hk,uc l _ s1.heap.objs.size (Nat.succ_ne_self _),⟨⟨_,he⟩,hi⟩,fun b hb=>?_,q⟩
 rcases List.mem_cons.mp hb with rfl|hb
 ·exact I1.fpOk (Nat.le_succ _) (I1.hok.fresh (Nat.le_succ _))
 ·cases List.mem_singleton.mp hb
  exact I1.fpOk (Nat.le_refl _) (I1.hok.fresh (Nat.le_refl _))
theorem xq {K:PySem.W.Frag} {a:Addr} {xs:List V} {g:TG} {tb:TS} {D:Ends} {U:St} {H:Hp} (Pv:Nat->St->Hp->Prop) (h0:Pv 0 U H) (hl:∀ i U H,i≤xs.length->Pv i U H->b_ K H a xs)
 (hs:∀ i x U H p,xs[i]?=some x->Pv i U H->H p=none->g (.ref p) U (upd H p (.tup [.int i,x])) fun σ2 H2=>tb { D with nx:=Pv (i+1),ct:=Pv (i+1),bk:=D.nx } σ2 H2)
 (hd:∀ U H,Pv xs.length U H->D.nx U H) :
 ∃ W:Nat->Nat->St->Hp->Prop,(∃ m,W 0 m U H)/\∀ i m U H,W i m U H->((Ln K a).stop i H/\D.nx U H)∨((Ln K a).go i H/\∃ N:St->Hp->Prop,(∀ σ' H',N σ' H'->∃ m',m'<m/\W (i+1) m' σ' H')/\∀ x H',(Ln K a).yld i H x H'->g x U H' fun σ2 H2=>tb { D with nx:=N,ct:=N,bk:=D.nx } σ2 H2):=by
 refine ⟨fun i m U H=>m=xs.length-i/\i≤xs.length/\Pv i U H,⟨xs.length,by simp,Nat.zero_le _,h0⟩,?_⟩
 rintro i m U H ⟨rfl,hi,p⟩
 have q:=hl i U H hi p
 by_cases hlt:i<xs.length
 ·refine .inr ⟨⟨xs,xs[i],q,by simp [hlt]⟩,Pv (i+1),fun σ' H' z=>⟨xs.length-(i+1),by omega,rfl,hlt,z⟩,?_⟩
  rintro x H' ⟨p',y,hn,rfl,hy,rfl⟩
  exact hs i y U H p' (hy xs q) p hn
 ·have e:i=xs.length:=by omega
  subst e
  exact .inl ⟨⟨xs,q,Nat.le_refl _⟩,hd U H p⟩
theorem pO:bootBuiltins "enumerate" = some (.type "enumerate"):=by decide +kernel
end
def fG (h:Heap) (H:Hp) (g:Heap) (e:Addr) (cls:Value) (dd:Option Addr):Prop:=
 ∃ oe vs,h.get? e=some oe/\oe.cls=cls/\oe.dict=dd/\oe.data=.fields vs/\g.get? e=none/\H e=none/\
   (vs[1]?=some .none∨∃ T oT ts,vs[1]?=some (.ref T)/\T≠e/\h.get? T=some oT/\oT.data=.fields ts/\ts[3]?=some .none/\g.get? T=none/\H T=none)
theorem fG.mono {h:Heap} {H:Hp} {g g':Heap} {e:Addr} {cls:Value} {dd:Option Addr} (x:fG h H g e cls dd) (hl:∀ b,g.get? b=none->g'.get? b=none):fG h H g' e cls dd:=by
 obtain ⟨oe,vs,h1,h2,h3,h4,h5,h6,h7⟩:=x
 refine ⟨oe,vs,h1,h2,h3,h4,hl _ h5,h6,?_⟩
 rcases h7 with h7|⟨T,oT,ts,a,b,c,d,f,gT,i⟩
 ·exact .inl h7
 ·exact .inr ⟨T,oT,ts,a,b,c,d,f,hl _ gT,i⟩
theorem wV (f:Array Value->Array Value) (o:Obj):(Obj.mapFields f o).dict=o.dict:=by
 obtain ⟨c,d,da,sl⟩:=o
 cases da <;> rfl
section
variable {M:Model} {A:Around} {E:Value->Shared->Prop} {s:Shared}
theorem qN {base:Heap} {env:Env} {outer:List Env} {L e:Addr} {oe:Obj} {vs:Array Value} {head:Value} {hadNext:Bool} {Q:Unit->Shared->Prop} (hfr:A.frames=some (env::outer)) (hl:s.heap.FunFrames base (env::outer)) (hf:env.frame=some L)
 (he:s.heap.get? e=some oe) (hd:oe.data=.fields vs) (hsz:1<vs.size)
 (h:∀ (h':Heap) (T:Addr) (oe' oT:Obj) (vs' ts:Array Value),s.heap.objs.size≤T->h'.get? e=some oe'->oe'.cls=oe.cls->oe'.dict=oe.dict->oe'.data=.fields vs'->vs'[1]?=some (.ref T)->h'.get? T=some oT->oT.data=.fields ts->ts[3]?=some .none->
  (∀ b o,b≠e->b∉(env::outer).filterMap (·.frame)->s.heap.get? b=some o->h'.get? b=some o)->(∀ b o,b≠e->s.heap.get? b=some o->∃ sl,h'.get? b=some { o with slots:=sl })->Q () { s with heap:=h' }) :
 wpAny M A (do let a ← frameOf env;let pl ← entryPlaceOf L hadNext;let b ← EntryCells.newEntry head a .none (rawInt L) .none pl;setField (.ref e) 1 b) (fun _ s'=>wpAny M A (setFlight (.ref e) none) Q E s') E s:=by
 have hene:e∉(env::outer).filterMap (·.frame):=fun hm=>by
  obtain ⟨_,o,ho,hnf⟩:=hl.mem hm
  rw [he] at ho
  cases ho
  exact hnf vs hd
 refine wpAny_bind (wpAny_frameOf_fun hfr hl hf fun g hs=>wpAny_bind (wpAny_entryPlaceOf fun pl hpl=>?_))
 unfold EntryCells.newEntry newFields
 refine wpAny_bind (wpAny_newObj_type ?_ (hpl.sizeOk5 _ _ _ _ _))
 have ge:g.get? e=some oe:=(hs.2.1 e hene).trans he
 generalize hto:([head,.ref L,.none,rawInt L,.none]++(if pl.isEmpty then List.replicate 6 Value.none else pl)).toArray=tv
 have t3:3<tv.size:=by
  rw [← hto]
  simp only [List.size_toArray,List.length_append,List.length_cons,List.length_nil]
  omega
 have pe:=Heap.get?_push_of_some (h:=g) { cls:=.type "traceback",dict:=none,data:=.fields tv } ge
 refine wpAny_setField pe hd hsz ?_
 have ne:g.objs.size≠e:=Nat.ne_of_gt (Heap.lt_size ge)
 have d3:=Obj.data_mapFields hd (·.setIfInBounds 1 (Value.ref g.objs.size))
 have e3:=Heap.get?_update_self (Obj.mapFields (·.setIfInBounds 1 (Value.ref g.objs.size))) pe (Obj.isFreed_of_fields d3)
 have T3:=(Heap.get?_update_other (g.push { cls:=.type "traceback",dict:=none,data:=.fields tv }) (Obj.mapFields (·.setIfInBounds 1 (Value.ref g.objs.size))) (Ne.symm ne)).trans (Heap.get?_push_size g rfl)
 unfold setFlight
 refine wpAny_bind (wpAny_field e3 d3 (x:=.ref g.objs.size) (by simp [hsz]) ?_)
 rw [if_pos (show (Value.ref g.objs.size != Value.none)=true by simp)]
 refine wpAny_setField T3 rfl t3 ?_
 have hgz:s.heap.objs.size≤g.objs.size:=Nat.le_of_eq hs.1.symm
 have keep:∀ b o,b≠e->g.get? b=some o->(((g.push { cls:=.type "traceback",dict:=none,data:=.fields tv }).update e (Obj.mapFields (·.setIfInBounds 1 (Value.ref g.objs.size)))).update g.objs.size (Obj.mapFields (·.setIfInBounds 3 ((none:Option Addr).elim Value.none fun f=>rawInt f)))).get? b=some o:=fun b o hb hg=>by
  rw [Heap.get?_update_other _ _ (Nat.ne_of_gt (Heap.lt_size hg)),Heap.get?_update_other _ _ (Ne.symm hb)]
  exact Heap.get?_push_of_some _ hg
 refine h _ g.objs.size _ _ _ _ hgz (by rw [Heap.get?_update_other _ _ ne];exact e3) (Obj.cls_mapFields _ _) (wV _ _) d3 (by simp [hsz]) (Heap.get?_update_self _ T3 (Obj.isFreed_of_fields (Obj.data_mapFields rfl _))) (Obj.data_mapFields rfl _) (by simp [t3]) (fun b o hb hbf hbo=>keep b o hb ((hs.2.1 b hbf).trans hbo)) fun b o hb hbo=>?_
 obtain ⟨sl,q⟩:=hs.2.2 b o hbo
 exact ⟨sl,keep b _ hb q⟩
end
section
variable {X:Cx} {Z:List (Addr×Obj)} {U:St} {H:Hp} {s:Shared} {e:Addr} {cls:Value} {dd:Option Addr}
theorem leaveX {A:Around} {Q:Unit->Shared->Prop} {E:Value->Shared->Prop} (I:Inv X Z U H s) (hst:X.stack=X.env::X.outer) (hfm:X.env.frame=some X.env.locals) (hfr:A.frames=some X.stack) (hex:X.ex=[]) (x:fG s.heap H X.s₀.heap e cls dd)
 (h:∀ h',fG h' H X.s₀.heap e cls dd->Un (frs X.outer) [] X.H₀ H X.s₀.heap h'->iR X.prog X.w H h'->Q () { s with heap:=h' }):wpAny (model X.prog X.w) A (leaving X.env (.ref e)) Q E s:=by
 have hl:=I.stack
 rw [hst] at hfr hl
 obtain ⟨oe,vs,h1,h2,h3,h4,h5,h6,h7⟩:=x
 have free:∀ b∈(X.env::X.outer).filterMap (·.frame),H b=none:=fun b hb=>I.stkFree b (by rw [hst];exact hb)
 have fin:∀ (h':Heap) (T:Addr) (oe' oT:Obj) (vs' ts:Array Value),X.s₀.heap.get? T=none->T≠e->H T=none->h'.get? e=some oe'->oe'.cls=oe.cls->oe'.dict=oe.dict->oe'.data=.fields vs'->vs'[1]?=some (.ref T)->h'.get? T=some oT->oT.data=.fields ts->ts[3]?=some .none->
  (∀ b o,b≠e->(H b≠none∨∃ o₀,X.s₀.heap.get? b=some o₀)->b∉(X.env::X.outer).filterMap (·.frame)->s.heap.get? b=some o->h'.get? b=some o)->(∀ b o,(∃ o₀,X.s₀.heap.get? b=some o₀)->s.heap.get? b=some o->∃ sl,h'.get? b=some { o with slots:=sl })->Q () { s with heap:=h' }:=by
  intro h' T oe' oT vs' ts hT hTe hTn g1 g2 g3 g4 g5 g6 g7 g8 kp ks
  refine h h' ⟨oe',vs',g1,g2.trans h2,g3.trans h3,g4,h5,h6,.inr ⟨T,oT,ts,g5,hTe,g6,g7,g8,hT,hTn⟩⟩ ?_ ?_
  ·have B:=I.base
   rw [hex] at B
   have nl:∀ b o,X.s₀.heap.get? b=some o->b<X.s₀.heap.objs.size:=fun b o z=>Heap.lt_size z
   have ninF:∀ b,b<X.s₀.heap.objs.size->b∉frs X.outer->b∉(X.env::X.outer).filterMap (·.frame):=fun b hb hn hm=>by
    rw [List.filterMap_cons,hfm] at hm
    rcases List.mem_cons.mp hm with rfl|hm
    ·exact absurd (Nat.lt_of_lt_of_le hb I.ok.above) (Nat.lt_irrefl _)
    ·exact hn hm
   refine ⟨fun b o z n hb hx=>kp b o (fun q=>by subst q;rw [h5] at z;cases z) (.inr ⟨o,z⟩) (ninF b (nl b o z) hb) (B.keep b o z n hb hx),fun b o z n hb hx=>?_,B.free,fun b o z hx=>?_,B.tups,B.frzs,B.tbls⟩
   ·obtain ⟨sl,q⟩:=B.slot b o z n hb hx
    obtain ⟨sl',q'⟩:=ks b _ ⟨o,z⟩ q
    exact ⟨sl',q'⟩
   ·obtain ⟨o',q⟩:=B.there b o z hx
    obtain ⟨sl',q'⟩:=ks b _ ⟨o,z⟩ q
    exact ⟨_,q'⟩
  ·intro b u hb
   refine (I.hok b u hb).stay (fun c v hc q=>kp c v ?_ (.inl ?_) ?_ q) (fun _ q=>q) fun _ _ q=>q
   ·rintro rfl
    rcases hc with rfl|z
    ·rw [h6] at hb;cases hb
    ·rw [h6] at z;cases z
   ·rcases hc with rfl|z
    ·rw [hb];simp
    ·rw [z];simp
   ·intro hm
    have:=free c hm
    rcases hc with rfl|z
    ·rw [this] at hb;cases hb
    ·rw [this] at z;cases z
 unfold leaving noteFrame
 simp only [hfm]
 rcases h7 with h7|⟨T,oT,ts,t1,t2,t3,t4,t5,t6,t7⟩
 ·refine wpAny_bind (wpAny_bind (wpAny_field h1 h4 h7 ?_))
  rw [if_neg (by decide)]
  refine qN hfr hl hfm h1 h4 (Array.getElem?_eq_some_iff.mp h7).1 fun h' T oe' oT vs' ts hT g1 g2 g3 g4 g5 g6 g7 g8 kp ks=>?_
  have hTe:T≠e:=fun q=>by subst q;exact absurd (Nat.lt_of_lt_of_le (Heap.lt_size h1) hT) (Nat.lt_irrefl _)
  exact fin h' T oe' oT vs' ts (Heap.get?_none_of_le (Nat.le_trans I.sz hT)) hTe (I.hok.fresh hT) g1 g2 g3 g4 g5 g6 g7 g8 (fun b o hb _ hm z=>kp b o hb hm z) fun b o hb z=>ks b o (fun q=>by subst q;obtain ⟨_,hb⟩:=hb;rw [h5] at hb;cases hb) z
 ·refine wpAny_bind (wpAny_bind (wpAny_field h1 h4 t1 ?_))
  rw [if_pos (show (Value.ref T != Value.none)=true by simp)]
  refine wpAny_bind (wpAny_field t3 t4 t5 ?_)
  rw [if_neg (show ¬ ((Value.none == rawInt X.env.locals)=true) by simp [rawInt])]
  refine wpAny_bind (wpAny_setField t3 t4 (Array.getElem?_eq_some_iff.mp t5).1 ?_)
  have other:∀ b,b≠T->(s.heap.update T (Obj.mapFields (·.setIfInBounds 3 Value.none))).get? b=s.heap.get? b:=fun b hb=>Heap.get?_update_other _ _ (Ne.symm hb)
  have noR:∀ b o,s.heap.get? b=some o->(∀ vs,o.data≠.fields vs)->b≠T:=fun b o hb hnf q=>by
   subst q
   rw [t3] at hb
   cases hb
   exact hnf ts t4
  refine qN (s:={ s with heap:=s.heap.update T (Obj.mapFields (·.setIfInBounds 3 Value.none)) }) hfr (hl.of_keeps fun b o hb hnf=>⟨o,(other b (noR b o hb hnf)).trans hb,rfl⟩) hfm ((other e (Ne.symm t2)).trans h1) h4 (Array.getElem?_eq_some_iff.mp t1).1 fun h' T' oe' oT' vs' ts' hT g1 g2 g3 g4 g5 g6 g7 g8 kp ks=>?_
  have hT':s.heap.objs.size≤T':=by
   have z:(s.heap.update T (Obj.mapFields (·.setIfInBounds 3 Value.none))).objs.size=s.heap.objs.size:=Heap.size_update _ _ _
   exact Nat.le_trans (Nat.le_of_eq z.symm) hT
  have hTe:T'≠e:=fun q=>by subst q;exact absurd (Nat.lt_of_lt_of_le (Heap.lt_size h1) hT') (Nat.lt_irrefl _)
  refine fin h' T' oe' oT' vs' ts' (Heap.get?_none_of_le (Nat.le_trans I.sz hT')) hTe (I.hok.fresh hT') g1 g2 g3 g4 g5 g6 g7 g8 (fun b o hb hq hm z=>kp b o hb hm ((other b ?_).trans z)) fun b o hb z=>ks b o (fun q=>by subst q;obtain ⟨_,hb⟩:=hb;rw [h5] at hb;cases hb) ((other b ?_).trans z)
  ·rintro rfl
   rcases hq with hq|hq
   ·exact hq t7
   ·obtain ⟨_,hq⟩:=hq
    rw [t6] at hq;cases hq
  ·rintro rfl
   obtain ⟨_,hb⟩:=hb
   rw [t6] at hb;cases hb
end
def uM (P:Program) (w:World):nH:=fun outer H s E e s'=>∃ (ea:Addr) (cls:Value) (dd:Option Addr) (H':Hp),e=.ref ea/\s'.os=s.os/\AllBare s'.gens/\Un (frs outer) [] H H' s.heap s'.heap/\iR P w H' s'.heap/\fG s'.heap H' s.heap ea cls dd/\E cls dd H'
section
variable {P:Program} {w:World} {K:PySem.W.Frag} {mg:Str->Option Value} {base:Heap} {N:List Str} {qual:Str} {scope:Scope} {f:Addr} {cd:Value} {A:Around} {outer:List Env} {s:Shared} {H:Hp} {E:XK}
theorem TQ {Z:List (Addr×Obj)} {U:St} {H':Hp} {s':Shared} {e:Addr} {cls:Value} {dd:Option Addr} (I:Inv (iK (uM P w) P w K mg base N qual scope f cd A outer s H E) Z U H' s') (x:fG s'.heap H' s.heap e cls dd) (h:E cls dd H') :
 (iK (uM P w) P w K mg base N qual scope f cd A outer s H E).xe (.ref e) s':=
 leaveX I rfl rfl I.ok.frames rfl x fun h' x' u k=>⟨e,cls,dd,H',rfl,I.os,I.bare,u,k,x',h⟩
theorem CJ {E':XK} (hE:∀ cls dd H',E' cls dd H'->E cls dd H'):eN (uM P w) (iK (uM P w) P w K mg base N qual scope f cd A outer s H E) E':=by
 intro Z U H1 s1 e s' I h
 obtain ⟨ea,cls,dd,H',rfl,os,bare,un,hok,x,q⟩:=h
 obtain ⟨hh,g,d,t,os'⟩:=s'
 obtain rfl:os'=s1.os:=os
 have I':Inv (iK (uM P w) P w K mg base N qual scope f cd A outer s H E) Z U H' ⟨hh,g,d,t,s1.os⟩:=I.call (h':=hh) (g':=g) (d':=d) (t':=t) (ch:=[]) un hok bare (fun b z=>absurd z (by simp))
 refine TQ I' (x.mono fun b hb=>?_) (hE _ _ _ q)
 cases z:s.heap.get? b with
 |none=>rfl
 | some o=>
   obtain ⟨o',q'⟩:=I.base.there b o z (by intro hz;cases hz)
   rw [hb] at q';cases q'
end
end L2
namespace L2
open PySem PySem.Spec PyProof.Rows PySem.SeqAt PySem.W
def iU (K:Frag) (C:Addr) (B newId:String):Bool:=match K.lookup C with
 |some ⟨_,_,.cls cd,sl⟩=>!cd.abstract && !cd.hasDel && (sl.toList[4]?).join == some (.builtin newId) && !cd.mro.isEmpty && cd.mro.contains (.ref C) && cd.mro.contains (.type B) && cd.mro.contains (.type "BaseException") && !cd.mro.contains (.type "AttributeError") && !cd.mro.contains (.type "NameError") &&
  specialIn K (.ref C) "__call__" == some (some (.builtin "type.__call__")) && instIn K (.ref C) (.type "type") == some true
 |_=>false
structure uC (M:Model) (h:Heap) (C:Addr) (B newId:String):Prop where
 obj:∃ oc od cd sl,h.get? C=some ⟨oc,od,.cls cd,sl⟩/\cd.abstract=false/\cd.hasDel=false/\cd.mro.isEmpty=false
 made:Looks M h (Bind.madeBy (.ref C)) (some newId)
 base:Looks M h (Bind.staticBase (.ref C)) (.ref C)
 self:Looks M h (isSubtype (.ref C) (.ref C)) true
 isB:Looks M h (isSubtype (.ref C) (.type B)) true
 isE:Looks M h (isSubtype (.ref C) (.type "BaseException")) true
 noA:Looks M h (isSubtype (.ref C) (.type "AttributeError")) false
 noN:Looks M h (isSubtype (.ref C) (.type "NameError")) false
 call:Looks M h (specialOf (.ref C) "__call__") (some (.builtin "type.__call__"))
 typ:Looks M h (isInstance (.ref C) (.type "type")) true
theorem jk {K:Frag} {M:Model} {h:Heap} (X:K.In h) {C:Addr} {B newId:String} (e:iU K C B newId=true):uC M h C B newId:=by
 unfold iU at e
 split at e
 ·rename_i oc od cd sl ho
  simp only [Bool.and_eq_true,Bool.not_eq_true',beq_iff_eq] at e
  obtain ⟨⟨⟨⟨⟨⟨⟨⟨⟨⟨e1,e2⟩,e3⟩,e4⟩,e5⟩,e6⟩,e7⟩,e8⟩,e9⟩,e10⟩,e11⟩:=e
  have hc:clsIn K C=some cd:=by unfold clsIn;rw [ho]
  have hm:Looks M h (mroOf (.ref C)) cd.mro:=(looks_clsIn X hc).andThen .now
  obtain ⟨c,l,hl⟩:∃ c l,cd.mro=c::l:=by
   cases q:cd.mro with
   |nil=>rw [q] at e4;cases e4
   |cons c l=>exact ⟨c,l,rfl⟩
  have made:Looks M h (Bind.madeBy (.ref C)) (some newId):=by
   intro A Q E s k q
   unfold Bind.madeBy
   refine wpAny_bind (hm A _ E s k ?_)
   rw [hl,List.forIn_cons]
   refine wpAny_bind (wpAny_bind (wpAny_bind (wpAny_bind (wpAny_loadPart (k _ _ (X _ _ ho)) (wpAny_pure ?_)))))
   dsimp only
   rw [← Array.getElem?_toList,e3]
   exact wpAny_pure (wpAny_pure (wpAny_pure q))
  have sub:∀ (v:Value) (b:Bool),cd.mro.contains v=b->Looks M h (isSubtype (.ref C) v) b:=fun v b z=>looks_mroIn X (by unfold mroIn;rw [hc,Option.bind_some,if_neg (by rw [e4];decide),z])
  refine ⟨⟨oc,od,cd,sl,X _ _ ho,e1,e2,e4⟩,made,?_,sub _ _ e5,sub _ _ e6,sub _ _ e7,sub _ _ e8,sub _ _ e9,looks_specialIn X e10,looks_instIn X e11⟩
  intro A Q E s k q
  unfold Bind.staticBase
  refine wpAny_bind (hm A _ E s k ?_)
  rw [hl,List.forIn_cons]
  exact wpAny_bind (wpAny_bind (wpAny_bind (made A _ E s k (wpAny_pure (wpAny_pure (wpAny_pure q))))))
 ·cases e
abbrev fu (C t:Addr):Obj:={ cls:=.ref C,data:=.fields #[.ref t,.none,.none,.none,.bool false,.none] }
section
variable {prog:Program} {w:World} {A:Around} {C:Addr} {R:Result->Shared->Prop} {h:Heap} {g:Array GenState} {d:Drawn} {t:Nat} {os:OsState} {B newId initId:String} {bm:List Value}
theorem newX (F:ExcBaseFacts B newId initId bm) {rest:List Value} (Y:uC (model prog w) h C B newId) (hrest:rest.length≤sizeLine)
 (hq:R (.ok (.ret (.ref (h.objs.size+1)))) ⟨(h.push { cls:=.type "tuple",data:=.seq rest.toArray }).push (fu C h.objs.size),g,d,t,os⟩) :
 codeAny (model prog w) A (.call (.builtin newId) ⟨.ref C::rest,[]⟩) R ⟨h,g,d,t,os⟩:=by
 obtain ⟨⟨oc,od,cd,sl,hC,e1,e2,e4⟩,made,base,self,isB,isE,noA,noN,call,typ⟩:=Y
 have hstar:=F.noStar
 have hends:=F.ends
 refine codeAny_call_builtin_code (Code.quiet_builtin _ F.quiet) ?_
 simp only [checkBuiltinCall,F.newKind,F.newSplit,F.newRow]
 have here:Looks (model prog w) h (Bind.madeHere newId (.ref C)) ():=base.andThen (made.andThen (Looks.of_pure (by simp only [Option.map_some,bne_self_eq_false,Bool.false_eq_true,if_false])))
 repeat (first|simp only [bne_self_eq_false,Bool.false_eq_true,if_false]|lk)
 repeat (first|wp_step)
 refine PySem.codeAny_builtinAt F.entry ?_
 unfold Builtin.«BaseException.__new__»
 refine PySem.wpAt_bind ?_
 show PySem.wpAt _ _ _ (stack >>= _) _ _ _
 refine PySem.wpAt_bind (PySem.wpAt_stack fun p below=>PySem.wpAt_of_wpAny ?_)
 wp_walk
 refine PySem.wpAt_of_wpAny ?_
 rw [F.owner]
 have here2:Looks (model prog w) h (Bind.madeHere "BaseException.__new__" (.ref C)) ():=base.andThen (made.andThen (Looks.of_pure (by simp only [Option.map_some,F.canon,bne_self_eq_false,Bool.false_eq_true,if_false])))
 repeat (first|with_reducible refine here2.at ?_|with_reducible refine isB.at ?_|with_reducible refine noA.at ?_|with_reducible refine noN.at ?_|with_reducible refine wpAny_loadPart_at hC ?_|wp_step)
 show R _ _
 rw [Heap.size_push]
 exact hq
theorem t_ (F:ExcBaseFacts B newId initId bm) {rest:List Value} {init:Value} (Y:uC (model prog w) h C B newId) (hi:Looks (model prog w) h (typeLookup (.ref C) "__init__") (some init)) (hb:∀ self,Looks (model prog w) h (bindSpecial init self) (init,[self])) (hrest:rest.length≤sizeLine)
 (hq:codeAny (model prog w) (A.under (.builtin "type.__call__" ⟨.ref C::rest,[]⟩)) (.call init ⟨.ref (h.objs.size+1)::rest,[]⟩) (InitBack (h.objs.size+1) R) ⟨(h.push { cls:=.type "tuple",data:=.seq rest.toArray }).push (fu C h.objs.size),g,d,t,os⟩) :
 codeAny (model prog w) A (.call (.ref C) ⟨rest,[]⟩) R ⟨h,g,d,t,os⟩:=by
 have Y':=Y
 obtain ⟨⟨oc,od,cd,sl,hC,e1,e2,e4⟩,made,base,self,isB,isE,noA,noN,call,typ⟩:=Y
 refine codeAny_of_tree ?_
 show wpAny _ _ (callAny (.ref C) _) _ _ _
 refine nd_load hC ?_
 show wpAny _ _ (callAny.viaDunder (.ref C) _) _ _ _
 unfold callAny.viaDunder
 refine wpAny_bind (call.at ?_)
 dsimp only
 rw [tc_bind]
 refine wpAny_bind (wpAny_pure (wpAny_bind (wpAny_pure (wpAny_pure (a:=Fin.again (.call (.builtin "type.__call__") ⟨.ref C::rest,[]⟩)) (And.intro rfl ?_)))))
 refine codeAny_call_builtin_at (Code.quiet_builtin _ (by decide +kernel)) entry_typeCall (check_slot tc_kind tc_split typ (tc_args _ _ _) ?_)
 unfold Builtin.«type.__call__»
 have hm:Looks (model prog w) h (mroOf (.ref C)) cd.mro:=((Looks.ld (part:=none) hC).andThen .now).andThen .now
 repeat (first|simp only [e4,Bool.false_eq_true,if_false]|with_reducible refine wpAny_call ?_|lk)
 refine newX F Y' hrest ?_
 have k:∀ b o,h.get? b=some o->((h.push { cls:=.type "tuple",data:=.seq rest.toArray }).push (fu C h.objs.size)).get? b=some o:=fun b o e=>Heap.get?_push_of_some _ (Heap.get?_push_of_some _ e)
 have hx:((h.push { cls:=.type "tuple",data:=.seq rest.toArray }).push (fu C h.objs.size)).get? (h.objs.size+1)=some (fu C h.objs.size):=by
  have:=Heap.get?_push_size (h.push { cls:=.type "tuple",data:=.seq rest.toArray }) (o:=fu C h.objs.size) rfl
  rwa [Heap.size_push] at this
 have t1:Looks (model prog w) ((h.push { cls:=.type "tuple",data:=.seq rest.toArray }).push (fu C h.objs.size)) (typeOf (.ref (h.objs.size+1))) (.ref C):=(Looks.ld hx).andThen .now
 have s1:=self.keeps k
 have i1:=hi.keeps k
 have b1:=(hb (.ref (h.objs.size+1))).keeps k
 unfold isInstance callSpecial? specialOf
 repeat (first|with_reducible refine wpAny_call ?_|lk)
 refine codeAny_mono hq fun r s' z=>?_
 rcases r with e|(v|_|_|_) <;> first|exact z|exact z.elim|skip
 obtain ⟨rfl,z⟩:=z
 exact wpAny_pure (wpAny_pure z)
end
end L2
namespace L2
open PySem PySem.Spec PyProof.Rows PySem.SeqAt PySem.W Builtin.ObjectAttr
def dO (e C:Addr) (dd:Option Addr):HO:=.ext fun h=>∃ a0:Value,h.get? e=some { cls:=.ref C,dict:=dd,data:=.fields #[a0,.none,.none,.none,.bool false,.none] }
def qm (da:Addr) (fs:List (Str×V)):HO:=.ext fun h=>∃ mA,h.Ns1 da mA/\(∀ f,ii (fs.lookup f) (mA f))/\PySem.Within mA (fs.map (·.1))
theorem qJ {P:Program} {w:World} {H:Hp} {h:Heap} {e C:Addr} {dd:Option Addr} {a0:Value} (x:h.get? e=some { cls:=.ref C,dict:=dd,data:=.fields #[a0,.none,.none,.none,.bool false,.none] }):cG P w H h e (dO e C dd):=
 ⟨⟨a0,x⟩,⟨_,x⟩,fun h1 h2 ⟨a,z⟩ k=>⟨a,k _ z⟩⟩
theorem sW {P:Program} {w:World} {H:Hp} {h:Heap} {da:Addr} {fs:List (Str×V)} {mA:Str->Option Value} (x:h.Ns1 da mA) (r:∀ f,ii (fs.lookup f) (mA f)) (wi:PySem.Within mA (fs.map (·.1))):cG P w H h da (qm da fs):=by
 obtain ⟨o,es,ep,ho,rest⟩:=id x
 refine ⟨⟨mA,x,r,wi⟩,⟨o,ho⟩,fun h1 h2 z k=>?_⟩
 obtain ⟨mB,⟨o',es',ep',ho',rest'⟩,r',wi'⟩:=z
 exact ⟨mB,⟨o',es',ep',k _ ho',rest'⟩,r',wi'⟩
theorem lK (self:Value) {bm:List Value} (hb:refuseLoop self "__setattr__" bm=pure ()) (hne:bm≠[]):∀ (rs:List Addr),refuseLoop self "__setattr__" (rs.map Value.ref++bm)=pure ()
 |[]=>hb
 | c::r=>by
   rw [List.map_cons,List.cons_append,refuseLoop_ref]
   exact lK self hb hne r
structure jn (K:Frag) (C:Addr) (B newId:String):Prop where
 mks:iU K C B newId=true
 sa:findIn K (.ref C) "__setattr__" = some (some (.builtin "object.__setattr__"))
 cd:∃ (cd:ClassData) (rs:List Addr) (bm:List Value),clsIn K C=some cd/\cd.hasDict=true/\cd.mro=rs.map Value.ref++bm/\bm≠[]/\(∀ self,refuseLoop self "__setattr__" bm=pure ())/\bm.contains (.type "object")=true
 kp:keepIn K (.ref C)=true
 ty:typeIn K (.ref C)=some (.type "type")
section
variable {prog:Program} {w:World} {A:Around} {R:Result->Shared->Prop} {s:Shared} {K:Frag} {x C:Addr} {name:Str}
theorem Jy {ox:Obj} {od:Option Obj} {tk:Tok} {v:Value} {B newId:String} (X:K.In s.heap) (I:InstAt s.heap x ox C od) (XC:jn K C B newId) (ht:takerIn K C name=some none)
 (h:∀ b,wpAny (model prog w) A.in1 (Builtin.ObjectAttr.storeInOwnDict (.ref x) (.ref C) (.str name tk) name v b) (fun fin s'=>match fin with|.done f=>R (.ok f) s'|.again c'=>c'.quiet=true/\codeAny (model prog w) A c' R s') (fun e s'=>R (.error e) s') s) :
 codeAny (model prog w) A (.call (.builtin "object.__setattr__") ⟨[.ref x,.str name tk,v],[]⟩) R s:=by
 have SF:=PySem.F.store_object
 obtain ⟨cd,rs,bm,hc,hdct,hmro,hne,hrf,hob⟩:=XC.cd
 have ne:cd.mro.isEmpty=false:=by
  rw [hmro]
  cases rs with
  |nil=>cases bm with|nil=>exact absurd rfl hne|cons _ _=>rfl
  |cons _ _=>rfl
 have hcon:cd.mro.contains (.type "object")=true:=by
  rw [hmro,List.contains_eq_mem,decide_eq_true_eq]
  rw [List.contains_eq_mem,decide_eq_true_eq] at hob
  exact List.mem_append_right _ hob
 have sub:Looks (model prog w) s.heap (isInstance (.ref x) (.type "object")) true:=I.type.andThen (looks_mroIn X (by unfold mroIn;rw [hc,Option.bind_some,if_neg (by rw [ne];decide),hcon]))
 refine codeAny_call_builtin SF.slot.plain SF.entry (@check_slot (model prog w) _ _ s "object.__setattr__" "object" "__setattr__" (.ref x) [.str name tk,v] [] _ SF.kind SF.split sub (SF.args (.ref x) (.str name tk) v) ?_)
 obtain ⟨attr,ha,hr⟩:=Option.bind_eq_some_iff.mp ht
 have hm:Looks (model prog w) s.heap (mroOf (.ref C)) cd.mro:=(looks_clsIn X hc).andThen .now
 have L3:Looks (model prog w) s.heap (storeTaker? attr) none:=by
  cases attr with
  |none=>exact .now
  | some a=>
    obtain ⟨b,hb,q⟩:=Option.map_eq_some_iff.mp hr
    refine (looks_takesIn X hb).andThen ?_
    cases b with
    |false=>exact .now
    |true=>cases q
 rw [osa_eq,refuse_eq]
 refine wpAny_bind (wpAny_bind (I.type.here (wpAny_bind (hm.here ?_))))
 rw [hmro,lK _ (hrf _) hne]
 refine wpAny_pure (wpAny_bind (I.type.here (wpAny_bind ((looks_findIn X ha).here (wpAny_bind (L3.here ?_))))))
 exact h _
end
section
variable {prog:Program} {w:World} {A:Around} {E:Value->Shared->Prop} {s:Shared} {K:Frag} {x C:Addr} {name:Str} {v:Value} {tk:Tok} {Q:Fin->Shared->Prop} {vs:Array Value} {sl:Array (Option Value)}
theorem uJ {cd:ClassData} {b:Bool} (X:K.In s.heap) (hx:s.heap.get? x=some ⟨.ref C,none,.fields vs,sl⟩) (hc:clsIn K C=some cd) (hd:cd.hasDict=true)
 (h:∀ h',h'.Ns1 s.heap.objs.size (fun y=>if y=name then some v else none)->h'.get? x=some ⟨.ref C,some s.heap.objs.size,.fields vs,sl⟩->(∀ b o,b≠x->s.heap.get? b=some o->h'.get? b=some o)->Q (.done (.ret .none)) { s with heap:=h',toks:=s.toks+1 }) :
 wpAny (model prog w) A (storeInOwnDict (.ref x) (.ref C) (.str name tk) name v b) Q E s:=by
 unfold storeInOwnDict
 refine wpAny_bind (wpAny_pure (wpAny_bind (wpAny_bind (wpAny_loadPart hx (wpAny_bind (Looks.here (looks_clsIn X hc) ?_))))))
 rw [hd]
 have hx1:(s.heap.push { cls:=.type "dict",data:=.dict #[] }).get? x=some ⟨.ref C,none,.fields vs,sl⟩:=Heap.get?_push_of_some _ hx
 have hxs:x≠s.heap.objs.size:=Nat.ne_of_lt (Heap.lt_size hx)
 show wpAny _ _ (do
  let d ← alloc { cls:=Value.type "dict",data:=Data.dict #[] }
  update x fun o=>{ cls:=o.cls,dict:=some d,data:=o.data,slots:=o.slots }
  dictMade (Value.ref C) x d) _ _ _
 refine wpAny_bind (wpAny_alloc' (wpAny_bind (wpAny_update' hx1 ?_)))
 refine wpAny_pure ?_
 have hgd:((s.heap.push { cls:=.type "dict",data:=.dict #[] }).update x fun o=>{ cls:=o.cls,dict:=some s.heap.objs.size,data:=o.data,slots:=o.slots }).get? s.heap.objs.size=some { cls:=.type "dict",data:=.dict #[] }:=(Heap.get?_update_ne _ _ _ _ hxs.symm).trans (Heap.get?_push_at rfl rfl)
 have hnd:((s.heap.push { cls:=.type "dict",data:=.dict #[] }).update x fun o=>{ cls:=o.cls,dict:=some s.heap.objs.size,data:=o.data,slots:=o.slots }).Ns s.heap.objs.size (fun _=>none):=⟨_,#[],_,hgd,rfl,fun e he=>absurd he (by simp),fun _=>rfl⟩
 show wpAny _ _ (storeInDict s.heap.objs.size (.str name tk) name v) _ _ _
 unfold storeInDict newKeyGuard
 refine wpAny_bind (wpAny_pure (wpAny_bind (wpAny_nsSet1 (s:={ s with heap:=_ }) (Heap.Ns1.of_empty hnd) fun h' hn' hs=>?_)))
 obtain ⟨oD,esD,epD,hoD,hdD,hcD⟩:=hn'.count (PySem.Within.cons name v PySem.Within.nil)
 refine wpAny_bind (wpAny_lookBehind hoD (by rw [hdD];exact pastItsLine_dict (Nat.le_trans hcD (by rw [List.length_cons,List.length_nil,sizeLine_eq];omega))) ?_)
 refine wpAny_pure (h h' hn' ?_ fun b o hb hbo=>?_)
 ·exact (hs.2 x hxs).trans (Heap.get?_update_self _ hx1 rfl)
 ·exact (hs.2 b (Nat.ne_of_lt (Heap.lt_size hbo))).trans ((Heap.get?_update_ne _ _ _ _ hb).trans (Heap.get?_push_of_some _ hbo))
theorem uN {cd:ClassData} {b:Bool} {da:Addr} {mA:Str->Option Value} {ns:List Str} (X:K.In s.heap) (hx:s.heap.get? x=some ⟨.ref C,some da,.fields vs,sl⟩) (hc:clsIn K C=some cd) (hd:cd.hasDict=true) (hn:s.heap.Ns1 da mA) (hw:PySem.Within mA ns) (hz:ns.length<1000)
 (h:∀ h',h'.Ns1 da (fun y=>if y=name then some v else mA y)->Heap.SameBut da s.heap h'->Q (.done (.ret .none)) { s with heap:=h',toks:=s.toks+1 }) :
 wpAny (model prog w) A (storeInOwnDict (.ref x) (.ref C) (.str name tk) name v b) Q E s:=by
 unfold storeInOwnDict
 refine wpAny_bind (wpAny_pure (wpAny_bind (wpAny_bind (wpAny_loadPart hx (wpAny_bind (Looks.here (looks_clsIn X hc) ?_))))))
 rw [hd]
 refine wpAny_pure (a:=some da) ?_
 show wpAny _ _ (storeInDict da (.str name tk) name v) _ _ _
 unfold storeInDict newKeyGuard
 refine wpAny_bind (wpAny_pure (wpAny_bind (wpAny_nsSet1 hn fun h' hn' hs=>?_)))
 obtain ⟨oD,esD,epD,hoD,hdD,hcD⟩:=hn'.count (PySem.Within.cons name v hw)
 refine wpAny_bind (wpAny_lookBehind hoD (by rw [hdD];exact pastItsLine_dict (Nat.le_trans hcD (by rw [List.length_cons,sizeLine_eq];omega))) ?_)
 exact wpAny_pure (h h' hn' hs)
end
section
variable {X:Cx} {Z:List (Addr×Obj)} {U:St} {H:Hp} {s:Shared} {e C:Addr} {f:Str} {B newId:String} {A:Around} {E:Value->Shared->Prop} {y:V} {u:Value} {Q:Unit->Shared->Prop}
theorem pZ {dd:Option Addr} (I:Inv X Z U H s) (he:H e=some (dO e C dd)):∃ a0,s.heap.get? e=some { cls:=.ref C,dict:=dd,data:=.fields #[a0,.none,.none,.none,.bool false,.none] }:=(show cG X.prog X.w H s.heap e (dO e C dd) from I.hok e _ he).1
theorem zj (I:Inv X Z U H s) (he:H e=some (dO e C none)) (XC:jn X.K C B newId) (ht:takerIn X.K C f=some none) (ry:RelV y u)
 (h:∀ da s',H da=none->Inv X Z U (upd (upd H e (dO e C (some da))) da (qm da [(f,y)])) s'->Q () s'):wpAny (model X.prog X.w) A (setAttr (.ref e) f u) Q E s:=by
 obtain ⟨a0,hx⟩:=pZ I he
 have J:InstAt s.heap e _ C none:=⟨hx,rfl,rfl,True.intro⟩
 obtain ⟨cd,rs,bm,hc,hdct,_⟩:=XC.cd
 refine set_plain I.kIn J XC.sa (Jy (s:={ s with toks:=s.toks+1 }) I.kIn J XC ht fun b=>uJ (s:={ s with toks:=s.toks+1 }) I.kIn hx hc hdct fun h' hn hx' hk=>?_)
 have fr:H s.heap.objs.size=none:=I.hok.fresh (Nat.le_refl _)
 have nes:e≠s.heap.objs.size:=Nat.ne_of_lt (Heap.lt_size hx)
 refine h s.heap.objs.size _ fr ?_
 have hx1:(s.heap.push emptyDict).get? e=some _:=Heap.get?_push_of_some _ hx
 have g1:(s.heap.push emptyDict).get? s.heap.objs.size=some emptyDict:=Heap.get?_push_size s.heap rfl
 have e3:(s.heap.push emptyDict).Ns s.heap.objs.size (fun _=>none):=⟨emptyDict,#[],_,g1,rfl,(fun e he=>absurd he (by simp)),fun _=>rfl⟩
 have I1:=I.laid (a:=s.heap.objs.size) (o:=qm s.heap.objs.size []) (h':=s.heap.push emptyDict) (t':=s.toks) (fun b u q=>Heap.get?_push_of_some _ q) (Nat.le_refl _) (sW (Heap.Ns1.of_empty e3) (fun _=>True.intro) fun y hy=>absurd rfl hy)
 have hx2:=Heap.get?_update_self (fun o:Obj=>{ o with dict:=some s.heap.objs.size }) hx1 rfl
 have I2:=I1.write (x:=e) (e:=e) (o:=dO e C (some s.heap.objs.size)) (h':=(s.heap.push emptyDict).update e fun o=>{ o with dict:=some s.heap.objs.size }) (t':=s.toks) (by rw [aJ nes,he];exact True.intro) (.inl rfl)
  (fun b q hb z=>(Heap.get?_update_ne _ _ _ _ hb).trans z) ⟨_,hx2⟩ (qJ hx2)
 have I3:=I2.write (x:=s.heap.objs.size) (e:=s.heap.objs.size) (o:=qm s.heap.objs.size [(f,y)]) (h':=h') (t':=s.toks+1+1) (by rw [aJ nes.symm,ak];exact True.intro) (.inl rfl) (fun b q hb z=>?_) (let ⟨o,_,_,ho,_⟩:=hn;⟨o,ho⟩)
  (sW hn (fun g=>?_) fun g hg=>?_)
 ·have e1:upd (upd (upd H s.heap.objs.size (qm s.heap.objs.size [])) e (dO e C (some s.heap.objs.size))) s.heap.objs.size (qm s.heap.objs.size [(f,y)])=upd (upd H e (dO e C (some s.heap.objs.size))) s.heap.objs.size (qm s.heap.objs.size [(f,y)]):=by
   funext b
   unfold upd
   split
   ·rfl
   ·split
    ·rfl
    ·rfl
  rw [e1] at I3
  exact I3
 ·by_cases hbe:b=e
  ·subst hbe
   have z':some q=some _:=z.symm.trans hx2
   cases z'
   exact hx'
  ·have z1:(s.heap.push emptyDict).get? b=some q:=(Heap.get?_update_ne _ _ _ _ hbe).symm.trans z
   have z2:s.heap.get? b=some q:=by
    rcases Heap.get?_push_cases z1 with z|z
    ·exact absurd z.1 hb
    ·exact z
   exact hk b q hbe z2
 ·have e2:List.lookup g [(f,y)]=if g=f then some y else none:=cQ f g y []
  rw [e2]
  by_cases q:g=f
  ·rw [if_pos q,if_pos q];exact ry
  ·rw [if_neg q,if_neg q];exact True.intro
 ·by_cases q:g=f
  ·subst q;simp
  ·exact absurd (if_neg q) hg
end
section
variable {X:Cx} {CX:nH} {k:Nat} {f C:Addr} {fd:FuncData} {ps:List Str} {sp:Sp} {dvs:List V} {ds:List Value} {E:XK} {B newId initId:String} {bm:List Value}
theorem xM {Z:List (Addr×Obj)} {U:St} {H:Hp} {s:Shared} {Q:VK} {us:List Value} {vs:List V} (BF:ExcBaseFacts B newId initId bm) (XC:jn X.K C B newId) (hi:findIn X.K (.ref C) "__init__" = some (some (.ref f))) (hf:isFn X.K (.ref f)=true) (F:aR X.prog X.w X.K X.mg X.base CX k f fd ps sp) (hr:bF (k+1) X.A)
 (hb:Binds X.K fd ps ds) (hd:Vals dvs ds) (hx:eN CX X E) (I:Inv X Z U H s) (r:Vals vs us) (hz:us.length≤sizeLine)
 (h:∀ e,H e=none->sp (.ref e::(vs++dvs)) (upd H e (dO e C none)) (fun v H2=>v=.non/\Q (.ref e) H2) E) :
 wpAny (model X.prog X.w) X.A (call (.ref C) us) (EP X Z U Q) X.xe s:=by
 obtain ⟨hh,g,d,t,os⟩:=s
 have hq:=h (hh.objs.size+1) (I.hok.fresh (Nat.le_succ _))
 have hget:((hh.push { cls:=.type "tuple",data:=.seq us.toArray }).push (fu C hh.objs.size)).get? (hh.objs.size+1)=some (fu C hh.objs.size):=by
  have:=Heap.get?_push_size (hh.push { cls:=.type "tuple",data:=.seq us.toArray }) (o:=fu C hh.objs.size) rfl
  rwa [Heap.size_push] at this
 have I2:Inv X Z U (upd H (hh.objs.size+1) (dO (hh.objs.size+1) C none)) ⟨(hh.push { cls:=.type "tuple",data:=.seq us.toArray }).push (fu C hh.objs.size),g,d,t,os⟩:=
  I.laid (h':=(hh.push { cls:=.type "tuple",data:=.seq us.toArray }).push (fu C hh.objs.size)) (t':=t) (fun b u q=>Heap.get?_push_of_some _ (Heap.get?_push_of_some _ q)) (Nat.le_succ _) (qJ hget)
 have r2:Vals (V.ref (hh.objs.size+1)::(vs++dvs)) (Value.ref (hh.objs.size+1)::(us++ds)):=.cons rfl (r.append hd)
 have hl:(Value.ref (hh.objs.size+1)::us++ds).length=ps.length:=by
  have e:=r2.length
  rw [F.len _ _ _ _ hq] at e
  exact e.symm
 refine wpAny_call (t_ BF (jk I.kIn XC.mks) (looks_findIn I.kIn hi) (fun self=>bind_fn I.kIn self (beq_iff_eq.mp hf)) hz (codeAny_mono (F.run _ X.stack _ _ ⟨Value.ref (hh.objs.size+1)::us,[]⟩ (Value.ref (hh.objs.size+1)::(us++ds)) _ _ E (hr.make C us [])
  (I2.env0.make C us []) (hb _ (Value.ref (hh.objs.size+1)::us) I2.kIn hl) r2 hq) fun r s' hq'=>?_))
 match r,hq' with
 |.error e,hq'=>exact hx Z U _ _ e s' I2 hq'
 | .ok (.ret u),hq'=>
   obtain ⟨v,H',I3,rv,ev,q3⟩:=I2.after hq'
   subst ev
   exact ⟨rv,⟨V.ref (hh.objs.size+1),H',I3,rfl,q3⟩⟩
def Dg (C:Addr) (sp:Sp) (dvs:List V) (E:XK) (t:TA):TE:=fun U H Q=>t U H fun vs H1=>∀ e,H1 e=none->sp (.ref e::(vs++dvs)) (upd H1 e (dO e C none)) (fun v H2=>v=.non/\Q (.ref e) H2) E
theorem yG {x:Str} {p pos:Pos} {e:Expr} {es:List Expr} {t:TA} (BF:ExcBaseFacts B newId initId bm) (XC:jn X.K C B newId) (hi:findIn X.K (.ref C) "__init__" = some (some (.ref f))) (hf:isFn X.K (.ref f)=true) (F:aR X.prog X.w X.K X.mg X.base CX k f fd ps sp) (hr:bF (k+1) X.A)
 (hg:Gl X x) (hm:X.mg x=some (.ref C)) (hb:Binds X.K fd ps ds) (hd:Vals dvs ds) (hx:eN CX X E) (ha:PA X (e::es) t) (hdb:(x == ("__debug__" : Str))=false:=by decide) (he:starEach (e::es) X.env=(false,eval e X.env)::starEach es X.env:=by rfl) (hpl:(backTo pos (starEach es X.env)).any (·.1)=false:=by rfl) (hle:ps.length≤20:=by decide) :
 PE X (.Call (.Name x p) (e::es) [] pos) (Dg C sp dvs E t):=by
 intro Z s U H Q I h
 refine wpAny_Call_Name_kw (jf I hg hm ?_ hdb)
 refine callWith_K (h₀:=X.base) I.ok.mod.kin XC.kp (cz (ha pos Z s U H _ I h) fun us s1 ⟨vs,H1,I1,r,q⟩=>⟨I1.kIn,?_⟩) he hpl
 refine xM BF XC hi hf F hr hb hd hx I1 r ?_ q
 have h1:=F.len _ _ _ _ (q (s1.heap.objs.size) (I1.hok.fresh (Nat.le_refl _)))
 rw [List.length_cons,List.length_append] at h1
 have h2:=r.length
 exact Nat.le_trans (show us.length≤20 by omega) (by decide)
end
def zm (H:Hp) (a:Addr):Hp:=fun b=>if b=a then none else H b
theorem m9 {H:Hp} {a:Addr}:zm H a a=none:=if_pos rfl
theorem uy {H:Hp} {a b:Addr} (h:b≠a):zm H a b=H b:=if_neg h
theorem kh {H:Hp} {a b:Addr} (h:H b=none):zm H a b=none:=by
 unfold zm
 split
 ·rfl
 ·exact h
section
variable {X:Cx} {Z:List (Addr×Obj)} {U:St} {H:Hp} {s:Shared} {e C:Addr} {dd:Option Addr}
theorem Inv.zm (I:Inv X Z U H s) (he:H e=some (dO e C dd)):Inv X Z U (L2.zm H e) s:=by
 have up:∀ b u,H b=some u->u≠dO e C dd->L2.zm H e b=some u:=fun b u z hu=>by
  by_cases q:b=e
  ·subst q;rw [he] at z;exact absurd (Option.some.inj z).symm hu
  ·rw [uy q];exact z
 refine ⟨I.ok,I.os,I.bare,⟨I.base.keep,I.base.slot,fun b o z n hx=>kh (I.base.free b o z n hx),I.base.there,fun b xs z=>up b _ (I.base.tups b xs z) (by intro q;cases q),fun b o u z=>up b _ (I.base.frzs b o u z) (by intro q;cases q),fun b ps z=>?_⟩,I.loc,I.cell,kh I.free,fun x c z=>kh (I.freeC x c z),fun p hp=>?_,fun b u z=>?_,I.len⟩
 ·obtain ⟨m,q⟩:=I.base.tbls b ps z
  exact ⟨m,up b _ q (by intro q;cases q)⟩
 ·obtain ⟨p1,p2,p3⟩:=I.pin p hp
  exact ⟨p1,kh p2,p3⟩
 ·by_cases q:b=e
  ·subst q;rw [m9] at z;cases z
  ·rw [uy q] at z
   exact (I.hok b u z).stay (fun c v _ r=>r) (fun c r=>up c _ r (by intro q;cases q)) fun c xs r=>up c _ r (by intro q;cases q)
def Gh (X:Cx) (B newId:String) (W:XK) (te:TE):TS:=fun _ U H=>te U H fun x H1=>∃ e C dd,x=.ref e/\H1 e=some (dO e C dd)/\X.H₀ e=none/\jn X.K C B newId/\W (.ref C) dd (zm H1 e)
theorem x_ {ex:Expr} {pos:Pos} {te:TE} {W:XK} {B newId:String} (he:PE X ex te) (hcalm:X.calm=true) (hex:X.ex=[])
 (hxe:∀ (Z:List (Addr×Obj)) (U:St) (H':Hp) (s':Shared) (e:Addr) (cls:Value) (dd:Option Addr),Inv X Z U H' s'->fG s'.heap H' X.s₀.heap e cls dd->W cls dd H'->X.xe (.ref e) s'):PS X (.Raise (some ex) none pos) (Gh X B newId W te):=by
 intro Z s U H D I h
 rw [arm_exec_Raise]
 have key:∀ xs:Sem Value,wpAny (model X.prog X.w) X.A xs (EP X Z U fun x H1=>∃ e C dd,x=.ref e/\H1 e=some (dO e C dd)/\X.H₀ e=none/\jn X.K C B newId/\W (.ref C) dd (L2.zm H1 e)) X.xe s->wpAny (model X.prog X.w) X.A (raiseStmt X.env (some xs) none) (SP X Z D) X.xe s:=by
  intro xs hxs
  unfold raiseStmt
  refine wpAny_bind (cz hxs fun v s1 ⟨x,H1,I1,r1,e,C,dd,ex',hx,h0,XC,q⟩=>?_)
  subst ex'
  cases (show v=Value.ref e from r1)
  obtain ⟨a0,hg⟩:=pZ I1 hx
  have Y:=jk (M:=model X.prog X.w) I1.kIn XC.mks
  obtain ⟨⟨oc,od,cd,sl,hC,e1,e2,e4⟩,made,base,self,isB,isE,noA,noN,call,typ⟩:=Y
  have T1:Looks (model X.prog X.w) s1.heap (typeOf (.ref e)) (.ref C):=(Looks.ld hg).andThen .now
  have fin:X.xe (.ref e) s1:=by
   refine hxe Z U _ s1 e (.ref C) dd (I1.zm hx) ⟨_,_,hg,rfl,rfl,rfl,?_,m9,.inl rfl⟩ q
   cases z:X.s₀.heap.get? e with
   |none=>rfl
   | some o=>
     have:=I1.base.free e o z h0 (by rw [hex];simp)
     rw [hx] at this;cases this
  have T2:Looks (model X.prog X.w) s1.heap (typeOf (.ref C)) (.type "type"):=looks_typeIn I1.kIn XC.ty
  have T3:Looks (model X.prog X.w) s1.heap (isInstance (.ref e) (.type "BaseException")) true:=T1.andThen isE
  have hh:X.A.handled=none:=I1.ok.hd hcalm
  clear I1 r1 hxs he h I XC made base self isB noA noN call typ
  obtain ⟨hp,g,d,tk,os⟩:=s1
  repeat (first|with_reducible refine wpAny_loadPart_at hg ?_|with_reducible refine T3.at ?_|with_reducible refine T1.at ?_|with_reducible refine T2.at ?_|wp_step)
  exact wpAny_raiseNew_none hh fin
 first
  |exact wpAny_bind (wpAny_standAt (key _ (wpAny_bind (cz (he Z s U H _ I h) fun v s1 z=>wpAny_bind (wpAny_standAt (wpAny_pure z))))))
  |(simp only [evalOpt,Option.map];exact wpAny_bind (wpAny_standAt (key _ (wpAny_bind (cz (he Z s U H _ I h) fun v s1 z=>wpAny_bind (wpAny_standAt (wpAny_pure z)))))))
end
section
variable {X:Cx} {Z:List (Addr×Obj)} {U:St} {H:Hp} {s:Shared} {e C:Addr} {f:Str} {B newId initId:String} {bm:List Value} {A:Around} {E:Value->Shared->Prop} {y:V} {u:Value} {Q:Unit->Shared->Prop}
theorem zF {da:Addr} {fs:List (Str×V)} (I:Inv X Z U H s) (he:H e=some (dO e C (some da))) (hd:H da=some (qm da fs)) (hl:fs.length<1000) (XC:jn X.K C B newId) (ht:takerIn X.K C f=some none) (ry:RelV y u)
 (h:∀ s',Inv X Z U (upd H da (qm da (gr f y fs))) s'->Q () s'):wpAny (model X.prog X.w) A (setAttr (.ref e) f u) Q E s:=by
 obtain ⟨a0,hx⟩:=pZ I he
 obtain ⟨mA,hn,r,wi⟩:=(show cG X.prog X.w H s.heap da (qm da fs) from I.hok da _ hd).1
 obtain ⟨od,hod,_⟩:=kY hn
 have J:InstAt s.heap e _ C (some od):=⟨hx,rfl,rfl,hod⟩
 obtain ⟨cd,rs,bm,hc,hdct,_⟩:=XC.cd
 refine set_plain I.kIn J XC.sa (Jy (s:={ s with toks:=s.toks+1 }) I.kIn J XC ht fun b=>uN (s:={ s with toks:=s.toks+1 }) (ns:=fs.map (·.1)) I.kIn hx hc hdct hn wi (by rw [List.length_map];exact hl) fun h' hn' hs=>?_)
 refine h _ (I.write (x:=da) (e:=da) (h':=h') (t':=s.toks+1+1) (by rw [hd];exact True.intro) (.inl rfl) (fun b q hb z=>(hs.2 b hb).trans z) (let ⟨o,_,_,ho,_⟩:=hn';⟨o,ho⟩) (sW hn' (fun g=>?_) fun g hg=>?_))
 ·show ii ((gr f y fs).lookup g) (if g=f then some u else mA g)
  rw [cQ]
  by_cases q:g=f
  ·rw [if_pos q,if_pos q];exact ry
  ·rw [if_neg q,if_neg q];exact r g
 ·by_cases q:g=f
  ·rw [q];exact (gZ f y fs).1
  ·refine (gZ f y fs).2 g (wi g fun z=>hg ?_)
   show (if g=f then some u else mA g)=none
   rw [if_neg q];exact z
def KY (K:Frag) (B newId:String) (ta tv:TE) (f:Str):TS:=fun D U H=>tv U H fun y H1=>ta U H1 fun x H2=>∃ e C,x=.ref e/\jn K C B newId/\takerIn K C f=some none/\
 ((H2 e=some (dO e C none)/\∀ da,H2 da=none->D.nx U (upd (upd H2 e (dO e C (some da))) da (qm da [(f,y)])))∨
   ∃ da fs,H2 e=some (dO e C (some da))/\H2 da=some (qm da fs)/\fs.length<1000/\D.nx U (upd H2 da (qm da (gr f y fs))))
theorem An {o value:Expr} {pos pos':Pos} {ta tv:TE} (ha:PE X o ta) (hv:PE X value tv) (hs:swapsWith value (some (.Attribute o f pos')) pos.line X.env=pure false):PS X (.Assign [.Attribute o f pos'] value pos) (KY X.K B newId ta tv f):=by
 intro Z s U H D I h
 refine plainObj_wpAny_Assign_Attribute (cz (hv Z s U H _ I h) fun u s1 ⟨y,H1,I1,ry,q⟩=>cz (ha Z s1 U H1 _ I1 q) fun ov s2 ⟨x,H2,I2,rx,e,C,ex,XC,ht,q2⟩=>?_) hs
 subst ex
 cases (show ov=Value.ref e from rx)
 rcases q2 with ⟨he,q2⟩|⟨da,fs,he,hd,hl,q2⟩
 ·exact zj I2 he XC ht ry fun da s' hda I3=>⟨U,_,I3,q2 da hda⟩
 ·exact zF I2 he hd hl XC ht ry fun s' I3=>⟨U,_,I3,q2⟩
theorem sV (BF:ExcBaseFacts B newId initId bm):eX X (.builtin initId) (fun xs H Q=>∃ e C dd y,xs=[.ref e,y]/\H e=some (dO e C dd)/\jn X.K C B newId/\Q .non H):=by
 intro Z s U H xs us Q I r h
 obtain ⟨e,C,dd,y,rfl,he,XC,q⟩:=h
 cases r with
 | cons r1 r=>
   cases r with
   | cons r2 r=>
     cases r
     rename_i u1 u2
     cases (show u1=Value.ref e from r1)
     obtain ⟨a0,hg⟩:=pZ I he
     have Y:=jk (M:=model X.prog X.w) I.kIn XC.mks
     have T1:Looks (model X.prog X.w) s.heap (typeOf (.ref e)) (.ref C):=(Looks.ld hg).andThen .now
     have T3:Looks (model X.prog X.w) s.heap (isInstance (.ref e) (.type B)) true:=T1.andThen Y.isB
     have hshort:=BF.noStar
     refine wpAny_call (codeAny_call_builtin BF.init.plain BF.initEntry ?_)
     simp only [checkBuiltinCall,BF.initKind,BF.initSplit,BF.initRow]
     refine wpAny_bind (T3.here ?_)
     simp only [Bool.not_true,Bool.false_eq_true,if_false]
     obtain ⟨oc,od,cd,sl,hC,e1,e2,e4⟩:=Y.obj
     have T2:=Y.typ
     obtain ⟨hp,g,d,tk,os⟩:=s
     unfold Bind.checkArgs
     repeat (first|with_reducible refine wpAny_loadPart_at hg ?_|with_reducible refine wpAny_loadPart_at hC ?_|with_reducible refine T1.at ?_|wp_step)
     have fin:∀ tk',EP X Z U Q .none ⟨(hp.push { cls:=Value.type "tuple",data:=Data.seq #[u2] }).update e (Obj.mapFields fun x=>x.setIfInBounds 0 (Value.ref hp.objs.size)),g,d,tk',os⟩:=fun tk'=>by
      have hg':hp.get? e=some { cls:=.ref C,dict:=dd,data:=.fields #[a0,.none,.none,.none,.bool false,.none] }:=hg
      have hg1:=Heap.get?_push_of_some (h:=hp) { cls:=Value.type "tuple",data:=Data.seq #[u2] } hg'
      have hg2:=Heap.get?_update_self (Obj.mapFields fun x=>x.setIfInBounds 0 (Value.ref hp.objs.size)) hg1 rfl
      have I1:Inv X Z U H ⟨hp.push { cls:=Value.type "tuple",data:=Data.seq #[u2] },g,d,tk',os⟩:=I.kept (s:=⟨hp,g,d,tk,os⟩) (t':=tk') fun b o z=>Heap.get?_push_of_some _ z
      have I2:=I1.write (x:=e) (e:=e) (o:=dO e C dd) (h':=(hp.push { cls:=Value.type "tuple",data:=Data.seq #[u2] }).update e (Obj.mapFields fun x=>x.setIfInBounds 0 (Value.ref hp.objs.size))) (t':=tk') (by rw [he];exact True.intro) (.inl rfl) (fun b q hb z=>(Heap.get?_update_ne _ _ _ _ hb).trans z) ⟨_,hg2⟩ (qJ (a0:=.ref hp.objs.size) hg2)
      have eH:upd H e (dO e C dd)=H:=by
       funext b
       unfold upd
       split
       ·rename_i q;rw [q,he]
       ·rfl
      rw [eH] at I2
      exact ⟨.non,H,I2,rfl,q⟩
     cases a0 <;> first|exact wpAny_pure (wpAny_pure (fin _))|exact wpAny_letGo (wpAny_pure (fin _))
end
section
variable {X:Cx} {CX:nH} {k:Nat} {f C CS:Addr} {fd:FuncData} {ps:List Str} {sp:Sp} {dvs:List V} {ds:List Value} {E:XK} {m tn cn:Str} {T id:String} {p pos apos:Pos} {e:Expr} {es:List Expr} {t:TA} {r:List V->Hp->VK->Prop} {mc:Value}
def Dm (r:List V->Hp->VK->Prop) (t:TA):TE:=fun U H Q=>t U H fun vs H1=>r vs H1 Q
theorem sJ {pl:Sem Bool} (hg:Gl X tn) (hm:X.mg tn=none) (hv:bootBuiltins tn=some (.type T)) (ht:typeOf (.type T)=pure (.type "type")) (hs:Manifest.isStub T=false) (fc:findCls X.K (.type T) (.type "type") m=some (.val (.builtin id))) (hc:eX X (.builtin id) r) (ha:PA X (e::es) t) (hh:handedIn (.builtin id)=true:=by rfl)
 (hn:tn ≠ "__name__":=by decide) (hdb:(tn == ("__debug__" : Str))=false:=by decide) (hst:starEach (e::es) X.env=(false,eval e X.env)::starEach es X.env:=by rfl) (hpl:(backTo pos (starEach es X.env)).any (·.1)=false:=by rfl)
 (hte:eval (.Call (.Attribute (.Name tn p) m apos) (e::es) [] pos) X.env=(do
  let ov ← eval (.Name tn p) X.env
  standAt apos.atName
  let (f,first) ← holding [ov] (getMethod ov m pl)
  callWith pos f first (backTo pos (starEach (e::es) X.env)) (backToKw pos (keywordEach [] X.env))):=by rfl) :
 PE X (.Call (.Attribute (.Name tn p) m apos) (e::es) [] pos) (Dm r t):=by
 intro Z s U H Q I h
 obtain ⟨mm,F⟩:=I.fr
 refine methodCall_KW (pl:=pl) (jw I hg hm hv (method_type F I.ok.mod.kin ht hs fc hh ?_) hn hdb) hte
 exact callWith_builtin1 (cz (ha pos Z _ U H _ (I.tok _) h) fun us s1 ⟨vs,H1,I1,r1,q1⟩=>hc Z s1 U H1 vs us Q I1 r1 q1) hst hpl
theorem uH {pl:Sem Bool} (hg:Gl X cn) (hm:X.mg cn=some (.ref CS)) (sg:specialIn X.K (.ref CS) "__getattribute__" = some (some (.builtin "type.__getattribute__"))) (hr':readsIn X.K CS mc=true) (fc:findCls X.K (.ref CS) mc m=some (.val (.ref f))) (hk:keepIn X.K (.ref f)=true)
 (F:aR X.prog X.w X.K X.mg X.base CX k f fd ps sp) (hr:bF k X.A) (hb:Binds X.K fd ps ds) (hd:Vals dvs ds) (hx:eN CX X E) (ha:PA X (e::es) t) (hdb:(cn == ("__debug__" : Str))=false:=by decide)
 (hst:starEach (e::es) X.env=(false,eval e X.env)::starEach es X.env:=by rfl) (hpl:(backTo pos (starEach es X.env)).any (·.1)=false:=by rfl)
 (hte:eval (.Call (.Attribute (.Name cn p) m apos) (e::es) [] pos) X.env=(do
  let ov ← eval (.Name cn p) X.env
  standAt apos.atName
  let (f,first) ← holding [ov] (getMethod ov m pl)
  callWith pos f first (backTo pos (starEach (e::es) X.env)) (backToKw pos (keywordEach [] X.env))):=by rfl) :
 PE X (.Call (.Attribute (.Name cn p) m apos) (e::es) [] pos) (rO sp dvs E t):=by
 intro Z s U H Q I h
 refine methodCall_KW (pl:=pl) (jf I hg hm (method_cls I.kIn sg (cls_value I.kIn hr' fc rfl ?_)) hdb) hte
 refine callWith_K (first:=[]) (h₀:=X.base) I.ok.mod.kin hk (cz (ha pos Z _ U H _ (I.tok _) h) fun us s1 ⟨vs,H1,I1,r,q⟩=>⟨I1.kIn,?_⟩) hst hpl
 exact ud F hr hb hd hx I1 r q
end
end L2
namespace L2
open PySem PySem.Spec PyProof.Rows
section
variable {X:Cx} {Z:List (Addr×Obj)} {U:List (Option V)} {H H':Hp} {s:Shared} {h':Heap}
theorem Inv.stepN {g':Array GenState} {t':Nat} {d':Drawn} {ch:List Addr} (I:Inv X Z U H s)
 (hch:∀ b∈ch,X.s₀.heap.get? b=none/\b≠X.env.locals/\(∀ x c,X.env.cells.lookup x=some c->c≠b)/\∀ p∈X.pn++Z,p.1≠b)
 (keep:∀ b o,b≠X.env.locals->b∉X.fs->b∉ch->s.heap.get? b=some o->H b=none->h'.get? b=some o)
 (slot:∀ b o,b≠X.env.locals->b∈X.fs->b∉ch->s.heap.get? b=some o->H b=none->∃ sl,h'.get? b=some { o with slots:=sl }) (free:∀ b o,b∉ch->s.heap.get? b=some o->H b=none->H' b=none)
 (there:∀ b o,b∉ch->s.heap.get? b=some o->∃ o',h'.get? b=some o')
 (tups:∀ b xs,H b=some (.tup xs)->H' b=some (.tup xs)) (frzs:∀ b o u,H b=some (.frz o u)->H' b=some (.frz o u)) (tbls:∀ b ps,H b=some (.tbl ps)->∃ more,H' b=some (.tbl (ps++more)))
 (ns:∀ m,s.heap.Ns X.env.locals m->h'.Ns X.env.locals m) (hok:iR X.prog X.w H' h') (hg:AllBare g') :
 Inv X Z U H' { s with heap:=h',gens:=g',drawn:=d',toks:=t' }:=by
 have neL:∀ b o,X.s₀.heap.get? b=some o->b≠X.env.locals:=fun b o e=>Nat.ne_of_lt (Nat.lt_of_lt_of_le (Heap.lt_size e) I.ok.above)
 have neC:∀ b o,X.s₀.heap.get? b=some o->b∉X.ex->b∉ch:=fun b o e hx hb=>by
  rw [(hch b hb).1] at e;cases e
 have cellK:∀ x c,X.env.cells.lookup x=some c->∀ v,s.heap.IsCell c v->h'.IsCell c v:=fun x c e v ⟨o,ho,hd⟩=>by
  have nch:c∉ch:=fun z=>(hch c z).2.2.1 x c e rfl
  by_cases hc:c∈X.fs
  ·obtain ⟨sl,q⟩:=slot c o (I.cne x c e) hc nch ho (I.freeC x c e)
   exact ⟨_,q,hd⟩
  ·exact ⟨o,keep c o (I.cne x c e) hc nch ho (I.freeC x c e),hd⟩
 refine ⟨I.ok,I.os,hg,⟨fun b o e n hb hx=>?_,fun b o e n hb hx=>?_,fun b o e n hx=>?_,fun b o e hx=>?_,fun b xs e=>tups b xs (I.base.tups b xs e),fun b o xs e=>frzs b o xs (I.base.frzs b o xs e),fun b ps e=>?_⟩,?_,fun x c e=>?_,?_,fun x c e=>?_,fun p hp=>?_,hok,I.len⟩
 ·exact keep b o (neL b o e) hb (neC b o e hx) (I.base.keep b o e n hb hx) (I.base.free b o e n hx)
 ·obtain ⟨sl,e1⟩:=I.base.slot b o e n hb hx
  obtain ⟨sl',e2⟩:=slot b _ (neL b o e) hb (neC b o e hx) e1 (I.base.free b o e n hx)
  exact ⟨sl',e2⟩
 ·obtain ⟨o',e1⟩:=I.base.there b o e hx
  exact free b o' (neC b o e hx) e1 (I.base.free b o e n hx)
 ·obtain ⟨o',e1⟩:=I.base.there b o e hx
  exact there b o' (neC b o e hx) e1
 ·obtain ⟨m1,e1⟩:=I.base.tbls b ps e
  obtain ⟨m2,e2⟩:=tbls b _ e1
  exact ⟨m1++m2,by rw [e2,Array.append_assoc]⟩
 ·obtain ⟨m,hn,hl⟩:=I.loc
  refine ⟨m,ns m hn,fun i x v e1 e2 e3=>?_⟩
  obtain ⟨u,r,l⟩:=hl i x v e1 e2 e3
  refine ⟨u,r,?_⟩
  rcases l with l|⟨k,c,e,z⟩
  ·exact .inl l
  ·exact .inr ⟨k,c,e,cellK x c e _ z⟩
 ·obtain ⟨v,z⟩:=I.cell x c e
  exact ⟨v,cellK x c e v z⟩
 ·obtain ⟨m,⟨o,_,_,ho,_⟩,_⟩:=I.loc
  exact free _ o (fun z=>(hch _ z).2.1 rfl) ho I.free
 ·obtain ⟨v,o,ho,hd⟩:=I.cell x c e
  exact free c o (fun z=>(hch c z).2.2.1 x c e rfl) ho (I.freeC x c e)
 ·obtain ⟨e,n,ne,nf,d⟩:=I.pin p hp
  have nch:p.1∉ch:=fun z=>(hch p.1 z).2.2.2 p hp rfl
  exact ⟨keep p.1 p.2 ne nf nch e n,free p.1 p.2 nch e n,ne,nf,d⟩
end
end L2
namespace L2
open PySem PySem.Spec PyProof.Rows PySem.SeqAt PySem.W Builtin.ObjectAttr
section
variable {X:Cx} {Z:List (Addr×Obj)} {U σ0:St} {H H0:Hp} {s s0:Shared} {e:Addr} {cls:Value} {dd:Option Addr}
theorem F_ {A:Around} {Q:Unit->Shared->Prop} {E:Value->Shared->Prop} (I0:Inv X Z σ0 H0 s0) (I:Inv X Z U H s) (hst:X.stack=X.env::X.outer) (hfm:X.env.frame=some X.env.locals) (hfr:A.frames=some X.stack) (hex:X.ex=[]) (hth:∀ b o,s0.heap.get? b=some o->∃ o',s.heap.get? b=some o') (x:fG s.heap H s0.heap e cls dd)
 (h:∀ h',fG h' H s0.heap e cls dd->Inv X Z U H { s with heap:=h' }->Q () { s with heap:=h' }):wpAny (model X.prog X.w) A (noteFrame (.ref e) X.env) (fun _ s2=>wpAny (model X.prog X.w) A (setFlight (.ref e) none) Q E s2) E s:=by
 have hl:=I.stack
 rw [hst] at hfr hl
 obtain ⟨oe,vs,h1,h2,h3,h4,h5,h6,h7⟩:=x
 have free:∀ b∈(X.env::X.outer).filterMap (·.frame),H b=none:=fun b hb=>I.stkFree b (by rw [hst];exact hb)
 have old:∀ T,s0.heap.get? T=none->X.s₀.heap.get? T=none/\T≠X.env.locals/\(∀ x c,X.env.cells.lookup x=some c->c≠T)/\∀ p∈X.pn++Z,p.1≠T:=fun T hT=>by
  refine ⟨?_,?_,fun x c z q=>?_,fun p hp q=>?_⟩
  ·cases z:X.s₀.heap.get? T with
   |none=>rfl
   | some o=>
     obtain ⟨o',q⟩:=I0.base.there T o z (by rw [hex];simp)
     rw [hT] at q;cases q
  ·rintro rfl
   obtain ⟨_,⟨o,_,_,ho,_⟩,_⟩:=I0.loc
   rw [hT] at ho;cases ho
  ·obtain ⟨v,o,ho,_⟩:=I0.cell x c z
   rw [q,hT] at ho;cases ho
  ·have:=(I0.pin p hp).1
   rw [q,hT] at this;cases this
 have fin:∀ (ch:List Addr) (h':Heap) (T:Addr) (oe' oT:Obj) (vs' ts:Array Value),(∀ b∈ch,s0.heap.get? b=none/\H b=none)->s0.heap.get? T=none->T≠e->H T=none->h'.get? e=some oe'->oe'.cls=oe.cls->oe'.dict=oe.dict->oe'.data=.fields vs'->vs'[1]?=some (.ref T)->h'.get? T=some oT->oT.data=.fields ts->ts[3]?=some .none->
  (∀ b o,b∉ch->b∉(X.env::X.outer).filterMap (·.frame)->s.heap.get? b=some o->h'.get? b=some o)->(∀ b o,b∉ch->s.heap.get? b=some o->∃ sl,h'.get? b=some { o with slots:=sl })->Q () { s with heap:=h' }:=by
  intro ch h' T oe' oT vs' ts hch hT hTe hTn g1 g2 g3 g4 g5 g6 g7 g8 kp ks
  refine h h' ⟨oe',vs',g1,g2.trans h2,g3.trans h3,g4,h5,h6,.inr ⟨T,oT,ts,g5,hTe,g6,g7,g8,hT,hTn⟩⟩ ?_
  have ninF:∀ b,b≠X.env.locals->b∉X.fs->b∉(X.env::X.outer).filterMap (·.frame):=fun b hb hn hm=>by
   rw [List.filterMap_cons,hfm] at hm
   rcases List.mem_cons.mp hm with q|hm
   ·exact hb q
   ·exact hn hm
  refine I.stepN (ch:=ch) (g':=s.gens) (d':=s.drawn) (t':=s.toks) (fun b hb=>old b (hch b hb).1) (fun b o hL hf hc z _=>kp b o hc (ninF b hL hf) z) (fun b o _ _ hc z _=>ks b o hc z) (fun b o _ _ n=>n) (fun b o hc z=>let ⟨sl,q⟩:=ks b o hc z;⟨_,q⟩) (fun _ _ z=>z) (fun _ _ _ z=>z) (fun b ps z=>⟨#[],by rw [z];simp⟩) (fun m hm=>?_) (fun b u hb=>?_) I.bare
  ·obtain ⟨o,es,ep,ho,hd,r⟩:=hm
   have hnl:X.env.locals∉ch:=fun z=>(old _ (hch _ z).1).2.1 rfl
   obtain ⟨sl,q⟩:=ks _ o hnl ho
   exact ⟨_,es,ep,q,hd,r⟩
  ·refine (I.hok b u hb).stay (fun c v hc q=>kp c v (fun z=>?_) (fun hm=>?_) q) (fun _ q=>q) fun _ _ q=>q
   ·have:=(hch c z).2
    rcases hc with rfl|w
    ·rw [this] at hb;cases hb
    ·rw [this] at w;cases w
   ·have:=free c hm
    rcases hc with rfl|w
    ·rw [this] at hb;cases hb
    ·rw [this] at w;cases w
 have newT:∀ T,s.heap.objs.size≤T->s0.heap.get? T=none/\T≠e/\H T=none:=fun T hT=>by
  refine ⟨?_,fun q=>?_,I.hok.fresh hT⟩
  ·cases z:s0.heap.get? T with
   |none=>rfl
   | some o=>
     obtain ⟨o',q⟩:=hth T o z
     exact absurd (Nat.lt_of_lt_of_le (Heap.lt_size q) hT) (Nat.lt_irrefl _)
  ·subst q;exact absurd (Nat.lt_of_lt_of_le (Heap.lt_size h1) hT) (Nat.lt_irrefl _)
 unfold noteFrame
 simp only [hfm]
 rcases h7 with h7|⟨T,oT,ts,t1,t2,t3,t4,t5,t6,t7⟩
 ·refine wpAny_bind (wpAny_field h1 h4 h7 ?_)
  rw [if_neg (by decide)]
  refine qN hfr hl hfm h1 h4 (Array.getElem?_eq_some_iff.mp h7).1 fun h' T oe' oT vs' ts hT g1 g2 g3 g4 g5 g6 g7 g8 kp ks=>?_
  obtain ⟨n1,n2,n3⟩:=newT T hT
  exact fin [e] h' T oe' oT vs' ts (fun b hb=>by cases List.mem_singleton.mp hb;exact ⟨h5,h6⟩) n1 n2 n3 g1 g2 g3 g4 g5 g6 g7 g8 (fun b o hb hm z=>kp b o (fun q=>hb (by simp [q])) hm z) fun b o hb z=>ks b o (fun q=>hb (by simp [q])) z
 ·refine wpAny_bind (wpAny_field h1 h4 t1 ?_)
  rw [if_pos (show (Value.ref T != Value.none)=true by simp)]
  refine wpAny_bind (wpAny_field t3 t4 t5 ?_)
  rw [if_neg (show ¬ ((Value.none == rawInt X.env.locals)=true) by simp [rawInt])]
  refine wpAny_bind (wpAny_setField t3 t4 (Array.getElem?_eq_some_iff.mp t5).1 ?_)
  have other:∀ b,b≠T->(s.heap.update T (Obj.mapFields (·.setIfInBounds 3 Value.none))).get? b=s.heap.get? b:=fun b hb=>Heap.get?_update_other _ _ (Ne.symm hb)
  have noR:∀ b o,s.heap.get? b=some o->(∀ vs,o.data≠.fields vs)->b≠T:=fun b o hb hnf q=>by
   subst q
   rw [t3] at hb
   cases hb
   exact hnf ts t4
  refine qN (s:={ s with heap:=s.heap.update T (Obj.mapFields (·.setIfInBounds 3 Value.none)) }) hfr (hl.of_keeps fun b o hb hnf=>⟨o,(other b (noR b o hb hnf)).trans hb,rfl⟩) hfm ((other e (Ne.symm t2)).trans h1) h4 (Array.getElem?_eq_some_iff.mp t1).1 fun h' T' oe' oT' vs' ts' hT g1 g2 g3 g4 g5 g6 g7 g8 kp ks=>?_
  have hT':s.heap.objs.size≤T':=by
   have z:(s.heap.update T (Obj.mapFields (·.setIfInBounds 3 Value.none))).objs.size=s.heap.objs.size:=Heap.size_update _ _ _
   exact Nat.le_trans (Nat.le_of_eq z.symm) hT
  obtain ⟨n1,n2,n3⟩:=newT T' hT'
  refine fin [e,T] h' T' oe' oT' vs' ts' (fun b hb=>?_) n1 n2 n3 g1 g2 g3 g4 g5 g6 g7 g8 (fun b o hb hm z=>kp b o (fun q=>hb (by simp [q])) hm ((other b fun q=>hb (by simp [q])).trans z)) fun b o hb z=>ks b o (fun q=>hb (by simp [q])) ((other b fun q=>hb (by simp [q])).trans z)
  rcases List.mem_cons.mp hb with rfl|hb
  ·exact ⟨h5,h6⟩
  ·cases List.mem_singleton.mp hb;exact ⟨t6,t7⟩
end
theorem DQ {h:Heap} {a:Addr} {o:Obj} {f:Obj->Obj} (e:h.get? a=some o) (hf:f o=o):h.update a f=h:=by
 obtain ⟨objs,l⟩:=h
 have e':objs[a]?=some o:=by
  unfold Heap.get? at e
  dsimp only at e
  split at e
  ·cases e
  ·exact e
 show (⟨objs.modify a f,l⟩:Heap)=⟨objs,l⟩
 congr 1
 obtain ⟨hlt,e2⟩:=Array.getElem?_eq_some_iff.mp e'
 refine Array.ext (by simp) fun i h1 h2=>?_
 rw [Array.getElem_modify]
 split
 ·rename_i q
  subst q
  rw [e2,hf]
 ·rfl
section
variable {X:Cx} {Z:List (Addr×Obj)} {U σ0:St} {H H0:Hp} {s s0:Shared} {e:Addr} {cls:Value} {dd:Option Addr}
theorem Inv.drop (I:Inv X Z U H s) (i:Nat):Inv X Z (U.set i none) H s:=by
 obtain ⟨ok,os,bare,base,⟨m,hn,hl⟩,cell,free,freeC,pin,hok,len⟩:=I
 refine ⟨ok,os,bare,base,⟨m,hn,fun j x v e1 e2 e3=>?_⟩,cell,free,freeC,pin,hok,by simpa using len⟩
 by_cases hj:j=i
 ·subst hj
  rw [List.getElem?_set] at e2
  split at e2 <;> simp_all
 ·rw [List.getElem?_set_ne (Ne.symm hj)] at e2
  exact hl j x v e1 e2 e3
theorem lZ {M:Model} {A:Around} {E:Value->Shared->Prop} {i:Nat} {x:Str} {pos:Pos} {Q:Unit->Shared->Prop} (I:Inv X Z U H s) (hN:X.N.Nodup) (hi:X.N[i]?=some x) (hx:X.env.scope.names.lookup x=some .local)
 (h:∀ s',Inv X Z (U.set i none) H s'->Q () s'):wpAny M A (do bindName X.env x .none;unbindBehindTheSuite X.env x pos) Q E s:=by
 have hcls:(X.env.scope.kind == .class || (X.env.scope.kind == .module && X.env.locals != X.env.globals))=false:=by rw [I.ok.kind];rfl
 have hiU:i<U.length:=by rw [I.len];exact (List.getElem?_eq_some_iff.mp hi).1
 refine wpAny_bind (wpAny_bindName (j4 I hN hi (.inl hx) (v:=.non) (u:=.none) rfl (fun s1 I1=>?_) (.inr hx)))
 obtain ⟨m,hn,hl⟩:=id I1.loc
 obtain ⟨u,_,lk⟩:=hl i x .non hi (by rw [List.getElem?_set_self hiU]) (.inl hx)
 have hv:m x=some u:=by
  rcases lk with ⟨_,z⟩|⟨k,_⟩
  ·exact z
  ·unfold Env.kindOf at k
   rw [hx] at k
   rcases k with k|k <;> cases k
 unfold unbindBehindTheSuite
 refine wpAny_onRaise (wpAny_unbindName_local hx hn hv hcls fun h' u' hn' hs=>?_)
 have I2:=I1.drop i
 rw [List.set_set] at I2
 obtain ⟨ok,os,bare,base,⟨m2,hn2,hl2⟩,cell,free,freeC,pin,hok,len⟩:=id I2
 obtain ⟨oL,_,_,hoL,_⟩:=id hn
 have neL:∀ b o,X.s₀.heap.get? b=some o->b≠X.env.locals:=fun b o e=>Nat.ne_of_lt (Nat.lt_of_lt_of_le (Heap.lt_size e) ok.above)
 refine h _ ⟨ok,os,bare,⟨fun b o e n hb hx=>?_,fun b o e n hb hx=>?_,base.free,fun b o e hx=>?_,base.tups,base.frzs,base.tbls⟩,⟨_,hn',fun j y v' e1 e2 e3=>?_⟩,fun y c e=>?_,free,freeC,fun p hp=>?_,fun b ob e=>?_,len⟩
 ·exact (hs.2 b (neL b o e)).trans (base.keep b o e n hb hx)
 ·obtain ⟨sl,e1⟩:=base.slot b o e n hb hx
  exact ⟨sl,(hs.2 b (neL b o e)).trans e1⟩
 ·obtain ⟨o',e1⟩:=base.there b o e hx
  exact ⟨o',(hs.2 b (neL b o e)).trans e1⟩
 ·have hj:j≠i:=fun q=>by
   subst q
   rw [List.getElem?_set_self hiU] at e2;cases e2
  rw [List.getElem?_set_ne (Ne.symm hj)] at e2
  obtain ⟨u'',r',q⟩:=hl j y v' e1 (by rw [List.getElem?_set_ne (Ne.symm hj)];exact e2) e3
  refine ⟨u'',r',?_⟩
  rcases q with ⟨k,e⟩|⟨k,c,e,z⟩
  ·refine .inl ⟨k,?_⟩
   have:y≠x:=fun e=>hj (jL hN e1 (e ▸ hi))
   simp [this,e]
  ·exact .inr ⟨k,c,e,z.sameBut hs (I1.cne y c e)⟩
 ·obtain ⟨w',z⟩:=I1.cell y c e
  exact ⟨w',z.sameBut hs (I1.cne y c e)⟩
 ·obtain ⟨e,n,ne,nf,d⟩:=pin p hp
  exact ⟨(hs.2 p.1 ne).trans e,n,ne,nf,d⟩
 ·refine (hok b ob e).stay (fun c w' hc q=>(hs.2 c ?_).trans q) (fun _ q=>q) fun _ _ q=>q
  rintro rfl
  rcases hc with rfl|hc
  ·rw [free] at e;cases e
  ·rw [free] at hc;cases hc
theorem tZ {M:Model} {A:Around} {Q:Unit->Shared->Prop} {E:Value->Shared->Prop} (x:fG s.heap H s0.heap e cls dd) (h:Q () s):wpAny M A (setFlight (.ref e) none) Q E s:=by
 obtain ⟨oe,vs,h1,h2,h3,h4,h5,h6,h7⟩:=x
 unfold setFlight
 rcases h7 with h7|⟨T,oT,ts,t1,t2,t3,t4,t5,t6,t7⟩
 ·refine wpAny_bind (wpAny_field h1 h4 h7 ?_)
  rw [if_neg (by decide)]
  exact wpAny_pure h
 ·refine wpAny_bind (wpAny_field h1 h4 t1 ?_)
  rw [if_pos (show (Value.ref T != Value.none)=true by simp)]
  refine wpAny_setField t3 t4 (Array.getElem?_eq_some_iff.mp t5).1 ?_
  have:s.heap.update T (Obj.mapFields (·.setIfInBounds 3 ((none:Option Addr).elim Value.none fun f=>rawInt f)))=s.heap:=by
   refine DQ t3 ?_
   obtain ⟨c,d,da,sl⟩:=oT
   cases (show da=.fields ts from t4)
   show (⟨c,d,.fields (ts.setIfInBounds 3 .none),sl⟩:Obj)=⟨c,d,.fields ts,sl⟩
   have:ts.setIfInBounds 3 .none=ts:=by
    obtain ⟨hlt,e2⟩:=Array.getElem?_eq_some_iff.mp t5
    refine Array.ext (by simp) fun i h1 h2=>?_
    rw [Array.getElem_setIfInBounds]
    split
    ·rename_i q
     subst q
     exact e2.symm
    ·rfl
   rw [this]
  rw [this]
  exact h
end
def zg (X:Cx) (ea:Addr) (ps:List (Addr×Obj)):Cx:={ X with A:=X.A.mark (some (.ref ea)),calm:=false,pn:=X.pn++ps,xe:=fun _ _=>False }
section
variable {X:Cx} {Z:List (Addr×Obj)} {U σ0:St} {H H0:Hp} {s s0:Shared} {e:Addr} {cls:Value} {dd:Option Addr}
theorem Cx.Ok.into (ok:X.Ok) {ea:Addr} {ps:List (Addr×Obj)}:(zg X ea ps).Ok:=
 ⟨ok.mod,ok.kind,ok.glob,ok.blt,ok.above,ok.inj,ok.has,ok.cab,(fun h=>nomatch h),ok.frames,ok.stk,ok.exf,ok.bs,ok.bsz,ok.noex,ok.exfs,ok.funs,ok.frf⟩
theorem Inv.into (I:Inv X Z U H s) {ea:Addr} {ps:List (Addr×Obj)} (hp:∀ p∈ps,s.heap.get? p.1=some p.2/\H p.1=none/\p.1≠X.env.locals/\p.1∉X.fs/\∀ v,p.2.data≠.cell v):Inv (zg X ea ps) Z U H s:=by
 refine ⟨I.ok.into,I.os,I.bare,I.base,I.loc,I.cell,I.free,I.freeC,fun p h=>?_,I.hok,I.len⟩
 rcases List.mem_append.mp h with h|h
 ·rcases List.mem_append.mp h with h|h
  ·exact I.pin p (List.mem_append_left _ h)
  ·exact hp p h
 ·exact I.pin p (List.mem_append_right _ h)
theorem Inv.outof {ea:Addr} {ps:List (Addr×Obj)} (I:Inv (zg X ea ps) Z U H s) (ok:X.Ok):Inv X Z U H s:=by
 refine ⟨ok,I.os,I.bare,I.base,I.loc,I.cell,I.free,I.freeC,fun p h=>?_,I.hok,I.len⟩
 rcases List.mem_append.mp h with h|h
 ·exact I.pin p (List.mem_append_left _ (List.mem_append_left _ h))
 ·exact I.pin p (List.mem_append_right _ h)
theorem Inv.handle (I0:Inv X Z σ0 H0 s0) (I:Inv X Z U H s) (x:fG s.heap H s0.heap e cls dd):∃ ps oe,(e,oe)∈ps/\oe.cls=cls/\oe.dict=dd/\(∃ vs,oe.data=.fields vs)/\Inv (zg X e ps) Z U H s/\∀ {σ1 H1 s1},Inv (zg X e ps) Z σ1 H1 s1->fG s1.heap H1 s0.heap e cls dd:=by
 obtain ⟨oe,vs,h1,h2,h3,h4,h5,h6,h7⟩:=x
 have new:∀ T o vs,s0.heap.get? T=none->s.heap.get? T=some o->H T=none->o.data=.fields vs->s.heap.get? T=some o/\H T=none/\T≠X.env.locals/\T∉X.fs/\∀ v,o.data≠.cell v:=fun T o vs hT ho hn hd=>by
  refine ⟨ho,hn,?_,fun q=>?_,fun v q=>by rw [hd] at q;cases q⟩
  ·rintro rfl
   obtain ⟨_,⟨o,_,_,ho,_⟩,_⟩:=I0.loc
   rw [hT] at ho;cases ho
  ·obtain ⟨_,o,ho,_⟩:=I0.funs.mem q
   rw [hT] at ho;cases ho
 rcases h7 with h7|⟨T,oT,ts,t1,t2,t3,t4,t5,t6,t7⟩
 ·refine ⟨[(e,oe)],oe,List.mem_singleton.mpr rfl,h2,h3,⟨_,h4⟩,I.into fun p hp=>?_,fun {σ1 H1 s1} I1=>?_⟩
  ·cases List.mem_singleton.mp hp
   exact new e oe vs h5 h1 h6 h4
  ·have p:=I1.pin (e,oe) (List.mem_append_left _ (List.mem_append_right _ (List.mem_singleton.mpr rfl)))
   exact ⟨oe,vs,p.1,h2,h3,h4,h5,p.2.1,.inl h7⟩
 ·refine ⟨[(e,oe),(T,oT)],oe,List.mem_cons_self,h2,h3,⟨_,h4⟩,I.into fun p hp=>?_,fun {σ1 H1 s1} I1=>?_⟩
  ·rcases List.mem_cons.mp hp with rfl|hp
   ·exact new e oe vs h5 h1 h6 h4
   ·cases List.mem_singleton.mp hp
    exact new T oT ts t6 t3 t7 t4
  ·have p:=I1.pin (e,oe) (List.mem_append_left _ (List.mem_append_right _ List.mem_cons_self))
   have q:=I1.pin (T,oT) (List.mem_append_left _ (List.mem_append_right _ (List.mem_cons_of_mem _ (List.mem_singleton.mpr rfl))))
   exact ⟨oe,vs,p.1,h2,h3,h4,h5,p.2.1,.inr ⟨T,oT,ts,t1,t2,q.1,t4,t5,t6,q.2.1⟩⟩
theorem wB {K:Frag} {P:Program} {w:World} {A:Around} {E:Value->Shared->Prop} {Q:Bool->Shared->Prop} {C Ce:Addr} {B newId:String} {b:Bool} {oe:Obj} (kin:K.In s.heap) (he:s.heap.get? e=some oe) (hcls:oe.cls=.ref Ce) (XC:jn K C B newId) (hm:mroIn K Ce (.ref C)=some b) (h:Q b s) :
 wpAny (model P w) A (excMatches (.ref e) (.ref C)) Q E s:=by
 have Y:=jk (M:=model P w) kin XC.mks
 obtain ⟨⟨oc,od,cd,sl,hC,_,_,_⟩,_,_,_,_,isE,_,_,_,typ⟩:=Y
 have T1:Looks (model P w) s.heap (typeOf (.ref e)) (.ref Ce):=hcls ▸ (Looks.ld he).andThen .now
 have T2:Looks (model P w) s.heap (typeOf (.ref C)) (.type "type"):=looks_typeIn kin XC.ty
 have T4:Looks (model P w) s.heap (isSubtype (.ref Ce) (.ref C)) b:=looks_mroIn kin hm
 have f:=tc_notTuple
 obtain ⟨hp,g,d,tk,os⟩:=s
 unfold excMatches
 repeat (first|with_reducible refine wpAny_loadPart_at hC ?_|with_reducible refine isE.at ?_|with_reducible refine T4.at ?_|with_reducible refine typ.at ?_|with_reducible refine T1.at ?_|with_reducible refine T2.at ?_|wp_step)
 cases b <;> (wp_walk;exact h)
end
abbrev Hs:=Ends->Addr->Option Addr->St->Hp->Prop
def PH (X:Cx) (hs:List ExceptHandler) (th:Hs):Prop:=
 ∀ (Z:List (Addr×Obj)) (s0:Shared) (σ0:St) (H0:Hp) (s:Shared) (U:St) (H:Hp) (D:Ends) (ea Ce:Addr) (dd:Option Addr),Inv X Z σ0 H0 s0->Inv X Z U H s->fG s.heap H s0.heap ea (.ref Ce) dd->th D Ce dd U H->wpAny (model X.prog X.w) X.A (handleBy (.ref ea) X.env hs) (SP X Z D) X.xe s
def xW (i:Nat) (D:Ends):Ends:=⟨fun U H=>D.nx (U.set i none) H,D.rt,fun U H=>D.bk (U.set i none) H,fun U H=>D.ct (U.set i none) H⟩
def Nj (K:Frag) (C:Addr) (B newId:String) (i:Nat) (tb:Addr->Addr->Option Addr->TS) (tr:Hs):Hs:=fun D Ce dd U H=>jn K C B newId/\∃ b,mroIn K Ce (.ref C)=some b/\if b then ∀ ea,tb ea Ce dd (xW i D) (U.set i (some (.ref ea))) H else tr D Ce dd U H
section
variable {X:Cx}
theorem Es:PH X [] (fun _ _ _ _ _=>False):=fun _ _ _ _ _ _ _ _ _ _ _ _ _ _ h=>h.elim
theorem qI {t:Expr} {n:Str} {b0:Stmt} {body:List Stmt} {pos:Pos} {rest:List ExceptHandler} {C:Addr} {B newId:String} {i:Nat} {tb:Addr->Addr->Option Addr->TS} {tr:Hs} (hN:X.N.Nodup) (hi:X.N[i]?=some n) (hx:X.env.scope.names.lookup n=some .local)
 (ht:∀ ea ps,PE (zg X ea ps) t (tC (.ref C))) (hb:∀ ea oe ps Ce dd,(ea,oe)∈ps->oe.cls=.ref Ce->oe.dict=dd->(∃ vs,oe.data=.fields vs)->qQ (zg X ea ps) (b0::body) (tb ea Ce dd)) (hr:PH X rest tr) :
 PH X (.ExceptHandler (some t) (some n) (b0::body) pos::rest) (Nj X.K C B newId i tb tr):=by
 intro Z s0 σ0 H0 s U H D ea Ce dd I0 I x h
 obtain ⟨XC,b,hm,hk⟩:=h
 obtain ⟨ps,oe,hmem,hc,hd,hvs,IH,back⟩:=I0.handle I x
 refine wpAny_handleBy_cons (codeAny_handlers_test (wpAny_mono (ht ea ps Z s U H (fun v H1=>v=.ref C/\H1=H) IH ⟨rfl,rfl⟩) (fun c s1 z=>?_) fun _ _ z=>z.elim)) (by intro q;cases q)
 obtain ⟨v,H1,I1,r,rfl,rfl⟩:=z
 cases (show c=Value.ref C from r)
 have p:=I1.pin (ea,oe) (List.mem_append_left _ (List.mem_append_right _ hmem))
 refine wB I1.kIn p.1 hc XC hm ?_
 cases b with
 |false=>exact hr Z s0 σ0 H0 s1 U H1 D ea Ce dd I0 (I1.outof I.ok) (back I1) hk
 | true=>
   refine codeAny_handlers_suite_as (tZ (back I1) (j4 (X:=zg X ea ps) I1 hN hi (.inl hx) (v:=.ref ea) rfl (fun s2 I2=>wpAny_mono (hb ea oe ps Ce dd hmem hc hd hvs Z s2 _ _ (xW i D) I2 (hk ea)) (fun f s3 z=>?_) fun _ _ z=>z.elim) (.inr hx)))
   show wpAny _ X.A _ _ X.xe s3
   cases f with
   | next=>
     obtain ⟨σ',H',I3,q⟩:=z
     exact lZ (I3.outof I.ok) hN hi hx fun s' I'=>⟨_,_,I',q⟩
   | brk=>
     obtain ⟨σ',H',I3,q⟩:=z
     exact lZ (I3.outof I.ok) hN hi hx fun s' I'=>⟨_,_,I',q⟩
   | cont=>
     obtain ⟨σ',H',I3,q⟩:=z
     exact lZ (I3.outof I.ok) hN hi hx fun s' I'=>⟨_,_,I',q⟩
   | ret u=>
     obtain ⟨v,σ',H',I3,r',q⟩:=z
     exact lZ (I3.outof I.ok) hN hi hx fun s' I'=>⟨v,_,_,I',r',q⟩
def zq (X:Cx) (Z:List (Addr×Obj)) (s0:Shared) (W:Addr->Option Addr->St->Hp->Prop):Value->Shared->Prop:=fun v s=>∃ ea Ce dd U H,v=.ref ea/\Inv X Z U H s/\(∀ b o,s0.heap.get? b=some o->∃ o',s.heap.get? b=some o')/\fG s.heap H s0.heap ea (.ref Ce) dd/\W Ce dd U H
abbrev Ph:=Ends->(Addr->Option Addr->St->Hp->Prop)->St->Hp->Prop
def Uj (X:Cx) (st:List Stmt) (t:Ph):Prop:=
 ∀ (Z:List (Addr×Obj)) (s:Shared) (U:St) (H:Hp) (D:Ends) (W:Addr->Option Addr->St->Hp->Prop),Inv X Z U H s->t D W U H->wpAny (model X.prog X.w) X.A (execs st X.env) (SP X Z D) (zq X Z s W) s
def Q3 (t:Ph) (th:Hs):TS:=fun D U H=>t D (fun Ce dd σ' H'=>th D Ce dd σ' H') U H
theorem Du {body:List Stmt} {h0:ExceptHandler} {hs:List ExceptHandler} {pos:Pos} {t:Ph} {th:Hs} (hst:X.stack=X.env::X.outer) (hfm:X.env.frame=some X.env.locals) (hex:X.ex=[]) (hb:Uj X body t) (hh:PH X (h0::hs) th):PS X (.Try body (h0::hs) [] [] pos) (Q3 t th):=by
 intro Z s U H D I h
 refine wpAny_Try_except (wpAny_mono (hb Z s U H D _ I h) (fun f s1 z=>?_) fun v s1 z=>?_)
 ·cases f with
  |next=>exact wpAny_execs_nil z
  |brk=>exact z
  |cont=>exact z
  |ret u=>exact z
 ·obtain ⟨ea,Ce,dd,σ1,H1,rfl,I1,th1,x,q⟩:=z
  refine F_ I I1 hst hfm I.ok.frames hex th1 x fun h' x' I2=>hh Z s U H _ σ1 H1 D ea Ce dd I I2 x' q
end
structure Thunk (P:Program) (w:World) (K:Frag) (mg:Str->Option Value) (base:Heap) (g:Heap) (H₀:Hp) (fr:List Addr) (k:Nat) (f:Addr) (H:Hp) (Qv:VK) (Ev:XK):Prop where
 fn:∀ s:Shared,iR P w H s.heap->∃ fo fd,s.heap.get? f=some fo/\fo.data=.func fd
 run:∀ (A:Around) (outer:List Env) (s:Shared),bF k A->p_ P w K mg base A outer s H->(∀ b o,g.get? b=some o->H₀ b=none->b∉fr->s.heap.get? b=some o)->codeAny (model P w) A (.call (.ref f) ⟨[],[]⟩) (CR (uM P w) outer P w H s Qv Ev) s
section
variable {X:Cx}
theorem keeps_F {M:Model} {f:Addr} (h:Heap) (z:∃ fo fd,h.get? f=some fo/\fo.data=.func fd):∃ k,(k=Keeper.frame∨k=Keeper.machine∨k=Keeper.boundFrame)/\Looks M h (keeperOf (.ref f)) k:=by
 obtain ⟨fo,fd,e,d⟩:=z
 obtain ⟨c,di,da,sl⟩:=fo
 cases (show da=.func fd from d)
 exact ⟨.frame,.inl rfl,(Looks.ld (part:=none) e).andThen .now⟩
def Dn (X:Cx) (k i j:Nat):Ph:=fun D W U H=>∃ f Qv Ev,U[j]?=some (some (.ref f))/\Thunk X.prog X.w X.K X.mg X.base X.s₀.heap X.H₀ X.fs k f H Qv Ev/\(∀ v H',Qv v H'->D.nx (U.set i (some v)) H')/\∀ cls dd H',Ev cls dd H'->∃ Ce,cls=.ref Ce/\W Ce dd U H'
theorem vU {k i j:Nat} {x a:Str} {px pa pc pos:Pos} (hN:X.N.Nodup) (hi:X.N[i]?=some x) (hx:Loc X.env.scope x) (hj:X.N[j]?=some a) (ha:KQ X.env.scope a) (hex:X.ex=[]) (hr:bF k X.A) (hs:swapsWith (.Call (.Name a pa) [] [] pc) (some (.Name x px)) pos.line X.env=pure false:=by rfl) (hf:X.fn x=true∨X.env.scope.names.lookup x=some .local:=by first|exact .inl rfl|exact .inr rfl|assumption)
 (hd:(a == ("__debug__" : Str))=false:=by decide) (hcd:(a == ("__classdict__" : Str))=false:=by decide) :
 Uj X [.Assign [.Name x px] (.Call (.Name a pa) [] [] pc) pos] (Dn X k i j):=by
 intro Z s U H D W I h
 obtain ⟨f,Qv,Ev,e,T,hv,he⟩:=h
 have kp:∀ b o,X.s₀.heap.get? b=some o->X.H₀ b=none->b∉X.fs->s.heap.get? b=some o:=fun b o z n hb=>I.base.keep b o z n hb (by rw [hex];simp)
 have fin:∀ t:Sem Flow,wpAny (model X.prog X.w) X.A t (fun f s1=>f=.next/\∃ v H',Inv X Z (U.set i (some v)) H' s1/\Qv v H') (zq X Z s W) s->wpAny (model X.prog X.w) X.A t (SP X Z D) (zq X Z s W) s:=fun t ht=>cz ht fun f s1 ⟨q,v,H',I1,z⟩=>by subst q;exact ⟨_,_,I1,hv _ _ z⟩
 have one:wpAny (model X.prog X.w) X.A (exec (.Assign [.Name x px] (.Call (.Name a pa) [] [] pc) pos) X.env) (fun f s1=>f=.next/\∃ v H',Inv X Z (U.set i (some v)) H' s1/\Qv v H') (zq X Z s W) s:=by
  refine wpAny_Assign_Name (cz (Q:=EP X Z U Qv) ?_ fun v s1 ⟨y,H1,I1,r1,q1⟩=>j4 I1 hN hi hx r1 (fun s2 I2=>⟨rfl,y,H1,I2,q1⟩) hf) hs
  refine wpAny_Call_Name_kw ?_
  have named:∀ Q':Value->Shared->Prop,Q' (.ref f) s->wpAny (model X.prog X.w) X.A (eval (.Name a pa) X.env) Q' (zq X Z s W) s:=fun Q' hq=>by
   obtain ⟨m,hn,hl⟩:=I.loc
   obtain ⟨u,r,l⟩:=hl j a (.ref f) hj e ha
   cases (show u=Value.ref f from r)
   rcases l with ⟨hk,hm⟩|⟨hk,c,hc,hcell⟩
   ·exact wpAny_Name (wpAny_loadName_local I.ok.kind hk hn hm hq) hd
   ·rcases hk with hk|hk
    ·exact wpAny_Name (wpAny_loadName_cell I.ok.kind hk hc hcell hq) hd
    ·exact wpAny_Name (wpAny_loadName_free I.ok.kind hk hc hcell hq hcd) hd
  refine named _ ?_
  obtain ⟨fo,fd,g1,g2⟩:=T.fn s I.hok
  refine callWith_of (P:=fun h=>∃ fo fd,h.get? f=some fo/\fo.data=.func fd) rfl keeps_F (evalArgs_nil3 ⟨⟨fo,fd,g1,g2⟩,?_⟩)
  refine wpAny_call (codeAny_mono (T.run X.A X.stack s hr I.env0 kp) fun r s' hq=>?_)
  cases r with
  | error ev=>
    obtain ⟨ea,cls,dd,H',rfl,os,bare,un,hok,xo,q⟩:=hq
    obtain ⟨Ce,rfl,z⟩:=he _ _ _ q
    refine ⟨ea,Ce,dd,U,H',rfl,I.call' os un hok bare (fun b z=>absurd z (by simp)),fun b o z=>un.there b o z (by simp),xo,z⟩
  | ok fl=>
    cases fl with
    |ret u=>exact I.after hq
    |next=>exact False.elim hq
    |brk=>exact False.elim hq
    |cont=>exact False.elim hq
 refine wpAny_execs_cons (cz one fun fl s1 z=>?_)
 obtain ⟨rfl,v,H',I1,q⟩:=z
 exact wpAny_execs_nil ⟨_,_,I1,hv _ _ q⟩
end
structure wM (K:Frag) (C:Addr) (f:Str):Prop where
 ga:findIn K (.ref C) "__getattribute__" = some (some (.builtin "BaseException.__getattribute__"))
 gh:findIn K (.ref C) "__getattr__" = some none
 hd:hasDictIn K C=true
 na:findIn K (.ref C) f=some none
 be:mroIn K C (.type "BaseException")=some true
section
variable {prog:Program} {w:World} {A:Around} {E:Value->Shared->Prop} {s:Shared} {K:Frag} {x C:Addr} {ox:Obj} {od:Option Obj} {name:Str} {expr:Bool} {Q:Value->Shared->Prop}
theorem RB {v:Value} (X:K.In s.heap) (I:InstAt s.heap x ox C od) (G:wM K C name) (hf:findObj K C od name=some (.value v)) (hh:handedIn v=true) (h:Q v { s with toks:=s.toks+1 }):wpAny (model prog w) A (getAttr (.ref x) name expr) Q E s:=by
 obtain ⟨hp,g,d,t,os⟩:=s
 have L0:=I.type (M:=model prog w)
 have L1:=looks_findIn (M:=model prog w) X G.ga
 have L2:=looks_findIn (M:=model prog w) X G.gh
 have L3:=looks_find (M:=model prog w) X I hf
 have LB:Looks (model prog w) hp (isInstance (.ref x) (.type "BaseException")) true:=L0.andThen (looks_mroIn X G.be)
 have f3:=F.excAttr_ValueError.ga.bind (.ref x)
 have hx0:(expr && onTheHeap (Value.builtin "BaseException.__getattribute__"))=false:=by cases expr <;> rfl
 have hx2:(Value.builtin "BaseException.__getattribute__" == Value.builtin "object.__getattribute__")=false:=by decide +kernel
 have hx1:(onTheHeap (Value.ref C) && Value.builtin "BaseException.__getattribute__" == Value.builtin "object.__getattribute__")=false:=by rw [hx2];rfl
 unfold getAttr getAttrBy
 refine wpAny_bind (wpAny_mkText (wpAny_holding (wpAny_bind (L0.at (wpAny_bind (L1.at ?_))))))
 dsimp only
 rw [if_neg (by rw [hx1];decide)]
 unfold getAttrByItsOwn hookBefore
 rw [if_pos (show onTheHeap (Value.ref C)=true from rfl)]
 refine wpAny_bind (L2.at ?_)
 have key:∀ R:Result->Shared->Prop,R (.ok (.ret v)) ⟨hp,g,d,t+1,os⟩->codeAny (model prog w) A (.call (.builtin "BaseException.__getattribute__") ⟨[.ref x,.str name t],[]⟩) R ⟨hp,g,d,t+1,os⟩:=fun R hR=>by
  refine codeAny_call_builtin F.excAttr_ValueError.ga.plain F.entry_bexc_ga (check_slot (i:="BaseException.__getattribute__") (owner:="BaseException") (n:="__getattribute__") (by decide +kernel) (by decide +kernel) LB (F.args_bexc_ga _ _) ?_)
  refine wpAny_bind (wpAny_pure (wpAny_bind (wpAny_pure (wpAny_bind (L0.at (wpAny_bind (L3.at ?_)))))))
  exact wpAny_pure hR
 have done:wpAny (model prog w) A (handedOut v) Q E ⟨hp,g,d,t+1,os⟩:=by rw [handedOut_of hh];exact wpAny_pure h
 clear L0 L1 L2 L3 LB hf I G X
 repeat (any_goals (first|assumption|wp_step))
 exact key _ done
end
def LR (K:Frag) (ea C:Addr) (dd:Option Addr) (ta:TE) (f:Str):TE:=fun U H Q=>ta U H fun x H1=>∃ da fs v,x=.ref ea/\dd=some da/\H1 da=some (qm da fs)/\wM K C f/\fs.lookup f=some v/\Q v H1
section
variable {X:Cx} {e:Expr} {f:Str} {pos:Pos} {ta:TE} {ea C:Addr} {oe:Obj} {dd:Option Addr}
theorem Ge (hm:(ea,oe)∈X.pn) (hc:oe.cls=.ref C) (hdct:oe.dict=dd) (hd:∃ vs,oe.data=.fields vs) (he:PE X e ta) (hb:attributeBase e f X.env (eval e X.env)=eval e X.env:=by rfl):PE X (.Attribute e f pos) (LR X.K ea C dd ta f):=by
 intro Z s U H Q I h
 refine vM hb (cz (he Z s U H _ I h) fun u s1 ⟨x,H1,I1,rx,da,fs,v,ex,ed,hH,G,l,q⟩=>?_)
 subst ex
 subst ed
 obtain rfl:u=Value.ref ea:=rx
 have p:=(I1.pin (ea,oe) (List.mem_append_left _ hm)).1
 obtain ⟨⟨mA,hn,r,wi⟩,_,_⟩:=I1.hok da _ hH
 obtain ⟨u,hu,ru⟩:=ii.some_of (v:=v) (o:=mA f) (by rw [← l];exact r f)
 obtain ⟨od,ho,hl⟩:=kY hn
 obtain ⟨vs,hvs⟩:=hd
 have J:InstAt s1.heap ea oe C (some od):=⟨p,hc,by unfold notCls;rw [hvs],by rw [hdct];exact ho⟩
 exact RB I1.kIn J G (findObj_own G.hd G.na rfl (by rw [hl,hu])) (pB ru) ⟨v,H1,I1.tok _,ru,q⟩
end
end L2
namespace L2
open PySem PySem.Spec PyProof.Rows
structure ph (P:Program) (w:World) (K:PySem.W.Frag) (mg:Str->Option Value) (base:Heap) (CX:nH) (k:Nat) (f:Addr) (fd:FuncData) (ps:List Str) (sp:Shared->List Env->Sp):Prop where
 len:∀ s outer vs H Q E,sp s outer vs H Q E->vs.length=ps.length
 run:∀ (A:Around) (outer:List Env) (s:Shared) (H:Hp) (args:Args) (us:List Value) (vs:List V) (Q:VK) (E:XK),bF k A->p_ P w K mg base A outer s H->BindsTo s fd args (ps.zip us)->Vals vs us->sp s outer vs H Q E->
  codeAny (model P w) A (.call (.ref f) args) (CR CX outer P w H s Q E) s
theorem Fp {CX:nH} {P:Program} {w:World} {K:PySem.W.Frag} {mg:Str->Option Value} {base:Heap} {k:Nat} {f:Addr} {name qual:Str} {params:Arguments} {body:List Stmt} {scope:Scope} {dV kV doc pm cdv ct oc:Value} {an od:Option Addr}
 {osl:Array (Option Value)} {N ps:List Str} {sp:Shared->List Env->Sp} (lk:K.lookup f=some ⟨oc,od,.func (PySem.W.fnOf name qual params body scope dV kV doc pm an cdv ct),osl⟩) (hcd:PySem.W.codeIn K cdv qual=true) (S:aU N ps scope)
 (len:∀ s outer vs H Q E,sp s outer vs H Q E->vs.length=ps.length)
 (hbody:∀ (A:Around) (outer:List Env) (s:Shared) (H:Hp) (vs:List V) (Q:VK) (E:XK),bF k (A.deeper (envOfC qual scope s.heap.objs.size f cdv))->sp s outer vs H Q E->
  ∃ t,qQ (iK CX P w K mg base N qual scope f cdv A outer s H E) body t/\t { nx:=fun _ H'=>Q .non H',rt:=Q } (start N vs) H) :
 ph P w K mg base CX (k+1) f (PySem.W.fnOf name qual params body scope dV kV doc pm an cdv ct) ps sp:=by
 refine ⟨len,fun A outer s H args us vs Q E hr e0 hb r hsp=>?_⟩
 have hl:=len _ _ _ _ _ _ hsp
 have KX:K.In s.heap:=e0.mod.kin.keeps fun b o e=>(e0.bs b o e).1
 have lim:s.heap.NoLimit:=e0.mod.nolimit.keeps fun b o e=>(e0.bs b o e).1
 have hkind:∀ y∈ps.zip us,scope.names.lookup y.1=some .local∨(scope.names.lookup y.1=some .cell/\((cellsFrom (s.heap.objs.size+1) scope.names []).lookup y.1).isSome=true):=fun ⟨n,v⟩ hy=>by
  rcases S.par n (List.of_mem_zip hy).1 with q|q
  ·exact .inl q
  ·exact .inr ⟨q,PySem.W.cellsFrom_some _ _ _ (.inl q)⟩
 refine codeAny_call_function hr.depth (KX _ _ lk) rfl S.co S.gen rfl (PySem.W.codeRec_of KX hcd) (hb _ _ _ _ ?_)
 refine wpAny_newFunctionEnv_cells S.kind hkind fun env he s1 x=>?_
 subst he
 refine ⟨lim.keeps x.toInCall.keep,codeAny_func ?_⟩
 obtain ⟨t,ht,hq⟩:=hbody A outer s H vs Q E (hr.deeper _) hsp
 have I:Inv (iK CX P w K mg base N qual scope f cdv A outer s H E) [] (start N vs) H s1:=pH S hr.hd e0 hl r x
 refine wpAny_mono (ht [] s1 (start N vs) H _ I hq) (fun fl s' hs=>?_) fun e s' hs=>hs
 have fin:∀ {σ':St} {H':Hp} {v:V} {u:Value},Inv (iK CX P w K mg base N qual scope f cdv A outer s H E) [] σ' H' s'->RelV v u->Q v H'->CE outer P w H s Q u s':=
  fun {σ' H' v u} J rv q=>⟨v,H',J.os,J.bare,J.base,J.hok,rv,q⟩
 cases fl with
 | ret u=>
   obtain ⟨v,σ',H',J,rv,q⟩:=hs
   exact fin J rv q
 | next=>
   obtain ⟨σ',H',J,q⟩:=hs
   exact fin (v:=V.non) (u:=Value.none) J rfl q
 | brk=>
   obtain ⟨_,_,_,q⟩:=hs
   exact False.elim q
 | cont=>
   obtain ⟨_,_,_,q⟩:=hs
   exact False.elim q
section
variable {P:Program} {w:World} {K:PySem.W.Frag} {mg:Str->Option Value} {base:Heap}
theorem gU.okS {CX:nH} {x qual:Str} {st:Stmt} {f:Addr} {fd:FuncData} {N ps:List Str} {k:Nat} {sp:Shared->List Env->Sp} (F:gU K x qual st f fd) (S:aU N ps (aC st)) (len:∀ s outer vs H Q E,sp s outer vs H Q E->vs.length=ps.length)
 (hbody:∀ (cdv:Value) (A:Around) (outer:List Env) (s:Shared) (H:Hp) (vs:List V) (Q:VK) (E:XK),bF k (A.deeper (envOfC qual (aC st) s.heap.objs.size f cdv))->sp s outer vs H Q E->
  ∃ t,qQ (iK CX P w K mg base N qual (aC st) f cdv A outer s H E) (bW st) t/\t { nx:=fun _ H'=>Q .non H',rt:=Q } (start N vs) H):ph P w K mg base CX (k+1) f fd ps sp:=by
 obtain ⟨oc,od,kV,doc,pm,an,cdv,ct,osl,rfl,lk,hcd⟩:=F.ex
 exact Fp lk hcd S len fun A outer s H vs Q E hr hsp=>hbody cdv A outer s H vs Q E hr hsp
theorem gU.ok1 {CX:nH} {x qual:Str} {st:Stmt} {f:Addr} {fd:FuncData} {N ps:List Str} {k:Nat} {sp:Sp} (F:gU K x qual st f fd) (S:aU N ps (aC st)) (len:∀ vs H Q E,sp vs H Q E->vs.length=ps.length)
 (hbody:∀ (cdv:Value) (A:Around) (outer:List Env) (s:Shared) (H:Hp) (vs:List V) (Q:VK) (E:XK),bF k (A.deeper (envOfC qual (aC st) s.heap.objs.size f cdv))->sp vs H Q E->
  ∃ t,qQ (iK CX P w K mg base N qual (aC st) f cdv A outer s H E) (bW st) t/\t { nx:=fun _ H'=>Q .non H',rt:=Q } (start N vs) H):aR P w K mg base CX (k+1) f fd ps sp:=by
 obtain ⟨oc,od,kV,doc,pm,an,cdv,ct,osl,rfl,lk,hcd⟩:=F.ex
 exact rA lk hcd S len fun A outer s H vs Q E hr hsp=>hbody cdv A outer s H vs Q E hr hsp
end
section
variable {X:Cx} {e:Expr} {f:Str} {pos:Pos} {ta:TE} {ea C:Addr} {oe:Obj} {ps:List (Addr×Obj)} {dd:Option Addr}
theorem qw (hm:(ea,oe)∈ps) (hc:oe.cls=.ref C) (hdct:oe.dict=dd) (hd:∃ vs,oe.data=.fields vs) (he:PE (zg X ea ps) e ta) (hb:attributeBase e f X.env (eval e X.env)=eval e X.env:=by rfl):PE (zg X ea ps) (.Attribute e f pos) (LR X.K ea C dd ta f):=
 Ge (X:=zg X ea ps) (List.mem_append_right _ hm) hc hdct hd he hb
end
end L2
namespace L2
open PySem PySem.Spec PyProof.Rows PySem.W
def j7 (c:Addr) (qual:Str):HO:=.ext fun h=>h.CodeRec (.ref c) qual
theorem xU {P:Program} {w:World} {H:Hp} {h:Heap} {c:Addr} {qual:Str} (x:h.CodeRec (.ref c) qual):cG P w H h c (j7 c qual):=by
 obtain ⟨c',o,vs,t,e,g,r⟩:=id x
 cases e
 refine ⟨x,⟨o,g⟩,fun h1 h2 z k=>?_⟩
 obtain ⟨c',o',vs',t',e',g',r'⟩:=z
 cases e'
 exact ⟨c,o',vs',t',rfl,k _ g',r'⟩
def lamO (f:Addr) (o:Obj):HO:=.ext fun h=>h.get? f=some o
theorem vy {P:Program} {w:World} {H:Hp} {h:Heap} {f:Addr} {o:Obj} (x:h.get? f=some o):cG P w H h f (lamO f o):=⟨x,⟨o,x⟩,fun h1 h2 z k=>k _ z⟩
def lJ (P:Program) (w:World) (K:Frag) (mg:Str->Option Value) (base:Heap) (N:List Str) (qual:Str) (scope:Scope) (f:Addr) (cd:Value) (cl:List (Str×Addr)) (A:Around) (outer:List Env) (s:Shared) (H:Hp) (E:XK):Cx where
 prog:=P
 w:=w
 K:=K
 mg:=mg
 base:=base
 A:=A.deeper (envX qual scope s.heap.objs.size f cd cl)
 N:=N
 s₀:=s
 H₀:=H
 env:=envX qual scope s.heap.objs.size f cd cl
 outer:=outer
 stack:=envX qual scope s.heap.objs.size f cd cl::outer
 ex:=[]
 calm:=true
 fn:=fun _=>false
 pn:=[]
 xe:=fun e s'=>wpAny (model P w) (A.deeper (envX qual scope s.heap.objs.size f cd cl)) (leaving (envX qual scope s.heap.objs.size f cd cl) e) (fun _ s''=>uM P w outer H s E e s'') (fun e' s''=>uM P w outer H s E e' s'') s'
section
variable {P:Program} {w:World} {K:Frag} {mg:Str->Option Value} {base:Heap} {N:List Str} {qual:Str} {scope:Scope} {f:Addr} {cd:Value} {cl:List (Str×Addr)} {A:Around} {outer:List Env} {s:Shared} {H:Hp} {E:XK}
theorem V6 {Z:List (Addr×Obj)} {U:St} {H':Hp} {s':Shared} {e:Addr} {cls:Value} {dd:Option Addr} (I:Inv (lJ P w K mg base N qual scope f cd cl A outer s H E) Z U H' s') (x:fG s'.heap H' s.heap e cls dd) (h:E cls dd H') :
 (lJ P w K mg base N qual scope f cd cl A outer s H E).xe (.ref e) s':=
 leaveX I rfl rfl I.ok.frames rfl x fun h' x' u k=>⟨e,cls,dd,H',rfl,I.os,I.bare,u,k,x',h⟩
theorem Cj {E':XK} (hE:∀ cls dd H',E' cls dd H'->E cls dd H'):eN (uM P w) (lJ P w K mg base N qual scope f cd cl A outer s H E) E':=by
 intro Z U H1 s1 e s' I h
 obtain ⟨ea,cls,dd,H',rfl,os,bare,un,hok,x,q⟩:=h
 have I':Inv (lJ P w K mg base N qual scope f cd cl A outer s H E) Z U H' s':=I.call' (ch:=[]) os un hok bare (fun b z=>absurd z (by simp))
 refine V6 I' (x.mono fun b hb=>?_) (hE _ _ _ q)
 cases z:s.heap.get? b with
 |none=>rfl
 | some o=>
   obtain ⟨o',q'⟩:=I.base.there b o z (by intro hz;cases hz)
   rw [hb] at q';cases q'
structure HW (scope:Scope) (cl:List (Str×Addr)) (N:List Str) (g:Heap) (H:Hp) (fr:List Addr) (U:St):Prop where
 inj:∀ x y c,cl.lookup x=some c->cl.lookup y=some c->x=y
 has:∀ x,(scope.names.lookup x=some .cell∨scope.names.lookup x=some .free)->∃ c,cl.lookup x=some c
 cell:∀ x c,cl.lookup x=some c->(∃ v,g.IsCell c v)/\H c=none/\c∉fr
 val:∀ (i:Nat) x v,N[i]?=some x->U[i]?=some (some v)->scope.names.lookup x=some .free/\∃ c u,cl.lookup x=some c/\RelV v u/\g.IsCell c (some u)
 len:U.length=N.length
theorem wU {g:Heap} {fr:List Addr} {U:St} {k:Nat} {name:Str} {params:Arguments} {body:Expr} {pm ctv:Value} {c':Addr} {Qv:VK} {t:TE} (ho:H f=some (lamO f (kla_obj name qual params body scope cl pm c' ctv)))
 (hc:H c'=some (j7 c' qual)) (C:HW scope cl N g H fr U) (hbind:bindArgs (kla_fn name qual params body scope cl pm (.ref c') ctv) ⟨[],[]⟩=pure [])
 (hco:scope.isCoroutine=false) (hgen:scope.isGenerator=false) (hk:scope.kind=.function) (hcell:∀ x∈scope.names,x.2≠.cell)
 (hb:∀ (A:Around) (outer:List Env) (s:Shared),bF k (A.deeper (envX qual scope s.heap.objs.size f (.ref c') cl))->PE (lJ P w K mg base N qual scope f (.ref c') cl A outer s H E) body t) (hq:t U H Qv):Thunk P w K mg base g H fr (k+1) f H Qv E:=by
 refine ⟨fun s hok=>⟨_,_,(hok f _ ho).1,rfl⟩,fun A outer s hr e0 kp=>?_⟩
 have lim:s.heap.NoLimit:=e0.mod.nolimit.keeps fun b o e=>(e0.bs b o e).1
 refine kla_callFunE hr.depth (e0.hok f _ ho).1 rfl hco hgen rfl (e0.hok c' _ hc).1 ?_
 rw [hbind]
 refine wpAny_pure (wpAny_newFunctionEnv hcell (fun y hy=>absurd hy (by simp)) (fun h₁ hns hsb=>⟨lim.fresh _ hsb,?_⟩) hk)
 show codeAny _ _ (.expr body (envX qual scope s.heap.objs.size f (.ref c') cl)) _ _
 have hk₁:∀ b o,s.heap.get? b=some o->h₁.get? b=some o:=fun b o e=>hsb.extBut b o (Nat.ne_of_lt (Heap.lt_size e)) (Heap.get?_push_of_some _ e)
 have isC:∀ x c v,cl.lookup x=some c->g.IsCell c v->h₁.IsCell c v:=fun x c v e z=>by
  obtain ⟨_,h2,h3⟩:=C.cell x c e
  obtain ⟨o,ho,hd⟩:=z
  exact ⟨o,hk₁ _ _ (kp _ _ ho h2 h3),hd⟩
 have noA:∀ b:Addr,b∉([]:List Addr):=fun b z=>absurd z (by simp)
 have I:Inv (lJ P w K mg base N qual scope f (.ref c') cl A outer s H E) [] U H { s with heap:=h₁,toks:=s.toks+0 }:=by
  refine ⟨⟨e0.mod,hk,rfl,rfl,Nat.le_refl _,C.inj,fun y hy=>C.has y hy,fun y c z=>absurd z (by simp [lJ]),fun _=>hr.hd,Around.frames_deeper e0.frames,.inr ⟨rfl,rfl⟩,fun b z=>absurd z (noA b),e0.bs,e0.bsz,fun b _ _=>noA b,fun b z=>absurd z (noA b),e0.funs,e0.frf⟩,
   rfl,e0.bare,Un.kept hk₁,⟨_,hns,fun i y v h1 h2 h3=>?_⟩,fun y c h=>?_,e0.hok.fresh (Nat.le_refl _),fun y c h=>(C.cell y c h).2.1,fun p hp=>absurd (show p∈([]:List (Addr×Obj)) from hp) (by simp),e0.hok.kept hk₁,C.len⟩
  ·obtain ⟨fr',c,u,e,r,z⟩:=C.val i y v h1 h2
   exact ⟨u,r,.inr ⟨.inr fr',c,e,isC y c _ e z⟩⟩
  ·obtain ⟨⟨v,z⟩,_⟩:=C.cell y c h
   exact ⟨v,isC y c v h z⟩
 exact kla_codeExpr (wpAny_mono (hb A outer s (hr.deeper _) [] _ U H Qv I hq) (fun u s' ⟨v,H',J,rv,q⟩=>⟨v,H',J.os,J.bare,J.base,J.hok,rv,q⟩) fun _ _ y=>y)
end
section
variable {X:Cx} {Z:List (Addr×Obj)} {U:St} {H:Hp} {s:Shared} {h':Heap} {P c':Addr} {ps more:Array Value} {qual:Str}
theorem Inv.grow {t':Nat} (I:Inv X Z U H s) (hP:H P=some (.tbl ps)) (hx:Heap.ExtBut P s.heap h') (hc:s.heap.objs.size≤c') (hcr:h'.CodeRec (.ref c') qual) (hp:h'.get? P=some { cls:=.none,data:=.fields (ps++more) }) :
 Inv X Z U (upd (upd H P (.tbl (ps++more))) c' (j7 c' qual)) { s with heap:=h',toks:=t' }:=by
 have hPl:P<s.heap.objs.size:=I.hok.lt hP
 have hcP:c'≠P:=fun q=>by subst q;exact absurd (Nat.lt_of_lt_of_le hPl hc) (Nat.lt_irrefl _)
 have lt:∀ b o,s.heap.get? b=some o->b≠c':=fun b o e q=>by subst q;exact absurd (Nat.lt_of_lt_of_le (Heap.lt_size e) hc) (Nat.lt_irrefl _)
 have neP:∀ b,H b=none->b≠P:=fun b e q=>by subst q;rw [hP] at e;cases e
 have kp:∀ b o,s.heap.get? b=some o->H b=none->h'.get? b=some o:=fun b o e n=>hx b o (neP b n) e
 have up:∀ b u,H b=some u->(∀ qs,u≠.tbl qs)->upd (upd H P (.tbl (ps++more))) c' (j7 c' qual) b=some u:=fun b u e ne=>by
  have h1:b≠c':=fun q=>by subst q;exact absurd (Nat.lt_of_lt_of_le (I.hok.lt e) hc) (Nat.lt_irrefl _)
  have h2:b≠P:=fun q=>by subst q;rw [hP] at e;exact ne _ (Option.some.inj e).symm
  rw [aJ h1,aJ h2];exact e
 refine I.stepN (ch:=[]) (g':=s.gens) (d':=s.drawn) (t':=t') (fun b hb=>absurd hb (by simp)) (fun b o _ _ _ e n=>kp b o e n) (fun b o _ _ _ e n=>⟨o.slots,kp b o e n⟩) (fun b o _ e n=>?_) (fun b o _ e=>?_) (fun b xs e=>up b _ e (by intro _ q;cases q)) (fun b o u e=>up b _ e (by intro _ q;cases q)) (fun b qs e=>?_) (fun m hm=>?_) (fun b u e=>?_) I.bare
 ·rw [aJ (lt b o e),aJ (neP b n)];exact n
 ·by_cases q:b=P
  ·subst q;exact ⟨_,hp⟩
  ·exact ⟨o,hx b o q e⟩
 ·have h1:b≠c':=fun q=>by subst q;exact absurd (Nat.lt_of_lt_of_le (I.hok.lt e) hc) (Nat.lt_irrefl _)
  by_cases q:b=P
  ·subst q
   rw [hP] at e
   cases e
   exact ⟨more,by rw [aJ h1,ak]⟩
  ·exact ⟨#[],by rw [aJ h1,aJ q,e];simp⟩
 ·obtain ⟨o,es,ep,e,r⟩:=hm
  exact ⟨o,es,ep,kp _ _ e I.free,r⟩
 ·by_cases h1:b=c'
  ·subst h1
   rw [ak] at e
   cases e
   exact xU hcr
  ·rw [aJ h1] at e
   by_cases h2:b=P
   ·subst h2
    rw [ak] at e
    cases e
    exact hp
   ·rw [aJ h2] at e
    refine (I.hok b u e).stay (fun c v hc' q=>hx c v ?_ q) (fun c q=>up c _ q (by intro _ z;cases z)) fun c xs q=>up c _ q (by intro _ z;cases z)
    rintro rfl
    rcases hc' with rfl|z
    ·exact h2 rfl
    ·rw [hP] at z;cases z
structure vC (X:Cx) (c P:Addr):Prop where
 code:X.env.code=.ref c
 hd:CodeHd X.base c P
 bl:X.base.BuiltinsAt X.mg P
 gP:mainGlobals≠P
def zX (H:Hp) (P:Addr) (lp:Pos) (qual:Str) (c':Addr) (H1:Hp):Prop:=
 ∃ ps,H P=some (.tbl ps)/\((codeAmong lp ps.toList=none/\H c'=none/\c'≠P/\H1=upd (upd H P (.tbl (ps++#[rawInt lp.line,rawInt lp.col,.ref c']))) c' (j7 c' qual))∨(codeAmong lp ps.toList=some (.ref c')/\H c'=some (j7 c' qual)/\H1=H))
def TabOk (H:Hp) (P:Addr) (lp:Pos) (qual:Str):Prop:=∃ ps,H P=some (.tbl ps)/\TriplesOk ps.toList/\(codeAmong lp ps.toList=none∨∃ c',codeAmong lp ps.toList=some (.ref c')/\H c'=some (j7 c' qual))
def Sq (X:Cx) (P:Addr) (params:Arguments) (body:Expr) (scope:Scope) (lp:Pos) (cl:List (Str×Addr)):TE:=fun _ H Q=>TabOk H P lp (X.env.qual++"<lambda>")/\∀ c' H1,zX H P lp (X.env.qual++"<lambda>") c' H1->∀ f ctv,H1 f=none->Q (.ref f) (upd H1 f (lamO f (kla_obj "<lambda>" (X.env.qual++"<lambda>") params body scope cl ((X.mg "__name__").getD .none) c' ctv)))
theorem yx {c:Addr} {params:Arguments} {body:Expr} {scope:Scope} {lp:Pos} {cl:List (Str×Addr)} (T:vC X c P) (hdef:defaultsOf params X.env=([],[])) (hcl:closureFor scope X.env=pure cl):PE X (.Lambda params body scope lp) (Sq X P params body scope lp cl):=by
 intro Z s U H Q I h
 obtain ⟨⟨ps,hP,ht,hor⟩,h⟩:=h
 refine kla_eval hdef ?_
 have hPo:s.heap.get? P=some (tabObj ps):=I.hok P _ hP
 have hg:s.heap.Ns mainGlobals X.mg:=by
  obtain ⟨o,es,ep,e,r⟩:=I.ok.mod.glob
  exact ⟨o,es,ep,I.bk _ _ e,r⟩
 have hb:s.heap.BuiltinsAt X.mg P:=by
  obtain ⟨bm,o,b1,b2,b3,b4,b5,b6⟩:=T.bl
  exact ⟨bm,o,b1,b2,b3,b4,I.bk _ _ b5,b6⟩
 rcases hor with hn|⟨c',hf,hc'⟩
 ·refine kla_makeFunction (mg:=X.mg) hcl I.ok.glob hg T.code (T.hd.keeps I.bk) hPo ht hn T.gP hb fun c' ctv h' tk hx hge hlt hrec htb=>?_
  have I1:=I.grow (t':=tk) hP hx hge hrec htb
  have hPl:P<s.heap.objs.size:=I.hok.lt hP
  have fr:upd (upd H P (.tbl (ps++#[rawInt lp.line,rawInt lp.col,.ref c']))) c' (j7 c' (X.env.qual++"<lambda>")) h'.objs.size=none:=I1.hok.fresh (Nat.le_refl _)
  refine ⟨.ref h'.objs.size,_,I1.laid (a:=h'.objs.size) (t':=tk) (fun b u e=>Heap.get?_push_of_some _ e) (Nat.le_refl _) (vy (Heap.get?_push_size _ rfl)),rfl,h c' _ ⟨ps,hP,.inl ⟨hn,I.hok.fresh hge,fun q=>?_,rfl⟩⟩ _ ctv fr⟩
  subst q
  exact absurd (Nat.lt_of_lt_of_le hPl hge) (Nat.lt_irrefl _)
 ·refine kla_makeFunctionHit (mg:=X.mg) hcl I.ok.glob hg T.code (T.hd.keeps I.bk) hPo ht hf hb fun ctv h' tk hk hsz=>?_
  have fr:H h'.objs.size=none:=I.hok.fresh hsz
  exact ⟨.ref h'.objs.size,_,I.laid (a:=h'.objs.size) (h':=h'.push _) (t':=tk) (fun b u e=>Heap.get?_push_of_some _ (hk b u e)) hsz (vy (Heap.get?_push_size _ rfl)),rfl,h c' _ ⟨ps,hP,.inr ⟨hf,hc',rfl⟩⟩ _ ctv fr⟩
end
section
variable {X:Cx} {CX:nH} {k:Nat} {f C:Addr} {fd:FuncData} {ps:List Str} {sp:Shared->List Env->Sp} {E:XK} {x:Str} {p pos:Pos} {e:Expr} {es:List Expr} {t:TA}
theorem zY {Z:List (Addr×Obj)} {U:St} {H:Hp} {s:Shared} {Q:VK} {us:List Value} {vs:List V} (F:ph X.prog X.w X.K X.mg X.base CX k f fd ps sp) (hr:bF k X.A) (hb:Binds X.K fd ps []) (hx:eN CX X E)
 (I:Inv X Z U H s) (r:Vals vs us) (h:sp s X.stack vs H Q E):wpAny (model X.prog X.w) X.A (call (.ref f) us) (EP X Z U Q) X.xe s:=by
 have hl:us.length=ps.length:=by rw [← r.length];exact F.len _ _ _ _ _ _ h
 have hb':=hb s us I.kIn (by rw [List.append_nil];exact hl)
 rw [List.append_nil] at hb'
 refine wpAny_call (codeAny_mono (F.run X.A X.stack s H ⟨us,[]⟩ us vs Q E hr I.env0 hb' r h) fun r s' hq=>?_)
 cases r with
 |error e=>exact hx Z U H s e s' I hq
 | ok fl=>
   cases fl with
   |ret u=>exact I.after hq
   |next=>exact False.elim hq
   |brk=>exact False.elim hq
   |cont=>exact False.elim hq
theorem rY {r:St->List V->Hp->VK->Prop} (F:ph X.prog X.w X.K X.mg X.base CX k f fd ps sp) (hr:bF k X.A) (hg:Gl X x) (hm:X.mg x=some (.ref f)) (hk:keepIn X.K (.ref f)=true) (hb:Binds X.K fd ps []) (hx:eN CX X E)
 (hsp:∀ Z U H s vs Q,Inv X Z U H s->r U vs H Q->sp s X.stack vs H Q E) (ha:PA X (e::es) t) (hdb:(x == ("__debug__" : Str))=false:=by decide) (he:starEach (e::es) X.env=(false,eval e X.env)::starEach es X.env:=by rfl) (hpl:(backTo pos (starEach es X.env)).any (·.1)=false:=by rfl) :
 PE X (.Call (.Name x p) (e::es) [] pos) (fun U H Q=>t U H fun vs H1=>r U vs H1 Q):=by
 intro Z s U H Q I h
 refine wpAny_Call_Name_kw (jf I hg hm ?_ hdb)
 refine callWith_K (h₀:=X.base) I.ok.mod.kin hk (cz (ha pos Z s U H _ I h) fun us s1 ⟨vs,H1,I1,r,q⟩=>⟨I1.kIn,?_⟩) he hpl
 exact zY F hr hb hx I1 r (hsp _ _ _ _ _ _ I1 q)
theorem gq {cl:List (Str×Addr)} {x:Str} (h:x∈cl.map (·.1)):∃ c,cl.lookup x=some c:=by
 induction cl with
 |nil=>simp at h
 | cons q r ih=>
   obtain ⟨y,c⟩:=q
   rw [List.lookup_cons]
   by_cases e:(x == y)=true
   ·exact ⟨c,by rw [e]⟩
   ·have e':(x == y)=false:=by simpa using e
    rw [e']
    refine ih ?_
    rcases List.mem_cons.mp h with z|z
    ·exact absurd (beq_iff_eq.mpr z) e
    ·exact z
def rE (js:List Nat) (U:St):St:=js.map fun j=>(U[j]?).join
theorem Ae {Z:List (Addr×Obj)} {U:St} {H:Hp} {s:Shared} {scope:Scope} {cl:List (Str×Addr)} {NL:List Str} {js:List Nat} (I:Inv X Z U H s) (hcl:∀ p∈cl,X.env.cells.lookup p.1=some p.2) (hfn:∀ x,X.fn x=true)
 (hhas:∀ p∈scope.names,(p.2=.cell∨p.2=.free)->p.1∈cl.map (·.1)) (hfree:∀ x∈NL,scope.names.lookup x=some .free) (hown:∀ x∈NL,X.env.scope.names.lookup x=some .cell) (hN:NL.map some=js.map fun j=>X.N[j]?) (hst:X.stack=X.env::X.outer) (hfm:X.env.frame=some X.env.locals) :
 HW scope cl NL s.heap H (frs X.stack) (rE js U):=by
 have sub:∀ x c,cl.lookup x=some c->X.env.cells.lookup x=some c:=fun x c e=>hcl (x,c) (PySem.mem_of_lookup e)
 have hlen:js.length=NL.length:=by simpa using (congrArg List.length hN).symm
 refine ⟨fun x y c h1 h2=>I.ok.inj x y c (sub x c h1) (sub y c h2),fun x hx=>?_,fun x c e=>⟨I.cell x c (sub x c e),I.freeC x c (sub x c e),fun hm=>?_⟩,fun i x v h1 h2=>?_,by unfold rE;rw [List.length_map];exact hlen⟩
 ·refine gq ?_
  rcases hx with hx|hx
  ·exact hhas _ (PySem.mem_of_lookup hx) (.inl rfl)
  ·exact hhas _ (PySem.mem_of_lookup hx) (.inr rfl)
 ·rcases List.mem_cons.mp (I.stkSub c hm) with q|q
  ·exact I.cne x c (sub x c e) q
  ·obtain ⟨_,o,ho,_⟩:=I.ok.funs.mem q
   exact absurd (Nat.lt_of_lt_of_le (Heap.lt_size ho) (I.ok.cab x c (hfn x) (sub x c e))) (Nat.lt_irrefl _)
 ·have hx:x∈NL:=List.mem_of_getElem? h1
  have e1:(js.map fun j=>X.N[j]?)[i]?=some (some x):=by rw [← hN,List.getElem?_map,h1];rfl
  rw [List.getElem?_map] at e1
  obtain ⟨j,hj,e1⟩:=Option.map_eq_some_iff.mp e1
  unfold rE at h2
  rw [List.getElem?_map,hj] at h2
  have h3:U[j]?=some (some v):=by
   have h2:(U[j]?).join=some v:=Option.some.inj h2
   cases e:U[j]? with
   |none=>rw [e] at h2;cases h2
   | some a=>rw [e] at h2;cases a with
     |none=>cases h2
     |some b=>exact congrArg some h2
  obtain ⟨m,hn,hl⟩:=I.loc
  obtain ⟨u,r,lk⟩:=hl j x v e1 h3 (.inr (.inl (hown x hx)))
  refine ⟨hfree x hx,?_⟩
  rcases lk with ⟨kk,_⟩|⟨_,c,hc,z⟩
  ·have kk:X.env.scope.names.lookup x=some .local:=kk
   rw [hown x hx] at kk;cases kk
  ·obtain ⟨c2,e2⟩:=gq (hhas _ (PySem.mem_of_lookup (hfree x hx)) (.inr rfl))
   have:=sub x c2 e2
   rw [hc] at this
   cases this
   exact ⟨c,u,e2,r,z⟩
end
end L2
namespace L2
open PySem PySem.Spec PyProof.Rows
end L2
namespace L2
open PySem PySem.Spec PyProof.Rows PySem.W
def tabIn (K:Frag) (c:Addr):Option Addr:=match K.lookup c with
 | some o=>(match o.data with
   | .fields vs=>(match (vs[11]?:Option Value),vs.getD 18 .none,vs.getD 7 .none,vs.getD 9 .none,vs.getD 10 .none with
     |some (Value.ref P),.str _ _,.int _ _,.bool _,.int _ _=>if (o.cls == .type "code" && c != P)=true then some P else none
     |_,_,_,_,_=>none)
   |_=>none)
 |none=>none
theorem BR {K:Frag} {h:Heap} {c P:Addr} (X:K.In h) (e:tabIn K c=some P):CodeHd h c P:=by
 unfold tabIn at e
 split at e
 ·rename_i o ho
  split at e
  ·rename_i vs hd
   split at e
   ·rename_i P' x18 t18 x7 t7 x9 x10 t10 h11 h18 h7 h9 h10
    split at e
    ·rename_i hc
     cases e
     simp only [Bool.and_eq_true,beq_iff_eq,bne_iff_ne] at hc
     refine ⟨o,vs,x18,t18,x7,t7,x9,x10,t10,X _ _ ho,hc.1,hd,h11,?_,h18,h7,h9,h10,hc.2⟩
     rw [Array.getD_eq_getD_getElem?,h11]
     rfl
    ·cases e
   ·cases e
  ·cases e
 ·cases e
end L2
namespace L2
open PySem PySem.Spec PyProof.Rows PySem.SeqAt
section
variable {X:Cx}
end
def Q_ (x:Str):It:=⟨fun i _=>i<x.cps.size,fun i H v H'=>H'=H/\∃ c,x.cps[i]?=some c/\v=.str ⟨#[c]⟩,fun i _=>x.cps.size≤i⟩
theorem yZ {P:Program} {w:World} {K:PySem.W.Frag} {tg:Expr} (x:Str) (t:Tok) (it:Addr):Turn P w K tg (Q_ x) [it] it (fun i h=>h.IsStrIter it "str_ascii_iterator" x t i) where
 mem:=by simp
 obj:=fun i h st b hb=>by
  have e:b=it:=by simpa using hb
  subst e
  obtain ⟨o,e,c,d⟩:=st
  exact ⟨o,e,fun v z=>by rw [d] at z;cases z⟩
 keep:=fun i h h' st k=>let ⟨o,e,r⟩:=st;⟨o,k it (by simp) o e,r⟩
 item:=by
  intro X hP hw hK hc i Z s U H E I hf st hg
  subst hP hw hK
  obtain ⟨f0,f1,f2,f3,f4,f5⟩:=hf it (by simp)
  have hg':i<x.cps.size:=hg
  have hx:x.cps[i]?=some (x.cps[i]'hg'):=Array.getElem?_eq_getElem hg'
  refine wpAny_pyNext_ascii_item st hx fun h' st' sb=>?_
  have I1:Inv X Z U H { s with heap:=h',toks:=s.toks+1 }:=I.turned (t':=s.toks+1) (fun b o hb e=>(sb.2 b hb).trans e) f0 f1 f3 f4 f5
  obtain ⟨o,e,c,d⟩:=id st'
  exact ⟨_,rfl,uR (s:={ s with heap:=h',toks:=s.toks+1 }) e c d (by decide) ⟨.str ⟨#[x.cps[i]'hg']⟩,H,I1,⟨_,rfl⟩,⟨rfl,_,hx,rfl⟩,st',fun b hb=>(hf b hb).1⟩⟩
 done:=by
  intro X hP hw hK hc i Z s U H E I hf st hg
  subst hP hw hK
  obtain ⟨f0,f1,f2,f3,f4,f5⟩:=hf it (by simp)
  have hx:x.cps[i]?=none:=Array.getElem?_eq_none hg
  exact wpAny_pyNext_ascii_end (I.ok.hd hc) st hx fun h' eb=>⟨rfl,I.turned (t':=s.toks) (fun b o hb e=>eb b o hb e) f0 f1 f3 f4 f5⟩
 self:=fun _ _ _ _ _ st h=>wpAny_pyIter_striter_ascii st h
section
variable {X:Cx} {tg:Expr}
def Tf (tl:TE):TI:=fun U H R=>tl U H fun v H1=>∃ x,v=.str x/\x.cps.all (·<128)=true/\R (Q_ x) H1
theorem GK {l:Expr} {tl:TE} (hl:PE X l tl):PI X tg l (Tf tl):=by
 intro Z s U H R I h
 refine cz (hl Z s U H _ I h) fun v s1 ⟨y,H1,I1,r1,x,e,ha,q⟩=>?_
 subst e
 obtain ⟨t,rfl⟩:=r1
 refine wpAny_pyIter_ascii ha ?_
 refine ⟨s1.heap.objs.size,[s1.heap.objs.size],_,_,H1,rfl,I1.kept (t':=s1.toks) fun b o e=>Heap.get?_push_of_some _ e,yZ x t _,⟨_,Heap.get?_push_size _ rfl,rfl,rfl⟩,fun b hb=>?_,q⟩
 have e:b=s1.heap.objs.size:=by simpa using hb
 subst e
 exact I1.fpOk (Nat.le_refl _) (I1.hok.fresh (Nat.le_refl _))
end
theorem yF {x:Str} {g:TG} {te:TE} {F:List V->Hp->Prop} {σ0:St} {H0:Hp} (Pv:Nat->List V->St->Hp->Prop) (hn:x.cps.size≤sizeLine) (h0:Pv 0 [] σ0 H0)
 (hs:∀ i c ys U H,x.cps[i]?=some c->ys.length=i->Pv i ys U H->∀ N:List V->St->Hp->Prop,(∀ ys' σ' H',ys'.length=i+1->Pv (i+1) ys' σ' H'->N ys' σ' H')->g (.str ⟨#[c]⟩) U H fun σ2 H2=>te σ2 H2 fun y H3=>N (ys++[y]) σ2 H3)
 (hd:∀ ys U H,ys.length=x.cps.size->Pv x.cps.size ys U H->F ys H) :
 ∃ W:Nat->Nat->List V->St->Hp->Prop,(∃ m,W 0 m [] σ0 H0)/\jJ (Q_ x) g mZ te F W:=by
 refine ⟨fun i m ys U H=>m=x.cps.size-i/\i≤x.cps.size/\ys.length=i/\Pv i ys U H,⟨x.cps.size,by simp,Nat.zero_le _,rfl,h0⟩,?_⟩
 rintro i m ys U H ⟨rfl,hi,hl,p⟩
 by_cases hlt:i<x.cps.size
 ·refine .inr ⟨hlt,by omega,fun v H' y=>?_⟩
  obtain ⟨e,c,hc,y⟩:=y
  subst e y
  exact hs i c ys U _ hc hl p (fun ys' σ' H'=>∃ m',m'<x.cps.size-i/\m'=x.cps.size-(i+1)/\i+1≤x.cps.size/\ys'.length=i+1/\Pv (i+1) ys' σ' H') fun ys' σ' H' hl' q=>⟨x.cps.size-(i+1),by omega,rfl,hlt,hl',q⟩
 ·have e:i=x.cps.size:=by omega
  subst e
  exact .inl ⟨Nat.le_refl _,hd ys U H hl p⟩
section
variable {X:Cx}
def Sh:V->Option Int->Option Int->Hp->VK->Prop:=fun x lo hi H Q=>∃ z j,x=.str z/\lo=none/\hi=some j/\z.length≤sizeLine/\Q (.str (Txt.slice z none (some j))) H
theorem nQ:Jo X Sh:=by
 intro Z s U H x v vl vu lo hi sl Q I rx hs pl pu h
 obtain ⟨z,j,rfl,rfl,rfl,hz,q⟩:=h
 obtain ⟨t,rfl⟩:=rx
 cases pl
 cases pu
 rename_i uj
 refine ⟨"str",_,F.slot_str_getitem.lookup,typeIs_str _ _ _,wpAny_getItem_str_slice (l:=none) (u:=some (j,uj)) (st:=none) ?_ rfl (post_val_or_str ⟨Nat.le_trans (Txt.slice_le z none (some j)) hz,fun t' k=>⟨.str _,H,I.tok _,⟨_,rfl⟩,q⟩⟩)⟩
 exact hs
theorem wD (z:Str) (l u:Option Int):∀ c∈(Txt.slice z l u).cps.toList,c∈z.cps.toList:=by
 intro c hc
 unfold Txt.slice at hc
 split at hc
 ·exact hc
 ·rw [List.toList_toArray] at hc
  obtain ⟨i,_,e⟩:=List.mem_filterMap.mp hc
  rw [← Array.getElem?_toList] at e
  exact List.mem_of_getElem? e
end
section
variable {prog:Program} {w:World} {A:Around} {E:Value->Shared->Prop} {s:Shared} {l:Addr} {x y:Value}
end
section
variable {X:Cx} {pos:Pos}
end
section
variable {X:Cx} {CX:nH} {k:Nat} {f C:Addr} {fd:FuncData} {ps ks:List Str} {sp:Sp} {E:XK} {x m:Str} {p pos apos kpos:Pos} {e o:Expr} {es:List Expr} {kws:List Keyword} {te ta:TE} {t tk:TA}
variable {g:List Value->List Value->List Value} {gV:List V->List V->List V}
end
end L2
namespace L2
open PySem PySem.Spec PyProof.Rows PySem.W
theorem lO {pos p:Pos} {c:Value} (l:List Value) (h:TriplesOk l):codeAmong pos (l++[rawInt p.line,rawInt p.col,c])=(codeAmong pos l).or (if (p.line:Int) == pos.line && (p.col:Int) == pos.col then some c else none):=by
 fun_induction TriplesOk l with
 |case1=>simp [codeAmong,rawInt]
 | case2 a t b u c' rest ih=>
   show codeAmong pos (.int a t::.int b u::c'::(rest++_))=_
   rw [codeAmong,codeAmong]
   split
   ·rfl
   ·exact ih h
 |case3=>exact h.elim
theorem qF {p:Pos} {c:Value} (l:List Value) (h:TriplesOk l):TriplesOk (l++[rawInt p.line,rawInt p.col,c]):=by
 fun_induction TriplesOk l with
 |case1=>simp [TriplesOk,rawInt]
 |case2 a t b u c' rest ih=>exact ih h
 |case3=>exact h.elim
def gK (H:Hp) (T:Addr) (qual:Str) (lV:List Pos):Prop:=
 ∃ ps,H T=some (.tbl ps)/\TriplesOk ps.toList/\∀ lp∈lV,codeAmong lp ps.toList=none∨∃ c',codeAmong lp ps.toList=some (.ref c')/\H c'=some (j7 c' qual)
theorem gK.tab {H:Hp} {T:Addr} {qual:Str} {lV:List Pos} {lp:Pos} (h:gK H T qual lV) (m:lp∈lV):TabOk H T lp qual:=by
 obtain ⟨ps,h1,h2,h3⟩:=h
 exact ⟨ps,h1,h2,h3 lp m⟩
theorem gK.keep {H H':Hp} {T:Addr} {qual:Str} {lV:List Pos} (h:gK H T qual lV) (k:∀ b u,H b=some u->(∀ kvs,u≠.dK kvs)->H' b=some u):gK H' T qual lV:=by
 obtain ⟨ps,h1,h2,h3⟩:=h
 refine ⟨ps,k _ _ h1 (by intro _ z;cases z),h2,fun lp m=>?_⟩
 rcases h3 lp m with z|⟨c',z,e⟩
 ·exact .inl z
 ·exact .inr ⟨c',z,k _ _ e (by intro _ z;cases z)⟩
theorem gK.same {H H':Hp} {T:Addr} {qual:Str} {lV:List Pos} (h:gK H T qual lV) (s:aA H H'):gK H' T qual lV:=h.keep fun b u e _=>s b u e
theorem zX.code {H H1:Hp} {T c':Addr} {lp:Pos} {qual:Str} (h:zX H T lp qual c' H1):H1 c'=some (j7 c' qual):=by
 obtain ⟨ps,h1,⟨_,_,_,rfl⟩|⟨_,h2,rfl⟩⟩:=h
 ·exact ak
 ·exact h2
theorem zX.keep {H H1:Hp} {T c':Addr} {lp:Pos} {qual:Str} (h:zX H T lp qual c' H1) {b:Addr} {u:HO} (e:H b=some u) (ne:∀ ps,u≠.tbl ps):H1 b=some u:=by
 obtain ⟨ps,h1,⟨_,h2,_,rfl⟩|⟨_,h2,rfl⟩⟩:=h
 ·rw [aJ (aO e h2),aJ (fZ e h1 (ne _))];exact e
 ·exact e
theorem gK.lam {H H1:Hp} {T c':Addr} {lp:Pos} {qual:Str} {lV:List Pos} (h:gK H T qual lV) (l:zX H T lp qual c' H1):gK H1 T qual lV:=by
 obtain ⟨ps,h1,h2,h3⟩:=h
 obtain ⟨ps',e1,l⟩:=l
 rw [h1] at e1
 cases e1
 rcases l with ⟨hn,hc,ne,rfl⟩|⟨_,_,rfl⟩
 ·refine ⟨ps++#[rawInt lp.line,rawInt lp.col,.ref c'],by rw [aJ ne.symm,ak],?_,fun lp' m=>?_⟩
  ·rw [Array.toList_append]
   exact qF _ h2
  ·rw [Array.toList_append]
   show codeAmong lp' (ps.toList++[rawInt lp.line,rawInt lp.col,.ref c'])=none∨∃ c'',codeAmong lp' (ps.toList++[rawInt lp.line,rawInt lp.col,.ref c'])=Option.some (Value.ref c'')/\_
   rw [lO _ h2]
   rcases h3 lp' m with z|⟨c'',z,e⟩
   ·rw [z]
    by_cases q:((lp.line:Int) == lp'.line && (lp.col:Int) == lp'.col)=true
    ·rw [if_pos q]
     exact .inr ⟨c',rfl,ak⟩
    ·rw [if_neg q]
     exact .inl rfl
   ·rw [z]
    refine .inr ⟨c'',rfl,?_⟩
    rw [aJ (aO e hc),aJ (fZ e h1 (by intro z;cases z))];exact e
 ·exact ⟨ps,h1,h2,h3⟩
theorem xu {P:Program} {w:World} {K:Frag} {mg mb:Str->Option Value} {CX:nH} {k:Nat} {fa a:Addr} {Ts:List Addr} {fd:FuncData} {x:Str} {sp:Sp} {s₁:Shared} {vs:List Value} {ns:List Int}
 (KX:K.In s₁.heap) (hns:s₁.heap.Ns mainGlobals mg) (hb:s₁.heap.Ns builtinsNs mb) (hbb:∀ x:Str,x ≠ "__name__"->mb x=bootBuiltins x) (hlim:s₁.heap.NoLimit) (hg:s₁.gens=#[])
 (ha:s₁.heap.get? a=some { cls:=.type "list",data:=.seq vs.toArray }) (hi:IntsAre vs ns) (hl:ns.length≤sizeLine) (hr:bF k callerA)
 (hT:∀ T∈Ts,s₁.heap.get? T=some (tabObj #[])/\K.lookup T=none/\∃ c,CodeHd s₁.heap c T)
 (F:∀ base:Heap,K.In base->base.Ns mainGlobals mg->(∀ b o,s₁.heap.get? b=some o->b∉Ts->b≠a->base.get? b=some o)->aR P w K mg base CX k fa fd [x] sp) (hbind:∀ (s:Shared) (u:Value),BindsTo s fd ⟨[u],[]⟩ [(x,u)])
 (hsp:∀ H:Hp,(∀ T∈Ts,H T=some (.tbl #[]))->bM K H a (ns.map V.int)->sp [.ref a] H (fun v _=>v=.bl true) fun _ _ _=>False)
 (hCX:∀ H e s',CX [] H s₁ (fun _ _ _=>False) e s'->False) :
 codeAny (model P w) callerA (.call (.ref fa) ⟨[.ref a],[]⟩) (fun r s'=>r=.ok (.ret (.bool true))/\OldK s₁.heap s'.heap/\s'.os=s₁.os/\AllBare s'.gens) s₁:=by
 have rv:=pA hi
 have lenV:=hi.length
 have haT:a∉Ts:=fun q=>by have:=(hT a q).1;rw [ha] at this;cases this
 have core:∀ H0:Hp,(∀ b,H0 b=none∨(b=a/\K.lookup a=none/\H0 b=some (.frz { cls:=.type "list",data:=.seq vs.toArray } (.lst (ns.map V.int)))))->bM K (fun b=>if b∈Ts then some (.tbl #[]) else H0 b) a (ns.map V.int)->
  codeAny (model P w) callerA (.call (.ref fa) ⟨[.ref a],[]⟩) (fun r s'=>r=.ok (.ret (.bool true))/\OldK s₁.heap s'.heap/\s'.os=s₁.os/\AllBare s'.gens) s₁:=by
  intro H0 hO hS
  generalize hH:(fun b=>if b∈Ts then some (HO.tbl #[]) else H0 b:Hp)=H at hS
  have HT:∀ T∈Ts,H T=some (.tbl #[]):=fun T m=>by rw [← hH];exact if_pos m
  have Hne:∀ b,b∉Ts->H b=H0 b:=fun b e=>by rw [← hH];exact if_neg e
  have Hn:∀ b,b∉Ts->b≠a->H b=none:=fun b h1 h2=>by
   rw [Hne b h1]
   rcases hO b with z|⟨z,_⟩
   ·exact z
   ·exact absurd z h2
  have hok:iR P w H s₁.heap:=fun b u e=>by
   by_cases q:b∈Ts
   ·rw [HT b q] at e;cases e
    exact (hT b q).1
   ·rw [Hne b q] at e
    rcases hO b with z|⟨rfl,_,z⟩
    ·rw [z] at e;cases e
    ·rw [z] at e;cases e
     exact ⟨ha,by rw [List.length_map];exact hl,vs,_,rv,ha⟩
  have nsN:∀ {b:Addr} {o:Obj} {es:Array DictEntry} {ep:Nat},s₁.heap.get? b=some o->o.data=.dict es ep->H b=none:=fun {b o es ep} e d=>by
   refine Hn b (fun q=>?_) (fun q=>?_)
   ·rw [(hT b q).1] at e;cases e;cases d
   ·subst q;rw [ha] at e;cases e;cases d
  have nsK:∀ {b:Addr} {m:Str->Option Value},s₁.heap.Ns b m->(sr s₁.heap H).Ns b m:=fun {b m} ⟨o,es,ep,e,d,r⟩=>⟨o,es,ep,nP e (nsN e d),d,r⟩
  have hKb:K.In (sr s₁.heap H):=fun b o e=>by
   refine nP (KX b o e) ?_
   have q:b∉Ts:=fun m=>by rw [(hT b m).2.1] at e;cases e
   rw [Hne b q]
   rcases hO b with z|⟨rfl,z,_⟩
   ·exact z
   ·rw [z] at e;cases e
  have hM:Mod K mg (sr s₁.heap H):=⟨hKb,nsK hns,⟨mb,nsK hb,hbb⟩,let ⟨mc,h1,h2⟩:=hlim;⟨mc,nsK h1,h2⟩⟩
  have e0:p_ P w K mg (sr s₁.heap H) callerA [] s₁ H:=⟨rfl,hM,fun b o e=>Av e,Nat.le_of_eq (wI _ _),trivial,fun b hb=>absurd (show b∈([]:List Addr) from hb) (by simp),hok,.of_eq hg⟩
  refine codeAny_mono ((F _ hKb (nsK hns) fun b o e h1 h2=>nP e (Hn b h1 h2)).run callerA [] s₁ H ⟨[.ref a],[]⟩ [.ref a] [.ref a] _ _ hr e0 (hbind s₁ (.ref a)) (.cons rfl .nil) (hsp H HT hS)) fun r s' h=>?_
  cases r with
  |error e=>exact (hCX H e s' h).elim
  | ok fl=>
    cases fl with
    |next=>exact False.elim h
    |brk=>exact False.elim h
    |cont=>exact False.elim h
    | ret u=>
      obtain ⟨v,H',os,bare,un,hok',r',q⟩:=h
      cases (show v=.bl true from q)
      cases (show u=Value.bool true from r')
      have was:∀ b o,s₁.heap.get? b=some o->b∉Ts->s'.heap.get? b=some o:=fun b o e h1=>by
       rcases hO b with z|⟨rfl,_,z⟩
       ·exact un.keep b o e (by rw [Hne b h1];exact z) (by intro z;exact absurd (show b∈([]:List Addr) from z) (by simp)) (by simp)
       ·have z2:=un.frzs b _ _ ((Hne b h1).trans z)
        obtain ⟨e2,_⟩:=hok' b _ z2
        rw [ha] at e;cases e
        exact e2
      have tbs:∀ T∈Ts,∃ more,s'.heap.get? T=some { cls:=.none,data:=.fields (#[]++more) }:=fun T m=>by
       obtain ⟨more,hm⟩:=un.tbls T #[] (HT T m)
       exact ⟨more,hok' T _ hm⟩
      refine ⟨rfl,⟨fun b o e=>?_,fun b o e=>?_⟩,os,bare⟩
      ·by_cases h1:b∈Ts
       ·obtain ⟨more,tb⟩:=tbs b h1
        obtain ⟨h2,_,c,hc⟩:=hT b h1
        rw [h2] at e;cases e
        exact .inr (.inl ⟨(hc.tab h2).isCodeTable,rfl,#[],more,rfl,tb⟩)
       ·exact .inl (was b o e h1)
      ·by_cases h1:b∈Ts
       ·obtain ⟨more,tb⟩:=tbs b h1
        exact ⟨_,tb⟩
       ·exact ⟨o,was b o e h1⟩
 cases hk:K.lookup a with
 | some o=>
   have e:=KX a o hk
   rw [ha] at e
   cases e
   exact core (fun _=>none) (fun _=>.inl rfl) (.inr ⟨_,vs.toArray,_,hk,rfl,rfl,rfl,by rw [List.size_toArray,lenV];exact hl,by simpa using rv⟩)
 | none=>
   refine core (fun b=>if b=a then some (.frz { cls:=.type "list",data:=.seq vs.toArray } (.lst (ns.map V.int))) else none) (fun b=>?_) (.inl (.inr ⟨_,(if_neg haT).trans (if_pos rfl)⟩))
   by_cases h:b=a
   ·exact .inr ⟨h,hk,if_pos h⟩
   ·exact .inl (if_neg h)
theorem xV {l:OpenLaw} {n k:Nat} {q:Program} {loose:List Str} {XP:(Str->Option Value)->Heap->Prop} {YP:World->Heap->Prop} {d:DefRec} {K:Params->Frag} {CX:World->nH} {x:Str} {Ts:List Addr}
 (hn:l.most=some n) (hn2:n≤sizeLine) (hdf:d.params.defaults=[]) (hr:bF k callerA)
 (hY:∀ (w:World) (h:Heap),YP w h->(K w.params).In h) (hYT:∀ (w:World) (h:Heap),YP w h->∀ T∈Ts,h.get? T=some (tabObj #[]))
 (F:∀ (w:World) (mg:Str->Option Value) (fa:Addr) (h:Heap),(K w.params).In h->h.Ns mainGlobals mg->mg d.name=some (.ref fa)->
  ∃ (fd:FuncData) (sp:Sp),(∀ (s:Shared) (u:Value),BindsTo s fd ⟨[u],[]⟩ [(x,u)])/\(∀ T∈Ts,(K w.params).lookup T=none/\∃ c,tabIn (K w.params) c=some T)/\
    (∀ (H:Hp) (a:Addr) (ns:List Int),ns.length≤n->(∀ T∈Ts,H T=some (.tbl #[]))->bM (K w.params) H a (ns.map V.int)->sp [.ref a] H (fun v _=>v=.bl true) fun _ _ _=>False)/\
    ∀ base:Heap,(K w.params).In base->base.Ns mainGlobals mg->(∀ T∈Ts,base.BuiltinsAt mg T/\mainGlobals≠T)->aR l.prog w (K w.params) mg base (CX w) k fa fd [x] sp)
 (hCX:∀ (w:World) (H:Hp) (s:Shared) (e:Value) (s':Shared),CX w [] H s (fun _ _ _=>False) e s'->False) :
 WalkO q loose XP YP l.row.toRowW d [] (fun f vs=>PySem.call f vs):=by
 refine Att.rR hn hdf fun w s₀ s₁ mg mb fa o pm cd doc a vs ns G Y ho hd hcd hmg hobj hints hlen hg=>?_
 have KX:=hY w _ Y
 have TX:=hYT w _ Y
 obtain ⟨fd,sp,hb,ht,hsp,hF⟩:=F w mg fa _ KX G.T.g hmg
 obtain ⟨bm,ob,b1,b2,b3,b4,b5,b6⟩:=G.T.bmain
 have gT:∀ T∈Ts,mainGlobals≠T:=fun T m q=>by
  obtain ⟨o,es,ep,e,hd,_⟩:=G.T.g
  rw [q,TX T m] at e;cases e;cases hd
 have bT:bm∉Ts:=fun m=>by
  rw [TX _ m] at b3;cases b3;cases b4
 have ba:bm≠a:=fun q=>by
  rw [q,hobj] at b3;cases b3;cases b6
 have bG:bm≠mainGlobals:=fun q=>by
  obtain ⟨o,es,ep,e,hd,_⟩:=G.T.g
  rw [q,e] at b3;cases b3;rw [hd] at b6;cases b6
 exact xu KX G.T.g G.T.b G.T.builtins G.T.nolimit hg hobj hints (Nat.le_trans hlen hn2) hr (fun T m=>⟨TX T m,(ht T m).1,let ⟨c,z⟩:=(ht T m).2;⟨c,BR KX z⟩⟩) (fun base kb nb old=>hF base kb nb fun T m=>⟨⟨bm,ob,b1,b2,bG,fun q=>bT (q ▸ m),old _ _ b3 bT ba,b4,b5,b6⟩,gT T m⟩) hb (fun H hH hS=>hsp H a ns hlen hH hS) fun H e s'=>hCX w H s₁ e s'
end L2
namespace L2
open PySem PySem.Spec PyProof.Rows
section
variable {X:Cx} {scope:Scope} {own:List Str} {js:List Nat} {N':List Str} {wi:TI} {g:TG} {tt:TT} {tk tv:TE} {ke ve tg iter:Expr} {ifs:List Expr} {pos:Pos}
end
end L2
namespace L2
open PySem PySem.Spec PyProof.Rows PySem.SeqAt
theorem J1 {α:Type} {us:List α} (h:us.length=1):∃ a,us=[a]:=List.length_eq_one_iff.mp h
theorem Aq {α:Type} {us:List α} (h:us.length=2):∃ a b,us=[a,b]:=by
 cases us with
 |nil=>cases h
 | cons a r=>
   obtain ⟨b,rfl⟩:=J1 (us:=r) (by simpa using h)
   exact ⟨a,b,rfl⟩
theorem CZ {α:Type} {us:List α} (h:us.length=3):∃ a b c,us=[a,b,c]:=by
 cases us with
 |nil=>cases h
 | cons a r=>
   obtain ⟨b,c,rfl⟩:=Aq (us:=r) (by simpa using h)
   exact ⟨a,b,c,rfl⟩
theorem Sv {α:Type} {us:List α} (h:us.length=4):∃ a b c d,us=[a,b,c,d]:=by
 cases us with
 |nil=>cases h
 | cons a r=>
   obtain ⟨b,c,d,rfl⟩:=CZ (us:=r) (by simpa using h)
   exact ⟨a,b,c,d,rfl⟩
end L2
namespace L2
open PySem PySem.Spec PyProof.Rows
theorem lB:∀ {ns:List Int} {us:List Value},Vals (ns.map V.int) us->∃ ps:List (Int×Tok),us=ps.map (fun p=>Value.int p.1 p.2)/\ps.map (·.1)=ns
 |[],_,r=>by rw [List.map_nil] at r;cases r;exact ⟨[],rfl,rfl⟩
 | n::ns,_,r=>by
   rw [List.map_cons] at r
   cases r with
   | cons h t=>
     obtain ⟨tk,rfl⟩:=(show ∃ t,_=Value.int n t from h)
     obtain ⟨ps,e1,e2⟩:=lB t
     exact ⟨(n,tk)::ps,by rw [e1];rfl,by rw [List.map_cons,e2]⟩
theorem numAt_eq {ps:List (Int×Tok)} {ns:List Int} (e:ps.map (·.1)=ns) {i:Nat} (h:i<ns.length):numAt ps.toArray i=ns[i]:=by
 subst e
 unfold numAt
 simp at h ⊢
 rw [List.getElem?_eq_getElem h]
 rfl
theorem rZ {ps:List (Int×Tok)}:(ps.map (fun p=>Value.int p.1 p.2)).toArray=intItems ps.toArray:=by
 unfold intItems
 simp
section
variable {X:Cx}
theorem wF (hc:X.calm=true):eX X (.builtin "max") (fun xs H Q=>∃ p ns,xs=[.ref p]/\bM X.K H p (ns.map V.int)/\ns≠[]/\∀ b,b∈ns->(∀ x∈ns,x≤b)->Q (.int b) H):=by
 intro Z s U H xs us Q I r h
 obtain ⟨p,ns,rfl,hq,hne,q⟩:=h
 obtain ⟨u,rfl,ru⟩:=vals1 r
 cases (show u=Value.ref p from ru)
 obtain ⟨its,rv,pl,hz⟩:=I.list hq
 obtain ⟨ps,rfl,e⟩:=lB rv
 have hl:ps.length=ns.length:=by rw [← e,List.length_map]
 have hpos:0<ns.length:=List.length_pos_iff.mpr hne
 have pl':=pl.isList
 rw [rZ] at pl'
 refine max_intList (I.ok.hd hc) pl' (by simp;omega) fun v h' tk hv k=>?_
 have hb:=argBest_gt (numAt ps.toArray) (ps.toArray.size-1)
 generalize argBest (fun i j=>decide (numAt ps.toArray i > numAt ps.toArray j)) (ps.toArray.size-1)=m at hv hb
 have hm:m<ns.length:=by have:=hb.1;simp at this;omega
 obtain ⟨t,rfl⟩:=intItems_at hv
 rw [numAt_eq e hm]
 refine ⟨.int ns[m],H,I.kept k,⟨_,rfl⟩,q _ (List.getElem_mem hm) fun x hx=>?_⟩
 obtain ⟨j,hj,rfl⟩:=List.getElem_of_mem hx
 have:=hb.2 j (by simp;omega)
 rw [numAt_eq e hj,numAt_eq e hm] at this
 exact this
end
theorem sU {K:PySem.W.Frag} {a:Addr} {xs:List V} {g:TG} {tt:TT} {te:TE} {F:List V->Hp->Prop} {σ0:St} {H0:Hp} (Pv:Nat->List V->St->Hp->Prop) (hn:xs.length≤sizeLine) (h0:Pv 0 [] σ0 H0) (hq:∀ i ys U H,i≤xs.length->Pv i ys U H->bM K H a xs)
 (hs:∀ i x ys U H,xs[i]?=some x->Pv i ys U H->∀ N:List V->St->Hp->Prop,(∀ ys' σ' H',Pv (i+1) ys' σ' H'->ys'.length≤ys.length+1->N ys' σ' H')->g x U H fun σ2 H2=>tt σ2 H2 fun b H3=>if b=true then te σ2 H3 fun y H4=>N (ys++[y]) σ2 H4 else N ys σ2 H3)
 (hd:∀ ys U H,ys.length≤xs.length->Pv xs.length ys U H->F ys H) :
 ∃ W:Nat->Nat->List V->St->Hp->Prop,(∃ m,W 0 m [] σ0 H0)/\jJ (BJ K a) g tt te F W:=by
 refine ⟨fun i m ys U H=>m=xs.length-i/\i≤xs.length/\ys.length≤i/\Pv i ys U H,⟨xs.length,by simp,Nat.zero_le _,Nat.zero_le _,h0⟩,?_⟩
 rintro i m ys U H ⟨rfl,hi,hl,p⟩
 have q:=hq i ys U H hi p
 by_cases hlt:i<xs.length
 ·refine .inr ⟨⟨xs,xs[i],q,by simp [hlt]⟩,by omega,fun x H' y=>?_⟩
  obtain ⟨e,y⟩:=y
  subst e
  refine hs i x ys U _ (y xs q) p (fun ys' σ' H'=>∃ m',m'<xs.length-i/\m'=xs.length-(i+1)/\i+1≤xs.length/\ys'.length≤i+1/\Pv (i+1) ys' σ' H') fun ys' σ' H' q hl'=>⟨xs.length-(i+1),by omega,rfl,hlt,by omega,q⟩
 ·have e:i=xs.length:=by omega
  subst e
  exact .inl ⟨⟨xs,q,Nat.le_refl _⟩,hd ys U H hl p⟩
end L2
namespace L2
open PySem PySem.Spec PyProof.Rows PySem.SeqAt
def ou (t:TE) (U:St) (H:Hp) (v:V):Prop:=∀ Q:VK,Q v H->t U H Q
def Cz (r:R2) (x y:V) (H:Hp) (v:V):Prop:=∀ Q:VK,Q v H->r x y H Q
section
variable {U:St} {H:Hp} {ta tb tc:TE} {t u:TT} {x y z v:V} {r r':R2} {k k':Bool} {f:TF} {m n:Nat}
theorem ou.var {i:Nat} (h:U[i]?=some (some v)):ou (jU i) U H v:=fun Q q=>⟨v,h,q⟩
theorem ou.con:ou (tC v) U H v:=fun Q q=>q
theorem ou.neg {i:Int} (a:ou ta U H (.int i)):ou (Ud (rU fun i=>.int (-i)) ta) U H (.int (-i)):=fun Q q=>a _ ⟨i,rfl,q⟩
theorem Cz.i0 {g:Int->Int->V} {i j:Int}:Cz (Bf g) (.int i) (.int j) H (g i j):=fun Q q=>⟨i,j,rfl,rfl,q⟩
theorem ou.chain (a:ou ta U H x) (b:ou tb U H y) (c:ou tc U H z) (h:Cz r x y H (.bl k)) (h':Cz r' y z H (.bl k')):ou (uI r r' ta tb tc) U H (.bl (k && k')):=fun Q q=>a _ (b _ (h _ ⟨k,rfl,by
 cases k with
 |false=>exact bZ rfl q
 |true=>exact cI rfl (c _ (h' _ q))⟩))
end
variable {X:Cx}
def RT (K:PySem.W.Frag):R2:=fun x y H Q=>∃ d e,Rep K H x (.list d)/\Rep K H y (.list e)/\bI d≤60/\Q (.bl (!eY d e)) H
theorem Ea (hu:X.A.units+64<cLine):iI X (compareOp .NotEq) (RT X.K):=by
 intro Z s U H x y v u Q I rx ry h
 obtain ⟨d,e,h1,h2,hd,q⟩:=h
 cases h1 with
 | lst g1 rs1=>
   cases h2 with
   | lst g2 rs2=>
     cases (show v=Value.ref _ from rx)
     cases (show u=Value.ref _ from ry)
     obtain ⟨its1,rv1,p1,_⟩:=I.list g1
     obtain ⟨its2,rv2,p2,_⟩:=I.list g2
     have hz:=yI (X:=X) (H:=H) (A:=X.A) rs1 rs2 rv1 rv2
     by_cases hs:its1.toArray.size=its2.toArray.size
     ·have hw:=RcNeAt.lists (A:=X.A) p1.isList p2.isList hs (by omega)
       (e:=fun j=>ik (d.getD j .none) (e.getD j .none)) (fun j h1 h2=>by simpa using lw I rs1 rs2 rv1 rv2 (A:=X.A.in1) (by show X.A.units+1+_<_;omega) j (by simpa using h1) (by simpa using h2))
      rw [← hs,Nat.min_self,beq_self_eq_true,Bool.and_true] at hz
      rw [hz] at hw
      exact hw _ _ _ _ ⟨.bl _,H,I,rfl,q⟩
     ·have hw:=RcNeAt.lists_lengths (A:=X.A) p1.isList p2.isList (by simpa using hs) (by omega)
      have:eY d e=false:=by
       rw [← hz,beq_eq_false_iff_ne.mpr hs,Bool.and_false]
      rw [this] at q
      exact hw _ _ _ _ ⟨.bl _,H,I,rfl,q⟩
section
variable {U:St} {H:Hp} {ta tb:TE} {k k':Bool} {x y:V}
end
section
variable {X:Cx}
end
theorem j6 {f:Nat->Int} {ns:List Int} (h:∀ i (hi:i<ns.length),f i=ns[i]):∀ k,k≤ns.length->preSum f k=(ns.take k).sum
 |0,_=>rfl
 | k+1,hk=>by
   have hk':k<ns.length:=hk
   show preSum f k+f k=_
   rw [j6 h k (Nat.le_of_lt hk'),h k hk',List.take_add_one,List.getElem?_eq_getElem hk',List.sum_append]
   simp
theorem sum_bound {B:Int}:∀ {ns:List Int},(∀ x∈ns,-B≤x/\x≤B)->0≤B->-(B*ns.length)≤ns.sum/\ns.sum≤B*ns.length
 |[],_,_=>by simp
 | n::ns,h,hB=>by
   have h1:=h n (List.mem_cons_self ..)
   have h2:=sum_bound (ns:=ns) (fun x hx=>h x (List.mem_cons_of_mem _ hx)) hB
   rw [List.sum_cons,List.length_cons,Int.natCast_succ,Int.mul_add,Int.mul_one]
   omega
section
variable {X:Cx}
theorem p6 (hc:X.calm=true):eX X (.builtin "sum") (fun xs H Q=>∃ (p:Addr) (ns:List Int),xs=[.ref p]/\bM X.K H p (ns.map V.int)/\ns.length≤1000/\(∀ x∈ns,-10000000000000≤x/\x≤10000000000000)/\Q (.int ns.sum) H):=by
 intro Z s U H xs us Q I r h
 obtain ⟨p,ns,rfl,hq,hl,hb,q⟩:=h
 obtain ⟨u,rfl,ru⟩:=vals1 r
 cases (show u=Value.ref p from ru)
 obtain ⟨its,rv,pl,hz⟩:=I.list hq
 obtain ⟨ps,rfl,e⟩:=lB rv
 have hlen:ps.length=ns.length:=by rw [← e,List.length_map]
 have pl':=pl.isList
 rw [rZ] at pl'
 have at_:∀ i (hi:i<ns.length),numAt ps.toArray i=ns[i]:=fun i hi=>numAt_eq e hi
 refine sum_intList (I.ok.hd hc) pl' (fun j hj=>?_) fun h' tk t' k=>?_
 ·have hj':j<ns.length:=by simpa [hlen] using hj
  rw [at_ j hj',j6 at_ (j+1) hj']
  have b1:=hb _ (List.getElem_mem hj')
  have b2:=sum_bound (B:=10000000000000) (ns:=ns.take (j+1)) (fun x hx=>hb x (List.mem_of_mem_take hx)) (by decide)
  have b3:(ns.take (j+1)).length≤1000:=by rw [List.length_take];omega
  refine ⟨⟨?_,?_⟩,?_,?_⟩ <;> omega
 ·have:preSum (numAt ps.toArray) ps.toArray.size=ns.sum:=by
   rw [List.size_toArray,hlen,j6 at_ _ (Nat.le_refl _),List.take_length]
  rw [this]
  exact ⟨.int _,H,I.kept k,⟨_,rfl⟩,q⟩
end
end L2
namespace L2
open PySem PySem.Spec PyProof.Rows
section
variable {X:Cx} {Z:List (Addr×Obj)} {U:St} {H:Hp} {s:Shared}
end
section
variable {X:Cx} {scope:Scope} {own:List Str} {js:List Nat} {N':List Str} {wi:TI} {g:TG} {tt:TT} {te:TE} {elt tg iter:Expr} {ifs:List Expr} {pos:Pos}
end
end L2
namespace L2
open PySem
theorem xQ {X:Cx} {tg l:Expr} {tl:TE} {K:PySem.W.Frag} (hK:X.K=K) (hl:PE X l tl):PI X tg l (vp K tl):=by
 subst hK
 exact eU hl
end L2
namespace L2
open PySem PySem.Spec PyProof.Rows PySem.SeqAt
section
variable {prog:Program} {w:World} {A:Around} {E:Value->Shared->Prop} {s:Shared}
end
variable {X:Cx}
end L2
namespace L2
open PySem PySem.Spec PyProof.Rows PySem.W PyProof.V
def wZ (K:Frag) (a:Addr) (D:List (Str×PyData)):Prop:=KTD.tabLook KTD.flatLooks (fun b=>K.lookup b) a D=true
def Oi:PyData->V
 |.int i=>.int i
 |.str x=>.str x
 |.bool b=>.bl b
 |_=>.non
def jX (D:List (Str×PyData)) (k:Str):Option V:=(KTD.datumAt k D).map Oi
theorem Aw {h:Heap}:∀ {d:PyData} {v:Value},Flat v d->RelV (Oi d) v:=by
 intro d v x
 cases x ⟨#[],h.life⟩
 all_goals first|exact ⟨_,rfl⟩|rfl|exact absurd (Heap.lt_size (by assumption)) (Nat.not_lt_zero _)
def JT (D:List (Str×PyData)):List (Str×KTD.Dat):=D.map fun p=>(p.1,KTD.Dat.flat p.2)
theorem jd {k:Str}:∀ {D:List (Str×PyData)},KTD.datumAt k (JT D)=(KTD.datumAt k D).map KTD.Dat.flat
 |[]=>rfl
 | (x,d)::D=>by
   show (if _ then _ else KTD.datumAt k (JT D))=_
   rw [jd (D:=D)]
   show _=(if _ then _ else KTD.datumAt k D).map _
   split <;> rfl
theorem mV {k:Str} {D:List (Str×PyData)}:KTD.inKeys k (JT D)=(jX D k).isSome:=by
 rw [← KTD.isSome_datumAt,jd]
 unfold jX
 cases KTD.datumAt k D <;> rfl
section
variable {X:Cx} {Z:List (Addr×Obj)} {U:St} {H:Hp} {s:Shared} {a:Addr} {D:List (Str×PyData)}
theorem wZ.here (T:wZ X.K a D) (I:Inv X Z U H s):KTD.Here s.heap s.heap a (JT D):=⟨KTD.TabOf.text (KTD.tab_of_look (fun _ _ h=>KTD.flat_of_looks h) (fun b o e=>I.kIn b o e) T),fun _ _ h=>h⟩
def yL (K:Frag) (neg:Bool):R2:=fun x y H Q=>∃ k a D,x=.str k/\y=.ref a/\wZ K a D/\Q (.bl (if neg then !(jX D k).isSome else (jX D k).isSome)) H
theorem sG:iI X (compareOp .In) (yL X.K false):=by
 intro Z s U H x y v u Q I rx ry h
 obtain ⟨k,a,D,rfl,rfl,T,q⟩:=h
 obtain ⟨t,rfl⟩:=rx
 cases (show u=Value.ref a from ry)
 refine KTD.in_text (T.here I) ⟨.bl _,H,I.tok _,rfl,?_⟩
 rw [mV]
 exact q
theorem su:iI X (compareOp .NotIn) (yL X.K true):=by
 intro Z s U H x y v u Q I rx ry h
 obtain ⟨k,a,D,rfl,rfl,T,q⟩:=h
 obtain ⟨t,rfl⟩:=rx
 cases (show u=Value.ref a from ry)
 refine KTD.notin_text (T.here I) ⟨.bl _,H,I.tok _,rfl,?_⟩
 rw [mV]
 exact q
def Bl (K:Frag) (td ty:TE):TE:=fun U H Q=>td U H fun x H1=>∃ a D,x=.ref a/\wZ K a D/\ty U H1 fun y H2=>∃ k,y=.str k/\Q ((jX D k).getD .non) H2
theorem xJ {o e:Expr} {apos cpos:Pos} {td ty:TE} (ho:PE X o td) (he:PE X e ty) (m:M1 X o "get" apos e cpos):PE X (.Call (.Attribute o "get" apos) [e] [] cpos) (Bl X.K td ty):=by
 intro Z s U H Q I h
 refine wpAny_Call_method m.base m.few m.line PySem.F.plainAttrs_dict PySem.F.slot_dict_get PySem.F.type_dict_get (cz (ho Z s U H _ I h) fun u s1 ⟨x,H1,I1,rx,a,D,ex,T,q1⟩=>?_)
 subst ex
 obtain rfl:u=Value.ref a:=rx
 refine ⟨(T.here I1).typeIs,(T.here I1).noDict,?_⟩
 rw [m.trees]
 refine Calls.callWith_builtin rfl (Calls.evalArgs_plain (Calls.spliced_cons (cz (he Z s1 U H1 _ I1 q1) fun iv s2 ⟨y,H2,I2,ry,k,ey,q2⟩=>Calls.spliced_nil ?_)))
 subst ey
 obtain ⟨t,rfl⟩:=ry
 refine call_meetsIn PySem.F.slot_dict_get (T.here I2).typeIs PySem.F.entry_dict_get (PySem.F.args_dict_get_2 _ _) (KTD.meets_get1 (h₀:=s2.heap) (D:=JT D)) ⟨T.here I2,fun d v ha hv=>?_,fun hn=>?_⟩
 ·rw [jd] at ha
  unfold jX at q2
  cases hd:KTD.datumAt k D with
  |none=>rw [hd] at ha;cases ha
  | some d'=>
    rw [hd] at ha q2
    cases ha
    exact ⟨_,H2,I2.tok _,Aw (h:=s.heap) hv,q2⟩
 ·rw [jd] at hn
  unfold jX at q2
  cases hd:KTD.datumAt k D with
  |some d'=>rw [hd] at hn;cases hn
  | none=>
    rw [hd] at q2
    exact ⟨.non,H2,I2.tok _,rfl,q2⟩
end
end L2
namespace L2
open PySem PySem.Spec PyProof.Rows PySem.SeqAt PySem.Builtin PySem.Builtin.Str
section
variable {X:Cx}
end
end L2
namespace L2
open PySem PySem.Spec PyProof.Rows PySem.SeqAt
section
variable {X:Cx}
end
end L2
namespace L2
open PySem PySem.Spec PyProof.Rows PySem.SeqAt PySem.Builtin PySem.Builtin.Str
section
variable {X:Cx}
end
theorem rC {lo:Int} {n:Nat} {g:TG} {tt:TT} {te:TE} {F:List V->Hp->Prop} {σ0:St} {H0:Hp} (Pv:Nat->List V->St->Hp->Prop) (hn:n≤sizeLine) (h0:Pv 0 [] σ0 H0)
 (hs:∀ i ys U H,i<n->Pv i ys U H->∀ N:List V->St->Hp->Prop,(∀ ys' σ' H',Pv (i+1) ys' σ' H'->ys'.length≤ys.length+1->N ys' σ' H')->g (.int (lo+i)) U H fun σ2 H2=>tt σ2 H2 fun b H3=>if b=true then te σ2 H3 fun y H4=>N (ys++[y]) σ2 H4 else N ys σ2 H3)
 (hd:∀ ys U H,ys.length≤n->Pv n ys U H->F ys H) :
 ∃ W:Nat->Nat->List V->St->Hp->Prop,(∃ m,W 0 m [] σ0 H0)/\jJ (Az lo n) g tt te F W:=by
 refine ⟨fun i m ys U H=>m=n-i/\i≤n/\ys.length≤i/\Pv i ys U H,⟨n,by simp,Nat.zero_le _,Nat.zero_le _,h0⟩,?_⟩
 rintro i m ys U H ⟨rfl,hi,hl,p⟩
 by_cases hlt:i<n
 ·refine .inr ⟨hlt,by omega,fun x H' y=>?_⟩
  obtain ⟨e,y⟩:=y
  subst e y
  exact hs i ys U _ hlt p (fun ys' σ' H'=>∃ m',m'<n-i/\m'=n-(i+1)/\i+1≤n/\ys'.length≤i+1/\Pv (i+1) ys' σ' H') fun ys' σ' H' q hl'=>⟨n-(i+1),by omega,rfl,hlt,by omega,q⟩
 ·have e:i=n:=by omega
  subst e
  exact .inl ⟨Nat.le_refl _,hd ys U H hl p⟩
end L2
namespace L2
open PySem PySem.Spec PyProof.Rows PySem.SeqAt
section
variable {X:Cx}
end
section
variable {X:Cx} {Z:List (Addr×Obj)} {U:St} {H:Hp} {s:Shared} {h':Heap}
end
end L2
namespace L2
open PySem PySem.Spec PyProof.Rows PySem.SeqAt PySem.Builtin PySem.Builtin.Str
section
variable {X:Cx}
end
section
variable {prog:Program} {w:World} {A:Around} {E:Value->Shared->Prop} {s:Shared} {l:Addr}
end
section
variable {X:Cx} {pos:Pos}
end
end L2
namespace L2
open PySem PySem.Spec PyProof.Rows PySem.SeqAt PySem.Builtin
variable {X:Cx} {pos:Pos}
end L2
namespace L2
open PySem PySem.Spec PyProof.Rows PySem.SeqAt PySem.W Builtin.ObjectAttr
end L2
namespace L2
open PySem PySem.Spec PyProof.Rows PySem.SeqAt PySem.W
variable {X:Cx}
end L2
namespace L2
open PySem PySem.Spec PyProof.Rows
def yR (J:It) (g:TG) (tt:TT) (te:TE) (F:List V->St->Hp->Prop) (W:Nat->Nat->List V->St->Hp->Prop):Prop:=
 ∀ i m ys U H,W i m ys U H->(J.stop i H/\F ys U H)∨(J.go i H/\ys.length<sizeLine/\∀ x H1,J.yld i H x H1->g x U H1 fun σ2 H2=>tt σ2 H2 fun b H3=>
   if b=true then te σ2 H3 fun y H4=>∃ m',m'<m/\W (i+1) m' (ys++[y]) σ2 H4 else ∃ m',m'<m/\W (i+1) m' ys σ2 H3)
def pQ (J:It) (g:TG) (tt:TT) (wi2:TI) (g2:TG) (tt2:TT) (te:TE) (F:List V->Hp->Prop) (W:Nat->Nat->List V->St->Hp->Prop):Prop:=
 ∀ i m ys U H,W i m ys U H->(J.stop i H/\F ys H)∨(J.go i H/\∀ x H1,J.yld i H x H1->g x U H1 fun σ2 H2=>tt σ2 H2 fun b H3=>
   if b=true then wi2 σ2 H3 fun J2 H4=>∃ W2:Nat->Nat->List V->St->Hp->Prop,(∃ m2,W2 0 m2 ys σ2 H4)/\yR J2 g2 tt2 te (fun ys' σ' H'=>∃ m',m'<m/\W (i+1) m' ys' σ' H') W2
   else ∃ m',m'<m/\W (i+1) m' ys σ2 H3)
theorem rK (elt:Expr) (g0:Comprehension) (target iter:Expr) (ifs:List Expr) (scope:Scope) (pos:Pos) (it acc:Value) (env:Env) :
 compTurn (.ListComp elt [g0,⟨target,iter,ifs,0⟩] scope pos) 1 it acc env=(do
  standAt iter.pos
  match ← pyNext it with
  |none=>pure (.done .next)
  | some v=>
    letOwnedTupleGo target it v
    assign target env v
    let mut ok:=true
    for c in ifs do
     if ok then ok ← isTrue c env (eval c env)
    if ok then
     (do let _ ← call (.builtin "list.append") [acc,← eval elt env])
    again (.compLoop (.ListComp elt [g0,⟨target,iter,ifs,0⟩] scope pos) 1 it acc env)):=by rfl
theorem pX (elt target iter:Expr) (ifs:List Expr) (target2 iter2:Expr) (ifs2:List Expr) (scope:Scope) (pos:Pos) (it acc:Value) (env:Env) :
 compTurn (.ListComp elt [⟨target,iter,ifs,0⟩,⟨target2,iter2,ifs2,0⟩] scope pos) 0 it acc env=(do
  standAt iter.pos
  match ← pyNext it with
  |none=>pure (.done .next)
  | some v=>
    letOwnedTupleGo target it v
    assign target env v
    let mut ok:=true
    for c in ifs do
     if ok then ok ← isTrue c env (eval c env)
    if ok then
     let x ← eval iter2 env
     standAt iter2.pos
     let x ← foldedSetIterable iter2 env x
     let _ ← runOwn (.compStart (.ListComp elt [⟨target,iter,ifs,0⟩,⟨target2,iter2,ifs2,0⟩] scope pos) 1 (← holding [x] (pyIter x)) acc env) env
    again (.compLoop (.ListComp elt [⟨target,iter,ifs,0⟩,⟨target2,iter2,ifs2,0⟩] scope pos) 0 it acc env)):=by rfl
theorem j8 {prog:Program} {w:World} {A:Around} {R:Result->Shared->Prop} {s:Shared} {elt g0 target iter ifs scope pos it acc env}
 (h0:codeAny (model prog w) A (.compLoop (.ListComp elt [g0,⟨target,iter,ifs,0⟩] scope pos) 1 it acc env) R s)
 (h:wpAny (model prog w) A (pyIter it) (fun it' s'=>codeAny (model prog w) A (.compLoop (.ListComp elt [g0,⟨target,iter,ifs,0⟩] scope pos) 1 it' acc env) R s')
  (notedBy (model prog w) A env fun x s'=>R (.error x) s') s) :
 codeAny (model prog w) A (.compStart (.ListComp elt [g0,⟨target,iter,ifs,0⟩] scope pos) 1 it acc env) R s:=by
 refine codeAny_of_tree ?_
 show wpAny _ _ ((compStart (.ListComp elt [g0,⟨target,iter,ifs,0⟩] scope pos) 1 it acc env).onRaise (fun x=>do noteFrame x env;standAt theWindowsPlace)) _ _ s
 refine wpAny_notedAt ?_
 unfold compStart
 show wpAny _ _ (ask >>= _) _ _ s
 refine wpAny_bind (wpAny_askSetting (wpAny_ite ?_))
 split
 ·first
   |exact wpAny_bind (wpAny_pure (wpAny_pure (And.intro rfl h0)))
   |exact wpAny_pure (And.intro rfl h0)
 ·first
   |exact wpAny_bind (wpAny_rule (wpAny_bind (wpAny_standAt (wpAny_bind (wpAny_mono h (fun it' s' h'=>wpAny_pure (And.intro rfl h')) fun _ _ x=>x)))))
   |(refine wpAny_bind (wpAny_rule ?_);show wpAny _ _ (standAt iter.pos >>= _) _ _ s;exact wpAny_bind (wpAny_standAt (wpAny_bind (wpAny_mono h (fun it' s' h'=>wpAny_pure (And.intro rfl h')) fun _ _ x=>x))))
theorem uF {Y:Cx} {ps:List (Addr×Obj)} {acc it:Addr} {fp:List Addr} {tn:Nat->Heap->Prop} {J:It} {g:TG} {tt:TT} {te:TE} {F:List V->St->Hp->Prop}
 {elt tg iter:Expr} {g0:Comprehension} {ifs:List Expr} {scope:Scope} {pos:Pos} {R:Result->Shared->Prop} (W:Nat->Nat->List V->St->Hp->Prop) (turn:yR J g tt te F W) (T:Turn Y.prog Y.w Y.K tg J fp it tn)
 (hg:PG Y tg g) (hc:jq Y ifs tt) (he:PE Y elt te) (hcalm:Y.calm=true) (hx:∀ v s,¬ Y.xe v s)
 (hfp:∀ b∈fp,b≠Y.env.locals/\b∉Y.fs/\(b∈Y.ex∨Y.s₀.heap.objs.size≤b)/\(∀ x c,Y.env.cells.lookup x=some c->c≠b)/\(∀ p∈Y.pn++ps,p.1≠b)/\b≠acc)
 (hacc:acc≠Y.env.locals/\acc∉Y.fs/\(acc∈Y.ex∨Y.s₀.heap.objs.size≤acc)/\(∀ x c,Y.env.cells.lookup x=some c->c≠acc)/\∀ p∈Y.pn++ps,p.1≠acc)
 (hR:∀ s' σ' H' ys us k,Inv Y ((acc,bJ us k)::ps) σ' H' s'->Vals ys us->F ys σ' H'->R (.ok .next) s')
 {s:Shared} {U:St} {H:Hp} {m:Nat} {ys0:List V} {us0:List Value} {k0:Nat} (rv0:Vals ys0 us0) (I:Inv Y ((acc,bJ us0 k0)::ps) U H s) (st:tn 0 s.heap) (fr:∀ b∈fp,H b=none) (w0:W 0 m ys0 U H) :
 codeAny (model Y.prog Y.w) Y.A (.compLoop (.ListComp elt [g0,⟨tg,iter,ifs,0⟩] scope pos) 1 (.ref it) (.ref acc) Y.env) R s:=by
 refine codeAny_loop rfl (fun n s'=>∃ i ys us k σ' H',Vals ys us/\Inv Y ((acc,bJ us k)::ps) σ' H' s'/\tn i s'.heap/\(∀ b∈fp,H' b=none)/\W i n ys σ' H') (fun n s3 hI=>?_) m ⟨0,ys0,us0,k0,U,H,rv0,I,st,fr,w0⟩
 obtain ⟨i,ys,us,k,σ3,H3,rv,I3,st3,fr3,w3⟩:=hI
 show wpAny _ Y.A ((compTurn (.ListComp elt [g0,⟨tg,iter,ifs,0⟩] scope pos) 1 (.ref it) (.ref acc) Y.env).onRaise (fun x=>do noteFrame x Y.env;theTreesLotGoes x)) _ _ s3
 refine wpAny_noted ?_
 rw [rK]
 have fpk:∀ {H':Hp},(∀ b∈fp,H' b=none)->∀ b∈fp,jo Y ((acc,bJ us k)::ps) H' b:=fun hn b hb=>
  ⟨hn b hb,(hfp b hb).1,(hfp b hb).2.1,(hfp b hb).2.2.1,(hfp b hb).2.2.2.1,fun p hp'=>by
   rcases List.mem_append.mp hp' with z|z
   ·exact (hfp b hb).2.2.2.2.1 p (List.mem_append_left _ z)
   ·rcases List.mem_cons.mp z with rfl|z
    ·exact Ne.symm (hfp b hb).2.2.2.2.2
    ·exact (hfp b hb).2.2.2.2.1 p (List.mem_append_right _ z)⟩
 have fp1:=fpk fr3
 refine wpAny_bind (wpAny_standAt (wpAny_bind ?_))
 rcases turn i n ys σ3 H3 w3 with ⟨stop,qn⟩|⟨go,hz,step⟩
 ·refine wpAny_mono (T.done Y rfl rfl rfl hcalm i _ s3 σ3 H3 (fun _ _=>False) I3 fp1 st3 stop) (fun r s4 ⟨hr,I4⟩=>?_) (fun _ _ z=>z.elim)
  subst hr
  exact wpAny_pure (hR s4 σ3 H3 ys us k I4 rv qn)
 ·refine wpAny_mono (T.item Y rfl rfl rfl hcalm i _ s3 σ3 H3 (fun _ _=>False) I3 fp1 st3 go) (fun r s4 ⟨u,hr,h4⟩=>?_) (fun _ _ z=>z.elim)
  subst hr
  refine wpAny_bind (wpAny_mono h4 (fun _ s5 ⟨x,H5,I5,r5,y5,st5,fr5⟩=>?_) (fun _ _ z=>z.elim))
  have fp5:=fpk fr5
  have I5':=I5.pinned fp5 (T.obj _ _ st5)
  refine wpAny_bind (wpAny_mono (hg _ s5 σ3 H5 x u _ I5' r5 (step x H5 y5)) (fun _ s6 ⟨σ6,H6,I6,q6⟩=>?_) (fun v s z=>(hx v s z).elim))
  refine wpAny_bind (wpAny_mono (hc _ s6 σ6 H6 _ I6 q6) (fun ok s7 ⟨H7,I7,q7⟩=>?_) (fun v s z=>(hx v s z).elim))
  have again:∀ {s8:Shared} {σ8:St} {H8:Hp},Inv Y (((acc,bJ us k)::ps)++gG fp s5.heap) σ8 H8 s8->tn (i+1) s8.heap/\∀ b∈fp,H8 b=none:=fun {s8 σ8 H8} I8=>
   ⟨T.keep _ _ _ st5 fun b hb o e=>(I8.pin (b,o) (List.mem_append_right _ (List.mem_append_right _ (cX hb e)))).1,fun b hb=>by
    obtain ⟨o,e,d⟩:=T.obj _ _ st5 b hb
    exact (I8.pin (b,o) (List.mem_append_right _ (List.mem_append_right _ (cX hb e)))).2.1⟩
  cases ok with
  | false=>
    rw [if_neg Bool.false_ne_true] at q7
    obtain ⟨m',hm,w7⟩:=q7
    obtain ⟨t1,t2⟩:=again I7
    exact wpAny_pure ⟨rfl,m',hm,i+1,ys,us,k,σ6,H7,rv,I7.unpinned,t1,t2,w7⟩
  | true=>
    rw [if_pos rfl] at q7
    refine wpAny_bind (wpAny_bind (wpAny_mono (he _ s7 σ6 H7 _ I7 q7) (fun y s8 ⟨yv,H8,I8,r8,m',hm,w8⟩=>?_) (fun v s z=>(hx v s z).elim)))
    obtain ⟨t1,t2⟩:=again I8
    obtain ⟨e8,n8,l8,f8,d8⟩:=I8.pin (acc,bJ us k) (List.mem_append_right _ (List.mem_append_left _ List.mem_cons_self))
    have hlen:=rv.length
    have hz':us.toArray.size≤sizeLine:=by rw [List.size_toArray];omega
    refine wpAny_bind (call_meets PySem.F.slot_list_append ⟨_,e8,rfl⟩ PySem.F.entry_list_append (PySem.F.args_list_append_2 _ _) (PySem.list_append acc us.toArray k y hz') ⟨e8,?_⟩)
    have q:=PySem.IsL.update e8 (fun z=>z.push y)
    have I9:Inv Y ps σ6 H8 s8:=I8.pins_of fun p hp=>I8.pin p (List.mem_append_right _ (List.mem_append_left _ (List.mem_cons_of_mem _ hp)))
    have I10:=I9.turned (t':=s8.toks) (it:=acc) (h':=s8.heap.update acc (Obj.mapSeq fun z=>z.push y)) (fun b o hb e=>(Heap.get?_update_other s8.heap _ (Ne.symm hb)).trans e) n8 hacc.1 hacc.2.2.1 hacc.2.2.2.1 hacc.2.2.2.2
    have e':(us.toArray.push y)=(us++[y]).toArray:=by simp
    rw [e'] at q
    obtain ⟨k9,ek⟩:∃ k9,k9=(if ((us++[y]).toArray.size == us.toArray.size)=true then k else k+1):=⟨_,rfl⟩
    rw [← ek] at q
    have I11:=I10.pins_of (pins':=(acc,bJ (us++[y]) k9)::ps) fun p hp=>by
     rcases List.mem_cons.mp hp with rfl|hp
     ·exact ⟨q,n8,hacc.1,hacc.2.1,fun v z=>by cases z⟩
     ·exact I10.pin p (List.mem_append_right _ hp)
    refine wpAny_pure (wpAny_pure ⟨rfl,m',hm,i+1,ys++[yv],us++[y],k9,σ6,H8,rv.append (.cons r8 .nil),I11,T.keep _ _ _ t1 fun b hb o e=>?_,t2,w8⟩)
    exact (Heap.get?_update_other s8.heap _ (hfp b hb).2.2.2.2.2.symm).trans e
theorem tL {X:Cx} {scope:Scope} {N':List Str} {cl:List (Str×Addr)} {C acc it:Addr} {s₂:Shared} {H₂:Hp} {fp:List Addr} {tn:Nat->Heap->Prop} {J:It} {g g2:TG} {tt tt2:TT} {wi2:TI} {te:TE} {F:List V->Hp->Prop}
 {elt tg iter tg2 iter2:Expr} {ifs ifs2:List Expr} {pos:Pos} {R:Result->Shared->Prop} (W:Nat->Nat->List V->St->Hp->Prop) (turn:pQ J g tt wi2 g2 tt2 te F W) (T:Turn X.prog X.w X.K tg J fp it tn)
 (hg:PG (aQ X scope N' cl C s₂ H₂ fp) tg g) (hc:jq (aQ X scope N' cl C s₂ H₂ fp) ifs tt) (hi2:PI (aQ X scope N' cl C s₂ H₂ fp) tg2 iter2 wi2) (hs2:∀ x,foldedSetIterable iter2 (compEnvC scope cl C X.env) x=pure x) (hg2:PG (aQ X scope N' cl C s₂ H₂ fp) tg2 g2) (hc2:jq (aQ X scope N' cl C s₂ H₂ fp) ifs2 tt2) (he:PE (aQ X scope N' cl C s₂ H₂ fp) elt te) (hcalm:X.calm=true)
 (hfp:∀ b∈fp,b≠C/\b∉frs X.stack/\(∀ x c,cl.lookup x=some c->c≠b)/\b≠acc) (hacc:acc≠C/\acc∉frs X.stack/\(∀ x c,cl.lookup x=some c->c≠acc)/\s₂.heap.objs.size≤acc)
 (hR:∀ s' σ' H' ys us k,Inv (aQ X scope N' cl C s₂ H₂ fp) [(acc,bJ us k)] σ' H' s'->Vals ys us->F ys H'->R (.ok .next) s')
 {s:Shared} {U:St} {H:Hp} {m:Nat} (I:Inv (aQ X scope N' cl C s₂ H₂ fp) [(acc,bJ [] 0)] U H s) (st:tn 0 s.heap) (fr:∀ b∈fp,H b=none) (w0:W 0 m [] U H) :
 codeAny (model X.prog X.w) X.A (.compLoop (.ListComp elt [⟨tg,iter,ifs,0⟩,⟨tg2,iter2,ifs2,0⟩] scope pos) 0 (.ref it) (.ref acc) (compEnvC scope cl C X.env)) R s:=by
 refine codeAny_loop rfl (fun n s'=>∃ i ys us k σ' H',Vals ys us/\Inv (aQ X scope N' cl C s₂ H₂ fp) [(acc,bJ us k)] σ' H' s'/\tn i s'.heap/\(∀ b∈fp,H' b=none)/\W i n ys σ' H') (fun n s3 hI=>?_) m ⟨0,[],[],0,U,H,.nil,I,st,fr,w0⟩
 obtain ⟨i,ys,us,k,σ3,H3,rv,I3,st3,fr3,w3⟩:=hI
 show wpAny _ X.A ((compTurn (.ListComp elt [⟨tg,iter,ifs,0⟩,⟨tg2,iter2,ifs2,0⟩] scope pos) 0 (.ref it) (.ref acc) (compEnvC scope cl C X.env)).onRaise (fun x=>do noteFrame x (compEnvC scope cl C X.env);theTreesLotGoes x)) _ _ s3
 refine wpAny_noted ?_
 rw [pX]
 have fpk:∀ {Z:List (Addr×Obj)} {H':Hp},(∀ p∈Z,p.1=acc∨p.1∈([]:List Addr))->(∀ b∈fp,H' b=none)->∀ b∈fp,jo (aQ X scope N' cl C s₂ H₂ fp) Z H' b:=fun hp hn b hb=>
  ⟨hn b hb,(hfp b hb).1,(hfp b hb).2.1,.inl hb,(hfp b hb).2.2.1,fun p hp'=>by
   have hp'':p∈([]:List (Addr×Obj))++_:=hp'
   rcases hp p (by simpa using hp'') with z|z
   ·rw [z];exact Ne.symm (hfp b hb).2.2.2
   ·exact (nomatch z)⟩
 have fp1:=fpk (Z:=[(acc,bJ us k)]) (fun p hp=>.inl (by simp at hp;rw [hp])) fr3
 refine wpAny_bind (wpAny_standAt (wpAny_bind ?_))
 rcases turn i n ys σ3 H3 w3 with ⟨stop,qn⟩|⟨go,step⟩
 ·refine wpAny_mono (T.done (aQ X scope N' cl C s₂ H₂ fp) rfl rfl rfl hcalm i _ s3 σ3 H3 (fun _ _=>False) I3 fp1 st3 stop) (fun r s4 ⟨hr,I4⟩=>?_) (fun _ _ z=>z.elim)
  subst hr
  exact wpAny_pure (hR s4 σ3 H3 ys us k I4 rv qn)
 ·refine wpAny_mono (T.item (aQ X scope N' cl C s₂ H₂ fp) rfl rfl rfl hcalm i _ s3 σ3 H3 (fun _ _=>False) I3 fp1 st3 go) (fun r s4 ⟨u,hr,h4⟩=>?_) (fun _ _ z=>z.elim)
  subst hr
  refine wpAny_bind (wpAny_mono h4 (fun _ s5 ⟨x,H5,I5,r5,y5,st5,fr5⟩=>?_) (fun _ _ z=>z.elim))
  have fp5:=fpk (Z:=[(acc,bJ us k)]) (fun p hp=>.inl (by simp at hp;rw [hp])) fr5
  have I5':=I5.pinned fp5 (T.obj _ _ st5)
  refine wpAny_bind (wpAny_mono (hg _ s5 σ3 H5 x u _ I5' r5 (step x H5 y5)) (fun _ s6 ⟨σ6,H6,I6,q6⟩=>?_) (fun _ _ z=>z.elim))
  refine wpAny_bind (wpAny_mono (hc _ s6 σ6 H6 _ I6 q6) (fun ok s7 ⟨H7,I7,q7⟩=>?_) (fun _ _ z=>z.elim))
  have again:∀ {s8:Shared} {σ8:St} {H8:Hp} {us8:List Value} {k8:Nat},Inv (aQ X scope N' cl C s₂ H₂ fp) ((acc,bJ us8 k8)::gG fp s5.heap) σ8 H8 s8->Inv (aQ X scope N' cl C s₂ H₂ fp) [(acc,bJ us8 k8)] σ8 H8 s8/\tn (i+1) s8.heap/\∀ b∈fp,H8 b=none:=fun {s8 σ8 H8 us8 k8} I8=>
   ⟨Inv.unpinned (Z:=[(acc,bJ us8 k8)]) I8,T.keep _ _ _ st5 fun b hb o e=>(I8.pin (b,o) (List.mem_append_right _ (List.mem_cons_of_mem _ (cX hb e)))).1,fun b hb=>by
    obtain ⟨o,e,d⟩:=T.obj _ _ st5 b hb
    exact (I8.pin (b,o) (List.mem_append_right _ (List.mem_cons_of_mem _ (cX hb e)))).2.1⟩
  cases ok with
  | false=>
    rw [if_neg Bool.false_ne_true] at q7
    obtain ⟨m',hm,w7⟩:=q7
    obtain ⟨I7',t1,t2⟩:=again I7
    exact wpAny_pure ⟨rfl,m',hm,i+1,ys,us,k,σ6,H7,rv,I7',t1,t2,w7⟩
  | true=>
    rw [if_pos rfl] at q7
    refine wpAny_bind (wpAny_mono (hi2 _ s7 σ6 H7 _ I7 q7) (fun v s8 h8=>?_) (fun _ _ z=>z.elim))
    refine wpAny_bind (wpAny_standAt ?_)
    rw [hs2 v]
    refine wpAny_bind (wpAny_pure ?_)
    refine wpAny_bind (wpAny_holding (wpAny_mono h8 (fun itv s9 h9=>?_) (fun _ _ z=>z.elim)))
    obtain ⟨it2,fp2,tn2,J2,H9,e9,I9,T2,st9,f9,W2,⟨m2,w2⟩,turn2⟩:=h9
    subst e9
    have loop:∀ Q:Flow->Shared->Prop,(∀ s10,(∃ m',m'<n/\∃ i ys us k σ' H',Vals ys us/\Inv (aQ X scope N' cl C s₂ H₂ fp) [(acc,bJ us k)] σ' H' s10/\tn i s10.heap/\(∀ b∈fp,H' b=none)/\W i m' ys σ' H')->Q .next s10)->
     codeAny (model X.prog X.w) X.A (.compLoop (.ListComp elt [⟨tg,iter,ifs,0⟩,⟨tg2,iter2,ifs2,0⟩] scope pos) 1 (.ref it2) (.ref acc) (compEnvC scope cl C X.env)) (fun r s'=>match r with|.ok f=>Q f s'|.error e=>cameBackBy (model X.prog X.w) X.A (compEnvC scope cl C X.env) (notedBy (model X.prog X.w) X.A (compEnvC scope cl C X.env) fun x s'=>R (.error x) s') e s') s9:=by
     intro Q hQ
     refine uF (Y:=aQ X scope N' cl C s₂ H₂ fp) (ps:=gG fp s5.heap) W2 turn2 T2 hg2 hc2 he hcalm (fun _ _ z=>z) (fun b hb=>?_) ⟨hacc.1,hacc.2.1,.inr hacc.2.2.2,hacc.2.2.1,fun p hp z=>?_⟩ (fun s' σ' H' ys' us' k' I' rv' q'=>?_) rv I9 st9 (fun b hb=>(f9 b hb).1) w2
     ·obtain ⟨_,a1,a2,a3,a4,a5⟩:=f9 b hb
      refine ⟨a1,a2,a3,a4,fun p hp=>?_,fun z=>?_⟩
      ·rcases List.mem_append.mp hp with y|y
       ·exact a5 p (List.mem_append_left _ y)
       ·exact a5 p (List.mem_append_right _ (List.mem_cons_of_mem _ y))
      ·exact a5 (acc,bJ us k) (List.mem_append_right _ List.mem_cons_self) z.symm
     ·have hp':p∈([]:List (Addr×Obj))++gG fp s5.heap:=hp
      rw [List.nil_append] at hp'
      obtain ⟨hb,_⟩:=oW hp'
      exact (hfp _ hb).2.2.2 z
     ·obtain ⟨m',hm,w'⟩:=q'
      obtain ⟨I8',t1,t2⟩:=again I'
      exact hQ s' ⟨m',hm,i+1,ys',us',k',σ',H',rv',I8',t1,t2,w'⟩
    refine wpAny_bind (wpAny_runOwn (j8 (loop _ fun s10 q=>?_) (T2.self _ 0 _ _ _ st9 (loop _ fun s10 q=>?_))))
    ·obtain ⟨m',hm,q⟩:=q
     exact wpAny_pure ⟨rfl,m',hm,q⟩
    ·obtain ⟨m',hm,q⟩:=q
     exact wpAny_pure ⟨rfl,m',hm,q⟩
def Hb (wi:TI) (g:TG) (tt:TT) (wi2:TI) (g2:TG) (tt2:TT) (te:TE) (k:Nat) (js:List Nat):TE:=fun U H Q=>wi U H fun J H1=>∃ W:Nat->Nat->List V->St->Hp->Prop,(∃ m,W 0 m [] (dH k js U) H1)/\
 pQ J g tt wi2 g2 tt2 te (fun ys H2=>ys.length≤sizeLine/\∀ p,H2 p=none->Q (.ref p) (upd H2 p (.lst ys))) W
section
variable {X:Cx} {scope:Scope} {own:List Str} {js:List Nat} {N':List Str} {wi wi2:TI} {g g2:TG} {tt tt2:TT} {te:TE} {elt tg iter tg2 iter2:Expr} {ifs ifs2:List Expr} {pos:Pos}
theorem wQ {Z:List (Addr×Obj)} {U:St} {H:Hp} {s:Shared} {it:Addr} {fp:List Addr} {tn:Nat->Heap->Prop} {J:It} {cl:List (Str×Addr)} {F:List V->Hp->Prop} {E:Value->Shared->Prop} {RR:Value->Addr->Result->Shared->Prop}
 (S:bw X scope own js N') (hcalm:X.calm=true) (hg:∀ cl C s₀ H₀ ex,PG (aQ X scope N' cl C s₀ H₀ ex) tg g) (hc:∀ cl C s₀ H₀ ex,jq (aQ X scope N' cl C s₀ H₀ ex) ifs tt) (hi2:∀ cl C s₀ H₀ ex,PI (aQ X scope N' cl C s₀ H₀ ex) tg2 iter2 wi2) (hs2:∀ env x,foldedSetIterable iter2 env x=pure x) (hg2:∀ cl C s₀ H₀ ex,PG (aQ X scope N' cl C s₀ H₀ ex) tg2 g2) (hc2':∀ cl C s₀ H₀ ex,jq (aQ X scope N' cl C s₀ H₀ ex) ifs2 tt2) (he:∀ cl C s₀ H₀ ex,PE (aQ X scope N' cl C s₀ H₀ ex) elt te)
 (hc1:∀ x c,cl.lookup x=some c->X.env.cells.lookup x=some c) (hc2:∀ x,(x,NameKind.free)∈scope.names->∃ c,cl.lookup x=some c)
 (I:Inv X Z U H s) (T:Turn X.prog X.w X.K tg J fp it tn) (st:tn 0 s.heap) (hf:∀ b∈fp,jo X Z H b) (W:Nat->Nat->List V->St->Hp->Prop) {m0:Nat} (w0:W 0 m0 [] (dH own.length js U) H) (turn:pQ J g tt wi2 g2 tt2 te F W)
 (hF:∀ ys H',F ys H'->ys.length≤sizeLine)
 (fin:∀ acc C H' ys s' m,Inv X Z U (upd H' acc (.lst ys)) s'->H' acc=none->s'.heap.Ns C m->(upd H' acc (.lst ys)) C=none->C≠X.env.locals->X.s₀.heap.objs.size≤C->(∀ x c,X.env.cells.lookup x=some c->c≠C)->(∀ p∈X.pn++Z,p.1≠C)->F ys H'->RR (.ref acc) C (.ok .next) s') :
 wpAny (model X.prog X.w) X.A (newList []) (fun acc s₃=>wpAny (model X.prog X.w) X.A (newFunctionEnv scope X.env.globals cl [] X.env.qual none .none (some X.env)) (fun cenv s₄=>
  codeAny (model X.prog X.w) X.A (.compStart (.ListComp elt [⟨tg,iter,ifs,0⟩,⟨tg2,iter2,ifs2,0⟩] scope pos) 0 (.ref it) acc { cenv with scope:=relabel scope X.env }) (RR acc cenv.locals) s₄) E s₃) E s:=by
 refine wpAny_newObj_type (wpAny_newFunctionEnv S.nocell (by intro y hy;simp at hy) (fun h₁ hns₁ hsb₁=>?_) S.kind)
 dsimp only at hns₁ hsb₁ ⊢
 generalize hH2:s.heap.push { cls:=.type "list",dict:=none,data:=.seq ([]:List Value).toArray }=H2 at hns₁ hsb₁ ⊢
 have hC:H2.objs.size=s.heap.objs.size+1:=by rw [← hH2,Heap.size_push]
 have hDC:s.heap.objs.size≠H2.objs.size:=by rw [hC];exact Nat.ne_of_lt (Nat.lt_succ_self _)
 have hCle:s.heap.objs.size≤H2.objs.size:=by rw [hC];exact Nat.le_succ _
 have below:∀ b,b<s.heap.objs.size->b≠H2.objs.size/\b≠s.heap.objs.size:=fun b hb=>⟨by rw [hC];exact Nat.ne_of_lt (Nat.lt_succ_of_lt hb),Nat.ne_of_lt hb⟩
 have old:∀ b o,s.heap.get? b=some o->h₁.get? b=some o:=fun b o e=>hsb₁.extBut b o (below b (Heap.lt_size e)).1 (Heap.get?_push_of_some _ (hH2 ▸ Heap.get?_push_of_some _ e))
 have hacc:h₁.get? s.heap.objs.size=some (bJ [] 0):=hsb₁.extBut _ _ hDC (Heap.get?_push_of_some _ (hH2 ▸ Heap.get?_push_size _ rfl))
 generalize hCn:H2.objs.size=C at *
 generalize hAn:s.heap.objs.size=acc at *
 have cellLt:∀ x c,X.env.cells.lookup x=some c->c<acc:=fun x c e=>by
  obtain ⟨v,q⟩:=I.cell x c e
  rw [← hAn];exact q.lt
 have pinLt:∀ p∈X.pn++Z,p.1<acc:=fun p hp=>by rw [← hAn];exact Heap.lt_size (I.pin p hp).1
 have stkLt:∀ b∈frs X.stack,b<acc:=fun b hb=>by
  obtain ⟨_,o,ho,_⟩:=I.stack.mem hb
  rw [← hAn];exact Heap.lt_size ho
 have fpLt:∀ b∈fp,b<acc:=fun b hb=>by
  obtain ⟨o,e,_⟩:=T.obj _ _ st b hb
  rw [← hAn];exact Heap.lt_size e
 have hHC:H C=none:=I.hok.fresh (by rw [hAn];exact hCle)
 have hHA:H acc=none:=I.hok.fresh (by rw [hAn];exact Nat.le_refl _)
 have I1:Inv (aQ X scope N' cl C s H fp) [] (dH own.length js U) H { s with heap:=h₁,toks:=s.toks+([]:List (Str×Value)).length }:=
  Inv.comp S I hc1 hc2 (by rw [hAn];exact hCle) hns₁ old (fun b hb=>⟨hf b hb,by rw [hAn];exact fpLt b hb⟩) hHC fun b o e=>(below b (by rw [← hAn];exact Heap.lt_size e)).1
 have I2:Inv (aQ X scope N' cl C s H fp) [(acc,bJ [] 0)] (dH own.length js U) H { s with heap:=h₁,toks:=s.toks+([]:List (Str×Value)).length }:=I1.pins_of fun p hp=>by
  obtain rfl:p=(acc,bJ [] 0):=by simpa using hp
  exact ⟨hacc,hHA,hDC,fun z=>absurd (stkLt acc z) (Nat.lt_irrefl _),fun v z=>by cases z⟩
 have st1:tn 0 h₁:=T.keep _ _ _ st fun b hb o e=>old b o e
 have loop:∀ s₃:Shared,s₃={ s with heap:=h₁,toks:=s.toks+([]:List (Str×Value)).length }->
  codeAny (model X.prog X.w) X.A (.compLoop (.ListComp elt [⟨tg,iter,ifs,0⟩,⟨tg2,iter2,ifs2,0⟩] scope pos) 0 (.ref it) (.ref acc) (compEnvC scope cl C X.env)) (RR (.ref acc) C) s₃:=by
  rintro s₃ rfl
  refine tL W turn T (hg _ _ _ _ _) (hc _ _ _ _ _) (hi2 _ _ _ _ _) (hs2 _) (hg2 _ _ _ _ _) (hc2' _ _ _ _ _) (he _ _ _ _ _) hcalm
   (fun b hb=>⟨(below b (fpLt b hb)).1,fun z=>?_,fun x c e z=>(hf b hb).2.2.2.2.1 x c (hc1 x c e) z,(below b (fpLt b hb)).2⟩)
   ⟨hDC,fun z=>absurd (stkLt acc z) (Nat.lt_irrefl _),fun x c e z=>absurd (cellLt x c (hc1 x c e)) (by rw [z];exact Nat.lt_irrefl _),by rw [hAn];exact Nat.le_refl _⟩ ?_ I2 st1 (fun b hb=>(hf b hb).1) w0
  ·rcases List.mem_cons.mp (I.stkSub b z) with q|q
   ·exact (hf b hb).2.1 q
   ·exact (hf b hb).2.2.1 q
  ·intro s' σ' H' ys us k J' rv q
   obtain ⟨e',n',l',f',d'⟩:=J'.pin (acc,bJ us k) (List.mem_append_right _ List.mem_cons_self)
   have n'':H' acc=none:=n'
   obtain ⟨m,hm,_⟩:=J'.loc
   have oldLt:∀ b o,s.heap.get? b=some o->b<acc:=fun b o e=>by rw [← hAn];exact Heap.lt_size e
   have neA:∀ b o,s.heap.get? b=some o->b≠acc:=fun b o e=>Nat.ne_of_lt (oldLt b o e)
   have un:Un (frs X.stack) fp H (upd H' acc (.lst ys)) s.heap s'.heap:=⟨J'.base.keep,J'.base.slot,fun b o e n hx=>by rw [aJ (neA b o e)];exact J'.base.free b o e n hx,J'.base.there,
    fun b xs e=>by
     have z:=J'.base.tups b xs e
     rw [aJ (aO z n'')];exact z,
    fun b o u e=>by
     have z:=J'.base.frzs b o u e
     rw [aJ (aO z n'')];exact z,
    fun b ps e=>by
     obtain ⟨more,z⟩:=J'.base.tbls b ps e
     exact ⟨more,by rw [aJ (aO z n'')];exact z⟩⟩
   have hok:iR X.prog X.w (upd H' acc (.lst ys)) s'.heap:=fun b u e=>by
    by_cases hb:b=acc
    ·subst hb
     rw [ak] at e;cases e
     exact ⟨hF _ _ q,us,k,rv,e'⟩
    ·rw [aJ hb] at e
     exact (J'.hok b u e).stay (fun c v _ z=>z) (fun c z=>by rw [aJ (aO z n'')];exact z) fun c xs z=>by rw [aJ (aO z n'')];exact z
   have IX:Inv X Z U (upd H' acc (.lst ys)) s':=I.call' J'.os un hok J'.bare fun b hb=>⟨(hf b hb).2.2.2.1,(hf b hb).2.1,(hf b hb).2.2.2.2.1,(hf b hb).2.2.2.2.2⟩
   refine fin acc C H' ys s' m IX n'' hm ?_ ?_ ?_ ?_ ?_ q
   ·rw [aJ (Ne.symm hDC)];exact J'.free
   ·exact Nat.ne_of_gt (Nat.lt_of_lt_of_le I.lt (by rw [hAn];exact hCle))
   ·exact Nat.le_trans I.sz (by rw [hAn];exact hCle)
   ·exact fun x c e z=>absurd (Nat.lt_of_lt_of_le (cellLt x c e) hCle) (by rw [z];exact Nat.lt_irrefl _)
   ·exact fun p hp z=>absurd (Nat.lt_of_lt_of_le (pinLt p hp) hCle) (by rw [z];exact Nat.lt_irrefl _)
 exact codeAny_compStart_list (loop _ rfl) (T.self _ 0 _ _ _ st1 (loop _ rfl))
theorem rP {i:Nat} {x:Str} {pos' spos:Pos} (S:bw X scope own js N') (hcalm:X.calm=true) (hN:X.N.Nodup) (hx:X.N[i]?=some x) (hk:X.env.scope.names.lookup x=some .local) (hi:PI X tg iter wi) (hg:∀ cl C s₀ H₀ ex,PG (aQ X scope N' cl C s₀ H₀ ex) tg g) (hc:∀ cl C s₀ H₀ ex,jq (aQ X scope N' cl C s₀ H₀ ex) ifs tt)
 (hi2:∀ cl C s₀ H₀ ex,PI (aQ X scope N' cl C s₀ H₀ ex) tg2 iter2 wi2) (hs2:∀ env x,foldedSetIterable iter2 env x=pure x) (hg2:∀ cl C s₀ H₀ ex,PG (aQ X scope N' cl C s₀ H₀ ex) tg2 g2) (hc2':∀ cl C s₀ H₀ ex,jq (aQ X scope N' cl C s₀ H₀ ex) ifs2 tt2) (he:∀ cl C s₀ H₀ ex,PE (aQ X scope N' cl C s₀ H₀ ex) elt te) (hsw:swapsWith (.ListComp elt [⟨tg,iter,ifs,0⟩,⟨tg2,iter2,ifs2,0⟩] scope pos) (some (.Name x pos')) spos.line X.env=pure true:=by rfl) (hs:∀ x,foldedSetIterable iter X.env x=pure x:=by intro _;rfl) :
 PS X (.Assign [.Name x pos'] (.ListComp elt [⟨tg,iter,ifs,0⟩,⟨tg2,iter2,ifs2,0⟩] scope pos) spos) (Dz (Hb wi g tt wi2 g2 tt2 te own.length js) (bH i)):=by
 intro Z s U H D I h
 obtain ⟨cl,hcl,hc1,hc2⟩:=iH (env:=X.env) scope fun y hy hk=>I.ok.has y.1 (S.free y hy hk)
 rw [exec_Assign_Name_used _ _ _ _ hsw]
 refine wpAny_bind (wpAny_standAt (wpAny_bind ?_))
 show wpAny _ X.A (do let _ ← comprehension (.ListComp elt [⟨tg,iter,ifs,0⟩,⟨tg2,iter2,ifs2,0⟩] scope pos) scope X.env _ (newList []) false (eval iter X.env) (some (assign (.Name x pos') X.env))) _ _ s
 refine wpAny_bind (wpAny_mono (wpAny_comprehension_free (use:=some (assign (.Name x pos') X.env)) (Q:=fun _ s'=>SP X Z D .next s') rfl hs hcl S.kind S.names
  (cz (hi Z s U H _ I h) fun v s1 h1=>cz h1 fun itv s2 h2=>?_)) (fun _ s' hq=>wpAny_pure (wpAny_pure hq)) fun _ _ e=>e)
 obtain ⟨it,fp,tn,J,H2,e,I2,T,st2,f2,W,⟨m0,w0⟩,turn⟩:=h2
 subst e
 refine wQ (RR:=fun acc C=>compPost (model X.prog X.w) X.A X.xe (some (assign (.Name x pos') X.env)) (fun _ s'=>SP X Z D .next s') acc C) S hcalm hg hc hi2 hs2 hg2 hc2' he hc1 hc2 I2 T st2 f2 W w0 turn (fun ys H' q=>q.1) ?_
 intro acc C H' ys s' m IX na hm hCn hL hz hcn hpn q
 show wpAny _ X.A (assign (.Name x pos') X.env (.ref acc)) _ _ s'
 refine wpAny_assign_Name (lC IX hN hx (.inl hk) (v:=.ref acc) rfl (fun s'' I'' hsb=>?_) (.inr hk))
 obtain ⟨a,hsb,ha⟩:=hsb
 have haC:C≠a:=by
  rcases ha with z|z
  ·rw [z];exact hL
  ·exact fun q=>hcn x a z q.symm
 refine ⟨m,hm.sameBut hsb haC,fun h' hs'=>⟨_,_,?_,q.2 acc na⟩⟩
 exact I''.turned (t':=s''.toks) (it:=C) (fun b o hb e=>(hs'.2 b hb).trans e) hCn hL (.inr hz) hcn hpn
end
theorem jD:∀ {us:List Value} {ns:List Int},IntsAre us ns->Vals (ns.map V.int) us
 |_,_,.nil=>.nil
 |_,_,.cons n t h=>.cons ⟨t,rfl⟩ (jD h)
section
variable {X:Cx}
end
section
variable {prog:Program} {w:World} {A:Around} {R:Result->Shared->Prop} {I:Addr} {fp wr:List Addr} {n:Nat} {P:Nat->Value->Prop} {St:Nat->Heap->Prop}
end
section
variable {prog:Program} {w:World} {A:Around} {E:Value->Shared->Prop} {s:Shared} {l:Addr} {xs:Array (Int×Tok)}
end
section
variable {X:Cx}
end
section
variable {X:Cx} {scope:Scope} {own:List Str} {js:List Nat} {N':List Str} {wi:TI} {g:TG} {tt:TT} {te:TE} {tf:St->TE} {elt tg iter:Expr} {ifs:List Expr} {pos:Pos}
end
end L2
namespace L2
open PySem PySem.Spec PyProof.Rows PySem.SeqAt
section
variable {prog:Program} {w:World} {A:Around} {E:Value->Shared->Prop} {s:Shared} {l:Addr} {x y z:Value}
end
section
variable {X:Cx} {pos:Pos}
end
section
variable {X:Cx}
end
section
variable {X:Cx} {CX:nH} {k:Nat} {f C:Addr} {fd:FuncData} {ps ks:List Str} {sp:Sp} {E:XK} {m:Str} {pos apos:Pos} {o:Expr} {kws:List Keyword} {ta:TE} {tk:TA} {g:List Value->List Value->List Value} {gV:List V->List V->List V}
end
section
variable {prog:Program} {w:World} {A:Around} {R:Result->Shared->Prop} {I:Addr} {fp wr:List Addr} {G:Array GenState->Array GenState->Prop} {n:Nat} {P:Nat->Value->Prop} {St:Nat->Shared->Prop}
end
section
open PySem.F
variable {prog:Program} {w:World} {A:Around} {E:Value->Shared->Prop} {s:Shared}
end
section
variable {X:Cx}
end
section
variable {prog:Program} {w:World} {A:Around} {E:Value->Shared->Prop} {s:Shared} {K:Type} [DecidableEq K] {knd:KeyKind prog w K}
end
section
variable {X:Cx}
end
def qO (xs:Array Nat):Prop:=∀ i j a b:Nat,i<j->xs[i]?=some a->xs[j]?=some b->a<b
theorem nO {xs:Array Nat} {j:Nat} (R:qO xs):∀ (f lo hi:Nat),lo≤hi->hi≤xs.size->hi-lo≤f->(∀ i a,i<lo->xs[i]?=some a->a<j)->(∀ i a,hi≤i->xs[i]?=some a->j≤a)->
 SetTable.below.go xs j f lo hi≤xs.size/\(∀ i a,i<SetTable.below.go xs j f lo hi->xs[i]?=some a->a<j)/\∀ i a,SetTable.below.go xs j f lo hi≤i->xs[i]?=some a->j≤a
 | 0,lo,hi,h1,h2,h3,a1,a2=>by
   have e:lo=hi:=by omega
   subst e
   exact ⟨h2,a1,a2⟩
 | f+1,lo,hi,h1,h2,h3,a1,a2=>by
   unfold SetTable.below.go
   split
   ·rename_i hlt
    have hm:(lo+hi) / 2<xs.size:=by omega
    have eg:xs[(lo+hi) / 2]?=some (xs.getD ((lo+hi) / 2) j):=by rw [Array.getD_eq_getD_getElem?,Array.getElem?_eq_getElem hm];rfl
    dsimp only
    generalize xs.getD ((lo+hi) / 2) j=y at eg ⊢
    by_cases hs:y<j
    ·simp only [if_pos hs]
     refine nO R f ((lo+hi) / 2+1) hi (by omega) h2 (by omega) (fun i a hi' e=>?_) a2
     by_cases q:i=(lo+hi) / 2
     ·subst q;rw [eg] at e;cases e;exact hs
     ·exact Nat.lt_trans (R i ((lo+hi) / 2) a _ (by omega) e eg) hs
    ·simp only [if_neg hs]
     refine nO R f lo ((lo+hi) / 2) (by omega) (by omega) (by omega) a1 (fun i a hi' e=>?_)
     by_cases q:i=(lo+hi) / 2
     ·subst q;rw [eg] at e;cases e;omega
     ·exact Nat.le_trans (Nat.not_lt.mp hs) (Nat.le_of_lt (R ((lo+hi) / 2) i _ a (by omega) eg e))
   ·rename_i hlt
    have e:lo=hi:=by omega
    subst e
    exact ⟨h2,a1,a2⟩
theorem q_ {xs:Array Nat} {j:Nat} (R:qO xs):SetTable.below xs j≤xs.size/\(∀ i a,i<SetTable.below xs j->xs[i]?=some a->a<j)/\∀ i a,SetTable.below xs j≤i->xs[i]?=some a->j≤a:=
 nO R _ _ _ (Nat.zero_le _) (Nat.le_refl _) (by omega) (fun i a h=>by omega) fun i a h e=>by
  have:=(Array.getElem?_eq_some_iff.mp e).1
  omega
theorem xj {α:Type} {xs:Array α} {p:Nat} {x:α} (hp:p≤xs.size) (i:Nat):(SetTable.insertAt xs p x)[i]?=if i<p then xs[i]? else if i=p then some x else xs[i-1]?:=by
 obtain ⟨l⟩:=xs
 simp only [List.size_toArray] at hp
 unfold SetTable.insertAt
 simp only [List.extract_toArray,List.push_toArray,List.append_toArray,List.getElem?_toArray,List.size_toArray]
 simp only [List.extract_eq_drop_take,Nat.sub_zero,List.drop_zero]
 by_cases h1:i<p
 ·rw [if_pos h1,List.append_assoc,List.getElem?_append_left (by rw [List.length_take];omega),List.getElem?_take,if_pos h1]
 ·rw [if_neg h1,List.append_assoc,List.getElem?_append_right (by rw [List.length_take];omega),List.length_take,Nat.min_eq_left hp]
  by_cases h2:i=p
  ·subst h2;rw [if_pos rfl];simp
  ·rw [if_neg h2]
   obtain ⟨k,hk⟩:∃ k,i-p=k+1:=⟨i-p-1,by omega⟩
   rw [hk]
   simp only [List.singleton_append,List.getElem?_cons_succ]
   rw [List.getElem?_take]
   by_cases h3:k<l.length-p
   ·rw [if_pos h3,List.getElem?_drop];congr 1;omega
   ·rw [if_neg h3,eq_comm,List.getElem?_eq_none_iff];omega
theorem qO.ins {xs:Array Nat} {j:Nat} (R:qO xs) (hj:(xs[SetTable.below xs j]? == some j)=false):qO (SetTable.insertAt xs (SetTable.below xs j) j):=by
 obtain ⟨b1,b2,b3⟩:=q_ (j:=j) R
 have b4:∀ i a,SetTable.below xs j≤i->xs[i]?=some a->j<a:=fun i a h e=>by
  rcases Nat.lt_or_eq_of_le (b3 i a h e) with z|z
  ·exact z
  ·subst z
   rcases Nat.lt_or_eq_of_le h with q|q
   ·have hb:SetTable.below xs j<xs.size:=Nat.lt_of_lt_of_le q (Nat.le_of_lt (Array.getElem?_eq_some_iff.mp e).1)
    have:=R _ i _ _ q (Array.getElem?_eq_getElem hb) e
    have:=b3 _ _ (Nat.le_refl _) (Array.getElem?_eq_getElem hb)
    omega
   ·rw [← q] at e
    rw [e] at hj
    simp at hj
 intro i k a b hik e1 e2
 rw [xj b1] at e1 e2
 by_cases c1:i<SetTable.below xs j
 ·rw [if_pos c1] at e1
  by_cases c2:k<SetTable.below xs j
  ·rw [if_pos c2] at e2;exact R i k a b hik e1 e2
  ·rw [if_neg c2] at e2
   by_cases c3:k=SetTable.below xs j
   ·rw [if_pos c3] at e2;cases e2;exact b2 i a c1 e1
   ·rw [if_neg c3] at e2
    exact Nat.lt_trans (b2 i a c1 e1) (b4 _ b (by omega) e2)
 ·rw [if_neg c1] at e1
  rw [if_neg (by omega),if_neg (by omega)] at e2
  by_cases c3:i=SetTable.below xs j
  ·rw [if_pos c3] at e1;cases e1;exact b4 _ b (by omega) e2
  ·rw [if_neg c3] at e1
   exact R _ _ a b (by omega) e1 e2
theorem wW {l:List Nat} (h:l.Pairwise (·<·)):qO l.toArray:=fun i j a b hij e1 e2=>by
 rw [List.getElem?_toArray] at e1 e2
 obtain ⟨h1,rfl⟩:=List.getElem?_eq_some_iff.mp e1
 obtain ⟨h2,rfl⟩:=List.getElem?_eq_some_iff.mp e2
 exact List.pairwise_iff_getElem.mp h i j h1 h2 hij
structure oA (led:Bool) (t:SetTable):Prop where
 rise:qO t.place
 dum:t.dummies=#[]
 led:t.led=led
theorem oA.fresh {b:Bool}:oA b (.fresh 0 0 b):=⟨fun i j a c _ e=>by simp [SetTable.fresh] at e,rfl,rfl⟩
theorem oA.standIn {b:Bool} {t:SetTable} {n:Nat} (g:oA b t):oA b (t.standIn n):=
 ⟨fun i j a c h e1 e2=>by
  unfold SetTable.standIn at e1 e2
  dsimp only at e1 e2
  obtain ⟨_,rfl⟩:=Array.getElem?_eq_some_iff.mp e1
  obtain ⟨_,rfl⟩:=Array.getElem?_eq_some_iff.mp e2
  simpa using h,rfl,g.led⟩
theorem oA.orStandIn {b:Bool} {t:SetTable} {n:Nat} (g:oA b t):oA b (t.orStandIn n):=by
 unfold SetTable.orStandIn
 split
 ·exact g
 ·exact g.standIn
theorem oA.has {b:Bool} {t:SetTable} (g:oA b t) (j:Nat):SetTable.has t.dummies j=false:=by rw [g.dum];simp [SetTable.has]
theorem oA.probe {b:Bool} {t:SetTable} (g:oA b t) {ha:Nat->Int} {h:Int}:∀ (f:Nat) (p:SetTable.Probe) (j:Nat) (d:Option Nat),p.dummy=none->SetTable.probe.go t ha h f p=some (.empty j d)->d=none/\(t.place[SetTable.below t.place j]? == some j)=false
 |0,p,j,d,hp,e=>by simp [SetTable.probe.go] at e
 | f+1,p,j,d,hp,e=>by
   have adv:(t.advance p).dummy=none:=by unfold SetTable.advance;split <;> exact hp
   unfold SetTable.probe.go at e
   have sl:t.slot p.j=if t.place[SetTable.below t.place p.j]? == some p.j then .live (SetTable.below t.place p.j) else .empty:=by
    unfold SetTable.slot
    rw [g.has]
    rfl
   by_cases q:(t.place[SetTable.below t.place p.j]? == some p.j)=true
   ·rw [if_pos q] at sl
    rw [sl] at e
    dsimp only at e
    split at e
    ·cases e
    ·exact g.probe f _ j d adv e
   ·rw [if_neg q] at sl
    rw [sl] at e
    cases e
    exact ⟨hp,by simpa using q⟩
theorem oA.layNew {b:Bool} {t:SetTable} (g:oA b t) (es:Array (Int×Value)) (h:Int) (x:Value):oA b (layNew t es h x).2.1:=by
 unfold PySem.layNew
 split
 ·rename_i sl wd e
  refine oA.orStandIn ?_
  have:(t.place[SetTable.below t.place sl]? == some sl)=false:=by
   unfold SetTable.freeSlot at e
   split at e
   ·rename_i j d ep
    obtain ⟨rfl,q⟩:=g.probe _ _ j d rfl ep
    cases e
    exact q
   ·cases e
  refine ⟨g.rise.ins this,?_,g.led⟩
  show (if SetTable.has t.dummies sl then _ else t.dummies)=#[]
  rw [g.has,if_neg (by simp),g.dum]
 ·exact g.standIn
theorem oA.relayAll {b:Bool} {t:SetTable} (g:oA b t) (es:Array (Int×Value)) (n:Nat):oA b (relayAll t es n).2.1:=by
 unfold PySem.relayAll
 split
 ·rename_i t' od e
  dsimp only
  split
  ·unfold SetTable.relaid SetTable.laid at e
   rw [Option.bind_eq_bind,Option.bind_eq_some_iff] at e
   obtain ⟨ow,_,e⟩:=e
   cases e
   refine ⟨wW ?_,rfl,g.led⟩
   rw [List.pairwise_map,List.pairwise_filterMap]
   refine List.Pairwise.imp ?_ List.pairwise_lt_range
   intro a c hac x hx y hy
   obtain ⟨_,_,rfl⟩:=Option.map_eq_some_iff.mp hx
   obtain ⟨_,_,rfl⟩:=Option.map_eq_some_iff.mp hy
   exact hac
  ·exact g.standIn
 ·exact g.standIn
abbrev sE (w:World):Bool:=w.params.followText "set-order"
def jm (P:Program) (w:World) (h:Heap) (a:Addr) (ns:List Int):Prop:=
 ∃ o es ep t,h.get? a=some o/\o.ExactSet/\o.data=.set es ep t/\ElemsOf (intKind P w) es.toList/\(es.toList.map fun e=>numOf e.2).Perm ns/\es.size<scanBound/\t.fits es.size=true/\oA (!sE w) t
def adj (ns:List Int) (k:Int):List Int:=if k∈ns then ns else ns++[k]
def dd (ns:List Int):List Int:=ns.foldl adj []
theorem Ao (ns:List Int) (k:Int):dd (ns++[k])=adj (dd ns) k:=by unfold dd;rw [List.foldl_append];rfl
theorem rF:∀ (ns ms:List Int) (x:Int),x∈ns.foldl adj ms↔x∈ms∨x∈ns
 |[],ms,x=>by simp
 | n::r,ms,x=>by
   rw [List.foldl_cons,rF r _ x]
   unfold adj
   split <;> simp only [List.mem_append,List.mem_cons,List.mem_singleton,List.not_mem_nil,or_false]
   ·rename_i h
    constructor
    ·rintro (a|a)
     ·exact .inl a
     ·exact .inr (.inr a)
    ·rintro (a|rfl|a)
     ·exact .inl a
     ·exact .inl h
     ·exact .inr a
   ·rw [or_assoc]
theorem mY:∀ (ns ms:List Int),ms.Nodup->(ns.foldl adj ms).Nodup
 |[],ms,h=>h
 | n::r,ms,h=>by
   rw [List.foldl_cons]
   refine mY r _ ?_
   unfold adj
   split
   ·exact h
   ·rename_i q
    rw [List.nodup_append]
    exact ⟨h,by simp,fun a ha b hb=>by simp at hb;subst hb;exact fun e=>q (e ▸ ha)⟩
theorem qY:∀ (ns ms:List Int),(ns.foldl adj ms).length≤ms.length+ns.length
 |[],ms=>Nat.le_refl _
 | n::r,ms=>by
   rw [List.foldl_cons]
   refine Nat.le_trans (qY r _) ?_
   unfold adj
   split <;> simp <;> omega
theorem Dt {ns:List Int} {x:Int}:x∈dd ns↔x∈ns:=by unfold dd;rw [rF];simp
theorem yJ (ns:List Int):(dd ns).Nodup:=mY ns [] .nil
theorem yK (ns:List Int):(dd ns).length≤ns.length:=by have:=qY ns [];simpa [dd] using this
section
variable {P:Program} {w:World} {A:Around} {E:Value->Shared->Prop} {s:Shared} {a:Addr} {ns:List Int}
theorem zH {k:Int} {v:Value} (h:(intKind P w).is k v=true):numOf v=k:=by obtain ⟨t,rfl⟩:=Value.isInt_shape h;rfl
theorem jm.at {h h':Heap} (g:jm P w h a ns) (e:∀ o,h.get? a=some o->h'.get? a=some o):jm P w h' a ns:=
 let ⟨o,es,ep,t,ho,r⟩:=g;⟨o,es,ep,t,e _ ho,r⟩
theorem vD {h:Heap} {o:Obj} {es es':Array (Int×Value)} {ep:Nat} {t t':SetTable} (ho:h.get? a=some o) (hd:o.data=.set es ep t) :
 (h.update a (Obj.putSet es' t')).get? a=some { o with data:=.set es' (ep+1) t' }:=by
 have e:=Heap.get?_update_self (Obj.putSet es' t') ho (by rw [putSet_of es' t' hd];rfl)
 rwa [putSet_of es' t' hd] at e
theorem Le {k:Int} {tk:Tok} {Q:Bool->Shared->Prop} (hS:jm P w s.heap a ns) (hr:ns.length+1<scanBound) (h:∀ b h',Heap.SameBut a s.heap h'->jm P w h' a (adj ns k)->Q b { s with heap:=h' }) :
 wpAny (model P w) A (setAddHashed a (.int k tk) ((intKind P w).hash k)) Q E s:=by
 obtain ⟨o,es,ep,t,ho,hex,hd,hel,hp,hb,hf,tg⟩:=hS
 have hkey:=intKind_is P w k tk
 have hsz:es.size=ns.length:=by rw [← Array.length_toList,← hp.length_eq,List.length_map]
 unfold setAddHashed setAddHashedIn
 refine wpAny_holding (wpAny_bind (wpAny_setState_of ho hd hf ?_))
 dsimp only
 rw [byScan_of rfl hb hel]
 simp only [↓reduceIte]
 unfold setAddByScan
 refine wpAny_bind (wpAny_bind (wpAny_rule (wpAny_bind (wpAny_setScan_of hkey ho hd hf hel ?_))))
 cases hr':List.findIdx? (fun e=>(intKind P w).is k e.2) es.toList with
 | some j=>
   obtain ⟨hj,hpj,_⟩:=List.findIdx?_eq_some_iff_getElem.mp hr'
   have hm:k∈ns:=hp.mem_iff.mp (List.mem_map.mpr ⟨_,List.getElem_mem hj,zH hpj⟩)
   dsimp only
   refine wpAny_pure (wpAny_pure ?_)
   exact h false s.heap (Heap.SameBut.refl a s.heap) (by unfold adj;rw [if_pos hm];exact ⟨o,es,ep,t,ho,hex,hd,hel,hp,hb,hf,tg⟩)
 | none=>
   have hm:k∉ns:=fun hk=>by
    obtain ⟨e,he,hn⟩:=List.mem_map.mp (hp.mem_iff.mpr hk)
    obtain ⟨⟨k',hk',_⟩,_⟩:=hel e he
    have e1:=zH hk'
    have e2:=List.findIdx?_eq_none_iff.mp hr' e he
    rw [hn] at e1
    rw [e1,hk'] at e2
    cases e2
   have gw:∀ (b:Bool) {s₁:Shared} {Q':Unit->Shared->Prop},Q' () s₁->wpAny (model P w) A (match b with|true=>rule "set.scan.the-table-gave-way" | false=>pure ()) Q' E s₁:=
    fun b s₁ Q' q=>by cases b;exact wpAny_pure q;exact wpAny_rule q
   dsimp only
   have l1:=layNew_perm t es ((intKind P w).hash k) (.int k tk)
   have l2:=layNew_fits t es ((intKind P w).hash k) (.int k tk)
   have l3:=tg.layNew es ((intKind P w).hash k) (.int k tk)
   generalize layNew t es ((intKind P w).hash k) (.int k tk)=L at l1 l2 l3 ⊢
   obtain ⟨es1,t1,wd,gv⟩:=L
   dsimp only at l1 l2 l3 ⊢
   rw [Array.toList_push] at l1
   have e1:ElemsOf (intKind P w) es1.toList:=(hel.push hkey rfl).perm l1
   have e2:(es1.toList.map fun e=>numOf e.2).Perm (adj ns k):=by
    unfold adj
    rw [if_neg hm]
    refine (l1.map _).trans ?_
    rw [List.map_append]
    exact hp.append (.refl _)
   have e3:es1.size<scanBound:=by rw [← Array.length_toList,l1.length_eq,List.length_append,Array.length_toList,hsz];exact hr
   refine wpAny_bind (gw _ ?_)
   have tail:wpAny (model P w) A (do
    storeSet a es1 t1
    if (!wd && t1.tooFull)=true then do
        (match (relayAll t1 es1 (SetTable.grown es1.size)).2.2 with|true=>rule "set.scan.the-table-gave-way" | false=>pure ())
        storeSet a (relayAll t1 es1 (SetTable.grown es1.size)).1 (relayAll t1 es1 (SetTable.grown es1.size)).2.1
        pure (some true)
     else pure (some true)) (fun r s'=>r=some true/\Q true s') E s:=by
    refine wpAny_bind (wpAny_storeSet_of ho hd ?_ (fits_of_scanBound e3))
    have g1:=vD (es':=es1) (t':=t1) ho hd
    have b1:=Heap.SameBut.update s.heap a (Obj.putSet es1 t1)
    split
    ·have r1:=relayAll_perm t1 es1 (SetTable.grown es1.size)
     have r2:=relayAll_fits t1 es1 (SetTable.grown es1.size)
     have r3:=l3.relayAll es1 (SetTable.grown es1.size)
     generalize relayAll t1 es1 (SetTable.grown es1.size)=L at r1 r2 r3 ⊢
     obtain ⟨es2,t2,gv2⟩:=L
     dsimp only at r1 r2 r3 ⊢
     have z:es2.size=es1.size:=by rw [← Array.length_toList,r1.length_eq,Array.length_toList]
     refine wpAny_bind (gw _ ?_)
     refine wpAny_bind (wpAny_storeSet_of g1 rfl ?_ (fits_of_scanBound (by rw [z];exact e3)))
     exact wpAny_pure ⟨rfl,h true _ (b1.trans (Heap.SameBut.update _ a _)) ⟨_,es2,_,t2,vD g1 rfl,hex,rfl,e1.perm r1,(r1.map _).trans e2,by rw [z];exact e3,r2,r3⟩⟩
    ·exact wpAny_pure ⟨rfl,h true _ b1 ⟨_,es1,_,t1,g1,hex,rfl,e1,e2,e3,l2,l3⟩⟩
   have fin:∀ s',(fun r s'=>r=some true/\Q true s') (some true) s'->wpAny (model P w) A (pure true) Q E s':=fun s' q=>wpAny_pure q.2
   split
   ·refine wpAny_bind ?_
    rw [hashByValue_scannable 8 rfl]
    refine wpAny_pure ?_
    refine wpAny_mono tail (fun r s' q=>?_) fun _ _ e=>e
    obtain ⟨rfl,q⟩:=q
    exact wpAny_pure q
   ·refine wpAny_bind (wpAny_pure ?_)
    simp only [↓reduceIte]
    refine wpAny_mono tail (fun r s' q=>?_) fun _ _ e=>e
    obtain ⟨rfl,q⟩:=q
    exact wpAny_pure q
end
section
variable {P:Program} {w:World} {A:Around} {R:Result->Shared->Prop} {I:Addr} {fp wr:List Addr} {G:Array GenState->Array GenState->Prop} {n:Nat} {Pv:Nat->Value->Prop} {St:Nat->Shared->Prop}
end
section
variable {P:Program} {w:World} {A:Around} {E:Value->Shared->Prop} {s:Shared}
abbrev Ak (w:World):Obj:={ cls:=.type "set",dict:=none,data:=.set #[] 0 (.fresh 0 0 (!sE w)) }
theorem GZ {h:Heap} {a:Addr} (e:h.get? a=some (Ak w)):jm P w h a []:=
 ⟨_,#[],0,_,e,⟨rfl,rfl,rfl⟩,rfl,fun e he=>by simp at he,.refl _,by unfold scanBound;decide,by rfl,oA.fresh⟩
end
theorem dw:Slot "set_iterator" "__next__" "set_iterator.__next__" :=
 Slot.of (owner:="set_iterator") (n:="__next__") (by rw [typeLookup_type,builtinLookup_eq_fast];kernel_rfl) (by decide +kernel) (by decide +kernel) (by decide +kernel) (by first|exact .inl (by decide +kernel)|exact .inr (by decide +kernel)) (by rw [isSubtype_type];kernel_rfl)
theorem jh:entryFor table "set_iterator.__next__" = some Builtin.«set_iterator.__next__»:=entryFor_of_tree (by kernel_rfl)
theorem jP (a:Value):argsOk "set_iterator.__next__" ⟨[a],[]⟩:=by unfold argsOk;kernel_rfl
theorem oh:entryFor table "set.__iter__" = some Builtin.«frozenset.__iter__»:=entryFor_alias (id':="frozenset.__iter__") (by kernel_rfl) rfl (by decide +kernel) (by kernel_rfl)
abbrev Bx (f:Value) (i:Nat) (a:Addr) (n ep:Nat):Obj:={ cls:=.type "set_iterator",data:=.fields #[f,.int i 0,.ref a,.int n 0,.int ep 0] }
section
variable {P:Program} {w:World} {A:Around} {E:Value->Shared->Prop} {s:Shared} {I a:Addr} {i n ep:Nat} {o:Obj} {es:Array (Int×Value)} {t:SetTable}
theorem Ju {sl nx:Nat} {x:Value} {Q:Option Value->Shared->Prop} (hI:s.heap.get? I=some (Bx (.int sl 0) i a es.size ep)) (ho:s.heap.get? a=some o) (hd:o.data=.set es ep t) (hf:t.fits es.size=true)
 (hN:∀ {A:Around} {E:Value->Shared->Prop} (Q':Option (Value×Nat)->Shared->Prop),Q' (some (x,nx)) s->wpAny (model P w) A (setNext a sl i ep) Q' E s)
 (hQ:∀ h',h'.get? I=some (Bx (.int nx 0) (i+1) a es.size ep)->Heap.SameBut I s.heap h'->Q (some x) { s with heap:=h' }):wpAny (model P w) A (pyNext (.ref I)) Q E s:=by
 have hT:s.TypeIs (.ref I) "set_iterator":=⟨_,hI,rfl⟩
 unfold pyNext
 refine wpAny_bind (wpAny_attempt (wpAny_callSpecial?_slot (name:=Str.ofString "__next__") hT dw (wpAny_call_entry dw hT jh ?_ (jP _))))
 unfold Builtin.«set_iterator.__next__»
 refine wpAny_bind (wpAny_pure ?_)
 refine wpAny_bind (wpAny_fieldsOf hI rfl ?_)
 dsimp only
 refine wpAny_bind (m:=setEntries a) (wpAny_setEntries_of ho hd hf ?_)
 rw [if_neg (by simp)]
 refine wpAny_bind (hN _ ?_)
 dsimp only
 refine wpAny_bind (wpAny_setField hI rfl (by simp) ?_)
 have g1:=Heap.get?_update_self (Obj.mapFields fun fs=>fs.set! 0 (rawInt nx)) hI rfl
 refine wpAny_bind (wpAny_setField g1 rfl (by simp) ?_)
 have g2:=Heap.get?_update_self (Obj.mapFields fun fs=>fs.set! 1 (rawInt ((i:Int)+1))) g1 rfl
 refine wpAny_pure ⟨x,rfl,wpAny_pure (hQ _ g2 ((Heap.SameBut.update ..).trans (Heap.SameBut.update ..)))⟩
theorem NZ {sl:Nat} {Q:Option Value->Shared->Prop} (hh:A.handled=none) (hI:s.heap.get? I=some (Bx (.int sl 0) i a es.size ep)) (ho:s.heap.get? a=some o) (hd:o.data=.set es ep t) (hf:t.fits es.size=true)
 (hN:∀ {A:Around} {E:Value->Shared->Prop} (Q':Option (Value×Nat)->Shared->Prop),Q' none s->wpAny (model P w) A (setNext a sl i ep) Q' E s)
 (hQ:∀ h',Heap.ExtBut I s.heap h'->Q none { s with heap:=h' }):wpAny (model P w) A (pyNext (.ref I)) Q E s:=by
 have hT:s.TypeIs (.ref I) "set_iterator":=⟨_,hI,rfl⟩
 unfold pyNext
 refine wpAny_bind (wpAny_attempt (wpAny_callSpecial?_slot (name:=Str.ofString "__next__") hT dw (wpAny_call_entry dw hT jh ?_ (jP _))))
 unfold Builtin.«set_iterator.__next__»
 refine wpAny_bind (wpAny_pure ?_)
 refine wpAny_bind (wpAny_fieldsOf hI rfl ?_)
 dsimp only
 refine wpAny_bind (m:=setEntries a) (wpAny_setEntries_of ho hd hf ?_)
 rw [if_neg (by simp)]
 refine wpAny_bind (hN _ ?_)
 dsimp only
 refine wpAny_bind (wpAny_setField hI rfl (by simp) ?_)
 refine wpAny_bind ?_
 simp only [newExc,newTuple]
 refine wpAny_bind (wpAny_newObj_type ?_ (by size_fits))
 refine wpAny_bind (m:=firstArgMember _ _) (wpAny_of_eq (a:=Value.none) (by first|rfl|(simp only [firstArgMember];rfl)) ?_)
 refine wpAny_newObj_type ?_ (by size_fits)
 simp only [raiseNew]
 refine wpAny_bind (wpAny_handled ?_)
 rw [show A.in1.handled=none from hh]
 refine wpAny_bind (wpAny_pure (wpAny_throw ?_))
 refine wpAny_bind (wpAny_isInstance (T:="StopIteration") (b:=true) ⟨_,Heap.get?_push_size _ rfl,rfl⟩ isSubtype_stop ?_)
 exact wpAny_pure (hQ _ (((Heap.SameBut.update ..).extBut.push _).push _))
theorem Nu {T:Addr} {ps:Array Value} {c p:Nat} {x:Value} {h0:Int} {Q:Option Value->Shared->Prop} (hI:s.heap.get? I=some (Bx (.ref T) i a es.size ep)) (ho:s.heap.get? a=some o) (hd:o.data=.set es ep t) (hf:t.fits es.size=true)
 {oT:Obj} (hT':s.heap.get? T=some oT) (hTd:oT.data=.seq ps c) (hp:ps[i]?=some (.int p 0)) (hx:es[p]?=some (h0,x))
 (hQ:∀ h',h'.get? I=some (Bx (.ref T) (i+1) a es.size ep)->Heap.SameBut I s.heap h'->Q (some x) { s with heap:=h' }):wpAny (model P w) A (pyNext (.ref I)) Q E s:=by
 have hT:s.TypeIs (.ref I) "set_iterator":=⟨_,hI,rfl⟩
 unfold pyNext
 refine wpAny_bind (wpAny_attempt (wpAny_callSpecial?_slot (name:=Str.ofString "__next__") hT dw (wpAny_call_entry dw hT jh ?_ (jP _))))
 unfold Builtin.«set_iterator.__next__»
 refine wpAny_bind (wpAny_pure ?_)
 refine wpAny_bind (wpAny_fieldsOf hI rfl ?_)
 dsimp only
 refine wpAny_bind (m:=setEntries a) (wpAny_setEntries_of ho hd hf ?_)
 rw [if_neg (by simp)]
 refine wpAny_bind (wpAny_seqItems hT' hTd ?_)
 dsimp only
 rw [Int.toNat_natCast,hp]
 dsimp only
 unfold setNextDrawn
 refine wpAny_bind (wpAny_bind (wpAny_setState_of ho hd hf ?_))
 dsimp only
 rw [if_neg (by simp),Int.toNat_natCast,hx]
 refine wpAny_pure ?_
 refine wpAny_bind (wpAny_setField hI rfl (by simp) ?_)
 have g2:=Heap.get?_update_self (Obj.mapFields fun fs=>fs.set! 1 (rawInt ((i:Int)+1))) hI rfl
 exact wpAny_pure ⟨x,rfl,wpAny_pure (hQ _ g2 (Heap.SameBut.update ..))⟩
theorem Gm {T:Addr} {ps:Array Value} {c:Nat} {Q:Option Value->Shared->Prop} (hh:A.handled=none) (hI:s.heap.get? I=some (Bx (.ref T) i a es.size ep)) (ho:s.heap.get? a=some o) (hd:o.data=.set es ep t) (hf:t.fits es.size=true)
 {oT:Obj} (hT':s.heap.get? T=some oT) (hTd:oT.data=.seq ps c) (hp:ps[i]?=none) (hQ:∀ h',Heap.ExtBut I s.heap h'->Q none { s with heap:=h' }):wpAny (model P w) A (pyNext (.ref I)) Q E s:=by
 have hT:s.TypeIs (.ref I) "set_iterator":=⟨_,hI,rfl⟩
 unfold pyNext
 refine wpAny_bind (wpAny_attempt (wpAny_callSpecial?_slot (name:=Str.ofString "__next__") hT dw (wpAny_call_entry dw hT jh ?_ (jP _))))
 unfold Builtin.«set_iterator.__next__»
 refine wpAny_bind (wpAny_pure ?_)
 refine wpAny_bind (wpAny_fieldsOf hI rfl ?_)
 dsimp only
 refine wpAny_bind (m:=setEntries a) (wpAny_setEntries_of ho hd hf ?_)
 rw [if_neg (by simp)]
 refine wpAny_bind (wpAny_seqItems hT' hTd ?_)
 dsimp only
 rw [Int.toNat_natCast,hp]
 dsimp only
 refine wpAny_bind (wpAny_setField hI rfl (by simp) ?_)
 have g1:=Heap.get?_update_self (Obj.mapFields fun fs=>fs.set! 0 (rawInt 0)) hI rfl
 refine wpAny_bind (wpAny_setField g1 rfl (by simp) ?_)
 refine wpAny_bind ?_
 simp only [newExc,newTuple]
 refine wpAny_bind (wpAny_newObj_type ?_ (by size_fits))
 refine wpAny_bind (m:=firstArgMember _ _) (wpAny_of_eq (a:=Value.none) (by first|rfl|(simp only [firstArgMember];rfl)) ?_)
 refine wpAny_newObj_type ?_ (by size_fits)
 simp only [raiseNew]
 refine wpAny_bind (wpAny_handled ?_)
 rw [show A.in1.handled=none from hh]
 refine wpAny_bind (wpAny_pure (wpAny_throw ?_))
 refine wpAny_bind (wpAny_isInstance (T:="StopIteration") (b:=true) ⟨_,Heap.get?_push_size _ rfl,rfl⟩ isSubtype_stop ?_)
 exact wpAny_pure (hQ _ ((((Heap.SameBut.update ..).trans (Heap.SameBut.update ..)).extBut.push _).push _))
end
def slotAt (p:Array Nat):Nat->Nat
 |0=>0
 |i+1=>p.getD i 0+1
theorem ur {p:Array Nat} (R:qO p) {i:Nat} (hi:i≤p.size):SetTable.below p (slotAt p i)=i:=by
 obtain ⟨b1,b2,b3⟩:=q_ (j:=slotAt p i) R
 have gd:∀ k,k<p.size->p[k]?=some (p.getD k 0):=fun k hk=>by rw [Array.getD_eq_getD_getElem?,Array.getElem?_eq_getElem hk];rfl
 cases i with
 | zero=>
   rcases Nat.eq_zero_or_pos (SetTable.below p (slotAt p 0)) with e|e
   ·exact e
   ·exact absurd (b2 0 _ e (gd 0 (by omega))) (Nat.not_lt_zero _)
 | succ i=>
   rcases Nat.lt_trichotomy (SetTable.below p (slotAt p (i+1))) (i+1) with e|e|e
   ·have h1:=b3 i _ (by omega) (gd i (by omega))
    simp only [slotAt] at h1
    omega
   ·exact e
   ·have h1:=b2 (i+1) _ e (gd (i+1) (by omega))
    have h2:=R i (i+1) _ _ (by omega) (gd i (by omega)) (gd (i+1) (by omega))
    simp only [slotAt] at h1
    omega
theorem jy {α:Type}:∀ (l:List α) (i:Nat) (h:i<l.length),(l[i]::l.eraseIdx i).Perm l
 |x::l,0,h=>.refl _
 | x::l,i+1,h=>by
   rw [List.eraseIdx_cons_succ,List.getElem_cons_succ]
   exact (List.Perm.swap _ _ _).trans ((jy l i (by simpa using h)).cons _)
theorem uW {α:Type} (f:Nat->Nat):∀ (n k:Nat) (l:List α) (out:Array α),l.length=n->(pickOrder.go f n k l out).toList.Perm (out.toList++l)
 | 0,k,l,out,h=>by
   obtain rfl:=List.length_eq_zero_iff.mp h
   rw [List.append_nil]
   exact .refl _
 | n+1,k,l,out,h=>by
   have hm:f k % l.length<l.length:=Nat.mod_lt _ (by omega)
   unfold pickOrder.go
   rw [List.getElem?_eq_getElem hm]
   refine (uW f n (k+1) _ _ (by rw [List.length_eraseIdx,if_pos hm,h];rfl)).trans ?_
   rw [Array.toList_push,List.append_assoc]
   exact (List.Perm.refl _).append (jy _ _ hm)
theorem vQ {α:Type} (f:Nat->Nat) (xs:Array α):(pickOrder f xs).toList.Perm xs.toList:=by
 unfold pickOrder
 exact uW f _ 0 _ _ (by simp)
section
variable {P:Program} {w:World} {A:Around} {E:Value->Shared->Prop} {s:Shared}
theorem tE {src:Source} {n:Nat} {Q:Nat->Shared->Prop} (hn:n≠0) (h:∀ i d,i<n->Q i { s with drawn:=d }):wpAny (model P w) A (choose src n) Q E s:=by
 intro Γ p hΓ
 unfold choose
 rw [Sem.wp_choose]
 exact ⟨hn,by rw [Sem.wp_pure];exact h _ _ (Nat.mod_lt _ (Nat.pos_of_ne_zero hn))⟩
theorem oN {α:Type}:∀ (n:Nat) (xs:List α) (s:Shared) {Q:List α->Shared->Prop},xs.length≤n->(∀ ys d,ys.Perm xs->Q ys { s with drawn:=d })->wpAny (model P w) A (drawOrder n xs) Q E s
 | 0,xs,s,Q,hl,h=>by
   obtain rfl:=List.length_eq_zero_iff.mp (Nat.le_zero.mp hl)
   exact wpAny_pure (h [] s.drawn (.refl _))
 |n+1,[],s,Q,hl,h=>wpAny_pure (h [] s.drawn (.refl _))
 | n+1,x::xs,s,Q,hl,h=>by
   unfold drawOrder
   refine wpAny_bind (tE (by simp) fun i d hi=>?_)
   rw [List.getElem?_eq_getElem hi]
   dsimp only
   refine wpAny_bind (oN n _ _ (by rw [List.length_eraseIdx,if_pos hi];simp only [List.length_cons] at hl ⊢;omega) fun ys d' hp=>?_)
   exact wpAny_pure (h _ d' ((hp.cons _).trans (jy _ _ hi)))
variable {a:Addr} {ep:Nat} {o:Obj} {es:Array (Int×Value)} {t:SetTable} {Q:Option (Value×Nat)->Shared->Prop}
theorem iu {Q:Bool->Shared->Prop} (h:Q (sE w) s):wpAny (model P w) A setsByText Q E s:=by
 unfold setsByText
 exact wpAny_bind (wpAny_askSetting (wpAny_pure h))
theorem My {g i:Nat} (ho:s.heap.get? a=some o) (hd:o.data=.set es ep t) (hf:t.fits es.size=true) (R:qO t.place) (hb:sE w=false) (nd:(!t.plain && decide (es.size > 1))=false) (hl:t.led=true) (hi:i≤es.size)
 (h:Q (es[i]?.map fun e=>(e.2,slotAt t.place (i+1))) s):wpAny (model P w) A (setNext a (slotAt t.place i) g ep) Q E s:=by
 have hz:t.place.size=es.size:=by
  simp only [SetTable.fits,Bool.and_eq_true,beq_iff_eq,decide_eq_true_eq] at hf
  exact hf.1
 unfold setNext
 refine wpAny_bind (wpAny_setState_of ho hd hf ?_)
 dsimp only
 refine wpAny_bind (iu ?_)
 rw [if_neg (by rw [hb];simp)]
 split
 ·rename_i q
  exact absurd (show (!t.plain && decide (es.size > 1))=true from q) (by rw [nd];simp)
 ·refine wpAny_bind (m:=(if (!t.led && !es.isEmpty)=true then unsupported "set:maker-not-led" else pure ())) ?_
  rw [if_neg (by rw [hl];simp)]
  refine wpAny_pure ?_
  rw [ur R (by omega)]
  refine wpAny_pure ?_
  by_cases q:i<es.size
  ·rw [Array.getElem?_eq_getElem q] at h ⊢
   rw [Array.getElem?_eq_getElem (show i<t.place.size by omega)]
   have e:slotAt t.place (i+1)=t.place[i]+1:=by
    show t.place.getD i 0+1=_
    rw [Array.getD_eq_getD_getElem?,Array.getElem?_eq_getElem (show i<t.place.size by omega)]
    rfl
   rw [e] at h
   exact h
  ·rw [Array.getElem?_eq_none (by omega)] at h ⊢
   exact h
theorem nextT {g sl:Nat} (ho:s.heap.get? a=some o) (hd:o.data=.set es ep t) (hf:t.fits es.size=true) (hb:sE w=true)
 (h:Q ((pickOrder (w.params.setOrder a ep) es)[g]?.map fun e=>(e.2,sl)) s):wpAny (model P w) A (setNext a sl g ep) Q E s:=by
 unfold setNext
 refine wpAny_bind (wpAny_setState_of ho hd hf ?_)
 dsimp only
 refine wpAny_bind (iu ?_)
 rw [if_pos (by rw [hb]),if_neg (by simp)]
 unfold setWalk
 refine wpAny_bind (wpAny_bind (wpAny_setState_of ho hd hf ?_))
 dsimp only
 refine wpAny_bind (iu ?_)
 rw [if_pos (by rw [hb])]
 exact wpAny_bind (wpAny_askSetting (wpAny_pure (wpAny_pure h)))
end
theorem qW:Slot "set_iterator" "__iter__" "set_iterator.__iter__" :=
 Slot.of (owner:="set_iterator") (n:="__iter__") (by rw [typeLookup_type,builtinLookup_eq_fast];kernel_rfl) (by decide +kernel) (by decide +kernel) (by decide +kernel) (by first|exact .inl (by decide +kernel)|exact .inr (by decide +kernel)) (by rw [isSubtype_type];kernel_rfl)
theorem wO:entryFor table "set_iterator.__iter__" = some Builtin.«dict_keyiterator.__iter__»:=entryFor_alias (id':="dict_keyiterator.__iter__") (by kernel_rfl) rfl (by decide +kernel) (by kernel_rfl)
theorem yo (a:Value):argsOk "set_iterator.__iter__" ⟨[a],[]⟩:=by unfold argsOk;kernel_rfl
section
variable {P:Program} {w:World} {A:Around} {E:Value->Shared->Prop} {s:Shared}
theorem pK {I:Addr} {Q:Value->Shared->Prop} (hT:s.TypeIs (.ref I) "set_iterator") (h:Q (.ref I) s):wpAny (model P w) A (pyIter (.ref I)) Q E s:=by
 refine wpAny_pyIter_slot hT qW (wpAny_call_entry qW hT wO ?_ (yo _))
 exact wpAny_pure ⟨_,rfl,"set_iterator",_,hT,dw.lookup,h⟩
abbrev Eo (out:List (Int×Value)):Nat->Value->Prop:=fun i v=>out[i]?.map (·.2)=some v
theorem yw {I a:Addr} {o:Obj} {es:Array (Int×Value)} {ep:Nat} {t:SetTable} {out:List (Int×Value)} {sl:Nat->Nat} (hh:A.handled=none) (ne:a≠I) (hd:o.data=.set es ep t) (hf:t.fits es.size=true)
 (nx:∀ {A:Around} {E:Value->Shared->Prop} (i:Nat) (s:Shared) (Q:Option (Value×Nat)->Shared->Prop),i≤out.length->s.heap.get? a=some o->Q (out[i]?.map fun e=>(e.2,sl (i+1))) s->wpAny (model P w) A (setNext a (sl i) i ep) Q E s) :
 Walks P w A I [I,a] [I] out.length (Eo out) (fun i h=>h.get? I=some (Bx (.int (sl i) 0) i a es.size ep)/\h.get? a=some o) where
 sub:=fun b q=>by simp at q;simp [q]
 frame:=fun _ _ _ st k=>⟨k I (by simp) _ st.1,k a (by simp) _ st.2⟩
 item:=fun i s Q E hi st q=>by
  refine Ju (x:=out[i].2) (nx:=sl (i+1)) st.1 st.2 hd hf (fun Q' z=>nx i s Q' (Nat.le_of_lt hi) st.2 (by rw [List.getElem?_eq_getElem hi];exact z)) fun h' e sb=>?_
  exact q _ h' s.toks (by simp [Eo,hi]) ⟨e,by rw [sb.2 a ne];exact st.2⟩ fun b u hb eb=>by rw [sb.2 b (fun z=>hb (by simp [z]))];exact eb
 done:=fun s Q E st q=>NZ hh st.1 st.2 hd hf (fun Q' z=>nx _ s Q' (Nat.le_refl _) st.2 (by rw [List.getElem?_eq_none (Nat.le_refl _)];exact z)) fun h' eb=>q h' s.toks fun b u hb e=>eb b u (fun z=>hb (by simp [z])) e
 self:=fun _ _ _ _ st q=>pK ⟨_,st.1,rfl⟩ q
theorem Hf {I a T:Addr} {o oT:Obj} {es:Array (Int×Value)} {ep c:Nat} {t:SetTable} {ps:List Nat} {out:List (Int×Value)} (hh:A.handled=none) (ne:a≠I) (neT:T≠I) (hd:o.data=.set es ep t) (hf:t.fits es.size=true)
 (hT:oT.data=.seq (ps.map fun i:Nat=>rawInt i).toArray c) (hz:out.length=ps.length) (hp:∀ i p:Nat,ps[i]?=some p->es[p]?=out[i]?) :
 Walks P w A I [I,a,T] [I] out.length (Eo out) (fun i h=>h.get? I=some (Bx (.ref T) i a es.size ep)/\h.get? a=some o/\h.get? T=some oT) where
 sub:=fun b q=>by simp at q;simp [q]
 frame:=fun _ _ _ st k=>⟨k I (by simp) _ st.1,k a (by simp) _ st.2.1,k T (by simp) _ st.2.2⟩
 item:=fun i s Q E hi st q=>by
  have hi':i<ps.length:=by rw [← hz];exact hi
  refine Nu (p:=ps[i]) (x:=out[i].2) (h0:=out[i].1) st.1 st.2.1 hd hf st.2.2 hT (by simp [hi',rawInt]) (by rw [hp i _ (List.getElem?_eq_getElem hi'),List.getElem?_eq_getElem hi]) fun h' e sb=>?_
  exact q _ h' s.toks (by simp [Eo,hi]) ⟨e,by rw [sb.2 a ne];exact st.2.1,by rw [sb.2 T neT];exact st.2.2⟩ fun b u hb eb=>by rw [sb.2 b (fun z=>hb (by simp [z]))];exact eb
 done:=fun s Q E st q=>Gm hh st.1 st.2.1 hd hf st.2.2 hT (by simp [hz]) fun h' eb=>q h' s.toks fun b u hb e=>eb b u (fun z=>hb (by simp [z])) e
 self:=fun _ _ _ _ st q=>pK ⟨_,st.1,rfl⟩ q
theorem Gi {a:Addr} {ns:List Int} {Q:Value->Shared->Prop} (g:jm P w s.heap a ns)
 (h:∀ (s':Shared) (I:Addr) (fp:List Addr) (out:List (Int×Value)) (St:Nat->Heap->Prop),s'.os=s.os->s'.gens=s.gens->s'.toks=s.toks->(∀ b o,s.heap.get? b=some o->s'.heap.get? b=some o)->(∀ b∈fp,b<s'.heap.objs.size/\(s.heap.objs.size≤b∨b=a))->(∀ A:Around,A.handled=none->Walks P w A I fp [I] out.length (Eo out) St)->St 0 s'.heap->
  s.heap.objs.size≤I->(∀ e∈out,∃ k t,e.2=.int k t)->(out.map fun e=>numOf e.2).Perm ns->Q (.ref I) s'):wpAny (model P w) A (pyIter (.ref a)) Q E s:=by
 obtain ⟨o,es,ep,t,ho,hex,hd,hel,hp,hb,hf,tg⟩:=g
 have hT:s.TypeIs (.ref a) "set":=⟨o,ho,hex.1⟩
 have la:=Heap.lt_size ho
 have ia:∀ out:List (Int×Value),out.Perm es.toList->(∀ e∈out,∃ k t,e.2=.int k t)/\(out.map fun e=>numOf e.2).Perm ns:=fun out q=>
  ⟨fun e he=>by
   obtain ⟨⟨k,hk,_⟩,_⟩:=hel e (q.mem_iff.mp he)
   obtain ⟨t,e⟩:=Value.isInt_shape hk
   exact ⟨k,t,e⟩,(q.map _).trans hp⟩
 refine wpAny_pyIter_slot hT PySem.F.slot_set_iter (wpAny_call_entry PySem.F.slot_set_iter hT oh ?_ (PySem.F.args_set_iter_1 _))
 unfold Builtin.«frozenset.__iter__»
 refine wpAny_bind (m:=Builtin.Frozenset.slot0 "__iter__" _) (wpAny_of_eq (a:=a) rfl ?_)
 refine wpAny_bind (m:=Builtin.Frozenset.sizeOf a) (wpAny_bind (wpAny_setEntries_of ho hd hf (wpAny_pure ?_)))
 unfold setDrawn
 refine wpAny_bind (wpAny_bind (wpAny_setState_of ho hd hf ?_))
 dsimp only
 refine wpAny_bind (iu ?_)
 refine wpAny_pure ?_
 split
 ·rename_i q
  refine wpAny_bind (oN es.size (List.range es.size) _ (by simp) fun ys d hy=>?_)
  have hl:ys.length=es.size:=by rw [hy.length_eq,List.length_range]
  refine wpAny_bind (wpAny_newTuple ?_ (by rw [List.length_map,hl];exact fits_of_scanBound hb))
  have h1:(s.heap.push { cls:=.type "tuple",data:=.seq (ys.map fun i:Nat=>rawInt i).toArray }).get? s.heap.objs.size=some { cls:=.type "tuple",data:=.seq (ys.map fun i:Nat=>rawInt i).toArray }:=Heap.get?_push_size _ rfl
  have k1:=fun (b:Addr) (u:Obj) (e:s.heap.get? b=some u)=>Heap.get?_push_of_some { cls:=.type "tuple",data:=.seq (ys.map fun i:Nat=>rawInt i).toArray } e
  have z1:(s.heap.push { cls:=.type "tuple",data:=.seq (ys.map fun i:Nat=>rawInt i).toArray }).objs.size=s.heap.objs.size+1:=Heap.size_push ..
  generalize (s.heap.push { cls:=.type "tuple",data:=.seq (ys.map fun i:Nat=>rawInt i).toArray })=h2 at h1 k1 z1 ⊢
  refine wpAny_bind (wpAny_setEpoch_of (k1 _ _ ho) hd hf ?_)
  refine wpAny_bind (wpAny_newObj_type (wpAny_pure ⟨_,rfl,"set_iterator",_,⟨_,Heap.get?_push_size _ rfl,rfl⟩,dw.lookup,?_⟩))
  have hp2:(ys.map fun i=>(es[i]?).getD default).Perm es.toList:=by
   refine (hy.map _).trans (List.Perm.of_eq (List.ext_getElem (by simp) fun i q1 q2=>?_))
   have q3:i<es.size:=by simpa using q2
   simp [q3]
  obtain ⟨i1,i2⟩:=ia _ hp2
  refine h _ h2.objs.size [h2.objs.size,a,s.heap.objs.size] (ys.map fun i=>(es[i]?).getD default) _ rfl rfl rfl (fun b u e=>Heap.get?_push_of_some _ (k1 b u e)) ?_ (fun A' hh=>Hf (ps:=ys) hh (by rw [z1];exact Nat.ne_of_lt (Nat.lt_succ_of_lt la)) (by rw [z1];exact Nat.ne_of_lt (Nat.lt_succ_self _)) hd hf rfl (by simp) ?_) ⟨Heap.get?_push_size _ rfl,Heap.get?_push_of_some _ (k1 _ _ ho),Heap.get?_push_of_some _ h1⟩ (by rw [z1];exact Nat.le_succ _) i1 i2
  ·intro b hb
   rw [Heap.size_push,z1]
   simp only [List.mem_cons,List.not_mem_nil,or_false] at hb
   rcases hb with rfl|rfl|rfl
   ·exact ⟨by rw [z1];exact Nat.lt_succ_self _,.inl (by rw [z1];exact Nat.le_succ _)⟩
   ·exact ⟨Nat.lt_succ_of_lt (Nat.lt_succ_of_lt la),.inr rfl⟩
   ·exact ⟨Nat.lt_succ_of_lt (Nat.lt_succ_self _),.inl (Nat.le_refl _)⟩
  ·intro i p e
   rw [List.getElem?_map,e]
   have hm:p∈List.range es.size:=hy.mem_iff.mp (List.mem_of_getElem? e)
   have hp3:p<es.size:=List.mem_range.mp hm
   simp [hp3]
 ·rename_i q
  refine wpAny_bind (wpAny_pure ?_)
  refine wpAny_bind (wpAny_setEpoch_of ho hd hf ?_)
  refine wpAny_bind (wpAny_newObj_type (wpAny_pure ⟨_,rfl,"set_iterator",_,⟨_,Heap.get?_push_size _ rfl,rfl⟩,dw.lookup,?_⟩))
  have q':(!sE w && (!t.plain && decide (es.size > 1)))=false:=by simpa using (show ¬ (!sE w && (!t.plain && decide (es.size > 1)))=true from q)
  have fpk:∀ b∈[s.heap.objs.size,a],b<(s.heap.push (Bx (rawInt 0) 0 a es.size ep)).objs.size/\(s.heap.objs.size≤b∨b=a):=fun b hb=>by
   rw [Heap.size_push]
   simp only [List.mem_cons,List.not_mem_nil,or_false] at hb
   rcases hb with rfl|rfl
   ·exact ⟨Nat.lt_succ_self _,.inl (Nat.le_refl _)⟩
   ·exact ⟨Nat.lt_succ_of_lt la,.inr rfl⟩
  cases hbt:sE w with
  | false=>
    rw [hbt] at q' tg
    obtain ⟨i1,i2⟩:=ia es.toList (.refl _)
    exact h _ s.heap.objs.size [s.heap.objs.size,a] es.toList _ rfl rfl rfl (fun b u e=>Heap.get?_push_of_some _ e) fpk
     (fun A' hh=>yw (sl:=slotAt t.place) hh (Nat.ne_of_lt la) hd hf fun i s1 Q1 hi e z=>My e hd hf tg.rise hbt (by simpa using q') tg.led (by simpa using hi) (by simpa using z))
     ⟨Heap.get?_push_size _ rfl,Heap.get?_push_of_some _ ho⟩ (Nat.le_refl _) i1 i2
  | true=>
    obtain ⟨i1,i2⟩:=ia _ (vQ (w.params.setOrder a ep) es)
    exact h _ s.heap.objs.size [s.heap.objs.size,a] (pickOrder (w.params.setOrder a ep) es).toList _ rfl rfl rfl (fun b u e=>Heap.get?_push_of_some _ e) fpk
     (fun A' hh=>yw (sl:=fun _=>0) hh (Nat.ne_of_lt la) hd hf fun i s1 Q1 hi e z=>nextT e hd hf hbt (by simpa using z))
     ⟨Heap.get?_push_size _ rfl,Heap.get?_push_of_some _ ho⟩ (Nat.le_refl _) i1 i2
end
theorem Ba:typeLookup (.type "set") "__len__" = pure (some (.builtin "set.__len__")):=by rw [typeLookup_type,builtinLookup_eq_fast];kernel_rfl
theorem sS {out:List (Int×Value)} {acc:Array Value} (hi:∀ e∈out,∃ k t,e.2=.int k t) (h:PySem.ItemsOf (Eo out) acc out.length):IntsAre acc.toList (out.map fun e=>numOf e.2):=by
 have e:acc.toList=out.map (·.2):=by
  refine List.ext_getElem (by rw [Array.length_toList,List.length_map];exact h.1) fun i q1 q2=>?_
  have q3:i<out.length:=by simpa using q2
  have q4:i<acc.size:=by simpa using q1
  have:=h.2 i acc[i] (by simp [q4])
  simp only [Eo,List.getElem?_eq_getElem q3,Option.map_some,Option.some.injEq] at this
  simp [← this]
 rw [e]
 clear e h
 induction out with
 |nil=>exact .nil
 | cons x r ih=>
   obtain ⟨k,t,e⟩:=hi x (List.mem_cons_self ..)
   simp only [List.map_cons,e]
   exact .cons k t (ih fun y hy=>hi y (List.mem_cons_of_mem _ hy))
section
variable {P:Program} {w:World} {A:Around} {E:Value->Shared->Prop} {s:Shared}
theorem wX {a:Addr} {ns:List Int} {Q:List Value->Shared->Prop} (hh:A.handled=none) (g:jm P w s.heap a ns) (hz:ns.length≤1000)
 (hQ:∀ s' vs ms,s'.os=s.os->s'.gens=s.gens->s.heap.objs.size≤s'.heap.objs.size->(∀ b o,s.heap.get? b=some o->s'.heap.get? b=some o)->IntsAre vs ms->ms.Perm ns->Q vs s'):wpAny (model P w) A (collect (.ref a)) Q E s:=by
 have la:a<s.heap.objs.size:=by
  obtain ⟨o,es,ep,t,ho,_⟩:=g
  exact Heap.lt_size ho
 have ty:∀ {s':Shared},jm P w s'.heap a ns->s'.TypeIs (.ref a) "set":=fun g=>by
  obtain ⟨o,es,ep,t,ho,hex,_⟩:=g
  exact ⟨o,ho,hex.1⟩
 unfold collect
 refine wpAny_bind (wpAny_runValue (codeAny_builtin PySem.F.entry_proto_collect ?_))
 rw [Around.under_plainId PySem.F.plain_proto_collect _]
 refine wpAny_bind (m:=newList []) (wpAny_newObj_type ?_)
 refine wpAny_pure ⟨plainId_quiet PySem.F.plain_list_iadd _,codeAny_builtin PySem.F.entry_list_iadd ?_⟩
 rw [Around.under_plainId PySem.F.plain_list_iadd _]
 show wpAny _ A.in1 (Builtin.List.listExtendWith (.ref s.heap.objs.size) (.ref a) (.ref s.heap.objs.size)) _ _ _
 have hS₁:(s.heap.push { cls:=.type "list",data:=.seq ([]:List Value).toArray }).get? s.heap.objs.size=some { cls:=.type "list",data:=.seq ([]:List Value).toArray }:=Heap.get?_push_size _ rfl
 have k₁:∀ b o,s.heap.get? b=some o->(s.heap.push { cls:=.type "list",data:=.seq ([]:List Value).toArray }).get? b=some o:=fun b o e=>Heap.get?_push_of_some _ e
 have z₁:(s.heap.push { cls:=.type "list",data:=.seq ([]:List Value).toArray }).objs.size=s.heap.objs.size+1:=by rw [Heap.size_push]
 generalize (s.heap.push { cls:=.type "list",data:=.seq ([]:List Value).toArray })=H₁ at hS₁ k₁ z₁ ⊢
 have g₁:jm P w H₁ a ns:=g.at fun o e=>k₁ _ _ e
 unfold Builtin.List.listExtendWith
 refine wpAny_bind (wpAny_typeOf (s:={ s with heap:=H₁ }) (ty g₁) ?_)
 have h1:Builtin.List.listSameRef (.ref s.heap.objs.size) (.ref a)=false:=by simp [Builtin.List.listSameRef,Nat.ne_of_gt la]
 have h2:(Value.type "set" == Value.type "list")=false:=by decide
 have h3:(Value.type "set" == Value.type "tuple")=false:=by decide
 simp only [h1,h2,h3,Bool.or_false,Bool.false_eq_true,if_false]
 refine wpAny_bind (Gi (s:={ s with heap:=H₁ }) g₁ fun s₂ I fp out St e1 e2 e3 k₂ fpk W st lI hi hp=>?_)
 have g₂:jm P w s₂.heap a ns:=g₁.at fun o e=>k₂ _ _ e
 refine wpAny_bind (wpAny_holding ?_)
 unfold Builtin.List.listLengthHint
 refine wpAny_bind (wpAny_specialOf (ty g₂) Ba ?_)
 wp_delta
 refine wpAny_bind (wpAny_isInstance (b:=true) (ty g₂) (by rw [isSubtype_type];kernel_rfl) ?_)
 refine wpAny_bind (m:=typeOf (Value.ref a)) (wpAny_typeOf (ty g₂) ?_)
 refine wpAny_pure ?_
 show wpAny _ A.in1 (rule "list.extend.makes-room" >>= fun _=>Builtin.List.listTouch (.ref s.heap.objs.size) >>= fun _=>
  again (.builtin "list.extend.loop" ⟨[.ref s.heap.objs.size,.ref I,.ref s.heap.objs.size],[]⟩)) _ _ _
 refine wpAny_bind (wpAny_rule (wpAny_bind ?_))
 show wpAny _ A.in1 (updateSeq s.heap.objs.size (·.push .none) >>= fun _=>updateSeq s.heap.objs.size (·.pop)) _ _ _
 have hS₂:=k₂ _ _ hS₁
 refine wpAny_bind (wpAny_updateSeq hS₂ rfl ?_)
 have hS₃:=Heap.get?_update_self (Obj.mapSeq (·.push Value.none)) hS₂ rfl
 refine wpAny_updateSeq hS₃ rfl ?_
 have hS₄:=Heap.get?_update_self (Obj.mapSeq (·.pop)) hS₃ rfl
 have oth:∀ b o,b≠s.heap.objs.size->s₂.heap.get? b=some o->((s₂.heap.update s.heap.objs.size (Obj.mapSeq (·.push Value.none))).update s.heap.objs.size (Obj.mapSeq (·.pop))).get? b=some o:=
  fun b o hb e=>(Heap.get?_update_other _ _ (Ne.symm hb)).trans ((Heap.get?_update_other _ _ (Ne.symm hb)).trans e)
 dsimp only at hS₄ oth ⊢
 generalize ((s₂.heap.update s.heap.objs.size (Obj.mapSeq (·.push Value.none))).update s.heap.objs.size (Obj.mapSeq (·.pop)))=H₄ at hS₄ oth ⊢
 have nf:s.heap.objs.size∉fp:=fun q=>by
  rcases (fpk _ q).2 with z|z
  ·dsimp only at z
   rw [z₁] at z
   exact absurd z (Nat.not_le_of_lt (Nat.lt_succ_self _))
  ·exact absurd z (Nat.ne_of_gt la)
 have hlen:out.length≤1000:=by rw [← List.length_map (f:=fun e:Int×Value=>numOf e.2),hp.length_eq];exact hz
 have W1:=W A.in1 (by simp [hh])
 refine wpAny_pure ⟨plainId_quiet PySem.F.plain_extend_loop _,codeAny_extend_loopS W1.toS (Nat.le_trans hlen (by decide)) s.heap.objs.size nf (.ref s.heap.objs.size) _ 0 { s₂ with heap:=H₄ } #[] 2 rfl (Nat.zero_le _) (W1.frame 0 _ _ st fun b q o e=>oth b o (fun z=>nf (z ▸ q)) e) hS₄ (PySem.ItemsOf.nil _) fun s' acc c mv e it=>?_⟩
 dsimp only
 refine wpAny_bind (wpAny_load e ?_)
 refine wpAny_pure (hQ s' acc.toList _ (mv.os.trans e1) (Eq.trans mv.gens e2) (Nat.le_of_lt (Heap.lt_size e)) (fun b o eb=>?_) (sS hi it) hp)
 have lb:=Heap.lt_size eb
 refine mv.heap b o ?_ (oth _ _ (Nat.ne_of_lt lb) (k₂ _ _ (k₁ _ _ eb)))
 simp only [List.mem_cons,List.not_mem_nil,or_false,not_or]
 refine ⟨Nat.ne_of_lt lb,Nat.ne_of_lt (Nat.lt_of_lt_of_le lb (Nat.le_trans ?_ lI))⟩
 dsimp only
 rw [z₁]
 exact Nat.le_succ _
theorem zT {a:Addr} {ns:List Int} {Q:Value->Shared->Prop} (hh:A.handled=none) (g:jm P w s.heap a ns) (hz:ns.length<64)
 (hQ:∀ s' l c vs ms,s'.os=s.os->s'.gens=s.gens->s.heap.objs.size≤l->(∀ b o,s.heap.get? b=some o->s'.heap.get? b=some o)->s'.heap.get? l=some (seqObj "list" vs c)->IntsAre vs.toList ms->ms.Perm ns->ms.Pairwise (·≤·)->Q (.ref l) s'):wpAny (model P w) A (call (.builtin "sorted") [.ref a]) Q E s:=by
 refine Calls.call_function_entry kind_sorted plain_sorted entry_sorted (args_sorted1 _) ?_
 unfold Builtin.«sorted»
 refine wpAny_bind (m:=checkCount "sorted" 1 1 _) (wpAny_pure ?_)
 refine wpAny_bind (wX (by simp [hh]) g (by omega) fun s₁ vs ms e1 e2 le k hi hp=>?_)
 have hl:vs.length<64:=by rw [hi.length,hp.length_eq];exact hz
 refine wpAny_bind (wpAny_newList ?_ (Nat.le_trans (Nat.le_of_lt hl) (by decide)))
 have hoL:(s₁.heap.push (seqObj "list" vs.toArray 0)).get? s₁.heap.objs.size=some (seqObj "list" vs.toArray 0):=Heap.get?_push_size _ rfl
 show wpAny _ _ _ _ _ { s₁ with heap:=s₁.heap.push (seqObj "list" vs.toArray 0) }
 refine wpAny_bind (wpAny_holding (wpAny_call_entry slot_list_sort ⟨_,hoL,rfl⟩ entry_list_sort (list_sort_tree hoL hi hl fun out ns' a1 a2 a3=>⟨_,rfl,?_⟩) (args_list_sort _)))
 obtain ⟨c,ec⟩:=sortedHeap_at (vs:=vs) (out:=out) hoL
 refine wpAny_pure ⟨_,rfl,hQ _ _ c out ns' e1 e2 le (fun b o e=>?_) ec a1 (a2.trans hp) a3⟩
 have lb:=Nat.lt_of_lt_of_le (Heap.lt_size e) le
 rw [sortedHeap_old (Nat.ne_of_lt lb) (by rw [Heap.size_push];exact Nat.lt_succ_of_lt lb)]
 exact Heap.get?_push_of_some _ (k _ _ e)
end
def setG (P:Program) (w:World) (a:Addr) (ns:List Int):HO:=.ext fun h=>jm P w h a ns
theorem v5 {P:Program} {w:World} {H:Hp} {h:Heap} {a:Addr} {ns:List Int} (x:jm P w h a ns):cG P w H h a (setG P w a ns):=by
 refine ⟨x,?_,fun h1 h2 z k=>z.at fun o e=>k _ e⟩
 obtain ⟨o,es,ep,t,e,_⟩:=x
 exact ⟨o,e⟩
section
variable {X:Cx} {Z:List (Addr×Obj)} {U:List (Option V)} {H:Hp} {s:Shared}
theorem Inv.dr (I:Inv X Z U H s) (d:Drawn):Inv X Z U H { s with drawn:=d }:=⟨I.ok,I.os,I.bare,I.base,I.loc,I.cell,I.free,I.freeC,I.pin,I.hok,I.len⟩
theorem qz (hc:X.calm=true):eX X (.builtin "sorted") (fun xs H Q=>∃ (a:Addr) (ns:List Int),xs=[.ref a]/\H a=some (setG X.prog X.w a ns)/\ns.length<64/\∀ (ms:List Int) l,ms.Perm ns->ms.Pairwise (·≤·)->H l=none->Q (.ref l) (upd H l (.lst (ms.map V.int)))):=by
 intro Z s U H xs us Q I r h
 obtain ⟨a,ns,rfl,ha,hl,q⟩:=h
 obtain ⟨u,rfl,ru⟩:=vals1 r
 cases (show u=Value.ref a from ru)
 refine zT (I.ok.hd hc) (I.hok a _ ha).1 hl fun s' l c vs ms e1 e2 le k e hi hp hs=>?_
 obtain ⟨h',g',d',tk',os'⟩:=s'
 dsimp only at e1 e2 k e
 subst e1;subst e2
 have lz:(ms.map V.int).length≤sizeLine:=by rw [List.length_map,hp.length_eq];exact Nat.le_trans (Nat.le_of_lt hl) (by decide)
 exact ⟨.ref l,_,(I.laid (t':=tk') k le (show cG X.prog X.w _ _ _ (.lst (ms.map V.int)) from ⟨lz,vs.toList,c,jD hi,by simpa using e⟩)).dr d',rfl,q ms l hp hs (I.hok.fresh le)⟩
end
section
variable {X:Cx}
end
end L2
namespace L2
open PySem PySem.Spec PyProof.Rows PySem.SeqAt PySem.W
section
variable {n:Nat} {rk:Nat->Int} {cmp:Nat->Nat->(Bool->Shared->Prop)->Shared->Prop} {s:Shared}
end
section
variable {prog:Program} {w:World} {A:Around} {E:Value->Shared->Prop} {s:Shared}
end
section
variable {X:Cx}
end
section
variable {P:Program} {w:World} {K:Frag} {mg:Str->Option Value} {base:Heap} {N:List Str} {qual pn:Str} {scope:Scope} {f:Addr} {cl:List (Str×Addr)} {A:Around} {outer:List Env} {s:Shared} {H:Hp} {E:XK}
end
section
variable {X:Cx}
end
section
variable {prog:Program} {w:World} {A:Around} {E:Value->Shared->Prop} {s:Shared}
end
section
variable {X:Cx} {K:Frag}
end
end L2
namespace L2
open PySem PySem.Spec PyProof.Rows
theorem pR (elt target iter:Expr) (ifs:List Expr) (scope:Scope) (pos:Pos) (it acc:Value) (env:Env) :
 compTurn (.SetComp elt [⟨target,iter,ifs,0⟩] scope pos) 0 it acc env=(do
  standAt iter.pos
  match ← pyNext it with
  |none=>pure (.done .next)
  | some v=>
    letOwnedTupleGo target it v
    assign target env v
    let mut ok:=true
    for c in ifs do
     if ok then ok ← isTrue c env (eval c env)
    if ok then
     (do
      let v ← eval elt env
      standAt elt.pos
      let _ ← call (.builtin "set.add") [acc,v])
    again (.compLoop (.SetComp elt [⟨target,iter,ifs,0⟩] scope pos) 0 it acc env)):=by rfl
theorem iQ {prog:Program} {w:World} {A:Around} {R:Result->Shared->Prop} {s:Shared} {elt target iter ifs rest scope pos it acc env}
 (h0:codeAny (model prog w) A (.compLoop (.SetComp elt (⟨target,iter,ifs,0⟩::rest) scope pos) 0 it acc env) R s)
 (h:wpAny (model prog w) A (pyIter it) (fun it' s'=>codeAny (model prog w) A (.compLoop (.SetComp elt (⟨target,iter,ifs,0⟩::rest) scope pos) 0 it' acc env) R s')
  (notedBy (model prog w) A env fun x s'=>R (.error x) s') s) :
 codeAny (model prog w) A (.compStart (.SetComp elt (⟨target,iter,ifs,0⟩::rest) scope pos) 0 it acc env) R s:=by
 refine codeAny_of_tree ?_
 show wpAny _ _ ((compStart (.SetComp elt (⟨target,iter,ifs,0⟩::rest) scope pos) 0 it acc env).onRaise (fun x=>do noteFrame x env;standAt theWindowsPlace)) _ _ s
 refine wpAny_notedAt ?_
 unfold compStart
 show wpAny _ _ (ask >>= _) _ _ s
 refine wpAny_bind (wpAny_askSetting (wpAny_ite ?_))
 split
 ·first
   |exact wpAny_bind (wpAny_pure (wpAny_pure (And.intro rfl h0)))
   |exact wpAny_pure (And.intro rfl h0)
 ·first
   |exact wpAny_bind (wpAny_rule (wpAny_bind (wpAny_standAt (wpAny_bind (wpAny_mono h (fun it' s' h'=>wpAny_pure (And.intro rfl h')) fun _ _ x=>x)))))
   |(refine wpAny_bind (wpAny_rule ?_);show wpAny _ _ (standAt iter.pos >>= _) _ _ s;exact wpAny_bind (wpAny_standAt (wpAny_bind (wpAny_mono h (fun it' s' h'=>wpAny_pure (And.intro rfl h')) fun _ _ x=>x))))
theorem uq {P:Program} {w:World} {A:Around} {E:Value->Shared->Prop} {s:Shared} {a:Addr} {ns:List Int} {k:Int} {tk:Tok} {Q:Value->Shared->Prop} (hS:jm P w s.heap a ns) (hr:ns.length+1<scanBound) (h:∀ h',Heap.SameBut a s.heap h'->jm P w h' a (adj ns k)->Q .none { s with heap:=h',toks:=s.toks+1 }):wpAny (model P w) A (call (.builtin "set.add") [.ref a,.int k tk]) Q E s:=by
 have hT:s.TypeIs (.ref a) "set":=by
  obtain ⟨o,es,ep,t,ho,hex,_⟩:=hS
  exact ⟨o,ho,hex.1⟩
 refine wpAny_call_entry PySem.F.slot_set_add hT PySem.F.entry_set_add ?_ (PySem.F.args_set_add_2 _ _)
 unfold Builtin.«set.add» Builtin.Frozenset.oneOther
 simp only [List.isEmpty_nil,bind_assoc]
 unfold Builtin.Frozenset.addrOf setAdd
 refine wpAny_bind (wpAny_pure ?_)
 try dsimp only
 refine wpAny_bind (wpAny_pure ?_)
 try dsimp only
 refine wpAny_bind ?_
 refine wpAny_holding ?_
 refine wpAny_bind ((intKind P w).pyHash (k:=k) (intKind_is _ _ _ _) ?_)
 refine Le (s:={ s with toks:=s.toks+1 }) hS hr fun b h' sb g=>?_
 show wpAny _ _ (ret Value.none) _ _ _
 exact wpAny_pure ⟨_,rfl,h h' sb g⟩
theorem zA {X:Cx} {Z:List (Addr×Obj)} {U:St} {H:Hp} {s:Shared} {a:Addr} {k:Int} {u:Value} {A:Around} {E:Value->Shared->Prop} {ns:List Int} {Q:Value->Shared->Prop} (I:Inv X Z U H s) (e:H a=some (setG X.prog X.w a ns)) (l:ns.length+1<scanBound) (ry:RelV (.int k) u)
 (h:∀ s',Inv X Z U (upd H a (setG X.prog X.w a (adj ns k))) s'->Q .none s'):wpAny (model X.prog X.w) A (call (.builtin "set.add") [.ref a,u]) Q E s:=by
 obtain ⟨t,rfl⟩:=ry
 refine uq (I.hok a _ e).1 l fun h' hs g=>h _ ?_
 have ok:=v5 (H:=upd H a (setG X.prog X.w a (adj ns k))) g
 exact lW I (by rw [e];exact True.intro) hs ok.2.1 ok
def vz (P:Program) (w:World) (J:It) (g:TG) (tt:TT) (te:TE) (acc:Addr) (F:Hp->Prop) (W:Nat->Nat->St->Hp->Prop):Prop:=
 ∀ i m U H,W i m U H->(J.stop i H/\F H)∨(J.go i H/\∀ x H1,J.yld i H x H1->g x U H1 fun σ2 H2=>tt σ2 H2 fun b H3=>
   if b=true then te σ2 H3 fun y H4=>∃ ns k,H4 acc=some (setG P w acc ns)/\y=.int k/\ns.length+1<scanBound/\∃ m',m'<m/\W (i+1) m' σ2 (upd H4 acc (setG P w acc (adj ns k))) else ∃ m',m'<m/\W (i+1) m' σ2 H3)
theorem uw {X:Cx} {scope:Scope} {N':List Str} {cl:List (Str×Addr)} {C acc it:Addr} {s₂:Shared} {H₂:Hp} {fp:List Addr} {tn:Nat->Heap->Prop} {J:It} {g:TG} {tt:TT} {te:TE} {F:Hp->Prop}
 {elt tg iter:Expr} {ifs:List Expr} {pos:Pos} {R:Result->Shared->Prop} (W:Nat->Nat->St->Hp->Prop) (turn:vz X.prog X.w J g tt te acc F W) (T:Turn X.prog X.w X.K tg J fp it tn)
 (hg:PG (aQ X scope N' cl C s₂ H₂ fp) tg g) (hc:jq (aQ X scope N' cl C s₂ H₂ fp) ifs tt) (he:PE (aQ X scope N' cl C s₂ H₂ fp) elt te) (hcalm:X.calm=true)
 (hfp:∀ b∈fp,b≠C/\b∉frs X.stack/\(∀ x c,cl.lookup x=some c->c≠b))
 (hR:∀ s' σ' H',Inv (aQ X scope N' cl C s₂ H₂ fp) [] σ' H' s'->F H'->R (.ok .next) s')
 {s:Shared} {U:St} {H:Hp} {m:Nat} (I:Inv (aQ X scope N' cl C s₂ H₂ fp) [] U H s) (st:tn 0 s.heap) (fr:∀ b∈fp,H b=none) (w0:W 0 m U H) :
 codeAny (model X.prog X.w) X.A (.compLoop (.SetComp elt [⟨tg,iter,ifs,0⟩] scope pos) 0 (.ref it) (.ref acc) (compEnvC scope cl C X.env)) R s:=by
 refine codeAny_loop rfl (fun n s'=>∃ i σ' H',Inv (aQ X scope N' cl C s₂ H₂ fp) [] σ' H' s'/\tn i s'.heap/\(∀ b∈fp,H' b=none)/\W i n σ' H') (fun n s3 hI=>?_) m ⟨0,U,H,I,st,fr,w0⟩
 obtain ⟨i,σ3,H3,I3,st3,fr3,w3⟩:=hI
 show wpAny _ X.A ((compTurn (.SetComp elt [⟨tg,iter,ifs,0⟩] scope pos) 0 (.ref it) (.ref acc) (compEnvC scope cl C X.env)).onRaise (fun x=>do noteFrame x (compEnvC scope cl C X.env);theTreesLotGoes x)) _ _ s3
 refine wpAny_noted ?_
 rw [pR]
 have fpk:∀ {H':Hp},(∀ b∈fp,H' b=none)->∀ b∈fp,jo (aQ X scope N' cl C s₂ H₂ fp) [] H' b:=fun hn b hb=>
  ⟨hn b hb,(hfp b hb).1,(hfp b hb).2.1,.inl hb,(hfp b hb).2.2,fun p hp'=>by
   have hp'':p∈([]:List (Addr×Obj))++[]:=hp'
   exact absurd hp'' (by simp)⟩
 have fp1:=fpk fr3
 refine wpAny_bind (wpAny_standAt (wpAny_bind ?_))
 rcases turn i n σ3 H3 w3 with ⟨stop,qn⟩|⟨go,step⟩
 ·refine wpAny_mono (T.done (aQ X scope N' cl C s₂ H₂ fp) rfl rfl rfl hcalm i _ s3 σ3 H3 (fun _ _=>False) I3 fp1 st3 stop) (fun r s4 ⟨hr,I4⟩=>?_) (fun _ _ z=>z.elim)
  subst hr
  exact wpAny_pure (hR s4 σ3 H3 I4 qn)
 ·refine wpAny_mono (T.item (aQ X scope N' cl C s₂ H₂ fp) rfl rfl rfl hcalm i _ s3 σ3 H3 (fun _ _=>False) I3 fp1 st3 go) (fun r s4 ⟨u,hr,h4⟩=>?_) (fun _ _ z=>z.elim)
  subst hr
  refine wpAny_bind (wpAny_mono h4 (fun _ s5 ⟨x,H5,I5,r5,y5,st5,fr5⟩=>?_) (fun _ _ z=>z.elim))
  have fp5:=fpk fr5
  have I5':=I5.pinned fp5 (T.obj _ _ st5)
  refine wpAny_bind (wpAny_mono (hg _ s5 σ3 H5 x u _ I5' r5 (step x H5 y5)) (fun _ s6 ⟨σ6,H6,I6,q6⟩=>?_) (fun _ _ z=>z.elim))
  refine wpAny_bind (wpAny_mono (hc _ s6 σ6 H6 _ I6 q6) (fun ok s7 ⟨H7,I7,q7⟩=>?_) (fun _ _ z=>z.elim))
  have again:∀ {s8:Shared} {σ8:St} {H8:Hp},Inv (aQ X scope N' cl C s₂ H₂ fp) ([]++gG fp s5.heap) σ8 H8 s8->tn (i+1) s8.heap/\∀ b∈fp,H8 b=none:=fun {s8 σ8 H8} I8=>
   ⟨T.keep _ _ _ st5 fun b hb o e=>(I8.pin (b,o) (List.mem_append_right _ (List.mem_append_right _ (cX hb e)))).1,fun b hb=>by
    obtain ⟨o,e,d⟩:=T.obj _ _ st5 b hb
    exact (I8.pin (b,o) (List.mem_append_right _ (List.mem_append_right _ (cX hb e)))).2.1⟩
  cases ok with
  | false=>
    rw [if_neg Bool.false_ne_true] at q7
    obtain ⟨m',hm,w7⟩:=q7
    obtain ⟨t1,t2⟩:=again I7
    exact wpAny_pure ⟨rfl,m',hm,i+1,σ6,H7,I7.unpinned,t1,t2,w7⟩
  | true=>
    rw [if_pos rfl] at q7
    refine wpAny_bind (wpAny_bind (wpAny_mono (he _ s7 σ6 H7 _ I7 q7) (fun y s8 ⟨yv,H8,I8,r8,ns,k,e8,ek,hl,m',hm,w8⟩=>?_) (fun _ _ z=>z.elim)))
    subst ek
    refine wpAny_bind (wpAny_standAt (wpAny_bind ?_))
    refine zA (X:=aQ X scope N' cl C s₂ H₂ fp) I8 e8 hl r8 fun s10 I10=>?_
    obtain ⟨t1,t2⟩:=again I10
    exact wpAny_pure (wpAny_pure ⟨rfl,m',hm,i+1,σ6,_,I10.unpinned,t1,t2,w8⟩)
def Ei (P:Program) (w:World) (wi:TI) (g:TG) (tt:TT) (te:TE) (k:Nat) (js:List Nat):TE:=fun U H Q=>wi U H fun J H1=>∀ acc,H1 acc=none->∃ W:Nat->Nat->St->Hp->Prop,(∃ m,W 0 m (dH k js U) (upd H1 acc (setG P w acc [])))/\
 vz P w J g tt te acc (fun H2=>Q (.ref acc) H2) W
section
variable {X:Cx} {scope:Scope} {own:List Str} {js:List Nat} {N':List Str} {wi:TI} {g:TG} {tt:TT} {te:TE} {elt tg iter:Expr} {ifs:List Expr} {pos:Pos}
theorem xK {Z:List (Addr×Obj)} {U:St} {H:Hp} {s:Shared} {it:Addr} {fp:List Addr} {tn:Nat->Heap->Prop} {J:It} {cl:List (Str×Addr)} {F:Addr->Hp->Prop} {E:Value->Shared->Prop} {RR:Value->Addr->Result->Shared->Prop}
 (S:bw X scope own js N') (hcalm:X.calm=true) (hg:∀ cl C s₀ H₀ ex,PG (aQ X scope N' cl C s₀ H₀ ex) tg g) (hc:∀ cl C s₀ H₀ ex,jq (aQ X scope N' cl C s₀ H₀ ex) ifs tt) (he:∀ cl C s₀ H₀ ex,PE (aQ X scope N' cl C s₀ H₀ ex) elt te)
 (hc1:∀ x c,cl.lookup x=some c->X.env.cells.lookup x=some c) (hc2:∀ x,(x,NameKind.free)∈scope.names->∃ c,cl.lookup x=some c)
 (I:Inv X Z U H s) (T:Turn X.prog X.w X.K tg J fp it tn) (st:tn 0 s.heap) (hf:∀ b∈fp,jo X Z H b)
 (hW:∀ acc,H acc=none->∃ W:Nat->Nat->St->Hp->Prop,(∃ m,W 0 m (dH own.length js U) (upd H acc (setG X.prog X.w acc [])))/\vz X.prog X.w J g tt te acc (F acc) W)
 (fin:∀ acc C H' s' m,Inv X Z U H' s'->s'.heap.Ns C m->H' C=none->C≠X.env.locals->X.s₀.heap.objs.size≤C->(∀ x c,X.env.cells.lookup x=some c->c≠C)->(∀ p∈X.pn++Z,p.1≠C)->F acc H'->RR (.ref acc) C (.ok .next) s') :
 wpAny (model X.prog X.w) X.A (newSet (.type "set")) (fun acc s₃=>wpAny (model X.prog X.w) X.A (newFunctionEnv scope X.env.globals cl [] X.env.qual none .none (some X.env)) (fun cenv s₄=>
  codeAny (model X.prog X.w) X.A (.compStart (.SetComp elt [⟨tg,iter,ifs,0⟩] scope pos) 0 (.ref it) acc { cenv with scope:=relabel scope X.env }) (RR acc cenv.locals) s₄) E s₃) E s:=by
 unfold newSet
 refine wpAny_bind (iu ?_)
 refine wpAny_newObj_type (wpAny_newFunctionEnv S.nocell (by intro y hy;simp at hy) (fun h₁ hns₁ hsb₁=>?_) S.kind)
 dsimp only at hns₁ hsb₁ ⊢
 have hHA:H s.heap.objs.size=none:=I.hok.fresh (Nat.le_refl _)
 have IL:Inv X Z U (upd H s.heap.objs.size (setG X.prog X.w s.heap.objs.size [])) { s with heap:=s.heap.push (Ak X.w),toks:=s.toks }:=I.laid (a:=s.heap.objs.size) (o:=setG X.prog X.w s.heap.objs.size []) (t':=s.toks) (fun _ _ q=>Heap.get?_push_of_some _ q) (Nat.le_refl _) (v5 (GZ (Heap.get?_push_size _ rfl)))
 obtain ⟨W,⟨m0,w0⟩,turn⟩:=hW _ hHA
 have stL:tn 0 (s.heap.push (Ak X.w)):=T.keep _ _ _ st fun b hb o e=>Heap.get?_push_of_some _ e
 have fpLt0:∀ b∈fp,b<s.heap.objs.size:=fun b hb=>by
  obtain ⟨o,e,_⟩:=T.obj _ _ st b hb
  exact Heap.lt_size e
 have hfL:∀ b∈fp,jo X Z (upd H s.heap.objs.size (setG X.prog X.w s.heap.objs.size [])) b:=fun b hb=>by
  obtain ⟨f0,f⟩:=hf b hb
  exact ⟨by rw [aJ (Nat.ne_of_lt (fpLt0 b hb))];exact f0,f⟩
 generalize hH2:s.heap.push (Ak X.w)=H2 at hns₁ hsb₁ IL stL ⊢
 have hC:H2.objs.size=s.heap.objs.size+1:=by rw [← hH2,Heap.size_push]
 generalize hHn:upd H s.heap.objs.size (setG X.prog X.w s.heap.objs.size [])=HL at IL hfL w0
 generalize hAn:s.heap.objs.size=acc at *
 have below:∀ b,b<H2.objs.size->b≠H2.objs.size:=fun b hb=>Nat.ne_of_lt hb
 have old:∀ b o,H2.get? b=some o->h₁.get? b=some o:=fun b o e=>hsb₁.extBut b o (below b (Heap.lt_size e)) (Heap.get?_push_of_some _ e)
 generalize hCn:H2.objs.size=C at *
 have cellLt:∀ x c,X.env.cells.lookup x=some c->c<C:=fun x c e=>by
  obtain ⟨v,q⟩:=IL.cell x c e
  rw [← hCn];exact q.lt
 have pinLt:∀ p∈X.pn++Z,p.1<C:=fun p hp=>by rw [← hCn];exact Heap.lt_size (IL.pin p hp).1
 have fpLt:∀ b∈fp,b<C:=fun b hb=>Nat.lt_of_lt_of_le (fpLt0 b hb) (by rw [hC];exact Nat.le_succ _)
 have hHC:HL C=none:=IL.hok.fresh (by show H2.objs.size≤C;rw [hCn];exact Nat.le_refl _)
 have I1:Inv (aQ X scope N' cl C { s with heap:=H2,toks:=s.toks } HL fp) [] (dH own.length js U) HL { s with heap:=h₁,toks:=s.toks+([]:List (Str×Value)).length }:=
  Inv.comp S IL hc1 hc2 (by show H2.objs.size≤C;rw [hCn];exact Nat.le_refl _) hns₁ old (fun b hb=>⟨hfL b hb,by show b<H2.objs.size;rw [hCn];exact fpLt b hb⟩) hHC fun b o e=>below b (by rw [← hCn];exact Heap.lt_size e)
 have st1:tn 0 h₁:=T.keep _ _ _ stL fun b hb o e=>old b o e
 have loop:∀ s₃:Shared,s₃={ s with heap:=h₁,toks:=s.toks+([]:List (Str×Value)).length }->
  codeAny (model X.prog X.w) X.A (.compLoop (.SetComp elt [⟨tg,iter,ifs,0⟩] scope pos) 0 (.ref it) (.ref acc) (compEnvC scope cl C X.env)) (RR (.ref acc) C) s₃:=by
  rintro s₃ rfl
  refine uw W turn T (hg _ _ _ _ _) (hc _ _ _ _ _) (he _ _ _ _ _) hcalm
   (fun b hb=>⟨below b (fpLt b hb),fun z=>?_,fun x c e z=>(hfL b hb).2.2.2.2.1 x c (hc1 x c e) z⟩) ?_ I1 st1 (fun b hb=>(hfL b hb).1) w0
  ·rcases List.mem_cons.mp (IL.stkSub b z) with q|q
   ·exact (hfL b hb).2.1 q
   ·exact (hfL b hb).2.2.1 q
  ·intro s' σ' H' J' q
   obtain ⟨m,hm,_⟩:=J'.loc
   have IX:Inv X Z U H' s':=IL.call' J'.os J'.base J'.hok J'.bare fun b hb=>⟨(hfL b hb).2.2.2.1,(hfL b hb).2.1,(hfL b hb).2.2.2.2.1,(hfL b hb).2.2.2.2.2⟩
   refine fin acc C H' s' m IX hm J'.free ?_ ?_ ?_ ?_ q
   ·exact Nat.ne_of_gt (Nat.lt_of_lt_of_le IL.lt (by show H2.objs.size≤C;rw [hCn];exact Nat.le_refl _))
   ·exact Nat.le_trans IL.sz (by show H2.objs.size≤C;rw [hCn];exact Nat.le_refl _)
   ·exact fun x c e z=>absurd (cellLt x c e) (by rw [z];exact Nat.lt_irrefl _)
   ·exact fun p hp z=>absurd (pinLt p hp) (by rw [z];exact Nat.lt_irrefl _)
 exact iQ (loop _ rfl) (T.self _ 0 _ _ _ st1 (loop _ rfl))
theorem yO (S:bw X scope own js N') (hcalm:X.calm=true) (hi:PI X tg iter wi) (hg:∀ cl C s₀ H₀ ex,PG (aQ X scope N' cl C s₀ H₀ ex) tg g) (hc:∀ cl C s₀ H₀ ex,jq (aQ X scope N' cl C s₀ H₀ ex) ifs tt)
 (he:∀ cl C s₀ H₀ ex,PE (aQ X scope N' cl C s₀ H₀ ex) elt te) (hs:∀ x,foldedSetIterable iter X.env x=pure x:=by intro _;rfl):PE X (.SetComp elt [⟨tg,iter,ifs,0⟩] scope pos) (Ei X.prog X.w wi g tt te own.length js):=by
 intro Z s U H Q I h
 obtain ⟨cl,hcl,hc1,hc2⟩:=iH (env:=X.env) scope fun y hy hk=>I.ok.has y.1 (S.free y hy hk)
 show wpAny _ X.A (comprehension (.SetComp elt [⟨tg,iter,ifs,0⟩] scope pos) scope X.env _ (newSet (.type "set")) false (eval iter X.env)) _ _ s
 refine wpAny_comprehension_free (use:=none) rfl hs hcl S.kind S.names (cz (hi Z s U H _ I h) fun v s1 h1=>cz h1 fun itv s2 h2=>?_)
 obtain ⟨it,fp,tn,J,H2,e,I2,T,st2,f2,hW⟩:=h2
 subst e
 refine xK (RR:=fun acc C=>compPost (model X.prog X.w) X.A X.xe none (EP X Z U Q) acc C) S hcalm hg hc he hc1 hc2 I2 T st2 f2 hW ?_
 intro acc C H' s' m IX hm hCn hL hz hcn hpn q
 refine ⟨m,hm,fun h' hs'=>⟨.ref acc,_,?_,rfl,q⟩⟩
 exact IX.turned (t':=s'.toks) (it:=C) (fun b o hb e=>(hs'.2 b hb).trans e) hCn hL (.inr hz) hcn hpn
end
theorem rG {P:Program} {w:World} {K:PySem.W.Frag} {a acc:Addr} {xs:List V} {g:TG} {tt:TT} {te:TE} {F:Hp->Prop} {σ0:St} {H0:Hp} (Pv:Nat->St->Hp->Prop) (h0:Pv 0 σ0 H0) (hq:∀ i U H,i≤xs.length->Pv i U H->bM K H a xs)
 (hs:∀ i x U H,xs[i]?=some x->Pv i U H->∀ N:St->Hp->Prop,(∀ σ' H',Pv (i+1) σ' H'->N σ' H')->g x U H fun σ2 H2=>tt σ2 H2 fun b H3=>if b=true then te σ2 H3 fun y H4=>∃ ns k,H4 acc=some (setG P w acc ns)/\y=.int k/\ns.length+1<scanBound/\N σ2 (upd H4 acc (setG P w acc (adj ns k))) else N σ2 H3)
 (hd:∀ U H,Pv xs.length U H->F H):∃ W:Nat->Nat->St->Hp->Prop,(∃ m,W 0 m σ0 H0)/\vz P w (BJ K a) g tt te acc F W:=by
 refine ⟨fun i m U H=>m=xs.length-i/\i≤xs.length/\Pv i U H,⟨xs.length,by simp,Nat.zero_le _,h0⟩,?_⟩
 rintro i m U H ⟨rfl,hi,p⟩
 have q:=hq i U H hi p
 by_cases hlt:i<xs.length
 ·refine .inr ⟨⟨xs,xs[i],q,by simp [hlt]⟩,fun x H' y=>?_⟩
  obtain ⟨e,y⟩:=y
  subst e
  exact hs i x U _ (y xs q) p (fun σ' H'=>∃ m',m'<xs.length-i/\m'=xs.length-(i+1)/\i+1≤xs.length/\Pv (i+1) σ' H') fun σ' H' q=>⟨xs.length-(i+1),by omega,rfl,hlt,q⟩
 ·have e:i=xs.length:=by omega
  subst e
  exact .inl ⟨⟨xs,q,Nat.le_refl _⟩,hd U H p⟩
end L2
namespace Cm
open PySem L2
noncomputable def top (i:Nat):Stmt:=PySem.Challenge.pw_lanescribe_k07_whole_tests_held_against.main.body.getD i (.Pass ⟨0,0,0,0⟩)
noncomputable def v4 (c:Addr) (a r s:Int):List (Key×V):=[(.inr "cells",.ref c),(.inr "at",.int a),(.inr "rest",.int r),(.inr "seed",.int s)]
theorem pat:putK (v4 c a r s) (.inr "at") (.int x)=v4 c x r s:=by rfl
theorem CG:putK (v4 c a r s) (.inr "rest") (.int x)=v4 c a x s:=by rfl
theorem CP:putK (v4 c a r s) (.inr "seed") (.int x)=v4 c a r x:=by rfl
theorem za (h:H p=some (.dK (v4 c a r s))):kI H p (.str "cells") (some (.ref c)):=kI.k (k:=Sum.inr "cells") h
theorem QG (h:H p=some (.dK (v4 c a r s))):kI H p (.str "at") (some (.int a)):=kI.k (k:=Sum.inr "at") h
theorem vq (h:H p=some (.dK (v4 c a r s))):kI H p (.str "rest") (some (.int r)):=kI.k (k:=Sum.inr "rest") h
theorem qU (h:H p=some (.dK (v4 c a r s))):kI H p (.str "seed") (some (.int s)):=kI.k (k:=Sum.inr "seed") h
noncomputable abbrev Ht:Int:=2305843009213693951
structure Dr (H:Hp) (p c:Addr):Prop where
 ex:∃ (ns:List Int) (a r s:Int),H p=some (.dK (v4 c a r s))/\H c=some (.lst (ns.map V.int))/\ns.length≤63/\0≤a/\a≤ns.length/\0≤r/\0≤s/\s<Ht
theorem Dr.mono (d:Dr H p c) (h:aA H H'):Dr H' p c:=by
 obtain ⟨ns,a,r,s,h1,h2,k⟩:=d.ex
 exact ⟨ns,a,r,s,h _ _ h1,h _ _ h2,k⟩
theorem Dr.ne (d:Dr H p c) (h:H q=some o) (hd:∀ kvs,o≠.dK kvs):q≠p:=by
 obtain ⟨ns,a,r,s,h1,_⟩:=d.ex
 exact fZ h h1 (hd _)
theorem Dr.put (d:Dr H p c) (h1:q≠p) (h2:q≠c):Dr (upd H q o) p c:=by
 obtain ⟨ns,a,r,s,e1,e2,k⟩:=d.ex
 exact ⟨ns,a,r,s,by rw [aJ h1.symm];exact e1,by rw [aJ h2.symm];exact e2,k⟩
theorem Dr.cell (d:Dr H p c):∃ xs,H c=some (.lst xs):=by
 obtain ⟨ns,a,r,s,e1,e2,k⟩:=d.ex
 exact ⟨_,e2⟩
theorem Dr.neN (d:Dr H p c) (h:H q=none):p≠q:=by
 obtain ⟨ns,a,r,s,h1,_⟩:=d.ex
 exact aO h1 h
structure Txt (K:PySem.W.Frag) (mg:Str->Option Value):Prop where
 len:mg "len" = none
 range:mg "range" = none
 list:mg "list" = none
 tuple:mg "tuple" = none
 str:mg "str" = none
 bool:mg "bool" = none
 int:mg "int" = none
 min:mg "min" = none
 repr:mg "repr" = none
 all:mg "all" = none
 any:mg "any" = none
 isinstance:mg "isinstance" = none
section
variable {P:Program} {w:World} {K:PySem.W.Frag} {mg:Str->Option Value} {base:Heap}
def vo (K:PySem.W.Frag):Sp:=fun vs H Q _=>∃ (a:Addr) (ns:List Int),vs=[.ref a]/\bM K H a (ns.map V.int)/\ns.length≤63/\∀ (p c:Addr) (H':Hp),Dr H' p c->aA H H'->H p=none->Q (.ref p) H'
theorem Pu:aU ["_law_script","_law_seed","_law_cell"] ["_law_script"] (aC (top 37)):=⟨rfl,rfl,rfl,by decide +kernel,rfl,by decide +kernel,by decide +kernel⟩
theorem xY (F:gU K "_law_begin" "_law_begin" (top 37) f fd) (T:Txt K mg):aR P w K mg base bQ 1 f fd ["_law_script"] (vo K):=by
 refine F.ok Pu (fun vs H Q E h=>?_) (fun cdv A outer s H vs Q E hr h=>?_)
 ·obtain ⟨a,ns,rfl,_⟩:=h
  rfl
 ·obtain ⟨a,ns,rfl,hS,hlen,k⟩:=h
  refine ⟨_,(au (bh (i:=1) Pu.nd rfl (Or.inl rfl) aq)
   (au (eG PassesOwn.never rfl (eU (cj vH (pv 0) cN (cL aq))) (bj (i:=2) Pu.nd rfl (Or.inl rfl))
    (aB (bh (i:=1) Pu.nd rfl (Or.inl rfl) (aZ gJ (aZ cW (aZ cW (aZ jA (pv 1) aq) (aZ jA (pv 2) aq)) aq) aq))))
   (aB (aK (Bo (jK aF (ig ql (by rfl) T.list pU (aa (cj vH (pv 0) cN (cL aq)) aj)) (jK aF aq (jK aF aq (jK aF (pv 1) Af)))) rfl rfl (List.cons_ne_nil _ _) (by show 4≤15;decide)))))),?_⟩
  have hcut:iM (ns.map V.int) none (some 63)=ns.map V.int:=by
   show ((ns.map V.int).drop (HT.dF _ 0 none)).take (HT.dF _ _ (some ((63:Nat):Int))-HT.dF _ 0 none)=_
   rw [HT.jE,HT.qt,List.drop_zero,Nat.sub_zero,List.take_of_length_le]
   rw [List.length_map];omega
  refine ⟨_,rfl,_,rfl,a,_,rfl,hS,fun q hq=>⟨q,rfl,⟨_,bM.of ak⟩,?_⟩⟩
  rw [hcut]
  have hS':∀ o,bM K (upd H q o) a (ns.map V.int):=fun o=>(show aA H (upd H q o) from fun b u e=>by rw [aJ (aO e hq)];exact e).seq hS
  refine j5 (K:=K) (a:=q) (xs:=ns.map V.int) (fun i U H2=>∃ (z:Int) (v:Option V),U=[some (.ref a),some (.int z),v]/\0≤z/\z<Ht/\H2=upd H q (.lst (ns.map V.int)))
   ⟨20011,none,rfl,by decide,by decide,rfl⟩ (fun i U H2 _ ⟨_,_,_,_,_,e⟩=>by rw [e];exact bM.of ak) ?_ ?_
  ·rintro i y U H2 hi ⟨z,v,rfl,h0,h1,rfl⟩
   obtain ⟨n,-,rfl⟩:=List.mem_map.mp (List.mem_of_getElem? hi)
   refine ⟨_,rfl,_,_,rfl,rfl,.inl ⟨by omega,by simp only [Ht] at h1;omega⟩,_,rfl,_,_,rfl,rfl,.inr ⟨by decide,by decide⟩,_,_,rfl,rfl,_,_,rfl,rfl,_,_,rfl,rfl,(by show (0:Int)<2305843009213693951;decide),?_⟩
   exact ⟨_,_,rfl,Int.emod_nonneg _ (by decide),Int.emod_lt_of_pos _ (by decide),rfl⟩
  ·rintro U H2 ⟨z,v,rfl,h0,h1,rfl⟩
   intro p hp
   have s1:aA H (upd (upd H q (.lst (ns.map V.int))) p (.dK [])):=(aA.new hq).trans (aA.new hp)
   refine ⟨_,rfl,_,rfl,a,_,rfl,s1.seq hS,fun q2 hq2=>⟨q2,_,rfl,.inl (bM.of ak),fun l hl=>⟨_,rfl,?_,v4 l 0 0 z,rfl,by show 4≤15;decide,?_⟩⟩⟩
   ·exact (aA.new hl) _ _ ((aA.new hq2) _ _ ak)
   ·rw [hcut]
    have hpl:(upd (upd (upd (upd H q (.lst (ns.map V.int))) p (.dK [])) q2 (.lst (ns.map V.int))) l (.lst (ns.map V.int))) p=some (.dK []):=(aA.new (by rw [hcut] at hl;exact hl)) _ _ ((aA.new hq2) _ _ ak)
    have hlp:l≠p:=fZ ak hpl (by intro z;cases z)
    refine k p l _ ⟨ns,0,0,z,ak,by rw [aJ hlp];exact ak,hlen,by decide,by omega,by decide,h0,h1⟩ ?_ ((aA.new hq).free hp)
    intro b u e
    have e1:=((aA.new (q:=l) (o:=.lst (ns.map V.int)) (by rw [hcut] at hl;exact hl)) _ _ ((aA.new hq2) _ _ (s1 b u e)))
    rw [aJ (aO ((aA.new hq) b u e) hp)]
    exact e1
def gj:Sp:=fun vs H Q _=>∃ (p c:Addr) (m:Int),vs=[.ref p,.int m]/\Dr H p c/\0<m/\m<340282366920938463463374607431768211456/\∀ (r:Int) (H':Hp),0≤r->r<m->Dr H' p c->d9 p H H'->Q (.int r) H'
theorem Ox:aU ["_law_d","_law_many","_law_cell","_law_digit","_law_one"] ["_law_d","_law_many"] (aC (top 38)):=⟨rfl,rfl,rfl,by decide +kernel,rfl,by decide +kernel,by decide +kernel⟩
theorem eQ (F:gU K "_law_pick" "_law_pick" (top 38) f fd) (T:Txt K mg):aR P w K mg base bQ 1 f fd ["_law_d","_law_many"] gj:=by
 refine F.ok Ox (fun vs H Q E h=>?_) (fun cdv A outer s H vs Q E hr h=>?_)
 ·obtain ⟨p,c,m,rfl,_⟩:=h
  rfl
 ·obtain ⟨p,c,m,rfl,D,m0,m1,k⟩:=h
  have hu:=Kv hr
  refine ⟨_,(au
 (bu (PW.pt (kJ (aH bx (dq hu (pv 0) aF (fun _ _=>rfl)) aq (aL _)) (jV (aH nR (dq hu (pv 0) aF (fun _ _=>rfl)) (aM a_ (by rfl) T.len cF (aa (dq hu (pv 0) aF (fun _ _=>rfl)) aj)) (aL _))))) (au
 (bh (i:=2) Ox.nd rfl (Or.inl rfl) (aY dG (dq hu (pv 0) aF (fun _ _=>rfl)) (dq hu (pv 0) aF (fun _ _=>rfl)) (fun _ _=>rfl)))
 (au
 (jW hu (pv 0) aF (aZ cW (dq hu (pv 0) aF (fun _ _=>rfl)) aq) rfl)
 (aB
 (bu (aH Lx (pv 2) (aZ ue aq aq) (aL _)) (aB
 (jW hu (pv 0) aF (pv 2) rfl)) (aB
 (jW hu (pv 0) aF (aZ gJ (aZ cW (aZ cW (aZ jA (dq hu (pv 0) aF (fun _ _=>rfl)) aq) (aZ jA (pv 2) aq)) aq) aq) rfl)))))) aP)
 (au
 (bu (aH zG (dq hu (pv 0) aF (fun _ _=>rfl)) aq (aL _)) (au
 (bh (i:=3) Ox.nd rfl (Or.inl rfl) (aZ gJ (dq hu (pv 0) aF (fun _ _=>rfl)) (pv 1)))
 (au
 (jW hu (pv 0) aF (aZ yE (dq hu (pv 0) aF (fun _ _=>rfl)) (pv 1)) rfl)
 (aB
 (aK (pv 3))))) aP)
 (au
 (bh (i:=4) Ox.nd rfl (Or.inl rfl) (aZ gJ (aZ jA (dq hu (pv 0) aF (fun _ _=>rfl)) (dq hu (pv 0) aF (fun _ _=>rfl))) aq))
 (au
 (jW hu (pv 0) aF (aZ gJ (aZ cW (aZ cW (aZ jA (pv 4) aq) (aZ jA (dq hu (pv 0) aF (fun _ _=>rfl)) aq)) aq) aq) rfl)
 (aB
 (aK (aZ gJ (aZ vN (dq hu (pv 0) aF (fun _ _=>rfl)) aq) (pv 1)))))))),?_⟩
  obtain ⟨ns,a,r,sd,h1,h2,hl,a0,a1,r0,s0,s1⟩:=D.ex
  have npc:c≠p:=fZ h2 h1 (by intro z;cases z)
  have small:∀ {x y z:Int},(v4 c x y z).length<sizeLine:=fun {x y z}=>jg (by show 4≤1000;decide)
  refine gb (fun σ' H'=>∃ (a' r' sd':Int) (v:Option V),σ'=[some (.ref p),some (.int m),v,none,none]/\H' p=some (.dK (v4 c a' r' sd'))/\d9 p H H'/\0≤a'/\a'≤ns.length/\0≤r'/\0≤sd'/\sd'<Ht) ?_ ?_
  ·rintro σ' H1 ⟨a',r',sd',v,rfl,e1,bt,b0,b1,c0,d0,d1⟩
   have hc1:∀ o,(upd H1 p o) c=some (.lst (ns.map V.int)):=fun o=>by rw [aJ npc];exact bt c _ h2 npc
   refine ⟨_,rfl,p,_,rfl,vq e1,_,_,rfl,rfl,_,rfl,?_⟩
   refine dM (fun hpos=>?_) (fun _=>?_)
   ·refine ⟨_,rfl,p,_,rfl,vq e1,_,rfl,_,_,rfl,rfl,m0,?_⟩
    refine ⟨_,rfl,p,_,rfl,vq e1,_,rfl,_,_,rfl,rfl,⟨m0,m1⟩,_,rfl,p,_,rfl,qH.k (k:=Sum.inr "rest") e1 small,_,rfl,?_⟩
    rw [CG]
    exact k _ _ (Int.emod_nonneg _ (by omega)) (Int.emod_lt_of_pos _ m0) ⟨ns,a',r' / m,sd',ak,hc1 _,hl,b0,b1,Int.ediv_nonneg c0 (by omega),d0,d1⟩ (bt.trans d9.upd)
   ·have sq:BL sd' sd':=.inl ⟨by omega,by simp only [Ht] at d1;omega⟩
    refine ⟨_,rfl,p,_,rfl,qU e1,_,rfl,p,_,rfl,qU e1,_,_,rfl,rfl,sq,_,_,rfl,rfl,(by show (0:Int)<2305843009213693951;decide),?_⟩
    have u0:=Int.emod_nonneg (sd'*sd') (show (2305843009213693951:Int)≠0 by decide)
    have u1:=Int.emod_lt_of_pos (sd'*sd') (show (0:Int)<2305843009213693951 by decide)
    refine ⟨_,rfl,_,_,rfl,rfl,.inr ⟨by decide,by decide⟩,_,rfl,p,_,rfl,qU e1,_,_,rfl,rfl,.inr ⟨by decide,by decide⟩,_,_,rfl,rfl,_,_,rfl,rfl,_,_,rfl,rfl,(by show (0:Int)<2305843009213693951;decide),_,rfl,p,_,rfl,qH.k (k:=Sum.inr "seed") e1 small,?_⟩
    rw [CP]
    generalize hsd:(sd'*sd' % 2305843009213693951*7+sd'*40503+12345) % 2305843009213693951=sn
    have v0:0≤sn:=hsd ▸ Int.emod_nonneg _ (by decide)
    have v1:sn<Ht:=hsd ▸ Int.emod_lt_of_pos _ (by decide)
    refine ⟨_,rfl,p,_,rfl,qU ak,_,_,rfl,rfl,⟨by decide,by decide⟩,_,rfl,_,_,rfl,rfl,m0,?_⟩
    exact k _ _ (Int.emod_nonneg _ (by omega)) (Int.emod_lt_of_pos _ m0) ⟨ns,a',r',sn,ak,hc1 _,hl,b0,b1,c0,v0,v1⟩ (bt.trans d9.upd)
  ·intro N hN
   refine ⟨_,rfl,p,_,rfl,vq h1,rfl,_,rfl,?_⟩
   refine dM (fun hz=>?_) (fun _=>?_)
   ·refine ⟨_,rfl,p,_,rfl,QG h1,_,rfl,p,_,rfl,za h1,c,_,rfl,.inl (bM.of h2),_,_,rfl,rfl,_,rfl,?_⟩
    rw [List.length_map]
    refine dM (fun hlt=>?_) (fun _=>?_)
    ·have hlt:a<ns.length:=of_decide_eq_true hlt
     obtain ⟨z,hz'⟩:∃ z,ns[a.toNat]?=some z:=⟨_,List.getElem?_eq_getElem (by omega)⟩
     have hat:qe (ns.map V.int) a=some (.int z):=by
      have e:(a:Int)=((a.toNat:Nat):Int):=by omega
      rw [e]
      refine aG ?_
      rw [List.getElem?_map,hz'];rfl
     refine ⟨_,rfl,p,_,rfl,za h1,_,rfl,p,_,rfl,QG h1,c,_,_,_,rfl,rfl,bM.of h2,hat,?_⟩
     refine ⟨_,rfl,p,_,rfl,QG h1,_,_,rfl,rfl,_,rfl,p,_,rfl,qH.k (k:=Sum.inr "at") h1 small,?_⟩
     rw [pat]
     refine ⟨_,rfl,_,_,rfl,rfl,⟨by decide,by decide,by decide⟩,_,_,rfl,rfl,_,rfl,?_⟩
     refine dM (fun hge=>?_) (fun _=>?_)
     ·refine ⟨_,rfl,_,rfl,p,_,rfl,qH.k (k:=Sum.inr "rest") ak small,?_⟩
      rw [CG]
      have hge:(10:Int) ^ 18≤z:=of_decide_eq_true hge
      exact hN _ _ ⟨a+1,z,sd,_,rfl,ak,d9.upd.trans d9.upd,by omega,by omega,by omega,s0,s1⟩
     ·refine ⟨_,rfl,p,_,rfl,qU ak,_,_,rfl,rfl,.inr ⟨by decide,by decide⟩,_,rfl,_,_,rfl,rfl,.inr ⟨by decide,by decide⟩,_,_,rfl,rfl,_,_,rfl,rfl,_,_,rfl,rfl,(by show (0:Int)<2305843009213693951;decide),_,rfl,p,_,rfl,qH.k (k:=Sum.inr "seed") ak small,?_⟩
      rw [CP]
      exact hN _ _ ⟨a+1,r,_,_,rfl,ak,d9.upd.trans d9.upd,by omega,by omega,r0,Int.emod_nonneg _ (by decide),Int.emod_lt_of_pos _ (by decide)⟩
    ·exact hN _ _ ⟨a,r,sd,_,rfl,h1,d9.refl,a0,a1,r0,s0,s1⟩
   ·exact hN _ _ ⟨a,r,sd,_,rfl,h1,d9.refl,a0,a1,r0,s0,s1⟩
end
theorem Dr.dk (d:Dr H p c):∃ kvs,H p=some (.dK kvs):=by
 obtain ⟨ns,a,r,s,h1,_⟩:=d.ex
 exact ⟨_,h1⟩
theorem Dr.seq (d:Dr H p c) (e:d9 p H H') (h:bM K H a xs):bM K H' a xs:=let ⟨_,hp⟩:=d.dk;e.seq hp h
theorem Dr.rep (d:Dr H p c) (e:d9 p H H') (h:Rep K H v x):Rep K H' v x:=let ⟨_,hp⟩:=d.dk;h.but e hp
theorem Dr.new (d:Dr H p c) (h:H q=none):Dr (upd H q o) p c:=d.mono (aA.new h)
def tG (K:PySem.W.Frag):Sp:=fun vs H Q _=>∃ (p c q:Addr) (xs:List V),vs=[.ref p,.ref q]/\Dr H p c/\bM K H q xs/\xs≠[]/\xs.length≤1000/\∀ (x:V) (H':Hp),x∈xs->Dr H' p c->d9 p H H'->Q x H'
theorem Uy:aU ["_law_d","_law_things"] ["_law_d","_law_things"] (aC (top 39)):=⟨rfl,rfl,rfl,by decide +kernel,rfl,by decide +kernel,by decide +kernel⟩
theorem o_ (F:gU K "_law_of" "_law_of" (top 39) f fd) (T:Txt K mg) (DP:cO K mg "_law_pick" (top 38) ["_law_d","_law_many"] fP fdP):aR P w K mg base bQ 2 f fd ["_law_d","_law_things"] (tG K):=by
 have GP:aR P w K mg base bQ 1 fP fdP ["_law_d","_law_many"] gj:=eQ DP.F T
 refine F.ok Uy (fun vs H Q E h=>?_) (fun cdv A outer s H vs Q E hr h=>?_)
 ·obtain ⟨p,c,q,xs,rfl,_⟩:=h
  rfl
 ·obtain ⟨p,c,q,xs,rfl,D,hq,hne,hl,k⟩:=h
  refine ⟨_,(aB (aK (aY dG (pv 1) (aD GP hr rfl DP.mg DP.F.kp DP.b .nil aN (aa (pv 0) (aa (aM a_ (by rfl) T.len cF (aa (pv 1) aj)) aj))) (fun _ _=>rfl)))),?_⟩
  have hpos:0<xs.length:=List.length_pos_iff.mpr hne
  refine ⟨_,rfl,_,rfl,_,rfl,q,xs,rfl,(.inl hq),p,c,_,rfl,D,by omega,by omega,fun r H' r0 r1 D' bt=>?_⟩
  obtain ⟨j,rfl⟩:=Int.eq_ofNat_of_zero_le r0
  have hx:j<xs.length:=by omega
  exact ⟨q,xs,_,xs[j],rfl,rfl,D.seq bt hq,aG (List.getElem?_eq_getElem hx),k _ _ (List.getElem_mem hx) D' bt⟩
def spS (K:PySem.W.Frag):Nat->Sp
 |0=>fun _ _ _ _=>False
 |n+1=>fun vs H Q _=>∃ (x y:V) (d:PyData),vs=[x,y]/\Rep K H x d/\Rep K H y d/\cu d≤n/\iJ d≤100000/\∀ H':Hp,aA H H'->Q (.bl true) H'
theorem Uo:aU ["_law_found","_law_due"] ["_law_found","_law_due"] (aC (top 41)):=⟨rfl,rfl,rfl,by decide +kernel,rfl,by decide +kernel,by decide +kernel⟩
theorem pW {Q:VK} {v:V} {H:Hp} (h:Q (.bl true) H):Q (.bl (decide (v=v))) H:=by rw [decide_eq_true rfl];exact h
theorem Bh {f:Addr} {fd:FuncData} (DS:cO K mg "_law_same" (top 41) ["_law_found","_law_due"] f fd) (T:Txt K mg) (n:Nat):aR P w K mg base bQ n f fd ["_law_found","_law_due"] (spS K n):=by
 refine Nat.rec (motive:=fun n=>aR P w K mg base bQ n f fd ["_law_found","_law_due"] (spS K n)) ⟨fun _ _ _ _ h=>h.elim,fun _ _ _ _ _ _ _ _ _ _ _ _ _ h=>h.elim⟩ (fun n GS=>?_) n
 refine DS.F.ok Uo (fun vs H Q E h=>?_) (fun cdv A outer s H vs Q E hr h=>?_)
 ·obtain ⟨x,y,d,rfl,_⟩:=h
  rfl
 ·obtain ⟨x,y,d,rfl,hx,hy,hn,hm,k⟩:=h
  refine ⟨_,(au
 (bu (aH uB (pv 1) iZ (aL _)) (aB
 (aK (bY uB (pv 0) iZ (aL _)))) aP)
 (au
 (bu (PW.pt (jQ (dC (aM cg (by rfl) T.isinstance aX (aa (pv 1) (aa (dz rfl T.bool jC) aj)))) (i_ (dC (aM cg (by rfl) T.isinstance aX (aa (pv 0) (aa (dz rfl T.bool jC) aj))))))) (aB
 (aK (cC (aM cg (by rfl) T.isinstance aX (aa (pv 1) (aa (dz rfl T.bool jC) aj))) (cC (aM cg (by rfl) T.isinstance aX (aa (pv 0) (aa (dz rfl T.bool jC) aj))) (dD (bY bx (pv 0) (pv 1) (aL _))))))) aP)
 (au
 (bu (dC (aM oO (by rfl) T.isinstance aX (aa (pv 1) (aa (bD (aa (dz rfl T.int kE) (aa (dz rfl T.str lA) aj))) aj)))) (aB
 (aK (cC (aM oO (by rfl) T.isinstance aX (aa (pv 0) (aa (bD (aa (dz rfl T.int kE) (aa (dz rfl T.str lA) aj))) aj))) (cC (bY bx (aM cg (by rfl) T.isinstance aX (aa (pv 0) (aa (dz rfl T.int kE) aj))) (aM cg (by rfl) T.isinstance aX (aa (pv 1) (aa (dz rfl T.int kE) aj))) (aL _)) (dD (bY bx (pv 0) (pv 1) (aL _))))))) aP)
 (au
 (bu (PW.pt (jQ (aH pC (aM cg (by rfl) T.isinstance aX (aa (pv 1) (aa (dz rfl T.list pU) aj))) (aM cg (by rfl) T.isinstance aX (aa (pv 0) (aa (dz rfl T.list pU) aj))) (aL _)) (i_ (aH pC (aM cg (by rfl) T.isinstance aX (aa (pv 1) (aa (dz rfl T.tuple e_) aj))) (aM cg (by rfl) T.isinstance aX (aa (pv 0) (aa (dz rfl T.tuple e_) aj))) (aL _))))) (aB
 (aK km)) aP)
 (aB
 (aK (cC (bY bx (aM a_ (by rfl) T.len cF (aa (pv 0) aj)) (aM a_ (by rfl) T.len cF (aa (pv 1) aj)) (aL _)) (dD (aM (kZ rfl) (by rfl) T.all uL (aa (gD (own:=["_law_k"]) (js:=[0,1]) (N':=["_law_k","_law_found","_law_due"]) (bw.of (osc:=aC (top 41)) (N:=["_law_found","_law_due"]) rfl rfl ⟨rfl,by decide +kernel,by decide +kernel,by decide +kernel,rfl,by decide +kernel⟩) rfl (fU rfl T.range (aa (aM a_ (by rfl) T.len cF (aa (pv 1) aj)) aj)) (fun _ _ _ _ _=>(bj (i:=0) (show List.Nodup (["_law_k","_law_found","_law_due"]:List Str) by decide +kernel) rfl (Or.inl rfl) (Or.inr rfl))) (fun _ _ _ _ _=>cZ) (fun _ _ _ _ _=>(aD GS hr rfl DS.mg DS.F.kp DS.b .nil aN (aa (aY (r:=T6 K) xT (pv 1) (pv 0) (fun _ _=>rfl)) (aa (aY (r:=T6 K) xT (pv 2) (pv 0) (fun _ _=>rfl)) aj))))) aj)))))))))),?_⟩
  have z2:2≤sizeLine:=by decide
  cases hx with
  | non=>
    cases hy
    refine ⟨_,rfl,rfl,_,rfl,cI rfl ?_⟩
    exact ⟨_,rfl,rfl,k _ (aA.refl _)⟩
  | bl b=>
    cases hy
    refine ⟨_,rfl,rfl,_,rfl,bZ rfl ?_⟩
    refine ⟨_,rfl,_,_,_,_,rfl,(.bl b),rfl,_,rfl,cI rfl (cI rfl ?_)⟩
    exact ⟨_,rfl,_,_,_,_,rfl,(.bl b),rfl,_,rfl,cI rfl ⟨_,rfl,_,_,_,_,rfl,(.bl b),rfl,_,rfl,cI rfl ⟨_,rfl,_,rfl,rfl,pW (k _ (aA.refl _))⟩⟩⟩
  | int i=>
    cases hy
    refine ⟨_,rfl,rfl,_,rfl,bZ rfl ?_⟩
    refine ⟨_,rfl,_,_,_,_,rfl,(.int i),rfl,_,rfl,bZ rfl ?_⟩
    refine ⟨_,rfl,_,_,_,_,rfl,(.int i),rfl,_,rfl,bZ rfl ?_⟩
    refine ⟨_,rfl,z2,fun p hp=>⟨_,p,_,_,_,_,rfl,ak,.int i,rfl,_,rfl,cI rfl ?_⟩⟩
    refine ⟨_,rfl,z2,fun p2 hp2=>⟨_,p2,_,_,_,_,rfl,ak,.int i,rfl,_,rfl,cI rfl ?_⟩⟩
    refine ⟨_,rfl,_,_,_,_,rfl,.int i,rfl,_,rfl,_,_,_,_,rfl,.int i,rfl,rfl,_,rfl,?_⟩
    exact cI rfl ⟨_,rfl,_,rfl,rfl,pW (k _ ((aA.new hp).trans (aA.new hp2)))⟩
  | str z=>
    cases hy
    refine ⟨_,rfl,rfl,_,rfl,bZ rfl ?_⟩
    refine ⟨_,rfl,_,_,_,_,rfl,(.str z),rfl,_,rfl,bZ rfl ?_⟩
    refine ⟨_,rfl,_,_,_,_,rfl,(.str z),rfl,_,rfl,bZ rfl ?_⟩
    refine ⟨_,rfl,z2,fun p hp=>⟨_,p,_,_,_,_,rfl,ak,.str z,rfl,_,rfl,cI rfl ?_⟩⟩
    refine ⟨_,rfl,z2,fun p2 hp2=>⟨_,p2,_,_,_,_,rfl,ak,.str z,rfl,_,rfl,cI rfl ?_⟩⟩
    refine ⟨_,rfl,_,_,_,_,rfl,.str z,rfl,_,rfl,_,_,_,_,rfl,.str z,rfl,rfl,_,rfl,?_⟩
    exact cI rfl ⟨_,rfl,_,rfl,rfl,pW (k _ ((aA.new hp).trans (aA.new hp2)))⟩
  | tup g rs=>
    cases hy with
    | tup g2 rs2=>
      rename_i a1 xs1 ds a2 xs2
      refine ⟨_,rfl,rfl,_,rfl,bZ rfl ?_⟩
      refine ⟨_,rfl,_,_,_,_,rfl,(.tup g2 rs2),rfl,_,rfl,bZ rfl ?_⟩
      refine ⟨_,rfl,_,_,_,_,rfl,(.tup g rs),rfl,_,rfl,bZ rfl ?_⟩
      refine ⟨_,rfl,z2,fun p hp=>⟨_,p,_,_,_,_,rfl,ak,Rep.same (.tup g2 rs2) (aA.new hp),rfl,_,rfl,bZ rfl ?_⟩⟩
      have s1:aA H (upd H p (.tup [.ty "int",.ty "str"])):=aA.new hp
      refine ⟨_,rfl,_,_,_,_,rfl,(Rep.same (.tup g2 rs2) s1),rfl,_,rfl,_,_,_,_,rfl,(Rep.same (.tup g rs) s1),rfl,rfl,_,rfl,bZ rfl ?_⟩
      refine ⟨_,rfl,_,_,_,_,rfl,(Rep.same (.tup g2 rs2) s1),rfl,_,rfl,_,_,_,_,rfl,(Rep.same (.tup g rs) s1),rfl,rfl,_,rfl,bZ rfl ?_⟩
      refine ⟨_,rfl,_,_,rfl,.inr (s1.tup g),_,rfl,_,_,rfl,.inr (s1.tup g2),rfl,_,rfl,?_⟩
      have l1:=rs.length
      have l2:=rs2.length
      have hm':xs2.length≤100000:=by simp only [iJ] at hm;omega
      have hl:xs1.length=xs2.length:=by omega
      generalize upd H p (.tup [.ty "int",.ty "str"])=H1 at s1 ⊢
      refine cI (by rw [hl];simp) ?_
      obtain ⟨n,rfl⟩:∃ n',n=n'+1:=⟨n-1,by simp only [cu] at hn;omega⟩
      refine ⟨_,rfl,_,_,rfl,.inr (s1.tup g2),_,rfl,by omega,by omega,?_⟩
      refine iD (n:=xs2.length) (fun i ys σ' H'=>∃ (v:Option V),ys=(List.replicate i true).map V.bl/\σ'=[v,some _,some _]/\aA H1 H') (by exact Nat.le_trans hm' (by decide)) ⟨none,rfl,rfl,aA.refl _⟩ ?_ ?_
      ·rintro i ys σ' H' hi hys ⟨v,rfl,rfl,s2⟩ N hN
       obtain ⟨d1,e1,r1⟩:=rs.get' (i:=i) (x:=xs1[i]) (List.getElem?_eq_getElem (by omega))
       obtain ⟨d2,e2,r2⟩:=rs2.get' (i:=i) (x:=xs2[i]) (List.getElem?_eq_getElem hi)
       rw [e1] at e2
       cases e2
       have m1:=List.mem_of_getElem? e1
       have q1:=jB m1
       have q2:=nG m1
       have at1:qe xs1 (0+(i:Int))=some xs1[i]:=by rw [Int.zero_add];exact aG (List.getElem?_eq_getElem (by omega))
       have at2:qe xs2 (0+(i:Int))=some xs2[i]:=by rw [Int.zero_add];exact aG (List.getElem?_eq_getElem hi)
       refine ⟨_,rfl,_,rfl,.inr (.inl ⟨_,_,_,_,rfl,rfl,(s1.trans s2).tup g,at1,?_⟩)⟩
       refine ⟨_,rfl,_,rfl,.inr (.inl ⟨_,_,_,_,rfl,rfl,(s1.trans s2).tup g2,at2,?_⟩)⟩
       refine ⟨_,_,d1,rfl,r1.same (s1.trans s2),r2.same (s1.trans s2),?_,?_,fun H'' s3=>?_⟩
       ·simp only [cu] at hn;omega
       ·simp only [iJ] at hm;omega
       exact hN _ _ _ (by simp) ⟨_,by rw [List.replicate_succ',List.map_append];rfl,rfl,s2.trans s3⟩
      ·rintro ys σ' H' hys ⟨v,rfl,rfl,s2⟩
       refine ⟨by rw [List.length_map,List.length_replicate];exact Nat.le_trans hm' (by decide),fun q hq=>⟨q,_,rfl,bM.of ak,?_⟩⟩
       show Q (.bl ((List.replicate xs2.length true).all id)) _
       rw [show (List.replicate xs2.length true).all id=true by simp]
       exact k _ ((s1.trans s2).trans (aA.new hq))
  | lst g rs=>
    cases hy with
    | lst g2 rs2=>
      rename_i a1 xs1 ds a2 xs2
      refine ⟨_,rfl,rfl,_,rfl,bZ rfl ?_⟩
      refine ⟨_,rfl,_,_,_,_,rfl,(.lst g2 rs2),rfl,_,rfl,bZ rfl ?_⟩
      refine ⟨_,rfl,_,_,_,_,rfl,(.lst g rs),rfl,_,rfl,bZ rfl ?_⟩
      refine ⟨_,rfl,z2,fun p hp=>⟨_,p,_,_,_,_,rfl,ak,Rep.same (.lst g2 rs2) (aA.new hp),rfl,_,rfl,bZ rfl ?_⟩⟩
      have s1:aA H (upd H p (.tup [.ty "int",.ty "str"])):=aA.new hp
      refine ⟨_,rfl,_,_,_,_,rfl,(Rep.same (.lst g2 rs2) s1),rfl,_,rfl,_,_,_,_,rfl,(Rep.same (.lst g rs) s1),rfl,rfl,_,rfl,bZ rfl ?_⟩
      refine ⟨_,rfl,_,_,_,_,rfl,(Rep.same (.lst g2 rs2) s1),rfl,_,rfl,_,_,_,_,rfl,(Rep.same (.lst g rs) s1),rfl,rfl,_,rfl,bZ rfl ?_⟩
      refine ⟨_,rfl,_,_,rfl,.inl (s1.seq g),_,rfl,_,_,rfl,.inl (s1.seq g2),rfl,_,rfl,?_⟩
      have l1:=rs.length
      have l2:=rs2.length
      have hm':xs2.length≤100000:=by simp only [iJ] at hm;omega
      have hl:xs1.length=xs2.length:=by omega
      generalize upd H p (.tup [.ty "int",.ty "str"])=H1 at s1 ⊢
      refine cI (by rw [hl];simp) ?_
      obtain ⟨n,rfl⟩:∃ n',n=n'+1:=⟨n-1,by simp only [cu] at hn;omega⟩
      refine ⟨_,rfl,_,_,rfl,.inl (s1.seq g2),_,rfl,by omega,by omega,?_⟩
      refine iD (n:=xs2.length) (fun i ys σ' H'=>∃ (v:Option V),ys=(List.replicate i true).map V.bl/\σ'=[v,some _,some _]/\aA H1 H') (by exact Nat.le_trans hm' (by decide)) ⟨none,rfl,rfl,aA.refl _⟩ ?_ ?_
      ·rintro i ys σ' H' hi hys ⟨v,rfl,rfl,s2⟩ N hN
       obtain ⟨d1,e1,r1⟩:=rs.get' (i:=i) (x:=xs1[i]) (List.getElem?_eq_getElem (by omega))
       obtain ⟨d2,e2,r2⟩:=rs2.get' (i:=i) (x:=xs2[i]) (List.getElem?_eq_getElem hi)
       rw [e1] at e2
       cases e2
       have m1:=List.mem_of_getElem? e1
       have q1:=jB m1
       have q2:=nG m1
       have at1:qe xs1 (0+(i:Int))=some xs1[i]:=by rw [Int.zero_add];exact aG (List.getElem?_eq_getElem (by omega))
       have at2:qe xs2 (0+(i:Int))=some xs2[i]:=by rw [Int.zero_add];exact aG (List.getElem?_eq_getElem hi)
       refine ⟨_,rfl,_,rfl,.inl ⟨_,_,_,_,rfl,rfl,(s1.trans s2).seq g,at1,?_⟩⟩
       refine ⟨_,rfl,_,rfl,.inl ⟨_,_,_,_,rfl,rfl,(s1.trans s2).seq g2,at2,?_⟩⟩
       refine ⟨_,_,d1,rfl,r1.same (s1.trans s2),r2.same (s1.trans s2),?_,?_,fun H'' s3=>?_⟩
       ·simp only [cu] at hn;omega
       ·simp only [iJ] at hm;omega
       exact hN _ _ _ (by simp) ⟨_,by rw [List.replicate_succ',List.map_append];rfl,rfl,s2.trans s3⟩
      ·rintro ys σ' H' hys ⟨v,rfl,rfl,s2⟩
       refine ⟨by rw [List.length_map,List.length_replicate];exact Nat.le_trans hm' (by decide),fun q hq=>⟨q,_,rfl,bM.of ak,?_⟩⟩
       show Q (.bl ((List.replicate xs2.length true).all id)) _
       rw [show (List.replicate xs2.length true).all id=true by simp]
       exact k _ ((s1.trans s2).trans (aA.new hq))
def Lc (x:Str):Prop:=∀ c∈x.cps.toList,97≤c/\c≤122
structure Nm (x:Str):Prop where
 lo:1≤x.length
 hi:x.length≤8
 lc:Lc x
theorem Lc.app (a:Lc x) (b:Lc y):Lc (x++y):=fun c hc=>by
 rw [Str.cps_append,Array.toList_append,List.mem_append] at hc
 exact hc.elim (a c) (b c)
theorem mD (sep:Str) (hs:sep.cps.toList=[]):∀ ys:List Str,(Str.join sep ys).cps.toList=(ys.map (·.cps.toList)).flatten
 |[]=>rfl
 |[x]=>by show x.cps.toList=_;simp
 | x::y::r=>by
   show (x++sep++Str.join sep (y::r)).cps.toList=_
   rw [Str.cps_append,Array.toList_append,Str.cps_append,Array.toList_append,hs,List.append_nil,mD sep hs (y::r),List.map_cons (l:=y::r),List.flatten_cons]
theorem yV (sep:Str) (ys:List Str):PySem.Txt.join sep ys=Str.join sep ys:=by
 show PySem.Builtin.Str.glued sep ys=_
 rw [PySem.StrLaws.glued_eq_join]
theorem vg (x:Str):x.length=x.cps.toList.length:=by simp [Str.length]
section
variable {P:Program} {w:World} {K:PySem.W.Frag} {mg:Str->Option Value} {base:Heap}
def q9:Sp:=fun vs H Q _=>∃ (p dc:Addr),vs=[.ref p]/\Dr H p dc/\∀ (x:Str) (H':Hp),Nm x->Dr H' p dc->d9 p H H'->Q (.str x) H'
theorem Lb:aU ["_law_d","_law_letters","_law_first","_law_size","_law_some"] ["_law_d"] (aC (top 42)):=⟨rfl,rfl,rfl,by decide +kernel,rfl,by decide +kernel,by decide +kernel⟩
theorem sY (h:qe ("abcdefghijklmnopqrstuvwxyz" : Str).cps.toList i=some c):97≤c/\c≤122:=by
 have:c∈("abcdefghijklmnopqrstuvwxyz" : Str).cps.toList:=by
  unfold qe at h
  obtain ⟨j,_,e⟩:=Option.bind_eq_some_iff.mp h
  exact List.mem_of_getElem? e
 have all:∀ c∈("abcdefghijklmnopqrstuvwxyz" : Str).cps.toList,97≤c/\c≤122:=by decide +kernel
 exact all c this
theorem qG (F:gU K "_law_word" "_law_word" (top 42) f fd) (T:Txt K mg) (DP:cO K mg "_law_pick" (top 38) ["_law_d","_law_many"] fP fdP) (DO:cO K mg "_law_of" (top 39) ["_law_d","_law_things"] fO fdO) :
 aR P w K mg base bQ 3 f fd ["_law_d"] q9:=by
 have GP:aR P w K mg base bQ 1 fP fdP ["_law_d","_law_many"] gj:=eQ DP.F T
 have GO:aR P w K mg base bQ 2 fO fdO ["_law_d","_law_things"] (tG K):=o_ DO.F T DP
 refine F.ok Lb (fun vs H Q E h=>?_) (fun cdv A outer s H vs Q E hr h=>?_)
 ·obtain ⟨p,dc,rfl,_⟩:=h
  rfl
 ·obtain ⟨p,dc,rfl,D,k⟩:=h
  have hr1:bF 1 _:=hr.mono (by decide)
  refine ⟨_,(au
 (bh (i:=1) Lb.nd rfl (Or.inr rfl) aF)
 (au
 (bh (i:=2) Lb.nd rfl (Or.inl rfl) (aD GO hr rfl DO.mg DO.F.kp DO.b .nil aN (aa (pv 0) (aa (bU (aa aF (aa aF (aa aF (aa aF (aa aF aj)))))) aj))))
 (au
 (bh (i:=3) Lb.nd rfl (Or.inl rfl) (aZ cW aq (aD GP hr1 rfl DP.mg DP.F.kp DP.b .nil aN (aa (pv 0) (aa (aZ gO aq (aM iG (by rfl) T.len cF (aa (pv 2) aj))) aj)))))
 (au
 (bh (i:=4) Lb.nd rfl (Or.inl rfl) (lM PySem.F.plainAttrs_str PySem.F.slot_str_join PySem.F.type_str_join Bm aF (aa (gD (own:=["_law_k"]) (js:=[1,0]) (N':=["_law_k","_law_letters","_law_d"]) (bw.of (osc:=aC (top 42)) (N:=["_law_d","_law_letters","_law_first","_law_size","_law_some"]) rfl rfl ⟨rfl,by decide +kernel,by decide +kernel,by decide +kernel,rfl,by decide +kernel⟩) rfl (fU rfl T.range (aa (pv 3) aj)) (fun _ _ _ _ _=>(bj (i:=0) (show List.Nodup (["_law_k","_law_letters","_law_d"]:List Str) by decide +kernel) rfl (Or.inl rfl) (Or.inr rfl))) (fun _ _ _ _ _=>cZ) (fun _ _ _ _ _=>(aY (r:=Dj) pP (pv 1) (aD GP hr1 rfl DP.mg DP.F.kp DP.b .nil aN (aa (pv 2) (aa aq aj))) (fun _ _=>rfl)))) aj)))
 (aB
 (aK (aY dG (bU (aa (aZ cU (pv 2) (pv 4)) (aa (aZ cU (pv 4) (pv 2)) aj))) (aD GP hr1 rfl DP.mg DP.F.kp DP.b .nil aN (aa (pv 0) (aa aq aj))) (fun _ _=>rfl)))))))),?_⟩
  refine ⟨_,rfl,(show 5≤sizeLine by decide),fun q hq=>?_⟩
  refine ⟨p,dc,q,_,rfl,D.new hq,bM.of ak,by simp,by simp,fun x H1 hx D1 b1=>?_⟩
  obtain ⟨z,rfl,hz,lz⟩:∃ z:Str,x=.str z/\z.length≤7/\Lc z:=by
   simp only [List.mem_cons,List.not_mem_nil,or_false] at hx
   rcases hx with rfl|rfl|rfl|rfl|rfl
   all_goals exact ⟨_,rfl,by decide +kernel,by unfold Lc;decide +kernel⟩
  refine ⟨_,rfl,_,rfl,z,rfl,Nat.le_trans hz (by decide),_,_,rfl,rfl,p,dc,_,rfl,D1,by omega,by omega,fun r H2 r0 r1 D2 b2=>?_⟩
  refine ⟨_,_,rfl,rfl,?_⟩
  refine ⟨rfl,_,rfl,_,rfl,by omega,by omega,?_⟩
  refine iD (n:=(1+r).toNat) (fun i ys σ' H'=>∃ (cs:List Str) (v:Option V),ys=cs.map V.str/\σ'=[v,some (.str "abcdefghijklmnopqrstuvwxyz"),some (.ref p)]/\Dr H' p dc/\d9 p H2 H'/\∀ c∈cs,c.length=1/\Lc c) (Nat.le_trans (show (1+r).toNat≤8 by omega) (by decide)) ⟨[],none,rfl,rfl,D2,d9.refl,fun _ h=>nomatch h⟩ ?_ ?_
  ·rintro i ys σ' H' hi hys ⟨cs,v,rfl,rfl,D3,b3,hc⟩ N hN
   refine ⟨_,rfl,_,rfl,p,dc,_,rfl,D3,by decide,by decide,fun r' H4 r0' r1' D4 b4=>?_⟩
   obtain ⟨j,rfl⟩:=Int.eq_ofNat_of_zero_le r0'
   obtain ⟨c,hcj⟩:∃ c,("abcdefghijklmnopqrstuvwxyz" : Str).cps.toList[j]?=some c:=⟨_,List.getElem?_eq_getElem (by show j<26;omega)⟩
   have hat:qe ("abcdefghijklmnopqrstuvwxyz" : Str).cps.toList (j:Int)=some c:=aG hcj
   refine ⟨_,_,c,rfl,rfl,(show 26≤sizeLine by decide),hat,?_⟩
   refine hN _ _ _ (by simpa using hys) ⟨cs++[⟨#[c]⟩],_,by simp,rfl,D4,b3.trans b4,fun c' hc'=>?_⟩
   rcases List.mem_append.mp hc' with hc'|hc'
   ·exact hc c' hc'
   ·obtain rfl:c'=⟨#[c]⟩:=by simpa using hc'
    refine ⟨rfl,fun x hx=>?_⟩
    obtain rfl:x=c:=by simpa using hx
    exact sY hat
  ·rintro ys σ' H' hys ⟨cs,v,rfl,rfl,D3,b3,hc⟩
   rw [List.length_map] at hys
   refine ⟨by rw [List.length_map,hys];exact Nat.le_trans (show (1+r).toNat≤8 by omega) (by decide),fun q2 hq2=>?_⟩
   have hsum:(cs.map (·.length)).sum=cs.length:=by
    clear hys
    induction cs with
    |nil=>rfl
    |cons c t ih=>rw [List.map_cons,List.sum_cons,ih fun d hd=>hc d (List.mem_cons_of_mem _ hd),(hc c List.mem_cons_self).1,List.length_cons,Nat.add_comm]
   refine ⟨_,q2,cs,rfl,rfl,bM.of ak,by rw [hsum,show (Str.ofString "").length=0 from rfl];omega,?_⟩
   rw [yV]
   have jl:(Str.join (Str.ofString "") cs).length=cs.length:=by
    rw [vg,mD _ rfl,List.length_flatten,List.map_map,← hsum]
    congr 1
   have jc:Lc (Str.join (Str.ofString "") cs):=fun x hx=>by
    rw [mD _ rfl] at hx
    obtain ⟨l,hl,hxl⟩:=List.mem_flatten.mp hx
    obtain ⟨c,hcm,rfl⟩:=List.mem_map.mp hl
    exact (hc c hcm).2 x hxl
   generalize Str.join (Str.ofString "") cs=js at jl jc
   have hj8:js.length+z.length≤8/\1≤js.length:=by omega
   refine ⟨_,rfl,_,rfl,_,_,rfl,rfl,Nat.le_trans (show z.length+js.length≤8 by omega) (by decide),_,rfl,_,rfl,_,_,rfl,rfl,Nat.le_trans (show js.length+z.length≤8 by omega) (by decide),(show 2≤sizeLine by decide),fun q3 hq3=>?_⟩
   have D4:Dr _ p dc:=(D3.new (o:=.lst (cs.map V.str)) hq2).new (o:=.lst [.str (z++js),.str (js++z)]) hq3
   refine ⟨_,rfl,p,dc,_,rfl,D4,by decide,by decide,fun r' H5 r0' r1' D5 b5=>?_⟩
   have nm1:Nm (z++js):=⟨by rw [Str.length_append];omega,by rw [Str.length_append];omega,lz.app jc⟩
   have nm2:Nm (js++z):=⟨by rw [Str.length_append];omega,by rw [Str.length_append];omega,jc.app lz⟩
   have bt:d9 p H H5:=((((d9.new hq).trans b1).trans b2).trans b3).trans (((d9.new hq2).trans (d9.new hq3)).trans b5)
   have hq5:bM K H5 q3 [.str (z++js),.str (js++z)]:=D4.seq b5 (bM.of ak)
   by_cases h0:r'=0
   ·subst h0
    exact ⟨_,_,_,_,rfl,rfl,hq5,rfl,k _ _ nm1 D5 bt⟩
   ·obtain rfl:r'=1:=by omega
    exact ⟨_,_,_,_,rfl,rfl,hq5,rfl,k _ _ nm2 D5 bt⟩
def uU (K:PySem.W.Frag):Sp:=fun vs H Q _=>∃ (p dc:Addr) (m:Int),vs=[.ref p,.int m]/\Dr H p dc/\0≤m/\m≤60/\∀ (q:Addr) (ys:List Str) (H':Hp),H' q=some (.lst (ys.map V.str))->H q=none->(ys.length:Int)=m->(∀ y∈ys,Nm y)->ys.Nodup->Dr H' p dc->d9 p H H'->Q (.ref q) H'
theorem vO:aU ["_law_d","_law_many","_law_found","_law_k","_law_word_here","_law_step"] ["_law_d","_law_many"] (aC (top 43)):=⟨rfl,rfl,rfl,by decide +kernel,rfl,by decide +kernel,by decide +kernel⟩
noncomputable def wd (t:Nat):Str:=⟨#[97+t % 8,113+t / 8 % 8]⟩
theorem Kf (t:Nat):Nm (wd t):=⟨by show 1≤2;decide,by show 2≤8;decide,fun c hc=>by
 have:c=97+t % 8∨c=113+t / 8 % 8:=by simpa [wd] using hc
 omega⟩
theorem FJ (h:wd (k+s)=wd (k+s')) (h1:s<64) (h2:s'<64):s=s':=by
 have e:(#[97+(k+s) % 8,113+(k+s) / 8 % 8]:Array Nat)=#[97+(k+s') % 8,113+(k+s') / 8 % 8]:=congrArg Str.cps h
 have e1:97+(k+s) % 8=97+(k+s') % 8/\113+(k+s) / 8 % 8=113+(k+s') / 8 % 8:=by simpa using congrArg Array.toList e
 omega
theorem sub_len {α:Type} [DecidableEq α]:∀ {l ys:List α},l.Nodup->(∀ x∈l,x∈ys)->l.length≤ys.length
 |[],_,_,_=>Nat.zero_le _
 | a::l,ys,nd,hs=>by
   obtain ⟨n1,n2⟩:=List.nodup_cons.mp nd
   have ha:=hs a List.mem_cons_self
   have q:=sub_len (ys:=ys.erase a) n2 fun x hx=>(List.mem_erase_of_ne (by intro z;exact n1 (z ▸ hx))).mpr (hs x (List.mem_cons_of_mem _ hx))
   rw [List.length_erase_of_mem ha] at q
   have:=List.length_pos_of_mem ha
   rw [List.length_cons];omega
theorem yS {α β:Type} {f:α->β}:∀ {l:List α},l.Nodup->(∀ a∈l,∀ b∈l,f a=f b->a=b)->(l.map f).Nodup
 |[],_,_=>List.nodup_nil
 | a::l,nd,h=>by
   obtain ⟨n1,n2⟩:=List.nodup_cons.mp nd
   rw [List.map_cons]
   refine List.nodup_cons.mpr ⟨fun m=>?_,yS n2 fun x hx y hy=>h x (List.mem_cons_of_mem _ hx) y (List.mem_cons_of_mem _ hy)⟩
   obtain ⟨b,hb,e⟩:=List.mem_map.mp m
   exact n1 (h b (List.mem_cons_of_mem _ hb) a List.mem_cons_self e ▸ hb)
theorem CW {ys:List Str} (hl:ys.length<64) (h:∀ s,s<64->wd (k+s)∈ys):False:=by
 have nd:((List.range 64).map fun s=>wd (k+s)).Nodup:=yS List.nodup_range fun a ha b hb e=>FJ e (List.mem_range.mp ha) (List.mem_range.mp hb)
 have q:=sub_len nd fun x hx=>by
  obtain ⟨s,hs,rfl⟩:=List.mem_map.mp hx
  exact h s (List.mem_range.mp hs)
 rw [List.length_map,List.length_range] at q
 omega
theorem zp (F:gU K "_law_words" "_law_words" (top 43) f fd) (T:Txt K mg) (DP:cO K mg "_law_pick" (top 38) ["_law_d","_law_many"] fP fdP) (DO:cO K mg "_law_of" (top 39) ["_law_d","_law_things"] fO fdO)
 (DW:cO K mg "_law_word" (top 42) ["_law_d"] fW fdW):aR P w K mg base bQ 4 f fd ["_law_d","_law_many"] (uU K):=by
 have GW:aR P w K mg base bQ 3 fW fdW ["_law_d"] q9:=qG DW.F T DP DO
 refine F.ok vO (fun vs H Q E h=>?_) (fun cdv A outer s H vs Q E hr h=>?_)
 ·obtain ⟨p,dc,m,rfl,_⟩:=h
  rfl
 ·obtain ⟨p,dc,m,rfl,D,m0,m1,k⟩:=h
  refine ⟨_,(au
 (bh (i:=2) vO.nd rfl (Or.inl rfl) (bU aj))
 (au
 (eG PassesOwn.never rfl (fU rfl T.range (aa (pv 1) aj)) (bj (i:=3) vO.nd rfl (Or.inl rfl)) (au
 (bh (i:=4) vO.nd rfl (Or.inl rfl) (aD GW hr rfl DW.mg DW.F.kp DW.b .nil aN (aa (pv 0) aj)))
 (au
 (eG PassesOwn.never rfl (fU rfl T.range (aa aq aj)) (bj (i:=5) vO.nd rfl (Or.inl rfl)) (aB
 (bu (aH fK (pv 4) (pv 2) rfl) (aB
 (bh (i:=4) vO.nd rfl (Or.inl rfl) (aZ cU (aY pP aF (aZ gJ (aZ cW (pv 3) (pv 5)) aq) (fun _ _=>rfl)) (aY pP aF (aZ gJ (aZ vN (aZ cW (pv 3) (pv 5)) aq) aq) (fun _ _=>rfl))))) aP)))
 (aB
 (dm (lM PySem.F.plainAttrs_list PySem.F.slot_list_append PySem.F.type_list_append gY (pv 2) (aa (pv 4) aj)))))))
 (aB
 (aK (pv 2))))),?_⟩
  refine ⟨(show 0≤sizeLine by decide),fun q hq=>?_⟩
  refine ⟨_,rfl,m,rfl,by omega,by omega,?_⟩
  refine lD (n:=m.toNat) (fun i U H1=>∃ (ys:List Str) (a b c:Option V),U=[some (.ref p),some (.int m),some (.ref q),a,b,c]/\H1 q=some (.lst (ys.map V.str))/\ys.length=i/\(∀ y∈ys,Nm y)/\ys.Nodup/\Dr H1 p dc/\d9 p H H1)
   ⟨[],none,none,none,rfl,ak,rfl,(fun _ h=>by cases h),List.nodup_nil,D.new hq,d9.new hq⟩ ?_ ?_
  ·rintro i U H1 hi ⟨ys,a,b,c,rfl,e1,hl,hy,nd,D1,b1⟩
   refine ⟨_,rfl,p,dc,rfl,D1,fun x H2 nx D2 b2=>?_⟩
   have e2:H2 q=some (.lst (ys.map V.str)):=b2 q _ e1 (D1.ne e1 (by intro kvs z;cases z))
   refine ⟨_,rfl,by decide,by decide,?_⟩
   refine lD (n:=64) (fun j U H3=>∃ (z:Str) (c:Option V),U=[some (.ref p),some (.int m),some (.ref q),some (.int (0+(i:Int))),some (.str z),c]/\Nm z/\H3=H2/\(z∉ys∨∀ s,s<j->wd (i+s)∈ys)) ⟨x,_,rfl,nx,rfl,.inr fun s hs=>absurd hs (Nat.not_lt_zero _)⟩ ?_ ?_
   ·rintro j U H3 hj ⟨z,c,rfl,nz,rfl,hz⟩
    refine ⟨_,rfl,_,rfl,q,_,rfl,.inl (bM.of e2),rfl,?_,_,rfl,?_⟩
    ·rw [List.all_eq_true]
     intro v hv
     obtain ⟨y,_,rfl⟩:=List.mem_map.mp hv
     rfl
    ·have hin:inV (.str z) (ys.map V.str)=true↔z∈ys:=by
      unfold inV
      rw [List.any_map,List.any_eq_true]
      constructor
      ·rintro ⟨y,hy1,hy2⟩
       have:y=z:=by simpa [tD] using hy2
       exact this ▸ hy1
      ·intro hz'
       exact ⟨z,hz',by simp [tD]⟩
     refine dM (fun hc=>?_) (fun hc=>⟨z,_,rfl,nz,rfl,.inl fun hz'=>hc (hin.mpr hz')⟩)
     have hz1:=hin.mp hc
     have hz2:∀ s,s<j->wd (i+s)∈ys:=hz.elim (fun n=>absurd hz1 n) id
     have u1:(0+(i:Int)+(0+(j:Int))) % 8=(((i+j) % 8:Nat):Int):=by omega
     have u2:(0+(i:Int)+(0+(j:Int))) / 8 % 8=(((i+j) / 8 % 8:Nat):Int):=by omega
     have h1:("abcdefgh" : Str).cps.toList[(i+j) % 8]?=some (97+(i+j) % 8):=by
      have:=Nat.mod_lt (i+j) (show 0<8 by decide)
      generalize (i+j) % 8=m8 at this
      revert m8;decide +kernel
     have h2:("qrstuvwx" : Str).cps.toList[(i+j) / 8 % 8]?=some (113+(i+j) / 8 % 8):=by
      have:=Nat.mod_lt ((i+j) / 8) (show 0<8 by decide)
      generalize (i+j) / 8 % 8=m8 at this
      revert m8;decide +kernel
     refine ⟨_,rfl,_,rfl,_,_,rfl,rfl,_,_,rfl,rfl,(by show (0:Int)<8;decide),_,_,_,rfl,rfl,(show 8≤sizeLine by decide),(by rw [u1];exact aG h1),?_⟩
     refine ⟨_,rfl,_,rfl,_,_,rfl,rfl,_,_,rfl,rfl,⟨by decide,by decide⟩,_,_,rfl,rfl,(by show (0:Int)<8;decide),_,_,_,rfl,rfl,(show 8≤sizeLine by decide),(by rw [u2];exact aG h2),?_⟩
     refine ⟨_,_,rfl,rfl,(show 1+1≤sizeLine by decide),wd (i+j),_,rfl,Kf _,rfl,?_⟩
     by_cases hw:wd (i+j)∈ys
     ·refine .inr fun s hs=>?_
      by_cases hsj:s=j
      ·rw [hsj];exact hw
      ·exact hz2 s (by omega)
     ·exact .inl hw
   ·rintro U H3 ⟨z,c,rfl,nz,rfl,hz⟩
    have znew:z∉ys:=hz.elim id fun h=>(CW (by omega) h).elim
    refine ⟨_,rfl,.inl ⟨rfl,_,bM.of e2⟩,_,rfl,q,_,_,rfl,rfl,e2,by rw [List.length_map];exact jg (by omega),?_⟩
    have nqc:q≠dc:=by
     obtain ⟨xs,e⟩:=D.cell
     exact (aO e hq).symm
    have nqp:q≠p:=D2.ne e2 (by intro kvs z;cases z)
    refine ⟨ys++[z],_,_,_,rfl,by rw [ak];simp,by simp [hl],fun y hy'=>(List.mem_append.mp hy').elim (hy y) (fun h=>by rw [List.mem_singleton.mp h];exact nz),vI nd znew,D2.put nqp nqc,fun b o e hb=>?_⟩
    rw [aJ (aO e hq)]
    exact (b1.trans b2) b o e hb
  ·rintro U H1 ⟨ys,a,b,c,rfl,e1,hl,hy,nd,D1,b1⟩
   exact ⟨_,rfl,k q ys H1 e1 hq (by omega) hy nd D1 b1⟩
end
abbrev fj:=Str×Int×Int
structure kj (f:fj):Prop where
 nm:Nm f.1
 lo:-999999≤f.2.1
 le:f.2.1≤f.2.2
 hi:f.2.2≤999999
def TK (H H':Hp):Prop:=∀ b xs,H b=some (.tup xs)->H' b=some (.tup xs)
theorem TK.trans (a:TK H H1) (b:TK H1 H2):TK H H2:=fun c xs h=>b c xs (a c xs h)
theorem TK.but (d:Dr H p dc) (b:d9 p H H'):TK H H':=fun c xs h=>b c _ h (d.ne h (by intro kvs z;cases z))
theorem TK.lst (h:H q=some (.lst xs)):TK H (upd H q o):=fun c ys e=>by rw [aJ (fZ e h (by intro z;cases z))];exact e
theorem TK.new (h:H q=none):TK H (upd H q o):=fun c ys e=>by rw [aJ (aO e h)];exact e
def gk (H:Hp) (x:V) (f:fj):Prop:=∃ b,x=.ref b/\H b=some (.tup [.str f.1,.int f.2.1,.int f.2.2])
theorem gk.tk (h:gk H x f) (k:TK H H'):gk H' x f:=let ⟨b,e,q⟩:=h;⟨b,e,k _ _ q⟩
theorem cY:∀ {xs:List V} {fs:List fj},Paired (gk H) xs fs->TK H H'->Paired (gk H') xs fs
 |_,_,.nil,_=>.nil
 |_,_,.cons r t,k=>.cons (r.tk k) (cY t k)
theorem uni:∀ c<128,Unicode.isAlpha c=(decide (65≤c/\c≤90) || decide (97≤c/\c≤122))/\Unicode.isLower c=decide (97≤c/\c≤122)/\Unicode.isUpper c=decide (65≤c/\c≤90)/\Unicode.isTitle c=false:=by decide +kernel
noncomputable def nameB (x:Str):Bool:=decide (x.length≤8) && (x.cps.all (·<128) && ((x.length > 0 && x.cps.all Unicode.isAlpha) && (x.cps.any Unicode.isLower && !x.cps.any fun c=>Unicode.isUpper c || Unicode.isTitle c)))
theorem fQ (x:Str):nameB x=true↔Nm x:=by
 unfold nameB
 simp only [Bool.and_eq_true,decide_eq_true_eq,Bool.not_eq_true',← Array.all_toList,← Array.any_toList,List.all_eq_true,List.any_eq_true,List.any_eq_false]
 constructor
 ·rintro ⟨h8,ha,⟨h0,hal⟩,⟨c0,hc0,hl0⟩,hu⟩
  refine ⟨h0,h8,fun c hc=>?_⟩
  have c1:c<128:=ha c hc
  obtain ⟨u1,u2,u3,u4⟩:=uni c c1
  have a1:=hal c hc
  have a2:=hu c hc
  rw [u1] at a1
  rw [u3,u4] at a2
  simp at a1 a2
  omega
 ·rintro ⟨h0,h8,lc⟩
  have cc:∀ c∈x.cps.toList,c<128/\97≤c/\c≤122:=fun c hc=>⟨by have:=lc c hc;omega,lc c hc⟩
  refine ⟨h8,fun c hc=>(cc c hc).1,⟨h0,fun c hc=>?_⟩,?_,fun c hc=>?_⟩
  ·rw [(uni c (cc c hc).1).1];simp [(cc c hc).2]
  ·rw [vg] at h0
   obtain ⟨c,hc⟩:=List.exists_mem_of_length_pos (show 0<x.cps.toList.length by omega)
   exact ⟨c,hc,by rw [(uni c (cc c hc).1).2.1];simp [(cc c hc).2]⟩
  ·rw [(uni c (cc c hc).1).2.2.1,(uni c (cc c hc).1).2.2.2]
   have:=(cc c hc).2
   simp;omega
structure qC (mg:Str->Option Value):Prop where
 ml:∃ t,mg "MOST_LETTERS" = some (.int 8 t)
 mf:∃ t,mg "MOST_FIELDS" = some (.int 4 t)
 lim:∃ t,mg "LIMIT" = some (.int 999999 t)
def mW:Sp:=fun vs H Q _=>∃ x:Str,vs=[.str x]/\x.length≤sizeLine/\Q (.bl (nameB x)) H
theorem QQ:aU ["text"] ["text"] (aC (top 14)):=⟨rfl,rfl,rfl,by decide +kernel,rfl,by decide +kernel,by decide +kernel⟩
theorem pM (F:gU K "is_name" "is_name" (top 14) f fd) (T:Txt K mg) (TK:qC mg):aR P w K mg base bQ 1 f fd ["text"] mW:=by
 refine F.ok QQ (fun vs H Q E h=>?_) (fun cdv A outer s H vs Q E hr h=>?_)
 ·obtain ⟨x,rfl,_⟩:=h
  rfl
 ·obtain ⟨x,rfl,hl,k⟩:=h
  obtain ⟨t8,m8⟩:=TK.ml
  refine ⟨_,(aB
 (aK (cC (bY fH (aM iG (by rfl) T.len cF (aa (pv 0) aj)) (dh (v:=.int 8) rfl m8 ⟨_,rfl⟩) (aL _)) (cC (uv PySem.F.plainAttrs_str PySem.F.slot_str_isascii PySem.F.type_str_isascii tU (pv 0)) (cC (uv PySem.F.plainAttrs_str PySem.F.slot_str_isalpha PySem.F.type_str_isalpha tO (pv 0)) (dD (uv PySem.F.plainAttrs_str PySem.F.slot_str_islower PySem.F.type_str_islower ut (pv 0)))))))),?_⟩
  refine ⟨_,rfl,x,rfl,hl,_,_,rfl,rfl,_,rfl,?_⟩
  unfold nameB at k
  by_cases h8:x.length≤8
  ·refine cI (by simp;omega) ⟨_,rfl,rfl,x,rfl,rfl,_,rfl,?_⟩
   rw [decide_eq_true h8,Bool.true_and] at k
   cases h1:x.cps.all (·<128) with
   |false=>rw [h1] at k;exact bZ h1 k
   | true=>
     rw [h1,Bool.true_and] at k
     refine cI h1 ⟨_,rfl,rfl,x,rfl,rfl,_,rfl,?_⟩
     cases h2:(x.length > 0 && x.cps.all Unicode.isAlpha) with
     |false=>rw [h2] at k;exact bZ h2 k
     | true=>
       rw [h2,Bool.true_and] at k
       exact cI h2 ⟨_,rfl,rfl,x,rfl,rfl,k⟩
  ·refine bZ (by simp;omega) ?_
   rw [decide_eq_false h8,Bool.false_and] at k
   exact k
def jz:Sp:=fun vs H Q _=>∃ x:Str,vs=[.str x]/\Nm x/\Q .non H
theorem Td:aU ["text"] ["text"] (aC (top 15)):=⟨rfl,rfl,rfl,by decide +kernel,rfl,by decide +kernel,by decide +kernel⟩
theorem lH (F:gU K "need_name" "need_name" (top 15) f fd) (T:Txt K mg) (TK:qC mg) (DI:cO K mg "is_name" (top 14) ["text"] fI fdI):aR P w K mg base bQ 2 f fd ["text"] jz:=by
 have GI:aR P w K mg base bQ 1 fI fdI ["text"] mW:=pM DI.F T TK
 refine F.ok Td (fun vs H Q E h=>?_) (fun cdv A outer s H vs Q E hr h=>?_)
 ·obtain ⟨x,rfl,_⟩:=h
  rfl
 ·obtain ⟨x,rfl,nm,k⟩:=h
  refine ⟨_,(aB (bu (gQ (dC (aD GI hr rfl DI.mg DI.F.kp DI.b .nil aN (aa (pv 0) aj)))) (aB ir) aP)),?_⟩
  refine ⟨_,rfl,x,rfl,Nat.le_trans nm.hi (by decide),_,rfl,?_⟩
  rw [(fQ x).mpr nm]
  exact bZ rfl k
def jN:Sp:=fun vs H Q _=>∃ (a:Addr) (xs:List V) (fs:List fj),vs=[.ref a]/\H a=some (.tup xs)/\Paired (gk H) xs fs/\fs.length≤60/\(∀ f∈fs,kj f)/\(fs.map (·.1)).Nodup/\∀ H',aA H H'->Q .non H'
theorem cH {α β:Type} {F:α->β->Prop}:∀ {xs:List α} {ys:List β} {i:Nat} {x:α},Paired F xs ys->xs[i]?=some x->∃ y,ys[i]?=some y/\F x y
 |_,_,_,_,.nil,e=>by simp at e
 |_,_,0,_,.cons r _,e=>by simp at e;subst e;exact ⟨_,rfl,r⟩
 | _,_,i+1,x,.cons _ t,e=>by
   obtain ⟨y,h1,h2⟩:=cH (i:=i) (x:=x) t (by simpa using e)
   exact ⟨y,by simpa using h1,h2⟩
theorem zJ:aU ["fields","seen","name","low","high"] ["fields"] (aC (top 16)):=⟨rfl,rfl,rfl,by decide +kernel,rfl,by decide +kernel,by decide +kernel⟩
theorem nW (F:gU K "need_fields" "need_fields" (top 16) f fd) (T:Txt K mg) (TK':qC mg) (DI:cO K mg "is_name" (top 14) ["text"] fI fdI) (DN:cO K mg "need_name" (top 15) ["text"] fN fdN):aR P w K mg base bQ 3 f fd ["fields"] jN:=by
 have GN:aR P w K mg base bQ 2 fN fdN ["text"] jz:=lH DN.F T TK' DI
 refine F.ok zJ (fun vs H Q E h=>?_) (fun cdv A outer s H vs Q E hr h=>?_)
 ·obtain ⟨a,xs,fs,rfl,_⟩:=h
  rfl
 ·obtain ⟨a,xs,fs,rfl,ha,pf,hl,hf,nd,k⟩:=h
  obtain ⟨tl,ml⟩:=TK'.lim
  refine ⟨_,(au
 (bh (i:=1) zJ.nd rfl (Or.inl rfl) (bU aj))
 (aB
 (eG PassesOwn.never rfl (gR (pv 0)) (lq rfl (cD (bj (i:=2) zJ.nd rfl (Or.inl rfl)) (cD (bj (i:=3) zJ.nd rfl (Or.inl rfl)) (cD (bj (i:=4) zJ.nd rfl (Or.inl rfl)) je))))
  (au (dm (aD GN hr rfl DN.mg DN.F.kp DN.b .nil aN (aa (pv 2) aj)))
  (au (bu (aH fK (pv 2) (pv 1) rfl) (aB ir) aP)
  (au (bu (gQ (wH fH fH fH (jG iB (dh (v:=.int 999999) rfl ml ⟨_,rfl⟩)) (pv 3) (pv 4) (dh (v:=.int 999999) rfl ml ⟨_,rfl⟩))) (aB ir) aP)
  (aB (dm (lM PySem.F.plainAttrs_list PySem.F.slot_list_append PySem.F.type_list_append gY (pv 1) (aa (pv 2) aj)))))))))),?_⟩
  refine ⟨(show 0≤sizeLine by decide),fun q hq=>?_⟩
  have pl:=Paired.length pf
  have ha':∀ {H':Hp},aA H H'->H' a=some (.tup xs):=fun e=>e _ _ ha
  refine ⟨_,rfl,a,rfl,⟨_,b_.of (ha' (aA.new hq))⟩,l_ (K:=K) (a:=a) (xs:=xs) (fun i U H1=>∃ (b c d:Option V),U=[some (.ref a),some (.ref q),b,c,d]/\H1 q=some (.lst (((fs.map (·.1)).take i).map V.str))/\aA H H1)
   ⟨none,none,none,rfl,by rw [ak];simp,aA.new hq⟩ (fun i U H1 _ ⟨_,_,_,_,_,e⟩=>b_.of (ha' e)) ?_ ?_⟩
  ·rintro i x U H1 hi ⟨b,c,d,rfl,e1,s1⟩
   obtain ⟨⟨n,lo,hi'⟩,hfi,b',rfl,hb⟩:=cH pf hi
   have fo:=hf _ (List.mem_of_getElem? hfi)
   have hil:i<fs.length:=(List.getElem?_eq_some_iff.mp hfi).1
   refine ⟨b',_,rfl,b_.of (s1 _ _ hb),rfl,_,_,rfl,_,_,rfl,_,_,rfl,rfl,?_⟩
   refine ⟨_,rfl,n,rfl,fo.nm,?_⟩
   have hnot:n∉(fs.map (·.1)).take i:=by
    intro hm
    have h1:(fs.map (·.1))[i]?=some n:=by rw [List.getElem?_map,hfi];rfl
    obtain ⟨j,hj,e⟩:=List.getElem_of_mem hm
    rw [List.length_take] at hj
    rw [List.getElem_take] at e
    have h2:(fs.map (·.1))[j]?=some n:=by rw [List.getElem?_eq_getElem (by omega),e]
    have:=jL nd h1 h2
    omega
   refine ⟨_,rfl,_,rfl,q,_,rfl,.inl (bM.of e1),rfl,?_,_,rfl,?_⟩
   ·rw [List.all_eq_true]
    intro v hv
    obtain ⟨y,_,rfl⟩:=List.mem_map.mp hv
    rfl
   refine bZ ?_ ?_
   ·show inV (.str n) _=false
    unfold inV
    rw [List.any_map,List.any_eq_false]
    intro y hy hy2
    have:y=n:=by simpa [tD] using hy2
    exact hnot (this ▸ hy)
   have f1:=fo.lo
   have f2:=fo.le
   have f3:=fo.hi
   refine ⟨_,rfl,_,rfl,_,_,rfl,rfl,_,rfl,cI (by simpa using f1) ?_⟩
   refine ⟨_,rfl,_,_,rfl,rfl,_,rfl,cI (by simpa using f2) ?_⟩
   refine ⟨_,_,rfl,rfl,_,rfl,bZ (by simpa using f3) ?_⟩
   have lt:((fs.map (·.1)).take i).length≤60:=by rw [List.length_take,List.length_map];omega
   refine ⟨_,rfl,.inl ⟨rfl,_,bM.of e1⟩,_,rfl,q,_,_,rfl,rfl,e1,by rw [List.length_map];exact jg (by omega),?_⟩
   refine ⟨_,_,_,rfl,?_,fun c o e=>by rw [aJ (aO e hq)];exact s1 c o e⟩
   rw [ak,List.take_add_one,List.getElem?_map,hfi]
   simp
  ·rintro U H1 ⟨b,c,d,rfl,e1,s1⟩
   exact k H1 s1
structure lg (K:PySem.W.Frag) (x qual:Str) (st:Stmt) (dV:Value) (f:Addr) (fd:FuncData):Prop where
 ex:∃ (oc:Value) (od:Option Addr) (kV doc pm:Value) (an:Option Addr) (cdv ct:Value) (osl:Array (Option Value)),
  fd=PySem.W.fnOf x qual (cR st) (bW st) (aC st) dV kV doc pm an cdv ct/\K.lookup f=some ⟨oc,od,.func fd,osl⟩/\PySem.W.codeIn K cdv qual=true
 kp:PySem.W.keepIn K (.ref f)=true
section
variable {P:Program} {w:World} {K:PySem.W.Frag} {mg:Str->Option Value} {base:Heap}
theorem lg.ok (F:lg K x qual st dV f fd) (S:aU N ps (aC st)) (len:∀ vs H Q E,sp vs H Q E->vs.length=ps.length)
 (hbody:∀ (cdv:Value) (A:Around) (outer:List Env) (s:Shared) (H:Hp) (vs:List V) (Q:VK) (E:XK),bF k (A.deeper (PyProof.Rows.envOfC qual (aC st) s.heap.objs.size f cdv))->sp vs H Q E->
  ∃ t,qQ (iK bQ P w K mg base N qual (aC st) f cdv A outer s H E).nox (bW st) t/\t { nx:=fun _ H'=>Q .non H',rt:=Q } (L2.start N vs) H):aR P w K mg base bQ (k+1) f fd ps sp:=by
 obtain ⟨oc,od,kV,doc,pm,an,cdv,ct,osl,rfl,lk,hcd⟩:=F.ex
 refine rA lk hcd S len fun A outer s H vs Q E hr hsp=>?_
 obtain ⟨t,h,q⟩:=hbody cdv A outer s H vs Q E hr hsp
 exact ⟨t,h.nox,q⟩
theorem lg.binds (F:lg K x qual st (.ref T) f fd) (hT:K.lookup T=some oT) (hd:oT.data=.seq items n)
 (h:∀ (kV doc pm:Value) (an:Option Addr) (cdv ct:Value) (s:Shared) (us:List Value),s.heap.get? T=some oT->(us++ds).length=ps.length->BindsTo s (PySem.W.fnOf x qual (cR st) (bW st) (aC st) (.ref T) kV doc pm an cdv ct) ⟨us,[]⟩ (ps.zip (us++ds))):Binds K fd ps ds:=by
 obtain ⟨oc,od,kV,doc,pm,an,cdv,ct,osl,rfl,lk,hcd⟩:=F.ex
 exact fun s us X hl=>h kV doc pm an cdv ct s us (X _ _ hT) hl
noncomputable abbrev rQ:Stmt:=inClass (top 18) 0
theorem yN (hd:oT.data=.seq #[d0] n) (kV doc pm:Value) (an:Option Addr) (cdv ct:Value) (s:Shared) (us:List Value) (hT:s.heap.get? T=some oT) (h:(us++[]).length=(["self","name","fields"]:List Str).length) :
 BindsTo s (PySem.W.fnOf "__init__" "Kind.__init__" (cR rQ) (bW rQ) (aC rQ) (.ref T) kV doc pm an cdv ct) ⟨us,[]⟩ ((["self","name","fields"]:List Str).zip (us++[])):=by
 rw [List.append_nil] at h ⊢
 match us,h with
 |[a,b,c],_=>exact BindsTo.of_defaults rfl hT hd rfl rfl
structure KCls (K:PySem.W.Frag) (mg:Str->Option Value) (C:Addr):Prop where
 cl:zW K C
 nN:iT K C "name"
 nF:iT K C "fields"
 mg:mg "Kind" = some (.ref C)
theorem nf:¬ (("name" : Str) = "fields"):=by decide +kernel
noncomputable def kf (n:Str) (a:Addr):List (Str×V):=gr "fields" (.ref a) (gr "name" (.str n) [])
theorem Ax (n:Str) (a:Addr):(kf n a).lookup ("name" : Str)=some (.str n):=by
 unfold kf
 rw [cQ,if_neg nf,cQ,if_pos rfl]
theorem oR (n:Str) (a:Addr):(kf n a).lookup ("fields" : Str)=some (.ref a):=by
 unfold kf
 rw [cQ,if_pos rfl]
theorem Cu (n:Str) (a:Addr) {m:Str} (h1:¬ m = "fields") (h2:¬ m = "name"):(kf n a).lookup m=none:=by
 unfold kf
 rw [cQ,if_neg h1,cQ,if_neg h2]
 rfl
structure dj (C:Addr) (H:Hp) (o:Addr) (n:Str) (a:Addr) (fs:List fj):Prop where
 ob:∃ dx,H o=some (.ins C dx (kf n a))
 tp:∃ xs,H a=some (.tup xs)/\Paired (gk H) xs fs
def zr (C:Addr):Sp:=fun vs H Q _=>∃ (o dx a:Addr) (n:Str) (xs:List V) (fs:List fj),vs=[.ref o,.str n,.ref a]/\H o=some (.ins C dx [])/\Nm n/\H a=some (.tup xs)/\Paired (gk H) xs fs/\fs.length≤4/\(∀ f∈fs,kj f)/\(fs.map (·.1)).Nodup/\
 ∀ H',dj C H' o n a fs->(∀ b u,H b=some u->b≠o->H' b=some u)->Q .non H'
theorem Qn:aU ["self","name","fields"] ["self","name","fields"] (aC rQ):=⟨rfl,rfl,rfl,by decide +kernel,rfl,by decide +kernel,by decide +kernel⟩
theorem Am (F:lg K "__init__" "Kind.__init__" rQ dV f fd) (T:Txt K mg) (TK':qC mg) (KC:KCls K mg C) (DI:cO K mg "is_name" (top 14) ["text"] fI fdI) (DN:cO K mg "need_name" (top 15) ["text"] fN fdN)
 (DF:cO K mg "need_fields" (top 16) ["fields"] fF fdF):aR P w K mg base bQ 4 f fd ["self","name","fields"] (zr C):=by
 have GN:aR P w K mg base bQ 2 fN fdN ["text"] jz:=lH DN.F T TK' DI
 have GF:aR P w K mg base bQ 3 fF fdF ["fields"] jN:=nW DF.F T TK' DI DN
 refine F.ok Qn (fun vs H Q E h=>?_) (fun cdv A outer s H vs Q E hr h=>?_)
 ·obtain ⟨o,dx,a,n,xs,fs,rfl,_⟩:=h
  rfl
 ·obtain ⟨o,dx,a,n,xs,fs,rfl,ho,hn,ha,pf,hl,hf,nd,k⟩:=h
  obtain ⟨tf,mf⟩:=TK'.mf
  have hr2:bF 2 _:=hr.mono (by decide)
  have pl:=Paired.length pf
  refine ⟨_,(au
 (dm (aD GN hr2 rfl DN.mg DN.F.kp DN.b .nil aN (aa (pv 1) aj)))
 (au
 (bu (aH zG (aM a_ (by rfl) T.len cF (aa (pv 2) aj)) (dh (v:=.int 4) rfl mf ⟨_,rfl⟩) (aL _)) (aB ir) aP)
 (au
 (dm (aD GF hr rfl DF.mg DF.F.kp DF.b .nil aN (aa (pv 2) aj)))
 (au
 (zO (pv 0) (pv 1) rfl)
 (aB
 (zO (pv 0) (ig gF (by rfl) T.tuple e_ (aa (pv 2) aj)) rfl)))))),?_⟩
  refine ⟨_,rfl,n,rfl,hn,?_⟩
  refine ⟨_,rfl,a,xs,rfl,.inr (b_.of ha),_,_,rfl,rfl,_,rfl,bZ (by simp;omega) ?_⟩
  refine ⟨_,rfl,a,xs,fs,rfl,ha,pf,by omega,hf,nd,fun H1 s1=>?_⟩
  refine ⟨_,rfl,_,rfl,o,C,dx,[],rfl,s1 _ _ ho,KC.cl,KC.nN,(show 0<1000 by decide),?_⟩
  have nao:a≠o:=fZ ha ho (by intro z;cases z)
  have ha1:∀ u,(upd H1 o u) a=some (.tup xs):=fun u=>by rw [aJ nao];exact s1 _ _ ha
  refine ⟨_,rfl,a,xs,rfl,.inr ⟨b_.of (ha1 _),?_⟩⟩
  refine ⟨_,rfl,o,C,dx,_,rfl,ak,KC.cl,KC.nF,(show 1<1000 by decide),?_⟩
  have keep:∀ b u,H b=some u->b≠o->(upd (upd H1 o (.ins C dx (gr "name" (.str n) []))) o (.ins C dx (kf n a))) b=some u:=fun b u e hb=>by
   rw [aJ hb,aJ hb];exact s1 _ _ e
  refine k _ ⟨⟨dx,ak⟩,xs,keep a _ ha nao,cY pf fun b ys e=>keep b _ e (fZ e ho (by intro z;cases z))⟩ keep
end
theorem dj.same (h:dj C H o n a fs) (e:aA H H'):dj C H' o n a fs:=by
 obtain ⟨⟨dx,h1⟩,xs,h2,h3⟩:=h
 exact ⟨⟨dx,e _ _ h1⟩,xs,e _ _ h2,cY h3 fun b ys z=>e _ _ z⟩
noncomputable abbrev kM (j:Nat):Stmt:=inClass (top 18) j
noncomputable def qp (fs:List fj) (x:Str):V:=if x∈fs.map (·.1) then .int ((fs.map (·.1)).idxOf x:Nat) else .non
def vd (C:Addr):Sp:=fun vs H Q _=>∃ (o a:Addr) (n x:Str) (fs:List fj),vs=[.ref o,.str x]/\dj C H o n a fs/\fs.length≤4/\∀ H',aA H H'->Q (qp fs x) H'
theorem z8:aU ["self","field","at","name","low","high"] ["self","field"] (aC (kM 3)):=⟨rfl,rfl,rfl,by decide +kernel,rfl,by decide +kernel,by decide +kernel⟩
theorem yj (F:gU K "place_of" "Kind.place_of" (kM 3) f fd) (T:Txt K mg) (hen:mg "enumerate" = none) (KC:KCls K mg C):aR P w K mg base bQ 1 f fd ["self","field"] (vd C):=by
 refine F.ok z8 (fun vs H Q E h=>?_) (fun cdv A outer s H vs Q E hr h=>?_)
 ·obtain ⟨o,a,n,x,fs,rfl,_⟩:=h
  rfl
 ·obtain ⟨o,a,n,x,fs,rfl,⟨⟨dx,ho⟩,xs,ha,pf⟩,hl,k⟩:=h
  have pl:=Paired.length pf
  refine ⟨_,(au
 (eG PassesOwn.never rfl (yX rfl hen pO (aa (sZ (pv 0) rfl) aj)) (lq rfl (cD (bj (i:=2) z8.nd rfl (Or.inl rfl)) (cD (lq rfl (cD (bj (i:=3) z8.nd rfl (Or.inl rfl)) (cD (bj (i:=4) z8.nd rfl (Or.inl rfl)) (cD (bj (i:=5) z8.nd rfl (Or.inl rfl)) je)))) je))) (aB
 (bu (aH bx (pv 3) (pv 1) (aL _)) (aB
 (aK (pv 2))) aP)))
 (aB
 (aK iZ))),?_⟩
  refine ⟨_,rfl,o,C,dx,_,_,rfl,ho,KC.cl,KC.nF,oR n a,a,rfl,⟨xs,b_.of ha⟩,xq (K:=K) (a:=a) (xs:=xs) (fun i U H1=>(∃ u1 u2 u3 u4,U=[some (.ref o),some (.str x),u1,u2,u3,u4])/\aA H H1/\x∉(fs.map (·.1)).take i) ⟨⟨none,none,none,none,rfl⟩,aA.refl _,by simp⟩ (fun i U H1 _ z=>b_.of (z.2.1 _ _ ha)) ?_ ?_⟩
  ·rintro i y U H1 p hy ⟨⟨u1,u2,u3,u4,rfl⟩,s1,hn⟩ hp
   obtain ⟨⟨m,lo,hi⟩,hfi,b,rfl,hb⟩:=cH pf hy
   have s2:aA H (upd H1 p (.tup [.int i,.ref b])):=s1.trans (aA.new hp)
   refine ⟨p,_,rfl,b_.of ak,rfl,_,_,rfl,_,_,rfl,b,_,rfl,b_.of (s2 _ _ hb),rfl,_,_,rfl,_,_,rfl,_,_,rfl,rfl,rfl,?_⟩
   refine ⟨_,rfl,_,rfl,rfl,_,rfl,?_⟩
   have hmi:(fs.map (·.1))[i]?=some m:=by rw [List.getElem?_map,hfi];rfl
   by_cases e:m=x
   ·subst e
    refine cI (by simp) ⟨_,rfl,?_⟩
    have hmem:m∈fs.map (·.1):=List.mem_of_getElem? hmi
    have hix:(fs.map (·.1)).idxOf m=i:=by
     have hil:=(List.getElem?_eq_some_iff.mp hmi).1
     have hgt:¬ (fs.map (·.1)).idxOf m<i:=fun z=>hn (by
      rw [List.mem_iff_getElem?]
      refine ⟨(fs.map (·.1)).idxOf m,?_⟩
      rw [List.getElem?_take,if_pos z,List.getElem?_eq_getElem (by omega),List.getElem_idxOf])
     have hlt:¬ i<(fs.map (·.1)).idxOf m:=fun z=>by
      have:=List.not_of_lt_findIdx (p:=(· == m)) (xs:=fs.map (·.1)) z
      rw [(List.getElem?_eq_some_iff.mp hmi).2] at this
      simp at this
     omega
    have:=k _ s2
    unfold qp at this
    rw [if_pos hmem,hix] at this
    exact this
   ·refine bZ (by simp [e]) ⟨⟨_,_,_,_,rfl⟩,s2,?_⟩
    rw [List.take_add_one,hmi]
    simp only [Option.toList_some,List.mem_append,List.mem_singleton,not_or]
    exact ⟨hn,fun z=>e z.symm⟩
  ·rintro U H1 ⟨⟨u1,u2,u3,u4,rfl⟩,s1,hn⟩
   have:=k _ s1
   unfold qp at this
   rw [List.take_of_length_le (by rw [List.length_map];omega)] at hn
   rw [if_neg hn] at this
   exact this
end Cm
namespace Cm
open PySem L2 PySem.W
noncomputable def Ld (i:Nat):Stmt:=PySem.Challenge.pw_lanescribe_k07_whole_tests_held_against.main.body.getD i (.Pass ⟨0,0,0,0⟩)
def Fj (K:Frag) (cB cS cM Ce:Addr) (fs:List (Str×V)) (wd:Str):Prop:=
 (mroIn K Ce (.ref cB)=some true/\wM K Ce "at"/\∃ n:Int,fs.lookup ("at" : Str)=some (.int n)/\n.natAbs.log2<1920/\("badvalue " : Str).length+(toString n:Str).length≤sizeLine/\wd=("badvalue " : Str)++(toString n:Str))∨
 (mroIn K Ce (.ref cB)=some false/\mroIn K Ce (.ref cS)=some true/\wM K Ce "word"/\fs.lookup ("word" : Str)=some (.str wd))∨
 (mroIn K Ce (.ref cB)=some false/\mroIn K Ce (.ref cS)=some false/\mroIn K Ce (.ref cM)=some true/\wM K Ce "word"/\fs.lookup ("word" : Str)=some (.str wd))
section
variable {P:Program} {w:World} {K:Frag} {mg:Str->Option Value} {base:Heap}
def rT (P:Program) (w:World) (K:Frag) (mg:Str->Option Value) (base:Heap) (k:Nat) (cB cS cM:Addr):Shared->List Env->Sp:=fun s outer vs H Q _=>∃ g Qv Ev,vs=[.ref g]/\Thunk P w K mg base s.heap H (frs outer) k g H Qv Ev/\
 (∀ v H',Qv v H'->∀ l,H' l=none->Q (.ref l) (upd H' l (.lst [.str "",v])))/\
 ∀ cls dd H',Ev cls dd H'->∃ Ce da fs wd,cls=.ref Ce/\dd=some da/\H' da=some (qm da fs)/\Fj K cB cS cM Ce fs wd/\∀ l,H' l=none->Q (.ref l) (upd H' l (.lst [.str wd,.non]))
structure Mh (K:Frag) (mg:Str->Option Value) (cB cS cM:Addr):Prop where
 str:mg "str" = none
 bv:mg "BadValue" = some (.ref cB)
 se:mg "ScribeError" = some (.ref cS)
 mi:mg "Missing" = some (.ref cM)
 xb:∃ B n,jn K cB B n
 xs:∃ B n,jn K cS B n
 xm:∃ B n,jn K cM B n
theorem jt:aU ["_law_ask_here","_law_told","_law_word_here","e"] ["_law_ask_here"] (aC (Ld 45)):=⟨rfl,rfl,rfl,by decide +kernel,rfl,by decide +kernel,by decide +kernel⟩
theorem Dd (F:gU K "_law_ask" "_law_ask" (Ld 45) f fd) (T:Mh K mg cB cS cM):ph P w K mg base CX (k+1) f fd ["_law_ask_here"] (rT P w K mg base k cB cS cM):=by
 obtain ⟨B1,n1,x1⟩:=T.xb
 obtain ⟨B2,n2,x2⟩:=T.xs
 obtain ⟨B3,n3,x3⟩:=T.xm
 refine F.okS jt (fun s outer vs H Q E h=>?_) (fun cdv A outer s H vs Q E hr h=>?_)
 ·obtain ⟨g,Qv,Ev,rfl,_⟩:=h
  rfl
 ·obtain ⟨g,Qv,Ev,rfl,Th,hv,he⟩:=h
  refine ⟨_,(au (bh (i:=1) jt.nd rfl (Or.inl rfl) iZ)
   (au (bh (i:=2) jt.nd rfl (Or.inl rfl) aF)
   (au (Du rfl rfl rfl (vU (k:=k) (i:=1) (j:=0) jt.nd rfl (Or.inl rfl) rfl (Or.inl rfl) rfl hr)
    (qI (i:=3) (C:=cB) (B:=B1) (newId:=n1) jt.nd rfl rfl (fun ea ps=>dh (by rfl) T.bv rfl) (fun ea oe ps Ce dd hm hc hd hvs=>aB (bh (i:=2) jt.nd rfl (Or.inl rfl) (aZ cU aF (ig qP (by rfl) T.str lA (aa (qw hm hc hd hvs (pv 3)) aj)))))
    (qI (i:=3) (C:=cS) (B:=B2) (newId:=n2) jt.nd rfl rfl (fun ea ps=>dh (by rfl) T.se rfl) (fun ea oe ps Ce dd hm hc hd hvs=>aB (bh (i:=2) jt.nd rfl (Or.inl rfl) (qw hm hc hd hvs (pv 3))))
    (qI (i:=3) (C:=cM) (B:=B3) (newId:=n3) jt.nd rfl rfl (fun ea ps=>dh (by rfl) T.mi rfl) (fun ea oe ps Ce dd hm hc hd hvs=>aB (bh (i:=2) jt.nd rfl (Or.inl rfl) (qw hm hc hd hvs (pv 3))))
    Es))))
   (aB (aK (bU (aa (pv 2) (aa (pv 1) aj)))))))),?_⟩
  have small:∀ x y:V,[x,y].length≤sizeLine:=fun x y=>by rw [sizeLine_eq];show 2≤16777216;decide
  refine ⟨g,Qv,Ev,rfl,Th,fun v H' q=>?_,fun cls dd H' q=>?_⟩
  ·exact ⟨_,rfl,_,rfl,small _ _,fun p hp=>hv v H' q p hp⟩
  ·obtain ⟨Ce,da,fs,wd,rfl,rfl,hd,hc,hq⟩:=he _ _ _ q
   refine ⟨Ce,rfl,x1,?_⟩
   rcases hc with ⟨m1,G,n,l,z,zz,rfl⟩|⟨m1,m2,G,l⟩|⟨m1,m2,m3,G,l⟩
   ·refine ⟨true,m1,fun ea=>?_⟩
    exact ⟨_,rfl,da,fs,_,rfl,rfl,hd,G,l,n,rfl,z,_,_,rfl,rfl,zz,_,rfl,_,rfl,small _ _,fun p hp=>hq p hp⟩
   ·refine ⟨false,m1,x2,true,m2,fun ea=>?_⟩
    exact ⟨_,rfl,da,fs,_,rfl,rfl,hd,G,l,_,rfl,_,rfl,small _ _,fun p hp=>hq p hp⟩
   ·refine ⟨false,m1,x2,false,m2,x3,true,m3,fun ea=>?_⟩
    exact ⟨_,rfl,da,fs,_,rfl,rfl,hd,G,l,_,rfl,_,rfl,small _ _,fun p hp=>hq p hp⟩
end
end Cm
namespace Cm
open PySem L2
end Cm
namespace Cm
open PySem L2 PySem.W
noncomputable abbrev Hh:Stmt:=inClass (top 2) 0
section
variable {P:Program} {w:World} {K:Frag} {mg:Str->Option Value} {base:Heap}
theorem lg.ok1 (F:lg K x qual st dV f fd) (S:aU N ps (aC st)) (len:∀ vs H Q E,sp vs H Q E->vs.length=ps.length)
 (hbody:∀ (cdv:Value) (A:Around) (outer:List Env) (s:Shared) (H:Hp) (vs:List V) (Q:VK) (E:XK),bF k (A.deeper (PyProof.Rows.envOfC qual (aC st) s.heap.objs.size f cdv))->sp vs H Q E->
  ∃ t,qQ (iK CX P w K mg base N qual (aC st) f cdv A outer s H E) (bW st) t/\t { nx:=fun _ H'=>Q .non H',rt:=Q } (L2.start N vs) H):aR P w K mg base CX (k+1) f fd ps sp:=by
 obtain ⟨oc,od,kV,doc,pm,an,cdv,ct,osl,rfl,lk,hcd⟩:=F.ex
 exact rA lk hcd S len fun A outer s H vs Q E hr hsp=>hbody cdv A outer s H vs Q E hr hsp
structure Ah (K:Frag) (C:Addr):Prop where
 x:jn K C "ValueError" "ValueError.__new__"
 w:takerIn K C "word" = some none
def Jf (K:Frag):Sp:=fun vs H Q _=>∃ (e C:Addr) (a:V) (b:V),vs=[.ref e,a,b]/\Ah K C/\H e=some (dO e C none)/\∀ da,H da=none->Q .non (upd (upd H e (dO e C (some da))) da (qm da [("word",b)]))
theorem Qy:aU ["self","words","word"] ["self","words","word"] (aC Hh):=⟨rfl,rfl,rfl,by decide +kernel,rfl,by decide +kernel,by decide +kernel⟩
structure G3 (K:Frag) (mg:Str->Option Value):Prop where
 ve:mg "ValueError" = none
 fc:findCls K (.type "ValueError") (.type "type") "__init__" = some (.val (.builtin "ValueError.__init__"))
theorem HJ (F:lg K "__init__" "ScribeError.__init__" Hh dV f fd) (T:G3 K mg):aR P w K mg base CX 1 f fd ["self","words","word"] (Jf K):=by
 refine F.ok1 Qy (fun vs H Q E h=>?_) (fun cdv A outer s H vs Q E hr h=>?_)
 ·obtain ⟨e,C,a,b,rfl,_⟩:=h
  rfl
 ·obtain ⟨e,C,a,b,rfl,EC,he,k⟩:=h
  refine ⟨_,(au (dm (sJ (by rfl) T.ve (by rfl) (by kernel_rfl) (by decide +kernel) T.fc (sV PySem.F.excBase_ValueError) (aa (pv 0) (aa (pv 1) aj))))
   (aB (An (B:="ValueError") (newId:="ValueError.__new__") (pv 0) (pv 2) rfl))),?_⟩
  exact ⟨_,rfl,_,rfl,e,C,_,_,rfl,he,EC.x,_,rfl,_,rfl,e,C,rfl,EC.x,EC.w,.inl ⟨he,k⟩⟩
structure K9 (K:Frag) (mg:Str->Option Value) (cn:Str) (C f:Addr):Prop where
 mg:mg cn=some (.ref C)
 sg:specialIn K (.ref C) "__getattribute__" = some (some (.builtin "type.__getattribute__"))
 rd:∃ mc,readsIn K C mc=true/\findCls K (.ref C) mc "__init__" = some (.val (.ref f))
 kp:keepIn K (.ref f)=true
def Tz (K:Frag) (wd:Str):Sp:=fun vs H Q _=>∃ (e C:Addr) (a:V),vs=[.ref e,a]/\Ah K C/\H e=some (dO e C none)/\∀ da,H da=none->Q .non (upd (upd H e (dO e C (some da))) da (qm da [("word",.str wd)]))
noncomputable abbrev iy:Stmt:=inClass (top 5) 0
theorem wY:aU ["self","words"] ["self","words"] (aC iy):=⟨rfl,rfl,rfl,by decide +kernel,rfl,by decide +kernel,by decide +kernel⟩
theorem sX (F:lg K "__init__" "BadTest.__init__" iy dW f fd) (T:G3 K mg) (FS:lg K "__init__" "ScribeError.__init__" Hh dV fS fdS) (bS:Binds K fdS ["self","words","word"] []) (MS:K9 K mg "ScribeError" cS fS):aR P w K mg base CX 2 f fd ["self","words"] (Tz K "badtest"):=by
 have GS:aR P w K mg base bQ 1 fS fdS ["self","words","word"] (Jf K):=HJ FS T
 obtain ⟨mc,m1,m2⟩:=MS.rd
 refine F.ok1 wY (fun vs H Q E h=>?_) (fun cdv A outer s H vs Q E hr h=>?_)
 ·obtain ⟨e,C,a,rfl,_⟩:=h
  rfl
 ·obtain ⟨e,C,a,rfl,EC,he,k⟩:=h
  refine ⟨_,(aB (dm (uH (E:=E0) (by rfl) MS.mg MS.sg m1 m2 MS.kp GS hr bS .nil aN (aa (pv 0) (aa (pv 1) (aa aF aj)))))),?_⟩
  exact ⟨_,rfl,_,rfl,e,C,_,_,rfl,EC,he,k⟩
def mO (H:Hp) (fs:List (Str×V)) (da:Addr) (H':Hp):Prop:=H da=none/\H'=upd H da (qm da fs)
theorem xn (h1:H e=none) (h2:upd H e (dO e C none) da=none):mO H fs da (zm (upd (upd (upd H e (dO e C none)) e (dO e C (some da))) da (qm da fs)) e):=by
 have ne:da≠e:=fun q=>by subst q;rw [ak] at h2;cases h2
 rw [aJ ne] at h2
 refine ⟨h2,funext fun b=>?_⟩
 by_cases q:b=e
 ·subst q
  rw [m9,aJ (Ne.symm ne),h1]
 ·rw [uy q]
  by_cases r:b=da
  ·subst r;rw [ak,ak]
  ·rw [aJ r,aJ q,aJ q,aJ r]
theorem wJ (h:aA H H1) (n:H1 e=none):H e=none:=by
 cases z:H e with
 |none=>rfl
 |some o=>have:=h _ _ z;rw [n] at this;cases this
structure Jl (K:Frag) (mg:Str->Option Value) (x:Str) (C f:Addr) (fd:FuncData):Prop where
 b:Binds K fd ["self","words"] []
 mg:mg x=some (.ref C)
 e:Ah K C
 i:findIn K (.ref C) "__init__" = some (some (.ref f))
 n:isFn K (.ref f)=true
end
noncomputable abbrev Bc:Int:=1000000000000000000000000000000
def gH (x:Str):Prop:=x.cps.all (·<128)=true
def CK:Sp:=fun vs H Q _=>∃ (p dc:Addr),vs=[.ref p]/\Dr H p dc/\∀ (z:Int) (H':Hp),-Bc≤z->z≤Bc->Dr H' p dc->d9 p H H'->Q (.int z) H'
theorem Ci:aU ["_law_d","_law_number_here"] ["_law_d"] (aC (top 40)):=⟨rfl,rfl,rfl,by decide +kernel,rfl,by decide +kernel,by decide +kernel⟩
theorem Gu (F:gU K "_law_far" "_law_far" (top 40) f fd) (T:Txt K mg) (DP:cO K mg "_law_pick" (top 38) ["_law_d","_law_many"] fP fdP):aR P w K mg base bQ 2 f fd ["_law_d"] CK:=by
 have GP:aR P w K mg base bQ 1 fP fdP ["_law_d","_law_many"] gj:=eQ DP.F T
 refine F.ok Ci (fun vs H Q E h=>?_) (fun cdv A outer s H vs Q E hr h=>?_)
 ·obtain ⟨p,dc,rfl,_⟩:=h
  rfl
 ·obtain ⟨p,dc,rfl,D,k⟩:=h
  refine ⟨_,(au
 (bh (i:=1) Ci.nd rfl (Or.inl rfl) (aZ cW (aZ ue aq aq) (aD GP hr rfl DP.mg DP.F.kp DP.b .nil aN (aa (pv 0) (aa (aZ ue aq aq) aj)))))
 (aB
 (aK (aY dG (bU (aa (pv 1) (aa (aZ gO aq (pv 1)) aj))) (aD GP hr rfl DP.mg DP.F.kp DP.b .nil aN (aa (pv 0) (aa aq aj))) (fun _ _=>rfl))))),?_⟩
  have c1:Dq 10 9:=⟨by decide,by decide,by decide⟩
  have c2:Dq 10 29:=⟨by decide,by decide,by decide⟩
  have p1:(10:Int) ^ (9:Int).toNat=1000000000:=by decide
  have p2:(10:Int) ^ (29:Int).toNat=100000000000000000000000000000:=by decide +kernel
  refine ⟨_,_,rfl,rfl,c1,_,rfl,_,_,rfl,rfl,c2,p,dc,_,rfl,D,by rw [p2];decide,by rw [p2];decide,fun r H1 a1 b1 D1 t1=>⟨_,_,rfl,rfl,?_⟩⟩
  rw [p2] at b1
  rw [p1]
  have z1:1000000000+r≤Bc:=by simp only [Bc];omega
  refine ⟨_,rfl,_,rfl,_,_,rfl,rfl,(show 2≤sizeLine by decide),fun q1 h1=>?_⟩
  have D2:=D1.new (o:=.lst [.int (1000000000+r),.int (0-(1000000000+r))]) h1
  refine ⟨_,rfl,p,dc,_,rfl,D2,by decide,by decide,fun r2 H2 a2 b2 D3 t2=>?_⟩
  have e1:bM K H2 q1 [.int (1000000000+r),.int (0-(1000000000+r))]:=D2.seq t2 (bM.of ak)
  have bt:d9 p H H2:=t1.trans ((d9.new h1).trans t2)
  by_cases h0:r2=0
  ·subst h0
   exact ⟨_,_,_,_,rfl,rfl,e1,rfl,k _ _ (by simp only [Bc] at *;omega) z1 D3 bt⟩
  ·obtain rfl:r2=1:=by omega
   exact ⟨_,_,_,_,rfl,rfl,e1,rfl,k _ _ (by simp only [Bc] at *;omega) (by simp only [Bc] at *;omega) D3 bt⟩
theorem Qf:∀ c<128,(!(Builtin.Str.occurrences ("abcdefghijklmnopqrstuvwxyz" : Str) ⟨#[c]⟩ 0 ("abcdefghijklmnopqrstuvwxyz" : Str).length 1).isEmpty)=decide (97≤c/\c≤122):=by decide +kernel
def ym:Sp:=fun vs H Q _=>∃ x:Str,vs=[.str x]/\x.length≤50000/\gH x/\∀ H',aA H H'->Q (.bl (nameB x)) H'
theorem PX:aU ["_law_text"] ["_law_text"] (aC (top 44)):=⟨rfl,rfl,rfl,by decide +kernel,rfl,by decide +kernel,by decide +kernel⟩
theorem oF (x:Str):nameB x=(decide (1≤x.length) && (decide (x.length≤8) && x.cps.toList.all fun c=>decide (97≤c/\c≤122))):=by
 have h:nameB x=true↔(decide (1≤x.length) && (decide (x.length≤8) && x.cps.toList.all fun c=>decide (97≤c/\c≤122)))=true:=by
  rw [fQ]
  simp only [Bool.and_eq_true,decide_eq_true_eq,List.all_eq_true]
  exact ⟨fun h=>⟨h.lo,h.hi,fun c hc=>h.lc c hc⟩,fun h=>⟨h.1,h.2.1,fun c hc=>h.2.2 c hc⟩⟩
 cases e1:nameB x with
 |true=>exact (h.mp e1).symm
 | false=>
   cases e2:(decide (1≤x.length) && (decide (x.length≤8) && x.cps.toList.all fun c=>decide (97≤c/\c≤122))) with
   |false=>rfl
   |true=>rw [h.mpr e2] at e1;cases e1
theorem Ai (F:gU K "_law_is_name" "_law_is_name" (top 44) f fd) (T:Txt K mg):aR P w K mg base bQ 1 f fd ["_law_text"] ym:=by
 refine F.ok PX (fun vs H Q E h=>?_) (fun cdv A outer s H vs Q E hr h=>?_)
 ·obtain ⟨x,rfl,_⟩:=h
  rfl
 ·obtain ⟨x,rfl,hl,ha,k⟩:=h
  have big:50000≤sizeLine:=by decide
  refine ⟨_,(aB
 (aK (cC (jZ fH fH aq (aM iG (by rfl) T.len cF (aa (pv 0) aj)) aq) (dD (aM (kZ rfl) (by rfl) T.all uL (aa (gD (own:=["_law_sign"]) (js:=[]) (N':=["_law_sign"]) (bw.of (osc:=aC (top 44)) (N:=["_law_text"]) rfl rfl ⟨rfl,by decide +kernel,by decide +kernel,by decide +kernel,rfl,by decide +kernel⟩) rfl (GK (pv 0)) (fun _ _ _ _ _=>(bj (i:=0) (show List.Nodup (["_law_sign"]:List Str) by decide +kernel) rfl (Or.inl rfl) (Or.inr rfl))) (fun _ _ _ _ _=>cZ) (fun _ _ _ _ _=>(bY vP (pv 0) aF rfl))) aj)))))),?_⟩
  rw [oF] at k
  refine ⟨_,rfl,x,rfl,by omega,_,_,rfl,rfl,_,rfl,?_⟩
  by_cases h1:1≤x.length
  ·rw [decide_eq_true h1,Bool.true_and] at k
   refine cI (by simp;omega) ⟨_,_,rfl,rfl,_,rfl,?_⟩
   by_cases h8:x.length≤8
   ·rw [decide_eq_true h8,Bool.true_and] at k
    refine cI (by simp;omega) ⟨_,rfl,x,rfl,ha,?_⟩
    have hz:x.cps.size=x.length:=rfl
    refine yF (x:=x) (fun i ys σ' H'=>∃ v,σ'=[v]/\H'=H/\ys=((x.cps.toList.take i).map fun c=>V.bl (decide (97≤c/\c≤122)))) (by omega) ⟨none,rfl,rfl,by simp⟩ ?_ ?_
    ·rintro i c ys σ' H' hc hy ⟨v,rfl,rfl,rfl⟩ N hN
     have hc':x.cps.toList[i]?=some c:=by rw [Array.getElem?_toList];exact hc
     have c1:c<128:=by
      have h':=ha
      unfold gH at h'
      rw [← Array.all_toList,List.all_eq_true] at h'
      simpa using h' c (List.mem_of_getElem? hc')
     refine ⟨_,rfl,_,_,rfl,rfl,?_⟩
     rw [Qf c c1]
     refine hN _ _ _ (by simpa using hy) ⟨_,rfl,rfl,?_⟩
     rw [List.take_add_one,hc']
     simp
    ·rintro ys σ' H' hy ⟨v,rfl,rfl,rfl⟩
     rw [List.take_of_length_le (by simp)]
     refine ⟨by rw [List.length_map];have:x.cps.toList.length=x.length:=rfl;omega,fun q hq=>?_⟩
     refine ⟨q,x.cps.toList.map fun c=>decide (97≤c/\c≤122),rfl,?_,?_⟩
     ·have:=bM.of (K:=K) (H:=upd H' q (.lst (x.cps.toList.map fun c=>V.bl (decide (97≤c/\c≤122))))) (a:=q) (xs:=x.cps.toList.map fun c=>V.bl (decide (97≤c/\c≤122))) ak
      rw [List.map_map]
      exact this
     ·dsimp only
      rw [List.all_map]
      exact k _ (aA.new hq)
   ·rw [decide_eq_false h8,Bool.false_and] at k
    exact bZ (by simp;omega) (k H fun _ _ z=>z)
  ·rw [decide_eq_false h1,Bool.false_and] at k
   exact bZ (by simp;omega) ⟨_,rfl,bZ rfl (k H fun _ _ z=>z)⟩
theorem jb (a:gH x) (b:gH y):gH (x++y):=by
 unfold gH at *
 rw [← Array.all_toList,List.all_eq_true] at *
 intro c hc
 have:(x++y).cps.toList=x.cps.toList++y.cps.toList:=by
  show (x.cps++y.cps).toList=_
  simp
 rw [this] at hc
 rcases List.mem_append.mp hc with h|h
 ·exact a c h
 ·exact b c h
theorem g_ (a:gH x) (l u:Option Int):gH (Txt.slice x l u):=by
 unfold gH at *
 rw [← Array.all_toList,List.all_eq_true] at *
 exact fun c hc=>a c (wD x l u c hc)
def Cv:Sp:=fun vs H Q _=>∃ (p dc:Addr) (x:Str),vs=[.ref p,.str x]/\Dr H p dc/\x.length≤500/\gH x/\∀ (y:Str) (H':Hp),gH y->y.length≤x.length+8->Dr H' p dc->d9 p H H'->Q (.str y) H'
theorem Nb:aU ["_law_d","_law_text","_law_odd"] ["_law_d","_law_text"] (aC (top 46)):=⟨rfl,rfl,rfl,by decide +kernel,rfl,by decide +kernel,by decide +kernel⟩
theorem FZ (F:gU K "_law_odd_name" "_law_odd_name" (top 46) f fd) (T:Txt K mg) (DP:cO K mg "_law_pick" (top 38) ["_law_d","_law_many"] fP fdP) (DO:cO K mg "_law_of" (top 39) ["_law_d","_law_things"] fO fdO) :
 aR P w K mg base bQ 3 f fd ["_law_d","_law_text"] Cv:=by
 have GO:aR P w K mg base bQ 2 fO fdO ["_law_d","_law_things"] (tG K):=o_ DO.F T DP
 refine F.ok Nb (fun vs H Q E h=>?_) (fun cdv A outer s H vs Q E hr h=>?_)
 ·obtain ⟨p,dc,x,rfl,_⟩:=h
  rfl
 ·obtain ⟨p,dc,x,rfl,D,hl,ha,k⟩:=h
  refine ⟨_,(au
 (bh (i:=2) Nb.nd rfl (Or.inl rfl) (bU (aa aF (aa (aZ cU (pv 1) aF) (aa (aZ cU (cj nQ (pv 1) cN (cL aq)) aF) (aa (aZ cU (cj nQ (pv 1) cN (cL aq)) aF) (aa (aZ cU (cj nQ (pv 1) cN (cL aq)) aF) (aa (aZ cU (cj nQ (pv 1) cN (cL aq)) aF) (aa (aZ cU aF (cj nQ (pv 1) cN (cL aq))) aj)))))))))
 (aB
 (aK (aD GO hr rfl DO.mg DO.F.kp DO.b .nil aN (aa (pv 0) (aa (pv 2) aj)))))),?_⟩
  have big:1000≤sizeLine:=by decide
  have l1:(("abcdefgh" : Str)).length=8:=by decide +kernel
  have sl:∀ j:Int,(Txt.slice x none (some j)).length≤x.length:=fun j=>Txt.slice_le x none (some j)
  have m:∀ y z:Str,y.length≤x.length->z.length=1->y.length+z.length≤sizeLine:=fun y z h1 h2=>by omega
  have m':∀ y z:Str,y.length≤x.length->z.length=1->z.length+y.length≤sizeLine:=fun y z h1 h2=>by omega
  refine ⟨_,rfl,_,_,rfl,rfl,by omega,?_⟩
  refine ⟨_,rfl,_,rfl,x,_,rfl,rfl,rfl,by omega,_,_,rfl,rfl,m _ ("A" : Str) (sl _) (by decide +kernel),?_⟩
  refine ⟨_,rfl,_,rfl,x,_,rfl,rfl,rfl,by omega,_,_,rfl,rfl,m _ (" " : Str) (sl _) (by decide +kernel),?_⟩
  refine ⟨_,rfl,_,rfl,x,_,rfl,rfl,rfl,by omega,_,_,rfl,rfl,m _ ("1" : Str) (sl _) (by decide +kernel),?_⟩
  refine ⟨_,rfl,_,rfl,x,_,rfl,rfl,rfl,by omega,_,_,rfl,rfl,m _ ("_" : Str) (sl _) (by decide +kernel),?_⟩
  refine ⟨_,rfl,_,rfl,x,_,rfl,rfl,rfl,by omega,_,_,rfl,rfl,m' _ ("{" : Str) (sl _) (by decide +kernel),?_⟩
  refine ⟨(show 7≤sizeLine by decide),fun q hq=>?_⟩
  refine ⟨_,rfl,_,rfl,p,dc,q,_,rfl,D.new hq,bM.of ak,by simp,by simp,fun v H1 hv D1 b1=>?_⟩
  have ap:∀ y z:Str,(y++z).length=y.length+z.length:=fun y z=>Str.length_append y z
  have one:∀ z:Str,z.length=1->∀ j:Int,(Txt.slice x none (some j)++z).length≤x.length+8/\(z++Txt.slice x none (some j)).length≤x.length+8:=fun z hz j=>by
   have:=sl j
   rw [ap,ap]
   omega
  obtain ⟨y,rfl,y1,y2⟩:∃ y:Str,v=.str y/\gH y/\y.length≤x.length+8:=by
   simp only [List.mem_cons,List.not_mem_nil,or_false] at hv
   rcases hv with rfl|rfl|rfl|rfl|rfl|rfl|rfl
   ·exact ⟨_,rfl,by unfold gH;decide +kernel,Nat.zero_le _⟩
   ·exact ⟨_,rfl,jb ha (by unfold gH;decide +kernel),by rw [ap];omega⟩
   ·exact ⟨_,rfl,jb (g_ ha _ _) (by unfold gH;decide +kernel),(one _ (by decide +kernel) _).1⟩
   ·exact ⟨_,rfl,jb (g_ ha _ _) (by unfold gH;decide +kernel),(one _ (by decide +kernel) _).1⟩
   ·exact ⟨_,rfl,jb (g_ ha _ _) (by unfold gH;decide +kernel),(one _ (by decide +kernel) _).1⟩
   ·exact ⟨_,rfl,jb (g_ ha _ _) (by unfold gH;decide +kernel),(one _ (by decide +kernel) _).1⟩
   ·exact ⟨_,rfl,jb (by unfold gH;decide +kernel) (g_ ha _ _),(one _ (by decide +kernel) _).2⟩
  exact k y H1 y1 y2 D1 ((d9.new hq).trans b1)
noncomputable abbrev uG:Int:=Bc+2
inductive TD:PyData->Prop
 |str {x:Str}:gH x->x.length≤40->TD (.str x)
 |int {i:Int}:-uG≤i->i≤uG->TD (.int i)
 |nil:TD (.tuple [])
 |node {f:Str} {r:List PyData}:gH f->f.length≤40->r.length≤20->(∀ d∈r,TD d)->TD (.tuple (.str f::r))
noncomputable def iV:PyData->Bool
 |.str x=>nameB x
 |_=>false
noncomputable def qd:PyData->Bool
 |.int i=>decide (-999999≤i) && decide (i≤999999)
 |_=>false
noncomputable def eF (f:Str) (r:List PyData):Bool:=
 if f = "all" then r.isEmpty else if f = "is" then (match r with|[x]=>iV x|_=>false)
 else decide (f = "less"∨f = "same") && (match r with|[x,y]=>iV x && qd y|_=>false)
noncomputable def arity (f:Str):Option Nat:=if f = "not" then some 1 else if f = "and" then some 2 else if f = "or" then some 2 else none
noncomputable def cnt:Nat->PyData->Nat
 |0,_=>0
 |n+1,.tuple (.str f::r)=>if eF f r=true then 1 else if arity f=some r.length then (if 0∈r.map (cnt n) then 0 else 1+(r.map (cnt n)).sum) else 0
 |_+1,_=>0
mutual
noncomputable def bB:PyData->Bool
 |.tuple (.str f::r)=>if f = "and"∨f = "or" then decide (r.length=2) && shapes r else if f = "not" then decide (r.length=1) && shapes r else eF f r
 |_=>false
noncomputable def shapes:List PyData->Bool
 |[]=>true
 |d::r=>bB d && shapes r
end
mutual
noncomputable def bz:PyData->Nat
 |.tuple (.str f::r)=>if (arity f).isSome=true then 1+d7 r else 1
 |_=>1
noncomputable def d7:List PyData->Nat
 |[]=>0
 |d::r=>max (bz d) (d7 r)
end
mutual
noncomputable def bR:PyData->Nat
 |.tuple (.str f::r)=>if (arity f).isSome=true then 1+dJ r else 1
 |_=>1
noncomputable def dJ:List PyData->Nat
 |[]=>0
 |d::r=>bR d+dJ r
end
noncomputable def bN (d:PyData):Bool:=bB d && (decide (bz d≤5) && decide (bR d≤15))
theorem pL:∀ d,1≤bR d:=by
 intro d
 unfold bR
 split
 ·split <;> omega
 ·omega
theorem cJ:∀ d,1≤bz d:=by
 intro d
 unfold bz
 split
 ·split <;> omega
 ·omega
theorem uo (h:eF f r=true):arity f=none:=by
 unfold eF at h
 unfold arity
 by_cases h1:f = "all"
 ·subst h1;decide +kernel
 ·rw [if_neg h1] at h
  by_cases h2:f = "is"
  ·subst h2;decide +kernel
  ·rw [if_neg h2,Bool.and_eq_true,decide_eq_true_eq] at h
   rcases h.1 with rfl|rfl <;> decide +kernel
theorem mL (k:Nat) (r:List PyData):decide (some k=some r.length)=decide (r.length=k):=by
 simp only [Option.some.injEq,decide_eq_decide]
 exact ⟨fun h=>h.symm,fun h=>h.symm⟩
theorem gn:bB (.tuple (.str f::r))=if arity f=none then eF f r else decide (arity f=some r.length) && shapes r:=by
 unfold bB
 by_cases h1:f = "and"
 ·subst h1
  rw [show arity "and" = some 2 from by decide +kernel,if_pos (Or.inl rfl),if_neg (show ¬ (some 2=(none:Option Nat)) from nofun),mL]
 ·by_cases h2:f = "or"
  ·subst h2
   rw [show arity "or" = some 2 from by decide +kernel,if_pos (Or.inr rfl),if_neg (show ¬ (some 2=(none:Option Nat)) from nofun),mL]
  ·rw [if_neg (by simp [h1,h2])]
   by_cases h3:f = "not"
   ·subst h3
    rw [show arity "not" = some 1 from by decide +kernel,if_pos rfl,if_neg (show ¬ (some 1=(none:Option Nat)) from nofun),mL]
   ·have ha:arity f=none:=by unfold arity;rw [if_neg h3,if_neg h1,if_neg h2]
    rw [ha,if_neg h3,if_pos rfl]
theorem JQ (ih:∀ d,cnt n d=if bB d=true/\bz d≤n then bR d else 0):∀ r:List PyData,(if 0∈r.map (cnt n) then 0 else 1+(r.map (cnt n)).sum)=if shapes r=true/\d7 r≤n then 1+dJ r else 0
 |[]=>by simp [shapes,d7,dJ]
 | d::r=>by
   have h:=JQ ih r
   have hp:=pL d
   rw [List.map_cons,List.sum_cons]
   have es:shapes (d::r)=(bB d && shapes r):=rfl
   have ed:d7 (d::r)=max (bz d) (d7 r):=rfl
   have ep:dJ (d::r)=bR d+dJ r:=rfl
   by_cases hd:bB d=true/\bz d≤n
   ·have e:cnt n d=bR d:=by rw [ih,if_pos hd]
    by_cases hr:shapes r=true/\d7 r≤n
    ·rw [if_pos hr] at h
     have h0:¬ 0∈r.map (cnt n):=fun z=>by rw [if_pos z] at h;omega
     rw [if_neg h0] at h
     rw [if_neg (by rw [List.mem_cons,not_or,e];exact ⟨by omega,h0⟩),if_pos ⟨by rw [es,hd.1,hr.1];rfl,by rw [ed];omega⟩,e,ep]
     omega
    ·rw [if_neg hr] at h
     have h0:0∈r.map (cnt n):=by
      by_cases z:0∈r.map (cnt n)
      ·exact z
      ·rw [if_neg z] at h;omega
     rw [if_pos (List.mem_cons_of_mem _ h0),if_neg]
     rintro ⟨z1,z2⟩
     rw [es,Bool.and_eq_true] at z1
     rw [ed] at z2
     exact hr ⟨z1.2,by omega⟩
   ·have e:cnt n d=0:=by rw [ih,if_neg hd]
    rw [if_pos (by rw [e];exact List.mem_cons_self ..),if_neg]
    rintro ⟨z1,z2⟩
    rw [es,Bool.and_eq_true] at z1
    rw [ed] at z2
    exact hd ⟨z1.1,by omega⟩
theorem ug:∀ (n:Nat) (d:PyData),cnt n d=if bB d=true/\bz d≤n then bR d else 0
 | 0,d=>by
   have:=cJ d
   rw [if_neg (by omega)]
   rfl
 | n+1,d=>by
   have ih:=ug n
   by_cases hd:∃ f r,d=.tuple (.str f::r)
   ·obtain ⟨f,r,rfl⟩:=hd
    have e1:cnt (n+1) (.tuple (.str f::r))=if eF f r=true then 1 else if arity f=some r.length then (if 0∈r.map (cnt n) then 0 else 1+(r.map (cnt n)).sum) else 0:=rfl
    have e2:bz (.tuple (.str f::r))=if (arity f).isSome=true then 1+d7 r else 1:=rfl
    have e3:bR (.tuple (.str f::r))=if (arity f).isSome=true then 1+dJ r else 1:=rfl
    have e4:=@gn f r
    by_cases hl:eF f r=true
    ·have ha:=uo hl
     rw [ha] at e2 e3 e4
     rw [e1,if_pos hl,if_pos ⟨by rw [e4,if_pos rfl];exact hl,by rw [e2];simp⟩,e3]
     rfl
    ·rw [e1,if_neg hl]
     by_cases ha:arity f=none
     ·rw [if_neg (by rw [ha];nofun),if_neg]
      rintro ⟨q,_⟩
      rw [e4,if_pos ha] at q
      exact hl q
     ·obtain ⟨k,hk⟩:=Option.ne_none_iff_exists'.mp ha
      rw [hk] at e2 e3 e4 ⊢
      rw [if_neg (show ¬ (some k=(none:Option Nat)) from nofun)] at e4
      by_cases hkr:k=r.length
      ·subst hkr
       rw [if_pos rfl,JQ ih r]
       by_cases z:shapes r=true/\d7 r≤n
       ·rw [if_pos z,if_pos ⟨by rw [e4,z.1];simp,by rw [e2];simp;omega⟩,e3]
        rfl
       ·rw [if_neg z,if_neg]
        rintro ⟨q1,q2⟩
        rw [e4] at q1
        rw [e2] at q2
        simp at q1 q2
        exact z ⟨q1,by omega⟩
      ·rw [if_neg (by simpa using hkr),if_neg]
       rintro ⟨q,_⟩
       rw [e4] at q
       simp [hkr] at q
   ·have e1:cnt (n+1) d=0:=by
     unfold cnt
     split
     ·omega
     ·exact absurd ⟨_,_,rfl⟩ hd
     ·rfl
    have e2:bB d=false:=by
     unfold bB
     split
     ·exact absurd ⟨_,_,rfl⟩ hd
     ·rfl
    rw [e1,e2,if_neg (by simp)]
theorem Ay (d:PyData):(decide (1≤cnt 5 d) && decide (cnt 5 d≤15))=bN d:=by
 have hp:=pL d
 rw [ug]
 unfold bN
 by_cases h:bB d=true/\bz d≤5
 ·rw [if_pos h,h.1,decide_eq_true h.2]
  simp [hp]
 ·rw [if_neg h]
  have:(bB d && decide (bz d≤5))=false:=by
   rw [← Bool.not_eq_true,Bool.and_eq_true,decide_eq_true_eq]
   exact h
  rw [← Bool.and_assoc,this]
  rfl
mutual
noncomputable def ie:PyData->List PyData
 |.tuple (.str f::r)=>if (arity f).isSome=true then eE r else [.tuple (.str f::r)]
 |d=>[d]
noncomputable def eE:List PyData->List PyData
 |[]=>[]
 |d::r=>ie d++eE r
end
section
variable {P:Program} {w:World} {K:PySem.W.Frag} {mg:Str->Option Value} {base:Heap}
def M9 (K:Frag):Sp:=fun vs H Q _=>∃ (x:V) (d:PyData),vs=[x]/\Rep K H x d/\TD d/\Q (.bl (iV d)) H
theorem RW:aU ["thing"] ["thing"] (aC (top 24)):=⟨rfl,rfl,rfl,by decide +kernel,rfl,by decide +kernel,by decide +kernel⟩
theorem Np (F:gU K "is_word" "is_word" (top 24) f fd) (T:Txt K mg) (TK:qC mg) (DN:cO K mg "is_name" (top 14) ["text"] fN fdN):aR P w K mg base bQ 2 f fd ["thing"] (M9 K):=by
 have GN:aR P w K mg base bQ 1 fN fdN ["text"] mW:=pM DN.F T TK
 refine F.ok RW (fun vs H Q E h=>?_) (fun cdv A outer s H vs Q E hr h=>?_)
 ·obtain ⟨x,d,rfl,_⟩:=h
  rfl
 ·obtain ⟨x,d,rfl,rd,td,k⟩:=h
  refine ⟨_,(aB (aK (cC (aM cg (by rfl) T.isinstance aX (aa (pv 0) (aa (dz rfl T.str lA) aj))) (dD (aD GN hr rfl DN.mg DN.F.kp DN.b .nil aN (aa (pv 0) aj)))))),?_⟩
  cases td with
  | @str y a l=>
    cases rd
    exact ⟨_,rfl,_,_,_,_,rfl,.str y,rfl,_,rfl,cI rfl ⟨_,rfl,y,rfl,Nat.le_trans l (by decide),k⟩⟩
  | @int i a b=>
    cases rd
    exact ⟨_,rfl,_,_,_,_,rfl,.int i,rfl,_,rfl,bZ rfl k⟩
  |nil=>exact ⟨_,rfl,_,_,_,_,rfl,rd,rfl,_,rfl,bZ rfl k⟩
  |node a l n z=>exact ⟨_,rfl,_,_,_,_,rfl,rd,rfl,_,rfl,bZ rfl k⟩
def J4 (K:Frag):Sp:=fun vs H Q _=>∃ (x:V) (d:PyData),vs=[x]/\Rep K H x d/\TD d/\Q (.bl (qd d)) H
theorem Qa:aU ["thing"] ["thing"] (aC (top 25)):=⟨rfl,rfl,rfl,by decide +kernel,rfl,by decide +kernel,by decide +kernel⟩
theorem Ip (F:gU K "is_number" "is_number" (top 25) f fd) (T:Txt K mg) (TK:qC mg):aR P w K mg base bQ 1 f fd ["thing"] (J4 K):=by
 refine F.ok Qa (fun vs H Q E h=>?_) (fun cdv A outer s H vs Q E hr h=>?_)
 ·obtain ⟨x,d,rfl,_⟩:=h
  rfl
 ·obtain ⟨x,d,rfl,rd,td,k⟩:=h
  obtain ⟨tl,ml⟩:=TK.lim
  refine ⟨_,(aB (aK (cC (aM cg (by rfl) T.isinstance aX (aa (pv 0) (aa (dz rfl T.int kE) aj))) (cC (uP (aM cg (by rfl) T.isinstance aX (aa (pv 0) (aa (dz rfl T.bool jC) aj)))) (dD (jZ fH fH (jG iB (dh (v:=.int 999999) rfl ml ⟨_,rfl⟩)) (pv 0) (dh (v:=.int 999999) rfl ml ⟨_,rfl⟩))))))),?_⟩
  cases td with
  | @int i a b=>
    cases rd
    refine ⟨_,rfl,_,_,_,_,rfl,.int i,rfl,_,rfl,cI rfl ⟨_,rfl,_,_,_,_,rfl,.int i,rfl,_,rfl,_,rfl,cI rfl ?_⟩⟩
    exact ou.chain (ou.neg ou.con) (ou.var rfl) ou.con Cz.i0 Cz.i0 _ k
  | @str y a l=>
    cases rd
    exact ⟨_,rfl,_,_,_,_,rfl,.str y,rfl,_,rfl,bZ rfl k⟩
  |nil=>exact ⟨_,rfl,_,_,_,_,rfl,rd,rfl,_,rfl,bZ rfl k⟩
  |node a l n z=>exact ⟨_,rfl,_,_,_,_,rfl,rd,rfl,_,rfl,bZ rfl k⟩
noncomputable abbrev dW:List (Str×PyData):=[("not",.int 1),("and",.int 2),("or",.int 2)]
noncomputable abbrev dS:List (Str×PyData):=[("less",.str "<"),("same",.str "=")]
structure tM (K:Frag) (mg:Str->Option Value) (aW aS:Addr):Prop where
 mw:mg "WITHIN" = some (.ref aW)
 ms:mg "SIGN_OF" = some (.ref aS)
 kw:wZ K aW dW
 ks:wZ K aS dS
theorem CQ (f:Str):jX dW f=(arity f).map fun n=>V.int (n:Nat):=by
 unfold jX arity
 show ((if _ then _ else if _ then _ else if _ then _ else none:Option PyData)).map Oi=_
 by_cases h1:f = "not"
 ·subst h1;rfl
 ·by_cases h2:f = "and"
  ·subst h2;rfl
  ·by_cases h3:f = "or"
   ·subst h3;rfl
   ·simp [h1,h2,h3]
theorem uX (f:Str):jX dS f=if f = "less" then some (.str "<") else if f = "same" then some (.str "=") else none:=by
 unfold jX
 show ((if _ then _ else if _ then _ else none:Option PyData)).map Oi=_
 by_cases h1:f = "less"
 ·subst h1;rfl
 ·by_cases h2:f = "same"
  ·subst h2;rfl
  ·simp [h1,h2]
def Hu (K:Frag):Sp:=fun vs H Q _=>∃ (a:Addr) (f:Str) (r:List PyData),vs=[.ref a]/\Rep K H (.ref a) (.tuple (.str f::r))/\TD (.tuple (.str f::r))/\Q (.bl (eF f r)) H
theorem Jb:aU ["test","form"] ["test"] (aC (top 26)):=⟨rfl,rfl,rfl,by decide +kernel,rfl,by decide +kernel,by decide +kernel⟩
theorem LC (F:gU K "is_leaf" "is_leaf" (top 26) f fd) (T:Txt K mg) (TK:qC mg) (TB:tM K mg aW aS) (DI:cO K mg "is_name" (top 14) ["text"] fI fdI) (DW:cO K mg "is_word" (top 24) ["thing"] fW fdW) (DN:cO K mg "is_number" (top 25) ["thing"] fN fdN):aR P w K mg base bQ 3 f fd ["test"] (Hu K):=by
 have GW:aR P w K mg base bQ 2 fW fdW ["thing"] (M9 K):=Np DW.F T TK DI
 have GN:aR P w K mg base bQ 1 fN fdN ["thing"] (J4 K):=Ip DN.F T TK
 refine F.ok Jb (fun vs H Q E h=>?_) (fun cdv A outer s H vs Q E hr h=>?_)
 ·obtain ⟨a,f,r,rfl,_⟩:=h
  rfl
 ·obtain ⟨a,f,r,rfl,rd,td,k⟩:=h
  have hr1:bF 1 _:=hr.mono (by decide)
  refine ⟨_,(au (bh (i:=1) Jb.nd rfl (Or.inl rfl) (aY aV (pv 0) aq (fun _ _=>rfl)))
   (au (bu (aH bx (pv 1) aF (aL _)) (aB (aK (bY bx (aM a_ (by rfl) T.len cF (aa (pv 0) aj)) aq (aL _)))) aP)
   (au (bu (aH bx (pv 1) aF (aL _)) (aB (aK (cC (bY bx (aM a_ (by rfl) T.len cF (aa (pv 0) aj)) aq (aL _)) (dD (aD GW hr rfl DW.mg DW.F.kp DW.b .nil aN (aa (aY aV (pv 0) aq (fun _ _=>rfl)) aj)))))) aP)
   (aB (aK (cC (bY sG (pv 1) (dh (v:=.ref aS) rfl TB.ms rfl) rfl) (cC (bY bx (aM a_ (by rfl) T.len cF (aa (pv 0) aj)) aq (aL _)) (cC (aD GW hr rfl DW.mg DW.F.kp DW.b .nil aN (aa (aY aV (pv 0) aq (fun _ _=>rfl)) aj)) (dD (aD GN hr1 rfl DN.mg DN.F.kp DN.b .nil aN (aa (aY aV (pv 0) aq (fun _ _=>rfl)) aj))))))))))),?_⟩
  cases td with
  |node af lf nr tr=>
  cases rd with
  |@tup _ xs _ sq rs=>
  obtain ⟨x0,ys,rfl⟩:∃ x0 ys,xs=x0::ys:=by cases rs;exact ⟨_,_,rfl⟩
  obtain ⟨r0,rt⟩:Rep K H x0 (.str f)/\bK K H ys r:=by cases rs with|cons a b=>exact ⟨a,b⟩
  cases r0
  have hl:=rt.length
  refine ⟨_,rfl,a,_,_,_,rfl,rfl,sq,aG (j:=0) rfl,_,rfl,rfl,_,rfl,?_⟩
  unfold eF at k
  by_cases h1:f = "all"
  ·subst h1
   rw [if_pos rfl] at k
   refine cI (by simp) ⟨_,rfl,a,_,rfl,.inr sq,rfl,?_⟩
   have e:decide (V.int ((V.str "all"::ys).length:Nat)=V.int 1)=r.isEmpty:=by
    rw [Bool.eq_iff_iff,decide_eq_true_eq,List.isEmpty_iff,List.length_cons,V.int.injEq]
    constructor
    ·intro h
     exact List.length_eq_zero_iff.mp (by omega)
    ·rintro rfl
     simp at hl
     simp [hl]
   rw [e]
   exact k
  ·rw [if_neg h1] at k
   refine bZ (by simp [h1]) ⟨_,rfl,rfl,_,rfl,?_⟩
   by_cases h2:f = "is"
   ·subst h2
    rw [if_pos rfl] at k
    refine cI (by simp) ⟨_,rfl,a,_,rfl,.inr sq,rfl,_,rfl,?_⟩
    match r,ys,rt,k,hl with
    |[],[],_,k,_=>exact bZ (by simp) k
    |[d],[y],.cons ry .nil,k,_=>exact cI (by simp) ⟨_,rfl,a,_,_,_,rfl,rfl,sq,aG (j:=1) rfl,y,d,rfl,ry,tr d (List.mem_cons_self ..),k⟩
    |_::_::_,_::_::_,_,k,_=>exact bZ (by simp;omega) k
   ·rw [if_neg h2] at k
    refine bZ (by simp [h2]) ⟨_,rfl,f,aS,dS,rfl,rfl,TB.ks,_,rfl,?_⟩
    have e:(if false=true then !(jX dS f).isSome else (jX dS f).isSome)=decide (f = "less"∨f = "same"):=by
     rw [uX]
     by_cases q1:f = "less"
     ·simp [q1]
     ·by_cases q2:f = "same"
      ·rw [if_neg q1,if_pos q2];simp [q2]
      ·simp [q1,q2]
    rw [e]
    by_cases h3:f = "less"∨f = "same"
    ·rw [decide_eq_true h3,Bool.true_and] at k
     refine cI (by simp [h3]) ⟨_,rfl,a,_,rfl,.inr sq,rfl,_,rfl,?_⟩
     match r,ys,rt,k,hl with
     |[],[],_,k,_=>exact bZ (by simp) k
     |[d],[y],_,k,_=>exact bZ (by simp) k
     | [d,d2],[y,y2],.cons ry (.cons ry2 .nil),k,_=>
       refine cI (by simp) ⟨_,rfl,a,_,_,_,rfl,rfl,sq,aG (j:=1) rfl,y,d,rfl,ry,tr d (List.mem_cons_self ..),_,rfl,?_⟩
       have k:Q (.bl (iV d && qd d2)) H:=k
       cases hw:iV d with
       |false=>rw [hw] at k;exact bZ rfl k
       | true=>
         rw [hw] at k
         exact cI rfl ⟨_,rfl,a,_,_,_,rfl,rfl,sq,aG (j:=2) rfl,y2,d2,rfl,ry2,tr d2 (List.mem_cons_of_mem _ (List.mem_cons_self ..)),k⟩
     |_::_::_::_,_::_::_::_,_,k,_=>exact bZ (by simp;omega) k
    ·rw [decide_eq_false h3,Bool.false_and] at k
     exact bZ (by simp [h3]) k
end
theorem dX (h:arity f=some k):1≤k/\k≤2:=by
 unfold arity at h
 split at h
 ·cases h;omega
 ·split at h
  ·cases h;omega
  ·split at h
   ·cases h;omega
   ·cases h
theorem tH:∀ (n:Nat) (d:PyData),cnt n d+1≤2 ^ n
 |0,_=>by simp [cnt]
 | n+1,d=>by
   have ih:=tH n
   have p:1≤2 ^ n:=Nat.one_le_two_pow
   rw [Nat.pow_succ]
   by_cases hd:∃ f r,d=.tuple (.str f::r)
   ·obtain ⟨f,r,rfl⟩:=hd
    show (if eF f r=true then 1 else if arity f=some r.length then (if 0∈r.map (cnt n) then 0 else 1+(r.map (cnt n)).sum) else 0)+1≤_
    split
    ·omega
    ·split
     ·rename_i h
      split
      ·omega
      ·have a:=dX h
       match r,a with
       |[x],_=>have:=ih x;simp;omega
       |[x,y],_=>have:=ih x;have:=ih y;simp;omega
       |_::_::_::_,a=>simp at a
       |[],a=>simp at a
     ·omega
   ·have e:cnt (n+1) d=0:=by
     unfold cnt
     split
     ·omega
     ·exact absurd ⟨_,_,rfl⟩ hd
     ·rfl
    omega
theorem rH (g:PyData->Nat) (r:List PyData):(r.map fun d=>((g d:Nat):Int)).sum=(((r.map g).sum:Nat):Int):=by
 induction r with
 |nil=>rfl
 |cons d r ih=>rw [List.map_cons,List.map_cons,List.sum_cons,List.sum_cons,ih];omega
def yf (K:Frag) (n:Nat):Sp:=fun vs H Q _=>∃ (x:V) (d:PyData),vs=[x,.int (n:Nat)]/\Rep K H x d/\TD d/\∀ H',aA H H'->Q (.int (cnt n d:Nat)) H'
noncomputable abbrev U7:List Str:=["thing","deep","counts"]
theorem Hy:aU U7 ["thing","deep"] (aC (top 27)):=⟨rfl,rfl,rfl,by decide +kernel,rfl,by decide +kernel,by decide +kernel⟩
theorem nY:iM (x::xs) (some 1) none=xs:=by
 simp [iM,HT.dF]
theorem Mx (DC:cO K mg "count_parts" (top 27) ["thing","deep"] f fd) (T:Txt K mg) (hsum:mg "sum" = none) (TK:qC mg) (TB:tM K mg aW aS) (DI:cO K mg "is_name" (top 14) ["text"] fI fdI) (DW:cO K mg "is_word" (top 24) ["thing"] fW fdW) (DN:cO K mg "is_number" (top 25) ["thing"] fN fdN)
 (DL:cO K mg "is_leaf" (top 26) ["test"] fL fdL) (n:Nat) (hn5:n≤20):aR P w K mg base bQ (n+4) f fd ["thing","deep"] (yf K n):=by
 have GL:aR P w K mg base bQ 3 fL fdL ["test"] (Hu K):=LC DL.F T TK TB DI DW DN
 have main:∀ m k:Nat,m≤20->(∀ n,n+1=m->aR P w K mg base bQ (n+4) f fd ["thing","deep"] (yf K n))->aR P w K mg base bQ (m+4) f fd ["thing","deep"] (yf K m):=by
  intro m k0 hm GC
  refine DC.F.ok Hy (fun vs H Q E h=>?_) (fun cdv A outer s H vs Q E hr h=>?_)
  ·obtain ⟨x,d,rfl,_⟩:=h
   rfl
  ·obtain ⟨x,d,rfl,rd,td,k⟩:=h
   have hr3:bF 3 _:=hr.mono (by omega)
   have GC':aR P w K mg base bQ (m+3) f fd ["thing","deep"] (fun vs H Q E=>∃ n,n+1=m/\yf K n vs H Q E):=by
    match m,GC with
    |0,_=>exact ⟨fun _ _ _ _ ⟨n,e,_⟩=>by omega,fun _ _ _ _ _ _ _ _ _ _ _ _ _ ⟨n,e,_⟩=>by omega⟩
    | m+1,GC=>
      have G:=GC m rfl
      exact ⟨fun vs H Q E ⟨n,e,h⟩=>by cases e;exact G.1 vs H Q E h,fun a1 a2 a3 a4 a5 a6 a7 a8 a9 a10 a11 a12 a13 ⟨n,e,h⟩=>by cases e;exact G.2 a1 a2 a3 a4 a5 a6 a7 a8 a9 a10 a11 a12 a13 h⟩
   refine ⟨_,(au (bu (PW.pt (jQ (aH bx (pv 1) aq (aL _)) (jQ (gQ (dC (aM cg (by rfl) T.isinstance aX (aa (pv 0) (aa (dz rfl T.tuple e_) aj))))) (i_ (aH bx (aM a_ (by rfl) T.len cF (aa (pv 0) aj)) aq (aL _)))))) (aB (aK aq)) aP)
    (au (bu (dC (aD GL hr3 rfl DL.mg DL.F.kp DL.b .nil aN (aa (pv 0) aj))) (aB (aK aq)) aP)
    (au (bu (aH pC (xJ (dh (v:=.ref aW) rfl TB.mw rfl) (aY aV (pv 0) aq (fun _ _=>rfl)) ⟨rfl,rfl,rfl,rfl⟩) (aZ gO (aM a_ (by rfl) T.len cF (aa (pv 0) aj)) aq) (aL _)) (aB (aK aq)) aP)
    (au (fX (g:=bH 0) (i:=2) (own:=["part"]) (js:=[1]) (N':=["part","deep"]) (bw.of (osc:=aC (top 27)) (N:=U7) rfl rfl ⟨rfl,by decide +kernel,by decide +kernel,by decide +kernel,rfl,by decide +kernel⟩) rfl Hy.nd rfl rfl (gR (cj dU (pv 0) (cL aq) cN)) (fun _ _ _ _ _=>(bj (i:=0) (show List.Nodup (["part","deep"]:List Str) by decide +kernel) rfl (Or.inl rfl) (Or.inr rfl))) (fun _ _ _ _ _=>cZ) (fun _ _ _ _ _=>aD GC' hr rfl DC.mg DC.F.kp DC.b .nil aN (aa (pv 0) (aa (aZ gO (pv 1) aq) aj))))
    (aB (aK (eZ (aH fK aq (pv 2) rfl) aq (aZ cW aq (aM (p6 rfl) (by rfl) hsum zB (aa (pv 2) aj)))))))))),?_⟩
   refine ⟨_,rfl,rfl,_,rfl,?_⟩
   by_cases h0:m=0
   ·subst h0
    exact cI (by simp) (cI rfl (k _ (aA.refl _)))
   refine bZ (by simp [h0]) ?_
   obtain ⟨n,rfl⟩:∃ n,m=n+1:=⟨m-1,by omega⟩
   cases td with
   |str a l=>cases rd;exact ⟨_,rfl,_,_,_,_,rfl,.str _,rfl,_,rfl,cI rfl (cI rfl (k _ (aA.refl _)))⟩
   |int a b=>cases rd;exact ⟨_,rfl,_,_,_,_,rfl,.int _,rfl,_,rfl,cI rfl (cI rfl (k _ (aA.refl _)))⟩
   | nil=>
     cases rd with
     |@tup a xs _ sq rs=>
     cases rs
     exact ⟨_,rfl,_,_,_,_,rfl,.tup sq .nil,rfl,_,rfl,bZ rfl ⟨_,rfl,a,_,rfl,.inr sq,rfl,_,rfl,cI (by simp) (k _ (aA.refl _))⟩⟩
   |@node f r af lf nr tr=>
   have rd0:=rd
   cases rd with
   |@tup a xs _ sq rs=>
   obtain ⟨x0,ys,rfl⟩:∃ x0 ys,xs=x0::ys:=by cases rs;exact ⟨_,_,rfl⟩
   obtain ⟨r0,rt⟩:Rep K H x0 (.str f)/\bK K H ys r:=by cases rs with|cons a b=>exact ⟨a,b⟩
   cases r0
   have hl:=rt.length
   refine ⟨_,rfl,_,_,_,_,rfl,rd0,rfl,_,rfl,bZ rfl ⟨_,rfl,a,_,rfl,.inr sq,rfl,_,rfl,bZ (by simp;omega) ?_⟩⟩
   refine ⟨_,rfl,a,f,r,rfl,rd0,.node af lf nr tr,_,rfl,?_⟩
   have e1:cnt (n+1) (.tuple (.str f::r))=if eF f r=true then 1 else if arity f=some r.length then (if 0∈r.map (cnt n) then 0 else 1+(r.map (cnt n)).sum) else 0:=rfl
   rw [e1] at k
   by_cases hlf:eF f r=true
   ·rw [if_pos hlf] at k
    rw [hlf]
    exact cI rfl (k _ (aA.refl _))
   rw [if_neg hlf] at k
   rw [Bool.eq_false_iff.mpr hlf]
   refine bZ rfl ?_
   refine ⟨aW,dW,rfl,TB.kw,_,rfl,a,_,_,_,rfl,rfl,sq,aG (j:=0) rfl,f,rfl,_,rfl,a,_,rfl,.inr sq,_,_,rfl,rfl,?_⟩
   rw [CQ]
   by_cases ha:arity f=some r.length
   ·rw [if_pos ha] at k
    rw [ha]
    refine ⟨rfl,_,rfl,bZ (by simp;omega) ?_⟩
    refine ⟨_,rfl,1,rfl,a,_,rfl,sq,(fun e=>?_),fun p hp=>?_⟩
    ·rw [nY] at e
     have:=congrArg List.length e
     simp at this
    ·rw [nY]
     have sp:b_ K (upd H p (.tup ys)) p ys:=b_.of ak
     have s1:aA H (upd H p (.tup ys)):=aA.new hp
     generalize upd H p (.tup ys)=H1 at sp s1 ⊢
     refine ⟨p,rfl,⟨_,sp⟩,?_⟩
     refine iw (K:=K) (a:=p) (xs:=ys) (fun i zs σ' H'=>(∃ v,σ'=[v,some (.int (n+1:Nat))])/\aA H1 H'/\zs=((r.take i).map fun d=>V.int (cnt n d:Nat))) (Nat.le_trans (show ys.length≤20 by omega) (by decide)) ⟨⟨none,rfl⟩,aA.refl _,rfl⟩ (fun i zs σ' H' _ ⟨_,s2,_⟩=>s2.tup sp) ?_ ?_
     ·rintro i y zs σ' H2 hy hzs ⟨⟨v,rfl⟩,s2,rfl⟩ N hN
      obtain ⟨d,hd,ry⟩:=rt.get' hy
      refine ⟨_,rfl,_,rfl,_,_,rfl,rfl,n,rfl,y,d,?_,ry.same (s1.trans s2),tr d (List.mem_of_getElem? hd),fun H3 s3=>?_⟩
      ·show [y,V.int ((n+1:Nat)-1)]=[y,V.int (n:Nat)]
       rw [show (((n+1:Nat):Int)-1)=(n:Nat) by omega]
      ·exact hN _ _ _ (by rw [List.length_append,hzs];rfl) ⟨⟨_,rfl⟩,s2.trans s3,by rw [List.take_add_one,hd];simp⟩
     ·rintro zs σ' H2 hzs ⟨⟨v,rfl⟩,s2,rfl⟩
      rw [List.take_of_length_le (by omega)]
      have lr:(r.map fun d=>V.int (cnt n d:Nat)).length≤20:=by rw [List.length_map];omega
      refine ⟨Nat.le_trans lr (by decide),fun q hq=>?_⟩
      have s3:aA H (upd H2 q (.lst (r.map fun d=>V.int (cnt n d:Nat)))):=(s1.trans s2).trans (aA.new hq)
      have sq2:bM K (upd H2 q (.lst (r.map fun d=>V.int (cnt n d:Nat)))) q (r.map fun d=>V.int (cnt n d:Nat)):=bM.of ak
      generalize upd H2 q (.lst (r.map fun d=>V.int (cnt n d:Nat)))=H3 at s3 sq2 ⊢
      refine ⟨_,rfl,q,_,rfl,.inl sq2,rfl,by simp [jR],_,rfl,?_⟩
      have ein:(if false=true then !inV (.int 0) (r.map fun d=>V.int (cnt n d:Nat)) else inV (.int 0) (r.map fun d=>V.int (cnt n d:Nat)))=decide (0∈r.map (cnt n)):=by
       show inV (.int 0) (r.map fun d=>V.int (cnt n d:Nat))=_
       rw [Bool.eq_iff_iff,decide_eq_true_eq]
       unfold inV
       simp only [List.any_eq_true,List.mem_map]
       constructor
       ·rintro ⟨_,⟨d,hd,rfl⟩,he⟩
        exact ⟨d,hd,by simpa [tD] using he⟩
       ·rintro ⟨d,hd,he⟩
        exact ⟨_,⟨d,hd,rfl⟩,by simp [he,tD]⟩
      rw [ein]
      by_cases hz:0∈r.map (cnt n)
      ·rw [if_pos hz] at k
       rw [decide_eq_true hz]
       exact cI rfl (k _ s3)
      ·rw [if_neg hz] at k
       rw [decide_eq_false hz]
       refine bZ rfl ?_
       refine ⟨_,rfl,q,r.map fun d=>((cnt n d:Nat):Int),rfl,by rw [List.map_map];exact sq2,by rw [List.length_map];omega,fun x hx=>?_,_,_,rfl,rfl,?_⟩
       ·obtain ⟨d,_,rfl⟩:=List.mem_map.mp hx
        have:=tH n d
        have p20:2 ^ n≤2 ^ 20:=Nat.pow_le_pow_right (by decide) (by omega)
        have:(2:Nat) ^ 20=1048576:=by decide
        omega
       ·have es:=rH (cnt n) r
        rw [es]
        have:=k _ s3
        rw [show ((1+(r.map (cnt n)).sum:Nat):Int)=1+(((r.map (cnt n)).sum:Nat):Int) by omega] at this
        exact this
   ·rw [if_neg ha] at k
    cases hb:arity f with
    |none=>exact ⟨rfl,_,rfl,cI rfl (k _ (aA.refl _))⟩
    | some j=>
      refine ⟨rfl,_,rfl,cI ?_ (k _ (aA.refl _))⟩
      have:¬ j=r.length:=fun e=>ha (by rw [hb,e])
      simp
      omega
 induction n with
 |zero=>exact main 0 0 (by omega) (fun n e=>by omega)
 |succ n ih=>exact main (n+1) 0 hn5 (fun n' e=>by cases e;exact ih (by omega))
theorem nD:∀ {r:List PyData} {d:PyData},shapes r=true->d∈r->bB d=true
 | e::r,d,h,m=>by
   have h:(bB e && shapes r)=true:=h
   rw [Bool.and_eq_true] at h
   rcases List.mem_cons.mp m with rfl|m
   ·exact h.1
   ·exact nD h.2 m
theorem pG:∀ {r:List PyData} {d:PyData},d∈r->bz d≤d7 r
 | e::r,d,m=>by
   have h:d7 (e::r)=max (bz e) (d7 r):=rfl
   rcases List.mem_cons.mp m with rfl|m
   ·omega
   ·have:=pG m
    omega
theorem fY:∀ (a b:List PyData),eE (a++b)=eE a++eE b
 |[],b=>rfl
 | d::a,b=>by
   show ie d++eE (a++b)=(ie d++eE a)++eE b
   rw [fY a b,List.append_assoc]
theorem cA (d:PyData):eE [d]=ie d:=by
 show ie d++[]=_
 rw [List.append_nil]
structure Node (n:Nat) (f:Str) (r:List PyData):Prop where
 ar:arity f=some r.length
 sh:∀ d∈r,bB d=true
 de:∀ d∈r,bz d≤n
theorem dR (h:bB (.tuple (.str f::r))=true) (hd:bz (.tuple (.str f::r))≤n+1):(arity f=none/\eF f r=true)∨Node n f r:=by
 rw [gn] at h
 by_cases ha:arity f=none
 ·rw [if_pos ha] at h
  exact .inl ⟨ha,h⟩
 ·rw [if_neg ha,Bool.and_eq_true,decide_eq_true_eq] at h
  have e:bz (.tuple (.str f::r))=if (arity f).isSome=true then 1+d7 r else 1:=rfl
  rw [h.1] at e
  have e:bz (.tuple (.str f::r))=1+d7 r:=e
  exact .inr ⟨h.1,fun d m=>nD h.2 m,fun d m=>by have:=pG m;omega⟩
theorem bV (td:TD d) (h:bB d=true):∃ f r,d=.tuple (.str f::r):=by
 cases td with
 |node a b c e=>exact ⟨_,_,rfl⟩
 |_=>exact absurd h (by simp [bB])
theorem j_:∀ {n:Nat} {d:PyData},TD d->bB d=true->bz d≤n->(ie d).length≤2 ^ n
 |0,d,_,_,h=>by have:=cJ d;omega
 | n+1,d,td,sh,h=>by
   obtain ⟨f,r,rfl⟩:=bV td sh
   have p:1≤2 ^ n:=Nat.one_le_two_pow
   have e:ie (.tuple (.str f::r))=if (arity f).isSome=true then eE r else [.tuple (.str f::r)]:=rfl
   rw [e,Nat.pow_succ]
   cases td with
   |node a b c tr=>
   rcases dR sh h with ⟨ha,_⟩|N
   ·rw [ha];simp;omega
   ·rw [N.ar]
    simp only [Option.isSome_some,if_true]
    have a2:=dX N.ar
    match r,a2,N,tr with
    | [x],_,N,tr=>
      have:=j_ (tr x (by simp)) (N.sh x (by simp)) (N.de x (by simp))
      rw [cA];omega
    | [x,y],_,N,tr=>
      have h1:=j_ (tr x (by simp)) (N.sh x (by simp)) (N.de x (by simp))
      have h2:=j_ (tr y (by simp)) (N.sh y (by simp)) (N.de y (by simp))
      have:eE [x,y]=ie x++ie y:=by rw [show [x,y]=[x]++[y] from rfl,fY,cA,cA]
      rw [this,List.length_append];omega
    |_::_::_::_,a2,_,_=>simp at a2
    |[],a2,_,_=>simp at a2
theorem nu:∀ {n:Nat} {d:PyData},TD d->bB d=true->bz d≤n->∀ e∈ie d,TD e
 |0,d,_,_,h=>by have:=cJ d;omega
 | n+1,d,td,sh,h=>by
   obtain ⟨f,r,rfl⟩:=bV td sh
   intro e he
   have td':=td
   have eq:ie (.tuple (.str f::r))=if (arity f).isSome=true then eE r else [.tuple (.str f::r)]:=rfl
   rw [eq] at he
   cases td with
   |node a b c tr=>
   rcases dR sh h with ⟨ha,_⟩|N
   ·rw [ha] at he
    simp at he
    rw [he];exact td'
   ·rw [N.ar] at he
    simp only [Option.isSome_some,if_true] at he
    have a2:=dX N.ar
    match r,a2,N,tr,he with
    | [x],_,N,tr,he=>
      rw [cA] at he
      exact nu (tr x (by simp)) (N.sh x (by simp)) (N.de x (by simp)) e he
    | [x,y],_,N,tr,he=>
      have:eE [x,y]=ie x++ie y:=by rw [show [x,y]=[x]++[y] from rfl,fY,cA,cA]
      rw [this,List.mem_append] at he
      rcases he with he|he
      ·exact nu (tr x (by simp)) (N.sh x (by simp)) (N.de x (by simp)) e he
      ·exact nu (tr y (by simp)) (N.sh y (by simp)) (N.de y (by simp)) e he
    |_::_::_::_,a2,_,_,_=>simp at a2
    |[],a2,_,_,_=>simp at a2
theorem m5 (h:b_ K H a xs) (hq:H q=some (.lst ys)):b_ K (upd H q o) a xs:=by
 rcases h with (h|⟨ob,h⟩)|h
 ·exact .inl (.inl (by rw [aJ (fZ h hq (by intro z;cases z))];exact h))
 ·exact .inl (.inr ⟨ob,by rw [aJ (fZ h hq (by intro z;cases z))];exact h⟩)
 ·exact .inr h
theorem Ab (hq:H q=some (.lst ys)):∀ {d:PyData} {v:V},TD d->Rep K H v d->Rep K (upd H q o) v d:=by
 intro d v td
 induction td generalizing v with
 |str a l=>intro r;cases r;exact .str _
 |int a b=>intro r;cases r;exact .int _
 |nil=>intro r;cases r with|tup sq rs=>cases rs;exact .tup (m5 sq hq) .nil
 | @node f r a b c tr ih=>
   intro rp
   cases rp with
   |tup sq rs=>
   cases rs with
   |cons r0 rs=>
   cases r0
   refine .tup (m5 sq hq) (.cons (.str _) ?_)
   have:∀ {l:List PyData} {vs:List V},(∀ d∈l,d∈r)->bK K H vs l->bK K (upd H q o) vs l:=by
    intro l
    induction l with
    |nil=>intro vs _ h;cases h;exact .nil
    | cons e l ihl=>
      intro vs hm h
      cases h with
      |cons h1 h2=>exact .cons (ih e (hm e (List.mem_cons_self ..)) h1) (ihl (fun d m=>hm d (List.mem_cons_of_mem _ m)) h2)
   exact this (fun d m=>m) rs
theorem nC (hq:H q=some (.lst ys)):∀ {l:List PyData} {vs:List V},(∀ d∈l,TD d)->bK K H vs l->bK K (upd H q o) vs l
 |[],_,_,.nil=>.nil
 |e::l,_,ht,.cons a b=>.cons (Ab hq (ht e (List.mem_cons_self ..)) a) (nC hq (fun d m=>ht d (List.mem_cons_of_mem _ m)) b)
theorem jH:∀ {l m:List PyData} {vs us:List V},bK K H vs l->bK K H us m->bK K H (vs++us) (l++m)
 |[],_,_,_,.nil,h=>h
 |_::_,_,_,_,.cons a b,h=>.cons a (jH b h)
section
variable {P:Program} {w:World} {K:PySem.W.Frag} {mg:Str->Option Value} {base:Heap}
structure MF (mg:Str->Option Value):Prop where
 mp:∃ t,mg "MOST_PARTS" = some (.int 15 t)
 md:∃ t,mg "MOST_DEEP" = some (.int 5 t)
def Kq (K:Frag):Sp:=fun vs H Q _=>∃ (x:V) (d:PyData),vs=[x]/\Rep K H x d/\TD d/\∀ H',aA H H'->Q (.bl (bN d)) H'
theorem Qz:aU ["test"] ["test"] (aC (top 28)):=⟨rfl,rfl,rfl,by decide +kernel,rfl,by decide +kernel,by decide +kernel⟩
theorem L_ (F:gU K "is_test" "is_test" (top 28) f fd) (TT:MF mg) (DC:cO K mg "count_parts" (top 27) ["thing","deep"] fC fdC) (GC:aR P w K mg base bQ 9 fC fdC ["thing","deep"] (yf K 5)):aR P w K mg base bQ 10 f fd ["test"] (Kq K):=by
 refine F.ok Qz (fun vs H Q E h=>?_) (fun cdv A outer s H vs Q E hr h=>?_)
 ·obtain ⟨x,d,rfl,_⟩:=h
  rfl
 ·obtain ⟨x,d,rfl,rd,td,k⟩:=h
  obtain ⟨t1,mp⟩:=TT.mp
  obtain ⟨t2,md⟩:=TT.md
  refine ⟨_,(aB (aK (jZ fH fH aq (aD GC hr rfl DC.mg DC.F.kp DC.b .nil aN (aa (pv 0) (aa (dh (v:=.int 5) rfl md ⟨_,rfl⟩) aj))) (dh (v:=.int 15) rfl mp ⟨_,rfl⟩)))),?_⟩
  refine ⟨_,rfl,x,d,rfl,rd,td,fun H' s1=>⟨_,_,rfl,rfl,_,rfl,?_⟩⟩
  have k:=k H' s1
  rw [← Ay] at k
  refine dM (fun h=>?_) (fun h=>?_)
  ·refine ⟨_,_,rfl,rfl,?_⟩
   have e1:1≤cnt 5 d:=by simp at h;omega
   have e2:decide (((cnt 5 d:Nat):Int)≤15)=decide (cnt 5 d≤15):=by rw [Bool.eq_iff_iff];simp;omega
   rw [decide_eq_true e1,Bool.true_and] at k
   show Q (.bl (decide (((cnt 5 d:Nat):Int)≤15))) H'
   rw [e2]
   exact k
  ·have e1:¬ 1≤cnt 5 d:=by simp at h;omega
   rw [decide_eq_false e1,Bool.false_and] at k
   exact k
noncomputable abbrev Od:List (Str×V):=[("word",.str "badtest")]
def Il (K:Frag) (cT:Addr):Sp:=fun vs H Q E=>∃ (x:V) (d:PyData),vs=[x]/\Rep K H x d/\TD d/\(bN d=true->∀ H',aA H H'->Q .non H')/\(bN d=false->∀ H1 da H',aA H H1->mO H1 Od da H'->E (.ref cT) (some da) H')
theorem T7:aU ["test"] ["test"] (aC (top 29)):=⟨rfl,rfl,rfl,by decide +kernel,rfl,by decide +kernel,by decide +kernel⟩
theorem M8 (F:gU K "need_test" "need_test" (top 29) f fd) (DI:cO K mg "is_test" (top 28) ["test"] fI fdI) (GI:aR P w K mg base bQ 10 fI fdI ["test"] (Kq K)) (WT:Jl K mg "BadTest" cT fT fdT) (GT:aR P w K mg base bQ 2 fT fdT ["self","words"] (Tz K "badtest")):aR P w K mg base (uM P w) 11 f fd ["test"] (Il K cT):=by
 refine F.ok1 T7 (fun vs H Q E h=>?_) (fun cdv A outer s H vs Q E hr h=>?_)
 ·obtain ⟨x,d,rfl,_⟩:=h
  rfl
 ·obtain ⟨x,d,rfl,rd,td,k,kx⟩:=h
  have hr3:bF 3 _:=hr.mono (by decide)
  refine ⟨_,(aB (bu (gQ (dC (aD (E:=E0) GI hr rfl DI.mg DI.F.kp DI.b .nil aN (aa (pv 0) aj)))) (aB (x_ (B:="ValueError") (newId:="ValueError.__new__") (W:=E)
   (yG (E:=E0) PySem.F.excBase_ValueError WT.e.x WT.i WT.n GT hr3 (by rfl) WT.mg WT.b .nil aN (aa aF aj)) rfl rfl (fun Z U H' s' e cls dd I x q=>TQ I x q))) aP)),?_⟩
  refine ⟨_,rfl,x,d,rfl,rd,td,fun H1 s1=>⟨_,rfl,?_⟩⟩
  cases h:bN d with
  |true=>exact bZ rfl (k h H1 s1)
  | false=>
    refine cI rfl ?_
    intro e he
    refine ⟨e,cT,_,rfl,WT.e,ak,fun da hda=>⟨rfl,e,cT,some da,rfl,?_,wJ s1 he,WT.e.x,kx h H1 da _ s1 (xn he hda)⟩⟩
    have ne:e≠da:=fun q=>by subst q;rw [ak] at hda;cases hda
    rw [aJ ne,ak]
def Ed (K:Frag) (n:Nat):Sp:=fun vs H Q _=>∃ (x:V) (d:PyData),vs=[x]/\Rep K H x d/\TD d/\bB d=true/\bz d≤n/\n≤10/\∀ l xs H',aA H H'->H l=none->H' l=some (.lst xs)->bK K H' xs (ie d)->Q (.ref l) H'
noncomputable abbrev V3:List Str:=["test","found","part"]
theorem Gd:aU V3 ["test"] (aC (top 30)):=⟨rfl,rfl,rfl,by decide +kernel,rfl,by decide +kernel,by decide +kernel⟩
theorem K3 (DL:cO K mg "leaves_within" (top 30) ["test"] f fd) (TB:tM K mg aW aS) (n:Nat):aR P w K mg base bQ n f fd ["test"] (Ed K n):=by
 refine Nat.rec (motive:=fun n=>aR P w K mg base bQ n f fd ["test"] (Ed K n)) ⟨fun _ _ _ _ h=>?_,fun _ _ _ _ _ _ _ _ _ _ _ _ _ h=>?_⟩ (fun n GL=>?_) n
 ·obtain ⟨x,d,_,_,_,_,hd,_⟩:=h
  have:=cJ d
  exact absurd (Nat.le_trans this hd) (by decide)
 ·obtain ⟨x,d,_,_,_,_,hd,_⟩:=h
  have:=cJ d
  exact absurd (Nat.le_trans this hd) (by decide)
 refine DL.F.ok Gd (fun vs H Q E h=>?_) (fun cdv A outer s H vs Q E hr h=>?_)
 ·obtain ⟨x,d,rfl,_⟩:=h
  rfl
 ·obtain ⟨x,d,rfl,rd,td,sh,hd,hn,k⟩:=h
  refine ⟨_,(au (bu (aH su (aY aV (pv 0) aq (fun _ _=>rfl)) (dh (v:=.ref aW) rfl TB.mw rfl) rfl) (aB (aK (bU (aa (pv 0) aj)))) aP)
   (au (bh (i:=1) Gd.nd rfl (Or.inl rfl) (bU aj))
   (au (eG PassesOwn.never rfl (gR (cj dU (pv 0) (cL aq) cN)) (bj (i:=2) Gd.nd rfl (Or.inl rfl)) (aB (dm (lM PySem.F.plainAttrs_list PySem.F.slot_list_extend PySem.F.type_list_extend pF (pv 1) (aa (aD GL hr rfl DL.mg DL.F.kp DL.b .nil aN (aa (pv 2) aj)) aj)))))
   (aB (aK (pv 1)))))),?_⟩
  obtain ⟨f,r,rfl⟩:=bV td sh
  have td0:=td
  have rd0:=rd
  cases td with
  |node af lf nr tr=>
  cases rd with
  |@tup a xs _ sq rs=>
  obtain ⟨x0,ys,rfl⟩:∃ x0 ys,xs=x0::ys:=by cases rs;exact ⟨_,_,rfl⟩
  obtain ⟨r0,rt⟩:Rep K H x0 (.str f)/\bK K H ys r:=by cases rs with|cons a b=>exact ⟨a,b⟩
  cases r0
  have hl:=rt.length
  refine ⟨_,rfl,a,_,_,_,rfl,rfl,sq,aG (j:=0) rfl,f,aW,dW,rfl,rfl,TB.kw,_,rfl,?_⟩
  rw [CQ]
  have eq:ie (.tuple (.str f::r))=if (arity f).isSome=true then eE r else [.tuple (.str f::r)]:=rfl
  rcases dR sh hd with ⟨ha,_⟩|N
  ·rw [ha] at eq ⊢
   have eq:ie (.tuple (.str f::r))=[.tuple (.str f::r)]:=eq
   rw [eq] at k
   refine cI rfl ⟨_,rfl,(show 1≤sizeLine by decide),fun q hq=>k q _ _ (aA.new hq) hq ak (.cons (rd0.same (aA.new hq)) .nil)⟩
  ·rw [N.ar] at eq ⊢
   have eq:ie (.tuple (.str f::r))=eE r:=eq
   rw [eq] at k
   refine bZ rfl ⟨(show 0≤sizeLine by decide),fun q hq=>?_⟩
   have s1:aA H (upd H q (.lst [])):=aA.new hq
   have hq1:(upd H q (.lst [])) q=some (.lst []):=ak
   generalize upd H q (.lst [])=H1 at s1 hq1 ⊢
   have a2:=dX N.ar
   refine ⟨_,rfl,1,rfl,a,_,rfl,s1.tup sq,(fun e=>?_),fun p hp=>?_⟩
   ·rw [nY] at e
    have:=congrArg List.length e
    simp at this
   ·rw [nY]
    have sp:b_ K (upd H1 p (.tup ys)) p ys:=b_.of ak
    have s2:aA H1 (upd H1 p (.tup ys)):=aA.new hp
    have hq2:=s2 _ _ hq1
    generalize upd H1 p (.tup ys)=H2 at sp s2 hq2 ⊢
    refine ⟨p,rfl,⟨_,sp⟩,?_⟩
    refine l_ (K:=K) (a:=p) (xs:=ys) (fun i σ' H'=>(∃ v,σ'=[some (.ref a),some (.ref q),v])/\aA H H'/\b_ K H' p ys/\∃ zs,H' q=some (.lst zs)/\bK K H' zs (eE (r.take i))) ⟨⟨none,rfl⟩,s1.trans s2,sp,[],hq2,.nil⟩ (fun i σ' H' _ z=>z.2.2.1) ?_ ?_
    ·rintro i y σ' H3 hy ⟨⟨v,rfl⟩,s3,sp3,zs,hz,rz⟩
     obtain ⟨e,he,ry⟩:=rt.get' hy
     have me:=List.mem_of_getElem? he
     refine ⟨_,rfl,.inl ⟨rfl,_,bM.of hz⟩,_,rfl,y,e,rfl,ry.same s3,tr e me,N.sh e me,N.de e me,by omega,fun l us H4 s4 hn4 hl4 ru=>?_⟩
     have hz4:=s4 _ _ hz
     have le1:=rz.length
     have le2:=ru.length
     have lb:(ie e).length≤2 ^ n:=j_ (tr e me) (N.sh e me) (N.de e me)
     have p10:2 ^ n≤2 ^ 10:=Nat.pow_le_pow_right (by decide) (by omega)
     have lz:(eE (r.take i)).length≤2*2 ^ n:=by
      have hi:i<r.length:=(List.getElem?_eq_some_iff.mp he).1
      match r,a2,i,hi,N,tr with
      |[x],_,0,_,_,_=>exact Nat.zero_le _
      |[x,y'],_,0,_,_,_=>exact Nat.zero_le _
      | [x,y'],_,1,_,N,tr=>
        have:=j_ (tr x (by simp)) (N.sh x (by simp)) (N.de x (by simp))
        rw [show [x,y'].take 1=[x] from rfl,cA];omega
      |[x],_,i+1,h,_,_=>exact absurd h (by simp)
      |[x,y'],_,i+2,h,_,_=>exact absurd h (by simp)
      |_::_::_::_,a2,_,_,_,_=>simp at a2
      |[],_,_,h,_,_=>simp at h
     have:(2:Nat) ^ 10=1024:=by decide
     refine ⟨q,l,zs,us,rfl,rfl,hz4,hl4,Nat.le_trans (show zs.length+us.length≤4000 by omega) (by decide),?_⟩
     have qn:∀ {b:Addr} {u:HO},H b=some u->b≠q:=fun e=>aO e hq
     have tdl:∀ d∈eE (r.take i),TD d:=by
      intro d m
      clear lz
      have:∀ (l:List PyData),(∀ e∈l,e∈r)->d∈eE l->TD d:=by
       intro l
       induction l with
       |nil=>intro _ m;cases m
       | cons e l ih=>
         intro hm m
         have m:d∈ie e++eE l:=m
         rcases List.mem_append.mp m with m|m
         ·have me:=hm e (List.mem_cons_self ..)
          exact nu (tr e me) (N.sh e me) (N.de e me) d m
         ·exact ih (fun e m=>hm e (List.mem_cons_of_mem _ m)) m
      exact this _ (fun e m=>List.mem_of_mem_take m) m
     refine ⟨⟨_,rfl⟩,fun b u e=>by rw [aJ (qn e)];exact s4 _ _ (s3 _ _ e),m5 (s4.tup sp3) hz4,zs++us,ak,?_⟩
     rw [List.take_add_one,he]
     show bK K _ (zs++us) (eE (r.take i++[e]))
     rw [fY,cA]
     exact jH (nC hz4 tdl (rz.same s4)) (nC hz4 (nu (tr e me) (N.sh e me) (N.de e me)) ru)
    ·rintro σ' H3 ⟨⟨v,rfl⟩,s3,sp3,zs,hz,rz⟩
     rw [List.take_of_length_le (by omega)] at rz
     exact ⟨_,rfl,k q zs H3 s3 hq hz rz⟩
end
inductive kW:Str->List PyData->Prop
 |all:kW "all" []
 |is {x:Str}:nameB x=true->kW "is" [.str x]
 |num {f x:Str} {i:Int}:f = "less"∨f = "same"->nameB x=true->qd (.int i)=true->kW f [.str x,.int i]
theorem lY (h:eF f r=true):kW f r:=by
 unfold eF at h
 by_cases h1:f = "all"
 ·subst h1
  rw [if_pos rfl,List.isEmpty_iff] at h
  subst h
  exact .all
 ·rw [if_neg h1] at h
  by_cases h2:f = "is"
  ·subst h2
   rw [if_pos rfl] at h
   cases r with
   |nil=>cases h
   | cons d r=>
     cases r with
     |cons _ _=>cases h
     | nil=>
       cases d with
       |str x=>exact .is h
       |_=>exact absurd h (by simp [iV])
  ·rw [if_neg h2,Bool.and_eq_true,decide_eq_true_eq] at h
   obtain ⟨h0,h⟩:=h
   cases r with
   |nil=>cases h
   | cons d r=>
     cases r with
     |nil=>cases h
     | cons e r=>
       cases r with
       |cons _ _=>cases h
       | nil=>
         have h:(iV d && qd e)=true:=h
         rw [Bool.and_eq_true] at h
         cases d with
         | str x=>
           cases e with
           |int i=>exact .num h0 h.1 h.2
           |_=>exact absurd h.2 (by simp [qd])
         |_=>exact absurd h.1 (by simp [iV])
theorem kW.ar (h:kW f r):arity f=none:=by
 cases h with
 |all=>decide +kernel
 |is _=>decide +kernel
 |num h _ _=>rcases h with rfl|rfl <;> decide +kernel
theorem pY (h:Nm x):gH x:=by
 unfold gH
 rw [← Array.all_toList,List.all_eq_true]
 intro c hc
 have:=h.lc c hc
 simp;omega
structure Tr (n:Nat) (d:PyData):Prop where
 td:TD d
 sh:bB d=true
 dp:cu d≤n
theorem BV (h:Nm x):TD (.str x):=.str (pY h) (by have:=h.hi;omega)
theorem kW.tr (h:kW f r):Tr 1 (.tuple (.str f::r)):=by
 have sh:bB (.tuple (.str f::r))=true:=by
  rw [gn,h.ar,if_pos rfl]
  cases h with
  |all=>rfl
  |is n=>exact n
  | num h n m=>
    unfold eF
    rcases h with rfl|rfl
    ·rw [if_neg (by decide +kernel),if_neg (by decide +kernel)];simp [iV,n,m]
    ·rw [if_neg (by decide +kernel),if_neg (by decide +kernel)];simp [iV,n,m]
 cases h with
 |all=>exact ⟨.node (by unfold gH;decide +kernel) (by decide +kernel) (by simp) (by simp),sh,by simp [cu,bI]⟩
 | @is x n=>
   refine ⟨.node (by unfold gH;decide +kernel) (by decide +kernel) (by simp) (fun d m=>?_),sh,by simp [cu,bI]⟩
   simp at m;subst m
   exact BV ((fQ x).mp n)
 | @num f x i h n m1=>
   refine ⟨.node ?_ ?_ (by simp) (fun d m=>?_),sh,by simp [cu,bI]⟩
   ·rcases h with rfl|rfl <;> (unfold gH;decide +kernel)
   ·rcases h with rfl|rfl <;> decide +kernel
   ·simp at m
    rcases m with rfl|rfl
    ·exact BV ((fQ x).mp n)
    ·have h:(decide (-999999≤i) && decide (i≤999999))=true:=m1
     simp at h
     have:(1000000:Int)≤uG:=by decide
     exact .int (by omega) (by omega)
def Jd:Sp:=fun vs H Q _=>∃ (p dc:Addr),vs=[.ref p]/\Dr H p dc/\∀ (z:Int) (H':Hp),-999999≤z->z≤999999->Dr H' p dc->d9 p H H'->Q (.int z) H'
theorem O6:aU ["_law_d"] ["_law_d"] (aC (top 47)):=⟨rfl,rfl,rfl,by decide +kernel,rfl,by decide +kernel,by decide +kernel⟩
theorem Hz (F:gU K "_law_number" "_law_number" (top 47) f fd) (T:Txt K mg) (DP:cO K mg "_law_pick" (top 38) ["_law_d","_law_many"] fP fdP) (DO:cO K mg "_law_of" (top 39) ["_law_d","_law_things"] fO fdO):aR P w K mg base bQ 3 f fd ["_law_d"] Jd:=by
 have GP:aR P w K mg base bQ 1 fP fdP ["_law_d","_law_many"] gj:=eQ DP.F T
 have GO:aR P w K mg base bQ 2 fO fdO ["_law_d","_law_things"] (tG K):=o_ DO.F T DP
 refine F.ok O6 (fun vs H Q E h=>?_) (fun cdv A outer s H vs Q E hr h=>?_)
 ·obtain ⟨p,dc,rfl,_⟩:=h
  rfl
 ·obtain ⟨p,dc,rfl,D,k⟩:=h
  have hr1:bF 1 _:=hr.mono (by decide)
  refine ⟨_,(aB (aK (aD GO hr rfl DO.mg DO.F.kp DO.b .nil aN (aa (pv 0) (aa (bU (aa aq (aa aq (aa (aD GP hr1 rfl DP.mg DP.F.kp DP.b .nil aN (aa (pv 0) (aa aq aj))) (aa (aZ gO (aD GP hr1 rfl DP.mg DP.F.kp DP.b .nil aN (aa (pv 0) (aa aq aj))) aq) (aa aq (aa (jG iB aq) (aa (aZ gO (aD GP hr1 rfl DP.mg DP.F.kp DP.b .nil aN (aa (pv 0) (aa aq aj))) aq) aj)))))))) aj))))),?_⟩
  refine ⟨_,rfl,_,rfl,p,dc,_,rfl,D,by decide,by decide,fun r1 H1 r10 r11 D1 b1=>?_⟩
  refine ⟨_,rfl,p,dc,_,rfl,D1,by decide,by decide,fun r2 H2 r20 r21 D2 b2=>⟨_,_,rfl,rfl,_,rfl,?_⟩⟩
  refine ⟨_,rfl,p,dc,_,rfl,D2,by decide,by decide,fun r3 H3 r30 r31 D3 b3=>⟨_,_,rfl,rfl,(show 7≤sizeLine by decide),fun q hq=>?_⟩⟩
  refine ⟨p,dc,q,_,rfl,D3.new hq,bM.of ak,by simp,by simp,fun y H4 hy D4 b4=>?_⟩
  obtain ⟨z,rfl,h1,h2⟩:∃ z:Int,y=.int z/\-999999≤z/\z≤999999:=by
   simp only [List.mem_cons,List.not_mem_nil,or_false] at hy
   rcases hy with rfl|rfl|rfl|rfl|rfl|rfl|rfl
   all_goals exact ⟨_,rfl,by omega,by omega⟩
  exact k z H4 h1 h2 D4 (((b1.trans b2).trans b3).trans ((d9.new hq).trans b4))
def Bu (K:Frag):Sp:=fun vs H Q _=>∃ (p dc q q':Addr) (ys ys':List Str),vs=[.ref p,.ref q,.ref q']/\Dr H p dc/\bM K H q (ys.map V.str)/\bM K H q' (ys'.map V.str)/\ys≠[]/\ys'≠[]/\ys.length≤100/\ys'.length≤100/\(∀ y∈ys,Nm y)/\(∀ y∈ys',Nm y)/\
 ∀ (x:V) (f:Str) (r:List PyData) (H':Hp),Rep K H' x (.tuple (.str f::r))->kW f r->Dr H' p dc->d9 p H H'->Q x H'
noncomputable abbrev Uq:List Str:=["_law_d","_law_names","_law_kinds","_law_way"]
theorem Mu:aU Uq ["_law_d","_law_names","_law_kinds"] (aC (top 48)):=⟨rfl,rfl,rfl,by decide +kernel,rfl,by decide +kernel,by decide +kernel⟩
theorem vm {ys:List Str} (h:v∈ys.map V.str):∃ y∈ys,v=.str y:=by
 obtain ⟨y,m,rfl⟩:=List.mem_map.mp h
 exact ⟨y,m,rfl⟩
theorem BZ (F:gU K "_law_leaf" "_law_leaf" (top 48) f fd) (T:Txt K mg) (DP:cO K mg "_law_pick" (top 38) ["_law_d","_law_many"] fP fdP) (DO:cO K mg "_law_of" (top 39) ["_law_d","_law_things"] fO fdO) (DN:cO K mg "_law_number" (top 47) ["_law_d"] fN fdN):aR P w K mg base bQ 4 f fd ["_law_d","_law_names","_law_kinds"] (Bu K):=by
 have GP:aR P w K mg base bQ 1 fP fdP ["_law_d","_law_many"] gj:=eQ DP.F T
 have GO:aR P w K mg base bQ 2 fO fdO ["_law_d","_law_things"] (tG K):=o_ DO.F T DP
 have GN:aR P w K mg base bQ 3 fN fdN ["_law_d"] Jd:=Hz DN.F T DP DO
 refine F.ok Mu (fun vs H Q E h=>?_) (fun cdv A outer s H vs Q E hr h=>?_)
 ·obtain ⟨p,dc,q,q',ys,ys',rfl,_⟩:=h
  rfl
 ·obtain ⟨p,dc,q,q',ys,ys',rfl,D,hq,hq',ne,ne',l,l',nm,nm',k⟩:=h
  have hr1:bF 1 _:=hr.mono (by decide)
  have hr2:bF 2 _:=hr.mono (by decide)
  refine ⟨_,(au (bh (i:=3) Mu.nd rfl (Or.inl rfl) (aD GP hr1 rfl DP.mg DP.F.kp DP.b .nil aN (aa (pv 0) (aa aq aj))))
   (au (bu (aH bx (pv 3) aq (aL _)) (aB (aK (bD (aa aF aj)))) aP)
   (au (bu (aH bx (pv 3) aq (aL _)) (aB (aK (bD (aa aF (aa (aD GO hr2 rfl DO.mg DO.F.kp DO.b .nil aN (aa (pv 0) (aa (pv 2) aj))) aj))))) aP)
   (aB (aK (bD (aa (aY dG (bU (aa aF (aa aF aj))) (aZ gJ (pv 3) aq) (fun _ _=>rfl)) (aa (aD GO hr2 rfl DO.mg DO.F.kp DO.b .nil aN (aa (pv 0) (aa (pv 1) aj))) (aa (aD GN hr rfl DN.mg DN.F.kp DN.b .nil aN (aa (pv 0) aj)) aj))))))))),?_⟩
  refine ⟨_,rfl,p,dc,_,rfl,D,by decide,by decide,fun w1 H1 w0 w6 D1 b1=>⟨_,rfl,rfl,_,rfl,?_⟩⟩
  refine dM (fun _=>⟨(show 1≤sizeLine by decide),fun t ht=>?_⟩) (fun _=>⟨_,rfl,rfl,_,rfl,?_⟩)
  ·exact k _ "all" [] _ (.tup (b_.of ak) (.cons (.str _) .nil)) .all (D1.new ht) (b1.trans (d9.new ht))
  refine dM (fun _=>?_) (fun _=>?_)
  ·refine ⟨_,rfl,_,rfl,p,dc,q',_,rfl,D1,D.seq b1 hq',by simpa using ne',by rw [List.length_map];omega,fun y H2 hy D2 b2=>⟨(show 2≤sizeLine by decide),fun t ht=>?_⟩⟩
   obtain ⟨y,my,rfl⟩:=vm hy
   exact k _ "is" [.str y] _ (.tup (b_.of ak) (.cons (.str _) (.cons (.str _) .nil))) (.is ((fQ y).mpr (nm' y my))) (D2.new ht) ((b1.trans b2).trans (d9.new ht))
  ·refine ⟨(show 2≤sizeLine by decide),fun l0 hl0=>⟨_,rfl,_,_,rfl,rfl,(by show (0:Int)<2;decide),?_⟩⟩
   have b2:d9 p H (upd H1 l0 (.lst [.str "less",.str "same"])):=b1.trans (d9.new hl0)
   obtain ⟨j,hj,ej⟩:∃ j:Nat,j<2/\w1 % 2=j:=⟨(w1 % 2).toNat,by omega,by omega⟩
   have D2:=D1.new (o:=.lst [.str "less",.str "same"]) hl0
   obtain ⟨f0,hf,ef⟩:∃ f0:Str,(f0 = "less"∨f0 = "same")/\([V.str "less",V.str "same"])[j]?=some (.str f0):=by
    match j,hj with
    |0,_=>exact ⟨"less",.inl rfl,rfl⟩
    |1,_=>exact ⟨"same",.inr rfl,rfl⟩
   refine ⟨l0,_,_,_,rfl,rfl,bM.of ak,(by rw [ej];exact aG ef),_,rfl,_,rfl,p,dc,q,_,rfl,D2,D.seq b2 hq,by simpa using ne,by rw [List.length_map];omega,fun y H3 hy D3 b3=>?_⟩
   obtain ⟨y,my,rfl⟩:=vm hy
   refine ⟨_,rfl,p,dc,rfl,D3,fun z H4 z1 z2 D4 b4=>⟨(show 3≤sizeLine by decide),fun t ht=>?_⟩⟩
   exact k _ f0 [.str y,.int z] _ (.tup (b_.of ak) (.cons (.str _) (.cons (.str _) (.cons (.int _) .nil)))) (.num hf ((fQ y).mpr (nm y my)) (by simp [qd];omega)) (D4.new ht) (((b2.trans b3).trans b4).trans (d9.new ht))
theorem Tr.mono (h:Tr n d) (l:n≤m):Tr m d:=⟨h.td,h.sh,Nat.le_trans h.dp l⟩
theorem Tr.one (h:Tr n d):Tr (n+1) (.tuple [.str "not",d]):=by
 refine ⟨.node (by unfold gH;decide +kernel) (by decide +kernel) (by simp) (fun e m=>?_),?_,?_⟩
 ·simp at m;subst m;exact h.td
 ·rw [gn,show arity "not" = some 1 from by decide +kernel,if_neg (by nofun)]
  simp [shapes,h.sh]
 ·have:=h.dp
  simp [cu,bI];omega
theorem Tr.two {n:Nat} {f:Str} {d e:PyData} (hf:f = "and"∨f = "or") (h:Tr n d) (h':Tr n e):Tr (n+1) (.tuple [.str f,d,e]):=by
 refine ⟨.node ?_ ?_ (by simp) (fun e m=>?_),?_,?_⟩
 ·rcases hf with rfl|rfl <;> (unfold gH;decide +kernel)
 ·rcases hf with rfl|rfl <;> decide +kernel
 ·simp at m
  rcases m with rfl|rfl
  ·exact h.td
  ·exact h'.td
 ·have ha:arity f=some 2:=by rcases hf with rfl|rfl <;> decide +kernel
  rw [gn,ha,if_neg (by nofun)]
  simp [shapes,h.sh,h'.sh]
 ·have:=h.dp
  have:=h'.dp
  simp [cu,bI];omega
def yQ (K:Frag) (n:Nat):Sp:=fun vs H Q _=>∃ (p dc q q':Addr) (ys ys':List Str) (m:Int),vs=[.ref p,.int m,.ref q,.ref q']/\m≤n/\Dr H p dc/\bM K H q (ys.map V.str)/\bM K H q' (ys'.map V.str)/\ys≠[]/\ys'≠[]/\ys.length≤100/\ys'.length≤100/\(∀ y∈ys,Nm y)/\(∀ y∈ys',Nm y)/\
 ∀ (x:V) (d:PyData) (H':Hp),Rep K H' x d->Tr n d->Dr H' p dc->d9 p H H'->Q x H'
noncomputable abbrev UV:List Str:=["_law_d","_law_deep_here","_law_names","_law_kinds","_law_way","_law_word_here"]
theorem Dv:aU UV ["_law_d","_law_deep_here","_law_names","_law_kinds"] (aC (top 49)):=⟨rfl,rfl,rfl,by decide +kernel,rfl,by decide +kernel,by decide +kernel⟩
theorem Kg {f fP fO fN fL:Addr} {fd fdP fdO fdN fdL:FuncData} (DT:cO K mg "_law_tree" (top 49) ["_law_d","_law_deep_here","_law_names","_law_kinds"] f fd) (T:Txt K mg) (DP:cO K mg "_law_pick" (top 38) ["_law_d","_law_many"] fP fdP) (DO:cO K mg "_law_of" (top 39) ["_law_d","_law_things"] fO fdO) (DN:cO K mg "_law_number" (top 47) ["_law_d"] fN fdN)
 (DL:cO K mg "_law_leaf" (top 48) ["_law_d","_law_names","_law_kinds"] fL fdL) (n:Nat):aR P w K mg base bQ (n+5) f fd ["_law_d","_law_deep_here","_law_names","_law_kinds"] (yQ K (n+1)):=by
 have GP:aR P w K mg base bQ 1 fP fdP ["_law_d","_law_many"] gj:=eQ DP.F T
 have GL:aR P w K mg base bQ 4 fL fdL ["_law_d","_law_names","_law_kinds"] (Bu K):=BZ DL.F T DP DO DN
 have main:∀ m:Nat,(∀ j,j+1=m->aR P w K mg base bQ (j+5) f fd ["_law_d","_law_deep_here","_law_names","_law_kinds"] (yQ K (j+1)))->aR P w K mg base bQ (m+5) f fd ["_law_d","_law_deep_here","_law_names","_law_kinds"] (yQ K (m+1)):=by
  intro m GC
  have GT:aR P w K mg base bQ (m+4) f fd ["_law_d","_law_deep_here","_law_names","_law_kinds"] (fun vs H Q E=>∃ j,j+1=m/\yQ K (j+1) vs H Q E):=by
   match m,GC with
   |0,_=>exact ⟨fun _ _ _ _ ⟨n,e,_⟩=>by omega,fun _ _ _ _ _ _ _ _ _ _ _ _ _ ⟨n,e,_⟩=>by omega⟩
   | m+1,GC=>
     have G:=GC m rfl
     exact ⟨fun vs H Q E ⟨n,e,h⟩=>by cases e;exact G.1 vs H Q E h,fun a1 a2 a3 a4 a5 a6 a7 a8 a9 a10 a11 a12 a13 ⟨n,e,h⟩=>by cases e;exact G.2 a1 a2 a3 a4 a5 a6 a7 a8 a9 a10 a11 a12 a13 h⟩
  refine DT.F.ok Dv (fun vs H Q E h=>?_) (fun cdv A outer s H vs Q E hr h=>?_)
  ·obtain ⟨p,dc,q,q',ys,ys',z,rfl,_⟩:=h
   rfl
  ·obtain ⟨p,dc,q,q',ys,ys',z,rfl,hz,D,hq,hq',ne,ne',l,l',nm,nm',k⟩:=h
   have hr1:bF 1 _:=hr.mono (by omega)
   have hr4:bF 4 _:=hr.mono (by omega)
   refine ⟨_,(au (bh (i:=4) Dv.nd rfl (Or.inl rfl) (aD GP hr1 rfl DP.mg DP.F.kp DP.b .nil aN (aa (pv 0) (aa aq aj))))
    (au (bu (PW.pt (jQ (aH nR (pv 1) aq (aL _)) (i_ (aH bx (pv 4) aq (aL _))))) (aB (aK (aD GL hr4 rfl DL.mg DL.F.kp DL.b .nil aN (aa (pv 0) (aa (pv 2) (aa (pv 3) aj)))))) aP)
    (au (bu (aH bx (pv 4) aq (aL _)) (aB (aK (bD (aa aF (aa (aD GT hr rfl DT.mg DT.F.kp DT.b .nil aN (aa (pv 0) (aa (aZ gO (pv 1) aq) (aa (pv 2) (aa (pv 3) aj))))) aj))))) aP)
    (au (bh (i:=5) Dv.nd rfl (Or.inl rfl) (aY dG (bU (aa aF (aa aF aj))) (aZ gJ (pv 4) aq) (fun _ _=>rfl)))
    (aB (aK (bD (aa (pv 5) (aa (aD GT hr rfl DT.mg DT.F.kp DT.b .nil aN (aa (pv 0) (aa (aZ gO (pv 1) aq) (aa (pv 2) (aa (pv 3) aj))))) (aa (aD GT hr rfl DT.mg DT.F.kp DT.b .nil aN (aa (pv 0) (aa (aZ gO (pv 1) aq) (aa (pv 2) (aa (pv 3) aj))))) aj)))))))))),?_⟩
   refine ⟨_,rfl,p,dc,_,rfl,D,by decide,by decide,fun w1 H1 w0 w5 D1 b1=>?_⟩
   have hq1:=D.seq b1 hq
   have hq1':=D.seq b1 hq'
   have leaf:rO (Bu K) [] E0 (ju (jU 0) (ju (jU 2) (ju (jU 3) By))) [some (.ref p),some (.int z),some (.ref q),some (.ref q'),some (.int w1),none] H1 Q:=
    ⟨_,rfl,_,rfl,_,rfl,p,dc,q,q',ys,ys',rfl,D1,hq1,hq1',ne,ne',l,l',nm,nm',fun x f r H' rp lf D' b'=>k x _ H' rp (lf.tr.mono (by omega)) D' (b1.trans b')⟩
   refine ⟨_,rfl,_,_,rfl,rfl,_,rfl,dM (fun _=>cI rfl leaf) (fun hz2=>⟨_,rfl,rfl,_,rfl,dM (fun _=>leaf) (fun _=>?_)⟩)⟩
   have hz2:¬ z<2:=by simpa using hz2
   obtain ⟨j,rfl⟩:∃ j,m=j+1:=⟨m-1,by omega⟩
   refine ⟨_,rfl,rfl,_,rfl,dM (fun _=>?_) (fun _=>?_)⟩
   ·refine ⟨_,rfl,_,rfl,_,_,rfl,rfl,_,rfl,_,rfl,j,rfl,p,dc,q,q',ys,ys',z-1,rfl,by omega,D1,hq1,hq1',ne,ne',l,l',nm,nm',fun x d H2 rx tx D2 b2=>⟨(show 2≤sizeLine by decide),fun t ht=>?_⟩⟩
    exact k _ _ _ (.tup (b_.of ak) (.cons (.str _) (.cons (rx.same (aA.new ht)) .nil))) tx.one (D2.new ht) ((b1.trans b2).trans (d9.new ht))
   ·refine ⟨(show 2≤sizeLine by decide),fun l0 hl0=>⟨_,rfl,_,_,rfl,rfl,(by show (0:Int)<2;decide),?_⟩⟩
    have b2:d9 p H (upd H1 l0 (.lst [.str "and",.str "or"])):=b1.trans (d9.new hl0)
    obtain ⟨i,hj,ej⟩:∃ i:Nat,i<2/\w1 % 2=i:=⟨(w1 % 2).toNat,by omega,by omega⟩
    have D2:=D1.new (o:=.lst [.str "and",.str "or"]) hl0
    obtain ⟨f0,hf,ef⟩:∃ f0:Str,(f0 = "and"∨f0 = "or")/\([V.str "and",V.str "or"])[i]?=some (.str f0):=by
     match i,hj with
     |0,_=>exact ⟨"and",.inl rfl,rfl⟩
     |1,_=>exact ⟨"or",.inr rfl,rfl⟩
    refine ⟨l0,_,_,_,rfl,rfl,bM.of ak,(by rw [ej];exact aG ef),_,rfl,?_⟩
    have hq2:=D.seq b2 hq
    have hq2':=D.seq b2 hq'
    refine ⟨_,rfl,_,rfl,_,_,rfl,rfl,_,rfl,_,rfl,j,rfl,p,dc,q,q',ys,ys',z-1,rfl,by omega,D2,hq2,hq2',ne,ne',l,l',nm,nm',fun x d H3 rx tx D3 b3=>?_⟩
    have b3':=b2.trans b3
    refine ⟨_,rfl,_,rfl,_,_,rfl,rfl,_,rfl,_,rfl,j,rfl,p,dc,q,q',ys,ys',z-1,rfl,by omega,D3,D.seq b3' hq,D.seq b3' hq',ne,ne',l,l',nm,nm',fun x2 d2 H4 rx2 tx2 D4 b4=>⟨(show 3≤sizeLine by decide),fun t ht=>?_⟩⟩
    exact k _ _ _ (.tup (b_.of ak) (.cons (.str _) (.cons ((D3.rep b4 rx).same (aA.new ht)) (.cons (rx2.same (aA.new ht)) .nil)))) (tx.two hf tx2) (D4.new ht) ((b3'.trans b4).trans (d9.new ht))
 induction n with
 |zero=>exact main 0 (fun n e=>by omega)
 |succ n ih=>exact main (n+1) (fun n' e=>by cases e;exact ih)
theorem Bq (f a b:Str):inV (.str f) [.str a,.str b]=decide (f=a∨f=b):=by
 rw [Bool.eq_iff_iff]
 simp [inV,tD]
 constructor <;> (rintro (h|h) <;> simp [h])
theorem FQ (f a b c:Str):inV (.str f) [.str a,.str b,.str c]=decide (f=a∨f=b∨f=c):=by
 rw [Bool.eq_iff_iff]
 simp [inV,tD]
 constructor <;> (rintro (h|h|h) <;> simp [h])
theorem yC (f:Str):decide (f = "not"∨f = "and"∨f = "or")=(arity f).isSome:=by
 unfold arity
 by_cases h1:f = "not"
 ·simp [h1]
 ·by_cases h2:f = "and"
  ·subst h2;decide +kernel
  ·by_cases h3:f = "or"
   ·subst h3;decide +kernel
   ·simp [h1,h2,h3]
theorem mz (td:TD d):bB d=true->bz d≤cu d:=by
 induction td with
 |str a b=>intro h;cases h
 |int a b=>intro h;cases h
 |nil=>intro h;cases h
 | @node f r a b c tr ih=>
   intro sh
   have e:bz (.tuple (.str f::r))=if (arity f).isSome=true then 1+d7 r else 1:=rfl
   have ep:cu (.tuple (.str f::r))=max 0 (bI r)+1:=rfl
   rcases dR (n:=bz (.tuple (.str f::r))) sh (by omega) with ⟨ha,_⟩|N
   ·rw [e,ha,ep]
    show 1≤_
    omega
   ·have:∀ l:List PyData,(∀ d∈l,d∈r)->d7 l≤bI l:=by
     intro l
     induction l with
     |nil=>intro _;exact Nat.zero_le _
     | cons d l ihl=>
       intro hm
       have md:=hm d (List.mem_cons_self ..)
       have h1:=ih d md (N.sh d md)
       have h2:=ihl (fun d m=>hm d (List.mem_cons_of_mem _ m))
       show max (bz d) (d7 l)≤max (cu d) (bI l)
       omega
    have:=this r (fun _ m=>m)
    rw [e,N.ar,ep]
    show 1+d7 r≤_
    omega
noncomputable def Um:PyData->Bool
 |.str _=>true
 |_=>false
noncomputable def isI:PyData->Bool
 |.int _=>true
 |_=>false
noncomputable def Qc:PyData->Bool
 |.tuple _=>true
 |_=>false
theorem CN (td:TD d):kitOne K (.type (Dk d)) (.type "str")=some (Um d):=by cases td <;> rfl
theorem M3 (td:TD d):kitOne K (.type (Dk d)) (.type "int")=some (isI d):=by cases td <;> rfl
theorem Mt (td:TD d):kitOne K (.type (Dk d)) (.type "tuple")=some (Qc d):=by cases td <;> rfl
def JX (K:Frag):Sp:=fun vs H Q _=>∃ (a:Addr) (f:Str) (r:List PyData),vs=[.ref a]/\Rep K H (.ref a) (.tuple (.str f::r))/\TD (.tuple (.str f::r))/\∀ H',aA H H'->Q (.bl (eF f r)) H'
theorem RQ:aU ["_law_test_here"] ["_law_test_here"] (aC (top 53)):=⟨rfl,rfl,rfl,by decide +kernel,rfl,by decide +kernel,by decide +kernel⟩
theorem Nk (F:gU K "_law_leaf_ok" "_law_leaf_ok" (top 53) f fd) (T:Txt K mg) (DN:cO K mg "_law_is_name" (top 44) ["_law_text"] fN fdN):aR P w K mg base bQ 2 f fd ["_law_test_here"] (JX K):=by
 have GN:aR P w K mg base bQ 1 fN fdN ["_law_text"] ym:=Ai DN.F T
 refine F.ok RQ (fun vs H Q E h=>?_) (fun cdv A outer s H vs Q E hr h=>?_)
 ·obtain ⟨a,f,r,rfl,_⟩:=h
  rfl
 ·obtain ⟨a,f,r,rfl,rd,td,k⟩:=h
  refine ⟨_,(au (bu (aH bx (aY aV (pv 0) aq (fun _ _=>rfl)) aF (aL _)) (aB (aK (bY bx (aM a_ (by rfl) T.len cF (aa (pv 0) aj)) aq (aL _)))) aP)
   (au (bu (aH bx (aY aV (pv 0) aq (fun _ _=>rfl)) aF (aL _)) (aB (aK (cC (bY bx (aM a_ (by rfl) T.len cF (aa (pv 0) aj)) aq (aL _)) (cC (aM cg (by rfl) T.isinstance aX (aa (aY aV (pv 0) aq (fun _ _=>rfl)) (aa (dz rfl T.str lA) aj))) (dD (aD GN hr rfl DN.mg DN.F.kp DN.b .nil aN (aa (aY aV (pv 0) aq (fun _ _=>rfl)) aj))))))) aP)
   (au (bu (PW.pt (jQ (aH iC (aY aV (pv 0) aq (fun _ _=>rfl)) (bD (aa aF (aa aF aj))) rfl) (i_ (aH pC (aM a_ (by rfl) T.len cF (aa (pv 0) aj)) aq (aL _))))) (aB (aK km)) aP)
   (au (bu (PW.pt (jQ (gQ (dC (aM cg (by rfl) T.isinstance aX (aa (aY aV (pv 0) aq (fun _ _=>rfl)) (aa (dz rfl T.str lA) aj))))) (i_ (gQ (dC (aD GN hr rfl DN.mg DN.F.kp DN.b .nil aN (aa (aY aV (pv 0) aq (fun _ _=>rfl)) aj))))))) (aB (aK km)) aP)
   (aB (aK (cC (aM cg (by rfl) T.isinstance aX (aa (aY aV (pv 0) aq (fun _ _=>rfl)) (aa (dz rfl T.int kE) aj))) (dD (jZ fH fH (jG iB aq) (aY aV (pv 0) aq (fun _ _=>rfl)) aq))))))))),?_⟩
  cases td with
  |node af lf nr tr=>
  cases rd with
  |@tup _ xs _ sq rs=>
  obtain ⟨x0,ys,rfl⟩:∃ x0 ys,xs=x0::ys:=by cases rs;exact ⟨_,_,rfl⟩
  obtain ⟨r0,rt⟩:Rep K H x0 (.str f)/\bK K H ys r:=by cases rs with|cons a b=>exact ⟨a,b⟩
  cases r0
  have hl:=rt.length
  refine ⟨_,rfl,a,_,_,_,rfl,rfl,sq,aG (j:=0) rfl,rfl,_,rfl,?_⟩
  unfold eF at k
  by_cases h1:f = "all"
  ·subst h1
   rw [if_pos rfl] at k
   refine cI (by simp) ⟨_,rfl,a,_,rfl,.inr sq,rfl,?_⟩
   have e:decide (V.int ((V.str "all"::ys).length:Nat)=V.int 1)=r.isEmpty:=by
    rw [Bool.eq_iff_iff,decide_eq_true_eq,List.isEmpty_iff,List.length_cons,V.int.injEq]
    constructor
    ·intro h
     exact List.length_eq_zero_iff.mp (by omega)
    ·rintro rfl
     simp at hl
     simp [hl]
   rw [e]
   exact k _ (aA.refl _)
  ·rw [if_neg h1] at k
   refine bZ (by simp [h1]) ⟨_,rfl,a,_,_,_,rfl,rfl,sq,aG (j:=0) rfl,rfl,_,rfl,?_⟩
   by_cases h2:f = "is"
   ·subst h2
    rw [if_pos rfl] at k
    refine cI (by simp) ⟨_,rfl,a,_,rfl,.inr sq,rfl,_,rfl,?_⟩
    match r,ys,rt,k,hl,tr with
    |[],[],_,k,_,_=>exact bZ (by simp) (k _ (aA.refl _))
    | [d],[y],.cons ry .nil,k,_,tr=>
      have tdd:=tr d (List.mem_cons_self ..)
      refine cI (by simp) ⟨_,rfl,a,_,_,_,rfl,rfl,sq,aG (j:=1) rfl,_,_,_,_,rfl,ry,CN tdd,_,rfl,?_⟩
      cases tdd with
      | @str z az lz=>
        cases ry
        exact cI rfl ⟨_,rfl,a,_,_,_,rfl,rfl,sq,aG (j:=1) rfl,z,rfl,by omega,az,fun H' s'=>k _ s'⟩
      |int _ _=>exact bZ rfl (k _ (aA.refl _))
      |nil=>exact bZ rfl (k _ (aA.refl _))
      |node _ _ _ _=>exact bZ rfl (k _ (aA.refl _))
    |_::_::_,_::_::_,_,k,_,_=>exact bZ (by simp;omega) (k _ (aA.refl _))
   ·rw [if_neg h2] at k
    refine bZ (by simp [h2]) ⟨_,rfl,a,_,_,_,rfl,rfl,sq,aG (j:=0) rfl,(show 2≤sizeLine by decide),fun t ht=>?_⟩
    have s1:aA H (upd H t (.tup [.str "less",.str "same"])):=aA.new ht
    refine ⟨t,_,rfl,.inr (b_.of ak),rfl,rfl,_,rfl,?_⟩
    rw [Bq]
    have sq1:=s1.tup sq
    have rt1:=rt.same s1
    generalize upd H t (.tup [.str "less",.str "same"])=H1 at s1 sq1 rt1 ⊢
    by_cases h3:f = "less"∨f = "same"
    ·rw [decide_eq_true h3,Bool.true_and] at k
     refine bZ (by simp [h3]) ⟨_,rfl,a,_,rfl,.inr sq1,rfl,_,rfl,?_⟩
     match r,ys,rt1,k,hl,tr with
     |[],[],_,k,_,_=>exact cI (by simp) (k _ s1)
     |[d],[y],_,k,_,_=>exact cI (by simp) (k _ s1)
     | [d,d2],[y,y2],.cons ry (.cons ry2 .nil),k,_,tr=>
       have k:∀ H',aA H H'->Q (.bl (iV d && qd d2)) H':=k
       have tdd:=tr d (List.mem_cons_self ..)
       have tdd2:=tr d2 (List.mem_cons_of_mem _ (List.mem_cons_self ..))
       refine bZ (by simp) ⟨_,rfl,a,_,_,_,rfl,rfl,sq1,aG (j:=1) rfl,_,_,_,_,rfl,ry,CN tdd,_,rfl,?_⟩
       cases tdd with
       | @str z az lz=>
         cases ry
         refine bZ rfl ⟨_,rfl,a,_,_,_,rfl,rfl,sq1,aG (j:=1) rfl,z,rfl,by omega,az,fun H2 s2=>⟨_,rfl,?_⟩⟩
         have sq2:=s2.tup sq1
         have ry3:=ry2.same s2
         have k:∀ H',aA H H'->Q (.bl (nameB z && qd d2)) H':=k
         cases hw:nameB z with
         |false=>rw [hw] at k;exact cI rfl (k _ (s1.trans s2))
         | true=>
           rw [hw,Bool.true_and] at k
           refine bZ rfl ⟨_,rfl,a,_,_,_,rfl,rfl,sq2,aG (j:=2) rfl,_,_,_,_,rfl,ry3,M3 tdd2,_,rfl,?_⟩
           have k:=k _ (s1.trans s2)
           cases tdd2 with
           | @int i i1 i2=>
             cases ry3
             refine cI rfl ?_
             refine ⟨_,rfl,_,rfl,a,_,_,_,rfl,rfl,sq2,aG (j:=2) rfl,_,_,rfl,rfl,_,rfl,?_⟩
             have k:Q (.bl (decide (-999999≤i) && decide (i≤999999))) H2:=k
             by_cases q1:-999999≤i
             ·rw [decide_eq_true q1,Bool.true_and] at k
              exact cI (by simpa using q1) ⟨_,_,rfl,rfl,k⟩
             ·rw [decide_eq_false q1,Bool.false_and] at k
              exact bZ (by simpa using q1) k
           |str _ _=>exact bZ rfl k
           |nil=>exact bZ rfl k
           |node _ _ _ _=>exact bZ rfl k
       |int _ _=>exact cI rfl (k _ s1)
       |nil=>exact cI rfl (k _ s1)
       |node _ _ _ _=>exact cI rfl (k _ s1)
     |_::_::_::_,_::_::_::_,_,k,_,_=>exact cI (by simp;omega) (k _ s1)
    ·rw [decide_eq_false h3,Bool.false_and] at k
     exact cI (by simp [h3]) (k _ s1)
theorem jM (h:cu (.tuple (.str f::r))≤n+1) (m:d∈r):cu d≤n:=by
 have:=jB m
 have h:max 0 (bI r)+1≤n+1:=h
 omega
theorem yq (sh:bB d=true) (h:bz d≤n):bR d+1≤2 ^ n:=by
 have:=tH n d
 rw [ug,if_pos ⟨sh,h⟩] at this
 exact this
theorem wk (h1:1≤r.length/\r.length≤2) (hb:b∈r.map fun d=>((bz d:Nat):Int)) (hm:∀ x∈r.map fun d=>((bz d:Nat):Int),x≤b):b=((d7 r:Nat):Int):=by
 match r,h1 with
 | [x],_=>
   have e:d7 [x]=max (bz x) 0:=rfl
   simp at hb
   rw [hb,e];omega
 | [x,y],_=>
   have e:d7 [x,y]=max (bz x) (max (bz y) 0):=rfl
   have q1:=hm (bz x) (by simp)
   have q2:=hm (bz y) (by simp)
   simp at hb
   rw [e]
   rcases hb with rfl|rfl <;> omega
 |[],h=>exact absurd h.1 (by simp)
 |_::_::_::_,h=>exact absurd h.2 (by simp)
def zu (K:Frag) (n:Nat):Sp:=fun vs H Q _=>∃ (x:V) (d:PyData),vs=[x]/\Rep K H x d/\TD d/\cu d≤n/\∀ H',aA H H'->Q (.bl (bB d)) H'
theorem Rw:aU ["_law_test_here"] ["_law_test_here"] (aC (top 54)):=⟨rfl,rfl,rfl,by decide +kernel,rfl,by decide +kernel,by decide +kernel⟩
theorem JK (DS:cO K mg "_law_shape_ok" (top 54) ["_law_test_here"] f fd) (T:Txt K mg) (DN:cO K mg "_law_is_name" (top 44) ["_law_text"] fN fdN) (DL:cO K mg "_law_leaf_ok" (top 53) ["_law_test_here"] fL fdL) (n:Nat):aR P w K mg base bQ (n+3) f fd ["_law_test_here"] (zu K n):=by
 have GL:aR P w K mg base bQ 2 fL fdL ["_law_test_here"] (JX K):=Nk DL.F T DN
 have main:∀ m:Nat,(∀ j,j+1=m->aR P w K mg base bQ (j+3) f fd ["_law_test_here"] (zu K j))->aR P w K mg base bQ (m+3) f fd ["_law_test_here"] (zu K m):=by
  intro m GC
  have GS:aR P w K mg base bQ (m+2) f fd ["_law_test_here"] (fun vs H Q E=>∃ j,j+1=m/\zu K j vs H Q E):=by
   match m,GC with
   |0,_=>exact ⟨fun _ _ _ _ ⟨n,e,_⟩=>by omega,fun _ _ _ _ _ _ _ _ _ _ _ _ _ ⟨n,e,_⟩=>by omega⟩
   | m+1,GC=>
     have G:=GC m rfl
     exact ⟨fun vs H Q E ⟨n,e,h⟩=>by cases e;exact G.1 vs H Q E h,fun a1 a2 a3 a4 a5 a6 a7 a8 a9 a10 a11 a12 a13 ⟨n,e,h⟩=>by cases e;exact G.2 a1 a2 a3 a4 a5 a6 a7 a8 a9 a10 a11 a12 a13 h⟩
  refine DS.F.ok Rw (fun vs H Q E h=>?_) (fun cdv A outer s H vs Q E hr h=>?_)
  ·obtain ⟨x,d,rfl,_⟩:=h
   rfl
  ·obtain ⟨x,d,rfl,rd,td,hd,k⟩:=h
   have hr2:bF 2 _:=hr.mono (by omega)
   refine ⟨_,(au (bu (PW.pt (jQ (gQ (dC (aM cg (by rfl) T.isinstance aX (aa (pv 0) (aa (dz rfl T.tuple e_) aj))))) (i_ (aH bx (aM a_ (by rfl) T.len cF (aa (pv 0) aj)) aq (aL _))))) (aB (aK km)) aP)
    (au (bu (aH fK (aY aV (pv 0) aq (fun _ _=>rfl)) (bD (aa aF (aa aF aj))) rfl) (aB (aK (cC (bY bx (aM a_ (by rfl) T.len cF (aa (pv 0) aj)) aq (aL _)) (cC (aD GS hr rfl DS.mg DS.F.kp DS.b .nil aN (aa (aY aV (pv 0) aq (fun _ _=>rfl)) aj)) (dD (aD GS hr rfl DS.mg DS.F.kp DS.b .nil aN (aa (aY aV (pv 0) aq (fun _ _=>rfl)) aj))))))) aP)
    (au (bu (aH bx (aY aV (pv 0) aq (fun _ _=>rfl)) aF (aL _)) (aB (aK (cC (bY bx (aM a_ (by rfl) T.len cF (aa (pv 0) aj)) aq (aL _)) (dD (aD GS hr rfl DS.mg DS.F.kp DS.b .nil aN (aa (aY aV (pv 0) aq (fun _ _=>rfl)) aj)))))) aP)
    (aB (aK (aD GL hr2 rfl DL.mg DL.F.kp DL.b .nil aN (aa (pv 0) aj))))))),?_⟩
   refine ⟨_,rfl,_,_,_,_,rfl,rd,Mt td,_,rfl,?_⟩
   cases td with
   |str a l=>exact cI rfl (cI rfl (k _ (aA.refl _)))
   |int a b=>exact cI rfl (cI rfl (k _ (aA.refl _)))
   | nil=>
     cases rd with
     |@tup a xs _ sq rs=>
     cases rs
     exact bZ rfl ⟨_,rfl,a,_,rfl,.inr sq,rfl,_,rfl,cI (by simp) (k _ (aA.refl _))⟩
   |@node f r af lf nr tr=>
   obtain ⟨n,rfl⟩:∃ n,m=n+1:=⟨m-1,by have h:max 0 (bI r)+1≤m:=hd;omega⟩
   have rd0:=rd
   cases rd with
   |@tup a xs _ sq rs=>
   obtain ⟨x0,ys,rfl⟩:∃ x0 ys,xs=x0::ys:=by cases rs;exact ⟨_,_,rfl⟩
   obtain ⟨r0,rt⟩:Rep K H x0 (.str f)/\bK K H ys r:=by cases rs with|cons a b=>exact ⟨a,b⟩
   cases r0
   have hl:=rt.length
   refine bZ rfl ⟨_,rfl,a,_,rfl,.inr sq,rfl,_,rfl,bZ (by simp;omega) ?_⟩
   refine ⟨_,rfl,a,_,_,_,rfl,rfl,sq,aG (j:=0) rfl,(show 2≤sizeLine by decide),fun t ht=>?_⟩
   have s1:aA H (upd H t (.tup [.str "and",.str "or"])):=aA.new ht
   refine ⟨t,_,rfl,.inr (b_.of ak),rfl,rfl,_,rfl,?_⟩
   rw [Bq]
   have sq1:=s1.tup sq
   have rt1:=rt.same s1
   have rd1:=rd0.same s1
   generalize upd H t (.tup [.str "and",.str "or"])=H1 at s1 sq1 rt1 rd1 ⊢
   unfold bB at k
   by_cases h1:f = "and"∨f = "or"
   ·rw [if_pos h1] at k
    refine cI (by simp [h1]) ⟨_,rfl,a,_,rfl,.inr sq1,rfl,_,rfl,?_⟩
    match r,ys,rt1,k,hl,tr,hd with
    |[],[],_,k,_,_,_=>exact bZ (by simp) (k _ s1)
    |[_],[_],_,k,_,_,_=>exact bZ (by simp) (k _ s1)
    | [d,e],[y,z],.cons ry (.cons rz .nil),k,_,tr,hd=>
      have k:∀ H',aA H H'->Q (.bl (true && (bB d && (bB e && true)))) H':=k
      refine cI (by simp) ⟨_,rfl,a,_,_,_,rfl,rfl,sq1,aG (j:=1) rfl,n,rfl,y,d,rfl,ry,tr d (by simp),jM hd (by simp),fun H2 s2=>⟨_,rfl,?_⟩⟩
      rw [Bool.true_and,Bool.and_true] at k
      cases hs:bB d with
      |false=>rw [hs] at k;exact bZ rfl (k _ (s1.trans s2))
      | true=>
        rw [hs,Bool.true_and] at k
        exact cI rfl ⟨_,rfl,a,_,_,_,rfl,rfl,s2.tup sq1,aG (j:=2) rfl,n,rfl,z,e,rfl,rz.same s2,tr e (by simp),jM hd (by simp),fun H3 s3=>k _ ((s1.trans s2).trans s3)⟩
    |_::_::_::_,_::_::_::_,_,k,_,_,_=>exact bZ (by simp;omega) (k _ s1)
   ·rw [if_neg h1] at k
    refine bZ (by simp [h1]) ⟨_,rfl,a,_,_,_,rfl,rfl,sq1,aG (j:=0) rfl,rfl,_,rfl,?_⟩
    by_cases h2:f = "not"
    ·rw [if_pos h2] at k
     refine cI (by simp [h2]) ⟨_,rfl,a,_,rfl,.inr sq1,rfl,_,rfl,?_⟩
     match r,ys,rt1,k,hl,tr,hd with
     |[],[],_,k,_,_,_=>exact bZ (by simp) (k _ s1)
     | [d],[y],.cons ry .nil,k,_,tr,hd=>
       have k:∀ H',aA H H'->Q (.bl (true && (bB d && true))) H':=k
       rw [Bool.true_and,Bool.and_true] at k
       exact cI (by simp) ⟨_,rfl,a,_,_,_,rfl,rfl,sq1,aG (j:=1) rfl,n,rfl,y,d,rfl,ry,tr d (by simp),jM hd (by simp),fun H2 s2=>k _ (s1.trans s2)⟩
     |_::_::_,_::_::_,_,k,_,_,_=>exact bZ (by simp;omega) (k _ s1)
    ·rw [if_neg h2] at k
     exact bZ (by simp [h2]) ⟨_,rfl,a,f,r,rfl,rd1,.node af lf nr tr,fun H2 s2=>k _ (s1.trans s2)⟩
 induction n with
 |zero=>exact main 0 (fun n e=>by omega)
 |succ n ih=>exact main (n+1) (fun n' e=>by cases e;exact ih)
def qj (K:Frag) (g:PyData->Nat) (n:Nat):Sp:=fun vs H Q _=>∃ (x:V) (d:PyData),vs=[x]/\Rep K H x d/\TD d/\bB d=true/\bz d≤n/\n≤10/\∀ H',aA H H'->Q (.int (g d:Nat)) H'
theorem Rt:aU ["_law_test_here"] ["_law_test_here"] (aC (top 50)):=⟨rfl,rfl,rfl,by decide +kernel,rfl,by decide +kernel,by decide +kernel⟩
theorem Rh:aU ["_law_test_here"] ["_law_test_here"] (aC (top 51)):=⟨rfl,rfl,rfl,by decide +kernel,rfl,by decide +kernel,by decide +kernel⟩
theorem zE (DL:cO K mg "_law_parts" (top 50) ["_law_test_here"] f fd) (hsum:mg "sum" = none) (n:Nat):aR P w K mg base bQ n f fd ["_law_test_here"] (qj K bR n):=by
 refine Nat.rec (motive:=fun n=>aR P w K mg base bQ n f fd ["_law_test_here"] (qj K bR n)) ⟨fun _ _ _ _ h=>?_,fun _ _ _ _ _ _ _ _ _ _ _ _ _ h=>?_⟩ (fun n GL=>?_) n
 ·obtain ⟨x,d,_,_,_,_,hd,_⟩:=h
  exact absurd (Nat.le_trans (cJ d) hd) (by decide)
 ·obtain ⟨x,d,_,_,_,_,hd,_⟩:=h
  exact absurd (Nat.le_trans (cJ d) hd) (by decide)
 refine DL.F.ok Rt (fun vs H Q E h=>?_) (fun cdv A outer s H vs Q E hr h=>?_)
 ·obtain ⟨x,d,rfl,_⟩:=h
  rfl
 ·obtain ⟨x,d,rfl,rd,td,sh,hd,hn,k⟩:=h
  refine ⟨_,(au (bu (aH iC (aY aV (pv 0) aq (fun _ _=>rfl)) (bD (aa aF (aa aF (aa aF aj)))) rfl) (aB (aK aq)) aP)
   (aB (aK (aZ cW aq (aM (p6 rfl) (by rfl) hsum zB (aa (gD (g:=bH 0) (own:=["_law_part"]) (js:=[]) (N':=["_law_part"]) (bw.of (osc:=aC (top 50)) (N:=["_law_test_here"]) rfl rfl ⟨rfl,by decide +kernel,by decide +kernel,by decide +kernel,rfl,by decide +kernel⟩) rfl (gR (cj dU (pv 0) (cL aq) cN)) (fun _ _ _ _ _=>(bj (i:=0) (show List.Nodup (["_law_part"]:List Str) by decide +kernel) rfl (Or.inl rfl) (Or.inr rfl))) (fun _ _ _ _ _=>cZ) (fun _ _ _ _ _=>aD GL hr rfl DL.mg DL.F.kp DL.b .nil aN (aa (pv 0) aj))) aj)))))),?_⟩
  obtain ⟨f,r,rfl⟩:=bV td sh
  cases td with
  |node af lf nr tr=>
  cases rd with
  |@tup a xs _ sq rs=>
  obtain ⟨x0,ys,rfl⟩:∃ x0 ys,xs=x0::ys:=by cases rs;exact ⟨_,_,rfl⟩
  obtain ⟨r0,rt⟩:Rep K H x0 (.str f)/\bK K H ys r:=by cases rs with|cons a b=>exact ⟨a,b⟩
  cases r0
  have hl:=rt.length
  refine ⟨_,rfl,a,_,_,_,rfl,rfl,sq,aG (j:=0) rfl,(show 3≤sizeLine by decide),fun t ht=>?_⟩
  have s0:aA H (upd H t (.tup [.str "not",.str "and",.str "or"])):=aA.new ht
  refine ⟨t,_,rfl,.inr (b_.of ak),rfl,rfl,_,rfl,?_⟩
  rw [FQ,yC]
  have sq0:=s0.tup sq
  have rt0:=rt.same s0
  generalize upd H t (.tup [.str "not",.str "and",.str "or"])=H0 at s0 sq0 rt0 ⊢
  have e:bR (.tuple (.str f::r))=if (arity f).isSome=true then 1+dJ r else 1:=rfl
  rw [e] at k
  rcases dR sh hd with ⟨ha,hlf⟩|N
  ·rw [ha] at k ⊢
   exact cI rfl (k _ s0)
  ·rw [N.ar] at k ⊢
   have k:∀ H',aA H H'->Q (.int (1+dJ r:Nat)) H':=k
   have a2:=dX N.ar
   refine bZ rfl ⟨_,rfl,1,rfl,a,_,rfl,sq0,(fun e=>?_),fun p hp=>?_⟩
   ·rw [nY] at e
    have:=congrArg List.length e
    simp at this
   ·rw [nY]
    have sp:b_ K (upd H0 p (.tup ys)) p ys:=b_.of ak
    have s1:aA H0 (upd H0 p (.tup ys)):=aA.new hp
    generalize upd H0 p (.tup ys)=H1 at sp s1 ⊢
    refine ⟨p,rfl,⟨_,sp⟩,?_⟩
    refine iw (K:=K) (a:=p) (xs:=ys) (fun i zs σ' H'=>(∃ v,σ'=[v])/\aA H1 H'/\zs=((r.take i).map fun d=>V.int (bR d:Nat))) (Nat.le_trans (show ys.length≤20 by omega) (by decide)) ⟨⟨none,rfl⟩,aA.refl _,rfl⟩ (fun i zs σ' H' _ ⟨_,s2,_⟩=>s2.tup sp) ?_ ?_
    ·rintro i y zs σ' H2 hy hzs ⟨⟨v,rfl⟩,s2,rfl⟩ N' hN
     obtain ⟨d,hd,ry⟩:=rt0.get' hy
     have me:=List.mem_of_getElem? hd
     refine ⟨_,rfl,y,d,rfl,ry.same (s1.trans s2),tr d me,N.sh d me,N.de d me,by omega,fun H3 s3=>?_⟩
     exact hN _ _ _ (by rw [List.length_append,hzs];rfl) ⟨⟨_,rfl⟩,s2.trans s3,by rw [List.take_add_one,hd];simp⟩
    ·rintro zs σ' H2 hzs ⟨⟨v,rfl⟩,s2,rfl⟩
     rw [List.take_of_length_le (by omega)]
     have lr:(r.map fun d=>V.int (bR d:Nat)).length≤20:=by rw [List.length_map];omega
     refine ⟨Nat.le_trans lr (by decide),fun q hq=>?_⟩
     have s3:aA H (upd H2 q (.lst (r.map fun d=>V.int (bR d:Nat)))):=((s0.trans s1).trans s2).trans (aA.new hq)
     refine ⟨q,r.map fun d=>((bR d:Nat):Int),rfl,by rw [List.map_map];exact bM.of ak,by rw [List.length_map];omega,fun x hx=>?_,_,_,rfl,rfl,?_⟩
     ·obtain ⟨d,md,rfl⟩:=List.mem_map.mp hx
      have:=yq (N.sh d md) (N.de d md)
      have p20:2 ^ n≤2 ^ 10:=Nat.pow_le_pow_right (by decide) (by omega)
      have:(2:Nat) ^ 10=1024:=by decide
      omega
     ·have es:(r.map bR).sum=dJ r:=by
       clear k lr s3 hq
       have:∀ l:List PyData,(l.map bR).sum=dJ l:=by
        intro l
        induction l with
        |nil=>rfl
        |cons d l ih=>rw [List.map_cons,List.sum_cons,ih];rfl
       exact this r
      rw [rH,es]
      have:=k _ s3
      rw [show ((1+dJ r:Nat):Int)=1+((dJ r:Nat):Int) by omega] at this
      exact this
theorem BW (DL:cO K mg "_law_deep" (top 51) ["_law_test_here"] f fd) (hmax:mg "max" = none) (n:Nat):aR P w K mg base bQ n f fd ["_law_test_here"] (qj K bz n):=by
 refine Nat.rec (motive:=fun n=>aR P w K mg base bQ n f fd ["_law_test_here"] (qj K bz n)) ⟨fun _ _ _ _ h=>?_,fun _ _ _ _ _ _ _ _ _ _ _ _ _ h=>?_⟩ (fun n GL=>?_) n
 ·obtain ⟨x,d,_,_,_,_,hd,_⟩:=h
  exact absurd (Nat.le_trans (cJ d) hd) (by decide)
 ·obtain ⟨x,d,_,_,_,_,hd,_⟩:=h
  exact absurd (Nat.le_trans (cJ d) hd) (by decide)
 refine DL.F.ok Rh (fun vs H Q E h=>?_) (fun cdv A outer s H vs Q E hr h=>?_)
 ·obtain ⟨x,d,rfl,_⟩:=h
  rfl
 ·obtain ⟨x,d,rfl,rd,td,sh,hd,hn,k⟩:=h
  refine ⟨_,(au (bu (aH iC (aY aV (pv 0) aq (fun _ _=>rfl)) (bD (aa aF (aa aF (aa aF aj)))) rfl) (aB (aK aq)) aP)
   (aB (aK (aZ cW aq (aM (wF rfl) (by rfl) hmax Gp (aa (gD (g:=bH 0) (own:=["_law_part"]) (js:=[]) (N':=["_law_part"]) (bw.of (osc:=aC (top 51)) (N:=["_law_test_here"]) rfl rfl ⟨rfl,by decide +kernel,by decide +kernel,by decide +kernel,rfl,by decide +kernel⟩) rfl (gR (cj dU (pv 0) (cL aq) cN)) (fun _ _ _ _ _=>(bj (i:=0) (show List.Nodup (["_law_part"]:List Str) by decide +kernel) rfl (Or.inl rfl) (Or.inr rfl))) (fun _ _ _ _ _=>cZ) (fun _ _ _ _ _=>aD GL hr rfl DL.mg DL.F.kp DL.b .nil aN (aa (pv 0) aj))) aj)))))),?_⟩
  obtain ⟨f,r,rfl⟩:=bV td sh
  cases td with
  |node af lf nr tr=>
  cases rd with
  |@tup a xs _ sq rs=>
  obtain ⟨x0,ys,rfl⟩:∃ x0 ys,xs=x0::ys:=by cases rs;exact ⟨_,_,rfl⟩
  obtain ⟨r0,rt⟩:Rep K H x0 (.str f)/\bK K H ys r:=by cases rs with|cons a b=>exact ⟨a,b⟩
  cases r0
  have hl:=rt.length
  refine ⟨_,rfl,a,_,_,_,rfl,rfl,sq,aG (j:=0) rfl,(show 3≤sizeLine by decide),fun t ht=>?_⟩
  have s0:aA H (upd H t (.tup [.str "not",.str "and",.str "or"])):=aA.new ht
  refine ⟨t,_,rfl,.inr (b_.of ak),rfl,rfl,_,rfl,?_⟩
  rw [FQ,yC]
  have sq0:=s0.tup sq
  have rt0:=rt.same s0
  generalize upd H t (.tup [.str "not",.str "and",.str "or"])=H0 at s0 sq0 rt0 ⊢
  have e:bz (.tuple (.str f::r))=if (arity f).isSome=true then 1+d7 r else 1:=rfl
  rw [e] at k
  rcases dR sh hd with ⟨ha,hlf⟩|N
  ·rw [ha] at k ⊢
   exact cI rfl (k _ s0)
  ·rw [N.ar] at k ⊢
   have k:∀ H',aA H H'->Q (.int (1+d7 r:Nat)) H':=k
   have a2:=dX N.ar
   refine bZ rfl ⟨_,rfl,1,rfl,a,_,rfl,sq0,(fun e=>?_),fun p hp=>?_⟩
   ·rw [nY] at e
    have:=congrArg List.length e
    simp at this
   ·rw [nY]
    have sp:b_ K (upd H0 p (.tup ys)) p ys:=b_.of ak
    have s1:aA H0 (upd H0 p (.tup ys)):=aA.new hp
    generalize upd H0 p (.tup ys)=H1 at sp s1 ⊢
    refine ⟨p,rfl,⟨_,sp⟩,?_⟩
    refine iw (K:=K) (a:=p) (xs:=ys) (fun i zs σ' H'=>(∃ v,σ'=[v])/\aA H1 H'/\zs=((r.take i).map fun d=>V.int (bz d:Nat))) (Nat.le_trans (show ys.length≤20 by omega) (by decide)) ⟨⟨none,rfl⟩,aA.refl _,rfl⟩ (fun i zs σ' H' _ ⟨_,s2,_⟩=>s2.tup sp) ?_ ?_
    ·rintro i y zs σ' H2 hy hzs ⟨⟨v,rfl⟩,s2,rfl⟩ N' hN
     obtain ⟨d,hd,ry⟩:=rt0.get' hy
     have me:=List.mem_of_getElem? hd
     refine ⟨_,rfl,y,d,rfl,ry.same (s1.trans s2),tr d me,N.sh d me,N.de d me,by omega,fun H3 s3=>?_⟩
     exact hN _ _ _ (by rw [List.length_append,hzs];rfl) ⟨⟨_,rfl⟩,s2.trans s3,by rw [List.take_add_one,hd];simp⟩
    ·rintro zs σ' H2 hzs ⟨⟨v,rfl⟩,s2,rfl⟩
     rw [List.take_of_length_le (by omega)]
     have lr:(r.map fun d=>V.int (bz d:Nat)).length≤20:=by rw [List.length_map];omega
     refine ⟨Nat.le_trans lr (by decide),fun q hq=>?_⟩
     have s3:aA H (upd H2 q (.lst (r.map fun d=>V.int (bz d:Nat)))):=((s0.trans s1).trans s2).trans (aA.new hq)
     refine ⟨q,r.map fun d=>((bz d:Nat):Int),rfl,by rw [List.map_map];exact bM.of ak,?_,fun b hb hm=>⟨_,_,rfl,rfl,?_⟩⟩
     ·intro z
      have:=congrArg List.length z
      rw [List.length_map] at this
      simp at this
      rw [this] at a2
      simp at a2
     ·rw [wk a2 hb hm]
      have:=k _ s3
      rw [show ((1+d7 r:Nat):Int)=1+((d7 r:Nat):Int) by omega] at this
      exact this
def Iv (K:Frag):Sp:=fun vs H Q _=>∃ (x:V) (d:PyData),vs=[x]/\Rep K H x d/\TD d/\cu d≤8/\∀ H',aA H H'->Q (.bl (bN d)) H'
theorem Su:aU ["_law_test_here"] ["_law_test_here"] (aC (top 55)):=⟨rfl,rfl,rfl,by decide +kernel,rfl,by decide +kernel,by decide +kernel⟩
theorem JV {f fS fD fP:Addr} {fd fdS fdD fdP:FuncData} (F:gU K "_law_test_ok" "_law_test_ok" (top 55) f fd) (DS:cO K mg "_law_shape_ok" (top 54) ["_law_test_here"] fS fdS) (GS:aR P w K mg base bQ 11 fS fdS ["_law_test_here"] (zu K 8))
 (DD:cO K mg "_law_deep" (top 51) ["_law_test_here"] fD fdD) (GD:aR P w K mg base bQ 8 fD fdD ["_law_test_here"] (qj K bz 8)) (DP:cO K mg "_law_parts" (top 50) ["_law_test_here"] fP fdP) (GP:aR P w K mg base bQ 8 fP fdP ["_law_test_here"] (qj K bR 8)):aR P w K mg base bQ 12 f fd ["_law_test_here"] (Iv K):=by
 refine F.ok Su (fun vs H Q E h=>?_) (fun cdv A outer s H vs Q E hr h=>?_)
 ·obtain ⟨x,d,rfl,_⟩:=h
  rfl
 ·obtain ⟨x,d,rfl,rd,td,hd,k⟩:=h
  have hr8:bF 8 _:=hr.mono (by decide)
  refine ⟨_,(aB (aK (cC (aD GS hr rfl DS.mg DS.F.kp DS.b .nil aN (aa (pv 0) aj)) (cC (bY fH (aD GD hr8 rfl DD.mg DD.F.kp DD.b .nil aN (aa (pv 0) aj)) aq (aL _)) (dD (bY fH (aD GP hr8 rfl DP.mg DP.F.kp DP.b .nil aN (aa (pv 0) aj)) aq (aL _))))))),?_⟩
  refine ⟨_,rfl,x,d,rfl,rd,td,hd,fun H1 s1=>⟨_,rfl,?_⟩⟩
  unfold bN at k
  cases sh:bB d with
  |false=>rw [sh] at k;exact bZ rfl (k _ s1)
  | true=>
    rw [sh,Bool.true_and] at k
    have dd:bz d≤8:=Nat.le_trans (mz td sh) hd
    refine cI rfl ⟨_,rfl,x,d,rfl,rd.same s1,td,sh,dd,by decide,fun H2 s2=>⟨_,_,rfl,rfl,_,rfl,?_⟩⟩
    by_cases h5:bz d≤5
    ·rw [decide_eq_true h5,Bool.true_and] at k
     refine cI (by simp;omega) ⟨_,rfl,x,d,rfl,rd.same (s1.trans s2),td,sh,dd,by decide,fun H3 s3=>⟨_,_,rfl,rfl,?_⟩⟩
     have:=k _ ((s1.trans s2).trans s3)
     rw [show decide (bR d≤15)=decide (((bR d:Nat):Int)≤15) by rw [Bool.eq_iff_iff];simp;omega] at this
     exact this
    ·rw [decide_eq_false h5,Bool.false_and] at k
     exact bZ (by simp;omega) (k _ (s1.trans s2))
noncomputable def cutD (xs:List PyData) (lo hi:Option Int):List PyData:=(xs.drop (HT.dF xs.length 0 lo)).take (HT.dF xs.length xs.length hi-HT.dF xs.length 0 lo)
theorem oJ:∀ (n:Nat) {vs:List V} {ds:List PyData},bK K H vs ds->bK K H (vs.drop n) (ds.drop n)
 |0,_,_,h=>h
 |_+1,_,_,.nil=>.nil
 |n+1,_,_,.cons _ h=>oJ n h
theorem p8:∀ (n:Nat) {vs:List V} {ds:List PyData},bK K H vs ds->bK K H (vs.take n) (ds.take n)
 |0,_,_,_=>.nil
 |_+1,_,_,.nil=>.nil
 |n+1,_,_,.cons a h=>.cons a (p8 n h)
theorem lU (ra:Rep K H (.ref a) (.tuple ds)) (k:∀ v H',aA H H'->Rep K H' (.ref v) (.tuple (cutD ds lo hi))->Q (.ref v) H'):Gv K (.ref a) lo hi H Q:=by
 cases ra with
 |@tup _ xs _ sq rs=>
 have hl:=rs.length
 have rc:bK K H (iM xs lo hi) (cutD ds lo hi):=by
  unfold iM cutD
  rw [hl]
  exact p8 _ (oJ _ rs)
 refine ⟨a,xs,rfl,sq,fun e=>k a H (aA.refl _) ?_,fun p hp=>k p _ (aA.new hp) (.tup (b_.of ak) (rc.same (aA.new hp)))⟩
 rw [e] at rc
 exact .tup sq rc
theorem m6 (ra:Rep K H (.ref a) (.tuple ds)) (rb:Rep K H (.ref b) (.tuple es)) (l:ds.length+es.length≤1000) (k:∀ v H',aA H H'->Rep K H' (.ref v) (.tuple (ds++es))->Q (.ref v) H'):pN K (.ref a) (.ref b) H Q:=by
 cases ra with
 |@tup _ xs _ sq rs=>
 cases rb with
 |@tup _ ys _ sq' rs'=>
 have hl:=rs.length
 have hl':=rs'.length
 have big:1000≤sizeLine:=by decide
 refine ⟨a,b,xs,ys,rfl,rfl,sq,sq',by omega,fun e=>k b H (aA.refl _) ?_,fun e=>k a H (aA.refl _) ?_,fun p hp=>k p _ (aA.new hp) (.tup (b_.of ak) ((jH rs rs').same (aA.new hp)))⟩
 ·subst e
  cases rs
  exact .tup sq' rs'
 ·subst e
  cases rs'
  rw [List.append_nil]
  exact .tup sq rs
theorem xf (x:PyData) (r:List PyData):cutD (x::r) (some 1) none=r:=by
 simp [cutD,HT.dF]
theorem ww {ds:List PyData} {v:Int} {k:Nat} (h:v=(k:Nat)) (hk:k≤ds.length):cutD ds none (some v)=ds.take k:=by
 subst h
 unfold cutD
 rw [HT.qt,HT.jE,List.drop_zero,Nat.sub_zero,Nat.min_eq_left hk]
theorem wK {ds:List PyData} {v:Int} {k:Nat} (h:v=(k:Nat)) (hk:k≤ds.length):cutD ds (some v) none=ds.drop k:=by
 subst h
 unfold cutD
 rw [HT.qt,HT.jE,Nat.min_eq_left hk]
 exact List.take_of_length_le (by rw [List.length_drop];omega)
theorem wC (x:PyData) (r:List PyData):cutD (x::r) none (some (-1))=(x::r).take r.length:=by
 unfold cutD
 have e:HT.dF (x::r).length (x::r).length (some (-1))=r.length:=by
  unfold HT.dF
  simp only [List.length_cons]
  rw [if_pos (by decide)]
  omega
 rw [e,HT.jE,List.drop_zero,Nat.sub_zero]
structure Bd (n:Nat) (e:PyData):Prop where
 td:TD e
 dp:cu e≤n
theorem uZ:∀ {l:List PyData},(∀ d∈l,cu d≤n)->bI l≤n
 |[],_=>Nat.zero_le _
 | d::l,h=>by
   have h1:=h d (List.mem_cons_self ..)
   have h2:=uZ fun d m=>h d (List.mem_cons_of_mem _ m)
   show max (cu d) (bI l)≤n
   omega
theorem d_ (a:gH f) (l:f.length≤40) (lr:r.length≤20) (h:∀ d∈r,Bd n d):Bd (n+1) (.tuple (.str f::r)):=by
 refine ⟨.node a l lr fun d m=>(h d m).td,?_⟩
 have:=uZ fun d m=>(h d m).dp
 show max 0 (bI r)+1≤n+1
 omega
theorem Bd.mono (h:Bd n e) (l:n≤m):Bd m e:=⟨h.td,Nat.le_trans h.dp l⟩
theorem mR (a:gH x) (l:x.length≤40):Bd n (.str x):=⟨.str a l,Nat.zero_le _⟩
theorem kO (a:-uG≤i) (b:i≤uG):Bd n (.int i):=⟨.int a b,Nat.zero_le _⟩
theorem tX:Bd (n+1) (.tuple [.str "all"]):=d_ (by unfold gH;decide +kernel) (by decide +kernel) (by simp) (by simp)
theorem Tr.node (h:Tr n d):∃ f r k,n=k+1/\d=.tuple (.str f::r)/\gH f/\f.length≤40/\r.length≤2/\(∀ e∈r,Bd k e)/\((arity f).isSome=true->1≤r.length/\∀ e∈r,Tr k e):=by
 obtain ⟨f,r,rfl⟩:=bV h.td h.sh
 have hd:=h.dp
 have hd':max 0 (bI r)+1≤n:=hd
 obtain ⟨k,rfl⟩:∃ k,n=k+1:=⟨n-1,by omega⟩
 have td:=h.td
 cases td with
 |node a l lr tr=>
 have bds:∀ e∈r,Bd k e:=fun e m=>⟨tr e m,jM hd m⟩
 rcases dR (n:=bz (.tuple (.str f::r))) h.sh (by omega) with ⟨ha,hl⟩|N
 ·have lf:=lY hl
  refine ⟨f,r,k,rfl,rfl,a,l,?_,bds,fun z=>by rw [ha] at z;cases z⟩
  cases lf <;> simp
 ·have a2:=dX N.ar
  exact ⟨f,r,k,rfl,rfl,a,l,a2.2,bds,fun _=>⟨a2.1,fun e m=>⟨tr e m,N.sh e m,jM hd m⟩⟩⟩
def zP (K:Frag) (n:Nat):Sp:=fun vs H Q _=>∃ (p dc:Addr) (x:V) (d:PyData),vs=[.ref p,x]/\Dr H p dc/\Rep K H x d/\Tr n d/\n≤10/\∀ (y:V) (e:PyData) (H':Hp),Rep K H' y e->Bd (n+1) e->Dr H' p dc->d9 p H H'->(∃ es,e=.tuple es)->Q y H'
noncomputable abbrev V4:List Str:=["_law_d","_law_test_here","_law_way","_law_at"]
theorem Gb:aU V4 ["_law_d","_law_test_here"] (aC (top 56)):=⟨rfl,rfl,rfl,by decide +kernel,rfl,by decide +kernel,by decide +kernel⟩
theorem I_ {f fP fO fW fFr fOd:Addr} {fd fdP fdO fdW fdFr fdOd:FuncData} (DB:cO K mg "_law_bent_test" (top 56) ["_law_d","_law_test_here"] f fd) (T:Txt K mg) (DP:cO K mg "_law_pick" (top 38) ["_law_d","_law_many"] fP fdP) (DO:cO K mg "_law_of" (top 39) ["_law_d","_law_things"] fO fdO)
 (DW:cO K mg "_law_word" (top 42) ["_law_d"] fW fdW) (DFr:cO K mg "_law_far" (top 40) ["_law_d"] fFr fdFr) (DOd:cO K mg "_law_odd_name" (top 46) ["_law_d","_law_text"] fOd fdOd) (n:Nat):aR P w K mg base bQ (n+4) f fd ["_law_d","_law_test_here"] (zP K n):=by
 have GP:aR P w K mg base bQ 1 fP fdP ["_law_d","_law_many"] gj:=eQ DP.F T
 have GO:aR P w K mg base bQ 2 fO fdO ["_law_d","_law_things"] (tG K):=o_ DO.F T DP
 have GW:aR P w K mg base bQ 3 fW fdW ["_law_d"] q9:=qG DW.F T DP DO
 have GF:aR P w K mg base bQ 2 fFr fdFr ["_law_d"] CK:=Gu DFr.F T DP
 have GOd:aR P w K mg base bQ 3 fOd fdOd ["_law_d","_law_text"] Cv:=FZ DOd.F T DP DO
 have main:∀ m:Nat,(∀ j,j+1=m->aR P w K mg base bQ (j+4) f fd ["_law_d","_law_test_here"] (zP K j))->aR P w K mg base bQ (m+4) f fd ["_law_d","_law_test_here"] (zP K m):=by
  intro m GC
  have GB:aR P w K mg base bQ (m+3) f fd ["_law_d","_law_test_here"] (fun vs H Q E=>∃ j,j+1=m/\zP K j vs H Q E):=by
   match m,GC with
   |0,_=>exact ⟨fun _ _ _ _ ⟨n,e,_⟩=>by omega,fun _ _ _ _ _ _ _ _ _ _ _ _ _ ⟨n,e,_⟩=>by omega⟩
   | m+1,GC=>
     have G:=GC m rfl
     exact ⟨fun vs H Q E ⟨n,e,h⟩=>by cases e;exact G.1 vs H Q E h,fun a1 a2 a3 a4 a5 a6 a7 a8 a9 a10 a11 a12 a13 ⟨n,e,h⟩=>by cases e;exact G.2 a1 a2 a3 a4 a5 a6 a7 a8 a9 a10 a11 a12 a13 h⟩
  refine DB.F.ok Gb (fun vs H Q E h=>?_) (fun cdv A outer s H vs Q E hr h=>?_)
  ·obtain ⟨p,dc,x,d,rfl,_⟩:=h
   rfl
  ·obtain ⟨p,dc,x,d,rfl,D,rd,tr,hm,k⟩:=h
   have k:∀ (y:V) (e:PyData) (H':Hp),Rep K H' y e->Bd (m+1) e->Dr H' p dc->d9 p H H'->(_:∃ es,e=.tuple es:=by exact ⟨_,rfl⟩)->Q y H':=k
   have hr1:bF 1 _:=hr.mono (by omega)
   have hr2:bF 2 _:=hr.mono (by omega)
   have hr3:bF 3 _:=hr.mono (by omega)
   refine ⟨_,(au (bu (PW.pt (jQ (gQ (dC (aM cg (by rfl) T.isinstance aX (aa (pv 1) (aa (dz rfl T.tuple e_) aj))))) (i_ (aH (yz hr.units) (pv 1) (bD aj) (aL _))))) (aB (aK (pv 1))) aP)
    (au (bh (i:=2) Gb.nd rfl (Or.inl rfl) (aD GP hr1 rfl DP.mg DP.F.kp DP.b .nil aN (aa (pv 0) (aa aq aj))))
    (au (bu (PW.pt (kJ (aH zG (aM a_ (by rfl) T.len cF (aa (pv 1) aj)) aq (aL _)) (kJ (aH fK (aY aV (pv 1) aq (fun _ _=>rfl)) (bD (aa aF (aa aF (aa aF aj)))) rfl) (jV (aH bx (aD GP hr1 rfl DP.mg DP.F.kp DP.b .nil aN (aa (pv 0) (aa aq aj))) aq (aL _)))))) (au (bh (i:=3) Gb.nd rfl (Or.inl rfl) (aZ cW aq (aD GP hr1 rfl DP.mg DP.F.kp DP.b .nil aN (aa (pv 0) (aa (aZ gO (aM a_ (by rfl) T.len cF (aa (pv 1) aj)) aq) aj))))) (aB (aK (aZ iz (aZ iz (cj dU (pv 1) cN (cL (pv 3))) (bD (aa (aD GB hr rfl DB.mg DB.F.kp DB.b .nil aN (aa (pv 0) (aa (aY aV (pv 1) (pv 3) (fun _ _=>rfl)) aj))) aj))) (cj dU (pv 1) (cL (aZ cW (pv 3) aq)) cN))))) aP)
    (au (bu (aH bx (pv 2) aq (aL _)) (aB (aK (cj dU (pv 1) cN (cL (jG iB aq))))) aP)
    (au (bu (aH bx (pv 2) aq (aL _)) (aB (aK (aZ iz (pv 1) (bD (aa (aD GO hr2 rfl DO.mg DO.F.kp DO.b .nil aN (aa (pv 0) (aa (bU (aa (bD (aa aF aj)) (aa aq (aa aF aj)))) aj))) aj))))) aP)
    (au (bu (aH bx (pv 2) aq (aL _)) (aB (aK (aZ iz (bD (aa (aD GO hr2 rfl DO.mg DO.F.kp DO.b .nil aN (aa (pv 0) (aa (bU (aa aF (aa aF (aa aF (aa aF (aa aF aj)))))) aj))) aj)) (cj dU (pv 1) (cL aq) cN)))) aP)
    (au (bu (aH bx (pv 2) aq (aL _)) (aB (aK (bD (aa aF (aa (aD GOd hr3 rfl DOd.mg DOd.F.kp DOd.b .nil aN (aa (pv 0) (aa (aD GW hr3 rfl DW.mg DW.F.kp DW.b .nil aN (aa (pv 0) aj)) aj))) (aa aq aj)))))) aP)
    (au (bu (aH bx (pv 2) aq (aL _)) (aB (aK (bD (aa aF (aa (aD GW hr3 rfl DW.mg DW.F.kp DW.b .nil aN (aa (pv 0) aj)) (aa (aD GO hr2 rfl DO.mg DO.F.kp DO.b .nil aN (aa (pv 0) (aa (bU (aa aq (aa (jG iB aq) (aa (aD GF hr2 rfl DFr.mg DFr.F.kp DFr.b .nil aN (aa (pv 0) aj)) (aa (bD (aa aF aj)) aj))))) aj))) aj)))))) aP)
    (au (bu (aH bx (pv 2) aq (aL _)) (aB (aK (bD (aa aF (aa (aD GOd hr3 rfl DOd.mg DOd.F.kp DOd.b .nil aN (aa (pv 0) (aa (aD GW hr3 rfl DW.mg DW.F.kp DW.b .nil aN (aa (pv 0) aj)) aj))) aj))))) aP)
    (au (bu (aH bx (pv 2) aq (aL _)) (aB (aK (bD (aa aF (aa (pv 1) (aa (pv 1) aj)))))) aP)
    (au (bu (aH bx (pv 2) aq (aL _)) (aB (aK (bD (aa aF (aa (pv 1) aj))))) aP)
    (au (bu (aH bx (pv 2) aq (aL _)) (aB (aK (bD (aa aF (aa (pv 1) (aa (aD GO hr2 rfl DO.mg DO.F.kp DO.b .nil aN (aa (pv 0) (aa (bU (aa aF (aa aq (aa (bD (aa aF aj)) aj)))) aj))) aj)))))) aP)
    (aB (aK (pv 1))))))))))))))),?_⟩
   obtain ⟨f,r,n,rfl,rfl,af,lf,lr,bds,hop⟩:=tr.node
   have rd0:=rd
   cases rd with
   |@tup a xs _ sq rs=>
   obtain ⟨x0,ys,rfl⟩:∃ x0 ys,xs=x0::ys:=by cases rs;exact ⟨_,_,rfl⟩
   obtain ⟨r0,rt⟩:Rep K H x0 (.str f)/\bK K H ys r:=by cases rs with|cons a b=>exact ⟨a,b⟩
   cases r0
   have hl:=rt.length
   have bd0:Bd (n+1) (.tuple (.str f::r)):=⟨tr.td,tr.dp⟩
   have h1000:1000≤sizeLine:=by decide
   have hu:(1000000:Int)≤uG:=by decide
   refine ⟨_,rfl,_,_,_,_,rfl,rd0,rfl,_,rfl,bZ rfl ?_⟩
   refine ⟨_,rfl,(show 0≤sizeLine by decide),fun t0 ht0=>?_⟩
   have s0:aA H (upd H t0 (.tup [])):=aA.new ht0
   refine ⟨_,_,rd0.same s0,.tup (b_.of ak) .nil,?_,_,rfl,bZ rfl ?_⟩
   ·have:=tr.dp;omega
   have D0:Dr (upd H t0 (.tup [])) p dc:=D.mono s0
   have rd1:=rd0.same s0
   have b0:d9 p H (upd H t0 (.tup [])):=s0.but
   generalize upd H t0 (.tup [])=H0 at s0 D0 rd1 b0 ⊢
   refine ⟨_,rfl,p,dc,_,rfl,D0,by decide,by decide,fun w1 H1 w0 w10 D1 b1=>?_⟩
   have rd2:=D0.rep b1 rd1
   have b01:=b0.trans b1
   clear rd1 b1 D0 s0
   try dsimp only [bH]
   refine gb (fun σ' H'=>(∃ u,σ'=[some (.ref p),some (.ref a),some (.int w1),u])/\Dr H' p dc/\d9 p H H'/\Rep K H' (.ref a) (.tuple (.str f::r))) ?nx fun N hN=>?st
   case st=>
    have sqOf:∀ {H':Hp},Rep K H' (.ref a) (.tuple (.str f::r))->∃ zs,b_ K H' a (.str f::zs)/\bK K H' zs r:=by
     intro H' h
     cases h with
     |@tup _ zs _ q1 q2=>
     cases q2 with
     |@cons z0 _ zs _ q3 q4=>
     cases q3
     exact ⟨zs,q1,q4⟩
    obtain ⟨zs,sq2,rz2⟩:=sqOf rd2
    have hz:=rz2.length
    refine ⟨_,rfl,a,_,rfl,.inr sq2,_,_,rfl,rfl,_,rfl,dM (fun hlen=>?_) (fun _=>hN _ _ ⟨⟨_,rfl⟩,D1,b01,rd2⟩)⟩
    refine ⟨_,rfl,a,_,_,_,rfl,rfl,sq2,aG (j:=0) rfl,(show 3≤sizeLine by decide),fun t ht=>?_⟩
    have s2:aA H1 (upd H1 t (.tup [.str "not",.str "and",.str "or"])):=aA.new ht
    refine ⟨t,_,rfl,.inr (b_.of ak),rfl,rfl,_,rfl,?_⟩
    rw [FQ,yC]
    have rd3:=rd2.same s2
    have D2:=D1.mono s2
    have b2:d9 p H (upd H1 t (.tup [.str "not",.str "and",.str "or"])):=b01.trans s2.but
    generalize upd H1 t (.tup [.str "not",.str "and",.str "or"])=H2 at s2 rd3 D2 b2 ⊢
    refine dM (fun ho=>?_) (fun _=>hN _ _ ⟨⟨_,rfl⟩,D2,b2,rd3⟩)
    obtain ⟨r1,trs⟩:=hop ho
    refine ⟨_,rfl,p,dc,_,rfl,D2,by decide,by decide,fun q H3 q0 q1 D3 b3=>⟨rfl,_,rfl,dM (fun _=>?_) (fun _=>hN _ _ ⟨⟨_,rfl⟩,D3,b2.trans b3,D2.rep b3 rd3⟩)⟩⟩
    have rd4:=D2.rep b3 rd3
    have b4:=b2.trans b3
    obtain ⟨zs4,sq4,rz4⟩:=sqOf rd4
    have hz4:=rz4.length
    refine ⟨_,rfl,_,rfl,a,_,rfl,.inr sq4,_,_,rfl,rfl,p,dc,_,rfl,D3,?_,?_,fun j H5 j0 j1 D5 b5=>⟨_,_,rfl,rfl,?_⟩⟩
    ·simp only [List.length_cons];omega
    ·simp only [List.length_cons];omega
    obtain ⟨i,rfl⟩:=Int.eq_ofNat_of_zero_le j0
    have hi:i<r.length:=by simp only [List.length_cons] at j1;omega
    have rd5:=D3.rep b5 rd4
    have b5':=b4.trans b5
    have ai:(1+(i:Int))=((i+1:Nat):Int):=by omega
    have ai2:(1+(i:Int)+1)=((i+2:Nat):Int):=by omega
    refine ⟨_,rfl,_,rfl,_,rfl,lU rd5 fun v1 H6 s6 rv1=>?_⟩
    rw [ww ai (by simp;omega)] at rv1
    have rd6:=rd5.same s6
    have D6:=D5.mono s6
    obtain ⟨zs6,sq6,rz6⟩:=sqOf rd6
    have hz6:=rz6.length
    have hi6:i<zs6.length:=by omega
    obtain ⟨e,he,ry⟩:=rz6.get' (List.getElem?_eq_getElem hi6)
    have me:=List.mem_of_getElem? he
    refine ⟨_,rfl,_,rfl,_,rfl,a,_,_,zs6[i],rfl,rfl,sq6,(by rw [ai];exact aG (by rw [List.getElem?_cons_succ];exact List.getElem?_eq_getElem hi6)),n,rfl,p,dc,_,e,rfl,D6,ry,trs e me,by omega,fun y2 e2 H7 ry2 bd2 D7 b7 _=>⟨(show 1≤sizeLine by decide),fun t7 ht7=>?_⟩⟩
    have s8:aA H7 (upd H7 t7 (.tup [y2])):=aA.new ht7
    have b8:d9 p H (upd H7 t7 (.tup [y2])):=((b5'.trans s6.but).trans b7).trans s8.but
    refine m6 ((D6.rep b7 rv1).same s8) (.tup (b_.of ak) (.cons (ry2.same s8) .nil)) (by simp;omega) fun v9 H9 s9 rv9=>?_
    have rd9:=((D6.rep b7 rd6).same s8).same s9
    refine ⟨_,rfl,_,rfl,_,_,rfl,rfl,_,rfl,?_⟩
    dsimp only [lR]
    refine lU rd9 fun v10 H10 s10 rv10=>?_
    rw [wK ai2 (by simp;omega)] at rv10
    refine m6 (rv9.same s10) rv10 (by simp;omega) fun v11 H11 s11 rv11=>?_
    have ee:((PyData.str f::r).take (i+1)++[e2]++(PyData.str f::r).drop (i+2))=.str f::(r.take i++[e2]++r.drop (i+1)):=by
     rw [List.take_succ_cons,List.drop_succ_cons];rfl
    rw [ee] at rv11
    refine k _ _ H11 rv11 (d_ af lf (by simp;omega) fun d m=>?_) (((D7.mono s8).mono s9).mono (s10.trans s11)) (((b8.trans s9.but).trans s10.but).trans s11.but)
    simp only [List.mem_append,List.mem_singleton] at m
    rcases m with (m|m)|m
    ·exact (bds d (List.mem_of_mem_take m)).mono (by omega)
    ·subst m;exact bd2
    ·exact (bds d (List.mem_of_mem_drop m)).mono (by omega)
   rintro σ' H2 ⟨⟨u,rfl⟩,D2,b2,rd3⟩
   refine ⟨_,rfl,rfl,_,rfl,dM (fun _=>?_) (fun _=>?_)⟩
   ·refine ⟨_,rfl,1,rfl,_,rfl,lU rd3 fun v1 H3 s3 rv=>?_⟩
    have rv:Rep K H3 (.ref v1) (.tuple (cutD (.str f::r) none (some (-1)))):=rv
    rw [wC] at rv
    cases r with
    |nil=>exact k _ _ H3 rv ⟨.nil,by simp [cu,bI]⟩ (D2.mono s3) (b2.trans s3.but)
    | cons d r=>
      rw [List.length_cons,List.take_succ_cons] at rv
      exact k _ _ H3 rv (d_ af lf (by simp at lr ⊢;omega) fun e m=>(bds e (List.mem_of_mem_take m)).mono (by omega)) (D2.mono s3) (b2.trans s3.but)
   refine ⟨_,rfl,rfl,_,rfl,dM (fun _=>?_) (fun _=>?_)⟩
   ·refine ⟨_,rfl,_,rfl,(show 1≤sizeLine by decide),fun t ht=>⟨(show 3≤sizeLine by decide),fun q hq=>?_⟩⟩
    have s4:aA H2 (upd (upd H2 t (.tup [.str "all"])) q (.lst [.ref t,.int 3,.str "ab"])):=(aA.new ht).trans (aA.new hq)
    have rt4:Rep K (upd (upd H2 t (.tup [.str "all"])) q (.lst [.ref t,.int 3,.str "ab"])) (.ref t) (.tuple [.str "all"]):=.tup (b_.of (aA.new hq _ _ ak)) (.cons (.str _) .nil)
    refine ⟨p,dc,q,_,rfl,D2.mono s4,bM.of ak,by simp,by simp,fun y H5 hy D5 b5=>⟨(show 1≤sizeLine by decide),fun t6 ht6=>?_⟩⟩
    obtain ⟨e,re,be⟩:∃ e,Rep K H5 y e/\Bd (n+1) e:=by
     simp only [List.mem_cons,List.not_mem_nil,or_false] at hy
     rcases hy with rfl|rfl|rfl
     ·exact ⟨_,(D2.mono s4).rep b5 rt4,tX⟩
     ·exact ⟨_,.int _,kO (by omega) (by omega)⟩
     ·exact ⟨_,.str _,mR (by unfold gH;decide +kernel) (by decide +kernel)⟩
    have s6:aA H5 (upd H5 t6 (.tup [y])):=aA.new ht6
    refine m6 (((D2.mono s4).rep b5 (rd3.same s4)).same s6) (.tup (b_.of ak) (.cons (re.same s6) .nil)) (by simp;omega) fun v H7 s7 rv=>?_
    refine k _ _ H7 rv (d_ (r:=r++[e]) af lf (by simp;omega) fun d m=>?_) ((D5.mono s6).mono s7) ((((b2.trans s4.but).trans b5).trans s6.but).trans s7.but)
    rcases List.mem_append.mp m with m|m
    ·exact (bds d m).mono (by omega)
    ·simp at m;subst m;exact be
   refine ⟨_,rfl,rfl,_,rfl,dM (fun _=>?_) (fun _=>?_)⟩
   ·refine ⟨_,rfl,(show 5≤sizeLine by decide),fun q hq=>?_⟩
    have s4:aA H2 (upd H2 q (.lst [.str "",.str "All",.str "more",.str "xor",.str "less"])):=aA.new hq
    refine ⟨p,dc,q,_,rfl,D2.mono s4,bM.of ak,by simp,by simp,fun y H5 hy D5 b5=>⟨(show 1≤sizeLine by decide),fun t6 ht6=>?_⟩⟩
    obtain ⟨z,rfl,az,lz⟩:∃ z:Str,y=.str z/\gH z/\z.length≤40:=by
     simp only [List.mem_cons,List.not_mem_nil,or_false] at hy
     rcases hy with rfl|rfl|rfl|rfl|rfl
     all_goals exact ⟨_,rfl,by unfold gH;decide +kernel,by decide +kernel⟩
    have s6:aA H5 (upd H5 t6 (.tup [.str z])):=aA.new ht6
    have rd6:=((D2.mono s4).rep b5 (rd3.same s4)).same s6
    have rt6:Rep K (upd H5 t6 (.tup [.str z])) (.ref t6) (.tuple [.str z]):=.tup (b_.of ak) (.cons (.str _) .nil)
    refine ⟨_,rfl,1,rfl,?_⟩
    dsimp only [lR]
    refine lU rd6 fun v7 H7 s7 rv7=>?_
    rw [xf] at rv7
    refine m6 (rt6.same s7) rv7 (by simp;omega) fun v H8 s8 rv=>?_
    exact k _ _ H8 rv (d_ (r:=r) az lz (by omega) fun d m=>(bds d m).mono (by omega)) (((D5.mono s6).mono s7).mono s8) (((((b2.trans s4.but).trans b5).trans s6.but).trans s7.but).trans s8.but)
   refine ⟨_,rfl,rfl,_,rfl,dM (fun _=>?_) (fun _=>?_)⟩
   ·refine ⟨_,rfl,_,rfl,p,dc,rfl,D2,fun z H3 nz D3 b3=>⟨p,dc,z,rfl,D3,by have:=nz.hi;omega,pY nz,fun o H4 ao lo D4 b4=>⟨(show 3≤sizeLine by decide),fun t ht=>?_⟩⟩⟩
    have:=nz.hi
    refine k _ (.tuple [.str "less",.str o,.int 4]) _ (.tup (b_.of ak) (.cons (.str _) (.cons (.str _) (.cons (.int _) .nil)))) (d_ (by unfold gH;decide +kernel) (by decide +kernel) (by simp) fun d m=>?_) (D4.new ht) (((b2.trans b3).trans b4).trans (d9.new ht))
    simp at m
    rcases m with rfl|rfl
    ·exact mR ao (by omega)
    ·exact kO (by omega) (by omega)
   refine ⟨_,rfl,rfl,_,rfl,dM (fun _=>?_) (fun _=>?_)⟩
   ·refine ⟨_,rfl,p,dc,rfl,D2,fun z H3 nz D3 b3=>⟨_,rfl,1000000,rfl,_,rfl,p,dc,rfl,D3,fun g H4 g1 g2 D4 b4=>⟨(show 1≤sizeLine by decide),fun t ht=>⟨(show 4≤sizeLine by decide),fun q hq=>?_⟩⟩⟩⟩
    have s5:aA H4 (upd (upd H4 t (.tup [.str "all"])) q (.lst [.int 1000000,.int (-1000000),.int g,.ref t])):=(aA.new ht).trans (aA.new hq)
    have rt5:Rep K (upd (upd H4 t (.tup [.str "all"])) q (.lst [.int 1000000,.int (-1000000),.int g,.ref t])) (.ref t) (.tuple [.str "all"]):=.tup (b_.of (aA.new hq _ _ ak)) (.cons (.str _) .nil)
    refine ⟨p,dc,q,_,rfl,D4.mono s5,bM.of ak,by simp,by simp,fun y H6 hy D6 b6=>⟨(show 3≤sizeLine by decide),fun t7 ht7=>?_⟩⟩
    obtain ⟨e,re,be⟩:∃ e,Rep K H6 y e/\Bd (n+1) e:=by
     simp only [List.mem_cons,List.not_mem_nil,or_false] at hy
     have:uG=Bc+2:=rfl
     rcases hy with rfl|rfl|rfl|rfl
     ·exact ⟨_,.int _,kO (by omega) (by omega)⟩
     ·exact ⟨_,.int _,kO (by omega) (by omega)⟩
     ·exact ⟨_,.int _,kO (by omega) (by omega)⟩
     ·exact ⟨_,(D4.mono s5).rep b6 rt5,tX⟩
    have s7:aA H6 (upd H6 t7 (.tup [.str "same",.str z,y])):=aA.new ht7
    refine k _ (.tuple [.str "same",.str z,e]) _ (.tup (b_.of ak) (.cons (.str _) (.cons (.str _) (.cons (re.same s7) .nil)))) (d_ (by unfold gH;decide +kernel) (by decide +kernel) (by simp) fun d m=>?_) (D6.mono s7) (((((b2.trans b3).trans b4).trans s5.but).trans b6).trans s7.but)
    simp at m
    rcases m with rfl|rfl
    ·exact mR (pY nz) (by have:=nz.hi;omega)
    ·exact be
   refine ⟨_,rfl,rfl,_,rfl,dM (fun _=>?_) (fun _=>?_)⟩
   ·refine ⟨_,rfl,_,rfl,p,dc,rfl,D2,fun z H3 nz D3 b3=>⟨p,dc,z,rfl,D3,by have:=nz.hi;omega,pY nz,fun o H4 ao lo D4 b4=>⟨(show 2≤sizeLine by decide),fun t ht=>?_⟩⟩⟩
    have:=nz.hi
    refine k _ (.tuple [.str "is",.str o]) _ (.tup (b_.of ak) (.cons (.str _) (.cons (.str _) .nil))) (d_ (by unfold gH;decide +kernel) (by decide +kernel) (by simp) fun d m=>?_) (D4.new ht) (((b2.trans b3).trans b4).trans (d9.new ht))
    simp at m
    subst m
    exact mR ao (by omega)
   refine ⟨_,rfl,rfl,_,rfl,dM (fun _=>?_) (fun _=>?_)⟩
   ·refine ⟨_,rfl,_,rfl,(show 3≤sizeLine by decide),fun t ht=>?_⟩
    have s4:aA H2 (upd H2 t (.tup [.str "and",.ref a,.ref a])):=aA.new ht
    refine k _ (.tuple [.str "and",.tuple (.str f::r),.tuple (.str f::r)]) _ (.tup (b_.of ak) (.cons (.str _) (.cons (rd3.same s4) (.cons (rd3.same s4) .nil)))) (d_ (by unfold gH;decide +kernel) (by decide +kernel) (by simp) fun d m=>?_) (D2.mono s4) (b2.trans s4.but)
    simp at m
    subst m
    exact bd0
   refine ⟨_,rfl,rfl,_,rfl,dM (fun _=>?_) (fun _=>?_)⟩
   ·refine ⟨_,rfl,(show 2≤sizeLine by decide),fun t ht=>?_⟩
    have s4:aA H2 (upd H2 t (.tup [.str "not",.ref a])):=aA.new ht
    refine k _ (.tuple [.str "not",.tuple (.str f::r)]) _ (.tup (b_.of ak) (.cons (.str _) (.cons (rd3.same s4) .nil))) (d_ (by unfold gH;decide +kernel) (by decide +kernel) (by simp) fun d m=>?_) (D2.mono s4) (b2.trans s4.but)
    simp at m
    subst m
    exact bd0
   refine ⟨_,rfl,rfl,_,rfl,dM (fun _=>?_) (fun _=>?_)⟩
   ·refine ⟨_,rfl,_,rfl,(show 1≤sizeLine by decide),fun t ht=>⟨(show 3≤sizeLine by decide),fun q hq=>?_⟩⟩
    have s4:aA H2 (upd (upd H2 t (.tup [.str "all"])) q (.lst [.str "all",.int 1,.ref t])):=(aA.new ht).trans (aA.new hq)
    have rt4:Rep K (upd (upd H2 t (.tup [.str "all"])) q (.lst [.str "all",.int 1,.ref t])) (.ref t) (.tuple [.str "all"]):=.tup (b_.of (aA.new hq _ _ ak)) (.cons (.str _) .nil)
    refine ⟨p,dc,q,_,rfl,D2.mono s4,bM.of ak,by simp,by simp,fun y H5 hy D5 b5=>⟨(show 3≤sizeLine by decide),fun t6 ht6=>?_⟩⟩
    obtain ⟨e,re,be⟩:∃ e,Rep K H5 y e/\Bd (n+1) e:=by
     simp only [List.mem_cons,List.not_mem_nil,or_false] at hy
     rcases hy with rfl|rfl|rfl
     ·exact ⟨_,.str _,mR (by unfold gH;decide +kernel) (by decide +kernel)⟩
     ·exact ⟨_,.int _,kO (by omega) (by omega)⟩
     ·exact ⟨_,(D2.mono s4).rep b5 rt4,tX⟩
    have s6:aA H5 (upd H5 t6 (.tup [.str "or",.ref a,y])):=aA.new ht6
    refine k _ (.tuple [.str "or",.tuple (.str f::r),e]) _ (.tup (b_.of ak) (.cons (.str _) (.cons (((D2.mono s4).rep b5 (rd3.same s4)).same s6) (.cons (re.same s6) .nil)))) (d_ (by unfold gH;decide +kernel) (by decide +kernel) (by simp) fun d m=>?_) (D5.mono s6) (((b2.trans s4.but).trans b5).trans s6.but)
    simp at m
    rcases m with rfl|rfl
    ·exact bd0
    ·exact be
   exact ⟨_,rfl,k _ _ H2 rd3 (bd0.mono (by omega)) D2 b2⟩
 induction n with
 |zero=>exact main 0 (fun n e=>by omega)
 |succ n ih=>exact main (n+1) (fun n' e=>by cases e;exact ih)
theorem ji:∀ {n:Nat} {d:PyData},TD d->bB d=true->bz d≤n->2*(ie d).length≤bR d+1
 |0,d,_,_,h=>by have:=cJ d;omega
 | n+1,d,td,sh,h=>by
   obtain ⟨f,r,rfl⟩:=bV td sh
   have e:ie (.tuple (.str f::r))=if (arity f).isSome=true then eE r else [.tuple (.str f::r)]:=rfl
   have e2:bR (.tuple (.str f::r))=if (arity f).isSome=true then 1+dJ r else 1:=rfl
   rw [e,e2]
   cases td with
   |node a b c tr=>
   rcases dR sh h with ⟨ha,_⟩|N
   ·rw [ha];simp
   ·rw [N.ar]
    simp only [Option.isSome_some,if_true]
    have a2:=dX N.ar
    match r,a2,N,tr with
    | [x],_,N,tr=>
      have:=ji (tr x (by simp)) (N.sh x (by simp)) (N.de x (by simp))
      rw [cA]
      show _≤1+(bR x+0)+1
      omega
    | [x,y],_,N,tr=>
      have h1:=ji (tr x (by simp)) (N.sh x (by simp)) (N.de x (by simp))
      have h2:=ji (tr y (by simp)) (N.sh y (by simp)) (N.de y (by simp))
      have:eE [x,y]=ie x++ie y:=by rw [show [x,y]=[x]++[y] from rfl,fY,cA,cA]
      rw [this,List.length_append]
      show _≤1+(bR x+(bR y+0))+1
      omega
    |_::_::_::_,a2,_,_=>simp at a2
    |[],a2,_,_=>simp at a2
def Et (K:Frag):Sp:=fun vs H Q _=>∃ (p dc q q':Addr) (ys ys':List Str),vs=[.ref p,.ref q,.ref q']/\Dr H p dc/\bM K H q (ys.map V.str)/\bM K H q' (ys'.map V.str)/\ys≠[]/\ys'≠[]/\ys.length≤100/\ys'.length≤100/\(∀ y∈ys,Nm y)/\(∀ y∈ys',Nm y)/\
 ∀ (x:V) (d:PyData) (H':Hp),Rep K H' x d->Tr 5 d->bN d=true->Dr H' p dc->d9 p H H'->Q x H'
noncomputable abbrev V1:List Str:=["_law_d","_law_names","_law_kinds","_law_test_here"]
theorem K7:aU V1 ["_law_d","_law_names","_law_kinds"] (aC (top 52)):=⟨rfl,rfl,rfl,by decide +kernel,rfl,by decide +kernel,by decide +kernel⟩
theorem Mv (F:gU K "_law_test" "_law_test" (top 52) f fd) (T:Txt K mg) (hsum:mg "sum" = none) (DP:cO K mg "_law_pick" (top 38) ["_law_d","_law_many"] fP fdP) (DO:cO K mg "_law_of" (top 39) ["_law_d","_law_things"] fO fdO) (DN:cO K mg "_law_number" (top 47) ["_law_d"] fN fdN)
 (DL:cO K mg "_law_leaf" (top 48) ["_law_d","_law_names","_law_kinds"] fL fdL) (DT:cO K mg "_law_tree" (top 49) ["_law_d","_law_deep_here","_law_names","_law_kinds"] fT fdT) (DA:cO K mg "_law_parts" (top 50) ["_law_test_here"] fA fdA):aR P w K mg base bQ 10 f fd ["_law_d","_law_names","_law_kinds"] (Et K):=by
 have GP:aR P w K mg base bQ 1 fP fdP ["_law_d","_law_many"] gj:=eQ DP.F T
 have GL:aR P w K mg base bQ 4 fL fdL ["_law_d","_law_names","_law_kinds"] (Bu K):=BZ DL.F T DP DO DN
 have GT:aR P w K mg base bQ 9 fT fdT ["_law_d","_law_deep_here","_law_names","_law_kinds"] (yQ K 5):=Kg DT T DP DO DN DL 4
 have GA:aR P w K mg base bQ 5 fA fdA ["_law_test_here"] (qj K bR 5):=zE DA hsum 5
 refine F.ok K7 (fun vs H Q E h=>?_) (fun cdv A outer s H vs Q E hr h=>?_)
 ·obtain ⟨p,dc,q,q',ys,ys',rfl,_⟩:=h
  rfl
 ·obtain ⟨p,dc,q,q',ys,ys',rfl,D,hq,hq',ne,ne',l,l',nm,nm',k⟩:=h
  have hr1:bF 1 _:=hr.mono (by decide)
  have hr4:bF 4 _:=hr.mono (by decide)
  have hr5:bF 5 _:=hr.mono (by decide)
  refine ⟨_,(au (bh (i:=3) K7.nd rfl (Or.inl rfl) (aD GT hr rfl DT.mg DT.F.kp DT.b .nil aN (aa (pv 0) (aa (aZ cW aq (aD GP hr1 rfl DP.mg DP.F.kp DP.b .nil aN (aa (pv 0) (aa aq aj)))) (aa (pv 1) (aa (pv 2) aj))))))
   (aB (aK (eZ (aH nR (aD GA hr5 rfl DA.mg DA.F.kp DA.b .nil aN (aa (pv 3) aj)) aq (aL _)) (pv 3) (bD (aa aF (aa (aD GL hr4 rfl DL.mg DL.F.kp DL.b .nil aN (aa (pv 0) (aa (pv 1) (aa (pv 2) aj)))) aj))))))),?_⟩
  refine ⟨_,rfl,_,rfl,p,dc,_,rfl,D,by decide,by decide,fun r H1 r0 r1 D1 b1=>⟨_,_,rfl,rfl,_,rfl,_,rfl,?_⟩⟩
  refine ⟨p,dc,q,q',ys,ys',1+r,rfl,by omega,D1,D.seq b1 hq,D.seq b1 hq',ne,ne',l,l',nm,nm',fun x d H2 rx tx D2 b2=>?_⟩
  have de:bz d≤5:=Nat.le_trans (mz tx.td tx.sh) tx.dp
  refine ⟨_,rfl,x,d,rfl,rx,tx.td,tx.sh,de,by decide,fun H3 s3=>⟨_,_,rfl,rfl,_,rfl,dM (fun h=>?_) (fun h=>?_)⟩⟩
  ·have h:bR d≤15:=by simp at h;omega
   exact ⟨_,rfl,k x d H3 (rx.same s3) tx (by unfold bN;rw [tx.sh,decide_eq_true de,decide_eq_true h];rfl) (D2.mono s3) ((b1.trans b2).trans s3.but)⟩
  ·have b3:=(b1.trans b2).trans (s3.but (p:=p))
   refine ⟨_,rfl,_,rfl,_,rfl,p,dc,q,q',ys,ys',rfl,D2.mono s3,D.seq b3 hq,D.seq b3 hq',ne,ne',l,l',nm,nm',fun y f r H4 ry lf D4 b4=>⟨(show 2≤sizeLine by decide),fun t ht=>?_⟩⟩
   have t1:Tr 2 (.tuple [.str "not",.tuple (.str f::r)]):=lf.tr.one
   refine k _ _ _ (.tup (b_.of ak) (.cons (.str _) (.cons (ry.same (aA.new ht)) .nil))) (t1.mono (by decide)) ?_ (D4.new ht) ((b3.trans b4).trans (d9.new ht))
   have e1:bz (.tuple [.str "not",.tuple (.str f::r)])=2:=by
    show (if (arity "not").isSome=true then 1+max (if (arity f).isSome=true then 1+d7 r else 1) 0 else 1)=2
    rw [lf.ar,show arity "not" = some 1 from by decide +kernel];rfl
   have e2:bR (.tuple [.str "not",.tuple (.str f::r)])=2:=by
    show (if (arity "not").isSome=true then 1+((if (arity f).isSome=true then 1+dJ r else 1)+0) else 1)=2
    rw [lf.ar,show arity "not" = some 1 from by decide +kernel];rfl
   unfold bN
   rw [t1.sh,e1,e2]
   rfl
noncomputable def gW (nm:Str) (fs:List fj) (zs:List Int) (f:Str) (r:List PyData):Bool:=
 if f = "all" then true else match r with
 |[.str x]=>decide (nm=x)
 |[.str x,.int i]=>if x∈fs.map (·.1) then (if f = "less" then decide (zs.getD ((fs.map (·.1)).idxOf x) 0<i) else decide (zs.getD ((fs.map (·.1)).idxOf x) 0=i)) else false
 |_=>false
noncomputable def bL (nm:Str) (fs:List fj) (zs:List Int):Nat->Str->List PyData->Bool
 |0,_,_=>false
 | n+1,f,r=>
   if f = "not" then (match r with
    |[.tuple (.str g::q)]=>!bL nm fs zs n g q
    |_=>false)
   else if f = "and" then (match r with
    |[.tuple (.str g::q),.tuple (.str h::p)]=>bL nm fs zs n g q && bL nm fs zs n h p
    |_=>false)
   else if f = "or" then (match r with
    |[.tuple (.str g::q),.tuple (.str h::p)]=>bL nm fs zs n g q || bL nm fs zs n h p
    |_=>false)
   else gW nm fs zs f r
structure MD (K:PySem.W.Frag) (C:Addr) (m qual:Str) (st:Stmt) (ps:List Str) (f:Addr) (fd:FuncData):Prop where
 M:Meth K C m f
 F:gU K m qual st f fd
 b:Binds K fd ps []
theorem Bb (n:Str) (a:Addr):(kf n a).lookup ("place_of" : Str)=none/\(kf n a).lookup ("need" : Str)=none:=⟨Cu n a (by decide +kernel) (by decide +kernel),Cu n a (by decide +kernel) (by decide +kernel)⟩
def Nt (K:Frag) (C:Addr):Sp:=fun vs H Q _=>∃ (q o a b:Addr) (f nm:Str) (r:List PyData) (fs:List fj) (zs:List Int),vs=[.ref q,.ref o,.ref b]/\Rep K H (.ref q) (.tuple (.str f::r))/\kW f r/\dj C H o nm a fs/\fs.length≤4/\H b=some (.tup (zs.map V.int))/\zs.length=fs.length/\
 ∀ H',aA H H'->Q (.bl (gW nm fs zs f r)) H'
noncomputable abbrev V9:List Str:=["leaf","kind","values","form","place"]
theorem yp:aU V9 ["leaf","kind","values"] (aC (top 32)):=⟨rfl,rfl,rfl,by decide +kernel,rfl,by decide +kernel,by decide +kernel⟩
theorem Ko (F:gU K "passes_leaf" "passes_leaf" (top 32) f fd) (KC:KCls K mg C) (MP:MD K C "place_of" "Kind.place_of" (kM 3) ["self","field"] fM fdM) (GM:aR P w K mg base bQ 1 fM fdM ["self","field"] (vd C)):aR P w K mg base bQ 2 f fd ["leaf","kind","values"] (Nt K C):=by
 refine F.ok yp (fun vs H Q E h=>?_) (fun cdv A outer s H vs Q E hr h=>?_)
 ·obtain ⟨q,o,a,b,f,nm,r,fs,zs,rfl,_⟩:=h
  rfl
 ·obtain ⟨q,o,a,b,f,nm,r,fs,zs,rfl,rq,lf,ka,fl,hb,zl,k⟩:=h
  refine ⟨_,(au (bh (i:=3) yp.nd rfl (Or.inl rfl) (aY aV (pv 0) aq (fun _ _=>rfl)))
   (au (bu (aH bx (pv 3) aF (aL _)) (aB (aK km)) aP)
   (au (bu (aH bx (pv 3) aF (aL _)) (aB (aK (bY bx (sZ (pv 1) rfl) (aY aV (pv 0) aq (fun _ _=>rfl)) (aL _)))) aP)
   (au (bh (i:=4) yp.nd rfl (Or.inl rfl) (A_ (E:=E0) (pv 1) KC.cl MP.M GM hr MP.b .nil aN (aa (aY aV (pv 0) aq (fun _ _=>rfl)) aj)))
   (au (bu (aH uB (pv 4) iZ (aL _)) (aB (aK km)) aP)
   (aB (aK (eZ (aH bx (pv 3) aF (aL _)) (bY nR (aY aV (pv 2) (pv 4) (fun _ _=>rfl)) (aY aV (pv 0) aq (fun _ _=>rfl)) (aL _)) (bY bx (aY aV (pv 2) (pv 4) (fun _ _=>rfl)) (aY aV (pv 0) aq (fun _ _=>rfl)) (aL _)))))))))),?_⟩
  have ka0:=ka
  obtain ⟨⟨dx,ho⟩,_⟩:=ka0
  cases rq with
  |@tup _ xs _ sq rs=>
  cases lf with
  | all=>
    obtain ⟨x0,rfl⟩:∃ x0,xs=[x0]:=by
     cases rs with|cons r1 r2=>cases r2;exact ⟨_,rfl⟩
    cases rs with|cons r1 r2=>
    cases r1
    exact ⟨_,rfl,q,_,_,_,rfl,rfl,sq,aG (j:=0) rfl,_,rfl,rfl,_,rfl,cI (by decide +kernel) (k _ (aA.refl _))⟩
  | @is x hx=>
    obtain ⟨x0,x1,rfl⟩:∃ x0 x1,xs=[x0,x1]:=by
     cases rs with|cons r1 r2=>cases r2 with|cons r2 r3=>cases r3;exact ⟨_,_,rfl⟩
    cases rs with|cons r1 r2=>
    cases r2 with|cons r2 r3=>
    cases r1
    cases r2
    refine ⟨_,rfl,q,_,_,_,rfl,rfl,sq,aG (j:=0) rfl,_,rfl,rfl,_,rfl,bZ (by decide +kernel) ⟨_,rfl,rfl,_,rfl,cI (by decide +kernel) ?_⟩⟩
    refine ⟨_,rfl,o,C,dx,_,_,rfl,ho,KC.cl,KC.nN,Ax nm a,_,rfl,q,_,_,_,rfl,rfl,sq,aG (j:=1) rfl,rfl,?_⟩
    have e:decide (V.str nm=V.str x)=gW nm fs zs "is" [.str x]:=by
     unfold gW
     rw [if_neg (by decide +kernel)]
     simp
    show Q (.bl (decide (V.str nm=V.str x))) H
    rw [e]
    exact k _ (aA.refl _)
  | @num f' x i hf hx hi=>
    obtain ⟨x0,x1,x2,rfl⟩:∃ x0 x1 x2,xs=[x0,x1,x2]:=by
     cases rs with|cons r1 r2=>cases r2 with|cons r2 r3=>cases r3 with|cons r3 r4=>cases r4;exact ⟨_,_,_,rfl⟩
    cases rs with|cons r1 r2=>
    cases r2 with|cons r2 r3=>
    cases r3 with|cons r3 r4=>
    cases r1
    cases r2
    cases r3
    have n1:decide (V.str f=V.str "all")=false:=by rcases hf with rfl|rfl <;> decide +kernel
    have n2:decide (V.str f=V.str "is")=false:=by rcases hf with rfl|rfl <;> decide +kernel
    have n3:¬ f = "all":=by rcases hf with rfl|rfl <;> decide +kernel
    refine ⟨_,rfl,q,_,_,_,rfl,rfl,sq,aG (j:=0) rfl,_,rfl,rfl,_,rfl,bZ n1 ⟨_,rfl,rfl,_,rfl,bZ n2 ?_⟩⟩
    refine ⟨_,rfl,o,dx,_,rfl,ho,(Bb nm a).1,_,rfl,q,_,_,_,rfl,rfl,sq,aG (j:=1) rfl,o,a,nm,x,fs,rfl,ka,fl,fun H1 s1=>?_⟩
    have sq1:=s1.tup sq
    have hb1:=s1 _ _ hb
    unfold gW at k
    rw [if_neg n3] at k
    unfold qp
    by_cases hin:x∈fs.map (·.1)
    ·rw [if_pos hin]
     have k:∀ H',aA H H'->Q (.bl (if f = "less" then decide (zs.getD ((fs.map (·.1)).idxOf x) 0<i) else decide (zs.getD ((fs.map (·.1)).idxOf x) 0=i))) H':=fun H' s'=>by
      have:=k H' s'
      dsimp only at this
      rw [if_pos hin] at this
      exact this
     have il:(fs.map (·.1)).idxOf x<zs.length:=by
      have:=List.idxOf_lt_length_iff.mpr hin
      rw [List.length_map] at this
      omega
     have eg:zs.getD ((fs.map (·.1)).idxOf x) 0=zs[(fs.map (·.1)).idxOf x]:=by simp [List.getD_eq_getElem?_getD,il]
     rw [eg] at k
     refine ⟨_,rfl,rfl,_,rfl,bZ (by simp) ?_⟩
     have at1:qe (zs.map V.int) (((fs.map (·.1)).idxOf x:Nat):Int)=some (.int zs[(fs.map (·.1)).idxOf x]):=aG (by rw [List.getElem?_map,List.getElem?_eq_getElem il];rfl)
     refine ⟨_,rfl,rfl,_,rfl,?_⟩
     rcases hf with rfl|rfl
     ·refine cI (by decide +kernel) ?_
      have:=k _ s1
      rw [if_pos rfl] at this
      exact ⟨_,rfl,_,rfl,b,_,_,_,rfl,rfl,b_.of hb1,at1,_,rfl,q,_,_,_,rfl,rfl,sq1,aG (j:=2) rfl,_,_,rfl,rfl,this⟩
     ·refine bZ (by decide +kernel) ?_
      have:=k _ s1
      rw [if_neg (by decide +kernel)] at this
      refine ⟨_,rfl,_,rfl,b,_,_,_,rfl,rfl,b_.of hb1,at1,_,rfl,q,_,_,_,rfl,rfl,sq1,aG (j:=2) rfl,rfl,?_⟩
      have e:decide (V.int zs[(fs.map (·.1)).idxOf x]=V.int i)=decide (zs[(fs.map (·.1)).idxOf x]=i):=by simp
      rw [e]
      exact this
    ·rw [if_neg hin]
     have k:∀ H',aA H H'->Q (.bl false) H':=fun H' s'=>by
      have:=k H' s'
      dsimp only at this
      rw [if_neg hin] at this
      exact this
     exact ⟨_,rfl,rfl,_,rfl,cI (by decide +kernel) (k _ s1)⟩
noncomputable def jO (nm:Str) (fs:List fj) (zs:List Int):PyData->Bool
 |.tuple (.str f::r)=>bL nm fs zs 5 f r
 |_=>false
theorem pJ (N:Node n f r) (tr:∀ d∈r,TD d):(f = "not"/\∃ g q,r=[.tuple (.str g::q)])∨((f = "and"∨f = "or")/\∃ g q h p,r=[.tuple (.str g::q),.tuple (.str h::p)]):=by
 have ar:=N.ar
 unfold arity at ar
 by_cases h1:f = "not"
 ·rw [if_pos h1] at ar
  injection ar with ar
  left
  refine ⟨h1,?_⟩
  match r,ar,N,tr with
  | [x],_,N,tr=>
    obtain ⟨g,q,rfl⟩:=bV (tr x (by simp)) (N.sh x (by simp))
    exact ⟨g,q,rfl⟩
 ·rw [if_neg h1] at ar
  right
  have two:∀ {r:List PyData},2=r.length->(∀ d∈r,TD d)->(∀ d∈r,bB d=true)->∃ g q h p,r=[.tuple (.str g::q),.tuple (.str h::p)]:=by
   intro r e t s
   match r,e,t,s with
   | [x,y],_,t,s=>
     obtain ⟨g,q,rfl⟩:=bV (t x (by simp)) (s x (by simp))
     obtain ⟨h,p,rfl⟩:=bV (t y (by simp)) (s y (by simp))
     exact ⟨g,q,h,p,rfl⟩
  by_cases h2:f = "and"
  ·rw [if_pos h2] at ar
   injection ar with ar
   exact ⟨.inl h2,two ar tr N.sh⟩
  ·rw [if_neg h2] at ar
   by_cases h3:f = "or"
   ·rw [if_pos h3] at ar
    injection ar with ar
    exact ⟨.inr h3,two ar tr N.sh⟩
   ·rw [if_neg h3] at ar
    cases ar
theorem p7 (h:arity f=none):¬ f = "not"/\¬ f = "and"/\¬ f = "or":=by
 unfold arity at h
 refine ⟨fun z=>?_,fun z=>?_,fun z=>?_⟩
 ·rw [if_pos z] at h;cases h
 ·by_cases h1:f = "not"
  ·rw [if_pos h1] at h;cases h
  ·rw [if_neg h1,if_pos z] at h;cases h
 ·by_cases h1:f = "not"
  ·rw [if_pos h1] at h;cases h
  ·rw [if_neg h1] at h
   by_cases h2:f = "and"
   ·rw [if_pos h2] at h;cases h
   ·rw [if_neg h2,if_pos z] at h;cases h
theorem gC (h:¬ f=g):decide (V.str f=V.str g)=false:=by
 rw [decide_eq_false_iff_not,V.str.injEq];exact h
section
variable {P:Program} {w:World} {K:PySem.W.Frag} {mg:Str->Option Value} {base:Heap}
structure Ha (K:Frag) (C:Addr) (n:Nat) (H:Hp) (q o a b:Addr) (f nm:Str) (r:List PyData) (fs:List fj) (zs:List Int):Prop where
 rq:Rep K H (.ref q) (.tuple (.str f::r))
 td:TD (.tuple (.str f::r))
 sh:bB (.tuple (.str f::r))=true
 de:bz (.tuple (.str f::r))≤n
 ka:dj C H o nm a fs
 fl:fs.length≤4
 hb:H b=some (.tup (zs.map V.int))
 zl:zs.length=fs.length
def GJ (K:Frag) (C:Addr) (n:Nat):Sp:=fun vs H Q _=>∃ (q o a b:Addr) (f nm:Str) (r:List PyData) (fs:List fj) (zs:List Int),vs=[.ref q,.ref o,.ref b]/\Ha K C n H q o a b f nm r fs zs/\∀ H',aA H H'->Q (.bl (bL nm fs zs n f r)) H'
noncomputable abbrev Ur:List Str:=["test","kind","values","form"]
theorem K_:aU Ur ["test","kind","values"] (aC (top 31)):=⟨rfl,rfl,rfl,by decide +kernel,rfl,by decide +kernel,by decide +kernel⟩
theorem JF (DP:cO K mg "passes" (top 31) ["test","kind","values"] f fd) (DL:cO K mg "passes_leaf" (top 32) ["leaf","kind","values"] fL fdL) (GL:aR P w K mg base bQ 2 fL fdL ["leaf","kind","values"] (Nt K C)) (n:Nat):aR P w K mg base bQ (n+2) f fd ["test","kind","values"] (GJ K C n):=by
 refine Nat.rec (motive:=fun n=>aR P w K mg base bQ (n+2) f fd ["test","kind","values"] (GJ K C n)) ⟨fun _ _ _ _ h=>?_,fun _ _ _ _ _ _ _ _ _ _ _ _ _ h=>?_⟩ (fun n GP=>?_) n
 ·obtain ⟨q,o,a,b,f,nm,r,fs,zs,_,h,_⟩:=h
  exact absurd (Nat.le_trans (cJ _) h.de) (by decide)
 ·obtain ⟨q,o,a,b,f,nm,r,fs,zs,_,h,_⟩:=h
  exact absurd (Nat.le_trans (cJ _) h.de) (by decide)
 refine DP.F.ok K_ (fun vs H Q E h=>?_) (fun cdv A outer s H vs Q E hr h=>?_)
 ·obtain ⟨q,o,a,b,f,nm,r,fs,zs,rfl,_⟩:=h
  rfl
 ·obtain ⟨q,o,a,b,f,nm,r,fs,zs,rfl,h,k⟩:=h
  have hr2:bF 2 _:=hr.mono (show 2≤n+2 by omega)
  refine ⟨_,(au (bh (i:=3) K_.nd rfl (Or.inl rfl) (aY aV (pv 0) aq (fun _ _=>rfl)))
   (au (bu (aH bx (pv 3) aF (aL _)) (aB (aK (uP (aD GP hr rfl DP.mg DP.F.kp DP.b .nil aN (aa (aY aV (pv 0) aq (fun _ _=>rfl)) (aa (pv 1) (aa (pv 2) aj))))))) aP)
   (au (bu (aH bx (pv 3) aF (aL _)) (aB (aK (cC (aD GP hr rfl DP.mg DP.F.kp DP.b .nil aN (aa (aY aV (pv 0) aq (fun _ _=>rfl)) (aa (pv 1) (aa (pv 2) aj)))) (dD (aD GP hr rfl DP.mg DP.F.kp DP.b .nil aN (aa (aY aV (pv 0) aq (fun _ _=>rfl)) (aa (pv 1) (aa (pv 2) aj)))))))) aP)
   (au (bu (aH bx (pv 3) aF (aL _)) (aB (aK (Lz (aD GP hr rfl DP.mg DP.F.kp DP.b .nil aN (aa (aY aV (pv 0) aq (fun _ _=>rfl)) (aa (pv 1) (aa (pv 2) aj)))) (dD (aD GP hr rfl DP.mg DP.F.kp DP.b .nil aN (aa (aY aV (pv 0) aq (fun _ _=>rfl)) (aa (pv 1) (aa (pv 2) aj)))))))) aP)
   (aB (aK (aD GL hr2 rfl DL.mg DL.F.kp DL.b .nil aN (aa (pv 0) (aa (pv 1) (aa (pv 2) aj)))))))))),?_⟩
  obtain ⟨rq,td,sh,de,ka,fl,hb,zl⟩:=h
  have rq0:=rq
  cases td with
  |node af lf nr tr=>
  cases rq with
  |@tup _ xs _ sq rs=>
  obtain ⟨x0,ys,rfl⟩:∃ x0 ys,xs=x0::ys:=by cases rs;exact ⟨_,_,rfl⟩
  obtain ⟨r0,rt⟩:Rep K H x0 (.str f)/\bK K H ys r:=by cases rs with|cons a b=>exact ⟨a,b⟩
  cases r0
  refine ⟨_,rfl,q,_,_,_,rfl,rfl,sq,aG (j:=0) rfl,_,rfl,rfl,_,rfl,?_⟩
  unfold bL at k
  rcases dR sh de with ⟨ha,hlf⟩|N
  ·obtain ⟨n1,n2,n3⟩:=p7 ha
   rw [if_neg n1,if_neg n2,if_neg n3] at k
   refine bZ (gC n1) ⟨_,rfl,rfl,_,rfl,bZ (gC n2) ⟨_,rfl,rfl,_,rfl,bZ (gC n3) ?_⟩⟩
   exact ⟨_,rfl,_,rfl,_,rfl,q,o,a,b,f,nm,r,fs,zs,rfl,rq0,lY hlf,ka,fl,hb,zl,k⟩
  ·rcases pJ N tr with ⟨rfl,g,u,rfl⟩|⟨hf,g,u,h,v,rfl⟩
   ·rw [if_pos rfl] at k
    cases rt with
    |@cons y1 _ y2 _ r1 r2=>
    cases r2
    cases r1 with
    |@tup q1 z1 _ s1 t1=>
    refine cI (by decide +kernel) ⟨_,rfl,q,_,_,_,rfl,rfl,sq,aG (j:=1) rfl,_,rfl,_,rfl,q1,o,a,b,g,nm,u,fs,zs,rfl,⟨.tup s1 t1,tr _ (by simp),N.sh _ (by simp),N.de _ (by simp),ka,fl,hb,zl⟩,fun H1 e1=>⟨_,rfl,k H1 e1⟩⟩
   ·cases rt with
    |@cons y1 _ y2 _ r1 r2=>
    cases r2 with
    |@cons y3 _ y4 _ r2 r3=>
    cases r3
    cases r1 with
    |@tup q1 z1 _ s1 t1=>
    cases r2 with
    |@tup q2 z2 _ s2 t2=>
    have i1:∀ {H1},aA H H1->Ha K C n H1 q1 o a b g nm u fs zs:=fun e=>⟨.tup (e.tup s1) (t1.same e),tr _ (by simp),N.sh _ (by simp),N.de _ (by simp),ka.same e,fl,e _ _ hb,zl⟩
    have i2:∀ {H1},aA H H1->Ha K C n H1 q2 o a b h nm v fs zs:=fun e=>⟨.tup (e.tup s2) (t2.same e),tr _ (by simp),N.sh _ (by simp),N.de _ (by simp),ka.same e,fl,e _ _ hb,zl⟩
    rcases hf with rfl|rfl
    ·rw [if_neg (by decide +kernel),if_pos rfl] at k
     refine bZ (by decide +kernel) ⟨_,rfl,rfl,_,rfl,cI (by decide +kernel) ?_⟩
     refine ⟨_,rfl,q,_,_,_,rfl,rfl,sq,aG (j:=1) rfl,_,rfl,_,rfl,q1,o,a,b,g,nm,u,fs,zs,rfl,i1 (aA.refl _),fun H1 e1=>⟨_,rfl,?_⟩⟩
     dsimp only at k
     cases hp:bL nm fs zs n g u with
     |false=>rw [hp,Bool.false_and] at k;exact bZ rfl (k _ e1)
     | true=>
       rw [hp,Bool.true_and] at k
       exact cI rfl ⟨_,rfl,q,_,_,_,rfl,rfl,e1.tup sq,aG (j:=2) rfl,_,rfl,_,rfl,q2,o,a,b,h,nm,v,fs,zs,rfl,i2 e1,fun H2 e2=>k _ (e1.trans e2)⟩
    ·rw [if_neg (by decide +kernel),if_neg (by decide +kernel),if_pos rfl] at k
     refine bZ (by decide +kernel) ⟨_,rfl,rfl,_,rfl,bZ (by decide +kernel) ⟨_,rfl,rfl,_,rfl,cI (by decide +kernel) ?_⟩⟩
     refine ⟨_,rfl,q,_,_,_,rfl,rfl,sq,aG (j:=1) rfl,_,rfl,_,rfl,q1,o,a,b,g,nm,u,fs,zs,rfl,i1 (aA.refl _),fun H1 e1=>⟨_,rfl,?_⟩⟩
     dsimp only at k
     cases hp:bL nm fs zs n g u with
     |true=>rw [hp,Bool.true_or] at k;exact cI rfl (k _ e1)
     | false=>
       rw [hp,Bool.false_or] at k
       exact bZ rfl ⟨_,rfl,q,_,_,_,rfl,rfl,e1.tup sq,aG (j:=2) rfl,_,rfl,_,rfl,q2,o,a,b,h,nm,v,fs,zs,rfl,i2 e1,fun H2 e2=>k _ (e1.trans e2)⟩
end
noncomputable def eO (x:Str) (ns:List Str) (n:Nat):List Nat:=(List.range n).filter fun i=>decide (ns[i]?=some x)
theorem uD (x y:Str) (t:List Str):eO x (y::t) (t.length+1)=(if y=x then [0] else [])++(eO x t t.length).map Nat.succ:=by
 unfold eO
 rw [List.range_succ_eq_map,List.filter_cons,List.filter_map]
 have e:((fun i=>decide ((y::t)[i]?=some x)) ∘ Nat.succ)=fun i=>decide (t[i]?=some x):=by
  funext i
  simp
 rw [e]
 by_cases h:y=x
 ·simp [h]
 ·simp [h]
theorem sI (x:Str):∀ ns:List Str,(x∉ns->eO x ns ns.length=[])/\(x∈ns->∃ r,eO x ns ns.length=ns.idxOf x::r)
 |[]=>⟨fun _=>rfl,fun h=>by simp at h⟩
 | y::t=>by
   obtain ⟨ih1,ih2⟩:=sI x t
   rw [List.length_cons,uD]
   refine ⟨fun h=>?_,fun h=>?_⟩
   ·simp at h
    rw [if_neg (fun z=>h.1 z.symm),ih1 h.2]
    rfl
   ·by_cases e:y=x
    ·rw [if_pos e]
     exact ⟨_,by rw [List.idxOf_cons,show (y == x)=true from by simp [e]];rfl⟩
    ·rw [if_neg e]
     have hm:x∈t:=by
      rcases List.mem_cons.mp h with z|z
      ·exact absurd z.symm e
      ·exact z
     obtain ⟨r,er⟩:=ih2 hm
     refine ⟨r.map Nat.succ,?_⟩
     rw [er,List.idxOf_cons,show (y == x)=false from by simp [e]]
     rfl
section
variable {P:Program} {w:World} {K:PySem.W.Frag} {mg:Str->Option Value} {base:Heap}
structure Kr (K:Frag) (n:Nat) (H:Hp) (q a b:Addr) (f:Str) (r:List PyData) (xs:List V) (fs:List fj) (zs:List Int):Prop where
 rq:Rep K H (.ref q) (.tuple (.str f::r))
 td:TD (.tuple (.str f::r))
 sh:bB (.tuple (.str f::r))=true
 de:bz (.tuple (.str f::r))≤n
 ha:H a=some (.tup xs)
 pf:Paired (gk H) xs fs
 fl:fs.length≤4
 hb:H b=some (.tup (zs.map V.int))
 zl:zs.length=fs.length
def Gr (K:Frag) (n:Nat):Sp:=fun vs H Q _=>∃ (q a b:Addr) (f nm:Str) (r:List PyData) (xs:List V) (fs:List fj) (zs:List Int),vs=[.ref q,.str nm,.ref a,.ref b]/\Kr K n H q a b f r xs fs zs/\∀ H',aA H H'->Q (.bl (bL nm fs zs n f r)) H'
noncomputable abbrev Ho:List Str:=["_law_test_here","_law_title","_law_fields","_law_values"]
noncomputable abbrev Q8:List Str:=["_law_test_here","_law_title","_law_fields","_law_values","_law_both","_law_spots"]
theorem Fz:aU Q8 Ho (aC (top 57)):=⟨rfl,rfl,rfl,by decide +kernel,rfl,by decide +kernel,by decide +kernel⟩
theorem MN (DL:cO K mg "_law_passes" (top 57) Ho f fd) (T:Txt K mg) (n:Nat):aR P w K mg base bQ n f fd Ho (Gr K n):=by
 refine Nat.rec (motive:=fun n=>aR P w K mg base bQ n f fd Ho (Gr K n)) ⟨fun _ _ _ _ h=>?_,fun _ _ _ _ _ _ _ _ _ _ _ _ _ h=>?_⟩ (fun n GL=>?_) n
 ·obtain ⟨q,a,b,f,nm,r,xs,fs,zs,_,h,_⟩:=h
  exact absurd (Nat.le_trans (cJ _) h.de) (by decide)
 ·obtain ⟨q,a,b,f,nm,r,xs,fs,zs,_,h,_⟩:=h
  exact absurd (Nat.le_trans (cJ _) h.de) (by decide)
 refine DL.F.ok Fz (fun vs H Q E h=>?_) (fun cdv A outer s H vs Q E hr h=>?_)
 ·obtain ⟨q,a,b,f,nm,r,xs,fs,zs,rfl,_⟩:=h
  rfl
 ·obtain ⟨q,a,b,f,nm,r,xs,fs,zs,rfl,h,k⟩:=h
  refine ⟨_,(au (bu (aH bx (aY aV (pv 0) aq (fun _ _=>rfl)) aF (aL _)) (aB (aK (uP (aD GL hr rfl DL.mg DL.F.kp DL.b .nil aN (aa (aY aV (pv 0) aq (fun _ _=>rfl)) (aa (pv 1) (aa (pv 2) (aa (pv 3) aj)))))))) aP)
   (au (bu (aH fK (aY aV (pv 0) aq (fun _ _=>rfl)) (bD (aa aF (aa aF aj))) rfl) (au
    (fX (g:=bH 0) (i:=4) (own:=["_law_part"]) (js:=[2,1,3]) (N':=["_law_part","_law_fields","_law_title","_law_values"]) (bw.of (osc:=aC (top 57)) (N:=Q8) rfl rfl ⟨rfl,by decide +kernel,by decide +kernel,by decide +kernel,rfl,by decide +kernel⟩) rfl Fz.nd rfl rfl (gR (cj dU (pv 0) (cL aq) cN)) (fun _ _ _ _ _=>(bj (i:=0) (show List.Nodup (["_law_part","_law_fields","_law_title","_law_values"]:List Str) by decide +kernel) rfl (Or.inl rfl) (Or.inr rfl))) (fun _ _ _ _ _=>cZ) (fun _ _ _ _ _=>aD GL hr rfl DL.mg DL.F.kp DL.b .nil aN (aa (pv 0) (aa (pv 2) (aa (pv 1) (aa (pv 3) aj))))))
    (aB (aK (eZ (aH bx (aY aV (pv 0) aq (fun _ _=>rfl)) aF (aL _)) (aM (kZ rfl) (by rfl) T.all uL (aa (pv 4) aj)) (aM (vX rfl) (by rfl) T.any GQ (aa (pv 4) aj)))))) aP)
   (au (bu (aH bx (aY aV (pv 0) aq (fun _ _=>rfl)) aF (aL _)) (aB (aK km)) aP)
   (au (bu (aH bx (aY aV (pv 0) aq (fun _ _=>rfl)) aF (aL _)) (aB (aK (bY bx (pv 1) (aY aV (pv 0) aq (fun _ _=>rfl)) (aL _)))) aP)
   (au (fX (g:=bH 0) (i:=5) (own:=["_law_at"]) (js:=[2,0]) (N':=["_law_at","_law_fields","_law_test_here"]) (bw.of (osc:=aC (top 57)) (N:=Q8) rfl rfl ⟨rfl,by decide +kernel,by decide +kernel,by decide +kernel,rfl,by decide +kernel⟩) rfl Fz.nd rfl rfl (fU rfl T.range (aa (aM a_ (by rfl) T.len cF (aa (pv 2) aj)) aj)) (fun _ _ _ _ _=>(bj (i:=0) (show List.Nodup (["_law_at","_law_fields","_law_test_here"]:List Str) by decide +kernel) rfl (Or.inl rfl) (Or.inr rfl))) (fun _ _ _ _ _=>m_ (aH (r:=U4) bx (aY (r:=xg K) aV (aY (r:=xg K) aV (pv 1) (pv 0) (fun _ _=>rfl)) aq (fun _ _=>rfl)) (aY (r:=xg K) aV (pv 2) aq (fun _ _=>rfl)) (aL _))) (fun _ _ _ _ _=>pv 0))
   (au (bu (aH bx (aM a_ (by rfl) T.len cF (aa (pv 5) aj)) aq (aL _)) (aB (aK km)) aP)
   (aB (aK (eZ (aH bx (aY aV (pv 0) aq (fun _ _=>rfl)) aF (aL _)) (bY nR (aY aV (pv 3) (aY dG (pv 5) aq (fun _ _=>rfl)) (fun _ _=>rfl)) (aY aV (pv 0) aq (fun _ _=>rfl)) (aL _)) (bY bx (aY aV (pv 3) (aY dG (pv 5) aq (fun _ _=>rfl)) (fun _ _=>rfl)) (aY aV (pv 0) aq (fun _ _=>rfl)) (aL _))))))))))),?_⟩
  obtain ⟨rq,td,sh,de,ha,pf,fl,hb,zl⟩:=h
  have rq0:=rq
  have pl:=Paired.length pf
  cases td with
  |node af lf nr tr=>
  cases rq with
  |@tup _ qs _ sq rs=>
  obtain ⟨x0,ys,rfl⟩:∃ x0 ys,qs=x0::ys:=by cases rs;exact ⟨_,_,rfl⟩
  obtain ⟨r0,rt⟩:Rep K H x0 (.str f)/\bK K H ys r:=by cases rs with|cons a b=>exact ⟨a,b⟩
  cases r0
  have hl:=rt.length
  refine ⟨_,rfl,q,_,_,_,rfl,rfl,sq,aG (j:=0) rfl,rfl,_,rfl,?_⟩
  unfold bL at k
  have ins:∀ {n':Nat} {g:Str} {u:List PyData} {y:V} {H1:Hp},aA H H1->Rep K H y (.tuple (.str g::u))->TD (.tuple (.str g::u))->bB (.tuple (.str g::u))=true->bz (.tuple (.str g::u))≤n'->∃ q1,y=.ref q1/\Kr K n' H1 q1 a b g u xs fs zs:=by
   intro n' g u y H1 e ry t s d
   cases ry with
   |@tup q1 z1 _ s1 t1=>exact ⟨q1,rfl,.tup (e.tup s1) (t1.same e),t,s,d,e _ _ ha,cY pf fun _ _ z=>e _ _ z,fl,e _ _ hb,zl⟩
  rcases dR sh de with ⟨hna,hlf⟩|N
  ·obtain ⟨n1,n2,n3⟩:=p7 hna
   rw [if_neg n1,if_neg n2,if_neg n3] at k
   refine bZ (gC n1) ⟨_,rfl,q,_,_,_,rfl,rfl,sq,aG (j:=0) rfl,(show 2≤sizeLine by decide),fun t ht=>?_⟩
   have s0:aA H (upd H t (.tup [.str "and",.str "or"])):=aA.new ht
   refine ⟨t,_,rfl,.inr (b_.of ak),rfl,rfl,_,rfl,?_⟩
   rw [Bq]
   generalize upd H t (.tup [.str "and",.str "or"])=H0 at s0 ⊢
   have sq0:=s0.tup sq
   refine bZ (decide_eq_false fun z=>z.elim n2 n3) ⟨_,rfl,q,_,_,_,rfl,rfl,sq0,aG (j:=0) rfl,rfl,_,rfl,?_⟩
   have lf:=lY hlf
   cases lf with
   |all=>exact cI (by decide +kernel) (k _ s0)
   | @is x hx=>
     cases rt with|@cons y1 _ y2 _ r1 r2=>
     cases r2
     cases r1
     refine bZ (by decide +kernel) ⟨_,rfl,q,_,_,_,rfl,rfl,sq0,aG (j:=0) rfl,rfl,_,rfl,cI (by decide +kernel) ?_⟩
     refine ⟨_,rfl,_,rfl,q,_,_,_,rfl,rfl,sq0,aG (j:=1) rfl,rfl,?_⟩
     have e:decide (V.str nm=V.str x)=gW nm fs zs "is" [.str x]:=by
      unfold gW
      rw [if_neg (by decide +kernel)]
      simp
     show Q (.bl (decide (V.str nm=V.str x))) H0
     rw [e]
     exact k _ s0
   | @num f' x i hf hx hi=>
     cases rt with|@cons y1 _ y2 _ r1 r2=>
     cases r2 with|@cons y3 _ y4 _ r2 r3=>
     cases r3
     cases r1
     cases r2
     have m1:decide (V.str f=V.str "all")=false:=by rcases hf with rfl|rfl <;> decide +kernel
     have m2:decide (V.str f=V.str "is")=false:=by rcases hf with rfl|rfl <;> decide +kernel
     have m3:¬ f = "all":=by rcases hf with rfl|rfl <;> decide +kernel
     unfold gW at k
     rw [if_neg m3] at k
     dsimp only at k
     have ha0:=s0 _ _ ha
     have big:200000≤sizeLine:=by decide
     refine bZ m1 ⟨_,rfl,q,_,_,_,rfl,rfl,sq0,aG (j:=0) rfl,rfl,_,rfl,bZ m2 ?_⟩
     refine ⟨_,rfl,a,xs,rfl,.inr (b_.of ha0),(xs.length:Int),rfl,by omega,by omega,?_⟩
     refine rC (lo:=0) (n:=xs.length) (fun j ws σ' H'=>(∃ v,σ'=[v,some (.ref a),some (.ref q)])/\H'=H0/\ws=(eO x (fs.map (·.1)) j).map fun j=>V.int (j:Nat)) (by omega) ⟨⟨none,rfl⟩,rfl,rfl⟩ ?_ ?_
     ·rintro j ws σ' H' hj ⟨⟨v,rfl⟩,rfl,rfl⟩ N hN
      rw [show (0:Int)+(j:Int)=((j:Nat):Int) from Int.zero_add _]
      have hxj:=List.getElem?_eq_getElem hj
      obtain ⟨⟨fn,flo,fhi⟩,hfj,b',e',hb'⟩:=cH pf hxj
      have hb0:=s0 _ _ hb'
      refine ⟨_,rfl,_,rfl,a,_,_,xs[j],rfl,rfl,b_.of ha0,aG hxj,b',_,_,_,e',rfl,b_.of hb0,aG (j:=0) rfl,_,rfl,q,_,_,_,rfl,rfl,sq0,aG (j:=1) rfl,rfl,_,rfl,?_⟩
      have cd:decide (V.str fn=V.str x)=decide ((fs.map (·.1))[j]?=some x):=by
       rw [List.getElem?_map,hfj]
       simp
      have e1:eO x (fs.map (·.1)) (j+1)=eO x (fs.map (·.1)) j++(if decide ((fs.map (·.1))[j]?=some x)=true then [j] else []):=by
       unfold eO
       rw [List.range_succ,List.filter_append,List.filter_cons,List.filter_nil]
      refine (show (if decide (V.str fn=V.str x)=true then _ else _) from ?_)
      rw [cd]
      cases hd:decide ((fs.map (·.1))[j]?=some x) with
      | true=>
        rw [hd] at e1
        exact cI rfl ⟨_,rfl,hN _ _ _ ⟨⟨_,rfl⟩,rfl,by rw [e1];simp⟩ (by simp)⟩
      | false=>
        rw [hd] at e1
        exact bZ rfl (hN _ _ _ ⟨⟨_,rfl⟩,rfl,by rw [e1];simp⟩ (by simp))
     ·rintro ws σ' H' hw ⟨⟨v,rfl⟩,rfl,rfl⟩
      rw [show xs.length=(fs.map (·.1)).length by rw [List.length_map];exact pl] at hw ⊢
      refine ⟨Nat.le_trans hw (by rw [List.length_map];omega),fun p hp=>?_⟩
      obtain ⟨o1,o2⟩:=sI x (fs.map (·.1))
      have s1:aA H' (upd H' p (.lst ((eO x (fs.map (·.1)) (fs.map (·.1)).length).map fun j=>V.int (j:Nat)))):=aA.new hp
      have hp1:(upd H' p (.lst ((eO x (fs.map (·.1)) (fs.map (·.1)).length).map fun j=>V.int (j:Nat)))) p=some (.lst ((eO x (fs.map (·.1)) (fs.map (·.1)).length).map fun j=>V.int (j:Nat))):=ak
      generalize upd H' p (.lst ((eO x (fs.map (·.1)) (fs.map (·.1)).length).map fun j=>V.int (j:Nat)))=H1 at s1 hp1 ⊢
      have S1:=s0.trans s1
      have sq1:=S1.tup sq
      have hb1:=S1 _ _ hb
      by_cases hin:x∈fs.map (·.1)
      ·obtain ⟨rest,er⟩:=o2 hin
       rw [er,List.map_cons] at hp1
       rw [if_pos hin] at k
       have il:(fs.map (·.1)).idxOf x<zs.length:=by
        have:=List.idxOf_lt_length_iff.mpr hin
        rw [List.length_map] at this
        omega
       have eg:zs.getD ((fs.map (·.1)).idxOf x) 0=zs[(fs.map (·.1)).idxOf x]:=by simp [List.getD_eq_getElem?_getD,il]
       rw [eg] at k
       have at1:qe (zs.map V.int) (((fs.map (·.1)).idxOf x:Nat):Int)=some (.int zs[(fs.map (·.1)).idxOf x]):=aG (by rw [List.getElem?_map,List.getElem?_eq_getElem il];rfl)
       refine ⟨_,rfl,p,_,rfl,.inl (bM.of hp1),rfl,_,rfl,bZ (by simp;omega) ?_⟩
       refine ⟨_,rfl,q,_,_,_,rfl,rfl,sq1,aG (j:=0) rfl,rfl,_,rfl,?_⟩
       rcases hf with rfl|rfl
       ·refine cI (by decide +kernel) ?_
        have:=k _ S1
        rw [if_pos rfl] at this
        exact ⟨_,rfl,_,rfl,p,_,_,_,rfl,rfl,bM.of hp1,aG (j:=0) rfl,b,_,_,_,rfl,rfl,b_.of hb1,at1,_,rfl,q,_,_,_,rfl,rfl,sq1,aG (j:=2) rfl,_,_,rfl,rfl,this⟩
       ·refine bZ (by decide +kernel) ?_
        have:=k _ S1
        rw [if_neg (by decide +kernel)] at this
        refine ⟨_,rfl,_,rfl,p,_,_,_,rfl,rfl,bM.of hp1,aG (j:=0) rfl,b,_,_,_,rfl,rfl,b_.of hb1,at1,_,rfl,q,_,_,_,rfl,rfl,sq1,aG (j:=2) rfl,rfl,?_⟩
        have e:decide (V.int zs[(fs.map (·.1)).idxOf x]=V.int i)=decide (zs[(fs.map (·.1)).idxOf x]=i):=by simp
        rw [e]
        exact this
      ·rw [o1 hin,List.map_nil] at hp1
       rw [if_neg hin] at k
       exact ⟨_,rfl,p,_,rfl,.inl (bM.of hp1),rfl,_,rfl,cI (by decide +kernel) (k _ S1)⟩
  ·rcases pJ N tr with ⟨rfl,g,u,rfl⟩|⟨hf,g,u,h,v,rfl⟩
   ·rw [if_pos rfl] at k
    cases rt with
    |@cons y1 _ y2 _ r1 r2=>
    cases r2
    obtain ⟨q1,rfl,i1⟩:=ins (aA.refl _) r1 (tr _ (by simp)) (N.sh _ (by simp)) (N.de _ (by simp))
    exact cI (by decide +kernel) ⟨_,rfl,q,_,_,_,rfl,rfl,sq,aG (j:=1) rfl,_,rfl,_,rfl,_,rfl,q1,a,b,g,nm,u,xs,fs,zs,rfl,i1,fun H1 e1=>⟨_,rfl,k H1 e1⟩⟩
   ·have n1:¬ f = "not":=by rcases hf with rfl|rfl <;> decide +kernel
    refine bZ (gC n1) ⟨_,rfl,q,_,_,_,rfl,rfl,sq,aG (j:=0) rfl,(show 2≤sizeLine by decide),fun t ht=>?_⟩
    have s0:aA H (upd H t (.tup [.str "and",.str "or"])):=aA.new ht
    refine ⟨t,_,rfl,.inr (b_.of ak),rfl,rfl,_,rfl,?_⟩
    rw [Bq]
    generalize upd H t (.tup [.str "and",.str "or"])=H0 at s0 ⊢
    have sq0:=s0.tup sq
    refine cI (decide_eq_true hf) ⟨_,rfl,1,rfl,q,_,rfl,sq0,(fun e=>?_),fun p hp=>?_⟩
    ·rw [nY] at e
     have:=congrArg List.length e
     simp at this
    rw [nY]
    have sp:b_ K (upd H0 p (.tup ys)) p ys:=b_.of ak
    have s1:aA H0 (upd H0 p (.tup ys)):=aA.new hp
    generalize upd H0 p (.tup ys)=H1 at sp s1 ⊢
    refine ⟨p,rfl,⟨_,sp⟩,?_⟩
    refine iw (K:=K) (a:=p) (xs:=ys) (fun i ws σ' H'=>(∃ v,σ'=[v,some (.ref a),some (.str nm),some (.ref b)])/\aA H1 H'/\ws=(([bL nm fs zs n g u,bL nm fs zs n h v].take i).map V.bl)) (Nat.le_trans (show ys.length≤2 by rw [hl];simp) (by decide)) ⟨⟨none,rfl⟩,aA.refl _,rfl⟩ (fun i ws σ' H' _ ⟨_,s2,_⟩=>s2.tup sp) ?_ ?_
    ·rintro i y ws σ' H2 hy hws ⟨⟨v',rfl⟩,s2,rfl⟩ N' hN
     obtain ⟨d,hd,ry⟩:=rt.get' hy
     have me:=List.mem_of_getElem? hd
     have il:i<2:=(List.getElem?_eq_some_iff.mp hd).1
     obtain ⟨g',u',rfl,hi⟩:∃ g' u',d=.tuple (.str g'::u')/\([bL nm fs zs n g u,bL nm fs zs n h v]:List Bool)[i]?=some (bL nm fs zs n g' u'):=by
      match i,il,hd with
      |0,_,hd=>exact ⟨g,u,by simpa using hd.symm,rfl⟩
      |1,_,hd=>exact ⟨h,v,by simpa using hd.symm,rfl⟩
     obtain ⟨q1,rfl,i1⟩:=ins ((s0.trans s1).trans s2) ry (tr _ me) (N.sh _ me) (N.de _ me)
     refine ⟨_,rfl,_,rfl,_,rfl,_,rfl,q1,a,b,g',nm,u',xs,fs,zs,rfl,i1,fun H3 s3=>?_⟩
     exact hN _ _ _ (by rw [List.length_append,hws];rfl) ⟨⟨_,rfl⟩,s2.trans s3,by rw [List.take_add_one,hi];simp⟩
    ·rintro ws σ' H2 hws ⟨⟨v',rfl⟩,s2,rfl⟩
     rw [List.take_of_length_le (by rw [hl];simp),show ([bL nm fs zs n g u,bL nm fs zs n h v]:List Bool).map V.bl=[.bl (bL nm fs zs n g u),.bl (bL nm fs zs n h v)] from rfl]
     refine ⟨(show 2≤sizeLine by decide),fun l hl'=>?_⟩
     have s3:aA H (upd H2 l (.lst [.bl (bL nm fs zs n g u),.bl (bL nm fs zs n h v)])):=((s0.trans s1).trans s2).trans (aA.new hl')
     have h3:(upd H2 l (.lst [.bl (bL nm fs zs n g u),.bl (bL nm fs zs n h v)])) l=some (.lst [.bl (bL nm fs zs n g u),.bl (bL nm fs zs n h v)]):=ak
     generalize upd H2 l (.lst [.bl (bL nm fs zs n g u),.bl (bL nm fs zs n h v)])=H3 at s3 h3 ⊢
     refine ⟨_,rfl,q,_,_,_,rfl,rfl,s3.tup sq,aG (j:=0) rfl,rfl,_,rfl,?_⟩
     rcases hf with rfl|rfl
     ·rw [if_neg (by decide +kernel),if_pos rfl] at k
      have:=k _ s3
      refine cI (by decide +kernel) ⟨_,rfl,l,[bL nm fs zs n g u,bL nm fs zs n h v],rfl,bM.of h3,?_⟩
      simpa using this
     ·rw [if_neg (by decide +kernel),if_neg (by decide +kernel),if_pos rfl] at k
      have:=k _ s3
      refine bZ (by decide +kernel) ⟨_,rfl,l,[bL nm fs zs n g u,bL nm fs zs n h v],rfl,bM.of h3,?_⟩
      simpa using this
end
noncomputable def lx:List Int->List Int->Bool
 |a::as,b::bs=>decide (a<b) || (decide (a=b) && lx as bs)
 |_,_=>false
theorem zf:∀ a:List Int,lx a a=false
 |[]=>rfl
 |a::as=>by simp [lx,zf as]
theorem mq:∀ {a b c:List Int},lx a b=true->lx b c=true->lx a c=true
 | a::as,b::bs,c::cs,h1,h2=>by
   simp only [lx,Bool.or_eq_true,Bool.and_eq_true,decide_eq_true_eq] at h1 h2 ⊢
   rcases h1 with h1|⟨h1,h1'⟩ <;> rcases h2 with h2|⟨h2,h2'⟩
   ·exact .inl (by omega)
   ·exact .inl (by omega)
   ·exact .inl (by omega)
   ·exact .inr ⟨by omega,mq h1' h2'⟩
 |[],b,_,h1,_=>by simp [lx] at h1
 |_::_,[],_,h1,_=>by simp [lx] at h1
 |_::_,_::_,[],_,h2=>by simp [lx] at h2
theorem yP (h1:lx a b=true) (h2:lx b a=true):False:=by
 have:=mq h1 h2
 rw [zf] at this
 cases this
theorem z9:∀ {a b s t:List Int},lx a b=true->lx (a++s) (b++t)=true
 | a::as,b::bs,s,t,h=>by
   simp only [lx,List.cons_append,Bool.or_eq_true,Bool.and_eq_true,decide_eq_true_eq] at h ⊢
   rcases h with h|⟨h,h'⟩
   ·exact .inl h
   ·exact .inr ⟨h,z9 h'⟩
 |[],b,_,_,h=>by simp [lx] at h
 |_::_,[],_,_,h=>by simp [lx] at h
theorem uY:∀ (r:List Int) {u v:Int},u<v->lx (r++[u]) (r++[v])=true
 |[],u,v,h=>by simp [lx,h]
 |a::r,u,v,h=>by simp [lx,uY r h]
theorem Cd:∀ {a b:List Int},Paired (fun x y:Int=>x≤y) a b->a=b∨lx a b=true
 |_,_,.nil=>.inl rfl
 | x::_,y::_,.cons h t=>by
   have h:x≤y:=h
   rcases Cd t with e|e
   ·subst e
    by_cases z:x=y
    ·exact .inl (by rw [z])
    ·exact .inr (by simp only [lx,Bool.or_eq_true,decide_eq_true_eq];exact .inl (by omega))
   ·refine .inr ?_
    simp only [lx,Bool.or_eq_true,Bool.and_eq_true,decide_eq_true_eq]
    by_cases z:x=y
    ·exact .inr ⟨z,e⟩
    ·exact .inl (by omega)
noncomputable def ext (rows:List (List Int)) (ts:List Int):List (List Int):=rows.flatMap fun r=>ts.map fun v=>r++[v]
theorem vJ:x∈ext rows ts↔∃ r∈rows,∃ v∈ts,x=r++[v]:=by
 unfold ext
 simp only [List.mem_flatMap,List.mem_map]
 exact ⟨fun ⟨r,hr,v,hv,e⟩=>⟨r,hr,v,hv,e.symm⟩,fun ⟨r,hr,v,hv,e⟩=>⟨r,hr,v,hv,e.symm⟩⟩
theorem Fx (h1:rows.Pairwise fun a b=>lx a b=true) (h2:ts.Pairwise (·<·)):(ext rows ts).Pairwise fun a b=>lx a b=true:=by
 unfold ext
 rw [List.pairwise_flatMap]
 refine ⟨fun r _=>?_,h1.imp fun {r r'} h x hx y hy=>?_⟩
 ·rw [List.pairwise_map]
  exact h2.imp fun {u v} h=>uY r h
 ·obtain ⟨u,_,rfl⟩:=List.mem_map.mp hx
  obtain ⟨v,_,rfl⟩:=List.mem_map.mp hy
  exact z9 h
theorem jT:(ext rows ts).length=rows.length*ts.length:=by
 unfold ext
 induction rows with
 |nil=>simp
 |cons r t ih=>rw [List.flatMap_cons,List.length_append,ih,List.length_map,List.length_cons,Nat.succ_mul,Nat.add_comm]
noncomputable def gB (tss:List (List Int)):List (List Int):=tss.foldl ext [[]]
theorem ni (tss:List (List Int)) (ts:List Int):gB (tss++[ts])=ext (gB tss) ts:=by unfold gB;rw [List.foldl_append];rfl
theorem yD (h:∀ ts∈tss,ts.Pairwise (·<·)):(gB tss).Pairwise fun a b=>lx a b=true:=by
 have go:∀ (tss rows:List (List Int)),rows.Pairwise (fun a b=>lx a b=true)->(∀ ts∈tss,ts.Pairwise (·<·))->(tss.foldl ext rows).Pairwise fun a b=>lx a b=true:=by
  intro tss
  induction tss with
  |nil=>intro rows h _;exact h
  |cons ts t ih=>intro rows h1 h2;exact ih _ (Fx h1 (h2 ts (.head _))) fun x hx=>h2 x (.tail _ hx)
 exact go tss [[]] (List.pairwise_singleton _ _) h
theorem gA:x∈gB tss↔Paired (fun (v:Int) (ts:List Int)=>v∈ts) x tss:=by
 have go:∀ (tss rows:List (List Int)) (x:List Int),x∈tss.foldl ext rows↔∃ r∈rows,∃ y,x=r++y/\Paired (fun (v:Int) (ts:List Int)=>v∈ts) y tss:=by
  intro tss
  induction tss with
  | nil=>
    intro rows x
    refine ⟨fun h=>⟨x,h,[],(List.append_nil _).symm,.nil⟩,fun ⟨r,hr,y,e,p⟩=>?_⟩
    cases p
    rw [List.append_nil] at e
    subst e
    exact hr
  | cons ts t ih=>
    intro rows x
    show x∈t.foldl ext (ext rows ts)↔_
    rw [ih]
    constructor
    ·rintro ⟨r,hr,y,rfl,p⟩
     obtain ⟨r',hr',v,hv,rfl⟩:=vJ.mp hr
     exact ⟨r',hr',v::y,by simp,.cons hv p⟩
    ·rintro ⟨r,hr,y,rfl,p⟩
     cases p with
     |@cons v _ y' _ hv p=>exact ⟨r++[v],vJ.mpr ⟨r,hr,v,hv,rfl⟩,y',by simp,p⟩
 unfold gB
 rw [go]
 constructor
 ·rintro ⟨r,hr,y,rfl,p⟩
  cases List.mem_singleton.mp hr
  exact p
 ·exact fun p=>⟨[],List.mem_singleton.mpr rfl,x,rfl,p⟩
theorem rM {rows:List (List Int)} {p:List Int->Bool} (h:rows.Pairwise fun a b=>lx a b=true) (e:rows.find? p=some c):c∈rows/\p c=true/\∀ x∈rows,p x=true->c=x∨lx c x=true:=by
 refine ⟨List.mem_of_find?_eq_some e,List.find?_some e,fun x hx px=>?_⟩
 obtain ⟨_,as,bs,rfl,no⟩:=List.find?_eq_some_iff_append.mp e
 rcases List.mem_append.mp hx with hx|hx
 ·have:=no x hx
  rw [px] at this
  cases this
 ·rcases List.mem_cons.mp hx with hx|hx
  ·exact .inl hx.symm
  ·exact .inr ((List.pairwise_cons.mp (List.pairwise_append.mp h).2.1).1 x hx)
noncomputable def xO (x:Str):PyData->List Int
 |.tuple [.str f,.str y,.int i]=>if f = "less"∨f = "same" then (if y=x then (if f = "same" then [i,i+1] else [i]) else []) else []
 |_=>[]
noncomputable def tvs (x:Str) (L:List PyData):List Int:=L.flatMap (xO x)
structure m7 (L:List PyData) (f:fj) (ts:List Int):Prop where
 up:ts.Pairwise (·<·)
 mem:∀ v,v∈ts↔(v=f.2.1∨v∈tvs f.1 L)/\f.2.1≤v/\v≤f.2.2
def Br:List Int->List fj->Prop:=Paired fun (z:Int) (f:fj)=>f.2.1≤z/\z≤f.2.2
structure Snap (L:List PyData) (f:fj) (z c:Int):Prop where
 le:c≤z
 lo:f.2.1≤c
 hi:z≤f.2.2
 top:∀ t,(t=f.2.1∨t∈tvs f.1 L)->f.2.1≤t->t≤z->t≤c
theorem y_ (z:Int):∀ ts:List Int,(∃ t∈ts,t≤z)->∃ c∈ts,c≤z/\∀ t∈ts,t≤z->t≤c
 |[],⟨t,h,_⟩=>by cases h
 | a::r,h=>by
   by_cases hr:∃ t∈r,t≤z
   ·obtain ⟨c,hc,c1,c2⟩:=y_ z r hr
    by_cases ha:a≤z/\c≤a
    ·refine ⟨a,.head _,ha.1,fun t ht tz=>?_⟩
     rcases List.mem_cons.mp ht with rfl|ht
     ·exact Int.le_refl _
     ·exact Int.le_trans (c2 t ht tz) ha.2
    ·refine ⟨c,.tail _ hc,c1,fun t ht tz=>?_⟩
     rcases List.mem_cons.mp ht with rfl|ht
     ·omega
     ·exact c2 t ht tz
   ·obtain ⟨t,ht,tz⟩:=h
    rcases List.mem_cons.mp ht with rfl|ht
    ·refine ⟨t,.head _,tz,fun u hu uz=>?_⟩
     rcases List.mem_cons.mp hu with rfl|hu
     ·exact Int.le_refl _
     ·exact absurd ⟨u,hu,uz⟩ hr
    ·exact absurd ⟨t,ht,tz⟩ hr
theorem v6:∀ {fs:List fj} {tss:List (List Int)} {zs:List Int},Paired (m7 L) fs tss->Br zs fs->∃ cs,Paired (fun (v:Int) (ts:List Int)=>v∈ts) cs tss/\Paired (fun x y:Int=>x≤y) cs zs/\∀ (j:Nat) (f:fj),fs[j]?=some f->Snap L f (zs.getD j 0) (cs.getD j 0)
 |_,_,_,.nil,.nil=>⟨[],.nil,.nil,fun j f e=>by simp at e⟩
 | f::_,ts::_,z::_,.cons s t,.cons b u=>by
   obtain ⟨cs,h1,h2,h3⟩:=v6 t u
   obtain ⟨c,hc,c1,c2⟩:=y_ z ts ⟨f.2.1,(s.mem _).mpr ⟨.inl rfl,Int.le_refl _,Int.le_trans b.1 b.2⟩,b.1⟩
   refine ⟨c::cs,.cons hc h1,.cons c1 h2,fun j g e=>?_⟩
   cases j with
   | zero=>
     cases e
     exact ⟨c1,((s.mem _).mp hc).2.1,b.2,fun t' h l tz=>c2 t' ((s.mem _).mpr ⟨h,l,Int.le_trans tz b.2⟩) tz⟩
   |succ j=>exact h3 j g (by simpa using e)
theorem uE:∀ {fs:List fj} {tss:List (List Int)} {cs:List Int},Paired (m7 L) fs tss->Paired (fun (v:Int) (ts:List Int)=>v∈ts) cs tss->Br cs fs
 |_,_,_,.nil,.nil=>.nil
 |_,_,_,.cons s t,.cons h u=>.cons ((s.mem _).mp h).2 (uE t u)
theorem wu (h:∀ (j:Nat) (g:fj),fs[j]?=some g->Snap L g (zs.getD j 0) (cs.getD j 0)) (lf:kW f r) (m:.tuple (.str f::r)∈L):gW nm fs zs f r=gW nm fs cs f r:=by
 cases lf with
 |all=>rfl
 |is _=>rfl
 | @num f x i hf hx hi=>
   unfold gW
   by_cases h0:f = "all"
   ·rw [if_pos h0,if_pos h0]
   rw [if_neg h0,if_neg h0]
   dsimp only
   by_cases hin:x∈fs.map (·.1)
   ·rw [if_pos hin,if_pos hin]
    have il:=List.idxOf_lt_length_iff.mpr hin
    have il2:=il
    rw [List.length_map] at il2
    have e1:(fs.map (·.1))[(fs.map (·.1)).idxOf x]=x:=List.getElem_idxOf il
    generalize (fs.map (·.1)).idxOf x=j at il il2 e1 ⊢
    have s:=h j fs[j] (List.getElem?_eq_getElem il2)
    have e2:fs[j].1=x:=by rw [List.getElem_map] at e1;exact e1
    have ls:¬ (("less" : Str) = "same"):=by decide
    have tm:∀ v,v∈xO x (.tuple [.str f,.str x,.int i])->v∈tvs fs[j].1 L:=fun v hv=>by
     rw [e2]
     exact List.mem_flatMap.mpr ⟨_,m,hv⟩
    have le:=s.le
    have lo:=s.lo
    have hi':=s.hi
    rcases hf with rfl|rfl
    ·rw [if_pos rfl,if_pos rfl,decide_eq_decide]
     have t1:=s.top i (.inr (tm i (by simp [xO,ls])))
     constructor
     ·intro z;omega
     ·intro z
      refine Classical.byContradiction fun q=>?_
      by_cases l:fs[j].2.1≤i
      ·have:=t1 l (by omega);omega
      ·omega
    ·rw [if_neg (by decide),if_neg (by decide),decide_eq_decide]
     have t1:=s.top i (.inr (tm i (by simp [xO])))
     have t2:=s.top (i+1) (.inr (tm (i+1) (by simp [xO])))
     constructor
     ·intro z
      have:=t1 (by omega) (by omega)
      omega
     ·intro z
      refine Classical.byContradiction fun q=>?_
      have:=t2 (by omega) (by omega)
      omega
   ·rw [if_neg hin,if_neg hin]
theorem iY:∀ {n:Nat} {d:PyData},TD d->bB d=true->bz d≤n->∀ e∈ie d,∃ f r,e=.tuple (.str f::r)/\kW f r
 |0,d,_,_,h=>by have:=cJ d;omega
 | n+1,d,td,sh,h=>by
   obtain ⟨f,r,rfl⟩:=bV td sh
   intro e he
   have eq:ie (.tuple (.str f::r))=if (arity f).isSome=true then eE r else [.tuple (.str f::r)]:=rfl
   rw [eq] at he
   cases td with
   |node a b c tr=>
   rcases dR sh h with ⟨ha,lf⟩|N
   ·rw [ha] at he
    simp at he
    exact ⟨f,r,he,lY lf⟩
   ·rw [N.ar] at he
    simp only [Option.isSome_some,if_true] at he
    have a2:=dX N.ar
    match r,a2,N,tr,he with
    | [x],_,N,tr,he=>
      rw [cA] at he
      exact iY (tr x (by simp)) (N.sh x (by simp)) (N.de x (by simp)) e he
    | [x,y],_,N,tr,he=>
      have:eE [x,y]=ie x++ie y:=by rw [show [x,y]=[x]++[y] from rfl,fY,cA,cA]
      rw [this,List.mem_append] at he
      rcases he with he|he
      ·exact iY (tr x (by simp)) (N.sh x (by simp)) (N.de x (by simp)) e he
      ·exact iY (tr y (by simp)) (N.sh y (by simp)) (N.de y (by simp)) e he
    |_::_::_::_,a2,_,_,_=>simp at a2
    |[],a2,_,_,_=>simp at a2
theorem fV:∀ (n:Nat) (f:Str) (r:List PyData),(∀ g q,.tuple (.str g::q)∈ie (.tuple (.str f::r))->gW nm fs zs g q=gW nm fs cs g q)->bL nm fs zs n f r=bL nm fs cs n f r
 |0,_,_,_=>rfl
 | n+1,f,r,h=>by
   have eq:ie (.tuple (.str f::r))=if (arity f).isSome=true then eE r else [.tuple (.str f::r)]:=rfl
   rw [eq] at h
   have one:∀ (g:Str) (q:List PyData),eE [.tuple (.str g::q)]=ie (.tuple (.str g::q)):=fun g q=>cA _
   have two:∀ (a b:PyData),eE [a,b]=ie a++ie b:=fun a b=>by rw [show [a,b]=[a]++[b] from rfl,fY,cA,cA]
   unfold bL
   by_cases h1:f = "not"
   ·rw [if_pos h1,if_pos h1]
    rw [h1,show (arity "not").isSome=true from by decide +kernel,if_pos rfl] at h
    split
    ·rename_i g q
     rw [one] at h
     rw [fV n g q h]
    ·rfl
   ·rw [if_neg h1,if_neg h1]
    by_cases h2:f = "and"
    ·rw [if_pos h2,if_pos h2]
     rw [h2,show (arity "and").isSome=true from by decide +kernel,if_pos rfl] at h
     split
     ·rename_i g q g' q'
      rw [two] at h
      rw [fV n g q fun a b m=>h a b (List.mem_append_left _ m),fV n g' q' fun a b m=>h a b (List.mem_append_right _ m)]
     ·rfl
    ·rw [if_neg h2,if_neg h2]
     by_cases h3:f = "or"
     ·rw [if_pos h3,if_pos h3]
      rw [h3,show (arity "or").isSome=true from by decide +kernel,if_pos rfl] at h
      split
      ·rename_i g q g' q'
       rw [two] at h
       rw [fV n g q fun a b m=>h a b (List.mem_append_left _ m),fV n g' q' fun a b m=>h a b (List.mem_append_right _ m)]
      ·rfl
     ·rw [if_neg h3,if_neg h3]
      have ha:arity f=none:=by unfold arity;rw [if_neg h1,if_neg h2,if_neg h3]
      rw [ha] at h
      exact h f r (by simp)
structure qR (d:PyData):Prop where
 td:TD d
 ok:bN d=true
theorem qR.sh (t:qR d):bB d=true:=by
 have:=t.ok
 unfold bN at this
 rw [Bool.and_eq_true] at this
 exact this.1
theorem qR.de (t:qR d):bz d≤5:=by
 have:=t.ok
 unfold bN at this
 rw [Bool.and_eq_true,Bool.and_eq_true,decide_eq_true_eq] at this
 exact this.2.1
theorem qR.few (t:qR d):(ie d).length≤8:=by
 have h:=t.ok
 unfold bN at h
 rw [Bool.and_eq_true,Bool.and_eq_true,decide_eq_true_eq,decide_eq_true_eq] at h
 have:=ji t.td t.sh t.de
 omega
theorem qR.form (t:qR d):∃ f r,d=.tuple (.str f::r):=bV t.td t.sh
theorem qR.same (t:qR d) (sub:∀ e∈ie d,e∈L) (h:∀ (j:Nat) (g:fj),fs[j]?=some g->Snap L g (zs.getD j 0) (cs.getD j 0)):jO nm fs zs d=jO nm fs cs d:=by
 obtain ⟨f,r,rfl⟩:=t.form
 show bL nm fs zs 5 f r=bL nm fs cs 5 f r
 refine fV 5 f r fun g q m=>?_
 obtain ⟨f',r',e,lf⟩:=iY t.td t.sh t.de _ m
 injection e with e
 injection e with e1 e2
 injection e1 with e1
 subst e1 e2
 exact wu h lf (sub _ m)
noncomputable def dN (nm:Str) (fs:List fj) (d e:PyData) (zs:List Int):Bool:=jO nm fs zs d != jO nm fs zs e
def dY (nm:Str) (fs:List fj) (d e:PyData):Option (List Int)->Prop
 |none=>∀ zs,Br zs fs->dN nm fs d e zs=false
 |some c=>Br c fs/\dN nm fs d e c=true/\∀ zs,Br zs fs->dN nm fs d e zs=true->c=zs∨lx c zs=true
theorem ye (td:qR d) (te:qR e) (st:Paired (m7 (ie d++ie e)) fs tss):dY nm fs d e ((gB tss).find? (dN nm fs d e)):=by
 have up:(gB tss).Pairwise fun a b=>lx a b=true:=yD fun ts hts=>by
  obtain ⟨i,hi⟩:=List.getElem?_of_mem hts
  have:∀ {fs:List fj} {tss:List (List Int)} {i:Nat} {ts:List Int},Paired (m7 (ie d++ie e)) fs tss->tss[i]?=some ts->ts.Pairwise (·<·):=by
   intro fs tss i ts p
   induction p generalizing i with
   |nil=>intro z;simp at z
   | cons a _ ih=>
     intro z
     cases i with
     |zero=>cases z;exact a.up
     |succ i=>exact ih (by simpa using z)
  exact this st hi
 have down:∀ zs,Br zs fs->dN nm fs d e zs=true->∃ c∈gB tss,dN nm fs d e c=true/\(c=zs∨lx c zs=true):=fun zs b h=>by
  obtain ⟨cs,c1,c2,c3⟩:=v6 st b
  refine ⟨cs,gA.mpr c1,?_,Cd c2⟩
  unfold dN at h ⊢
  rw [← td.same (fun x hx=>List.mem_append_left _ hx) c3,← te.same (fun x hx=>List.mem_append_right _ hx) c3]
  exact h
 cases hf:(gB tss).find? (dN nm fs d e) with
 | none=>
   intro zs b
   refine Bool.eq_false_iff.mpr fun h=>?_
   obtain ⟨c,hc,pc,_⟩:=down zs b h
   exact absurd pc (List.find?_eq_none.mp hf c hc)
 | some c=>
   obtain ⟨h1,h2,h3⟩:=rM up hf
   refine ⟨uE st (gA.mp h1),h2,fun zs b h=>?_⟩
   obtain ⟨x,hx,px,lx'⟩:=down zs b h
   rcases h3 x hx px with rfl|l1
   ·exact lx'
   ·rcases lx' with rfl|l2
    ·exact .inr l1
    ·exact .inr (mq l1 l2)
theorem oZ (h1:dY nm fs d e a) (h2:dY nm fs d e b):a=b:=by
 cases a with
 | none=>
   cases b with
   |none=>rfl
   |some c=>have:=h1 c h2.1;rw [h2.2.1] at this;cases this
 | some c=>
   cases b with
   |none=>have:=h2 c h1.1;rw [h1.2.1] at this;cases this
   | some c'=>
     rcases h1.2.2 c' h2.1 h2.2.1 with rfl|l1
     ·rfl
     ·rcases h2.2.2 c h1.1 h1.2.1 with rfl|l2
      ·rfl
      ·exact (yP l1 l2).elim
theorem yd (x:Str) (L:List PyData) (d:PyData):tvs x (L++[d])=tvs x L++xO x d:=by
 unfold tvs
 rw [List.flatMap_append,List.flatMap_cons,List.flatMap_nil,List.append_nil]
theorem As (x:Str) (d:PyData):(xO x d).length≤2:=by
 unfold xO
 split
 ·split
  ·split
   ·split <;> simp
   ·simp
  ·simp
 ·simp
theorem qD (x:Str):∀ L:List PyData,(tvs x L).length≤2*L.length
 |[]=>by simp [tvs]
 | d::r=>by
   have h1:=qD x r
   have h2:=As x d
   unfold tvs at h1 ⊢
   rw [List.flatMap_cons,List.length_append,List.length_cons]
   omega
def RX (L:List PyData):Prop:=∀ e∈L,∃ f r,e=.tuple (.str f::r)/\kW f r
def O2 (K:Frag):Sp:=fun vs H Q _=>∃ (l:Addr) (x:Str) (lo hi:Int) (xs:List V) (L:List PyData),vs=[.ref l,.str x,.int lo,.int hi]/\bM K H l xs/\bK K H xs L/\RX L/\L.length≤16/\lo≤hi/\∀ q ts H',m7 L (x,lo,hi) ts->ts.length≤33->H' q=some (.lst (ts.map V.int))->aA H H'->Q (.ref q) H'
noncomputable abbrev Uh:List Str:=["found","field","low","high","values","leaf"]
theorem Fl:aU Uh ["found","field","low","high"] (aC (top 35)):=⟨rfl,rfl,rfl,by decide +kernel,rfl,by decide +kernel,by decide +kernel⟩
theorem HQ (F:gU K "turns" "turns" (top 35) f fd) (T:Txt K mg) (hso:mg "sorted" = none) (TB:tM K mg aW aS):aR P w K mg base bQ 1 f fd ["found","field","low","high"] (O2 K):=by
 refine F.ok Fl (fun vs H Q E h=>?_) (fun cdv A outer s H vs Q E hr h=>?_)
 ·obtain ⟨l,x,lo,hi,xs,L,rfl,_⟩:=h
  rfl
 ·obtain ⟨l,x,lo,hi,xs,L,rfl,hl,rp,lv,ll,lh,k⟩:=h
  refine ⟨_,(au (bh (i:=4) Fl.nd rfl (by first|exact Or.inl rfl|exact Or.inr rfl) (bU (aa (pv 2) aj)))
   (au (eG PassesOwn.never rfl (eU (pv 0)) (bj (i:=5) Fl.nd rfl (by first|exact Or.inl rfl|exact Or.inr rfl))
    (aB (bu (PW.pt (kJ (aH sG (aY aV (pv 5) aq (fun _ _=>rfl)) (dh (v:=.ref aS) rfl TB.ms rfl) rfl) (jV (aH bx (aY aV (pv 5) aq (fun _ _=>rfl)) (pv 1) (aL _)))))
     (au (dm (lM PySem.F.plainAttrs_list PySem.F.slot_list_append PySem.F.type_list_append gY (pv 4) (aa (aY aV (pv 5) aq (fun _ _=>rfl)) aj)))
     (aB (bu (aH bx (aY aV (pv 5) aq (fun _ _=>rfl)) aF (aL _)) (aB (dm (lM PySem.F.plainAttrs_list PySem.F.slot_list_append PySem.F.type_list_append gY (pv 4) (aa (aZ cW (aY aV (pv 5) aq (fun _ _=>rfl)) aq) aj)))) aP))) aP)))
   (aB (aK (aM (qz rfl) (by rfl) hso wA (aa (yO (g:=bH 0) (own:=["value"]) (js:=[2,3]) (N':=["value","low","high"]) (bw.of (osc:=aC (top 35)) (N:=Uh) rfl rfl ⟨rfl,by decide +kernel,by decide +kernel,by decide +kernel,rfl,by decide +kernel⟩) rfl (eU (pv 4)) (fun _ _ _ _ _=>(bj (i:=0) (show List.Nodup (["value","low","high"]:List Str) by decide +kernel) rfl (Or.inl rfl) (Or.inr rfl)))
    (fun _ _ _ _ _=>m_ (z6 fH fH (pv 1) (pv 0) (pv 2))) (fun _ _ _ _ _=>pv 0)) aj)))))),?_⟩
  have xl:=rp.length
  refine ⟨_,rfl,(by show 1≤sizeLine;decide),fun v hv=>?_⟩
  have s0:aA H (upd H v (.lst [.int lo])):=aA.new hv
  have e0:upd H v (.lst [.int lo]) v=some (.lst [.int lo]):=ak
  generalize upd H v (.lst [.int lo])=H0 at s0 e0 ⊢
  dsimp only [bH,List.set]
  refine ⟨_,rfl,l,rfl,⟨_,s0.seq hl⟩,j5 (K:=K) (a:=l) (xs:=xs) (fun i σ' H'=>(∃ u,σ'=[some (.ref l),some (.str x),some (.int lo),some (.int hi),some (.ref v),u])/\H' v=some (.lst ((lo::tvs x (L.take i)).map V.int))/\aA H H') ⟨⟨none,rfl⟩,e0,s0⟩ (fun i U H' _ e=>e.2.2.seq hl) ?_ ?_⟩
  ·rintro i y σ' H1 hi' ⟨⟨u,rfl⟩,h1,s1⟩
   obtain ⟨d,hd,rd⟩:=rp.get' hi'
   have md:=List.mem_of_getElem? hd
   obtain ⟨f',r,rfl,lf⟩:=lv d md
   have rd1:=rd.same s1
   have tl:=qD x (L.take i)
   have tk:(L.take i).length≤16:=by rw [List.length_take];omega
   have et:tvs x (L.take (i+1))=tvs x (L.take i)++xO x (.tuple (.str f'::r)):=by
    rw [List.take_add_one,hd]
    exact yd _ _ _
   cases rd1 with
   |@tup a zs _ sq rs=>
   have keep:∀ {H2:Hp} {o:HO},aA H H2->aA H (upd H2 v o):=fun s2 b u e=>by rw [aJ (aO e hv)];exact s2 _ _ e
   dsimp only [bH,List.set]
   cases lf with
   | all=>
     obtain ⟨x0,rfl⟩:∃ x0,zs=[x0]:=by
      cases rs with|cons r1 r2=>cases r2;exact ⟨_,rfl⟩
     cases rs with|cons r1 r2=>
     cases r1
     refine ⟨_,rfl,a,_,_,_,rfl,rfl,sq,aG (j:=0) rfl,"all",aS,dS,rfl,rfl,TB.ks,_,rfl,?_⟩
     rw [uX]
     refine bZ (by decide +kernel) (bZ rfl ⟨⟨_,rfl⟩,?_,s1⟩)
     rw [et,show xO x (.tuple [.str "all"])=[] from rfl,List.append_nil]
     exact h1
   | @is z hz=>
     obtain ⟨x0,x1,rfl⟩:∃ x0 x1,zs=[x0,x1]:=by
      cases rs with|cons r1 r2=>cases r2 with|cons r2 r3=>cases r3;exact ⟨_,_,rfl⟩
     cases rs with|cons r1 r2=>
     cases r1
     refine ⟨_,rfl,a,_,_,_,rfl,rfl,sq,aG (j:=0) rfl,"is",aS,dS,rfl,rfl,TB.ks,_,rfl,?_⟩
     rw [uX]
     refine bZ (by decide +kernel) (bZ rfl ⟨⟨_,rfl⟩,?_,s1⟩)
     rw [et,show xO x (.tuple [.str "is",.str z])=[] from rfl,List.append_nil]
     exact h1
   | @num _ z j hf hz hj=>
     obtain ⟨x0,x1,x2,rfl⟩:∃ x0 x1 x2,zs=[x0,x1,x2]:=by
      cases rs with|cons r1 r2=>cases r2 with|cons r2 r3=>cases r3 with|cons r3 r4=>cases r4;exact ⟨_,_,_,rfl⟩
     cases rs with|cons r1 r2=>
     cases r2 with|cons r2 r3=>
     cases r3 with|cons r3 r4=>
     cases r1
     cases r2
     cases r3
     have some':(jX dS f').isSome=true:=by rw [uX];rcases hf with rfl|rfl <;> decide +kernel
     refine ⟨_,rfl,a,_,_,_,rfl,rfl,sq,aG (j:=0) rfl,f',aS,dS,rfl,rfl,TB.ks,_,rfl,?_⟩
     refine cI some' ⟨_,rfl,a,_,_,_,rfl,rfl,sq,aG (j:=1) rfl,_,rfl,rfl,_,rfl,?_⟩
     have e1:xO x (.tuple [.str f',.str z,.int j])=if z=x then (if f' = "same" then [j,j+1] else [j]) else []:=by
      show (if f' = "less"∨f' = "same" then (if z=x then (if f' = "same" then [j,j+1] else [j]) else []) else [])=_
      rw [if_pos hf]
     rw [e1] at et
     refine dM (fun h=>?_) (fun h=>?_)
     ·have h':z=x:=by simpa using h
      rw [if_pos h'] at et
      refine ⟨_,rfl,.inl ⟨rfl,_,bM.of h1⟩,_,rfl,a,_,_,_,rfl,rfl,sq,aG (j:=2) rfl,v,_,_,rfl,rfl,h1,?_,?_⟩
      ·rw [List.length_map,List.length_cons]
       exact Nat.lt_of_le_of_lt (show (tvs x (L.take i)).length+1≤40 by omega) (by decide)
      have s2:aA H (upd H1 v (.lst ((lo::tvs x (L.take i)).map V.int++[.int j]))):=keep s1
      have h2:upd H1 v (.lst ((lo::tvs x (L.take i)).map V.int++[.int j])) v=some (.lst ((lo::tvs x (L.take i)).map V.int++[.int j])):=ak
      have sq2:b_ K (upd H1 v (.lst ((lo::tvs x (L.take i)).map V.int++[.int j]))) a [.str f',.str z,.int j]:=m5 sq h1
      generalize upd H1 v (.lst ((lo::tvs x (L.take i)).map V.int++[.int j]))=H2 at s2 h2 sq2 ⊢
      refine ⟨_,rfl,a,_,_,_,rfl,rfl,sq2,aG (j:=0) rfl,rfl,_,rfl,?_⟩
      rcases hf with rfl|rfl
      ·refine bZ (by decide +kernel) ⟨⟨_,rfl⟩,?_,s2⟩
       rw [et,if_neg (by decide)]
       rw [h2]
       simp
      ·refine cI (by decide +kernel) ⟨_,rfl,.inl ⟨rfl,_,bM.of h2⟩,_,rfl,a,_,_,_,rfl,rfl,sq2,aG (j:=2) rfl,_,_,rfl,rfl,v,_,_,rfl,rfl,h2,?_,⟨_,rfl⟩,?_,keep s2⟩
       ·rw [List.length_append,List.length_map,List.length_cons]
        exact Nat.lt_of_le_of_lt (show (tvs x (L.take i)).length+1+1≤41 by omega) (by decide)
       ·rw [ak,et,if_pos rfl]
        simp
     ·have h':¬ z=x:=by simpa using h
      rw [if_neg h',List.append_nil] at et
      exact ⟨⟨_,rfl⟩,by rw [et];exact h1,s1⟩
  ·rintro σ' H1 ⟨⟨u,rfl⟩,h1,s1⟩
   rw [xl,List.take_length] at h1
   have tl:=qD x L
   generalize ev:lo::tvs x L=vs at h1
   have vl:vs.length≤33:=by rw [← ev,List.length_cons];omega
   refine ⟨_,rfl,v,rfl,⟨_,bM.of h1⟩,fun acc hacc=>?_⟩
   have vacc:v≠acc:=aO h1 hacc
   refine rG (K:=K) (a:=v) (xs:=vs.map V.int) (fun i σ' H'=>(∃ u,σ'=[u,some (.int lo),some (.int hi)])/\H'=upd H1 acc (setG P w acc (dd ((vs.take i).filter fun z=>decide (lo≤z) && decide (z≤hi))))) ⟨⟨none,rfl⟩,rfl⟩ (fun i U H' _ e=>by rw [e.2];exact bM.of (by rw [aJ vacc];exact h1)) ?_ ?_
   ·rintro i y σ' H' hi' ⟨⟨u,rfl⟩,rfl⟩ N hN
    rw [List.getElem?_map] at hi'
    obtain ⟨z,hz,rfl⟩:=Option.map_eq_some_iff.mp hi'
    dsimp only [bH,List.set]
    refine ou.chain (ou.var rfl) (ou.var rfl) (ou.var rfl) Cz.i0 Cz.i0 _ ⟨_,rfl,?_⟩
    have ed:vs.take (i+1)=vs.take i++[z]:=by rw [List.take_add_one,hz];rfl
    refine dM (fun h=>?_) (fun h=>?_)
    ·refine ⟨_,rfl,_,z,ak,rfl,?_,hN _ _ ⟨⟨_,rfl⟩,?_⟩⟩
     ·have a1:=yK ((vs.take i).filter fun z=>decide (lo≤z) && decide (z≤hi))
      have a2:=List.length_filter_le (fun z=>decide (lo≤z) && decide (z≤hi)) (vs.take i)
      have a3:(vs.take i).length≤33:=by rw [List.length_take];omega
      exact Nat.lt_of_le_of_lt (show _≤34 by omega) (by decide)
     ·rw [Bk,ed,List.filter_append,List.filter_cons_of_pos (by exact h),List.filter_nil,Ao]
      rfl
    ·refine hN _ _ ⟨⟨_,rfl⟩,?_⟩
     rw [ed,List.filter_append,List.filter_cons_of_neg (by exact h),List.filter_nil,List.append_nil]
   ·rintro σ' H' ⟨_,rfl⟩
    rw [List.length_map,List.take_length]
    have a1:=yK (vs.filter fun z=>decide (lo≤z) && decide (z≤hi))
    have a2:=List.length_filter_le (fun z=>decide (lo≤z) && decide (z≤hi)) vs
    refine ⟨acc,_,rfl,ak,by omega,fun ms q hp hs hq=>?_⟩
    have pl:=hp.length_eq
    refine k q ms _ ⟨?_,fun z=>?_⟩ (by omega) ak ?_
    ·have nd:ms.Nodup:=hp.nodup_iff.mpr (yJ _)
     exact (hs.and nd).imp fun {a b} h=>by have:=h.1;have:=h.2;omega
    ·rw [hp.mem_iff,Dt,List.mem_filter,← ev,List.mem_cons]
     simp
    ·exact (s1.trans (aA.new hacc)).trans (aA.new hq)
def gM (H:Hp) (x:V) (r:List Int):Prop:=∃ p,x=.ref p/\H p=some (.tup (r.map V.int))
theorem gM.tk (h:gM H x r) (k:TK H H'):gM H' x r:=let ⟨p,e,z⟩:=h;⟨p,e,k _ _ z⟩
theorem eV (k:TK H H'):∀ {xs:List V} {rs:List (List Int)},Paired (gM H) xs rs->Paired (gM H') xs rs
 |_,_,.nil=>.nil
 |_,_,.cons a t=>.cons (a.tk k) (eV k t)
theorem _root_.L2.aA.tkT (s:aA H H'):TK H H':=fun b xs e=>s _ _ e
theorem Paired.snoc2 {α β:Type} {R:α->β->Prop} {x:α} {y:β} (h:R x y):∀ {xs:List α} {ys:List β},Paired R xs ys->Paired R (xs++[x]) (ys++[y])
 |_,_,.nil=>.cons h .nil
 |_,_,.cons a t=>.cons a (Paired.snoc2 h t)
theorem wg {K:Frag} {a b:Addr} {xs:List V} {rows:List (List Int)} {ts:List Int} {te:TE} {H0:Hp} {F:List V->Hp->Prop} {σ0:St} (e0:∃ u v,σ0=[u,v,some (.ref b)]) (hq:bM K H0 a xs) (hb:bM K H0 b (ts.map V.int)) (hp:Paired (gM H0) xs rows) (hl:rows.length*ts.length<sizeLine)
 (hte:∀ x r v H (N:V->Hp->Prop),gM H x r->r∈rows->(∀ y H',aA H H'->gM H' y (r++[v])->N y H')->te [some x,some (.int v),some (.ref b)] H N) (hF:∀ ys H',aA H0 H'->Paired (gM H') ys (ext rows ts)->F ys H') :
 ∃ W:Nat->Nat->List V->St->Hp->Prop,(∃ m,W 0 m [] σ0 H0)/\pQ (BJ K a) (bH 0) mZ (vp K (jU 2)) (bH 1) mZ te F W:=by
 have xl:=Paired.length hp
 have elen:∀ i,i≤rows.length->(ext (rows.take i) ts).length=i*ts.length:=fun i hi=>by rw [jT,List.length_take,Nat.min_eq_left hi]
 refine ⟨fun i m ys U H=>m=xs.length-i/\i≤xs.length/\(∃ u v,U=[u,v,some (.ref b)])/\aA H0 H/\Paired (gM H) ys (ext (rows.take i) ts),⟨xs.length,by simp,Nat.zero_le _,e0,aA.refl _,.nil⟩,?_⟩
 rintro i m ys U H ⟨rfl,hi,⟨u,v,rfl⟩,s1,py⟩
 have q:=s1.seq hq
 by_cases hlt:i<xs.length
 ·refine .inr ⟨⟨xs,xs[i],q,by simp [hlt]⟩,fun x H' y=>?_⟩
  obtain ⟨e,y⟩:=y
  subst e
  have hx:=y xs q
  obtain ⟨r,hr,rx⟩:=cH hp hx
  have mr:=List.mem_of_getElem? hr
  have er:rows.take (i+1)=rows.take i++[r]:=by rw [List.take_add_one,hr];rfl
  have ee:ext (rows.take (i+1)) ts=ext (rows.take i) ts++ts.map fun v=>r++[v]:=by
   rw [er]
   unfold ext
   rw [List.flatMap_append,List.flatMap_cons,List.flatMap_nil,List.append_nil]
  dsimp only [bH,List.set,mZ]
  rw [if_pos rfl]
  refine ⟨_,rfl,b,rfl,⟨_,s1.seq hb⟩,?_⟩
  refine ⟨fun j m2 ys U H=>m2=ts.length-j/\j≤ts.length/\(∃ v,U=[some x,v,some (.ref b)])/\aA H0 H/\Paired (gM H) ys (ext (rows.take i) ts++(ts.take j).map fun v=>r++[v]),⟨ts.length,by simp,Nat.zero_le _,⟨_,rfl⟩,s1,by rw [List.take_zero,List.map_nil,List.append_nil];exact py⟩,?_⟩
  rintro j m2 ys2 σ2 H2 ⟨rfl,hj,⟨v2,rfl⟩,s2,py2⟩
  have q2:=s2.seq hb
  by_cases hlt2:j<ts.length
  ·have yl:=Paired.length py2
   rw [List.length_append,elen i (by omega),List.length_map,List.length_take] at yl
   have bd:i*ts.length+ts.length≤rows.length*ts.length:=by
    have:=Nat.mul_le_mul_right ts.length (show i+1≤rows.length by omega)
    rw [Nat.succ_mul] at this
    exact this
   refine .inr ⟨⟨ts.map V.int,.int ts[j],q2,by simp [hlt2]⟩,by omega,fun z H3 y2=>?_⟩
   obtain ⟨e,y2⟩:=y2
   subst e
   have hz:=y2 _ q2
   rw [List.getElem?_map] at hz
   obtain ⟨v,hv,rfl⟩:=Option.map_eq_some_iff.mp hz
   dsimp only [bH,List.set,mZ]
   rw [if_pos rfl]
   refine hte x r v _ _ (rx.tk s2.tkT) mr fun y H4 s4 ry=>⟨ts.length-(j+1),by omega,rfl,hlt2,⟨_,rfl⟩,s2.trans s4,?_⟩
   have et:(ts.take (j+1)).map (fun v=>r++[v])=(ts.take j).map (fun v=>r++[v])++[r++[v]]:=by rw [List.take_add_one,hv,List.map_append];rfl
   rw [et,← List.append_assoc]
   exact Paired.snoc2 ry (eV s4.tkT py2)
  ·have e:j=ts.length:=by omega
   subst e
   refine .inl ⟨⟨_,q2,by simp⟩,xs.length-(i+1),by omega,rfl,hlt,⟨_,_,rfl⟩,s2,?_⟩
   rw [List.take_length] at py2
   rw [ee]
   exact py2
 ·have e:i=xs.length:=by omega
  subst e
  rw [xl,List.take_length] at py
  exact .inl ⟨⟨xs,q,Nat.le_refl _⟩,hF _ _ s1 py⟩
def K8 (K:Frag) (C:Addr):Sp:=fun vs H Q _=>∃ (l o a:Addr) (nm:Str) (fs:List fj) (xs:List V) (L:List PyData),vs=[.ref l,.ref o]/\bM K H l xs/\bK K H xs L/\RX L/\L.length≤16/\dj C H o nm a fs/\fs.length≤4/\(∀ f∈fs,kj f)/\∀ q ys tss H',Paired (m7 L) fs tss->H' q=some (.lst ys)->Paired (gM H') ys (gB tss)->aA H H'->Q (.ref q) H'
noncomputable abbrev TY:List Str:=["found","kind","rows","name","low","high","steps"]
theorem ul:aU TY ["found","kind"] (aC (top 34)):=⟨rfl,rfl,rfl,by decide +kernel,rfl,by decide +kernel,by decide +kernel⟩
theorem Ir {mg:Str->Option Value} {f aW aS C fT:Addr} {fd fdT:FuncData} (F:gU K "corners" "corners" (top 34) f fd) (T:Txt K mg) (hso:mg "sorted" = none) (TB:tM K mg aW aS) (KC:KCls K mg C) (DT:cO K mg "turns" (top 35) ["found","field","low","high"] fT fdT):aR P w K mg base bQ 2 f fd ["found","kind"] (K8 K C):=by
 have GT:aR P w K mg base bQ 1 fT fdT ["found","field","low","high"] (O2 K):=HQ DT.F T hso TB
 refine F.ok ul (fun vs H Q E h=>?_) (fun cdv A outer s H vs Q E hr h=>?_)
 ·obtain ⟨l,o,a,nm,fs,xs,L,rfl,_⟩:=h
  rfl
 ·obtain ⟨l,o,a,nm,fs,xs,L,rfl,hl,rp,lv,ll,ka,fl,fo,k⟩:=h
  refine ⟨_,(au (bh (i:=2) ul.nd rfl (by first|exact Or.inl rfl|exact Or.inr rfl) (bU (aa (bD aj) aj)))
   (au (eG PassesOwn.never rfl (gR (sZ (pv 1) rfl)) (lq rfl (cD (bj (i:=3) ul.nd rfl (by first|exact Or.inl rfl|exact Or.inr rfl)) (cD (bj (i:=4) ul.nd rfl (by first|exact Or.inl rfl|exact Or.inr rfl)) (cD (bj (i:=5) ul.nd rfl (by first|exact Or.inl rfl|exact Or.inr rfl)) je))))
    (au (bh (i:=6) ul.nd rfl (by first|exact Or.inl rfl|exact Or.inr rfl) (aD GT hr rfl DT.mg DT.F.kp DT.b .nil aN (aa (pv 0) (aa (pv 3) (aa (pv 4) (aa (pv 5) aj))))))
    (aB (rP (i:=2) (g:=bH 0) (g2:=bH 1) (tt:=mZ) (tt2:=mZ) (wi2:=vp K (jU 2)) (own:=["row","value"]) (js:=[6]) (N':=["row","value","steps"]) (bw.of (osc:=aC (top 34)) (N:=TY) rfl rfl ⟨rfl,by decide +kernel,by decide +kernel,by decide +kernel,rfl,by decide +kernel⟩) rfl ul.nd rfl rfl (eU (pv 2)) (fun _ _ _ _ _=>(bj (i:=0) (show List.Nodup (["row","value","steps"]:List Str) by decide +kernel) rfl (Or.inl rfl) (Or.inr rfl))) (fun _ _ _ _ _=>cZ) (fun _ _ _ _ _=>xQ rfl (pv 2)) (fun _ _=>rfl) (fun _ _ _ _ _=>(bj (i:=1) (show List.Nodup (["row","value","steps"]:List Str) by decide +kernel) rfl (Or.inl rfl) (Or.inr rfl))) (fun _ _ _ _ _=>cZ)
     (fun _ _ _ _ _=>(aZ (r:=pN K) iz (pv 0) (bD (aa (pv 1) aj))))))))
   (aB (aK (pv 2))))),?_⟩
  obtain ⟨⟨dx,ho⟩,ws,ha,pf⟩:=ka
  have wl:=Paired.length pf
  refine ⟨(by show 0≤sizeLine;decide),fun p0 hp0=>⟨(by show 1≤sizeLine;decide),fun q0 hq0=>?_⟩⟩
  have s0:=(aA.new (o:=.tup []) hp0).trans (aA.new (o:=.lst [.ref p0]) hq0)
  have e0:upd (upd H p0 (.tup [])) q0 (.lst [.ref p0]) q0=some (.lst [.ref p0]):=ak
  have e1:upd (upd H p0 (.tup [])) q0 (.lst [.ref p0]) p0=some (.tup []):=aA.new hq0 _ _ ak
  generalize upd (upd H p0 (.tup [])) q0 (.lst [.ref p0])=H0 at s0 e0 e1 ⊢
  dsimp only [bH,List.set]
  refine ⟨_,rfl,o,C,dx,_,_,rfl,s0 _ _ ho,KC.cl,KC.nF,oR nm a,a,rfl,⟨_,b_.of (s0 _ _ ha)⟩,?_⟩
  refine l_ (K:=K) (a:=a) (xs:=ws) (fun i σ' H'=>∃ q ys tss u3 u4 u5 u6,σ'=[some (.ref l),some (.ref o),some (.ref q),u3,u4,u5,u6]/\H' q=some (.lst ys)/\Paired (gM H') ys (gB tss)/\Paired (m7 L) (fs.take i) tss/\(gB tss).length≤33 ^ i/\aA H H') ⟨q0,_,[],_,_,_,_,rfl,e0,.cons ⟨p0,rfl,e1⟩ .nil,.nil,by simp [gB],s0⟩ (fun i U H' _ ⟨_,_,_,_,_,_,_,_,_,_,_,_,e⟩=>b_.of (e _ _ ha)) ?_ ?_
  ·rintro i x σ' H1 hi ⟨q,ys,tss,u3,u4,u5,u6,rfl,hq,py,pt,cl,s1⟩
   obtain ⟨f',hf,b',rfl,hb⟩:=cH pf hi
   have mf:=List.mem_of_getElem? hf
   have fk:=fo f' mf
   have il:i<4:=by
    have:=(List.getElem?_eq_some_iff.mp hf).1
    omega
   refine ⟨b',_,rfl,b_.of (s1 _ _ hb),rfl,_,_,rfl,_,_,rfl,_,_,rfl,rfl,?_⟩
   dsimp only [bH,List.set]
   refine ⟨_,rfl,_,rfl,_,rfl,_,rfl,l,f'.1,f'.2.1,f'.2.2,xs,L,rfl,s1.seq hl,rp.same s1,lv,ll,fk.le,fun b ts H2 st tl hb2 s2=>?_⟩
   dsimp only [bH,List.set]
   refine ⟨_,rfl,q,rfl,⟨_,bM.of (s2 _ _ hq)⟩,?_⟩
   have cb:(gB tss).length*ts.length≤33 ^ (i+1):=by
    rw [Nat.pow_succ]
    exact Nat.mul_le_mul cl tl
   have c4:33 ^ (i+1)≤33 ^ 4:=Nat.pow_le_pow_right (by decide) (by omega)
   have c5:33 ^ 4<sizeLine:=by decide
   refine wg (b:=b) (ts:=ts) (rows:=gB tss) ⟨_,_,rfl⟩ (bM.of (s2 _ _ hq)) (bM.of hb2) (eV s2.tkT py) (by omega) ?_ ?_
   ·rintro y r v H3 N ⟨p,rfl,hp⟩ mr hN
    have rlen:=Paired.length (gA.mp mr)
    have tsl:=Paired.length pt
    rw [List.length_take] at tsl
    refine ⟨_,rfl,_,rfl,(by show 1≤sizeLine;decide),fun p2 hp2=>?_⟩
    have t1:=aA.new (o:=.tup [.int v]) hp2
    refine ⟨p,p2,_,_,rfl,rfl,b_.of (t1 _ _ hp),b_.of ak,?_,fun e=>?_,fun e=>?_,fun p3 hp3=>?_⟩
    ·rw [List.length_map]
     exact Nat.le_trans (show r.length+1≤10 by omega) (by decide)
    ·have:r=[]:=by simpa using e
     subst this
     exact hN _ _ t1 ⟨p2,rfl,ak⟩
    ·simp at e
    ·refine hN _ _ (t1.trans (aA.new hp3)) ⟨p3,rfl,?_⟩
     rw [ak,List.map_append]
     rfl
   ·intro ys' H3 s3 py3
    have yl:=Paired.length py3
    rw [jT] at yl
    refine ⟨by omega,fun q3 hq3=>?_⟩
    have s4:=aA.new (o:=.lst ys') hq3
    refine ⟨q3,ys',tss++[ts],_,_,_,_,rfl,ak,?_,?_,?_,((s1.trans s2).trans s3).trans s4⟩
    ·rw [ni]
     exact eV s4.tkT py3
    ·rw [List.take_add_one,hf]
     exact Paired.snoc2 st pt
    ·rw [ni,jT]
     exact cb
  ·rintro σ' H1 ⟨q,ys,tss,u3,u4,u5,u6,rfl,hq,py,pt,cl,s1⟩
   rw [wl,List.take_length] at pt
   exact ⟨_,rfl,k q ys tss H1 pt hq py s1⟩
def wL (K:Frag) (C cT:Addr):Sp:=fun vs H Q E=>∃ (x y:V) (o a:Addr) (d e:PyData) (nm:Str) (fs:List fj),vs=[x,y,.ref o]/\Rep K H x d/\Rep K H y e/\TD d/\TD e/\dj C H o nm a fs/\fs.length≤4/\(∀ f∈fs,kj f)/\
 (bN d=true->bN e=true->(∀ H',dY nm fs d e none->aA H H'->Q .non H')/\∀ c p H',dY nm fs d e (some c)->H' p=some (.tup (c.map V.int))->aA H H'->Q (.ref p) H')/\
 (bN d=false∨bN e=false->∀ H1 da H',aA H H1->mO H1 Od da H'->E (.ref cT) (some da) H')
noncomputable abbrev Ut:List Str:=["one","other","kind","values"]
theorem Mi:aU Ut ["one","other","kind"] (aC (top 33)):=⟨rfl,rfl,rfl,by decide +kernel,rfl,by decide +kernel,by decide +kernel⟩
theorem zL (td:TD d) (sh:bB d=true) (de:bz d≤n):RX (ie d):=iY td sh de
theorem qb:∀ {zs:List Int} {fs:List fj},Br zs fs->zs.length=fs.length
 |_,_,.nil=>rfl
 |_,_,.cons _ t=>by rw [List.length_cons,List.length_cons,qb t]
theorem N_ (F:gU K "parted" "parted" (top 33) f fd) (T:Txt K mg) (hso:mg "sorted" = none) (TB:tM K mg aW aS) (KC:KCls K mg C)
 (DN:cO K mg "need_test" (top 29) ["test"] fN fdN) (GN:aR P w K mg base (uM P w) 11 fN fdN ["test"] (Il K cT)) (DL:cO K mg "leaves_within" (top 30) ["test"] fL fdL) (DC:cO K mg "corners" (top 34) ["found","kind"] fC fdC) (DT:cO K mg "turns" (top 35) ["found","field","low","high"] fT fdT)
 (DP:cO K mg "passes" (top 31) ["test","kind","values"] fP fdP) (GP:aR P w K mg base bQ 7 fP fdP ["test","kind","values"] (GJ K C 5)):aR P w K mg base (uM P w) 12 f fd ["one","other","kind"] (wL K C cT):=by
 have GL:aR P w K mg base bQ 5 fL fdL ["test"] (Ed K 5):=K3 DL TB 5
 have GC:aR P w K mg base bQ 2 fC fdC ["found","kind"] (K8 K C):=Ir DC.F T hso TB KC DT
 refine F.ok1 Mi (fun vs H Q E h=>?_) (fun cdv A outer s H vs Q E hr h=>?_)
 ·obtain ⟨x,y,o,a,d,e,nm,fs,rfl,_⟩:=h
  rfl
 ·obtain ⟨x,y,o,a,d,e,nm,fs,rfl,rx,ry,td,te,ka,fl,fo,k,kx⟩:=h
  have hr2:bF 2 _:=hr.mono (by decide)
  have hr5:bF 5 _:=hr.mono (by decide)
  have hr7:bF 7 _:=hr.mono (by decide)
  refine ⟨_,(au (dm (aD (E:=E) GN hr rfl DN.mg DN.F.kp DN.b .nil (CJ fun _ _ _ h=>h) (aa (pv 0) aj)))
   (au (dm (aD (E:=E) GN hr rfl DN.mg DN.F.kp DN.b .nil (CJ fun _ _ _ h=>h) (aa (pv 1) aj)))
   (au (eG PassesOwn.leaving rfl (eU (aD (E:=E0) GC hr2 rfl DC.mg DC.F.kp DC.b .nil aN (aa (aZ yc (aD (E:=E0) GL hr5 rfl DL.mg DL.F.kp DL.b .nil aN (aa (pv 0) aj)) (aD (E:=E0) GL hr5 rfl DL.mg DL.F.kp DL.b .nil aN (aa (pv 1) aj))) (aa (pv 2) aj)))) (bj (i:=3) Mi.nd rfl (by first|exact Or.inl rfl|exact Or.inr rfl))
    (aB (bu (aH pC (aD (E:=E0) GP hr7 rfl DP.mg DP.F.kp DP.b .nil aN (aa (pv 0) (aa (pv 2) (aa (pv 3) aj)))) (aD (E:=E0) GP hr7 rfl DP.mg DP.F.kp DP.b .nil aN (aa (pv 1) (aa (pv 2) (aa (pv 3) aj)))) (aL _)) (aB (aK (pv 3))) aP)))
   (aB (aK iZ))))),?_⟩
  refine ⟨_,rfl,x,d,rfl,rx,td,fun h1 H1 s1=>?_,fun h1 H1 da H' s1 th=>kx (.inl h1) H1 da H' s1 th⟩
  refine ⟨_,rfl,y,e,rfl,ry.same s1,te,fun h2 H2 s2=>?_,fun h2 H2 da H' s2 th=>kx (.inr h2) H2 da H' (s1.trans s2) th⟩
  obtain ⟨k1,k2⟩:=k h1 h2
  have t1:qR d:=⟨td,h1⟩
  have t2:qR e:=⟨te,h2⟩
  have S2:=s1.trans s2
  clear s1 s2
  refine ⟨_,rfl,x,d,rfl,rx.same S2,td,t1.sh,t1.de,by decide,fun l1 xs1 H3 s3 n1 hl1 rp1=>?_⟩
  refine ⟨_,rfl,y,e,rfl,ry.same (S2.trans s3),te,t2.sh,t2.de,by decide,fun l2 xs2 H4 s4 n2 hl2 rp2=>?_⟩
  have f1:=rp1.length
  have f2:=rp2.length
  have g1:=t1.few
  have g2:=t2.few
  refine ⟨l1,l2,xs1,xs2,rfl,rfl,s4 _ _ hl1,hl2,Nat.le_trans (show xs1.length+xs2.length≤16 by omega) (by decide),fun l3 hl3=>⟨_,rfl,?_⟩⟩
  have s5:=aA.new (o:=.lst (xs1++xs2)) hl3
  have S5:=((S2.trans s3).trans s4).trans s5
  refine ⟨l3,o,a,nm,fs,_,ie d++ie e,rfl,bM.of ak,jH (rp1.same (s4.trans s5)) (rp2.same s5),fun z hz=>?_,by rw [List.length_append];omega,ka.same S5,fl,fo,fun q ys tss H6 st hq py s6=>?_⟩
  ·rcases List.mem_append.mp hz with hz|hz
   ·exact zL td t1.sh t1.de z hz
   ·exact zL te t2.sh t2.de z hz
  have S6:=S5.trans s6
  have lst:=ye (nm:=nm) t1 t2 st
  have yl:=Paired.length py
  obtain ⟨fd',rd',rfl⟩:=t1.form
  obtain ⟨fe',re',rfl⟩:=t2.form
  have rx6:=rx.same S6
  have ry6:=ry.same S6
  cases rx6 with
  |@tup qx xsx _ sqx rsx=>
  cases ry6 with
  |@tup qy xsy _ sqy rsy=>
  refine ⟨q,rfl,⟨_,bM.of hq⟩,j5 (K:=K) (a:=q) (xs:=ys) (fun i σ' H'=>(∃ u,σ'=[some (.ref qx),some (.ref qy),some (.ref o),u])/\aA H6 H'/\∀ c∈(gB tss).take i,dN nm fs (.tuple (.str fd'::rd')) (.tuple (.str fe'::re')) c=false) ⟨⟨none,rfl⟩,aA.refl _,by simp⟩ (fun i U H' _ z=>bM.of (z.2.1 _ _ hq)) ?_ ?_⟩
  ·rintro i z σ' H7 hi ⟨⟨u,rfl⟩,s7,no⟩
   obtain ⟨c,hc,p,rfl,hp⟩:=cH py hi
   have mc:=List.mem_of_getElem? hc
   have bc:=uE st (gA.mp mc)
   have ka7:=ka.same (S6.trans s7)
   dsimp only [bH,List.set]
   refine ⟨_,rfl,_,rfl,_,rfl,qx,o,a,p,fd',nm,rd',fs,c,rfl,⟨.tup (s7.tup sqx) (rsx.same s7),td,t1.sh,t1.de,ka7,fl,s7 _ _ hp,qb bc⟩,fun H8 s8=>?_⟩
   have s78:=s7.trans s8
   refine ⟨_,rfl,_,rfl,_,rfl,qy,o,a,p,fe',nm,re',fs,c,rfl,⟨.tup (s78.tup sqy) (rsy.same s78),te,t2.sh,t2.de,ka.same (S6.trans s78),fl,s78 _ _ hp,qb bc⟩,fun H9 s9=>?_⟩
   have s79:=s78.trans s9
   refine ⟨rfl,_,rfl,dM (fun h=>?_) (fun h=>?_)⟩
   ·have pc:dN nm fs (.tuple (.str fd'::rd')) (.tuple (.str fe'::re')) c=true:=by
     unfold dN jO
     simpa using h
    have ef:(gB tss).find? (dN nm fs (.tuple (.str fd'::rd')) (.tuple (.str fe'::re')))=some c:=by
     refine List.find?_eq_some_iff_append.mpr ⟨pc,(gB tss).take i,(gB tss).drop (i+1),?_,fun b hb=>by rw [no b hb];rfl⟩
     have il:=(List.getElem?_eq_some_iff.mp hc)
     obtain ⟨il,ec⟩:=il
     rw [← ec]
     simp
    rw [ef] at lst
    exact ⟨_,rfl,k2 c p H9 lst (s79 _ _ hp) (S6.trans s79)⟩
   ·refine ⟨⟨_,rfl⟩,s79,fun c' hc'=>?_⟩
    rw [List.take_add_one,hc] at hc'
    rcases List.mem_append.mp hc' with z|z
    ·exact no _ z
    ·obtain rfl:c'=c:=by simpa using z
     unfold dN jO
     simpa using h
  ·rintro σ' H7 ⟨⟨u,rfl⟩,s7,no⟩
   rw [yl,List.take_length] at no
   have ef:(gB tss).find? (dN nm fs (.tuple (.str fd'::rd')) (.tuple (.str fe'::re')))=none:=List.find?_eq_none.mpr fun c hc=>by rw [no c hc];simp
   rw [ef] at lst
   exact k1 H7 lst (S6.trans s7)
structure xN (f:fj):Prop where
 nm:Nm f.1
 lo:-2≤f.2.1
 lt:f.2.1≤10
 le:f.2.1≤f.2.2
 hi:f.2.2≤f.2.1+8
theorem xN.ok (h:xN f):kj f:=⟨h.nm,by have:=h.lo;omega,h.le,by have:=h.lt;have:=h.hi;omega⟩
def JC:Sp:=fun vs H Q _=>∃ (p dc:Addr),vs=[.ref p]/\Dr H p dc/\∀ (a:Addr) (xs:List V) (fs:List fj) (H':Hp),H' a=some (.tup xs)->Paired (gk H') xs fs->fs.length≤3->(∀ f∈fs,xN f)->(fs.map (·.1)).Nodup->Dr H' p dc->d9 p H H'->Q (.ref a) H'
noncomputable abbrev UJ:List Str:=["_law_d","_law_names","_law_found","_law_title","_law_low"]
theorem xX:aU UJ ["_law_d"] (aC (top 58)):=⟨rfl,rfl,rfl,by decide +kernel,rfl,by decide +kernel,by decide +kernel⟩
theorem Jq (F:gU K "_law_small_fields" "_law_small_fields" (top 58) f fd) (T:Txt K mg) (DP:cO K mg "_law_pick" (top 38) ["_law_d","_law_many"] fP fdP) (DO:cO K mg "_law_of" (top 39) ["_law_d","_law_things"] fO fdO)
 (DW:cO K mg "_law_word" (top 42) ["_law_d"] fW fdW) (DWs:cO K mg "_law_words" (top 43) ["_law_d","_law_many"] fWs fdWs):aR P w K mg base bQ 5 f fd ["_law_d"] JC:=by
 have GP:aR P w K mg base bQ 1 fP fdP ["_law_d","_law_many"] gj:=eQ DP.F T
 have GO:aR P w K mg base bQ 2 fO fdO ["_law_d","_law_things"] (tG K):=o_ DO.F T DP
 have GWs:aR P w K mg base bQ 4 fWs fdWs ["_law_d","_law_many"] (uU K):=zp DWs.F T DP DO DW
 refine F.ok xX (fun vs H Q E h=>?_) (fun cdv A outer s H vs Q E hr h=>?_)
 ·obtain ⟨p,dc,rfl,_⟩:=h
  rfl
 ·obtain ⟨p,dc,rfl,D,k⟩:=h
  have hr1:bF 1 _:=hr.mono (by decide)
  have hr2:bF 2 _:=hr.mono (by decide)
  refine ⟨_,(au
 (bh (i:=1) xX.nd rfl (Or.inl rfl) (aD GWs hr rfl DWs.mg DWs.F.kp DWs.b .nil aN (aa (pv 0) (aa (aD GP hr1 rfl DP.mg DP.F.kp DP.b .nil aN (aa (pv 0) (aa aq aj))) aj))))
 (au
 (bh (i:=2) xX.nd rfl (Or.inl rfl) (bU aj))
 (au
 (eG PassesOwn.never rfl (eU (pv 1)) (bj (i:=3) xX.nd rfl (Or.inl rfl)) (au
 (bh (i:=4) xX.nd rfl (Or.inl rfl) (aD GO hr2 rfl DO.mg DO.F.kp DO.b .nil aN (aa (pv 0) (aa (bU (aa aq (aa (jG iB aq) (aa aq (aa aq aj))))) aj))))
 (aB
 (dm (lM PySem.F.plainAttrs_list PySem.F.slot_list_append PySem.F.type_list_append gY (pv 2) (aa (bD (aa (pv 3) (aa (pv 4) (aa (aZ cW (pv 4) (aD GO hr2 rfl DO.mg DO.F.kp DO.b .nil aN (aa (pv 0) (aa (bU (aa aq (aa aq (aa aq (aa aq aj))))) aj)))) aj)))) aj))))))
 (aB
 (aK (ig gF (by rfl) T.tuple e_ (aa (pv 2) aj))))))),?_⟩
  refine ⟨_,rfl,_,rfl,p,dc,_,rfl,D,by decide,by decide,fun m H00 m0 m1 D00 t00=>?_⟩
  refine ⟨p,dc,m,rfl,D00,m0,by omega,fun q ys H1 e1 hq hl hy nd D1 t1'=>?_⟩
  have t1:=t00.trans t1'
  refine ⟨(show 0≤sizeLine by decide),fun q2 h2=>?_⟩
  have D1':=D1.new (o:=.lst []) h2
  have e1':(upd H1 q2 (.lst [])) q=some (.lst (ys.map V.str)):=(aA.new h2) _ _ e1
  have nq:q2≠q:=(aO e1 h2).symm
  have hq2:H q2=none:=by
   cases e:H q2 with
   |none=>rfl
   |some o=>rw [t1 q2 o e (D1.neN h2).symm] at h2;cases h2
  have nq2c:q2≠dc:=by
   obtain ⟨xs,e⟩:=D1.cell
   exact (aO e h2).symm
  refine ⟨_,rfl,q,rfl,⟨_,bM.of e1'⟩,j5 (K:=K) (a:=q) (xs:=ys.map V.str) (fun i U H2=>∃ (xs:List V) (fs:List fj) (a b:Option V),U=[some (.ref p),some (.ref q),some (.ref q2),a,b]/\H2 q=some (.lst (ys.map V.str))/\H2 q2=some (.lst xs)/\Paired (gk H2) xs fs/\fs.map (·.1)=ys.take i/\(∀ f∈fs,xN f)/\Dr H2 p dc/\d9 p H H2)
   ⟨[],[],none,none,rfl,e1',ak,.nil,by simp,(fun _ h=>by cases h),D1',t1.trans (d9.new h2)⟩ (fun i U H2 _ ⟨_,_,_,_,_,e,_⟩=>bM.of e) ?_ ?_⟩
  ·rintro i y U H2 hi ⟨xs,fs,a,b,rfl,g1,g2,pf,hm,hf,D2,t2⟩
   rw [List.getElem?_map] at hi
   obtain ⟨n,hn,rfl⟩:=Option.map_eq_some_iff.mp hi
   have hil:i<ys.length:=(List.getElem?_eq_some_iff.mp hn).1
   have np:∀ {b:Addr} {ws:List V} {H':Hp},Dr H' p dc->H' b=some (.lst ws)->b≠p:=fun d e=>d.ne e (by intro kvs z;cases z)
   refine ⟨_,rfl,_,rfl,(show 4≤sizeLine by decide),fun q3 h3=>?_⟩
   refine ⟨p,dc,q3,_,rfl,D2.new h3,bM.of ak,by simp,by simp,fun x H5 hx D5 t5=>?_⟩
   obtain ⟨lo,rfl,lo0,lo1⟩:∃ z:Int,x=.int z/\-2≤z/\z≤10:=by
    simp only [List.mem_cons,List.not_mem_nil,or_false] at hx
    rcases hx with rfl|rfl|rfl|rfl
    all_goals exact ⟨_,rfl,by decide,by decide⟩
   have t25:d9 p H2 H5:=(d9.new h3).trans t5
   have g2a:H5 q2=some (.lst xs):=t25 q2 _ g2 (np D2 g2)
   refine ⟨_,rfl,.inl ⟨rfl,_,bM.of g2a⟩,_,rfl,_,rfl,_,rfl,_,rfl,(show 4≤sizeLine by decide),fun q5 h5=>?_⟩
   refine ⟨p,dc,q5,_,rfl,D5.new h5,bM.of ak,by simp,by simp,fun x H6 hx D6 t6=>?_⟩
   obtain ⟨z,rfl,z0,z1⟩:∃ z:Int,x=.int z/\0≤z/\z≤8:=by
    simp only [List.mem_cons,List.not_mem_nil,or_false] at hx
    rcases hx with rfl|rfl|rfl|rfl
    all_goals exact ⟨_,rfl,by decide,by decide⟩
   have t26:d9 p H2 H6:=t25.trans ((d9.new h5).trans t6)
   have g1':H6 q=some (.lst (ys.map V.str)):=t26 q _ g1 (np D2 g1)
   have g2':H6 q2=some (.lst xs):=t26 q2 _ g2 (np D2 g2)
   have k5:TK H2 H6:=TK.but D2 t26
   refine ⟨_,_,rfl,rfl,(show 3≤sizeLine by decide),fun q4 h4=>?_⟩
   have g2'':∀ o,(upd H6 q4 o) q2=some (.lst xs):=fun o=>(aA.new h4) _ _ g2'
   have hlen:fs.length=i:=by
    have:=congrArg List.length hm
    rw [List.length_map,List.length_take] at this
    omega
   have pl:=Paired.length pf
   refine ⟨q2,xs,_,rfl,rfl,g2'' _,jg (by omega),?_⟩
   refine ⟨xs++[.ref q4],fs++[(n,lo,lo+z)],_,_,rfl,?_,ak,?_,?_,?_,?_,?_⟩
   ·rw [aJ nq.symm];exact (aA.new h4) _ _ g1'
   ·refine Paired.snoc2 ⟨q4,rfl,?_⟩ (cY pf (k5.trans ((TK.new h4).trans (TK.lst (g2'' _)))))
    exact (TK.lst (g2'' _)) _ _ ak
   ·rw [List.map_append,hm,List.take_add_one,hn];rfl
   ·intro f hf'
    rcases List.mem_append.mp hf' with hf'|hf'
    ·exact hf f hf'
    ·obtain rfl:f=(n,lo,lo+z):=by simpa using hf'
     exact ⟨hy n (List.mem_of_getElem? hn),lo0,lo1,by dsimp only;omega,by dsimp only;omega⟩
   ·exact (D6.new h4).put (np (D6.new (o:=.tup [.str n,.int lo,.int (lo+z)]) h4) (g2'' _)) nq2c
   ·intro b o e hb
    rw [aJ (aO e hq2)]
    exact (aA.new h4) _ _ ((t2.trans t26) b o e hb)
  ·rintro U H2 ⟨xs,fs,a,b,rfl,g1,g2,pf,hm,hf,D2,t2⟩
   rw [List.length_map,List.take_length] at hm
   refine ⟨_,rfl,q2,xs,rfl,.inl ⟨bM.of g2,fun l hn=>?_⟩⟩
   refine k l xs fs _ ak (cY pf (TK.new hn)) ?_ hf (by rw [hm];exact nd) (D2.new hn) (t2.trans (d9.new hn))
   rw [← List.length_map (f:=(·.1)),hm];omega
noncomputable abbrev Im:List Str:=["_law_one","_law_other","_law_title","_law_fields","_law_row"]
def Ms (K:Frag):Sp:=fun vs H Q _=>∃ (x y:V) (a b:Addr) (d e:PyData) (nm:Str) (xs:List V) (fs:List fj) (zs:List Int),vs=[x,y,.str nm,.ref a,.ref b]/\Rep K H x d/\Rep K H y e/\qR d/\qR e/\H a=some (.tup xs)/\Paired (gk H) xs fs/\fs.length≤4/\H b=some (.tup (zs.map V.int))/\zs.length=fs.length/\∀ H',aA H H'->Q (.bl (dN nm fs d e zs)) H'
theorem Ry:aU Im Im (aC (top 60)):=⟨rfl,rfl,rfl,by decide +kernel,rfl,by decide +kernel,by decide +kernel⟩
theorem J6 (F:gU K "_law_parts_them" "_law_parts_them" (top 60) f fd) (T:Txt K mg) (DL:cO K mg "_law_passes" (top 57) Ho fL fdL):aR P w K mg base bQ 6 f fd Im (Ms K):=by
 have GL:aR P w K mg base bQ 5 fL fdL Ho (Gr K 5):=MN DL T 5
 refine F.ok Ry (fun vs H Q E h=>?_) (fun cdv A outer s H vs Q E hr h=>?_)
 ·obtain ⟨x,y,a,b,d,e,nm,xs,fs,zs,rfl,_⟩:=h
  rfl
 ·obtain ⟨x,y,a,b,d,e,nm,xs,fs,zs,rfl,rx,ry,td,te,ha,pf,fl,hb,zl,k⟩:=h
  refine ⟨_,(aB (aK (bY pC (aD GL hr rfl DL.mg DL.F.kp DL.b .nil aN (aa (pv 0) (aa (pv 2) (aa (pv 3) (aa (pv 4) aj))))) (aD GL hr rfl DL.mg DL.F.kp DL.b .nil aN (aa (pv 1) (aa (pv 2) (aa (pv 3) (aa (pv 4) aj))))) (aL _)))),?_⟩
  obtain ⟨f1,r1,rfl⟩:=td.form
  obtain ⟨f2,r2,rfl⟩:=te.form
  have ry0:=ry
  cases rx with
  |@tup qx _ _ sx tx=>
  cases ry with
  |@tup qy _ _ sy ty=>
  refine ⟨_,rfl,_,rfl,_,rfl,_,rfl,qx,a,b,f1,nm,r1,xs,fs,zs,rfl,⟨.tup sx tx,td.td,td.sh,td.de,ha,pf,fl,hb,zl⟩,fun H1 s1=>?_⟩
  refine ⟨_,rfl,_,rfl,_,rfl,_,rfl,qy,a,b,f2,nm,r2,xs,fs,zs,rfl,⟨ry0.same s1,te.td,te.sh,te.de,s1 _ _ ha,cY pf s1.tkT,fl,s1 _ _ hb,zl⟩,fun H2 s2=>⟨rfl,?_⟩⟩
  have:=k H2 (s1.trans s2)
  have e:decide (V.bl (bL nm fs zs 5 f1 r1)=V.bl (bL nm fs zs 5 f2 r2))=(bL nm fs zs 5 f1 r1 == bL nm fs zs 5 f2 r2):=by
   cases bL nm fs zs 5 f1 r1 <;> cases bL nm fs zs 5 f2 r2 <;> rfl
  unfold dN jO at this
  rw [e]
  exact this
noncomputable def c7 (f:fj):List Int:=(List.range (f.2.2+1-f.2.1).toNat).map fun i:Nat=>f.2.1+i
theorem qX:v∈c7 f↔f.2.1≤v/\v≤f.2.2:=by
 unfold c7
 rw [List.mem_map]
 refine ⟨fun ⟨i,hi,e⟩=>?_,fun h=>⟨(v-f.2.1).toNat,List.mem_range.mpr (by omega),by omega⟩⟩
 have:=List.mem_range.mp hi
 omega
theorem BK (f:fj):(c7 f).Pairwise (·<·):=by
 unfold c7
 rw [List.pairwise_map]
 exact List.Pairwise.imp (fun h=>by omega) List.pairwise_lt_range
theorem mG (h:xN f):(c7 f).length≤9:=by
 unfold c7
 rw [List.length_map,List.length_range]
 have:=h.hi
 omega
theorem mK:∀ {fs:List fj} {zs:List Int},Paired (fun (v:Int) (ts:List Int)=>v∈ts) zs (fs.map c7)↔Br zs fs
 | [],zs=>by
   constructor
   ·intro h;cases h;exact .nil
   ·intro h;cases h;exact .nil
 | f::fs,zs=>by
   rw [List.map_cons]
   constructor
   ·intro h
    cases h with
    |cons a t=>exact .cons (qX.mp a) (mK.mp t)
   ·intro h
    cases h with
    |cons a t=>exact .cons (qX.mpr a) (mK.mpr t)
theorem mH (nm:Str) (fs:List fj) (d e:PyData):dY nm fs d e ((gB (fs.map c7)).find? (dN nm fs d e)):=by
 have up:(gB (fs.map c7)).Pairwise fun a b=>lx a b=true:=yD fun ts hts=>by
  obtain ⟨f,_,rfl⟩:=List.mem_map.mp hts
  exact BK f
 have mem:∀ zs,zs∈gB (fs.map c7)↔Br zs fs:=fun zs=>gA.trans mK
 cases hf:(gB (fs.map c7)).find? (dN nm fs d e) with
 | none=>
   intro zs b
   have:=List.find?_eq_none.mp hf zs ((mem zs).mpr b)
   simpa using this
 | some c=>
   obtain ⟨h1,h2,h3⟩:=rM up hf
   exact ⟨(mem c).mp h1,h2,fun zs b=>h3 zs ((mem zs).mpr b)⟩
theorem lu (nm:Str) (fs:List fj) (d e:PyData) (zs:List Int):dN nm fs d e zs=dN nm fs e d zs:=by
 unfold dN
 cases jO nm fs zs d <;> cases jO nm fs zs e <;> rfl
theorem mj (h:dY nm fs d e o):dY nm fs e d o:=by
 cases o with
 |none=>exact fun zs b=>by rw [lu];exact h zs b
 |some c=>exact ⟨h.1,by rw [lu];exact h.2.1,fun zs b p=>h.2.2 zs b (by rw [lu];exact p)⟩
theorem v8 {fs:List fj} (h:∀ f∈fs,xN f):∀ n,fs.length≤n->(gB (fs.map c7)).length≤9 ^ fs.length:=fun _ _=>by
 have go:∀ (fs:List fj) (rows:List (List Int)),(∀ f∈fs,xN f)->((fs.map c7).foldl ext rows).length≤rows.length*9 ^ fs.length:=by
  intro fs
  induction fs with
  |nil=>intro rows _;simp
  | cons f t ih=>
    intro rows h
    rw [List.map_cons,List.foldl_cons,List.length_cons,Nat.pow_succ,Nat.mul_comm (9 ^ t.length),← Nat.mul_assoc]
    refine Nat.le_trans (ih _ fun g hg=>h g (.tail _ hg)) (Nat.mul_le_mul_right _ ?_)
    rw [jT]
    exact Nat.mul_le_mul_left _ (mG (h f (.head _)))
 have:=go fs [[]] h
 simpa [gB] using this
def MT (H:Hp) (v:V) (x:List Int×Int):Prop:=∃ p b,v=.ref p/\H p=some (.tup [.ref b,.int x.2])/\H b=some (.tup (x.1.map V.int))
theorem qg (k:TK H H'):∀ {xs:List V} {rs:List (List Int×Int)},Paired (MT H) xs rs->Paired (MT H') xs rs
 |_,_,.nil=>.nil
 |_,_,.cons ⟨p,b,e,h1,h2⟩ t=>.cons ⟨p,b,e,k _ _ h1,k _ _ h2⟩ (qg k t)
noncomputable def mQ (rows:List (List Int)) (ts:List Int):List (List Int×Int):=rows.flatMap fun r=>ts.map fun v=>(r,v)
theorem uT (rows:List (List Int)) (ts:List Int):(mQ rows ts).map (fun x=>x.1++[x.2])=ext rows ts:=by
 unfold mQ ext
 rw [List.map_flatMap]
 congr 1
 funext r
 rw [List.map_map]
 rfl
theorem Paired.app2 {α β:Type} {R:α->β->Prop}:∀ {a c:List α} {b d:List β},Paired R a b->Paired R c d->Paired R (a++c) (b++d)
 |_,_,_,_,.nil,h=>h
 |_,_,_,_,.cons x t,h=>.cons x (Paired.app2 t h)
def Io (K:Frag):Sp:=fun vs H Q _=>∃ (q:Addr) (x:V) (ys:List V) (rows:List (List Int)) (f:fj),vs=[.ref q,x]/\H q=some (.lst ys)/\Paired (gM H) ys rows/\gk H x f/\xN f/\rows.length≤1000/\∀ l zs H',H' l=some (.lst zs)->Paired (MT H') zs (mQ rows (c7 f))->aA H H'->Q (.ref l) H'
noncomputable abbrev U6:List Str:=["_law_rows","_law_field","_law_found","_law_row"]
theorem FW:aU U6 ["_law_rows","_law_field"] (aC (top 59)):=⟨rfl,rfl,rfl,by decide +kernel,rfl,by decide +kernel,by decide +kernel⟩
theorem Ks {f:Addr} {fd:FuncData} (F:gU K "_law_all_pairs" "_law_all_pairs" (top 59) f fd) (T:Txt K mg):aR P w K mg base bQ 1 f fd ["_law_rows","_law_field"] (Io K):=by
 refine F.ok FW (fun vs H Q E h=>?_) (fun cdv A outer s H vs Q E hr h=>?_)
 ·obtain ⟨q,x,ys,rows,f,rfl,_⟩:=h
  rfl
 ·obtain ⟨q,x,ys,rows,g,rfl,hq,py,⟨bf,rfl,hbf⟩,sm,rl,k⟩:=h
  refine ⟨_,(au (bh (i:=2) FW.nd rfl (by first|exact Or.inl rfl|exact Or.inr rfl) (bU aj))
   (au (eG PassesOwn.never rfl (eU (pv 0)) (bj (i:=3) FW.nd rfl (by first|exact Or.inl rfl|exact Or.inr rfl))
    (aB (dm (lM PySem.F.plainAttrs_list PySem.F.slot_list_extend PySem.F.type_list_extend pF (pv 2) (aa (gD (g:=bH 0) (own:=["_law_number_here"]) (js:=[3]) (N':=["_law_number_here","_law_row"]) (bw.of (osc:=aC (top 59)) (N:=U6) rfl rfl ⟨rfl,by decide +kernel,by decide +kernel,by decide +kernel,rfl,by decide +kernel⟩) rfl (vW rfl T.range (aa (aY aV (pv 1) aq (fun _ _=>rfl)) (aa (aZ cW (aY aV (pv 1) aq (fun _ _=>rfl)) aq) aj))) (fun _ _ _ _ _=>(bj (i:=0) (show List.Nodup (["_law_number_here","_law_row"]:List Str) by decide +kernel) rfl (Or.inl rfl) (Or.inr rfl))) (fun _ _ _ _ _=>cZ) (fun _ _ _ _ _=>(bD (aa (pv 1) (aa (pv 0) aj))))) aj)))))
   (aB (aK (pv 2))))),?_⟩
  have yl:=Paired.length py
  have fl:=mG sm
  have hlo:=sm.lo
  have hlt:=sm.lt
  have hle:=sm.le
  have hhi:=sm.hi
  refine ⟨(by show 0≤sizeLine;decide),fun l hl=>?_⟩
  have s0:aA H (upd H l (.lst [])):=aA.new hl
  have e0:upd H l (.lst []) l=some (.lst []):=ak
  generalize upd H l (.lst [])=H0 at s0 e0 ⊢
  dsimp only [bH,List.set]
  have plen:∀ i,i≤rows.length->(mQ (rows.take i) (c7 g)).length≤9*i:=fun i=>by
   induction i with
   |zero=>intro _;simp [mQ]
   | succ i ih=>
     intro h
     have:=ih (by omega)
     rw [List.take_add_one,List.getElem?_eq_getElem (by omega)]
     unfold mQ at this ⊢
     rw [List.flatMap_append,List.length_append,Option.toList_some,List.flatMap_cons,List.flatMap_nil,List.append_nil,List.length_map]
     omega
  refine ⟨_,rfl,q,rfl,⟨_,bM.of (s0 _ _ hq)⟩,j5 (K:=K) (a:=q) (xs:=ys) (fun i σ' H'=>∃ zs u,σ'=[some (.ref q),some (.ref bf),some (.ref l),u]/\H' l=some (.lst zs)/\Paired (MT H') zs (mQ (rows.take i) (c7 g))/\aA H H') ⟨[],_,rfl,e0,.nil,s0⟩ (fun i U H' _ ⟨_,_,_,_,_,e⟩=>bM.of (e _ _ hq)) ?_ ?_⟩
  ·rintro i y σ' H1 hi ⟨zs,u,rfl,hl1,pz,s1⟩
   obtain ⟨r,hr',b,rfl,hb⟩:=cH py hi
   have il:=(List.getElem?_eq_some_iff.mp hr').1
   have zl:=Paired.length pz
   have pl:=plen i (by omega)
   have er:mQ (rows.take (i+1)) (c7 g)=mQ (rows.take i) (c7 g)++(c7 g).map fun v=>(r,v):=by
    rw [List.take_add_one,hr']
    unfold mQ
    rw [List.flatMap_append,Option.toList_some,List.flatMap_cons,List.flatMap_nil,List.append_nil]
   dsimp only [bH,List.set]
   refine ⟨_,rfl,.inl ⟨rfl,_,bM.of hl1⟩,_,rfl,bf,_,_,_,rfl,rfl,b_.of (s1 _ _ hbf),aG (j:=1) rfl,_,rfl,bf,_,_,_,rfl,rfl,b_.of (s1 _ _ hbf),aG (j:=2) rfl,_,_,rfl,rfl,_,_,rfl,⟨by omega,by omega,by omega,by omega⟩,?_⟩
   generalize en:(g.2.2+1-g.2.1).toNat=n
   have n9:n≤9:=by omega
   refine iD (lo:=g.2.1) (n:=n) (fun j ws σ' H'=>(∃ v,σ'=[v,some (.ref b)])/\aA H1 H'/\Paired (MT H') ws ((List.range j).map fun i:Nat=>(r,g.2.1+(i:Int)))) (Nat.le_trans n9 (by decide)) ⟨⟨none,rfl⟩,aA.refl _,.nil⟩ ?_ ?_
   ·rintro j ws σ' H' hj hw ⟨⟨v,rfl⟩,s2,pw⟩ M hM
    dsimp only [bH,List.set]
    refine ⟨_,rfl,_,rfl,(by show 2≤sizeLine;decide),fun p hp=>hM _ _ _ (by rw [List.length_append,hw];rfl) ⟨⟨_,rfl⟩,s2.trans (aA.new hp),?_⟩⟩
    rw [List.range_succ,List.map_append]
    exact Paired.snoc2 ⟨p,b,rfl,ak,(s2.trans (aA.new hp)) _ _ (s1 _ _ hb)⟩ (qg (aA.new hp).tkT pw)
   ·rintro ws σ' H' hw ⟨⟨v,rfl⟩,s2,pw⟩
    refine ⟨by rw [hw];exact Nat.le_trans n9 (by decide),fun p hp=>?_⟩
    have s3:=s2.trans (aA.new (o:=.lst ws) hp)
    refine ⟨l,p,zs,ws,rfl,rfl,s3 _ _ hl1,ak,?_,?_⟩
    ·rw [hw,zl]
     exact Nat.le_trans (show _≤10000 by omega) (by decide)
    have tk:TK (upd H' p (.lst ws)) (upd (upd H' p (.lst ws)) l (.lst (zs++ws))):=TK.lst (s3 _ _ hl1)
    refine ⟨zs++ws,_,rfl,ak,?_,fun c o e=>?_⟩
    ·rw [er]
     refine Paired.app2 (qg (s3.tkT.trans tk) pz) ?_
     have ef:(c7 g).map (fun v=>(r,v))=(List.range n).map fun i:Nat=>(r,g.2.1+(i:Int)):=by
      unfold c7
      rw [List.map_map,en]
      rfl
     rw [ef]
     exact qg ((aA.new hp).tkT.trans tk) pw
    ·rw [aJ (aO e hl)]
     exact s3 _ _ (s1 _ _ e)
  ·rintro σ' H1 ⟨zs,u,rfl,hl1,pz,s1⟩
   rw [yl,List.take_length] at pz
   exact ⟨_,rfl,k l zs H1 hl1 pz s1⟩
noncomputable def Ck:Stmt->Expr
 |.If (.UnaryOp _ (.Call _ (.Call _ (e::_) _ _::_) _ _) _) _ _ _=>e
 |_=>.Constant .none 0 ⟨0,0,0,0⟩
noncomputable def vh:Stmt->List Stmt
 |.For _ _ b _ _=>b
 |_=>[]
noncomputable def jj:Expr->Arguments
 |.Lambda p _ _ _=>p
 |_=>{ posonlyargs:=[],args:=[],vararg:=none,kwonlyargs:=[],kw_defaults:=[],kwarg:=none,defaults:=[] }
noncomputable def mF:Expr->Expr
 |.Lambda _ b _ _=>b
 |e=>e
noncomputable def dI:Expr->Scope
 |.Lambda _ _ s _=>s
 |_=>{ kind:=.function,names:=[],isGenerator:=false,isCoroutine:=false }
noncomputable def Ma:Expr->Pos
 |.Lambda _ _ _ p=>p
 |_=>⟨0,0,0,0⟩
noncomputable def Pr:Stmt:=.Pass ⟨0,0,0,0⟩
noncomputable def n_:Expr:=Ck ((vh ((bW (top 61)).getD 1 Pr)).getD 12 Pr)
noncomputable def oE:Expr:=Ck ((vh ((bW (top 61)).getD 1 Pr)).getD 13 Pr)
noncomputable abbrev Qh:List Str:=["_law_sort","_law_other","_law_one"]
noncomputable abbrev NL:List Str:=["_law_one","_law_other","_law_sort"]
theorem _root_.L2.gK.but (h:gK H T qual lV) (D:Dr H p dc) (b:d9 p H H'):gK H' T qual lV:=h.keep fun q u e ne=>b q u e (D.ne e ne)
structure yM (K:Frag) (cT cV cS:Addr):Prop where
 nv:mroIn K cT (.ref cV)=some false
 se:mroIn K cT (.ref cS)=some true
 gt:wM K cT "word"
section
variable {P:Program} {w:World} {K:PySem.W.Frag} {mg:Str->Option Value} {base:Heap}
structure KJ (K:Frag) (C:Addr) (H:Hp) (x y:V) (o a:Addr) (d e:PyData) (nm:Str) (fs:List fj) (Q:VK):Prop where
 rx:Rep K H x d
 ry:Rep K H y e
 td:TD d
 te:TD e
 ka:dj C H o nm a fs
 fl:fs.length≤4
 fo:∀ f∈fs,kj f
 kn:bN d=true->bN e=true->∀ H',dY nm fs d e none->aA H H'->∀ l,H' l=none->Q (.ref l) (upd H' l (.lst [.str "",.non]))
 ks:bN d=true->bN e=true->∀ c p H',dY nm fs d e (some c)->H' p=some (.tup (c.map V.int))->aA H H'->∀ l,H' l=none->Q (.ref l) (upd H' l (.lst [.str "",.ref p]))
 kx:bN d=false∨bN e=false->∀ H',aA H H'->∀ l,H' l=none->Q (.ref l) (upd H' l (.lst [.str "badtest",.non]))
def rn (K:Frag) (C:Addr) (L:Expr) (qual:Str) (cl:List (Str×Addr)) (pm:Value):St->List V->Hp->VK->Prop:=fun U vs H Q=>∃ f c' ctv x y o a d e nm fs,vs=[.ref f]/\H f=some (lamO f (kla_obj "<lambda>" qual (jj L) (mF L) (dI L) cl pm c' ctv))/\H c'=some (j7 c' qual)/\
 U[6]?=some (some x)/\U[7]?=some (some y)/\U[13]?=some (some (.ref o))/\KJ K C H x y o a d e nm fs Q
structure Dw (L:Expr):Prop where
 has:∀ p∈(dI L).names,(p.2=.cell∨p.2=.free)->p.1∈(["_law_sort","_law_other","_law_one"]:List Str)
 free:∀ x∈NL,(dI L).names.lookup x=some .free
 co:(dI L).isCoroutine=false
 gen:(dI L).isGenerator=false
 k:(dI L).kind=.function
 nc:∀ x∈(dI L).names,x.2≠.cell
theorem Mg:Dw n_:=⟨by decide +kernel,by decide +kernel,rfl,rfl,rfl,by decide +kernel⟩
theorem Ji:Dw oE:=⟨by decide +kernel,by decide +kernel,rfl,rfl,rfl,by decide +kernel⟩
theorem Cy {X:Cx} {cl:List (Str×Addr)} {E:XK} {s:Shared} {Q:VK} {t:XK->TE} (LY:Dw L) (ecl:cl.map (·.1)=Qh)
 (hcl:∀ p∈cl,X.env.cells.lookup p.1=some p.2) (hfn:∀ x,X.fn x=true) (hown:∀ x∈NL,X.env.scope.names.lookup x=some .cell) (hN:[X.N[6]?,X.N[7]?,X.N[13]?]=NL.map some) (hst:X.stack=X.env::X.outer) (hfm:X.env.frame=some X.env.locals)
 (hbind:∀ c' ctv,bindArgs (kla_fn "<lambda>" qual (jj L) (mF L) (dI L) cl pm (.ref c') ctv) ⟨[],[]⟩=pure [])
 (hb:∀ (f c':Addr) (A:Around) (outer:List Env) (s:Shared) (H:Hp) (E:XK),bF 12 (A.deeper (envX qual (dI L) s.heap.objs.size f (.ref c') cl))->PE (lJ X.prog X.w X.K X.mg X.base NL qual (dI L) f (.ref c') cl A outer s H E) (mF L) (t E))
 (ht:∀ (E:XK) (x y:V) (o a:Addr) (d e:PyData) (nm:Str) (fs:List fj) (H:Hp) (Q:VK),Rep X.K H x d->Rep X.K H y e->TD d->TD e->dj C H o nm a fs->fs.length≤4->(∀ f∈fs,kj f)->(bN d=true->bN e=true->(∀ H',dY nm fs d e none->aA H H'->Q .non H')/\∀ c p H',dY nm fs d e (some c)->H' p=some (.tup (c.map V.int))->aA H H'->Q (.ref p) H')->
  (bN d=false∨bN e=false->∀ H1 da H',aA H H1->mO H1 Od da H'->E (.ref cT) (some da) H')->t E [some x,some y,some (.ref o)] H Q)
 (BT:yM X.K cT cV cS) (I:Inv X Z U H s) (h:rn X.K C L qual cl pm U vs H Q):rT X.prog X.w X.K X.mg X.base 13 cV cS cM s X.stack vs H Q E:=by
 obtain ⟨f,c',ctv,x,y,o,a,d,e,nm,fs,rfl,ho,hc,h6,h7,h13,Y⟩:=h
 have Cl:=Ae (scope:=dI L) (NL:=NL) (js:=[6,7,13]) I hcl hfn (fun p hp h=>by rw [ecl];exact LY.has p hp h) LY.free hown (by rw [← hN];rfl) hst hfm
 have ev:rE [6,7,13] U=[some x,some y,some (.ref o)]:=by
  unfold rE
  rw [List.map_cons,List.map_cons,List.map_cons,List.map_nil,h6,h7,h13]
  rfl
 rw [ev] at Cl
 refine ⟨f,fun v H'=>bN d=true/\bN e=true/\aA H H'/\((v=.non/\dY nm fs d e none)∨∃ c p,v=.ref p/\dY nm fs d e (some c)/\H' p=some (.tup (c.map V.int))),fun cls dd H'=>∃ (H1:Hp) (da:Addr),dd=some da/\aA H H1/\(bN d=false∨bN e=false)/\cls=.ref cT/\mO H1 Od da H',rfl,?_,?_,?_⟩
 ·refine wU (N:=NL) (k:=12) ho hc Cl (hbind _ _) LY.co LY.gen LY.k LY.nc (fun A outer s hr=>hb f c' A outer s H _ hr) ?_
  exact ht _ x y o a d e nm fs H _ Y.rx Y.ry Y.td Y.te Y.ka Y.fl Y.fo (fun h1 h2=>⟨fun H' l s1=>⟨h1,h2,s1,.inl ⟨rfl,l⟩⟩,fun c p H' l hp s1=>⟨h1,h2,s1,.inr ⟨c,p,rfl,l,hp⟩⟩⟩) (fun hh H1 da H' s1 th=>⟨H1,da,rfl,s1,hh,rfl,th⟩)
 ·rintro v H' ⟨h1,h2,s1,⟨rfl,l⟩|⟨c,p,rfl,l,hp⟩⟩ q hq
  ·exact Y.kn h1 h2 H' l s1 q hq
  ·exact Y.ks h1 h2 c p H' l hp s1 q hq
 ·rintro cls dd H' ⟨H1,da,rfl,s1,hh,rfl,d0,rfl⟩
  refine ⟨_,da,_,"badtest",rfl,rfl,ak,.inr (.inl ⟨BT.nv,BT.se,BT.gt,?_⟩),fun l hl=>?_⟩
  ·rw [List.lookup_cons,show (("word" : Str) == ("word" : Str))=true from by decide +kernel]
  ·exact Y.kx hh _ (fun b u e=>by rw [aJ (aO (s1 _ _ e) d0)];exact s1 _ _ e) l hl
theorem M7 {X:Cx} {cl:List (Str×Addr)} (ecl:cl.map (·.1)=Qh)
 (hcl:∀ p∈cl,X.env.cells.lookup p.1=some p.2) (hfn:∀ x,X.fn x=true) (hown:∀ x∈NL,X.env.scope.names.lookup x=some .cell) (hN:[X.N[6]?,X.N[7]?,X.N[13]?]=NL.map some) (hst:X.stack=X.env::X.outer) (hfm:X.env.frame=some X.env.locals)
 (DN:cO X.K X.mg "parted" (top 33) ["one","other","kind"] fN fdN) (GN:aR X.prog X.w X.K X.mg X.base (uM X.prog X.w) 12 fN fdN ["one","other","kind"] (wL X.K C cT)) (BT:yM X.K cT cV cS)
 (I:Inv X Z U H s) (h:rn X.K C n_ qual cl pm U vs H Q):rT X.prog X.w X.K X.mg X.base 13 cV cS cM s X.stack vs H Q E:=
 Cy Mg ecl hcl hfn hown hN hst hfm (fun _ _=>rfl) (t:=fun E=>rO (wL X.K C cT) [] E (ju (jU 0) (ju (jU 1) (ju (jU 2) By)))) (fun f c' A outer s H E hr=>aD GN hr (by rfl) DN.mg DN.F.kp DN.b .nil (Cj fun _ _ _ h=>h) (aa (pv 0) (aa (pv 1) (aa (pv 2) aj))))
  (fun E x y o a d e nm fs H Q rx ry td te ka fl fo k kx=>⟨_,rfl,_,rfl,_,rfl,x,y,o,a,d,e,nm,fs,rfl,rx,ry,td,te,ka,fl,fo,k,kx⟩) BT I h
theorem Ly {X:Cx} {cl:List (Str×Addr)} (ecl:cl.map (·.1)=Qh)
 (hcl:∀ p∈cl,X.env.cells.lookup p.1=some p.2) (hfn:∀ x,X.fn x=true) (hown:∀ x∈NL,X.env.scope.names.lookup x=some .cell) (hN:[X.N[6]?,X.N[7]?,X.N[13]?]=NL.map some) (hst:X.stack=X.env::X.outer) (hfm:X.env.frame=some X.env.locals)
 (DN:cO X.K X.mg "parted" (top 33) ["one","other","kind"] fN fdN) (GN:aR X.prog X.w X.K X.mg X.base (uM X.prog X.w) 12 fN fdN ["one","other","kind"] (wL X.K C cT)) (BT:yM X.K cT cV cS)
 (I:Inv X Z U H s) (h:rn X.K C oE qual cl pm U vs H Q):rT X.prog X.w X.K X.mg X.base 13 cV cS cM s X.stack vs H Q E:=
 Cy Ji ecl hcl hfn hown hN hst hfm (fun _ _=>rfl) (t:=fun E=>rO (wL X.K C cT) [] E (ju (jU 1) (ju (jU 0) (ju (jU 2) By)))) (fun f c' A outer s H E hr=>aD GN hr (by rfl) DN.mg DN.F.kp DN.b .nil (Cj fun _ _ _ h=>h) (aa (pv 1) (aa (pv 0) (aa (pv 2) aj))))
  (fun E x y o a d e nm fs H Q rx ry td te ka fl fo k kx=>⟨_,rfl,_,rfl,_,rfl,y,x,o,a,e,d,nm,fs,rfl,ry,rx,te,td,ka,fl,fo,fun h2 h1=>⟨fun H' l s1=>(k h1 h2).1 H' (mj l) s1,fun c p H' l hp s1=>(k h1 h2).2 c p H' (mj l) hp s1⟩,fun hh=>kx hh.symm⟩) BT I h
end
theorem zX.keeps (lm:zX H T lp qual c' H1) (hf:H1 f'=none):∀ b u,H b=some u->(∀ qs,u≠.tbl qs)->(upd H1 f' o) b=some u:=fun b u e ne=>by
 have e9:=lm.keep e ne
 rw [aJ (aO e9 hf)];exact e9
theorem Dr.keeps (D:Dr H p dc) (k:∀ b u,H b=some u->(∀ qs,u≠.tbl qs)->H' b=some u):Dr H' p dc:=by
 obtain ⟨ms,ba,br,bs,e1,e2,rest⟩:=D.ex
 exact ⟨ms,ba,br,bs,k _ _ e1 (by intro _ z;cases z),k _ _ e2 (by intro _ z;cases z),rest⟩
theorem Rep.keeps (k:∀ b u,H b=some u->(∀ qs,u≠.tbl qs)->H' b=some u) (h:Rep K H v d):Rep K H' v d:=by
 refine h.map (fun a xs q=>?_) (fun a xs q=>?_)
 ·rcases q with (q|⟨o,q⟩)|q
  ·exact .inl (.inl (k _ _ q (by intro _ z;cases z)))
  ·exact .inl (.inr ⟨o,k _ _ q (by intro _ z;cases z)⟩)
  ·exact .inr q
 ·rcases q with (q|⟨o,q⟩)|q
  ·exact .inl (.inl (k _ _ q (by intro _ z;cases z)))
  ·exact .inl (.inr ⟨o,k _ _ q (by intro _ z;cases z)⟩)
  ·exact .inr q
theorem dj.keeps (k:∀ b u,H b=some u->(∀ qs,u≠.tbl qs)->H' b=some u) (h:dj C H o n a fs):dj C H' o n a fs:=by
 obtain ⟨⟨dx,ho⟩,xs,ha,pf⟩:=h
 exact ⟨⟨dx,k _ _ ho (by intro _ z;cases z)⟩,xs,k _ _ ha (by intro _ z;cases z),cY pf fun b ys e=>k _ _ e (by intro _ z;cases z)⟩
noncomputable abbrev qL:Str:="law.<locals>."++"<lambda>"
noncomputable abbrev xG:List Str:=["_law_script","_law_d","_law_turn","_law_title","_law_fields","_law_names","_law_one","_law_other","_law_way","_law_due","_law_rows","_law_field","_law_unlike","_law_sort"]
noncomputable def En (n:Nat):List (Str×Addr):=[("_law_sort",n+1+1+1+1+1),("_law_other",n+1+1+1+1),("_law_one",n+1+1+1)]
noncomputable abbrev lV:List Pos:=[Ma n_,Ma oE]
def Uu (K:PySem.W.Frag):TG:=G_ K 3 (oY (bH 0) (oY (bH 1) (oY (bH 2) Eb)))
def Uw (K:PySem.W.Frag):TG:=G_ K 2 (oY (bH 0) (oY (bH 1) Eb))
theorem dZ:aU xG ["_law_script"] (aC (top 61)):=⟨rfl,rfl,rfl,by decide +kernel,rfl,by decide +kernel,by decide +kernel⟩
theorem Cp (ha:H a=some (.tup xs)) (k:∀ p H',aA H H'->H' p=some (.tup (iM xs lo hi))->Q (.ref p) H'):Gv K (.ref a) lo hi H Q:=
 ⟨a,xs,rfl,b_.of ha,fun e=>k a H (aA.refl _) (by rw [e];exact ha),fun p hp=>k p _ (aA.new hp) ak⟩
theorem zc (ha:H a=some (.tup xs)) (hb:H b=some (.tup ys)) (hl:xs.length+ys.length≤sizeLine) (k:∀ p H',aA H H'->H' p=some (.tup (xs++ys))->Q (.ref p) H'):pN K (.ref a) (.ref b) H Q:=
 ⟨a,b,xs,ys,rfl,rfl,b_.of ha,b_.of hb,hl,fun e=>k b H (aA.refl _) (by rw [e];exact hb),fun e=>k a H (aA.refl _) (by rw [e,List.append_nil];exact ha),fun p hp=>k p _ (aA.new hp) ak⟩
theorem Bp:∀ {xs:List V},xs.length≤3->iM xs none (some 2)=xs.take 2/\iM xs (some 2) none=xs.drop 2
 |[],_=>⟨rfl,rfl⟩
 |[_],_=>⟨rfl,rfl⟩
 |[_,_],_=>⟨rfl,rfl⟩
 |[_,_,_],_=>⟨rfl,rfl⟩
 |_::_::_::_::_,h=>by simp at h
noncomputable def uh (f:fj):fj:=(f.1,f.2.1,if f.2.1+2<f.2.2 then f.2.1+2 else f.2.2)
theorem xN.cut (h:xN f):xN (uh f):=by
 refine ⟨h.nm,h.lo,h.lt,?_,?_⟩
 ·have:=h.le
  unfold uh
  dsimp only
  split <;> omega
 ·have:=h.hi
  unfold uh
  dsimp only
  split <;> omega
def FA (H:Hp) (a:Addr) (fs:List fj):Prop:=∃ xs,H a=some (.tup xs)/\Paired (gk H) xs fs
theorem FA.tk (h:FA H a fs) (k:TK H H'):FA H' a fs:=let ⟨xs,h1,h2⟩:=h;⟨xs,k _ _ h1,cY h2 k⟩
theorem u_ {α β:Type} {R:α->β->Prop}:∀ {xs:List α} {ys:List β} (n:Nat),Paired R xs ys->Paired R (xs.take n) (ys.take n)
 |_,_,0,_=>.nil
 |_,_,_+1,.nil=>.nil
 |_,_,n+1,.cons a t=>.cons a (u_ n t)
theorem vK {α β:Type} {R:α->β->Prop}:∀ {xs:List α} {ys:List β} (n:Nat),Paired R xs ys->Paired R (xs.drop n) (ys.drop n)
 |_,_,0,h=>h
 |_,_,_+1,.nil=>.nil
 |_,_,n+1,.cons _ t=>vK n t
theorem yW (h:TD d):TD (.tuple [.str "not",d]):=.node (by unfold gH;decide +kernel) (by decide +kernel) (by simp) fun e he=>by
 rw [List.mem_singleton.mp he];exact h
noncomputable def k_ (nm:Str) (fs:List fj) (d e:PyData):PyData:=
 if bN d=true/\bN e=true then .list [.str "",match (gB (fs.map c7)).find? (dN nm fs d e) with|none=>.none|some c=>.tuple (c.map .int)] else .list [.str "badtest",.none]
theorem ints_rep:∀ c:List Int,bK K H (c.map V.int) (c.map PyData.int)
 |[]=>.nil
 |_::r=>.cons (.int _) (ints_rep r)
theorem jx:∀ c:List Int,bI (c.map PyData.int)=0/\gf (c.map PyData.int)=0
 |[]=>⟨rfl,rfl⟩
 | _::r=>by
   have:=jx r
   rw [List.map_cons]
   simp only [bI,cu,gf,iJ]
   omega
theorem vZ (fl:fs.length≤3):cu (k_ nm fs d e)≤3/\iJ (k_ nm fs d e)≤100:=by
 unfold k_
 split
 ·cases hf:(gB (fs.map c7)).find? (dN nm fs d e) with
  |none=>exact ⟨by simp [cu,bI],by simp [iJ,gf]⟩
  | some c=>
    have h1:=Paired.length (gA.mp (List.mem_of_find?_eq_some hf))
    rw [List.length_map] at h1
    have h2:=jx c
    dsimp only
    refine ⟨?_,?_⟩
    ·simp only [cu,bI,h2.1]
     omega
    ·simp only [iJ,gf,h2.2,List.length_cons,List.length_nil,List.length_map]
     omega
 ·exact ⟨by simp [cu,bI],by simp [iJ,gf]⟩
theorem uV (rx:Rep K H x d) (ry:Rep K H y e) (td:TD d) (te:TD e) (ka:dj C H o nm a fs) (fl:fs.length≤4) (fo:∀ f∈fs,kj f)
 (k:∀ l H',aA H H'->Rep K H' (.ref l) (k_ nm fs d e)->Q (.ref l) H'):KJ K C H x y o a d e nm fs Q:=by
 refine ⟨rx,ry,td,te,ka,fl,fo,fun h1 h2 H' lt s l hl=>k l _ (s.trans (aA.new hl)) ?_,fun h1 h2 c p H' lt hp s l hl=>k l _ (s.trans (aA.new hl)) ?_,fun hh H' s l hl=>k l _ (s.trans (aA.new hl)) ?_⟩
 ·unfold k_
  rw [if_pos ⟨h1,h2⟩,oZ (mH nm fs d e) lt]
  exact .lst (bM.of ak) (.cons (.str _) (.cons .non .nil))
 ·unfold k_
  rw [if_pos ⟨h1,h2⟩,oZ (mH nm fs d e) lt]
  exact .lst (bM.of ak) (.cons (.str _) (.cons (.tup (b_.of (aA.new hl _ _ hp)) (ints_rep _)) .nil))
 ·unfold k_
  rw [if_neg (by
   rintro ⟨z1,z2⟩
   rcases hh with h|h
   ·rw [h] at z1;cases z1
   ·rw [h] at z2;cases z2)]
  exact .lst (bM.of ak) (.cons (.str _) (.cons .non .nil))
def Cq (K:PySem.W.Frag) (Tt:Addr) (ps:Array Value):Sp:=fun vs H Q _=>∃ (a:Addr) (ns:List Int),vs=[.ref a]/\bM K H a (ns.map V.int)/\ns.length≤63/\H Tt=some (.tbl ps)/\∀ H',Q (.bl true) H'
theorem Hg {K:PySem.W.Frag} {mg:Str->Option Value} {base:Heap} {f c Tt fB fP fW fS fA fSf fTe fBt fTo fDe fPa fAp fPt fPd fKI C cV cS cM cT:Addr} {fdB fdP fdW fdS fdA fdSf fdTe fdBt fdTo fdDe fdPa fdAp fdPt fdPd fdKI:FuncData} {oc kV doc pm ct:Value} {od an:Option Addr} {osl:Array (Option Value)} {ps:Array Value}
 (lk:K.lookup f=some ⟨oc,od,.func (PySem.W.fnOf "law" "law" (cR (top 61)) (bW (top 61)) (aC (top 61)) .none kV doc pm an (.ref c) ct),osl⟩) (hcd:PySem.W.codeIn K (.ref c) "law" = true)
 (HT:CodeHd base c Tt) (HB:base.BuiltinsAt mg Tt) (HG:mainGlobals≠Tt) (tri:TriplesOk ps.toList) (cn:∀ lp∈lV,codeAmong lp ps.toList=none)
 (T:Txt K mg) (KC:KCls K mg C) (BT:yM K cT cV cS)
 (DB:cO K mg "_law_begin" (top 37) ["_law_script"] fB fdB) (DP:cO K mg "_law_pick" (top 38) ["_law_d","_law_many"] fP fdP) (DW:cO K mg "_law_word" (top 42) ["_law_d"] fW fdW) (GW:aR P w K mg base bQ 3 fW fdW ["_law_d"] q9) (DS:cO K mg "_law_same" (top 41) ["_law_found","_law_due"] fS fdS)
 (DSf:cO K mg "_law_small_fields" (top 58) ["_law_d"] fSf fdSf) (GSf:aR P w K mg base bQ 5 fSf fdSf ["_law_d"] JC)
 (DTe:cO K mg "_law_test" (top 52) ["_law_d","_law_names","_law_kinds"] fTe fdTe) (GTe:aR P w K mg base bQ 10 fTe fdTe ["_law_d","_law_names","_law_kinds"] (Et K))
 (DBt:cO K mg "_law_bent_test" (top 56) ["_law_d","_law_test_here"] fBt fdBt) (GBt:aR P w K mg base bQ 9 fBt fdBt ["_law_d","_law_test_here"] (zP K 5))
 (DTo:cO K mg "_law_test_ok" (top 55) ["_law_test_here"] fTo fdTo) (GTo:aR P w K mg base bQ 12 fTo fdTo ["_law_test_here"] (Iv K))
 (DDe:cO K mg "_law_deep" (top 51) ["_law_test_here"] fDe fdDe) (GDe:aR P w K mg base bQ 8 fDe fdDe ["_law_test_here"] (qj K bz 8)) (DPa:cO K mg "_law_parts" (top 50) ["_law_test_here"] fPa fdPa) (GPa:aR P w K mg base bQ 8 fPa fdPa ["_law_test_here"] (qj K bR 8))
 (DAp:cO K mg "_law_all_pairs" (top 59) ["_law_rows","_law_field"] fAp fdAp) (GAp:aR P w K mg base bQ 1 fAp fdAp ["_law_rows","_law_field"] (Io K)) (DPt:cO K mg "_law_parts_them" (top 60) Im fPt fdPt) (GPt:aR P w K mg base bQ 6 fPt fdPt Im (Ms K))
 (DPd:cO K mg "parted" (top 33) ["one","other","kind"] fPd fdPd) (GPd:aR P w K mg base (uM P w) 12 fPd fdPd ["one","other","kind"] (wL K C cT)) (MkK:Mk K C fKI) (GKI:aR P w K mg base bQ 4 fKI fdKI ["self","name","fields"] (zr C)) (bKI:Binds K fdKI ["self","name","fields"] [])
 (GA:ph P w K mg base bQ 14 fA fdA ["_law_ask_here"] (rT P w K mg base 13 cV cS cM)) (hA:mg "_law_ask" = some (.ref fA)) (kA:keepIn K (.ref fA)=true) (bA:Binds K fdA ["_law_ask_here"] []) :
 aR P w K mg base bQ 15 f (PySem.W.fnOf "law" "law" (cR (top 61)) (bW (top 61)) (aC (top 61)) .none kV doc pm an (.ref c) ct) ["_law_script"] (Cq K Tt ps):=by
 have GB:aR P w K mg base bQ 1 fB fdB ["_law_script"] (vo K):=xY DB.F T
 have GP:aR P w K mg base bQ 1 fP fdP ["_law_d","_law_many"] gj:=eQ DP.F T
 have GS:aR P w K mg base bQ 5 fS fdS ["_law_found","_law_due"] (spS K 5):=Bh DS T 5
 refine rA lk hcd dZ (fun vs H Q E h=>?_) (fun A outer s H vs Q E hr h=>?_)
 ·obtain ⟨a,ns,rfl,_⟩:=h
  rfl
 ·obtain ⟨sa,ns,rfl,hS,hlen,hTb,k⟩:=h
  have hr1:bF 1 _:=hr.mono (by decide)
  have hr3:bF 3 _:=hr.mono (by decide)
  have hr5:bF 5 _:=hr.mono (by decide)
  have hr6:bF 6 _:=hr.mono (by decide)
  have hr8:bF 8 _:=hr.mono (by decide)
  have hr9:bF 9 _:=hr.mono (by decide)
  have hr10:bF 10 _:=hr.mono (by decide)
  have hr12:bF 12 _:=hr.mono (by decide)
  have CT:vC (iK bQ P w K mg base xG "law" (aC (top 61)) f (.ref c) A outer s H E) c Tt:=⟨rfl,HT,HB,HG⟩
  have h1:∀ q∈En s.heap.objs.size,(PyProof.Rows.envOfC "law" (aC (top 61)) s.heap.objs.size f (.ref c)).cells.lookup q.1=some q.2:=by
   intro q hq
   rcases List.mem_cons.mp hq with rfl|hq
   ·rfl
   ·rcases List.mem_cons.mp hq with rfl|hq
    ·rfl
    ·cases List.mem_singleton.mp hq
     rfl
  have h3:∀ x∈NL,(aC (top 61)).names.lookup x=some .cell:=by decide +kernel
  refine ⟨_,(au (bh (i:=1) dZ.nd rfl (by first|exact Or.inl rfl|exact Or.inr rfl) (aD GB hr1 rfl DB.mg DB.F.kp DB.b .nil aN (aa (pv 0) aj)))
   (au (eG PassesOwn.leaving rfl (fU rfl T.range (aa aq aj)) (bj (i:=2) dZ.nd rfl (by first|exact Or.inl rfl|exact Or.inr rfl))
   (au (bh (i:=3) dZ.nd rfl (by first|exact Or.inl rfl|exact Or.inr rfl) (aD GW hr3 rfl DW.mg DW.F.kp DW.b .nil aN (aa (pv 1) aj)))
   (au (bh (i:=4) dZ.nd rfl (by first|exact Or.inl rfl|exact Or.inr rfl) (aD GSf hr5 rfl DSf.mg DSf.F.kp DSf.b .nil aN (aa (pv 1) aj)))
   (au (bh (i:=4) dZ.nd rfl (by first|exact Or.inl rfl|exact Or.inr rfl) (aZ (r:=pN K) iz (cj dU (pv 4) cN (cL aq)) (ig gF (by rfl) T.tuple e_ (aa (gD (g:=Uu K) (own:=["_law_word_here","_law_low","_law_high"]) (js:=[]) (N':=["_law_word_here","_law_low","_law_high"]) (bw.of (osc:=aC (top 61)) (N:=xG) rfl rfl ⟨rfl,by decide +kernel,by decide +kernel,by decide +kernel,rfl,by decide +kernel⟩) rfl (gR (cj dU (pv 4) (cL aq) cN)) (fun _ _ _ _ _=>(lq rfl (cD (bj (i:=0) (show List.Nodup (["_law_word_here","_law_low","_law_high"]:List Str) by decide +kernel) rfl (Or.inl rfl) (Or.inr rfl)) (cD (bj (i:=1) (show List.Nodup (["_law_word_here","_law_low","_law_high"]:List Str) by decide +kernel) rfl (Or.inl rfl) (Or.inr rfl)) (cD (bj (i:=2) (show List.Nodup (["_law_word_here","_law_low","_law_high"]:List Str) by decide +kernel) rfl (Or.inl rfl) (Or.inr rfl)) je))))) (fun _ _ _ _ _=>cZ) (fun _ _ _ _ _=>(bD (aa (pv 0) (aa (pv 1) (aa (aM (vY rfl) (by rfl) T.min DX (aa (pv 2) (aa (aZ cW (pv 1) aq) aj))) aj)))))) aj))))
   (au (bh (i:=5) dZ.nd rfl (by first|exact Or.inl rfl|exact Or.inr rfl) (aZ yc (gD (g:=bH 0) (own:=["_law_field"]) (js:=[]) (N':=["_law_field"]) (bw.of (osc:=aC (top 61)) (N:=xG) rfl rfl ⟨rfl,by decide +kernel,by decide +kernel,by decide +kernel,rfl,by decide +kernel⟩) rfl (gR (pv 4)) (fun _ _ _ _ _=>(bj (i:=0) (show List.Nodup (["_law_field"]:List Str) by decide +kernel) rfl (Or.inl rfl) (Or.inr rfl))) (fun _ _ _ _ _=>cZ) (fun _ _ _ _ _=>(aY (r:=xg K) aV (pv 0) aq (fun _ _=>rfl)))) (bU (aa (aD GW hr3 rfl DW.mg DW.F.kp DW.b .nil aN (aa (pv 1) aj)) aj))))
   (au (bh (i:=6) dZ.nd rfl (by first|exact Or.inl rfl|exact Or.inr rfl) (aD GTe hr10 rfl DTe.mg DTe.F.kp DTe.b .nil aN (aa (pv 1) (aa (pv 5) (aa (bU (aa (pv 3) (aa (aY (r:=zQ K) dG (pv 5) (jG iB aq) (fun _ _=>rfl)) aj))) aj)))))
   (au (bh (i:=7) dZ.nd rfl (by first|exact Or.inl rfl|exact Or.inr rfl) (aD GTe hr10 rfl DTe.mg DTe.F.kp DTe.b .nil aN (aa (pv 1) (aa (pv 5) (aa (bU (aa (pv 3) (aa (aY (r:=zQ K) dG (pv 5) (jG iB aq) (fun _ _=>rfl)) aj))) aj)))))
   (au (bh (i:=8) dZ.nd rfl (by first|exact Or.inl rfl|exact Or.inr rfl) (aD GP hr1 rfl DP.mg DP.F.kp DP.b .nil aN (aa (pv 1) (aa aq aj))))
   (au (bu (aH bx (pv 8) aq (aL _)) (aB (bh (i:=7) dZ.nd rfl (by first|exact Or.inl rfl|exact Or.inr rfl) (eZ (PW.pt (kJ (aH nR (aD GDe hr8 rfl DDe.mg DDe.F.kp DDe.b .nil aN (aa (pv 6) aj)) aq (aL _)) (jV (aH nR (aD GPa hr8 rfl DPa.mg DPa.F.kp DPa.b .nil aN (aa (pv 6) aj)) aq (aL _))))) (bD (aa aF (aa (bD (aa aF (aa (pv 6) aj))) aj))) (pv 6)))) aP)
   (au (bu (aH bx (pv 8) aq (aL _)) (aB (bh (i:=6) dZ.nd rfl (by first|exact Or.inl rfl|exact Or.inr rfl) (aD GBt hr9 rfl DBt.mg DBt.F.kp DBt.b .nil aN (aa (pv 1) (aa (pv 6) aj))))) aP)
   (au (bh (i:=9) dZ.nd rfl (by first|exact Or.inl rfl|exact Or.inr rfl) (eZ (PW.pt (kJ (dC (aD GTo hr12 rfl DTo.mg DTo.F.kp DTo.b .nil aN (aa (pv 6) aj))) (jV (dC (aD GTo hr12 rfl DTo.mg DTo.F.kp DTo.b .nil aN (aa (pv 7) aj)))))) (bU aj) (bU (aa aF (aa iZ aj)))))
   (au (bu (aH (yz hr.units) (pv 9) (bU aj) (aL _)) (au (bh (i:=10) dZ.nd rfl (by first|exact Or.inl rfl|exact Or.inr rfl) (bU (aa (bD aj) aj)))
   (au (eG PassesOwn.leaving rfl (gR (pv 4)) (bj (i:=11) dZ.nd rfl (by first|exact Or.inl rfl|exact Or.inr rfl))
   (aB (fX (i:=10) (g:=Uw K) (own:=["_law_row","_law_number_here"]) (js:=[]) (N':=["_law_row","_law_number_here"]) (bw.of (osc:=aC (top 61)) (N:=xG) rfl rfl ⟨rfl,by decide +kernel,by decide +kernel,by decide +kernel,rfl,by decide +kernel⟩) rfl dZ.nd rfl rfl (eU (aD GAp hr1 rfl DAp.mg DAp.F.kp DAp.b .nil aN (aa (pv 10) (aa (pv 11) aj)))) (fun _ _ _ _ _=>(lq rfl (cD (bj (i:=0) (show List.Nodup (["_law_row","_law_number_here"]:List Str) by decide +kernel) rfl (Or.inl rfl) (Or.inr rfl)) (cD (bj (i:=1) (show List.Nodup (["_law_row","_law_number_here"]:List Str) by decide +kernel) rfl (Or.inl rfl) (Or.inr rfl)) je)))) (fun _ _ _ _ _=>cZ) (fun _ _ _ _ _=>(aZ (r:=pN K) iz (pv 0) (bD (aa (pv 1) aj)))))))
   (au (fX (i:=12) (g:=bH 0) (own:=["_law_row"]) (js:=[6,7,3,4]) (N':=["_law_row","_law_one","_law_other","_law_title","_law_fields"]) (bw.of (osc:=aC (top 61)) (N:=xG) rfl rfl ⟨rfl,by decide +kernel,by decide +kernel,by decide +kernel,rfl,by decide +kernel⟩) rfl dZ.nd rfl rfl (eU (pv 10)) (fun _ _ _ _ _=>(bj (i:=0) (show List.Nodup (["_law_row","_law_one","_law_other","_law_title","_law_fields"]:List Str) by decide +kernel) rfl (Or.inl rfl) (Or.inr rfl))) (fun _ _ _ _ _=>m_ (dC (aD GPt hr6 rfl DPt.mg DPt.F.kp DPt.b .nil aN (aa (pv 1) (aa (pv 2) (aa (pv 3) (aa (pv 4) (aa (pv 0) aj)))))))) (fun _ _ _ _ _=>(pv 0)))
   (aB (bh (i:=9) dZ.nd rfl (by first|exact Or.inl rfl|exact Or.inr rfl) (bU (aa aF (aa (eZ (aH (Ea hr.units) (pv 12) (bU aj) (aL _)) (aY (r:=zQ K) dG (pv 12) aq (fun _ _=>rfl)) iZ) aj)))))))) aP)
   (au (bh (i:=13) dZ.nd rfl (by first|exact Or.inl rfl|exact Or.inr rfl) (Bt (E:=E0) MkK GKI hr5 rfl KC.mg bKI .nil aN (aa (pv 3) (aa (pv 4) aj))))
   (au (bu (gQ (dC (aD GS hr5 rfl DS.mg DS.F.kp DS.b .nil aN (aa (rY (E:=E0) (r:=rn K C n_ qL (En s.heap.objs.size) ((mg "__name__").getD .none)) GA hr (by rfl) hA kA bA aN (fun Z U H s' vs Q I h=>M7 rfl h1 (fun _=>rfl) h3 rfl rfl rfl DPd GPd BT I h) (aa (yx CT rfl rfl) aj)) (aa (pv 9) aj))))) (aB ir) aP)
   (aB (bu (gQ (dC (aD GS hr5 rfl DS.mg DS.F.kp DS.b .nil aN (aa (rY (E:=E0) (r:=rn K C oE qL (En s.heap.objs.size) ((mg "__name__").getD .none)) GA hr (by rfl) hA kA bA aN (fun Z U H s' vs Q I h=>Ly rfl h1 (fun _=>rfl) h3 rfl rfl rfl DPd GPd BT I h) (aa (yx CT rfl rfl) aj)) (aa (pv 9) aj))))) (aB ir) aP))))))))))))))))
   (aB (aK km)))),?_⟩
  refine ⟨_,rfl,sa,ns,rfl,hS,hlen,fun p dc H0 D0 s0 _=>?_⟩
  have tb0:gK H0 Tt qL lV:=⟨ps,s0 _ _ hTb,tri,fun lp m=>.inl (cn lp m)⟩
  refine ⟨2,rfl,by decide,by decide,lD (n:=2) (fun i U H'=>(∃ u2 u3 u4 u5 u6 u7 u8 u9 u10 u11 u12 u13,U=[some (.ref sa),some (.ref p),u2,u3,u4,u5,u6,u7,u8,u9,u10,u11,u12,u13])/\Dr H' p dc/\gK H' Tt qL lV) ⟨⟨none,none,none,none,none,none,none,none,none,none,none,none,rfl⟩,D0,tb0⟩ ?_ ?_⟩
  ·rintro i U H1 hi ⟨⟨u2,u3,u4,u5,u6,u7,u8,u9,u10,u11,u12,u13,rfl⟩,D1,tb1⟩
   dsimp only [bH,List.set]
   refine ⟨_,rfl,p,dc,rfl,D1,fun nm H2 hnm D2 b2=>?_⟩
   have tb2:=tb1.but D1 b2
   dsimp only [bH,List.set]
   refine ⟨_,rfl,p,dc,rfl,D2,fun a0 xs0 fs0 H3 ha0 pf0 fl0 sm0 nd0 D3 b3=>?_⟩
   have tb3:=tb2.but D2 b3
   clear tb1 tb2 D1 D2 b2 b3
   have xl0:=Paired.length pf0
   obtain ⟨ct1,ct2⟩:=Bp (xs:=xs0) (by omega)
   dsimp only [bH,List.set]
   refine gb (fun σ' H'=>∃ (a:Addr) (fs:List fj),σ'=[some (.ref sa),some (.ref p),some (.int (0+(i:Int))),some (.str nm),some (.ref a),u5,u6,u7,u8,u9,u10,u11,u12,u13]/\FA H' a fs/\fs.length≤3/\(∀ f∈fs,xN f)/\(fs.map (·.1)).Nodup/\Dr H' p dc/\gK H' Tt qL lV) ?nx1 fun N hN=>?st1
   case st1=>
    refine ⟨_,rfl,2,rfl,Cp ha0 fun p1 H4 s4 hp1=>?_⟩
    rw [ct1] at hp1
    refine ⟨_,rfl,2,rfl,?_⟩
    dsimp only [lR]
    refine Cp (s4 _ _ ha0) fun p2 H5 s5 hp2=>⟨p2,rfl,⟨_,b_.of hp2⟩,?_⟩
    rw [ct2] at hp2
    have s45:=s4.trans s5
    have pd5:=cY (vK 2 pf0) s45.tkT
    have dl:(xs0.drop 2).length≤3:=by rw [List.length_drop];omega
    refine iw (K:=K) (a:=p2) (xs:=xs0.drop 2) (fun j zs σ' H'=>(∃ u v w,σ'=[u,v,w])/\aA H5 H'/\Paired (gk H') zs (((fs0.drop 2).take j).map uh)) (Nat.le_trans dl (by decide)) ⟨⟨none,none,none,rfl⟩,aA.refl _,.nil⟩ (fun j zs σ' H' _ z=>b_.of (z.2.1 _ _ hp2)) ?_ ?_
    ·rintro j y zs σ' H6 hy hz ⟨⟨u,v,w,rfl⟩,s6,pz⟩ M hM
     obtain ⟨g,hg,b,rfl,hb⟩:=cH pd5 hy
     refine ⟨b,_,rfl,b_.of (s6 _ _ hb),rfl,_,_,rfl,_,_,rfl,_,_,rfl,rfl,?_⟩
     dsimp only [bH,List.set]
     refine ⟨_,rfl,_,rfl,_,rfl,_,rfl,_,_,rfl,rfl,_,_,rfl,(by show 3≤sizeLine;decide),fun p3 hp3=>hM _ _ _ (by rw [List.length_append,hz];rfl) ⟨⟨_,_,_,rfl⟩,s6.trans (aA.new hp3),?_⟩⟩
     rw [List.take_add_one,hg,List.map_append]
     exact Paired.snoc2 ⟨p3,rfl,ak⟩ (cY pz (aA.new hp3).tkT)
    ·rintro zs σ' H6 hz ⟨_,s6,pz⟩
     rw [Paired.length pd5,List.take_length] at pz
     refine ⟨by rw [hz];exact Nat.le_trans dl (by decide),fun l hl=>⟨l,zs,rfl,.inl ⟨bM.of ak,fun t ht=>?_⟩⟩⟩
     have s7:=s6.trans ((aA.new (o:=.lst zs) hl).trans (aA.new (o:=.tup zs) ht))
     have s57:=s5.trans s7
     have hp17:=s57 _ _ hp1
     refine zc hp17 ak ?_ fun q H8 s8 hq=>?_
     ·rw [hz,List.length_take]
      exact Nat.le_trans (show _≤10 by omega) (by decide)
     have S8:=(s4.trans s57).trans s8
     refine hN _ _ ⟨q,fs0.take 2++(fs0.drop 2).map uh,rfl,⟨_,hq,?_⟩,?_,fun f hf=>?_,?_,D3.mono S8,tb3.same S8⟩
     ·exact Paired.app2 (cY (u_ 2 pf0) S8.tkT) (cY pz (((aA.new (o:=.lst zs) hl).trans (aA.new (o:=.tup zs) ht)).trans s8).tkT)
     ·rw [List.length_append,List.length_map,List.length_take,List.length_drop]
      omega
     ·rcases List.mem_append.mp hf with hf|hf
      ·exact sm0 f (List.mem_of_mem_take hf)
      ·obtain ⟨g,hg,rfl⟩:=List.mem_map.mp hf
       exact (sm0 g (List.mem_of_mem_drop hg)).cut
     ·have e:(fs0.take 2++(fs0.drop 2).map uh).map (·.1)=fs0.map (·.1):=by
       rw [List.map_append,List.map_map]
       have:((fun x:fj=>x.1) ∘ uh)=fun x:fj=>x.1:=rfl
       rw [this,← List.map_append,List.take_append_drop]
      rw [e]
      exact nd0
   rintro σ' H4 ⟨a,fs,rfl,fa4,fl,sm,nd,D4,tb4⟩
   clear tb3 D3 pf0 ha0
   refine gb (fun σ' H'=>∃ (ln:Addr) (ys:List Str),σ'=[some (.ref sa),some (.ref p),some (.int (0+(i:Int))),some (.str nm),some (.ref a),some (.ref ln),u6,u7,u8,u9,u10,u11,u12,u13]/\FA H' a fs/\H' ln=some (.lst (ys.map V.str))/\ys≠[]/\ys.length≤5/\(∀ y∈ys,Nm y)/\Dr H' p dc/\gK H' Tt qL lV) ?nx2 fun N hN=>?st2
   case st2=>
    obtain ⟨xs,ha,pf⟩:=id fa4
    have pl:=Paired.length pf
    refine ⟨_,rfl,a,rfl,⟨xs,b_.of ha⟩,?_⟩
    refine iw (K:=K) (a:=a) (xs:=xs) (fun i zs σ' H'=>(∃ v,σ'=[v])/\H'=H4/\zs=((fs.map (·.1)).take i).map V.str) (Nat.le_trans (show xs.length≤4 by omega) (by decide)) ⟨⟨none,rfl⟩,rfl,rfl⟩ (fun i zs σ' H' _ ⟨_,e,_⟩=>by rw [e];exact b_.of ha) ?_ ?_
    ·rintro i y zs σ' H5 hy hzs ⟨⟨v,rfl⟩,rfl,rfl⟩ N' hN
     obtain ⟨⟨fn,lo,hi⟩,hfi,b,rfl,hb⟩:=cH pf hy
     refine ⟨_,rfl,b,_,_,_,rfl,rfl,b_.of hb,aG (j:=0) rfl,?_⟩
     exact hN _ _ _ (by rw [List.length_append,hzs];rfl) ⟨⟨_,rfl⟩,rfl,by rw [List.take_add_one,List.getElem?_map,hfi];simp⟩
    ·rintro zs σ' H5 hzs ⟨⟨v,rfl⟩,rfl,rfl⟩
     rw [List.take_of_length_le (by rw [List.length_map];omega)]
     refine ⟨Nat.le_trans (show ((fs.map (·.1)).map V.str).length≤4 by rw [List.length_map,List.length_map];omega) (by decide),fun l hl=>?_⟩
     have s1:aA H5 (upd H5 l (.lst ((fs.map (·.1)).map V.str))):=aA.new hl
     have h1':(upd H5 l (.lst ((fs.map (·.1)).map V.str))) l=some (.lst ((fs.map (·.1)).map V.str)):=ak
     generalize upd H5 l (.lst ((fs.map (·.1)).map V.str))=H6 at s1 h1' ⊢
     have D6:=D4.mono s1
     refine ⟨_,rfl,p,dc,rfl,D6,fun w1 H7 hw1 D7 b7=>⟨(show 1≤sizeLine by decide),fun l2 hl2=>?_⟩⟩
     have h4:H7 l=some (.lst ((fs.map (·.1)).map V.str)):=b7 _ _ h1' (D6.ne h1' (by intro _ z;cases z))
     refine ⟨l,l2,_,_,rfl,rfl,aA.new hl2 _ _ h4,ak,?_,fun l3 hl3=>?_⟩
     ·have big:1000≤sizeLine:=by decide
      rw [List.length_map,List.length_map,List.length_singleton]
      omega
     ·have s9:=(aA.new (o:=.lst [.str w1]) hl2).trans (aA.new (o:=.lst ((fs.map (·.1)).map V.str++[.str w1])) hl3)
      have b9:d9 p H5 (upd (upd H7 l2 (.lst [.str w1])) l3 (.lst ((fs.map (·.1)).map V.str++[.str w1]))):=(s1.but.trans b7).trans s9.but
      refine hN _ _ ⟨l3,fs.map (·.1)++[w1],rfl,fa4.tk (TK.but D4 b9),?_,by simp,by rw [List.length_append,List.length_map,List.length_singleton];omega,fun y m=>?_,(D7.new hl2).new hl3,tb4.but D4 b9⟩
      ·rw [ak,List.map_append];rfl
      ·rcases List.mem_append.mp m with m|m
       ·obtain ⟨f1,m1,rfl⟩:=List.mem_map.mp m
        exact (sm f1 m1).nm
       ·rw [List.mem_singleton.mp m];exact hw1
   rintro σ' H5 ⟨ln,ys,rfl,fa5,hln5,yne,yl,ynm,D5,tb5⟩
   clear tb4 D4 fa4
   have tst:∀ {H':Hp} (R:V->Hp->Prop),Dr H' p dc->H' ln=some (.lst (ys.map V.str))->(∀ x d H'',Rep K H'' x d->Tr 5 d->Dr H'' p dc->d9 p H' H''->R x H'')->∀ (l1:Addr),H' l1=none->Et K [.ref p,.ref ln,.ref l1] (upd H' l1 (.lst [.str nm,.str (ys.getLast yne)])) R E0:=fun R D' hn kk l1 hl1=>by
    refine ⟨p,dc,ln,l1,ys,[nm,ys.getLast yne],rfl,D'.new hl1,bM.of (aA.new hl1 _ _ hn),bM.of ak,yne,by simp,by omega,by simp,ynm,?_,fun x d H'' rx tx _ D'' b''=>kk x d H'' rx tx D'' ((d9.new hl1).trans b'')⟩
    intro y hy
    simp at hy
    rcases hy with rfl|rfl
    ·exact hnm
    ·exact ynm _ (List.getLast_mem yne)
   have lastV:qe (ys.map V.str) (-1)=some (.str (ys.getLast yne)):=by
    have hl:0<ys.length:=List.length_pos_iff.mpr yne
    unfold qe Ga
    rw [if_neg (by decide),if_pos (by rw [List.length_map];omega)]
    have e:(-1+((ys.map V.str).length:Int)).toNat=ys.length-1:=by rw [List.length_map];omega
    show (ys.map V.str)[(-1+((ys.map V.str).length:Int)).toNat]?=_
    rw [e,List.getElem?_map,List.getElem?_eq_getElem (by omega),List.getLast_eq_getElem]
    rfl
   refine ⟨_,rfl,_,rfl,_,rfl,_,rfl,_,rfl,ln,_,_,_,rfl,rfl,bM.of hln5,lastV,(by show 2≤sizeLine;decide),fun l1 hl1=>tst _ D5 hln5 (fun x1 d1 H6 rx1 tx1 D6 b6=>?_) l1 hl1⟩
   have fa6:=fa5.tk (TK.but D5 b6)
   have hln6:H6 ln=some (.lst (ys.map V.str)):=b6 _ _ hln5 (D5.ne hln5 (by intro _ z;cases z))
   have tb6:=tb5.but D5 b6
   clear b6 tb5 fa5 D5 hln5 hl1
   dsimp only [bH,List.set]
   refine ⟨_,rfl,_,rfl,_,rfl,_,rfl,_,rfl,ln,_,_,_,rfl,rfl,bM.of hln6,lastV,(by show 2≤sizeLine;decide),fun l2 hl2=>tst _ D6 hln6 (fun x2 d2 H7 rx2 tx2 D7 b7=>?_) l2 hl2⟩
   have fa7:=fa6.tk (TK.but D6 b7)
   have rx1:=D6.rep b7 rx1
   have tb7:=tb6.but D6 b7
   clear b7 tb6 fa6 D6 hln6 hl2 tst lastV
   dsimp only [bH,List.set]
   refine ⟨_,rfl,p,dc,_,rfl,D7,by decide,by decide,fun wy H8 _ _ D8 b8=>?_⟩
   have fa8:=fa7.tk (TK.but D7 b8)
   have rx1:=D7.rep b8 rx1
   have rx2:=D7.rep b8 rx2
   have tb8:=tb7.but D7 b8
   clear b8 tb7 fa7 D7
   dsimp only [bH,List.set]
   refine gb (fun σ' H'=>∃ (x2:V) (d2:PyData),σ'=[some (.ref sa),some (.ref p),some (.int (0+(i:Int))),some (.str nm),some (.ref a),some (.ref ln),some x1,some x2,some (.int wy),u9,u10,u11,u12,u13]/\Rep K H' x1 d1/\Rep K H' x2 d2/\TD d2/\cu d2≤8/\(∃ es,d2=.tuple es)/\FA H' a fs/\Dr H' p dc/\gK H' Tt qL lV) ?nx3 fun N hN=>?st3
   case st3=>
    have tt:∀ {d:PyData},Tr 5 d->∃ es,d=.tuple es:=fun t=>by
     obtain ⟨f,r,rfl⟩:=bV t.td t.sh
     exact ⟨_,rfl⟩
    refine ⟨_,rfl,rfl,_,rfl,dM (fun _=>?_) (fun _=>hN _ _ ⟨x2,d2,rfl,rx1,rx2,tx2.td,by have:=tx2.dp;omega,tt tx2,fa8,D8,tb8⟩)⟩
    have de1:bz d1≤8:=Nat.le_trans (mz tx1.td tx1.sh) (by have:=tx1.dp;omega)
    refine ⟨_,rfl,x1,d1,rfl,rx1,tx1.td,tx1.sh,de1,by decide,fun H9 s9=>⟨_,_,rfl,rfl,_,rfl,dM (fun _=>?_) (fun _=>?_)⟩⟩
    ·refine ⟨_,rfl,x1,d1,rfl,rx1.same s9,tx1.td,tx1.sh,de1,by decide,fun H10 s10=>⟨_,_,rfl,rfl,_,rfl,dM (fun _=>?_) (fun _=>?_)⟩⟩
     ·have S10:=s9.trans s10
      refine ⟨_,rfl,(by show 2≤sizeLine;decide),fun p1 hp1=>⟨(by show 2≤sizeLine;decide),fun p2 hp2=>?_⟩⟩
      have t1:=aA.new (o:=.tup [.str "not",x1]) hp1
      have t2:=aA.new (o:=.tup [.str "not",.ref p1]) hp2
      have S12:=(S10.trans t1).trans t2
      refine hN _ _ ⟨.ref p2,.tuple [.str "not",.tuple [.str "not",d1]],rfl,rx1.same S12,.tup (b_.of ak) (.cons (.str _) (.cons (.tup (b_.of (t2 _ _ ak)) (.cons (.str _) (.cons (rx1.same S12) .nil))) .nil)),yW (yW tx1.td),?_,⟨_,rfl⟩,fa8.tk S12.tkT,D8.mono S12,tb8.same S12⟩
      have:=tx1.dp
      simp only [cu,bI]
      omega
     ·exact ⟨_,rfl,hN _ _ ⟨x1,d1,rfl,rx1.same (s9.trans s10),rx1.same (s9.trans s10),tx1.td,by have:=tx1.dp;omega,tt tx1,fa8.tk (s9.trans s10).tkT,D8.mono (s9.trans s10),tb8.same (s9.trans s10)⟩⟩
    ·exact ⟨_,rfl,hN _ _ ⟨x1,d1,rfl,rx1.same s9,rx1.same s9,tx1.td,by have:=tx1.dp;omega,tt tx1,fa8.tk s9.tkT,D8.mono s9,tb8.same s9⟩⟩
   clear rx1 rx2 tx2 tb8 D8 fa8
   rintro σ' H9 ⟨x2,d2,rfl,rx1,rx2,td2,dp2,⟨es2,e2⟩,fa9,D9,tb9⟩
   refine gb (fun σ' H'=>∃ (x1:V) (d1:PyData),σ'=[some (.ref sa),some (.ref p),some (.int (0+(i:Int))),some (.str nm),some (.ref a),some (.ref ln),some x1,some x2,some (.int wy),u9,u10,u11,u12,u13]/\Rep K H' x1 d1/\TD d1/\cu d1≤8/\Rep K H' x2 d2/\FA H' a fs/\Dr H' p dc/\gK H' Tt qL lV) ?nx4 fun N hN=>?st4
   case st4=>
    refine ⟨_,rfl,rfl,_,rfl,dM (fun _=>?_) (fun _=>hN _ _ ⟨x1,d1,rfl,rx1,tx1.td,by have:=tx1.dp;omega,rx2,fa9,D9,tb9⟩)⟩
    refine ⟨_,rfl,_,rfl,p,dc,x1,d1,rfl,D9,rx1,tx1,by decide,fun y e H10 ry be D10 b10 _=>?_⟩
    exact hN _ _ ⟨y,e,rfl,ry,be.td,Nat.le_trans be.dp (by decide),D9.rep b10 rx2,fa9.tk (TK.but D9 b10),D10,tb9.but D9 b10⟩
   clear rx1 rx2 tx1 tb9 D9 fa9
   rintro σ' H10 ⟨x1,d1,rfl,rx1,td1,dp1,rx2,fa10,D10,tb10⟩
   obtain ⟨xsf,haf,pff⟩:=id fa10
   have fl4:fs.length≤4:=by omega
   refine gb (fun σ' H'=>∃ (l:Addr),σ'=[some (.ref sa),some (.ref p),some (.int (0+(i:Int))),some (.str nm),some (.ref a),some (.ref ln),some x1,some x2,some (.int wy),some (.ref l),u10,u11,u12,u13]/\aA H10 H'/\H' l=some (.lst (if bN d1=true/\bN d2=true then [] else [.str "badtest",.non]))) ?nx6 fun N2 hN2=>?st6
   case st6=>
    refine ⟨_,rfl,x1,d1,rfl,rx1,td1,dp1,fun H11 s11=>⟨_,rfl,?_⟩⟩
    have bad:∀ {H':Hp},aA H10 H'->¬ (bN d1=true/\bN d2=true)->(2≤sizeLine/\∀ l,H' l=none->N2 [some (.ref sa),some (.ref p),some (.int (0+(i:Int))),some (.str nm),some (.ref a),some (.ref ln),some x1,some x2,some (.int wy),some (.ref l),u10,u11,u12,u13] (upd H' l (.lst [.str "badtest",.non]))):=fun s' no=>⟨by decide,fun l hl=>hN2 _ _ ⟨l,rfl,s'.trans (aA.new hl),by rw [if_neg no];exact ak⟩⟩
    cases t1:bN d1 with
    |false=>exact bZ rfl (bZ rfl (bad s11 (by rw [t1];simp)))
    | true=>
      refine cI rfl ⟨_,rfl,x2,d2,rfl,rx2.same s11,td2,dp2,fun H12 s12=>⟨_,rfl,?_⟩⟩
      cases t2:bN d2 with
      |false=>exact bZ rfl (bad (s11.trans s12) (by rw [t2];simp))
      |true=>exact cI rfl ⟨by decide,fun l hl=>hN2 _ _ ⟨l,rfl,(s11.trans s12).trans (aA.new hl),by rw [if_pos ⟨t1,t2⟩];exact ak⟩⟩
   rintro σ' H11 ⟨l0,rfl,s11,hl0⟩
   refine gb (fun σ' H'=>∃ (l:Addr) (u10 u11 u12:Option V),σ'=[some (.ref sa),some (.ref p),some (.int (0+(i:Int))),some (.str nm),some (.ref a),some (.ref ln),some x1,some x2,some (.int wy),some (.ref l),u10,u11,u12,u13]/\Rep K H' (.ref l) (k_ nm fs d1 d2)/\aA H10 H') ?nx5 fun N hN=>?st5
   case st5=>
    by_cases tt:bN d1=true/\bN d2=true
    ·rw [if_pos tt] at hl0
     have T1:qR d1:=⟨td1,tt.1⟩
     have T2:qR d2:=⟨td2,tt.2⟩
     refine ⟨_,rfl,(by show 0≤sizeLine;decide),fun q0 hq0=>?_⟩
     have s12:aA H11 (upd H11 q0 (.lst [])):=aA.new hq0
     refine ⟨.list [],.list [],.lst (bM.of (s12 _ _ hl0)) .nil,.lst (bM.of ak) .nil,by decide,_,rfl,cI (by decide) ?_⟩
     generalize upd H11 q0 (.lst [])=H12 at s12 ⊢
     refine ⟨(by show 0≤sizeLine;decide),fun p0 hp0=>⟨(by show 1≤sizeLine;decide),fun r0 hr0=>?_⟩⟩
     have s13:=(aA.new (o:=.tup []) hp0).trans (aA.new (o:=.lst [.ref p0]) hr0)
     have e13:upd (upd H12 p0 (.tup [])) r0 (.lst [.ref p0]) r0=some (.lst [.ref p0]):=ak
     have e13':upd (upd H12 p0 (.tup [])) r0 (.lst [.ref p0]) p0=some (.tup []):=aA.new hr0 _ _ ak
     generalize upd (upd H12 p0 (.tup [])) r0 (.lst [.ref p0])=H13 at s13 e13 e13' ⊢
     have S13:=(s11.trans s12).trans s13
     dsimp only [bH,List.set]
     refine gb (fun σ' H'=>∃ (r:Addr) (ys:List V) (u11:Option V),σ'=[some (.ref sa),some (.ref p),some (.int (0+(i:Int))),some (.str nm),some (.ref a),some (.ref ln),some x1,some x2,some (.int wy),some (.ref l0),some (.ref r),u11,u12,u13]/\aA H10 H'/\H' r=some (.lst ys)/\Paired (gM H') ys (gB (fs.map c7))) ?nx7 fun N3 hN3=>?st7
     case st7=>
      have wl:=Paired.length pff
      refine ⟨_,rfl,a,rfl,⟨_,b_.of (S13 _ _ haf)⟩,l_ (K:=K) (a:=a) (xs:=xsf) (fun j σ' H'=>∃ (r:Addr) (ys:List V) (u11:Option V),σ'=[some (.ref sa),some (.ref p),some (.int (0+(i:Int))),some (.str nm),some (.ref a),some (.ref ln),some x1,some x2,some (.int wy),some (.ref l0),some (.ref r),u11,u12,u13]/\aA H10 H'/\H' r=some (.lst ys)/\Paired (gM H') ys (gB ((fs.take j).map c7))) ⟨r0,_,_,rfl,S13,e13,.cons ⟨p0,rfl,e13'⟩ .nil⟩ (fun j U H' _ ⟨_,_,_,_,e,_⟩=>b_.of (e _ _ haf)) ?_ ?_⟩
      ·rintro j y σ' H14 hj ⟨r,ys',u11',rfl,s14,hr14,py⟩
       obtain ⟨g,hg,b,rfl,hb⟩:=cH pff hj
       have mg':=List.mem_of_getElem? hg
       have jl:j<fs.length:=(List.getElem?_eq_some_iff.mp hg).1
       have fw:(gB ((fs.take j).map c7)).length≤81:=by
        have h1:=v8 (fs:=fs.take j) (fun f hf=>sm f (List.mem_of_mem_take hf)) _ (Nat.le_refl _)
        have h2:(fs.take j).length≤2:=by rw [List.length_take];omega
        exact Nat.le_trans h1 (Nat.pow_le_pow_right (by decide) h2)
       dsimp only [bH,List.set]
       refine ⟨_,rfl,_,rfl,r,.ref b,ys',gB ((fs.take j).map c7),g,rfl,hr14,py,⟨b,rfl,s14 _ _ hb⟩,sm g mg',by omega,fun l zs H15 hl15 pz s15=>⟨l,rfl,⟨_,bM.of hl15⟩,?_⟩⟩
       have zl:=Paired.length pz
       have zb:zs.length≤729:=by
        rw [zl,← List.length_map (f:=fun x:List Int×Int=>x.1++[x.2]),uT,jT]
        exact Nat.mul_le_mul fw (mG (sm g mg'))
       refine xH (K:=K) (a:=l) (xs:=zs) (fun m ws σ' H'=>(∃ u v,σ'=[u,v])/\aA H15 H'/\Paired (gM H') ws (((mQ (gB ((fs.take j).map c7)) (c7 g)).take m).map fun x=>x.1++[x.2])) (Nat.le_trans zb (by decide)) ⟨⟨none,none,rfl⟩,aA.refl _,.nil⟩ (fun m ws U H' _ z=>bM.of (z.2.1 _ _ hl15)) ?_ ?_
       ·rintro m z ws σ' H16 hm hw ⟨⟨u,v,rfl⟩,s16,pw⟩ M hM
        obtain ⟨x,hx,p',b',rfl,hp',hb'⟩:=cH pz hm
        have mx:=List.mem_of_getElem? hx
        have x1l:x.1.length≤10:=by
         obtain ⟨r',hr',hv⟩:=List.mem_flatMap.mp mx
         obtain ⟨v',_,rfl⟩:=List.mem_map.mp hv
         have:=Paired.length (gA.mp hr')
         rw [List.length_map,List.length_take] at this
         dsimp only
         omega
        refine ⟨p',_,rfl,b_.of (s16 _ _ hp'),rfl,_,_,rfl,_,_,rfl,rfl,?_⟩
        dsimp only [bH,List.set]
        refine ⟨_,rfl,_,rfl,(by show 1≤sizeLine;decide),fun p3 hp3=>?_⟩
        have t3:=aA.new (o:=.tup [.int x.2]) hp3
        refine zc (t3 _ _ (s16 _ _ hb')) ak ?_ fun p4 H17 s17 hp4=>hM _ _ _ (by rw [List.length_append,hw];rfl) ⟨⟨_,_,rfl⟩,(s16.trans t3).trans s17,?_⟩
        ·rw [List.length_map]
         exact Nat.le_trans (show x.1.length+1≤11 by omega) (by decide)
        ·rw [List.take_add_one,hx,List.map_append]
         refine Paired.snoc2 ⟨p4,rfl,?_⟩ (eV (t3.trans s17).tkT pw)
         rw [hp4]
         simp
       ·rintro ws σ' H16 hw ⟨_,s16,pw⟩
        rw [zl,List.take_length,uT] at pw
        refine ⟨by rw [hw];exact Nat.le_trans zb (by decide),fun r' hr'=>?_⟩
        have s17:=aA.new (o:=.lst ws) hr'
        refine ⟨r',ws,_,rfl,((s14.trans s15).trans s16).trans s17,ak,?_⟩
        rw [List.take_add_one,hg,List.map_append]
        show Paired (gM _) ws (gB ((fs.take j).map c7++[c7 g]))
        rw [ni]
        exact eV s17.tkT pw
      ·rintro σ' H14 ⟨r,ys',u11',rfl,s14,hr14,py⟩
       rw [wl,List.take_length] at py
       exact hN3 _ _ ⟨r,ys',u11',rfl,s14,hr14,py⟩
     rintro σ' H14 ⟨r,yr,u11',rfl,s14,hr14,py⟩
     have yl14:=Paired.length py
     have few:(gB (fs.map c7)).length≤729:=by
      have h1:=v8 sm _ (Nat.le_refl _)
      exact Nat.le_trans h1 (Nat.pow_le_pow_right (by decide) fl)
     refine gb (fun σ' H'=>∃ (q:Addr) (zs:List V),σ'=[some (.ref sa),some (.ref p),some (.int (0+(i:Int))),some (.str nm),some (.ref a),some (.ref ln),some x1,some x2,some (.int wy),some (.ref l0),some (.ref r),u11',some (.ref q),u13]/\aA H10 H'/\H' q=some (.lst zs)/\Paired (gM H') zs ((gB (fs.map c7)).filter (dN nm fs d1 d2))) ?nx8 fun N4 hN4=>?st8
     case st8=>
      refine ⟨_,rfl,r,rfl,⟨_,bM.of hr14⟩,?_⟩
      refine sU (K:=K) (a:=r) (xs:=yr) (fun j ws σ' H'=>(∃ u,σ'=[u,some x1,some x2,some (.str nm),some (.ref a)])/\aA H14 H'/\Paired (gM H') ws (((gB (fs.map c7)).take j).filter (dN nm fs d1 d2))) (Nat.le_trans (show yr.length≤729 by omega) (by decide)) ⟨⟨none,rfl⟩,aA.refl _,.nil⟩ (fun j ws U H' _ z=>bM.of (z.2.1 _ _ hr14)) ?_ ?_
      ·rintro j y ws σ' H15 hj ⟨⟨u,rfl⟩,s15,pw⟩ M hM
       obtain ⟨cc,hcc,b,rfl,hb⟩:=cH py hj
       have mc:=List.mem_of_getElem? hcc
       have S15:=s14.trans s15
       have bl:=Paired.length (gA.mp mc)
       rw [List.length_map] at bl
       dsimp only [bH,List.set]
       refine ⟨_,rfl,_,rfl,_,rfl,_,rfl,_,rfl,x1,x2,a,b,d1,d2,nm,xsf,fs,cc,rfl,rx1.same S15,rx2.same S15,T1,T2,S15 _ _ haf,cY pff S15.tkT,fl4,s15 _ _ hb,bl,fun H16 s16=>⟨_,rfl,?_⟩⟩
       have et:(gB (fs.map c7)).take (j+1)=(gB (fs.map c7)).take j++[cc]:=by rw [List.take_add_one,hcc];rfl
       cases pc:dN nm fs d1 d2 cc with
       | true=>
         refine cI rfl ⟨_,rfl,hM _ _ _ ⟨⟨_,rfl⟩,s15.trans s16,?_⟩ (by simp)⟩
         rw [et,List.filter_append,List.filter_cons_of_pos pc]
         exact Paired.snoc2 ⟨b,rfl,s16 _ _ (s15 _ _ hb)⟩ (eV s16.tkT pw)
       | false=>
         refine bZ rfl (hM _ _ _ ⟨⟨_,rfl⟩,s15.trans s16,?_⟩ (by omega))
         rw [et,List.filter_append,List.filter_cons_of_neg (by rw [pc];decide),List.filter_nil,List.append_nil]
         exact eV s16.tkT pw
      ·rintro ws σ' H15 hw ⟨_,s15,pw⟩
       rw [yl14,List.take_length] at pw
       refine ⟨Nat.le_trans (show ws.length≤729 by omega) (by decide),fun q hq=>?_⟩
       exact hN4 _ _ ⟨q,ws,rfl,(s14.trans s15).trans (aA.new hq),ak,eV (aA.new hq).tkT pw⟩
     rintro σ' H15 ⟨q,zs,rfl,s15,hq15,pz⟩
     have hd:(gB (fs.map c7)).find? (dN nm fs d1 d2)=((gB (fs.map c7)).filter (dN nm fs d1 d2)).head?:=(List.head?_filter ..).symm
     have due:k_ nm fs d1 d2=.list [.str "",match (gB (fs.map c7)).find? (dN nm fs d1 d2) with|none=>.none|some c=>.tuple (c.map .int)]:=by unfold k_;rw [if_pos tt]
     refine ⟨_,rfl,(by show 0≤sizeLine;decide),fun q1 hq1=>?_⟩
     have s16:aA H15 (upd H15 q1 (.lst [])):=aA.new hq1
     have e16:upd H15 q1 (.lst []) q1=some (.lst []):=ak
     generalize upd H15 q1 (.lst [])=H16 at s16 e16 ⊢
     have pz16:=eV s16.tkT pz
     generalize (gB (fs.map c7)).filter (dN nm fs d1 d2)=us at pz pz16 hd
     have rr:∀ {zs:List V} {us:List (List Int)},Paired (gM H16) zs us->bK K H16 zs (us.map fun c=>.tuple (c.map .int)):=by
      intro zs us p
      induction p with
      |nil=>exact .nil
      | cons a _ ih=>
        obtain ⟨b,rfl,hb⟩:=a
        exact .cons (.tup (b_.of hb) (ints_rep _)) ih
     have dps:∀ us:List (List Int),bI (us.map fun c=>PyData.tuple (c.map .int))≤1:=by
      intro us
      induction us with
      |nil=>simp [bI]
      | cons c t ih=>
        rw [List.map_cons]
        have:=(jx c).1
        simp only [bI,cu]
        omega
     refine ⟨_,[],.lst (bM.of (s16 _ _ hq15)) (rr pz16),.lst (bM.of e16) .nil,Nat.le_trans (dps us) (by decide),_,rfl,?_⟩
     cases us with
     | nil=>
       refine bZ (by decide) ⟨(by show 2≤sizeLine;decide),fun l hl=>hN _ _ ⟨l,_,_,_,rfl,?_,(s15.trans s16).trans (aA.new hl)⟩⟩
       rw [due,hd]
       exact .lst (bM.of ak) (.cons (.str _) (.cons .non .nil))
     | cons c t=>
       refine cI (by simp [eY]) ?_
       cases pz16 with
       |@cons x _ zs' _ hx tz=>
       obtain ⟨b,rfl,hb⟩:=hx
       refine ⟨_,rfl,q,_,_,_,rfl,rfl,bM.of (s16 _ _ hq15),aG (j:=0) rfl,(by show 2≤sizeLine;decide),fun l hl=>hN _ _ ⟨l,_,_,_,rfl,?_,(s15.trans s16).trans (aA.new hl)⟩⟩
       rw [due,hd]
       exact .lst (bM.of ak) (.cons (.str _) (.cons (.tup (b_.of (aA.new hl _ _ hb)) (ints_rep _)) .nil))
    ·rw [if_neg tt] at hl0
     have due:k_ nm fs d1 d2=.list [.str "badtest",.none]:=by unfold k_;rw [if_neg tt]
     refine ⟨_,rfl,(by show 0≤sizeLine;decide),fun q0 hq0=>?_⟩
     have s12:aA H11 (upd H11 q0 (.lst [])):=aA.new hq0
     have rl:∀ {H':Hp},H' l0=some (.lst [.str "badtest",.non])->Rep K H' (.ref l0) (.list [.str "badtest",.none]):=fun h=>.lst (bM.of h) (.cons (.str _) (.cons .non .nil))
     refine ⟨_,.list [],rl (s12 _ _ hl0),.lst (bM.of ak) .nil,by decide,_,rfl,bZ (by decide) ?_⟩
     exact hN _ _ ⟨l0,_,_,_,rfl,by rw [due];exact rl (s12 _ _ hl0),s11.trans s12⟩
   rintro σ' H12 ⟨l,v10,v11,v12,rfl,rl12,s12⟩
   have rx1:=rx1.same s12
   have rx2:=rx2.same s12
   have D12:=D10.mono s12
   have tb12:=tb10.same s12
   have haf:=s12 _ _ haf
   have pff:=cY pff s12.tkT
   clear s12 D10 tb10 fa10 s11 hl0
   have fo:∀ f∈fs,kj f:=fun f hf=>(sm f hf).ok
   have dsm:=vZ (nm:=nm) (d:=d1) (e:=d2) fl
   refine ⟨_,rfl,_,rfl,fun o dx ho hdx ndx=>?_⟩
   have s13:aA H12 (upd (upd H12 dx (.own o)) o (.ins C dx [])):=fun b u e=>by
    rw [aJ (aO e ho),aJ (aO e hdx)];exact e
   refine ⟨o,dx,a,nm,xsf,fs,rfl,ak,hnm,s13 _ _ haf,cY pff s13.tkT,fl4,fo,nd,fun H13 ka kp=>⟨rfl,?_⟩⟩
   have S13:aA H12 H13:=fun b u e=>kp b u (s13 _ _ e) (aO e ho)
   have rx1:=rx1.same S13
   have rx2:=rx2.same S13
   have rl13:=rl12.same S13
   have D13:=D12.mono S13
   have tb13:=tb12.same S13
   clear kp s13 S13 rl12 D12 tb12 ho hdx ndx haf pff
   dsimp only [bH,List.set]
   refine gb (fun σ' H'=>σ'=[some (.ref sa),some (.ref p),some (.int (0+(i:Int))),some (.str nm),some (.ref a),some (.ref ln),some x1,some x2,some (.int wy),some (.ref l),v10,v11,v12,some (.ref o)]/\Rep K H' x1 d1/\Rep K H' x2 d2/\Rep K H' (.ref l) (k_ nm fs d1 d2)/\dj C H' o nm a fs/\Dr H' p dc/\gK H' Tt qL lV) ?nxA fun N hN=>?stA
   case stA=>
    refine ⟨tb13.tab (List.mem_cons_self ..),fun c' H15 lm f' ctv hf'=>?_⟩
    have k15:=zX.keeps (o:=lamO f' (kla_obj "<lambda>" qL (jj n_) (mF n_) (dI n_) (En s.heap.objs.size) ((mg "__name__").getD .none) c' ctv)) lm hf'
    have tb15:=(tb13.lam lm).same (aA.new (o:=lamO f' (kla_obj "<lambda>" qL (jj n_) (mF n_) (dI n_) (En s.heap.objs.size) ((mg "__name__").getD .none) c' ctv)) hf')
    have rx1:=Rep.keeps k15 rx1
    have rx2:=Rep.keeps k15 rx2
    have rl15:=Rep.keeps k15 rl13
    have ka15:=dj.keeps k15 ka
    have D15:=Dr.keeps D13 k15
    refine ⟨f',c',ctv,x1,x2,o,a,d1,d2,nm,fs,rfl,ak,aA.new hf' _ _ lm.code,rfl,rfl,rfl,uV rx1 rx2 td1 td2 ka15 fl4 fo fun l3 H16 s16 rl3=>?_⟩
    refine ⟨_,rfl,.ref l3,.ref l,_,rfl,rl3,rl15.same s16,Nat.le_trans dsm.1 (by decide),Nat.le_trans dsm.2 (by decide),fun H18 s18=>⟨true,rfl,bZ rfl ?_⟩⟩
    have S18:=s16.trans s18
    exact hN _ _ ⟨rfl,rx1.same S18,rx2.same S18,rl15.same S18,ka15.same S18,D15.mono S18,tb15.same S18⟩
   clear rx1 rx2 rl13 ka D13 tb13
   rintro σ' H13 ⟨rfl,rx1,rx2,rl13,ka,D13,tb13⟩
   refine ⟨tb13.tab (List.mem_cons_of_mem _ (List.mem_cons_self ..)),fun c' H15 lm f' ctv hf'=>?_⟩
   have k15:=zX.keeps (o:=lamO f' (kla_obj "<lambda>" qL (jj oE) (mF oE) (dI oE) (En s.heap.objs.size) ((mg "__name__").getD .none) c' ctv)) lm hf'
   have tb15:=(tb13.lam lm).same (aA.new (o:=lamO f' (kla_obj "<lambda>" qL (jj oE) (mF oE) (dI oE) (En s.heap.objs.size) ((mg "__name__").getD .none) c' ctv)) hf')
   have rx1:=Rep.keeps k15 rx1
   have rx2:=Rep.keeps k15 rx2
   have rl15:=Rep.keeps k15 rl13
   have ka15:=dj.keeps k15 ka
   have D15:=Dr.keeps D13 k15
   refine ⟨f',c',ctv,x1,x2,o,a,d1,d2,nm,fs,rfl,ak,aA.new hf' _ _ lm.code,rfl,rfl,rfl,uV rx1 rx2 td1 td2 ka15 fl4 fo fun l3 H16 s16 rl3=>?_⟩
   refine ⟨_,rfl,.ref l3,.ref l,_,rfl,rl3,rl15.same s16,Nat.le_trans dsm.1 (by decide),Nat.le_trans dsm.2 (by decide),fun H18 s18=>⟨true,rfl,bZ rfl ?_⟩⟩
   have S18:=s16.trans s18
   exact ⟨⟨_,_,_,_,_,_,_,_,_,_,_,_,rfl⟩,D15.mono S18,tb15.same S18⟩
  ·rintro U H1 _
   exact k _
def bC (K:Frag) (n:Str) (i:Nat) (f:Addr):Prop:=nsIn K mainGlobals n=some (some (.ref f))/\∃ fd,gU K n n (top i) f fd
def HX (K:Frag) (C:Addr) (n q:Str) (st:Stmt) (f:Addr):Prop:=∃ fd,(findIn K (.ref C) n=some (some (.ref f))/\isFn K (.ref f)=true)/\gU K n q st f fd
theorem R9 {α:Type} {l:List α} (h:l.length=5):∃ a b c d e,l=[a,b,c,d,e]:=by
 match l,h with
 |[a,b,c,d,e],_=>exact ⟨a,b,c,d,e,rfl⟩
theorem bC.d1 (H:bC K n i f) (X:K.In h) (G:h.Ns mainGlobals mg) (x0:Str) (b:∀ (kV doc pm:Value) (an:Option Addr) (cdv ct u0:Value),bindArgs (fnOf n n (cR (top i)) (bW (top i)) (aC (top i)) .none kV doc pm an cdv ct) ⟨[u0],[]⟩=pure ([x0].zip [u0])):∃ fd,cO K mg n (top i) [x0] f fd:=by
 obtain ⟨a,fd,F⟩:=H
 exact ⟨fd,F,mg_of X G a,F.binds fun _ _ _ _ _ _ us hl=>by obtain ⟨_,rfl⟩:=J1 hl;exact b _ _ _ _ _ _ _⟩
theorem bC.d2 (H:bC K n i f) (X:K.In h) (G:h.Ns mainGlobals mg) (x0 x1:Str) (b:∀ (kV doc pm:Value) (an:Option Addr) (cdv ct u0 u1:Value),bindArgs (fnOf n n (cR (top i)) (bW (top i)) (aC (top i)) .none kV doc pm an cdv ct) ⟨[u0,u1],[]⟩=pure ([x0,x1].zip [u0,u1])):∃ fd,cO K mg n (top i) [x0,x1] f fd:=by
 obtain ⟨a,fd,F⟩:=H
 exact ⟨fd,F,mg_of X G a,F.binds fun _ _ _ _ _ _ us hl=>by obtain ⟨_,_,rfl⟩:=Aq hl;exact b _ _ _ _ _ _ _ _⟩
theorem bC.d3 (H:bC K n i f) (X:K.In h) (G:h.Ns mainGlobals mg) (x0 x1 x2:Str) (b:∀ (kV doc pm:Value) (an:Option Addr) (cdv ct u0 u1 u2:Value),bindArgs (fnOf n n (cR (top i)) (bW (top i)) (aC (top i)) .none kV doc pm an cdv ct) ⟨[u0,u1,u2],[]⟩=pure ([x0,x1,x2].zip [u0,u1,u2])):∃ fd,cO K mg n (top i) [x0,x1,x2] f fd:=by
 obtain ⟨a,fd,F⟩:=H
 exact ⟨fd,F,mg_of X G a,F.binds fun _ _ _ _ _ _ us hl=>by obtain ⟨_,_,_,rfl⟩:=CZ hl;exact b _ _ _ _ _ _ _ _ _⟩
theorem bC.d4 (H:bC K n i f) (X:K.In h) (G:h.Ns mainGlobals mg) (x0 x1 x2 x3:Str) (b:∀ (kV doc pm:Value) (an:Option Addr) (cdv ct u0 u1 u2 u3:Value),bindArgs (fnOf n n (cR (top i)) (bW (top i)) (aC (top i)) .none kV doc pm an cdv ct) ⟨[u0,u1,u2,u3],[]⟩=pure ([x0,x1,x2,x3].zip [u0,u1,u2,u3])):∃ fd,cO K mg n (top i) [x0,x1,x2,x3] f fd:=by
 obtain ⟨a,fd,F⟩:=H
 exact ⟨fd,F,mg_of X G a,F.binds fun _ _ _ _ _ _ us hl=>by obtain ⟨_,_,_,_,rfl⟩:=Sv hl;exact b _ _ _ _ _ _ _ _ _ _⟩
theorem bC.d5 {K:Frag} {h:Heap} (H:bC K n i f) (X:K.In h) (G:h.Ns mainGlobals mg) (x0 x1 x2 x3 x4:Str) (b:∀ (kV doc pm:Value) (an:Option Addr) (cdv ct u0 u1 u2 u3 u4:Value),bindArgs (fnOf n n (cR (top i)) (bW (top i)) (aC (top i)) .none kV doc pm an cdv ct) ⟨[u0,u1,u2,u3,u4],[]⟩=pure ([x0,x1,x2,x3,x4].zip [u0,u1,u2,u3,u4])):∃ fd,cO K mg n (top i) [x0,x1,x2,x3,x4] f fd:=by
 obtain ⟨a,fd,F⟩:=H
 exact ⟨fd,F,mg_of X G a,F.binds fun _ _ _ _ _ _ us hl=>by obtain ⟨_,_,_,_,_,rfl⟩:=R9 hl;exact b _ _ _ _ _ _ _ _ _ _ _⟩
noncomputable def z7 (B:String):List Value:=[.type B,.type "Exception",.type "BaseException",.type "object"]
theorem zx (self:Value):refuseLoop self "__setattr__" (z7 "ValueError")=pure ():=by kernel_rfl
theorem Hw (self:Value):refuseLoop self "__setattr__" (z7 "LookupError")=pure ():=by kernel_rfl
noncomputable def Hq (K:Frag) (C:Addr) (rs:List Addr) (bm:List Value):Bool:=match clsIn K C with
 |some cd=>cd.hasDict && (cd.mro == rs.map Value.ref++bm)
 |none=>false
theorem lX (h1:iU K C B n=true) (h2:findIn K (.ref C) "__setattr__" = some (some (.builtin "object.__setattr__"))) (h3:Hq K C rs (z7 B)=true) (h4:keepIn K (.ref C)=true) (h5:typeIn K (.ref C)=some (.type "type"))
 (hr:∀ self,refuseLoop self "__setattr__" (z7 B)=pure ()):jn K C B n:=by
 refine ⟨h1,h2,?_,h4,h5⟩
 unfold Hq at h3
 split at h3
 ·rename_i cd hc
  rw [Bool.and_eq_true,beq_iff_eq] at h3
  refine ⟨cd,rs,z7 B,hc,h3.1,h3.2,by simp [z7],hr,?_⟩
  unfold z7
  simp
 ·cases h3
theorem GR {l:PySem.W.OpenLaw} {w:World} {K:PySem.W.Frag} {h:Heap} {mg:Str->Option Value} {fa fLa Tt cc fB fP fO fW fWs fS fFr fIs fOd fNu fLe fTr fPa fDe fTe fLo fSo fTo fBt fLp fSf fAp fPt fA fNm fNn fNf fIw fNb fLf fCp fIt fNt fLw fPs fPl fPd fCn fTn tW tS qK fKI TdK d0K fPo qS qV qM fSE TS qT fiT TdT:Addr} (X:K.In h) (G:h.Ns mainGlobals mg) (hfa:mg "law" = some (.ref fa))
 {odLa anLa odcc odKI anKI odTK odSE anSE odTS odiT aniT odTT:Option Addr} {slLa slcc slKI slTK slSE slTS sliT slTT:Array (Option Value)} {t_MOST_LETTERS t_MOST_FIELDS t_LIMIT t_MOST_PARTS t_MOST_DEEP nTK nTS nTT:Nat} {ocLa kVLa dcLa pmLa ctLa w0 w1 w2 w3 w4 w5 w6 w7 w8 w9 w10 w12 w13 w14 w15 w16 w17 w18 Qf ocKI kVKI dcKI pmKI cdKI ctKI ocTK ocSE kVSE dcSE pmSE cdSE ctSE dS1 dS2 ocTS ociT kViT dciT pmiT cdiT ctiT diT ocTT:Value}
 (aLa:PySem.W.nsIn K mainGlobals "law" = some (some (.ref fLa)))
 (lLa:K.lookup fLa=some ⟨ocLa,odLa,.func (PySem.W.fnOf "law" "law" (cR (top 61)) (bW (top 61)) (aC (top 61)) .none kVLa dcLa pmLa anLa (.ref cc) ctLa),slLa⟩)
 (lcc:K.lookup cc=some ⟨Qf,odcc,.fields #[w0,w1,w2,w3,w4,w5,w6,w7,w8,w9,w10,.ref Tt,w12,w13,w14,w15,w16,w17,w18],slcc⟩)
 (lTt:K.lookup Tt=none)
 (tb:L2.tabIn K cc=some Tt)
 (cLa:PySem.W.codeIn K (.ref cc) "law" = true)
 (hB:bC K "_law_begin" 37 fB)
 (hP:bC K "_law_pick" 38 fP)
 (hO:bC K "_law_of" 39 fO)
 (hW:bC K "_law_word" 42 fW)
 (hWs:bC K "_law_words" 43 fWs)
 (hS:bC K "_law_same" 41 fS)
 (hFr:bC K "_law_far" 40 fFr)
 (hIs:bC K "_law_is_name" 44 fIs)
 (hOd:bC K "_law_odd_name" 46 fOd)
 (hNu:bC K "_law_number" 47 fNu)
 (hLe:bC K "_law_leaf" 48 fLe)
 (hTr:bC K "_law_tree" 49 fTr)
 (hPa:bC K "_law_parts" 50 fPa)
 (hDe:bC K "_law_deep" 51 fDe)
 (hTe:bC K "_law_test" 52 fTe)
 (hLo:bC K "_law_leaf_ok" 53 fLo)
 (hSo:bC K "_law_shape_ok" 54 fSo)
 (hTo:bC K "_law_test_ok" 55 fTo)
 (hBt:bC K "_law_bent_test" 56 fBt)
 (hLp:bC K "_law_passes" 57 fLp)
 (hSf:bC K "_law_small_fields" 58 fSf)
 (hAp:bC K "_law_all_pairs" 59 fAp)
 (hPt:bC K "_law_parts_them" 60 fPt)
 (hA:bC K "_law_ask" 45 fA)
 (hNm:bC K "is_name" 14 fNm)
 (hNn:bC K "need_name" 15 fNn)
 (hNf:bC K "need_fields" 16 fNf)
 (hIw:bC K "is_word" 24 fIw)
 (hNb:bC K "is_number" 25 fNb)
 (hLf:bC K "is_leaf" 26 fLf)
 (hCp:bC K "count_parts" 27 fCp)
 (hIt:bC K "is_test" 28 fIt)
 (hNt:bC K "need_test" 29 fNt)
 (hLw:bC K "leaves_within" 30 fLw)
 (hPs:bC K "passes" 31 fPs)
 (hPl:bC K "passes_leaf" 32 fPl)
 (hPd:bC K "parted" 33 fPd)
 (hCn:bC K "corners" 34 fCn)
 (hTn:bC K "turns" 35 fTn)
 (z_len:PySem.W.nsIn K mainGlobals "len" = some none)
 (z_range:PySem.W.nsIn K mainGlobals "range" = some none)
 (z_list:PySem.W.nsIn K mainGlobals "list" = some none)
 (z_tuple:PySem.W.nsIn K mainGlobals "tuple" = some none)
 (z_str:PySem.W.nsIn K mainGlobals "str" = some none)
 (z_bool:PySem.W.nsIn K mainGlobals "bool" = some none)
 (z_int:PySem.W.nsIn K mainGlobals "int" = some none)
 (z_min:PySem.W.nsIn K mainGlobals "min" = some none)
 (z_repr:PySem.W.nsIn K mainGlobals "repr" = some none)
 (z_all:PySem.W.nsIn K mainGlobals "all" = some none)
 (z_any:PySem.W.nsIn K mainGlobals "any" = some none)
 (z_isinstance:PySem.W.nsIn K mainGlobals "isinstance" = some none)
 (z_sum:PySem.W.nsIn K mainGlobals "sum" = some none)
 (z_max:PySem.W.nsIn K mainGlobals "max" = some none)
 (z_ValueError:PySem.W.nsIn K mainGlobals "ValueError" = some none)
 (z_enumerate:PySem.W.nsIn K mainGlobals "enumerate" = some none)
 (z_sorted:PySem.W.nsIn K mainGlobals "sorted" = some none)
 (i_MOST_LETTERS:PySem.W.nsIn K mainGlobals "MOST_LETTERS" = some (some (.int 8 t_MOST_LETTERS)))
 (i_MOST_FIELDS:PySem.W.nsIn K mainGlobals "MOST_FIELDS" = some (some (.int 4 t_MOST_FIELDS)))
 (i_LIMIT:PySem.W.nsIn K mainGlobals "LIMIT" = some (some (.int 999999 t_LIMIT)))
 (i_MOST_PARTS:PySem.W.nsIn K mainGlobals "MOST_PARTS" = some (some (.int 15 t_MOST_PARTS)))
 (i_MOST_DEEP:PySem.W.nsIn K mainGlobals "MOST_DEEP" = some (some (.int 5 t_MOST_DEEP)))
 (a_tW:PySem.W.nsIn K mainGlobals "WITHIN" = some (some (.ref tW)))
 (ktW:PyProof.Rows.KTD.tabLook PyProof.Rows.KTD.flatLooks (fun b=>K.lookup b) tW dW=true)
 (a_tS:PySem.W.nsIn K mainGlobals "SIGN_OF" = some (some (.ref tS)))
 (ktS:PyProof.Rows.KTD.tabLook PyProof.Rows.KTD.flatLooks (fun b=>K.lookup b) tS dS=true)
 (a_qK:PySem.W.nsIn K mainGlobals "Kind" = some (some (.ref qK)))
 (pgK:PySem.W.plainGet K qK Str.empty=true)
 (hdK:PySem.W.hasDictIn K qK=true)
 (poK:PySem.W.plainOver K qK=true)
 (saK:PySem.W.findIn K (.ref qK) "__setattr__" = some (some (.builtin "object.__setattr__")))
 (mkK:PySem.W.makesIn K qK=true)
 (kcK:PySem.W.keepIn K (.ref qK)=true)
 (nK_name:PySem.W.findIn K (.ref qK) "name" = some none)
 (nK_fields:PySem.W.findIn K (.ref qK) "fields" = some none)
 (aKI:PySem.W.findIn K (.ref qK) "__init__" = some (some (.ref fKI)))
 (lKI:K.lookup fKI=some ⟨ocKI,odKI,.func (PySem.W.fnOf "__init__" "Kind.__init__" (cR (kM 0)) (bW (kM 0)) (aC (kM 0)) (.ref TdK) kVKI dcKI pmKI anKI cdKI ctKI),slKI⟩)
 (cKI:PySem.W.codeIn K cdKI "Kind.__init__" = true)
 (kKI:PySem.W.keepIn K (.ref fKI)=true)
 (iKI:PySem.W.isFn K (.ref fKI)=true)
 (lTK:K.lookup TdK=some ⟨ocTK,odTK,.seq #[.ref d0K] nTK,slTK⟩)
 (hPo:HX K qK "place_of" "Kind.place_of" (kM 3) fPo)
 (a_qS:PySem.W.nsIn K mainGlobals "ScribeError" = some (some (.ref qS)))
 (a_qV:PySem.W.nsIn K mainGlobals "BadValue" = some (some (.ref qV)))
 (a_qM:PySem.W.nsIn K mainGlobals "Missing" = some (some (.ref qM)))
 (x1S:iU K qS "ValueError" "ValueError.__new__" = true)
 (x2S:PySem.W.findIn K (.ref qS) "__setattr__" = some (some (.builtin "object.__setattr__")))
 (x3S:Hq K qS [qS] (z7 "ValueError")=true)
 (x4S:PySem.W.keepIn K (.ref qS)=true)
 (x5S:PySem.W.typeIn K (.ref qS)=some (.type "type"))
 (x1V:iU K qV "ValueError" "ValueError.__new__" = true)
 (x2V:PySem.W.findIn K (.ref qV) "__setattr__" = some (some (.builtin "object.__setattr__")))
 (x3V:Hq K qV [qV,qS] (z7 "ValueError")=true)
 (x4V:PySem.W.keepIn K (.ref qV)=true)
 (x5V:PySem.W.typeIn K (.ref qV)=some (.type "type"))
 (x1M:iU K qM "LookupError" "LookupError.__new__" = true)
 (x2M:PySem.W.findIn K (.ref qM) "__setattr__" = some (some (.builtin "object.__setattr__")))
 (x3M:Hq K qM [qM] (z7 "LookupError")=true)
 (x4M:PySem.W.keepIn K (.ref qM)=true)
 (x5M:PySem.W.typeIn K (.ref qM)=some (.type "type"))
 (aSE:PySem.W.findIn K (.ref qS) "__init__" = some (some (.ref fSE)))
 (lSE:K.lookup fSE=some ⟨ocSE,odSE,.func (PySem.W.fnOf "__init__" "ScribeError.__init__" (cR Hh) (bW Hh) (aC Hh) (.ref TS) kVSE dcSE pmSE anSE cdSE ctSE),slSE⟩)
 (cSE:PySem.W.codeIn K cdSE "ScribeError.__init__" = true)
 (kSE:PySem.W.keepIn K (.ref fSE)=true)
 (lTS:K.lookup TS=some ⟨ocTS,odTS,.seq #[dS1,dS2] nTS,slTS⟩)
 (fc:PySem.W.findCls K (.type "ValueError") (.type "type") "__init__" = some (.val (.builtin "ValueError.__init__")))
 (sg:PySem.W.specialIn K (.ref qS) "__getattribute__" = some (some (.builtin "type.__getattribute__")))
 (rd1:PySem.W.readsIn K qS (.type "type")=true)
 (rd2:PySem.W.findCls K (.ref qS) (.type "type") "__init__" = some (.val (.ref fSE)))
 (a_qT:PySem.W.nsIn K mainGlobals "BadTest" = some (some (.ref qT)))
 (x1T:iU K qT "ValueError" "ValueError.__new__" = true)
 (x2T:PySem.W.findIn K (.ref qT) "__setattr__" = some (some (.builtin "object.__setattr__")))
 (x3T:Hq K qT [qT,qS] (z7 "ValueError")=true)
 (x4T:PySem.W.keepIn K (.ref qT)=true)
 (x5T:PySem.W.typeIn K (.ref qT)=some (.type "type"))
 (tkT:PySem.W.takerIn K qT "word" = some none)
 (aiT:PySem.W.findIn K (.ref qT) "__init__" = some (some (.ref fiT)))
 (liT:K.lookup fiT=some ⟨ociT,odiT,.func (PySem.W.fnOf "__init__" "BadTest.__init__" (cR iy) (bW iy) (aC iy) (.ref TdT) kViT dciT pmiT aniT cdiT ctiT),sliT⟩)
 (ciT:PySem.W.codeIn K cdiT "BadTest.__init__" = true)
 (kiT:PySem.W.keepIn K (.ref fiT)=true)
 (biT:PySem.W.findIn K (.ref qT) "__init__" = some (some (.ref fiT)))
 (niT:PySem.W.isFn K (.ref fiT)=true)
 (lTT:K.lookup TdT=some ⟨ocTT,odTT,.seq #[diT] nTT,slTT⟩)
 (mvT:PySem.W.mroIn K qT (.ref qV)=some false)
 (msT:PySem.W.mroIn K qT (.ref qS)=some true)
 (g1T:PySem.W.findIn K (.ref qT) "__getattribute__" = some (some (.builtin "BaseException.__getattribute__")))
 (g2T:PySem.W.findIn K (.ref qT) "__getattr__" = some none)
 (g3T:PySem.W.hasDictIn K qT=true)
 (g4T:PySem.W.findIn K (.ref qT) "word" = some none)
 (g5T:PySem.W.mroIn K qT (.type "BaseException")=some true) :
 ∃ (fd:FuncData) (sp:Sp),(∀ (s:Shared) (u:Value),BindsTo s fd ⟨[u],[]⟩ [("_law_script",u)])/\(∀ T∈[Tt],K.lookup T=none/\∃ c,L2.tabIn K c=some T)/\
  (∀ (H:Hp) (a:Addr) (ns:List Int),ns.length≤63->(∀ T∈[Tt],H T=some (.tbl #[]))->bM K H a (ns.map V.int)->sp [.ref a] H (fun v _=>v=.bl true) fun _ _ _=>False)/\
  ∀ base:Heap,K.In base->base.Ns mainGlobals mg->(∀ T∈[Tt],base.BuiltinsAt mg T/\mainGlobals≠T)->aR l.prog w K mg base bQ 15 fa fd ["_law_script"] sp:=by
 have e:=hfa.symm.trans (PySem.W.mg_of X G aLa)
 cases e
 have T:Txt K mg:=⟨PySem.W.mg_none_of X G z_len,PySem.W.mg_none_of X G z_range,PySem.W.mg_none_of X G z_list,PySem.W.mg_none_of X G z_tuple,PySem.W.mg_none_of X G z_str,PySem.W.mg_none_of X G z_bool,PySem.W.mg_none_of X G z_int,PySem.W.mg_none_of X G z_min,PySem.W.mg_none_of X G z_repr,PySem.W.mg_none_of X G z_all,PySem.W.mg_none_of X G z_any,PySem.W.mg_none_of X G z_isinstance⟩
 have TE:G3 K mg:=⟨PySem.W.mg_none_of X G z_ValueError,fc⟩
 obtain ⟨_,DB⟩:=hB.d1 (mg:=mg) X G "_law_script" fun _ _ _ _ _ _ _=>rfl
 obtain ⟨_,DP⟩:=hP.d2 (mg:=mg) X G "_law_d" "_law_many" fun _ _ _ _ _ _ _ _=>rfl
 obtain ⟨_,DO⟩:=hO.d2 (mg:=mg) X G "_law_d" "_law_things" fun _ _ _ _ _ _ _ _=>rfl
 obtain ⟨_,DW⟩:=hW.d1 (mg:=mg) X G "_law_d" fun _ _ _ _ _ _ _=>rfl
 obtain ⟨_,DWs⟩:=hWs.d2 (mg:=mg) X G "_law_d" "_law_many" fun _ _ _ _ _ _ _ _=>rfl
 obtain ⟨_,DS⟩:=hS.d2 (mg:=mg) X G "_law_found" "_law_due" fun _ _ _ _ _ _ _ _=>rfl
 obtain ⟨_,DFr⟩:=hFr.d1 (mg:=mg) X G "_law_d" fun _ _ _ _ _ _ _=>rfl
 obtain ⟨_,DIs⟩:=hIs.d1 (mg:=mg) X G "_law_text" fun _ _ _ _ _ _ _=>rfl
 obtain ⟨_,DOd⟩:=hOd.d2 (mg:=mg) X G "_law_d" "_law_text" fun _ _ _ _ _ _ _ _=>rfl
 obtain ⟨_,DNu⟩:=hNu.d1 (mg:=mg) X G "_law_d" fun _ _ _ _ _ _ _=>rfl
 obtain ⟨_,DLe⟩:=hLe.d3 (mg:=mg) X G "_law_d" "_law_names" "_law_kinds" fun _ _ _ _ _ _ _ _ _=>rfl
 obtain ⟨_,DTr⟩:=hTr.d4 (mg:=mg) X G "_law_d" "_law_deep_here" "_law_names" "_law_kinds" fun _ _ _ _ _ _ _ _ _ _=>rfl
 obtain ⟨_,DPa⟩:=hPa.d1 (mg:=mg) X G "_law_test_here" fun _ _ _ _ _ _ _=>rfl
 obtain ⟨_,DDe⟩:=hDe.d1 (mg:=mg) X G "_law_test_here" fun _ _ _ _ _ _ _=>rfl
 obtain ⟨_,DTe⟩:=hTe.d3 (mg:=mg) X G "_law_d" "_law_names" "_law_kinds" fun _ _ _ _ _ _ _ _ _=>rfl
 obtain ⟨_,DLo⟩:=hLo.d1 (mg:=mg) X G "_law_test_here" fun _ _ _ _ _ _ _=>rfl
 obtain ⟨_,DSo⟩:=hSo.d1 (mg:=mg) X G "_law_test_here" fun _ _ _ _ _ _ _=>rfl
 obtain ⟨_,DTo⟩:=hTo.d1 (mg:=mg) X G "_law_test_here" fun _ _ _ _ _ _ _=>rfl
 obtain ⟨_,DBt⟩:=hBt.d2 (mg:=mg) X G "_law_d" "_law_test_here" fun _ _ _ _ _ _ _ _=>rfl
 obtain ⟨_,DLp⟩:=hLp.d4 (mg:=mg) X G "_law_test_here" "_law_title" "_law_fields" "_law_values" fun _ _ _ _ _ _ _ _ _ _=>rfl
 obtain ⟨_,DSf⟩:=hSf.d1 (mg:=mg) X G "_law_d" fun _ _ _ _ _ _ _=>rfl
 obtain ⟨_,DAp⟩:=hAp.d2 (mg:=mg) X G "_law_rows" "_law_field" fun _ _ _ _ _ _ _ _=>rfl
 obtain ⟨_,DPt⟩:=hPt.d5 (mg:=mg) X G "_law_one" "_law_other" "_law_title" "_law_fields" "_law_row" fun _ _ _ _ _ _ _ _ _ _ _=>rfl
 obtain ⟨_,DA⟩:=hA.d1 (mg:=mg) X G "_law_ask_here" fun _ _ _ _ _ _ _=>rfl
 obtain ⟨_,DNm⟩:=hNm.d1 (mg:=mg) X G "text" fun _ _ _ _ _ _ _=>rfl
 obtain ⟨_,DNn⟩:=hNn.d1 (mg:=mg) X G "text" fun _ _ _ _ _ _ _=>rfl
 obtain ⟨_,DNf⟩:=hNf.d1 (mg:=mg) X G "fields" fun _ _ _ _ _ _ _=>rfl
 obtain ⟨_,DIw⟩:=hIw.d1 (mg:=mg) X G "thing" fun _ _ _ _ _ _ _=>rfl
 obtain ⟨_,DNb⟩:=hNb.d1 (mg:=mg) X G "thing" fun _ _ _ _ _ _ _=>rfl
 obtain ⟨_,DLf⟩:=hLf.d1 (mg:=mg) X G "test" fun _ _ _ _ _ _ _=>rfl
 obtain ⟨_,DCp⟩:=hCp.d2 (mg:=mg) X G "thing" "deep" fun _ _ _ _ _ _ _ _=>rfl
 obtain ⟨_,DIt⟩:=hIt.d1 (mg:=mg) X G "test" fun _ _ _ _ _ _ _=>rfl
 obtain ⟨_,DNt⟩:=hNt.d1 (mg:=mg) X G "test" fun _ _ _ _ _ _ _=>rfl
 obtain ⟨_,DLw⟩:=hLw.d1 (mg:=mg) X G "test" fun _ _ _ _ _ _ _=>rfl
 obtain ⟨_,DPs⟩:=hPs.d3 (mg:=mg) X G "test" "kind" "values" fun _ _ _ _ _ _ _ _ _=>rfl
 obtain ⟨_,DPl⟩:=hPl.d3 (mg:=mg) X G "leaf" "kind" "values" fun _ _ _ _ _ _ _ _ _=>rfl
 obtain ⟨_,DPd⟩:=hPd.d3 (mg:=mg) X G "one" "other" "kind" fun _ _ _ _ _ _ _ _ _=>rfl
 obtain ⟨_,DCn⟩:=hCn.d2 (mg:=mg) X G "found" "kind" fun _ _ _ _ _ _ _ _=>rfl
 obtain ⟨_,DTn⟩:=hTn.d4 (mg:=mg) X G "found" "field" "low" "high" fun _ _ _ _ _ _ _ _ _ _=>rfl
 have FSE:lg K "__init__" "ScribeError.__init__" Hh (.ref TS) fSE _:=⟨⟨_,_,_,_,_,_,_,_,_,rfl,lSE,cSE⟩,kSE⟩
 have bSE:=FSE.binds (ps:=["self","words","word"]) (ds:=[]) lTS rfl fun kV doc pm an cdv ct s us hT hl=>(by rw [List.append_nil] at hl ⊢;obtain ⟨_,_,_,rfl⟩:=CZ hl;exact BindsTo.of_defaults rfl hT rfl rfl rfl)
 have MS:K9 K mg "ScribeError" qS fSE:=⟨PySem.W.mg_of X G a_qS,sg,⟨_,rd1,rd2⟩,kSE⟩
 have FiT:lg K "__init__" "BadTest.__init__" iy (.ref TdT) fiT _:=⟨⟨_,_,_,_,_,_,_,_,_,rfl,liT,ciT⟩,kiT⟩
 have bbT:=FiT.binds (ps:=["self","words"]) (ds:=[]) lTT rfl fun kV doc pm an cdv ct s us hT hl=>(by rw [List.append_nil] at hl ⊢;obtain ⟨_,_,rfl⟩:=Aq hl;exact BindsTo.of_defaults rfl hT rfl rfl rfl)
 have ECT:Ah K qT:=⟨lX x1T x2T x3T x4T x5T zx,tkT⟩
 have WCT:Jl K mg "BadTest" qT fiT _:=⟨bbT,PySem.W.mg_of X G a_qT,ECT,biT,niT⟩
 have TA:Mh K mg qV qS qM:=⟨PySem.W.mg_none_of X G z_str,PySem.W.mg_of X G a_qV,PySem.W.mg_of X G a_qS,PySem.W.mg_of X G a_qM,⟨_,_,lX x1V x2V x3V x4V x5V zx⟩,⟨_,_,lX x1S x2S x3S x4S x5S zx⟩,⟨_,_,lX x1M x2M x3M x4M x5M Hw⟩⟩
 have FKI:lg K "__init__" "Kind.__init__" (kM 0) (.ref TdK) fKI _:=⟨⟨_,_,_,_,_,_,_,_,_,rfl,lKI,cKI⟩,kKI⟩
 have bKI:=FKI.binds (ps:=["self","name","fields"]) (ds:=[]) lTK rfl fun kV doc pm an cdv ct s us hT hl=>yN rfl kV doc pm an cdv ct s us hT hl
 have MkK:Mk K qK fKI:=⟨mkK,aKI,iKI,kcK⟩
 obtain ⟨fdPo,aPo,FPo⟩:=hPo
 have bPo:=FPo.binds (ps:=["self","field"]) fun _ _ _ _ _ _ us hl=>by obtain ⟨_,_,rfl⟩:=Aq hl;rfl
 have MPo:MD K qK "place_of" "Kind.place_of" (kM 3) ["self","field"] fPo _:=⟨⟨aPo.1,aPo.2,FPo.kp⟩,FPo,bPo⟩
 refine ⟨PySem.W.fnOf "law" "law" (cR (top 61)) (bW (top 61)) (aC (top 61)) .none kVLa dcLa pmLa anLa (.ref cc) ctLa,Cq K Tt #[],fun s v=>.of_eq rfl,fun T m=>by cases List.mem_singleton.mp m;exact ⟨lTt,cc,tb⟩,fun H a ns hl hT hS=>⟨a,ns,rfl,hS,hl,hT _ (List.mem_singleton.mpr rfl),fun _=>rfl⟩,fun base kb0' nsb hbt=>?_⟩
 obtain ⟨hbb,hg⟩:=hbt Tt (List.mem_singleton.mpr rfl)
 have TK':qC mg:=⟨⟨_,PySem.W.mg_of X G i_MOST_LETTERS⟩,⟨_,PySem.W.mg_of X G i_MOST_FIELDS⟩,⟨_,PySem.W.mg_of X G i_LIMIT⟩⟩
 have TT:MF mg:=⟨⟨_,PySem.W.mg_of X G i_MOST_PARTS⟩,⟨_,PySem.W.mg_of X G i_MOST_DEEP⟩⟩
 have TB:tM K mg tW tS:=⟨PySem.W.mg_of X G a_tW,PySem.W.mg_of X G a_tS,ktW,ktS⟩
 have hsum:=PySem.W.mg_none_of X G z_sum
 have hmax:=PySem.W.mg_none_of X G z_max
 have hen:=PySem.W.mg_none_of X G z_enumerate
 have hso:=PySem.W.mg_none_of X G z_sorted
 have KC:KCls K mg qK:=⟨⟨pgK,hdK,poK,saK⟩,nK_name,nK_fields,PySem.W.mg_of X G a_qK⟩
 have BT:yM K qT qV qS:=⟨mvT,msT,g1T,g2T,g3T,g4T,g5T⟩
 have GCp:=Mx (P:=l.prog) (w:=w) (base:=base) DCp T hsum TK' TB DNm DIw DNb DLf 5 (by decide)
 have GIt:=L_ (P:=l.prog) (w:=w) (base:=base) DIt.F TT DCp GCp
 have GBT:=sX (P:=l.prog) (w:=w) (base:=base) (CX:=bQ) FiT TE FSE bSE MS
 have GNt:=M8 (P:=l.prog) (w:=w) (base:=base) DNt.F DIt GIt WCT GBT
 have GPo:=yj (P:=l.prog) (w:=w) (base:=base) FPo T hen KC
 have GPl:=Ko (P:=l.prog) (w:=w) (base:=base) DPl.F KC MPo GPo
 have GPs:=JF (P:=l.prog) (w:=w) (base:=base) DPs DPl GPl 5
 have GPd:=N_ (P:=l.prog) (w:=w) (base:=base) DPd.F T hso TB KC DNt GNt DLw DCn DTn DPs GPs
 have GW:=qG (P:=l.prog) (w:=w) (base:=base) DW.F T DP DO
 have GTe:=Mv (P:=l.prog) (w:=w) (base:=base) DTe.F T hsum DP DO DNu DLe DTr DPa
 have GBt:=I_ (P:=l.prog) (w:=w) (base:=base) DBt T DP DO DW DFr DOd 5
 have GSo:=JK (P:=l.prog) (w:=w) (base:=base) DSo T DIs DLo 8
 have GTo:=JV (P:=l.prog) (w:=w) (base:=base) DTo.F DSo GSo DDe (BW DDe hmax 8) DPa (zE DPa hsum 8)
 have GKI:=Am (P:=l.prog) (w:=w) (base:=base) FKI T TK' KC DNm DNn DNf
 have GA:=Dd (P:=l.prog) (w:=w) (base:=base) (CX:=bQ) (k:=13) DA.F TA
 exact Hg lLa cLa (BR kb0' tb) hbb hg trivial (fun lp m=>rfl) T KC BT DB DP DW GW DS DSf (Jq DSf.F T DP DO DW DWs) DTe GTe DBt GBt DTo GTo DDe (BW DDe hmax 8) DPa (zE DPa hsum 8) DAp (Ks DAp.F T) DPt (J6 DPt.F T DLp) DPd GPd MkK GKI bKI GA DA.mg DA.F.kp DA.b
end Cm
open PySem PySem.W PyProof.Rows
set_option maxRecDepth 100000 in
set_option maxHeartbeats 0 in
theorem PySem.Challenge.cw_lanescribe_k07_whole_tests_held_against_holds : PySem.Challenge.rw_lanescribe_k07_whole_tests_held_against.Holds := by
 w_on
 refine Kd.head ?hw (by rfl) (by rfl) (by rfl) ?hc
 (case hw=>w_witness2)
 k_fill
 refine L2.xV (l:=PySem.Challenge.rw_lanescribe_k07_whole_tests_held_against) (n:=63) (k:=15) (x:="_law_script") (CX:=fun _=>L2.bQ) rfl (by decide) rfl ⟨rfl,by decide,by decide,rfl⟩ (fun w h Y=>km_in_of Y) (fun w h Y=>km_tabs_of Y) ?F (fun _ _ _ _ _ z=>z)
 case F=>
  intro w mg fa h KX G hmg
  refine' Cm.GR KX G hmg ?_ ?_ ?_ ?_ ?_ ?_ ?_ ?_ ?_ ?_ ?_ ?_ ?_ ?_ ?_ ?_ ?_ ?_ ?_ ?_ ?_ ?_ ?_ ?_ ?_ ?_ ?_ ?_ ?_ ?_ ?_ ?_ ?_ ?_ ?_ ?_ ?_ ?_ ?_ ?_ ?_ ?_ ?_ ?_ ?_ ?_ ?_ ?_ ?_ ?_ ?_ ?_ ?_ ?_ ?_ ?_ ?_ ?_ ?_ ?_ ?_ ?_ ?_ ?_ ?_ ?_ ?_ ?_ ?_ ?_ ?_ ?_ ?_ ?_ ?_ ?_ ?_ ?_ ?_ ?_ ?_ ?_ ?_ ?_ ?_ ?_ ?_ ?_ ?_ ?_ ?_ ?_ ?_ ?_ ?_ ?_ ?_ ?_ ?_ ?_ ?_ ?_ ?_ ?_ ?_ ?_ ?_ ?_ ?_ ?_ ?_ ?_ ?_ ?_ ?_ ?_ ?_ ?_ ?_ ?_ ?_ ?_ ?_ ?_ ?_ ?_ ?_ ?_ ?_ ?_ ?_ ?_ ?_ ?_ ?_
  any_goals first|k_is|exact ⟨by k_is,_,⟨_,_,_,_,_,_,_,_,_,rfl,by k_is,by k_is⟩,by k_is⟩|exact ⟨_,⟨by k_is,by k_is⟩,⟨_,_,_,_,_,_,_,_,_,rfl,by k_is,by k_is⟩,by k_is⟩|skip
  any_goals first|kernel_rfl|decide|(intros;kernel_rfl)|skip
